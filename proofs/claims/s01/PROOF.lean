import PyProof.Rows.All
import Wide.All
import OpenK.AllK
import Wide.FinOn
import PyProof.EqAt
import PyProof.EqKinds
import PyProof.TupleCall
import KE.BitLaws
import Open.SpecLaws
import KE.OsHead
import KE.OsGo
import PySem.Challenge.RW_streambalance_s01_answers
set_option Elab.async false
set_option linter.all false
set_option bootstrap.genMatcherCode false
set_option compiler.extract_closed false
set_option maxRecDepth 100000
set_option maxHeartbeats 4000000
local macro_rules | `(tactic| walk_at "b") => `(tactic| (intro _ _ _ _ _ _ us hl;repeat' first | exact rfl | cases hl | rcases us with _ | ⟨_,us⟩))
local macro_rules | `(tactic| walk_at "l") => `(tactic| (intro _ _ h;repeat' first | (rw [h.1];rfl) | obtain⟨_,h⟩:=h))
local macro_rules | `(tactic| walk_at "m") => `(tactic| (intro _ _ _ h;repeat' first | (rw [h.1];rfl) | obtain⟨_,h⟩:=h))
local macro_rules | `(tactic| walk_at "p") => `(tactic| (intro _ _ h;repeat' obtain⟨_,h⟩:=h))
local macro_rules | `(tactic| walk_at "o") => `(tactic| first | exact .inl rfl | exact .inr rfl | exact .inr (.inl rfl) | exact .inr (.inr rfl))
local macro_rules | `(!0)=>`(by omega)
local macro_rules | `(!1)=>`(by simp)
open PySem.W renaming Frag->a9,fnOf->fF,emptyDict->gV,keepIn->i6,findIn->jF,instObj->jP,looks_mroIn->kl,callWith_K->kC,findIn->lN,Looks->lO,findCls->mV,methodCall_KW->nu,hasDictIn->nG,lookIn->qW,mg_of->rG,plainGet->sA,kindOf->sD,nsIn->u0,readsIn->um,plainGet_of->uE,callWith_K0->uF,methodObj->wF,mroIn->xM,isFn->yP,cellsFrom_some->yR,takerIn->zw,makesIn->zy,codeIn->AH,findObj_own->BB,mg_none_of->CY,plainOver->E9,set_plain->Eb,ktu_apart->Ek,looks_findIn->Eu,specialIn->EB,handedIn->Fx,keepIn->FH,looks_clsIn->Gy,notCls->JW,mg_of->Ku,clsIn->LC,codeIn->N0
open List renaming length_map->aa,getElem?_eq_some_iff->ag,length_cons->ah,getD_eq_getElem?_getD->ax,range->ay,mem_cons_of_mem->az,getElem?_map->aC,mem_of_getElem?->aD,length_append->aE,mem_cons_self->aQ,getElem?_eq_getElem->aV,replicate->aY,mem_map->aZ,map_map->bc,getElem?_set_ne->bf,length_zipIdx->bj,getElem?_set_self->bt,size_toArray->bu,getElem_map->bK,lookup_cons->bP,mem_cons->bQ,getElem?_eq_none->bT,length_nil->bY,getElem?_append_left->bZ,of_mem_zip->cn,all_eq_true->cp,getElem?_append_right->cF,length_zip->cI,map_append->cJ,map_cons->cM,length_range->dy,append_nil->dC,mem_singleton->dQ,mem_filter->dR,mem_append_right->eF,nodup_cons->eO,filterMap_cons->eY,getElem_zipIdx->eZ,getElem?_range->f6,mem_append->f7,filter_cons->fg,take_of_length_le->fH,foldl_cons->fP,mem_zipIdx_iff_getElem?->fQ,getElem_mem->fS,getElem_zip->fU,ext_getElem->fV,length_take->fY,foldl_append->g8,getElem?_cons_succ->gc,mem_filterMap->gw,mem_append_left->gz,take_length->gG,append_assoc->gU,map_nil->ib,getElem?_replicate->iw,replicate_succ->iQ,getElem_range->jd,filterMap_map->je,eq_nil_of_length_eq_zero->jB,map_congr_left->jU,length_take_le->jW,sum_nil->ka,length_drop->kq,contains_cons->kB,length_filter_le->kK,forIn_cons->l0,find?_cons->l6,take_succ_eq_append_getElem->lA,idxOf_lt_length_iff->lJ,length_filterMap_le->lK,lookup->my,filter_map->mR,sum_cons->mY,flatten_cons->nH,getElem?_zipIdx->o8,length->oa,forIn_nil->og,mem_of_mem_take->oh,drop_eq_getElem_cons->oN,any_cons->pw,eq_of_mem_replicate->pC,length_set->pN,drop_eq_nil_of_le->r9,contains_iff_mem->rB,lookup_cons_self->rF,contains_eq_mem->tY,mem_iff_getElem->tZ,getElem_of_mem->uA,length_pos_iff->uB,mem_range->vH,zip_cons_cons->vI,map_filterMap->vO,findIdx?_eq_none_iff->w9,mem_or_eq_of_mem_set->wb,getElem?_take_of_lt->x9,all_cons->xa,map_take->xb,filterMap_eq_map'->yK,zip_map->yL,range_succ_eq_map->yX,nil_append->zA,length_replicate->zI,filterMap_append->zL,foldl_nil->Au,foldl_map->Ax,getElem_toArray->AR,drop_drop->AS,length_take_le'->AU,take_succ_cons->BH,map_drop->C5,length_mapIdx->CG,findIdx?_cons->CH,foldl->CQ,foldl_filter->E5,contains_nil->E7,take_sublist->Eg,nodup_append->Em,getElem_take->Ey,flatMap_cons->Ez,nodup_range->Fu,getElem_inj->Fw,zipIdx_cons->Fz,flatMap_def->FE,not_mem_nil->FJ,map_id->GA,mem_mapIdx->GV,zipIdx_nil->Ha,tail_cons->JE,filterMap->JT,drop_zero->JX
open PySem renaming wpAny_bind->ae,Shared->ai,wpAny_pure->aG,Value->aH,Addr->aI,Program->bp,sizeLine->bC,mainGlobals->bE,wpAny->bO,model->c9,Heap->cy,World->cH,mem_of_lookup->cK,Str->cY,Stmt->di,swapsWith->dj,Expr->du,foldedSetIterable->dA,Around->dD,starEach->dM,wpAny_field->fC,bootBuiltins->fE,eval->fX,cellsFrom->gh,wpAny_Call_Name_kw->gA,compareOp->gY,wpAny_mono->ik,wpAny_holding->iE,FuncData->iL,wpAny_nextOf_list_item->iM,keywordEach->iX,behindInMarks->jq,wpAny_seqItems->jG,Scope->jV,holding->kh,NameKind->kE,wpAny_setField_rec->kG,wpAny_passesOwn->kZ,wpAny_truthy_bool->ly,getMethod->mf,compEnvC->mh,wpAny_callSpecial?_slot->mi,Pos->mH,backToKw->mS,wpAny_standAt->mZ,backTo->nt,standAt->oH,Builtin->oI,wpAny_pyIter_zip->oJ,attributeBase->pj,callWith->pk,IsPair->pX,PassesOwn->qr,sliceBounds->qu,isSubtype->qv,DictEntry->qw,wpAny_pyIter_list->qV,codeAny_mono->qX,plainObj_wpAny_Assign_Attribute->rl,wpAny_nextOf_list_end->rE,sysModules->sx,assignEach->sy,wpAny_call->sC,call_meets->sI,pushCells->sJ,noteFrame->sL,wpAny_call_entry->sM,setFlight->sP,codeAny->sZ,wpAny_attempt->t6,wpAny_onRaise->t7,binaryOp->tR,IsZip->tU,codeAny_call_builtin->tW,wpAny_execs_nil->ue,pyNext->uf,letOwnedTupleGo->ug,PyData->uh,pushCells_keeps->ui,Obj->uC,rawInt->vK,typeLookup->vL,boot_len->vM,wpAny_setField->vP,isInstance->vQ,wpAny_letOwnedTupleGo_zip->wa,wpAny_loadPart_at->wH,bindArgs->xE,ZipApart->xG,checkBuiltinCall->xK,wpAny_pyNext_range_end->yN,wpAny_pyIter_rangeiter->yO,wpAny_pyNext_zip_item->zJ,Value->As,Model->AA,assign->AB,IsRangeIter->AD,sizeLine_eq->AE,wpAny_loadPart->AG,subscripted->AI,wpAny_pyNext_zip_end->AL,IntMulOk->AM,wpAny_letGo->AQ,tupleKind->Bn,wpAt_of_wpAny->BF,plainId_quiet->C4,wpAny_pyIter_range->CN,getattributeRaised->CT,Within->E8,cLine->Ed,seqIndex_neg->Eh,notedBy->Ei,valueAt->Ej,seqIndex_of->Gs,loadIfAlive->Gu,Sem->GX,wpAt_bind->Hc,hashInt->Hu,BindsTo->Hv,getItem->Hw,Addr->JC,Paired->JF,builtinsNs->JG,isTrue->JH,wpAny_Name->JI,wpAny_load->JJ,Operator->JK,bindL->JL,bindC->JM,typeIs_int->JO,typeOf->JP,field->JQ,wpAny_rule->JR,Str->LB,Result->MZ
open PySem.Heap renaming get?_push_of_some->af,lt_size->aM,get?_push_size->bI,size_push->dh,get?_update_other->fG,get?_update_self->j4,size_after_update->mI,SameBut->uP,get?_update_ne->BG,IsList->Gv
open Nat renaming le_refl->ao,le_trans->bq,lt_of_lt_of_le->bz,ne_of_lt->cC,gcd->dJ,le_add_right->eP,zero_le->gW,lt_of_le_of_lt->ig,ne_of_gt->jo,min_self->ke,zero_add->kf,le_of_lt->kg,mul_pos->ki,lt_irrefl->kj,min_eq_left->mQ,le_of_ble_eq_true->ny,gcd_pos_of_pos_right->pd,mul_div_cancel_left->qp,le_succ->qt,lt_succ_of_lt->qR,le_of_succ_le->qZ,gcd_dvd_left->so,lt_succ_self->sq,div_le_self->uk,mul_comm->uO,le_of_eq->uQ,lt_trans->uR,gcd_dvd_right->wD,min_le_right->xO,sub_self->yI,add_le_add_right->AV,mul_le_mul_left->BJ,add_sub_cancel->CJ,one_lt_two_pow->CV,min_eq_right->Ft,Coprime->Gm,strongRecOn->GW,not_lt_zero->GY,not_lt->JU
open Vbmian renaming zero->aq,step->aw,Measured->aJ,measuredAt->bx,measuredBy->bG,letters->cf,Sheet->cg,whole->cA,numbers->cU,no->dB,isKind->dS,nodeName->dU,OUTSIDE->eE,fractions->eG,cleared->eS,mul->eU,State->fu,isZero->fW,within->gH,sumQ->gQ,joinUp->hZ,changed->i0,sub->ie,Q->iO,over->iV,isStream->j5,neg->jc,setMeasured->jh,lessOne->jr,q->jA,into->jD,Call->jH,say->jS,start->lB,add->lH,isLetter->me,least->mj,suspect->mn,joined->n9,labelOf->oi,valuesOf->oj,value->oF,fractions->oG,value->oM,proves->ph,labelOf->pM,yes->pZ,sort_->qU,maybe->rf,labels->sX,sideOf->sY,isKind->t8,tokens->uc,joinUp->vN,measuredBy->wI,two->xh,isRow->xR,solve->yJ,isStream->zB,penalty->Az,within->C0,sort_->C6,statements->CK,whole->E6,isSet->Ew,same->Gn,read->Gq,reduce->Km,atMost->Ks,callOf->Kt,pivot->MX,isRow->MY,Stream->a5a
open Option.some renaming inj->be
open Bool renaming and_eq_true_iff->bg,false_ne_true->bA,false_eq_true->bU,and_eq_true->c8,true_and->eJ,eq_iff_iff->f9,false_and->kA,not_eq_true'->nJ,and_false->o9,not_true->pf,not_false->qT,or_eq_true->ud,and_true->x8,or_false->BZ,false_or->C1
open Int renaming toNat_natCast->bH,fdiv_eq_ediv_of_nonneg->iN,natAbs_natCast->jg,mul_pos->jC,natCast_mul->kY,gcd_pos_of_ne_zero_right->mT,gcd->oC,toNat->oK,natAbs_mul->vG,mul_assoc->x6,natCast_ediv->xD,natAbs_ediv_of_dvd->yH,ne_of_gt->yW,one_mul->AO,toNat_of_nonneg->BI,ofNat_dvd_left->CF,sub_eq_add_neg->CI,gcd_dvd_right->Eo,zero_add->Ep,mul_ne_zero->GZ,natAbs_neg->JD
open PySem.Value renaming ref->cj,none->ij,isInt->jE,builtin->pB,int->uW,str->Fv,isStrOf->Ko
open PySem.Builtin.SmallTypes renaming ownedTupleIsFree->cG,nextOf->eN,ownedTupleHandOut->oU
open PySem.PassesOwn renaming never->cX,leaving->eC
open PyProof.Rows renaming callWith_type1->dz,envOfC->jQ,callWith_builtin1->sE,AllBare->yM,subscriptTail_builtinR->yS,subscriptTail->C2,boot_range->CO,Subscript_->JN
open Option renaming isSome_iff_exists->dZ,map_some->iW,getD_some->oE,isSome_some->pV,bind_eq_some_iff->xN,map_none->zu,getD_none->Fy,bind_some->FC,none->P0
open PySem.F renaming plainAttrs_list->fh,slot_zip_next->jR,slot_list_append->lL,type_list_append->lM,slot_zip_getattribute->mz,slot_list_extend->pz,type_list_extend->pA,args_zip_next_1->r8,slot_dict_get->rC,entry_zip_next->sN,excBase_Exception->wc,args_dict_get_3->xF,slot_list_index->xP,entry_dict_get->yU,args_list_extend_2->AK,entry_list_extend->BC,slot_list_extend->CS
open Array renaming getElem?_eq_some_iff->fj,getElem?_setIfInBounds->mU,length_toList->uD,mem_toList_iff->AF,find?_toList->CP,forIn_toList->CU
open Ne renaming symm->g0
open False renaming elim->gN
open PySem.Builtin.List renaming listTooLong->i7
open PySem.Builtin.Range renaming rangeSize->iu,small->BD
open PySem.Builtin.Int renaming intBits->iR,intTooBig->zK
open Sum renaming inl->j2,inr->Bm
open PySem.PyData renaming int->jf,eqv->kF,depthAll->l8,canLayAll0->lz,depth->El,eqvAll->Kq
open VbmianNeutral renaming asked1->jI,step->q5,row->EA
open Classical renaming byContradiction->kT,propDecidable->xQ
open Function renaming comp->lI
open PySem.Obj renaming mapFields->n8,data_mapFields->pY,mapSeq->sF,isFreed_of_fields->zM
open PySem.NameKind renaming free->px,cell->C3
open PySem.Calls renaming spliced_cons->pW,Name_function_global->vJ,spliced_nil->wG,callWith_builtin->yT,evalArgs_plain->AJ
open PySem.SeqAt renaming shaped->qY,readOf->yY
open PyVbmian renaming shape->rg,answers_asked->z6,whole->AW,answers->FF,calls->JY
open PySem.IntMulOk renaming of_left->sO
open PySem.Builtin.ObjectAttr renaming storeInDict->sQ,newKeyGuard->FD
open ForInStep renaming yield->uj
open PySem.W.Looks renaming here->vT,ld->JV,of_pure->Kr
open PySem.Builtin.Dict renaming updateFrom->xH
open PySem.Challenge renaming pw_streambalance_s01_answers->xI
open PySem.Heap.IsList renaming push->xJ
open True renaming intro->yQ
open PySem.Str renaming ofString->yV
open PyFlat renaming calls->yZ,rows->AX,played->C7,told->GB,call->P2
open List.cons renaming injEq->zv
open Nat.Coprime renaming mul_right->zH,symm->Fs
open Rat renaming mul_pos->Av,mul_nonneg->Aw
open List.Pairwise renaming filter->Ay,map->En
open PySem.Around renaming under_plainId->AN,under->Ee
open PySem.W.WData renaming int->Bo
open PySem.EntryCells renaming newEntry->BE
open PySem.SeqAt.EqAt renaming int_str->CL,str_int->CM
open PySem.Code renaming quiet_builtin->CW,isFrame->Ef
open PySem.Heap.Ns1 renaming of_empty->Ec
open PySem.callAny renaming viaDunder->Er
open Sum.inl renaming inj->Gr
open PySem.Shared renaming heap->Gw
open PySem.Bind renaming madeBy->Gx,staticBase->Hb
open Prod.mk renaming inj->Gz,injEq->Kn
open Prod renaming fst->JS
open PySem.Paired renaming length->Kp
open PySem.DictEntry renaming mk->N1
open PySem.IsRange renaming new->OZ
open Vbmian.Stream renaming name->P1
abbrev gP:=List (List Int)
abbrev iS:=List (Nat×Nat)
abbrev lR:=List (LB×JC)
abbrev xi:=List (Int×Int)
abbrev BK:=Array (Option As)
abbrev zO:=List (LB×Nat)
abbrev BL:=List (List Nat)
abbrev bL:=List Nat
abbrev cE:=List Int
abbrev bS:=List LB
abbrev fk:=List As
abbrev jT:=List PySem.Expr
abbrev kL:=List JC
abbrev iT:=List PySem.Stmt
abbrev iC:=List PySem.Env
abbrev nc:=Array As
abbrev rj:=Option JC
abbrev iF:=Option As
abbrev Bp:=Option Int
abbrev D5:=List Bool
def ck{p:Prop} [Decidable p] (h:decide p=true:=by rfl):p:=of_decide_eq_true h
namespace fw
open Vbmian (Q)
def Good(x:Q):Prop:=0<x.den/\dJ x.num.natAbs x.den=1
def val(x:Q):Rat:=(x.num:Rat)/(x.den:Rat)
def oO{n:Nat}(h:0<n):(n:Rat)≠0:=by
 intro e;have:n=0:=by exact_mod_cast e
 omega
def Hx{x:Q}(h:0<x.den)(r:Rat):val x=r↔(x.num:Rat)=r*(x.den:Rat):=by
 have:=oO h
 unfold val;constructor<;>intro e<;>grind
def Pb{x y:Q}(hx:0<x.den)(hy:0<y.den):val x=val y↔x.num*(y.den:Int)=y.num*(x.den:Int):=by
 have h1:=oO hx;have h2:=oO hy;have e:(val x=val y)↔((x.num:Rat)*(y.den:Rat)=(y.num:Rat)*(x.den:Rat)):=by
  unfold val;constructor<;>intro e<;>grind
 rw[e];constructor
 ·intro h;exact_mod_cast h
 ·intro h;exact_mod_cast h
def t9{x y:Q}(hx:Good x)(hy:Good y)(h:val x=val y):x=y:=by
 have e:=(Pb hx.1 hy.1).mp h;have e2:x.num.natAbs*y.den=y.num.natAbs*x.den:=by
  have:=congrArg Int.natAbs e;rw[vG,vG]at this;exact this
 have d1:x.den∣y.den:=by
  have:x.den∣x.num.natAbs*y.den:=⟨y.num.natAbs,by rw[e2,uO]⟩;exact(Fs hx.2:Gm x.den x.num.natAbs).dvd_of_dvd_mul_left this
 have d2:y.den∣x.den:=by
  have:y.den∣y.num.natAbs*x.den:=⟨x.num.natAbs,by rw[<-e2,uO]⟩;exact(Fs hy.2:Gm y.den y.num.natAbs).dvd_of_dvd_mul_left this
 have hd:x.den=y.den:=Nat.dvd_antisymm d1 d2;have hn:x.num=y.num:=by
  rw[hd]at e;have:(y.den:Int)≠0:=by have:=hy.1;omega
  exact Int.eq_of_mul_eq_mul_right this e
 cases x;cases y;simp_all
def ZF{a:Int}{b:Nat}(hb:0<b):jA a b=⟨a/(dJ a.natAbs b:Int),b/dJ a.natAbs b⟩:=by
 unfold jA;have:dJ a.natAbs b≠0:=by
  have:=pd a.natAbs hb;omega
 simp only[this,if_false]
def ng{a:Int}{b:Nat}(hb:0<b):Good (jA a b):=by
 rw[ZF hb];have hg:=pd a.natAbs hb;refine⟨Nat.div_pos (Nat.le_of_dvd hb (wD _ _)) hg,?_⟩;show dJ (a/(dJ a.natAbs b:Int)).natAbs (b/dJ a.natAbs b)=1;have e:(a/(dJ a.natAbs b:Int)).natAbs=a.natAbs/dJ a.natAbs b:=by
  have hd:(dJ a.natAbs b:Int)∣a:=CF.mpr (so _ _);have:=yH hd;rw[this];rfl
 rw[e];exact Nat.gcd_div_gcd_div_gcd_of_pos_right hb
def BM{a:Int}{b:Nat}(hb:0<b):val (jA a b)=(a:Rat)/(b:Rat):=by
 have hg:=pd a.natAbs hb;have G:=ng (a:=a) hb;rw[ZF hb]at G ⊢;rw[Hx G.1];show((a/(dJ a.natAbs b:Int):Int):Rat)=(a:Rat)/(b:Rat)*((b/dJ a.natAbs b:Nat):Rat);have hd:(dJ a.natAbs b:Int)∣a:=CF.mpr (so _ _);obtain⟨k,hk⟩:=hd;obtain⟨l,hl⟩:=wD a.natAbs b;have h0:=oO hb;generalize hG:dJ a.natAbs b=g at*;have e1:a/(g:Int)=k:=by rw[hk];exact Int.mul_ediv_cancel_left _ (!0)
 have e2:b/g=l:=by rw[hl];exact qp _ hg
 rw[e1,e2];have e3:a*(l:Int)=k*(b:Int):=by rw[hk,hl];push_cast;rw[x6,Int.mul_left_comm]
 have e4:(a:Rat)*(l:Rat)=(k:Rat)*(b:Rat):=by exact_mod_cast e3
 grind
def eD(a:Int):Good (cA a):=⟨by show 0<1;decide,by show dJ _ 1=1;exact Nat.gcd_one_right _⟩
def oo(a:Int):val (cA a)=(a:Rat):=by
 unfold val cA;show(a:Rat)/((1:Nat):Rat)=a;grind
def il:Good aq:=eD 0
def val_zero:val aq=0:=by unfold aq;rw[oo];rfl
def good_add{x y:Q}(hx:Good x)(hy:Good y):Good (lH x y):=ng (ki hx.1 hy.1)
def val_add{x y:Q}(hx:Good x)(hy:Good y):val (lH x y)=val x+val y:=by
 unfold lH;rw[BM (ki hx.1 hy.1)];have h1:=oO hx.1;have h2:=oO hy.1;unfold val
 push_cast
 grind
def xj{x:Q}(hx:Good x):Good (jc x):=⟨hx.1,by show dJ (-x.num).natAbs x.den=1;rw[JD];exact hx.2⟩
def val_neg(x:Q):val (jc x)= -val x:=by
 unfold val jc
 push_cast
 grind
def lS{x y:Q}(hx:Good x)(hy:Good y):Good (ie x y):=good_add hx (xj hy)
def val_sub{x y:Q}(hx:Good x)(hy:Good y):val (ie x y)=val x-val y:=by
 unfold ie;rw[val_add hx (xj hy),val_neg];grind
def iG{x y:Q}(hx:Good x)(hy:Good y):Good (eU x y):=ng (ki hx.1 hy.1)
def val_mul{x y:Q}(hx:Good x)(hy:Good y):val (eU x y)=val x*val y:=by
 unfold eU;rw[BM (ki hx.1 hy.1)];have h1:=oO hx.1;have h2:=oO hy.1;unfold val
 push_cast
 grind
def Hy{x:Q}(hx:0<x.den):val x≠0↔x.num≠0:=by
 have h1:=oO hx;constructor
 ·intro h e;apply h;unfold val;rw[e];push_cast;grind
 ·intro h e;apply h;have:=(Hx hx 0).mp e;have:(x.num:Rat)=0:=by grind
  exact_mod_cast this
def D6{x:Q}(hx:0<x.den):x.num=0↔val x=0:=by
 have:=Hy hx;constructor
 ·intro h;exact kT fun q=>(this.mp q) h
 ·intro h;exact kT fun q=>(this.mpr q) h
def S8{x y:Q}(hx:Good x)(hy:y.num≠0):Good (iV x y):=by
 unfold iV;have:0<y.num.natAbs:=!0
 split<;>exact ng (ki hx.1 this)
def TY{x y:Q}(hx:Good x)(gy:Good y)(hy:y.num≠0):val (iV x y)=val x/val y:=by
 unfold iV;have hp:0<y.num.natAbs:=!0
 have h1:=oO hx.1;have h2:=oO gy.1;have h3:(y.num:Rat)≠0:=by intro e;apply hy;exact_mod_cast e
 split
 ·rename_i a4T;rw[BM (ki hx.1 hp)];have e:(y.num.natAbs:Rat)= -(y.num:Rat):=by
   have:(y.num.natAbs:Int)= -y.num:=!0
   exact_mod_cast congrArg (fun z:Int=>(z:Rat)) this
  unfold val
  push_cast
  rw[e];grind
 ·rename_i a4T;rw[BM (ki hx.1 hp)];have e:(y.num.natAbs:Rat)=(y.num:Rat):=by
   have:(y.num.natAbs:Int)=y.num:=!0
   exact_mod_cast congrArg (fun z:Int=>(z:Rat)) this
  unfold val
  push_cast
  rw[e];grind
theorem zP:∀(l:List Q) (a:Q),Good a->(∀x∈l,Good x)->Good (l.foldl lH a)
 | [],a,ha,_=>ha
 | x::l,a,ha,h=>zP l _ (good_add ha (h x (aQ ..))) fun y hy=>h y (az _ hy)
theorem BN:∀(l:List Q) (a:Q),Good a->(∀x∈l,Good x)->val (l.foldl lH a)=val a+(l.map val).sum
 | [],a,ha,_=>by simp only[Au,ib,ka];grind
 | x::l,a,ha,h=>by
  rw[fP,BN l _ (good_add ha (h x (aQ ..))) fun y hy=>h y (az _ hy),val_add ha (h x (aQ ..)),cM,mY];grind
def kU{l:List Q}(h:∀x∈l,Good x):Good (gQ l):=zP l _ il h
def tj{l:List Q}(h:∀x∈l,Good x):val (gQ l)=(l.map val).sum:=by
 unfold gQ;rw[BN l _ il h,val_zero];grind
abbrev Form:=D5->Rat
abbrev vV:=Nat->Rat
def eB:Nat->vV->Form->Form
 | 0,_,_=>fun _=>0
 | m+1,v,f=>fun l=>match l with
  | []=>0
  | false::t=>eB m v (fun t=>f (false::t)) t
  | true::t=>v m*f (false::t)-eB m v (fun t=>f (true::t)) t
theorem nM(a b:Rat):∀(m:Nat) (v:vV) (f g:Form) (l:D5),eB m v (fun l=>a*f l+b*g l) l=a*eB m v f l+b*eB m v g l
 | 0,v,f,g,l=>by simp only[eB];grind
 | m+1,v,f,g,[]=>by simp only[eB];grind
 | m+1,v,f,g,false::t=>by
  simp only[eB];exact nM a b m v (fun t=>f (false::t)) (fun t=>g (false::t)) t
 | m+1,v,f,g,true::t=>by
  simp only[eB];have:=nM a b m v (fun t=>f (true::t)) (fun t=>g (true::t)) t;rw[this];grind
theorem lT(a b:Rat):∀(m:Nat) (u v:vV) (f:Form) (l:D5),eB m (fun j=>a*u j+b*v j) f l=a*eB m u f l+b*eB m v f l
 | 0,u,v,f,l=>by simp only[eB];grind
 | m+1,u,v,f,[]=>by simp only[eB];grind
 | m+1,u,v,f,false::t=>by
  simp only[eB];exact lT a b m u v (fun t=>f (false::t)) t
 | m+1,u,v,f,true::t=>by
  simp only[eB];have:=lT a b m u v (fun t=>f (true::t)) t;rw[this];grind
def z7(m:Nat)(v:vV)(l:D5):eB m v (fun _=>0) l=0:=by
 have:=nM 0 0 m v (fun _=>0) (fun _=>0) l;have e:(fun l:D5=>(0:Rat)*(fun _=>(0:Rat)) l+0*(fun _=>(0:Rat)) l)=fun _=>0:=by funext l;grind
 rw[e]at this;grind
theorem uX:∀(m:Nat) (v:vV) (f:Form) (l:D5),eB m v (eB m v f) l=0
 | 0,v,f,l=>by simp only[eB]
 | m+1,v,f,[]=>by simp only[eB]
 | m+1,v,f,false::t=>by
  simp only[eB];exact uX m v (fun t=>f (false::t)) t
 | m+1,v,f,true::t=>by
  simp only[eB];have h1:=uX m v (fun t=>f (true::t)) t;have h2:=nM (v m) (-1) m v (fun t=>f (false::t)) (eB m v (fun t=>f (true::t))) t;have e:(fun t=>v m*f (false::t)+ -1*eB m v (fun t=>f (true::t)) t)=(fun t=>v m*f (false::t)-eB m v (fun t=>f (true::t)) t):=by funext t;grind
  rw[e]at h2;rw[h2,h1];grind
def C8(m:Nat)(u v:vV)(f:Form)(l:D5):eB m u (eB m v f) l= -eB m v (eB m u f) l:=by
 have h:=uX m (fun j=>1*u j+1*v j) f l;have e:eB m (fun j=>1*u j+1*v j) f=fun l=>1*eB m u f l+1*eB m v f l:=by funext l;exact lT 1 1 m u v f l
 rw[e,nM 1 1 m _ (eB m u f) (eB m v f),lT 1 1,lT 1 1,uX,uX]at h;grind
def N7(m:Nat)(a:Rat)(v:vV)(f:Form)(l:D5):eB m v (fun l=>a*f l) l=a*eB m v f l:=by
 have h:=nM a 0 m v f f l;have e:(fun l=>a*f l+0*f l)=fun l=>a*f l:=by funext l;grind
 rw[e]at h;grind
theorem tp:∀(m:Nat) {u v:vV} (f:Form) (l:D5),(∀j,j<m->u j=v j)->eB m u f l=eB m v f l
 | 0,u,v,f,l,_=>by simp only[eB]
 | m+1,u,v,f,[],h=>by simp only[eB]
 | m+1,u,v,f,false::t,h=>by
  simp only[eB];exact tp m _ t fun j hj=>h j (!0)
 | m+1,u,v,f,true::t,h=>by
  simp only[eB];rw[h m (!0),tp m (fun t=>f (true::t)) t fun j hj=>h j (!0)]
def one:Form:=fun l=>if l.contains true then 0 else 1
def eK(m:Nat)(R:Nat->vV):Nat->Form
 | 0=>one
 | k+1=>eB m (R k) (eK m R k)
theorem tu{m:Nat}{R S:Nat->vV}:∀{k:Nat},(∀i,i<k->∀j,j<m->R i j=S i j)->eK m R k=eK m S k
 | 0,_=>rfl
 | k+1,h=>by
  simp only[eK];rw[tu (k:=k) fun i hi j hj=>h i (!0) j hj]
  funext l
  exact tp m _ l fun j hj=>h k (!0) j hj
theorem AY{m:Nat}{R:Nat->vV}{v:vV}:∀{k i:Nat},i<k->R i=v->∀l,eB m v (eK m R k) l=0
 | k+1,i,hi,e,l=>by
  simp only[eK];by_cases h:i=k
  ·subst h;rw[e];exact uX m v _ l
  ·have ih:=AY (m:=m) (R:=R) (v:=v) (k:=k) (i:=i) (!0) e;have e2:eB m v (eK m R k)=fun _=>0:=funext ih;rw[C8,e2,z7];grind
def sumTo:Nat->(Nat->Rat)->Rat
 | 0,_=>0
 | k+1,f=>sumTo k f+f k
theorem dE{f g:Nat->Rat}:∀{k:Nat},(∀i,i<k->f i=g i)->sumTo k f=sumTo k g
 | 0,_=>rfl
 | k+1,h=>by
  simp only[sumTo];rw[dE (k:=k) fun i hi=>h i (!0),h k (!0)]
theorem uS(f g:Nat->Rat):∀k,sumTo k (fun i=>f i+g i)=sumTo k f+sumTo k g
 | 0=>by simp only[sumTo];grind
 | k+1=>by simp only[sumTo];rw[uS f g k];grind
theorem km(a:Rat)(f:Nat->Rat):∀k,sumTo k (fun i=>a*f i)=a*sumTo k f
 | 0=>by simp only[sumTo];grind
 | k+1=>by simp only[sumTo];rw[km a f k];grind
theorem rH:∀k,sumTo k (fun _=>0)=0
 | 0=>rfl
 | k+1=>by simp only[sumTo];rw[rH k];grind
def rep(R:Nat->vV)(i:Nat)(v:vV):Nat->vV:=fun t=>if t=i then v else R t
theorem LD{m:Nat}{R:Nat->vV}{i:Nat}{u v:vV}(a b:Rat):∀{k:Nat},i<k->∀l,eK m (rep R i fun j=>a*u j+b*v j) k l=a*eK m (rep R i u) k l+b*eK m (rep R i v) k l
 | k+1,hi,l=>by
  simp only[eK];by_cases h:i=k
  ·subst h;have e:∀v:vV,eK m (rep R i v) i=eK m R i:=fun v=>tu fun t ht j _=>by unfold rep;rw[if_neg (!0)]
   have e2:∀v:vV,rep R i v i=v:=fun v=>by unfold rep;rw[if_pos rfl]
   rw[e,e,e,e2,e2,e2];exact lT a b m u v _ l
  ·have e2:∀v:vV,rep R i v k=R k:=fun v=>by unfold rep;rw[if_neg (!0)]
   rw[e2,e2,e2];have ih:eK m (rep R i fun j=>a*u j+b*v j) k=fun l=>a*eK m (rep R i u) k l+b*eK m (rep R i v) k l:=funext fun l=>LD a b (!0) l;rw[ih];exact nM a b m _ _ _ l
theorem LF{m:Nat}{R:Nat->vV}{i t:Nat}:∀{k:Nat},i<k->t<k->t≠i->∀l,eK m (rep R i (R t)) k l=0
 | k+1,hi,ht,uN,l=>by
  simp only[eK];by_cases h:i=k
  ·subst h;have e:eK m (rep R i (R t)) i=eK m R i:=tu fun t ht j _=>by unfold rep;rw[if_neg (!0)]
   have e2:rep R i (R t) i=R t:=by unfold rep;rw[if_pos rfl]
   rw[e,e2];exact AY (k:=i) (i:=t) (!0) rfl l
  ·have e2:rep R i (R t) k=R k:=by unfold rep;rw[if_neg (!0)]
   rw[e2];by_cases h2:t=k
   ·subst h2;exact AY (k:=t) (i:=i) (!0) (by unfold rep;rw[if_pos rfl]) l
   ·have ih:eK m (rep R i (R t)) k=fun _=>0:=funext fun l=>LF (!0) (!0) uN l;rw[ih,z7]
def TZ{m:Nat}{R:Nat->vV}{i k:Nat}:eK m (rep R i (R i)) k=eK m R k:=tu fun t _ j _=>by
 unfold rep;split
 ·rename_i h;rw[h]
 ·rfl
theorem QD{m:Nat}{R:Nat->vV}{i k:Nat}(hi:i<k)(x:Nat->Rat):∀{n:Nat},n<=k->∀l,eK m (rep R i fun j=>sumTo n fun t=>x t*R t j) k l=if i<n then x i*eK m R k l else 0
 | 0,_,l=>by
  have h:=LD (m:=m) (R:=R) (i:=i) (u:=fun _=>0) (v:=fun _=>0) 0 0 hi l;have e:(fun j:Nat=>(0:Rat)*(fun _:Nat=>(0:Rat)) j+0*(fun _:Nat=>(0:Rat)) j)=fun _=>0:=by funext l;grind
  rw[e]at h;simp only[sumTo];rw[if_neg (!0)];grind
 | n+1,hn,l=>by
  have h:=LD (m:=m) (R:=R) (i:=i) (u:=fun j=>sumTo n fun t=>x t*R t j) (v:=R n) 1 (x n) hi l;have e:(fun j:Nat=>(1:Rat)*(fun j=>sumTo n fun t=>x t*R t j) j+x n*R n j)=fun j=>sumTo (n+1) fun t=>x t*R t j:=by funext j;simp only[sumTo];grind
  rw[e]at h;rw[h,QD hi x (!0) l];by_cases h1:i<n
  ·rw[if_pos h1,if_pos (!0),LF hi (!0) (!0)];grind
  ·by_cases h2:n=i
   ·subst h2;rw[if_neg h1,if_pos (!0),TZ];grind
   ·rw[if_neg h1,if_neg (!0),LF hi (!0) h2];grind
def rh(x:Rat):Prop:=∃z:Int,x=(z:Rat)
def rh.int(z:Int):rh (z:Rat):=⟨z,rfl⟩
def rh.mul{x y:Rat}:rh x->rh y->rh (x*y)
 | ⟨a,ha⟩,⟨b,hb⟩=>⟨a*b,by rw[ha,hb];push_cast;rfl⟩
def rh.add{x y:Rat}:rh x->rh y->rh (x+y)
 | ⟨a,ha⟩,⟨b,hb⟩=>⟨a+b,by rw[ha,hb];push_cast;rfl⟩
def rh.sub{x y:Rat}:rh x->rh y->rh (x-y)
 | ⟨a,ha⟩,⟨b,hb⟩=>⟨a-b,by rw[ha,hb];push_cast;rfl⟩
def rh.zero:rh 0:=⟨0,by rfl⟩
def rh.one:rh 1:=⟨1,by rfl⟩
theorem rh.sumTo{f:Nat->Rat}:∀{k:Nat},(∀i,i<k->rh (f i))->rh (sumTo k f)
 | 0,_=>rh.zero
 | k+1,h=>rh.add (rh.sumTo fun i hi=>h i (!0)) (h k (!0))
theorem zQ:∀(m:Nat) (v:vV) (f:Form) (l:D5),(∀j,rh (v j))->(∀l,rh (f l))->rh (eB m v f l)
 | 0,v,f,l,_,_=>rh.zero
 | m+1,v,f,[],_,_=>rh.zero
 | m+1,v,f,false::t,hv,hf=>zQ m v _ t hv fun l=>hf (false::l)
 | m+1,v,f,true::t,hv,hf=>rh.sub (rh.mul (hv m) (hf _)) (zQ m v _ t hv fun l=>hf (true::l))
theorem zR{m:Nat}{R:Nat->vV}:∀{k:Nat},(∀i,i<k->∀j,rh (R i j))->∀l,rh (eK m R k l)
 | 0,_,l=>by
  show rh (if l.contains true then 0 else 1);split
  ·exact rh.zero
  ·exact rh.one
 | k+1,h,l=>zQ m _ _ l (h k (!0)) fun l=>zR (fun i hi=>h i (!0)) l
theorem FK{m:Nat}{R S:Nat->vV}{v:vV}{c:Nat->Rat}:∀{k:Nat},(∀i,i<k->∀j,S i j=R i j-c i*v j)->∀l,eB m v (eK m S k) l=eB m v (eK m R k) l
 | 0,_,_=>rfl
 | k+1,h,l=>by
  simp only[eK];have e:eB m (S k) (eK m S k)=fun l=>1*eB m (R k) (eK m S k) l+(-c k)*eB m v (eK m S k) l:=by
   funext l
   rw[<-lT 1 (-c k) m (R k) v];exact tp m _ l fun j _=>by rw[h k (!0)];grind
  rw[e,nM,uX,C8,C8 (u:=v) (v:=R k)];have ih:eB m v (eK m S k)=eB m v (eK m R k):=funext fun l=>FK (k:=k) (fun i hi=>h i (!0)) l;rw[ih];grind
theorem FN{m:Nat}{R:Nat->vV}:∀{k:Nat} (l:D5),eK (m+1) R k (false::l)=eK m R k l
 | 0,l=>by
  show(if(false::l).contains true then(0:Rat)else 1)=if l.contains true then 0 else 1;simp
 | k+1,l=>by
  simp only[eK,eB];have:(fun t=>eK (m+1) R k (false::t))=eK m R k:=funext fun t=>FN t;rw[this]
def Hz{m:Nat}{v:vV}{f:Form}{l:D5}(h:∀j,j<m->v j=0):eB m v f l=0:=by
 rw[tp (v:=fun j=>0*v j+0*v j) m f l fun j hj=>by rw[h j hj];grind,lT];grind
theorem N8{R:Nat->vV}:∀{k:Nat},(∀i,i<k->∀j,j<k->R i j=if i=j then 1 else 0)->eK k R k (aY k true)=1
 | 0,_=>by show(if([]:D5).contains true then(0:Rat)else 1)=1;simp
 | k+1,h=>by
  simp only[eK,iQ,eB];have e1:R k k=1:=by rw[h k (!0) k (!0),if_pos rfl]
  rw[FN,N8 (k:=k) fun i hi j hj=>h i (!0) j (!0),e1,Hz (v:=R k) fun j hj=>by rw[h k (!0) j (!0),if_neg (!0)]];grind
def gj(A:Nat->vV):Nat->Nat->vV
 | 0=>A
 | k+1=>fun i j=>if i=k then gj A k k j/gj A k k k else gj A k i j-gj A k i k*(gj A k k j/gj A k k k)
def dt(A:Nat->vV):Nat->Rat
 | 0=>1
 | k+1=>dt A k*gj A k k k
section
variable {A:Nat->vV}
theorem AZ:∀{k:Nat},(∀t,t<k->gj A t t t≠0)->∀i j,j<k->gj A k i j=if i=j then 1 else 0
 | k+1,h,i,j,hj=>by
  have hs:=h k (!0);have ih:=AZ (k:=k) fun t ht=>h t (!0);simp only[gj];by_cases e:i=k
  ·rw[if_pos e];by_cases e2:j=k
   ·rw[if_pos (!0),e2];grind
   ·rw[if_neg (!0),ih k j (!0),if_neg (!0)];grind
  ·rw[if_neg e];by_cases e2:j=k
   ·subst e2;rw[if_neg e];grind
   ·rw[ih k j (!0),if_neg (show ¬k=j by omega),ih i j (!0)];grind
theorem D7:∀(k i:Nat),∃x:Nat->Rat,∀j,gj A k i j=(if i<k then 0 else A i j)+sumTo k fun t=>x t*A t j
 | 0,i=>⟨fun _=>0,fun j=>by simp only[gj,sumTo];rw[if_neg (!0)];grind⟩
 | k+1,i=>by
  obtain⟨x,hx⟩:=D7 k i;obtain⟨y,hy⟩:=D7 k k;have hy':∀j,gj A k k j=A k j+sumTo k fun t=>y t*A t j:=fun j=>by rw[hy j,if_neg (!0)]
  by_cases e:i=k
  ·refine⟨fun t=>if t=k then 1/gj A k k k else(1/gj A k k k)*y t,fun j=>?_⟩;simp only[gj,sumTo];rw[if_pos e,if_pos (!0),if_pos trivial];have:(sumTo k fun t=>(if t=k then 1/gj A k k k else(1/gj A k k k)*y t)*A t j)=(1/gj A k k k)*sumTo k fun t=>y t*A t j:=by
    rw[<-km];exact dE fun t ht=>by rw[if_neg (!0)];grind
   rw[this,hy' j];grind
  ·refine⟨fun t=>if t=k then-gj A k i k/gj A k k k else x t+(-gj A k i k/gj A k k k)*y t,fun j=>?_⟩;simp only[gj,sumTo];rw[if_neg e,if_pos trivial];have:(sumTo k fun t=>(if t=k then-gj A k i k/gj A k k k else x t+(-gj A k i k/gj A k k k)*y t)*A t j)=(sumTo k fun t=>x t*A t j)+(-gj A k i k/gj A k k k)*sumTo k fun t=>y t*A t j:=by
    rw[<-km,<-uS];exact dE fun t ht=>by rw[if_neg (!0)];grind
   rw[this];have hj:=hx j;have hj2:=hy' j;by_cases e3:i<k
   ·rw[if_pos (!0)];rw[if_pos e3]at hj;grind
   ·rw[if_neg (!0)];rw[if_neg e3]at hj;grind
theorem Kv{m:Nat}{R:Nat->vV}{k:Nat}(x:Nat->Rat){l:D5}:∀{n:Nat},n<=k->eB m (fun j=>sumTo n fun t=>x t*R t j) (eK m R k) l=0
 | 0,_=>by simp only[sumTo];exact Hz fun _ _=>rfl
 | n+1,hn=>by
  have h:=lT 1 (x n) m (fun j=>sumTo n fun t=>x t*R t j) (R n) (eK m R k) l;have e:(fun j:Nat=>(1:Rat)*(fun j=>sumTo n fun t=>x t*R t j) j+x n*R n j)=fun j=>sumTo (n+1) fun t=>x t*R t j:=by funext j;simp only[sumTo];grind
  rw[e]at h;rw[h,Kv x (!0),AY (k:=k) (i:=n) (!0) rfl];grind
theorem N9{m:Nat}:∀{k:Nat},(∀t,t<k->gj A t t t≠0)->∀l,eK m A k l=dt A k*eK m (gj A k) k l
 | 0,_,l=>by simp only[eK,dt];grind
 | k+1,h,l=>by
  have hs:=h k (!0);have ih:eK m A k=fun l=>dt A k*eK m (gj A k) k l:=funext fun l=>N9 (fun t ht=>h t (!0)) l;obtain⟨y,hy⟩:=D7 (A:=A) k k;have hy':∀j,gj A k k j=A k j+sumTo k fun t=>y t*A t j:=fun j=>by rw[hy j,if_neg (!0)]
  simp only[eK,dt];have e1:eB m (A k) (eK m A k) l=eB m (gj A k k) (eK m A k) l:=by
   have:=lT 1 1 m (A k) (fun j=>sumTo k fun t=>y t*A t j) (eK m A k) l;rw[Kv y (ao k)]at this;have e:(fun j:Nat=>(1:Rat)*A k j+1*(fun j=>sumTo k fun t=>y t*A t j) j)=gj A k k:=by funext j;rw[hy' j];grind
   rw[e]at this;grind
  rw[e1,ih,N7];have e2:eB m (gj A k k) (eK m (gj A k) k) l=gj A k k k*eB m (gj A (k+1) k) (eK m (gj A k) k) l:=by
   have:=lT (gj A k k k) 0 m (gj A (k+1) k) (gj A (k+1) k) (eK m (gj A k) k) l;have e:(fun j:Nat=>gj A k k k*gj A (k+1) k j+0*gj A (k+1) k j)=gj A k k:=by funext j;simp only[gj];grind
   rw[e]at this;grind
  have e3:eB m (gj A (k+1) k) (eK m (gj A (k+1)) k) l=eB m (gj A (k+1) k) (eK m (gj A k) k) l:=
   FK (c:=fun i=>gj A k i k) (fun i hi j=>by
    simp only[gj];rw[if_neg (show ¬i=k by omega),if_pos trivial]) l
  rw[e2,<-e3];grind
def U0{k:Nat}(h:∀t,t<k->gj A t t t≠0):eK k A k (aY k true)=dt A k:=by
 rw[N9 h,N8 fun i _ j hj=>AZ h i j hj];grind
theorem U1:∀{k:Nat},(∀t,t<k->gj A t t t≠0)->dt A k≠0
 | 0,_=>by simp only[dt];decide
 | k+1,h=>by
  have:=U1 (k:=k) fun t ht=>h t (!0);have:=h k (!0);simp only[dt];grind
theorem U2:∀{k:Nat},(∀t,t<k->0<gj A t t t)->0<dt A k
 | 0,_=>by simp only[dt];decide
 | k+1,h=>by
  have h1:=U2 (k:=k) fun t ht=>h t (!0);have h2:=h k (!0);simp only[dt];exact Av h1 h2
def D8(hA:∀i j,rh (A i j)){k:Nat}(h:∀t,t<k->gj A t t t≠0){x:Nat->Rat}{v:vV}(hv:∀j,rh (v j))(hx:∀j,j<k->(sumTo k fun t=>x t*A t j)=v j){i:Nat}(hi:i<k):rh (dt A k*x i):=by
 have h1:=QD (m:=k) (R:=A) hi x (ao k) (aY k true);rw[if_pos hi,U0 h]at h1;have h2:eK k (rep A i fun j=>sumTo k fun t=>x t*A t j) k=eK k (rep A i v) k:=tu fun t _ j hj=>by
  unfold rep;split
  ·exact hx j hj
  ·rfl
 rw[h2]at h1;have:rh (eK k (rep A i v) k (aY k true)):=zR (fun t _ j=>by unfold rep;split;exact hv j;exact hA t j) _;rw[h1]at this;have e:dt A k*x i=x i*dt A k:=by grind
 rw[e];exact this
def U3(hA:∀i j,rh (A i j)){k:Nat}(h:∀t,t<k->gj A t t t≠0)(i j:Nat):rh (dt A k*gj A k i j):=by
 obtain⟨x,hx⟩:=D7 (A:=A) k i;have hd:rh (dt A k):=by rw[<-U0 h];exact zR (fun i _=>hA i) _
 have hu:=AZ h;have key:∀t,t<k->rh (dt A k*x t):=by
  by_cases e:i<k
  ·intro t ht;refine D8 hA h (v:=fun j=>if i=j then 1 else 0) (fun j=>?_) (fun j hj=>?_) ht
   ·show rh (if i=j then 1 else 0);split
    ·exact rh.one
    ·exact rh.zero
   ·have:=hx j;rw[if_pos e,hu i j hj]at this;grind
  ·intro t ht;refine D8 hA h (v:=fun j=>0-A i j) (fun j=>rh.sub rh.zero (hA i j)) (fun j hj=>?_) ht;have:=hx j;rw[if_neg e,hu i j hj,if_neg (!0)]at this;grind
 rw[hx j];have e:dt A k*((if i<k then 0 else A i j)+sumTo k fun t=>x t*A t j)=dt A k*(if i<k then 0 else A i j)+sumTo k fun t=>(dt A k*x t)*A t j:=by
  have:(sumTo k fun t=>(dt A k*x t)*A t j)=dt A k*sumTo k fun t=>x t*A t j:=by
   rw[<-km];exact dE fun t _=>by grind
  rw[this];grind
 rw[e];refine rh.add (rh.mul hd ?_) (rh.sumTo fun t ht=>rh.mul (key t ht) (hA t j));split
 ·exact rh.zero
 ·exact hA i j
def HA{k:Nat}(h:∀t,t<k->gj A t t t≠0):∃y:Nat->Rat,y k=1/\(∀t,k<t->y t=0)/\gj A k k k=sumTo (k+1) fun i=>y i*sumTo (k+1) fun j=>A i j*y j:=by
 obtain⟨x,hx⟩:=D7 (A:=A) k k;have P9:∀j,gj A k k j=A k j+sumTo k fun t=>x t*A t j:=fun j=>by rw[hx j,if_neg (!0)]
 let y:Nat->Rat:=fun t=>if t<k then x t else if t=k then 1 else 0;have yk:y k=1:=by show(if k<k then x k else if k=k then 1 else 0)=(1:Rat);rw[if_neg (!0),if_pos rfl]
 have yt:∀t,t<k->y t=x t:=fun t ht=>by show(if t<k then x t else _)=x t;rw[if_pos ht]
 have a4U:∀j,(sumTo (k+1) fun i=>y i*A i j)=gj A k k j:=fun j=>by
  simp only[sumTo];rw[yk,P9 j,dE (g:=fun t=>x t*A t j) fun t ht=>by rw[yt t ht]];grind
 refine⟨y,yk,fun t ht=>by show(if t<k then x t else if t=k then 1 else 0)=(0:Rat);rw[if_neg (!0),if_neg (!0)],?_⟩;have swap:∀(m n:Nat) (f:Nat->Nat->Rat),(sumTo m fun i=>sumTo n fun j=>f i j)=sumTo n fun j=>sumTo m fun i=>f i j:=by
  intro m n f
  induction m with
  | zero=>simp only[sumTo];rw[rH]
  | succ m ih=>simp only[sumTo];rw[ih,<-uS]
 have e1:(sumTo (k+1) fun i=>y i*sumTo (k+1) fun j=>A i j*y j)=sumTo (k+1) fun j=>y j*sumTo (k+1) fun i=>y i*A i j:=by
  have a:(fun i=>y i*sumTo (k+1) fun j=>A i j*y j)=fun i=>sumTo (k+1) fun j=>y i*(A i j*y j):=by funext i;rw[km]
  have b:(fun j=>y j*sumTo (k+1) fun i=>y i*A i j)=fun j=>sumTo (k+1) fun i=>y j*(y i*A i j):=by funext j;rw[km]
  rw[a,b,swap];exact dE fun j _=>dE fun i _=>by grind
 rw[e1];have e2:(sumTo (k+1) fun j=>y j*sumTo (k+1) fun i=>y i*A i j)=sumTo (k+1) fun j=>y j*gj A k k j:=dE fun j _=>by rw[a4U]
 rw[e2];have hu:=AZ h;simp only[sumTo];rw[dE (g:=fun _=>0) fun t ht=>by rw[hu k t ht,if_neg (!0)];grind,rH,yk];grind
end
def cZ(a b:Int):Int×Int:=(a/(oC a b:Int),b/(oC a b:Int))
def eV(x:Q):Int×Int:=(x.num,(x.den:Int))
def tz{a b:Int}(hb:0<b):cZ a b=eV (jA a b.toNat):=by
 have h:0<b.toNat:=!0
 rw[ZF h];have e:(b.toNat:Int)=b:=!0
 have eg:oC a b=dJ a.natAbs b.toNat:=by
  unfold oC;congr 1;omega
 unfold cZ eV;rw[eg];show _=(a/(dJ a.natAbs b.toNat:Int),((b.toNat/dJ a.natAbs b.toNat:Nat):Int));congr 1;rw[xD,e]
def ent(rows:gP)(i j:Nat):Int:=(rows.getD i []).getD j 0
def C9(below piv f:Int)(row p:cE):cE:=(row.zip p).map fun x=>(piv*x.1-f*x.2).fdiv below
def dF(rows:gP)(step:Nat)(below:Int):gP:=
 rows.mapIdx fun place row=>if place=step then row else C9 below (ent rows step step) (row.getD step 0) row (rows.getD step [])
def dm(rows:gP):Nat->gP×Int
 | 0=>(rows,1)
 | k+1=>(dF (dm rows k).1 k (dm rows k).2,ent (dF (dm rows k).1 k (dm rows k).2) k k)
def iy(rows:gP):xi:=(dm rows rows.length).1.map fun row=>cZ (row.getD rows.length 0) (dm rows rows.length).2
structure Shape{α:Type}(rows:List (List α))(n:Nat):Prop where
 len:rows.length=n
 cols:∀r∈rows,r.length=n+1
def fq{α:Type}{l:List α}{i:Nat}{d:α}(h:i<l.length):l.getD i d=l[i]:=by
 rw[ax,aV h];rfl
def getD_mem{α:Type}{l:List α}{i:Nat}{d:α}(h:i<l.length):l.getD i d∈l:=by
 rw[fq h];exact fS h
def getD_map{α β:Type}{l:List α}{i:Nat}{f:α->β}{d:β}{d':α}(h:i<l.length):(l.map f).getD i d=f (l.getD i d'):=by
 rw[fq (by rw[aa];exact h),fq h,bK]
def Na{α β:Type}{l:List α}{i:Nat}{f:Nat->α->β}{d:β}{d':α}(h:i<l.length):(l.mapIdx f).getD i d=f i (l.getD i d'):=by
 rw[fq (by rw[CG];exact h),fq h,List.getElem_mapIdx]
def Shape.row{α:Type}{rows:List (List α)}{n i:Nat}(S:Shape rows n)(h:i<n):(rows.getD i []).length=n+1:=S.cols _ (getD_mem (by rw[S.len];exact h))
def FP{α β γ:Type}{l:List α}{r:List β}{j:Nat}{f:α×β->γ}{d:γ}{d1:α}{d2:β}(h1:j<l.length)(h2:j<r.length):((l.zip r).map f).getD j d=f (l.getD j d1,r.getD j d2):=by
 rw[fq (by rw[aa,cI];omega),fq h1,fq h2,bK,fU]
def zS{rows:gP}{n k:Nat}{b:Int}(S:Shape rows n)(hk:k<n):Shape (dF rows k b) n:=by
 refine⟨by unfold dF;rw[CG];exact S.len,fun r hr=>?_⟩;unfold dF at hr;rw[GV]at hr;obtain⟨i,hi,rfl⟩:=hr;have h1:rows[i].length=n+1:=S.cols _ (fS hi);split
 ·exact h1
 ·unfold C9;rw[aa,cI,h1,S.row hk,ke]
def LG{rows:gP}{n k i j:Nat}{b:Int}(S:Shape rows n)(hk:k<n)(hi:i<n)(hj:j<n+1):
  ent (dF rows k b) i j=if i=k then ent rows i j else(ent rows k k*ent rows i j-ent rows i k*ent rows k j).fdiv b:=by
 unfold ent dF;rw[Na (d':=[]) (by rw[S.len];exact hi)];split
 ·rfl
 ·unfold C9;rw[FP (d1:=0) (d2:=0) (by rw[S.row hi];exact hj) (by rw[S.row hk];exact hj)];rfl
theorem EE{rows:gP}{n:Nat}(S:Shape rows n){A:Nat->vV}(hA:∀i j,rh (A i j))(hr:∀i j,i<n->j<n+1->(ent rows i j:Rat)=A i j)(hp:∀t,t<n->gj A t t t≠0):
  ∀{k:Nat},k<=n->Shape (dm rows k).1 n/\((dm rows k).2:Rat)=dt A k/\∀i j,i<n->j<n+1->(ent (dm rows k).1 i j:Rat)=dt A k*gj A k i j
 | 0,_=>⟨S,by show((1:Int):Rat)=1;rfl,fun i j hi hj=>by show(ent rows i j:Rat)=1*A i j;rw[hr i j hi hj];grind⟩
 | k+1,hk=>by
  obtain⟨S1,hd,he⟩:=EE S hA hr hp (k:=k) (!0);have hpk:=hp k (!0);have hd0:dt A k≠0:=U1 fun t ht=>hp t (!0);have S2:Shape (dm rows (k+1)).1 n:=zS S1 (!0);have key:∀i j,i<n->j<n+1->(ent (dm rows (k+1)).1 i j:Rat)=dt A (k+1)*gj A (k+1) i j:=by
   intro i j hi hj;show(ent (dF (dm rows k).1 k (dm rows k).2) i j:Rat)=_;rw[LG S1 (!0) hi hj];split
   ·rename_i e;subst e;rw[he i j hi hj];simp only[dt,gj];rw[if_pos trivial];grind
   ·rename_i e;obtain⟨z,hz⟩:=U3 hA (k:=k+1) (fun t ht=>hp t (!0)) i j;have e1:((ent (dm rows k).1 k k*ent (dm rows k).1 i j-ent (dm rows k).1 i k*ent (dm rows k).1 k j:Int):Rat)=(((dm rows k).2*z:Int):Rat):=by
     push_cast
     rw[he k k (!0) (!0),he i j hi hj,he i k hi (!0),he k j (!0) hj,hd,<-hz];simp only[dt,gj];rw[if_neg e];grind
    have e2:ent (dm rows k).1 k k*ent (dm rows k).1 i j-ent (dm rows k).1 i k*ent (dm rows k).1 k j=(dm rows k).2*z:=by exact_mod_cast e1
    have hb:(dm rows k).2≠0:=by
     intro q;apply hd0;rw[<-hd,q];rfl
    rw[e2,Int.mul_fdiv_cancel_left _ hb,hz]
  refine⟨S2,?_,key⟩;show(ent (dF (dm rows k).1 k (dm rows k).2) k k:Rat)=_;have:=key k k (!0) (!0);rw[show ent (dF (dm rows k).1 k (dm rows k).2) k k=ent (dm rows (k+1)).1 k k from rfl,this,AZ (k:=k+1) (fun t ht=>hp t (!0)) k k (!0),if_pos rfl];grind
def Pc{rows:gP}{n:Nat}(S:Shape rows n){A:Nat->vV}(hA:∀i j,rh (A i j))(hr:∀i j,i<n->j<n+1->(ent rows i j:Rat)=A i j)(hp:∀t,t<n->0<gj A t t t)
  {xs:List Q}(hl:xs.length=n)(hx:∀i,i<n->Good (xs.getD i aq)/\val (xs.getD i aq)=gj A n i n):iy rows=xs.map eV:=by
 have hp':∀t,t<n->gj A t t t≠0:=fun t ht e=>by have:=hp t ht;rw[e]at this;exact absurd this ck
 obtain⟨S1,hd,he⟩:=EE S hA hr hp' (ao n);have Kl:0<(dm rows n).2:=by
  have:=U2 hp;rw[<-hd]at this
  exact_mod_cast this
 unfold iy;rw[S.len];apply fV
 ·rw[aa,aa,S1.len,hl]
 ·intro i h1 h2;rw[aa,S1.len]at h1;rw[bK,bK,tz Kl];congr 1;have hg:=hx i h1;rw[fq (!0)]at hg;apply t9 (ng (!0)) hg.1;rw[BM (!0),hg.2];have e:=he i n h1 (!0);have er:(dm rows n).1.getD i []=(dm rows n).1[i]'(by rw[S1.len];exact h1):=fq (by rw[S1.len];exact h1);unfold ent at e;rw[er]at e;rw[e];have e2:(((dm rows n).2.toNat:Nat):Rat)=dt A n:=by
   rw[<-hd];have:((dm rows n).2.toNat:Int)=(dm rows n).2:=!0
   exact_mod_cast congrArg (fun z:Int=>(z:Rat)) this
  rw[e2];have:=U1 hp';grind
def nN(rows:List (List Q))(i j:Nat):Rat:=val ((rows.getD i []).getD j aq)
def xV(rows:List (List Q)):Prop:=∀r∈rows,∀x∈r,Good x
def xV.at{rows:List (List Q)}(h:xV rows)(i j:Nat):Good ((rows.getD i []).getD j aq):=by
 by_cases h1:i<rows.length
 ·by_cases h2:j<(rows.getD i []).length
  ·exact h _ (getD_mem h1) _ (getD_mem h2)
  ·rw[ax,bT (!0)];exact il
 ·have:rows.getD i []=[]:=by rw[ax,bT (!0)];rfl
  rw[this];exact il
def FQ{j:Nat}{p r:List Q}{n:Nat}(hr:r.length=n)(hp:p.length=n):(eS j p r).length=n:=by
 unfold eS;simp only;split
 ·exact hr
 ·rw[aa,cI,hr,hp,ke]
def kr{r:List Q}(h:∀x∈r,Good x)(j:Nat):Good (r.getD j aq):=by
 by_cases h2:j<r.length
 ·exact h _ (getD_mem h2)
 ·rw[ax,bT (!0)];exact il
def D9{j:Nat}{p r:List Q}(hr:∀x∈r,Good x)(hp:∀x∈p,Good x):∀x∈eS j p r,Good x:=by
 unfold eS;simp only;split
 ·exact hr
 ·intro x hx;rw[aZ]at hx;obtain⟨y,hy,rfl⟩:=hx;have:=cn hy;exact lS (hr _ this.1) (iG (kr hr j) (hp _ this.2))
def FU{j c n:Nat}{p r:List Q}(hr:∀x∈r,Good x)(hp:∀x∈p,Good x)(lr:r.length=n)(lp:p.length=n)(hc:c<n):
  val ((eS j p r).getD c aq)=val (r.getD c aq)-val (r.getD j aq)*val (p.getD c aq):=by
 unfold eS;simp only;split
 ·rename_i h;rw[(D6 (kr hr j).1).mp h];grind
 ·rw[FP (d1:=aq) (d2:=aq) (!0) (!0)];rw[val_sub (kr hr c) (iG (kr hr j) (kr hp c)),val_mul (kr hr j) (kr hp c)]
theorem Kw{n:Nat}{A:Nat->vV}(hp:∀t,t<n->gj A t t t≠0):∀(m t:Nat) (found rest:List (List Q)),m+t=n->found.length=t->Shape (found++rest) n->xV (found++rest)->
  (∀i j,i<n->j<n+1->nN (found++rest) i j=gj A t i j)->
  ∃out,Km m t found rest=some out/\Shape out n/\xV out/\∀i j,i<n->j<n+1->nN out i j=gj A n i j
 | 0,t,found,rest,hm,hf,S,G,hv=>by
  have ht:t=n:=!0
  subst ht;have:rest=[]:=by
   have:=S.len;rw[aE,hf]at this;exact jB (!0)
  subst this;rw[dC]at S G hv;exact⟨found,rfl,S,G,hv⟩
 | m+1,t,found,rest,hm,hf,S,G,hv=>by
  have hl:=S.len;rw[aE,hf]at hl
  match rest,hl with
  | [],hl=>rw[bY]at hl;omega
  | r::l,hl=>
   have htn:t<n:=!0
   have hrt:(found++r::l).getD t []=r:=by
    rw[ax,cF (!0),hf,yI];rfl
   have gr:∀x∈r,Good x:=G r (!1);have lr:r.length=n+1:=S.cols r (!1);have hpv:=hv t t htn (!0);unfold nN at hpv;rw[hrt]at hpv;have uN:(r.getD t aq).num≠0:=(Hy (kr gr t).1).mp (by rw[hpv];exact hp t htn);have ZG:MX t [] (r::l)=some (r,l):=by
    unfold MX;rw[if_neg uN];rfl
   simp only[Km,ZG];generalize hpe:r.map (fun x=>iV x (r.getD t aq))=p;have lp:p.length=n+1:=by rw[<-hpe,aa];exact lr
   have gp:∀x∈p,Good x:=by
    intro x hx;rw[<-hpe,aZ]at hx;obtain⟨y,hy,rfl⟩:=hx;exact S8 (gr y hy) uN
   have hrv:∀j,j<n+1->val (r.getD j aq)=gj A t t j:=fun j hj=>by
    have:=hv t j htn hj;unfold nN at this;rw[hrt]at this;exact this
   have ZH:∀j,j<n+1->val (p.getD j aq)=gj A t t j/gj A t t t:=fun j hj=>by
    rw[<-hpe,getD_map (d':=aq) (!0),TY (kr gr j) (kr gr t) uN,hrv j hj,hrv t (!0)]
   have gi:∀{q:List Q},q∈found->(∀x∈q,Good x)/\q.length=n+1:=fun hq=>⟨G _ (by simp[hq]),S.cols _ (by simp[hq])⟩;have gi2:∀{q:List Q},q∈l->(∀x∈q,Good x)/\q.length=n+1:=fun hq=>⟨G _ (by simp[hq]),S.cols _ (by simp[hq])⟩;refine Kw hp m (t+1) _ _ (!0) (by rw[aE,aa,hf];rfl) ⟨?_,?_⟩ ?_ ?_
   ·rw[aE,aE,aa,aa,hf];simp only[ah,bY]at hl ⊢;omega
   ·intro q hq;rw[f7,f7,aZ,aZ,dQ]at hq;rcases hq with(⟨y,hy,rfl⟩ | rfl) | ⟨y,hy,rfl⟩
    ·exact FQ (gi hy).2 lp
    ·exact lp
    ·exact FQ (gi2 hy).2 lp
   ·intro q hq;rw[f7,f7,aZ,aZ,dQ]at hq;rcases hq with(⟨y,hy,rfl⟩ | rfl) | ⟨y,hy,rfl⟩
    ·exact D9 (gi hy).1 gp
    ·exact gp
    ·exact D9 (gi2 hy).1 gp
   ·intro i j hi hj;have hold:=hv i j hi hj;have Nb:=hv i t hi (!0);unfold nN at hold Nb ⊢;simp only[gj];by_cases e:i=t
    ·subst e;rw[if_pos rfl];have:(found.map (eS i p)++[p]++l.map (eS i p)).getD i []=p:=by
      rw[ax,bZ (by rw[aE,aa,hf];exact sq _),cF (by rw[aa,hf];exact ao _),aa,hf,yI];rfl
     rw[this,ZH j hj]
    ·rw[if_neg e];by_cases e2:i<t
     ·have a:(found.map (eS t p)++[p]++l.map (eS t p)).getD i []=eS t p (found.getD i []):=by
       rw[ax,bZ (by rw[aE,aa,hf];exact qR e2),bZ (by rw[aa,hf];exact e2),aC,aV (!0),fq (!0)];rfl
      have b:(found++r::l).getD i []=found.getD i []:=by
       rw[ax,bZ (!0),ax]
      have hm:found.getD i []∈found:=getD_mem (!0);rw[b]at hold Nb;rw[a,FU (gi hm).1 gp (gi hm).2 lp hj,hold,Nb,ZH j hj]
     ·have ko:i-t-1<l.length:=by simp only[ah]at hl;omega
      have a:(found.map (eS t p)++[p]++l.map (eS t p)).getD i []=eS t p (l.getD (i-t-1) []):=by
       have S0:(found.map (eS t p)++[p]).length=t+1:=by rw[aE,aa,hf];rfl
       rw[ax,cF (by rw[S0];omega),S0,show i-(t+1)=i-t-1 by omega,aC,aV ko,fq ko];rfl
      have b:(found++r::l).getD i []=l.getD (i-t-1) []:=by
       obtain⟨u,rfl⟩:∃u,i=t+u+1:=⟨i-t-1,by omega⟩;rw[ax,cF (!0),hf,show t+u+1-t=u+1 by omega,gc,ax,show u+1-1=u by omega]
      have hm:l.getD (i-t-1) []∈l:=getD_mem ko;rw[b]at hold Nb;rw[a,FU (gi2 hm).1 gp (gi2 hm).2 lp hj,hold,Nb,ZH j hj]
def U4{n:Nat}{rows:List (List Q)}{A:Nat->vV}(S:Shape rows n)(G:xV rows)(hv:∀i j,i<n->j<n+1->nN rows i j=A i j)(hp:∀t,t<n->gj A t t t≠0):
  ∃xs,yJ rows=some xs/\xs.length=n/\∀i,i<n->Good (xs.getD i aq)/\val (xs.getD i aq)=gj A n i n:=by
 obtain⟨out,ho,So,Go,hvo⟩:=Kw hp n 0 [] rows rfl rfl S G hv;refine⟨out.map fun r=>r.getD n aq,by unfold yJ;rw[S.len,ho];rfl,by rw[aa,So.len],fun i hi=>?_⟩;rw[getD_map (d':=[]) (by rw[So.len];exact hi)];exact⟨Go.at i n,hvo i n hi (!0)⟩
theorem HB{A B:Nat->vV}{c:Rat}{n:Nat}(hc:c≠0)(h:∀i j,i<n->j<n+1->B i j=c*A i j)(hp:∀t,t<n->gj A t t t≠0):∀{k:Nat},k<=n->∀i j,i<n->j<n+1->gj B k i j=if i<k then gj A k i j else c*gj A k i j
 | 0,_,i,j,hi,hj=>by simp only[gj];rw[if_neg (!0)];exact h i j hi hj
 | k+1,hk,i,j,hi,hj=>by
  have ih:=HB hc h hp (k:=k) (!0);have hpk:=hp k (!0);have e1:=ih k j (!0) hj;have e2:=ih k k (!0) (!0);have e3:=ih i j hi hj;have e4:=ih i k hi (!0);rw[if_neg (!0)]at e1 e2;simp only[gj];by_cases e:i=k
  ·rw[if_pos e,if_pos e,if_pos (!0),e1,e2];grind
  ·rw[if_neg e,if_neg e,e1,e2,e3,e4];by_cases q:i<k
   ·rw[if_pos q,if_pos q,if_pos (!0)];grind
   ·rw[if_neg q,if_neg q,if_neg (!0)];grind
def Kx{n:Nat}{rows:gP}{rq:List (List Q)}{c:Rat}(hc:0<c)(S:Shape rows n)(Sq:Shape rq n)(G:xV rq)(h:∀i j,i<n->j<n+1->(ent rows i j:Rat)=c*nN rq i j)
  (hp:∀t,t<n->(∀u,u<t->gj (nN rq) u u u≠0)->0<gj (nN rq) t t t):
  ∃xs,yJ rq=some xs/\xs.length=n/\(∀i,i<n->Good (xs.getD i aq)/\val (xs.getD i aq)=gj (nN rq) n i n)/\iy rows=xs.map eV/\∀t,t<n->0<gj (nN rq) t t t:=by
 have hp2:∀m t,t<m->t<n->0<gj (nN rq) t t t:=by
  intro m
  induction m with
  | zero=>intro t ht;omega
  | succ m ih=>intro t ht htn;exact hp t htn fun u hu e=>by have:=ih u (!0) (!0);rw[e]at this;exact absurd this ck
 have Qy:∀t,t<n->0<gj (nN rq) t t t:=fun t ht=>hp2 (t+1) t (!0) ht;have hp0:∀t,t<n->gj (nN rq) t t t≠0:=fun t ht e=>by have:=Qy t ht;rw[e]at this;exact absurd this ck
 have hc0:c≠0:=fun e=>by rw[e]at hc;exact absurd hc ck
 obtain⟨xs,h1,h2,h3⟩:=U4 Sq G (fun _ _ _ _=>rfl) hp0;have hB:=fun(k:Nat)=>HB (A:=nN rq) (B:=fun i j=>(ent rows i j:Rat)) hc0 h hp0 (k:=k);refine⟨xs,h1,h2,h3,Pc S (A:=fun i j=>(ent rows i j:Rat)) (fun i j=>rh.int _) (fun _ _ _ _=>rfl) (fun t ht=>?_) h2 (fun i hi=>?_),Qy⟩
 ·rw[hB t (!0) t t ht (!0),if_neg (!0)];exact Av hc (Qy t ht)
 ·rw[hB n (ao n) i n hi (!0),if_pos hi];exact h3 i hi
def i8(size:Nat)(qP:iS):bL:=qP.foldl (fun l p=>hZ p.1 p.2 l) (ay size)
structure WN(size:Nat)(qP:iS)(l:bL):Prop where
 len:l.length=size
 le:∀v,v<size->l.getD v 0<=v
 idem:∀v,v<size->l.getD (l.getD v 0) 0=l.getD v 0
 pair:∀p∈qP,l.getD p.1 0=l.getD p.2 0
 const:∀{α:Type} (g:Nat->α),(∀p∈qP,g p.1=g p.2)->∀v,v<size->g v=g (l.getD v 0)
def S9(size:Nat):WN size [] (ay size):=by
 have e:∀v,v<size->(ay size).getD v 0=v:=fun v hv=>by rw[fq (by rw[dy];exact hv),jd]
 refine⟨dy,fun v hv=>by rw[e v hv];exact ao _,fun v hv=>by rw[e v hv,e v hv],fun p hp=>(by cases hp),fun g _ v hv=>by rw[e v hv]⟩
def U5{size a b:Nat}{qP:iS}{l:bL}(L:WN size qP l)(ha:a<size)(hb:b<size):WN size (qP++[(a,b)]) (hZ a b l):=by
 have hx:=L.idem a ha;have hy:=L.idem b hb;have hxl:=L.le a ha;have Yr:=L.le b hb;generalize hX:l.getD a 0=x at*;generalize hY:l.getD b 0=y at*;have e:∀v,v<size->(hZ a b l).getD v 0=if l.getD v 0=max x y then min x y else l.getD v 0:=fun v hv=>by
  unfold hZ;simp only;rw[getD_map (d':=0) (by rw[L.len];exact hv),hX,hY]
 refine⟨by unfold hZ;rw[aa,L.len],fun v hv=>?_,fun v hv=>?_,fun p hp=>?_,fun g hg v hv=>?_⟩
 ·rw[e v hv];have:=L.le v hv
  split<;>omega
 ·have h1:=L.le v hv;have h2:=L.idem v hv;rw[e v hv];split
  ·rename_i h;rw[e _ (!0)];have:l.getD (min x y) 0=min x y:=by
    rcases Nat.le_total x y with q | q
    ·rw[mQ q];exact hx
    ·rw[Ft q];exact hy
   rw[this];split<;>rfl
  ·rename_i h;rw[e _ (!0),h2,if_neg h]
 ·rw[f7,dQ]at hp;rcases hp with hp | rfl
  ·have:=L.pair p hp;by_cases h1:p.1<size
   ·by_cases h2:p.2<size
    ·rw[e _ h1,e _ h2,this]
    ·have:(hZ a b l).getD p.2 0=l.getD p.2 0:=by
      rw[ax,bT (by unfold hZ;rw[aa,L.len];omega),ax,bT (by rw[L.len];omega)]
     have z:l.getD p.2 0=0:=by rw[ax,bT (by rw[L.len];omega)];rfl
     rw[e _ h1,this,L.pair p hp,z]
     split<;>omega
   ·have z:∀k:bL,k.length=size->k.getD p.1 0=0:=fun k hk=>by rw[ax,bT (!0)];rfl
    rw[z _ (by unfold hZ;rw[aa,L.len])];rw[z _ L.len]at this;by_cases h2:p.2<size
    ·rw[e _ h2,<-this];split<;>omega
    ·rw[ax,bT (by unfold hZ;rw[aa,L.len];omega)];rfl
  ·show(hZ a b l).getD a 0=(hZ a b l).getD b 0;rw[e _ ha,e _ hb,hX,hY]
   split<;>split<;>omega
 ·have hg1:∀p∈qP,g p.1=g p.2:=fun p hp=>hg p (by simp[hp]);have hab:g a=g b:=hg (a,b) (!1);have gx:=L.const g hg1 a ha;have gy:=L.const g hg1 b hb;rw[hX]at gx;rw[hY]at gy;rw[e v hv,L.const g hg1 v hv];split
  ·rename_i h;rw[h];rcases Nat.le_total x y with q | q
   ·rw[Nat.max_eq_right q,mQ q,<-gx,<-gy,hab]
   ·rw[Nat.max_eq_left q,Ft q,<-gx,<-gy,hab]
  ·rfl
theorem Nc{size:Nat}:∀(more qP:iS) (l:bL),WN size qP l->(∀p∈more,p.1<size/\p.2<size)->WN size (qP++more) (more.foldl (fun l p=>hZ p.1 p.2 l) l)
 | [],qP,l,L,_=>by rw[dC];exact L
 | p::more,qP,l,L,h=>by
  have hp:=h p (!1);have:=Nc more (qP++[p]) _ (U5 L hp.1 hp.2) fun q hq=>h q (by simp[hq]);rw[gU]at this;exact this
def LH{size:Nat}{qP:iS}(h:∀p∈qP,p.1<size/\p.2<size):WN size qP (i8 size qP):=by
 have:=Nc qP [] _ (S9 size) h;exact this
section
variable {α β:Type}
def gX(f:α->Rat)(x:α)(l:List α):((x::l).map f).sum=f x+(l.map f).sum:=by rw[cM,mY]
theorem zT(f g:α->Rat):∀l:List α,(l.map fun x=>f x+g x).sum=(l.map f).sum+(l.map g).sum
 | []=>by simp only[ib,ka];grind
 | x::l=>by rw[gX,gX,gX,zT f g l];grind
theorem qz(a:Rat)(f:α->Rat):∀l:List α,(l.map fun x=>a*f x).sum=a*(l.map f).sum
 | []=>by simp only[ib,ka];grind
 | x::l=>by rw[gX,gX,qz a f l];grind
theorem EF:∀l:List α,(l.map fun _=>(0:Rat)).sum=0
 | []=>by simp only[ib,ka]
 | x::l=>by rw[gX,EF l];grind
def dN{f g:α->Rat}{l:List α}(h:∀x∈l,f x=g x):(l.map f).sum=(l.map g).sum:=by
 rw[jU h]
def Nd(f g:α->Rat)(l:List α):(l.map fun x=>f x-g x).sum=(l.map f).sum-(l.map g).sum:=by
 have:=zT f (fun x=>(-1)*g x) l;rw[qz]at this;rw[dN (g:=fun x=>f x+(-1)*g x) fun x _=>by grind,this];grind
theorem FV{f:α->Rat}:∀{l:List α},(∀x∈l,0<=f x)->0<=(l.map f).sum
 | [],_=>by simp only[ib,ka];decide
 | x::l,h=>by
  have h1:=h x (!1);have h2:=FV (l:=l) fun y hy=>h y (by simp[hy]);rw[gX];grind
theorem Dc{f:α->Rat}:∀{l:List α},(∀x∈l,0<=f x)->(l.map f).sum<=0->∀x∈l,f x=0
 | x::l,h,hs,y,hy=>by
  have h1:=h x (!1);have h2:=FV (l:=l) fun y hy=>h y (by simp[hy]);rw[gX]at hs;rcases bQ.mp hy with rfl | hy
  ·grind
  ·exact Dc (l:=l) (fun y hy=>h y (by simp[hy])) (by grind) y hy
theorem xW(f:Nat->α->Rat)(k:Nat):∀l:List α,(sumTo k fun i=>(l.map (f i)).sum)=(l.map fun x=>sumTo k fun i=>f i x).sum
 | []=>by simp only[ib,ka];exact rH k
 | x::l=>by
  rw[gX,<-xW f k l,<-uS];exact dE fun i _=>by rw[gX]
theorem gZ(g:α->Option β)(f:β->Rat):∀l:List α,((l.filterMap g).map f).sum=(l.map fun x=>match g x with | some y=>f y | none=>0).sum
 | []=>rfl
 | x::l=>by
  rw[gX,eY]
  cases e:g x with
  | none=>simp only;rw[gZ g f l];grind
  | some y=>simp only;rw[gX,gZ g f l]
def sq_nonneg(x:Rat):0<=x*x:=by
 rcases Rat.le_total (a:=0) (b:=x)with h | h
 ·exact Aw h h
 ·have:0<=(-x)*(-x):=Aw (by grind) (by grind);grind
def WO{x:Rat}(h:x*x=0):x=0:=by grind
end
structure WF(s:cg)(m:aJ):Prop where
 ends:∀x∈s.streams,x.src<s.nodes.length+1/\x.dst<s.nodes.length+1
 len:m.length=s.streams.length
 wt:∀v w,some (v,w)∈m->0<w
section
variable {s:cg}{m:aJ}
def Hd{γ:Type}(hl:m.length=s.streams.length)(F:a5a->Option (Int×Nat)->γ):s.streams.zipIdx.map (fun x=>F x.1 (bx m x.2))=(s.streams.zip m).map (fun y=>F y.1 y.2):=by
 apply fV
 ·rw[aa,aa,bj,cI,hl,ke]
 ·intro i h1 h2;rw[aa,bj]at h1;rw[bK,bK,eZ,fU];simp only[bx,kf];rw[fq (!0)]
def filterMap_eq{α β:Type}(f:α->Option β)(l:List α):l.filterMap f=(l.map f).filterMap id:=by rw[je];rfl
def HC{γ:Type}(hl:m.length=s.streams.length)(F:a5a->Option (Int×Nat)->Option γ):s.streams.zipIdx.filterMap (fun x=>F x.1 (bx m x.2))=(s.streams.zip m).filterMap (fun y=>F y.1 y.2):=by
 rw[filterMap_eq,Hd hl F,<-filterMap_eq]
theorem jj{α β:Type}(p:α->Bool)(f:α->β):∀l:List α,(l.filter p).map f=l.filterMap fun x=>if p x=true then some (f x)else none
 | []=>rfl
 | x::l=>by
  rw[fg,eY];split
  ·rename_i h;simp only[cM];rw[jj p f l]
  ·rename_i h;simp only[];rw[jj p f l]
def bB(x:a5a):Nat×Nat:=(x.src,x.dst)
def wd(s:cg)(use:Nat->Bool):sX s use=i8 (s.nodes.length+1) ((s.streams.zipIdx.filter fun x=>use x.2).map fun x=>bB x.1):=by
 unfold sX i8;rw[Ax,E5];rfl
def iP(s:cg)(m:aJ):iS:=((s.streams.zip m).filter fun y=>y.2.isNone).map fun y=>bB y.1
def free(s:cg)(m:aJ):bL:=sX s fun i=>(bx m i).isNone
def oV(s:cg):bL:=sX s fun _=>true
def B0(hl:m.length=s.streams.length):free s m=i8 (s.nodes.length+1) (iP s m):=by
 unfold free iP;rw[wd,jj,jj];congr 1;exact HC hl fun x o=>if o.isNone=true then some (bB x)else none
def any_join(s:cg):oV s=i8 (s.nodes.length+1) (s.streams.map bB):=by
 unfold oV;rw[wd,jj];congr 1;have:(fun x:a5a×Nat=>if(fun x:a5a×Nat=>true) x=true then some (bB x.1)else none)=fun x=>some (bB x.1):=by funext x;rfl
 rw[this,yK];apply fV
 ·rw[aa,aa,bj]
 ·intro i h1 h2;rw[bK,bK,eZ]
def WF.Ca(W:WF s m):WN (s.nodes.length+1) (iP s m) (free s m):=by
 rw[B0 W.len];refine LH fun p hp=>?_;unfold iP at hp;rw[aZ]at hp;obtain⟨y,hy,rfl⟩:=hp;exact W.ends _ (cn (dR.mp hy).1).1
def WF.Nf(W:WF s m):WN (s.nodes.length+1) (s.streams.map bB) (oV s):=by
 rw[any_join];refine LH fun p hp=>?_;rw[aZ]at hp;obtain⟨y,hy,rfl⟩:=hp;exact W.ends _ hy
def mo(s:cg)(m:aJ):bL:=(ay (s.nodes.length+1)).filter fun v=>pM (free s m) v == v && pM (oV s) v != v
def rJ:(mo s m).Nodup:=Ay _ Fu
def He{c:Nat}:c∈mo s m↔c<s.nodes.length+1/\(free s m).getD c 0=c/\(oV s).getD c 0≠c:=by
 unfold mo pM;rw[dR,vH,c8,beq_iff_eq,bne_iff_ne]
def place(s:cg)(m:aJ)(v:Nat):Option Nat:=(mo s m).findIdx? fun c=>c == pM (free s m) v
theorem mB{x:Nat}:∀{l:bL} {j:Nat},l.Nodup->(l.findIdx? (fun c=>c == x)=some j↔l[j]? =some x)
 | [],j,_=>by simp
 | a::l,j,h=>by
  rw[CH];have hn:=eO.mp h;by_cases e:a=x
  ·subst e;simp only[beq_self_eq_true,if_true]
   cases j with
   | zero=>simp
   | succ j=>
    simp only[gc];constructor
    ·intro q;cases q
    ·intro q;exact absurd (aD q) hn.1
  ·have:(a == x)=false:=by simp[e]
   rw[this];simp only[bU,if_false]
   cases j with
   | zero=>simp[e]
   | succ j=>
    simp only[gc];rw[<-mB hn.2];simp
def Dd{x:Nat}{l:bL}:l.findIdx? (fun c=>c == x)=none↔x∉l:=by
 rw[w9];constructor
 ·intro h q;have:=h x q;simp at this
 ·intro h y hy;simp;intro e;exact h (e▸hy)
def uY(s:cg)(m:aJ)(c:Nat):List (Nat×Nat×Int):=s.streams.zipIdx.filterMap fun x=>match bx m x.2 with
   | none=>none
   | some (v,w)=>
    let a:=pM (free s m) x.1.src;let b:=pM (free s m) x.1.dst
    if a=b then none else if b=c then some (x.1.src,w,-v)else if a=c then some (x.1.dst,w,v)else none
def Ng(s:cg)(m:aJ)(c:Nat):List Q:=
 ((mo s m).zipIdx.map fun u=>ie (gQ ((uY s m c).map fun t=>if u.1=c then jA 1 t.2.1 else aq)) (gQ ((uY s m c).map fun t=>if place s m t.1=some u.2 then jA 1 t.2.1 else aq)))++[cA (((uY s m c).map fun t=>t.2.2).foldl (fun x y=>x+y) 0)]
def mr(s:cg)(m:aJ):List (List Q):=(mo s m).map (Ng s m)
def Nh(s:cg)(m:aJ):cU s m=match yJ (mr s m)with
 | none=>aY (s.nodes.length+1) aq
 | some x=>(ay (s.nodes.length+1)).map fun v=>match place s m v with
  | some i=>x.getD i aq
  | none=>aq:=rfl
def D(s:cg)(m:aJ)(y:a5a×Option (Int×Nat))(x:Nat):Rat:=(if(free s m).getD y.1.dst 0=x then 1 else 0)-(if(free s m).getD y.1.src 0=x then 1 else 0)
def U6(s:cg)(m:aJ)(c u:Nat):Rat:=((s.streams.zip m).map fun y=>match y.2 with
 | none=>0
 | some (v,w)=>D s m y c*D s m y u/(w:Rat)).sum
def rhs(s:cg)(m:aJ)(c:Nat):Rat:= -((s.streams.zip m).map fun y=>match y.2 with
 | none=>0
 | some (v,w)=>D s m y c*(v:Rat)).sum
def Ky(fr:bL)(c:Nat)(x:a5a)(o:Option (Int×Nat)):Option (Nat×Nat×Int):=match o with
 | none=>none
 | some (v,w)=>if fr.getD x.src 0=fr.getD x.dst 0 then none else if fr.getD x.dst 0=c then some (x.src,w,-v)else if fr.getD x.src 0=c then some (x.dst,w,v)else none
def Kz(hl:m.length=s.streams.length){c:Nat}:uY s m c=(s.streams.zip m).filterMap (fun y=>Ky (free s m) c y.1 y.2):=by
 have e:uY s m c=s.streams.zipIdx.filterMap (fun x=>Ky (free s m) c x.1 (bx m x.2)):=rfl;rw[e,HC hl (Ky (free s m) c)]
def WF.De(W:WF s m){c:Nat}:∀t∈uY s m c,0<t.2.1:=by
 intro t ht;unfold uY at ht;rw[gw]at ht;obtain⟨x,hx,e⟩:=ht;have hi:=List.snd_lt_of_mem_zipIdx hx
 cases em:bx m x.2 with
 | none=>rw[em]at e;cases e
 | some k=>
  obtain⟨v,w⟩:=k;have hw:0<w:=W.wt v w (by
   unfold bx at em;rw[fq (by rw[W.len];omega)]at em;rw[<-em];exact fS _)
  rw[em]at e;simp only at e;split at e
  ·cases e
  ·split at e
   ·cases e;exact hw
   ·split at e
    ·cases e;exact hw
    ·cases e
theorem BO:∀(l:cE) (a:Int),((l.foldl (fun x y=>x+y) a:Int):Rat)=(a:Rat)+(l.map fun z:Int=>(z:Rat)).sum
 | [],a=>by simp only[Au,ib,ka];grind
 | x::l,a=>by rw[fP,BO l,gX];push_cast;grind
def Ni{c:Prop} [Decidable c] {x:Q}(h:Good x):Good (if c then x else aq):=by
 split
 ·exact h
 ·exact il
def QE{c:Prop} [Decidable c] {w:Nat}(h:0<w):val (if c then jA 1 w else aq)=if c then 1/(w:Rat)else 0:=by
 split
 ·rw[BM h];push_cast;rfl
 ·exact val_zero
def KA(W:WF s m){c u j:Nat}(hj:(mo s m)[j]? =some u):Good ((Ng s m c).getD j aq)/\val ((Ng s m c).getD j aq)=U6 s m c u:=by
 have OU:j<(mo s m).length:=(ag.mp hj).1;have hju:(mo s m)[j]=u:=(ag.mp hj).2;unfold Ng;rw[ax,bZ (by rw[aa,bj];exact OU),aC,o8,hj];simp only[iW,oE];rw[kf];have g1:∀x∈(uY s m c).map fun t=>if u=c then jA 1 t.2.1 else aq,Good x:=by
  intro x hx;rw[aZ]at hx;obtain⟨t,ht,rfl⟩:=hx;exact Ni (ng (W.De t ht))
 have g2:∀x∈(uY s m c).map fun t=>if place s m t.1=some j then jA 1 t.2.1 else aq,Good x:=by
  intro x hx;rw[aZ]at hx;obtain⟨t,ht,rfl⟩:=hx;exact Ni (ng (W.De t ht))
 refine⟨lS (kU g1) (kU g2),?_⟩;rw[val_sub (kU g1) (kU g2),tj g1,tj g2,bc,bc,<-Nd];have e1:((uY s m c).map fun t=>(val∘fun t:Nat×Nat×Int=>if u=c then jA 1 t.2.1 else aq) t-(val∘fun t:Nat×Nat×Int=>if place s m t.1=some j then jA 1 t.2.1 else aq) t).sum=((uY s m c).map fun t=>(if u=c then 1/(t.2.1:Rat)else 0)-(if place s m t.1=some j then 1/(t.2.1:Rat)else 0)).sum:=
  dN fun t ht=>by
   simp only[lI];rw[QE (W.De t ht),QE (W.De t ht)]
 rw[e1];rw[Kz W.len,gZ];have pl:∀v,place s m v=some j↔(free s m).getD v 0=u:=fun v=>by
  unfold place;rw[mB rJ,hj];constructor
  ·intro q;exact(be q).symm
  ·intro q;rw[show pM (free s m) v=(free s m).getD v 0 from rfl,q]
 unfold U6;refine dN fun y hy=>?_;obtain⟨x,o⟩:=y
 cases o with
 | none=>rfl
 | some k=>
  obtain⟨v,w⟩:=k;simp only[Ky,D];by_cases h1:(free s m).getD x.src 0=(free s m).getD x.dst 0
  ·rw[if_pos h1,h1];simp only;grind
  ·rw[if_neg h1];by_cases h2:(free s m).getD x.dst 0=c
   ·rw[if_pos h2];simp only[pl];rw[if_pos h2,if_neg (show ¬(free s m).getD x.src 0=c by rw[<-h2];exact h1),h2];by_cases h3:u=c
    ·subst h3;rw[if_pos rfl,if_pos rfl];grind
    ·rw[if_neg h3,if_neg (show ¬c=u by omega)];grind
   ·rw[if_neg h2];by_cases h4:(free s m).getD x.src 0=c
    ·rw[if_pos h4];simp only[pl];rw[if_neg h2,if_pos h4,h4];by_cases h3:u=c
     ·subst h3;rw[if_pos rfl,if_pos rfl];grind
     ·rw[if_neg h3,if_neg (show ¬c=u by omega)];grind
    ·rw[if_neg h4,if_neg h2,if_neg h4];simp only;grind
def Nj(W:WF s m){c:Nat}:Good ((Ng s m c).getD (mo s m).length aq)/\val ((Ng s m c).getD (mo s m).length aq)=rhs s m c:=by
 unfold Ng;rw[ax,cF (by rw[aa,bj];exact ao _),aa,bj,yI];show Good (cA _)/\val (cA _)=_;refine⟨eD _,?_⟩;rw[oo,BO,bc];rw[show((0:Int):Rat)=0 from rfl,Kz W.len,gZ];unfold rhs;have e3:∀l:List (a5a×Option (Int×Nat)),-(l.map fun y=>match y.2 with | none=>(0:Rat) | some (v,w)=>D s m y c*(v:Rat)).sum=(l.map fun y=>(-1)*match y.2 with | none=>(0:Rat) | some (v,w)=>D s m y c*(v:Rat)).sum:=fun l=>by rw[qz];grind
 rw[e3,Rat.zero_add];refine dN fun y hy=>?_;obtain⟨x,o⟩:=y
 cases o with
 | none=>simp only[Ky];grind
 | some k=>
  obtain⟨v,w⟩:=k;simp only[Ky,D,lI];by_cases h1:(free s m).getD x.src 0=(free s m).getD x.dst 0
  ·rw[if_pos h1,h1];simp only;grind
  ·rw[if_neg h1];by_cases h2:(free s m).getD x.dst 0=c
   ·rw[if_pos h2,if_pos h2,if_neg (show ¬(free s m).getD x.src 0=c by rw[<-h2];exact h1)];simp only;push_cast;grind
   ·rw[if_neg h2,if_neg h2];by_cases h4:(free s m).getD x.src 0=c
    ·rw[if_pos h4,if_pos h4];simp only;grind
    ·rw[if_neg h4,if_neg h4];simp only;grind
def zU:Shape (mr s m) (mo s m).length:=by
 refine⟨by unfold mr;rw[aa],fun r hr=>?_⟩;unfold mr at hr;rw[aZ]at hr;obtain⟨c,_,rfl⟩:=hr;unfold Ng;rw[aE,aa,bj];rfl
def HD(W:WF s m):xV (mr s m):=by
 intro r hr x hx;have hl:=zU.cols r hr;unfold mr at hr;rw[aZ]at hr;obtain⟨c,_,rfl⟩:=hr;obtain⟨j,hj,rfl⟩:=uA hx;rw[<-fq (d:=aq) hj];by_cases h:j<(mo s m).length
 ·exact(KA W (aV h)).1
 ·have:j=(mo s m).length:=!0
  rw[this];exact(Nj W).1
def EG(W:WF s m){i j c u:Nat}(hi:(mo s m)[i]? =some c)(hj:(mo s m)[j]? =some u):nN (mr s m) i j=U6 s m c u:=by
 have ED:=(ag.mp hi);unfold nN mr;rw[getD_map (d':=0) ED.1,fq ED.1,ED.2];exact(KA W hj).2
def Nk(W:WF s m){i c:Nat}(hi:(mo s m)[i]? =some c):nN (mr s m) i (mo s m).length=rhs s m c:=by
 have ED:=(ag.mp hi);unfold nN mr;rw[getD_map (d':=0) ED.1,fq ED.1,ED.2];exact(Nj W).2
end
def Sol(B:Nat->vV)(n:Nat)(x:Nat->Rat):Prop:=∀i,i<n->(sumTo n fun j=>B i j*x j)=B i n
def Df{n i:Nat}(hi:i<n)(x:Nat->Rat):(sumTo n fun j=>(if i=j then 1 else 0)*x j)=x i:=by
 induction n with
 | zero=>omega
 | succ n ih=>
  simp only[sumTo];by_cases e:i=n
  ·subst e;rw[if_pos rfl,dE (g:=fun _=>0) fun t ht=>by rw[if_neg (!0)];grind,rH];grind
  ·rw[ih (!0),if_neg e];grind
theorem Nl{A:Nat->vV}{n:Nat}(hp:∀t,t<n->gj A t t t≠0){x:Nat->Rat}:∀{k:Nat},k<=n->Sol (gj A k) n x->Sol A n x
 | 0,_,h=>h
 | k+1,hk,h=>by
  refine Nl hp (k:=k) (!0) fun i hi=>?_;have hs:=hp k (!0);have S5:=h k (!0);have Tw:(sumTo n fun j=>gj A k k j*x j)=gj A k k n:=by
   simp only[gj]at S5;rw[if_pos trivial]at S5;have:(sumTo n fun j=>gj A k k j*x j)=gj A k k k*sumTo n fun j=>(if True then gj A k k j/gj A k k k else gj A k k j-gj A k k k*(gj A k k j/gj A k k k))*x j:=by
    rw[<-km];exact dE fun j _=>by rw[if_pos trivial];grind
   rw[this];have e3:(sumTo n fun j=>(if True then gj A k k j/gj A k k k else gj A k k j-gj A k k k*(gj A k k j/gj A k k k))*x j)=gj A k k n/gj A k k k:=S5;rw[e3];grind
  by_cases e:i=k
  ·rw[e];exact Tw
  ·have h1:=h i hi;simp only[gj]at h1;rw[if_neg e]at h1;have:(sumTo n fun j=>gj A k i j*x j)=(sumTo n fun j=>(if i=k then gj A k k j/gj A k k k else gj A k i j-gj A k i k*(gj A k k j/gj A k k k))*x j)+(gj A k i k/gj A k k k)*sumTo n fun j=>gj A k k j*x j:=by
    rw[<-km,<-uS];exact dE fun j _=>by rw[if_neg e];grind
   rw[this,h1,Tw];grind
def ZI{A:Nat->vV}{n:Nat}(hp:∀t,t<n->gj A t t t≠0):Sol A n fun i=>gj A n i n:=by
 refine Nl hp (ao n) fun i hi=>?_;rw[dE (g:=fun j=>(if i=j then 1 else 0)*gj A n j n) fun j hj=>by rw[AZ hp i j hj]];exact Df hi _
section
variable {s:cg}{m:aJ}
def om(y:a5a×Option (Int×Nat)):Rat:=match y.2 with
 | none=>0
 | some (v,w)=>1/(w:Rat)
def va(y:a5a×Option (Int×Nat)):Rat:=match y.2 with
 | none=>0
 | some (v,w)=>(v:Rat)
def LI(c u:Nat):U6 s m c u=((s.streams.zip m).map fun y=>om y*(D s m y c*D s m y u)).sum:=by
 unfold U6;refine dN fun y hy=>?_;obtain⟨x,o⟩:=y
 cases o with
 | none=>simp only[om];grind
 | some k=>simp only[om];grind
def U7(c:Nat):rhs s m c= -((s.streams.zip m).map fun y=>D s m y c*va y).sum:=by
 unfold rhs;congr 1;refine dN fun y hy=>?_;obtain⟨x,o⟩:=y
 cases o with
 | none=>simp only[va];grind
 | some k=>simp only[va]
def U(s:cg)(m:aJ)(i:Nat):Nat:=(mo s m).getD i 0
def zV{i:Nat}(h:i<(mo s m).length):(mo s m)[i]? =some (U s m i):=by
 unfold U;rw[fq h];exact aV h
def a1u{i j:Nat}(hi:i<(mo s m).length)(hj:j<(mo s m).length)(e:U s m i=U s m j):i=j:=by
 have h1:=zV hi;have h2:=zV hj;rw[<-e]at h2;have:=(mB (x:=U s m i) rJ).mpr h1;have h3:=(mB (x:=U s m i) rJ).mpr h2;rw[this]at h3;exact be h3
def YA{i:Nat}(h:i<(mo s m).length):U s m i∈mo s m:=aD (zV h)
def Z(s:cg)(m:aJ)(n:Nat)(x:Nat->Rat)(l:Nat):Rat:=sumTo n fun i=>x i*(if l=U s m i then 1 else 0)
def U8(n:Nat)(x:Nat->Rat)(y:a5a×Option (Int×Nat)):(sumTo n fun i=>x i*D s m y (U s m i))=Z s m n x ((free s m).getD y.1.dst 0)-Z s m n x ((free s m).getD y.1.src 0):=by
 unfold Z;have:(sumTo n fun i=>x i*D s m y (U s m i))=(sumTo n fun i=>x i*(if(free s m).getD y.1.dst 0=U s m i then 1 else 0))+(-1)*sumTo n fun i=>x i*(if(free s m).getD y.1.src 0=U s m i then 1 else 0):=by
  rw[<-km,<-uS];exact dE fun i _=>by unfold D;grind
 rw[this];grind
def a1v{n i:Nat}(x:Nat->Rat)(hn:n<=(mo s m).length)(hi:i<n):Z s m n x (U s m i)=x i:=by
 unfold Z;rw[<-Df hi x];refine dE fun j hj=>?_;by_cases e:i=j
 ·subst e;rw[if_pos rfl,if_pos rfl];grind
 ·rw[if_neg e,if_neg fun q=>e (a1u (!0) (!0) q)];grind
def YB{n l:Nat}(x:Nat->Rat)(hn:n<=(mo s m).length)(hl:l∉mo s m):Z s m n x l=0:=by
 unfold Z;rw[dE (g:=fun _=>0) fun i hi=>by rw[if_neg (show ¬l=U s m i from fun q=>hl (by rw[q];exact YA (!0)))];grind,rH]
def WF.HE(W:WF s m){v:Nat}(hv:v<s.nodes.length+1):(free s m).getD v 0<s.nodes.length+1:=ig (W.Ca.le v hv) hv
def WF.KC(W:WF s m){v:Nat}(hv:v<s.nodes.length+1):(oV s).getD v 0<s.nodes.length+1:=ig (W.Nf.le v hv) hv
def LJ{p:Nat×Nat}(h:p∈iP s m):p∈s.streams.map bB:=by
 unfold iP at h;rw[aZ]at h ⊢;obtain⟨y,hy,rfl⟩:=h;exact⟨y.1,(cn (dR.mp hy).1).1,rfl⟩
def WF.HF(W:WF s m){v:Nat}(hv:v<s.nodes.length+1):(oV s).getD v 0=(oV s).getD ((free s m).getD v 0) 0:=
 W.Ca.const (fun v=>(oV s).getD v 0) (fun p hp=>W.Nf.pair p (LJ hp)) v hv
def WF.root(W:WF s m){v:Nat}(hv:v<s.nodes.length+1):(free s m).getD ((oV s).getD v 0) 0∉mo s m:=by
 intro h;have h1:=W.KC hv;rw[He]at h;have h2:=W.HF h1;rw[W.Nf.idem v hv]at h2;have h3:=W.Ca.le _ h1;have h4:=W.Nf.le _ h.1;apply h.2.2;omega
def xX{y:a5a×Option (Int×Nat)}(h:y∈s.streams.zip m):y.1∈s.streams:=(cn h).1
def Pd(hl:m.length=s.streams.length){x:a5a}(h:x∈s.streams):∃o,(x,o)∈s.streams.zip m:=by
 obtain⟨i,hi,e⟩:=uA h;refine⟨m[i],?_⟩;have:(s.streams.zip m)[i]'(by rw[cI,hl,ke];exact hi)=(x,m[i]):=by rw[fU,e]
 rw[<-this];exact fS _
def U9(W:WF s m){x:a5a}{v:Int}{w:Nat}(h:(x,some (v,w))∈s.streams.zip m):0<(w:Rat):=by
 have:=W.wt v w (cn h).2
 exact_mod_cast this
def Sa(W:WF s m){y:a5a×Option (Int×Nat)}(h:y∈s.streams.zip m):0<=om y:=by
 obtain⟨x,o⟩:=y
 cases o with
 | none=>show(0:Rat)<=0;decide
 | some k=>
  obtain⟨v,w⟩:=k;have:=U9 W h;show 0<=1/(w:Rat);have e:1/(w:Rat)=(w:Rat)⁻¹:=by grind
  rw[e];exact Rat.le_of_lt (Rat.inv_pos.mpr this)
def Nm(W:WF s m){k:Nat}(hk:k<(mo s m).length){x:Nat->Rat}(hx:x k=1):
  0<sumTo (k+1) fun i=>x i*sumTo (k+1) fun j=>nN (mr s m) i j*x j:=by
 have e:(sumTo (k+1) fun i=>x i*sumTo (k+1) fun j=>nN (mr s m) i j*x j)=((s.streams.zip m).map fun y=>om y*((Z s m (k+1) x ((free s m).getD y.1.dst 0)-Z s m (k+1) x ((free s m).getD y.1.src 0))*(Z s m (k+1) x ((free s m).getD y.1.dst 0)-Z s m (k+1) x ((free s m).getD y.1.src 0)))).sum:=by
  have e1:∀i,i<k+1->(x i*sumTo (k+1) fun j=>nN (mr s m) i j*x j)=((s.streams.zip m).map fun y=>(x i*D s m y (U s m i))*(om y*sumTo (k+1) fun j=>x j*D s m y (U s m j))).sum:=by
   intro i hi;have e2:(sumTo (k+1) fun j=>nN (mr s m) i j*x j)=sumTo (k+1) fun j=>((s.streams.zip m).map fun y=>x j*(om y*(D s m y (U s m i)*D s m y (U s m j)))).sum:=
    dE fun j hj=>by
     rw[EG W (zV (!0)) (zV (!0)),LI,qz];grind
   rw[e2,xW,<-qz];refine dN fun y _=>?_;have e3:(sumTo (k+1) fun j=>x j*(om y*(D s m y (U s m i)*D s m y (U s m j))))=(om y*D s m y (U s m i))*sumTo (k+1) fun j=>x j*D s m y (U s m j):=by
    rw[<-km];exact dE fun j _=>by grind
   rw[e3];grind
  rw[dE e1,xW];refine dN fun y _=>?_;have e4:(sumTo (k+1) fun i=>(x i*D s m y (U s m i))*(om y*sumTo (k+1) fun j=>x j*D s m y (U s m j)))=(om y*sumTo (k+1) fun j=>x j*D s m y (U s m j))*sumTo (k+1) fun i=>x i*D s m y (U s m i):=by
   generalize (om y*sumTo (k+1) fun j=>x j*D s m y (U s m j))=K;rw[<-km];exact dE fun j _=>by grind
  rw[e4,U8];grind
 rw[e];have hnn:∀y∈s.streams.zip m,0<=om y*((Z s m (k+1) x ((free s m).getD y.1.dst 0)-Z s m (k+1) x ((free s m).getD y.1.src 0))*(Z s m (k+1) x ((free s m).getD y.1.dst 0)-Z s m (k+1) x ((free s m).getD y.1.src 0))):=
  fun y hy=>Aw (Sa W hy) (sq_nonneg _)
 refine kT fun q=>?_;have Tx:((s.streams.zip m).map fun y=>om y*((Z s m (k+1) x ((free s m).getD y.1.dst 0)-Z s m (k+1) x ((free s m).getD y.1.src 0))*(Z s m (k+1) x ((free s m).getD y.1.dst 0)-Z s m (k+1) x ((free s m).getD y.1.src 0)))).sum<=0:=by grind
 have h0:=Dc hnn Tx;have hc:∀p∈s.streams.map bB,Z s m (k+1) x ((free s m).getD p.1 0)=Z s m (k+1) x ((free s m).getD p.2 0):=by
  intro p hp;rw[aZ]at hp;obtain⟨st,vU,rfl⟩:=hp;obtain⟨o,ho⟩:=Pd W.len vU
  cases o with
  | none=>
   have:bB st∈iP s m:=by
    unfold iP;rw[aZ];exact⟨(st,none),dR.mpr ⟨ho,rfl⟩,rfl⟩
   rw[W.Ca.pair _ this]
  | some kk=>
   obtain⟨v,w⟩:=kk;have hz:=h0 _ ho;have hw:=U9 W ho;simp only[om]at hz;have hw2:(1:Rat)/(w:Rat)≠0:=by grind
   show Z s m (k+1) x ((free s m).getD st.src 0)=Z s m (k+1) x ((free s m).getD st.dst 0);have:=WO (x:=Z s m (k+1) x ((free s m).getD st.dst 0)-Z s m (k+1) x ((free s m).getD st.src 0)) (by grind);grind
 have hm:=YA hk;have WM:=He.mp hm;have hg:=W.Nf.const (fun v=>Z s m (k+1) x ((free s m).getD v 0)) hc (U s m k) WM.1;rw[WM.2.1,a1v x (!0) (!0),hx,YB x (!0) (W.root WM.1)]at hg;exact absurd hg ck
def fD(e:Nat×Nat)(node:Nat):Int:=(if e.2=node then 1 else 0)-(if e.1=node then 1 else 0)
abbrev rK:=(Nat×Nat)×Int×Nat
def Pe(fr:bL)(y:(Nat×Nat)×Option (Int×Nat)):Option rK:=y.2.map fun k=>((fr.getD y.1.1 0,fr.getD y.1.2 0),k.1,k.2)
def wJ(fr:bL)(ends:iS)(m:aJ):List rK:=(ends.zip m).filterMap (Pe fr)
def wK(ws:bL):Nat:=ws.foldl (fun r w=>r/dJ r w*w) 1
theorem lcm_pos:∀(ws:bL) (r:Nat),0<r->(∀w∈ws,0<w)->0<ws.foldl (fun r w=>r/dJ r w*w) r
 | [],r,h,_=>h
 | w::ws,r,h,hw=>by
  have h1:0<w:=hw w (!1);refine lcm_pos ws _ (ki (Nat.div_pos (Nat.le_of_dvd h (so _ _)) (Nat.gcd_pos_of_pos_left _ h)) h1) fun x hx=>hw x (by simp[hx])
def LK(r w:Nat):r∣r/dJ r w*w:=by
 obtain⟨a,ha⟩:=so r w;obtain⟨b,hb⟩:=wD r w;by_cases h:dJ r w=0
 ·have:=Nat.eq_zero_of_gcd_eq_zero_left h;have h2:=Nat.eq_zero_of_gcd_eq_zero_right h;subst this;subst h2;exact⟨0,rfl⟩
 ·refine⟨b,?_⟩;have e:r/dJ r w=a:=by
   have:dJ r w*a/dJ r w=a:=qp _ (!0);rw[<-ha]at this;exact this
  rw[e]
  calc a*w=a*(dJ r w*b):=by rw[<-hb]
   _=(dJ r w*a)*b:=by rw[<-Nat.mul_assoc,uO a]
   _=r*b:=by rw[<-ha]
theorem KE:∀(ws:bL) (r:Nat),r∣ws.foldl (fun r w=>r/dJ r w*w) r
 | [],r=>Nat.dvd_refl _
 | w::ws,r=>Nat.dvd_trans (LK r w) (KE ws _)
theorem lcm_dvd:∀(ws:bL) (r w:Nat),w∈ws->w∣ws.foldl (fun r w=>r/dJ r w*w) r
 | x::ws,r,w,h=>by
  rw[fP];rcases bQ.mp h with rfl | h
  ·exact Nat.dvd_trans (Nat.dvd_mul_left _ _) (KE ws _)
  ·exact lcm_dvd ws _ w h
def uZ(unknown:bL)(links:List rK)(scale:Nat)(group:Nat):cE:=
 unknown.map (fun other=>(links.map fun l=>fD l.1 group*fD l.1 other*((scale/l.2.2:Nat):Int)).sum)++[-(links.map fun l=>fD l.1 group*l.2.1).sum*(scale:Int)]
def rM(Jw unknown:bL)(found:xi):xi:=Jw.map fun g=>((unknown.zip found).lookup g).getD (0,1)
def zW(size:Nat)(ends:iS)(m:aJ):xi:=
 let Jw:=i8 size (((ends.zip m).filter fun y=>y.2.isNone).map (·.1));let E6:=i8 size ends;let links:=wJ Jw ends m;let unknown:=(ay size).filter fun v=>Jw.getD v 0 == v && E6.getD v 0 != v;let scale:=wK (links.map fun l=>l.2.2)
 rM Jw unknown (iy (unknown.map (uZ unknown links scale)))
theorem xY{α:Type}(f:α->Int):∀l:List α,(((l.map f).sum:Int):Rat)=(l.map fun x=>(f x:Rat)).sum
 | []=>rfl
 | x::l=>by rw[cM,mY,gX,<-xY f l];push_cast;rfl
def links(s:cg)(m:aJ):List rK:=wJ (free s m) (s.streams.map bB) m
theorem xk{α β γ:Type}(f:α->β):∀(l:List α) (k:List γ),(l.map f).zip k=(l.zip k).map fun y=>(f y.1,y.2)
 | [],_=>rfl
 | _::_,[]=>rfl
 | a::l,c::k=>by simp only[cM,vI,xk f l k]
def HG:links s m=(s.streams.zip m).filterMap fun y=>y.2.map fun k=>(((free s m).getD y.1.src 0,(free s m).getD y.1.dst 0),k.1,k.2):=by
 unfold links wJ;rw[xk,je];rfl
def Pf(y:a5a×Option (Int×Nat))(c:Nat):((fD ((free s m).getD y.1.src 0,(free s m).getD y.1.dst 0) c:Int):Rat)=D s m y c:=by
 unfold fD D;simp only
 split<;>split<;>push_cast<;>grind
def Nn(W:WF s m):∀l∈links s m,0<l.2.2:=by
 intro l hl;rw[HG,gw]at hl;obtain⟨y,hy,e⟩:=hl;obtain⟨x,o⟩:=y
 cases o with
 | none=>cases e
 | some k=>cases e;exact W.wt k.1 k.2 (cn hy).2
def jk(s:cg)(m:aJ):Nat:=wK ((links s m).map fun l=>l.2.2)
def KG(W:WF s m):0<jk s m:=lcm_pos _ _ ck fun w hw=>by
 rw[aZ]at hw;obtain⟨l,hl,rfl⟩:=hw;exact Nn W l hl
def Sb(W:WF s m){l:rK}(hl:l∈links s m):(((jk s m/l.2.2:Nat):Int):Rat)=(jk s m:Rat)*(1/(l.2.2:Rat)):=by
 have h:l.2.2∣jk s m:=lcm_dvd _ _ _ (aZ.mpr ⟨l,hl,rfl⟩);obtain⟨a,ha⟩:=h;have hw:=Nn W l hl;have e:jk s m/l.2.2=a:=by rw[ha];exact qp _ hw
 have h2:=oO hw;rw[e,ha]
 push_cast
 grind
def lU(s:cg)(m:aJ):gP:=(mo s m).map (uZ (mo s m) (links s m) (jk s m))
def we:Shape (lU s m) (mo s m).length:=by
 refine⟨by unfold lU;rw[aa],fun r hr=>?_⟩;unfold lU at hr;rw[aZ]at hr;obtain⟨c,_,rfl⟩:=hr;unfold uZ;rw[aE,aa];rfl
def EH(W:WF s m){i j:Nat}(hi:i<(mo s m).length)(hj:j<(mo s m).length+1):(ent (lU s m) i j:Rat)=(jk s m:Rat)*nN (mr s m) i j:=by
 have Sd:(lU s m).getD i []=uZ (mo s m) (links s m) (jk s m) (U s m i):=by
  unfold lU U;rw[getD_map (d':=0) hi]
 unfold ent;rw[Sd];unfold uZ;by_cases h:j<(mo s m).length
 ·rw[ax,bZ (by rw[aa];exact h),aC,zV h];simp only[iW,oE];rw[xY,EG W (zV hi) (zV h),LI,<-qz];rw[dN (g:=fun l:rK=>((fD l.1 (U s m i):Int):Rat)*((fD l.1 (U s m j):Int):Rat)*((jk s m:Rat)*(1/(l.2.2:Rat)))) fun l hl=>by
   rw[<-Sb W hl];push_cast;rfl]
  rw[HG,gZ];refine dN fun y hy=>?_;obtain⟨x,o⟩:=y
  cases o with
  | none=>simp only[zu,om];grind
  | some k=>
   simp only[iW,om];have e1:=Pf (s:=s) (m:=m) (x,some k) (U s m i);have e2:=Pf (s:=s) (m:=m) (x,some k) (U s m j);simp only at e1 e2;rw[e1,e2];grind
 ·have hjn:j=(mo s m).length:=!0
  subst hjn;rw[ax,cF (by rw[aa];exact ao _),aa,yI];simp only[List.getElem?_cons_zero,oE];rw[Nk W (zV hi),U7]
  push_cast
  rw[xY];have e:((links s m).map fun l=>((fD l.1 (U s m i)*l.2.1:Int):Rat)).sum=((s.streams.zip m).map fun y=>D s m y (U s m i)*va y).sum:=by
   rw[dN (g:=fun l:rK=>((fD l.1 (U s m i):Int):Rat)*(l.2.1:Rat)) fun l hl=>by push_cast;rfl];rw[HG,gZ];refine dN fun y hy=>?_;obtain⟨x,o⟩:=y
   cases o with
   | none=>simp only[zu,va];grind
   | some k=>
    simp only[iW,va];have e1:=Pf (s:=s) (m:=m) (x,some k) (U s m i);simp only at e1;rw[e1]
  rw[e];grind
theorem HH{α:Type}{g:Nat}{d:α}:∀{u:bL} {f:List α},u.length=f.length->((u.zip f).lookup g).getD d=match u.findIdx? (fun c=>c == g)with
  | some i=>f.getD i d
  | none=>d
 | [],[],_=>rfl
 | a::u,b::f,h=>by
  rw[vI,bP,CH];by_cases e:g=a
  ·subst e;simp
  ·have e1:(g == a)=false:=by simp[e]
   have e2:(a == g)=false:=by simp;omega
   rw[e1,e2];simp only[bU,if_false];rw[HH (u:=u) (f:=f) (by simpa using h)]
   cases u.findIdx? (fun c=>c == g)with
   | none=>rfl
   | some i=>simp
structure jJ(s:cg)(m:aJ)(P:List Q):Prop where
 len:P.length=s.nodes.length+1
 good:∀x∈P,Good x
 grp:∀v,v<s.nodes.length+1->P.getD v aq=P.getD ((free s m).getD v 0) aq
 root:∀v,v<s.nodes.length+1->P.getD ((oV s).getD v 0) aq=aq
 bal:∀c∈mo s m,((s.streams.zip m).map fun y=>D s m y c*(va y+om y*(val (P.getD y.1.dst aq)-val (P.getD y.1.src aq)))).sum=0
def nO(W:WF s m):jJ s m (cU s m)/\zW (s.nodes.length+1) (s.streams.map bB) m=(cU s m).map eV:=by
 have BY:(0:Rat)<(jk s m:Rat):=by exact_mod_cast KG W
 obtain⟨xs,h1,h2,h3,h4,h5⟩:=Kx BY (we (s:=s) (m:=m)) zU (HD W) (fun i j hi hj=>EH W hi hj) fun t ht hu=>by
  obtain⟨y,yk,_,e⟩:=HA (A:=nN (mr s m)) hu;rw[e];exact Nm W ht yk
 have h5':∀t,t<(mo s m).length->gj (nN (mr s m)) t t t≠0:=fun t ht e=>by have:=h5 t ht;rw[e]at this;exact absurd this ck
 have a3r:=ZI h5'
 have hn:cU s m=(ay (s.nodes.length+1)).map fun v=>match place s m v with
  | some i=>xs.getD i aq
  | none=>aq:=by rw[Nh,h1]<;>rfl
 have Tz:∀v,v<s.nodes.length+1->(cU s m).getD v aq=match place s m v with
  | some i=>xs.getD i aq
  | none=>aq:=fun v hv=>by
  rw[hn,getD_map (d':=0) (by rw[dy];exact hv),fq (by rw[dy];exact hv),jd]
 have a3j:∀v,v<s.nodes.length+1->val ((cU s m).getD v aq)=Z s m (mo s m).length (fun i=>gj (nN (mr s m)) (mo s m).length i (mo s m).length) ((free s m).getD v 0):=fun v hv=>by
  rw[Tz v hv]
  cases e:place s m v with
  | none=>
   simp only;have hm:(free s m).getD v 0∉mo s m:=Dd.mp e;rw[YB _ (ao _) hm,val_zero]
  | some i=>
   simp only;have hi:=(mB rJ).mp e;have ED:=(ag.mp hi).1;have:(free s m).getD v 0=U s m i:=by
    have q:=zV ED;rw[hi]at q;exact be q
   rw[this,a1v _ (ao _) ED,(h3 i ED).2]
 refine⟨⟨by rw[hn,aa,dy],?_,?_,?_,?_⟩,?_⟩
 ·intro x hx;rw[hn,aZ]at hx;obtain⟨v,hv,rfl⟩:=hx
  cases e:place s m v with
  | none=>exact il
  | some i=>
   have hi:=(mB rJ).mp e;exact(h3 i (ag.mp hi).1).1
 ·intro v hv;rw[Tz v hv,Tz _ (W.HE hv)];have:place s m ((free s m).getD v 0)=place s m v:=by
   unfold place pM;rw[W.Ca.idem v hv]
  rw[this]
 ·intro v hv;rw[Tz _ (W.KC hv)];have:place s m ((oV s).getD v 0)=none:=Dd.mpr (W.root hv);rw[this]
 ·intro c hc;obtain⟨i,hi⟩:=List.getElem?_of_mem hc;have ED:=(ag.mp hi).1;have hs:=a3r i ED;rw[Nk W hi,U7]at hs;have e1:(sumTo (mo s m).length fun j=>nN (mr s m) i j*gj (nN (mr s m)) (mo s m).length j (mo s m).length)=((s.streams.zip m).map fun y=>D s m y c*(om y*(val ((cU s m).getD y.1.dst aq)-val ((cU s m).getD y.1.src aq)))).sum:=by
   have e2:(sumTo (mo s m).length fun j=>nN (mr s m) i j*gj (nN (mr s m)) (mo s m).length j (mo s m).length)=sumTo (mo s m).length fun j=>((s.streams.zip m).map fun y=>gj (nN (mr s m)) (mo s m).length j (mo s m).length*(om y*(D s m y c*D s m y (U s m j)))).sum:=
    dE fun j hj=>by
     rw[EG W hi (zV hj),LI,qz];grind
   rw[e2,xW];refine dN fun y hy=>?_;have hb:=W.ends _ (xX hy);rw[a3j _ hb.1,a3j _ hb.2,<-U8];rw[<-km,<-km];exact dE fun j _=>by grind
  rw[e1]at hs;have e3:((s.streams.zip m).map fun y=>D s m y c*(va y+om y*(val ((cU s m).getD y.1.dst aq)-val ((cU s m).getD y.1.src aq)))).sum=((s.streams.zip m).map fun y=>D s m y c*va y).sum+((s.streams.zip m).map fun y=>D s m y c*(om y*(val ((cU s m).getD y.1.dst aq)-val ((cU s m).getD y.1.src aq)))).sum:=by
   rw[<-zT];exact dN fun y _=>by grind
  rw[e3,hs];grind
 ·have hg:i8 (s.nodes.length+1) ((((s.streams.map bB).zip m).filter fun y=>y.2.isNone).map (·.1))=free s m:=by
   rw[B0 W.len];unfold iP;rw[xk,mR,bc];rfl
  have ha:i8 (s.nodes.length+1) (s.streams.map bB)=oV s:=(any_join s).symm;unfold zW;simp only[hg,ha];show rM (free s m) (mo s m) (iy (lU s m))=_;rw[h4,hn];unfold rM;apply fV
  ·rw[aa,aa,aa,dy,W.Ca.len]
  ·intro v q1 q2;rw[aa,W.Ca.len]at q1;rw[bK,bK,bK,jd,HH (by rw[aa];exact h2.symm)];have e:(free s m)[v]'(by rw[W.Ca.len];exact q1)=pM (free s m) v:=(fq (by rw[W.Ca.len];exact q1)).symm;rw[e];show(match place s m v with | some i=>(xs.map eV).getD i (0,1) | none=>(0,1))=eV (match place s m v with | some i=>xs.getD i aq | none=>aq)
   cases e:place s m v with
   | none=>rfl
   | some i=>
    have hi:=(mB rJ).mp e;have ED:=(ag.mp hi).1;simp only;rw[getD_map (d':=aq) (!0)]
end
abbrev F:=Int×Int
def fK(l r:F):F:=cZ (l.1*r.2+r.1*l.2) (l.2*r.2)
def j6(l r:F):F:=cZ (l.1*r.2-r.1*l.2) (l.2*r.2)
def js(x:F)(n:Int):F:=cZ (x.1*n) x.2
def pOver(x:F)(n:Int):F:=cZ x.1 (x.2*n)
def jl(x:F):F:=(x.1*x.1,x.2*x.2)
def WQ{x y:Q}(h:eV x=eV y):x=y:=by
 cases x;cases y;unfold eV at h;simp only[Kn]at h;simp only[iO.mk.injEq];omega
def v7{x:Q}(h:Good x):(0:Int)<(x.den:Int):=by have:=h.1;omega
def KH{x y:Q}(hx:Good x)(hy:Good y):fK (eV x) (eV y)=eV (lH x y):=by
 unfold fK eV;simp only;rw[tz (jC (v7 hx) (v7 hy))];unfold lH eV;have:((x.den:Int)*(y.den:Int)).toNat=x.den*y.den:=by rw[<-kY,bH]
 rw[this]
def xZ{x y:Q}(hx:Good x)(hy:Good y):j6 (eV x) (eV y)=eV (ie x y):=by
 unfold j6 eV;simp only;rw[tz (jC (v7 hx) (v7 hy))];unfold ie lH jc eV;have:((x.den:Int)*(y.den:Int)).toNat=x.den*y.den:=by rw[<-kY,bH]
 rw[this];simp only[Int.neg_mul];rw[<-CI]
def Cb{x:Q}(hx:Good x)(n:Int):js (eV x) n=eV (eU x (cA n)):=by
 unfold js eV;simp only;rw[tz (v7 hx)];unfold eU cA eV;simp only[bH,Nat.mul_one]
def KI{x:Q}(hx:Good x){w:Nat}(hw:0<w):pOver (eV x) (w:Int)=eV (eU x (jA 1 w)):=by
 unfold pOver;have e:eU x (jA 1 w)=jA x.num (x.den*w):=by
  apply t9 (iG hx (ng hw)) (ng (ki hx.1 hw));rw[val_mul hx (ng hw),BM hw,BM (ki hx.1 hw)];have h1:=oO hx.1;have h2:=oO hw;unfold val
  push_cast
  grind
 rw[e];unfold eV;simp only;rw[tz (jC (v7 hx) (!0))];have:((x.den:Int)*(w:Int)).toNat=x.den*w:=by rw[<-kY,bH]
 rw[this];rfl
def Np{x:Q}(hx:Good x):jl (eV x)=eV (eU x x):=by
 have e:eU x x=⟨x.num*x.num,x.den*x.den⟩:=by
  have g:Good ⟨x.num*x.num,x.den*x.den⟩:=by
   refine⟨ki hx.1 hx.1,?_⟩;show dJ (x.num*x.num).natAbs (x.den*x.den)=1;rw[vG];have h:Gm x.num.natAbs x.den:=hx.2;exact Gm.mul_left (zH h h) (zH h h)
  apply t9 (iG hx hx) g;rw[val_mul hx hx];have h1:=oO hx.1;unfold val
  push_cast
  grind
 rw[e];unfold jl eV;simp only
 push_cast
 rfl
def Nq:eV aq=(0,1):=rfl
def KJ(a:Int):eV (cA a)=(a,1):=rfl
theorem y4{α:Type}(g:α->Option F)(h:α->Option Q):∀(l:List α) (a:Q),Good a->(∀x∈l,g x=(h x).map eV/\∀q,h x=some q->Good q)->
  l.foldl (fun c x=>match g x with | none=>c | some f=>fK c f) (eV a)=eV ((l.filterMap h).foldl lH a)
 | [],a,_,_=>rfl
 | x::l,a,ha,hl=>by
  have h1:=hl x (!1);rw[fP,eY]
  cases e:h x with
  | none=>
   rw[h1.1,e];exact y4 g h l a ha fun y hy=>hl y (by simp[hy])
  | some q=>
   rw[h1.1,e];simp only[iW];rw[KH ha (h1.2 q e)];exact y4 g h l _ (good_add ha (h1.2 q e)) fun y hy=>hl y (by simp[hy])
def v8(nums:List F)(ends:iS)(i:Nat):F:=j6 (nums.getD (ends.getD i (0,0)).2 (0,1)) (nums.getD (ends.getD i (0,0)).1 (0,1))
def h9(nums:List F)(ends:iS)(m:aJ):F:=m.zipIdx.foldl (fun c x=>match x.1 with
 | none=>c
 | some k=>fK c (pOver (jl (v8 nums ends x.2)) (k.2:Int))) (0,1)
def gI(size:Nat)(ends:iS)(m:aJ)(i:Nat):bL:=i8 size ((ends.zipIdx.filter fun x=>x.2 != i && (m.getD x.2 none).isNone).map (·.1))
def iH(size:Nat)(ends:iS)(m:aJ)(i:Nat):Bool:=decide ((gI size ends m i).getD (ends.getD i (0,0)).1 0≠(gI size ends m i).getD (ends.getD i (0,0)).2 0)
def qb(nums:List F)(ends:iS)(m:aJ)(i:Nat):F:=match m.getD i none with
 | none=>(0,1)
 | some k=>fK (k.1,1) (pOver (v8 nums ends i) (k.2:Int))
def lV(nums:List F)(ends:iS)(m:aJ)(g:bL)(Ww:Nat)(f:F)(x:(Nat×Nat)×Nat):F:=
 if fD (g.getD x.1.1 0,g.getD x.1.2 0) Ww≠0/\(m.getD x.2 none).isSome=true then j6 f (js (qb nums ends m x.2) (fD (g.getD x.1.1 0,g.getD x.1.2 0) Ww))else f
def j7(size:Nat)(nums:List F)(ends:iS)(m:aJ)(i:Nat):F:=
 ends.zipIdx.foldl (lV nums ends m (gI size ends m i) ((gI size ends m i).getD (ends.getD i (0,0)).2 0)) (0,1)
def cu(size:Nat)(nums:List F)(ends:iS)(m:aJ)(i:Nat):Nat×F:=
 if(m.getD i none).isSome=true then(if iH size ends m i=true then 2 else 1,qb nums ends m i)
 else if iH size ends m i=true then(3,j7 size nums ends m i)else(0,(0,1))
section
variable {s:cg}{m:aJ}{P:List Q}
def pv(P:List Q)(v:Nat):Q:=P.getD v aq
def jJ.at(N:jJ s m P)(v:Nat):Good (pv P v):=kr N.good v
def Dg(P:List Q)(v:Nat):(P.map eV).getD v (0,1)=eV (pv P v):=by
 unfold pv;rw[ax,aC,ax]
 cases P[v]? <;>rfl
def LL{i:Nat}{x:a5a}(h:s.streams[i]? =some x):(s.streams.map bB).getD i (0,0)=(x.src,x.dst):=by
 rw[ax,aC,h];rfl
def FW(P:List Q)(x:a5a):Q:=ie (pv P x.dst) (pv P x.src)
def oq(N:jJ s m P)(x:a5a):Good (FW P x):=lS (N.at _) (N.at _)
def QF(N:jJ s m P){i:Nat}{x:a5a}(h:s.streams[i]? =some x):v8 (P.map eV) (s.streams.map bB) i=eV (FW P x):=by
 unfold v8 FW;rw[LL h,Dg,Dg,xZ (N.at _) (N.at _)]
def Dh(P:List Q)(x:a5a)(k:Int×Nat):Q:=lH (cA k.1) (eU (FW P x) (jA 1 k.2))
def ot(N:jJ s m P)(x:a5a){k:Int×Nat}(hw:0<k.2):Good (Dh P x k):=good_add (eD _) (iG (oq N x) (ng hw))
def Nr(N:jJ s m P)(x:a5a){k:Int×Nat}(hw:0<k.2):val (Dh P x k)=(k.1:Rat)+(1/(k.2:Rat))*(val (pv P x.dst)-val (pv P x.src)):=by
 unfold Dh;rw[val_add (eD _) (iG (oq N x) (ng hw)),oo,val_mul (oq N x) (ng hw),BM hw];unfold FW;rw[val_sub (N.at _) (N.at _)]
 push_cast
 grind
def y6{i:Nat}(h:bx m i=none):i0 s m P i=none:=by
 unfold i0;rw[h]
def qA{i:Nat}{x:a5a}{k:Int×Nat}(hx:s.streams[i]? =some x)(h:bx m i=some k):i0 s m P i=some (Dh P x k):=by
 unfold i0;rw[h,hx];rfl
def WF.HJ(W:WF s m){i:Nat}{k:Int×Nat}(h:bx m i=some k):∃x,s.streams[i]? =some x/\0<k.2/\(x,some k)∈s.streams.zip m:=by
 have hi:i<m.length:=by
  refine kT fun q=>?_;unfold bx at h;rw[ax,bT (!0)]at h;cases h
 have TK:i<s.streams.length:=by rw[<-W.len];exact hi
 unfold bx at h;rw[fq hi]at h;refine⟨s.streams[i],aV TK,W.wt k.1 k.2 (by rw[<-h];exact fS _),?_⟩;have:(s.streams.zip m)[i]'(by rw[cI,W.len,ke];exact TK)=(s.streams[i],some k):=by rw[fU,h]
 rw[<-this];exact fS _
def Nt(W:WF s m)(N:jJ s m P){i:Nat}{x:a5a}{k:Int×Nat}(hx:s.streams[i]? =some x)(h:bx m i=some k):qb (P.map eV) (s.streams.map bB) m i=eV (Dh P x k):=by
 obtain⟨x',P9,hw,_⟩:=W.HJ h;unfold qb;rw[show m.getD i none=some k from h];simp only;rw[QF N hx,KI (oq N x) hw];unfold Dh;rw[<-KH (eD _) (iG (oq N x) (ng hw)),KJ]
def pE{α:Type}{l:List α}{x:α×Nat}(h:x∈l.zipIdx):l[x.2]? =some x.1:=by
 rw[fQ]at h;exact h
def Ua(W:WF s m)(N:jJ s m P):h9 (P.map eV) (s.streams.map bB) m=eV (Az s m P)/\Good (Az s m P):=by
 let h1:Option (Int×Nat)×Nat->Option Q:=fun x=>match x.1,s.streams[x.2]? with
  | some k,some st=>some (eU (eU (FW P st) (FW P st)) (jA 1 k.2))
  | _,_=>none
 have hx:∀x∈m.zipIdx,bx m x.2=x.1:=fun x hx=>by
  unfold bx;rw[ax,pE hx];rfl
 have e1:h9 (P.map eV) (s.streams.map bB) m=eV (gQ (m.zipIdx.filterMap h1)):=by
  have:=y4 (fun x:Option (Int×Nat)×Nat=>match x.1 with
   | none=>none
   | some k=>some (pOver (jl (v8 (P.map eV) (s.streams.map bB) x.2)) (k.2:Int))) h1 m.zipIdx aq il (fun x hm=>by
    cases e:x.1 with
    | none=>refine⟨by simp only[h1,e];rfl,fun q hq=>?_⟩;simp only[h1,e]at hq;cases hq
    | some k=>
     have hq:=hx x hm;rw[e]at hq;obtain⟨st,vU,hw,_⟩:=W.HJ hq;have g:=oq N st;refine⟨?_,fun q hq=>?_⟩
     ·simp only[h1,e,vU,iW];rw[QF N vU,Np g,KI (iG g g) hw]
     ·simp only[h1,e,vU]at hq;cases hq;exact iG (iG g g) (ng hw))
  unfold gQ;rw[<-this,Nq];unfold h9;congr 1
  funext c x
  cases x.1<;>rfl
 have g1:∀q∈m.zipIdx.filterMap h1,Good q:=fun q hq=>by
  rw[gw]at hq;obtain⟨x,hm,e⟩:=hq
  cases ex:x.1 with
  | none=>simp only[h1,ex]at e;cases e
  | some k=>
   have hq:=hx x hm;rw[ex]at hq;obtain⟨st,vU,hw,_⟩:=W.HJ hq;simp only[h1,ex,vU]at e;cases e;exact iG (iG (oq N st) (oq N st)) (ng hw)
 let h2:Nat->Option Q:=fun i=>match bx m i,i0 s m P i with
  | some (v,w),some x=>some (eU (cA (w:Int)) (eU (ie x (cA v)) (ie x (cA v))))
  | _,_=>none
 have e2:Az s m P=gQ ((ay s.streams.length).filterMap h2):=rfl;have g2:∀q∈(ay s.streams.length).filterMap h2,Good q:=fun q hq=>by
  rw[gw]at hq;obtain⟨i,hm,e⟩:=hq
  cases ex:bx m i with
  | none=>simp only[h2,ex]at e;cases e
  | some k=>
   obtain⟨st,vU,hw,_⟩:=W.HJ ex;simp only[h2,ex,qA vU ex]at e;cases e;exact iG (eD _) (iG (lS (ot N st hw) (eD _)) (lS (ot N st hw) (eD _)))
 refine⟨?_,by rw[e2];exact kU g2⟩;rw[e1,e2];congr 1;apply t9 (kU g1) (kU g2);rw[tj g1,tj g2,gZ,gZ];have e3:(ay s.streams.length)=m.zipIdx.map fun x=>x.2:=by
  apply fV
  ·rw[dy,aa,bj,W.len]
  ·intro i q1 q2;rw[jd,bK,eZ,kf]
 rw[e3,bc];refine dN fun x hm=>?_;have hq:=hx x hm
 cases ex:x.1 with
 | none=>
  rw[ex]at hq;simp only[h1,h2,ex,lI,hq]
 | some k=>
  rw[ex]at hq;obtain⟨st,vU,hw,_⟩:=W.HJ hq;simp only[h1,h2,ex,lI,hq,vU,qA vU hq];have g:=oq N st;have gf:=ot N st hw;rw[val_mul (iG g g) (ng hw),val_mul g g,BM hw,val_mul (eD _) (iG (lS gf (eD _)) (lS gf (eD _))),val_mul (lS gf (eD _)) (lS gf (eD _)),val_sub gf (eD _),oo,oo,Nr N st hw];unfold FW;rw[val_sub (N.at _) (N.at _)];have:=oO hw
  push_cast
  grind
end
section
variable {s:cg}{m:aJ}{P:List Q}
def gB(s:cg)(m:aJ)(i:Nat):bL:=sX s fun j=>(bx m j).isNone && j != i
def Nu(s:cg)(m:aJ)(i:Nat):gI (s.nodes.length+1) (s.streams.map bB) m i=gB s m i:=by
 unfold gI gB;rw[wd];congr 1;have e:(s.streams.map bB).zipIdx=s.streams.zipIdx.map fun x=>(bB x.1,x.2):=by
  apply fV
  ·rw[bj,aa,aa,bj]
  ·intro j h1 h2;rw[eZ,bK,bK,eZ]
 rw[e,mR,bc];have e2:((fun x:(Nat×Nat)×Nat=>x.2 != i && (m.getD x.2 none).isNone)∘fun x:a5a×Nat=>(bB x.1,x.2))=fun x:a5a×Nat=>(bx m x.2).isNone && x.2 != i:=by
  funext x
  simp only[lI,bx];exact Bool.and_comm _ _
 rw[e2];rfl
def xl(s:cg)(m:aJ)(i:Nat):iS:=(s.streams.zipIdx.filter fun x=>(bx m x.2).isNone && x.2 != i).map fun x=>bB x.1
def WF.a1w(W:WF s m)(i:Nat):WN (s.nodes.length+1) (xl s m i) (gB s m i):=by
 unfold gB;rw[wd];refine LH fun p hp=>?_;unfold xl at hp;rw[aZ]at hp;obtain⟨y,hy,rfl⟩:=hp;have:=pE (dR.mp hy).1;exact W.ends _ (aD this)
def LM{i:Nat}{k:Int×Nat}(h:bx m i=some k):gB s m i=free s m:=by
 unfold gB free;congr 1
 funext j
 by_cases e:j=i
 ·subst e;rw[h];rfl
 ·have:(j != i)=true:=by simp[e]
  rw[this,x8]
def BP{i:Nat}{x:a5a}(W:WF s m)(hx:s.streams[i]? =some x)(h:bx m i=none):bB x∈iP s m:=by
 have hi:=(ag.mp hx);have TK:i<m.length:=by rw[W.len];exact hi.1
 unfold iP;rw[aZ];refine⟨(x,none),dR.mpr ⟨?_,rfl⟩,rfl⟩;have hm:m[i]=none:=by unfold bx at h;rw[fq TK]at h;exact h
 have:(s.streams.zip m)[i]'(by rw[cI,W.len,ke];exact hi.1)=(x,none):=by rw[fU,hi.2,hm]
 rw[<-this];exact fS _
def LN{p:Nat×Nat}(W:WF s m)(h:p∈iP s m):∃j x,s.streams[j]? =some x/\bx m j=none/\p=bB x:=by
 unfold iP at h;rw[aZ]at h;obtain⟨y,hy,rfl⟩:=h;obtain⟨hy1,hy2⟩:=dR.mp hy;obtain⟨j,hj,e⟩:=uA hy1;rw[cI,W.len,ke]at hj;rw[fU]at e;refine⟨j,y.1,by rw[aV hj,<-e],?_,rfl⟩;unfold bx;rw[fq (by rw[W.len];exact hj)];have:y.2=none:=by simpa using hy2
 rw[<-this,<-e]
def Nv{p:Nat×Nat}{i:Nat}(h:p∈xl s m i):∃j x,s.streams[j]? =some x/\bx m j=none/\j≠i/\p=bB x:=by
 unfold xl at h;rw[aZ]at h;obtain⟨y,hy,rfl⟩:=h;obtain⟨hy1,hy2⟩:=dR.mp hy;rw[c8]at hy2;exact⟨y.2,y.1,pE hy1,by simpa using hy2.1,by simpa using hy2.2,rfl⟩
def LO{i j:Nat}{x:a5a}(hx:s.streams[j]? =some x)(h:bx m j=none)(uN:j≠i):bB x∈xl s m i:=by
 unfold xl;rw[aZ];refine⟨(x,j),dR.mpr ⟨?_,?_⟩,rfl⟩
 ·rw[fQ];exact hx
 ·rw[c8];exact⟨by simp[h],by simp[uN]⟩
def WF.Cc(W:WF s m){i:Nat}{x:a5a}(hx:s.streams[i]? =some x):x.src<s.nodes.length+1/\x.dst<s.nodes.length+1:=W.ends x (aD hx)
def WF.YC(W:WF s m){i:Nat}{x:a5a}(hx:s.streams[i]? =some x)(h:bx m i=none)(hd:(gB s m i).getD x.src 0≠(gB s m i).getD x.dst 0){v:Nat}(hv:v<s.nodes.length+1):
  (free s m).getD v 0=(free s m).getD x.dst 0↔(gB s m i).getD v 0=(gB s m i).getD x.src 0\/(gB s m i).getD v 0=(gB s m i).getD x.dst 0:=by
 have he:=W.Cc hx;constructor
 ·intro e;let g:Nat->Nat:=fun v=>if(gB s m i).getD v 0=(gB s m i).getD x.src 0 then(gB s m i).getD x.dst 0 else(gB s m i).getD v 0;have hg:=W.Ca.const g (fun p hp=>by
   obtain⟨j,y,hy,hn,rfl⟩:=LN W hp;by_cases ej:j=i
   ·subst ej;have:y=x:=be (hy.symm.trans hx);subst this;show(if(gB s m j).getD y.src 0=(gB s m j).getD y.src 0 then _ else _)=if(gB s m j).getD y.dst 0=(gB s m j).getD y.src 0 then _ else _;rw[if_pos rfl,if_neg (fun q=>hd q.symm)];rfl
   ·have:=(W.a1w i).pair _ (LO hy hn ej);show(if(gB s m i).getD y.src 0=_ then _ else(gB s m i).getD y.src 0)=if(gB s m i).getD y.dst 0=_ then _ else(gB s m i).getD y.dst 0;have this:(gB s m i).getD y.src 0=(gB s m i).getD y.dst 0:=this;rw[this])
  have h1:=hg v hv;have h2:=hg x.dst he.2;rw[<-e,<-h1]at h2;have h3:(if(gB s m i).getD x.dst 0=(gB s m i).getD x.src 0 then(gB s m i).getD x.dst 0 else(gB s m i).getD x.dst 0)=if(gB s m i).getD v 0=(gB s m i).getD x.src 0 then(gB s m i).getD x.dst 0 else(gB s m i).getD v 0:=h2;by_cases q:(gB s m i).getD v 0=(gB s m i).getD x.src 0
  ·exact .inl q
  ·rw[if_neg q]at h3
   right
   rw[<-h3];split<;>rfl
 ·have hc:=(W.a1w i).const (fun v=>(free s m).getD v 0) fun p hp=>by
   obtain⟨j,y,hy,hn,_,rfl⟩:=Nv hp;exact W.Ca.pair _ (BP W hy hn)
  have hxx:(free s m).getD x.src 0=(free s m).getD x.dst 0:=W.Ca.pair _ (BP W hx h);intro e;have h1:=hc v hv;have h2:=hc x.src he.1;have h3:=hc x.dst he.2;rcases e with e | e
  ·rw[e,<-h2]at h1;rw[h1,hxx]
  ·rw[e,<-h3]at h1;exact h1
def qc(P:List Q)(y:a5a×Option (Int×Nat)):Rat:=va y+om y*(val (pv P y.1.dst)-val (pv P y.1.src))
theorem KL{α β:Type}(f:α->β->Rat)(l:List α):∀k:List β,(l.map fun x=>(k.map fun y=>f x y).sum).sum=(k.map fun y=>(l.map fun x=>f x y).sum).sum
 | []=>by simp only[ib,ka];exact EF l
 | y::k=>by
  rw[gX,<-KL f l k,<-zT];exact dN fun x _=>by rw[gX]
def Ph{l:bL}{g:Nat}:l.Nodup->(l.map fun c=>if g=c then(1:Rat)else 0).sum=if g∈l then 1 else 0:=by
 induction l with
 | nil=>intro _;simp only[ib,ka];rw[if_neg (!1)]
 | cons a l ih=>
  intro h;have hn:=eO.mp h;rw[gX,ih hn.2];by_cases e:g=a
  ·subst e;rw[if_pos rfl,if_neg hn.1,if_pos (!1)];grind
  ·rw[if_neg e];by_cases e2:g∈l
   ·rw[if_pos e2,if_pos (by simp[e2])];grind
   ·rw[if_neg e2,if_neg (by simp[e,e2])];grind
def jJ.outside(W:WF s m)(N:jJ s m P):((s.streams.zip m).map fun y=>D s m y 0*qc P y).sum=0:=by
 let C:=(ay (s.nodes.length+1)).filter fun c=>(free s m).getD c 0 == c && (oV s).getD c 0 == 0;have hC:C.Nodup:=Ay _ Fu;have mC:∀c,c∈C↔c<s.nodes.length+1/\(free s m).getD c 0=c/\(oV s).getD c 0=0:=fun c=>by
  show c∈(ay (s.nodes.length+1)).filter _↔_;rw[dR,vH,c8,beq_iff_eq,beq_iff_eq]
 have hf:∀v,v<s.nodes.length+1->((free s m).getD v 0∈C↔(oV s).getD v 0=0):=fun v hv=>by
  rw[mC];constructor
  ·intro h;rw[W.HF hv];exact h.2.2
  ·intro h;exact⟨W.HE hv,W.Ca.idem v hv,by rw[<-W.HF hv];exact h⟩
 have tot:(C.map fun c=>((s.streams.zip m).map fun y=>D s m y c*qc P y).sum).sum=0:=by
  rw[KL];rw[dN (g:=fun _=>(0:Rat)) fun y hy=>?_,EF];have hb:=W.ends _ (xX hy);have e:(C.map fun c=>D s m y c*qc P y).sum=qc P y*((C.map fun c=>if(free s m).getD y.1.dst 0=c then(1:Rat)else 0).sum-(C.map fun c=>if(free s m).getD y.1.src 0=c then(1:Rat)else 0).sum):=by
   rw[<-Nd,<-qz];exact dN fun c _=>by unfold D;grind
  rw[e,Ph hC,Ph hC];have hp:(oV s).getD y.1.src 0=(oV s).getD y.1.dst 0:=W.Nf.pair (bB y.1) (aZ.mpr ⟨y.1,xX hy,rfl⟩);by_cases q:(oV s).getD y.1.src 0=0
  ·rw[if_pos ((hf _ hb.1).mpr q),if_pos ((hf _ hb.2).mpr (by rw[<-hp];exact q))];grind
  ·rw[if_neg (fun z=>q ((hf _ hb.1).mp z)),if_neg (fun z=>q (by rw[hp];exact(hf _ hb.2).mp z))];grind
 have hz:(free s m).getD 0 0=0:=by have:=W.Ca.le 0 (!0);omega
 have hz2:(oV s).getD 0 0=0:=by have:=W.Nf.le 0 (!0);omega
 have rest:∀c∈C,((s.streams.zip m).map fun y=>D s m y c*qc P y).sum=(if 0=c then(1:Rat)else 0)*((s.streams.zip m).map fun y=>D s m y 0*qc P y).sum:=fun c hc=>by
  by_cases e:c=0
  ·subst e;rw[if_pos rfl];grind
  ·have h:=(mC c).mp hc;have hu:c∈mo s m:=He.mpr ⟨h.1,h.2.1,by rw[h.2.2];omega⟩;have hb:((s.streams.zip m).map fun y=>D s m y c*qc P y).sum=0:=N.bal c hu;rw[if_neg (!0),hb];grind
 rw[dN rest]at tot;have e:(C.map fun c=>(if 0=c then(1:Rat)else 0)*((s.streams.zip m).map fun y=>D s m y 0*qc P y).sum).sum=((s.streams.zip m).map fun y=>D s m y 0*qc P y).sum*(C.map fun c=>if 0=c then(1:Rat)else 0).sum:=by
  rw[<-qz];exact dN fun c _=>by grind
 rw[e,Ph hC,if_pos ((mC 0).mpr ⟨by omega,hz,hz2⟩)]at tot;grind
end
theorem BQ:∀(l:List Q) (a:Q),Good a->(∀x∈l,Good x)->Good (l.foldl ie a)/\val (l.foldl ie a)=val a-(l.map val).sum
 | [],a,ha,_=>⟨ha,by simp only[Au,ib,ka];grind⟩
 | x::l,a,ha,h=>by
  have hx:=h x (!1);obtain⟨g,v⟩:=BQ l _ (lS ha hx) fun y hy=>h y (by simp[hy]);refine⟨g,?_⟩;rw[fP,v,val_sub ha hx,gX];grind
theorem zX{α:Type}(g:α->Option F)(h:α->Option Q):∀(l:List α) (a:Q),Good a->(∀x∈l,g x=(h x).map eV/\∀q,h x=some q->Good q)->
  l.foldl (fun c x=>match g x with | none=>c | some f=>j6 c f) (eV a)=eV ((l.filterMap h).foldl ie a)
 | [],a,_,_=>rfl
 | x::l,a,ha,hl=>by
  have h1:=hl x (!1);rw[fP,eY]
  cases e:h x with
  | none=>
   rw[h1.1,e];exact zX g h l a ha fun y hy=>hl y (by simp[hy])
  | some q=>
   rw[h1.1,e];simp only[iW];rw[xZ ha (h1.2 q e)];exact zX g h l _ (lS ha (h1.2 q e)) fun y hy=>hl y (by simp[hy])
section
variable {s:cg}{m:aJ}{P:List Q}
def Dl(l:bL)(x:a5a)(c:Nat):Rat:=(if l.getD x.dst 0=c then 1 else 0)-(if l.getD x.src 0=c then 1 else 0)
def WR(l:bL)(x:a5a)(c:Nat):((fD (l.getD x.src 0,l.getD x.dst 0) c:Int):Rat)=Dl l x c:=by
 unfold fD Dl;simp only
 split<;>split<;>push_cast<;>grind
def wL:(s.streams.map bB).zipIdx=s.streams.zipIdx.map fun x=>(bB x.1,x.2):=by
 apply fV
 ·rw[bj,aa,aa,bj]
 ·intro j h1 h2;rw[eZ,bK,bK,eZ]
def HK(N:jJ s m P)(x:a5a){k:Int×Nat}(hw:0<k.2):val (Dh P x k)=qc P (x,some k):=by
 rw[Nr N x hw];rfl
def HL(x:a5a):qc P (x,none)=0:=by
 unfold qc va om;simp only;grind
def Ub(W:WF s m)(N:jJ s m P)(l:bL)(c:Nat):∃R,(s.streams.map bB).zipIdx.foldl (lV (P.map eV) (s.streams.map bB) m l c) (0,1)=eV R/\Good R/\val R= -((s.streams.zip m).map fun y=>Dl l y.1 c*qc P y).sum:=by
 let h:a5a×Nat->Option Q:=fun x=>match bx m x.2 with
  | none=>none
  | some k=>if fD (l.getD x.1.src 0,l.getD x.1.dst 0) c≠0 then some (eU (Dh P x.1 k) (cA (fD (l.getD x.1.src 0,l.getD x.1.dst 0) c)))else none
 have hh:∀x∈s.streams.zipIdx,∀q,h x=some q->Good q:=fun x hx q e=>by
  cases em:bx m x.2 with
  | none=>simp only[h,em]at e;cases e
  | some k=>
   obtain⟨x',P9,hw,_⟩:=W.HJ em;simp only[h,em]at e;split at e
   ·cases e;exact iG (ot N _ hw) (eD _)
   ·cases e
 have e1:=zX (fun x:a5a×Nat=>match bx m x.2 with
  | none=>none
  | some k=>if fD (l.getD x.1.src 0,l.getD x.1.dst 0) c≠0 then some (js (qb (P.map eV) (s.streams.map bB) m x.2) (fD (l.getD x.1.src 0,l.getD x.1.dst 0) c))else none) h s.streams.zipIdx aq il (fun x hx=>by
   refine⟨?_,hh x hx⟩
   cases em:bx m x.2 with
   | none=>simp only[h,em];rfl
   | some k=>
    obtain⟨x',P9,hw,_⟩:=W.HJ em;simp only[h,em];split
    ·rw[Nt W N (pE hx) em,Cb (ot N _ hw)];rfl
    ·rfl)
 have g2:∀q∈s.streams.zipIdx.filterMap h,Good q:=fun q hq=>by
  rw[gw]at hq;obtain⟨x,hx,e⟩:=hq;exact hh x hx q e
 obtain⟨gR,vR⟩:=BQ (s.streams.zipIdx.filterMap h) aq il g2;refine⟨_,?_,gR,?_⟩
 ·rw[<-e1,wL,Ax,Nq];congr 1
  funext f x
  unfold lV;simp only[bB,bx]
  cases em:m.getD x.2 none with
  | none=>simp
  | some k=>
   simp only[pV,and_true]
   split<;>rfl
 ·rw[vR,val_zero,gZ];rw[dN (g:=fun x:a5a×Nat=>(fun(x:a5a) (o:Option (Int×Nat))=>Dl l x c*qc P (x,o)) x.1 (bx m x.2)) fun x hx=>?_,Hd W.len (fun(x:a5a) (o:Option (Int×Nat))=>Dl l x c*qc P (x,o))]
  ·grind
  ·cases em:bx m x.2 with
   | none=>simp only[h,em];rw[HL];grind
   | some k=>
    obtain⟨x',P9,hw,_⟩:=W.HJ em;simp only[h,em];rw[<-HK N _ hw,<-WR];by_cases q:fD (l.getD x.1.src 0,l.getD x.1.dst 0) c=0
    ·rw[if_neg (fun z=>z q),q];show(0:Rat)=((0:Int):Rat)*_;rw[show((0:Int):Rat)=0 from rfl];grind
    ·rw[if_pos q];simp only;rw[val_mul (ot N _ hw) (eD _),oo];grind
def Uc(W:WF s m)(N:jJ s m P)(l mG:bL)(c:Nat)(hs:∀v,v<s.nodes.length+1->(mG.contains v=true↔l.getD v 0=c)):
  Good (gQ (s.streams.zipIdx.filterMap fun y=>(i0 s m P y.2).map fun v=>
    if mG.contains y.1.dst && !mG.contains y.1.src then v else if mG.contains y.1.src && !mG.contains y.1.dst then jc v else aq))/\
  val (gQ (s.streams.zipIdx.filterMap fun y=>(i0 s m P y.2).map fun v=>
    if mG.contains y.1.dst && !mG.contains y.1.src then v else if mG.contains y.1.src && !mG.contains y.1.dst then jc v else aq))=((s.streams.zip m).map fun y=>Dl l y.1 c*qc P y).sum:=by
 have g:∀q∈s.streams.zipIdx.filterMap (fun y=>(i0 s m P y.2).map fun v=>
    if mG.contains y.1.dst && !mG.contains y.1.src then v else if mG.contains y.1.src && !mG.contains y.1.dst then jc v else aq),Good q:=fun q hq=>by
  rw[gw]at hq;obtain⟨x,hx,e⟩:=hq
  cases em:bx m x.2 with
  | none=>rw[y6 em]at e;cases e
  | some k=>
   obtain⟨x',P9,hw,_⟩:=W.HJ em;rw[qA (pE hx) em]at e;cases e;split
   ·exact ot N _ hw
   ·split
    ·exact xj (ot N _ hw)
    ·exact il
 refine⟨kU g,?_⟩;rw[tj g,gZ];rw[<-Hd W.len (fun(x:a5a) (o:Option (Int×Nat))=>Dl l x c*qc P (x,o))];refine dN fun x hx=>?_;have he:=W.Cc (pE hx)
 cases em:bx m x.2 with
 | none=>rw[y6 em];simp only[zu];rw[HL];grind
 | some k=>
  obtain⟨x',P9,hw,_⟩:=W.HJ em;rw[qA (pE hx) em];simp only[iW];rw[<-HK N _ hw];unfold Dl;by_cases q1:l.getD x.1.dst 0=c
  ·have b1:=(hs _ he.2).mpr q1;by_cases q2:l.getD x.1.src 0=c
   ·have b2:=(hs _ he.1).mpr q2;rw[b1,b2,if_pos q1,if_pos q2];simp only[pf,o9,bU,if_false];rw[val_zero];grind
   ·have b2:mG.contains x.1.src=false:=by
     cases z:mG.contains x.1.src with
     | false=>rfl
     | true=>exact absurd ((hs _ he.1).mp z) q2
    rw[b1,b2,if_pos q1,if_neg q2];simp only[qT,x8,if_true];grind
  ·have b1:mG.contains x.1.dst=false:=by
    cases z:mG.contains x.1.dst with
    | false=>rfl
    | true=>exact absurd ((hs _ he.2).mp z) q1
   by_cases q2:l.getD x.1.src 0=c
   ·have b2:=(hs _ he.1).mpr q2;rw[b1,b2,if_neg q1,if_pos q2];simp only[pf,o9,bU,if_false,qT,x8,if_true];rw[val_neg];grind
   ·have b2:mG.contains x.1.src=false:=by
     cases z:mG.contains x.1.src with
     | false=>rfl
     | true=>exact absurd ((hs _ he.1).mp z) q2
    rw[b1,b2,if_neg q1,if_neg q2];simp only[kA,bU,if_false];rw[val_zero];grind
def K1{l:bL}{c n:Nat}{v:Nat}(hv:v<n):(((ay n).filter fun v=>pM l v == c).contains v=true↔l.getD v 0=c):=by
 rw[rB,dR,vH,beq_iff_eq];unfold pM;constructor
 ·intro h;exact h.2
 ·intro h;exact⟨hv,h⟩
def Ud{i:Nat}{x:a5a}(hx:s.streams[i]? =some x):iH (s.nodes.length+1) (s.streams.map bB) m i=decide ((gB s m i).getD x.src 0≠(gB s m i).getD x.dst 0):=by
 unfold iH;rw[LL hx,Nu]
def KN{i:Nat}{x:a5a}(hx:s.streams[i]? =some x):sY s m i=if(gB s m i).getD x.src 0=(gB s m i).getD x.dst 0 then none else some ((ay (s.nodes.length+1)).filter fun v=>pM (gB s m i) v == if(gB s m i).getD x.dst 0=(gB s m i).getD 0 0 then(gB s m i).getD x.src 0 else(gB s m i).getD x.dst 0):=by
 unfold sY;rw[hx];rfl
def EI(W:WF s m)(N:jJ s m P){i:Nat}{x:a5a}(hx:s.streams[i]? =some x):
  cu (s.nodes.length+1) (P.map eV) (s.streams.map bB) m i=(qU s m i,eV ((oF s m P i).getD aq))/\
  (∀q,oF s m P i=some q->Good q)/\((oF s m P i).isSome=true↔qU s m i≠0):=by
 have he:=W.Cc hx;unfold cu;rw[Ud hx]
 cases em:bx m i with
 | some k=>
  obtain⟨x',P9,hw,_⟩:=W.HJ em;have ev:oF s m P i=some (Dh P x k):=by unfold oF;rw[qA hx em]
  have es:qU s m i=if(free s m).getD x.src 0=(free s m).getD x.dst 0 then 1 else 2:=by
   unfold qU;rw[em];simp only;rw[hx];rfl
  rw[ev,es,show m.getD i none=some k from em,LM em];refine⟨?_,fun q hq=>by cases hq;exact ot N x hw,?_⟩
  ·simp only[pV,if_true,oE];rw[Nt W N hx em];by_cases q:(free s m).getD x.src 0=(free s m).getD x.dst 0
   ·rw[if_pos q,if_neg (by simp;exact q)]
   ·rw[if_neg q,if_pos (by simp;exact q)]
  ·constructor
   ·intro _;split<;>decide
   ·intro _;rfl
 | none=>
  rw[show m.getD i none=none from em];have es:qU s m i=if(sY s m i).isSome=true then 3 else 0:=by unfold qU;rw[em]
  rw[es]
  have ev:oF s m P i=match sY s m i with
   | none=>none
   | some mG=>some (if mG.contains x.dst=true then jc (gQ (s.streams.zipIdx.filterMap fun y=>(i0 s m P y.2).map fun v=>
    if mG.contains y.1.dst && !mG.contains y.1.src then v else if mG.contains y.1.src && !mG.contains y.1.dst then jc v else aq))else gQ (s.streams.zipIdx.filterMap fun y=>(i0 s m P y.2).map fun v=>
    if mG.contains y.1.dst && !mG.contains y.1.src then v else if mG.contains y.1.src && !mG.contains y.1.dst then jc v else aq)):=by
   unfold oF;rw[y6 em];simp only;rw[hx]
   cases sY s m i<;>rfl
  by_cases q:(gB s m i).getD x.src 0=(gB s m i).getD x.dst 0
  ·rw[ev,KN hx,if_pos q,if_neg (!1),if_neg (by simp;exact q)];refine⟨rfl,fun q hq=>(by cases hq),?_⟩;simp
  ·rw[ev,KN hx,if_neg q,if_neg (!1),if_pos (by simp;exact q)];simp only[pV,if_true];generalize hc:(if(gB s m i).getD x.dst 0=(gB s m i).getD 0 0 then(gB s m i).getD x.src 0 else(gB s m i).getD x.dst 0)=c;generalize a1x:((ay (s.nodes.length+1)).filter fun v=>pM (gB s m i) v == c)=mG;have hcs:∀v,v<s.nodes.length+1->(mG.contains v=true↔(gB s m i).getD v 0=c):=fun v hv=>by rw[<-a1x];exact K1 hv
   obtain⟨gS,vS⟩:=Uc W N (gB s m i) mG c hcs
   generalize hS:gQ (s.streams.zipIdx.filterMap fun y=>(i0 s m P y.2).map fun v=>
    if mG.contains y.1.dst && !mG.contains y.1.src then v else if mG.contains y.1.src && !mG.contains y.1.dst then jc v else aq)=S at gS vS ⊢
   obtain⟨R,eR,gR,vR⟩:=Ub W N (gB s m i) ((gB s m i).getD x.dst 0);have gO:Good (if mG.contains x.dst=true then jc S else S):=by
    split
    ·exact xj gS
    ·exact gS
   refine⟨?_,fun q hq=>by cases hq;exact gO,by simp⟩;have eT:j7 (s.nodes.length+1) (P.map eV) (s.streams.map bB) m i=eV R:=by
    unfold j7;rw[LL hx,Nu];exact eR
   rw[eT];simp only[oE];congr 1;congr 1;apply t9 gR gO;rw[vR];by_cases q0:(gB s m i).getD x.dst 0=(gB s m i).getD 0 0
   ·rw[if_pos q0]at hc;have hn:¬mG.contains x.dst=true:=fun z=>q (hc.trans ((hcs _ he.2).mp z).symm);rw[if_neg hn,vS,<-hc];have a4V:=N.outside W;have e0:(free s m).getD x.dst 0=0:=by
     have:=(W.YC hx em q (v:=0) (!0)).mpr (.inr q0.symm);have hz:(free s m).getD 0 0=0:=by have:=W.Ca.le 0 (!0);omega
     rw[<-this,hz]
    have key:((s.streams.zip m).map fun y=>D s m y 0*qc P y).sum=((s.streams.zip m).map fun y=>Dl (gB s m i) y.1 ((gB s m i).getD x.src 0)*qc P y).sum+((s.streams.zip m).map fun y=>Dl (gB s m i) y.1 ((gB s m i).getD x.dst 0)*qc P y).sum:=by
     rw[<-zT];refine dN fun y hy=>?_;have hb:=W.ends _ (xX hy);have ind:∀v,v<s.nodes.length+1->(if(free s m).getD v 0=0 then(1:Rat)else 0)=(if(gB s m i).getD v 0=(gB s m i).getD x.src 0 then 1 else 0)+(if(gB s m i).getD v 0=(gB s m i).getD x.dst 0 then 1 else 0):=fun v hv=>by
      have Ys:=W.YC hx em q hv;rw[e0]at Ys;by_cases a1:(gB s m i).getD v 0=(gB s m i).getD x.src 0
      ·rw[if_pos (Ys.mpr (.inl a1)),if_pos a1,if_neg (fun z=>q (a1.symm.trans z))];grind
      ·by_cases a2:(gB s m i).getD v 0=(gB s m i).getD x.dst 0
       ·rw[if_pos (Ys.mpr (.inr a2)),if_neg a1,if_pos a2];grind
       ·rw[if_neg (fun z=>(Ys.mp z).elim a1 a2),if_neg a1,if_neg a2];grind
     have i1:=ind _ hb.1;have i2:=ind _ hb.2;unfold D Dl;rw[i1,i2];grind
    rw[key]at a4V;grind
   ·rw[if_neg q0]at hc;have hn:mG.contains x.dst=true:=(hcs _ he.2).mpr hc;rw[if_pos hn,val_neg,vS,hc]
end
def mW(ends:iS)(fz:List F)(node:Nat):Bool:=(ends.zip fz).foldl (fun c x=>fK c (js x.2 (fD x.1 node))) (0,1) == ((0,1):F)
def uG(known:Option (Int×Nat))(Pj Qz:F):Bool:=match known with
 | none=>Qz == (0,1)
 | some k=>js (j6 Pj (k.1,1)) (k.2:Int) == Qz
def rN(ends:iS)(m:aJ)(fz nums:List F):Bool:=
 nums.getD 0 (0,1) == (0,1) && ((ay (nums.length-1)).all (fun v=>mW ends fz (v+1)) && (ends.zip (m.zip fz)).all fun x=>uG x.2.1 x.2.2 (j6 (nums.getD x.1.2 (0,1)) (nums.getD x.1.1 (0,1))))
def HM{x:Q}(h:Good x):fW x=true↔eV x=(0,1):=by
 unfold fW;rw[beq_iff_eq];constructor
 ·intro e;have:x=aq:=t9 h il (by rw[(D6 h.1).mp e,val_zero]);rw[this];rfl
 ·intro e;unfold eV at e;exact congrArg (·.1) e
def Ue{x y:Q}:Gn x y=true↔eV x=eV y:=by
 unfold Gn;constructor
 ·intro h;rw[c8,beq_iff_eq,beq_iff_eq]at h;unfold eV;rw[h.1,h.2]
 ·intro h;rw[WQ h];simp
def LP{x:Q}(h:Good x):(eV x == ((0,1):F))=fW x:=by
 rw[f9,HM h,beq_iff_eq]
section
variable {s:cg}{m:aJ}
def KO{α:Type}(g:α->F)(h:α->Q)(l:List α)(a:Q)(ha:Good a)(hl:∀x∈l,g x=eV (h x)/\Good (h x)):l.foldl (fun c x=>fK c (g x)) (eV a)=eV ((l.map h).foldl lH a):=by
 have:=y4 (fun x=>some (g x)) (fun x=>some (h x)) l a ha fun x hx=>⟨by rw[(hl x hx).1];rfl,fun q e=>by cases e;exact(hl x hx).2⟩;rw[yK]at this;exact this
def Nw{xq:List Q}(gx:∀q∈xq,Good q)(v:Nat):mW (s.streams.map bB) (xq.map eV) (v+1)=fW (jD s [v+1] xq):=by
 unfold mW;have e1:((s.streams.map bB).zip (xq.map eV)).foldl (fun c x=>fK c (js x.2 (fD x.1 (v+1)))) (0,1)=eV (gQ ((s.streams.zip xq).map fun y=>eU y.2 (cA (fD (bB y.1) (v+1))))):=by
  rw[yL,Ax];exact KO (fun y:a5a×Q=>js (eV y.2) (fD (bB y.1) (v+1))) _ (s.streams.zip xq) aq il fun y hy=>by
   have g:=gx _ (cn hy).2;exact⟨Cb g _,iG g (eD _)⟩
 have g1:∀q∈(s.streams.zip xq).map fun y=>eU y.2 (cA (fD (bB y.1) (v+1))),Good q:=fun q hq=>by
  rw[aZ]at hq;obtain⟨y,hy,rfl⟩:=hq;exact iG (gx _ (cn hy).2) (eD _)
 have g2:∀q∈(s.streams.zip xq).map fun y=>if [v+1].contains y.1.dst && !([v+1].contains y.1.src)then y.2 else if [v+1].contains y.1.src && !([v+1].contains y.1.dst)then jc y.2 else aq,Good q:=fun q hq=>by
  rw[aZ]at hq;obtain⟨y,hy,rfl⟩:=hq;have g:=gx _ (cn hy).2;split
  ·exact g
  ·split
   ·exact xj g
   ·exact il
 have e2:gQ ((s.streams.zip xq).map fun y=>eU y.2 (cA (fD (bB y.1) (v+1))))=jD s [v+1] xq:=by
  unfold jD;apply t9 (kU g1) (kU g2);rw[tj g1,tj g2,bc,bc];refine dN fun y hy=>?_;have g:=gx _ (cn hy).2;simp only[lI];rw[val_mul g (eD _),oo];have hc:∀n:Nat,[v+1].contains n=decide (n=v+1):=fun n=>by
   simp only[kB,E7,BZ];rw[f9,beq_iff_eq,decide_eq_true_iff]
  rw[hc,hc];unfold fD bB;simp only
  by_cases q1:y.1.dst=v+1<;>by_cases q2:y.1.src=v+1
  ·rw[if_pos q1,if_pos q2,decide_eq_true q1,decide_eq_true q2,if_neg (!1),if_neg (!1),val_zero]
   push_cast;grind
  ·rw[if_pos q1,if_neg q2,decide_eq_true q1,decide_eq_false q2,if_pos (!1)]
   push_cast;grind
  ·rw[if_neg q1,if_pos q2,decide_eq_false q1,decide_eq_true q2,if_neg (!1),if_pos (!1),val_neg]
   push_cast;grind
  ·rw[if_neg q1,if_neg q2,decide_eq_false q1,decide_eq_false q2,if_neg (!1),if_neg (!1),val_zero]
   push_cast;grind
 rw[e1,e2,LP (by unfold jD;exact kU g2)]
def Ug(hl:m.length=s.streams.length){xq pq:List Q}(gx:∀q∈xq,Good q)(gp:∀q∈pq,Good q)(lx:xq.length=s.streams.length)(lp:pq.length=s.nodes.length+1):
  rN (s.streams.map bB) m (xq.map eV) (pq.map eV)=ph s m xq pq:=by
 unfold rN ph;rw[Dg,LP (show Good (pv pq 0)from kr gp 0),aa,lp];have e1:(ay (s.nodes.length+1-1)).all (fun v=>mW (s.streams.map bB) (xq.map eV) (v+1))=(ay s.nodes.length).all fun v=>fW (jD s [v+1] xq):=by
  rw[CJ];congr 1
  funext v
  exact Nw gx v
 have e2:((s.streams.map bB).zip (m.zip (xq.map eV))).all (fun x=>uG x.2.1 x.2.2 (j6 ((pq.map eV).getD x.1.2 (0,1)) ((pq.map eV).getD x.1.1 (0,1))))=s.streams.zipIdx.all fun y=>
   let d:=ie (pq.getD y.1.dst aq) (pq.getD y.1.src aq)
   match bx m y.2 with
   | some (v,w)=>Gn (eU (cA (w:Int)) (ie (xq.getD y.2 aq) (cA v))) d
   | none=>fW d:=by
  have e3:(s.streams.map bB).zip (m.zip (xq.map eV))=s.streams.zipIdx.map fun y=>(bB y.1,m.getD y.2 none,eV (xq.getD y.2 aq)):=by
   apply fV
   ·rw[cI,cI,aa,aa,aa,bj,hl,lx,ke,ke]
   ·intro i h1 h2;rw[aa,bj]at h2;rw[fU,fU,bK,bK,bK,eZ,kf,fq (!0),fq (!0)]
  rw[e3,List.all_map];congr 1
  funext y
  simp only[lI,bB];have gd:=kr gp y.1.dst;have gs:=kr gp y.1.src;have g:=kr gx y.2;rw[Dg,Dg];unfold pv;rw[xZ gd gs];unfold bx
  cases m.getD y.2 none with
  | none=>
   simp only[uG];exact LP (lS gd gs)
  | some k=>
   simp only[uG];rw[<-KJ,xZ g (eD _),Cb (lS g (eD _))];rw[f9,beq_iff_eq,Ue];have:eU (ie (xq.getD y.2 aq) (cA k.1)) (cA (k.2:Int))=eU (cA (k.2:Int)) (ie (xq.getD y.2 aq) (cA k.1)):=by
    unfold eU;rw[Int.mul_comm,uO]
   rw[this]
 rw[e1,e2];exact Bool.and_left_comm _ _ _
def HN:∀{l:cE} {n:Nat},MY n l=true->(∀q∈oG l,Good q)/\(oG l).length=n:=by
 intro l n h;unfold MY at h;rw[c8,decide_eq_true_iff,cp]at h;obtain⟨hl,ha⟩:=h;have key:∀(n:Nat) (l:cE),l.length=2*n->(∀i,i<n->1<=l.getD (2*i+1) 0)->(∀q∈oG l,Good q)/\(oG l).length=n:=by
  intro n
  induction n with
  | zero=>
   intro l hl _;have:l=[]:=jB (!0);subst this;exact⟨fun q hq=>(by cases hq),rfl⟩
  | succ n ih=>
   intro l hl hp
   match l,hl with
   | a::b::r,hl=>
    have hb:1<=b:=hp 0 (!0);obtain⟨g,e⟩:=ih r (by simp only[ah]at hl;omega) fun i hi=>by
     have:=hp (i+1) (!0);have e:2*(i+1)+1=(2*i+1)+2:=!0
     rw[e]at this;exact this
    refine⟨fun q hq=>?_,by show(oG r).length+1=n+1;rw[e]⟩;rcases bQ.mp hq with rfl | hq
    ·exact ng (!0)
    ·exact g q hq
   | [a],hl=>simp only[ah,bY]at hl;omega
   | [],hl=>simp only[bY]at hl;omega
 refine key n l hl fun i hi=>?_;have Pa:2*i+1<l.length:=!0
 have:=ha (l[2*i+1],2*i+1) (by rw[fQ];exact aV Pa);simp only[show(2*i+1)%2=1 by omega,show ¬(1=0) by omega,if_false,C0,c8,decide_eq_true_iff]at this;rw[fq Pa];exact this.1
end
open Vbmian (Token nodeOf STREAMS NODES)
def l9:Nat->bL->Nat×bL
 | p,[]=>(p,[])
 | p,c::r=>if c=32 then l9 (p+1) r else(p,c::r)
def jt:bL->Bool
 | []=>false
 | d::_=>me d
def BR(c p:Nat)(l:bL):Except Nat (Nat×bL):=match l9 p l with
 | (q,[])=>.error q
 | (q,d::r)=>if d=c then .ok (q+1,r)else .error q
def hJ(p:Nat)(l:bL):Except Nat (Nat×bL×bL):=
 let x:=l9 p l;let y:=cf 8 x.2
 if y.1=[]then .error x.1 else .ok (x.1,y.1,y.2)
def EJ(a1y:Bool)(start:Nat)(name rest:bL):Except Nat Nat:=
 if a1y=true then .error start else if jt rest=true then .error (start+name.length)else .ok (start+name.length)
structure Rd where
 place:Nat
 rest:bL
 streams:List a5a
 nodes:BL
def ip(r:Rd):Except Nat (bL×Rd):=match hJ r.place r.rest with
 | .error e=>.error e
 | .ok (st,name,rest)=>match EJ ((r.streams.any fun x=>x.name == name) || decide (r.streams.length=12)) st name rest with
  | .error e=>.error e
  | .ok p=>.ok (name,{r with place:=p,rest:=rest})
def oW(rO:Option Nat)(r:Rd):Except Nat (Nat×Rd):=match hJ r.place r.rest with
 | .error e=>.error e
 | .ok (st,name,rest)=>
  match EJ ((!r.nodes.contains name && decide (8<r.nodes.length)) || (r.nodes.contains name && decide (some (r.nodes.idxOf name)=rO))) st name rest with
  | .error e=>.error e
  | .ok p=>.ok (if r.nodes.contains name=true then r.nodes.idxOf name else r.nodes.length,{r with place:=p,rest:=rest,nodes:=if r.nodes.contains name=true then r.nodes else r.nodes++[name]})
def qd(c:Nat)(r:Rd):Except Nat Rd:=match BR c r.place r.rest with
 | .error e=>.error e
 | .ok x=>.ok {r with place:=x.1,rest:=x.2}
def fc(r:Rd):Except Nat Rd:=match ip r with
 | .error e=>.error e
 | .ok (name,r1)=>match qd 58 r1 with
  | .error e=>.error e
  | .ok r2=>match oW none r2 with
   | .error e=>.error e
   | .ok (i,r3)=>match qd 62 r3 with
    | .error e=>.error e
    | .ok r4=>match oW (some i) r4 with
     | .error e=>.error e
     | .ok (j,r5)=>.ok {r5 with streams:=r5.streams++[⟨name,i,j⟩]}
def bR(r:Rd):Rd:={r with place:=(l9 r.place r.rest).1,rest:=(l9 r.place r.rest).2}
def wg:Nat->Rd->Except Nat Rd
 | 0,r=>.ok r
 | k+1,r=>if(bR r).rest=[]then .ok (bR r)else match qd 44 (bR r)with
  | .error e=>.error e
  | .ok r1=>match fc r1 with
   | .error e=>.error e
   | .ok r2=>wg k r2
def uo(t:bL):Except Nat Rd:=match fc ⟨0,t,[],[eE]⟩with
 | .error e=>.error e
 | .ok r=>wg (t.length+1) r
theorem qe:∀(k:Nat) (l:bL),(cf k l).1.length+(cf k l).2.length=l.length
 | 0,l=>by simp[cf]
 | k+1,[]=>by simp[cf]
 | k+1,c::r=>by
  unfold cf;split
  ·have:=qe k r;simp only[ah];omega
  ·simp
theorem Cd:∀(k:Nat) (l:bL),(cf k l).1.length<=k
 | 0,l=>by simp[cf]
 | k+1,[]=>by simp[cf]
 | k+1,c::r=>by
  unfold cf;split
  ·have:=Cd k r;simp only[ah];omega
  ·simp
theorem y8:∀(k:Nat) (l:bL),jt (cf k l).2=true->(cf k l).1.length=k
 | 0,l,_=>by simp[cf]
 | k+1,[],h=>by simp[cf,jt]at h
 | k+1,c::r,h=>by
  unfold cf at h ⊢;split
  ·rename_i q;rw[if_pos q]at h;have:=y8 k r h;simp only[ah];omega
  ·rename_i q;rw[if_neg q]at h;simp[jt]at h;exact absurd h q
def uH{l:bL}:(cf 8 l).1=[]↔jt l=false:=by
 match l with
 | []=>simp[cf,jt]
 | c::r=>
  show(cf (7+1) (c::r)).1=[]↔me c=false;unfold cf;split
  ·rename_i q;simp[q]
  ·rename_i q;simp at q;simp[q]
def T(p:Nat)(l:bL):List (Nat×Token):=uc (l.length+1) p l
def Ny:∀(k:Nat) (p:Nat) (l:bL),l.length<k->uc k p l=uc (l.length+1) p l:=by
 intro k
 induction k using GW with
 | _ k ih=>
  intro p l hk
  match k,l,hk with
  | k+1,[],_=>rfl
  | k+1,c::r,hk=>
   simp only[ah]at hk ⊢;have e:∀p',uc k p' r=uc (r.length+1) p' r:=fun p'=>ih k (!0) p' r (!0);unfold uc;rw[e];split
   ·rfl
   ·split
    ·rfl
    ·split
     ·rfl
     ·split
      ·rfl
      ·split
       ·rename_i q;simp only;have hl:=qe 8 (c::r);have uN:(cf 8 (c::r)).1≠[]:=fun z=>by
         have:=uH.mp z;simp[jt]at this;rw[this]at q;exact absurd q ck
        have Kl:0<(cf 8 (c::r)).1.length:=uB.mpr uN;simp only[ah]at hl;congr 1
        cases em:(cf 8 (c::r)).2 with
        | nil=>rfl
        | cons d u=>
         simp only;split
         ·rfl
         ·rw[em]at hl;simp only[ah]at hl;rw[ih k (!0) _ (d::u) (by simp only[ah];omega)];exact(ih (r.length+1) (!0) _ (d::u) (by simp only[ah];omega)).symm
       ·rfl
def a1z(p:Nat):T p []=[(p,.done)]:=rfl
def WS(p:Nat)(r:bL):T p (32::r)=T (p+1) r:=by
 unfold T;simp only[ah];rw[uc];simp
def QG(p:Nat)(r:bL):T p (58::r)=(p,.colon)::T (p+1) r:=by
 unfold T;simp only[ah];rw[uc];simp
def QH(p:Nat)(r:bL):T p (62::r)=(p,.arrow)::T (p+1) r:=by
 unfold T;simp only[ah];rw[uc];simp
def QI(p:Nat)(r:bL):T p (44::r)=(p,.comma)::T (p+1) r:=by
 unfold T;simp only[ah];rw[uc];simp
def Uh{p c:Nat}{r:bL}(h:me c=true):T p (c::r)=(p,.word (cf 8 (c::r)).1)::if jt (cf 8 (c::r)).2=true then [(p+(cf 8 (c::r)).1.length,.bad)]else T (p+(cf 8 (c::r)).1.length) (cf 8 (c::r)).2:=by
 have hc:97<=c/\c<=122:=by unfold me at h;simpa using h
 have uN:(cf 8 (c::r)).1≠[]:=fun z=>by
  have:=uH.mp z;simp[jt]at this;rw[this]at h;exact absurd h ck
 have Kl:0<(cf 8 (c::r)).1.length:=uB.mpr uN;have hl:=qe 8 (c::r);have hf:=y8 8 (c::r);simp only[ah]at hl;unfold T;simp only[ah];rw[uc];simp only;rw[if_neg (!0),if_neg (!0),if_neg (!0),if_neg (!0),if_pos h];congr 1
 cases em:(cf 8 (c::r)).2 with
 | nil=>
  simp only[jt];rfl
 | cons d u=>
  rw[em]at hl hf;simp only[ah]at hl;by_cases q:me d=true
  ·rw[if_pos (show jt (d::u)=true from q),hf q];simp only[q,if_true]
  ·rw[if_neg (show ¬jt (d::u)=true from q)];simp only[q];exact Ny _ _ (d::u) (by simp only[ah];omega)
def a1A{p c:Nat}{r:bL}(h:me c=false)(h1:c≠32)(h2:c≠58)(h3:c≠62)(h4:c≠44):T p (c::r)=[(p,.bad)]:=by
 unfold T;simp only[ah];rw[uc];simp only;rw[if_neg h1,if_neg h2,if_neg h3,if_neg h4,if_neg (by rw[h];decide)]
theorem LQ:∀(l:bL) (p:Nat),T p l=T (l9 p l).1 (l9 p l).2
 | [],p=>rfl
 | c::r,p=>by
  unfold l9;split
  ·rename_i q;subst q;rw[WS];exact LQ r (p+1)
  ·rfl
theorem y9:∀(l:bL) (p:Nat) {c:Nat} {r:bL},(l9 p l).2=c::r->c≠32
 | [],p,c,r,h=>by simp[l9]at h
 | d::l,p,c,r,h=>by
  unfold l9 at h;split at h
  ·exact y9 l _ h
  ·rename_i q;simp only[zv]at h;rw[<-h.1];exact q
theorem uT:∀(l:bL) (p:Nat),(l9 p l).2.length<=l.length
 | [],p=>ao _
 | d::l,p=>by
  unfold l9;split
  ·have:=uT l (p+1);simp only[ah];omega
  ·exact ao _
def LS{q d:Nat}(r:bL)(h:d≠32):∃tk u,T q (d::r)=(q,tk)::u/\(tk= .colon->d=58)/\(tk= .arrow->d=62)/\(tk= .comma->d=44)/\tk≠ .done/\((∃w,tk= .word w)->me d=true):=by
 by_cases h1:d=58
 ·subst h1;exact⟨_,_,QG q r,by simp,by simp,by simp,by simp,by simp⟩
 ·by_cases h2:d=62
  ·subst h2;exact⟨_,_,QH q r,by simp,by simp,by simp,by simp,by simp⟩
  ·by_cases h3:d=44
   ·subst h3;exact⟨_,_,QI q r,by simp,by simp,by simp,by simp,by simp⟩
   ·cases h4:me d with
    | true=>exact⟨_,_,Uh h4,by simp,by simp,by simp,by simp,by simp⟩
    | false=>exact⟨_,_,a1A h4 h h1 h2 h3,by simp,by simp,by simp,by simp,by simp⟩
def Pk(c:Nat)(tk:Token)(hT:∀p r,T p (c::r)=(p,tk)::T (p+1) r)(hk:(tk= .colon/\c=58)\/(tk= .arrow/\c=62)\/(tk= .comma/\c=44))(p:Nat)(l:bL):
  (∃q r,BR c p l= .ok (q+1,r)/\T p l=(q,tk)::T (q+1) r/\r.length<l.length)\/(∃q d u,BR c p l= .error q/\T p l=(q,d)::u/\d≠tk):=by
 rw[LQ l p];unfold BR;have ko:=uT l p
 cases e:l9 p l with
 | mk q l2=>
  rw[e]at ko
  cases l2 with
  | nil=>exact .inr ⟨q,.done,[],rfl,rfl,fun z=>by rcases hk with⟨h,_⟩ | ⟨h,_⟩ | ⟨h,_⟩<;>(rw[h]at z;cases z)⟩
  | cons d r=>
   simp only;by_cases h:d=c
   ·subst h;rw[if_pos rfl];exact .inl ⟨q,r,rfl,hT q r,by simp only[ah]at ko;omega⟩
   ·rw[if_neg h];have hd:d≠32:=y9 l p (by rw[e]);obtain⟨t,u,e1,a1,a2,a3,_⟩:=LS (q:=q) r hd;refine .inr ⟨q,t,u,rfl,e1,fun z=>h ?_⟩;rcases hk with⟨k1,k2⟩ | ⟨k1,k2⟩ | ⟨k1,k2⟩
    ·rw[k2];exact a1 (z.trans k1)
    ·rw[k2];exact a2 (z.trans k1)
    ·rw[k2];exact a3 (z.trans k1)
def after(p:Nat)(rest:bL):List (Nat×Token):=if jt rest=true then [(p,.bad)]else T p rest
def KP(p:Nat)(l:bL):(∃st name rest,hJ p l= .ok (st,name,rest)/\T p l=(st,.word name)::after (st+name.length) rest/\rest.length<l.length)\/(∃q d u,hJ p l= .error q/\T p l=(q,d)::u/\∀w,d≠ .word w):=by
 rw[LQ l p];unfold hJ;have ko:=uT l p;have hh:∀{c r},(l9 p l).2=c::r->c≠32:=fun h=>y9 l p h;generalize (l9 p l)=x at ko hh;obtain⟨q,l2⟩:=x;simp only at ko hh ⊢;have hl:=qe 8 l2;by_cases e:(cf 8 l2).1=[]
 ·rw[if_pos e]
  right
  cases l2 with
  | nil=>exact⟨q,.done,[],rfl,rfl,fun w z=>by cases z⟩
  | cons d r=>
   obtain⟨t,u,e1,_,_,_,_,a5⟩:=LS (q:=q) r (hh rfl);refine⟨q,t,u,rfl,e1,fun w z=>?_⟩;have h1:=a5 ⟨w,z⟩;have h2:=uH.mp e;simp[jt]at h2;rw[h2]at h1;exact absurd h1 ck
 ·rw[if_neg e]
  left
  cases l2 with
  | nil=>exact absurd (by simp[cf]) e
  | cons d r=>
   have h1:me d=true:=by
    cases z:me d with
    | true=>rfl
    | false=>exact absurd (uH.mpr (by simp[jt,z])) e
   refine⟨q,_,_,rfl,Uh h1,?_⟩;have Kl:=uB.mpr e;omega
def Se(nodes:BL)(w:bL):nodeOf nodes w=if(eE::nodes).contains w=true then some ((eE::nodes).idxOf w,nodes)else if 8<(eE::nodes).length then none else some ((eE::nodes).length,nodes++[w]):=by
 unfold nodeOf;by_cases h:w=eE
 ·rw[if_pos h,h,if_pos (!1)];rw[List.idxOf_cons_self]
 ·rw[if_neg h];have h':¬eE=w:=fun z=>h z.symm;have hb:(eE == w)=false:=by simp[h']
  by_cases hm:w∈nodes
  ·have hi:nodes.findIdx? (fun x=>x == w)=some (nodes.idxOf w):=by
    rw[List.findIdx?_eq_some_iff_findIdx_eq];exact⟨lJ.mpr hm,rfl⟩
   have hc:(eE::nodes).contains w=true:=by simp[hm]
   rw[hi,hc,if_pos rfl];simp only[List.idxOf_cons,hb,cond_false]
  ·have hi:nodes.findIdx? (fun x=>x == w)=none:=by
    rw[w9];intro x hx;simp;intro z;exact hm (z▸hx)
   have hc:(eE::nodes).contains w=false:=by simp[hm,h]
   rw[hi,hc,if_neg (show ¬false=true by decide)];simp only[ah];unfold NODES;by_cases q:8<=nodes.length
   ·rw[if_pos q,if_pos (!0)]
   ·rw[if_neg q,if_neg (!0)]
structure Nz(r:Rd):Prop where
 nodes:∃ns,r.nodes=eE::ns
 few:r.streams.length<=12
def iZ(r:Rd):cg:=⟨r.streams,r.nodes.tail⟩
def HP(k:Nat)(t:cg)(toks:List (Nat×Token)):Except Nat cg:=match toks with
 | (_,.comma)::r4=>CK k t r4
 | (_,.done)::_=>.ok t
 | (p3,_)::_=>.error p3
 | []=>.ok t
def HQ{p:Nat}{rest:bL}(h:jt rest=false):after p rest=T p rest:=by
 unfold after;rw[if_neg (by rw[h];decide)]
def Ui{r:Rd}{ns:BL}(Jx:r.nodes=eE::ns)(rO:Option Nat)(hb:∀b,rO=some b->b<r.nodes.length):
  (∃q d u,oW rO r= .error q/\T r.place r.rest=(q,d)::u/\∀w,d≠ .word w)\/
  ∃st a rest,T r.place r.rest=(st,.word a)::after (st+a.length) rest/\rest.length<r.rest.length/\
   ((nodeOf ns a=none/\oW rO r= .error st)\/
    ∃i ns',nodeOf ns a=some (i,ns')/\i<(eE::ns').length/\
    ((rO=some i/\oW rO r= .error st)\/
     (rO≠some i/\jt rest=true/\oW rO r= .error (st+a.length))\/
     (rO≠some i/\jt rest=false/\oW rO r= .ok (i,{r with place:=st+a.length,rest:=rest,nodes:=eE::ns'})))):=by
 unfold oW;rcases KP r.place r.rest with⟨st,a,rest,e1,e2,l1⟩ | ⟨q,d,u,e1,e2,hw⟩
 ·right
  refine⟨st,a,rest,e2,l1,?_⟩;rw[e1,Se ns a];simp only;rw[Jx];unfold EJ
  cases hin:(eE::ns).contains a with
  | true=>
   right
   refine⟨(eE::ns).idxOf a,ns,rfl,lJ.mpr (by simpa using hin),?_⟩;simp only[pf,kA,C1,eJ,if_true];by_cases q:some ((eE::ns).idxOf a)=rO
   ·left
    refine⟨q.symm,?_⟩;rw[decide_eq_true q];rfl
   ·right
    rw[decide_eq_false q]
    cases hh:jt rest with
    | true=>left;exact⟨fun z=>q z.symm,rfl,by simp⟩
    | false=>right;exact⟨fun z=>q z.symm,rfl,by simp⟩
  | false=>
   simp only[qT,eJ,kA,BZ,bU,if_false];by_cases q:8<(eE::ns).length
   ·left
    rw[if_pos q,decide_eq_true q];exact⟨rfl,rfl⟩
   ·right
    rw[if_neg q,decide_eq_false q];refine⟨_,_,rfl,by simp,?_⟩;have uN:rO≠some (eE::ns).length:=fun z=>by
     have:=hb _ z;rw[Jx]at this;omega
    right
    cases hh:jt rest with
    | true=>left;exact⟨uN,rfl,by simp⟩
    | false=>right;exact⟨uN,rfl,by simp⟩
 ·left
  exact⟨q,d,u,by rw[e1],e2,hw⟩
def Di{r:Rd}(I:Nz r)(k:Nat):CK (k+1) (iZ r) (T r.place r.rest)=(match fc r with
  | .error e=>.error e
  | .ok r'=>HP k (iZ r') (T r'.place r'.rest))/\∀r',fc r= .ok r'->Nz r'/\r'.rest.length<r.rest.length:=by
 obtain⟨⟨ns,Jx⟩,qQ⟩:=I;unfold fc ip;rcases KP r.place r.rest with⟨st,name,rest,e1,e2,l1⟩ | ⟨q,d,u,e1,e2,hw⟩
 rotate_left
 ·rw[e1,e2];refine⟨?_,fun r' h=>by cases h⟩;unfold CK
  cases d with
  | word w=>exact absurd rfl (hw w)
  | _=>rfl
 rw[e1,e2];simp only[iZ];unfold CK EJ;simp only;have YD:((r.streams.any fun x=>x.name == name) || decide (r.streams.length=12))=true↔((r.streams.any fun x=>x.name == name)=true\/STREAMS<=r.streams.length):=by
  rw[ud,decide_eq_true_iff];unfold STREAMS;constructor
  ·rintro(h | h)
   ·exact .inl h
   ·exact .inr (!0)
  ·rintro(h | h)
   ·exact .inl h
   ·exact .inr (!0)
 by_cases hc:((r.streams.any fun x=>x.name == name) || decide (r.streams.length=12))=true
 ·rw[if_pos (YD.mp hc),if_pos hc];exact⟨rfl,fun r' h=>by cases h⟩
 rw[if_neg (fun z=>hc (YD.mpr z)),if_neg hc];have a3s:r.streams.length<12:=by
  rw[ud,decide_eq_true_iff]at hc;have:¬r.streams.length=12:=fun z=>hc (.inr z);omega
 cases hh:jt rest with
 | true=>
  simp only[if_true];refine⟨?_,fun r' h=>by cases h⟩;unfold after;rw[if_pos hh]
 | false=>
 simp only[bU,if_false];rw[HQ hh];unfold qd;simp only;rcases Pk 58 .colon QG (.inl ⟨rfl,rfl⟩) (st+name.length) rest with⟨q,r2,f1,f2,l2⟩ | ⟨q,d,u,f1,f2,hd⟩
 rotate_left
 ·rw[f1,f2];refine⟨?_,fun r' h=>by cases h⟩
  cases d with
  | colon=>exact absurd rfl hd
  | _=>rfl
 rw[f1,f2];simp only;rcases Ui (r:={place:=q+1,rest:=r2,streams:=r.streams,nodes:=r.nodes}) Jx none (fun b z=>by cases z)with⟨q',d,u,g1,g2,hw⟩ | ⟨sa,a,ra,g2,l3,hA⟩
 ·simp only at g2;rw[g1,g2];refine⟨?_,fun r' h=>by cases h⟩
  cases d with
  | word w=>exact absurd rfl (hw w)
  | _=>rfl
 simp only at g2 l3;rw[g2,Jx];simp only[JE];rw[Jx]at hA;rcases hA with⟨n1,n2⟩ | ⟨i,ns',n1,hi,hA⟩
 ·rw[n1,n2];exact⟨rfl,fun r' h=>by cases h⟩
 rw[n1];rcases hA with⟨z,_⟩ | ⟨_,hh2,n2⟩ | ⟨_,hh2,n2⟩
 ·cases z
 ·rw[n2];simp only;unfold after;rw[if_pos hh2];exact⟨rfl,fun r' h=>by cases h⟩
 rw[n2];simp only;rw[HQ hh2];rcases Pk 62 .arrow QH (.inr (.inl ⟨rfl,rfl⟩)) (sa+a.length) ra with⟨q3,r4,f3,f4,l4⟩ | ⟨q3,d,u,f3,f4,hd⟩
 rotate_left
 ·rw[f3,f4];refine⟨?_,fun r' h=>by cases h⟩
  cases d with
  | arrow=>exact absurd rfl hd
  | _=>rfl
 rw[f3,f4];simp only;rcases Ui (r:={place:=q3+1,rest:=r4,streams:=r.streams,nodes:=eE::ns'}) rfl (some i) (fun b z=>by cases z;exact hi)with⟨q',d,u,g3,g4,hw⟩ | ⟨sb,b,rb,g4,l5,hB⟩
 ·simp only at g4;rw[g3,g4];refine⟨?_,fun r' h=>by cases h⟩
  cases d with
  | word w=>exact absurd rfl (hw w)
  | _=>rfl
 simp only at g4 l5;rw[g4];simp only;rcases hB with⟨n3,n4⟩ | ⟨j,ns2,n3,hj,hB⟩
 ·rw[n3,n4];exact⟨rfl,fun r' h=>by cases h⟩
 rw[n3];simp only;rcases hB with⟨z,n4⟩ | ⟨uN,hh3,n4⟩ | ⟨uN,hh3,n4⟩
 ·rw[n4];have:i=j:=be z;rw[if_pos this];exact⟨rfl,fun r' h=>by cases h⟩
 ·rw[n4];rw[if_neg (fun z=>uN (by rw[z]))];unfold after;rw[if_pos hh3];exact⟨rfl,fun r' h=>by cases h⟩
 ·rw[n4];rw[if_neg (fun z=>uN (by rw[z])),HQ hh3];refine⟨?_,fun r' h=>?_⟩
  ·simp only[JE];unfold HP;rfl
  ·cases h;refine⟨⟨⟨ns2,rfl⟩,?_⟩,?_⟩
   ·simp only[aE,ah,bY];omega
   ·simp only at l5 ⊢;omega
theorem QJ:∀(k' k:Nat) (r:Rd),Nz r->r.rest.length<k->r.rest.length<k'->HP k (iZ r) (T r.place r.rest)=(match wg k' r with
  | .error e=>.error e
  | .ok r'=>.ok (iZ r'))
 | 0,k,r,_,_,h=>by omega
 | k'+1,k,r,I,hk,Zv=>by
  unfold wg;rw[LQ r.rest r.place];have hls:=uT r.rest r.place;by_cases e:(bR r).rest=[]
  ·rw[if_pos e];have e':(l9 r.place r.rest).2=[]:=e;rw[e',a1z];rfl
  ·rw[if_neg e];unfold qd;have hsk:∀{c l},(l9 r.place r.rest).2=c::l->c≠32:=fun h=>y9 _ _ h;show HP k (iZ r) (T (bR r).place (bR r).rest)=_;have a54:(bR r).rest.length<=r.rest.length:=hls;rcases Pk 44 .comma QI (.inr (.inr ⟨rfl,rfl⟩)) (bR r).place (bR r).rest with⟨q,r4,f3,f4,l4⟩ | ⟨q,d,u,f3,f4,hd⟩
   ·rw[f3,f4];simp only[HP];obtain⟨k2,rfl⟩:∃k2,k=k2+1:=⟨k-1,by omega⟩;have I2:Nz {(bR r)with place:=q+1,rest:=r4}:=⟨I.nodes,I.few⟩;obtain⟨h1,h2⟩:=Di I2 k2;have es:iZ {(bR r)with place:=q+1,rest:=r4}=iZ r:=rfl;rw[es]at h1;simp only at h1;rw[h1]
    cases em:fc {(bR r)with place:=q+1,rest:=r4}with
    | error x=>rfl
    | ok r'=>
     simp only;obtain⟨I3,l5⟩:=h2 r' em;simp only at l5;exact QJ k' k2 r' I3 (!0) (!0)
   ·rw[f3,f4];simp only
    cases d with
    | comma=>exact absurd rfl hd
    | done=>
     exfalso
     cases hm:(bR r).rest with
     | nil=>exact e hm
     | cons c l=>
      obtain⟨t,u',e1,_,_,_,a4,_⟩:=LS (q:=(bR r).place) l (hsk hm);rw[hm,e1]at f4;simp only[zv,Kn]at f4;exact a4 f4.1.2
    | _=>rfl
def QK(t:bL):Gq t=(match uo t with
  | .error e=>.error e
  | .ok r=>.ok (iZ r)):=by
 unfold Gq uo;have I:Nz ⟨0,t,[],[eE]⟩:=⟨⟨[],rfl⟩,by show 0<=12;omega⟩;obtain⟨h1,h2⟩:=Di I t.length;have e:uc (t.length+1) 0 t=T 0 t:=rfl;rw[e];have es:iZ ⟨0,t,[],[eE]⟩=⟨[],[]⟩:=rfl;rw[es]at h1;simp only at h1;rw[h1]
 cases em:fc ⟨0,t,[],[eE]⟩with
 | error x=>rfl
 | ok r=>
  obtain⟨I2,l⟩:=h2 r em;simp only at l ⊢;exact QJ (t.length+1) t.length r I2 l (!0)
theorem QM{A:Nat->vV}{n:Nat}(hp:∀t,t<n->0<gj A t t t):∀k,k<=n->0<dt A k
 | 0,_=>by show(0:Rat)<1;decide
 | k+1,h=>by
  show 0<dt A k*gj A k k k;exact Av (QM hp k (!0)) (hp k (!0))
def KQ{s:cg}{m:aJ}(W:WF s m){k:Nat}(hk:k<=(mo s m).length):0<(dm (lU s m) k).2:=by
 have BY:(0:Rat)<(jk s m:Rat):=by exact_mod_cast KG W
 obtain⟨xs,h1,h2,h3,h4,h5⟩:=Kx BY (we (s:=s) (m:=m)) zU (HD W) (fun i j hi hj=>EH W hi hj) fun t ht hu=>by
  obtain⟨y,yk,_,e⟩:=HA (A:=nN (mr s m)) hu;rw[e];exact Nm W ht yk
 have hp0:∀t,t<(mo s m).length->gj (nN (mr s m)) t t t≠0:=fun t ht e=>by have:=h5 t ht;rw[e]at this;exact absurd this ck
 have hc0:(jk s m:Rat)≠0:=fun e=>by rw[e]at BY;exact absurd BY ck
 have hB:=fun(k:Nat)=>HB (A:=nN (mr s m)) (B:=fun i j=>(ent (lU s m) i j:Rat)) hc0 (fun i j hi hj=>EH W hi hj) hp0 (k:=k);have Kl:∀t,t<(mo s m).length->0<gj (fun i j=>(ent (lU s m) i j:Rat)) t t t:=fun t ht=>by
  rw[hB t (!0) t t ht (!0),if_neg (!0)];exact Av BY (h5 t ht)
 obtain⟨_,hd,_⟩:=EE (we (s:=s) (m:=m)) (A:=fun i j=>(ent (lU s m) i j:Rat)) (fun i j=>rh.int _) (fun _ _ _ _=>rfl) (fun t ht e=>by have:=Kl t ht;rw[e]at this;exact absurd this ck) hk;have:=QM Kl k hk;rw[<-hd]at this
 exact_mod_cast this
end fw
namespace L2
open PySem PySem.Spec PyProof.Rows
abbrev MG:=cY->Option aH
abbrev Pn:=List (aI×uC)
abbrev Key:=Sum Int cY
def BS:Key->aH->Bool
 | .inl k,v=>jE k v
 | .inr x,v=>Ko x v
def a3t(w:cH):Key->Int
 | .inl k=>Hu k
 | .inr x=>hashStr w x
def lg:∀{k:Key} {v:aH},BS k v=true->(∃i t,k=j2 i/\v=uW i t)\/(∃x t,k=Bm x/\v=Fv x t)
 | .inl i,v,h=>by
  obtain⟨t,e⟩:=aH.isInt_shape (k:=i) (v:=v) h;exact .inl ⟨i,t,rfl,e⟩
 | .inr x,v,h=>by
  obtain⟨t,e⟩:=aH.isStrOf_shape (x:=x) (v:=v) h;exact .inr ⟨x,t,rfl,e⟩
def Sf(i:Int)(t:Tok):BS (.inl i) (.int i t)=true:=by simp[BS,jE]
def Sg(x:cY)(t:Tok):BS (.inr x) (.str x t)=true:=by simp[BS,Ko]
def ZJ(a b:Int):decide ((j2 a:Key)=j2 b)=(a == b):=by
 by_cases e:a=b
 ·subst e;simp
 ·have h:¬(j2 a:Key)=j2 b:=fun q=>e (Gr q);rw[decide_eq_false h];exact(beq_eq_false_iff_ne.mpr e).symm
def ZK(a b:cY):decide ((Bm a:Key)=Bm b)=decide (a=b):=by
 by_cases e:a=b
 ·subst e;simp
 ·have h:¬(Bm a:Key)=Bm b:=fun q=>e (Bm.inj q);rw[decide_eq_false h,decide_eq_false e]
def ZL(a:Int)(b:cY):decide ((j2 a:Key)=Bm b)=false:=decide_eq_false (fun q=>nomatch q)
def ZM(a:cY)(b:Int):decide ((Bm a:Key)=j2 b)=false:=decide_eq_false (fun q=>nomatch q)
def kH(prog:bp)(w:cH):PySem.KeyKind prog w Key where
 is:=BS
 hash:=a3t w
 inj:=fun v a b ha hb=>by
  rcases lg ha with⟨i,t,rfl,rfl⟩ | ⟨x,t,rfl,rfl⟩
  ·rcases lg hb with⟨j,u,rfl,e⟩ | ⟨y,u,rfl,e⟩
   ·injection e with e1 _;rw[e1]
   ·exact nomatch e
  ·rcases lg hb with⟨j,u,rfl,e⟩ | ⟨y,u,rfl,e⟩
   ·exact nomatch e
   ·injection e with e1 _;rw[e1]
 byValue:=fun k v h=>by
  rcases lg h with⟨i,t,rfl,rfl⟩ | ⟨x,t,rfl,rfl⟩<;>rfl
 pyHash:=fun hv h=>by
  rcases lg hv with⟨i,t,rfl,rfl⟩ | ⟨x,t,rfl,rfl⟩
  ·exact wpAny_pyHash_int h
  ·exact wpAny_pyHash_str h
 eqBool:=fun hu hv h=>by
  rcases lg hu with⟨i,t,rfl,rfl⟩ | ⟨x,t,rfl,rfl⟩
  ·rcases lg hv with⟨j,u,rfl,rfl⟩ | ⟨y,u,rfl,rfl⟩
   ·rw[ZJ]at h;exact wpAny_eqBool_int h
   ·rw[ZL]at h;exact CL i t y u _ _ _ _ h
  ·rcases lg hv with⟨j,u,rfl,rfl⟩ | ⟨y,u,rfl,rfl⟩
   ·rw[ZM]at h;exact CM x t j u _ _ _ _ h
   ·rw[ZK]at h;exact wpAny_eqBool_str h
 «strs»:=fun k x t v h=>by
  rcases lg h with⟨i,u,rfl,e⟩ | ⟨y,u,rfl,e⟩
  ·exact nomatch e
  ·injection e with e1 _;subst e1
   cases v<;>rfl
def NA(prog:bp)(w:cH)(i:Int)(t:Tok):(kH prog w).is (.inl i) (.int i t)=true:=Sf i t
def NB(prog:bp)(w:cH)(x:cY)(t:Tok):(kH prog w).is (.inr x) (.str x t)=true:=Sg x t
inductive V where
 | fA | bl (b:Bool) | int (i:Int) | str (x:cY) | TC (b:Array UInt8) | flt (b:UInt64) | ref (a:aI) | ty (n:String)
 deriving DecidableEq
abbrev cV:=List V
abbrev nz:=List (cY×V)
def RelV:V->aH->Prop
 | .fA,u=>u=ij
 | .bl b,u=>u=aH.bool b
 | .int i,u=>∃t,u=uW i t
 | .str x,u=>∃t,u=Fv x t
 | .TC b,u=>∃t,u=aH.bytes b t
 | .flt b,u=>∃t,u=aH.float b t
 | .ref a,u=>u=cj a
 | .ty n,u=>u=aH.type n
abbrev Vals:cV->fk->Prop:=JF RelV
def Vals.length{xs:cV}{us:fk}(r:Vals xs us):xs.length=us.length:=Kp r
theorem Vals.get:∀{xs:cV} {us:fk} {i:Nat} {x:V},Vals xs us->xs[i]? =some x->∃u,us[i]? =some u/\RelV x u
 | _,_,_,_,.nil,e=>by simp at e
 | _,_,0,_,.cons r _,e=>by simp at e;subst e;exact⟨_,rfl,r⟩
 | _,_,i+1,x,.cons _ t,e=>by
  obtain⟨u,h1,h2⟩:=Vals.get (i:=i) (x:=x) t (by simpa using e);exact⟨u,by simpa using h1,h2⟩
theorem Vals.set(r:RelV x u):∀{xs:cV} {us:fk} (i:Nat),Vals xs us->Vals (xs.set i x) (us.set i u)
 | _,_,_,.nil=>.nil
 | _,_,0,.cons _ t=>.cons r t
 | _,_,i+1,.cons q t=>.cons q (Vals.set r i t)
theorem Vals.append{xs ys:cV}{us ws:fk}(h:Vals xs us)(s:Vals ys ws):Vals (xs++ys) (us++ws):=by
 cases h with
 | nil=>exact s
 | cons r t=>exact .cons r (Vals.append t s)
theorem Vals.take:∀{xs:cV} {us:fk} (n:Nat),Vals xs us->Vals (xs.take n) (us.take n)
 | _,_,0,_=>.nil
 | _,_,_+1,.nil=>.nil
 | _,_,n+1,.cons r t=>.cons r (Vals.take n t)
theorem Vals.drop:∀{xs:cV} {us:fk} (n:Nat),Vals xs us->Vals (xs.drop n) (us.drop n)
 | _,_,0,r=>r
 | _,_,_+1,.nil=>.nil
 | _,_,n+1,.cons _ t=>Vals.drop n t
def Ce:Option V->iF->Prop
 | some v,some u=>RelV v u
 | none,none=>True
 | _,_=>False
def KV{κ:Type}:List (κ×V)->List (κ×aH)->Prop:=JF fun(p:κ×V) (q:κ×aH)=>p.1=q.1/\RelV p.2 q.2
def kV:Key->V
 | .inl i=>.int i
 | .inr x=>.str x
inductive HO where
 | lst (xs:cV)
 | tup (xs:cV)
 | dK (ji:List (Key×V)) | dT (ji:List (List Key×V))
 | set (S:Int->Bool) (n:Nat)
 | ins (C dx:aI) (fs:nz)
 | own (x:aI)
 | xd (fs:nz)
 | met (f x:aI)
 | D0 (lo hi:Int)
 | P4 (o:uC) (u:HO)
 | ZN (ps:nc)
 | ext (φ:cy->Prop)
abbrev Hp:=aI->Option HO
def upd(H:Hp)(a:aI)(o:HO):Hp:=fun b=>if b=a then some o else H b
def aU{o:HO}:upd H a o a=some o:=by unfold upd;rw[if_pos rfl]
def aL{H:Hp}{a b:aI}{o:HO}(h:b≠a):upd H a o b=H b:=by unfold upd;rw[if_neg h]
def Hf{o u:HO}:upd (upd H a o) a u=upd H a u:=by
 funext b;unfold upd;split<;>rfl
def bo{H:Hp}{a b:aI}{o:HO}(h:H a=some o)(h':H b=none):a≠b:=by
 intro e;subst e;rw[h]at h';cases h'
section
variable(P:bp)(w:cH)
def jK(H:Hp)(h:cy)(a:aI):HO->Prop
 | .lst xs=>xs.length<=bC/\∃(eI:fk) (n:Nat),Vals xs eI/\h.get? a=some {cls:=.type "list",data:=.seq eI.toArray n}
 | .tup xs=>xs.length<=bC/\∃eI:fk,Vals xs eI/\IsTup h a eI.toArray
 | .dK ji=>ji.length<=bC/\(a == sx)=false/\∃vs,KV ji vs/\h.DictOf (kH P w) a vs
 | .dT ji=>ji.length<=bC/\(a == sx)=false/\∃xs:List (List Key×aI×aH),
   JF (fun(p:List Key×V) (q:List Key×aI×aH)=>p.1=q.1/\H q.2.1=some (.tup (p.1.map kV))/\RelV p.2 q.2.2) ji xs/\
   ∃o es ep,h.get? a=some o/\o.ExactDict/\o.data= .dict es ep/\es.toList=xs.map (entryOfKey (Bn (kH P w)))/\(xs.map (·.1)).Nodup
 | .set S n=>h.SetOf (intKind P w) a S n
 | .ins C dx fs=>H dx=some (.own a)/\fs.length<=1000/\dx≠a/\h.get? a=some (jP C dx)/\
   ∃mA,h.Ns1 dx mA/\(∀f,Ce (fs.lookup f) (mA f))/\E8 mA (fs.map (·.1))
 | .own _=>∃o,h.get? a=some o
 | .xd fs=>∃mA,h.Ns1 a mA/\∀f,Ce (fs.lookup f) (mA f)
 | .D0 lo hi=>∃t u v,h.get? a=some {cls:=.type "range",data:=.fields #[.int lo t,.int hi u,.int 1 v]}
 | .P4 o u=>h.get? a=some o/\jK H h a u
 | .ZN ps=>h.get? a=some {cls:=.none,data:=.fields ps}
 | .met f x=>h.get? a=some (wF (.ref f) (.ref x))
 | .ext φ=>φ h/\(∃o,h.get? a=some o)/\∀h1 h2:cy,φ h1->(∀o,h1.get? a=some o->h2.get? a=some o)->φ h2
def D1(H:Hp)(h:cy):Prop:=∀a o,H a=some o->jK P w H h a o
end
section
variable {P:bp}{w:cH}{H H':Hp}{h h':cy}{a:aI}{o:HO}
def jK.lt(x:jK P w H h a o):a<h.objs.size:=by
 cases o with
 | lst xs=>obtain⟨_,_,_,_,e⟩:=x;exact aM e
 | tup xs=>obtain⟨_,_,_,p⟩:=x;exact p.lt
 | dK ji=>obtain⟨_,_,_,_,o,_,_,e,_⟩:=x;exact aM e
 | dT ji=>obtain⟨_,_,_,_,o,_,_,e,_⟩:=x;exact aM e
 | set S n=>obtain⟨o,_,_,_,e,_⟩:=x;exact aM e
 | ins C dx fs=>obtain⟨_,_,_,e,_⟩:=x;exact aM e
 | own y=>obtain⟨_,e⟩:=x;exact aM e
 | xd fs=>obtain⟨_,⟨_,_,_,e,_⟩,_⟩:=x;exact aM e
 | D0 lo hi=>obtain⟨_,_,_,e⟩:=x;exact aM e
 | P4 ob u=>obtain⟨e,_⟩:=x;exact aM e
 | ZN ps=>exact aM (show h.get? a=some _ from x)
 | met f y=>exact aM (show h.get? a=some _ from x)
 | ext φ=>obtain⟨_,⟨_,e⟩,_⟩:=x;exact aM e
theorem Paired.a1B{α β:Type}{F G:α->β->Prop}{l₁:List α}{l₂:List β}(h:JF F l₁ l₂)(f:∀a b,F a b->G a b):JF G l₁ l₂:=by
 cases h with
 | nil=>exact .nil
 | cons r t=>exact .cons (f _ _ r) (Paired.a1B t f)
def jK.stay(x:jK P w H h a o)(k:∀b u,(b=a\/H b=some (.own a))->h.get? b=some u->h'.get? b=some u)
  (ho:∀b,H b=some (.own a)->H' b=some (.own a))(ht:∀b xs,H b=some (.tup xs)->H' b=some (.tup xs)):jK P w H' h' a o:=by
 induction o with
 | lst xs=>obtain⟨z,eI,n,r,e⟩:=x;exact⟨z,eI,n,r,k _ _ (.inl rfl) e⟩
 | tup xs=>obtain⟨z,eI,r,ob,e,c⟩:=x;exact⟨z,eI,r,ob,k _ _ (.inl rfl) e,c⟩
 | dK ji=>obtain⟨z,y,vs,r,ob,es,ep,e,c⟩:=x;exact⟨z,y,vs,r,ob,es,ep,k _ _ (.inl rfl) e,c⟩
 | dT ji=>
  obtain⟨z,y,xs,r,ob,es,ep,e,c⟩:=x;exact⟨z,y,xs,Paired.a1B r fun p q z=>⟨z.1,ht _ _ z.2.1,z.2.2⟩,ob,es,ep,k _ _ (.inl rfl) e,c⟩
 | set S n=>obtain⟨ob,es,ep,t,e,c⟩:=x;exact⟨ob,es,ep,t,k _ _ (.inl rfl) e,c⟩
 | ins C dx fs=>
  obtain⟨d,z,ne,e,mA,⟨od,es,ep,e2,c⟩,r⟩:=x;exact⟨ho _ d,z,ne,k _ _ (.inl rfl) e,mA,⟨od,es,ep,k _ _ (.inr d) e2,c⟩,r⟩
 | own y=>obtain⟨ob,e⟩:=x;exact⟨ob,k _ _ (.inl rfl) e⟩
 | xd fs=>obtain⟨mA,⟨od,es,ep,e,c⟩,r⟩:=x;exact⟨mA,⟨od,es,ep,k _ _ (.inl rfl) e,c⟩,r⟩
 | D0 lo hi=>obtain⟨t,u,v,e⟩:=x;exact⟨t,u,v,k _ _ (.inl rfl) e⟩
 | P4 ob u ih=>obtain⟨e,q⟩:=x;exact⟨k _ _ (.inl rfl) e,ih q⟩
 | ZN ps=>
  have e:h.get? a=some {cls:=.none,data:=.fields ps}:=x;show h'.get? a=some {cls:=.none,data:=.fields ps};exact k a _ (.inl rfl) e
 | met f y=>
  have e:h.get? a=some (wF (.ref f) (.ref y)):=x;show h'.get? a=some (wF (.ref f) (.ref y));exact k a _ (.inl rfl) e
 | ext φ=>obtain⟨p,⟨o,e⟩,st⟩:=x;exact⟨st _ _ p fun o q=>k _ _ (.inl rfl) q,⟨o,k _ _ (.inl rfl) e⟩,st⟩
def D1.lt(x:D1 P w H h)(e:H a=some o):a<h.objs.size:=(x a o e).lt
def D1.fresh(x:D1 P w H h)(e:h.objs.size<=a):H a=none:=by
 cases q:H a with
 | none=>rfl
 | some u=>exact absurd (bz (x.lt q) e) (kj _)
def D1.kept(x:D1 P w H h)(k:∀b u,h.get? b=some u->h'.get? b=some u):D1 P w H h':=fun a o e=>
 (x a o e).stay (fun b u _ q=>k b u q) (fun _ q=>q) fun _ _ q=>q
def D1.laid(x:D1 P w H h)(k:∀b u,h.get? b=some u->h'.get? b=some u)(hp:h.objs.size<=a)(new:jK P w (upd H a o) h' a o):D1 P w (upd H a o) h':=fun b u e=>by
 have hn:=x.fresh hp;by_cases hb:b=a
 ·subst hb;rw[aU]at e;cases e;exact new
 ·rw[aL hb]at e;exact(x b u e).stay (fun c v _ q=>k c v q) (fun c q=>by rw[aL (bo q hn)];exact q) fun c xs q=>by rw[aL (bo q hn)];exact q
end
def Rd(H:Hp)(a:aI)(u:HO):Prop:=H a=some u\/∃o,H a=some (.P4 o u)
def Rd.ok{u:HO}(r:Rd H a u)(x:D1 P w H h):jK P w H h a u:=by
 rcases r with r | ⟨o,r⟩
 ·exact x a u r
 ·obtain⟨_,q⟩:=x a _ r;exact q
def Mut:Option HO->Prop
 | some (.lst _)=>True
 | some (.dK _)=>True
 | some (.dT _)=>True
 | some (.set _ _)=>True
 | some (.ins _ _ _)=>True
 | some (.ext _)=>True
 | _=>False
section
variable {P:bp}{w:cH}{H:Hp}{h h':cy}{x e:aI}{o':HO}
def D1.write(ok:D1 P w H h)(mu:Mut (H x))(he:e=x\/H e=some (.own x))(k:∀b u,b≠e->h.get? b=some u->h'.get? b=some u)(heo:∃u,h'.get? e=some u)
  (new:jK P w (upd H x o') h' x o'):D1 P w (upd H x o') h':=fun b u q=>by
 have a1C:∀c y,H c=some (.own y)->c≠x:=fun c y r z=>by subst z;rw[r]at mu;exact mu
 have a3u:∀c xs,H c=some (.tup xs)->c≠x:=fun c xs r z=>by subst z;rw[r]at mu;exact mu
 by_cases hb:b=x
 ·subst hb;rw[aU]at q;cases q;exact new
 ·rw[aL hb]at q;by_cases KR:b=e
  ·have q':H b=some (.own x):=by
    rcases he with z | z
    ·exact absurd (KR.trans z) hb
    ·rw[KR];exact z
   rw[q]at q';cases q';obtain⟨v,hv⟩:=heo;exact⟨v,by rw[KR];exact hv⟩
  ·refine(ok b u q).stay (fun c v hc r=>k c v ?_ r) (fun c r=>by rw[aL (a1C c b r)];exact r) fun c xs r=>by rw[aL (a3u c xs r)];exact r
   rcases hc with rfl | hc
   ·exact KR
   ·rintro rfl;rcases he with z | z
    ·exact a1C c b hc z
    ·rw[hc]at z;cases z;exact hb rfl
end
structure Un(fs ex:kL)(H H':Hp)(h h':cy):Prop where
 keep:∀b o,h.get? b=some o->H b=none->b∉fs->b∉ex->h'.get? b=some o
 slot:∀b o,h.get? b=some o->H b=none->b∈fs->b∉ex->∃sl,h'.get? b=some {o with slots:=sl}
 free:∀b o,h.get? b=some o->H b=none->b∉ex->H' b=none
 there:∀b o,h.get? b=some o->b∉ex->∃o',h'.get? b=some o'
 tups:∀b xs,H b=some (.tup xs)->H' b=some (.tup xs)
 HR:∀b o u,H b=some (.P4 o u)->H' b=some (.P4 o u)
 K2:∀b ps,H b=some (.ZN ps)->∃more,H' b=some (.ZN (ps++more))
section
variable {fs fs' ex ex':kL}{H H1 H2:Hp}{h h1 h2 h':cy}{a x e:aI}{o:HO}
def Un.any(u:Un fs ex H H1 h h1){ob:uC}(q:h.get? b=some ob)(n:H b=none)(hx:b∉ex):∃sl,h1.get? b=some {ob with slots:=sl}:=by
 by_cases hb:b∈fs
 ·exact u.slot b ob q n hb hx
 ·exact⟨ob.slots,u.keep b ob q n hb hx⟩
def Un.kept(k:∀b u,h.get? b=some u->h'.get? b=some u):Un fs ex H H h h':=
 ⟨fun b ob q _ _ _=>k b ob q,fun b ob q _ _ _=>⟨ob.slots,k b ob q⟩,fun _ _ _ n _=>n,fun b ob q _=>⟨ob,k b ob q⟩,fun _ _ q=>q,fun _ _ _ q=>q,fun _ ps q=>⟨#[],by rw[q];simp⟩⟩
def Un.refl:Un fs ex H H h h:=Un.kept fun _ _ q=>q
def Un.laid(k:∀b u,h.get? b=some u->h'.get? b=some u)(hp:h.objs.size<=a)(hn:H a=none):Un fs ex H (upd H a o) h h' where
 keep:=fun b u q _ _ _=>k b u q
 slot:=fun b u q _ _ _=>⟨u.slots,k b u q⟩
 free:=fun b u q n _=>by rw[aL (cC (bz (aM q) hp))];exact n
 there:=fun b u q _=>⟨u,k b u q⟩
 tups:=fun b xs q=>by rw[aL (bo q hn)];exact q
 HR:=fun b u xs q=>by rw[aL (bo q hn)];exact q
 K2:=fun b ps q=>⟨#[],by rw[aL (bo q hn),q];simp⟩
def Un.write(mu:Mut (H x))(he:e=x\/H e=some (.own x))(k:∀b u,b≠e->h.get? b=some u->h'.get? b=some u)(heo:∃u,h'.get? e=some u):Un fs ex H (upd H x o) h h':=by
 have hx:∀b,H b=none->b≠x:=fun b n z=>by subst z;rw[n]at mu;exact mu
 have hb:∀b,H b=none->b≠e:=fun b n z=>by
  subst z;rcases he with r | r
  ·exact hx b n r
  ·rw[n]at r;cases r
 have hm:∀b u,H b=some u->¬Mut (some u)->b≠x:=fun b u q nm z=>by subst z;rw[q]at mu;exact nm mu
 refine⟨fun b u q n _ _=>k b u (hb b n) q,fun b u q n _ _=>⟨u.slots,k b u (hb b n) q⟩,fun b u q n _=>by rw[aL (hx b n)];exact n,fun b u q _=>?_,
  fun b xs q=>by rw[aL (hm b _ q fun z=>z)];exact q,fun b u xs q=>by rw[aL (hm b _ q fun z=>z)];exact q,fun b ps q=>⟨#[],by rw[aL (hm b _ q fun z=>z),q];simp⟩⟩
 by_cases KR:b=e
 ·subst KR;exact heo
 ·exact⟨u,k b u KR q⟩
end
def trk(h:cy)(H:Hp):kL:=(ay h.objs.size).filter fun a=>(H a).isSome
def HS(h:cy)(H:Hp):cy:=PySem.W.hideAll h (trk h H)
def Sh(h:cy)(H:Hp):(HS h H).objs.size=h.objs.size:=PySem.W.hideAll_size _ _
def Uj{h:cy}{H:Hp}{o:uC}(e:h.get? b=some o)(n:H b=none):(HS h H).get? b=some o:=
 PySem.W.hideAll_get _ e fun hm=>by
  have q:(H b).isSome=true:=(dR.mp hm).2;rw[n]at q;simp at q
def WT{h:cy}{H:Hp}{o:uC}(e:(HS h H).get? b=some o):h.get? b=some o/\H b=none:=by
 have e':h.get? b=some o:=PySem.W.of_hideAll (trk h H) e;refine⟨e',?_⟩
 cases q:H b with
 | none=>rfl
 | some x=>
  have hm:b∈trk h H:=dR.mpr ⟨vH.mpr (aM e'),by simp[q]⟩;have z:(HS h H).get? b=none:=PySem.W.hideAll_none (trk h H) hm;rw[z]at e;cases e
structure Mod(K:a9)(mg:MG)(base:cy):Prop where
 WU:K.In base
 glob:base.Ns bE mg
 blt:∃mb,base.Ns JG mb/\∀x:cY,x≠ "__name__"->mb x=fE x
 nolimit:base.NoLimit
structure Cx where
 prog:bp
 w:cH
 K:a9
 mg:cY->iF
 base:cy
 A:dD
 N:bS
 GC:ai
 H_0:Hp
 env:Env
 outer:iC
 stack:iC
 ex:kL
 fn:cY->Bool
 calm:Bool
 pn:Pn
 xe:aH->ai->Prop
abbrev YE(X:Cx)(p:mH)(es:jT):Prop:=((nt p (dM es X.env)).all (fun x=>!x.1) && (mS p (iX [] X.env)).all (fun x=>x.1.isSome) && decide (es.length+([]:List Keyword).length+(if([]:List Keyword).isEmpty then 0 else 1)<30))=true
abbrev wj(X:Cx){α:Type}(x:GX α)(Q:α->ai->Prop)(E:aH->ai->Prop)(s:ai):Prop:=bO (c9 X.prog X.w) X.A x Q E s
abbrev Uk(X:Cx)(o:du)(m:cY):Prop:=pj o m X.env (fX o X.env)=fX o X.env
abbrev ya(X:Cx)(p:mH)(es:jT):Prop:=(nt p (dM es X.env)).any (·.1)=false
abbrev SE(X:Cx)(e:du)(es:jT):Prop:=dM (e::es) X.env=(false,fX e X.env)::dM es X.env
def frs(l:iC):kL:=l.filterMap (·.frame)
abbrev Cx.fs(X:Cx):kL:=frs X.outer
def KS(sc:jV)(x:cY):Prop:=sc.names.lookup x=some .local\/sc.names.lookup x=some .cell\/sc.names.lookup x=some .free
def Loc(sc:jV)(x:cY):Prop:=sc.names.lookup x=some .local\/sc.names.lookup x=some .cell
def Look(env:Env)(h:cy)(m:MG)(x:cY)(u:aH):Prop:=
 (env.kindOf x=some .local/\m x=some u)\/((env.kindOf x=some .cell\/env.kindOf x=some .free)/\∃c,env.cells.lookup x=some c/\h.IsCell c (some u))
structure Cx.Ok(X:Cx):Prop where
 mod:Mod X.K X.mg X.base
 kind:X.env.scope.kind= .function
 glob:X.env.globals=bE
 blt:X.env.builtins=JG
 above:X.GC.heap.objs.size<=X.env.locals
 inj:∀x y c,X.env.cells.lookup x=some c->X.env.cells.lookup y=some c->x=y
 has:∀x,(X.env.kindOf x=some .cell\/X.env.kindOf x=some .free)->∃c,X.env.cells.lookup x=some c
 YF:∀x c,X.fn x=true->X.env.cells.lookup x=some c->X.GC.heap.objs.size<=c
 hd:X.calm=true->X.A.handled=none
 frames:X.A.frames=some X.stack
 stk:X.stack=X.outer\/(X.stack=X.env::X.outer/\X.env.frame=some X.env.locals)
 ZO:∀b∈X.ex,b≠X.env.locals/\∀x c,X.env.cells.lookup x=some c->c≠b
 bs:∀b o,X.base.get? b=some o->X.GC.heap.get? b=some o/\X.H_0 b=none
 Si:X.base.objs.size<=X.GC.heap.objs.size
 NC:∀b o,X.base.get? b=some o->b∉X.ex
 ND:∀b∈X.ex,b∉X.fs
 Bq:X.GC.heap.FunFrames X.base X.outer
 WE:∀b∈X.fs,X.H_0 b=none
structure Inv(X:Cx)(pins:Pn)(σ:List (Option V))(H:Hp)(s:ai):Prop where
 ok:X.Ok
 os:s.os=X.GC.os
 bare:yM s.gens
 base:Un X.fs X.ex X.H_0 H X.GC.heap s.heap
 loc:∃m,s.heap.Ns X.env.locals m/\∀(i:Nat) (x:cY) (v:V),X.N[i]? =some x->σ[i]? =some (some v)->KS X.env.scope x->∃u,RelV v u/\Look X.env s.heap m x u
 cell:∀x c,X.env.cells.lookup x=some c->∃v,s.heap.IsCell c v
 free:H X.env.locals=none
 uq:∀x c,X.env.cells.lookup x=some c->H c=none
 pin:∀p∈X.pn++pins,s.heap.get? p.1=some p.2/\H p.1=none/\p.1≠X.env.locals/\p.1∉X.fs/\∀v,p.2.data≠ .cell v
 hok:D1 X.prog X.w H s.heap
 len:σ.length=X.N.length
section
variable {X:Cx}{pins:List (aI×uC)}{σ:List (Option V)}{H H':Hp}{s:ai}{h':cy}
def Cx.Ok.a3v(ok:X.Ok){o:uC}(e:X.base.get? b=some o):b∉X.fs:=fun hb=>by
 have:=(ok.Bq.mem hb).1;rw[e]at this;cases this
def Inv.bs(I:Inv X pins σ H s):∀b o,X.base.get? b=some o->s.heap.get? b=some o/\H b=none:=fun b o e=>
 ⟨I.base.keep b o (I.ok.bs b o e).1 (I.ok.bs b o e).2 (I.ok.a3v e) (I.ok.NC b o e),I.base.free b o (I.ok.bs b o e).1 (I.ok.bs b o e).2 (I.ok.NC b o e)⟩
def Inv.bk(I:Inv X pins σ H s):∀b o,X.base.get? b=some o->s.heap.get? b=some o:=fun b o e=>(I.bs b o e).1
def Inv.mod(I:Inv X pins σ H s):Mod X.K X.mg X.base:=I.ok.mod
def Inv.BU(I:Inv X pins σ H s):X.K.In s.heap:=I.ok.mod.WU.keeps I.bk
def Inv.fr(I:Inv X pins σ H s):∃m,Fr X.base X.env.locals s.heap m:=
 let⟨m,hn,_⟩:=I.loc
 ⟨m,hn,I.bk,bq I.ok.Si I.ok.above⟩
def Inv.lt(I:Inv X pins σ H s):X.env.locals<s.heap.objs.size:=let⟨_,hn,_⟩:=I.loc;hn.lt
def Inv.sz(I:Inv X pins σ H s):X.GC.heap.objs.size<=s.heap.objs.size:=bq I.ok.above (kg I.lt)
def Inv.a3w(I:Inv X pins σ H s){a:aI}(h:s.heap.objs.size<=a):a∉X.fs:=fun hb=>by
 obtain⟨_,o,ho,_⟩:=I.ok.Bq.mem hb;exact absurd (bz (aM ho) (bq I.sz h)) (kj _)
def Inv.ZP(I:Inv X pins σ H s):∀x c,X.env.cells.lookup x=some c->c≠X.env.locals:=fun x c e z=>by
 obtain⟨v,o,ho,hd⟩:=I.cell x c e;obtain⟨m,⟨o',es,ep,TL,Yt,_⟩,_⟩:=I.loc;rw[z,TL]at ho;cases ho;rw[Yt]at hd;cases hd
def Inv.Bq(I:Inv X pins σ H s):s.heap.FunFrames X.base X.outer:=by
 have all:∀(l:iC),(∀b∈frs l,b∈X.fs)->X.GC.heap.FunFrames X.base l->s.heap.FunFrames X.base l:=by
  intro l
  induction l with
  | nil=>intro _ _;trivial
  | cons env r ih=>
   intro hs hl;obtain⟨hk,⟨L,o,hf,hn,ho,hd⟩,hr⟩:=hl;have hL:L∈X.fs:=hs L (by unfold frs;rw[eY,hf];exact aQ);obtain⟨sl,e⟩:=I.base.slot L o ho (I.ok.WE L hL) hL fun z=>I.ok.ND L z hL;exact⟨hk,⟨L,_,hf,hn,e,hd⟩,ih (fun b hb=>hs b (by unfold frs;rw[eY,hf];exact az _ hb)) hr⟩
 exact all X.outer (fun _ hb=>hb) I.ok.Bq
def Inv.stack(I:Inv X pins σ H s):s.heap.FunFrames X.base X.stack:=by
 rcases I.ok.stk with e | ⟨e,hf⟩
 ·rw[e];exact I.Bq
 ·rw[e];obtain⟨m,hn,_⟩:=I.loc;refine .cons (by rw[I.ok.kind];decide) hf hn ?_ I.Bq;exact cy.get?_none_of_le (bq I.ok.Si I.ok.above)
def Inv.Pl(I:Inv X pins σ H s):∀b∈frs X.stack,b∈X.env.locals::X.fs:=fun b hb=>by
 rcases I.ok.stk with e | ⟨e,hf⟩
 ·rw[e]at hb;exact az _ hb
 ·rw[e]at hb;unfold frs at hb;rw[eY,hf]at hb;exact hb
def Inv.LU(I:Inv X pins σ H s):∀b∈frs X.stack,H b=none:=fun b hb=>by
 rcases bQ.mp (I.Pl b hb)with e | hb
 ·rw[e];exact I.free
 ·obtain⟨_,o,ho,_⟩:=I.ok.Bq.mem hb;exact I.base.free b o ho (I.ok.WE b hb) fun z=>I.ok.ND b z hb
def Inv.step{g':Array GenState}{t':Nat}{d':Drawn}{ch:kL}(I:Inv X pins σ H s)
  (TM:∀b∈ch,(b∈X.ex\/X.GC.heap.objs.size<=b)/\b≠X.env.locals/\(∀x c,X.env.cells.lookup x=some c->c≠b)/\∀p∈X.pn++pins,p.1≠b)
  (keep:∀b o,b≠X.env.locals->b∉X.fs->b∉ch->s.heap.get? b=some o->H b=none->h'.get? b=some o)
  (slot:∀b o,b≠X.env.locals->b∈X.fs->b∉ch->s.heap.get? b=some o->H b=none->∃sl,h'.get? b=some {o with slots:=sl})(free:∀b o,b∉ch->s.heap.get? b=some o->H b=none->H' b=none)
  (there:∀b o,b∉ch->s.heap.get? b=some o->∃o',h'.get? b=some o')
  (tups:∀b xs,H b=some (.tup xs)->H' b=some (.tup xs))(HR:∀b o u,H b=some (.P4 o u)->H' b=some (.P4 o u))(K2:∀b ps,H b=some (.ZN ps)->∃more,H' b=some (.ZN (ps++more)))
  (ns:∀m,s.heap.Ns X.env.locals m->h'.Ns X.env.locals m)(hok:D1 X.prog X.w H' h')(hg:yM g'):
  Inv X pins σ H' {s with heap:=h',gens:=g',drawn:=d',toks:=t'}:=by
 have neL:∀b o,X.GC.heap.get? b=some o->b≠X.env.locals:=fun b o e=>cC (bz (aM e) I.ok.above);have neC:∀b o,X.GC.heap.get? b=some o->b∉X.ex->b∉ch:=fun b o e hx hb=>by
  rcases(TM b hb).1 with z | z
  ·exact hx z
  ·exact absurd (bz (aM e) z) (kj _)
 have Zw:∀x c,X.env.cells.lookup x=some c->∀v,s.heap.IsCell c v->h'.IsCell c v:=fun x c e v ⟨o,ho,hd⟩=>by
  have nch:c∉ch:=fun z=>(TM c z).2.2.1 x c e rfl;by_cases hc:c∈X.fs
  ·obtain⟨sl,q⟩:=slot c o (I.ZP x c e) hc nch ho (I.uq x c e);exact⟨_,q,hd⟩
  ·exact⟨o,keep c o (I.ZP x c e) hc nch ho (I.uq x c e),hd⟩
 refine⟨I.ok,I.os,hg,⟨fun b o e n hb hx=>?_,fun b o e n hb hx=>?_,fun b o e n hx=>?_,fun b o e hx=>?_,fun b xs e=>tups b xs (I.base.tups b xs e),fun b o xs e=>HR b o xs (I.base.HR b o xs e),fun b ps e=>?_⟩,?_,fun x c e=>?_,?_,fun x c e=>?_,fun p hp=>?_,hok,I.len⟩
 ·exact keep b o (neL b o e) hb (neC b o e hx) (I.base.keep b o e n hb hx) (I.base.free b o e n hx)
 ·obtain⟨sl,e1⟩:=I.base.slot b o e n hb hx;obtain⟨sl',e2⟩:=slot b _ (neL b o e) hb (neC b o e hx) e1 (I.base.free b o e n hx);exact⟨sl',e2⟩
 ·obtain⟨o',e1⟩:=I.base.there b o e hx;exact free b o' (neC b o e hx) e1 (I.base.free b o e n hx)
 ·obtain⟨o',e1⟩:=I.base.there b o e hx;exact there b o' (neC b o e hx) e1
 ·obtain⟨m1,e1⟩:=I.base.K2 b ps e;obtain⟨m2,e2⟩:=K2 b _ e1;exact⟨m1++m2,by rw[e2,Array.append_assoc]⟩
 ·obtain⟨m,hn,hl⟩:=I.loc;refine⟨m,ns m hn,fun i x v e1 e2 e3=>?_⟩;obtain⟨u,r,l⟩:=hl i x v e1 e2 e3;refine⟨u,r,?_⟩;rcases l with l | ⟨k,c,e,z⟩
  ·exact .inl l
  ·exact .inr ⟨k,c,e,Zw x c e _ z⟩
 ·obtain⟨v,z⟩:=I.cell x c e;exact⟨v,Zw x c e v z⟩
 ·obtain⟨m,⟨o,_,_,ho,_⟩,_⟩:=I.loc;exact free _ o (fun z=>(TM _ z).2.1 rfl) ho I.free
 ·obtain⟨v,o,ho,hd⟩:=I.cell x c e;exact free c o (fun z=>(TM c z).2.2.1 x c e rfl) ho (I.uq x c e)
 ·obtain⟨e,n,ne,nf,d⟩:=I.pin p hp;have nch:p.1∉ch:=fun z=>(TM p.1 z).2.2.2 p hp rfl;exact⟨keep p.1 p.2 ne nf nch e n,free p.1 p.2 nch e n,ne,nf,d⟩
def Inv.un{t':Nat}(I:Inv X pins σ H s)(u:Un X.fs [] H H' s.heap h')(hok:D1 X.prog X.w H' h'):Inv X pins σ H' {s with heap:=h',toks:=t'}:=by
 obtain⟨m,⟨o,es,ep,ho,r⟩,_⟩:=id I.loc;obtain⟨sl,hL⟩:=u.any ho I.free (!1);exact I.step (g':=s.gens) (d':=s.drawn) (ch:=[]) (fun _ z=>nomatch z) (fun b o _ hb _ e n=>u.keep b o e n hb (!1)) (fun b o _ hb _ e n=>u.slot b o e n hb (!1)) (fun b o _ e n=>u.free b o e n (!1)) (fun b o _ e=>u.there b o e (!1)) u.tups u.HR u.K2 (fun m' hm=>by
  obtain⟨o',es',ep',TL,r'⟩:=hm;rw[ho]at TL;cases TL;exact⟨_,es',ep',hL,r'⟩) hok I.bare
def Inv.call{g':Array GenState}{t':Nat}{d':Drawn}{ch:kL}(I:Inv X pins σ H s)(u:Un (frs X.stack) ch H H' s.heap h')(hok:D1 X.prog X.w H' h')(hg:yM g')
  (TM:∀b∈ch,(b∈X.ex\/X.GC.heap.objs.size<=b)/\b≠X.env.locals/\(∀x c,X.env.cells.lookup x=some c->c≠b)/\∀p∈X.pn++pins,p.1≠b):
  Inv X pins σ H' {s with heap:=h',gens:=g',drawn:=d',toks:=t'}:=by
 obtain⟨m,⟨o,es,ep,ho,r⟩,_⟩:=id I.loc;obtain⟨sl,hL⟩:=u.any ho I.free fun z=>(TM _ z).2.1 rfl;exact I.step (ch:=ch) TM (fun b o hL hb hc e n=>u.keep b o e n (fun z=>(bQ.mp (I.Pl b z)).elim hL hb) hc) (fun b o _ _ hc e n=>u.any e n hc) (fun b o hc e n=>u.free b o e n hc) (fun b o hc e=>u.there b o e hc) u.tups u.HR u.K2 (fun m' hm=>by
  obtain⟨o',es',ep',TL,r'⟩:=hm;rw[ho]at TL;cases TL;exact⟨_,es',ep',hL,r'⟩) hok hg
def Inv.turned{t':Nat}(I:Inv X pins σ H s)(k:∀b o,b≠it->s.heap.get? b=some o->h'.get? b=some o)(hn:H it=none)(hL:it≠X.env.locals)
  (h1:it∈X.ex\/X.GC.heap.objs.size<=it)(h2:∀x c,X.env.cells.lookup x=some c->c≠it)(h3:∀p∈X.pn++pins,p.1≠it):Inv X pins σ H {s with heap:=h',toks:=t'}:=by
 have YG:∀b u,H b=some u->b≠it:=fun b u e z=>by rw[z,hn]at e;cases e
 refine I.step (g':=s.gens) (d':=s.drawn) (ch:=[it]) (fun b hb=>?_) (fun b o _ _ hc e _=>k b o (fun z=>hc (by simp[z])) e) (fun b o _ _ hc e _=>⟨o.slots,k b o (fun z=>hc (by simp[z])) e⟩) (fun _ _ _ _ n=>n)
  (fun b o hc e=>⟨o,k b o (fun z=>hc (by simp[z])) e⟩) (fun _ _ e=>e) (fun _ _ _ e=>e) (fun b ps e=>⟨#[],by rw[e];simp⟩) (fun m hm=>?_) (fun b u e=>?_) I.bare
 ·have e:b=it:=by simpa using hb
  subst e;exact⟨h1,hL,h2,h3⟩
 ·obtain⟨o,es,ep,ho,r⟩:=hm;exact⟨o,es,ep,k _ o (g0 hL) ho,r⟩
 ·refine(I.hok b u e).stay (fun c v hc q=>k c v ?_ q) (fun _ q=>q) fun _ _ q=>q;rcases hc with z | z
  ·rw[z];exact YG b u e
  ·exact YG c _ z
def Inv.tok(I:Inv X pins σ H s)(t:Nat):Inv X pins σ H {s with toks:=t}:=I.un (h':=s.heap) (t':=t) Un.refl I.hok
def Inv.kept{t':Nat}(I:Inv X pins σ H s)(k:∀b u,s.heap.get? b=some u->h'.get? b=some u):Inv X pins σ H {s with heap:=h',toks:=t'}:=I.un (Un.kept k) (I.hok.kept k)
def Inv.laid{o:HO}{t':Nat}(I:Inv X pins σ H s)(k:∀b u,s.heap.get? b=some u->h'.get? b=some u)(hp:s.heap.objs.size<=a)(new:jK X.prog X.w (upd H a o) h' a o):
  Inv X pins σ (upd H a o) {s with heap:=h',toks:=t'}:=I.un (Un.laid k hp (I.hok.fresh hp)) (I.hok.laid k hp new)
def Inv.write{x e:aI}{o:HO}{t':Nat}(I:Inv X pins σ H s)(mu:Mut (H x))(he:e=x\/H e=some (.own x))(k:∀b u,b≠e->s.heap.get? b=some u->h'.get? b=some u)(heo:∃u,h'.get? e=some u)
  (new:jK X.prog X.w (upd H x o) h' x o):Inv X pins σ (upd H x o) {s with heap:=h',toks:=t'}:=I.un (Un.write mu he k heo) (I.hok.write mu he k heo new)
def Inv.weak{σ':List (Option V)}(I:Inv X pins σ H s)(hl:σ'.length=σ.length)(w:∀(i:Nat) v,σ'[i]? =some (some v)->σ[i]? =some (some v)):Inv X pins σ' H s:=
 ⟨I.ok,I.os,I.bare,I.base,let⟨m,hn,hl'⟩:=I.loc;⟨m,hn,fun i x v e1 e2 e3=>hl' i x v e1 (w i v e2) e3⟩,I.cell,I.free,I.uq,I.pin,I.hok,hl.trans I.len⟩
def Inv.QN{QO:Pn}(I:Inv X pins σ H s)(h:∀p∈QO,s.heap.get? p.1=some p.2/\H p.1=none/\p.1≠X.env.locals/\p.1∉X.fs/\∀v,p.2.data≠ .cell v):Inv X QO σ H s:=
 ⟨I.ok,I.os,I.bare,I.base,I.loc,I.cell,I.free,I.uq,fun p hp=>(f7.mp hp).elim (fun z=>I.pin p (gz _ z)) (h p),I.hok,I.len⟩
def HU{N:bS}(hN:N.Nodup){i j:Nat}(a:N[i]? =some x)(b:N[j]? =some x):i=j:=by
 obtain⟨h1,e1⟩:=ag.mp a;obtain⟨h2,e2⟩:=ag.mp b;exact(Fw hN).mp (e1.trans e2.symm)
def KU{M:AA}{E:aH->ai->Prop}{i:Nat}{Q:Unit->ai->Prop}(I:Inv X pins σ H s)(hN:X.N.Nodup)(hi:X.N[i]? =some x)(hx:Loc X.env.scope x)(r:RelV v u)
  (h:∀s',Inv X pins (σ.set i (some v)) H s'->(∃a,uP a s.heap s'.heap/\(a=X.env.locals\/X.env.cells.lookup x=some a))->Q () s')(hf:X.fn x=true\/X.env.scope.names.lookup x=some .local:=by first | exact .inl rfl | exact .inr rfl | assumption):bO M A (storeName X.env x u) Q E s:=by
 obtain⟨m,hn,hl⟩:=id I.loc;have a1q:(X.env.scope.kind == .class || (X.env.scope.kind == .module && X.env.locals != X.env.globals))=false:=by rw[I.ok.kind];rfl
 have hiσ:i<σ.length:=by rw[I.len];exact(ag.mp hi).1
 have ZP:=I.ZP;have S7:∀{a:aI} {h':cy},(∃o,s.heap.get? a=some o/\H a=none)->uP a s.heap h'->D1 X.prog X.w H h':=fun {a h'} ha hs b ob e=>by
  obtain⟨_,_,Lz⟩:=ha;refine(I.hok b ob e).stay (fun c w' hc q=>(hs.2 c ?_).trans q) (fun _ q=>q) fun _ _ q=>q;rintro rfl;rcases hc with rfl | hc
  ·rw[Lz]at e;cases e
  ·rw[Lz]at hc;cases hc
 rcases hx with hk | hk
 ·refine wpAny_storeName_local hk hn (fun h' hn' hs=>?_) a1q;obtain⟨oL,_,_,hoL,_⟩:=id hn;refine h _ ⟨I.ok,I.os,I.bare,⟨fun b o e n hb hx=>?_,fun b o e n hb hx=>?_,I.base.free,fun b o e hx=>?_,I.base.tups,I.base.HR,I.base.K2⟩,⟨_,hn',fun j y v' e1 e2 e3=>?_⟩,fun y c e=>?_,I.free,I.uq,fun p hp=>?_,S7 ⟨oL,hoL,I.free⟩ hs,by simpa using I.len⟩ ⟨_,hs,.inl rfl⟩
  ·exact(hs.2 b (cC (bz (aM e) I.ok.above))).trans (I.base.keep b o e n hb hx)
  ·obtain⟨sl,e1⟩:=I.base.slot b o e n hb hx;exact⟨sl,(hs.2 b (cC (bz (aM e) I.ok.above))).trans e1⟩
  ·obtain⟨o',e1⟩:=I.base.there b o e hx;exact⟨o',(hs.2 b (cC (bz (aM e) I.ok.above))).trans e1⟩
  ·by_cases hj:j=i
   ·subst hj;rw[hi]at e1;cases e1;rw[bt hiσ]at e2;cases e2;exact⟨u,r,.inl ⟨hk,by simp⟩⟩
   ·rw[bf (g0 hj)]at e2;obtain⟨u',r',q⟩:=hl j y v' e1 e2 e3;refine⟨u',r',?_⟩;rcases q with⟨k,e⟩ | ⟨k,c,e,z⟩
    ·refine .inl ⟨k,?_⟩;have:y≠x:=fun e=>hj (HU hN e1 (e▸hi));simp[this,e]
    ·exact .inr ⟨k,c,e,z.sameBut hs (ZP y c e)⟩
  ·obtain⟨w',z⟩:=I.cell y c e;exact⟨w',z.sameBut hs (ZP y c e)⟩
  ·obtain⟨e,n,ne,nf,d⟩:=I.pin p hp;exact⟨(hs.2 p.1 ne).trans e,n,ne,nf,d⟩
 ·have hfn:X.fn x=true:=by
   rcases hf with z | z
   ·exact z
   ·rw[z]at hk;cases hk
  obtain⟨c,hc⟩:=I.ok.has x (.inl hk);obtain⟨w',z⟩:=I.cell x c hc;refine wpAny_storeName_cell I.ok.kind hk hc z (fun h' Zx hs=>?_);obtain⟨oc,hoc,a3x⟩:=id z;refine h {s with heap:=h'} ⟨I.ok,I.os,I.bare,⟨fun b o e n hb hx=>?_,fun b o e n hb hx=>?_,I.base.free,fun b o e hx=>?_,I.base.tups,I.base.HR,I.base.K2⟩,⟨m,hn.sameBut hs (g0 (ZP x c hc)),fun j y v' e1 e2 e3=>?_⟩,fun y c' e=>?_,I.free,I.uq,fun p hp=>?_,S7 ⟨oc,hoc,I.uq x c hc⟩ hs,by simpa using I.len⟩ ⟨c,hs,.inr hc⟩
  ·exact(hs.2 b (cC (bz (aM e) (I.ok.YF x c hfn hc)))).trans (I.base.keep b o e n hb hx)
  ·obtain⟨sl,e1⟩:=I.base.slot b o e n hb hx;exact⟨sl,(hs.2 b (cC (bz (aM e) (I.ok.YF x c hfn hc)))).trans e1⟩
  ·obtain⟨o',e1⟩:=I.base.there b o e hx;exact⟨o',(hs.2 b (cC (bz (aM e) (I.ok.YF x c hfn hc)))).trans e1⟩
  ·by_cases hj:j=i
   ·subst hj;rw[hi]at e1;cases e1;rw[bt hiσ]at e2;cases e2;exact⟨u,r,.inr ⟨.inl hk,c,hc,Zx⟩⟩
   ·rw[bf (g0 hj)]at e2;obtain⟨u',r',q⟩:=hl j y v' e1 e2 e3;refine⟨u',r',?_⟩;rcases q with q | ⟨k,c',e,z'⟩
    ·exact .inl q
    ·refine .inr ⟨k,c',e,z'.sameBut hs ?_⟩;rintro rfl;exact hj (HU hN e1 (I.ok.inj _ _ _ e hc▸hi))
  ·by_cases hcc:c'=c
   ·subst hcc;exact⟨_,Zx⟩
   ·obtain⟨w2,z2⟩:=I.cell y c' e;exact⟨w2,z2.sameBut hs hcc⟩
  ·obtain⟨e,n,ne,nf,d⟩:=I.pin p hp;refine⟨(hs.2 p.1 ?_).trans e,n,ne,nf,d⟩;intro q;rw[q,hoc]at e;have q':oc=p.2:=be e;exact d w' (by rw[<-q'];exact a3x)
def HV{M:AA}{E:aH->ai->Prop}{i:Nat}{Q:Unit->ai->Prop}(I:Inv X pins σ H s)(hN:X.N.Nodup)(hi:X.N[i]? =some x)(hx:Loc X.env.scope x)(r:RelV v u)
  (h:∀s',Inv X pins (σ.set i (some v)) H s'->Q () s')(hf:X.fn x=true\/X.env.scope.names.lookup x=some .local:=by first | exact .inl rfl | exact .inr rfl | assumption):bO M A (storeName X.env x u) Q E s:=
 KU I hN hi hx r (fun s' I' _=>h s' I') hf
def Inv.Ul{s':ai}{ch:kL}(I:Inv X pins σ H s)(ho:s'.os=s.os)(u:Un (frs X.stack) ch H H' s.heap s'.heap)(hok:D1 X.prog X.w H' s'.heap)(hg:yM s'.gens)
  (TM:∀b∈ch,(b∈X.ex\/X.GC.heap.objs.size<=b)/\b≠X.env.locals/\(∀x c,X.env.cells.lookup x=some c->c≠b)/\∀p∈X.pn++pins,p.1≠b):Inv X pins σ H' s':=by
 obtain⟨h',g',d',t',o'⟩:=s';have e:o'=s.os:=ho;subst e;exact I.call (g':=g') (t':=t') (d':=d') u hok hg TM
end
abbrev XK:=aH->rj->Hp->Prop
abbrev St:=List (Option V)
abbrev VK:=V->Hp->Prop
abbrev TE:=St->Hp->VK->Prop
abbrev TT:=St->Hp->(Bool->Hp->Prop)->Prop
abbrev TA:=St->Hp->(cV->Hp->Prop)->Prop
structure Ends where
 nx:St->Hp->Prop
 rt:VK
 bk:St->Hp->Prop:=fun _ _=>False
 ct:St->Hp->Prop:=fun _ _=>False
abbrev TS:=Ends->St->Hp->Prop
def EP(X:Cx)(pins:Pn)(σ:St)(Q:VK)(u:aH)(s':ai):Prop:=∃v H',Inv X pins σ H' s'/\RelV v u/\Q v H'
def TP(X:Cx)(pins:Pn)(σ:St)(Q:Bool->Hp->Prop)(b:Bool)(s':ai):Prop:=∃H',Inv X pins σ H' s'/\Q b H'
def AP(X:Cx)(pins:Pn)(σ:St)(Q:cV->Hp->Prop)(us:fk)(s':ai):Prop:=∃vs H',Inv X pins σ H' s'/\Vals vs us/\Q vs H'
def SP(X:Cx)(pins:Pn)(D:Ends)(f:Flow)(s':ai):Prop:=
 match f with
 | .next=>∃σ' H',Inv X pins σ' H' s'/\D.nx σ' H'
 | .brk=>∃σ' H',Inv X pins σ' H' s'/\D.bk σ' H'
 | .cont=>∃σ' H',Inv X pins σ' H' s'/\D.ct σ' H'
 | .ret u=>∃v σ' H',Inv X pins σ' H' s'/\RelV v u/\D.rt v H'
def PE(X:Cx)(e:du)(t:TE):Prop:=
 ∀(pins:Pn) (s:ai) (σ:St) (H:Hp) (Q:VK),Inv X pins σ H s->t σ H Q->wj X (fX e X.env) (EP X pins σ Q) X.xe s
def PT(X:Cx)(e:du)(t:TT):Prop:=
 ∀(pins:Pn) (s:ai) (σ:St) (H:Hp) (Q:Bool->Hp->Prop),Inv X pins σ H s->t σ H Q->wj X (JH e X.env (fX e X.env)) (TP X pins σ Q) X.xe s
def PW(X:Cx)(e:du)(t:TT):Prop:=
 ∀(E6:GX aH) (pins:Pn) (s:ai) (σ:St) (H:Hp) (Q:Bool->Hp->Prop),Inv X pins σ H s->t σ H Q->wj X (JH e X.env E6) (TP X pins σ Q) X.xe s
def PW.pt{t:TT}(h:PW X e t):PT X e t:=h _
def PA(X:Cx)(es:jT)(t:TA):Prop:=
 ∀(pos:mH) (pins:Pn) (s:ai) (σ:St) (H:Hp) (Q:cV->Hp->Prop),Inv X pins σ H s->t σ H Q->wj X (spliced (nt pos (dM es X.env))) (AP X pins σ Q) X.xe s
def PS(X:Cx)(st:di)(t:TS):Prop:=
 ∀(pins:Pn) (s:ai) (σ:St) (H:Hp) (D:Ends),Inv X pins σ H s->t D σ H->wj X (exec st X.env) (SP X pins D) X.xe s
def FX(X:Cx)(st:iT)(t:TS):Prop:=
 ∀(pins:Pn) (s:ai) (σ:St) (H:Hp) (D:Ends),Inv X pins σ H s->t D σ H->wj X (execs st X.env) (SP X pins D) X.xe s
def lh{α:Type}{t:GX α}{Q Q':α->ai->Prop}{M:AA}{E:aH->ai->Prop}(h:bO M A t Q E s)(hQ:∀a s,Q a s->Q' a s):bO M A t Q' E s:=ik h hQ fun _ _ x=>x
section
variable {X:Cx}
def Sj(i:Nat):TE:=fun σ H Q=>∃v,σ[i]? =some (some v)/\Q v H
def tC(v:V):TE:=fun _ H Q=>Q v H
def nP{i:Nat}(hN:X.N[i]? =some x)(hv:KS X.env.scope x)(hd:(x == ("__debug__":cY))=false:=by decide)(qx:(x == ("__classdict__":cY))=false:=by decide):PE X (.Name x pos) (Sj i):=by
 intro pins s σ H Q I h;obtain⟨v,e,h⟩:=h;obtain⟨m,hn,hl⟩:=I.loc;obtain⟨u,r,l⟩:=hl i x v hN e hv;have fin:EP X pins σ Q u s:=⟨v,H,I,r,h⟩;rcases l with⟨hk,hm⟩ | ⟨hk,c,hc,Zy⟩
 ·exact JI (wpAny_loadName_local I.ok.kind hk hn hm fin) hd
 ·rcases hk with hk | hk
  ·exact JI (wpAny_loadName_cell I.ok.kind hk hc Zy fin) hd
  ·exact JI (wpAny_loadName_free I.ok.kind hk hc Zy fin qx) hd
def v9{i j pos}:PE X (.Constant (.int i) j pos) (tC (.int i)):=fun _ _ _ H _ I h=>wpAny_Constant_int ⟨.int i,H,I.tok _,⟨_,rfl⟩,h⟩
def a1D{b j pos}:PE X (.Constant (.bool b) j pos) (tC (.bl b)):=fun _ _ _ H _ I h=>Constant_bool ⟨.bl b,H,I,rfl,h⟩
def Um{j pos}:PE X (.Constant .none j pos) (tC .fA):=fun _ _ _ H _ I h=>Constant_none ⟨.fA,H,I,rfl,h⟩
def Gl(X:Cx)(x:cY):Prop:=X.env.kindOf x=some .globalImplicit
def wk{E:aH->ai->Prop}{pins:Pn}{Q:aH->ai->Prop}(I:Inv X pins σ H s)(hg:Gl X x)(hm:X.mg x=some u)(h:Q u s)
  (hd:(x == ("__debug__":cY))=false:=by decide):wj X (fX (.Name x pos) X.env) Q E s:=
 vJ I.ok.kind hg (Calls.loadGlobal_global (by rw[I.ok.glob];exact I.mod.glob.keeps I.bk) hm h) hd
def vc{E:aH->ai->Prop}{pins:Pn}{Q:aH->ai->Prop}(I:Inv X pins σ H s)(hg:Gl X x)(hm:X.mg x=none)(hv:fE x=some u)(h:Q u s)
  (hn:x≠ "__name__":=by decide)(hd:(x == ("__debug__":cY))=false:=by decide):wj X (fX (.Name x pos) X.env) Q E s:=by
 obtain⟨mb,h1,h2⟩:=I.mod.blt;exact vJ I.ok.kind hg (Calls.loadGlobal_builtin (by rw[I.ok.glob];exact I.mod.glob.keeps I.bk) hm (by rw[I.ok.blt];exact h1.keeps I.bk) ((h2 x hn).trans hv) h) hd
def Dj(hg:Gl X x)(hm:X.mg x=some u)(r:RelV v u)(hd:(x == ("__debug__":cY))=false:=by decide):PE X (.Name x pos) (tC v):=
 fun _ _ _ H _ I h=>wk I hg hm ⟨v,H,I,r,h⟩ hd
variable {a b:du}{ta tb:TE}{pos:mH}
def tB(t:TE):TT:=fun σ H Q=>t σ H fun x H1=>∃c,x= .bl c/\Q c H1
def ZQ{e:du}{t:TE}(h:PE X e t)(he:∀E6,JH e X.env E6=(do let v <-E6;oH e.pos;kh [v] (truthy v)):=by intro _;rfl):PT X e (tB t):=by
 intro pins s σ H Q I hw;refine isTrue_plain (lh (h pins s σ H _ I hw) ?_) (he _);rintro v s1 ⟨x,H1,I1,r1,q1⟩;obtain⟨d,rfl,q⟩:=q1;cases r1;exact ly ⟨H1,I1,q⟩
variable {tA tB':TT}{rest:jT}
def a3y(t u:TT):TT:=fun σ H Q=>t σ H fun c H1=>if c=true then u σ H1 Q else Q false H1
def tOr(t u:TT):TT:=fun σ H Q=>t σ H fun c H1=>if c=true then Q true H1 else u σ H1 Q
def a3z(t:TT):TT:=fun σ H Q=>t σ H fun c H1=>Q (!c) H1
def WV(ha:PT X a tA):PW X (.BoolOp .And [a] pos) tA:=by
 intro wh pins s σ H Q I h;refine isTrue_and (lh (ha pins s σ H Q I h) fun c s1 e=>?_)
 cases c with
 | true=>exact isTrue_and_nil e
 | false=>exact e
def Uo(ha:PT X a tA):PW X (.BoolOp .Or [a] pos) tA:=by
 intro wh pins s σ H Q I h;refine isTrue_or (lh (ha pins s σ H Q I h) fun c s1 e=>?_)
 cases c with
 | false=>exact isTrue_or_nil e
 | true=>exact e
def ZR(ha:PT X a tA)(hb:PW X (.BoolOp .And (b::rest) pos) tB'):PW X (.BoolOp .And (a::b::rest) pos) (a3y tA tB'):=by
 intro wh pins s σ H Q I h;refine isTrue_and (lh (ha pins s σ H _ I h) ?_);rintro c s1 ⟨H1,I1,q1⟩
 cases c with
 | true=>exact hb wh pins s1 σ H1 Q I1 q1
 | false=>exact⟨H1,I1,q1⟩
def Up(ha:PT X a tA)(hb:PW X (.BoolOp .Or (b::rest) pos) tB'):PW X (.BoolOp .Or (a::b::rest) pos) (tOr tA tB'):=by
 intro wh pins s σ H Q I h;refine isTrue_or (lh (ha pins s σ H _ I h) ?_);rintro c s1 ⟨H1,I1,q1⟩
 cases c with
 | true=>exact⟨H1,I1,q1⟩
 | false=>exact hb wh pins s1 σ H1 Q I1 q1
def ZS(ha:PT X a tA):PT X (.UnaryOp .Not a pos) (a3z tA):=by
 intro pins s σ H Q I h;exact isTrue_not (ha pins s σ H (fun c H1=>Q (!c) H1) I h)
def a1E(ta tb:TE):TE:=fun σ H Q=>ta σ H fun x H1=>∃c,x= .bl c/\if c=true then tb σ H1 Q else Q (.bl false) H1
def a3A(ta tb:TE):TE:=fun σ H Q=>ta σ H fun x H1=>∃c,x= .bl c/\if c=true then Q (.bl true) H1 else tb σ H1 Q
def a1F(ta:TE):TE:=fun σ H Q=>ta σ H fun x H1=>∃c,x= .bl c/\Q (.bl (!c)) H1
def Uq{op}{t:TE}(h:PE X a t):PE X (.BoolOp op [a] pos) t:=fun pins s σ H Q I hw=>BoolOp_one (h pins s σ H Q I hw)
def ZT(ha:PE X a ta)(hb:PE X (.BoolOp .And (b::rest) pos) tb):PE X (.BoolOp .And (a::b::rest) pos) (a1E ta tb):=by
 intro pins s σ H Q I h;refine BoolOp_and (lh (ha pins s σ H _ I h) ?_);rintro v s1 ⟨x,H1,I1,r1,q1⟩;obtain⟨c,rfl,q1⟩:=q1;cases r1;refine ly ?_
 cases c with
 | true=>exact hb pins s1 σ H1 Q I1 q1
 | false=>exact⟨.bl false,H1,I1,rfl,q1⟩
def a1G(ha:PE X a ta)(hb:PE X (.BoolOp .Or (b::rest) pos) tb):PE X (.BoolOp .Or (a::b::rest) pos) (a3A ta tb):=by
 intro pins s σ H Q I h;refine BoolOp_or (lh (ha pins s σ H _ I h) ?_);rintro v s1 ⟨x,H1,I1,r1,q1⟩;obtain⟨c,rfl,q1⟩:=q1;cases r1;refine ly ?_
 cases c with
 | false=>exact hb pins s1 σ H1 Q I1 q1
 | true=>exact⟨.bl true,H1,I1,rfl,q1⟩
def ZU(ha:PE X a ta):PE X (.UnaryOp .Not a pos) (a1F ta):=by
 intro pins s σ H Q I h;refine UnaryOp_ (lh (ha pins s σ H _ I h) ?_);rintro v s1 ⟨x,H1,I1,r1,q1⟩;obtain⟨c,rfl,q1⟩:=q1;cases r1;exact not_of (ly ⟨.bl (!c),H1,I1,rfl,q1⟩)
def tIf(t:TT)(ta tb:TE):TE:=fun σ H Q=>t σ H fun c H1=>if c=true then ta σ H1 Q else tb σ H1 Q
def Ur(hc:PT X c tA)(ha:PE X a ta)(hb:PE X b tb):PE X (.IfExp c a b pos) (tIf tA ta tb):=by
 intro pins s σ H Q I h;refine wpAny_IfExp (lh (hc pins s σ H _ I h) ?_);rintro d s1 ⟨H1,I1,q1⟩
 cases d with
 | true=>exact ha pins s1 σ H1 Q I1 q1
 | false=>exact hb pins s1 σ H1 Q I1 q1
end
def lC(K:a9)(H:Hp)(a:aI)(xs:cV):Prop:=
 Rd H a (.lst xs)\/
  ∃(o:uC) (eI:nc) (n:Nat),K.lookup a=some o/\o.cls= .type "list"/\o.dict=none/\o.data= .seq eI n/\eI.size<=bC/\Vals xs eI.toList
def KW(K:a9)(H:Hp)(a:aI)(xs:cV):Prop:=
 Rd H a (.tup xs)\/
  ∃(o:uC) (eI:nc) (n:Nat),K.lookup a=some o/\o.cls= .type "tuple"/\o.data= .seq eI n/\eI.size<=bC/\Vals xs eI.toList
def a3B:aH->Option V
 | .none=>some .fA
 | .bool b=>some (.bl b)
 | .int i _=>some (.int i)
 | .str x _=>some (.str x)
 | .bytes b _=>some (.TC b)
 | .float b _=>some (.flt b)
 | .ref a=>some (.ref a)
 | .type n=>some (.ty n)
 | _=>none
def RelV.abs(r:RelV x u):a3B u=some x:=by
 cases x with
 | fA=>cases r;rfl
 | bl _=>cases r;rfl
 | int _=>obtain⟨t,rfl⟩:=r;rfl
 | str _=>obtain⟨t,rfl⟩:=r;rfl
 | TC _=>obtain⟨t,rfl⟩:=r;rfl
 | flt _=>obtain⟨t,rfl⟩:=r;rfl
 | ref _=>cases r;rfl
 | ty _=>cases r;rfl
def RelV.inj{x y:V}(r:RelV x u)(q:RelV y u):x=y:=be (r.abs.symm.trans q.abs)
theorem Vals.inj{xs ys:cV}{us:fk}(h:Vals xs us)(k:Vals ys us):xs=ys:=by
 cases h with
 | nil=>cases k;rfl
 | cons r t=>
  cases k with
  | cons r' t'=>rw[r.inj r',Vals.inj t t']
section
variable {X:Cx}{pins:List (aI×uC)}{σ:St}{H:Hp}{s:ai}{a:aI}{xs ys:cV}
def lC.of{K:a9}(h:H a=some (.lst xs)):lC K H a xs:=.inl (.inl h)
def KW.of{K:a9}(h:H a=some (.tup xs)):KW K H a xs:=.inl (.inl h)
def Inv.list(I:Inv X pins σ H s)(h:lC X.K H a xs):∃eI:fk,Vals xs eI/\PlainL s.heap a eI.toArray/\xs.length<=bC:=by
 rcases h with h | ⟨o,eI,n,hk,hc,hd,hs,hz,r⟩
 ·obtain⟨z,eI,n,r,e⟩:=h.ok I.hok;exact⟨eI,r,⟨_,n,e,rfl,rfl,rfl⟩,z⟩
 ·refine⟨eI.toList,r,⟨o,n,I.BU a o hk,hc,hd,by simpa using hs⟩,?_⟩;have e:=r.length;simp only[uD]at e;omega
def Inv.tuple(I:Inv X pins σ H s)(h:KW X.K H a xs):∃eI:fk,Vals xs eI/\IsTup s.heap a eI.toArray/\xs.length<=bC:=by
 rcases h with h | ⟨o,eI,n,hk,hc,hs,hz,r⟩
 ·obtain⟨z,eI,r,p⟩:=h.ok I.hok;exact⟨eI,r,p,z⟩
 ·refine⟨eI.toList,r,⟨o,I.BU a o hk,hc,n,by simpa using hs⟩,?_⟩;have e:=r.length;simp only[uD]at e;omega
def Inv.vd(I:Inv X pins σ H s)(h:lC X.K H a xs)(h':lC X.K H a ys):xs=ys:=by
 obtain⟨eI,r,⟨o,n,e,_,_,d⟩,_⟩:=I.list h;obtain⟨its',r',⟨o',n',e',_,_,d'⟩,_⟩:=I.list h';rw[e]at e';cases e';rw[d]at d';injection d' with d1 _;have:eI=its':=by simpa using congrArg Array.toList d1
 subst this;exact r.inj r'
end
abbrev Cx.K3(X:Cx)(E:aH->ai->Prop):Cx:={X with xe:=E}
abbrev Cx.WW(X:Cx):Cx:=X.K3 fun _ _=>False
def Cx.Ok.K3{X:Cx}(ok:X.Ok)(E:aH->ai->Prop):(X.K3 E).Ok:=
 ⟨ok.mod,ok.kind,ok.glob,ok.blt,ok.above,ok.inj,ok.has,ok.YF,ok.hd,ok.frames,ok.stk,ok.ZO,ok.bs,ok.Si,ok.NC,ok.ND,ok.Bq,ok.WE⟩
def Cx.Ok.zY{X:Cx}{E:aH->ai->Prop}(ok:(X.K3 E).Ok):X.Ok:=
 ⟨ok.mod,ok.kind,ok.glob,ok.blt,ok.above,ok.inj,ok.has,ok.YF,ok.hd,ok.frames,ok.stk,ok.ZO,ok.bs,ok.Si,ok.NC,ok.ND,ok.Bq,ok.WE⟩
section
variable {X:Cx}{pins:List (aI×uC)}{σ:St}{H:Hp}{s:ai}{E:aH->ai->Prop}
def Inv.K3(I:Inv X pins σ H s)(E:aH->ai->Prop):Inv (X.K3 E) pins σ H s:=⟨I.ok.K3 E,I.os,I.bare,I.base,I.loc,I.cell,I.free,I.uq,I.pin,I.hok,I.len⟩
def Inv.zY(I:Inv (X.K3 E) pins σ H s):Inv X pins σ H s:=⟨I.ok.zY,I.os,I.bare,I.base,I.loc,I.cell,I.free,I.uq,I.pin,I.hok,I.len⟩
def SP.zY{D:Ends}{f:Flow}(h:SP (X.K3 E) pins D f s'):SP X pins D f s':=by
 cases f with
 | next=>obtain⟨σ',H',I,q⟩:=h;exact⟨σ',H',I.zY,q⟩
 | brk=>obtain⟨σ',H',I,q⟩:=h;exact⟨σ',H',I.zY,q⟩
 | cont=>obtain⟨σ',H',I,q⟩:=h;exact⟨σ',H',I.zY,q⟩
 | ret u=>obtain⟨v,σ',H',I,r,q⟩:=h;exact⟨v,σ',H',I.zY,r,q⟩
def FX.WW{st:iT}{t:TS}(h:FX X.WW st t):FX X st t:=fun pins s σ H D I hw=>
 ik (h pins s σ H D (I.K3 _) hw) (fun _ _ q=>q.zY) fun _ _ z=>gN z
end
section
variable {X:Cx}{st:di}{rest:iT}{t u:TS}{e:du}{te:TE}{pos:mH}
def a1H:TS:=fun D σ H=>D.nx σ H
def a3C(t u:TS):TS:=fun D σ H=>t {D with nx:=u D} σ H
def QP:FX X [] a1H:=fun _ _ σ H _ I h=>ue ⟨σ,H,I,h⟩
def gJ(h1:PS X st t)(h2:FX X rest u):FX X (st::rest) (a3C t u):=by
 intro pins s σ H D I h;refine wpAny_execs_cons (lh (h1 pins s σ H {D with nx:=u D} I h) fun f s1 q=>?_)
 cases f with
 | next=>
  obtain⟨σ',H',I',q⟩:=q;exact h2 pins s1 σ' H' D I' q
 | ret v=>exact q
 | brk=>exact q
 | cont=>exact q
def lP(h1:PS X st t):FX X [st] t:=by
 intro pins s σ H D I h;refine wpAny_execs_cons (lh (h1 pins s σ H D I h) fun f s1 q=>?_)
 cases f with
 | next=>exact ue q
 | ret v=>exact q
 | brk=>exact q
 | cont=>exact q
def Inv.quiet{pins:Pn}(I:Inv X pins σ H s):interactive X.env=false:=by simp[interactive,I.ok.kind]
def a1I(te:TE):TS:=fun D σ H=>te σ H fun _ H1=>D.nx σ H1
def lj(he:PE X e te)(hs:dj e none pos.line X.env=pure false:=by rfl):PS X (.Expr e pos) (a1I te):=by
 intro pins s σ H D I h;exact wpAny_Expr_any (lh (he pins s σ H _ I h) fun v s1 ⟨x,H1,I1,r1,q1⟩=>⟨σ,H1,I1,q1⟩) I.quiet hs
def a1J(te:TE):TS:=fun D σ H=>te σ H D.rt
def HW(he:PE X e te):PS X (.Return (some e) pos) (a1J te):=by
 intro pins s σ H D I h;exact wpAny_Return_some (lh (he pins s σ H _ I h) fun v s1 ⟨x,H1,I1,r1,q1⟩=>⟨x,σ,H1,I1,r1,q1⟩)
def a3D(c:TT)(t u:TS):TS:=fun D σ H=>c σ H fun b H1=>if b=true then t D σ H1 else u D σ H1
def YH{a b:iT}{tc:TT}(hc:PT X c tc)(ha:FX X a t)(hb:FX X b u):PS X (.If c a b pos) (a3D tc t u):=by
 intro pins s σ H D I h;refine wpAny_If (lh (hc pins s σ H _ I h) ?_);rintro d s1 ⟨H1,I1,q1⟩
 cases d with
 | true=>exact ha pins s1 σ H1 D I1 q1
 | false=>exact hb pins s1 σ H1 D I1 q1
def ZV:TS:=fun _ _ _=>False
def EK{OV:iT}:FX X OV ZV:=fun _ _ _ _ _ _ h=>h.elim
end
abbrev TG:=V->St->Hp->(St->Hp->Prop)->Prop
abbrev YI:=cV->St->Hp->(St->Hp->Prop)->Prop
def PG(X:Cx)(target:du)(t:TG):Prop:=
 ∀(pins:Pn) (s:ai) (σ:St) (H:Hp) (v:V) (u:aH) (Q:St->Hp->Prop),Inv X pins σ H s->RelV v u->t v σ H Q->
  wj X (AB target X.env u) (fun _ s'=>∃σ' H',Inv X pins σ' H' s'/\Q σ' H') X.xe s
def PGs(X:Cx)(ts:jT)(t:YI):Prop:=
 ∀(pins:Pn) (s:ai) (σ:St) (H:Hp) (vs:cV) (us:fk) (Q:St->Hp->Prop),Inv X pins σ H s->Vals vs us->t vs σ H Q->
  wj X (assignInOrder ((sy ts X.env).map (·.2)) us) (fun _ s'=>∃σ' H',Inv X pins σ' H' s'/\Q σ' H') X.xe s
abbrev ZW:=V->V->V->Hp->(Hp->Prop)->Prop
def a1K(X:Cx)(t:ZW):Prop:=
 ∀(pins:Pn) (s:ai) (σ:St) (H:Hp) (o i v:V) (ov iv u:aH) (Q:Hp->Prop),Inv X pins σ H s->RelV o ov->RelV i iv->RelV v u->t o i v H Q->
  wj X (setItem ov iv u) (fun _ s'=>∃H',Inv X pins σ H' s'/\Q H') X.xe s
section
variable {X:Cx}{pos:mH}
def KY(i:Nat):TG:=fun v σ H Q=>Q (σ.set i (some v)) H
def B1{i:Nat}(hN:X.N.Nodup)(hi:X.N[i]? =some x)(hx:Loc X.env.scope x)(hf:X.fn x=true\/X.env.scope.names.lookup x=some .local:=by first | exact .inl rfl | exact .inr rfl | assumption):PG X (.Name x pos) (KY i):=by
 intro pins s σ H v u Q I r h;exact wpAny_assign_Name (HV I hN hi hx r (fun s' I'=>⟨_,H,I',h⟩) hf)
def a1L:YI:=fun vs σ H Q=>vs=[]/\Q σ H
def YJ(t:TG)(u:YI):YI:=fun vs σ H Q=>∃v r,vs=v::r/\t v σ H fun σ' H'=>u r σ' H' Q
def QQ:PGs X [] a1L:=by
 intro pins s σ H vs us Q I r h;obtain⟨e,h⟩:=h;subst e;cases r;exact assignInOrder_nil ⟨σ,H,I,h⟩
def zZ{es:jT}{t:TG}{u:YI}(h1:PG X e t)(h2:PGs X es u)
  (hs:(sy (e::es) X.env).map (·.2)=AB e X.env::(sy es X.env).map (·.2):=by rfl):PGs X (e::es) (YJ t u):=by
 intro pins s σ H vs us Q I r h;obtain⟨v,vr,e1,h⟩:=h;subst e1
 cases r with
 | cons r rr=>
  rw[hs];refine assignInOrder_cons (lh (h1 pins s σ H _ _ _ I r h) ?_);rintro _ s1 ⟨σ1,H1,I1,q1⟩;exact h2 pins s1 σ1 H1 _ _ Q I1 rr q1
def a1M(K:a9)(n:Nat)(t:YI):TG:=fun v σ H Q=>∃a xs,v= .ref a/\KW K H a xs/\xs.length=n/\t xs σ H Q
def Us{es:jT}{k:Nat}{t:YI}{n:Nat}(hc:X.calm=true)(h:PGs X es t)
  (hn:(sy es X.env).length=n:=by rfl)(vU:(sy es X.env).findIdx? (·.1)=none:=by rfl):PG X (.Tuple es k pos) (a1M X.K n t):=by
 intro pins s σ H v u Q I r hw;obtain⟨a,xs,e1,hq,hl,hw⟩:=hw;subst e1;cases r;obtain⟨eI,rv,ht,hz⟩:=I.tuple hq;refine assign_Tuple_tuple (I.ok.hd hc) ht (by simp[hn,<-hl,rv.length]) vU fun h' hx=>?_;have I1:Inv X pins σ H {s with heap:=h'}:=I.kept (t':=s.toks) fun b o e=>hx b o (cC (aM e)) e;exact h pins _ σ H xs _ Q I1 (by simpa using rv) hw
def a3E(to ti:TE)(t:ZW):TG:=fun v σ H Q=>to σ H fun o H1=>ti σ H1 fun i H2=>t o i v H2 fun H3=>Q σ H3
def Ut{o i:du}{to ti:TE}{t:ZW}(ho:PE X o to)(hi:PE X i ti)(hs:a1K X t)
  (ha:∀v,AB (.Subscript o i pos) X.env v=(do
   let ov <-kh [v] (fX o X.env);let iv <-kh [v,ov] (fX i X.env)
   oH pos
   kh [v,ov,iv] (setItem ov iv v)
   release [v,ov,iv] []):=by intro _;rfl):PG X (.Subscript o i pos) (a3E to ti t):=by
 intro pins s σ H v u Q I r h;rw[ha];refine ae (iE (lh (ho pins s σ H _ I h) ?_));rintro ov s1 ⟨x,H1,I1,r1,q1⟩;refine ae (iE (lh (hi pins s1 σ H1 _ I1 q1) ?_));rintro iv s2 ⟨y,H2,I2,r2,q2⟩;refine ae (mZ (ae (iE (lh (hs pins s2 σ H2 x y v ov iv u _ I2 r1 r2 r q2) ?_))));rintro _ s3 ⟨H3,I3,q3⟩;exact wpAny_release ⟨σ,H3,I3,q3⟩
def ZX(te:TE)(g:TG):TS:=fun D σ H=>te σ H fun x H1=>g x σ H1 D.nx
def Uu{tg e:du}{te:TE}{g:TG}(he:PE X e te)(hg:PG X tg g)(hs:swapsWithSole [tg] e pos.line X.env=pure false:=by rfl)(hw:swappedStores [tg] e X.env=pure none:=by rfl)
  (h1:(sy [tg] X.env).map (·.2)=[AB tg X.env]:=by rfl):PS X (.Assign [tg] e pos) (ZX te g):=by
 intro pins s σ H D I h;refine wpAny_Assign_stores (lh (he pins s σ H _ I h) ?_) hs hw;rintro v s1 ⟨x,H1,I1,r1,q1⟩;rw[h1];exact lh (hg pins s1 σ H1 x v _ I1 r1 q1) fun _ s2 q=>q
def rP{i:Nat}{te:TE}(hN:X.N.Nodup)(hi:X.N[i]? =some x)(hx:Loc X.env.scope x)(he:PE X e te)(hs:dj e (some (.Name x rk)) pos.line X.env=pure false:=by rfl)(hf:X.fn x=true\/X.env.scope.names.lookup x=some .local:=by first | exact .inl rfl | exact .inr rfl | assumption):
  PS X (.Assign [.Name x rk] e pos) (ZX te (KY i)):=by
 intro pins s σ H D I h;refine wpAny_Assign_Name (lh (he pins s σ H _ I h) ?_) hs;rintro v s1 ⟨y,H1,I1,r1,q1⟩;exact HV I1 hN hi hx r1 (fun s2 I2=>⟨_,H1,I2,q1⟩) hf
end
section
variable {X:Cx}{pos:mH}
def Uv(c:TT)(tb:TS):TS:=fun D σ H=>∃W:Nat->St->Hp->Prop,(∃m,W m σ H)/\∀m σ H,W m σ H->
 c σ H fun b H1=>if b=true then ∃N:St->Hp->Prop,(∀σ' H',N σ' H'->∃m',m'<m/\W m' σ' H')/\tb {D with nx:=N,ct:=N,bk:=D.nx} σ H1 else D.nx σ H1
def HX{body:iT}{tc:TT}{tb:TS}(hp:qr (c9 X.prog X.w) X.A X.env X.xe)(hc:PT X c tc)(hb:FX X body tb):PS X (.While c body [] pos) (Uv tc tb):=by
 intro pins s σ H D I h;obtain⟨W,⟨m0,w0⟩,turn⟩:=h;refine wpAny_While (codeAny_whileLoop (fun n s'=>∃σ' H',Inv X pins σ' H' s'/\W n σ' H') ?_ m0 ⟨σ,H,I,w0⟩);rintro n s1 ⟨σ1,H1,I1,w1⟩;refine kZ hp (lh (hc pins s1 σ1 H1 _ I1 (turn n σ1 H1 w1)) ?_);rintro b s2 ⟨H2,I2,q2⟩
 cases b with
 | true=>
  obtain⟨N,hN,q2⟩:=q2;rw[if_pos rfl];refine kZ hp (lh (hb pins s2 σ1 H2 _ I2 q2) fun f s3 q3=>?_)
  cases f with
  | next=>
   obtain⟨σ3,H3,I3,n3⟩:=q3;obtain⟨m',hm,w3⟩:=hN σ3 H3 n3;exact⟨m',hm,σ3,H3,I3,w3⟩
  | cont=>
   obtain⟨σ3,H3,I3,n3⟩:=q3;obtain⟨m',hm,w3⟩:=hN σ3 H3 n3;exact⟨m',hm,σ3,H3,I3,w3⟩
  | brk=>exact q3
  | ret v=>exact q3
 | false=>
  rw[if_neg bA];exact ue ⟨σ1,H2,I2,q2⟩
end
structure It where
 go:Nat->Hp->Prop
 yld:Nat->Hp->V->Hp->Prop
 stop:Nat->Hp->Prop
def GD(X:Cx)(pins:Pn)(H:Hp)(b:aI):Prop:=
 H b=none/\b≠X.env.locals/\b∉X.fs/\(b∈X.ex\/X.GC.heap.objs.size<=b)/\(∀x c,X.env.cells.lookup x=some c->c≠b)/\∀p∈X.pn++pins,p.1≠b
def Inv.Po{pins:Pn}{H H':Hp}{s:ai}(I:Inv X pins σ H s)(hb:s.heap.objs.size<=b)(hn:H' b=none):GD X pins H' b:=by
 refine⟨hn,jo (bz I.lt hb),I.a3w hb,.inr (bq I.sz hb),fun x c e z=>?_,fun p hp z=>?_⟩
 ·obtain⟨v,q⟩:=I.cell x c e;exact absurd (bz q.lt (by rw[z];exact hb)) (kj _)
 ·exact absurd (bz (aM (I.pin p hp).1) (by rw[z];exact hb)) (kj _)
structure Turn(P:bp)(w:cH)(K:a9)(tg:du)(J:It)(fp:kL)(it:aI)(tn:Nat->cy->Prop):Prop where
 mem:it∈fp
 obj:∀i h,tn i h->∀b∈fp,∃o,h.get? b=some o/\∀v,o.data≠ .cell v
 keep:∀i h h',tn i h->(∀b∈fp,∀o,h.get? b=some o->h'.get? b=some o)->tn i h'
 item:∀(X:Cx),X.prog=P->X.w=w->X.K=K->X.calm=true->∀(i:Nat) (pins:Pn) (s:ai) (σ:St) (H:Hp) (E:aH->ai->Prop),Inv X pins σ H s->(∀b∈fp,GD X pins H b)->tn i s.heap->J.go i H->
  bO (c9 P w) X.A (uf (.ref it)) (fun r s1=>∃u,r=some u/\
   bO (c9 P w) X.A (ug tg (.ref it) u) (fun _ s2=>∃x H',Inv X pins σ H' s2/\RelV x u/\J.yld i H x H'/\tn (i+1) s2.heap/\∀b∈fp,H' b=none) E s1) E s
 done:∀(X:Cx),X.prog=P->X.w=w->X.K=K->X.calm=true->∀(i:Nat) (pins:Pn) (s:ai) (σ:St) (H:Hp) (E:aH->ai->Prop),Inv X pins σ H s->(∀b∈fp,GD X pins H b)->tn i s.heap->J.stop i H->
  bO (c9 P w) X.A (uf (.ref it)) (fun r s1=>r=none/\Inv X pins σ H s1) E s
 self:∀(A:dD) (i:Nat) (s:ai) (Q:aH->ai->Prop) (E:aH->ai->Prop),tn i s.heap->Q (.ref it) s->bO (c9 P w) A (pyIter (.ref it)) Q E s
abbrev TI:=St->Hp->(It->Hp->Prop)->Prop
def PIE(X:Cx)(pins:Pn)(σ:St)(tg:du)(R:It->Hp->Prop)(itv:aH)(s2:ai):Prop:=
 ∃(it:aI) (fp:kL) (tn:Nat->cy->Prop) (J:It) (H':Hp),itv= .ref it/\Inv X pins σ H' s2/\Turn X.prog X.w X.K tg J fp it tn/\tn 0 s2.heap/\(∀b∈fp,GD X pins H' b)/\R J H'
def PI(X:Cx)(tg iter:du)(wi:TI):Prop:=
 ∀(pins:Pn) (s:ai) (σ:St) (H:Hp) (R:It->Hp->Prop),Inv X pins σ H s->wi σ H R->
  wj X (fX iter X.env) (fun v s1=>wj X (pyIter v) (PIE X pins σ tg R) X.xe s1) X.xe s
def Uw{M:AA}{E:aH->ai->Prop}{s:ai}{o:uC}{n:String}{vs:nc}{Q:Unit->ai->Prop}(ho:s.heap.get? it=some o)(hc:o.cls= .type n)(hd:o.data= .fields vs)
  (hn:["enumerate","zip","dict_itemiterator","dict_reverseitemiterator","odict_iterator","itertools.zip_longest","itertools.pairwise"].contains n=false)(hQ:Q () s):bO M A (ug tg (.ref it) u) Q E s:=by
 unfold ug
 cases tg<;>first
  | exact aG hQ
  | (cases u<;>first
    | exact aG hQ
    | (
      refine ae (JJ ho ?_);rw[hc,hd];show bO M A (if(["enumerate","zip","dict_itemiterator","dict_reverseitemiterator","odict_iterator","itertools.zip_longest","itertools.pairwise"].contains n && vs[0]? == some (vK _))=true then _ else _) Q E s;rw[if_neg (by intro h;rw[hn,kA]at h;cases h)];exact aG hQ))
def Itl(K:a9)(a:aI):It:=
 ⟨fun i H=>∃xs x,lC K H a xs/\xs[i]? =some x,fun i H x H'=>H'=H/\∀xs,lC K H a xs->xs[i]? =some x,fun i H=>∃xs,lC K H a xs/\xs.length<=i⟩
def Itr(lo:Int)(n:Nat):It:=⟨fun i _=>i<n,fun i H x H'=>H'=H/\x= .int (lo+i),fun i _=>n<=i⟩
def Sk{K:a9}(a it:aI):Turn P w K tg (Itl K a) [it] it (fun i h=>h.IsListIter it a i) where
 mem:=by simp
 obj:=fun i h st b hb=>by
  have e:b=it:=by simpa using hb
  subst e;obtain⟨o,e,c,d⟩:=st;exact⟨o,e,fun v z=>by rw[d]at z;cases z⟩
 keep:=fun i h h' st k=>st.at fun o e=>k it (!1) o e
 item:=by
  intro X hP hw hK hc i pins s σ H E I hf st hg;subst hP hw hK;obtain⟨xs,x,hq,hx⟩:=hg;obtain⟨eI,rv,p,hz⟩:=I.list hq;obtain⟨u,hu,ru⟩:=rv.get hx;obtain⟨f0,f1,f2,f3,f4,f5⟩:=hf it (!1);refine wpAny_pyNext_list_item st p.isList (x:=u) (by simpa using hu) fun h' D4 sb=>?_;have I1:Inv X pins σ H {s with heap:=h'}:=I.turned (t':=s.toks) (fun b o hb e=>(sb.2 b hb).trans e) f0 f1 f3 f4 f5;obtain⟨o,e,c,d⟩:=id D4;exact⟨u,rfl,Uw (s:={s with heap:=h'}) e c d ck ⟨x,H,I1,ru,⟨rfl,fun ys hy=>by rw[I.vd hy hq];exact hx⟩,D4,fun b hb=>(hf b hb).1⟩⟩
 done:=by
  intro X hP hw hK hc i pins s σ H E I hf st hg;subst hP hw hK;obtain⟨xs,hq,hx⟩:=hg;obtain⟨eI,rv,p,hz⟩:=I.list hq;obtain⟨f0,f1,f2,f3,f4,f5⟩:=hf it (!1);have hl:=rv.length;exact wpAny_pyNext_list_end (I.ok.hd hc) st p.isList (by simp;omega) fun h' eb=>⟨rfl,I.turned (t':=s.toks) (fun b o hb e=>eb b o hb e) f0 f1 f3 f4 f5⟩
 self:=fun _ _ _ _ _ st h=>wpAny_pyIter_listiter st h
def Pp{K:a9}(it:aI)(lo:Int)(n:Nat):Turn P w K tg (Itr lo n) [it] it (fun i h=>AD h it (lo+(i:Nat)*1) ((n:Int)-(i:Nat)) 1) where
 mem:=by simp
 obj:=fun i h st b hb=>by
  have e:b=it:=by simpa using hb
  subst e;exact⟨_,st,fun v z=>by
   have z':Data.fields _=Data.cell v:=z;cases z'⟩
 keep:=fun i h h' st k=>k it (!1) _ st
 item:=by
  intro X hP hw hK hc i pins s σ H E I hf st hg;subst hP hw hK;obtain⟨f0,f1,f2,f3,f4,f5⟩:=hf it (!1);have W:=Walks.range (prog:=X.prog) (w:=X.w) (I.ok.hd hc) it lo 1 n;refine W.item i s _ _ hg st fun v h' tk hv D4 kk=>?_;obtain⟨t,rfl⟩:=hv;have I1:Inv X pins σ H {s with heap:=h',toks:=tk}:=I.turned (fun b o hb e=>kk b o (by simpa using hb) e) f0 f1 f3 f4 f5;refine⟨_,rfl,Uw (s:={s with heap:=h',toks:=tk}) (n:="range_iterator") D4 rfl rfl ck ⟨.int (lo+i),H,I1,⟨t,?_⟩,⟨rfl,rfl⟩,D4,fun b hb=>(hf b hb).1⟩⟩;rw[Int.mul_one]
 done:=by
  intro X hP hw hK hc i pins s σ H E I hf st hg;subst hP hw hK;obtain⟨f0,f1,f2,f3,f4,f5⟩:=hf it (!1);exact yN (I.ok.hd hc) st (by have:n<=i:=hg;omega) fun h' eb=>⟨rfl,I.turned (t':=s.toks) (fun b o hb e=>eb b o hb e) f0 f1 f3 f4 f5⟩
 self:=fun _ _ _ _ _ st h=>yO st h
section
variable {X:Cx}{tg:du}
def a1N(K:a9)(tl:TE):TI:=fun σ H R=>tl σ H fun x H1=>∃a,x= .ref a/\(∃xs,lC K H1 a xs)/\R (Itl K a) H1
def WX{tl:TE}(hl:PE X l tl):PI X tg l (a1N X.K tl):=by
 intro pins s σ H R I h;refine lh (hl pins s σ H _ I h) ?_;rintro v s1 ⟨x,H1,I1,r1,q1⟩;obtain⟨a,e,⟨xs,hq⟩,q⟩:=q1;subst e;cases r1;obtain⟨eI,rv,p,hz⟩:=I1.list hq;refine qV p.isList ?_;refine⟨s1.heap.objs.size,[s1.heap.objs.size],_,_,H1,rfl,I1.kept (t':=s1.toks) fun b o e=>af _ e,Sk a _,⟨_,bI _ rfl,rfl,rfl⟩,fun b hb=>?_,q⟩;have e:b=s1.heap.objs.size:=by simpa using hb
 subst e;exact I1.Po (ao _) (I1.hok.fresh (ao _))
def NF{pins:Pn}{s:ai}{R:It->Hp->Prop}{E:aH->ai->Prop}{lo hi:Int}{t u v:Tok}{tk:Nat}(I:Inv X pins σ H s)(h1: -(2^62)<=lo)(h2:lo<2^62)(h3: -(2^62)<=hi)(h4:hi<2^62)
  (q:R (Itr lo (hi-lo).toNat) H):wj X (pyIter (.ref s.heap.objs.size)) (PIE X pins σ tg R) E {s with heap:=s.heap.push {cls:=.type "range",data:=.fields #[.int lo t,.int hi u,.int 1 v]},toks:=tk}:=by
 refine CN (OZ ..) (small_one h1 h2 h3 h4) ?_;have I1:Inv X pins σ H {s with heap:=s.heap.push {cls:=.type "range",data:=.fields #[.int lo t,.int hi u,.int 1 v]},toks:=tk}:=I.kept fun b o e=>af _ e;refine⟨(s.heap.push {cls:=.type "range",data:=.fields #[.int lo t,.int hi u,.int 1 v]}).objs.size,[(s.heap.push {cls:=.type "range",data:=.fields #[.int lo t,.int hi u,.int 1 v]}).objs.size],_,_,H,rfl,
  I1.kept (t':=tk) fun b o e=>af _ e,Pp _ lo (hi-lo).toNat,?_,fun b hb=>?_,q⟩
 ·have e1:lo+((0:Nat):Int)*1=lo:=by simp
  have e2:(((hi-lo).toNat:Nat):Int)-((0:Nat):Int)=iu lo hi 1:=by rw[rangeSize_one];split<;>omega
  show AD _ _ (lo+((0:Nat):Int)*1) ((((hi-lo).toNat:Nat):Int)-((0:Nat):Int)) 1;rw[e1,e2];exact bI _ rfl
 ·have e:b=(s.heap.push {cls:=.type "range",data:=.fields #[.int lo t,.int hi u,.int 1 v]}).objs.size:=by simpa using hb
  subst e;exact I1.Po (ao _) (I1.hok.fresh (ao _))
def a1O(ta:TA):TI:=fun σ H R=>ta σ H fun vs H1=>∃j:Int,vs=[.int j]/\ -(2^62)<=j/\j<2^62/\R (Itr 0 j.toNat) H1
def a1P(ta:TA):TI:=fun σ H R=>ta σ H fun vs H1=>∃i j:Int,vs=[.int i,.int j]/\(-(2^62)<=i/\i<2^62/\ -(2^62)<=j/\j<2^62)/\R (Itr i (j-i).toNat) H1
def Sm{a:du}{ta:TA}{p pos:mH}(hg:Gl X "range")(hm:X.mg "range" =none)(ha:PA X [a] ta)(hs:SE X a []:=by rfl):PI X tg (.Call (.Name "range" p) [a] [] pos) (a1O ta):=by
 intro pins s σ H R I h;refine Call_ (vc I hg hm CO (dz (lh (ha pos pins s σ H _ I h) ?_) hs rfl));rintro us s1 ⟨vs,H1,I1,r1,q1⟩;obtain⟨j,e,q1,q2,q⟩:=q1;subst e
 cases r1 with
 | cons r rr=>
  cases rr;obtain⟨t,rfl⟩:=r;exact call_range_1 (NF I1 (!0) (!0) q1 q2 (by simpa using q))
def Sn{a b:du}{ta:TA}{p pos:mH}(hg:Gl X "range")(hm:X.mg "range" =none)(ha:PA X [a,b] ta)(hs:dM [a,b] X.env=[(false,fX a X.env),(false,fX b X.env)]:=by rfl)(hs2:dM [b] X.env=[(false,fX b X.env)]:=by rfl):
  PI X tg (.Call (.Name "range" p) [a,b] [] pos) (a1P ta):=by
 intro pins s σ H R I h;refine Call_ (vc I hg hm CO (dz (lh (ha pos pins s σ H _ I h) fun us s1 ⟨vs,H1,I1,r1,q1⟩=>?_) (by rw[hs,hs2]) (by rw[hs2];rfl)));obtain⟨i,j,e,⟨q1,q2,q3,q4⟩,q⟩:=q1;subst e
 cases r1 with
 | cons r rr=>
  cases rr with
  | cons r' rr=>
   cases rr;obtain⟨t,rfl⟩:=r;obtain⟨t',rfl⟩:=r';exact call_range_2 (NF I1 q1 q2 q3 q4 q)
def a3F(wi:TI)(g:TG)(tb:TS):TS:=fun D σ H=>wi σ H fun J H1=>∃W:Nat->Nat->St->Hp->Prop,(∃m,W 0 m σ H1)/\∀i m σ H,W i m σ H->
 (J.stop i H/\D.nx σ H)\/(J.go i H/\∃N:St->Hp->Prop,(∀σ' H',N σ' H'->∃m',m'<m/\W (i+1) m' σ' H')/\∀x H',J.yld i H x H'->g x σ H' fun σ2 H2=>tb {D with nx:=N,ct:=N,bk:=D.nx} σ2 H2)
def HY(fp:kL)(h:cy):Pn:=fp.filterMap fun b=>(h.get? b).map fun o=>(b,o)
def Cf{fp:kL}{h:cy}{o:uC}(hb:b∈fp)(e:h.get? b=some o):(b,o)∈HY fp h:=gw.mpr ⟨b,hb,by rw[e];rfl⟩
def Sr{fp:kL}{h:cy}{p:aI×uC}(hp:p∈HY fp h):p.1∈fp/\h.get? p.1=some p.2:=by
 obtain⟨b,hb,e⟩:=gw.mp hp
 cases q:h.get? b with
 | none=>rw[q]at e;cases e
 | some o=>
  rw[q]at e;have e':(b,o)=p:=be e;subst e';exact⟨hb,q⟩
def Inv.pinned{pins:Pn}{s:ai}{fp:kL}(I:Inv X pins σ H s)(hf:∀b∈fp,GD X pins H b)(ho:∀b∈fp,∃o,s.heap.get? b=some o/\∀v,o.data≠ .cell v):Inv X (pins++HY fp s.heap) σ H s:=
 I.QN fun p hp=>(f7.mp hp).elim (fun z=>I.pin p (eF _ z)) fun z=>by
  obtain⟨hb,e⟩:=Sr z;obtain⟨f0,f1,f2,_⟩:=hf p.1 hb;obtain⟨o,e',d⟩:=ho p.1 hb;rw[e]at e';cases e';exact⟨e,f0,f1,f2,d⟩
def Inv.Dk{pins pl:Pn}(I:Inv X (pins++pl) σ H s):Inv X pins σ H s:=I.QN fun p hp=>I.pin p (eF _ (gz _ hp))
def Ux{iter:du}{body:iT}{wi:TI}{g:TG}{tb:TS}(hp:qr (c9 X.prog X.w) X.A X.env X.xe)(hc:X.calm=true)(hi:PI X tg iter wi)(hg:PG X tg g)(hb:FX X body tb)
  (hs:∀x,dA iter X.env x=pure x:=by intro _;rfl):PS X (.For tg iter body [] pos) (a3F wi g tb):=by
 intro pins s σ H D I h;refine wpAny_For (lh (hi pins s σ H _ I h) fun v s1 h1=>lh h1 fun itv s2 h2=>?_) hs;obtain⟨it,fp,tn,J,H2,e,I2,T,st2,f2,W,⟨m0,w0⟩,turn⟩:=h2;subst e;have Pq:∀{H':Hp},(∀b∈fp,H' b=none)->∀b∈fp,GD X pins H' b:=fun hn b hb=>⟨hn b hb,(f2 b hb).2⟩;refine codeAny_forLoop_any (fun n s'=>∃i σ' H',Inv X pins σ' H' s'/\tn i s'.heap/\(∀b∈fp,H' b=none)/\W i n σ' H') ?_ m0 ⟨0,σ,H2,I2,st2,fun b hb=>(f2 b hb).1,w0⟩;rintro n s3 ⟨i,σ3,H3,I3,st3,fr3,w3⟩;rcases turn i n σ3 H3 w3 with⟨stop,qn⟩ | ⟨go,N,hN,step⟩
 ·refine kZ hp (lh (T.done X rfl rfl rfl hc i pins s3 σ3 H3 X.xe I3 (Pq fr3) st3 stop) ?_);rintro r s4 ⟨hr,I4⟩;subst hr;exact ue ⟨σ3,H3,I4,qn⟩
 ·refine kZ hp (lh (T.item X rfl rfl rfl hc i pins s3 σ3 H3 X.xe I3 (Pq fr3) st3 go) ?_);rintro r s4 ⟨u,hr,h4⟩;subst hr;refine kZ hp (lh h4 ?_);rintro _ s5 ⟨x,H5,I5,r5,y5,st5,fr5⟩;have I5':=I5.pinned (Pq fr5) (T.obj _ _ st5);refine kZ hp (lh (hg _ s5 σ3 H5 x u _ I5' r5 (step x H5 y5)) ?_);rintro _ s6 ⟨σ6,H6,I6,q6⟩;refine kZ hp (lh (hb _ s6 σ6 H6 _ I6 q6) fun f s7 q7=>?_);have again:∀{σ7:St} {H7:Hp},Inv X (pins++HY fp s5.heap) σ7 H7 s7->N σ7 H7->∃m,m<n/\∃i σ' H',Inv X pins σ' H' s7/\tn i s7.heap/\(∀b∈fp,H' b=none)/\W i m σ' H':=fun {σ7 H7} I7 n7=>by
   obtain⟨m',hm,w7⟩:=hN σ7 H7 n7;refine⟨m',hm,i+1,σ7,H7,I7.Dk,T.keep _ _ _ st5 fun b hb o e=>(I7.pin (b,o) (eF _ (eF _ (Cf hb e)))).1,fun b hb=>?_,w7⟩;obtain⟨o,e,d⟩:=T.obj _ _ st5 b hb;exact(I7.pin (b,o) (eF _ (eF _ (Cf hb e)))).2.1
  cases f with
  | next=>obtain⟨σ7,H7,I7,n7⟩:=q7;exact again I7 n7
  | cont=>obtain⟨σ7,H7,I7,n7⟩:=q7;exact again I7 n7
  | brk=>obtain⟨σ7,H7,I7,q7⟩:=q7;exact⟨σ7,H7,I7.Dk,q7⟩
  | ret v=>obtain⟨x7,σ7,H7,I7,r7,q7⟩:=q7;exact⟨x7,σ7,H7,I7.Dk,r7,q7⟩
end
abbrev R2:=V->V->Hp->VK->Prop
def Cg(X:Cx)(f:aH->aH->GX aH)(r:R2):Prop:=
 ∀(pins:Pn) (s:ai) (σ:St) (H:Hp) (x y:V) (v u:aH) (Q:VK),Inv X pins σ H s->RelV x v->RelV y u->r x y H Q->
  wj X (f v u) (EP X pins σ Q) X.xe s
def UnR(X:Cx)(f:aH->GX aH)(r:V->Hp->VK->Prop):Prop:=
 ∀(pins:Pn) (s:ai) (σ:St) (H:Hp) (x:V) (v:aH) (Q:VK),Inv X pins σ H s->RelV x v->r x H Q->
  wj X (f v) (EP X pins σ Q) X.xe s
def xm(X:Cx)(f:aH)(r:cV->Hp->VK->Prop):Prop:=
 ∀(pins:Pn) (s:ai) (σ:St) (H:Hp) (xs:cV) (us:fk) (Q:VK),Inv X pins σ H s->Vals xs us->r xs H Q->
  wj X (call f us) (EP X pins σ Q) X.xe s
def YK(r:R2)(ta tb:TE):TE:=fun σ H Q=>ta σ H fun x H1=>tb σ H1 fun y H2=>r x y H2 Q
def tUn(r:V->Hp->VK->Prop)(ta:TE):TE:=fun σ H Q=>ta σ H fun x H1=>r x H1 Q
def rI(C:Int->Int->Prop)(g:Int->Int->V):R2:=fun x y H Q=>∃i j,x= .int i/\y= .int j/\C i j/\Q (g i j) H
def WY(g:Int->Int->V):R2:=fun x y H Q=>∃i j,x= .int i/\y= .int j/\Q (g i j) H
def rU(g:Int->V):V->Hp->VK->Prop:=fun x H Q=>∃i,x= .int i/\Q (g i) H
section
variable {X:Cx}{a b c:du}{ta tb tc:TE}{pos:mH}
def ZY(ha:PE X a ta)(hb:PE X b tb){pins:Pn}{R:V->V->Hp->Prop}(I:Inv X pins σ H s)
  (h:ta σ H fun x H1=>tb σ H1 fun y H2=>R x y H2){Q:aH->ai->Prop}{f:aH->aH->GX aH}
  (hf:∀v u s2 x y H2,Inv X pins σ H2 s2->RelV x v->RelV y u->R x y H2->wj X (f v u) Q X.xe s2):
  wj X (fX a X.env) (fun v s₁=>wj X (fX b X.env) (fun u s₂=>wj X (f v u) Q X.xe s₂) X.xe s₁) X.xe s:=by
 refine lh (ha pins s σ H _ I h) ?_;rintro v s1 ⟨x,H1,I1,r1,q1⟩;refine lh (hb pins s1 σ H1 _ I1 q1) ?_;rintro u s2 ⟨y,H2,I2,r2,q2⟩;exact hf v u s2 x y H2 I2 r1 r2 q2
def KZ{op:JK}{r:R2}(ho:Cg X (tR op) r)(ha:PE X a ta)(hb:PE X b tb):PE X (.BinOp a op b pos) (YK r ta tb):=by
 intro pins s σ H Q I h;exact wpAny_BinOp (ZY ha hb I h fun v u s2 x y H2 I2 rx ry q=>ho pins s2 σ H2 x y v u Q I2 rx ry q)
def NG{op:UnaryOp}{r:V->Hp->VK->Prop}(ho:UnR X (unaryOp op) r)(ha:PE X a ta):PE X (.UnaryOp op a pos) (tUn r ta):=by
 intro pins s σ H Q I h;exact UnaryOp_ (lh (ha pins s σ H _ I h) fun v s1 ⟨x,H1,I1,r1,q1⟩=>ho pins s1 σ H1 x v Q I1 r1 q1)
def opI{f:aH->aH->GX aH}{C:Int->Int->Prop}{g:Int->Int->Int}
  (rule:∀(i j:Int) (t u:Tok) (s:ai) (Q:aH->ai->Prop) (E:aH->ai->Prop),C i j->Q (.int (g i j) s.toks) {s with toks:=s.toks+1}->wj X (f (.int i t) (.int j u)) Q E s):
  Cg X f (rI C fun i j=>.int (g i j)):=by
 intro pins s σ H x y v u Q I rx ry h;obtain⟨i,j,rfl,rfl,hc,q⟩:=h;obtain⟨t,rfl⟩:=rx;obtain⟨t',rfl⟩:=ry;exact rule i j t t' s _ _ hc ⟨.int (g i j),H,I.tok _,⟨_,rfl⟩,q⟩
def a1Q{f:aH->aH->GX aH}{g:Int->Int->Int}
  (rule:∀(i j:Int) (t u:Tok) (s:ai) (Q:aH->ai->Prop) (E:aH->ai->Prop),Q (.int (g i j) s.toks) {s with toks:=s.toks+1}->wj X (f (.int i t) (.int j u)) Q E s):
  Cg X f (WY fun i j=>.int (g i j)):=by
 intro pins s σ H x y v u Q I rx ry h;obtain⟨i,j,rfl,rfl,q⟩:=h;obtain⟨t,rfl⟩:=rx;obtain⟨t',rfl⟩:=ry;exact rule i j t t' s _ _ ⟨.int (g i j),H,I.tok _,⟨_,rfl⟩,q⟩
def ZZ{f:aH->aH->GX aH}{g:Int->Int->Bool}
  (rule:∀(i j:Int) (t u:Tok) (s:ai) (Q:aH->ai->Prop) (E:aH->ai->Prop),Q (.bool (g i j)) s->wj X (f (.int i t) (.int j u)) Q E s):
  Cg X f (WY fun i j=>.bl (g i j)):=by
 intro pins s σ H x y v u Q I rx ry h;obtain⟨i,j,rfl,rfl,q⟩:=h;obtain⟨t,rfl⟩:=rx;obtain⟨t',rfl⟩:=ry;exact rule i j t t' s _ _ ⟨.bl (g i j),H,I,rfl,q⟩
def a00:Cg X (tR .Add) (WY fun i j=>.int (i+j)):=a1Q fun _ _ _ _ _ _ _ q=>add_int q
def LV:Cg X (tR .Sub) (WY fun i j=>.int (i-j)):=a1Q fun _ _ _ _ _ _ _ q=>sub_int q
def WZ:Cg X (tR .Mod) (rI (fun _ j=>j≠0) fun i j=>.int (i.fmod j)):=opI fun _ _ _ _ _ _ _ hc q=>mod_int' hc q
def unI{f:aH->GX aH}{g:Int->Int}
  (rule:∀(i:Int) (t:Tok) (s:ai) (Q:aH->ai->Prop) (E:aH->ai->Prop),Q (.int (g i) s.toks) {s with toks:=s.toks+1}->wj X (f (.int i t)) Q E s):
  UnR X f (rU fun i=>.int (g i)):=by
 intro pins s σ H x v Q I rx h;obtain⟨i,rfl,q⟩:=h;obtain⟨t,rfl⟩:=rx;exact rule i t s _ _ ⟨.int (g i),H,I.tok _,⟨_,rfl⟩,q⟩
def HZ:UnR X (unaryOp .USub) (rU fun i=>.int (-i)):=unI fun _ _ _ _ _ q=>neg_int q
end
def a1R:V->V->Bool
 | .fA,.fA=>true | .fA,.int _=>true | .int _,.fA=>true | .fA,.bl _=>true | .bl _,.fA=>true | .fA,.str _=>true | .str _,.fA=>true
 | .int _,.int _=>true | .bl _,.bl _=>true | .str _,.str _=>true | .TC _,.TC _=>true
 | .int _,.str _=>true | .str _,.int _=>true | .bl _,.str _=>true | .str _,.bl _=>true
 | _,_=>false
def rEq:R2:=fun x y H Q=>a1R x y=true/\Q (.bl (decide (x=y))) H
def rNe:R2:=fun x y H Q=>a1R x y=true/\Q (.bl (!decide (x=y))) H
def Hg{i j:Int}:decide (V.int i=V.int j)=(i == j):=by
 rw[f9];simp
def Uy{i j:Bool}:decide (V.bl i=V.bl j)=(i == j):=by
 rw[f9];simp
def QR{i j:cY}:decide (V.str i=V.str j)=(i == j):=by
 rw[f9];simp
def QS{i j:Array UInt8}:decide (V.TC i=V.TC j)=(i.toList == j.toList):=by
 rw[f9];cases i;cases j;simp
section
variable {X:Cx}{a b c:du}{ta tb tc:TE}{pos:mH}
def hV{pins:Pn}{Q:VK}{k k':Bool}(I:Inv X pins σ H s)(q:Q (.bl k) H)(e:k=k'):EP X pins σ Q (.bool k') s:=by
 subst e;exact⟨.bl k,H,I,rfl,q⟩
def Uz:Cg X (gY .Eq) rEq:=by
 intro pins s σ H x y v u Q I rx ry h;obtain⟨hs,q⟩:=h
 cases x with
 | fA=>
  cases rx
  cases y with
  | fA=>cases ry;exact PySem.EqNone.eq_none_none (hV I q (!1))
  | bl j=>cases ry;exact PySem.EqNone.eq_none_bool (hV I q (!1))
  | int j=>obtain⟨t',rfl⟩:=ry;exact PySem.EqNone.eq_none_int (hV I q (!1))
  | str j=>obtain⟨t',rfl⟩:=ry;exact PySem.EqNone.eq_none_str (hV I q (!1))
  | _=>exact absurd (show false=true from hs) bA
 | bl i=>
  cases rx
  cases y with
  | fA=>cases ry;exact PySem.EqNone.eq_bool_none (hV I q (!1))
  | bl j=>cases ry;exact eq_bool (hV I q Uy)
  | str j=>obtain⟨t',rfl⟩:=ry;exact PySem.EqMixed.eq_bool_str (hV I q (!1))
  | _=>exact absurd (show false=true from hs) bA
 | int i=>
  obtain⟨t,rfl⟩:=rx
  cases y with
  | fA=>cases ry;exact PySem.EqNone.eq_int_none (hV I q (!1))
  | int j=>obtain⟨t',rfl⟩:=ry;exact eq_int (hV I q Hg)
  | str j=>obtain⟨t',rfl⟩:=ry;exact PySem.EqMixed.eq_int_str (hV I q (!1))
  | _=>exact absurd (show false=true from hs) bA
 | str i=>
  obtain⟨t,rfl⟩:=rx
  cases y with
  | fA=>cases ry;exact PySem.EqNone.eq_str_none (hV I q (!1))
  | bl j=>cases ry;exact PySem.EqMixed.eq_str_bool (hV I q (!1))
  | int j=>obtain⟨t',rfl⟩:=ry;exact PySem.EqMixed.eq_str_int (hV I q (!1))
  | str j=>obtain⟨t',rfl⟩:=ry;exact eq_str (hV I q QR)
  | _=>exact absurd (show false=true from hs) bA
 | TC i=>
  obtain⟨t,rfl⟩:=rx
  cases y with
  | TC j=>obtain⟨t',rfl⟩:=ry;exact PySem.W.eq_bytes (hV I q QS)
  | _=>exact absurd (show false=true from hs) bA
 | _=>cases y<;>exact absurd (show false=true from hs) bA
def YL:Cg X (gY .NotEq) rNe:=by
 intro pins s σ H x y v u Q I rx ry h;obtain⟨hs,q⟩:=h
 cases x with
 | fA=>
  cases rx
  cases y with
  | fA=>cases ry;exact PySem.EqNone.ne_none_none (hV I q (!1))
  | bl j=>cases ry;exact PySem.EqNone.ne_none_bool (hV I q (!1))
  | int j=>obtain⟨t',rfl⟩:=ry;exact PySem.EqNone.ne_none_int (hV I q (!1))
  | str j=>obtain⟨t',rfl⟩:=ry;exact PySem.EqNone.ne_none_str (hV I q (!1))
  | _=>exact absurd (show false=true from hs) bA
 | bl i=>
  cases rx
  cases y with
  | fA=>cases ry;exact PySem.EqNone.ne_bool_none (hV I q (!1))
  | bl j=>cases ry;exact ne_bool (hV I q (congrArg not Uy))
  | str j=>obtain⟨t',rfl⟩:=ry;exact PySem.EqMixed.ne_bool_str (hV I q (!1))
  | _=>exact absurd (show false=true from hs) bA
 | int i=>
  obtain⟨t,rfl⟩:=rx
  cases y with
  | fA=>cases ry;exact PySem.EqNone.ne_int_none (hV I q (!1))
  | int j=>obtain⟨t',rfl⟩:=ry;exact ne_int (hV I q (congrArg not Hg))
  | str j=>obtain⟨t',rfl⟩:=ry;exact PySem.EqMixed.ne_int_str (hV I q (!1))
  | _=>exact absurd (show false=true from hs) bA
 | str i=>
  obtain⟨t,rfl⟩:=rx
  cases y with
  | fA=>cases ry;exact PySem.EqNone.ne_str_none (hV I q (!1))
  | bl j=>cases ry;exact PySem.EqMixed.ne_str_bool (hV I q (!1))
  | int j=>obtain⟨t',rfl⟩:=ry;exact PySem.EqMixed.ne_str_int (hV I q (!1))
  | str j=>obtain⟨t',rfl⟩:=ry;exact ne_str (hV I q (congrArg not QR))
  | _=>exact absurd (show false=true from hs) bA
 | TC i=>
  obtain⟨t,rfl⟩:=rx
  cases y with
  | TC j=>obtain⟨t',rfl⟩:=ry;exact PySem.W.ne_bytes (hV I q (congrArg not QS))
  | _=>exact absurd (show false=true from hs) bA
 | _=>cases y<;>exact absurd (show false=true from hs) bA
def YM:Cg X (gY .Lt) (WY fun i j=>.bl (decide (i<j))):=ZZ fun _ _ _ _ _ _ _ q=>lt_int q
def YN:Cg X (gY .LtE) (WY fun i j=>.bl (decide (i<=j))):=ZZ fun _ _ _ _ _ _ _ q=>le_int q
def YO:Cg X (gY .Gt) (WY fun i j=>.bl (decide (j<i))):=ZZ fun _ _ _ _ _ _ _ q=>gt_int q
def a01:Cg X (gY .Is) (fun x y H Q=>y= .fA/\Q (.bl (decide (x= .fA))) H):=by
 intro pins s σ H x y v u Q I rx ry h;obtain⟨rfl,q⟩:=h;cases ry;refine is_none_gen (hV I q ?_)
 cases x<;>first
  | (cases rx;rfl)
  | (obtain⟨t,rfl⟩:=rx;rfl)
def QT:Cg X (gY .IsNot) (fun x y H Q=>y= .fA/\Q (.bl (!decide (x= .fA))) H):=by
 intro pins s σ H x y v u Q I rx ry h;obtain⟨rfl,q⟩:=h;cases ry;refine isnot_none_gen (hV I q ?_)
 cases x<;>first
  | (cases rx;rfl)
  | (obtain⟨t,rfl⟩:=rx;rfl)
def UA(b:du){op:CmpOp}(h:op≠ .In:=by decide)(h2:op≠ .NotIn:=by decide):jq op b=false:=by
 have e1:(op == CmpOp.In)=false:=by cases op<;>first | rfl | exact absurd rfl h
 have e2:(op == CmpOp.NotIn)=false:=by cases op<;>first | rfl | exact absurd rfl h2
 cases b<;>simp[jq,e1,e2]
def X0{op:CmpOp}{r:R2}(ho:Cg X (gY op) r)(ha:PE X a ta)(hb:PE X b tb)(hm:jq op b=false):PE X (.Compare a [op] [b] pos) (YK r ta tb):=by
 intro pins s σ H Q I h;exact wpAny_Compare1 (ZY ha hb I h fun v u s2 x y H2 I2 rx ry q=>ho pins s2 σ H2 x y v u Q I2 rx ry q) hm
def YQ(t:TE):TT:=fun σ H Q=>t σ H fun x H'=>∃k,x= .bl k/\Q k H'
def X1{op:CmpOp}{r:R2}(ho:Cg X (gY op) r)(ha:PE X a ta)(hb:PE X b tb)(hm:jq op b=false):PT X (.Compare a [op] [b] pos) (YQ (YK r ta tb)):=by
 intro pins s σ H Q I h
 refine wpAny_isTrue_Compare1 (lh (ha pins s σ H _ I h) fun v s1 ⟨x,H1,I1,r1,q1⟩=>lh (hb pins s1 σ H1 _ I1 q1) fun u s2 ⟨y,H2,I2,r2,q2⟩=>
  lh (ho pins s2 σ H2 x y v u _ I2 r1 r2 q2) fun c s3 ⟨z,H3,I3,r3,k,e,q3⟩=>?_) hm
 subst e;cases r3;exact ly ⟨H3,I3,q3⟩
def a02(r r':R2)(ta tb tc:TE):TE:=fun σ H Q=>ta σ H fun x H1=>tb σ H1 fun y H2=>r x y H2 fun z H3=>∃k,z= .bl k/\
 (if k=true then tc σ H3 fun w' H4=>r' y w' H4 Q else Q (.bl false) H3)
def UB{op op':CmpOp}{r r':R2}(ho:Cg X (gY op) r)(TL:Cg X (gY op') r')(ha:PE X a ta)(hb:PE X b tb)(hc:PE X c tc)
  (hm:lastMarks [op,op'] [b,c]=false:=by with_unfolding_all rfl):PE X (.Compare a [op,op'] [b,c] pos) (a02 r r' ta tb tc):=by
 intro pins s σ H Q I h
 refine Compare_chain (lh (ha pins s σ H _ I h) fun v s1 ⟨x,H1,I1,r1,q1⟩=>chain_link (lh (hb pins s1 σ H1 _ I1 q1) fun u s2 ⟨y,H2,I2,r2,q2⟩=>
  lh (ho pins s2 σ H2 x y v u _ I2 r1 r2 q2) fun d s3 ⟨z,H3,I3,r3,k,e,q3⟩=>?_)) hm
 subst e;cases r3;refine ly ?_
 cases k with
 | false=>exact ite_ff ⟨.bl false,H3,I3,rfl,q3⟩
 | true=>exact ite_tt (chain_last (lh (hc pins s3 σ H3 _ I3 q3) fun w' s4 ⟨z',H4,I4,r4,q4⟩=>TL pins s4 σ H4 y z' u w' Q I4 r2 r4 q4))
def LW:(bC:Nat)<2^63:=by rw[AE];decide
def vals1{us:fk}(r:Vals [x] us):∃u,us=[u]/\RelV x u:=by
 cases r with
 | cons r1 r2=>cases r2;exact⟨_,rfl,r1⟩
def vals2{x y:V}{us:fk}(r:Vals [x,y] us):∃u w',us=[u,w']/\RelV x u/\RelV y w':=by
 cases r with
 | cons r1 r2=>
  cases r2 with
  | cons r3 r4=>cases r4;exact⟨_,_,rfl,r1,r3⟩
def UC:xm X (.builtin "abs") (fun xs H Q=>∃i,xs=[.int i]/\Q (.int (if i<0 then-i else i)) H):=by
 intro pins s σ H xs us Q I r h;obtain⟨i,rfl,q⟩:=h;obtain⟨u,rfl,t,rfl⟩:=vals1 r;exact call_abs_int fun u tk=>⟨.int (if i<0 then-i else i),H,I.tok _,⟨_,rfl⟩,q⟩
def Ss(hc:X.calm=true):xm X (.builtin "max") (fun xs H Q=>∃i j,xs=[.int i,.int j]/\Q (.int (if j>i then j else i)) H):=by
 intro pins s σ H xs us Q I r h;obtain⟨i,j,rfl,q⟩:=h;obtain⟨u,w',rfl,⟨t,rfl⟩,⟨t',rfl⟩⟩:=vals2 r;refine max_two_ints (I.ok.hd hc) fun h' tk k=>⟨_,H,I.kept k,?_,q⟩;by_cases hj:j>i
 ·rw[if_pos hj,if_pos hj];exact⟨_,rfl⟩
 ·rw[if_neg hj,if_neg hj];exact⟨_,rfl⟩
def Su(hc:X.calm=true):xm X (.builtin "min") (fun xs H Q=>∃i j,xs=[.int i,.int j]/\Q (.int (if j<i then j else i)) H):=by
 intro pins s σ H xs us Q I r h;obtain⟨i,j,rfl,q⟩:=h;obtain⟨u,w',rfl,⟨t,rfl⟩,⟨t',rfl⟩⟩:=vals2 r;refine min_two_ints (I.ok.hd hc) fun h' tk k=>⟨_,H,I.kept k,?_,q⟩;by_cases hj:j<i
 ·rw[if_pos hj,if_pos hj];exact⟨_,rfl⟩
 ·rw[if_neg hj,if_neg hj];exact⟨_,rfl⟩
end
structure Pr(h:cy)(x dx C:aI)(mA:MG):Prop where
 obj:h.get? x=some (jP C dx)
 ns:h.Ns1 dx mA
 ne:dx≠x
def L4{h:cy}{mA:MG}(n:h.Ns1 dx mA):∃od,h.get? dx=some od/\∀name,qW name od=some (mA name):=by
 obtain⟨o,es,ep,ho,hd,hk,_,hm⟩:=n;refine⟨o,ho,fun name=>?_⟩;have e:=hm name;unfold nsFind findBy at e;rw[<-CP]at e;unfold qW;rw[hd];dsimp only;split
 ·rename_i y q;rw[q]at e;exact congrArg some e
 ·rename_i q;rw[q]at e;have a:es.toList.any (·.refKey)=false:=by
   rw[List.any_eq_false];intro y hy;obtain⟨z,t,a4W⟩:=hk y (AF.mp hy);simp[qw.refKey,a4W]
  have a':¬es.toList.any (·.refKey)=true:=by rw[a];exact bA
  rw[if_neg a'];exact congrArg some e
def Pr.look{x dx C:aI}{mA:MG}(I:Pr h x dx C mA):∃od,PySem.W.InstAt h x (jP C dx) C (some od)/\∀name,qW name od=some (mA name):=
 let⟨od,ho,hl⟩:=L4 I.ns
 ⟨od,⟨I.obj,rfl,rfl,ho⟩,hl⟩
section
variable {prog:bp}{w:cH}{A:dD}{E:aH->ai->Prop}{s:ai}{K:a9}{x dx C f:aI}{mA:cY->iF}{name:cY}{v:aH}
def get_map{expr:Bool}{Q:aH->ai->Prop}(X:K.In s.heap)(I:Pr s.heap x dx C mA)(hg:sA K C name=true)(hh:nG K C=true)
  (ha:jF K (.ref C) name=some none)(hv:mA name=some v)(hv':Fx v=true)(h:Q v {s with toks:=s.toks+1}):
  bO (c9 prog w) A (getAttr (.ref x) name expr) Q E s:=by
 obtain⟨od,J,hl⟩:=I.look;exact PySem.W.get_value X J (uE hg).1 (BB hh ha rfl (by rw[hl,hv])) hv' h
def UE{pl:GX Bool}{Q:aH×fk->ai->Prop}(X:K.In s.heap)(I:Pr s.heap x dx C mA)(hg:sA K C name=true)
  (hf:jF K (.ref C) name=some (some (.ref f)))(ht:yP K (.ref f)=true)(hv:mA name=none)(h:Q (.ref f,[.ref x]) s):
  bO (c9 prog w) A (mf (.ref x) name pl) Q E s:=by
 obtain⟨od,J,hl⟩:=I.look;exact PySem.W.method_fn X J (uE hg).1 (uE hg).2 hf (beq_iff_eq.mp ht) (by show(qW name od).map (·.isSome)=some false;rw[hl,hv];rfl) h
def X2{ns:bS}{Q:Unit->ai->Prop}(X:K.In s.heap)(I:Pr s.heap x dx C mA)
  (hs:jF K (.ref C) "__setattr__" =some (some (.builtin "object.__setattr__")))(hp:E9 K C=true)(ht:zw K C name=some none)(hh:nG K C=true)
  (hw:E8 mA ns)(hsz:ns.length<=bC)
  (h:∀h',Pr h' x dx C (fun y=>if y=name then some v else mA y)->uP dx s.heap h'->Q () {s with heap:=h',toks:=s.toks+2}):
  bO (c9 prog w) A (setAttr (.ref x) name v) Q E s:=by
 obtain⟨od,J,hl⟩:=I.look;refine Eb X J hs (PySem.W.osa_open (s:={s with toks:=s.toks+1}) (r:=none) X J hp ht fun b=>?_);obtain⟨cd,hc,Yt⟩:=PySem.W.any_some hh;have hx:s.heap.get? x=some ⟨.ref C,some dx,.plain, #[]⟩:=I.obj;refine ae (aG (ae (ae (AG hx (ae (PySem.W.Looks.here (s:={s with toks:=s.toks+1}) (PySem.W.looks_clsIn X hc) ?_))))));rw[Yt];refine aG (a:=some dx) (ae (aG (ae ?_)));refine wpAny_nsSet1 (s:={s with toks:=s.toks+1}) I.ns fun h' hn2 hs2=>?_;obtain⟨oD,esD,epD,hoD,hdD,hcD⟩:=hn2.count (E8.cons name v hw);refine ae (wpAny_lookBehind hoD (by rw[hdD];exact pastItsLine_dict (bq hcD (by rw[ah];omega))) ?_);exact aG (h _ ⟨(hs2.2 _ (g0 I.ne)).trans I.obj,hn2,I.ne⟩ hs2)
def UG{R:MZ->ai->Prop}{vs:fk}{kw:List (cY×aH)}(X:K.In s.heap)(hm:zy K C=true)
  (hi:jF K (.ref C) "__init__" =some (some (.ref f)))(hf:PySem.W.typeIn K (.ref f)=some (.type "function"))
  (h:sZ (c9 prog w) (A.under (.builtin "type.__call__" ⟨.ref C::vs,kw⟩)) (.call (.ref f) ⟨.ref (s.heap.objs.size+1)::vs,kw⟩) (PySem.W.InitBack (s.heap.objs.size+1) R)
   {s with heap:=(s.heap.push gV).push (jP C s.heap.objs.size)}):
  sZ (c9 prog w) A (.call (.ref C) ⟨vs,kw⟩) R s:=by
 obtain⟨hh,g,d,t,os⟩:=s;exact PySem.W.make_core (PySem.W.makes_of X hm) (PySem.W.looks_findIn X hi) (fun self=>PySem.W.bind_fn X self hf) (.inl rfl) h
end
def pO(f:cY)(v:V):nz->nz
 | []=>[(f,v)]
 | (g,x)::r=>if g=f then(g,v)::r else(g,x)::pO f v r
theorem FY(f g:cY)(v:V):∀fs:nz,(pO f v fs).lookup g=if g=f then some v else fs.lookup g
 | []=>by
  show my g [(f,v)]=_;by_cases h:g=f
  ·have hb:(g == f)=true:=beq_iff_eq.mpr h;simp only[my,hb,if_pos h]
  ·have hb:(g == f)=false:=beq_eq_false_iff_ne.mpr h;simp only[my,hb,if_neg h]
 | (k,x)::r=>by
  have ih:=FY f g v r;rw[show pO f v ((k,x)::r)=(if k=f then(k,v)::r else(k,x)::pO f v r)from rfl];by_cases hk:k=f
  ·rw[if_pos hk];by_cases h:g=k
   ·have hb:(g == k)=true:=beq_iff_eq.mpr h;simp only[my,hb,if_pos (h.trans hk)]
   ·have hb:(g == k)=false:=beq_eq_false_iff_ne.mpr h;simp only[my,hb,if_neg (fun e:g=f=>h (e.trans hk.symm))]
  ·rw[if_neg hk];by_cases h:g=k
   ·have hb:(g == k)=true:=beq_iff_eq.mpr h;simp only[my,hb,if_neg (fun e:g=f=>hk (h.symm.trans e))]
   ·have hb:(g == k)=false:=beq_eq_false_iff_ne.mpr h;simp only[my,hb];exact ih
theorem EL(f:cY)(v:V):∀fs:nz,f∈(pO f v fs).map (·.1)/\∀g,g∈fs.map (·.1)->g∈(pO f v fs).map (·.1)
 | []=>⟨by simp[pO],fun g h=>by simp at h⟩
 | (k,x)::r=>by
  obtain⟨i1,i2⟩:=EL f v r;rw[show pO f v ((k,x)::r)=(if k=f then(k,v)::r else(k,x)::pO f v r)from rfl];by_cases hk:k=f
  ·rw[if_pos hk];subst hk;exact⟨by simp,fun g h=>by simpa using h⟩
  ·rw[if_neg hk];refine⟨?_,fun g h=>?_⟩
   ·rw[cM];exact az _ i1
   ·rw[cM]at h ⊢;rcases bQ.mp h with e | e
    ·exact bQ.mpr (.inl e)
    ·exact az _ (i2 g e)
theorem A0(f:cY)(v:V):∀fs:nz,(pO f v fs).length<=fs.length+1
 | []=>by simp[pO]
 | (k,x)::r=>by
  have ih:=A0 f v r;rw[show pO f v ((k,x)::r)=(if k=f then(k,v)::r else(k,x)::pO f v r)from rfl];by_cases hk:k=f
  ·rw[if_pos hk,ah,ah];omega
  ·rw[if_neg hk,ah,ah];omega
def Ce.some_of{o:iF}(r:Ce (some v) o):∃u,o=some u/\RelV v u:=by
 cases o with
 | none=>exact(show False from r).elim
 | some u=>exact⟨u,rfl,r⟩
def Ce.none_of{o:iF}(r:Ce none o):o=none:=by
 cases o with
 | none=>rfl
 | some u=>exact(show False from r).elim
def Sv(r:RelV v u):Fx u=true:=by
 cases v with
 | fA=>cases(show u=ij from r);rfl
 | bl b=>cases(show u=aH.bool b from r);rfl
 | int i=>obtain⟨t,e⟩:=(show ∃t,u=uW i t from r);cases e;rfl
 | str x=>obtain⟨t,e⟩:=(show ∃t,u=Fv x t from r);cases e;rfl
 | TC b=>obtain⟨t,e⟩:=(show ∃t,u=aH.bytes b t from r);cases e;rfl
 | flt b=>obtain⟨t,e⟩:=(show ∃t,u=aH.float b t from r);cases e;rfl
 | ref a=>cases(show u=cj a from r);rfl
 | ty n=>cases(show u=aH.type n from r);rfl
section
variable {P:bp}{w:cH}{H H':Hp}{h h':cy}{a C dx:aI}{fs fs':nz}
def LX(hok:D1 P w H h)(e:H a=some (.ins C dx fs)):∃mA,Pr h a dx C mA/\(∀f,Ce (fs.lookup f) (mA f))/\E8 mA (fs.map (·.1))/\fs.length<=1000/\H dx=some (.own a):=by
 obtain⟨d,z,ne,ob,mA,n,r,q⟩:=(show jK P w H h a (.ins C dx fs)from hok a _ e);exact⟨mA,⟨ob,n,ne⟩,r,q,z,d⟩
end
structure N2(K:a9)(C:aI):Prop where
 pg:sA K C cY.empty=true
 hd:nG K C=true
 po:E9 K C=true
 sa:jF K (.ref C) "__setattr__" =some (some (.builtin "object.__setattr__"))
def N2.get{K:a9}(c:N2 K C)(f:cY):sA K C f=true:=c.pg
def rQ(K:a9)(C:aI)(f:cY):Prop:=jF K (.ref C) f=some none
def rQ.a1S{K:a9}(n:rQ K C f):zw K C f=some none:=by
 unfold zw;rw[show jF K (.ref C) f=some none from n];rfl
structure Meth(K:a9)(C:aI)(m:cY)(f:aI):Prop where
 at_:jF K (.ref C) m=some (some (.ref f))
 fn:yP K (.ref f)=true
 kp:i6 K (.ref f)=true
section
variable {X:Cx}{pins:List (aI×uC)}{σ:St}{H:Hp}{s:ai}{a C dx:aI}{fs:nz}{f:cY}{v:V}{A:dD}{E:aH->ai->Prop}
def Ia{b:Bool}{Q:aH->ai->Prop}(I:Inv X pins σ H s)(e:H a=some (.ins C dx fs))(c:N2 X.K C)(n:rQ X.K C f)(l:fs.lookup f=some v)
  (h:∀u s',Inv X pins σ H s'->RelV v u->Q u s'):bO (c9 X.prog X.w) A (getAttr (.ref a) f b) Q E s:=by
 obtain⟨mA,O,r,_,_,_⟩:=LX I.hok e;obtain⟨u,hu,ru⟩:=Ce.some_of (v:=v) (o:=mA f) (by rw[<-l];exact r f);exact get_map I.BU O (c.get f) c.hd n hu (Sv ru) (h u _ (I.tok _) ru)
def Ib{m:cY}{g:aI}{pl:GX Bool}{Q:aH×fk->ai->Prop}(I:Inv X pins σ H s)(e:H a=some (.ins C dx fs))(c:N2 X.K C)(k:Meth X.K C m g)(l:fs.lookup m=none)
  (h:Q (.ref g,[.ref a]) s):bO (c9 X.prog X.w) A (mf (.ref a) m pl) Q E s:=by
 obtain⟨mA,O,r,_,_,_⟩:=LX I.hok e;have hn:mA m=none:=Ce.none_of (by rw[<-l];exact r m);exact UE I.BU O (c.get m) k.at_ k.fn hn h
def Ic{Q:Unit->ai->Prop}(I:Inv X pins σ H s)(e:H a=some (.ins C dx fs))(c:N2 X.K C)(n:rQ X.K C f)(hl:fs.length<1000)(ry:RelV y u)
  (h:∀s',Inv X pins σ (upd H a (.ins C dx (pO f y fs))) s'->Q () s'):bO (c9 X.prog X.w) A (setAttr (.ref a) f u) Q E s:=by
 obtain⟨mA,O,r,wi,_,ho⟩:=LX I.hok e;have hz:(fs.map (·.1)).length<=bC:=by rw[aa,AE];omega
 refine X2 I.BU O c.sa c.po n.a1S c.hd wi hz fun h' O' sb=>h _ ?_;have hd:∃o,h'.get? dx=some o:=let⟨o,_,_,e',_⟩:=O'.ns;⟨o,e'⟩;refine I.write (x:=a) (e:=dx) (by rw[e];exact yQ) (.inr ho) (fun b q hb z=>(sb.2 b hb).trans z) hd ?_;refine⟨by rw[aL O.ne];exact ho,?_,O.ne,O'.obj,_,O'.ns,fun g=>?_,fun g hg=>?_⟩
 ·have:=A0 f y fs;omega
 ·show Ce ((pO f y fs).lookup g) (if g=f then some u else mA g);rw[FY];by_cases q:g=f
  ·rw[if_pos q,if_pos q];exact ry
  ·rw[if_neg q,if_neg q];exact r g
 ·by_cases q:g=f
  ·rw[q];exact(EL f y fs).1
  ·refine(EL f y fs).2 g (wi g fun z=>hg ?_);show(if g=f then some u else mA g)=none;rw[if_neg q];exact z
def Inv.made(I:Inv X pins σ H s):Inv X pins σ (upd (upd H s.heap.objs.size (.own (s.heap.objs.size+1))) (s.heap.objs.size+1) (.ins C s.heap.objs.size []))
  {s with heap:=(s.heap.push gV).push (jP C s.heap.objs.size)}:=by
 have e1:(s.heap.push gV).get? s.heap.objs.size=some gV:=bI s.heap rfl;have e2:((s.heap.push gV).push (jP C s.heap.objs.size)).get? (s.heap.objs.size+1)=some (jP C s.heap.objs.size):=by
  have:=bI (s.heap.push gV) (o:=jP C s.heap.objs.size) rfl;rwa[dh]at this
 have e3:(s.heap.push gV).Ns s.heap.objs.size (fun _=>none):=⟨gV, #[],_,e1,rfl,(fun e he=>absurd he (!1)),fun _=>rfl⟩;have I1:=I.laid (a:=s.heap.objs.size) (o:=.own (s.heap.objs.size+1)) (h':=s.heap.push gV) (t':=s.toks) (fun b u q=>af _ q) (ao _) ⟨_,e1⟩;refine I1.laid (a:=s.heap.objs.size+1) (o:=.ins C s.heap.objs.size []) (t':=s.toks) (fun b u q=>af _ q) (uQ (dh _ _)) ?_;have ne:s.heap.objs.size≠s.heap.objs.size+1:=cC (sq _);refine⟨by rw[aL ne,aU],gW _,ne,e2,fun _=>none,(Ec e3).at fun o q=>af _ q,fun _=>yQ,fun y hy=>absurd rfl hy⟩
def QU{Q:aH->ai->Prop}(hb:pj e f env (fX e env)=fX e env)
  (h:bO (c9 prog w) A (fX e env) (fun o s₁=>bO (c9 prog w) A (getAttr o f true) Q E s₁) E s):bO (c9 prog w) A (fX (.Attribute e f pos) env) Q E s:=
 Attribute_any_ h (by rw[arm_eval_Attribute,hb])
end
def a3G(K:a9)(ta:TE)(f:cY):TE:=fun σ H Q=>ta σ H fun x H1=>∃a C dx fs v,x= .ref a/\H1 a=some (.ins C dx fs)/\N2 K C/\rQ K C f/\fs.lookup f=some v/\Q v H1
def a3H(K:a9)(ta tv:TE)(f:cY):TS:=fun D σ H=>tv σ H fun y H1=>ta σ H1 fun x H2=>∃a C dx fs,x= .ref a/\H2 a=some (.ins C dx fs)/\N2 K C/\rQ K C f/\fs.length<1000/\
 D.nx σ (upd H2 a (.ins C dx (pO f y fs)))
def a1T(X:Cx)(op:JK)(rd:V->V->Hp->VK->Prop):Prop:=
 ∀(pins:Pn) (s:ai) (σ:St) (H:Hp) (x y:V) (u v:aH) (Q:VK),Inv X pins σ H s->RelV x u->RelV y v->rd x y H Q->wj X (inplaceOp op u v) (EP X pins σ Q) X.xe s
def X3(K:a9)(ta tv:TE)(rd:V->V->Hp->VK->Prop)(f:cY):TS:=fun D σ H=>ta σ H fun x H1=>∃a C dx fs v,x= .ref a/\H1 a=some (.ins C dx fs)/\N2 K C/\rQ K C f/\fs.lookup f=some v/\
 tv σ H1 fun y H2=>rd v y H2 fun z H3=>∃dx' fs',H3 a=some (.ins C dx' fs')/\fs'.length<1000/\D.nx σ (upd H3 a (.ins C dx' (pO f z fs')))
section
variable {X:Cx}{o e oM:du}{f:cY}{pos rk Fq:mH}{ta tv:TE}
def LY(he:PE X e ta)(hb:Uk X e f):PE X (.Attribute e f pos) (a3G X.K ta f):=by
 intro pins s σ H Q I h;refine QU hb (lh (he pins s σ H _ I h) ?_);rintro u s1 ⟨x,H1,I1,rx,a,C,dx,fs,v,ex,ea,c,n,l,q⟩;subst ex;obtain rfl:u=cj a:=rx;exact Ia I1 ea c n l fun u' s2 I2 ru=>⟨v,H1,I2,ru,q⟩
def ve(ha:PE X o ta)(hv:PE X oM tv)(hs:dj oM (some (.Attribute o f rk)) pos.line X.env=pure false):PS X (.Assign [.Attribute o f rk] oM pos) (a3H X.K ta tv f):=by
 intro pins s σ H D I h;refine rl (lh (hv pins s σ H _ I h) fun u s1 ⟨y,H1,I1,ry,q⟩=>lh (ha pins s1 σ H1 _ I1 q) ?_) hs;rintro ov s2 ⟨x,H2,I2,rx,a,C,dx,fs,ex,ea,c,n,l,q2⟩;subst ex;obtain rfl:ov=cj a:=rx;exact Ic I2 ea c n l ry fun s3 I3=>⟨σ,_,I3,q2⟩
def Sw{op:JK}{rd:V->V->Hp->VK->Prop}(ha:PE X o ta)(hv:PE X oM tv)(hop:a1T X op rd):PS X (.AugAssign (.Attribute o f Fq) op oM pos) (X3 X.K ta tv rd f):=by
 intro pins s σ H D I h;refine wpAny_AugAssign_AttributeAny (lh (ha pins s σ H _ I h) ?_);rintro ov s1 ⟨x,H1,I1,rx,a,C,dx,fs,v,ex,ea,c,n,l,q⟩;subst ex;obtain rfl:ov=cj a:=rx;refine Ia I1 ea c n l fun u s2 I2 ru=>lh (hv pins s2 σ H1 _ I2 q) fun w3 s3 ⟨y,H2,I3,ry,q3⟩=>lh (hop pins s3 σ H2 v y u w3 _ I3 ru ry q3) ?_;rintro w4 s4 ⟨z,H3,I4,rz,dx',fs',ea',l',q4⟩;exact Ic I4 ea' c n l' rz fun s5 I5=>⟨σ,_,I5,q4⟩
def a3I:V->V->Hp->VK->Prop:=fun x y H Q=>∃i j,x= .int i/\y= .int j/\Q (.int (i+j)) H
def a03:a1T X .Add a3I:=by
 rintro pins s σ H x y u v Q I rx ry ⟨i,j,rfl,rfl,q⟩;obtain⟨t,rfl⟩:=(show ∃t,u=uW i t from rx);obtain⟨t',rfl⟩:=(show ∃t',v=uW j t' from ry);exact PyProof.Rows.iadd_int ⟨.int (i+j),H,I.tok _,⟨_,rfl⟩,q⟩
end
structure fZ(k:Nat)(A:dD):Prop where
 hd:A.handled=none
 dp:A.depth+3*k+5<recursionLimit
 un:A.units+16*k+200<Ed
def fZ.mono{j k:Nat}(r:fZ k A)(h:j<=k):fZ j A:=⟨r.hd,by have:=r.dp;omega,by have:=r.un;omega⟩
def fZ.m{j k:Nat}(r:fZ k A)(h:j<=k:=by decide):fZ j A:=r.mono h
def fZ.deeper{k:Nat}{A:dD}(r:fZ (k+1) A)(env:Env):fZ k (A.deeper env):=
 ⟨r.hd,by have:=r.dp;show A.depth+1+3*k+5<_;omega,by have:=r.un;show A.units+3+16*k+200<_;omega⟩
def Pt{A:dD}{us:fk}{kw:List (cY×aH)}:(A.under (.builtin "type.__call__" ⟨.ref C::us,kw⟩)).depth=A.depth+1:=by
 first | rfl | simp[Ee,Code.weight,Code.isCreation,Code.isGuard,Code.isCaller,Code.frames,Ef,guardIds]
def Pu{A:dD}{us:fk}{kw:List (cY×aH)}:(A.under (.builtin "type.__call__" ⟨.ref C::us,kw⟩)).units=A.units+1:=by
 first | rfl | simp[Ee,Code.cUnits,Code.frames,Ef]
def fZ.make{k:Nat}{A:dD}(r:fZ (k+1) A)(C:aI)(us:fk)(kw:List (cY×aH)):fZ k (A.under (.builtin "type.__call__" ⟨.ref C::us,kw⟩)):=
 ⟨r.hd,by have:=r.dp;rw[Pt];omega,by have:=r.un;rw[Pu];omega⟩
def fZ.depth{k:Nat}{A:dD}(r:fZ k A):A.depth<recursionLimit:=by have:=r.dp;omega
def fZ.units{k:Nat}{A:dD}(r:fZ k A):A.units+64<Ed:=by have:=r.un;omega
def NH:TA:=fun _ H Q=>Q [] H
def Ie(ta:TE)(tr:TA):TA:=fun σ H Q=>ta σ H fun x H1=>tr σ H1 fun xs H2=>Q (x::xs) H2
section
variable {X:Cx}{e:du}{es:jT}{te:TE}{t:TA}{pos:mH}
def nh:PA X [] NH:=fun _ _ _ _ H Q I h=>wG ⟨[],H,I,.nil,h⟩
def iz(ha:PE X e te)(hr:PA X es t)(hs:SE X e es:=by rfl):PA X (e::es) (Ie te t):=by
 intro pos pins s σ H Q I h;rw[hs];show bO _ _ (spliced ((false,fX e X.env)::nt pos (dM es X.env))) _ _ s;refine pW (lh (ha pins s σ H _ I h) ?_);rintro u s1 ⟨x,H1,I1,r1,q1⟩;exact lh (hr pos pins s1 σ H1 _ I1 q1) fun us s2 ⟨xs,H2,I2,r2,q2⟩=>⟨x::xs,H2,I2,.cons r1 r2,q2⟩
def a3J(t:TA):TE:=fun σ H Q=>t σ H fun xs H1=>xs.length<=bC/\∀p,H1 p=none->Q (.ref p) (upd H1 p (.tup xs))
def X4(t:TA):TE:=fun σ H Q=>t σ H fun xs H1=>xs.length<=bC/\∀p,H1 p=none->Q (.ref p) (upd H1 p (.lst xs))
def a04{x1}(h:PA X es t):PE X (.Tuple es x1 pos) (a3J t):=by
 intro pins s σ H Q I hq;refine wpAny_Tuple_spliced (lh (h pos pins s σ H _ I hq) fun us s1 ⟨xs,H1,I1,r,z,q⟩=>⟨by rw[<-r.length];exact z,?_⟩);have hf:H1 s1.heap.objs.size=none:=I1.hok.fresh (ao _);refine⟨.ref s1.heap.objs.size,upd H1 s1.heap.objs.size (.tup xs),I1.laid (t':=s1.toks) (fun b u e=>af _ e) (ao _) ?_,rfl,q _ hf⟩;exact⟨z,us,r,⟨_,bI _ rfl,rfl,_,rfl⟩⟩
def vf(h:PA X es t):PE X (.List es pos) (X4 t):=by
 intro pins s σ H Q I hq;refine wpAny_List_spliced (lh (h pos pins s σ H _ I hq) fun us s1 ⟨xs,H1,I1,r,z,q⟩=>⟨by rw[<-r.length];exact z,?_⟩);have hf:H1 s1.heap.objs.size=none:=I1.hok.fresh (ao _);refine⟨.ref s1.heap.objs.size,upd H1 s1.heap.objs.size (.lst xs),I1.laid (t':=s1.toks) (fun b u e=>af _ e) (ao _) ?_,rfl,q _ hf⟩;exact⟨z,us,0,r,bI _ rfl⟩
end
abbrev Sp:=cV->Hp->VK->XK->Prop
abbrev NI:=iC->Hp->ai->XK->aH->ai->Prop
structure Pw(P:bp)(w:cH)(K:a9)(mg:MG)(base:cy)(A:dD)(outer:iC)(s:ai)(H:Hp):Prop where
 frames:A.frames=some outer
 mod:Mod K mg base
 bs:∀b o,base.get? b=some o->s.heap.get? b=some o/\H b=none
 Si:base.objs.size<=s.heap.objs.size
 Bq:s.heap.FunFrames base outer
 WE:∀b∈frs outer,H b=none
 hok:D1 P w H s.heap
 bare:yM s.gens
def CE(outer:iC)(P:bp)(w:cH)(H:Hp)(s:ai)(Q:VK)(u:aH)(s':ai):Prop:=
 ∃v H',s'.os=s.os/\yM s'.gens/\Un (frs outer) [] H H' s.heap s'.heap/\D1 P w H' s'.heap/\RelV v u/\Q v H'
def CR(CX:NI)(outer:iC)(P:bp)(w:cH)(H:Hp)(s:ai)(Q:VK)(E:XK)(r:MZ)(s':ai):Prop:=
 match r with
 | .ok (.ret u)=>CE outer P w H s Q u s'
 | .ok _=>False
 | .error e=>CX outer H s E e s'
structure mq(P:bp)(w:cH)(K:a9)(mg:MG)(base:cy)(CX:NI)(k:Nat)(f:aI)(fd:iL)(ps:bS)(sp:Sp):Prop where
 len:∀vs H Q E,sp vs H Q E->vs.length=ps.length
 run:∀(A:dD) (outer:iC) (s:ai) (H:Hp) (args:Args) (us:fk) (vs:cV) (Q:VK) (E:XK),fZ k A->Pw P w K mg base A outer s H->Hv s fd args (ps.zip us)->Vals vs us->sp vs H Q E->
  sZ (c9 P w) A (.call (.ref f) args) (CR CX outer P w H s Q E) s
def mq.imp{K:a9}{mg:MG}{k:Nat}{ps:bS}{sp sp':Sp}(F:mq P w K mg base CX k f fd ps sp)
  (h:∀vs H Q E,sp' vs H Q E->sp vs H Q E):mq P w K mg base CX k f fd ps sp':=
 ⟨fun vs H Q E q=>F.len vs H Q E (h _ _ _ _ q),fun A outer s H args us vs Q E hr he hb hv hs=>F.run A outer s H args us vs Q E hr he hb hv (h _ _ _ _ hs)⟩
def Pw.make{K:a9}{mg:MG}{A:dD}{outer:iC}(e:Pw P w K mg base A outer s H)(C:aI)(us:fk)(kw:List (cY×aH)):
  Pw P w K mg base (A.under (.builtin "type.__call__" ⟨.ref C::us,kw⟩)) outer s H:=⟨by first | exact e.frames | (simpa[Ee,Code.envs,Ef,pushEnvs]using e.frames),e.mod,e.bs,e.Si,e.Bq,e.WE,e.hok,e.bare⟩
section
variable {X:Cx}{pins:List (aI×uC)}{σ:St}{H:Hp}{s s':ai}
def Inv.a05(I:Inv X pins σ H s):Pw X.prog X.w X.K X.mg X.base X.A X.stack s H:=
 ⟨I.ok.frames,I.ok.mod,I.bs,bq I.ok.Si I.sz,I.stack,I.LU,I.hok,I.bare⟩
def Inv.after{Q:VK}(I:Inv X pins σ H s)(h:CE X.stack X.prog X.w H s Q u s'):EP X pins σ Q u s':=by
 obtain⟨v,H',os,bare,un,hok,r,q⟩:=h;obtain⟨hh,g,d,t,os'⟩:=s';obtain rfl:os'=s.os:=os;exact⟨v,H',I.call (h':=hh) (g':=g) (d':=d) (t':=t) (ch:=[]) un hok bare (fun b z=>absurd z (!1)),r,q⟩
end
def UH(sp:Sp)(Ig:cV)(E:XK)(t:TA):TE:=fun σ H Q=>t σ H fun vs H1=>sp (vs++Ig) H1 Q E
def QV(C:aI)(m:cY)(sp:Sp)(Ig:cV)(E:XK)(ta:TE)(t:TA):TE:=fun σ H Q=>ta σ H fun x H1=>∃a dx fs,x= .ref a/\H1 a=some (.ins C dx fs)/\fs.lookup m=none/\
 t σ H1 fun vs H2=>sp (x::(vs++Ig)) H2 Q E
def YR(C:aI)(sp:Sp)(Ig:cV)(E:XK)(t:TA):TE:=fun σ H Q=>t σ H fun vs H1=>∀x dx,H1 x=none->H1 dx=none->dx≠x->
 sp (.ref x::(vs++Ig)) (upd (upd H1 dx (.own x)) x (.ins C dx [])) (fun v H2=>v= .fA/\Q (.ref x) H2) E
def Binds(K:a9)(fd:iL)(ps:bS)(ds:fk):Prop:=
 ∀(s:ai) (us:fk),K.In s.heap->(us++ds).length=ps.length->Hv s fd ⟨us,[]⟩ (ps.zip (us++ds))
def Binds.all{K:a9}{ps:bS}(h:∀us:fk,us.length=ps.length->xE fd ⟨us,[]⟩=pure (ps.zip us)):Binds K fd ps []:=fun s us _ hl=>by
 rw[dC]at hl ⊢;exact .of_eq (h us hl)
def Passes(CX:NI)(X:Cx)(E:XK):Prop:=∀(pins:Pn) (σ:St) (H:Hp) (s:ai) (e:aH) (s':ai),Inv X pins σ H s->CX X.stack H s E e s'->X.xe e s'
section
variable {X:Cx}{CX:NI}{k:Nat}{f C:aI}{fd:iL}{ps:bS}{sp:Sp}{Ig:cV}{ds:fk}{E:XK}{x m:cY}{p pos apos:mH}{e o:du}{es:jT}{ta:TE}{t:TA}
def Ih{pins:Pn}{Q:VK}{us:fk}{vs:cV}(F:mq X.prog X.w X.K X.mg X.base CX k f fd ps sp)(hr:fZ k X.A)(hb:Binds X.K fd ps ds)(hd:Vals Ig ds)(hx:Passes CX X E)
  (I:Inv X pins σ H s)(r:Vals vs us)(h:sp (vs++Ig) H Q E):wj X (call (.ref f) us) (EP X pins σ Q) X.xe s:=by
 have r2:Vals (vs++Ig) (us++ds):=r.append hd;have hl:(us++ds).length=ps.length:=by rw[<-r2.length];exact F.len _ _ _ _ h
 refine sC (qX (F.run X.A X.stack s H ⟨us,[]⟩ (us++ds) (vs++Ig) Q E hr I.a05 (hb s us I.BU hl) r2 h) fun r s' hq=>?_)
 cases r with
 | error e=>exact hx pins σ H s e s' I hq
 | ok fl=>
  cases fl with
  | ret u=>exact I.after hq
  | next=>exact gN hq
  | brk=>exact gN hq
  | cont=>exact gN hq
def QW(F:mq X.prog X.w X.K X.mg X.base CX k f fd ps sp)(hr:fZ k X.A)(hg:Gl X x)(hm:X.mg x=some (.ref f))(hk:i6 X.K (.ref f)=true)(hb:Binds X.K fd ps ds)(hd:Vals Ig ds)(hx:Passes CX X E)
  (ha:PA X (e::es) t)(xg:(x == ("__debug__":cY))=false:=by decide)(he:SE X e es:=by rfl)(hpl:ya X pos es:=by rfl):
  PE X (.Call (.Name x p) (e::es) [] pos) (UH sp Ig E t):=by
 intro pins s σ H Q I h;refine gA (wk I hg hm ?_ xg);refine kC (h₀:=X.base) I.ok.mod.WU hk (lh (ha pos pins s σ H _ I h) fun us s1 ⟨vs,H1,I1,r,q⟩=>⟨I1.BU,?_⟩) he hpl;exact Ih F hr hb hd hx I1 r q
def Hh{pl:GX Bool}(he:PE X o ta)(c:N2 X.K C)(hm:Meth X.K C m f)(F:mq X.prog X.w X.K X.mg X.base CX k f fd ps sp)(hr:fZ k X.A)(hb:Binds X.K fd ps ds)(hd:Vals Ig ds)(hx:Passes CX X E)(ha:PA X (e::es) t)
  (vU:SE X e es:=by rfl)(hpl:ya X pos es:=by rfl)
  (ht:fX (.Call (.Attribute o m apos) (e::es) [] pos) X.env=(do
   let ov <-fX o X.env
   oH apos.atName
   let(f,first) <-kh [ov] (mf ov m pl)
   pk pos f first (nt pos (dM (e::es) X.env)) (mS pos (iX [] X.env))):=by rfl):
  PE X (.Call (.Attribute o m apos) (e::es) [] pos) (QV C m sp Ig E ta t):=by
 intro pins s σ H Q I h;refine nu (pl:=pl) (lh (he pins s σ H _ I h) ?_) ht;rintro u s1 ⟨x,H1,I1,rx,a,dx,fs,ex,ea,l,q⟩;subst ex;obtain rfl:u=cj a:=rx;refine Ib I1 ea c hm l ?_;refine kC (first:=[.ref a]) (h₀:=X.base) I.ok.mod.WU hm.kp (lh (ha pos pins s1 σ H1 _ I1 q) fun us s2 ⟨vs,H2,I2,r,q2⟩=>⟨I2.BU,?_⟩) vU hpl;exact Ih (us:=.ref a::us) (vs:=.ref a::vs) F hr hb hd hx I2 (.cons rfl r) q2
def NJ{pl:GX Bool}(he:PE X o ta)(c:N2 X.K C)(hm:Meth X.K C m f)(F:mq X.prog X.w X.K X.mg X.base CX k f fd ps sp)(hr:fZ k X.A)(hb:Binds X.K fd ps ds)(hd:Vals Ig ds)(hx:Passes CX X E)
  (ht:fX (.Call (.Attribute o m apos) [] [] pos) X.env=(do
   let ov <-fX o X.env
   oH apos.atName
   let(f,first) <-kh [ov] (mf ov m pl)
   pk pos f first (nt pos (dM [] X.env)) (mS pos (iX [] X.env))):=by rfl):
  PE X (.Call (.Attribute o m apos) [] [] pos) (QV C m sp Ig E ta NH):=by
 intro pins s σ H Q I h;refine nu (pl:=pl) (lh (he pins s σ H _ I h) ?_) ht;rintro u s1 ⟨x,H1,I1,rx,a,dx,fs,ex,ea,l,q⟩;subst ex;obtain rfl:u=cj a:=rx;refine Ib I1 ea c hm l ?_;exact uF (first:=[.ref a]) I1.BU hm.kp (Ih (us:=[.ref a]) (vs:=[.ref a]) F hr hb hd hx I1 (.cons rfl .nil) q)
structure Mk(K:a9)(C f:aI):Prop where
 makes:zy K C=true
 init:jF K (.ref C) "__init__" =some (some (.ref f))
 fn:yP K (.ref f)=true
 kp:i6 K (.ref C)=true
def NK{pins:Pn}{H:Hp}{Q:VK}{us:fk}{vs:cV}(M:Mk X.K C f)(F:mq X.prog X.w X.K X.mg X.base CX k f fd ps sp)(hr:fZ (k+1) X.A)(hb:Binds X.K fd ps ds)(hd:Vals Ig ds)
  (hx:Passes CX X E)(I:Inv X pins σ H s)(r:Vals vs us)
  (h:∀x dx,H x=none->H dx=none->dx≠x->sp (.ref x::(vs++Ig)) (upd (upd H dx (.own x)) x (.ins C dx [])) (fun v H2=>v= .fA/\Q (.ref x) H2) E):
  wj X (call (.ref C) us) (EP X pins σ Q) X.xe s:=by
 have hq:=h (s.heap.objs.size+1) s.heap.objs.size (I.hok.fresh (qt _)) (I.hok.fresh (ao _)) (cC (sq _));have I2:=Inv.made (C:=C) I;have r2:Vals (V.ref (s.heap.objs.size+1)::(vs++Ig)) (cj (s.heap.objs.size+1)::(us++ds)):=.cons rfl (r.append hd);have hl:(cj (s.heap.objs.size+1)::us++ds).length=ps.length:=by
  have e:=r2.length;rw[F.len _ _ _ _ hq]at e;exact e.symm
 refine sC (UG (f:=f) I.BU M.makes M.init (beq_iff_eq.mp M.fn) (qX (F.run _ X.stack _ _ ⟨cj (s.heap.objs.size+1)::us,[]⟩ (cj (s.heap.objs.size+1)::(us++ds)) _ _ E (hr.make C us [])
  (I2.a05.make C us []) (hb _ (cj (s.heap.objs.size+1)::us) I2.BU hl) r2 hq) fun r s' Ht=>?_))
 cases r with
 | error e=>exact hx pins σ _ _ e s' I2 Ht
 | ok fl=>
  cases fl with
  | ret u=>
   obtain⟨v,H',I3,rv,ev,q3⟩:=I2.after Ht;subst ev;exact⟨rv,⟨V.ref (s.heap.objs.size+1),H',I3,rfl,q3⟩⟩
  | next=>exact gN Ht
  | brk=>exact gN Ht
  | cont=>exact gN Ht
def LZ(M:Mk X.K C f)(F:mq X.prog X.w X.K X.mg X.base CX k f fd ps sp)(hr:fZ (k+1) X.A)(hg:Gl X x)(hm:X.mg x=some (.ref C))(hb:Binds X.K fd ps ds)(hd:Vals Ig ds)(hx:Passes CX X E)
  (ha:PA X (e::es) t)(xg:(x == ("__debug__":cY))=false:=by decide)(he:SE X e es:=by rfl)(hpl:ya X pos es:=by rfl):
  PE X (.Call (.Name x p) (e::es) [] pos) (YR C sp Ig E t):=by
 intro pins s σ H Q I h;refine gA (wk I hg hm ?_ xg);refine kC (h₀:=X.base) I.ok.mod.WU M.kp (lh (ha pos pins s σ H _ I h) fun us s1 ⟨vs,H1,I1,r,q⟩=>⟨I1.BU,?_⟩) he hpl;exact NK M F hr hb hd hx I1 r q
def UI(M:Mk X.K C f)(F:mq X.prog X.w X.K X.mg X.base CX k f fd ps sp)(hr:fZ (k+1) X.A)(hg:Gl X x)(hm:X.mg x=some (.ref C))(hb:Binds X.K fd ps ds)(hd:Vals Ig ds)(hx:Passes CX X E)
  (xg:(x == ("__debug__":cY))=false:=by decide):PE X (.Call (.Name x p) [] [] pos) (YR C sp Ig E NH):=by
 intro pins s σ H Q I h;refine gA (wk I hg hm ?_ xg);exact uF I.BU M.kp (NK (us:=[]) M F hr hb hd hx I .nil h)
end
structure ba(N P:bS)(sc:jV):Prop where
 kind:sc.kind= .function
 co:sc.isCoroutine=false
 gen:sc.isGenerator=false
 nd:N.Nodup
 pre:N.take P.length=P
 par:∀x∈P,sc.names.lookup x=some .local\/sc.names.lookup x=some .cell
 a06:∀y∈sc.names,y.2≠ .free
def sk{N P:bS}{sc:jV}(h:sc.kind= .function/\sc.isCoroutine=false/\sc.isGenerator=false/\N.Nodup/\N.take P.length=P/\(∀x∈P,sc.names.lookup x=some .local\/sc.names.lookup x=some .cell)/\∀y∈sc.names,y.2≠ .free:=by decide+kernel):ba N P sc:=⟨h.1,h.2.1,h.2.2.1,h.2.2.2.1,h.2.2.2.2.1,h.2.2.2.2.2.1,h.2.2.2.2.2.2⟩
theorem L5{sD:cY->Option kE}:∀{binds:List (cY×aH)} {m:MG},(∀v,(x,v)∉binds)->JL sD binds m x=m x
 | [],_,_=>rfl
 | (n,v)::r,m,h=>by
  unfold JL;rw[L5 fun w hw=>h w (az _ hw)];split
  ·have:x≠n:=by rintro rfl;exact h v aQ
   simp[this]
  ·rfl
theorem L6{sD:cY->Option kE}:∀{binds:List (cY×aH)} {m:MG},(∀v,(x,v)∉binds)->JM sD binds m x=m x
 | [],_,_=>rfl
 | (n,v)::r,m,h=>by
  unfold JM;rw[L6 fun w hw=>h w (az _ hw)];split
  ·rfl
  ·have:x≠n:=by rintro rfl;exact h v aQ
   simp[this]
theorem L7{sD:cY->Option kE}:∀{P:bS} {vs:fk} {i:Nat} {m:MG},P.Nodup->P[i]? =some x->vs[i]? =some v->sD x=some .local->
  JL sD (P.zip vs) m x=some v
 | [],_,_,_,_,h,_,_=>by simp at h
 | _::_,[],_,_,_,_,h,_=>by simp at h
 | p::P,w::vs,0,m,nd,h1,h2,hk=>by
  simp at h1 h2;subst h1;subst h2;show JL sD ((p,w)::P.zip vs) m p=_;unfold JL;rw[L5 fun v hv=>(eO.mp nd).1 (cn hv).1,if_pos hk];simp
 | p::P,w::vs,i+1,m,nd,h1,h2,hk=>by
  show JL sD ((p,w)::P.zip vs) m x=_;unfold JL;exact L7 (i:=i) (eO.mp nd).2 (by simpa using h1) (by simpa using h2) hk
theorem L8{sD:cY->Option kE}:∀{P:bS} {vs:fk} {i:Nat} {m:MG},P.Nodup->P[i]? =some x->vs[i]? =some v->sD x≠some .local->
  JM sD (P.zip vs) m x=some v
 | [],_,_,_,_,h,_,_=>by simp at h
 | _::_,[],_,_,_,_,h,_=>by simp at h
 | p::P,w::vs,0,m,nd,h1,h2,hk=>by
  simp at h1 h2;subst h1;subst h2;show JM sD ((p,w)::P.zip vs) m p=_;unfold JM;rw[L6 fun v hv=>(eO.mp nd).1 (cn hv).1,if_neg hk];simp
 | p::P,w::vs,i+1,m,nd,h1,h2,hk=>by
  show JM sD ((p,w)::P.zip vs) m x=_;unfold JM;exact L8 (i:=i) (eO.mp nd).2 (by simpa using h1) (by simpa using h2) hk
def start(N:bS)(vs:cV):St:=vs.map some++aY (N.length-vs.length) none
def vW(CX:NI)(P:bp)(w:cH)(K:a9)(mg:MG)(base:cy)(N:bS)(fO:cY)(scope:jV)(f:aI)(cd:aH)(A:dD)(outer:iC)(s:ai)(H:Hp)(E:XK):Cx where
 prog:=P
 w:=w
 K:=K
 mg:=mg
 base:=base
 A:=A.deeper (jQ fO scope s.heap.objs.size f cd)
 N:=N
 GC:=s
 H_0:=H
 env:=jQ fO scope s.heap.objs.size f cd
 outer:=outer
 stack:=jQ fO scope s.heap.objs.size f cd::outer
 ex:=[]
 calm:=true
 fn:=fun _=>true
 pn:=[]
 xe:=fun e s'=>bO (c9 P w) (A.deeper (jQ fO scope s.heap.objs.size f cd)) (leaving (jQ fO scope s.heap.objs.size f cd) e) (fun _ s''=>CX outer H s E e s'') (fun e' s''=>CX outer H s E e' s'') s'
def NL{sc:jV}{n:Nat}(h:sc.names.lookup x=some .cell):∃c,(gh n sc.names []).lookup x=some c:=by
 have q:=yR sc.names n [] (.inl h);exact dZ.mp q
def Sx{K:a9}{mg:MG}{N ps:bS}{scope:jV}{A:dD}{outer:iC}{s s1:ai}{us:fk}{vs:cV}
  (S:ba N ps scope)(hd:A.handled=none)(e0:Pw P w K mg base A outer s H)(hl:vs.length=ps.length)(r:Vals vs us)
  (x:InCallC s s.heap.objs.size (JL (jQ fO scope s.heap.objs.size f cd).kindOf (ps.zip us) fun _=>none) (gh (s.heap.objs.size+1) scope.names []) (JM (jQ fO scope s.heap.objs.size f cd).kindOf (ps.zip us) fun _=>none) s1):
  Inv (vW CX P w K mg base N fO scope f cd A outer s H E) [] (start N vs) H s1:=by
 have hpl:ps.length<=N.length:=by have:=congrArg oa S.pre;rw[fY]at this;omega
 obtain⟨h1,tk,rfl,hk⟩:=x.done;have YS:∀b:aI,b∉(vW CX P w K mg base N fO scope f cd A outer s H E).ex:=fun b z=>absurd (show b∈([]:kL)from z) (!1);refine⟨⟨e0.mod,S.kind,rfl,rfl,ao _,fun y z c h1 h2=>?_,fun y hy=>?_,fun y c _ h=>?_,fun _=>hd,dD.frames_deeper e0.frames,.inr ⟨rfl,rfl⟩,fun b z=>absurd z (YS b),e0.bs,e0.Si,fun b _ _=>YS b,fun b z=>absurd z (YS b),e0.Bq,e0.WE⟩,
  rfl,e0.bare,Un.kept hk,⟨_,x.toInCall.ns,fun i y v h1 h2 h3=>?_⟩,fun y c h=>⟨_,x.cell y c h⟩,e0.hok.fresh (ao _),fun y c h=>?_,fun p hp=>absurd (show p∈([]:Pn)from hp) (!1),e0.hok.kept hk,?_⟩
 ·exact name_of_addr x.apart (cK h1) (cK h2)
 ·have hy:scope.names.lookup y=some .cell\/scope.names.lookup y=some .free:=hy;rcases hy with hy | hy
  ·exact NL hy
  ·exact absurd rfl (S.a06 _ (cK hy))
 ·exact kg (x.above y c (cK h))
 ·have hi:i<vs.length:=by
   unfold start at h2;by_cases hi:i<vs.length
   ·exact hi
   ·rw[cF (by simpa using hi)]at h2;rw[iw]at h2
    split at h2<;>cases h2
  have ha:vs[i]? =some v:=by
   unfold start at h2;rw[bZ (by simpa using hi),aC]at h2
   cases e:vs[i]? with
   | none=>rw[e]at h2;cases h2
   | some a=>rw[e]at h2;cases h2;rfl
  obtain⟨u,hu,rv⟩:=r.get ha;have hp:ps[i]? =some y:=by
   rw[<-S.pre,x9 (!0)];exact h1
  have ndP:ps.Nodup:=by rw[<-S.pre];exact S.nd.sublist (Eg _ _)
  refine⟨u,rv,?_⟩;rcases S.par y (aD hp)with k | k
  ·exact .inl ⟨k,L7 ndP hp hu k⟩
  ·obtain⟨c,e⟩:=NL (n:=s.heap.objs.size+1) k;refine .inr ⟨.inl k,c,e,?_⟩;have q:=x.cell y c e;rw[L8 ndP hp hu (by show scope.names.lookup y≠_;rw[k];decide)]at q;exact q
 ·exact e0.hok.fresh (kg (x.above y c (cK h)))
 ·unfold start;show _=N.length;rw[aE,aa,zI];omega
def QX{K:a9}{mg:MG}{k:Nat}{name fO:cY}{params:Arguments}{body:iT}{dV kV doc pm dw ct oc:aH}{an od:rj}
  {OW:BK}{N ps:bS}{sp:Sp}(lk:K.lookup f=some ⟨oc,od,.func (fF name fO params body scope dV kV doc pm an dw ct),OW⟩)(qx:AH K dw fO=true)(S:ba N ps scope)
  (len:∀vs H Q E,sp vs H Q E->vs.length=ps.length)
  (OX:∀(A:dD) (outer:iC) (s:ai) (H:Hp) (vs:cV) (Q:VK) (E:XK),fZ k (A.deeper (jQ fO scope s.heap.objs.size f dw))->sp vs H Q E->
   ∃t,FX (vW CX P w K mg base N fO scope f dw A outer s H E) body t/\t {nx:=fun _ H'=>Q .fA H',rt:=Q} (start N vs) H):
  mq P w K mg base CX (k+1) f (fF name fO params body scope dV kV doc pm an dw ct) ps sp:=by
 refine⟨len,fun A outer s H args us vs Q E hr e0 hb r hsp=>?_⟩;have hl:=len _ _ _ _ hsp;have KX:K.In s.heap:=e0.mod.WU.keeps fun b o e=>(e0.bs b o e).1;have lim:s.heap.NoLimit:=e0.mod.nolimit.keeps fun b o e=>(e0.bs b o e).1;have a3k:∀y∈ps.zip us,scope.names.lookup y.1=some .local\/(scope.names.lookup y.1=some .cell/\((gh (s.heap.objs.size+1) scope.names []).lookup y.1).isSome=true):=fun⟨n,v⟩ hy=>by
  rcases S.par n (cn hy).1 with q | q
  ·exact .inl q
  ·exact .inr ⟨q,yR _ _ _ (.inl q)⟩
 refine codeAny_call_function hr.depth (KX _ _ lk) rfl S.co S.gen rfl (PySem.W.codeRec_of KX qx) (hb _ _ _ _ ?_);refine wpAny_newFunctionEnv_cells S.kind a3k fun env he s1 x=>?_;subst he;refine⟨lim.keeps x.toInCall.keep,codeAny_func ?_⟩;obtain⟨t,ht,hq⟩:=OX A outer s H vs Q E (hr.deeper _) hsp;have I:Inv (vW CX P w K mg base N fO scope f dw A outer s H E) [] (start N vs) H s1:=Sx S hr.hd e0 hl r x;refine ik (ht [] s1 (start N vs) H _ I hq) (fun fl s' hs=>?_) fun e s' hs=>hs;have fin:∀{σ':St} {H':Hp} {v:V} {u:aH},Inv (vW CX P w K mg base N fO scope f dw A outer s H E) [] σ' H' s'->RelV v u->Q v H'->CE outer P w H s Q u s':=
  fun {σ' H' v u} J rv q=>⟨v,H',J.os,J.bare,J.base,J.hok,rv,q⟩
 cases fl with
 | ret u=>
  obtain⟨v,σ',H',J,rv,q⟩:=hs;exact fin J rv q
 | next=>
  obtain⟨σ',H',J,q⟩:=hs;exact fin (v:=V.fA) (u:=ij) J rfl q
 | brk=>
  obtain⟨_,_,_,q⟩:=hs;exact gN q
 | cont=>
  obtain⟨_,_,_,q⟩:=hs;exact gN q
section
variable {X:Cx}{x:cY}{p pos:mH}{e:du}{es:jT}{t:TA}{id T:String}{r:cV->Hp->VK->Prop}
def tCB(r:cV->Hp->VK->Prop)(t:TA):TE:=fun σ H Q=>t σ H fun vs H1=>r vs H1 Q
def NM(hc:xm X (.builtin id) r)(hg:Gl X x)(hm:X.mg x=none)(hv:fE x=some (.builtin id))(ha:PA X (e::es) t)(hn:x≠ "__name__":=by decide)(xg:(x == ("__debug__":cY))=false:=by decide)
  (he:SE X e es:=by rfl)(hpl:ya X pos es:=by rfl):PE X (.Call (.Name x p) (e::es) [] pos) (tCB r t):=by
 intro pins s σ H Q I h;refine gA (vc I hg hm hv ?_ hn xg);exact sE (lh (ha pos pins s σ H _ I h) fun us s1 ⟨vs,H1,I1,r1,q1⟩=>hc pins s1 σ H1 vs us Q I1 r1 q1) he hpl
def B2(hc:xm X (.type T) r)(hg:Gl X x)(hm:X.mg x=none)(hv:fE x=some (.type T))(ha:PA X (e::es) t)(hn:x≠ "__name__":=by decide)(xg:(x == ("__debug__":cY))=false:=by decide)
  (he:SE X e es:=by rfl)(hpl:ya X pos es:=by rfl):PE X (.Call (.Name x p) (e::es) [] pos) (tCB r t):=by
 intro pins s σ H Q I h;refine gA (vc I hg hm hv ?_ hn xg);exact dz (lh (ha pos pins s σ H _ I h) fun us s1 ⟨vs,H1,I1,r1,q1⟩=>hc pins s1 σ H1 vs us Q I1 r1 q1) he hpl
end
end L2
namespace HT
open PySem PyProof.Rows
section
variable {prog:bp}{w:cH}{A:dD}{E:aH->ai->Prop}{s:ai}
def NN(n d:Nat):Bp->Nat
 | none=>d
 | some v=>if v<0 then(v+(n:Int)).toNat else min v.toNat n
def UJ(n d:Nat):NN n d none=d:=rfl
def M0(n d k:Nat):NN n d (some (k:Int))=min k n:=by
 show(if(k:Int)<0 then((k:Int)+(n:Int)).toNat else min (k:Int).toNat n)=min k n;rw[if_neg (!0),bH]
end
end HT
namespace L2
open PySem PySem.Spec PyProof.Rows
abbrev TO:=St->Hp->(Bp->Hp->Prop)->Prop
def PO(X:Cx)(e:Option du)(t:TO):Prop:=
 ∀(pins:Pn) (s:ai) (σ:St) (H:Hp) (Q:Bp->Hp->Prop),Inv X pins σ H s->t σ H Q->
  wj X (evalPart e X.env) (fun u s'=>∃o H',Inv X pins σ H' s'/\IsPart u o/\Q o H') X.xe s
def X5:TO:=fun _ H Q=>Q none H
def a1U(t:TE):TO:=fun σ H Q=>t σ H fun x H1=>∃i,x= .int i/\Q (some i) H1
section
variable {X:Cx}{e:du}{te:TE}{lo hi:Option du}{tl th:TO}{pos p2:mH}
def X6:PO X none X5:=by
 intro pins s σ H Q I h;rw[evalPart_none];exact aG ⟨none,H,I,.none,h⟩
def M5(h:PE X e te):PO X (some e) (a1U te):=by
 intro pins s σ H Q I hw;rw[evalPart_some];refine lh (h pins s σ H _ I hw) ?_;rintro u s1 ⟨x,H1,I1,r1,q1⟩;obtain⟨i,rfl,q⟩:=q1;obtain⟨t,rfl⟩:=r1;exact⟨some i,H1,I1,.int i t,q⟩
def SlR(X:Cx)(r:V->Bp->Bp->Hp->VK->Prop):Prop:=
 ∀(pins:Pn) (s:ai) (σ:St) (H:Hp) (x:V) (v vl vu:aH) (lo hi:Bp) (sl:aI) (Q:VK),Inv X pins σ H s->RelV x v->s.heap.IsSliceOf sl vl vu .none->IsPart vl lo->IsPart vu hi->r x lo hi H Q->
  ∃T id,vL (.type T) "__getitem__" =pure (some (.builtin id))/\s.TypeIs v T/\wj X (Hw v (.ref sl)) (EP X pins σ Q) X.xe s
def tSl(r:V->Bp->Bp->Hp->VK->Prop)(te:TE)(tl th:TO):TE:=fun σ H Q=>te σ H fun x H1=>tl σ H1 fun l H2=>th σ H2 fun u H3=>r x l u H3 Q
def NO{r:V->Bp->Bp->Hp->VK->Prop}(hr:SlR X r)(he:PE X e te)(hl:PO X lo tl)(hu:PO X hi th):PE X (.Subscript e (.Slice lo hi none p2) pos) (tSl r te tl th):=by
 intro pins s σ H Q I h;refine JN (lh (he pins s σ H _ I h) ?_);rintro v s1 ⟨x,H1,I1,r1,q1⟩;refine wpAny_Slice (lh (hl pins s1 σ H1 _ I1 q1) fun vl s2 ⟨l,H2,I2,pl,q2⟩=>lh (hu pins s2 σ H2 _ I2 q2) ?_);rintro vu s3 ⟨u,H3,I3,pu,q3⟩;rw[evalPart_none];refine aG ?_;have I4:Inv X pins σ H3 {s3 with heap:=s3.heap.push {cls:=.type "slice",data:=.fields #[vl,vu,.none]}}:=I3.kept (t':=s3.toks) fun b ob q=>af _ q;obtain⟨T,id,hT,ht,hg⟩:=hr pins {s3 with heap:=s3.heap.push {cls:=.type "slice",data:=.fields #[vl,vu,.none]}} σ H3 x v vl vu l u s3.heap.objs.size Q I4 r1 (cy.IsSliceOf.new ..) pl pu q3;show wj X (C2 e (.Slice lo hi none p2) v (.ref s3.heap.objs.size)) (EP X pins σ Q) X.xe {s3 with heap:=s3.heap.push {cls:=.type "slice",data:=.fields #[vl,vu,.none]}};exact tail_any (ops:=[.ref s3.heap.objs.size,v]) ht hT hg (by with_unfolding_all rfl)
def NP(xs:cV)(lo hi:Bp):cV:=(xs.drop (HT.NN xs.length 0 lo)).take (HT.NN xs.length xs.length hi-HT.NN xs.length 0 lo)
def NQ(xs:cV)(lo hi:Bp):(NP xs lo hi).length<=xs.length:=by
 unfold NP;rw[fY,kq];omega
end
def WG(n:Nat)(i:Int):Option Nat:=if 0<=i then(if i<n then some i.toNat else none)else if-(n:Int)<=i then some (i+n).toNat else none
def CC{α:Type}(xs:List α)(i:Int):Option α:=(WG xs.length i).bind fun j=>xs[j]?
def QY{n:Nat}{i:Int}{j:Nat}(h:WG n i=some j):seqIndex? i n=some j/\j<n/\ -(n:Int)<=i/\i<n:=by
 unfold WG at h;by_cases h0:0<=i
 ·rw[if_pos h0]at h;by_cases h1:i<n
  ·rw[if_pos h1]at h;have e:i.toNat=j:=be h;exact⟨by rw[Gs h0 h1,e],by omega,by omega,h1⟩
  ·rw[if_neg h1]at h;cases h
 ·rw[if_neg h0]at h;by_cases h1: -(n:Int)<=i
  ·rw[if_pos h1]at h;have e:(i+n).toNat=j:=be h;exact⟨by rw[Eh (!0) h1,e],by omega,h1,by omega⟩
  ·rw[if_neg h1]at h;cases h
def QZ{α:Type}{xs:List α}{i:Int}{v:α}(h:CC xs i=some v):∃j,seqIndex? i xs.length=some j/\xs[j]? =some v/\j<xs.length/\ -(xs.length:Int)<=i/\i<xs.length:=by
 unfold CC at h
 cases e:WG xs.length i with
 | none=>rw[e]at h;cases h
 | some j=>
  rw[e]at h;obtain⟨h1,h2,h3,h4⟩:=QY e;exact⟨j,h1,h,h2,h3,h4⟩
def X7{α:Type}{xs:List α}{j:Nat}{v:α}(h:xs[j]? =some v):CC xs (j:Int)=some v:=by
 have hj:j<xs.length:=(ag.mp h).1;have e:WG xs.length (j:Int)=some j:=by
  unfold WG;rw[if_pos (!0),if_pos (!0)];simp
 unfold CC;rw[e];exact h
def wm(b:du):Prop:=∀o i,AI b false o i=operate [o,i] (Hw o i)
def IxR(X:Cx)(r:R2):Prop:=
 ∀(oM slice:du) (pins:Pn) (s:ai) (σ:St) (H:Hp) (x y:V) (v u:aH) (Q:VK),Inv X pins σ H s->RelV x v->RelV y u->r x y H Q->
  AI slice false v u=operate [v,u] (Hw v u)->wj X (C2 oM slice v u) (EP X pins σ Q) X.xe s
def MtR(X:Cx)(id:String)(r:V->cV->Hp->VK->Prop):Prop:=
 ∀(pins:Pn) (s:ai) (σ:St) (H:Hp) (x:V) (xs:cV) (v:aH) (us:fk) (Q:VK),Inv X pins σ H s->RelV x v->Vals xs us->r x xs H Q->
  wj X (call (.builtin id) (v::us)) (EP X pins σ Q) X.xe s
section
variable {X:Cx}{a b:du}{ta tb:TE}{pos:mH}
def YT{r:R2}(hr:IxR X r)(ha:PE X a ta)(hb:PE X b tb)(hs:wm b):PE X (.Subscript a b pos) (YK r ta tb):=by
 intro pins s σ H Q I h;exact JN (ZY ha hb I h fun v u s2 x y H2 I2 rx ry q=>hr a b pins s2 σ H2 x y v u Q I2 rx ry q (hs _ _))
def a07(K:a9):R2:=fun x y H Q=>∃p xs i v,x= .ref p/\y= .int i/\lC K H p xs/\CC xs i=some v/\Q v H
def a1V(K:a9):R2:=fun x y H Q=>∃p xs i v,x= .ref p/\y= .int i/\KW K H p xs/\CC xs i=some v/\Q v H
def M6:IxR X (a07 X.K):=by
 intro oM slice pins s σ H x y v u Q I rx ry h hs;obtain⟨p,xs,i,z,rfl,rfl,hq,he,q⟩:=h;cases rx;obtain⟨t,rfl⟩:=ry;obtain⟨eI,r,pl,hz⟩:=I.list hq;obtain⟨j,h1,h2,h3,h4,h5⟩:=QZ he;obtain⟨w,ew,rw'⟩:=r.get h2;have hl:=r.length;have hn:=LW;have fin:EP X pins σ Q w s:=⟨z,H,I,rw',q⟩;by_cases h0:0<=i
 ·have hj:i.toNat=j:=by
   rw[Gs h0 h5]at h1;exact be h1
  exact item_listR pl.isList h0 (!0) (by rw[hj];simpa using ew) fin hs
 ·have hj:(i+(eI.toArray.size:Int)).toNat=j:=by
   rw[Eh (!0) h4]at h1;rw[bu,<-hl];exact be h1
  exact yS (x:=w) pl.isList.typeIs slot_list_getitem.lookup
   (wpAny_getItem_list_neg (Q:=fun r s'=>r=w/\EP X pins σ Q r s') pl.isList (!0) (by rw[bu]<;>omega) (!0) (by rw[hj];simpa using ew) ⟨rfl,fin⟩) hs
def a08:IxR X (a1V X.K):=by
 intro oM slice pins s σ H x y v u Q I rx ry h hs;obtain⟨p,xs,i,z,rfl,rfl,hq,he,q⟩:=h;cases rx;obtain⟨t,rfl⟩:=ry;obtain⟨eI,r,pl,hz⟩:=I.tuple hq;obtain⟨j,h1,h2,h3,h4,h5⟩:=QZ he;obtain⟨w,ew,rw'⟩:=r.get h2;have hl:=r.length;have hn:=LW;have fin:EP X pins σ Q w s:=⟨z,H,I,rw',q⟩;exact yS (x:=w) pl.typeIs slot_tuple_getitem.lookup
  (getItem_tuple (j:=j) (Q:=fun r s'=>r=w/\EP X pins σ Q r s') pl (!0) (!0) (by rw[bu,<-hl];exact h1) (by simpa using ew) ⟨rfl,fin⟩) hs
def Px(eI:fk)(n j:Nat)(u:aH):sF (·.setIfInBounds j u) {cls:=.type "list",data:=.seq eI.toArray n}={cls:=.type "list",data:=.seq (eI.set j u).toArray n}:=by
 simp[sF]
def Inv.lst{pins:Pn}{H:Hp}{s:ai}{xs:cV}(I:Inv X pins σ H s)(h:H p=some (.lst xs)):
  ∃(eI:fk) (n:Nat),Vals xs eI/\s.heap.get? p=some {cls:=.type "list",data:=.seq eI.toArray n}/\xs.length<=bC:=by
 obtain⟨z,eI,n,r,e⟩:=I.hok p _ h;exact⟨eI,n,r,e,z⟩
def Inv.a09{pins:Pn}{H:Hp}{s:ai}{xs ys:cV}{eI its':fk}{n n':Nat}{f:uC->uC}(I:Inv X pins σ H s)(h:H p=some (.lst xs))
  (ho:s.heap.get? p=some {cls:=.type "list",data:=.seq eI.toArray n})(hf:f {cls:=.type "list",data:=.seq eI.toArray n}={cls:=.type "list",data:=.seq its'.toArray n'})(r:Vals ys its')(hz:ys.length<=bC)(t:Nat):
  Inv X pins σ (upd H p (.lst ys)) {s with heap:=s.heap.update p f,toks:=t}:=by
 have e:(s.heap.update p f).get? p=some {cls:=.type "list",data:=.seq its'.toArray n'}:=by
  rw[j4 f ho (by rw[hf]<;>rfl),hf]
 refine I.write (x:=p) (e:=p) (by rw[h];trivial) (.inl rfl) (fun b u hb q=>(fG _ _ (g0 hb)).trans q) ⟨_,e⟩ ?_;exact⟨hz,its',n',r,e⟩
def a1W:V->V->V->Hp->(Hp->Prop)->Prop:=fun o i v H Q=>∃p xs k j,o= .ref p/\i= .int k/\H p=some (.lst xs)/\WG xs.length k=some j/\Q (upd H p (.lst (xs.set j v)))
def set_list:a1K X a1W:=by
 intro pins s σ H o i v ov iv u Q I ro ri rv h;obtain⟨p,xs,k,j,rfl,rfl,hp,hj,q⟩:=h;cases ro;obtain⟨t,rfl⟩:=ri;obtain⟨eI,n,r,ho,hz⟩:=I.lst hp;obtain⟨h1,h2,h3,h4⟩:=QY hj;have hl:=r.length;have hn:=LW;have I':Inv X pins σ (upd H p (.lst (xs.set j v))) {s with heap:=s.heap.update p (sF (·.setIfInBounds j u))}:=
  I.a09 hp ho (Px eI n j u) (r.set rv j) (by rw[pN];exact hz) s.toks
 by_cases h0:0<=k
 ·have hk:k.toNat=j:=by
   rw[Gs h0 h4]at h1;exact be h1
  exact PySem.W.ki_setAt ho h0 (!0) (by rw[bu,<-hl];exact h4) (by rw[hk];exact⟨_,I',q⟩)
 ·have hk:(k+(eI.toArray.size:Int)).toNat=j:=by
   rw[Eh (!0) h3]at h1;rw[bu,<-hl];exact be h1
  exact PySem.W.ki_setBack ho (!0) (by rw[bu,<-hl];exact h3) (!0) (by rw[hk];exact⟨_,I',q⟩)
def M7(lo hi:Bp)(n:Nat):(qu lo hi none n).1=((HT.NN n 0 lo:Nat):Int)/\(qu lo hi none n).2.1=((HT.NN n n hi:Nat):Int)/\(qu lo hi none n).2.2=1:=by
 refine⟨?_,?_,rfl⟩
 ·cases lo with
  | none=>simp[qu,HT.NN]
  | some i=>
   simp only[qu,HT.NN,Fy,show(1:Int)>0 by decide,if_true];by_cases h:i<0
   ·simp only[h,if_true]<;>omega
   ·simp only[h,if_false]<;>omega
 ·cases hi with
  | none=>simp[qu,HT.NN]
  | some i=>
   simp only[qu,HT.NN,Fy,show(1:Int)>0 by decide,if_true];by_cases h:i<0
   ·simp only[h,if_true]<;>omega
   ·simp only[h,if_false]<;>omega
def K4(eI:fk)(lo hi:Bp):slicePick eI.toArray lo hi none=((eI.drop (HT.NN eI.length 0 lo)).take (HT.NN eI.length eI.length hi-HT.NN eI.length 0 lo)).toArray:=by
 obtain⟨h1,h2,h3⟩:=M7 lo hi eI.toArray.size;unfold slicePick;rw[h1,h2,h3]
 simp only[sliceRange_one,pick_run,bu]<;>rfl
def a3K(K:a9):V->Bp->Bp->Hp->VK->Prop:=fun x lo hi H Q=>∃a xs,x= .ref a/\lC K H a xs/\∀p,H p=none->Q (.ref p) (upd H p (.lst (NP xs lo hi)))
def R1:SlR X (a3K X.K):=by
 intro pins s σ H x v vl vu lo hi sl Q I rx hs pl pu h;obtain⟨a,xs,rfl,hx,q⟩:=h;cases rx;obtain⟨eI,r,ht,hz⟩:=I.list hx;have ko:=r.length;refine⟨"list",_,slot_list_getitem.lookup,ht.isList.typeIs,?_⟩
 refine wpAny_getItem_list_slice ht.isList hs pl pu .none (!1) ?_ (by rw[bu]<;>omega)
 rw[K4,<-ko];refine⟨.ref s.heap.objs.size,_,I.laid (t':=s.toks) (o:=.lst (NP xs lo hi)) (fun b ob q=>af _ q) (ao _) ?_,rfl,q _ (I.hok.fresh (ao _))⟩;exact⟨bq (NQ xs lo hi) hz,_,0,(r.drop (HT.NN xs.length 0 lo)).take (HT.NN xs.length xs.length hi-HT.NN xs.length 0 lo),bI _ rfl⟩
def A1:V->Bool
 | .fA=>true
 | .bl _=>true
 | .int _=>true
 | .str _=>true
 | _=>false
def X8:V->V->Bool
 | .fA,.fA=>true
 | .bl a,.bl b=>a == b
 | .bl a,.int b=>(if a then 1 else 0) == b
 | .int a,.bl b=>a == (if b then 1 else 0)
 | .int a,.int b=>a == b
 | .str a,.str b=>a == b
 | _,_=>false
def a0a{y x:V}{u v:aH}(ry:RelV y u)(rx:RelV x v)(fy:A1 y=true)(fx:A1 x=true):SeqAt.EqAt A s u v (X8 y x):=by
 cases y with
 | fA=>
  cases ry
  cases x with
  | fA=>cases rx;exact SeqAt.EqAt.same _
  | bl b=>cases rx;exact SeqAt.EqAt.none_bool b
  | int b=>obtain⟨t,rfl⟩:=rx;exact SeqAt.EqAt.none_int b t
  | str b=>obtain⟨t,rfl⟩:=rx;exact SeqAt.EqAt.none_str b t
  | _=>exact absurd (show false=true from fx) bA
 | bl a=>
  cases ry
  cases x with
  | fA=>cases rx;exact SeqAt.EqAt.bool_none a
  | bl b=>cases rx;exact SeqAt.EqAt.bool_bool a b
  | int b=>obtain⟨t,rfl⟩:=rx;exact SeqAt.EqAt.bool_int a b t
  | str b=>obtain⟨t,rfl⟩:=rx;exact SeqAt.EqAt.bool_str a b t
  | _=>exact absurd (show false=true from fx) bA
 | int a=>
  obtain⟨t',rfl⟩:=ry
  cases x with
  | fA=>cases rx;exact SeqAt.EqAt.int_none a t'
  | bl b=>cases rx;exact SeqAt.EqAt.int_bool a t' b
  | int b=>obtain⟨t,rfl⟩:=rx;exact SeqAt.EqAt.int_int a t' b t
  | str b=>obtain⟨t,rfl⟩:=rx;exact CL a t' b t
  | _=>exact absurd (show false=true from fx) bA
 | str a=>
  obtain⟨t',rfl⟩:=ry
  cases x with
  | fA=>cases rx;exact SeqAt.EqAt.str_none a t'
  | bl b=>cases rx;exact SeqAt.EqAt.str_bool a t' b
  | int b=>obtain⟨t,rfl⟩:=rx;exact CM a t' b t
  | str b=>obtain⟨t,rfl⟩:=rx;exact SeqAt.EqAt.str_str a t' b t
  | _=>exact absurd (show false=true from fx) bA
 | _=>exact absurd (show false=true from fy) bA
def Py(x:V)(u:aH):Bool:=match u with
 | .none=>X8 .fA x
 | .bool b=>X8 (.bl b) x
 | .int i _=>X8 (.int i) x
 | .str z _=>X8 (.str z) x
 | _=>false
def UK{x y:V}(r:RelV y u)(f:A1 y=true):Py x u=X8 y x:=by
 cases y with
 | fA=>cases r;rfl
 | bl b=>cases r;rfl
 | int i=>obtain⟨t,rfl⟩:=r;rfl
 | str z=>obtain⟨t,rfl⟩:=r;rfl
 | _=>exact absurd (show false=true from f) bA
theorem Dm:∀{xs:cV} {us:fk},Vals xs us->xs.all A1=true->us.any (Py x)=xs.any fun y=>X8 y x
 | _,_,.nil,_=>rfl
 | y::xs,u::us,.cons r t,f=>by
  rw[xa,c8]at f;rw[pw,pw,UK r f.1,Dm t f.2]
theorem A2(rx:RelV x v)(fx:A1 x=true):∀{xs:cV} {us:fk},Vals xs us->xs.all A1=true->∀u∈us,SeqAt.EqAt A s u v (Py x u)
 | _,_,.nil,_=>fun u hu=>by cases hu
 | y::xs,u::us,.cons r t,f=>fun u' hu=>by
  rw[xa,c8]at f;rcases bQ.mp hu with rfl | hu
  ·rw[UK r f.1];exact a0a r rx f.1 fx
  ·exact A2 rx fx t f.2 u' hu
def inV(x:V)(xs:cV):Bool:=xs.any fun y=>X8 y x
def rIn(K:a9)(neg:Bool):R2:=fun x y H Q=>∃p xs,y= .ref p/\(lC K H p xs\/KW K H p xs)/\A1 x=true/\xs.all A1=true/\Q (.bl (if neg then !inV x xs else inV x xs)) H
def Sy:Cg X (gY .In) (rIn X.K false):=by
 intro pins s σ H x y v u Q I rx ry h;obtain⟨p,xs,rfl,hq,fx,fs,q⟩:=h;cases ry;rcases hq with hq | hq
 ·obtain⟨eI,r,pl,hz⟩:=I.list hq;refine SeqAt.in_listAt (Py x) pl.isList (fun w hw=>A2 rx fx r fs w (by simpa using hw)) ⟨.bl _,H,I,rfl,?_⟩;rw[show eI.toArray.any (Py x)=eI.any (Py x) by simp,Dm r fs];exact q
 ·obtain⟨eI,r,pl,hz⟩:=I.tuple hq;refine SeqAt.in_tupleAt (Py x) pl (fun w hw=>A2 rx fx r fs w (by simpa using hw)) ⟨.bl _,H,I,rfl,?_⟩;rw[show eI.toArray.any (Py x)=eI.any (Py x) by simp,Dm r fs];exact q
def M8:Cg X (gY .NotIn) (rIn X.K true):=by
 intro pins s σ H x y v u Q I rx ry h;obtain⟨p,xs,rfl,hq,fx,fs,q⟩:=h;cases ry;rcases hq with hq | hq
 ·obtain⟨eI,r,pl,hz⟩:=I.list hq;refine SeqAt.notIn_listAt (Py x) pl.isList (fun w hw=>A2 rx fx r fs w (by simpa using hw)) ⟨.bl _,H,I,rfl,?_⟩;rw[show eI.toArray.any (Py x)=eI.any (Py x) by simp,Dm r fs];exact q
 ·obtain⟨eI,r,pl,hz⟩:=I.tuple hq;refine SeqAt.notIn_tupleAt (Py x) pl (fun w hw=>A2 rx fx r fs w (by simpa using hw)) ⟨.bl _,H,I,rfl,?_⟩;rw[show eI.toArray.any (Py x)=eI.any (Py x) by simp,Dm r fs];exact q
def uI:xm X (.builtin "len") (fun xs H Q=>∃p ys,xs=[.ref p]/\(lC X.K H p ys\/KW X.K H p ys)/\Q (.int ys.length) H):=by
 intro pins s σ H xs us Q I r h;obtain⟨p,ys,rfl,hq,q⟩:=h;obtain⟨u,rfl,rx⟩:=vals1 r;cases rx;have hn:=LW;rcases hq with hq | hq
 ·obtain⟨eI,r',pl,hz⟩:=I.list hq;have ko:=r'.length
  exact Calls.call_len_list pl.isList (by simp only[bu]<;>omega) ⟨.int ys.length,H,I.tok _,⟨s.toks+1,by rw[bu,ko]⟩,q⟩
 ·obtain⟨eI,r',pl,hz⟩:=I.tuple hq;have ko:=r'.length
  exact len_tuple pl (by simp only[bu]<;>omega) ⟨.int ys.length,H,I.tok _,⟨s.toks+1,by rw[bu,ko]⟩,q⟩
def Dq:xm X (.type "list") (fun xs H Q=>∃p ys,xs=[.ref p]/\(lC X.K H p ys\/KW X.K H p ys)/\∀l,H l=none->Q (.ref l) (upd H l (.lst ys))):=by
 intro pins s σ H xs us Q I r h;obtain⟨p,ys,rfl,hq,q⟩:=h;obtain⟨u,rfl,rx⟩:=vals1 r;cases rx;have fin:∀(eI:fk),Vals ys eI->ys.length<=bC->∀(h':cy) (c':Nat),(∀b o',s.heap.get? b=some o'->h'.get? b=some o')->
   h'.get? s.heap.objs.size=some {cls:=.type "list",dict:=none,data:=.seq eI.toArray c',slots:= #[]}->EP X pins σ Q (.ref s.heap.objs.size) {s with heap:=h'}:=fun eI r' hz h' c' kp e=>
  ⟨.ref s.heap.objs.size,_,I.laid (t':=s.toks) kp (ao _) (show jK X.prog X.w _ h' _ (.lst ys)from⟨hz,eI,c',r',e⟩),rfl,q _ (I.hok.fresh (ao _))⟩
 rcases hq with hq | hq
 ·obtain⟨eI,r',pl,hz⟩:=I.list hq;have ko:=r'.length;obtain⟨o,ho,hc,n,hd⟩:=pl.isList
  exact call_list_seq p (.inl rfl) ho hc hd (fun h' c' kp e=>fin eI r' hz h' c' kp e) (by simp only[bu]<;>omega)
 ·obtain⟨eI,r',pl,hz⟩:=I.tuple hq;have ko:=r'.length;obtain⟨o,ho,hc,n,hd⟩:=pl
  exact call_list_seq p (.inr rfl) ho hc hd (fun h' c' kp e=>fin eI r' hz h' c' kp e) (by simp only[bu]<;>omega)
def K5:xm X (.type "tuple") (fun xs H Q=>∃p ys,xs=[.ref p]/\((lC X.K H p ys/\∀l,H l=none->Q (.ref l) (upd H l (.tup ys)))\/(KW X.K H p ys/\Q (.ref p) H))):=by
 intro pins s σ H xs us Q I r h;obtain⟨p,ys,rfl,h⟩:=h;obtain⟨u,rfl,rx⟩:=vals1 r;cases rx;rcases h with⟨hq,q⟩ | ⟨hq,q⟩
 ·obtain⟨eI,r',pl,hz⟩:=I.list hq;have ko:=r'.length
  refine call_tuple_list pl.isList (fun h' kp=>?_) (by simp only[bu]<;>omega)
  have I1:Inv X pins σ H {s with heap:=h'}:=I.kept (t':=s.toks) kp;have I2:Inv X pins σ (upd H h'.objs.size (.tup ys)) {s with heap:=h'.push {cls:=.type "tuple",data:=.seq eI.toArray}}:=
   I1.laid (t':=s.toks) (fun b o e=>af _ e) (ao _) (show jK X.prog X.w _ _ _ (.tup ys)from⟨hz,eI,r',IsTup.new _ _⟩)
  exact⟨.ref h'.objs.size,_,I2,rfl,q _ (I1.hok.fresh (ao _))⟩
 ·obtain⟨eI,r',pl,hz⟩:=I.tuple hq;exact call_tuple_same pl ⟨.ref p,H,I,rfl,q⟩
def tyV(K:a9)(T:String)(x:V)(H:Hp):Prop:=match x with
 | .str _=>T= "str"
 | .int _=>T= "int"
 | .ref p=>(T= "list"/\∃xs,lC K H p xs)\/(T= "tuple"/\∃o,K.lookup p=some o/\o.cls= .type "tuple"/\o.dict=none)\/
   (T= "dict"/\((∃ji,H p=some (.dK ji))\/∃ji,H p=some (.dT ji)))\/(T= "set"/\∃S n,H p=some (.set S n))
 | _=>False
def a0b{pins:Pn}{s:ai}{T:String}(I:Inv X pins σ H s)(r:RelV x v)(ty:tyV X.K T x H):
  s.TypeIs v T/\∀a,v= .ref a->∃ob,s.heap.get? a=some ob/\ob.dict=none:=by
 cases x with
 | str z=>
  obtain⟨t,rfl⟩:=r;cases(show T= "str" from ty);exact⟨typeIs_str s z t,fun _ e=>nomatch e⟩
 | int i=>
  obtain⟨t,rfl⟩:=r;cases(show T= "int" from ty);exact⟨JO s i t,fun _ e=>nomatch e⟩
 | ref p=>
  cases r;rcases ty with⟨rfl,xs,hq⟩ | ⟨rfl,o,hk,hc,hd⟩ | ⟨rfl,hk⟩ | ⟨rfl,S,n,hk⟩
  ·obtain⟨eI,_,pl,_⟩:=I.list hq;refine⟨pl.isList.typeIs,fun a e=>?_⟩;cases e;obtain⟨o,n,e,c,hd,_⟩:=pl;exact⟨o,e,hd⟩
  ·refine⟨⟨o,I.BU p o hk,hc⟩,fun a e=>?_⟩;cases e;exact⟨o,I.BU _ o hk,hd⟩
  ·have z:∃o,s.heap.get? p=some o/\o.ExactDict:=by
    rcases hk with⟨ji,hk⟩ | ⟨ji,hk⟩
    ·obtain⟨_,_,_,_,o,_,_,e,ex,_⟩:=I.hok p _ hk;exact⟨o,e,ex⟩
    ·obtain⟨_,_,_,_,o,_,_,e,ex,_⟩:=I.hok p _ hk;exact⟨o,e,ex⟩
   obtain⟨o,e,ex⟩:=z;refine⟨⟨o,e,ex.1⟩,fun a e2=>?_⟩;cases e2;exact⟨o,e,ex.2.1⟩
  ·obtain⟨o,_,_,_,e,ex,_⟩:=I.hok p _ hk;refine⟨⟨o,e,ex.1⟩,fun a e2=>?_⟩;cases e2;exact⟨o,e,ex.2.1⟩
 | _=>exact gN ty
def tBM(K:a9)(T:String)(r:V->cV->Hp->VK->Prop)(to:TE)(t:TA):TE:=fun σ H Q=>to σ H fun x H1=>tyV K T x H1/\t σ H1 fun xs H2=>r x xs H2 Q
variable {o e:du}{es:jT}{to:TE}{t:TA}{name:cY}{apos jb:mH}{T id:String}{r:V->cV->Hp->VK->Prop}
def FZ(pa:PlainAttrs T)(slot:Slot T name id)(hty:JP (.builtin id)=pure (.type "method_descriptor"))(hm:MtR X id r)(ho:PE X o to)(ha:PA X (e::es) t)
  (ux:Uk X o name:=by rfl)
  (qQ:YE X jb (e::es):=by rfl)
  (uz:(apos.endLine == jb.line)=true:=by rfl)(hs:SE X e es:=by rfl)(oS:ya X jb es:=by rfl):
  PE X (.Call (.Attribute o name apos) (e::es) [] jb) (tBM X.K T r to t):=by
 intro pins s σ H Q I h;refine wpAny_Call_method_late ux qQ uz rfl (lh (ho pins s σ H _ I h) ?_);rintro v s1 ⟨x,H1,I1,r1,ty,q1⟩;obtain⟨h1,h2⟩:=a0b I1 r1 ty;refine⟨T,id,pa,slot,hty,h1,h2,?_⟩;have hA:=ha jb pins s1 σ H1 _ I1 q1;rw[hs]at hA ⊢
 refine yT (by show(false || (nt jb (dM es X.env)).any (·.1))=false;rw[oS]<;>rfl) (AJ ?_)
 exact lh hA fun us s2 ⟨vs,H2,I2,r2,q2⟩=>hm pins s2 σ H2 x vs v us Q I2 r1 r2 q2
end
def MtM(X:Cx)(id:String)(r:V->cV->Hp->VK->Prop):Prop:=
 ∀(pins:Pn) (s:ai) (σ:St) (H:Hp) (x:V) (xs:cV) (v:aH) (us:fk) (Q:VK),Inv X pins σ H s->RelV x v->Vals xs us->r x xs H Q->
  wj X (call (.builtin id) (v::us)) (EP X pins σ Q) X.xe s
def Vals.one{x:V}{us:fk}(h:Vals [x] us):∃u,us=[u]/\RelV x u:=by
 cases h with
 | cons r t=>cases t;exact⟨_,rfl,r⟩
theorem Vals.rep{xs:cV}{us:fk}(h:Vals xs us):∀k:Nat,Vals (aY k xs).flatten (aY k us).flatten
 | 0=>.nil
 | k+1=>by
  rw[iQ,iQ,nH,nH];exact Vals.append h (Vals.rep h k)
theorem foldl_rep(eI:fk):∀(k:Nat) (acc:fk),
  CQ (fun x1 x2=>x1++x2) acc.toArray (aY k eI.toArray)=(acc++(aY k eI).flatten).toArray
 | 0,acc=>by simp
 | k+1,acc=>by
  have e:acc.toArray++eI.toArray=(acc++eI).toArray:=by simp
  have e2:(acc++eI)++(aY k eI).flatten=acc++(aY (k+1) eI).flatten:=by
   rw[iQ,nH,gU]
  rw[<-e2,<-foldl_rep eI k (acc++eI),<-e,iQ,fP]
section
variable {X:Cx}{pins:List (aI×uC)}{σ:St}{H:Hp}{s:ai}{l b:aI}{xs ys zs:cV}
def Inv.a0c{eI its':fk}{n:Nat}{f:nc->nc}{t':Nat}(I:Inv X pins σ H s)(hH:H l=some (.lst xs))
  (e:s.heap.get? l=some {cls:=.type "list",data:=.seq eI.toArray n})(hf:f eI.toArray=its'.toArray)(hv:Vals ys its')(hz:ys.length<=bC):
  Inv X pins σ (upd H l (.lst ys)) {s with heap:=s.heap.update l (sF f),toks:=t'}:=by
 have q:=PySem.IsL.update e f;rw[hf]at q;refine I.write (x:=l) (e:=l) (by rw[hH];exact trivial) (.inl rfl) (fun b' u hb hu=>(fG s.heap (sF f) (g0 hb)).trans hu) ⟨_,q⟩ ?_;exact⟨hz,its',_,hv,q⟩
def Inv.a1X{eI:fk}{t':Nat}(I:Inv X pins σ H s)(hv:Vals ys eI)(hz:ys.length<=bC):
  Inv X pins σ (upd H s.heap.objs.size (.lst ys)) {s with heap:=s.heap.push {cls:=.type "list",data:=.seq eI.toArray},toks:=t'}:=
 I.laid (fun _ _ q=>af _ q) (ao _) ⟨hz,eI,0,hv,bI _ rfl⟩
def Inv.fresh(I:Inv X pins σ H s):H s.heap.objs.size=none:=I.hok.fresh (ao _)
def Inv.Pz(I:Inv X pins σ H s)(hH:H l=some (.lst xs)):xs.length<=bC/\∃(eI:fk) (n:Nat),Vals xs eI/\xs.length=eI.length/\s.heap.get? l=some {cls:=.type "list",data:=.seq eI.toArray n}:=by
 obtain⟨z,eI,n,r,e⟩:=I.hok l _ hH;exact⟨z,eI,n,r,r.length,e⟩
def Ii{n:Nat}(h:n<=bC):i7 n=false:=by
 unfold i7;exact decide_eq_false (!0)
end
section
variable {X:Cx}
def X9:V->cV->Hp->VK->Prop:=fun x vs H Q=>∃l xs y,x= .ref l/\vs=[y]/\H l=some (.lst xs)/\xs.length<bC/\Q .fA (upd H l (.lst (xs++[y])))
def B3:MtM X "list.append" X9:=by
 intro pins s σ H x vs v us Q I rx rv h;obtain⟨l,xs,y,rfl,rfl,hH,hz,q⟩:=h;cases rx;obtain⟨u,rfl,ru⟩:=rv.one;obtain⟨z,eI,n,r,hl,e⟩:=I.Pz hH;refine sI F.slot_list_append ⟨_,e,rfl⟩ F.entry_list_append (F.args_list_append_2 _ _) (PySem.list_append l eI.toArray n u (by rw[bu];omega)) ⟨e,?_⟩;refine⟨.fA,_,I.a0c (its':=eI++[u]) hH e (!1) (r.append (.cons ru .nil)) ?_,rfl,q⟩;rw[aE,List.length_singleton];omega
def Xa:V->cV->Hp->VK->Prop:=fun x vs H Q=>∃l b xs zs,x= .ref l/\vs=[.ref b]/\H l=some (.lst xs)/\H b=some (.lst zs)/\xs.length+zs.length<=bC/\Q .fA (upd H l (.lst (xs++zs)))
def L9:MtM X "list.extend" Xa:=by
 intro pins s σ H x vs v us Q I rx rv h;obtain⟨l,b,xs,zs,rfl,rfl,hH,hB,hz,q⟩:=h;cases rx;obtain⟨u,rfl,ru⟩:=rv.one;cases ru;obtain⟨z,eI,n,r,hl,e⟩:=I.Pz hH;obtain⟨z2,yG,n2,r2,BA,e2⟩:=I.Pz hB;have hsz:eI.toArray.size+yG.toArray.size<=bC:=by rw[bu,bu];omega
 have NR:¬(!eI.toArray.isEmpty && i7 (eI.toArray.size+yG.toArray.size))=true:=by
  rw[Ii hsz,o9];exact bA
 refine sI CS ⟨_,e,rfl⟩ BC (AK _ _)
  (AutoSeq1.list_extend_list_list_0 l eI.toArray n b yG.toArray n2 NR (by rw[bu];omega) (!0)) ⟨e,e2,?_⟩
 refine⟨.fA,_,I.a0c (its':=eI++yG) hH e (!1) (r.append r2) ?_,rfl,q⟩;rw[aE];omega
def a1Y:R2:=fun x y H Q=>∃l b xs zs,x= .ref l/\y= .ref b/\H l=some (.lst xs)/\H b=some (.lst zs)/\xs.length+zs.length<=bC/\∀p,H p=none->Q (.ref p) (upd H p (.lst (xs++zs)))
def UL:Cg X (tR .Add) a1Y:=by
 intro pins s σ H x y v u Q I rx ry h;obtain⟨l,b,xs,zs,rfl,rfl,hH,hB,hz,q⟩:=h;cases rx;cases ry;obtain⟨z,eI,n,r,hl,e⟩:=I.Pz hH;obtain⟨z2,yG,n2,r2,BA,e2⟩:=I.Pz hB;refine PySem.P.add_list e e2 ?_ (by rw[bu,bu];omega);have ea:eI.toArray++yG.toArray=(eI++yG).toArray:=by simp
 rw[ea];exact⟨.ref _,_,I.a1X (t':=s.toks) (r.append r2) (by rw[aE];omega),rfl,q _ I.fresh⟩
def a0d:R2:=fun x y H Q=>∃l k xs,x= .ref l/\y= .int k/\H l=some (.lst xs)/\ -(2^63)<=k/\k<2^63/\xs.length*k.toNat<=bC/\
 ∀p,H p=none->Q (.ref p) (upd H p (.lst (aY k.toNat xs).flatten))
def len_rep{α:Type}(xs:List α)(k:Nat):(aY k xs).flatten.length=k*xs.length:=by
 induction k with
 | zero=>simp
 | succ k ih=>rw[iQ,nH,aE,ih,Nat.succ_mul,Nat.add_comm]
def a0e:Cg X (tR .Mult) a0d:=by
 intro pins s σ H x y v u Q I rx ry h;obtain⟨l,k,xs,rfl,rfl,hH,h1,h2,hz,q⟩:=h;cases rx;obtain⟨t,rfl⟩:=ry;obtain⟨z,eI,n,r,hl,e⟩:=I.Pz hH;have ko:eI.toArray.size*k.toNat<=bC:=by rw[bu,<-hl];exact hz
 have a4X:¬eI.toArray.size*k.toNat>(2^63-1)/8:=by
  have:(bC:Nat)<=(2^63-1)/8:=by decide
  omega
 have a4Y:¬(!oI.List.listFitsIndex k)=true:=by
  rw[fitsIndex_both h1 h2];exact bA
 have NR:¬i7 (eI.toArray.size*k.toNat)=true:=by
  rw[Ii ko];exact bA
 have Wx:CQ (fun x1 x2=>x1++x2) #[] (aY (if eI.toArray.isEmpty=true then 0 else k.toNat) eI.toArray)=(aY k.toNat eI).flatten.toArray:=by
  have f0:∀m:Nat,CQ (fun x1 x2=>x1++x2) #[] (aY m eI.toArray)=(aY m eI).flatten.toArray:=fun m=>by
   have:=foldl_rep eI m [];rw[zA]at this;exact this
  rw[f0]
  cases eI with
  | nil=>simp
  | cons a r'=>rw[if_neg (!1)]
 refine wpAny_binaryOp_repeat_ref (T:="list") (U:="int") ck ⟨_,e,rfl⟩ (fun s'=>JO s' k t) noFill_list_mul F.fills_int_mul F.slot_int_rmul repeat_list F.slot_int_index.lookup
  (sI F.slot_int_rmul (JO s k t) F.entry_int_rmul (F.args_int_rmul_2 _ _) (int___rmul___int_list k t l eI.toArray n)
   ⟨e,rfl,⟨_,e,rfl⟩,sI F.slot_list_mul ⟨_,e,rfl⟩ F.entry_list_mul (F.args_list_mul_2 _ _) (AutoListH.list___mul___list_int_3 l eI.toArray n k t a4Y a4X NR) ⟨e,?_⟩⟩)
 rw[Wx];exact⟨.ref _,_,I.a1X (t':=s.toks) (r.rep k.toNat) (by rw[len_rep,uO];exact hz),rfl,q _ I.fresh⟩
end
theorem Vals.ints:∀{ns:cE} {us:fk},Vals (ns.map V.int) us->IntsAre us ns
 | [],us,h=>by
  rw[ib]at h;cases h;exact IntsAre.nil
 | n::ns,us,h=>by
  rw[cM]at h
  cases h with
  | cons r t=>
   obtain⟨k,rfl⟩:=r;exact IntsAre.cons n k (Vals.ints t)
def Vals.a3L{us:fk}(r:Vals [V.ref a] us):us=[cj a]:=by
 cases r with
 | cons r t=>
  cases t;cases r;rfl
section
variable {prog:bp}{w:cH}{A:dD}{E:aH->ai->Prop}{s:ai}{l:aI}{eI:fk}{ns:cE}{Q:aH->ai->Prop}
def Xb(hh:A.handled=none)(hl:s.heap.IsList l eI.toArray)(hi:IntsAre eI ns)
  (h:∀h' tk t',(∀b o,s.heap.get? b=some o->h'.get? b=some o)->Q (.int ns.sum t') {s with heap:=h',toks:=tk}):bO (c9 prog w) A (call (.builtin "sum") [.ref l]) Q E s:=by
 obtain⟨xs,e⟩:=hi.allInts.items;have hn:numsOf (intItems xs).toList=ns:=by rw[<-e];exact hi.numsOf
 rw[nums_intItems]at hn;rw[e]at hl;refine PySem.sum_intListG hh hl fun h' tk t' hk=>?_;have:=h h' tk t' hk;rw[preSum_eq,fH (!1),hn];exact this
end
section
variable {X:Cx}
def a3M(K:a9):cV->Hp->VK->Prop:=fun vs H Q=>∃(a:aI) (ns:cE),vs=[V.ref a]/\lC K H a (ns.map V.int)/\Q (.int ns.sum) H
def a0f(hc:X.calm=true):xm X (.builtin "sum") (a3M X.K):=by
 intro pins s σ H vs us Q I r h;obtain⟨a,ns,rfl,hs,q⟩:=h;obtain⟨eI,rv,hl,_⟩:=I.list hs;rw[Vals.a3L r];exact Xb (I.ok.hd hc) hl.isList rv.ints fun h' tk t' hk=>⟨.int _,H,I.kept hk,⟨_,rfl⟩,q⟩
end
mutual
inductive Dp(K:a9)(H:Hp):V->uh->Prop
 | fA:Dp K H .fA .none
 | bl (b:Bool):Dp K H (.bl b) (.bool b)
 | int (i:Int):Dp K H (.int i) (.int i)
 | str (x:cY):Dp K H (.str x) (.str x)
 | lst {a:aI} {xs:cV} {ds:List uh}:lC K H a xs->A3 K H xs ds->Dp K H (.ref a) (.list ds)
 | tup {a:aI} {xs:cV} {ds:List uh}:KW K H a xs->A3 K H xs ds->Dp K H (.ref a) (.tuple ds)
inductive A3(K:a9)(H:Hp):cV->List uh->Prop
 | nil:A3 K H [] []
 | cons {v:V} {vs:cV} {d:uh} {ds:List uh}:Dp K H v d->A3 K H vs ds->A3 K H (v::vs) (d::ds)
end
section
variable {X:Cx}{pins:List (aI×uC)}{σ:St}{H:Hp}{s:ai}
mutual
theorem Dp.reads(I:Inv X pins σ H s):∀(d:uh) (v:V) (u:aH),Dp X.K H v d->RelV v u->∃as,Reads s.heap u d as
 | .none,_,_,h,r=>by
  cases h;cases r;exact⟨_,Reads.none⟩
 | .bool b,_,_,h,r=>by
  cases h;cases r;exact⟨_,Reads.bool b⟩
 | .int i,_,_,h,r=>by
  cases h;obtain⟨t,rfl⟩:=r;exact⟨_,Reads.int i t⟩
 | .str x,_,_,h,r=>by
  cases h;obtain⟨t,rfl⟩:=r;exact⟨_,Reads.str x t⟩
 | .list ds,_,_,h,r=>by
  cases h with
  | lst hs ha=>
   cases r;obtain⟨eI,rv,⟨o,n,ho,hc,_,hd⟩,_⟩:=I.list hs;obtain⟨as,hr⟩:=Dp.readsAll I ds _ eI ha rv;exact⟨_,Reads.list ho hc hd hr⟩
 | .tuple ds,_,_,h,r=>by
  cases h with
  | tup hs ha=>
   cases r;obtain⟨eI,rv,⟨o,ho,hc,n,hd⟩,_⟩:=I.tuple hs;obtain⟨as,hr⟩:=Dp.readsAll I ds _ eI ha rv;exact⟨_,Reads.tuple ho hc hd hr⟩
 | .dict _,_,_,h,_=>by cases h
theorem Dp.readsAll(I:Inv X pins σ H s):∀(ds:List uh) (vs:cV) (us:fk),A3 X.K H vs ds->Vals vs us->∃as,ReadsAll s.heap us ds as
 | [],_,_,h,r=>by
  cases h;cases r;exact⟨_,ReadsAll.nil⟩
 | d::ds,_,_,h,r=>by
  cases h with
  | cons h1 h2=>
   cases r with
   | cons r1 r2=>
    obtain⟨as,q1⟩:=Dp.reads I d _ _ h1 r1;obtain⟨bs,q2⟩:=Dp.readsAll I ds _ _ h2 r2;exact⟨_,ReadsAll.cons q1 q2⟩
end
end
section
variable {X:Cx}
def a1Z(K:a9):R2:=fun x y H Q=>∃d e,Dp K H x d/\Dp K H y e/\qY d=true/\qY e=true/\Q (.bl (kF d e)) H
def a20(K:a9):R2:=fun x y H Q=>∃d e,Dp K H x d/\Dp K H y e/\qY d=true/\qY e=true/\Q (.bl (!kF d e)) H
def UM(hu:X.A.units+64<Ed):Cg X (gY .Eq) (a1Z X.K):=by
 intro pins s σ H x y v u Q I rx ry h;obtain⟨d,e,hd,he,sd,se,q⟩:=h;obtain⟨as,r1⟩:=Dp.reads I d x v hd rx;obtain⟨bs,r2⟩:=Dp.reads I e y u he ry;exact SeqAt.compareEq_shaped r1 r2 sd se hu ⟨.bl _,H,I,rfl,q⟩
def a0g(hu:X.A.units+64<Ed):Cg X (gY .NotEq) (a20 X.K):=by
 intro pins s σ H x y v u Q I rx ry h;obtain⟨d,e,hd,he,sd,se,q⟩:=h;obtain⟨as,r1⟩:=Dp.reads I d x v hd rx;obtain⟨bs,r2⟩:=Dp.reads I e y u he ry;exact SeqAt.compareNe_shaped r1 r2 sd se hu ⟨.bl _,H,I,rfl,q⟩
end
abbrev UN(h:cy)(c:aI)(v:iF):Prop:=h.IsCell c v
def a3N(scope sc:jV):jV:=
 {scope with names:=scope.names.map fun(n,k)=>if(k == .free && sc.kind == .function && sc.names.lookup n == some .cell)then(n,.cell)else(n,k)}
def jm(cells:lR):List (cY×kE)->lR->lR
 | [],acc=>acc
 | (n,k)::r,acc=>if k == .free then jm cells r ((n,(cells.lookup n).getD 0)::acc)else jm cells r acc
theorem Dr(env:Env)(f:cY×kE->lR->GX (ForInStep lR))
  (hf:∀n k c,f (n,k) c=if k == .free then(do let a <-cellOf env n;pure (.yield ((n,a)::c)))else pure (.yield c)):
  ∀(names:List (cY×kE)) (acc:lR),(∀y∈names,y.2= .free->∃c,env.cells.lookup y.1=some c)->forIn names acc f=pure (jm env.cells names acc)
 | [],acc,_=>by rw[og];rfl
 | (n,k)::r,acc,h=>by
  rw[l0,hf];have ih:=fun acc=>Dr env f hf r acc fun y hy=>h y (az _ hy);unfold jm;by_cases hk:(k == px)=true
  ·rw[if_pos hk,if_pos hk];obtain⟨c,hc⟩:=h (n,k) aQ (by simpa using hk);have e:cellOf env n=pure c:=by unfold cellOf;rw[hc]
   rw[e];have e2:(env.cells.lookup n).getD 0=c:=by rw[hc];rfl
   rw[e2];exact ih _
  ·rw[if_neg hk,if_neg hk];exact ih _
def PB{scope:jV}{env:Env}(h:∀y∈scope.names,y.2= .free->∃c,env.cells.lookup y.1=some c):closureFor scope env=pure (jm env.cells scope.names []):=by
 simp only[closureFor];rw[Dr env _ (fun n k c=>rfl) scope.names [] h];rfl
theorem mem_lookup{α:Type}:∀{l:List (cY×α)} {n:cY} {c:α},(n,c)∈l->∃c',l.lookup n=some c'
 | (k,v)::r,n,c,h=>by
  rw[bP]
  cases hb:n == k with
  | true=>exact⟨_,rfl⟩
  | false=>
   rcases bQ.mp h with e | h
   ·cases e;simp at hb
   ·exact mem_lookup h
theorem wo{cells:lR}:∀{names:List (cY×kE)} {acc:lR} {n:cY} {c:aI},(n,c)∈jm cells names acc->(n,c)∈acc\/((n,.free)∈names/\c=(cells.lookup n).getD 0)
 | [],_,_,_,h=>.inl h
 | (m,k)::r,acc,n,c,h=>by
  unfold jm at h;split at h
  ·rename_i hk;have hk:k= .free:=by simpa using hk
   rcases wo h with h | ⟨h1,h2⟩
   ·rcases bQ.mp h with e | h
    ·cases e;exact .inr ⟨hk▸aQ,rfl⟩
    ·exact .inl h
   ·exact .inr ⟨az _ h1,h2⟩
  ·rcases wo h with h | ⟨h1,h2⟩
   ·exact .inl h
   ·exact .inr ⟨az _ h1,h2⟩
theorem A4{cells:lR}:∀{names:List (cY×kE)} {acc:lR} {p:cY×aI},p∈acc->p∈jm cells names acc
 | [],_,_,h=>h
 | (m,k)::r,acc,p,h=>by
  unfold jm;split
  ·exact A4 (az _ h)
  ·exact A4 h
theorem A5{cells:lR}:∀{names:List (cY×kE)} {acc:lR} {n:cY},(n,.free)∈names->(n,(cells.lookup n).getD 0)∈jm cells names acc
 | (m,k)::r,acc,n,h=>by
  unfold jm;rcases bQ.mp h with e | h
  ·cases e;exact A4 aQ
  ·split
   ·exact A5 h
   ·exact A5 h
theorem xo:∀{names:List (cY×kE)} {h:cy} {acc:lR} {x:cY} {c:aI},(x,c)∈gh h.objs.size names acc->
  (x,c)∈acc\/((x,.cell)∈names/\h.objs.size<=c/\UN (sJ h names) c none)
 | [],_,_,_,_,h=>.inl h
 | (n,k)::r,h,acc,x,c,hm=>by
  unfold gh at hm;unfold sJ;split at hm
  ·rename_i hk;rw[if_pos hk];have hk:k= .cell:=by simpa using hk
   rw[<-dh h {cls:=.type "cell",data:=.cell none}]at hm;rcases xo hm with hm | ⟨h1,h2,h3⟩
   ·rcases bQ.mp hm with e | hm
    ·cases e;exact .inr ⟨hk▸aQ,ao _,_,ui r _ _ _ (bI _ rfl),rfl⟩
    ·exact .inl hm
   ·rw[dh]at h2;exact .inr ⟨az _ h1,qZ h2,h3⟩
  ·rename_i hk;rw[if_neg hk];rcases xo hm with hm | ⟨h1,h2,h3⟩
   ·exact .inl hm
   ·exact .inr ⟨az _ h1,h2,h3⟩
theorem B4:∀{names:List (cY×kE)} {n:Nat} {acc:lR} {p:cY×aI},p∈acc->p∈gh n names acc
 | [],_,_,_,h=>h
 | (m,k)::r,n,acc,p,h=>by
  unfold gh;split
  ·exact B4 (az _ h)
  ·exact B4 h
theorem EM:∀{names:List (cY×kE)} {n:Nat} {acc:lR} {x:cY},(x,.cell)∈names->∃c,(x,c)∈gh n names acc
 | (m,k)::r,n,acc,x,h=>by
  unfold gh;rcases bQ.mp h with e | h
  ·cases e;exact⟨n,B4 aQ⟩
  ·split
   ·exact EM h
   ·exact EM h
theorem EO:∀{names:List (cY×kE)} {h:cy} {acc:lR} {x y:cY} {c:aI},(∀p∈acc,p.2<h.objs.size)->(∀x y c,(x,c)∈acc->(y,c)∈acc->x=y)->
  (x,c)∈gh h.objs.size names acc->(y,c)∈gh h.objs.size names acc->x=y
 | [],_,_,_,_,_,_,hi,h1,h2=>hi _ _ _ h1 h2
 | (n,k)::r,h,acc,x,y,c,hl,hi,h1,h2=>by
  unfold gh at h1 h2;split at h1
  ·rename_i hk;rw[if_pos hk]at h2;rw[<-dh h {cls:=.type "cell",data:=.cell none}]at h1 h2;refine EO (h:=h.push _) (fun p hp=>?_) (fun x y c a b=>?_) h1 h2
   ·rw[dh];rcases bQ.mp hp with rfl | hp
    ·exact sq _
    ·exact qR (hl p hp)
   ·rcases bQ.mp a with e | a<;>rcases bQ.mp b with e' | b
    ·cases e;cases e';rfl
    ·cases e;exact absurd (hl _ b) (kj _)
    ·cases e';exact absurd (hl _ a) (kj _)
    ·exact hi _ _ _ a b
  ·rename_i hk;rw[if_neg hk]at h2;exact EO hl hi h1 h2
def NS{M:AA}{E:aH->ai->Prop}{s:ai}{scope:jV}{globals:aI}{MW:lR}{func:rj}{code:aH}{Q:Env->ai->Prop}
  (h:Q (newEnv scope s.heap.objs.size globals (gh (s.heap.objs.size+1) scope.names MW) fO func code (some a1r) builtins)
   {s with heap:=sJ (s.heap.push {cls:=.type "dict",data:=.dict #[]}) scope.names}):
  bO M A (newFunctionEnv scope globals MW [] fO func code (some a1r) builtins) Q E s:=by
 simp only[newFunctionEnv,pV,if_true];refine ae (wpAny_alloc ?_);refine ae (wpAny_layCells _ (fun n k c=>rfl) scope.names MW _ _ ?_);rw[show({s with heap:=s.heap.push {cls:=.type "dict",data:=.dict #[]}}:ai).heap.objs.size=s.heap.objs.size+1 from dh ..];rw[og];exact ae (aG (aG h))
theorem A6{sc:jV}:∀{names:List (cY×kE)} {x:cY} {k:kE},
  (names.map fun(n,k)=>if(k == px && sc.kind == .function && sc.names.lookup n == some .cell)then(n,C3)else(n,k)).lookup x=some k->
  ∃k',names.lookup x=some k'/\(k=k'\/(k'= .free/\k= .cell))
 | [],_,_,h=>by simp at h
 | (n,k₀)::r,x,k,h=>by
  have ih:= @A6 sc r x k;have h':my x ((if(k₀ == px && sc.kind == .function && sc.names.lookup n == some .cell)=true then(n,C3)else(n,k₀))::(r.map _))=some k:=h
  cases hx:x == n with
  | true=>
   simp only[bP,hx];by_cases hc:(k₀ == px && sc.kind == .function && sc.names.lookup n == some .cell)=true
   ·rw[if_pos hc]at h';simp only[bP,hx]at h';cases h';simp only[c8,beq_iff_eq]at hc;exact⟨k₀,rfl,.inr ⟨hc.1.1,rfl⟩⟩
   ·rw[if_neg hc]at h';simp only[bP,hx]at h';cases h';exact⟨_,rfl,.inl rfl⟩
  | false=>
   simp only[bP,hx];by_cases hc:(k₀ == px && sc.kind == .function && sc.names.lookup n == some .cell)=true
   ·rw[if_pos hc]at h';simp only[bP,hx]at h';exact ih h'
   ·rw[if_neg hc]at h';simp only[bP,hx]at h';exact ih h'
structure z9(N:bS)(sc scope:jV)(own:zO):Prop where
 kind:scope.kind= .function
 uniq:∀y∈scope.names,scope.names.lookup y.1=some y.2
 ix:∀p∈own,N[p.2]? =some p.1
 free:∀y∈scope.names,y.2= .free->sc.names.lookup y.1=some .cell\/sc.names.lookup y.1=some .free
 own:∀y∈scope.names,y.2= .local\/y.2= .cell->y.1∈own.map (·.1)\/y.1∉N
def wipe(σ:St):bL->St
 | []=>σ
 | v::vs=>(wipe σ vs).set v none
theorem mw(σ:St):∀vs:bL,(wipe σ vs).length=σ.length
 | []=>rfl
 | v::vs=>by unfold wipe;rw[pN,mw σ vs]
theorem B5{σ:St}{i:Nat}:∀{vs:bL},(wipe σ vs)[i]? =some (some x)->σ[i]? =some (some x)/\i∉vs
 | [],h=>⟨h,by simp⟩
 | v::vs,h=>by
  unfold wipe at h;by_cases hi:v=i
  ·subst hi;by_cases hv:v<(wipe σ vs).length
   ·rw[bt hv]at h;cases h
   ·rw[bT (by simpa using hv)]at h;cases h
  ·rw[bf hi]at h;obtain⟨h1,h2⟩:=B5 h;exact⟨h1,by simp only[bQ,not_or];exact⟨fun e=>hi e.symm,h2⟩⟩
abbrev Cx.La(X:Cx)(s:ai)(H:Hp)(scope:jV)(qy:Env)(fp:kL):Cx:={X with GC:=s,H_0:=H,env:=qy,outer:=X.stack,ex:=fp,fn:=fun x=>scope.names.lookup x == some .cell,pn:=[],xe:=fun _ _=>False}
section
variable {X:Cx}{pins:List (aI×uC)}{σ:St}{H:Hp}{s:ai}
def NT{scope:jV}{own:zO}{fp:kL}(I:Inv X pins σ H s)(ok:z9 X.N X.env.scope scope own)(hN:X.N.Nodup)(hfp:∀b∈fp,GD X pins H b/\b<s.heap.objs.size):
  Inv (X.La s H scope (mh scope (gh (s.heap.objs.size+1) scope.names (jm X.env.cells scope.names [])) s.heap.objs.size X.env) fp) [] (wipe σ (own.map (·.2))) H {s with heap:=sJ (s.heap.push {cls:=.type "dict",data:=.dict #[]}) scope.names}:=by
 have Lz:∀y∈scope.names,y.2= .free->∃c,X.env.cells.lookup y.1=some c:=fun y hy e=>by
  rcases ok.free y hy e with k | k
  ·exact I.ok.has _ (.inl k)
  ·exact I.ok.has _ (.inr k)
 generalize NU:mh scope (gh (s.heap.objs.size+1) scope.names (jm X.env.cells scope.names [])) s.heap.objs.size X.env=qy;have kp:∀b o,s.heap.get? b=some o->(sJ (s.heap.push {cls:=.type "dict",data:=.dict #[]}) scope.names).get? b=some o:=fun b o e=>ui _ _ _ _ (af _ e);have hL:qy.locals=s.heap.objs.size:=by rw[<-NU];rfl
 have Yu:qy.cells=gh (s.heap.objs.size+1) scope.names (jm X.env.cells scope.names []):=by rw[<-NU];rfl
 have BY:qy.scope=a3N scope X.env.scope:=by rw[<-NU];rfl
 rw[<-dh s.heap {cls:=.type "dict",data:=.dict #[]}]at Yu;have cm:∀{y c},(y,c)∈jm X.env.cells scope.names []->X.env.cells.lookup y=some c/\c<s.heap.objs.size:=fun {y c} hm=>by
  rcases wo hm with hm | ⟨h1,rfl⟩
  ·cases hm
  ·obtain⟨c,hc⟩:=Lz _ h1 rfl;rw[hc];obtain⟨w,z⟩:=I.cell _ _ hc;exact⟨rfl,z.lt⟩
 have mem:∀{y c},qy.cells.lookup y=some c->(X.env.cells.lookup y=some c/\c<s.heap.objs.size)\/(s.heap.objs.size+1<=c/\UN (sJ (s.heap.push {cls:=.type "dict",data:=.dict #[]}) scope.names) c none):=fun {y c} e=>by
  rw[Yu]at e;rcases xo (cK e)with hm | ⟨_,h2,h3⟩
  ·exact .inl (cm hm)
  ·rw[dh]at h2;exact .inr ⟨h2,h3⟩
 have look:∀{y},scope.names.lookup y=some .free->∃c,qy.cells.lookup y=some c/\X.env.cells.lookup y=some c:=fun {y} hl=>by
  have hy:(y,px)∈scope.names:=cK hl;obtain⟨c',e'⟩:=mem_lookup (B4 (names:=scope.names) (n:=(s.heap.push {cls:=.type "dict",data:=.dict #[]}).objs.size) (A5 (cells:=X.env.cells) (acc:=[]) hy));rw[<-Yu]at e';refine⟨c',e',?_⟩;rw[Yu]at e';rcases xo (cK e')with hm | ⟨h1,_,_⟩
  ·exact(cm hm).1
  ·have:=ok.uniq _ h1;rw[hl]at this;cases this
 have okB:(X.La s H scope qy fp).Ok:=by
  refine⟨I.ok.mod,by show qy.scope.kind=_;rw[BY];exact ok.kind,by show qy.globals=_;rw[<-NU];exact I.ok.glob,by show qy.builtins=_;rw[<-NU];exact I.ok.blt,by show s.heap.objs.size<=qy.locals;rw[hL];exact ao _,
   fun y z c e1 e2=>?_,fun y hy=>?_,fun y c z e=>?_,I.ok.hd,I.ok.frames,.inl rfl,fun b hb=>⟨?_,fun y c e z=>?_⟩,I.bs,bq I.ok.Si I.sz,fun b o e hb=>?_,fun b hb z=>?_,I.stack,I.LU⟩
  ·have e1:qy.cells.lookup y=some c:=e1;have e2:qy.cells.lookup z=some c:=e2;rw[Yu]at e1 e2;refine EO (fun p hp=>?_) (fun y z c a b=>I.ok.inj y z c (cm a).1 (cm b).1) (cK e1) (cK e2);rw[dh];exact qR (cm (y:=p.1) (c:=p.2) hp).2
  ·show ∃c,qy.cells.lookup y=some c;have key:∀k,qy.kindOf y=some k->(k= .cell\/k= .free)->∃c,qy.cells.lookup y=some c:=fun k hk Zv=>by
    unfold Env.kindOf at hk;rw[BY]at hk;obtain⟨k',e,r⟩:=A6 hk;have:k'= .cell\/k'= .free:=by
     rcases r with rfl | ⟨rfl,_⟩
     ·exact Zv
     ·exact .inr rfl
    rcases this with rfl | rfl
    ·obtain⟨c,hm⟩:=EM (n:=(s.heap.push {cls:=.type "dict",data:=.dict #[]}).objs.size) (acc:=jm X.env.cells scope.names []) (cK e);obtain⟨c',e'⟩:=mem_lookup hm;exact⟨c',by rw[Yu];exact e'⟩
    ·obtain⟨c,h1,_⟩:=look e;exact⟨c,h1⟩
   rcases hy with hy | hy
   ·exact key _ hy (.inl rfl)
   ·exact key _ hy (.inr rfl)
  ·have z:(scope.names.lookup y == some C3)=true:=z;have z:scope.names.lookup y=some .cell:=by simpa using z
   have e:qy.cells.lookup y=some c:=e;rw[Yu]at e;rcases xo (cK e)with hm | ⟨_,h2,_⟩
   ·rcases wo hm with hm | ⟨h1,_⟩
    ·cases hm
    ·have q:=ok.uniq _ h1;rw[z]at q;cases q
   ·rw[dh]at h2;exact qZ h2
  ·show b≠qy.locals;rw[hL];exact cC (hfp b hb).2
  ·have e:qy.cells.lookup y=some c:=e;rcases mem e with⟨h1,_⟩ | ⟨h1,_⟩
   ·exact(hfp b hb).1.2.2.2.2.1 y c h1 z
   ·have h2:s.heap.objs.size+1<=b:=by rw[<-z];exact h1
    exact absurd (bz (hfp b hb).2 (qZ h2)) (kj _)
  ·rcases(hfp b hb).1.2.2.2.1 with z | z
   ·exact I.ok.NC b o e z
   ·exact absurd (bz (aM e) (bq I.ok.Si z)) (kj _)
  ·rcases bQ.mp (I.Pl b z)with z | z
   ·exact(hfp b hb).1.2.1 z
   ·exact(hfp b hb).1.2.2.1 z
 refine⟨okB,rfl,I.bare,Un.kept kp,⟨fun _=>none,?_,fun i y av e1 e2 e3=>?_⟩,fun y c e=>?_,?_,fun y c e=>?_,fun p hp=>?_,I.hok.kept kp,by rw[mw];exact I.len⟩
 ·show cy.Ns _ qy.locals _;rw[hL];exact cy.Ns.keeps (cy.Ns.new ..) fun b o e=>ui _ _ _ _ e
 ·obtain⟨e2,uN⟩:=B5 e2;have Jy:scope.names.lookup y=some .free/\(qy.kindOf y=some .cell\/qy.kindOf y=some .free):=by
   have key:∀k,qy.scope.names.lookup y=some k->k= .local\/k= .cell\/k= .free->scope.names.lookup y=some .free/\(qy.kindOf y=some .cell\/qy.kindOf y=some .free):=fun k hk Zv=>by
    have hk0:=hk;rw[BY]at hk;obtain⟨k',e,r⟩:=A6 hk;have no:¬(k'= .local\/k'= .cell):=fun hh=>by
     rcases ok.own _ (cK e) hh with e' | e'
     ·obtain⟨p,hp,hpy⟩:=aZ.mp e';have e3:=ok.ix p hp;have:p.1=y:=hpy;rw[this]at e3;exact uN (aZ.mpr ⟨p,hp,HU hN e3 e1⟩)
     ·exact e' (aD e1)
    rcases r with rfl | ⟨rfl,rfl⟩
    ·rcases Zv with rfl | rfl | rfl
     ·exact absurd (.inl rfl) no
     ·exact absurd (.inr rfl) no
     ·exact⟨e,.inr hk0⟩
    ·exact⟨e,.inl hk0⟩
   have e3:KS qy.scope y:=e3;rcases e3 with e3 | e3 | e3
   ·exact key _ e3 (.inl rfl)
   ·exact key _ e3 (.inr (.inl rfl))
   ·exact key _ e3 (.inr (.inr rfl))
  obtain⟨m,hn,hl⟩:=I.loc;have a3O:KS X.env.scope y:=(ok.free _ (cK Jy.1) rfl).elim (fun k=>.inr (.inl k)) (fun k=>.inr (.inr k));obtain⟨w,r,q⟩:=hl i y av e1 e2 a3O;refine⟨w,r,.inr ⟨Jy.2,?_⟩⟩;obtain⟨c,h1,h2⟩:=look Jy.1;rcases q with⟨k,_⟩ | ⟨_,c',e',z⟩
  ·have k:X.env.scope.names.lookup y=some .local:=k
   rcases ok.free _ (cK Jy.1) rfl with k' | k'<;>rw[show X.env.scope.names.lookup y=_ from k']at k<;>cases k
  ·rw[h2]at e';cases e';exact⟨c,h1,z.keeps kp⟩
 ·have e:qy.cells.lookup y=some c:=e;rcases mem e with⟨h1,_⟩ | ⟨_,z⟩
  ·obtain⟨w,z⟩:=I.cell y c h1;exact⟨w,z.keeps kp⟩
  ·exact⟨_,z⟩
 ·show H qy.locals=none;rw[hL];exact I.hok.fresh (ao _)
 ·have e:qy.cells.lookup y=some c:=e;rcases mem e with⟨h1,_⟩ | ⟨h1,_⟩
  ·exact I.uq y c h1
  ·exact I.hok.fresh (qZ h1)
 ·exact absurd (show p∈([]:Pn)++[]from hp) (!1)
def a0h{E:aH->ai->Prop}{D:aI}{xs:cV}{Q:aH->ai->Prop}(I:Inv X pins σ H s)(hD:H D=some (.lst xs))(hz:xs.length<bC)(r:RelV y v)
  (h:∀s',Inv X pins σ (upd H D (.lst (xs++[y]))) s'->Q .none s'):wj X (call (.builtin "list.append") [.ref D,v]) Q E s:=by
 obtain⟨hz',eI,n,ri,e⟩:=I.hok D _ hD;have hl:=ri.length;refine append_at (hsz:=by rw[bu];omega) e fun h' sb TL=>?_;refine h {s with heap:=h'} (I.write (t':=s.toks) (by rw[hD];trivial) (.inl rfl) (fun b u hb q=>(sb.2 b hb).trans q) ⟨_,TL⟩ ⟨by rw[aE];exact hz,eI++[v],n+1,ri.append (.cons r .nil),?_⟩);rw[TL];simp
def PTs(X:Cx)(wC:jT)(t:TT):Prop:=
 ∀(pins:Pn) (s:ai) (σ:St) (H:Hp) (Q:Bool->Hp->Prop),Inv X pins σ H s->t σ H Q->
  wj X (forIn wC true fun c r=>if r=true then do let ok <-JH c X.env (fX c X.env);pure (uj ok)else pure (uj r)) (TP X pins σ Q) X.xe s
def a3P:TT:=fun _ H Q=>Q true H
def Xd:PTs X [] a3P:=fun _ _ _ H _ I h=>wpAny_tests_nil ⟨H,I,h⟩
def Xe{t:TT}(h:PT X c t):PTs X [c] t:=fun pins s σ H Q I hw=>wpAny_tests_one (h pins s σ H Q I hw)
end
def Sz{α:Type}{t:GX α}{Q Q':α->ai->Prop}{M:AA}{E:aH->ai->Prop}(h:bO M A t Q (fun _ _=>False) s)(hQ:∀a s,Q a s->Q' a s):bO M A t Q' E s:=ik h hQ fun _ _ z=>gN z
def M9{R:MZ->ai->Prop}{w8 target iter:du}{wC:jT}{it acc:aH}(I:Nat->ai->Prop)
  (turn:∀n s,I n s->bO (c9 prog w) A (uf it) (fun r s₁=>match r with
   | none=>R (.ok .next) s₁
   | some v=>bO (c9 prog w) A (ug target it v) (fun _ s₁'=>bO (c9 prog w) A (AB target env v) (fun _ s₂=>
     bO (c9 prog w) A (forIn wC true fun c r=>if r=true then do let ok <-JH c env (fX c env);pure (uj ok)else pure (uj r)) (fun ok s₃=>
      if ok=true then bO (c9 prog w) A (fX w8 env) (fun x s₄=>
       bO (c9 prog w) A (call (.builtin "list.append") [acc,x]) (fun _ s₅=>∃m,m<n/\I m s₅) (Ei (c9 prog w) A env fun e s'=>R (.error e) s') s₄) (Ei (c9 prog w) A env fun e s'=>R (.error e) s') s₃
      else ∃m,m<n/\I m s₃) (Ei (c9 prog w) A env fun e s'=>R (.error e) s') s₂) (Ei (c9 prog w) A env fun e s'=>R (.error e) s') s₁') (Ei (c9 prog w) A env fun e s'=>R (.error e) s') s₁) (Ei (c9 prog w) A env fun e s'=>R (.error e) s') s)
  (n:Nat)(h:I n s):
  sZ (c9 prog w) A (.compLoop (.ListComp w8 [⟨target,iter,wC,0⟩] scope pos) 0 it acc env) R s:=by
 refine codeAny_loop rfl I (fun n s hI=>?_) n h;show bO _ A ((compTurn (.ListComp w8 [⟨target,iter,wC,0⟩] scope pos) 0 it acc env).onRaise (fun x=>do sL x env;theTreesLotGoes x)) _ _ s;refine wpAny_noted ?_;rw[compTurn_list];refine ae (mZ (ae (ik (turn n s hI) (fun r s₁ h₁=>?_) fun _ _ h'=>h')))
 cases r with
 | none=>exact aG h₁
 | some v=>
  refine ae (ik h₁ (fun _ s₁' h₁'=>?_) fun _ _ h'=>h');refine ae (ik h₁' (fun _ s₂ h₂=>ae (ik h₂ (fun ok s₃ h₃=>?_) fun _ _ h'=>h')) fun _ _ h'=>h')
  cases ok with
  | false=>exact aG ⟨rfl,h₃⟩
  | true=>
   exact ae (ae (ik h₃ (fun x s₄ h₄=>ae (ik h₄ (fun _ s₅ h₅=>aG (aG ⟨rfl,h₅⟩)) fun _ _ h'=>h')) fun _ _ h'=>h'))
section
variable {X:Cx}
def tLc(wi:TI)(g:TG)(tt:TT)(te:TE)(vs:bL):TE:=fun σ H Q=>wi σ H fun J H1=>∀D,H1 D=none->∃W:Nat->Nat->Hp->Prop,(∃m,W 0 m (upd H1 D (.lst [])))/\∀i m H,W i m H->
 (J.stop i H/\Q (.ref D) H)\/(J.go i H/\∃Nx:Hp->Prop,(∀H',Nx H'->∃m',m'<m/\W (i+1) m' H')/\∀x H',J.yld i H x H'->g x (wipe σ vs) H' fun σ2 H2=>wipe σ2 vs=wipe σ vs/\tt σ2 H2 fun b H3=>
  if b=true then te σ2 H3 fun y H4=>∃acc,H4 D=some (.lst acc)/\acc.length<bC/\Nx (upd H4 D (.lst (acc++[y])))else Nx H3)
def R3{pins:Pn}{Q:VK}{w8 tg iter:du}{wC:jT}{own:zO}{pos rk:mH}{wi:TI}{g:TG}{tt:TT}{te:TE}{use:Option (aH->GX Unit)}{Qf:aH->ai->Prop}
  (hc:X.calm=true)(hN:X.N.Nodup)(I:Inv X pins σ H s)(hi:PI X tg iter wi)(ok:z9 X.N X.env.scope scope own)
  (hg:∀(s:ai) (H:Hp) (C:aI) (cl:lR) (fp:kL),PG (X.La s H scope (mh scope cl C X.env) fp) tg g)(ht:∀(s:ai) (H:Hp) (C:aI) (cl:lR) (fp:kL),PTs (X.La s H scope (mh scope cl C X.env) fp) wC tt)
  (he:∀(s:ai) (H:Hp) (C:aI) (cl:lR) (fp:kL),PE (X.La s H scope (mh scope cl C X.env) fp) w8 te)(hs:∀x,dA iter X.env x=pure x)
  (h:tLc wi g tt te (own.map (·.2)) σ H Q)
  (hRR:∀D C s' m H',Inv X pins σ H' s'->Q (.ref D) H'->s'.heap.Ns C m->GD X pins H' C->compPost (c9 X.prog X.w) X.A X.xe use Qf (.ref D) C (.ok .next) s'):
  wj X (comprehension (.ListComp w8 [⟨tg,iter,wC,0⟩] scope pos) scope X.env rk (newList []) false (fX iter X.env) use) Qf X.xe s:=by
 have Lz:∀y∈scope.names,y.2= .free->∃c,X.env.cells.lookup y.1=some c:=fun y hy e=>by
  rcases ok.free y hy e with k | k
  ·exact I.ok.has _ (.inl k)
  ·exact I.ok.has _ (.inr k)
 refine wpAny_comprehension_free (use:=use) rfl hs (PB Lz) ok.kind (fun y hy e=>by rw[ok.uniq y hy,e])
  (lh (hi pins s σ H _ I h) fun xv s1 hx=>lh hx fun itv s2 h2=>?_)
 obtain⟨it,fp,tn,J,H2,e,I2,T,st2,f2,q⟩:=h2;subst e;refine wpAny_newObj_type (NS ?_) (by show 0<=bC;decide);generalize hD:s2.heap.objs.size=D;have hDn:H2 D=none:=I2.hok.fresh (uQ hD);obtain⟨W,⟨m0,w0⟩,turn⟩:=q D hDn;generalize hs3:({s2 with heap:=s2.heap.push {cls:=.type "list",data:=.seq ([]:fk).toArray}}:ai)=s3;have I3:Inv X pins σ (upd H2 D (.lst [])) s3:=by
  rw[<-hs3];refine I2.laid (t':=s2.toks) (fun b o e=>af _ e) (uQ hD) ⟨gW _,[],0,.nil,?_⟩;rw[<-hD];exact bI _ rfl
 have h3:s3.heap=s2.heap.push {cls:=.type "list",data:=.seq ([]:fk).toArray}:=by rw[<-hs3]
 have sz:∀b∈fp,b<s2.heap.objs.size:=fun b hb=>by
  obtain⟨o,e,_⟩:=T.obj _ _ st2 b hb;exact aM e
 have f3:∀b∈fp,GD X pins (upd H2 D (.lst [])) b/\b<s3.heap.objs.size:=fun b hb=>by
  have Pa:=sz b hb;refine⟨⟨?_,(f2 b hb).2⟩,by rw[h3,dh];exact qR Pa⟩;rw[aL (by rw[<-hD];exact cC Pa)];exact(f2 b hb).1
 have st3:tn 0 s3.heap:=T.keep _ _ _ st2 fun b _ o e=>by rw[h3];exact af _ e
 have I4:=NT I3 ok hN f3;have pg:=hg s3 (upd H2 D (.lst [])) s3.heap.objs.size (gh (s3.heap.objs.size+1) scope.names (jm X.env.cells scope.names [])) fp;have pt:=ht s3 (upd H2 D (.lst [])) s3.heap.objs.size (gh (s3.heap.objs.size+1) scope.names (jm X.env.cells scope.names [])) fp;have pe:=he s3 (upd H2 D (.lst [])) s3.heap.objs.size (gh (s3.heap.objs.size+1) scope.names (jm X.env.cells scope.names [])) fp;show sZ _ _ (.compStart (.ListComp w8 [⟨tg,iter,wC,0⟩] scope pos) 0 (.ref it) (.ref D) (mh scope (gh (s3.heap.objs.size+1) scope.names (jm X.env.cells scope.names [])) s3.heap.objs.size X.env)) (compPost (c9 X.prog X.w) X.A X.xe use Qf (.ref D) s3.heap.objs.size) {s3 with heap:=sJ (s3.heap.push {cls:=.type "dict",data:=.dict #[]}) scope.names};have nfp:∀b∈fp,(upd H2 D (.lst [])) b=none:=fun b hb=>(f3 b hb).1.1;generalize hce:mh scope (gh (s3.heap.objs.size+1) scope.names (jm X.env.cells scope.names [])) s3.heap.objs.size X.env=ce at I4 pg pt pe ⊢;have cL:ce.locals=s3.heap.objs.size:=by subst hce;rfl
 generalize hH3:upd H2 D (.lst [])=H3 at I3 I4 pg pt pe w0 nfp f3;generalize hs4:({s3 with heap:=sJ (s3.heap.push {cls:=.type "dict",data:=.dict #[]}) scope.names}:ai)=s4 at I4 ⊢;have st4:tn 0 s4.heap:=T.keep _ _ _ st3 fun b _ o e=>by rw[<-hs4];exact ui _ _ _ _ (af _ e)
 have Pq:∀{σ':St} {H':Hp} {s':ai},Inv (X.La s3 H3 scope ce fp) [] σ' H' s'->(∀b∈fp,H' b=none)->∀b∈fp,GD (X.La s3 H3 scope ce fp) [] H' b:=fun {σ' H' s'} I' hn b hb=>
  ⟨hn b hb,(I'.ok.ZO b hb).1,I'.ok.ND b hb,.inl hb,fun x c e=>(I'.ok.ZO b hb).2 x c e,fun p hp=>absurd (show p∈([]:Pn)++[]from hp) (!1)⟩
 have loop:sZ (c9 X.prog X.w) X.A (.compLoop (.ListComp w8 [⟨tg,iter,wC,0⟩] scope pos) 0 (.ref it) (.ref D) ce) (compPost (c9 X.prog X.w) X.A X.xe use Qf (.ref D) s3.heap.objs.size) s4:=by
  refine M9 (fun n s'=>∃i H',Inv (X.La s3 H3 scope ce fp) [] (wipe σ (own.map (·.2))) H' s'/\tn i s'.heap/\(∀b∈fp,H' b=none)/\W i n H') ?_ m0 ⟨0,H3,I4,st4,nfp,w0⟩;rintro n s5 ⟨i,H5,I5,st5,n5,w5⟩;rcases turn i n H5 w5 with⟨stop,qq⟩ | ⟨go,Nx,hNx,step⟩
  ·have td:=T.done (X.La s3 H3 scope ce fp) rfl rfl rfl hc i [] s5 _ H5 (fun _ _=>False) I5 (Pq I5 n5) st5 stop;refine Sz td ?_;rintro r s6 ⟨hr,I6⟩;subst hr;have I7:Inv X pins σ H5 s6:=I3.Ul (ch:=fp) I6.os I6.base I6.hok I6.bare fun b hb=>⟨(f3 b hb).1.2.2.2.1,(f3 b hb).1.2.1,(f3 b hb).1.2.2.2.2.1,(f3 b hb).1.2.2.2.2.2⟩;have nC:H5 s3.heap.objs.size=none:=by
    have z:H5 ce.locals=none:=I6.free;rw[cL]at z;exact z
   obtain⟨m,hn,_⟩:=I6.loc;have hn:s6.heap.Ns ce.locals m:=hn;rw[cL]at hn;exact hRR D s3.heap.objs.size s6 m H5 I7 qq hn (I3.Po (ao _) nC)
  ·have ti:=T.item (X.La s3 H3 scope ce fp) rfl rfl rfl hc i [] s5 _ H5 (fun _ _=>False) I5 (Pq I5 n5) st5 go;refine Sz ti ?_;rintro r s6 ⟨u,hr,h6⟩;subst hr;refine Sz h6 ?_;rintro _ s7 ⟨x,H7,I7,r7,y7,st7,n7⟩;have I7':=I7.pinned (Pq I7 n7) (T.obj _ _ st7);refine Sz (pg _ s7 _ H7 x u _ I7' r7 (step x H7 y7)) ?_;rintro _ s8 ⟨σ8,H8,I8,hw8,q8⟩;refine Sz (pt _ s8 σ8 H8 _ I8 q8) ?_;rintro b s9 ⟨H9,I9,q9⟩;have fin:∀{s':ai} {H':Hp},Inv (X.La s3 H3 scope ce fp) ([]++HY fp s7.heap) σ8 H' s'->Nx H'->∃m,m<n/\∃i H',Inv (X.La s3 H3 scope ce fp) [] (wipe σ (own.map (·.2))) H' s'/\tn i s'.heap/\(∀b∈fp,H' b=none)/\W i m H':=fun {s' H'} I' nx=>by
    obtain⟨m',hm,w'⟩:=hNx H' nx
    have a21:∀b∈fp,∀o,s7.heap.get? b=some o->s'.heap.get? b=some o/\H' b=none:=fun b hb o e=>
     let z:=I'.pin (b,o) (eF _ (eF _ (Cf hb e)))
     ⟨z.1,z.2.1⟩
    have hl:(wipe σ (own.map (·.2))).length=σ8.length:=by rw[<-hw8,mw]
    refine⟨m',hm,i+1,H',(I'.Dk (pins:=[])).weak hl (fun j v e=>?_),T.keep _ _ _ st7 fun b hb o e=>(a21 b hb o e).1,fun b hb=>?_,w'⟩
    ·rw[<-hw8]at e;exact(B5 e).1
    ·obtain⟨o,e,_⟩:=T.obj _ _ st7 b hb;exact(a21 b hb o e).2
   cases b with
   | false=>
    simp only[bU,if_false]at q9 ⊢;exact fin I9 q9
   | true=>
    simp only[if_true]at q9 ⊢;refine Sz (pe _ s9 σ8 H9 _ I9 q9) ?_;rintro z s10 ⟨yv,H10,I10,r10,acc,a3Q,a3R,nx⟩;exact a0h (X:=X.La s3 H3 scope ce fp) I10 a3Q a3R r10 fun s11 I11=>fin I11 nx
 exact codeAny_compStart_list loop (T.self X.A 0 _ _ _ st4 loop)
def YU{w8 tg iter:du}{wC:jT}{own:zO}{wi:TI}{g:TG}{tt:TT}{te:TE}(hc:X.calm=true)(hN:X.N.Nodup)(hi:PI X tg iter wi)(ok:z9 X.N X.env.scope scope own)
  (hg:∀(s:ai) (H:Hp) (C:aI) (cl:lR) (fp:kL),PG (X.La s H scope (mh scope cl C X.env) fp) tg g)(ht:∀(s:ai) (H:Hp) (C:aI) (cl:lR) (fp:kL),PTs (X.La s H scope (mh scope cl C X.env) fp) wC tt)
  (he:∀(s:ai) (H:Hp) (C:aI) (cl:lR) (fp:kL),PE (X.La s H scope (mh scope cl C X.env) fp) w8 te)(hs:∀x,dA iter X.env x=pure x:=by intro _;rfl):
  PE X (.ListComp w8 [⟨tg,iter,wC,0⟩] scope pos) (tLc wi g tt te (own.map (·.2))):=by
 intro pins s σ H Q I h;rw[eval_ListComp];refine R3 hc hN I hi ok hg ht he hs h fun D C s' m H' I' q hn f=>⟨m,hn,fun QA sb=>?_⟩;obtain⟨f0,f1,f2,f3,f4,f5⟩:=f;exact⟨.ref D,H',I'.turned (t':=s'.toks) (fun b o hb e=>(sb.2 b hb).trans e) f0 f1 f3 f4 f5,rfl,q⟩
def UO{i:Nat}{w8 tg iter:du}{wC:jT}{own:zO}{pos Jz:mH}{wi:TI}{g:TG}{tt:TT}{te:TE}(hc:X.calm=true)(hN:X.N.Nodup)(hy:X.N[i]? =some y)(Yr:X.env.scope.names.lookup y=some .local)
  (hsw:dj (.ListComp w8 [⟨tg,iter,wC,0⟩] scope pos) (some (.Name y py)) Jz.line X.env=pure true)(hi:PI X tg iter wi)(ok:z9 X.N X.env.scope scope own)
  (hg:∀(s:ai) (H:Hp) (C:aI) (cl:lR) (fp:kL),PG (X.La s H scope (mh scope cl C X.env) fp) tg g)(ht:∀(s:ai) (H:Hp) (C:aI) (cl:lR) (fp:kL),PTs (X.La s H scope (mh scope cl C X.env) fp) wC tt)
  (he:∀(s:ai) (H:Hp) (C:aI) (cl:lR) (fp:kL),PE (X.La s H scope (mh scope cl C X.env) fp) w8 te)(hs:∀x,dA iter X.env x=pure x:=by intro _;rfl):
  PS X (.Assign [.Name y py] (.ListComp w8 [⟨tg,iter,wC,0⟩] scope pos) Jz) (ZX (tLc wi g tt te (own.map (·.2))) (KY i)):=by
 intro pins s σ H D I h;rw[exec_Assign_Name_used _ _ _ _ hsw];refine ae (mZ (ae ?_));show bO _ X.A (do let _ <-comprehension (.ListComp w8 [⟨tg,iter,wC,0⟩] scope pos) scope X.env (firstIterPos [⟨tg,iter,wC,0⟩] pos) (newList []) false (fX iter X.env) (some (AB (.Name y py) X.env))) _ _ s;have h:tLc wi g tt te (own.map (·.2)) σ H (fun x H1=>KY i x σ H1 D.nx):=h;refine ae (lh (R3 (Qf:=fun _ s'=>SP X pins D .next s') hc hN I hi ok hg ht he hs h fun L C s' m H' I' q hn f=>?_) fun _ s' hq=>aG (aG hq));show bO _ _ (AB (.Name y py) X.env (.ref L)) _ _ _;refine wpAny_assign_Name (KU (v:=V.ref L) I' hN hy (.inl Yr) rfl ?_ (.inr Yr));rintro s2 I2 ⟨a,sb,ha⟩;obtain⟨f0,f1,f2,f3,f4,f5⟩:=f;have haC:C≠a:=by
  rcases ha with z | z
  ·rw[z];exact f1
  ·exact fun e=>f4 y a z e.symm
 refine⟨m,hn.sameBut sb haC,fun h3 sb3=>?_⟩;exact⟨_,H',I2.turned (t':=s2.toks) (fun b o hb e=>(sb3.2 b hb).trans e) f0 f1 f3 f4 f5,q⟩
def R4{gs:List Comprehension}{scope:jV}{pos py:mH}{l:Nat}{env:Env}(hk:env.scope.kind= .function)(hy:env.scope.names.lookup y=some .local)(hl:(py.line == pos.line)=true)
  (ha:(scope.names.any fun(n,k)=>n == y && (k == .local || k == .cell))=false):dj (.ListComp w8 gs scope pos) (some (.Name y py)) l env=pure true:=by
 have ky:env.kindOf y=some .local:=hy;have hb:env.blockKind= .function:=by unfold Env.blockKind;rw[hk];rfl
 unfold dj;simp only[hb,ky,ha,show(du.ListComp w8 gs scope pos).pos=pos from rfl,hl];rfl
end
def a22(N:bS)(sc scope:jV)(own:zO):Bool:=
 (match scope.kind with | .function=>true | _=>false) && (scope.names.all fun y=>decide (scope.names.lookup y.1=some y.2)) && (own.all fun p=>decide (N[p.2]? =some p.1)) &&
  (scope.names.all fun y=>match y.2 with
   | .free=>(match sc.names.lookup y.1 with | some .cell=>true | some .free=>true | _=>false)
   | .local=>decide (y.1∈own.map (·.1)) || decide (y.1∉N)
   | .cell=>decide (y.1∈own.map (·.1)) || decide (y.1∉N)
   | _=>true)
def iI{N:bS}{sc scope:jV}{own:zO}(h:a22 N sc scope own=true):z9 N sc scope own:=by
 unfold a22 at h;simp only[c8,cp,decide_eq_true_eq]at h;obtain⟨⟨⟨h1,h2⟩,h3⟩,h4⟩:=h;refine⟨?_,h2,h3,fun y hy e=>?_,fun y hy e=>?_⟩
 ·split at h1
  ·assumption
  ·cases h1
 ·have q:=h4 y hy;simp only[e]at q
  split at q<;>first | exact .inl (by assumption) | exact .inr (by assumption) | cases q
 ·have q:=h4 y hy
  rcases e with e | e<;>(simp only[e,ud,decide_eq_true_eq]at q;exact q)
theorem vg{σ:St}{i:Nat}:∀{vs:bL},i∉vs->(wipe σ vs)[i]? =σ[i]?
 | [],_=>rfl
 | v::vs,h=>by
  have h1:v≠i:=fun e=>h (by rw[e];exact aQ);have h2:i∉vs:=fun m=>h (az _ m);unfold wipe;rw[bf h1];exact vg h2
section
variable {κ:Type} [DecidableEq κ]
def Ij(ji:List (κ×V))(k:κ):Option V:=(ji.find? fun kv=>decide (kv.1=k)).map (·.2)
def putK(ji:List (κ×V))(k:κ)(v:V):List (κ×V):=
 if(ji.any fun kv=>decide (kv.1=k))=true then ji.map (fun kv=>if kv.1=k then(kv.1,v)else kv)else ji++[(k,v)]
def Ik{p:κ×V}{r:List (κ×V)}{k:κ}(e:p.1=k):Ij (p::r) k=some p.2:=by simp[Ij,l6,e]
def Il{p:κ×V}{r:List (κ×V)}{k:κ}(e:¬p.1=k):Ij (p::r) k=Ij r k:=by simp[Ij,l6,e]
def NV(ji:List (κ×V))(k:κ)(v:V):(putK ji k v).length<=ji.length+1:=by
 unfold putK;split
 ·rw[aa];omega
 ·rw[aE,ah,bY];omega
def Ce.getD{o:Option V}{u:iF}(r:Ce o u)(rd:RelV d d'):RelV (o.getD d) (u.getD d'):=by
 cases o with
 | none=>cases u with
  | none=>exact rd
  | some _=>exact(show False from r).elim
 | some _=>cases u with
  | none=>exact(show False from r).elim
  | some _=>exact r
def KV.val{ji:List (κ×V)}{vs:List (κ×aH)}(r:KV ji vs)(k:κ):Ce (Ij ji k) (Ej vs k):=by
 unfold KV at r
 induction r with
 | nil=>exact yQ
 | @cons p q ps qs h t ih=>
  obtain⟨h1,h2⟩:=h;by_cases e:p.1=k
  ·have e':q.1=k:=h1.symm.trans e;have b:Ej (q::qs) k=some q.2:=by simp[Ej,l6,e']
   rw[Ik e,b];exact h2
  ·have e':¬q.1=k:=fun z=>e (h1.trans z);have b:Ej (q::qs) k=Ej qs k:=by simp[Ej,l6,e']
   rw[Il e,b];exact ih
def KV.any{ji:List (κ×V)}{vs:List (κ×aH)}(r:KV ji vs)(k:κ):(ji.any fun kv=>decide (kv.1=k))=vs.any fun kv=>decide (kv.1=k):=by
 unfold KV at r
 induction r with
 | nil=>rfl
 | cons h t ih=>rw[pw,pw,ih,h.1]
def KV.repl{ji:List (κ×V)}{vs:List (κ×aH)}(r:KV ji vs)(k:κ)(ry:RelV y u):
  KV (ji.map fun kv=>if kv.1=k then(kv.1,y)else kv) (vs.map fun kv=>if kv.1=k then(kv.1,u)else kv):=by
 unfold KV at r ⊢
 induction r with
 | nil=>exact .nil
 | @cons p q ps qs h t ih=>
  rw[cM,cM];refine .cons ?_ ih;obtain⟨h1,h2⟩:=h;by_cases e:p.1=k
  ·rw[if_pos e,if_pos (h1.symm.trans e)];exact⟨h1,ry⟩
  ·rw[if_neg e,if_neg (fun z=>e (h1.trans z))];exact⟨h1,h2⟩
def KV.put{ji:List (κ×V)}{vs:List (κ×aH)}(r:KV ji vs)(k:κ)(ry:RelV y u):KV (putK ji k y) (stored vs k u):=by
 unfold putK stored;rw[r.any k];by_cases e:(vs.any fun kv=>decide (kv.1=k))=true
 ·rw[if_pos e,if_pos e];exact r.repl k ry
 ·rw[if_neg e,if_neg e];exact JF.snoc r ⟨rfl,ry⟩
def KV.length{ji:List (κ×V)}{vs:List (κ×aH)}(r:KV ji vs):ji.length=vs.length:=Kp r
end
def YV{k:Key}(r:RelV (kV k) u):(kH P w).is k u=true:=by
 cases k with
 | inl i=>obtain⟨t,e⟩:=(show ∃t,u=uW i t from r);subst e;exact NA P w i t
 | inr x=>obtain⟨t,e⟩:=(show ∃t,u=Fv x t from r);subst e;exact NB P w x t
theorem Lb:∀{ks:List Key} {us:fk},Vals (ks.map kV) us->ItemsAre (kH P w) ks us
 | [],_,r=>by rw[ib]at r;cases r;exact .nil
 | k::ks,_,r=>by
  rw[cM]at r
  cases r with
  | cons h t=>exact .cons (YV h) (Lb t)
abbrev KT(H:Hp):List (List Key×V)->List (List Key×aI×aH)->Prop:=JF fun p q=>p.1=q.1/\H q.2.1=some (.tup (p.1.map kV))/\RelV p.2 q.2.2
def KT.val{ji:List (List Key×V)}{xs:List (List Key×aI×aH)}(r:KT H ji xs)(k:List Key):Ce (Ij ji k) ((atKey xs k).map (·.2)):=by
 induction r with
 | nil=>exact yQ
 | @cons p q ps qs h t ih=>
  obtain⟨h1,_,h2⟩:=h;by_cases e:p.1=k
  ·have e':q.1=k:=h1.symm.trans e;have b:atKey (q::qs) k=some q.2:=by simp[atKey,l6,e']
   rw[Ik e,b];exact h2
  ·have e':¬q.1=k:=fun z=>e (h1.trans z);have b:atKey (q::qs) k=atKey qs k:=by simp[atKey,l6,e']
   rw[Il e,b];exact ih
section
variable {P:bp}{w:cH}{H:Hp}{h:cy}{a:aI}
def YW{u:HO}(ok:D1 P w H h)(e:Rd H a u):jK P w H h a u:=e.ok ok
def YX{ji:List (Key×V)}(ok:D1 P w H h)(e:Rd H a (.dK ji)):ji.length<=bC/\(a == sx)=false/\∃vs,KV ji vs/\h.DictOf (kH P w) a vs:=
 show jK P w H h a (.dK ji)from YW ok e
def UP{ks:List Key}(ok:D1 P w H h)(e:H a=some (.tup (ks.map kV))):(Bn (kH P w)).is h ks a:=by
 obtain⟨_,eI,r,o,h1,h2,n,h3⟩:=(show jK P w H h a (.tup (ks.map kV))from ok a _ e);exact⟨o,eI.toArray,n,h1,h2,h3,by simpa using Lb r⟩
def YY{ji:List (List Key×V)}(ok:D1 P w H h)(e:Rd H a (.dT ji)):ji.length<=bC/\(a == sx)=false/\
  ∃xs,KT H ji xs/\h.DictOfH (Bn (kH P w)) a xs:=by
 obtain⟨z,y,xs,r,o,es,ep,h1,h2,h3,h4,h5⟩:=(show jK P w H h a (.dT ji)from YW ok e);refine⟨z,y,xs,r,o,es,ep,h1,h2,h3,h4,fun x hx=>?_,h5⟩;have all:∀{l:List (List Key×V)} {m:List (List Key×aI×aH)},KT H l m->∀x∈m,(Bn (kH P w)).is h x.1 x.2.1:=by
  intro l m q
  induction q with
  | nil=>intro x hx;exact nomatch hx
  | @cons p q ps qs hq t ih=>
   intro x hx;rcases bQ.mp hx with e | hx
   ·subst e;exact UP ok (by rw[<-hq.1];exact hq.2.1)
   ·exact ih x hx
 exact all r x hx
end
def UQ(H:Hp)(a:aI)(y:V)(r:Option V):Prop:=
 (∃ji k,Rd H a (.dK ji)/\y=kV k/\r=Ij ji k)\/∃ji k b,Rd H a (.dT ji)/\y= .ref b/\H b=some (.tup (k.map kV))/\r=Ij ji k
def UQ.k{H:Hp}{ji:List (Key×V)}{k:Key}(e:H a=some (.dK ji)):UQ H a (kV k) (Ij ji k):=.inl ⟨ji,k,.inl e,rfl,rfl⟩
section
variable {X:Cx}{pins:List (aI×uC)}{σ:St}{H:Hp}{s:ai}{a:aI}{y v:V}{u r:aH}{o:Option V}{A:dD}{E:aH->ai->Prop}
def Inv.big(I:Inv X pins σ H s):sx<s.heap.objs.size:=by
 have h:bE<s.heap.objs.size:=(I.mod.glob.keeps I.bk).lt;exact uR ck h
end
def a0i(i:du):Prop:=∀ov iv,AI i false ov iv=operate [ov,iv] (Hw ov iv)
def Xf{E:aH->ai->Prop}{oM slice:du}{T id:String}{Q:aH->ai->Prop}
  (hl:vL (.type T) "__getitem__" =pure (some (.builtin id)))(hs:a0i slice)
  (h:bO (c9 prog w) A (fX oM env) (fun o s₁=>bO (c9 prog w) A (fX slice env) (fun i s₂=>s₂.TypeIs o T/\bO (c9 prog w) A (Hw o i) Q E s₂) E s₁) E s):
  bO (c9 prog w) A (fX (.Subscript oM slice pos) env) Q E s:=by
 refine JN (ik h (fun o s₁ h₁=>ik h₁ (fun i s₂ h₂=>?_) fun _ _ x=>x) fun _ _ x=>x);obtain⟨hT,h₂⟩:=h₂;unfold C2;refine ae ?_;rw[getitemInPython_of_ne hT.not_modules];refine ae (wpAny_specialOf hT hl ?_);have fin:bO (c9 prog w) A (AI slice false o i) (fun r s₃=>bO (c9 prog w) A (letTemporaryGo oM o r >>= fun _=>pure r) Q E s₃) E s₂:=by
  rw[hs o i];exact wpAny_operating (ik h₂ (fun r s₃ h₃=>ae (wpAny_letTemporaryGo (aG h₃))) fun _ _ x=>x)
 first
  | exact aG (ae fin)
  | exact ae (aG (ae fin))
  | exact ae fin
def vh(ji more:List (Key×V)):List (Key×V):=more.foldl (fun acc kv=>putK acc kv.1 kv.2) ji
def KV.merge:∀{more:List (Key×V)} {rs:List (Key×aH)} {ji:List (Key×V)} {vs:List (Key×aH)},KV more rs->KV ji vs->KV (vh ji more) (merged vs rs):=by
 intro more rs ji vs r;unfold KV at r
 induction r generalizing ji vs with
 | nil=>intro q;exact q
 | @cons p q ps qs h t ih=>
  intro r0;have e:KV (putK ji p.1 p.2) (stored vs q.1 q.2):=by
   have:=r0.put p.1 h.2;rw[<-h.1];exact this
  exact ih e
theorem BV:∀(more ji:List (Key×V)),(vh ji more).length<=ji.length+more.length
 | [],ji=>by show ji.length<=ji.length+0;omega
 | p::r,ji=>by
  have h1:=BV r (putK ji p.1 p.2);have h2:=NV ji p.1 p.2;show(vh (putK ji p.1 p.2) r).length<=_;rw[ah];omega
structure M2(X:Cx)(o:du)(m:cY)(apos:mH)(e f:du)(jb:mH):Prop where
 base:Uk X o m
 few:((nt jb (dM [e,f] X.env)).all (fun x=>!x.1) && (mS jb (iX [] X.env)).all (fun x=>x.1.isSome)
  && decide (([e,f]:jT).length+([]:List Keyword).length+(if([]:List Keyword).isEmpty then 0 else 1)<30))=true
 line:(apos.endLine == jb.line)=true
 trees:nt jb (dM [e,f] X.env)=[(false,fX e X.env),(false,fX f X.env)]
def IsD(H:Hp)(a:aI):Prop:=(∃ji,Rd H a (.dK ji))\/∃ji,Rd H a (.dT ji)
def a0j{pins:Pn}{s:ai}(I:Inv X pins σ H s)(d:IsD H a):
  s.TypeIs (.ref a) "dict"/\(∀b,cj a= .ref b->∃ob,s.heap.get? b=some ob/\ob.dict=none)/\(a == sx)=false:=by
 rcases d with⟨ji,e⟩ | ⟨ji,e⟩
 ·obtain⟨_,hd,vs,_,dd⟩:=YX I.hok e;refine⟨dd.typeIs,fun b q=>?_,hd⟩;cases q;obtain⟨ob,_,_,h1,h2,_⟩:=dd;exact⟨ob,h1,h2.2.1⟩
 ·obtain⟨_,hd,xs,_,dd⟩:=YY I.hok e;refine⟨dd.typeIs,fun b q=>?_,hd⟩;cases q;obtain⟨ob,_,_,h1,h2,_⟩:=dd;exact⟨ob,h1,h2.2.1⟩
section
variable {X:Cx}{pins:List (aI×uC)}{σ:St}{H:Hp}{s:ai}{a:aI}{y d:V}{u r:aH}{o:Option V}{A:dD}{E:aH->ai->Prop}
def a0k{Q:aH->ai->Prop}(hu:A.units+1<Ed)(I:Inv X pins σ H s)(g:UQ H a y o)(ry:RelV y u)(rd:RelV d r)(h:∀w' s',Inv X pins σ H s'->RelV (o.getD d) w'->Q w' s'):
  bO (c9 X.prog X.w) A (call (.builtin "dict.get") [.ref a,u,r]) Q E s:=by
 rcases g with⟨ji,k,e,ey,l⟩ | ⟨ji,k,b,e,ey,eb,l⟩
 ·subst ey;obtain⟨z,hd,vs,rel,dd⟩:=YX I.hok e;refine call_meetsIn rC dd.typeIs yU (xF _ _ _) (meets_dict_get_default (kH X.prog X.w) a (YV ry) hd r) ⟨_,dd.mapOf,h _ _ (I.tok _) ?_⟩;rw[l];exact(rel.val k).getD rd
 ·subst ey;cases(show u=cj b from ry);obtain⟨z,hd,xs,rel,dd⟩:=YY I.hok e;refine call_meetsIn rC dd.typeIs yU (xF _ _ _) (meetsH_dict_get_default (Bn (kH X.prog X.w)) a b hd r) ⟨tupleKind_room_in1 hu,k,xs,UP I.hok eb,dd,h _ _ (I.tok _) ?_⟩;rw[l];exact(rel.val k).getD rd
end
def a0l(td ty tx:TE):TE:=fun σ H Q=>td σ H fun x H1=>∃a,x= .ref a/\IsD H1 a/\ty σ H1 fun y H2=>tx σ H2 fun z H3=>∃o,UQ H3 a y o/\Q (o.getD z) H3
section
variable {X:Cx}{o e f:du}{apos jb:mH}{td ty tx:TE}
def UR(hu:X.A.units+1<Ed)(ho:PE X o td)(he:PE X e ty)(hf:PE X f tx)(m:M2 X o "get" apos e f jb):PE X (.Call (.Attribute o "get" apos) [e,f] [] jb) (a0l td ty tx):=by
 intro pins s σ H Q I h;refine wpAny_Call_method m.base m.few m.line PySem.F.plainAttrs_dict rC PySem.F.type_dict_get (lh (ho pins s σ H _ I h) ?_);rintro u s1 ⟨x,H1,I1,rx,a,ex,d,q1⟩;subst ex;obtain rfl:u=cj a:=rx;obtain⟨t1,t2,_⟩:=a0j I1 d;refine⟨t1,t2,?_⟩;rw[m.trees]
 refine yT rfl (AJ (pW (lh (he pins s1 σ H1 _ I1 q1) fun iv s2 ⟨y,H2,I2,ry,q2⟩=>
  pW (lh (hf pins s2 σ H2 _ I2 q2) fun fv s3 ⟨z,H3,I3,rz,ov,g,q3⟩=>wG ?_))))
 exact a0k hu I3 g ry rz fun w' s4 I4 rw'=>⟨_,H3,I4,rw',q3⟩
end
def NW:entryFor table "dict.update.loop" =some oI.«dict.update.loop»:=entryFor_of_tree (by kernel_rfl)
def A7:plainId "dict.update.loop" =true:=by decide+kernel
section
variable {X:Cx}{pins:List (aI×uC)}{σ:St}{H:Hp}{s:ai}{h':cy}
def Inv.R5{t':Nat}{ch:kL}(I:Inv X pins σ H s)(k:∀b o,b∉ch->s.heap.get? b=some o->h'.get? b=some o)(hf:∀b∈ch,GD X pins H b):Inv X pins σ H {s with heap:=h',toks:=t'}:=by
 have YG:∀b u,H b=some u->b∉ch:=fun b u e z=>by
  have q:=(hf b z).1;rw[q]at e;cases e
 refine I.step (g':=s.gens) (d':=s.drawn) (ch:=ch) (fun b hb=>⟨(hf b hb).2.2.2.1,(hf b hb).2.1,(hf b hb).2.2.2.2.1,(hf b hb).2.2.2.2.2⟩) (fun b o _ _ hc e _=>k b o hc e) (fun b o _ _ hc e _=>⟨o.slots,k b o hc e⟩)
  (fun _ _ _ _ n=>n) (fun b o hc e=>⟨o,k b o hc e⟩) (fun _ _ e=>e) (fun _ _ _ e=>e) (fun b ps e=>⟨#[],by rw[e];simp⟩) (fun m hm=>?_) (fun b u e=>?_) I.bare
 ·obtain⟨o,es,ep,ho,r⟩:=hm;exact⟨o,es,ep,k _ o (fun z=>(hf _ z).2.1 rfl) ho,r⟩
 ·refine(I.hok b u e).stay (fun c v hc q=>k c v ?_ q) (fun _ q=>q) fun _ _ q=>q;rcases hc with z | z
  ·rw[z];exact YG b u e
  ·exact YG c _ z
def Inv.ER{t':Nat}{ch:kL}{T:aI}{ob:HO}(I:Inv X pins σ H s)(k:∀b o,b∉ch->s.heap.get? b=some o->h'.get? b=some o)(hf:∀b∈ch,GD X pins H b)(hT:s.heap.objs.size<=T)
  (new:jK X.prog X.w (upd H T ob) h' T ob):Inv X pins σ (upd H T ob) {s with heap:=h',toks:=t'}:=by
 have hn:H T=none:=I.hok.fresh hT;have YG:∀b u,H b=some u->b∉ch:=fun b u e z=>by
  have q:=(hf b z).1;rw[q]at e;cases e
 refine I.step (g':=s.gens) (d':=s.drawn) (ch:=ch) (fun b hb=>⟨(hf b hb).2.2.2.1,(hf b hb).2.1,(hf b hb).2.2.2.2.1,(hf b hb).2.2.2.2.2⟩) (fun b o _ _ hc e _=>k b o hc e) (fun b o _ _ hc e _=>⟨o.slots,k b o hc e⟩)
  (fun b o _ e n=>?_) (fun b o hc e=>⟨o,k b o hc e⟩) (fun b xs e=>?_) (fun b o u e=>?_) (fun b ps e=>⟨#[],?_⟩) (fun m hm=>?_) (fun b u e=>?_) I.bare
 ·rw[aL (cC (bz (aM e) hT))];exact n
 ·rw[aL (bo e hn)];exact e
 ·rw[aL (bo e hn)];exact e
 ·rw[aL (bo e hn),e];simp
 ·obtain⟨o,es,ep,ho,r⟩:=hm;exact⟨o,es,ep,k _ o (fun z=>(hf _ z).2.1 rfl) ho,r⟩
 ·by_cases hb:b=T
  ·subst hb;rw[aU]at e;cases e;exact new
  ·rw[aL hb]at e;refine(I.hok b u e).stay (fun c v hc q=>k c v ?_ q) (fun c q=>by rw[aL (bo q hn)];exact q) fun c xs q=>by rw[aL (bo q hn)];exact q
   rcases hc with z | z
   ·rw[z];exact YG b u e
   ·exact YG c _ z
end
section
variable {X:Cx}
def a0m{pins:Pn}{s:ai}{R:It->Hp->Prop}{J:It}{tn:Nat->cy->Prop}{tk:Nat}(I:Inv X pins σ H s)(o:uC)
  (T:Turn X.prog X.w X.K tg J [s.heap.objs.size] s.heap.objs.size tn)(st:tn 0 (s.heap.push o))(q:R J H):PIE X pins σ tg R (.ref s.heap.objs.size) {s with heap:=s.heap.push o,toks:=tk}:=by
 refine⟨s.heap.objs.size,[s.heap.objs.size],tn,J,H,rfl,I.kept fun b ob e=>af _ e,T,st,fun b hb=>?_,q⟩;have e:b=s.heap.objs.size:=by simpa using hb
 subst e;exact I.Po (ao _) (I.hok.fresh (ao _))
end
def Itc(lo c:Int)(n:Nat):It:=⟨fun i _=>i<n,fun i H x H'=>H'=H/\x= .int (lo+(i:Nat)*c),fun i _=>n<=i⟩
def NX{K:a9}(it:aI)(lo c:Int)(n:Nat):Turn P w K tg (Itc lo c n) [it] it (fun i h=>AD h it (lo+(i:Nat)*c) ((n:Int)-(i:Nat)) c) where
 mem:=by simp
 obj:=fun i h st b hb=>by
  have e:b=it:=by simpa using hb
  subst e;exact⟨_,st,fun v z=>nomatch z⟩
 keep:=fun i h h' st k=>k it (!1) _ st
 item:=by
  intro X hP hw hK hc i pins s σ H E I hf st hg;subst hP hw hK;obtain⟨f0,f1,f2,f3,f4,f5⟩:=hf it (!1);have W:=Walks.range (prog:=X.prog) (w:=X.w) (I.ok.hd hc) it lo c n;refine W.item i s _ _ hg st fun v h' tk hv D4 kk=>?_;obtain⟨t,rfl⟩:=hv;have I1:Inv X pins σ H {s with heap:=h',toks:=tk}:=I.turned (fun b o hb e=>kk b o (by simpa using hb) e) f0 f1 f3 f4 f5;exact⟨_,rfl,Uw (s:={s with heap:=h',toks:=tk}) (n:="range_iterator") D4 rfl rfl ck ⟨.int (lo+(i:Nat)*c),H,I1,⟨t,rfl⟩,⟨rfl,rfl⟩,D4,fun b hb=>(hf b hb).1⟩⟩
 done:=by
  intro X hP hw hK hc i pins s σ H E I hf st hg;subst hP hw hK;obtain⟨f0,f1,f2,f3,f4,f5⟩:=hf it (!1);exact yN (I.ok.hd hc) st (by have:n<=i:=hg;omega) fun h' eb=>⟨rfl,I.turned (t':=s.toks) (fun b o hb e=>eb b o hb e) f0 f1 f3 f4 f5⟩
 self:=fun A i s Q E st h=>yO st h
def RgC(i j c:Int)(n:Nat):Prop:=c≠0/\c.natAbs<1073741824/\BD i j c=true/\iu i j c=n
def a23(ta:TA):TI:=fun σ H R=>ta σ H fun vs H1=>∃(i j c:Int) (n:Nat),vs=[.int i,.int j,.int c]/\RgC i j c n/\R (Itc i c n) H1
section
variable {X:Cx}{tg:du}
def SA{a b c:du}{ta:TA}{p pos:mH}(hg:Gl X "range")(hm:X.mg "range" =none)(ha:PA X [a,b,c] ta)
  (hs:SE X a [b,c]:=by rfl)(hpl:ya X pos [b,c]:=by rfl):
  PI X tg (.Call (.Name "range" p) [a,b,c] [] pos) (a23 ta):=by
 intro pins s σ H R I h;refine Call_ (vc I hg hm CO (dz (lh (ha pos pins s σ H _ I h) ?_) hs hpl));rintro us s1 ⟨vs,H1,I1,r1,q1⟩;obtain⟨i,j,k,n,e,⟨c0,c1,c2,c3⟩,q⟩:=q1;subst e
 cases r1 with
 | cons r rr=>
  cases rr with
  | cons r' rr=>
   cases rr with
   | cons r'' rr=>
    cases rr;obtain⟨t,rfl⟩:=r;obtain⟨t',rfl⟩:=r';obtain⟨t'',rfl⟩:=r'';refine call_range_3 c0 ?_ (.inl (PyProof.noPylong_small c1));refine CN (OZ ..) c2 ?_;have I2:Inv X pins σ H1 {s1 with heap:=s1.heap.push {cls:=.type "range",data:=.fields #[.int i t,.int j t',.int k t'']}}:=I1.kept (t':=s1.toks) fun b o e=>af _ e;refine a0m (tk:=s1.toks) I2 _ (NX _ i k n) ?_ q;have e1:i+((0:Nat):Int)*k=i:=by simp
    have e2:(n:Int)-((0:Nat):Int)=iu i j k:=by rw[c3];simp
    show AD _ _ (i+((0:Nat):Int)*k) ((n:Int)-((0:Nat):Int)) k;rw[e1,e2];exact bI _ rfl
end
def Ite(K:a9)(a:aI):It:=
 ⟨fun i H=>∃(xs:cV) (x:V),lC K H a xs/\xs[i]? =some x,fun i H v H'=>∃T x,v= .ref T/\H T=none/\H'=upd H T (.tup [.int (i:Nat),x])/\∀xs,lC K H a xs->xs[i]? =some x,fun i H=>∃xs:cV,lC K H a xs/\xs.length<=i⟩
def SD{K:a9}{Aq:jT}{kk:Nat}(a e it:aI):
  Turn P w K (.Tuple Aq kk Fq) (Ite K a) [e,it] e (fun i h=>(∃old,IsEnum h e it ((i:Nat):Int) old)/\h.IsListIter it a i/\e≠it) where
 mem:=by simp
 obj:=fun i h st b hb=>by
  obtain⟨⟨old,he⟩,⟨o,ho,hc,hd⟩,_⟩:=st;have e':b=e\/b=it:=by simpa using hb
  rcases e' with z | z
  ·rw[z];exact⟨_,he,fun v q=>nomatch q⟩
  ·rw[z];exact⟨o,ho,fun v q=>by rw[hd]at q;cases q⟩
 keep:=fun i h h' st k=>let⟨⟨old,he⟩,hi,uN⟩:=st;⟨⟨old,k e (!1) _ he⟩,hi.at fun o q=>k it (!1) o q,uN⟩
 item:=by
  intro X hP hw hK hc i pins s σ H E I hf st hg;subst hP hw hK;obtain⟨⟨old,he⟩,hit,uN⟩:=st;obtain⟨xs,x,hq,hx⟩:=hg;obtain⟨eI,rv,p,hz⟩:=I.list hq;obtain⟨u,hu,ru⟩:=rv.get hx;have hel:e<s.heap.objs.size:=aM he;have ED:it<s.heap.objs.size:=by obtain⟨_,q,_⟩:=hit;exact aM q
  refine wpAny_pyNext_enum_item he hit p.isList (x:=u) (by simpa using hu) uN fun h' ho a3S hT hsz hk=>?_;refine⟨_,rfl,wpAny_letOwnedTupleGo_enum (s:={s with heap:=h',toks:=s.toks+1}) ho fun QA he' sb=>?_⟩;have hT2:QA.get? s.heap.objs.size=some {cls:=.type "tuple",data:=.seq #[.int i s.toks,u]}:=(sb.2 _ (jo hel)).trans hT;have new:jK X.prog X.w (upd H s.heap.objs.size (.tup [.int (i:Nat),x])) QA s.heap.objs.size (.tup [.int (i:Nat),x]):=
   ⟨by show 2<=bC;decide,[.int i s.toks,u],.cons ⟨_,rfl⟩ (.cons ru .nil),⟨_,hT2,rfl,_,rfl⟩⟩
  have I1:Inv X pins σ (upd H s.heap.objs.size (.tup [.int (i:Nat),x])) {s with heap:=QA,toks:=s.toks+1}:=
   I.ER (ch:=[e,it]) (fun b ob hb q=>(sb.2 b (fun z=>hb (by simp[z]))).trans (hk b ob (fun z=>hb (by simp[z])) (fun z=>hb (by simp[z])) q)) hf (ao _) new
  refine⟨.ref s.heap.objs.size,_,I1,rfl,⟨_,x,rfl,I.hok.fresh (ao _),rfl,fun ys hy=>by rw[I.vd hy hq];exact hx⟩,⟨⟨u,?_⟩,a3S.at fun o q=>(sb.2 it (g0 uN)).trans q,uN⟩,fun b hb=>?_⟩
  ·have e1:((i+1:Nat):Int)=(i:Int)+1:=!0
   rw[e1];exact he'
  ·have hb':b<s.heap.objs.size:=by
    have e':b=e\/b=it:=by simpa using hb
    rcases e' with z | z
    ·rw[z];exact hel
    ·rw[z];exact ED
   rw[aL (cC hb')];exact(hf b hb).1
 done:=by
  intro X hP hw hK hc i pins s σ H E I hf st hg;subst hP hw hK;obtain⟨⟨old,he⟩,hit,uN⟩:=st;obtain⟨xs,hq,hx⟩:=hg;obtain⟨eI,rv,p,hz⟩:=I.list hq;obtain⟨f0,f1,f2,f3,f4,f5⟩:=hf it (!1);have hl:=rv.length;exact wpAny_pyNext_enum_end (I.ok.hd hc) he hit p.isList (by simp;omega) fun h' eb=>⟨rfl,I.turned (t':=s.toks) (fun b o hb q=>eb b o hb q) f0 f1 f3 f4 f5⟩
 self:=fun A i s Q E st h=>let⟨⟨_,he⟩,_⟩:=st;wpAny_pyIter_enum he h
def a24(K:a9)(ta:TA):TI:=fun σ H R=>ta σ H fun vs H1=>∃a xs,vs=[.ref a]/\lC K H1 a xs/\R (Ite K a) H1
def Xg{X:Cx}{e:du}{ta:TA}{p pos Fq:mH}{Aq:jT}{kk:Nat}(hg:Gl X "enumerate")(hm:X.mg "enumerate" =none)(ha:PA X [e] ta)(hs:SE X e []:=by rfl):
  PI X (.Tuple Aq kk Fq) (.Call (.Name "enumerate" p) [e] [] pos) (a24 X.K ta):=by
 intro pins s σ H R I h;refine Call_ (vc I hg hm boot_enumerate (dz (lh (ha pos pins s σ H _ I h) ?_) hs rfl));rintro us s1 ⟨vs,H1,I1,r1,q1⟩;obtain⟨a,xs,ex,hq,q⟩:=q1;subst ex
 cases r1 with
 | cons r rr=>
  cases rr;cases r;obtain⟨eI,rv,p',hz⟩:=I1.list hq;refine call_enumerate_list p'.isList fun h' he hit hsz hk=>wpAny_pyIter_enum he ?_;have I2:Inv X pins σ H1 {s1 with heap:=h'}:=I1.kept (t':=s1.toks) hk;refine⟨s1.heap.objs.size+1,[s1.heap.objs.size+1,s1.heap.objs.size],_,_,H1,rfl,I2,SD a (s1.heap.objs.size+1) s1.heap.objs.size,⟨⟨.none,he⟩,hit,Nat.succ_ne_self _⟩,fun b hb=>?_,q⟩;have e':b=s1.heap.objs.size+1\/b=s1.heap.objs.size:=by simpa using hb
  have Tx:s1.heap.objs.size<=b:=by
   rcases e' with z | z
   ·rw[z];exact eP _ _
   ·rw[z];exact ao _
  exact I1.Po Tx (I1.hok.fresh Tx)
def ES:fE "zip" =some (.type "zip"):=by decide+kernel
def Itz(K:a9)(a b:aI):It:=
 ⟨fun i H=>∃(xs ys:cV) (x y:V),lC K H a xs/\lC K H b ys/\xs[i]? =some x/\ys[i]? =some y,
  fun i H v H'=>∃T x y,v= .ref T/\H T=none/\H'=upd H T (.tup [x,y])/\(∀xs,lC K H a xs->xs[i]? =some x)/\∀ys,lC K H b ys->ys[i]? =some y,
  fun i H=>∃xs ys:cV,lC K H a xs/\lC K H b ys/\(xs.length<=i\/ys.length<=i)⟩
def US{K:a9}{Aq:jT}{kk:Nat}{a b z TI TO i1 i2:aI}(D:xG z TI TO i1 i2 a b):
  Turn P w K (.Tuple Aq kk Fq) (Itz K a b) [z,TI,TO,i1,i2] z (fun i h=>tU h z TI TO .none/\pX h TI (.ref i1) (.ref i2)/\(∃x y,pX h TO x y)/\h.IsListIter i1 a i/\h.IsListIter i2 b i) where
 mem:=by simp
 obj:=fun i h st c hc=>by
  obtain⟨hz,ub,⟨x,y,xU⟩,⟨o1,e1,_,d1⟩,⟨o2,e2,_,d2⟩⟩:=st;have e':c=z\/c=TI\/c=TO\/c=i1\/c=i2:=by simpa using hc
  rcases e' with q | q | q | q | q
  ·rw[q];exact⟨_,hz,fun v q=>nomatch q⟩
  ·rw[q];exact⟨_,ub,fun v q=>nomatch q⟩
  ·rw[q];exact⟨_,xU,fun v q=>nomatch q⟩
  ·rw[q];exact⟨o1,e1,fun v q=>by rw[d1]at q;cases q⟩
  ·rw[q];exact⟨o2,e2,fun v q=>by rw[d2]at q;cases q⟩
 keep:=fun i h h' st k=>by
  obtain⟨hz,ub,⟨x,y,xU⟩,h1,h2⟩:=st;exact⟨k z (!1) _ hz,k TI (!1) _ ub,⟨x,y,k TO (!1) _ xU⟩,h1.at fun o q=>k i1 (!1) o q,h2.at fun o q=>k i2 (!1) o q⟩
 item:=by
  intro X hP hw hK hc i pins s σ H E I hf st hg;subst hP hw hK;obtain⟨hz,ub,⟨x0,y0,xU⟩,h1,h2⟩:=st;obtain⟨xs,ys,x,y,SG,UT,hx,hy⟩:=hg;obtain⟨eI,rv,p,_⟩:=I.list SG;obtain⟨yG,WH,p2,_⟩:=I.list UT;obtain⟨u,hu,ru⟩:=rv.get hx;obtain⟨u2,hu2,ru2⟩:=WH.get hy;have TF:z<s.heap.objs.size:=aM hz;refine zJ D hz ub xU h1 h2 p.isList p2.isList (x:=u) (y:=u2) (by simpa using hu) (by simpa using hu2) fun h' z' TO' WI h2' hT hsz hk=>?_;refine⟨_,rfl,wa (s:={s with heap:=h'}) z' fun QA z'' sb=>?_⟩;have hT2:QA.get? s.heap.objs.size=some {cls:=.type "tuple",data:=.seq #[u,u2]}:=(sb.2 _ (jo TF)).trans hT;have new:jK X.prog X.w (upd H s.heap.objs.size (.tup [x,y])) QA s.heap.objs.size (.tup [x,y]):=
   ⟨by show 2<=bC;decide,[u,u2],.cons ru (.cons ru2 .nil),⟨_,hT2,rfl,_,rfl⟩⟩
  have I1:Inv X pins σ (upd H s.heap.objs.size (.tup [x,y])) {s with heap:=QA}:=
   I.ER (t':=s.toks) (ch:=[z,TI,TO,i1,i2]) (fun c o hb q=>(sb.2 c (fun q'=>hb (by simp[q']))).trans (hk c o (fun q'=>hb (by simp[q'])) (fun q'=>hb (by simp[q'])) (fun q'=>hb (by simp[q'])) (fun q'=>hb (by simp[q'])) q)) hf (ao _) new
  refine⟨.ref s.heap.objs.size,_,I1,rfl,⟨_,x,y,rfl,I.hok.fresh (ao _),rfl,fun l hl=>by rw[I.vd hl SG];exact hx,fun l hl=>by rw[I.vd hl UT];exact hy⟩,⟨z'',?_,⟨u,u2,?_⟩,?_,?_⟩,fun c Xh=>?_⟩
  ·exact(sb.2 _ D.TIz).trans (hk _ _ D.TIz D.TITO D.TIi1 D.TIi2 ub)
  ·exact(sb.2 _ D.TOz).trans TO'
  ·exact WI.at fun o q=>(sb.2 _ D.i1z).trans q
  ·exact h2'.at fun o q=>(sb.2 _ D.i2z).trans q
  ·have Pa:c<s.heap.objs.size:=by
    have e':c=z\/c=TI\/c=TO\/c=i1\/c=i2:=by simpa using Xh
    rcases e' with q | q | q | q | q
    ·rw[q];exact TF
    ·rw[q];exact aM ub
    ·rw[q];exact aM xU
    ·rw[q];obtain⟨_,e1,_⟩:=h1;exact aM e1
    ·rw[q];obtain⟨_,e2,_⟩:=h2;exact aM e2
   rw[aL (cC Pa)];exact(hf c Xh).1
 done:=by
  intro X hP hw hK hc i pins s σ H E I hf st hg;subst hP hw hK;obtain⟨hz,ub,⟨x0,y0,xU⟩,h1,h2⟩:=st;obtain⟨xs,ys,SG,UT,hend⟩:=hg;obtain⟨eI,rv,p,_⟩:=I.list SG;obtain⟨yG,WH,p2,_⟩:=I.list UT;have l1:=rv.length;have l2:=WH.length;have he:eI.toArray[i]? =none\/yG.toArray[i]? =none:=by
   rcases hend with q | q
   ·exact .inl (by simp;omega)
   ·exact .inr (by simp;omega)
  exact AL (I.ok.hd hc) D hz ub xU h1 h2 p.isList p2.isList he fun h' hk=>⟨rfl,I.R5 (t':=s.toks) (ch:=[z,TI,TO,i1,i2]) (fun c o hb q=>
   hk c o (fun q'=>hb (by simp[q'])) (fun q'=>hb (by simp[q'])) (fun q'=>hb (by simp[q'])) (fun q'=>hb (by simp[q'])) q) hf⟩
 self:=fun A i s Q E st h=>oJ st.1 h
def a3T(K:a9)(ta:TA):TI:=fun σ H R=>ta σ H fun vs H1=>∃a b xs ys,vs=[.ref a,.ref b]/\lC K H1 a xs/\lC K H1 b ys/\R (Itz K a b) H1
def a0n{X:Cx}{e e2:du}{ta:TA}{p pos Fq:mH}{Aq:jT}{kk:Nat}(hg:Gl X "zip")(hm:X.mg "zip" =none)(ha:PA X [e,e2] ta)
  (hs:SE X e [e2]:=by rfl)(hpl:ya X pos [e2]:=by rfl):
  PI X (.Tuple Aq kk Fq) (.Call (.Name "zip" p) [e,e2] [] pos) (a3T X.K ta):=by
 intro pins s σ H R I h;refine Call_ (vc I hg hm ES (dz (lh (ha pos pins s σ H _ I h) ?_) hs hpl));rintro us s1 ⟨vs,H1,I1,r1,q1⟩;obtain⟨a,b,xs,ys,ex,SG,UT,q⟩:=q1;subst ex
 cases r1 with
 | cons r rr=>
  cases rr with
  | cons r' rr=>
   cases rr;cases r;cases r';obtain⟨eI,rv,p1,_⟩:=I1.list SG;obtain⟨yG,WH,p2,_⟩:=I1.list UT;have la:a<s1.heap.objs.size:=p1.lt;have lb:b<s1.heap.objs.size:=p2.lt;refine call_zip_2 p1.isList p2.isList fun h' hz ub xU h1 h2 hsz hk=>oJ hz ?_;have I2:Inv X pins σ H1 {s1 with heap:=h'}:=I1.kept (t':=s1.toks) hk;refine⟨s1.heap.objs.size+4,[s1.heap.objs.size+4,s1.heap.objs.size+2,s1.heap.objs.size+3,s1.heap.objs.size,s1.heap.objs.size+1],_,_,H1,rfl,I2,US (Ek s1.heap.objs.size a b la lb),⟨hz,ub,⟨_,_,xU⟩,h1,h2⟩,fun c Xh=>?_,q⟩;have e':c=s1.heap.objs.size+4\/c=s1.heap.objs.size+2\/c=s1.heap.objs.size+3\/c=s1.heap.objs.size\/c=s1.heap.objs.size+1:=by simpa using Xh
   have Tx:s1.heap.objs.size<=c:=by
    rcases e' with z | z | z | z | z
    ·rw[z];exact eP _ _
    ·rw[z];exact eP _ _
    ·rw[z];exact eP _ _
    ·rw[z];exact ao _
    ·rw[z];exact eP _ _
   exact I1.Po Tx (I1.hok.fresh Tx)
def inClass(s:di)(j:Nat):di:=match s with
 | .ClassDef _ _ _ body _ _ _ _ _ _ _=>body.getD j (.Pass ⟨0,0,0,0⟩)
 | _=>.Pass ⟨0,0,0,0⟩
def nA(s:di):Arguments:=match s with
 | .FunctionDef _ a _ _ _ _ _ _ _ _=>a
 | _=>{posonlyargs:=[],args:=[],vararg:=none,kwonlyargs:=[],kw_defaults:=[],kwarg:=none,defaults:=[]}
def aX(s:di):iT:=match s with
 | .FunctionDef _ _ b _ _ _ _ _ _ _=>b
 | _=>[]
def aj(s:di):jV:=match s with
 | .FunctionDef _ _ _ _ _ _ sc _ _ _=>sc
 | _=>{kind:=.function,names:=[],isGenerator:=false,isCoroutine:=false}
abbrev gE(s:di)(i:Nat):du:=match(aX s).getD i (.Pass ⟨0,0,0,0⟩)with
 | .Expr c _=>c
 | .If c _ _ _=>c
 | .Assign _ c _=>c
 | .While c _ _ _=>c
 | .For _ c _ _ _=>c
 | _=>.Constant .none 0 ⟨0,0,0,0⟩
abbrev gT(s:di)(i:Nat):du:=match(aX s).getD i (.Pass ⟨0,0,0,0⟩)with
 | .For c _ _ _ _=>c
 | _=>.Constant .none 0 ⟨0,0,0,0⟩
abbrev mx:NI:=fun _ _ _ _ _ _=>False
abbrev E0:XK:=fun _ _ _=>False
def zb:Passes mx X E0:=fun _ _ _ _ _ _ _ h=>h.elim
structure Hi(K:a9)(x fO:cY)(st:di)(f:aI)(fd:iL):Prop where
 ex:∃(oc:aH) (od:rj) (kV doc pm:aH) (an:rj) (dw ct:aH) (OW:BK),
  fd=fF x fO (nA st) (aX st) (aj st) .none kV doc pm an dw ct/\K.lookup f=some ⟨oc,od,.func fd,OW⟩/\AH K dw fO=true
 kp:i6 K (.ref f)=true
section
variable {P:bp}{w:cH}{K:a9}{mg:cY->iF}{base:cy}
def Hi.ok{x fO:cY}{st:di}{N ps:bS}{k:Nat}{sp:Sp}(F:Hi K x fO st f fd)(S:ba N ps (aj st))(len:∀vs H Q E,sp vs H Q E->vs.length=ps.length)
  (OX:∀(dw:aH) (A:dD) (outer:iC) (s:ai) (H:Hp) (vs:cV) (Q:VK) (E:XK),fZ k (A.deeper (jQ fO (aj st) s.heap.objs.size f dw))->sp vs H Q E->
   ∃t,FX (vW mx P w K mg base N fO (aj st) f dw A outer s H E).WW (aX st) t/\t {nx:=fun _ H'=>Q .fA H',rt:=Q} (start N vs) H):mq P w K mg base mx (k+1) f fd ps sp:=by
 obtain⟨oc,od,kV,doc,pm,an,dw,ct,OW,rfl,lk,qx⟩:=F.ex;refine QX lk qx S len fun A outer s H vs Q E hr hsp=>?_;obtain⟨t,h,q⟩:=OX dw A outer s H vs Q E hr hsp;exact⟨t,h.WW,q⟩
def Hi.binds{x fO:cY}{st:di}{ps:bS}(F:Hi K x fO st f fd)
  (h:∀(kV doc pm:aH) (an:rj) (dw ct:aH) (us:fk),us.length=ps.length->xE (fF x fO (nA st) (aX st) (aj st) .none kV doc pm an dw ct) ⟨us,[]⟩=pure (ps.zip us):=by walk_at "b"):Binds K fd ps []:=by
 obtain⟨oc,od,kV,doc,pm,an,dw,ct,OW,rfl,lk,qx⟩:=F.ex;exact .all (h kV doc pm an dw ct)
def Im{x fO:cY}{st:di}{oc:aH}{od an:rj}{OW:BK}{kV doc pm dw ct:aH}(l:K.lookup f=some ⟨oc,od,.func (fF x fO (nA st) (aX st) (aj st) .none kV doc pm an dw ct),OW⟩)
  (c:AH K dw fO=true)(k:i6 K (.ref f)=true):Hi K x fO st f (fF x fO (nA st) (aX st) (aj st) .none kV doc pm an dw ct):=⟨⟨oc,od,kV,doc,pm,an,dw,ct,OW,rfl,l,c⟩,k⟩
end
def a25{A:dD}{k:Nat}(hr:fZ k A):A.units+1<Ed:=ig (Nat.add_le_add_left (by decide:1<=64) _) hr.units
def xp{n:Nat}(h:n<=1000):n<bC:=ig h ck
section
variable {X:Cx}
def pv(i:Nat)(hN:X.N[i]? =some x:=by rfl)(hv:KS X.env.scope x:=by walk_at "o")(hd:(x == ("__debug__":cY))=false:=by decide)
  (qx:(x == ("__classdict__":cY))=false:=by decide):PE X (.Name x pos) (Sj i):=nP hN hv hd qx
end
def ET{A B:Prop}(h:B):if false=true then A else B:=by
 rw[if_neg bA];exact h
def Br{A B:Prop}(h:A):if true=true then A else B:=by
 rw[if_pos rfl];exact h
def bN(H H':Hp):Prop:=∀b o,H b=some o->H' b=some o
def bN.refl(H:Hp):bN H H:=fun _ _ h=>h
def bN.trans{H H1 H2:Hp}(a:bN H H1)(b:bN H1 H2):bN H H2:=fun c o h=>b c o (a c o h)
def bN.free{H H':Hp}(e:bN H H')(h:H' l=P0):H l=P0:=by
 cases q:H l with
 | none=>rfl
 | some o=>
  rw[e l o q]at h;cases h
def bN.seq{K:a9}{H H':Hp}{xs:cV}(e:bN H H')(h:lC K H a xs):lC K H' a xs:=by
 rcases h with(h | ⟨o,h⟩) | h
 ·exact .inl (.inl (e _ _ h))
 ·exact .inl (.inr ⟨o,e _ _ h⟩)
 ·exact .inr h
def at_of{xs:cV}{z:Int}{j:Nat}(e:z=(j:Int))(h:xs[j]? =some v):CC xs z=some v:=by
 rw[e];exact X7 h
end L2
namespace Dl
open PySem PySem.Spec PyProof.Rows L2
inductive D where
 | fA | bl (b:Bool) | int (i:Int)
 | tup (l:List D) | lst (l:List D) | arr (l:List D)
 | ins (C:aI) (fs:List (cY×D))
 | dct (ji:List (Int×D))
abbrev bM:=List D
abbrev A8:=List (cY×D)
mutual
inductive Dt(K:a9)(G:Hp):V->D->Prop
 | fA:Dt K G .fA .fA
 | bl (b:Bool):Dt K G (.bl b) (.bl b)
 | int (i:Int):Dt K G (.int i) (.int i)
 | tup {a:aI} {xs:cV} {ds:bM}:KW K G a xs->bV K G xs ds->Dt K G (.ref a) (.tup ds)
 | lst {a:aI} {xs:cV} {ds:bM}:G a=some (.lst xs)->bV K G xs ds->Dt K G (.ref a) (.lst ds)
 | arr {a:aI} {xs:cV} {ds:bM}:lC K G a xs->bV K G xs ds->Dt K G (.ref a) (.arr ds)
 | ins {a C dx:aI} {fs:nz} {UU:A8}:G a=some (.ins C dx fs)->P5 K G fs UU->Dt K G (.ref a) (.ins C UU)
 | dct {a:aI} {ji:List (Key×V)} {UU:List (Int×D)}:G a=some (.dK ji)->NY K G ji UU->Dt K G (.ref a) (.dct UU)
inductive bV(K:a9)(G:Hp):cV->bM->Prop
 | nil:bV K G [] []
 | cons {v:V} {vs:cV} {d:D} {ds:bM}:Dt K G v d->bV K G vs ds->bV K G (v::vs) (d::ds)
inductive P5(K:a9)(G:Hp):nz->A8->Prop
 | nil:P5 K G [] []
 | cons {x:cY} {v:V} {vs:nz} {d:D} {ds:A8}:Dt K G v d->P5 K G vs ds->P5 K G ((x,v)::vs) ((x,d)::ds)
inductive NY(K:a9)(G:Hp):List (Key×V)->List (Int×D)->Prop
 | nil:NY K G [] []
 | cons {k:Int} {v:V} {vs:List (Key×V)} {d:D} {ds:List (Int×D)}:Dt K G v d->NY K G vs ds->NY K G ((j2 k,v)::vs) ((k,d)::ds)
end
def Xi{H H':Hp}{u:HO}(e:bN H H')(h:Rd H a u):Rd H' a u:=by
 rcases h with h | ⟨o,h⟩
 ·exact .inl (e _ _ h)
 ·exact .inr ⟨o,e _ _ h⟩
def tD{K:a9}{H H':Hp}{xs:cV}(e:bN H H')(h:KW K H a xs):KW K H' a xs:=by
 rcases h with h | h
 ·exact .inl (Xi e h)
 ·exact .inr h
section
variable {K:a9}{G G':Hp}
mutual
theorem Dt.mono(e:bN G G'){v:V}{d:D}(h:Dt K G v d):Dt K G' v d:=by
 cases h with
 | fA=>exact .fA
 | bl b=>exact .bl b
 | int i=>exact .int i
 | tup h r=>exact .tup (tD e h) (bV.mono e r)
 | lst h r=>exact .lst (e _ _ h) (bV.mono e r)
 | arr h r=>exact .arr (bN.seq e h) (bV.mono e r)
 | ins h r=>exact .ins (e _ _ h) (P5.mono e r)
 | dct h r=>exact .dct (e _ _ h) (NY.mono e r)
theorem bV.mono(e:bN G G'){v:cV}{d:bM}(h:bV K G v d):bV K G' v d:=by
 cases h with
 | nil=>exact .nil
 | cons h r=>exact .cons (Dt.mono e h) (bV.mono e r)
theorem P5.mono(e:bN G G'){v:nz}{d:A8}(h:P5 K G v d):P5 K G' v d:=by
 cases h with
 | nil=>exact .nil
 | cons h r=>exact .cons (Dt.mono e h) (P5.mono e r)
theorem NY.mono(e:bN G G'){v:List (Key×V)}{d:List (Int×D)}(h:NY K G v d):NY K G' v d:=by
 cases h with
 | nil=>exact .nil
 | cons h r=>exact .cons (Dt.mono e h) (NY.mono e r)
end
theorem bV.length{vs:cV}{ds:bM}(h:bV K G vs ds):vs.length=ds.length:=by
 cases h with
 | nil=>rfl
 | cons _ r=>rw[ah,ah,bV.length r]
theorem bV.get:∀{vs:cV} {ds:bM} {i:Nat} {d:D},bV K G vs ds->ds[i]? =some d->∃v,vs[i]? =some v/\Dt K G v d
 | _,_,_,_,.nil,e=>by simp at e
 | _,_,0,_,.cons h _,e=>by simp at e;subst e;exact⟨_,rfl,h⟩
 | _,_,i+1,d,.cons _ r,e=>by
  obtain⟨v,h1,h2⟩:=bV.get (i:=i) (d:=d) r (by simpa using e);exact⟨v,by simpa using h1,h2⟩
theorem bV.append{vs ws:cV}{ds es:bM}(h:bV K G vs ds)(s:bV K G ws es):bV K G (vs++ws) (ds++es):=by
 cases h with
 | nil=>exact s
 | cons h r=>exact .cons h (bV.append r s)
theorem bV.take:∀{vs:cV} {ds:bM} (n:Nat),bV K G vs ds->bV K G (vs.take n) (ds.take n)
 | _,_,0,_=>.nil
 | _,_,_+1,.nil=>.nil
 | _,_,n+1,.cons h r=>.cons h (bV.take n r)
theorem bV.drop:∀{vs:cV} {ds:bM} (n:Nat),bV K G vs ds->bV K G (vs.drop n) (ds.drop n)
 | _,_,0,h=>h
 | _,_,_+1,.nil=>.nil
 | _,_,n+1,.cons _ r=>bV.drop n r
theorem bV.ints:∀(l:cE),bV K G (l.map V.int) (l.map D.int)
 | []=>.nil
 | i::r=>.cons (.int i) (bV.ints r)
theorem bV.ints_of:∀{l:cE} {vs:cV},bV K G vs (l.map D.int)->vs=l.map V.int
 | [],_,h=>by cases h;rfl
 | i::r,_,h=>by
  cases h with
  | cons h1 h2=>cases h1;rw[bV.ints_of h2];rfl
theorem P5.lookup:∀{vs:nz} {ds:A8} {d:D},P5 K G vs ds->ds.lookup x=some d->∃v,vs.lookup x=some v/\Dt K G v d
 | _,_,_,.nil,e=>by simp at e
 | _,_,d,.cons (x:=y) h r,e=>by
  rw[bP]at e ⊢
  cases q:x == y with
  | true=>rw[q]at e;cases e;exact⟨_,rfl,h⟩
  | false=>rw[q]at e;exact P5.lookup r e
theorem P5.lookup_none{vs:nz}{ds:A8}(h:P5 K G vs ds)(e:ds.lookup x=none):vs.lookup x=none:=by
 cases h with
 | nil=>rfl
 | cons h r=>
  rename_i y _ _ _ _;rw[bP]at e ⊢
  cases q:x == y with
  | true=>rw[q]at e;cases e
  | false=>rw[q]at e;exact P5.lookup_none r e
end
structure Ext(G H G' H':Hp):Prop where
 g:bN G G'
 h:bN H H'
 s:bN G' H'
 o:∀b ob,H b=some ob->G b=none->G' b=none
def Ext.refl{G H:Hp}(s:bN G H):Ext G H G H:=⟨bN.refl _,bN.refl _,s,fun _ _ _ h=>h⟩
def Ext.trans{G H G1 H1 G2 H2:Hp}(a:Ext G H G1 H1)(b:Ext G1 H1 G2 H2):Ext G H G2 H2:=
 ⟨a.g.trans b.g,a.h.trans b.h,b.s,fun c ob h n=>b.o c ob (a.h _ _ h) (a.o c ob h n)⟩
def gK{H:Hp}{o:HO}(h:H p=none):bN H (upd H p o):=fun b u e=>by
 rw[aL (bo e h)];exact e
def Ext.new{G H:Hp}{o:HO}(s:bN G H)(h:H p=none):Ext G H (upd G p o) (upd H p o):=by
 have hg:G p=none:=s.free h;refine⟨gK hg,gK h,fun b u e=>?_,fun b ob e n=>?_⟩
 ·by_cases hb:b=p
  ·subst hb;rw[aU]at e ⊢;exact e
  ·rw[aL hb]at e ⊢;exact s _ _ e
 ·rw[aL (bo e h)];exact n
inductive Sl where
 | no | dat (d:D) | own (l:List D)
abbrev br:=List Sl
def Xj(K:a9)(HI G H:Hp)(o:Option (Option V)):Sl->Prop
 | .no=>True
 | .dat d=>∃v,o=some (some v)/\Dt K G v d
 | .own l=>∃a vs,o=some (some (.ref a))/\HI a=none/\G a=none/\H a=some (.lst vs)/\bV K G vs l
structure SR(K:a9)(GI HI G H:Hp)(σ:L2.St)(ρ:br):Prop where
 len:σ.length=ρ.length
 ext:Ext GI HI G H
 sl:∀(i:Nat) (s:Sl),ρ[i]? =some s->Xj K HI G H σ[i]? s
 one:∀(i j:Nat) (l l':bM),ρ[i]? =some (.own l)->ρ[j]? =some (.own l')->i=j
section
variable {K:a9}{GI HI G H G' H':Hp}{σ:L2.St}{ρ:br}
def Xj.mono{o:Option (Option V)}{s:Sl}(h:Xj K HI G H o s)(e:Ext G H G' H'):Xj K HI G' H' o s:=by
 cases s with
 | no=>trivial
 | dat d=>obtain⟨v,q,h⟩:=h;exact⟨v,q,h.mono e.g⟩
 | own l=>obtain⟨a,vs,q,n,g,h,r⟩:=h;exact⟨a,vs,q,n,e.o a _ h g,e.h _ _ h,r.mono e.g⟩
def SR.mono(S:SR K GI HI G H σ ρ)(e:Ext G H G' H'):SR K GI HI G' H' σ ρ:=
 ⟨S.len,S.ext.trans e,fun i s h=>(S.sl i s h).mono e,S.one⟩
def SR.same(S:SR K GI HI G H σ ρ):bN G H:=S.ext.s
def SR.refl(S:SR K GI HI G H σ ρ):Ext G H G H:=Ext.refl S.ext.s
def SR.get(S:SR K GI HI G H σ ρ){i:Nat}(h:ρ[i]? =some (.dat d)):∃v,σ[i]? =some (some v)/\Dt K G v d:=S.sl i _ h
def SR.set(S:SR K GI HI G H σ ρ){i:Nat}(h:Dt K G v d):SR K GI HI G H (σ.set i (some v)) (ρ.set i (.dat d)):=by
 refine⟨by simp[S.len],S.ext,fun j s hj=>?_,fun j k l l' hj hk=>?_⟩
 ·by_cases e:j=i
  ·subst e;have lt:j<ρ.length:=by
    have:=(ag.mp hj).1;simpa using this
   rw[bt lt]at hj;cases hj;exact⟨v,bt (by rw[S.len];exact lt),h⟩
  ·rw[bf (g0 e)]at hj ⊢;exact S.sl j s hj
 ·have f:∀{j:Nat} {l:bM},(ρ.set i (.dat d))[j]? =some (.own l)->ρ[j]? =some (.own l):=fun {j l} hj=>by
   by_cases e:j=i
   ·subst e;have lt:j<ρ.length:=by
     have:=(ag.mp hj).1;simpa using this
    rw[bt lt]at hj;cases hj
   ·rw[bf (g0 e)]at hj;exact hj
  exact S.one j k l l' (f hj) (f hk)
def SR.weak{σ':L2.St}{ρ':br}(S:SR K GI HI G H σ ρ)(hl:σ'.length=σ.length)(hr:ρ'.length=ρ.length)(h:∀(i:Nat) (s:Sl),ρ'[i]? =some s->s= .no\/(ρ[i]? =some s/\σ'[i]? =σ[i]?)):SR K GI HI G H σ' ρ':=by
 refine⟨by rw[hl,hr,S.len],S.ext,fun i s q=>?_,fun i j l l' hi hj=>?_⟩
 ·rcases h i s q with e | ⟨e1,e2⟩
  ·subst e;trivial
  ·rw[e2];exact S.sl i s e1
 ·rcases h i _ hi with e | ⟨e1,_⟩
  ·cases e
  ·rcases h j _ hj with e | ⟨e2,_⟩
   ·cases e
   ·exact S.one i j l l' e1 e2
end
def tE(K:a9)(ρ:br)(d:D):TE:=fun σ H Q=>∃GI HI G,SR K GI HI G H σ ρ/\∀G' H' v,Ext G H G' H'->Dt K G' v d->Q v H'
def tT(K:a9)(ρ:br)(b:Bool):TT:=fun σ H Q=>∃GI HI G,SR K GI HI G H σ ρ/\∀G' H',Ext G H G' H'->Q b H'
def tA(K:a9)(ρ:br)(ds:bM):TA:=fun σ H Q=>∃GI HI G,SR K GI HI G H σ ρ/\∀G' H' vs,Ext G H G' H'->bV K G' vs ds->Q vs H'
def Ev(X:Cx)(ρ:br)(e:du)(d:D):Prop:=PE X e (tE X.K ρ d)
def Et(X:Cx)(ρ:br)(e:du)(b:Bool):Prop:=PT X e (tT X.K ρ b)
def Ea(X:Cx)(ρ:br)(es:jT)(ds:bM):Prop:=PA X es (tA X.K ρ ds)
inductive Out where
 | ok (d:D) | exc (n:Int)
inductive Oc where
 | next (ρ:br) | ret (d:D) | exc (n:Int)
def xn(n:Int):aH:=.int n 0
def tX(K:a9)(E:XK)(ρ:br):Out->TE
 | .ok d=>tE K ρ d
 | .exc n=>fun σ H _=>∃GI HI G,SR K GI HI G H σ ρ/\∀G' H',Ext GI HI G' H'->E (xn n) none H'
def qS(K:a9)(E:XK)(GI HI G:Hp)(oc:Oc)(Dn:Ends):Prop:=match oc with
 | .next ρ'=>∀G' H' σ',bN G G'->SR K GI HI G' H' σ' ρ'->Dn.nx σ' H'
 | .ret d=>∀G' H' v,Ext GI HI G' H'->Dt K G' v d->Dn.rt v H'
 | .exc n=>∀G' H',Ext GI HI G' H'->E (xn n) none H'
def qS.mono{K:a9}{GI HI G G1:Hp}{oc:Oc}{Dn:Ends}(s:bN G G1)(q:qS K E GI HI G oc Dn):qS K E GI HI G1 oc Dn:=by
 cases oc with
 | next ρ'=>exact fun G' H' σ' s' S=>q G' H' σ' (s.trans s') S
 | ret d=>exact q
 | exc n=>exact q
def tS(K:a9)(E:XK)(ρ:br)(oc:Oc):TS:=fun Dn σ H=>∃GI HI G,SR K GI HI G H σ ρ/\qS K E GI HI G oc Dn
def NZ(X:Cx)(E:XK)(ρ:br)(e:du)(o:Out):Prop:=PE X e (tX X.K E ρ o)
def Ex(X:Cx)(E:XK)(ρ:br)(st:di)(oc:Oc):Prop:=PS X st (tS X.K E ρ oc)
def wM(X:Cx)(E:XK)(ρ:br)(OV:iT)(oc:Oc):Prop:=FX X OV (tS X.K E ρ oc)
def eL{t t':TE}(h:PE X e t)(w:∀σ H Q,t' σ H Q->t σ H Q):PE X e t':=fun pins s σ H Q I q=>h pins s σ H Q I (w σ H Q q)
def B6{t t':TT}(h:PT X e t)(w:∀σ H Q,t' σ H Q->t σ H Q):PT X e t':=fun pins s σ H Q I q=>h pins s σ H Q I (w σ H Q q)
def R6{e:jT}{t t':TA}(h:PA X e t)(w:∀σ H Q,t' σ H Q->t σ H Q):PA X e t':=fun pos pins s σ H Q I q=>h pos pins s σ H Q I (w σ H Q q)
def eX{t t':TS}(h:PS X e t)(w:∀D σ H,t' D σ H->t D σ H):PS X e t':=fun pins s σ H D I q=>h pins s σ H D I (w D σ H q)
def mJ{e:iT}{t t':TS}(h:FX X e t)(w:∀D σ H,t' D σ H->t D σ H):FX X e t':=fun pins s σ H D I q=>h pins s σ H D I (w D σ H q)
section
variable {X:Cx}{ρ:br}{a b c:du}{da db dc d:D}{pos:mH}{x:cY}{p:mH}{E:XK}
def a8(i:Nat)(h:ρ[i]? =some (.dat d))(hN:X.N[i]? =some x:=by rfl)(hv:KS X.env.scope x:=by walk_at "o")
  (hd:(x == ("__debug__":cY))=false:=by decide)(qx:(x == ("__classdict__":cY))=false:=by decide):Ev X ρ (.Name x pos) d:=
 eL (nP hN hv hd qx) fun σ H Q ⟨GI,HI,G,S,k⟩=>by
  obtain⟨v,e,hd⟩:=S.get h;exact⟨v,e,k G H v S.refl hd⟩
def Ds(h:PE X e (tC v))(hd:∀G,Dt X.K G v d):Ev X ρ e d:=eL h fun σ H Q ⟨GI,HI,G,S,k⟩=>k G H v S.refl (hd G)
def au{i:Int}{j:Nat}:Ev X ρ (.Constant (.int i) j pos) (.int i):=Ds v9 fun _=>.int i
def R7{b:Bool}{j:Nat}:Ev X ρ (.Constant (.bool b) j pos) (.bl b):=Ds a1D fun _=>.bl b
def wN{j:Nat}:Ev X ρ (.Constant .none j pos) .fA:=Ds Um fun _=>.fA
def pF(hm:X.mg x=some u)(r:RelV v u)(hd:∀G,Dt X.K G v d)(hg:Gl X x:=by rfl)(xg:(x == ("__debug__":cY))=false:=by decide):Ev X ρ (.Name x pos) d:=
 Ds (Dj hg hm r xg) hd
def Ci{n:Int}{t:Tok}(hm:X.mg x=some (.int n t))(hg:Gl X x:=by rfl)(xg:(x == ("__debug__":cY))=false:=by decide):Ev X ρ (.Name x pos) (.int n):=pF (v:=.int n) hm ⟨t,rfl⟩ (fun _=>.int _) hg xg
def RD(K:a9)(r:R2)(da db d:D):Prop:=∀G H x y Q,bN G H->Dt K G x da->Dt K G y db->(∀G' H' v,Ext G H G' H'->Dt K G' v d->Q v H')->r x y H Q
def UD(K:a9)(r:V->Hp->VK->Prop)(da d:D):Prop:=∀G H x Q,bN G H->Dt K G x da->(∀G' H' v,Ext G H G' H'->Dt K G' v d->Q v H')->r x H Q
def CD(K:a9)(r:cV->Hp->VK->Prop)(ds:bM)(d:D):Prop:=∀G H xs Q,bN G H->bV K G xs ds->(∀G' H' v,Ext G H G' H'->Dt K G' v d->Q v H')->r xs H Q
def Ma{K:a9}{r:R2}(k:RD K r da db d){Q:VK}(h:tE K ρ d σ H Q):YK r (tE K ρ da) (tE K ρ db) σ H Q:=by
 obtain⟨GI,HI,G,S,q⟩:=h;refine⟨GI,HI,G,S,fun G1 H1 x e1 d1=>⟨GI,HI,G1,S.mono e1,fun G2 H2 y e2 d2=>?_⟩⟩;exact k G2 H2 x y Q e2.s (d1.mono e2.g) d2 fun G3 H3 v e3 d3=>q G3 H3 v ((e1.trans e2).trans e3) d3
def Lc{op:JK}{r:R2}(ho:Cg X (tR op) r)(k:RD X.K r da db d)(ha:Ev X ρ a da)(hb:Ev X ρ b db):Ev X ρ (.BinOp a op b pos) d:=
 eL (KZ ho ha hb) fun _ _ _ h=>Ma k h
def yb{op:CmpOp}{r:R2}(ho:Cg X (gY op) r)(k:RD X.K r da db d)(ha:Ev X ρ a da)(hb:Ev X ρ b db)(hm:jq op b=false:=by exact UA _):Ev X ρ (.Compare a [op] [b] pos) d:=
 eL (X0 ho ha hb hm) fun _ _ _ h=>Ma k h
def UW{K:a9}{t:TE}{c:Bool}{Q:Bool->Hp->Prop}(h:tT K ρ c σ H Q)(k:∀Q',tE K ρ (.bl c) σ H Q'->t σ H Q'):YQ t σ H Q:=by
 obtain⟨GI,HI,G,S,q⟩:=h;exact k _ ⟨GI,HI,G,S,fun G1 H1 v e1 d1=>by cases d1;exact⟨c,rfl,q G1 H1 e1⟩⟩
def wO{op:CmpOp}{r:R2}{c:Bool}(ho:Cg X (gY op) r)(k:RD X.K r da db (.bl c))(ha:Ev X ρ a da)(hb:Ev X ρ b db)(hm:jq op b=false:=by exact UA _):Et X ρ (.Compare a [op] [b] pos) c:=
 B6 (X1 ho ha hb hm) fun _ _ _ h=>UW h fun _ q=>Ma k q
def iY{c:Bool}(h:Ev X ρ a (.bl c))(he:∀E6,JH a X.env E6=(do let v <-E6;oH a.pos;kh [v] (truthy v)):=by intro _;rfl):Et X ρ a c:=
 B6 (ZQ h he) fun _ _ _ ⟨GI,HI,G,S,q⟩=>⟨GI,HI,G,S,fun G1 H1 v e1 d1=>by cases d1;exact⟨c,rfl,q G1 H1 e1⟩⟩
def YZ{K:a9}{g:Int->Int->Int}{i j:Int}:RD K (WY fun i j=>.int (g i j)) (.int i) (.int j) (.int (g i j)):=fun G H x y Q s hx hy k=>by
 cases hx;cases hy;exact⟨i,j,rfl,rfl,k G H _ (Ext.refl s) (.int _)⟩
def a0o{K:a9}{C:Int->Int->Prop}{g:Int->Int->Int}{i j:Int}(h:C i j):RD K (rI C fun i j=>.int (g i j)) (.int i) (.int j) (.int (g i j)):=fun G H x y Q s hx hy k=>by
 cases hx;cases hy;exact⟨i,j,rfl,rfl,h,k G H _ (Ext.refl s) (.int _)⟩
def R8{K:a9}{g:Int->Int->Bool}{i j:Int}:RD K (WY fun i j=>.bl (g i j)) (.int i) (.int j) (.bl (g i j)):=fun G H x y Q s hx hy k=>by
 cases hx;cases hy;exact⟨i,j,rfl,rfl,k G H _ (Ext.refl s) (.bl _)⟩
def wQ{i j:Int}(ha:Ev X ρ a (.int i))(hb:Ev X ρ b (.int j)):Ev X ρ (.BinOp a .Add b pos) (.int (i+j)):=Lc a00 YZ ha hb
def rR{i j:Int}(ha:Ev X ρ a (.int i))(hb:Ev X ρ b (.int j)):Ev X ρ (.BinOp a .Sub b pos) (.int (i-j)):=Lc LV YZ ha hb
def Bd(n:Nat)(i:Int):Prop:=i.natAbs<2^n
def bits_le{n:Nat}{i:Int}(h:Bd n i):iR i<=n:=by
 unfold iR;by_cases e:i=0
 ·subst e;simp
 ·rw[if_neg (by simpa using e)];have h0:i.natAbs≠0:=!0
  have:=(Nat.log2_lt h0).mpr h;omega
def a26{n m:Nat}{i j:Int}(hi:Bd n i)(hj:Bd m j)(h:n+m<=100000000):AM i j:=by
 have h1:=bits_le hi;have h2:=bits_le hj;unfold AM;have e:zK (iR i+iR j)=false:=by
  unfold zK;refine decide_eq_false ?_;show ¬((iR i:Int)+(iR j:Int)>(134217728:Int));omega
 rw[e];simp
def Xk:Cg X (tR .Mult) (rI AM fun i j=>.int (i*j)):=opI fun _ _ _ _ _ _ _ hc q=>mul_int q hc
def jX{i j:Int}(h:AM i j)(ha:Ev X ρ a (.int i))(hb:Ev X ρ b (.int j)):Ev X ρ (.BinOp a .Mult b pos) (.int (i*j)):=Lc Xk (a0o h) ha hb
def O0(X:Cx):Prop:=∀s:ai,(∀b o,X.base.get? b=some o->s.heap.get? b=some o)->X.A.frames=some X.stack->PylongRoom (c9 X.prog X.w) X.A s
def UX(hs:O0 X):Cg X (tR .FloorDiv) (rI (fun _ j=>j≠0) fun i j=>.int (i.fdiv j)):=by
 intro pins s σ H x y v u Q I rx ry h;obtain⟨i,j,rfl,rfl,hc,q⟩:=h;obtain⟨t,rfl⟩:=rx;obtain⟨t',rfl⟩:=ry;exact floordiv_int hc ⟨.int _,H,I.tok _,⟨_,rfl⟩,q⟩ (.inr (hs s I.bk I.ok.frames))
def Du{i j:Int}(hs:O0 X)(h:j≠0)(ha:Ev X ρ a (.int i))(hb:Ev X ρ b (.int j)):Ev X ρ (.BinOp a .FloorDiv b pos) (.int (i.fdiv j)):=Lc (UX hs) (a0o (C:=fun _ j=>j≠0) h) ha hb
def a0p{i j:Int}(h:j≠0)(ha:Ev X ρ a (.int i))(hb:Ev X ρ b (.int j)):Ev X ρ (.BinOp a .Mod b pos) (.int (i.fmod j)):=Lc WZ (a0o (C:=fun _ j=>j≠0) h) ha hb
def a27{op:UnaryOp}{r:V->Hp->VK->Prop}(ho:UnR X (unaryOp op) r)(k:UD X.K r da d)(ha:Ev X ρ a da):Ev X ρ (.UnaryOp op a pos) d:=
 eL (NG ho ha) fun σ H Q ⟨GI,HI,G,S,q⟩=>⟨GI,HI,G,S,fun G1 H1 x e1 d1=>k G1 H1 x Q e1.s d1 fun G2 H2 v e2 d2=>q G2 H2 v (e1.trans e2) d2⟩
def PC{i:Int}(ha:Ev X ρ a (.int i)):Ev X ρ (.UnaryOp .USub a pos) (.int (-i)):=a27 HZ (fun G H x Q s hx k=>by cases hx;exact⟨i,rfl,k G H _ (Ext.refl s) (.int _)⟩) ha
def Ld{i j:Int}(ha:Ev X ρ a (.int i))(hb:Ev X ρ b (.int j)):Et X ρ (.Compare a [.Lt] [b] pos) (decide (i<j)):=wO YM R8 ha hb
def Z0{i j:Int}(ha:Ev X ρ a (.int i))(hb:Ev X ρ b (.int j)):Et X ρ (.Compare a [.Gt] [b] pos) (decide (j<i)):=wO YO R8 ha hb
def a28{i j:Int}(ha:Ev X ρ a (.int i))(hb:Ev X ρ b (.int j)):Ev X ρ (.Compare a [.Lt] [b] pos) (.bl (decide (i<j))):=yb YM R8 ha hb
def UY{K:a9}{i j:Int}:RD K rEq (.int i) (.int j) (.bl (decide (i=j))):=fun G H x y Q s hx hy k=>by
 cases hx;cases hy;refine⟨rfl,?_⟩
 have e:decide (V.int i=V.int j)=decide (i=j):=by rw[L2.Hg];by_cases h:i=j<;>simp[h]
 rw[e];exact k G H _ (Ext.refl s) (.bl _)
def UZ{K:a9}{i j:Int}:RD K rNe (.int i) (.int j) (.bl (!decide (i=j))):=fun G H x y Q s hx hy k=>by
 cases hx;cases hy;refine⟨rfl,?_⟩
 have e:decide (V.int i=V.int j)=decide (i=j):=by rw[L2.Hg];by_cases h:i=j<;>simp[h]
 rw[e];exact k G H _ (Ext.refl s) (.bl _)
def Dv{i j:Int}(ha:Ev X ρ a (.int i))(hb:Ev X ρ b (.int j)):Et X ρ (.Compare a [.Eq] [b] pos) (decide (i=j)):=wO Uz UY ha hb
def Dw{i j:Int}(ha:Ev X ρ a (.int i))(hb:Ev X ρ b (.int j)):Et X ρ (.Compare a [.NotEq] [b] pos) (!decide (i=j)):=wO YL UZ ha hb
def a29{i j:Int}(ha:Ev X ρ a (.int i))(hb:Ev X ρ b (.int j)):Ev X ρ (.Compare a [.Eq] [b] pos) (.bl (decide (i=j))):=yb Uz UY ha hb
def a2a{i j:Int}(ha:Ev X ρ a (.int i))(hb:Ev X ρ b (.int j)):Ev X ρ (.Compare a [.NotEq] [b] pos) (.bl (!decide (i=j))):=yb YL UZ ha hb
def SH:D->Bool
 | .fA=>true
 | _=>false
def Dt.SH{K:a9}(h:Dt K G v d):decide (v= .fA)=SH d:=by cases h<;>rfl
def a0q{K:a9}:RD K (fun x y H Q=>y= .fA/\Q (.bl (decide (x= .fA))) H) d .fA (.bl (SH d)):=fun G H x y Q s hx hy k=>by
 cases hy;refine⟨rfl,?_⟩;rw[hx.SH];exact k G H _ (Ext.refl s) (.bl _)
def R9{K:a9}:RD K (fun x y H Q=>y= .fA/\Q (.bl (!decide (x= .fA))) H) d .fA (.bl (!SH d)):=fun G H x y Q s hx hy k=>by
 cases hy;refine⟨rfl,?_⟩;rw[hx.SH];exact k G H _ (Ext.refl s) (.bl _)
def lD{j:Nat}(ha:Ev X ρ a d):Et X ρ (.Compare a [.Is] [.Constant .none j p'] pos) (SH d):=wO a01 a0q ha wN
def Mb{j:Nat}(ha:Ev X ρ a d):Et X ρ (.Compare a [.IsNot] [.Constant .none j p'] pos) (!SH d):=wO QT R9 ha wN
def Xl{j:Nat}(ha:Ev X ρ a d):Ev X ρ (.Compare a [.IsNot] [.Constant .none j p'] pos) (.bl (!SH d)):=yb QT R9 ha wN
theorem Ra{K:a9}:∀{l:cE} {vs:cV},bV K G vs (l.map D.int)->A3 K G vs (l.map jf)
 | [],_,h=>by cases h;exact .nil
 | i::r,_,h=>by
  cases h with
  | cons h1 h2=>cases h1;exact .cons (.int i) (Ra h2)
mutual
theorem wq{K:a9}{G G':Hp}(e:bN G G'){v:V}{d:uh}(h:Dp K G v d):Dp K G' v d:=by
 cases h with
 | fA=>exact .fA
 | bl b=>exact .bl b
 | int i=>exact .int i
 | str x=>exact .str x
 | lst h r=>exact .lst (bN.seq e h) (vj e r)
 | tup h r=>exact .tup (tD e h) (vj e r)
theorem vj{K:a9}{G G':Hp}(e:bN G G'){v:cV}{d:List uh}(h:A3 K G v d):A3 K G' v d:=by
 cases h with
 | nil=>exact .nil
 | cons h r=>exact .cons (wq e h) (vj e r)
end
def Io{K:a9}{l:cE}(h:Dt K G v (.tup (l.map D.int))):Dp K G v (.tuple (l.map jf)):=by
 cases h with
 | tup h r=>exact .tup h (Ra r)
theorem G0:∀(l m:cE),Kq (l.map jf) (m.map jf)=decide (l=m)
 | [],[]=>rfl
 | [],_::_=>rfl
 | _::_,[]=>rfl
 | i::l,j::m=>by
  show((i == j) && Kq (l.map jf) (m.map jf))=_;rw[G0 l m];by_cases h:i=j
  ·subst h;simp
  ·simp[h]
def Ip(l m:cE):kF (.tuple (l.map jf)) (.tuple (m.map jf))=decide (l=m):=G0 l m
end
section
variable {X:Cx}{ρ:br}{a b c:du}{da db dc d:D}{pos:mH}{x:cY}{p:mH}{E:XK}
theorem A9:∀l:cE,lz (l.map jf)=true
 | []=>rfl
 | i::r=>by
  show(uh.canLay0 (.int i) && lz (r.map jf))=true;rw[A9 r];rfl
theorem Cj:∀l:cE,l8 (l.map jf)<=1
 | []=>by decide
 | i::r=>by
  show max (El (.int i)) (l8 (r.map jf))<=1;have h:=Cj r;have h2:El (.int i)<=1:=by simp[El]
  omega
def shaped_ints(l:cE):qY (.tuple (l.map jf))=true:=by
 unfold qY;refine bg.mpr ⟨A9 l,decide_eq_true ?_⟩;have:=Cj l;show l8 _+1<=64;omega
def V0{K:a9}{l m:cE}:RD K (a1Z K) (.tup (l.map D.int)) (.tup (m.map D.int)) (.bl (decide (l=m))):=fun G H x y Q s hx hy k=>
 ⟨_,_,wq s (Io hx),wq s (Io hy),shaped_ints l,shaped_ints m,by rw[Ip];exact k G H _ (Ext.refl s) (.bl _)⟩
def a0r{K:a9}{l m:cE}:RD K (a20 K) (.tup (l.map D.int)) (.tup (m.map D.int)) (.bl (!decide (l=m))):=fun G H x y Q s hx hy k=>
 ⟨_,_,wq s (Io hx),wq s (Io hy),shaped_ints l,shaped_ints m,by rw[Ip];exact k G H _ (Ext.refl s) (.bl _)⟩
def a0s{l m:cE}{k:Nat}(hr:fZ k X.A)(ha:Ev X ρ a (.tup (l.map D.int)))(hb:Ev X ρ b (.tup (m.map D.int))):Et X ρ (.Compare a [.Eq] [b] pos) (decide (l=m)):=wO (UM hr.units) V0 ha hb
def a0t{l m:cE}{k:Nat}(hr:fZ k X.A)(ha:Ev X ρ a (.tup (l.map D.int)))(hb:Ev X ρ b (.tup (m.map D.int))):Ev X ρ (.Compare a [.Eq] [b] pos) (.bl (decide (l=m))):=yb (UM hr.units) V0 ha hb
def a0u{l m:cE}{k:Nat}(hr:fZ k X.A)(ha:Ev X ρ a (.tup (l.map D.int)))(hb:Ev X ρ b (.tup (m.map D.int))):Et X ρ (.Compare a [.NotEq] [b] pos) (!decide (l=m)):=wO (a0g hr.units) a0r ha hb
def yc{k:Bool}(h:Et X ρ a k):Et X ρ (.UnaryOp .Not a pos) (!k):=B6 (ZS h) fun σ H Q h=>h
def a0v{k:Bool}(h:Ev X ρ a (.bl k)):Ev X ρ (.UnaryOp .Not a pos) (.bl (!k)):=
 eL (ZU h) fun σ H Q ⟨GI,HI,G,S,q⟩=>⟨GI,HI,G,S,fun G1 H1 v e1 d1=>by cases d1;exact⟨k,rfl,q G1 H1 _ e1 (.bl _)⟩⟩
def tRT(X:Cx)(e:du):TT:=fun σ H Q=>∃ρ k,Et X ρ e k/\tT X.K ρ k σ H Q
def pRT:PT X e (tRT X e):=fun pins s σ H Q I ⟨ρ,k,h,q⟩=>h pins s σ H Q I q
def tRE(X:Cx)(e:du):TE:=fun σ H Q=>∃ρ d,Ev X ρ e d/\tE X.K ρ d σ H Q
def pRE:PE X e (tRE X e):=fun pins s σ H Q I ⟨ρ,d,h,q⟩=>h pins s σ H Q I q
def a0w{i j:Bool}(ha:Et X ρ a i)(hb:i=true->Et X ρ b j)(hj:i=false->j=false):Et X ρ (.BoolOp .And [a,b] pos) j:=
 B6 (ZR ha (WV (pRT (e:=b)))).pt fun σ H Q ⟨GI,HI,G,S,q⟩=>⟨GI,HI,G,S,fun G1 H1 e1=>by
  cases i with
  | true=>exact Br ⟨ρ,j,hb rfl,GI,HI,G1,S.mono e1,fun G2 H2 e2=>q G2 H2 (e1.trans e2)⟩
  | false=>have e:=hj rfl;subst e;exact ET (q G1 H1 e1)⟩
def V1{i j:Bool}(ha:Et X ρ a i)(hb:i=false->Et X ρ b j)(hj:i=true->j=true):Et X ρ (.BoolOp .Or [a,b] pos) j:=
 B6 (Up ha (Uo (pRT (e:=b)))).pt fun σ H Q ⟨GI,HI,G,S,q⟩=>⟨GI,HI,G,S,fun G1 H1 e1=>by
  cases i with
  | true=>have e:=hj rfl;subst e;exact Br (q G1 H1 e1)
  | false=>exact ET ⟨ρ,j,hb rfl,GI,HI,G1,S.mono e1,fun G2 H2 e2=>q G2 H2 (e1.trans e2)⟩⟩
def a0x{i j k:Bool}(ha:Et X ρ a i)(hb:i=false->Et X ρ b j)(hc:i=false->j=false->Et X ρ c k):Et X ρ (.BoolOp .Or [a,b,c] pos) (i || j || k):=
 B6 (Up ha (Up (pRT (e:=b)) (Uo (pRT (e:=c))))).pt fun σ H Q ⟨GI,HI,G,S,q⟩=>⟨GI,HI,G,S,fun G1 H1 e1=>by
  cases i with
  | true=>exact Br (q G1 H1 e1)
  | false=>exact ET ⟨ρ,j,hb rfl,GI,HI,G1,S.mono e1,fun G2 H2 e2=>by
    cases j with
    | true=>exact Br (q G2 H2 (e1.trans e2))
    | false=>exact ET ⟨ρ,k,hc rfl rfl,GI,HI,G2,(S.mono e1).mono e2,fun G3 H3 e3=>q G3 H3 ((e1.trans e2).trans e3)⟩⟩⟩
def PD{i j:Bool}(ha:Ev X ρ a (.bl i))(hb:i=true->Ev X ρ b (.bl j))(hj:i=false->j=false):Ev X ρ (.BoolOp .And [a,b] pos) (.bl j):=
 eL (ZT ha (Uq (pRE (e:=b)))) fun σ H Q ⟨GI,HI,G,S,q⟩=>⟨GI,HI,G,S,fun G1 H1 v e1 d1=>by
  cases d1;refine⟨i,rfl,?_⟩
  cases i with
  | true=>exact Br ⟨ρ,.bl j,hb rfl,GI,HI,G1,S.mono e1,fun G2 H2 v e2 d2=>q G2 H2 v (e1.trans e2) d2⟩
  | false=>have e:=hj rfl;subst e;exact ET (q G1 H1 _ e1 (.bl _))⟩
def Z1{i j:Bool}(ha:Ev X ρ a (.bl i))(hb:i=false->Ev X ρ b (.bl j))(hj:i=true->j=true):Ev X ρ (.BoolOp .Or [a,b] pos) (.bl j):=
 eL (a1G ha (Uq (pRE (e:=b)))) fun σ H Q ⟨GI,HI,G,S,q⟩=>⟨GI,HI,G,S,fun G1 H1 v e1 d1=>by
  cases d1;refine⟨i,rfl,?_⟩
  cases i with
  | true=>have e:=hj rfl;subst e;exact Br (q G1 H1 _ e1 (.bl _))
  | false=>exact ET ⟨ρ,.bl j,hb rfl,GI,HI,G1,S.mono e1,fun G2 H2 v e2 d2=>q G2 H2 v (e1.trans e2) d2⟩⟩
def Dx{k:Bool}(hc:Et X ρ c k)(ha:k=true->Ev X ρ a d)(hb:k=false->Ev X ρ b d):Ev X ρ (.IfExp c a b pos) d:=
 eL (Ur hc (pRE (e:=a)) (pRE (e:=b))) fun σ H Q ⟨GI,HI,G,S,q⟩=>⟨GI,HI,G,S,fun G1 H1 e1=>by
  cases k with
  | true=>exact Br ⟨ρ,d,ha rfl,GI,HI,G1,S.mono e1,fun G2 H2 v e2 d2=>q G2 H2 v (e1.trans e2) d2⟩
  | false=>exact ET ⟨ρ,d,hb rfl,GI,HI,G1,S.mono e1,fun G2 H2 v e2 d2=>q G2 H2 v (e1.trans e2) d2⟩⟩
def PF{r:R2}(ho:IxR X r)(k:RD X.K r da db d)(ha:Ev X ρ a da)(hb:Ev X ρ b db)(hs:wm b:=by exact fun _ _=>rfl):Ev X ρ (.Subscript a b pos) d:=
 eL (YT ho ha hb hs) fun _ _ _ h=>Ma k h
def a0y{K:a9}{ds:bM}{i:Int}(h:0<=i)(hd:ds[i.toNat]? =some d):RD K (a1V K) (.tup ds) (.int i) d:=fun G H x y Q s hx hy k=>by
 cases hy
 cases hx with
 | tup hx r=>
  obtain⟨v,e,hv⟩:=r.get hd;exact⟨_,_,i,v,rfl,rfl,tD s hx,at_of (j:=i.toNat) (!0) e,k G H v (Ext.refl s) hv⟩
def a0z{K:a9}{ds:bM}{i:Int}(h:0<=i)(hd:ds[i.toNat]? =some d):RD K (a07 K) (.lst ds) (.int i) d:=fun G H x y Q s hx hy k=>by
 cases hy
 cases hx with
 | lst hx r=>
  obtain⟨v,e,hv⟩:=r.get hd;exact⟨_,_,i,v,rfl,rfl,lC.of (s _ _ hx),at_of (j:=i.toNat) (!0) e,k G H v (Ext.refl s) hv⟩
def a0A{K:a9}{ds:bM}{i:Int}(h:0<=i)(hd:ds[i.toNat]? =some d):RD K (a07 K) (.arr ds) (.int i) d:=fun G H x y Q s hx hy k=>by
 cases hy
 cases hx with
 | arr hx r=>
  obtain⟨v,e,hv⟩:=r.get hd;exact⟨_,_,i,v,rfl,rfl,bN.seq s hx,at_of (j:=i.toNat) (!0) e,k G H v (Ext.refl s) hv⟩
def a0B{ds:bM}{i:Int}(ha:Ev X ρ a (.tup ds))(hb:Ev X ρ b (.int i))(h:0<=i)(hd:ds[i.toNat]? =some d)(hs:wm b:=by exact fun _ _=>rfl):Ev X ρ (.Subscript a b pos) d:=PF a08 (a0y h hd) ha hb hs
def gC{ds:bM}{i:Int}(ha:Ev X ρ a (.tup ds))(hb:Ev X ρ b (.int i))(hd:ds[i.toNat]? =some d)(h:0<=i:=by decide)(hs:wm b:=by exact fun _ _=>rfl):Ev X ρ (.Subscript a b pos) d:=a0B ha hb h hd hs
def eM{ds:bM}{i:Int}(ha:Ev X ρ a (.lst ds))(hb:Ev X ρ b (.int i))(h:0<=i)(hd:ds[i.toNat]? =some d)(hs:wm b:=by exact fun _ _=>rfl):Ev X ρ (.Subscript a b pos) d:=PF M6 (a0z h hd) ha hb hs
def fM{ds:bM}{i:Int}(ha:Ev X ρ a (.lst ds))(hb:Ev X ρ b (.int i))(hd:ds[i.toNat]? =some d)(h:0<=i:=by decide)(hs:wm b:=by exact fun _ _=>rfl):Ev X ρ (.Subscript a b pos) d:=eM ha hb h hd hs
def PH{ds:bM}{i:Int}(ha:Ev X ρ a (.arr ds))(hb:Ev X ρ b (.int i))(h:0<=i)(hd:ds[i.toNat]? =some d)(hs:wm b:=by exact fun _ _=>rfl):Ev X ρ (.Subscript a b pos) d:=PF M6 (a0A h hd) ha hb hs
def a55{ds:bM}{i:Int}(ha:Ev X ρ a (.arr ds))(hb:Ev X ρ b (.int i))(hd:ds[i.toNat]? =some d)(h:0<=i:=by decide)(hs:wm b:=by exact fun _ _=>rfl):Ev X ρ (.Subscript a b pos) d:=PH ha hb h hd hs
def ar:Ea X ρ [] []:=R6 nh fun σ H Q ⟨GI,HI,G,S,q⟩=>q G H [] S.refl .nil
def ab{es:jT}{ds:bM}(ha:Ev X ρ a d)(hr:Ea X ρ es ds)(hs:SE X a es:=by rfl):Ea X ρ (a::es) (d::ds):=
 R6 (iz ha hr hs) fun σ H Q ⟨GI,HI,G,S,q⟩=>⟨GI,HI,G,S,fun G1 H1 v e1 d1=>⟨GI,HI,G1,S.mono e1,fun G2 H2 vs e2 d2=>q G2 H2 _ (e1.trans e2) (.cons (d1.mono e2.g) d2)⟩⟩
def nQ{es:jT}{ds:bM}{k:Nat}(h:Ea X ρ es ds)(hl:ds.length<=1000:=by exact ny rfl):Ev X ρ (.Tuple es k pos) (.tup ds):=
 eL (a04 h) fun σ H Q ⟨GI,HI,G,S,q⟩=>⟨GI,HI,G,S,fun G1 H1 vs e1 d1=>⟨by rw[d1.length];exact kg (xp hl),fun p hp=>by
  have e2:Ext G1 H1 (upd G1 p (.tup vs)) (upd H1 p (.tup vs)):=Ext.new e1.s hp;exact q _ _ _ (e1.trans e2) (.tup (KW.of aU) (d1.mono e2.g))⟩⟩
def pP{es:jT}{ds:bM}(h:Ea X ρ es ds)(hl:ds.length<=1000:=by exact ny rfl):Ev X ρ (.List es pos) (.lst ds):=
 eL (vf h) fun σ H Q ⟨GI,HI,G,S,q⟩=>⟨GI,HI,G,S,fun G1 H1 vs e1 d1=>⟨by rw[d1.length];exact kg (xp hl),fun p hp=>by
  have e2:Ext G1 H1 (upd G1 p (.lst vs)) (upd H1 p (.lst vs)):=Ext.new e1.s hp;exact q _ _ _ (e1.trans e2) (.lst aU (d1.mono e2.g))⟩⟩
def V2{K:a9}{r:cV->Hp->VK->Prop}{ds:bM}(k:CD K r ds d){Q:VK}(h:tE K ρ d σ H Q):tCB r (tA K ρ ds) σ H Q:=by
 obtain⟨GI,HI,G,S,q⟩:=h;exact⟨GI,HI,G,S,fun G1 H1 vs e1 d1=>k G1 H1 vs Q e1.s d1 fun G2 H2 v e2 d2=>q G2 H2 v (e1.trans e2) d2⟩
def Ck{r:cV->Hp->VK->Prop}{id:String}{es:jT}{ds:bM}(hc:xm X (.builtin id) r)(k:CD X.K r ds d)(hm:X.mg x=none)(hv:fE x=some (.builtin id))(ha:Ea X ρ (a::es) ds)(hg:Gl X x:=by rfl)
  (hn:x≠ "__name__":=by decide)(xg:(x == ("__debug__":cY))=false:=by decide)(he:SE X a es:=by rfl)(hpl:ya X pos es:=by rfl):
  Ev X ρ (.Call (.Name x p) (a::es) [] pos) d:=eL (NM hc hg hm hv ha hn xg he hpl) fun _ _ _ h=>V2 k h
def V3{r:cV->Hp->VK->Prop}{T:String}{es:jT}{ds:bM}(hc:xm X (.type T) r)(k:CD X.K r ds d)(hm:X.mg x=none)(hv:fE x=some (.type T))(ha:Ea X ρ (a::es) ds)(hg:Gl X x:=by rfl)
  (hn:x≠ "__name__":=by decide)(xg:(x == ("__debug__":cY))=false:=by decide)(he:SE X a es:=by rfl)(hpl:ya X pos es:=by rfl):
  Ev X ρ (.Call (.Name x p) (a::es) [] pos) d:=eL (B2 hc hg hm hv ha hn xg he hpl) fun _ _ _ h=>V2 k h
def kO{K:a9}{vs:cV}(h:bV K G vs [d]):∃v,vs=[v]/\Dt K G v d:=by
 cases h with
 | cons h r=>cases r;exact⟨_,rfl,h⟩
def Aa{K:a9}{vs:cV}(h:bV K G vs [da,db]):∃v u,vs=[v,u]/\Dt K G v da/\Dt K G u db:=by
 cases h with
 | cons h r=>
  obtain⟨u,rfl,h2⟩:=kO r;exact⟨_,_,rfl,h,h2⟩
def i9{ds:bM}(hm:X.mg "len" =none)(ha:Ev X ρ a (.lst ds))(hg:Gl X "len":=by rfl)(he:SE X a []:=by rfl):Ev X ρ (.Call (.Name "len" p) [a] [] pos) (.int ds.length):=
 Ck uI (fun G H xs Q s h k=>by
  obtain⟨v,rfl,hv⟩:=kO h
  cases hv with
  | lst hl r=>exact⟨_,_,rfl,.inl (lC.of (s _ _ hl)),by rw[r.length];exact k G H _ (Ext.refl s) (.int _)⟩) hm vM (ab ha ar he) hg (he:=he)
def Xm{ds:bM}(hm:X.mg "len" =none)(ha:Ev X ρ a (.arr ds))(hg:Gl X "len":=by rfl)(he:SE X a []:=by rfl):Ev X ρ (.Call (.Name "len" p) [a] [] pos) (.int ds.length):=
 Ck uI (fun G H xs Q s h k=>by
  obtain⟨v,rfl,hv⟩:=kO h
  cases hv with
  | arr hl r=>exact⟨_,_,rfl,.inl (bN.seq s hl),by rw[r.length];exact k G H _ (Ext.refl s) (.int _)⟩) hm vM (ab ha ar he) hg (he:=he)
def Xn{ds:bM}(hm:X.mg "len" =none)(ha:Ev X ρ a (.tup ds))(hg:Gl X "len":=by rfl)(he:SE X a []:=by rfl):Ev X ρ (.Call (.Name "len" p) [a] [] pos) (.int ds.length):=
 Ck uI (fun G H xs Q s h k=>by
  obtain⟨v,rfl,hv⟩:=kO h
  cases hv with
  | tup hl r=>exact⟨_,_,rfl,.inr (tD s hl),by rw[r.length];exact k G H _ (Ext.refl s) (.int _)⟩) hm vM (ab ha ar he) hg (he:=he)
def boot_abs:fE "abs" =some (.builtin "abs"):=by decide+kernel
def boot_min:fE "min" =some (.builtin "min"):=by decide+kernel
def boot_max:fE "max" =some (.builtin "max"):=by decide+kernel
def boot_sum:fE "sum" =some (.builtin "sum"):=by decide+kernel
def boot_list:fE "list" =some (.type "list"):=by decide+kernel
def boot_tuple:fE "tuple" =some (.type "tuple"):=by decide+kernel
def V4{i:Int}(hm:X.mg "abs" =none)(ha:Ev X ρ a (.int i))(hg:Gl X "abs":=by rfl)(he:SE X a []:=by rfl):Ev X ρ (.Call (.Name "abs" p) [a] [] pos) (.int (i.natAbs:Int)):=
 Ck UC (fun G H xs Q s h k=>by
  obtain⟨v,rfl,hv⟩:=kO h;cases hv;refine⟨i,rfl,?_⟩
  have e:(if i<0 then-i else i)=(i.natAbs:Int):=by split<;>omega
  rw[e];exact k G H _ (Ext.refl s) (.int _)) hm boot_abs (ab ha ar he) hg (he:=he)
def a0C{i j:Int}(hc:X.calm=true)(hm:X.mg "min" =none)(ha:Ev X ρ a (.int i))(hb:Ev X ρ b (.int j))(hg:Gl X "min":=by rfl)(he:SE X a [b]:=by rfl)(TH:SE X b []:=by rfl)(hpl:ya X pos [b]:=by rfl):
  Ev X ρ (.Call (.Name "min" p) [a,b] [] pos) (.int (min i j)):=
 Ck (Su hc) (fun G H xs Q s h k=>by
  obtain⟨v,u,rfl,hv,hu⟩:=Aa h;cases hv;cases hu;refine⟨i,j,rfl,?_⟩
  have e:(if j<i then j else i)=min i j:=by split<;>omega
  rw[e];exact k G H _ (Ext.refl s) (.int _)) hm boot_min (ab ha (ab hb ar TH) he) hg (he:=he) (hpl:=hpl)
def a0D{i j:Int}(hc:X.calm=true)(hm:X.mg "max" =none)(ha:Ev X ρ a (.int i))(hb:Ev X ρ b (.int j))(hg:Gl X "max":=by rfl)(he:SE X a [b]:=by rfl)(TH:SE X b []:=by rfl)(hpl:ya X pos [b]:=by rfl):
  Ev X ρ (.Call (.Name "max" p) [a,b] [] pos) (.int (max i j)):=
 Ck (Ss hc) (fun G H xs Q s h k=>by
  obtain⟨v,u,rfl,hv,hu⟩:=Aa h;cases hv;cases hu;refine⟨i,j,rfl,?_⟩
  have e:(if j>i then j else i)=max i j:=by split<;>omega
  rw[e];exact k G H _ (Ext.refl s) (.int _)) hm boot_max (ab ha (ab hb ar TH) he) hg (he:=he) (hpl:=hpl)
def V5{l:cE}(hc:X.calm=true)(hm:X.mg "sum" =none)(ha:Ev X ρ a (.lst (l.map D.int)))(hg:Gl X "sum":=by rfl)(he:SE X a []:=by rfl):Ev X ρ (.Call (.Name "sum" p) [a] [] pos) (.int l.sum):=
 Ck (a0f hc) (fun G H xs Q s h k=>by
  obtain⟨v,rfl,hv⟩:=kO h
  cases hv with
  | lst hl r=>
   have e:=r.ints_of;subst e;exact⟨_,l,rfl,lC.of (s _ _ hl),k G H _ (Ext.refl s) (.int _)⟩) hm boot_sum (ab ha ar he) hg (he:=he)
def Xo{K:a9}{ds:bM}(hd:da= .lst ds\/da= .tup ds):CD K (fun xs H Q=>∃p ys,xs=[.ref p]/\(lC K H p ys\/KW K H p ys)/\∀l,H l=none->Q (.ref l) (upd H l (.lst ys))) [da] (.lst ds):=fun G H xs Q s h k=>by
 obtain⟨v,rfl,hv⟩:=kO h;rcases hd with rfl | rfl
 ·cases hv with
  | lst hl r=>exact⟨_,_,rfl,.inl (lC.of (s _ _ hl)),fun l hn=>k _ _ _ (Ext.new s hn) (.lst aU (r.mono (Ext.new s hn).g))⟩
 ·cases hv with
  | tup hl r=>exact⟨_,_,rfl,.inr (tD s hl),fun l hn=>k _ _ _ (Ext.new s hn) (.lst aU (r.mono (Ext.new s hn).g))⟩
def B7{ds:bM}(hm:X.mg "list" =none)(ha:Ev X ρ a da)(hd:da= .lst ds\/da= .tup ds)(hg:Gl X "list":=by rfl)(he:SE X a []:=by rfl):Ev X ρ (.Call (.Name "list" p) [a] [] pos) (.lst ds):=
 V3 Dq (Xo hd) hm boot_list (ab ha ar he) hg (he:=he)
def V6{ds:bM}(hm:X.mg "tuple" =none)(ha:Ev X ρ a (.lst ds))(hg:Gl X "tuple":=by rfl)(he:SE X a []:=by rfl):Ev X ρ (.Call (.Name "tuple" p) [a] [] pos) (.tup ds):=
 V3 K5 (fun G H xs Q s h k=>by
  obtain⟨v,rfl,hv⟩:=kO h
  cases hv with
  | lst hl r=>exact⟨_,_,rfl,.inl ⟨lC.of (s _ _ hl),fun l hn=>k _ _ _ (Ext.new s hn) (.tup (KW.of aU) (r.mono (Ext.new s hn).g))⟩⟩) hm boot_tuple (ab ha ar he) hg (he:=he)
def Cm{ds es:bM}(ha:Ev X ρ a (.lst ds))(hb:Ev X ρ b (.lst es))(hl:ds.length+es.length<=100000):Ev X ρ (.BinOp a .Add b pos) (.lst (ds++es)):=
 Lc UL (fun G H x y Q s hx hy k=>by
  cases hx with
  | lst h1 r1=>
   cases hy with
   | lst h2 r2=>
    refine⟨_,_,_,_,rfl,rfl,s _ _ h1,s _ _ h2,?_,fun p hn=>k _ _ _ (Ext.new s hn) (.lst aU ((r1.append r2).mono (Ext.new s hn).g))⟩;rw[r1.length,r2.length];exact bq hl ck) ha hb
def dk{fs:A8}(ha:Ev X ρ a (.ins C fs))(c:N2 X.K C)(n:rQ X.K C f)(h:fs.lookup f=some d)(hb:Uk X a f:=by rfl):Ev X ρ (.Attribute a f pos) d:=
 eL (LY ha hb) fun σ H Q ⟨GI,HI,G,S,q⟩=>⟨GI,HI,G,S,fun G1 H1 v e1 d1=>by
  cases d1 with
  | ins h1 r=>
   obtain⟨v,e,hv⟩:=r.lookup h;exact⟨_,C,_,_,v,rfl,e1.s _ _ h1,c,n,e,q G1 H1 v e1 hv⟩⟩
end
def Xp(K:a9)(R:bM->Out->Prop):Sp:=fun vs H Q E=>∃G args out,bN G H/\bV K G vs args/\R args out/\(match out with
 | .ok d=>∀G' H' v,Ext G H G' H'->Dt K G' v d->Q v H'
 | .exc n=>∀G' H',Ext G H G' H'->E (xn n) none H')
structure FG(P:bp)(w:cH)(K:a9)(mg:MG)(base:cy)(CX:NI)(x:cY)(k:Nat)(R:bM->Out->Prop):Prop where
 ex:∃f fd ps,mq P w K mg base CX k f fd ps (Xp K R)/\mg x=some (.ref f)/\i6 K (.ref f)=true/\Binds K fd ps []
structure FM(P:bp)(w:cH)(K:a9)(mg:MG)(base:cy)(CX:NI)(C:aI)(m:cY)(k:Nat)(R:bM->Out->Prop):Prop where
 ex:∃f fd ps,mq P w K mg base CX k f fd ps (Xp K R)/\Meth K C m f/\N2 K C/\Binds K fd ps []
section
variable {X:Cx}{ρ:br}{a b c:du}{da db dc d:D}{pos apos:mH}{x m:cY}{p:mH}{E:XK}{k:Nat}{R:bM->Out->Prop}{es:jT}{ds:bM}{C:aI}{fs:A8}{CX:NI}{o:Out}
def call_of{K:a9}(hR:R ds o){Q:VK}(h:tX K E ρ o σ H Q):UH (Xp K R) [] E (tA K ρ ds) σ H Q:=by
 cases o with
 | ok d=>
  obtain⟨GI,HI,G,S,q⟩:=h;exact⟨GI,HI,G,S,fun G1 H1 vs e1 d1=>⟨G1,ds,.ok d,e1.s,by rw[dC];exact d1,hR,fun G2 H2 v e2 d2=>q G2 H2 v (e1.trans e2) d2⟩⟩
 | exc n=>
  obtain⟨GI,HI,G,S,q⟩:=h;exact⟨GI,HI,G,S,fun G1 H1 vs e1 d1=>⟨G1,ds,.exc n,e1.s,by rw[dC];exact d1,hR,fun G2 H2 e2=>q G2 H2 ((S.ext.trans e1).trans e2)⟩⟩
def x_call(F:FG X.prog X.w X.K X.mg X.base CX x k R)(hx:Passes CX X E)(hr:fZ k X.A)(ha:Ea X ρ (a::es) ds)(hR:R ds o)(hg:Gl X x:=by rfl)(xg:(x == ("__debug__":cY))=false:=by decide)
  (he:SE X a es:=by rfl)(hpl:ya X pos es:=by rfl):NZ X E ρ (.Call (.Name x p) (a::es) [] pos) o:=by
 obtain⟨f,fd,ps,F,hm,hk,hb⟩:=F.ex;exact eL (QW F hr hg hm hk hb .nil hx ha xg he hpl) fun _ _ _ h=>call_of hR h
def c7(F:FG X.prog X.w X.K X.mg X.base mx x k R)(hr:fZ k X.A)(ha:Ea X ρ (a::es) ds)(hR:R ds (.ok d))(hg:Gl X x:=by rfl)(xg:(x == ("__debug__":cY))=false:=by decide)
  (he:SE X a es:=by rfl)(hpl:ya X pos es:=by rfl):Ev X ρ (.Call (.Name x p) (a::es) [] pos) d:=
 x_call (E:=E0) (o:=.ok d) F zb hr ha hR hg xg he hpl
def Xq{K:a9}(hn:fs.lookup m=none)(hR:R (.ins C fs::ds) o){Q:VK}(h:tX K E ρ o σ H Q):QV C m (Xp K R) [] E (tE K ρ (.ins C fs)) (tA K ρ ds) σ H Q:=by
 have go:∃GI HI G,SR K GI HI G H σ ρ/\∀G1 H1 v,Ext G H G1 H1->Dt K G1 v (.ins C fs)->∀G2 H2 vs,Ext G1 H1 G2 H2->bV K G2 vs ds->Xp K R (v::(vs++[])) H2 Q E:=by
  cases o with
  | ok d=>
   obtain⟨GI,HI,G,S,q⟩:=h;exact⟨GI,HI,G,S,fun G1 H1 v e1 d1 G2 H2 vs e2 d2=>⟨G2,_,.ok d,e2.s,.cons (d1.mono e2.g) (by rw[dC];exact d2),hR,fun G3 H3 v e3 d3=>q G3 H3 v ((e1.trans e2).trans e3) d3⟩⟩
  | exc n=>
   obtain⟨GI,HI,G,S,q⟩:=h;exact⟨GI,HI,G,S,fun G1 H1 v e1 d1 G2 H2 vs e2 d2=>⟨G2,_,.exc n,e2.s,.cons (d1.mono e2.g) (by rw[dC];exact d2),hR,fun G3 H3 e3=>q G3 H3 (S.ext.trans ((e1.trans e2).trans e3))⟩⟩
 obtain⟨GI,HI,G,S,q⟩:=go;refine⟨GI,HI,G,S,fun G1 H1 v e1 d1=>?_⟩;have dd:=d1
 cases d1 with
 | ins h1 r=>exact⟨_,_,_,rfl,e1.s _ _ h1,r.lookup_none hn,GI,HI,G1,S.mono e1,fun G2 H2 vs e2 d2=>q G1 H1 _ e1 dd G2 H2 vs e2 d2⟩
def a0E{pl:GX Bool}(F:FM X.prog X.w X.K X.mg X.base CX C m k R)(hx:Passes CX X E)(hr:fZ k X.A)(ho:Ev X ρ b (.ins C fs))(hn:fs.lookup m=none)(ha:Ea X ρ (a::es) ds)(hR:R (.ins C fs::ds) o)
  (vU:SE X a es:=by rfl)(hpl:ya X pos es:=by rfl)
  (ht:fX (.Call (.Attribute b m apos) (a::es) [] pos) X.env=(do
   let ov <-fX b X.env
   oH apos.atName
   let(f,first) <-kh [ov] (mf ov m pl)
   pk pos f first (nt pos (dM (a::es) X.env)) (mS pos (iX [] X.env))):=by rfl):NZ X E ρ (.Call (.Attribute b m apos) (a::es) [] pos) o:=by
 obtain⟨f,fd,ps,F,hm,c,hb⟩:=F.ex;exact eL (Hh ho c hm F hr hb .nil hx ha vU hpl ht) fun _ _ _ h=>Xq hn hR h
def dH{pl:GX Bool}(F:FM X.prog X.w X.K X.mg X.base mx C m k R)(hr:fZ k X.A)(ho:Ev X ρ b (.ins C fs))(hn:fs.lookup m=none)(ha:Ea X ρ (a::es) ds)(hR:R (.ins C fs::ds) (.ok d))
  (vU:SE X a es:=by rfl)(hpl:ya X pos es:=by rfl)
  (ht:fX (.Call (.Attribute b m apos) (a::es) [] pos) X.env=(do
   let ov <-fX b X.env
   oH apos.atName
   let(f,first) <-kh [ov] (mf ov m pl)
   pk pos f first (nt pos (dM (a::es) X.env)) (mS pos (iX [] X.env))):=by rfl):Ev X ρ (.Call (.Attribute b m apos) (a::es) [] pos) d:=
 a0E (E:=E0) (o:=.ok d) (pl:=pl) F zb hr ho hn ha hR vU hpl ht
def V7{K:a9}(hn:fs.lookup m=none)(hR:R [.ins C fs] o){Q:VK}(h:tX K E ρ o σ H Q):QV C m (Xp K R) [] E (tE K ρ (.ins C fs)) NH σ H Q:=by
 cases o with
 | ok d=>
  obtain⟨GI,HI,G,S,q⟩:=h;refine⟨GI,HI,G,S,fun G1 H1 v e1 d1=>?_⟩;have dd:=d1
  cases d1 with
  | ins h1 r=>exact⟨_,_,_,rfl,e1.s _ _ h1,r.lookup_none hn,G1,_,.ok d,e1.s,.cons dd .nil,hR,fun G3 H3 v e3 d3=>q G3 H3 v (e1.trans e3) d3⟩
 | exc n=>
  obtain⟨GI,HI,G,S,q⟩:=h;refine⟨GI,HI,G,S,fun G1 H1 v e1 d1=>?_⟩;have dd:=d1
  cases d1 with
  | ins h1 r=>exact⟨_,_,_,rfl,e1.s _ _ h1,r.lookup_none hn,G1,_,.exc n,e1.s,.cons dd .nil,hR,fun G3 H3 e3=>q G3 H3 (S.ext.trans (e1.trans e3))⟩
def ju{pl:GX Bool}(F:FM X.prog X.w X.K X.mg X.base mx C m k R)(hr:fZ k X.A)(ho:Ev X ρ b (.ins C fs))(hn:fs.lookup m=none)(hR:R [.ins C fs] (.ok d))
  (ht:fX (.Call (.Attribute b m apos) [] [] pos) X.env=(do
   let ov <-fX b X.env
   oH apos.atName
   let(f,first) <-kh [ov] (mf ov m pl)
   pk pos f first (nt pos (dM [] X.env)) (mS pos (iX [] X.env))):=by rfl):Ev X ρ (.Call (.Attribute b m apos) [] [] pos) d:=by
 obtain⟨f,fd,ps,F,hm,c,hb⟩:=F.ex;exact eL (NJ (E:=E0) ho c hm F hr hb .nil zb ht) fun _ _ _ h=>V7 (o:=.ok d) hn hR h
end
section
variable {X:Cx}{E:XK}{ρ ρ1:br}{st:di}{OV:iT}{oc:Oc}{a:du}{d:D}{pos:mH}
def iA:wM X E ρ [] (.next ρ):=mJ QP fun Dn σ H ⟨GI,HI,G,S,q⟩=>q G H σ (bN.refl _) S
def ak(h:Ex X E ρ st (.next ρ1))(hr:wM X E ρ1 OV oc):wM X E ρ (st::OV) oc:=
 mJ (gJ h hr) fun Dn σ H ⟨GI,HI,G,S,q⟩=>⟨GI,HI,G,S,fun G1 H1 σ1 s1 S1=>⟨GI,HI,G1,S1,q.mono s1⟩⟩
def Oc.ends:Oc->Bool
 | .next _=>false
 | _=>true
def de(h:Ex X E ρ st oc)(he:oc.ends=true:=by rfl):wM X E ρ (st::OV) oc:=
 mJ (gJ h EK) fun Dn σ H q=>by
  cases oc with
  | next r=>cases he
  | ret d=>exact q
  | exc n=>exact q
def aK(h:Ex X E ρ st oc):wM X E ρ [st] oc:=lP h
def nB(h:Ev X ρ a d)(hs:dj a none pos.line X.env=pure false:=by rfl):Ex X E ρ (.Expr a pos) (.next ρ):=
 eX (lj h hs) fun Dn σ H ⟨GI,HI,G,S,q⟩=>⟨GI,HI,G,S,fun G1 H1 v e1 d1=>q G1 H1 σ e1.g (S.mono e1)⟩
def mK{n:Int}(h:NZ X E ρ a (.exc n))(hs:dj a none pos.line X.env=pure false:=by rfl):Ex X E ρ (.Expr a pos) (.exc n):=
 eX (lj h hs) fun Dn σ H ⟨GI,HI,G,S,q⟩=>⟨GI,HI,G,S,q⟩
def cq(h:Ev X ρ a d):Ex X E ρ (.Return (some a) pos) (.ret d):=
 eX (HW h) fun Dn σ H ⟨GI,HI,G,S,q⟩=>⟨GI,HI,G,S,fun G1 H1 v e1 d1=>q G1 H1 v (S.ext.trans e1) d1⟩
def bW{i:Nat}(hN:X.N.Nodup)(h:Ev X ρ a d)(hi:X.N[i]? =some x:=by rfl)(hx:Loc X.env.scope x:=by walk_at "o")
  (hs:dj a (some (.Name x rk)) pos.line X.env=pure false:=by rfl)(hf:X.fn x=true\/X.env.scope.names.lookup x=some .local:=by walk_at "o"):Ex X E ρ (.Assign [.Name x rk] a pos) (.next (ρ.set i (.dat d))):=
 eX (rP hN hi hx h (hs:=hs) (hf:=hf)) fun Dn σ H ⟨GI,HI,G,S,q⟩=>⟨GI,HI,G,S,fun G1 H1 v e1 d1=>q G1 H1 _ e1.g ((S.mono e1).set d1)⟩
def Mc{i:Nat}{n:Int}(hN:X.N.Nodup)(h:NZ X E ρ a (.exc n))(hi:X.N[i]? =some x:=by rfl)(hx:Loc X.env.scope x:=by walk_at "o")
  (hs:dj a (some (.Name x rk)) pos.line X.env=pure false:=by rfl)(hf:X.fn x=true\/X.env.scope.names.lookup x=some .local:=by walk_at "o"):Ex X E ρ (.Assign [.Name x rk] a pos) (.exc n):=
 eX (rP hN hi hx h (hs:=hs) (hf:=hf)) fun Dn σ H ⟨GI,HI,G,S,q⟩=>⟨GI,HI,G,S,q⟩
def tRS(X:Cx)(E:XK)(OV:iT):TS:=fun Dn σ H=>∃ρ oc,wM X E ρ OV oc/\tS X.K E ρ oc Dn σ H
def pRS{OV:iT}:FX X OV (tRS X E OV):=fun pins s σ H Dn I ⟨ρ,oc,h,q⟩=>h pins s σ H Dn I q
def Rb{K:a9}{GI HI G H G1 H1:Hp}{Dn:Ends}(S:SR K GI HI G H σ ρ)(e:Ext G H G1 H1)(q:qS K E GI HI G oc Dn):tS K E ρ oc Dn σ H1:=⟨GI,HI,G1,S.mono e,q.mono e.g⟩
def gq{th el:iT}{k:Bool}(hc:Et X ρ c k)(ha:k=true->wM X E ρ th oc)(hb:k=false->wM X E ρ el oc):Ex X E ρ (.If c th el pos) oc:=
 eX (YH hc (pRS (E:=E)) (pRS (E:=E))) fun Dn σ H ⟨GI,HI,G,S,q⟩=>⟨GI,HI,G,S,fun G1 H1 e1=>by
  cases k with
  | true=>exact Br ⟨ρ,oc,ha rfl,Rb S e1 q⟩
  | false=>exact ET ⟨ρ,oc,hb rfl,Rb S e1 q⟩⟩
def zc(ρ ρ':br):Prop:=ρ'.length=ρ.length/\∀(i:Nat) (s:Sl),ρ'[i]? =some s->s= .no\/ρ[i]? =some s
def zc.refl(ρ:br):zc ρ ρ:=⟨rfl,fun _ _ h=>.inr h⟩
def gD:zc [] []:=zc.refl _
def cD{s:Sl}{r r':br}(h:zc r r'):zc (s::r) (.no::r'):=⟨by simp[h.1],fun i s' q=>by
 cases i with
 | zero=>left;simpa using q.symm
 | succ i=>exact h.2 i s' (by simpa using q)⟩
def bw{s:Sl}{r r':br}(h:zc r r'):zc (s::r) (s::r'):=⟨by simp[h.1],fun i s' q=>by
 cases i with
 | zero=>right;simpa using q
 | succ i=>exact h.2 i s' (by simpa using q)⟩
def SR.Xr{K:a9}{GI HI G H:Hp}{ρ':br}(S:SR K GI HI G H σ ρ)(f:zc ρ ρ'):SR K GI HI G H σ ρ':=
 S.weak rfl f.1 fun i s h=>(f.2 i s h).imp id fun h=>⟨h,rfl⟩
def ia{ρ':br}(h:wM X E ρ OV (.next ρ1))(f:zc ρ1 ρ'):wM X E ρ OV (.next ρ'):=
 mJ h fun Dn σ H ⟨GI,HI,G,S,q⟩=>⟨GI,HI,G,S,fun G1 H1 σ1 s1 S1=>q G1 H1 σ1 s1 (S1.Xr f)⟩
end
def V8(K:a9)(J:It)(items:bM)(G:Hp):Prop:=∀G' H',bN G G'->bN G' H'->
 (∀i,i<items.length->J.go i H')/\J.stop items.length H'/\
 ∀i d x Xs,items[i]? =some d->J.yld i H' x Xs->(Xs=H'/\Dt K G' x d)\/∃p o,H' p=none/\Xs=upd H' p o/\Dt K (upd G' p o) x d
def tI(K:a9)(ρ:br)(items:bM):TI:=fun σ H R=>∃GI HI G,SR K GI HI G H σ ρ/\∀G' H' J,Ext G H G' H'->V8 K J items G'->R J H'
def Es(X:Cx)(ρ:br)(tg iter:du)(items:bM):Prop:=PI X tg iter (tI X.K ρ items)
def yd{tg iter:du}{t t':TI}(h:PI X tg iter t)(w:∀σ H R,t' σ H R->t σ H R):PI X tg iter t':=fun pins s σ H R I q=>h pins s σ H R I (w σ H R q)
section
variable {X:Cx}{ρ:br}{a b:du}{tg:du}{items ds es:bM}{pos p:mH}
def SI{K:a9}{xs:cV}(h:lC K G l xs)(r:bV K G xs items):V8 K (Itl K l) items G:=fun G' H' s1 s2=>by
 have hq:lC K H' l xs:=bN.seq s2 (bN.seq s1 h);refine⟨fun i hi=>?_,⟨xs,hq,by rw[r.length];exact ao _⟩,fun i d x Xs hd hy=>?_⟩
 ·rw[<-r.length]at hi;exact⟨xs,xs[i],hq,by simp[hi]⟩
 ·obtain⟨e,y⟩:=hy;obtain⟨v,e1,hv⟩:=r.get hd;have e2:=y xs hq;rw[e1]at e2;cases e2;exact .inl ⟨e,hv.mono s1⟩
def kI(h:Ev X ρ a (.lst items)):Es X ρ tg a items:=
 yd (WX h) fun σ H R ⟨GI,HI,G,S,q⟩=>⟨GI,HI,G,S,fun G1 H1 v e1 d1=>by
  cases d1 with
  | lst hl r=>exact⟨_,rfl,⟨_,lC.of (e1.s _ _ hl)⟩,q G1 H1 _ e1 (SI (lC.of hl) r)⟩⟩
def D0(lo:Int)(n:Nat):bM:=(ay n).map fun(i:Nat)=>D.int (lo+(i:Int))
def B8(lo:Int)(n:Nat):(D0 lo n).length=n:=by simp[D0]
def Rc{lo:Int}{n i:Nat}(h:(D0 lo n)[i]? =some d):i<n/\d= .int (lo+(i:Int)):=by
 unfold D0 at h;rw[aC]at h;by_cases hi:i<n
 ·rw[f6 hi]at h;exact⟨hi,(be h).symm⟩
 ·rw[bT (by simpa using hi)]at h;cases h
def Iq{K:a9}{lo:Int}{n:Nat}:V8 K (Itr lo n) (D0 lo n) G:=fun G' H' s1 s2=>by
 refine⟨fun i hi=>by rw[B8]at hi;exact hi,by rw[B8];exact ao _,fun i d x Xs hd hy=>?_⟩;obtain⟨e,y⟩:=hy;obtain⟨_,ed⟩:=Rc hd;subst ed y;exact .inl ⟨e,.int _⟩
def uU{j:Int}(hm:X.mg "range" =none)(ha:Ev X ρ a (.int j))(h1: -(2^62)<=j)(h2:j<2^62)(hg:Gl X "range":=by rfl)(hs:SE X a []:=by rfl):
  Es X ρ tg (.Call (.Name "range" p) [a] [] pos) (D0 0 j.toNat):=
 yd (Sm hg hm (ab ha ar hs) hs) fun σ H R ⟨GI,HI,G,S,q⟩=>⟨GI,HI,G,S,fun G1 H1 vs e1 d1=>by
  obtain⟨v,rfl,hv⟩:=kO d1;cases hv;exact⟨j,rfl,h1,h2,q G1 H1 _ e1 Iq⟩⟩
def EU{i j:Int}(hm:X.mg "range" =none)(ha:Ev X ρ a (.int i))(hb:Ev X ρ b (.int j))(h1: -(2^62)<=i/\i<2^62/\ -(2^62)<=j/\j<2^62)(hg:Gl X "range":=by rfl)(hs:dM [a,b] X.env=[(false,fX a X.env),(false,fX b X.env)]:=by rfl)
  (hs2:dM [b] X.env=[(false,fX b X.env)]:=by rfl):Es X ρ tg (.Call (.Name "range" p) [a,b] [] pos) (D0 i (j-i).toNat):=
 yd (Sn hg hm (ab ha (ab hb ar hs2) (by unfold SE;rw[hs,hs2])) hs (hs2:=hs2)) fun σ H R ⟨GI,HI,G,S,q⟩=>⟨GI,HI,G,S,fun G1 H1 vs e1 d1=>by
  obtain⟨v,u,rfl,hv,hu⟩:=Aa d1;cases hv;cases hu;exact⟨i,j,rfl,h1,q G1 H1 _ e1 Iq⟩⟩
def BW(ds:bM):bM:=ds.zipIdx.map fun x=>D.tup [.int (x.2:Int),x.1]
def B9{i:Nat}(h:(BW ds)[i]? =some d):∃y,ds[i]? =some y/\d= .tup [.int (i:Int),y]:=by
 unfold BW at h;rw[aC,o8]at h
 cases e:ds[i]? with
 | none=>rw[e]at h;cases h
 | some y=>rw[e]at h;exact⟨y,rfl,by simpa using h.symm⟩
def qf:(BW ds).length=ds.length:=by simp[BW]
def ye{Aq:jT}{kk:Nat}(hm:X.mg "enumerate" =none)(ha:Ev X ρ a (.lst ds))(hg:Gl X "enumerate":=by rfl)(hs:SE X a []:=by rfl):
  Es X ρ (.Tuple Aq kk Fq) (.Call (.Name "enumerate" p) [a] [] pos) (BW ds):=
 yd (Xg hg hm (ab ha ar hs) hs) fun σ H R ⟨GI,HI,G,S,q⟩=>⟨GI,HI,G,S,fun G1 H1 vs e1 d1=>by
  obtain⟨v,rfl,hv⟩:=kO d1
  cases hv with
  | lst hl r=>
   rename_i l xs;refine⟨l,xs,rfl,lC.of (e1.s _ _ hl),q G1 H1 _ e1 fun G' H' s1 s2=>?_⟩;have hq:lC X.K H' l xs:=lC.of (s2 _ _ (s1 _ _ hl));refine⟨fun i hi=>?_,⟨xs,hq,by rw[qf,r.length];exact ao _⟩,fun i d x Xs hd hy=>?_⟩
   ·rw[qf,<-r.length]at hi;exact⟨xs,xs[i],hq,by simp[hi]⟩
   ·obtain⟨T,y,e2,e3,e4,e5⟩:=hy;obtain⟨z,h1,h2⟩:=B9 hd;obtain⟨v,e6,hv⟩:=r.get h1;have e7:=e5 xs hq;rw[e6]at e7;cases e7;subst e2 h2;have hn:bN G' (upd G' T (.tup [.int ((i:Nat):Int),y])):=gK (s2.free e3);exact .inr ⟨T,_,e3,e4,.tup (KW.of aU) (.cons (.int _) (.cons ((hv.mono s1).mono hn) .nil))⟩⟩
def O1(ds es:bM):bM:=(ds.zip es).map fun x=>D.tup [x.1,x.2]
def V9{i:Nat}(h:(O1 ds es)[i]? =some d):∃y z,ds[i]? =some y/\es[i]? =some z/\d= .tup [y,z]:=by
 unfold O1 at h;rw[aC]at h
 cases e:(ds.zip es)[i]? with
 | none=>rw[e]at h;cases h
 | some y=>
  rw[e]at h;obtain⟨h1,h2⟩:=List.getElem?_zip_eq_some.mp e;exact⟨y.1,y.2,h1,h2,(be h).symm⟩
def O2:(O1 ds es).length=min ds.length es.length:=by simp[O1]
def Ir{Aq:jT}{kk:Nat}(hm:X.mg "zip" =none)(ha:Ev X ρ a (.lst ds))(hb:Ev X ρ b (.lst es))(hg:Gl X "zip":=by rfl)(hs:SE X a [b]:=by rfl)
  (hs2:SE X b []:=by rfl)(hpl:ya X pos [b]:=by rfl):Es X ρ (.Tuple Aq kk Fq) (.Call (.Name "zip" p) [a,b] [] pos) (O1 ds es):=
 yd (a0n hg hm (ab ha (ab hb ar hs2) hs) hs hpl) fun σ H R ⟨GI,HI,G,S,q⟩=>⟨GI,HI,G,S,fun G1 H1 vs e1 d1=>by
  obtain⟨v,u,rfl,hv,hu⟩:=Aa d1
  cases hv with
  | lst hl r=>
   cases hu with
   | lst BA r2=>
    rename_i l xs l2 ys;refine⟨l,l2,xs,ys,rfl,lC.of (e1.s _ _ hl),lC.of (e1.s _ _ BA),q G1 H1 _ e1 fun G' H' s1 s2=>?_⟩;have hq:lC X.K H' l xs:=lC.of (s2 _ _ (s1 _ _ hl));have Zz:lC X.K H' l2 ys:=lC.of (s2 _ _ (s1 _ _ BA));have n1:=r.length;have n2:=r2.length;refine⟨fun i hi=>?_,⟨xs,ys,hq,Zz,by rw[O2,n1,n2];omega⟩,fun i d x Xs hd hy=>?_⟩
    ·rw[O2]at hi;exact⟨xs,ys,xs[i],ys[i],hq,Zz,by simp,by simp⟩
    ·obtain⟨T,y,y2,e2,e3,e4,e5,e6⟩:=hy;obtain⟨z,z2,h1,h2,h3⟩:=V9 hd;obtain⟨v,e7,hv⟩:=r.get h1;obtain⟨v2,e8,hv2⟩:=r2.get h2;have e9:=e5 xs hq;have e10:=e6 ys Zz;rw[e7]at e9;rw[e8]at e10;cases e9;cases e10;subst e2 h3;have hn:bN G' (upd G' T (.tup [y,y2])):=gK (s2.free e3);exact .inr ⟨T,_,e3,e4,.tup (KW.of aU) (.cons ((hv.mono s1).mono hn) (.cons ((hv2.mono s1).mono hn) .nil))⟩⟩
end
inductive Dy where
 | one (i:Nat) | many (is:bL)
def Va:bL->YI
 | []=>a1L
 | i::r=>YJ (KY i) (Va r)
def Dy.g(K:a9):Dy->TG
 | .one i=>KY i
 | .many is=>a1M K is.length (Va is)
def Dy.slots:Dy->bL
 | .one i=>[i]
 | .many is=>is
def wu:br->bL->bM->br
 | ρ,i::is,d::ds=>wu (ρ.set i (.dat d)) is ds
 | ρ,_,_=>ρ
def Dy.app:Dy->br->D->Option br
 | .one i,ρ,d=>some (ρ.set i (.dat d))
 | .many is,ρ,.tup ds=>if ds.length=is.length then some (wu ρ is ds)else none
 | .many _,_,_=>none
section
variable {K:a9}{GI HI G H:Hp}{ρ ρ':br}{Q:L2.St->Hp->Prop}
theorem Rf:∀{is:bL} {ds:bM} {vs:cV} {σ:L2.St} {ρ:br},ds.length=is.length->bV K G vs ds->SR K GI HI G H σ ρ->
  (∀σ',SR K GI HI G H σ' (wu ρ is ds)->σ'.length=σ.length->(∀j,j∉is->σ'[j]? =σ[j]?)->Q σ' H)->Va is vs σ H Q
 | [],[],_,σ,ρ,_,.nil,S,q=>⟨rfl,q σ S rfl fun _ _=>rfl⟩
 | [],_::_,_,_,_,h,_,_,_=>by cases h
 | _::_,[],_,_,_,h,_,_,_=>by cases h
 | i::is,d::ds,_,σ,ρ,h,.cons (v:=v) (vs:=vs) hv r,S,q=>by
  refine⟨v,vs,rfl,Rf (is:=is) (ds:=ds) (by simpa using h) r (S.set hv) fun σ' S' hl hk=>q σ' S' (by rw[hl];simp) fun j hj=>?_⟩;simp only[bQ,not_or]at hj;rw[hk j hj.2,bf (g0 hj.1)]
def Dy.ok{τ:Dy}{σ:L2.St}(h:τ.app ρ d=some ρ')(hd:Dt K G x d)(S:SR K GI HI G H σ ρ)
  (q:∀σ',SR K GI HI G H σ' ρ'->σ'.length=σ.length->(∀j,j∉τ.slots->σ'[j]? =σ[j]?)->Q σ' H):τ.g K x σ H Q:=by
 cases τ with
 | one i=>
  cases h;exact q _ (S.set hd) (!1) fun j hj=>bf (by intro e;exact hj (by simp[Dy.slots,e]))
 | many is=>
  cases d with
  | tup ds=>
   simp only[Dy.app]at h;by_cases hl:ds.length=is.length
   ·rw[if_pos hl]at h;cases h
    cases hd with
    | tup ht r=>exact⟨_,_,rfl,tD S.same ht,by rw[r.length,hl],Rf hl r S q⟩
   ·rw[if_neg hl]at h;cases h
  | _=>cases h
end
section
variable {X:Cx}{E:XK}{ρ:br}{tg iter:du}{body:iT}{items:bM}{τ:Dy}{oc:Oc}{pos:mH}
def kP(hp:qr (c9 X.prog X.w) X.A X.env X.xe)(hc:X.calm=true)(hi:Es X ρ tg iter items)(hg:PG X tg (τ.g X.K))(I:Nat->br)(h0:zc ρ (I 0))(n:Nat)(hn:n<=items.length)
  (hb:∀i d,i<n->items[i]? =some d->∃ρ',τ.app (I i) d=some ρ'/\wM X E ρ' body (.next (I (i+1))))
  (he:(n=items.length/\oc= .next (I n))\/∃d ρ',items[n]? =some d/\τ.app (I n) d=some ρ'/\wM X E ρ' body oc/\oc.ends=true)
  (hs:∀x,dA iter X.env x=pure x:=by intro _;rfl):Ex X E ρ (.For tg iter body [] pos) oc:=by
 refine eX (Ux hp hc hi hg (pRS (E:=E)) hs) fun Dn σ H ⟨GI,HI,G,S,q⟩=>⟨GI,HI,G,S,fun G1 H1 J e1 it=>?_⟩;refine⟨fun i m σ H=>m=items.length-i/\i<=n/\∃G',SR X.K GI HI G' H σ (I i)/\bN G1 G',⟨_,rfl,gW _,G1,(S.mono e1).Xr h0,bN.refl _⟩,?_⟩;rintro i m σ H ⟨rfl,hi,G',S',s'⟩;obtain⟨Xt,it2,Xu⟩:=it G' H s' S'.same;by_cases hin:i<n
 ·have hl:i<items.length:=!0
  refine .inr ⟨Xt i hl,fun σ' H'=>∃Cn,SR X.K GI HI Cn H' σ' (I (i+1))/\bN G1 Cn,fun σ' H' ⟨Cn,S2,s2⟩=>⟨_,by omega,rfl,by omega,Cn,S2,s2⟩,fun x H' y=>?_⟩;obtain⟨ρ',ha,hx⟩:=hb i items[i] hin (by simp[hl])
  have fin:∀G2,SR X.K GI HI G2 H' σ (I i)->bN G1 G2->Dt X.K G2 x items[i]->τ.g X.K x σ H' fun σ2 H2=>tRS X E body {Dn with nx:=fun σ' H'=>∃Cn,SR X.K GI HI Cn H' σ' (I (i+1))/\bN G1 Cn,ct:=fun σ' H'=>∃Cn,SR X.K GI HI Cn H' σ' (I (i+1))/\bN G1 Cn,bk:=Dn.nx} σ2 H2:=fun G2 S2 s2 hd=>
   Dy.ok ha hd S2 fun σ' S3 _ _=>⟨ρ',_,hx,GI,HI,G2,S3,fun G3 H3 σ3 s3 S4=>⟨G3,S4,s2.trans s3⟩⟩
  rcases Xu i items[i] x H' (by simp[hl]) y with⟨e,hd⟩ | ⟨p,o,hp,e,hd⟩
  ·subst e;exact fin G' S' s' hd
  ·subst e;have e2:Ext G' H (upd G' p o) (upd H p o):=Ext.new S'.same hp;exact fin _ (S'.mono e2) (s'.trans e2.g) hd
 ·have Xv:i=n:=!0
  subst Xv;rcases he with⟨TJ,e2'⟩ | ⟨d,ρ',hd0,ha,hx,Rg⟩
  ·subst e2';refine .inl ⟨by rw[TJ];exact it2,q G' H σ (e1.g.trans s') S'⟩
  ·have hl:i<items.length:=(ag.mp hd0).1;refine .inr ⟨Xt i hl,fun _ _=>False,fun _ _ h=>h.elim,fun x H' y=>?_⟩
   have fin:∀G2,SR X.K GI HI G2 H' σ (I i)->bN G1 G2->Dt X.K G2 x d->τ.g X.K x σ H' fun σ2 H2=>tRS X E body {Dn with nx:=fun _ _=>False,ct:=fun _ _=>False,bk:=Dn.nx} σ2 H2:=fun G2 S2 s2 hd=>
    Dy.ok ha hd S2 fun σ' S3 _ _=>⟨ρ',oc,hx,GI,HI,G2,S3,by
     cases oc with
     | next r=>cases Rg
     | ret d=>exact q
     | exc n=>exact q⟩
   rcases Xu i d x H' hd0 y with⟨e,hd⟩ | ⟨p,o,hp,e,hd⟩
   ·subst e;exact fin G' S' s' hd
   ·subst e;have e2:Ext G' H (upd G' p o) (upd H p o):=Ext.new S'.same hp;exact fin _ (S'.mono e2) (s'.trans e2.g) hd
def Vb(hp:qr (c9 X.prog X.w) X.A X.env X.xe)(I:Nat->br)(h0:zc ρ (I 0))(n:Nat)
  (hb:∀i,i<n->Et X (I i) c true/\wM X E (I i) body (.next (I (i+1))))
  (he:(Et X (I n) c false/\oc= .next (I n))\/(Et X (I n) c true/\wM X E (I n) body oc/\oc.ends=true)):Ex X E ρ (.While c body [] pos) oc:=by
 refine eX (HX hp (pRT (e:=c)) (pRS (E:=E))) ?_;rintro Dn σ H ⟨GI,HI,G,S,q⟩;refine⟨fun m σ H=>∃i,m=n-i/\i<=n/\∃G',SR X.K GI HI G' H σ (I i)/\bN G G',⟨_,0,rfl,gW _,G,S.Xr h0,bN.refl _⟩,?_⟩;rintro m σ H ⟨i,rfl,hi,G',S',s'⟩;by_cases hin:i<n
 ·obtain⟨h1,h2⟩:=hb i hin;refine⟨I i,true,h1,GI,HI,G',S',fun G2 H2 e2=>Br ⟨fun σ' H'=>∃Cn,SR X.K GI HI Cn H' σ' (I (i+1))/\bN G Cn,fun σ' H' ⟨Cn,S2,s2⟩=>⟨n-(i+1),by omega,i+1,rfl,by omega,Cn,S2,s2⟩,?_⟩⟩;exact⟨I i,_,h2,GI,HI,G2,S'.mono e2,fun G3 H3 σ3 s3 S3=>⟨G3,S3,(s'.trans e2.g).trans s3⟩⟩
 ·have Xv:i=n:=!0
  subst Xv;rcases he with⟨h1,h2⟩ | ⟨h1,h2,h3⟩
  ·subst h2;exact⟨I i,false,h1,GI,HI,G',S',fun G2 H2 e2=>ET (q G2 H2 σ (s'.trans e2.g) (S'.mono e2))⟩
  ·refine⟨I i,true,h1,GI,HI,G',S',fun G2 H2 e2=>Br ⟨fun _ _=>False,fun _ _ h=>h.elim,I i,oc,h2,GI,HI,G2,S'.mono e2,?_⟩⟩
   cases oc with
   | next r=>cases h3
   | ret d=>exact q
   | exc n=>exact q
end
def Ets(X:Cx)(ρ:br)(wC:jT)(k:Bool):Prop:=PTs X wC (tT X.K ρ k)
def Md{ρ:br}:Ets X ρ [] true:=fun pins s σ H Q I ⟨GI,HI,G,S,q⟩=>Xd pins s σ H Q I (q G H S.refl)
def Ba{ρ:br}{k:Bool}(h:Et X ρ c k):Ets X ρ [c] k:=Xe h
def mL(ρ:br):bL->br
 | []=>ρ
 | v::vs=>(mL ρ vs).set v .no
theorem Dz(ρ:br):∀vs:bL,(mL ρ vs).length=ρ.length
 | []=>rfl
 | v::vs=>by unfold mL;rw[pN,Dz ρ vs]
theorem Bb{ρ:br}{i:Nat}{s:Sl}:∀{vs:bL},(mL ρ vs)[i]? =some s->s= .no\/(ρ[i]? =some s/\i∉vs)
 | [],h=>.inr ⟨h,by simp⟩
 | v::vs,h=>by
  unfold mL at h;by_cases hi:v=i
  ·subst hi;by_cases hv:v<(mL ρ vs).length
   ·rw[bt hv]at h;exact .inl (be h).symm
   ·rw[bT (by simpa using hv)]at h;cases h
  ·rw[bf hi]at h;rcases Bb h with h | ⟨h1,h2⟩
   ·exact .inl h
   ·exact .inr ⟨h1,by simp only[bQ,not_or];exact⟨fun e=>hi e.symm,h2⟩⟩
def SR.wipe{K:a9}{GI HI G H:Hp}{ρ:br}(S:SR K GI HI G H σ ρ)(vs:bL):SR K GI HI G H (wipe σ vs) (mL ρ vs):=
 S.weak (mw σ vs) (Dz ρ vs) fun i s h=>(Bb h).imp id fun⟨h1,h2⟩=>⟨h1,vg h2⟩
def Hj{σ σ':L2.St}:∀{vs:bL},σ'.length=σ.length->(∀j,j∉vs->σ'[j]? =σ[j]?)->wipe σ' vs=wipe σ vs:=fun {vs} hl h=>by
 refine List.ext_getElem? fun i=>?_;by_cases hi:i∈vs
 ·have f:∀{τ:L2.St} {vs:bL},i∈vs->(wipe τ vs)[i]? =if i<τ.length then some none else none:=fun {τ vs} hv=>by
   by_cases Pa:i<τ.length
   ·rw[if_pos Pa];have a3l:i<(wipe τ vs).length:=by rw[mw];exact Pa
    rw[aV a3l]
    cases e:(wipe τ vs)[i]with
    | none=>rfl
    | some x=>exact absurd hv (B5 (by rw[aV a3l,e])).2
   ·rw[if_neg Pa];exact bT (by rw[mw];omega)
  rw[f hi,f hi,hl]
 ·rw[vg hi,vg hi,h i hi]
section
variable {X:Cx}{ρ:br}{tg iter w8:du}{wC:jT}{scope:jV}{own:zO}{items:bM}{τ:Dy}{pos:mH}{x5:List (Option D)}
abbrev yf(X:Cx)(scope:jV)(s:ai)(H:Hp)(C:aI)(cl:lR)(fp:kL):Cx:=X.La s H scope (mh scope cl C X.env) fp
def tBE(X:Cx)(scope:jV)(e:du):TE:=fun σ H Q=>∃ρ d,(∀s H C cl fp,Ev (yf X scope s H C cl fp) ρ e d)/\tE X.K ρ d σ H Q
def tBT(X:Cx)(scope:jV)(wC:jT):TT:=fun σ H Q=>∃ρ k,(∀s H C cl fp,Ets (yf X scope s H C cl fp) ρ wC k)/\tT X.K ρ k σ H Q
def BOk(Y:Cx)(ρ:br)(wC:jT)(w8:du):Option D->Prop
 | none=>Ets Y ρ wC false
 | some y=>Ets Y ρ wC true/\Ev Y ρ w8 y
def Z2(hτ:∀i∈τ.slots,i∈own.map (·.2))(ho:x5.length=items.length)
  (hb:∀(i:Nat) d o,items[i]? =some d->x5[i]? =some o->∃ρ',τ.app (mL ρ (own.map (·.2))) d=some ρ'/\∀s H C cl fp,BOk (yf X scope s H C cl fp) ρ' wC w8 o)(hl:items.length<=100000){Q:VK}(h:tE X.K ρ (.lst (x5.filterMap id)) σ H Q):
  tLc (tI X.K ρ items) (τ.g X.K) (tBT X scope wC) (tBE X scope w8) (own.map (·.2)) σ H Q:=by
 obtain⟨GI,HI,G,S,q⟩:=h;refine⟨GI,HI,G,S,fun G1 H1 J e1 it L hL=>?_⟩;have Vc:HI L=none:=(S.ext.h.trans e1.h).free hL;refine⟨fun i m H'=>m=items.length-i/\i<=items.length/\∃G' acc,SR X.K GI HI G' H' (wipe σ (own.map (·.2))) (mL ρ (own.map (·.2)))/\bN G1 G'/\bN H1 H'/\(∀b ob,H1 b=some ob->G1 b=none->G' b=none)/\H' L=some (.lst acc)/\G' L=none/\bV X.K G' acc ((x5.take i).filterMap id),
  ⟨_,rfl,gW _,G1,[],?_,bN.refl _,gK hL,fun _ _ _ h=>h,aU,e1.s.free hL,.nil⟩,?_⟩
 ·have S1:=(S.mono e1).wipe (own.map (·.2));refine⟨S1.len,⟨S1.ext.g,fun b u e=>?_,fun b u e=>?_,S1.ext.o⟩,fun i s hi=>?_,S1.one⟩
  ·rw[aL (bo e Vc)];exact S1.ext.h _ _ e
  ·rw[aL (bo e (e1.s.free hL))];exact e1.s _ _ e
  ·have z:=S1.sl i s hi
   cases s with
   | no=>trivial
   | dat d=>exact z
   | own l=>
    obtain⟨a,vs,z1,z2,z3,z4,z5⟩:=z;exact⟨a,vs,z1,z2,z3,by rw[aL (bo z4 hL)];exact z4,z5⟩
 rintro i m H' ⟨rfl,hi,G',acc,S',s1,s2,o1,Wy,hG,hd⟩;obtain⟨Xt,it2,Xu⟩:=it G' H' s1 S'.same;have ko:acc.length<=100000:=by
  rw[hd.length];exact bq (lK _ _) (bq (jW _ _) (!0))
 by_cases ED:i<items.length
 ·refine .inr ⟨Xt i ED,fun H2=>∃G' acc,SR X.K GI HI G' H2 (wipe σ (own.map (·.2))) (mL ρ (own.map (·.2)))/\bN G1 G'/\bN H1 H2/\(∀b ob,H1 b=some ob->G1 b=none->G' b=none)/\H2 L=some (.lst acc)/\G' L=none/\bV X.K G' acc ((x5.take (i+1)).filterMap id),
   fun H2 z=>⟨_,by omega,rfl,by omega,z⟩,fun x H2 y=>?_⟩
  have hio:i<x5.length:=!0
  obtain⟨ρ',ha,hx⟩:=hb i items[i] x5[i] (by simp[ED]) (by simp[hio]);have Z3:x5.take (i+1)=x5.take i++[x5[i]]:=by rw[lA hio]
  have fin:∀G2,Ext G' H' G2 H2->Dt X.K G2 x items[i]->τ.g X.K x (wipe σ (own.map (·.2))) H2 fun σ2 H2=>wipe σ2 (own.map (·.2))=wipe σ (own.map (·.2))/\tBT X scope wC σ2 H2 fun b H3=>if b=true then tBE X scope w8 σ2 H3 fun y H4=>∃acc,H4 L=some (.lst acc)/\acc.length<bC/\
    (∃G' Wz,SR X.K GI HI G' (upd H4 L (.lst (acc++[y]))) (wipe σ (own.map (·.2))) (mL ρ (own.map (·.2)))/\bN G1 G'/\bN H1 (upd H4 L (.lst (acc++[y])))/\(∀b ob,H1 b=some ob->G1 b=none->G' b=none)/\(upd H4 L (.lst (acc++[y]))) L=some (.lst Wz)/\G' L=none/\bV X.K G' Wz ((x5.take (i+1)).filterMap id))else
    (∃G' acc,SR X.K GI HI G' H3 (wipe σ (own.map (·.2))) (mL ρ (own.map (·.2)))/\bN G1 G'/\bN H1 H3/\(∀b ob,H1 b=some ob->G1 b=none->G' b=none)/\H3 L=some (.lst acc)/\G' L=none/\bV X.K G' acc ((x5.take (i+1)).filterMap id)):=fun G2 e2 QB=>
   Dy.ok ha QB (S'.mono e2) fun σ' S3 WA hk3=>by
    refine⟨?_,?_⟩
    ·have hw:=Hj (σ:=wipe σ (own.map (·.2))) (σ':=σ') (vs:=own.map (·.2)) WA fun j hj=>hk3 j fun hm=>hj (hτ j hm);rw[hw];exact Hj (mw _ _) fun j hj=>vg hj
    ·cases hf:x5[i]with
     | none=>
      rw[hf]at hx;refine⟨ρ',false,hx,GI,HI,G2,S3,fun G3 H3 e3=>ET ?_⟩;have O3:=e2.trans e3;refine⟨G3,acc,S'.mono O3,s1.trans O3.g,s2.trans O3.h,fun b ob h1 h2=>O3.o b ob (s2 _ _ h1) (o1 b ob h1 h2),O3.h _ _ Wy,O3.o _ _ Wy hG,?_⟩;rw[Z3,zL,hf];simpa using hd.mono O3.g
     | some yv=>
      rw[hf]at hx;refine⟨ρ',true,fun s H C cl fp=>(hx s H C cl fp).1,GI,HI,G2,S3,fun G3 H3 e3=>Br ⟨ρ',yv,fun s H C cl fp=>(hx s H C cl fp).2,GI,HI,G3,S3.mono e3,fun G4 H4 v e4 d4=>?_⟩⟩;have e24:=(e2.trans e3).trans e4;have hL4:H4 L=some (.lst acc):=e24.h _ _ Wy;have gL4:G4 L=none:=e24.o _ _ Wy hG;refine⟨acc,hL4,ig ko ck,G4,acc++[v],?_,s1.trans e24.g,fun b u e=>?_,fun b ob h1 h2=>e24.o b ob (s2 _ _ h1) (o1 b ob h1 h2),aU,gL4,?_⟩
      ·have S4:=S'.mono e24;refine⟨S4.len,⟨S4.ext.g,fun b u e=>?_,fun b u e=>?_,S4.ext.o⟩,fun i s hi=>?_,S4.one⟩
       ·rw[aL (bo e Vc)];exact S4.ext.h _ _ e
       ·rw[aL (bo e gL4)];exact S4.same _ _ e
       ·have z:=S4.sl i s hi
        cases s with
        | no=>trivial
        | dat d=>exact z
        | own l=>
         obtain⟨a,vs,z1,z2,z3,z4,z5⟩:=z;refine⟨a,vs,z1,z2,z3,?_,z5⟩;have uN:a≠L:=by
          intro e;subst e;have z:=(S.mono e1).sl;have ZA:=(Bb hi).resolve_left (by intro h;cases h);obtain⟨a',TB,w1,w2,w3,w4,w5⟩:=z i _ ZA.1;have w1':(wipe σ (own.map (·.2)))[i]? =σ[i]? :=vg ZA.2;rw[w1',w1]at z1;cases z1;rw[hL]at w4;cases w4
         rw[aL uN];exact z4
      ·rw[aL (bo e hL)];exact e24.h _ _ (s2 _ _ e)
      ·rw[Z3,zL,hf];exact(hd.mono e24.g).append (.cons d4 .nil)
  rcases Xu i items[i] x H2 (by simp[ED]) y with⟨e,QB⟩ | ⟨p,o,hp,e,QB⟩
  ·subst e;exact fin G' S'.refl QB
  ·subst e;exact fin _ (Ext.new S'.same hp) QB
 ·have Xv:i=items.length:=!0
  subst Xv;refine .inl ⟨it2,?_⟩;rw[<-ho,gG]at hd;have hn:bN G' (upd G' L (.lst acc)):=gK hG;refine q (upd G' L (.lst acc)) H' _ ⟨(e1.g.trans s1).trans hn,e1.h.trans s2,fun b u e=>?_,fun b ob h1 h2=>?_⟩ (.lst aU (hd.mono hn))
  ·by_cases hb:b=L
   ·subst hb;rw[aU]at e;cases e;exact Wy
   ·rw[aL hb]at e;exact S'.same _ _ e
  ·have h3:=e1.h _ _ h1;rw[aL (bo h3 hL)];exact o1 b ob h3 (e1.o b ob h1 h2)
end
section
open PySem PySem.Spec PyProof.Rows
open PySem.AutoSeq1 (wpAny_loadPart')
def GF(l:aI)(items:nc)(n:Nat)(b:aI)(JA:nc)(n2:Nat)(dd:rj)(sl:BK)(hs0:¬(!items.isEmpty && i7 (items.size+JA.size))=true)(hs1:items.size<=bC)(hs2:items.size+JA.size<=bC+1):
  Meets (oI.«list.extend» ⟨[.ref l,.ref b],[]⟩) (fun _ R s=>s.heap.get? l=some {cls:=.type "list",dict:=none,data:=.seq items n,slots:= #[]}/\s.heap.get? b=some {cls:=.type "tuple",dict:=dd,data:=.seq JA n2,slots:=sl}/\R (.ok (.ret ij)) {s with heap:=s.heap.update l (sF fun x=>x++JA),toks:=s.toks}):=
 .of_wp fun prog w A R s h=>by
  obtain⟨hp,g,d,tk,os⟩:=s;obtain⟨hl,hb,h⟩:=h;have f1:=PySem.AutoSeq1.idx_int;have f2:=PySem.AutoSeq1.sub_tuple_tuple;have f3:=PySem.AutoSeq1.sub_list_list;have f4:=PySem.AutoSeq1.sub_tuple_list;have f5:=PySem.AutoSeq1.sub_list_tuple;
  have hz':(items++JA).size<=bC+1:=by rw[Array.size_append];exact hs2
  wp_walk using(wpAny_updateSeq hl rfl (hz:=hs1) (_hz':=hz')),wpAny_loadPart' hl,wpAny_loadPart' hb;exact⟨_,rfl,h⟩
end
open PySem PySem.Spec PyProof.Rows L2
def Vd(K:a9):V->cV->Hp->VK->Prop:=fun x vs H Q=>∃l b xs zs,x= .ref l/\vs=[.ref b]/\H l=some (.lst xs)/\KW K H b zs/\xs.length+zs.length<=bC/\Q .fA (upd H l (.lst (xs++zs)))
def PJ{X:Cx}:MtM X "list.extend" (Vd X.K):=by
 intro pins s σ H x vs v us Q I rx rv h;obtain⟨l,b,xs,zs,rfl,rfl,hH,hB,hz,q⟩:=h;cases rx;obtain⟨u,rfl,ru⟩:=rv.one;cases ru;obtain⟨z,eI,n,r,hl,e⟩:=I.Pz hH;obtain⟨yG,r2,⟨⟨oc,od,odt,OW⟩,e2,c2,n2,d2⟩,hz2⟩:=I.tuple hB;have BA:=r2.length;cases c2;cases d2;have hsz:eI.toArray.size+yG.toArray.size<=bC:=by rw[bu,bu];omega
 have NR:¬(!eI.toArray.isEmpty && i7 (eI.toArray.size+yG.toArray.size))=true:=by
  rw[Ii hsz,o9];exact bA
 refine sI CS ⟨_,e,rfl⟩ BC (AK _ _)
  (GF l eI.toArray n b yG.toArray n2 od OW NR (by rw[bu];omega) (!0)) ⟨e,e2,?_⟩
 refine⟨.fA,_,I.a0c (its':=eI++yG) hH e (!1) (r.append r2) ?_,rfl,q⟩;rw[aE];omega
section
variable {K:a9}{GI HI G H:Hp}{σ:L2.St}{ρ:br}
def noOwn(ρ:br):Prop:=∀(j:Nat) (l:bM),ρ[j]? ≠some (.own l)
def SR.PK(S:SR K GI HI G H σ ρ)(LA:noOwn ρ){vs:cV}{l:bM}{i:Nat}(hp:H p=none)(hd:bV K G vs l):SR K GI HI G (upd H p (.lst vs)) (σ.set i (some (.ref p))) (ρ.set i (.own l)):=by
 have Vc:HI p=none:=S.ext.h.free hp;have hG:G p=none:=S.same.free hp;have key:∀{j:Nat} {s:Sl},(ρ.set i (.own l))[j]? =some s->(j=i/\s= .own l/\j<ρ.length)\/(j≠i/\ρ[j]? =some s):=fun {j s} hj=>by
  by_cases e:j=i
  ·subst e;have lt:j<ρ.length:=by
    have:=(ag.mp hj).1;simpa using this
   rw[bt lt]at hj;exact .inl ⟨rfl,(be hj).symm,lt⟩
  ·rw[bf (g0 e)]at hj;exact .inr ⟨e,hj⟩
 refine⟨by simp[S.len],⟨S.ext.g,fun b u e=>?_,fun b u e=>?_,S.ext.o⟩,fun j s hj=>?_,fun j k l1 l2 hj hk=>?_⟩
 ·rw[aL (bo e Vc)];exact S.ext.h _ _ e
 ·rw[aL (bo e hG)];exact S.same _ _ e
 ·rcases key hj with⟨e,es,lt⟩ | ⟨e,hj⟩
  ·subst e es;exact⟨p,vs,bt (by rw[S.len];exact lt),Vc,hG,aU,hd⟩
  ·rw[bf (g0 e)];have z:=S.sl j s hj
   cases s with
   | no=>trivial
   | dat d=>exact z
   | own l=>exact absurd hj (LA j l)
 ·rcases key hj with⟨e,es,lt⟩ | ⟨e,hj⟩
  ·rcases key hk with⟨e',es',lt'⟩ | ⟨e',hk⟩
   ·exact e.trans e'.symm
   ·exact absurd hk (LA _ _)
  ·exact absurd hj (LA _ _)
def SR.Me(S:SR K GI HI G H σ ρ){i:Nat}{l l':bM}{TB:cV}(hi:ρ[i]? =some (.own l))(ha:σ[i]? =some (some (.ref a)))(hd:bV K G TB l'):SR K GI HI G (upd H a (.lst TB)) σ (ρ.set i (.own l')):=by
 obtain⟨a',vs,z1,z2,z3,z4,z5⟩:=S.sl i _ hi;rw[ha]at z1;cases z1;have lt:i<ρ.length:=(ag.mp hi).1;have key:∀{j:Nat} {s:Sl},(ρ.set i (.own l'))[j]? =some s->(j=i/\s= .own l')\/(j≠i/\ρ[j]? =some s):=fun {j s} hj=>by
  by_cases e:j=i
  ·subst e;rw[bt lt]at hj;exact .inl ⟨rfl,(be hj).symm⟩
  ·rw[bf (g0 e)]at hj;exact .inr ⟨e,hj⟩
 refine⟨by simp[S.len],⟨S.ext.g,fun b u e=>?_,fun b u e=>?_,S.ext.o⟩,fun j s hj=>?_,fun j k l1 l2 hj hk=>?_⟩
 ·rw[aL (bo e z2)];exact S.ext.h _ _ e
 ·rw[aL (bo e z3)];exact S.same _ _ e
 ·rcases key hj with⟨e,es⟩ | ⟨e,hj⟩
  ·subst e es;exact⟨a,TB,ha,z2,z3,aU,hd⟩
  ·have z:=S.sl j s hj
   cases s with
   | no=>trivial
   | dat d=>exact z
   | own l2=>exact absurd (S.one j i _ _ hj hi) e
 ·rcases key hj with⟨e,es⟩ | ⟨e,hj⟩
  ·rcases key hk with⟨e',es'⟩ | ⟨e',hk⟩
   ·exact e.trans e'.symm
   ·exact absurd (S.one k i _ _ hk hi) e'
  ·exact absurd (S.one j i _ _ hj hi) e
def SR.release(S:SR K GI HI G H σ ρ){i:Nat}{l:bM}(hi:ρ[i]? =some (.own l)):∃G',bN G G'/\SR K GI HI G' H σ (ρ.set i (.dat (.lst l))):=by
 obtain⟨a,vs,z1,z2,z3,z4,z5⟩:=S.sl i _ hi;have hn:bN G (upd G a (.lst vs)):=gK z3;have lt:i<ρ.length:=(ag.mp hi).1;have key:∀{j:Nat} {s:Sl},(ρ.set i (.dat (.lst l)))[j]? =some s->(j=i/\s= .dat (.lst l))\/(j≠i/\ρ[j]? =some s):=fun {j s} hj=>by
  by_cases e:j=i
  ·subst e;rw[bt lt]at hj;exact .inl ⟨rfl,(be hj).symm⟩
  ·rw[bf (g0 e)]at hj;exact .inr ⟨e,hj⟩
 refine⟨upd G a (.lst vs),hn,by simp[S.len],⟨S.ext.g.trans hn,S.ext.h,fun b u e=>?_,fun b ob h1 h2=>?_⟩,fun j s hj=>?_,fun j k l1 l2 hj hk=>?_⟩
 ·by_cases hb:b=a
  ·subst hb;rw[aU]at e;cases e;exact z4
  ·rw[aL hb]at e;exact S.same _ _ e
 ·rw[aL (bo h1 z2)];exact S.ext.o b ob h1 h2
 ·rcases key hj with⟨e,es⟩ | ⟨e,hj⟩
  ·subst e es;exact⟨_,z1,.lst aU (z5.mono hn)⟩
  ·have z:=S.sl j s hj
   cases s with
   | no=>trivial
   | dat d=>obtain⟨v,y1,y2⟩:=z;exact⟨v,y1,y2.mono hn⟩
   | own l2=>exact absurd (S.one j i _ _ hj hi) e
 ·rcases key hj with⟨e,es⟩ | ⟨e,hj⟩
  ·cases es
  ·exact absurd (S.one j i _ _ hj hi) e
end
section
variable {X:Cx}{E:XK}{ρ:br}{OV:iT}{oc:Oc}{a:du}{d:D}{pos p1 p2 p3 rk:mH}{x:cY}{l ds:bM}{i:Nat}
def ll(hi:ρ[i]? =some (.own l))(h:wM X E (ρ.set i (.dat (.lst l))) OV oc):wM X E ρ OV oc:=
 mJ h fun Dn σ H ⟨GI,HI,G,S,q⟩=>by
  obtain⟨G',s,S'⟩:=S.release hi;exact⟨GI,HI,G',S',q.mono s⟩
def Co{es:jT}(hN:X.N.Nodup)(LA:noOwn ρ)(h:Ea X ρ es ds)(hl:ds.length<=1000:=by exact ny rfl)(hi:X.N[i]? =some x:=by rfl)(hx:Loc X.env.scope x:=by walk_at "o")
  (hs:dj (.List es p1) (some (.Name x rk)) pos.line X.env=pure false:=by rfl)(hf:X.fn x=true\/X.env.scope.names.lookup x=some .local:=by walk_at "o"):Ex X E ρ (.Assign [.Name x rk] (.List es p1) pos) (.next (ρ.set i (.own ds))):=
 eX (rP hN hi hx (vf h) (hs:=hs) (hf:=hf)) fun Dn σ H ⟨GI,HI,G,S,q⟩=>⟨GI,HI,G,S,fun G1 H1 vs e1 d1=>⟨by rw[d1.length];exact kg (xp hl),fun p hp=>q G1 _ _ e1.g ((S.mono e1).PK LA hp d1)⟩⟩
def Iu(hN:X.N.Nodup)(LA:noOwn ρ)(hm:X.mg "list" =none)(h:Ev X ρ a da)(hd:da= .lst ds\/da= .tup ds)(hi:X.N[i]? =some x:=by rfl)(hx:Loc X.env.scope x:=by walk_at "o")(hg:Gl X "list":=by rfl)(he:SE X a []:=by rfl)
  (hs:dj (.Call (.Name "list" p1) [a] [] p2) (some (.Name x rk)) pos.line X.env=pure false:=by rfl)(hf:X.fn x=true\/X.env.scope.names.lookup x=some .local:=by walk_at "o"):Ex X E ρ (.Assign [.Name x rk] (.Call (.Name "list" p1) [a] [] p2) pos) (.next (ρ.set i (.own ds))):=
 eX (rP hN hi hx (B2 Dq hg hm boot_list (ab h ar he) (he:=he)) (hs:=hs) (hf:=hf)) fun Dn σ H ⟨GI,HI,G,S,q⟩=>⟨GI,HI,G,S,fun G1 H1 vs e1 d1=>by
  obtain⟨v,rfl,hv⟩:=kO d1;rcases hd with rfl | rfl
  ·cases hv with
   | lst hl r=>exact⟨_,_,rfl,.inl (lC.of (e1.s _ _ hl)),fun l hn=>q G1 _ _ e1.g ((S.mono e1).PK LA hn r)⟩
  ·cases hv with
   | tup hl r=>exact⟨_,_,rfl,.inr (tD e1.s hl),fun l hn=>q G1 _ _ e1.g ((S.mono e1).PK LA hn r)⟩⟩
def Z4{K:a9}{H:Hp}{a:aI}{xs:cV}(h:H a=some (.lst xs)):tyV K "list" (.ref a) H:=.inl ⟨rfl,xs,lC.of h⟩
def uV(ho:ρ[i]? =some (.own l))(ha:Ev X ρ a d)(hl:l.length<100000)(hN:X.N[i]? =some x:=by rfl)(hv:KS X.env.scope x:=by walk_at "o")(he:SE X a []:=by rfl)
  (ux:Uk X (.Name x p1) "append":=by rfl)
  (qQ:YE X p3 [a]:=by rfl)
  (uz:(p2.endLine == p3.line)=true:=by rfl)(oS:ya X p3 []:=by rfl)(hs:dj (.Call (.Attribute (.Name x p1) "append" p2) [a] [] p3) none pos.line X.env=pure false:=by rfl)
  (hd:(x == ("__debug__":cY))=false:=by decide)(qx:(x == ("__classdict__":cY))=false:=by decide):
  Ex X E ρ (.Expr (.Call (.Attribute (.Name x p1) "append" p2) [a] [] p3) pos) (.next (ρ.set i (.own (l++[d])))):=
 eX (lj (FZ fh lL lM B3 (nP hN hv hd qx) (ab ha ar he) ux qQ uz he oS) hs) fun Dn σ H ⟨GI,HI,G,S,q⟩=>by
  obtain⟨b,vs,z1,z2,z3,z4,z5⟩:=S.sl i _ ho;refine⟨.ref b,z1,Z4 z4,GI,HI,G,S,fun G1 H1 ws e1 d1=>?_⟩;obtain⟨w,rfl,hw⟩:=kO d1;refine⟨b,vs,w,rfl,rfl,e1.h _ _ z4,?_,q G1 _ _ e1.g ((S.mono e1).Me ho z1 ((z5.mono e1.g).append (.cons hw .nil)))⟩;rw[z5.length];exact uR hl ck
def mX(ho:ρ[i]? =some (.own l))(ha:Ev X ρ a da)(hd:da= .lst ds\/da= .tup ds)(hl:l.length+ds.length<=1000000)(hN:X.N[i]? =some x:=by rfl)(hv:KS X.env.scope x:=by walk_at "o")(he:SE X a []:=by rfl)
  (ux:Uk X (.Name x p1) "extend":=by rfl)
  (qQ:YE X p3 [a]:=by rfl)
  (uz:(p2.endLine == p3.line)=true:=by rfl)(oS:ya X p3 []:=by rfl)(hs:dj (.Call (.Attribute (.Name x p1) "extend" p2) [a] [] p3) none pos.line X.env=pure false:=by rfl)
  (xg:(x == ("__debug__":cY))=false:=by decide)(qx:(x == ("__classdict__":cY))=false:=by decide):
  Ex X E ρ (.Expr (.Call (.Attribute (.Name x p1) "extend" p2) [a] [] p3) pos) (.next (ρ.set i (.own (l++ds)))):=by
 have big:(1000000:Nat)<=bC:=by decide
 rcases hd with rfl | rfl
 ·refine eX (lj (FZ fh pz pA L9 (nP hN hv xg qx) (ab ha ar he) ux qQ uz he oS) hs) ?_;rintro Dn σ H ⟨GI,HI,G,S,q⟩;obtain⟨b,vs,z1,z2,z3,z4,z5⟩:=S.sl i _ ho;refine⟨.ref b,z1,Z4 z4,GI,HI,G,S,fun G1 H1 ws e1 d1=>?_⟩;obtain⟨w,rfl,hw⟩:=kO d1
  cases hw with
  | lst h1 r=>
   refine⟨b,_,vs,_,rfl,rfl,e1.h _ _ z4,e1.s _ _ h1,?_,q G1 _ _ e1.g ((S.mono e1).Me ho z1 ((z5.mono e1.g).append r))⟩;rw[z5.length,r.length];omega
 ·refine eX (lj (FZ fh pz pA PJ (nP hN hv xg qx) (ab ha ar he) ux qQ uz he oS) hs) ?_;rintro Dn σ H ⟨GI,HI,G,S,q⟩;obtain⟨b,vs,z1,z2,z3,z4,z5⟩:=S.sl i _ ho;refine⟨.ref b,z1,Z4 z4,GI,HI,G,S,fun G1 H1 ws e1 d1=>?_⟩;obtain⟨w,rfl,hw⟩:=kO d1
  cases hw with
  | tup h1 r=>
   refine⟨b,_,vs,_,rfl,rfl,e1.h _ _ z4,tD e1.s h1,?_,q G1 _ _ e1.g ((S.mono e1).Me ho z1 ((z5.mono e1.g).append r))⟩;rw[z5.length,r.length];omega
def SJ(ho:ρ[i]? =some (.own l))(hm:X.mg "len" =none)(hN:X.N[i]? =some x:=by rfl)(hv:KS X.env.scope x:=by walk_at "o")(hg:Gl X "len":=by rfl)(he:dM [.Name x p1] X.env=[(false,fX (.Name x p1) X.env)]:=by rfl)
  (hd:(x == ("__debug__":cY))=false:=by decide)(qx:(x == ("__classdict__":cY))=false:=by decide):Ev X ρ (.Call (.Name "len" p2) [.Name x p1] [] pos) (.int l.length):=
 eL (NM uI hg hm vM (iz (nP hN hv hd qx) nh he) (he:=he)) fun σ H Q ⟨GI,HI,G,S,q⟩=>by
  obtain⟨b,vs,z1,z2,z3,z4,z5⟩:=S.sl i _ ho;exact⟨.ref b,z1,b,vs,rfl,.inl (lC.of z4),by rw[z5.length];exact q G H _ S.refl (.int _)⟩
end
section
variable {X:Cx}{E:XK}{ρ:br}{tg iter w8:du}{wC:jT}{scope:jV}{own:zO}{items:bM}{τ:Dy}{pos:mH}{x5:List (Option D)}
def Z5(hc:X.calm=true)(hN:X.N.Nodup)(hi:Es X ρ tg iter items)(ok:z9 X.N X.env.scope scope own)(hg:∀s H C cl fp,PG (yf X scope s H C cl fp) tg (τ.g X.K))(hτ:∀i∈τ.slots,i∈own.map (·.2))(ho:x5.length=items.length)
  (hb:∀(i:Nat) d o,items[i]? =some d->x5[i]? =some o->∃ρ',τ.app (mL ρ (own.map (·.2))) d=some ρ'/\∀s H C cl fp,BOk (yf X scope s H C cl fp) ρ' wC w8 o)(hl:items.length<=100000)(hs:∀x,dA iter X.env x=pure x:=by intro _;rfl):
  Ev X ρ (.ListComp w8 [⟨tg,iter,wC,0⟩] scope pos) (.lst (x5.filterMap id)):=
 eL (YU (tt:=tBT X scope wC) (te:=tBE X scope w8) hc hN hi ok hg (fun s H C cl fp pins s' σ H' Q I ⟨ρ,k,h,q⟩=>h s H C cl fp pins s' σ H' Q I q) (fun s H C cl fp pins s' σ H' Q I ⟨ρ,k,h,q⟩=>h s H C cl fp pins s' σ H' Q I q) hs) fun σ H Q h=>Z2 hτ ho hb hl h
def O4{i:Nat}{py Jz:mH}(hc:X.calm=true)(hN:X.N.Nodup)(hi:Es X ρ tg iter items)(ok:z9 X.N X.env.scope scope own)(hg:∀s H C cl fp,PG (yf X scope s H C cl fp) tg (τ.g X.K))(hτ:∀i∈τ.slots,i∈own.map (·.2))(ho:x5.length=items.length)
  (hb:∀(i:Nat) d o,items[i]? =some d->x5[i]? =some o->∃ρ',τ.app (mL ρ (own.map (·.2))) d=some ρ'/\∀s H C cl fp,BOk (yf X scope s H C cl fp) ρ' wC w8 o)(hl:items.length<=100000)
  (hsw:dj (.ListComp w8 [⟨tg,iter,wC,0⟩] scope pos) (some (.Name y py)) Jz.line X.env=pure true)(hy:X.N[i]? =some y:=by rfl)(Yr:X.env.scope.names.lookup y=some .local:=by rfl)(hs:∀x,dA iter X.env x=pure x:=by intro _;rfl):
  Ex X E ρ (.Assign [.Name y py] (.ListComp w8 [⟨tg,iter,wC,0⟩] scope pos) Jz) (.next (ρ.set i (.dat (.lst (x5.filterMap id))))):=
 eX (UO (tt:=tBT X scope wC) (te:=tBE X scope w8) hc hN hy Yr hsw hi ok hg (fun s H C cl fp pins s' σ H' Q I ⟨ρ,k,h,q⟩=>h s H C cl fp pins s' σ H' Q I q) (fun s H C cl fp pins s' σ H' Q I ⟨ρ,k,h,q⟩=>h s H C cl fp pins s' σ H' Q I q) hs)
  fun Dn σ H ⟨GI,HI,G,S,q⟩=>Z2 hτ ho hb hl ⟨GI,HI,G,S,fun G1 H1 v e1 d1=>q G1 H1 _ e1.g ((S.mono e1).set d1)⟩
def lcM{α:Type}{l:List α}{g:α->D}{h:α->Option D}{Φ:D->Option D->Prop}(hb:∀x∈l,Φ (g x) (h x)):∀(i:Nat) d o,(l.map g)[i]? =some d->(l.map h)[i]? =some o->Φ d o:=fun i d o h1 h2=>by
 rw[aC]at h1 h2
 cases e:l[i]? with
 | none=>rw[e]at h1;cases h1
 | some x=>
  rw[e]at h1 h2;cases h1;cases h2;exact hb x (aD e)
def a2b{α:Type}(l:List α)(h:α->Option D):(l.map h).filterMap id=l.filterMap h:=by rw[je];rfl
def Ve{α:Type}(l:List α)(h:α->D):(l.map fun x=>some (h x)).filterMap id=l.map h:=by rw[je];exact List.filterMap_eq_map (f:=h)▸rfl
def Iv{α:Type}{l:List α}{g:α->D}{h:α->Option D}(hc:X.calm=true)(hN:X.N.Nodup)(hi:Es X ρ tg iter (l.map g))(ok:z9 X.N X.env.scope scope own)(hg:∀s H C cl fp,PG (yf X scope s H C cl fp) tg (τ.g X.K))(hτ:∀i∈τ.slots,i∈own.map (·.2))
  (hl:l.length<=100000)(hb:∀x∈l,∃ρ',τ.app (mL ρ (own.map (·.2))) (g x)=some ρ'/\∀s H C cl fp,BOk (yf X scope s H C cl fp) ρ' wC w8 (h x))(hs:∀x,dA iter X.env x=pure x:=by intro _;rfl):
  Ev X ρ (.ListComp w8 [⟨tg,iter,wC,0⟩] scope pos) (.lst (l.filterMap h)):=by
 rw[<-a2b];exact Z5 hc hN hi ok hg hτ (!1) (lcM hb) (by simpa using hl) hs
def vk{α:Type}{l:List α}{g:α->D}{h:α->D}(hc:X.calm=true)(hN:X.N.Nodup)(hi:Es X ρ tg iter (l.map g))(ok:z9 X.N X.env.scope scope own)(hg:∀s H C cl fp,PG (yf X scope s H C cl fp) tg (τ.g X.K))(hτ:∀i∈τ.slots,i∈own.map (·.2))
  (hl:l.length<=100000)(hb:∀x∈l,∃ρ',τ.app (mL ρ (own.map (·.2))) (g x)=some ρ'/\∀s H C cl fp,Ev (yf X scope s H C cl fp) ρ' w8 (h x))(hs:∀x,dA iter X.env x=pure x:=by intro _;rfl):
  Ev X ρ (.ListComp w8 [⟨tg,iter,[],0⟩] scope pos) (.lst (l.map h)):=by
 rw[<-Ve];exact Z5 hc hN hi ok hg hτ (!1) (lcM fun x hx=>by
  obtain⟨ρ',h1,h2⟩:=hb x hx;exact⟨ρ',h1,fun s H C cl fp=>⟨Md,h2 s H C cl fp⟩⟩) (by simpa using hl) hs
def SK{α:Type}{l:List α}{g:α->D}{h:α->Option D}{i:Nat}{py Jz:mH}(hc:X.calm=true)(hN:X.N.Nodup)(hi:Es X ρ tg iter (l.map g))(ok:z9 X.N X.env.scope scope own)(hg:∀s H C cl fp,PG (yf X scope s H C cl fp) tg (τ.g X.K))(hτ:∀i∈τ.slots,i∈own.map (·.2))
  (hl:l.length<=100000)(hsw:dj (.ListComp w8 [⟨tg,iter,wC,0⟩] scope pos) (some (.Name y py)) Jz.line X.env=pure true)(hb:∀x∈l,∃ρ',τ.app (mL ρ (own.map (·.2))) (g x)=some ρ'/\∀s H C cl fp,BOk (yf X scope s H C cl fp) ρ' wC w8 (h x))
  (hy:X.N[i]? =some y:=by rfl)(Yr:X.env.scope.names.lookup y=some .local:=by rfl)(hs:∀x,dA iter X.env x=pure x:=by intro _;rfl):
  Ex X E ρ (.Assign [.Name y py] (.ListComp w8 [⟨tg,iter,wC,0⟩] scope pos) Jz) (.next (ρ.set i (.dat (.lst (l.filterMap h))))):=by
 rw[<-a2b];exact O4 hc hN hi ok hg hτ (!1) (lcM hb) (by simpa using hl) hsw hy Yr hs
def jY{i:Nat}(hN:X.N.Nodup)(hi:X.N[i]? =some x:=by rfl)(hx:Loc X.env.scope x:=by walk_at "o")(hf:X.fn x=true\/X.env.scope.names.lookup x=some .local:=by walk_at "o"):
  PG X (.Name x pos) ((Dy.one i).g X.K):=B1 hN hi hx hf
def pQ{i j k:Nat}{x y:cY}{p1 p2:mH}(hc:X.calm=true)(hN:X.N.Nodup)(hi:X.N[i]? =some x:=by rfl)(hx:Loc X.env.scope x:=by walk_at "o")(hf:X.fn x=true\/X.env.scope.names.lookup x=some .local:=by walk_at "o")
  (hj:X.N[j]? =some y:=by rfl)(hy:Loc X.env.scope y:=by walk_at "o")(hfy:X.fn y=true\/X.env.scope.names.lookup y=some .local:=by walk_at "o"):
  PG X (.Tuple [.Name x p1,.Name y p2] k pos) ((Dy.many [i,j]).g X.K):=Us hc (zZ (B1 hN hi hx hf) (zZ (B1 hN hj hy hfy) QQ))
def vm{i j l k:Nat}{x y z:cY}{p1 p2 p3:mH}(hc:X.calm=true)(hN:X.N.Nodup)(hi:X.N[i]? =some x:=by rfl)(hx:Loc X.env.scope x:=by walk_at "o")(hf:X.fn x=true\/X.env.scope.names.lookup x=some .local:=by walk_at "o")
  (hj:X.N[j]? =some y:=by rfl)(hy:Loc X.env.scope y:=by walk_at "o")(hfy:X.fn y=true\/X.env.scope.names.lookup y=some .local:=by walk_at "o")
  (hl:X.N[l]? =some z:=by rfl)(hz:Loc X.env.scope z:=by walk_at "o")(hfz:X.fn z=true\/X.env.scope.names.lookup z=some .local:=by walk_at "o"):
  PG X (.Tuple [.Name x p1,.Name y p2,.Name z p3] k pos) ((Dy.many [i,j,l]).g X.K):=Us hc (zZ (B1 hN hi hx hf) (zZ (B1 hN hj hy hfy) (zZ (B1 hN hl hz hfz) QQ)))
end
def fN(N:bS)(args:bM):br:=args.map Sl.dat++aY (N.length-args.length) .no
def Vf{K:a9}{G H:Hp}{N:bS}{vs:cV}{args:bM}(s:bN G H)(r:bV K G vs args)(hl:args.length<=N.length):SR K G H G H (start N vs) (fN N args):=by
 have e:=r.length;refine⟨?_,Ext.refl s,fun i sl hi=>?_,fun i j l l' hi hj=>?_⟩
 ·unfold L2.start fN;simp[e]
 ·unfold fN at hi;by_cases h:i<args.length
  ·rw[bZ (by simpa using h),aC,aV h]at hi;cases hi;obtain⟨v,e1,hv⟩:=r.get (i:=i) (d:=args[i]) (by simp[h]);refine⟨v,?_,hv⟩;unfold L2.start;rw[bZ (by simpa[e]using h),aC,e1];rfl
  ·rw[cF (by simpa using h),iw]at hi
   split at hi<;>cases hi
   trivial
 ·unfold fN at hi;by_cases h:i<args.length
  ·rw[bZ (by simpa using h),aC,aV h]at hi;cases hi
  ·rw[cF (by simpa using h),iw]at hi
   split at hi<;>cases hi
def Fin:Oc->Out->Prop
 | .ret d,.ok d'=>d=d'
 | .next _,.ok d'=>d'= .fA
 | .exc n,.exc n'=>n=n'
 | _,_=>False
def DA{K:a9}{E:XK}{N:bS}{vs:cV}{Q:VK}{R:bM->Out->Prop}{oc:Oc}{args:bM}{out:Out}(s:bN G H)(r:bV K G vs args)(hl:args.length<=N.length)(hf:Fin oc out)
  (q:match out with
   | .ok d=>∀G' H' v,Ext G H G' H'->Dt K G' v d->Q v H'
   | .exc n=>∀G' H',Ext G H G' H'->E (xn n) none H'):tS K E (fN N args) oc {nx:=fun _ H'=>Q .fA H',rt:=Q} (start N vs) H:=by
 refine⟨G,H,G,Vf s r hl,?_⟩
 cases oc with
 | next ρ'=>
  cases out with
  | ok d=>cases hf;exact fun G' H' σ' s' S=>q G' H' _ S.ext .fA
  | exc n=>exact hf.elim
 | ret d'=>
  cases out with
  | ok d=>cases hf;exact q
  | exc n=>exact hf.elim
 | exc n'=>
  cases out with
  | ok d=>exact hf.elim
  | exc n=>cases hf;exact q
def Z6{K:a9}{mg:MG}{x fO:cY}{st:di}{N ps:bS}{k:Nat}{R:bM->Out->Prop}(F:Hi K x fO st f fd)(S:ba N ps (aj st))
  (len:∀args out,R args out->args.length=ps.length)(pure:∀args n,R args (.exc n)->False)
  (hb:∀(dw:aH) (A:dD) (outer:iC) (s:ai) (H:Hp) (E:XK),fZ k (A.deeper (jQ fO (aj st) s.heap.objs.size f dw))->∀args out,R args out->
   ∃oc,wM (vW mx P w K mg base N fO (aj st) f dw A outer s H E).WW E0 (fN N args) (aX st) oc/\Fin oc out):mq P w K mg base mx (k+1) f fd ps (Xp K R):=by
 refine F.ok S (by rintro vs H Q E ⟨G,args,out,s,r,h,_⟩;rw[r.length];exact len _ _ h) ?_;rintro dw A outer s H vs Q E hr ⟨G,args,out,sm,r,h,q⟩;obtain⟨oc,hx,hf⟩:=hb dw A outer s H E hr args out h;have hl:args.length<=N.length:=by
  rw[len _ _ h];have:=congrArg oa S.pre;rw[fY]at this;omega
 refine⟨_,hx,?_⟩
 cases oc with
 | exc n=>
  cases out with
  | ok d=>exact hf.elim
  | exc n'=>
   exact(pure _ _ h).elim
 | next ρ'=>
  cases out with
  | ok d=>exact DA (R:=R) sm r hl hf q
  | exc n=>exact hf.elim
 | ret d'=>
  cases out with
  | ok d=>exact DA (R:=R) sm r hl hf q
  | exc n=>exact hf.elim
structure tF(K:a9)(mg:MG)(x:cY)(st:di):Prop where
 ex:∃f fd,Hi K x x st f fd/\mg x=some (.ref f)
abbrev dX(P:bp)(w:cH)(K:a9)(mg:MG)(base:cy)(N:bS)(x:cY)(sc:jV)(f:aI)(dw:aH)(A:dD)(outer:iC)(s:ai)(H:Hp)(E:XK):Cx:=
 (vW mx P w K mg base N x sc f dw A outer s H E).WW
def lW{K:a9}{mg:MG}{st:di}{N ps:bS}{k:Nat}{R:bM->Out->Prop}(T:tF K mg x st)(S:ba N ps (aj st))
  (hb:∀(f:aI) (dw:aH) (A:dD) (outer:iC) (s:ai) (H:Hp) (E:XK),fZ k (A.deeper (jQ x (aj st) s.heap.objs.size f dw))->∀args out,R args out->
   ∃oc,wM (dX P w K mg base N x (aj st) f dw A outer s H E) E0 (fN N args) (aX st) oc/\Fin oc out)(bi:∀(kV doc pm:aH) (an:rj) (dw ct:aH) (us:fk),us.length=ps.length->xE (fF x x (nA st) (aX st) (aj st) .none kV doc pm an dw ct) ⟨us,[]⟩=pure (ps.zip us):=by walk_at "b")(len:∀args out,R args out->args.length=ps.length:=by walk_at "l")(pure:∀args n,R args (.exc n)->False:=by walk_at "p"):FG P w K mg base mx x (k+1) R:=by
 obtain⟨f,fd,F,hm⟩:=T.ex;exact⟨f,fd,ps,Z6 F S len pure (hb f),hm,F.kp,F.binds bi⟩
def _root_.Dl.Ev.eq{ρ:br}{d d':D}(h:Ev X ρ e d)(q:d=d'):Ev X ρ e d':=q▸h
def _root_.Dl.Et.eq{ρ:br}{d d':Bool}(h:Et X ρ e d)(q:d=d'):Et X ρ e d':=q▸h
def _root_.Dl.Es.eq{ρ:br}{t e:du}{d d':bM}(h:Es X ρ t e d)(q:d=d'):Es X ρ t e d':=q▸h
def _root_.Dl.Ex.eq{ρ:br}{d d':Oc}(h:Ex X E ρ e d)(q:d=d'):Ex X E ρ e d':=q▸h
def g9{α:Type}{l:List α}{g:α->D}{i:Nat}{x:α}(h:l[i]? =some x):(l.map g)[((i:Nat):Int).toNat]? =some (g x):=by
 rw[bH,aC,h];rfl
def Rh{α:Type}{l:List α}{g:α->D}{z:Int}{i:Nat}{x:α}(e:z=(i:Int))(h:l[i]? =some x):(l.map g)[z.toNat]? =some (g x):=by
 rw[e];exact g9 h
def yg{ρ:br}{a b:du}{i k:Bool}(ha:Et X ρ a i)(hb:Et X ρ b k):Et X ρ (.BoolOp .And [a,b] pos) (i && k):=a0w ha (fun h=>Et.eq hb (by rw[h];rfl)) (fun h=>by rw[h];rfl)
def Vg{ρ:br}{a b:du}{i k:Bool}(ha:Et X ρ a i)(hb:Et X ρ b k):Et X ρ (.BoolOp .Or [a,b] pos) (i || k):=V1 ha (fun h=>Et.eq hb (by rw[h];rfl)) (fun h=>by rw[h];rfl)
def Xw{ρ:br}{a b:du}{i k:Bool}(ha:Ev X ρ a (.bl i))(hb:Ev X ρ b (.bl k)):Ev X ρ (.BoolOp .And [a,b] pos) (.bl (i && k)):=PD ha (fun h=>Ev.eq hb (by rw[h];rfl)) (fun h=>by rw[h];rfl)
def Mf{ρ:br}{c w8:du}{k:Bool}(hc:Et Y ρ c k)(he:k=true->Ev Y ρ w8 y):BOk Y ρ [c] w8 (if k=true then some y else none):=by
 cases k with
 | true=>exact⟨Ba hc,he rfl⟩
 | false=>exact Ba hc
def PL:br->Bool
 | []=>true
 | .own _::_=>false
 | .no::r=>PL r
 | .dat _::r=>PL r
theorem j3:∀{ρ:br},PL ρ=true->noOwn ρ
 | [],_,j,l,e=>by simp at e
 | .own _::_,h,_,_,_=>by cases h
 | .no::r,h,0,l,e=>by simp at e
 | .dat _::r,h,0,l,e=>by simp at e
 | .no::r,h,j+1,l,e=>j3 (ρ:=r) h j l (by simpa using e)
 | .dat _::r,h,j+1,l,e=>j3 (ρ:=r) h j l (by simpa using e)
def Xx{P:bp}{K:a9}{mg:MG}{base:cy}{N:bS}{sc:jV}{A:dD}{outer:iC}{s:ai}{k:Nat}
  (hs:base.NoSeer)(ht:P.given.tree=none)(hl:base.NoLimit)(hg:sc.isGenerator=false)(hc:sc.isCoroutine=false)(hr:fZ k (A.deeper (jQ x sc s.heap.objs.size f dw)))(hk:32<=k):O0 (vW CX P w K mg base N x sc f dw A outer s H E):=fun s' hb Jy=>
 PylongRoom.of (hl.keeps hb) (by have:=hr.dp;show(A.deeper (jQ x sc s.heap.objs.size f dw)).depth+100<_;omega) (SeerAt.of (hs.keeps hb) ht Jy hg hc rfl rfl)
def Rj{P:bp}{K:a9}{mg:MG}{base:cy}{N:bS}{sc:jV}{A:dD}{outer:iC}{s:ai}{k:Nat}
  (hs:base.NoSeer)(ht:P.given.tree=none)(hl:base.NoLimit)(hg:sc.isGenerator=false)(hc:sc.isCoroutine=false)(hr:fZ k (A.deeper (jQ x sc s.heap.objs.size f dw)))(hk:32<=k):O0 (dX P w K mg base N x sc f dw A outer s H E):=
 Xx (CX:=mx) (K:=K) (mg:=mg) (N:=N) (H:=H) (E:=E) hs ht hl hg hc hr hk
theorem O5:∀{xs:cV} {us:fk},xs.length=us.length->(∀(j:Nat) x u,xs[j]? =some x->us[j]? =some u->RelV x u)->Vals xs us
 | [],[],_,_=>.nil
 | [],_::_,h,_=>by cases h
 | _::_,[],h,_=>by cases h
 | x::xs,u::us,h,k=>.cons (k 0 x u rfl rfl) (O5 (by simpa using h) fun j x u h1 h2=>k (j+1) x u (by simpa using h1) (by simpa using h2))
section
variable {X:Cx}{ρ:br}{a b c:du}{da db dc d:D}{pos p1 p2 p3:mH}{x:cY}{p:mH}{E:XK}
def O6:xm X (.type "range") (fun xs H Q=>∃j:Int,xs=[.int j]/\∀r,H r=none->Q (.ref r) (upd H r (.D0 0 j))):=by
 intro pins s σ H xs us Q I r h;obtain⟨j,rfl,q⟩:=h;obtain⟨u,rfl,t,rfl⟩:=vals1 r;refine call_range_1 ⟨.ref _,_,I.laid (fun b o e=>af _ e) (ao _) (show jK X.prog X.w _ _ _ (.D0 0 j)from⟨_,_,_,bI _ rfl⟩),rfl,q _ I.fresh⟩
def Mg(hc:X.calm=true):xm X (.type "list") (fun xs H Q=>∃(r:aI) (n:Nat),xs=[.ref r]/\H r=some (.D0 0 n)/\n<=100000/\∀l,H l=none->Q (.ref l) (upd H l (.lst ((ay n).map fun(i:Nat)=>V.int (i:Int))))):=by
 intro pins s σ H xs us Q I r h;obtain⟨r0,n,rfl,hH,hn,q⟩:=h;obtain⟨u,rfl,rx⟩:=vals1 r;cases rx;obtain⟨t,u,v,e⟩:=(show jK X.prog X.w H s.heap r0 (.D0 0 n)from I.hok _ _ hH)
 have hsz:iu 0 (n:Int) 1=n:=by rw[rangeSize_one];split<;>omega
 refine call_list_range (I.ok.hd hc) (show IsRange s.heap r0 0 n 1 t u v from e) (small_one (!0) (!0) (!0) (!0)) hsz (!0) fun h' tk Wz c' kp e' hi=>?_;obtain⟨hz,hj⟩:=hi;have hv:Vals ((ay n).map fun(i:Nat)=>V.int (i:Int)) Wz.toList:=O5 (by simp[hz]) fun j x u h1 h2=>by
  rw[aC]at h1;have hjn:j<n:=by
   have:=(ag.mp h2).1;simpa[hz]using this
  rw[f6 hjn]at h1;cases h1;obtain⟨t,e⟩:=hj j u (by simpa using h2);exact⟨t,by rw[e];simp⟩
 refine⟨.ref _,_,I.laid (t':=tk) kp (ao _) (show jK X.prog X.w _ h' _ (.lst _)from⟨by simp;exact bq hn ck,Wz.toList,c',hv,by simpa using e'⟩),rfl,q _ I.fresh⟩
def Mh{n:Nat}(hc:X.calm=true)(hl:X.mg "list" =none)(hm:X.mg "range" =none)(ha:Ev X ρ a (.int n))(hn:n<=100000)(hg:Gl X "list":=by rfl)(hg2:Gl X "range":=by rfl)(he:SE X a []:=by rfl)
  (TH:dM [.Call (.Name "range" p1) [a] [] p2] X.env=[(false,fX (.Call (.Name "range" p1) [a] [] p2) X.env)]:=by rfl):Ev X ρ (.Call (.Name "list" p3) [.Call (.Name "range" p1) [a] [] p2] [] pos) (.lst ((ay n).map fun(i:Nat)=>D.int (i:Int))):=
 eL (B2 (Mg hc) hg hl boot_list (iz (B2 O6 hg2 hm CO (ab ha ar he) (he:=he)) nh TH) (he:=TH)) fun σ H Q ⟨GI,HI,G,S,q⟩=>⟨GI,HI,G,S,fun G1 H1 vs e1 d1=>by
  obtain⟨v,rfl,hv⟩:=kO d1;cases hv;refine⟨n,rfl,fun r hr=>⟨r,n,rfl,aU,hn,fun l hl=>?_⟩⟩;have e2:Ext G1 H1 (upd G1 r (.D0 0 n)) (upd H1 r (.D0 0 n)):=Ext.new e1.s hr;have e3:=Ext.new (o:=.lst ((ay n).map fun(i:Nat)=>V.int (i:Int))) e2.s hl;refine q _ _ _ ((e1.trans e2).trans e3) (.lst aU ?_);have:=bV.ints (K:=X.K) (G:=upd (upd G1 r (.D0 0 n)) l (.lst ((ay n).map fun(i:Nat)=>V.int (i:Int)))) ((ay n).map fun(i:Nat)=>(i:Int));rw[bc,bc]at this;exact this⟩
end
section
variable {X:Cx}{E:XK}{ρ:br}{tg iter w8:du}{wC:jT}{scope:jV}{own:zO}{items:bM}{τ:Dy}{pos:mH}{x5:List (Option D)}
def SM{α:Type}{l:List α}{g:α->D}{h:α->D}{i:Nat}{py Jz:mH}(hc:X.calm=true)(hN:X.N.Nodup)(hi:Es X ρ tg iter (l.map g))(ok:z9 X.N X.env.scope scope own)(hg:∀s H C cl fp,PG (yf X scope s H C cl fp) tg (τ.g X.K))(hτ:∀i∈τ.slots,i∈own.map (·.2))
  (hl:l.length<=100000)(hsw:dj (.ListComp w8 [⟨tg,iter,[],0⟩] scope pos) (some (.Name y py)) Jz.line X.env=pure true)(hb:∀x∈l,∃ρ',τ.app (mL ρ (own.map (·.2))) (g x)=some ρ'/\∀s H C cl fp,Ev (yf X scope s H C cl fp) ρ' w8 (h x))
  (hy:X.N[i]? =some y:=by rfl)(Yr:X.env.scope.names.lookup y=some .local:=by rfl)(hs:∀x,dA iter X.env x=pure x:=by intro _;rfl):
  Ex X E ρ (.Assign [.Name y py] (.ListComp w8 [⟨tg,iter,[],0⟩] scope pos) Jz) (.next (ρ.set i (.dat (.lst (l.map h))))):=by
 rw[<-Ve];exact O4 hc hN hi ok hg hτ (!1) (lcM fun x hx=>by
  obtain⟨ρ',h1,h2⟩:=hb x hx;exact⟨ρ',h1,fun s H C cl fp=>⟨Md,h2 s H C cl fp⟩⟩) (by simpa using hl) hsw hy Yr hs
end
def K6:vL (.type "zip") "keys" =pure none:=am_miss_of_fast (by first | decide+kernel | rfl)
def EV:vL (.type "zip") "__getattr__" =pure none:=by rw[typeLookup_type,builtinLookup_eq_fast];kernel_rfl
def yh:entryFor table "zip.__getattribute__" =some oI.«object.__getattribute__»:=
 entryFor_alias (id':="object.__getattribute__") (by kernel_rfl) (by decide+kernel) (by decide+kernel) (by kernel_rfl)
def Iw(a:aI)(xs:nc)(sl:BK)(name:cY)(u:Tok)(ZC:vL (.type "zip") name=pure none)(WB:(["__module__","__name__","__qualname__","__doc__","__annotations__"]:bS).contains name=false)(hsz:name.length+100<=bC):
  Meets (oI.«object.__getattribute__» ⟨[.ref a,.str name u],[]⟩) (fun A R s=>s.heap.get? a=some {cls:=.type "zip",dict:=none,data:=.fields xs,slots:=sl}/\raisesAttr (.ref a) name A R s):=
 Meets.of_wp fun prog w A R s hs=>by
  obtain⟨hp,g,d,tk,os⟩:=s;obtain⟨hx,hs⟩:=hs;have hT:(⟨hp,g,d,tk,os⟩:ai).TypeIs (.ref a) "zip":=⟨_,hx,rfl⟩;unfold oI.«object.__getattribute__»
  repeat(any_goals (first | assumption | wp_step))
  simp only[WB,bU,if_false]
  repeat(any_goals (first | assumption | wp_step))
  exact wpAny_raiseAttrError hs.1 hs.2 (attrMsg_fits (by decide+kernel) hsz)
section
variable {prog:bp}{w:cH}{A:dD}{E:aH->ai->Prop}
def Vh{s:ai}{xs:nc}{sl:BK}{Q:iF->ai->Prop}(hx:s.heap.get? a=some {cls:=.type "zip",dict:=none,data:=.fields xs,slots:=sl})(hA:A.handled=none)
  (h:∀h' tk,(∀b ob,s.heap.get? b=some ob->h'.get? b=some ob)->Q none {s with heap:=h',toks:=tk}):bO (c9 prog w) A (getAttr? (.ref a) "keys") Q E s:=by
 obtain⟨hp,g,d,tk,os⟩:=s;have hT:∀tk',(⟨hp,g,d,tk',os⟩:ai).TypeIs (.ref a) "zip":=fun _=>⟨_,hx,rfl⟩;have ZC:=K6;have WB:(["__module__","__name__","__qualname__","__doc__","__annotations__"]:bS).contains "keys" =false:=by decide+kernel
 have hsz:("keys":cY).length+100<=bC:=by first | size_fits | decide+kernel
 have f1:=sub_AttributeError;have f3:=mz.lookup;have f4:=mz.bind (.ref a);have f5:=EV;unfold getAttr? getAttrBy? getAttrBy
 repeat(any_goals (first | assumption | exact hT _ | ((with_reducible show wpAny _ _ (call (Value.builtin "zip.__getattribute__") _ _) _ _ _);refine call_meets PySem.F.slot_zip_getattribute (hT _) yh (PySem.F.args_zip_getattribute_2 _ _) (Iw a xs sl "keys" _ ZC WB hsz) ⟨hx,hA,fun h' tk' e P9=>?_⟩) | wp_step))
 obtain⟨t',u',he⟩:=P9.there;show bO _ _ (CT _ _ _ _ _ _ _) _ _ _;unfold CT
 repeat(any_goals (first | assumption | wp_step))
 all_goals first | exact h _ _ P9.keeps | (dsimp only;repeat(any_goals (first | assumption | exact h _ _ P9.keeps | wp_step)))
end
section
variable {prog:bp}{w:cH}{A:dD}{E:aH->ai->Prop}
def DB{M:AA}{s:ai}{Q:Option uC->ai->Prop}(h:Q (s.heap.get? a) s):bO M A (Gu a) Q E s:=fun Γ p _=>by
 unfold Gu;rw[GX.wp_loadIfAlive];exact h
abbrev Cp(h:cy)(z TI TO T:aI)(fb:Bool):Prop:=
 h.get? z=some {cls:=.type "zip",dict:=none,data:=.fields #[vK T,.bool fb,.bool false,.ref TI,.ref TO],slots:= #[]}
def O7{s:ai}{z TI TO T:aI}{fb:Bool}{oT:uC}{Q:Bool->ai->Prop}(hz:Cp s.heap z TI TO T fb)(hT:s.heap.get? T=some oT)
  (hQ:∀h',Cp h' z TI TO T true->uP z s.heap h'->Q false {s with heap:=h'}):bO (c9 prog w) A (cG (.ref z)) Q E s:=by
 unfold cG;refine ae (fC hz rfl (x:=vK T) rfl ?_);show bO _ _ (Gu ((T:Int).toNat) >>= _) _ _ _;rw[bH];refine ae (DB ?_);rw[hT];rw[if_neg (!1)];refine ae (fC hz rfl (x:=.bool fb) rfl ?_)
 cases fb with
 | true=>
  rw[if_neg ck];exact aG (hQ s.heap hz (uP.refl ..))
 | false=>
  rw[if_pos ck];exact ae (kG hz (!1) fun h1 hz1 hs1=>aG (hQ h1 hz1 hs1))
def Iy{s:ai}{z TI TO T i1 i2 l1 l2:aI}{fb:Bool}{oT:uC}{k1 k2:Nat}{xs ys:nc}{x y:aH}{Q:aH->ai->Prop}(D:xG z TI TO i1 i2 l1 l2)
  (hz:Cp s.heap z TI TO T fb)(hT:s.heap.get? T=some oT)(ub:pX s.heap TI (.ref i1) (.ref i2))
  (h1:s.heap.IsListIter i1 l1 k1)(h2:s.heap.IsListIter i2 l2 k2)(Ar:s.heap.IsList l1 xs)(BA:s.heap.IsList l2 ys)(hx:xs[k1]? =some x)(hy:ys[k2]? =some y)
  (hQ:∀h',Cp h' z TI TO T true->h'.IsListIter i1 l1 (k1+1)->h'.IsListIter i2 l2 (k2+1)->pX h' s.heap.objs.size x y->
   (∀c o,c≠z->c≠i1->c≠i2->s.heap.get? c=some o->h'.get? c=some o)->Q (.ref s.heap.objs.size) {s with heap:=h'}):
  bO (c9 prog w) A (oI.«zip.__next__» ⟨[.ref z],[]⟩) (fun fin s'=>∃v,fin= .done (.ret v)/\Q v s') E s:=by
 show bO _ _ (JQ (.ref z) 2 >>= _) _ _ _;refine ae (fC hz rfl (x:=.bool false) rfl ?_);show bO _ _ (JQ (.ref z) 3 >>= _) _ _ _;refine ae (fC hz rfl (x:=.ref TI) rfl ?_);refine ae (jG ub rfl ?_);show bO _ _ (cG (.ref z) >>= _) _ _ _;refine ae (O7 hz hT fun ha WJ xS=>?_);simp only[bU,if_false];refine ae ?_;show bO _ _ (forIn (#[cj i1,.ref i2]:nc) _ _) _ _ _;rw[<-CU];simp only[l0,og];refine ae (ae (iE ?_));show bO _ _ (eN (.ref i1) >>= _) _ _ _;refine ae (iM (h1.extBut xS.extBut D.i1z) (Ar.extBut xS.extBut D.l1z) hx fun hb h1b Iz=>aG ?_);refine aG ?_;refine ae (ae (iE ?_));show bO _ _ (eN (.ref i2) >>= _) _ _ _;refine ae (iM ((h2.extBut xS.extBut D.i2z).extBut Iz.extBut D.i12.symm) ((BA.extBut xS.extBut D.l2z).extBut Iz.extBut D.l2i1) hy fun hc h2c BY=>aG ?_);refine aG (aG ?_);show bO _ _ (newTuple [x,y] >>= _) _ _ _;refine ae (wpAny_newTuple ?_);have hsz:hc.objs.size=s.heap.objs.size:=by rw[BY.1,Iz.1,xS.1]
 have hzc:Cp hc z TI TO T true:=BY.extBut _ _ D.i2z.symm (Iz.extBut _ _ D.i1z.symm WJ);refine aG ⟨_,rfl,?_⟩;show Q (.ref hc.objs.size) _;have hp:pX (hc.push {cls:=.type "tuple",data:=.seq #[x,y]}) hc.objs.size x y:=bI _ rfl;rw[hsz]at hp ⊢;refine hQ _ (af _ hzc) ((h1b.extBut BY.extBut D.i12).at fun o e=>af _ e) (h2c.at fun o e=>af _ e) hp fun c o c1 c3 c4 e=>af _ (BY.extBut _ _ c4 (Iz.extBut _ _ c3 (xS.extBut _ _ c1 e)))
def K7{s:ai}{z TI TO T i1 i2 l1 l2:aI}{fb:Bool}{oT:uC}{k1 k2:Nat}{xs ys:nc}{Q:PySem.Fin->ai->Prop}(hh:A.handled=none)(D:xG z TI TO i1 i2 l1 l2)
  (hz:Cp s.heap z TI TO T fb)(hT:s.heap.get? T=some oT)(ub:pX s.heap TI (.ref i1) (.ref i2))
  (h1:s.heap.IsListIter i1 l1 k1)(h2:s.heap.IsListIter i2 l2 k2)(Ar:s.heap.IsList l1 xs)(BA:s.heap.IsList l2 ys)(hend:xs[k1]? =none\/ys[k2]? =none)
  (hE:∀h' e,(∀c o,c≠z->c≠i1->c≠i2->s.heap.get? c=some o->h'.get? c=some o)->(∃o,h'.get? e=some o/\o.cls= .type "StopIteration")->E (.ref e) {s with heap:=h'}):
  bO (c9 prog w) A (oI.«zip.__next__» ⟨[.ref z],[]⟩) Q E s:=by
 show bO _ _ (JQ (.ref z) 2 >>= _) _ _ _;refine ae (fC hz rfl (x:=.bool false) rfl ?_);show bO _ _ (JQ (.ref z) 3 >>= _) _ _ _;refine ae (fC hz rfl (x:=.ref TI) rfl ?_);refine ae (jG ub rfl ?_);show bO _ _ (cG (.ref z) >>= _) _ _ _;refine ae (O7 hz hT fun ha WJ xS=>?_);simp only[bU,if_false];refine ae ?_;show bO _ _ (forIn (#[cj i1,.ref i2]:nc) _ _) _ _ _;rw[<-CU];simp only[l0,og];refine ae (ae (iE ?_));show bO _ _ (eN (.ref i1) >>= _) _ _ _
 cases hx:xs[k1]? with
 | none=>
  refine ae (rE hh (h1.extBut xS.extBut D.i1z) (Ar.extBut xS.extBut D.l1z) hx fun hb e Iz he=>?_);exact hE hb e (fun c o c1 c3 c4 x=>Iz _ _ c3 (xS.extBut _ _ c1 x)) he
 | some x=>
  have hy:ys[k2]? =none:=by rcases hend with h | h;rw[hx]at h;cases h;exact h
  refine ae (iM (h1.extBut xS.extBut D.i1z) (Ar.extBut xS.extBut D.l1z) hx fun hb h1b Iz=>aG ?_);refine aG ?_;refine ae (ae (iE ?_));show bO _ _ (eN (.ref i2) >>= _) _ _ _;refine ae (rE hh ((h2.extBut xS.extBut D.i2z).extBut Iz.extBut D.i12.symm) ((BA.extBut xS.extBut D.l2z).extBut Iz.extBut D.l2i1) hy fun hc e BY he=>?_);exact hE hc e (fun c o c1 c3 c4 x=>BY _ _ c4 (Iz.extBut _ _ c3 (xS.extBut _ _ c1 x))) he
def ZSt(h:cy)(z TI TO:aI):Prop:=tU h z TI TO .none\/∃T fb oT,Cp h z TI TO T fb/\h.get? T=some oT/\T≠z
def Xy{s:ai}{z TI TO i1 i2 l1 l2:aI}{k1 k2:Nat}{xs ys:nc}{x y a b:aH}{Q:iF->ai->Prop}(D:xG z TI TO i1 i2 l1 l2)
  (hz:ZSt s.heap z TI TO)(ub:pX s.heap TI (.ref i1) (.ref i2))(xU:pX s.heap TO a b)
  (h1:s.heap.IsListIter i1 l1 k1)(h2:s.heap.IsListIter i2 l2 k2)(Ar:s.heap.IsList l1 xs)(BA:s.heap.IsList l2 ys)(hx:xs[k1]? =some x)(hy:ys[k2]? =some y)
  (hQ:∀h',ZSt h' z TI TO->(∃a b,pX h' TO a b)->h'.IsListIter i1 l1 (k1+1)->h'.IsListIter i2 l2 (k2+1)->pX h' s.heap.objs.size x y->
   (∀c o,c≠z->c≠TO->c≠i1->c≠i2->s.heap.get? c=some o->h'.get? c=some o)->Q (some (.ref s.heap.objs.size)) {s with heap:=h'}):
  bO (c9 prog w) A (uf (.ref z)) Q E s:=by
 rcases hz with hz | ⟨T,fb,oT,hz,hT,uN⟩
 ·have TF:z<s.heap.objs.size:=aM hz;exact zJ D hz ub xU h1 h2 Ar BA hx hy fun h' a1 a2 a3 a4 a5 a6 a7=>hQ h' (.inr ⟨s.heap.objs.size,false,_,a1,a5,jo TF⟩) ⟨_,_,a2⟩ a3 a4 a5 a7
 ·have hTy:s.TypeIs (.ref z) "zip":=⟨_,hz,rfl⟩;unfold uf;refine ae (t6 (mi (name:=yV "__next__") hTy jR
   (sM jR hTy sN
    (Iy D hz hT ub h1 h2 Ar BA hx hy fun h' a1 a3 a4 a5 a7=>aG (hQ h' ?_ ⟨_,_,a7 _ _ D.TOz D.TOi1 D.TOi2 xU⟩ a3 a4 a5 fun c o c1 _ c3 c4 e=>a7 c o c1 c3 c4 e)) (r8 _))))
  refine .inr ⟨T,true,?_⟩;by_cases e1:T=i1
  ·subst e1;obtain⟨o,e,_⟩:=a3;exact⟨o,a1,e,uN⟩
  ·by_cases e2:T=i2
   ·subst e2;obtain⟨o,e,_⟩:=a4;exact⟨o,a1,e,uN⟩
   ·exact⟨oT,a1,a7 _ _ uN e1 e2 hT,uN⟩
def a0F{s:ai}{z TI TO i1 i2 l1 l2:aI}{k1 k2:Nat}{xs ys:nc}{a b:aH}{Q:iF->ai->Prop}(hh:A.handled=none)(D:xG z TI TO i1 i2 l1 l2)
  (hz:ZSt s.heap z TI TO)(ub:pX s.heap TI (.ref i1) (.ref i2))(xU:pX s.heap TO a b)
  (h1:s.heap.IsListIter i1 l1 k1)(h2:s.heap.IsListIter i2 l2 k2)(Ar:s.heap.IsList l1 xs)(BA:s.heap.IsList l2 ys)(hend:xs[k1]? =none\/ys[k2]? =none)
  (hQ:∀h',(∀c o,c≠z->c≠TO->c≠i1->c≠i2->s.heap.get? c=some o->h'.get? c=some o)->Q none {s with heap:=h'}):bO (c9 prog w) A (uf (.ref z)) Q E s:=by
 rcases hz with hz | ⟨T,fb,oT,hz,hT,uN⟩
 ·exact AL hh D hz ub xU h1 h2 Ar BA hend hQ
 ·have hTy:s.TypeIs (.ref z) "zip":=⟨_,hz,rfl⟩;unfold uf;refine ae (t6 (mi (name:=yV "__next__") hTy jR
   (sM jR hTy sN (K7 hh D hz hT ub h1 h2 Ar BA hend fun h' e hk he=>?_) (r8 _))))
  obtain⟨o,ho,hc⟩:=he;refine ae (wpAny_isInstance (T:="StopIteration") (b:=true) ⟨o,ho,hc⟩ isSubtype_stop ?_);exact aG (hQ _ fun c o c1 _ c3 c4 e=>hk c o c1 c3 c4 e)
def a2c{h h':cy}{z TI TO:aI}(x:ZSt h z TI TO)(k:∀b o,b≠z->h.get? b=some o->∃o',h'.get? b=some o')(kz:∀o,h.get? z=some o->h'.get? z=some o):ZSt h' z TI TO:=by
 rcases x with x | ⟨T,fb,oT,x,hT,uN⟩
 ·exact .inl (kz _ x)
 ·obtain⟨o',e⟩:=k T oT uN hT;exact .inr ⟨T,fb,o',kz _ x,e,uN⟩
theorem Le{R:MZ->ai->Prop}{S z TI TO i1 i2 l1 l2:aI}{xs ys:nc}(hh:A.handled=none)(D:xG z TI TO i1 i2 l1 l2)(hSz:S≠z)(a2d:S≠TI)(Xz:S≠TO)(hS1:S≠i1)(hS2:S≠i2)(a2e:S≠l1)(a2f:S≠l2):
  ∀(rest:List (Key×aH)) (i:Nat) (acc:List (Key×aH)) (ix:Int) (t:Tok) (s:ai),acc.length+rest.length<=bC->
   (∀(j:Nat) (q:Key×aH),rest[j]? =some q->∃u,xs[i+j]? =some u/\BS q.1 u=true/\ys[i+j]? =some q.2)->(xs[i+rest.length]? =none\/ys[i+rest.length]? =none)->
   ZSt s.heap z TI TO->pX s.heap TI (.ref i1) (.ref i2)->(∃a b,pX s.heap TO a b)->s.heap.IsListIter i1 l1 i->s.heap.IsListIter i2 l2 i->s.heap.IsList l1 xs->s.heap.IsList l2 ys->s.heap.DictOf (kH prog w) S acc->
   (∀h' tk,h'.DictOf (kH prog w) S (merged acc rest)->(∀b o,b≠S->b≠z->b≠TO->b≠i1->b≠i2->s.heap.get? b=some o->h'.get? b=some o)->R (.ok (.ret res)) {s with heap:=h',toks:=tk})->
   sZ (c9 prog w) A (.builtin "dict.update.loop" ⟨[.ref S,.ref z,.int ix t,res],[]⟩) R s
 | [],i,acc,ix,t,s,hln,ht,hend,hz,ub,⟨a,b,xU⟩,h1,h2,Ar,BA,hm,hR=>by
  refine codeAny_builtin NW ?_;rw[AN A7 _];show bO _ A.in1 (uf (.ref z) >>= _) _ _ s;refine ae (a0F (A:=A.in1) hh D hz ub xU h1 h2 Ar BA (by simpa using hend) fun h' he=>?_);show bO _ A.in1 (oI.Dict.addKeywords S [] >>= _) _ _ _;refine ae (aG (aG ?_));exact hR h' s.toks (hm.at fun o e=>he S o hSz Xz hS1 hS2 e) fun b o _ c1 c2 c3 c4 e=>he b o c1 c2 c3 c4 e
 | q::rest,i,acc,ix,t,s,hln,ht,hend,hz,ub,⟨a,b,xU⟩,h1,h2,Ar,BA,hm,hR=>by
  obtain⟨u,hu,hk,hv⟩:=ht 0 q rfl;rw[ah]at hln;refine codeAny_builtin NW ?_;rw[AN A7 _];show bO _ A.in1 (uf (.ref z) >>= _) _ _ s;refine ae (Xy D hz ub xU h1 h2 Ar BA (by simpa using hu) (by simpa using hv) fun WI z1 TO1 a1 a2 hp S5=>?_);have hS:S<s.heap.objs.size:=by obtain⟨o,_,_,e,_⟩:=hm;exact aM e
  have hm1:WI.DictOf (kH prog w) S acc:=hm.at fun o e=>S5 S o hSz Xz hS1 hS2 e;show bO _ A.in1 (kh [cj s.heap.objs.size] _ >>= _) _ _ _;refine ae (iE ?_);refine ae (wpAny_tryCatch ?_);unfold oI.Dict.pairItems;refine ae (wpAny_typeOf (T:="tuple") ⟨_,hp,rfl⟩ ?_);rw[if_pos (by first | decide | rfl | simp)];refine ae (jG hp rfl (aG ?_));show bO _ A.in1 (kh [u,q.2] (dictSet S u q.2)) _ _ _;refine iE (wpAny_dictSet_pairs (knd:=kH prog w) (k:=q.1) hk hm1 (fun h2' WM hs2=>?_) (!0));have XA:=hs2.extBut;refine aG ⟨C4 A7 _,Le (xs:=xs) (ys:=ys) hh D hSz a2d Xz hS1 hS2 a2e a2f rest (i+1) (stored acc q.1 q.2) (ix+1) 0 _ ?_ (fun j q' e=>?_) ?_ ?_ ?_ ?_ ?_ ?_ ?_ ?_ WM fun h' tk Yt k=>?_⟩
  ·have zz:=stored_length_le acc q.1 q.2;omega
  ·obtain⟨u',e1,e2,e3⟩:=ht (j+1) q' (by simpa using e);rw[show i+(j+1)=i+1+j by omega]at e1 e3;exact⟨u',e1,e2,e3⟩
  ·rw[ah,show i+(rest.length+1)=i+1+rest.length by omega]at hend;exact hend
  ·exact a2c z1 (fun b o _ e=>by
    by_cases hb:b=S
    ·subst hb;obtain⟨o',_,_,e',_⟩:=WM;exact⟨o',e'⟩
    ·exact⟨o,XA _ _ hb e⟩) fun o e=>XA _ _ hSz.symm e
  ·exact XA _ _ a2d.symm (S5 _ _ D.TIz D.TITO D.TIi1 D.TIi2 ub)
  ·obtain⟨a',b',e⟩:=TO1;exact⟨a',b',XA _ _ Xz.symm e⟩
  ·exact a1.at fun o e=>XA _ _ hS1.symm e
  ·exact a2.at fun o e=>XA _ _ hS2.symm e
  ·exact Ar.at fun o e=>XA _ _ a2e.symm (S5 _ _ D.l1z D.l1TO D.l1i1 D.l1i2 e)
  ·exact BA.at fun o e=>XA _ _ a2f.symm (S5 _ _ D.l2z D.l2TO D.l2i1 D.l2i2 e)
  ·exact hR h' tk Yt fun c oc c0 c1 c2 c3 c4 e=>k c oc c0 c1 c2 c3 c4 (XA c oc c0 (S5 c oc c1 c2 c3 c4 e))
end
section
variable {prog:bp}{w:cH}{A:dD}{E:aH->ai->Prop}
def K8{s:ai}{z TI TO i1 i2 l1 l2:aI}{xs ys:nc}{prs:List (Key×aH)}{Q:aH->ai->Prop}(hh:A.handled=none)(D:xG z TI TO i1 i2 l1 l2)(hz:tU s.heap z TI TO .none)(ub:pX s.heap TI (.ref i1) (.ref i2))(xU:∃a b,pX s.heap TO a b)
  (h1:s.heap.IsListIter i1 l1 0)(h2:s.heap.IsListIter i2 l2 0)(Ar:s.heap.IsList l1 xs)(BA:s.heap.IsList l2 ys)(hln:prs.length<=bC)
  (ht:∀(j:Nat) (q:Key×aH),prs[j]? =some q->∃u,xs[j]? =some u/\BS q.1 u=true/\ys[j]? =some q.2)(hend:xs[prs.length]? =none\/ys[prs.length]? =none)
  (h:∀h' tk,h'.DictOf (kH prog w) s.heap.objs.size (merged [] prs)->(∀b o,b≠z->b≠TO->b≠i1->b≠i2->s.heap.get? b=some o->h'.get? b=some o)->Q (.ref s.heap.objs.size) {s with heap:=h',toks:=tk}):
  bO (c9 prog w) A (call (.type "dict") [.ref z]) Q E s:=by
 refine callType_codes (Q₁:=fun obj s₁=>obj= .ref s.heap.objs.size/\s₁={s with heap:=s.heap.push {cls:=.type "dict",data:=.dict #[]}}) PySem.F.kt_called_dict (PySem.F.kt_typeCall_dict_1 _) PySem.F.entry_dict_init (kt_code_dict_new _ ⟨rfl,rfl⟩) ?_;rintro obj s₁ ⟨rfl,rfl⟩;have Wx:(s.heap.push {cls:=.type "dict",data:=.dict #[]}).DictOf (kH prog w) s.heap.objs.size []:=cy.DictOf.new s.heap;have k0:∀b o,s.heap.get? b=some o->(s.heap.push {cls:=.type "dict",data:=.dict #[]}).get? b=some o:=fun b o e=>af _ e;refine⟨Wx.typeIs,PySem.F.args_dict_init_2 _ _,?_⟩;unfold oI.«dict.__init__»;refine ae ?_;unfold oI.Dict.selfAndRest;refine ae (wpAny_notOrdered_dict Wx.typeIs ?_);show bO _ _ (pure (s.heap.objs.size,[cj z])) _ _ _;refine aG ?_;show bO _ _ (xH "dict.__init__" s.heap.objs.size (.ref z) [] .none) _ _ _;unfold xH;refine ae (wpAny_typeOf (T:="zip") ⟨_,k0 _ _ hz,rfl⟩ ?_);rw[if_pos (by first | decide | rfl | simp)];refine ae (Vh (k0 _ _ hz) hh fun WI tk1 S5=>?_);rw[if_pos (show(none:iF).isNone=true from rfl)];refine ae (JR ?_);have kk:∀b o,s.heap.get? b=some o->WI.get? b=some o:=fun b o e=>S5 _ _ (k0 _ _ e);refine ae (oJ (kk _ _ hz) ?_);obtain⟨a,b,xU⟩:=xU;have lt:∀{c:aI} {o:uC},s.heap.get? c=some o->s.heap.objs.size≠c:=fun e=>jo (aM e);obtain⟨o1,e1,_⟩:=id h1;obtain⟨o2,e2,_⟩:=id h2;obtain⟨p1,f1,_⟩:=id Ar;obtain⟨p2,f2,_⟩:=id BA;have key:=Le (prog:=prog) (w:=w) (A:=A.in1) (R:=wants (fun r s₂=>r= .none/\Q (.ref s.heap.objs.size) s₂) E) (S:=s.heap.objs.size) (res:=ij) hh D (lt hz) (lt ub) (lt xU) (lt e1) (lt e2) (lt f1) (lt f2) prs 0 [] 0 0
  {s with heap:=WI,toks:=tk1} (by rw[bY,kf];exact hln) (fun j q e=>by rw[kf];exact ht j q e) (by rw[kf];exact hend) (.inl (kk _ _ hz)) (kk _ _ ub) ⟨a,b,kk _ _ xU⟩ (h1.at fun o e=>kk _ _ e) (h2.at fun o e=>kk _ _ e) (Ar.at fun o e=>kk _ _ e) (BA.at fun o e=>kk _ _ e)
  (Wx.at fun o e=>S5 _ _ e) (fun h' tk Yt k=>⟨rfl,h h' tk Yt fun b o c1 c2 c3 c4 e=>k b o (lt e).symm c1 c2 c3 c4 (kk _ _ e)⟩)
 first
  | exact aG ⟨C4 A7 _,key⟩
  | exact ae (aG (aG ⟨C4 A7 _,key⟩))
end
section
variable {X:Cx}{ρ:br}{a b:du}{pos p1 p2 p3:mH}{ta:TA}
def boot_dict:fE "dict" =some (.type "dict"):=by decide+kernel
theorem Lf:∀{xs ys:cV} {us ws:fk} {ks:cE},xs=ks.map V.int->Vals xs us->Vals ys ws->∃prs:List (Key×aH),KV ((ks.zip ys).map fun x=>(j2 x.1,x.2)) prs/\prs.length=min ks.length ys.length/\
  ∀(j:Nat) (q:Key×aH),prs[j]? =some q->∃u,us[j]? =some u/\BS q.1 u=true/\ws[j]? =some q.2
 | _,_,_,_,[],e,r,r2=>by subst e;exact⟨[],.nil,by simp,fun j q e=>by simp at e⟩
 | _,_,_,_,k::ks,e,r,.nil=>⟨[],by simp;exact .nil,by simp,fun j q e=>by simp at e⟩
 | _,_,_,_,k::ks,e,r,.cons (a:=y) (b:=w) ry r2=>by
  subst e
  cases r with
  | cons ru r=>
   obtain⟨t,rfl⟩:=ru;obtain⟨prs,h1,h2,h3⟩:=Lf rfl r r2;refine⟨(j2 k,w)::prs,.cons ⟨rfl,ry⟩ h1,by simp[h2],fun j q e=>?_⟩
   cases j with
   | zero=>cases e;exact⟨_,rfl,by simp[BS,jE],rfl⟩
   | succ j=>
    obtain⟨u,e1,e2,e3⟩:=h3 j q (by simpa using e);exact⟨u,by simpa using e1,e2,by simpa using e3⟩
def tDZ(K:a9)(ta:TA):TE:=fun σ H Q=>ta σ H fun vs H1=>∃(l1 l2:aI) (ks:cE) (ys:cV),vs=[.ref l1,.ref l2]/\lC K H1 l1 (ks.map V.int)/\lC K H1 l2 ys/\
 ∀p,H1 p=none->Q (.ref p) (upd H1 p (.dK (vh [] ((ks.zip ys).map fun x=>(j2 x.1,x.2)))))
def PM(hc:X.calm=true)(hg:Gl X "dict")(hg2:Gl X "zip")(hm:X.mg "dict" =none)(WM:X.mg "zip" =none)(ha:PA X [a,b] ta)(hs:SE X a [b]:=by rfl)(hpl:ya X p3 [b]:=by rfl)
  (he:dM [.Call (.Name "zip" p2) [a,b] [] p3] X.env=[(false,fX (.Call (.Name "zip" p2) [a,b] [] p3) X.env)]:=by rfl):PE X (.Call (.Name "dict" p1) [.Call (.Name "zip" p2) [a,b] [] p3] [] pos) (tDZ X.K ta):=by
 intro pins s σ H Q I h;refine gA (vc I hg hm boot_dict ?_ ck ck);refine dz ?_ he rfl;rw[he];show bO _ _ (spliced ((false,fX (.Call (.Name "zip" p2) [a,b] [] p3) X.env)::[])) _ _ s;refine pW ?_;refine gA (vc I hg2 WM ES ?_ ck ck);refine dz (lh (ha p3 pins s σ H _ I h) ?_) hs hpl;rintro us s1 ⟨vs,H1,I1,r1,q1⟩;obtain⟨l1,l2,ks,ys,rfl,hq1,Zz,q⟩:=q1;obtain⟨u,v,rfl,ru,rv⟩:=vals2 r1;cases ru;cases rv;obtain⟨eI,rv,pl1,hz1⟩:=I1.list hq1;obtain⟨yG,WH,pl2,hz2⟩:=I1.list Zz;have la:=pl1.lt;have lb:=pl2.lt;refine call_zip_2 pl1.isList pl2.isList fun h' hz ub xU h1 h2 hsz hk=>?_;refine wG ?_;obtain⟨prs,k1,k2,k3⟩:=Lf (ks:=ks) rfl rv WH;have n1:=rv.length;have n2:=WH.length;simp only[aa]at n1 hz1;refine K8 (s:={s1 with heap:=h'}) (I1.ok.hd hc) (Ek s1.heap.objs.size l1 l2 la lb) hz ub ⟨_,_,xU⟩ h1 h2 (pl1.isList.at fun o e=>hk _ _ e) (pl2.isList.at fun o e=>hk _ _ e) (prs:=prs) (!0) (fun j q e=>?_) ?_ fun QA tk Yt k=>?_
 ·obtain⟨u,e1,e2,e3⟩:=k3 j q e;exact⟨u,by simpa using e1,e2,by simpa using e3⟩
 ·by_cases Tx:ks.length<=ys.length
  ·exact .inl (by simp;omega)
  ·exact .inr (by simp;omega)
 ·have I2:Inv X pins σ H1 {s1 with heap:=h'}:=I1.kept (t':=s1.toks) hk;have Jy:∀c,s1.heap.objs.size<=c->H1 c=none:=fun c hc=>I1.hok.fresh hc;have kb:∀b o,s1.heap.get? b=some o->QA.get? b=some o:=fun b o e=>by
   have:=aM e;exact k b o (cC (bz this (eP _ _))) (cC (bz this (eP _ _))) (cC this) (cC (bz this (eP _ _))) (hk _ _ e)
  have hm':(h'.objs.size == sx)=false:=beq_eq_false_iff_ne.mpr (jo I2.big);have ko:(vh [] ((ks.zip ys).map fun x=>((j2 x.1,x.2):Key×V))).length<=bC:=by
   refine bq (BV _ []) ?_;rw[bY,kf,k1.length,k2];omega
  have I3:Inv X pins σ (upd H1 h'.objs.size (.dK (vh [] ((ks.zip ys).map fun x=>(j2 x.1,x.2))))) {s1 with heap:=QA,toks:=tk}:=
   I1.laid (t':=tk) kb (!0) (show jK X.prog X.w _ _ _ (.dK _)from⟨ko,hm',merged [] prs,KV.merge k1 .nil,Yt⟩)
  exact⟨.ref h'.objs.size,_,I3,rfl,q _ (Jy _ (!0))⟩
theorem Rk{α β:Type}:∀(l:List α) (m:List β),(l.zip m).map JS=l.take m.length
 | [],_=>by simp
 | _::_,[]=>by simp
 | a::l,b::m=>by simp[Rk l m]
def Vi{ji:List (Key×V)}{k:Key}(h:k∉ji.map (·.1)):putK ji k v=ji++[(k,v)]:=by
 unfold putK;rw[if_neg];intro e;rw[List.any_eq_true]at e;obtain⟨x,hx,e⟩:=e;exact h (aZ.mpr ⟨x,hx,of_decide_eq_true e⟩)
theorem G6:∀(more ji:List (Key×V)),((ji++more).map (·.1)).Nodup->vh ji more=ji++more
 | [],ji,_=>by simp[vh]
 | p::r,ji,h=>by
  have e:vh ji (p::r)=vh (putK ji p.1 p.2) r:=rfl;have hn:p.1∉ji.map (·.1):=by
   intro hp;rw[cJ,Em]at h;exact h.2.2 _ hp _ (aZ.mpr ⟨p,aQ ..,rfl⟩) rfl
  rw[e,Vi hn,G6 r _ (by rw[gU];exact h),gU];rfl
theorem NY.zip{K:a9}:∀{ks:cE} {ys:cV} {ds:bM},bV K G ys ds->NY K G ((ks.zip ys).map fun x=>((j2 x.1,x.2):Key×V)) (ks.zip ds)
 | [],_,_,_=>by simp;exact .nil
 | _::_,_,_,.nil=>by simp;exact .nil
 | k::ks,_,_,.cons h r=>.cons h (NY.zip r)
def PN{ks:cE}{ds:bM}(hc:X.calm=true)(hm:X.mg "dict" =none)(WM:X.mg "zip" =none)(ha:Ev X ρ a (.lst (ks.map D.int)))(hb:Ev X ρ b (.lst ds))(hn:ks.Nodup)(hg:Gl X "dict":=by rfl)(hg2:Gl X "zip":=by rfl)
  (hs:SE X a [b]:=by rfl)(hs2:SE X b []:=by rfl)(hpl:ya X p3 [b]:=by rfl)
  (he:dM [.Call (.Name "zip" p2) [a,b] [] p3] X.env=[(false,fX (.Call (.Name "zip" p2) [a,b] [] p3) X.env)]:=by rfl):Ev X ρ (.Call (.Name "dict" p1) [.Call (.Name "zip" p2) [a,b] [] p3] [] pos) (.dct (ks.zip ds)):=
 eL (PM hc hg hg2 hm WM (ab ha (ab hb ar hs2) hs) hs hpl he) fun σ H Q ⟨GI,HI,G,S,q⟩=>⟨GI,HI,G,S,fun G1 H1 vs e1 d1=>by
  obtain⟨v,u,rfl,hv,hu⟩:=Aa d1
  cases hv with
  | lst h1 r1=>
   cases hu with
   | lst h2 r2=>
    rename_i l1 xs l2 ys;have ex:=r1.ints_of;subst ex;refine⟨l1,l2,ks,ys,rfl,lC.of (e1.s _ _ h1),lC.of (e1.s _ _ h2),fun p hp=>?_⟩;have em:vh [] ((ks.zip ys).map fun x=>((j2 x.1,x.2):Key×V))=(ks.zip ys).map fun x=>((j2 x.1,x.2):Key×V):=by
     rw[G6]
     ·rfl
     ·rw[zA,bc];have:(((fun x=>x.1):Key×V->Key)∘fun(x:Int×V)=>((j2 x.1,x.2):Key×V))=(fun x=>j2 x.1):=rfl;rw[this];have e2:(ks.zip ys).map (fun x=>(j2 x.1:Key))=((ks.zip ys).map JS).map (fun k=>(j2 k:Key)):=by rw[bc];rfl
      rw[e2];have e3:((ks.zip ys).map JS).Nodup:=by
       rw[Rk];exact hn.sublist (Eg _ _)
      exact En _ (fun a b h e=>h (Gr e)) e3
    rw[em];have e2:=Ext.new (o:=.dK ((ks.zip ys).map fun x=>((j2 x.1,x.2):Key×V))) e1.s hp;exact q _ _ _ (e1.trans e2) (.dct aU ((NY.zip r2).mono e2.g))⟩
theorem NY.val{K:a9}{k:Int}(hv:Dt K G vv dv){ji:List (Key×V)}{UU:List (Int×D)}(h:NY K G ji UU):Dt K G ((Ij ji (j2 k)).getD vv) ((UU.lookup k).getD dv):=by
 cases h with
 | nil=>exact hv
 | cons h r=>
  rename_i j _ _ _ _;by_cases e:j=k
  ·subst e;rw[Ik rfl,rF];exact h
  ·rw[Il (by intro q;exact e (Gr q)),bP,beq_eq_false_iff_ne.mpr (g0 e)];exact NY.val hv r
def Vj{UU:List (Int×D)}{k:Int}{n:Nat}{apos jb:mH}(hr:fZ n X.A)(ha:Ev X ρ a (.dct UU))(hb:Ev X ρ b (.int k))(hc:Ev X ρ c dv)(m:M2 X a "get" apos b c jb):Ev X ρ (.Call (.Attribute a "get" apos) [b,c] [] jb) ((UU.lookup k).getD dv):=
 eL (UR (a25 hr) ha hb hc m) fun σ H Q ⟨GI,HI,G,S,q⟩=>⟨GI,HI,G,S,fun G1 H1 v e1 d1=>by
  cases d1 with
  | dct h1 r=>
   refine⟨_,rfl,.inl ⟨_,.inl (e1.s _ _ h1)⟩,GI,HI,G1,S.mono e1,fun G2 H2 y e2 d2=>?_⟩;cases d2;refine⟨GI,HI,G2,(S.mono e1).mono e2,fun G3 H3 z e3 d3=>⟨_,UQ.k (k:=j2 k) (e3.h _ _ (e2.h _ _ (e1.s _ _ h1))),?_⟩⟩;exact q G3 H3 _ ((e1.trans e2).trans e3) (NY.val d3 (r.mono (e2.g.trans e3.g)))⟩
end
theorem bV.set{K:a9}(h:Dt K G v d):∀{vs:cV} {ds:bM} (j:Nat),bV K G vs ds->bV K G (vs.set j v) (ds.set j d)
 | _,_,_,.nil=>.nil
 | _,_,0,.cons _ r=>.cons h r
 | _,_,j+1,.cons q r=>.cons q (bV.set h j r)
section
variable {X:Cx}{E:XK}{ρ:br}{a b:du}{d:D}{pos p1 p2 p3 rk:mH}{x:cY}{l ds:bM}{i:Nat}
def PQ{j:Nat}(ho:ρ[i]? =some (.own l))(ha:Ev X ρ a d)(hb:Ev X ρ b (.int j))(hj:j<l.length)(hN:X.N[i]? =some x:=by rfl)(hv:KS X.env.scope x:=by walk_at "o")
  (hd:(x == ("__debug__":cY))=false:=by decide)(qx:(x == ("__classdict__":cY))=false:=by decide)
  (hs:swapsWithSole [.Subscript (.Name x p1) b p2] a pos.line X.env=pure false:=by rfl)(hw:swappedStores [.Subscript (.Name x p1) b p2] a X.env=pure none:=by rfl)(h1:(sy [.Subscript (.Name x p1) b p2] X.env).map (·.2)=[AB (.Subscript (.Name x p1) b p2) X.env]:=by rfl)
  (hA:∀v,AB (.Subscript (.Name x p1) b p2) X.env v=(do
   let ov <-kh [v] (fX (.Name x p1) X.env);let iv <-kh [v,ov] (fX b X.env)
   oH p2
   kh [v,ov,iv] (setItem ov iv v)
   release [v,ov,iv] []):=by intro _;rfl):
  Ex X E ρ (.Assign [.Subscript (.Name x p1) b p2] a pos) (.next (ρ.set i (.own (l.set j d)))):=by
 refine eX (Uu ha (Ut (nP hN hv hd qx) hb set_list hA) hs hw h1) fun Dn σ H ⟨GI,HI,G,S,q⟩=>⟨GI,HI,G,S,fun G1 H1 v e1 d1=>?_⟩;have S1:=S.mono e1;obtain⟨c,vs,z1,z2,z3,z4,z5⟩:=S1.sl i _ ho;refine⟨.ref c,z1,GI,HI,G1,S1,fun G2 H2 y e2 d2=>?_⟩;cases d2;have hjv:j<vs.length:=by rw[z5.length];exact hj
 refine⟨c,vs,j,j,rfl,rfl,e2.h _ _ z4,?_,q G2 _ _ (e1.g.trans e2.g) ((S1.mono e2).Me ho z1 (bV.set (d1.mono e2.g) j (z5.mono e2.g)))⟩;unfold WG;rw[if_pos (!0),if_pos (!0),bH]
end
end Dl
namespace Pg
open PySem PySem.Spec PyProof.Rows L2 Dl
def top(i:Nat):di:=xI.main.body.getD i (.Pass ⟨0,0,0,0⟩)
abbrev xr:di:=top 2
abbrev IA:di:=top 3
abbrev Vk:di:=top 4
abbrev Rl:di:=top 5
abbrev Rm:di:=top 6
abbrev Vl:di:=top 7
abbrev O8:di:=top 8
abbrev IB:di:=top 9
abbrev Lg:di:=top 10
abbrev Bc:di:=top 12
abbrev IC:di:=top 13
abbrev vn:di:=top 15
abbrev G7:di:=top 16
abbrev qB:di:=top 17
abbrev rS:di:=top 18
abbrev yi:di:=top 19
abbrev sR:di:=top 20
abbrev jv:di:=top 21
abbrev vp:di:=inClass (top 22) 0
abbrev rm:di:=inClass (top 22) 1
abbrev Ab:di:=inClass (top 22) 2
abbrev qC:di:=inClass (top 22) 3
abbrev lE:di:=inClass (top 22) 4
abbrev nE:di:=inClass (top 22) 5
abbrev qg:di:=inClass (top 22) 6
abbrev ur:di:=inClass (top 22) 7
abbrev Ac:di:=inClass (top 22) 8
abbrev oX:di:=inClass (top 22) 9
abbrev qh:di:=inClass (top 22) 10
abbrev wx:di:=inClass (top 22) 11
abbrev vq:di:=top 24
abbrev rT:di:=top 25
abbrev yj:di:=top 26
abbrev vt:di:=inClass (top 28) 0
abbrev qD:di:=inClass (top 29) 0
abbrev pR:di:=inClass (top 30) 0
abbrev vw:di:=inClass (top 31) 0
abbrev rV:di:=inClass (top 32) 0
abbrev sS:di:=top 33
abbrev qE:di:=inClass (top 46) 0
abbrev jZ:di:=inClass (top 46) 1
abbrev oY:di:=inClass (top 46) 2
abbrev oZ:di:=inClass (top 46) 3
abbrev qF:di:=inClass (top 46) 4
abbrev gM:di:=inClass (top 46) 5
abbrev rp:di:=inClass (top 46) 6
abbrev dG:di:=inClass (top 46) 7
abbrev eQ:di:=inClass (top 46) 8
abbrev bX:di:=inClass (top 46) 9
abbrev dn:di:=inClass (top 46) 10
abbrev nR:di:=top 47
abbrev vx:di:=top 48
abbrev yl:di:=inClass (top 51) 0
abbrev pG:di:=inClass (top 51) 1
abbrev tG:di:=inClass (top 51) 2
abbrev tH:di:=inClass (top 51) 3
abbrev oP:di:=inClass (top 51) 4
abbrev ze:di:=inClass (top 51) 5
abbrev zf:di:=top 53
abbrev zg:di:=top 54
abbrev ID:di:=top 55
abbrev Ae:di:=top 57
abbrev pH:di:=top 63
abbrev sT:di:=top 64
abbrev k6:di:=top 65
abbrev iJ:di:=top 66
abbrev dW:di:=top 67
abbrev DC:di:=top 68
abbrev j8:di:=top 69
abbrev pI:di:=top 70
abbrev mM:di:=top 71
abbrev lX:di:=top 72
abbrev jw:di:=top 73
abbrev pS:di:=top 74
abbrev iq:di:=top 75
abbrev ou:di:=top 76
abbrev eh:di:=top 77
abbrev hW:di:=top 78
abbrev p0:di:=top 79
abbrev tJ:di:=top 82
abbrev G8:di:=top 83
abbrev lY:di:=top 84
abbrev xt:bS:=["left","right","rest"]
def jL:ba xt ["left","right"] (aj xr):=sk
abbrev IE:bS:=["above","below","divisor"]
def Lh:ba IE ["above","below"] (aj IA):=sk
abbrev Vm:bS:=["left","right"]
def XB:ba Vm ["left","right"] (aj Vk):=sk
abbrev Rn:bS:=["left","right"]
def Vn:ba Rn ["left","right"] (aj Rl):=sk
abbrev Ro:bS:=["fraction","number"]
def Vo:ba Ro ["fraction","number"] (aj Rm):=sk
abbrev Vp:bS:=["fraction","number"]
def XD:ba Vp ["fraction","number"] (aj Vl):=sk
abbrev O9:bS:=["fraction"]
def SN:ba O9 ["fraction"] (aj O8):=sk
abbrev IF:bS:=["fraction","divisor","sign"]
def G9:ba IF ["fraction","divisor"] (aj IB):=sk
abbrev Li:bS:=["left","right"]
def PR:ba Li ["left","right"] (aj Lg):=sk
abbrev Be:bS:=["rows","step","below","pivot_row","pivot","result","place","row","own","other"]
def pT:ba Be ["rows","step","below"] (aj Bc):=sk
abbrev IG:bS:=["rows","count","below","step","row"]
def qi:ba IG ["rows"] (aj IC):=sk
abbrev vy:bS:=["size","pairs","labels","first","second","low","high","label"]
def jO:ba vy ["size","pairs"] (aj vn):=sk
abbrev Ga:bS:=["ends","node","inward","outward"]
def ym:ba Ga ["ends","node"] (aj G7):=sk
abbrev qG:bS:=["weights","result","weight"]
def mD:ba qG ["weights"] (aj qB):=sk
abbrev rW:bS:=["ends","measured","pair","known"]
def qH:ba rW ["ends","measured"] (aj rS):=sk
abbrev yn:bS:=["node","links","ends","value","weight"]
def wR:ba yn ["node","links"] (aj yi):=sk
abbrev sU:bS:=["group","unknown","links","scale","factors","other","ends","value","weight"]
def nS:ba sU ["group","unknown","links","scale"] (aj sR):=sk
abbrev jx:bS:=["size","ends","measured","groups","whole","links","unknown","scale","found","by_group","node","group","pair","known","first","second","value","weight"]
def cx:ba jx ["size","ends","measured"] (aj jv):=sk
abbrev IH:bS:=["self","size","ends","measured"]
def GG:ba IH ["self","size","ends","measured"] (aj vp):=sk
abbrev rA:bS:=["self","stream"]
def yo:ba rA ["self","stream"] (aj rm):=sk
abbrev Af:bS:=["self","stream"]
def GH:ba Af ["self","stream"] (aj Ab):=sk
abbrev qI:bS:=["self","change","stream","known"]
def jM:ba qI ["self"] (aj qC):=sk
abbrev lF:bS:=["self","stream","pairs","place","pair"]
def kQ:ba lF ["self","stream"] (aj lE):=sk
abbrev nF:bS:=["self","stream","groups"]
def mN:ba nF ["self","stream"] (aj nE):=sk
abbrev qj:bS:=["self","stream","value","weight"]
def lG:ba qj ["self","stream"] (aj qg):=sk
abbrev uu:bS:=["self","stream","groups","behind","flow","place","pair","side"]
def gu:ba uu ["self","stream"] (aj ur):=sk
abbrev Ag:bS:=["self","stream"]
def GJ:ba Ag ["self","stream"] (aj Ac):=sk
abbrev p6:bS:=["self","stream"]
def vX:ba p6 ["self","stream"] (aj oX):=sk
abbrev qk:bS:=["self","stream","flow"]
def p7:ba qk ["self","stream"] (aj qh):=sk
abbrev wy:bS:=["self","stream","measured"]
def vz:ba wy ["self","stream"] (aj wx):=sk
abbrev vA:bS:=["ends","nodes","stream","pair"]
def u1:ba vA ["ends","nodes"] (aj vq):=sk
abbrev rY:bS:=["ends","nodes","stream","pair"]
def qJ:ba rY ["ends","nodes"] (aj rT):=sk
abbrev Cq:bS:=["balance","streams","total","stream","flow"]
def nU:ba Cq ["balance","streams"] (aj yj):=sk
abbrev II:bS:=["self","number"]
def GK:ba II ["self","number"] (aj vt):=sk
abbrev DD:bS:=["self"]
def Cr:ba DD ["self"] (aj qD):=sk
abbrev Cs:bS:=["self"]
def Bt:ba Cs ["self"] (aj pR):=sk
abbrev IJ:bS:=["self"]
def GL:ba IJ ["self"] (aj vw):=sk
abbrev EW:bS:=["self","place"]
def DE:ba EW ["self","place"] (aj rV):=sk
abbrev sV:bS:=["number","low","high"]
def IK:ba sV ["number","low","high"] (aj sS):=sk
abbrev DF:bS:=["self","text"]
def Ct:ba DF ["self","text"] (aj qE):=sk
abbrev k8:bS:=["self"]
def xu:ba k8 ["self"] (aj jZ):=sk
abbrev p8:bS:=["self"]
def vY:ba p8 ["self"] (aj oY):=sk
abbrev jn:bS:=["self"]
def vZ:ba jn ["self"] (aj oZ):=sk
abbrev mE:bS:=["self","sign"]
def xw:ba mE ["self","sign"] (aj qF):=sk
abbrev j0:bS:=["self","start"]
def nV:ba j0 ["self"] (aj gM):=sk
abbrev ni:bS:=["self","name","is_wrong"]
def yp:ba ni ["self","name","is_wrong"] (aj rp):=sk
abbrev fB:bS:=["self","name","came_before","stream"]
def eA:ba fB ["self"] (aj dG):=sk
abbrev k9:bS:=["self","barred","name","is_new","is_ninth"]
def ir:ba k9 ["self","barred"] (aj eQ):=sk
abbrev dY:bS:=["self","name","first","second"]
def dP:ba dY ["self"] (aj bX):=sk
abbrev eW:bS:=["self"]
def yq:ba eW ["self"] (aj dn):=sk
abbrev ql:bS:=["text","reader"]
def yr:ba ql ["text"] (aj nR):=sk
abbrev vB:bS:=["streams","nodes","text","name","first","second"]
def u4:ba vB ["streams","nodes"] (aj vx):=sk
abbrev Mi:bS:=["self"]
def K9:ba Mi ["self"] (aj yl):=sk
abbrev zh:bS:=["self","streams","nodes","quantity"]
def rZ:ba zh ["self","streams","nodes"] (aj pG):=sk
abbrev tK:bS:=["self","quantity"]
def zC:ba tK ["self","quantity"] (aj tG):=sk
abbrev nW:bS:=["self","quantity","stream","known"]
def zD:ba nW ["self","quantity","stream","known"] (aj tH):=sk
abbrev oQ:bS:=["self","name","first","second"]
def nX:ba oQ ["self"] (aj oP):=sk
abbrev zi:bS:=["self","quantity"]
def EX:ba zi ["self","quantity"] (aj ze):=sk
abbrev zj:bS:=["node","ends","flows","inflow","pair","flow"]
def oy:ba zj ["node","ends","flows"] (aj zf):=sk
abbrev zk:bS:=["known","flow","rise","value","weight"]
def sf:ba zk ["known","flow","rise"] (aj zg):=sk
abbrev IL:bS:=["ends","measured","flows","numbers","node","pair","known","flow"]
def tN:ba IL ["ends","measured","flows","numbers"] (aj ID):=sk
abbrev Ah:bS:=["balance","best","stream","change"]
def kW:ba Ah ["balance"] (aj Ae):=sk
abbrev pJ:bS:=["quantity"]
def EY:ba pJ ["quantity"] (aj pH):=sk
abbrev sW:bS:=["plant","stream"]
def IM:ba sW ["plant","stream"] (aj sT):=sk
abbrev uJ:bS:=["plant","nodes","place","node"]
def wU:ba uJ ["plant","nodes"] (aj k6):=sk
abbrev nY:bS:=["row","count","found","place"]
def pK:ba nY ["row","count"] (aj iJ):=sk
abbrev nZ:bS:=["plant","numbers","rows","text","byte","found"]
def iU:ba nZ ["plant","numbers","rows"] (aj dW):=sk
abbrev DG:bS:=["plant","numbers","rows","text"]
def BX:ba DG ["plant","numbers","rows"] (aj DC):=sk
abbrev j9:bS:=["plant","numbers","rows"]
def DH:ba j9 ["plant","numbers","rows"] (aj j8):=sk
abbrev pL:bS:=["plant","numbers","rows"]
def EZ:ba pL ["plant","numbers","rows"] (aj pI):=sk
abbrev u5:bS:=["plant","numbers","rows","balance","answer","stream","found"]
def lZ:ba u5 ["plant","numbers","rows"] (aj mM):=sk
abbrev sg:bS:=["plant","numbers","rows","answer","number"]
def qK:ba sg ["plant","numbers","rows"] (aj lX):=sk
abbrev o4:bS:=["plant","numbers","rows","flows","node_numbers","proved"]
def kX:ba o4 ["plant","numbers","rows"] (aj jw):=sk
abbrev pU:bS:=["plant","numbers","rows","links","node"]
def lQ:ba pU ["plant","numbers","rows"] (aj pS):=sk
abbrev oz:bS:=["plant","numbers","rows","stream","balance","flow","told"]
def jN:ba oz ["plant","numbers","rows"] (aj iq):=sk
abbrev oA:bS:=["plant","numbers","rows","found"]
def wz:ba oA ["plant","numbers","rows"] (aj ou):=sk
abbrev kn:bS:=["plant","numbers","rows","balance","inward","outward","count","inflow","outflow"]
def iK:ba kn ["plant","numbers","rows"] (aj eh):=sk
abbrev ku:bS:=["plant","numbers","rows","flow","divisor"]
def u6:ba ku ["plant","numbers","rows"] (aj hW):=sk
abbrev wV:bS:=["plant","numbers","rows","answer","pair","known"]
def vC:ba wV ["plant","numbers","rows"] (aj p0):=sk
abbrev Ai:bS:=["plant","call","numbers","rows","refusal"]
def DI:ba Ai ["plant","call","numbers","rows"] (aj tJ):=sk
abbrev Gb:bS:=["calls","place","count","rows","turn","start"]
def qL:ba Gb ["calls","place","count"] (aj G8):=sk
abbrev Lj:bS:=["calls","plant","given","place","call","form","behind","numbers","found","answer"]
def kx:ba Lj ["calls"] (aj lY):=sk
structure DJ(K:a9)(C:aI)(m fO:cY)(st:di):Prop where
 ex:∃f fd,Hi K m fO st f fd/\Meth K C m f
structure MkT(K:a9)(C:aI)(fO:cY)(st:di):Prop where
 ex:∃f fd,Hi K "__init__" fO st f fd/\Mk K C f
structure Ad where
 dq:aI
 bJ:aI
 gF:aI
 qN:aI
 Oa:aI
 Mj:aI
 Vq:aI
 PU:aI
def fr(x:Int×Int):D:=.tup [.int x.1,.int x.2]
structure Bs(P:bp)(K:a9)(mg:MG)(base:cy)(Z:Ad):Prop where
 seer:base.NoSeer
 tree:P.given.tree=none
 lim:base.NoLimit
 abs:mg "abs" =none
 min:mg "min" =none
 max:mg "max" =none
 sum:mg "sum" =none
 list:mg "list" =none
 range:mg "range" =none
 len:mg "len" =none
 zip:mg "zip" =none
 enumerate:mg "enumerate" =none
 dict:mg "dict" =none
 tuple:mg "tuple" =none
 nothing:∃a,mg "NOTHING" =some (.ref a)/\∀G,Dt K G (.ref a) (fr (0,1))
 zN:N2 K Z.dq
 GN:∀f∈(["size","ends","measured","numbers"]:bS),rQ K Z.dq f
 mkB:MkT K Z.dq "Balance.__init__" vp
 kcB:mg "Balance" =some (.ref Z.dq)
 xT:N2 K Z.bJ
 D2:∀f∈(["text","place","streams","nodes"]:bS),rQ K Z.bJ f
 mkT:MkT K Z.bJ "TextReader.__init__" qE
 kcT:mg "TextReader" =some (.ref Z.bJ)
 Hk:N2 K Z.gF
 N3:∀f∈(["streams","nodes","measured"]:bS),rQ K Z.gF f
 mkP:MkT K Z.gF "Plant.__init__" yl
 kcP:mg "Plant" =some (.ref Z.gF)
 F0:tF K mg "common_divisor" xr
 Vr:tF K mg "lowest" IA
 a0G:tF K mg "plus" Vk
 XE:tF K mg "minus" Rl
 XG:tF K mg "times" Rm
 a0H:tF K mg "over" Vl
 Vs:tF K mg "square" O8
 PV:tF K mg "quotient" IB
 SO:tF K mg "is_less" Lg
 SQ:tF K mg "cleared" Bc
 Vt:tF K mg "solved" IC
 IP:tF K mg "least_joined" vn
 Ob:tF K mg "direction" G7
 DK:tF K mg "common_multiple" qB
 F1:tF K mg "measured_links" rS
 Ml:tF K mg "net_inflow" yi
 Ka:tF K mg "balance_row" sR
 IQ:tF K mg "node_numbers" jv
 zE:DJ K Z.dq "is_measured" "Balance.is_measured" rm
 IS:DJ K Z.dq "rise" "Balance.rise" Ab
 yu:DJ K Z.dq "least_change" "Balance.least_change" qC
 wW:DJ K Z.dq "groups_without" "Balance.groups_without" lE
 uK:DJ K Z.dq "is_told_by_others" "Balance.is_told_by_others" nE
 xx:DJ K Z.dq "measured_flow" "Balance.measured_flow" qg
 Bu:DJ K Z.dq "told_flow" "Balance.told_flow" ur
 IT:DJ K Z.dq "flow" "Balance.flow" Ac
 wX:DJ K Z.dq "can_be_checked" "Balance.can_be_checked" oX
 xy:DJ K Z.dq "sort_and_flow" "Balance.sort_and_flow" qh
 DL:DJ K Z.dq "without" "Balance.without" wx
 IU:tF K mg "streams_into" vq
 F4:tF K mg "streams_out_of" rT
 PX:tF K mg "flow_sum" yj
 Kb:tF K mg "need_within" sS
 yw:DJ K Z.bJ "byte_here" "TextReader.byte_here" jZ
 wY:DJ K Z.bJ "letter_here" "TextReader.letter_here" oY
 wZ:DJ K Z.bJ "skip_blanks" "TextReader.skip_blanks" oZ
 yx:DJ K Z.bJ "take_sign" "TextReader.take_sign" qF
 w6:DJ K Z.bJ "take_letters" "TextReader.take_letters" gM
 zF:DJ K Z.bJ "end_name" "TextReader.end_name" rp
 tO:DJ K Z.bJ "take_stream_name" "TextReader.take_stream_name" dG
 yy:DJ K Z.bJ "take_node" "TextReader.take_node" eQ
 uL:DJ K Z.bJ "take_statement" "TextReader.take_statement" bX
 zG:DJ K Z.bJ "take_all" "TextReader.take_all" dn
 Od:tF K mg "read_text" nR
 IV:tF K mg "written_text" vx
 zm:DJ K Z.gF "lay_out" "Plant.lay_out" pG
 Aj:DJ K Z.gF "measurements" "Plant.measurements" tG
 Ak:DJ K Z.gF "set_measured" "Plant.set_measured" tH
 Bv:DJ K Z.gF "stream_ends" "Plant.stream_ends" oP
 GO:DJ K Z.gF "balance" "Plant.balance" ze
 GP:tF K mg "node_balances" zf
 GQ:tF K mg "stream_agrees" zg
 PY:tF K mg "is_proof" ID
 IW:tF K mg "most_suspect" Ae
 GR:tF K mg "need_quantity" pH
 Kc:tF K mg "need_stream" sT
 Mm:tF K mg "need_nodes" k6
 IX:tF K mg "fractions_in" iJ
 IY:tF K mg "answer_sheet" dW
 Mn:tF K mg "answer_say" DC
 F5:tF K mg "answer_measure" j8
 GS:tF K mg "answer_forget" pI
 GU:tF K mg "answer_adjust" mM
 F6:tF K mg "answer_numbers" lX
 IZ:tF K mg "answer_check" jw
 Cu:tF K mg "answer_imbalance" pS
 F7:tF K mg "answer_without" iq
 F8:tF K mg "answer_suspect" ou
 F9:tF K mg "answer_through" eh
 J0:tF K mg "answer_share" hW
 Kd:tF K mg "answer_told" p0
 Oe:tF K mg "answer_of" tJ
 Of:tF K mg "rows_from" G8
 a1t:tF K mg "answers" lY
end Pg
namespace Pg
open PySem PySem.Spec PyProof.Rows L2 Dl
open fw (cZ fK j6 js pOver jl)
variable {P:bp}{w:cH}{K:a9}{mg:cY->iF}{base:cy}{Z:Ad}
def _root_.Dl.Bd.mono{n m:Nat}{i:Int}(h:Bd n i)(hl:n<=m):Bd m i:=bz h (Nat.pow_le_pow_right ck hl)
def _root_.Dl.Bd.mul{n m:Nat}{i j:Int}(hi:Bd n i)(hj:Bd m j):Bd (n+m) (i*j):=by
 unfold Bd at*;rw[vG,Nat.pow_add];exact Nat.mul_lt_mul_of_lt_of_le hi (kg hj) (ig (gW _) hj)
def _root_.Dl.Bd.add{n:Nat}{i j:Int}(hi:Bd n i)(hj:Bd n j):Bd (n+1) (i+j):=by
 unfold Bd at*;have:=Int.natAbs_add_le i j;rw[Nat.pow_succ];omega
def _root_.Dl.Bd.neg{n:Nat}{i:Int}(hi:Bd n i):Bd n (-i):=by unfold Bd at*;rw[JD];exact hi
def _root_.Dl.Bd.sub{n:Nat}{i j:Int}(hi:Bd n i)(hj:Bd n j):Bd (n+1) (i-j):=by
 rw[CI];exact Bd.add hi hj.neg
def _root_.Dl.Bd.of_le{n:Nat}{i j:Int}(hj:Bd n j)(h:i.natAbs<=j.natAbs):Bd n i:=ig h hj
structure iB(n:Nat)(x:Int×Int):Prop where
 a:Bd n x.1
 b:Bd n x.2
 p:0<x.2
def iB.mono{n m:Nat}{x:Int×Int}(h:iB n x)(hl:n<=m):iB m x:=⟨h.a.mono hl,h.b.mono hl,h.p⟩
def J1{a:Int}{g:Nat}(hd:(g:Int)∣a):(a/(g:Int)).natAbs<=a.natAbs:=by
 rw[yH hd];exact uk _ _
def Fb{n:Nat}{a b:Int}(ha:Bd n a)(hb:Bd n b)(h:0<b):iB n (cZ a b):=by
 have hg:0<oC a b:=mT a (!0);refine⟨ha.of_le (J1 (Int.gcd_dvd_left ..)),hb.of_le (J1 (Eo ..)),?_⟩;show 0<b/(oC a b:Int);exact Int.ediv_pos_of_pos_of_dvd h (!0) (Eo ..)
def Hl{n m:Nat}{x y:Int×Int}(hx:iB n x)(hy:iB m y):iB (n+m+1) (fK x y):=
 Fb (Bd.add (hx.a.mul hy.b) ((hy.a.mul hx.b).mono (!0))) ((hx.b.mul hy.b).mono (!0)) (jC hx.p hy.p)
def J2{n m:Nat}{x y:Int×Int}(hx:iB n x)(hy:iB m y):iB (n+m+1) (j6 x y):=
 Fb (Bd.sub (hx.a.mul hy.b) ((hy.a.mul hx.b).mono (!0))) ((hx.b.mul hy.b).mono (!0)) (jC hx.p hy.p)
def DM{n m:Nat}{x:Int×Int}{i:Int}(hx:iB n x)(hi:Bd m i):iB (n+m) (js x i):=
 Fb (hx.a.mul hi) (hx.b.mono (!0)) hx.p
def Hm{n m:Nat}{x:Int×Int}{i:Int}(hx:iB n x)(hi:Bd m i)(h:0<i):iB (n+m) (pOver x i):=
 Fb (hx.a.mono (!0)) (hx.b.mul hi) (jC hx.p h)
def Fc{n:Nat}{x:Int×Int}(hx:iB n x):iB (n+n) (jl x):=⟨hx.a.mul hx.a,hx.b.mul hx.b,jC hx.p hx.p⟩
def si(n:Nat)(h:1<=n):iB n (0,1):=by
 have:(1:Nat)<2^n:=CV (!0);exact⟨by show(0:Nat)<2^n;omega,by show(1:Nat)<2^n;exact this,by decide⟩
def PZ:Nat->Nat×Nat->Nat×Nat
 | 0,p=>p
 | k+1,p=>PZ k (p.2,p.1%p.2)
theorem Og:∀(k:Nat) (p:Nat×Nat),PZ (k+1) p=((PZ k p).2,(PZ k p).1%(PZ k p).2)
 | 0,p=>rfl
 | k+1,p=>Og k (p.2,p.1%p.2)
def XH:∀(r l:Nat),∃n,(∀i,i<n->(PZ i (l,r)).2≠0)/\(PZ n (l,r)).2=0/\(PZ n (l,r)).1=dJ l r:=by
 intro r
 induction r using GW with
 | ind r ih=>
  intro l;by_cases h:r=0
  ·subst h;exact⟨0,fun i hi=>absurd hi (GY i),rfl,(Nat.gcd_zero_right l).symm⟩
  ·obtain⟨n,h1,h2,h3⟩:=ih (l%r) (Nat.mod_lt _ (Nat.pos_of_ne_zero h)) r;refine⟨n+1,fun i hi=>?_,h2,?_⟩
   ·cases i with
    | zero=>exact h
    | succ i=>exact h1 i (!0)
   ·show(PZ n (r,l%r)).1=_;rw[h3,Nat.gcd_comm r (l%r),<-Nat.gcd_rec,Nat.gcd_comm]
def a3U:bM->Out->Prop:=fun args out=>∃a b:Int,args=[.int a,.int b]/\out= .ok (.int (oC a b))
def Z7(B:Bs P K mg base Z):FG P w K mg base mx "common_divisor" 41 a3U:=by
 refine lW (N:=xt) B.F0 jL ?_;rintro f dw A outer s H E hr args out ⟨a,b,rfl,rfl⟩;refine⟨.ret (.int (oC a b)),?_,rfl⟩;refine ak (bW (i:=0) jL.nd (V4 B.abs (a8 0 rfl))) ?_;refine ak (bW (i:=1) jL.nd (V4 B.abs (a8 1 rfl))) ?_;obtain⟨n,h1,h2,h3⟩:=XH b.natAbs a.natAbs;refine ak (Vb cX (fun i=>[.dat (.int ((PZ i (a.natAbs,b.natAbs)).1:Int)),.dat (.int ((PZ i (a.natAbs,b.natAbs)).2:Int)),.no]) (zc.refl _) n (fun i hi=>⟨?_,?_⟩) (.inl ⟨?_,rfl⟩)) ?_
 ·have e:(!decide (((PZ i (a.natAbs,b.natAbs)).2:Int)=0))=true:=by simpa using h1 i hi
  exact e▸Dw (a8 1 rfl) au
 ·refine ia (ak (bW (i:=2) jL.nd (a0p (by simpa using h1 i hi) (a8 0 rfl) (a8 1 rfl))) (ak (bW (i:=0) jL.nd (a8 1 rfl)) (aK (bW (i:=1) jL.nd (a8 2 rfl))))) ?_;rw[Og];exact bw (by
   show zc [Sl.dat (.int (Int.fmod ((PZ i (a.natAbs,b.natAbs)).1:Int) ((PZ i (a.natAbs,b.natAbs)).2:Int))),Sl.dat _] _;rw[Int.fmod_eq_emod_of_nonneg _ (!0)];exact bw (cD gD))
 ·have e:(!decide (((PZ n (a.natAbs,b.natAbs)).2:Int)=0))=false:=by simpa using h2
  exact e▸Dw (a8 1 rfl) au
 ·refine aK (cq ?_);show Ev _ _ _ (.int ((dJ a.natAbs b.natAbs:Nat):Int));rw[<-h3];exact a8 0 rfl
def a3V:bM->Out->Prop:=fun args out=>∃a b:Int,args=[.int a,.int b]/\b≠0/\out= .ok (fr (cZ a b))
def J3(B:Bs P K mg base Z):FG P w K mg base mx "lowest" 42 a3V:=by
 refine lW (N:=IE) B.Vr Lh ?_;rintro f dw A outer s H E hr args out ⟨a,b,rfl,hb,rfl⟩;have hs:O0 (dX P w K mg base IE "lowest" (aj IA) f dw A outer s H E):=Rj B.seer B.tree B.lim rfl rfl hr ck;have hg:((oC a b:Nat):Int)≠0:=by
  have:=mT a hb;omega
 refine⟨.ret _,ak (bW (i:=2) Lh.nd (c7 (Z7 B) hr (ab (a8 0 rfl) (ab (a8 1 rfl) ar)) ⟨a,b,rfl,rfl⟩))
  (aK (cq (nQ (ab (Du hs hg (a8 0 rfl) (a8 2 rfl)) (ab (Du hs hg (a8 1 rfl) (a8 2 rfl)) ar))))),?_⟩
 show D.tup [.int (a.fdiv (oC a b:Int)),.int (b.fdiv (oC a b:Int))]=fr (cZ a b);rw[iN _ (!0),iN _ (!0)];rfl
def mF{n m:Nat}{i j:Int}(hi:Bd n i)(hj:Bd m j)(h:n+m<=90000000):AM i j:=a26 hi hj (!0)
def RFF(g:Int×Int->Int×Int->Int×Int):bM->Out->Prop:=fun args out=>∃(a b:Int×Int) (n m:Nat),args=[fr a,fr b]/\iB n a/\iB m b/\n+m<=90000000/\out= .ok (fr (g a b))
def Mo(B:Bs P K mg base Z):FG P w K mg base mx "plus" 43 (RFF fK):=by
 refine lW (N:=Vm) B.a0G XB ?_;rintro f dw A outer s H E hr args out ⟨a,b,n,m,rfl,ha,hb,hl,rfl⟩;have e1:=mF ha.a hb.b hl;have e2:=mF hb.a ha.b (!0);have e3:=mF ha.b hb.b hl;exact⟨.ret _,aK (cq (c7 (J3 B) hr (ab (wQ (jX e1 (gC (a8 0 rfl) au rfl) (gC (a8 1 rfl) au rfl)) (jX e2 (gC (a8 1 rfl) au rfl) (gC (a8 0 rfl) au rfl)))
  (ab (jX e3 (gC (a8 0 rfl) au rfl) (gC (a8 1 rfl) au rfl)) ar)) ⟨_,_,rfl,yW (jC ha.p hb.p),rfl⟩)),rfl⟩
def Bf(B:Bs P K mg base Z):FG P w K mg base mx "minus" 43 (RFF j6):=by
 refine lW (N:=Rn) B.XE Vn ?_;rintro f dw A outer s H E hr args out ⟨a,b,n,m,rfl,ha,hb,hl,rfl⟩;have e1:=mF ha.a hb.b hl;have e2:=mF hb.a ha.b (!0);have e3:=mF ha.b hb.b hl;exact⟨.ret _,aK (cq (c7 (J3 B) hr (ab (rR (jX e1 (gC (a8 0 rfl) au rfl) (gC (a8 1 rfl) au rfl)) (jX e2 (gC (a8 1 rfl) au rfl) (gC (a8 0 rfl) au rfl)))
  (ab (jX e3 (gC (a8 0 rfl) au rfl) (gC (a8 1 rfl) au rfl)) ar)) ⟨_,_,rfl,yW (jC ha.p hb.p),rfl⟩)),rfl⟩
def a0I:bM->Out->Prop:=fun args out=>∃(a:Int×Int) (i:Int) (n m:Nat),args=[fr a,.int i]/\iB n a/\Bd m i/\n+m<=90000000/\out= .ok (fr (js a i))
def Mp(B:Bs P K mg base Z):FG P w K mg base mx "times" 43 a0I:=by
 refine lW (N:=Ro) B.XG Vo ?_;rintro f dw A outer s H E hr args out ⟨a,i,n,m,rfl,ha,hb,hl,rfl⟩;exact⟨.ret _,aK (cq (c7 (J3 B) hr (ab (jX (mF ha.a hb hl) (gC (a8 0 rfl) au rfl) (a8 1 rfl)) (ab (gC (a8 0 rfl) au rfl) ar)) ⟨_,_,rfl,yW ha.p,rfl⟩)),rfl⟩
def a2g:bM->Out->Prop:=fun args out=>∃(a:Int×Int) (i:Int) (n m:Nat),args=[fr a,.int i]/\iB n a/\Bd m i/\0<i/\n+m<=90000000/\out= .ok (fr (pOver a i))
def Vu(B:Bs P K mg base Z):FG P w K mg base mx "over" 43 a2g:=by
 refine lW (N:=Vp) B.a0H XD ?_;rintro f dw A outer s H E hr args out ⟨a,i,n,m,rfl,ha,hb,hi,hl,rfl⟩;exact⟨.ret _,aK (cq (c7 (J3 B) hr (ab (gC (a8 0 rfl) au rfl) (ab (jX (mF ha.b hb hl) (gC (a8 0 rfl) au rfl) (a8 1 rfl)) ar)) ⟨_,_,rfl,yW (jC ha.p hi),rfl⟩)),rfl⟩
def RSq:bM->Out->Prop:=fun args out=>∃(a:Int×Int) (n:Nat),args=[fr a]/\iB n a/\n<=40000000/\out= .ok (fr (jl a))
def a3W(B:Bs P K mg base Z):FG P w K mg base mx "square" 43 RSq:=by
 refine lW (N:=O9) B.Vs SN ?_;rintro f dw A outer s H E hr args out ⟨a,n,rfl,ha,hl,rfl⟩;exact⟨.ret _,aK (cq (nQ (ab (jX (mF ha.a ha.a (!0)) (gC (a8 0 rfl) au rfl) (gC (a8 0 rfl) au rfl)) (ab (jX (mF ha.b ha.b (!0)) (gC (a8 0 rfl) au rfl) (gC (a8 0 rfl) au rfl)) ar)))),rfl⟩
def Vv(x y:Int×Int):Int×Int:=cZ ((if y.1<0 then-1 else 1)*x.1*y.2) ((if y.1<0 then-1 else 1)*x.2*y.1)
def a2h:bM->Out->Prop:=fun args out=>∃(a b:Int×Int) (n m:Nat),args=[fr a,fr b]/\iB n a/\iB m b/\b.1≠0/\n+m<=90000000/\out= .ok (fr (Vv a b))
def _root_.Dl.Bd.sign{n:Nat}{i:Int}(c:Prop) [Decidable c] (h:Bd n i):Bd n ((if c then-1 else 1)*i):=by
 split
 ·rw[show(-1:Int)*i= -i by omega];exact h.neg
 ·rw[AO];exact h
def Vw(c:Prop) [Decidable c] (i:Int):AM (if c then-1 else 1) i:=sO (by split<;>decide)
def a0J(B:Bs P K mg base Z):FG P w K mg base mx "quotient" 43 a2h:=by
 refine lW (N:=IF) B.PV G9 ?_;rintro f dw A outer s H E hr args out ⟨a,b,n,m,rfl,ha,hb,h0,hl,rfl⟩;have e1:=mF (ha.a.sign (b.1<0)) hb.b hl;have e2:=mF (ha.b.sign (b.1<0)) hb.a hl;have uN:(if b.1<0 then-1 else 1)*a.2*b.1≠0:=by
  have:=ha.p
  refine GZ (GZ (by split<;>decide) (!0)) h0
 refine⟨.ret _,ak (bW (i:=2) (d:=.int (if b.1<0 then-1 else 1)) G9.nd (Dx (Ld (gC (a8 1 rfl) au rfl) au) (fun h=>?_) (fun h=>?_))) (aK (cq (c7 (J3 B) hr (ab (jX e1 (jX (Vw _ _) (a8 2 rfl) (gC (a8 0 rfl) au rfl)) (gC (a8 1 rfl) au rfl))
  (ab (jX e2 (jX (Vw _ _) (a8 2 rfl) (gC (a8 0 rfl) au rfl)) (gC (a8 1 rfl) au rfl)) ar)) ⟨_,_,rfl,uN,rfl⟩))),rfl⟩
 ·rw[if_pos (of_decide_eq_true h)];exact PC au
 ·rw[if_neg (of_decide_eq_false h)];exact au
def a2i:bM->Out->Prop:=fun args out=>∃(a b:Int×Int) (n m:Nat),args=[fr a,fr b]/\iB n a/\iB m b/\n+m<=90000000/\out= .ok (.bl (decide (a.1*b.2<b.1*a.2)))
def a0K(B:Bs P K mg base Z):FG P w K mg base mx "is_less" 43 a2i:=by
 refine lW (N:=Li) B.SO PR ?_;rintro f dw A outer s H E hr args out ⟨a,b,n,m,rfl,ha,hb,hl,rfl⟩;exact⟨.ret _,aK (cq (a28 (jX (mF ha.a hb.b hl) (gC (a8 0 rfl) au rfl) (gC (a8 1 rfl) au rfl)) (jX (mF hb.a ha.b (!0)) (gC (a8 1 rfl) au rfl) (gC (a8 0 rfl) au rfl)))),rfl⟩
open fw (cZ fK j6 js pOver jl dF dm iy C9 ent Shape)
def iD(l:cE):D:=.lst (l.map D.int)
def rD(rows:gP):D:=.lst (rows.map iD)
def DN{α β:Type}(l:List α)(m:List β)(g:α->D)(h:β->D):O1 (l.map g) (m.map h)=(l.zip m).map fun x=>D.tup [g x.1,h x.2]:=by
 unfold O1;rw[yL,bc];rfl
def Bg{α:Type}(l:List α)(g:α->D):BW (l.map g)=l.zipIdx.map fun x=>D.tup [.int (x.2:Int),g x.1]:=by
 unfold BW;rw[List.zipIdx_map,bc];rfl
def lq:∀{r:br},zc r r:=fun {r}=>zc.refl r
structure u7(rows:gP)(n b:Nat):Prop where
 sh:Shape rows n
 bd:∀r∈rows,∀x∈r,Bd b x
def u7.at{rows:gP}{n b i:Nat}(h:u7 rows n b)(hi:i<n):rows[i]? =some (rows.getD i [])/\(rows.getD i []).length=n+1/\rows.getD i []∈rows:=by
 have hl:i<rows.length:=by rw[h.sh.len];exact hi
 have e:rows.getD i []=rows[i]:=fw.fq hl;refine⟨by rw[e];simp[hl],h.sh.row hi,by rw[e];exact fS hl⟩
def u7.ent{rows:gP}{n b i j:Nat}(h:u7 rows n b)(hi:i<n)(hj:j<n+1):(rows.getD i [])[j]? =some (fw.ent rows i j)/\Bd b (fw.ent rows i j):=by
 obtain⟨h1,h2,h3⟩:=h.at hi;have hl:j<(rows.getD i []).length:=by rw[h2];exact hj
 have e:fw.ent rows i j=(rows.getD i [])[j]:=fw.fq hl;exact⟨by rw[e];simp[hl],by rw[e];exact h.bd _ h3 _ (fS hl)⟩
def a3X:bM->Out->Prop:=fun args out=>∃(rows:gP) (step:Nat) (below:Int) (n b:Nat),args=[rD rows,.int step,.int below]/\u7 rows n b/\step<n/\n<=1000/\below≠0/\b<=40000000/\out= .ok (rD (dF rows step below))
def a2j(B:Bs P K mg base Z):FG P w K mg base mx "cleared" 43 a3X:=by
 refine lW (N:=Be) B.SQ pT ?_;rintro f dw A outer s H E hr args out ⟨rows,step,below,n,b,rfl,hR,vU,hn,KR,hb,rfl⟩;have hs:O0 (dX P w K mg base Be "cleared" (aj Bc) f dw A outer s H E):=Rj B.seer B.tree B.lim rfl rfl hr ck;obtain⟨r1,r2,r3⟩:=hR.at vU;obtain⟨p1,p2⟩:=hR.ent (j:=step) vU (!0);have ko:rows.length=n:=hR.sh.len;have hlC:(dF rows step below).length=n:=by unfold dF;simp[ko]
 refine⟨.ret (rD (dF rows step below)),?_,rfl⟩;refine ak (bW (i:=3) (d:=iD (rows.getD step [])) pT.nd (eM (a8 0 rfl) (a8 1 rfl) (!0) (g9 r1))) ?_;refine ak (bW (i:=4) (d:=.int (ent rows step step)) pT.nd (eM (a8 3 rfl) (a8 1 rfl) (!0) (g9 p1))) ?_;refine ak (Co (i:=5) pT.nd (j3 rfl) ar) ?_;refine ak (kP (τ:=.many [6,7]) (items:=BW (rows.map iD)) cX rfl (ye B.enumerate (a8 0 rfl)) (pQ rfl pT.nd)
  (fun i=>[.dat (rD rows),.dat (.int step),.dat (.int below),.dat (iD (rows.getD step [])),.dat (.int (ent rows step step)),.own (((dF rows step below).take i).map iD),.no,.no,.no,.no]) lq n (by rw[qf];simp[ko]) (fun i d hi hd=>?_) (.inl ⟨by rw[qf];simp[ko],rfl⟩)) ?_
 ·obtain⟨y,hy,rfl⟩:=B9 hd;obtain⟨q1,q2,q3⟩:=hR.at hi;rw[aC,q1]at hy;obtain rfl:iD (rows.getD i [])=y:=be hy;obtain⟨f1,f2⟩:=hR.ent (j:=step) hi (!0);have hC:(dF rows step below)[i]? =some (if i=step then rows.getD i []else C9 below (ent rows step step) ((rows.getD i []).getD step 0) (rows.getD i []) (rows.getD step [])):=by
   unfold dF;rw[List.getElem?_mapIdx,q1];rfl
  have hk:(dF rows step below).take (i+1)=(dF rows step below).take i++[if i=step then rows.getD i []else C9 below (ent rows step step) ((rows.getD i []).getD step 0) (rows.getD i []) (rows.getD step [])]:=by
   have ED:i<(dF rows step below).length:=!0
   rw[lA ED];rw[aV ED]at hC;rw[be hC]
  refine⟨_,rfl,?_⟩;have WC:((((dF rows step below).take i).map iD)).length<100000:=by simp;omega
  refine ia (aK (gq (oc:=.next ((wu [.dat (rD rows),.dat (.int step),.dat (.int below),.dat (iD (rows.getD step [])),.dat (.int (ent rows step step)),.own (((dF rows step below).take i).map iD),.no,.no,.no,.no] [6,7] [.int (i:Nat),iD (rows.getD i [])]).set 5 (.own (((dF rows step below).take (i+1)).map iD)))) (Dv (a8 6 rfl) (a8 1 rfl)) (fun h=>?_) (fun h=>?_))) ?_
  ·have e:i=step:=by have:=of_decide_eq_true h;omega
   rw[hk,if_pos e,cJ];exact aK (uV (i:=5) (d:=iD (rows.getD i [])) rfl (a8 7 rfl) WC)
  ·have e:¬i=step:=by have:=of_decide_eq_false h;omega
   rw[hk,if_neg e,cJ];refine aK (uV (i:=5) (d:=iD (C9 below (ent rows step step) ((rows.getD i []).getD step 0) (rows.getD i []) (rows.getD step []))) rfl ?_ WC);have e2:iD (C9 below (ent rows step step) ((rows.getD i []).getD step 0) (rows.getD i []) (rows.getD step []))= .lst (((rows.getD i []).zip (rows.getD step [])).map fun x=>D.int ((ent rows step step*x.1-(rows.getD i []).getD step 0*x.2).fdiv below)):=by
    unfold iD C9;rw[bc];rfl
   rw[e2];refine vk (τ:=.many [8,9]) (own:=[("own",8),("other",9)]) (g:=fun x=>D.tup [.int x.1,.int x.2]) rfl pT.nd (by rw[<-DN (rows.getD i []) (rows.getD step []) D.int D.int];exact Ir B.zip (a8 7 rfl) (a8 3 rfl)) (iI (N:=Be) (sc:=aj Bc) (by decide+kernel)) (fun s H C cl fp=>pQ rfl pT.nd) (fun i h=>h) (by rw[cI,q2,r2];omega) (fun x hx=>⟨_,rfl,fun s H C cl fp=>?_⟩);have Z8:=cn hx;exact Du hs KR (rR (jX (mF p2 (hR.bd _ q3 _ Z8.1) (!0)) (a8 4 rfl) (a8 8 rfl)) (jX (mF f2 (hR.bd _ r3 _ Z8.2) (!0)) (eM (a8 7 rfl) (a8 1 rfl) (!0) (g9 f1)) (a8 9 rfl))) (a8 2 rfl)
  ·exact bw (bw (bw (bw (bw (bw (cD (cD (cD (cD gD)))))))))
 ·have e:(dF rows step below).take n=dF rows step below:=fH (!0);have e2:rD (dF rows step below)= .lst (((dF rows step below).take n).map iD):=by rw[e];rfl
  rw[e2];exact ll (i:=5) rfl (aK (cq (a8 5 rfl)))
def XI{n:Nat}{i j:Int}(hj:0<j)(h:Bd n i):Bd n (i.fdiv j):=by
 rw[iN _ (!0)];exact h.of_le (Int.natAbs_ediv_le_natAbs i j)
def Q0{rows:gP}{n b step:Nat}{below:Int}(h:u7 rows n b)(hs:step<n)(hb:0<below):u7 (dF rows step below) n (2*b+1):=by
 refine⟨fw.zS h.sh hs,fun r hr x hx=>?_⟩;unfold dF at hr;rw[GV]at hr;obtain⟨i,hi,e⟩:=hr;obtain⟨_,_,r3⟩:=h.at hs;have hir:rows[i]∈rows:=fS hi;have hin:i<n:=by rw[<-h.sh.len];exact hi
 by_cases he:i=step
 ·rw[if_pos he]at e;subst e;exact(h.bd _ hir x hx).mono (!0)
 ·rw[if_neg he]at e;subst e;unfold C9 at hx;rw[aZ]at hx;obtain⟨y,hy,rfl⟩:=hx;have hy1:=cn hy;have p2:=(h.ent (j:=step) hs (!0)).2;have f2:=(h.ent (i:=i) (j:=step) hin (!0)).2;have ef:(rows[i]).getD step 0=fw.ent rows i step:=by
   unfold fw.ent;rw[fw.fq hi]
  rw[ef];exact XI hb (by
   have:=Bd.sub (p2.mul (h.bd _ hir _ hy1.1)) (f2.mul (h.bd _ r3 _ hy1.2));exact this.mono (!0))
def sz(b:Nat):Nat->Nat
 | 0=>b
 | k+1=>2*sz b k+1
def XJ(b k:Nat):sz b k<=sz b (k+1):=by show sz b k<=2*sz b k+1;omega
def Z9{b k j:Nat}(h:k<=j):sz b k<=sz b j:=by
 induction j with
 | zero=>
      have:k=0:=!0
      subst this;exact ao _
 | succ j ih=>
  by_cases e:k=j+1
  ·subst e;exact ao _
  ·exact bq (ih (!0)) (XJ b j)
theorem DO{rows:gP}{n b:Nat}(h:u7 rows n b)(hp:∀k,k<=n->0<(dm rows k).2):∀k,k<=n->u7 (dm rows k).1 n (sz b k)
 | 0,_=>h
 | k+1,hk=>Q0 (DO h hp k (!0)) (!0) (hp k (!0))
def a3Y:bM->Out->Prop:=fun args out=>∃(rows:gP) (n b:Nat),args=[rD rows]/\u7 rows n b/\n<=8/\sz b 8<=40000000/\(∀k,k<=n->0<(dm rows k).2)/\out= .ok (.lst ((iy rows).map fr))
def a2k(B:Bs P K mg base Z):FG P w K mg base mx "solved" 44 a3Y:=by
 refine lW (N:=IG) B.Vt qi ?_;rintro f dw A outer s H E hr args out ⟨rows,n,b,rfl,hR,hn,hb,hp,rfl⟩;have ko:rows.length=n:=hR.sh.len;have hO:=DO hR hp;refine⟨.ret (.lst ((iy rows).map fr)),?_,rfl⟩;refine ak (bW (i:=1) (d:=.int (n:Nat)) qi.nd (Ev.eq (i9 B.len (a8 0 rfl)) (by rw[aa,ko]))) ?_;refine ak (bW (i:=2) qi.nd au) ?_;refine ak (kP (τ:=.one 3) (items:=D0 0 n) cX rfl (Es.eq (uU (j:=(n:Int)) B.range (a8 1 rfl) (!0) (!0)) (by rw[bH])) (jY qi.nd)
  (fun k=>[.dat (rD (dm rows k).1),.dat (.int (n:Nat)),.dat (.int (dm rows k).2),.no,.no]) lq n (by rw[B8];exact ao _) (fun k d hk hd=>?_) (.inl ⟨(B8 0 n).symm,rfl⟩)) ?_
 ·obtain⟨_,rfl⟩:=Rc hd;rw[Ep];have S5:=hO k (!0);have Tw:=hO (k+1) (!0);have z8:sz b k<=40000000:=bq (Z9 (!0)) hb;obtain⟨r1,r2,r3⟩:=Tw.at hk;obtain⟨p1,p2⟩:=Tw.ent (i:=k) (j:=k) hk (!0);refine⟨_,rfl,ia (ak (bW (i:=0) (d:=rD (dm rows (k+1)).1) qi.nd (c7 (a2j B) hr.m (ab (a8 0 rfl) (ab (a8 3 rfl) (ab (a8 2 rfl) ar))) ⟨(dm rows k).1,k,(dm rows k).2,n,_,rfl,S5,hk,by omega,by have:=hp k (!0);omega,z8,rfl⟩))
   (aK (bW (i:=2) (d:=.int (dm rows (k+1)).2) qi.nd (eM (eM (a8 0 rfl) (a8 3 rfl) (!0) (g9 r1)) (a8 3 rfl) (!0) (g9 p1))))) ?_⟩
  exact bw (bw (bw (cD (bw gD))))
 ·refine aK (cq ?_);have hN:=hO n (ao _);have e:(iy rows).map fr=(dm rows n).1.map fun row=>fr (cZ (row.getD n 0) (dm rows n).2):=by
   unfold iy;rw[bc,ko];rfl
  rw[e];refine vk (τ:=.one 4) (own:=[("row",4)]) (g:=iD) rfl qi.nd (kI (a8 0 rfl)) (iI (N:=IG) (sc:=aj IC) (by decide+kernel)) (fun s H C cl fp=>jY qi.nd) (fun i h=>h) (by rw[hN.sh.len];omega) (fun row Sd=>⟨_,rfl,fun s H C cl fp=>?_⟩);have hl:n<row.length:=by rw[hN.sh.cols row Sd];omega
  refine c7 (J3 B) hr.m (ab (eM (a8 4 rfl) (a8 1 rfl) (!0) (g9 (x:=row.getD n 0) (by rw[fw.fq hl];simp[hl]))) (ab (a8 2 rfl) ar)) ⟨_,_,rfl,by have:=hp n (ao _);omega,rfl⟩
open fw (cZ fK j6 js pOver jl dF dm iy C9 ent Shape i8 fD wK rK uZ)
def nI(i:Nat):D:=.int (i:Int)
def nD(l:bL):D:=.lst (l.map nI)
def pD(p:Nat×Nat):D:=.tup [nI p.1,nI p.2]
def Hn(ps:iS):D:=.lst (ps.map pD)
def Vx(a b:Nat):min (a:Int) (b:Int)=((min a b:Nat):Int):=!0
def Vy(a b:Nat):max (a:Int) (b:Int)=((max a b:Nat):Int):=!0
def Q1(a b:Nat)(l:bL):(vN a b l).length=l.length:=by unfold vN;simp
theorem J4:∀(ps:iS) (l:bL),(ps.foldl (fun l p=>vN p.1 p.2 l) l).length=l.length
 | [],_=>rfl
 | p::r,l=>by rw[fP,J4 r,Q1]
def Al(size:Nat)(ps:iS):(i8 size ps).length=size:=by unfold i8;rw[J4];simp
def getD_some{α:Type}{l:List α}{i:Nat}{d:α}(h:i<l.length):l[i]? =some (l.getD i d):=by rw[fw.fq h];simp[h]
def take_snoc{α:Type}{l:List α}{i:Nat}{x:α}(h:l[i]? =some x):l.take (i+1)=l.take i++[x]:=by
 obtain⟨hi,e⟩:=ag.mp h;rw[lA hi,e]
def lu{α:Type}{l:List α}{g:α->D}{i:Nat}(h:(l.map g)[i]? =some d):∃x,l[i]? =some x/\d=g x:=by
 rw[aC]at h
 cases e:l[i]? with
 | none=>rw[e]at h;cases h
 | some x=>rw[e]at h;exact⟨x,rfl,(be h).symm⟩
def RLJ:bM->Out->Prop:=fun args out=>∃(size:Nat) (ps:iS),args=[nI size,Hn ps]/\size<=1000/\ps.length<=1000/\(∀p∈ps,p.1<size/\p.2<size)/\out= .ok (nD (i8 size ps))
def a0L(B:Bs P K mg base Z):FG P w K mg base mx "least_joined" 41 RLJ:=by
 refine lW (N:=vy) B.IP jO ?_;rintro f dw A outer s H E hr args out ⟨size,ps,rfl,hz,hl,hp,rfl⟩;refine⟨.ret (nD (i8 size ps)),?_,rfl⟩;refine ak (bW (i:=2) (d:=nD (ay size)) jO.nd (Mh rfl B.list B.range (a8 0 rfl) (!0))) ?_;refine ak (kP (τ:=.many [3,4]) (items:=ps.map pD) cX rfl (kI (a8 1 rfl)) (pQ rfl jO.nd)
  (fun i=>[.dat (nI size),.dat (Hn ps),.dat (nD ((ps.take i).foldl (fun l p=>vN p.1 p.2 l) (ay size))),.no,.no,.no,.no,.no]) lq ps.length (!1) (fun i d hi hd=>?_) (.inl ⟨by simp,rfl⟩)) ?_
 ·obtain⟨p,hpi,rfl⟩:=lu hd;have hpp:=hp p (aD hpi);have ko:((ps.take i).foldl (fun l p=>vN p.1 p.2 l) (ay size)).length=size:=by rw[J4];simp
  refine⟨_,rfl,?_⟩;have a1:=getD_some (l:=(ps.take i).foldl (fun l p=>vN p.1 p.2 l) (ay size)) (d:=0) (i:=p.1) (!0);have a2:=getD_some (l:=(ps.take i).foldl (fun l p=>vN p.1 p.2 l) (ay size)) (d:=0) (i:=p.2) (!0);rw[take_snoc hpi,g8];generalize (ps.take i).foldl (fun l p=>vN p.1 p.2 l) (ay size)=L at*;refine ia (ak (bW (i:=5) (d:=nI (min (L.getD p.1 0) (L.getD p.2 0))) jO.nd (Ev.eq (a0C rfl B.min (eM (a8 2 rfl) (a8 3 rfl) (!0) (g9 a1)) (eM (a8 2 rfl) (a8 4 rfl) (!0) (g9 a2))) (by rw[Vx];rfl)))
   (ak (bW (i:=6) (d:=nI (max (L.getD p.1 0) (L.getD p.2 0))) jO.nd (Ev.eq (a0D rfl B.max (eM (a8 2 rfl) (a8 3 rfl) (!0) (g9 a1)) (eM (a8 2 rfl) (a8 4 rfl) (!0) (g9 a2))) (by rw[Vy];rfl)))
   (aK (SM (i:=2) (τ:=.one 7) (own:=[("label",7)]) (l:=L) (g:=nI) (h:=fun z=>nI (if z=max (L.getD p.1 0) (L.getD p.2 0)then min (L.getD p.1 0) (L.getD p.2 0)else z)) rfl jO.nd (kI (a8 2 rfl)) (iI (N:=vy) (sc:=aj vn) (by decide+kernel)) (fun s H C cl fp=>jY jO.nd) (fun i h=>h) (!0) (R4 rfl rfl rfl rfl)
    (fun z hz=>⟨_,rfl,fun s H C cl fp=>Dx (Dv (a8 7 rfl) (a8 6 rfl)) (fun h=>?_) (fun h=>?_)⟩))))) ?_
  ·have e:z=max (L.getD p.1 0) (L.getD p.2 0):=by have:=of_decide_eq_true h;omega
   rw[if_pos e];exact a8 5 rfl
  ·have e:¬z=max (L.getD p.1 0) (L.getD p.2 0):=by have:=of_decide_eq_false h;omega
   rw[if_neg e];exact a8 7 rfl
  ·have e:nD (CQ (fun l p=>vN p.1 p.2 l) L [p])=D.lst (L.map fun z=>nI (if z=max (L.getD p.1 0) (L.getD p.2 0)then min (L.getD p.1 0) (L.getD p.2 0)else z)):=by
    show nD (vN p.1 p.2 L)=_;unfold vN nD;rw[bc];rfl
   rw[e];exact bw (bw (bw (cD (cD (cD (cD (bw gD)))))))
 ·rw[show i8 size ps=(ps.take ps.length).foldl (fun l p=>vN p.1 p.2 l) (ay size) by rw[gG];rfl];exact aK (cq (a8 2 rfl))
def a3Z:bM->Out->Prop:=fun args out=>∃(e:Nat×Nat) (node:Nat),args=[pD e,nI node]/\out= .ok (.int (fD e node))
def Oh(B:Bs P K mg base Z):FG P w K mg base mx "direction" 41 a3Z:=by
 refine lW (N:=Ga) B.Ob ym ?_;rintro f dw A outer s H E hr args out ⟨e,node,rfl,rfl⟩;refine⟨.ret (.int (fD e node)),ak (bW (i:=2) (d:=.int (if e.2=node then 1 else 0)) ym.nd (Dx (Dv (gC (a8 0 rfl) au rfl) (a8 1 rfl)) (fun h=>?_) (fun h=>?_)))
  (ak (bW (i:=3) (d:=.int (if e.1=node then 1 else 0)) ym.nd (Dx (Dv (gC (a8 0 rfl) au rfl) (a8 1 rfl)) (fun h=>?_) (fun h=>?_))) (aK (cq (rR (a8 2 rfl) (a8 3 rfl))))),rfl⟩
 ·exact Ev.eq au (congrArg D.int (if_pos (by have:=of_decide_eq_true h;omega)).symm)
 ·exact Ev.eq au (congrArg D.int (if_neg (by have:=of_decide_eq_false h;omega)).symm)
 ·exact Ev.eq au (congrArg D.int (if_pos (by have:=of_decide_eq_true h;omega)).symm)
 ·exact Ev.eq au (congrArg D.int (if_neg (by have:=of_decide_eq_false h;omega)).symm)
def Wt(k:Nat):Prop:=0<k/\k<=1000000
def Wt.bd{k:Nat}(h:Wt k):Bd 20 (k:Int):=by
 show(k:Int).natAbs<2^20;have:=h.2;have e:(2:Nat)^20=1048576:=by decide
 rw[e,jg];omega
theorem Q2:∀(ws:bL),(∀x∈ws,Wt x)->∀(r n:Nat),Bd n (r:Int)->Bd (n+20*ws.length) ((ws.foldl (fun r w=>r/dJ r w*w) r:Nat):Int)
 | [],_,r,n,h=>h
 | x::ws,hw,r,n,h=>by
  rw[fP];have h1:Bd n ((r/dJ r x:Nat):Int):=h.of_le (by rw[jg,jg];exact uk _ _);have h2:=h1.mul (hw x (aQ ..)).bd;have h3:=Q2 ws (fun y hy=>hw y (az _ hy)) (r/dJ r x*x) (n+20) (by rw[kY];exact h2);exact h3.mono (by rw[ah];omega)
def SS{ws:bL}(h:∀x∈ws,Wt x):Bd (1+20*ws.length) ((wK ws:Nat):Int):=Q2 ws h 1 1 (by show(1:Nat)<2^1;decide)
def RCM:bM->Out->Prop:=fun args out=>∃(ws:bL),args=[nD ws]/\ws.length<=1000/\(∀x∈ws,Wt x)/\out= .ok (nI (wK ws))
def a40(B:Bs P K mg base Z):FG P w K mg base mx "common_multiple" 42 RCM:=by
 refine lW (N:=qG) B.DK mD ?_;rintro f dw A outer s H E hr args out ⟨ws,rfl,hl,hw,rfl⟩;have hs:O0 (dX P w K mg base qG "common_multiple" (aj qB) f dw A outer s H E):=Rj B.seer B.tree B.lim rfl rfl hr ck;refine⟨.ret (nI (wK ws)),?_,rfl⟩;refine ak (bW (i:=1) mD.nd au) ?_;refine ak (kP (τ:=.one 2) (items:=ws.map nI) cX rfl (kI (a8 0 rfl)) (jY mD.nd)
  (fun i=>[.dat (nD ws),.dat (nI ((ws.take i).foldl (fun r w=>r/dJ r w*w) 1)),.no]) lq ws.length (!1) (fun i d hi hd=>?_) (.inl ⟨by simp,rfl⟩)) ?_
 ·obtain⟨x,hx,rfl⟩:=lu hd;have hxw:=hw x (aD hx);have hb:=Q2 (ws.take i) (fun y hy=>hw y (oh hy)) 1 1 (by show(1:Nat)<2^1;decide);have hbl:(ws.take i).length<=1000:=bq (jW _ _) (!0);refine⟨_,rfl,?_⟩;rw[take_snoc hx,g8];generalize (ws.take i).foldl (fun r w=>r/dJ r w*w) 1=r at*;have hg:((oC (r:Int) (x:Int):Nat):Int)≠0:=by
   have:=mT (r:Int) (b:=(x:Int)) (by have:=hxw.1;omega);omega
  have e1:(r:Int).fdiv ((oC (r:Int) (x:Int):Nat):Int)=((r/dJ r x:Nat):Int):=by
   rw[iN _ (!0),Int.gcd_natCast_natCast,xD]
  have hq:Bd (1+20*(ws.take i).length) ((r/dJ r x:Nat):Int):=hb.of_le (by rw[jg,jg];exact uk _ _);refine ia (aK (bW (i:=1) (d:=nI (r/dJ r x*x)) mD.nd (Ev.eq (jX (i:=(r:Int).fdiv ((oC (r:Int) (x:Int):Nat):Int)) (by rw[e1];exact mF hq hxw.bd (!0)) (Du hs hg (a8 1 rfl) (c7 (Z7 B) hr.m (ab (a8 1 rfl) (ab (a8 2 rfl) ar)) ⟨_,_,rfl,rfl⟩)) (a8 2 rfl)) (by rw[e1];show D.int _=D.int _;rw[kY])))) ?_;exact bw (bw (cD gD))
 ·rw[show wK ws=(ws.take ws.length).foldl (fun r w=>r/dJ r w*w) 1 by rw[gG];rfl];exact aK (cq (a8 1 rfl))
def kD:Option (Int×Nat)->D
 | none=>.fA
 | some k=>.tup [.int k.1,nI k.2]
def N4(m:List (Option (Int×Nat))):D:=.lst (m.map kD)
def lkD(l:rK):D:=.tup [pD l.1,.int l.2.1,nI l.2.2]
def Mq(l:List rK):D:=.lst (l.map lkD)
def Lk(y:(Nat×Nat)×Option (Int×Nat)):Option rK:=y.2.map fun k=>(y.1,k.1,k.2)
def P6(ends:iS)(m:List (Option (Int×Nat))):List rK:=(ends.zip m).filterMap Lk
def J5{α β γ:Type}(f:α->Option β)(g:β->γ)(l:List α):(l.filterMap f).map g=l.filterMap fun x=>(f x).map g:=by rw[vO]
def yz{α β:Type}{l:List α}{m:List β}{n:Nat}(h:l.length<=n):(l.zip m).length<=n:=by rw[cI];omega
def RML:bM->Out->Prop:=fun args out=>∃(ends:iS) (m:List (Option (Int×Nat))),args=[Hn ends,N4 m]/\ends.length<=1000/\out= .ok (Mq (P6 ends m))
def a2l(B:Bs P K mg base Z):FG P w K mg base mx "measured_links" 41 RML:=by
 refine lW (N:=rW) B.F1 qH ?_;rintro f dw A outer s H E hr args out ⟨ends,m,rfl,hl,rfl⟩;refine⟨.ret (Mq (P6 ends m)),aK (cq ?_),rfl⟩;have e:Mq (P6 ends m)= .lst ((ends.zip m).filterMap fun y=>(Lk y).map lkD):=by unfold Mq P6;rw[J5]
 rw[e];refine Iv (τ:=.many [2,3]) (own:=[("pair",2),("known",3)]) (g:=fun y=>D.tup [pD y.1,kD y.2]) rfl qH.nd (Es.eq (Ir B.zip (a8 0 rfl) (a8 1 rfl)) (DN ..)) (iI (N:=rW) (sc:=aj rS) (by decide+kernel)) (fun s H C cl fp=>pQ rfl qH.nd) (fun i h=>h) (yz (!0)) (fun y hy=>⟨_,rfl,fun s H C cl fp=>?_⟩);obtain⟨p,o⟩:=y
 cases o with
 | none=>exact Ba (Et.eq (Mb (a8 3 rfl)) rfl)
 | some k=>exact⟨Ba (Et.eq (Mb (a8 3 rfl)) rfl),nQ (ab (a8 2 rfl) (ab (gC (a8 3 rfl) au rfl) (ab (gC (a8 3 rfl) au rfl) ar)))⟩
def Q3(e:Nat×Nat)(n:Nat):fD e n= -1\/fD e n=0\/fD e n=1:=by unfold fD;split<;>split<;>omega
def oB(e:Nat×Nat)(n:Nat):Bd 1 (fD e n):=by
 rcases Q3 e n with h | h | h<;>(rw[h];show Int.natAbs _<2^1;decide)
def Za{i:Int}(h:Bd 1 i):iR i<=64:=bq (bits_le h) ck
def DP(node:Nat)(links:List rK):Int:=(links.map fun l=>fD l.1 node*l.2.1).sum
def a41:bM->Out->Prop:=fun args out=>∃(node:Nat) (links:List rK),args=[nI node,Mq links]/\links.length<=1000/\out= .ok (.int (DP node links))
def Zb(B:Bs P K mg base Z):FG P w K mg base mx "net_inflow" 42 a41:=by
 refine lW (N:=yn) B.Ml wR ?_;rintro f dw A outer s H E hr args out ⟨node,links,rfl,hl,rfl⟩;refine⟨.ret (.int (DP node links)),aK (cq (V5 (l:=links.map fun l=>fD l.1 node*l.2.1) rfl B.sum ?_)),rfl⟩;rw[bc];refine vk (τ:=.many [2,3,4]) (own:=[("ends",2),("value",3),("weight",4)]) (g:=lkD) (l:=links) rfl wR.nd (kI (a8 1 rfl)) (iI (N:=yn) (sc:=aj yi) (by decide+kernel)) (fun s H C cl fp=>vm rfl wR.nd) (fun i h=>h) (!0) (fun y hy=>⟨_,rfl,fun s H C cl fp=>?_⟩);exact jX (sO (Za (oB _ _))) (c7 (Oh B) hr (ab (a8 2 rfl) (ab (a8 0 rfl) ar)) ⟨_,_,rfl,rfl⟩) (a8 3 rfl)
structure Vz(links:List rK):Prop where
 len:links.length<=1000
 wt:∀l∈links,Wt l.2.2
 val:∀l∈links,Bd 30 l.2.1
theorem Q4:∀(l:cE) (n:Nat),(∀x∈l,Bd n x)->Bd (n+l.length) l.sum
 | [],n,_=>by show(0:Int).natAbs<2^(n+0);exact Nat.two_pow_pos _
 | x::r,n,h=>by
  rw[mY,ah,<-Nat.add_assoc];exact Bd.add ((h x (aQ ..)).mono (!0)) (Q4 r n fun y hy=>h y (az _ hy))
def VA{links:List rK}(h:Vz links)(node:Nat):Bd (31+links.length) (DP node links):=by
 have:=Q4 (links.map fun l=>fD l.1 node*l.2.1) 31 (fun x hx=>by
  obtain⟨l,hl,rfl⟩:=aZ.mp hx;exact((oB _ _).mul (h.val l hl)).mono (!0))
 rw[aa]at this;exact this
def RBR:bM->Out->Prop:=fun args out=>∃(group:Nat) (unknown:bL) (links:List rK) (scale b:Nat),args=[nI group,nD unknown,Mq links,nI scale]/\Vz links/\unknown.length<=1000/\Bd b (scale:Int)/\b<=1000000/\out= .ok (iD (uZ unknown links scale group))
def a42(B:Bs P K mg base Z):FG P w K mg base mx "balance_row" 43 RBR:=by
 refine lW (N:=sU) B.Ka nS ?_;rintro f dw A outer s H E hr args out ⟨group,unknown,links,scale,b,rfl,hL,hu,hb,hb2,rfl⟩;have hs:O0 (dX P w K mg base sU "balance_row" (aj sR) f dw A outer s H E):=Rj B.seer B.tree B.lim rfl rfl hr ck;have hll:=hL.len;refine⟨.ret (iD (uZ unknown links scale group)),?_,rfl⟩;refine ak (Co (i:=4) nS.nd (j3 rfl) ar) ?_;refine ak (kP (τ:=.one 5) (items:=unknown.map nI) cX rfl (kI (a8 1 rfl)) (jY nS.nd)
  (fun i=>[.dat (nI group),.dat (nD unknown),.dat (Mq links),.dat (nI scale),.own ((unknown.take i).map fun other=>.int (links.map fun l=>fD l.1 group*fD l.1 other*((scale/l.2.2:Nat):Int)).sum),.no,.no,.no,.no]) lq unknown.length (!1) (fun i d hi hd=>?_) (.inl ⟨by simp,rfl⟩)) ?_
 ·obtain⟨other,ho,rfl⟩:=lu hd;refine⟨_,rfl,?_⟩;refine ia (aK (uV (i:=4) (d:=.int (links.map fun l=>fD l.1 group*fD l.1 other*((scale/l.2.2:Nat):Int)).sum) rfl (V5 rfl B.sum ?_) (by rw[aa];exact ig (jW _ _) (!0)))) ?_
  ·rw[bc];refine vk (τ:=.many [6,7,8]) (own:=[("ends",6),("value",7),("weight",8)]) (g:=lkD) (l:=links) rfl nS.nd (kI (a8 2 rfl)) (iI (N:=sU) (sc:=aj sR) (by decide+kernel)) (fun s H C cl fp=>vm rfl nS.nd) (fun i h=>h) (!0) (fun y hy=>⟨_,rfl,fun s H C cl fp=>?_⟩);have hw:=hL.wt y hy;have e1:(scale:Int).fdiv (y.2.2:Int)=((scale/y.2.2:Nat):Int):=by rw[iN _ (!0),xD]
   refine Ev.eq (jX (sO (bq (bits_le ((oB y.1 group).mul (oB y.1 other))) ck)) (jX (sO (Za (oB _ _))) (c7 (Oh B) hr.m (ab (a8 6 rfl) (ab (a8 0 rfl) ar)) ⟨_,_,rfl,rfl⟩) (c7 (Oh B) hr.m (ab (a8 6 rfl) (ab (a8 5 rfl) ar)) ⟨_,_,rfl,rfl⟩))
    (Du hs (by have:=hw.1;omega) (a8 3 rfl) (a8 8 rfl))) ?_
   rw[e1];rfl
  ·rw[take_snoc ho,cJ];exact bw (bw (bw (bw (bw (cD (cD (cD (cD gD))))))))
 ·refine ll (i:=4) rfl (aK (cq ?_));rw[gG];refine Ev.eq (Cm (a8 4 rfl) (pP (ab (jX (i:= -DP group links) (mF (VA hL group).neg hb (!0)) (PC (c7 (Zb B) hr (ab (a8 0 rfl) (ab (a8 2 rfl) ar)) ⟨_,_,rfl,by omega,rfl⟩)) (a8 3 rfl)) ar)) (by rw[aa];show unknown.length+1<=_;omega)) ?_;unfold iD uZ;rw[cJ,bc];rfl
open fw (cZ fK j6 js pOver jl dF dm iy C9 ent Shape i8 fD wK rK uZ WF bB free oV mo links jk lU zW rM eV iP wJ Pe)
structure o5(s:cg)(m:aJ):Prop where
 wf:WF s m
 nodes:s.nodes.length<=8
 streams:s.streams.length<=12
 wts:∀v w,some (v,w)∈m->Wt w/\Bd 30 v
abbrev EN(s:cg):iS:=s.streams.map bB
def nums(s:cg)(m:aJ):xi:=(cU s m).map eV
section
variable {s:cg}{m:aJ}
def Oi(W:WF s m):i8 (s.nodes.length+1) ((((EN s).zip m).filter fun y=>y.2.isNone).map (·.1))=free s m:=by
 rw[fw.B0 W.len];unfold iP EN;rw[fw.xk,mR,bc];rfl
def VB(W:WF s m):(free s m).length=s.nodes.length+1:=by rw[fw.B0 W.len];exact Al _ _
def XM(s:cg):(oV s).length=s.nodes.length+1:=by rw[fw.any_join];exact Al _ _
def yA(W:WF s m){p:Nat×Nat}(h:p∈EN s):p.1<s.nodes.length+1/\p.2<s.nodes.length+1:=by
 obtain⟨x,hx,rfl⟩:=aZ.mp h;exact W.ends x hx
def a0M(g:bL)(E:iS)(m:aJ):P6 (E.map fun e=>(g.getD e.1 0,g.getD e.2 0)) m=wJ g E m:=by
 unfold P6 wJ;rw[fw.xk,je];rfl
def J6(h:o5 s m):Vz (links s m):=by
 have mem:∀l∈links s m,∃k,some k∈m/\l.2=k:=fun l hl=>by
  unfold links wJ at hl;rw[gw]at hl;obtain⟨y,hy,e⟩:=hl;obtain⟨p,o⟩:=y
  cases o with
  | none=>cases e
  | some k=>cases e;exact⟨k,(cn hy).2,rfl⟩
 refine⟨?_,fun l hl=>?_,fun l hl=>?_⟩
 ·unfold links wJ;refine bq (lK _ _) (yz ?_);rw[aa];have:=h.streams;omega
 ·obtain⟨k,hk,e⟩:=mem l hl;rw[e];exact(h.wts k.1 k.2 hk).1
 ·obtain⟨k,hk,e⟩:=mem l hl;rw[e];exact(h.wts k.1 k.2 hk).2
def Ll(h:o5 s m):(links s m).length<=12:=by
 unfold links wJ;refine bq (lK _ _) (yz ?_);rw[aa];exact h.streams
def Rp(h:o5 s m):(mo s m).length<=8:=by
 have h0:0∉mo s m:=fun hm=>by
  obtain⟨_,_,h2⟩:=fw.He.mp hm;have:=h.wf.Nf.le 0 (!0);omega
 have e:mo s m=((ay s.nodes.length).map Nat.succ).filter fun v=>oi (free s m) v == v && oi (oV s) v != v:=by
  unfold mo at h0 ⊢;rw[yX]at h0 ⊢;rw[fg]at h0 ⊢;split
  ·next hp=>rw[if_pos hp]at h0;exact absurd (aQ ..) h0
  ·rfl
 rw[e];refine bq (kK _ _) ?_;rw[aa,dy];exact h.nodes
def Oj(h:o5 s m):Bd 241 ((jk s m:Nat):Int):=by
 have:=SS (ws:=(links s m).map fun l=>l.2.2) (fun x hx=>by
  obtain⟨l,hl,rfl⟩:=aZ.mp hx;exact(J6 h).wt l hl)
 refine this.mono ?_;rw[aa];have:=Ll h;omega
def Rq(h:o5 s m):u7 (lU s m) (mo s m).length 400:=by
 refine⟨fw.we,fun r hr x hx=>?_⟩;unfold lU at hr;obtain⟨c,hc,rfl⟩:=aZ.mp hr;unfold uZ at hx;have hl:=Ll h;have hk:=J6 h;have BY:=Oj h;rcases f7.mp hx with hx | hx
 ·obtain⟨o,ho,rfl⟩:=aZ.mp hx;have:=Q4 ((links s m).map fun l=>fD l.1 c*fD l.1 o*((jk s m/l.2.2:Nat):Int)) 243 (fun y hy=>by
   obtain⟨l,hl,rfl⟩:=aZ.mp hy;exact(((oB _ _).mul (oB _ _)).mul (BY.of_le (i:=((jk s m/l.2.2:Nat):Int)) (by rw[jg,jg];exact uk _ _))).mono (!0))
  rw[aa]at this;exact this.mono (!0)
 ·have e:x= -DP c (links s m)*(jk s m:Int):=dQ.mp hx;rw[e];exact((VA hk c).neg.mul BY).mono (!0)
theorem Gc:∀(u:bL) (f:xi) (g:Nat),((u.map fun(i:Nat)=>(i:Int)).zip (f.map fr)).lookup (g:Int)=((u.zip f).lookup g).map fr
 | [],_,_=>by simp
 | _::_,[],_=>by simp
 | a::u,b::f,g=>by
  simp only[cM,vI,bP];by_cases e:g=a
  ·subst e;simp
  ·have e1:(g == a)=false:=beq_eq_false_iff_ne.mpr e;have e2:((g:Int) == (a:Int))=false:=beq_eq_false_iff_ne.mpr (!0);rw[e1,e2];exact Gc u f g
theorem lookup_mem{α:Type}{k:Nat}{v:α}:∀{l:List (Nat×α)},l.lookup k=some v->(k,v)∈l
 | [],h=>by simp at h
 | (j,x)::r,h=>by
  rw[bP]at h;by_cases e:k=j
  ·subst e;rw[beq_self_eq_true]at h;cases h;exact aQ ..
  ·rw[beq_eq_false_iff_ne.mpr e]at h;exact az _ (lookup_mem h)
def Rr(W:WF s m):nums s m=(free s m).map fun g=>(((mo s m).zip (iy (lU s m))).lookup g).getD (0,1):=by
 unfold nums;rw[<-(fw.nO W).2];unfold zW rM;simp only[Oi W,<-fw.any_join];rfl
def VC{rows:gP}{n b:Nat}(h:u7 rows n b)(hb:1<=b)(hp:∀k,k<=n->0<(dm rows k).2){k:Nat}(hk:k<=n):Bd (sz b k) (dm rows k).2:=by
 cases k with
 | zero=>show(1:Int).natAbs<2^b;exact CV (!0)
 | succ k=>exact((DO h hp (k+1) hk).ent (!0) (!0)).2
def XN(h:o5 s m):∀x∈nums s m,iB 110000 x:=by
 intro x hx;rw[Rr h.wf]at hx;obtain⟨g,hg,rfl⟩:=aZ.mp hx
 cases e:((mo s m).zip (iy (lU s m))).lookup g with
 | none=>exact si _ ck
 | some y=>
  have hy:y∈iy (lU s m):=by
   have:=lookup_mem e;exact(cn this).2
  have hR:=Rq h;have hp:∀k,k<=(mo s m).length->0<(dm (lU s m) k).2:=fun k hk=>fw.KQ h.wf hk;have ko:(lU s m).length=(mo s m).length:=hR.sh.len;unfold iy at hy;rw[ko]at hy;obtain⟨row,Sd,rfl⟩:=aZ.mp hy;have hN:=DO hR hp _ (ao _);have hl:(mo s m).length<row.length:=by rw[hN.sh.cols row Sd];omega
  have hz:sz 400 (mo s m).length<=110000:=bq (Z9 (Rp h)) ck;show iB 110000 (cZ _ _);refine Fb ((hN.bd row Sd _ (fw.getD_mem hl)).mono hz) ((VC hR ck hp (ao _)).mono hz) (hp _ (ao _))
end
def a2m(n:Nat):D0 0 n=(ay n).map nI:=by
 unfold D0 nI;simp only[Ep]
def XO(l:bL):nD l= .lst ((l.map fun(i:Nat)=>(i:Int)).map D.int):=by unfold nD;rw[bc];rfl
def RNN:bM->Out->Prop:=fun args out=>∃(s:cg) (m:aJ),args=[nI (s.nodes.length+1),Hn (EN s),N4 m]/\o5 s m/\out= .ok (.lst ((nums s m).map fr))
def a43(B:Bs P K mg base Z):FG P w K mg base mx "node_numbers" 45 RNN:=by
 refine lW (N:=jx) B.IQ cx ?_;rintro f dw A outer st H E hr args out ⟨s,m,rfl,hS,rfl⟩;have W:=hS.wf;have hn8:=hS.nodes;have VD:=hS.streams;have hEl:(EN s).length<=12:=by rw[aa];exact VD
 have WD:=VB W;have hal:=XM s;have hu8:=Rp hS;have hL:=J6 hS;obtain⟨aN,Ke,Mr⟩:=B.nothing;refine⟨.ret (.lst ((nums s m).map fr)),?_,rfl⟩;refine ak (bW (i:=3) (d:=nD (free s m)) cx.nd (c7 (a0L B) hr.m (ab (a8 0 rfl) (ab (d:=Hn ((((EN s).zip m).filter fun y=>y.2.isNone).map (·.1))) (Ev.eq
  (Iv (τ:=.many [12,13]) (own:=[("pair",12),("known",13)]) (l:=(EN s).zip m) (g:=fun y=>D.tup [pD y.1,kD y.2]) (h:=fun y=>if y.2.isNone=true then some (pD y.1)else none) rfl cx.nd (Es.eq (Ir B.zip (a8 1 rfl) (a8 2 rfl)) (DN ..)) (iI (N:=jx) (sc:=aj jv) (by decide+kernel)) (fun s H C cl fp=>pQ rfl cx.nd) (fun i h=>h) (yz (!0)) (fun y hy=>⟨_,rfl,fun s H C cl fp=>?_⟩)) ?_) ar))
  ⟨s.nodes.length+1,_,rfl,by omega,?_,?_,by rw[Oi W]⟩)) ?_
 ·obtain⟨p,o⟩:=y
  cases o with
  | none=>exact⟨Ba (Et.eq (lD (a8 13 rfl)) rfl),a8 12 rfl⟩
  | some k=>exact Ba (Et.eq (lD (a8 13 rfl)) rfl)
 ·unfold Hn;rw[fw.jj,vO];congr 1;refine congrArg (fun g=>JT g ((EN s).zip m)) (funext fun y=>?_)
  cases y.2<;>rfl
 ·rw[aa];exact bq (kK _ _) (yz (!0))
 ·intro p hp;obtain⟨y,hy,rfl⟩:=aZ.mp hp;exact yA W (cn (dR.mp hy).1).1
 refine ak (bW (i:=4) (d:=nD (oV s)) cx.nd (c7 (a0L B) hr.m (ab (a8 0 rfl) (ab (a8 1 rfl) ar)) ⟨s.nodes.length+1,EN s,rfl,by omega,by omega,fun p hp=>yA W hp,by rw[fw.any_join]⟩)) ?_;refine ak (bW (i:=5) (d:=Mq (links s m)) cx.nd (c7 (a2l B) hr.m (ab (d:=Hn ((EN s).map fun(e:Nat×Nat)=>((free s m).getD e.1 0,(free s m).getD e.2 0))) (Ev.eq
  (vk (τ:=.many [14,15]) (own:=[("first",14),("second",15)]) (l:=EN s) (g:=pD) (h:=fun e=>pD ((free s m).getD e.1 0,(free s m).getD e.2 0)) rfl cx.nd (kI (a8 1 rfl)) (iI (N:=jx) (sc:=aj jv) (by decide+kernel)) (fun s H C cl fp=>pQ rfl cx.nd) (fun i h=>h) (!0) (fun e he=>⟨_,rfl,fun s' H C cl fp=>?_⟩)) (congrArg D.lst (bc (g:=pD) (f:=fun(e:Nat×Nat)=>((free s m).getD e.1 0,(free s m).getD e.2 0)) (l:=EN s)).symm)) (ab (a8 2 rfl) ar)) ⟨_,m,rfl,by rw[aa];omega,by rw[a0M];rfl⟩)) ?_
 ·have hb:=yA W he;exact nQ (ab (eM (a8 3 rfl) (a8 14 rfl) (!0) (g9 (getD_some (d:=0) (!0)))) (ab (eM (a8 3 rfl) (a8 15 rfl) (!0) (g9 (getD_some (d:=0) (!0)))) ar))
 refine ak (bW (i:=6) (d:=nD (mo s m)) cx.nd (Ev.eq
  (Iv (τ:=.one 10) (own:=[("node",10)]) (l:=ay (s.nodes.length+1)) (g:=nI) (h:=fun v=>if(oi (free s m) v == v && oi (oV s) v != v)=true then some (nI v)else none) rfl cx.nd (Es.eq (uU (j:=((s.nodes.length+1:Nat):Int)) B.range (a8 0 rfl) (!0) (!0)) (by rw[bH];exact a2m _)) (iI (N:=jx) (sc:=aj jv) (by decide+kernel)) (fun s H C cl fp=>jY cx.nd) (fun i h=>h) (by simp;omega) (fun v hv=>⟨_,rfl,fun s' H C cl fp=>?_⟩)) ?_)) ?_
 ·have hv':v<s.nodes.length+1:=by simpa using hv
  refine Mf (Et.eq (yg (Dv (eM (a8 3 rfl) (a8 10 rfl) (!0) (g9 (getD_some (d:=0) (!0)))) (a8 10 rfl)) (Dw (eM (a8 4 rfl) (a8 10 rfl) (!0) (g9 (getD_some (d:=0) (!0)))) (a8 10 rfl))) ?_) (fun _=>a8 10 rfl);show(decide (((oi (free s m) v:Nat):Int)=(v:Int)) && !decide (((oi (oV s) v:Nat):Int)=(v:Int)))=_;have e1:∀a b:Nat,decide ((a:Int)=(b:Int))=(a == b):=fun a b=>by
   by_cases h:a=b
   ·subst h;simp
   ·rw[beq_eq_false_iff_ne.mpr h];exact decide_eq_false (!0)
  rw[e1,e1];rfl
 ·unfold nD mo;rw[fw.jj]
 refine ak (bW (i:=7) (d:=nI (jk s m)) cx.nd (c7 (a40 B) hr.m (ab (d:=nD ((links s m).map fun(l:rK)=>l.2.2)) (Ev.eq
  (vk (τ:=.many [12,16,17]) (own:=[("pair",12),("value",16),("weight",17)]) (l:=links s m) (g:=lkD) (h:=fun l=>nI l.2.2) rfl cx.nd (kI (a8 5 rfl)) (iI (N:=jx) (sc:=aj jv) (by decide+kernel)) (fun s H C cl fp=>vm rfl cx.nd) (fun i h=>h) (by have:=hL.len;omega) (fun l hl=>⟨_,rfl,fun s' H C cl fp=>a8 17 rfl⟩)) (congrArg D.lst (bc (g:=nI) (f:=fun(l:rK)=>l.2.2) (l:=links s m)).symm)) ar)
  ⟨_,rfl,by rw[aa];exact hL.len,fun x hx=>by obtain⟨l,hl,rfl⟩:=aZ.mp hx;exact hL.wt l hl,rfl⟩)) ?_
 refine ak (bW (i:=8) (d:=.lst ((iy (lU s m)).map fr)) cx.nd (c7 (a2k B) hr.m (ab (d:=rD (lU s m)) (Ev.eq
  (vk (τ:=.one 11) (own:=[("group",11)]) (l:=mo s m) (g:=nI) (h:=fun c=>iD (uZ (mo s m) (links s m) (jk s m) c)) rfl cx.nd (kI (a8 6 rfl)) (iI (N:=jx) (sc:=aj jv) (by decide+kernel)) (fun s H C cl fp=>jY cx.nd) (fun i h=>h) (!0) (fun c hc=>⟨_,rfl,fun s' H C cl fp=>
   c7 (a42 B) hr.m (ab (a8 11 rfl) (ab (a8 6 rfl) (ab (a8 5 rfl) (ab (a8 7 rfl) ar)))) ⟨c,_,_,_,241,rfl,hL,by omega,Oj hS,by decide,rfl⟩⟩)) (congrArg D.lst (bc (g:=iD) (f:=uZ (mo s m) (links s m) (jk s m)) (l:=mo s m)).symm)) ar)
  ⟨lU s m,(mo s m).length,400,rfl,Rq hS,hu8,by decide,fun k hk=>fw.KQ W hk,rfl⟩)) ?_
 refine ak (bW (i:=9) (d:=.dct (((mo s m).map fun(i:Nat)=>(i:Int)).zip ((iy (lU s m)).map fr))) cx.nd (PN rfl B.dict B.zip (Ev.eq (a8 6 rfl) (XO _)) (a8 8 rfl) (En _ (fun a b h e=>h (!0)) fw.rJ))) ?_
 refine aK (cq (Ev.eq (vk (τ:=.one 11) (own:=[("group",11)]) (l:=free s m) (g:=nI) (h:=fun g=>((((mo s m).map fun(i:Nat)=>(i:Int)).zip ((iy (lU s m)).map fr)).lookup (g:Int)).getD (fr (0,1))) rfl cx.nd (kI (a8 3 rfl)) (iI (N:=jx) (sc:=aj jv) (by decide+kernel)) (fun s H C cl fp=>jY cx.nd) (fun i h=>h) (!0) (fun g hg=>⟨_,rfl,fun s' H C cl fp=>
   Vj hr (a8 9 rfl) (a8 11 rfl) (pF (v:=.ref aN) Ke rfl Mr) ⟨rfl,rfl,rfl,rfl⟩⟩)) ?_))
 rw[Rr W,bc];refine congrArg D.lst (jU fun g hg=>?_);rw[Gc];show _=fr ((((mo s m).zip (iy (lU s m))).lookup g).getD (0,1))
 cases((mo s m).zip (iy (lU s m))).lookup g<;>rfl
open fw (cZ fK j6 js pOver jl i8 fD rK WF bB free oV eV)
def bF(s:cg)(m:aJ):A8:=[("size",nI (s.nodes.length+1)),("ends",Hn (EN s)),("measured",N4 m),("numbers",.lst ((nums s m).map fr))]
def bD(Z:Ad)(s:cg)(m:aJ):D:=.ins Z.dq (bF s m)
def a44(K:a9)(C:aI):Sp:=fun vs H Q _=>∃(p dx:aI) (G:Hp) (s:cg) (m:aJ) (us:cV),vs= .ref p::us/\H p=some (.ins C dx [])/\bN G H/\G p=none/\bV K G us [nI (s.nodes.length+1),Hn (EN s),N4 m]/\o5 s m/\
 ∀G' H' fs,bN G G'->bN G' H'->G' p=none->(∀b ob,H b=some ob->G b=none->G' b=none)->(∀b ob,H b=some ob->b≠p->H' b=some ob)->H' p=some (.ins C dx fs)->P5 K G' fs (bF s m)->Q .fA H'
theorem Am(f:cY)(v:V):∀fs:nz,fs.lookup f=none->pO f v fs=fs++[(f,v)]
 | [],_=>rfl
 | (g,u)::r,h=>by
  rw[bP]at h;by_cases e:f=g
  ·subst e;rw[beq_self_eq_true]at h;cases h
  ·rw[beq_eq_false_iff_ne.mpr e]at h;show(if g=f then _ else _)=_;rw[if_neg (g0 e),Am f v r h];rfl
def f3(v1 v2 v3:V):nz:=[("size",v1),("ends",v2),("measured",v3)]
def a45(B:Bs P K mg base Z){fd:iL}(F:Hi K "__init__" "Balance.__init__" vp f fd):mq P w K mg base mx 47 f fd ["self","size","ends","measured"] (a44 K Z.dq):=by
 refine F.ok GG (fun vs H Q E h=>?_) (fun dw A outer s H vs Q E hr h=>?_)
 ·obtain⟨p,dx,G,s,m,us,rfl,_,_,_,r,_⟩:=h;rw[ah,r.length];rfl
 ·obtain⟨p,dx,G,sh,m,us,rfl,hp,sm,Zc,r,hS,q⟩:=h
  cases r with
  | cons d1 r=>
   rename_i v1 us
   cases r with
   | cons d2 r=>
    rename_i v2 us
    cases r with
    | cons d3 r=>
     rename_i v3 us;cases r;refine⟨_,gJ (ve (pv 0) (pv 1) rfl) (gJ (ve (pv 0) (pv 2) rfl) (gJ (ve (pv 0) (pv 3) rfl) (lP (ve (pv 0)
      (c7 (ρ:=[.no,.dat (nI (sh.nodes.length+1)),.dat (Hn (EN sh)),.dat (N4 m)]) (a43 B) hr.m (ab (a8 1 rfl) (ab (a8 2 rfl) (ab (a8 3 rfl) ar))) ⟨sh,m,rfl,hS,rfl⟩) rfl)))),?_⟩
     refine⟨_,rfl,_,rfl,p,Z.dq,dx,_,rfl,hp,B.zN,B.GN _ ck,(by show 0<1000;decide),?_⟩;refine⟨_,rfl,_,rfl,p,Z.dq,dx,_,rfl,aU,B.zN,B.GN _ ck,(by show 1<1000;decide),?_⟩;refine⟨_,rfl,_,rfl,p,Z.dq,dx,_,rfl,aU,B.zN,B.GN _ ck,(by show 2<1000;decide),?_⟩;rw[Hf,Hf];have e2:pO "measured" v3 (pO "ends" v2 (pO "size" v1 []))=(f3 v1 v2 v3):=by
      rw[Am "size" v1 [] rfl,Am "ends" v2 _ (by rfl),Am "measured" v3 _ (by rfl)];rfl
     rw[e2];generalize hH1:upd H p (.ins Z.dq dx (f3 v1 v2 v3))=H1;have k1:∀b ob,H b=some ob->b≠p->H1 b=some ob:=fun b ob e hb=>by rw[<-hH1,aL hb];exact e
     have Qy:H1 p=some (.ins Z.dq dx (f3 v1 v2 v3)):=by rw[<-hH1];exact aU
     have sm1:bN G H1:=fun b ob e=>k1 b ob (sm _ _ e) (bo e Zc);refine⟨G,H1,G,⟨rfl,Ext.refl sm1,fun i sl hi=>?_,fun i j l l' hi hj=>?_⟩,fun G' H' v e d=>?_⟩
     ·match i,hi with
      | 0,hi=>cases hi;trivial
      | 1,hi=>cases hi;exact⟨_,rfl,d1⟩
      | 2,hi=>cases hi;exact⟨_,rfl,d2⟩
      | 3,hi=>cases hi;exact⟨_,rfl,d3⟩
      | i+4,hi=>simp at hi
     ·match i,hi with
      | 0,hi=>cases hi
      | 1,hi=>cases hi
      | 2,hi=>cases hi
      | 3,hi=>cases hi
      | i+4,hi=>simp at hi
     ·refine⟨_,rfl,p,Z.dq,dx,_,rfl,e.h _ _ Qy,B.zN,B.GN _ ck,(by show 3<1000;decide),?_⟩;have hp2:G' p=none:=e.o _ _ Qy Zc;refine q G' _ _ e.g (fun b ob eb=>by rw[aL (bo eb hp2)];exact e.s _ _ eb) hp2 (fun b ob eb hb=>?_) (fun b ob eb hb=>by rw[aL hb];exact e.h _ _ (k1 _ _ eb hb)) aU ?_
      ·by_cases h:b=p
       ·subst h;exact hp2
       ·exact e.o b ob (k1 _ _ eb h) hb
      ·rw[Am "numbers" v _ (by rfl)];exact .cons (d1.mono e.g) (.cons (d2.mono e.g) (.cons (d3.mono e.g) (.cons d .nil)))
def Ol{X:Cx}{ρ:br}{es:jT}{s:cg}{m:aJ}{p pos:mH}(B:Bs X.prog X.K X.mg X.base Z)(hr:fZ 48 X.A)(hS:o5 s m)(ha:Ea X ρ (a::es) [nI (s.nodes.length+1),Hn (EN s),N4 m])(hg:Gl X "Balance":=by rfl)
  (he:SE X a es:=by rfl)(hpl:ya X pos es:=by rfl):Ev X ρ (.Call (.Name "Balance" p) (a::es) [] pos) (bD Z s m):=by
 obtain⟨f,fd,F,M⟩:=B.mkB.ex;refine eL (LZ (E:=E0) M (a45 B F) hr hg B.kcB (F.binds (ps:=["self","size","ends","measured"]) (by walk_at "b")) .nil zb ha ck he hpl) fun σ H Q ⟨GI,HI,G,S,q⟩=>⟨GI,HI,G,S,fun G1 H1 vs e1 d1 x dx nx ndx ne=>?_⟩;have n1:bN H1 (upd (upd H1 dx (.own x)) x (.ins Z.dq dx [])):=fun b o e=>by rw[aL (bo e nx),aL (bo e ndx)];exact e
 refine⟨x,dx,G1,s,m,vs,by rw[dC],aU,e1.s.trans n1,e1.s.free nx,d1,hS,fun G' H' fs s1 s2 hGx o1 kp hx df=>⟨rfl,?_⟩⟩;have hn:bN G' (upd G' x (.ins Z.dq dx fs)):=gK hGx;refine q (upd G' x (.ins Z.dq dx fs)) H' _ (e1.trans ⟨s1.trans hn,fun b o e=>kp b o (n1 _ _ e) (bo e nx),fun b o e=>?_,fun b ob e h=>?_⟩) (.ins aU (df.mono hn))
 ·by_cases hb:b=x
  ·subst hb;rw[aU]at e;cases e;exact hx
  ·rw[aL hb]at e;exact s2 _ _ e
 ·rw[aL (bo e nx)];exact o1 b ob (n1 _ _ e) h
open fw (cZ fK j6 js pOver jl i8 fD rK WF bB free oV eV v8 h9 gI iH qb lV j7 cu)
def uv{K:a9}{mg:MG}{x fO:cY}{st:di}{N ps:bS}{k:Nat}{R:bM->Out->Prop}(T:DJ K C x fO st)(c:N2 K C)(S:ba N ps (aj st))
  (hb:∀(f:aI) (dw:aH) (A:dD) (outer:iC) (s:ai) (H:Hp) (E:XK),fZ k (A.deeper (jQ fO (aj st) s.heap.objs.size f dw))->∀args out,R args out->
   ∃oc,wM (dX P w K mg base N fO (aj st) f dw A outer s H E) E0 (fN N args) (aX st) oc/\Fin oc out)(bi:∀(kV doc pm:aH) (an:rj) (dw ct:aH) (us:fk),us.length=ps.length->xE (fF x fO (nA st) (aX st) (aj st) .none kV doc pm an dw ct) ⟨us,[]⟩=pure (ps.zip us):=by walk_at "b")(len:∀args out,R args out->args.length=ps.length:=by walk_at "l")(pure:∀args n,R args (.exc n)->False:=by walk_at "p"):FM P w K mg base mx C x (k+1) R:=by
 obtain⟨f,fd,F,hm⟩:=T.ex;exact⟨f,fd,ps,Z6 F S len pure (hb f),hm,c,F.binds bi⟩
section
variable {s:cg}{m:aJ}{i:Nat}
def o5.Ms(h:o5 s m):m.length=s.streams.length:=h.wf.len
def o5.at(h:o5 s m)(hi:i<s.streams.length):m[i]? =some (m.getD i none):=getD_some (by rw[h.Ms];exact hi)
def o5.Q5(h:o5 s m)(hi:i<s.streams.length):(EN s)[i]? =some ((EN s).getD i (0,0)):=getD_some (by rw[aa];exact hi)
def o5.en(h:o5 s m)(hi:i<s.streams.length):((EN s).getD i (0,0)).1<s.nodes.length+1/\((EN s).getD i (0,0)).2<s.nodes.length+1:=yA h.wf (aD (h.Q5 hi))
def o5.a46(h:o5 s m):(nums s m).length=s.nodes.length+1:=by unfold nums;rw[aa];exact(fw.nO h.wf).1.len
def o5.numAt(h:o5 s m){v:Nat}(hv:v<s.nodes.length+1):(nums s m)[v]? =some ((nums s m).getD v (0,1)):=getD_some (by rw[h.a46];exact hv)
def o5.Rt(h:o5 s m){v:Nat}(hv:v<s.nodes.length+1):iB 110000 ((nums s m).getD v (0,1)):=XN h _ (aD (h.numAt hv))
def o5.Mt(h:o5 s m)(hi:i<s.streams.length):iB 220001 (v8 (nums s m) (EN s) i):=(J2 (h.Rt (h.en hi).2) (h.Rt (h.en hi).1)).mono ck
def o5.XQ(h:o5 s m)(hi:i<s.streams.length){k:Int×Nat}(e:m.getD i none=some k):Wt k.2/\Bd 30 k.1:=h.wts k.1 k.2 (by
 have:=aD (h.at hi);rw[e]at this;exact this)
def o5.Mu(h:o5 s m)(hi:i<s.streams.length){k:Int×Nat}(e:m.getD i none=some k):iB 220100 (qb (nums s m) (EN s) m i):=by
 obtain⟨h1,h2⟩:=h.XQ hi e;unfold qb;rw[e];refine(Hl (n:=30) ⟨h2,by show(1:Int).natAbs<2^30;decide,by show(0:Int)<1;decide⟩ (Hm (h.Mt hi) h1.bd (by have:=h1.1;omega))).mono ck
end
def RIM(Z:Ad):bM->Out->Prop:=fun args out=>∃(s:cg) (m:aJ) (i:Nat),args=[bD Z s m,nI i]/\o5 s m/\i<s.streams.length/\out= .ok (.bl (m.getD i none).isSome)
def XS(o:Option (Int×Nat)):(!SH (kD o))=o.isSome:=by cases o<;>rfl
def Q6(B:Bs P K mg base Z):FM P w K mg base mx Z.dq "is_measured" 41 (RIM Z):=by
 refine uv (N:=rA) B.zE B.zN yo ?_;rintro f dw A outer st H E hr args out ⟨s,m,i,rfl,hS,hi,rfl⟩;exact⟨.ret _,aK (cq (Ev.eq (Xl (eM (dk (a8 0 rfl) B.zN (B.GN _ ck) rfl) (a8 1 rfl) (!0) (g9 (hS.at hi)))) (by rw[XS]))),rfl⟩
def a2n(Z:Ad):bM->Out->Prop:=fun args out=>∃(s:cg) (m:aJ) (i:Nat),args=[bD Z s m,nI i]/\o5 s m/\i<s.streams.length/\out= .ok (fr (v8 (nums s m) (EN s) i))
def VE(B:Bs P K mg base Z):FM P w K mg base mx Z.dq "rise" 44 (a2n Z):=by
 refine uv (N:=Af) B.IS B.zN GH ?_;rintro f dw A outer st H E hr args out ⟨s,m,i,rfl,hS,hi,rfl⟩;have hb:=hS.en hi;refine⟨.ret (fr (v8 (nums s m) (EN s) i)),aK (cq (c7 (Bf B) hr (ab (d:=fr ((nums s m).getD ((EN s).getD i (0,0)).2 (0,1))) (eM (dk (a8 0 rfl) B.zN (B.GN _ ck) rfl) (gC (eM (dk (a8 0 rfl) B.zN (B.GN _ ck) rfl) (a8 1 rfl) (!0) (g9 (hS.Q5 hi))) au rfl) (!0) (g9 (hS.numAt hb.2)))
  (ab (d:=fr ((nums s m).getD ((EN s).getD i (0,0)).1 (0,1))) (eM (dk (a8 0 rfl) B.zN (B.GN _ ck) rfl) (gC (eM (dk (a8 0 rfl) B.zN (B.GN _ ck) rfl) (a8 1 rfl) (!0) (g9 (hS.Q5 hi))) au rfl) (!0) (g9 (hS.numAt hb.1))) ar)) ⟨_,_,110000,110000,rfl,hS.Rt hb.2,hS.Rt hb.1,by decide,rfl⟩)),rfl⟩
def J7(ns:xi)(E:iS)(c:Int×Int)(x:Option (Int×Nat)×Nat):Int×Int:=match x.1 with
 | none=>c
 | some k=>fK c (pOver (jl (v8 ns E x.2)) (k.2:Int))
def Q7(ns:xi)(E:iS)(m:aJ):h9 ns E m=m.zipIdx.foldl (J7 ns E) (0,1):=rfl
def wA{α:Type}{l:List α}{i:Nat}{x:α}(h:l[i]? =some x):l.zipIdx.take (i+1)=l.zipIdx.take i++[(x,i)]:=take_snoc (by rw[o8,h];simp)
def VF{s:cg}{m:aJ}(hS:o5 s m){i:Nat}(hi:i<s.streams.length){n:Nat}{c:Int×Int}(hc:iB n c):iB (n+440100) (J7 (nums s m) (EN s) c (m.getD i none,i)):=by
 unfold J7
 cases e:m.getD i none with
 | none=>exact hc.mono (!0)
 | some k=>
  obtain⟨h1,_⟩:=hS.XQ hi e;exact(Hl hc (Hm (Fc (hS.Mt hi)) h1.bd (by have:=h1.1;omega))).mono (!0)
theorem J8{s:cg}{m:aJ}(hS:o5 s m):∀i,i<=s.streams.length->iB (1+440100*i) ((m.zipIdx.take i).foldl (J7 (nums s m) (EN s)) (0,1))
 | 0,_=>si _ (!0)
 | i+1,h=>by
  rw[wA (hS.at (i:=i) (!0)),g8];exact(VF hS (!0) (J8 hS i (!0))).mono (!0)
def Om{s:cg}{m:aJ}(hS:o5 s m):iB 6000000 (h9 (nums s m) (EN s) m):=by
 have h:=J8 hS s.streams.length (ao _);have e:m.zipIdx.take s.streams.length=m.zipIdx:=fH (by rw[bj,hS.Ms];exact ao _);rw[e]at h;have:=hS.streams;exact h.mono (!0)
def RLC(Z:Ad):bM->Out->Prop:=fun args out=>∃(s:cg) (m:aJ),args=[bD Z s m]/\o5 s m/\out= .ok (fr (h9 (nums s m) (EN s) m))
def a0N(B:Bs P K mg base Z):FM P w K mg base mx Z.dq "least_change" 45 (RLC Z):=by
 refine uv (N:=qI) B.yu B.zN jM ?_;rintro f dw A outer st H E hr args out ⟨s,m,rfl,hS,rfl⟩;obtain⟨aN,Ke,Mr⟩:=B.nothing;have TN:=hS.Ms;refine⟨.ret (fr (h9 (nums s m) (EN s) m)),?_,rfl⟩;refine ak (bW (i:=1) (d:=fr (0,1)) jM.nd (pF (v:=.ref aN) Ke rfl Mr)) ?_;refine ak (kP (τ:=.many [2,3]) (items:=BW (m.map kD)) cX rfl (ye B.enumerate (dk (a8 0 rfl) B.zN (B.GN _ ck) rfl)) (pQ rfl jM.nd)
  (fun i=>[.dat (bD Z s m),.dat (fr ((m.zipIdx.take i).foldl (J7 (nums s m) (EN s)) (0,1))),.no,.no]) lq m.length (by rw[qf];simp) (fun i d hi hd=>?_) (.inl ⟨by rw[qf];simp,rfl⟩)) ?_
 ·obtain⟨y,hy,rfl⟩:=B9 hd;obtain⟨o,ho,rfl⟩:=lu hy;have his:i<s.streams.length:=!0
  have eo:m.getD i none=o:=by have:=hS.at his;rw[ho]at this;exact(be this).symm
  refine⟨_,rfl,?_⟩;rw[wA ho,g8];have hc:=J8 hS i (!0);have VD:=hS.streams;generalize (m.zipIdx.take i).foldl (J7 (nums s m) (EN s)) (0,1)=c at*;refine ia (ρ1:=[.dat (bD Z s m),.dat (fr (J7 (nums s m) (EN s) c (o,i))),.dat (nI i),.dat (kD o)]) (aK (gq (Mb (a8 3 rfl)) (fun h=>?_) (fun h=>?_))) (bw (bw (cD (cD gD))))
  ·cases o with
   | none=>cases h
   | some k=>
    obtain⟨h1,_⟩:=hS.XQ his eo;have r1:=hS.Mt his;refine aK (bW (i:=1) (d:=fr (fK c (pOver (jl (v8 (nums s m) (EN s) i)) (k.2:Int)))) jM.nd (c7 (Mo B) hr.m (ab (a8 1 rfl) (ab (c7 (Vu B) hr.m (ab (c7 (a3W B) hr.m (ab (dH (VE B) hr.m (a8 0 rfl) rfl (ab (a8 2 rfl) ar) ⟨s,m,i,rfl,hS,his,rfl⟩) ar) ⟨_,_,rfl,r1,by decide,rfl⟩) (ab (gC (a8 3 rfl) au rfl) ar)) ⟨_,_,_,_,rfl,Fc r1,h1.bd,by have:=h1.1;omega,by decide,rfl⟩) ar))
     ⟨_,_,_,_,rfl,hc,Hm (Fc r1) h1.bd (by have:=h1.1;omega),by omega,rfl⟩))
  ·cases o with
   | none=>exact iA
   | some k=>cases h
 ·exact aK (cq (Ev.eq (a8 1 rfl) (by rw[Q7,fH (by rw[bj];exact ao _)])))
def RGW(Z:Ad):bM->Out->Prop:=fun args out=>∃(s:cg) (m:aJ) (i:Nat),args=[bD Z s m,nI i]/\o5 s m/\out= .ok (nD (gI (s.nodes.length+1) (EN s) m i))
def a2o(B:Bs P K mg base Z):FM P w K mg base mx Z.dq "groups_without" 42 (RGW Z):=by
 refine uv (N:=lF) B.wW B.zN kQ ?_;rintro f dw A outer st H E hr args out ⟨s,m,i,rfl,hS,rfl⟩;have VD:=hS.streams;have hn8:=hS.nodes;refine⟨.ret (nD (gI (s.nodes.length+1) (EN s) m i)),?_,rfl⟩;refine ak (Ex.eq (SK (i:=2) (τ:=.many [3,4]) (own:=[("place",3),("pair",4)]) (l:=(EN s).zipIdx) (g:=fun x=>D.tup [.int (x.2:Int),pD x.1]) (h:=fun x=>if(x.2 != i && (m.getD x.2 none).isNone)=true then some (pD x.1)else none) rfl kQ.nd (Es.eq (ye B.enumerate (dk (a8 0 rfl) B.zN (B.GN _ ck) rfl)) (Bg ..)) (iI (N:=lF) (sc:=aj lE) (by decide+kernel)) (fun s H C cl fp=>pQ rfl kQ.nd) (fun i h=>h) (by rw[bj,aa];omega) (R4 rfl rfl rfl rfl) (fun x hx=>⟨_,rfl,fun s' H C cl fp=>?_⟩))
  (congrArg (fun z=>Oc.next (List.set _ 2 (.dat z))) (show _=Hn (((EN s).zipIdx.filter fun x=>x.2 != i && (m.getD x.2 none).isNone).map (·.1))from ?_))) ?_
 ·have hxi:x.2<s.streams.length:=by
   have:=fw.pE hx;have:=(ag.mp this).1;simpa using this
  refine Mf (Et.eq (yg (Dw (a8 3 rfl) (a8 1 rfl)) (yc (iY (dH (Q6 B) hr.m (a8 0 rfl) rfl (ab (a8 3 rfl) ar) ⟨s,m,x.2,rfl,hS,hxi,rfl⟩)))) ?_) (fun _=>a8 4 rfl);have e1:(!decide ((x.2:Int)=(i:Int)))=(x.2 != i):=by
   by_cases h:x.2=i
   ·rw[h];simp
   ·rw[bne_iff_ne.mpr h,decide_eq_false (!0)];rfl
  rw[e1]
  cases m.getD x.2 none<;>rfl
 ·unfold Hn;rw[fw.jj,vO];refine congrArg (fun g=>D.lst (JT g ((EN s).zipIdx))) (funext fun y=>?_)
  split<;>rfl
 ·refine aK (cq (c7 (a0L B) hr (ab (dk (a8 0 rfl) B.zN (B.GN _ ck) rfl) (ab (a8 2 rfl) ar)) ⟨s.nodes.length+1,_,rfl,by omega,?_,fun p hp=>?_,rfl⟩))
  ·rw[aa];refine bq (kK _ _) ?_;rw[bj,aa];omega
  ·obtain⟨y,hy,rfl⟩:=aZ.mp hp;exact yA hS.wf (aD (fw.pE (dR.mp hy).1))
def Gd(n:Nat)(E:iS)(m:aJ)(i:Nat):(gI n E m i).length=n:=by unfold gI;exact Al _ _
def a2p(Z:Ad):bM->Out->Prop:=fun args out=>∃(s:cg) (m:aJ) (i:Nat),args=[bD Z s m,nI i]/\o5 s m/\i<s.streams.length/\out= .ok (.bl (iH (s.nodes.length+1) (EN s) m i))
def Q8(B:Bs P K mg base Z):FM P w K mg base mx Z.dq "is_told_by_others" 43 (a2p Z):=by
 refine uv (N:=nF) B.uK B.zN mN ?_;rintro f dw A outer st H E hr args out ⟨s,m,i,rfl,hS,hi,rfl⟩;have hb:=hS.en hi;have hwl:=Gd (s.nodes.length+1) (EN s) m i;refine⟨.ret (.bl (iH (s.nodes.length+1) (EN s) m i)),ak (bW (i:=2) (d:=nD (gI (s.nodes.length+1) (EN s) m i)) mN.nd (dH (a2o B) hr (a8 0 rfl) rfl (ab (a8 1 rfl) ar) ⟨s,m,i,rfl,hS,rfl⟩))
  (aK (cq (Ev.eq (a2a (eM (a8 2 rfl) (gC (eM (dk (a8 0 rfl) B.zN (B.GN _ ck) rfl) (a8 1 rfl) (!0) (g9 (hS.Q5 hi))) au rfl) (!0) (g9 (getD_some (d:=0) (!0))))
   (eM (a8 2 rfl) (gC (eM (dk (a8 0 rfl) B.zN (B.GN _ ck) rfl) (a8 1 rfl) (!0) (g9 (hS.Q5 hi))) au rfl) (!0) (g9 (getD_some (d:=0) (!0))))) ?_))),rfl⟩
 unfold iH;refine congrArg D.bl ?_;rw[decide_not];congr 1;exact decide_eq_decide.mpr (!0)
def RMF(Z:Ad):bM->Out->Prop:=fun args out=>∃(s:cg) (m:aJ) (i:Nat),args=[bD Z s m,nI i]/\o5 s m/\i<s.streams.length/\(m.getD i none).isSome=true/\out= .ok (fr (qb (nums s m) (EN s) m i))
def a2q(B:Bs P K mg base Z):FM P w K mg base mx Z.dq "measured_flow" 45 (RMF Z):=by
 refine uv (N:=qj) B.xx B.zN lG ?_;rintro f dw A outer st H E hr args out ⟨s,m,i,rfl,hS,hi,hsm,rfl⟩;obtain⟨k,hk⟩:=dZ.mp hsm;obtain⟨h1,h2⟩:=hS.XQ hi hk;have r1:=hS.Mt hi;have Tz:=hS.at hi;rw[hk]at Tz;have e:qb (nums s m) (EN s) m i=fK (k.1,1) (pOver (v8 (nums s m) (EN s) i) (k.2:Int)):=by unfold qb;rw[hk]
 rw[e];exact⟨.ret _,ak (bW (i:=2) (d:=.int k.1) lG.nd (gC (eM (dk (a8 0 rfl) B.zN (B.GN _ ck) rfl) (a8 1 rfl) (!0) (g9 (g:=kD) Tz)) au rfl))
  (ak (bW (i:=3) (d:=nI k.2) lG.nd (gC (eM (dk (a8 0 rfl) B.zN (B.GN _ ck) rfl) (a8 1 rfl) (!0) (g9 (g:=kD) Tz)) au rfl))
  (aK (cq (c7 (Mo B) hr.m (ab (d:=fr (k.1,1)) (nQ (ab (a8 2 rfl) (ab au ar))) (ab (c7 (Vu B) hr.m (ab (dH (VE B) hr (a8 0 rfl) rfl (ab (a8 1 rfl) ar) ⟨s,m,i,rfl,hS,hi,rfl⟩) (ab (a8 3 rfl) ar)) ⟨_,_,_,_,rfl,r1,h1.bd,by have:=h1.1;omega,by decide,rfl⟩) ar))
   ⟨_,_,30,_,rfl,⟨h2,by show(1:Int).natAbs<2^30;decide,by show(0:Int)<1;decide⟩,Hm r1 h1.bd (by have:=h1.1;omega),by decide,rfl⟩)))),rfl⟩
def An(s:cg)(m:aJ)(i:Nat):Int×Int->(Nat×Nat)×Nat->Int×Int:=lV (nums s m) (EN s) m (gI (s.nodes.length+1) (EN s) m i) ((gI (s.nodes.length+1) (EN s) m i).getD ((EN s).getD i (0,0)).2 0)
def VG(s:cg)(m:aJ)(i:Nat):j7 (s.nodes.length+1) (nums s m) (EN s) m i=(EN s).zipIdx.foldl (An s m i) (0,1):=rfl
def VH{s:cg}{m:aJ}(hS:o5 s m){i j:Nat}(hj:j<s.streams.length){n:Nat}{c:Int×Int}(hc:iB n c)(e:Nat×Nat):iB (n+220200) (An s m i c (e,j)):=by
 unfold An lV;split
 ·next h=>
  obtain⟨k,hk⟩:=dZ.mp h.2;exact(J2 hc (DM (hS.Mu hj hk) (oB _ _))).mono (!0)
 ·exact hc.mono (!0)
theorem J9{s:cg}{m:aJ}(hS:o5 s m)(i:Nat):∀j,j<=s.streams.length->iB (1+220200*j) (((EN s).zipIdx.take j).foldl (An s m i) (0,1))
 | 0,_=>si _ (!0)
 | j+1,h=>by
  rw[wA (hS.Q5 (i:=j) (!0)),g8];exact(VH hS (!0) (J9 hS i j (!0)) _).mono (!0)
def Oo{s:cg}{m:aJ}(hS:o5 s m)(i:Nat):iB 3000000 (j7 (s.nodes.length+1) (nums s m) (EN s) m i):=by
 have h:=J9 hS i s.streams.length (ao _);have e:(EN s).zipIdx.take s.streams.length=(EN s).zipIdx:=fH (by rw[bj,aa];exact ao _);rw[e]at h;have:=hS.streams;exact h.mono (!0)
def RTF(Z:Ad):bM->Out->Prop:=fun args out=>∃(s:cg) (m:aJ) (i:Nat),args=[bD Z s m,nI i]/\o5 s m/\i<s.streams.length/\out= .ok (fr (j7 (s.nodes.length+1) (nums s m) (EN s) m i))
def a47(B:Bs P K mg base Z):FM P w K mg base mx Z.dq "told_flow" 46 (RTF Z):=by
 refine uv (N:=uu) B.Bu B.zN gu ?_;rintro f dw A outer st H E hr args out ⟨s,m,i,rfl,hS,hi,rfl⟩;obtain⟨aN,Ke,Mr⟩:=B.nothing;have hb:=hS.en hi;have VD:=hS.streams;have hwl:=Gd (s.nodes.length+1) (EN s) m i;refine⟨.ret (fr (j7 (s.nodes.length+1) (nums s m) (EN s) m i)),?_,rfl⟩;refine ak (bW (i:=2) (d:=nD (gI (s.nodes.length+1) (EN s) m i)) gu.nd (dH (a2o B) hr.m (a8 0 rfl) rfl (ab (a8 1 rfl) ar) ⟨s,m,i,rfl,hS,rfl⟩)) ?_;refine ak (bW (i:=3) (d:=nI ((gI (s.nodes.length+1) (EN s) m i).getD ((EN s).getD i (0,0)).2 0)) gu.nd (eM (a8 2 rfl) (gC (eM (dk (a8 0 rfl) B.zN (B.GN _ ck) rfl) (a8 1 rfl) (!0) (g9 (hS.Q5 hi))) au rfl) (!0) (g9 (getD_some (d:=0) (!0))))) ?_;refine ak (bW (i:=4) (d:=fr (0,1)) gu.nd (pF (v:=.ref aN) Ke rfl Mr)) ?_;refine ak (kP (τ:=.many [5,6]) (items:=BW ((EN s).map pD)) cX rfl (ye B.enumerate (dk (a8 0 rfl) B.zN (B.GN _ ck) rfl)) (pQ rfl gu.nd)
  (fun j=>[.dat (bD Z s m),.dat (nI i),.dat (nD (gI (s.nodes.length+1) (EN s) m i)),.dat (nI ((gI (s.nodes.length+1) (EN s) m i).getD ((EN s).getD i (0,0)).2 0)),.dat (fr (((EN s).zipIdx.take j).foldl (An s m i) (0,1))),.no,.no,.no]) lq s.streams.length (by rw[qf];simp) (fun j d hj hd=>?_) (.inl ⟨by rw[qf];simp,rfl⟩)) ?_
 ·obtain⟨y,hy,rfl⟩:=B9 hd;obtain⟨e,he,rfl⟩:=lu hy;have KR:=yA hS.wf (aD he);refine⟨_,rfl,?_⟩;rw[wA he,g8];have hc:=J9 hS i j (!0);generalize ((EN s).zipIdx.take j).foldl (An s m i) (0,1)=c at*;generalize hG:gI (s.nodes.length+1) (EN s) m i=G at*;generalize hB:G.getD ((EN s).getD i (0,0)).2 0=bh at*;refine ia (ρ1:=[.dat (bD Z s m),.dat (nI i),.dat (nD G),.dat (nI bh),.dat (fr (An s m i c (e,j))),.dat (nI j),.dat (pD e),.dat (.int (fD (G.getD e.1 0,G.getD e.2 0) bh))])
   (ak (bW (i:=7) (d:=.int (fD (G.getD e.1 0,G.getD e.2 0) bh)) gu.nd (c7 (Oh B) hr.m (ab (d:=pD (G.getD e.1 0,G.getD e.2 0)) (nQ (ab (eM (a8 2 rfl) (gC (a8 6 rfl) au rfl) (!0) (g9 (getD_some (d:=0) (!0)))) (ab (eM (a8 2 rfl) (gC (a8 6 rfl) au rfl) (!0) (g9 (getD_some (d:=0) (!0)))) ar))) (ab (a8 3 rfl) ar)) ⟨_,_,rfl,rfl⟩))
   (aK (gq (yg (Dw (a8 7 rfl) au) (iY (dH (Q6 B) hr.m (a8 0 rfl) rfl (ab (a8 5 rfl) ar) ⟨s,m,j,rfl,hS,hj,rfl⟩))) (fun h=>?_) (fun h=>?_)))) (bw (bw (bw (bw (bw (cD (cD (cD gD))))))))
  ·rw[c8]at h;have h1:fD (G.getD e.1 0,G.getD e.2 0) bh≠0:=by simpa using h.1
   obtain⟨k,hk⟩:=dZ.mp h.2;have et:An s m i c (e,j)=j6 c (js (qb (nums s m) (EN s) m j) (fD (G.getD e.1 0,G.getD e.2 0) bh)):=by
    unfold An lV;rw[hG,hB,if_pos ⟨h1,h.2⟩]
   rw[et];exact aK (bW (i:=4) (d:=fr (j6 c (js (qb (nums s m) (EN s) m j) (fD (G.getD e.1 0,G.getD e.2 0) bh)))) gu.nd (c7 (Bf B) hr.m (ab (a8 4 rfl) (ab (c7 (Mp B) hr.m (ab (dH (a2q B) hr.m (a8 0 rfl) rfl (ab (a8 5 rfl) ar) ⟨s,m,j,rfl,hS,hj,h.2,rfl⟩) (ab (a8 7 rfl) ar)) ⟨_,_,_,_,rfl,hS.Mu hj hk,oB _ _,by decide,rfl⟩) ar))
    ⟨_,_,_,_,rfl,hc,DM (hS.Mu hj hk) (oB _ _),by omega,rfl⟩))
  ·have et:An s m i c (e,j)=c:=by
    unfold An lV;rw[hG,hB,if_neg];rintro⟨h1,h2⟩;rw[h2,x8]at h;simp at h;exact h1 h
   rw[et];exact iA
 ·exact aK (cq (Ev.eq (a8 4 rfl) (by rw[VG,fH (by rw[bj,aa];exact ao _)])))
def ic(s:cg)(m:aJ)(i:Nat):Option (Int×Int):=if(m.getD i none).isSome=true then some (qb (nums s m) (EN s) m i)else if iH (s.nodes.length+1) (EN s) m i=true then some (j7 (s.nodes.length+1) (nums s m) (EN s) m i)else none
def oD:Option (Int×Int)->D
 | none=>.fA
 | some x=>fr x
def DQ{s:cg}{m:aJ}(hS:o5 s m){i:Nat}(hi:i<s.streams.length){x:Int×Int}(h:ic s m i=some x):iB 3000000 x:=by
 unfold ic at h;split at h
 ·next hs=>
  obtain⟨k,hk⟩:=dZ.mp hs;cases h;exact(hS.Mu hi hk).mono ck
 ·split at h
  ·cases h;exact Oo hS i
  ·cases h
def RFl(Z:Ad):bM->Out->Prop:=fun args out=>∃(s:cg) (m:aJ) (i:Nat),args=[bD Z s m,nI i]/\o5 s m/\i<s.streams.length/\out= .ok (oD (ic s m i))
def SU(B:Bs P K mg base Z):FM P w K mg base mx Z.dq "flow" 47 (RFl Z):=by
 refine uv (N:=Ag) B.IT B.zN GJ ?_;rintro f dw A outer st H E hr args out ⟨s,m,i,rfl,hS,hi,rfl⟩;refine⟨.ret (oD (ic s m i)),?_,rfl⟩
 cases h1:(m.getD i none).isSome with
 | true=>
  have e:ic s m i=some (qb (nums s m) (EN s) m i):=by unfold ic;rw[if_pos h1]
  rw[e];refine de (gq (iY (dH (Q6 B) hr.m (a8 0 rfl) rfl (ab (a8 1 rfl) ar) ⟨s,m,i,rfl,hS,hi,rfl⟩)) (fun _=>aK (cq (dH (a2q B) hr.m (a8 0 rfl) rfl (ab (a8 1 rfl) ar) ⟨s,m,i,rfl,hS,hi,h1,rfl⟩))) (fun h=>absurd (h1.symm.trans h) ck))
 | false=>
  refine ak (gq (iY (dH (Q6 B) hr.m (a8 0 rfl) rfl (ab (a8 1 rfl) ar) ⟨s,m,i,rfl,hS,hi,rfl⟩)) (fun h=>absurd (h1.symm.trans h) ck) (fun _=>iA)) ?_
  cases h2:iH (s.nodes.length+1) (EN s) m i with
  | true=>
   have e:ic s m i=some (j7 (s.nodes.length+1) (nums s m) (EN s) m i):=by unfold ic;rw[if_neg (by rw[h1];decide),if_pos h2]
   rw[e];exact de (gq (iY (dH (Q8 B) hr.m (a8 0 rfl) rfl (ab (a8 1 rfl) ar) ⟨s,m,i,rfl,hS,hi,rfl⟩)) (fun _=>aK (cq (dH (a47 B) hr.m (a8 0 rfl) rfl (ab (a8 1 rfl) ar) ⟨s,m,i,rfl,hS,hi,rfl⟩))) (fun h=>absurd (h2.symm.trans h) ck))
  | false=>
   have e:ic s m i=none:=by unfold ic;rw[if_neg (by rw[h1];decide),if_neg (by rw[h2];decide)]
   rw[e];exact ak (gq (iY (dH (Q8 B) hr.m (a8 0 rfl) rfl (ab (a8 1 rfl) ar) ⟨s,m,i,rfl,hS,hi,rfl⟩)) (fun h=>absurd (h2.symm.trans h) ck) (fun _=>iA)) (aK (cq wN))
def RCC(Z:Ad):bM->Out->Prop:=fun args out=>∃(s:cg) (m:aJ) (i:Nat),args=[bD Z s m,nI i]/\o5 s m/\i<s.streams.length/\out= .ok (.bl ((m.getD i none).isSome && iH (s.nodes.length+1) (EN s) m i))
def a0O(B:Bs P K mg base Z):FM P w K mg base mx Z.dq "can_be_checked" 44 (RCC Z):=by
 refine uv (N:=p6) B.wX B.zN vX ?_;rintro f dw A outer st H E hr args out ⟨s,m,i,rfl,hS,hi,rfl⟩;exact⟨.ret _,aK (cq (Xw (dH (Q6 B) hr.m (a8 0 rfl) rfl (ab (a8 1 rfl) ar) ⟨s,m,i,rfl,hS,hi,rfl⟩) (dH (Q8 B) hr (a8 0 rfl) rfl (ab (a8 1 rfl) ar) ⟨s,m,i,rfl,hS,hi,rfl⟩))),rfl⟩
def sfD(x:Nat×(Int×Int)):D:=.tup [nI x.1,fr x.2]
def RSF(Z:Ad):bM->Out->Prop:=fun args out=>∃(s:cg) (m:aJ) (i:Nat),args=[bD Z s m,nI i]/\o5 s m/\i<s.streams.length/\out= .ok (sfD (cu (s.nodes.length+1) (nums s m) (EN s) m i))
def a48(B:Bs P K mg base Z):FM P w K mg base mx Z.dq "sort_and_flow" 48 (RSF Z):=by
 refine uv (N:=qk) B.xy B.zN p7 ?_;rintro f dw A outer st H E hr args out ⟨s,m,i,rfl,hS,hi,rfl⟩;obtain⟨aN,Ke,Mr⟩:=B.nothing;refine⟨.ret (sfD (cu (s.nodes.length+1) (nums s m) (EN s) m i)),?_,rfl⟩;refine ak (bW (i:=2) (d:=oD (ic s m i)) p7.nd (dH (SU B) hr (a8 0 rfl) rfl (ab (a8 1 rfl) ar) ⟨s,m,i,rfl,hS,hi,rfl⟩)) ?_
 cases h1:(m.getD i none).isSome with
 | true=>
  have e:ic s m i=some (qb (nums s m) (EN s) m i):=by unfold ic;rw[if_pos h1]
  have e2:cu (s.nodes.length+1) (nums s m) (EN s) m i=(if iH (s.nodes.length+1) (EN s) m i=true then 2 else 1,qb (nums s m) (EN s) m i):=by unfold cu;rw[if_pos h1]
  rw[e,e2];refine ak (gq (lD (a8 2 rfl)) (fun h=>by cases h) (fun _=>iA)) ?_;refine ak (gq (yc (iY (dH (Q6 B) hr.m (a8 0 rfl) rfl (ab (a8 1 rfl) ar) ⟨s,m,i,rfl,hS,hi,rfl⟩))) (fun h=>by rw[h1]at h;cases h) (fun _=>iA)) ?_;refine aK (cq (nQ (ab (Dx (iY (dH (a0O B) hr.m (a8 0 rfl) rfl (ab (a8 1 rfl) ar) ⟨s,m,i,rfl,hS,hi,rfl⟩)) (fun h=>?_) (fun h=>?_)) (ab (a8 2 rfl) ar))))
  ·rw[h1,eJ]at h;rw[if_pos h];exact au
  ·rw[h1,eJ]at h;rw[if_neg (by rw[h];decide)];exact au
 | false=>
  cases h2:iH (s.nodes.length+1) (EN s) m i with
  | true=>
   have e:ic s m i=some (j7 (s.nodes.length+1) (nums s m) (EN s) m i):=by unfold ic;rw[if_neg (by rw[h1];decide),if_pos h2]
   have e2:cu (s.nodes.length+1) (nums s m) (EN s) m i=(3,j7 (s.nodes.length+1) (nums s m) (EN s) m i):=by unfold cu;rw[if_neg (by rw[h1];decide),if_pos h2]
   rw[e,e2];refine ak (gq (lD (a8 2 rfl)) (fun h=>by cases h) (fun _=>iA)) ?_;exact de (gq (yc (iY (dH (Q6 B) hr.m (a8 0 rfl) rfl (ab (a8 1 rfl) ar) ⟨s,m,i,rfl,hS,hi,rfl⟩))) (fun _=>aK (cq (nQ (ab au (ab (a8 2 rfl) ar))))) (fun h=>by rw[h1]at h;cases h))
  | false=>
   have e:ic s m i=none:=by unfold ic;rw[if_neg (by rw[h1];decide),if_neg (by rw[h2];decide)]
   have e2:cu (s.nodes.length+1) (nums s m) (EN s) m i=(0,(0,1)):=by unfold cu;rw[if_neg (by rw[h1];decide),if_neg (by rw[h2];decide)]
   rw[e,e2];exact de (gq (lD (a8 2 rfl)) (fun _=>aK (cq (nQ (ab au (ab (pF (v:=.ref aN) Ke rfl Mr) ar))))) (fun h=>by cases h))
def o5.less{s:cg}{m:aJ}(h:o5 s m)(i:Nat):o5 s (jr m i):=by
 have mem:∀{k},some k∈jr m i->some k∈m:=fun {k} hk=>by
  rcases wb hk with h | h
  ·exact h
  ·cases h
 exact⟨⟨h.wf.ends,by show(m.set i none).length=_;rw[pN];exact h.wf.len,fun v w hm=>h.wf.wt v w (mem hm)⟩,h.nodes,h.streams,fun v w hm=>h.wts v w (mem hm)⟩
def RWo(Z:Ad):bM->Out->Prop:=fun args out=>∃(s:cg) (m:aJ) (i:Nat),args=[bD Z s m,nI i]/\o5 s m/\i<s.streams.length/\out= .ok (bD Z s (jr m i))
def a2r(B:Bs P K mg base Z):FM P w K mg base mx Z.dq "without" 49 (RWo Z):=by
 refine uv (N:=wy) B.DL B.zN vz ?_;rintro f dw A outer st H E hr args out ⟨s,m,i,rfl,hS,hi,rfl⟩;refine⟨.ret (bD Z s (jr m i)),?_,rfl⟩;refine ak (Iu (i:=2) (ds:=m.map kD) vz.nd (j3 rfl) B.list (dk (a8 0 rfl) B.zN (B.GN _ ck) rfl) (.inl rfl)) ?_;refine ak (PQ (i:=2) (j:=i) rfl wN (a8 1 rfl) (by rw[aa,hS.Ms];exact hi)) ?_;refine ll (i:=2) rfl (aK (cq (Ol (s:=s) (m:=jr m i) B hr (hS.less i) (ab (dk (a8 0 rfl) B.zN (B.GN _ ck) rfl) (ab (dk (a8 0 rfl) B.zN (B.GN _ ck) rfl) (ab (Ev.eq (a8 2 rfl) ?_) ar))))));show D.lst ((m.map kD).set i (kD none))=N4 (m.set i none);unfold N4;rw[List.map_set]
def loopAt(st:di)(i:Nat):iT:=match(aX st).getD i (.Pass ⟨0,0,0,0⟩)with
 | .For _ _ b _ _=>b
 | .While _ b _ _=>b
 | _=>[]
theorem Fd:∀l:cE,(l.map V.int).all A1=true
 | []=>rfl
 | i::r=>by
  show(A1 (V.int i) && (r.map V.int).all A1)=true;rw[Fd r];rfl
theorem Ja(x:Int):∀l:cE,inV (.int x) (l.map V.int)=l.contains x
 | []=>rfl
 | i::r=>by
  show(X8 (V.int i) (V.int x) || inV (.int x) (r.map V.int))=_;rw[Ja x r,kB];congr 1;show(i == x)=(x == i);exact Bool.beq_comm
def a2s{K:a9}{x:Int}{l:cE}:RD K (rIn K false) (.int x) (iD l) (.bl (l.contains x)):=fun G H v y Q s hx hy k=>by
 cases hx
 cases hy with
 | lst hy r=>
  have e:=r.ints_of;subst e;exact⟨_,_,rfl,.inl (lC.of (s _ _ hy)),rfl,Fd l,by rw[Ja];exact k G H _ (Ext.refl s) (.bl _)⟩
def VI{K:a9}{x:Int}{l:cE}:RD K (rIn K true) (.int x) (iD l) (.bl (!l.contains x)):=fun G H v y Q s hx hy k=>by
 cases hx
 cases hy with
 | lst hy r=>
  have e:=r.ints_of;subst e;exact⟨_,_,rfl,.inl (lC.of (s _ _ hy)),rfl,Fd l,by rw[Ja];exact k G H _ (Ext.refl s) (.bl _)⟩
def VJ{ρ:br}{a b:du}{x:Int}{l:cE}(ha:Ev X ρ a (.int x))(hb:Ev X ρ b (iD l))(hm:jq .In b=false:=by with_unfolding_all rfl):Et X ρ (.Compare a [.In] [b] pos) (l.contains x):=wO Sy a2s ha hb hm
def Oq{ρ:br}{a b:du}{x:Int}{l:cE}(ha:Ev X ρ a (.int x))(hb:Ev X ρ b (iD l))(hm:jq .NotIn b=false:=by with_unfolding_all rfl):Et X ρ (.Compare a [.NotIn] [b] pos) (!l.contains x):=wO M8 VI ha hb hm
def DR(E:iS)(l:cE):bL:=(E.zipIdx.filter fun x=>l.contains (x.1.2:Int) && !l.contains (x.1.1:Int)).map (·.2)
def Mw(E:iS)(l:cE):bL:=(E.zipIdx.filter fun x=>l.contains (x.1.1:Int) && !l.contains (x.1.2:Int)).map (·.2)
def Zd(g:iS->cE->bL):bM->Out->Prop:=fun args out=>∃(E:iS) (l:cE),args=[Hn E,iD l]/\E.length<=1000/\out= .ok (nD (g E l))
def Ru(E:iS)(p:(Nat×Nat)×Nat->Bool):D.lst (E.zipIdx.filterMap fun x=>if p x=true then some (nI x.2)else none)=nD ((E.zipIdx.filter p).map (·.2)):=by
 unfold nD;rw[bc,fw.jj];rfl
def a0P(B:Bs P K mg base Z):FG P w K mg base mx "streams_into" 41 (Zd DR):=by
 refine lW (N:=vA) B.IU u1 ?_;rintro f dw A outer st H E hr args out ⟨E,l,rfl,hl,rfl⟩
 refine⟨.ret _,aK (cq (Ev.eq (Iv (τ:=.many [2,3]) (own:=[("stream",2),("pair",3)]) (l:=E.zipIdx) (g:=fun x=>D.tup [.int (x.2:Int),pD x.1]) (h:=fun x=>if(l.contains (x.1.2:Int) && !l.contains (x.1.1:Int))=true then some (nI x.2)else none) rfl u1.nd (Es.eq (ye B.enumerate (a8 0 rfl)) (Bg ..)) (iI (N:=vA) (sc:=aj vq) (by decide+kernel)) (fun s H C cl fp=>pQ rfl u1.nd) (fun i h=>h) (by rw[bj];omega) (fun x hx=>⟨_,rfl,fun s' H C cl fp=>
  Mf (yg (VJ (gC (a8 3 rfl) au rfl) (a8 1 rfl)) (Oq (gC (a8 3 rfl) au rfl) (a8 1 rfl))) (fun _=>a8 2 rfl)⟩)) (Ru E _))),rfl⟩
def a2t(B:Bs P K mg base Z):FG P w K mg base mx "streams_out_of" 41 (Zd Mw):=by
 refine lW (N:=rY) B.F4 qJ ?_;rintro f dw A outer st H E hr args out ⟨E,l,rfl,hl,rfl⟩
 refine⟨.ret _,aK (cq (Ev.eq (Iv (τ:=.many [2,3]) (own:=[("stream",2),("pair",3)]) (l:=E.zipIdx) (g:=fun x=>D.tup [.int (x.2:Int),pD x.1]) (h:=fun x=>if(l.contains (x.1.1:Int) && !l.contains (x.1.2:Int))=true then some (nI x.2)else none) rfl qJ.nd (Es.eq (ye B.enumerate (a8 0 rfl)) (Bg ..)) (iI (N:=rY) (sc:=aj rT) (by decide+kernel)) (fun s H C cl fp=>pQ rfl qJ.nd) (fun i h=>h) (by rw[bj];omega) (fun x hx=>⟨_,rfl,fun s' H C cl fp=>
  Mf (yg (VJ (gC (a8 3 rfl) au rfl) (a8 1 rfl)) (Oq (gC (a8 3 rfl) au rfl) (a8 1 rfl))) (fun _=>a8 2 rfl)⟩)) (Ru E _))),rfl⟩
theorem yB{α:Type}(p:α->Bool):∀l:List α,(∀x∈l,p x=true)\/∃(n:Nat) (x:α),l[n]? =some x/\p x=false/\∀y∈l.take n,p y=true
 | []=>.inl (!1)
 | a::l=>by
  cases h:p a with
  | false=>exact .inr ⟨0,a,rfl,h,by simp⟩
  | true=>
   rcases yB p l with h1 | ⟨n,x,h1,h2,h3⟩
   ·exact .inl (by simpa[h]using h1)
   ·exact .inr ⟨n+1,x,by simpa using h1,h2,by simpa[h]using h3⟩
def fsum(s:cg)(m:aJ)(l:bL):Int×Int:=l.foldl (fun t i=>fK t ((ic s m i).getD (0,1))) (0,1)
def mO(s:cg)(m:aJ)(l:bL):Option (Int×Int):=if(l.all fun i=>(ic s m i).isSome)=true then some (fsum s m l)else none
theorem Rv{s:cg}{m:aJ}(hS:o5 s m):∀(l:bL),(∀i∈l,i<s.streams.length)->∀(n:Nat) (t:Int×Int),iB n t->iB (n+3000001*l.length) (l.foldl (fun t i=>fK t ((ic s m i).getD (0,1))) t)
 | [],_,n,t,h=>h
 | i::l,hl,n,t,h=>by
  rw[fP];have h1:iB 3000000 ((ic s m i).getD (0,1)):=by
   cases e:ic s m i with
   | none=>exact si _ ck
   | some x=>exact DQ hS (hl i (aQ ..)) e
  exact(Rv hS l (fun j hj=>hl j (az _ hj)) _ _ (Hl h h1)).mono (by rw[ah];omega)
def RFS(Z:Ad):bM->Out->Prop:=fun args out=>∃(s:cg) (m:aJ) (l:bL),args=[bD Z s m,nD l]/\o5 s m/\(∀i∈l,i<s.streams.length)/\l.length<=12/\out= .ok (oD (mO s m l))
def a2u(B:Bs P K mg base Z):FG P w K mg base mx "flow_sum" 48 (RFS Z):=by
 refine lW (N:=Cq) B.PX nU ?_;rintro f dw A outer st H E hr args out ⟨s,m,l,rfl,hS,hl,a56,rfl⟩;obtain⟨aN,Ke,Mr⟩:=B.nothing;refine⟨.ret (oD (mO s m l)),?_,rfl⟩;refine ak (bW (i:=2) (d:=fr (0,1)) nU.nd (pF (v:=.ref aN) Ke rfl Mr)) ?_;have turn:∀i d,(∀y∈l.take (i+1),(ic s m y).isSome=true)->(l.map nI)[i]? =some d->∃ρ',(Dy.one 3).app [.dat (bD Z s m),.dat (nD l),.dat (fr (fsum s m (l.take i))),.no,.no] d=some ρ'/\wM (dX P w K mg base Cq "flow_sum" (aj yj) f dw A outer st H E) E0 ρ' (loopAt yj 1) (.next [.dat (bD Z s m),.dat (nD l),.dat (fr (fsum s m (l.take (i+1)))),.no,.no]):=fun i d JB hd=>by
  obtain⟨x,hx,rfl⟩:=lu hd;have hxl:=hl x (aD hx);obtain⟨y,hy⟩:=dZ.mp (JB x (by rw[take_snoc hx];simp));have hb:=Rv hS (l.take i) (fun j hj=>hl j (oh hj)) 1 (0,1) (si _ ck);have hbl:(l.take i).length<=12:=bq (jW _ _) (by
   have:=(ag.mp hx).1
   omega)
  have e:fsum s m (l.take (i+1))=fK (fsum s m (l.take i)) y:=by
   rw[take_snoc hx];unfold fsum;rw[g8];show fK _ ((ic s m x).getD (0,1))=_;rw[hy];rfl
  refine⟨_,rfl,ia (ak (bW (i:=4) (d:=fr y) nU.nd (Ev.eq (dH (SU B) hr (a8 0 rfl) rfl (ab (a8 3 rfl) ar) ⟨s,m,x,rfl,hS,hxl,rfl⟩) (by rw[hy];rfl)))
   (ak (gq (lD (a8 4 rfl)) (fun h=>by cases h) (fun _=>iA)) (aK (bW (i:=2) (d:=fr (fK (fsum s m (l.take i)) y)) nU.nd (c7 (Mo B) hr.m (ab (a8 2 rfl) (ab (a8 4 rfl) ar)) ⟨_,_,_,_,rfl,hb,DQ hS hxl hy,by omega,rfl⟩))))) ?_⟩
  rw[e];exact bw (bw (bw (cD (cD gD))))
 rcases yB (fun i=>(ic s m i).isSome) l with JB | ⟨n,x,hx,hfx,hn⟩
 ·have e:mO s m l=some (fsum s m l):=by unfold mO;rw[if_pos (cp.mpr JB)]
  rw[e];refine ak (kP (τ:=.one 3) (items:=l.map nI) cX rfl (kI (a8 1 rfl)) (jY nU.nd) (fun i=>[.dat (bD Z s m),.dat (nD l),.dat (fr (fsum s m (l.take i))),.no,.no]) lq l.length (!1) (fun i d hi hd=>turn i d (fun y hy=>JB y (oh hy)) hd) (.inl ⟨by simp,rfl⟩)) ?_;exact aK (cq (Ev.eq (a8 2 rfl) (by rw[gG];rfl)))
 ·have e:mO s m l=none:=by
   unfold mO;rw[if_neg];intro h;have:=cp.mp h x (aD hx);rw[hfx]at this;cases this
  rw[e];have hxl:=hl x (aD hx);have ZD:=(ag.mp hx).1;have LA:ic s m x=none:=by
   cases q:ic s m x with
   | none=>rfl
   | some y=>rw[q]at hfx;cases hfx
  exact de (kP (τ:=.one 3) (items:=l.map nI) cX rfl (kI (a8 1 rfl)) (jY nU.nd) (fun i=>[.dat (bD Z s m),.dat (nD l),.dat (fr (fsum s m (l.take i))),.no,.no]) lq n (by simp;omega) (fun i d hi hd=>turn i d (fun y hy=>hn y (by
   have:l.take (i+1)=(l.take n).take (i+1):=by rw[List.take_take];congr 1;omega
   rw[this]at hy;exact oh hy)) hd)
   (.inr ⟨nI x,_,by rw[aC,hx];rfl,rfl,ak (bW (i:=4) (d:=.fA) nU.nd (Ev.eq (dH (SU B) hr (a8 0 rfl) rfl (ab (a8 3 rfl) ar) ⟨s,m,x,rfl,hS,hxl,rfl⟩) (by rw[LA];rfl))) (de (gq (lD (a8 4 rfl)) (fun _=>aK (cq wN)) (fun h=>by cases h))),rfl⟩))
def Ge:Option (Nat×(Int×Int))->D
 | none=>.fA
 | some x=>.tup [nI x.1,fr x.2]
def Q9(s:cg)(m:aJ)(i:Nat):Int×Int:=h9 (nums s (jr m i)) (EN s) (jr m i)
def sstep(s:cg)(m:aJ)(o:Option (Nat×(Int×Int)))(i:Nat):Option (Nat×(Int×Int)):=
 if((m.getD i none).isSome && iH (s.nodes.length+1) (EN s) m i)=true then(match o with
  | none=>some (i,Q9 s m i)
  | some b=>if(Q9 s m i).1*b.2.2<b.2.1*(Q9 s m i).2 then some (i,Q9 s m i)else some b)else o
def DS(s:cg)(m:aJ):Option (Nat×(Int×Int)):=(ay s.streams.length).foldl (sstep s m) none
def VL{s:cg}{m:aJ}(hS:o5 s m){o:Option (Nat×(Int×Int))}{i:Nat}(h:∀b,o=some b->iB 6000000 b.2):∀b,sstep s m o i=some b->iB 6000000 b.2:=by
 intro b hb;have hl:iB 6000000 (Q9 s m i):=Om (hS.less i);unfold sstep at hb;split at hb
 ·cases o with
  | none=>cases hb;exact hl
  | some c=>
   simp only at hb;split at hb
   ·cases hb;exact hl
   ·cases hb;exact h _ rfl
 ·exact h b hb
theorem Ot{s:cg}{m:aJ}(hS:o5 s m):∀(l:bL) (o:Option (Nat×(Int×Int))),(∀b,o=some b->iB 6000000 b.2)->∀b,l.foldl (sstep s m) o=some b->iB 6000000 b.2
 | [],o,h=>h
 | i::l,o,h=>Ot hS l _ (VL hS h)
def a49(Z:Ad):bM->Out->Prop:=fun args out=>∃(s:cg) (m:aJ),args=[bD Z s m]/\o5 s m/\out= .ok (Ge (DS s m))
def a2v(B:Bs P K mg base Z):FG P w K mg base mx "most_suspect" 50 (a49 Z):=by
 refine lW (N:=Ah) B.IW kW ?_;rintro f dw A outer st H E hr args out ⟨s,m,rfl,hS,rfl⟩;have VD:=hS.streams;refine⟨.ret (Ge (DS s m)),?_,rfl⟩;refine ak (bW (i:=1) (d:=.fA) kW.nd wN) ?_;refine ak (kP (τ:=.one 2) (items:=(ay s.streams.length).map nI) cX rfl (Es.eq (uU (j:=(s.streams.length:Int)) B.range (Ev.eq (i9 B.len (dk (a8 0 rfl) B.zN (B.GN _ ck) rfl)) (by rw[aa,aa])) (!0) (!0)) (by rw[bH];exact a2m _)) (jY kW.nd)
  (fun k=>[.dat (bD Z s m),.dat (Ge (((ay s.streams.length).take k).foldl (sstep s m) none)),.no,.no]) lq s.streams.length (!1) (fun k d hk hd=>?_) (.inl ⟨by simp,rfl⟩)) ?_
 ·obtain⟨x,hx,rfl⟩:=lu hd;obtain rfl:k=x:=by
   rw[f6 hk]at hx;exact be hx
  refine⟨_,rfl,?_⟩;rw[take_snoc hx,g8];have hob:=Ot hS ((ay s.streams.length).take k) none (fun b h=>by cases h);generalize ((ay s.streams.length).take k).foldl (sstep s m) none=o at*;show wM _ _ _ _ (.next [.dat (bD Z s m),.dat (Ge (sstep s m o k)),.no,.no])
  cases hc:((m.getD k none).isSome && iH (s.nodes.length+1) (EN s) m k)with
  | false=>
   have e:sstep s m o k=o:=by unfold sstep;rw[if_neg (by rw[hc];decide)]
   rw[e];exact ia (aK (gq (iY (dH (a0O B) hr.m (a8 0 rfl) rfl (ab (a8 2 rfl) ar) ⟨s,m,k,rfl,hS,hk,rfl⟩)) (fun h=>absurd (hc.symm.trans h) ck) (fun _=>iA))) (bw (bw (cD (cD gD))))
  | true=>
   have hl:iB 6000000 (Q9 s m k):=Om (hS.less k);refine ia (ρ1:=[.dat (bD Z s m),.dat (Ge (sstep s m o k)),.dat (nI k),.dat (fr (Q9 s m k))]) (aK (gq (iY (dH (a0O B) hr.m (a8 0 rfl) rfl (ab (a8 2 rfl) ar) ⟨s,m,k,rfl,hS,hk,rfl⟩)) (fun _=>?_) (fun h=>absurd (hc.symm.trans h) ck))) (bw (bw (cD (cD gD))));refine ak (bW (i:=3) (d:=fr (Q9 s m k)) kW.nd (ju (a0N B) hr.m (dH (a2r B) hr (a8 0 rfl) rfl (ab (a8 2 rfl) ar) ⟨s,m,k,rfl,hS,hk,rfl⟩) rfl ⟨s,jr m k,rfl,hS.less k,rfl⟩)) ?_
   cases o with
   | none=>
    have e:sstep s m none k=some (k,Q9 s m k):=by unfold sstep;rw[if_pos hc]
    rw[e];exact aK (gq (k:=true) (V1 (lD (a8 1 rfl)) (fun h=>by cases h) (fun _=>rfl)) (fun _=>aK (bW (i:=1) (d:=Ge (some (k,Q9 s m k))) kW.nd (nQ (ab (a8 2 rfl) (ab (a8 3 rfl) ar))))) (fun h=>by cases h))
   | some b=>
    have hbk:=hob b rfl;refine aK (gq (k:=decide ((Q9 s m k).1*b.2.2<b.2.1*(Q9 s m k).2)) (V1 (lD (a8 1 rfl)) (fun _=>iY (c7 (a0K B) hr.m (ab (a8 3 rfl) (ab (d:=fr b.2) (gC (a8 1 rfl) au rfl) ar)) ⟨_,_,_,_,rfl,hl,hbk,by decide,rfl⟩)) (fun h=>by cases h)) (fun h=>?_) (fun h=>?_))
    ·have e:sstep s m (some b) k=some (k,Q9 s m k):=by unfold sstep;rw[if_pos hc];exact if_pos (of_decide_eq_true h)
     rw[e];exact aK (bW (i:=1) (d:=Ge (some (k,Q9 s m k))) kW.nd (nQ (ab (a8 2 rfl) (ab (a8 3 rfl) ar))))
    ·have e:sstep s m (some b) k=some b:=by unfold sstep;rw[if_pos hc];exact if_neg (of_decide_eq_false h)
     rw[e];exact iA
 ·exact aK (cq (Ev.eq (a8 1 rfl) (by rw[fH (!1)];rfl)))
end Pg
namespace Dl
open PySem PySem.Spec PyProof.Rows L2
abbrev kR(h:cy)(T:aI)(a b c:aH):Prop:=h.get? T=some {cls:=.type "tuple",data:=.seq #[a,b,c]}
structure Ap3(z TI TO i1 i2 i3 l1 l2 l3:aI):Prop where
 TIz:TI≠z
 TOz:TO≠z
 i1z:i1≠z
 i2z:i2≠z
 i3z:i3≠z
 TITO:TI≠TO
 TIi1:TI≠i1
 TIi2:TI≠i2
 a4a:TI≠i3
 TOi1:TO≠i1
 TOi2:TO≠i2
 XU:TO≠i3
 i12:i1≠i2
 i13:i1≠i3
 i23:i2≠i3
 l1z:l1≠z
 l1TO:l1≠TO
 l1i1:l1≠i1
 l1i2:l1≠i2
 a57:l1≠i3
 l2z:l2≠z
 l2TO:l2≠TO
 l2i1:l2≠i1
 l2i2:l2≠i2
 a58:l2≠i3
 l3z:l3≠z
 a2w:l3≠TO
 a4b:l3≠i1
 a4c:l3≠i2
 a59:l3≠i3
def neA{a b:Nat}(h:a≠b):(show aI from a)≠(show aI from b):=h
def a0Q(I l1 l2 l3:Nat)(h1:l1<I)(h2:l2<I)(h3:l3<I):Ap3 (I+5) (I+3) (I+4) I (I+1) (I+2) l1 l2 l3:=by
 constructor<;>(refine neA ?_;omega)
section
variable {prog:bp}{w:cH}{A:dD}{E:aH->ai->Prop}{s:ai}
def o6{T:aI}{a b c x:aH}{k:Nat}{Q:Unit->ai->Prop}(hT:kR s.heap T a b c)
  (h:∀h',h'.get? T=some {cls:=.type "tuple",data:=.seq ((#[a,b,c]:nc).setIfInBounds k x)}->uP T s.heap h'->Q () {s with heap:=h'}):
  bO (c9 prog w) A (updateSeq T (·.setIfInBounds k x)) Q E s:=by
 refine wpAny_updateSeq hT rfl (h _ ?_ (uP.update ..));rw[j4 _ hT rfl];simp[sF]
def SV{z TI TO i1 i2 i3 l1 l2 l3:aI}{k:Nat}{xs ys zs:nc}{x y v a b c:aH}{Q:aH->ai->Prop}(D:Ap3 z TI TO i1 i2 i3 l1 l2 l3)
  (hz:tU s.heap z TI TO .none)(ub:kR s.heap TI (.ref i1) (.ref i2) (.ref i3))(xU:kR s.heap TO a b c)
  (h1:s.heap.IsListIter i1 l1 k)(h2:s.heap.IsListIter i2 l2 k)(h3:s.heap.IsListIter i3 l3 k)(Ar:s.heap.IsList l1 xs)(BA:s.heap.IsList l2 ys)(WA:s.heap.IsList l3 zs)(hx:xs[k]? =some x)(hy:ys[k]? =some y)(hv:zs[k]? =some v)
  (hQ:∀h',tU h' z TI TO (vK s.heap.objs.size)->kR h' TO x y v->h'.IsListIter i1 l1 (k+1)->h'.IsListIter i2 l2 (k+1)->h'.IsListIter i3 l3 (k+1)->kR h' s.heap.objs.size x y v->
   (∀c o,c≠z->c≠TO->c≠i1->c≠i2->c≠i3->s.heap.get? c=some o->h'.get? c=some o)->Q (.ref s.heap.objs.size) {s with heap:=h'}):
  bO (c9 prog w) A (oI.«zip.__next__» ⟨[.ref z],[]⟩) (fun fin s'=>∃v,fin= .done (.ret v)/\Q v s') E s:=by
 show bO _ _ (JQ (.ref z) 2 >>= _) _ _ _;refine ae (fC hz rfl (x:=.bool false) rfl ?_);show bO _ _ (JQ (.ref z) 3 >>= _) _ _ _;refine ae (fC hz rfl (x:=.ref TI) rfl ?_);refine ae (jG ub rfl ?_);show bO _ _ (cG (.ref z) >>= _) _ _ _;refine ae ?_;unfold cG;refine ae (fC hz rfl (x:=.none) rfl (aG ?_));simp only[if_true];refine ae (JR ?_);refine ae (fC hz rfl (x:=.ref TO) rfl ?_);refine ae (kG hz (!1) fun ha WJ xS=>?_)
 replace WJ:tU ha z TI TO .ellipsis:=WJ
 refine ae ?_;simp only[Fz,Ha,l0,og];refine ae (ae (t7 ?_));show bO _ _ (eN (.ref i1) >>= _) _ _ _;refine ae (iM (h1.extBut xS.extBut D.i1z) (Ar.extBut xS.extBut D.l1z) hx fun hb h1b Iz=>aG ?_);have a2x:kR hb TO a b c:=Iz.extBut _ _ D.TOi1 (xS.extBut _ _ D.TOz xU);refine ae (jG a2x rfl ?_);refine ae (o6 a2x fun hc a0R BY=>?_)
 replace a0R:kR hc TO x b c:=a0R
 refine ae (AQ (aG ?_));refine ae (ae (t7 ?_));show bO _ _ (eN (.ref i2) >>= _) _ _ _;refine ae (iM (((h2.extBut xS.extBut D.i2z).extBut Iz.extBut D.i12.symm).extBut BY.extBut D.TOi2.symm)
  (((BA.extBut xS.extBut D.l2z).extBut Iz.extBut D.l2i1).extBut BY.extBut D.l2TO) hy fun hd h2d hsd=>aG ?_)
 have a2y:kR hd TO x b c:=hsd.extBut _ _ D.TOi2 a0R;refine ae (jG a2y rfl ?_);refine ae (o6 a2y fun he a0S TQ=>?_)
 replace a0S:kR he TO x y c:=a0S
 refine ae (AQ (aG ?_));refine ae (ae (t7 ?_));show bO _ _ (eN (.ref i3) >>= _) _ _ _;refine ae (iM (((((h3.extBut xS.extBut D.i3z).extBut Iz.extBut D.i13.symm).extBut BY.extBut D.XU.symm).extBut hsd.extBut D.i23.symm).extBut TQ.extBut D.XU.symm)
  (((((WA.extBut xS.extBut D.l3z).extBut Iz.extBut D.a4b).extBut BY.extBut D.a2w).extBut hsd.extBut D.a4c).extBut TQ.extBut D.a2w) hv fun hf h3f Ze=>aG ?_)
 have a2z:kR hf TO x y c:=Ze.extBut _ _ D.XU a0S;refine ae (jG a2z rfl ?_);refine ae (o6 a2z fun hg XW hsg=>?_)
 replace XW:kR hg TO x y v:=XW
 refine ae (AQ (aG (aG ?_)));refine ae (jG XW rfl ?_);refine ae (wpAny_newTuple ?_);have hsz:hg.objs.size=s.heap.objs.size:=by rw[hsg.1,Ze.1,TQ.1,hsd.1,BY.1,Iz.1,xS.1]
 have hzg:tU hg z TI TO .ellipsis:=hsg.extBut _ _ D.TOz.symm (Ze.extBut _ _ D.i3z.symm (TQ.extBut _ _ D.TOz.symm (hsd.extBut _ _ D.i2z.symm (BY.extBut _ _ D.TOz.symm (Iz.extBut _ _ D.i1z.symm WJ)))))
 have hkg:∀c o,c≠z->c≠TO->c≠i1->c≠i2->c≠i3->s.heap.get? c=some o->hg.get? c=some o:=fun c o c1 c2 c3 c4 c5 e=>
  hsg.extBut _ _ c2 (Ze.extBut _ _ c5 (TQ.extBut _ _ c2 (hsd.extBut _ _ c4 (BY.extBut _ _ c2 (Iz.extBut _ _ c3 (xS.extBut _ _ c1 e))))))
 have h1g:hg.IsListIter i1 l1 (k+1):=((((h1b.extBut BY.extBut D.TOi1.symm).extBut hsd.extBut D.i12).extBut TQ.extBut D.TOi1.symm).extBut Ze.extBut D.i13).extBut hsg.extBut D.TOi1.symm;have h2g:hg.IsListIter i2 l2 (k+1):=((h2d.extBut TQ.extBut D.TOi2.symm).extBut Ze.extBut D.i23).extBut hsg.extBut D.TOi2.symm;have h3g:hg.IsListIter i3 l3 (k+1):=h3f.extBut hsg.extBut D.XU.symm;have a2A:z<hg.objs.size:=aM hzg;show bO _ _ (oU (.ref z) (.ref hg.objs.size) >>= _) _ _ _;refine ae ?_;unfold oU;have hzh:tU (hg.push {cls:=.type "tuple",data:=.seq #[x,y,v]}) z TI TO .ellipsis:=af _ hzg;refine ae (kG hzh (!1) fun hi hzi hsi=>?_)
 replace hzi:tU hi z TI TO (vK hg.objs.size):=hzi
 refine kG hzi (!1) fun hj hzj hsj=>?_
 replace hzj:tU hj z TI TO (vK hg.objs.size):=hzj
 have up:∀c o,c≠z->hg.get? c=some o->hj.get? c=some o:=fun c o c1 e=>hsj.extBut _ _ c1 (hsi.extBut _ _ c1 (af _ e));have hTj:kR hj hg.objs.size x y v:=hsj.extBut _ _ (jo a2A) (hsi.extBut _ _ (jo a2A) (bI _ rfl));rw[hsz]at hzj hTj;refine aG ⟨_,rfl,?_⟩;show Q (.ref hg.objs.size) _;rw[hsz];exact hQ hj hzj (up _ _ D.TOz XW) (h1g.at fun o e=>up _ o D.i1z e) (h2g.at fun o e=>up _ o D.i2z e) (h3g.at fun o e=>up _ o D.i3z e) hTj fun c o c1 c2 c3 c4 c5 e=>up c o c1 (hkg c o c1 c2 c3 c4 c5 e)
def VM{z TI TO i1 i2 i3 l1 l2 l3:aI}{k:Nat}{xs:nc}{Q:PySem.Fin->ai->Prop}(hh:A.handled=none)(D:Ap3 z TI TO i1 i2 i3 l1 l2 l3)
  (hz:tU s.heap z TI TO .none)(ub:kR s.heap TI (.ref i1) (.ref i2) (.ref i3))(h1:s.heap.IsListIter i1 l1 k)(Ar:s.heap.IsList l1 xs)(hx:xs[k]? =none)
  (hE:∀h' e,(∀c o,c≠z->c≠i1->s.heap.get? c=some o->h'.get? c=some o)->(∃o,h'.get? e=some o/\o.cls= .type "StopIteration")->E (.ref e) {s with heap:=h'}):
  bO (c9 prog w) A (oI.«zip.__next__» ⟨[.ref z],[]⟩) Q E s:=by
 show bO _ _ (JQ (.ref z) 2 >>= _) _ _ _;refine ae (fC hz rfl (x:=.bool false) rfl ?_);show bO _ _ (JQ (.ref z) 3 >>= _) _ _ _;refine ae (fC hz rfl (x:=.ref TI) rfl ?_);refine ae (jG ub rfl ?_);show bO _ _ (cG (.ref z) >>= _) _ _ _;refine ae ?_;unfold cG;refine ae (fC hz rfl (x:=.none) rfl (aG ?_));simp only[if_true];refine ae (JR ?_);refine ae (fC hz rfl (x:=.ref TO) rfl ?_);refine ae (kG hz (!1) fun ha WJ xS=>?_)
 replace WJ:tU ha z TI TO .ellipsis:=WJ
 refine ae ?_;simp only[Fz,Ha,l0,og];refine ae (ae (t7 ?_));show bO _ _ (eN (.ref i1) >>= _) _ _ _;refine ae (rE hh (h1.extBut xS.extBut D.i1z) (Ar.extBut xS.extBut D.l1z) hx fun hb e Iz he=>?_);obtain⟨oe,hoe,hce⟩:=he;have hzb:tU hb z TI TO .ellipsis:=Iz _ _ D.i1z.symm WJ;have hez:e≠z:=fun x=>by subst x;rw[hzb]at hoe;cases hoe;simp at hce
 refine kG hzb (!1) fun hc _ BY=>hE hc e (fun c o c1 c3 x=>BY.extBut _ _ c1 (Iz _ _ c3 (xS.extBut _ _ c1 x))) ⟨oe,BY.extBut _ _ hez hoe,hce⟩
def Jb{z TI TO i1 i2 i3 l1 l2 l3:aI}{k:Nat}{xs ys zs:nc}{x y v a b c:aH}{Q:iF->ai->Prop}(D:Ap3 z TI TO i1 i2 i3 l1 l2 l3)
  (hz:tU s.heap z TI TO .none)(ub:kR s.heap TI (.ref i1) (.ref i2) (.ref i3))(xU:kR s.heap TO a b c)
  (h1:s.heap.IsListIter i1 l1 k)(h2:s.heap.IsListIter i2 l2 k)(h3:s.heap.IsListIter i3 l3 k)(Ar:s.heap.IsList l1 xs)(BA:s.heap.IsList l2 ys)(WA:s.heap.IsList l3 zs)(hx:xs[k]? =some x)(hy:ys[k]? =some y)(hv:zs[k]? =some v)
  (hQ:∀h',tU h' z TI TO (vK s.heap.objs.size)->kR h' TO x y v->h'.IsListIter i1 l1 (k+1)->h'.IsListIter i2 l2 (k+1)->h'.IsListIter i3 l3 (k+1)->kR h' s.heap.objs.size x y v->
   (∀c o,c≠z->c≠TO->c≠i1->c≠i2->c≠i3->s.heap.get? c=some o->h'.get? c=some o)->Q (some (.ref s.heap.objs.size)) {s with heap:=h'}):
  bO (c9 prog w) A (uf (.ref z)) Q E s:=by
 have hT:s.TypeIs (.ref z) "zip":=⟨_,hz,rfl⟩;unfold uf;exact ae (t6 (mi (name:=yV "__next__") hT jR
  (sM jR hT sN
   (SV D hz ub xU h1 h2 h3 Ar BA WA hx hy hv fun h' a1 a2 a3 a4 a5 a6 a7=>aG (hQ h' a1 a2 a3 a4 a5 a6 a7)) (r8 _))))
def Kf{z TI TO i1 i2 i3 l1 l2 l3:aI}{k:Nat}{xs:nc}{Q:iF->ai->Prop}(hh:A.handled=none)(D:Ap3 z TI TO i1 i2 i3 l1 l2 l3)
  (hz:tU s.heap z TI TO .none)(ub:kR s.heap TI (.ref i1) (.ref i2) (.ref i3))(h1:s.heap.IsListIter i1 l1 k)(Ar:s.heap.IsList l1 xs)(hx:xs[k]? =none)
  (hQ:∀h',(∀c o,c≠z->c≠i1->s.heap.get? c=some o->h'.get? c=some o)->Q none {s with heap:=h'}):bO (c9 prog w) A (uf (.ref z)) Q E s:=by
 have hT:s.TypeIs (.ref z) "zip":=⟨_,hz,rfl⟩;unfold uf;refine ae (t6 (mi (name:=yV "__next__") hT jR
  (sM jR hT sN (VM hh D hz ub h1 Ar hx fun h' e hk he=>?_) (r8 _))))
 obtain⟨o,ho,hc⟩:=he;refine ae (wpAny_isInstance (T:="StopIteration") (b:=true) ⟨o,ho,hc⟩ isSubtype_stop ?_);exact aG (hQ _ hk)
end
abbrev z3a(h:cy)(l1:aI):cy:=h.push {cls:=.type "list_iterator",data:=.fields #[.ref l1,.int 0 0]}
abbrev z3b(h:cy)(l1 l2:aI):cy:=(z3a h l1).push {cls:=.type "list_iterator",data:=.fields #[.ref l2,.int 0 0]}
abbrev z3c(h:cy)(l1 l2 l3:aI):cy:=(z3b h l1 l2).push {cls:=.type "list_iterator",data:=.fields #[.ref l3,.int 0 0]}
abbrev z3d(h:cy)(l1 l2 l3:aI):cy:=(z3c h l1 l2 l3).push {cls:=.type "tuple",data:=.seq #[.ref h.objs.size,.ref (z3a h l1).objs.size,.ref (z3b h l1 l2).objs.size]}
abbrev z3e(h:cy)(l1 l2 l3:aI):cy:=(z3d h l1 l2 l3).push {cls:=.type "tuple",data:=.seq #[.none,.none,.none]}
abbrev z3f(h:cy)(l1 l2 l3:aI):cy:=(z3e h l1 l2 l3).push {cls:=.type "zip",data:=.fields #[.none,.bool false,.bool false,.ref (z3c h l1 l2 l3).objs.size,.ref (z3d h l1 l2 l3).objs.size]}
def Jc(l1 l2 l3:aI)(xs ys zs:nc):
  Meets (oI.«zip.__new__» ⟨[.type "zip",.ref l1,.ref l2,.ref l3],[]⟩) (fun _ R s=>s.heap.IsList l1 xs/\s.heap.IsList l2 ys/\s.heap.IsList l3 zs/\
   R (.ok (.ret (.ref (z3e s.heap l1 l2 l3).objs.size))) {s with heap:=z3f s.heap l1 l2 l3}):=
 .of_wp fun prog w A R s h=>by
  obtain⟨hp,g,d,tk,os⟩:=s;obtain⟨Ar,BA,WA,h⟩:=h;have a1s:=sub_zip;have hL1:Gv (Gw ⟨hp,g,d,tk,os⟩) l1 xs:=Ar;have hL2:Gv (Gw ⟨hp.push {cls:=.type "list_iterator",data:=.fields #[.ref l1,.int 0 0]},g,d,tk,os⟩) l2 ys:=xJ BA _;have hL3:Gv (Gw ⟨(hp.push {cls:=.type "list_iterator",data:=.fields #[.ref l1,.int 0 0]}).push {cls:=.type "list_iterator",data:=.fields #[.ref l2,.int 0 0]},g,d,tk,os⟩) l3 zs:=xJ (xJ WA _) _
  wp_walk using wpAny_pyIter_list hL1,wpAny_pyIter_list hL2,wpAny_pyIter_list hL3
  exact⟨_,rfl,h⟩
def Jd(a b c:aH):checkTypeCall "zip" ⟨[a,b,c],[]⟩=pure ():=by kernel_rfl
def Kg(a b c:aH):xK "zip.__new__" ⟨[.type "zip",a,b,c],[]⟩=pure ():=by kernel_rfl
def Cv(a b c d:aH):argsOk "object.__init__" ⟨[a,b,c,d],[]⟩:=by
 unfold argsOk;rw[signature?_of (id:="object.__init__") (n:=['_', '_', 't', 'i', 'n', 'i', '_', '_']) (o:=['t', 'c', 'e', 'j', 'b', 'o']) (by kernel_rfl) F.owner_object];kernel_rfl
section
variable {prog:bp}{w:cH}{A:dD}{E:aH->ai->Prop}{s:ai}
def Qa{l1 l2 l3:aI}{xs ys zs:nc}{Q:aH->ai->Prop}(Ar:s.heap.IsList l1 xs)(BA:s.heap.IsList l2 ys)(WA:s.heap.IsList l3 zs)
  (h:∀h',tU h' (s.heap.objs.size+5) (s.heap.objs.size+3) (s.heap.objs.size+4) .none->kR h' (s.heap.objs.size+3) (.ref s.heap.objs.size) (.ref (s.heap.objs.size+1)) (.ref (s.heap.objs.size+2))->
   kR h' (s.heap.objs.size+4) .none .none .none->h'.IsListIter s.heap.objs.size l1 0->h'.IsListIter (s.heap.objs.size+1) l2 0->h'.IsListIter (s.heap.objs.size+2) l3 0->
   (∀c o,s.heap.get? c=some o->h'.get? c=some o)->Q (.ref (s.heap.objs.size+5)) {s with heap:=h'}):
  bO (c9 prog w) A (call (.type "zip") [.ref l1,.ref l2,.ref l3]) Q E s:=by
 refine callType_new F.called_zip ck (Jd _ _ _) (Kg _ _ _) (fun obj=>Cv obj _ _ _) F.entry_zip_new
  (Jc l1 l2 l3 xs ys zs) ⟨Ar,BA,WA,?_⟩
 have z1:(z3a s.heap l1).objs.size=s.heap.objs.size+1:=dh ..;have z2:(z3b s.heap l1 l2).objs.size=s.heap.objs.size+2:=by rw[dh,z1]
 have z3:(z3c s.heap l1 l2 l3).objs.size=s.heap.objs.size+3:=by rw[dh,z2]
 have z4:(z3d s.heap l1 l2 l3).objs.size=s.heap.objs.size+4:=by rw[dh,z3]
 have z5:(z3e s.heap l1 l2 l3).objs.size=s.heap.objs.size+5:=by rw[dh,z4]
 have g6:(z3f s.heap l1 l2 l3).get? (z3e s.heap l1 l2 l3).objs.size=some _:=bI _ rfl;have g5:(z3f s.heap l1 l2 l3).get? (z3d s.heap l1 l2 l3).objs.size=some _:=af _ (bI _ rfl);have g4:(z3f s.heap l1 l2 l3).get? (z3c s.heap l1 l2 l3).objs.size=some _:=af _ (af _ (bI _ rfl));have g3:(z3f s.heap l1 l2 l3).get? (z3b s.heap l1 l2).objs.size=some _:=af _ (af _ (af _ (bI _ rfl)));have g2:(z3f s.heap l1 l2 l3).get? (z3a s.heap l1).objs.size=some _:=af _ (af _ (af _ (af _ (bI _ rfl))));have g1:(z3f s.heap l1 l2 l3).get? s.heap.objs.size=some _:=af _ (af _ (af _ (af _ (af _ (bI _ rfl)))));show _/\_;rw[z3,z4,z5]at g6;rw[z1,z2,z3]at g4;rw[z4]at g5;rw[z2]at g3;rw[z1]at g2;rw[z5]
 exact⟨⟨_,g6,rfl⟩,h _ g6 g4 g5 ⟨_,g1,rfl,rfl⟩ ⟨_,g2,rfl,rfl⟩ ⟨_,g3,rfl,rfl⟩ fun c o x=>
  af _ (af _ (af _ (af _ (af _ (af _ x)))))⟩
end
def a2B(K:a9)(a b c:aI):It:=
 ⟨fun i H=>∃(xs ys zs:cV) (x y z:V),lC K H a xs/\lC K H b ys/\lC K H c zs/\xs[i]? =some x/\ys[i]? =some y/\zs[i]? =some z,
  fun i H v H'=>∃T x y z,v= .ref T/\H T=none/\H'=upd H T (.tup [x,y,z])/\(∀xs,lC K H a xs->xs[i]? =some x)/\(∀ys,lC K H b ys->ys[i]? =some y)/\∀zs,lC K H c zs->zs[i]? =some z,
  fun i H=>∃xs:cV,lC K H a xs/\xs.length<=i⟩
def SW{K:a9}{Aq:jT}{kk:Nat}{a b c z TI TO i1 i2 i3:aI}(D:Ap3 z TI TO i1 i2 i3 a b c):
  Turn P w K (.Tuple Aq kk Fq) (a2B K a b c) [z,TI,TO,i1,i2,i3] z (fun i h=>tU h z TI TO .none/\kR h TI (.ref i1) (.ref i2) (.ref i3)/\(∃x y v,kR h TO x y v)/\h.IsListIter i1 a i/\h.IsListIter i2 b i/\h.IsListIter i3 c i) where
 mem:=by simp
 obj:=fun i h st c hc=>by
  obtain⟨hz,ub,⟨x,y,v,xU⟩,⟨o1,e1,_,d1⟩,⟨o2,e2,_,d2⟩,⟨o3,e3,_,d3⟩⟩:=st;have e':c=z\/c=TI\/c=TO\/c=i1\/c=i2\/c=i3:=by simpa using hc
  rcases e' with q | q | q | q | q | q
  ·rw[q];exact⟨_,hz,fun v q=>nomatch q⟩
  ·rw[q];exact⟨_,ub,fun v q=>nomatch q⟩
  ·rw[q];exact⟨_,xU,fun v q=>nomatch q⟩
  ·rw[q];exact⟨o1,e1,fun v q=>by rw[d1]at q;cases q⟩
  ·rw[q];exact⟨o2,e2,fun v q=>by rw[d2]at q;cases q⟩
  ·rw[q];exact⟨o3,e3,fun v q=>by rw[d3]at q;cases q⟩
 keep:=fun i h h' st k=>by
  obtain⟨hz,ub,⟨x,y,v,xU⟩,h1,h2,h3⟩:=st;exact⟨k z (!1) _ hz,k TI (!1) _ ub,⟨x,y,v,k TO (!1) _ xU⟩,h1.at fun o q=>k i1 (!1) o q,h2.at fun o q=>k i2 (!1) o q,h3.at fun o q=>k i3 (!1) o q⟩
 item:=by
  intro X hP hw hK hc i pins s σ H E I hf st hg;subst hP hw hK;obtain⟨hz,ub,⟨x0,y0,z0,xU⟩,h1,h2,h3⟩:=st;obtain⟨xs,ys,zs,x,y,v,SG,UT,hqz,hx,hy,hv⟩:=hg;obtain⟨eI,rv,p,_⟩:=I.list SG;obtain⟨yG,WH,p2,_⟩:=I.list UT;obtain⟨a4d,rv3,p3,_⟩:=I.list hqz;obtain⟨u,hu,ru⟩:=rv.get hx;obtain⟨u2,hu2,ru2⟩:=WH.get hy;obtain⟨u3,hu3,ru3⟩:=rv3.get hv;have TF:z<s.heap.objs.size:=aM hz;refine Jb D hz ub xU h1 h2 h3 p.isList p2.isList p3.isList (x:=u) (y:=u2) (v:=u3) (by simpa using hu) (by simpa using hu2) (by simpa using hu3) fun h' z' TO' WI h2' h3' hT hk=>?_;refine⟨_,rfl,wa (s:={s with heap:=h'}) z' fun QA z'' sb=>?_⟩;have hT2:QA.get? s.heap.objs.size=some {cls:=.type "tuple",data:=.seq #[u,u2,u3]}:=(sb.2 _ (jo TF)).trans hT;have new:jK X.prog X.w (upd H s.heap.objs.size (.tup [x,y,v])) QA s.heap.objs.size (.tup [x,y,v]):=
   ⟨by show 3<=bC;decide,[u,u2,u3],.cons ru (.cons ru2 (.cons ru3 .nil)),⟨_,hT2,rfl,_,rfl⟩⟩
  have I1:Inv X pins σ (upd H s.heap.objs.size (.tup [x,y,v])) {s with heap:=QA}:=
   I.ER (t':=s.toks) (ch:=[z,TI,TO,i1,i2,i3]) (fun c o hb q=>(sb.2 c (fun q'=>hb (by simp[q']))).trans (hk c o (fun q'=>hb (by simp[q'])) (fun q'=>hb (by simp[q'])) (fun q'=>hb (by simp[q'])) (fun q'=>hb (by simp[q'])) (fun q'=>hb (by simp[q'])) q)) hf (ao _) new
  refine⟨.ref s.heap.objs.size,_,I1,rfl,⟨_,x,y,v,rfl,I.hok.fresh (ao _),rfl,fun l hl=>by rw[I.vd hl SG];exact hx,fun l hl=>by rw[I.vd hl UT];exact hy,fun l hl=>by rw[I.vd hl hqz];exact hv⟩,⟨z'',?_,⟨u,u2,u3,?_⟩,?_,?_,?_⟩,fun c Xh=>?_⟩
  ·exact(sb.2 _ D.TIz).trans (hk _ _ D.TIz D.TITO D.TIi1 D.TIi2 D.a4a ub)
  ·exact(sb.2 _ D.TOz).trans TO'
  ·exact WI.at fun o q=>(sb.2 _ D.i1z).trans q
  ·exact h2'.at fun o q=>(sb.2 _ D.i2z).trans q
  ·exact h3'.at fun o q=>(sb.2 _ D.i3z).trans q
  ·have Pa:c<s.heap.objs.size:=by
    have e':c=z\/c=TI\/c=TO\/c=i1\/c=i2\/c=i3:=by simpa using Xh
    rcases e' with q | q | q | q | q | q
    ·rw[q];exact TF
    ·rw[q];exact aM ub
    ·rw[q];exact aM xU
    ·rw[q];obtain⟨_,e1,_⟩:=h1;exact aM e1
    ·rw[q];obtain⟨_,e2,_⟩:=h2;exact aM e2
    ·rw[q];obtain⟨_,e3,_⟩:=h3;exact aM e3
   rw[aL (cC Pa)];exact(hf c Xh).1
 done:=by
  intro X hP hw hK hc i pins s σ H E I hf st hg;subst hP hw hK;obtain⟨hz,ub,⟨x0,y0,z0,xU⟩,h1,h2,h3⟩:=st;obtain⟨xs,SG,hend⟩:=hg;obtain⟨eI,rv,p,_⟩:=I.list SG;have l1:=rv.length
  exact Kf (I.ok.hd hc) D hz ub h1 p.isList (by simp;omega) fun h' hk=>⟨rfl,I.R5 (t':=s.toks) (ch:=[z,TI,TO,i1,i2,i3]) (fun c o hb q=>
   hk c o (fun q'=>hb (by simp[q'])) (fun q'=>hb (by simp[q'])) q) hf⟩
 self:=fun A i s Q E st h=>oJ st.1 h
def a2C(K:a9)(ta:TA):TI:=fun σ H R=>ta σ H fun vs H1=>∃a b c xs ys zs,vs=[.ref a,.ref b,.ref c]/\lC K H1 a xs/\lC K H1 b ys/\lC K H1 c zs/\R (a2B K a b c) H1
def XX{X:Cx}{e e2 e3:du}{ta:TA}{p pos Fq:mH}{Aq:jT}{kk:Nat}(hg:Gl X "zip")(hm:X.mg "zip" =none)(ha:PA X [e,e2,e3] ta)
  (hs:SE X e [e2,e3]:=by rfl)(hpl:ya X pos [e2,e3]:=by rfl):
  PI X (.Tuple Aq kk Fq) (.Call (.Name "zip" p) [e,e2,e3] [] pos) (a2C X.K ta):=by
 intro pins s σ H R I h;refine Call_ (vc I hg hm ES (dz (lh (ha pos pins s σ H _ I h) ?_) hs hpl));rintro us s1 ⟨vs,H1,I1,r1,q1⟩;obtain⟨a,b,c,xs,ys,zs,ex,SG,UT,hqz,q⟩:=q1;subst ex
 cases r1 with
 | cons r rr=>
  obtain⟨u,v,rfl,r',r''⟩:=vals2 rr;cases r;cases r';cases r'';obtain⟨eI,rv,p1,_⟩:=I1.list SG;obtain⟨yG,WH,p2,_⟩:=I1.list UT;obtain⟨a4d,rv3,p3,_⟩:=I1.list hqz;have la:a<s1.heap.objs.size:=p1.lt;have lb:b<s1.heap.objs.size:=p2.lt;have lc:c<s1.heap.objs.size:=p3.lt;refine Qa p1.isList p2.isList p3.isList fun h' hz ub xU h1 h2 h3 hk=>oJ hz ?_;have I2:Inv X pins σ H1 {s1 with heap:=h'}:=I1.kept (t':=s1.toks) hk;refine⟨s1.heap.objs.size+5,[s1.heap.objs.size+5,s1.heap.objs.size+3,s1.heap.objs.size+4,s1.heap.objs.size,s1.heap.objs.size+1,s1.heap.objs.size+2],_,_,H1,rfl,I2,SW (a0Q s1.heap.objs.size a b c la lb lc),⟨hz,ub,⟨_,_,_,xU⟩,h1,h2,h3⟩,fun c' Xh=>?_,q⟩;have e':c'=s1.heap.objs.size+5\/c'=s1.heap.objs.size+3\/c'=s1.heap.objs.size+4\/c'=s1.heap.objs.size\/c'=s1.heap.objs.size+1\/c'=s1.heap.objs.size+2:=by simpa using Xh
  have Tx:s1.heap.objs.size<=c':=by
   rcases e' with z | z | z | z | z | z
   ·rw[z];exact eP _ _
   ·rw[z];exact eP _ _
   ·rw[z];exact eP _ _
   ·rw[z];exact ao _
   ·rw[z];exact eP _ _
   ·rw[z];exact eP _ _
  exact I1.Po Tx (I1.hok.fresh Tx)
section
variable {X:Cx}{ρ:br}{a b c:du}{pos p:mH}
def Rw{α:Type}{l:List α}{g1 g2 g3:α->D}{Aq:jT}{kk:Nat}(hm:X.mg "zip" =none)(ha:Ev X ρ a (.lst (l.map g1)))(hb:Ev X ρ b (.lst (l.map g2)))(hc:Ev X ρ c (.lst (l.map g3)))(hg:Gl X "zip":=by rfl)(hs:SE X a [b,c]:=by rfl)
  (hs2:SE X b [c]:=by rfl)(hs3:SE X c []:=by rfl)(hpl:ya X pos [b,c]:=by rfl):Es X ρ (.Tuple Aq kk Fq) (.Call (.Name "zip" p) [a,b,c] [] pos) (l.map fun x=>.tup [g1 x,g2 x,g3 x]):=
 yd (XX hg hm (ab ha (ab hb (ab hc ar hs3) hs2) hs) hs hpl) fun σ H R ⟨GI,HI,G,S,q⟩=>⟨GI,HI,G,S,fun G1 H1 vs e1 d1=>by
  cases d1 with
  | cons hv r=>
   obtain⟨u,t,rfl,hu,ht⟩:=Aa r
   cases hv with
   | lst k1 r1=>
    cases hu with
    | lst k2 r2=>
     cases ht with
     | lst k3 r3=>
      rename_i l1 xs l2 ys l3 zs;refine⟨l1,l2,l3,xs,ys,zs,rfl,lC.of (e1.s _ _ k1),lC.of (e1.s _ _ k2),lC.of (e1.s _ _ k3),q G1 H1 _ e1 fun G' H' s1 s2=>?_⟩;have hq:lC X.K H' l1 xs:=lC.of (s2 _ _ (s1 _ _ k1));have Zz:lC X.K H' l2 ys:=lC.of (s2 _ _ (s1 _ _ k2));have hq3:lC X.K H' l3 zs:=lC.of (s2 _ _ (s1 _ _ k3));have n1:=r1.length;have n2:=r2.length;have n3:=r3.length;rw[aa]at n1 n2 n3;refine⟨fun i hi=>?_,⟨xs,hq,by rw[n1,aa];exact ao _⟩,fun i d x Xs hd hy=>?_⟩
      ·rw[aa]at hi;exact⟨xs,ys,zs,xs[i],ys[i],zs[i],hq,Zz,hq3,by simp,by simp,by simp⟩
      ·obtain⟨T,y1,y2,y3,e2,e3,e4,e5,e6,e7⟩:=hy;rw[aC]at hd
       cases el:l[i]? with
       | none=>rw[el]at hd;cases hd
       | some al=>
        rw[el]at hd;obtain rfl:=be hd;obtain⟨v1,f1,hv1⟩:=r1.get (i:=i) (d:=g1 al) (by rw[aC,el];rfl);obtain⟨v2,f2,hv2⟩:=r2.get (i:=i) (d:=g2 al) (by rw[aC,el];rfl);obtain⟨v3,f3,hv3⟩:=r3.get (i:=i) (d:=g3 al) (by rw[aC,el];rfl);obtain rfl:v1=y1:=by have:=e5 xs hq;rw[f1]at this;exact be this
        obtain rfl:v2=y2:=by have:=e6 ys Zz;rw[f2]at this;exact be this
        obtain rfl:v3=y3:=by have:=e7 zs hq3;rw[f3]at this;exact be this
        subst e2;have hn:bN G' (upd G' T (.tup [v1,v2,v3])):=gK (s2.free e3);exact .inr ⟨T,_,e3,e4,.tup (KW.of aU) (.cons ((hv1.mono s1).mono hn) (.cons ((hv2.mono s1).mono hn) (.cons ((hv3.mono s1).mono hn) .nil)))⟩⟩
end
end Dl
namespace Pg
open PySem PySem.Spec PyProof.Rows L2 Dl
open fw (cZ fK j6 js pOver jl fD WF bB eV mW uG rN)
variable {P:bp}{w:cH}{K:a9}{mg:cY->iF}{base:cy}{Z:Ad}
def Gf(l:xi):D:=.lst (l.map fr)
def Zf(x y:Int×Int):decide ([x.1,x.2]=[y.1,y.2])=(x == y):=by
 obtain⟨a,b⟩:=x;obtain⟨c,d⟩:=y;by_cases h:a=c/\b=d
 ·obtain⟨rfl,rfl⟩:=h;simp
 ·have e1:¬[a,b]=[c,d]:=by simpa using h
  have e2:((a,b) == (c,d))=false:=beq_eq_false_iff_ne.mpr (by simpa using h);rw[decide_eq_false e1,e2]
def Qb{X:Cx}{ρ:br}{a b:du}{x y:Int×Int}{k:Nat}(hr:fZ k X.A)(ha:Ev X ρ a (fr x))(hb:Ev X ρ b (fr y)):Ev X ρ (.Compare a [.Eq] [b] pos) (.bl (x == y)):=Ev.eq (a0t (l:=[x.1,x.2]) (m:=[y.1,y.2]) hr ha hb) (congrArg D.bl (Zf x y))
def VN{X:Cx}{ρ:br}{a b:du}{x y:Int×Int}{k:Nat}(hr:fZ k X.A)(ha:Ev X ρ a (fr x))(hb:Ev X ρ b (fr y)):Et X ρ (.Compare a [.NotEq] [b] pos) (!(x == y)):=Et.eq (a0u (l:=[x.1,x.2]) (m:=[y.1,y.2]) hr ha hb) (by rw[<-Zf])
section
variable {X:Cx}{E:XK}{ρ:br}{tg iter:du}{body:iT}{τ:Dy}{pos:mH}{α:Type}{l:List α}{g:α->D}{oc:Oc}
def My(hp:qr (c9 X.prog X.w) X.A X.env X.xe)(hc:X.calm=true)(hi:Es X ρ tg iter (l.map g))(hg:PG X tg (τ.g X.K))(I0:br)(h0:zc ρ I0)
  (ok:∀x∈l,∃ρ',τ.app I0 (g x)=some ρ'/\wM X E ρ' body (.next I0))(hs:∀x,dA iter X.env x=pure x:=by intro _;rfl):Ex X E ρ (.For tg iter body [] pos) (.next I0):=
 kP (τ:=τ) hp hc hi hg (fun _=>I0) h0 l.length (!1) (fun i d hi hd=>by
  obtain⟨x,hx,rfl⟩:=lu hd;exact ok x (aD hx)) (.inl ⟨by simp,rfl⟩) hs
def Mz(hp:qr (c9 X.prog X.w) X.A X.env X.xe)(hc:X.calm=true)(hi:Es X ρ tg iter (l.map g))(hg:PG X tg (τ.g X.K))(I0:br)(h0:zc ρ I0)(p:α->Bool)
  (ok:∀x∈l,∃ρ',τ.app I0 (g x)=some ρ'/\(p x=true->wM X E ρ' body (.next I0))/\(p x=false->wM X E ρ' body oc))(hf:l.all p=false)(he:oc.ends=true)(hs:∀x,dA iter X.env x=pure x:=by intro _;rfl):Ex X E ρ (.For tg iter body [] pos) oc:=by
 rcases yB p l with h | ⟨n,x,hx,hfx,hn⟩
 ·rw[cp.mpr h]at hf;cases hf
 ·have ZD:=(ag.mp hx).1;obtain⟨ρ',a1,a2,a3⟩:=ok x (aD hx);refine kP (τ:=τ) hp hc hi hg (fun _=>I0) h0 n (by simp;omega) (fun i d hi hd=>?_) (.inr ⟨g x,ρ',by rw[aC,hx];rfl,a1,a3 hfx,he⟩) hs;obtain⟨y,hy,rfl⟩:=lu hd;obtain⟨ρ2,b1,b2,_⟩:=ok y (aD hy);refine⟨ρ2,b1,b2 (hn y ?_)⟩;have hyt:(l.take n)[i]? =some y:=by rw[x9 hi];exact hy
  exact aD hyt
end
def Ou(node:Nat)(c:Int×Int)(x:(Nat×Nat)×(Int×Int)):Int×Int:=fK c (js x.2 (fD x.1 node))
def XY(E:iS)(fz:xi)(node:Nat):mW E fz node=((E.zip fz).foldl (Ou node) (0,1) == ((0,1):Int×Int)):=rfl
theorem Ov{l:List ((Nat×Nat)×(Int×Int))}(h:∀x∈l,iB 50 x.2)(node:Nat):∀i,i<=l.length->iB (1+60*i) ((l.take i).foldl (Ou node) (0,1))
 | 0,_=>si _ (!0)
 | i+1,hi=>by
  have hx:l[i]? =some l[i]:=by simp
  rw[take_snoc hx,g8];exact(Hl (Ov h node i (!0)) (DM (h _ (fS (!0))) (oB _ _))).mono (!0)
def RNB:bM->Out->Prop:=fun args out=>∃(node:Nat) (E:iS) (fz:xi),args=[nI node,Hn E,Gf fz]/\E.length<=1000/\(∀x∈fz,iB 50 x)/\out= .ok (.bl (mW E fz node))
def a0T(B:Bs P K mg base Z):FG P w K mg base mx "node_balances" 44 RNB:=by
 refine lW (N:=zj) B.GP oy ?_;rintro f dw A outer st H E' hr args out ⟨node,E,fz,rfl,hl,hf,rfl⟩;obtain⟨aN,Ke,Mr⟩:=B.nothing;have hz:∀x∈E.zip fz,iB 50 x.2:=fun x hx=>hf _ (cn hx).2;have TF:(E.zip fz).length<=1000:=yz hl;refine⟨.ret (.bl (mW E fz node)),?_,rfl⟩;refine ak (bW (i:=3) (d:=fr (0,1)) oy.nd (pF (v:=.ref aN) Ke rfl Mr)) ?_;refine ak (kP (τ:=.many [4,5]) (items:=(E.zip fz).map fun x=>D.tup [pD x.1,fr x.2]) cX rfl (Es.eq (Ir B.zip (a8 1 rfl) (a8 2 rfl)) (DN ..)) (pQ rfl oy.nd)
  (fun i=>[.dat (nI node),.dat (Hn E),.dat (Gf fz),.dat (fr (((E.zip fz).take i).foldl (Ou node) (0,1))),.no,.no]) lq (E.zip fz).length (by rw[aa];exact ao _) (fun i d hi hd=>?_) (.inl ⟨by rw[aa],rfl⟩)) ?_
 ·obtain⟨x,hx,rfl⟩:=lu hd;refine⟨_,rfl,?_⟩;rw[take_snoc hx,g8];have hc:=Ov hz node i (!0);have hxf:=hz x (aD hx);generalize ((E.zip fz).take i).foldl (Ou node) (0,1)=c at*;refine ia (aK (bW (i:=3) (d:=fr (Ou node c x)) oy.nd (c7 (Mo B) hr (ab (a8 3 rfl) (ab (c7 (Mp B) hr (ab (a8 5 rfl) (ab (c7 (Oh B) hr.m (ab (a8 4 rfl) (ab (a8 0 rfl) ar)) ⟨_,_,rfl,rfl⟩) ar)) ⟨_,_,_,_,rfl,hxf,oB _ _,by decide,rfl⟩) ar))
   ⟨_,_,_,_,rfl,hc,DM hxf (oB _ _),by omega,rfl⟩))) (bw (bw (bw (bw (cD (cD gD))))))
 ·exact aK (cq (Ev.eq (Qb hr (a8 3 rfl) (pF (v:=.ref aN) Ke rfl Mr)) (by rw[XY,gG])))
def RSA:bM->Out->Prop:=fun args out=>∃(o:Option (Int×Nat)) (Pj Qz:Int×Int),args=[kD o,fr Pj,fr Qz]/\iB 50 Pj/\(∀k,o=some k->Wt k.2/\Bd 30 k.1)/\out= .ok (.bl (uG o Pj Qz))
def a0U(B:Bs P K mg base Z):FG P w K mg base mx "stream_agrees" 44 RSA:=by
 refine lW (N:=zk) B.GQ sf ?_;rintro f dw A outer st H E' hr args out ⟨o,Pj,Qz,rfl,hf,hk,rfl⟩;obtain⟨aN,Ke,Mr⟩:=B.nothing;refine⟨.ret (.bl (uG o Pj Qz)),?_,rfl⟩
 cases o with
 | none=>exact de (gq (lD (a8 0 rfl)) (fun _=>aK (cq (Qb hr (a8 2 rfl) (pF (v:=.ref aN) Ke rfl Mr)))) (fun h=>by cases h))
 | some k=>
  obtain⟨h1,h2⟩:=hk k rfl;have hv:iB 30 (k.1,(1:Int)):=⟨h2,by show(1:Int).natAbs<2^30;decide,by show(0:Int)<1;decide⟩;exact ak (gq (lD (a8 0 rfl)) (fun h=>by cases h) (fun _=>iA)) (ak (bW (i:=3) (d:=.int k.1) sf.nd (gC (a8 0 rfl) au rfl)) (ak (bW (i:=4) (d:=nI k.2) sf.nd (gC (a8 0 rfl) au rfl))
   (aK (cq (Qb hr (c7 (Mp B) hr (ab (c7 (Bf B) hr (ab (a8 1 rfl) (ab (d:=fr (k.1,1)) (nQ (ab (a8 3 rfl) (ab au ar))) ar)) ⟨_,_,_,_,rfl,hf,hv,by decide,rfl⟩) (ab (a8 4 rfl) ar)) ⟨_,_,_,_,rfl,J2 hf hv,h1.bd,by decide,rfl⟩) (a8 2 rfl))))))
def Zg{α β γ:Type}(g:α->γ)(l:List α)(m:List β)(h:l.length<=m.length):(l.zip m).map (fun x=>g x.1)=l.map g:=by
 have:=congrArg (List.map g) (List.map_fst_zip h);rw[bc]at this;exact this
def VO{α β γ:Type}(g:β->γ)(l:List α)(m:List β)(h:m.length<=l.length):(l.zip m).map (fun x=>g x.2)=m.map g:=by
 have:=congrArg (List.map g) (List.map_snd_zip h);rw[bc]at this;exact this
def RIP:bM->Out->Prop:=fun args out=>∃(E:iS) (m:aJ) (fz ns:xi),args=[Hn E,N4 m,Gf fz,Gf ns]/\E.length<=1000/\m.length=E.length/\fz.length=E.length/\0<ns.length/\ns.length<=1000/\(∀e∈E,e.1<ns.length/\e.2<ns.length)/\
 (∀x∈fz,iB 50 x)/\(∀x∈ns,iB 50 x)/\(∀v w,some (v,w)∈m->Wt w/\Bd 30 v)/\out= .ok (.bl (rN E m fz ns))
def a4e(B:Bs P K mg base Z):FG P w K mg base mx "is_proof" 45 RIP:=by
 refine lW (N:=IL) B.PY tN ?_;rintro f dw A outer st H E' hr args out ⟨E,m,fz,ns,rfl,hE,hm,WD,hn0,hn1,hb,hf,Jx,hw,rfl⟩;obtain⟨aN,Ke,Mr⟩:=B.nothing;refine⟨.ret (.bl (rN E m fz ns)),?_,rfl⟩;have at0:ns[0]? =some (ns.getD 0 (0,1)):=getD_some hn0
 cases h0:(ns.getD 0 (0,1) == ((0,1):Int×Int))with
 | false=>
  have e:rN E m fz ns=false:=by unfold rN;rw[h0];rfl
  rw[e];exact de (gq (VN hr (fM (a8 3 rfl) au (Rh (i:=0) rfl at0)) (pF (v:=.ref aN) Ke rfl Mr)) (fun _=>aK (cq R7)) (fun h=>by rw[h0]at h;cases h))
 | true=>
  refine ak (gq (VN hr (fM (a8 3 rfl) au (Rh (i:=0) rfl at0)) (pF (v:=.ref aN) Ke rfl Mr)) (fun h=>by rw[h0]at h;cases h) (fun _=>iA)) ?_;have ko:(ns.map fr).length=ns.length:=by rw[aa]
  have hir:D0 1 ((ns.length:Int)-1).toNat=(ay (ns.length-1)).map fun(v:Nat)=>nI (v+1):=by
   unfold D0 nI;rw[show((ns.length:Int)-1).toNat=ns.length-1 by omega];refine jU fun v _=>?_;show D.int (1+(v:Int))=D.int ((v+1:Nat):Int);congr 1;omega
  cases h1:(ay (ns.length-1)).all (fun v=>mW E fz (v+1))with
  | false=>
   have e:rN E m fz ns=false:=by unfold rN;rw[h0,h1];rfl
   rw[e];refine de (Mz (τ:=.one 4) (l:=ay (ns.length-1)) (g:=fun(v:Nat)=>nI (v+1)) cX rfl (Es.eq (EU (i:=1) (j:=(ns.length:Int)) B.range au (Ev.eq (i9 B.len (a8 3 rfl)) (by rw[ko])) (!0)) hir) (jY tN.nd) [.dat (Hn E),.dat (N4 m),.dat (Gf fz),.dat (Gf ns),.no,.no,.no,.no] lq (fun v=>mW E fz (v+1)) (fun v hv=>⟨_,rfl,fun h=>?_,fun h=>?_⟩) h1 rfl)
   ·exact ia (aK (gq (yc (iY (c7 (a0T B) hr (ab (a8 4 rfl) (ab (a8 0 rfl) (ab (a8 2 rfl) ar))) ⟨v+1,E,fz,rfl,hE,hf,rfl⟩))) (fun q=>by rw[h]at q;cases q) (fun _=>iA))) (bw (bw (bw (bw (cD (cD (cD (cD gD))))))))
   ·exact aK (gq (yc (iY (c7 (a0T B) hr (ab (a8 4 rfl) (ab (a8 0 rfl) (ab (a8 2 rfl) ar))) ⟨v+1,E,fz,rfl,hE,hf,rfl⟩))) (fun _=>aK (cq R7)) (fun q=>by rw[h]at q;cases q))
  | true=>
   refine ak (My (τ:=.one 4) (l:=ay (ns.length-1)) (g:=fun(v:Nat)=>nI (v+1)) cX rfl (Es.eq (EU (i:=1) (j:=(ns.length:Int)) B.range au (Ev.eq (i9 B.len (a8 3 rfl)) (by rw[ko])) (!0)) hir) (jY tN.nd) [.dat (Hn E),.dat (N4 m),.dat (Gf fz),.dat (Gf ns),.no,.no,.no,.no] lq (fun v hv=>⟨_,rfl,?_⟩)) ?_
   ·have h:=cp.mp h1 v hv;exact ia (aK (gq (yc (iY (c7 (a0T B) hr (ab (a8 4 rfl) (ab (a8 0 rfl) (ab (a8 2 rfl) ar))) ⟨v+1,E,fz,rfl,hE,hf,rfl⟩))) (fun q=>by rw[h]at q;cases q) (fun _=>iA))) (bw (bw (bw (bw (cD (cD (cD (cD gD))))))))
   have e1:(E.zip (m.zip fz)).map (fun x=>pD x.1)=E.map pD:=Zg pD E (m.zip fz) (by rw[cI];omega);have e2:(E.zip (m.zip fz)).map (fun x=>kD x.2.1)=m.map kD:=(VO (fun y=>kD y.1) E (m.zip fz) (by rw[cI];omega)).trans (Zg kD m fz (!0));have e3:(E.zip (m.zip fz)).map (fun x=>fr x.2.2)=fz.map fr:=(VO (fun y=>fr y.2) E (m.zip fz) (by rw[cI];omega)).trans (VO fr m fz (!0));have facts:∀x∈E.zip (m.zip fz),(x.1.1<ns.length/\x.1.2<ns.length)/\iB 50 x.2.2/\(∀k,x.2.1=some k->Wt k.2/\Bd 30 k.1):=fun x hx=>by
    have h1:=cn hx;have h2:=cn h1.2;exact⟨hb _ h1.1,hf _ h2.2,fun k hk=>hw k.1 k.2 (by have:=h2.1;rw[hk]at this;exact this)⟩
   cases h2:(E.zip (m.zip fz)).all fun x=>uG x.2.1 x.2.2 (j6 (ns.getD x.1.2 (0,1)) (ns.getD x.1.1 (0,1)))with
   | false=>
    have e:rN E m fz ns=false:=by unfold rN;rw[h0,h1,h2];rfl
    rw[e];refine de (Mz (τ:=.many [5,6,7]) (l:=E.zip (m.zip fz)) (g:=fun x=>D.tup [pD x.1,kD x.2.1,fr x.2.2]) cX rfl (Rw B.zip (Ev.eq (a8 0 rfl) (congrArg D.lst e1.symm)) (Ev.eq (a8 1 rfl) (congrArg D.lst e2.symm)) (Ev.eq (a8 2 rfl) (congrArg D.lst e3.symm))) (vm rfl tN.nd) [.dat (Hn E),.dat (N4 m),.dat (Gf fz),.dat (Gf ns),.no,.no,.no,.no] lq (fun x=>uG x.2.1 x.2.2 (j6 (ns.getD x.1.2 (0,1)) (ns.getD x.1.1 (0,1)))) (fun x hx=>⟨_,rfl,fun h=>?_,fun h=>?_⟩) h2 rfl)
    ·obtain⟨b1,b2,b3⟩:=facts x hx;have n1:=getD_some (l:=ns) (d:=(0,1)) b1.1;have n2:=getD_some (l:=ns) (d:=(0,1)) b1.2;exact ia (aK (gq (yc (iY (c7 (a0U B) hr (ab (a8 6 rfl) (ab (a8 7 rfl) (ab (c7 (Bf B) hr.m (ab (eM (a8 3 rfl) (gC (a8 5 rfl) au rfl) (!0) (g9 n2)) (ab (eM (a8 3 rfl) (gC (a8 5 rfl) au rfl) (!0) (g9 n1)) ar)) ⟨_,_,_,_,rfl,Jx _ (aD n2),Jx _ (aD n1),by decide,rfl⟩) ar))) ⟨_,_,_,rfl,b2,b3,rfl⟩))) (fun q=>by rw[h]at q;cases q) (fun _=>iA))) (bw (bw (bw (bw (cD (cD (cD (cD gD))))))))
    ·obtain⟨b1,b2,b3⟩:=facts x hx;have n1:=getD_some (l:=ns) (d:=(0,1)) b1.1;have n2:=getD_some (l:=ns) (d:=(0,1)) b1.2;exact aK (gq (yc (iY (c7 (a0U B) hr (ab (a8 6 rfl) (ab (a8 7 rfl) (ab (c7 (Bf B) hr.m (ab (eM (a8 3 rfl) (gC (a8 5 rfl) au rfl) (!0) (g9 n2)) (ab (eM (a8 3 rfl) (gC (a8 5 rfl) au rfl) (!0) (g9 n1)) ar)) ⟨_,_,_,_,rfl,Jx _ (aD n2),Jx _ (aD n1),by decide,rfl⟩) ar))) ⟨_,_,_,rfl,b2,b3,rfl⟩))) (fun _=>aK (cq R7)) (fun q=>by rw[h]at q;cases q))
   | true=>
    have e:rN E m fz ns=true:=by unfold rN;rw[h0,h1,h2];rfl
    rw[e];refine ak (My (τ:=.many [5,6,7]) (l:=E.zip (m.zip fz)) (g:=fun x=>D.tup [pD x.1,kD x.2.1,fr x.2.2]) cX rfl (Rw B.zip (Ev.eq (a8 0 rfl) (congrArg D.lst e1.symm)) (Ev.eq (a8 1 rfl) (congrArg D.lst e2.symm)) (Ev.eq (a8 2 rfl) (congrArg D.lst e3.symm))) (vm rfl tN.nd) [.dat (Hn E),.dat (N4 m),.dat (Gf fz),.dat (Gf ns),.no,.no,.no,.no] lq (fun x hx=>⟨_,rfl,?_⟩)) (aK (cq R7));obtain⟨b1,b2,b3⟩:=facts x hx;have n1:=getD_some (l:=ns) (d:=(0,1)) b1.1;have n2:=getD_some (l:=ns) (d:=(0,1)) b1.2;have h:=cp.mp h2 x hx;exact ia (aK (gq (yc (iY (c7 (a0U B) hr (ab (a8 6 rfl) (ab (a8 7 rfl) (ab (c7 (Bf B) hr.m (ab (eM (a8 3 rfl) (gC (a8 5 rfl) au rfl) (!0) (g9 n2)) (ab (eM (a8 3 rfl) (gC (a8 5 rfl) au rfl) (!0) (g9 n1)) ar)) ⟨_,_,_,_,rfl,Jx _ (aD n2),Jx _ (aD n1),by decide,rfl⟩) ar))) ⟨_,_,_,rfl,b2,b3,rfl⟩))) (fun q=>by rw[h]at q;cases q) (fun _=>iA))) (bw (bw (bw (bw (cD (cD (cD (cD gD))))))))
end Pg
namespace Dl
open PySem PySem.Spec PyProof.Rows L2
structure Rx(fs:kL)(a:aI)(ch:kL)(h h':cy):Prop where
 keep:∀b o,b∉fs->b≠a->b∉ch->h.get? b=some o->h'.get? b=some o
 slot:∀b o,b≠a->b∉ch->h.get? b=some o->∃sl,h'.get? b=some {o with slots:=sl}
 sz:h.objs.size<=h'.objs.size
def Entry(h:cy)(T:aI):Prop:=∃oT ts,h.get? T=some oT/\oT.data= .fields ts/\ts[3]? =some ij
section
variable {M:AA}{A:dD}{E:aH->ai->Prop}{s:ai}
def Ry{env:Env}{outer:iC}{L e:aI}{oe:uC}{vs:nc}{Yv:Bool}{Q:Unit->ai->Prop}
  (Jy:A.frames=some (env::outer))(hl:s.heap.FunFrames base (env::outer))(hf:env.frame=some L)(he:s.heap.get? e=some oe)(hd:oe.data= .fields vs)(hsz:1<vs.size)
  (h:∀h' T,Rx (frs (env::outer)) e [] s.heap h'->h'.get? e=some (oe.mapFields (·.setIfInBounds 1 (.ref T)))->s.heap.objs.size<=T->Entry h' T->Q () {s with heap:=h'}):
  bO M A (do let fo <-frameOf env;let pl <-entryPlaceOf L Yv;let nw <-BE head fo .none (vK L) .none pl;setField (.ref e) 1 nw) (fun _ s'=>bO M A (sP (.ref e) none) Q E s') E s:=by
 have a4f:e∉frs (env::outer):=fun hm=>by
  obtain⟨_,o,ho,hnf⟩:=hl.mem hm;rw[he]at ho;cases ho;exact hnf vs hd
 refine ae (wpAny_frameOf_fun Jy hl hf fun g1 k1=>?_);refine ae (wpAny_entryPlaceOf fun pl hpl=>?_);unfold BE newFields;refine ae (wpAny_newObj_type ?_ (hpl.sizeOk5 _ _ _ _ _));generalize hts:([head,.ref L,.none,vK L,.none]++(if pl.isEmpty then aY 6 ij else pl))=tl;have h3:3<tl.toArray.size:=by
  rw[<-hts];simp only[bu,aE,ah,bY];omega
 have e1:g1.get? e=some oe:=(k1.2.1 e a4f).trans he;have e2:=af (h:=g1) {cls:=.type "traceback",dict:=none,data:=.fields tl.toArray} e1;refine vP e2 hd hsz ?_;have hTe:g1.objs.size≠e:=jo (aM e1);have d3:=pY hd (·.setIfInBounds 1 (cj g1.objs.size));have e3:=j4 (n8 (·.setIfInBounds 1 (cj g1.objs.size))) e2 (zM d3);have t3:=(fG (g1.push {cls:=.type "traceback",dict:=none,data:=.fields tl.toArray}) (n8 (·.setIfInBounds 1 (cj g1.objs.size))) (g0 hTe)).trans (bI g1 rfl);unfold sP;refine ae (fC e3 d3 (x:=.ref g1.objs.size) (by simp[hsz]) ?_);rw[if_pos (show(cj g1.objs.size != ij)=true from by simp)];refine vP t3 rfl h3 ?_;have keep:∀b o,b≠e->g1.get? b=some o->(((g1.push {cls:=.type "traceback",dict:=none,data:=.fields tl.toArray}).update e (n8 (·.setIfInBounds 1 (cj g1.objs.size)))).update g1.objs.size
   (n8 (·.setIfInBounds 3 ((none:rj).elim ij fun f=>vK f)))).get? b=some o:=fun b o KR hb=>by
  rw[fG _ _ (jo (aM hb)),fG _ _ (g0 KR)];exact af _ hb
 refine h _ g1.objs.size ⟨fun b o hb KR _ q=>keep b o KR ((k1.2.1 b hb).trans q),fun b o KR _ q=>?_,?_⟩ ?_ (uQ k1.1.symm) ?_
 ·obtain⟨sl,q'⟩:=k1.2.2 b o q;exact⟨sl,keep b _ KR q'⟩
 ·rw[mI,mI,dh,k1.1];exact qt _
 ·rw[fG _ _ hTe];exact e3
 ·refine⟨_,_,j4 _ t3 (zM (pY rfl _)),pY rfl _,?_⟩;show(tl.toArray.setIfInBounds 3 ij)[3]? =some ij;rw[mU];simp only[if_true,if_pos h3]
def VP{env:Env}{outer:iC}{L e:aI}{oe:uC}{vs:nc}{Q:Unit->ai->Prop}
  (Jy:A.frames=some (env::outer))(hl:s.heap.FunFrames base (env::outer))(hf:env.frame=some L)(he:s.heap.get? e=some oe)(hd:oe.data= .fields vs)(h1:vs[1]? =some .none)
  (h:∀h' T,Rx (frs (env::outer)) e [] s.heap h'->h'.get? e=some (oe.mapFields (·.setIfInBounds 1 (.ref T)))->s.heap.objs.size<=T->Entry h' T->Q () {s with heap:=h'}):
  bO M A (sL (.ref e) env) (fun _ s'=>bO M A (sP (.ref e) none) Q E s') E s:=by
 unfold sL;simp only[hf];refine ae (fC he hd h1 ?_);rw[if_neg ck];exact Ry Jy hl hf he hd (fj.mp h1).1 h
def XZ{env:Env}{outer:iC}{L e T:aI}{oe:uC}{vs:nc}{Q:Unit->ai->Prop}
  (Jy:A.frames=some (env::outer))(hl:s.heap.FunFrames base (env::outer))(hf:env.frame=some L)(he:s.heap.get? e=some oe)(hd:oe.data= .fields vs)(h1:vs[1]? =some (.ref T))(hTe:T≠e)(hT:Entry s.heap T)
  (h:∀h' T',Rx (frs (env::outer)) e [T] s.heap h'->h'.get? e=some (oe.mapFields (·.setIfInBounds 1 (.ref T')))->s.heap.objs.size<=T'->Entry h' T'->Q () {s with heap:=h'}):
  bO M A (sL (.ref e) env) (fun _ s'=>bO M A (sP (.ref e) none) Q E s') E s:=by
 obtain⟨oT,ts,hT,hdT,h3⟩:=hT;unfold sL;simp only[hf];refine ae (fC he hd h1 ?_);rw[if_pos (show(cj T != ij)=true from by simp)];refine ae (fC hT hdT h3 ?_);rw[if_neg (show ¬((ij == vK L)=true)from by simp[vK])];refine ae (vP hT hdT (fj.mp h3).1 ?_);have oth:∀b,b≠T->(s.heap.update T (n8 (·.setIfInBounds 3 ij))).get? b=s.heap.get? b:=fun b hb=>fG _ _ (g0 hb);have nT:∀b o,s.heap.get? b=some o->(∀vs,o.data≠ .fields vs)->b≠T:=fun b o hb hnf q=>by
  rw[q,hT]at hb;cases hb;exact hnf ts hdT
 refine Ry (s:={s with heap:=s.heap.update T (n8 (·.setIfInBounds 3 ij))}) Jy (hl.of_keeps fun b o hb hnf=>⟨o,(oth b (nT b o hb hnf)).trans hb,rfl⟩) hf ((oth e (g0 hTe)).trans he) hd (fj.mp h1).1 fun h' T' x y z en=>?_;have szu:(s.heap.update T (n8 (·.setIfInBounds 3 ij))).objs.size=s.heap.objs.size:=mI ..;refine h h' T' ⟨fun b o hb KR hc q=>x.keep b o hb KR (!1) ((oth b (by simpa using hc)).trans q),fun b o KR hc q=>x.slot b o KR (!1) ((oth b (by simpa using hc)).trans q),?_⟩ y ?_ en
 ·have:=x.sz;dsimp only at this;rw[szu]at this;exact this
 ·dsimp only at z;rw[szu]at z;exact z
end
def tbV:rj->aH
 | none=>.none
 | some T=>.ref T
structure ExcAt(XC:aI->Prop)(h:cy)(a:aI)(n:Int)(dx:aI)(tb:rj):Prop where
 ex:∃(oe:uC) (vs:nc) (C:aI) (m:MG) (t:Tok),h.get? a=some oe/\oe.cls= .ref C/\XC C/\oe.dict=some dx/\oe.data= .fields vs/\vs[1]? =some (tbV tb)/\h.Ns1 dx m/\m "number" =some (.int n t)
 tb:∀T,tb=some T->T≠a/\T≠dx/\Entry h T
 ne:dx≠a
section
variable {M:AA}{A:dD}{E:aH->ai->Prop}{s:ai}
def a0V{env:Env}{outer:iC}{L e:aI}{tb:rj}{oe:uC}{vs:nc}{Q:Unit->ai->Prop}
  (Jy:A.frames=some (env::outer))(hl:s.heap.FunFrames base (env::outer))(hf:env.frame=some L)(he:s.heap.get? e=some oe)(hd:oe.data= .fields vs)(h1:vs[1]? =some (tbV tb))(hT:∀T,tb=some T->T≠e/\Entry s.heap T)
  (h:∀h' T',Rx (frs (env::outer)) e tb.toList s.heap h'->h'.get? e=some (oe.mapFields (·.setIfInBounds 1 (.ref T')))->s.heap.objs.size<=T'->Entry h' T'->Q () {s with heap:=h'}):
  bO M A (sL (.ref e) env) (fun _ s'=>bO M A (sP (.ref e) none) Q E s') E s:=by
 cases tb with
 | none=>exact VP Jy hl hf he hd h1 h
 | some T=>exact XZ Jy hl hf he hd h1 (hT T rfl).1 (hT T rfl).2 h
end
def VQ{h h':cy}{m:MG}(k:∀o,h.get? d=some o->∃sl,h'.get? d=some {o with slots:=sl})(x:h.Ns1 d m):h'.Ns1 d m:=by
 obtain⟨o,es,ep,e1,e2,r⟩:=x;obtain⟨sl,q⟩:=k o e1;exact⟨_,es,ep,q,e2,r⟩
structure xA(XC:aI->Prop)(g:cy)(H:Hp)(h:cy)(a:aI)(n:Int)(dx:aI)(tb:rj):Prop where
 at_:ExcAt XC h a n dx tb
 za:g.objs.size<=a
 nd:g.get? dx=none
 zt:∀T,tb=some T->g.objs.size<=T
 ha:H a=none
 hd:H dx=none
 ht:∀T,tb=some T->H T=none
def Rz{X:Cx}{pins:Pn}{s:ai}{XC:aI->Prop}{a dx:aI}{n:Int}{tb:rj}{Q:Unit->ai->Prop}{E:aH->ai->Prop}(I:Inv X pins σ H s)(vU:X.stack=X.env::X.outer)(Jy:X.env.frame=some X.env.locals)
  (F:xA XC X.GC.heap H s.heap a n dx tb)(hL:X.env.locals≠a/\∀T,tb=some T->X.env.locals≠T)(hC:∀x c,X.env.cells.lookup x=some c->c≠a/\∀T,tb=some T->c≠T)(hp:∀p∈X.pn++pins,p.1≠a/\∀T,tb=some T->p.1≠T)
  (q:∀(h':cy) T',Inv X pins σ H {s with heap:=h'}->xA XC X.GC.heap H h' a n dx (some T')->Q () {s with heap:=h'}):
  wj X (sL (.ref a) X.env) (fun _ s'=>wj X (sP (.ref a) none) Q E s') E s:=by
 obtain⟨⟨oe,vs,C,m,t,e1,e2,e3,e4,e5,e6,e7,e8⟩,f2,f3⟩:=F.at_;have st:=I.stack;rw[vU]at st;have fr:=I.ok.frames;rw[vU]at fr;refine a0V fr st Jy e1 e5 e6 (fun T h=>⟨(f2 T h).1,(f2 T h).2.2⟩) fun h' T' lx ee hT' en=>?_;have TM:∀b∈a::tb.toList,b=a\/tb=some b:=fun b hb=>by
  rcases bQ.mp hb with h | h
  ·exact .inl h
  ·exact .inr (by simpa using h)
 have LA:∀b u,H b=some u->b≠a/\b∉tb.toList/\b∉frs X.stack:=fun b u e=>by
  refine⟨fun z=>?_,fun z=>?_,fun z=>?_⟩
  ·rw[z,F.ha]at e;cases e
  ·rw[F.ht b (by simpa using z)]at e;cases e
  ·rw[I.LU b z]at e;cases e
 have un:Un (frs X.stack) (a::tb.toList) H H s.heap h':=by
  refine⟨fun b o g _ hf hx=>?_,fun b o g _ _ hx=>?_,fun _ _ _ h _=>h,fun b o g hx=>?_,fun _ _ h=>h,fun _ _ _ h=>h,fun b ps h=>⟨#[],by rw[h];simp⟩⟩
  ·rw[vU]at hf;exact lx.keep b o hf (fun z=>hx (by simp[z])) (fun z=>hx (az _ z)) g
  ·exact lx.slot b o (fun z=>hx (by simp[z])) (fun z=>hx (az _ z)) g
  ·obtain⟨sl,g'⟩:=lx.slot b o (fun z=>hx (by simp[z])) (fun z=>hx (az _ z)) g;exact⟨_,g'⟩
 have hok:D1 X.prog X.w H h':=fun b u e=>by
  refine(I.hok b u e).stay (fun c v hc g=>?_) (fun _ q=>q) fun _ _ q=>q;have Zx:∃u,H c=some u:=by
   rcases hc with rfl | hc
   ·exact⟨u,e⟩
   ·exact⟨_,hc⟩
  obtain⟨u',hu⟩:=Zx;obtain⟨n1,n2,n3⟩:=LA c u' hu;rw[vU]at n3;exact lx.keep c v n3 n1 n2 g
 have I':=I.call (g':=s.gens) (t':=s.toks) (d':=s.drawn) (h':=h') (ch:=a::tb.toList) un hok I.bare fun b hb=>by
  rcases TM b hb with rfl | h
  ·exact⟨.inr F.za,fun z=>hL.1 z.symm,fun x c hc z=>(hC x c hc).1 z,fun p hpm=>(hp p hpm).1⟩
  ·exact⟨.inr (F.zt b h),fun z=>hL.2 b h z.symm,fun x c hc z=>(hC x c hc).2 b h z,fun p hpm=>(hp p hpm).2 b h⟩
 have hTa:T'≠a:=fun z=>by rw[z]at hT';exact absurd (aM e1) (JU.mpr hT')
 have hdl:dx<s.heap.objs.size:=by obtain⟨o,_,_,g,_⟩:=e7;exact aM g
 have hTd:T'≠dx:=fun z=>by rw[z]at hT';exact absurd hdl (JU.mpr hT')
 have hsz:vs.size>1:=(fj.mp e6).1;refine q h' T' I' ⟨⟨⟨_,_,C,m,t,ee,?_,e3,?_,pY e5 _,?_,VQ (fun o g=>lx.slot dx o f3 (fun z=>(f2 dx (by simpa using z)).2.1 rfl) g) e7,e8⟩,fun T h=>?_,f3⟩,F.za,F.nd,fun T h=>?_,F.ha,F.hd,fun T h=>?_⟩
 ·rw[uC.cls_mapFields];exact e2
 ·obtain⟨c,d,dt,sl⟩:=oe;cases e5;exact e4
 ·show(vs.setIfInBounds 1 (cj T'))[1]? =some (cj T');rw[mU];simp[hsz]
 ·cases h;exact⟨hTa,hTd,en⟩
 ·cases h;exact bq I.sz hT'
 ·cases h;exact I.hok.fresh hT'
def Ow{X:Cx}{pins:Pn}{s:ai}{XC:aI->Prop}{a dx:aI}{n:Int}{tb:rj}{Q:Unit->ai->Prop}{E:aH->ai->Prop}(I:Inv X pins σ H s)(vU:X.stack=X.env::X.outer)(Jy:X.env.frame=some X.env.locals)
  (F:xA XC X.GC.heap H s.heap a n dx tb)(hL:X.env.locals≠a/\∀T,tb=some T->X.env.locals≠T)(hC:∀x c,X.env.cells.lookup x=some c->c≠a/\∀T,tb=some T->c≠T)(hp:∀p∈X.pn++pins,p.1≠a/\∀T,tb=some T->p.1≠T)
  (q:∀(h':cy) T',Inv X pins σ H {s with heap:=h'}->xA XC X.GC.heap H h' a n dx (some T')->Q () {s with heap:=h'}):
  wj X (leaving X.env (.ref a)) Q E s:=ae (Rz I vU Jy F hL hC hp q)
def Lm(XC:aI->Prop)(P:bp)(w:cH):NI:=fun outer H s E e s'=>∃(a dx T:aI) (n:Int) (H':Hp),e= .ref a/\xA XC s.heap H' s'.heap a n dx (some T)/\s'.os=s.os/\yM s'.gens/\Un (frs outer) [] H H' s.heap s'.heap/\D1 P w H' s'.heap/\E (xn n) none H'
def jy{h:cy}{b c:aI}{o:uC}{z:Nat}(e:h.get? b=some o)(h1:h.objs.size<=z)(h2:z<=c):b≠c:=fun q=>by
 subst q;exact absurd (aM e) (JU.mpr (bq h1 h2))
def xA.mono{XC:aI->Prop}{g g':cy}{a dx:aI}{n:Int}{tb:rj}(F:xA XC g H h a n dx tb)(l:g'.objs.size<=g.objs.size)(k:∀b o,g'.get? b=some o->∃o',g.get? b=some o'):xA XC g' H h a n dx tb:=
 have nd:g'.get? dx=none:=by
  cases e:g'.get? dx with
  | none=>rfl
  | some o=>
   obtain⟨o',q⟩:=k _ _ e;rw[F.nd]at q;exact nomatch q
 ⟨F.at_,bq l F.za,nd,fun T h=>bq l (F.zt T h),F.ha,F.hd,F.ht⟩
def xA.low{X:Cx}{pins:Pn}{H1 H:Hp}{s:ai}{XC:aI->Prop}{a dx:aI}{n:Int}{tb:rj}(I:Inv X pins σ H1 s)(hex:X.ex=[])(F:xA XC s.heap H h a n dx tb):xA XC X.GC.heap H h a n dx tb:=
 F.mono I.sz fun b o e=>I.base.there b o e (by rw[hex];simp)
def VR{X:Cx}{XC:aI->Prop}{E:XK}{pins:Pn}{s s':ai}(I:Inv X pins σ H s)(h:Lm XC X.prog X.w X.stack H s E e s'):
  ∃(a dx T:aI) (n:Int) (H':Hp),e= .ref a/\Inv X pins σ H' s'/\xA XC s.heap H' s'.heap a n dx (some T)/\E (xn n) none H':=by
 obtain⟨a,dx,T,n,H',rfl,F,os,bare,un,hok,hE⟩:=h;exact⟨a,dx,T,n,H',rfl,I.Ul os un hok bare (fun b z=>absurd z (!1)),F,hE⟩
def ft{XC:aI->Prop}{K:a9}{mg:MG}{N:bS}{outer:iC}:
  Passes (Lm XC P w) (vW (Lm XC P w) P w K mg base N fO scope f cd A outer s H E) E:=fun pins σ H1 s1 e s' I h=>by
 have I0:=I;obtain⟨a,dx,T,n,H',rfl,I',F,hE⟩:=VR I h;obtain⟨m,⟨oL,_,_,gL,_⟩,_⟩:=id I.loc;refine Ow I' rfl rfl (F.low I rfl) ⟨jy gL (ao _) F.za,fun T h=>jy gL (ao _) (F.zt T h)⟩ (fun x c hc=>?_) (fun p hp=>?_) fun h' T' I2 F2=>⟨a,dx,T',n,H',rfl,F2,I2.os,I2.bare,I2.base,I2.hok,hE⟩
 ·obtain⟨v,o,g,_⟩:=I.cell x c hc;exact⟨jy g (ao _) F.za,fun T h=>jy g (ao _) (F.zt T h)⟩
 ·obtain⟨g,_⟩:=I.pin p hp;exact⟨jy g (ao _) F.za,fun T h=>jy g (ao _) (F.zt T h)⟩
def xB(XC:aI->Prop)(X:Cx)(E:XK):Prop:=∀(pins:Pn) (σ:L2.St) (H:Hp) (s:ai) (a dx:aI) (n:Int) (s1:ai) (H1:Hp),Inv X pins σ H1 s1->Inv X pins σ H s->xA XC s1.heap H s.heap a n dx none->E (xn n) none H->X.xe (.ref a) s
def MA{XC:aI->Prop}{K:a9}{mg:MG}{N:bS}{outer:iC}:
  xB XC (vW (Lm XC P w) P w K mg base N fO scope f cd A outer s H E) E:=fun pins σ H' s' a dx n s1 H1 I I' F hE=>by
 obtain⟨m,⟨oL,_,_,gL,_⟩,_⟩:=id I.loc;refine Ow I' rfl rfl (F.low I rfl) ⟨jy gL (ao _) F.za,fun T h=>nomatch h⟩ (fun x c hc=>?_) (fun p hp=>?_) fun h' T' I2 F2=>⟨a,dx,T',n,H',rfl,F2,I2.os,I2.bare,I2.base,I2.hok,hE⟩
 ·obtain⟨v,o,g,_⟩:=I.cell x c hc;exact⟨jy g (ao _) F.za,fun T h=>nomatch h⟩
 ·obtain⟨g,_⟩:=I.pin p hp;exact⟨jy g (ao _) F.za,fun T h=>nomatch h⟩
open PySem.W (looks_specialIn looks_instIn specialIn instIn typeIn bind_fn check_slot InitBack)
def DT(K:a9)(C:aI):Bool:=match K.lookup C with
 | some ⟨_,_,.cls cd,sl⟩=>!cd.abstract && (!cd.hasDel && ((sl.toList[4]?).join == some (.builtin "Exception.__new__") && (!cd.mro.isEmpty && (cd.mro.contains (.ref C) && (cd.mro.contains (.type "Exception") && (cd.mro.contains (.type "BaseException") &&
   (!cd.mro.contains (.type "AttributeError") && (!cd.mro.contains (.type "NameError") && (specialIn K (.ref C) "__call__" == some (some (.builtin "type.__call__")) && instIn K (.ref C) (.type "type") == some true)))))))))
 | _=>false
structure Qc(M:AA)(h:cy)(C:aI):Prop where
 obj:∃oc od cd sl,h.get? C=some ⟨oc,od,.cls cd,sl⟩/\cd.abstract=false/\cd.hasDel=false/\cd.mro.isEmpty=false
 made:lO M h (Gx (.ref C)) (some "Exception.__new__")
 base:lO M h (Hb (.ref C)) (.ref C)
 self:lO M h (qv (.ref C) (.ref C)) true
 exc:lO M h (qv (.ref C) (.type "Exception")) true
 bas:lO M h (qv (.ref C) (.type "BaseException")) true
 YS:lO M h (qv (.ref C) (.type "AttributeError")) false
 noN:lO M h (qv (.ref C) (.type "NameError")) false
 call:lO M h (specialOf (.ref C) "__call__") (some (.builtin "type.__call__"))
 typ:lO M h (vQ (.ref C) (.type "type")) true
def SX{K:a9}{M:AA}(X:K.In h)(e:DT K C=true):Qc M h C:=by
 unfold DT at e;split at e
 ·rename_i oc od cd sl ho;simp only[c8,nJ,beq_iff_eq]at e;obtain⟨e1,e2,e3,e4,e5,e6,e7,e8,e9,e10,e11⟩:=e;have hc:LC K C=some cd:=by unfold LC;rw[ho]
  have hm:lO M h (mroOf (.ref C)) cd.mro:=(Gy X hc).andThen .now;obtain⟨c,l,hl⟩:∃c l,cd.mro=c::l:=by
   cases q:cd.mro with
   | nil=>rw[q]at e4;cases e4
   | cons c l=>exact⟨c,l,rfl⟩
  have made:lO M h (Gx (.ref C)) (some "Exception.__new__"):=by
   intro A Q E s k q;unfold Gx;refine ae (hm A _ E s k ?_);rw[hl,l0];refine ae (ae (ae (ae (AG (k _ _ (X _ _ ho)) (aG ?_)))));dsimp only;rw[<-Array.getElem?_toList,e3];exact aG (aG (aG q))
  have Yw:∀b r,cd.mro.contains b=r->xM K C b=some r:=fun b r h=>by
   unfold xM;rw[hc,FC,if_neg (by rw[e4];decide),h]
  refine⟨⟨oc,od,cd,sl,X _ _ ho,e1,e2,e4⟩,made,?_,kl X (Yw _ _ e5),kl X (Yw _ _ e6),kl X (Yw _ _ e7),kl X (Yw _ _ e8),kl X (Yw _ _ e9),looks_specialIn X e10,looks_instIn X e11⟩;intro A Q E s k q;unfold Hb;refine ae (hm A _ E s k ?_);rw[hl,l0];exact ae (ae (ae (made A _ E s k (aG (aG (aG q))))))
 ·cases e
abbrev newX(C t:aI):uC:={cls:=.ref C,data:=.fields #[.ref t,.none,.none,.none,.bool false,.none]}
abbrev Kh(rest:fk):uC:={cls:=.type "tuple",data:=.seq rest.toArray}
section
variable {prog:bp}{w:cH}{A:dD}{C:aI}{R:MZ->ai->Prop}{h:cy}{g:Array GenState}{d:Drawn}{t:Nat}{os:OsState}
def a4g{rest:fk}(Y:Qc (c9 prog w) h C)(kN:rest.length<=bC)
  (hq:R (.ok (.ret (.ref (h.objs.size+1)))) ⟨(h.push (Kh rest)).push (newX C h.objs.size),g,d,t,os⟩):
  sZ (c9 prog w) A (.call (.builtin "Exception.__new__") ⟨.ref C::rest,[]⟩) R ⟨h,g,d,t,os⟩:=by
 have F:=wc;obtain⟨⟨oc,od,cd,sl,hC,e1,e2,e4⟩,made,base,self,exc,bas,YS,noN,call,typ⟩:=Y;have here:lO (c9 prog w) h (Bind.madeHere "BaseException.__new__" (.ref C)) ():=base.andThen (made.andThen (Kr (by simp only[iW,F.canon,bne_self_eq_false,bU,if_false])));have hstar:=F.noStar;have Rg:=F.ends;refine codeAny_call_builtin_code (CW _ F.quiet) ?_;simp only[xK,F.newKind,F.newSplit,F.newRow]
 repeat(first | simp only[bne_self_eq_false,bU,if_false] | lk)
 refine codeAny_builtinAt F.entry ?_;unfold oI.«BaseException.__new__»;refine Hc ?_;show PySem.wpAt _ _ _ (stack >>= _) _ _ _;refine Hc (PySem.wpAt_stack fun p below=>BF ?_)
 wp_walk
 refine BF ?_;rw[F.owner]
 repeat(first | lk | with_reducible refine wpAny_loadPart_at hC ?_ | wp_step)
 refine JJ (af _ (af _ hC)) (aG ?_);rw[e2];refine aG (aG ?_);show R (.ok (.ret (.ref (h.push (Kh rest)).objs.size))) _;rw[dh];exact hq
def a2D{rest:fk}(Y:Qc (c9 prog w) h C)(hi:lO (c9 prog w) h (vL (.ref C) "__init__") (some (.ref fI)))(hb:∀self,lO (c9 prog w) h (bindSpecial (.ref fI) self) (.ref fI,[self]))(kN:rest.length<=bC)
  (hq:sZ (c9 prog w) (A.under (.builtin "type.__call__" ⟨.ref C::rest,[]⟩)) (.call (.ref fI) ⟨.ref (h.objs.size+1)::rest,[]⟩) (InitBack (h.objs.size+1) R) ⟨(h.push (Kh rest)).push (newX C h.objs.size),g,d,t,os⟩):
  sZ (c9 prog w) A (.call (.ref C) ⟨rest,[]⟩) R ⟨h,g,d,t,os⟩:=by
 have Y':=Y;obtain⟨⟨oc,od,cd,sl,hC,e1,e2,e4⟩,made,base,self,exc,bas,YS,noN,call,typ⟩:=Y;refine codeAny_of_tree ?_;show bO _ _ (callAny (.ref C) _) _ _ _;refine PySem.W.nd_load hC ?_;show bO _ _ (Er (.ref C) _) _ _ _;unfold Er;refine ae (call.at ?_);dsimp only;rw[tc_bind];refine ae (aG (ae (aG ?_)));refine aG (a:=Fin.again (.call (.builtin "type.__call__") ⟨.ref C::rest,[]⟩)) (And.intro rfl ?_);refine codeAny_call_builtin_at (CW _ (by decide+kernel)) entry_typeCall (check_slot tc_kind tc_split typ (PySem.W.tc_args _ _ _) ?_);unfold oI.«type.__call__»;have hm:lO (c9 prog w) h (mroOf (.ref C)) cd.mro:=((JV (part:=none) hC).andThen .now).andThen .now
 repeat(first | simp only[e4,bU,if_false] | with_reducible refine sC ?_ | lk)
 refine a4g Y' kN ?_;have k:∀b o,h.get? b=some o->((h.push (Kh rest)).push (newX C h.objs.size)).get? b=some o:=fun b o e=>af _ (af _ e);have hx:((h.push (Kh rest)).push (newX C h.objs.size)).get? (h.objs.size+1)=some (newX C h.objs.size):=by heap_get
 have t1:lO (c9 prog w) ((h.push (Kh rest)).push (newX C h.objs.size)) (JP (.ref (h.objs.size+1))) (.ref C):=(JV hx).andThen .now;have s1:=self.keeps k;have i1:=hi.keeps k;have b1:=(hb (.ref (h.objs.size+1))).keeps k;unfold vQ callSpecial? specialOf
 repeat(first | with_reducible refine sC ?_ | lk)
 refine qX hq fun r s' z=>?_
 rcases r with e | (v | _ | _ | _)<;>first | exact z | exact z.elim | skip
 obtain⟨rfl,z⟩:=z;exact aG (aG z)
end
open PySem.W (looks_specialIn looks_instIn specialIn instIn typeIn bind_fn check_slot InitBack InstAt)
def dg:fk->Bool
 | .ref _::r=>dg r
 | l=>l == [.type "Exception",.type "BaseException",.type "object"]
theorem Je(self:aH):∀{l:fk},dg l=true->refuseLoop self "__setattr__" l=pure ()
 | .ref c::r,e=>by rw[refuseLoop_ref];exact Je self (by unfold dg at e;exact e)
 | [],e=>by simp[dg]at e
 | .type n::r,e=>by
  have e':(.type n::r:fk)=[.type "Exception",.type "BaseException",.type "object"]:=beq_iff_eq.mp e;rw[e'];exact PySem.F.store_Exception.passes self
 | .none::r,e=>by simp[dg]at e
 | .bool _::r,e=>by simp[dg]at e
 | .int _ _::r,e=>by simp[dg]at e
 | .float _ _::r,e=>by simp[dg]at e
 | .str _ _::r,e=>by simp[dg]at e
 | .bytes _ _::r,e=>by simp[dg]at e
 | .builtin _::r,e=>by simp[dg]at e
 | .ellipsis::r,e=>by simp[dg]at e
 | .notImplemented::r,e=>by simp[dg]at e
theorem RB:∀{l:fk},dg l=true->l.contains (.type "object")=true
 | .ref c::r,e=>by rw[kB,RB (l:=r) (by unfold dg at e;exact e),Bool.or_true]
 | [],e=>by simp[dg]at e
 | .type n::r,e=>by
  have e':(.type n::r:fk)=[.type "Exception",.type "BaseException",.type "object"]:=beq_iff_eq.mp e;rw[e'];decide
 | .none::r,e=>by simp[dg]at e
 | .bool _::r,e=>by simp[dg]at e
 | .int _ _::r,e=>by simp[dg]at e
 | .float _ _::r,e=>by simp[dg]at e
 | .str _ _::r,e=>by simp[dg]at e
 | .bytes _ _::r,e=>by simp[dg]at e
 | .builtin _::r,e=>by simp[dg]at e
 | .ellipsis::r,e=>by simp[dg]at e
 | .notImplemented::r,e=>by simp[dg]at e
structure XSt(K:a9)(C:aI)(f:cY):Prop where
 sa:lN K (.ref C) "__setattr__" =some (some (.builtin "object.__setattr__"))
 cd:∃cd,LC K C=some cd/\dg cd.mro=true/\cd.hasDict=true
 nn:lN K (.ref C) f=some none
section
variable {prog:bp}{w:cH}{A:dD}{E:aH->ai->Prop}{s:ai}{K:a9}{x C:aI}{f:cY}{v:aH}
def a4h{ox:uC}{Q:Unit->ai->Prop}(X:K.In s.heap)(F:XSt K C f)(hx:s.heap.get? x=some ox)(hc:ox.cls= .ref C)(hd:ox.dict=none){vs:nc}(hf:ox.data= .fields vs)
  (h:∀h',h'.get? x=some {ox with dict:=some s.heap.objs.size}->h'.Ns1 s.heap.objs.size (fun y=>if y=f then some v else none)->(∀b o,b≠x->s.heap.get? b=some o->h'.get? b=some o)->Q () {s with heap:=h',toks:=s.toks+2}):
  bO (c9 prog w) A (setAttr (.ref x) f v) Q E s:=by
 obtain⟨cd,qx,hm,hh⟩:=F.cd;have J:InstAt s.heap x ox C none:=⟨hx,hc,by unfold JW;rw[hf],by rw[hd];trivial⟩;have ne:cd.mro.isEmpty=false:=by
  cases q:cd.mro with
  | nil=>rw[q]at hm;simp[dg]at hm
  | cons _ _=>rfl
 have sub:lO (c9 prog w) s.heap (vQ (.ref x) (.type "object")) true:=J.type.andThen (kl X (by unfold xM;rw[qx,FC,if_neg (by rw[ne];decide),RB hm]));have SF:=PySem.F.store_object;refine Eb X J F.sa ?_;refine tW SF.slot.plain SF.entry (@check_slot (c9 prog w) _ _ {s with toks:=s.toks+1} "object.__setattr__" "object" "__setattr__" (.ref x) _ [] _ SF.kind SF.split sub (SF.args (.ref x) _ v) ?_);rw[PySem.W.osa_eq,refuse_eq];have Yw:lO (c9 prog w) s.heap (mroOf (.ref C)) cd.mro:=(Gy X qx).andThen .now;refine ae (ae (vT (s:={s with toks:=s.toks+1}) J.type (ae (vT (s:={s with toks:=s.toks+1}) Yw ?_))));rw[Je _ hm];refine aG (ae (vT (s:={s with toks:=s.toks+1}) J.type (ae (vT (s:={s with toks:=s.toks+1}) (Eu X F.nn) (ae (aG ?_))))));obtain⟨hp,g,dr,tk,os⟩:=s;obtain⟨oc,od,odt,OW⟩:=ox;dsimp only at hc hd hf;subst hc hd hf;refine ae (aG (ae (ae (AG hx (ae (vT (Gy X qx) ?_))))));rw[hh];have Z8:(hp.push {cls:=.type "dict",data:=.dict #[]}).get? x=some ⟨.ref C,none,.fields vs,OW⟩:=af _ hx;have hxs:x≠hp.objs.size:=cC (aM hx);refine ae (wpAny_alloc' (ae (wpAny_update' Z8 (aG ?_))));have gd:((hp.push {cls:=.type "dict",data:=.dict #[]}).update x fun o=>{cls:=o.cls,dict:=some hp.objs.size,data:=o.data,slots:=o.slots}).get? hp.objs.size=some {cls:=.type "dict",data:=.dict #[]}:=
  (BG _ _ _ _ hxs.symm).trans (cy.get?_push_at rfl rfl)
 have nd:((hp.push {cls:=.type "dict",data:=.dict #[]}).update x fun o=>{cls:=o.cls,dict:=some hp.objs.size,data:=o.data,slots:=o.slots}).Ns hp.objs.size (fun _=>none):=
  ⟨_, #[],_,gd,rfl,fun e he=>absurd he (!1),fun _=>rfl⟩
 show bO _ _ (sQ hp.objs.size _ f v) _ _ _;unfold sQ FD;refine ae (aG (ae (wpAny_nsSet1 (Ec nd) fun h' hn' hs=>?_)));obtain⟨oD,esD,epD,hoD,hdD,hcD⟩:=hn'.count (Within.cons f v Within.nil);refine ae (wpAny_lookBehind hoD (by rw[hdD];exact pastItsLine_dict (bq hcD (by rw[ah,bY,AE];omega))) ?_);refine aG (h h' ?_ hn' fun b o hb q=>?_)
 ·refine(hs.2 x hxs).trans (j4 _ Z8 rfl)
 ·exact(hs.2 b (cC (aM q))).trans ((BG _ _ _ _ hb).trans (af _ q))
end
section
variable {prog:bp}{w:cH}{A:dD}{E:aH->ai->Prop}{K:a9}{x C:aI}{v:aH}
def a2E{s:ai}{ox:uC}{vs:nc}{Q:aH->ai->Prop}(X:K.In s.heap)(hm:xM K C (.type "Exception")=some true)(hx:s.heap.get? x=some ox)(hc:ox.cls= .ref C)(hf:ox.data= .fields vs)(hz:vs[0]? =some (.ref t0))
  (h:∀h',h'.get? x=some (ox.mapFields (·.setIfInBounds 0 (.ref s.heap.objs.size)))->s.heap.objs.size<=h'.objs.size->(∀b o,b≠x->s.heap.get? b=some o->h'.get? b=some o)->Q .none {s with heap:=h'}):
  bO (c9 prog w) A (call (.builtin "Exception.__init__") [.ref x,v]) Q E s:=by
 have F:=wc;obtain⟨hp,g,dr,tk,os⟩:=s;have J:lO (c9 prog w) hp (JP (.ref x)) (.ref C):=hc▸(JV hx).andThen .now;have sub:lO (c9 prog w) hp (vQ (.ref x) (.type "Exception")) true:=J.andThen (kl X hm);have a4i:=F.noStar;obtain⟨cd,qx,_⟩:=xN.mp hm;have hC:∃c0 d0 s0,hp.get? C=some ⟨c0,d0,.cls cd,s0⟩:=by
  unfold LC at qx;split at qx
  ·rename_i ho;cases qx;exact⟨_,_,_,X _ _ ho⟩
  ·cases qx
 obtain⟨c0,d0,s0,hC⟩:=hC;refine sC (tW F.init.plain F.initEntry ?_);simp only[xK,F.initKind,F.initSplit,F.initRow];refine ae (vT (s:=⟨hp,g,dr,tk,os⟩) sub ?_);simp only[pf,bU,if_false]
 repeat(first | with_reducible refine wpAny_onRaise ?_ | lk | wp_step)
 refine JJ (af _ hx) ?_;obtain⟨oc,od,odt,OW⟩:=ox;dsimp only at hc hf hx;subst hc hf;refine aG ?_;rw[hz];refine aG (ae (vP (af _ hx) rfl (fj.mp hz).1 ?_));refine AQ (aG ?_);refine h _ ?_ ?_ fun b o hb q=>?_
 ·exact j4 _ (af _ hx) rfl
 ·dsimp only;rw[mI,dh];exact qt _
 ·rw[fG _ _ (g0 hb)];exact af _ q
end
def Bw(a C:aI)(d:rj):HO:=.ext fun h=>∃(vs:nc) (t:aI) (sl:BK),h.get? a=some ⟨.ref C,d,.fields vs,sl⟩/\vs[0]? =some (.ref t)/\vs[1]? =some .none
def Qd{h:cy}{a C t:aI}{d:rj}{vs:nc}{sl:BK}(e:h.get? a=some ⟨.ref C,d,.fields vs,sl⟩)(h0:vs[0]? =some (.ref t))(h1:vs[1]? =some .none):jK P w H h a (Bw a C d):=
 ⟨⟨vs,t,sl,e,h0,h1⟩,⟨_,e⟩,fun _ _ ⟨vs,t,sl,e,z⟩ k=>⟨vs,t,sl,k _ e,z⟩⟩
def a0W{H:Hp}{o:HO}(h:H a=some o):upd H a o=H:=funext fun b=>by
 by_cases e:b=a
 ·rw[e,aU,h]
 ·rw[aL e]
structure XF(K:a9)(C:aI)(f:cY):Prop where
 exc:xM K C (.type "Exception")=some true
 st:XSt K C f
section
variable {X:Cx}{pins:List (aI×uC)}{σ:L2.St}{H:Hp}{s:ai}
def a2F:mV [] (.type "Exception") (.type "type") "__init__" =some (.val (.builtin "Exception.__init__")):=by rfl
def Y0:Manifest.isStub "Exception" =false:=by decide+kernel
def Y1:JP (.type "Exception")=pure (.type "type"):=by kernel_rfl
def Y2:fE "Exception" =some (.type "Exception"):=by decide+kernel
def tXI(K:a9)(ta:TA):TE:=fun σ H Q=>ta σ H fun vs H1=>∃(x C:aI) (v:V),vs=[.ref x,v]/\H1 x=some (Bw x C none)/\xM K C (.type "Exception")=some true/\Q .fA H1
def Qe{a b:du}{ta:TA}{p apos pos:mH}{pl:GX Bool}(hg:Gl X "Exception")(hm:X.mg "Exception" =none)(ha:PA X [a,b] ta)(hs:SE X a [b]:=by rfl)(hpl:ya X pos [b]:=by rfl)
  (ht:fX (.Call (.Attribute (.Name "Exception" p) "__init__" apos) [a,b] [] pos) X.env=(do
   let ov <-fX (.Name "Exception" p) X.env
   oH apos.atName
   let(f,first) <-kh [ov] (mf ov "__init__" pl)
   pk pos f first (nt pos (dM [a,b] X.env)) (mS pos (iX [] X.env))):=by rfl):
  PE X (.Call (.Attribute (.Name "Exception" p) "__init__" apos) [a,b] [] pos) (tXI X.K ta):=by
 intro pins s σ H Q I h;refine nu (pl:=pl) (vc I hg hm Y2 ?_ ck ck) ht;obtain⟨m,F⟩:=I.fr;refine PySem.W.method_type (v:=.builtin "Exception.__init__") F I.ok.mod.WU Y1 Y0 (show mV X.K _ _ _=_ from a2F) (by decide+kernel) ?_;refine sE (lh (ha pos pins _ σ H _ (I.tok _) h) ?_) hs hpl;rintro us s1 ⟨vs,H1,I1,r1,q1⟩;obtain⟨x,C,v,rfl,hx,Yw,q⟩:=q1;obtain⟨u,u2,rfl,ru,ru2⟩:=vals2 r1;cases ru;obtain⟨⟨vs,t,sl,e,e0,e1⟩,_,_⟩:=(show jK X.prog X.w H1 s1.heap x (Bw x C none)from I1.hok _ _ hx);refine a2E I1.BU Yw e rfl rfl e0 fun h' k1 k2 k3=>?_;have hz:0<vs.size:=(fj.mp e0).1;have new:jK X.prog X.w (upd H1 x (Bw x C none)) h' x (Bw x C none):=by
  refine Qd (vs:=vs.setIfInBounds 0 (.ref s1.heap.objs.size)) (t:=s1.heap.objs.size) k1 ?_ ?_
  ·rw[mU];simp[hz]
  ·rw[Array.getElem?_setIfInBounds_ne ck];exact e1
 have I2:=I1.write (t':=s1.toks) (x:=x) (e:=x) (by rw[hx];exact yQ) (.inl rfl) (fun b u hb g=>k3 b u hb g) ⟨_,k1⟩ new;rw[a0W hx]at I2;exact⟨.fA,H1,I2,rfl,q⟩
def _root_.L2.Inv.a2G{x C:aI}{f:cY}{h':cy}{t':Nat}{vs:nc}{sl:BK}(I:Inv X pins σ H s)(hx:H x=some (Bw x C none))(rv:RelV v u)(g1:h'.get? x=some ⟨.ref C,some s.heap.objs.size,.fields vs,sl⟩)(e0:vs[0]? =some (.ref t))(e1:vs[1]? =some .none)
  (g2:h'.Ns1 s.heap.objs.size (fun y=>if y=f then some u else none))(k:∀b o,b≠x->s.heap.get? b=some o->h'.get? b=some o):
  Inv X pins σ (upd (upd H x (Bw x C (some s.heap.objs.size))) s.heap.objs.size (.xd [(f,v)])) {s with heap:=h',toks:=t'}:=by
 have hf:H s.heap.objs.size=none:=I.hok.fresh (ao _);have uN:x≠s.heap.objs.size:=fun z=>by rw[<-z,hx]at hf;cases hf
 have hN:∀b u,H b=some u->b≠s.heap.objs.size:=fun b u e z=>by rw[z,hf]at e;cases e
 have hU:∀b,b≠x->b≠s.heap.objs.size->(upd (upd H x (Bw x C (some s.heap.objs.size))) s.heap.objs.size (.xd [(f,v)])) b=H b:=fun b h1 h2=>by rw[aL h2,aL h1]
 refine I.un ⟨fun b o g n _ _=>k b o (fun z=>by rw[z,hx]at n;cases n) g,fun b o g n _ _=>⟨o.slots,k b o (fun z=>by rw[z,hx]at n;cases n) g⟩,fun b o g n _=>?_,fun b o g _=>?_,fun b xs e=>?_,fun b o u e=>?_,fun b ps e=>⟨#[],?_⟩⟩ fun b u e=>?_
 ·rw[hU b (fun z=>by rw[z,hx]at n;cases n) (cC (aM g))];exact n
 ·by_cases z:b=x
  ·rw[z];exact⟨_,g1⟩
  ·exact⟨o,k b o z g⟩
 ·rw[hU b (fun z=>by rw[z,hx]at e;cases e) (hN b _ e)];exact e
 ·rw[hU b (fun z=>by rw[z,hx]at e;cases e) (hN b _ e)];exact e
 ·rw[hU b (fun z=>by rw[z,hx]at e;cases e) (hN b _ e),e];simp
 ·by_cases zd:b=s.heap.objs.size
  ·rw[zd,aU]at e;cases e;rw[zd];refine⟨_,g2,fun y=>?_⟩;show Ce (my y [(f,v)]) (if y=f then some u else none);by_cases q:y=f
   ·rw[if_pos q,q,rF];exact rv
   ·rw[if_neg q,bP,beq_eq_false_iff_ne.mpr q];trivial
  ·rw[aL zd]at e;by_cases zx:b=x
   ·rw[zx,aU]at e;cases e;rw[zx];exact Qd g1 e0 e1
   ·rw[aL zx]at e;refine(I.hok b u e).stay (fun c w hc g=>k c w (fun z=>?_) g) (fun c hc=>?_) fun c xs hc=>?_
    ·rcases hc with hc | hc
     ·exact zx (hc.symm.trans z)
     ·rw[z,hx]at hc;cases hc
    ·rw[hU c (fun z=>by rw[z,hx]at hc;cases hc) (hN c _ hc)];exact hc
    ·rw[hU c (fun z=>by rw[z,hx]at hc;cases hc) (hN c _ hc)];exact hc
def sXF(K:a9)(ta tv:TE)(f:cY):TS:=fun D σ H=>tv σ H fun y H1=>ta σ H1 fun xv H2=>∃x C,xv= .ref x/\H2 x=some (Bw x C none)/\XSt K C f/\∀dx,H2 dx=none->D.nx σ (upd (upd H2 x (Bw x C (some dx))) dx (.xd [(f,y)]))
def Y3{o oM:du}{ta tv:TE}{pos rk:mH}(ha:PE X o ta)(hv:PE X oM tv)(hs:dj oM (some (.Attribute o f rk)) pos.line X.env=pure false:=by rfl):PS X (.Assign [.Attribute o f rk] oM pos) (sXF X.K ta tv f):=by
 intro pins s σ H D I h;refine rl (lh (hv pins s σ H _ I h) fun u s1 ⟨y,H1,I1,ry,q⟩=>lh (ha pins s1 σ H1 _ I1 q) ?_) hs;rintro ov s2 ⟨xv,H2,I2,rx,x,C,ex,ea,c,q2⟩;subst ex;obtain rfl:ov=cj x:=rx;obtain⟨⟨vs,t,sl,e,e0,e1⟩,_,_⟩:=(show jK X.prog X.w H2 s2.heap x (Bw x C none)from I2.hok _ _ ea);exact a4h I2.BU c e rfl rfl rfl fun h' g1 g2 k=>⟨σ,_,I2.a2G ea ry g1 e0 e1 g2 k,q2 _ (I2.hok.fresh (ao _))⟩
def yC{k:Nat}{R f:aI}{ps:bS}{sp:Sp}{x m:cY}{p pos apos:mH}{es:jT}{t:TA}{pl:GX Bool}(F:mq X.prog X.w X.K X.mg X.base CX k f fd ps sp)(hr:fZ k X.A)(hg:Gl X x)(hm:X.mg x=some (.ref R))
  (h1:specialIn X.K (.ref R) "__getattribute__" =some (some (.builtin "type.__getattribute__")))(h2:um X.K R (.type "type")=true)(h3:mV X.K (.ref R) (.type "type") m=some (.val (.ref f)))(hk:i6 X.K (.ref f)=true)
  (hb:Binds X.K fd ps [])(hx:Passes CX X E)(ha:PA X (e::es) t)(xg:(x == ("__debug__":cY))=false:=by decide)(he:SE X e es:=by rfl)(hpl:ya X pos es:=by rfl)
  (ht:fX (.Call (.Attribute (.Name x p) m apos) (e::es) [] pos) X.env=(do
   let ov <-fX (.Name x p) X.env
   oH apos.atName
   let(f,first) <-kh [ov] (mf ov m pl)
   pk pos f first (nt pos (dM (e::es) X.env)) (mS pos (iX [] X.env))):=by rfl):
  PE X (.Call (.Attribute (.Name x p) m apos) (e::es) [] pos) (UH sp [] E t):=by
 intro pins s σ H Q I h;refine nu (pl:=pl) (wk I hg hm ?_ xg) ht;refine PySem.W.method_cls I.BU h1 (PySem.W.cls_value I.BU h2 h3 rfl ?_);refine kC (first:=[]) (h₀:=X.base) I.ok.mod.WU hk (lh (ha pos pins _ σ H _ (I.tok _) h) fun us s2 ⟨vs,H2,I2,r,q2⟩=>⟨I2.BU,?_⟩) he hpl;exact Ih (us:=us) (vs:=vs) F hr hb .nil hx I2 r q2
structure XMk(K:a9)(C f:aI):Prop where
 makes:DT K C=true
 init:lN K (.ref C) "__init__" =some (some (.ref f))
 fn:yP K (.ref f)=true
 kp:i6 K (.ref C)=true
 ty:typeIn K (.ref C)=some (.type "type")
def Ln{k:Nat}{C f:aI}{ps:bS}{sp:Sp}{Q:aI->Hp->Prop}{us:fk}{vs:cV}(M:XMk X.K C f)(F:mq X.prog X.w X.K X.mg X.base mx k f fd ps sp)(hr:fZ (k+1) X.A)(hb:Binds X.K fd ps [])(I:Inv X pins σ H s)(r:Vals vs us)(hl:us.length<=10)
  (h:∀x,H x=none->s.heap.objs.size<=x->sp (.ref x::vs) (upd H x (Bw x C none)) (fun v H2=>v= .fA/\Q x H2) E0):
  wj X (call (.ref C) us) (fun u s'=>∃x H',u= .ref x/\s.heap.objs.size<=x/\Inv X pins σ H' s'/\Q x H'/\∀b u,b≠x->H b=none->H' b=some u->s.heap.get? b=none) X.xe s:=by
 have hq:=h (s.heap.objs.size+1) (I.hok.fresh (qt _)) (qt _);have k1:∀b o,s.heap.get? b=some o->((s.heap.push (Kh us)).push (newX C s.heap.objs.size)).get? b=some o:=fun b o e=>af _ (af _ e);have g:((s.heap.push (Kh us)).push (newX C s.heap.objs.size)).get? (s.heap.objs.size+1)=some (newX C s.heap.objs.size):=by heap_get
 have I2:Inv X pins σ (upd H (s.heap.objs.size+1) (Bw (s.heap.objs.size+1) C none)) {s with heap:=(s.heap.push (Kh us)).push (newX C s.heap.objs.size)}:=I.laid (t':=s.toks) k1 (qt _) (Qd g rfl rfl);have r2:Vals (V.ref (s.heap.objs.size+1)::vs) (cj (s.heap.objs.size+1)::us):=.cons rfl r;have BA:(cj (s.heap.objs.size+1)::us++[]).length=ps.length:=by
  rw[dC,<-r2.length];exact F.len _ _ _ _ hq
 have hb2:=hb {s with heap:=(s.heap.push (Kh us)).push (newX C s.heap.objs.size)} (cj (s.heap.objs.size+1)::us) I2.BU BA;rw[dC]at hb2;obtain⟨hp,gg,dr,tk,os⟩:=s;refine sC (a2D (fI:=f) (SX I.BU M.makes) (Eu I.BU M.init) (fun self=>bind_fn I.BU self (beq_iff_eq.mp M.fn)) (bq hl ck) (qX (F.run _ X.stack _ _ ⟨cj (hp.objs.size+1)::us,[]⟩ (cj (hp.objs.size+1)::us) _ _ E0 (hr.make C us [])
  (I2.a05.make C us []) hb2 r2 hq) fun r s' Ht=>?_))
 cases r with
 | error e=>exact Ht.elim
 | ok fl=>
  cases fl with
  | ret u=>
   obtain⟨v,H',os',bare,un,hok,rv,ev,q3⟩:=Ht;subst ev;refine⟨rv,hp.objs.size+1,H',rfl,qt _,I2.Ul os' un hok bare (fun b z=>absurd z (!1)),q3,fun b u hb hn hs=>?_⟩
   cases e:hp.get? b with
   | none=>rfl
   | some o=>
    have z:=un.free b o (k1 b o e) (by rw[aL hb];exact hn) (!1);rw[hs]at z;exact nomatch z
  | next=>exact gN Ht
  | brk=>exact gN Ht
  | cont=>exact gN Ht
def _root_.L2.Inv.drop{x dx C:aI}{fs:nz}{d:rj}(I:Inv X pins σ H s)(hx:H x=some (Bw x C d))(hd:H dx=some (.xd fs))(e:H'=fun b=>if b=x\/b=dx then none else H b):Inv X pins σ H' s:=by
 subst e
 have hn:∀b,H b=none->(if b=x\/b=dx then none else H b)=none:=fun b h=>by split<;>first | rfl | exact h
 have hk:∀b u,H b=some u->(∀φ,u≠ .ext φ)->(∀fs,u≠ .xd fs)->(if b=x\/b=dx then none else H b)=some u:=fun b u h n1 n2=>by
  rw[if_neg]
  ·exact h
  ·rintro(z | z)
   ·rw[z,hx]at h;cases h;exact n1 _ rfl
   ·rw[z,hd]at h;cases h;exact n2 _ rfl
 refine⟨I.ok,I.os,I.bare,⟨I.base.keep,I.base.slot,fun b o g n hb=>hn b (I.base.free b o g n hb),I.base.there,fun b xs g=>hk b _ (I.base.tups b xs g) (fun _=>nofun) (fun _=>nofun),fun b o u g=>hk b _ (I.base.HR b o u g) (fun _=>nofun) (fun _=>nofun),fun b ps g=>?_⟩,
  I.loc,I.cell,hn _ I.free,fun y c g=>hn _ (I.uq y c g),fun p hp=>?_,fun b u g=>?_,I.len⟩
 ·obtain⟨m,z⟩:=I.base.K2 b ps g;exact⟨m,hk b _ z (fun _=>nofun) (fun _=>nofun)⟩
 ·obtain⟨a1,a2,a3⟩:=I.pin p hp;exact⟨a1,hn _ a2,a3⟩
 ·split at g
  ·cases g
  ·exact(I.hok b u g).stay (fun _ _ _ q=>q) (fun c hc=>hk c _ hc (fun _=>nofun) (fun _=>nofun)) fun c xs hc=>hk c _ hc (fun _=>nofun) (fun _=>nofun)
end
open PySem.W (looks_specialIn looks_instIn specialIn instIn typeIn bind_fn check_slot InitBack InstAt looks_typeIn)
def Y4(K:a9)(R:cV->Int->Prop):Sp:=fun vs H Q E=>∃x C rest n,vs= .ref x::rest/\R rest n/\XF K C "number"/\H x=some (Bw x C none)/\∀dx,H dx=none->Q .fA (upd (upd H x (Bw x C (some dx))) dx (.xd [("number",.int n)]))
section
variable {X:Cx}{pins:List (aI×uC)}{σ:L2.St}{H:Hp}{s:ai}
def Ox{x:GX aH}{Q:Flow->ai->Prop}{M:AA}{A:dD}{E:aH->ai->Prop}(hh:A.handled=none)
  (h:bO M A x (fun v s1=>∃a C oc d vs sl,v= .ref a/\s1.heap.get? a=some ⟨.ref C,d,.fields vs,sl⟩/\vs[1]? =some .none/\lO M s1.heap (qv (.ref C) (.type "BaseException")) true/\s1.heap.get? C=some oc/\oc.cls= .type "type"/\E (.ref a) s1) E s):bO M A (raiseStmt env (some x) none) Q E s:=by
 unfold raiseStmt;refine ae (ik h (fun v s1 h1=>?_) fun _ _ z=>z);obtain⟨a,C,oc,d,vs,sl,rfl,ha,hv,a1s,hC,hct,hE⟩:=h1;obtain⟨hp,g,dr,tk,os⟩:=s1;obtain⟨c0,c1,c2,c3⟩:=oc;dsimp only at hct ha hC;subst hct;have ha':=ha;unfold excFromValue isExcClass raisedInstance sP
 repeat(first | lk | with_reducible refine wpAny_loadPart_at ha ?_ | with_reducible refine wpAny_loadPart_at hC ?_ | wp_step)
 rw[hv];refine aG ?_;rw[if_neg ck];exact aG (wpAny_raiseNew_none hh hE)
def Lo{XC:aI->Prop}{E:XK}{x C:aI}{H':Hp}{s':ai}{n:Int}(hr:xB XC X E)(hXC:XC C)(I:Inv X pins σ H s)(I':Inv X pins σ H' s')(hx:s.heap.objs.size<=x)(hHx:H x=none)(hn:∀b u,b≠x->H b=none->H' b=some u->s.heap.get? b=none)
  (hq:∃dx,(upd H x (Bw x C none)) dx=none/\H'=upd (upd (upd H x (Bw x C none)) x (Bw x C (some dx))) dx (.xd [("number",.int n)]))(hE:E (xn n) none H)(a1s:xM X.K C (.type "BaseException")=some true)(hty:typeIn X.K (.ref C)=some (.type "type")):
  ∃a C oc d vs sl,cj x= .ref a/\s'.heap.get? a=some ⟨.ref C,d,.fields vs,sl⟩/\vs[1]? =some .none/\lO (c9 X.prog X.w) s'.heap (qv (.ref C) (.type "BaseException")) true/\s'.heap.get? C=some oc/\oc.cls= .type "type"/\X.xe (.ref a) s':=by
 obtain⟨dx,hd,rfl⟩:=hq;have uN:dx≠x:=fun z=>by rw[z,aU]at hd;exact nomatch hd
 have hHd:H dx=none:=by rw[aL uN]at hd;exact hd
 have e1:(upd (upd (upd H x (Bw x C none)) x (Bw x C (some dx))) dx (.xd [("number",.int n)])) x=some (Bw x C (some dx)):=by rw[aL uN.symm,aU]
 have e2:(upd (upd (upd H x (Bw x C none)) x (Bw x C (some dx))) dx (.xd [("number",.int n)])) dx=some (.xd [("number",.int n)]):=aU;have e3:H=fun b=>if b=x\/b=dx then none else(upd (upd (upd H x (Bw x C none)) x (Bw x C (some dx))) dx (.xd [("number",.int n)])) b:=funext fun b=>by
  by_cases z1:b=x
  ·rw[if_pos (.inl z1),z1];exact hHx
  ·by_cases z2:b=dx
   ·rw[if_pos (.inr z2),z2];exact hHd
   ·rw[if_neg (by rintro(z | z)<;>contradiction),aL z2,aL z1,aL z1]
 have I2:=I'.drop e1 e2 e3;obtain⟨⟨vs,t,sl,g1,g2,g3⟩,_,_⟩:=(show jK X.prog X.w _ s'.heap x (Bw x C (some dx))from I'.hok _ _ e1);obtain⟨mA,g4,g5⟩:=(show jK X.prog X.w _ s'.heap dx (.xd [("number",.int n)])from I'.hok _ _ e2);have g6:=g5 "number";rw[rF]at g6;obtain⟨oc,hoc,hct⟩:=Option.map_eq_some_iff.mp hty;refine⟨x,C,oc,some dx,vs,sl,rfl,g1,g3,kl I'.BU a1s,I'.BU _ _ hoc,hct,?_⟩;have hm:∃t,mA "number" =some (.int n t):=by
  cases q:mA "number" with
  | none=>rw[q]at g6;exact g6.elim
  | some u=>
   rw[q]at g6;obtain⟨t,rfl⟩:=(show ∃t,u=uW n t from g6);exact⟨t,rfl⟩
 obtain⟨t2,hm⟩:=hm;exact hr pins σ H s' x dx n s H I I2 ⟨⟨⟨_,vs,C,mA,t2,g1,rfl,hXC,rfl,rfl,g3,g4,hm⟩,(fun T h=>nomatch h),uN⟩,hx,hn dx _ uN hHd e2,(fun T h=>nomatch h),hHx,hHd,(fun T h=>nomatch h)⟩ hE
structure XR(K:a9)(XC:aI->Prop)(C f:aI):Prop where
 mak:XMk K C f
 xf:XF K C "number"
 sub:xM K C (.type "BaseException")=some true
 xc:XC C
variable {XC:aI->Prop}{E:XK}{k:Nat}{C f:aI}{fd:iL}{ps:bS}{R:cV->Int->Prop}{x:cY}{np jb pos:mH}{e:du}{es:jT}{t:TA}
def VS(hr:xB XC X E)(hc:X.calm=true)(M:XR X.K XC C f)(F:mq X.prog X.w X.K X.mg X.base mx k f fd ps (Y4 X.K R))(hrm:fZ (k+1) X.A)(hb:Binds X.K fd ps [])(hg:Gl X x)(hm:X.mg x=some (.ref C))(ha:PA X (e::es) t)(hes:es.length<=5)(xg:(x == ("__debug__":cY))=false:=by decide)
  (he:SE X e es:=by rfl)(hpl:ya X jb es:=by rfl):
  PS X (.Raise (some (.Call (.Name x np) (e::es) [] jb)) none pos) (fun _ σ H=>t σ H fun vs H1=>∃n,vs.length<=10/\R vs n/\E (xn n) none H1):=by
 intro pins s σ H D I h;rw[arm_exec_Raise];refine ae (mZ (Ox (I.ok.hd hc) ?_));refine ae (m:=fX (.Call (.Name x np) (e::es) [] jb) X.env) ?_;refine gA (wk I hg hm ?_ xg);refine kC (h₀:=X.base) I.ok.mod.WU M.mak.kp (lh (ha jb pins s σ H _ I h) fun us s1 ⟨vs,H1,I1,r,n,hl,hR,hE⟩=>⟨I1.BU,?_⟩) he hpl;refine lh (Ln (Q:=fun x H2=>H1 x=none/\∃dx,(upd H1 x (Bw x C none)) dx=none/\H2=upd (upd (upd H1 x (Bw x C none)) x (Bw x C (some dx))) dx (.xd [("number",.int n)])) M.mak F hrm hb I1 r (by rw[zA,<-r.length];exact hl)
  fun y hy _=>⟨y,C,vs,n,rfl,hR,M.xf,aU,fun dx hdx=>⟨rfl,hy,dx,hdx,rfl⟩⟩) fun u s2 ⟨y,H2,eu,hz,I2,⟨hy,hq⟩,hn⟩=>?_
 subst eu;exact ae (mZ (aG (Lo hr M.xc I1 I2 hz hy hn hq hE M.sub M.mak.ty)))
def SY(hr:xB XC X E)(hc:X.calm=true)(M:XR X.K XC C f)(F:mq X.prog X.w X.K X.mg X.base mx k f fd ps (Y4 X.K R))(hrm:fZ (k+1) X.A)(hb:Binds X.K fd ps [])(hg:Gl X x)(hm:X.mg x=some (.ref C))(xg:(x == ("__debug__":cY))=false:=by decide):
  PS X (.Raise (some (.Call (.Name x np) [] [] jb)) none pos) (fun _ σ H=>∃n,R [] n/\E (xn n) none H):=by
 intro pins s σ H D I h;obtain⟨n,hR,hE⟩:=h;rw[arm_exec_Raise];refine ae (mZ (Ox (I.ok.hd hc) ?_));refine ae (m:=fX (.Call (.Name x np) [] [] jb) X.env) ?_;refine gA (wk I hg hm ?_ xg);refine uF I.BU M.mak.kp ?_;refine lh (Ln (us:=[]) (vs:=[]) (Q:=fun x H2=>H x=none/\∃dx,(upd H x (Bw x C none)) dx=none/\H2=upd (upd (upd H x (Bw x C none)) x (Bw x C (some dx))) dx (.xd [("number",.int n)])) M.mak F hrm hb I .nil (gW _)
  fun y hy _=>⟨y,C,[],n,rfl,hR,M.xf,aU,fun dx hdx=>⟨rfl,hy,dx,hdx,rfl⟩⟩) fun u s2 ⟨y,H2,eu,hz,I2,⟨hy,hq⟩,hn⟩=>?_
 subst eu;exact ae (mZ (aG (Lo hr M.xc I I2 hz hy hn hq hE M.sub M.mak.ty)))
end
section
variable {X:Cx}{E:XK}{ρ:br}{XC:aI->Prop}{k:Nat}{C f:aI}{fd:iL}{ps:bS}{R:cV->Int->Prop}{x:cY}{np jb pos:mH}{e:du}{i n:Int}
def Fe(hr:xB XC X E)(hc:X.calm=true)(M:XR X.K XC C f)(F:mq X.prog X.w X.K X.mg X.base mx k f fd ps (Y4 X.K R))(hrm:fZ (k+1) X.A)(hb:Binds X.K fd ps [])(hm:X.mg x=some (.ref C))(hR:R [] n)(hg:Gl X x:=by rfl)(xg:(x == ("__debug__":cY))=false:=by decide):
  Ex X E ρ (.Raise (some (.Call (.Name x np) [] [] jb)) none pos) (.exc n):=
 eX (SY hr hc M F hrm hb hg hm xg) fun Dn σ H ⟨GI,HI,G,S,q⟩=>⟨n,hR,q G H S.ext⟩
def a2H{K:a9}{mg:MG}{x fO:cY}{st:di}{N ps:bS}{k:Nat}{R:bM->Out->Prop}(F:Hi K x fO st f fd)(S:ba N ps (aj st))
  (len:∀args out,R args out->args.length=ps.length)
  (hb:∀(dw:aH) (A:dD) (outer:iC) (s:ai) (H:Hp) (E:XK),fZ k (A.deeper (jQ fO (aj st) s.heap.objs.size f dw))->∀args out,R args out->
   ∃oc,wM (vW (Lm XC P w) P w K mg base N fO (aj st) f dw A outer s H E) E (fN N args) (aX st) oc/\Fin oc out):mq P w K mg base (Lm XC P w) (k+1) f fd ps (Xp K R):=by
 obtain⟨oc,od,kV,doc,pm,an,dw,ct,OW,rfl,lk,qx⟩:=F.ex;refine QX lk qx S (by rintro vs H Q E ⟨G,args,out,s,r,h,_⟩;rw[r.length];exact len _ _ h) ?_;rintro A outer s H vs Q E hr ⟨G,args,out,sm,r,h,q⟩;obtain⟨oc,hx,hf⟩:=hb dw A outer s H E hr args out h;have hl:args.length<=N.length:=by
  rw[len _ _ h];have:=congrArg oa S.pre;rw[fY]at this;omega
 refine⟨_,hx,?_⟩
 cases out with
 | ok d=>exact DA (out:=.ok d) (R:=R) sm r hl hf q
 | exc n=>exact DA (out:=.exc n) (R:=R) sm r hl hf q
end
def oR{XC:aI->Prop}{K:a9}{mg:MG}{st:di}{N ps:bS}{k:Nat}{R:bM->Out->Prop}(T:tF K mg x st)(S:ba N ps (aj st))
  (hb:∀(f:aI) (dw:aH) (A:dD) (outer:iC) (s:ai) (H:Hp) (E:XK),fZ k (A.deeper (jQ x (aj st) s.heap.objs.size f dw))->∀args out,R args out->
   ∃oc,wM (vW (Lm XC P w) P w K mg base N x (aj st) f dw A outer s H E) E (fN N args) (aX st) oc/\Fin oc out)(bi:∀(kV doc pm:aH) (an:rj) (dw ct:aH) (us:fk),us.length=ps.length->xE (fF x x (nA st) (aX st) (aj st) .none kV doc pm an dw ct) ⟨us,[]⟩=pure (ps.zip us):=by walk_at "b")(len:∀args out,R args out->args.length=ps.length:=by walk_at "l"):FG P w K mg base (Lm XC P w) x (k+1) R:=by
 obtain⟨f,fd,F,hm⟩:=T.ex;exact⟨f,fd,ps,a2H F S len (hb f),hm,F.kp,F.binds bi⟩
open PySem.W (looks_specialIn looks_instIn specialIn instIn typeIn bind_fn check_slot InitBack InstAt looks_typeIn looks_hook looks_find findObj handedIn handedOut_of)
structure XCl(K:a9)(R C:aI):Prop where
 sub:xM K C (.ref R)=some true
 bas:xM K C (.type "BaseException")=some true
 ga:lN K (.ref C) "__getattribute__" =some (some (.builtin "BaseException.__getattribute__"))
 a2I:lN K (.ref C) "__getattr__" =some none
 nn:lN K (.ref C) "number" =some none
 hd:nG K C=true
structure RCl(K:a9)(R:aI):Prop where
 ty:typeIn K (.ref R)=some (.type "type")
 bas:xM K R (.type "BaseException")=some true
section
variable {prog:bp}{w:cH}{A:dD}{E:aH->ai->Prop}{K:a9}{x C R:aI}{v:aH}{name:cY}
def a0X{s:ai}{ox:uC}{Q:Bool->ai->Prop}(X:K.In s.heap)(hx:s.heap.get? x=some ox)(hc:ox.cls= .ref C)(Y:XCl K R C)(Z:RCl K R)(h:Q true s):bO (c9 prog w) A (excMatches (.ref x) (.ref R)) Q E s:=by
 obtain⟨hp,g,dr,tk,os⟩:=s;dsimp only at X hx;have t1:lO (c9 prog w) hp (JP (.ref x)) (.ref C):=hc▸(JV hx).andThen .now;have t2:lO (c9 prog w) hp (JP (.ref R)) (.type "type"):=looks_typeIn X Z.ty;have t3:lO (c9 prog w) hp (vQ (.ref R) (.type "tuple")) false:=t2.andThen (Kr tc_notTuple);have t4:lO (c9 prog w) hp (qv (.ref R) (.type "BaseException")) true:=kl X Z.bas;have t5:lO (c9 prog w) hp (qv (.ref C) (.ref R)) true:=kl X Y.sub;obtain⟨cd,qx,_⟩:=xN.mp Z.bas;have hC:∃c0 d0 s0,hp.get? R=some ⟨c0,d0,.cls cd,s0⟩:=by
  unfold LC at qx;split at qx
  ·rename_i ho;cases qx;exact⟨_,_,_,X _ _ ho⟩
  ·cases qx
 obtain⟨c0,d0,s0,hC⟩:=hC;unfold excMatches isExcClass
 repeat(first | lk | wp_step)
 all_goals exact h
def a4j{s:ai}{ox od:uC}{expr:Bool}{Q:aH->ai->Prop}(X:K.In s.heap)(I:InstAt s.heap x ox C (some od))(Y:XCl K R C)(hf:findObj K C (some od) name=some (.value v))(hh:handedIn v=true)(h:Q v {s with toks:=s.toks+1}):bO (c9 prog w) A (getAttr (.ref x) name expr) Q E s:=by
 have L0:=I.type (M:=c9 prog w);have sub:lO (c9 prog w) s.heap (vQ (.ref x) (.type "BaseException")) true:=L0.andThen (kl X Y.bas);have FB:=PySem.F.attrBase_Exception;refine ae (wpAny_mkText (iE (ae (L0 _ _ _ _ (fun _ _ e=>e) (ae (Eu X Y.ga _ _ _ _ (fun _ _ e=>e) ?_))))));dsimp only;have q1:(onTheHeap (cj C) && pB "BaseException.__getattribute__" == pB "object.__getattribute__")=false:=by
  rw[show(pB "BaseException.__getattribute__" == pB "object.__getattribute__")=false from by decide+kernel,o9]
 rw[q1,if_neg ck];have hb:lO (c9 prog w) s.heap (hookBefore (.ref C)) none:=looks_hook X (by rw[if_pos (show onTheHeap (cj C)=true from rfl)];exact Y.a2I);refine ae (hb _ _ _ _ (fun _ _ e=>e) (ae (t6 (iE ?_))));unfold callGetattribute;rw[show(expr && onTheHeap (pB "BaseException.__getattribute__"))=false from o9 _,if_neg ck];unfold boundAndCalled;rw[FB.ga.bind];refine ae (aG ?_);show bO _ _ (call (.builtin "BaseException.__getattribute__") [.ref x,.str name s.toks]) _ _ _;refine sC (tW FB.ga.plain PySem.F.entry_bexc_ga ?_);refine @check_slot (c9 prog w) _ _ {s with toks:=s.toks+1} "BaseException.__getattribute__" "BaseException" "__getattribute__" (.ref x) [.str name s.toks] [] _ (by decide+kernel) (by decide+kernel) sub (PySem.F.args_bexc_ga (.ref x) (.str name s.toks)) ?_;have L1:=looks_find (M:=c9 prog w) X I hf;obtain⟨hp,g,dr,tk,os⟩:=s;dsimp only at L0 L1 ⊢;unfold oI.«object.__getattribute__»
 repeat(first | lk | wp_step)
 show bO _ _ (handedOut v) _ _ _;rw[handedOut_of hh];exact aG h
end
abbrev Ki(X:Cx)(pins:Pn)(W:aH->ai->Prop):Cx:={X with pn:=X.pn++pins,xe:=W}
abbrev vD(X:Cx)(pn:Pn)(e:aH):Cx:={X with A:=X.A.mark (some e),calm:=false,pn:=pn,xe:=fun _ _=>False}
section
variable {X:Cx}{pins QO:List (aI×uC)}{σ:L2.St}{H:Hp}{s:ai}{W:aH->ai->Prop}
def a0Y(ok:X.Ok):(Ki X pins W).Ok:=⟨ok.mod,ok.kind,ok.glob,ok.blt,ok.above,ok.inj,ok.has,ok.YF,ok.hd,ok.frames,ok.stk,ok.ZO,ok.bs,ok.Si,ok.NC,ok.ND,ok.Bq,ok.WE⟩
def Oy(ok:(Ki X pins W).Ok):X.Ok:=⟨ok.mod,ok.kind,ok.glob,ok.blt,ok.above,ok.inj,ok.has,ok.YF,ok.hd,ok.frames,ok.stk,ok.ZO,ok.bs,ok.Si,ok.NC,ok.ND,ok.Bq,ok.WE⟩
def VT{pn:Pn}(ok:X.Ok):(vD X pn e).Ok:=⟨ok.mod,ok.kind,ok.glob,ok.blt,ok.above,ok.inj,ok.has,ok.YF,(fun h=>nomatch h),ok.frames,ok.stk,ok.ZO,ok.bs,ok.Si,ok.NC,ok.ND,ok.Bq,ok.WE⟩
def Y5(I:Inv X pins σ H s):Inv (Ki X pins W) [] σ H s:=⟨a0Y I.ok,I.os,I.bare,I.base,I.loc,I.cell,I.free,I.uq,fun p hp=>I.pin p (by simpa using hp),I.hok,I.len⟩
def Ff(I:Inv (Ki X pins W) QO σ H s):Inv X pins σ H s:=⟨Oy I.ok,I.os,I.bare,I.base,I.loc,I.cell,I.free,I.uq,fun p hp=>I.pin p (gz _ hp),I.hok,I.len⟩
def a0Z(D:Ends):XK:=fun c _ H'=>∀n,c=xn n->∀r,H' r=none->D.rt (.ref r) (upd H' r (.lst [.int n]))
variable {R:aI}{rn n:cY}{i:Nat}{p p2 p3 p4 p5 Kl pos:mH}{body:iT}
def T1{Y:Cx}{a dx C:aI}{oe od:uC}{m:Int}(hpa:(a,oe)∈Y.pn)(hpd:(dx,od)∈Y.pn)(hc:oe.cls= .ref C)(hd:oe.dict=some dx)(hf:∃vs,oe.data= .fields vs)(Yc:XCl Y.K R C)(hl:∃t,qW "number" od=some (some (.int m t)))
  (hN:Y.N[i]? =some n)(hv:KS Y.env.scope n)(xg:(n == ("__debug__":cY))=false)(qx:(n == ("__classdict__":cY))=false)(hb:pj (.Name n p2) "number" Y.env (fX (.Name n p2) Y.env)=fX (.Name n p2) Y.env):
  PE Y (.Attribute (.Name n p2) "number" p3) (fun σ H Q=>σ[i]? =some (some (.ref a))/\Q (.int m) H):=by
 intro pins s σ H Q I h;obtain⟨hσ,q⟩:=h;obtain⟨t,hl⟩:=hl;obtain⟨vs,hf⟩:=hf;refine QU hb (lh (nP hN hv xg qx pins s σ H (fun v H'=>v= .ref a/\H'=H) I ⟨.ref a,hσ,rfl,rfl⟩) ?_);rintro u s1 ⟨x,H1,I1,rx,ex,eH⟩;subst ex eH;obtain rfl:u=cj a:=rx;have g1:=(I1.pin (a,oe) (gz _ hpa)).1;have g2:=(I1.pin (dx,od) (gz _ hpd)).1;refine a4j I1.BU (od:=od) ⟨g1,hc,by unfold JW;rw[hf],by rw[hd];exact g2⟩ Yc (BB Yc.hd Yc.nn rfl hl) rfl ?_;exact⟨.int m,_,I1.tok _,⟨t,rfl⟩,q⟩
def a10{XC:aI->Prop}{tb:XK->TS}(hXC:∀C,XC C->XCl X.K R C)(vU:X.stack=X.env::X.outer)(Jy:X.env.frame=some X.env.locals)(hex:X.ex=[])(Yu:X.env.cells=[])(hN:X.N.Nodup)(hi:X.N[i]? =some n)(hl:X.env.scope.names.lookup n=some .local)(hc:X.calm=true)(hg:Gl X rn)(hm:X.mg rn=some (.ref R))(Z:RCl X.K R)
  (hb:∀pins W E1,Passes (Lm XC X.prog X.w) (Ki X pins W) E1->FX (Ki X pins W) body (tb E1))
  (xg:(n == ("__debug__":cY))=false:=by decide)(qx:(n == ("__classdict__":cY))=false:=by decide)(a4k:(rn == ("__debug__":cY))=false:=by decide)(Tz:∀pn e,pj (.Name n p2) "number" (vD X pn e).env (fX (.Name n p2) (vD X pn e).env)=fX (.Name n p2) (vD X pn e).env:=by intro _ _;rfl)
  (TQ:∀pn e,dM [.Attribute (.Name n p2) "number" p3] (vD X pn e).env=[(false,fX (.Attribute (.Name n p2) "number" p3) (vD X pn e).env)]:=by intro _ _;rfl):
  PS X (.Try body [.ExceptHandler (some (.Name rn p)) (some n) [.Return (some (.List [.Attribute (.Name n p2) "number" p3] p4)) p5] Kl] [] [] pos) (fun D σ H=>tb (a0Z D) {D with nx:=fun _ _=>False} σ H):=by
 intro pins s σ H D I h;refine wpAny_Try_except ?_;have pass:Passes (Lm XC X.prog X.w) (Ki X pins (fun e s₁=>wj X (sL e X.env) (fun _ s₂=>wj X (sP e none) (fun _ s₃=>wj X (handleBy e X.env [.ExceptHandler (some (.Name rn p)) (some n) [.Return (some (.List [.Attribute (.Name n p2) "number" p3] p4)) p5] Kl]) (SP X pins D) X.xe s₃) X.xe s₂) X.xe s₁)) (a0Z D):=by
  intro a53 σ1 H1 s1 e s' I1 hx;obtain⟨a,dx,T,m,H',rfl,I2,F,hE⟩:=VR I1 hx;obtain⟨_,⟨oL,_,_,gL,_⟩,_⟩:=id I1.loc;refine Rz (X:=Ki X pins _) I2 vU Jy (F.low I1 hex) ⟨jy gL (ao _) F.za,fun T h=>jy gL (ao _) (F.zt T h)⟩ (fun x c hc=>?_) (fun q hq=>?_) fun h3 T3 I3 F3=>?_
  ·obtain⟨v,o,g,_⟩:=I1.cell x c hc;exact⟨jy g (ao _) F.za,fun T h=>jy g (ao _) (F.zt T h)⟩
  ·obtain⟨g,_⟩:=I1.pin q hq;exact⟨jy g (ao _) F.za,fun T h=>jy g (ao _) (F.zt T h)⟩
  ·obtain⟨⟨oe,vs,C,mm,tt,e1,e2,e3,e4,e5,e6,e7,e8⟩,f2,f3⟩:=F3.at_;obtain⟨od,g7,l7⟩:=L4 e7;have Yc:=hXC C e3;have hLa:a≠X.env.locals:=fun z=>jy gL (ao _) F.za z.symm;have hLd:dx≠X.env.locals:=fun z=>by
    have:=F.nd;rw[z,gL]at this;cases this
   have hfs:∀b,b∈X.fs->∃o,s1.heap.get? b=some o:=fun b hb=>by
    obtain⟨_,o,ho,_⟩:=I1.Bq.mem hb;exact⟨o,ho⟩
   have a2J:∀q∈X.pn++pins++[(a,oe),(dx,od)],h3.get? q.1=some q.2/\H' q.1=none/\q.1≠X.env.locals/\q.1∉X.fs/\∀v,q.2.data≠ .cell v:=fun q hq=>by
    rcases f7.mp hq with hq | hq
    ·exact I3.pin q (gz _ hq)
    ·have Ht:q=(a,oe)\/q=(dx,od):=by simpa using hq
     rcases Ht with rfl | rfl
     ·refine⟨e1,F3.ha,hLa,fun z=>?_,fun v z=>?_⟩
      ·obtain⟨o,ho⟩:=hfs _ z;exact jy ho (ao _) F.za rfl
      ·rw[e5]at z;cases z
     ·refine⟨g7,F3.hd,hLd,fun z=>?_,fun v z=>?_⟩
      ·obtain⟨o,ho⟩:=hfs _ z;have:=F.nd;rw[ho]at this;cases this
      ·obtain⟨o',es,ep,q1,q2,_⟩:=e7;rw[g7]at q1;cases q1;rw[q2]at z;cases z
   have I4:Inv (vD X (X.pn++pins++[(a,oe),(dx,od)]) (.ref a)) [] σ1 H' {s' with heap:=h3}:=
    ⟨VT (Oy I3.ok),I3.os,I3.bare,I3.base,I3.loc,I3.cell,I3.free,I3.uq,fun q hq=>a2J q (by simpa using hq),I3.hok,I3.len⟩
   refine wpAny_handleBy_cons (codeAny_handlers_test (wk (X:=vD X _ (.ref a)) I4 hg hm (a0X I4.BU e1 e2 Yc Z ?_) a4k)) (by intro q;cases q);refine codeAny_handlers_suite_as ?_;obtain⟨_,_,oT,ts,t1,t2,t3⟩:=f2 T3 rfl;refine wpAny_setFlight_none e1 e5 e6 t1 t2 (fj.mp t3).1 ?_;rw[cy.update_setField_same h3 T3 oT ts 3 .none t1 t2 t3];refine HV (X:=vD X _ (.ref a)) (v:=.ref a) I4 hN hi (.inl hl) rfl (fun s5 I5=>?_) (.inr hl);have iσ:i<σ1.length:=by rw[I4.len];exact(ag.mp hi).1
   have key:PE (vD X (X.pn++pins++[(a,oe),(dx,od)]) (.ref a)) (.Attribute (.Name n p2) "number" p3) (fun σ H Q=>σ[i]? =some (some (.ref a))/\Q (.int m) H):=
    T1 (Y:=vD X (X.pn++pins++[(a,oe),(dx,od)]) (.ref a)) (oe:=oe) (od:=od) (dx:=dx) (eF _ aQ) (eF _ (az _ aQ)) e2 e4 ⟨vs,e5⟩ Yc ⟨tt,by rw[l7,e8]⟩ hi (.inl hl) xg qx (Tz _ _)
   refine ik (lP (HW (vf (iz key nh (TQ _ _)))) [] s5 _ H' {nx:=fun _ _=>False,rt:=D.rt} I5 ⟨bt iσ,by show 1<=bC;decide,fun r hr=>hE m rfl r hr⟩) (fun f s6 hs=>?_) (fun _ _ z=>z.elim)
   cases f with
   | next=>obtain⟨_,_,_,q⟩:=hs;exact q.elim
   | brk=>obtain⟨_,_,_,q⟩:=hs;exact q.elim
   | cont=>obtain⟨_,_,_,q⟩:=hs;exact q.elim
   | ret u=>
    obtain⟨v,σ6,H6,I6,r6,q6⟩:=hs;obtain⟨m6,n6,_⟩:=id I6.loc;have a1q:(X.env.scope.kind == .class || (X.env.scope.kind == .module && X.env.locals != X.env.globals))=false:=by rw[I.ok.kind];rfl
    refine wpAny_nameGoes hl n6 a1q fun h7 m7 n7 k7=>?_;refine⟨v,aY X.N.length none,H6,⟨I.ok,I6.os,I6.bare,⟨fun b o g hn hb hx=>?_,fun b o g hn hb hx=>?_,I6.base.free,fun b o g hx=>?_,I6.base.tups,I6.base.HR,I6.base.K2⟩,⟨m7,n7,fun j y v' a1 a2 a3=>?_⟩,fun y c hy=>?_,I6.free,I6.uq,fun q hq=>?_,fun b u hu=>?_,by simp⟩,r6,q6⟩
    ·exact(k7.2 b (cC (bz (aM g) I.ok.above))).trans (I6.base.keep b o g hn hb hx)
    ·obtain⟨sl,z⟩:=I6.base.slot b o g hn hb hx;exact⟨sl,(k7.2 b (cC (bz (aM g) I.ok.above))).trans z⟩
    ·obtain⟨o',z⟩:=I6.base.there b o g hx;exact⟨o',(k7.2 b (cC (bz (aM g) I.ok.above))).trans z⟩
    ·rw[iw]at a2
     split at a2<;>cases a2
    ·rw[Yu]at hy;cases hy
    ·obtain⟨a1,a2,a3,a4⟩:=I6.pin q (gz _ (gz _ hq));exact⟨(k7.2 q.1 a3).trans a1,a2,a3,a4⟩
    ·refine(I6.hok b u hu).stay (fun c w hc g=>(k7.2 c (fun z=>?_)).trans g) (fun _ z=>z) fun _ _ z=>z;rcases hc with hc | hc
     ·rw[<-hc,z,I6.free]at hu;cases hu
     ·rw[z,I6.free]at hc;cases hc
 refine ik (hb pins _ (a0Z D) pass [] s σ H _ (Y5 I) h) (fun f s1 hs=>?_) (fun e s1 z=>z)
 cases f with
 | next=>obtain⟨_,_,_,q⟩:=hs;exact q.elim
 | brk=>obtain⟨σ',H',I',q⟩:=hs;exact⟨σ',H',Ff I',q⟩
 | cont=>obtain⟨σ',H',I',q⟩:=hs;exact⟨σ',H',Ff I',q⟩
 | ret u=>obtain⟨v,σ',H',I',r,q⟩:=hs;exact⟨v,σ',H',Ff I',r,q⟩
end
end Dl
namespace Pg
open PySem PySem.Spec PyProof.Rows L2 Dl
open PySem.W (specialIn typeIn)
structure XT(K:a9)(mg:MG)(Z:Ad)(x fO:cY)(st:di)(C:aI):Prop where
 mg:mg x=some (.ref C)
 ex:∃f fd,Hi K "__init__" fO st f fd/\XR K (XCl K Z.qN) C f
structure Bx(P:bp)(K:a9)(mg:MG)(base:cy)(Z:Ad):Prop extends Bs P K mg base Z where
 exc:mg "Exception" =none
 kRef:mg "Refusal" =some (.ref Z.qN)
 Y6:∃f fd,Hi K "__init__" "Refusal.__init__" vt f fd/\specialIn K (.ref Z.qN) "__getattribute__" =some (some (.builtin "type.__getattribute__"))/\um K Z.qN (.type "type")=true/\
  mV K (.ref Z.qN) (.type "type") "__init__" =some (.val (.ref f))
 rcl:RCl K Z.qN
 a4l:XT K mg Z "OutOfRange" "OutOfRange.__init__" qD Z.Oa
 a4m:XT K mg Z "NotMeasured" "NotMeasured.__init__" pR Z.Mj
 a4n:XT K mg Z "NoShare" "NoShare.__init__" vw Z.Vq
 a4o:XT K mg Z "WrongText" "WrongText.__init__" rV Z.PU
 cQ:∃t,mg "QUANTITIES" =some (.int 3 t)
 cMB:∃t,mg "MOST_BYTES" =some (.int 400 t)
 cMV:∃t,mg "MOST_VALUE" =some (.int 1000000000 t)
 cMW:∃t,mg "MOST_WEIGHT" =some (.int 1000000 t)
 cMF:∃t,mg "MOST_IN_FRACTION" =some (.int 1000000000000 t)
 cML:∃t,mg "MOST_LETTERS" =some (.int 8 t)
 cMS:∃t,mg "MOST_STREAMS" =some (.int 12 t)
 cMN:∃t,mg "MOST_NODES" =some (.int 8 t)
 cBl:∃t,mg "BLANK" =some (.int 32 t)
 cCm:∃t,mg "COMMA" =some (.int 44 t)
 cCl:∃t,mg "COLON" =some (.int 58 t)
 cAr:∃t,mg "ARROW" =some (.int 62 t)
 cFL:∃t,mg "FIRST_LETTER" =some (.int 97 t)
 cLL:∃t,mg "LAST_LETTER" =some (.int 122 t)
 cTE:∃t,mg "TEXT_END" =some (.int (-1) t)
 a2K:∃a,mg "OUTSIDE" =some (.ref a)/\∀G,Dt K G (.ref a) (.tup ([111,117,116,115,105,100,101].map D.int))
variable {P:bp}{w:cH}{K:a9}{mg:cY->iF}{base:cy}{Z:Ad}
abbrev XCz(K:a9)(Z:Ad):aI->Prop:=XCl K Z.qN
abbrev CXz(P:bp)(w:cH)(K:a9)(Z:Ad):NI:=Lm (XCz K Z) P w
def a4p:cV->Int->Prop:=fun rest n=>rest=[.int n]
def R0(n:Int):cV->Int->Prop:=fun rest m=>rest=[]/\m=n
def a4q:cV->Int->Prop:=fun rest n=>∃p:Int,rest=[.int p]/\n= -1000-p
def RC(B:Bx P K mg base Z){fd:iL}(F:Hi K "__init__" "Refusal.__init__" vt f fd):mq P w K mg base mx 1 f fd ["self","number"] (Y4 K a4p):=by
 refine F.ok (k:=0) GK (by rintro vs H Q E ⟨x,C,rest,n,e,r,_⟩;rw[e,show rest=[.int n]from r];rfl) ?_;rintro dw A outer s H vs Q E hr ⟨x,C,rest,n,rfl,r,xf,hx,q⟩;obtain rfl:rest=[.int n]:=r;refine⟨_,gJ (lj (Qe rfl B.exc (iz (pv 0) (iz (pv 1) nh)))) (lP (Y3 (pv 0) (pv 1))),?_⟩;exact⟨.ref x,rfl,.int n,rfl,x,C,.int n,rfl,hx,xf.exc,.int n,rfl,.ref x,rfl,x,C,rfl,hx,xf.st,fun dx hd=>q dx hd⟩
def a2L(B:Bx P K mg base Z){fd:iL}(F:Hi K "__init__" "OutOfRange.__init__" qD f fd):mq P w K mg base mx 2 f fd ["self"] (Y4 K (R0 (-1))):=by
 obtain⟨fR,fdR,FR,h1,h2,h3⟩:=B.Y6;refine F.ok (k:=1) Cr (by rintro vs H Q E ⟨x,C,rest,n,e,r,_⟩;rw[e,r.1];rfl) ?_;rintro dw A outer s H vs Q E hr ⟨x,C,rest,n,rfl,⟨rfl,rfl⟩,xf,hx,q⟩;refine⟨_,lP (lj (yC (RC B FR) hr rfl B.kRef h1 h2 h3 FR.kp (FR.binds) zb (iz (pv 0) (iz (NG HZ v9) nh)))),?_⟩;exact⟨.ref x,rfl,1,rfl,x,C,[.int (-1)],-1,rfl,rfl,xf,hx,fun dx hd=>q dx hd⟩
def a2M(B:Bx P K mg base Z){fd:iL}(F:Hi K "__init__" "NotMeasured.__init__" pR f fd):mq P w K mg base mx 2 f fd ["self"] (Y4 K (R0 (-2))):=by
 obtain⟨fR,fdR,FR,h1,h2,h3⟩:=B.Y6;refine F.ok (k:=1) Bt (by rintro vs H Q E ⟨x,C,rest,n,e,r,_⟩;rw[e,r.1];rfl) ?_;rintro dw A outer s H vs Q E hr ⟨x,C,rest,n,rfl,⟨rfl,rfl⟩,xf,hx,q⟩;refine⟨_,lP (lj (yC (RC B FR) hr rfl B.kRef h1 h2 h3 FR.kp (FR.binds) zb (iz (pv 0) (iz (NG HZ v9) nh)))),?_⟩;exact⟨.ref x,rfl,2,rfl,x,C,[.int (-2)],-2,rfl,rfl,xf,hx,fun dx hd=>q dx hd⟩
def a2N(B:Bx P K mg base Z){fd:iL}(F:Hi K "__init__" "NoShare.__init__" vw f fd):mq P w K mg base mx 2 f fd ["self"] (Y4 K (R0 (-2))):=by
 obtain⟨fR,fdR,FR,h1,h2,h3⟩:=B.Y6;refine F.ok (k:=1) GL (by rintro vs H Q E ⟨x,C,rest,n,e,r,_⟩;rw[e,r.1];rfl) ?_;rintro dw A outer s H vs Q E hr ⟨x,C,rest,n,rfl,⟨rfl,rfl⟩,xf,hx,q⟩;refine⟨_,lP (lj (yC (RC B FR) hr rfl B.kRef h1 h2 h3 FR.kp (FR.binds) zb (iz (pv 0) (iz (NG HZ v9) nh)))),?_⟩;exact⟨.ref x,rfl,2,rfl,x,C,[.int (-2)],-2,rfl,rfl,xf,hx,fun dx hd=>q dx hd⟩
def a2O(B:Bx P K mg base Z){fd:iL}(F:Hi K "__init__" "WrongText.__init__" rV f fd):mq P w K mg base mx 2 f fd ["self","place"] (Y4 K a4q):=by
 obtain⟨fR,fdR,FR,h1,h2,h3⟩:=B.Y6;refine F.ok (k:=1) DE (by rintro vs H Q E ⟨x,C,rest,n,e,⟨p,r,_⟩,_⟩;rw[e,r];rfl) ?_;rintro dw A outer s H vs Q E hr ⟨x,C,rest,n,rfl,⟨p,rfl,rfl⟩,xf,hx,q⟩;refine⟨_,lP (lj (yC (RC B FR) hr rfl B.kRef h1 h2 h3 FR.kp (FR.binds) zb (iz (pv 0) (iz (KZ LV (NG HZ v9) (pv 1)) nh)))),?_⟩;exact⟨.ref x,rfl,1000,rfl,.int p,rfl,-1000,p,rfl,rfl,x,C,[.int (-1000-p)],-1000-p,rfl,rfl,xf,hx,fun dx hd=>q dx hd⟩
abbrev rX(P:bp)(w:cH)(K:a9)(mg:MG)(base:cy)(Z:Ad)(N:bS)(x:cY)(sc:jV)(f:aI)(dw:aH)(A:dD)(outer:iC)(s:ai)(H:Hp)(E:XK):Cx:=
 vW (CXz P w K Z) P w K mg base N x sc f dw A outer s H E
section
variable {N:bS}{x:cY}{sc:jV}{f:aI}{dw:aH}{A:dD}{outer:iC}{s:ai}{H:Hp}{E:XK}{ρ:br}{np jb pos:mH}{e:du}
def Qg(B:Bx P K mg base Z)(hr:fZ 3 (A.deeper (jQ x sc s.heap.objs.size f dw)))(hg:Gl (rX P w K mg base Z N x sc f dw A outer s H E) "OutOfRange":=by rfl):Ex (rX P w K mg base Z N x sc f dw A outer s H E) E ρ (.Raise (some (.Call (.Name "OutOfRange" np) [] [] jb)) none pos) (.exc (-1)):=by
 obtain⟨m,g,fd,F,R⟩:=B.a4l;exact Fe MA rfl R (a2L B F) hr (F.binds) m ⟨rfl,rfl⟩ hg
def a11(B:Bx P K mg base Z)(hr:fZ 3 (A.deeper (jQ x sc s.heap.objs.size f dw)))(hg:Gl (rX P w K mg base Z N x sc f dw A outer s H E) "NotMeasured":=by rfl):Ex (rX P w K mg base Z N x sc f dw A outer s H E) E ρ (.Raise (some (.Call (.Name "NotMeasured" np) [] [] jb)) none pos) (.exc (-2)):=by
 obtain⟨m,g,fd,F,R⟩:=B.a4m;exact Fe MA rfl R (a2M B F) hr (F.binds) m ⟨rfl,rfl⟩ hg
def Qh(B:Bx P K mg base Z)(hr:fZ 3 (A.deeper (jQ x sc s.heap.objs.size f dw)))(hg:Gl (rX P w K mg base Z N x sc f dw A outer s H E) "NoShare":=by rfl):Ex (rX P w K mg base Z N x sc f dw A outer s H E) E ρ (.Raise (some (.Call (.Name "NoShare" np) [] [] jb)) none pos) (.exc (-2)):=by
 obtain⟨m,g,fd,F,R⟩:=B.a4n;exact Fe MA rfl R (a2N B F) hr (F.binds) m ⟨rfl,rfl⟩ hg
end
def xC(n lo hi:Int):Bool:=decide (lo<=n) && decide (n<=hi)
def WK:bM->Out->Prop:=fun args out=>∃n lo hi:Int,args=[.int n,.int lo,.int hi]/\out=if xC n lo hi=true then .ok .fA else .exc (-1)
def MB(B:Bx P K mg base Z):FG P w K mg base (CXz P w K Z) "need_within" 4 WK:=by
 refine oR (k:=3) (N:=sV) B.Kb IK ?_;rintro f dw A outer st H E hr args out ⟨n,lo,hi,rfl,rfl⟩;have ht:Et (rX P w K mg base Z sV "need_within" (aj sS) f dw A outer st H E) (fN sV [.int n,.int lo,.int hi]) (match aX sS with | [.If c _ _ _]=>c | _=>.Constant .none 0 ⟨0,0,0,0⟩) (!xC n lo hi):=
  Et.eq (Vg (Ld (a8 0 rfl) (a8 1 rfl)) (Z0 (a8 0 rfl) (a8 2 rfl))) (by
   unfold xC
   by_cases h1:lo<=n<;>by_cases h2:n<=hi<;>simp[h1,h2]<;>omega)
 cases h:xC n lo hi with
 | true=>exact⟨.next _,aK (gq ht (fun q=>by rw[h]at q;cases q) (fun _=>iA)),rfl⟩
 | false=>exact⟨.exc (-1),aK (gq ht (fun _=>aK (Qg B hr)) (fun q=>by rw[h]at q;cases q)),rfl⟩
end Pg
namespace Dl
open PySem PySem.Spec PyProof.Rows L2
section
variable {X:Cx}{ρ:br}{a b c:du}{pos p p1 p2 p3:mH}{ds:bM}{E:XK}
def bV.cut{K:a9}{vs:cV}{ds:bM}(h:bV K G vs ds)(i j:Nat):bV K G ((vs.drop i).take j) ((ds.drop i).take j):=(h.drop i).take j
def VU{xs:cV}{i j:Nat}(hi:i<=xs.length)(hj:j<=xs.length):NP xs (some (i:Int)) (some (j:Int))=(xs.drop i).take (j-i):=by
 unfold NP;rw[HT.M0,HT.M0,mQ hi,mQ hj]
def Y7{xs:cV}{j:Nat}(hj:j<=xs.length):NP xs none (some (j:Int))=xs.take j:=by
 unfold NP;rw[HT.UJ,HT.M0,mQ hj,Nat.sub_zero,JX]
def a12(d:D)(ds:bM):Prop:=d= .lst ds\/d= .arr ds
def Zh{K:a9}{G H:Hp}(q:a12 d ds)(s:bN G H)(h:Dt K G v d):∃a xs,v= .ref a/\lC K H a xs/\bV K G xs ds:=by
 rcases q with rfl | rfl
 ·cases h with
  | lst h r=>exact⟨_,_,rfl,lC.of (s _ _ h),r⟩
 ·cases h with
  | arr h r=>exact⟨_,_,rfl,bN.seq s h,r⟩
def Jf{i j:Nat}(hq:a12 d ds)(ha:Ev X ρ a d)(hb:Ev X ρ b (.int i))(hc:Ev X ρ c (.int j))(hi:i<=ds.length)(hj:j<=ds.length):Ev X ρ (.Subscript a (.Slice (some b) (some c) none p2) pos) (.lst ((ds.drop i).take (j-i))):=
 eL (NO R1 ha (M5 hb) (M5 hc)) fun σ H Q ⟨GI,HI,G,S,q⟩=>⟨GI,HI,G,S,fun G1 H1 v e1 d1=>⟨GI,HI,G1,S.mono e1,fun G2 H2 v2 e2 d2=>by
  cases d2;refine⟨i,rfl,GI,HI,G2,(S.mono e1).mono e2,fun G3 H3 v3 e3 d3=>?_⟩;cases d3;obtain⟨x,xs,rfl,hx,r⟩:=Zh hq e3.s (d1.mono (e2.trans e3).g);refine⟨j,rfl,x,xs,rfl,hx,fun p hp=>?_⟩;rw[VU (by rw[r.length];exact hi) (by rw[r.length];exact hj)];have e4:=Ext.new (o:=.lst ((xs.drop i).take (j-i))) e3.s hp;exact q _ _ _ (((e1.trans e2).trans e3).trans e4) (.lst aU ((r.cut i (j-i)).mono e4.g))⟩⟩
def Qi{j:Nat}(hq:a12 d ds)(ha:Ev X ρ a d)(hc:Ev X ρ c (.int j))(hj:j<=ds.length):Ev X ρ (.Subscript a (.Slice none (some c) none p2) pos) (.lst (ds.take j)):=
 eL (NO R1 ha X6 (M5 hc)) fun σ H Q ⟨GI,HI,G,S,q⟩=>⟨GI,HI,G,S,fun G1 H1 v e1 d1=>⟨GI,HI,G1,S.mono e1,fun G3 H3 v3 e3 d3=>by
  cases d3;obtain⟨x,xs,rfl,hx,r⟩:=Zh hq e3.s (d1.mono e3.g);refine⟨j,rfl,x,xs,rfl,hx,fun p hp=>?_⟩;rw[Y7 (by rw[r.length];exact hj)];have e4:=Ext.new (o:=.lst (xs.take j)) e3.s hp;exact q _ _ _ ((e1.trans e3).trans e4) (.lst aU ((r.take j).mono e4.g))⟩⟩
def Oz(k:Nat):iu 0 ((2*k:Nat):Int) 2=k:=by
 unfold iu;rw[if_pos ck]
 split<;>omega
def OA{z:Int}(h1: -10000<=z)(h2:z<=10000):oI.Range.rangeFitsLong z=true:=bg.mpr ⟨decide_eq_true (!0),decide_eq_true (!0)⟩
def Qj{k:Nat}(hm:X.mg "range" =none)(ha:Ev X ρ a (.int 0))(hb:Ev X ρ b (.int ((2*k:Nat):Int)))(hc:Ev X ρ c (.int 2))(hk:k<=1000)(hg:Gl X "range":=by rfl)
  (hs:SE X a [b,c]:=by rfl)(hs2:SE X b [c]:=by rfl)(hs3:SE X c []:=by rfl)(hpl:ya X pos [b,c]:=by rfl):
  Es X ρ tg (.Call (.Name "range" p) [a,b,c] [] pos) ((ay k).map fun(i:Nat)=>D.int ((2*i:Nat):Int)):=
 yd (SA hg hm (ab ha (ab hb (ab hc ar hs3) hs2) hs) hs hpl) fun σ H R ⟨GI,HI,G,S,q⟩=>⟨GI,HI,G,S,fun G1 H1 vs e1 d1=>by
  cases d1 with
  | cons hv r=>
   obtain⟨u,t,rfl,hu,ht⟩:=Aa r;cases hv;cases hu;cases ht;refine⟨0,((2*k:Nat):Int),2,k,rfl,⟨by decide,by decide,?_,Oz k⟩,q G1 H1 _ e1 fun G' H' s1 s2=>⟨fun i hi=>by show i<k;simpa using hi,by show((ay k).map _).length>=k;simp,fun i d x Xs hd hy=>?_⟩⟩
   ·unfold BD;rw[Oz,OA (z:=0) ck ck,OA (z:=((2*k:Nat):Int)) (!0) (!0),OA (z:=2) ck ck,OA (z:=(k:Int)) (!0) (!0),if_pos ck,OA (!0) (!0),Bool.or_true];rfl
   ·obtain⟨y1,y2⟩:=hy;rw[aC]at hd;have hik:i<k:=by
     by_cases h:i<k
     ·exact h
     ·rw[bT (by simpa using h)]at hd;cases hd
    rw[f6 hik]at hd;obtain rfl:=be hd;subst y2;refine .inl ⟨y1,?_⟩;rw[show(0:Int)+(i:Int)*2=((2*i:Nat):Int) by omega];exact .int _⟩
theorem OB{α:Type}(x:α):∀n:Nat,(aY n [x]).flatten=aY n x
 | 0=>rfl
 | n+1=>by rw[iQ,nH,OB x n];rfl
theorem bV.rep{K:a9}(h:Dt K G v d):∀n:Nat,bV K G (aY n v) (aY n d)
 | 0=>.nil
 | n+1=>.cons h (bV.rep h n)
end
def nK(l:bL):D:=.tup (l.map fun(i:Nat)=>D.int (i:Int))
def fJ(l:bL):cE:=l.map fun(i:Nat)=>(i:Int)
def Jg(l:bL):nK l= .tup ((fJ l).map D.int):=by unfold nK fJ;rw[bc];rfl
def VV{l m:bL}(h:fJ l=fJ m):l=m:=by
 unfold fJ at h;exact List.map_inj_right (fun a b e=>by omega) |>.mp h
def P7(l:bL):uh:=.tuple ((fJ l).map jf)
def Ho{K:a9}{l:bL}(h:Dt K G v (nK l)):Dp K G v (P7 l):=by
 rw[Jg]at h;exact Io h
theorem Jh{K:a9}:∀{ls:BL} {vs:cV},bV K G vs (ls.map nK)->A3 K G vs (ls.map P7)
 | [],_,h=>by cases h;exact .nil
 | l::ls,_,h=>by
  cases h with
  | cons h1 h2=>exact .cons (Ho h1) (Jh h2)
def DU(l:bL):(P7 l).canLay0=true:=A9 _
theorem Bh:∀ls:BL,lz (ls.map P7)=true
 | []=>rfl
 | l::ls=>by
  show((P7 l).canLay0 && lz (ls.map P7))=true;rw[DU,Bh ls];rfl
def Fg(l:bL):(P7 l).depth<=2:=by
 have:=Cj (fJ l);show l8 _+1<=2;omega
def Ji(l m:bL):kF (P7 l) (P7 m)=(l == m):=by
 unfold P7;rw[Ip];by_cases h:l=m
 ·subst h;simp
 ·rw[decide_eq_false (fun e=>h (VV e)),beq_eq_false_iff_ne.mpr h]
def OC(ls:BL)(x:bL):(ls.map P7).any (fun y=>kF y (P7 x))=ls.contains x:=by
 induction ls with
 | nil=>rfl
 | cons y r ih=>rw[cM,pw,kB,ih,Ji,BEq.comm]
section
variable {X:Cx}{ρ:br}{a b c:du}{pos p p1 p2 p3:mH}{ls:BL}{x:bL}{k:Nat}
def Y8(K:a9)(neg:Bool):R2:=fun u v H Q=>∃ds d,Dp K H v (.list ds)/\Dp K H u d/\lz ds=true/\d.canLay0=true/\d.depth<=2/\Q (.bl (if neg then !ds.any (fun y=>kF y d)else ds.any fun y=>kF y d)) H
def a13(hu:X.A.units+64<Ed):Cg X (gY .In) (Y8 X.K false):=by
 intro pins s σ H u v u' v' Q I ru rv h;obtain⟨ds,d,h1,h2,h3,h4,h5,q⟩:=h;obtain⟨as,r1⟩:=Dp.reads I _ _ _ h1 rv;obtain⟨bs,r2⟩:=Dp.reads I _ _ _ h2 ru;exact SeqAt.in_list_reads r1 r2 h3 h4 (by have:=xO (l8 ds) d.depth;omega) ⟨.bl _,H,I,rfl,q⟩
def T2(hu:X.A.units+64<Ed):Cg X (gY .NotIn) (Y8 X.K true):=by
 intro pins s σ H u v u' v' Q I ru rv h;obtain⟨ds,d,h1,h2,h3,h4,h5,q⟩:=h;obtain⟨as,r1⟩:=Dp.reads I _ _ _ h1 rv;obtain⟨bs,r2⟩:=Dp.reads I _ _ _ h2 ru;exact SeqAt.notIn_list_reads r1 r2 h3 h4 (by have:=xO (l8 ds) d.depth;omega) ⟨.bl _,H,I,rfl,q⟩
def RE{K:a9}{G H:Hp}(s:bN G H)(h:Dt K G v (.lst (ls.map nK))):Dp K H v (.list (ls.map P7)):=by
 cases h with
 | lst h r=>exact .lst (lC.of (s _ _ h)) (vj s (Jh r))
def a14{K:a9}:RD K (Y8 K false) (nK x) (.lst (ls.map nK)) (.bl (ls.contains x)):=fun G H u v Q s hu hv q=>
 ⟨_,_,RE s hv,wq s (Ho hu),Bh ls,DU x,Fg x,by rw[OC];exact q G H _ (Ext.refl s) (.bl _)⟩
def T4{K:a9}:RD K (Y8 K true) (nK x) (.lst (ls.map nK)) (.bl (!ls.contains x)):=fun G H u v Q s hu hv q=>
 ⟨_,_,RE s hv,wq s (Ho hu),Bh ls,DU x,Fg x,by rw[OC];exact q G H _ (Ext.refl s) (.bl _)⟩
def a15(hr:fZ k X.A)(ha:Ev X ρ a (nK x))(hb:Ev X ρ b (.lst (ls.map nK)))(hm:jq .In b=false:=by with_unfolding_all rfl):Ev X ρ (.Compare a [.In] [b] pos) (.bl (ls.contains x)):=yb (a13 hr.units) a14 ha hb hm
def T5(hr:fZ k X.A)(ha:Ev X ρ a (nK x))(hb:Ev X ρ b (.lst (ls.map nK)))(hm:jq .NotIn b=false:=by with_unfolding_all rfl):Ev X ρ (.Compare a [.NotIn] [b] pos) (.bl (!ls.contains x)):=yb (T2 hr.units) T4 ha hb hm
def a2P(K:a9):V->cV->Hp->VK->Prop:=fun u vs H Q=>∃(q:aI) (ys:cV) (y:V) (ds:List uh) (d:uh) (j:Nat),u= .ref q/\vs=[y]/\lC K H q ys/\A3 K H ys ds/\Dp K H y d/\lz ds=true/\d.canLay0=true/\d.depth<=2/\
 (∃e,ds[j]? =some e/\kF e d=true)/\(∀(m:Nat) e,m<j->ds[m]? =some e->kF e d=false)/\Q (.int (j:Nat)) H
def T6(hu:X.A.units+64<Ed):MtR X "list.index" (a2P X.K):=by
 intro pins s σ H u vs v us Q I ru rvs h;obtain⟨q,ys,y,ds,d,j,rfl,rfl,hs,hd,hy,c1,c2,c3,⟨e,e1,e2⟩,LA,hq⟩:=h;cases ru
 cases rvs with
 | cons ry rt=>
  rename_i uy ut;cases rt;obtain⟨eI,rv,⟨⟨cls,dd,data,sl⟩,n,ho,hc,hdn,hdt⟩,ko⟩:=I.list hs;dsimp only at hc hdt;subst hc hdt;obtain⟨as,r1⟩:=Dp.readsAll I _ _ _ hd rv;obtain⟨bs,r2⟩:=Dp.reads I _ _ _ hy ry;have a3m:=SeqAt.readsAll_map ds _ _ c1 r1;have Ar:eI.length=ds.length:=by rw[<-a3m];simp
  have at_:∀(m:Nat) (hm:m<eI.length) e',ds[m]? =some e'->yY s.heap eI[m]=e':=fun m hm e' he=>by
   rw[<-a3m,aC,aV hm]at he;exact be he
  have hj:j<eI.length:=by rw[Ar];exact(ag.mp e1).1
  have hsl:=AE;have hvl:=rv.length;refine sI xP ⟨_,ho,rfl⟩ PySem.F.entry_list_index (PySem.F.args_list_index_2 _ _)
   (SeqAt.list_indexAt q eI.toArray n dd sl uy (fun w=>kF (yY s.heap w) d) j (by simpa using hj) (!0) ?_ ?_) ⟨ho,?_,?_⟩
  ·show kF (yY s.heap eI.toArray[j]) d=true;rw[AR,at_ j hj e e1];exact e2
  ·intro m hm hmj;have TN:m<eI.length:=by simpa using hm
   show kF (yY s.heap eI.toArray[m]) d=false;rw[AR,at_ m TN ds[m] (!1)];exact LA m _ hmj (!1)
  ·exact fun w hw=>SeqAt.items_eqAt (by simpa using r1) r2 c1 c2 (by have:=xO (l8 ds) d.depth;omega) w hw
  ·exact⟨.int (j:Nat),H,I.tok _,⟨_,rfl⟩,hq⟩
def a16(ls:BL)(x:bL)(h:ls.contains x=true):ls[ls.idxOf x]? =some x:=by
 have hm:x∈ls:=by simpa using h
 have hl:=lJ.mpr hm;rw[aV hl,List.getElem_idxOf hl]
def Fh(hr:fZ k X.A)(ha:Ev X ρ a (nK x))(hb:Ev X ρ b (.lst (ls.map nK)))(hin:ls.contains x=true)(he:SE X a []:=by rfl)(ux:Uk X b "index":=by rfl)
  (qQ:YE X p3 [a]:=by rfl)
  (uz:(p2.endLine == p3.line)=true:=by rfl)(oS:ya X p3 []:=by rfl):Ev X ρ (.Call (.Attribute b "index" p2) [a] [] p3) (.int ((ls.idxOf x:Nat):Int)):=
 eL (FZ fh xP PySem.F.type_list_index (T6 hr.units) hb (ab ha ar he) ux qQ uz he oS) fun σ H Q ⟨GI,HI,G,S,q⟩=>⟨GI,HI,G,S,fun G1 H1 v e1 d1=>by
  cases d1 with
  | lst h1 r1=>
   refine⟨Z4 (e1.s _ _ h1),GI,HI,G1,S.mono e1,fun G2 H2 vs e2 d2=>?_⟩;obtain⟨w,rfl,hw⟩:=kO d2;refine⟨_,_,w,ls.map P7,P7 x,ls.idxOf x,rfl,rfl,lC.of (e2.h _ _ (e1.s _ _ h1)),vj (e1.s.trans e2.h) (Jh r1),wq e2.s (Ho hw),Bh ls,DU x,Fg x,⟨P7 x,by rw[aC,a16 ls x hin];rfl,by rw[Ji];simp⟩,fun m e hm he=>?_,q G2 H2 _ (e1.trans e2) (.int _)⟩;rw[aC]at he
   cases hl:ls[m]? with
   | none=>rw[hl]at he;cases he
   | some y=>
    rw[hl]at he;obtain rfl:=be he;rw[Ji];obtain⟨TN,hme⟩:=ag.mp hl;have:=List.not_of_lt_findIdx (xs:=ls) (p:=fun z=>z == x) (i:=m) hm;rw[hme]at this;simpa using this⟩
end
structure OM(K:a9)(T:Type) where
 R:Hp->Hp->Hp->aI->T->Prop
 D:T->D
 cls:aI
 names:bS
 up:∀{HI G H:Hp} {a:aI} {st:T},R HI G H a st->bN G H->∃(Gp:Hp) (pt:aI->Prop),bN G Gp/\bN Gp H/\Dt K Gp (.ref a) (D st)/\(∀b,pt b->HI b=none/\G b=none/\∃o,H b=some o/\(∀xs,o≠ .tup xs)/\∀ob u,o≠ .P4 ob u)/\
  (∀b o,Gp b=some o->G b=none->pt b)/\∀G' H',bN G G'->bN H H'->(∀b o,H b=some o->G b=none->G' b=none)->R HI G' H' a st
 ins:∀{HI G H:Hp} {a:aI} {st:T},R HI G H a st->∃dx fs,H a=some (.ins cls dx fs)/\∀m,m∉names->fs.lookup m=none
mutual
def D.flat:D->Bool
 | .fA=>true
 | .bl _=>true
 | .int _=>true
 | .tup l=>D.zo l
 | _=>false
def D.zo:bM->Bool
 | []=>true
 | d::r=>d.flat && D.zo r
end
section
variable {K:a9}{G G':Hp}
mutual
theorem Dt.flat(h1:∀b xs,G b=some (.tup xs)->G' b=some (.tup xs))(h2:∀b o u,G b=some (.P4 o u)->G' b=some (.P4 o u)){v:V}{d:D}(f:d.flat=true)(h:Dt K G v d):Dt K G' v d:=by
 cases h with
 | fA=>exact .fA
 | bl b=>exact .bl b
 | int i=>exact .int i
 | tup h r=>exact .tup (by
   rcases h with(h | ⟨o,h⟩) | h
   ·exact .inl (.inl (h1 _ _ h))
   ·exact .inl (.inr ⟨o,h2 _ _ _ h⟩)
   ·exact .inr h) (bV.flat h1 h2 (by simpa[D.flat]using f) r)
 | _=>simp[D.flat]at f
theorem bV.flat(h1:∀b xs,G b=some (.tup xs)->G' b=some (.tup xs))(h2:∀b o u,G b=some (.P4 o u)->G' b=some (.P4 o u)){v:cV}{d:bM}(f:D.zo d=true)(h:bV K G v d):bV K G' v d:=by
 cases h with
 | nil=>exact .nil
 | cons h r=>have f':=bg.mp (show(_ && D.zo _)=true from by simpa[D.zo]using f);exact .cons (Dt.flat h1 h2 f'.1 h) (bV.flat h1 h2 f'.2 r)
end
end
section
variable {K:a9}{T:Type}{O:OM K T}{GI HI G H:Hp}{σ:L2.St}{ρ:br}{i:Nat}{a:aI}{st:T}
structure MR(O:OM K T)(GI HI G H:Hp)(σ:L2.St)(ρ:br)(i:Nat)(a:aI)(st:T):Prop where
 sr:SR K GI HI G H σ ρ
 at_:σ[i]? =some (some (.ref a))
 ob:O.R HI G H a st
 no:noOwn ρ
abbrev Fi(O:OM K T)(ρ:br)(i:Nat)(st:T):br:=ρ.set i (.dat (O.D st))
def tP{G' H':Hp}(S:SR K GI HI G H σ ρ)(no:noOwn ρ)(e:Ext GI HI G' H')(s:bN G G'):SR K GI HI G' H' σ ρ:=by
 refine⟨S.len,e,fun j sl h=>?_,S.one⟩;have z:=S.sl j sl h
 cases sl with
 | no=>trivial
 | dat d=>obtain⟨v,z1,z2⟩:=z;exact⟨v,z1,z2.mono s⟩
 | own l=>exact absurd h (no j l)
def MR.up(M:MR O GI HI G H σ ρ i a st):∃Gp,SR K Gp H Gp H σ (Fi O ρ i st)/\Dt K Gp (.ref a) (O.D st)/\∀G2 H2,Ext Gp H G2 H2->∃G',bN G G'/\MR O GI HI G' H2 σ ρ i a st/\(∀v d,d.flat=true->Dt K G2 v d->Dt K G' v d)/\(∀vs ds,D.zo ds=true->bV K G2 vs ds->bV K G' vs ds):=by
 obtain⟨Gp,pt,s1,s2,hd,hp,hg,hR⟩:=O.up M.ob M.sr.same;refine⟨Gp,⟨by simp[M.sr.len],Ext.refl s2,fun j sl hj=>?_,fun j k l l' hj hk=>?_⟩,hd,fun G2 H2 e=>?_⟩
 ·by_cases q:j=i
  ·subst q;have lt:j<ρ.length:=by
    have:=(ag.mp hj).1;simpa using this
   rw[bt lt]at hj;cases hj;exact⟨_,M.at_,hd⟩
  ·rw[bf (g0 q)]at hj;have z:=M.sr.sl j sl hj
   cases sl with
   | no=>trivial
   | dat d=>obtain⟨v,z1,z2⟩:=z;exact⟨v,z1,z2.mono s1⟩
   | own l=>exact absurd hj (M.no j l)
 ·by_cases q:j=i
  ·subst q;have lt:j<ρ.length:=by
    have:=(ag.mp hj).1;simpa using this
   rw[bt lt]at hj;cases hj
  ·rw[bf (g0 q)]at hj;exact absurd hj (M.no j l)
 ·have a4r:∀b,Decidable (pt b):=fun b=>xQ _;have sG:bN G (fun b=>if pt b then none else G2 b):=fun b o h=>by
   have:¬pt b:=fun z=>by rw[(hp b z).2.1]at h;cases h
   show(if pt b then none else G2 b)=some o;rw[if_neg this];exact e.g _ _ (s1 _ _ h)
  have keep:∀b o,H b=some o->G b=none->(if pt b then none else G2 b)=none:=fun b o h n=>by
   by_cases z:pt b
   ·rw[if_pos z]
   ·rw[if_neg z];have gpn:Gp b=none:=by
     cases q:Gp b with
     | none=>rfl
     | some u=>exact absurd (hg b u q n) z
    exact e.o b o h gpn
  have ext:Ext GI HI (fun b=>if pt b then none else G2 b) H2:=⟨M.sr.ext.g.trans sG,M.sr.ext.h.trans e.h,fun b o h=>by
    have h':(if pt b then none else G2 b)=some o:=h;split at h'
    ·cases h'
    ·exact e.s _ _ h',fun b o h n=>keep b o (M.sr.ext.h _ _ h) (M.sr.ext.o b o h n)⟩
  refine⟨fun b=>if pt b then none else G2 b,sG,⟨tP M.sr M.no ext sG,M.at_,hR _ _ sG e.h keep,M.no⟩,fun v d f h=>?_,fun vs ds f h=>?_⟩
  ·refine Dt.flat (fun b xs q=>?_) (fun b o u q=>?_) f h
   ·have:¬pt b:=fun z=>by
     obtain⟨_,_,o,ho,n1,_⟩:=hp b z;have:=e.h _ _ ho;rw[e.s _ _ q]at this;cases this;exact n1 _ rfl
    show(if pt b then none else G2 b)=_;rw[if_neg this];exact q
   ·have:¬pt b:=fun z=>by
     obtain⟨_,_,o',ho,_,n2⟩:=hp b z;have:=e.h _ _ ho;rw[e.s _ _ q]at this;cases this;exact n2 _ _ rfl
    show(if pt b then none else G2 b)=_;rw[if_neg this];exact q
  ·refine bV.flat (fun b xs q=>?_) (fun b o u q=>?_) f h
   ·have:¬pt b:=fun z=>by
     obtain⟨_,_,o,ho,n1,_⟩:=hp b z;have:=e.h _ _ ho;rw[e.s _ _ q]at this;cases this;exact n1 _ rfl
    show(if pt b then none else G2 b)=_;rw[if_neg this];exact q
   ·have:¬pt b:=fun z=>by
     obtain⟨_,_,o',ho,_,n2⟩:=hp b z;have:=e.h _ _ ho;rw[e.s _ _ q]at this;cases this;exact n2 _ _ rfl
    show(if pt b then none else G2 b)=_;rw[if_neg this];exact q
def MR.set(M:MR O GI HI G H σ ρ i a st){j:Nat}(hj:j≠i)(h:Dt K G v d):MR O GI HI G H (σ.set j (some v)) (ρ.set j (.dat d)) i a st:=by
 refine⟨M.sr.set h,by rw[bf hj];exact M.at_,M.ob,fun k l hk=>?_⟩;by_cases q:k=j
 ·subst q;have lt:k<ρ.length:=by
   have:=(ag.mp hk).1;simpa using this
  rw[bt lt]at hk;cases hk
 ·rw[bf (g0 q)]at hk;exact M.no k l hk
end
inductive JZ(T:Type) where
 | next (ρ:br) (st:T) | ret (d:D) (st:T) | exc (n:Int)
inductive u9(T:Type) where
 | ok (d:D) (st:T) | exc (n:Int)
section
variable {K:a9}{T:Type}
def qM(O:OM K T)(E:XK)(GI HI G:Hp)(i:Nat)(a:aI)(oc:JZ T)(Dn:Ends):Prop:=match oc with
 | .next ρ' D4=>∀G' H' σ',bN G G'->MR O GI HI G' H' σ' ρ' i a D4->Dn.nx σ' H'
 | .ret d D4=>∀G' H' v,Ext GI HI G' H'->O.R HI G' H' a D4->Dt K G' v d->Dn.rt v H'
 | .exc n=>∀G' H',Ext GI HI G' H'->E (xn n) none H'
def qM.mono{O:OM K T}{GI HI G G1:Hp}{i:Nat}{oc:JZ T}{Dn:Ends}(s:bN G G1)(q:qM O E GI HI G i a oc Dn):qM O E GI HI G1 i a oc Dn:=by
 cases oc with
 | next ρ' D4=>exact fun G' H' σ' s' M=>q G' H' σ' (s.trans s') M
 | ret d D4=>exact q
 | exc n=>exact q
def tM(O:OM K T)(E:XK)(i:Nat)(ρ:br)(st:T)(oc:JZ T):TS:=fun Dn σ H=>∃GI HI G a,MR O GI HI G H σ ρ i a st/\qM O E GI HI G i a oc Dn
def tV(O:OM K T)(E:XK)(i:Nat)(ρ:br)(st:T):u9 T->TE
 | .ok d D4=>fun σ H Q=>∃GI HI G a,MR O GI HI G H σ ρ i a st/\∀G' H' v,bN G G'->MR O GI HI G' H' σ ρ i a D4->Dt K G' v d->Q v H'
 | .exc n=>fun σ H _=>∃GI HI G a,MR O GI HI G H σ ρ i a st/\∀G' H',Ext GI HI G' H'->E (xn n) none H'
end
def Mx(X:Cx){T:Type}(O:OM X.K T)(E:XK)(i:Nat)(ρ:br)(st:T)(s:di)(oc:JZ T):Prop:=PS X s (tM O E i ρ st oc)
def yD(X:Cx){T:Type}(O:OM X.K T)(E:XK)(i:Nat)(ρ:br)(st:T)(s:iT)(oc:JZ T):Prop:=FX X s (tM O E i ρ st oc)
def Mv(X:Cx){T:Type}(O:OM X.K T)(E:XK)(i:Nat)(ρ:br)(st:T)(e:du)(out:u9 T):Prop:=PE X e (tV O E i ρ st out)
def JZ.ends{T:Type}:JZ T->Bool
 | .next _ _=>false
 | _=>true
section
variable {X:Cx}{T:Type}{O:OM X.K T}{E:XK}{i:Nat}{ρ ρ1:br}{st TR:T}{s:di}{ss:iT}{oc:JZ T}{e:du}{d:D}{pos:mH}
def Cw:yD X O E i ρ st [] (.next ρ st):=mJ QP fun Dn σ H ⟨GI,HI,G,a,M,q⟩=>q G H σ (bN.refl _) M
def dI(h:Mx X O E i ρ st s (.next ρ1 TR))(hr:yD X O E i ρ1 TR ss oc):yD X O E i ρ st (s::ss) oc:=
 mJ (gJ h hr) fun Dn σ H ⟨GI,HI,G,a,M,q⟩=>⟨GI,HI,G,a,M,fun G1 H1 σ1 s1 M1=>⟨GI,HI,G1,a,M1,q.mono s1⟩⟩
def nj(h:Mx X O E i ρ st s oc)(he:oc.ends=true:=by rfl):yD X O E i ρ st (s::ss) oc:=
 mJ (gJ h EK) fun Dn σ H q=>by
  cases oc with
  | next r t=>cases he
  | ret d t=>exact q
  | exc n=>exact q
def kS(h:Mx X O E i ρ st s oc):yD X O E i ρ st [s] oc:=lP h
def zp(f:d.flat=true)(h:Ev X (Fi O ρ i st) e d):Mv X O E i ρ st e (.ok d st):=
 eL h fun σ H Q ⟨GI,HI,G,a,M,q⟩=>by
  obtain⟨Gp,S,hd,back⟩:=M.up;refine⟨Gp,H,Gp,S,fun G2 H2 v e2 d2=>?_⟩;obtain⟨G',s',M',fl,_⟩:=back G2 H2 e2;exact q G' H2 v s' M' (fl v d f d2)
def j1(h:Mv X O E i ρ st e (.ok d TR))(hs:dj e none pos.line X.env=pure false:=by rfl):Mx X O E i ρ st (.Expr e pos) (.next ρ TR):=
 eX (lj h hs) fun Dn σ H ⟨GI,HI,G,a,M,q⟩=>⟨GI,HI,G,a,M,fun G1 H1 v s1 M1 d1=>q G1 H1 σ s1 M1⟩
def p9{n:Int}(h:Mv X O E i ρ st e (.exc n))(hs:dj e none pos.line X.env=pure false:=by rfl):Mx X O E i ρ st (.Expr e pos) (.exc n):=
 eX (lj h hs) fun Dn σ H ⟨GI,HI,G,a,M,q⟩=>⟨GI,HI,G,a,M,q⟩
def vE{j:Nat}(hN:X.N.Nodup)(h:Mv X O E i ρ st e (.ok d TR))(hji:j≠i)(hj:X.N[j]? =some x:=by rfl)(hx:Loc X.env.scope x:=by walk_at "o")
  (hs:dj e (some (.Name x rk)) pos.line X.env=pure false:=by rfl)(hf:X.fn x=true\/X.env.scope.names.lookup x=some .local:=by walk_at "o"):Mx X O E i ρ st (.Assign [.Name x rk] e pos) (.next (ρ.set j (.dat d)) TR):=
 eX (rP hN hj hx h (hs:=hs) (hf:=hf)) fun Dn σ H ⟨GI,HI,G,a,M,q⟩=>⟨GI,HI,G,a,M,fun G1 H1 v s1 M1 d1=>q G1 H1 _ s1 (M1.set hji d1)⟩
def DV{j:Nat}{n:Int}(hN:X.N.Nodup)(h:Mv X O E i ρ st e (.exc n))(hj:X.N[j]? =some x:=by rfl)(hx:Loc X.env.scope x:=by walk_at "o")
  (hs:dj e (some (.Name x rk)) pos.line X.env=pure false:=by rfl)(hf:X.fn x=true\/X.env.scope.names.lookup x=some .local:=by walk_at "o"):Mx X O E i ρ st (.Assign [.Name x rk] e pos) (.exc n):=
 eX (rP hN hj hx h (hs:=hs) (hf:=hf)) fun Dn σ H ⟨GI,HI,G,a,M,q⟩=>⟨GI,HI,G,a,M,q⟩
def Cy(h:Mv X O E i ρ st e (.ok d TR)):Mx X O E i ρ st (.Return (some e) pos) (.ret d TR):=
 eX (HW h) fun Dn σ H ⟨GI,HI,G,a,M,q⟩=>⟨GI,HI,G,a,M,fun G1 H1 v s1 M1 d1=>q G1 H1 v M1.sr.ext M1.ob d1⟩
def tRM(X:Cx){T:Type}(O:OM X.K T)(E:XK)(i:Nat)(ss:iT):TS:=fun Dn σ H=>∃ρ st oc,yD X O E i ρ st ss oc/\tM O E i ρ st oc Dn σ H
def pRM{ss:iT}:FX X ss (tRM X O E i ss):=fun pins s σ H Dn I ⟨ρ,st,oc,h,q⟩=>h pins s σ H Dn I q
def zq{th el:iT}{k:Bool}(hc:Et X (Fi O ρ i st) c k)(ha:k=true->yD X O E i ρ st th oc)(hb:k=false->yD X O E i ρ st el oc):Mx X O E i ρ st (.If c th el pos) oc:=
 eX (YH hc (pRM (O:=O) (E:=E) (i:=i)) (pRM (O:=O) (E:=E) (i:=i))) fun Dn σ H ⟨GI,HI,G,a,M,q⟩=>by
  obtain⟨Gp,S,hd,back⟩:=M.up;refine⟨Gp,H,Gp,S,fun G2 H2 e2=>?_⟩;obtain⟨G',s',M',_,_⟩:=back G2 H2 e2
  cases k with
  | true=>exact Br ⟨ρ,st,oc,ha rfl,GI,HI,G',a,M',q.mono s'⟩
  | false=>exact ET ⟨ρ,st,oc,hb rfl,GI,HI,G',a,M',q.mono s'⟩
def Jj{body:iT}(hp:qr (c9 X.prog X.w) X.A X.env X.xe)(I:Nat->br×T)(h0:I 0=(ρ,st))(n:Nat)
  (hb:∀k,k<n->Et X (Fi O (I k).1 i (I k).2) c true/\yD X O E i (I k).1 (I k).2 body (.next (I (k+1)).1 (I (k+1)).2))
  (he:(Et X (Fi O (I n).1 i (I n).2) c false/\oc= .next (I n).1 (I n).2)\/(Et X (Fi O (I n).1 i (I n).2) c true/\yD X O E i (I n).1 (I n).2 body oc/\oc.ends=true)):Mx X O E i ρ st (.While c body [] pos) oc:=by
 refine eX (HX hp (pRT (e:=c)) (pRM (O:=O) (E:=E) (i:=i))) ?_;rintro Dn σ H ⟨GI,HI,G,a,M,q⟩;refine⟨fun m σ H=>∃k,m=n-k/\k<=n/\∃G',MR O GI HI G' H σ (I k).1 i a (I k).2/\bN G G',⟨_,0,rfl,gW _,G,by rw[h0];exact M,bN.refl _⟩,?_⟩;rintro m σ H ⟨k,rfl,hk,G',M',s'⟩;obtain⟨Gp,S,hd,back⟩:=M'.up;by_cases hkn:k<n
 ·obtain⟨h1,h2⟩:=hb k hkn;refine⟨_,true,h1,Gp,H,Gp,S,fun G2 H2 e2=>?_⟩;obtain⟨G3,s3,M3,_,_⟩:=back G2 H2 e2;refine Br ⟨fun σ' H'=>∃Cn,MR O GI HI Cn H' σ' (I (k+1)).1 i a (I (k+1)).2/\bN G Cn,fun σ' H' ⟨Cn,M2,s2⟩=>⟨n-(k+1),by omega,k+1,rfl,by omega,Cn,M2,s2⟩,?_⟩;exact⟨_,_,_,h2,GI,HI,G3,a,M3,fun G4 H4 σ4 s4 M4=>⟨G4,M4,(s'.trans s3).trans s4⟩⟩
 ·have ekn:k=n:=!0
  subst ekn;rcases he with⟨h1,h2⟩ | ⟨h1,h2,h3⟩
  ·subst h2;refine⟨_,false,h1,Gp,H,Gp,S,fun G2 H2 e2=>?_⟩;obtain⟨G3,s3,M3,_,_⟩:=back G2 H2 e2;exact ET (q G3 H2 σ (s'.trans s3) M3)
  ·refine⟨_,true,h1,Gp,H,Gp,S,fun G2 H2 e2=>?_⟩;obtain⟨G3,s3,M3,_,_⟩:=back G2 H2 e2;refine Br ⟨fun _ _=>False,fun _ _ h=>h.elim,_,_,oc,h2,GI,HI,G3,a,M3,?_⟩
   cases oc with
   | next r t=>cases h3
   | ret d t=>exact q
   | exc n=>exact q
def T7{XC:aI->Prop}{k:Nat}{C f:aI}{ps:bS}{R:cV->Int->Prop}{np jb:mH}{z n:Int}(hr:xB XC X E)(hc:X.calm=true)(M:XR X.K XC C f)(F:mq X.prog X.w X.K X.mg X.base mx k f fd ps (Y4 X.K R))(hrm:fZ (k+1) X.A)(hb:Binds X.K fd ps [])(hm:X.mg x=some (.ref C))(he:Ev X (Fi O ρ i st) e (.int z))(hR:R [.int z] n)(hg:Gl X x:=by rfl)(xg:(x == ("__debug__":cY))=false:=by decide)
  (hs:SE X e []:=by rfl):Mx X O E i ρ st (.Raise (some (.Call (.Name x np) [e] [] jb)) none pos) (.exc n):=
 eX (VS hr hc M F hrm hb hg hm (ab he ar hs) ck xg hs) fun Dn σ H ⟨GI,HI,G,a,M,q⟩=>by
  obtain⟨Gp,S,hd,back⟩:=M.up;refine⟨Gp,H,Gp,S,fun G2 H2 vs e2 d2=>?_⟩;obtain⟨v,rfl,hv⟩:=kO d2;cases hv;obtain⟨G3,s3,M3,_,_⟩:=back G2 H2 e2;exact⟨n,(by show 1<=10;decide),hR,q G3 H2 M3.sr.ext⟩
end
section
variable {K:a9}{T:Type}
def a2Q(O:OM K T)(G HI:Hp)(a:aI)(Q:VK)(E:XK):u9 T->Prop
 | .ok d D4=>∀G' H' v,Ext G HI G' H'->O.R HI G' H' a D4->Dt K G' v d->Q v H'
 | .exc n=>∀G' H',Ext G HI G' H'->E (xn n) none H'
def spM(O:OM K T)(R:T->bM->u9 T->Prop):Sp:=fun vs H Q E=>∃HI G a st args out TB,vs= .ref a::TB/\bN HI H/\bN G H/\O.R HI G H a st/\bV K G TB args/\R st args out/\a2Q O G HI a Q E out
end
structure RF(P:bp)(w:cH)(K:a9)(mg:MG)(base:cy)(CX:NI){T:Type}(O:OM K T)(m:cY)(k:Nat)(R:T->bM->u9 T->Prop):Prop where
 ex:∃f fd ps,mq P w K mg base CX k f fd ps (spM O R)/\Meth K O.cls m f/\N2 K O.cls/\Binds K fd ps []
section
variable {X:Cx}{T:Type}{O:OM X.K T}{E:XK}{i:Nat}{ρ:br}{st:T}{a:du}{es:jT}{ds:bM}{pos apos p:mH}{x m:cY}{CX:NI}{k:Nat}{R:T->bM->u9 T->Prop}{out:u9 T}
def RH(X:Cx){T:Type}(O:OM X.K T)(E:XK)(i:Nat)(ρ:br)(GI HI G:Hp)(σ:L2.St)(ad:aI)(Q:VK):u9 T->Prop
 | .ok d D4=>∀G' H' v,bN G G'->MR O GI HI G' H' σ ρ i ad D4->Dt X.K G' v d->Q v H'
 | .exc n=>∀G' H',Ext GI HI G' H'->E (xn n) none H'
def Fj{GI HI G H:Hp}{ad:aI}{Q:VK}(M:MR O GI HI G H σ ρ i ad st)(q:RH X O E i ρ GI HI G σ ad Q out):a2Q O G HI ad Q E out:=by
 have tr:∀{G' H'},Ext G HI G' H'->Ext GI HI G' H':=fun {G' H'} e=>⟨M.sr.ext.g.trans e.g,e.h,e.s,fun b o h n=>e.o b o h (M.sr.ext.o b o h n)⟩
 cases out with
 | ok d D4=>exact fun G' H' v e r dv=>q G' H' v e.g ⟨tP M.sr M.no (tr e) e.g,M.at_,r,M.no⟩ dv
 | exc n=>exact fun G' H' e=>q G' H' (tr e)
def Jk{Q:VK}(h:tV O E i ρ st out σ H Q):∃GI HI G ad,MR O GI HI G H σ ρ i ad st/\RH X O E i ρ GI HI G σ ad Q out:=by
 cases out with
 | ok d D4=>exact h
 | exc n=>exact h
def jz{pl:GX Bool}(F:RF X.prog X.w X.K X.mg X.base CX O m k R)(hx:Passes CX X E)(hr:fZ k X.A)(hn:m∉O.names)(hR:R st [] out)(hN:X.N[i]? =some x:=by rfl)(hv:KS X.env.scope x:=by walk_at "o")
  (hd:(x == ("__debug__":cY))=false:=by decide)(qx:(x == ("__classdict__":cY))=false:=by decide)
  (ht:fX (.Call (.Attribute (.Name x p) m apos) [] [] pos) X.env=(do
   let ov <-fX (.Name x p) X.env
   oH apos.atName
   let(f,first) <-kh [ov] (mf ov m pl)
   pk pos f first (nt pos (dM [] X.env)) (mS pos (iX [] X.env))):=by rfl):Mv X O E i ρ st (.Call (.Attribute (.Name x p) m apos) [] [] pos) out:=by
 obtain⟨f,fd,ps,F,hm,c,hb⟩:=F.ex;refine eL (NJ (E:=E) (nP hN hv hd qx) c hm F hr hb .nil hx ht) fun σ H Q h=>?_;obtain⟨GI,HI,G,ad,M,q⟩:=Jk h;obtain⟨dx,fs,e1,e2⟩:=O.ins M.ob;exact⟨.ref ad,M.at_,ad,dx,fs,rfl,e1,e2 m hn,HI,G,ad,st,[],out,[],rfl,M.sr.ext.h,M.sr.same,M.ob,.nil,hR,Fj M q⟩
def kJ{pl:GX Bool}(F:RF X.prog X.w X.K X.mg X.base CX O m k R)(hx:Passes CX X E)(hr:fZ k X.A)(hn:m∉O.names)(ha:Ea X (Fi O ρ i st) (a::es) ds)(WD:D.zo ds=true)(hR:R st ds out)(hN:X.N[i]? =some x:=by rfl)(hv:KS X.env.scope x:=by walk_at "o")
  (hd:(x == ("__debug__":cY))=false:=by decide)(qx:(x == ("__classdict__":cY))=false:=by decide)
  (vU:SE X a es:=by rfl)(hpl:ya X pos es:=by rfl)
  (ht:fX (.Call (.Attribute (.Name x p) m apos) (a::es) [] pos) X.env=(do
   let ov <-fX (.Name x p) X.env
   oH apos.atName
   let(f,first) <-kh [ov] (mf ov m pl)
   pk pos f first (nt pos (dM (a::es) X.env)) (mS pos (iX [] X.env))):=by rfl):Mv X O E i ρ st (.Call (.Attribute (.Name x p) m apos) (a::es) [] pos) out:=by
 obtain⟨f,fd,ps,F,hm,c,hb⟩:=F.ex;refine eL (Hh (E:=E) (nP hN hv hd qx) c hm F hr hb .nil hx ha vU hpl ht) fun σ H Q h=>?_;obtain⟨GI,HI,G,ad,M,q⟩:=Jk h;obtain⟨dx,fs,e1,e2⟩:=O.ins M.ob;obtain⟨Gp,S,hdt,back⟩:=M.up;refine⟨.ref ad,M.at_,ad,dx,fs,rfl,e1,e2 m hn,Gp,H,Gp,S,fun G2 H2 vs e3 d3=>?_⟩;obtain⟨G3,s3,M3,_,fl⟩:=back G2 H2 e3;have q3:RH X O E i ρ GI HI G3 σ ad Q out:=by
  cases out with
  | ok d D4=>exact fun G' H' v s M d=>q G' H' v (s3.trans s) M d
  | exc n=>exact q
 exact⟨HI,G3,ad,st,ds,out,vs++[],rfl,M3.sr.ext.h,M3.sr.same,M3.ob,by rw[dC];exact fl _ _ WD d3,hR,Fj M3 q3⟩
end
def a2R{T:Type}:JZ T->u9 T->Prop
 | .ret d st,.ok d' D4=>d=d'/\st=D4
 | .next _ st,.ok d' D4=>d'= .fA/\st=D4
 | .exc n,.exc n'=>n=n'
 | _,_=>False
def startM(N:bS)(args:bM):br:=.no::(args.map Sl.dat++aY (N.length-1-args.length) .no)
def Lp(N:bS)(args:bM):noOwn (startM N args):=by
 intro j l h
 cases j with
 | zero=>cases h
 | succ j=>
  have h':(args.map Sl.dat++aY (N.length-1-args.length) Sl.no)[j]? =some (.own l):=h;by_cases q:j<args.length
  ·rw[bZ (by simpa using q),aC,aV q]at h';cases h'
  ·rw[cF (by simpa using q),iw]at h'
   split at h'<;>cases h'
def Jl{K:a9}{T:Type}{O:OM K T}{HI G H:Hp}{N:bS}{vs:cV}{args:bM}{st:T}(s1:bN HI H)(s2:bN G H)(r:bV K G vs args)(hR:O.R HI G H a st)(hl:args.length+1<=N.length):MR O G HI G H (start N (.ref a::vs)) (startM N args) 0 a st:=by
 have e:=r.length;refine⟨⟨?_,⟨bN.refl _,s1,s2,fun _ _ _ h=>h⟩,fun j sl hj=>?_,fun j k l l' hj=>absurd hj (Lp N args j l)⟩,rfl,hR,Lp N args⟩
 ·unfold L2.start startM;simp[e];omega
 ·cases j with
  | zero=>cases hj;trivial
  | succ j=>
   have h':(args.map Sl.dat++aY (N.length-1-args.length) Sl.no)[j]? =some sl:=hj;by_cases q:j<args.length
   ·rw[bZ (by simpa using q),aC,aV q]at h';cases h';obtain⟨v,e1,hv⟩:=r.get (i:=j) (d:=args[j]) (by simp[q]);refine⟨v,?_,hv⟩;unfold L2.start;rw[bZ (by simp;omega),aC,gc,e1];rfl
   ·rw[cF (by simpa using q),iw]at h'
    split at h'<;>cases h'
    trivial
def a4s{XC:aI->Prop}{K:a9}{mg:MG}{x fO:cY}{st:di}{N ps:bS}{k:Nat}{T:Type}{O:OM K T}{R:T->bM->u9 T->Prop}(F:Hi K x fO st f fd)(S:ba N ps (aj st))
  (len:∀t args out,R t args out->args.length+1=ps.length)
  (hb:∀(dw:aH) (A:dD) (outer:iC) (s:ai) (H:Hp) (E:XK),fZ k (A.deeper (jQ fO (aj st) s.heap.objs.size f dw))->∀t args out,R t args out->
   ∃oc,yD (vW (Lm XC P w) P w K mg base N fO (aj st) f dw A outer s H E) O E 0 (startM N args) t (aX st) oc/\a2R oc out):mq P w K mg base (Lm XC P w) (k+1) f fd ps (spM O R):=by
 obtain⟨oc,od,kV,doc,pm,an,dw,ct,OW,rfl,lk,qx⟩:=F.ex;refine QX lk qx S (by rintro vs H Q E ⟨HI,G,a,t,args,out,TB,e,s1,s2,r,da,h,_⟩;rw[e,ah,da.length];exact len _ _ _ h) ?_;rintro A outer s H vs Q E hr ⟨HI,G,a,t,args,out,TB,e,s1,s2,r,da,h,q⟩;subst e;obtain⟨oc,hx,hf⟩:=hb dw A outer s H E hr t args out h;have hl:args.length+1<=N.length:=by
  rw[len _ _ _ h];have:=congrArg oa S.pre;rw[fY]at this;omega
 refine⟨_,hx,G,HI,G,a,Jl s1 s2 da r hl,?_⟩
 cases oc with
 | next ρ' D4=>
  cases out with
  | ok d st2=>obtain⟨rfl,rfl⟩:=hf;exact fun G' H' σ' s' M=>q G' H' _ M.sr.ext M.ob .fA
  | exc n=>exact hf.elim
 | ret d' D4=>
  cases out with
  | ok d st2=>obtain⟨rfl,rfl⟩:=hf;exact q
  | exc n=>exact hf.elim
 | exc n'=>
  cases out with
  | ok d st2=>exact hf.elim
  | exc n=>cases hf;exact q
end Dl
namespace Pg
open PySem PySem.Spec PyProof.Rows L2 Dl
variable {P:bp}{w:cH}{K:a9}{mg:cY->iF}{base:cy}{Z:Ad}
def Qk(x:a5a):D:=.tup [nK x.name,nI x.src,nI x.dst]
structure zr where
 text:cE
 place:Nat
 streams:List a5a
 nodes:BL
def Zi(st:zr):A8:=[("text",iD st.text),("place",nI st.place),("streams",.lst (st.streams.map Qk)),("nodes",.lst (st.nodes.map nK))]
def Ql(tv:V)(p:Nat)(sa na:aI):nz:=[("text",tv),("place",.int (p:Int)),("streams",.ref sa),("nodes",.ref na)]
structure RP(K:a9)(C:aI)(HI G H:Hp)(a:aI)(st:zr)(dx:aI)(tv:V)(sa na:aI)(Kj N5:cV):Prop where
 ob:H a=some (.ins C dx (Ql tv st.place sa na))
 fa:HI a=none/\G a=none
 tx:Dt K G tv (iD st.text)
 sl:H sa=some (.lst Kj)
 fs:HI sa=none/\G sa=none
 sd:bV K G Kj (st.streams.map Qk)
 nl:H na=some (.lst N5)
 fn:HI na=none/\G na=none
 nd:bV K G N5 (st.nodes.map nK)
 ne:sa≠na
def RP.a_s{HI G H:Hp}{st:zr}{sa na:aI}{Kj N5:cV}(h:RP K C HI G H a st dx tv sa na Kj N5):a≠sa/\a≠na:=by
 refine⟨fun e=>?_,fun e=>?_⟩
 ·have:=h.ob;rw[e,h.sl]at this;cases this
 ·have:=h.ob;rw[e,h.nl]at this;cases this
def RO(K:a9)(C:aI)(HI G H:Hp)(a:aI)(st:zr):Prop:=∃dx tv sa na Kj N5,RP K C HI G H a st dx tv sa na Kj N5
def uw(K:a9)(Z:Ad):OM K zr where
 R:=RO K Z.bJ
 D:=fun st=>.ins Z.bJ (Zi st)
 cls:=Z.bJ
 names:=["text","place","streams","nodes"]
 up:=by
  rintro HI G H a st ⟨dx,tv,sa,na,Kj,N5,h⟩ s;obtain⟨n1,n2⟩:=h.a_s;have g1:bN G (upd G a (.ins Z.bJ dx (Ql tv st.place sa na))):=gK h.fa.2;have f2:(upd G a (.ins Z.bJ dx (Ql tv st.place sa na))) sa=none:=by rw[aL n1.symm];exact h.fs.2
  have g2:bN (upd G a (.ins Z.bJ dx (Ql tv st.place sa na))) (upd (upd G a (.ins Z.bJ dx (Ql tv st.place sa na))) sa (.lst Kj)):=gK f2;have f3:(upd (upd G a (.ins Z.bJ dx (Ql tv st.place sa na))) sa (.lst Kj)) na=none:=by rw[aL h.ne.symm,aL n2.symm];exact h.fn.2
  have g3:bN (upd (upd G a (.ins Z.bJ dx (Ql tv st.place sa na))) sa (.lst Kj)) (upd (upd (upd G a (.ins Z.bJ dx (Ql tv st.place sa na))) sa (.lst Kj)) na (.lst N5)):=gK f3;have gg:=(g1.trans g2).trans g3;refine⟨upd (upd (upd G a (.ins Z.bJ dx (Ql tv st.place sa na))) sa (.lst Kj)) na (.lst N5),fun b=>b=a\/b=sa\/b=na,gg,fun b o e=>?_,.ins (dx:=dx) (fs:=Ql tv st.place sa na) ?_ (.cons (h.tx.mono gg) (.cons (.int _) (.cons (.lst ?_ (h.sd.mono gg)) (.cons (.lst aU (h.nd.mono gg)) .nil)))),?_,fun b o e n=>?_,fun G' H' s1 s2 ho=>⟨dx,tv,sa,na,Kj,N5,?_⟩⟩
  ·by_cases q3:b=na
   ·rw[q3,aU]at e;cases e;rw[q3];exact h.nl
   ·rw[aL q3]at e;by_cases q2:b=sa
    ·rw[q2,aU]at e;cases e;rw[q2];exact h.sl
    ·rw[aL q2]at e;by_cases q1:b=a
     ·rw[q1,aU]at e;cases e;rw[q1];exact h.ob
     ·rw[aL q1]at e;exact s _ _ e
  ·rw[aL n2,aL n1,aU]
  ·rw[aL h.ne,aU]
  ·rintro b (rfl | rfl | rfl)
   ·exact⟨h.fa.1,h.fa.2,_,h.ob,(fun _=>nofun),fun _ _=>nofun⟩
   ·exact⟨h.fs.1,h.fs.2,_,h.sl,(fun _=>nofun),fun _ _=>nofun⟩
   ·exact⟨h.fn.1,h.fn.2,_,h.nl,(fun _=>nofun),fun _ _=>nofun⟩
  ·by_cases q3:b=na
   ·exact .inr (.inr q3)
   ·rw[aL q3]at e;by_cases q2:b=sa
    ·exact .inr (.inl q2)
    ·rw[aL q2]at e;by_cases q1:b=a
     ·exact .inl q1
     ·rw[aL q1,n]at e;cases e
  ·exact⟨s2 _ _ h.ob,⟨h.fa.1,ho _ _ h.ob h.fa.2⟩,h.tx.mono s1,s2 _ _ h.sl,⟨h.fs.1,ho _ _ h.sl h.fs.2⟩,h.sd.mono s1,s2 _ _ h.nl,⟨h.fn.1,ho _ _ h.nl h.fn.2⟩,h.nd.mono s1,h.ne⟩
 ins:=by
  rintro HI G H a st ⟨dx,tv,sa,na,Kj,N5,h⟩;refine⟨dx,_,h.ob,fun m hm=>?_⟩;have q:∀f∈(["text","place","streams","nodes"]:bS),(m == f)=false:=fun f hf=>beq_eq_false_iff_ne.mpr fun e=>hm (e▸hf);unfold Ql;rw[bP,q "text" ck,bP,q "place" ck,bP,q "streams" ck,bP,q "nodes" ck];rfl
section
variable {X:Cx}{E:XK}{i:Nat}{ρ:br}{st:zr}{pos p p2 p3 p4:mH}{x:cY}
def Hq{GI HI G H:Hp}{o:HO}(e:Ext GI HI G H)(h1:HI b=none)(h2:G b=none):Ext GI HI G (upd H b o):=
 ⟨e.g,fun c u q=>by rw[aL (bo q h1)];exact e.h _ _ q,fun c u q=>by rw[aL (bo q h2)];exact e.s _ _ q,e.o⟩
def MC{kk:Nat}(B:Bs X.prog X.K X.mg X.base Z)(hN:X.N[i]? =some x:=by rfl)(hv:KS X.env.scope x:=by walk_at "o")(hd:(x == ("__debug__":cY))=false:=by decide)(qx:(x == ("__classdict__":cY))=false:=by decide):
  Mx X (uw X.K Z) E i ρ st (.AugAssign (.Attribute (.Name x p) "place" p2) .Add (.Constant (.int 1) kk p3) pos) (.next ρ {st with place:=st.place+1}):=
 eX (Sw (nP hN hv hd qx) v9 a03) fun Dn σ H ⟨GI,HI,G,a,M,q⟩=>by
  obtain⟨dx,tv,sa,na,Kj,N5,h⟩:=M.ob;refine⟨.ref a,M.at_,a,Z.bJ,dx,_,.int (st.place:Int),rfl,h.ob,B.xT,B.D2 _ ck,rfl,_,_,rfl,rfl,dx,_,h.ob,(by show 4<1000;decide),?_⟩;have n1:=h.a_s;have e:pO "place" (.int ((st.place:Int)+1)) (Ql tv st.place sa na)=Ql tv (st.place+1) sa na:=rfl;rw[e];refine q G _ σ (bN.refl _) ⟨tP M.sr M.no (Hq M.sr.ext h.fa.1 h.fa.2) (bN.refl _),M.at_,⟨dx,tv,sa,na,Kj,N5,aU,h.fa,h.tx,by rw[aL n1.1.symm];exact h.sl,h.fs,h.sd,by rw[aL n1.2.symm];exact h.nl,h.fn,h.nd,h.ne⟩,M.no⟩
def Y9{e:du}{y:a5a}(B:Bs X.prog X.K X.mg X.base Z)(hl:st.streams.length<1000)(he0:Ev X (Fi (uw X.K Z) ρ i st) e (Qk y))(WD:(Qk y).flat=true)(hN:X.N[i]? =some x:=by rfl)(hv:KS X.env.scope x:=by walk_at "o")(hd:(x == ("__debug__":cY))=false:=by decide)(qx:(x == ("__classdict__":cY))=false:=by decide)
  (hab:Uk X (.Name x p) "streams":=by rfl)(ux:pj (.Attribute (.Name x p) "streams" p2) "append" X.env (fX (.Attribute (.Name x p) "streams" p2) X.env)=fX (.Attribute (.Name x p) "streams" p2) X.env:=by rfl)(he:SE X e []:=by rfl)
  (qQ:YE X p4 [e]:=by rfl)
  (uz:(p3.endLine == p4.line)=true:=by rfl)(oS:ya X p4 []:=by rfl)(hs:dj (.Call (.Attribute (.Attribute (.Name x p) "streams" p2) "append" p3) [e] [] p4) none pos.line X.env=pure false:=by rfl):
  Mx X (uw X.K Z) E i ρ st (.Expr (.Call (.Attribute (.Attribute (.Name x p) "streams" p2) "append" p3) [e] [] p4) pos) (.next ρ {st with streams:=st.streams++[y]}):=
 eX (lj (FZ fh lL lM B3 (LY (nP hN hv hd qx) hab) (ab he0 ar he) ux qQ uz he oS) hs) fun Dn σ H ⟨GI,HI,G,a,M,q⟩=>by
  obtain⟨dx,tv,sa,na,Kj,N5,h⟩:=id M.ob;refine⟨.ref a,M.at_,a,Z.bJ,dx,_,.ref sa,rfl,h.ob,B.xT,B.D2 _ ck,rfl,Z4 h.sl,?_⟩;obtain⟨Gp,S,hdt,back⟩:=M.up;refine⟨Gp,H,Gp,S,fun G2 H2 vs e3 d3=>?_⟩;obtain⟨v,rfl,hv3⟩:=kO d3;obtain⟨G3,s3,M3,fl,_⟩:=back G2 H2 e3;have hv4:=fl _ _ WD hv3;have go:∀b ob,H b=some ob->H2 b=some ob:=fun b ob q=>e3.h _ _ q;have off:∀b,HI b=none->G b=none->(∃ob,H b=some ob)->G3 b=none->G3 b=none:=fun _ _ _ _ h=>h;obtain⟨dx',tv',sa',na',a2S,a2T,h'⟩:=M3.ob;have eo:=h'.ob;rw[go _ _ h.ob]at eo;cases eo;have es:=h'.sl;rw[go _ _ h.sl]at es;cases es;have n1:=h'.a_s;refine⟨sa,Kj,v,rfl,rfl,h'.sl,?_,?_⟩
  ·rw[h'.sd.length,aa];exact uR hl ck
  ·refine q G3 _ σ s3 ⟨tP M3.sr M3.no (Hq M3.sr.ext h'.fs.1 h'.fs.2) (bN.refl _),M3.at_,⟨dx,tv,sa,na,Kj++[v],a2T,by rw[aL n1.1];exact h'.ob,h'.fa,h'.tx,aU,h'.fs,?_,by rw[aL h'.ne.symm];exact h'.nl,h'.fn,h'.nd,h'.ne⟩,M3.no⟩;show bV X.K G3 (Kj++[v]) ((st.streams++[y]).map Qk);rw[cJ];exact h'.sd.append (.cons hv4 .nil)
def Ya{e:du}{y:bL}(B:Bs X.prog X.K X.mg X.base Z)(hl:st.nodes.length<1000)(he0:Ev X (Fi (uw X.K Z) ρ i st) e (nK y))(WD:(nK y).flat=true)(hN:X.N[i]? =some x:=by rfl)(hv:KS X.env.scope x:=by walk_at "o")(hd:(x == ("__debug__":cY))=false:=by decide)(qx:(x == ("__classdict__":cY))=false:=by decide)
  (hab:Uk X (.Name x p) "nodes":=by rfl)(ux:pj (.Attribute (.Name x p) "nodes" p2) "append" X.env (fX (.Attribute (.Name x p) "nodes" p2) X.env)=fX (.Attribute (.Name x p) "nodes" p2) X.env:=by rfl)(he:SE X e []:=by rfl)
  (qQ:YE X p4 [e]:=by rfl)
  (uz:(p3.endLine == p4.line)=true:=by rfl)(oS:ya X p4 []:=by rfl)(hs:dj (.Call (.Attribute (.Attribute (.Name x p) "nodes" p2) "append" p3) [e] [] p4) none pos.line X.env=pure false:=by rfl):
  Mx X (uw X.K Z) E i ρ st (.Expr (.Call (.Attribute (.Attribute (.Name x p) "nodes" p2) "append" p3) [e] [] p4) pos) (.next ρ {st with nodes:=st.nodes++[y]}):=
 eX (lj (FZ fh lL lM B3 (LY (nP hN hv hd qx) hab) (ab he0 ar he) ux qQ uz he oS) hs) fun Dn σ H ⟨GI,HI,G,a,M,q⟩=>by
  obtain⟨dx,tv,sa,na,Kj,N5,h⟩:=id M.ob;refine⟨.ref a,M.at_,a,Z.bJ,dx,_,.ref na,rfl,h.ob,B.xT,B.D2 _ ck,rfl,Z4 h.nl,?_⟩;obtain⟨Gp,S,hdt,back⟩:=M.up;refine⟨Gp,H,Gp,S,fun G2 H2 vs e3 d3=>?_⟩;obtain⟨v,rfl,hv3⟩:=kO d3;obtain⟨G3,s3,M3,fl,_⟩:=back G2 H2 e3;have hv4:=fl _ _ WD hv3;have go:∀b ob,H b=some ob->H2 b=some ob:=fun b ob q=>e3.h _ _ q;obtain⟨dx',tv',sa',na',a2S,a2T,h'⟩:=M3.ob;have eo:=h'.ob;rw[go _ _ h.ob]at eo;cases eo;have es:=h'.nl;rw[go _ _ h.nl]at es;cases es;have n1:=h'.a_s;refine⟨na,N5,v,rfl,rfl,h'.nl,?_,?_⟩
  ·rw[h'.nd.length,aa];exact uR hl ck
  ·refine q G3 _ σ s3 ⟨tP M3.sr M3.no (Hq M3.sr.ext h'.fn.1 h'.fn.2) (bN.refl _),M3.at_,⟨dx,tv,sa,na,a2S,N5++[v],by rw[aL n1.2];exact h'.ob,h'.fa,h'.tx,by rw[aL h'.ne];exact h'.sl,h'.fs,h'.sd,aU,h'.fn,?_,h'.ne⟩,M3.no⟩;show bV X.K G3 (N5++[v]) ((st.nodes++[y]).map nK);rw[cJ];exact h'.nd.append (.cons hv4 .nil)
end
open fw (Rd l9 jt BR hJ EJ ip oW qd fc bR wg uo)
def blanks:bL->Nat
 | []=>0
 | c::r=>if c=32 then blanks r+1 else 0
theorem OD:∀(l:bL) (p:Nat),l9 p l=(p+blanks l,l.drop (blanks l))
 | [],p=>by simp[l9,blanks]
 | c::r,p=>by
  unfold l9 blanks;by_cases h:c=32
  ·rw[if_pos h,if_pos h,OD r (p+1)];simp;omega
  ·rw[if_neg h,if_neg h];rfl
theorem Bi:∀l:bL,blanks l<=l.length
 | []=>ao _
 | c::r=>by
  unfold blanks;have:=Bi r
  split<;>simp<;>omega
theorem Lq:∀(l:bL) (k:Nat),k<blanks l->l[k]? =some 32
 | [],k,h=>by simp[blanks]at h
 | c::r,k,h=>by
  unfold blanks at h;by_cases hc:c=32
  ·rw[if_pos hc]at h
   cases k with
   | zero=>simp[hc]
   | succ k=>rw[gc];exact Lq r k (!0)
  ·rw[if_neg hc]at h;omega
theorem Jm:∀(l:bL),l[blanks l]? ≠some 32
 | []=>by simp
 | c::r=>by
  unfold blanks;by_cases hc:c=32
  ·rw[if_pos hc,gc];exact Jm r
  ·rw[if_neg hc];simp[hc]
theorem Ao:∀(k:Nat) (l:bL),(cf k l).1=l.take (cf k l).1.length/\(cf k l).2=l.drop (cf k l).1.length
 | 0,l=>by simp[cf]
 | k+1,[]=>by simp[cf]
 | k+1,c::r=>by
  unfold cf;by_cases h:me c=true
  ·rw[if_pos h];obtain⟨h1,h2⟩:=Ao k r;refine⟨?_,?_⟩
   ·show c::(cf k r).1=(c::r).take ((c::(cf k r).1).length);rw[ah,BH,<-h1]
   ·show(cf k r).2=(c::r).drop ((c::(cf k r).1).length);rw[ah,List.drop_succ_cons,<-h2]
  ·rw[if_neg h];simp
theorem Jn:∀(k:Nat) (l:bL) (j:Nat),j<(cf k l).1.length->∃c,l[j]? =some c/\me c=true
 | 0,l,j,h=>by simp[cf]at h
 | k+1,[],j,h=>by simp[cf]at h
 | k+1,c::r,j,h=>by
  unfold cf at h;by_cases hc:me c=true
  ·rw[if_pos hc]at h
   cases j with
   | zero=>exact⟨c,rfl,hc⟩
   | succ j=>exact Jn k r j (by simpa using h)
  ·rw[if_neg hc]at h;simp at h
def Qm:bL->Int
 | []=> -1
 | c::_=>(c:Int)
def Jo{l:bL}{k c:Nat}(h:l[k]? =some c):Qm (l.drop k)=(c:Int):=by
 obtain⟨hl,e⟩:=ag.mp h;rw[oN hl,e];rfl
def Qn{l:bL}{k c:Nat}(h:l[k]? =some c):jt (l.drop k)=me c:=by
 obtain⟨hl,e⟩:=ag.mp h;rw[oN hl,e];rfl
def a17{l:bL}:(Qm (l.drop (blanks l))=32)->False:=fun h=>by
 cases e:l[blanks l]? with
 | none=>
  rw[r9 (by simpa using e)]at h;cases h
 | some c=>
  rw[Jo e]at h;exact Jm l (by rw[e];congr 1;omega)
def ff(t:bL)(r:Rd):zr:=⟨fJ t,r.place,r.streams,r.nodes⟩
structure Ri(t:bL)(r:Rd):Prop where
 rest:r.rest=t.drop r.place
 le:r.place<=t.length
 few:t.length<=400
def rdD(Z:Ad)(t:bL)(r:Rd):D:=.ins Z.bJ (Zi (ff t r))
def EC(r:Rd)(k:Nat):Rd:={r with place:=r.place+k,rest:=r.rest.drop k}
def Ri.EC{t:bL}{r:Rd}(h:Ri t r){k:Nat}(hk:k<=r.rest.length):Ri t (EC r k):=by
 have hl:r.rest.length=t.length-r.place:=by rw[h.rest,kq]
 refine⟨?_,?_,h.few⟩
 ·show r.rest.drop k=t.drop (r.place+k);rw[h.rest,AS]
 ·show r.place+k<=t.length;have:=h.le;omega
def OE(r:Rd):bR r=EC r (blanks r.rest):=by
 unfold bR EC;rw[OD]
def Ri.skip{t:bL}{r:Rd}(h:Ri t r):Ri t (bR r):=by rw[OE];exact h.EC (Bi _)
def RBH(Z:Ad):bM->Out->Prop:=fun args out=>∃t r,Ri t r/\args=[rdD Z t r]/\out= .ok (.int (Qm r.rest))
def MD(st:zr):(Zi st).lookup ("text":cY)=some (iD st.text):=rfl
def o7(st:zr):(Zi st).lookup ("place":cY)=some (nI st.place):=rfl
def Cz(st:zr):(Zi st).lookup ("streams":cY)=some (D.lst (st.streams.map Qk)):=rfl
def Jp(st:zr):(Zi st).lookup ("nodes":cY)=some (D.lst (st.nodes.map nK)):=rfl
def OF(t:bL):((fJ t).map D.int).length=t.length:=by unfold fJ;simp
def Yb{t:bL}{k c:Nat}(h:t[k]? =some c):((fJ t).map D.int)[((k:Nat):Int).toNat]? =some (.int (c:Int)):=by
 rw[bH];unfold fJ;rw[bc,aC,h];rfl
def T8(B:Bx P K mg base Z):FM P w K mg base mx Z.bJ "byte_here" 1 (RBH Z):=by
 refine uv (k:=0) (N:=k8) B.yw B.xT xu ?_;rintro f dw A outer st H E hr args out ⟨t,r,hi,rfl,rfl⟩;obtain⟨te,hte⟩:=B.cTE;refine⟨.ret (.int (Qm r.rest)),?_,rfl⟩;have ht:Et (dX P w K mg base k8 "TextReader.byte_here" (aj jZ) f dw A outer st H E) (fN k8 [rdD Z t r]) (match aX jZ with | .If c _ _ _::_=>c | _=>.Constant .none 0 ⟨0,0,0,0⟩) (decide (r.place<t.length)):=
  Et.eq (Ld (dk (a8 0 rfl) B.xT (B.D2 _ ck) (o7 _)) (i9 B.len (dk (a8 0 rfl) B.xT (B.D2 _ ck) (MD _)))) (by
   rw[show(ff t r).text=fJ t from rfl,OF];by_cases h:r.place<t.length
   ·rw[decide_eq_true h,decide_eq_true];show((r.place:Nat):Int)<((t.length:Nat):Int);omega
   ·rw[decide_eq_false h,decide_eq_false];show ¬((r.place:Nat):Int)<((t.length:Nat):Int);omega)
 by_cases h:r.place<t.length
 ·have e1:t[r.place]? =some t[r.place]:=by simp
  have e2:Qm r.rest=(t[r.place]:Int):=by rw[hi.rest];exact Jo e1
  rw[e2];exact de (gq ht (fun _=>aK (cq (eM (dk (a8 0 rfl) B.xT (B.D2 _ ck) (MD _)) (dk (a8 0 rfl) B.xT (B.D2 _ ck) (o7 _)) (by show(0:Int)<=((r.place:Nat):Int);omega) (Yb e1)))) (fun q=>by rw[decide_eq_true h]at q;cases q))
 ·have e2:Qm r.rest= -1:=by rw[hi.rest,r9 (!0)];rfl
  rw[e2];exact ak (gq ht (fun q=>by rw[decide_eq_false h]at q;cases q) (fun _=>iA)) (aK (cq (Ci hte)))
def VW{ρ:br}{a b c:du}{i j k:Int}(ha:Ev X ρ a (.int i))(hb:Ev X ρ b (.int j))(hc:Ev X ρ c (.int k))(hm:lastMarks [.LtE,.LtE] [b,c]=false:=by with_unfolding_all rfl):Ev X ρ (.Compare a [.LtE,.LtE] [b,c] pos) (.bl (decide (i<=j) && decide (j<=k))):=
 eL (UB YN YN ha hb hc hm) fun σ H Q ⟨GI,HI,G,S,q⟩=>⟨GI,HI,G,S,fun G1 H1 v e1 d1=>⟨GI,HI,G1,S.mono e1,fun G2 H2 v2 e2 d2=>by
  cases d1;cases d2;refine⟨i,j,rfl,rfl,_,rfl,?_⟩;by_cases h:i<=j
  ·rw[if_pos (decide_eq_true h)];refine⟨GI,HI,G2,(S.mono e1).mono e2,fun G3 H3 v3 e3 d3=>?_⟩;cases d3;refine⟨j,k,rfl,rfl,?_⟩;rw[decide_eq_true h,eJ]at q;exact q G3 H3 _ ((e1.trans e2).trans e3) (.bl _)
  ·rw[if_neg (by rw[decide_eq_false h];decide)];rw[decide_eq_false h,kA]at q;exact q G2 H2 _ (e1.trans e2) (.bl _)⟩⟩
def T9(l:bL):(decide ((97:Int)<=Qm l) && decide (Qm l<=122))=jt l:=by
 cases l with
 | nil=>rfl
 | cons c r=>
  show(decide ((97:Int)<=(c:Int)) && decide ((c:Int)<=122))=(decide (97<=c) && decide (c<=122));have h1:decide ((97:Int)<=(c:Int))=decide (97<=c):=decide_eq_decide.mpr (!0);have h2:decide ((c:Int)<=122)=decide (c<=122):=decide_eq_decide.mpr (!0);rw[h1,h2]
def RLH(Z:Ad):bM->Out->Prop:=fun args out=>∃t r,Ri t r/\args=[rdD Z t r]/\out= .ok (.bl (jt r.rest))
def Yd(B:Bx P K mg base Z):FM P w K mg base mx Z.bJ "letter_here" 2 (RLH Z):=by
 refine uv (k:=1) (N:=p8) B.wY B.xT vY ?_;rintro f dw A outer st H E hr args out ⟨t,r,hi,rfl,rfl⟩;obtain⟨t1,h1⟩:=B.cFL;obtain⟨t2,h2⟩:=B.cLL;refine⟨.ret (.bl (jt r.rest)),?_,rfl⟩;rw[<-T9];exact aK (cq (VW (Ci h1) (ju (T8 B) hr (a8 0 rfl) (by rfl) ⟨t,r,hi,rfl,rfl⟩) (Ci h2)))
def yE{K:a9}{mg:MG}{XC:aI->Prop}{T:Type}{O:OM K T}{x fO:cY}{st:di}{N ps:bS}{k:Nat}{R:T->bM->u9 T->Prop}(F:DJ K O.cls x fO st)(c:N2 K O.cls)(S:ba N ps (aj st))
  (hb:∀(f:aI) (dw:aH) (A:dD) (outer:iC) (s:ai) (H:Hp) (E:XK),fZ k (A.deeper (jQ fO (aj st) s.heap.objs.size f dw))->∀t args out,R t args out->
   ∃oc,yD (vW (Lm XC P w) P w K mg base N fO (aj st) f dw A outer s H E) O E 0 (startM N args) t (aX st) oc/\a2R oc out)(bi:∀(kV doc pm:aH) (an:rj) (dw ct:aH) (us:fk),us.length=ps.length->xE (fF x fO (nA st) (aX st) (aj st) .none kV doc pm an dw ct) ⟨us,[]⟩=pure (ps.zip us):=by walk_at "b")(len:∀t args out,R t args out->args.length+1=ps.length:=by walk_at "m"):RF P w K mg base (Lm XC P w) O x (k+1) R:=by
 obtain⟨f,fd,F,hm⟩:=F.ex;exact⟨f,fd,ps,a4s F S len (hb f),hm,c,F.binds bi⟩
abbrev CZ(P:bp)(w:cH)(K:a9)(Z:Ad):NI:=Lm (XCz K Z) P w
abbrev cz(P:bp)(w:cH)(K:a9)(mg:cY->iF)(base:cy)(Z:Ad)(N:bS)(x:cY)(st:di)(f:aI)(dw:aH)(A:dD)(outer:iC)(s:ai)(H:Hp)(E:XK):Cx:=vW (CZ P w K Z) P w K mg base N x (aj st) f dw A outer s H E
def RSB:zr->bM->u9 zr->Prop:=fun st args out=>∃t r,Ri t r/\st=ff t r/\args=[]/\out= .ok .fA (ff t (bR r))
def a2U(r:Rd):EC r 0=r:=rfl
def VX(B:Bx P K mg base Z):RF P w K mg base (CZ P w K Z) (uw K Z) "skip_blanks" 2 RSB:=by
 refine yE (k:=1) (O:=uw K Z) (N:=jn) B.wZ B.xT vZ ?_;rintro f dw A outer s H E hr st args out ⟨t,r,hi,rfl,rfl,rfl⟩;obtain⟨tb,hb⟩:=B.cBl;refine⟨.next (startM jn []) (ff t (bR r)),?_,rfl,rfl⟩;rw[OE];refine kS (Jj eC (fun k=>(startM jn [],ff t (EC r k))) (by rw[a2U]) (blanks r.rest) (fun k hk=>⟨?_,?_⟩) (.inl ⟨?_,rfl⟩))
 ·have Tw:=hi.EC (k:=k) (by have:=Bi r.rest;omega);refine Et.eq (Dv (ju (T8 B) hr (a8 0 rfl) (by rfl) ⟨t,EC r k,Tw,rfl,rfl⟩) (Ci hb)) ?_;rw[show(EC r k).rest=r.rest.drop k from rfl,Jo (Lq _ _ hk)];rfl
 ·exact kS (MC B.toBs)
 ·have Tw:=hi.EC (Bi r.rest);refine Et.eq (Dv (ju (T8 B) hr (a8 0 rfl) (by rfl) ⟨t,EC r _,Tw,rfl,rfl⟩) (Ci hb)) ?_;exact decide_eq_false fun h=>a17 h
section
variable {N:bS}{x:cY}{sc:jV}{f:aI}{dw:aH}{A:dD}{outer:iC}{s:ai}{H:Hp}{E:XK}{ρ:br}{np jb pos:mH}{e:du}{z:Int}{T:Type}{O:OM K T}{i:Nat}{st:T}
def ME(B:Bx P K mg base Z)(hr:fZ 3 (A.deeper (jQ x sc s.heap.objs.size f dw)))(he:Ev (rX P w K mg base Z N x sc f dw A outer s H E) (Fi O ρ i st) e (.int z))(hg:Gl (rX P w K mg base Z N x sc f dw A outer s H E) "WrongText":=by rfl)(hs:dM [e] (rX P w K mg base Z N x sc f dw A outer s H E).env=[(false,fX e (rX P w K mg base Z N x sc f dw A outer s H E).env)]:=by rfl):
  Mx (rX P w K mg base Z N x sc f dw A outer s H E) O E i ρ st (.Raise (some (.Call (.Name "WrongText" np) [e] [] jb)) none pos) (.exc (-1000-z)):=by
 obtain⟨m,g,fd,F,R⟩:=B.a4o;exact T7 MA rfl R (a2O B F) hr (F.binds) m he ⟨z,rfl,rfl⟩ hg ck hs
end
def Bz{m:cY}(h:m∉(["text","place","streams","nodes"]:bS)):m∉(uw K Z).names:=h
def exW(e:Nat):u9 zr:=.exc (-1000-(e:Int))
def OG(c:Nat)(r:Rd):qd c r=if Qm (bR r).rest=(c:Int)then .ok (EC (bR r) 1)else .error (bR r).place:=by
 unfold qd BR bR;generalize hg:l9 r.place r.rest=x;obtain⟨q,l⟩:=x
 cases l with
 | nil=>
  have:¬(Qm []=(c:Int)):=by show ¬((-1:Int)=(c:Int));omega
  simp[this]
 | cons d l=>
  by_cases h:d=c
  ·subst h;simp[Qm,EC]
  ·have h2:¬((d:Int)=(c:Int)):=!0
   rw[if_neg (show ¬(Qm (d::l)=(c:Int))from h2)];simp[h]
def RTS:zr->bM->u9 zr->Prop:=fun st args out=>∃t r,∃c:Nat,Ri t r/\st=ff t r/\args=[nI c]/\out=match qd c r with
 | .error e=>exW e
 | .ok r'=>.ok .fA (ff t r')
def a18{l:bL}{c:Nat}(h:Qm l=(c:Int)):1<=l.length:=by
 cases l with
 | nil=>exact absurd h (by show ¬((-1:Int)=(c:Int));omega)
 | cons _ _=>simp
def Ta(B:Bx P K mg base Z):RF P w K mg base (CZ P w K Z) (uw K Z) "take_sign" 4 RTS:=by
 refine yE (k:=3) (O:=uw K Z) (N:=mE) B.yx B.xT xw ?_;rintro f dw A outer s H E hr st args out ⟨t,r,c,hi,rfl,rfl,rfl⟩;have h2:=hi.skip;rw[OG];by_cases h:Qm (bR r).rest=(c:Int)
 ·rw[if_pos h];refine⟨.next (startM mE [nI c]) (ff t (EC (bR r) 1)),?_,rfl,rfl⟩;refine dI (j1 (jz (VX B) ft hr.m (Bz ck) ⟨t,r,hi,rfl,rfl,rfl⟩)) ?_;refine dI (zq (k:=false) (Et.eq (Dw (ju (T8 B) hr.m (a8 0 rfl) (by rfl) ⟨t,bR r,h2,rfl,rfl⟩) (a8 1 rfl)) (by rw[decide_eq_true h];rfl)) (fun q=>by cases q) (fun _=>Cw)) ?_;exact kS (MC B.toBs)
 ·rw[if_neg h];refine⟨.exc (-1000-(((bR r).place:Nat):Int)),?_,rfl⟩;refine dI (j1 (jz (VX B) ft hr.m (Bz ck) ⟨t,r,hi,rfl,rfl,rfl⟩)) ?_;exact nj (zq (k:=true) (Et.eq (Dw (ju (T8 B) hr.m (a8 0 rfl) (by rfl) ⟨t,bR r,h2,rfl,rfl⟩) (a8 1 rfl)) (by rw[decide_eq_false h];rfl)) (fun _=>kS (ME B hr (dk (a8 0 rfl) B.xT (B.D2 _ ck) (o7 _)))) (fun q=>by cases q))
theorem Jq:∀l:bL,D.zo (l.map fun(i:Nat)=>D.int (i:Int))=true
 | []=>rfl
 | c::r=>by
  show(true && D.zo (r.map _))=true;rw[Jq r];rfl
def qm(l:bL):(nK l).flat=true:=by
 show D.zo (l.map _)=true;exact Jq l
def RTL:zr->bM->u9 zr->Prop:=fun st args out=>∃t r,Ri t r/\st=ff t r/\args=[]/\out=match hJ r.place r.rest with
 | .error e=>exW e
 | .ok (st,name,rest)=>.ok (nK name) (ff t {r with place:=st+name.length,rest:=rest})
def VY{t:bL}{i n:Nat}:(((fJ t).map D.int).drop i).take n=((t.drop i).take n).map fun(c:Nat)=>D.int (c:Int):=by
 unfold fJ;rw[bc,<-C5,<-xb];rfl
def Qo{X:Cx}{ρ:br}{a b c:du}{pos p2 p1 p3:mH}{t:bL}{i j:Nat}(hm:X.mg "tuple" =none)(ha:Ev X ρ a (iD (fJ t)))(hb:Ev X ρ b (nI i))(hc:Ev X ρ c (nI j))(hi:i<=j)(hj:j<=t.length)(hg:Gl X "tuple":=by rfl)
  (he:dM [.Subscript a (.Slice (some b) (some c) none p2) pos] X.env=[(false,fX (.Subscript a (.Slice (some b) (some c) none p2) pos) X.env)]:=by rfl):Ev X ρ (.Call (.Name "tuple" p1) [.Subscript a (.Slice (some b) (some c) none p2) pos] [] p3) (nK ((t.drop i).take (j-i))):=by
 have hl:=OF t;have h:=V6 (p:=p1) (pos:=p3) hm (Jf (p2:=p2) (pos:=pos) (.inl rfl) ha hb hc (by rw[hl];omega) (by rw[hl];exact hj)) hg he;rw[VY]at h;exact h
def Ye(B:Bx P K mg base Z):RF P w K mg base (CZ P w K Z) (uw K Z) "take_letters" 4 RTL:=by
 refine yE (k:=3) (O:=uw K Z) (N:=j0) B.w6 B.xT nV ?_;rintro f dw A outer s H E hr st args out ⟨t,r,hi,rfl,rfl,rfl⟩;let Xc:=cz P w K mg base Z j0 "TextReader.take_letters" gM f dw A outer s H E;obtain⟨tm,hm⟩:=B.cML;have h2:=hi.skip;have e1:l9 r.place r.rest=((bR r).place,(bR r).rest):=by unfold bR;rfl
 have e2:hJ r.place r.rest=if(cf 8 (bR r).rest).1=[]then .error (bR r).place else .ok ((bR r).place,(cf 8 (bR r).rest).1,(cf 8 (bR r).rest).2):=by
  unfold hJ;simp only[e1]
 rw[e2];obtain⟨c1,c2⟩:=Ao 8 (bR r).rest;have c3:=fw.Cd 8 (bR r).rest;have c4:=fw.y8 8 (bR r).rest;have c5:=Jn 8 (bR r).rest;have c6:=fw.qe 8 (bR r).rest;generalize hn:(cf 8 (bR r).rest).1.length=n at*;have hnr:n<=(bR r).rest.length:=!0
 have loop:∀{oc:JZ zr} {ss:iT},yD Xc (uw K Z) E 0 [.no,.dat (nI (bR r).place)] (ff t (EC (bR r) n)) ((aX gM).drop 3) oc->
   yD Xc (uw K Z) E 0 (startM j0 []) (ff t r) (aX gM) oc:=by
  intro oc ss kN;refine dI (j1 (jz (VX B) ft hr.m (Bz ck) ⟨t,r,hi,rfl,rfl,rfl⟩)) ?_;refine dI (vE (j:=1) (d:=nI (bR r).place) nV.nd (zp rfl (dk (a8 0 rfl) B.xT (B.D2 _ ck) (o7 _))) ck) ?_;refine dI (Jj eC (fun k=>([.no,.dat (nI (bR r).place)],ff t (EC (bR r) k))) (by rw[a2U];rfl) n (fun k hk=>⟨?_,kS (MC B.toBs)⟩) (.inl ⟨?_,rfl⟩)) kN
  ·have Tw:=h2.EC (k:=k) (!0);obtain⟨c,hc1,hc2⟩:=c5 k hk;refine Et.eq (yg (iY (ju (Yd B) hr.m (a8 0 rfl) (by rfl) ⟨t,EC (bR r) k,Tw,rfl,rfl⟩)) (Ld (rR (dk (a8 0 rfl) B.xT (B.D2 _ ck) (o7 _)) (a8 1 rfl)) (Ci hm))) ?_;rw[show(EC (bR r) k).rest=(bR r).rest.drop k from rfl,Qn hc1,hc2,eJ];refine decide_eq_true ?_;show(((bR r).place+k:Nat):Int)-(((bR r).place:Nat):Int)<8;omega
  ·have Tw:=h2.EC (k:=n) hnr;refine Et.eq (yg (iY (ju (Yd B) hr.m (a8 0 rfl) (by rfl) ⟨t,EC (bR r) n,Tw,rfl,rfl⟩)) (Ld (rR (dk (a8 0 rfl) B.xT (B.D2 _ ck) (o7 _)) (a8 1 rfl)) (Ci hm))) ?_;rw[show(EC (bR r) n).rest=(bR r).rest.drop n from rfl,<-c2]
   cases hh:jt (cf 8 (bR r).rest).2 with
   | false=>rfl
   | true=>
    have:=c4 hh;rw[eJ];refine decide_eq_false ?_;show ¬((((bR r).place+n:Nat):Int)-(((bR r).place:Nat):Int)<8);omega
 by_cases h0:(cf 8 (bR r).rest).1=[]
 ·rw[if_pos h0];have n0:n=0:=by rw[<-hn,h0];rfl
  subst n0;refine⟨.exc (-1000-(((bR r).place:Nat):Int)),loop (ss:=[]) ?_,rfl⟩;refine nj (zq (k:=true) (Et.eq (Dv (dk (a8 0 rfl) B.xT (B.D2 _ ck) (o7 _)) (a8 1 rfl)) (decide_eq_true rfl)) (fun _=>kS (ME B hr (a8 1 rfl))) (fun q=>by cases q))
 ·rw[if_neg h0];have npos:n≠0:=fun z=>h0 (jB (by rw[hn];exact z));have Tx:(bR r).place+n<=t.length:=(h2.EC hnr).le;refine⟨.ret (nK (cf 8 (bR r).rest).1) (ff t (EC (bR r) n)),loop (ss:=[]) ?_,rfl,?_⟩
  ·refine dI (zq (k:=false) (Et.eq (Dv (dk (a8 0 rfl) B.xT (B.D2 _ ck) (o7 _)) (a8 1 rfl)) (decide_eq_false ?_)) (fun q=>by cases q) (fun _=>Cw)) ?_
   ·show ¬((((bR r).place+n:Nat):Int)=(((bR r).place:Nat):Int));omega
   have hd:nK (cf 8 (bR r).rest).1=nK ((t.drop (bR r).place).take ((bR r).place+n-(bR r).place)):=by
    rw[c1,h2.rest,Nat.add_sub_cancel_left]
   rw[hd];refine kS (Cy (zp ?_ (Qo B.tuple (dk (a8 0 rfl) B.xT (B.D2 _ ck) (MD _)) (a8 1 rfl) (dk (a8 0 rfl) B.xT (B.D2 _ ck) (o7 _)) (!0) Tx)));exact qm _
  ·show ff t (EC (bR r) n)=ff t {r with place:=(bR r).place+(cf 8 (bR r).rest).1.length,rest:=(cf 8 (bR r).rest).2};rw[hn];rfl
def REN:zr->bM->u9 zr->Prop:=fun st args out=>∃t r name b,Ri t r/\st=ff t r/\args=[nK name,.bl b]/\
 out=if b=true then .exc (-1000-(((r.place:Nat):Int)-((name.length:Nat):Int)))else if jt r.rest=true then exW r.place else .ok .fA (ff t r)
def VZ(l:bL):(l.map fun(i:Nat)=>D.int (i:Int)).length=l.length:=by simp
def Tb(B:Bx P K mg base Z):RF P w K mg base (CZ P w K Z) (uw K Z) "end_name" 4 REN:=by
 refine yE (k:=3) (O:=uw K Z) (N:=ni) B.zF B.xT yp ?_;rintro f dw A outer s H E hr st args out ⟨t,r,name,b,hi,rfl,rfl,rfl⟩
 cases b with
 | true=>
  rw[if_pos rfl];refine⟨.exc (-1000-(((r.place:Nat):Int)-((name.length:Nat):Int))),?_,rfl⟩;refine nj (zq (k:=true) (iY (a8 2 rfl)) (fun _=>kS (ME B hr (Ev.eq (rR (dk (a8 0 rfl) B.xT (B.D2 _ ck) (o7 _)) (Xn B.len (a8 1 rfl))) ?_))) (fun q=>by cases q));rw[VZ];rfl
 | false=>
  rw[if_neg ck]
  cases h:jt r.rest with
  | true=>
   rw[if_pos rfl];refine⟨.exc (-1000-((r.place:Nat):Int)),?_,rfl⟩;refine dI (zq (k:=false) (iY (a8 2 rfl)) (fun q=>by cases q) (fun _=>Cw)) ?_;exact nj (zq (k:=true) (Et.eq (iY (ju (Yd B) hr.m (a8 0 rfl) (by rfl) ⟨t,r,hi,rfl,rfl⟩)) h) (fun _=>kS (ME B hr (dk (a8 0 rfl) B.xT (B.D2 _ ck) (o7 _)))) (fun q=>by cases q))
  | false=>
   rw[if_neg ck];refine⟨.next (startM ni [nK name,.bl false]) (ff t r),?_,rfl,rfl⟩;refine dI (zq (k:=false) (iY (a8 2 rfl)) (fun q=>by cases q) (fun _=>Cw)) ?_;exact kS (zq (k:=false) (Et.eq (iY (ju (Yd B) hr.m (a8 0 rfl) (by rfl) ⟨t,r,hi,rfl,rfl⟩)) h) (fun q=>by cases q) (fun _=>Cw))
def yF{t:bL}{r:Rd}(hi:Ri t r){st:Nat}{name rest:bL}(h:hJ r.place r.rest= .ok (st,name,rest)):Ri t {r with place:=st+name.length,rest:=rest}:=by
 have h2:=hi.skip;have e1:l9 r.place r.rest=((bR r).place,(bR r).rest):=by unfold bR;rfl
 unfold hJ at h;simp only[e1]at h;split at h
 ·cases h
 ·obtain⟨c1,c2⟩:=Ao 8 (bR r).rest;have c6:=fw.qe 8 (bR r).rest;cases h;have h3:=h2.EC (k:=(cf 8 (bR r).rest).1.length) (!0);exact⟨by rw[c2];exact h3.rest,h3.le,hi.few⟩
def RSN:zr->bM->u9 zr->Prop:=fun st args out=>∃t r,Ri t r/\r.streams.length<=12/\st=ff t r/\args=[]/\out=match ip r with
 | .error e=>exW e
 | .ok (name,r')=>.ok (nK name) (ff t r')
def Tc(l:List a5a)(n:bL):(l.map P1).contains n=l.any fun x=>x.name == n:=by
 induction l with
 | nil=>rfl
 | cons y r ih=>rw[cM,kB,pw,ih,BEq.comm]
def a2V(B:Bx P K mg base Z):RF P w K mg base (CZ P w K Z) (uw K Z) "take_stream_name" 5 RSN:=by
 refine yE (k:=4) (O:=uw K Z) (N:=fB) B.tO B.xT eA ?_;rintro f dw A outer s H E hr st args out ⟨t,r,hi,qQ,rfl,rfl,rfl⟩;let Xc:=cz P w K mg base Z fB "TextReader.take_stream_name" dG f dw A outer s H E;obtain⟨tm,hm⟩:=B.cMS;unfold ip
 cases hl:hJ r.place r.rest with
 | error e=>
  refine⟨.exc (-1000-(e:Int)),?_,rfl⟩;exact nj (DV (j:=1) eA.nd (jz (Ye B) ft hr (Bz ck) ⟨t,r,hi,rfl,rfl,by rw[hl];rfl⟩))
 | ok y=>
  obtain⟨sp,name,rest⟩:=y;have TK:=yF hi hl;generalize TU:({r with place:=sp+name.length,rest:=rest}:Rd)=r2 at*;have hs2:r2.streams=r.streams:=by rw[<-TU]
  have step:∀{oc:JZ zr},yD Xc (uw K Z) E 0 [.no,.dat (nK name),.dat (.bl (r.streams.any fun x=>x.name == name)),.no] (ff t r2) ((aX dG).drop 2) oc->
    yD Xc (uw K Z) E 0 (startM fB []) (ff t r) (aX dG) oc:=by
   intro oc kN;refine dI (vE (j:=1) (d:=nK name) eA.nd (jz (st:=ff t r) (out:=.ok (nK name) (ff t r2)) (Ye B) ft hr (Bz ck) ⟨t,r,hi,rfl,rfl,by rw[hl,<-TU]⟩) ck) ?_;refine dI (vE (j:=2) (d:=.bl (r.streams.any fun x=>x.name == name)) eA.nd (zp rfl (Ev.eq (a15 (ls:=r.streams.map P1) hr (a8 1 rfl) (Ev.eq (vk (τ:=.one 3) (own:=[("stream",3)]) (l:=r.streams) (g:=Qk) (h:=fun y=>nK y.name) rfl eA.nd (kI (dk (a8 0 rfl) B.xT (B.D2 _ ck) (by rw[Cz];show some (D.lst (r2.streams.map Qk))=_;rw[hs2]))) (iI (N:=fB) (sc:=aj dG) (by decide+kernel)) (fun s H C cl fp=>jY eA.nd) (fun i h=>h) (!0)
    (fun y hy=>⟨_,rfl,fun s H C cl fp=>gC (a8 3 rfl) au rfl⟩)) (by rw[bc];rfl))) (congrArg D.bl (Tc _ _)))) ck) kN
  have MF:Ev Xc (Fi (uw K Z) [.no,.dat (nK name),.dat (.bl (r.streams.any fun x=>x.name == name)),.no] 0 (ff t r2))
    (match(aX dG).getD 2 (.Pass ⟨0,0,0,0⟩)with | .Expr (.Call _ [_,c] _ _) _=>c | _=>.Constant .none 0 ⟨0,0,0,0⟩) (.bl ((r.streams.any fun x=>x.name == name) || decide (r.streams.length=12))):=by
   refine Z1 (i:=r.streams.any fun x=>x.name == name) (a8 2 rfl) (fun h=>Ev.eq (a29 (i9 B.len (dk (a8 0 rfl) B.xT (B.D2 _ ck) (Cz _))) (Ci hm)) ?_) (fun h=>by rw[h];rfl);rw[h,C1,show(ff t r2).streams=r.streams from hs2,aa];congr 1;exact decide_eq_decide.mpr (!0)
  have pl:r2.place=sp+name.length:=by rw[<-TU]
  have rs:r2.rest=rest:=by rw[<-TU]
  simp only;unfold EJ
  cases hb:((r.streams.any fun x=>x.name == name) || decide (r.streams.length=12))with
  | true=>
   rw[hb]at MF;refine⟨.exc (-1000-(sp:Int)),step ?_,rfl⟩;refine nj (p9 (kJ (out:=.exc (-1000-(sp:Int))) (Tb B) ft hr (Bz ck) (ab (a8 1 rfl) (ab MF ar)) (by show(D.flat (nK name) && _)=true;rw[qm];rfl) ⟨t,r2,name,true,TK,rfl,rfl,?_⟩));rw[if_pos rfl,pl];congr 1;omega
  | false=>
   rw[hb]at MF
   cases hh:jt rest with
   | true=>
    refine⟨.exc (-1000-((sp+name.length:Nat):Int)),step ?_,rfl⟩;refine nj (p9 (kJ (out:=.exc (-1000-((sp+name.length:Nat):Int))) (Tb B) ft hr (Bz ck) (ab (a8 1 rfl) (ab MF ar)) (by show(D.flat (nK name) && _)=true;rw[qm];rfl) ⟨t,r2,name,false,TK,rfl,rfl,?_⟩));rw[if_neg ck,rs,hh,if_pos rfl,pl];rfl
   | false=>
    refine⟨.ret (nK name) (ff t r2),step ?_,rfl,?_⟩
    ·refine dI (j1 (kJ (out:=.ok .fA (ff t r2)) (Tb B) ft hr (Bz ck) (ab (a8 1 rfl) (ab MF ar)) (by show(D.flat (nK name) && _)=true;rw[qm];rfl) ⟨t,r2,name,false,TK,rfl,rfl,?_⟩)) ?_
     ·rw[if_neg ck,rs,hh,if_neg ck]
     ·exact kS (Cy (zp (qm _) (a8 1 rfl)))
    ·rw[<-TU]
def a2W{ρ:br}{a b:du}{i j:Int}(ha:Ev X ρ a (.int i))(hb:Ev X ρ b (.int j)):Ev X ρ (.Compare a [.Gt] [b] pos) (.bl (decide (j<i))):=yb YO R8 ha hb
def Zj:Option Nat->D
 | none=>.fA
 | some b=>nI b
def a19{K:a9}{i:Nat}{o:Option Nat}:RD K rEq (nI i) (Zj o) (.bl (decide (some i=o))):=by
 intro G H x y Q s hx hy k
 cases o with
 | none=>
  cases hx;cases hy;refine⟨rfl,?_⟩;have e:decide (V.int (i:Int)=V.fA)=decide (some i=none):=by rw[decide_eq_false (!1),decide_eq_false (!1)]
  rw[e];exact k G H _ (Ext.refl s) (.bl _)
 | some b=>
  cases hx;cases hy;refine⟨rfl,?_⟩;have e:decide (V.int (i:Int)=V.int (b:Int))=decide (some i=some b):=decide_eq_decide.mpr (by simp;omega);rw[e];exact k G H _ (Ext.refl s) (.bl _)
def a1a{ρ:br}{a b:du}{i:Nat}{o:Option Nat}(ha:Ev X ρ a (nI i))(hb:Ev X ρ b (Zj o)):Ev X ρ (.Compare a [.Eq] [b] pos) (.bl (decide (some i=o))):=yb Uz a19 ha hb
def RNd:zr->bM->u9 zr->Prop:=fun st args out=>∃t r o,Ri t r/\r.nodes.length<=9/\st=ff t r/\args=[Zj o]/\out=match oW o r with
 | .error e=>exW e
 | .ok (i,r')=>.ok (nI i) (ff t r')
def Yf(B:Bx P K mg base Z):RF P w K mg base (CZ P w K Z) (uw K Z) "take_node" 5 RNd:=by
 refine yE (k:=4) (O:=uw K Z) (N:=k9) B.yy B.xT ir ?_;rintro f dw A outer s H E hr st args out ⟨t,r,o,hi,qQ,rfl,rfl,rfl⟩;let Xc:=cz P w K mg base Z k9 "TextReader.take_node" eQ f dw A outer s H E;obtain⟨tm,hm⟩:=B.cMN;unfold oW
 cases hl:hJ r.place r.rest with
 | error e=>
  refine⟨.exc (-1000-(e:Int)),?_,rfl⟩;exact nj (DV (j:=2) ir.nd (jz (Ye B) ft hr (Bz ck) ⟨t,r,hi,rfl,rfl,by rw[hl];rfl⟩))
 | ok y=>
  obtain⟨sp,name,rest⟩:=y;have TK:=yF hi hl;generalize TU:({r with place:=sp+name.length,rest:=rest}:Rd)=r2 at*;have hn2:r2.nodes=r.nodes:=by rw[<-TU]
  have RI:(Zi (ff t r2)).lookup ("nodes":cY)=some (D.lst (r.nodes.map nK)):=by rw[Jp];show some (D.lst (r2.nodes.map nK))=_;rw[hn2]
  have step:∀{oc:JZ zr},yD Xc (uw K Z) E 0 [.no,.dat (Zj o),.dat (nK name),.dat (.bl (!r.nodes.contains name)),.dat (.bl (!r.nodes.contains name && decide (8<r.nodes.length)))] (ff t r2) ((aX eQ).drop 3) oc->
    yD Xc (uw K Z) E 0 (startM k9 [Zj o]) (ff t r) (aX eQ) oc:=by
   intro oc kN;refine dI (vE (j:=2) (d:=nK name) ir.nd (jz (st:=ff t r) (out:=.ok (nK name) (ff t r2)) (Ye B) ft hr (Bz ck) ⟨t,r,hi,rfl,rfl,by rw[hl,<-TU]⟩) ck) ?_;refine dI (vE (j:=3) (d:=.bl (!r.nodes.contains name)) ir.nd (zp rfl (T5 (ls:=r.nodes) hr (a8 2 rfl) (dk (a8 0 rfl) B.xT (B.D2 _ ck) RI))) ck) ?_;refine dI (vE (j:=4) (d:=.bl (!r.nodes.contains name && decide (8<r.nodes.length))) ir.nd (zp rfl (PD (i:=!r.nodes.contains name) (a8 3 rfl) (fun h=>Ev.eq (a2W (i9 B.len (dk (a8 0 rfl) B.xT (B.D2 _ ck) RI)) (Ci hm)) ?_) (fun h=>by rw[h];rfl))) ck) kN;rw[h,eJ,aa];congr 1;exact decide_eq_decide.mpr (!0)
  have MF:Ev Xc (Fi (uw K Z) [.no,.dat (Zj o),.dat (nK name),.dat (.bl (!r.nodes.contains name)),.dat (.bl (!r.nodes.contains name && decide (8<r.nodes.length)))] 0 (ff t r2))
    (match(aX eQ).getD 3 (.Pass ⟨0,0,0,0⟩)with | .Expr (.Call _ [_,c] _ _) _=>c | _=>.Constant .none 0 ⟨0,0,0,0⟩) (.bl ((!r.nodes.contains name && decide (8<r.nodes.length)) || (r.nodes.contains name && decide (some (r.nodes.idxOf name)=o)))):=by
   refine Z1 (i:=!r.nodes.contains name && decide (8<r.nodes.length)) (a8 4 rfl) (fun h=>?_) (fun h=>by rw[h];rfl);rw[h,C1];refine PD (i:=r.nodes.contains name) (Ev.eq (a0v (a8 3 rfl)) (by rw[Bool.not_not])) (fun h=>?_) (fun h=>by rw[h];rfl);rw[h,eJ];exact a1a (Fh (ls:=r.nodes) hr (a8 2 rfl) (dk (a8 0 rfl) B.xT (B.D2 _ ck) RI) h) (a8 1 rfl)
  have pl:r2.place=sp+name.length:=by rw[<-TU]
  have rs:r2.rest=rest:=by rw[<-TU]
  have WD:D.zo [nK name,.bl ((!r.nodes.contains name && decide (8<r.nodes.length)) || (r.nodes.contains name && decide (some (r.nodes.idxOf name)=o)))]=true:=by show(D.flat (nK name) && _)=true;rw[qm];rfl
  simp only;unfold EJ;generalize hbb:((!r.nodes.contains name && decide (8<r.nodes.length)) || (r.nodes.contains name && decide (some (r.nodes.idxOf name)=o)))=bb at*
  cases bb with
  | true=>
   refine⟨.exc (-1000-(sp:Int)),step ?_,rfl⟩;refine nj (p9 (kJ (out:=.exc (-1000-(sp:Int))) (Tb B) ft hr (Bz ck) (ab (a8 2 rfl) (ab MF ar)) WD ⟨t,r2,name,true,TK,rfl,rfl,?_⟩));rw[if_pos rfl,pl];congr 1;omega
  | false=>
   cases hh:jt rest with
   | true=>
    refine⟨.exc (-1000-((sp+name.length:Nat):Int)),step ?_,rfl⟩;refine nj (p9 (kJ (out:=.exc (-1000-((sp+name.length:Nat):Int))) (Tb B) ft hr (Bz ck) (ab (a8 2 rfl) (ab MF ar)) WD ⟨t,r2,name,false,TK,rfl,rfl,?_⟩));rw[if_neg ck,rs,hh,if_pos rfl,pl];rfl
   | false=>
    have MH:∀{oc:JZ zr},yD Xc (uw K Z) E 0 [.no,.dat (Zj o),.dat (nK name),.dat (.bl (!r.nodes.contains name)),.dat (.bl (!r.nodes.contains name && decide (8<r.nodes.length)))] (ff t r2) ((aX eQ).drop 4) oc->
      yD Xc (uw K Z) E 0 [.no,.dat (Zj o),.dat (nK name),.dat (.bl (!r.nodes.contains name)),.dat (.bl (!r.nodes.contains name && decide (8<r.nodes.length)))] (ff t r2) ((aX eQ).drop 3) oc:=by
     intro oc kN;refine dI (j1 (kJ (out:=.ok .fA (ff t r2)) (Tb B) ft hr (Bz ck) (ab (a8 2 rfl) (ab MF ar)) WD ⟨t,r2,name,false,TK,rfl,rfl,?_⟩)) kN;rw[if_neg ck,rs,hh,if_neg ck]
    cases hc:r.nodes.contains name with
    | true=>
     rw[hc]at step MH;refine⟨.ret (nI (r.nodes.idxOf name)) (ff t r2),step (MH ?_),rfl,?_⟩
     ·refine dI (zq (k:=false) (iY (a8 3 rfl)) (fun q=>by cases q) (fun _=>Cw)) ?_;exact kS (Cy (zp rfl (Fh (ls:=r.nodes) hr (a8 2 rfl) (dk (a8 0 rfl) B.xT (B.D2 _ ck) RI) hc)))
     ·rw[<-TU];rfl
    | false=>
     rw[hc]at step MH;refine⟨.ret (nI r.nodes.length) {ff t r2 with nodes:=(ff t r2).nodes++[name]},step (MH ?_),rfl,?_⟩
     ·refine dI (zq (k:=true) (iY (a8 3 rfl)) (fun _=>kS (Ya (y:=name) B.toBs (by show r2.nodes.length<1000;rw[hn2];omega) (a8 2 rfl) (qm _))) (fun q=>by cases q)) ?_;have e1:(r.nodes++[name]).contains name=true:=by simp
      have e2:(r.nodes++[name]).idxOf name=r.nodes.length:=by
       have hnm:name∉r.nodes:=by simpa using hc
       rw[List.idxOf_append];simp[hnm]
      have a1b:(Zi {ff t r2 with nodes:=(ff t r2).nodes++[name]}).lookup ("nodes":cY)=some (D.lst ((r.nodes++[name]).map nK)):=by rw[Jp];show some (D.lst ((r2.nodes++[name]).map nK))=_;rw[hn2]
      exact kS (Cy (zp rfl (Ev.eq (Fh (ls:=r.nodes++[name]) hr (a8 2 rfl) (dk (a8 0 rfl) B.xT (B.D2 _ ck) a1b) e1) (by rw[e2];rfl))))
     ·rw[<-TU];rfl
open fw (Rd l9 jt BR hJ EJ ip oW qd fc bR wg uo Nz Di)
structure RG(r:Rd):Prop where
 ok:Nz r
 few:r.nodes.length<=9
 ends:∀x∈r.streams,x.src<r.nodes.length/\x.dst<r.nodes.length/\x.name.length<=8
 names:∀n∈r.nodes,n.length<=8
def DW{p:Nat}{l:bL}{st:Nat}{name rest:bL}(h:hJ p l= .ok (st,name,rest)):name.length<=8:=by
 unfold hJ at h;simp only at h;split at h
 ·cases h
 ·cases h;exact fw.Cd _ _
def Bj{t:bL}{r r':Rd}{c:Nat}(hi:Ri t r)(h:qd c r= .ok r'):Ri t r'/\r'.streams=r.streams/\r'.nodes=r.nodes/\r'.rest.length<r.rest.length:=by
 rw[OG]at h;split at h
 ·rename_i hd;cases h;have hl:=a18 hd;refine⟨hi.skip.EC hl,rfl,rfl,?_⟩;show((bR r).rest.drop 1).length<r.rest.length;rw[kq];have:(bR r).rest.length<=r.rest.length:=fw.uT _ _;omega
 ·cases h
def RJ{t:bL}{r r':Rd}{name:bL}(hi:Ri t r)(g:RG r)(h:ip r= .ok (name,r')):Ri t r'/\r'.streams=r.streams/\r'.nodes=r.nodes/\r.streams.length<12/\name.length<=8:=by
 unfold ip at h
 cases hl:hJ r.place r.rest with
 | error e=>rw[hl]at h;cases h
 | ok y=>
  obtain⟨sp,nm,rest⟩:=y;have h2:=yF hi hl;rw[hl]at h;simp only at h;unfold EJ at h;split at h
  ·cases h
  ·rename_i p he;split at he
   ·cases he
   ·rename_i hw;split at he
    ·cases he
    ·cases he;cases h;refine⟨h2,rfl,rfl,?_,DW hl⟩;have:=g.ok.few;simp only[ud,decide_eq_true_eq,not_or]at hw;omega
def Hr{t:bL}{r r':Rd}{o:Option Nat}{i:Nat}(hi:Ri t r)(g:RG r)(h:oW o r= .ok (i,r')):Ri t r'/\RG r'/\r'.streams=r.streams/\i<r'.nodes.length/\r.nodes.length<=r'.nodes.length:=by
 unfold oW at h
 cases hl:hJ r.place r.rest with
 | error e=>rw[hl]at h;cases h
 | ok y=>
  obtain⟨sp,nm,rest⟩:=y;have h2:=yF hi hl;have hn:=DW hl;rw[hl]at h;simp only at h;unfold EJ at h;split at h
  ·cases h
  ·rename_i p he;split at he
   ·cases he
   ·rename_i hw;split at he
    ·cases he
    ·cases he;cases h;obtain⟨⟨ns,Jx⟩,hf⟩:=g.ok
     cases hc:r.nodes.contains nm with
     | true=>
      simp only[hc,if_true];refine⟨⟨h2.rest,h2.le,h2.few⟩,⟨⟨⟨ns,Jx⟩,hf⟩,g.few,g.ends,g.names⟩,trivial,?_,ao _⟩;exact lJ.mpr (by simpa using hc)
     | false=>
      simp only[hc,bU,if_false];have h8:r.nodes.length<=8:=by
       rw[hc]at hw;simp at hw;exact hw
      refine⟨⟨h2.rest,h2.le,h2.few⟩,⟨⟨⟨ns++[nm],?_⟩,hf⟩,?_,fun x hx=>?_,fun n hn'=>?_⟩,trivial,?_,?_⟩
      ·show r.nodes++[nm]=_;rw[Jx];rfl
      ·show(r.nodes++[nm]).length<=9;simp;omega
      ·obtain⟨a1,a2,a3⟩:=g.ends x hx;show x.src<(r.nodes++[nm]).length/\x.dst<(r.nodes++[nm]).length/\_;rw[aE];exact⟨by omega,by omega,a3⟩
      ·rcases f7.mp hn' with q | q
       ·exact g.names n q
       ·rw[dQ.mp q];exact hn
      ·show r.nodes.length<(r.nodes++[nm]).length;simp
      ·show r.nodes.length<=(r.nodes++[nm]).length;simp
def uM{r r':Rd}(g:RG r)(h1:r'.streams=r.streams)(h2:r'.nodes=r.nodes):RG r':=by
 obtain⟨⟨ns,Jx⟩,hf⟩:=g.ok;exact⟨⟨⟨ns,by rw[h2,Jx]⟩,by rw[h1];exact hf⟩,by rw[h2];exact g.few,by rw[h1,h2];exact g.ends,by rw[h2];exact g.names⟩
def RSm:zr->bM->u9 zr->Prop:=fun st args out=>∃t r,Ri t r/\RG r/\st=ff t r/\args=[]/\out=match fc r with
 | .error e=>exW e
 | .ok r'=>.ok .fA (ff t r')
def Yg(y:a5a):(Qk y).flat=true:=by
 show(D.flat (nK y.name) && _)=true;rw[qm];rfl
def Yh(B:Bx P K mg base Z):RF P w K mg base (CZ P w K Z) (uw K Z) "take_statement" 6 RSm:=by
 refine yE (k:=5) (O:=uw K Z) (N:=dY) B.uL B.xT dP ?_;rintro f dw A outer s H E hr st args out ⟨t,r,hi,g,rfl,rfl,rfl⟩;let Xc:=cz P w K mg base Z dY "TextReader.take_statement" bX f dw A outer s H E;obtain⟨tc,hc⟩:=B.cCl;obtain⟨ta,ha⟩:=B.cAr;unfold fc
 cases e1:ip r with
 | error e=>exact⟨.exc (-1000-(e:Int)),nj (DV (j:=1) dP.nd (jz (a2V B) ft hr (Bz ck) ⟨t,r,hi,g.ok.few,rfl,rfl,by rw[e1];rfl⟩)),rfl⟩
 | ok y1=>
  obtain⟨name,r1⟩:=y1;obtain⟨i1,s1,n1,l1,nl⟩:=RJ hi g e1;have g1:=uM g s1 n1;have c1:∀{oc:JZ zr},yD Xc (uw K Z) E 0 [.no,.dat (nK name),.no,.no] (ff t r1) ((aX bX).drop 1) oc->
    yD Xc (uw K Z) E 0 (startM dY []) (ff t r) (aX bX) oc:=
   fun kN=>dI (vE (j:=1) (d:=nK name) dP.nd (jz (out:=.ok (nK name) (ff t r1)) (a2V B) ft hr (Bz ck) ⟨t,r,hi,g.ok.few,rfl,rfl,by rw[e1]⟩) ck) kN
  simp only
  cases e2:qd 58 r1 with
  | error e=>exact⟨.exc (-1000-(e:Int)),c1 (nj (p9 (kJ (Ta B) ft hr.m (Bz ck) (ab (Ci hc) ar) rfl ⟨t,r1,58,i1,rfl,rfl,by rw[e2];rfl⟩))),rfl⟩
  | ok r2=>
   obtain⟨i2,s2,n2,l2⟩:=Bj i1 e2;have g2:=uM g1 s2 n2;have c2:∀{oc:JZ zr},yD Xc (uw K Z) E 0 [.no,.dat (nK name),.no,.no] (ff t r2) ((aX bX).drop 2) oc->
     yD Xc (uw K Z) E 0 (startM dY []) (ff t r) (aX bX) oc:=
    fun kN=>c1 (dI (j1 (kJ (out:=.ok .fA (ff t r2)) (Ta B) ft hr.m (Bz ck) (ab (Ci hc) ar) rfl ⟨t,r1,58,i1,rfl,rfl,by rw[e2]⟩)) kN)
   simp only
   cases e3:oW none r2 with
   | error e=>exact⟨.exc (-1000-(e:Int)),c2 (nj (DV (j:=2) dP.nd (kJ (Yf B) ft hr (Bz ck) (ab wN ar) rfl ⟨t,r2,none,i2,g2.few,rfl,rfl,by rw[e3];rfl⟩))),rfl⟩
   | ok y3=>
    obtain⟨i,r3⟩:=y3;obtain⟨i3,g3,s3,hi3,ln3⟩:=Hr i2 g2 e3;have c3:∀{oc:JZ zr},yD Xc (uw K Z) E 0 [.no,.dat (nK name),.dat (nI i),.no] (ff t r3) ((aX bX).drop 3) oc->
      yD Xc (uw K Z) E 0 (startM dY []) (ff t r) (aX bX) oc:=
     fun kN=>c2 (dI (vE (j:=2) (d:=nI i) dP.nd (kJ (out:=.ok (nI i) (ff t r3)) (Yf B) ft hr (Bz ck) (ab wN ar) rfl ⟨t,r2,none,i2,g2.few,rfl,rfl,by rw[e3]⟩) ck) kN)
    simp only
    cases e4:qd 62 r3 with
    | error e=>exact⟨.exc (-1000-(e:Int)),c3 (nj (p9 (kJ (Ta B) ft hr.m (Bz ck) (ab (Ci ha) ar) rfl ⟨t,r3,62,i3,rfl,rfl,by rw[e4];rfl⟩))),rfl⟩
    | ok r4=>
     obtain⟨i4,s4,n4,l4⟩:=Bj i3 e4;have g4:=uM g3 s4 n4;have c4:∀{oc:JZ zr},yD Xc (uw K Z) E 0 [.no,.dat (nK name),.dat (nI i),.no] (ff t r4) ((aX bX).drop 4) oc->
       yD Xc (uw K Z) E 0 (startM dY []) (ff t r) (aX bX) oc:=
      fun kN=>c3 (dI (j1 (kJ (out:=.ok .fA (ff t r4)) (Ta B) ft hr.m (Bz ck) (ab (Ci ha) ar) rfl ⟨t,r3,62,i3,rfl,rfl,by rw[e4]⟩)) kN)
     simp only
     cases e5:oW (some i) r4 with
     | error e=>exact⟨.exc (-1000-(e:Int)),c4 (nj (DV (j:=3) dP.nd (kJ (Yf B) ft hr (Bz ck) (ab (a8 2 rfl) ar) rfl ⟨t,r4,some i,i4,g4.few,rfl,rfl,by rw[e5];rfl⟩))),rfl⟩
     | ok y5=>
      obtain⟨j,r5⟩:=y5;obtain⟨i5,g5,s5,hi5,ln5⟩:=Hr i4 g4 e5;refine⟨.next [.no,.dat (nK name),.dat (nI i),.dat (nI j)] {ff t r5 with streams:=(ff t r5).streams++[⟨name,i,j⟩]},c4 ?_,rfl,rfl⟩;refine dI (vE (j:=3) (d:=nI j) dP.nd (kJ (out:=.ok (nI j) (ff t r5)) (Yf B) ft hr (Bz ck) (ab (a8 2 rfl) ar) rfl ⟨t,r4,some i,i4,g4.few,rfl,rfl,by rw[e5]⟩) ck) ?_;exact kS (Y9 (y:=⟨name,i,j⟩) B.toBs (by show r5.streams.length<1000;rw[s5,s4,s3,s2,s1];omega) (nQ (ab (a8 1 rfl) (ab (a8 2 rfl) (ab (a8 3 rfl) ar)))) (Yg _))
def Hs{t:bL}{r r':Rd}(hi:Ri t r)(g:RG r)(h:fc r= .ok r'):Ri t r'/\RG r'/\r'.rest.length<r.rest.length:=by
 refine⟨?_,?_,((Di g.ok 0).2 r' h).2⟩
 all_goals
  unfold fc at h
  cases e1:ip r with
  | error e=>rw[e1]at h;cases h
  | ok y1=>
   obtain⟨name,r1⟩:=y1;obtain⟨i1,s1,n1,l1,nl⟩:=RJ hi g e1;have g1:=uM g s1 n1;rw[e1]at h;simp only at h
   cases e2:qd 58 r1 with
   | error e=>rw[e2]at h;cases h
   | ok r2=>
    obtain⟨i2,s2,n2,l2⟩:=Bj i1 e2;have g2:=uM g1 s2 n2;rw[e2]at h;simp only at h
    cases e3:oW none r2 with
    | error e=>rw[e3]at h;cases h
    | ok y3=>
     obtain⟨i,r3⟩:=y3;obtain⟨i3,g3,s3,hi3,ln3⟩:=Hr i2 g2 e3;rw[e3]at h;simp only at h
     cases e4:qd 62 r3 with
     | error e=>rw[e4]at h;cases h
     | ok r4=>
      obtain⟨i4,s4,n4,l4⟩:=Bj i3 e4;have g4:=uM g3 s4 n4;rw[e4]at h;simp only at h
      cases e5:oW (some i) r4 with
      | error e=>rw[e5]at h;cases h
      | ok y5=>
       obtain⟨j,r5⟩:=y5;obtain⟨i5,g5,s5,hi5,ln5⟩:=Hr i4 g4 e5;rw[e5]at h;cases h
       first
        | exact⟨i5.rest,i5.le,i5.few⟩
        | (
          obtain⟨⟨ns,Jx⟩,hf⟩:=g5.ok;refine⟨⟨⟨ns,Jx⟩,?_⟩,g5.few,fun x hx=>?_,g5.names⟩
          ·show(r5.streams++[_]).length<=12;rw[aE,s5,s4,s3,s2,s1];simp;omega
          ·rcases f7.mp hx with q | q
           ·exact g5.ends x q
           ·rw[dQ.mp q];refine⟨?_,hi5,nl⟩;show i<r5.nodes.length;rw[n4]at ln5
            omega)
end Pg
namespace Dl
open PySem PySem.Spec PyProof.Rows L2
section
variable {X:Cx}{T:Type}{O:OM X.K T}{E:XK}{i:Nat}{ρ ρ1:br}{st TR:T}{oc:JZ T}{c:du}{body:iT}{pos:mH}
def WOk(X:Cx){T:Type}(O:OM X.K T)(E:XK)(i:Nat)(c:du)(body:iT)(ρ:br)(st:T)(oc:JZ T):Prop:=∃(I:Nat->br×T) (n:Nat),I 0=(ρ,st)/\
 (∀k,k<n->Et X (Fi O (I k).1 i (I k).2) c true/\yD X O E i (I k).1 (I k).2 body (.next (I (k+1)).1 (I (k+1)).2))/\
 ((Et X (Fi O (I n).1 i (I n).2) c false/\oc= .next (I n).1 (I n).2)\/(Et X (Fi O (I n).1 i (I n).2) c true/\yD X O E i (I n).1 (I n).2 body oc/\oc.ends=true))
def W0(h:Et X (Fi O ρ i st) c false):WOk X O E i c body ρ st (.next ρ st):=⟨fun _=>(ρ,st),0,rfl,fun k hk=>absurd hk (!0),.inl ⟨h,rfl⟩⟩
def RK(h:Et X (Fi O ρ i st) c true)(hb:yD X O E i ρ st body oc)(he:oc.ends=true):WOk X O E i c body ρ st oc:=⟨fun _=>(ρ,st),0,rfl,fun k hk=>absurd hk (!0),.inr ⟨h,hb,he⟩⟩
def W1(h:Et X (Fi O ρ i st) c true)(hb:yD X O E i ρ st body (.next ρ1 TR))(hw:WOk X O E i c body ρ1 TR oc):WOk X O E i c body ρ st oc:=by
 obtain⟨I,n,h0,h1,h2⟩:=hw;refine⟨fun k=>match k with | 0=>(ρ,st) | k+1=>I k,n+1,rfl,fun k hk=>?_,h2⟩
 cases k with
 | zero=>exact⟨h,by show yD X O E i ρ st body (.next (I 0).1 (I 0).2);rw[h0];exact hb⟩
 | succ k=>exact h1 k (!0)
def Td(hp:qr (c9 X.prog X.w) X.A X.env X.xe)(hw:WOk X O E i c body ρ st oc):Mx X O E i ρ st (.While c body [] pos) oc:=by
 obtain⟨I,n,h0,h1,h2⟩:=hw;exact Jj hp I h0 n h1 h2
end
end Dl
namespace Pg
open PySem PySem.Spec PyProof.Rows L2 Dl
open fw (Rd l9 jt BR hJ EJ ip oW qd fc bR wg uo Nz Di)
variable {P:bp}{w:cH}{K:a9}{mg:cY->iF}{base:cy}{Z:Ad}
def RAl:zr->bM->u9 zr->Prop:=fun st args out=>∃t,t.length<=400/\st=ff t ⟨0,t,[],[eE]⟩/\args=[]/\out=match uo t with
 | .error e=>exW e
 | .ok r'=>.ok .fA (ff t r')
def a1c(l:bL):decide (Qm l= -1)=decide (l=[]):=by
 cases l with
 | nil=>rfl
 | cons c r=>
  rw[decide_eq_false,decide_eq_false]
  ·simp
  ·show ¬((c:Int)= -1);omega
def a1d:du:=match(aX dn).getD 2 (.Pass ⟨0,0,0,0⟩)with
 | .While c _ _ _=>c
 | _=>.Constant .none 0 ⟨0,0,0,0⟩
def allB:iT:=match(aX dn).getD 2 (.Pass ⟨0,0,0,0⟩)with
 | .While _ b _ _=>b
 | _=>[]
def MJ{r:Rd}(g:RG r):RG (bR r):=uM g rfl rfl
theorem RL(B:Bx P K mg base Z){A:dD}{outer:iC}{s:ai}(hr:fZ 6 (A.deeper (jQ "TextReader.take_all" (aj dn) s.heap.objs.size f dw))){t:bL}:
  ∀(k:Nat) (r:Rd),Ri t r->RG r->r.rest.length<k->WOk (cz P w K mg base Z eW "TextReader.take_all" dn f dw A outer s H E) (uw K Z) E 0 a1d allB [.no] (ff t (bR r)) (match wg k r with
   | .error e=>.exc (-1000-(e:Int))
   | .ok r'=>.next [.no] (ff t r'))
 | 0,r,_,_,h=>absurd h (!0)
 | k+1,r,hi,g,h=>by
  obtain⟨te,hte⟩:=B.cTE;obtain⟨tc,hc⟩:=B.cCm;have i2:=hi.skip;have g2:=MJ g;have test:Et (cz P w K mg base Z eW "TextReader.take_all" dn f dw A outer s H E) (Fi (uw K Z) [.no] 0 (ff t (bR r))) a1d (!decide ((bR r).rest=[])):=
   Et.eq (Dw (ju (T8 B) hr.m (a8 0 rfl) (by rfl) ⟨t,bR r,i2,rfl,rfl⟩) (Ci hte)) (by rw[a1c])
  unfold wg;by_cases h0:(bR r).rest=[]
  ·rw[if_pos h0];rw[decide_eq_true h0]at test;exact W0 test
  ·rw[if_neg h0];rw[decide_eq_false h0]at test
   cases e1:qd 44 (bR r)with
   | error e=>exact RK test (nj (p9 (kJ (Ta B) ft hr.m (Bz ck) (ab (Ci hc) ar) rfl ⟨t,bR r,44,i2,rfl,rfl,by rw[e1];rfl⟩))) rfl
   | ok r1=>
    obtain⟨i3,s3,n3,l3⟩:=Bj i2 e1;have g3:=uM g2 s3 n3;have c1:∀{oc:JZ zr},yD (cz P w K mg base Z eW "TextReader.take_all" dn f dw A outer s H E) (uw K Z) E 0 [.no] (ff t r1) (allB.drop 1) oc->
      yD (cz P w K mg base Z eW "TextReader.take_all" dn f dw A outer s H E) (uw K Z) E 0 [.no] (ff t (bR r)) allB oc:=
     fun kN=>dI (j1 (kJ (out:=.ok .fA (ff t r1)) (Ta B) ft hr.m (Bz ck) (ab (Ci hc) ar) rfl ⟨t,bR r,44,i2,rfl,rfl,by rw[e1]⟩)) kN
    simp only
    cases e2:fc r1 with
    | error e=>exact RK test (c1 (nj (p9 (jz (Yh B) ft hr (Bz ck) ⟨t,r1,i3,g3,rfl,rfl,by rw[e2];rfl⟩)))) rfl
    | ok r2=>
     obtain⟨i4,g4,l4⟩:=Hs i3 g3 e2;have hl:r2.rest.length<k:=by
      have:(bR r).rest.length<=r.rest.length:=fw.uT _ _;omega
     exact W1 test (c1 (dI (j1 (jz (out:=.ok .fA (ff t r2)) (Yh B) ft hr (Bz ck) ⟨t,r1,i3,g3,rfl,rfl,by rw[e2]⟩)) (kS (j1 (jz (out:=.ok .fA (ff t (bR r2))) (VX B) ft hr.m (Bz ck) ⟨t,r2,i4,rfl,rfl,rfl⟩))))) (RL B hr k r2 i4 g4 hl)
def OH{t:bL}(h:t.length<=400):Ri t ⟨0,t,[],[eE]⟩:=⟨rfl,gW _,h⟩
def OI{t:bL}:RG ⟨0,t,[],[eE]⟩:=⟨⟨⟨[],rfl⟩,by show 0<=12;decide⟩,by show 1<=9;decide,(fun x hx=>nomatch hx),fun n hn=>by rw[dQ.mp hn];decide⟩
def a2X(B:Bx P K mg base Z):RF P w K mg base (CZ P w K Z) (uw K Z) "take_all" 7 RAl:=by
 refine yE (k:=6) (O:=uw K Z) (N:=eW) B.zG B.xT yq ?_;rintro f dw A outer s H E hr st args out ⟨t,ht,rfl,rfl,rfl⟩;let Xc:=cz P w K mg base Z eW "TextReader.take_all" dn f dw A outer s H E;have hi:=OH ht;have g:=OI (t:=t);unfold uo
 cases e1:fc ⟨0,t,[],[eE]⟩with
 | error e=>exact⟨.exc (-1000-(e:Int)),nj (p9 (jz (Yh B) ft hr (Bz ck) ⟨t,_,hi,g,rfl,rfl,by rw[e1];rfl⟩)),rfl⟩
 | ok r=>
  obtain⟨i2,g2,l2⟩:=Hs hi g e1;have hl:=RL (w:=w) (mg:=mg) (base:=base) (outer:=outer) (H:=H) (E:=E) B hr (t.length+1) r i2 g2 (by have:r.rest.length<t.length:=l2;omega);have key:∀{oc:JZ zr},WOk Xc (uw K Z) E 0 a1d allB [.no] (ff t (bR r)) oc->
    yD Xc (uw K Z) E 0 (startM eW []) (ff t ⟨0,t,[],[eE]⟩) (aX dn) oc:=fun hw=>
   dI (j1 (jz (out:=.ok .fA (ff t r)) (Yh B) ft hr (Bz ck) ⟨t,_,hi,g,rfl,rfl,by rw[e1]⟩)) (dI (j1 (jz (out:=.ok .fA (ff t (bR r))) (VX B) ft hr.m (Bz ck) ⟨t,r,i2,rfl,rfl,rfl⟩)) (kS (Td eC hw)))
  simp only
  cases e2:wg (t.length+1) r with
  | error e=>rw[e2]at hl;exact⟨_,key hl,rfl⟩
  | ok r'=>rw[e2]at hl;exact⟨_,key hl,rfl,rfl⟩
theorem RM{t:bL}:∀(k:Nat) (r r':Rd),Ri t r->RG r->wg k r= .ok r'->RG r'
 | 0,r,r',_,g,h=>by cases h;exact g
 | k+1,r,r',hi,g,h=>by
  unfold wg at h;split at h
  ·cases h;exact MJ g
  ·cases e1:qd 44 (bR r)with
   | error e=>rw[e1]at h;cases h
   | ok r1=>
    rw[e1]at h;simp only at h;obtain⟨i3,s3,n3,l3⟩:=Bj hi.skip e1;have g3:=uM (MJ g) s3 n3
    cases e2:fc r1 with
    | error e=>rw[e2]at h;cases h
    | ok r2=>
     rw[e2]at h;simp only at h;obtain⟨i4,g4,l4⟩:=Hs i3 g3 e2;exact RM k r2 r' i4 g4 h
def RN{t:bL}{r:Rd}(ht:t.length<=400)(h:uo t= .ok r):RG r:=by
 unfold uo at h
 cases e1:fc ⟨0,t,[],[eE]⟩with
 | error e=>rw[e1]at h;cases h
 | ok r1=>
  rw[e1]at h;obtain⟨i2,g2,l2⟩:=Hs (OH ht) OI e1;exact RM _ _ _ i2 g2 h
end Pg
namespace Dl
open PySem PySem.Spec PyProof.Rows L2
section
variable {K:a9}{T:Type}{O:OM K T}{GI HI G H:Hp}{σ:L2.St}{ρ:br}{i:Nat}{a:aI}{st:T}
def MR.release(M:MR O GI HI G H σ ρ i a st):∃Gp,bN G Gp/\SR K GI HI Gp H σ (Fi O ρ i st):=by
 obtain⟨Gp,pt,s1,s2,hd,hp,hg,hR⟩:=O.up M.ob M.sr.same;have ext:Ext GI HI Gp H:=⟨M.sr.ext.g.trans s1,M.sr.ext.h,s2,fun b o h n=>by
  cases q:Gp b with
  | none=>rfl
  | some u=>
   have:=(hp b (hg b u q (M.sr.ext.o b o h n))).1;rw[h]at this;cases this⟩
 refine⟨Gp,s1,by simp[M.sr.len],ext,fun j sl hj=>?_,fun j k l l' hj hk=>?_⟩
 ·by_cases q:j=i
  ·subst q;have lt:j<ρ.length:=by
    have:=(ag.mp hj).1;simpa using this
   rw[bt lt]at hj;cases hj;exact⟨_,M.at_,hd⟩
  ·rw[bf (g0 q)]at hj;have z:=M.sr.sl j sl hj
   cases sl with
   | no=>trivial
   | dat d=>obtain⟨v,z1,z2⟩:=z;exact⟨v,z1,z2.mono s1⟩
   | own l=>exact absurd hj (M.no j l)
 ·by_cases q:j=i
  ·subst q;have lt:j<ρ.length:=by
    have:=(ag.mp hj).1;simpa using this
   rw[bt lt]at hj;cases hj
  ·rw[bf (g0 q)]at hj;exact absurd hj (M.no j l)
end
section
variable {X:Cx}{T:Type}{O:OM X.K T}{E:XK}{i:Nat}{ρ:br}{st:T}{ss:iT}{oc:Oc}
def tMS(O:OM X.K T)(E:XK)(i:Nat)(ρ:br)(st:T)(oc:Oc):TS:=fun Dn σ H=>∃GI HI G a,MR O GI HI G H σ ρ i a st/\qS X.K E GI HI G oc Dn
def OJ(h:wM X E (Fi O ρ i st) ss oc):FX X ss (tMS O E i ρ st oc):=mJ h fun Dn σ H ⟨GI,HI,G,a,M,q⟩=>by
 obtain⟨Gp,s,S⟩:=M.release;exact⟨GI,HI,Gp,S,q.mono s⟩
end
end Dl
namespace Pg
open PySem PySem.Spec PyProof.Rows L2 Dl
open fw (Rd uo)
variable {P:bp}{w:cH}{K:a9}{mg:cY->iF}{base:cy}{Z:Ad}
def a2Y(C aO:aI):Sp:=fun vs H Q _=>∃(p dx:aI) (tv:V),vs=[.ref p,tv]/\H p=some (.ins C dx [])/\
 ∀H' sa na,H' p=some (.ins C dx (Ql tv 0 sa na))->H' sa=some (.lst [])->H' na=some (.lst [.ref aO])->H sa=none->H na=none->sa≠na->(∀b,b≠p->b≠sa->b≠na->H' b=H b)->Q .fA H'
def rd2(tv:V):nz:=[("text",tv),("place",.int 0)]
def rd3(tv:V)(sa:aI):nz:=[("text",tv),("place",.int 0),("streams",.ref sa)]
def a2Z(B:Bx P K mg base Z){f aO:aI}{fd:iL}(hO:mg "OUTSIDE" =some (.ref aO))(F:Hi K "__init__" "TextReader.__init__" qE f fd):mq P w K mg base mx 1 f fd ["self","text"] (a2Y Z.bJ aO):=by
 refine F.ok (k:=0) Ct (by rintro vs H Q E ⟨p,dx,tv,e,_⟩;rw[e];rfl) ?_;rintro dw A outer s H vs Q E hr ⟨p,dx,tv,rfl,hp,q⟩;refine⟨_,gJ (ve (pv 0) (pv 1) rfl) (gJ (ve (pv 0) v9 rfl) (gJ (ve (pv 0) (vf nh) rfl) (lP (ve (pv 0) (vf (iz (Dj (v:=.ref aO) rfl hO rfl) nh)) rfl)))),?_⟩;refine⟨_,rfl,_,rfl,p,Z.bJ,dx,_,rfl,hp,B.xT,B.D2 _ ck,(by show 0<1000;decide),?_⟩;refine⟨_,rfl,p,Z.bJ,dx,_,rfl,aU,B.xT,B.D2 _ ck,(by show 1<1000;decide),?_⟩;rw[Hf];have e2:pO "place" (.int 0) (pO "text" tv [])=rd2 tv:=rfl;rw[e2];refine⟨(by show 0<=bC;decide),fun sa xS=>?_⟩;have n1:sa≠p:=fun z=>by rw[z,aU]at xS;cases xS
 refine⟨.ref p,rfl,p,Z.bJ,dx,rd2 tv,rfl,by rw[aL n1.symm,aU],B.xT,B.D2 _ ck,(by show 2<1000;decide),?_⟩;have e3:pO "streams" (.ref sa) (rd2 tv)=rd3 tv sa:=rfl;rw[e3];refine⟨(by show 1<=bC;decide),fun na TV=>?_⟩;have n2:na≠p:=fun z=>by rw[z,aU]at TV;cases TV
 have n3:na≠sa:=fun z=>by rw[z,aL n1,aU]at TV;cases TV
 refine⟨.ref p,rfl,p,Z.bJ,dx,rd3 tv sa,rfl,by rw[aL n2.symm,aU],B.xT,B.D2 _ ck,(by show 3<1000;decide),?_⟩;have e4:pO "nodes" (.ref na) (rd3 tv sa)=Ql tv 0 sa na:=rfl;rw[e4];refine q _ sa na aU ?_ ?_ ?_ ?_ n3.symm fun b h1 h2 h3=>?_
 ·rw[aL n1,aL n3.symm,aL n1,aU]
 ·rw[aL n2,aU]
 ·rw[aL n1]at xS;exact xS
 ·rw[aL n2,aL n3,aL n2]at TV;exact TV
 ·rw[aL h1,aL h3,aL h1,aL h2,aL h1]
def RRT:bM->Out->Prop:=fun args out=>∃t,t.length<=400/\args=[iD (fJ t)]/\out=match uo t with
 | .error e=>.exc (-1000-(e:Int))
 | .ok r=>.ok (.tup [.lst (r.streams.map Qk),.lst (r.nodes.map nK)])
def OK:D.tup ([111,117,116,115,105,100,101].map D.int)=nK eE:=rfl
def a4t(B:Bx P K mg base Z):FG P w K mg base (CZ P w K Z) "read_text" 8 RRT:=by
 refine oR (k:=7) (N:=ql) B.Od yr ?_
 rintro f dw A outer st H E hr args out ⟨t,ht,rfl,rfl⟩
 let Xc:=cz P w K mg base Z ql "read_text" nR f dw A outer st H E
 obtain⟨fT,fdT,FT,MT⟩:=B.mkT.ex
 obtain⟨aO,hO,dO⟩:=B.a2K
 have LA:noOwn [Sl.dat (iD (fJ t)),Sl.no]:=j3 rfl
 have start:∀{GI HI G H1:Hp} {σ:L2.St} {vs:cV} {N:L2.St->Hp->Prop} {x dx:aI},SR K GI HI G H1 σ [.dat (iD (fJ t)),.no]->bV K G vs [iD (fJ t)]->H1 x=none->H1 dx=none->dx≠x->
   (∀G' H' σ',bN G G'->MR (uw K Z) GI HI G' H' σ' [.dat (iD (fJ t)),.no] 1 x (ff t ⟨0,t,[],[eE]⟩)->N σ' H')->
   a2Y Z.bJ aO (.ref x::(vs++[])) (upd (upd H1 dx (.own x)) x (.ins Z.bJ dx [])) (fun v H2=>v= .fA/\N (σ.set 1 (some (.ref x))) H2) E0:=by
  intro GI HI G H1 σ vs N x dx S hv nx ndx ne k
  obtain⟨tv,rfl,htv⟩:=kO hv
  refine⟨x,dx,tv,rfl,aU,fun H' sa na h1 h2 h3 h4 h5 h6 h7=>⟨rfl,k G H' _ (bN.refl _) ?_⟩⟩
  have sax:sa≠x:=fun z=>by rw[z,aU]at h4;cases h4
  have nax:na≠x:=fun z=>by rw[z,aU]at h5;cases h5
  have sad:sa≠dx:=fun z=>by rw[z,aL ne,aU]at h4;cases h4
  have nad:na≠dx:=fun z=>by rw[z,aL ne,aU]at h5;cases h5
  have f1:H1 sa=none:=by rw[aL sax,aL sad]at h4;exact h4
  have f2:H1 na=none:=by rw[aL nax,aL nad]at h5;exact h5
  have sm:bN H1 H':=fun b o e=>by
   have b1:b≠x:=bo e nx
   have b2:b≠dx:=bo e ndx
   rw[h7 b b1 (bo e f1) (bo e f2),aL b1,aL b2]
   exact e
  have ext:Ext G H1 G H':=⟨bN.refl _,sm,S.same.trans sm,fun _ _ _ h=>h⟩
  have S2:=S.mono ext
  have fr:∀{b:aI},H1 b=none->HI b=none/\G b=none:=fun {b} h=>⟨S.ext.h.free h,S.same.free h⟩
  refine⟨⟨by simpa using S2.len,S2.ext,fun j sl hj=>?_,S2.one⟩,bt (by rw[S2.len];show 1<2;decide),⟨dx,tv,sa,na,[],[.ref aO],h1,fr nx,htv,h2,fr f1,.nil,h3,fr f2,?_,h6⟩,LA⟩
  ·match j,hj with
   | 0,hj=>
    obtain⟨v,z1,z2⟩:=S2.sl 0 sl hj |> fun z=>by cases hj;exact z
    cases hj
    exact⟨v,by rw[bf (by decide)];exact z1,z2⟩
   | 1,hj=>cases hj;trivial
   | j+2,hj=>simp at hj
  ·show bV K G [V.ref aO] [nK eE]
   rw[<-OK]
   exact .cons (dO G) .nil
 have hb:=FT.binds (ps:=["self","text"]) (by walk_at "b")
 cases e1:uo t with
 | error e=>
  have h2:Mx Xc (uw K Z) E 1 [.dat (iD (fJ t)),.no] (ff t ⟨0,t,[],[eE]⟩) ((aX nR).getD 1 (.Pass ⟨0,0,0,0⟩)) (.exc (-1000-(e:Int))):=
   p9 (jz (a2X B) ft hr (Bz (by decide)) ⟨t,ht,rfl,rfl,by rw[e1];rfl⟩)
  refine⟨.exc (-1000-(e:Int)),mJ (gJ (rP yr.nd (i:=1) rfl (.inl rfl) (LZ (E:=E0) MT (a2Z B hO FT) hr.m rfl B.kcT hb .nil zb (ab (ρ:=fN ql [iD (fJ t)]) (a8 0 rfl) ar)))
   (gJ h2 EK)) ?_,rfl⟩
  rintro Dn σ H0 ⟨GI,HI,G,S,q⟩
  refine⟨GI,HI,G,S,fun G1 H1 vs e2 d2 x dx nx ndx ne=>start (S.mono e2) d2 nx ndx ne fun G' H' σ' s' M=>⟨GI,HI,G',x,M,q⟩⟩
 | ok r=>
  have h2:Mx Xc (uw K Z) E 1 [.dat (iD (fJ t)),.no] (ff t ⟨0,t,[],[eE]⟩) ((aX nR).getD 1 (.Pass ⟨0,0,0,0⟩)) (.next [.dat (iD (fJ t)),.no] (ff t r)):=
   j1 (jz (out:=.ok .fA (ff t r)) (a2X B) ft hr (Bz (by decide)) ⟨t,ht,rfl,rfl,by rw[e1]⟩)
  have h3:FX Xc ((aX nR).drop 2) (tMS (X:=cz P w K mg base Z ql "read_text" nR f dw A outer st H E) (uw K Z) E 1 [.dat (iD (fJ t)),.no] (ff t r) (.ret (.tup [.lst (r.streams.map Qk),.lst (r.nodes.map nK)]))):=
   OJ (aK (cq (nQ (ab (dk (a8 1 rfl) B.xT (B.D2 _ (by decide)) (Cz _)) (ab (dk (a8 1 rfl) B.xT (B.D2 _ (by decide)) (Jp _)) ar)))))
  refine⟨.ret (.tup [.lst (r.streams.map Qk),.lst (r.nodes.map nK)]),mJ (gJ (rP yr.nd (i:=1) rfl (.inl rfl) (LZ (E:=E0) MT (a2Z B hO FT) hr.m rfl B.kcT hb .nil zb (ab (ρ:=fN ql [iD (fJ t)]) (a8 0 rfl) ar)))
   (gJ h2 h3)) ?_,rfl⟩
  rintro Dn σ H0 ⟨GI,HI,G,S,q⟩
  refine⟨GI,HI,G,S,fun G1 H1 vs e2 d2 x dx nx ndx ne=>start (S.mono e2) d2 nx ndx ne fun G' H' σ' s' M=>⟨GI,HI,G',x,M,fun G2 H2 σ2 s2 M2=>⟨GI,HI,G2,x,M2,q⟩⟩⟩
end Pg
namespace Dl
open PySem PySem.Spec PyProof.Rows L2
theorem RQ:∀{is:bL} {ds:bM} {ρ:br},(∀(j:Nat) (l:bM),ρ[j]? ≠some (Sl.own l))->∀(j:Nat) (l:bM),(wu ρ is ds)[j]? ≠some (Sl.own l)
 | [],_,ρ,h=>by unfold wu;exact h
 | _::_,[],ρ,h=>by unfold wu;exact h
 | i::is,d::ds,ρ,h=>by
  unfold wu;refine RQ fun j l hj=>?_;by_cases e:j=i
  ·subst e;have lt:j<ρ.length:=by
    have:=(ag.mp hj).1;simpa using this
   rw[bt lt]at hj;cases hj
  ·rw[bf (g0 e)]at hj;exact h j l hj
def Qp{is:bL}{ρ ρ':br}(ha:(Dy.many is).app ρ d=some ρ')(h:∀(j:Nat) (l:bM),ρ[j]? ≠some (Sl.own l)):∀(j:Nat) (l:bM),ρ'[j]? ≠some (Sl.own l):=by
 cases d with
 | tup ds=>
  simp only[Dy.app]at ha;split at ha
  ·cases ha;exact RQ h
  ·cases ha
 | _=>cases ha
structure Te(H G' H':Hp)(L:aI)(qs:kL)(k n:Nat):Prop where
 len:qs.length=k
 at_:H' L=some (.lst (qs.map V.ref))
 nd:(L::qs).Nodup
 rows:∀q∈qs,H' q=some (.lst (aY n .fA))/\H q=none/\G' q=none
 fl:H L=none/\G' L=none
section
variable {X:Cx}{ρ:br}{tg iter b:du}{scope:jV}{own:zO}{items:bM}{τ:Dy}{pos p1 p2 p3:mH}{kk n:Nat}
def a30(K:a9)(ρ:br)(k n:Nat):TE:=fun σ H Q=>∃GI HI G,SR K GI HI G H σ ρ/\∀G' H' L qs,Ext G H G' H'->Te H G' H' L qs k n->Q (.ref L) H'
def Yi(hc:X.calm=true)(hN:X.N.Nodup)(hi:Es X ρ tg iter items)(ok:z9 X.N X.env.scope scope own)(hg:∀s H C cl fp,PG (yf X scope s H C cl fp) tg (τ.g X.K))(hτ:∀i∈τ.slots,i∈own.map (·.2))(LA:noOwn ρ)
  (hb:∀(i:Nat) d,items[i]? =some d->∃ρ',τ.app (mL ρ (own.map (·.2))) d=some ρ'/\∀s H C cl fp,Ev (yf X scope s H C cl fp) ρ' b (.int n))(hn:n<=1000)(hl:items.length<=1000)(hs:∀x,dA iter X.env x=pure x:=by intro _;rfl)
  (he:∀s H C cl fp,dM [.Constant .none kk p1] (yf X scope s H C cl fp).env=[(false,fX (.Constant .none kk p1) (yf X scope s H C cl fp).env)]:=by intros;rfl):
  PE X (.ListComp (.BinOp (.List [.Constant .none kk p1] p2) .Mult b p3) [⟨tg,iter,[],0⟩] scope pos) (a30 X.K ρ items.length n):=by
 refine eL (YU (tt:=tBT X scope []) (te:=YK a0d (X4 (Ie (tC .fA) NH)) (tBE X scope b)) hc hN hi ok hg (fun s H C cl fp pins s' σ H' Q I ⟨ρ,k,h,q⟩=>h s H C cl fp pins s' σ H' Q I q)
  (fun s H C cl fp=>KZ a0e (vf (iz Um nh (he s H C cl fp))) (fun pins s' σ H' Q I ⟨ρ,k,h,q⟩=>h s H C cl fp pins s' σ H' Q I q)) hs) fun σ H Q h=>?_
 obtain⟨GI,HI,G,S,q⟩:=h;refine⟨GI,HI,G,S,fun G1 H1 J e1 it L hL=>?_⟩;have Vc:HI L=none:=(S.ext.h.trans e1.h).free hL;have wno:∀(j:Nat) (l:bM),(mL ρ (own.map (·.2)))[j]? ≠some (Sl.own l):=fun j l h=>by
  rcases Bb h with z | ⟨z,_⟩
  ·cases z
  ·exact LA j l z
 have hHL:H L=none:=e1.h.free hL;refine⟨fun i m H'=>m=items.length-i/\i<=items.length/\∃G' qs,SR X.K GI HI G' H' (wipe σ (own.map (·.2))) (mL ρ (own.map (·.2)))/\bN G1 G'/\bN H1 H'/\(∀b ob,H1 b=some ob->G1 b=none->G' b=none)/\Te H1 G' H' L qs i n,
  ⟨_,rfl,gW _,G1,[],?_,bN.refl _,gK hL,fun _ _ _ h=>h,rfl,aU,by simp,(fun q hq=>nomatch hq),hL,e1.s.free hL⟩,?_⟩
 ·have S1:=(S.mono e1).wipe (own.map (·.2));refine tP S1 wno ⟨S1.ext.g,fun b u e=>?_,fun b u e=>?_,S1.ext.o⟩ (bN.refl _)
  ·rw[aL (bo e Vc)];exact S1.ext.h _ _ e
  ·rw[aL (bo e (e1.s.free hL))];exact e1.s _ _ e
 rintro i m H' ⟨rfl,ZA,G',qs,S',s1,s2,o1,gr⟩;obtain⟨Xt,it2,Xu⟩:=it G' H' s1 S'.same;by_cases ED:i<items.length
 ·refine .inr ⟨Xt i ED,fun H2=>∃G' qs,SR X.K GI HI G' H2 (wipe σ (own.map (·.2))) (mL ρ (own.map (·.2)))/\bN G1 G'/\bN H1 H2/\(∀b ob,H1 b=some ob->G1 b=none->G' b=none)/\Te H1 G' H2 L qs (i+1) n,
   fun H2 z=>⟨_,by omega,rfl,by omega,z⟩,fun x H2 y=>?_⟩
  obtain⟨ρ',ha,hx⟩:=hb i items[i] (by simp[ED]);have fin:∀G2,Ext G' H' G2 H2->Dt X.K G2 x items[i]->τ.g X.K x (wipe σ (own.map (·.2))) H2 fun σ2 H2=>wipe σ2 (own.map (·.2))=wipe σ (own.map (·.2))/\tBT X scope [] σ2 H2 fun b' H3=>if b'=true then YK a0d (X4 (Ie (tC .fA) NH)) (tBE X scope b) σ2 H3 fun y H4=>∃acc,H4 L=some (.lst acc)/\acc.length<bC/\
    (∃G' qs,SR X.K GI HI G' (upd H4 L (.lst (acc++[y]))) (wipe σ (own.map (·.2))) (mL ρ (own.map (·.2)))/\bN G1 G'/\bN H1 (upd H4 L (.lst (acc++[y])))/\(∀b ob,H1 b=some ob->G1 b=none->G' b=none)/\Te H1 G' (upd H4 L (.lst (acc++[y]))) L qs (i+1) n)else
    (∃G' qs,SR X.K GI HI G' H3 (wipe σ (own.map (·.2))) (mL ρ (own.map (·.2)))/\bN G1 G'/\bN H1 H3/\(∀b ob,H1 b=some ob->G1 b=none->G' b=none)/\Te H1 G' H3 L qs (i+1) n):=fun G2 e2 QB=>
   Dy.ok ha QB (S'.mono e2) fun σ' S3 WA hk3=>by
    refine⟨?_,?_⟩
    ·have hw:=Hj (σ:=wipe σ (own.map (·.2))) (σ':=σ') (vs:=own.map (·.2)) WA fun j hj=>hk3 j fun hm=>hj (hτ j hm);rw[hw];exact Hj (mw _ _) fun j hj=>vg hj
    ·refine⟨ρ',true,(fun s H C cl fp=>Md),GI,HI,G2,S3,fun G3 H3 e3=>Br ⟨(by show 1<=bC;decide),fun p hp=>?_⟩⟩;have O3:=e2.trans e3;have hpG:G3 p=none:=e3.s.free hp;have a31:HI p=none:=((S'.ext.h.trans e2.h).trans e3.h).free hp;have S4:=S3.mono e3;have ρno:∀(j:Nat) (l:bM),ρ'[j]? ≠some (Sl.own l):=fun j l hj=>by
      obtain⟨a',TB,w1,w2,w3,w4,w5⟩:=S3.sl j _ hj
      cases τ with
      | one k0=>
       cases ha;by_cases ej:j=k0
       ·subst ej;have lt:j<(mL ρ (own.map (·.2))).length:=by
         have:=(ag.mp hj).1;simpa using this
        rw[bt lt]at hj;cases hj
       ·rw[bf (g0 ej)]at hj;exact wno j l hj
      | many is=>exact absurd hj (Qp ha wno j l)
     have W2:Ext G3 H3 G3 (upd H3 p (.lst [.fA])):=⟨bN.refl _,gK hp,fun b' u e=>by rw[aL (bo e hpG)];exact e3.s _ _ e,fun _ _ _ h=>h⟩;refine⟨ρ',.int n,hx,GI,HI,G3,S4.mono W2,fun G5 H5 v5 e5 d5=>?_⟩;cases d5;have hp5:H5 p=some (.lst [.fA]):=e5.h _ _ aU;refine⟨p,n,[.fA],rfl,rfl,hp5,by omega,by omega,by rw[bH];simp;exact bq hn ck,fun r hr=>?_⟩;rw[bH,OB];have s3h:bN H3 H5:=(gK hp).trans e5.h;have sh:bN H' H5:=O3.h.trans s3h;have hL5:H5 L=some (.lst (qs.map V.ref)):=sh _ _ gr.at_;have rL:r≠L:=fun z=>by rw[z,hL5]at hr;cases hr
     have gL5:G5 L=none:=e5.o L _ (W2.h _ _ (O3.h _ _ gr.at_)) (O3.o _ _ gr.at_ gr.fl.2);have gr5:G5 r=none:=e5.s.free hr;have r1:H1 r=none:=(s2.trans sh).free hr;have rHI:HI r=none:=(S.ext.h.trans e1.h).free r1;refine⟨qs.map V.ref,by rw[aL rL.symm];exact hL5,?_,G5,qs++[r],?_,(s1.trans O3.g).trans e5.g,?_,fun b' ob h1 h2=>?_,?_,?_,?_,fun q' Ht=>?_,hL,gL5⟩
     ·rw[aa,gr.len];exact bz ED (bq hl ck)
     ·have S6:=((S'.mono O3).mono W2).mono e5;refine tP S6 wno ⟨S6.ext.g,fun b' u e=>?_,fun b' u e=>?_,S6.ext.o⟩ (bN.refl _)
      ·rw[aL (bo e Vc),aL (bo e rHI)];exact S6.ext.h _ _ e
      ·rw[aL (bo e gL5),aL (bo e gr5)];exact S6.same _ _ e
     ·intro b' u e;have z:b'≠L:=bo e hL;rw[aL z,aL (bo e r1)];exact sh _ _ (s2 _ _ e)
     ·exact e5.o b' ob (W2.h _ _ (O3.h _ _ (s2 _ _ h1))) (O3.o b' ob (s2 _ _ h1) (o1 b' ob h1 h2))
     ·rw[aE,gr.len];rfl
     ·rw[aU,cJ];rfl
     ·have hnd:=gr.nd;rw[eO]at hnd ⊢;refine⟨?_,Em.mpr ⟨hnd.2,by simp,fun x P9 y hy=>?_⟩⟩
      ·rw[f7,dQ];rintro(z | z)
       ·exact hnd.1 z
       ·exact rL z.symm
      ·rw[dQ.mp hy];intro z;have:=sh _ _ (gr.rows x P9).1;rw[z,hr]at this;cases this
     ·rcases f7.mp Ht with z | z
      ·obtain⟨c1,c2,c3⟩:=gr.rows q' z;have nL:q'≠L:=fun w=>by
        have:=(eO.mp gr.nd).1;rw[<-w]at this;exact this z
       have nr:q'≠r:=fun w=>by
        have:=sh _ _ c1;rw[w,hr]at this;cases this
       refine⟨by rw[aL nL,aL nr];exact sh _ _ c1,c2,?_⟩;exact e5.o q' _ (W2.h _ _ (O3.h _ _ c1)) (O3.o _ _ c1 c3)
      ·rw[dQ.mp z];exact⟨by rw[aL rL,aU],r1,gr5⟩
  rcases Xu i items[i] x H2 (by simp[ED]) y with⟨e,QB⟩ | ⟨p,o,hp,e,QB⟩
  ·subst e;exact fin G' S'.refl QB
  ·subst e;exact fin _ (Ext.new S'.same hp) QB
 ·have Xv:i=items.length:=!0
  subst Xv;refine .inl ⟨it2,?_⟩;refine q G' H' L qs (e1.trans ⟨s1,s2,S'.same,o1⟩) ⟨gr.len,gr.at_,gr.nd,fun q' Ht=>?_,hHL,gr.fl.2⟩;obtain⟨c1,c2,c3⟩:=gr.rows q' Ht;exact⟨c1,e1.h.free c2,c3⟩
end
end Dl
namespace Pg
open PySem PySem.Spec PyProof.Rows L2 Dl
variable {P:bp}{w:cH}{K:a9}{mg:cY->iF}{base:cy}{Z:Ad}
def DX(s:cg):D:=.lst (s.streams.map Qk)
def DY(s:cg):D:=.lst ((eE::s.nodes).map nK)
def plF(t:fu):A8:=[("streams",DX t.sheet),("nodes",DY t.sheet),("measured",.lst (t.measured.map N4))]
def kM(Z:Ad)(t:fu):D:=.ins Z.gF (plF t)
def plV(sv nv mv:V):nz:=[("streams",sv),("nodes",nv),("measured",mv)]
inductive QL(K:a9)(HI G H:Hp):kL->List aJ->Prop
 | nil:QL K HI G H [] []
 | cons {q:aI} {vs:cV} {m:aJ} {qs:kL} {ms:List aJ}:H q=some (.lst vs)->HI q=none->G q=none->bV K G vs (m.map kD)->QL K HI G H qs ms->QL K HI G H (q::qs) (m::ms)
theorem QL.mono{HI G H G' H':Hp}(s:bN G G'){qs:kL}{ms:List aJ}(k:∀q∈qs,∀o,H q=some o->H' q=some o)(g:∀q∈qs,G' q=none)(h:QL K HI G H qs ms):QL K HI G' H' qs ms:=by
 cases h with
 | nil=>exact .nil
 | cons h1 h2 h3 h4 r=>exact .cons (k _ aQ _ h1) h2 (g _ aQ) (h4.mono s) (QL.mono s (fun q hq=>k q (az _ hq)) (fun q hq=>g q (az _ hq)) r)
theorem QL.low{HI W3 G H:Hp}{qs:kL}{ms:List aJ}(g:∀q∈qs,W3 q=none)(h:QL K HI G H qs ms):QL K W3 G H qs ms:=by
 cases h with
 | nil=>exact .nil
 | cons h1 h2 h3 h4 r=>exact .cons h1 (g _ aQ) h3 h4 (QL.low (fun q hq=>g q (az _ hq)) r)
theorem QL.mem{HI G H:Hp}{qs:kL}{ms:List aJ}(h:QL K HI G H qs ms)(q)(hq:q∈qs):HI q=none/\G q=none/\∃vs,H q=some (.lst vs):=by
 cases h with
 | nil=>cases hq
 | cons h1 h2 h3 h4 r=>
  rcases bQ.mp hq with e | hq
  ·subst e;exact⟨h2,h3,_,h1⟩
  ·exact QL.mem r q hq
theorem QL.get{HI G H:Hp}:∀{qs:kL} {ms:List aJ} {k:Nat} {m:aJ},QL K HI G H qs ms->ms[k]? =some m->∃q vs,qs[k]? =some q/\H q=some (.lst vs)/\bV K G vs (m.map kD)
 | _,_,_,_,.nil,e=>by simp at e
 | _,_,0,_,.cons h1 h2 h3 h4 r,e=>by simp at e;subst e;exact⟨_,_,rfl,h1,h4⟩
 | _,_,k+1,m,.cons h1 h2 h3 h4 r,e=>by
  obtain⟨q,vs,e1,e2,e3⟩:=QL.get (k:=k) (m:=m) r (by simpa using e);exact⟨q,vs,by simpa using e1,e2,e3⟩
def QL.set{HI G H H':Hp}{o:Option (Int×Nat)}(hv:Dt K G v (kD o)){i:Nat}{q:aI}{vs:cV}(hq:H q=some (.lst vs))(Ht:H' q=some (.lst (vs.set i v))){qs:kL}{ms:List aJ}(h:QL K HI G H qs ms):
  ∀{k:Nat},qs.Nodup->qs[k]? =some q->(∀b∈qs,b≠q->H' b=H b)->QL K HI G H' qs (ms.modify k fun m=>m.set i o):=by
 induction h with
 | nil=>intro k _ e _;simp at e
 | cons h1 h2 h3 h4 r ih=>
  rename_i q0 vs0 m0 qs0 ms0;intro k nd e ho
  cases k with
  | zero=>
   have e':q0=q:=by simpa using e
   subst e';rw[h1]at hq;cases hq;refine .cons Ht h2 h3 ?_ (QL.mono (bN.refl _) (fun b hb o' hb'=>by
    rw[ho b (az _ hb) (fun z=>(eO.mp nd).1 (z▸hb))];exact hb') (fun b hb=>(QL.mem r b hb).2.1) r)
   rw[List.map_set];exact bV.set hv i h4
  | succ k=>
   have uN:q0≠q:=fun z=>(eO.mp nd).1 (z▸aD (by simpa using e));exact .cons (by rw[ho q0 aQ uN];exact h1) h2 h3 h4 (ih (eO.mp nd).2 (by simpa using e) fun b hb=>ho b (az _ hb))
structure PP(K:a9)(C:aI)(HI G H:Hp)(a:aI)(t:fu)(dx:aI)(sv nv:V)(ma:aI)(qs:kL):Prop where
 ob:H a=some (.ins C dx (plV sv nv (.ref ma)))
 fa:HI a=none/\G a=none
 sd:Dt K G sv (DX t.sheet)
 nd:Dt K G nv (DY t.sheet)
 ml:H ma=some (.lst (qs.map V.ref))
 fm:HI ma=none/\G ma=none
 nq:(ma::qs).Nodup
 rows:QL K HI G H qs t.measured
def PP.a4u{HI G H:Hp}{t:fu}{sv nv:V}{qs:kL}(h:PP K C HI G H a t dx sv nv ma qs):a≠ma/\a∉qs:=by
 refine⟨fun e=>?_,fun e=>?_⟩
 ·have:=h.ob;rw[e,h.ml]at this;cases this
 ·obtain⟨_,_,vs,z⟩:=h.rows.mem a e;rw[h.ob]at z;cases z
theorem bV.qs{HI G H Gp:Hp}(s:bN G Gp){qs:kL}{ms:List aJ}(h:QL K HI G H qs ms)(g:∀q∈qs,Gp q=H q):bV K Gp (qs.map V.ref) (ms.map N4):=by
 cases h with
 | nil=>exact .nil
 | cons h1 h2 h3 h4 r=>exact .cons (.lst (by rw[g _ aQ];exact h1) (h4.mono s)) (bV.qs s r fun q hq=>g q (az _ hq))
def PO(K:a9)(C:aI)(HI G H:Hp)(a:aI)(t:fu):Prop:=∃dx sv nv ma qs,PP K C HI G H a t dx sv nv ma qs
def Lr(K:a9)(Z:Ad):OM K fu where
 R:=PO K Z.gF
 D:=kM Z
 cls:=Z.gF
 names:=["streams","nodes","measured"]
 up:=by
  rintro HI G H a t ⟨dx,sv,nv,ma,qs,h⟩ s;have a4r:∀b,Decidable (b=a\/b=ma\/b∈qs):=fun b=>xQ _;have off:∀b,(b=a\/b=ma\/b∈qs)->G b=none:=fun b hb=>by
   rcases hb with rfl | rfl | hb
   ·exact h.fa.2
   ·exact h.fm.2
   ·exact(h.rows.mem b hb).2.1
  have s1:bN G (fun b=>if b=a\/b=ma\/b∈qs then H b else G b):=fun b o e=>by
   show(if b=a\/b=ma\/b∈qs then H b else G b)=some o;rw[if_neg]
   ·exact e
   ·intro z;rw[off b z]at e;cases e
  refine⟨fun b=>if b=a\/b=ma\/b∈qs then H b else G b,fun b=>b=a\/b=ma\/b∈qs,s1,fun b o e=>?_,.ins (dx:=dx) (fs:=plV sv nv (.ref ma)) ?_ (.cons (h.sd.mono s1) (.cons (h.nd.mono s1) (.cons (.lst ?_ (bV.qs s1 h.rows fun q hq=>?_)) .nil))),?_,fun b o e n=>?_,fun G' H' g1 g2 ho=>⟨dx,sv,nv,ma,qs,?_⟩⟩
  ·have e':(if b=a\/b=ma\/b∈qs then H b else G b)=some o:=e;split at e'
   ·exact e'
   ·exact s _ _ e'
  ·show(if a=a\/a=ma\/a∈qs then H a else G a)=_;rw[if_pos (.inl rfl)];exact h.ob
  ·show(if ma=a\/ma=ma\/ma∈qs then H ma else G ma)=_;rw[if_pos (.inr (.inl rfl))];exact h.ml
  ·show(if q=a\/q=ma\/q∈qs then H q else G q)=_;rw[if_pos (.inr (.inr hq))]
  ·intro b hb;rcases hb with rfl | rfl | hb
   ·exact⟨h.fa.1,h.fa.2,_,h.ob,(fun _=>nofun),fun _ _=>nofun⟩
   ·exact⟨h.fm.1,h.fm.2,_,h.ml,(fun _=>nofun),fun _ _=>nofun⟩
   ·obtain⟨z1,z2,vs,z3⟩:=h.rows.mem b hb;exact⟨z1,z2,_,z3,(fun _=>nofun),fun _ _=>nofun⟩
  ·have e':(if b=a\/b=ma\/b∈qs then H b else G b)=some o:=e;split at e'
   ·assumption
   ·rw[n]at e';cases e'
  ·exact⟨g2 _ _ h.ob,⟨h.fa.1,ho _ _ h.ob h.fa.2⟩,h.sd.mono g1,h.nd.mono g1,g2 _ _ h.ml,⟨h.fm.1,ho _ _ h.ml h.fm.2⟩,h.nq,QL.mono g1 (fun q _ o e=>g2 _ _ e) (fun q hq=>by
    obtain⟨z1,z2,vs,z3⟩:=h.rows.mem q hq;exact ho _ _ z3 z2) h.rows⟩
 ins:=by
  rintro HI G H a t ⟨dx,sv,nv,ma,qs,h⟩;refine⟨dx,_,h.ob,fun m hm=>?_⟩;have q:∀f∈(["streams","nodes","measured"]:bS),(m == f)=false:=fun f hf=>beq_eq_false_iff_ne.mpr fun e=>hm (e▸hf);unfold plV;rw[bP,q "streams" ck,bP,q "nodes" ck,bP,q "measured" ck];rfl
def npl{m:cY}(h:m∉(["streams","nodes","measured"]:bS)):m∉(Lr K Z).names:=h
def CA(t:fu):(plF t).lookup ("streams":cY)=some (DX t.sheet):=rfl
def Fk(t:fu):(plF t).lookup ("nodes":cY)=some (DY t.sheet):=rfl
def a1e(t:fu):(plF t).lookup ("measured":cY)=some (D.lst (t.measured.map N4)):=rfl
structure D3(t:fu):Prop where
 three:t.measured.length=3
 ok:∀m∈t.measured,o5 t.sheet m
 names:∀x∈t.sheet.streams,x.name.length<=8
 nodes:∀n∈t.sheet.nodes,n.length<=8
def RSM:fu->bM->u9 fu->Prop:=fun t args out=>∃(k i:Int) (o:Option (Int×Nat)),D3 t/\t8 k=true/\zB t i=true/\args=[.int k,.int i,kD o]/\out= .ok .fA (jh t k i o)
def MK{k:Int}(h:t8 k=true):1<=k/\k<=3:=by
 unfold t8 C0 at h;simpa using h
def Bk{t:fu}{i:Int}(h:zB t i=true):1<=i/\i<=(t.sheet.streams.length:Int):=by
 unfold zB C0 at h;simpa using h
def W4{t:fu}(hT:D3 t){k:Int}(h:t8 k=true):t.measured[(k-1).toNat]? =some (wI t k):=by
 have:=MK h;have e:(k-1).toNat=k.toNat-1:=!0
 unfold wI;rw[e];exact getD_some (by rw[hT.three];omega)
def D3.by{t:fu}(hT:D3 t){k:Int}(h:t8 k=true):o5 t.sheet (wI t k):=hT.ok _ (aD (W4 hT h))
def Zk(B:Bx P K mg base Z):RF P w K mg base (CZ P w K Z) (Lr K Z) "set_measured" 1 RSM:=by
 refine yE (k:=0) (O:=Lr K Z) (N:=nW) B.Ak B.Hk zD ?_;rintro f dw A outer s H E hr t args out ⟨k,i,o,hT,hk,hi,rfl,rfl⟩;have Zv:=MK hk;have ZA:=Bk hi;have hm:=W4 hT hk;have hS:=hT.by hk
 have TN:=hS.Ms;refine⟨.next (startM nW [.int k,.int i,kD o]) (jh t k i o),?_,rfl,rfl⟩;refine kS (eX (Uu (pv 3) (Ut (YT M6 (LY (pv 0) rfl) (KZ LV (pv 1) v9) (fun _ _=>rfl)) (KZ LV (pv 2) v9) set_list (by intro _;rfl)) rfl rfl rfl) ?_);rintro Dn σ H0 ⟨GI,HI,G,a,M,q⟩;obtain⟨dx,sv,nv,ma,qs,h⟩:=M.ob;obtain⟨v1,z1,d1⟩:=M.sr.get (i:=1) (d:=.int k) rfl;obtain⟨v2,z2,d2⟩:=M.sr.get (i:=2) (d:=.int i) rfl;obtain⟨v3,z3,d3⟩:=M.sr.get (i:=3) (d:=kD o) rfl;cases d1;cases d2;obtain⟨qa,vs,e1,e2,e3⟩:=h.rows.get hm;have hvl:vs.length=t.sheet.streams.length:=by rw[e3.length,aa,TN]
 have hix:WG vs.length (i-1)=some (i.toNat-1):=by
  unfold WG;rw[if_pos (!0),if_pos (!0)];congr 1;omega
 refine⟨v3,z3,.ref a,M.at_,a,Z.gF,dx,_,.ref ma,rfl,h.ob,B.Hk,B.N3 _ ck,rfl,.int k,z1,k,1,rfl,rfl,ma,qs.map V.ref,k-1,.ref qa,rfl,rfl,lC.of h.ml,?_,.int i,z2,i,1,rfl,rfl,qa,vs,i-1,i.toNat-1,rfl,rfl,e2,hix,?_⟩
 ·exact at_of (j:=(k-1).toNat) (!0) (by rw[aC,e1];rfl)
 ·obtain⟨n1,n2⟩:=h.a4u;have hqm:=aD e1;obtain⟨f1,f2,_⟩:=h.rows.mem qa hqm;have nqm:ma≠qa:=fun z=>(eO.mp h.nq).1 (z▸hqm);have naq:a≠qa:=fun z=>n2 (z▸hqm);refine q G _ σ (bN.refl _) ⟨tP M.sr M.no (Hq M.sr.ext f1 f2) (bN.refl _),M.at_,⟨dx,sv,nv,ma,qs,by rw[aL naq];exact h.ob,h.fa,h.sd,h.nd,by rw[aL nqm];exact h.ml,h.fm,h.nq,?_⟩,M.no⟩;have ek:(k-1).toNat=k.toNat-1:=!0
  rw[ek]at e1;exact QL.set d3 e2 aU h.rows (eO.mp h.nq).2 e1 fun b hb hbq=>aL hbq
end Pg
namespace Dl
open PySem PySem.Spec PyProof.Rows L2
def W5:Passes mx X E:=fun _ _ _ _ _ _ _ h=>h.elim
section
variable {X:Cx}{T:Type}{O:OM X.K T}{E:XK}{i:Nat}{ρ:br}{st:T}{a:du}{es:jT}{ds:bM}{pos apos p:mH}{x m:cY}{CX:NI}{k:Nat}{R:T->bM->u9 T->Prop}{out:u9 T}
def MR.ext{K:a9}{T:Type}{O:OM K T}{GI HI G H G' H':Hp}{σ:L2.St}{ρ:br}{i:Nat}{a:aI}{st:T}(M:MR O GI HI G H σ ρ i a st)(e:Ext G H G' H'):MR O GI HI G' H' σ ρ i a st:=by
 obtain⟨Gp,pt,s1,s2,hd,hp,hg,hR⟩:=O.up M.ob M.sr.same
 exact⟨M.sr.mono e,M.at_,hR G' H' e.g e.h e.o,M.no⟩
def W6{pl:GX Bool}(F:RF X.prog X.w X.K X.mg X.base CX O m k R)(hx:Passes CX X E)(hr:fZ k X.A)(hn:m∉O.names)(ha:Ea X ρ (a::es) ds)(hR:R st ds out)(hN:X.N[i]? =some x:=by rfl)(hv:KS X.env.scope x:=by walk_at "o")
  (hd:(x == ("__debug__":cY))=false:=by decide)(qx:(x == ("__classdict__":cY))=false:=by decide)
  (vU:SE X a es:=by rfl)(hpl:ya X pos es:=by rfl)
  (ht:fX (.Call (.Attribute (.Name x p) m apos) (a::es) [] pos) X.env=(do
   let ov <-fX (.Name x p) X.env
   oH apos.atName
   let(f,first) <-kh [ov] (mf ov m pl)
   pk pos f first (nt pos (dM (a::es) X.env)) (mS pos (iX [] X.env))):=by rfl):Mv X O E i ρ st (.Call (.Attribute (.Name x p) m apos) (a::es) [] pos) out:=by
 obtain⟨f,fd,ps,F,hm,c,hb⟩:=F.ex;refine eL (Hh (E:=E) (nP hN hv hd qx) c hm F hr hb .nil hx ha vU hpl ht) fun σ H Q h=>?_;obtain⟨GI,HI,G,ad,M,q⟩:=Jk h;obtain⟨dx,fs,e1,e2⟩:=O.ins M.ob;refine⟨.ref ad,M.at_,ad,dx,fs,rfl,e1,e2 m hn,GI,HI,G,M.sr,fun G2 H2 vs e3 d3=>?_⟩;have M3:=M.ext e3;have q3:RH X O E i ρ GI HI G2 σ ad Q out:=by
  cases out with
  | ok d D4=>exact fun G' H' v s M d=>q G' H' v (e3.g.trans s) M d
  | exc n=>exact q
 exact⟨HI,G2,ad,st,ds,out,vs++[],rfl,M3.sr.ext.h,M3.sr.same,M3.ob,by rw[dC];exact d3,hR,Fj M3 q3⟩
end
end Dl
namespace Pg
open PySem PySem.Spec PyProof.Rows L2 Dl
variable {P:bp}{w:cH}{K:a9}{mg:cY->iF}{base:cy}{Z:Ad}
def a4v(fs:nz):Prop:=fs=[]\/∃a b c,fs=plV a b c
def a32(K:a9)(C:aI):Sp:=fun vs H Q _=>∃(p dx:aI) (fs:nz) (sv nv:V) (G:Hp) (l:bM),vs=[.ref p,sv,nv]/\H p=some (.ins C dx fs)/\a4v fs/\bN G H/\G p=none/\Dt K G sv (.lst l)/\l.length<=12/\
 ∀G' H' ma qs,bN G G'->bN G' H'->(∀b ob,b≠p->H b=some ob->H' b=some ob)->(∀b ob,H b=some ob->G b=none->G' b=none)->H' p=some (.ins C dx (plV sv nv (.ref ma)))->ma≠p->p∉qs->Te H G' H' ma qs 3 l.length->Q .fA H'
def Zl(B:Bx P K mg base Z){fd:iL}(F:Hi K "lay_out" "Plant.lay_out" pG f fd):mq P w K mg base mx 1 f fd ["self","streams","nodes"] (a32 K Z.gF):=by
 obtain⟨tq,hq3⟩:=B.cQ;refine F.ok (k:=0) rZ (by rintro vs H Q E ⟨p,dx,fs,sv,nv,G,l,e,_⟩;rw[e];rfl) ?_;rintro dw A outer s H vs Q E hr ⟨p,dx,fs,sv,nv,G,l,rfl,hp,hfs,sm,Zc,hsv,hl,q⟩;refine⟨_,gJ (ve (pv 0) (pv 1) rfl) (gJ (ve (pv 0) (pv 2) rfl) (lP (ve (pv 0) (Yi (ρ:=[.no,.dat (.lst l),.no,.no]) (τ:=.one 3) (own:=[("quantity",3)]) (items:=D0 0 3) (n:=l.length) rfl rZ.nd (uU (j:=3) B.range (Ci hq3) ck ck) (iI (N:=zh) (sc:=aj pG) (by decide+kernel)) (fun s H C cl fp=>jY rZ.nd) (fun i h=>h) (j3 rfl)
  (fun i d hd=>⟨_,rfl,fun s H C cl fp=>i9 B.len (a8 1 rfl)⟩) (!0) ck) rfl))),?_⟩
 have a33:fs.length<1000:=by
  rcases hfs with rfl | ⟨_,_,_,rfl⟩
  ·decide
  ·show 3<1000;decide
 refine⟨sv,rfl,.ref p,rfl,p,Z.gF,dx,fs,rfl,hp,B.Hk,B.N3 _ ck,a33,?_⟩;have S0:(pO "streams" sv fs).length<1000:=by
  have:=A0 "streams" sv fs;rcases hfs with rfl | ⟨_,_,_,rfl⟩
  ·show 1<1000;decide
  ·show 3<1000;decide
 refine⟨nv,rfl,.ref p,rfl,p,Z.gF,dx,pO "streams" sv fs,rfl,aU,B.Hk,B.N3 _ ck,S0,?_⟩;rw[Hf];generalize a34:pO "nodes" nv (pO "streams" sv fs)=fs2;have a4w:∀mv,pO "measured" mv fs2=plV sv nv mv:=fun mv=>by
  rw[<-a34];rcases hfs with rfl | ⟨_,_,_,rfl⟩
  ·rfl
  ·rfl
 have a3n:fs2.length<1000:=by
  rw[<-a34];rcases hfs with rfl | ⟨_,_,_,rfl⟩
  ·show 2<1000;decide
  ·show 3<1000;decide
 generalize hH1:upd H p (.ins Z.gF dx fs2)=H1;have Qy:H1 p=some (.ins Z.gF dx fs2):=by rw[<-hH1];exact aU
 have k1:∀b ob,b≠p->H b=some ob->H1 b=some ob:=fun b ob hb e=>by rw[<-hH1,aL hb];exact e
 have sm1:bN G H1:=fun b ob e=>k1 b ob (bo e Zc) (sm _ _ e);refine⟨G,H1,G,⟨rfl,Ext.refl sm1,fun i sl hi=>?_,fun i j l l' hi hj=>?_⟩,fun G' H' ma qs e gr=>?_⟩
 ·match i,hi with
  | 0,hi=>cases hi;trivial
  | 1,hi=>cases hi;exact⟨_,rfl,hsv⟩
  | 2,hi=>cases hi;trivial
  | 3,hi=>cases hi;trivial
  | i+4,hi=>simp at hi
 ·match i,hi with
  | 0,hi=>cases hi
  | 1,hi=>cases hi
  | 2,hi=>cases hi
  | 3,hi=>cases hi
  | i+4,hi=>simp at hi
 ·have hp2:H' p=some (.ins Z.gF dx fs2):=e.h _ _ Qy;have g2:G' p=none:=e.o _ _ Qy Zc;have mp:ma≠p:=fun z=>by have:=gr.fl.1;rw[z,Qy]at this;cases this
  have pq:p∉qs:=fun z=>by have:=(gr.rows p z).2.1;rw[Qy]at this;cases this
  have hn:∀{b:aI},H1 b=none->H b=none:=fun {b} h=>by
   cases z:H b with
   | none=>rfl
   | some u=>
    by_cases hb:b=p
    ·rw[hb,Qy]at h;cases h
    ·rw[k1 b u hb z]at h;cases h
  refine⟨.ref p,rfl,p,Z.gF,dx,fs2,rfl,hp2,B.Hk,B.N3 _ ck,a3n,?_⟩;rw[a4w];refine q G' _ ma qs e.g (fun b u z=>by rw[aL (bo z g2)];exact e.s _ _ z) (fun b ob hb z=>by rw[aL hb];exact e.h _ _ (k1 b ob hb z)) (fun b ob z n=>?_) aU mp pq ⟨gr.len,by rw[aL mp];exact gr.at_,gr.nd,fun q' Ht=>?_,hn gr.fl.1,gr.fl.2⟩
  ·by_cases hb:b=p
   ·rw[hb];exact g2
   ·exact e.o b ob (k1 b ob hb z) n
  ·obtain⟨c1,c2,c3⟩:=gr.rows q' Ht;have:q'≠p:=fun z=>pq (z▸Ht);exact⟨by rw[aL this];exact c1,hn c2,c3⟩
theorem Fl{HI G' H' H:Hp}{n:Nat}:∀{qs:kL},(∀q∈qs,H' q=some (.lst (aY n .fA))/\H q=none/\G' q=none)->(∀q∈qs,HI q=none)->QL K HI G' H' qs (aY qs.length (aY n none))
 | [],_,_=>.nil
 | q::qs,h,g=>by
  obtain⟨c1,c2,c3⟩:=h q aQ;refine .cons c1 (g q aQ) c3 ?_ (Fl (fun q hq=>h q (az _ hq)) fun q hq=>g q (az _ hq));rw[List.map_replicate];exact bV.rep .fA n
def fresh(s:cg):fu:=⟨s,aY 3 (aY s.streams.length none)⟩
def RLO:fu->bM->u9 fu->Prop:=fun _ args out=>∃s:cg,s.streams.length<=12/\args=[DX s,DY s]/\out= .ok .fA (fresh s)
def a4x(B:Bx P K mg base Z):RF P w K mg base mx (Lr K Z) "lay_out" 1 RLO:=by
 obtain⟨f,fd,F,hm⟩:=B.zm.ex;refine⟨f,fd,["self","streams","nodes"],(Zl B F).imp ?_,hm,B.Hk,F.binds⟩;rintro vs H Q E ⟨HI,G,a,t,args,out,TB,rfl,s1,s2,⟨dx,sv,nv,ma,qs,h⟩,da,⟨s,hs,rfl,rfl⟩,q⟩;obtain⟨v1,v2,rfl,d1,d2⟩:=Aa da;refine⟨a,dx,_,v1,v2,G,s.streams.map Qk,rfl,h.ob,.inr ⟨_,_,_,rfl⟩,s2,h.fa.2,d1,by rw[aa];exact hs,fun G' H' ma' qs' g1 g2 k o hp mp pq gr=>?_⟩;have low:∀{b:aI},H b=none->HI b=none:=fun {b} h=>s1.free h;refine q G' H' _ ⟨g1,fun b u z=>?_,g2,fun b u z n=>o b u (s1 _ _ z) n⟩ ⟨dx,v1,v2,ma',qs',hp,⟨h.fa.1,o _ _ h.ob h.fa.2⟩,d1.mono g1,d2.mono g1,gr.at_,⟨low gr.fl.1,gr.fl.2⟩,gr.nd,?_⟩ .fA
 ·exact k b u (fun e=>by rw[e,h.fa.1]at z;cases z) (s1 _ _ z)
 ·have:=Fl (K:=K) (HI:=HI) gr.rows (fun q hq=>low (gr.rows q hq).2.1);rw[gr.len,aa]at this;exact this
def a4y(K:a9)(C:aI):Sp:=fun vs H Q _=>∃(p dx:aI) (G:Hp),vs=[.ref p]/\H p=some (.ins C dx [])/\bN G H/\G p=none/\
 ∀G' H',bN G G'->bN G' H'->(∀b ob,b≠p->H b=some ob->H' b=some ob)->(∀b ob,H b=some ob->G b=none->G' b=none)->(∀HI,(∀b,H b=none->HI b=none)->HI p=none->PO K C HI G' H' p lB)->Q .fA H'
def a4z(B:Bx P K mg base Z){fd:iL}(F:Hi K "__init__" "Plant.__init__" yl f fd):mq P w K mg base mx 2 f fd ["self"] (a4y K Z.gF):=by
 obtain⟨aO,hO,dO⟩:=B.a2K;obtain⟨fL,fdL,FL,hmL⟩:=B.zm.ex;refine F.ok (k:=1) K9 (by rintro vs H Q E ⟨p,dx,G,e,_⟩;rw[e];rfl) ?_;rintro dw A outer s H vs Q E hr ⟨p,dx,G,rfl,hp,sm,Zc,q⟩;refine⟨_,lP (lj (Hh (E:=E0) (pv 0) B.Hk hmL (Zl B FL) hr (FL.binds) .nil zb (iz (vf nh) (iz (vf (iz (Dj (v:=.ref aO) rfl hO rfl) nh)) nh)))),?_⟩;refine⟨.ref p,rfl,p,dx,[],rfl,hp,rfl,(by show 0<=bC;decide),fun sa xS=>⟨(by show 1<=bC;decide),fun na TV=>?_⟩⟩;have sap:sa≠p:=fun z=>by rw[z,hp]at xS;cases xS
 have nas:na≠sa:=fun z=>by rw[z,aU]at TV;cases TV
 have Yj:H na=none:=by rw[aL nas]at TV;exact TV
 have nap:na≠p:=fun z=>by rw[z,hp]at Yj;cases Yj
 have gsa:G sa=none:=sm.free xS;have gna:G na=none:=sm.free Yj;have g1:bN G (upd G sa (.lst [])):=gK gsa;have g1n:(upd G sa (.lst [])) na=none:=by rw[aL nas];exact gna
 have g2:bN (upd G sa (.lst [])) (upd (upd G sa (.lst [])) na (.lst [.ref aO])):=gK g1n;have h12:bN H (upd (upd H sa (.lst [])) na (.lst [.ref aO])):=(gK xS).trans (gK TV);refine⟨p,dx,[],.ref sa,.ref na,upd (upd G sa (.lst [])) na (.lst [.ref aO]),[],rfl,h12 _ _ hp,.inl rfl,fun b u e=>?_,?_,?_,by decide,fun G' H' ma qs k1 k2 k3 k4 k5 mp pq gr=>?_⟩
 ·by_cases z2:b=na
  ·rw[z2,aU]at e ⊢;exact e
  ·rw[aL z2]at e ⊢;by_cases z1:b=sa
   ·rw[z1,aU]at e ⊢;exact e
   ·rw[aL z1]at e ⊢;exact sm _ _ e
 ·rw[aL nap.symm,aL sap.symm];exact Zc
 ·exact .lst (by rw[aL nas.symm,aU]) .nil
 ·have a3o:∀{b:aI},(upd (upd H sa (.lst [])) na (.lst [.ref aO])) b=none->H b=none:=fun {b} h=>by
   cases z:H b with
   | none=>rfl
   | some u=>rw[h12 _ _ z]at h;cases h
  refine q G' H' ((g1.trans g2).trans k1) k2 (fun b ob hb e=>k3 b ob hb (h12 _ _ e)) (fun b ob e n=>?_) fun HI Vc hHp=>⟨dx,.ref sa,.ref na,ma,qs,k5,⟨hHp,?_⟩,?_,?_,gr.at_,⟨Vc _ (a3o gr.fl.1),gr.fl.2⟩,gr.nd,?_⟩
  ·refine k4 b ob (h12 _ _ e) ?_;rw[aL (bo e Yj),aL (bo e xS)];exact n
  ·refine k4 p _ (h12 _ _ hp) ?_;rw[aL nap.symm,aL sap.symm];exact Zc
  ·exact .lst (k1 _ _ (by rw[aL nas.symm,aU])) .nil
  ·show Dt K G' (.ref na) (.lst [nK eE]);rw[<-OK];exact .lst (k1 _ _ aU) (.cons (dO G') .nil)
  ·have:=Fl (K:=K) (HI:=HI) gr.rows (fun q hq=>Vc _ (a3o (gr.rows q hq).2.1));rw[gr.len]at this;exact this
open fw (bB eV cZ)
def RMe(Z:Ad):bM->Out->Prop:=fun args out=>∃t k,D3 t/\dS k=true/\args=[kM Z t,.int k]/\out= .ok (N4 (bG t k))
def W7(B:Bx P K mg base Z):FM P w K mg base mx Z.gF "measurements" 1 (RMe Z):=by
 refine uv (k:=0) (N:=tK) B.Aj B.Hk zC ?_;rintro f dw A outer st H E hr args out ⟨t,k,hT,hk,rfl,rfl⟩;have Zv:=MK hk;refine⟨.ret (N4 (bG t k)),aK (cq (eM (dk (a8 0 rfl) B.Hk (B.N3 _ ck) (a1e t)) (rR (a8 1 rfl) au) (!0) ?_)),rfl⟩;rw[aC,W4 hT hk];rfl
def REn(Z:Ad):bM->Out->Prop:=fun args out=>∃t,D3 t/\args=[kM Z t]/\out= .ok (Hn (EN t.sheet))
def D3.few{t:fu}(hT:D3 t):t.sheet.streams.length<=12/\t.sheet.nodes.length<=8:=by
 have h3:=hT.three
 cases hm:t.measured with
 | nil=>rw[hm]at h3;cases h3
 | cons m r=>
  have:=hT.ok m (by rw[hm];exact aQ);exact⟨this.streams,this.nodes⟩
def RR(B:Bx P K mg base Z):FM P w K mg base mx Z.gF "stream_ends" 1 (REn Z):=by
 refine uv (k:=0) (N:=oQ) B.Bv B.Hk nX ?_;rintro f dw A outer st H E hr args out ⟨t,hT,rfl,rfl⟩;have hf:=hT.few;refine⟨.ret (Hn (EN t.sheet)),aK (cq (Ev.eq (vk (τ:=.many [1,2,3]) (own:=[("name",1),("first",2),("second",3)]) (l:=t.sheet.streams) (g:=Qk) (h:=fun x=>pD (bB x)) rfl nX.nd (kI (dk (a8 0 rfl) B.Hk (B.N3 _ ck) (CA t))) (iI (N:=oQ) (sc:=aj oP) (by decide+kernel)) (fun s H C cl fp=>vm rfl nX.nd) (fun i h=>h) (!0)
  (fun x hx=>⟨_,rfl,fun s H C cl fp=>nQ (ab (a8 2 rfl) (ab (a8 3 rfl) ar))⟩)) ?_)),rfl⟩
 unfold Hn EN;rw[bc];rfl
def RBa(Z:Ad):bM->Out->Prop:=fun args out=>∃t k,D3 t/\dS k=true/\args=[kM Z t,.int k]/\out= .ok (bD Z t.sheet (bG t k))
def Qq(B:Bx P K mg base Z):FM P w K mg base mx Z.gF "balance" 50 (RBa Z):=by
 refine uv (k:=49) (N:=zi) B.GO B.Hk EX ?_;rintro f dw A outer st H E hr args out ⟨t,k,hT,hk,rfl,rfl⟩;refine⟨.ret (bD Z t.sheet (bG t k)),aK (cq (Ol (B:=B.toBs) hr.m (hT.by hk) (ab (Ev.eq (i9 B.len (dk (a8 0 rfl) B.Hk (B.N3 _ ck) (Fk t))) ?_) (ab (ju (RR B) hr.m (a8 0 rfl) (by rfl) ⟨t,hT,rfl,rfl⟩) (ab (dH (W7 B) hr.m (a8 0 rfl) (by rfl) (ab (a8 1 rfl) ar) ⟨t,k,hT,hk,rfl,rfl⟩) ar))))),rfl⟩;rw[aa];rfl
def Tf(b:Bool):Out:=if b=true then .ok .fA else .exc (-1)
def RNQ:bM->Out->Prop:=fun args out=>∃k:Int,args=[.int k]/\out=Tf (dS k)
def a1f(B:Bx P K mg base Z):FG P w K mg base (CZ P w K Z) "need_quantity" 5 RNQ:=by
 obtain⟨tq,hq⟩:=B.cQ;refine oR (k:=4) (N:=pJ) B.GR EY ?_;rintro f dw A outer st H E hr args out ⟨k,rfl,rfl⟩
 have hc:∀o,WK [.int k,.int 1,.int 3] o->NZ (cz P w K mg base Z pJ "need_quantity" pH f dw A outer st H E) E (fN pJ [.int k]) (match aX pH with | [.Expr c _]=>c | _=>.Constant .none 0 ⟨0,0,0,0⟩) o:=fun o ho=>
  x_call (MB B) ft hr (ab (a8 0 rfl) (ab au (ab (Ci hq) ar))) ho
 have hw:xC k 1 3=dS k:=rfl;unfold Tf;rw[<-hw]
 cases h:xC k 1 3 with
 | true=>exact⟨.next _,aK (nB (d:=.fA) (hc (.ok .fA) ⟨k,1,3,rfl,by rw[h];rfl⟩)),rfl⟩
 | false=>exact⟨.exc (-1),aK (mK (hc (.exc (-1)) ⟨k,1,3,rfl,by rw[h];rfl⟩)),rfl⟩
def RNS(Z:Ad):bM->Out->Prop:=fun args out=>∃t,∃i:Int,args=[kM Z t,.int i]/\out=Tf (j5 t i)
def a1g(B:Bx P K mg base Z):FG P w K mg base (CZ P w K Z) "need_stream" 5 (RNS Z):=by
 refine oR (k:=4) (N:=sW) B.Kc IM ?_;rintro f dw A outer st H E hr args out ⟨t,i,rfl,rfl⟩
 have hc:∀o,WK [.int i,.int 1,.int (t.sheet.streams.length:Int)] o->NZ (cz P w K mg base Z sW "need_stream" sT f dw A outer st H E) E (fN sW [kM Z t,.int i]) (match aX sT with | [.Expr c _]=>c | _=>.Constant .none 0 ⟨0,0,0,0⟩) o:=fun o ho=>
  x_call (MB B) ft hr (ab (a8 1 rfl) (ab au (ab (Ev.eq (i9 B.len (dk (a8 0 rfl) B.Hk (B.N3 _ ck) (CA t))) (by rw[aa])) ar))) ho
 have hw:xC i 1 (t.sheet.streams.length:Int)=j5 t i:=rfl;unfold Tf;rw[<-hw]
 cases h:xC i 1 (t.sheet.streams.length:Int)with
 | true=>exact⟨.next _,aK (nB (d:=.fA) (hc (.ok .fA) ⟨i,1,_,rfl,by rw[h];rfl⟩)),rfl⟩
 | false=>exact⟨.exc (-1),aK (mK (hc (.exc (-1)) ⟨i,1,_,rfl,by rw[h];rfl⟩)),rfl⟩
theorem Fm(t:fu):∀l:cE,Ew t l=true↔(∀v∈l,gH v 1 (t.sheet.nodes.length:Int)=true)/\l.Nodup
 | []=>by simp[Ew]
 | v::r=>by
  unfold Ew;rw[c8,c8,Fm t r,eO,nJ,tY];constructor
  ·rintro⟨h1,h2,h3,h4⟩;exact⟨fun u hu=>by rcases bQ.mp hu with rfl | hu;exact h1;exact h3 u hu,by simpa using h2,h4⟩
  ·rintro⟨h1,h2,h3⟩;exact⟨h1 v aQ,by simpa using h2,fun u hu=>h1 u (az _ hu),h3⟩
def x4(t:fu)(l:cE)(x:Int×Nat):Bool:=gH x.1 1 (t.sheet.nodes.length:Int) && !(l.take x.2).contains x.1
def Tg(t:fu)(l:cE):Ew t l=l.zipIdx.all (x4 t l):=by
 rw[f9,Fm,cp];constructor
 ·rintro⟨h1,h2⟩ x hx;obtain⟨v,i⟩:=x;have e:l[i]? =some v:=fw.pE hx;obtain⟨hi,ei⟩:=ag.mp e;unfold x4;rw[c8];refine⟨h1 v (aD e),?_⟩;rw[nJ,tY,decide_eq_false_iff_not];intro hm;obtain⟨j,hj,ej⟩:=tZ.mp hm;have hj2:j<i:=by rw[fY]at hj;omega
  have:l[j]=l[i]:=by rw[<-ei]at ej;rw[Ey]at ej;exact ej
  have:=(Fw h2).mp this;omega
 ·intro h;have Tz:∀(i:Nat) (hi:i<l.length),x4 t l (l[i],i)=true:=fun i hi=>h _ (by
   rw[List.mem_iff_getElem?];exact⟨i,by rw[o8];simp[hi]⟩)
  refine⟨fun v hv=>?_,List.pairwise_iff_getElem.mpr fun i j hi hj hij e=>?_⟩
  ·obtain⟨i,hi,rfl⟩:=tZ.mp hv;have:=Tz i hi;unfold x4 at this;exact(bg.mp this).1
  ·have:=Tz j hj;unfold x4 at this;have h2:=(bg.mp this).2;rw[nJ,tY,decide_eq_false_iff_not]at h2;apply h2;rw[tZ];refine⟨i,by rw[fY];omega,?_⟩;rw[Ey];exact e
def a35(Z:Ad):bM->Out->Prop:=fun args out=>∃t l,l.length<=1000/\args=[kM Z t,iD l]/\out=Tf (Ew t l)
def a36(B:Bx P K mg base Z):FG P w K mg base (CZ P w K Z) "need_nodes" 5 (a35 Z):=by
 refine oR (k:=4) (N:=uJ) B.Mm wU ?_;rintro f dw A outer st H E hr args out ⟨t,l,hl,rfl,rfl⟩;let Xc:=cz P w K mg base Z uJ "need_nodes" k6 f dw A outer st H E;have a4A:∀x∈l.zipIdx,x.2<l.length:=fun x hx=>(ag.mp (fw.pE hx)).1
 have call:∀(x:Int×Nat) o,WK [.int x.1,.int 1,.int ((t.sheet.nodes.length+1:Nat)-1:Int)] o->NZ Xc E [.dat (kM Z t),.dat (iD l),.dat (nI x.2),.dat (.int x.1)] (match loopAt k6 0 with | .Expr c _::_=>c | _=>.Constant .none 0 ⟨0,0,0,0⟩) o:=fun x o ho=>
  x_call (MB B) ft hr (ab (a8 3 rfl) (ab au (ab (rR (Ev.eq (i9 B.len (dk (a8 0 rfl) B.Hk (B.N3 _ ck) (Fk t))) (by rw[aa];rfl)) au) ar))) ho
 have inT:∀x∈l.zipIdx,Et Xc [.dat (kM Z t),.dat (iD l),.dat (nI x.2),.dat (.int x.1)] (match loopAt k6 0 with | _:: .If c _ _ _::_=>c | _=>.Constant .none 0 ⟨0,0,0,0⟩) ((l.take x.2).contains x.1):=fun x hx=>
  VJ (l:=l.take x.2) (a8 3 rfl) (Ev.eq (Qi (.inl rfl) (a8 1 rfl) (a8 2 rfl) (by rw[aa];exact kg (a4A x hx))) (by unfold iD;rw[xb]))
 have wn:∀v:Int,xC v 1 ((t.sheet.nodes.length+1:Nat)-1:Int)=gH v 1 (t.sheet.nodes.length:Int):=fun v=>by
  rw[show((t.sheet.nodes.length+1:Nat)-1:Int)=(t.sheet.nodes.length:Int) by omega];rfl
 have body:∀x∈l.zipIdx,(x4 t l x=true->wM Xc E [.dat (kM Z t),.dat (iD l),.dat (nI x.2),.dat (.int x.1)] (loopAt k6 0) (.next [.dat (kM Z t),.dat (iD l),.no,.no]))/\
   (x4 t l x=false->wM Xc E [.dat (kM Z t),.dat (iD l),.dat (nI x.2),.dat (.int x.1)] (loopAt k6 0) (.exc (-1))):=fun x hx=>by
  refine⟨fun h=>?_,fun h=>?_⟩
  ·obtain⟨h1,h2⟩:=bg.mp h;rw[nJ]at h2;refine ia (ak (nB (d:=.fA) (call x (.ok .fA) ⟨_,_,_,rfl,by rw[wn,h1];rfl⟩)) (aK (gq (inT x hx) (fun q=>by rw[h2]at q;cases q) (fun _=>iA)))) (bw (bw (cD (cD gD))))
  ·cases h1:gH x.1 1 (t.sheet.nodes.length:Int)with
   | false=>exact de (mK (call x (.exc (-1)) ⟨_,_,_,rfl,by rw[wn,h1];rfl⟩))
   | true=>
    have h2:(l.take x.2).contains x.1=true:=by
     unfold x4 at h;rw[h1,eJ]at h;simpa using h
    exact ak (nB (d:=.fA) (call x (.ok .fA) ⟨_,_,_,rfl,by rw[wn,h1];rfl⟩)) (aK (gq (inT x hx) (fun _=>aK (Qg B hr.m)) (fun q=>by rw[h2]at q;cases q)))
 have iter:Es Xc (fN uJ [kM Z t,iD l]) (match aX k6 with | [.For tg _ _ _ _]=>tg | _=>.Constant .none 0 ⟨0,0,0,0⟩) (match aX k6 with | [.For _ it _ _ _]=>it | _=>.Constant .none 0 ⟨0,0,0,0⟩) (l.zipIdx.map fun x=>D.tup [.int (x.2:Int),.int x.1]):=
  Es.eq (ye B.enumerate (a8 1 rfl)) (Bg ..)
 rw[Tg];unfold Tf
 cases h:l.zipIdx.all (x4 t l)with
 | true=>
  refine⟨.next [.dat (kM Z t),.dat (iD l),.no,.no],aK (My (τ:=.many [2,3]) (l:=l.zipIdx) (g:=fun x=>D.tup [.int (x.2:Int),.int x.1]) eC rfl iter (pQ rfl wU.nd) [.dat (kM Z t),.dat (iD l),.no,.no] lq (fun x hx=>⟨_,rfl,(body x hx).1 (cp.mp h x hx)⟩)),rfl⟩
 | false=>
  refine⟨.exc (-1),aK (Mz (τ:=.many [2,3]) (l:=l.zipIdx) (g:=fun x=>D.tup [.int (x.2:Int),.int x.1]) eC rfl iter (pQ rfl wU.nd) [.dat (kM Z t),.dat (iD l),.no,.no] lq (x4 t l) (fun x hx=>⟨_,rfl,(body x hx).1,(body x hx).2⟩) h rfl),rfl⟩
def K0(row:cE)(i:Nat):Int:=row.getD (2*i) 0
def Gg(row:cE)(i:Nat):Int:=row.getD (2*i+1) 0
def WL(row:cE)(i:Nat):Bool:=gH (K0 row i) (-1000000000000) 1000000000000 && gH (Gg row i) 1 1000000000000
def Gh(n:Nat)(row:cE):xR n row=(decide (row.length=2*n) && (ay n).all (WL row)):=by
 unfold xR;by_cases hl:row.length=2*n
 ·rw[decide_eq_true hl,eJ,eJ,f9,cp,cp];constructor
  ·intro h i hi;have ZA:i<n:=by simpa using hi
   have a1:=h (row.getD (2*i) 0,2*i) (by rw[fQ];exact getD_some (!0));have a2:=h (row.getD (2*i+1) 0,2*i+1) (by rw[fQ];exact getD_some (!0));simp only[show(2*i)%2=0 by omega,if_true]at a1;simp only[show(2*i+1)%2=1 by omega,show ¬(1=0) by omega,if_false]at a2;unfold WL K0 Gg;rw[a1,a2];rfl
  ·intro h x hx;obtain⟨v,j⟩:=x;have e:row[j]? =some v:=by rw[fQ]at hx;exact hx
   have hj:j<row.length:=(ag.mp e).1;have ev:row.getD j 0=v:=by rw[ax,e];rfl
   have hb:=h (j/2) (by simp;omega);unfold WL at hb;obtain⟨b1,b2⟩:=bg.mp hb;unfold K0 at b1;unfold Gg at b2;by_cases hp:j%2=0
   ·simp only[hp,if_true];rw[show 2*(j/2)=j by omega,ev]at b1;exact b1
   ·simp only[hp,if_false];rw[show 2*(j/2)+1=j by omega,ev]at b2;exact b2
 ·rw[decide_eq_false hl];rfl
theorem CB:∀(n:Nat) (row:cE),row.length=2*n->(∀i,i<n->1<=Gg row i)->(eG row).map eV=(ay n).map fun i=>cZ (K0 row i) (Gg row i)
 | 0,row,hl,_=>by
  have:row=[]:=jB (!0);subst this;rfl
 | n+1,row,hl,hp=>by
  match row,hl with
  | a::b::r,hl=>
   have hb:1<=b:=hp 0 (!0);have ih:=CB n r (by simp only[ah]at hl;omega) fun i hi=>by
    have:=hp (i+1) (!0);unfold Gg at this ⊢;rw[show 2*(i+1)+1=(2*i+1)+2 by omega]at this;exact this
   rw[yX,cM,bc];show eV (jA a b.toNat)::(eG r).map eV=cZ a b::_;rw[fw.tz (!0),ih];congr 1
  | [a],hl=>simp only[ah,bY]at hl;omega
  | [],hl=>simp only[bY]at hl;omega
def RFI:bM->Out->Prop:=fun args out=>∃row,∃n:Nat,row.length<=1000/\n<=100/\args=[iD row,nI n]/\out=if xR n row=true then .ok (Gf ((eG row).map eV))else .exc (-1)
def fiB:iT:=loopAt iJ 2
def a37(B:Bx P K mg base Z):FG P w K mg base (CZ P w K Z) "fractions_in" 44 RFI:=by
 obtain⟨tm,hm⟩:=B.cMF;refine oR (k:=43) (N:=nY) B.IX pK ?_;rintro f dw A outer st H E hr args out ⟨row,n,hrl,hn,rfl,rfl⟩;let Xc:=cz P w K mg base Z nY "fractions_in" iJ f dw A outer st H E;have P8:Et Xc (fN nY [iD row,nI n]) (match aX iJ with | .If c _ _ _::_=>c | _=>.Constant .none 0 ⟨0,0,0,0⟩) (!decide (row.length=2*n)):=
  Et.eq (Dw (i9 B.len (a8 0 rfl)) (jX (mF (n:=2) (m:=10) (show(2:Int).natAbs<2^2 by decide) (show((n:Nat):Int).natAbs<2^10 by omega) ck) au (a8 1 rfl))) (by
   rw[aa];congr 1;exact decide_eq_decide.mpr (!0))
 rw[Gh];by_cases hl:row.length=2*n
 ·rw[decide_eq_true hl,eJ];rw[decide_eq_true hl]at P8;have ixA:∀{ρ:br} {i:Nat},i<n->(row.map D.int)[((2*i:Nat):Int).toNat]? =some (.int (K0 row i)):=fun {ρ i} hi=>by
   rw[bH,aC,getD_some (d:=0) (!0)];rfl
  have ixB:∀{i:Nat},i<n->(row.map D.int)[(((2*i:Nat):Int)+1).toNat]? =some (.int (Gg row i)):=fun {i} hi=>by
   rw[show(((2*i:Nat):Int)+1).toNat=2*i+1 by omega,aC,getD_some (d:=0) (!0)];rfl
  let I:Nat->br:=fun i=>[.dat (iD row),.dat (nI n),.own ((ay i).map fun i=>fr (cZ (K0 row i) (Gg row i))),.no]
  have DZ:∀i,i<n->∀o,WK [.int (K0 row i),.int (-1000000000000),.int 1000000000000] o->NZ Xc E [.dat (iD row),.dat (nI n),.own ((ay i).map fun i=>fr (cZ (K0 row i) (Gg row i))),.dat (.int ((2*i:Nat):Int))] (match fiB with | .Expr c _::_=>c | _=>.Constant .none 0 ⟨0,0,0,0⟩) o:=fun i hi o ho=>
   x_call (MB B) ft hr.m (ab (eM (a8 0 rfl) (a8 3 rfl) (!0) (ixA (ρ:=[]) hi)) (ab (PC (Ci hm)) (ab (Ci hm) ar))) ho
  have OY:∀i,i<n->∀o,WK [.int (Gg row i),.int 1,.int 1000000000000] o->NZ Xc E [.dat (iD row),.dat (nI n),.own ((ay i).map fun i=>fr (cZ (K0 row i) (Gg row i))),.dat (.int ((2*i:Nat):Int))] (match fiB with | _:: .Expr c _::_=>c | _=>.Constant .none 0 ⟨0,0,0,0⟩) o:=fun i hi o ho=>
   x_call (MB B) ft hr.m (ab (eM (a8 0 rfl) (wQ (a8 3 rfl) au) (!0) (ixB hi)) (ab au (ab (Ci hm) ar))) ho
  have good:∀i,i<n->WL row i=true->wM Xc E [.dat (iD row),.dat (nI n),.own ((ay i).map fun i=>fr (cZ (K0 row i) (Gg row i))),.dat (.int ((2*i:Nat):Int))] fiB (.next (I (i+1))):=fun i hi h=>by
   obtain⟨h1,h2⟩:=bg.mp h;have hb1:1<=Gg row i:=by
    unfold gH at h2;have:=(bg.mp h2).1;simpa using this
   refine ia (ak (nB (d:=.fA) (DZ i hi (.ok .fA) ⟨_,_,_,rfl,by rw[show xC (K0 row i) (-1000000000000) 1000000000000=true from h1];rfl⟩)) (ak (nB (d:=.fA) (OY i hi (.ok .fA) ⟨_,_,_,rfl,by rw[show xC (Gg row i) 1 1000000000000=true from h2];rfl⟩))
    (aK (uV (i:=2) rfl (c7 (J3 B.toBs) hr.m (ab (eM (a8 0 rfl) (a8 3 rfl) (!0) (ixA (ρ:=[]) hi)) (ab (eM (a8 0 rfl) (wQ (a8 3 rfl) au) (!0) (ixB hi)) ar)) ⟨_,_,rfl,by omega,rfl⟩) (by rw[aa,dy];omega))))) ?_
   have e:(ay (i+1)).map (fun i=>fr (cZ (K0 row i) (Gg row i)))=(ay i).map (fun i=>fr (cZ (K0 row i) (Gg row i)))++[fr (cZ (K0 row i) (Gg row i))]:=by rw[List.range_succ,cJ];rfl
   show zc _ [.dat (iD row),.dat (nI n),.own ((ay (i+1)).map fun i=>fr (cZ (K0 row i) (Gg row i))),.no];rw[e];exact bw (bw (bw (cD gD)))
  have bad:∀i,i<n->WL row i=false->wM Xc E [.dat (iD row),.dat (nI n),.own ((ay i).map fun i=>fr (cZ (K0 row i) (Gg row i))),.dat (.int ((2*i:Nat):Int))] fiB (.exc (-1)):=fun i hi h=>by
   cases h1:gH (K0 row i) (-1000000000000) 1000000000000 with
   | false=>exact de (mK (DZ i hi (.exc (-1)) ⟨_,_,_,rfl,by rw[show xC (K0 row i) (-1000000000000) 1000000000000=false from h1];rfl⟩))
   | true=>
    have h2:gH (Gg row i) 1 1000000000000=false:=by
     unfold WL at h;rw[h1,eJ]at h;exact h
    exact ak (nB (d:=.fA) (DZ i hi (.ok .fA) ⟨_,_,_,rfl,by rw[show xC (K0 row i) (-1000000000000) 1000000000000=true from h1];rfl⟩)) (de (mK (OY i hi (.exc (-1)) ⟨_,_,_,rfl,by rw[show xC (Gg row i) 1 1000000000000=false from h2];rfl⟩)))
  have pre:∀{oc:Oc},wM Xc E (I 0) ((aX iJ).drop 2) oc->wM Xc E (fN nY [iD row,nI n]) (aX iJ) oc:=fun kN=>
   ak (gq P8 (fun q=>by cases q) (fun _=>iA)) (ak (Co (i:=2) (ds:=[]) pK.nd (j3 rfl) ar) kN)
  have iter:Es Xc (I 0) (gT iJ 2) (gE iJ 2) ((ay n).map fun(i:Nat)=>D.int ((2*i:Nat):Int)):=
   Qj B.range au (Ev.eq (i9 B.len (a8 0 rfl)) (by rw[aa,hl])) au (!0)
  have items:∀{i:Nat} {d:D},((ay n).map fun(i:Nat)=>D.int ((2*i:Nat):Int))[i]? =some d->i<n/\d= .int ((2*i:Nat):Int):=fun {i d} h=>by
   rw[aC]at h;have hi:i<n:=by
    by_cases q:i<n
    ·exact q
    ·rw[bT (by simpa using q)]at h;cases h
   rw[f6 hi]at h;exact⟨hi,(be h).symm⟩
  cases ha:(ay n).all (WL row)with
  | true=>
   have JB:∀i,i<n->WL row i=true:=fun i hi=>cp.mp ha i (by simpa using hi);rw[if_pos rfl];have hb1:∀i,i<n->1<=Gg row i:=fun i hi=>by
    have h2:=(bg.mp (JB i hi)).2;unfold gH at h2;have:=(bg.mp h2).1;simpa using this
   rw[CB n row hl hb1];refine⟨.ret (Gf ((ay n).map fun i=>cZ (K0 row i) (Gg row i))),pre ?_,rfl⟩;refine ak (kP (τ:=.one 3) eC rfl iter (jY pK.nd) I (zc.refl _) n (!1) (fun i d hi hd=>?_) (.inl ⟨by simp,rfl⟩)) ?_
   ·obtain⟨_,rfl⟩:=items hd;exact⟨_,rfl,good i hi (JB i hi)⟩
   ·refine ll (i:=2) (l:=(ay n).map fun i=>fr (cZ (K0 row i) (Gg row i))) rfl (aK (cq (Ev.eq (a8 2 rfl) ?_)));unfold Gf;rw[bc];rfl
  | false=>
   rw[if_neg ck];rcases yB (WL row) (ay n)with h | ⟨k,x,hk,hx,hbf⟩
   ·rw[cp.mpr h]at ha;cases ha
   ·have hkn:k<n:=by
     have:=(ag.mp hk).1;simpa using this
    have hxk:x=k:=by
     rw[f6 hkn]at hk;exact(be hk).symm
    subst hxk;refine⟨.exc (-1),pre ?_,rfl⟩;refine de (kP (τ:=.one 3) eC rfl iter (jY pK.nd) I (zc.refl _) x (by simp;omega) (fun i d hi hd=>?_) (.inr ⟨.int ((2*x:Nat):Int),_,?_,rfl,bad x hkn hx,rfl⟩))
    ·obtain⟨hin,rfl⟩:=items hd;refine⟨_,rfl,good i hin (hbf i ?_)⟩;have e:(ay n).take x=ay x:=by rw[List.take_range,mQ (!0)]
     rw[e];simpa using hi
    ·rw[aC,f6 hkn];rfl
 ·rw[decide_eq_false hl,kA,if_neg ck];rw[decide_eq_false hl]at P8;exact⟨.exc (-1),de (gq P8 (fun _=>aK (Qg B hr.m)) (fun q=>by cases q)),rfl⟩
end Pg
namespace Pg
open PySem PySem.Spec PyProof.Rows L2 Dl
open Vbmian (value)
open fw (bB eV cZ WF jJ Good fK fD val cu h9 iH)
section
variable {s:cg}{m:aJ}{i:Nat}
def a1h(hi:i<s.streams.length):∃x,s.streams[i]? =some x:=⟨s.streams[i],aV hi⟩
abbrev vl(s:cg)(m:aJ)(i:Nat):Option iO:=oM s m (cU s m) i
def Gi(h:o5 s m)(hi:i<s.streams.length):cu (s.nodes.length+1) (nums s m) (EN s) m i=(C6 s m i,eV ((vl s m i).getD aq)):=by
 obtain⟨x,hx⟩:=a1h hi;exact(fw.EI h.wf (fw.nO h.wf).1 hx).1
def ML(h:o5 s m)(hi:i<s.streams.length){q:iO}(e:vl s m i=some q):Good q:=by
 obtain⟨x,hx⟩:=a1h hi;exact(fw.EI h.wf (fw.nO h.wf).1 hx).2.1 q e
def tQ(h:o5 s m)(hi:i<s.streams.length):ic s m i=(vl s m i).map eV:=by
 obtain⟨x,hx⟩:=a1h hi;obtain⟨e1,_,e3⟩:=fw.EI h.wf (fw.nO h.wf).1 hx;have TJ:cu (s.nodes.length+1) (nums s m) (EN s) m i=(C6 s m i,eV ((vl s m i).getD aq)):=e1;have Zm:C6 s m i≠0->∃q,vl s m i=some q:=fun z=>dZ.mp (e3.mpr z);unfold fw.cu at TJ;unfold ic;split at TJ
 ·next hs=>
  rw[if_pos hs];obtain⟨a,b⟩:=Gz TJ
  obtain⟨q,hq⟩:=Zm (by rw[<-a];split<;>decide)
  rw[hq]at b ⊢;rw[b];rfl
 ·next hs=>
  rw[if_neg hs];split at TJ
  ·next ht=>
   rw[if_pos ht];obtain⟨a,b⟩:=Gz TJ;obtain⟨q,hq⟩:=Zm (by rw[<-a];decide);rw[hq]at b ⊢;rw[b];rfl
  ·next ht=>
   rw[if_neg ht];obtain⟨a,b⟩:=Gz TJ;have:vl s m i=none:=by
    cases q:vl s m i with
    | none=>rfl
    | some y=>
     have:=e3.mp (by show(vl s m i).isSome=true;rw[q];rfl);exact absurd a.symm this
   rw[this];rfl
def Qr(h:o5 s m):h9 (nums s m) (EN s) m=eV (mj s m):=(fw.Ua h.wf (fw.nO h.wf).1).1
def a38(h:o5 s m)(hi:i<s.streams.length):(C6 s m i == 2)=((m.getD i none).isSome && iH (s.nodes.length+1) (EN s) m i):=by
 have e:=congrArg JS (Gi h hi);have e':(cu (s.nodes.length+1) (nums s m) (EN s) m i).1=C6 s m i:=e;rw[<-e'];unfold fw.cu
 cases h1:(m.getD i none).isSome<;>cases h2:iH (s.nodes.length+1) (EN s) m i<;>simp
def W8(x:Nat×iO):Nat×(Int×Int):=(x.1,eV x.2)
def W9(h:o5 s m):DS s m=(mn s m).map W8:=by
 unfold DS mn;rw[E5]
 have key:∀(l:bL) (o:Option (Nat×iO)),(∀i∈l,i<s.streams.length)->l.foldl (sstep s m) (o.map W8)=(l.foldl (fun o i=>if(C6 s m i == 2)=true then(match o with
   | none=>some (i,mj s (jr m i))
   | some x=>if Ks x.2 (mj s (jr m i))=true then o else some (i,mj s (jr m i)))else o) o).map W8:=by
  intro l
  induction l with
  | nil=>intro o _;rfl
  | cons i l ih=>
   intro o hl;rw[fP,fP,<-ih _ fun j hj=>hl j (az _ hj)];congr 1;have hi:=hl i aQ;rw[a38 h hi];unfold sstep;have hw:Q9 s m i=eV (mj s (jr m i)):=Qr (h.less i);split
   ·rw[hw]
    cases o with
    | none=>rfl
    | some x=>
     show(if(eV (mj s (jr m i))).1*(eV x.2).2<(eV x.2).1*(eV (mj s (jr m i))).2 then some (i,eV (mj s (jr m i)))else some (W8 x))=_;unfold Ks eV;by_cases q:x.2.num*((mj s (jr m i)).den:Int)<=(mj s (jr m i)).num*(x.2.den:Int)
     ·rw[if_neg (by show ¬((mj s (jr m i)).num*(x.2.den:Int)<x.2.num*((mj s (jr m i)).den:Int));omega)];simp only[q,decide_true,if_true];rfl
     ·rw[if_pos (by show(mj s (jr m i)).num*(x.2.den:Int)<x.2.num*((mj s (jr m i)).den:Int);omega)];simp only[q,decide_false,bU,if_false];rfl
   ·rfl
 exact key (ay s.streams.length) none fun i hi=>by simpa using hi
def Wa{xq:List iO}(gx:∀q∈xq,Good q)(v:Nat):Good (jD s [v+1] xq)/\val (jD s [v+1] xq)=((s.streams.zip xq).map fun y=>val y.2*((fD (bB y.1) (v+1):Int):Rat)).sum:=by
 have g2:∀q∈(s.streams.zip xq).map fun y=>if [v+1].contains y.1.dst && !([v+1].contains y.1.src)then y.2 else if [v+1].contains y.1.src && !([v+1].contains y.1.dst)then jc y.2 else aq,Good q:=fun q hq=>by
  rw[aZ]at hq;obtain⟨y,hy,rfl⟩:=hq;have g:=gx _ (cn hy).2;split
  ·exact g
  ·split
   ·exact fw.xj g
   ·exact fw.il
 refine⟨by unfold jD;exact fw.kU g2,?_⟩;unfold jD;rw[fw.tj g2,bc];refine fw.dN fun y hy=>?_;simp only[lI];have hc:∀n:Nat,[v+1].contains n=decide (n=v+1):=fun n=>by
  simp only[kB,E7,BZ];rw[f9,beq_iff_eq,decide_eq_true_iff]
 rw[hc,hc];unfold fD bB;simp only
 by_cases q1:y.1.dst=v+1<;>by_cases q2:y.1.src=v+1
 ·rw[if_pos q1,if_pos q2,decide_eq_true q1,decide_eq_true q2,if_neg (!1),if_neg (!1),fw.val_zero]
  push_cast;grind
 ·rw[if_pos q1,if_neg q2,decide_eq_true q1,decide_eq_false q2,if_pos (!1)]
  push_cast;grind
 ·rw[if_neg q1,if_pos q2,decide_eq_false q1,decide_eq_true q2,if_neg (!1),if_pos (!1),fw.val_neg]
  push_cast;grind
 ·rw[if_neg q1,if_neg q2,decide_eq_false q1,decide_eq_false q2,if_neg (!1),if_neg (!1),fw.val_zero]
  push_cast;grind
def shown(m:aJ)(i:Nat):iO:=match bx m i with
 | some (v,_)=>cA v
 | none=>aq
def Qs:Option (Int×Nat)->iO
 | some (v,_)=>cA v
 | none=>aq
def a4B(h:o5 s m)(v:Nat):DP (v+1) (P6 (EN s) m)=(jD s [v+1] ((ay s.streams.length).map (shown m))).num:=by
 have gx:∀q∈(ay s.streams.length).map (shown m),Good q:=fun q hq=>by
  obtain⟨i,_,rfl⟩:=aZ.mp hq;unfold shown;split
  ·exact fw.eD _
  ·exact fw.il
 obtain⟨g,hv⟩:=Wa (s:=s) gx v;have ez:s.streams.zip ((ay s.streams.length).map (shown m))=(s.streams.zip m).map fun y=>(y.1,Qs y.2):=by
  apply fV
  ·rw[cI,aa,aa,cI,dy,h.Ms]
  ·intro i h1 h2;have hi:i<m.length:=by rw[aa,cI]at h2;omega
   rw[fU,bK,bK,fU,jd];unfold shown Qs;have:bx m i=m[i]:=by unfold bx;rw[ax,aV hi];rfl
   rw[this]
 rw[ez,bc]at hv;have key:∀L:List (a5a×Option (Int×Nat)),((DP (v+1) ((L.map fun y=>(bB y.1,y.2)).filterMap Lk):Int):Rat)=(L.map ((fun y=>val y.2*((fD (bB y.1) (v+1):Int):Rat))∘fun y=>(y.1,Qs y.2))).sum:=by
  intro L
  induction L with
  | nil=>rfl
  | cons y L ih=>
   rw[cM,cM,mY,<-ih];obtain⟨x,o⟩:=y
   cases o with
   | none=>
    show((DP (v+1) ((L.map fun y=>(bB y.1,y.2)).filterMap Lk):Int):Rat)=val aq*_+_;rw[fw.val_zero];grind
   | some k=>
    show((DP (v+1) ((bB x,k.1,k.2)::(L.map fun y=>(bB y.1,y.2)).filterMap Lk):Int):Rat)=val (cA k.1)*_+_;rw[fw.oo];unfold DP;rw[cM,mY]
    push_cast
    grind
 have e2:P6 (EN s) m=((s.streams.zip m).map fun y=>(bB y.1,y.2)).filterMap Lk:=by
  unfold P6 EN;congr 1;rw[show(s.streams.map bB).zip m=(s.streams.map bB).zip (m.map id) by rw[GA],yL];rfl
 have e3:jD s [v+1] ((ay s.streams.length).map (shown m))=cA (DP (v+1) (P6 (EN s) m)):=by
  apply fw.t9 g (fw.eD _);rw[hv,fw.oo,e2,key]
 rw[e3];rfl
def a39{a b:iO}(ha:Good a)(hb:Good b)(hz:b.num≠0):Vv (eV a) (eV b)=eV (iV a b):=by
 unfold Vv iV;have d1:=fw.v7 ha;by_cases q:b.num<0
 ·rw[if_pos (show(eV b).1<0 from q),if_pos q];have hp:0< -1*(eV a).2*(eV b).1:=by
   show 0< -1*(a.den:Int)*b.num;have:=jC d1 (show 0< -b.num by omega);rw[Int.mul_neg]at this;rw[x6];omega
  rw[fw.tz hp];congr 2
  ·show-1*a.num*(b.den:Int)= -(a.num*(b.den:Int));rw[x6];omega
  ·show(-1*(a.den:Int)*b.num).toNat=a.den*b.num.natAbs;have: -1*(a.den:Int)*b.num=((a.den*b.num.natAbs:Nat):Int):=by
    rw[kY,show((b.num.natAbs:Nat):Int)= -b.num by omega,Int.mul_neg,x6];omega
   rw[this,bH]
 ·rw[if_neg (show ¬(eV b).1<0 from q),if_neg q];have hp:0<1*(eV a).2*(eV b).1:=by
   show 0<1*(a.den:Int)*b.num;rw[AO];exact jC d1 (!0)
  rw[fw.tz hp];congr 2
  ·show 1*a.num*(b.den:Int)=a.num*(b.den:Int);rw[AO]
  ·show(1*(a.den:Int)*b.num).toNat=a.den*b.num.natAbs;have:1*(a.den:Int)*b.num=((a.den*b.num.natAbs:Nat):Int):=by
    rw[kY,show((b.num.natAbs:Nat):Int)=b.num by omega,AO]
   rw[this,bH]
end
open Vbmian (value sumQ)
section
variable {s:cg}{m:aJ}{i:Nat}
def Zn(l:cE)(x:a5a×Nat):Bool:=l.contains (x.1.dst:Int) && !l.contains (x.1.src:Int)
def OL(l:cE)(x:a5a×Nat):Bool:=l.contains (x.1.src:Int) && !l.contains (x.1.dst:Int)
def ON(l:cE):DR (EN s) l=(s.streams.zipIdx.filter (Zn l)).map (·.2):=by
 unfold DR EN;rw[fw.wL,mR,bc];rfl
def RS(l:cE):Mw (EN s) l=(s.streams.zipIdx.filter (OL l)).map (·.2):=by
 unfold Mw EN;rw[fw.wL,mR,bc];rfl
theorem Ls(l:cE):∀L:List (a5a×Nat),(L.filter fun x=>l.contains (x.1.dst:Int) != l.contains (x.1.src:Int)).length=(L.filter (Zn l)).length+(L.filter (OL l)).length
 | []=>rfl
 | x::L=>by
  have ih:=Ls l L;rw[fg,fg,fg];unfold Zn OL at ih ⊢
  cases h1:l.contains (x.1.dst:Int)<;>cases h2:l.contains (x.1.src:Int)<;>simp[h1,h2]at ih ⊢<;>omega
theorem Lu(l:cE)(p:Nat->Bool):∀L:List (a5a×Nat),((L.filter fun x=>l.contains (x.1.dst:Int) != l.contains (x.1.src:Int)).all fun x=>p x.2)=(((L.filter (Zn l)).map (·.2)).all p && ((L.filter (OL l)).map (·.2)).all p)
 | []=>rfl
 | x::L=>by
  have ih:=Lu l p L;rw[fg,fg,fg];unfold Zn OL at ih ⊢
  cases h1:l.contains (x.1.dst:Int)<;>cases h2:l.contains (x.1.src:Int)<;>cases h3:p x.2<;>simp[h1,h2,h3]at ih ⊢<;>simp[ih]
theorem RT(l:cE)(g:Nat->Option iO):∀L:List (a5a×Nat),((L.filter fun x=>l.contains (x.1.dst:Int) != l.contains (x.1.src:Int)).filterMap fun x=>if l.contains (x.1.dst:Int)=true then g x.2 else none)=((L.filter (Zn l)).map (·.2)).filterMap g
 | []=>rfl
 | x::L=>by
  have ih:=RT l g L;rw[fg,fg];unfold Zn at ih ⊢
  cases h1:l.contains (x.1.dst:Int)<;>cases h2:l.contains (x.1.src:Int)<;>simp only[h1,h2,bne_self_eq_false,kA,eJ,pf,qT,bU,if_false,if_true,eY,cM,ih,show(true != false)=true from rfl,show(false != true)=true from rfl]
theorem OO(l:cE)(g:Nat->Option iO):∀L:List (a5a×Nat),((L.filter fun x=>l.contains (x.1.dst:Int) != l.contains (x.1.src:Int)).filterMap fun x=>if l.contains (x.1.dst:Int)=true then none else g x.2)=((L.filter (OL l)).map (·.2)).filterMap g
 | []=>rfl
 | x::L=>by
  have ih:=OO l g L;rw[fg,fg];unfold OL at ih ⊢
  cases h1:l.contains (x.1.dst:Int)<;>cases h2:l.contains (x.1.src:Int)<;>simp only[h1,h2,bne_self_eq_false,kA,eJ,pf,qT,bU,if_false,if_true,eY,cM,ih,show(true != false)=true from rfl,show(false != true)=true from rfl]
def a3a(h:o5 s m){l:bL}(hl:∀i∈l,i<s.streams.length)(ha:l.all (fun i=>(vl s m i).isSome)=true):fsum s m l=eV (sumQ (l.filterMap (vl s m))):=by
 unfold fsum sumQ;have e:l.filterMap (vl s m)=l.map fun i=>(vl s m i).getD aq:=by
  clear hl
  induction l with
  | nil=>rfl
  | cons i l ih=>
   rw[xa,c8]at ha;obtain⟨q,hq⟩:=dZ.mp ha.1;rw[eY,cM,hq,ih ha.2];rfl
 rw[e];refine fw.KO (fun i=>(ic s m i).getD (0,1)) (fun i=>(vl s m i).getD aq) l aq fw.il fun i hi=>?_;have hb:=hl i hi;obtain⟨q,hq⟩:=dZ.mp (cp.mp ha i hi);refine⟨?_,by rw[hq];exact ML h hb hq⟩;rw[tQ h hb,hq];rfl
def all_some(h:o5 s m){l:bL}(hl:∀i∈l,i<s.streams.length):(l.all fun i=>(ic s m i).isSome)=l.all fun i=>(vl s m i).isSome:=by
 rw[f9,cp,cp];constructor
 ·intro h1 i hi;have:=h1 i hi;rw[tQ h (hl i hi)]at this;simpa using this
 ·intro h1 i hi;have:=h1 i hi;rw[tQ h (hl i hi)];simpa using this
def OP(h:o5 s m){l:bL}(hl:∀i∈l,i<s.streams.length):mO s m l=if(l.all fun i=>(vl s m i).isSome)=true then some (eV (sumQ (l.filterMap (vl s m))))else none:=by
 unfold mO;rw[all_some h hl];split
 ·next ha=>rw[a3a h hl ha]
 ·rfl
def MM{p:a5a×Nat->Bool}:∀i∈(s.streams.zipIdx.filter p).map (·.2),i<s.streams.length:=fun i hi=>by
 obtain⟨x,hx,rfl⟩:=aZ.mp hi;exact(ag.mp (fw.pE (dR.mp hx).1)).1
def Jr(s:cg)(m:aJ)(l:cE):cE:=
 (((DR (EN s) l).length+(Mw (EN s) l).length:Nat):Int)::match mO s m (DR (EN s) l),mO s m (Mw (EN s) l)with
  | some a,some b=>[1,a.1,a.2,b.1,b.2]
  | _,_=>[0]
def MN{l:cE}(hl:∀v∈l,0<=v)(n:Nat):(l.map oK).contains n=l.contains (n:Int):=by
 rw[f9,rB,rB,aZ];constructor
 ·rintro⟨v,hv,rfl⟩;rw[BI (hl v hv)];exact hv
 ·intro h;exact⟨_,h,bH n⟩
def Wb(f:Nat->Option iO):s.streams.zip ((ay s.streams.length).map f)=s.streams.zipIdx.map fun x=>(x.1,f x.2):=by
 apply fV
 ·rw[cI,aa,aa,bj,dy,ke]
 ·intro i h1 h2;rw[fU,bK,bK,jd,eZ];rw[kf]
def Wc{t:fu}{k:Int}{l:cE}(h:o5 t.sheet (bG t k))(hk:dS k=true)(hl:Ew t l=true):(aw t (.through k l)).2=0::Jr t.sheet (bG t k) l:=by
 have h0:∀v∈l,0<=v:=fun v hv=>by
  have:=((Fm t l).mp hl).1 v hv;unfold gH at this;have:=(bg.mp this).1;have:=of_decide_eq_true this;omega
 have e:(aw t (.through k l)).2=0::(let v:=oj t k
   let nodes:=l.map oK;let Yk:=(t.sheet.streams.zip v).filter fun y=>nodes.contains y.1.dst != nodes.contains y.1.src
   ((Yk.length:Int)::if(Yk.all fun y=>y.2.isSome)=true then
    1::(xh (sumQ (Yk.filterMap fun y=>if nodes.contains y.1.dst=true then y.2 else none))++xh (sumQ (Yk.filterMap fun y=>if nodes.contains y.1.dst=true then none else y.2)))
   else [0])):=by
  show(if(dS k && Ew t l)=false then dB t 1 else _).2=_;rw[hk,hl];rfl
 rw[e];congr 1;unfold oj Jr;simp only[MN h0];rw[Wb,mR,aa,List.all_map,je,je,ON,RS];have e1:=Ls l t.sheet.streams.zipIdx;have e2:=Lu l (fun i=>(vl t.sheet (bG t k) i).isSome) t.sheet.streams.zipIdx;have e3:=RT l (vl t.sheet (bG t k)) t.sheet.streams.zipIdx;have e4:=OO l (vl t.sheet (bG t k)) t.sheet.streams.zipIdx;have TJ:(t.sheet.streams.zipIdx.filter ((fun y:a5a×Option iO=>l.contains (y.1.dst:Int) != l.contains (y.1.src:Int))∘fun x=>(x.1,oM t.sheet (bG t k) (cU t.sheet (bG t k)) x.2)))=t.sheet.streams.zipIdx.filter fun x=>l.contains (x.1.dst:Int) != l.contains (x.1.src:Int):=rfl;rw[TJ,e1,aa,aa];congr 1;rw[show((fun y:a5a×Option iO=>y.2.isSome)∘fun x:a5a×Nat=>(x.1,oM t.sheet (bG t k) (cU t.sheet (bG t k)) x.2))=fun x=>(vl t.sheet (bG t k) x.2).isSome from rfl,e2];rw[show((fun y:a5a×Option iO=>if l.contains (y.1.dst:Int)=true then y.2 else none)∘fun x:a5a×Nat=>(x.1,oM t.sheet (bG t k) (cU t.sheet (bG t k)) x.2))=fun x=>if l.contains (x.1.dst:Int)=true then vl t.sheet (bG t k) x.2 else none from rfl,e3];rw[show((fun y:a5a×Option iO=>if l.contains (y.1.dst:Int)=true then none else y.2)∘fun x:a5a×Nat=>(x.1,oM t.sheet (bG t k) (cU t.sheet (bG t k)) x.2))=fun x=>if l.contains (x.1.dst:Int)=true then none else vl t.sheet (bG t k) x.2 from rfl,e4];rw[OP h MM,OP h MM]
 cases a1:((t.sheet.streams.zipIdx.filter (Zn l)).map (·.2)).all fun i=>(vl t.sheet (bG t k) i).isSome<;>cases a2:((t.sheet.streams.zipIdx.filter (OL l)).map (·.2)).all fun i=>(vl t.sheet (bG t k) i).isSome<;>rfl
end
end Pg
namespace Pg
open PySem PySem.Spec PyProof.Rows L2 Dl
open Vbmian (value sumQ)
open fw (bB eV cZ WF jJ Good fK fD val cu h9 iH)
variable {P:bp}{w:cH}{K:a9}{mg:cY->iF}{base:cy}{Z:Ad}
inductive Form:Nat->cE->gP->jH->Prop
 | sheet (t:cE):Form 0 [] [t] (.sheet t)
 | say:Form 1 [] [] .say
 | measure (k i v w:Int):Form 2 [k,i,v,w] [] (.measure k i v w)
 | forget (k i:Int):Form 3 [k,i] [] (.forget k i)
 | adjust (k:Int):Form 4 [k] [] (.adjust k)
 | numbers (k:Int):Form 5 [k] [] (.numbers k)
 | check (k:Int) (x p:cE):Form 6 [k] [x,p] (.check k x p)
 | imbalance (k:Int):Form 7 [k] [] (.imbalance k)
 | without (k i:Int):Form 8 [k,i] [] (.without k i)
 | suspect (k:Int):Form 9 [k] [] (.suspect k)
 | through (k:Int) (l:cE):Form 10 [k] [l] (.through k l)
 | share (k h i:Int):Form 11 [k,h,i] [] (.share k h i)
 | told (k:Int):Form 12 [k] [] (.told k)
def Wd(l:cE):Out:=if l.headD 0=0 then .ok (iD l.tail)else .exc (l.headD 0)
def qO(a:cE):Wd (0::a)= .ok (iD a):=rfl
def RA(Z:Ad)(n:Nat):bM->Out->Prop:=fun args out=>∃t ns rs c,D3 t/\Form n ns rs c/\(∀r∈rs,r.length<=1000)/\args=[kM Z t,iD ns,.lst (rs.map iD)]/\out=Wd (aw t c).2
section
variable {N:bS}{x:cY}{sc:jV}{f:aI}{dw:aH}{A:dD}{outer:iC}{s:ai}{H:Hp}{E:XK}{ρ:br}{p np jb pos:mH}{e e2:du}{k:Int}{n:Nat}
def qo{X:Cx}(B:Bx X.prog X.K X.mg X.base Z)(hr:fZ n X.A)(hn:5<=n)(hk:dS k=true)(hv:Ev X ρ e (.int k))(hg:Gl X "need_quantity":=by rfl)(he:SE X e []:=by rfl)(hs:dj (.Call (.Name "need_quantity" np) [e] [] jb) none pos.line X.env=pure false:=by rfl)(hp:Passes (CZ X.prog X.w X.K Z) X E:=by exact ft):Ex X E ρ (.Expr (.Call (.Name "need_quantity" np) [e] [] jb) pos) (.next ρ):=
 nB (d:=.fA) (x_call (E:=E) (o:=.ok .fA) (a1f B) hp (hr.mono hn) (ab hv ar he) ⟨k,rfl,by rw[hk];rfl⟩ hg ck he) hs
def ua{X:Cx}(B:Bx X.prog X.K X.mg X.base Z)(hr:fZ n X.A)(hn:5<=n)(hk:dS k=false)(hv:Ev X ρ e (.int k))(hg:Gl X "need_quantity":=by rfl)(he:SE X e []:=by rfl)(hs:dj (.Call (.Name "need_quantity" np) [e] [] jb) none pos.line X.env=pure false:=by rfl)(hp:Passes (CZ X.prog X.w X.K Z) X E:=by exact ft):Ex X E ρ (.Expr (.Call (.Name "need_quantity" np) [e] [] jb) pos) (.exc (-1)):=
 mK (x_call (E:=E) (a1f B) hp (hr.mono hn) (ab hv ar he) ⟨k,rfl,by rw[hk];rfl⟩ hg ck he) hs
def OQ{X:Cx}{t:fu}(B:Bx X.prog X.K X.mg X.base Z)(hr:fZ n X.A)(hn:5<=n)(hk:j5 t k=true)(hq:Ev X ρ e (kM Z t))(hv:Ev X ρ e2 (.int k))(hg:Gl X "need_stream":=by rfl)(he:SE X e [e2]:=by rfl)(TH:SE X e2 []:=by rfl)(hpl:ya X jb [e2]:=by rfl)(hs:dj (.Call (.Name "need_stream" np) [e,e2] [] jb) none pos.line X.env=pure false:=by rfl)(hp:Passes (CZ X.prog X.w X.K Z) X E:=by exact ft):Ex X E ρ (.Expr (.Call (.Name "need_stream" np) [e,e2] [] jb) pos) (.next ρ):=
 nB (d:=.fA) (x_call (E:=E) (o:=.ok .fA) (a1g B) hp (hr.mono hn) (ab hq (ab hv ar TH) he) ⟨t,k,rfl,by rw[hk];rfl⟩ hg ck he hpl) hs
def MO{X:Cx}{t:fu}(B:Bx X.prog X.K X.mg X.base Z)(hr:fZ n X.A)(hn:5<=n)(hk:j5 t k=false)(hq:Ev X ρ e (kM Z t))(hv:Ev X ρ e2 (.int k))(hg:Gl X "need_stream":=by rfl)(he:SE X e [e2]:=by rfl)(TH:SE X e2 []:=by rfl)(hpl:ya X jb [e2]:=by rfl)(hs:dj (.Call (.Name "need_stream" np) [e,e2] [] jb) none pos.line X.env=pure false:=by rfl)(hp:Passes (CZ X.prog X.w X.K Z) X E:=by exact ft):Ex X E ρ (.Expr (.Call (.Name "need_stream" np) [e,e2] [] jb) pos) (.exc (-1)):=
 mK (x_call (E:=E) (a1g B) hp (hr.mono hn) (ab hq (ab hv ar TH) he) ⟨t,k,rfl,by rw[hk];rfl⟩ hg ck he hpl) hs
end
def Fn{α β:Type}{l:List α}{g:α->List β}{i:Nat}{x:α}(h:l[i]? =some x):(l.take (i+1)).flatMap g=(l.take i).flatMap g++g x:=by
 rw[take_snoc h,List.flatMap_append,Ez,List.flatMap_nil,dC]
theorem vF{α β:Type}{g:α->List β}{c:Nat}(hg:∀x,(g x).length<=c):∀l:List α,(l.flatMap g).length<=c*l.length
 | []=>by simp
 | x::l=>by
  rw[Ez,aE,ah];have:=hg x;have:=vF hg l;rw[Nat.mul_add];omega
def a4C(B:Bx P K mg base Z):FG P w K mg base (CZ P w K Z) "answer_numbers" 56 (RA Z 5):=by
 refine oR (k:=55) (N:=sg) B.F6 qK ?_;rintro f dw A outer st H E hr args out ⟨t,ns,rs,c,hT,hf,N6,rfl,rfl⟩
 cases hf with
 | numbers k=>
 cases hk:dS k with
 | false=>
  refine⟨.exc (-1),de (ua B hr ck hk (fM (a8 1 rfl) au rfl)),?_⟩;have e:(aw t (.numbers k)).2=[-1]:=by show(if dS k=false then dB t 1 else _).2=_;rw[hk];rfl
  rw[e];rfl
 | true=>
  have hS:=hT.by hk
  generalize ZD:cU t.sheet (bG t k)=nl;have ko:nl.length<=9:=by
   have:=(fw.nO hS.wf).1.len;rw[ZD]at this;have:=hS.nodes;omega
  have e:(aw t (.numbers k)).2=0::nl.flatMap xh:=by show(if dS k=false then dB t 1 else _).2=_;rw[hk,<-ZD];rfl
  rw[e,qO];let I:Nat->br:=fun i=>[.dat (kM Z t),.dat (iD [k]),.dat (.lst []),.own (((nl.take i).flatMap xh).map D.int),.no];have iter:Es (cz P w K mg base Z sg "answer_numbers" lX f dw A outer st H E) (I 0) (gT lX 2) (gE lX 2) (nl.map fun x=>fr (eV x)):=by
   refine Es.eq (kI (dk (dH (Qq B) hr.m (a8 0 rfl) (by rfl) (ab (fM (a8 1 rfl) au rfl) ar) ⟨t,k,hT,hk,rfl,rfl⟩) B.zN (B.GN _ ck) rfl)) ?_;unfold nums;rw[bc,ZD];rfl
  refine⟨.ret (iD (nl.flatMap xh)),ak (qo B hr ck hk (fM (a8 1 rfl) au rfl)) (ak (Co (i:=3) (ds:=[]) qK.nd (j3 rfl) ar) (ak (kP (τ:=.one 4) eC rfl iter (jY qK.nd) I (zc.refl _) nl.length (!1) (fun i d hi hd=>?_) (.inl ⟨by simp,rfl⟩)) ?_)),rfl⟩
  ·obtain⟨x,hx,rfl⟩:=lu hd;refine⟨_,rfl,ia (aK (mX (i:=3) (ds:=[.int (eV x).1,.int (eV x).2]) rfl (a8 4 rfl) (.inr rfl) ?_)) ?_⟩
   ·rw[aa];have:=vF (g:=xh) (c:=2) (fun _=>ao _) (nl.take i);have:=jW i nl;show _+2<=_;omega
   ·show zc _ [.dat (kM Z t),.dat (iD [k]),.dat (.lst []),.own (((nl.take (i+1)).flatMap xh).map D.int),.no];rw[Fn hx,cJ];exact bw (bw (bw (bw (cD gD))))
  ·refine ll (i:=3) (l:=((nl.take nl.length).flatMap xh).map D.int) rfl (aK (cq (Ev.eq (a8 3 rfl) ?_)));rw[gG];rfl
def Th{α:Type}(f:Nat->α)(n:Nat):((ay n).map f).zipIdx=(ay n).map fun i=>(f i,i):=by
 apply fV
 ·rw[bj,aa,aa]
 ·intro i h1 h2;rw[eZ,bK,bK,jd,kf]
def E2(s:cg)(m:aJ)(i:Nat):cE:=(C6 s m i:Int)::xh ((vl s m i).getD aq)
def Ti{n i:Nat}{lo:Int}(h:(D0 lo n)[i]? =some d):i<n/\d= .int (lo+(i:Int)):=by
 unfold D0 at h;obtain⟨x,hx,e⟩:=lu h;have hi:i<n:=by
  by_cases q:i<n
  ·exact q
  ·rw[bT (by simpa using q)]at hx;cases hx
 rw[f6 hi]at hx;cases hx;exact⟨hi,e⟩
def a4D(B:Bx P K mg base Z):FG P w K mg base (CZ P w K Z) "answer_adjust" 56 (RA Z 4):=by
 refine oR (k:=55) (N:=u5) B.GU lZ ?_;rintro f dw A outer st H E hr args out ⟨t,ns,rs,c,hT,hf,N6,rfl,rfl⟩
 cases hf with
 | adjust k=>
 cases hk:dS k with
 | false=>
  refine⟨.exc (-1),de (ua B hr ck hk (fM (a8 1 rfl) au rfl)),?_⟩;have e:(aw t (.adjust k)).2=[-1]:=by show(if dS k=false then dB t 1 else _).2=_;rw[hk];rfl
  rw[e];rfl
 | true=>
  have hS:=hT.by hk
  have qQ:=hT.few;generalize hm:bG t k=m at hS;have e:(aw t (.adjust k)).2=0::(xh (mj t.sheet m)++(ay t.sheet.streams.length).flatMap (E2 t.sheet m)):=by
   show(if dS k=false then dB t 1 else _).2=_;rw[hk];show(0:Int)::(xh (mj t.sheet (bG t k))++(oj t k).zipIdx.flatMap fun x=>(C6 t.sheet (bG t k) x.2:Int)::xh (x.1.getD aq))=_;unfold oj;rw[Th,List.flatMap_map,hm];rfl
  rw[e,qO];generalize hn:t.sheet.streams.length=n at qQ;let L:Nat->cE:=fun i=>xh (mj t.sheet m)++((ay n).take i).flatMap (E2 t.sheet m);have hL:∀i,(L i).length<=2+3*n:=fun i=>by
   show(xh (mj t.sheet m)++((ay n).take i).flatMap (E2 t.sheet m)).length<=_;rw[aE];have h1:=vF (g:=E2 t.sheet m) (c:=3) (fun _=>ao _) ((ay n).take i);have h2:=AU i (ay n);rw[dy]at h2;have h3:(xh (mj t.sheet m)).length=2:=rfl;have h4:3*((ay n).take i).length<=3*n:=BJ _ h2;omega
  let I:Nat->br:=fun i=>[.dat (kM Z t),.dat (iD [k]),.dat (.lst []),.dat (bD Z t.sheet m),.own ((L i).map D.int),.no,.no];have iter:Es (cz P w K mg base Z u5 "answer_adjust" mM f dw A outer st H E) (I 0) (gT mM 3) (gE mM 3) (D0 0 n):=
   Es.eq (uU (j:=(n:Int)) B.range (Ev.eq (i9 B.len (dk (a8 0 rfl) B.Hk (B.N3 _ ck) (CA t))) (by rw[aa,hn])) (!0) (!0)) (by rw[bH])
  refine⟨.ret (iD (L n)),ak (qo B hr ck hk (fM (a8 1 rfl) au rfl)) (ak (bW (i:=3) (d:=bD Z t.sheet m) lZ.nd (dH (Qq B) hr.m (a8 0 rfl) (by rfl) (ab (fM (a8 1 rfl) au rfl) ar) ⟨t,k,hT,hk,rfl,by rw[hm]⟩)) (ak (Iu (i:=4) (ds:=(xh (mj t.sheet m)).map D.int) lZ.nd (j3 rfl) B.list (Ev.eq (ju (a0N B.toBs) hr.m (a8 3 rfl) (by rfl) ⟨_,_,rfl,hS,rfl⟩) (by rw[Qr hS];rfl)) (.inr rfl)) (ak (kP (τ:=.one 5) eC rfl iter (jY lZ.nd) I ?_ n (by unfold D0;simp) (fun i d hi hd=>?_) (.inl ⟨by unfold D0;simp,rfl⟩)) ?_))),?_⟩
  ·show zc _ [.dat (kM Z t),.dat (iD [k]),.dat (.lst []),.dat (bD Z t.sheet m),.own ((L 0).map D.int),.no,.no];rw[show L 0=xh (mj t.sheet m)from dC _];exact zc.refl _
  ·obtain⟨_,rfl⟩:=Ti hd;have Ze:=Gi hS (show i<t.sheet.streams.length by omega);have hLi:=hL i;refine⟨_,rfl,ia (ak (bW (i:=6) (d:=sfD (C6 t.sheet m i,eV ((vl t.sheet m i).getD aq))) lZ.nd (Ev.eq (dH (a48 B.toBs) hr.m (a8 3 rfl) (by rfl) (ab (Ev.eq (a8 5 rfl) (by rw[Ep];rfl)) ar) ⟨_,_,i,rfl,hS,by omega,rfl⟩) (by rw[Ze])))
    (ak (uV (i:=4) rfl (gC (a8 6 rfl) au rfl) (by rw[aa];omega)) (aK (mX (i:=4) (ds:=(xh ((vl t.sheet m i).getD aq)).map D.int) rfl (gC (a8 6 rfl) au rfl) (.inr rfl) ?_)))) ?_⟩
   ·rw[aE,aa,aa];show _+1+2<=_;omega
   ·have e1:L (i+1)=L i++E2 t.sheet m i:=by
     show xh (mj t.sheet m)++((ay n).take (i+1)).flatMap (E2 t.sheet m)=xh (mj t.sheet m)++((ay n).take i).flatMap (E2 t.sheet m)++E2 t.sheet m i;rw[Fn (x:=i) (f6 (!0)),gU]
    show zc _ [.dat (kM Z t),.dat (iD [k]),.dat (.lst []),.dat (bD Z t.sheet m),.own ((L (i+1)).map D.int),.no,.no];have e2:(L (i+1)).map D.int=(L i).map D.int++[nI (C6 t.sheet m i)]++(xh ((vl t.sheet m i).getD aq)).map D.int:=by
     rw[e1];generalize L i=q;rw[cJ,gU];rfl
    rw[e2];exact bw (bw (bw (bw (bw (cD (cD gD))))))
  ·exact ll (i:=4) (l:=(L n).map D.int) rfl (aK (cq (a8 4 rfl)))
  ·have:L n=xh (mj t.sheet m)++(ay n).flatMap (E2 t.sheet m):=by
    show _++((ay n).take n).flatMap _=_;rw[fH (!1)]
   rw[this];rfl
def sj(y:a5a×Option (Int×Nat)):cE:=[(y.1.src:Int),(y.1.dst:Int)]++match y.2 with
 | some (v,w)=>[1,v,(w:Int)]
 | none=>[0,0,0]
def We:Option (Int×Nat)->cE
 | some (v,w)=>[1,v,(w:Int)]
 | none=>[0,0,0]
def a4E(B:Bx P K mg base Z):FG P w K mg base (CZ P w K Z) "answer_told" 56 (RA Z 12):=by
 refine oR (k:=55) (N:=wV) B.Kd vC ?_;rintro f dw A outer st H E hr args out ⟨t,ns,rs,c,hT,hf,N6,rfl,rfl⟩
 cases hf with
 | told k=>
 cases hk:dS k with
 | false=>
  refine⟨.exc (-1),de (ua B hr ck hk (fM (a8 1 rfl) au rfl)),?_⟩;have e:(aw t (.told k)).2=[-1]:=by show(if dS k=false then dB t 1 else _).2=_;rw[hk];rfl
  rw[e];rfl
 | true=>
  have hS:=hT.by hk
  have qQ:=hT.few;have TN:=hS.Ms;generalize hm:bG t k=m at hS TN;generalize TF:t.sheet.streams.zip m=zl;have e:(aw t (.told k)).2=0::((t.sheet.streams.length:Int)::zl.flatMap sj):=by
   show(if dS k=false then dB t 1 else _).2=_;rw[hk];show(0:Int)::((t.sheet.streams.length:Int)::t.sheet.streams.zipIdx.flatMap fun x=>sj (x.1,bx (bG t k) x.2))=_;rw[hm,<-TF,FE,FE,fw.Hd TN fun a b=>sj (a,b)]
  rw[e,qO];have hzn:zl.length<=12:=by rw[<-TF,cI];omega
  let L:Nat->cE:=fun i=>(t.sheet.streams.length:Int)::(zl.take i).flatMap sj;have hta:∀y,(sj y).length<=5:=fun y=>by
   obtain⟨a,o⟩:=y
   cases o<;>exact ao _
  have hL:∀i,(L i).length<=1+5*12:=fun i=>by
   show((t.sheet.streams.length:Int)::(zl.take i).flatMap sj).length<=_;rw[ah];have h1:=vF (g:=sj) (c:=5) hta (zl.take i);have h2:=AU i zl;have h4:5*(zl.take i).length<=5*12:=BJ _ (!0);omega
  let I:Nat->br:=fun i=>[.dat (kM Z t),.dat (iD [k]),.dat (.lst []),.own ((L i).map D.int),.no,.no];have iter:Es (cz P w K mg base Z wV "answer_told" p0 f dw A outer st H E) (I 0) (gT p0 2) (gE p0 2) (zl.map fun y=>D.tup [pD (bB y.1),kD y.2]):=by
   refine Es.eq (Ir B.zip (ju (RR B) hr.m (a8 0 rfl) (by rfl) ⟨t,hT,rfl,rfl⟩) (dH (W7 B) hr.m (a8 0 rfl) (by rfl) (ab (fM (a8 1 rfl) au rfl) ar) ⟨t,k,hT,hk,rfl,rfl⟩)) ?_;unfold O1 EN;rw[hm,bc,yL,bc,TF];rfl
  refine⟨.ret (iD (L zl.length)),ak (qo B hr ck hk (fM (a8 1 rfl) au rfl)) (ak (Co (i:=3) (ds:=[.int (t.sheet.streams.length:Int)]) vC.nd (j3 rfl) (ab (Ev.eq (i9 B.len (dk (a8 0 rfl) B.Hk (B.N3 _ ck) (CA t))) (by rw[aa])) ar)) (ak (kP (τ:=.many [4,5]) eC rfl iter (pQ rfl vC.nd) I (zc.refl _) zl.length (!1) (fun i d hi hd=>?_) (.inl ⟨by simp,rfl⟩)) ?_)),?_⟩
  ·obtain⟨y,hy,rfl⟩:=lu hd;have hLi:=hL i;have e1:L (i+1)=L i++sj y:=by
    show(t.sheet.streams.length:Int)::(zl.take (i+1)).flatMap sj=(t.sheet.streams.length:Int)::(zl.take i).flatMap sj++sj y;rw[Fn hy];rfl
   refine⟨_,rfl,ia (ak (mX (i:=3) (ds:=[nI y.1.src,nI y.1.dst]) rfl (a8 4 rfl) (.inr rfl) (by rw[aa];show _+2<=_;omega)) (aK (mX (i:=3) (ds:=(We y.2).map D.int) rfl (Dx (lD (a8 5 rfl)) (fun h=>?_) (fun h=>?_)) (.inl rfl) ?_))) ?_⟩
   ·obtain⟨a,o⟩:=y
    cases o with
    | none=>exact pP (ab au (ab au (ab au ar)))
    | some u=>cases h
   ·obtain⟨a,o⟩:=y
    cases o with
    | none=>cases h
    | some u=>exact pP (ab au (ab (gC (a8 5 rfl) au rfl) (ab (gC (a8 5 rfl) au rfl) ar)))
   ·rw[aE,aa,aa]
    have:(We y.2).length=3:=by cases y.2<;>rfl
    show _+2+_<=_;omega
   ·show zc _ [.dat (kM Z t),.dat (iD [k]),.dat (.lst []),.own ((L (i+1)).map D.int),.no,.no];have e2:(L (i+1)).map D.int=(L i).map D.int++[nI y.1.src,nI y.1.dst]++(We y.2).map D.int:=by
     rw[e1];generalize L i=q;rw[cJ,gU];obtain⟨a,o⟩:=y
     cases o<;>rfl
    rw[e2];exact bw (bw (bw (bw (cD (cD gD)))))
  ·exact ll (i:=3) (l:=(L zl.length).map D.int) rfl (aK (cq (a8 3 rfl)))
  ·have:L zl.length=(t.sheet.streams.length:Int)::zl.flatMap sj:=by
    show(t.sheet.streams.length:Int)::(zl.take zl.length).flatMap sj=_;rw[gG]
   rw[this];rfl
def a4F(B:Bx P K mg base Z):FG P w K mg base (CZ P w K Z) "answer_imbalance" 56 (RA Z 7):=by
 refine oR (k:=55) (N:=pU) B.Cu lQ ?_;rintro f dw A outer st H E hr args out ⟨t,ns,rs,c,hT,hf,N6,rfl,rfl⟩
 cases hf with
 | imbalance k=>
 cases hk:dS k with
 | false=>
  refine⟨.exc (-1),de (ua B hr ck hk (fM (a8 1 rfl) au rfl)),?_⟩;have e:(aw t (.imbalance k)).2=[-1]:=by show(if dS k=false then dB t 1 else _).2=_;rw[hk];rfl
  rw[e];rfl
 | true=>
  have hS:=hT.by hk
  have qQ:=hT.few;generalize hm:bG t k=m at hS;have e:(aw t (.imbalance k)).2=0::(ay t.sheet.nodes.length).map fun v=>DP (v+1) (P6 (EN t.sheet) m):=by
   show(if dS k=false then dB t 1 else _).2=_;rw[hk];show(0:Int)::(ay t.sheet.nodes.length).map (fun v=>(jD t.sheet [v+1] ((ay t.sheet.streams.length).map (shown (bG t k)))).num)=_;rw[hm];congr 1;refine jU fun v _=>?_;rw[a4B hS v]
  rw[e,qO];generalize hn:t.sheet.nodes.length=n at qQ;have hll:(P6 (EN t.sheet) m).length<=1000:=by
   unfold P6;refine bq (lK _ _) (yz ?_);unfold EN;rw[aa];omega
  refine⟨.ret (iD ((ay n).map fun v=>DP (v+1) (P6 (EN t.sheet) m))),ak (qo B hr ck hk (fM (a8 1 rfl) au rfl)) (ak (bW (i:=3) (d:=Mq (P6 (EN t.sheet) m)) lQ.nd (c7 (a2l B.toBs) hr.m (ab (ju (RR B) hr.m (a8 0 rfl) (by rfl) ⟨t,hT,rfl,rfl⟩) (ab (dH (W7 B) hr.m (a8 0 rfl) (by rfl) (ab (fM (a8 1 rfl) au rfl) ar) ⟨t,k,hT,hk,rfl,rfl⟩) ar)) ⟨EN t.sheet,m,by rw[hm],by unfold EN;rw[aa];omega,rfl⟩)) (aK (cq (Ev.eq (vk (τ:=.one 4) (own:=[("node",4)]) (l:=ay n) (g:=fun(i:Nat)=>D.int (1+(i:Int))) (h:=fun i=>.int (DP (i+1) (P6 (EN t.sheet) m))) rfl lQ.nd (Es.eq (EU (i:=1) (j:=((n+1:Nat):Int)) B.range au (Ev.eq (i9 B.len (dk (a8 0 rfl) B.Hk (B.N3 _ ck) (Fk t))) (by rw[aa,ah,hn])) (!0)) (by rw[show(((n+1:Nat):Int)-1).toNat=n by omega];rfl)) (iI (N:=pU) (sc:=aj pS) (by decide+kernel)) (fun s H C cl fp=>jY lQ.nd) (fun i h=>h) (by rw[dy];omega)
   (fun x hx=>⟨_,rfl,fun s H C cl fp=>c7 (Zb B.toBs) hr.m (ab (Ev.eq (a8 4 rfl) (show D.int (1+(x:Int))=nI (x+1) by unfold nI;congr 1;omega)) (ab (a8 3 rfl) ar)) ⟨_,_,rfl,hll,rfl⟩⟩)) ?_)))),rfl⟩
  unfold iD;rw[bc];rfl
def a4G(B:Bx P K mg base Z):FG P w K mg base (CZ P w K Z) "answer_suspect" 56 (RA Z 9):=by
 refine oR (k:=55) (N:=oA) B.F8 wz ?_;rintro f dw A outer st H E hr args out ⟨t,ns,rs,c,hT,hf,N6,rfl,rfl⟩
 cases hf with
 | suspect k=>
 cases hk:dS k with
 | false=>
  refine⟨.exc (-1),de (ua B hr ck hk (fM (a8 1 rfl) au rfl)),?_⟩;have e:(aw t (.suspect k)).2=[-1]:=by show(if dS k=false then dB t 1 else _).2=_;rw[hk];rfl
  rw[e];rfl
 | true=>
  have hS:=hT.by hk
  generalize hm:bG t k=m at hS
  have e:(aw t (.suspect k)).2=0::(match mn t.sheet m with
    | none=>[0]
    | some x=>[(x.1:Int)+1]++xh x.2):=by
   show(if dS k=false then dB t 1 else _).2=_;rw[hk]
   show(match mn t.sheet (bG t k)with
    | none=>pZ t [0]
    | some x=>pZ t ([(x.1:Int)+1]++xh x.2)).2=_
   rw[hm]
   cases mn t.sheet m<;>rfl
  rw[e,qO];have hb:Ex (cz P w K mg base Z oA "answer_suspect" ou f dw A outer st H E) E (fN oA [kM Z t,iD [k],.lst []]) ((aX ou).getD 1 (.Pass ⟨0,0,0,0⟩)) (.next [.dat (kM Z t),.dat (iD [k]),.dat (.lst []),.dat (Ge ((mn t.sheet m).map W8))]):=
   bW (i:=3) wz.nd (Ev.eq (c7 (a2v B.toBs) hr.m (ab (dH (Qq B) hr.m (a8 0 rfl) (by rfl) (ab (fM (a8 1 rfl) au rfl) ar) ⟨t,k,hT,hk,rfl,by rw[hm]⟩) ar) ⟨_,_,rfl,hS,rfl⟩) (by rw[W9 hS]))
  cases hs:mn t.sheet m with
  | none=>
   rw[hs]at hb;exact⟨.ret (iD [0]),ak (qo B hr ck hk (fM (a8 1 rfl) au rfl)) (ak hb (de (gq (lD (a8 3 rfl)) (fun _=>aK (cq (pP (ab au ar)))) (fun h=>by cases h)))),rfl⟩
  | some x=>
   rw[hs]at hb;exact⟨.ret (iD ([(x.1:Int)+1]++xh x.2)),ak (qo B hr ck hk (fM (a8 1 rfl) au rfl)) (ak hb (ak (gq (lD (a8 3 rfl)) (fun h=>by cases h) (fun _=>iA)) (aK (cq (Cm (ds:=[.int ((x.1:Int)+1)]) (es:=(xh x.2).map D.int) (pP (ab (wQ (gC (a8 3 rfl) au rfl) au) ar)) (B7 B.list (gC (a8 3 rfl) au rfl) (.inr rfl)) (by show 1+2<=_;decide)))))),rfl⟩
def Wf(o:Option iO):bM:=(rf o).map D.int
def a4H(B:Bx P K mg base Z):FG P w K mg base (CZ P w K Z) "answer_without" 56 (RA Z 8):=by
 refine oR (k:=55) (N:=oz) B.F7 jN ?_;rintro f dw A outer st H E hr args out ⟨t,ns,rs,c,hT,hf,N6,rfl,rfl⟩;let Xc:=cz P w K mg base Z oz "answer_without" iq f dw A outer st H E
 cases hf with
 | without k i=>
 cases hk:dS k with
 | false=>
  refine⟨.exc (-1),de (ua B hr ck hk (fM (a8 1 rfl) au rfl)),?_⟩;have e:(aw t (.without k i)).2=[-1]:=by show(if(dS k && j5 t i)=false then dB t 1 else _).2=_;rw[hk];rfl
  rw[e];rfl
 | true=>
 cases hi:j5 t i with
 | false=>
  refine⟨.exc (-1),ak (qo B hr ck hk (fM (a8 1 rfl) au rfl)) (de (MO B hr ck hi (a8 0 rfl) (fM (a8 1 rfl) au rfl))),?_⟩;have e:(aw t (.without k i)).2=[-1]:=by show(if(dS k && j5 t i)=false then dB t 1 else _).2=_;rw[hk,hi];rfl
  rw[e];rfl
 | true=>
  have ZA:=Bk hi;have hS:=hT.by hk
  generalize hm:bG t k=m at hS;generalize hj:i.toNat-1=j;have OU:j<t.sheet.streams.length:=!0
  have hS':=hS.less j;generalize hm':jr m j=m' at hS';have e:(aw t (.without k i)).2=0::(rf (vl t.sheet m' j)++xh (mj t.sheet m')):=by
   show(if(dS k && j5 t i)=false then dB t 1 else _).2=_;rw[hk,hi,<-hm',<-hm,<-hj];rfl
  rw[e,qO];have h1:Ex Xc E (fN oz [kM Z t,iD [k,i],.lst []]) ((aX iq).getD 2 (.Pass ⟨0,0,0,0⟩)) (.next [.dat (kM Z t),.dat (iD [k,i]),.dat (.lst []),.dat (nI j),.no,.no,.no]):=
   bW (i:=3) jN.nd (Ev.eq (rR (fM (a8 1 rfl) au rfl) au) (by unfold nI;congr 1;omega))
  have h2:Ex Xc E [.dat (kM Z t),.dat (iD [k,i]),.dat (.lst []),.dat (nI j),.no,.no,.no] ((aX iq).getD 3 (.Pass ⟨0,0,0,0⟩)) (.next [.dat (kM Z t),.dat (iD [k,i]),.dat (.lst []),.dat (nI j),.dat (bD Z t.sheet m'),.no,.no]):=
   bW (i:=4) jN.nd (dH (a2r B.toBs) hr.m (dH (Qq B) hr.m (a8 0 rfl) (by rfl) (ab (fM (a8 1 rfl) au rfl) ar) ⟨t,k,hT,hk,rfl,by rw[hm];rfl⟩) (by rfl) (ab (a8 3 rfl) ar) ⟨t.sheet,m,j,rfl,hS,OU,by rw[hm']⟩)
  have h3:Ex Xc E [.dat (kM Z t),.dat (iD [k,i]),.dat (.lst []),.dat (nI j),.dat (bD Z t.sheet m'),.no,.no] ((aX iq).getD 4 (.Pass ⟨0,0,0,0⟩)) (.next [.dat (kM Z t),.dat (iD [k,i]),.dat (.lst []),.dat (nI j),.dat (bD Z t.sheet m'),.dat (oD ((vl t.sheet m' j).map eV)),.no]):=
   bW (i:=5) jN.nd (Ev.eq (dH (SU B.toBs) hr.m (a8 4 rfl) (by rfl) (ab (a8 3 rfl) ar) ⟨t.sheet,m',j,rfl,hS',OU,rfl⟩) (by rw[tQ hS' OU]))
  have h4:Ex Xc E [.dat (kM Z t),.dat (iD [k,i]),.dat (.lst []),.dat (nI j),.dat (bD Z t.sheet m'),.dat (oD ((vl t.sheet m' j).map eV)),.no] ((aX iq).getD 5 (.Pass ⟨0,0,0,0⟩)) (.next [.dat (kM Z t),.dat (iD [k,i]),.dat (.lst []),.dat (nI j),.dat (bD Z t.sheet m'),.dat (oD ((vl t.sheet m' j).map eV)),.dat (.lst (Wf (vl t.sheet m' j)))]):=by
   cases hv:vl t.sheet m' j with
   | none=>exact bW (i:=6) jN.nd (Dx (lD (a8 5 rfl)) (fun _=>pP (ab au (ab au (ab au ar)))) (fun h=>by cases h))
   | some q=>exact bW (i:=6) jN.nd (Dx (lD (a8 5 rfl)) (fun h=>by cases h) (fun _=>Cm (ds:=[.int 1]) (es:=(xh q).map D.int) (pP (ab au ar)) (B7 B.list (a8 5 rfl) (.inr rfl)) (by show 1+2<=_;decide)))
  have h5:Ex Xc E [.dat (kM Z t),.dat (iD [k,i]),.dat (.lst []),.dat (nI j),.dat (bD Z t.sheet m'),.dat (oD ((vl t.sheet m' j).map eV)),.dat (.lst (Wf (vl t.sheet m' j)))] ((aX iq).getD 6 (.Pass ⟨0,0,0,0⟩)) (.ret (iD (rf (vl t.sheet m' j)++xh (mj t.sheet m')))):=
   cq (Ev.eq (Cm (ds:=Wf (vl t.sheet m' j)) (es:=(xh (mj t.sheet m')).map D.int) (a8 6 rfl) (B7 B.list (Ev.eq (ju (a0N B.toBs) hr.m (a8 4 rfl) (by rfl) ⟨_,_,rfl,hS',rfl⟩) (by rw[Qr hS'];rfl)) (.inr rfl)) (by
    unfold Wf;rw[aa]
    cases vl t.sheet m' j<;>(show 3+2<=_;decide))) (by unfold Wf iD;rw[cJ]))
  exact⟨.ret (iD (rf (vl t.sheet m' j)++xh (mj t.sheet m'))),ak (qo B hr ck hk (fM (a8 1 rfl) au rfl)) (ak (OQ B hr ck hi (a8 0 rfl) (fM (a8 1 rfl) au rfl)) (ak h1 (ak h2 (ak h3 (ak h4 (aK h5)))))),rfl⟩
def Wg(o:Option iO):SH (oD (o.map eV))=o.isNone:=by cases o<;>rfl
def a1i:Option iO->Bool
 | none=>true
 | some b=>fW b
def a3b(B:Bx P K mg base Z):FG P w K mg base (CZ P w K Z) "answer_share" 56 (RA Z 11):=by
 refine oR (k:=55) (N:=ku) B.J0 u6 ?_;rintro f dw A outer st H E hr args out ⟨t,ns,rs,c,hT,hf,N6,rfl,rfl⟩;let Xc:=cz P w K mg base Z ku "answer_share" hW f dw A outer st H E;obtain⟨aN,Ke,Mr⟩:=B.nothing
 cases hf with
 | share k h i=>
 cases hk:dS k with
 | false=>
  refine⟨.exc (-1),de (ua B hr ck hk (fM (a8 1 rfl) au rfl)),?_⟩;have e:(aw t (.share k h i)).2=[-1]:=by show(if(dS k && (dS h && j5 t i))=false then dB t 1 else _).2=_;rw[hk];rfl
  rw[e];rfl
 | true=>
 cases hh:dS h with
 | false=>
  refine⟨.exc (-1),ak (qo B hr ck hk (fM (a8 1 rfl) au rfl)) (de (ua B hr ck hh (fM (a8 1 rfl) au rfl))),?_⟩;have e:(aw t (.share k h i)).2=[-1]:=by show(if(dS k && (dS h && j5 t i))=false then dB t 1 else _).2=_;rw[hk,hh];rfl
  rw[e];rfl
 | true=>
 have pre:∀{oc:Oc},wM Xc E (fN ku [kM Z t,iD [k,h,i],.lst []]) ((aX hW).drop 2) oc->wM Xc E (fN ku [kM Z t,iD [k,h,i],.lst []]) (aX hW) oc:=fun kN=>
  ak (qo B hr ck hk (fM (a8 1 rfl) au rfl)) (ak (qo B hr ck hh (fM (a8 1 rfl) au rfl)) kN)
 cases hi:j5 t i with
 | false=>
  refine⟨.exc (-1),pre (de (MO B hr ck hi (a8 0 rfl) (fM (a8 1 rfl) au rfl))),?_⟩;have e:(aw t (.share k h i)).2=[-1]:=by show(if(dS k && (dS h && j5 t i))=false then dB t 1 else _).2=_;rw[hk,hh,hi];rfl
  rw[e];rfl
 | true=>
  have ZA:=Bk hi;have hSa:=hT.by hk
  have hSb:=hT.by hh
  generalize hma:bG t k=ma at hSa;generalize hmb:bG t h=mb at hSb;generalize hj:i.toNat-1=j;have OU:j<t.sheet.streams.length:=!0
  have Yx:∀{k:Int} {m:aJ},bG t k=m->(oj t k).getD (i.toNat-1) none=vl t.sheet m j:=fun {k m} hm=>by
   unfold oj;rw[hj,hm,ax,aC,f6 OU];rfl
  have e:(aw t (.share k h i)).2=(match vl t.sheet ma j,vl t.sheet mb j with
   | some a,some b=>if fW b=true then dB t 2 else pZ t (xh (iV a b))
   | _,_=>dB t 2).2:=by
   show(if(dS k && (dS h && j5 t i))=false then dB t 1 else(match(oj t k).getD (i.toNat-1) none,(oj t h).getD (i.toNat-1) none with
   | some a,some b=>if fW b=true then dB t 2 else pZ t (xh (iV a b))
   | _,_=>dB t 2)).2=_
   rw[hk,hh,hi,Yx hma,Yx hmb];rfl
  rw[e];have okA:∀a,vl t.sheet ma j=some a->Good a/\iB 3000000 (eV a):=fun a ha=>⟨ML hSa OU ha,DQ hSa OU (by rw[tQ hSa OU,ha];rfl)⟩;have okB:∀a,vl t.sheet mb j=some a->Good a/\iB 3000000 (eV a):=fun a ha=>⟨ML hSb OU ha,DQ hSb OU (by rw[tQ hSb OU,ha];rfl)⟩;have fa:=tQ hSa OU;have fb:=tQ hSb OU;generalize vl t.sheet ma j=va at fa okA;generalize vl t.sheet mb j=vb at fb okB;have ha:Ex Xc E (fN ku [kM Z t,iD [k,h,i],.lst []]) ((aX hW).getD 3 (.Pass ⟨0,0,0,0⟩)) (.next [.dat (kM Z t),.dat (iD [k,h,i]),.dat (.lst []),.dat (oD (va.map eV)),.no]):=
   bW (i:=3) u6.nd (Ev.eq (dH (SU B.toBs) hr.m (dH (Qq B) hr.m (a8 0 rfl) (by rfl) (ab (fM (a8 1 rfl) au rfl) ar) ⟨t,k,hT,hk,rfl,by rw[hma];rfl⟩) (by rfl) (ab (Ev.eq (rR (fM (a8 1 rfl) au rfl) au) (show _=nI j by unfold nI;congr 1;omega)) ar) ⟨t.sheet,ma,j,rfl,hSa,OU,rfl⟩) (by rw[fa]))
  have hb:Ex Xc E [.dat (kM Z t),.dat (iD [k,h,i]),.dat (.lst []),.dat (oD (va.map eV)),.no] ((aX hW).getD 4 (.Pass ⟨0,0,0,0⟩)) (.next [.dat (kM Z t),.dat (iD [k,h,i]),.dat (.lst []),.dat (oD (va.map eV)),.dat (oD (vb.map eV))]):=
   bW (i:=4) u6.nd (Ev.eq (dH (SU B.toBs) hr.m (dH (Qq B) hr.m (a8 0 rfl) (by rfl) (ab (fM (a8 1 rfl) au rfl) ar) ⟨t,h,hT,hh,rfl,by rw[hmb];rfl⟩) (by rfl) (ab (Ev.eq (rR (fM (a8 1 rfl) au rfl) au) (show _=nI j by unfold nI;congr 1;omega)) ar) ⟨t.sheet,mb,j,rfl,hSb,OU,rfl⟩) (by rw[fb]))
  have P8:Et Xc [.dat (kM Z t),.dat (iD [k,h,i]),.dat (.lst []),.dat (oD (va.map eV)),.dat (oD (vb.map eV))] (gE hW 5) (va.isNone || vb.isNone || a1i vb):=by
   refine a0x (Et.eq (lD (a8 3 rfl)) (Wg va)) (fun _=>Et.eq (lD (a8 4 rfl)) (Wg vb)) (fun _ h2=>?_)
   cases vb with
   | none=>cases h2
   | some b=>
    refine Et.eq (a0s (l:=[(eV b).1,(eV b).2]) (m:=[0,1]) hr (a8 4 rfl) (pF (v:=.ref aN) Ke rfl Mr)) ?_;rw[f9,decide_eq_true_iff];show _↔fW b=true;rw[fw.HM (okB b rfl).1];constructor
    ·intro q;simp only[zv,and_true]at q;exact Prod.ext q.1 q.2
    ·intro q;rw[q]
  have go:∀{oc:Oc},Ex Xc E [.dat (kM Z t),.dat (iD [k,h,i]),.dat (.lst []),.dat (oD (va.map eV)),.dat (oD (vb.map eV))] ((aX hW).getD 5 (.Pass ⟨0,0,0,0⟩)) (.exc (-2))->wM Xc E (fN ku [kM Z t,iD [k,h,i],.lst []]) (aX hW) (.exc (-2)):=fun {oc} hx=>
   pre (ak (OQ B hr ck hi (a8 0 rfl) (fM (a8 1 rfl) au rfl)) (ak ha (ak hb (de hx))))
  cases va with
  | none=>
   refine⟨.exc (-2),go (oc:=.exc 0) (gq P8 (fun _=>aK (Qh B hr.m)) (fun q=>by cases q)),rfl⟩
  | some a=>
  cases vb with
  | none=>
   refine⟨.exc (-2),go (oc:=.exc 0) (gq P8 (fun _=>aK (Qh B hr.m)) (fun q=>by cases q)),rfl⟩
  | some b=>
   cases hz:fW b with
   | true=>
    refine⟨.exc (-2),go (oc:=.exc 0) (gq P8 (fun _=>aK (Qh B hr.m)) (fun q=>?_)),?_⟩
    ·rw[show a1i (some b)=true from hz]at q;cases q
    ·show Dl.Fin _ (Wd (if fW b=true then dB t 2 else pZ t (xh (iV a b))).2);rw[hz];rfl
   | false=>
    have hz':b.num≠0:=by
     unfold fW at hz;simpa using hz
    refine⟨.ret (iD (xh (iV a b))),pre (ak (OQ B hr ck hi (a8 0 rfl) (fM (a8 1 rfl) au rfl)) (ak ha (ak hb (ak (gq P8 (fun q=>?_) (fun _=>iA)) (aK (cq (B7 (ds:=(xh (iV a b)).map D.int) B.list (Ev.eq (c7 (a0J B.toBs) hr.m (ab (a8 3 rfl) (ab (a8 4 rfl) ar)) ⟨eV a,eV b,3000000,3000000,rfl,(okA a rfl).2,(okB b rfl).2,hz',by decide,rfl⟩) (by rw[a39 (okA a rfl).1 (okB b rfl).1 hz'];rfl)) (.inr rfl)))))))),?_⟩
    ·rw[show a1i (some b)=false from hz]at q;cases q
    ·show Dl.Fin _ (Wd (if fW b=true then dB t 2 else pZ t (xh (iV a b))).2);rw[hz];rfl
def Wh{n:Nat}{row:cE}(h:xR n row=true):(∀x∈(eG row).map eV,iB 50 x)/\(∀q∈eG row,Good q)/\(eG row).length=n:=by
 obtain⟨g1,g2⟩:=fw.HN h;refine⟨?_,g1,g2⟩;rw[Gh,c8,decide_eq_true_iff,cp]at h;obtain⟨h1,h2⟩:=h;have hb:∀i,i<n->Bd 50 (K0 row i)/\Bd 50 (Gg row i)/\1<=Gg row i:=fun i hi=>by
  have:=h2 i (by simpa using hi);unfold WL gH at this;simp only[c8,decide_eq_true_iff]at this;obtain⟨⟨a1,a2⟩,a3,a4⟩:=this;unfold Bd;have:(2:Nat)^50=1125899906842624:=by decide
  omega
 rw[CB n row h1 fun i hi=>(hb i hi).2.2];intro x hx;obtain⟨i,hi,rfl⟩:=aZ.mp hx;obtain⟨b1,b2,b3⟩:=hb i (by simpa using hi);exact Fb b1 b2 (!0)
def a1j(b:Bool):Int:=if b=true then 1 else 0
def a4I(B:Bx P K mg base Z):FG P w K mg base (CZ P w K Z) "answer_check" 56 (RA Z 6):=by
 refine oR (k:=55) (N:=o4) B.IZ kX ?_;rintro f dw A outer st H E hr args out ⟨t,ns,rs,c,hT,hf,N6,rfl,rfl⟩;let Xc:=cz P w K mg base Z o4 "answer_check" jw f dw A outer st H E;have qQ:=hT.few
 cases hf with
 | check k x p=>
 have Z8:=N6 x (!1);have Qy:=N6 p (!1)
 cases hk:dS k with
 | false=>
  refine⟨.exc (-1),de (ua B hr ck hk (fM (a8 1 rfl) au rfl)),?_⟩;have e:(aw t (.check k x p)).2=[-1]:=by show(if(dS k && (xR t.sheet.streams.length x && xR (t.sheet.nodes.length+1) p))=false then dB t 1 else _).2=_;rw[hk];rfl
  rw[e];rfl
 | true=>
 have DZ:∀o,RFI [iD x,nI t.sheet.streams.length] o->NZ Xc E (fN o4 [kM Z t,iD [k],.lst [iD x,iD p]]) (gE jw 1) o:=fun o ho=>
  x_call (a37 B) ft hr.m (ab (fM (a8 2 rfl) au rfl) (ab (Ev.eq (i9 B.len (dk (a8 0 rfl) B.Hk (B.N3 _ ck) (CA t))) (show _=nI t.sheet.streams.length by rw[aa];rfl)) ar)) ho
 cases h1:xR t.sheet.streams.length x with
 | false=>
  refine⟨.exc (-1),ak (qo B hr ck hk (fM (a8 1 rfl) au rfl)) (de (Mc (i:=3) kX.nd (DZ (.exc (-1)) ⟨x,_,Z8,by omega,rfl,by rw[h1];rfl⟩))),?_⟩;have e:(aw t (.check k x p)).2=[-1]:=by show(if(dS k && (xR t.sheet.streams.length x && xR (t.sheet.nodes.length+1) p))=false then dB t 1 else _).2=_;rw[hk,h1];rfl
  rw[e];rfl
 | true=>
 have s1:Ex Xc E (fN o4 [kM Z t,iD [k],.lst [iD x,iD p]]) ((aX jw).getD 1 (.Pass ⟨0,0,0,0⟩)) (.next [.dat (kM Z t),.dat (iD [k]),.dat (.lst [iD x,iD p]),.dat (Gf ((eG x).map eV)),.no,.no]):=
  bW (i:=3) kX.nd (DZ (.ok (Gf ((eG x).map eV))) ⟨x,_,Z8,by omega,rfl,by rw[h1];rfl⟩)
 have OY:∀o,RFI [iD p,nI (t.sheet.nodes.length+1)] o->NZ Xc E [.dat (kM Z t),.dat (iD [k]),.dat (.lst [iD x,iD p]),.dat (Gf ((eG x).map eV)),.no,.no] (gE jw 2) o:=fun o ho=>
  x_call (a37 B) ft hr.m (ab (fM (a8 2 rfl) au rfl) (ab (Ev.eq (i9 B.len (dk (a8 0 rfl) B.Hk (B.N3 _ ck) (Fk t))) (show _=nI (t.sheet.nodes.length+1) by rw[aa];rfl)) ar)) ho
 cases h2:xR (t.sheet.nodes.length+1) p with
 | false=>
  refine⟨.exc (-1),ak (qo B hr ck hk (fM (a8 1 rfl) au rfl)) (ak s1 (de (Mc (i:=4) kX.nd (OY (.exc (-1)) ⟨p,_,Qy,by omega,rfl,by rw[h2];rfl⟩)))),?_⟩;have e:(aw t (.check k x p)).2=[-1]:=by show(if(dS k && (xR t.sheet.streams.length x && xR (t.sheet.nodes.length+1) p))=false then dB t 1 else _).2=_;rw[hk,h1,h2];rfl
  rw[e];rfl
 | true=>
 have s2:Ex Xc E [.dat (kM Z t),.dat (iD [k]),.dat (.lst [iD x,iD p]),.dat (Gf ((eG x).map eV)),.no,.no] ((aX jw).getD 2 (.Pass ⟨0,0,0,0⟩)) (.next [.dat (kM Z t),.dat (iD [k]),.dat (.lst [iD x,iD p]),.dat (Gf ((eG x).map eV)),.dat (Gf ((eG p).map eV)),.no]):=
  bW (i:=4) kX.nd (OY (.ok (Gf ((eG p).map eV))) ⟨p,_,Qy,by omega,rfl,by rw[h2];rfl⟩)
 have hS:=hT.by hk
 have TN:=hS.Ms;generalize hm:bG t k=m at hS TN;obtain⟨x1,x2,x3⟩:=Wh h1;obtain⟨p1,p2,p3⟩:=Wh h2;have e:(aw t (.check k x p)).2=0::[a1j (ph t.sheet m (eG x) (eG p))]:=by
  show(if(dS k && (xR t.sheet.streams.length x && xR (t.sheet.nodes.length+1) p))=false then dB t 1 else _).2=_;rw[hk,h1,h2,<-hm];rfl
 rw[e,qO];have s3:Ex Xc E [.dat (kM Z t),.dat (iD [k]),.dat (.lst [iD x,iD p]),.dat (Gf ((eG x).map eV)),.dat (Gf ((eG p).map eV)),.no] ((aX jw).getD 3 (.Pass ⟨0,0,0,0⟩)) (.next [.dat (kM Z t),.dat (iD [k]),.dat (.lst [iD x,iD p]),.dat (Gf ((eG x).map eV)),.dat (Gf ((eG p).map eV)),.dat (.bl (ph t.sheet m (eG x) (eG p)))]):=by
  refine bW (i:=5) kX.nd (Ev.eq (c7 (a4e B.toBs) hr.m (ab (ju (RR B) hr.m (a8 0 rfl) (by rfl) ⟨t,hT,rfl,rfl⟩) (ab (dH (W7 B) hr.m (a8 0 rfl) (by rfl) (ab (fM (a8 1 rfl) au rfl) ar) ⟨t,k,hT,hk,rfl,rfl⟩) (ab (a8 3 rfl) (ab (a8 4 rfl) ar)))) ⟨EN t.sheet,m,(eG x).map eV,(eG p).map eV,by rw[hm],?_,?_,?_,?_,?_,fun e he=>?_,x1,p1,hS.wts,rfl⟩) (by rw[fw.Ug TN x2 p2 x3 p3]))
  ·unfold EN;rw[aa];omega
  ·unfold EN;rw[aa];exact TN
  ·unfold EN;rw[aa,aa];exact x3
  ·rw[aa,p3];omega
  ·rw[aa,p3];omega
  ·rw[aa,p3];exact yA hS.wf he
 exact⟨.ret (iD [a1j (ph t.sheet m (eG x) (eG p))]),ak (qo B hr ck hk (fM (a8 1 rfl) au rfl)) (ak s1 (ak s2 (ak s3 (aK (cq (pP (ds:=[.int (a1j (ph t.sheet m (eG x) (eG p)))]) (ab (Dx (iY (a8 5 rfl)) (fun h=>by rw[h];exact au) (fun h=>by rw[h];exact au)) ar))))))),rfl⟩
def Zo(o:Option (Int×Int)):SH (oD o)=o.isNone:=by cases o<;>rfl
def a3c(B:Bx P K mg base Z):FG P w K mg base (CZ P w K Z) "answer_through" 56 (RA Z 10):=by
 refine oR (k:=55) (N:=kn) B.F9 iK ?_;rintro f dw A outer st H E hr args out ⟨t,ns,rs,c,hT,hf,N6,rfl,rfl⟩;let Xc:=cz P w K mg base Z kn "answer_through" eh f dw A outer st H E;have qQ:=hT.few
 cases hf with
 | through k l=>
 have Ar:=N6 l (!1)
 cases hk:dS k with
 | false=>
  refine⟨.exc (-1),de (ua B hr ck hk (fM (a8 1 rfl) au rfl)),?_⟩;have e:(aw t (.through k l)).2=[-1]:=by show(if(dS k && Ew t l)=false then dB t 1 else _).2=_;rw[hk];rfl
  rw[e];rfl
 | true=>
 have DZ:∀o,a35 Z [kM Z t,iD l] o->NZ Xc E (fN kn [kM Z t,iD [k],.lst [iD l]]) (gE eh 1) o:=fun o ho=>
  x_call (a36 B) ft hr.m (ab (a8 0 rfl) (ab (fM (a8 2 rfl) au rfl) ar)) ho
 cases hl:Ew t l with
 | false=>
  refine⟨.exc (-1),ak (qo B hr ck hk (fM (a8 1 rfl) au rfl)) (de (mK (DZ (.exc (-1)) ⟨t,l,Ar,rfl,by rw[hl];rfl⟩))),?_⟩;have e:(aw t (.through k l)).2=[-1]:=by show(if(dS k && Ew t l)=false then dB t 1 else _).2=_;rw[hk,hl];rfl
  rw[e];rfl
 | true=>
 have hS:=hT.by hk
 rw[Wc hS hk hl,qO];generalize hm:bG t k=m at hS;unfold Jr;have hEl:(EN t.sheet).length<=12:=by unfold EN;rw[aa];omega
 have hin:∀i∈DR (EN t.sheet) l,i<t.sheet.streams.length:=by rw[ON];exact MM
 have hou:∀i∈Mw (EN t.sheet) l,i<t.sheet.streams.length:=by rw[RS];exact MM
 have li:(DR (EN t.sheet) l).length<=12:=by
  unfold DR;rw[aa];exact bq (kK _ _) (by rw[bj];exact hEl)
 have lo:(Mw (EN t.sheet) l).length<=12:=by
  unfold Mw;rw[aa];exact bq (kK _ _) (by rw[bj];exact hEl)
 generalize hvi:DR (EN t.sheet) l=vi at hin li;generalize hvo:Mw (EN t.sheet) l=vo at hou lo;generalize hfi:mO t.sheet m vi=fi;generalize hfo:mO t.sheet m vo=fo;have b1:Ex Xc E (fN kn [kM Z t,iD [k],.lst [iD l]]) ((aX eh).getD 2 (.Pass ⟨0,0,0,0⟩)) (.next [.dat (kM Z t),.dat (iD [k]),.dat (.lst [iD l]),.dat (bD Z t.sheet m),.no,.no,.no,.no,.no]):=
  bW (i:=3) iK.nd (dH (Qq B) hr.m (a8 0 rfl) (by rfl) (ab (fM (a8 1 rfl) au rfl) ar) ⟨t,k,hT,hk,rfl,by rw[hm]⟩)
 have b2:Ex Xc E [.dat (kM Z t),.dat (iD [k]),.dat (.lst [iD l]),.dat (bD Z t.sheet m),.no,.no,.no,.no,.no] ((aX eh).getD 3 (.Pass ⟨0,0,0,0⟩)) (.next [.dat (kM Z t),.dat (iD [k]),.dat (.lst [iD l]),.dat (bD Z t.sheet m),.dat (nD vi),.no,.no,.no,.no]):=
  bW (i:=4) iK.nd (Ev.eq (c7 (a0P B.toBs) hr.m (ab (dk (a8 3 rfl) B.zN (B.GN _ ck) rfl) (ab (fM (a8 2 rfl) au rfl) ar)) ⟨EN t.sheet,l,rfl,by omega,rfl⟩) (by rw[hvi]))
 have b3:Ex Xc E [.dat (kM Z t),.dat (iD [k]),.dat (.lst [iD l]),.dat (bD Z t.sheet m),.dat (nD vi),.no,.no,.no,.no] ((aX eh).getD 4 (.Pass ⟨0,0,0,0⟩)) (.next [.dat (kM Z t),.dat (iD [k]),.dat (.lst [iD l]),.dat (bD Z t.sheet m),.dat (nD vi),.dat (nD vo),.no,.no,.no]):=
  bW (i:=5) iK.nd (Ev.eq (c7 (a2t B.toBs) hr.m (ab (dk (a8 3 rfl) B.zN (B.GN _ ck) rfl) (ab (fM (a8 2 rfl) au rfl) ar)) ⟨EN t.sheet,l,rfl,by omega,rfl⟩) (by rw[hvo]))
 have b4:Ex Xc E [.dat (kM Z t),.dat (iD [k]),.dat (.lst [iD l]),.dat (bD Z t.sheet m),.dat (nD vi),.dat (nD vo),.no,.no,.no] ((aX eh).getD 5 (.Pass ⟨0,0,0,0⟩)) (.next [.dat (kM Z t),.dat (iD [k]),.dat (.lst [iD l]),.dat (bD Z t.sheet m),.dat (nD vi),.dat (nD vo),.dat (nI (vi.length+vo.length)),.no,.no]):=
  bW (i:=6) iK.nd (Ev.eq (wQ (i9 B.len (a8 4 rfl)) (i9 B.len (a8 5 rfl))) (by rw[aa,aa];unfold nI;congr 1))
 have b5:Ex Xc E [.dat (kM Z t),.dat (iD [k]),.dat (.lst [iD l]),.dat (bD Z t.sheet m),.dat (nD vi),.dat (nD vo),.dat (nI (vi.length+vo.length)),.no,.no] ((aX eh).getD 6 (.Pass ⟨0,0,0,0⟩)) (.next [.dat (kM Z t),.dat (iD [k]),.dat (.lst [iD l]),.dat (bD Z t.sheet m),.dat (nD vi),.dat (nD vo),.dat (nI (vi.length+vo.length)),.dat (oD fi),.no]):=
  bW (i:=7) iK.nd (Ev.eq (c7 (a2u B.toBs) hr.m (ab (a8 3 rfl) (ab (a8 4 rfl) ar)) ⟨t.sheet,m,vi,rfl,hS,hin,li,rfl⟩) (by rw[hfi]))
 have b6:Ex Xc E [.dat (kM Z t),.dat (iD [k]),.dat (.lst [iD l]),.dat (bD Z t.sheet m),.dat (nD vi),.dat (nD vo),.dat (nI (vi.length+vo.length)),.dat (oD fi),.no] ((aX eh).getD 7 (.Pass ⟨0,0,0,0⟩)) (.next [.dat (kM Z t),.dat (iD [k]),.dat (.lst [iD l]),.dat (bD Z t.sheet m),.dat (nD vi),.dat (nD vo),.dat (nI (vi.length+vo.length)),.dat (oD fi),.dat (oD fo)]):=
  bW (i:=8) iK.nd (Ev.eq (c7 (a2u B.toBs) hr.m (ab (a8 3 rfl) (ab (a8 5 rfl) ar)) ⟨t.sheet,m,vo,rfl,hS,hou,lo,rfl⟩) (by rw[hfo]))
 have P8:Et Xc [.dat (kM Z t),.dat (iD [k]),.dat (.lst [iD l]),.dat (bD Z t.sheet m),.dat (nD vi),.dat (nD vo),.dat (nI (vi.length+vo.length)),.dat (oD fi),.dat (oD fo)] (gE eh 8) (fi.isNone || fo.isNone):=
  Vg (Et.eq (lD (a8 7 rfl)) (Zo fi)) (Et.eq (lD (a8 8 rfl)) (Zo fo))
 have pre:∀{oc:Oc},wM Xc E [.dat (kM Z t),.dat (iD [k]),.dat (.lst [iD l]),.dat (bD Z t.sheet m),.dat (nD vi),.dat (nD vo),.dat (nI (vi.length+vo.length)),.dat (oD fi),.dat (oD fo)] ((aX eh).drop 8) oc->wM Xc E (fN kn [kM Z t,iD [k],.lst [iD l]]) (aX eh) oc:=fun kN=>
  ak (qo B hr ck hk (fM (a8 1 rfl) au rfl)) (ak (nB (d:=.fA) (DZ (.ok .fA) ⟨t,l,Ar,rfl,by rw[hl];rfl⟩)) (ak b1 (ak b2 (ak b3 (ak b4 (ak b5 (ak b6 kN)))))))
 cases fi with
 | none=>
  exact⟨.ret (iD [((vi.length+vo.length:Nat):Int),0]),pre (de (gq P8 (fun _=>aK (cq (pP (ab (a8 6 rfl) (ab au ar))))) (fun q=>by cases q))),rfl⟩
 | some a=>
 cases fo with
 | none=>
  exact⟨.ret (iD [((vi.length+vo.length:Nat):Int),0]),pre (de (gq P8 (fun _=>aK (cq (pP (ab (a8 6 rfl) (ab au ar))))) (fun q=>by cases q))),rfl⟩
 | some b=>
  exact⟨.ret (iD [((vi.length+vo.length:Nat):Int),1,a.1,a.2,b.1,b.2]),pre (ak (gq P8 (fun q=>by cases q) (fun _=>iA)) (aK (cq (Cm (ds:=[nI (vi.length+vo.length),.int 1,.int a.1,.int a.2]) (es:=[.int b.1,.int b.2]) (Cm (ds:=[nI (vi.length+vo.length),.int 1]) (es:=[.int a.1,.int a.2]) (pP (ab (a8 6 rfl) (ab au ar))) (B7 B.list (a8 7 rfl) (.inr rfl)) (by show 2+2<=_;decide)) (B7 B.list (a8 8 rfl) (.inr rfl)) (by show 4+2<=_;decide))))),rfl⟩
def Fo(s:cg)(x:a5a):bL:=x.name++[58,32]++dU s x.src++[32,62,32]++dU s x.dst
theorem Gj(Yy a:bL):∀l:BL,n9 Yy (l++[a])=if l=[]then a else n9 Yy l++Yy++a
 | []=>rfl
 | [b]=>rfl
 | b::c::l=>by
  have ih:=Gj Yy a (c::l);rw[if_neg (!1)]at ih ⊢;show b++Yy++n9 Yy (c::l++[a])=b++Yy++n9 Yy (c::l)++Yy++a;rw[ih];simp only[gU]
def md(s:cg)(i:Nat):bL:=n9 [44,32] ((s.streams.take i).map (Fo s))
def Js(s:cg):md s s.streams.length=jS s:=by
 unfold md;rw[gG];rfl
def Kk(i:Nat)(T:bL):bL:=if i=0 then T else T++[44,32]
def Lv{s:cg}{i:Nat}{x:a5a}(h:s.streams[i]? =some x):md s (i+1)=Kk i (md s i)++Fo s x:=by
 unfold md Kk;rw[take_snoc h,cJ];have hi:=(ag.mp h).1;rw[cM,ib,Gj];by_cases q:i=0
 ·subst q;rw[if_pos (!1),if_pos rfl];simp[n9]
 ·rw[if_neg q,if_neg];intro z;have:=congrArg oa z;rw[aa,fY]at this;simp only[bY]at this;omega
def RU{s:cg}{v:Nat}(h:v<s.nodes.length+1):(eE::s.nodes)[v]? =some (dU s v):=by
 unfold dU
 cases v with
 | zero=>rfl
 | succ v=>
  rw[if_neg (!0),gc,CJ];exact getD_some (!0)
def Jg(l:bL):nK l= .tup ((fJ l).map D.int):=by
 unfold nK fJ;rw[bc];rfl
structure OR(s:cg):Prop where
 few:s.streams.length<=12
 ends:∀x∈s.streams,x.src<s.nodes.length+1/\x.dst<s.nodes.length+1
 names:∀x∈s.streams,x.name.length<=8
 nodes:∀n∈s.nodes,n.length<=8
def E3{s:cg}(h:OR s)(v:Nat):(dU s v).length<=8:=by
 unfold dU;split
 ·decide
 ·rw[ax]
  cases e:s.nodes[v-1]? with
  | none=>exact gW _
  | some n=>exact h.nodes n (aD e)
def Wi{s:cg}(h:OR s){x:a5a}(hx:x∈s.streams):(Fo s x).length<=29/\0<(Fo s x).length:=by
 have h1:=h.names x hx;have h2:=E3 h x.src;have h3:=E3 h x.dst;unfold Fo;simp only[aE,ah,bY];omega
theorem E4{s:cg}(h:OR s):∀i,i<=s.streams.length->(md s i).length<=31*i/\(0<(md s i).length↔i≠0)
 | 0,_=>by unfold md;simp[n9]
 | i+1,hi=>by
  have hx:s.streams[i]? =some s.streams[i]:=aV hi;have ih:=E4 h i (!0);have hl:=Wi h (aD hx);rw[Lv hx,aE];have:(Kk i (md s i)).length<=(md s i).length+2:=by
   unfold Kk;split
   ·omega
   ·rw[aE];simp
  refine⟨by omega,by omega⟩
def RWT:bM->Out->Prop:=fun args out=>∃s,OR s/\args=[DX s,DY s]/\out= .ok (iD (fJ (jS s)))
def Qt(T:bL):Sl:=.own ((fJ T).map D.int)
def Tj(a b:bL):fJ (a++b)=fJ a++fJ b:=cJ
def ja(a:bL):(fJ a).length=a.length:=aa _
def a4J(B:Bx P K mg base Z):FG P w K mg base mx "written_text" 41 RWT:=by
 obtain⟨t1,hCm⟩:=B.cCm;obtain⟨t2,hBl⟩:=B.cBl;obtain⟨t3,hCl⟩:=B.cCl;obtain⟨t4,hAr⟩:=B.cAr;refine lW (N:=vB) B.IV u4 ?_;rintro f dw A outer st H E hr args out ⟨s,hs,rfl,rfl⟩;let Xc:=dX P w K mg base vB "written_text" (aj vx) f dw A outer st H E;let I:Nat->br:=fun i=>[.dat (DX s),.dat (DY s),Qt (md s i),.no,.no,.no];have ow:∀{ρ:br} {T ex:bL} {stt:di},Ex Xc E0 ρ stt (.next (ρ.set 2 (.own ((fJ T).map D.int++(fJ ex).map D.int))))->Ex Xc E0 ρ stt (.next (ρ.set 2 (Qt (T++ex)))):=fun {ρ T ex stt} h=>by
  rw[<-cJ,<-Tj]at h;exact h
 refine⟨.ret (iD (fJ (jS s))),ak (Co (i:=2) (ds:=[]) u4.nd (j3 rfl) ar) (ak (kP (τ:=.many [3,4,5]) cX rfl (kI (a8 0 rfl)) (vm rfl u4.nd) I (zc.refl _) s.streams.length (!1) (fun i d hi hd=>?_) (.inl ⟨by simp,rfl⟩)) ?_),rfl⟩
 ·obtain⟨x,hx,rfl⟩:=lu hd;have hm:=aD hx;obtain⟨hsl,hs0⟩:=E4 hs i (!0);have qQ:=hs.few;have he:=hs.ends x hm;have n1:=hs.names x hm;have n2:=E3 hs x.src;have n3:=E3 hs x.dst;have TQ:(Kk i (md s i)).length<=(md s i).length+2:=by
   unfold Kk;split
   ·omega
   ·rw[aE];simp
  generalize hT0:md s i=T0 at hsl hs0 TQ;have e1:md s (i+1)=Kk i T0++x.name++[58,32]++dU s x.src++[32,62,32]++dU s x.dst:=by
   rw[Lv hx,hT0];unfold Fo;simp only[gU]
  generalize hT:Kk i T0=T at TQ e1;refine⟨_,rfl,ia (ak (ρ1:=[.dat (DX s),.dat (DY s),Qt T,.dat (nK x.name),.dat (nI x.src),.dat (nI x.dst)]) (gq (k:=decide (i≠0)) (Et.eq (Z0 (SJ (i:=2) (l:=(fJ T0).map D.int) (by show some (Qt (md s i))=_;rw[hT0];rfl) B.len) au) ?_) (fun q=>?_) (fun q=>?_))
   (ak (ow (T:=T) (ex:=x.name) (mX (i:=2) (ds:=(fJ (x.name)).map D.int) rfl (a8 3 rfl) (.inr (Jg _)) (by rw[aa,aa,ja,ja];omega)))
   (ak (ow (T:=T++x.name) (ex:=[58,32]) (mX (i:=2) (ds:=(fJ ([58,32])).map D.int) rfl (pP (ab (Ci hCl) (ab (Ci hBl) ar))) (.inl rfl) (by rw[aa,aa,ja,ja];simp only[aE,ah,bY];omega)))
   (ak (ow (T:=T++x.name++[58,32]) (ex:=dU s x.src) (mX (i:=2) (ds:=(fJ (dU s x.src)).map D.int) rfl (eM (a8 1 rfl) (a8 4 rfl) (!0) (show _=some (nK (dU s x.src)) by rw[bH,aC,RU he.1];rfl)) (.inr (Jg _)) (by rw[aa,aa,ja,ja];simp only[aE,ah,bY];omega)))
   (ak (ow (T:=T++x.name++[58,32]++dU s x.src) (ex:=[32,62,32]) (mX (i:=2) (ds:=(fJ ([32,62,32])).map D.int) rfl (pP (ab (Ci hBl) (ab (Ci hAr) (ab (Ci hBl) ar)))) (.inl rfl) (by rw[aa,aa,ja,ja];simp only[aE,ah,bY];omega)))
   (aK (ow (T:=T++x.name++[58,32]++dU s x.src++[32,62,32]) (ex:=dU s x.dst) (mX (i:=2) (ds:=(fJ (dU s x.dst)).map D.int) rfl (eM (a8 1 rfl) (a8 5 rfl) (!0) (show _=some (nK (dU s x.dst)) by rw[bH,aC,RU he.2];rfl)) (.inr (Jg _)) (by rw[aa,aa,ja,ja];simp only[aE,ah,bY];omega))))))))) ?_⟩
  ·rw[aa,ja];exact decide_eq_decide.mpr (!0)
  ·have hi0:i≠0:=of_decide_eq_true q;have eT:T=T0++[44,32]:=by rw[<-hT];unfold Kk;rw[if_neg hi0]
   rw[eT];exact aK (ow (T:=T0) (ex:=[44,32]) (mX (i:=2) (ds:=(fJ ([44,32])).map D.int) (by show some (Qt (md s i))=_;rw[hT0];rfl) (pP (ab (Ci hCm) (ab (Ci hBl) ar))) (.inl rfl) (by rw[aa,aa,ja,ja];simp only[ah,bY];omega)))
  ·have hi0:i=0:=by
    have:=of_decide_eq_false q;omega
   have eT:T=T0:=by rw[<-hT];unfold Kk;rw[if_pos hi0]
   rw[eT];show wM _ _ [.dat (DX s),.dat (DY s),Qt (md s i),.dat (nK x.name),.dat (nI x.src),.dat (nI x.dst)] [] _;rw[hT0];exact iA
  ·show zc _ [.dat (DX s),.dat (DY s),Qt (md s (i+1)),.no,.no,.no];rw[e1];exact bw (bw (bw (cD (cD (cD gD)))))
 ·refine ll (i:=2) (l:=(fJ (md s s.streams.length)).map D.int) rfl (aK (cq (Ev.eq (a8 2 rfl) ?_)));rw[Js];rfl
def D3.say{t:fu}(hT:D3 t):OR t.sheet:=by
 have h3:=hT.three
 cases hm:t.measured with
 | nil=>rw[hm]at h3;cases h3
 | cons m r=>
  have:=hT.ok m (by rw[hm];exact aQ);exact⟨this.streams,this.wf.ends,hT.names,hT.nodes⟩
def a3d(B:Bx P K mg base Z):FG P w K mg base (CZ P w K Z) "answer_say" 56 (RA Z 1):=by
 refine oR (k:=55) (N:=DG) B.Mn BX ?_;rintro f dw A outer st H E hr args out ⟨t,ns,rs,c,hT,hf,N6,rfl,rfl⟩
 cases hf with
 | say=>
 have e:(aw t .say).2=0::((jS t.sheet).length:Int)::fJ (jS t.sheet):=rfl;rw[e,qO];have hl:(jS t.sheet).length<=372:=by
  have:=(E4 hT.say t.sheet.streams.length (ao _)).1;rw[Js]at this;have:=hT.say.few;omega
 refine⟨.ret (iD (((jS t.sheet).length:Int)::fJ (jS t.sheet))),ak (bW (i:=3) (d:=iD (fJ (jS t.sheet))) BX.nd (c7 (a4J B) hr.m (ab (dk (a8 0 rfl) B.Hk (B.N3 _ ck) (CA t)) (ab (dk (a8 0 rfl) B.Hk (B.N3 _ ck) (Fk t)) ar)) ⟨_,hT.say,rfl,rfl⟩)) (aK (cq (Cm (ds:=[.int ((jS t.sheet).length:Int)]) (es:=(fJ (jS t.sheet)).map D.int) (pP (ab (Ev.eq (i9 B.len (a8 3 rfl)) (by rw[aa,ja])) ar)) (a8 3 rfl) ?_))),rfl⟩;rw[aa,ja];show 1+_<=_;omega
end Pg
namespace Dl
open PySem PySem.Spec PyProof.Rows L2
section
variable {X:Cx}{T:Type}{O:OM X.K T}{E:XK}{i:Nat}{ρ ρ1:br}{st TR:T}{s:di}{ss:iT}{oc:JZ T}{e:du}{d:D}{pos:mH}{n:Int}
def MP(h:Ev X ρ e d):Mv X O E i ρ st e (.ok d st):=
 eL h fun σ H Q ⟨GI,HI,G,a,M,q⟩=>⟨GI,HI,G,M.sr,fun G2 H2 v e2 d2=>q G2 H2 v e2.g (M.ext e2) d2⟩
def Qu{es:jT}{ds:bM}(h:Ea X (Fi O ρ i st) es ds)(f:D.zo ds=true)(hl:ds.length<=1000:=by exact ny rfl):Mv X O E i ρ st (.List es pos) (.ok (.lst ds) st):=
 eL (vf h) fun σ H Q ⟨GI,HI,G,a,M,q⟩=>by
  obtain⟨Gp,S,hd,back⟩:=M.up;refine⟨Gp,H,Gp,S,fun G1 H1 vs e1 d1=>⟨by rw[d1.length];exact kg (xp hl),fun p hp=>?_⟩⟩;obtain⟨G',s',M',_,fl⟩:=back G1 H1 e1;have e2:Ext G' H1 (upd G' p (.lst vs)) (upd H1 p (.lst vs)):=Ext.new M'.sr.same hp;exact q _ _ _ (s'.trans e2.g) (M'.ext e2) (.lst aU ((fl vs ds f d1).mono e2.g))
def MR.Xr{K:a9}{T:Type}{O:OM K T}{GI HI G H:Hp}{ρ ρ':br}{i:Nat}{st:T}(M:MR O GI HI G H σ ρ i a st)(f:zc ρ ρ')(no:noOwn ρ'):MR O GI HI G H σ ρ' i a st:=⟨M.sr.Xr f,M.at_,M.ob,no⟩
def a1k{tg iter:du}{body:iT}{items:bM}{τ:Dy}(hp:qr (c9 X.prog X.w) X.A X.env X.xe)(hc:X.calm=true)(hi:Es X ρ tg iter items)(hg:PG X tg (τ.g X.K))(hτ:i∉τ.slots)(LA:noOwn ρ)(n:Nat)(hn:n<=items.length)
  (hb:∀k d,k<n->items[k]? =some d->∃ρ' ρ2,τ.app ρ d=some ρ'/\noOwn ρ'/\yD X O E i ρ' st body (.next ρ2 st)/\zc ρ2 ρ)
  (he:(n=items.length/\oc= .next ρ st)\/∃d ρ',items[n]? =some d/\τ.app ρ d=some ρ'/\noOwn ρ'/\yD X O E i ρ' st body oc/\oc.ends=true)
  (hs:∀x,dA iter X.env x=pure x:=by intro _;rfl):Mx X O E i ρ st (.For tg iter body [] pos) oc:=by
 refine eX (Ux hp hc hi hg (pRM (O:=O) (E:=E) (i:=i)) hs) fun Dn σ H ⟨GI,HI,G,a,M,q⟩=>⟨GI,HI,G,M.sr,fun G1 H1 J e1 it=>?_⟩;refine⟨fun k m σ H=>m=items.length-k/\k<=n/\∃G',MR O GI HI G' H σ ρ i a st/\bN G1 G',⟨_,rfl,gW _,G1,M.ext e1,bN.refl _⟩,?_⟩;rintro k m σ H ⟨rfl,hk,G',M',s'⟩;obtain⟨Xt,it2,Xu⟩:=it G' H s' M'.sr.same;by_cases hin:k<n
 ·have hl:k<items.length:=!0
  refine .inr ⟨Xt k hl,fun σ' H'=>∃Cn,MR O GI HI Cn H' σ' ρ i a st/\bN G1 Cn,fun σ' H' ⟨Cn,S2,s2⟩=>⟨_,by omega,rfl,by omega,Cn,S2,s2⟩,fun x H' y=>?_⟩;obtain⟨ρ',ρ2,ha,no',hx,hf⟩:=hb k items[k] hin (by simp[hl])
  have fin:∀G2,MR O GI HI G2 H' σ ρ i a st->bN G1 G2->Dt X.K G2 x items[k]->τ.g X.K x σ H' fun σ2 H2=>tRM X O E i body {Dn with nx:=fun σ' H'=>∃Cn,MR O GI HI Cn H' σ' ρ i a st/\bN G1 Cn,ct:=fun σ' H'=>∃Cn,MR O GI HI Cn H' σ' ρ i a st/\bN G1 Cn,bk:=Dn.nx} σ2 H2:=fun G2 M2 s2 hd=>
   Dy.ok ha hd M2.sr fun σ' S3 _ hk3=>⟨ρ',st,_,hx,GI,HI,G2,a,⟨S3,by rw[hk3 i hτ];exact M2.at_,M2.ob,no'⟩,fun G3 H3 σ3 s3 M4=>⟨G3,M4.Xr hf LA,s2.trans s3⟩⟩
  rcases Xu k items[k] x H' (by simp[hl]) y with⟨e,hd⟩ | ⟨p,o,hp,e,hd⟩
  ·subst e;exact fin G' M' s' hd
  ·subst e;have e2:Ext G' H (upd G' p o) (upd H p o):=Ext.new M'.sr.same hp;exact fin _ (M'.ext e2) (s'.trans e2.g) hd
 ·have Xv:k=n:=!0
  subst Xv;rcases he with⟨TJ,e2'⟩ | ⟨d,ρ',hd0,ha,no',hx,Rg⟩
  ·subst e2';refine .inl ⟨by rw[TJ];exact it2,q G' H σ (e1.g.trans s') M'⟩
  ·have hl:k<items.length:=(ag.mp hd0).1;refine .inr ⟨Xt k hl,fun _ _=>False,fun _ _ h=>h.elim,fun x H' y=>?_⟩
   have fin:∀G2,MR O GI HI G2 H' σ ρ i a st->bN G1 G2->Dt X.K G2 x d->τ.g X.K x σ H' fun σ2 H2=>tRM X O E i body {Dn with nx:=fun _ _=>False,ct:=fun _ _=>False,bk:=Dn.nx} σ2 H2:=fun G2 M2 s2 hd=>
    Dy.ok ha hd M2.sr fun σ' S3 _ hk3=>⟨ρ',st,oc,hx,GI,HI,G2,a,⟨S3,by rw[hk3 i hτ];exact M2.at_,M2.ob,no'⟩,by
     cases oc with
     | next r t=>cases Rg
     | ret d t=>exact q
     | exc n=>exact q⟩
   rcases Xu k d x H' hd0 y with⟨e,hd⟩ | ⟨p,o,hp,e,hd⟩
   ·subst e;exact fin G' M' s' hd
   ·subst e;have e2:Ext G' H (upd G' p o) (upd H p o):=Ext.new M'.sr.same hp;exact fin _ (M'.ext e2) (s'.trans e2.g) hd
end
structure FGm(P:bp)(w:cH)(K:a9)(mg:MG)(base:cy)(CX:NI)(x:cY)(k:Nat)(sp:Sp):Prop where
 ex:∃f fd ps,mq P w K mg base CX k f fd ps sp/\mg x=some (.ref f)/\i6 K (.ref f)=true/\Binds K fd ps []
end Dl
namespace Pg
open PySem PySem.Spec PyProof.Rows L2 Dl
open Vbmian (value sumQ)
open fw (bB eV cZ WF jJ Good fK fD val cu h9 iH)
variable {P:bp}{w:cH}{K:a9}{mg:cY->iF}{base:cy}{Z:Ad}
def a4K(K:a9)(Z:Ad)(HI G:Hp)(a:aI)(t:fu)(Q:VK)(E:XK)(x:fu×cE):Prop:=
 (x.2.headD 0=0->∀G' H' b,Ext G HI G' H'->PO K Z.gF HI G' H' a x.1->H' b=some (.lst (x.2.tail.map V.int))->Q (.ref b) H')/\(x.2.headD 0≠0->∀G' H',Ext G HI G' H'->PO K Z.gF HI G' H' a t->E (xn (x.2.headD 0)) none H')
def Zp(K:a9)(Z:Ad)(n:Nat):Sp:=fun vs H Q E=>∃HI G a t ns rs c nv rv,vs=[.ref a,nv,rv]/\bN HI H/\bN G H/\PO K Z.gF HI G H a t/\bV K G [nv,rv] [iD ns,.lst (rs.map iD)]/\D3 t/\Form n ns rs c/\(∀r∈rs,r.length<=1000)/\a4K K Z HI G a t Q E (aw t c)
def Tn(N:bS)(args:bM)(t:fu):Fi (Lr K Z) (startM N args) 0 t=fN N (kM Z t::args):=by
 show Sl.dat (kM Z t)::(args.map Sl.dat++aY (N.length-1-args.length) .no)=(kM Z t::args).map Sl.dat++aY (N.length-(args.length+1)) .no;rw[Nat.sub_sub,Nat.add_comm 1];rfl
def Wj{n:Nat}(vU:∀t ns rs c,Form n ns rs c->(aw t c).1=t){vs:cV}{Q:VK}(h:Zp K Z n vs H Q E):Xp K (RA Z n) vs H Q E:=by
 obtain⟨HI,G,a,t,ns,rs,c,nv,rv,rfl,s1,s2,r,da,hT,hf,hl,q1,q2⟩:=h;obtain⟨Gp,S,hd,back⟩:=(Jl (O:=Lr K Z) (N:=["p","n","r"]) s1 s2 da r (by show 2+1<=3;decide)).up;have hs:=vU t ns rs c hf;obtain⟨v1,z1,d1⟩:=S.get (i:=1) (d:=iD ns) rfl;obtain⟨v2,z2,d2⟩:=S.get (i:=2) (d:=.lst (rs.map iD)) rfl;cases z1;cases z2;refine⟨Gp,_,_,S.same,.cons hd (.cons d1 (.cons d2 .nil)),⟨t,ns,rs,c,hT,hf,hl,rfl,rfl⟩,?_⟩;unfold Wd;by_cases h0:(aw t c).2.headD 0=0
 ·rw[if_pos h0];intro G2 H2 v e2 dv;obtain⟨G',s',M',_,_⟩:=back G2 H2 e2
  cases dv with
  | lst hg hx=>
   have e:=hx.ints_of;subst e;exact q1 h0 G' H2 _ M'.sr.ext (by rw[hs];exact M'.ob) (e2.s _ _ hg)
 ·rw[if_neg h0];intro G2 H2 e2;obtain⟨G',s',M',_,_⟩:=back G2 H2 e2;exact q2 h0 G' H2 M'.sr.ext M'.ob
def pb{n k:Nat}(F:FG P w K mg base CX x k (RA Z n))(vU:∀t ns rs c,Form n ns rs c->(aw t c).1=t):FGm P w K mg base CX x k (Zp K Z n):=by
 obtain⟨f,fd,ps,F,h1,h2,h3⟩:=F.ex;exact⟨f,fd,ps,F.imp fun vs H Q E h=>Wj vU h,h1,h2,h3⟩
def Qv{XC:aI->Prop}{st:di}{N ps:bS}{k n:Nat}(F:tF K mg x st)(S:ba N ps (aj st))
  (hb:∀(f:aI) (dw:aH) (A:dD) (outer:iC) (s:ai) (H:Hp) (E:XK),fZ k (A.deeper (jQ x (aj st) s.heap.objs.size f dw))->∀t ns rs c,D3 t->Form n ns rs c->(∀r∈rs,r.length<=1000)->
   ((aw t c).2.headD 0=0/\yD (vW (Lm XC P w) P w K mg base N x (aj st) f dw A outer s H E) (Lr K Z) E 0 (startM N [iD ns,.lst (rs.map iD)]) t (aX st) (.ret (iD (aw t c).2.tail) (aw t c).1))\/
   ((aw t c).2.headD 0≠0/\wM (vW (Lm XC P w) P w K mg base N x (aj st) f dw A outer s H E) E (fN N [kM Z t,iD ns,.lst (rs.map iD)]) (aX st) (.exc ((aw t c).2.headD 0))))(bi:∀(kV doc pm:aH) (an:rj) (dw ct:aH) (us:fk),us.length=ps.length->xE (fF x x (nA st) (aX st) (aj st) .none kV doc pm an dw ct) ⟨us,[]⟩=pure (ps.zip us):=by walk_at "b")(hps:ps.length=3:=by rfl):FGm P w K mg base (Lm XC P w) x (k+1) (Zp K Z n):=by
 obtain⟨f,fd,F,hm⟩:=F.ex;refine⟨f,fd,ps,?_,hm,F.kp,F.binds bi⟩;obtain⟨oc,od,kV,doc,pm,an,dw,ct,OW,rfl,lk,qx⟩:=F.ex;refine QX lk qx S (by rintro vs H Q E ⟨HI,G,a,t,ns,rs,c,nv,rv,e,_⟩;rw[e,hps];rfl) ?_;rintro A outer s H vs Q E hr ⟨HI,G,a,t,ns,rs,c,nv,rv,e,s1,s2,r,da,hT,hf,hl,q⟩;subst e;have hN:2+1<=N.length:=by
  have:=congrArg oa S.pre;rw[fY]at this;omega
 have M:=Jl (O:=Lr K Z) (N:=N) s1 s2 da r hN;rcases hb f dw A outer s H E hr t ns rs c hT hf hl with⟨h0,hx⟩ | ⟨h0,hx⟩
 ·refine⟨_,hx,G,HI,G,a,M,fun G' H' v e2 ob dv=>?_⟩
  cases dv with
  | lst hg hx=>
   have e:=hx.ints_of;subst e;exact q.1 h0 G' H' _ e2 ob (e2.s _ _ hg)
 ·obtain⟨Gp,S',hd,back⟩:=M.up;rw[Tn]at S';refine⟨_,hx,Gp,H,Gp,S',fun G2 H2 e2=>?_⟩;obtain⟨G',s',M',_,_⟩:=back G2 H2 e2;exact q.2 h0 G' H2 M'.sr.ext M'.ob
section
variable {N:bS}{x:cY}{sc:jV}{f:aI}{dw:aH}{A:dD}{outer:iC}{s:ai}{H:Hp}{E:XK}{ρ:br}{p np jb pos:mH}{e e2:du}{k:Int}{n:Nat}{t:fu}
def Zq{X:Cx}(B:Bx X.prog X.K X.mg X.base Z)(hr:fZ n X.A)(hn:5<=n)(hk:dS k=true)(hv:Ev X (Fi (Lr X.K Z) ρ 0 t) e (.int k))(hg:Gl X "need_quantity":=by rfl)(he:SE X e []:=by rfl)(hs:dj (.Call (.Name "need_quantity" np) [e] [] jb) none pos.line X.env=pure false:=by rfl)(hp:Passes (CZ X.prog X.w X.K Z) X E:=by exact ft):Mx X (Lr X.K Z) E 0 ρ t (.Expr (.Call (.Name "need_quantity" np) [e] [] jb) pos) (.next ρ t):=
 j1 (d:=.fA) (zp rfl (x_call (E:=E) (o:=.ok .fA) (a1f B) hp (hr.mono hn) (ab hv ar he) ⟨k,rfl,by rw[hk];rfl⟩ hg ck he)) hs
def Zr{X:Cx}(B:Bx X.prog X.K X.mg X.base Z)(hr:fZ n X.A)(hn:5<=n)(hk:j5 t k=true)(hq:Ev X (Fi (Lr X.K Z) ρ 0 t) e (kM Z t))(hv:Ev X (Fi (Lr X.K Z) ρ 0 t) e2 (.int k))(hg:Gl X "need_stream":=by rfl)(he:SE X e [e2]:=by rfl)(TH:SE X e2 []:=by rfl)(hpl:ya X jb [e2]:=by rfl)(hs:dj (.Call (.Name "need_stream" np) [e,e2] [] jb) none pos.line X.env=pure false:=by rfl)(hp:Passes (CZ X.prog X.w X.K Z) X E:=by exact ft):Mx X (Lr X.K Z) E 0 ρ t (.Expr (.Call (.Name "need_stream" np) [e,e2] [] jb) pos) (.next ρ t):=
 j1 (d:=.fA) (zp rfl (x_call (E:=E) (o:=.ok .fA) (a1g B) hp (hr.mono hn) (ab hq (ab hv ar TH) he) ⟨t,k,rfl,by rw[hk];rfl⟩ hg ck he hpl)) hs
end
def a4L(B:Bx P K mg base Z):FGm P w K mg base (CZ P w K Z) "answer_forget" 56 (Zp K Z 3):=by
 refine Qv (k:=55) (N:=pL) B.GS EZ ?_;rintro f dw A outer st H E hr t ns rs c hT hf N6
 cases hf with
 | forget k i=>
 have QC:aw t (.forget k i)=if(dS k && j5 t i)=false then(t,[-1])else if(bx (bG t k) (i.toNat-1)).isNone=true then(t,[-2])else(jh t k i none,[0]):=rfl
 cases hk:dS k with
 | false=>
  rw[QC,hk];exact .inr ⟨by show(-1:Int)≠0;decide,de (ua B hr ck hk (fM (a8 1 rfl) au rfl))⟩
 | true=>
  cases hi:j5 t i with
  | false=>
   rw[QC,hk,hi];exact .inr ⟨by show(-1:Int)≠0;decide,ak (qo B hr ck hk (fM (a8 1 rfl) au rfl)) (de (MO B hr ck hi (a8 0 rfl) (fM (a8 1 rfl) au rfl)))⟩
  | true=>
   have hS:=hT.by hk
   have ZA:=Bk hi;obtain⟨o,ho⟩:∃o,(bG t k)[i.toNat-1]? =some o:=⟨_,aV (by rw[hS.Ms];omega)⟩;have hma:bx (bG t k) (i.toNat-1)=o:=by unfold bx;rw[ax,ho];rfl
   have P8:Et (cz P w K mg base Z pL "answer_forget" pI f dw A outer st H E) (fN pL [kM Z t,iD [k,i],.lst []]) (gE pI 2) (SH (kD o)):=
    lD (eM (dH (W7 B) hr.m (a8 0 rfl) (by rfl) (ab (fM (a8 1 rfl) au rfl) ar) ⟨t,k,hT,hk,rfl,rfl⟩) (rR (fM (a8 1 rfl) au rfl) au) (!0) (by
     have e:(i-1).toNat=i.toNat-1:=!0
     rw[e,aC,ho];rfl))
   cases o with
   | none=>
    rw[QC,hk,hi,hma];exact .inr ⟨by show(-2:Int)≠0;decide,ak (qo B hr ck hk (fM (a8 1 rfl) au rfl)) (ak (OQ B hr ck hi (a8 0 rfl) (fM (a8 1 rfl) au rfl)) (de (gq P8 (fun _=>de (a11 B hr.m)) (fun q=>by cases q))))⟩
   | some o=>
    rw[QC,hk,hi,hma];exact .inl ⟨rfl,dI (Zq B hr ck hk (fM (a8 1 rfl) au rfl)) (dI (Zr B hr ck hi (a8 0 rfl) (fM (a8 1 rfl) au rfl)) (dI (zq P8 (fun q=>by cases q) (fun _=>Cw)) (dI (j1 (kJ (out:=.ok .fA (jh t k i none)) (Zk B) ft hr.m (npl ck) (ab (fM (a8 1 rfl) au rfl) (ab (fM (a8 1 rfl) au rfl) (ab wN ar))) rfl ⟨k,i,none,hT,hk,hi,rfl,rfl⟩)) (kS (Cy (Qu ar rfl))))))⟩
def a4M(B:Bx P K mg base Z):FGm P w K mg base (CZ P w K Z) "answer_measure" 56 (Zp K Z 2):=by
 obtain⟨tv,hv⟩:=B.cMV;obtain⟨tw,hw⟩:=B.cMW;refine Qv (k:=55) (N:=j9) B.F5 DH ?_;rintro f dw A outer st H E hr t ns rs c hT hf N6;let Xc:=cz P w K mg base Z j9 "answer_measure" j8 f dw A outer st H E
 cases hf with
 | measure k i v w'=>
 have QC:aw t (.measure k i v w')=if(dS k && (j5 t i && (gH v 0 1000000000 && gH w' 1 1000000)))=false then(t,[-1])else(jh t k i (some (v,w'.toNat)),[0]):=rfl
 cases hk:dS k with
 | false=>
  rw[QC,hk];exact .inr ⟨by show(-1:Int)≠0;decide,de (ua B hr ck hk (fM (a8 1 rfl) au rfl))⟩
 | true=>
  cases hi:j5 t i with
  | false=>
   rw[QC,hk,hi];exact .inr ⟨by show(-1:Int)≠0;decide,ak (qo B hr ck hk (fM (a8 1 rfl) au rfl)) (de (MO B hr ck hi (a8 0 rfl) (fM (a8 1 rfl) au rfl)))⟩
  | true=>
   have pre:∀{oc},wM Xc E (fN j9 [kM Z t,iD [k,i,v,w'],.lst []]) ((aX j8).drop 2) oc->wM Xc E (fN j9 [kM Z t,iD [k,i,v,w'],.lst []]) (aX j8) oc:=fun kN=>
    ak (qo B hr ck hk (fM (a8 1 rfl) au rfl)) (ak (OQ B hr ck hi (a8 0 rfl) (fM (a8 1 rfl) au rfl)) kN)
   have cv:∀o,WK [.int v,.int 0,.int 1000000000] o->NZ Xc E (fN j9 [kM Z t,iD [k,i,v,w'],.lst []]) (gE j8 2) o:=fun o ho=>
    x_call (MB B) ft hr.m (ab (fM (a8 1 rfl) au rfl) (ab au (ab (Ci hv) ar))) ho
   have cw:∀o,WK [.int w',.int 1,.int 1000000] o->NZ Xc E (fN j9 [kM Z t,iD [k,i,v,w'],.lst []]) (gE j8 3) o:=fun o ho=>
    x_call (MB B) ft hr.m (ab (fM (a8 1 rfl) au rfl) (ab au (ab (Ci hw) ar))) ho
   have wv:xC v 0 1000000000=gH v 0 1000000000:=rfl;have ww:xC w' 1 1000000=gH w' 1 1000000:=rfl
   cases h1:gH v 0 1000000000 with
   | false=>
    rw[QC,hk,hi,h1];exact .inr ⟨by show(-1:Int)≠0;decide,pre (de (mK (cv (.exc (-1)) ⟨_,_,_,rfl,by rw[wv,h1];rfl⟩)))⟩
   | true=>
    have gv:=cv (.ok .fA) ⟨_,_,_,rfl,by rw[wv,h1];rfl⟩
    cases h2:gH w' 1 1000000 with
    | false=>
     rw[QC,hk,hi,h1,h2];exact .inr ⟨by show(-1:Int)≠0;decide,pre (ak (nB (d:=.fA) gv) (de (mK (cw (.exc (-1)) ⟨_,_,_,rfl,by rw[ww,h2];rfl⟩))))⟩
    | true=>
     have hw0:(0:Int)<=w':=by
      have h2':1<=w'/\w'<=1000000:=by unfold gH at h2;simpa using h2
      omega
     rw[QC,hk,hi,h1,h2];exact .inl ⟨rfl,dI (Zq B hr ck hk (fM (a8 1 rfl) au rfl)) (dI (Zr B hr ck hi (a8 0 rfl) (fM (a8 1 rfl) au rfl)) (dI (j1 (d:=.fA) (zp rfl gv)) (dI (j1 (d:=.fA) (zp rfl (cw (.ok .fA) ⟨_,_,_,rfl,by rw[ww,h2];rfl⟩))) (dI (j1 (kJ (ds:=[.int k,.int i,kD (some (v,w'.toNat))]) (out:=.ok .fA (jh t k i (some (v,w'.toNat)))) (Zk B) ft hr.m (npl ck) (ab (fM (a8 1 rfl) au rfl) (ab (fM (a8 1 rfl) au rfl) (ab (Ev.eq (nQ (ab (fM (a8 1 rfl) au rfl) (ab (fM (a8 1 rfl) au rfl) ar))) (by
      show D.tup [.int v,.int w']=D.tup [.int v,.int ((w'.toNat:Nat):Int)];rw[BI hw0])) ar))) rfl ⟨k,i,_,hT,hk,hi,rfl,rfl⟩)) (kS (Cy (Qu ar rfl)))))))⟩
def Wk{l:cE}(h:(l.all fun c=>gH c 0 255)=true):fJ (l.map oK)=l:=by
 unfold fJ;rw[bc]
 conv=>rhs;rw[<-GA l]
 refine jU fun x hx=>?_;have:=cp.mp h x hx;have h2:0<=x/\x<=255:=by unfold gH at this;simpa using this
 show((x.toNat:Nat):Int)=x;omega
def To{l:cE}:(l.all fun c=>gH c 0 255)=false->∃(n:Nat) (x:Int),l[n]? =some x/\gH x 0 255=false/\∀(k:Nat) (y:Int),k<n->l[k]? =some y->gH y 0 255=true:=by
 induction l with
 | nil=>intro h;cases h
 | cons x r ih=>
  intro h
  cases hx:gH x 0 255 with
  | false=>exact⟨0,x,rfl,hx,fun k y hk=>absurd hk (GY _)⟩
  | true=>
   rw[xa,hx,eJ]at h;obtain⟨n,z,h1,h2,h3⟩:=ih h;refine⟨n+1,z,by simpa using h1,h2,fun k y hk hy=>?_⟩
   cases k with
   | zero=>simp at hy;subst hy;exact hx
   | succ k=>exact h3 k y (!0) (by simpa using hy)
def a3e(B:Bx P K mg base Z):FGm P w K mg base (CZ P w K Z) "answer_sheet" 56 (Zp K Z 0):=by
 obtain⟨tb,hb⟩:=B.cMB;refine Qv (k:=55) (N:=nZ) B.IY iU ?_;rintro f dw A outer st H E hr t ns rs c hT hf N6;let Xc:=cz P w K mg base Z nZ "answer_sheet" dW f dw A outer st H E
 cases hf with
 | sheet l=>
 have hl:=N6 l aQ;let ρ:Sl->br:=fun z=>[z,.dat (.lst []),.dat (.lst [iD l]),.dat (iD l),.no,.no];let ρb:Sl->Int->br:=fun z b=>[z,.dat (.lst []),.dat (.lst [iD l]),.dat (iD l),.dat (.int b),.no]
 have QC:aw t (.sheet l)=if(decide (l.length<=400) && l.all fun c=>gH c 0 255)=false then(t,[-1])else match Gq (l.map oK)with
   | .error p=>dB t (1000+p)
   | .ok x=>pZ ⟨x,aY 3 (aY x.streams.length none)⟩ [(x.streams.length:Int),(x.nodes.length:Int)]:=rfl
 have c0:Ex Xc E (fN nZ [kM Z t,iD [],.lst [iD l]]) ((aX dW).getD 0 (.Pass ⟨0,0,0,0⟩)) (.next (ρ (.dat (kM Z t)))):=
  bW (i:=3) iU.nd (fM (a8 2 rfl) au rfl)
 have cl:∀z o,WK [.int (l.length:Int),.int 0,.int 400] o->NZ Xc E (ρ z) (gE dW 1) o:=fun z o ho=>
  x_call (MB B) ft hr.m (ab (Ev.eq (i9 B.len (a8 3 rfl)) (by rw[aa])) (ab au (ab (Ci hb) ar))) ho
 have cb:∀z (b:Int) o,WK [.int b,.int 0,.int 255] o->NZ Xc E (ρb z b) (match(aX dW).getD 2 (.Pass ⟨0,0,0,0⟩)with | .For _ _ [.Expr c _] _ _=>c | _=>.Constant .none 0 ⟨0,0,0,0⟩) o:=fun z b o ho=>
  x_call (MB B) ft hr.m (ab (a8 4 rfl) (ab au (ab au ar))) ho
 have wl:xC (l.length:Int) 0 400=decide (l.length<=400):=by
  unfold xC;by_cases h:l.length<=400
  ·rw[decide_eq_true h,decide_eq_true (!0),decide_eq_true (!0)];rfl
  ·rw[decide_eq_false h,decide_eq_true (by omega:(0:Int)<=l.length),decide_eq_false (!0)];rfl
 cases h1:decide (l.length<=400)with
 | false=>
  rw[QC,h1];exact .inr ⟨by show(-1:Int)≠0;decide,ak c0 (de (mK (cl _ (.exc (-1)) ⟨_,_,_,rfl,by rw[wl,h1];rfl⟩)))⟩
 | true=>
  have WI:l.length<=400:=of_decide_eq_true h1;have gl:=fun z=>cl z (.ok .fA) ⟨_,_,_,rfl,by rw[wl,h1];rfl⟩;have c1:Ex Xc E (ρ (.dat (kM Z t))) ((aX dW).getD 1 (.Pass ⟨0,0,0,0⟩)) (.next (ρ (.dat (kM Z t)))):=nB (d:=.fA) (gl _);have iter:∀z,Es Xc (ρ z) (gT dW 2) (gE dW 2) (l.map D.int):=fun z=>kI (a8 3 rfl)
  have gb:∀z b,gH b 0 255=true->Ev Xc (ρb z b) (match(aX dW).getD 2 (.Pass ⟨0,0,0,0⟩)with | .For _ _ [.Expr c _] _ _=>c | _=>.Constant .none 0 ⟨0,0,0,0⟩) .fA:=fun z b hb=>
   cb z b (.ok .fA) ⟨_,_,_,rfl,by rw[show xC b 0 255=gH b 0 255 from rfl,hb];rfl⟩
  cases h2:l.all fun c=>gH c 0 255 with
  | false=>
   obtain⟨n,x,e1,e2,e3⟩:=To h2;have hn:n<l.length:=(ag.mp e1).1;rw[QC,h1,h2];refine .inr ⟨by show(-1:Int)≠0;decide,ak c0 (ak c1 (de (kP (τ:=.one 4) eC rfl (iter _) (jY iU.nd) (fun _=>ρ (.dat (kM Z t))) (zc.refl _) n (by rw[aa];omega) (fun k d hk hd=>?_) (.inr ⟨.int x,ρb (.dat (kM Z t)) x,by rw[aC,e1];rfl,rfl,de (mK (cb _ x (.exc (-1)) ⟨_,_,_,rfl,by rw[show xC x 0 255=gH x 0 255 from rfl,e2];rfl⟩)),rfl⟩))))⟩;obtain⟨y,hy,rfl⟩:=lu hd;exact⟨ρb (.dat (kM Z t)) y,rfl,ia (aK (nB (d:=.fA) (gb _ y (e3 k y hk hy)))) (bw (bw (bw (bw (cD (bw gD))))))⟩
  | true=>
   have hz:=Wk h2;have ko:(l.map oK).length<=400:=by rw[aa];exact WI
   have hrd:=fw.QK (l.map oK)
   have cr:∀z o,RRT [iD l] o->NZ Xc E (ρ z) (gE dW 3) o:=fun z o ho=>
    x_call (a4t B) ft hr.m (ab (a8 3 rfl) ar) ho
   cases hm:fw.uo (l.map oK)with
   | error e=>
    rw[hm]at hrd;have c2:Ex Xc E (ρ (.dat (kM Z t))) ((aX dW).getD 2 (.Pass ⟨0,0,0,0⟩)) (.next (ρ (.dat (kM Z t)))):=
     kP (τ:=.one 4) eC rfl (iter _) (jY iU.nd) (fun _=>ρ (.dat (kM Z t))) (zc.refl _) l.length (by rw[aa];omega) (fun k d hk hd=>by
      obtain⟨y,hy,rfl⟩:=lu hd;exact⟨ρb (.dat (kM Z t)) y,rfl,ia (aK (nB (d:=.fA) (gb _ y (cp.mp h2 y (aD hy))))) (bw (bw (bw (bw (cD (bw gD))))))⟩) (.inl ⟨by rw[aa],rfl⟩)
    have e2:aw t (.sheet l)=(t,[-1000-(e:Int)]):=by
     rw[QC,h1,h2,hrd];show(t,[-((1000+e:Nat):Int)])=_;rw[show(-((1000+e:Nat):Int))= -1000-(e:Int) by omega]
    rw[e2];exact .inr ⟨by show-1000-(e:Int)≠0;omega,ak c0 (ak c1 (ak c2 (de (Mc (i:=5) iU.nd (cr _ (.exc (-1000-(e:Int))) ⟨l.map oK,ko,by rw[hz],by rw[hm]⟩)))))⟩
   | ok r=>
    rw[hm]at hrd;have hg:=RN ko hm;obtain⟨nn,hnn⟩:=hg.ok.nodes;have qQ:=hg.ok.few;have hnd:r.nodes=eE::(fw.iZ r).nodes:=by unfold fw.iZ;rw[hnn];rfl
    have vU:r.streams=(fw.iZ r).streams:=rfl;simp only at hrd;generalize fw.iZ r=sh at hrd hnd vU;have m0:Mx Xc (Lr K Z) E 0 (startM nZ [iD [],.lst [iD l]]) t ((aX dW).getD 0 (.Pass ⟨0,0,0,0⟩)) (.next (ρ .no) t):=
     vE (j:=3) iU.nd (MP (fM (a8 2 rfl) au rfl)) ck
    have m1:Mx Xc (Lr K Z) E 0 (ρ .no) t ((aX dW).getD 1 (.Pass ⟨0,0,0,0⟩)) (.next (ρ .no) t):=j1 (d:=.fA) (MP (gl _));have m2:Mx Xc (Lr K Z) E 0 (ρ .no) t ((aX dW).getD 2 (.Pass ⟨0,0,0,0⟩)) (.next (ρ .no) t):=
     a1k (τ:=.one 4) eC rfl (iter _) (jY iU.nd) ck (j3 rfl) l.length (by rw[aa];omega) (fun k d hk hd=>by
      obtain⟨y,hy,rfl⟩:=lu hd;exact⟨ρb .no y,ρb .no y,rfl,j3 rfl,kS (j1 (d:=.fA) (MP (gb _ y (cp.mp h2 y (aD hy))))),bw (bw (bw (bw (cD (bw gD)))))⟩) (.inl ⟨by rw[aa],rfl⟩)
    have m3:Mx Xc (Lr K Z) E 0 (ρ .no) t ((aX dW).getD 3 (.Pass ⟨0,0,0,0⟩)) (.next [.no,.dat (.lst []),.dat (.lst [iD l]),.dat (iD l),.no,.dat (.tup [DX sh,DY sh])] t):=
     vE (j:=5) (d:=.tup [DX sh,DY sh]) iU.nd (MP (cr _ (.ok (.tup [DX sh,DY sh])) ⟨l.map oK,ko,by rw[hz],by rw[hm];unfold DX DY;rw[<-vU,<-hnd]⟩)) ck
    have e2:aw t (.sheet l)=(fresh sh,0::[(sh.streams.length:Int),(sh.nodes.length:Int)]):=by
     rw[QC,h1,h2,hrd];rfl
    rw[e2];refine .inl ⟨rfl,dI m0 (dI m1 (dI m2 (dI m3 (dI (j1 (W6 (ds:=[DX sh,DY sh]) (out:=.ok .fA (fresh sh)) (a4x B) W5 hr.m (npl ck) (ab (gC (a8 5 rfl) au rfl) (ab (gC (a8 5 rfl) au rfl) ar)) ⟨sh,by rw[<-vU];exact qQ,rfl,rfl⟩)) (kS (Cy (Qu (ds:=[.int (sh.streams.length:Int),.int (sh.nodes.length:Int)]) (ab (Ev.eq (i9 B.len (dk (a8 0 rfl) B.Hk (B.N3 _ ck) (CA (fresh sh)))) ?_) (ab (Ev.eq (rR (i9 B.len (dk (a8 0 rfl) B.Hk (B.N3 _ ck) (Fk (fresh sh)))) au) ?_) ar)) rfl)))))))⟩
    ·rw[aa];rfl
    ·rw[aa,ah];show D.int (((sh.nodes.length+1:Nat):Int)-1)=_;congr 1;omega
end Pg
namespace Dl
open PySem PySem.Spec PyProof.Rows L2
def intKeys:List qw->Prop
 | []=>True
 | e::r=>(∃k t,e.key= .int k t/\e.hash=Hu k)/\intKeys r
theorem intKeys.all{l:List qw}(h:intKeys l)(e)(m:e∈l):∃k t,e.key= .int k t/\e.hash=Hu k:=by
 induction l with
 | nil=>cases m
 | cons x r ih=>rcases bQ.mp m with rfl|m;exact h.1;exact ih h.2 m
def KD(K:a9)(a:aI)(k:Int)(v:aH):Prop:=∃(es:Array qw) (n:Nat),K.lookup a=some ⟨.type "dict",none,.dict es n, #[]⟩/\intKeys es.toList/\findBy jE es k=some v
def KD.map{K:a9}{h:cy}{k:Int}(X:K.In h)(d:KD K a k v):∃f,h.MapOf (intKind P w) a f/\f k=some v:=by
 obtain⟨es,n,e1,e2,e3⟩:=d;refine⟨fun j=>findBy jE es j,⟨_,es,n,X _ _ e1,⟨rfl,rfl,rfl⟩,rfl,fun e he=>?_,fun _=>rfl⟩,e3⟩;obtain⟨j,t,q1,q2⟩:=e2.all e (AF.mpr he);exact⟨j,by rw[q1];simp[intKind,jE],q2⟩
section
variable {X:Cx}{o i fe e:du}{es:jT}{pos:mH}{td ty tf:TE}{t:TA}{CX:NI}{k:Nat}{f:aI}{fd:iL}{ps:bS}{sp:Sp}{E:XK}
def Zs(K:a9)(td ty:TE):TE:=fun σ H Q=>td σ H fun x H1=>ty σ H1 fun y H2=>∃a k v u,x= .ref a/\y= .int k/\KD K a k u/\RelV v u/\Q v H2
def RV(ho:PE X o td)(hi:PE X i ty)(hs:a0i i:=by exact fun _ _=>rfl):PE X (.Subscript o i pos) (Zs X.K td ty):=by
 intro pins s σ H Q I h;refine Xf PySem.F.slot_dict_getitem.lookup hs (lh (ho pins s σ H _ I h) fun u s1 ⟨x,H1,I1,rx,q1⟩=>lh (hi pins s1 σ H1 _ I1 q1) ?_);rintro iv s2 ⟨y,H2,I2,ry,a,k,v,u',ex,ey,kd,rv,q2⟩;subst ex;subst ey;obtain rfl:u=cj a:=rx;obtain⟨t,rfl⟩:=ry;obtain⟨f,hm,hf⟩:=kd.map (P:=X.prog) (w:=X.w) I2.BU;exact⟨hm.typeIs,wpAny_getItem_of (k:=k) (by simp[intKind,jE]) hm hf ⟨v,H2,I2.tok _,rv,q2⟩⟩
def Wl(f:aI)(sp:Sp)(E:XK)(tf:TE)(t:TA):TE:=fun σ H Q=>tf σ H fun x H1=>x= .ref f/\t σ H1 fun vs H2=>sp vs H2 Q E
def Wm(F:mq X.prog X.w X.K X.mg X.base CX k f fd ps sp)(hr:fZ k X.A)(hf:PE X fe tf)(hk:i6 X.K (.ref f)=true)(hb:Binds X.K fd ps [])(hx:Passes CX X E)
  (ha:PA X (e::es) t)(hev:fX (.Call fe (e::es) [] pos) X.env=(do pk pos (<-fX fe X.env) [] (nt pos (dM (e::es) X.env)) (mS pos (iX [] X.env))):=by rfl)(he:SE X e es:=by rfl)(hpl:ya X pos es:=by rfl):
  PE X (.Call fe (e::es) [] pos) (Wl f sp E tf t):=by
 intro pins s σ H Q I h;rw[hev];refine ae (lh (hf pins s σ H _ I h) ?_);rintro u s1 ⟨x,H1,I1,rx,ex,q1⟩;subst ex;obtain rfl:u=cj f:=rx;refine kC (h₀:=X.base) I.ok.mod.WU hk (lh (ha pos pins s1 σ H1 _ I1 q1) fun us s2 ⟨vs,H2,I2,r,q⟩=>⟨I2.BU,?_⟩) he hpl;exact Ih F hr hb .nil hx I2 r (by rw[dC];exact q)
end
end Dl
namespace Pg
open PySem PySem.Spec PyProof.Rows L2 Dl
open Vbmian (value sumQ)
variable {P:bp}{w:cH}{K:a9}{mg:cY->iF}{base:cy}{Z:Ad}
def Yl:bS:=["answer_sheet","answer_say","answer_measure","answer_forget","answer_adjust","answer_numbers","answer_check","answer_imbalance","answer_without","answer_suspect","answer_through","answer_share","answer_told"]
def Ym:xi:=[(0,1),(0,0),(4,0),(2,0),(1,0),(1,0),(1,2),(1,0),(2,0),(1,0),(1,1),(3,0),(1,0)]
structure By(P:bp)(K:a9)(mg:MG)(base:cy)(Z:Ad):Prop extends Bx P K mg base Z where
 a3f:∃a,mg "FORMS" =some (.ref a)/\∀(n:Nat) x,Ym[n]? =some x->∃b,KD K a (n:Int) (.ref b)/\∀G,Dt K G (.ref b) (.tup [.int x.1,.int x.2])
 a4N:∃a,mg "ANSWERERS" =some (.ref a)/\∀(n:Nat) x,Yl[n]? =some x->∃f,mg x=some (.ref f)/\KD K a (n:Int) (.ref f)
def Wn{n:Nat}{ns:cE}{rs:gP}{c:jH}(h:Form n ns rs c):Ym[n]? =some ((ns.length:Int),(rs.length:Int)):=by cases h<;>rfl
def step_keeps{n:Nat}(hn:n≠0/\n≠2/\n≠3)(t:fu)(ns:cE)(rs:gP)(c:jH)(h:Form n ns rs c):(aw t c).1=t:=by
 cases h with
 | sheet l=>exact absurd rfl hn.1
 | measure k i v w=>exact absurd rfl hn.2.1
 | forget k i=>exact absurd rfl hn.2.2
 | _=>unfold aw;dsimp only;repeat(first | rfl | split)
def fgA(B:Bx P K mg base Z){n:Nat}{ns:cE}{rs:gP}{c:jH}(h:Form n ns rs c):∃x,Yl[n]? =some x/\FGm P w K mg base (CZ P w K Z) x 56 (Zp K Z n):=by
 cases h with
 | sheet l=>exact⟨_,rfl,a3e B⟩
 | say=>exact⟨_,rfl,pb (a3d B) (step_keeps ck)⟩
 | measure k i v w=>exact⟨_,rfl,a4M B⟩
 | forget k i=>exact⟨_,rfl,a4L B⟩
 | adjust k=>exact⟨_,rfl,pb (a4D B) (step_keeps ck)⟩
 | numbers k=>exact⟨_,rfl,pb (a4C B) (step_keeps ck)⟩
 | check k x p=>exact⟨_,rfl,pb (a4I B) (step_keeps ck)⟩
 | imbalance k=>exact⟨_,rfl,pb (a4F B) (step_keeps ck)⟩
 | without k i=>exact⟨_,rfl,pb (a4H B) (step_keeps ck)⟩
 | suspect k=>exact⟨_,rfl,pb (a4G B) (step_keeps ck)⟩
 | through k l=>exact⟨_,rfl,pb (a3c B) (step_keeps ck)⟩
 | share k h i=>exact⟨_,rfl,pb (a3b B) (step_keeps ck)⟩
 | told k=>exact⟨_,rfl,pb (a4E B) (step_keeps ck)⟩
open fw (bB eV cZ WF jJ Good fK fD val cu h9 iH)
def Jt(t:fu)(c:jH):(∃l,(aw t c).2=0::l)\/(∃n,aw t c=(t,[n])/\n≠0):=by
 cases c<;>(unfold aw;dsimp only;repeat(first | exact .inl ⟨_,rfl⟩ | exact .inr ⟨_,rfl,by decide⟩ | exact .inr ⟨_,rfl,by omega⟩ | split))
theorem mem_modify{α:Type}{f:α->α}{x:α}:∀{l:List α} {k:Nat},x∈l.modify k f->x∈l\/∃y∈l,x=f y
 | [],k,h=>by simp at h
 | a::l,0,h=>by
  rw[List.modify_zero_cons]at h;rcases bQ.mp h with h | h
  ·exact .inr ⟨a,aQ,h⟩
  ·exact .inl (az _ h)
 | a::l,k+1,h=>by
  rw[List.modify_succ_cons]at h;rcases bQ.mp h with h | h
  ·exact .inl (h▸aQ)
  ·rcases mem_modify h with h | ⟨y,hy,e⟩
   ·exact .inl (az _ h)
   ·exact .inr ⟨y,az _ hy,e⟩
def o5.set{s:cg}{m:aJ}(h:o5 s m){i:Nat}{o:Option (Int×Nat)}(ho:∀v w,o=some (v,w)->0<w/\Wt w/\Bd 30 v):o5 s (m.set i o):=by
 have key:∀v w,some (v,w)∈m.set i o->some (v,w)∈m\/o=some (v,w):=fun v w hm=>(wb hm).imp id Eq.symm;refine⟨⟨h.wf.ends,by rw[pN];exact h.wf.len,fun v w hm=>?_⟩,h.nodes,h.streams,fun v w hm=>?_⟩
 ·rcases key v w hm with hm | e
  ·exact h.wf.wt v w hm
  ·exact(ho v w e).1
 ·rcases key v w hm with hm | e
  ·exact h.wts v w hm
  ·exact(ho v w e).2
def D3.setM{t:fu}(hT:D3 t){k i:Int}{o:Option (Int×Nat)}(ho:∀v w,o=some (v,w)->0<w/\Wt w/\Bd 30 v):D3 (jh t k i o):=by
 refine⟨?_,fun m hm=>?_,hT.names,hT.nodes⟩
 ·show(t.measured.modify _ _).length=3;rw[List.length_modify];exact hT.three
 ·rcases mem_modify (show m∈t.measured.modify (k.toNat-1) (fun m=>m.set (i.toNat-1) o)from hm)with hm | ⟨y,hy,rfl⟩
  ·exact hT.ok m hm
  ·exact(hT.ok y hy).set ho
def D3.fresh{r:fw.Rd}(g:RG r):D3 (fresh (fw.iZ r)):=by
 obtain⟨nn,hnn⟩:=g.ok.nodes;have hl:r.nodes.length=(fw.iZ r).nodes.length+1:=by unfold fw.iZ;rw[hnn];rfl
 have hf:=g.few;refine⟨rfl,fun m hm=>?_,fun x hx=>(g.ends x hx).2.2,fun n hn=>g.names n ?_⟩
 ·have e:m=aY (fw.iZ r).streams.length none:=pC (show m∈aY 3 _ from hm);subst e;refine⟨⟨fun x hx=>?_,zI,fun v w hm=>?_⟩,?_,g.ok.few,fun v w hm=>?_⟩
  ·have:=g.ends x hx;exact⟨show x.src<(fw.iZ r).nodes.length+1 by rw[<-hl];exact this.1,show x.dst<(fw.iZ r).nodes.length+1 by rw[<-hl];exact this.2.1⟩
  ·exact absurd (pC hm) (!1)
  ·show(fw.iZ r).nodes.length<=8;omega
  ·exact absurd (pC hm) (!1)
 ·rw[hnn];refine az _ ?_;have:(Pg.fresh (fw.iZ r)).sheet.nodes=nn:=by show r.nodes.tail=nn;rw[hnn];rfl
  rw[<-this];exact hn
def D3.start:D3 lB:=by
 refine⟨rfl,fun m hm=>?_,fun x hx=>(nomatch hx),fun x hx=>(nomatch hx)⟩;have e:m=[]:=by
  have h:m∈([[],[],[]]:List aJ):=hm;simpa using h
 subst e;exact⟨⟨fun x hx=>(nomatch hx),rfl,fun v w hm=>(nomatch hm)⟩,gW _,gW _,fun v w hm=>(nomatch hm)⟩
def D3.step{t:fu}(hT:D3 t)(c:jH):D3 (aw t c).1:=by
 cases c with
 | sheet l=>
  unfold aw;dsimp only;split
  ·exact hT
  ·rename_i hc;have Zx:(decide (l.length<=400) && l.all fun c=>gH c 0 255)=true:=by simpa using hc
   have a4O:l.length<=400:=of_decide_eq_true (bg.mp Zx).1;rw[fw.QK]
   cases hm:fw.uo (l.map oK)with
   | error e=>exact hT
   | ok r=>exact D3.fresh (RN (by rw[aa];exact a4O) hm)
 | measure k i v w=>
  unfold aw;dsimp only;split
  ·exact hT
  ·rename_i hc;have Zx:(dS k && (j5 t i && (gH v 0 1000000000 && gH w 1 1000000)))=true:=by simpa using hc
   have h3:=(bg.mp (bg.mp (bg.mp Zx).2).2);have hv:0<=v/\v<=1000000000:=by have:=h3.1;unfold gH at this;simpa using this
   have hw:1<=w/\w<=1000000:=by have:=h3.2;unfold gH at this;simpa using this
   refine hT.setM fun v' w' e=>?_;cases e;refine⟨by omega,?_,?_⟩
   ·unfold Wt;constructor<;>omega
   ·unfold Bd;have:(2:Nat)^30=1073741824:=by decide
    omega
 | forget k i=>
  unfold aw;dsimp only;split
  ·exact hT
  ·split
   ·exact hT
   ·exact hT.setM fun v w e=>by cases e
 | _=>unfold aw;dsimp only;repeat(first | exact hT | split)
def RW(x:iO):(xh x).length=2:=rfl
def MQ{t:fu}(hT:D3 t)(c:jH):(aw t c).2.length<=400:=by
 have hf:=hT.few;have l1:∀n,(dB t n).2.length<=400:=fun n=>by show 1<=400;decide
 cases c with
 | sheet l=>
  unfold aw;dsimp only
  repeat(first | exact l1 _ | (show 3<=400;decide) | split)
 | say=>
  show(0::((jS t.sheet).length:Int)::(jS t.sheet).map _).length<=400;rw[ah,ah,aa,<-Js];have:=(E4 hT.say t.sheet.streams.length (ao _)).1;omega
 | measure k i v w=>
  unfold aw;dsimp only
  repeat(first | exact l1 _ | (show 1<=400;decide) | split)
 | forget k i=>
  unfold aw;dsimp only
  repeat(first | exact l1 _ | (show 1<=400;decide) | split)
 | adjust k=>
  unfold aw;dsimp only;split
  ·exact l1 _
  ·show(0::(xh _++List.flatMap _ (oj t k).zipIdx)).length<=400;rw[ah,aE,RW];have:=vF (g:=fun x:Option iO×Nat=>(C6 t.sheet (bG t k) x.2:Int)::xh (x.1.getD aq)) (c:=3) (fun _=>ao _) (oj t k).zipIdx;have e:(oj t k).zipIdx.length=t.sheet.streams.length:=by rw[bj];unfold oj;rw[aa,dy]
   rw[e]at this;omega
 | numbers k=>
  unfold aw;dsimp only;split
  ·exact l1 _
  ·rename_i hk;show(0::(cU t.sheet (bG t k)).flatMap xh).length<=400;rw[ah];have Zv:dS k=true:=by simpa using hk
   have:=(fw.nO (hT.by Zv).wf).1.len;have:=vF (g:=xh) (c:=2) (fun _=>ao _) (cU t.sheet (bG t k));omega
 | check k x p=>
  unfold aw;dsimp only;split
  ·exact l1 _
  ·show 2<=400;decide
 | imbalance k=>
  unfold aw;dsimp only;split
  ·exact l1 _
  ·show(0::(ay t.sheet.nodes.length).map _).length<=400;rw[ah,aa,dy];omega
 | without k i=>
  unfold aw;dsimp only;split
  ·exact l1 _
  ·show(0::(rf _++xh _)).length<=400;rw[ah,aE,RW]
   have:∀o,(rf o).length=3:=fun o=>by cases o<;>rfl
   rw[this];decide
 | suspect k=>
  unfold aw;dsimp only;split
  ·exact l1 _
  ·split
   ·show 2<=400;decide
   ·show 4<=400;decide
 | through k l=>
  unfold aw;dsimp only;split
  ·exact l1 _
  ·unfold pZ;dsimp only;split
   ·show 7<=400;decide
   ·show 3<=400;decide
 | share k h i=>
  unfold aw;dsimp only
  repeat(first | exact l1 _ | (show 3<=400;decide) | split)
 | told k=>
  unfold aw;dsimp only;split
  ·exact l1 _
  ·show(0::_::List.flatMap _ t.sheet.streams.zipIdx).length<=400;rw[ah,ah]
   have hx:∀x:a5a×Nat,([(x.1.src:Int),(x.1.dst:Int)]++match bx (bG t k) x.2 with
    | some (v,w)=>[1,v,(w:Int)]
    | none=>[0,0,0]).length<=5:=fun x=>by
    rw[aE]
    cases bx (bG t k) x.2<;>exact ao _
   have h5:=vF hx t.sheet.streams.zipIdx;rw[bj]at h5;exact bq (AV (AV h5 1) 1) (!0)
def PO.low{HI W3 G H:Hp}{t:fu}(h:PO K C HI G H a t)(k:∀b o,H b=some o->HI b=none->W3 b=none):PO K C W3 G H a t:=by
 obtain⟨dx,sv,nv,ma,qs,h⟩:=h;exact⟨dx,sv,nv,ma,qs,h.ob,⟨k _ _ h.ob h.fa.1,h.fa.2⟩,h.sd,h.nd,h.ml,⟨k _ _ h.ml h.fm.1,h.fm.2⟩,h.nq,QL.low (fun q hq=>by
  obtain⟨z1,z2,vs,z3⟩:=h.rows.mem q hq;exact k _ _ z3 z1) h.rows⟩
def PO.mono{HI G H G' H':Hp}{t:fu}(h:PO K Z.gF HI G H a t)(s:bN G H)(g:bN G G')(k:bN H H')(o:∀b ob,H b=some ob->G b=none->G' b=none):PO K Z.gF HI G' H' a t:=by
 obtain⟨Gp,pt,s1,s2,hd,hp,hg,hR⟩:=(Lr K Z).up (HI:=HI) (G:=G) (H:=H) (a:=a) (st:=t) h s;exact hR G' H' g k o
def RAO:fu->bM->u9 fu->Prop:=fun t args out=>∃(n:Nat) (ns:cE) (rs:gP) (c:jH),D3 t/\Form n ns rs c/\(∀r∈rs,r.length<=1000)/\args=[.int n,iD ns,.lst (rs.map iD)]/\out= .ok (iD (aw t c).2) (aw t c).1
def Yn{G HI W3 G' H':Hp}(e:Ext G W3 G' H')(k:bN HI W3):Ext G HI G' H':=⟨e.g,k.trans e.h,e.s,fun b o h n=>e.o b o (k _ _ h) n⟩
def a4P(B:By P K mg base Z):FGm P w K mg base mx "answer_of" 58 (spM (Lr K Z) RAO):=by
 obtain⟨f,fd,F,hm⟩:=B.Oe.ex;refine⟨f,fd,["plant","call","numbers","rows"],?_,hm,F.kp,F.binds⟩;obtain⟨aA,hA,a4Q⟩:=B.a4N;refine F.ok (k:=57) DI (by rintro vs H Q E ⟨HI,G,a,t,args,out,TB,e,_,_,_,da,⟨n,ns,rs,c,_,_,_,ea,_⟩,_⟩;rw[e,ah,da.length,ea];rfl) ?_;rintro dw A outer s H vs Q E hr ⟨HI,G,a,t,args,out,TB,rfl,s1,s2,ob,da,⟨n,ns,rs,c,hT,hf,hl,rfl,rfl⟩,q⟩;obtain⟨x,hx,FA⟩:=fgA (w:=w) B.toBx hf;obtain⟨g,gd,gps,FA,gm,gk,gb⟩:=FA.ex;obtain⟨g',gm',kd⟩:=a4Q n x hx;rw[gm]at gm';cases gm'
 cases da with
 | cons d1 da=>
 cases da with
 | cons d2 da=>
 cases da with
 | cons d3 da=>
 cases da;cases d1;rename_i v2 v3;have OX:∀pins W E1,Passes (Lm (XCz K Z) P w) (Ki (vW mx P w K mg base Ai "answer_of" (aj tJ) f dw A outer s H E).WW pins W) E1->FX (Ki (vW mx P w K mg base Ai "answer_of" (aj tJ) f dw A outer s H E).WW pins W) (match aX tJ with | [.Try b _ _ _ _]=>b | _=>[])
   (a1J (YK a1Y (X4 (Ie (tC (.int 0)) NH)) (Wl g (Zp K Z n) E1 (Zs K (tC (.ref aA)) (Sj 1)) (Ie (Sj 0) (Ie (Sj 2) (Ie (Sj 3) NH)))))):=fun pins W E1 hp=>
  lP (HW (KZ UL (vf (iz v9 nh)) (Wm FA hr.m (RV (Dj (v:=.ref aA) rfl hA rfl) (pv 1)) gk gb hp (iz (pv 0) (iz (pv 2) (iz (pv 3) nh))))))
 refine⟨_,lP (a10 (XC:=XCz K Z) (i:=4) (R:=Z.qN) (fun C h=>h) rfl rfl rfl rfl DI.nd rfl rfl rfl rfl B.kRef B.rcl OX),?_⟩;refine⟨(by show 1<=bC;decide),fun p hp=>⟨.int n,rfl,aA,n,.ref g,.ref g,rfl,rfl,kd,rfl,rfl,.ref a,rfl,v2,rfl,v3,rfl,?_⟩⟩;have a31:HI p=none:=s1.free hp;have k1:bN HI (upd HI p (.lst [.int 0])):=gK a31;have sH:bN H (upd H p (.lst [.int 0])):=gK hp;have po1:PO K Z.gF (upd HI p (.lst [.int 0])) G (upd H p (.lst [.int 0])) a t:=
  (PO.low ob fun b o h z=>by rw[aL (bo h hp)];exact z).mono s2 (bN.refl _) sH fun _ _ _ z=>z
 have fin:∀{G' H':Hp} {t':fu} {l:cE} {r:aI},Ext G (upd HI p (.lst [.int 0])) G' H'->PO K Z.gF (upd HI p (.lst [.int 0])) G' H' a t'->aw t c=(t',l)->H' r=none->Q (.ref r) (upd H' r (.lst (l.map V.int))):=by
  intro G' H' t' l r e po hs Yz;have e0:Ext G HI G' H':=Yn e k1;have e2:Ext G' H' (upd G' r (.lst (l.map V.int))) (upd H' r (.lst (l.map V.int))):=Ext.new e.s Yz;rw[hs]at q;refine q _ _ _ ⟨e0.g.trans e2.g,e0.h.trans e2.h,e2.s,fun b o h z=>e2.o b o (e0.h _ _ h) (e0.o b o h z)⟩ ?_ (.lst aU (bV.ints _));exact(PO.low po fun b o h z=>by
   cases w:HI b with
   | none=>rfl
   | some u=>rw[k1 _ _ w]at z;cases z).mono e.s e2.g e2.h e2.o
 refine⟨upd HI p (.lst [.int 0]),G,a,t,ns,rs,c,v2,v3,rfl,fun b o h=>?_,s2.trans sH,po1,.cons d2 (.cons d3 .nil),hT,hf,hl,fun h0 G' H' b e po hb=>?_,fun h0 G' H' e po m em r Yz=>?_⟩
 ·by_cases hb:b=p
  ·rw[hb,aU]at h ⊢;exact h
  ·rw[aL hb]at h ⊢;exact s1 _ _ h
 ·rcases Jt t c with⟨l,hs⟩ | ⟨m,hs,hm0⟩
  ·refine⟨p,b,[.int 0],_,rfl,rfl,e.h p _ aU,hb,?_,fun r Yz=>?_⟩
   ·have:=MQ hT c;rw[hs]at this ⊢;rw[ah]at this;show 1+(l.map V.int).length<=bC;rw[aa];exact bq (show 1+l.length<=400 by omega) ck
   ·have:=fin (r:=r) (l:=(aw t c).2) e po rfl Yz;rw[hs]at this ⊢;exact this
  ·rw[hs]at h0;exact absurd h0 hm0
 ·rcases Jt t c with⟨l,hs⟩ | ⟨m',hs,hm0⟩
  ·rw[hs]at h0;exact absurd rfl h0
  ·rw[hs]at em;cases em;exact fin (l:=[m']) e po hs Yz
def Ju(p:Nat)(rs:gP)(i:Nat):Nat:=p+((rs.take i).map fun r=>r.length+1).sum
def Wo{p:Nat}{rs:gP}{i:Nat}{r:cE}(h:rs[i]? =some r):Ju p rs (i+1)=Ju p rs i+1+r.length:=by
 unfold Ju;rw[take_snoc h,cJ,List.sum_append];simp;omega
structure Ap(l:cE)(p:Nat)(rs:gP):Prop where
 at_:∀(i:Nat) (r:cE),rs[i]? =some r->l[Ju p rs i]? =some (r.length:Int)/\Ju p rs i+1+r.length<=l.length/\(l.drop (Ju p rs i+1)).take r.length=r
def RRF:bM->Out->Prop:=fun args out=>∃(l:cE) (p:Nat) (rs:gP),Ap l p rs/\rs.length<=1000/\args=[.arr (l.map D.int),.int (p:Int),.int (rs.length:Int)]/\out= .ok (.tup [.lst (rs.map iD),.int (Ju p rs rs.length:Int)])
def a4R(B:Bx P K mg base Z):FG P w K mg base mx "rows_from" 41 RRF:=by
 refine lW (N:=Gb) B.Of qL ?_;rintro f dw A outer st H E hr args out ⟨l,p,rs,hR,ko,rfl,rfl⟩;let I:Nat->br:=fun i=>[.dat (.arr (l.map D.int)),.dat (.int (Ju p rs i:Int)),.dat (.int (rs.length:Int)),.own ((rs.take i).map iD),.no,.no];refine⟨.ret (.tup [.lst (rs.map iD),.int (Ju p rs rs.length:Int)]),ak (Co (i:=3) (ds:=[]) qL.nd (j3 rfl) ar) (ak (kP (τ:=.one 4) (items:=D0 0 rs.length) cX rfl (Es.eq (uU (j:=(rs.length:Int)) B.range (a8 2 rfl) (!0) (!0)) (by rw[bH])) (jY qL.nd) I ?_ rs.length (by rw[B8];exact ao _) (fun i d hi hd=>?_) (.inl ⟨by rw[B8],rfl⟩)) ?_),rfl⟩
 ·show zc _ [.dat (.arr (l.map D.int)),.dat (.int (Ju p rs 0:Int)),.dat (.int (rs.length:Int)),.own ((rs.take 0).map iD),.no,.no];rw[show Ju p rs 0=p from Nat.add_zero _];exact zc.refl _
 ·obtain⟨r,Yz⟩:∃r,rs[i]? =some r:=⟨_,aV hi⟩;obtain⟨h1,h2,h3⟩:=hR.at_ i r Yz;generalize hp:Ju p rs i=q at h1 h2 h3;refine⟨_,rfl,?_⟩;show wM _ _ [.dat (.arr (l.map D.int)),.dat (.int (Ju p rs i:Int)),.dat (.int (rs.length:Int)),.own ((rs.take i).map iD),.dat d,.no] _ (.next [.dat (.arr (l.map D.int)),.dat (.int (Ju p rs (i+1):Int)),.dat (.int (rs.length:Int)),.own ((rs.take (i+1)).map iD),.no,.no]);rw[Wo Yz,take_snoc Yz,cJ,hp];generalize hL:(rs.take i).map iD=L;have hLl:L.length<=1000:=by rw[<-hL,aa];exact bq (jW _ _) (!0)
  refine ia (ak (bW (i:=5) (d:=.int ((q+1:Nat):Int)) qL.nd (Ev.eq (wQ (a8 1 rfl) au) rfl)) (ak (bW (i:=1) (d:=.int ((q+1+r.length:Nat):Int)) qL.nd (Ev.eq (wQ (a8 5 rfl) (PH (i:=(q:Int)) (a8 0 rfl) (a8 1 rfl) (!0) (by rw[bH,aC,h1];rfl))) rfl)) (aK (uV (i:=3) (d:=iD r) rfl (Ev.eq (Jf (i:=q+1) (j:=q+1+r.length) (.inr rfl) (a8 0 rfl) (a8 5 rfl) (a8 1 rfl) (by rw[aa];omega) (by rw[aa];omega)) ?_) (!0))))) (bw (bw (bw (bw (cD (cD gD))))));rw[<-C5,<-xb,show q+1+r.length-(q+1)=r.length by omega,h3];rfl
 ·refine ll (i:=3) (l:=(rs.take rs.length).map iD) rfl (aK (cq (Ev.eq (nQ (ab (a8 3 rfl) (ab (a8 1 rfl) ar))) ?_)));rw[gG]
def MS{GI HI G H G' H':Hp}{ρ:br}(S:SR K GI HI G H σ ρ)(no:noOwn ρ)(g:bN G G')(s:bN G' H'):SR K G' H' G' H' σ ρ:=by
 refine⟨S.len,Ext.refl s,fun j sl h=>?_,S.one⟩;have z:=S.sl j sl h
 cases sl with
 | no=>trivial
 | dat d=>obtain⟨v,z1,z2⟩:=z;exact⟨v,z1,z2.mono g⟩
 | own l=>exact absurd h (no j l)
def OS(b:aI)(gl:cE):Hp:=fun x=>if x=b then some (.lst (gl.map V.int))else none
def MU(b:aI)(gl:cE):OS b gl b=some (.lst (gl.map V.int)):=if_pos rfl
def RX{gl:cE}(h:x≠b):OS b gl x=none:=if_neg h
def Tp{gl:cE}{o:HO}(h:OS b gl x=some o):x=b/\o= .lst (gl.map V.int):=by
 unfold OS at h;split at h
 ·rename_i e;cases h;exact⟨e,rfl⟩
 ·cases h
def PO.put{HI W3 G H H':Hp}{t:fu}(h:PO K C HI G H a t)(k:∀x,HI x=none->W3 x=none/\H' x=H x):PO K C W3 G H' a t:=by
 obtain⟨dx,sv,nv,ma,qs,h⟩:=h;refine⟨dx,sv,nv,ma,qs,by rw[(k _ h.fa.1).2];exact h.ob,⟨(k _ h.fa.1).1,h.fa.2⟩,h.sd,h.nd,by rw[(k _ h.fm.1).2];exact h.ml,⟨(k _ h.fm.1).1,h.fm.2⟩,h.nq,?_⟩;have r:=h.rows;refine QL.low (fun q hq=>(k _ (r.mem q hq).1).1) (QL.mono (bN.refl _) (fun q hq o e=>by rw[(k _ (r.mem q hq).1).2];exact e) (fun q hq=>(r.mem q hq).2.1) r)
structure LR(K:a9)(Z:Ad)(G H:Hp)(σ:L2.St)(ρ:br)(a b:aI)(t:fu)(gl:cE):Prop where
 sr:SR K G H G H σ ρ
 pa:σ[1]? =some (some (.ref a))
 ga:σ[2]? =some (some (.ref b))
 ob:PO K Z.gF (OS b gl) G H a t
 gv:H b=some (.lst (gl.map V.int))
 gn:G b=none
 no:noOwn ρ
section
variable {G H G' H':Hp}{σ:L2.St}{ρ:br}{a b:aI}{t:fu}{gl:cE}
def LR.ext(L:LR K Z G H σ ρ a b t gl)(e:Ext G H G' H'):LR K Z G' H' σ ρ a b t gl:=
 ⟨MS L.sr L.no e.g e.s,L.pa,L.ga,L.ob.mono L.sr.same e.g e.h e.o,e.h _ _ L.gv,e.o _ _ L.gv L.gn,L.no⟩
def Tq{ρ:br}{j:Nat}(h:noOwn ρ):noOwn (ρ.set j (.dat d)):=fun k l hk=>by
 by_cases q:k=j
 ·subst q;have lt:k<ρ.length:=by
   have:=(ag.mp hk).1;simpa using this
  rw[bt lt]at hk;cases hk
 ·rw[bf (g0 q)]at hk;exact h k l hk
def LR.set(L:LR K Z G H σ ρ a b t gl){j:Nat}(h1:j≠1)(h2:j≠2)(h:Dt K G v d):LR K Z G H (σ.set j (some v)) (ρ.set j (.dat d)) a b t gl:=
 ⟨L.sr.set h,by rw[bf h1];exact L.pa,by rw[bf h2];exact L.ga,L.ob,L.gv,L.gn,Tq L.no⟩
def LR.Xr{ρ':br}(L:LR K Z G H σ ρ a b t gl)(f:zc ρ ρ')(no:noOwn ρ'):LR K Z G H σ ρ' a b t gl:=⟨L.sr.Xr f,L.pa,L.ga,L.ob,L.gv,L.gn,no⟩
def LR.grow(L:LR K Z G H σ ρ a b t gl)(TX:cE):LR K Z G (upd H b (.lst (TX.map V.int))) σ ρ a b t TX:=by
 refine⟨MS L.sr L.no (bN.refl _) fun x o e=>?_,L.pa,L.ga,L.ob.put fun x hx=>?_,aU,L.gn,L.no⟩
 ·rw[aL (bo e L.gn)];exact L.sr.same _ _ e
 ·have:x≠b:=fun e=>by rw[e,MU]at hx;cases hx
  exact⟨RX this,aL this⟩
end
def tL(K:a9)(Z:Ad)(ρ:br)(t:fu)(gl:cE)(ρ':br)(t':fu)(TX:cE):TS:=fun Dn σ H=>∃G a b,LR K Z G H σ ρ a b t gl/\∀G' H' σ',LR K Z G' H' σ' ρ' a b t' TX->Dn.nx σ' H'
def Lx(X:Cx)(Z:Ad)(ρ:br)(t:fu)(gl:cE)(s:di)(ρ':br)(t':fu)(TX:cE):Prop:=PS X s (tL X.K Z ρ t gl ρ' t' TX)
def Lxs(X:Cx)(Z:Ad)(ρ:br)(t:fu)(gl:cE)(s:iT)(ρ':br)(t':fu)(TX:cE):Prop:=FX X s (tL X.K Z ρ t gl ρ' t' TX)
section
variable {X:Cx}{ρ ρ1 ρ2:br}{t t1 t2:fu}{gl gl1 gl2:cE}{s:di}{ss:iT}{e:du}{d:D}{pos:mH}
def wB(h:Lx X Z ρ t gl s ρ1 t1 gl1)(hr:Lxs X Z ρ1 t1 gl1 ss ρ2 t2 gl2):Lxs X Z ρ t gl (s::ss) ρ2 t2 gl2:=
 mJ (gJ h hr) fun Dn σ H ⟨G,a,b,L,q⟩=>⟨G,a,b,L,fun G1 H1 σ1 L1=>⟨G1,a,b,L1,q⟩⟩
def a1l(h:Lx X Z ρ t gl s ρ1 t1 gl1):Lxs X Z ρ t gl [s] ρ1 t1 gl1:=lP h
def Fp{j:Nat}(hN:X.N.Nodup)(h:Ev X ρ e d)(h1:j≠1:=by decide)(h2:j≠2:=by decide)(hj:X.N[j]? =some x:=by rfl)(hx:Loc X.env.scope x:=by walk_at "o")
  (hs:dj e (some (.Name x rk)) pos.line X.env=pure false:=by rfl)(hf:X.fn x=true\/X.env.scope.names.lookup x=some .local:=by walk_at "o"):Lx X Z ρ t gl (.Assign [.Name x rk] e pos) (ρ.set j (.dat d)) t gl:=
 eX (rP hN hj hx h (hs:=hs) (hf:=hf)) fun Dn σ H ⟨G,a,b,L,q⟩=>⟨G,H,G,L.sr,fun G1 H1 v e1 d1=>q G1 H1 _ ((L.ext e1).set h1 h2 d1)⟩
def Yo{o i:du}{k:Int}(ho:PE X o (tC (.ref a)))(hi:Ev X ρ i (.int k))(kd:KD X.K a k u)(r:RelV v u)(hd:∀G,Dt X.K G v d)(hs:a0i i:=by exact fun _ _=>rfl):Ev X ρ (.Subscript o i pos) d:=
 eL (RV ho hi hs) fun σ H Q ⟨GI,HI,G,S,q⟩=>⟨GI,HI,G,S,fun G1 H1 y e1 d1=>by cases d1;exact⟨a,k,v,u,rfl,rfl,kd,r,q G1 H1 v e1 (hd G1)⟩⟩
def Tr{a:du}{i:Int}{p1 p2 p3:mH}(ha:Ev X ρ a (.int i))(hl:gl.length<100000)(hN:X.N[2]? =some x:=by rfl)(hv:KS X.env.scope x:=by walk_at "o")(he:SE X a []:=by rfl)
  (ux:Uk X (.Name x p1) "append":=by rfl)
  (qQ:YE X p3 [a]:=by rfl)
  (uz:(p2.endLine == p3.line)=true:=by rfl)(oS:ya X p3 []:=by rfl)(hs:dj (.Call (.Attribute (.Name x p1) "append" p2) [a] [] p3) none pos.line X.env=pure false:=by rfl)
  (hd:(x == ("__debug__":cY))=false:=by decide)(qx:(x == ("__classdict__":cY))=false:=by decide):
  Lx X Z ρ t gl (.Expr (.Call (.Attribute (.Name x p1) "append" p2) [a] [] p3) pos) ρ t (gl++[i]):=
 eX (lj (FZ fh lL lM B3 (nP hN hv hd qx) (ab ha ar he) ux qQ uz he oS) hs) fun Dn σ H ⟨G,a,b,L,q⟩=>by
  refine⟨.ref b,L.ga,Z4 L.gv,G,H,G,L.sr,fun G1 H1 ws e1 d1=>?_⟩;obtain⟨w,rfl,hw⟩:=kO d1;cases hw;refine⟨b,gl.map V.int,.int i,rfl,rfl,e1.h _ _ L.gv,?_,?_⟩
  ·rw[aa];exact uR hl ck
  ·have:=(L.ext e1).grow (gl++[i]);rw[cJ]at this;exact q G1 _ _ this
def Ts{a:du}{l:cE}{p1 p2 p3:mH}(ha:Ev X ρ a (iD l))(hl:gl.length+l.length<=1000000)(hN:X.N[2]? =some x:=by rfl)(hv:KS X.env.scope x:=by walk_at "o")(he:SE X a []:=by rfl)
  (ux:Uk X (.Name x p1) "extend":=by rfl)
  (qQ:YE X p3 [a]:=by rfl)
  (uz:(p2.endLine == p3.line)=true:=by rfl)(oS:ya X p3 []:=by rfl)(hs:dj (.Call (.Attribute (.Name x p1) "extend" p2) [a] [] p3) none pos.line X.env=pure false:=by rfl)
  (xg:(x == ("__debug__":cY))=false:=by decide)(qx:(x == ("__classdict__":cY))=false:=by decide):
  Lx X Z ρ t gl (.Expr (.Call (.Attribute (.Name x p1) "extend" p2) [a] [] p3) pos) ρ t (gl++l):=
 eX (lj (FZ fh pz pA L9 (nP hN hv xg qx) (ab ha ar he) ux qQ uz he oS) hs) fun Dn σ H ⟨G,a,b,L,q⟩=>by
  refine⟨.ref b,L.ga,Z4 L.gv,G,H,G,L.sr,fun G1 H1 ws e1 d1=>?_⟩;obtain⟨w,rfl,hw⟩:=kO d1
  cases hw with
  | lst h1 r=>
   have er:=r.ints_of;subst er;refine⟨b,_,gl.map V.int,l.map V.int,rfl,rfl,e1.h _ _ L.gv,e1.s _ _ h1,?_,?_⟩
   ·rw[aa,aa];exact bq hl ck
   ·have:=(L.ext e1).grow (gl++l);rw[cJ]at this;exact q G1 _ _ this
def a1m{ps:bS}{k j:Nat}{x y:cY}{e1:du}{es:jT}{ds:bM}{p p1 jb rk:mH}(F:mq X.prog X.w X.K X.mg X.base mx k f fd ps (spM (Lr X.K Z) RAO))(hm:X.mg y=some (.ref f))(hk:i6 X.K (.ref f)=true)(hb:Binds X.K fd ps [])(hr:fZ k X.A)(hN:X.N.Nodup)(ha:Ea X ρ (e1::es) ds)(hR:RAO t ds (.ok d t1))(h1:j≠1:=by decide)(h2:j≠2:=by decide)(hj:X.N[j]? =some x:=by rfl)(hx:Loc X.env.scope x:=by walk_at "o")(hg:Gl X y:=by rfl)(Ke:X.N[1]? =some z:=by rfl)(hv:KS X.env.scope z:=by walk_at "o")
  (xg:(y == ("__debug__":cY))=false:=by decide)(hzd:(z == ("__debug__":cY))=false:=by decide)(hzc:(z == ("__classdict__":cY))=false:=by decide)(he:dM (.Name z p1::e1::es) X.env=(false,fX (.Name z p1) X.env)::dM (e1::es) X.env:=by rfl)(hpl:(nt jb (dM (e1::es) X.env)).any (·.1)=false:=by rfl)
  (hs:dj (.Call (.Name y p) (.Name z p1::e1::es) [] jb) (some (.Name x rk)) pos.line X.env=pure false:=by rfl)(hf:X.fn x=true\/X.env.scope.names.lookup x=some .local:=by walk_at "o"):
  Lx X Z ρ t gl (.Assign [.Name x rk] (.Call (.Name y p) (.Name z p1::e1::es) [] jb) pos) (ρ.set j (.dat d)) t1 gl:=
 eX (rP hN hj hx (QW (E:=E0) F hr hg hm hk hb .nil W5 (iz (nP Ke hv hzd hzc) ha he) xg he hpl) (hs:=hs) (hf:=hf)) fun Dn σ H ⟨G,a,b,L,q⟩=>by
  refine⟨.ref a,L.pa,G,H,G,L.sr,fun G1 H1 vs e1 d1=>?_⟩;have L1:=L.ext e1;refine⟨OS b gl,G1,a,t,ds,.ok d t1,vs++[],rfl,fun y o h=>?_,L1.sr.same,L1.ob,by rw[dC];exact d1,hR,fun G2 H2 v e2 ob dv=>?_⟩
  ·obtain⟨rfl,rfl⟩:=Tp h;exact L1.gv
  ·have e3:LR X.K Z G2 H2 σ ρ a b t1 gl:=⟨MS L1.sr L1.no e2.g e2.s,L1.pa,L1.ga,ob,e2.h _ _ (MU b gl),e2.o _ _ (MU b gl) L1.gn,L1.no⟩;exact q G2 H2 _ (e3.set h1 h2 dv)
def tRL(X:Cx)(Z:Ad)(ss:iT):TS:=fun Dn σ H=>∃ρ t gl ρ' t' TX,Lxs X Z ρ t gl ss ρ' t' TX/\tL X.K Z ρ t gl ρ' t' TX Dn σ H
def pRL{ss:iT}:FX X ss (tRL X Z ss):=fun pins s σ H Dn I ⟨ρ,t,gl,ρ',t',TX,h,q⟩=>h pins s σ H Dn I q
end
inductive Yp(l:cE):fu->Nat->cE->Nat->Prop
 | nil (t:fu):Yp l t l.length [] 0
 | cons {t:fu} {p:Nat} {out:cE} {k n:Nat} {ns:cE} {rs:gP} {c:jH}:Form n ns rs c->(∀r∈rs,r.length<=1000)->l[p]? =some (n:Int)->p+1+ns.length<=l.length->(l.drop (p+1)).take ns.length=ns->Ap l (p+1+ns.length) rs->
   Yp l (aw t c).1 (Ju (p+1+ns.length) rs rs.length) out k->Yp l t p ((((aw t c).2.length:Nat):Int)::((aw t c).2++out)) (k+1)
def OT(K:a9):Sp:=fun vs H Q _=>∃(G:Hp) (v:V) (l out:cE) (k:Nat),vs=[v]/\bN G H/\Dt K G v (.arr (l.map D.int))/\Yp l lB 0 out k/\k<=120/\∀H' b,H' b=some (.lst (out.map V.int))->Q (.ref b) H'
abbrev Wp(P:bp)(w:cH)(K:a9)(mg:MG)(base:cy)(f:aI)(dw:aH)(A:dD)(outer:iC)(s:ai)(H:Hp)(E:XK):Cx:=(vW mx P w K mg base Lj "answers" (aj lY) f dw A outer s H E).WW
def mP(l:cE)(p:Nat):br:=[.dat (.arr (l.map D.int)),.no,.no,.dat (.int (p:Int)),.no,.no,.no,.no,.no,.no]
def Wq{n:Nat}{ns:cE}{rs:gP}{c:jH}(h:Form n ns rs c):rs.length<=1000:=by
 cases h<;>(first | (show 0<=1000;decide) | (show 1<=1000;decide) | (show 2<=1000;decide))
def Yq(B:By P K mg base Z){A:dD}{outer:iC}{s:ai}(hr:fZ 59 (A.deeper (jQ "answers" (aj lY) s.heap.objs.size f dw))){l:cE}{t:fu}{p n:Nat}{ns gl:cE}{rs:gP}{c:jH}
  (hT:D3 t)(hf:Form n ns rs c)(hl:∀r∈rs,r.length<=1000)(h1:l[p]? =some (n:Int))(h2:p+1+ns.length<=l.length)(h3:(l.drop (p+1)).take ns.length=ns)(h4:Ap l (p+1+ns.length) rs)(hg:gl.length<=60000):
  ∃ρ',Lxs (Wp P w K mg base f dw A outer s H E) Z (mP l p) t gl (match(aX lY).getD 3 (.Pass ⟨0,0,0,0⟩)with | .While _ b _ _=>b | _=>[]) ρ' (aw t c).1 (gl++[(((aw t c).2.length:Nat):Int)]++(aw t c).2)/\zc ρ' (mP l (Ju (p+1+ns.length) rs rs.length)):=by
 obtain⟨aF,hF,a1n⟩:=B.a3f;obtain⟨bF,kd,db⟩:=a1n n _ (Wn hf);obtain⟨g,gd,gps,FO,gm,gk,gb⟩:=(a4P (w:=w) B).ex;have hal:=MQ hT c;generalize ha:(aw t c).2=ans at hal;refine⟨_,wB (Fp (j:=4) (d:=.int (n:Int)) kx.nd (PH (i:=(p:Int)) (a8 0 rfl) (a8 3 rfl) (!0) (by rw[bH,aC,h1];rfl)))
  (wB (Fp (j:=5) (d:=.tup [.int (ns.length:Int),.int (rs.length:Int)]) kx.nd (Yo (a:=aF) (Dj (v:=.ref aF) rfl hF rfl) (a8 4 rfl) kd (v:=.ref bF) rfl db))
  (wB (Fp (j:=6) (d:=.int ((p+1+ns.length:Nat):Int)) kx.nd (Ev.eq (wQ (wQ (a8 3 rfl) au) (gC (a8 5 rfl) au rfl)) rfl))
  (wB (Fp (j:=7) (d:=iD ns) kx.nd (Ev.eq (Jf (i:=p+1) (j:=p+1+ns.length) (.inr rfl) (a8 0 rfl) (Ev.eq (wQ (a8 3 rfl) au) rfl) (a8 6 rfl) (by rw[aa];omega) (by rw[aa];omega)) ?_))
  (wB (Fp (j:=8) (d:=.tup [.lst (rs.map iD),.int (Ju (p+1+ns.length) rs rs.length:Int)]) kx.nd (c7 (a4R B.toBx) hr.m (ab (a8 0 rfl) (ab (a8 6 rfl) (ab (gC (a8 5 rfl) au rfl) ar))) ⟨l,p+1+ns.length,rs,h4,Wq hf,rfl,rfl⟩))
  (wB (a1m (j:=9) (d:=iD ans) (t1:=(aw t c).1) FO gm gk gb hr.m kx.nd (ab (a8 4 rfl) (ab (a8 7 rfl) (ab (gC (a8 8 rfl) au rfl) ar))) ⟨n,ns,rs,c,hT,hf,hl,rfl,by rw[ha]⟩)
  (wB (Tr (i:=(ans.length:Int)) (Ev.eq (i9 B.len (a8 9 rfl)) (by rw[aa])) (!0))
  (wB (Ts (l:=ans) (a8 9 rfl) (by rw[aE,ah,bY];omega))
  (a1l (Fp (j:=3) (d:=.int (Ju (p+1+ns.length) rs rs.length:Int)) kx.nd (gC (a8 8 rfl) au rfl)))))))))),?_⟩
 ·rw[<-C5,<-xb,show p+1+ns.length-(p+1)=ns.length by omega,h3];rfl
 ·exact bw (bw (bw (bw (cD (cD (cD (cD (cD (cD gD)))))))))
def a3g(B:By P K mg base Z){fd:iL}(F:Hi K "answers" "answers" lY f fd):mq P w K mg base mx 60 f fd ["calls"] (OT K):=by
 obtain⟨fI,fdI,FI,MI⟩:=B.mkP.ex;refine F.ok (k:=59) kx (by rintro vs H Q E ⟨G,v,l,out,k,e,_⟩;rw[e];rfl) ?_;rintro dw A outer s H vs Q E hr ⟨G,v,l,ZE,k,rfl,sm,hv,hP,hk,q⟩
 have test:∀(p:Nat),Et (Wp P w K mg base f dw A outer s H E) (mP l p) (gE lY 3) (decide ((p:Int)<(l.length:Int))):=fun p=>
  Ld (a8 3 rfl) (Ev.eq (Xm B.len (a8 0 rfl)) (by rw[aa]))
 have whl:PS (Wp P w K mg base f dw A outer s H E) ((aX lY).getD 3 (.Pass ⟨0,0,0,0⟩)) (Uv (tRT (Wp P w K mg base f dw A outer s H E) (gE lY 3)) (tRL (Wp P w K mg base f dw A outer s H E) Z (match(aX lY).getD 3 (.Pass ⟨0,0,0,0⟩)with | .While _ b _ _=>b | _=>[]))):=HX cX pRT pRL;refine⟨_,gJ (rP (i:=1) kx.nd rfl (.inl rfl) (UI (E:=E0) MI (a4z B.toBx FI) hr.m rfl B.kcP (FI.binds) .nil zb)) (gJ (rP (i:=2) kx.nd rfl (.inl rfl) (vf nh)) (gJ (rP (i:=3) kx.nd rfl (.inl rfl) v9) (gJ whl (lP (HW (pv 2)))))),?_⟩;intro x dx hx hdx uN;have gx:G x=none:=sm.free hx;have gdx:G dx=none:=sm.free hdx;refine⟨x,dx,G,rfl,aU,fun b o e=>?_,gx,fun G' H' g1 g2 k1 k2 po=>⟨rfl,(by show 0<=bC;decide),fun b hb=>?_⟩⟩
 ·rw[aL (bo e gx),aL (bo e gdx)];exact sm _ _ e
 have hbG:G' b=none:=g2.free hb;have sG:bN G' (upd H' b (.lst [])):=fun y o e=>by rw[aL (bo e hbG)];exact g2 _ _ e
 have po1:PO K Z.gF (OS b []) G' (upd H' b (.lst [])) x lB:=by
  have h0:=po (fun _=>none) (fun _ _=>rfl) rfl;have h1:PO K Z.gF (OS b []) G' H' x lB:=h0.low fun y o h _=>RX fun e=>by rw[e,hb]at h;cases h
  exact h1.mono g2 (bN.refl _) (gK hb) fun _ _ _ z=>z
 have L0:LR K Z G' (upd H' b (.lst [])) [some v,some (.ref x),some (.ref b),some (.int 0),none,none,none,none,none,none] (mP l 0) x b lB []:=by
  refine⟨⟨rfl,Ext.refl sG,fun i sl hi=>?_,fun i j l1 l2 hi hj=>?_⟩,rfl,rfl,po1,aU,hbG,j3 rfl⟩
  ·match i,hi with
   | 0,hi=>cases hi;exact⟨_,rfl,hv.mono g1⟩
   | 1,hi=>cases hi;trivial
   | 2,hi=>cases hi;trivial
   | 3,hi=>cases hi;exact⟨_,rfl,.int 0⟩
   | 4,hi=>cases hi;trivial
   | 5,hi=>cases hi;trivial
   | 6,hi=>cases hi;trivial
   | 7,hi=>cases hi;trivial
   | 8,hi=>cases hi;trivial
   | 9,hi=>cases hi;trivial
   | i+10,hi=>simp[mP]at hi
  ·exact absurd hi (j3 (ρ:=mP l 0) rfl i l1)
 refine⟨fun m σ H=>∃G a b t p gl out,LR K Z G H σ (mP l p) a b t gl/\Yp l t p out m/\D3 t/\gl++out=ZE/\gl.length+401*m<=401*120,⟨k,G',x,b,lB,0,[],ZE,L0,hP,D3.start,rfl,by show 0+401*k<=_;omega⟩,?_⟩;rintro m σ H1 ⟨G1,a1,b1,t,p,gl,out,L,hp,hT,a1o,ko⟩
 cases hp with
 | nil=>
  refine⟨mP l l.length,false,Et.eq (test _) (decide_eq_false (!0)),G1,H1,G1,L.sr,fun G2 H2 e2=>ET ⟨.ref b1,L.ga,?_⟩⟩;rw[dC]at a1o;subst a1o;exact q _ _ (e2.h _ _ L.gv)
 | cons hf hl h1 h2 h3 h4 kN=>
  rename_i a4Z k' n ns rs c;have hpl:p<l.length:=(ag.mp h1).1;obtain⟨ρ',P9,hfg⟩:=Yq (w:=w) B (outer:=outer) (H:=H) (E:=E) hr hT hf hl h1 h2 h3 h4 (gl:=gl) (!0);refine⟨mP l p,true,Et.eq (test _) (decide_eq_true (!0)),G1,H1,G1,L.sr,fun G2 H2 e2=>Br ⟨fun σ' H'=>∃G3,LR K Z G3 H' σ' ρ' a1 b1 (aw t c).1 (gl++[(((aw t c).2.length:Nat):Int)]++(aw t c).2), ?_,mP l p,t,gl,ρ',_,_,P9,G2,a1,b1,L.ext e2,fun G3 H3 σ3 L3=>⟨G3,L3⟩⟩⟩;rintro σ' H' ⟨G3,L3⟩;refine⟨k',by omega,G3,a1,b1,_,_,_,a4Z,L3.Xr hfg (j3 rfl),kN,hT.step c,?_,?_⟩
  ·rw[<-a1o];simp
  ·have:=MQ hT c;rw[aE,aE,ah,bY];omega
def Wr(c:gP):AW c=c:=by
 rcases c with _|⟨_|⟨n,a⟩,r⟩;rfl;rfl
 rcases n with k|k;rcases k with _|_|_|_|_|_|_|_|_|_|_|_|_|k
 all_goals repeat' first|rfl|(rcases a with _|⟨_,a⟩)|rcases r with _|⟨_,r⟩
def Jv(p:Nat)(r:cE)(rs:gP)(i:Nat):Ju p (r::rs) (i+1)=Ju (p+1+r.length) rs i:=by
 unfold Ju;rw[BH,cM,mY];omega
def Ap.cons{l:cE}{p:Nat}{r:cE}{rs:gP}(h1:l[p]? =some (r.length:Int))(h2:p+1+r.length<=l.length)(h3:(l.drop (p+1)).take r.length=r)(h:Ap l (p+1+r.length) rs):Ap l p (r::rs):=by
 refine⟨fun i r' hi=>?_⟩
 cases i with
 | zero=>
  have e:r=r':=by simpa using hi
  subst e;exact⟨h1,h2,h3⟩
 | succ i=>
  rw[Jv];exact h.at_ i r' (by simpa using hi)
def drop_cons{l:cE}{p:Nat}{x:Int}{r:cE}(h:l.drop p=x::r):l[p]? =some x/\r=l.drop (p+1)/\p<l.length:=by
 have h1:p<l.length:=by
  by_cases q:p<l.length
  ·exact q
  ·rw[r9 (!0)]at h;cases h
 rw[oN h1]at h;cases h;exact⟨aV h1,rfl,h1⟩
theorem RY{l:cE}:∀{k p:Nat} {xs:gP} {s:cE},p<=l.length->AX k (l.drop p)=some (xs,s)->Ap l p xs/\s=l.drop (Ju p xs xs.length)/\Ju p xs xs.length<=l.length
 | 0,p,xs,s,hp,h=>by
  have e:some (([]:gP),l.drop p)=some (xs,s):=h;cases e;exact⟨⟨fun i r hi=>by simp at hi⟩,rfl,hp⟩
 | k+1,p,xs,s,hp,h=>by
  unfold AX at h
  cases hd:l.drop p with
  | nil=>rw[hd]at h;cases h
  | cons x r=>
   obtain⟨e1,e2,e3⟩:=drop_cons hd;rw[hd]at h;unfold PyFlat.row at h;by_cases hc:0<=x/\x.toNat<=r.length
   ·simp only[if_pos hc]at h
    cases hr:AX k (r.drop x.toNat)with
    | none=>rw[hr]at h;cases h
    | some y=>
     obtain⟨ys,s'⟩:=y;rw[hr]at h;have e:some (r.take x.toNat::ys,s')=some (xs,s):=h;cases e;have hl:(r.take x.toNat).length=x.toNat:=by rw[fY];omega
     have hrl:r.length=l.length-(p+1):=by rw[e2,kq]
     have QB:r.drop x.toNat=l.drop (p+1+(r.take x.toNat).length):=by rw[hl,e2,AS]
     rw[QB]at hr;obtain⟨i1,i2,i3⟩:=RY (!0) hr;refine⟨Ap.cons (by rw[hl,e1];congr 1;omega) (!0) (by rw[hl,<-e2]) i1,?_,?_⟩
     ·rw[ah,Jv];exact i2
     ·rw[ah,Jv];exact i3
   ·simp only[if_neg hc]at h;cases h
def Bl{n:Nat}{u:cE}(h:EA n u=true)(hn:n<=1000):u.length<=1000:=by
 unfold EA at h;have:=of_decide_eq_true (bg.mp h).1;omega
def Qw{c:gP}(h:jI c=true):∃(n:Nat) (ns:cE) (rs:gP) (call:jH),c=((n:Int)::ns)::rs/\Form n ns rs call/\Kt c=some call/\∀r∈rs,r.length<=1000:=by
 have no:∀r∈([]:gP),r.length<=1000:=fun r hr=>(nomatch hr)
 rcases c with _|⟨_|⟨n,a⟩,r⟩;cases h;cases h
 rcases n with k|k;rcases k with _|_|_|_|_|_|_|_|_|_|_|_|_|k
 all_goals repeat' first
  |(have h:false=true:=h;cases h)
  |exact⟨1,_,_,_,rfl,.say,rfl,no⟩
  |exact⟨2,_,_,_,rfl,.measure _ _ _ _,rfl,no⟩
  |exact⟨3,_,_,_,rfl,.forget _ _,rfl,no⟩
  |exact⟨4,_,_,_,rfl,.adjust _,rfl,no⟩
  |exact⟨5,_,_,_,rfl,.numbers _,rfl,no⟩
  |exact⟨7,_,_,_,rfl,.imbalance _,rfl,no⟩
  |exact⟨8,_,_,_,rfl,.without _ _,rfl,no⟩
  |exact⟨9,_,_,_,rfl,.suspect _,rfl,no⟩
  |exact⟨11,_,_,_,rfl,.share _ _ _,rfl,no⟩
  |exact⟨12,_,_,_,rfl,.told _,rfl,no⟩
  |exact⟨0,_,_,_,rfl,.sheet _,rfl,fun r hr=>by
   have e:r=_:=dQ.mp hr;subst e;exact Bl (n:=450) h ck⟩
  |exact⟨6,_,_,_,rfl,.check _ _ _,rfl,fun r hr=>by
   have h':=bg.mp (bg.mp h).2;rcases bQ.mp hr with e | hr
   ·subst e;exact Bl h'.1 ck
   have e:=dQ.mp hr;subst e;exact Bl h'.2 ck⟩
  |exact⟨10,_,_,_,rfl,.through _ _,rfl,fun r hr=>by have e:=dQ.mp hr;subst e;exact Bl (bg.mp h).2 ck⟩
  |(rcases a with _|⟨_,a⟩)
  |rcases r with _|⟨_,r⟩
def Tt{l:cE}:∀{f p:Nat} {t:fu} {cs:List gP},p<=l.length->yZ rg f (l.drop p)=some cs->cs.all jI=true->Yp l t p (GB (C7 q5 t cs)) cs.length:=by
 intro f
 induction f with
 | zero=>
  intro p t cs hp h ha
  cases hd:l.drop p with
  | nil=>
   rw[hd]at h;have e:some ([]:List gP)=some cs:=h;cases e;have hpl:p=l.length:=by
    have:=congrArg oa hd;rw[kq,bY]at this;omega
   subst hpl;exact .nil t
  | cons x r=>rw[hd]at h;cases h
 | succ f ih=>
  intro p t cs hp h ha
  cases hd:l.drop p with
  | nil=>
   rw[hd]at h;have e:some ([]:List gP)=some cs:=h;cases e;have hpl:p=l.length:=by
    have:=congrArg oa hd;rw[kq,bY]at this;omega
   subst hpl;exact .nil t
  | cons x r=>
   obtain⟨e1,e2,e3⟩:=drop_cons hd;rw[hd]at h;unfold yZ at h
   cases hc:P2 rg (x::r)with
   | none=>rw[hc]at h;cases h
   | some y=>
    obtain⟨c,s⟩:=y;rw[hc]at h;simp only at h
    cases hr:yZ rg f s with
    | none=>rw[hr]at h;cases h
    | some cs'=>
     rw[hr]at h;have e:some (c::cs')=some cs:=h;cases e;have hac:=bg.mp (show(jI c && cs'.all jI)=true from ha);obtain⟨n,ns,rs,call,ec,hf,hco,N6⟩:=Qw hac.1;unfold P2 at hc;simp only at hc
     cases hs:rg x with
     | none=>rw[hs]at hc;cases hc
     | some nk=>
      obtain⟨n',k'⟩:=nk;rw[hs]at hc;simp only at hc;by_cases Pa:r.length<n'
      ·rw[if_pos Pa]at hc;cases hc
      ·rw[if_neg Pa]at hc
       cases hw:AX k' (r.drop n')with
       | none=>rw[hw]at hc;cases hc
       | some z=>
        obtain⟨xs,s'⟩:=z;rw[hw]at hc;have e':some ((x::r.take n')::xs,s')=some (c,s):=hc;cases e';have e4:x=(n:Int)/\r.take n'=ns/\xs=rs:=by
         have:=ec;injection this with a1 a2;injection a1 with b1 b2;exact⟨b1,b2,a2⟩
        obtain⟨rfl,h5,rfl⟩:=e4;have ZD:ns.length=n':=by rw[<-h5,fY];omega
        have hrl:r.length=l.length-(p+1):=by rw[e2,kq]
        have QB:r.drop n'=l.drop (p+1+ns.length):=by rw[ZD,e2,AS]
        rw[QB]at hw;obtain⟨i1,i2,i3⟩:=RY (!0) hw;rw[i2]at hr;have vU:q5 t (((n:Int)::r.take n')::xs)=aw t call:=by
         show(match Kt (((n:Int)::r.take n')::xs)with | none=>(t,[]) | some c=>aw t c)=_;rw[hco]
        have hih:=ih (t:=(aw t call).1) i3 hr hac.2;have:=Yp.cons (t:=t) (p:=p) hf N6 e1 (!0) (by rw[ZD,<-e2,h5]) i1 hih;have et:GB (C7 q5 t ((((n:Int)::r.take n')::xs)::cs'))=(((aw t call).2.length:Nat):Int)::((aw t call).2++GB (C7 q5 (aw t call).1 cs')):=by
         rw[<-vU];rfl
        rw[et];exact this
def Tu{l:cE}(h:z6 l=true):∃k,Yp l lB 0 (FF l) k/\k<=120:=by
 unfold z6 JY at h;unfold FF JY
 cases hc:yZ rg l.length l with
 | none=>rw[hc]at h;cases h
 | some cs=>
  rw[hc]at h;simp only at h ⊢;have ew:cs.map AW=cs:=by
   conv=>rhs;rw[<-GA cs]
   exact jU fun c _=>Wr c
  rw[ew]at h ⊢;have h1:=bg.mp h;have h2:=bg.mp (bg.mp (show(decide (1<=cs.length) && (decide (cs.length<=120) && cs.all jI))=true from h1.2)).2;exact⟨cs.length,Tt (p:=0) (gW _) (by rw[JX];exact hc) h2.2,of_decide_eq_true h2.1⟩
section
open PySem.W (Codec OpenSpec WellAll ReadsW ReadsAllW)
theorem Lw{Pm:Params}:∀{l:cE} {vs:fk},WellAll Pm h vs (l.map Bo)->Vals (l.map V.int) vs
 | [],_,x=>by cases x;exact .nil
 | i::l,_,x=>by
  cases x with
  | cons a b=>cases a;exact .cons ⟨_,rfl⟩ (Lw b)
theorem Ly{R:PySem.W.WRecords}{cl:cY->rj}:∀{l:cE} {us:fk},Vals (l.map V.int) us->ReadsAllW R cl h us (l.map Bo) []
 | [],_,r=>by cases r;exact .nil
 | i::l,_,r=>by
  cases r with
  | cons a b=>
   obtain⟨t,rfl⟩:=a;exact .cons (as:=[]) (bs:=[]) (.int i t) (Ly b)
def Ws(K:a9)(a:aI)(o:uC)(l:cE):Hp:=fun b=>if b=a/\K.lookup a=none then some (.P4 o (.lst (l.map V.int)))else none
def Qx{K:a9}{a b:aI}{o:uC}{l:cE}{u:HO}(h:Ws K a o l b=some u):b=a/\K.lookup a=none/\u= .P4 o (.lst (l.map V.int)):=by
 unfold Ws at h;split at h
 ·rename_i q;cases h;exact⟨q.1,q.2,rfl⟩
 ·cases h
def Tv{w:cH}{K:a9}{mg mb:MG}{fd:iL}{s₁:ai}{vs:fk}{l out:cE}{k:Nat}{cl:cY->rj}
  (KX:K.In s₁.heap)(Jx:s₁.heap.Ns bE mg)(hb:s₁.heap.Ns JG mb)(hbb:∀x:cY,x≠ "__name__"->mb x=fE x)(a50:s₁.heap.NoLimit)(a4S:s₁.heap.NoSeer)(hg:s₁.gens= #[])
  (ho:s₁.heap.get? a=some {cls:=.type "list",data:=.seq vs.toArray})(JB:WellAll w.params s₁.heap vs (l.map Bo))(ko:l.length<=17000)(hP:Yp l lB 0 out k)(hk:k<=120)
  (F:∀base:cy,K.In base->base.Ns bE mg->base.NoSeer->base.NoLimit->mq P w K mg base mx 60 fa fd ["calls"] (OT K))(a3p:∀(s:ai) (us:fk),us.length=1->Hv s fd ⟨us,[]⟩ ((["calls"]:bS).zip us)):
  sZ (c9 P w) callerA (.call (.ref fa) ⟨[.ref a],[]⟩) (fun r s'=>∃u as,r= .ok (.ret u)/\ReadsW [] cl s'.heap u (.list (out.map Bo)) as/\OldK s₁.heap s'.heap/\s'.os=s₁.os/\yM s'.gens) s₁:=by
 have hv:=Lw JB;have hvl:vs.length<=bC:=by
  rw[<-hv.length,aa];exact bq ko ck
 generalize hH:Ws K a {cls:=.type "list",data:=.seq vs.toArray} l=H;have look:∀{b:aI} {u:HO},H b=some u->b=a/\K.lookup a=none/\u= .P4 {cls:=.type "list",data:=.seq vs.toArray} (.lst (l.map V.int)):=fun {b u} h=>Qx (by rw[hH];exact h);have hok:D1 P w H s₁.heap:=fun b u q=>by
  obtain⟨rfl,_,rfl⟩:=look q;exact⟨ho,by rw[aa];exact bq ko ck,vs,_,hv,ho⟩
 have hS:lC K H a (l.map V.int):=by
  cases hl:K.lookup a with
  | none=>exact .inl (.inr ⟨_,by rw[<-hH];exact if_pos ⟨rfl,hl⟩⟩)
  | some o=>
   have e2:=KX a o hl;rw[ho]at e2;obtain rfl:=be e2;exact .inr ⟨_,vs.toArray,_,hl,rfl,rfl,rfl,by rw[bu];exact hvl,by simpa using hv⟩
 have YS:∀{b:aI} {o:uC},s₁.heap.get? b=some o->o.cls≠ .type "list"->H b=none:=fun {b o} e d=>by
  cases q:H b with
  | none=>rfl
  | some u=>
   obtain⟨rfl,_,_⟩:=look q;rw[ho]at e;cases e;exact absurd rfl d
 have noD:∀{b:aI} {o:uC} {es:Array qw} {ep:Nat},s₁.heap.get? b=some o->o.data= .dict es ep->H b=none:=fun {b o es ep} e d=>by
  cases q:H b with
  | none=>rfl
  | some u=>
   obtain⟨rfl,_,_⟩:=look q;rw[ho]at e;cases e;cases d
 have MV:∀{b:aI} {o:uC},s₁.heap.get? b=some o->H b=none->(HS s₁.heap H).get? b=some o:=fun e n=>Uj e n;have Zt:∀{b:aI} {m:MG},s₁.heap.Ns b m->(HS s₁.heap H).Ns b m:=fun {b m} ⟨o,es,ep,e,d,r⟩=>⟨o,es,ep,MV e (noD e d),d,r⟩;have hKb:K.In (HS s₁.heap H):=fun b o e=>MV (KX b o e) (by
  cases q:H b with
  | none=>rfl
  | some u=>
   obtain⟨rfl,z,_⟩:=look q;rw[z]at e;cases e)
 have Zu:(HS s₁.heap H).NoLimit:=let⟨mc,h1,h2⟩:=a50;⟨mc,Zt h1,h2⟩;have a3h:(HS s₁.heap H).NoSeer:=by
  obtain⟨⟨mc,a1,b1,c1⟩,⟨mm,a2,b2⟩,⟨mb',a3,b3⟩,⟨mg',bm,ob,a4,b4,c4,d4,e4⟩⟩:=a4S;exact⟨⟨mc,Zt a1,b1,c1⟩,⟨mm,Zt a2,b2⟩,⟨mb',Zt a3,b3⟩,⟨mg',bm,ob,Zt a4,b4,MV c4 (YS c4 (by rw[d4];decide)),d4,e4⟩⟩
 have hM:Mod K mg (HS s₁.heap H):=⟨hKb,Zt Jx,⟨mb,Zt hb,hbb⟩,Zu⟩;have e0:Pw P w K mg (HS s₁.heap H) callerA [] s₁ H:=⟨rfl,hM,fun b o e=>WT e,uQ (Sh _ _),trivial,fun b hb=>absurd (show b∈([]:kL)from hb) (!1),hok,.of_eq hg⟩;have hsp:OT K [.ref a] H (fun v H'=>∃b,v= .ref b/\H' b=some (.lst (out.map V.int))) (fun _ _ _=>False):=
  ⟨H,.ref a,l,out,k,rfl,bN.refl _,.arr hS (bV.ints l),hP,hk,fun H' b hb=>⟨b,rfl,hb⟩⟩
 refine qX ((F _ hKb (Zt Jx) a3h Zu).run callerA [] s₁ H ⟨[.ref a],[]⟩ [.ref a] [.ref a] _ _ ⟨rfl,by decide,by decide⟩ e0 (a3p s₁ [.ref a] rfl) (.cons rfl .nil) hsp) fun r s' x=>?_
 cases r with
 | error e=>exact x.elim
 | ok fl=>
  cases fl with
  | next=>exact gN x
  | brk=>exact gN x
  | cont=>exact gN x
  | ret u=>
   obtain⟨v,H',os,bare,un,a3i,r',b,rfl,q⟩:=x;obtain rfl:u=cj b:=r';have kept:∀b o,s₁.heap.get? b=some o->s'.heap.get? b=some o:=fun b o e=>by
    cases q2:H b with
    | none=>exact un.keep b o e q2 (by intro z;exact absurd (show b∈([]:kL)from z) (!1)) (!1)
    | some u2=>
     obtain⟨rfl,_,rfl⟩:=look q2;have z2:=un.HR b _ _ q2;obtain⟨e1,_⟩:=hok b _ q2;obtain⟨e2,_⟩:=a3i b _ z2;rw[e]at e1;cases e1;exact e2
   obtain⟨_,eI,n,hv',e'⟩:=(show jK P w H' s'.heap b (.lst (out.map V.int))from a3i b _ q);exact⟨_,_,rfl,.list e' rfl rfl (by simpa using Ly hv'),OldK.of_keep kept,os,bare⟩
def Wu{q:bp}{a3q:bS}{XP:(cY->iF)->cy->Prop}{YP:cH->cy->Prop}{d:DefRec}{K:Params->a9}(hi:PyProof.Rows.importsNone q=true)
  (hY:∀(w:cH) (h:cy),YP w h->(K w.params).In h)
  (F:∀(w:cH) (mg:MG) (fa:aI) (h:cy),YP w h->(K w.params).In h->h.Ns bE mg->mg d.name=some (.ref fa)->
   ∃fd:iL,(∀(s:ai) (us:fk),us.length=1->Hv s fd ⟨us,[]⟩ ((["calls"]:bS).zip us))/\
    ∀base:cy,(K w.params).In base->base.Ns bE mg->base.NoSeer->base.NoLimit->mq PySem.Challenge.rw_streambalance_s01_answers.prog w (K w.params) mg base mx 60 fa fd ["calls"] (OT (K w.params))):
  PySem.W.WalkOS q a3q XP YP PySem.Challenge.rw_streambalance_s01_answers d [] (fun f vs=>PySem.call f vs):=by
 intro w GC s₁ mg mb G Y fa o pm cd doc dV kV ho hd qx hD hmg hg args Yx as a51 hlay hrd hwl hlo
 obtain⟨a,e1,e2⟩:=PySem.W.os_pre_some a51
 obtain⟨e3,hwi⟩:=Codec.encAll_of_decAll _ args a e1
 subst e3
 have KX:=hY w _ Y
 obtain⟨fd,hb,hF⟩:=F w mg fa _ Y KX G.T.g hmg
 have hq:((Codec.inLen 0 17000 a.1 && a.1.all (Codec.inInt (-1000000000000000000) 1000000000000000000)) && true)=true:=hwi
 rw[c8,c8]at hq
 obtain⟨k,hP,hk⟩:=Tu (l:=a.1) e2
 have hw1:WellAll w.params s₁.heap Yx [.list (a.1.map Bo)]:=hwl
 cases hw1 with
 | cons h1 h2=>
 cases h2
 cases h1 with
 | list a52 JB=>
 refine PySem.W.enter_call (qX (Tv (cl:=classAt GC.heap) KX G.T.g G.T.b G.T.builtins G.T.nolimit (G.T.seer hi) hg a52 JB (Codec.inNat_iff.mp hq.1.1).2 hP hk hF hb) fun r' s' Ht=>?_)
 obtain⟨u,as',rfl,h1,h2,h3,h4⟩:=Ht
 exact⟨.inl ⟨u,_,as',rfl,fun _=>rfl,h1,(OpenSpec.post_iff (by decide+kernel) hwi _ _).mpr rfl,fun z=>Bool.noConfusion (show false=true from z)⟩,h2,h3,h4⟩
end
open PySem.W (isFn typeIn)
section
variable {h:cy}{x fO m:cY}{st:di}{f C:aI}{oc kV dc pm cd ct:aH}{od an:rj}{sl:BK}
def ftk(X:K.In h)(G:h.Ns bE mg)(a:u0 K bE x=some (some (.ref f)))(l:K.lookup f=some ⟨oc,od,.func (fF x x (nA st) (aX st) (aj st) .none kV dc pm an cd ct),sl⟩)(c:N0 K cd x=true)(k:FH K (.ref f)=true):tF K mg x st:=
 ⟨f,_,Im l c k,rG X G a⟩
def fmk(a:lN K (.ref C) m=some (some (.ref f)))(i:isFn K (.ref f)=true)(l:K.lookup f=some ⟨oc,od,.func (fF m fO (nA st) (aX st) (aj st) .none kV dc pm an cd ct),sl⟩)(c:N0 K cd fO=true)(k:FH K (.ref f)=true):DJ K C m fO st:=
 ⟨f,_,Im l c k,⟨a,i,k⟩⟩
def mkk(mk:zy K C=true)(a:lN K (.ref C) "__init__" =some (some (.ref f)))(i:isFn K (.ref f)=true)(kc:FH K (.ref C)=true)(l:K.lookup f=some ⟨oc,od,.func (fF "__init__" fO (nA st) (aX st) (aj st) .none kV dc pm an cd ct),sl⟩)(c:N0 K cd fO=true)(k:FH K (.ref f)=true):MkT K C fO st:=
 ⟨f,_,Im l c k,⟨mk,a,i,kc⟩⟩
def xsk{cd:ClassData}(sa:lN K (.ref C) "__setattr__" =some (some (.builtin "object.__setattr__")))(c:LC K C=some cd)(o:(dg cd.mro && cd.hasDict)=true)(nn:lN K (.ref C) m=some none):XSt K C m:=
 ⟨sa,⟨cd,c,bg.mp o⟩,nn⟩
def xtk{cl:ClassData}(X:K.In h)(G:h.Ns bE mg)(a0:u0 K bE x=some (some (.ref C)))(mk:DT K C=true)(a:lN K (.ref C) "__init__" =some (some (.ref f)))(i:isFn K (.ref f)=true)(kc:FH K (.ref C)=true)(ty:typeIn K (.ref C)=some (.type "type"))
  (ex:xM K C (.type "Exception")=some true)(sa:lN K (.ref C) "__setattr__" =some (some (.builtin "object.__setattr__")))(cc:LC K C=some cl)(o:(dg cl.mro && cl.hasDict)=true)(nn:lN K (.ref C) "number" =some none)(bs:xM K C (.type "BaseException")=some true)
  (su:xM K C (.ref Z.qN)=some true)(ga:lN K (.ref C) "__getattribute__" =some (some (.builtin "BaseException.__getattribute__")))(gt:lN K (.ref C) "__getattr__" =some none)(hd:nG K C=true)
  (l:K.lookup f=some ⟨oc,od,.func (fF "__init__" fO (nA st) (aX st) (aj st) .none kV dc pm an cd ct),sl⟩)(c:N0 K cd fO=true)(k:FH K (.ref f)=true):XT K mg Z x fO st C:=
 ⟨rG X G a0,f,_,Im l c k,⟨⟨mk,a,i,kc,ty⟩,⟨ex,xsk sa cc o nn⟩,bs,⟨su,bs,ga,gt,nn,hd⟩⟩⟩
def rfk(a:EB K (.ref R) "__getattribute__" =some (some (.builtin "type.__getattribute__")))(b:um K R (.type "type")=true)(d:mV K (.ref R) (.type "type") "__init__" =some (.val (.ref f)))
  (l:K.lookup f=some ⟨oc,od,.func (fF "__init__" fO (nA st) (aX st) (aj st) .none kV dc pm an cd ct),sl⟩)(c:N0 K cd fO=true)(k:FH K (.ref f)=true):
  ∃f fd,Hi K "__init__" fO st f fd/\EB K (.ref R) "__getattribute__" =some (some (.builtin "type.__getattribute__"))/\um K R (.type "type")=true/\mV K (.ref R) (.type "type") "__init__" =some (.val (.ref f)):=
 ⟨f,_,Im l c k,a,b,d⟩
def cik{i:Int}{t:Tok}(X:K.In h)(G:h.Ns bE mg)(a:u0 K bE x=some (some (.int i t))):∃t,mg x=some (.int i t):=⟨t,rG X G a⟩
def intsOf:fk->Option cE
 | []=>some []
 | .int i _::r=>(intsOf r).map (i:: ·)
 | _=>none
theorem Gk:∀{vs:fk} {l:cE},intsOf vs=some l->Vals (l.map V.int) vs
 | [],l,h=>by
  have e:some ([]:cE)=some l:=h;cases e;exact .nil
 | v::r,l,h=>by
  cases v with
  | int i t=>
   have e:(intsOf r).map (i:: ·)=some l:=h
   cases q:intsOf r with
   | none=>rw[q]at e;cases e
   | some l'=>rw[q]at e;cases e;exact .cons ⟨t,rfl⟩ (Gk q)
  | _=>cases h
def RZ{eI:nc}{n:Nat}{l:cE}(e:K.lookup a=some ⟨.type "tuple",od,.seq eI n,sl⟩)(hi:intsOf eI.toList=some l)(hl:l.length<=1000:=by decide):∀G,Dt K G (.ref a) (.tup (l.map D.int)):=fun G=>by
 have hv:=Gk hi;have hz:eI.size<=bC:=by
  rw[<-uD,<-hv.length,aa];exact kg (xp hl)
 exact .tup (.inr ⟨_,eI,n,e,rfl,rfl,hz,hv⟩) (bV.ints l)
def ctk{eI:nc}{n:Nat}{l:cE}(X:K.In h)(G:h.Ns bE mg)(e0:u0 K bE x=some (some (.ref a)))(e:K.lookup a=some ⟨.type "tuple",od,.seq eI n,sl⟩)(hi:intsOf eI.toList=some l)(hl:l.length<=1000:=by decide):∃a,mg x=some (.ref a)/\∀G,Dt K G (.ref a) (.tup (l.map D.int)):=
 ⟨a,rG X G e0,RZ e hi hl⟩
def tabOf:List qw->Option (List (Int×aI))
 | []=>some []
 | ⟨hs,.int k _,.ref b⟩::r=>if hs=Hu k then(tabOf r).map ((k,b):: ·)else none
 | _=>none
theorem Wv:∀{es:List qw} {tb:List (Int×aI)},tabOf es=some tb->intKeys es/\∀k b,tb.lookup k=some b->(es.find? fun e=>jE k e.key).map (·.val)=some (.ref b)
 | [],tb,h=>by
  have e:some ([]:List (Int×aI))=some tb:=h;cases e;exact⟨trivial,fun k b q=>by cases q⟩
 | ⟨hs,ky,v⟩::r,tb,h=>by
  cases ky with
  | int k t=>
   cases v with
   | ref b=>
    have e:(if hs=Hu k then(tabOf r).map ((k,b):: ·)else none)=some tb:=h;split at e
    ·rename_i hh
     cases q:tabOf r with
     | none=>rw[q]at e;cases e
     | some tb'=>
      rw[q]at e;cases e;obtain⟨i1,i2⟩:=Wv q;refine⟨⟨⟨k,t,rfl,hh⟩,i1⟩,fun k' b' hl=>?_⟩;rw[l6];rw[bP]at hl;by_cases hk:k'=k
      ·subst hk;rw[beq_self_eq_true]at hl;cases hl;rw[show jE k' (N1 hs (.int k' t) (.ref b)).key=true by simp[jE]];rfl
      ·rw[beq_eq_false_iff_ne.mpr hk]at hl;rw[show jE k' (N1 hs (.int k t) (.ref b)).key=false by simp[jE];exact fun e=>hk e.symm];exact i2 k' b' hl
    ·cases e
   | _=>cases h
  | _=>cases h
def KD.of{es:Array qw}{n:Nat}{tb:List (Int×aI)}(e:K.lookup a=some ⟨.type "dict",none,.dict es n, #[]⟩)(ht:tabOf es.toList=some tb){k:Int}(hl:tb.lookup k=some b):KD K a k (.ref b):=by
 obtain⟨i1,i2⟩:=Wv ht;refine⟨es,n,e,i1,?_⟩;have:=i2 k b hl;unfold findBy;rw[<-CP];exact this
end
def fok{h:cy}{a b0 b1 b2 b3 b4 b5 b6 b7 b8 b9 b10 b11 b12:aI}{es:Array qw}{n:Nat}(X:K.In h)(G:h.Ns bE mg)(e0:u0 K bE "FORMS" =some (some (.ref a)))(e:K.lookup a=some ⟨.type "dict",none,.dict es n, #[]⟩)(ht:tabOf es.toList=some [(0,b0),(1,b1),(2,b2),(3,b3),(4,b4),(5,b5),(6,b6),(7,b7),(8,b8),(9,b9),(10,b10),(11,b11),(12,b12)])
  (d0:∀G,Dt K G (.ref b0) (.tup [.int 0,.int 1]))(d1:∀G,Dt K G (.ref b1) (.tup [.int 0,.int 0]))(d2:∀G,Dt K G (.ref b2) (.tup [.int 4,.int 0]))(d3:∀G,Dt K G (.ref b3) (.tup [.int 2,.int 0]))(d4:∀G,Dt K G (.ref b4) (.tup [.int 1,.int 0]))(d5:∀G,Dt K G (.ref b5) (.tup [.int 1,.int 0]))(d6:∀G,Dt K G (.ref b6) (.tup [.int 1,.int 2]))(d7:∀G,Dt K G (.ref b7) (.tup [.int 1,.int 0]))(d8:∀G,Dt K G (.ref b8) (.tup [.int 2,.int 0]))(d9:∀G,Dt K G (.ref b9) (.tup [.int 1,.int 0]))(d10:∀G,Dt K G (.ref b10) (.tup [.int 1,.int 1]))(d11:∀G,Dt K G (.ref b11) (.tup [.int 3,.int 0]))(d12:∀G,Dt K G (.ref b12) (.tup [.int 1,.int 0])):
  ∃a,mg "FORMS" =some (.ref a)/\∀(n:Nat) x,Ym[n]? =some x->∃b,KD K a (n:Int) (.ref b)/\∀G,Dt K G (.ref b) (.tup [.int x.1,.int x.2]):=by
 refine⟨a,rG X G e0,fun n x hx=>?_⟩
 match n,hx with
 | 0,hx=>cases hx;exact⟨b0,KD.of e ht rfl,d0⟩
 | 1,hx=>cases hx;exact⟨b1,KD.of e ht rfl,d1⟩
 | 2,hx=>cases hx;exact⟨b2,KD.of e ht rfl,d2⟩
 | 3,hx=>cases hx;exact⟨b3,KD.of e ht rfl,d3⟩
 | 4,hx=>cases hx;exact⟨b4,KD.of e ht rfl,d4⟩
 | 5,hx=>cases hx;exact⟨b5,KD.of e ht rfl,d5⟩
 | 6,hx=>cases hx;exact⟨b6,KD.of e ht rfl,d6⟩
 | 7,hx=>cases hx;exact⟨b7,KD.of e ht rfl,d7⟩
 | 8,hx=>cases hx;exact⟨b8,KD.of e ht rfl,d8⟩
 | 9,hx=>cases hx;exact⟨b9,KD.of e ht rfl,d9⟩
 | 10,hx=>cases hx;exact⟨b10,KD.of e ht rfl,d10⟩
 | 11,hx=>cases hx;exact⟨b11,KD.of e ht rfl,d11⟩
 | 12,hx=>cases hx;exact⟨b12,KD.of e ht rfl,d12⟩
 | n+13,hx=>simp[Ym]at hx
def aok{h:cy}{a b0 b1 b2 b3 b4 b5 b6 b7 b8 b9 b10 b11 b12:aI}{es:Array qw}{n:Nat}(X:K.In h)(G:h.Ns bE mg)(e0:u0 K bE "ANSWERERS" =some (some (.ref a)))(e:K.lookup a=some ⟨.type "dict",none,.dict es n, #[]⟩)(ht:tabOf es.toList=some [(0,b0),(1,b1),(2,b2),(3,b3),(4,b4),(5,b5),(6,b6),(7,b7),(8,b8),(9,b9),(10,b10),(11,b11),(12,b12)])
  (m0:u0 K bE "answer_sheet" =some (some (.ref b0)))(m1:u0 K bE "answer_say" =some (some (.ref b1)))(m2:u0 K bE "answer_measure" =some (some (.ref b2)))(m3:u0 K bE "answer_forget" =some (some (.ref b3)))(m4:u0 K bE "answer_adjust" =some (some (.ref b4)))(m5:u0 K bE "answer_numbers" =some (some (.ref b5)))(m6:u0 K bE "answer_check" =some (some (.ref b6)))(m7:u0 K bE "answer_imbalance" =some (some (.ref b7)))(m8:u0 K bE "answer_without" =some (some (.ref b8)))(m9:u0 K bE "answer_suspect" =some (some (.ref b9)))(m10:u0 K bE "answer_through" =some (some (.ref b10)))(m11:u0 K bE "answer_share" =some (some (.ref b11)))(m12:u0 K bE "answer_told" =some (some (.ref b12))):
  ∃a,mg "ANSWERERS" =some (.ref a)/\∀(n:Nat) x,Yl[n]? =some x->∃f,mg x=some (.ref f)/\KD K a (n:Int) (.ref f):=by
 refine⟨a,rG X G e0,fun n x hx=>?_⟩
 match n,hx with
 | 0,hx=>cases hx;exact⟨b0,rG X G m0,KD.of e ht rfl⟩
 | 1,hx=>cases hx;exact⟨b1,rG X G m1,KD.of e ht rfl⟩
 | 2,hx=>cases hx;exact⟨b2,rG X G m2,KD.of e ht rfl⟩
 | 3,hx=>cases hx;exact⟨b3,rG X G m3,KD.of e ht rfl⟩
 | 4,hx=>cases hx;exact⟨b4,rG X G m4,KD.of e ht rfl⟩
 | 5,hx=>cases hx;exact⟨b5,rG X G m5,KD.of e ht rfl⟩
 | 6,hx=>cases hx;exact⟨b6,rG X G m6,KD.of e ht rfl⟩
 | 7,hx=>cases hx;exact⟨b7,rG X G m7,KD.of e ht rfl⟩
 | 8,hx=>cases hx;exact⟨b8,rG X G m8,KD.of e ht rfl⟩
 | 9,hx=>cases hx;exact⟨b9,rG X G m9,KD.of e ht rfl⟩
 | 10,hx=>cases hx;exact⟨b10,rG X G m10,KD.of e ht rfl⟩
 | 11,hx=>cases hx;exact⟨b11,rG X G m11,KD.of e ht rfl⟩
 | 12,hx=>cases hx;exact⟨b12,rG X G m12,KD.of e ht rfl⟩
 | n+13,hx=>simp[Yl]at hx
def na3{x y z:cY}(a:lN K (.ref C) x=some none)(b:lN K (.ref C) y=some none)(c:lN K (.ref C) z=some none):∀f∈[x,y,z],rQ K C f:=fun f hf=>by
 simp only[bQ,FJ,or_false]at hf;rcases hf with rfl | rfl | rfl
 ·exact a
 ·exact b
 ·exact c
def na4{x y z u:cY}(a:lN K (.ref C) x=some none)(b:lN K (.ref C) y=some none)(c:lN K (.ref C) z=some none)(d:lN K (.ref C) u=some none):∀f∈[x,y,z,u],rQ K C f:=fun f hf=>by
 simp only[bQ,FJ,or_false]at hf;rcases hf with rfl | rfl | rfl | rfl
 ·exact a
 ·exact b
 ·exact c
 ·exact d
def a1p{fa cB cT cP cR cO cN cS cW:aI}(aB:u0 K bE "Balance" =some (some (.ref cB)))(aT:u0 K bE "TextReader" =some (some (.ref cT)))(aP:u0 K bE "Plant" =some (some (.ref cP)))(aR:u0 K bE "Refusal" =some (some (.ref cR)))(aO:u0 K bE "OutOfRange" =some (some (.ref cO)))(aN:u0 K bE "NotMeasured" =some (some (.ref cN)))(aS:u0 K bE "NoShare" =some (some (.ref cS)))(aW:u0 K bE "WrongText" =some (some (.ref cW)))(hA:tF K mg "answers" lY)(hmg:mg "answers" =some (.ref fa))(hB:∀base:cy,base.NoSeer->base.NoLimit->By P K mg base ⟨cB,cT,cP,cR,cO,cN,cS,cW⟩):
  ∃fd:iL,(∀(s:ai) (us:fk),us.length=1->Hv s fd ⟨us,[]⟩ ((["calls"]:bS).zip us))/\∀base:cy,K.In base->base.Ns bE mg->base.NoSeer->base.NoLimit->mq P w K mg base mx 60 fa fd ["calls"] (OT K):=by
 obtain⟨f,fd,F,hm⟩:=hA.ex;have e:=hm.symm.trans hmg;cases e;refine⟨fd,fun s us hl=>?_,fun base _ _ h1 h2=>a3g (hB base h1 h2) F⟩;obtain⟨oc,od,kV,doc,pm,an,dw,ct,OW,rfl,lk,qx⟩:=F.ex
 match us,hl with
 | [_],_=>exact .of_eq rfl
end Pg
def PySem.W.Fast:=0 where
tw524006168658716822:=0
tw14827958813647860516:=0
tw8201731519802181315:=0
tw4087020785815592131:=0
tw4904625921980315173:=0
tw18233728358424689254:=0
tw6259297256634528904:=0
tw7229331108467801001:=0
tw13949167382099626923:=0
tw7579887311949005356:=0
tw10562688425866285836:=0
tw9247892049904297740:=0
tw15093553326788070158:=0
tw14129410975871229615:=0
tw16620750125129313301:=0
tw16998044476735066360:=0
tw3448109594500867387:=0
tw10450036668584732764:=0
tw15996367388885613629:=0
tw10362711629769661341:=0
tw11857602437663733150:=0
tw8197676682855370406:=0
tw7414269164337465903:=0
tw979264001756606269:=0
tw11634620474960468317:=0
tw6973472054103720215:=0
tw10380067220228134293:=0
tw16933723618855296796:=0
tw17360846075308850576:=0
tw4107510903209629933:=0
tw7788566269580755947:=0
tw8221328462546463712:=0
tw17445194192106705785:=0
tw6415751148723695470:=0
tw17433510538989140190:=0
tw14986314892210336230:=0
tw14378690096444632068:=0
tw6123690951582133058:=0
tw10092170593409695050:=0
tw174985681736228647:=0
tw12080429998709124510:=0
tw17691249279430427594:=0
tw10885130655408029918:=0
tw4152758222624945266:=0
tw4264483926180987186:=0
tw6666663756315413403:=0
tw10240752101769571343:=0
tw5198999019338084173:=0
tw9245123323583975508:=0
tw8090535456166758555:=0
tw7831500972034480791:=0
tw16123036144468914476:=0
tw3230396815285321194:=0
tw10932173957537171882:=0
tw13426104244201501918:=0
tw7269803065682053983:=0
tw11031774933057933121:=0
tw3155072357108595026:=0
tw6398433306507429075:=0
tw16256145546038436180:=0
tw2299966288836934656:=0
tw10445411168848747099:=0
tw8957772480738148447:=0
tw9733654224046304509:=0
tw4225611943032620955:=0
tw5010840145516977747:=0
tw12416785806503077495:=0
tw12564076596348163836:=0
tw18139679373025516483:=0
tw15522655514592732810:=0
tw4869820649726965776:=0
tw3289803831916359271:=0
tw1662432605852783128:=0
tw6092060054242860977:=0
tw16826567040366429880:=0
tw15121482363184550120:=0
tw4788772918795270553:=0
tw16018548467882574423:=0
tw11501361886512892308:=0
tw13671107053971408534:=0
tw14074714417171249333:=0
tw17774531449507535385:=0
tw860075974925445866:=0
tw17530356740717326567:=0
tw13882753272206163219:=0
tw3725933015109000032:=0
tw10004028294589674578:=0
tw13291500206513766382:=0
tw18046306505136224244:=0
tw864673319300601326:=0
tw11700848548466397114:=0
tw15578270411865357449:=0
tw12039505794602063515:=0
tw11741715951859372532:=0
tw3741050007143396430:=0
tw9250616839299899090:=0
tw7936254276377164234:=0
tw8775537335035740025:=0
tw15117109069000292587:=0
tw8668400753629130147:=0
tw7577787119015665348:=0
tw18072475378660626954:=0
tw17785446430051576732:=0
tw11240018340521125224:=0
tw9446579686371811722:=0
tw1521167984489006920:=0
tw4398258206233872417:=0
tw17763667281172123096:=0
tw6054225700693461485:=0
tw17070074264972681276:=0
tw3420608751055564856:=0
tw11656885939025589729:=0
tw8413405325224716409:=0
tw5277532990223952749:=0
tw3150867638611626386:=0
tw4302496658452884065:=0
tw11663781693230549462:=0
tw17933091191803779711:=0
tw10103257827461203986:=0
tw6554501633691936483:=0
tw11004907892414239949:=0
tw10504640897177279713:=0
tw4406254198079330846:=0
tw17882700683665602542:=0
tw11305685155746030479:=0
tw17889422496647063555:=0
tw17174773995510277097:=0
tw4123464454509312925:=0
tw187692055874892051:=0
tw10843267329743473718:=0
tw57021308644120892:=0
tw15200829371239368364:=0
tw13268982692839916572:=0
tw12580374586338396039:=0
tw4076252199300171274:=0
tw14990505046192329154:=0
tw241296121902783941:=0
tw483088581503530067:=0
tw15889310300649299368:=0
tw2570712395042517204:=0
tw8035863665705734594:=0
tw11526292540790693348:=0
tw2507585147040522128:=0
tw6704471832499999759:=0
tw9343052453588578047:=0
tw14340980428929069080:=0
tw10483333766887370228:=0
tw1573869016285982680:=0
tw722262350145442210:=0
tw2744292387067803902:=0
tw7576463441185594157:=0
tw9572104458926790961:=0
tw1667490590754965498:=0
tw7966878595806431506:=0
tw2683841097782676502:=0
tw12762964128985817151:=0
tw7516115268675272315:=0
tw3197918011160778823:=0
tw648216559353207487:=0
tw13518180472852430487:=0
tw9496614630616768061:=0
tw11363003308201289670:=0
tw11850061493410292588:=0
tw9086880442045352998:=0
tw7701056241335920847:=0
tw4803757283070082991:=0
tw6688771409467266461:=0
tw7566737301529749427:=0
tw704123871479172800:=0
tw3089339462074855322:=0
tw8790457616602302785:=0
tw361691924830703371:=0
tw687900971737451460:=0
tw17100606236029392315:=0
tw6880971874104068406:=0
tw12740380339554313334:=0
tw472212918645554272:=0
tw15382158777085765394:=0
tw9908334858208213380:=0
tw11919463417569115093:=0
tw12819517114175132746:=0
tw11076057323682275934:=0
tw15988300702926817114:=0
tw9617166011390531458:=0
tw6987292225919797005:=0
tw18375811195924299842:=0
tw18411531352494351757:=0
tw715634909648274564:=0
tw3010334692865578391:=0
tw9923439923839628318:=0
tw9738632320240980574:=0
tw14845954320666977820:=0
tw230338443999973659:=0
tw13318710927020184719:=0
tw6278769588048915405:=0
tw4682672829646197882:=0
tw12902323100187759290:=0
tw12013689972459596036:=0
tw9817248885821544107:=0
tw1478545864694035987:=0
tw15188946492343485531:=0
tw14049665730120847838:=0
tw16942741641993295476:=0
tw17593278856410440960:=0
tw15808785972735568559:=0
open PySem PySem.W PyProof.Rows Pg
theorem PySem.Challenge.cw_streambalance_s01_answers_holds : PySem.Challenge.rw_streambalance_s01_answers.Holds := by
 w_on;k_headS;(case hw=>exact⟨[.list [.int 1]],by decide+kernel,by decide+kernel⟩)
 k_fillS
 refine Pg.Wu (by decide+kernel) (fun w h Y=>PySem.W.kIn_of Y) ?F
 case F=>
  intro w mg fa h Y KX G hmg
  refine' a1p ?aB ?aT ?aP ?aR ?aO ?aN ?aS ?aW (ftk KX G ?a1 ?a2 ?a3 ?a4) hmg ?hB
  (case aB=>k_is);(case aT=>k_is);(case aP=>k_is);(case aR=>k_is);(case aO=>k_is);(case aN=>k_is);(case aS=>k_is);(case aW=>k_is)
  (case a1=>k_is);(case a2=>k_is);(case a3=>k_is);(case a4=>k_is)
  case hB=>
   intro base hs hl
   constructor
   ·constructor
    ·constructor
     all_goals first
      | exact hs
      | exact hl
      | refine' CY KX G ?_
      | refine' Ku KX G ?_
      | refine' ftk KX G ?_ ?_ ?_ ?_
      | refine' fmk ?_ ?_ ?_ ?_ ?_
      | refine' mkk ?_ ?_ ?_ ?_ ?_ ?_ ?_
      | refine' na3 ?_ ?_ ?_
      | refine' na4 ?_ ?_ ?_ ?_
      | refine' ctk (l:=[0,1]) KX G ?_ ?_ ?_
      | refine' ⟨?_,?_,?_,?_⟩
      | rfl
     all_goals (try k_is)
     all_goals (try k_is)
     all_goals (try(first | rfl | decide+kernel))
    all_goals first
     | refine' CY KX G ?_
     | refine' Ku KX G ?_
     | refine' cik KX G ?_
     | refine' xtk KX G ?_ ?_ ?_ ?_ ?_ ?_ ?_ ?_ ?_ ?_ ?_ ?_ ?_ ?_ ?_ ?_ ?_ ?_ ?_
     | refine' rfk ?_ ?_ ?_ ?_ ?_ ?_
     | refine' ctk (l:=[111,117,116,115,105,100,101]) KX G ?_ ?_ ?_
     | refine' ⟨?_,?_⟩
    all_goals (try k_is)
    all_goals (try k_is)
    all_goals (try(first | rfl | decide+kernel))
   ·refine' fok KX G ?_ ?_ ?_ (RZ (l:=[0,1]) ?_ ?_) (RZ (l:=[0,0]) ?_ ?_) (RZ (l:=[4,0]) ?_ ?_) (RZ (l:=[2,0]) ?_ ?_) (RZ (l:=[1,0]) ?_ ?_) (RZ (l:=[1,0]) ?_ ?_) (RZ (l:=[1,2]) ?_ ?_) (RZ (l:=[1,0]) ?_ ?_) (RZ (l:=[2,0]) ?_ ?_) (RZ (l:=[1,0]) ?_ ?_) (RZ (l:=[1,1]) ?_ ?_) (RZ (l:=[3,0]) ?_ ?_) (RZ (l:=[1,0]) ?_ ?_)
    all_goals (try k_is)
    all_goals (try k_is)
    all_goals (try(first | rfl | decide+kernel))
   ·refine' aok KX G ?_ ?_ ?_ ?_ ?_ ?_ ?_ ?_ ?_ ?_ ?_ ?_ ?_ ?_ ?_ ?_
    all_goals (try k_is)
    all_goals (try k_is)
    all_goals (try(first | rfl | decide+kernel))
