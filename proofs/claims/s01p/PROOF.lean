import PyProof.Rows.All
import Wide.All
import OpenK.AllK
import Wide.FinOn
import PyProof.EqAt
import PyProof.EqKinds
import PyProof.TupleCall
import KE.BitLaws
import KE.KDictList
import KE.KMinKey
import KE.KSortKeyAny
import KE.KSortTupG
import PyProof.IsiHeapPairs
import PyProof.IsiPairs
import PyProof.ListRange
import PyProof.MaxThree
import PyProof.Rows.SortShellAny
import Open.SpecLaws
import KE.OsHead
import KE.OsGo
import PySem.Challenge.RW_shapesheet_s01_answers
set_option Elab.async false
set_option linter.all false
set_option maxRecDepth 100000
set_option maxHeartbeats 4000000
set_option compiler.extract_closed false
noncomputable section
local macro_rules|`(term|#v[])=>`(term|by lia)|`(term|#v[0])=>`(term|by simp)|`(term|#v[1])=>`(term|by decide)|`(term|#v[2])=>`(term|by decide +kernel)|`(term|#v[$x])=>`(term|by simpa using $x)
local macro_rules|`(command|def $i:declId $s:optDeclSig $v:declVal)=>`(command|noncomputable def $i:declId $s:optDeclSig $v:declVal)
open List renaming mem_cons_of_mem->ah,length_map->ai,mem_cons->aq,getElem?_eq_getElem->aw,mem_cons_self->aF,mem_append->aI,getElem?_eq_some_iff->aJ,length_cons->aL,length_append->aP,cons_append->aU,size_toArray->aX,map_cons->a9,all_eq_true->bf,nodup_cons->bg,mem_map->bh,map_append->bj,mem_of_getElem?->bp,getElem?_map->bq,length_take->bw,map_map->bz,mem_singleton->bA,not_mem_nil->bF,getElem?_zip_eq_some->bG,pairwise_cons->bH,mem_append_right->bI,foldl_cons->bJ,any_eq_true->bS,take_length->bY,getElem?_set_ne->b8,range->cf,length_drop->cj,getLast?_concat->cz,getD_eq_getElem?_getD->cA,append_nil->cG,getLast?_eq_some_iff->cZ,length_nil->de,mem_of_mem_take->di,append_assoc->dj,zip_cons_cons->du,mem_iff_getElem?->dB,length_zip->dE,length_dropLast->dM,getElem?_set_self->dO,mem_map_of_mem->dR,flatMap_cons->dW,exists_cons_of_ne_nil->dY,getElem?_append_left->ej,nodup_append->eC,any_eq_false->eD,mem_range->eM,mem_filter->eR,length_set->eT,mem_append_left->eY,replicate->fC,getElem?_append_right->fE,nil_append->fQ,exists_mem_of_ne_nil->fV,length_filter_le->fW,getElem?_eq_none->fX,mem_reverse->f7,lookup_cons->f9,set_eq_of_length_le->gk,all_cons->gq,getLast?_eq_some_getLast->gv,reverse_cons->gE,getLast?_cons_cons->gF,getElem?_cons_succ->gG,length_reverse->g8,length_pos_iff->g9,take_of_length_le->ic,append_of_mem->iu,eq_nil_or_concat->iy,concat_eq_append->iz,of_mem_zip->iR,mem_of_getLast?->iS,mem_iff_getElem->iT,map_nil->iU,map_congr_left->i8,length_zipWith->i9,flatMap_append->ja,length_eq_zero_iff->jh,filter_cons_of_pos->ji,filter_cons_of_neg->jj,filter_append->jz,take_append_drop->jN,lookup->ki,dropLast_concat->kj,mem_flatMap->kz,map_snd_zip->kD,cons_ne_nil->kE,drop_eq_getElem_cons->kK,map_drop->k7,all_append->lh,getElem?_drop->ly,pairwise_map->lZ,length_range->l5,pairwise_reverse->mW,getElem?_zipWith->mX,getElem_mem->mZ,sum_cons->m7,map_take->m8,mem_of_mem_drop->nG,length_eraseIdx->nH,length->nJ,headD_cons->n6,zipWith->oM,filterMap_cons_some->qG,filter_cons->rL,forIn_cons->tL,find?_cons->tM,dropLast_eq_take->uo,pairwise_append->vc,map_id->vd,forIn_nil->vf,filterMap_cons->vZ,zip_nil_right->xJ,ne_nil_of_mem->xK,mem_filterMap->xM,forIn_toArray->xN,set_set->zR,map_dropLast->zS,getElem?_set->zT,foldl_append->zU,all_map->zV,eraseIdx_eq_take_drop_succ->Aq,eraseIdxIfInBounds_toArray->Ar,flatMap_nil->AX,find?_eq_some_iff_getElem->AY,append_inj'->AZ,dropLast_concat_getLast->CV,takeWhile_cons_of_pos->Fe,drop_drop->Ff,dropWhile_cons_of_pos->Fg,pairwise_iff_getElem->G7,set_comm->Hl,getElem?_take_of_lt->Hm,filterMap_cons_none->Hn,any_cons->Ho,getElem?_replicate->Kd,getElem?_cons_zero->Ke,getElem?_dropLast->Kp,filter_eq_nil_iff->Kq,drop_eq_nil_of_le->Kr,all_nil->Ks,length_replicate->Mp,getLast?_reverse->Mq,reverse_reverse->N3,idxOf_cons_self->N4,replicate_succ->Qo,filter_eq_self->Qp,getElem_range->QC,foldl->QD,zip_nil_left->Up,take_add_one->Uq,filter_congr->Ur,ext_getElem?->Us,all_eq_false->Ut,reverse_nil->UL,map_reverse->UM,getElem_inj->UN,flatMap_def->UO,ext_getElem->UP,sum_append->Xq,head?_cons->Xr,drop_left'->Xs,mapM_cons->Yy,foldl_nil->Yz
open PySem.W renaming Frag->au,nsIn->bt,findIn->cH,keepIn->c8,fnOf->fu,emptyDict->fw,instObj->iC,codeIn->i7,plainGet->kg,isFn->lL,hasDictIn->lM,callWith_K->oH,plainOver->pB,makesIn->rK,lookIn->tJ,plainGet_of->uH,methodObj->xG,takerIn->Am,length_le_weightAllW->An,cellsFrom_some->G3,methodCall_KW->Hh,callWith_K0->Kn,handedIn->Qj,WRecords->Qk,WalkOS->Um,mg_of->UK
open Bool renaming noConfusion->aD,and_eq_true->aZ,not_eq_true->a8,false_ne_true->bR,or_eq_false_iff->cM,or_eq_true->eU,not_eq_true'->fF,false_eq_true->gd,true_and->gr,false_or->jL,false_and->kl,and_true->k8,and_comm->k9,xor_comm->m9,or_comm->oN,and_false->pC,eq_iff_iff->CY,and_eq_false_iff->Ms,and_eq_true_iff->N5
open Int renaming mul_nonneg->aE,lt_or_le->aK,mul_pos->br,mul_eq_zero->bE,lt_or_eq_of_le->bX,mul_zero->cF,mul_nonpos_of_nonneg_of_nonpos->cU,lt_trichotomy->dJ,mul_le_mul_of_nonneg_right->d8,mul_neg_of_pos_of_neg->eu,add_zero->eV,mul_neg->eZ,zero_mul->fH,le_of_lt->fK,natCast_mul->fR,mul_neg_of_neg_of_pos->fY,mul_nonpos_of_nonpos_of_nonneg->iA,natCast_add->iV,le_trans->iX,toNat_of_nonneg->jk,mul_le_mul_of_nonneg_left->jA,zero_add->jE,natAbs_mul_self'->ku,natCast_nonneg->lN,mul_nonneg_of_nonpos_of_nonpos->lO,le_total->mJ,mul_le_mul->pK,mul_pos_of_neg_of_neg->qC,le_of_mul_le_mul_left->qD,neg_mul_neg->uq,le_max_left->ur,add_mul->vV,max_le->yS,lt_or_gt_of_ne->yT,mul_comm->As,neg_mul->CW,max_eq_left->DS,lt_min->G8,add_le_add->G9,sub_nonpos_of_le->Qq,le_refl->Qr,lt_of_lt_of_le->Uu,lt_of_le_of_lt->Uv,toNat_natCast->UQ,natCast_emod->Xt,natCast_ediv->Xu,min_eq_right->Xv,max_eq_right->Xw,min_le_left->YA,min_eq_left->YB
open Option.some renaming inj->aH,injEq->kU
open Nat renaming lt_of_lt_of_le->aR,le_refl->aS,le_trans->bu,ne_of_lt->bQ,le_add_right->cq,ne_of_gt->cX,zero_le->d4,lt_irrefl->eQ,le_succ->jy,le_of_eq->jD,le_of_ble_eq_true->jW,lt_succ_of_lt->jY,gcd->jZ,gcd_pos_of_pos_right->lg,lt_trans->mH,le_of_lt->mI,lt_or_ge->oR,mul_le_mul->pJ,le_of_succ_le->qF,lt_succ_self->rQ,gcd_mul_left->rR,mul_comm->tK,min_le_left->uk,gcd_dvd_right->Ao,add_comm->Ap,le_add_left->DR,not_lt->G4,eq_of_mul_eq_mul_right->G5,div_eq_of_eq_mul_right->G6,div_eq_of_eq_mul_left->Hk,mul_div_cancel_left->Ko,zero_add->Mo,one_pos->Ql,mul_pos->Qm,mul_le_mul_right->Qn,lt_of_le_of_lt->Uo,succ_le_succ->Xm,mod_eq_of_lt->Xn,min_le_right->Xo,gcd_dvd_left->Xp,not_lt_zero->Yw,mul_eq_zero->Yx
open PySem renaming mem_of_lookup->bW,Spec->cE,Fin->lx,Env->rf,Pairs->Mn,getD_mem->Xl,wpAny_bind->aj,Value->ak,Addr->ao,Shared->aB,starEach->aG,wpAny_pure->aM,sizeLine->aQ,wpAny->a7,model->bb,mainGlobals->bc,Program->bC,Expr->bL,Around->bT,eval->cg,World->cu,Heap->cY,wpAny_Call_Name_kw->dD,assignEach->dQ,wpAny_mono->d9,sizeLine_eq->ee,backTo->ef,wpAny_holding->eo,compareOp->eE,cellsFrom->eF,wpAny_updateSeq->fb,bootBuiltins->gH,attributeBase->gJ,wpAny_seqItems->gU,compEnvC->gW,FuncData->gX,wpAny_truthy_bool->jb,foldedSetIterable->jc,NameKind->jd,Stmt->jv,DictEntry->jF,wpAny_typeNameOfWhole_keyiter->jO,wpAny_field->jP,sysModules->jX,wpAny_passesOwn->kh,plainId_quiet->km,holding->kF,wpAny_call_entry->lp,swapsWith->lq,wpAny_typeNameOf_keyiter->lU,Scope->lV,wpAny_letGo->mN,wpAny_callSpecial?_slot->mO,wpAny_tryCatch->ng,wpAny_pyIter_list->nh,rawInt->nj,pyNext->nt,builtinLookup_eq_fast->n8,updateSeq->oK,codeAny->oO,behindInMarks->oP,sliceBounds->oU,keywordEach->oV,wpAny_specialOf->pL,wpAny_ite_split->pM,codeAny_builtin->pP,assign->pQ,cLine->pU,pushCells->qH,wpAny_setField_rec->rh,wpAny_newObj_type->rT,wpAny_attempt->tN,binaryOp->uI,typeLookup->vW,codeAny_mono->vX,wpAny_execs_nil->v9,typeLookup_type->wb,pushCells_keeps->wd,letOwnedTupleGo->we,backToKw->yU,tupleKind->zW,standAt->zX,getMethod->zY,call_meets->CS,Params->CT,wpAny_dictEntries->DT,Keyword->DV,wpAny_pyIter_zip->Ha,wpAny_isInstance->Hb,Result->Hc,PyData->Hd,subscripted->Hq,IsRangeIter->Hr,wpAny_loadPart'->Kh,wpAny_dictEpoch->Ki,notedBy->Kt,callerA->Ku,BindsTo->Kv,wpAny_rule->Mt,wpAny_newTuple->Mu,wpAny_standAt->Qt,wpAny_newList->Qu,nums_intItems->Qw,lastMarks->QG,bindL->QH,bindC->QJ,atKey->QK,PassesOwn->QL,wpAny_typeOf->Ux,wpAny_pyNext_range_end->Uy,wpAny_pyIter_rangeiter->Uz,wpAny_nextOf_list_item->UA,seqIndex_neg->UC,isTrue->UD,getItem->UE,wpAny_isOneOf_keyiter->UR,wpAny_of_eq->Xx,wpAny_loadName_local->Xy,seqIndex_of->Xz,putIn->XA,numAt_eq->XC,callWith->XD,Operator->XE,Model->XF,CmpOp->XG,wpAny_loadName_cell->YC
open PyProof.Rows renaming callWith_type1->b9,sortedAll_old->xI,sortedAll_at->yR,lex_false->AW,seqObj->c9,size_push'->ij,envOfC->nu,IntsAre->oQ,kindOf->pN,get?_update_seq->pO,listUpdate_at->tO,arrOf->A3,listItems_at->DU,AllBare->DW,boot_range->Mv,subscriptTail->Qv,subscriptTail_builtinR->UB
open Array renaming length_toList->cv,getElem?_eq_getElem->dN,getElem?_toList->eG,toList_zip->Aw,toList->Kf,getElem?_eq_none->Kg,forIn_toList->Qs,toList_map->Uw
open PySem.F renaming type_list_append->dk,slot_list_append->dr,plain_min_loop->fy,type_list_extend->iP,slot_list_extend->iQ,plainAttrs_list->qB,entry_min_loop->qZ,slot_list_index->Fd,type_list_pop->Hi,slot_list_pop->Hj
open Option renaming map_eq_some_iff->jr,isSome_iff_exists->pT,isSome_some->N2,getD_none->QB
open Or renaming inr->ky,inl->k6
open Classical renaming byContradiction->oJ,choose_spec->Fi,choose->Mr
open Prod renaming ext->zQ,snd->Yv
open Iff renaming rfl->Au
open List.Pairwise renaming imp->Fh
open Vbpcaa renaming turnOf->ag,edges->aO,dist2->aT,isPlace->aV,does->aY,pointSeg->ba,rightOf->bo,signed2->cw,len2->cD,MOST->cK,leastOf->cO,dot->cP,points->cV,corners->dh,closePairs->dG,must->dH,inRange->dP,sums->dX,hullOf->eh,boxAt->eK,CORNERS->eW,triangulated->fz,cornersGoOn->fA,below->fB,placeOk->gi,goesOn->gK,isPolygon->h9,shapeAt->ik,onEdge->il,coordinates->ip,isConvex->iD,opposite->iK,truth->jq,shifted->kL,fromLowest->kW,maxOf->lr,farEdges->lu,nearest->lQ,cutEars->lW,lowest->l6,sorted->mP,minOf->nz,strips->n9,inTriangle->oW,quarter->pE,holds->pR,Corner->pV,flipped->qE,simple->rS,covered->uJ,skeleton->vY,segSeg->xO,frac->zZ,insideBy->A4,where_->Hs,radiusOk->QM,putIn->US,boxOf->XH,far2->YD
abbrev a5:=@List
namespace Sg
open Vbpcaa
theorem ex3{l:a5 Pt}(h:3<=l.length):∃a b c r,l=a::b::c::r:=by
 rcases l with _|⟨a,_|⟨b,_|⟨c,r⟩⟩⟩
 all_goals first|exact⟨_,_,_,_,rfl⟩|simp at h
theorem gO{u v:Int}:iK u v=true↔(u<0/\0<v)\/(0<u/\v<0):=by simp[iK]
theorem iB(a b p:Pt):ag b a p = - ag a b p:=by simp only[ag];grind
theorem xc(p q a b:Pt):ag a b q-ag a b p+ag p q b-ag p q a=0:=by simp only[ag];grind
theorem To(p q a b:Pt):ag a b q*p.y-ag a b p*q.y+ag p q b*a.y-ag p q a*b.y=0:=by simp only[ag];grind
theorem Yj(p q a b:Pt):ag a b q*p.x-ag a b p*q.x+ag p q b*a.x-ag p q a*b.x=0:=by simp only[ag];grind
theorem uX(p q a b:Pt)(h:Int):ag a b q*(p.y-h)-ag a b p*(q.y-h)+ag p q b*(a.y-h)-ag p q a*(b.y-h)=0:=by have d:=xc p q a b;have c:=To p q a b;grind
theorem fU{p a b:Pt}:onSeg p a b=true↔ag a b p=0/\cP (sub a p) (sub b p)<=0:=by simp[onSeg]
theorem bU{p a b:Pt}(c:ag a b p=0)(s:a.y<=p.y)(r:p.y<=b.y)(q:a.y<b.y):onSeg p a b=true:=by
 rw[fU];refine⟨c,?_⟩;simp only[cP,sub];have i:=c;simp only[ag]at i;have m:(b.y-a.y)*(a.x-p.x)=(b.x-a.x)*(a.y-p.y):=by grind
 have l:(b.y-a.y)*(b.x-p.x)=(b.x-a.x)*(b.y-p.y):=by grind
 have k:((b.y-a.y)*(a.x-p.x))*((b.y-a.y)*(b.x-p.x))=((b.x-a.x)*(b.x-a.x))*((a.y-p.y)*(b.y-p.y)):=by rw[m,l];grind
 have g:(a.y-p.y)*(b.y-p.y)<=0:=iA #v[] #v[];have f:0<=(b.x-a.x)*(b.x-a.x):=by rcases mJ 0 (b.x-a.x) with h|h;exact aE h h;exact lO h h
 have o:((b.y-a.y)*(b.y-a.y))*((a.x-p.x)*(b.x-p.x))<=0:=by
  have j:((b.y-a.y)*(b.y-a.y))*((a.x-p.x)*(b.x-p.x))=((b.x-a.x)*(b.x-a.x))*((a.y-p.y)*(b.y-p.y)):=by rw[<- k];grind
  rw[j];exact cU f g
 have d:0<(b.y-a.y)*(b.y-a.y):=br #v[] #v[];have n:(a.x-p.x)*(b.x-p.x)<=0:=by rcases aK 0 ((a.x-p.x)*(b.x-p.x)) with h|h;have:=br d h;lia;exact h
 lia
theorem fT(p a b:Pt):onSeg p b a=onSeg p a b:=by
 have d:(ag b a p=0)↔(ag a b p=0):=by rw[iB a b p];lia
 have c:cP (sub b p) (sub a p)=cP (sub a p) (sub b p):=by simp only[cP,sub];grind
 simp only[onSeg,c,d]
theorem RY(u v:Int):iK v u=iK u v:=by rw[iK,oN,k9,k9 (decide (v<0))];rfl
theorem Wb(u v:Int):iK (-u) (-v)=iK u v:=by rw[CY,gO,gO];lia
theorem ft(a b c d:Pt):meet b a c d=meet a b c d:=by rw[meet,iB a b c,iB a b d,Wb,RY (ag c d a),fT c a b,fT d a b,oN (onSeg b c d)];rfl
theorem meet_comm(a b c d:Pt):meet c d a b=meet a b c d:=by rw[meet,meet,k9,<- Bool.or_assoc (onSeg a c d),<- Bool.or_assoc (onSeg c a b),oN (onSeg a c d||onSeg b c d)]
theorem jT(a b c d:Pt):meet a b d c=meet a b c d:=by rw[<- meet_comm,ft,meet_comm]
theorem jn{a b c d:Pt}(h:meet a b c d=false):
  ¬(iK (ag a b c) (ag a b d)=true/\iK (ag c d a) (ag c d b)=true) ∧
  onSeg c a b=false/\onSeg d a b=false/\onSeg a c d=false/\onSeg b c d=false:=by simp only[meet,cM,Ms]at h;grind
def iq(p q v:Pt):Bool:=decide (p.y<v.y/\v.y<=q.y)&&decide (ag p q v<0)
theorem iF(p a b:Pt):bo p (b,a)=bo p (a,b):=by
 simp only[bo,iB a b p];have d:(0 < -ag a b p)↔(ag a b p<0):=#v[]
 have c:(-ag a b p<0)↔(0<ag a b p):=#v[]
 simp only[d,c];exact oN _ _
theorem VI{x u y v z w:Int}(e:x*u+y*v+z*w=0)(b:0<x)(f:0<u)(a:0<=y)(d:0<=v)(c:0<=w):z<0:=by have j:=br b f;have i:=aE a d;rcases aK z 0 with h|h;exact h;have g:=aE h c;lia
theorem HX{x u y v z w:Int}(e:x*u+y*v+z*w=0)(f:x<0)(c:0<u)(d:y<=0)(b:0<=v)(a:0<=w):0<z:=by
 have e':(-x)*u+(-y)*v+(-z)*w=0:=by grind
 have:=VI e' #v[] c #v[] b a;lia
theorem adn{p q a b:Pt}(m:meet p q a b=false)(l:a.y<=p.y)(u:p.y<b.y)(k:b.y<=q.y):
  (0<ag a b p)↔(ag p q b<0):=by
 obtain⟨n,t,n2,g,s⟩:=jn m;rw[gO,gO]at n;have r:ag a b p≠0:=λz=>by rw[bU z l #v[] #v[]]at g;exact aD g
 have o:ag p q b≠0:=λz=>by rw[bU z #v[] k #v[]]at n2;exact aD n2
 have w:=uX p q a b p.y;have v:=uX p q a b b.y;have j:ag a b p*(q.y-p.y)+ag p q b*(p.y-a.y)+ag p q a*(b.y-p.y)=0:=by grind
 have i:ag p q b*(b.y-a.y)+ag a b p*(q.y-b.y)+ag a b q*(b.y-p.y)=0:=by grind
 constructor;intro c;rcases aK (ag p q b) 0 with h|h;exact h;have f:=VI j c #v[] h #v[] #v[];have d:=VI i #v[] #v[] (fK c) #v[] #v[];exact absurd ⟨.inl ⟨f,#v[]⟩,.inr ⟨c,d⟩⟩ n;intro c;rcases aK 0 (ag a b p) with h|h;exact h;have f:=HX j #v[] #v[] (fK c) #v[] #v[];have d:=HX i c #v[] h #v[] #v[];exact absurd ⟨.inr ⟨f,#v[]⟩,.inl ⟨#v[],d⟩⟩ n
theorem TU{p q a b:Pt}(m:meet p q a b=false)(t:a.y<=p.y)(s:p.y<=q.y)(r:q.y<b.y)(o:a.y<q.y)(c:0<ag a b p):0<ag a b q:=by
 obtain⟨n,l,n2,k,d⟩:=jn m;rw[gO,gO]at n;have j:ag a b q≠0:=λz=>by rw[bU z #v[] #v[] #v[]]at d;exact aD d
 have w:=uX p q a b a.y;have v:=uX p q a b b.y;have i:ag a b p*(q.y-a.y)+(- ag a b q)*(p.y-a.y)+ag p q a*(b.y-a.y)=0:=by grind
 have g:ag a b p*(b.y-q.y)+(- ag a b q)*(b.y-p.y)+(- ag p q b)*(b.y-a.y)=0:=by grind
 rcases aK 0 (ag a b q) with h|h;exact h;have f:=VI i c #v[] #v[] #v[] #v[];have u:=VI g c #v[] #v[] #v[] #v[];exact absurd ⟨.inl ⟨f,#v[]⟩,.inr ⟨c,#v[]⟩⟩ n
theorem W0{p q a b:Pt}(m:meet p q a b=false)(t:a.y<=p.y)(s:p.y<=q.y)(r:q.y<b.y)(o:a.y<q.y)(c:ag a b p<0):ag a b q<0:=by
 obtain⟨n,l,n2,k,d⟩:=jn m;rw[gO,gO]at n;have j:ag a b q≠0:=λz=>by rw[bU z #v[] #v[] #v[]]at d;exact aD d
 have w:=uX p q a b a.y;have v:=uX p q a b b.y;have i:ag a b p*(q.y-a.y)+(- ag a b q)*(p.y-a.y)+ag p q a*(b.y-a.y)=0:=by grind
 have g:ag a b p*(b.y-q.y)+(- ag a b q)*(b.y-p.y)+(- ag p q b)*(b.y-a.y)=0:=by grind
 rcases aK (ag a b q) 0 with h|h;exact h;have f:=HX i c #v[] #v[] #v[] #v[];have u:=HX g c #v[] #v[] #v[] #v[];exact absurd ⟨.inr ⟨f,#v[]⟩,.inl ⟨c,#v[]⟩⟩ n
theorem adm{p q a b:Pt}(m:meet p q a b=false)(i:a.y<=p.y)(g:p.y<=q.y)(f:q.y<b.y)(d:a.y<q.y):
  (0<ag a b p)↔(0<ag a b q):=by
 constructor;exact TU m i g f d;intro o;obtain⟨n,l,n2,c,k⟩:=jn m;have j:ag a b p≠0:=λz=>by rw[bU z #v[] #v[] #v[]]at c;exact aD c
 rcases aK 0 (ag a b p) with h|h;exact h;have:=W0 m i g f d #v[];lia
theorem adl{p q a b:Pt}(m:meet p q a b=false)(t:p.y<a.y)(s:a.y<b.y)(r:b.y<=q.y):
  (ag p q a<0)↔(ag p q b<0):=by
 obtain⟨n,d,n2,o,l⟩:=jn m;rw[gO,gO]at n;have k:ag p q a≠0:=λz=>by rw[bU z #v[] #v[] #v[]]at d;exact aD d
 have j:ag p q b≠0:=λz=>by rw[bU z #v[] #v[] #v[]]at n2;exact aD n2
 have v:=uX p q a b p.y;have u:=uX p q a b q.y;have g:ag p q b*(a.y-p.y)+(- ag p q a)*(b.y-p.y)+(- ag a b p)*(q.y-p.y)=0:=by grind
 have f:ag p q b*(q.y-a.y)+(- ag p q a)*(q.y-b.y)+ag a b q*(q.y-p.y)=0:=by grind
 constructor;intro hd;rcases aK (ag p q b) 0 with h|h;exact h;have i:=VI g #v[] #v[] #v[] #v[] #v[];have c:=VI f #v[] #v[] #v[] #v[] #v[];exact absurd ⟨.inl ⟨hd,#v[]⟩,.inr ⟨#v[],c⟩⟩ n;intro hd;rcases aK (ag p q a) 0 with h|h;exact h;have i:=HX g #v[] #v[] #v[] #v[] #v[];have c:=HX f #v[] #v[] #v[] #v[] #v[];exact absurd ⟨.inr ⟨#v[],hd⟩,.inl ⟨#v[],c⟩⟩ n
theorem adk{p q a b:Pt}(m:meet p q a b=false)(t:p.y<a.y)(s:a.y<=q.y)(r:q.y<b.y):
  (0<ag a b q)↔(ag p q a<0):=by
 obtain⟨n,g,n2,o,f⟩:=jn m;rw[gO,gO]at n;have l:ag p q a≠0:=λz=>by rw[bU z #v[] #v[] #v[]]at g;exact aD g
 have k:ag a b q≠0:=λz=>by rw[bU z #v[] #v[] #v[]]at f;exact aD f
 have v:=uX p q a b a.y;have u:=uX p q a b q.y;have j:ag a b q*(a.y-p.y)+ag p q a*(b.y-a.y)+ag a b p*(q.y-a.y)=0:=by grind
 have i:ag a b q*(q.y-p.y)+ag p q a*(b.y-q.y)+ag p q b*(q.y-a.y)=0:=by grind
 constructor;intro hd;rcases aK (ag p q a) 0 with h|h;exact h;have d:=VI j #v[] #v[] #v[] #v[] #v[];have c:=VI i #v[] #v[] #v[] #v[] #v[];exact absurd ⟨.inr ⟨#v[],c⟩,.inl ⟨d,hd⟩⟩ n;intro hd;rcases aK 0 (ag a b q) with h|h;exact h;have d:=HX j #v[] #v[] #v[] #v[] #v[];have c:=HX i #v[] #v[] #v[] #v[] #v[];exact absurd ⟨.inl ⟨hd,c⟩,.inr ⟨d,#v[]⟩⟩ n
theorem Cu{p q a b:Pt}(m:meet p q a b=false)(C:a.y=b.y)(D:p.y<a.y)(t:a.y<=q.y)(r:ag p q a<0):ag p q b<0:=by
 obtain⟨n,B,n2,A,i⟩:=jn m;rw[gO,gO]at n;have u:ag p q b≠0:=λz=>by rw[bU z #v[] #v[] #v[]]at n2;exact aD n2
 rcases aK (ag p q b) 0 with h|h;exact h;exfalso;have o:0<ag p q b:=#v[]
 have G:=xc p q a b;have f:ag a b q=(b.x-a.x)*(q.y-a.y):=by simp only[ag];grind
 have j:ag a b p=(b.x-a.x)*(p.y-a.y):=by simp only[ag];grind
 have s:(b.x-a.x)*(q.y-p.y)<0:=by
  have:(b.x-a.x)*(q.y-p.y)=ag a b q-ag a b p:=by rw[f,j];grind
  lia
 have g:b.x-a.x<0:=by rcases aK (b.x-a.x) 0 with k|k;exact k;have:=aE k (show 0<=q.y-p.y by lia);lia
 have l:0<ag a b p:=by rw[j];exact qC g #v[]
 rcases bX t with k|k;have d:ag a b q<0:=by rw[f];exact fY g #v[]
 exact n ⟨.inl ⟨r,o⟩,.inr ⟨l,d⟩⟩;have d:ag a b q=0:=by rw[f,k];simp
 have F:ag p q a=(q.y-p.y)*(q.x-a.x):=by simp only[ag];grind
 have E:ag p q b=(q.y-p.y)*(q.x-b.x):=by simp only[ag];grind
 have y:q.x-a.x<0:=by rcases aK (q.x-a.x) 0 with c|c;exact c;have:=aE (show 0<=q.y-p.y by lia) c;lia
 have x:0<q.x-b.x:=by rcases aK 0 (q.x-b.x) with c|c;exact c;have:=cU (show 0<=q.y-p.y by lia) c;lia
 have:onSeg q a b=true:=by
  rw[fU];refine⟨d,?_⟩;simp only[cP,sub];have w:(a.x-q.x)*(b.x-q.x)<0:=eu #v[] #v[];have v:(a.y-q.y)*(b.y-q.y)=0:=by rw[k];simp
  lia
 rw[this]at i;exact aD i
theorem ud{p q a b:Pt}(m:meet p q a b=false)(j:p.y=q.y)(g:a.y<=p.y)(v:p.y<b.y)(i:0<ag a b p):0<ag a b q:=by
 rcases bX g with k|k;exact TU m g #v[] #v[] #v[] i;obtain⟨n,f,n2,u,d⟩:=jn m;have l:ag a b q≠0:=λz=>by rw[bU z #v[] #v[] #v[]]at d;exact aD d
 rcases aK 0 (ag a b q) with h|h;exact h;exfalso;have x:ag a b p=(b.y-a.y)*(a.x-p.x):=by simp only[ag];grind
 have w:ag a b q=(b.y-a.y)*(a.x-q.x):=by simp only[ag];grind
 have t:0<a.x-p.x:=by rcases aK 0 (a.x-p.x) with c|c;exact c;have:=cU (show 0<=b.y-a.y by lia) c;lia
 have s:a.x-q.x<0:=by rcases aK (a.x-q.x) 0 with c|c;exact c;have:=aE (show 0<=b.y-a.y by lia) c;lia
 have:onSeg a p q=true:=by
  rw[fU];constructor;simp only[ag];rw[k,<- j];simp;simp only[cP,sub];have r:(p.x-a.x)*(q.x-a.x)<0:=fY #v[] #v[];have o:(p.y-a.y)*(q.y-a.y)=0:=by rw[k];simp
  lia
 rw[this]at f;exact aD f
theorem cW{a b:Bool}(h:a=true↔b=true):a=b:=by cases a<;>cases b<;>simp_all
theorem eN{p a b:Pt}(h:a.y<b.y):bo p (a,b)=true↔(a.y<=p.y/\p.y<b.y)/\0<ag a b p:=by simp only[bo,eU,aZ,decide_eq_true_eq];lia
theorem mL{p a b:Pt}(h:a.y=b.y):bo p (a,b)=false:=by
 cases e:bo p (a,b) with
|false=>rfl
|true=>simp only[bo,eU,aZ,decide_eq_true_eq]at e;lia
theorem fS{p q v:Pt}:iq p q v=true↔(p.y<v.y/\v.y<=q.y)/\ag p q v<0:=by simp only[iq,aZ,decide_eq_true_eq]
theorem Nz{p q a b:Pt}(m:meet p q a b=false)(l:p.y<q.y)(c:a.y<b.y):
  (bo p (a,b) ^^ bo q (a,b))=(iq p q a ^^ iq p q b):=by
 by_cases o:b.y<=p.y;have h:bo p (a,b)=false:=by rw[<- a8,eN c];lia
 have f:bo q (a,b)=false:=by rw[<- a8,eN c];lia
 have g:iq p q a=false:=by rw[<- a8,fS];lia
 have d:iq p q b=false:=by rw[<- a8,fS];lia
 rw[h,f,g,d];by_cases n:q.y<a.y;have h:bo p (a,b)=false:=by rw[<- a8,eN c];lia
 have f:bo q (a,b)=false:=by rw[<- a8,eN c];lia
 have g:iq p q a=false:=by rw[<- a8,fS];lia
 have d:iq p q b=false:=by rw[<- a8,fS];lia
 rw[h,f,g,d];by_cases j:a.y<=p.y;have g:iq p q a=false:=by rw[<- a8,fS];lia
 by_cases i:b.y<=q.y;have f:bo q (a,b)=false:=by rw[<- a8,eN c];lia
 have k:=adn m j #v[] i;have r:bo p (a,b)=iq p q b:=cW (by rw[eN c,fS];lia);rw[f,g,r];cases iq p q b<;>rfl;have d:iq p q b=false:=by rw[<- a8,fS];lia
 have k:=adm m j #v[] #v[] #v[];have r:bo p (a,b)=bo q (a,b):=cW (by rw[eN c,eN c];lia);rw[g,d,r];cases bo q (a,b)<;>rfl;have h:bo p (a,b)=false:=by rw[<- a8,eN c];lia
 by_cases i:b.y<=q.y;have f:bo q (a,b)=false:=by rw[<- a8,eN c];lia
 have k:=adl m #v[] c i;have r:iq p q a=iq p q b:=cW (by rw[fS,fS];lia);rw[h,f,r];cases iq p q b<;>rfl;have d:iq p q b=false:=by rw[<- a8,fS];lia
 have k:=adk m #v[] #v[] #v[];have r:bo q (a,b)=iq p q a:=cW (by rw[eN c,fS];lia);rw[h,d,r];cases iq p q a<;>rfl
theorem xb{p q a b:Pt}(m:meet p q a b=false)(f:p.y<=q.y):
  (bo p (a,b) ^^ bo q (a,b))=(iq p q a ^^ iq p q b):=by
 rcases bX f with h|h;rcases dJ a.y b.y with k|k|k;exact Nz m h k;rw[mL k,mL k];have:iq p q a=iq p q b:=cW (by
  rw[fS,fS];have m':meet p q b a=false:=by rw[jT];exact m
  constructor;rintro⟨⟨x,y⟩,z⟩;exact⟨⟨#v[],#v[]⟩,Cu m k x y z⟩;rintro⟨⟨x,y⟩,z⟩;exact⟨⟨#v[],#v[]⟩,Cu m' k.symm x y z⟩)
 rw[this];cases iq p q b<;>rfl;have m':meet p q b a=false:=by rw[jT];exact m
 have:=Nz m' h k;rw[iF p a b,iF q a b]at this;rw[this,m9];have d:iq p q a=false:=by rw[<- a8,fS];lia
 have c:iq p q b=false:=by rw[<- a8,fS];lia
 rw[d,c];have m2:meet q p a b=false:=by rw[ft];exact m
 rcases dJ a.y b.y with k|k|k;have:bo p (a,b)=bo q (a,b):=cW (by rw[eN k,eN k];constructor;rintro⟨⟨x,y⟩,z⟩;exact⟨#v[],ud m h x y z⟩;rintro⟨⟨x,y⟩,z⟩;exact⟨#v[],ud m2 h.symm x y z⟩)
 rw[this];cases bo q (a,b)<;>rfl;rw[mL k,mL k];have m':meet p q b a=false:=by rw[jT];exact m
 have m2':meet q p b a=false:=by rw[jT];exact m2
 have:bo p (b,a)=bo q (b,a):=cW (by rw[eN k,eN k];constructor;rintro⟨⟨x,y⟩,z⟩;exact⟨#v[],ud m' h x y z⟩;rintro⟨⟨x,y⟩,z⟩;exact⟨#v[],ud m2' h.symm x y z⟩)
 rw[iF p a b,iF q a b]at this;rw[this];cases bo q (a,b)<;>rfl
def par{α:Type}(f:α->Bool):a5 α->Bool
|[]=>false
|x::l=>f x ^^ par f l
theorem tV{α:Type}(f:α->Bool):∀l:a5 α,decide ((l.filter f).length % 2=1)=par f l
|[]=>rfl
|x::l=>by
  have a:=tV f l;simp only[par,<- a];cases e:f x;rw[jj (by rw[e];decide)];simp;rw[ji e,aL];by_cases h:(l.filter f).length % 2=1;have:¬(((l.filter f).length+1) % 2=1):=#v[]
  simp[h,this];have:((l.filter f).length+1) % 2=1:=#v[]
  simp[h,this]
theorem MX{α:Type}(f g:α->Bool):∀l:a5 α,(par f l ^^ par g l)=par (λx=>f x ^^ g x) l
|[]=>rfl
|x::l=>by have a:=MX f g l;simp only[par,<- a];cases f x<;>cases g x<;>cases par f l<;>cases par g l<;>rfl
theorem tW{α:Type}{f g:α->Bool}:∀{l:a5 α},(∀x∈l,f x=g x)->par f l=par g l
|[],_=>rfl
|x::l,h=>by simp only[par];rw[h x (aF ..),tW λy a=>h y (ah _ a)]
theorem Ee(f:Pt->Bool):∀(l:a5 Pt)(a z:Pt),par (λe:Pt×Pt=>f e.1 ^^ f e.2) ((a::l).zip (l++[z]))=(f a ^^ f z)
|[],a,z=>by simp[par]
|b::l,a,z=>by have c:=Ee f l b z;simp only[aU,du,par]at c⊢;rw[c];cases f a<;>cases f b<;>cases f z<;>rfl
theorem Cg{l:a5 Pt}(h:3<=l.length):∃a r,l=a::r/\aO l=(a::r).zip (r++[a]):=by obtain⟨a,b,c,r,rfl⟩:=ex3 h;exact⟨a,b::c::r,rfl,rfl⟩
theorem Ef{l:a5 Pt}{p q:Pt}(h:∀e∈aO l,meet p q e.1 e.2=false):odd l p=odd l q:=by
 unfold odd;by_cases d:3<=l.length;rw[tV,tV]
 suffices (par (bo p) (aO l) ^^ par (bo q) (aO l))=false by revert this;cases par (bo p) (aO l)<;>cases par (bo q) (aO l)<;>simp
 rw[MX];obtain⟨a,r,j,i⟩:=Cg d;have key:∃f:Pt->Bool,∀e∈aO l,(bo p e ^^ bo q e)=(f e.1 ^^ f e.2):=by
  rcases mJ p.y q.y with k|k;refine⟨iq p q,λe c=>?_⟩;have m:=h e c;obtain⟨a,b⟩:=e;exact xb m k;refine⟨iq q p,λe c=>?_⟩;have m:=h e c;obtain⟨a,b⟩:=e;have m':meet q p a b=false:=by rw[ft];exact m
  rw[m9];exact xb m' k
 obtain⟨f,g⟩:=key;rw[tW g,i,Ee];cases f a<;>rfl;simp[d]
theorem qT{p q r:Int}(h:(q<=p/\p<=r)\/(r<=p/\p<=q)):(q-p)*(r-p)<=0:=by rcases h with h|h;exact iA #v[] #v[];exact cU #v[] #v[]
theorem M8{p q r:Int}(h:(q-p)*(r-p)<=0):(q<=p/\p<=r)\/(r<=p/\p<=q):=by rcases dJ q p with k|k|k;left;refine⟨#v[],?_⟩;rcases aK r p with j|j;have:=qC (show q-p<0 by lia) (show r-p<0 by lia);lia;exact j;lia;right;refine⟨?_,#v[]⟩;rcases aK p r with j|j;have:=br (show 0<q-p by lia) (show 0<r-p by lia);lia;exact j
theorem gh(x:Int):0<=x*x:=by rcases mJ 0 x with h|h;exact aE h h;exact lO h h
theorem sq_pos{x:Int}(h:x≠0):0<x*x:=by rcases yT h with k|k;exact qC k k;exact br k k
theorem yl{p a b:Pt}:onSeg p a b=true↔ag a b p=0/\(a.x-p.x)*(b.x-p.x)<=0/\(a.y-p.y)*(b.y-p.y)<=0:=by
 rw[fU];constructor;rintro⟨c,hd⟩;simp only[cP,sub]at hd;have e:(a.x-p.x)*(b.y-p.y)=(a.y-p.y)*(b.x-p.x):=by have:=c;simp only[ag]at this;grind
 have s:0<=((a.x-p.x)*(b.x-p.x))*((a.y-p.y)*(b.y-p.y)):=by
  have d:((a.x-p.x)*(b.x-p.x))*((a.y-p.y)*(b.y-p.y))=((a.x-p.x)*(b.y-p.y))*((a.x-p.x)*(b.y-p.y)):=by
   have:((a.x-p.x)*(b.x-p.x))*((a.y-p.y)*(b.y-p.y))=((a.x-p.x)*(b.y-p.y))*((a.y-p.y)*(b.x-p.x)):=by grind
   rw[this,<- e]
  rw[d];exact gh _
 refine⟨c,?_,?_⟩;rcases aK 0 ((a.x-p.x)*(b.x-p.x)) with k|k;have:=eu k (show(a.y-p.y)*(b.y-p.y)<0 by lia);lia;exact k;rcases aK 0 ((a.y-p.y)*(b.y-p.y)) with k|k;have:=fY (show(a.x-p.x)*(b.x-p.x)<0 by lia) k;lia;exact k;rintro⟨c,g,f⟩;refine⟨c,?_⟩;simp only[cP,sub];lia
def cQ(a b c d:Int):Bool:=decide (max a b<min c d)||decide (max c d<min a b)
def iZ(a b c d:Pt):Bool:=decide (ag a b c*ag a b d<=0)
def fh(a b c d:Pt):Bool:=
 if(cQ a.x b.x c.x d.x||cQ a.y b.y c.y d.y)=true then false else iZ a b c d&&iZ c d a b
theorem xW{a b c d:Int}:cQ a b c d=true↔(max a b<min c d)\/(max c d<min a b):=by simp[cQ]
theorem overlap{a b c d:Int}(h:cQ a b c d=false):
  ((a-c)*(b-c)<=0)\/((a-d)*(b-d)<=0)\/((c-a)*(d-a)<=0)\/((c-b)*(d-b)<=0):=by have z:=cM.mp h;rcases aK c a with x|x;rcases aK c b with y|y;rcases aK d a with u|u;rcases aK d b with v|v;exact absurd (Int.max_lt.mpr ⟨G8.mpr ⟨x,y⟩,G8.mpr ⟨u,v⟩⟩) (of_decide_eq_false z.2);exact .inr (.inl (qT (.inr ⟨v,fK u⟩)));exact .inr (.inr (.inl (qT (.inl ⟨fK x,u⟩))));exact .inl (qT (.inr ⟨y,fK x⟩));rcases aK b c with y|y;rcases aK a d with u|u;rcases aK b d with v|v;rcases bX x with w|w;exact absurd (Int.max_lt.mpr ⟨G8.mpr ⟨w,u⟩,G8.mpr ⟨y,v⟩⟩) (of_decide_eq_false z.1);exact .inr (.inr (.inl (qT (.inl ⟨Int.le_of_eq w.symm,fK u⟩))));exact .inr (.inl (qT (.inl ⟨fK u,v⟩)));exact .inr (.inr (.inl (qT (.inr ⟨u,x⟩))));exact .inl (qT (.inl ⟨x,y⟩))
theorem uR{a b c d:Int}(h:(a-c)*(b-c)<=0):cQ a b c d=false:=by
 have k:min a b<=c/\c<=max a b:=by rcases M8 h with z|z;exact⟨iX (YA ..) z.1,iX z.2 (Int.le_max_right ..)⟩;exact⟨iX (Int.min_le_right ..) z.1,iX z.2 (ur ..)⟩
 exact cM.mpr ⟨decide_eq_false λz=>Int.lt_irrefl _ (Uu (Uv k.2 z) (YA ..)),decide_eq_false λz=>Int.lt_irrefl _ (Uu (Uv (ur ..) z) k.1)⟩
theorem nW(a b c d:Int):cQ c d a b=cQ a b c d:=oN _ _
theorem l9(a b c d:Int):cQ a b d c=cQ a b c d:=by rw[cQ,Int.max_comm d,Int.min_comm d];rfl
theorem HU(a b c d:Pt):iZ b a c d=iZ a b c d:=by simp only[iZ,iB a b c,iB a b d,uq]
theorem HS(a b c d:Pt):iZ a b d c=iZ a b c d:=by simp only[iZ,As (ag a b d)]
theorem nL(a b c d:Pt):fh c d a b=fh a b c d:=by simp only[fh,nW a.x,nW a.y,k9 (iZ c d a b)]
theorem uM(a b c d:Pt):fh a b d c=fh a b c d:=by simp only[fh,l9 a.x,l9 a.y,HU c d,HS a b c d]
theorem mS{a b c d:Pt}:fh a b c d=true↔cQ a.x b.x c.x d.x=false/\cQ a.y b.y c.y d.y=false ∧
  ag a b c*ag a b d<=0/\ag c d a*ag c d b<=0:=by simp only[fh,iZ];cases cQ a.x b.x c.x d.x<;>cases cQ a.y b.y c.y d.y<;>simp
theorem mK{a b c d:Pt}(h:onSeg c a b=true):fh a b c d=true:=by
 obtain⟨j,g,f⟩:=yl.mp h;have hd:=(fU.mp h).2;rw[mS];refine⟨uR g,uR f,by rw[j];simp,?_⟩;have e:(ag c d a*ag c d b)*cP (sub a c) (sub a c)=(ag c d a*ag c d a)*cP (sub a c) (sub b c):=by
  simp only[ag]at j;simp only[ag,cP,sub];have n:(a.x-c.x)*(b.y-c.y)-(a.y-c.y)*(b.x-c.x)=0:=by grind
  grind
 have m:(ag c d a*ag c d a)*cP (sub a c) (sub b c)<=0:=cU (gh _) hd;by_cases i:a=c;subst i;have:ag a d a=0:=by simp only[ag];grind
 rw[this];simp;have l:0<cP (sub a c) (sub a c):=by simp only[cP,sub];by_cases g:a.x-c.x=0;have f:a.y-c.y≠0:=λf=>i (by cases a;cases c;simp only[Pt.mk.injEq];simp only at g f;lia);have:=sq_pos f;have:=gh (a.x-c.x);lia;have:=sq_pos g;have:=gh (a.y-c.y);lia
 rcases aK 0 (ag c d a*ag c d b) with k|k;have:=br k l;lia;exact k
theorem j8{α β γ δ p q a b:Int}(o:α-β+γ-δ=0)(n:α*p-β*q+γ*a-δ*b=0)(m:δ<0)(c:0<γ)(l:0<β)(k:α<0):cQ p q a b=false:=by
 rw[<- a8,xW];rintro(h|h);have j:γ*(a-max p q)+(-δ)*(b-max p q)+β*(max p q-q)+(-α)*(max p q-p)=0:=by grind
 have i:=br c (show 0<a-max p q by lia);have g:=br (show 0 < -δ by lia) (show 0<b-max p q by lia);have f:=aE (show 0<=β by lia) (show 0<=max p q-q by lia);have d:=aE (show 0<=-α by lia) (show 0<=max p q-p by lia);lia;have j:γ*(min p q-a)+(-δ)*(min p q-b)+β*(q-min p q)+(-α)*(p-min p q)=0:=by grind
 have i:=br c (show 0<min p q-a by lia);have g:=br (show 0 < -δ by lia) (show 0<min p q-b by lia);have f:=aE (show 0<=β by lia) (show 0<=q-min p q by lia);have d:=aE (show 0<=-α by lia) (show 0<=p-min p q by lia);lia
theorem M0{u v:Int}(h:iK u v=true):u*v<0:=by rw[gO]at h;rcases h with⟨b,a⟩|⟨b,a⟩;exact fY b a;exact eu b a
theorem M7{u v:Int}(h:u*v<0):iK u v=true:=by rw[gO];rcases dJ u 0 with k|k|k;left;refine⟨k,?_⟩;rcases aK 0 v with j|j;exact j;have:=lO (fK k) j;lia;rw[k]at h;simp at h;right;refine⟨k,?_⟩;rcases aK v 0 with j|j;exact j;have:=aE (fK k) j;lia
theorem zo{p q a b:Pt}(d:iK (ag p q a) (ag p q b)=true)(c:iK (ag a b p) (ag a b q)=true):
  (ag p q a<0/\0<ag p q b/\0<ag a b p/\ag a b q<0)\/(0<ag p q a/\ag p q b<0/\ag a b p<0/\0<ag a b q):=by rw[gO]at d c;have e:=xc p q a b;rcases d with⟨x,y⟩|⟨x,y⟩;rcases c with⟨z,w⟩|c;lia;exact .inl ⟨x,y,c⟩;rcases c with c|⟨z,w⟩;exact .inr ⟨x,y,c⟩;lia
theorem xX{p q a b:Pt}(i:iK (ag p q a) (ag p q b)=true)(h:iK (ag a b p) (ag a b q)=true):fh p q a b=true:=by rw[mS];have m1:=M0 i;have m2:=M0 h;have j:=xc p q a b;have ex:=Yj p q a b;have k:=To p q a b;refine⟨?_,?_,#v[],#v[]⟩;rcases zo i h with⟨g,f,d,c⟩|⟨g,f,d,c⟩;exact j8 j ex g f d c;exact j8 (α:=- ag a b q) (β:=- ag a b p) (γ:=- ag p q b) (δ:=- ag p q a) #v[] (by grind) #v[] #v[] #v[] #v[];rcases zo i h with⟨g,f,d,c⟩|⟨g,f,d,c⟩;exact j8 j k g f d c;exact j8 (α:=- ag a b q) (β:=- ag a b p) (γ:=- ag p q b) (δ:=- ag p q a) #v[] (by grind) #v[] #v[] #v[] #v[]
theorem mU{a b c d:Pt}:meet a b c d=true↔(iK (ag a b c) (ag a b d)=true/\iK (ag c d a) (ag c d b)=true) ∨
  onSeg c a b=true\/onSeg d a b=true\/onSeg a c d=true\/onSeg b c d=true:=by simp only[meet,eU,aZ]
theorem kX{m n:Int}{p q r:Pt}{cx cy:Int}(v:m≠0\/n≠0)(u:m*(p.y-cy)=n*(p.x-cx))(t:m*(q.y-cy)=n*(q.x-cx))(o:m*(r.y-cy)=n*(r.x-cx))(i:m≠0->(q.x-p.x)*(r.x-p.x)<=0)(g:m=0->(q.y-p.y)*(r.y-p.y)<=0):onSeg p q r=true:=by
 rw[yl];have d1:m*(q.y-p.y)=n*(q.x-p.x):=by grind
 have d2:m*(r.y-p.y)=n*(r.x-p.x):=by grind
 by_cases k:m=0;have a:n≠0:=#v[]
 have c:q.x-p.x=0:=by rw[k,fH]at d1;rcases bE.mp d1.symm with d|d;exact absurd d a;exact d
 have l:r.x-p.x=0:=by rw[k,fH]at d2;rcases bE.mp d2.symm with d|d;exact absurd d a;exact d
 refine⟨?_,by rw[c];simp,g k⟩;simp only[ag];grind;have f:=sq_pos k;have b:=i k;refine⟨?_,b,?_⟩;have:m*ag q r p=0:=by simp only[ag];grind
 rcases bE.mp this with h|h;exact absurd h k;exact h;have e:(m*m)*((q.y-p.y)*(r.y-p.y))=(n*n)*((q.x-p.x)*(r.x-p.x)):=by
  have:(m*m)*((q.y-p.y)*(r.y-p.y))=(m*(q.y-p.y))*(m*(r.y-p.y)):=by grind
  rw[this,d1,d2];grind
 have s:=cU (gh n) b;rcases aK 0 ((q.y-p.y)*(r.y-p.y)) with j|j;have:=br f j;lia;exact j
theorem Jd{m n cx cy:Int}{a b c d:Pt}(f:m≠0\/n≠0)(j:m*(a.y-cy)=n*(a.x-cx))(i:m*(b.y-cy)=n*(b.x-cx))(g:m*(c.y-cy)=n*(c.x-cx))(hd:m*(d.y-cy)=n*(d.x-cx))(o:cQ a.x b.x c.x d.x=false)(l:cQ a.y b.y c.y d.y=false):meet a b c d=true:=by rw[mU];right;by_cases k:m=0;rcases overlap l with h|h|h|h;left;exact kX f g j i (λq=>absurd k q) (λ_=>h);right;left;exact kX f hd j i (λq=>absurd k q) (λ_=>h);right;right;left;exact kX f j g hd (λq=>absurd k q) (λ_=>h);right;right;right;exact kX f i g hd (λq=>absurd k q) (λ_=>h);rcases overlap o with h|h|h|h;left;exact kX f g j i (λ_=>h) (λq=>absurd q k);right;left;exact kX f hd j i (λ_=>h) (λq=>absurd q k);right;right;left;exact kX f j g hd (λ_=>h) (λq=>absurd q k);right;right;right;exact kX f i g hd (λ_=>h) (λq=>absurd q k)
theorem nP{a b c d:Pt}(g:cQ a.x b.x c.x d.x=false)(f:cQ a.y b.y c.y d.y=false)(o:ag c d a*ag c d b<=0)(hz:ag a b c=0):meet a b c d=true:=by
 by_cases on:onSeg c a b=true;rw[mU];exact .inr (.inl on);have hd:0<cP (sub a c) (sub b c):=by rw[fU]at on;rcases aK 0 (cP (sub a c) (sub b c)) with k|k;exact k;exact absurd ⟨hz,k⟩ on
 have e:(ag c d a*ag c d b)*cP (sub a c) (sub a c)=(ag c d a*ag c d a)*cP (sub a c) (sub b c):=by
  simp only[ag]at hz;simp only[ag,cP,sub];have q:(a.x-c.x)*(b.y-c.y)-(a.y-c.y)*(b.x-c.x)=0:=by grind
  grind
 have i:0<=cP (sub a c) (sub a c):=by simp only[cP];have:=gh (sub a c).x;have:=gh (sub a c).y;lia
 have p:=iA o i;have h:ag c d a=0:=by by_cases k:ag c d a=0;exact k;have:=br (sq_pos k) hd;lia
 have l:a.x-c.x≠0\/a.y-c.y≠0:=by by_cases k:a.x-c.x=0;right;intro j;simp only[cP,sub,k,j]at hd;simp at hd;exact .inl k
 simp only[ag]at hz h;exact Jd (m:=a.x-c.x) (n:=a.y-c.y) (cx:=c.x) (cy:=c.y) l (by grind) (by grind) (by grind) (by grind) g f
theorem jl(a b c d:Pt):fh a b c d=meet a b c d:=by
 apply cW;constructor;intro h;obtain⟨g,f,j,i⟩:=mS.mp h;by_cases l:ag a b c*ag a b d<0;by_cases k:ag c d a*ag c d b<0;rw[mU];exact .inl ⟨M7 l,M7 k⟩;have z:ag c d a*ag c d b=0:=#v[]
 rcases bE.mp z with z|z;rw[<- meet_comm];exact nP (by rw[nW];exact g) (by rw[nW];exact f) j z;rw[<- meet_comm,<- jT];exact nP (by rw[l9,nW];exact g) (by rw[l9,nW];exact f) (by rw[iB a b c,iB a b d,uq];exact j) z;have z:ag a b c*ag a b d=0:=#v[]
 rcases bE.mp z with z|z;exact nP g f i z;rw[<- jT];exact nP (by rw[l9];exact g) (by rw[l9];exact f) (by rw[iB c d a,iB c d b,uq];exact i) z;intro h;rcases mU.mp h with⟨j,i⟩|h|h|h|h;exact xX j i;exact mK h;rw[<- uM];exact mK h;rw[<- nL];exact mK h;rw[<- nL,<- uM];exact mK h
theorem le_iff{f g:Frac}:f.le g=true↔f.num*g.den<=g.num*f.den:=by simp[Frac.le]
theorem le_refl(f:Frac):f.le f=true:=le_iff.mpr (aS _)
theorem le_total{f g:Frac}(h:f.le g=false):g.le f=true:=by rw[le_iff];rw[<- a8,le_iff]at h;lia
theorem le_trans{f g h:Frac}(d:0<g.den)(j:f.le g=true)(i:g.le h=true):f.le h=true:=by
 rw[le_iff]at *;have a:=Qn h.den j;have b:=Qn f.den i;have c:g.den*(f.num*h.den)<=g.den*(h.num*f.den):=by
  have m:g.den*(f.num*h.den)=f.num*g.den*h.den:=by grind
  have l:g.num*f.den*h.den=g.num*h.den*f.den:=by grind
  have k:g.den*(h.num*f.den)=h.num*g.den*f.den:=by grind
  lia
 exact Nat.le_of_mul_le_mul_left c d
theorem Gk(f g:Frac)(a:0<f.den):(f.least g).le f=true:=by unfold Frac.least;cases e:f.le g;simp;exact le_total e;simp;exact le_refl f
theorem Gj(f g:Frac):(f.least g).le g=true:=by unfold Frac.least;cases e:f.le g;simp;exact le_refl g;simp;exact e
theorem qi(f g:Frac):f.least g=f\/f.least g=g:=by unfold Frac.least;cases f.le g<;>simp
def Good(l:a5 Frac):Prop:=∀f∈l,0<f.den
theorem B9:∀(l:a5 Frac)(f:Frac),0<f.den->Good l →
  (l.foldl Frac.least f=f\/l.foldl Frac.least f∈l)/\(l.foldl Frac.least f).le f=true/\∀g∈l,(l.foldl Frac.least f).le g=true
|[],f,_,_=>⟨.inl rfl,le_refl f,λ_ h=>nomatch h⟩
|g::l,f,j,hl=>by
  have m:0<g.den:=hl g (aF ..);have b:0<(f.least g).den:=by rcases qi f g with h|h<;>rw[h]<;>assumption
  obtain⟨i,c,d⟩:=B9 l (f.least g) b (λx a=>hl x (ah _ a));rw[bJ];refine⟨?_,le_trans b c (Gk f g j),?_⟩;rcases i with h|h;rw[h];rcases qi f g with k|k;exact .inl k;right;rw[k];exact aF ..;exact .inr (ah _ h);intro x a;rcases aq.mp a with rfl|a;exact le_trans b c (Gj f x);exact d x a
theorem iI{l:a5 Frac}(j:l≠[])(hl:Good l):cO l∈l/\∀g∈l,(cO l).le g=true:=by
 match l,j with
|f::r,_=>have k:0<f.den:=hl f (aF ..);obtain⟨d,c,b⟩:=B9 r f k (λx i=>hl x (ah _ i));refine⟨?_,λg a=>?_⟩;rcases d with h|h;show r.foldl Frac.least f∈f::r;rw[h];exact aF ..;exact ah _ h;rcases aq.mp a with rfl|a;exact c;exact b g a
theorem mM{f g:Frac}(o:0<f.den)(n:0<g.den)(h:f.num*g.den=g.num*f.den):f.reduced=g.reduced:=by
 obtain⟨a,b⟩:=f;obtain⟨c,d⟩:=g;simp only at o n h;simp only[Frac.reduced,Frac.mk.injEq];have l:0<jZ a b:=lg _ o;have pg:0<jZ c d:=lg _ n;have m:a*jZ c d=c*jZ a b:=by rw[<- rR,<- rR,h,tK a c]
 have p:b*jZ c d=d*jZ a b:=by rw[<- rR,<- rR,tK b c,<- h,tK b d,tK d a]
 constructor;apply Hk l;have e:c*jZ a b=a*jZ c d:=m.symm;obtain⟨k,i⟩:=Xp c d;have j:c / jZ c d=k:=by
  conv=>lhs;lhs;rw[i]
  exact Ko _ pg
 rw[j];apply G5 pg;rw[m]
 conv=>lhs;lhs;rw[i]
 grind;apply Hk l;obtain⟨k,i⟩:=Ao c d;have j:d / jZ c d=k:=by
  conv=>lhs;lhs;rw[i]
  exact Ko _ pg
 rw[j];apply G5 pg;rw[p]
 conv=>lhs;lhs;rw[i]
 grind
theorem le_antisymm{f g:Frac}(b:f.le g=true)(a:g.le f=true):f.num*g.den=g.num*f.den:=by rw[le_iff]at b a;lia
theorem FC{f:Frac}(c:0<f.den)(h:f.num=0):f.reduced=.whole 0:=by obtain⟨a,b⟩:=f;simp only at c h;subst h;simp only[Frac.reduced,Frac.whole,Nat.gcd_zero_left,Nat.zero_div,Frac.mk.injEq,true_and];exact Nat.div_self c
theorem eA(a b:Pt):(cD a b:Int)=(a.x-b.x)*(a.x-b.x)+(a.y-b.y)*(a.y-b.y):=by simp only[cD,sq,iV,fR];rw[ku ,ku]
theorem j6(p a b:Pt):0<(ba p a b).den:=by unfold ba;simp only;split;exact Ql;split;exact Ql;show 0<cD a b;lia
theorem vk(a b c d:Pt):0<(xO a b c d).den:=by
 unfold xO;split;exact Ql;have:=(iI (l:=[ba a c d,ba b c d,ba c a b,ba d a b]) #v[0] (by intro f g;simp at g;rcases g with rfl|rfl|rfl|rfl<;>exact j6 ..)).1
 simp at this;rcases this with h|h|h|h<;>rw[h]<;>exact j6 ..
theorem sY(l:a5 Pt)(h:l≠[]):(∃p,l=[p]/\aO l=[(p,p)])\/(∃p q,l=[p,q]/\aO l=[(p,q)]) ∨
  (3<=l.length/\∃a r,l=a::r/\aO l=(a::r).zip (r++[a])):=by
 match l,h with
|[p],_=>exact .inl ⟨p,rfl,rfl⟩
|[p,q],_=>exact .inr (.inl ⟨p,q,rfl,rfl⟩)
|a::b::c::r,_=>exact .inr (.inr ⟨#v[0],a,b::c::r,rfl,rfl⟩)
theorem bN{l:a5 Pt}{e:Pt×Pt}(h:e∈aO l):e.1∈l/\e.2∈l:=by by_cases hl:l=[];subst hl;exact nomatch h;rcases sY l hl with⟨p,rfl,q⟩|⟨p,q,rfl,z⟩|⟨_,a,r,rfl,q⟩;rw[q]at h;simp at h;subst h;simp;rw[z]at h;simp at h;subst h;simp;rw[q]at h;obtain⟨x,y⟩:=e;have:=iR h;refine⟨this.1,?_⟩;have b:=this.2;simp only[aI,aq,bF,or_false]at b⊢;rcases b with b|b;exact .inr b;exact .inl b
theorem zt:∀(l:a5 Pt)(a z p:Pt),p∈a::l->∃e∈(a::l).zip (l++[z]),e.1=p
|[],a,z,p,h=>by simp at h;subst h;exact⟨(p,z),#v[0],rfl⟩
|b::l,a,z,p,h=>by rcases aq.mp h with rfl|h;exact⟨(p,b),#v[0],rfl⟩;obtain⟨e,c,q⟩:=zt l b z p h;refine⟨e,?_,q⟩;rw[aU,du];exact ah _ c
theorem pq{l:a5 Pt}{p:Pt}(h:p∈l):∃e∈aO l,e.1=p\/e.2=p:=by
 have hl:l≠[]:=λq=>by rw[q]at h;exact nomatch h
 rcases sY l hl with⟨a,rfl,q⟩|⟨a,b,rfl,z⟩|⟨_,a,r,rfl,q⟩;simp at h;subst h;exact⟨(p,p),by rw[q];simp,.inl rfl⟩;refine⟨(a,b),by rw[z];simp,?_⟩;simp at h;rcases h with rfl|rfl;exact .inl rfl;exact .inr rfl;obtain⟨e,c,w⟩:=zt r a a p h;exact⟨e,by rw[q];exact c,.inl w⟩
theorem Ci{l:a5 Pt}(h:l≠[]):aO l≠[]:=by
 match l,h with
|[p],_=>exact λq=>nomatch q
|[p,q],_=>exact λq=>nomatch q
|a::b::c::r,_=>exact λq=>nomatch q
theorem tw(f:Pt->Bool):∀(l:a5 Pt)(a z:Pt),(∀e∈(a::l).zip (l++[z]),f e.1=f e.2)->∀p∈a::l,f p=f a
|[],a,z,_,p,c=>by simp at c;rw[c]
|b::l,a,z,h,p,c=>by rw[aU,du]at h;rcases aq.mp c with rfl|c;rfl;have:=tw f l b z (λe d=>h e (ah _ d)) p c;rw[this];exact(h (a,b) (aF ..)).symm
theorem Jy{f:Pt->Bool}{l:a5 Pt}(h:∀e∈aO l,f e.1=f e.2){p q:Pt}(c:p∈l)(d:q∈l):f p=f q:=by
 have hl:l≠[]:=λz=>by rw[z]at c;exact nomatch c
 rcases sY l hl with⟨a,rfl,_⟩|⟨a,b,rfl,z⟩|⟨_,a,r,rfl,z⟩;simp at c d;rw[c,d];have:=h (a,b) (by rw[z];simp);simp at c d this;rcases c with rfl|rfl<;>rcases d with rfl|rfl<;>simp[this];rw[z]at h;rw[tw f r a a h p c,tw f r a a h q d]
def Clear(k l:a5 Pt):Prop:=∀e∈aO k,∀f∈aO l,meet e.1 e.2 f.1 f.2=false
theorem Clear.symm{k l:a5 Pt}(h:Clear k l):Clear l k:=λe b f a=>by rw[meet_comm];exact h f a e b
theorem Clear.off{k l:a5 Pt}(h:Clear k l){p:Pt}(a:p∈l):il k p=false:=by obtain⟨f,b,w⟩:=pq a;rw[<- a8,il,bS];rintro⟨e,c,on⟩;have m:=jn (h e c f b);rcases w with rfl|rfl;rw[on]at m;exact nomatch m.2.1;rw[on]at m;exact nomatch m.2.2.1
theorem Clear.M3{k l:a5 Pt}(h:Clear k l){p q:Pt}(b:p∈l)(a:q∈l):odd k p=odd k q:=
 Jy (f:=odd k) (λe d=>Ef (λf c=>by rw[meet_comm];exact h f c e d)) b a
theorem Clear.Ez{k l:a5 Pt}(h:Clear k l){p q:Pt}(b:p∈l)(a:q∈l):pR k p=pR k q:=by simp only[pR,h.off b,h.off a,h.M3 b a]
theorem E5{α:Type}{f:α->Bool}{l:a5 α}{q:α}(a:q∈l)(h:∀p∈l,f p=f q):l.any f=f q:=by cases e:f q;rw[<- a8,bS];rintro⟨p,b,k⟩;rw[h p b,e]at k;exact aD k;rw[bS];exact⟨q,a,e⟩
def nR(p:Pt)(e:Pt×Pt):Bool:=(decide (p.y<e.1.y) != decide (p.y<e.2.y))&&(decide (0<ag e.1 e.2 p) == decide (p.y<e.2.y))
def encl(l:a5 Pt)(p:Pt):Bool:=decide (3<=l.length)&&par (nR p) (aO l)
theorem LX{p:Pt}{e:Pt×Pt}(h:onSeg p e.1 e.2=false):nR p e=bo p e:=by
 obtain⟨a,b⟩:=e;simp only at h;apply cW;simp only[nR,bo,aZ,eU,decide_eq_true_eq,bne_iff_ne,ne_eq,beq_iff_eq,decide_eq_decide];have z:b.y<=p.y->p.y<a.y->ag a b p≠0:=λd c z=>by
  have z':ag b a p=0:=by rw[iB a b p];lia
  have:=bU z' d (fK c) #v[];rw[fT,h]at this;exact aD this
 by_cases d:p.y<a.y<;>by_cases c:p.y<b.y<;>simp only[d,c]<;>simp<;>lia
theorem xa{l:a5 Pt}{p:Pt}(h:il l p=false):encl l p=odd l p:=by
 unfold encl odd;rw[tV,tW (f:=nR p) (g:=bo p)];intro e a;apply LX;rw[<- a8];intro on;have:il l p=true:=by rw[il,bS];exact⟨e,a,on⟩
 rw[h]at this;exact aD this
def eB(k l:a5 Pt):a5 Frac:=k.flatMap λp=>(aO l).map λe=>ba p e.1 e.2
def common(k l:a5 Pt):Bool:=((aO k).any λe=>(aO l).any λf=>fh e.1 e.2 f.1 f.2)||(encl k (l.headD ⟨0,0⟩)||encl l (k.headD ⟨0,0⟩))
def JB(k l:a5 Pt):Frac:=if common k l=true then .whole 0 else(Frac.least (cO (eB k l)) (cO (eB l k))).reduced
theorem dZ{k l:a5 Pt}{f:Frac}:f∈eB k l↔∃p∈k,∃e∈aO l,f=ba p e.1 e.2:=by simp only[eB,kz,bh,eq_comm]
theorem iM(k l:a5 Pt):Good (eB k l):=λf a=>by obtain⟨p,_,e,_,rfl⟩:=dZ.mp a;exact j6 ..
theorem wA{k l:a5 Pt}(hk:k≠[])(hl:l≠[]):eB k l≠[]:=by obtain⟨p,a⟩:=fV _ hk;obtain⟨e,b⟩:=fV _ (Ci hl);exact xK (dZ.mpr ⟨p,a,e,b,rfl⟩)
def rZ(k l:a5 Pt):a5 Frac:=(aO k).flatMap λe=>(aO l).map λf=>xO e.1 e.2 f.1 f.2
theorem mj{k l:a5 Pt}{f:Frac}:f∈rZ k l↔∃d∈aO k,∃e∈aO l,f=xO d.1 d.2 e.1 e.2:=by simp only[rZ,kz,bh,eq_comm]
theorem oY(k l:a5 Pt):Good (rZ k l):=λf a=>by obtain⟨p,_,e,_,rfl⟩:=mj.mp a;exact vk ..
theorem D5{k l:a5 Pt}(hk:k≠[])(hl:l≠[]):rZ k l≠[]:=by obtain⟨p,a⟩:=fV _ (Ci hk);obtain⟨e,b⟩:=fV _ (Ci hl);exact xK (mj.mpr ⟨p,a,e,b,rfl⟩)
theorem qJ{a b c d:Pt}(h:meet a b c d=false):xO a b c d∈[ba a c d,ba b c d,ba c a b,ba d a b] ∧
  ∀f∈[ba a c d,ba b c d,ba c a b,ba d a b],(xO a b c d).le f=true:=by
 have:xO a b c d=cO [ba a c d,ba b c d,ba c a b,ba d a b]:=by unfold xO;rw[h];rfl
 rw[this];apply iI #v[0];intro f g;simp at g;rcases g with rfl|rfl|rfl|rfl<;>exact j6 ..
theorem LO{k l:a5 Pt}(hk:k≠[])(hl:l≠[])(h:Clear k l):
  (cO (rZ k l)).reduced=(Frac.least (cO (eB k l)) (cO (eB l k))).reduced:=by
 obtain⟨a1,a2⟩:=iI (wA hk hl) (iM k l);obtain⟨o,b2⟩:=iI (wA hl hk) (iM l k);obtain⟨n,m⟩:=iI (D5 hk hl) (oY k l);have j:=iM k l _ a1;have x:=iM l k _ o;have v:=oY k l _ n;have u:0<(Frac.least (cO (eB k l)) (cO (eB l k))).den:=by rcases qi (cO (eB k l)) (cO (eB l k)) with q|q<;>rw[q]<;>assumption
 have i:∀f∈eB k l,(Frac.least (cO (eB k l)) (cO (eB l k))).le f=true:=λf b=>le_trans j (Gk _ _ j) (a2 f b);have g:∀f∈eB l k,(Frac.least (cO (eB k l)) (cO (eB l k))).le f=true:=λf b=>le_trans x (Gj _ _) (b2 f b);apply mM v u;apply le_antisymm;have t:∀f∈eB k l,(cO (rZ k l)).le f=true:=λf b=>by obtain⟨p,c,e,a,rfl⟩:=dZ.mp b;obtain⟨d,hd,w⟩:=pq c;have s:=qJ (h d hd e a);refine le_trans (vk d.1 d.2 e.1 e.2) (m _ (mj.mpr ⟨d,hd,e,a,rfl⟩)) (s.2 _ ?_);rcases w with rfl|rfl<;>simp
 have r:∀f∈eB l k,(cO (rZ k l)).le f=true:=λf b=>by obtain⟨p,c,d,hd,rfl⟩:=dZ.mp b;obtain⟨e,a,w⟩:=pq c;have s:=qJ (h d hd e a);refine le_trans (vk d.1 d.2 e.1 e.2) (m _ (mj.mpr ⟨d,hd,e,a,rfl⟩)) (s.2 _ ?_);rcases w with rfl|rfl<;>simp
 rcases qi (cO (eB k l)) (cO (eB l k)) with q|q;rw[q];exact t _ a1;rw[q];exact r _ o;obtain⟨d,hd,e,a,q⟩:=mj.mp n;have s:=(qJ (h d hd e a)).1;rw[q];simp only[aq,bF,or_false]at s;rcases s with s|s|s|s;rw[s];exact i _ (dZ.mpr ⟨d.1,(bN hd).1,e,a,rfl⟩);rw[s];exact i _ (dZ.mpr ⟨d.2,(bN hd).2,e,a,rfl⟩);rw[s];exact g _ (dZ.mpr ⟨e.1,(bN a).1,d,hd,rfl⟩);rw[s];exact g _ (dZ.mpr ⟨e.2,(bN a).2,d,hd,rfl⟩)
theorem ql{l:a5 Pt}(h:l≠[])(d:Pt):l.headD d∈l:=by
 match l,h with
|a::r,_=>exact aF ..
theorem JA{k l:a5 Pt}(hk:k≠[])(hl:l≠[]):JB k l=aT k l:=by
 show _=if(l.any (pR k)||k.any (pR l))=true then Frac.whole 0 else(cO (rZ k l)).reduced;by_cases a:Clear k l;have i:((aO k).any λe=>(aO l).any λf=>fh e.1 e.2 f.1 f.2)=false:=by rw[<- a8,bS];rintro⟨e,c,q⟩;rw[bS]at q;obtain⟨f,b,q⟩:=q;rw[jl,a e c f b]at q;exact aD q
 have g:=ql hl ⟨0,0⟩;have d:=ql hk ⟨0,0⟩;have o:l.any (pR k)=encl k (l.headD ⟨0,0⟩):=by rw[E5 g (λp h=>a.Ez h g),xa (a.off g),pR,a.off g,jL]
 have m:k.any (pR l)=encl l (k.headD ⟨0,0⟩):=by rw[E5 d (λp h=>a.symm.Ez h d),xa (a.symm.off d),pR,a.symm.off d,jL]
 have j:common k l=(l.any (pR k)||k.any (pR l)):=by rw[common,i,o,m,jL]
 rw[JB,j,LO hk hl a];have:∃e∈aO k,∃f∈aO l,meet e.1 e.2 f.1 f.2=true:=by apply oJ;intro n;apply a;intro e c f b;rw[<- a8];exact λq=>n ⟨e,c,f,b,q⟩
 obtain⟨e,c,f,b,q⟩:=this;have cm:common k l=true:=by rw[common,eU];left;rw[bS];refine⟨e,c,?_⟩;rw[bS];exact⟨f,b,by rw[jl];exact q⟩
 rw[JB,cm,if_pos rfl];split;rfl;obtain⟨s,r⟩:=iI (D5 hk hl) (oY k l);have:=r _ (mj.mpr ⟨e,c,f,b,rfl⟩);have z:xO e.1 e.2 f.1 f.2=.whole 0:=by unfold xO;rw[q];rfl
 rw[z,le_iff]at this;simp only[Frac.whole,Nat.mul_one,Nat.zero_mul]at this;exact(FC (oY k l _ s) #v[]).symm
def gL:a5 Pt->a5 (Pt×Pt×Pt)
|a::b::c::r=>(a,b,c)::gL (b::c::r)
|_=>[]
theorem Hy:∀(r:a5 Pt)(a b x y:Pt),(a::b::r).zip ((b::r++[x]).zip (r++[x,y]))=gL (a::b::r++[x,y])
|[],a,b,x,y=>by simp[gL]
|c::r,a,b,x,y=>by have d:=Hy r b c x y;simp only[aU,du,gL]at d⊢;rw[d]
theorem l7:∀(l:a5 Pt)(a b c:Pt),gL (l++[a,b,c])=gL (l++[a,b])++[(a,b,c)]
|[],a,b,c=>rfl
|[x],a,b,c=>rfl
|[x,y],a,b,c=>rfl
|x::y::z::l,a,b,c=>by have d:=l7 (y::z::l) a b c;simp only[aU,gL]at d⊢;rw[d]
theorem h8{a b:Pt}{r:a5 Pt}:fA (a::b::r)=(gL (a::b::r++[a,b])).all λt=>gK t.1 t.2.1 t.2.2:=by rw[<- Hy r a b a b];rfl
theorem zq:∀(l:a5 Pt)(z a w:Pt),((z::a::l).zip ((a::l).zip (l++[w]))).map (λt=>(t.1,t.2.1,t.2.2))=gL (z::a::l++[w])
|[],z,a,w=>rfl
|b::l,z,a,w=>by have c:=zq l a b w;simp only[aU,du,a9,gL]at c⊢;rw[c]
theorem qR{a:Pt}{r:a5 Pt}{z:Pt}(hz:(a::r).getLast? = some z):dh (a::r)=gL (z::a::r++[a]):=by rw[<- zq r z a a];simp only[dh,hz]
theorem xQ{a b z:Pt}{r:a5 Pt}(hz:(a::b::r).getLast? = some z)(q:Pt×Pt×Pt->Bool):
  (gL (a::b::r++[a,b])).all q=(gL (z::a::b::r++[a])).all q:=by
 obtain⟨l,e⟩:∃l,a::b::r=l++[z]:=by have:=cZ.mp hz;exact this
 have g:a::b::r++[a,b]=l++[z,a,b]:=by rw[e];simp
 have f:z::a::b::r++[a]=z::(a::b::r++[a]):=rfl;have d:gL (z::(a::b::r++[a]))=(z,a,b)::gL (a::b::r++[a]):=rfl;have c:a::b::r++[a]=l++[z,a]:=by rw[e];simp
 rw[g,l7,f,d,c,lh,gq];simp only[gq,Ks,k8];exact k9 _ _
def EZ(a b c:Pt):Bool:=decide (ag a b c=0)&&decide ((b.x-a.x)*(c.x-b.x)+(b.y-a.y)*(c.y-b.y)<0)
def nbr(l:a5 Pt):Bool:=(dh l).all λt=>!(decide (t.1=t.2.1)||EZ t.1 t.2.1 t.2.2)
theorem rW:∀{l:a5 Pt}{t:Pt×Pt×Pt},t∈gL l->∃u v,l=u++[t.1,t.2.1,t.2.2]++v
|a::b::c::r,t,h=>by rcases aq.mp h with rfl|h;exact⟨[],r,rfl⟩;obtain⟨u,v,e⟩:=rW h;exact⟨a::u,v,by rw[e];rfl⟩
|[],_,h=>nomatch h
|[_],_,h=>nomatch h
|[_,_],_,h=>nomatch h
theorem wj:∀(u:a5 Pt)(a b c:Pt)(v:a5 Pt),(a,b,c)∈gL (u++[a,b,c]++v)
|[],a,b,c,v=>aF ..
|[x],a,b,c,v=>ah _ (wj [] a b c v)
|[x,y],a,b,c,v=>ah _ (wj [y] a b c v)
|x::y::z::u,a,b,c,v=>ah _ (wj (y::z::u) a b c v)
theorem EY{a b c:Pt}:EZ a b c=true↔(ag a b c=0/\0<cP (sub a b) (sub c b)):=by
 simp only[EZ,aZ,decide_eq_true_eq,cP,sub];have:(a.x-b.x)*(c.x-b.x)+(a.y-b.y)*(c.y-b.y) = - ((b.x-a.x)*(c.x-b.x)+(b.y-a.y)*(c.y-b.y)):=by grind
 rw[this];lia
theorem dA{a b c:Pt}:gK a b c=true↔a≠b/\b≠c/\¬(ag a b c=0/\0<cP (sub a b) (sub c b)):=by
 simp only[gK,aZ,fF,Ms,decide_eq_true_eq,decide_eq_false_iff_not];have:(¬ag a b c=0\/¬0<cP (sub a b) (sub c b))↔¬(ag a b c=0/\0<cP (sub a b) (sub c b)):=by constructor;rintro(h|h) ⟨p,q⟩;exact h p;exact h q;intro h;by_cases p:ag a b c=0;exact .inr λq=>h ⟨p,q⟩;exact .inl p
 rw[this]
theorem aaj{l:a5 Pt}(h:2<=l.length):nbr l=fA l:=by
 match l,h with
|a::b::r,_=>
  obtain⟨z,hz⟩:∃z,(a::b::r).getLast? = some z:=by
   cases e:(a::b::r).getLast? with
  |none=>simp at e
  |some z=>exact⟨z,rfl⟩
  rw[h8,xQ hz,nbr,qR hz];apply cW;rw[bf,bf];have hl:∃l0,a::b::r=l0++[z]:=cZ.mp hz;obtain⟨l0,j⟩:=hl;constructor;intro H t f;have c:=H t f;simp only[fF,cM,decide_eq_false_iff_not]at c;rw[dA];refine⟨c.1,?_,λq=>by rw[EY.mpr q]at c;exact nomatch c.2⟩;obtain⟨u,v,e⟩:=rW f;cases v with
 |cons w v=>
   have g:(t.2.1,t.2.2,w)∈gL (z::a::b::r++[a]):=by rw[e];have:=wj (u++[t.1]) t.2.1 t.2.2 w v;simpa using this
   have d:=H _ g;simp only[fF,cM,decide_eq_false_iff_not]at d;exact d.1
 |nil=>
   have e':z::(a::b::r)++[a]=(u++[t.1,t.2.1])++[t.2.2]:=by have:z::(a::b::r)++[a]=z::a::b::r++[a]:=rfl;rw[this,e];simp
   have i:=AZ e' rfl;have o:t.2.2=a:=by have:=i.2;simp at this;exact this.symm
   have n:t.2.1=z:=by
    have m:z::(a::b::r)=(u++[t.1])++[t.2.1]:=by rw[i.1];simp
    have k:z::(l0++[z])=(u++[t.1])++[t.2.1]:=by rw[<- j];exact m
    have p:(z::l0)++[z]=(u++[t.1])++[t.2.1]:=k;have:=(AZ p rfl).2;simp at this;exact this.symm
   have g:(z,a,b)∈gL (z::a::b::r++[a]):=aF ..;have d:=H _ g;simp only[fF,cM,decide_eq_false_iff_not]at d;rw[o,n];exact d.1
  intro H t f;have c:=H t f;rw[dA]at c;simp only[fF,cM,decide_eq_false_iff_not];refine⟨c.1,?_⟩;rw[<- a8,EY];exact c.2.2
theorem BK{e:Pt×Pt}{l:a5 (Pt×Pt)}:nobodyMeets e l=true↔∀f∈l,meet e.1 e.2 f.1 f.2=false:=by simp[nobodyMeets,bf]
theorem EG:∀(S:a5 (Pt×Pt)),lu false S=true↔∀i j e f,S[i]? = some e->S[j]? = some f->i+2<=j->meet e.1 e.2 f.1 f.2=false
|[]=>by simp[lu]
|e::r=>by
  rw[lu,aZ,EG r,BK];simp only[gd,if_false];constructor;rintro⟨h,g⟩ i j a b hi hj d
  match i,j with
 |0,j+2=>simp at hi;subst hi;apply h;rw[dB];exact⟨j,by rw[ly];simpa [Ap] using hj⟩
 |i+1,j+1=>exact g i j a b #v[hi] #v[hj] #v[]
 |0,0=>lia
 |0,1=>lia
 |i+1,0=>lia
  intro H;refine⟨λf c=>?_,λi j a b hi hj d=>H (i+1) (j+1) a b #v[hi] #v[hj] #v[]⟩;rw[dB]at c;obtain⟨k,hk⟩:=c;rw[ly]at hk;exact H 0 (k+2) e f rfl (by simpa [Ap] using hk) #v[]
theorem Ju(S:a5 (Pt×Pt)):lu true S=true↔∀i j e f,S[i]? = some e->S[j]? = some f->i+2<=j->(i=0->j+1<S.length)->meet e.1 e.2 f.1 f.2=false:=by
 match S with
|[]=>simp[lu]
|e::r=>
  rw[lu,aZ,EG r,BK];simp only[if_true];constructor;rintro⟨h,g⟩ i j a b hi hj d hl
  match i,j with
 |0,j+2=>simp at hi;subst hi;apply h;rw[dB];have:=hl rfl;simp at this;refine⟨j,?_⟩;rw[Kp,cj,if_pos #v[],ly];simpa [Ap] using hj
 |i+1,j+1=>exact g i j a b #v[hi] #v[hj] #v[]
 |0,0=>lia
 |0,1=>lia
 |i+1,0=>lia
  intro H;refine⟨λf c=>?_,λi j a b hi hj d=>H (i+1) (j+1) a b #v[hi] #v[hj] #v[] #v[]⟩;rw[dB]at c;obtain⟨k,hk⟩:=c;rw[Kp,cj]at hk;split at hk;rw[ly]at hk;exact H 0 (k+2) e f rfl (by simpa [Ap] using hk) #v[] (λ_=>by simp;lia);cases hk
theorem nZ{a b:Pt}:fB a b=true↔a.y<b.y\/(a.y=b.y/\a.x<b.x):=by simp[fB]
theorem c7{a b:Pt}:fB a b=false↔b.y<a.y\/(a.y=b.y/\b.x<=a.x):=by rw[<- a8,nZ];lia
theorem rA{a b c:Pt}(f:fB a b=false)(d:fB b c=false):fB a c=false:=by rw[c7]at *;lia
theorem mV:∀(l:a5 Pt)(p:Pt),l6 l p∈p::l/\∀q∈p::l,fB q (l6 l p)=false
|[],p=>by refine⟨aF ..,λq b=>?_⟩;simp at b;subst b;show fB q q=false;rw[c7];lia
|a::l,p=>by obtain⟨f,d⟩:=mV l (if fB a p=true then a else p);show l6 l (if fB a p=true then a else p)∈_/\∀q∈_,fB q (l6 l (if fB a p=true then a else p))=false;refine⟨?_,λq b=>?_⟩;rcases aq.mp f with h|h;rw[h];split<;>simp;exact ah _ (ah _ h);have c:=d (if fB a p=true then a else p) (aF ..);rcases aq.mp b with rfl|b;refine rA ?_ c;split;rename_i k;rw[nZ]at k;rw[c7];lia;rw[c7];lia;rcases aq.mp b with rfl|b;refine rA ?_ c;split;rw[c7];lia;rename_i k;simpa using k;exact d q (ah _ b)
theorem fk{a b:Pt}(d:a.x=b.x)(c:a.y=b.y):a=b:=by cases a;cases b;simp only[Pt.mk.injEq];exact⟨d,c⟩
theorem Jf{l:a5 Pt}{p m:Pt}(c:m∈p::l)(h:∀q∈p::l,fB q m=false):l6 l p=m:=by obtain⟨f,d⟩:=mV l p;have a:=d m c;have b:=h _ f;rw[c7]at a b;exact fk #v[] #v[]
theorem mw{l:a5 Pt}(h:l≠[]):∃u m v,l=u++m::v/\(∀q∈u,q≠m)/\(∀q∈l,fB q m=false)/\kW l=m::v++u:=by
 match l,h with
|p::r,_=>
  obtain⟨k,j⟩:=mV r p;have key:∀(l:a5 Pt)(m:Pt),m∈l->∃u v,l=u++m::v/\(∀q∈u,q≠m)/\l.dropWhile (λq=>decide (q≠m))=m::v/\l.takeWhile (λq=>decide (q≠m))=u:=by
   intro l m
   induction l with
  |nil=>intro h;exact nomatch h
  |cons a l i=>
    intro h;by_cases e:a=m;subst e;exact⟨[],l,rfl,(λ_ h=>nomatch h),#v[0],#v[0]⟩;obtain⟨u,v,g,f,d,c⟩:=i (by rcases aq.mp h with h|h;exact absurd h.symm e;exact h)
    refine⟨a::u,v,by rw[g];rfl,λq b=>?_,?_,?_⟩;rcases aq.mp b with rfl|b;exact e;exact f q b;rw[Fg #v[e]];exact d;rw[Fe #v[e],c]
  obtain⟨u,v,g,f,d,c⟩:=key (p::r) (l6 r p) k;exact⟨u,l6 r p,v,g,f,j,by show(p::r).dropWhile (λq=>decide (q≠l6 r p))++(p::r).takeWhile (λq=>decide (q≠l6 r p))=_;rw[d,c]⟩
def uY(e:Pt×Pt):Int:=e.1.x*e.2.y-e.1.y*e.2.x
def dbl(l:a5 Pt):Int:=((l.zip (l.drop 1++l.take 1)).map uY).sum
theorem foldl_add{α:Type}(f:α->Int):∀(l:a5 α)(s:Int),l.foldl (λs e=>s+f e) s=s+(l.map f).sum
|[],s=>by simp
|a::l,s=>by rw[bJ,foldl_add f l];simp;lia
theorem GD(l:a5 Pt):dbl l=cw l:=by
 match l with
|[]=>rfl
|[p]=>simp[dbl,cw,uY];grind
|[p,q]=>simp[dbl,cw,uY];grind
|a::b::c::r=>have e:aO (a::b::c::r)=(a::b::c::r).zip ((a::b::c::r).drop 1++(a::b::c::r).take 1):=rfl;rw[cw,if_neg #v[0],show QD (λ(s:Int)(e:Pt×Pt)=>s+(e.1.x*e.2.y-e.1.y*e.2.x)) 0 (aO (a::b::c::r))=QD (λs e=>s+uY e) 0 (aO (a::b::c::r)) from rfl,foldl_add uY,e];simp only[dbl,jE]
theorem B8(p q:Pt):kW [p,q]=if fB q p=true then[q,p] else[p,q]:=by
 by_cases h:fB q p=true;have a:p≠q:=λe=>by subst e;rw[nZ]at h;lia
 simp only[kW,l6,h,if_true];rw[Fg #v[a],Fe #v[a]];simp;simp only[kW,l6,h];simp
theorem PC(l:a5 Pt):kW (if dbl l<0 then l.reverse else l)=normal l:=by
 rw[GD]
 match l with
|[]=>rfl
|[p]=>rfl
|[p,q]=>have:cw [p,q]=0:=rfl;rw[this,if_neg #v[1],B8];rfl
|a::b::c::r=>rfl
def ka(v w:Pt):Int:=v.x*w.y-v.y*w.x
structure Dir (v w:Pt):Prop where
 c:ka v w=0
 d:0<cP v w
theorem Dir.pos{v w:Pt}(h:Dir v w):0<cP v v:=by obtain⟨c,d⟩:=h;simp only[cP]at *;by_cases k:v.x=0;by_cases a:v.y=0;rw[k,a]at d;simp at d;have:=sq_pos a;have:=gh v.x;lia;have:=sq_pos k;have:=gh v.y;lia
theorem Dir.symm{v w:Pt}(h:Dir v w):Dir w v:=⟨by have:=h.c;simp only[ka]at *;grind,by have:=h.d;simp only[cP]at *;grind⟩
theorem Dir.eqc{v w z:Pt}(h:Dir v w):cP w w*ka v z=cP v w*ka w z:=by have:=h.c;simp only[ka,cP]at *;grind
theorem Dir.eqd{v w z:Pt}(h:Dir v w):cP w w*cP v z=cP v w*cP w z:=by have:=h.c;simp only[ka,cP]at *;grind
theorem Rh{a b x y:Int}(d:0<a)(c:0<b)(e:a*x=b*y):(0<x↔0<y)/\(x<0↔y<0)/\(x=0↔y=0):=by rcases dJ x 0 with h|h|h;have f:=eu d h;rcases dJ y 0 with k|k|k;lia;rw[k]at e;simp at e;lia;have:=br c k;lia;rw[h]at e;simp at e;rcases dJ y 0 with k|k|k;have:=eu c k;lia;lia;have:=br c k;lia;have f:=br d h;rcases dJ y 0 with k|k|k;have:=eu c k;lia;rw[k]at e;simp at e;lia;lia
theorem Dir.sc{v w:Pt}(h:Dir v w)(z:Pt):(0<ka v z↔0<ka w z)/\(ka v z<0↔ka w z<0)/\(ka v z=0↔ka w z=0):=
 Rh h.symm.pos h.d h.eqc
theorem Dir.sd{v w:Pt}(h:Dir v w)(z:Pt):(0<cP v z↔0<cP w z)/\(cP v z<0↔cP w z<0)/\(cP v z=0↔cP w z=0):=
 Rh h.symm.pos h.d h.eqd
theorem Dir.trans{u v w:Pt}(h:Dir u v)(k:Dir v w):Dir u w:=⟨((h.sc w).2.2).mpr k.c,((h.sd w).1).mpr k.d⟩
theorem Dir.refl{v:Pt}(h:v.x≠0\/v.y≠0):Dir v v:=⟨by simp only[ka];grind,by simp only[cP];rcases h with h|h;have:=sq_pos h;have:=gh v.y;lia;have:=sq_pos h;have:=gh v.x;lia⟩
theorem Dir.add{v w:Pt}(h:Dir v w):Dir (Vbpcaa.add v w) w:=⟨by have:=h.c;simp only[ka,Vbpcaa.add]at *;grind,by
 have b:=h.d;have a:=h.symm.pos;have:cP (Vbpcaa.add v w) w=cP v w+cP w w:=by simp only[cP,Vbpcaa.add];grind
 lia⟩
theorem pY(a b c:Pt):ag a b c=ka (sub b a) (sub c b):=by simp only[ag,ka,sub];grind
theorem WT(a b c:Pt):cP (sub a b) (sub c b) = - cP (sub b a) (sub c b):=by simp only[cP,sub];grind
theorem yp{a b:Pt}(h:a≠b):(sub b a).x≠0\/(sub b a).y≠0:=by by_cases k:(sub b a).x=0;right;intro c;simp only[sub]at k c;exact h (fk #v[] #v[]);exact .inl k
theorem Cd{a b c:Pt}(h:gK a b c=true)(f:ag a b c=0):Dir (sub b a) (sub c b):=by
 rw[dA]at h;obtain⟨m,l,j⟩:=h;have d:ka (sub b a) (sub c b)=0:=by rw[<- pY];exact f
 refine⟨d,?_⟩;have d0:0<=cP (sub b a) (sub c b):=by have:=WT a b c;rcases aK (cP (sub b a) (sub c b)) 0 with k|k;exact absurd ⟨f,#v[]⟩ j;exact k
 rcases bX d0 with k|k;exact k;exfalso;have e:cP (sub b a) (sub b a)*cP (sub c b) (sub c b)=cP (sub b a) (sub c b)*cP (sub b a) (sub c b)+ka (sub b a) (sub c b)*ka (sub b a) (sub c b):=by simp only[cP,ka];grind
 rw[<- k,d]at e;have i:=(Dir.refl (yp m)).d;have g:=(Dir.refl (yp l)).d;have:=br i g;lia
theorem sP{a b c:Pt}(h:ag a b c≠0):gK a b c=true:=by rw[dA];refine⟨λe=>?_,λe=>?_,λq=>h q.1⟩;subst e;apply h;simp only[ag];grind;subst e;apply h;simp only[ag];grind
def strip(a:Pt):a5 Pt->a5 Pt
|b::c::r=>if ag a b c≠0 then b::strip b (c::r) else strip b (c::r)
|l=>l
theorem D1(a b:Pt):strip a [b]=[b]:=rfl
theorem tS(a b c:Pt)(r:a5 Pt):strip a (b::c::r)=if ag a b c≠0 then b::strip b (c::r) else strip b (c::r):=rfl
def lR:a5 Pt->Int
|a::b::r=>ka a b+lR (b::r)
|_=>0
theorem qI:∀(r:a5 Pt)(u a b:Pt),Dir (sub b u) (sub b a)->(gL (a::b::r)).all (λt=>gK t.1 t.2.1 t.2.2)=true →
  (∃c s,strip a (b::r)=c::s/\Dir (sub b a) (sub c u)) ∧
  (∀t∈gL (u::strip a (b::r)),ag t.1 t.2.1 t.2.2≠0) ∧
  lR (u::strip a (b::r))=ka u b+lR (b::r)
|[],u,a,b,hd,j=>by exact⟨⟨b,[],rfl,hd.symm⟩,(λt d=>nomatch d),rfl⟩
|c::r,u,a,b,hd,j=>by
  have m:gK a b c=true:=by have:=j;simp only[gL,gq,aZ]at this;exact this.1
  have l:(gL (b::c::r)).all (λt=>gK t.1 t.2.1 t.2.2)=true:=by have:=j;simp only[gL,gq,aZ]at this;exact this.2
  rw[tS];by_cases f:ag a b c=0;rw[if_neg #v[f]];have dd:=Cd m f;have d1:Dir (sub b u) (sub c b):=hd.trans dd;have d2:Dir (sub c u) (sub c b):=by
   have:=d1.add;have e:Vbpcaa.add (sub b u) (sub c b)=sub c u:=by simp only[Vbpcaa.add,sub,Pt.mk.injEq];lia
   rw[e]at this;exact this
  obtain⟨⟨x,s,h,k⟩,g,i⟩:=qI r u b c d2 l;refine⟨⟨x,s,h,dd.trans k⟩,g,?_⟩;rw[i];show ka u c+_=ka u b+(ka b c+_);have:ka (sub b u) (sub c b)=0:=d1.c;simp only[ka,sub]at *;grind;rw[if_pos f];have n:b≠c:=(dA.mp m).2.1;have o:Dir (sub c b) (sub c b):=Dir.refl (yp n);obtain⟨⟨x,s,h,k⟩,g,i⟩:=qI r b b c o l;refine⟨⟨b,strip b (c::r),rfl,hd.symm⟩,?_,?_⟩;rw[h];intro t d;rw[h]at g;rcases aq.mp d with rfl|d;show ag u b x≠0;rw[pY];have w:=(hd.sc (sub x b)).2.2;have v:=((k.sc (sub b a)).2.2);have q:ka (sub b a) (sub x b) = - ka (sub x b) (sub b a):=by simp only[ka];grind
  have p:ka (sub b a) (sub c b) = - ka (sub c b) (sub b a):=by simp only[ka];grind
  rw[pY]at f;lia;exact g t d;show ka u b+lR (b::strip b (c::r))=_;rw[i];rfl
theorem og:∀(l:a5 Pt)(a w:Pt),strip a (l++[w])=((gL (a::l++[w])).filter λt=>decide (ag t.1 t.2.1 t.2.2≠0)).map (λt=>t.2.1)++[w]
|[],a,w=>rfl
|[b],a,w=>by show(if ag a b w≠0 then b::[w] else[w])=_;by_cases f:ag a b w=0<;>simp[gL,f]
|b::c::r,a,w=>by have d:=og (c::r) b w;show(if ag a b c≠0 then b::strip b (c::r++[w]) else strip b (c::r++[w]))=_;rw[d];have e:gL (a::b::c::r++[w])=(a,b,c)::gL (b::c::r++[w]):=rfl;rw[e];by_cases f:ag a b c=0;rw[if_neg #v[f],jj #v[f]];rw[if_pos f,ji #v[f]];rfl
theorem wq{a b z:Pt}{r:a5 Pt}(c:r≠[])(hz:(a::b::r).getLast? = some z)(d:ag z a b≠0):
  ∃s,tidied (a::b::r)=a::s/\strip a (b::r++[a])=s++[a]:=by
 refine⟨((gL (a::b::r++[a])).filter λt=>decide (ag t.1 t.2.1 t.2.2≠0)).map (λt=>t.2.1),?_,?_⟩;unfold tidied;have:¬(a::b::r).length<3:=by cases r with
 |nil=>exact absurd rfl c
 |cons _ _=>simp
 rw[if_neg this,qR hz];have e:gL (z::a::b::r++[a])=(z,a,b)::gL (a::b::r++[a]):=rfl;rw[e,ji #v[d]];rfl;exact og (b::r) a a
theorem pZ:∀(l:a5 Pt)(a b:Pt),lR (l++[a,b])=lR (l++[a])+ka a b
|[],a,b=>by simp[lR]
|[x],a,b=>by simp[lR]
|x::y::l,a,b=>by have c:=pZ (y::l) a b;simp only[aU,lR]at c⊢;lia
theorem HQ:∀(l:a5 Pt)(a w:Pt),lR (a::l++[w])=(((a::l).zip (l++[w])).map uY).sum
|[],a,w=>by simp[lR,uY,ka]
|b::l,a,w=>by have c:=HQ l b w;simp only[aU,lR,du,a9,m7]at c⊢;rw[c];rfl
theorem fe(a:Pt)(l:a5 Pt):cw (a::l)=lR (a::l++[a]):=by rw[<- GD,dbl,HQ];rfl
structure vR (l:a5 Pt):Prop where
 ne:l≠[]
 area:0<=cw l
 low:∀q∈l,fB q (l.headD ⟨0,0⟩)=false
 go:3<=l.length->fA l=true
theorem BY{z a b:Pt}(j:gK z a b=true)(k:fB z a=false)(i:fB b a=false):ag z a b≠0:=by
 intro f;have d:=Cd j f;have g:=dA.mp j;have dd:=d.d;have c:=d.c;rw[c7]at k i;simp only[cP,ka,sub]at dd c;rcases k with h|⟨h,p⟩;rcases i with m1|⟨m1,m2⟩;have t:=fY (show a.y-z.y<0 by lia) (show 0<b.y-a.y by lia);have l:0<(a.x-z.x)*(b.x-a.x):=#v[]
 have o:=eu l t;have e:((a.x-z.x)*(b.x-a.x))*((a.y-z.y)*(b.y-a.y))=((a.x-z.x)*(b.y-a.y))*((a.y-z.y)*(b.x-a.x)):=by grind
 have n:(a.x-z.x)*(b.y-a.y)=(a.y-z.y)*(b.x-a.x):=#v[]
 rw[n]at e;have:=gh ((a.y-z.y)*(b.x-a.x));lia;have m:b.x≠a.x:=λe=>g.2.1 (fk e.symm m1.symm);have e:(a.y-z.y)*(b.x-a.x)=0:=by rw[m1]at c;simp at c;lia
 rcases bE.mp e with q|q<;>lia;have m:z.x≠a.x:=λe=>g.1 (fk e h);have e:(a.x-z.x)*(b.y-a.y)=0:=by rw[h]at c;simp at c;lia
 have s:b.y=a.y:=by rcases bE.mp e with q|q<;>lia
 rcases i with m1|⟨m1,m2⟩;lia;have r:b.x≠a.x:=λe=>g.2.1 (fk e.symm m1.symm);have:=fY (show a.x-z.x<0 by lia) (show 0<b.x-a.x by lia);have u:(a.y-z.y)*(b.y-a.y)=0:=by rw[h];simp
 lia
theorem iE{l:a5 Pt}{q:Pt×Pt×Pt->Bool}(h:(gL l).all q=true){t:Pt×Pt×Pt}(a:t∈gL l):q t=true:=bf.mp h t a
theorem pW:∀{l m:a5 Pt}{t:Pt×Pt×Pt},t∈gL l->t∈gL (l++m):=by intro l m t h;obtain⟨u,v,e⟩:=rW h;have:=wj u t.1 t.2.1 t.2.2 (v++m);rw[e];simpa using this
theorem vR.tidied{l:a5 Pt}(F:vR l):vR (tidied l)/\(Vbpcaa.tidied l).length<=l.length/\∀q∈Vbpcaa.tidied l,q∈l:=by
 match l,F with
|[],F=>exact absurd rfl F.ne
|[p],F=>exact⟨F,aS _,λq h=>h⟩
|[p,q],F=>exact⟨F,aS _,λq h=>h⟩
|a::b::c::r,F=>
  have M:3<=(a::b::c::r).length:=#v[0]
  have j:=F.go M;rw[h8]at j;obtain⟨z,hz⟩:∃z,(a::b::c::r).getLast? = some z:=by
   cases e:(a::b::c::r).getLast? with
  |none=>simp at e
  |some z=>exact⟨z,rfl⟩
  have C:=j;rw[xQ hz]at C;have R:gK z a b=true:=iE C (t:=(z,a,b)) (aF ..);have K:z∈a::b::c::r:=iS hz;have D:ag z a b≠0:=BY R (F.low z K) (F.low b #v[0]);obtain⟨s,G,n⟩:=wq (r:=c::r) #v[0] hz D;have N:a≠b:=by have:=iE j (t:=(a,b,c)) (aF ..);exact(dA.mp this).1
  have H:Dir (sub b a) (sub b a):=Dir.refl (yp N);have Q:(gL (a::b::(c::r++[a]))).all (λt=>gK t.1 t.2.1 t.2.2)=true:=by rw[bf];intro t d;refine iE j ?_;have:=pW (m:=[b]) d;simpa using this
  obtain⟨⟨x,I,T,S⟩,J,B⟩:=qI (c::r++[a]) a a b H Q;have f1':s++[a]=x::I:=by rw[<- n];exact T
  have i2':∀t∈gL (a::(s++[a])),ag t.1 t.2.1 t.2.2≠0:=by intro t d;apply J;rw[show b::(c::r++[a])=b::c::r++[a] from rfl,n];exact d
  have i3':lR (a::(s++[a]))=lR (a::b::c::r++[a]):=by rw[show b::(c::r++[a])=b::c::r++[a] from rfl,n]at B;rw[B];rfl
  have mem:∀q∈Vbpcaa.tidied (a::b::c::r),q∈a::b::c::r:=by
   intro q i;have:q∈(dh (a::b::c::r)).map λt=>t.2.1:=by unfold Vbpcaa.tidied at i;rw[if_neg #v[0]]at i;obtain⟨t,d,rfl⟩:=bh.mp i;exact bh.mpr ⟨t,(eR.mp d).1,rfl⟩
   obtain⟨t,d,rfl⟩:=bh.mp this;rw[qR hz]at d;obtain⟨u,v,e⟩:=rW d;cases u with
  |nil=>have e':a::b::c::r++[a]=t.2.1::t.2.2::v:=(List.cons.inj e).2;have:t.2.1=a:=(List.cons.inj e').1.symm;rw[this];simp
  |cons w u=>
    have e':a::b::c::r++[a]=u++[t.1,t.2.1,t.2.2]++v:=(List.cons.inj e).2;have:t.2.1∈a::b::c::r++[a]:=by rw[e'];simp
    rcases aI.mp this with h|h;exact h;simp at h;rw[h];simp
  refine⟨?_,?_,mem⟩;rw[G];refine⟨#v[0],?_,?_,?_⟩;rw[fe];show 0<=lR (a::(s++[a]));rw[i3',<- fe];exact F.area;intro q i;exact F.low q (mem q (by rw[G];exact i));intro O
  match s,O with
 |s0::g::f,_=>
   rw[h8,bf];have L:x=s0:=(List.cons.inj f1').1.symm;subst L;obtain⟨m,y,ey⟩:∃m y,x::g::f=m++[y]:=⟨_,_,(CV #v[0]).symm⟩;intro t d;apply sP;have Z:a::x::(g::f)++[a,x]=(a::m)++[y,a,x]:=by rw[show a::x::(g::f)++[a,x]=a::((x::g::f)++[a,x]) from rfl,ey];simp
   rw[Z,l7]at d;rcases aI.mp d with d|d;apply i2';have Y:a::(x::g::f++[a])=a::m++[y,a]:=by rw[ey];simp
   rw[Y];exact d;simp at d;subst d;show ag y a x≠0;have P:(gL (a::b::(c::r++[a,b]))).all (λt=>gK t.1 t.2.1 t.2.2)=true:=j;obtain⟨_,A,_⟩:=qI (c::r++[a,b]) a a b H P;have X:strip a (b::(c::r++[a,b]))=x::g::f++[a,b]:=by
    rw[show b::(c::r++[a,b])=(b::c::r++[a])++[b] by simp,og];have W:a::(b::c::r++[a])++[b]=(a::b::c::r)++[a,b]:=#v[0]
    obtain⟨l0,hl0⟩:∃l0,a::b::c::r=l0++[z]:=cZ.mp hz;rw[W,hl0,dj,show[z]++[a,b]=[z,a,b] from rfl,l7];have V:l0++[z,a]=a::(b::c::r)++[a]:=by rw[hl0];simp
    rw[V,jz,bj];have E:=og (b::c::r) a a;rw[n]at E;have U:=(AZ E rfl).1;rw[<- U];rw[ji #v[D]];simp
   rw[X]at A;have aa:a::(x::g::f++[a,b])=a::m++[y,a,b]:=by rw[ey];simp
   have o:=A (y,a,b) (by rw[aa,l7];simp);rw[pY]at o⊢;have k:=(S.sc (sub a y)).2.2;have k1:ka (sub a y) (sub b a) = - ka (sub b a) (sub a y):=by simp only[ka];grind
   have k2:ka (sub a y) (sub x a) = - ka (sub x a) (sub a y):=by simp only[ka];grind
   simp only at o;lia
  have:(Vbpcaa.tidied (a::b::c::r)).length<=(dh (a::b::c::r)).length:=by unfold Vbpcaa.tidied;rw[if_neg #v[0],ai];exact fW ..
  have e:(dh (a::b::c::r)).length<=(a::b::c::r).length:=by simp only[dh,hz,ai,dE,aP,aL];lia
  lia
theorem WD(a b c:Pt)(r:a5 Pt):fA (b::c::r++[a])=fA (a::b::c::r):=by
 have g:b::c::r++[a]=b::c::(r++[a]):=rfl;rw[g,h8,h8];have f:b::c::(r++[a])++[b,c]=(b::c::r)++[a,b,c]:=#v[0]
 have d:gL (a::b::(c::r)++[a,b])=(a,b,c)::gL (b::c::r++[a,b]):=rfl;rw[f,l7,d,lh,gq];simp only[gq,Ks,k8];exact k9 _ _
theorem Gw:∀(u v:a5 Pt),3<=(u++v).length->fA (v++u)=fA (u++v)
|[],v,_=>by simp
|x::u,v,h=>by
  have a:=Gw u (v++[x]) (by simp at h⊢;lia);have g:v++x::u=(v++[x])++u:=#v[0]
  rw[g,a];have h':3<=(x::(u++v)).length:=by simpa using h
  match e:u++v,h' with
 |b::c::r,_=>
   have f:u++(v++[x])=b::c::r++[x]:=by rw[<- dj,e]
   have d:x::u++v=x::b::c::r:=by rw[aU,e]
   rw[f,d,WD]
theorem Hz:∀(l:a5 Pt),gL l.reverse=((gL l).map λt=>(t.2.2,t.2.1,t.1)).reverse
|[]=>rfl
|[a]=>rfl
|[a,b]=>rfl
|a::b::c::r=>by
  have d:=Hz (b::c::r);have e:(a::b::c::r).reverse=r.reverse++[c,b,a]:=#v[0]
  rw[e,l7];have f:r.reverse++[c,b]=(b::c::r).reverse:=#v[0]
  rw[f,d];simp[gL]
theorem LB(a b c:Pt):gK c b a=gK a b c:=by
 apply cW;rw[dA,dA];have f:ag c b a = - ag a b c:=by simp only[ag];grind
 have d:cP (sub c b) (sub a b)=cP (sub a b) (sub c b):=by simp only[cP,sub];grind
 rw[f,d];constructor;rintro⟨x,y,z⟩;exact⟨y.symm,x.symm,λq=>z ⟨#v[],q.2⟩⟩;rintro⟨x,y,z⟩;exact⟨y.symm,x.symm,λq=>z ⟨#v[],q.2⟩⟩
theorem aaG{l:a5 Pt}(h:3<=l.length):fA l.reverse=fA l:=by
 obtain⟨l0,y,z,e⟩:∃l0 y z,l=l0++[y,z]:=by
  match e:l.reverse with
 |[]=>simp at e;rw[e]at h;simp at h
 |[a]=>
      have:l.length=1:=by rw[<- g8,e];rfl
      lia
 |z::y::r=>exact⟨r.reverse,y,z,by rw[<- N3 l,e];simp⟩
 subst e;have d:(l0++[y,z]).reverse=z::y::l0.reverse:=#v[0]
 rw[d,h8];have c:z::y::l0.reverse++[z,y]=(y::z::l0++[y,z]).reverse:=#v[0]
 rw[c,Hz,List.all_reverse,zV];have b:((λt:Pt×Pt×Pt=>gK t.1 t.2.1 t.2.2)∘λt:Pt×Pt×Pt=>(t.2.2,t.2.1,t.1))=λt=>gK t.1 t.2.1 t.2.2:=by funext t;exact LB _ _ _
 rw[b,<- h8];have:=Gw l0 [y,z] h;simpa using this
theorem HR:∀(l:a5 Pt),lR l.reverse = - lR l
|[]=>rfl
|[a]=>rfl
|a::b::r=>by
  have c:=HR (b::r);have e:(a::b::r).reverse=r.reverse++[b,a]:=#v[0]
  have d:r.reverse++[b]=(b::r).reverse:=#v[0]
  rw[e,pZ,d,c];show _ = - (ka a b+lR (b::r));have:ka b a = - ka a b:=by simp only[ka];grind
  lia
theorem yK(a:Pt)(r:a5 Pt):cw (r++[a])=cw (a::r):=by
 match r with
|[]=>rfl
|b::r=>
  have e:b::r++[a]=b::(r++[a]):=rfl;rw[e,fe,fe];have c:b::(r++[a])++[b]=(b::r)++[a,b]:=#v[0]
  rw[c,pZ];show _=ka a b+lR (b::r++[a]);lia
theorem CB:∀(u v:a5 Pt),cw (v++u)=cw (u++v)
|[],v=>by simp
|x::u,v=>by
  have a:=CB u (v++[x]);have c:v++x::u=(v++[x])++u:=#v[0]
  have b:u++(v++[x])=(u++v)++[x]:=#v[0]
  rw[c,a,b,yK];rfl
theorem JT(l:a5 Pt):cw l.reverse = - cw l:=by
 match e:l.reverse with
|[]=>
  have:l=[]:=by simpa using e
  rw[this];rfl
|z::r=>
  have b:l=r.reverse++[z]:=by rw[<- N3 l,e];simp
  rw[b,yK,fe,fe];have a:z::r++[z]=(z::r.reverse++[z]).reverse:=#v[0]
  rw[a,HR]
theorem Eh{l:a5 Pt}(h:3<=l.length):normal l=kW (if cw l<0 then l.reverse else l):=by obtain⟨a,b,c,r,rfl⟩:=ex3 h;rfl
theorem y4{l:a5 Pt}(n:l≠[])(i:3<=l.length->fA l=true):vR (normal l)/\(normal l).length=l.length/\∀q,q∈normal l↔q∈l:=by
 match l,n,i with
|[p],_,_=>
  have e:normal [p]=[p]:=by simp[normal,kW,l6,cw]
  rw[e];exact⟨⟨#v[0],by simp[cw],λq g=>by simp at g;subst g;show fB q q=false;rw[c7];lia,λh=>by simp at h⟩,rfl,λq=>Au⟩
|[p,q],_,_=>
  show vR (if fB q p=true then[q,p] else[p,q])/\_;by_cases h:fB q p=true;have e:normal [p,q]=[q,p]:=by show(if fB q p=true then[q,p] else[p,q])=_;rw[if_pos h]
  rw[e,if_pos h];refine⟨⟨#v[0],by simp[cw],λx f=>?_,λh=>by simp at h⟩,rfl,λx=>by simp[or_comm]⟩;rw[nZ]at h;simp at f;rcases f with rfl|rfl;show fB x x=false;rw[c7];lia;show fB x q=false;rw[c7];lia;have e:normal [p,q]=[p,q]:=by show(if fB q p=true then[q,p] else[p,q])=_;rw[if_neg h]
  rw[e,if_neg h];refine⟨⟨#v[0],by simp[cw],λx f=>?_,λh=>by simp at h⟩,rfl,λx=>Au⟩;simp at f;rcases f with rfl|rfl;show fB x x=false;rw[c7];lia;show fB x p=false;simpa using h
|a::b::c::r,n,i=>
  have j:3<=(a::b::c::r).length:=#v[0]
  rw[Eh j];generalize hl:(if cw (a::b::c::r)<0 then(a::b::c::r).reverse else(a::b::c::r))=l;have k:l.length=(a::b::c::r).length:=by rw[<- hl];split<;>simp
  have t:0<=cw l:=by rw[<- hl];split;rw[JT];lia;lia
  have s:fA l=true:=by rw[<- hl];split;rw[aaG j];exact i j;exact i j
  have o:∀q,q∈l↔q∈a::b::c::r:=by intro q;rw[<- hl];split;exact f7;exact Au
  have w:l≠[]:=λe=>by rw[e]at k;simp at k
  obtain⟨u,m,v,A,B,z,y⟩:=mw w;rw[y];have d:l=u++(m::v):=A;refine⟨⟨#v[0],?_,?_,?_⟩,?_,?_⟩;rw[CB u (m::v),<- d];exact t;intro q g;show fB q m=false;apply z;rw[d];rcases aI.mp g with h|h;exact aI.mpr (.inr h);exact aI.mpr (.inl h);intro _;rw[Gw u (m::v) (by rw[<- d];lia),<- d];exact s;rw[<- k,d];simp;lia;intro q;rw[<- o,d];simp only[aI,aq];grind
def Keeps(f:Pt->Pt):Prop:=∀a b c,gK (f a) (f b) (f c)=gK a b c
theorem HB(f:Pt->Pt):∀(l:a5 Pt),gL (l.map f)=(gL l).map λt=>(f t.1,f t.2.1,f t.2.2)
|[]=>rfl
|[a]=>rfl
|[a,b]=>rfl
|a::b::c::r=>by have d:=HB f (b::c::r);simp only[a9,gL]at d⊢;rw[d]
theorem aaH{f:Pt->Pt}(h:Keeps f){l:a5 Pt}(c:3<=l.length):fA (l.map f)=fA l:=by
 match l,c with
|a::b::r,_=>
  rw[a9,a9,h8,h8];have e:f a::f b::r.map f++[f a,f b]=(a::b::r++[a,b]).map f:=#v[0]
  rw[e,HB,zV];have d:((λt:Pt×Pt×Pt=>gK t.1 t.2.1 t.2.2)∘λt:Pt×Pt×Pt=>(f t.1,f t.2.1,f t.2.2))=λt=>gK t.1 t.2.1 t.2.2:=by funext t;exact h _ _ _
  rw[d]
theorem B5{f:Pt->Pt}(s:Int)(j:s=1\/s = -1)(i:∀a b c,ag (f a) (f b) (f c)=s*ag a b c)(hd:∀a b c,cP (sub (f a) (f b)) (sub (f c) (f b))=cP (sub a b) (sub c b))(hi:∀a b,f a=f b->a=b):Keeps f:=by
 intro a b c;apply cW;rw[dA,dA,i,hd];have h:f a=f b↔a=b:=⟨hi a b,λe=>by rw[e]⟩;have g:f b=f c↔b=c:=⟨hi b c,λe=>by rw[e]⟩;have d:s*ag a b c=0↔ag a b c=0:=by rcases j with rfl|rfl<;>lia
 rw[ne_eq,ne_eq,ne_eq,ne_eq,h,g,d]
theorem Jl(d:Pt):Keeps (kL d):=by apply B5 1 (.inl rfl);intro a b c;simp only[kL,Vbpcaa.add,ag];grind;intro a b c;simp only[kL,Vbpcaa.add,cP,sub];grind;intro a b h;simp only[kL,Vbpcaa.add,Pt.mk.injEq]at h;exact fk #v[] #v[]
theorem Dy(d:Pt):Keeps (pE d):=by apply B5 1 (.inl rfl);intro a b c;simp only[pE,ag];grind;intro a b c;simp only[pE,cP,sub];grind;intro a b h;simp only[pE,Pt.mk.injEq]at h;exact fk #v[] #v[]
theorem w4(d:Pt):∀n,Keeps (turned d n)
|0=>λa b c=>rfl
|n+1=>λa b c=>by show gK (pE d (turned d n a)) (pE d (turned d n b)) (pE d (turned d n c))=_;rw[Dy d,w4 d n]
theorem Lw(x:Int):Keeps (qE x):=by apply B5 (-1) (.inr rfl);intro a b c;simp only[qE,ag];grind;intro a b c;simp only[qE,cP,sub];grind;intro a b h;simp only[qE,Pt.mk.injEq]at h;exact fk #v[] #v[]
theorem vR.moved{l:a5 Pt}(F:vR l){f:Pt->Pt}(h:Keeps f):vR (normal (l.map f))/\(normal (l.map f)).length=l.length/\∀q,q∈normal (l.map f)↔q∈l.map f:=by have:=y4 (l:=l.map f) #v[F.ne] (λa=>by rw[aaH h #v[a]];exact F.go #v[a]);refine⟨this.1,?_,this.2.2⟩;rw[this.2.1,ai]
theorem C2{l:a5 Pt}(h:vY l=true):vR (normal l)/\(normal l).length=l.length/\∀q,q∈normal l↔q∈l:=by apply y4;intro e;subst e;exact nomatch h;intro d;obtain⟨a,b,c,r,rfl⟩:=ex3 d;have:rS (a::b::c::r)=true:=h;simp only[rS,aZ]at this;exact this.2.1
def G2(p q r:Pt):Prop:=0<ag p q r\/(ag p q r=0/\0<cP (sub r p) (sub q p)/\cD p r<=cD p q)
theorem Oq(p q r:Pt):ag p r q = - ag p q r:=by simp only[ag];grind
theorem wZ(p q:Pt):(cD p q:Int)=cP (sub q p) (sub q p):=by rw[eA];simp only[cP,sub];grind
theorem EX{p q r:Pt}(a:ag p q r=0)(hd:0<cP (sub r p) (sub q p))(hl:cD p r=cD p q):r=q:=by
 have hl':cP (sub r p) (sub r p)=cP (sub q p) (sub q p):=by rw[<- wZ,<- wZ,hl]
 have e:cP (sub q p) (sub r p)*cP (sub q p) (sub r p)=cP (sub q p) (sub q p)*cP (sub r p) (sub r p)-ag p q r*ag p q r:=by simp only[cP,sub,ag];grind
 rw[a,hl']at e;have b:cP (sub q p) (sub r p)=cP (sub r p) (sub q p):=by simp only[cP];grind
 rw[b]at e;have d:(cP (sub r p) (sub q p)-cP (sub q p) (sub q p))*(cP (sub r p) (sub q p)+cP (sub q p) (sub q p))=0:=by grind
 have l:0<=cP (sub q p) (sub q p):=by simp only[cP];have:=gh (sub q p).x;have:=gh (sub q p).y;lia
 have c:cP (sub r p) (sub q p)=cP (sub q p) (sub q p):=by rcases bE.mp d with h|h<;>lia
 have m:(r.x-q.x)*(r.x-q.x)+(r.y-q.y)*(r.y-q.y)=0:=by simp only[cP,sub]at c hl';grind
 have j:=gh (r.x-q.x);have i:=gh (r.y-q.y);have g:r.x-q.x=0:=by by_cases k:r.x-q.x=0;exact k;have:=sq_pos k;lia
 have f:r.y-q.y=0:=by by_cases k:r.y-q.y=0;exact k;have:=sq_pos k;lia
 exact fk #v[] #v[]
theorem K5{p q r:Pt}(c:q≠p)(h:r≠p->r≠q->G2 p q r):outer p q r=q:=by
 unfold outer;rw[if_neg c];by_cases a:r=p;rw[if_pos a];rw[if_neg a,if_neg];by_cases b:r=q;subst b;have:ag p r r=0:=by simp only[ag];grind
 lia;rcases h a b with k|⟨g,f,d⟩<;>lia
theorem K4{p q a:Pt}(f:q≠p)(h:a≠p->a≠q->G2 p q a):outer p a q=q:=by unfold outer;by_cases b:a=p;rw[if_pos b];rw[if_neg b,if_neg f];by_cases e:a=q;rw[e];split<;>rfl;rw[if_pos];rw[Oq];rcases h b e with k|⟨d,c,g⟩;left;lia;right;refine⟨#v[],?_⟩;rcases oR (cD p a) (cD p q) with j|j;exact j;exact absurd (EX d c #v[]) e
theorem EC{p q:Pt}(a:q≠p):∀(l:a5 Pt),(∀r∈l,r≠p->r≠q->G2 p q r)->l.foldl (outer p) q=q
|[],_=>rfl
|r::l,h=>by rw[bJ,K5 a (h r (aF ..))];exact EC a l λx b=>h x (ah _ b)
theorem ED{p q:Pt}(c:q≠p):∀(l:a5 Pt)(a:Pt),(a≠p->a≠q->G2 p q a)->(∀r∈l,r≠p->r≠q->G2 p q r)->q∈l->l.foldl (outer p) a=q
|[],_,_,_,d=>nomatch d
|r::l,a,f,h,d=>by
  rw[bJ];by_cases e:r=q;subst e;rw[K4 c f];exact EC c l λx b=>h x (ah _ b);have hm':q∈l:=by rcases aq.mp d with k|k;exact absurd k.symm e;exact k
  apply ED c l _ ?_ (λx b=>h x (ah _ b)) hm';have:outer p a r=a\/outer p a r=r:=by unfold outer;split;exact .inr rfl;split;exact .inl rfl;split;exact .inr rfl;exact .inl rfl
  rcases this with k|k;rw[k];exact f;rw[k];exact h r (aF ..)
def yN(l:a5 Pt)(p q:Pt):Prop:=q∈l/\q≠p/\∀r∈l,r≠p->r≠q->G2 p q r
theorem kZ{l:a5 Pt}{p q:Pt}(h:yN l p q):l.foldl (outer p) p=q:=
 ED h.2.1 l p (λk=>absurd rfl k) h.2.2 h.1
theorem Ca{p:Pt}:∀(l:a5 Pt),(∀r∈l,r=p)->l.foldl (outer p) p=p
|[],_=>rfl
|r::l,h=>by have e:=h r (aF ..);subst e;rw[bJ,show outer r r r=r by unfold outer;simp];exact Ca l λx a=>h x (ah _ a)
inductive Way (l:List Pt) (first:Pt):List Pt->Prop
|last {p:Pt}:yN l p first->Way l first [p]
|step {p q:Pt} {r:List Pt}:yN l p q->q≠first->Way l first (q::r)->Way l first (p::q::r)
theorem Hw{l:a5 Pt}{first:Pt}:∀{h:a5 Pt}(n:Nat),Way l first h->wrap l first n (h.headD first)=h.take n
|_,0,_=>by simp[wrap]
|_,n+1,.last (p:=p) k=>by show(let q:=l.foldl (outer p) p;if q=first then[p] else p::wrap l first n q)=_;simp[kZ k]
|_,n+1,.step (p:=p) (q:=q) (r:=r) k hq w=>by have a:=Hw n w;show(let q:=l.foldl (outer p) p;if q=first then[p] else p::wrap l first n q)=_;simp only[kZ k,if_neg hq];rw[show wrap l first n q=(q::r).take n from a];rfl
structure m6 (l h:a5 Pt):Prop where
 low:∀p r,l=p::r->h.headD ⟨0,0⟩=l6 r p
 way:(∃p,h=[p]/\∀r∈l,r=p)\/Way l (h.headD ⟨0,0⟩) h
theorem Ey{l h:a5 Pt}(hl:l≠[])(H:m6 l h):eh l=h.take 33:=by
 obtain⟨p,r,rfl⟩:=dY hl;show wrap (p::r) (l6 r p) (eW+1) (l6 r p)=_;have e:=H.low p r rfl;rcases H.way with⟨x,rfl,a⟩|w;have e':l6 r p=x:=e.symm;rw[e'];show(let q:=(p::r).foldl (outer x) x;if q=x then[x] else x::wrap (p::r) x 32 q)=_;simp[Ca (p::r) a];rw[<- e];have:h.headD (h.headD ⟨0,0⟩)=h.headD ⟨0,0⟩:=by cases h<;>rfl
 have k:=Hw 33 w;rw[this]at k;exact k
abbrev Bx:=Int×Int×Int×Int
def vQ(l:a5 Pt):Bx:=(nz (l.map (·.x)),nz (l.map (·.y)),lr (l.map (·.x)),lr (l.map (·.y)))
def gx(l r k s:Int):Int:=max 0 (max (k-r) (l-s))
def ax(b c:Bx):Int:=gx b.1 b.2.2.1 c.1 c.2.2.1
def ay(b c:Bx):Int:=gx b.2.1 b.2.2.2 c.2.1 c.2.2.2
def gp(b c:Bx):Int:=ax b c*ax b c+ay b c*ay b c
theorem sW:∀(l:a5 Int)(z:Int),l.foldl min z<=z/\∀y∈l,l.foldl min z<=y
|[],z=>⟨Qr _,λy h=>nomatch h⟩
|a::l,z=>by obtain⟨d,c⟩:=sW l (min z a);refine⟨by simp only[bJ];lia,λy b=>?_⟩;simp only[bJ];rcases aq.mp b with e|e;subst e;lia;exact c y e
theorem sX:∀(l:a5 Int)(z:Int),z<=l.foldl max z/\∀y∈l,y<=l.foldl max z
|[],z=>⟨Qr _,λy h=>nomatch h⟩
|a::l,z=>by obtain⟨d,c⟩:=sX l (max z a);refine⟨by simp only[bJ];lia,λy b=>?_⟩;simp only[bJ];rcases aq.mp b with e|e;subst e;lia;exact c y e
theorem w6:∀(l:a5 Int)(z:Int),l.foldl min z∈z::l
|[],z=>by simp
|a::l,z=>by have h:=w6 l (min z a);simp only[bJ];rcases aq.mp h with e|e;rw[e];rcases(by lia:min z a=z\/min z a=a) with q|q<;>rw[q]<;>simp;exact ah _ (ah _ e)
theorem w8:∀(l:a5 Int)(z:Int),l.foldl max z∈z::l
|[],z=>by simp
|a::l,z=>by have h:=w8 l (max z a);simp only[bJ];rcases aq.mp h with e|e;rw[e];rcases(by lia:max z a=z\/max z a=a) with q|q<;>rw[q]<;>simp;exact ah _ (ah _ e)
theorem Jc{l:a5 Int}{y:Int}(h:y∈l):nz l<=y:=by
 match l,h with
|z::r,h=>rcases aq.mp h with e|e;subst e;exact(sW r y).1;exact(sW r z).2 y e
theorem Jj{l:a5 Int}{y:Int}(h:y∈l):y<=lr l:=by
 match l,h with
|z::r,h=>rcases aq.mp h with e|e;subst e;exact(sX r y).1;exact(sX r z).2 y e
theorem Ej{l:a5 Int}(h:l≠[]):nz l∈l:=by
 match l,h with
|z::r,_=>exact w6 r z
theorem Ek{l:a5 Int}(h:l≠[]):lr l∈l:=by
 match l,h with
|z::r,_=>exact w8 r z
def E8(b:Bx)(p:Pt):Prop:=b.1<=p.x/\p.x<=b.2.2.1/\b.2.1<=p.y/\p.y<=b.2.2.2
theorem fG{l:a5 Pt}{p:Pt}(h:p∈l):E8 (vQ l) p:=
 ⟨Jc (dR h),Jj (dR h),Jc (dR (f:=(·.y)) h),Jj (dR (f:=(·.y)) h)⟩
theorem XN{u v:Int}(a:0<=u)(h:u<=v):u*u<=v*v:=pK h h a #v[]
theorem tT{u v:Int}(a:0<=u)(h:u<=v\/u<=-v):u*u<=v*v:=by rcases h with h|h;exact XN a h;have:=XN a h;rwa[uq]at this
theorem Nk(l r k s:Int):0<=gx l r k s:=ur _ _
theorem Nn(l r k s:Int):gx k s l r=gx l r k s:=congrArg _ (Int.max_comm _ _)
theorem AQ{l r k s:Int}(b:k<=r)(a:l<=s):gx l r k s=0:=DS (yS.mpr ⟨Qq b,Qq a⟩)
theorem Nm{l r k s v:Int}(c:0<=v)(b:k-r<=v)(a:l-s<=v):gx l r k s<=v:=yS.mpr ⟨c,yS.mpr ⟨b,a⟩⟩
theorem Em{l r k s p a e L t:Int}(c:l<=p/\p<=r)(f:k<=a/\a<=s)(d:k<=e/\e<=s)(b:0<=t)(g:t<=L):L*gx l r k s<=(L-t)*(p-a)+t*(p-e)\/L*gx l r k s<=-((L-t)*(p-a)+t*(p-e)):=by
 have h:L*gx l r k s=(L-t)*gx l r k s+t*gx l r k s:=by rw[<- vV,Int.sub_add_cancel]
 rcases aK r k with z|z;right;have m1:(L-t)*gx l r k s<=(L-t) * -(p-a):=jA (Nm #v[] #v[] #v[]) #v[];have m2:t*gx l r k s<=t * -(p-e):=jA (Nm #v[] #v[] #v[]) b;rw[eZ]at m1 m2;lia;rcases aK s l with y|y;left;have m1:(L-t)*gx l r k s<=(L-t)*(p-a):=jA (Nm #v[] #v[] #v[]) #v[];have m2:t*gx l r k s<=t*(p-e):=jA (Nm #v[] #v[] #v[]) b;lia;rw[AQ z y,cF];lia
theorem E8.x{b:Bx}{p:Pt}(h:E8 b p):b.1<=p.x/\p.x<=b.2.2.1:=⟨h.1,h.2.1⟩
theorem WH(p a e:Pt)(L t:Int)(c:L=(e.x-a.x)*(e.x-a.x)+(e.y-a.y)*(e.y-a.y))(b:t=(p.x-a.x)*(e.x-a.x)+(p.y-a.y)*(e.y-a.y)):
  ((L-t)*(p.x-a.x)+t*(p.x-e.x))*((L-t)*(p.x-a.x)+t*(p.x-e.x))+((L-t)*(p.y-a.y)+t*(p.y-e.y))*((L-t)*(p.y-a.y)+t*(p.y-e.y))=L*(ag a e p*ag a e p):=by subst c b;simp only[ag];grind
theorem LA{b c:Bx}{p a e:Pt}(g:E8 b p)(i:E8 c a)(h:E8 c e):gp b c*((ba p a e).den:Int)<=((ba p a e).num:Int):=by
 have pt:∀q:Pt,E8 c q->gp b c*1<=(cD p q:Int):=λq d=>by rw[eA,Int.mul_one];unfold gp;have r:=Em (L:=1) (t:=0) g.x d.x d.x #v[] #v[];have o:=Em (L:=1) (t:=0) g.2.2 d.2.2 d.2.2 #v[] #v[];have n:=tT (v:=p.x-q.x) (Nk b.1 b.2.2.1 c.1 c.2.2.1) #v[];have m:=tT (v:=p.y-q.y) (Nk b.2.1 b.2.2.2 c.2.1 c.2.2.2) #v[];exact G9 n m
 unfold ba;dsimp only;split;exact pt a i;split;exact pt e h;rename_i r o;show gp b c*((cD a e:Nat):Int)<=((sq (ag a e p):Nat):Int);have w:((cD a e:Nat):Int)=(e.x-a.x)*(e.x-a.x)+(e.y-a.y)*(e.y-a.y):=by rw[eA];grind
 have s:cP (sub p a) (sub e a)=(p.x-a.x)*(e.x-a.x)+(p.y-a.y)*(e.y-a.y):=rfl;have u:((sq (ag a e p):Nat):Int)=ag a e p*ag a e p:=by unfold sq;rw[fR,ku]
 rw[u];generalize ((cD a e:Nat):Int)=L at *;generalize cP (sub p a) (sub e a)=t at *;have j:0<L:=#v[]
 have f:=WH p a e L t w s;have l:=tT (v:=(L-t)*(p.x-a.x)+t*(p.x-e.x)) (aE (fK j) (Nk ..)) (Em g.x i.x h.x #v[] #v[]);have k:=tT (v:=(L-t)*(p.y-a.y)+t*(p.y-e.y)) (aE (fK j) (Nk ..)) (Em g.2.2 i.2.2 h.2.2 #v[] #v[]);have x:L*(gp b c*L)=L*ax b c*(L*ax b c)+L*ay b c*(L*ay b c):=by unfold gp;grind
 have:L*(gp b c*L)<=L*(ag a e p*ag a e p):=by rw[<- f,x];exact G9 l k
 exact qD this j
theorem Nr(b c:Bx):gp c b=gp b c:=by rw[gp,ax,ay,Nn,Nn b.2.1];rfl
theorem Np{b c:Bx}(d:ax b c=0)(a:ay b c=0):gp b c=0:=by unfold gp;rw[d,a];rfl
theorem Nl{l u k v p q r s:Int}(d:l<=p/\p<=u)(c:l<=q/\q<=u)(b:k<=r/\r<=v)(a:k<=s/\s<=v)(h:cQ p q r s=false):gx l u k v=0:=by
 have hl:∀{p q r s u k:Int},p<=u->q<=u->k<=r->k<=s->¬max p q<min r s->k<=u:=λj i g f h=>by lia
 have z:=cM.mp h;exact AQ (hl d.2 c.2 b.1 a.1 (of_decide_eq_false z.1)) (hl b.2 a.2 d.1 c.1 (of_decide_eq_false z.2))
theorem Nq{b c:Bx}{p q r s:Pt}(g:E8 b p)(f:E8 b q)(d:E8 c r)(a:E8 c s)(h:fh p q r s=true):gp b c=0:=by obtain⟨j,i,_⟩:=mS.mp h;exact Np (Nl g.x f.x d.x a.x j) (Nl g.2.2 f.2.2 d.2.2 a.2.2 i)
theorem IK{l:a5 Pt}{p:Pt}(h:∀e∈aO l,bo p e=false):odd l p=false:=by
 unfold odd;have:(aO l).filter (bo p)=[]:=Kq.mpr λe a=>by rw[h e a];decide
 rw[this];simp
theorem X7{l:a5 Pt}{p:Pt}(h:p.y<(vQ l).2.1\/(vQ l).2.2.2<p.y):odd l p=false:=by refine IK λe a=>?_;have c:=fG (bN a).1;have b:=fG (bN a).2;unfold E8 at c b;unfold bo;rw[decide_eq_false (p:=e.1.y<=p.y/\p.y<e.2.y) #v[],decide_eq_false (p:=e.2.y<=p.y/\p.y<e.1.y) #v[]];rfl
theorem OZ{l:a5 Pt}{p:Pt}(h:(vQ l).2.2.1<p.x):odd l p=false:=by
 refine IK λe d=>?_;have j:=fG (bN d).1;have i:=fG (bN d).2;unfold E8 at j i;have key:∀a b:Pt,a.x<p.x->b.x<p.x->a.y<=p.y->p.y<b.y->ag a b p<0:=λa b m k g f=>by unfold ag;have m1:(b.x-a.x)*(p.y-a.y)<=(p.x-a.x)*(p.y-a.y):=d8 #v[] #v[];have m2:(p.x-a.x)*(p.y-a.y)<(p.x-a.x)*(b.y-a.y):=Int.mul_lt_mul_of_pos_left #v[] #v[];have e:(b.y-a.y)*(p.x-a.x)=(p.x-a.x)*(b.y-a.y):=As _ _;lia
 cases c:bo p e with
|false=>rfl
|true=>exfalso;unfold bo at c;rw[eU,aZ,aZ,decide_eq_true_eq,decide_eq_true_eq,decide_eq_true_eq,decide_eq_true_eq]at c;rcases c with⟨g,f⟩|⟨g,f⟩;have:=key e.1 e.2 #v[] #v[] #v[] #v[];lia;have:=key e.2 e.1 #v[] #v[] #v[] #v[];rw[iB]at this;lia
theorem R8{l:a5 Pt}{p:Pt}(h:p.x<(vQ l).1):odd l p=false:=by
 have b:∀e∈aO l,meet p ⟨p.x,(vQ l).2.2.2+1⟩ e.1 e.2=false:=λe a=>by have d:=fG (bN a).1;have c:=fG (bN a).2;unfold E8 at d c;rw[<- jl];unfold fh;rw[if_pos];rw[eU];left;rw[xW];dsimp only;lia
 rw[Ef b];exact X7 (.inr (by dsimp only;lia))
theorem aaf{l:a5 Pt}{p:Pt}(h:odd l p=true):E8 (vQ l) p:=by
 unfold E8;have c:¬(p.y<(vQ l).2.1\/(vQ l).2.2.2<p.y):=λz=>by rw[X7 z]at h;exact aD h
 have b:¬(vQ l).2.2.1<p.x:=λz=>by rw[OZ z]at h;exact aD h
 have a:¬p.x<(vQ l).1:=λz=>by rw[R8 z]at h;exact aD h
 lia
theorem WQ{l:a5 Pt}{p:Pt}(h:il l p=true):E8 (vQ l) p:=by
 unfold il at h;obtain⟨e,g,h⟩:=bS.mp h;have f:=fG (bN g).1;have d:=fG (bN g).2;obtain⟨_,j,i⟩:=yl.mp h;have k:∀{l r a b c:Int},l<=a/\a<=r->l<=b/\b<=r->(a-c)*(b-c)<=0->l<=c/\c<=r:=λf d h=>by have:=M8 h;lia
 have x:=k f.x d.x j;exact⟨x.1,x.2,k f.2.2 d.2.2 i⟩
theorem Ny{l:a5 Pt}{p:Pt}(h:encl l p=true):E8 (vQ l) p:=by
 cases a:il l p with
|true=>exact WQ a
|false=>rw[xa a]at h;exact aaf h
theorem Nt{b c:Bx}{p:Pt}(d:E8 b p)(a:E8 c p):gp b c=0:=by exact Np (AQ (iX a.1 d.2.1) (iX d.1 a.2.1)) (AQ (iX a.2.2.1 d.2.2.2) (iX d.2.2.1 a.2.2.2))
theorem PL{k l:a5 Pt}(hk:k≠[])(hl:l≠[])(h:common k l=true):gp (vQ k) (vQ l)=0:=by unfold common at h;rw[eU,eU]at h;rcases h with h|h|h;obtain⟨e,b,h⟩:=bS.mp h;obtain⟨f,a,h⟩:=bS.mp h;exact Nq (fG (bN b).1) (fG (bN b).2) (fG (bN a).1) (fG (bN a).2) h;exact Nt (Ny h) (fG (ql hl _));rw[<- Nr];exact Nt (Ny h) (fG (ql hk _))
def uZ(k l:a5 Pt)(f:Frac):Prop:=(f∈eB k l\/f∈eB l k)/\(∀g∈eB k l,f.le g=true)/\∀g∈eB l k,f.le g=true
theorem kI{k l:a5 Pt}(hk:k≠[])(hl:l≠[]):uZ k l (Frac.least (cO (eB k l)) (cO (eB l k))):=by obtain⟨m1,a1⟩:=iI (wA hk hl) (iM k l);obtain⟨m2,a2⟩:=iI (wA hl hk) (iM l k);have d1:=iM k l _ m1;have d2:=iM l k _ m2;refine⟨?_,λg a=>?_,λg a=>?_⟩;rcases qi (cO (eB k l)) (cO (eB l k)) with e|e;rw[e];exact .inl m1;rw[e];exact .inr m2;exact le_trans d1 (Gk _ _ d1) (a1 g a);exact le_trans d2 (Gj _ _) (a2 g a)
theorem uZ.den{k l:a5 Pt}{f:Frac}(h:uZ k l f):0<f.den:=h.1.elim (iM k l f) (iM l k f)
theorem uZ.uniq{k l:a5 Pt}{f g:Frac}(b:uZ k l f)(a:uZ k l g):f.num*g.den=g.num*f.den:=
 le_antisymm (a.1.elim (b.2.1 g) (b.2.2 g)) (b.1.elim (a.2.1 f) (a.2.2 f))
theorem vt(f:Frac)(h:0<f.den):f.num*f.reduced.den=f.reduced.num*f.den/\0<f.reduced.den/\f.reduced.den<=f.den:=by
 have d:0<jZ f.num f.den:=lg _ h;obtain⟨a,i⟩:=Xp f.num f.den;obtain⟨b,c⟩:=Ao f.num f.den;have k:f.num / jZ f.num f.den=a:=G6 d i;have j:f.den / jZ f.num f.den=b:=G6 d c;unfold Frac.reduced;dsimp only;rw[k,j];generalize jZ f.num f.den=g at *;refine⟨?_,?_,?_⟩;rw[i,c,tK g a,Nat.mul_assoc];exact Nat.pos_of_ne_zero λz=>by rw[z,Nat.mul_zero]at c;lia
 rw[c];exact Nat.le_mul_of_pos_left _ d
theorem lG{k l:a5 Pt}{f:Frac}(hk:k≠[])(hl:l≠[])(a:common k l=false)(h:uZ k l f):f.num*(aT k l).den=(aT k l).num*f.den/\f.reduced=aT k l:=by
 have e:f.reduced=aT k l:=by rw[<- JA hk hl];unfold JB;rw[if_neg (by rw[a];decide)];exact mM h.den (kI hk hl).den (h.uniq (kI hk hl))
 rw[<- e];exact⟨(vt f h.den).1,rfl⟩
theorem jf{k l:a5 Pt}(hk:k≠[])(hl:l≠[])(a:common k l=true):aT k l=.whole 0:=by rw[<- JA hk hl];unfold JB;rw[if_pos a]
theorem oC{k l:a5 Pt}(hk:k≠[])(hl:l≠[]):0<(aT k l).den:=by
 cases a:common k l with
|true=>rw[jf hk hl a];decide
|false=>have L:=kI hk hl;rw[<- (lG hk hl a L).2];exact(vt _ L.den).2.1
theorem WC{k l:a5 Pt}(hk:k≠[])(hl:l≠[]):gp (vQ k) (vQ l)*((aT k l).den:Int)<=((aT k l).num:Int):=by
 cases c:common k l with
|true=>rw[PL hk hl c,fH];exact lN _
|false=>
  have L:=kI hk hl;generalize Frac.least (cO (eB k l)) (cO (eB l k))=f at L;have i:gp (vQ k) (vQ l)*(f.den:Int)<=(f.num:Int):=by rcases L.1 with m|m;obtain⟨p,b,e,a,rfl⟩:=dZ.mp m;exact LA (fG b) (fG (bN a).1) (fG (bN a).2);obtain⟨p,b,e,a,rfl⟩:=dZ.mp m;rw[<- Nr];exact LA (fG b) (fG (bN a).1) (fG (bN a).2)
  have h:=(lG hk hl c L).1;have hd:=oC hk hl;have o:=L.den;have h2':(f.num:Int)*((aT k l).den:Int)=((aT k l).num:Int)*(f.den:Int):=by exact_mod_cast h
  have g:gp (vQ k) (vQ l)*(f.den:Int)*((aT k l).den:Int)<=(f.num:Int)*((aT k l).den:Int):=d8 i (lN _);have d:(f.den:Int)*(gp (vQ k) (vQ l)*((aT k l).den:Int))<=(f.den:Int)*((aT k l).num:Int):=by
   have n:(f.den:Int)*(gp (vQ k) (vQ l)*((aT k l).den:Int))=gp (vQ k) (vQ l)*(f.den:Int)*((aT k l).den:Int):=by grind
   have j:(f.den:Int)*((aT k l).num:Int)=((aT k l).num:Int)*(f.den:Int):=As _ _;rw[n,j,<- h2'];exact g
  exact qD d #v[]
theorem OB(p a b:Pt):(ba p a b).le (.whole (cD p a))=true:=by
 rw[le_iff];unfold ba;dsimp only;split;exact aS _;split;rename_i g f;show cD p b*1<=cD p a*1;have j:=eA p b;have d:=eA p a;have c:=eA a b;have h:cP (sub p a) (sub b a)=(p.x-a.x)*(b.x-a.x)+(p.y-a.y)*(b.y-a.y):=rfl;rw[h]at g f;have:((cD p b:Nat):Int)<=((cD p a:Nat):Int):=by
  have id:(p.x-b.x)*(p.x-b.x)+(p.y-b.y)*(p.y-b.y)=(p.x-a.x)*(p.x-a.x)+(p.y-a.y)*(p.y-a.y)-2*((p.x-a.x)*(b.x-a.x)+(p.y-a.y)*(b.y-a.y))+((a.x-b.x)*(a.x-b.x)+(a.y-b.y)*(a.y-b.y)):=by grind
  rw[j,d,id,<- c];lia
 lia;show sq (ag a b p)*1<=cD p a*cD a b;have d:=eA p a;have c:=eA a b;have i:((sq (ag a b p):Nat):Int)=ag a b p*ag a b p:=by unfold sq;rw[fR,ku]
 have:((sq (ag a b p):Nat):Int)<=((cD p a*cD a b:Nat):Int):=by
  rw[fR,i,d,c];have id:((p.x-a.x)*(p.x-a.x)+(p.y-a.y)*(p.y-a.y))*((a.x-b.x)*(a.x-b.x)+(a.y-b.y)*(a.y-b.y))=ag a b p*ag a b p+((p.x-a.x)*(b.x-a.x)+(p.y-a.y)*(b.y-a.y))*((p.x-a.x)*(b.x-a.x)+(p.y-a.y)*(b.y-a.y)):=by simp only[ag];grind
  have k:=gh ((p.x-a.x)*(b.x-a.x)+(p.y-a.y)*(b.y-a.y));lia
 lia
theorem LL{p:Pt}{r:a5 Pt}:∃e∈aO (p::r),e.1=p:=by
 match r with
|[]=>exact⟨(p,p),by simp[aO],rfl⟩
|[q]=>exact⟨(p,q),by simp[aO],rfl⟩
|q::s::r=>exact⟨(p,q),by simp[aO],rfl⟩
theorem LP{k l:a5 Pt}{p q:Pt}{r s:a5 Pt}(hk:k=p::r)(hl:l=q::s):(aT k l).le (.whole (cD p q))=true:=by
 have b:k≠[]:=by rw[hk];simp
 have a:l≠[]:=by rw[hl];simp
 cases c:common k l with
|true=>rw[jf b a c,le_iff];show 0*1<=_;lia
|false=>have L:=kI b a;generalize Frac.least (cO (eB k l)) (cO (eB l k))=f at L;have j:=(lG b a c L).1;obtain⟨e,h,n⟩:=LL (p:=q) (r:=s);have m:ba p e.1 e.2∈eB k l:=dZ.mpr ⟨p,by rw[hk];simp,e,by rw[hl];exact h,rfl⟩;have g:=L.2.1 _ m;have d:=OB p e.1 e.2;rw[n]at d g;have i:=le_trans (j6 _ _ _) g d;refine le_trans L.den ?_ i;rw[le_iff];exact jD j.symm
theorem qU{i j k l a b c d:Int}(hi:0<=i)(hj:0<=j)(hk:0<=k)(hl:0<=l)(e:i+j=k+l)(p:0<i+j)(h:i*a+j*b=k*c+l*d)(m:Int)(o:a<=m)(n:b<=m)(g:m<c)(f:m<d):False:=by
 have a1:=aE hi (show 0<=m-a by lia);have a2:=aE hj (show 0<=m-b by lia);have a3:=aE hk (show 0<=c-m-1 by lia);have q:=aE hl (show 0<=d-m-1 by lia);have:i*m+j*m=k*m+l*m:=by rw[<- vV,<- vV,e]
 grind
theorem yV{k l A B:Int}(hk:0<=k)(hl:0<=l)(p:0<k+l)(h:k*A+l*B=0):A*B<=0:=by rcases dJ A 0 with a|a|a;rcases aK B 0 with b|b;exfalso;have d:=aE hk (show 0<=-A-1 by lia);have c:=aE hl (show 0<=-B-1 by lia);grind;exact iA #v[] b;simp[a];rcases aK 0 B with b|b;exfalso;have d:=aE hk (show 0<=A-1 by lia);have c:=aE hl (show 0<=B-1 by lia);grind;exact cU #v[] b
structure W (a b c d:Pt) (i j k l:Int):Prop where
 hi:0<=i
 hj:0<=j
 hk:0<=k
 hl:0<=l
 e:i+j=k+l
 p:0<i+j
 x:i*a.x+j*b.x=k*c.x+l*d.x
 y:i*a.y+j*b.y=k*c.y+l*d.y
theorem W.symm{a b c d:Pt}{i j k l:Int}(h:W a b c d i j k l):W c d a b k l i j:=
 ⟨h.hk,h.hl,h.hi,h.hj,h.e.symm,by have:=h.p;have:=h.e;lia,h.x.symm,h.y.symm⟩
theorem W.Em{a b c d:Pt}{i j k l:Int}(h:W a b c d i j k l)(s t:Pt):i*ag s t a+j*ag s t b=k*ag s t c+l*ag s t d:=by
 have e:=h.e;have x:=h.x;have y:=h.y;have q:∀(i j:Int)(a b:Pt),i*ag s t a+j*ag s t b=(t.x-s.x)*((i*a.y+j*b.y)-(i+j)*s.y)-(t.y-s.y)*((i*a.x+j*b.x)-(i+j)*s.x):=by intro i j a b;simp only[ag];grind
 rw[q,q,e,x,y]
theorem jC(a b:Pt):ag a b a=0:=by simp only[ag];grind
theorem jB(a b:Pt):ag a b b=0:=by simp only[ag];grind
theorem W.meet{a b c d:Pt}{i j k l:Int}(h:W a b c d i j k l):meet a b c d=true:=by
 have m:=h.Em a b;have g:=h.Em c d;rw[jC,jB]at m g;obtain⟨hi,hj,hk,hl,e,p,x,y⟩:=h;rw[<- jl,mS];have sp:∀a b c d:Int,i*a+j*b=k*c+l*d->cQ a b c d=false:=by
  intro a b c d x;cases f:cQ a b c d with
 |false=>rfl
 |true=>exfalso;rcases xW.mp f with q|q;exact qU hi hj hk hl e p x (max a b) #v[] #v[] #v[] #v[];exact qU hk hl hi hj e.symm #v[] x.symm (max c d) #v[] #v[] #v[] #v[]
 exact⟨sp _ _ _ _ x,sp _ _ _ _ y,yV hk hl #v[] #v[],yV hi hj p #v[]⟩
theorem w_on{p a b:Pt}(h:onSeg p a b=true):∃i j,W a b p p i j (i+j) 0:=by
 obtain⟨c,d0⟩:=fU.mp h;by_cases d:a=b;subst d;have:p=a:=by simp only[cP,sub]at d0;have:=gh (a.x-p.x);have:=gh (a.y-p.y);apply fk;by_cases q:a.x-p.x=0;lia;have:=sq_pos q;lia;by_cases q:a.y-p.y=0;lia;have:=sq_pos q;lia
 subst this;exact⟨1,0,#v[],#v[],#v[],#v[],#v[],#v[],#v[],#v[]⟩;have n:0<(b.x-a.x)*(b.x-a.x)+(b.y-a.y)*(b.y-a.y):=by have:=gh (b.x-a.x);have:=gh (b.y-a.y);by_cases q:b.x-a.x=0;by_cases f:b.y-a.y=0;exact absurd (fk #v[] #v[]) d;have:=sq_pos f;lia;have:=sq_pos q;lia
 have m:=gh (p.x-a.x);have l:=gh (p.y-a.y);have k:=gh (b.x-p.x);have g:=gh (b.y-p.y);refine⟨((b.x-a.x)*(b.x-a.x)+(b.y-a.y)*(b.y-a.y))-((p.x-a.x)*(b.x-a.x)+(p.y-a.y)*(b.y-a.y)),(p.x-a.x)*(b.x-a.x)+(p.y-a.y)*(b.y-a.y),?_,?_,?_,?_,?_,?_,?_,?_⟩;simp only[cP,sub]at d0;grind;simp only[cP,sub]at d0;grind;grind;lia;lia;grind;simp only[ag]at c;grind;simp only[ag]at c;grind
theorem nV{a b c d:Pt}(h:meet a b c d=true):∃i j k l,W a b c d i j k l:=by rcases mU.mp h with⟨g,f⟩|h|h|h|h;rw[gO]at g f;have n:=xc a b c d;have ex:=Yj a b c d;have m:=To a b c d;rcases f with⟨u,v⟩|⟨u,v⟩;exact⟨ag c d b,- ag c d a,- ag a b d,ag a b c,#v[],#v[],#v[],#v[],#v[],#v[],by grind,by grind⟩;exact⟨- ag c d b,ag c d a,ag a b d,- ag a b c,#v[],#v[],#v[],#v[],#v[],#v[],by grind,by grind⟩;obtain⟨i,j,w⟩:=w_on h;exact⟨i,j,i+j,0,w.hi,w.hj,w.hk,w.hl,w.e,w.p,by have:=w.x;lia,by have:=w.y;lia⟩;obtain⟨i,j,w⟩:=w_on h;exact⟨i,j,0,i+j,w.hi,w.hj,w.hl,w.hk,#v[],w.p,by have:=w.x;lia,by have:=w.y;lia⟩;obtain⟨i,j,w⟩:=w_on h;exact⟨i+j,0,i,j,w.hk,w.hl,w.hi,w.hj,#v[],by have:=w.p;lia,by have:=w.x;lia,by have:=w.y;lia⟩;obtain⟨i,j,w⟩:=w_on h;exact⟨0,i+j,i,j,w.hl,w.hk,w.hi,w.hj,#v[],by have:=w.p;lia,by have:=w.x;lia,by have:=w.y;lia⟩
theorem nO(p a b:Pt):onSeg p a b=meet p p a b:=by
 cases h:onSeg p a b with
|true=>exact(mU.mpr (.inr (.inr (.inr (.inl h))))).symm
|false=>
  cases m:meet p p a b with
 |false=>rfl
 |true=>
   exfalso;have AK:∀q,onSeg q p p=true->q=p:=by
    intro q d;obtain⟨i,j,w⟩:=w_on d;have e:=w.e;have k:=w.p;have x:=w.x;have y:=w.y;apply fk;have:(i+j)*(q.x-p.x)=0:=by grind
    rcases bE.mp this with z|z<;>lia;have:(i+j)*(q.y-p.y)=0:=by grind
    rcases bE.mp this with z|z<;>lia
   have c:∀q r,onSeg q q r=true:=by intro q r;rw[fU];exact⟨jC q r,by simp[cP,sub]⟩
   rcases mU.mp m with⟨l,f⟩|g|g|g|g;rw[gO]at f;lia;rw[AK a g,c]at h;exact aD h;rw[AK b g,fT,c]at h;exact aD h;rw[h]at g;exact aD g;rw[h]at g;exact aD g
def way:a5 Pt->a5 (Pt×Pt)
|[]=>[]
|[_]=>[]
|a::b::l=>(a,b)::way (b::l)
def rg:a5 Pt->a5 (Pt×Pt)
|[]=>[]
|a::l=>way (a::l++[a])
theorem Ax:∀(l:a5 Pt)(a z:Pt),(a::l).zip (l++[z])=way (a::l++[z])
|[],a,z=>rfl
|b::l,a,z=>by have:=Ax l b z;simp only[aU,du,way]at this⊢;rw[this]
theorem Th{l:a5 Pt}(h:3<=l.length):aO l=rg l:=by obtain⟨a,r,c,b⟩:=Cg h;rw[b,c,Ax];rfl
theorem wk:∀(A:a5 Pt)(z:Pt)(B:a5 Pt),way (A++z::B)=way (A++[z])++way (z::B)
|[],z,B=>by simp[way]
|[a],z,B=>by simp[way]
|a::b::A,z,B=>by have:=wk (b::A) z B;simp only[aU,way]at this⊢;rw[this]
theorem rX(A:a5 Pt)(x z:Pt):way (A++[x,z])=way (A++[x])++[(x,z)]:=wk A x [z]
theorem qM{α:Type}(f:α->Bool):∀(A B:a5 α),par f (A++B)=(par f A ^^ par f B)
|[],B=>by simp[par]
|a::A,B=>by have:=qM f A B;simp only[aU,par,this,Bool.xor_assoc]
def F(l:a5 Pt)(p:Pt):Bool:=par (bo p) (rg l)
def ws(p q v:Pt):Bool:=if p.y<=q.y then iq p q v else iq q p v
theorem WO{p q a b:Pt}(m:meet p q a b=false):(bo p (a,b) ^^ bo q (a,b))=(ws p q a ^^ ws p q b):=by
 unfold ws;split
 next h=>exact xb m h
 next h=>rw[m9];exact xb (by rw[ft];exact m) #v[]
theorem Ay{p q:Pt}:∀(l:a5 Pt)(a x:Pt),(a::l).getLast? = some x->(∀e∈way (a::l),meet p q e.1 e.2=false) →
  (par (bo p) (way (a::l)) ^^ par (bo q) (way (a::l)))=(ws p q a ^^ ws p q x)
|[],a,x,h,_=>by simp only[List.getLast?_singleton,kU]at h;subst h;simp[way,par]
|b::l,a,x,h,k=>by have c:=Ay (p:=p) (q:=q) l b x (by rw[<- h];simp[gF]) (λe d=>k e (by simp only[way];exact ah _ d));have e:=WO (k (a,b) (by simp[way]));simp only[way,par];revert c e;generalize par (bo p) (way (b::l))=u1;generalize par (bo q) (way (b::l))=u2;generalize bo p (a,b)=u3;generalize bo q (a,b)=u4;generalize ws p q a=u5;generalize ws p q b=u6;generalize ws p q x=u7;revert u1 u2 u3 u4 u5 u6 u7;decide
theorem kM{v:Pt}{y:Pt}{C:a5 Pt}{x:Pt}(h:(y::C).getLast? = some x):rg (v::y::C)=(v,y)::(way (y::C)++[(x,v)]):=by
 obtain⟨D,a⟩:∃D,y::C=D++[x]:=by rw[cZ]at h;obtain⟨D,a⟩:=h;exact⟨D,a⟩
 show way (v::(y::C)++[v])=_;have:way (v::(y::C)++[v])=(v,y)::way ((y::C)++[v]):=rfl;rw[this,a,dj];show(v,y)::way (D++[x,v])=_;rw[rX]
theorem NZ{l:a5 Pt}{p q:Pt}(h:∀e∈rg l,meet p q e.1 e.2=false):F l p=F l q:=by
 match l with
|[]=>rfl
|a::l=>
  have:=Ay (p:=p) (q:=q) (l++[a]) a a (by rw[<- aU];exact cz) h;have e:(par (bo p) (rg (a::l)) ^^ par (bo q) (rg (a::l)))=false:=by show(par (bo p) (way (a::(l++[a]))) ^^ par (bo q) (way (a::(l++[a]))))=false;rw[this];simp
  unfold F;revert e;cases par (bo p) (rg (a::l))<;>cases par (bo q) (rg (a::l))<;>simp
theorem VO(a:Pt)(l:a5 Pt)(f:Pt×Pt->Bool):par f (rg (l++[a]))=par f (rg (a::l))/\∀e,e∈rg (l++[a])↔e∈rg (a::l):=by
 match l with
|[]=>exact⟨rfl,λe=>Au⟩
|b::l=>
  have d:rg (b::l++[a])=way (b::l++[a])++[(a,b)]:=by
   show way (b::(l++[a])++[b])=_;have:b::(l++[a])++[b]=(b::l)++[a,b]:=#v[0]
   rw[this,rX]
  have c:rg (a::b::l)=(a,b)::way (b::l++[a]):=rfl;rw[d,c];constructor;rw[qM];simp only[par,Bool.xor_false];rw[m9];intro e;rw[aI,bA,aq];exact Or.comm
theorem KR(f:Pt×Pt->Bool):∀(A B:a5 Pt),par f (rg (B++A))=par f (rg (A++B))/\∀e,e∈rg (B++A)↔e∈rg (A++B)
|[],B=>by simp
|a::A,B=>by have c:=KR f A (B++[a]);have b:=VO a (A++B) f;simp only[dj,aU,fQ]at c b⊢;exact⟨c.1.trans b.1,λe=>(c.2 e).trans (b.2 e)⟩
theorem J2(A B:a5 Pt)(p:Pt):F (B++A) p=F (A++B) p:=(KR _ A B).1
theorem o9{A B:a5 Pt}{e:Pt×Pt}:e∈rg (B++A)↔e∈rg (A++B):=(KR (λ_=>true) A B).2 e
def G(v p x:Pt):Bool:=if v.y<p.y then decide (v.y<x.y)&&decide (ag v p x<0) else decide (x.y<v.y)&&decide (0<ag v p x)
theorem Xj{v p x:Pt}(k:p.y≠v.y)(j:x.y≠v.y):(ws v p x ^^ bo p (v,x))=G v p x:=by
 have h:ag v x p = - ag v p x:=by simp only[ag];grind
 have g:ag p v x = - ag v p x:=by simp only[ag];grind
 unfold ws G iq bo;simp only[h];by_cases f:v.y<p.y;rw[if_pos #v[],if_pos f];by_cases c:v.y<x.y;by_cases d:x.y<=p.y;have b:¬(v.y<=p.y/\p.y<x.y):=#v[]
 have n2:¬(x.y<=p.y/\p.y<v.y):=#v[]
 have a:¬p.y<v.y:=#v[]
 simp[c,d,b,n2,a];have n2:¬(x.y<=p.y/\p.y<v.y):=#v[]
 have a:v.y<=p.y/\p.y<x.y:=#v[]
 simp[c,d,n2,a];have b:¬(v.y<=p.y/\p.y<x.y):=#v[]
 have n2:¬(x.y<=p.y/\p.y<v.y):=#v[]
 simp[c,b,n2];rw[if_neg #v[],if_neg f,g];by_cases c:x.y<v.y;by_cases d:x.y<=p.y;have b:¬(v.y<=p.y/\p.y<x.y):=#v[]
 have n2:(x.y<=p.y/\p.y<v.y):=#v[]
 have a:¬(p.y<x.y/\x.y<=v.y):=#v[]
 simp[c,b,n2,a];have n2:¬(x.y<=p.y/\p.y<v.y):=#v[]
 have b:¬(v.y<=p.y/\p.y<x.y):=#v[]
 have a:p.y<x.y/\x.y<=v.y:=#v[]
 have i:¬v.y<=p.y:=#v[]
 simp[c,b,n2,a,i];have b:¬(v.y<=p.y/\p.y<x.y):=#v[]
 have n2:¬(x.y<=p.y/\p.y<v.y):=#v[]
 have a:¬(p.y<x.y/\x.y<=v.y):=#v[]
 simp[c,b,n2,a]
theorem vo(v y:Pt):bo v (v,y)=false:=by simp only[bo,jC];simp
theorem vn(v y:Pt):bo v (y,v)=false:=by simp only[bo,jB];simp
theorem NY{v y x:Pt}{C:a5 Pt}{p:Pt}(hl:(y::C).getLast? = some x)(h:∀e∈way (y::C),meet v p e.1 e.2=false)(a:p.y≠v.y)(c:x.y≠v.y)(b:y.y≠v.y):F (v::y::C) p=(F (v::y::C) v ^^ (G v p x ^^ G v p y)):=by have k:=Ay (p:=v) (q:=p) C y x hl h;have f:=Xj a c;have d:=Xj a b;unfold F;rw[kM hl];simp only[par,qM,vo,vn,iF p v x];rw[<- f,<- d];revert k;generalize par (bo v) (way (y::C))=u1;generalize par (bo p) (way (y::C))=u2;generalize bo p (v,y)=u3;generalize bo p (v,x)=u4;generalize ws v p x=u5;generalize ws v p y=u6;revert u1 u2 u3 u4 u5 u6;decide
def ls(v x y:Pt):Bool:=if v.y<x.y then decide (y.y<v.y)||decide (0<ag v x y) else decide (y.y<v.y)&&decide (0<ag v x y)
theorem jt:∀{l:a5 Pt}{e:Pt×Pt},e∈way l->e.1∈l/\e.2∈l
|[],e,h=>by simp[way]at h
|[a],e,h=>by simp[way]at h
|a::b::l,e,h=>by simp only[way,aq]at h;rcases h with h|h;subst h;simp;have:=jt (l:=b::l) h;exact⟨ah _ this.1,ah _ this.2⟩
theorem nN{l:a5 Pt}{e:Pt×Pt}(h:e∈rg l):e.1∈l/\e.2∈l:=by
 match l with
|[]=>simp[rg]at h
|a::l=>have:=jt (l:=a::l++[a]) h;simp only[aU,aq,aI,bA]at this⊢;grind
structure Simp (l:a5 Pt):Prop where
 len:3<=l.length
 nd:l.Nodup
 far:∀e∈rg l,∀f∈rg l,e.1≠f.1->e.1≠f.2->e.2≠f.1->e.2≠f.2->meet e.1 e.2 f.1 f.2=false
 on:∀z∈l,∀e∈rg l,z≠e.1->z≠e.2->onSeg z e.1 e.2=false
def DH(l:a5 Pt):Prop:=∀a∈l,∀b∈l,a.y=b.y->a=b
theorem Simp.AG{A B:a5 Pt}(h:Simp (A++B)):Simp (B++A) where
 len:=by have:=h.len;simp only[aP]at *;lia
 nd:=by have:=h.nd;rw[eC]at this⊢;exact⟨this.2.1,this.1,λa i b g e=>this.2.2 b g a i e.symm⟩
 far:=λe c f d=>h.far e (o9.mp c) f (o9.mp d)
 on:=λz hz e c=>h.on z (by rw[aI]at *;exact hz.symm) e (o9.mp c)
theorem DH.sub{l m:a5 Pt}(h:DH l)(s:∀a∈m,a∈l):DH m:=λa d b c=>h a (s a d) b (s b c)
theorem DH.AG{A B:a5 Pt}(h:DH (A++B)):DH (B++A):=h.sub λa b=>by rw[aI]at *;exact b.symm
def NB(v x y:Pt):Prop:=¬(ag v x y=0/\(v.y<x.y↔v.y<y.y))
theorem M6{v x y:Pt}(k:x.y≠v.y)(j:y.y≠v.y)(f:onSeg x v y=false)(d:onSeg y x v=false):NB v x y:=by
 rintro⟨t,h⟩;have t':ag v y x=0:=by simp only[ag]at t⊢;grind
 by_cases a:v.y<x.y;have b:=h.mp a;rcases mJ x.y y.y with c|c;rw[bU t' #v[] c #v[]]at f;exact aD f;rw[fT,bU t #v[] c #v[]]at d;exact aD d;have b:¬v.y<y.y:=λq=>a (h.mpr q);have i:ag y v x=0:=by simp only[ag]at t⊢;grind
 have g:ag x v y=0:=by simp only[ag]at t⊢;grind
 rcases mJ x.y y.y with c|c;rw[bU g c #v[] #v[]]at d;exact aD d;rw[fT,bU i c #v[] #v[]]at f;exact aD f
theorem acJ{v x y:Pt}(h:v.y<y.y)(a:x.y≠v.y):ls v x y=G v y x:=by
 have t:ag v y x = - ag v x y:=by simp only[ag];grind
 unfold ls G;rw[if_pos h,t];have n:¬y.y<v.y:=#v[]
 by_cases k:v.y<x.y<;>simp[k,n]
theorem Ws{v x y:Pt}(h:y.y<v.y)(b:x.y≠v.y)(a:NB v x y):ls v x y = !G v y x:=by
 have t:ag v y x = - ag v x y:=by simp only[ag];grind
 unfold ls G;rw[if_neg (show ¬v.y<y.y by lia),t];by_cases k:v.y<x.y;have:¬x.y<v.y:=#v[]
 simp[k,h,this];have q:x.y<v.y:=#v[]
 have z:ag v x y≠0:=λz=>a ⟨z,#v[]⟩;simp only[k,h,q,if_false,decide_true,gr];by_cases s:0<ag v x y;have:¬0 < - ag v x y:=#v[]
 simp only[s,this,decide_true,decide_false,Bool.not_false];have:0 < - ag v x y:=#v[]
 simp only[s,this,decide_true,decide_false,Bool.not_true]
theorem aau{y v z:Pt}(h:y.y<v.y)(hz:z.y≠y.y)(a:NB y v z):ls y v z = !G y v z:=by
 unfold ls G;rw[if_pos h,if_pos h];by_cases k:y.y<z.y;have n:¬z.y<y.y:=#v[]
 have b:ag y v z≠0:=λz=>a ⟨z,#v[]⟩;simp only[k,n,decide_true,decide_false,gr,jL];by_cases s:0<ag y v z;have:¬ag y v z<0:=#v[]
 simp[s,this];have:ag y v z<0:=#v[]
 simp[s,this];have n:z.y<y.y:=#v[]
 simp[k,n]
theorem SI{y v z:Pt}(h:v.y<y.y):ls y v z=G y v z:=by unfold ls G;rw[if_neg #v[],if_neg #v[]]
theorem Vu{p q v:Pt}(h:p.y≠q.y):ws p q v=ws q p v:=by unfold ws;by_cases k:p.y<=q.y;rw[if_pos k,if_neg #v[]];rw[if_neg k,if_pos #v[]]
def oh:a5 Pt->Bool
|v::y::C=>F (v::y::C) v ^^ ls v ((y::C).getLast (kE _ _)) y
|_=>false
theorem uQ{v y x:Pt}{C:a5 Pt}(h:(y::C).getLast? = some x):oh (v::y::C)=(F (v::y::C) v ^^ ls v x y):=by
 have:(y::C).getLast (kE _ _)=x:=by rw[gv (kE _ _)]at h;exact aH h
 rw[<- this];rfl
theorem AM(y:Pt)(C:a5 Pt):∃x,(y::C).getLast? = some x/\x∈y::C:=
 ⟨_,gv (kE _ _),List.getLast_mem _⟩
theorem Wf{v y z:Pt}{C:a5 Pt}(S:Simp (v::y::z::C))(D:DH (v::y::z::C)):oh (y::z::(C++[v]))=oh (v::y::z::C):=by
 obtain⟨x,u,i⟩:=AM z C;have hl:(y::z::C).getLast? = some x:=by rw[gF];exact u
 have I:(z::(C++[v])).getLast? = some v:=by rw[<- aU];exact cz
 rw[uQ hl,uQ I];have fr:F (y::z::(C++[v])) y=F (v::y::z::C) y:=J2 [v] (y::z::C) y;rw[fr];obtain⟨d,b⟩:=bg.mp S.nd;have b:=(bg.mp b).1;have l:v∈v::y::z::C:=aF ..;have j:y∈v::y::z::C:=ah _ (aF ..);have o:z∈v::y::z::C:=ah _ (ah _ (aF ..));have r:x∈v::y::z::C:=ah _ (ah _ i);have A:x≠v:=λq=>d (ah _ (q▸i));have t:x≠y:=λq=>b (q▸i);have m:v≠y:=λq=>d (q▸aF ..);have w:v≠z:=λq=>d (by rw[q];exact ah _ (aF ..));have s:y≠z:=λq=>b (q▸aF ..);have c:=kM (v:=v) hl;have n:(v,y)∈rg (v::y::z::C):=by rw[c];simp
 have P:(y,z)∈rg (v::y::z::C):=by rw[c];simp[way]
 have O:(x,v)∈rg (v::y::z::C):=by rw[c];simp
 have f:x.y≠v.y:=λq=>A (D x r v l q);have a:y.y≠v.y:=λq=>m (D v l y j q.symm);have h:z.y≠y.y:=λq=>s (D y j z o q.symm);have H:NB v x y:=M6 f a (S.on x r _ n A t) (S.on y j _ O (Ne.symm t) (Ne.symm m));have E:NB y v z:=M6 a.symm h (S.on v l _ P m w) (S.on z o _ n (Ne.symm w) (Ne.symm s));have cl:∀e∈way (z::C),meet v y e.1 e.2=false:=by
  intro e B;have g:=jt B;have:e∈rg (v::y::z::C):=by rw[c];simp[way,B]
  exact S.far _ n _ this (λ(q:v=e.1)=>d (q▸ah _ g.1)) (λ(q:v=e.2)=>d (q▸ah _ g.2)) (λ(q:y=e.1)=>b (q▸g.1)) (λ(q:y=e.2)=>b (q▸g.2))
 have k:=Ay (p:=v) (q:=y) C z x u cl;have L:(ws v y x ^^ bo y (v,x))=G v y x:=Xj a f;have J:(ws v y z ^^ bo v (y,z))=G y v z:=by rw[Vu a.symm];exact Xj a.symm h
 have K:(ls v x y ^^ ls y v z)=(G v y x ^^ G y v z):=by rcases yT a with q|q;rw[Ws q f H,aau q h E];cases G v y x<;>cases G y v z<;>rfl;rw[acJ q f,SI q]
 have N:F (v::y::z::C) v=(bo v (y,z) ^^ par (bo v) (way (z::C))):=by unfold F;rw[c];simp only[way,par,qM,vo,vn,aU];simp
 have M:F (v::y::z::C) y=(bo y (v,x) ^^ par (bo y) (way (z::C))):=by unfold F;rw[c];simp only[way,par,qM,vo,vn,aU,iF y v x];simp[m9]
 rw[N,M];rw[<- L,<- J]at K;revert K k;generalize par (bo v) (way (z::C))=u1;generalize par (bo y) (way (z::C))=u2;generalize bo v (y,z)=u3;generalize bo y (v,x)=u4;generalize ws v y x=u5;generalize ws v y z=u6;generalize ls v x y=u7;generalize ls y v z=u8;revert u1 u2 u3 u4 u5 u6 u7 u8;decide
theorem vF:∀(A B:a5 Pt),Simp (A++B)->DH (A++B)->oh (B++A)=oh (A++B)
|[],B,_,_=>by simp
|a::A,B,S,D=>by
  have S':Simp (A++B++[a]):=Simp.AG (A:=[a]) (B:=A++B) S;have D':DH (A++B++[a]):=DH.AG (A:=[a]) (B:=A++B) D;have f:=vF A (B++[a]) (by rw[<- dj];exact S') (by rw[<- dj];exact D');have d:oh (A++(B++[a]))=oh (a::A++B):=by
   rw[<- dj];show oh (A++B++[a])=oh (a::(A++B));have b:Simp (a::(A++B)):=S;have c:DH (a::(A++B)):=D;revert b c
   match A++B with
  |y::z::C=>intro b c;exact Wf b c
  |[]=>intro b;have:=b.len;simp at this
  |[y]=>intro b;have:=b.len;simp at this
  rw[<- d,<- f];simp
theorem IB{α:Type}{f:α->Bool}:∀{l:a5 α},(∀e∈l,f e=false)->par f l=false
|[],_=>rfl
|x::l,h=>by simp only[par];rw[h x (aF ..),IB λy a=>h y (ah _ a)];rfl
theorem Yu{l:a5 Pt}{p:Pt}(h:(∀c∈l,p.y<c.y)\/∀c∈l,c.y<p.y):F l p=false:=by refine IB λe d=>?_;obtain⟨b,a⟩:=nN d;rw[<- a8];simp only[bo,eU,aZ,decide_eq_true_eq];rcases h with h|h;have:=h _ b;have:=h _ a;lia;have:=h _ b;have:=h _ a;lia
theorem A9(g:Pt->Int):∀(l:a5 Pt),∃N:Int,0<N/\∀c∈l,g c<N/\- g c<N
|[]=>⟨1,#v[],#v[0]⟩
|a::l=>by obtain⟨N,d,h⟩:=A9 g l;refine⟨N+(g a).natAbs,#v[],λc b=>?_⟩;rcases aq.mp b with q|q;subst q;lia;have:=h c q;lia
theorem Gf(g:Pt->Int):∀(l:a5 Pt),l≠[]->∃m∈l,∀c∈l,g m<=g c
|[],h=>absurd rfl h
|[a],_=>⟨a,#v[0],#v[0]⟩
|a::b::l,_=>by obtain⟨m,f,h⟩:=Gf g (b::l) #v[0];by_cases k:g a<=g m;refine⟨a,#v[0],λc d=>?_⟩;rcases aq.mp d with q|q;subst q;lia;have:=h c q;lia;refine⟨m,ah _ f,λc d=>?_⟩;rcases aq.mp d with q|q;subst q;lia;exact h c q
def fn(α β:Int)(p:Pt):Int:=α*p.x+β*p.y
theorem W.fn{a b c d:Pt}{i j k l:Int}(h:W a b c d i j k l)(α β:Int):i*fn α β a+j*fn α β b=k*fn α β c+l*fn α β d:=by
 have x:=h.x;have y:=h.y;have q:∀(i j:Int)(a b:Pt),i*Sg.fn α β a+j*Sg.fn α β b=α*(i*a.x+j*b.x)+β*(i*a.y+j*b.y):=by intro i j a b;simp only[Sg.fn];grind
 rw[q,q,x,y]
theorem JU{α β:Int}{p q a b:Pt}{m:Int}(g:fn α β p<=m)(f:fn α β q<=m)(d:m<fn α β a)(c:m<fn α β b):meet p q a b=false:=by
 cases h:meet p q a b with
|false=>rfl
|true=>obtain⟨i,j,k,l,w⟩:=nV h;exact(qU w.hi w.hj w.hk w.hl w.e w.p (w.fn α β) m g f d c).elim
theorem Yt{l:a5 Pt}{p:Pt}(α β:Int)(h:∀c∈l,fn α β p<fn α β c):F l p=false:=by
 by_cases f:α=0;subst f;simp only[fn,fH,jE]at h;apply Yu;rcases dJ β 0 with b|b|b;right;intro c d;have:=h c d;rcases aK c.y p.y with q|q;exact q;have:=aE (show 0<=-β by lia) (show 0<=c.y-p.y by lia);grind;subst b;left;intro c d;have:=h c d;lia;left;intro c d;have:=h c d;rcases aK p.y c.y with q|q;exact q;have:=aE (show 0<=β by lia) (show 0<=p.y-c.y by lia);grind;obtain⟨N,n,i⟩:=A9 (λc=>c.y-p.y) l;obtain⟨t,ht⟩:∃t,N<=α*t:=by rcases aK α 0 with a|a;refine⟨-N,?_⟩;have:=aE (show 0<=-α-1 by lia) (show 0<=N by lia);grind;refine⟨N,?_⟩;have:=aE (show 0<=α-1 by lia) (show 0<=N by lia);grind
 have e:F l p=F l ⟨p.x-β*t,p.y+α*t⟩:=by refine NZ λe g=>?_;obtain⟨k,j⟩:=nN g;refine JU (α:=α) (β:=β) (m:=fn α β p) #v[] ?_ (h _ k) (h _ j);simp only[fn];grind
 rw[e];apply Yu;right;intro c d;have:=(i c d).1;show c.y<p.y+α*t;lia
theorem extreme{v y x:Pt}{C:a5 Pt}(S:Simp (v::y::C))(D:DH (v::y::C))(hl:(y::C).getLast? = some x)(α β:Int)(h:∀c∈y::C,fn α β v<fn α β c):oh (v::y::C)=decide (ag x v y<0)/\ag x v y≠0:=by
 have k:x∈y::C:=iS hl;have l:y∈y::C:=#v[0]
 have nd:=S.nd;simp only[bg]at nd;have E:x≠v:=by rintro rfl;exact nd.1 k
 have B:y≠v:=by rintro rfl;exact nd.1 l
 have z:v∈v::y::C:=#v[0]
 have u:x∈v::y::C:=ah _ k;have s:y∈v::y::C:=ah _ l;have A:x≠y:=by
  rintro rfl
  match C,S.len,hl,nd with
 |c::C,_,hl,nd=>
   have:x∈c::C:=by rw[gF]at hl;exact iS hl
   exact nd.2.1 this
 have o:x.y≠v.y:=λq=>E (D x u v z q);have n:y.y≠v.y:=λq=>B (D y s v z q);have I:=kM (v:=v) hl;have Y:(v,y)∈rg (v::y::C):=by rw[I];simp
 have X:(x,v)∈rg (v::y::C):=by rw[I];simp
 have r:NB v x y:=M6 o n (S.on x u _ Y E A) (S.on y s _ X (Ne.symm A) B);have J:ag x v y = - ag v x y:=by simp only[ag];grind
 have Z:ag v x y≠0:=by
  intro q;have Q:onSeg v x y=true:=by
   have N:ag x y v=0:=by simp only[ag]at q⊢;grind
   have M:ag y x v=0:=by simp only[ag]at q⊢;grind
   by_cases a:v.y<x.y;have b:¬v.y<y.y:=λb=>r ⟨q,#v[]⟩;rw[fT];exact bU M #v[] #v[] #v[];have b:v.y<y.y:=by rcases aK v.y y.y with b|b;exact b;exact absurd ⟨q,#v[]⟩ r
   exact bU N #v[] #v[] #v[]
  obtain⟨i,j,w⟩:=w_on Q;have g:=w.symm;exact qU g.hi g.hj g.hk g.hl g.e g.p (g.fn α β) (fn α β v) #v[] #v[] (h x k) (h y l)
 refine⟨?_,#v[]⟩;have H:fn α β ⟨2*v.x-x.x,2*v.y-x.y⟩=2*fn α β v-fn α β x:=by simp only[fn];grind
 have fx:=h x k;have W:F (v::y::C) ⟨2*v.x-x.x,2*v.y-x.y⟩=false:=Yt α β λc T=>by rw[H];rcases aq.mp T with q|q;subst q;lia;have:=h c q;lia
 have L:=NY (v:=v) (p:=⟨2*v.x-x.x,2*v.y-x.y⟩) hl (λe R=>by obtain⟨V,U⟩:=jt R;exact JU (α:=α) (β:=β) (m:=fn α β v) #v[] (by rw[H];lia) (h _ V) (h _ U)) (by show 2*v.y-x.y≠v.y;lia) o n
 rw[W]at L;rw[uQ hl];have P:ag v ⟨2*v.x-x.x,2*v.y-x.y⟩ x=0:=by simp only[ag];grind
 have O:ag v ⟨2*v.x-x.x,2*v.y-x.y⟩ y = - ag v x y:=by simp only[ag];grind
 have K:(G v ⟨2*v.x-x.x,2*v.y-x.y⟩ x ^^ G v ⟨2*v.x-x.x,2*v.y-x.y⟩ y ^^ ls v x y)=decide (ag x v y<0):=by
  unfold G ls;rw[P,O,J];by_cases a:v.y<x.y;have a1:¬v.y<2*v.y-x.y:=#v[]
  by_cases b:v.y<y.y;have f:¬y.y<v.y:=#v[]
  simp[a,a1,b,f];have f:y.y<v.y:=#v[]
  by_cases t:0<ag v x y;have d:¬ag v x y<0:=#v[]
  simp[a,a1,b,f,t,d];have d:ag v x y<0:=#v[]
  simp[a,a1,b,f,t,d];have a1:v.y<2*v.y-x.y:=#v[]
  by_cases b:v.y<y.y;have f:¬y.y<v.y:=#v[]
  by_cases t:0<ag v x y;have d:¬ag v x y<0:=#v[]
  simp[a,a1,b,f,t,d];have d:ag v x y<0:=#v[]
  simp[a,a1,b,f,t,d];have f:y.y<v.y:=#v[]
  by_cases t:0<ag v x y;have d:¬ag v x y<0:=#v[]
  simp[a,a1,b,f,t,d];have d:ag v x y<0:=#v[]
  simp[a,a1,b,f,t,d]
 rw[<- K];revert L;generalize G v ⟨2*v.x-x.x,2*v.y-x.y⟩ x=u1;generalize G v ⟨2*v.x-x.x,2*v.y-x.y⟩ y=u2;generalize F (v::y::C) v=u3;generalize ls v x y=u4;revert u1 u2 u3 u4;decide
theorem qx(a m c p:Pt):ag a m p+ag m c p+ag c a p=ag a m c:=by simp only[ag];grind
theorem GR(a m c p:Pt):ag a m c*p.x=ag c a p*m.x+ag m c p*a.x+ag a m p*c.x:=by simp only[ag];grind
theorem GQ(a m c p:Pt):ag a m c*p.y=ag c a p*m.y+ag m c p*a.y+ag a m p*c.y:=by simp only[ag];grind
theorem Yh{a m c e f:Pt}{T h o n b g d k l:Int}(E:0<T)(w:h+o+n=T)(s:b+g+d=T)(xe:T*e.x=n*m.x+o*a.x+h*c.x)(u:T*e.y=n*m.y+o*a.y+h*c.y)(v:T*f.x=d*m.x+g*a.x+b*c.x)(t:T*f.y=d*m.y+g*a.y+b*c.y)(hk:0<=k)(hl:0<=l)(F:0<k+l)(G:0<=k*h+l*b)(D:0<=k*n+l*d)(C:0<=d)(M:b<0)(L:(k*o+l*g)*b<=(k*h+l*b)*g):meet e f a m=true:=by
 generalize r:k*h+l*b=A at *;generalize q:k*o+l*g=Gm at *;generalize p:k*n+l*d=U at *;have x:A+Gm+U=(k+l)*T:=by
  have:A+Gm+U=k*(h+o+n)+l*(b+g+d):=by rw[<- r,<- q,<- p];grind
  rw[this,w,s];grind
 have B:=aE (show 0<=-b by lia) hk;have K:=aE (show 0<=-b by lia) hl;have J:=aE G C;have I:=aE (show 0<=-b by lia) D;have H:=br (show 0 < -b by lia) F;have cx:T*(-b*k)*e.x+T*(A + -b*l)*f.x=(A*g-b*Gm)*a.x+(A*d + -b*U)*m.x:=by
  have:T*(-b*k)*e.x+T*(A + -b*l)*f.x=(-b*k)*(T*e.x)+(A + -b*l)*(T*f.x):=by grind
  rw[this,xe,v,<- r,<- q,<- p];grind
 have cy:T*(-b*k)*e.y+T*(A + -b*l)*f.y=(A*g-b*Gm)*a.y+(A*d + -b*U)*m.y:=by
  have:T*(-b*k)*e.y+T*(A + -b*l)*f.y=(-b*k)*(T*e.y)+(A + -b*l)*(T*f.y):=by grind
  rw[this,u,t,<- r,<- q,<- p];grind
 have y:T*(-b*k)+T*(A + -b*l)=(A*g-b*Gm)+(A*d + -b*U):=by
  have:T*(-b*k)+T*(A + -b*l)=A*T-b*((k+l)*T):=by grind
  rw[this,<- x,<- s];grind
 have z:0<T*(-b*k)+T*(A + -b*l):=by
  have:T*(-b*k)+T*(A + -b*l)=T*(A + -b*(k+l)):=by grind
  rw[this];exact br E #v[]
 refine W.meet (i:=T*(-b*k)) (j:=T*(A + -b*l)) (k:=A*g-b*Gm) (l:=A*d + -b*U) ⟨?_,?_,?_,?_,y,z,cx,cy⟩;exact aE #v[] B;exact aE #v[] #v[];have:b*Gm=Gm*b:=As _ _;lia;lia
theorem exit{a m c e f:Pt}{k l:Int}(n:0<ag a m c)(hk:0<=k)(hl:0<=l)(x:0<k+l)(d:0<=k*ag a m e+l*ag a m f)(b:0<=k*ag m c e+l*ag m c f)(j:0<=k*ag c a e+l*ag c a f)(i:0<=ag c a f)(w:¬(0<=ag a m f/\0<=ag m c f)):
  (ag a m f<0/\meet e f a m=true)\/(ag m c f<0/\meet e f m c=true):=by
 have t:=qx a m c e;have s:=qx a m c f;have xe:=GR a m c e;have p:=GQ a m c e;have r:=GR a m c f;have o:=GQ a m c f;revert t s xe p r o d b j i w;generalize ag a m e=ae;generalize ag m c e=ge;generalize ag c a e=ue;generalize ag a m f=af;generalize ag m c f=gf;generalize ag c a f=uf;revert n;generalize ag a m c=T;intro n d b j i w t s xe p r o;have A:(af<0/\(k*ge+l*gf)*af<=(k*ae+l*af)*gf)\/(gf<0/\(k*ae+l*af)*gf<=(k*ge+l*gf)*af):=by
  by_cases y:af<0;by_cases v:gf<0;rcases mJ ((k*ge+l*gf)*af) ((k*ae+l*af)*gf) with q|q;exact .inl ⟨y,q⟩;exact .inr ⟨v,q⟩;left;refine⟨y,?_⟩;have u:=aE b (show 0<=-af by lia);have z:=aE d (show 0<=gf by lia);rw[eZ]at u;lia;have v:gf<0:=#v[]
  right;refine⟨v,?_⟩;have u:=aE d (show 0<=-gf by lia);have z:=aE b (show 0<=af by lia);rw[eZ]at u;lia
 rcases A with⟨h,g⟩|⟨h,g⟩;left;exact⟨h,Yh n t s xe p r o hk hl x d j i h g⟩;right;refine⟨h,?_⟩;rw[jT];exact Yh (a:=c) (c:=a) n #v[] #v[] #v[] #v[] #v[] #v[] hk hl x b j i h g
def TF(a m c z q:Pt):Prop:=¬(0<=ag a m q/\0<=ag m c q/\ag c a z<ag c a q)
theorem kH(a b c:Pt):ag b c a=ag a b c:=by simp only[ag];grind
theorem adj{a m c z e f:Pt}(n:0<ag a m c)(E:0<ag a m z)(D:0<ag m c z)(C:0<=ag c a z)(H:TF a m c z e)(G:TF a m c z f)(B:e≠a->f≠a->meet e f a m=false)(A:e≠c->f≠c->meet e f m c=false)(I:onSeg z e f=false)(J:onSeg m e f=false):meet m z e f=false:=by
 cases h:meet m z e f with
|false=>rfl
|true=>
  exfalso;obtain⟨i,j,k,l,w⟩:=nV h;have r:=w.Em a m;have p:=w.Em m c;have L:=w.Em c a;rw[jB,cF,jE]at r;rw[jC,cF,jE]at p;have F:ag c a m=ag a m c:=(kH c a m).symm;rw[F]at L;have hi:=w.hi;have hj:=w.hj;have hk:=w.hk;have hl:=w.hl;have K:=w.e;have M:=w.p;have sz:=qx a m c z;have u:0<j:=by rcases bX hj with q|q;exact q;exfalso;have:=(W.meet (a:=m) (b:=m) (c:=e) (d:=f) (i:=i) (j:=0) (k:=k) (l:=l) ⟨hi,#v[],hk,hl,#v[],#v[],by have:=w.x;rw[<- q]at this;lia,by have:=w.y;rw[<- q]at this;lia⟩);rw[<- nO,J]at this;exact aD this
  have v:0<i:=by rcases bX hi with q|q;exact q;exfalso;have:=(W.meet (a:=z) (b:=z) (c:=e) (d:=f) (i:=j) (j:=0) (k:=k) (l:=l) ⟨hj,#v[],hk,hl,#v[],#v[],by have:=w.x;rw[<- q]at this;lia,by have:=w.y;rw[<- q]at this;lia⟩);rw[<- nO,I]at this;exact aD this
  have T:=br u E;have S:=br u D;have R:=aE hj C;have Q:=br v n;have big:ag c a z<ag c a e\/ag c a z<ag c a f:=by
   rcases aK (ag c a z) (ag c a e) with q|q;exact .inl q;rcases aK (ag c a z) (ag c a f) with t|t;exact .inr t;exfalso;have P:=aE hk (show 0<=ag c a z-ag c a e by lia);have b2:=aE hl (show 0<=ag c a z-ag c a f by lia);have O:=br v (show 0<ag a m c-ag c a z by lia);have N:i*ag c a z+j*ag c a z=k*ag c a z+l*ag c a z:=by rw[<- vV,<- vV,K]
   grind
  have y:ag a m a=0:=jC a m;have x:ag m c c=0:=jB m c;rcases big with q|q;rcases exit (e:=f) (f:=e) (k:=l) (l:=k) n hl hk #v[] #v[] #v[] #v[] #v[] (λs=>H ⟨s.1,s.2,q⟩) with⟨o,g⟩|⟨o,g⟩;rw[ft,B (by rintro rfl;lia) (by rintro rfl;have:=aE hk (show 0<=- ag f m e by lia);rw[eZ]at this;rw[y,cF]at r;lia)]at g;exact aD g
  rw[ft,A (by rintro rfl;lia) (by rintro rfl;have:=aE hk (show 0<=- ag m f e by lia);rw[eZ]at this;rw[x,cF]at p;lia)]at g;exact aD g
  rcases exit (e:=e) (f:=f) (k:=k) (l:=l) n hk hl #v[] #v[] #v[] #v[] #v[] (λs=>G ⟨s.1,s.2,q⟩) with⟨o,g⟩|⟨o,g⟩;rw[B (by rintro rfl;have:=aE hl (show 0<=- ag e m f by lia);rw[eZ]at this;rw[y,cF]at r;lia) (by rintro rfl;lia)]at g;exact aD g
  rw[A (by rintro rfl;have:=aE hl (show 0<=- ag m e f by lia);rw[eZ]at this;rw[x,cF]at p;lia) (by rintro rfl;lia)]at g;exact aD g
theorem JL{a m c z q:Pt}(A:0<ag a m c)(t:0<ag a m z)(r:0<ag m c z)(f:TF a m c z q)(l:q≠z):onSeg q m z=false:=by
 cases h:onSeg q m z with
|false=>rfl
|true=>
  exfalso;obtain⟨i,j,w⟩:=w_on h;have p:=w.Em a m;have o:=w.Em m c;have n:=w.Em c a;have d:ag c a m=ag a m c:=(kH c a m).symm;rw[jB,cF,jE,fH,eV]at p;rw[jC,cF,jE,fH,eV]at o;rw[d,fH,eV]at n;have hi:=w.hi;have hj:=w.hj;have b:=w.p;have sz:=qx a m c z;have g:0<i:=by
   rcases bX hi with k|k;exact k;exfalso;apply l;have x:=w.x;have y:=w.y;rw[<- k]at x y b;apply fk;have:j*(q.x-z.x)=0:=by grind
   rcases bE.mp this with z|z<;>lia;have:j*(q.y-z.y)=0:=by grind
   rcases bE.mp this with z|z<;>lia
  have v:=aE hj (show 0<=ag a m z by lia);have n2:=aE hj (show 0<=ag m c z by lia);have u:=br g (show 0<ag a m c-ag c a z by lia);refine f ⟨?_,?_,?_⟩;rcases aK (ag a m q) 0 with s|s;have:=br b (show 0 < - ag a m q by lia);rw[eZ]at this;lia;exact s;rcases aK (ag m c q) 0 with s|s;have:=br b (show 0 < - ag m c q by lia);rw[eZ]at this;lia;exact s;rcases aK (ag c a z) (ag c a q) with s|s;exact s;have:=aE (show 0<=i+j by lia) (show 0<=ag c a z-ag c a q by lia);grind
theorem l8{m z:Pt}{A B:a5 Pt}{e:Pt×Pt}(h:e∈way (m::A++[z])):e∈rg (m::(A++z::B)):=by
 show e∈way (m::(A++z::B)++[m]);have:m::(A++z::B)++[m]=(m::A)++z::(B++[m]):=#v[0]
 rw[this,wk];exact eY _ h
theorem nM(m z:Pt)(A:a5 Pt):rg (m::A++[z])=way (m::A++[z])++[(z,m)]:=by
 show way (m::(A++[z])++[m])=_;have:m::(A++[z])++[m]=(m::A)++[z,m]:=#v[0]
 rw[this,rX]
theorem Simp.part{m z:Pt}{A B:a5 Pt}(S:Simp (m::(A++z::B)))(l:A≠[])(j:∀e∈rg (m::(A++z::B)),e.1≠m->e.1≠z->e.2≠m->e.2≠z->meet m z e.1 e.2=false)(n:∀w∈m::(A++z::B),w≠m->w≠z->onSeg w m z=false):Simp (m::A++[z]) where
 len:=by obtain⟨a,A,rfl⟩:=dY l;simp
 nd:=by have:=S.nd;refine this.sublist ?_;simp only[aU];refine List.Sublist.cons_cons _ (List.Sublist.append_left ?_ _);simp
 far:=by intro e b f c d n2 h g;rw[nM]at b c;rcases aI.mp b with b|b;have i:=l8 (B:=B) b;rcases aI.mp c with c|c;exact S.far e i f (l8 c) d n2 h g;rw[bA]at c;subst c;rw[meet_comm,ft];exact j e i n2 d g h;rw[bA]at b;subst b;rcases aI.mp c with c|c;rw[ft];exact j f (l8 c) (Ne.symm h) (Ne.symm d) (Ne.symm g) (Ne.symm n2);rw[bA]at c;subst c;exact absurd rfl d
 on:=by
  intro w k e b d n2;have hw':w∈m::(A++z::B):=by simp only[aU,aq,aI,bF,or_false]at k⊢;grind
  rw[nM]at b;rcases aI.mp b with b|b;exact S.on w hw' e (l8 b) d n2;rw[bA]at b;subst b;rw[fT];exact n w hw' n2 d
theorem yJ{m a c z:Pt}(d:0<ag m c z)(b:0<ag m z a)(f:0<ag m c a):(m.y<c.y->m.y<a.y->m.y<z.y)/\(c.y<m.y->a.y<m.y->z.y<m.y):=by
 have e:ag m c a*(z.y-m.y)=ag m z a*(c.y-m.y)+ag m c z*(a.y-m.y):=by simp only[ag];grind
 constructor;intro q r;have:=br b (show 0<c.y-m.y by lia);have:=br d (show 0<a.y-m.y by lia);rcases aK m.y z.y with s|s;exact s;have:=aE (show 0<=ag m c a by lia) (show 0<=m.y-z.y by lia);grind;intro q r;have:=br b (show 0<m.y-c.y by lia);have:=br d (show 0<m.y-a.y by lia);rcases aK z.y m.y with s|s;exact s;have:=aE (show 0<=ag m c a by lia) (show 0<=z.y-m.y by lia);grind
theorem mT(a b c:Pt):ag a c b = - ag a b c:=by simp only[ag];grind
theorem PB{m a c z:Pt}(l:0<ag m c z)(f:0<ag m z a)(k:0<ag m c a)(r:a.y≠m.y)(p:c.y≠m.y)(o:z.y≠m.y):
  (G m z a ^^ G m z c ^^ ls m a c)=true:=by
 obtain⟨n,b2⟩:=yJ l f k;unfold G ls;rw[mT m c a,mT m c z];have j:¬ag m z a<0:=#v[]
 have n2:- ag m c z<0:=#v[]
 have i:¬0 < - ag m c a:=#v[]
 have h:¬0 < - ag m c z:=#v[]
 simp only[j,n2,i,h,f];by_cases b:m.y<z.y;by_cases g:m.y<c.y;have:¬c.y<m.y:=#v[]
 by_cases a1:m.y<a.y<;>simp[b,g,a1,this];have d:c.y<m.y:=#v[]
 have a1:m.y<a.y:=by rcases aK m.y a.y with q|q;exact q;have:=b2 d #v[];lia
 simp[b,g,d,a1];by_cases a1:m.y<a.y;have d:c.y<m.y:=by rcases aK c.y m.y with q|q;exact q;have:=n #v[] a1;lia
 have a2:¬a.y<m.y:=#v[]
 simp[b,d,a1,a2];have a2:a.y<m.y:=#v[]
 simp[b,a1,a2]
theorem K6{m a c z:Pt}(o:0<ag m c z)(n:0<ag m z a)(l:0<ag m c a)(s:a.y≠m.y)(r:c.y≠m.y)(q:z.y≠m.y):
  (G m a z ^^ G m a c ^^ ls m z c)=false:=by
 obtain⟨p,b2⟩:=yJ o n l;unfold G ls;rw[mT m c a,mT m c z,mT m z a];have k:- ag m z a<0:=#v[]
 have n2:- ag m c a<0:=#v[]
 have j:¬0 < - ag m c a:=#v[]
 have i:¬0 < - ag m c z:=#v[]
 have h:¬0 < - ag m z a:=#v[]
 simp only[k,n2,j,i,h];by_cases a1:m.y<a.y;by_cases d:m.y<c.y;have b:=p d a1;have:¬c.y<m.y:=#v[]
 simp[b,d,a1,this];have f:c.y<m.y:=#v[]
 by_cases b:m.y<z.y<;>simp[b,d,f,a1];have a2:a.y<m.y:=#v[]
 by_cases d:m.y<c.y;have:¬c.y<m.y:=#v[]
 by_cases b:m.y<z.y<;>simp[b,d,a1,this];have f:c.y<m.y:=#v[]
 have g:=b2 f a2;have b:¬m.y<z.y:=#v[]
 simp[b,g,d,f,a1]
theorem ID{m a c z:Pt}(g:0<ag m c z)(k:0<ag m z a)(f:0<ag m c a)(q:a.y≠m.y)(p:c.y≠m.y)(o:z.y≠m.y):
  (G m c a ^^ G m c z ^^ ls m a z)=false:=by
 obtain⟨n,b2⟩:=yJ g k f;unfold G ls;rw[mT m z a];have j:¬ag m c a<0:=#v[]
 have n2:¬ag m c z<0:=#v[]
 have i:¬0 < - ag m z a:=#v[]
 simp only[j,n2,i,g,f];by_cases b:m.y<c.y;by_cases a1:m.y<a.y;have d:=n b a1;have:¬z.y<m.y:=#v[]
 simp[d,b,a1,this];simp[b,a1];have l:c.y<m.y:=#v[]
 by_cases a1:m.y<a.y;have a2:¬a.y<m.y:=#v[]
 by_cases d:m.y<z.y;have:¬z.y<m.y:=#v[]
 simp[d,b,a1,a2,this];have:z.y<m.y:=#v[]
 simp[d,b,a1,a2,this];have a2:a.y<m.y:=#v[]
 have h:=b2 l a2;simp[b,a1,a2,h]
theorem tP:∀(A:a5 Pt)(a b:Pt)(B:a5 Pt),(a,b)∈way (A++a::b::B)
|[],a,b,B=>by simp[way]
|[x],a,b,B=>by simp[way]
|x::y::A,a,b,B=>by have:=tP (y::A) a b B;simp only[aU,way]at this⊢;exact ah _ this
theorem Q9{A B:a5 Pt}{e:Pt×Pt}(h:e∈way A):e∈way (A++B):=by
 match B with
|[]=>simpa using h
|b::B=>rcases iy A with q|⟨a,x,q⟩;subst q;simp[way]at h;subst q;rw[iz]at h⊢;rw[dj];show e∈way (a++x::([]++b::B));rw[wk];exact eY _ h
theorem vh{l D:a5 Pt}{e:Pt×Pt}(h:e∈way l):e∈rg (l++D):=by
 match l with
|[]=>simp[way]at h
|a::l=>
  show e∈way (a::(l++D)++[a]);have:a::(l++D)++[a]=(a::l)++(D++[a]):=#v[0]
  rw[this];exact Q9 h
theorem Vw{l D:a5 Pt}{e:Pt×Pt}(h:e∈way D):e∈rg (l++D):=o9.mp (vh (D:=l) h)
theorem xR{g:Pt->Bool}:∀{l:a5 Pt}{a:Pt},(∀e∈way (a::l),g e.1=g e.2)->∀p∈a::l,g p=g a
|[],a,_,p,c=>by simp at c;rw[c]
|b::l,a,h,p,c=>by have f:=h (a,b) (by simp[way]);rcases aq.mp c with q|q;rw[q];rw[xR (λe d=>h e (by simp only[way];exact ah _ d)) p q];exact f.symm
theorem KA{g:Pt->Bool}{l:a5 Pt}(h:∀e∈way l,g e.1=g e.2){p q:Pt}(b:p∈l)(c:q∈l):g p=g q:=by
 match l with
|[]=>simp at b
|a::l=>rw[xR h p b,xR h q c]
theorem outside{u w:Pt}{X D:a5 Pt}(S:Simp (u::(X++w::D)))(t:X≠[])(r:∀e∈rg (u::(X++w::D)),e.1≠u->e.1≠w->e.2≠u->e.2≠w->meet u w e.1 e.2=false)(o:∀q∈u::(X++w::D),q≠u->q≠w->onSeg q u w=false){d0:Pt}(hd:d0∈D)(v:F (u::X++[w]) d0=false):
  Simp (u::X++[w])/\∀d∈D,F (u::X++[w]) d=false/\∀e∈rg (u::X++[w]),onSeg d e.1 e.2=false:=by
 have y:=S.part t r o;refine⟨y,λd c=>?_⟩;have nd:=S.nd;have j:u::(X++w::D)=(u::X++[w])++D:=#v[0]
 have b:∀p∈u::X++[w],∀q∈D,p≠q:=by rw[j]at nd;exact(eC.mp nd).2.2
 have i:u∈u::X++[w]:=#v[0]
 have h:w∈u::X++[w]:=#v[0]
 have k:∀q∈D,q∈u::(X++w::D):=λq s=>by rw[j];exact bI _ s
 have x:F (u::X++[w]) d=F (u::X++[w]) d0:=by
  refine KA (l:=D) (λe n=>?_) c hd;obtain⟨m1,m2⟩:=jt n;have m:e∈rg (u::(X++w::D)):=by rw[j];exact Vw n
  refine NZ λf a=>?_;rw[nM]at a;rcases aI.mp a with a|a;obtain⟨g,n2⟩:=jt a;exact S.far e m f (l8 a) (b _ g _ m1).symm (b _ n2 _ m1).symm (b _ g _ m2).symm (b _ n2 _ m2).symm;rw[bA]at a;subst a;rw[meet_comm,ft];exact r e m (b _ i _ m1).symm (b _ h _ m1).symm (b _ i _ m2).symm (b _ h _ m2).symm
 refine⟨by rw[x,v],λf a=>?_⟩;rw[nM]at a;rcases aI.mp a with a|a;obtain⟨g,n2⟩:=jt a;exact S.on d (k d c) f (l8 a) (b _ g _ c).symm (b _ n2 _ c).symm;rw[bA]at a;subst a;rw[fT];exact o d (k d c) (b _ i _ c).symm (b _ h _ c).symm
theorem LI{C:a5 Pt}(S:Simp C)(D:DH C){p q:Pt}(s:p∈C)(E:q∈C)(F:p≠q):
  ∃m∈C,m≠p/\m≠q/\∃α β,∀r∈C,r≠m->fn α β m<fn α β r:=by
 have ne:C≠[]:=by rintro rfl;simp at s
 obtain⟨b,hp1,f1⟩:∃b∈C,ag q p b≠0:=by
  apply oJ;intro u;have no':∀r∈C,ag q p r=0:=λr d=>oJ λh=>u ⟨r,d,h⟩;obtain⟨v,o,low⟩:=Gf (λc=>c.y) C ne;obtain⟨U,V,rfl⟩:=iu o;have f:Simp (v::(V++U)):=Simp.AG (A:=U) (B:=v::V) S;have l:DH (v::(V++U)):=DH.AG (A:=U) (B:=v::V) D;have mem:∀c,c∈V++U->c∈U++v::V:=by intro c g;simp only[aI,aq]at g⊢;grind
  revert f l mem
  match V++U with
 |[]=>intro f;have:=f.len;simp at this
 |y::K=>
   intro f l mem;obtain⟨x,w,t⟩:=AM y K;have nd:=f.nd;simp only[bg]at nd;have:=(extreme f l w 0 1 (λc g=>by have l1:=low c (mem c g);have:c.y≠v.y:=λe=>nd.1 ((l c (ah _ g) v #v[0] e)▸g);simp only[fn];lia)).2
   apply this;have M:=no' v o;have L:=no' x (mem x t);have J:=no' y (mem y #v[0]);have dx:(p.x-q.x)*ag x v y=0:=by simp only[ag]at *;grind
   have H:(p.y-q.y)*ag x v y=0:=by simp only[ag]at *;grind
   rcases bE.mp dx with z|z;rcases bE.mp H with n|n;exact absurd (fk #v[] #v[]) F;exact n;exact z
 obtain⟨N,O,j⟩:=A9 (λc=>c.y) C;obtain⟨a,hσ,s1⟩:∃a:Int,(a=1\/a = -1)/\0<a*ag q p b:=by rcases yT f1 with h|h;exact⟨-1,.inr rfl,#v[]⟩;exact⟨1,.inl rfl,#v[]⟩
 have key:∀r:Pt,fn ((2*N+1)*(a*(p.y-q.y))) ((2*N+1)*(- (a*(p.x-q.x)))+1) r=r.y-(2*N+1)*(a*ag q p r)-(2*N+1)*(a*((p.x-q.x)*q.y-(p.y-q.y)*q.x)):=by intro r;simp only[fn,ag];grind
 obtain⟨m,i,low⟩:=Gf (fn ((2*N+1)*(a*(p.y-q.y))) ((2*N+1)*(- (a*(p.x-q.x)))+1)) C ne;have big:∀r∈C,ag q p r=0->m≠r:=by intro r d hz e;subst e;have:=low b hp1;rw[key,key,hz]at this;have I:=j b hp1;have b2:=j m i;have:=aE (show 0<=2*N+1 by lia) (show 0<=a*ag q p b-1 by lia);grind
 refine⟨m,i,big p s (jB q p),big q E (jC q p),(2*N+1)*(a*(p.y-q.y)),(2*N+1)*(- (a*(p.x-q.x)))+1,λr d G=>?_⟩;have l1:=low r d;rcases bX l1 with h|h;exact h;exfalso;rw[key,key]at h;have I:=j r d;have b2:=j m i;have e:m.y-r.y=(2*N+1)*(a*ag q p m-a*ag q p r):=by grind
 have z:a*ag q p m-a*ag q p r=0:=by rcases dJ (a*ag q p m-a*ag q p r) 0 with k|k|k;have:=aE (show 0<=2*N+1 by lia) (show 0<=- (a*ag q p m-a*ag q p r)-1 by lia);grind;exact k;have:=aE (show 0<=2*N+1 by lia) (show 0<=(a*ag q p m-a*ag q p r)-1 by lia);grind
 rw[z,cF]at e;exact G (D r d m i #v[])
def Qg(P:a5 Pt)(a m c:Pt):Prop:=0<ag a m c/\∀p∈P,p≠a->p≠m->p≠c->¬(0<=ag a m p/\0<=ag m c p/\0<=ag c a p)
theorem acC{a m c z:Pt}(g:0<ag a m c)(f:ag a m z=0)(d:0<=ag m c z)(b:0<=ag c a z):onSeg z a m=true:=by have s:=qx a m c z;have x:=GR a m c z;have y:=GQ a m c z;rw[f]at x y s;rw[nO];exact W.meet (i:=ag a m c) (j:=0) (k:=ag m c z) (l:=ag c a z) ⟨#v[],#v[],d,b,#v[],#v[],#v[],#v[]⟩
theorem acB{a m c z:Pt}(g:0<ag a m c)(f:ag m c z=0)(d:0<=ag a m z)(b:0<=ag c a z):onSeg z m c=true:=by have s:=qx a m c z;have x:=GR a m c z;have y:=GQ a m c z;rw[f]at x y s;rw[nO];exact W.meet (i:=ag a m c) (j:=0) (k:=ag c a z) (l:=ag a m z) ⟨#v[],#v[],b,d,#v[],#v[],#v[],#v[]⟩
theorem Ln{A B:a5 Pt}{a m c x:Pt}(b:x∈m::c::(B++(A++[a]))):x∈A++a::m::c::B:=by simp only[aq,aI,bF,or_false]at b⊢;grind
theorem aaq{f b B:a5 Pt}{a m c z q:Pt}(d:q∈m::z::(b++[a])):q∈(f++z::b)++a::m::c::B:=by simp only[aq,aI,bF,or_false]at d⊢;grind
theorem aao{A B1 B2:a5 Pt}{a m c z q:Pt}(b:q∈m::c::(B1++[z])):q∈A++a::m::c::(B1++z::B2):=by simp only[aq,aI,bF,or_false]at b⊢;grind
theorem aap{A B:a5 Pt}{a m c z:Pt}(b:z∈A++a::m::c::B)(g:z≠a)(f:z≠m)(d:z≠c):z∈A\/z∈B:=by simp only[aI,aq]at b;grind
def Pk(C D:a5 Pt):Prop:=∃A a m c B,C=A++a::m::c::B/\Qg (C++D) a m c
theorem KZ:∀(n:Nat)(C D:a5 Pt),C.length<=n->Simp (C++D)->DH (C++D)->Simp C->oh C=false →
  (∀d∈D,F C d=false/\∀e∈rg C,onSeg d e.1 e.2=false)->Pk C D
|0,C,D,hn,_,_,S,_,_=>by have:=S.len;lia
|n+1,C,D,hn,SP,DP,S,O,HD=>by
  have Q:DH C:=DP.sub λa ha=>eY _ ha;obtain⟨A,a,m,c,B,hC,α,β,I⟩:∃A a m c B,C=A++a::m::c::B/\∃α β,∀r∈C,r≠m->fn α β m<fn α β r:=by
   match C,S,Q with
  |[],S,_=>have:=S.len;simp at this
  |[_],S,_=>have:=S.len;simp at this
  |p::y::K,S,Q=>
    obtain⟨q,f,qm⟩:=AM y K;have bE:p≠q:=λe=>(bg.mp S.nd).1 (e▸qm);obtain⟨m,hm,m1,m2,α,β,I⟩:=LI S Q #v[0] (ah _ qm) bE;obtain⟨U,V,aw⟩:=iu hm;rcases iy U with e|⟨A,a,e⟩;subst e;rw[fQ]at aw;injection aw with h _;exact absurd h.symm m1
    match V with
   |[]=>
     exfalso;apply m2;have:(p::y::K).getLast? = some q:=by rw[gF];exact f
     rw[aw,cz]at this;exact aH this
   |c::B=>refine⟨A,a,m,c,B,?_,α,β,I⟩;rw[aw,e,iz];simp
  have w:C=(A++[a])++(m::c::B):=by rw[hC];simp
  have au:Simp (m::c::(B++(A++[a]))):=by rw[w]at S;simpa using S.AG
  have rE:∀e,e∈rg (m::c::(B++(A++[a])))↔e∈rg C:=by intro e;rw[w];exact o9 (A:=A++[a]) (B:=m::c::B)
  have rF:∀p,F (m::c::(B++(A++[a]))) p=F C p:=by intro p;rw[w];exact J2 (A++[a]) (m::c::B) p
  have rD:DH (m::c::(B++(A++[a]))):=Q.sub λx I=>hC▸Ln I;have rO:oh (m::c::(B++(A++[a])))=false:=by have:=vF (A++[a]) (m::c::B) (by rw[<- w];exact S) (by rw[<- w];exact Q);rw[<- w,O]at this;exact this
  have hl:(c::(B++(A++[a]))).getLast? = some a:=by
   have:c::(B++(A++[a]))=(c::B++A)++[a]:=#v[0]
   rw[this];exact cz
  have mC:m∈C:=by rw[w];exact bI _ (aF ..)
  have aC:a∈C:=by rw[hC];exact bI _ (aF ..)
  have cC:c∈C:=by rw[w];exact bI _ (ah _ (aF ..))
  have aJ:=(bg.mp au.nd).1;have bH:m≠a:=λe=>aJ (by rw[e];exact iS hl);have bG:m≠c:=λe=>aJ (e▸aF ..);have Z:∀q∈C,q∈C++D:=λq f=>eY _ f;have hh:∀q∈C++D,q≠m->q.y≠m.y:=λq f aQ e=>aQ (DP q f m (Z m mC) e);obtain⟨o1,o2⟩:=extreme au rD hl α β (λr E=>I r (hC▸Ln (ah _ E)) (λe=>aJ (e▸E)));rw[rO]at o1;have hT:0<ag a m c:=by
   have:¬ag a m c<0:=by intro q;rw[decide_eq_true q]at o1;exact aD o1
   lia
  by_cases ear:∀p∈C++D,p≠a->p≠m->p≠c->¬(0<=ag a m p/\0<=ag m c p/\0<=ag c a p);exact⟨A,a,m,c,B,hC,hT,ear⟩;obtain⟨z,hz,⟨z1,z2,z3⟩,⟨za,zc,zu⟩,zmax⟩:∃z∈C++D,(z≠a/\z≠m/\z≠c)/\(0<=ag a m z/\0<=ag m c z/\0<=ag c a z) ∧
    ∀q∈C++D,q≠a->q≠m->q≠c->0<=ag a m q->0<=ag m c q->0<=ag c a q->ag c a q<=ag c a z:=by
   obtain⟨z0,k⟩:=Classical.not_forall.mp ear;simp only[Classical.not_imp,Classical.not_not]at k;obtain⟨k0,k1,k2,k3,k4⟩:=k;let P:Pt->Bool:=λq=>decide (q≠a)&&(decide (q≠m)&&(decide (q≠c)&&(decide (0<=ag a m q)&&(decide (0<=ag m c q)&&decide (0<=ag c a q)))));have Pi:∀q,P q=true↔(q≠a/\q≠m/\q≠c)/\0<=ag a m q/\0<=ag m c q/\0<=ag c a q:=by intro q;simp only[P,aZ,decide_eq_true_eq,and_assoc]
   have bf:z0∈(C++D).filter P:=eR.mpr ⟨k0,(Pi z0).mpr ⟨⟨k1,k2,k3⟩,k4⟩⟩;obtain⟨z,hz,bF⟩:=Gf (λq=>- ag c a q) _ (xK bf);obtain⟨bC,bB⟩:=eR.mp hz;obtain⟨p1,p2⟩:=(Pi z).mp bB;refine⟨z,bC,p1,p2,λq f h1 h2 h3 h4 h5 h6=>?_⟩;have:=bF q (eR.mpr ⟨f,(Pi q).mpr ⟨⟨h1,h2,h3⟩,h4,h5,h6⟩⟩);lia
  have a9:(a,m)∈way C:=by rw[hC];exact tP A a m (c::B)
  have a7:(m,c)∈way C:=by rw[w];exact tP (A++[a]) m c B
  have az:(a,m)∈rg (C++D):=vh a9;have av:(m,c)∈rg (C++D):=vh a7;have bU:(a,m)∈rg C:=by have:=vh (D:=[]) a9;simpa using this
  have bt:(m,c)∈rg C:=by have:=vh (D:=[]) a7;simpa using this
  have za':0<ag a m z:=by rcases bX za with q|q;exact q;have:=SP.on z hz (a,m) az z1 z2;rw[acC hT q.symm zc zu]at this;exact aD this
  have zc':0<ag m c z:=by rcases bX zc with q|q;exact q;have:=SP.on z hz (m,c) av z2 z3;rw[acB hT q.symm za zu]at this;exact aD this
  have tf:∀q∈C++D,q≠m->TF a m c z q:=by rintro q f aQ ⟨t1,t2,Y⟩;by_cases qa:q=a;rw[qa,jB]at Y;lia;by_cases qc:q=c;rw[qc,jC]at Y;lia;have:=zmax q f qa aQ qc t1 t2 #v[];lia
  have clear:∀R:a5 Pt,Simp R->(∀q∈R,q∈C++D)->m∈R->(a,m)∈rg R->(m,c)∈rg R->∀e∈rg R,e.1≠m->e.2≠m->onSeg z e.1 e.2=false->meet m z e.1 e.2=false:=by
   intro R SR sub mR bT bs e i j n2 oz;obtain⟨r1,r2⟩:=nN i;exact adj hT za' zc' zu (tf _ (sub _ r1) j) (tf _ (sub _ r2) n2)
    (λq1 q2=>SR.far e i (a,m) bT q1 j q2 n2) (λq1 q2=>SR.far e i (m,c) bs j q1 n2 q2)
    oz (SR.on m mR e i (Ne.symm j) (Ne.symm n2))
  have t1:0<ag m c z:=zc';have t2:0<ag m z a:=by have:=kH a m z;lia
  have Y:0<ag m c a:=by have:=kH a m c;lia
  have X:=hh a (Z a aC) (Ne.symm bH);have W:=hh c (Z c cC) (Ne.symm bG);have T:=hh z hz z2;rcases aI.mp hz with zC|zD;have bd:z∈A\/z∈B:=aap (hC▸zC) z1 z2 z3;rcases bd with zA|zB;obtain⟨g,b,hA⟩:=iu zA;have u:(z::((b++[a])++m::(c::(B++(D++g)))))=((z::b++a::m::c::B)++D)++g:=#v[0]
  have t:C++D=g++((z::b++a::m::c::B)++D):=by rw[hC,hA];simp
  have SP':Simp (z::((b++[a])++m::(c::(B++(D++g))))):=by rw[u];rw[t]at SP;exact SP.AG
  have DP':DH (z::((b++[a])++m::(c::(B++(D++g))))):=by rw[u];rw[t]at DP;exact DP.AG
  have aj:∀q,q∈(z::((b++[a])++m::(c::(B++(D++g)))))↔q∈C++D:=by intro q;rw[u,t,aI,aI (s:=g)];exact Or.comm
  have af:∀e,e∈rg (z::((b++[a])++m::(c::(B++(D++g)))))↔e∈rg (C++D):=by intro e;rw[u,t];exact o9
  have bD:F (z::(b++[a])++[m]) c=F (m::z::(b++[a])) c:=J2 [m] (z::(b++[a])) c;have c1:∀e∈rg (z::((b++[a])++m::(c::(B++(D++g))))),e.1≠z->e.1≠m->e.2≠z->e.2≠m->meet z m e.1 e.2=false:=by intro e i j n2 n3 n4;rw[ft];have al:=(af e).mp i;exact clear _ SP (λq f=>f) (Z m mC) az av e al n2 n4 (SP.on z hz e al (Ne.symm j) (Ne.symm n3))
  have c2:∀q∈z::((b++[a])++m::(c::(B++(D++g)))),q≠z->q≠m->onSeg q z m=false:=by intro q f j n2;rw[fT];exact JL hT za' zc' (tf q ((aj q).mp f) n2) j
  have S':=SP'.part #v[0] c1 c2;have Sr:Simp (m::z::(b++[a])):=Simp.AG (A:=z::(b++[a])) (B:=[m]) S';have ae:∀q∈m::z::(b++[a]),q∈C:=by intro q f;rw[hC,hA];exact aaq f
  have Dr:DH (m::z::(b++[a])):=Q.sub ae;have J:(z::(b++[a])).getLast? = some a:=by rw[<- aU];exact cz
  obtain⟨o3,o4⟩:=extreme Sr Dr J α β (λr E=>I r (ae r (ah _ E)) (λe=>(bg.mp Sr.nd).1 (e▸E)));have H:oh (m::z::(b++[a]))=false:=by rw[o3];exact decide_eq_false #v[]
  have O':oh (z::(b++[a])++[m])=false:=by rw[<- H];exact vF [m] (z::(b++[a])) Sr Dr
  have f0:F (m::z::(b++[a])) c=false:=by
   have L:=NY (v:=m) (p:=c) J (λe i=>by
    obtain⟨o,l⟩:=jt i;have an:(z::((b++[a])++m::(c::(B++(D++g)))))=(z::(b++[a]))++(m::(c::(B++(D++g)))):=#v[0]
    have aS:e∈rg (z::((b++[a])++m::(c::(B++(D++g))))):=by rw[an];exact vh i
    have ai:=SP'.nd;rw[an]at ai;have N:=(eC.mp ai).2.2;exact SP.far (m,c) av e ((af e).mp aS) (N _ o m #v[0]).symm (N _ l m #v[0]).symm (N _ o c #v[0]).symm (N _ l c #v[0]).symm) W X T
   rw[uQ J]at H;have K:=ID t1 t2 Y X W T;rw[L];revert H K;generalize G m c a=u1;generalize G m c z=u2;generalize ls m a z=u3;generalize F (m::z::(b++[a])) m=u4;revert u1 u2 u3 u4;decide
  obtain⟨_,a0⟩:=outside SP' #v[0] c1 c2 (d0:=c) #v[0] (by rw[bD];exact f0);have M:(z::((b++[a])++m::(c::(B++(D++g)))))=(z::(b++[a])++[m])++(c::(B++(D++g))):=#v[0]
  obtain⟨A',a',m',c',B',aT,ao⟩:=KZ n (z::(b++[a])++[m]) (c::(B++(D++g))) (by rw[hC,hA]at hn;simp only[aP,aL,de]at hn⊢;lia) (by rw[<- M];exact SP') (by rw[<- M];exact DP') S' O' a0
  refine⟨g++A',a',m',c',B'++(c::B),?_,ao.1,λp hp=>ao.2 p (by rw[<- M];exact(aj p).mpr hp)⟩;have:C=g++(z::(b++[a])++[m])++(c::B):=by rw[hC,hA];simp
  rw[this,aT];simp;obtain⟨B1,B2,hB⟩:=iu zB;have u:(m::((c::B1)++z::(B2++(D++(A++[a])))))=((m::c::(B1++z::B2))++D)++(A++[a]):=#v[0]
  have t:C++D=(A++[a])++((m::c::(B1++z::B2))++D):=by rw[hC,hB];simp
  have SP':Simp (m::((c::B1)++z::(B2++(D++(A++[a]))))):=by rw[u];rw[t]at SP;exact SP.AG
  have DP':DH (m::((c::B1)++z::(B2++(D++(A++[a]))))):=by rw[u];rw[t]at DP;exact DP.AG
  have aj:∀q,q∈(m::((c::B1)++z::(B2++(D++(A++[a])))))↔q∈C++D:=by intro q;rw[u,t,aI,aI (s:=A++[a])];exact Or.comm
  have af:∀e,e∈rg (m::((c::B1)++z::(B2++(D++(A++[a])))))↔e∈rg (C++D):=by intro e;rw[u,t];exact o9
  have c1:∀e∈rg (m::((c::B1)++z::(B2++(D++(A++[a]))))),e.1≠m->e.1≠z->e.2≠m->e.2≠z->meet m z e.1 e.2=false:=by intro e i j n2 n3 n4;have al:=(af e).mp i;exact clear _ SP (λq f=>f) (Z m mC) az av e al j n3 (SP.on z hz e al (Ne.symm n2) (Ne.symm n4))
  have c2:∀q∈m::((c::B1)++z::(B2++(D++(A++[a])))),q≠m->q≠z->onSeg q m z=false:=by intro q f j n2;exact JL hT za' zc' (tf q ((aj q).mp f) j) n2
  have S':Simp (m::(c::B1)++[z]):=SP'.part #v[0] c1 c2;have S'':Simp (m::c::(B1++[z])):=S';have ae:∀q∈m::c::(B1++[z]),q∈C:=by intro q f;rw[hC,hB];exact aao f
  have Dr:DH (m::c::(B1++[z])):=Q.sub ae;have J:(c::(B1++[z])).getLast? = some z:=by rw[<- aU];exact cz
  obtain⟨o3,o4⟩:=extreme S'' Dr J α β (λr E=>I r (ae r (ah _ E)) (λe=>(bg.mp S''.nd).1 (e▸E)));have H:oh (m::c::(B1++[z]))=false:=by rw[o3];exact decide_eq_false (by have:=kH z m c;lia)
  have f0:F (m::c::(B1++[z])) a=false:=by
   have L:=NY (v:=m) (p:=a) J (λe i=>by
    obtain⟨o,l⟩:=jt i;have an:(m::((c::B1)++z::(B2++(D++(A++[a])))))=(m::(c::(B1++[z])))++((B2++(D++(A++[a])))):=#v[0]
    have aS:e∈rg (m::((c::B1)++z::(B2++(D++(A++[a]))))):=by rw[an];exact vh (ah _ i)
    have ai:=SP'.nd;rw[an]at ai;have N:=(eC.mp ai).2.2;have q3:m≠e.1:=by intro q;rw[<- q]at o;exact(bg.mp S''.nd).1 o
    have q4:m≠e.2:=by intro q;rw[<- q]at l;exact(bg.mp S''.nd).1 l
    rw[ft];exact SP.far (a,m) az e ((af e).mp aS) (N _ (ah _ o) a #v[0]).symm (N _ (ah _ l) a #v[0]).symm q3 q4) X T W
   rw[uQ J]at H;have K:=K6 t1 t2 Y X W T;rw[L];revert H K;generalize G m a z=u1;generalize G m a c=u2;generalize ls m z c=u3;generalize F (m::c::(B1++[z])) m=u4;revert u1 u2 u3 u4;decide
  obtain⟨_,a0⟩:=outside SP' #v[0] c1 c2 (d0:=a) #v[0] f0;have M:(m::((c::B1)++z::(B2++(D++(A++[a])))))=(m::(c::B1)++[z])++(B2++(D++(A++[a]))):=#v[0]
  obtain⟨A',a',m',c',B',aT,ao⟩:=KZ n (m::(c::B1)++[z]) (B2++(D++(A++[a]))) (by rw[hC,hB]at hn;simp only[aP,aL,de]at hn⊢;lia) (by rw[<- M];exact SP') (by rw[<- M];exact DP') S' H a0
  refine⟨(A++[a])++A',a',m',c',B'++B2,?_,ao.1,λp hp=>ao.2 p (by rw[<- M];exact(aj p).mpr hp)⟩;have:C=(A++[a])++(m::(c::B1)++[z])++B2:=by rw[hC,hB];simp
  rw[this,aT];simp;exfalso;obtain⟨f0,of⟩:=HD z zD;have L:=NY (v:=m) (p:=z) hl (λe i=>by
   have bK:e∈rg (m::c::(B++(A++[a]))):=by rw[kM hl];simp[i]
   have a8:=(rE e).mp bK;obtain⟨o,l⟩:=jt i;refine clear _ S Z mC bU bt e a8 ?_ ?_ (of e a8);intro q;rw[q]at o;exact(bg.mp au.nd).1 o;intro q;rw[q]at l;exact(bg.mp au.nd).1 l) T X W
  rw[rF,f0]at L;rw[uQ hl]at rO;have K:=PB t1 t2 Y X W T;revert L rO K;generalize G m z a=u1;generalize G m z c=u2;generalize ls m a c=u3;generalize F (m::c::(B++(A++[a]))) m=u4;revert u1 u2 u3 u4;decide
theorem Tj{P:a5 Pt}(S:Simp P)(D:DH P)(O:oh P=false):∃A a m c B,P=A++a::m::c::B/\Qg P a m c:=by obtain⟨A,a,m,c,B,h,e⟩:=KZ P.length P [] (aS _) #v[S] #v[D] S O #v[0];exact⟨A,a,m,c,B,h,by simpa using e⟩
theorem jQ{m c a:Pt}{K:a5 Pt}{e:Pt×Pt}(h:e∈way (c::(K++[a]))):e∈rg (m::c::(K++[a])):=by
 have hl:(c::(K++[a])).getLast? = some a:=by rw[<- aU];exact cz
 rw[kM hl];simp[h]
theorem Co{m c a:Pt}{K:a5 Pt}(S:Simp (m::c::(K++[a])))(E:Qg (m::c::(K++[a])) a m c)(X:K≠[]):Simp (c::(K++[a])):=by
 have nd:=S.nd;obtain⟨u,U⟩:=bg.mp nd;have hl:(c::(K++[a])).getLast? = some a:=by rw[<- aU];exact cz
 have R:(a,m)∈rg (m::c::(K++[a])):=by rw[kM hl];simp
 have J:(m,c)∈rg (m::c::(K++[a])):=by rw[kM hl];simp
 obtain⟨N,y⟩:=E;have I:ag c a c=0:=jC c a;have H:ag c a a=0:=jB c a;have T:ag a m a=0:=jC a m;have P:ag m c c=0:=jB m c;have O:ag m c a=ag a m c:=kH a m c;have Q:∀e∈way (c::(K++[a])),e.1≠a->e.1≠c->e.2≠a->e.2≠c->meet a c e.1 e.2=false:=by
  intro e b d n2 p o;cases h:meet a c e.1 e.2 with
 |false=>rfl
 |true=>
   exfalso;obtain⟨i,j,k,l,w⟩:=nV h;obtain⟨D,C⟩:=jt b;have m1:e.1≠m:=λq=>u (q▸D);have m2:e.2≠m:=λq=>u (q▸C);have t:e∈rg (m::c::(K++[a])):=jQ b;have B:=w.Em a m;have A:=w.Em m c;have r:=w.Em c a;rw[T,cF,jE]at B;rw[P,cF,eV,O]at A;rw[I,H,cF,cF,eV]at r;have hi:=w.hi;have hj:=w.hj;have hk:=w.hk;have x:=w.hl;have ae:=w.e;have v:=w.p;have A0:=aE hj (show 0<=ag a m c by lia);have G0:=aE hi (show 0<=ag a m c by lia);have X1:=y e.1 (ah _ D) d m1 n2;have X2:=y e.2 (ah _ C) p m2 o;by_cases F:0<=ag c a e.2;rcases exit (e:=e.1) (f:=e.2) (k:=k) (l:=l) N hk x #v[] #v[] #v[] #v[] F (λs=>X2 ⟨s.1,s.2,F⟩) with⟨z,n⟩|⟨z,n⟩;rw[S.far e t (a,m) R d m1 p m2]at n;exact aD n;rw[S.far e t (m,c) J m1 n2 m2 o]at n;exact aD n;have W:0<k:=by
    rcases bX hk with q|q;exact q;exfalso;have l0:0<l:=#v[]
    have:=br l0 (show 0 < - ag c a e.2 by lia);rw[<- q,fH,jE]at r;rw[eZ]at this;lia
   have G:0<=ag c a e.1:=by rcases aK (ag c a e.1) 0 with q|q;have Z:=br W (show 0 < - ag c a e.1 by lia);have b2:=aE x (show 0<=- ag c a e.2 by lia);rw[eZ]at Z b2;lia;exact q
   rcases exit (e:=e.2) (f:=e.1) (k:=l) (l:=k) N x hk #v[] #v[] #v[] #v[] G (λs=>X1 ⟨s.1,s.2,G⟩) with⟨z,n⟩|⟨z,n⟩;rw[ft,S.far e t (a,m) R d m1 p m2]at n;exact aD n;rw[ft,S.far e t (m,c) J m1 n2 m2 o]at n;exact aD n
 have Y:∀q∈c::(K++[a]),q≠a->q≠c->onSeg q a c=false:=by
  intro q M d n2;cases h:onSeg q a c with
 |false=>rfl
 |true=>exfalso;obtain⟨i,j,w⟩:=w_on h;have B:=w.Em a m;have A:=w.Em m c;have r:=w.Em c a;rw[T,cF,jE,fH,eV]at B;rw[P,cF,eV,O,fH,eV]at A;rw[I,H,cF,cF,eV,fH,eV]at r;have hi:=w.hi;have hj:=w.hj;have v:=w.p;have A0:=aE hj (show 0<=ag a m c by lia);have G0:=aE hi (show 0<=ag a m c by lia);have V:q≠m:=λe=>u (e▸M);refine y q (ah _ M) d V n2 ⟨?_,?_,?_⟩;rcases aK (ag a m q) 0 with s|s;have:=br v (show 0 < - ag a m q by lia);rw[eZ]at this;lia;exact s;rcases aK (ag m c q) 0 with s|s;have:=br v (show 0 < - ag m c q by lia);rw[eZ]at this;lia;exact s;rcases bE.mp r.symm with s|s<;>lia
 refine⟨?_,U,?_,?_⟩
 match K,X with
|k::K,_=>simp
 intro e b f g d n2 p o;rw[show c::(K++[a])=c::K++[a] by simp,nM]at b g;rcases aI.mp b with b|b;rcases aI.mp g with g|g;exact S.far e (jQ b) f (jQ g) d n2 p o;rw[bA]at g;subst g;rw[meet_comm];exact Q e b d n2 p o;rw[bA]at b;subst b;rcases aI.mp g with g|g;exact Q f g (Ne.symm d) (Ne.symm p) (Ne.symm n2) (Ne.symm o);rw[bA]at g;subst g;exact absurd rfl d;intro w L e b d n2;rw[show c::(K++[a])=c::K++[a] by simp,nM]at b;rcases aI.mp b with b|b;exact S.on w (ah _ L) e (jQ b) d n2;rw[bA]at b;subst b;exact Y w L d n2
theorem AA(a m p:Pt):ag a m p=fn (-(m.y-a.y)) (m.x-a.x) p-fn (-(m.y-a.y)) (m.x-a.x) a:=by simp only[ag,fn];grind
theorem Vz{a m c w:Pt}(l:0<ag a m c)(h:¬(0<=ag a m w/\0<=ag m c w/\0<=ag c a w)):F [a,m,c] w=false:=by
 have y:ag a m a=0:=jC a m;have a1:ag a m m=0:=jB a m;have p:ag m c c=0:=jB m c;have n:ag m c m=0:=jC m c;have o:ag m c a=ag a m c:=kH a m c;have k:ag c a c=0:=jC c a;have j:ag c a a=0:=jB c a;have i:ag c a m=ag a m c:=(kH c a m).symm;have gen:∀s t:Pt,ag s t w<0->(0<=ag s t a/\0<=ag s t m/\0<=ag s t c)->F [a,m,c] w=false:=by intro s t f d;refine Yt (-(t.y-s.y)) (t.x-s.x) λq b=>?_;have x:=AA s t w;have v:=AA s t a;have u:=AA s t m;have r:=AA s t c;simp only[aq,bF,or_false]at b;rcases b with q|q|q<;>subst q<;>lia
 by_cases f:ag a m w<0;exact gen a m f ⟨#v[],#v[],#v[]⟩;by_cases d:ag m c w<0;exact gen m c d ⟨#v[],#v[],#v[]⟩;by_cases g:ag c a w<0;exact gen c a g ⟨#v[],#v[],#v[]⟩;exact absurd ⟨#v[],#v[],#v[]⟩ h
theorem Tz{m c a:Pt}{K:a5 Pt}(S:Simp (m::c::(K++[a])))(D:DH (m::c::(K++[a])))(O:oh (m::c::(K++[a]))=false)(E:Qg (m::c::(K++[a])) a m c)(p:K≠[]):oh (c::(K++[a]))=false:=by
 obtain⟨w,K,rfl⟩:=dY p;have u:=Co S E #v[0];have D':DH (c::(w::K++[a])):=D.sub λq o=>ah _ o;obtain⟨y,b,hy⟩:∃y b,K++[a]=y::b:=by cases K<;>simp
 have nd:=S.nd;have j:w≠m:=by rintro rfl;have:=(bg.mp nd).1;simp at this
 have k:w≠c:=by rintro rfl;have:=(bg.mp (bg.mp nd).2).1;simp at this
 have l:w≠a:=by rintro rfl;have:=(bg.mp (bg.mp (bg.mp nd).2).2).1;simp at this
 have g:=vF [m,c] (w::K++[a]) S D;have f:=vF [c] (w::K++[a]) u D';have i:(w::K++[a])++[m,c]=w::y::(b++[m,c]):=by show w::((K++[a])++[m,c])=_;rw[hy];rfl
 have h:(w::K++[a])++[c]=w::y::(b++[c]):=by show w::((K++[a])++[c])=_;rw[hy];rfl
 have l1:(y::(b++[m,c])).getLast? = some c:=by
  have:y::(b++[m,c])=(y::b++[m])++[c]:=#v[0]
  rw[this];exact cz
 have l2:(y::(b++[c])).getLast? = some c:=by rw[<- aU];exact cz
 have t:F (w::y::(b++[m,c])) w=F (m::c::(w::K++[a])) w:=by rw[<- i];exact J2 [m,c] (w::K++[a]) w
 have s:F (w::y::(b++[c])) w=F (c::(w::K++[a])) w:=by rw[<- h];exact J2 [c] (w::K++[a]) w
 have hl:(c::(w::K++[a])).getLast? = some a:=by rw[<- aU];exact cz
 have d:=Vz E.1 (E.2 w #v[0] l j k);have r:F (m::c::(w::K++[a])) w=F (c::(w::K++[a])) w:=by have n:rg (c::(w::K++[a]))=way (c::(w::K++[a]))++[(a,c)]:=nM c a (w::K);unfold F at d⊢;rw[kM hl,n];simp only[rg,way,aU,fQ,par,qM]at d⊢;rw[iF w a c]at d;revert d;generalize bo w (a,m)=b1;generalize bo w (m,c)=b2;generalize bo w (a,c)=b3;generalize bo w (c,w)=b4;generalize par (bo w) (way (w::(K++[a])))=b5;revert b1 b2 b3 b4 b5;decide
 have O':oh ([m,c]++(w::K++[a]))=false:=O;rw[O',i,uQ l1,t,r]at g;rw[h,uQ l2,s]at f;show oh ([c]++(w::K++[a]))=false;rw[<- f];exact g
theorem Cp(a m c:Pt):ka a m+ka m c+ka c a=ag a m c:=by simp only[ka,ag];grind
theorem T8(m c a:Pt)(K:a5 Pt):cw (m::c::(K++[a]))=cw (c::(K++[a]))+ag a m c:=by
 rw[fe,fe];have f:m::c::(K++[a])++[m]=(m::c::K)++[a,m]:=#v[0]
 have d:c::(K++[a])++[c]=(c::K)++[a,c]:=#v[0]
 rw[f,d,pZ,pZ];have b:lR (m::c::K++[a])=ka m c+lR (c::K++[a]):=rfl;rw[b];have t:=Cp a m c;have:ka c a = - ka a c:=by simp only[ka];grind
 lia
theorem NA{A B:a5 Pt}{a m c:Pt}(E:Qg (A++a::m::c::B) a m c):Qg (m::c::((B++A)++[a])) a m c:=
 ⟨E.1,λp b=>E.2 p (Ln #v[b])⟩
theorem M1:∀(n:Nat)(P:a5 Pt),P.length<=n->Simp P->DH P->oh P=false->0<cw P
|0,P,g,S,_,_=>by have:=S.len;lia
|n+1,P,g,S,D,O=>by
  obtain⟨A,a,m,c,B,rfl,E⟩:=Tj S D O;have b:A++a::m::c::B=(A++[a])++(m::c::B):=#v[0]
  have Cr':(m::c::B)++(A++[a])=m::c::((B++A)++[a]):=#v[0]
  have h:Simp (m::c::((B++A)++[a])):=by rw[b]at S;rw[<- Cr'];exact S.AG
  have i:DH (m::c::((B++A)++[a])):=by rw[b]at D;rw[<- Cr'];exact D.AG
  have p:oh (m::c::((B++A)++[a]))=false:=by rw[<- Cr',vF _ _ (by rw[<- b];exact S) (by rw[<- b];exact D),<- b];exact O
  have k:cw (A++a::m::c::B)=cw (m::c::((B++A)++[a])):=by rw[b,<- Cr',CB]
  rw[k,T8];have f:=NA E;have r:=f.1;by_cases d:B++A=[];rw[d];have:cw (c::([]++[a]))=0:=by simp[cw]
  lia;have l:=Co h f d;have o:=Tz h i p f d;have:=M1 n _ (by simp only[aP,aL,de]at g⊢;lia) l (i.sub λq j=>ah _ j) o;lia
def sw(e:Pt×Pt):Pt×Pt:=(e.2,e.1)
theorem Fo:∀(l:a5 Pt),way l.reverse=((way l).map sw).reverse
|[]=>rfl
|[a]=>rfl
|a::b::l=>by
  have c:=Fo (b::l);have e:(a::b::l).reverse=l.reverse++[b,a]:=#v[0]
  rw[e,rX];have d:l.reverse++[b]=(b::l).reverse:=#v[0]
  rw[d,c];simp[way,sw]
theorem MY{α:Type}(f:α->Bool):∀(l:a5 α),par f l.reverse=par f l
|[]=>rfl
|a::l=>by rw[gE,qM,MY f l];simp[par,m9]
theorem MZ{α β:Type}(f:β->Bool)(g:α->β):∀(l:a5 α),par f (l.map g)=par (λx=>f (g x)) l
|[]=>rfl
|a::l=>by simp only[a9,par,MZ f g l]
theorem r6(v:Pt)(l:a5 Pt):rg (v::l.reverse)=((rg (v::l)).map sw).reverse:=by show way (v::l.reverse++[v])=((way (v::l++[v])).map sw).reverse;rw[<- Fo];simp
theorem Mh(v:Pt)(l:a5 Pt)(p:Pt):F (v::l.reverse) p=F (v::l) p:=by unfold F;rw[r6,MY,MZ];exact tW λe _=>iF p e.1 e.2
theorem Simp.Ie{v:Pt}{l:a5 Pt}(S:Simp (v::l)):Simp (v::l.reverse) where
 len:=by have:=S.len;simpa using this
 nd:=by have:=S.nd;rw[bg]at this⊢;exact⟨by simpa using this.1,mW.mpr (Fh (λh=>Ne.symm h) this.2)⟩
 far:=by intro e b f i c n2 k j;rw[r6,f7,bh]at b i;obtain⟨a,d,rfl⟩:=b;obtain⟨g,m,rfl⟩:=i;show meet a.2 a.1 g.2 g.1=false;rw[ft,jT];exact S.far a d g m j k n2 c
 on:=by intro z hz e b c n2;rw[r6,f7,bh]at b;obtain⟨a,d,rfl⟩:=b;show onSeg z a.2 a.1=false;rw[fT];exact S.on z #v[hz] a d n2 c
theorem Wr{v x y:Pt}(f:x.y≠v.y)(d:y.y≠v.y)(c:NB v x y):ls v y x = !ls v x y:=by
 have t:ag v y x = - ag v x y:=by simp only[ag];grind
 unfold ls;rw[t];by_cases a:v.y<x.y;have a':¬x.y<v.y:=#v[]
 by_cases b:v.y<y.y;have b':¬y.y<v.y:=#v[]
 have z:ag v x y≠0:=λz=>c ⟨z,#v[]⟩;by_cases s:0<ag v x y;have s':¬0 < - ag v x y:=#v[]
 simp only[a,a',b,b',s,s',if_true,decide_true,decide_false];rfl;have s':0 < - ag v x y:=#v[]
 simp only[a,a',b,b',s,s',if_true,decide_true,decide_false];rfl;have b':y.y<v.y:=#v[]
 simp[a,a',b,b'];have a':x.y<v.y:=#v[]
 by_cases b:v.y<y.y;have b':¬y.y<v.y:=#v[]
 simp[a,a',b,b'];have b':y.y<v.y:=#v[]
 have z:ag v x y≠0:=λz=>c ⟨z,#v[]⟩;by_cases s:0<ag v x y;have s':¬0 < - ag v x y:=#v[]
 simp only[a,a',b,b',s,s',if_false,decide_true,decide_false];rfl;have s':0 < - ag v x y:=#v[]
 simp only[a,a',b,b',s,s',if_false,decide_true,decide_false];rfl
theorem aae{v:Pt}{l:a5 Pt}(S:Simp (v::l))(D:DH (v::l)):oh (v::l.reverse) = !oh (v::l):=by
 match l,S,D with
|[],S,_=>have:=S.len;simp at this
|y::C,S,D=>
  obtain⟨x,a,h⟩:=AM y C;obtain⟨b,hC'⟩:∃b,(y::C).reverse=x::b:=by obtain⟨K,p⟩:=cZ.mp a;rw[p];exact⟨K.reverse,#v[0]⟩
  have hl':(x::b).getLast? = some y:=by rw[<- hC',Mq];rfl
  have f:=Mh v (y::C) v;rw[hC']at f⊢;rw[uQ a,uQ hl',f];have nd:=bg.mp S.nd;have m:x≠v:=λe=>nd.1 (e▸h);have k:y≠v:=λe=>nd.1 (e▸aF ..);have j:x≠y:=by
   rintro rfl
   match C,S.len,a,nd with
  |c::C,_,hl,nd=>
    have:x∈c::C:=by rw[gF]at hl;exact iS hl
    exact(bg.mp nd.2).1 this
  have i:x∈v::y::C:=ah _ h;have g:x.y≠v.y:=λq=>m (D x i v #v[0] q);have d:y.y≠v.y:=λq=>k (D y #v[0] v #v[0] q);have n:=kM (v:=v) a;have o:NB v x y:=M6 g d (S.on x i (v,y) (by rw[n];simp) m j) (S.on y #v[0] (x,v) (by rw[n];simp) (Ne.symm j) k);rw[Wr g d o];cases F (v::y::C) v<;>cases ls v x y<;>rfl
theorem Simp.rev{l:a5 Pt}(S:Simp l):Simp l.reverse:=by
 match l,S with
|[],S=>have:=S.len;simp at this
|v::l,S=>rw[gE];exact Simp.AG (A:=[v]) (B:=l.reverse) S.Ie
theorem Lf{l:a5 Pt}(S:Simp l)(D:DH l)(h:0<=cw l):oh l=false:=by
 match l,S,D with
|[],S,_=>have:=S.len;simp at this
|v::l,S,D=>
  cases o:oh (v::l) with
 |false=>rfl
 |true=>
   exfalso;have r:=aae S D;rw[o]at r;have D':DH (v::l.reverse):=D.sub λq b=>by simpa using b
   have a:=M1 _ _ (aS _) S.Ie D' r;have e:cw (v::l.reverse) = - cw (v::l):=by rw[<- JT,gE,yK]
   lia
theorem between{a m c:Pt}(t:ag a m c=0)(d:onSeg a m c=false)(b:onSeg c a m=false):onSeg m a c=true:=by
 have g:ag m c a=0:=by rw[kH];exact t
 have f:ag a c m=0:=by rw[mT,t];rfl
 have d1:0<cP (sub m a) (sub c a):=by rcases aK 0 (cP (sub m a) (sub c a)) with q|q;exact q;rw[fU.mpr ⟨g,q⟩]at d;exact aD d
 have d2:0<cP (sub a c) (sub m c):=by rcases aK 0 (cP (sub a c) (sub m c)) with q|q;exact q;rw[fU.mpr ⟨t,q⟩]at b;exact aD b
 rw[fU];refine⟨f,?_⟩;rcases aK 0 (cP (sub a m) (sub c m)) with q|q;exfalso;have e:cP (sub a m) (sub a m)*cP (sub c m) (sub c m)=cP (sub a m) (sub c m)*cP (sub a m) (sub c m)+ag a m c*ag a m c:=by simp only[cP,sub,ag];grind
 rw[t]at e;have i:cP (sub m a) (sub c a)=cP (sub a m) (sub a m)-cP (sub a m) (sub c m):=by simp only[cP,sub];grind
 have h:cP (sub a c) (sub m c)=cP (sub c m) (sub c m)-cP (sub a m) (sub c m):=by simp only[cP,sub];grind
 have k:=pK (show cP (sub a m) (sub c m)+1<=cP (sub a m) (sub a m) by lia) (show cP (sub a m) (sub c m)+1<=cP (sub c m) (sub c m) by lia) #v[] #v[];grind;exact q
theorem EF{a m c e f:Pt}(x:onSeg m a c=true)(A:m≠a)(y:m≠c)(h:meet a c e f=true):meet a m e f=true\/meet m c e f=true:=by
 obtain⟨i,j,w⟩:=w_on x;obtain⟨d,b,k,l,v⟩:=nV h;have hi:=w.hi;have hj:=w.hj;have s:=w.p;have n:=w.x;have g:=w.y;rw[fH,eV]at n g;have u:0<i:=by
  rcases bX hi with q|q;exact q;exfalso;apply y;rw[<- q]at n g s;apply fk;have:j*(m.x-c.x)=0:=by grind
  rcases bE.mp this with z|z<;>lia;have:j*(m.y-c.y)=0:=by grind
  rcases bE.mp this with z|z<;>lia
 have t:0<j:=by
  rcases bX hj with q|q;exact q;exfalso;apply A;rw[<- q]at n g s;apply fk;have:i*(m.x-a.x)=0:=by grind
  rcases bE.mp this with z|z<;>lia;have:i*(m.y-a.y)=0:=by grind
  rcases bE.mp this with z|z<;>lia
 have p:=v.x;have o:=v.y;have B:=v.e;have r:=v.p;rcases mJ (b*i) (d*j) with q|q;left;refine W.meet (i:=d*j-b*i) (j:=b*(i+j)) (k:=k*j) (l:=l*j) ⟨#v[],aE v.hj #v[],aE v.hk hj,aE v.hl hj,by grind,?_,?_,?_⟩;have:d*j-b*i+b*(i+j)=(d+b)*j:=by grind
 rw[this];exact br r t;have:k*j*e.x+l*j*f.x=j*(k*e.x+l*f.x):=by grind
 rw[this,<- p];grind;have:k*j*e.y+l*j*f.y=j*(k*e.y+l*f.y):=by grind
 rw[this,<- o];grind;right;refine W.meet (i:=d*(i+j)) (j:=b*i-d*j) (k:=k*i) (l:=l*i) ⟨aE v.hi #v[],#v[],aE v.hk hi,aE v.hl hi,by grind,?_,?_,?_⟩;have:d*(i+j)+(b*i-d*j)=(d+b)*i:=by grind
 rw[this];exact br r u;have:k*i*e.x+l*i*f.x=i*(k*e.x+l*f.x):=by grind
 rw[this,<- p];grind;have:k*i*e.y+l*i*f.y=i*(k*e.y+l*f.y):=by grind
 rw[this,<- o];grind
theorem EE{m c a:Pt}{K:a5 Pt}(S:Simp (m::c::(K++[a])))(t:ag a m c=0):Simp (c::(K++[a])):=by
 have nd:=S.nd;obtain⟨i,v⟩:=bg.mp nd;have hl:(c::(K++[a])).getLast? = some a:=by rw[<- aU];exact cz
 have u:(a,m)∈rg (m::c::(K++[a])):=by rw[kM hl];simp
 have p:(m,c)∈rg (m::c::(K++[a])):=by rw[kM hl];simp
 have o:m≠a:=by rintro rfl;apply i;simp
 have n:m≠c:=by rintro rfl;apply i;simp
 have A:c≠a:=by rintro rfl;have:=(bg.mp v).1;simp at this
 have r:onSeg m a c=true:=between t (S.on a #v[0] (m,c) p (Ne.symm o) (Ne.symm A)) (S.on c #v[0] (a,m) u A (Ne.symm n));have B:∀e∈way (c::(K++[a])),e.1≠a->e.1≠c->e.2≠a->e.2≠c->meet a c e.1 e.2=false:=by
  intro e b g n2 l j;cases h:meet a c e.1 e.2 with
 |false=>rfl
 |true=>obtain⟨D,C⟩:=jt b;have m1:e.1≠m:=λq=>i (q▸D);have m2:e.2≠m:=λq=>i (q▸C);have z:e∈rg (m::c::(K++[a])):=jQ b;rcases EF r o n h with q|q;rw[meet_comm,S.far e z (a,m) u g m1 l m2]at q;exact aD q;rw[meet_comm,S.far e z (m,c) p m1 n2 m2 j]at q;exact aD q
 have E:∀q∈c::(K++[a]),q≠a->q≠c->onSeg q a c=false:=by
  intro q s g n2;cases h:onSeg q a c with
 |false=>rfl
 |true=>have x:q≠m:=λe=>i (e▸s);rw[nO,meet_comm]at h;rcases EF r o n h with k|k;rw[meet_comm,<- nO,S.on q (ah _ s) (a,m) u g x]at k;exact aD k;rw[meet_comm,<- nO,S.on q (ah _ s) (m,c) p x n2]at k;exact aD k
 refine⟨?_,v,?_,?_⟩
 match K with
|k::K=>simp
|[]=>exfalso;have:=S.on m #v[0] (c,a) (by rw[kM hl];simp[way]) n o;rw[fT,r]at this;exact aD this
 intro e b f d g n2 l j;rw[show c::(K++[a])=c::K++[a] by simp,nM]at b d;rcases aI.mp b with b|b;rcases aI.mp d with d|d;exact S.far e (jQ b) f (jQ d) g n2 l j;rw[bA]at d;subst d;rw[meet_comm];exact B e b g n2 l j;rw[bA]at b;subst b;rcases aI.mp d with d|d;exact B f d (Ne.symm g) (Ne.symm l) (Ne.symm n2) (Ne.symm j);rw[bA]at d;subst d;exact absurd rfl g;intro w y e b g n2;rw[show c::(K++[a])=c::K++[a] by simp,nM]at b;rcases aI.mp b with b|b;exact S.on w (ah _ y) e (jQ b) g n2;rw[bA]at b;subst b;exact E w y g n2
theorem vi(h:Pt):∀(r K:a5 Pt)(u a b:Pt),(K++[u]).head? = some h->Simp (K++u::b::r)->Dir (sub b u) (sub b a) →
  (gL (a::b::(r++[h]))).all (λt=>gK t.1 t.2.1 t.2.2)=true->∀s,strip a (b::(r++[h]))=s++[h]->Simp (K++u::s)
|[],K,u,a,b,i,S,d,g,s,f=>by
  rw[fQ,tS,D1]at f;by_cases t:ag a b h=0;rw[if_neg #v[t]]at f;have:s=[]:=by have:=congrArg nJ f;simp at this;exact this
  subst this;have l:ag u b h=0:=by rw[pY]at t⊢;exact((d.sc _).2.2).mpr t
  match K,i,S with
 |[],_,S=>have:=S.len;simp at this
 |k::K,i,S=>
   have hk:k=h:=by simpa using i
   subst hk;have j:Simp (b::k::(K++[u])):=by
    have:(k::K)++u::[b]=(k::K++[u])++[b]:=#v[0]
    rw[this]at S;exact S.AG
   exact EE j l
  rw[if_pos t]at f;have:s=[b]:=by have:[b]++[h]=s++[h]:=f;exact(List.append_cancel_right this).symm
  subst this;exact S
|c::r,K,u,a,b,i,S,d,g,s,f=>by
  have D:b::(c::r++[h])=b::c::(r++[h]):=rfl;rw[D,tS]at f;have n:gK a b c=true:=iE g (t:=(a,b,c)) (aF ..);have m:(gL (b::c::(r++[h]))).all (λt=>gK t.1 t.2.1 t.2.2)=true:=by rw[bf]at g⊢;intro t v;exact g t (ah _ v)
  by_cases t:ag a b c=0;rw[if_neg #v[t]]at f;have l:ag u b c=0:=by rw[pY]at t⊢;exact((d.sc _).2.2).mpr t
  have d2:=Cd n t;have d3:Dir (sub c u) (sub c b):=by
   have:=(d.trans d2).add;have e:Vbpcaa.add (sub b u) (sub c b)=sub c u:=by simp only[Vbpcaa.add,sub];congr 1<;>lia
   rw[e]at this;exact this
  have j:Simp (K++u::c::r):=by
   have C:K++u::b::c::r=(K++[u])++(b::c::r):=#v[0]
   rw[C]at S;have B:(b::c::r)++(K++[u])=b::c::((r++K)++[u]):=#v[0]
   have q:=S.AG;rw[B]at q;have p:=EE q l;have A:c::((r++K)++[u])=(c::r)++(K++[u]):=#v[0]
   rw[A]at p;have o:=p.AG;have z:(K++[u])++(c::r)=K++u::c::r:=#v[0]
   rw[z]at o;exact o
  exact vi h r K u b c i j d3 m s f;rw[if_pos t]at f
  match s,f with
 |[],f=>
        simp at f;obtain⟨_,f⟩:=f
        match r with
       |[]=>rw[fQ,tS,D1]at f;split at f<;>simp at f
       |r0::r=>exfalso;have:=og (c::r0::r) b h;simp only[aU]at this f;rw[this]at f;simp at f
 |s0::s,f=>
   have y:b=s0:=by injection f
   have x:strip b (c::(r++[h]))=s++[h]:=by injection f
   subst y;have w:b≠c:=(dA.mp n).2.1;have j:Simp ((K++[u])++b::c::r):=by simpa using S
   have:=vi h r (K++[u]) b b c (by cases K<;>simpa using i) j (Dir.refl (yp w)) m s x
   simpa using this
theorem Simp.tidied{l:a5 Pt}(F:vR l)(S:Simp l):Simp (tidied l):=by
 match l,F,S with
|[],F,S=>exact absurd rfl F.ne
|[p],F,S=>have:=S.len;simp at this
|[p,q],F,S=>have:=S.len;simp at this
|a::b::c::r,F,S=>
  have i:3<=(a::b::c::r).length:=#v[0]
  have d:=F.go i;rw[h8]at d;obtain⟨z,hz⟩:∃z,(a::b::c::r).getLast? = some z:=by
   cases e:(a::b::c::r).getLast? with
  |none=>simp at e
  |some z=>exact⟨z,rfl⟩
  have f:=d;rw[xQ hz]at f;have o:gK z a b=true:=iE f (t:=(z,a,b)) (aF ..);have g:z∈a::b::c::r:=iS hz;have k:ag z a b≠0:=BY o (F.low z g) (F.low b #v[0]);obtain⟨s,v,u⟩:=wq (r:=c::r) #v[0] hz k;have j:a≠b:=by have:=iE d (t:=(a,b,c)) (aF ..);exact(dA.mp this).1
  have n:(gL (a::b::(c::r++[a]))).all (λt=>gK t.1 t.2.1 t.2.2)=true:=by rw[bf];intro t h;refine iE d ?_;have:=pW (m:=[b]) h;simpa using this
  rw[v];exact vi a (c::r) [] a a b rfl S (Dir.refl (yp j)) n s u
theorem Mz(f:Pt->Pt):∀(l:a5 Pt),way (l.map f)=(way l).map λe=>(f e.1,f e.2)
|[]=>rfl
|[a]=>rfl
|a::b::l=>by have:=Mz f (b::l);simp only[a9,way]at this⊢;rw[this]
theorem Rk(f:Pt->Pt)(l:a5 Pt):rg (l.map f)=(rg l).map λe=>(f e.1,f e.2):=by
 match l with
|[]=>rfl
|a::l=>show way (f a::l.map f++[f a])=(way (a::l++[a])).map _;rw[<- Mz];simp
def Back(f:Pt->Pt):Prop:=∀a b c d i j k l,W (f a) (f b) (f c) (f d) i j k l->W a b c d i j k l
theorem Back.meet{f:Pt->Pt}(h:Back f){a b c d:Pt}(m:meet a b c d=false):meet (f a) (f b) (f c) (f d)=false:=by
 cases e:Vbpcaa.meet (f a) (f b) (f c) (f d) with
|false=>rfl
|true=>obtain⟨i,j,k,l,w⟩:=nV e;rw[(h _ _ _ _ _ _ _ _ w).meet]at m;exact aD m
theorem Back.on{f:Pt->Pt}(h:Back f){a b c:Pt}(m:onSeg a b c=false):onSeg (f a) (f b) (f c)=false:=by rw[nO]at m⊢;exact h.meet m
theorem Back.inj{f:Pt->Pt}(h:Back f){a b:Pt}(e:f a=f b):a=b:=by have w:=h a a b b 1 0 1 0 ⟨#v[],#v[],#v[],#v[],#v[],#v[],by rw[e],by rw[e]⟩;exact fk (by have:=w.x;lia) (by have:=w.y;lia)
theorem Simp.map{f:Pt->Pt}(h:Back f){l:a5 Pt}(S:Simp l):Simp (l.map f) where
 len:=by have:=S.len;simpa using this
 nd:=by rw[List.Nodup,lZ];exact S.nd.imp λn e=>n (h.inj e)
 far:=by intro e a g i b n2 m k;rw[Rk]at a i;obtain⟨d,c,rfl⟩:=bh.mp a;obtain⟨g',p,rfl⟩:=bh.mp i;exact h.meet (S.far d c g' p (λq=>b (by show f _=f _;rw[q])) (λq=>n2 (by show f _=f _;rw[q])) (λq=>m (by show f _=f _;rw[q])) (λq=>k (by show f _=f _;rw[q])))
 on:=by intro z hz e a b n2;rw[Rk]at a;obtain⟨d,c,rfl⟩:=bh.mp a;obtain⟨j,o,rfl⟩:=bh.mp hz;exact h.on (S.on j o d c (λq=>b (by show f _=f _;rw[q])) (λq=>n2 (by show f _=f _;rw[q])))
theorem L9(d:Pt):Back (kL d):=by
 intro a b c e i j k l w;have h:=w.e;have x:=w.x;have y:=w.y;simp only[kL,Vbpcaa.add]at x y;have q:(i+j)*d.x=(k+l)*d.x:=by rw[h]
 have q':(i+j)*d.y=(k+l)*d.y:=by rw[h]
 exact⟨w.hi,w.hj,w.hk,w.hl,h,w.p,by grind,by grind⟩
theorem GS(d:Pt):Back (pE d):=by
 intro a b c e i j k l w;have h:=w.e;have x:=w.x;have y:=w.y;simp only[pE]at x y;have q:(i+j)*d.x=(k+l)*d.x:=by rw[h]
 have q':(i+j)*d.y=(k+l)*d.y:=by rw[h]
 exact⟨w.hi,w.hj,w.hk,w.hl,h,w.p,by grind,by grind⟩
theorem zw(d:Pt):∀n,Back (turned d n)
|0=>λ_ _ _ _ _ _ _ _ w=>w
|n+1=>λa b c e i j k l w=>zw d n _ _ _ _ _ _ _ _ (GS d _ _ _ _ _ _ _ _ w)
theorem P2(d:Int):Back (qE d):=by
 intro a b c e i j k l w;have h:=w.e;have x:=w.x;have y:=w.y;simp only[qE]at x y;have q:(i+j)*d=(k+l)*d:=by rw[h]
 exact⟨w.hi,w.hj,w.hk,w.hl,h,w.p,by grind,by grind⟩
theorem Simp.normal{l:a5 Pt}(S:Simp l):Simp (normal l):=by
 have ne:∀k:a5 Pt,Simp k->Simp (kW k):=by intro k a;obtain⟨u,m,v,e,_,_,b⟩:=mw (l:=k) (by rintro rfl;have:=a.len;simp at this);rw[b];rw[e]at a;exact a.AG
 rw[Eh S.len];split;exact ne _ S.rev;exact ne _ S
def lz(M:Int)(p:Pt):Pt:=⟨p.x,M*p.y+p.x⟩
theorem xT(M:Int)(a b c:Pt):ag (lz M a) (lz M b) (lz M c)=M*ag a b c:=by simp only[ag,lz];grind
theorem mD{M:Int}(d:0<M):Back (lz M):=by
 intro a b c e i j k l w;have h:=w.e;have x:=w.x;have y:=w.y;simp only[lz]at x y;refine⟨w.hi,w.hj,w.hk,w.hl,h,w.p,x,?_⟩;have:M*(i*a.y+j*b.y-(k*c.y+l*e.y))=0:=by grind
 rcases bE.mp this with z|z<;>lia
theorem P6(M:Int)(l:a5 Pt):cw (l.map (lz M))=M*cw l:=by
 have c:∀l:a5 Pt,∀a,lR ((a::l).map (lz M))=M*lR (a::l)+(a.x*((a::l).getLastD a).x-a.x*a.x)*0:=by
  intro l
  induction l with
 |nil=>intro a;simp[lR]
 |cons b l d=>
   intro a;have:=d b;simp only[a9,lR]at this⊢;rw[this];have:ka (lz M a) (lz M b)=M*ka a b:=by simp only[ka,lz];grind
   rw[this];grind
 match l with
|[]=>simp[cw]
|a::l=>rw[a9,fe,fe];have:=c (l++[a]) a;simp only[a9,bj,iU,cF,eV]at this;exact this
theorem VB{l:a5 Pt}:∃M:Int,0<M/\DH (l.map (lz M)):=by
 obtain⟨N,m,d⟩:=A9 (λc=>c.x) l;refine⟨2*N,#v[],λa j b h e=>?_⟩;obtain⟨a,i,rfl⟩:=bh.mp j;obtain⟨b,g,rfl⟩:=bh.mp h;simp only[lz]at e;have n:=d a i;have b2:=d b g;have k:2*N*(a.y-b.y)=b.x-a.x:=by grind
 have f:a.y-b.y=0:=by rcases dJ (a.y-b.y) 0 with q|q|q;have:=aE (show 0<=2*N by lia) (show 0<=- (a.y-b.y)-1 by lia);grind;exact q;have:=aE (show 0<=2*N by lia) (show 0<=(a.y-b.y)-1 by lia);grind
 have:a=b:=by rw[f,cF]at k;exact fk #v[] #v[]
 rw[this]
theorem Jz{M:Int}(b:0<M){P:a5 Pt}{a m c:Pt}:Qg (P.map (lz M)) (lz M a) (lz M m) (lz M c)↔Qg P a m c:=by
 have j:∀z:Int,0<M*z↔0<z:=by intro z;constructor;intro h;rcases aK 0 z with q|q;exact q;have:=aE (show 0<=M by lia) (show 0<=-z by lia);rw[eZ]at this;lia;exact λh=>br b h
 have i:∀z:Int,0<=M*z↔0<=z:=by intro z;constructor;intro h;rcases aK z 0 with q|q;have:=br b (show 0 < -z by lia);rw[eZ]at this;lia;exact q;exact λh=>aE #v[] h
 unfold Qg;simp only[xT,j];refine and_congr_right λ_=>?_;constructor;intro h p g f n2 d;have:=h (lz M p) (bh.mpr ⟨p,g,rfl⟩) (λq=>f ((mD b).inj q)) (λq=>n2 ((mD b).inj q)) (λq=>d ((mD b).inj q));simp only[xT,i]at this;exact this;intro h p g f n2 d;obtain⟨p,k,rfl⟩:=bh.mp g;simp only[xT,i];exact h p k (λq=>f (by rw[q])) (λq=>n2 (by rw[q])) (λq=>d (by rw[q]))
def rP(l:a5 Pt):Prop:=Simp l/\∃M:Int,0<M/\DH (l.map (lz M))/\oh (l.map (lz M))=false
theorem rP.of{l:a5 Pt}(S:Simp l)(h:0<=cw l):rP l:=by obtain⟨M,a,D⟩:=VB (l:=l);refine⟨S,M,a,D,Lf (S.map (mD a)) D ?_⟩;rw[P6];exact aE #v[] h
theorem rP.ear{l:a5 Pt}(h:rP l):∃A a m c B,l=A++a::m::c::B/\Qg l a m c:=by
 obtain⟨S,M,d,D,O⟩:=h;obtain⟨q,o,k,n,p,e,E⟩:=Tj (S.map (mD d)) D O;obtain⟨A,R,rfl,rfl,b⟩:=List.map_eq_append_iff.mp e
 match R,b with
|a::m::c::B,b=>simp only[a9,List.cons.injEq]at b;obtain⟨i,g,f,j⟩:=b;refine⟨A,a,m,c,B,rfl,(Jz d).mp ?_⟩;rw[i,g,f];exact E
theorem rP.AG{A B:a5 Pt}(h:rP (A++B)):rP (B++A):=by obtain⟨S,M,a,D,O⟩:=h;rw[bj]at D O;have b:=S.map (mD a);rw[bj]at b;refine⟨S.AG,M,a,?_,?_⟩;rw[bj];exact D.AG;rw[bj,vF _ _ b D];exact O
theorem rP.cut{m c a:Pt}{K:a5 Pt}(h:rP (m::c::(K++[a])))(E:Qg (m::c::(K++[a])) a m c)(d:K≠[]):rP (c::(K++[a])):=by
 obtain⟨S,M,b,D,O⟩:=h;have g:=S.map (mD b);have i:=(Jz b).mpr E;have e:(m::c::(K++[a])).map (lz M)=lz M m::lz M c::(K.map (lz M)++[lz M a]):=#v[0]
 rw[e]at g D O i;have f:(c::(K++[a])).map (lz M)=lz M c::(K.map (lz M)++[lz M a]):=#v[0]
 refine⟨Co S E d,M,b,?_,?_⟩;rw[f];exact D.sub λq j=>ah _ j;rw[f];exact Tz g D O i #v[d]
theorem acT{z p q:Pt}(g:gK z p q=true):onSeg z p q=false:=by
 cases h:onSeg z p q with
|false=>rfl
|true=>
  exfalso;obtain⟨c,f,b⟩:=dA.mp g;obtain⟨t,d⟩:=fU.mp h;apply b;refine⟨by rw[<- kH];exact t,?_⟩;have e:cP (sub z p) (sub q p)=cP (sub z p) (sub z p)-cP (sub p z) (sub q z):=by simp only[cP,sub];grind
  have s:0<cP (sub z p) (sub z p):=by simp only[cP,sub];have:=gh (z.x-p.x);have:=gh (z.y-p.y);by_cases k:z.x-p.x=0;by_cases a:z.y-p.y=0;exact absurd (fk #v[] #v[]) c;have:=sq_pos a;lia;have:=sq_pos k;lia
  lia
theorem BW{a b c d:Pt}(h:onSeg a c d=true):meet a b c d=true:=mU.mpr (.inr (.inr (.inr (.inl h))))
theorem Bw(a b:Pt):onSeg a a b=true:=by rw[fU];exact⟨jC a b,by simp[cP,sub]⟩
def nx(n i:Nat):Nat:=if i+1<n then i+1 else 0
theorem Rl{l:a5 Pt}(i:Nat)(e:Pt×Pt):(rg l)[i]? = some e↔(i<l.length/\l[i]? = some e.1/\l[nx l.length i]? = some e.2):=by
 match l with
|[]=>simp[rg]
|a::r=>
  have d:rg (a::r)=(a::r).zip (r++[a]):=(Ax r a a).symm;rw[d,bG];constructor;rintro⟨c,b⟩;have hi:i<(a::r).length:=(aJ.mp c).1;refine⟨hi,c,?_⟩;unfold nx;simp only[aL]at hi⊢;by_cases k:i+1<r.length+1;rw[if_pos k,gG];rw[ej #v[]]at b;exact b;rw[if_neg k];rw[fE #v[]]at b;have:i-r.length=0:=#v[]
  rw[this]at b;exact b;rintro⟨hi,c,b⟩;refine⟨c,?_⟩;unfold nx at b;simp only[aL]at hi b;by_cases k:i+1<r.length+1;rw[if_pos k,gG]at b;rw[ej #v[]];exact b;rw[if_neg k]at b;rw[fE #v[]];have:i-r.length=0:=#v[]
  rw[this];exact b
theorem KS{l:a5 Pt}{e:Pt×Pt}:e∈rg l↔∃i,i<l.length/\(rg l)[i]? = some e/\l[i]? = some e.1/\l[nx l.length i]? = some e.2:=by rw[dB];constructor;rintro⟨i,h⟩;obtain⟨c,b,a⟩:=(Rl i e).mp h;exact⟨i,c,h,b,a⟩;rintro⟨i,_,h,_⟩;exact⟨i,h⟩
theorem Rm{l:a5 Pt}{i:Nat}(h:i<l.length):∃a b,(rg l)[i]? = some (a,b)/\l[i]? = some a/\l[nx l.length i]? = some b:=by
 have c:nx l.length i<l.length:=by unfold nx;split<;>lia
 exact⟨l[i],l[nx l.length i],(Rl i _).mpr ⟨h,aw h,aw c⟩,aw h,aw c⟩
theorem xY{α:Type}{l:a5 α}{k j:Nat}(hk:k<l.length)(hj:j<l.length):(l.drop k++l.take k)[j]? = l[if k+j<l.length then k+j else k+j-l.length]?:=by by_cases q:k+j<l.length;rw[if_pos q,ej (by simp;lia),ly];rw[if_neg q,fE (by simp;lia),Hm (by simp;lia)];congr 1;simp;lia
theorem nx1{n i:Nat}(h:i<n):(if i+1<n then i+1 else i+1-n)=nx n i:=by unfold nx;split<;>lia
theorem nx2{n i:Nat}(h:i<n)(a:3<=n):(if i+2<n then i+2 else i+2-n)=nx n (nx n i):=by unfold nx;(repeat' split)<;>lia
theorem SY{l:a5 Pt}(d:3<=l.length)(g:fA l=true){i:Nat}{a b c:Pt}(k:l[i]? = some a)(o:l[nx l.length i]? = some b)(n:l[nx l.length (nx l.length i)]? = some c):gK a b c=true:=by
 have hi:i<l.length:=(aJ.mp k).1;have e:l=l.take i++l.drop i:=(jN i l).symm;have m:fA (l.drop i++l.take i)=true:=by rw[Gw _ _ (by rw[<- e];exact d),<- e];exact g
 obtain⟨x,y,z,r,hr⟩:∃x y z r,l.drop i++l.take i=x::y::z::r:=by
  have:3<=(l.drop i++l.take i).length:=by simp;lia
  match l.drop i++l.take i,this with
 |x::y::z::r,_=>exact⟨x,y,z,r,rfl⟩
 have j:=xY hi (aR (by decide:0<3) d);have h:=xY hi (aR (by decide:1<3) d);have f:=xY hi (aR (by decide:2<3) d);rw[hr]at j h f;rw[if_pos (show i+0<l.length from hi),Nat.add_zero,k]at j;rw[nx1 hi,o]at h;rw[nx2 hi d,n]at f;simp at j h f;rw[hr,h8]at m;have:=iE m (t:=(x,y,z)) (aF ..);rw[j,h,f]at this;exact this
theorem Simp.of{l:a5 Pt}(h:rS l=true):Simp l:=by
 simp only[rS,aZ,decide_eq_true_eq]at h;obtain⟨t,g,f⟩:=h;rw[Th t,Ju]at f;have x:(rg l).length=l.length:=by
  match l with
 |[]=>rfl
 |a::r=>have R:rg (a::r)=(a::r).zip (r++[a]):=(Ax r a a).symm;rw[R];simp
 have G:∀i,nx l.length i<l.length:=by intro i;unfold nx;split<;>lia
 have E:∀i j e m,(rg l)[i]? = some e->(rg l)[j]? = some m->i≠j->nx l.length i≠j->nx l.length j≠i->meet e.1 e.2 m.1 m.2=false:=by
  intro i j e m hi hj w n2 s;have H:i<l.length:=by rw[<- x];exact(aJ.mp hi).1
  have N:j<l.length:=by rw[<- x];exact(aJ.mp hj).1
  unfold nx at n2 s;rcases oR i j with q|q;exact f i j e m hi hj (by split at n2<;>lia) (λz=>by rw[x];split at s<;>lia);rw[meet_comm];exact f j i m e hj hi (by split at s<;>lia) (λz=>by rw[x];split at n2<;>lia)
 have nd:l.Nodup:=by
  rw[List.Nodup,G7];intro i j O hj V P;have I:l[i]? = l[j]?:=by rw[aw O,aw hj,P]
  obtain⟨a,b,A,d,y⟩:=Rm (l:=l) (i:=i) #v[];obtain⟨T,S,L,v,K⟩:=Rm (l:=l) (i:=j) hj;have F:a=T:=by rw[d,v]at I;exact aH I
  subst F;by_cases n:nx l.length i=j;rw[n,v]at y;have W:a=b:=aH y;have hk:=G (nx l.length i);have:=SY t g (i:=i) (a:=a) (b:=a) (c:=l[nx l.length (nx l.length i)]) d (by rw[n];exact v) (aw hk);exact(dA.mp this).1 rfl;by_cases B:nx l.length j=i;rw[B,d]at K;have hk:=G (nx l.length j);have:=SY t g (i:=j) (a:=a) (b:=a) (c:=l[nx l.length (nx l.length j)]) v (by rw[B];exact d) (aw hk);exact(dA.mp this).1 rfl;have:=E i j _ _ A L #v[] n B;rw[BW (Bw a S)]at this;exact aD this
 refine⟨t,nd,?_,?_⟩;intro e C m Q w n2 s U;obtain⟨i,H,hi,u,p⟩:=KS.mp C;obtain⟨j,N,hj,D,J⟩:=KS.mp Q;refine E i j e m hi hj ?_ ?_ ?_;rintro rfl;rw[u]at D;exact w (aH D);intro q;rw[q,D]at p;exact s (aH p).symm;intro q;rw[q,u]at J;exact n2 (aH J);intro z hz e C w n2;obtain⟨k,hk⟩:=dB.mp hz;have M:k<l.length:=(aJ.mp hk).1;obtain⟨i,H,hi,u,p⟩:=KS.mp C;obtain⟨a,b,A,d,y⟩:=Rm M;have F:a=z:=by rw[d]at hk;exact aH hk
 subst F;by_cases n:nx l.length k=i;have:=SY t g (i:=k) d (by rw[n];exact u) (by rw[n];exact p);exact acT this;have:=E k i _ _ A hi (by rintro rfl;rw[u]at d;exact w (aH d).symm) n (by intro q;rw[q,d]at p;exact n2 (aH p))
 cases o:onSeg a e.1 e.2 with
|false=>rfl
|true=>rw[BW o]at this;exact aD this
def Kl(l:a5 Pt):Bool:=match l,l.getLast? with
|b::c::r,some a=>decide (0<ag a b c)&&r.dropLast.all λp=>!inTriangle a b c p
|_,_=>false
theorem GP(b c a:Pt)(K:a5 Pt):Kl (b::c::(K++[a]))=(decide (0<ag a b c)&&K.all λp=>!inTriangle a b c p):=by
 have:(b::c::(K++[a])).getLast? = some a:=by
  have:b::c::(K++[a])=(b::c::K)++[a]:=#v[0]
  rw[this];exact cz
 unfold Kl;rw[this];simp
theorem Ew{a b c p:Pt}:oW a b c p=true↔(0<=ag a b p/\0<=ag b c p/\0<=ag c a p):=by simp[oW]
theorem W6{b c a:Pt}{K:a5 Pt}(h:Kl (b::c::(K++[a]))=true):Qg (b::c::(K++[a])) a b c:=by
 rw[GP,aZ,decide_eq_true_eq,bf]at h;refine⟨h.1,λp d g n2 f=>?_⟩;have:p∈K:=by simp only[aq,aI,bF,or_false]at d;rcases d with q|q|q|q;exact absurd q n2;exact absurd q f;exact q;exact absurd q g
 have:=h.2 p this;rw[<- Ew];simpa using this
theorem WR{b c a:Pt}{K:a5 Pt}(nd:(b::c::(K++[a])).Nodup)(E:Qg (b::c::(K++[a])) a b c):Kl (b::c::(K++[a]))=true:=by rw[GP,aZ,decide_eq_true_eq,bf];refine⟨E.1,λp d=>?_⟩;simp only[bg,eC,aq,aI,bF,or_false,not_or]at nd;have g:p≠a:=λe=>nd.2.2.2.2 p d a rfl e;have n2:p≠b:=λe=>nd.1.2.1 (e▸d);have f:p≠c:=λe=>nd.2.1.1 (e▸d);have:=E.2 p (by simp[d]) g n2 f;rw[<- Ew]at this;simpa using this
theorem md1{n k:Nat}(h:k<n):(if k+1<n then k+1 else k+1-n)=(k+1) % n:=by
 split
 next q=>rw[Xn q]
 next q=>
  have:k+1=n:=#v[]
  rw[this];simp
theorem md2{n k:Nat}(h:k<n):(if k+(n-1)<n then k+(n-1) else k+(n-1)-n)=if k=0 then n-1 else k-1:=by split<;>split<;>lia
theorem wt{α:Type}{l:a5 α}{k:Nat}(d:3<=l.length)(hk:k<l.length):∃y z K x,l.drop k++l.take k=y::z::(K++[x])/\l[k]? = some y/\l[(k+1) % l.length]? = some z/\l[if k=0 then l.length-1 else k-1]? = some x/\K.length+3=l.length:=by
 have len:(l.drop k++l.take k).length=l.length:=by rw[aP,cj,bw];lia
 have c:=xY hk (aR (by decide:0<3) d);have b:=xY hk (aR (by decide:1<3) d);have a:=xY (j:=l.length-1) hk #v[]
 match e:l.drop k++l.take k,len with
|y::z::r,len=>
  rw[e]at c b a;have f:r≠[]:=by rintro rfl;simp at len;lia
  obtain⟨K,x,rfl⟩:∃K x,r=K++[x]:=by rcases iy r with q|⟨K,x,q⟩;exact absurd q f;exact⟨K,x,by rw[q,iz]⟩
  refine⟨y,z,K,x,rfl,?_,?_,?_,?_⟩;rw[if_pos (show k+0<l.length from hk),Nat.add_zero]at c;exact c.symm;rw[md1 hk]at b;exact b.symm;rw[md2 hk]at a;rw[<- a];have:l.length-1=K.length+2:=by simp at len;lia
  rw[this];simp;simp at len;lia
|[],len=>simp at len;lia
|[_],len=>simp at len;lia
theorem Ic{L:a5 pV}(f:3<=L.length){k:Nat}(hk:k<L.length){x y z:pV}(c:L[k]? = some y)(hz:L[(k+1) % L.length]? = some z)(b:L[if k=0 then L.length-1 else k-1]? = some x):(ring L)[k]? = some (x,y,z):=by
 match L,f,hk,b,c,hz with
|a::r,f,hk,b,c,hz=>
  obtain⟨w,hw⟩:∃w,(a::r).getLast? = some w:=⟨_,gv (kE _ _)⟩;unfold ring;rw[hw];simp only;rw[bq];have i:(w::a::r)[k]? = some x:=by by_cases d:k=0;subst d;rw[if_pos rfl]at b;rw[List.getLast?_eq_getElem?]at hw;rw[hw]at b;simpa using b;rw[if_neg d]at b;obtain⟨j,rfl⟩:∃j,k=j+1:=⟨k-1,#v[]⟩;rw[gG];simpa using b
  have h:(r++[a])[k]? = some z:=by
   simp only[aL]at hk hz;by_cases q:k+1<r.length+1;rw[Xn q,gG]at hz;rw[ej #v[]];exact hz;have:k+1=r.length+1:=#v[]
   rw[this,Nat.mod_self]at hz;rw[fE #v[]];have:k-r.length=0:=#v[]
   rw[this];simpa using hz
  have g:((w::a::r).zip ((a::r).zip (r++[a])))[k]? = some (x,(y,z)):=by rw[bG];refine⟨i,?_⟩;rw[bG];exact⟨c,h⟩
  rw[g];rfl
theorem Eu{L:a5 pV}(nd:(L.map (·.1)).Nodup){k:Nat}{x y z:pV}{K:a5 pV}(e:L.drop k++L.take k=y::z::(K++[x])):
  isEar L x y z=Kl ((L.map (·.2)).drop k++(L.map (·.2)).take k):=by
 have n:(L.map (·.2)).drop k++(L.map (·.2)).take k=y.2::z.2::(K.map (·.2)++[x.2]):=by rw[<- k7,<- m8,<- bj,e];simp
 rw[n,GP];unfold isEar;congr 1;have g:∀f:pV->Bool,L.all f=(L.drop k++L.take k).all f:=by intro f;rw[lh,k9,<- lh,jN]
 rw[g,e];have d:((y::z::(K++[x])).map (·.1)).Nodup:=by rw[<- e,bj,k7,m8];have:L.map (·.1)=(L.map (·.1)).take k++(L.map (·.1)).drop k:=(jN k _).symm;rw[this]at nd;rw[eC]at nd⊢;refine⟨nd.2.1,nd.1,λa m b l e=>nd.2.2 b l a m e.symm⟩
 simp only[a9,bj,iU,bg,eC,aq,aI,bh,bF,or_false,not_or]at d;simp only[gq,lh,Ks,beq_self_eq_true,Bool.true_or,Bool.or_true,gr,k8,zV];have key:∀p∈K,(p.1 == x.1||(p.1 == y.1||(p.1 == z.1||!inTriangle x.2 y.2 z.2 p.2))) = !inTriangle x.2 y.2 z.2 p.2:=by
  intro p c;have j:(p.1 == x.1)=false:=by rw[beq_eq_false_iff_ne];exact d.2.2.2.2 p.1 ⟨p,c,rfl⟩ x.1 rfl
  have n2:(p.1 == y.1)=false:=by rw[beq_eq_false_iff_ne];intro q;exact d.1.2.1 ⟨p,c,q⟩
  have i:(p.1 == z.1)=false:=by rw[beq_eq_false_iff_ne];intro q;exact d.2.1.1 ⟨p,c,q⟩
  rw[j,n2,i];rfl
 apply cW;simp only[bf,Function.comp];constructor;intro h p c;have:=h p c;rw[key p c]at this;exact this;intro h p c;rw[key p c];exact h p c
theorem Tx{L:a5 pV}(nd:(L.map (·.1)).Nodup)(G:4<=L.length){k:Nat}(hk:k<L.length)(r:Kl ((L.map (·.2)).drop k++(L.map (·.2)).take k)=true)(least:∀j<k,Kl ((L.map (·.2)).drop j++(L.map (·.2)).take j)=false){x y z:pV}(a:L[k]? = some y)(hz:L[(k+1) % L.length]? = some z)(b:L[if k=0 then L.length-1 else k-1]? = some x)(n:Nat):
  lW (n+1) L=(x.1,y.1,z.1)::lW n (L.eraseIdx k):=by
 have s:((ring L).find? λt=>isEar L t.1 t.2.1 t.2.2)=some (x,y,z):=by
  rw[AY];have d:=Ic #v[] hk a hz b;obtain⟨g,f,K,h,e,a1,a2,a3,_⟩:=wt (l:=L) #v[] hk;have v:g=y:=by rw[a1]at a;exact aH a
  have u:f=z:=by rw[a2]at hz;exact aH hz
  have ex:h=x:=by rw[a3]at b;exact aH b
  rw[v,u,ex]at e;refine⟨by rw[Eu nd e];exact r,k,(aJ.mp d).1,(aJ.mp d).2,λj hj=>?_⟩;obtain⟨E,D,H,F,A,C,b2,B,_⟩:=wt (l:=L) (k:=j) #v[] #v[];have i:=Ic #v[] #v[] C b2 B;rw[(aJ.mp i).2];dsimp only;rw[Eu nd A,least j hj];rfl
 have q:(L.filter λp=>p.1 != y.1)=L.eraseIdx k:=by
  obtain⟨o,m⟩:=aJ.mp a;have sp:L=L.take k++y::L.drop (k+1):=by rw[<- m,<- kK o,jN]
  have w:L.eraseIdx k=L.take k++L.drop (k+1):=Aq ..;rw[w];rw[sp,bj,a9,eC,bg]at nd
  conv=>lhs;rw[sp]
  rw[jz,jj #v[0]];congr 1;rw[Qp];intro p c;have:=nd.2.2 p.1 (dR c) y.1 #v[0];simpa using this;rw[Qp];intro p c;have:p.1≠y.1:=λe=>nd.2.1.1 (e▸dR c);simpa using this
 show(if L.length<=3 then _ else _)=_;rw[if_neg #v[],s];simp only[q]
theorem LM{l:a5 Pt}(h:rP l):∃k<l.length,Kl (l.drop k++l.take k)=true:=by
 obtain⟨A,a,m,c,B,e,E⟩:=h.ear;subst e;refine⟨A.length+1,#v[0],?_⟩;have g:(A++a::m::c::B).drop (A.length+1)=m::c::B:=by
  have:A++a::m::c::B=(A++[a])++(m::c::B):=#v[0]
  rw[this,Xs #v[0]]
 have f:(A++a::m::c::B).take (A.length+1)=A++[a]:=by
  have:A++a::m::c::B=(A++[a])++(m::c::B):=#v[0]
  rw[this,List.take_left' #v[0]]
 rw[g,f];have d:m::c::B++(A++[a])=m::c::((B++A)++[a]):=#v[0]
 have S:=h.1;have i:A++a::m::c::B=(A++[a])++(m::c::B):=#v[0]
 rw[i]at S;have b:=S.AG;rw[d]at b⊢;exact WR b.nd (NA E)
theorem Ti{l:a5 Pt}(h:rP l)(i:4<=l.length){k:Nat}(hk:k<l.length)(a:Kl (l.drop k++l.take k)=true):rP (l.eraseIdx k):=by
 obtain⟨y,z,K,x,e,a1,a2,a3,d⟩:=wt (l:=l) #v[] hk;have c:rP (l.drop k++l.take k):=by
  have:rP (l.take k++l.drop k):=by rw[jN];exact h
  exact this.AG
 rw[e]at c a;have b:=c.cut (W6 a) (by rintro rfl;simp at d;lia);have f:l.eraseIdx k=l.take k++l.drop (k+1):=Aq ..;have g:l.drop (k+1)++l.take k=z::(K++[x]):=by have:=congrArg List.tail e;rw[List.tail_append_of_ne_nil (by simp;lia),List.tail_drop]at this;simpa using this
 rw[<- g]at b;rw[f];exact b.AG
theorem qg{x d:Int}(hd:0<d)(h:0<=x*d):0<=x:=by rcases aK x 0 with q|q;have:=br (show 0 < -x by lia) hd;rw[CW]at this;lia;exact q
theorem vw{x d:Int}(hd:0<d)(h:0<x*d):0<x:=by rcases aK 0 x with q|q;exact q;have:=aE (show 0<=-x by lia) (show 0<=d by lia);rw[CW]at this;lia
section
variable(α β:Int)
theorem id1(a b c p:Pt):ag a b p*(fn α β c-fn α β b)=ag a b c*(fn α β p-fn α β b)+ag b c p*(fn α β b-fn α β a):=by simp only[ag,fn];grind
theorem id2(a b p r:Pt):ag b p r*(fn α β b-fn α β a)=ag a b p*(fn α β b-fn α β r)+ag a b r*(fn α β p-fn α β b):=by simp only[ag,fn];grind
theorem id3(a b p r:Pt):ag a p r*(fn α β p-fn α β b)=ag a p b*(fn α β p-fn α β r)+ag b p r*(fn α β p-fn α β a):=by simp only[ag,fn];grind
theorem id4(a b p r:Pt):ag a p r*(fn α β b-fn α β a)=ag a p b*(fn α β r-fn α β a)+ag a b r*(fn α β p-fn α β a):=by simp only[ag,fn];grind
theorem E7{a b c p:Pt}(l:fn α β a<=fn α β b)(k:fn α β b<fn α β c)(j:fn α β b<fn α β p)(g:0<ag a b c)(f:0<=ag b c p):0<ag a b p:=by apply vw (d:=fn α β c-fn α β b) #v[];rw[id1];have i:=br g (show 0<fn α β p-fn α β b by lia);have h:=aE f (show 0<=fn α β b-fn α β a by lia);lia
theorem under{a b p r:Pt}(k:fn α β a<fn α β b)(j:fn α β b<=fn α β p)(i:fn α β r<=fn α β b)(f:0<=ag a b p)(c:0<=ag a b r):0<=ag b p r:=by apply qg (d:=fn α β b-fn α β a) #v[];rw[id2];have h:=aE f (show 0<=fn α β b-fn α β r by lia);have g:=aE c (show 0<=fn α β p-fn α β b by lia);lia
theorem Ol{a b p r:Pt}(k:fn α β a<fn α β b)(j:fn α β b<=fn α β p)(i:fn α β r<fn α β b)(f:0<ag a b p)(c:0<=ag a b r):0<ag b p r:=by apply vw (d:=fn α β b-fn α β a) #v[];rw[id2];have h:=br f (show 0<fn α β b-fn α β r by lia);have g:=aE c (show 0<=fn α β p-fn α β b by lia);lia
theorem acz{a b p r:Pt}(k:fn α β a<=fn α β p)(j:fn α β b<fn α β p)(i:fn α β r<=fn α β p)(f:0<=ag a p b)(c:0<=ag b p r):0<=ag a p r:=by apply qg (d:=fn α β p-fn α β b) #v[];rw[id3];have h:=aE f (show 0<=fn α β p-fn α β r by lia);have g:=aE c (show 0<=fn α β p-fn α β a by lia);lia
theorem acy{a b p r:Pt}(k:fn α β a<fn α β b)(j:fn α β a<=fn α β p)(i:fn α β a<=fn α β r)(f:0<=ag a p b)(c:0<=ag a b r):0<=ag a p r:=by apply qg (d:=fn α β b-fn α β a) #v[];rw[id4];have h:=aE f (show 0<=fn α β r-fn α β a by lia);have g:=aE c (show 0<=fn α β p-fn α β a by lia);lia
def Cv(Q:Pt->Prop):a5 Pt->Prop
|[]=>True
|[a]=>Q a/\∀r,Q r->fn α β a<=fn α β r
|b::a::s=>Q b/\fn α β a<fn α β b/\(∀r,Q r->0<=ag a b r)/\(∀z,s.head? = some z->0<ag z a b)/\Cv Q (a::s)
def pop(p:Pt):a5 Pt->a5 Pt
|b::a::s=>if ag a b p<=0 then pop p (a::s) else b::a::s
|s=>s
theorem Cv.head{Q:Pt->Prop}{b:Pt}{s:a5 Pt}(H:Cv α β Q (b::s)):Q b:=by
 cases s with
|nil=>exact H.1
|cons a s=>exact H.1
theorem Iv{Q:Pt->Prop}{p:Pt}(g:∀r,Q r->fn α β r<fn α β p):∀(s:a5 Pt)(b:Pt),Cv α β Q (b::s)->(∀r,Q r->fn α β b<=fn α β r->0<=ag b p r) →
  ∃c d,pop p (b::s)=c::d/\Cv α β Q (c::d)/\(∀r,Q r->fn α β c<=fn α β r->0<=ag c p r)/\(∀a,d.head? = some a->0<ag a c p)
|[],b,H,I=>⟨b,[],rfl,H,I,#v[0]⟩
|a::s,b,H,I=>by
  obtain⟨i,j,left,st,H'⟩:=H;by_cases t:ag a b p<=0;have e:pop p (b::a::s)=pop p (a::s):=by simp[pop,t]
  rw[e];refine Iv g s a H' λr f n=>?_;have h:0<=ag a p b:=by rw[mT];lia
  have m:=g b i;rcases aK (fn α β r) (fn α β b) with k|k;exact acy α β j #v[] n h (left r f);exact acz α β #v[] m (by have:=g r f;lia) h (I r f k);have e:pop p (b::a::s)=b::a::s:=by simp[pop,t]
  refine⟨b,a::s,e,⟨i,j,left,st,H'⟩,I,λo l=>?_⟩;simp only[Xr,kU]at l;subst l;lia
theorem Cv.more{Q:Pt->Prop}{p:Pt}(d:∀r,Q r->fn α β r<fn α β p):∀(s:a5 Pt)(b:Pt),Cv α β Q (b::s)->(∀a,s.head? = some a->0<ag a b p) →
  Cv α β (λr=>Q r\/r=p) (b::s)
|[],b,H,_=>⟨.inl H.1,λr c=>by rcases c with c|c;exact H.2 r c;have:=d b H.1;subst c;lia⟩
|a::s,b,H,K=>by
  obtain⟨g,f,left,st,H'⟩:=H;have k:=K a rfl;refine⟨.inl g,f,λr c=>?_,st,Cv.more d s a H' λz hz=>?_⟩;rcases c with c|c;exact left r c;subst c;lia;have h:=Cv.head α β H';have j:=d a h;have i:fn α β z<=fn α β a:=by
   cases s with
  |nil=>simp at hz
  |cons l s=>simp only[Xr,kU]at hz;subst hz;have:=H'.2.1;lia
  exact E7 α β i f j (st z hz) #v[]
theorem OL{Q:Pt->Prop}{p:Pt}(f:∀r,Q r->fn α β r<fn α β p){b:Pt}{s:a5 Pt}(H:Cv α β Q (b::s))(top:∀r,Q r->fn α β b<=fn α β r->r=b):
  Cv α β (λr=>Q r\/r=p) (p::pop p (b::s)):=by
 obtain⟨g,d,e,H',I,K⟩:=Iv α β f s b H (λr h c=>by rw[top r h c,jC];lia);rw[e];have i:=Cv.head α β H';have j:=f g i;refine⟨.inr rfl,j,λr c=>?_,K,Cv.more α β f d g H' K⟩;rcases c with c|c;rcases aK (fn α β r) (fn α β g) with k|k;cases d with
|nil=>have:=H'.2 r c;lia
|cons a d=>have l:=H'.2.1;have:=K a rfl;exact under α β l #v[] #v[] #v[] (H'.2.2.1 r c)
 exact I r c k;rw[c,jB];lia
def chain:a5 Pt->a5 Pt:=QD (λs p=>p::pop p s) []
theorem JM:∀(l:a5 Pt)(Q:Pt->Prop)(b:Pt)(s:a5 Pt),Cv α β Q (b::s)->(∀r,Q r->fn α β b<=fn α β r->r=b)->(∀r,Q r->∀p∈l,fn α β r<fn α β p)->l.Pairwise (λa b=>fn α β a<fn α β b) →
  ∃c t,l.foldl (λs p=>p::pop p s) (b::s)=c::t/\Cv α β (λr=>Q r\/r∈l) (c::t)/\(∀r,(Q r\/r∈l)->fn α β c<=fn α β r->r=c)
|[],Q,b,s,H,top,_,_=>⟨b,s,rfl,by simpa using H,by simpa using top⟩
|p::l,Q,b,s,H,top,hl,f=>by
  rw[bH]at f;have h:∀r,Q r->fn α β r<fn α β p:=λr d=>hl r d p #v[0];obtain⟨c,t,e,j,i⟩:=JM l (λr=>Q r\/r=p) p (pop p (b::s)) (OL α β h H top)
   (λr d k=>by rcases d with d|d;have:=h r d;lia;exact d)
   (λr d q g=>by rcases d with d|d;exact hl r d q (ah _ g);subst d;exact f.1 q g) f.2
  refine⟨c,t,e,?_,λr d=>i r ?_⟩;have:(λr=>(Q r\/r=p)\/r∈l)=λr=>Q r\/r∈p::l:=by funext r;simp only[aq,eq_iff_iff];grind
  rw[<- this];exact j;simp only[aq]at d;grind
theorem oF{l:a5 Pt}(hl:l≠[])(f:l.Pairwise (λa b=>fn α β a<fn α β b)):∃c t,chain l=c::t/\Cv α β (·∈l) (c::t)/\∀r∈l,fn α β c<=fn α β r->r=c:=by
 match l,hl with
|p::l,_=>
  rw[bH]at f;obtain⟨c,t,e,H,top⟩:=JM α β l (· = p) p [] ⟨rfl,λr d=>by rw[d];lia⟩ (λr d _=>d) (λr d q g=>by rw[d];exact f.1 q g) f.2;refine⟨c,t,e,?_,λr d=>top r (aq.mp d)⟩;have:(λr=>r=p\/r∈l)=(·∈p::l):=by funext r;simp
  rw[<- this];exact H
end
theorem Kz:∀{s:a5 Pt}{e:Pt×Pt},e∈way s.reverse->(e.2,e.1)∈way s:=by intro s e h;rw[Fo,f7,bh]at h;obtain⟨x,a,rfl⟩:=h;exact a
section
variable(α β:Int)
theorem Cv.step{Q:Pt->Prop}:∀{s:a5 Pt}{up:Option Pt},Cv α β Q s->(∀c,up=some c->∀b f,s=b::f->fn α β b<fn α β c/\(∀r,Q r->0<=ag b c r)/\∀a,f.head? = some a->0<ag a b c) →
  (up=none->∀b f,s=b::f->∀r,Q r->fn α β r<=fn α β b) →
  ∀e∈way s,Q e.1/\Q e.2/\fn α β e.2<fn α β e.1/\∀r,Q r->0<=ag e.2 e.1 r/\(ag e.2 e.1 r=0->fn α β e.2<=fn α β r/\fn α β r<=fn α β e.1)
|[],_,_,_,_,e,d=>by simp[way]at d
|[a],_,_,_,_,e,d=>by simp[way]at d
|b::a::s,up,H,o,p,e,d=>by
  obtain⟨n,i,left,st,H'⟩:=H;simp only[way,aq]at d;rcases d with d|d;subst d;refine⟨n,Cv.head α β H',i,λr g=>⟨left r g,λt=>⟨?_,?_⟩⟩⟩;rcases aK (fn α β r) (fn α β a) with k|k;exfalso;cases s with
 |nil=>have:=H'.2 r g;lia
 |cons z s=>have:=Ol α β H'.2.1 (show fn α β a<=fn α β b by lia) k (st z rfl) (H'.2.2.1 r g);simp only at t;lia
  exact k;rcases aK (fn α β b) (fn α β r) with k|k;exfalso
  match up with
 |none=>have:=p rfl b (a::s) rfl r g;lia
 |some c=>obtain⟨m,l,j⟩:=o c rfl b (a::s) rfl;have:=E7 α β (show fn α β a<=fn α β b by lia) m k (j a rfl) (l r g);simp only at t;lia
  exact k;refine Cv.step (up:=some b) H' (λc h x f w=>?_) (λq=>by simp at q) e d;simp only[kU]at h;subst h;injection w with v u;subst v;subst u;exact⟨i,left,st⟩
theorem W5{p q r:Pt}(g:fn α β p<fn α β q)(f:r≠p)(t:0<=ag p q r)(k:ag p q r=0->fn α β p<=fn α β r/\fn α β r<=fn α β q):G2 p q r:=by
 rcases bX t with c|c;exact .inl c;right;obtain⟨b,l⟩:=k c.symm;have cx:(fn α β q-fn α β p)*(r.x-p.x)=(fn α β r-fn α β p)*(q.x-p.x):=by
  have:(fn α β q-fn α β p)*(r.x-p.x)=(fn α β r-fn α β p)*(q.x-p.x)-β*ag p q r:=by simp only[fn,ag];grind
  rw[this,<- c];lia
 have cy:(fn α β q-fn α β p)*(r.y-p.y)=(fn α β r-fn α β p)*(q.y-p.y):=by
  have:(fn α β q-fn α β p)*(r.y-p.y)=(fn α β r-fn α β p)*(q.y-p.y)+α*ag p q r:=by simp only[fn,ag];grind
  rw[this,<- c];lia
 have h:0<fn α β r-fn α β p:=by rcases bX b with z|z;lia;exfalso;apply f;rw[<- z,Int.sub_self,fH]at cx cy;apply fk;rcases bE.mp cx with w|w<;>lia;rcases bE.mp cy with w|w<;>lia
 have i:0<(q.x-p.x)*(q.x-p.x)+(q.y-p.y)*(q.y-p.y):=by have:=gh (q.x-p.x);have:=gh (q.y-p.y);by_cases z:q.x-p.x=0;by_cases a:q.y-p.y=0;exfalso;have:q=p:=fk #v[] #v[];rw[this]at g;lia;have:=sq_pos a;lia;have:=sq_pos z;lia
 refine⟨c.symm,?_,?_⟩;apply vw (d:=fn α β q-fn α β p) #v[];have:cP (sub r p) (sub q p)*(fn α β q-fn α β p)=(fn α β r-fn α β p)*((q.x-p.x)*(q.x-p.x)+(q.y-p.y)*(q.y-p.y)):=by
  have:cP (sub r p) (sub q p)*(fn α β q-fn α β p)=((fn α β q-fn α β p)*(r.x-p.x))*(q.x-p.x)+((fn α β q-fn α β p)*(r.y-p.y))*(q.y-p.y):=by simp only[cP,sub];grind
  rw[this,cx,cy];grind
 rw[this];exact br h i;have j:0<(fn α β q-fn α β p)*(fn α β q-fn α β p):=br #v[] #v[];have m:(fn α β r-fn α β p)*(fn α β r-fn α β p)<=(fn α β q-fn α β p)*(fn α β q-fn α β p):=pK #v[] #v[] #v[] #v[];have e:((cD p r:Nat):Int)*((fn α β q-fn α β p)*(fn α β q-fn α β p))=((cD p q:Nat):Int)*((fn α β r-fn α β p)*(fn α β r-fn α β p)):=by
  rw[eA,eA];have:((p.x-r.x)*(p.x-r.x)+(p.y-r.y)*(p.y-r.y))*((fn α β q-fn α β p)*(fn α β q-fn α β p))=((fn α β q-fn α β p)*(r.x-p.x))*((fn α β q-fn α β p)*(r.x-p.x))+((fn α β q-fn α β p)*(r.y-p.y))*((fn α β q-fn α β p)*(r.y-p.y)):=by grind
  rw[this,cx,cy];grind
 have n:=aE (show(0:Int)<=((cD p q:Nat):Int) by lia) (show 0<=(fn α β q-fn α β p)*(fn α β q-fn α β p)-(fn α β r-fn α β p)*(fn α β r-fn α β p) by lia);have:(0:Int)<=((cD p q:Nat):Int)-((cD p r:Nat):Int):=by apply qg j;grind
 lia
theorem Wi{l:a5 Pt}{p q:Pt}(d:q∈l)(b:fn α β p<fn α β q)(k:∀r∈l,0<=ag p q r/\(ag p q r=0->fn α β p<=fn α β r/\fn α β r<=fn α β q)):yN l p q:=
 ⟨d,λe=>by rw[e]at b;lia,λr a c _=>W5 α β b c (k r a).1 (k r a).2⟩
theorem Cs{l:a5 Pt}(hl:l≠[])(g:l.Pairwise (λa b=>fn α β a<fn α β b)):∀e∈way (chain l).reverse,yN l e.1 e.2/\fn α β e.1<fn α β e.2:=by
 obtain⟨c,t,e,H,top⟩:=oF α β hl g;intro x h;have d:=Kz h;rw[e]at d;obtain⟨n,s,f,m⟩:=Cv.step α β (up:=none) H (λc j=>by simp at j) (λ_ b q p r i=>by injection p with o _;subst o;rcases aK (fn α β c) (fn α β r) with k|k;have:=top r i #v[];rw[this]at k;lia;exact k) _ d
 exact⟨Wi α β n f m,f⟩
theorem Cv.last{Q:Pt->Prop}:∀{s:a5 Pt},Cv α β Q s->∀a,s.getLast? = some a->Q a/\∀r,Q r->fn α β a<=fn α β r
|[],_,a,e=>by simp at e
|[b],H,a,e=>by simp at e;subst e;exact H
|c::b::s,H,a,e=>by rw[gF]at e;exact Cv.last H.2.2.2.2 a e
theorem Ct{l:a5 Pt}(hl:l≠[])(d:l.Pairwise (λa b=>fn α β a<fn α β b)):∃lo hi,(chain l).reverse.head? = some lo/\(chain l).reverse.getLast? = some hi/\lo∈l/\hi∈l/\(∀r∈l,fn α β lo<=fn α β r)/\(∀r∈l,fn α β hi<=fn α β r->r=hi):=by obtain⟨c,t,e,H,top⟩:=oF α β hl d;obtain⟨lo,h1⟩:∃lo,(c::t).getLast? = some lo:=⟨_,gv (kE _ _)⟩;obtain⟨g,f⟩:=Cv.last α β H lo h1;refine⟨lo,c,?_,?_,g,Cv.head α β H,f,top⟩;rw[List.head?_reverse,e];exact h1;rw[Mq,e];rfl
end
theorem MA{l:a5 Pt}{first:Pt}:∀(H:a5 Pt)(p:Pt),(∀e∈way (p::H++[first]),yN l e.1 e.2)->first∉H->Way l first (p::H)
|[],p,h,_=>.last (h (p,first) (by simp[way]))
|q::H,p,h,n=>by refine .step (h (p,q) (by simp[way])) (λe=>n (by rw[e];simp)) (MA H q (λe a=>h e ?_) (λk=>n (ah _ k)));simp only[aU,way]at a⊢;exact ah _ a
theorem yy(α β:Int)(p:Pt):fn (-α) (-β) p = - fn α β p:=by simp only[fn];grind
def Ni(l:a5 Pt):a5 Pt:=if l.length=1 then l else(chain l).reverse.dropLast++(chain l.reverse).reverse.dropLast
theorem Vv{U V:a5 Pt}{u v:Pt}(g:U.getLast? = some v)(b:V.head? = some v)(h:U.head? = some u)(f:V.getLast? = some u):
  ∀e∈way (U.dropLast++V.dropLast++[u]),e∈way U\/e∈way V:=by
 obtain⟨i,rfl⟩:=cZ.mp g;obtain⟨c,rfl⟩:=cZ.mp f;intro e d;rw[kj,kj,dj]at d;obtain⟨W,hW⟩:∃W,c++[u]=v::W:=by
  cases c with
 |nil=>simp at b;exact⟨[],by simp[b]⟩
 |cons a c=>simp at b;exact⟨c++[u],by simp[b]⟩
 rw[hW,wk]at d;rw[hW];exact aI.mp d
theorem aeS{α β:Int}{l:a5 Pt}{m:Pt}(hl:l≠[])(c:l.Pairwise (λa b=>fn α β a<fn α β b))(h:∀p∈l,p=m):l.length=1:=by rcases l with _|⟨x,_|⟨y,r⟩⟩;exact absurd rfl hl;rfl;have:=(bH.mp c).1 y (aF ..);rw[h x (aF ..),h y (ah _ (aF ..))]at this;lia
theorem Yp{α β:Int}{P:Pt->Prop}:∀(s:a5 Pt)(b:Pt),Cv α β P (b::s)->(b::s).Pairwise (λa b=>fn α β b<fn α β a):=by
 intro s
 induction s with
|nil=>intro b _;simp
|cons a s d=>intro b H;have c:=d a H.2.2.2.2;rw[bH];refine⟨λq f=>?_,c⟩;rw[bH]at c;rcases aq.mp f with z|z;rw[z];exact H.2.1;have:=c.1 q z;have:=H.2.1;lia
theorem SU(α β:Int){l:a5 Pt}(hl:l≠[])(f:l.Pairwise (λa b=>fn α β a<fn α β b))(S:∀p∈l,∀q∈l,fn α β p<=fn α β q->fB q p=false){k:a5 Pt}(hk:∀p,p∈k↔p∈l):m6 k (Ni l):=by
 have z:∀m∈l,(∀r∈l,fn α β m<=fn α β r)->∀p r,k=p::r->l6 r p=m:=by intro m h P p r e;apply Jf;rw[<- e];exact(hk m).mpr h;intro q B;rw[<- e]at B;have A:=(hk q).mp B;exact S m h q A (P q A)
 unfold Ni;split
 next x=>obtain⟨p,rfl⟩:=List.length_eq_one_iff.mp x;refine⟨λq r e=>?_,.inl ⟨p,rfl,λr d=>?_⟩⟩;have:=z p #v[0] (by intro r d;simp at d;rw[d];lia) q r e;rw[this];rfl;have:=(hk r).mp d;simpa using this
 next x=>
  obtain⟨lo,hi,a1,a2,a3,V,y,J⟩:=Ct α β hl f;have pw':l.reverse.Pairwise (λa b=>fn (-α) (-β) a<fn (-α) (-β) b):=by rw[mW];refine f.imp λW=>?_;rw[yy,yy];lia
  have hl':l.reverse≠[]:=by simpa using hl
  obtain⟨s,g,I,b2,G,F,U,T⟩:=Ct (-α) (-β) hl' pw';rw[f7]at G F;have Q:s=hi:=by have E:=U hi (by rw[f7];exact V);rw[yy,yy]at E;exact J s G #v[]
  have M:g=lo:=by have E:=y g F;have D:=T lo (by rw[f7];exact a3);rw[yy,yy]at D;exact(D #v[]).symm
  subst Q;subst M;have two:∀e∈way ((chain l).reverse.dropLast++(chain l.reverse).reverse.dropLast++[g]),yN k e.1 e.2:=by intro e R;have L:∀p q,yN l p q->yN k p q:=λp q n=>⟨(hk q).mpr n.1,n.2.1,λr d=>n.2.2 r ((hk r).mp d)⟩;have tr':∀p q,yN l.reverse p q->yN k p q:=λp q n=>⟨(hk q).mpr (f7.mp n.1),n.2.1,λr d=>n.2.2 r (f7.mpr ((hk r).mp d))⟩;rcases Vv a2 I a1 b2 e R with q|q;exact L _ _ (Cs α β hl f e q).1;exact tr' _ _ (Cs (-α) (-β) hl' pw' e q).1
  obtain⟨i,w⟩:=cZ.mp a2;obtain⟨K,v⟩:=cZ.mp b2;have O:g≠s:=λe=>x (aeS hl f λp C=>J p C (e▸y p C));have o:(chain l).reverse.Pairwise (λa b=>fn α β a<fn α β b):=by obtain⟨c,t,e,H,top⟩:=oF α β hl f;rw[mW,e];exact Yp t c H
  have j:(chain l.reverse).reverse.Pairwise (λa b=>fn (-α) (-β) a<fn (-α) (-β) b):=by obtain⟨c,t,e,H,top⟩:=oF (-α) (-β) hl' pw';rw[mW,e];exact Yp t c H
  rw[w,v]at two;rw[w,v];rw[w]at a1 o;rw[v]at j I;rw[kj,kj]at two⊢;rcases i with _|⟨u,i⟩;simp at a1;exact absurd a1.symm O;have N:u=g:=by simpa using a1
  subst N;refine⟨λp r e=>(z u a3 y p r e).symm,.inr ?_⟩;show Way k u (u::(i++K));refine MA (i++K) u two λh=>?_;rcases aI.mp h with q|q;simp only[aU,bH]at o;have:=o.1 u (eY _ q);lia;rw[vc]at j;have:=j.2.2 u q u #v[0];lia
theorem Cb(l:a5 Pt):∃M:Int,∀p∈l,∀q∈l,(fB p q=true->fn 1 M p<fn 1 M q)/\(fn 1 M p<=fn 1 M q->fB q p=false):=by
 obtain⟨N,f,d⟩:=A9 (λc=>c.x) l;have up:∀p∈l,∀q∈l,fB p q=true->fn 1 (2*N) p<fn 1 (2*N) q:=by intro p b q a h;have g:=d p b;have b2:=d q a;rw[nZ]at h;simp only[fn];rcases h with h|⟨h,h'⟩;have:=aE (show 0<=2*N by lia) (show 0<=q.y-p.y-1 by lia);grind;rw[h];lia
 refine⟨2*N,λp b q a=>⟨up p b q a,λh=>?_⟩⟩;cases e:fB q p with
|false=>rfl
|true=>have:=up q a p b e;lia
theorem Jo{l k:a5 Pt}(hl:l≠[])(d:l.Pairwise (λa b=>fB a b=true))(hk:∀p,p∈k↔p∈l):m6 k (Ni l):=by obtain⟨M,c⟩:=Cb l;refine SU 1 M hl ?_ (λp g q f h=>(c p g q f).2 h) hk;exact d.imp_of_mem λj i h=>(c _ j _ i).1 h
theorem Way.det{l:a5 Pt}{f:Pt}:∀{p:Pt}{i h:a5 Pt},Way l f (p::i)->Way l f (p::h)->i=h
|_,_,_,.last b,.last a=>rfl
|_,_,_,.last b,.step a c _=>by have g:=kZ b;have d:=kZ a;exact absurd (d.symm.trans g) c
|_,_,_,.step b c _,.last a=>by have g:=kZ b;have d:=kZ a;exact absurd (g.symm.trans d) c
|_,_,_,.step (q:=q1) b h1 w1,.step (q:=q2) a h2 w2=>by have e:q1=q2:=(kZ b).symm.trans (kZ a);subst e;rw[w1.det w2]
theorem Way.suffix{l:a5 Pt}{f:Pt}:∀{A:a5 Pt}{p:Pt}{B:a5 Pt},Way l f (A++p::B)->Way l f (p::B)
|[],_,_,w=>w
|[a],_,_,.step _ _ w=>w
|a::b::A,p,B,.step _ _ w=>Way.suffix (A:=b::A) w
theorem Way.tail{l:a5 Pt}{f p:Pt}{r:a5 Pt}(w:Way l f (p::r)):p∉r:=by
 intro h;obtain⟨A,B,e⟩:=iu h;have a:Way l f (p::B):=by rw[e]at w;exact Way.suffix (A:=p::A) w
 have:=w.det a;rw[this]at e;have:=congrArg nJ e;simp at this;lia
theorem Way.nodup{l:a5 Pt}{f:Pt}:∀{H:a5 Pt},Way l f H->H.Nodup
|[p],_=>by simp
|p::q::r,w=>by
  rw[bg];refine⟨w.tail,?_⟩;cases w with
 |step _ _ w=>exact Way.nodup w
theorem Way.steps{l:a5 Pt}{f:Pt}:∀{H:a5 Pt},Way l f H->∀e∈way (H++[f]),yN l e.1 e.2
|[p],.last k,e,a=>by simp only[List.singleton_append,way,bA]at a;subst a;exact k
|p::q::r,.step k _ w,e,a=>by simp only[aU,way,aq]at a;rcases a with a|a;subst a;exact k;exact w.steps e a
theorem W2{p q r:Pt}(t:ag p q r=0)(d:0<cP (sub r p) (sub q p))(hl:cD p r<=cD p q)(n:r≠q):cP (sub p r) (sub q r)<0:=by
 have b:cD p r<cD p q:=by rcases oR (cD p r) (cD p q) with k|k;exact k;exact absurd (EX t d #v[]) n
 have f:=wZ p r;have c:=wZ p q;have id:cP (sub r p) (sub r p)*cP (sub q p) (sub q p)=cP (sub r p) (sub q p)*cP (sub r p) (sub q p)+ag p q r*ag p q r:=by simp only[cP,sub,ag];grind
 rw[t,cF,eV]at id;have s:cP (sub p r) (sub q r)=cP (sub r p) (sub r p)-cP (sub r p) (sub q p):=by simp only[cP,sub];grind
 rw[s];rcases aK (cP (sub r p) (sub r p)) (cP (sub r p) (sub q p)) with k|k;lia;exfalso;have a:=pK k k #v[] #v[];have pos:0<cP (sub r p) (sub r p):=#v[]
 have:=br pos (show 0<cP (sub q p) (sub q p)-cP (sub r p) (sub r p) by lia);rw[Int.mul_sub]at this;lia
theorem Lg{p q r v:Pt}(t:ag p q r=0)(x:cP (sub p r) (sub q r)<0)(d:p≠v->G2 r v p)(f:q≠v->G2 r v q)(o:v≠r):False:=by
 have c:0<cP (sub p r) (sub p r):=by have e:cP (sub p r) (sub p r)=(p.x-r.x)*(p.x-r.x)+(p.y-r.y)*(p.y-r.y):=rfl;have:=gh (p.x-r.x);have:=gh (p.y-r.y);by_cases a:p.x-r.x=0;by_cases b:p.y-r.y=0;exfalso;simp only[cP,sub]at x;rw[a,b]at x;lia;have:=sq_pos b;lia;have:=sq_pos a;lia
 have u:cP (sub p r) (sub p r)*ag r v q=cP (sub p r) (sub q r)*ag r v p:=by
  have:cP (sub p r) (sub p r)*ag r v q=cP (sub p r) (sub q r)*ag r v p+cP (sub p r) (sub v r)*ag p q r:=by simp only[cP,sub,ag];grind
  rw[this,t];lia
 have s:cP (sub p r) (sub p r)*cP (sub q r) (sub v r)=cP (sub p r) (sub q r)*cP (sub p r) (sub v r):=by
  have:cP (sub p r) (sub p r)*cP (sub q r) (sub v r)=cP (sub p r) (sub q r)*cP (sub p r) (sub v r)-ag r v p*ag p q r:=by simp only[cP,sub,ag];grind
  rw[this,t];lia
 have i:0<=ag r v p:=by by_cases e:p=v;subst e;rw[jB];lia;rcases d e with k|k<;>lia
 have h:0<=ag r v q:=by by_cases e:q=v;subst e;rw[jB];lia;rcases f e with k|k<;>lia
 have n:=aE (show 0<=cP (sub p r) (sub p r) by lia) h;have n2:=aE (show 0<=- cP (sub p r) (sub q r) by lia) i;rw[CW]at n2;have m:ag r v q=0:=by
  have:cP (sub p r) (sub p r)*ag r v q=0:=#v[]
  rcases bE.mp this with k|k<;>lia
 have l:ag r v p=0:=by
  have:cP (sub p r) (sub q r)*ag r v p=0:=#v[]
  rcases bE.mp this with k|k<;>lia
 have dp:0<cP (sub p r) (sub v r):=by by_cases e:p=v;subst e;exact c;rcases d e with k|k;lia;exact k.2.1
 have j:0<cP (sub q r) (sub v r):=by by_cases e:q=v;subst e;by_cases g:p=q;subst g;exact c;rcases d g with k|k;lia;exfalso;have:=k.2.1;lia;rcases f e with k|k;lia;exact k.2.1
 have m1:=br c j;have m2:=br (show 0 < - cP (sub p r) (sub q r) by lia) dp;rw[CW]at m2;lia
theorem Zz{H:a5 Pt}{r:Pt}(h:r∈H):∃a,(r,a)∈rg H:=by
 obtain⟨A,B,e⟩:=iu h;subst e;have:∃a,(r,a)∈rg (r::(B++A)):=by
  show ∃a,(r,a)∈way (r::(B++A)++[r])
  match B++A with
 |[]=>exact⟨r,by simp[way]⟩
 |y::K=>exact⟨y,by simp[way]⟩
 obtain⟨a,b⟩:=this;exact⟨a,(o9 (A:=A) (B:=r::B)).mp b⟩
theorem Ex{l H:a5 Pt}(W:Way l (H.headD ⟨0,0⟩) H):∀e∈rg H,yN l e.1 e.2:=by
 match H,W with
|p::H,W=>exact W.steps
theorem AO{l H:a5 Pt}(I:m6 l H):∀p∈H,l≠[]->p∈l:=by
 intro p a hl;rcases I.way with⟨x,rfl,b⟩|w;simp at a;subst a;obtain⟨y,r,rfl⟩:=dY hl;have:=b y #v[0];rw[<- this];simp;obtain⟨i,hi,g⟩:=List.getElem_of_mem a;have f:=w
 match H,a,w with
|q::r,a,w=>
  by_cases e:p=q;subst e;obtain⟨y,s,rfl⟩:=dY hl;have:=I.low y s rfl;simp only[n6]at this;rw[this];exact(mV s y).1;have hp':p∈r:=by rcases aq.mp a with k|k;exact absurd k e;exact k
  obtain⟨A,B,c⟩:=iu hp';have:∃x,(x,p)∈way (q::r++[q]):=by rcases iy A with z|⟨d,x,z⟩;subst z;rw[c];exact⟨q,by simp[way]⟩;refine⟨x,?_⟩;rw[c,z,iz];have:=tP (q::d) x p (B++[q]);simpa using this
  obtain⟨x,b⟩:=this;exact(w.steps (x,p) b).1
theorem mr{l H:a5 Pt}(hl:l≠[])(I:m6 l H){p q r:Pt}(c:(p,q)∈rg H)(a:r∈H)(b:r≠p)(n2:r≠q):0<ag p q r:=by rcases I.way with⟨x,rfl,n⟩|w;have:=nN c;simp at this a;exact absurd (a.trans this.1.symm) b;have st:=Ex w;have N:=st (p,q) c;have g:=AO I r a hl;have pl:=AO I p (nN c).1 hl;rcases N.2.2 r g b n2 with k|⟨f,j,i⟩;exact k;exfalso;obtain⟨h,m⟩:=Zz a;have d:=st (r,h) m;refine Lg f (W2 f j i n2) (λe=>d.2.2 p pl (Ne.symm b) e) (λe=>d.2.2 q N.1 (Ne.symm n2) e) d.2.1
theorem B6{l H:a5 Pt}(I:m6 l H):H.Nodup:=by rcases I.way with⟨x,rfl,_⟩|w;simp;exact w.nodup
theorem Gu{l H:a5 Pt}(I:m6 l H):H≠[]:=by rcases I.way with⟨x,rfl,_⟩|w;simp;cases w<;>simp
theorem PD{l H:a5 Pt}(hl:l≠[])(I:m6 l H)(o:3<=H.length):Simp H where
 len:=o
 nd:=B6 I
 far:=by
  intro e c f g d n2 n h;cases m:meet e.1 e.2 f.1 f.2 with
 |false=>rfl
 |true=>exfalso;obtain⟨i,j,k,r,w⟩:=nV m;have L:=w.Em e.1 e.2;rw[jC,jB]at L;have a:=mr hl I (p:=e.1) (q:=e.2) c (nN g).1 (Ne.symm d) (Ne.symm n);have b:=mr hl I (p:=e.1) (q:=e.2) c (nN g).2 (Ne.symm n2) (Ne.symm h);have t:=aE w.hk (show 0<=ag e.1 e.2 f.1-1 by lia);have s:=aE w.hl (show 0<=ag e.1 e.2 f.2-1 by lia);have:=w.p;have:=w.e;grind
 on:=by
  intro z hz e c d n2;cases m:onSeg z e.1 e.2 with
 |false=>rfl
 |true=>exfalso;have a:=mr hl I (p:=e.1) (q:=e.2) c hz d n2;have:=(fU.mp m).1;lia
theorem DZ(p:Pt):∀(l:a5 Pt)(a z:Pt),(∀e∈way (a::l++[z]),0<=ag e.1 e.2 p)->ka p z-ka p a<=lR (a::l++[z])
|[],a,z,h=>by
  have d:0<=ag a z p:=h (a,z) (by simp[way]);have t:=Cp a z p;have:ka z p = - ka p z:=by simp only[ka];grind
  show _<=ka a z+0;lia
|b::l,a,z,h=>by
  have d:=h (a,b) (by simp[way]);have f:=DZ p l b z (λe c=>h e (by simp only[aU,way]at c⊢;exact ah _ c));have t:=Cp a b p;have:ka b p = - ka p b:=by simp only[ka];grind
  show _<=ka a b+lR (b::l++[z]);simp only at d;lia
theorem PF{l H:a5 Pt}(hl:l≠[])(I:m6 l H):vR H where
 ne:=Gu I
 area:=by
  obtain⟨a,r,rfl⟩:=dY (Gu I);rw[fe];have:=DZ a r a a (λe s=>by by_cases f:a=e.1;rw[<- f,jC];lia;by_cases d:a=e.2;rw[<- d,jB];lia;have:=mr hl I (p:=e.1) (q:=e.2) s (r:=a) #v[0] f d;lia)
  lia
 low:=by intro q o;have n:=AO I q o hl;obtain⟨p,r,rfl⟩:=dY hl;rw[I.low p r rfl];exact(mV r p).2 q n
 go:=by
  intro A;have nd:=B6 I;obtain⟨a,b,c,r,rfl⟩:=ex3 A;rw[h8,bf];intro t m;obtain⟨u,v,e⟩:=rW m;have sub:∀x,x∈way (a::b::(c::r)++[a,b])->x∈rg (a::b::c::r):=by intro x g;rw[rX]at g;rcases aI.mp g with k|k;exact k;rw[bA]at k;subst k;show(a,b)∈way (a::b::(c::r++[a]));simp[way]
  have f:(t.1,t.2.1)∈rg (a::b::c::r):=sub _ (by rw[e];have:=tP u t.1 t.2.1 (t.2.2::v);simpa using this)
  have d:(t.2.1,t.2.2)∈rg (a::b::c::r):=sub _ (by rw[e];have:=tP (u++[t.1]) t.2.1 t.2.2 v;simpa using this)
  have m1:=nN f;have m2:=nN d;obtain⟨w,wm,w1,w2⟩:∃w∈a::b::c::r,w≠t.1/\w≠t.2.1:=by simp only[bg,aq,not_or]at nd;by_cases z:a≠t.1/\a≠t.2.1;exact⟨a,#v[0],z⟩;by_cases y:b≠t.1/\b≠t.2.1;exact⟨b,#v[0],y⟩;refine⟨c,#v[0],?_⟩;grind
  have h:=mr hl I f wm w1 w2;have B:t.1≠t.2.1:=λq=>by rw[q,]at h;simp only[ag]at h;grind
  have i:t.2.1≠t.2.2:=λq=>by rcases I.way with⟨x,g,_⟩|W;simp at g;exact(Ex W _ d).2.1 q.symm
  apply sP;by_cases q:t.2.2=t.1;exfalso;rw[q]at d;have j:=mr hl I d wm w2 w1;simp only[ag]at h j;grind;have:=mr hl I f m2.2 q (Ne.symm i);simp only at this;lia
def cnt(P:Int->Bool)(a:Int):Nat->Int
|0=>0
|n+1=>(if P a=true then 1 else 0)+cnt P (a+1) n
theorem ub(P:Int->Bool):∀(m n:Nat)(a:Int),cnt P a (m+n)=cnt P a m+cnt P (a+m) n
|0,n,a=>by simp[cnt]
|m+1,n,a=>by
  have e:m+1+n=(m+n)+1:=#v[]
  have b:=ub P m n (a+1);have c:a+1+(m:Int)=a+((m+1:Nat):Int):=#v[]
  rw[e];simp only[cnt];rw[b,c];lia
theorem jx{P Q:Int->Bool}:∀(n:Nat)(a:Int),(∀z,a<=z->z<a+n->P z=Q z)->cnt P a n=cnt Q a n
|0,a,_=>rfl
|n+1,a,h=>by simp only[cnt];rw[h a #v[] #v[],jx n (a+1) λz c b=>h z #v[] #v[]]
theorem nY(b:Bool):∀(n:Nat)(a:Int),cnt (λ_=>b) a n=if b=true then(n:Int) else 0
|0,a=>by cases b<;>simp[cnt]
|n+1,a=>by simp only[cnt,nY b n (a+1)];cases b<;>simp;lia
theorem TM{P:Int->Bool}{u v:Int}(o:u<=v){n:Nat}{a:Int}(q:a<=u)(p:v<=a+n)(d:∀z,u<=z->z<v->P z=false):
  cnt (λz=>P z||(decide (u<=z)&&decide (z<v))) a n=cnt P a n+(v-u):=by
 obtain⟨i,hi⟩:∃i:Nat,u=a+i:=⟨(u-a).toNat,#v[]⟩;obtain⟨j,hj⟩:∃j:Nat,v=u+j:=⟨(v-u).toNat,#v[]⟩;obtain⟨k,hk⟩:∃k:Nat,n=i+(j+k):=⟨n-(i+j),#v[]⟩;subst hk;rw[ub,ub,ub P,ub P];have h:cnt (λz=>P z||(decide (u<=z)&&decide (z<v))) a i=cnt P a i:=jx _ _ λz c b=>by
  have:¬u<=z:=#v[]
  simp[this]
 have g:cnt (λz=>P z||(decide (u<=z)&&decide (z<v))) (a+i) j=j:=by
  have:cnt (λz=>P z||(decide (u<=z)&&decide (z<v))) (a+i) j=cnt (λ_=>true) (a+i) j:=jx _ _ λz c b=>by
   have m:u<=z:=#v[]
   have l:z<v:=#v[]
   simp[m,l]
  rw[this,nY];rfl
 have e2':cnt P (a+i) j=0:=by have:cnt P (a+i) j=cnt (λ_=>false) (a+i) j:=jx _ _ λz c b=>d z #v[] #v[];rw[this,nY];rfl
 have f:cnt (λz=>P z||(decide (u<=z)&&decide (z<v))) (a+i+j) k=cnt P (a+i+j) k:=jx _ _ λz c b=>by
  have:¬z<v:=#v[]
  simp[this]
 rw[h,g,f,e2'];lia
def vO(S:a5 (Int×Int))(z:Int):Bool:=S.any λs=>decide (s.1<=z)&&decide (z<s.2)
def Cq:a5 (Int×Int)->Int->Int->Int
|[],_,len=>len
|s::S,a,len=>if a<s.2 then Cq S s.2 (len+(s.2-max s.1 a)) else Cq S a len
def qu(S:a5 (Int×Int)):Int:=match S with
|[]=>0
|s::r=>Cq (s::r) s.1 0
theorem ua(D:a5 (Int×Int))(s:Int×Int)(z:Int):vO (D++[s]) z=(vO D z||(decide (s.1<=z)&&decide (z<s.2))):=by simp[vO,List.any_append]
theorem yD{a:Int}{n:Nat}:∀(S D:a5 (Int×Int))(b len:Int),(D++S).Pairwise (λs t=>s.1<=t.1)->(∀s∈D++S,a<=s.1/\s.1<=s.2/\s.2<=a+n)->a<=b →
  len=cnt (vO D) a n->(∀s∈D,s.2<=b)->(∀s∈S,∀z,s.1<=z->z<b->vO D z=true)->Cq S b len=cnt (vO (D++S)) a n
|[],D,b,len,_,_,_,hl,_,_=>by simp[Cq,hl]
|s::S,D,b,len,g,bd,o,hl,j,i=>by
  have e:D++s::S=(D++[s])++S:=#v[0]
  have bs:=bd s #v[0];have m:∀t∈S,s.1<=t.1:=by rw[vc,bH]at g;exact g.2.1.1
  unfold Cq;by_cases c:b<s.2;rw[if_pos c,e];refine yD S (D++[s]) s.2 _ (by rw[<- e];exact g) (by rw[<- e];exact bd) #v[] ?_ ?_ ?_;have:cnt (vO (D++[s])) a n=cnt (λz=>vO D z||(decide (max s.1 b<=z)&&decide (z<s.2))) a n:=jx _ _ λz _ _=>by
   rw[ua];by_cases k:s.1<=z/\z<b;rw[i s #v[0] z k.1 k.2];simp;by_cases l:s.1<=z;have:max s.1 b<=z:=#v[]
   simp[l,this];have:¬max s.1 b<=z:=#v[]
   simp[l,this]
  rw[this];have q:max s.1 b<=s.2:=#v[]
  rw[TM q #v[] bs.2.2,hl];intro z h f;cases w:vO D z with
 |false=>rfl
 |true=>exfalso;simp only[vO,bS,aZ,decide_eq_true_eq]at w;obtain⟨t,d,u,r⟩:=w;have:=j t d;lia
  intro t d;rcases aI.mp d with q|q;have:=j t q;lia;simp at q;subst q;lia;intro t d z h f;have:=m t d;rw[ua];have p:s.1<=z:=#v[]
  simp[p,f];rw[if_neg c,e];refine yD S (D++[s]) b _ (by rw[<- e];exact g) (by rw[<- e];exact bd) o ?_ ?_ ?_;rw[hl];refine jx _ _ λz _ _=>?_;rw[ua];by_cases k:s.1<=z/\z<s.2;rw[i s #v[0] z k.1 #v[]];simp;have:(decide (s.1<=z)&&decide (z<s.2))=false:=by rw[<- a8,aZ,decide_eq_true_eq,decide_eq_true_eq];exact k
  rw[this];simp;intro t d;rcases aI.mp d with q|q;exact j t q;simp at q;subst q;lia;intro t d z h f;rw[ua,i t (ah _ d) z h f];rfl
theorem JH{S:a5 (Int×Int)}{a:Int}{n:Nat}(b:S.Pairwise (λs t=>s.1<=t.1))(bd:∀s∈S,a<=s.1/\s.1<=s.2/\s.2<=a+n):qu S=cnt (vO S) a n:=by
 match S,b,bd with
|[],_,_=>have:cnt (vO []) a n=cnt (λ_=>false) a n:=jx _ _ λz _ _=>rfl;rw[this,nY];rfl
|s::S,b,bd=>refine yD (s::S) [] s.1 0 b bd (bd s #v[0]).1 ?_ #v[0] ?_;have:cnt (vO []) a n=cnt (λ_=>false) a n:=jx _ _ λz _ _=>rfl;rw[this,nY];rfl;intro t c z f d;rw[bH]at b;rcases aq.mp c with q|q;subst q;lia;have:=b.1 t q;lia
theorem Bf{P:Int->Bool}{f:Int×Int->Bool}:∀(c:a5 Int)(a:Int),(a::c).Pairwise (· < ·)->(∀y∈n9 (a::c),∀z,y.1<=z->z<y.2->P z=f y) →
  ∃n:Nat,a+n=(a::c).getLastD a/\((n9 (a::c)).map λy=>if f y=true then y.2-y.1 else 0).sum=cnt P a n
|[],a,_,_=>⟨0,#v[0],by simp[n9,cnt]⟩
|b::c,a,d,h=>by
  have p:=d;rw[bH]at d;have q:=d.1 b #v[0];obtain⟨n,l,j⟩:=Bf c b d.2 (λy i=>h y (by simp only[n9];exact ah _ i));obtain⟨m,hm⟩:∃m:Nat,b=a+m:=⟨(b-a).toNat,#v[]⟩;refine⟨m+n,?_,?_⟩;have:(a::b::c).getLastD a=(b::c).getLastD b:=rfl;rw[this,<- l];lia;simp only[n9,a9,m7];rw[j,ub,<- hm];have k:cnt P a m=cnt (λ_=>f (a,b)) a m:=jx _ _ λz g o=>h (a,b) (by simp[n9]) z g (by show z<b;lia);rw[k,nY];have:((m:Nat):Int)=b-a:=#v[]
  rw[this]
theorem Be:∀(d:a5 Int),d.Pairwise (· < ·)->∀y∈n9 d,y.1<y.2/\y.1∈d/\y.2∈d/\∀e∈d,e<=y.1\/y.2<=e
|[],_,y,c=>by simp[n9]at c
|[a],_,y,c=>by simp[n9]at c
|a::b::l,f,y,c=>by rw[bH]at f;simp only[n9,aq]at c;rcases c with c|c;subst c;have h:=f.2;rw[bH]at h;refine⟨f.1 b #v[0],#v[0],#v[0],λe g=>?_⟩;simp only[aq]at g;rcases g with q|q|q;left;show e<=a;lia;right;show b<=e;lia;right;have:=h.1 e q;show b<=e;lia;obtain⟨m,i,k,j⟩:=Be (b::l) f.2 y c;refine⟨m,ah _ i,ah _ k,λe g=>?_⟩;rcases aq.mp g with q|q;left;have:=f.1 y.1 i;lia;exact j e q
theorem KL{S:a5 (Int×Int)}{g:a5 Int}(d:g.Pairwise (· < ·))(c:∀s∈S,s.1∈g/\s.2∈g)(o:∀s∈S,s.1<=s.2)(so:S.Pairwise (λs t=>s.1<=t.1)):
  ((n9 g).map λy=>if(S.any λs=>decide (s.1<=y.1)&&decide (y.2<=s.2))=true then y.2-y.1 else 0).sum=qu S:=by
 match g,d,c with
|[],_,c=>
  match S,c with
 |[],_=>rfl
 |s::S,c=>have:=(c s #v[0]).1;simp at this
|a::g,d,c=>
  obtain⟨n,v,u⟩:=Bf (P:=vO S) (f:=λy=>S.any λs=>decide (s.1<=y.1)&&decide (y.2<=s.2)) g a d (λy m z x w=>by obtain⟨E,D,C,j⟩:=Be _ d y m;unfold vO;apply cW;simp only[bS,aZ,decide_eq_true_eq];constructor;rintro⟨s,i,r,p⟩;have B:=j s.1 (c s i).1;have A:=j s.2 (c s i).2;exact⟨s,i,#v[],#v[]⟩;rintro⟨s,i,r,p⟩;exact⟨s,i,#v[],#v[]⟩)
  rw[u];symm;refine JH so λs h=>?_;have lo:∀e∈a::g,a<=e:=by intro e c;rw[bH]at d;rcases aq.mp c with q|q;lia;have:=d.1 e q;lia
  have hi:∀(l:a5 Int)(a:Int),(a::l).Pairwise (· < ·)->∀e∈a::l,e<=(a::l).getLastD a:=by
   intro l
   induction l with
  |nil=>intro a _ e c;simp at c⊢;lia
  |cons b l k=>intro a d e c;rw[bH]at d;have q:=k b d.2;have:(a::b::l).getLastD a=(b::l).getLastD b:=rfl;rw[this];rcases aq.mp c with z|z;have:=q b #v[0];have:=d.1 b #v[0];lia;exact q e z
  exact⟨lo _ (c s h).1,o s h,by rw[v];exact hi g a d _ (c s h).2⟩
theorem yh(z:Int):∀(l:a5 Int)(e:Int),e∈US z l↔e=z\/e∈l
|[],e=>by simp[US]
|y::l,e=>by
  unfold US;split;simp;split
  next h=>subst h;simp
  have:=yh z l e;simp only[aq,this];grind
theorem wz(z:Int):∀(l:a5 Int),l.Pairwise (· < ·)->(US z l).Pairwise (· < ·)
|[],_=>by simp[US]
|y::l,a=>by
  have c:=a;rw[bH]at a;unfold US;split
  next h=>rw[bH];refine⟨λe b=>?_,c⟩;rcases aq.mp b with q|q;lia;have:=a.1 e q;lia
  next h=>
   split;exact c
   next d=>rw[bH];refine⟨λe b=>?_,wz z l a.2⟩;rcases(yh z l e).mp b with q|q;lia;exact a.1 e q
theorem vj(l:a5 Int)(e:Int):e∈mP l↔e∈l:=by
 induction l with
|nil=>simp[mP]
|cons a l b=>show e∈US a (mP l)↔_;rw[yh,b];simp
theorem uL(l:a5 Int):(mP l).Pairwise (· < ·):=by
 induction l with
|nil=>simp[mP]
|cons a l b=>exact wz a _ b
theorem JR:∀{k l:a5 Int},k.Pairwise (· < ·)->l.Pairwise (· < ·)->(∀e,e∈k↔e∈l)->k=l
|[],[],_,_,_=>rfl
|[],b::l,_,_,h=>by have:=(h b).mpr #v[0];simp at this
|a::k,[],_,_,h=>by have:=(h a).mp #v[0];simp at this
|a::k,b::l,d,pl,h=>by
  rw[bH]at d pl;have e:a=b:=by have j:=(h a).mp #v[0];have i:=(h b).mpr #v[0];rcases aq.mp j with q|q;exact q;rcases aq.mp i with f|f;exact f.symm;have:=d.1 b f;have:=pl.1 a q;lia
  subst e;rw[JR d.2 pl.2 λe=>?_];have g:=h e;simp only[aq]at g;constructor;intro c;have:=d.1 e c;rcases g.mp (.inr c) with q|q;lia;exact q;intro c;have:=pl.1 e c;rcases g.mpr (.inr c) with q|q;lia;exact q
def dd:a5 Int->a5 Int
|a::b::l=>if a=b then dd (b::l) else a::dd (b::l)
|l=>l
theorem LR:∀(l:a5 Int)(e:Int),e∈dd l↔e∈l
|[],e=>by simp[dd]
|[a],e=>by simp[dd]
|a::b::l,e=>by
  have c:=LR (b::l) e;unfold dd;split
  next h=>subst h;rw[c];simp
  simp only[aq]at c⊢;rw[c]
theorem EK:∀(l:a5 Int),l.Pairwise (·<=·)->(dd l).Pairwise (· < ·)
|[],_=>by simp[dd]
|[a],_=>by simp[dd]
|a::b::l,c=>by
  rw[bH]at c;have f:=EK (b::l) c.2;unfold dd;split;exact f
  next h=>rw[bH];refine⟨λe i=>?_,f⟩;have g:=(LR (b::l) e).mp i;have j:=c.1 b #v[0];have d:=c.2;rw[bH]at d;rcases aq.mp g with q|q;lia;have:=d.1 e q;lia
theorem Tq(f:Int->Int->Int):∀(l:a5 Int),((l.zip l.tail).map λp=>(p.2-p.1)*f p.1 p.2).sum=((n9 (dd l)).map λp=>(p.2-p.1)*f p.1 p.2).sum
|[]=>by simp[dd,n9]
|[a]=>by simp[dd,n9]
|a::b::l=>by
  have d:=Tq f (b::l);simp only[List.tail_cons,du,a9,m7]at d⊢;rw[d];by_cases h:a=b;subst h;have:dd (a::a::l)=dd (a::l):=by simp[dd]
  rw[this];simp;have e:dd (a::b::l)=a::dd (b::l):=by simp[dd,h]
  rw[e];obtain⟨t,ht⟩:∃t,dd (b::l)=b::t:=by
   have:∀(l:a5 Int)(b:Int),∃t,dd (b::l)=b::t:=by
    intro l
    induction l with
   |nil=>intro b;exact⟨[],rfl⟩
   |cons c l d=>
     intro b;unfold dd;split
     next h=>subst h;exact d b
     exact⟨_,rfl⟩
   exact this l b
  rw[ht];simp only[n9,a9,m7]
abbrev Bo:=Int×Int×Int×Int
def TK(l:a5 Bo)(xs:a5 Int)(so:a5 (Int×Int)->a5 (Int×Int)):Int:=
 ((xs.zip xs.tail).map λp=>(p.2-p.1)*qu (so ((l.filter λb=>decide (b.1<=p.1)&&decide (p.2<=b.2.2.1)).map λb=>(b.2.1,b.2.2.2)))).sum
theorem Ow(l:a5 Int):l.foldl (· + ·) 0=l.sum:=by
 have:∀(l:a5 Int)(s:Int),l.foldl (· + ·) s=s+l.sum:=by
  intro l
  induction l with
 |nil=>intro s;simp
 |cons a l b=>intro s;rw[bJ,b,m7];lia
 rw[this];lia
theorem yW{α:Type}(f:α->a5 Int):∀(l:a5 α),(l.flatMap f).sum=(l.map λx=>(f x).sum).sum
|[]=>rfl
|a::l=>by rw[dW,Xq,yW f l];rfl
theorem D0{α:Type}(c:Int)(f:α->Int):∀(l:a5 α),(l.map λx=>c*f x).sum=c*(l.map f).sum
|[]=>by simp
|a::l=>by simp only[a9,m7];rw[D0 c f l,Int.mul_add]
theorem TJ{l:a5 Bo}{xs:a5 Int}{so:a5 (Int×Int)->a5 (Int×Int)}(o:xs.Pairwise (·<=·))(n:∀e,e∈xs↔∃b∈l,e=b.1\/e=b.2.2.1)(p:∀S,(so S).Pairwise (λs t=>s.1<=t.1)/\∀s,s∈so S↔s∈S)(q:∀b∈l,b.2.1<=b.2.2.2):TK l xs so=uJ l:=by
 unfold TK uJ;rw[Tq (λu v=>qu (so ((l.filter λb=>decide (b.1<=u)&&decide (v<=b.2.2.1)).map λb=>(b.2.1,b.2.2.2)))) xs];have ex:dd xs=mP (l.flatMap λb=>[b.1,b.2.2.1]):=by refine JR (EK xs o) (uL _) λe=>?_;rw[LR,vj,n];simp
 rw[ex,Ow,yW];refine congrArg List.sum (i8 λx _=>?_);have k:=uL (l.flatMap λb=>[b.2.1,b.2.2.2]);obtain⟨m,c⟩:=p ((l.filter λb=>decide (b.1<=x.1)&&decide (x.2<=b.2.2.1)).map λb=>(b.2.1,b.2.2.2));rw[<- KL k (λs h=>?_) (λs h=>?_) m,<- D0];refine congrArg List.sum (i8 λy _=>?_);have:((so ((l.filter λb=>decide (b.1<=x.1)&&decide (x.2<=b.2.2.1)).map λb=>(b.2.1,b.2.2.2))).any λs=>decide (s.1<=y.1)&&decide (y.2<=s.2))=(l.any λb=>decide (b.1<=x.1/\x.2<=b.2.2.1/\b.2.1<=y.1/\y.2<=b.2.2.2)):=by apply cW;simp only[bS,aZ,decide_eq_true_eq];constructor;rintro⟨s,f,j,i⟩;rw[c]at f;obtain⟨b,a,rfl⟩:=bh.mp f;obtain⟨d,g⟩:=eR.mp a;simp only[aZ,decide_eq_true_eq]at g;exact⟨b,d,g.1,g.2,j,i⟩;rintro⟨b,f,j,i,w,r⟩;refine⟨(b.2.1,b.2.2.2),?_,w,r⟩;rw[c];exact bh.mpr ⟨b,eR.mpr ⟨f,by simp[j,i]⟩,rfl⟩
 rw[this];split<;>simp;rw[c]at h;obtain⟨b,a,rfl⟩:=bh.mp h;have d:=(eR.mp a).1;rw[vj,vj,kz,kz];exact⟨⟨b,d,#v[0]⟩,⟨b,d,#v[0]⟩⟩;rw[c]at h;obtain⟨b,a,rfl⟩:=bh.mp h;exact q b (eR.mp a).1
theorem Ep{a b:Pt}:cD a b=0↔a=b:=by constructor;intro h;have e:=eA a b;rw[h]at e;have:=gh (a.x-b.x);have:=gh (a.y-b.y);apply fk;by_cases q:a.x-b.x=0;lia;have:=sq_pos q;lia;by_cases q:a.y-b.y=0;lia;have:=sq_pos q;lia;rintro rfl;simp[cD,sq]
theorem VG{z:Int}:sq z=0↔z=0:=by unfold sq;constructor;intro h;rcases Yx.mp h with k|k<;>lia;rintro rfl;rfl
theorem pG(p a b:Pt):(ba p a b).num=0↔onSeg p a b=true:=by
 have g:cP (sub a p) (sub b p)=(cD p a:Int)-cP (sub p a) (sub b a):=by rw[eA];simp only[cP,sub];grind
 have f:cP (sub a p) (sub b p)=(cD p b:Int)-((cD a b:Int)-cP (sub p a) (sub b a)):=by rw[eA,eA];simp only[cP,sub];grind
 have d:(cD p a:Int)*(cD a b:Int)=cP (sub p a) (sub b a)*cP (sub p a) (sub b a)+ag a b p*ag a b p:=by rw[eA,eA];simp only[cP,sub,ag];grind
 rw[fU];unfold ba;simp only;split
 next h=>show cD p a=0↔_;constructor;intro z;have:=Ep.mp z;subst this;exact⟨jC p b,by simp[cP,sub]⟩;rintro⟨_,c⟩;lia
 next h=>
  split
  next h'=>show cD p b=0↔_;constructor;intro z;have:=Ep.mp z;subst this;exact⟨jB a p,by simp[cP,sub]⟩;rintro⟨_,c⟩;lia
  next h'=>
   show sq (ag a b p)=0↔_;rw[VG];constructor;intro z;refine⟨z,?_⟩;rw[z,cF,eV]at d;have k:0<(cD a b:Int):=#v[]
   have n:=aE (show 0<=cP (sub p a) (sub b a) by lia) (show 0<=(cD a b:Int)-cP (sub p a) (sub b a) by lia);have:0<=(cP (sub p a) (sub b a)-(cD p a:Int)):=by apply qg k;grind
   lia;exact λh=>h.1
theorem uZ.symm{k l:a5 Pt}{f:Frac}(h:uZ k l f):uZ l k f:=⟨h.1.symm,h.2.2,h.2.1⟩
theorem zr(k l:a5 Pt):common l k=common k l:=by
 unfold common;have:((aO l).any λe=>(aO k).any λf=>fh e.1 e.2 f.1 f.2)=((aO k).any λe=>(aO l).any λf=>fh e.1 e.2 f.1 f.2):=by apply cW;simp only[bS];constructor;rintro⟨e,b,f,a,m⟩;exact⟨f,a,e,b,by rw[nL];exact m⟩;rintro⟨e,b,f,a,m⟩;exact⟨f,a,e,b,by rw[nL];exact m⟩
 rw[this,oN (encl l _)]
theorem PN{k l:a5 Pt}(hk:k≠[])(hl:l≠[]):aT l k=aT k l:=by
 cases c:common k l with
|true=>rw[jf hk hl c,jf hl hk (by rw[zr];exact c)]
|false=>have L:=kI hk hl;rw[<- (lG hk hl c L).2,<- (lG hl hk (by rw[zr];exact c) L.symm).2]
theorem aac{l:a5 Pt}{p:Pt}(h:p∈l):il l p=true:=by obtain⟨e,a,k⟩:=pq h;unfold il;rw[bS];refine⟨e,a,?_⟩;rcases k with k|k;rw[<- k];exact Bw _ _;rw[<- k,fT];exact Bw _ _
theorem AK{q p:Pt}(h:onSeg q p p=true):q=p:=by
 obtain⟨i,j,w⟩:=w_on h;have e:=w.e;have a:=w.p;have x:=w.x;have y:=w.y;apply fk;have:(i+j)*(q.x-p.x)=0:=by grind
 rcases bE.mp this with z|z<;>lia;have:(i+j)*(q.y-p.y)=0:=by grind
 rcases bE.mp this with z|z<;>lia
theorem LN{l:a5 Pt}(hl:l≠[])(p:Pt):(aT [p] l).num=0↔pR l p=true:=by
 constructor;intro z;cases i:pR l p with
|true=>rfl
|false=>
  exfalso;unfold pR at i;rw[cM]at i;obtain⟨b,q⟩:=i;have n:∀e∈aO l,onSeg p e.1 e.2=false:=by intro e a;unfold il at b;rw[eD]at b;exact(a8 _).mp (b e a)
  have c:common [p] l=false:=by
   unfold common;rw[cM,cM];refine⟨?_,?_,?_⟩;rw[eD];intro e a;have:e=(p,p):=by simpa [aO] using a
   subst this;rw[a8,eD];intro f o;rw[a8,jl,<- nO];exact n f o;simp[encl];show encl l p=false;rw[xa b];exact q
  have L:=kI (k:=[p]) (l:=l) #v[0] hl;obtain⟨j,_⟩:=lG #v[0] hl c L;rw[z,Nat.zero_mul]at j;have dp:=oC (k:=[p]) (l:=l) #v[0] hl;have g:(Frac.least (cO (eB [p] l)) (cO (eB l [p]))).num=0:=by rcases Yx.mp j with k|k;exact k;lia
  rcases L.1 with m|m;obtain⟨x,d,e,a,k⟩:=dZ.mp m;simp at d;subst d;rw[k,pG,n e a]at g;exact aD g;obtain⟨x,d,e,a,k⟩:=dZ.mp m;have:e=(p,p):=by simpa [aO] using a
  subst this;rw[k,pG]at g;have:=AK g;subst this;rw[aac d]at b;exact aD b
 intro h;unfold aT;rw[if_pos (by simp[h])];rfl
theorem Q7(n:Nat)(f:Frac):(Frac.whole n).le f=decide (n*f.den<=f.num):=by simp[Frac.le,Frac.whole]
theorem Pz{a:Shape}{b:a5 Pt}{m:Nat}(i:a.pts≠[])(n:3<=b.length)(q:1<=m):
  A4 a b m=(((aO b).all λe=>(Frac.whole ((a.r+m)*(a.r+m))).le (aT a.pts [e.1,e.2]))&&encl b (a.pts.headD ⟨0,0⟩)):=by
 unfold A4;cases h:(aO b).all λe=>(Frac.whole ((a.r+m)*(a.r+m))).le (aT a.pts [e.1,e.2]) with
|false=>simp
|true=>
  rw[k8,gr];have pn:b≠[]:=by rintro rfl;simp at n
  have cl:Clear b a.pts:=by
   intro e o d hd;have k:=bf.mp h e o;rw[Q7,decide_eq_true_eq]at k;have dd:=oC (k:=a.pts) (l:=[e.1,e.2]) i #v[0];have pos:0<(a.r+m)*(a.r+m):=Qm #v[] #v[];have j:=Qm pos dd;cases c:common a.pts [e.1,e.2] with
  |true=>rw[jf i #v[0] c]at k j;simp only[Frac.whole]at k j;lia
  |false=>unfold common at c;rw[cM,eD]at c;have:=c.1 d hd;rw[a8,eD]at this;have:=this (e.1,e.2) (by simp[aO]);rw[a8,jl,meet_comm]at this;exact this
  have g:=ql i ⟨0,0⟩;have all1:∀p∈a.pts,pR b p=encl b (a.pts.headD ⟨0,0⟩):=by intro p f;unfold pR;rw[cl.off f,jL,cl.M3 f g,xa (cl.off g)]
  cases e:encl b (a.pts.headD ⟨0,0⟩) with
 |true=>rw[bf];intro p f;rw[all1 p f,e]
 |false=>rw[<- a8,bf];intro k;have:=k _ g;rw[all1 _ g,e]at this;exact aD this
theorem Q8{a:Shape}(c:a.pts≠[])(p:Pt):Hs a p =
  (if(aT [p] a.pts).le (.whole (a.r*a.r))=false then 0 else if a.r=0 then(if il a.pts p=true then 1 else 2)
   else if(Frac.whole (a.r*a.r)).le (aT [p] a.pts)=true then 1 else 2):=by
 unfold Hs;simp only;rw[PN (k:=[p]) (l:=a.pts) #v[0] c];have dd:=oC (k:=[p]) (l:=a.pts) #v[0] c;by_cases b:a.r=0;rw[if_pos b,if_pos b,b];have e:(aT [p] a.pts).le (Frac.whole (0*0))=pR a.pts p:=by apply cW;rw[le_iff,<- LN c p];simp[Frac.whole]
 rw[e];unfold pR;cases il a.pts p<;>cases odd a.pts p<;>simp;rw[if_neg b,if_neg b]
theorem mA{α:Type}{a:α}{l:a5 α}:a∈a::l:=.head _
theorem mB{α:Type}{a b:α}{l:a5 α}:a∈b::a::l:=.tail _ mA
theorem mC{α:Type}{a b c:α}{l:a5 α}:a∈b::c::a::l:=.tail _ mB
theorem M5{p q:Pt}(h:p≠q):p.x≠q.x\/p.y≠q.y:=by by_cases e:p.x=q.x;exact .inr λa=>h (fk e a);exact .inl e
theorem T3{p q r t:Pt}(F:vR [p,q,r,t])(h:∀e∈aO [p,q,r,t],e.1.x=e.2.x\/e.1.y=e.2.y):p.y=q.y/\q.x=r.x/\r.y=t.y/\t.x=p.x:=by
 have a1:=h (p,q) mA;have a2:=h (q,r) mB;have a3:=h (r,t) mC;have i:=h (t,p) (.tail _ mC);have g:=F.go #v[0];rw[h8,bf]at g;have c:=dA.mp (g (p,q,r) mA);have m:=dA.mp (g (q,r,t) mB);have l:=dA.mp (g (r,t,p) mC);have j:=dA.mp (g (t,p,q) (.tail _ mC));have l1:=c7.mp (F.low q mB);have l2:=c7.mp (F.low r mC);have l3:=c7.mp (F.low t (.tail _ mC));have f:=F.area;simp only[n6]at l1 l2 l3 a1 a2 a3 i c m l j;have B:=M5 c.1;have n2:=M5 m.1;have y:=M5 l.1;have x:=M5 j.1;have A:cw [p,q,r,t]=ag p q r+ag r t p:=by simp only[cw,aO,aL,de,du,aU,fQ,Up,bJ,Yz,ag];grind
 rw[A]at f;have d:=BY (z:=t) (a:=p) (b:=q) (g (t,p,q) (.tail _ mC)) (F.low t (.tail _ mC)) (F.low q mB);simp only[ag]at f d;rcases a1 with a1|a1;exfalso;have a4':t.y=p.y:=by rcases i with k|k;exfalso;apply d;rw[<- a1,k];simp;exact k
 have u:p.y<q.y:=#v[]
 have s:p.x<t.x:=#v[]
 rcases a2 with a2|a2;rcases a3 with a3|a3;lia;have:r.x=p.x:=#v[]
 have:r=p:=fk #v[] #v[];have w:r.y=p.y:=#v[]
 apply c.2.2;subst this;refine⟨by simp only[ag];grind,?_⟩;have e:cP (sub r q) (sub r q)=(r.x-q.x)*(r.x-q.x)+(r.y-q.y)*(r.y-q.y):=rfl;rw[e];have:=gh (r.x-q.x);have:=sq_pos (show r.y-q.y≠0 by lia);lia;have n:r.x=t.x:=by rcases a3 with k|k;exact k;lia
 have v:(q.x-p.x)*(r.y-p.y)-(q.y-p.y)*(r.x-p.x)+((t.x-r.x)*(p.y-r.y)-(t.y-r.y)*(p.x-r.x)) = - (2*((q.y-p.y)*(t.x-p.x))):=by rw[<- a1,<- a2,n,a4'];grind
 rw[v]at f;have:=br (show 0<q.y-p.y by lia) (show 0<t.x-p.x by lia);lia;have u:p.x<q.x:=#v[]
 have a4':t.x=p.x:=by rcases i with k|k;exact k;exfalso;apply d;rw[show q.y-t.y=0 by lia,show p.y-t.y=0 by lia];simp
 have s:p.y<t.y:=#v[]
 have a3':r.y=t.y:=by rcases a3 with k|k;exfalso;rcases a2 with o|o;lia;have:r=p:=fk #v[] #v[];apply c.2.2;subst this;refine⟨by simp only[ag];grind,?_⟩;have e:cP (sub r q) (sub r q)=(r.x-q.x)*(r.x-q.x)+(r.y-q.y)*(r.y-q.y):=rfl;rw[e];have:=gh (r.y-q.y);have:=sq_pos (show r.x-q.x≠0 by lia);lia;exact k
 have a2':q.x=r.x:=by rcases a2 with k|k;exact k;lia
 exact⟨a1,a2',a3',a4'⟩
end Sg
open PySem PySem.Spec PyProof.Rows
section
namespace L2
abbrev Key:=Sum Int Str
def Es:Key->ak->Bool
|.inl k,v=>Value.isInt k v
|.inr x,v=>Value.isStrOf x v
def afb(w:cu):Key->Int
|.inl k=>hashInt k
|.inr x=>hashStr w x
theorem iJ:∀{k:Key}{v:ak},Es k v=true->(∃i t,k=Sum.inl i/\v=Value.int i t)\/(∃x t,k=Sum.inr x/\v=Value.str x t)
|.inl i,v,h=>by obtain⟨t,e⟩:=Value.isInt_shape (k:=i) (v:=v) h;exact .inl ⟨i,t,rfl,e⟩
|.inr x,v,h=>by obtain⟨t,e⟩:=Value.isStrOf_shape (x:=x) (v:=v) h;exact .inr ⟨x,t,rfl,e⟩
theorem Pu(i:Int)(t:Tok):Es (.inl i) (.int i t)=true:=by simp[Es,Value.isInt]
theorem Pr(x:Str)(t:Tok):Es (.inr x) (.str x t)=true:=by simp[Es,Value.isStrOf]
theorem aaA(a b:Int):decide ((Sum.inl a:Key)=Sum.inl b)=(a == b):=by by_cases e:a=b;subst e;simp;have h:¬(Sum.inl a:Key)=Sum.inl b:=λq=>e (Sum.inl.inj q);rw[decide_eq_false h];exact(beq_eq_false_iff_ne.mpr e).symm
theorem aax(a b:Str):decide ((Sum.inr a:Key)=Sum.inr b)=decide (a=b):=by by_cases e:a=b;subst e;simp;have h:¬(Sum.inr a:Key)=Sum.inr b:=λq=>e (Sum.inr.inj q);rw[decide_eq_false h,decide_eq_false e]
theorem aaz(a:Int)(b:Str):decide ((Sum.inl a:Key)=Sum.inr b)=false:=decide_eq_false (λq=>nomatch q)
theorem aay(a:Str)(b:Int):decide ((Sum.inr a:Key)=Sum.inl b)=false:=decide_eq_false (λq=>nomatch q)
def fq(prog:bC)(w:cu):PySem.KeyKind prog w Key where
 is:=Es
 hash:=afb w
 inj:=λv a b l f=>by rcases iJ l with⟨i,t,rfl,rfl⟩|⟨x,t,rfl,rfl⟩;rcases iJ f with⟨j,u,rfl,e⟩|⟨y,u,rfl,e⟩;injection e with c _;rw[c];exact nomatch e;rcases iJ f with⟨j,u,rfl,e⟩|⟨y,u,rfl,e⟩;exact nomatch e;injection e with c _;rw[c]
 byValue:=λk v h=>by rcases iJ h with⟨i,t,rfl,rfl⟩|⟨x,t,rfl,rfl⟩<;>rfl
 pyHash:=λd h=>by rcases iJ d with⟨i,t,rfl,rfl⟩|⟨x,t,rfl,rfl⟩;exact wpAny_pyHash_int h;exact wpAny_pyHash_str h
 eqBool:=λg d h=>by rcases iJ g with⟨i,t,rfl,rfl⟩|⟨x,t,rfl,rfl⟩;rcases iJ d with⟨j,u,rfl,rfl⟩|⟨y,u,rfl,rfl⟩;rw[aaA]at h;exact wpAny_eqBool_int h;rw[aaz]at h;exact SeqAt.EqAt.int_str i t y u _ _ _ _ h;rcases iJ d with⟨j,u,rfl,rfl⟩|⟨y,u,rfl,rfl⟩;rw[aay]at h;exact SeqAt.EqAt.str_int x t j u _ _ _ _ h;rw[aax]at h;exact wpAny_eqBool_str h
 «strs»:=λk x t v h=>by rcases iJ h with⟨i,u,rfl,e⟩|⟨y,u,rfl,e⟩;exact nomatch e;injection e with c _;subst c;cases v<;>rfl
theorem zi(prog:bC)(w:cu)(i:Int)(t:Tok):(fq prog w).is (.inl i) (.int i t)=true:=Pu i t
theorem Jb(prog:bC)(w:cu)(x:Str)(t:Tok):(fq prog w).is (.inr x) (.str x t)=true:=Pr x t
inductive V where
|jw|bl (b:Bool)|int (i:Int)|str (x:Str)|Yq (b:Array UInt8)|flt (b:UInt64)|ref (a:ao)|ty (n:String)
 deriving DecidableEq
def RelV:V->ak->Prop
|.jw,u=>u=Value.none
|.bl b,u=>u=Value.bool b
|.int i,u=>∃t,u=Value.int i t
|.str x,u=>∃t,u=Value.str x t
|.Yq b,u=>∃t,u=Value.bytes b t
|.flt b,u=>∃t,u=Value.float b t
|.ref a,u=>u=Value.ref a
|.ty n,u=>u=Value.type n
abbrev Vals:a5 V->a5 ak->Prop:=Paired RelV
theorem Vals.length{xs:a5 V}{us:a5 ak}(r:Vals xs us):xs.length=us.length:=Paired.length r
theorem Vals.get:∀{xs:a5 V}{us:a5 ak}{i:Nat}{x:V},Vals xs us->xs[i]? = some x->∃u,us[i]? = some u/\RelV x u
|_,_,_,_,.nil,e=>by simp at e
|_,_,0,_,.cons r _,e=>by simp at e;subst e;exact⟨_,rfl,r⟩
|_,_,i+1,x,.cons _ t,e=>by obtain⟨u,b,a⟩:=Vals.get (i:=i) (x:=x) t #v[e];exact⟨u,by simpa using b,a⟩
theorem Vals.set{x:V}{u:ak}(r:RelV x u):∀{xs:a5 V}{us:a5 ak}(i:Nat),Vals xs us->Vals (xs.set i x) (us.set i u)
|_,_,_,.nil=>.nil
|_,_,0,.cons _ t=>.cons r t
|_,_,i+1,.cons q t=>.cons q (Vals.set r i t)
theorem Vals.append:∀{xs a:a5 V}{us ws:a5 ak},Vals xs us->Vals a ws->Vals (xs++a) (us++ws)
|_,_,_,_,.nil,s=>s
|_,_,_,_,.cons r t,s=>.cons r (Vals.append t s)
theorem Vals.take:∀{xs:a5 V}{us:a5 ak}(n:Nat),Vals xs us->Vals (xs.take n) (us.take n)
|_,_,0,_=>.nil
|_,_,_+1,.nil=>.nil
|_,_,n+1,.cons r t=>.cons r (Vals.take n t)
theorem Vals.drop:∀{xs:a5 V}{us:a5 ak}(n:Nat),Vals xs us->Vals (xs.drop n) (us.drop n)
|_,_,0,r=>r
|_,_,_+1,.nil=>.nil
|_,_,n+1,.cons _ t=>Vals.drop n t
def yM:Option V->Option ak->Prop
|some v,some u=>RelV v u
|none,none=>True
|_,_=>False
def KV{κ:Type}:a5 (κ×V)->a5 (κ×ak)->Prop:=Paired λ(p:κ×V)(q:κ×ak)=>p.1=q.1/\RelV p.2 q.2
def kV:Key->V
|.inl i=>.int i
|.inr x=>.str x
inductive HO where
|lst (xs:List V)
|tup (xs:List V)
|dK (kvs:List (Key×V))|dT (kvs:List (List Key×V))
|set (S:Int->Bool) (n:Nat)
|ins (C dx:ao) (fs:List (Str×V))
|own(x:ao)
|xd (fs:List (Str×V))
|met (f x:ao)
|OE (lo hi:Int)
|sR (o:Obj) (u:HO)
|Zn (ps:Array ak)
|ext (φ:cY->Prop)
abbrev Hp:=ao->Option HO
def upd(H:Hp)(a:ao)(o:HO):Hp:=λb=>if b=a then some o else H b
theorem bZ{H:Hp}{a:ao}{o:HO}:upd H a o a=some o:=by unfold upd;rw[if_pos rfl]
theorem bP{H:Hp}{a b:ao}{o:HO}(h:b≠a):upd H a o b=H b:=by unfold upd;rw[if_neg h]
theorem X8{H:Hp}{a b:ao}{o u:HO}(h:H a=some o)(h':H b=some u)(d:o≠u):a≠b:=by intro e;subst e;rw[h]at h';exact d (aH h')
theorem cN{H:Hp}{a b:ao}{o:HO}(h:H a=some o)(h':H b=none):a≠b:=by intro e;subst e;rw[h]at h';cases h'
section
variable(P:bC)(w:cu)
def ie(H:Hp)(h:cY)(a:ao):HO->Prop
|.lst xs=>xs.length<=aQ/\∃(bK:a5 ak)(n:Nat),Vals xs bK/\h.get? a=some { cls:=.type "list",data:=.seq bK.toArray n }
|.tup xs=>xs.length<=aQ/\∃bK:a5 ak,Vals xs bK/\IsTup h a bK.toArray
|.dK b=>b.length<=aQ/\(a == jX)=false/\∃vs,KV b vs/\h.DictOf (fq P w) a vs
|.dT b=>b.length<=aQ/\(a == jX)=false/\∃xs:a5 (a5 Key×ao×ak),
   Paired (λ(p:a5 Key×V)(q:a5 Key×ao×ak)=>p.1=q.1/\H q.2.1=some (.tup (p.1.map kV))/\RelV p.2 q.2.2) b xs ∧
   ∃o i j,h.get? a=some o/\o.ExactDict/\o.data=.dict i j/\i.toList=xs.map (entryOfKey (zW (fq P w)))/\(xs.map (·.1)).Nodup
|.set S n=>h.SetOf (intKind P w) a S n
|.ins C dx fs=>H dx=some (.own a)/\fs.length<=1000/\dx≠a/\h.get? a=some (iC C dx) ∧
   ∃mA,h.Ns1 dx mA/\(∀f,yM (fs.lookup f) (mA f))/\PySem.Within mA (fs.map (·.1))
|.own _=>∃o,h.get? a=some o
|.xd fs=>∃mA,h.Ns1 a mA/\∀f,yM (fs.lookup f) (mA f)
|.OE lo hi=>∃t u v,h.get? a=some { cls:=.type "range",data:=.fields #[.int lo t,.int hi u,.int 1 v] }
|.sR o u=>h.get? a=some o/\ie H h a u
|.Zn ps=>h.get? a=some { cls:=.none,data:=.fields ps }
|.met f x=>h.get? a=some (xG (.ref f) (.ref x))
|.ext c=>c h/\(∃o,h.get? a=some o)/\∀g d:cY,c g->(∀o,g.get? a=some o->d.get? a=some o)->c d
def tG(H:Hp)(h:cY):Prop:=∀a o,H a=some o->ie P w H h a o
end
section
variable{P:bC}{w:cu}{H H':Hp}{h h':cY}{a:ao}{o:HO}
theorem ie.lt(x:ie P w H h a o):a<h.objs.size:=by
 cases o with
|lst xs=>obtain⟨_,_,_,_,e⟩:=x;exact Heap.lt_size e
|tup xs=>obtain⟨_,_,_,p⟩:=x;exact p.lt
|dK b=>obtain⟨_,_,_,_,o,_,_,e,_⟩:=x;exact Heap.lt_size e
|dT b=>obtain⟨_,_,_,_,o,_,_,e,_⟩:=x;exact Heap.lt_size e
|set S n=>obtain⟨o,_,_,_,e,_⟩:=x;exact Heap.lt_size e
|ins C dx fs=>obtain⟨_,_,_,e,_⟩:=x;exact Heap.lt_size e
|own y=>obtain⟨_,e⟩:=x;exact Heap.lt_size e
|xd fs=>obtain⟨_,⟨_,_,_,e,_⟩,_⟩:=x;exact Heap.lt_size e
|OE lo hi=>obtain⟨_,_,_,e⟩:=x;exact Heap.lt_size e
|sR d u=>obtain⟨e,_⟩:=x;exact Heap.lt_size e
|Zn ps=>exact Heap.lt_size (show h.get? a=some _ from x)
|met f y=>exact Heap.lt_size (show h.get? a=some _ from x)
|ext c=>obtain⟨_,⟨_,e⟩,_⟩:=x;exact Heap.lt_size e
theorem Paired.aar{α β:Type}{F G:α->β->Prop}:∀{d:a5 α}{c:a5 β},Paired F d c->(∀a b,F a b->G a b)->Paired G d c
|_,_,.nil,_=>.nil
|_,_,.cons r t,f=>.cons (f _ _ r) (Paired.aar t f)
theorem ie.HV(x:ie P w H h a o)(k:∀b u,(b=a\/H b=some (.own a))->h.get? b=some u->h'.get? b=some u)(B:∀b,H b=some (.own a)->H' b=some (.own a))(A:∀b xs,H b=some (.tup xs)->H' b=some (.tup xs)):ie P w H' h' a o:=by
 induction o with
|lst xs=>obtain⟨z,bK,n,r,e⟩:=x;exact⟨z,bK,n,r,k _ _ (.inl rfl) e⟩
|tup xs=>obtain⟨z,bK,r,g,e,c⟩:=x;exact⟨z,bK,r,g,k _ _ (.inl rfl) e,c⟩
|dK m=>obtain⟨z,y,vs,r,g,i,j,e,c⟩:=x;exact⟨z,y,vs,r,g,i,j,k _ _ (.inl rfl) e,c⟩
|dT m=>obtain⟨z,y,xs,r,g,i,j,e,c⟩:=x;exact⟨z,y,xs,Paired.aar r λp q z=>⟨z.1,A _ _ z.2.1,z.2.2⟩,g,i,j,k _ _ (.inl rfl) e,c⟩
|set S n=>obtain⟨g,i,j,t,e,c⟩:=x;exact⟨g,i,j,t,k _ _ (.inl rfl) e,c⟩
|ins C dx fs=>obtain⟨d,z,ne,e,mA,⟨l,i,j,D,c⟩,r⟩:=x;exact⟨B _ d,z,ne,k _ _ (.inl rfl) e,mA,⟨l,i,j,k _ _ (.inr d) D,c⟩,r⟩
|own y=>obtain⟨g,e⟩:=x;exact⟨g,k _ _ (.inl rfl) e⟩
|xd fs=>obtain⟨mA,⟨l,i,j,e,c⟩,r⟩:=x;exact⟨mA,⟨l,i,j,k _ _ (.inl rfl) e,c⟩,r⟩
|OE lo hi=>obtain⟨t,u,v,e⟩:=x;exact⟨t,u,v,k _ _ (.inl rfl) e⟩
|sR g u s=>obtain⟨e,q⟩:=x;exact⟨k _ _ (.inl rfl) e,s q⟩
|Zn ps=>have e:h.get? a=some { cls:=.none,data:=.fields ps }:=x;show h'.get? a=some { cls:=.none,data:=.fields ps };exact k a _ (.inl rfl) e
|met f y=>have e:h.get? a=some (xG (.ref f) (.ref y)):=x;show h'.get? a=some (xG (.ref f) (.ref y));exact k a _ (.inl rfl) e
|ext E=>obtain⟨p,⟨o,e⟩,st⟩:=x;exact⟨st _ _ p λo q=>k _ _ (.inl rfl) q,⟨o,k _ _ (.inl rfl) e⟩,st⟩
theorem tG.lt(x:tG P w H h)(e:H a=some o):a<h.objs.size:=(x a o e).lt
theorem tG.fresh(x:tG P w H h)(e:h.objs.size<=a):H a=none:=by
 cases q:H a with
|none=>rfl
|some u=>exact absurd (aR (x.lt q) e) (eQ _)
theorem tG.kept(x:tG P w H h)(k:∀b u,h.get? b=some u->h'.get? b=some u):tG P w H h':=λa o e=>(x a o e).HV (λb u _ q=>k b u q) (λ_ q=>q) λ_ _ q=>q
theorem tG.laid(x:tG P w H h)(k:∀b u,h.get? b=some u->h'.get? b=some u)(g:h.objs.size<=a)(new:ie P w (upd H a o) h' a o):tG P w (upd H a o) h':=λb u e=>by have d:=x.fresh g;by_cases f:b=a;subst f;rw[bZ]at e;cases e;exact new;rw[bP f]at e;exact(x b u e).HV (λc v _ q=>k c v q) (λc q=>by rw[bP (cN q d)];exact q) λc xs q=>by rw[bP (cN q d)];exact q
end
def Rd(H:Hp)(a:ao)(u:HO):Prop:=H a=some u\/∃o,H a=some (.sR o u)
theorem Rd.ok{P:bC}{w:cu}{H:Hp}{h:cY}{a:ao}{u:HO}(r:Rd H a u)(x:tG P w H h):ie P w H h a u:=by rcases r with r|⟨o,r⟩;exact x a u r;obtain⟨_,q⟩:=x a _ r;exact q
def Mut:Option HO->Prop
|some (.lst _)=>True
|some (.dK _)=>True
|some (.dT _)=>True
|some (.set _ _)=>True
|some (.ins _ _ _)=>True
|some (.ext _)=>True
|_=>False
section
variable{P:bC}{w:cu}{H:Hp}{h h':cY}{x e:ao}{o':HO}
theorem tG.write(ok:tG P w H h)(a:Mut (H x))(j:e=x\/H e=some (.own x))(k:∀b u,b≠e->h.get? b=some u->h'.get? b=some u)(n:∃u,h'.get? e=some u)(new:ie P w (upd H x o') h' x o'):tG P w (upd H x o') h':=λb u q=>by
 have i:∀c y,H c=some (.own y)->c≠x:=λc y r z=>by subst z;rw[r]at a;exact a
 have l:∀c xs,H c=some (.tup xs)->c≠x:=λc xs r z=>by subst z;rw[r]at a;exact a
 by_cases g:b=x;subst g;rw[bZ]at q;cases q;exact new;rw[bP g]at q;by_cases f:b=e;have q':H b=some (.own x):=by rcases j with z|z;exact absurd (f.trans z) g;rw[f];exact z
 rw[q]at q';cases q';obtain⟨v,m⟩:=n;exact⟨v,by rw[f];exact m⟩;refine(ok b u q).HV (λc v d r=>k c v ?_ r) (λc r=>by rw[bP (i c b r)];exact r) λc xs r=>by rw[bP (l c xs r)];exact r
 rcases d with rfl|d;exact f;rintro rfl;rcases j with z|z;exact i c b d z;rw[d]at z;cases z;exact g rfl
end
structure Un (fs ex:a5 ao) (H H':Hp) (h h':cY):Prop where
 keep:∀b o,h.get? b=some o->H b=none->b∉fs->b∉ex->h'.get? b=some o
 slot:∀b o,h.get? b=some o->H b=none->b∈fs->b∉ex->∃sl,h'.get? b=some { o with slots:=sl }
 free:∀b o,h.get? b=some o->H b=none->b∉ex->H' b=none
 there:∀b o,h.get? b=some o->b∉ex->∃o',h'.get? b=some o'
 z6:∀b xs,H b=some (.tup xs)->H' b=some (.tup xs)
 Gx:∀b o u,H b=some (.sR o u)->H' b=some (.sR o u)
 HN:∀b ps,H b=some (.Zn ps)->∃more,H' b=some (.Zn (ps++more))
section
variable{fs fs' ex ex':a5 ao}{H H1 H2:Hp}{h h1 h2 h':cY}{a x e:ao}{o:HO}
theorem Un.any(u:Un fs ex H H1 h h1){b:ao}{a:Obj}(q:h.get? b=some a)(n:H b=none)(c:b∉ex):∃sl,h1.get? b=some { a with slots:=sl }:=by by_cases d:b∈fs;exact u.slot b a q n d c;exact⟨a.slots,u.keep b a q n d c⟩
theorem Un.kept(k:∀b u,h.get? b=some u->h'.get? b=some u):Un fs ex H H h h':=
 ⟨λb a q _ _ _=>k b a q,λb a q _ _ _=>⟨a.slots,k b a q⟩,λ_ _ _ n _=>n,λb a q _=>⟨a,k b a q⟩,λ_ _ q=>q,λ_ _ _ q=>q,λ_ ps q=>⟨#[],by rw[q];simp⟩⟩
theorem Un.refl:Un fs ex H H h h:=Un.kept λ_ _ q=>q
theorem Un.laid(k:∀b u,h.get? b=some u->h'.get? b=some u)(d:h.objs.size<=a)(c:H a=none):Un fs ex H (upd H a o) h h' where
 keep:=λb u q _ _ _=>k b u q
 slot:=λb u q _ _ _=>⟨u.slots,k b u q⟩
 free:=λb u q n _=>by rw[bP (bQ (aR (Heap.lt_size q) d))];exact n
 there:=λb u q _=>⟨u,k b u q⟩
 z6:=λb xs q=>by rw[bP (cN q c)];exact q
 Gx:=λb u xs q=>by rw[bP (cN q c)];exact q
 HN:=λb ps q=>⟨#[],by rw[bP (cN q c),q];simp⟩
theorem Un.write(a:Mut (H x))(l:e=x\/H e=some (.own x))(k:∀b u,b≠e->h.get? b=some u->h'.get? b=some u)(j:∃u,h'.get? e=some u):Un fs ex H (upd H x o) h h':=by
 have d:∀b,H b=none->b≠x:=λb n z=>by subst z;rw[n]at a;exact a
 have g:∀b,H b=none->b≠e:=λb n z=>by subst z;rcases l with r|r;exact d b n r;rw[n]at r;cases r
 have c:∀b u,H b=some u->¬Mut (some u)->b≠x:=λb u q i z=>by subst z;rw[q]at a;exact i a
 refine⟨λb u q n _ _=>k b u (g b n) q,λb u q n _ _=>⟨u.slots,k b u (g b n) q⟩,λb u q n _=>by rw[bP (d b n)];exact n,λb u q _=>?_,
  λb xs q=>by rw[bP (c b _ q λz=>z)];exact q,λb u xs q=>by rw[bP (c b _ q λz=>z)];exact q,λb ps q=>⟨#[],by rw[bP (c b _ q λz=>z),q];simp⟩⟩
 by_cases f:b=e;subst f;exact j;exact⟨u,k b u f q⟩
end
def trk(h:cY)(H:Hp):a5 ao:=(cf h.objs.size).filter λa=>(H a).isSome
def Gv(h:cY)(H:Hp):cY:=PySem.W.hideAll h (trk h H)
theorem PH(h:cY)(H:Hp):(Gv h H).objs.size=h.objs.size:=PySem.W.hideAll_size _ _
theorem SW{h:cY}{H:Hp}{b:ao}{o:Obj}(e:h.get? b=some o)(n:H b=none):(Gv h H).get? b=some o:=
 PySem.W.hideAll_get _ e λa=>by have q:(H b).isSome=true:=(eR.mp a).2;rw[n]at q;simp at q
theorem Wg{h:cY}{H:Hp}{b:ao}{o:Obj}(e:(Gv h H).get? b=some o):h.get? b=some o/\H b=none:=by
 have e':h.get? b=some o:=PySem.W.of_hideAll (trk h H) e;refine⟨e',?_⟩;cases q:H b with
|none=>rfl
|some x=>have a:b∈trk h H:=eR.mpr ⟨eM.mpr (Heap.lt_size e'),by simp[q]⟩;have z:(Gv h H).get? b=none:=PySem.W.hideAll_none (trk h H) a;rw[z]at e;cases e
structure Mod (K:au) (mg:Str->Option ak) (base:cY):Prop where
 kin:K.In base
 glob:base.Ns bc mg
 blt:∃mb,base.Ns builtinsNs mb/\∀x:Str,x≠"__name__"->mb x=gH x
 nolimit:base.NoLimit
structure Cx where
 prog:bC
 w:cu
 K:au
 mg:Str->Option ak
 base:cY
 A:bT
 N:a5 Str
 C3:aB
 H_0:Hp
 env:Env
 outer:a5 Env
 stack:a5 Env
 ex:a5 ao
 fn:Str->Bool
 calm:Bool
 pn:a5 (ao×Obj)
 xe:ak->aB->Prop
def S9(l:a5 Env):a5 ao:=l.filterMap (·.frame)
abbrev Cx.fs(X:Cx):a5 ao:=S9 X.outer
def UJ(sc:lV)(x:Str):Prop:=sc.names.lookup x=some .local\/sc.names.lookup x=some .cell\/sc.names.lookup x=some .free
def Loc(sc:lV)(x:Str):Prop:=sc.names.lookup x=some .local\/sc.names.lookup x=some .cell
def Look(env:Env)(h:cY)(m:Str->Option ak)(x:Str)(u:ak):Prop:=
 (env.kindOf x=some .local/\m x=some u)\/((env.kindOf x=some .cell\/env.kindOf x=some .free)/\∃c,env.cells.lookup x=some c/\h.IsCell c (some u))
structure Cx.Ok (X:Cx):Prop where
 mod:Mod X.K X.mg X.base
 kind:X.env.scope.kind=.function
 glob:X.env.globals=bc
 blt:X.env.builtins=builtinsNs
 above:X.C3.heap.objs.size<=X.env.locals
 inj:∀x y c,X.env.cells.lookup x=some c->X.env.cells.lookup y=some c->x=y
 has:∀x,(X.env.kindOf x=some .cell\/X.env.kindOf x=some .free)->∃c,X.env.cells.lookup x=some c
 cab:∀x c,X.fn x=true->X.env.cells.lookup x=some c->X.C3.heap.objs.size<=c
 hd:X.calm=true->X.A.handled=none
 frames:X.A.frames=some X.stack
 stk:X.stack=X.outer\/(X.stack=X.env::X.outer/\X.env.frame=some X.env.locals)
 exf:∀b∈X.ex,b≠X.env.locals/\∀x c,X.env.cells.lookup x=some c->c≠b
 bs:∀b o,X.base.get? b=some o->X.C3.heap.get? b=some o/\X.H_0 b=none
 TZ:X.base.objs.size<=X.C3.heap.objs.size
 Si:∀b o,X.base.get? b=some o->b∉X.ex
 Te:∀b∈X.ex,b∉X.fs
 yx:X.C3.heap.FunFrames X.base X.outer
 Ye:∀b∈X.fs,X.H_0 b=none
structure Inv (X:Cx) (pins:a5 (ao×Obj)) (σ:a5 (Option V)) (H:Hp) (s:aB):Prop where
 ok:X.Ok
 os:s.os=X.C3.os
 bare:DW s.gens
 base:Un X.fs X.ex X.H_0 H X.C3.heap s.heap
 loc:∃m,s.heap.Ns X.env.locals m/\∀(i:Nat)(x:Str)(v:V),X.N[i]? = some x->σ[i]? = some (some v)->UJ X.env.scope x->∃u,RelV v u/\Look X.env s.heap m x u
 cell:∀x c,X.env.cells.lookup x=some c->∃v,s.heap.IsCell c v
 free:H X.env.locals=none
 sT:∀x c,X.env.cells.lookup x=some c->H c=none
 pin:∀p∈X.pn++pins,s.heap.get? p.1=some p.2/\H p.1=none/\p.1≠X.env.locals/\p.1∉X.fs/\∀v,p.2.data≠.cell v
 gP:tG X.prog X.w H s.heap
 len:σ.length=X.N.length
section
variable{X:Cx}{pins:a5 (ao×Obj)}{σ:a5 (Option V)}{H H':Hp}{s:aB}{h':cY}
theorem Cx.Ok.ae4(ok:X.Ok){b:ao}{o:Obj}(e:X.base.get? b=some o):b∉X.fs:=λa=>by have:=(ok.yx.mem a).1;rw[e]at this;cases this
theorem Inv.bs(I:Inv X pins σ H s):∀b o,X.base.get? b=some o->s.heap.get? b=some o/\H b=none:=λb o e=>⟨I.base.keep b o (I.ok.bs b o e).1 (I.ok.bs b o e).2 (I.ok.ae4 e) (I.ok.Si b o e),I.base.free b o (I.ok.bs b o e).1 (I.ok.bs b o e).2 (I.ok.Si b o e)⟩
theorem Inv.bk(I:Inv X pins σ H s):∀b o,X.base.get? b=some o->s.heap.get? b=some o:=λb o e=>(I.bs b o e).1
theorem Inv.mod(I:Inv X pins σ H s):Mod X.K X.mg X.base:=I.ok.mod
theorem Inv.Hf(I:Inv X pins σ H s):X.K.In s.heap:=I.ok.mod.kin.keeps I.bk
theorem Inv.fr(I:Inv X pins σ H s):∃m,Fr X.base X.env.locals s.heap m:=
 let⟨m,a,_⟩:=I.loc
 ⟨m,a,I.bk,bu I.ok.TZ I.ok.above⟩
theorem Inv.lt(I:Inv X pins σ H s):X.env.locals<s.heap.objs.size:=let⟨_,a,_⟩:=I.loc;a.lt
theorem Inv.sz(I:Inv X pins σ H s):X.C3.heap.objs.size<=s.heap.objs.size:=bu I.ok.above (mI I.lt)
theorem Inv.ae3(I:Inv X pins σ H s){a:ao}(h:s.heap.objs.size<=a):a∉X.fs:=λc=>by obtain⟨_,o,b,_⟩:=I.ok.yx.mem c;exact absurd (aR (Heap.lt_size b) (bu I.sz h)) (eQ _)
theorem Inv.cne(I:Inv X pins σ H s):∀x c,X.env.cells.lookup x=some c->c≠X.env.locals:=λx c e z=>by obtain⟨v,o,a,hd⟩:=I.cell x c e;obtain⟨m,⟨f,g,h,b,d,_⟩,_⟩:=I.loc;rw[z,b]at a;cases a;rw[d]at hd;cases hd
theorem Inv.yx(I:Inv X pins σ H s):s.heap.FunFrames X.base X.outer:=by
 have all:∀(l:a5 Env),(∀b∈S9 l,b∈X.fs)->X.C3.heap.FunFrames X.base l->s.heap.FunFrames X.base l:=by
  intro l
  induction l with
 |nil=>intro _ _;trivial
 |cons env r g=>intro f hl;obtain⟨hk,⟨L,o,a,j,i,hd⟩,h⟩:=hl;have d:L∈X.fs:=f L (by unfold S9;rw[vZ,a];exact aF);obtain⟨sl,e⟩:=I.base.slot L o i (I.ok.Ye L d) d λz=>I.ok.Te L z d;exact⟨hk,⟨L,_,a,j,e,hd⟩,g (λb c=>f b (by unfold S9;rw[vZ,a];exact ah _ c)) h⟩
 exact all X.outer (λ_ c=>c) I.ok.yx
theorem Inv.stack(I:Inv X pins σ H s):s.heap.FunFrames X.base X.stack:=by rcases I.ok.stk with e|⟨e,b⟩;rw[e];exact I.yx;rw[e];obtain⟨m,a,_⟩:=I.loc;refine .cons (by rw[I.ok.kind];decide) b a ?_ I.yx;exact Heap.get?_none_of_le (bu I.ok.TZ I.ok.above)
theorem Inv.KN(I:Inv X pins σ H s):∀b∈S9 X.stack,b∈X.env.locals::X.fs:=λb a=>by rcases I.ok.stk with e|⟨e,c⟩;rw[e]at a;exact ah _ a;rw[e]at a;unfold S9 at a;rw[vZ,c]at a;exact a
theorem Inv.ME(I:Inv X pins σ H s):∀b∈S9 X.stack,H b=none:=λb a=>by rcases aq.mp (I.KN b a) with e|a;rw[e];exact I.free;obtain⟨_,o,c,_⟩:=I.ok.yx.mem a;exact I.base.free b o c (I.ok.Ye b a) λz=>I.ok.Te b z a
theorem Inv.step{g':Array GenState}{t':Nat}{d':Drawn}{ch:a5 ao}(I:Inv X pins σ H s)(w:∀b∈ch,(b∈X.ex\/X.C3.heap.objs.size<=b)/\b≠X.env.locals/\(∀x c,X.env.cells.lookup x=some c->c≠b)/\∀p∈X.pn++pins,p.1≠b)(keep:∀b o,b≠X.env.locals->b∉X.fs->b∉ch->s.heap.get? b=some o->H b=none->h'.get? b=some o)(slot:∀b o,b≠X.env.locals->b∈X.fs->b∉ch->s.heap.get? b=some o->H b=none->∃sl,h'.get? b=some { o with slots:=sl })(free:∀b o,b∉ch->s.heap.get? b=some o->H b=none->H' b=none)(there:∀b o,b∉ch->s.heap.get? b=some o->∃j,h'.get? b=some j)(z6:∀b xs,H b=some (.tup xs)->H' b=some (.tup xs))(Gx:∀b o u,H b=some (.sR o u)->H' b=some (.sR o u))(HN:∀b ps,H b=some (.Zn ps)->∃more,H' b=some (.Zn (ps++more)))(ns:∀m,s.heap.Ns X.env.locals m->h'.Ns X.env.locals m)(gP:tG X.prog X.w H' h')(K:DW g'):
  Inv X pins σ H' { s with heap:=h',gens:=g',drawn:=d',toks:=t' }:=by
 have C:∀b o,X.C3.heap.get? b=some o->b≠X.env.locals:=λb o e=>bQ (aR (Heap.lt_size e) I.ok.above);have A:∀b o,X.C3.heap.get? b=some o->b∉X.ex->b∉ch:=λb o e a g=>by rcases(w b g).1 with z|z;exact a z;exact absurd (aR (Heap.lt_size e) z) (eQ _)
 have F:∀x c,X.env.cells.lookup x=some c->∀v,s.heap.IsCell c v->h'.IsCell c v:=λx c e v ⟨o,h,hd⟩=>by have t:c∉ch:=λz=>(w c z).2.2.1 x c e rfl;by_cases E:c∈X.fs;obtain⟨sl,q⟩:=slot c o (I.cne x c e) E t h (I.sT x c e);exact⟨_,q,hd⟩;exact⟨o,keep c o (I.cne x c e) E t h (I.sT x c e),hd⟩
 refine⟨I.ok,I.os,K,⟨λb o e n g a=>?_,λb o e n g a=>?_,λb o e n a=>?_,λb o e a=>?_,λb xs e=>z6 b xs (I.base.z6 b xs e),λb o xs e=>Gx b o xs (I.base.Gx b o xs e),λb ps e=>?_⟩,?_,λx c e=>?_,?_,λx c e=>?_,λp D=>?_,gP,I.len⟩;exact keep b o (C b o e) g (A b o e a) (I.base.keep b o e n g a) (I.base.free b o e n a);obtain⟨sl,f⟩:=I.base.slot b o e n g a;obtain⟨G,y⟩:=slot b _ (C b o e) g (A b o e a) f (I.base.free b o e n a);exact⟨G,y⟩;obtain⟨j,f⟩:=I.base.there b o e a;exact free b j (A b o e a) f (I.base.free b o e n a);obtain⟨j,f⟩:=I.base.there b o e a;exact there b j (A b o e a) f;obtain⟨m1,f⟩:=I.base.HN b ps e;obtain⟨m2,y⟩:=HN b _ f;exact⟨m1++m2,by rw[y,Array.append_assoc]⟩;obtain⟨m,J,hl⟩:=I.loc;refine⟨m,ns m J,λi x v f y L=>?_⟩;obtain⟨u,r,l⟩:=hl i x v f y L;refine⟨u,r,?_⟩;rcases l with l|⟨k,c,e,z⟩;exact .inl l;exact .inr ⟨k,c,e,F x c e _ z⟩;obtain⟨v,z⟩:=I.cell x c e;exact⟨v,F x c e v z⟩;obtain⟨m,⟨o,_,_,h,_⟩,_⟩:=I.loc;exact free _ o (λz=>(w _ z).2.1 rfl) h I.free;obtain⟨v,o,h,hd⟩:=I.cell x c e;exact free c o (λz=>(w c z).2.2.1 x c e rfl) h (I.sT x c e);obtain⟨e,n,ne,B,d⟩:=I.pin p D;have t:p.1∉ch:=λz=>(w p.1 z).2.2.2 p D rfl;exact⟨keep p.1 p.2 ne B t e n,free p.1 p.2 t e n,ne,B,d⟩
theorem Inv.un{t':Nat}(I:Inv X pins σ H s)(u:Un X.fs [] H H' s.heap h')(gP:tG X.prog X.w H' h'):Inv X pins σ H' { s with heap:=h',toks:=t' }:=by
 obtain⟨m,⟨o,p,q,d,r⟩,_⟩:=id I.loc;obtain⟨sl,h⟩:=u.any d I.free #v[0];exact I.step (g':=s.gens) (d':=s.drawn) (ch:=[]) (λ_ z=>nomatch z) (λb o _ a _ e n=>u.keep b o e n a #v[0]) (λb o _ a _ e n=>u.slot b o e n a #v[0]) (λb o _ e n=>u.free b o e n #v[0]) (λb o _ e=>u.there b o e #v[0]) u.z6 u.Gx u.HN (λl g=>by obtain⟨k,i,j,c,f⟩:=g;rw[d]at c;cases c;exact⟨_,i,j,h,f⟩) gP I.bare
theorem Inv.call{g':Array GenState}{t':Nat}{d':Drawn}{ch:a5 ao}(I:Inv X pins σ H s)(u:Un (S9 X.stack) ch H H' s.heap h')(gP:tG X.prog X.w H' h')(k:DW g')(h:∀b∈ch,(b∈X.ex\/X.C3.heap.objs.size<=b)/\b≠X.env.locals/\(∀x c,X.env.cells.lookup x=some c->c≠b)/\∀p∈X.pn++pins,p.1≠b):
  Inv X pins σ H' { s with heap:=h',gens:=g',drawn:=d',toks:=t' }:=by
 obtain⟨m,⟨o,y,A,g,r⟩,_⟩:=id I.loc;obtain⟨sl,d⟩:=u.any g I.free λz=>(h _ z).2.1 rfl;exact I.step (ch:=ch) h (λb o d l a e n=>u.keep b o e n (λz=>(aq.mp (I.KN b z)).elim d l) a) (λb o _ _ a e n=>u.any e n a) (λb o a e n=>u.free b o e n a) (λb o a e=>u.there b o e a) u.z6 u.Gx u.HN (λw j=>by obtain⟨v,q,t,f,i⟩:=j;rw[g]at f;cases f;exact⟨_,q,t,d,i⟩) gP k
theorem Inv.turned{t':Nat}{a:ao}(I:Inv X pins σ H s)(k:∀b o,b≠a->s.heap.get? b=some o->h'.get? b=some o)(i:H a=none)(g:a≠X.env.locals)(y:a∈X.ex\/X.C3.heap.objs.size<=a)(w:∀x c,X.env.cells.lookup x=some c->c≠a)(t:∀p∈X.pn++pins,p.1≠a):Inv X pins σ H { s with heap:=h',toks:=t' }:=by
 have f:∀b u,H b=some u->b≠a:=λb u e z=>by rw[z,i]at e;cases e
 refine I.step (g':=s.gens) (d':=s.drawn) (ch:=[a]) (λb l=>?_) (λb o _ _ d e _=>k b o (λz=>d (by simp[z])) e) (λb o _ _ d e _=>⟨o.slots,k b o (λz=>d (by simp[z])) e⟩) (λ_ _ _ _ n=>n)
  (λb o d e=>⟨o,k b o (λz=>d (by simp[z])) e⟩) (λ_ _ e=>e) (λ_ _ _ e=>e) (λb ps e=>⟨#[],by rw[e];simp⟩) (λm j=>?_) (λb u e=>?_) I.bare
 have e:b=a:=by simpa using l
 subst e;exact⟨y,g,w,t⟩;obtain⟨o,A,B,h,r⟩:=j;exact⟨o,A,B,k _ o (Ne.symm g) h,r⟩;refine(I.gP b u e).HV (λc v d q=>k c v ?_ q) (λ_ q=>q) λ_ _ q=>q;rcases d with z|z;rw[z];exact f b u e;exact f c _ z
theorem Inv.tok(I:Inv X pins σ H s)(t:Nat):Inv X pins σ H { s with toks:=t }:=I.un (h':=s.heap) (t':=t) Un.refl I.gP
theorem Inv.kept{t':Nat}(I:Inv X pins σ H s)(k:∀b u,s.heap.get? b=some u->h'.get? b=some u):Inv X pins σ H { s with heap:=h',toks:=t' }:=I.un (Un.kept k) (I.gP.kept k)
theorem Inv.laid{a:ao}{o:HO}{t':Nat}(I:Inv X pins σ H s)(k:∀b u,s.heap.get? b=some u->h'.get? b=some u)(c:s.heap.objs.size<=a)(new:ie X.prog X.w (upd H a o) h' a o):
  Inv X pins σ (upd H a o) { s with heap:=h',toks:=t' }:=I.un (Un.laid k c (I.gP.fresh c)) (I.gP.laid k c new)
theorem Inv.write{x e:ao}{o:HO}{t':Nat}(I:Inv X pins σ H s)(a:Mut (H x))(d:e=x\/H e=some (.own x))(k:∀b u,b≠e->s.heap.get? b=some u->h'.get? b=some u)(c:∃u,h'.get? e=some u)(new:ie X.prog X.w (upd H x o) h' x o):Inv X pins σ (upd H x o) { s with heap:=h',toks:=t' }:=I.un (Un.write a d k c) (I.gP.write a d k c new)
theorem Inv.weak{a:a5 (Option V)}(I:Inv X pins σ H s)(hl:a.length=σ.length)(w:∀(i:Nat) v,a[i]? = some (some v)->σ[i]? = some (some v)):Inv X pins a H s:=
 ⟨I.ok,I.os,I.bare,I.base,let⟨m,b,c⟩:=I.loc;⟨m,b,λi x v g f d=>c i x v g (w i v f) d⟩,I.cell,I.free,I.sT,I.pin,I.gP,hl.trans I.len⟩
theorem Inv.FN{a:a5 (ao×Obj)}(I:Inv X pins σ H s)(h:∀p∈a,s.heap.get? p.1=some p.2/\H p.1=none/\p.1≠X.env.locals/\p.1∉X.fs/\∀v,p.2.data≠.cell v):Inv X a σ H s:=
 ⟨I.ok,I.os,I.bare,I.base,I.loc,I.cell,I.free,I.sT,λp b=>(aI.mp b).elim (λz=>I.pin p (eY _ z)) (h p),I.gP,I.len⟩
theorem BJ{N:a5 Str}(c:N.Nodup){i j:Nat}{x:Str}(a:N[i]? = some x)(b:N[j]? = some x):i=j:=by obtain⟨h,f⟩:=aJ.mp a;obtain⟨g,d⟩:=aJ.mp b;exact(UN c).mp (f.trans d.symm)
theorem D3{M:XF}{A:bT}{E:ak->aB->Prop}{i:Nat}{x:Str}{v:V}{u:ak}{Q:Unit->aB->Prop}(I:Inv X pins σ H s)(hN:X.N.Nodup)(hi:X.N[i]? = some x)(t:Loc X.env.scope x)(r:RelV v u)(h:∀J,Inv X pins (σ.set i (some v)) H J->(∃a,Heap.SameBut a s.heap J.heap/\(a=X.env.locals\/X.env.cells.lookup x=some a))->Q () J)(hf:X.fn x=true\/X.env.scope.names.lookup x=some .local:=by first|exact .inl rfl|exact .inr rfl|assumption):a7 M A (storeName X.env x u) Q E s:=by
 obtain⟨m,P,hl⟩:=id I.loc;have am:(X.env.scope.kind == .class||(X.env.scope.kind == .module&&X.env.locals != X.env.globals))=false:=by rw[I.ok.kind];rfl
 have Y:i<σ.length:=by rw[I.len];exact(aJ.mp hi).1
 have cne:=I.cne;have T:∀{a:ao}{h':cY},(∃o,s.heap.get? a=some o/\H a=none)->Heap.SameBut a s.heap h'->tG X.prog X.w H h':=λ{a h'} ha f b ob e=>by obtain⟨_,_,Z⟩:=ha;refine(I.gP b ob e).HV (λc C l q=>(f.2 c ?_).trans q) (λ_ q=>q) λ_ _ q=>q;rintro rfl;rcases l with rfl|l;rw[Z]at e;cases e;rw[Z]at l;cases l
 rcases t with hk|hk;refine wpAny_storeName_local hk P (λh' aj f=>?_) am;obtain⟨oL,_,_,ai,_⟩:=id P;refine h _ ⟨I.ok,I.os,I.bare,⟨λb o e n B t=>?_,λb o e n B t=>?_,I.base.free,λb o e t=>?_,I.base.z6,I.base.Gx,I.base.HN⟩,⟨_,aj,λj y F g w S=>?_⟩,λy c e=>?_,I.free,I.sT,λp O=>?_,T ⟨oL,ai,I.free⟩ f,by simpa using I.len⟩ ⟨_,f,.inl rfl⟩;exact(f.2 b (bQ (aR (Heap.lt_size e) I.ok.above))).trans (I.base.keep b o e n B t);obtain⟨sl,g⟩:=I.base.slot b o e n B t;exact⟨sl,(f.2 b (bQ (aR (Heap.lt_size e) I.ok.above))).trans g⟩;obtain⟨L,g⟩:=I.base.there b o e t;exact⟨L,(f.2 b (bQ (aR (Heap.lt_size e) I.ok.above))).trans g⟩;by_cases hj:j=i;subst hj;rw[hi]at g;cases g;rw[dO Y]at w;cases w;exact⟨u,r,.inl ⟨hk,#v[0]⟩⟩;rw[b8 (Ne.symm hj)]at w;obtain⟨G,K,q⟩:=hl j y F g w S;refine⟨G,K,?_⟩;rcases q with⟨k,e⟩|⟨k,c,e,z⟩;refine .inl ⟨k,?_⟩;have:y≠x:=λe=>hj (BJ hN g (e▸hi));simp[this,e];exact .inr ⟨k,c,e,z.sameBut f (cne y c e)⟩;obtain⟨C,z⟩:=I.cell y c e;exact⟨C,z.sameBut f (cne y c e)⟩;obtain⟨e,n,ne,N,d⟩:=I.pin p O;exact⟨(f.2 p.1 ne).trans e,n,ne,N,d⟩;have R:X.fn x=true:=by rcases hf with z|z;exact z;rw[z]at hk;cases hk
 obtain⟨c,l⟩:=I.ok.has x (.inl hk);obtain⟨C,z⟩:=I.cell x c l;refine wpAny_storeName_cell I.ok.kind hk l z (λh' ab f=>?_);obtain⟨U,W,ah⟩:=id z;refine h { s with heap:=h' } ⟨I.ok,I.os,I.bare,⟨λb o e n B t=>?_,λb o e n B t=>?_,I.base.free,λb o e t=>?_,I.base.z6,I.base.Gx,I.base.HN⟩,⟨m,P.sameBut f (Ne.symm (cne x c l)),λj y F g w S=>?_⟩,λy D e=>?_,I.free,I.sT,λp O=>?_,T ⟨U,W,I.sT x c l⟩ f,by simpa using I.len⟩ ⟨c,f,.inr l⟩;exact(f.2 b (bQ (aR (Heap.lt_size e) (I.ok.cab x c R l)))).trans (I.base.keep b o e n B t);obtain⟨sl,g⟩:=I.base.slot b o e n B t;exact⟨sl,(f.2 b (bQ (aR (Heap.lt_size e) (I.ok.cab x c R l)))).trans g⟩;obtain⟨L,g⟩:=I.base.there b o e t;exact⟨L,(f.2 b (bQ (aR (Heap.lt_size e) (I.ok.cab x c R l)))).trans g⟩;by_cases hj:j=i;subst hj;rw[hi]at g;cases g;rw[dO Y]at w;cases w;exact⟨u,r,.inr ⟨.inl hk,c,l,ab⟩⟩;rw[b8 (Ne.symm hj)]at w;obtain⟨G,K,q⟩:=hl j y F g w S;refine⟨G,K,?_⟩;rcases q with q|⟨k,D,e,z'⟩;exact .inl q;refine .inr ⟨k,D,e,z'.sameBut f ?_⟩;rintro rfl;exact hj (BJ hN g (I.ok.inj _ _ _ e l▸hi));by_cases aa:D=c;subst aa;exact⟨_,ab⟩;obtain⟨w2,z2⟩:=I.cell y D e;exact⟨w2,z2.sameBut f aa⟩;obtain⟨e,n,ne,N,d⟩:=I.pin p O;refine⟨(f.2 p.1 ?_).trans e,n,ne,N,d⟩;intro q;rw[q,W]at e;have q':U=p.2:=aH e;exact d C (by rw[<- q'];exact ah)
theorem Bg{M:XF}{A:bT}{E:ak->aB->Prop}{i:Nat}{x:Str}{v:V}{u:ak}{Q:Unit->aB->Prop}(I:Inv X pins σ H s)(d:X.N.Nodup)(hi:X.N[i]? = some x)(b:Loc X.env.scope x)(r:RelV v u)(h:∀a,Inv X pins (σ.set i (some v)) H a->Q () a)(c:X.fn x=true\/X.env.scope.names.lookup x=some .local:=by first|exact .inl rfl|exact .inr rfl|assumption):a7 M A (storeName X.env x u) Q E s:=
 D3 I d hi b r (λa f _=>h a f) c
theorem Inv.adp{a:aB}{ch:a5 ao}(I:Inv X pins σ H s)(f:a.os=s.os)(u:Un (S9 X.stack) ch H H' s.heap a.heap)(gP:tG X.prog X.w H' a.heap)(g:DW a.gens)(h:∀b∈ch,(b∈X.ex\/X.C3.heap.objs.size<=b)/\b≠X.env.locals/\(∀x c,X.env.cells.lookup x=some c->c≠b)/\∀p∈X.pn++pins,p.1≠b):Inv X pins σ H' a:=by obtain⟨h',g',d',t',d⟩:=a;have e:d=s.os:=f;subst e;exact I.call (g':=g') (t':=t') (d':=d') u gP g h
end
abbrev XK:=ak->Option ao->Hp->Prop
abbrev St:=a5 (Option V)
abbrev VK:=V->Hp->Prop
abbrev TE:=St->Hp->VK->Prop
abbrev TT:=St->Hp->(Bool->Hp->Prop)->Prop
abbrev TA:=St->Hp->(a5 V->Hp->Prop)->Prop
structure Ends where
 nx:St->Hp->Prop
 rt:VK
 bk:St->Hp->Prop:=λ_ _=>False
 ct:St->Hp->Prop:=λ_ _=>False
abbrev TS:=Ends->St->Hp->Prop
inductive EP (X:Cx) (pins:List (ao×Obj)) (σ:St) (Q:VK) (u:ak) (s':aB):Prop
|mk (v:V) (H':Hp) (_:Inv X pins σ H' s') (_:RelV v u) (_:Q v H')
inductive TP (X:Cx) (pins:List (ao×Obj)) (σ:St) (Q:Bool->Hp->Prop) (b:Bool) (s':aB):Prop
|mk (H':Hp) (_:Inv X pins σ H' s') (_:Q b H')
inductive AP (X:Cx) (pins:List (ao×Obj)) (σ:St) (Q:List V->Hp->Prop) (us:List ak) (s':aB):Prop
|mk (vs:List V) (H':Hp) (_:Inv X pins σ H' s') (_:Vals vs us) (_:Q vs H')
def SP(X:Cx)(pins:a5 (ao×Obj))(D:Ends)(f:Flow)(b:aB):Prop:=
 match f with
|.next=>∃a H',Inv X pins a H' b/\D.nx a H'
|.brk=>∃a H',Inv X pins a H' b/\D.bk a H'
|.cont=>∃a H',Inv X pins a H' b/\D.ct a H'
|.ret u=>∃v a H',Inv X pins a H' b/\RelV v u/\D.rt v H'
def PE(X:Cx)(e:bL)(t:TE):Prop:=
 ∀(pins:a5 (ao×Obj))(s:aB)(a:St)(H:Hp)(Q:VK),Inv X pins a H s->t a H Q->a7 (bb X.prog X.w) X.A (cg e X.env) (EP X pins a Q) X.xe s
def PT(X:Cx)(e:bL)(t:TT):Prop:=
 ∀(pins:a5 (ao×Obj))(s:aB)(a:St)(H:Hp)(Q:Bool->Hp->Prop),Inv X pins a H s->t a H Q->a7 (bb X.prog X.w) X.A (UD e X.env (cg e X.env)) (TP X pins a Q) X.xe s
def PW(X:Cx)(e:bL)(t:TT):Prop:=
 ∀(whole:Sem ak)(pins:a5 (ao×Obj))(s:aB)(a:St)(H:Hp)(Q:Bool->Hp->Prop),Inv X pins a H s->t a H Q->a7 (bb X.prog X.w) X.A (UD e X.env whole) (TP X pins a Q) X.xe s
def PA(X:Cx)(b:a5 bL)(t:TA):Prop:=
 ∀(pos:Pos)(pins:a5 (ao×Obj))(s:aB)(a:St)(H:Hp)(Q:a5 V->Hp->Prop),Inv X pins a H s->t a H Q->a7 (bb X.prog X.w) X.A (spliced (ef pos (aG b X.env))) (AP X pins a Q) X.xe s
def PS(X:Cx)(st:jv)(t:TS):Prop:=
 ∀(pins:a5 (ao×Obj))(s:aB)(a:St)(H:Hp)(D:Ends),Inv X pins a H s->t D a H->a7 (bb X.prog X.w) X.A (exec st X.env) (SP X pins D) X.xe s
def NX(X:Cx)(st:a5 jv)(t:TS):Prop:=
 ∀(pins:a5 (ao×Obj))(s:aB)(a:St)(H:Hp)(D:Ends),Inv X pins a H s->t D a H->a7 (bb X.prog X.w) X.A (execs st X.env) (SP X pins D) X.xe s
theorem iW{α:Type}{t:Sem α}{Q b:α->aB->Prop}{M:XF}{A:bT}{E:ak->aB->Prop}{s:aB}(h:a7 M A t Q E s)(c:∀a s,Q a s->b a s):a7 M A t b E s:=d9 h c λ_ _ x=>x
section
variable{X:Cx}
def Zp(i:Nat):TE:=λa H Q=>∃v,a[i]? = some (some v)/\Q v H
def tC(v:V):TE:=λ_ H Q=>Q v H
theorem Bt{i:Nat}{x:Str}{pos:Pos}(n:X.N[i]? = some x)(f:UJ X.env.scope x)(hd:(x == ("__debug__" : Str))=false:=by decide)(k:(x == ("__classdict__" : Str))=false:=by decide):PE X (.Name x pos) (Zp i):=by intro pins s d H Q I h;obtain⟨v,e,h⟩:=h;obtain⟨m,g,hl⟩:=I.loc;obtain⟨u,r,l⟩:=hl i x v n e f;have fin:EP X pins d Q u s:=⟨v,H,I,r,h⟩;rcases l with⟨hk,j⟩|⟨hk,c,b,a⟩;exact wpAny_Name (Xy I.ok.kind hk g j fin) hd;rcases hk with hk|hk;exact wpAny_Name (YC I.ok.kind hk b a fin) hd;exact wpAny_Name (wpAny_loadName_free I.ok.kind hk b a fin k) hd
theorem Z0{i j pos}:PE X (.Constant (.int i) j pos) (tC (.int i)):=λ_ _ _ H _ I h=>wpAny_Constant_int ⟨.int i,H,I.tok _,⟨_,rfl⟩,h⟩
theorem X0{b j pos}:PE X (.Constant (.bool b) j pos) (tC (.bl b)):=λ_ _ _ H _ I h=>Constant_bool ⟨.bl b,H,I,rfl,h⟩
theorem ZW{j pos}:PE X (.Constant .none j pos) (tC .jw):=λ_ _ _ H _ I h=>Constant_none ⟨.jw,H,I,rfl,h⟩
def Gl(X:Cx)(x:Str):Prop:=X.env.kindOf x=some .globalImplicit
theorem tY{E:ak->aB->Prop}{pins:a5 (ao×Obj)}{s:aB}{a:St}{H:Hp}{x:Str}{u:ak}{pos:Pos}{Q:ak->aB->Prop}(I:Inv X pins a H s)(c:Gl X x)(b:X.mg x=some u)(h:Q u s)(hd:(x == ("__debug__" : Str))=false:=by decide):a7 (bb X.prog X.w) X.A (cg (.Name x pos) X.env) Q E s:=
 Calls.Name_function_global I.ok.kind c (Calls.loadGlobal_global (by rw[I.ok.glob];exact I.mod.glob.keeps I.bk) b h) hd
theorem ml{E:ak->aB->Prop}{pins:a5 (ao×Obj)}{s:aB}{a:St}{H:Hp}{x:Str}{u:ak}{pos:Pos}{Q:ak->aB->Prop}(I:Inv X pins a H s)(f:Gl X x)(d:X.mg x=none)(b:gH x=some u)(h:Q u s)(c:x≠"__name__":=by decide)(hd:(x == ("__debug__" : Str))=false:=by decide):a7 (bb X.prog X.w) X.A (cg (.Name x pos) X.env) Q E s:=by obtain⟨j,i,g⟩:=I.mod.blt;exact Calls.Name_function_global I.ok.kind f (Calls.loadGlobal_builtin (by rw[I.ok.glob];exact I.mod.glob.keeps I.bk) d (by rw[I.ok.blt];exact i.keeps I.bk) ((g x c).trans b) h) hd
theorem V7{x:Str}{v:V}{u:ak}{pos:Pos}(b:Gl X x)(a:X.mg x=some u)(r:RelV v u)(hd:(x == ("__debug__" : Str))=false:=by decide):PE X (.Name x pos) (tC v):=
 λ_ _ _ H _ I h=>tY I b a ⟨v,H,I,r,h⟩ hd
theorem V9{x:Str}{v:V}{u:ak}{pos:Pos}(d:Gl X x)(c:X.mg x=none)(a:gH x=some u)(r:RelV v u)(b:x≠"__name__":=by decide)(hd:(x == ("__debug__" : Str))=false:=by decide):PE X (.Name x pos) (tC v):=
 λ_ _ _ H _ I h=>ml I d c a ⟨v,H,I,r,h⟩ b hd
variable{a b:bL}{ta tb:TE}{pos:Pos}
def tB(t:TE):TT:=λa H Q=>t a H λx b=>∃c,x=.bl c/\Q c b
theorem ZH{e:bL}{t:TE}(h:PE X e t)(g:∀whole,UD e X.env whole=(do let v <- whole;zX e.pos;kF [v] (truthy v)):=by intro _;rfl):PT X e (tB t):=by intro pins s a H Q I f;refine isTrue_plain (iW (h pins s a H _ I f) λv k ⟨x,j,i,b,c⟩=>?_) (g _);obtain⟨d,rfl,q⟩:=c;cases b;exact jb ⟨j,i,q⟩
variable{tA tB':TT}{rest:a5 bL}
def aeP(t u:TT):TT:=λa H Q=>t a H λc b=>if c=true then u a b Q else Q false b
def tOr(t u:TT):TT:=λa H Q=>t a H λc b=>if c=true then Q true b else u a b Q
def aeF(t:TT):TT:=λa H Q=>t a H λc b=>Q (!c) b
theorem VX(d:PT X a tA):PW X (.BoolOp .And [a] pos) tA:=by
 intro f pins s b H Q I h;refine isTrue_and (iW (d pins s b H Q I h) λc g e=>?_);cases c with
|true=>exact isTrue_and_nil e
|false=>exact e
theorem ZE(d:PT X a tA):PW X (.BoolOp .Or [a] pos) tA:=by
 intro f pins s b H Q I h;refine isTrue_or (iW (d pins s b H Q I h) λc g e=>?_);cases c with
|false=>exact isTrue_or_nil e
|true=>exact e
theorem ZG(m:PT X a tA)(l:PW X (.BoolOp .And (b::rest) pos) tB'):PW X (.BoolOp .And (a::b::rest) pos) (aeP tA tB'):=by
 intro j pins s d H Q I h;refine isTrue_and (iW (m pins s d H _ I h) λc k ⟨i,g,f⟩=>?_);cases c with
|true=>exact l j pins k d i Q g f
|false=>exact⟨i,g,f⟩
theorem acq(m:PT X a tA)(l:PW X (.BoolOp .Or (b::rest) pos) tB'):PW X (.BoolOp .Or (a::b::rest) pos) (tOr tA tB'):=by
 intro j pins s d H Q I h;refine isTrue_or (iW (m pins s d H _ I h) λc k ⟨i,g,f⟩=>?_);cases c with
|true=>exact⟨i,g,f⟩
|false=>exact l j pins k d i Q g f
theorem ZI(g:PT X a tA):PT X (.UnaryOp .Not a pos) (aeF tA):=by intro pins s d H Q I h;exact isTrue_not (iW (g pins s d H (λc b=>Q (!c) b) I h) λc j ⟨b,i,f⟩=>⟨b,i,f⟩)
def ab8(ta tb:TE):TE:=λa H Q=>ta a H λx b=>∃c,x=.bl c/\if c=true then tb a b Q else Q (.bl false) b
def aeE(ta tb:TE):TE:=λa H Q=>ta a H λx b=>∃c,x=.bl c/\if c=true then Q (.bl true) b else tb a b Q
def ab2(ta:TE):TE:=λa H Q=>ta a H λx b=>∃c,x=.bl c/\Q (.bl (!c)) b
theorem ZU{op}{t:TE}(h:PE X a t):PE X (.BoolOp op [a] pos) t:=λpins s b H Q I c=>BoolOp_one (h pins s b H Q I c)
theorem Z2(m:PE X a ta)(l:PE X (.BoolOp .And (b::rest) pos) tb):PE X (.BoolOp .And (a::b::rest) pos) (ab8 ta tb):=by
 intro pins s f H Q I h;refine BoolOp_and (iW (m pins s f H _ I h) λv j ⟨x,i,g,k,d⟩=>?_);obtain⟨c,rfl,d⟩:=d;cases k;refine jb ?_;cases c with
|true=>exact l pins j f i Q g d
|false=>exact⟨.bl false,i,g,rfl,d⟩
theorem acu(m:PE X a ta)(l:PE X (.BoolOp .Or (b::rest) pos) tb):PE X (.BoolOp .Or (a::b::rest) pos) (aeE ta tb):=by
 intro pins s f H Q I h;refine BoolOp_or (iW (m pins s f H _ I h) λv j ⟨x,i,g,k,d⟩=>?_);obtain⟨c,rfl,d⟩:=d;cases k;refine jb ?_;cases c with
|false=>exact l pins j f i Q g d
|true=>exact⟨.bl true,i,g,rfl,d⟩
theorem ZV(g:PE X a ta):PE X (.UnaryOp .Not a pos) (ab2 ta):=by intro pins s d H Q I h;refine UnaryOp_ (iW (g pins s d H _ I h) λv k ⟨x,j,i,f,b⟩=>?_);obtain⟨c,rfl,b⟩:=b;cases f;exact not_of (jb ⟨.bl (!c),j,i,rfl,b⟩)
def tIf(t:TT)(ta tb:TE):TE:=λa H Q=>t a H λc b=>if c=true then ta a b Q else tb a b Q
theorem RU{c:bL}(l:PT X c tA)(n:PE X a ta)(m:PE X b tb):PE X (.IfExp c a b pos) (tIf tA ta tb):=by
 intro pins s f H Q I h;refine wpAny_IfExp (iW (l pins s f H _ I h) λd g ⟨k,j,i⟩=>?_);cases d with
|true=>exact n pins g f k Q j i
|false=>exact m pins g f k Q j i
end
def lY(K:au)(H:Hp)(a:ao)(xs:a5 V):Prop:=
 Rd H a (.lst xs) ∨
  ∃(o:Obj)(bK:Array ak)(n:Nat),K.lookup a=some o/\o.cls=.type "list"/\o.dict=none/\o.data=.seq bK n/\bK.size<=aQ/\Vals xs bK.toList
def zy(K:au)(H:Hp)(a:ao)(xs:a5 V):Prop:=
 Rd H a (.tup xs) ∨
  ∃(o:Obj)(bK:Array ak)(n:Nat),K.lookup a=some o/\o.cls=.type "tuple"/\o.data=.seq bK n/\bK.size<=aQ/\Vals xs bK.toList
def afq:ak->Option V
|.none=>some .jw
|.bool b=>some (.bl b)
|.int i _=>some (.int i)
|.str x _=>some (.str x)
|.bytes b _=>some (.Yq b)
|.float b _=>some (.flt b)
|.ref a=>some (.ref a)
|.type n=>some (.ty n)
|_=>none
theorem RelV.abs{x:V}{u:ak}(r:RelV x u):afq u=some x:=by
 cases x with
|jw=>cases r;rfl
|bl _=>cases r;rfl
|int _=>obtain⟨t,rfl⟩:=r;rfl
|str _=>obtain⟨t,rfl⟩:=r;rfl
|Yq _=>obtain⟨t,rfl⟩:=r;rfl
|flt _=>obtain⟨t,rfl⟩:=r;rfl
|ref _=>cases r;rfl
|ty _=>cases r;rfl
theorem RelV.inj{x y:V}{u:ak}(r:RelV x u)(q:RelV y u):x=y:=aH (r.abs.symm.trans q.abs)
theorem Vals.inj:∀{xs a:a5 V}{us:a5 ak},Vals xs us->Vals a us->xs=a
|_,_,_,.nil,.nil=>rfl
|_,_,_,.cons r t,.cons b t'=>by rw[r.inj b,Vals.inj t t']
section
variable{X:Cx}{pins:a5 (ao×Obj)}{σ:St}{H:Hp}{s:aB}{a:ao}{xs ys:a5 V}
theorem lY.of{K:au}(h:H a=some (.lst xs)):lY K H a xs:=.inl (.inl h)
theorem Inv.list(I:Inv X pins σ H s)(h:lY X.K H a xs):∃bK:a5 ak,Vals xs bK/\PlainL s.heap a bK.toArray/\xs.length<=aQ:=by rcases h with h|⟨o,bK,n,hk,c,hd,b,hz,r⟩;obtain⟨z,bK,n,r,e⟩:=h.ok I.gP;exact⟨bK,r,⟨_,n,e,rfl,rfl,rfl⟩,z⟩;refine⟨bK.toList,r,⟨o,n,I.Hf a o hk,c,hd,by simpa using b⟩,?_⟩;have e:=r.length;simp only[cv]at e;lia
theorem Inv.tuple(I:Inv X pins σ H s)(h:zy X.K H a xs):∃bK:a5 ak,Vals xs bK/\IsTup s.heap a bK.toArray/\xs.length<=aQ:=by rcases h with h|⟨o,bK,n,hk,c,b,hz,r⟩;obtain⟨z,bK,r,p⟩:=h.ok I.gP;exact⟨bK,r,p,z⟩;refine⟨bK.toList,r,⟨o,I.Hf a o hk,c,n,by simpa using b⟩,?_⟩;have e:=r.length;simp only[cv]at e;lia
theorem Inv.BZ(I:Inv X pins σ H s)(h:lY X.K H a xs)(h':lY X.K H a ys):xs=ys:=by
 obtain⟨bK,r,⟨o,n,e,_,_,d⟩,_⟩:=I.list h;obtain⟨its',c,⟨f,g,b,_,_,d'⟩,_⟩:=I.list h';rw[e]at b;cases b;rw[d]at d';injection d' with d1 _;have:bK=its':=by simpa using congrArg Kf d1
 subst this;exact r.inj c
theorem Inv.xU(I:Inv X pins σ H s)(h:zy X.K H a xs)(h':zy X.K H a ys):xs=ys:=by
 obtain⟨bK,r,⟨o,e,_,n,d⟩,_⟩:=I.tuple h;obtain⟨its',c,⟨f,b,_,g,d'⟩,_⟩:=I.tuple h';rw[e]at b;cases b;rw[d]at d';injection d' with d1 _;have:bK=its':=by simpa using congrArg Kf d1
 subst this;exact r.inj c
end
abbrev Cx.CZ(X:Cx)(E:ak->aB->Prop):Cx:={ X with xe:=E }
abbrev Cx.Se(X:Cx):Cx:=X.CZ λ_ _=>False
theorem Cx.Ok.CZ{X:Cx}(ok:X.Ok)(E:ak->aB->Prop):(X.CZ E).Ok:=
 ⟨ok.mod,ok.kind,ok.glob,ok.blt,ok.above,ok.inj,ok.has,ok.cab,ok.hd,ok.frames,ok.stk,ok.exf,ok.bs,ok.TZ,ok.Si,ok.Te,ok.yx,ok.Ye⟩
theorem Cx.Ok.rY{X:Cx}{E:ak->aB->Prop}(ok:(X.CZ E).Ok):X.Ok:=
 ⟨ok.mod,ok.kind,ok.glob,ok.blt,ok.above,ok.inj,ok.has,ok.cab,ok.hd,ok.frames,ok.stk,ok.exf,ok.bs,ok.TZ,ok.Si,ok.Te,ok.yx,ok.Ye⟩
section
variable{X:Cx}{pins:a5 (ao×Obj)}{σ:St}{H:Hp}{s:aB}{E:ak->aB->Prop}
theorem Inv.CZ(I:Inv X pins σ H s)(E:ak->aB->Prop):Inv (X.CZ E) pins σ H s:=⟨I.ok.CZ E,I.os,I.bare,I.base,I.loc,I.cell,I.free,I.sT,I.pin,I.gP,I.len⟩
theorem Inv.rY(I:Inv (X.CZ E) pins σ H s):Inv X pins σ H s:=⟨I.ok.rY,I.os,I.bare,I.base,I.loc,I.cell,I.free,I.sT,I.pin,I.gP,I.len⟩
theorem SP.rY{D:Ends}{f:Flow}{b:aB}(h:SP (X.CZ E) pins D f b):SP X pins D f b:=by
 cases f with
|next=>obtain⟨a,H',I,q⟩:=h;exact⟨a,H',I.rY,q⟩
|brk=>obtain⟨a,H',I,q⟩:=h;exact⟨a,H',I.rY,q⟩
|cont=>obtain⟨a,H',I,q⟩:=h;exact⟨a,H',I.rY,q⟩
|ret u=>obtain⟨v,a,H',I,r,q⟩:=h;exact⟨v,a,H',I.rY,r,q⟩
theorem NX.Se{st:a5 jv}{t:TS}(h:NX X.Se st t):NX X st t:=λpins s σ H D I a=>d9 (h pins s σ H D (I.CZ _) a) (λ_ _ q=>q.rY) λ_ _ z=>False.elim z
end
section
variable{X:Cx}{st:jv}{rest:a5 jv}{t u:TS}{e:bL}{te:TE}{pos:Pos}
def ab3:TS:=λD a H=>D.nx a H
def aeC(t u:TS):TS:=λD a H=>t { D with nx:=u D } a H
theorem V1:NX X [] ab3:=λ_ _ a H _ I h=>v9 ⟨a,H,I,h⟩
theorem sC(g:PS X st t)(d:NX X rest u):NX X (st::rest) (aeC t u):=by
 intro pins s b H D I h;refine wpAny_execs_cons (iW (g pins s b H { D with nx:=u D } I h) λf c q=>?_);cases f with
|next=>obtain⟨a,H',i,q⟩:=q;exact d pins c a H' D i q
|ret v=>exact q
|brk=>exact q
|cont=>exact q
theorem wB(b:PS X st t):NX X [st] t:=by
 intro pins s a H D I h;refine wpAny_execs_cons (iW (b pins s a H D I h) λf c q=>?_);cases f with
|next=>exact v9 q
|ret v=>exact q
|brk=>exact q
|cont=>exact q
theorem Inv.quiet{pins:a5 (ao×Obj)}{a:St}{H:Hp}{s:aB}(I:Inv X pins a H s):interactive X.env=false:=by simp[interactive,I.ok.kind]
def ab5(te:TE):TS:=λD a H=>te a H λ_ b=>D.nx a b
theorem FL(d:PE X e te)(c:lq e none pos.line X.env=pure false:=by rfl):PS X (.Expr e pos) (ab5 te):=by intro pins s a H D I h;exact wpAny_Expr_any (iW (d pins s a H _ I h) λv i ⟨x,g,f,j,b⟩=>⟨a,g,f,b⟩) I.quiet c
def aeD(te:TE):TS:=λD a H=>te a H D.rt
theorem RM(d:PE X e te):PS X (.Return (some e) pos) (aeD te):=by intro pins s a H D I h;exact wpAny_Return_some (iW (d pins s a H _ I h) λv i ⟨x,g,f,b,c⟩=>⟨x,a,g,f,b,c⟩)
def aeK(c:TT)(t u:TS):TS:=λD a H=>c a H λb d=>if b=true then t D a d else u D a d
theorem acr{c:bL}{a b:a5 jv}{g:TT}(m:PT X c g)(o:NX X a t)(n:NX X b u):PS X (.If c a b pos) (aeK g t u):=by
 intro pins s f H D I h;refine wpAny_If (iW (m pins s f H _ I h) λd i ⟨l,k,j⟩=>?_);cases d with
|true=>exact o pins i f l D k j
|false=>exact n pins i f l D k j
end
abbrev TG:=V->St->Hp->(St->Hp->Prop)->Prop
abbrev TGs:=a5 V->St->Hp->(St->Hp->Prop)->Prop
def PG(X:Cx)(c:bL)(t:TG):Prop:=
 ∀(pins:a5 (ao×Obj))(s:aB)(b:St)(H:Hp)(v:V)(u:ak)(Q:St->Hp->Prop),Inv X pins b H s->RelV v u->t v b H Q →
  a7 (bb X.prog X.w) X.A (pQ c X.env u) (λ_ d=>∃a H',Inv X pins a H' d/\Q a H') X.xe s
def PGs(X:Cx)(c:a5 bL)(t:TGs):Prop:=
 ∀(pins:a5 (ao×Obj))(s:aB)(b:St)(H:Hp)(vs:a5 V)(us:a5 ak)(Q:St->Hp->Prop),Inv X pins b H s->Vals vs us->t vs b H Q →
  a7 (bb X.prog X.w) X.A (assignInOrder ((dQ c X.env).map (·.2)) us) (λ_ d=>∃a H',Inv X pins a H' d/\Q a H') X.xe s
abbrev aa9:=V->V->V->Hp->(Hp->Prop)->Prop
def adH(X:Cx)(t:aa9):Prop:=
 ∀(pins:a5 (ao×Obj))(s:aB)(a:St)(H:Hp)(o i v:V)(b c u:ak)(Q:Hp->Prop),Inv X pins a H s->RelV o b->RelV i c->RelV v u->t o i v H Q →
  a7 (bb X.prog X.w) X.A (setItem b c u) (λ_ d=>∃H',Inv X pins a H' d/\Q H') X.xe s
abbrev TIp:=V->V->Hp->VK->Prop
def PIp(X:Cx)(op:XE)(t:TIp):Prop:=
 ∀(pins:a5 (ao×Obj))(s:aB)(a:St)(H:Hp)(x y:V)(v u:ak)(Q:VK),Inv X pins a H s->RelV x v->RelV y u->t x y H Q →
  a7 (bb X.prog X.w) X.A (inplaceOp op v u) (EP X pins a Q) X.xe s
section
variable{X:Cx}{pos:Pos}
def uV(i:Nat):TG:=λv a H Q=>Q (a.set i (some v)) H
theorem FO{i:Nat}{x:Str}(c:X.N.Nodup)(hi:X.N[i]? = some x)(a:Loc X.env.scope x)(b:X.fn x=true\/X.env.scope.names.lookup x=some .local:=by first|exact .inl rfl|exact .inr rfl|assumption):PG X (.Name x pos) (uV i):=by intro pins s f H v u Q I r h;exact wpAny_assign_Name (Bg I c hi a r (λg d=>⟨_,H,d,h⟩) b)
def aaK:TGs:=λvs a H Q=>vs=[]/\Q a H
def EA(t:TG)(u:TGs):TGs:=λvs b H Q=>∃v r,vs=v::r/\t v b H λa H'=>u r a H' Q
theorem MV:PGs X [] aaK:=by intro pins s a H vs us Q I r h;obtain⟨e,h⟩:=h;subst e;cases r;exact assignInOrder_nil ⟨a,H,I,h⟩
theorem sF{e:bL}{a:a5 bL}{t:TG}{u:TGs}(k:PG X e t)(j:PGs X a u)(i:(dQ (e::a) X.env).map (·.2)=pQ e X.env::(dQ a X.env).map (·.2):=by rfl):PGs X (e::a) (EA t u):=by
 intro pins s c H vs us Q I r h;obtain⟨v,o,l,h⟩:=h;subst l;cases r with
|cons r f=>rw[i];refine assignInOrder_cons (iW (k pins s c H _ _ _ I r h) λ_ d ⟨b,n,m,g⟩=>?_);exact j pins d b n _ _ Q m f g
def aaJ(K:au)(n:Nat)(t:TGs):TG:=λv b H Q=>∃a xs,v=.ref a/\zy K H a xs/\xs.length=n/\t xs b H Q
theorem RO{c:a5 bL}{k:Nat}{t:TGs}{n:Nat}(q:X.calm=true)(h:PGs X c t)(p:(dQ c X.env).length=n:=by rfl)(l:(dQ c X.env).findIdx? (·.1)=none:=by rfl):PG X (.Tuple c k pos) (aaJ X.K n t):=by intro pins s f H v u Q I r d;obtain⟨a,xs,w,m,hl,d⟩:=d;subst w;cases r;obtain⟨bK,g,j,hz⟩:=I.tuple m;refine assign_Tuple_tuple (I.ok.hd q) j (by simp[p,<- hl,g.length]) l λh' i=>?_;have x:Inv X pins f H { s with heap:=h' }:=I.kept (t':=s.toks) λb o e=>i b o (bQ (Heap.lt_size e)) e;exact h pins _ f H xs _ Q x #v[g] d
def afe(to ti:TE)(t:aa9):TG:=λv a H Q=>to a H λo d=>ti a d λi c=>t o i v c λb=>Q a b
theorem ZR{o i:bL}{to ti:TE}{t:aa9}(p:PE X o to)(hi:PE X i ti)(n:adH X t)(q:∀v,pQ (.Subscript o i pos) X.env v=(do
   let a <- kF [v] (cg o X.env);let b <- kF [v,a] (cg i X.env)
   zX pos
   kF [v,a,b] (setItem a b v)
   release [v,a,b] []):=by intro _;rfl):PG X (.Subscript o i pos) (afe to ti t):=by intro pins s c H v u Q I r h;rw[q];refine aj (eo (iW (p pins s c H _ I h) λa f ⟨x,D,A,j,m⟩=>?_));refine aj (eo (iW (hi pins f c D _ A m) λb d ⟨y,C,z,g,l⟩=>?_));refine aj (Qt (aj (eo (iW (n pins d c C x y v a b u _ z j g r l) λ_ E ⟨B,w,k⟩=>?_))));exact wpAny_release ⟨c,B,w,k⟩
def Zt(b:TE)(g:TG):TS:=λD a H=>b a H λx c=>g x a c D.nx
theorem ZK{a e:bL}{c:TE}{g:TG}(m:PE X e c)(l:PG X a g)(k:swapsWithSole [a] e pos.line X.env=pure false:=by rfl)(j:swappedStores [a] e X.env=pure none:=by rfl)(n:(dQ [a] X.env).map (·.2)=[pQ a X.env]:=by rfl):PS X (.Assign [a] e pos) (Zt c g):=by intro pins s b H D I h;refine wpAny_Assign_stores (iW (m pins s b H _ I h) λv d ⟨x,p,o,f,i⟩=>?_) k j;rw[n];exact iW (l pins d b p x v _ o f i) λ_ r q=>q
theorem FK{i:Nat}{x:Str}{e:bL}{a:TE}{b:Pos}(m:X.N.Nodup)(hi:X.N[i]? = some x)(g:Loc X.env.scope x)(l:PE X e a)(j:lq e (some (.Name x b)) pos.line X.env=pure false:=by rfl)(k:X.fn x=true\/X.env.scope.names.lookup x=some .local:=by first|exact .inl rfl|exact .inr rfl|assumption):
  PS X (.Assign [.Name x b] e pos) (Zt a (uV i)):=by intro pins s c H D I h;refine wpAny_Assign_Name (iW (l pins s c H _ I h) λv r ⟨y,p,o,d,f⟩=>?_) j;exact Bg o m hi g d (λq n=>⟨_,p,n,f⟩) k
def aeO(i:Nat)(b:TE)(ti:TIp):TS:=λD a H=>∃x,a[i]? = some (some x)/\b a H λy d=>ti x y d λz c=>D.nx (a.set i (some z)) c
theorem ZJ{i:Nat}{x:Str}{e:bL}{d:TE}{op:XE}{ti:TIp}{A:Pos}(L:X.N.Nodup)(hi:X.N[i]? = some x)(a:Loc X.env.scope x)(G:PE X e d)(B:PIp X op ti)(F:X.fn x=true\/X.env.scope.names.lookup x=some .local:=by first|exact .inl rfl|exact .inr rfl|assumption):
  PS X (.AugAssign (.Name x A) op e pos) (aeO i d ti):=by
 intro pins s b H D I h;obtain⟨v,M,h⟩:=h;obtain⟨m,C,hl⟩:=I.loc;have f:UJ X.env.scope x:=by rcases a with k|k;exact .inl k;exact .inr (.inl k)
 obtain⟨u,r,l⟩:=hl i x v hi M f;refine wpAny_AugAssign_Name ?_;have go:a7 (bb X.prog X.w) X.A (cg e X.env) (λw j=>a7 (bb X.prog X.w) X.A (inplaceOp op u w) (λr g=>a7 (bb X.prog X.w) X.A (storeName X.env x r) (λ_=>SP X pins D .next) X.xe g) X.xe j) X.xe s:=by refine iW (G pins s b H _ I h) λw n ⟨y,R,P,p,t⟩=>?_;refine iW (B pins n b R v y u w _ P r p t) λz U ⟨S,Q,O,o,q⟩=>?_;exact Bg O L hi a o (λT N=>⟨_,Q,N,q⟩) F
 rcases l with⟨hk,E⟩|⟨hk,c,K,J⟩;exact Xy I.ok.kind hk C E go;rcases hk with hk|hk;exact YC I.ok.kind hk K J go;rcases a with k|k;have:X.env.scope.names.lookup x=some .free:=hk;rw[k]at this;cases this;have:X.env.scope.names.lookup x=some .free:=hk;rw[k]at this;cases this
def ipI(f:Int->Int->Int):TIp:=λx y H Q=>∃i j,x=.int i/\y=.int j/\Q (.int (f i j)) H
theorem aaF:PIp X .Add (ipI λi j=>i+j):=by intro pins s f H x y v u Q I b a h;obtain⟨i,j,d,c,q⟩:=h;subst d;subst c;obtain⟨t,rfl⟩:=b;obtain⟨t',rfl⟩:=a;exact iadd_int ⟨.int _,H,I.tok _,⟨_,rfl⟩,q⟩
end
section
variable{X:Cx}{pos:Pos}
def Zo(c:TT)(h:TS):TS:=λD a H=>∃W:Nat->St->Hp->Prop,(∃m,W m a H)/\∀m a H,W m a H →
 c a H λb g=>if b=true then ∃N:St->Hp->Prop,(∀d H',N d H'->∃f,f<m/\W f d H')/\h { D with nx:=N,ct:=N,bk:=D.nx } a g else D.nx a g
theorem RK{c:bL}{x:a5 jv}{r:TT}{t:TS}(u:QL (bb X.prog X.w) X.A X.env X.xe)(K:PT X c r)(L:NX X x t):PS X (.While c x [] pos) (Zo r t):=by
 intro pins s B H D I h;obtain⟨W,⟨m0,E⟩,turn⟩:=h;refine wpAny_While (codeAny_whileLoop (λn J=>∃q H',Inv X pins q H' J/\W n q H') ?_ m0 ⟨B,H,I,E⟩);rintro n G ⟨g,A,M,C⟩;refine kh u (iW (K pins G g A _ M (turn n g A C)) λb F ⟨z,y,j⟩=>?_);cases b with
|true=>
  obtain⟨N,w,j⟩:=j;rw[if_pos rfl];refine kh u (iW (L pins F g z _ y j) λf O i=>?_);cases f with
 |next=>obtain⟨a,d,p,l⟩:=i;obtain⟨m,o,k⟩:=w a d l;exact⟨m,o,a,d,p,k⟩
 |cont=>obtain⟨a,d,p,l⟩:=i;obtain⟨m,o,k⟩:=w a d l;exact⟨m,o,a,d,p,k⟩
 |brk=>exact i
 |ret v=>exact i
|false=>rw[if_neg bR];exact v9 ⟨g,z,y,j⟩
end
structure It where
 go:Nat->Hp->Prop
 yld:Nat->Hp->V->Hp->Prop
 stop:Nat->Hp->Prop
def Ai(X:Cx)(pins:a5 (ao×Obj))(H:Hp)(b:ao):Prop:=
 H b=none/\b≠X.env.locals/\b∉X.fs/\(b∈X.ex\/X.C3.heap.objs.size<=b)/\(∀x c,X.env.cells.lookup x=some c->c≠b)/\∀p∈X.pn++pins,p.1≠b
theorem Inv.LF{X:Cx}{pins:a5 (ao×Obj)}{d:St}{H H':Hp}{s:aB}{b:ao}(I:Inv X pins d H s)(a:s.heap.objs.size<=b)(g:H' b=none):Ai X pins H' b:=by refine⟨g,cX (aR I.lt a),I.ae3 a,.inr (bu I.sz a),λx c e z=>?_,λp f z=>?_⟩;obtain⟨v,q⟩:=I.cell x c e;exact absurd (aR q.lt (by rw[z];exact a)) (eQ _);exact absurd (aR (Heap.lt_size (I.pin p f).1) (by rw[z];exact a)) (eQ _)
structure Turn (P:bC) (w:cu) (K:au) (tg:bL) (J:It) (fp:a5 ao) (it:ao) (tn:Nat->cY->Prop):Prop where
 mem:it∈fp
 obj:∀i h,tn i h->∀b∈fp,∃o,h.get? b=some o/\∀v,o.data≠.cell v
 keep:∀i h h',tn i h->(∀b∈fp,∀o,h.get? b=some o->h'.get? b=some o)->tn i h'
 item:∀(X:Cx),X.prog=P->X.w=w->X.K=K->X.calm=true->∀(i:Nat)(pins:a5 (ao×Obj))(s:aB)(σ:St)(H:Hp)(E:ak->aB->Prop),Inv X pins σ H s->(∀b∈fp,Ai X pins H b)->tn i s.heap->J.go i H →
  a7 (bb P w) X.A (nt (.ref it)) (λr s1=>∃u,r=some u ∧
   a7 (bb P w) X.A (we tg (.ref it) u) (λ_ s2=>∃x H',Inv X pins σ H' s2/\RelV x u/\J.yld i H x H'/\tn (i+1) s2.heap/\∀b∈fp,H' b=none) E s1) E s
 done:∀(X:Cx),X.prog=P->X.w=w->X.K=K->X.calm=true->∀(i:Nat)(pins:a5 (ao×Obj))(s:aB)(σ:St)(H:Hp)(E:ak->aB->Prop),Inv X pins σ H s->(∀b∈fp,Ai X pins H b)->tn i s.heap->J.stop i H →
  a7 (bb P w) X.A (nt (.ref it)) (λr s1=>r=none/\Inv X pins σ H s1) E s
 self:∀(A:bT)(i:Nat)(s:aB)(Q:ak->aB->Prop)(E:ak->aB->Prop),tn i s.heap->Q (.ref it) s->a7 (bb P w) A (pyIter (.ref it)) Q E s
abbrev TI:=St->Hp->(It->Hp->Prop)->Prop
def PIE(X:Cx)(pins:a5 (ao×Obj))(g:St)(h:bL)(R:It->Hp->Prop)(i:ak)(c:aB):Prop:=
 ∃(d:ao)(f:a5 ao)(a:Nat->cY->Prop)(J:It)(H':Hp),i=.ref d/\Inv X pins g H' c/\Turn X.prog X.w X.K h J f d a/\a 0 c.heap/\(∀b∈f,Ai X pins H' b)/\R J H'
def PI(X:Cx)(c f:bL)(b:TI):Prop:=
 ∀(pins:a5 (ao×Obj))(s:aB)(a:St)(H:Hp)(R:It->Hp->Prop),Inv X pins a H s->b a H R →
  a7 (bb X.prog X.w) X.A (cg f X.env) (λv d=>a7 (bb X.prog X.w) X.A (pyIter v) (PIE X pins a c R) X.xe d) X.xe s
theorem Nu{M:XF}{A:bT}{E:ak->aB->Prop}{s:aB}{b:bL}{c:ao}{u:ak}{o:Obj}{n:String}{vs:Array ak}{Q:Unit->aB->Prop}(d:s.heap.get? c=some o)(g:o.cls=.type n)(hd:o.data=.fields vs)(f:["enumerate","zip","dict_itemiterator","dict_reverseitemiterator","odict_iterator","itertools.zip_longest","itertools.pairwise"].contains n=false)(a:Q () s):a7 M A (we b (.ref c) u) Q E s:=by
 unfold we;cases b<;>first
 |exact aM a
 |(cases u<;>first
   |exact aM a
   |(refine aj (wpAny_load d ?_)
     rw[g,hd];show a7 M A (if(["enumerate","zip","dict_itemiterator","dict_reverseitemiterator","odict_iterator","itertools.zip_longest","itertools.pairwise"].contains n&&vs[0]? == some (nj _))=true then _ else _) Q E s;rw[if_neg (by intro h;rw[f,kl]at h;cases h)];exact aM a))
def Itl(K:au)(a:ao):It:=
 ⟨λi H=>∃xs x,lY K H a xs/\xs[i]? = some x,λi H x H'=>H'=H/\∀xs,lY K H a xs->xs[i]? = some x,λi H=>∃xs,lY K H a xs/\xs.length<=i⟩
def Itt(K:au)(a:ao):It:=
 ⟨λi H=>∃xs x,zy K H a xs/\xs[i]? = some x,λi H x H'=>H'=H/\∀xs,zy K H a xs->xs[i]? = some x,λi H=>∃xs,zy K H a xs/\xs.length<=i⟩
def Itr(lo:Int)(n:Nat):It:=⟨λi _=>i<n,λi H x H'=>H'=H/\x=.int (lo+i),λi _=>n<=i⟩
theorem Oo{P:bC}{w:cu}{K:au}{M:bL}(a f:ao):Turn P w K M (Itl K a) [f] f (λi h=>h.IsListIter f a i) where
 mem:=#v[0]
 obj:=λi h st b g=>by
  have e:b=f:=by simpa using g
  subst e;obtain⟨o,e,c,d⟩:=st;exact⟨o,e,λv z=>by rw[d]at z;cases z⟩
 keep:=λi h h' st k=>st.at λo e=>k f #v[0] o e
 item:=by intro X t q y L i pins s G H E I l st r;subst t q y;obtain⟨xs,x,j,n⟩:=r;obtain⟨bK,m,p,hz⟩:=I.list j;obtain⟨u,R,O⟩:=m.get n;obtain⟨F,D,S,C,B,A⟩:=l f #v[0];refine wpAny_pyNext_list_item st p.isList (x:=u) #v[R] λh' J N=>?_;have U:Inv X pins G H { s with heap:=h' }:=I.turned (t':=s.toks) (λb o g e=>(N.2 b g).trans e) F D C B A;obtain⟨o,e,c,d⟩:=id J;exact⟨u,rfl,Nu (s:={ s with heap:=h' }) e c d #v[1] ⟨x,H,U,O,⟨rfl,λV Q=>by rw[I.BZ Q j];exact n⟩,J,λb g=>(l b g).1⟩⟩
 done:=by intro X t q y L i pins s G H E I l st r;subst t q y;obtain⟨xs,j,n⟩:=r;obtain⟨bK,m,p,hz⟩:=I.list j;obtain⟨F,D,S,C,B,A⟩:=l f #v[0];have hl:=m.length;exact wpAny_pyNext_list_end (I.ok.hd L) st p.isList (by simp;lia) λh' T=>⟨rfl,I.turned (t':=s.toks) (λb o g e=>T b o g e) F D C B A⟩
 self:=λ_ _ _ _ _ st h=>wpAny_pyIter_listiter st h
theorem KH{P:bC}{w:cu}{K:au}{M:bL}(a f:ao):Turn P w K M (Itt K a) [f] f (λi h=>h.IsTupleIter f a i) where
 mem:=#v[0]
 obj:=λi h st b g=>by
  have e:b=f:=by simpa using g
  subst e;obtain⟨o,e,c,d⟩:=st;exact⟨o,e,λv z=>by rw[d]at z;cases z⟩
 keep:=λi h h' st k=>st.at λo e=>k f #v[0] o e
 item:=by intro X t q y L i pins s G H E I l st r;subst t q y;obtain⟨xs,x,j,n⟩:=r;obtain⟨bK,m,p,hz⟩:=I.tuple j;obtain⟨u,R,O⟩:=m.get n;obtain⟨F,D,S,C,B,A⟩:=l f #v[0];refine wpAny_pyNext_tuple_item st (show s.heap.IsTuple a bK.toArray from p) (x:=u) #v[R] λh' J N=>?_;have U:Inv X pins G H { s with heap:=h' }:=I.turned (t':=s.toks) (λb o g e=>(N.2 b g).trans e) F D C B A;obtain⟨o,e,c,d⟩:=id J;exact⟨u,rfl,Nu (s:={ s with heap:=h' }) e c d #v[1] ⟨x,H,U,O,⟨rfl,λV Q=>by rw[I.xU Q j];exact n⟩,J,λb g=>(l b g).1⟩⟩
 done:=by intro X t q y L i pins s G H E I l st r;subst t q y;obtain⟨xs,j,n⟩:=r;obtain⟨bK,m,p,hz⟩:=I.tuple j;obtain⟨F,D,S,C,B,A⟩:=l f #v[0];have hl:=m.length;exact wpAny_pyNext_tuple_end (I.ok.hd L) st (show s.heap.IsTuple a bK.toArray from p) (by simp;lia) λh' T=>⟨rfl,I.turned (t':=s.toks) (λb o g e=>T b o g e) F D C B A⟩
 self:=λ_ _ _ _ _ st h=>wpAny_pyIter_tupleiter st h
theorem KI{P:bC}{w:cu}{K:au}{B:bL}(a:ao)(lo:Int)(n:Nat):Turn P w K B (Itr lo n) [a] a (λi h=>Hr h a (lo+(i:Nat)*1) ((n:Int)-(i:Nat)) 1) where
 mem:=#v[0]
 obj:=λi h st b c=>by
  have e:b=a:=by simpa using c
  subst e;exact⟨_,st,λv z=>by have z':Data.fields _=Data.cell v:=z;cases z'⟩
 keep:=λi h h' st k=>k a #v[0] _ st
 item:=by intro X l f m j i pins s y H E I d st g;subst l f m;obtain⟨x,u,F,r,q,p⟩:=d a #v[0];have W:=Walks.range (prog:=X.prog) (w:=X.w) (I.ok.hd j) a lo 1 n;refine W.item i s _ _ g st λv h' tk D A C=>?_;obtain⟨t,rfl⟩:=D;have J:Inv X pins y H { s with heap:=h',toks:=tk }:=I.turned (λb o c e=>C b o #v[c] e) x u r q p;refine⟨_,rfl,Nu (s:={ s with heap:=h',toks:=tk }) (n:="range_iterator") A rfl rfl #v[1] ⟨.int (lo+i),H,J,⟨t,?_⟩,⟨rfl,rfl⟩,A,λb c=>(d b c).1⟩⟩;rw[Int.mul_one]
 done:=by intro X l f m j i pins s y H E I d st g;subst l f m;obtain⟨x,u,F,r,q,p⟩:=d a #v[0];exact Uy (I.ok.hd j) st (by have:n<=i:=g;lia) λh' G=>⟨rfl,I.turned (t':=s.toks) (λb o c e=>G b o c e) x u r q p⟩
 self:=λ_ _ _ _ _ st h=>Uz st h
section
variable{X:Cx}{tg:bL}
def acQ(K:au)(d:TE):TI:=λc H R=>d c H λx b=>∃a,x=.ref a/\(∃xs,lY K b a xs)/\R (Itl K a) b
def afd(K:au)(d:TE):TI:=λc H R=>d c H λx b=>∃a,x=.ref a/\(∃xs,zy K b a xs)/\R (Itt K a) b
theorem MU{l:bL}{f:TE}(hl:PE X l f):PI X tg l (acQ X.K f):=by
 intro pins s g H R I h;refine iW (hl pins s g H _ I h) λv c ⟨x,n,d,i,j⟩=>?_;obtain⟨a,e,⟨xs,k⟩,q⟩:=j;subst e;cases i;obtain⟨bK,r,p,hz⟩:=d.list k;refine nh p.isList ?_;refine⟨c.heap.objs.size,[c.heap.objs.size],_,_,n,rfl,d.kept (t':=c.toks) λb o e=>Heap.get?_push_of_some _ e,Oo a _,⟨_,Heap.get?_push_size _ rfl,rfl,rfl⟩,λb m=>?_,q⟩;have e:b=c.heap.objs.size:=by simpa using m
 subst e;exact d.LF (aS _) (d.gP.fresh (aS _))
theorem ZO{l:bL}{f:TE}(hl:PE X l f):PI X tg l (afd X.K f):=by
 intro pins s g H R I h;refine iW (hl pins s g H _ I h) λv c ⟨x,n,d,i,j⟩=>?_;obtain⟨a,e,⟨xs,k⟩,q⟩:=j;subst e;cases i;obtain⟨bK,r,p,hz⟩:=d.tuple k;refine wpAny_pyIter_tuple (show c.heap.IsTuple a bK.toArray from p) ?_;refine⟨c.heap.objs.size,[c.heap.objs.size],_,_,n,rfl,d.kept (t':=c.toks) λb o e=>Heap.get?_push_of_some _ e,KH a _,⟨_,Heap.get?_push_size _ rfl,rfl,rfl⟩,λb m=>?_,q⟩;have e:b=c.heap.objs.size:=by simpa using m
 subst e;exact d.LF (aS _) (d.gP.fresh (aS _))
theorem Ij{pins:a5 (ao×Obj)}{a:St}{H:Hp}{s:aB}{R:It->Hp->Prop}{E:ak->aB->Prop}{lo hi:Int}{t u v:Tok}{tk:Nat}(I:Inv X pins a H s)(i:-(2 ^ 62)<=lo)(h:lo<2 ^ 62)(g:-(2 ^ 62)<=hi)(f:hi<2 ^ 62)(q:R (Itr lo (hi-lo).toNat) H):a7 (bb X.prog X.w) X.A (pyIter (.ref s.heap.objs.size)) (PIE X pins a tg R) E { s with heap:=s.heap.push { cls:=.type "range",data:=.fields #[.int lo t,.int hi u,.int 1 v] },toks:=tk }:=by
 refine wpAny_pyIter_range (IsRange.new ..) (small_one i h g f) ?_;have c:Inv X pins a H { s with heap:=s.heap.push { cls:=.type "range",data:=.fields #[.int lo t,.int hi u,.int 1 v] },toks:=tk }:=I.kept λb o e=>Heap.get?_push_of_some _ e;refine⟨(s.heap.push { cls:=.type "range",data:=.fields #[.int lo t,.int hi u,.int 1 v] }).objs.size,[(s.heap.push { cls:=.type "range",data:=.fields #[.int lo t,.int hi u,.int 1 v] }).objs.size],_,_,H,rfl,
  c.kept (t':=tk) λb o e=>Heap.get?_push_of_some _ e,KI _ lo (hi-lo).toNat,?_,λb d=>?_,q⟩
 have k:lo+((0:Nat):Int)*1=lo:=#v[0]
 have j:(((hi-lo).toNat:Nat):Int)-((0:Nat):Int)=Builtin.Range.rangeSize lo hi 1:=by rw[rangeSize_one];split<;>lia
 show Hr _ _ (lo+((0:Nat):Int)*1) ((((hi-lo).toNat:Nat):Int)-((0:Nat):Int)) 1;rw[k,j];exact Heap.get?_push_size _ rfl;have e:b=(s.heap.push { cls:=.type "range",data:=.fields #[.int lo t,.int hi u,.int 1 v] }).objs.size:=by simpa using d
 subst e;exact c.LF (aS _) (c.gP.fresh (aS _))
def acP(b:TA):TI:=λa H R=>b a H λvs c=>∃j:Int,vs=[.int j]/\-(2 ^ 62)<=j/\j<2 ^ 62/\R (Itr 0 j.toNat) c
def acO(b:TA):TI:=λa H R=>b a H λvs c=>∃i j:Int,vs=[.int i,.int j]/\(-(2 ^ 62)<=i/\i<2 ^ 62/\-(2 ^ 62)<=j/\j<2 ^ 62)/\R (Itr i (j-i).toNat) c
theorem OO{a:bL}{c:TA}{p pos:Pos}(m:Gl X "range")(l:X.mg "range" = none)(n:PA X [a] c)(k:aG [a] X.env=[(false,cg a X.env)]:=by rfl):PI X tg (.Call (.Name "range" p) [a] [] pos) (acP c):=by
 intro pins s d H R I h;refine Call_ (ml I m l Mv (b9 (iW (n pos pins s d H _ I h) λus u ⟨vs,v,o,g,b⟩=>?_) k rfl));obtain⟨j,e,b,i,q⟩:=b;subst e;cases g with
|cons r f=>cases f;obtain⟨t,rfl⟩:=r;exact call_range_1 (Ij o #v[] #v[] b i #v[q])
theorem ON{a b:bL}{f:TA}{p pos:Pos}(x:Gl X "range")(w:X.mg "range" = none)(y:PA X [a,b] f)(v:aG [a,b] X.env=[(false,cg a X.env),(false,cg b X.env)]:=by rfl)(g:aG [b] X.env=[(false,cg b X.env)]:=by rfl):
  PI X tg (.Call (.Name "range" p) [a,b] [] pos) (acO f):=by
 intro pins s k H R I h;refine Call_ (ml I x w Mv (b9 (iW (y pos pins s k H _ I h) λus A ⟨vs,B,z,l,d⟩=>?_) (by rw[v,g]) (by rw[g];rfl)));obtain⟨i,j,e,⟨d,u,o,n⟩,q⟩:=d;subst e;cases l with
|cons r c=>
  cases c with
 |cons m c=>cases c;obtain⟨t,rfl⟩:=r;obtain⟨t',rfl⟩:=m;exact call_range_2 (Ij z d u o n q)
def aeL(f:TI)(g:TG)(h:TS):TS:=λD a H=>f a H λJ k=>∃W:Nat->Nat->St->Hp->Prop,(∃m,W 0 m a k)/\∀i m a H,W i m a H →
 (J.stop i H/\D.nx a H)\/(J.go i H/\∃N:St->Hp->Prop,(∀b H',N b H'->∃c,c<m/\W (i+1) c b H')/\∀x H',J.yld i H x H'->g x a H' λd j=>h { D with nx:=N,ct:=N,bk:=D.nx } d j)
def Br(a:a5 ao)(h:cY):a5 (ao×Obj):=a.filterMap λb=>(h.get? b).map λo=>(b,o)
theorem vJ{a:a5 ao}{h:cY}{b:ao}{o:Obj}(c:b∈a)(e:h.get? b=some o):(b,o)∈Br a h:=xM.mpr ⟨b,c,by rw[e];rfl⟩
theorem O0{a:a5 ao}{h:cY}{p:ao×Obj}(c:p∈Br a h):p.1∈a/\h.get? p.1=some p.2:=by
 obtain⟨b,d,e⟩:=xM.mp c;cases q:h.get? b with
|none=>rw[q]at e;cases e
|some o=>rw[q]at e;have e':(b,o)=p:=aH e;subst e';exact⟨d,q⟩
theorem Inv.pinned{pins:a5 (ao×Obj)}{c:St}{H:Hp}{s:aB}{a:a5 ao}(I:Inv X pins c H s)(j:∀b∈a,Ai X pins H b)(i:∀b∈a,∃o,s.heap.get? b=some o/\∀v,o.data≠.cell v):Inv X (pins++Br a s.heap) c H s:=
 I.FN λp h=>(aI.mp h).elim (λz=>I.pin p (bI _ z)) λz=>by obtain⟨f,e⟩:=O0 z;obtain⟨m,l,k,_⟩:=j p.1 f;obtain⟨o,g,d⟩:=i p.1 f;rw[e]at g;cases g;exact⟨e,m,l,k,d⟩
theorem Inv.kG{pins pl:a5 (ao×Obj)}{a:St}{H:Hp}{s:aB}(I:Inv X (pins++pl) a H s):Inv X pins a H s:=I.FN λp b=>I.pin p (bI _ (eY _ b))
theorem RN{E:bL}{Y:a5 jv}{K:TI}{g:TG}{M:TS}{pos:Pos}(w:QL (bb X.prog X.w) X.A X.env X.xe)(S:X.calm=true)(hi:PI X tg E K)(hg:PG X tg g)(c:NX X Y M)(hs:∀x,jc E X.env x=pure x:=by intro _;rfl):PS X (.For tg E Y [] pos) (aeL K g M):=by
 intro pins s G H D I h;refine wpAny_For (iW (hi pins s G H _ I h) λv s1 h1=>iW h1 λaI s2 h2=>?_) hs;obtain⟨it,y,L,J,H2,e,I2,T,ah,V,W,⟨m0,w0⟩,turn⟩:=h2;subst e;have A:∀{H':Hp},(∀b∈y,H' b=none)->∀b∈y,Ai X pins H' b:=λhn b c=>⟨hn b c,(V b c).2⟩;refine codeAny_forLoop_any (λn R=>∃i q H',Inv X pins q H' R/\L i R.heap/\(∀b∈y,H' b=none)/\W i n q H') ?_ m0 ⟨0,G,H2,I2,ah,λb c=>(V b c).1,w0⟩;rintro n Q ⟨i,p,z,Z,O,U,w3⟩;rcases turn i n p z w3 with⟨stop,qn⟩|⟨go,N,hN,step⟩;refine kh w (iW (T.done X rfl rfl rfl S i pins Q p z X.xe Z (A U) O stop) λr s4 ⟨F,I4⟩=>?_);subst F;exact v9 ⟨p,z,I4,qn⟩;refine kh w (iW (T.item X rfl rfl rfl S i pins Q p z X.xe Z (A U) O go) λr s4 ⟨u,F,h4⟩=>?_);subst F;refine kh w (iW h4 λ_ P ⟨x,H5,I5,r5,y5,B,ay⟩=>?_);have aA:=I5.pinned (A ay) (T.obj _ _ B);refine kh w (iW (hg _ P p H5 x u _ aA r5 (step x H5 y5)) λ_ s6 ⟨ab,H6,I6,q6⟩=>?_);refine kh w (iW (c _ s6 ab H6 _ I6 q6) λf C l=>?_);have again:∀{a:St}{k:Hp},Inv X (pins++Br y P.heap) a k C->N a k->∃m,m<n/\∃i q H',Inv X pins q H' C/\L i C.heap/\(∀b∈y,H' b=none)/\W i m q H':=λ{a k} j t=>by obtain⟨m',hm,w7⟩:=hN a k t;refine⟨m',hm,i+1,a,k,j.kG,T.keep _ _ _ B λb c o e=>(j.pin (b,o) (bI _ (bI _ (vJ c e)))).1,λb c=>?_,w7⟩;obtain⟨o,e,d⟩:=T.obj _ _ B b c;exact(j.pin (b,o) (bI _ (bI _ (vJ c e)))).2.1
 cases f with
|next=>obtain⟨a,k,j,t⟩:=l;exact again j t
|cont=>obtain⟨a,k,j,t⟩:=l;exact again j t
|brk=>obtain⟨a,k,j,l⟩:=l;exact⟨a,k,j.kG,l⟩
|ret v=>obtain⟨x7,a,k,j,r7,l⟩:=l;exact⟨x7,a,k,j.kG,r7,l⟩
end
theorem Ta{K:au}{a:ao}{xs:a5 V}{g:TG}{j:TS}{D:Ends}{b:St}{H:Hp}(c:Nat->St->Hp->Prop)(r:c 0 b H)(hl:∀i b H,i<=xs.length->c i b H->lY K H a xs)(o:∀i x b H,xs[i]? = some x->c i b H->g x b H λd h=>j { D with nx:=c (i+1),ct:=c (i+1),bk:=D.nx } d h)(hd:∀b H,c xs.length b H->D.nx b H):
  ∃W:Nat->Nat->St->Hp->Prop,(∃m,W 0 m b H)/\∀i m b H,W i m b H →
   ((Itl K a).stop i H/\D.nx b H)\/((Itl K a).go i H/\∃N:St->Hp->Prop,(∀f H',N f H'->∃k,k<m/\W (i+1) k f H')/\∀x H',(Itl K a).yld i H x H'->g x b H' λd h=>j { D with nx:=N,ct:=N,bk:=D.nx } d h):=by
 refine⟨λi m b H=>m=xs.length-i/\i<=xs.length/\c i b H,⟨xs.length,#v[0],d4 _,r⟩,?_⟩;rintro i m b H ⟨rfl,hi,p⟩;have q:=hl i b H hi p;by_cases l:i<xs.length;refine .inr ⟨⟨xs,xs[i],q,by simp[l]⟩,c (i+1),λf H' n=>⟨xs.length-(i+1),#v[],rfl,l,n⟩,λx H' y=>?_⟩;obtain⟨e,y⟩:=y;subst e;exact o i x b _ (y xs q) p;have e:i=xs.length:=#v[]
 subst e;exact .inl ⟨⟨xs,q,aS _⟩,hd b H p⟩
abbrev R2:=V->V->Hp->VK->Prop
def rN(X:Cx)(f:ak->ak->Sem ak)(r:R2):Prop:=
 ∀(pins:a5 (ao×Obj))(s:aB)(a:St)(H:Hp)(x y:V)(v u:ak)(Q:VK),Inv X pins a H s->RelV x v->RelV y u->r x y H Q →
  a7 (bb X.prog X.w) X.A (f v u) (EP X pins a Q) X.xe s
def UnR(X:Cx)(f:ak->Sem ak)(r:V->Hp->VK->Prop):Prop:=
 ∀(pins:a5 (ao×Obj))(s:aB)(a:St)(H:Hp)(x:V)(v:ak)(Q:VK),Inv X pins a H s->RelV x v->r x H Q →
  a7 (bb X.prog X.w) X.A (f v) (EP X pins a Q) X.xe s
def lK(X:Cx)(f:ak)(r:a5 V->Hp->VK->Prop):Prop:=
 ∀(pins:a5 (ao×Obj))(s:aB)(a:St)(H:Hp)(xs:a5 V)(us:a5 ak)(Q:VK),Inv X pins a H s->Vals xs us->r xs H Q →
  a7 (bb X.prog X.w) X.A (call f us) (EP X pins a Q) X.xe s
def tOp(r:R2)(c b:TE):TE:=λa H Q=>c a H λx f=>b a f λy d=>r x y d Q
def tUn(r:V->Hp->VK->Prop)(b:TE):TE:=λa H Q=>b a H λx c=>r x c Q
inductive rI (C:Int->Int->Prop) (g:Int->Int->V) (x:V) (y:V) (H:Hp) (Q:VK):Prop
|mk (i j:_) (_:x=.int i) (_:y=.int j) (_:C i j) (_:Q (g i j) H)
inductive UG (g:Int->Int->V) (x:V) (y:V) (H:Hp) (Q:VK):Prop
|mk (i j:_) (_:x=.int i) (_:y=.int j) (_:Q (g i j) H)
inductive rU (g:Int->V) (x:V) (H:Hp) (Q:VK):Prop
|mk (i:_) (_:x=.int i) (_:Q (g i) H)
section
variable{X:Cx}{a b c:bL}{ta tb tc:TE}{pos:Pos}
theorem aa5(t:PE X a ta)(r:PE X b tb){pins:a5 (ao×Obj)}{s:aB}{c:St}{H:Hp}{R:V->V->Hp->Prop}(I:Inv X pins c H s)(h:ta c H λx i=>tb c i λy d=>R x y d){Q:ak->aB->Prop}{f:ak->ak->Sem ak}(q:∀v u g x y d,Inv X pins c d g->RelV x v->RelV y u->R x y d->a7 (bb X.prog X.w) X.A (f v u) Q X.xe g):
  a7 (bb X.prog X.w) X.A (cg a X.env) (λv k=>a7 (bb X.prog X.w) X.A (cg b X.env) (λu j=>a7 (bb X.prog X.w) X.A (f v u) Q X.xe j) X.xe k) X.xe s:=by refine iW (t pins s c H _ I h) λv l ⟨x,i,z,n,p⟩=>?_;refine iW (r pins l c i _ z p) λu g ⟨y,d,w,m,o⟩=>?_;exact q v u g x y d w n m o
theorem acv{op:XE}{r:R2}(i:rN X (uI op) r)(k:PE X a ta)(j:PE X b tb):PE X (.BinOp a op b pos) (tOp r ta tb):=by intro pins s c H Q I h;exact wpAny_BinOp (aa5 k j I h λv u d x y m l g f q=>i pins d c m x y v u Q l g f q)
theorem acs{op:UnaryOp}{r:V->Hp->VK->Prop}(g:UnR X (unaryOp op) r)(i:PE X a ta):PE X (.UnaryOp op a pos) (tUn r ta):=by intro pins s b H Q I h;exact UnaryOp_ (iW (i pins s b H _ I h) λv c ⟨x,k,j,d,f⟩=>g pins c b k x v Q j d f)
theorem opI{f:ak->ak->Sem ak}{C:Int->Int->Prop}{g:Int->Int->Int}(rule:∀(i j:Int)(t u:Tok)(s:aB)(Q:ak->aB->Prop)(E:ak->aB->Prop),C i j->Q (.int (g i j) s.toks) { s with toks:=s.toks+1 }->a7 (bb X.prog X.w) X.A (f (.int i t) (.int j u)) Q E s):
  rN X f (rI C λi j=>.int (g i j)):=by intro pins s d H x y v u Q I b a h;obtain⟨i,j,rfl,rfl,c,q⟩:=h;obtain⟨t,rfl⟩:=b;obtain⟨t',rfl⟩:=a;exact rule i j t t' s _ _ c ⟨.int (g i j),H,I.tok _,⟨_,rfl⟩,q⟩
theorem acA{f:ak->ak->Sem ak}{g:Int->Int->Int}(rule:∀(i j:Int)(t u:Tok)(s:aB)(Q:ak->aB->Prop)(E:ak->aB->Prop),Q (.int (g i j) s.toks) { s with toks:=s.toks+1 }->a7 (bb X.prog X.w) X.A (f (.int i t) (.int j u)) Q E s):
  rN X f (UG λi j=>.int (g i j)):=by intro pins s c H x y v u Q I b a h;obtain⟨i,j,rfl,rfl,q⟩:=h;obtain⟨t,rfl⟩:=b;obtain⟨t',rfl⟩:=a;exact rule i j t t' s _ _ ⟨.int (g i j),H,I.tok _,⟨_,rfl⟩,q⟩
theorem We{f:ak->ak->Sem ak}{g:Int->Int->Bool}(rule:∀(i j:Int)(t u:Tok)(s:aB)(Q:ak->aB->Prop)(E:ak->aB->Prop),Q (.bool (g i j)) s->a7 (bb X.prog X.w) X.A (f (.int i t) (.int j u)) Q E s):
  rN X f (UG λi j=>.bl (g i j)):=by intro pins s c H x y v u Q I b a h;obtain⟨i,j,rfl,rfl,q⟩:=h;obtain⟨t,rfl⟩:=b;obtain⟨t',rfl⟩:=a;exact rule i j t t' s _ _ ⟨.bl (g i j),H,I,rfl,q⟩
def Qi(i j:Int):Prop:=(-(2 ^ 64)<i/\i<2 ^ 64)\/(-(2 ^ 64)<j/\j<2 ^ 64)
theorem Qi.ok{i j:Int}(h:Qi i j):IntMulOk i j:=by rcases h with⟨b,a⟩|⟨b,a⟩;exact .of_left (intBits_le_64 b a);exact .of_right (intBits_le_64 b a)
theorem aab:rN X (uI .Add) (UG λi j=>.int (i+j)):=acA λ_ _ _ _ _ _ _ q=>add_int q
theorem Z5:rN X (uI .Sub) (UG λi j=>.int (i-j)):=acA λ_ _ _ _ _ _ _ q=>sub_int q
theorem Z6:rN X (uI .Mult) (rI Qi λi j=>.int (i*j)):=opI λ_ _ _ _ _ _ _ a q=>mul_int q a.ok
theorem Z7:rN X (uI .Mod) (rI (λ_ j=>0<j) λi j=>.int (i % j)):=opI λi j _ _ _ _ _ a q=>by have b:(0:Int)<j:=a;exact mod_int' #v[] (by rw[Int.fmod_eq_emod_of_nonneg i #v[]];exact q)
theorem unI{f:ak->Sem ak}{g:Int->Int}(rule:∀(i:Int)(t:Tok)(s:aB)(Q:ak->aB->Prop)(E:ak->aB->Prop),Q (.int (g i) s.toks) { s with toks:=s.toks+1 }->a7 (bb X.prog X.w) X.A (f (.int i t)) Q E s):
  UnR X f (rU λi=>.int (g i)):=by intro pins s b H x v Q I a h;obtain⟨i,rfl,q⟩:=h;obtain⟨t,rfl⟩:=a;exact rule i t s _ _ ⟨.int (g i),H,I.tok _,⟨_,rfl⟩,q⟩
theorem Zk:UnR X (unaryOp .USub) (rU λi=>.int (-i)):=unI λ_ _ _ _ _ q=>neg_int q
end
def Zx(x y:V):Prop:=(∃i j,x=.int i/\y=.int j)\/∃i j,x=.bl i/\y=.bl j
def rEq:R2:=λx y H Q=>Zx x y/\Q (.bl (decide (x=y))) H
def rNe:R2:=λx y H Q=>Zx x y/\Q (.bl (!decide (x=y))) H
theorem NF{i j:Int}:decide (V.int i=V.int j)=(i == j):=by rw[CY];simp
theorem Tp{i j:Bool}:decide (V.bl i=V.bl j)=(i == j):=by rw[CY];simp
section
variable{X:Cx}{a b c:bL}{ta tb tc:TE}{pos:Pos}
theorem yA{pins:a5 (ao×Obj)}{a:St}{H:Hp}{s:aB}{Q:VK}{k b:Bool}(I:Inv X pins a H s)(q:Q (.bl k) H)(e:k=b):EP X pins a Q (.bool b) s:=by subst e;exact⟨.bl k,H,I,rfl,q⟩
theorem X6:rN X (eE .Eq) rEq:=by intro pins s c H x y v u Q I b a h;obtain⟨⟨i,j,rfl,rfl⟩|⟨i,j,rfl,rfl⟩,q⟩:=h;obtain⟨t,rfl⟩:=b;obtain⟨t',rfl⟩:=a;exact eq_int (yA I q NF);obtain rfl:=b;obtain rfl:=a;exact eq_bool (yA I q Tp)
theorem X3:rN X (eE .NotEq) rNe:=by intro pins s c H x y v u Q I b a h;obtain⟨⟨i,j,rfl,rfl⟩|⟨i,j,rfl,rfl⟩,q⟩:=h;obtain⟨t,rfl⟩:=b;obtain⟨t',rfl⟩:=a;exact ne_int (yA I q (congrArg not NF));obtain rfl:=b;obtain rfl:=a;exact ne_bool (yA I q (congrArg not Tp))
theorem R5:rN X (eE .Lt) (UG λi j=>.bl (decide (i<j))):=We λ_ _ _ _ _ _ _ q=>lt_int q
theorem IE:rN X (eE .LtE) (UG λi j=>.bl (decide (i<=j))):=We λ_ _ _ _ _ _ _ q=>le_int q
theorem X4:rN X (eE .Gt) (UG λi j=>.bl (decide (j<i))):=We λ_ _ _ _ _ _ _ q=>gt_int q
theorem X5:rN X (eE .GtE) (UG λi j=>.bl (decide (j<=i))):=We λ_ _ _ _ _ _ _ q=>ge_int q
theorem Z8:rN X (eE .Is) (λx y H Q=>y=.jw/\Q (.bl (decide (x=.jw))) H):=by
 intro pins s c H x y v u Q I a b h;obtain⟨rfl,q⟩:=h;cases b;refine is_none_gen (yA I q ?_);cases x<;>first
 |(cases a;rfl)
 |(obtain⟨t,rfl⟩:=a;rfl)
theorem Wd:rN X (eE .IsNot) (λx y H Q=>y=.jw/\Q (.bl (!decide (x=.jw))) H):=by
 intro pins s c H x y v u Q I a b h;obtain⟨rfl,q⟩:=h;cases b;refine isnot_none_gen (yA I q ?_);cases x<;>first
 |(cases a;rfl)
 |(obtain⟨t,rfl⟩:=a;rfl)
theorem lC(b:bL){op:XG}(h:op≠.In:=by decide)(a:op≠.NotIn:=by decide):oP op b=false:=by
 have d:(op == CmpOp.In)=false:=by cases op<;>first|rfl|exact absurd rfl h
 have c:(op == CmpOp.NotIn)=false:=by cases op<;>first|rfl|exact absurd rfl a
 cases b<;>simp[oP,d,c]
theorem V8{op:XG}{r:R2}(i:rN X (eE op) r)(l:PE X a ta)(k:PE X b tb)(j:oP op b=false):PE X (.Compare a [op] [b] pos) (tOp r ta tb):=by intro pins s c H Q I h;exact wpAny_Compare1 (aa5 l k I h λv u d x y n m g f q=>i pins d c n x y v u Q m g f q) j
def abZ(t:TE):TT:=λa H Q=>t a H λx H'=>∃k,x=.bl k/\Q k H'
theorem V0{op:XG}{r:R2}(p:rN X (eE op) r)(w:PE X a ta)(t:PE X b tb)(q:oP op b=false):PT X (.Compare a [op] [b] pos) (abZ (tOp r ta tb)):=by
 intro pins s d H Q I h;refine wpAny_isTrue_Compare1 (iW (w pins s d H _ I h) λv g ⟨x,F,C,l,o⟩=>iW (t pins g d F _ C o) λu f ⟨y,E,B,j,n⟩=>iW (p pins f d E x y v u _ B l j n) λc G ⟨z,D,A,i,k,e,m⟩=>?_) q
 subst e;cases i;exact jb ⟨D,A,m⟩
def Zs(r d:R2)(ta tb tc:TE):TE:=λa H Q=>ta a H λx h=>tb a h λy g=>r x y g λz b=>∃k,z=.bl k ∧
 (if k=true then tc a b λc f=>d y c f Q else Q (.bl false) b)
theorem RW{op g:XG}{r j:R2}(K:rN X (eE op) r)(J:rN X (eE g) j)(O:PE X a ta)(N:PE X b tb)(M:PE X c tc)(L:QG [op,g] [b,c]=false:=by with_unfolding_all rfl):PE X (.Compare a [op,g] [b,c] pos) (Zs r j ta tb tc):=by
 intro pins s f H Q I h;refine Compare_chain (iW (O pins s f H _ I h) λv A ⟨x,V,S,D,G⟩=>chain_link (iW (N pins A f V _ S G) λu w ⟨y,U,R,i,F⟩=>iW (K pins w f U x y v u _ R D i F) λd t ⟨z,n,m,C,k,e,l⟩=>?_)) L
 subst e;cases C;refine jb ?_;cases k with
|false=>exact ite_ff ⟨.bl false,n,m,rfl,l⟩
|true=>exact ite_tt (chain_last (iW (M pins t f n _ m l) λp q ⟨o,T,P,B,E⟩=>J pins q f T y o u p Q P i B E))
theorem Gi:(aQ:Nat)<2 ^ 63:=by rw[ee];decide
theorem vals1{x:V}{us:a5 ak}(r:Vals [x] us):∃u,us=[u]/\RelV x u:=by
 cases r with
|cons b a=>cases a;exact⟨_,rfl,b⟩
theorem vals2{x y:V}{us:a5 ak}(r:Vals [x,y] us):∃u a,us=[u,a]/\RelV x u/\RelV y a:=by
 cases r with
|cons f d=>
  cases d with
 |cons c b=>cases b;exact⟨_,_,rfl,f,c⟩
theorem JO:lK X (.builtin "abs") (λxs H Q=>∃i,xs=[.int i]/\Q (.int (if i<0 then -i else i)) H):=by intro pins s a H xs us Q I r h;obtain⟨i,rfl,q⟩:=h;obtain⟨u,rfl,t,rfl⟩:=vals1 r;exact call_abs_int λu tk=>⟨.int (if i<0 then -i else i),H,I.tok _,⟨_,rfl⟩,q⟩
theorem uh(a:X.calm=true):lK X (.builtin "max") (λxs H Q=>∃i j,xs=[.int i,.int j]/\Q (.int (if j > i then j else i)) H):=by intro pins s b H xs us Q I r h;obtain⟨i,j,rfl,q⟩:=h;obtain⟨u,c,rfl,⟨t,rfl⟩,⟨t',rfl⟩⟩:=vals2 r;refine max_two_ints (I.ok.hd a) λh' tk k=>⟨_,H,I.kept k,?_,q⟩;by_cases hj:j > i;rw[if_pos hj,if_pos hj];exact⟨_,rfl⟩;rw[if_neg hj,if_neg hj];exact⟨_,rfl⟩
theorem EO(a:X.calm=true):lK X (.builtin "min") (λxs H Q=>∃i j,xs=[.int i,.int j]/\Q (.int (if j<i then j else i)) H):=by intro pins s b H xs us Q I r h;obtain⟨i,j,rfl,q⟩:=h;obtain⟨u,c,rfl,⟨t,rfl⟩,⟨t',rfl⟩⟩:=vals2 r;refine min_two_ints (I.ok.hd a) λh' tk k=>⟨_,H,I.kept k,?_,q⟩;by_cases hj:j<i;rw[if_pos hj,if_pos hj];exact⟨_,rfl⟩;rw[if_neg hj,if_neg hj];exact⟨_,rfl⟩
theorem ui:lK X (.type "int") (λxs H Q=>(∃i,xs=[.int i]/\Q (.int i) H)\/∃k,xs=[.bl k]/\Q (.int (if k then 1 else 0)) H):=by intro pins s b H xs us Q I r h;rcases h with⟨i,rfl,q⟩|⟨k,rfl,q⟩;obtain⟨u,rfl,t,rfl⟩:=vals1 r;exact call_int_int ⟨.int i,H,I,⟨_,rfl⟩,q⟩;obtain⟨u,rfl,a⟩:=vals1 r;cases a;exact call_int_bool ⟨.int (if k then 1 else 0),H,I.tok _,⟨_,rfl⟩,q⟩
end
structure Mf (h:cY) (x dx C:ao) (mA:Str->Option ak):Prop where
 obj:h.get? x=some (iC C dx)
 ns:h.Ns1 dx mA
 ne:dx≠x
theorem Pn{h:cY}{dx:ao}{mA:Str->Option ak}(n:h.Ns1 dx mA):∃b,h.get? dx=some b/\∀name,tJ name b=some (mA name):=by
 obtain⟨o,c,j,f,hd,hk,_,g⟩:=n;refine⟨o,f,λname=>?_⟩;have e:=g name;unfold nsFind findBy at e;rw[<- Array.find?_toList]at e;unfold tJ;rw[hd];dsimp only;split;rename_i y q;rw[q]at e;exact congrArg some e;rename_i q;rw[q]at e;have a:c.toList.any (·.refKey)=false:=by rw[eD];intro y d;obtain⟨z,t,i⟩:=hk y (Array.mem_toList_iff.mp d);simp[DictEntry.refKey,i]
 have a':¬c.toList.any (·.refKey)=true:=by rw[a];exact bR
 rw[if_neg a'];exact congrArg some e
theorem Mf.look{h:cY}{x dx C:ao}{mA:Str->Option ak}(I:Mf h x dx C mA):∃a,PySem.W.InstAt h x (iC C dx) C (some a)/\∀name,tJ name a=some (mA name):=
 let⟨a,b,hl⟩:=Pn I.ns
 ⟨a,⟨I.obj,rfl,rfl,b⟩,hl⟩
section
variable{prog:bC}{w:cu}{A:bT}{E:ak->aB->Prop}{s:aB}{K:au}{x dx C f:ao}{mA:Str->Option ak}{name:Str}{v:ak}
theorem get_map{g:Bool}{Q:ak->aB->Prop}(X:K.In s.heap)(I:Mf s.heap x dx C mA)(d:kg K C name=true)(c:lM K C=true)(f:cH K (.ref C) name=some none)(b:mA name=some v)(a:Qj v=true)(h:Q v { s with toks:=s.toks+1 }):
  a7 (bb prog w) A (getAttr (.ref x) name g) Q E s:=by obtain⟨i,J,hl⟩:=I.look;exact PySem.W.get_value X J (uH d).1 (PySem.W.findObj_own c f rfl (by rw[hl,b])) a h
theorem S0{pl:Sem Bool}{Q:ak×a5 ak->aB->Prop}(X:K.In s.heap)(I:Mf s.heap x dx C mA)(a:kg K C name=true)(g:cH K (.ref C) name=some (some (.ref f)))(d:lL K (.ref f)=true)(c:mA name=none)(h:Q (.ref f,[.ref x]) s):
  a7 (bb prog w) A (zY (.ref x) name pl) Q E s:=by obtain⟨b,J,hl⟩:=I.look;exact PySem.W.method_fn X J (uH a).1 (uH a).2 g (beq_iff_eq.mp d) (by show(tJ name b).map (·.isSome)=some false;rw[hl,c];rfl) h
theorem VJ{ns:a5 Str}{Q:Unit->aB->Prop}(X:K.In s.heap)(I:Mf s.heap x dx C mA)(j:cH K (.ref C) "__setattr__" = some (some (.builtin "object.__setattr__")))(k:pB K C=true)(i:Am K C name=some none)(m:lM K C=true)(g:PySem.Within mA ns)(hsz:ns.length<=aQ)(h:∀h',Mf h' x dx C (λy=>if y=name then some v else mA y)->Heap.SameBut dx s.heap h'->Q () { s with heap:=h',toks:=s.toks+2 }):
  a7 (bb prog w) A (setAttr (.ref x) name v) Q E s:=by obtain⟨t,J,hl⟩:=I.look;refine PySem.W.set_plain X J j (PySem.W.osa_open (s:={ s with toks:=s.toks+1 }) (r:=none) X J k i λb=>?_);obtain⟨B,q,o⟩:=PySem.W.any_some m;have f:s.heap.get? x=some ⟨.ref C,some dx,.plain,#[]⟩:=I.obj;refine aj (aM (aj (aj (wpAny_loadPart f (aj (PySem.W.Looks.here (s:={ s with toks:=s.toks+1 }) (PySem.W.looks_clsIn X q) ?_))))));rw[o];refine aM (a:=some dx) (aj (aM (aj ?_)));refine wpAny_nsSet1 (s:={ s with toks:=s.toks+1 }) I.ns λh' d c=>?_;obtain⟨oD,u,z,l,n,p⟩:=d.count (PySem.Within.cons name v g);refine aj (wpAny_lookBehind l (by rw[n];exact pastItsLine_dict (bu p (by rw[aL];lia))) ?_);exact aM (h _ ⟨(c.2 _ (Ne.symm I.ne)).trans I.obj,d,I.ne⟩ c)
theorem SF{R:Hc->aB->Prop}{vs:a5 ak}{a:a5 (Str×ak)}(X:K.In s.heap)(b:rK K C=true)(hi:cH K (.ref C) "__init__" = some (some (.ref f)))(c:PySem.W.typeIn K (.ref f)=some (.type "function"))(h:oO (bb prog w) (A.under (.builtin "type.__call__" ⟨.ref C::vs,a⟩)) (.call (.ref f) ⟨.ref (s.heap.objs.size+1)::vs,a⟩) (PySem.W.InitBack (s.heap.objs.size+1) R)
   { s with heap:=(s.heap.push fw).push (iC C s.heap.objs.size) }):
  oO (bb prog w) A (.call (.ref C) ⟨vs,a⟩) R s:=by obtain⟨i,g,d,t,os⟩:=s;exact PySem.W.make_core (PySem.W.makes_of X b) (PySem.W.looks_findIn X hi) (λself=>PySem.W.bind_fn X self c) (.inl rfl) h
end
def sA(f:Str)(v:V):a5 (Str×V)->a5 (Str×V)
|[]=>[(f,v)]
|(g,x)::r=>if g=f then(g,v)::r else(g,x)::sA f v r
theorem jU(f g:Str)(v:V):∀fs:a5 (Str×V),(sA f v fs).lookup g=if g=f then some v else fs.lookup g
|[]=>by show ki g [(f,v)]=_;by_cases h:g=f;have a:(g == f)=true:=beq_iff_eq.mpr h;simp only[ki,a,if_pos h];have a:(g == f)=false:=beq_eq_false_iff_ne.mpr h;simp only[ki,a,if_neg h]
|(k,x)::r=>by have b:=jU f g v r;rw[show sA f v ((k,x)::r)=(if k=f then(k,v)::r else(k,x)::sA f v r) from rfl];by_cases hk:k=f;rw[if_pos hk];by_cases h:g=k;have a:(g == k)=true:=beq_iff_eq.mpr h;simp only[ki,a,if_pos (h.trans hk)];have a:(g == k)=false:=beq_eq_false_iff_ne.mpr h;simp only[ki,a,if_neg (λe:g=f=>h (e.trans hk.symm))];rw[if_neg hk];by_cases h:g=k;have a:(g == k)=true:=beq_iff_eq.mpr h;simp only[ki,a,if_neg (λe:g=f=>hk (h.symm.trans e))];have a:(g == k)=false:=beq_eq_false_iff_ne.mpr h;simp only[ki,a];exact b
theorem yu(f:Str)(v:V):∀fs:a5 (Str×V),f∈(sA f v fs).map (·.1)/\∀g,g∈fs.map (·.1)->g∈(sA f v fs).map (·.1)
|[]=>⟨by simp[sA],λg h=>by simp at h⟩
|(k,x)::r=>by obtain⟨b,a⟩:=yu f v r;rw[show sA f v ((k,x)::r)=(if k=f then(k,v)::r else(k,x)::sA f v r) from rfl];by_cases hk:k=f;rw[if_pos hk];subst hk;exact⟨#v[0],λg h=>by simpa using h⟩;rw[if_neg hk];refine⟨?_,λg h=>?_⟩;rw[a9];exact ah _ b;rw[a9]at h⊢;rcases aq.mp h with e|e;exact aq.mpr (.inl e);exact ah _ (a g e)
theorem zk(f:Str)(v:V):∀fs:a5 (Str×V),(sA f v fs).length<=fs.length+1
|[]=>by simp[sA]
|(k,x)::r=>by have a:=zk f v r;rw[show sA f v ((k,x)::r)=(if k=f then(k,v)::r else(k,x)::sA f v r) from rfl];by_cases hk:k=f;rw[if_pos hk,aL,aL];lia;rw[if_neg hk,aL,aL];lia
theorem yM.some_of{v:V}{o:Option ak}(r:yM (some v) o):∃u,o=some u/\RelV v u:=by
 cases o with
|none=>exact(show False from r).elim
|some u=>exact⟨u,rfl,r⟩
theorem yM.none_of{o:Option ak}(r:yM none o):o=none:=by
 cases o with
|none=>rfl
|some u=>exact(show False from r).elim
theorem PK{v:V}{u:ak}(r:RelV v u):Qj u=true:=by
 cases v with
|jw=>cases(show u=Value.none from r);rfl
|bl b=>cases(show u=Value.bool b from r);rfl
|int i=>obtain⟨t,e⟩:=(show ∃t,u=Value.int i t from r);cases e;rfl
|str x=>obtain⟨t,e⟩:=(show ∃t,u=Value.str x t from r);cases e;rfl
|Yq b=>obtain⟨t,e⟩:=(show ∃t,u=Value.bytes b t from r);cases e;rfl
|flt b=>obtain⟨t,e⟩:=(show ∃t,u=Value.float b t from r);cases e;rfl
|ref a=>cases(show u=Value.ref a from r);rfl
|ty n=>cases(show u=Value.type n from r);rfl
section
variable{P:bC}{w:cu}{H H':Hp}{h h':cY}{a C dx:ao}{fs fs':a5 (Str×V)}
theorem Gr(gP:tG P w H h)(e:H a=some (.ins C dx fs)):∃mA,Mf h a dx C mA/\(∀f,yM (fs.lookup f) (mA f))/\PySem.Within mA (fs.map (·.1))/\fs.length<=1000/\H dx=some (.own a):=by obtain⟨d,z,ne,b,mA,n,r,q⟩:=(show ie P w H h a (.ins C dx fs) from gP a _ e);exact⟨mA,⟨b,n,ne⟩,r,q,z,d⟩
end
structure Fb(K:au) (C:ao):Prop where
 pg:kg K C Str.empty=true
 hd:lM K C=true
 po:pB K C=true
 sa:cH K (.ref C) "__setattr__" = some (some (.builtin "object.__setattr__"))
theorem Fb.get{K:au}{C:ao}(c:Fb K C)(f:Str):kg K C f=true:=c.pg
def kR(K:au)(C:ao)(f:Str):Prop:=cH K (.ref C) f=some none
theorem kR.abY{K:au}{C:ao}{f:Str}(n:kR K C f):Am K C f=some none:=by unfold Am;rw[show cH K (.ref C) f=some none from n];rfl
structure Meth (K:au) (C:ao) (m:Str) (f:ao):Prop where
 at_:cH K (.ref C) m=some (some (.ref f))
 fn:lL K (.ref f)=true
 kp:c8 K (.ref f)=true
section
variable{X:Cx}{pins:a5 (ao×Obj)}{σ:St}{H:Hp}{s:aB}{a C dx:ao}{fs:a5 (Str×V)}{f:Str}{v:V}{A:bT}{E:ak->aB->Prop}
theorem LC{b:Bool}{Q:ak->aB->Prop}(I:Inv X pins σ H s)(e:H a=some (.ins C dx fs))(c:Fb X.K C)(n:kR X.K C f)(l:fs.lookup f=some v)(h:∀u d,Inv X pins σ H d->RelV v u->Q u d):a7 (bb X.prog X.w) A (getAttr (.ref a) f b) Q E s:=by obtain⟨mA,O,r,_,_,_⟩:=Gr I.gP e;obtain⟨u,i,g⟩:=yM.some_of (v:=v) (o:=mA f) (by rw[<- l];exact r f);exact get_map I.Hf O (c.get f) c.hd n i (PK g) (h u _ (I.tok _) g)
theorem B7{m:Str}{g:ao}{pl:Sem Bool}{Q:ak×a5 ak->aB->Prop}(I:Inv X pins σ H s)(e:H a=some (.ins C dx fs))(c:Fb X.K C)(k:Meth X.K C m g)(l:fs.lookup m=none)(h:Q (.ref g,[.ref a]) s):a7 (bb X.prog X.w) A (zY (.ref a) m pl) Q E s:=by obtain⟨mA,O,r,_,_,_⟩:=Gr I.gP e;have b:mA m=none:=yM.none_of (by rw[<- l];exact r m);exact S0 I.Hf O (c.get m) k.at_ k.fn b h
theorem KQ{y:V}{u:ak}{Q:Unit->aB->Prop}(I:Inv X pins σ H s)(e:H a=some (.ins C dx fs))(c:Fb X.K C)(n:kR X.K C f)(hl:fs.length<1000)(m:RelV y u)(h:∀j,Inv X pins σ (upd H a (.ins C dx (sA f y fs))) j->Q () j):a7 (bb X.prog X.w) A (setAttr (.ref a) f u) Q E s:=by
 obtain⟨mA,O,r,i,_,k⟩:=Gr I.gP e;have hz:(fs.map (·.1)).length<=aQ:=by rw[ai,ee];lia
 refine VJ I.Hf O c.sa c.po n.abY c.hd i hz λh' d l=>h _ ?_;have hd:∃o,h'.get? dx=some o:=let⟨o,_,_,v,_⟩:=d.ns;⟨o,v⟩;refine I.write (x:=a) (e:=dx) (by rw[e];exact True.intro) (.inr k) (λb q t z=>(l.2 b t).trans z) hd ?_;refine⟨by rw[bP O.ne];exact k,?_,O.ne,d.obj,_,d.ns,λg=>?_,λg p=>?_⟩;have:=zk f y fs;lia;show yM ((sA f y fs).lookup g) (if g=f then some u else mA g);rw[jU];by_cases q:g=f;rw[if_pos q,if_pos q];exact m;rw[if_neg q,if_neg q];exact r g;by_cases q:g=f;rw[q];exact(yu f y fs).1;refine(yu f y fs).2 g (i g λz=>p ?_);show(if g=f then some u else mA g)=none;rw[if_neg q];exact z
theorem Inv.made(I:Inv X pins σ H s):Inv X pins σ (upd (upd H s.heap.objs.size (.own (s.heap.objs.size+1))) (s.heap.objs.size+1) (.ins C s.heap.objs.size []))
  { s with heap:=(s.heap.push fw).push (iC C s.heap.objs.size) }:=by
 have c:(s.heap.push fw).get? s.heap.objs.size=some fw:=Heap.get?_push_size s.heap rfl;have h:((s.heap.push fw).push (iC C s.heap.objs.size)).get? (s.heap.objs.size+1)=some (iC C s.heap.objs.size):=by have:=Heap.get?_push_size (s.heap.push fw) (o:=iC C s.heap.objs.size) rfl;rwa[Heap.size_push]at this
 have g:(s.heap.push fw).Ns s.heap.objs.size (λ_=>none):=⟨fw,#[],_,c,rfl,(λe f=>absurd f #v[0]),λ_=>rfl⟩;have i:=I.laid (a:=s.heap.objs.size) (o:=.own (s.heap.objs.size+1)) (h':=s.heap.push fw) (t':=s.toks) (λb u q=>Heap.get?_push_of_some _ q) (aS _) ⟨_,c⟩;refine i.laid (a:=s.heap.objs.size+1) (o:=.ins C s.heap.objs.size []) (t':=s.toks) (λb u q=>Heap.get?_push_of_some _ q) (jD (Heap.size_push _ _)) ?_;have ne:s.heap.objs.size≠s.heap.objs.size+1:=bQ (rQ _);refine⟨by rw[bP ne,bZ],d4 _,ne,h,λ_=>none,(Heap.Ns1.of_empty g).at λo q=>Heap.get?_push_of_some _ q,λ_=>True.intro,λy d=>absurd rfl d⟩
theorem W9{prog:bC}{w:cu}{env:Env}{e:bL}{f:Str}{pos:Pos}{s:aB}{Q:ak->aB->Prop}(b:gJ e f env (cg e env)=cg e env)(h:a7 (bb prog w) A (cg e env) (λo a=>a7 (bb prog w) A (getAttr o f true) Q E a) E s):a7 (bb prog w) A (cg (.Attribute e f pos) env) Q E s:=
 Attribute_any_ h (by rw[arm_eval_Attribute,b])
end
def aeM(K:au)(d:TE)(f:Str):TE:=λc H Q=>d c H λx b=>∃a C dx fs v,x=.ref a/\b a=some (.ins C dx fs)/\Fb K C/\kR K C f/\fs.lookup f=some v/\Q v b
def aeU(K:au)(g d:TE)(f:Str):TS:=λD b H=>d b H λy h=>g b h λx c=>∃a C dx fs,x=.ref a/\c a=some (.ins C dx fs)/\Fb K C/\kR K C f/\fs.length<1000 ∧
 D.nx b (upd c a (.ins C dx (sA f y fs)))
section
variable{X:Cx}{o e value:bL}{f:Str}{pos pos' tpos:Pos}{ta tv:TE}
theorem FQ(i:PE X e ta)(j:gJ e f X.env (cg e X.env)=cg e X.env):PE X (.Attribute e f pos) (aeM X.K ta f):=by intro pins s b H Q I h;refine W9 j (iW (i pins s b H _ I h) λu w ⟨x,p,o,d,a,C,dx,fs,v,ex,k,c,n,l,q⟩=>?_);subst ex;obtain rfl:u=Value.ref a:=d;exact LC o k c n l λr t m g=>⟨v,p,m,g,q⟩
theorem KY(r:PE X o ta)(m:PE X value tv)(p:lq value (some (.Attribute o f pos')) pos.line X.env=pure false):PS X (.Assign [.Attribute o f pos'] value pos) (aeU X.K ta tv f):=by intro pins s b H D I h;refine plainObj_wpAny_Assign_Attribute (iW (m pins s b H _ I h) λu d ⟨y,A,z,g,q⟩=>iW (r pins d b A _ z q) λk E ⟨x,F,w,i,a,C,dx,fs,ex,t,c,n,l,j⟩=>?_) p;subst ex;obtain rfl:k=Value.ref a:=i;exact KQ w t c n l g λB v=>⟨b,_,v,j⟩
end
section
variable{X:Cx}{pins:a5 (ao×Obj)}{σ:St}{H:Hp}{s:aB}{A:bT}{E:ak->aB->Prop}{Q:ak->aB->Prop}{c:ak}{b:Bool}
end
structure gC (k:Nat) (A:bT):Prop where
 hd:A.handled=none
 dp:A.depth+3*k+5<recursionLimit
 un:A.units+16*k+200<pU
theorem gC.mono{j k:Nat}{A:bT}(r:gC k A)(h:j<=k):gC j A:=⟨r.hd,by have:=r.dp;lia,by have:=r.un;lia⟩
theorem gC.deeper{k:Nat}{A:bT}(r:gC (k+1) A)(env:Env):gC k (A.deeper env):=
 ⟨r.hd,by have:=r.dp;show A.depth+1+3*k+5<_;lia,by have:=r.un;show A.units+3+16*k+200<_;lia⟩
theorem gC.in1{k:Nat}{A:bT}(r:gC (k+1) A):gC k A.in1:=
 ⟨r.hd,by have:=r.dp;show A.depth+3*k+5<_;lia,by have:=r.un;show A.units+1+16*k+200<_;lia⟩
theorem Lr{A:bT}{C:ao}{us:a5 ak}{a:a5 (Str×ak)}:(A.under (.builtin "type.__call__" ⟨.ref C::us,a⟩)).depth=A.depth+1:=by first|rfl|simp[Around.under,Code.weight,Code.isCreation,Code.isGuard,Code.isCaller,Code.frames,Code.isFrame,guardIds]
theorem Lq{A:bT}{C:ao}{us:a5 ak}{a:a5 (Str×ak)}:(A.under (.builtin "type.__call__" ⟨.ref C::us,a⟩)).units=A.units+1:=by first|rfl|simp[Around.under,Code.cUnits,Code.frames,Code.isFrame]
theorem gC.make{k:Nat}{A:bT}(r:gC (k+1) A)(C:ao)(us:a5 ak)(a:a5 (Str×ak)):gC k (A.under (.builtin "type.__call__" ⟨.ref C::us,a⟩)):=
 ⟨r.hd,by have:=r.dp;rw[Lr];lia,by have:=r.un;rw[Lq];lia⟩
theorem gC.depth{k:Nat}{A:bT}(r:gC k A):A.depth<recursionLimit:=by have:=r.dp;lia
theorem gC.units{k:Nat}{A:bT}(r:gC k A):A.units+64<pU:=by have:=r.un;lia
def Zq:TA:=λ_ H Q=>Q [] H
def ab6(c:TE)(b:TA):TA:=λa H Q=>c a H λx f=>b a f λxs d=>Q (x::xs) d
section
variable{X:Cx}{e:bL}{es:a5 bL}{te:TE}{t:TA}{pos:Pos}
theorem K3:PA X [] Zq:=λ_ _ _ _ H Q I h=>Calls.spliced_nil ⟨[],H,I,.nil,h⟩
theorem AJ(k:PE X e te)(j:PA X es t)(i:aG (e::es) X.env=(false,cg e X.env)::aG es X.env:=by rfl):PA X (e::es) (ab6 te t):=by intro pos pins s a H Q I h;rw[i];show a7 _ _ (spliced ((false,cg e X.env)::ef pos (aG es X.env))) _ _ s;refine Calls.spliced_cons (iW (k pins s a H _ I h) λu b ⟨x,o,m,d,g⟩=>?_);exact iW (j pos pins b a o _ m g) λus p ⟨xs,n,l,c,f⟩=>⟨x::xs,n,l,.cons d c,f⟩
def aeB(t:TA):TE:=λb H Q=>t b H λxs a=>xs.length<=aQ/\∀p,a p=none->Q (.ref p) (upd a p (.tup xs))
def aeG(t:TA):TE:=λb H Q=>t b H λxs a=>xs.length<=aQ/\∀p,a p=none->Q (.ref p) (upd a p (.lst xs))
theorem ZT{x1}(h:PA X es t):PE X (.Tuple es x1 pos) (aeB t):=by intro pins s f H Q I g;refine wpAny_Tuple_spliced (iW (h pos pins s f H _ I g) λus a ⟨xs,d,c,r,z,q⟩=>⟨by rw[<- r.length];exact z,?_⟩);have i:d a.heap.objs.size=none:=c.gP.fresh (aS _);refine⟨.ref a.heap.objs.size,upd d a.heap.objs.size (.tup xs),c.laid (t':=a.toks) (λb u e=>Heap.get?_push_of_some _ e) (aS _) ?_,rfl,q _ i⟩;exact⟨z,us,r,⟨_,Heap.get?_push_size _ rfl,rfl,_,rfl⟩⟩
theorem RS(h:PA X es t):PE X (.List es pos) (aeG t):=by intro pins s f H Q I g;refine wpAny_List_spliced (iW (h pos pins s f H _ I g) λus a ⟨xs,d,c,r,z,q⟩=>⟨by rw[<- r.length];exact z,?_⟩);have i:d a.heap.objs.size=none:=c.gP.fresh (aS _);refine⟨.ref a.heap.objs.size,upd d a.heap.objs.size (.lst xs),c.laid (t':=a.toks) (λb u e=>Heap.get?_push_of_some _ e) (aS _) ?_,rfl,q _ i⟩;exact⟨z,us,0,r,Heap.get?_push_size _ rfl⟩
end
abbrev Sp:=a5 V->Hp->VK->XK->Prop
abbrev Qh:=a5 Env->Hp->aB->XK->ak->aB->Prop
structure Al (P:bC) (w:cu) (K:au) (mg:Str->Option ak) (base:cY) (A:bT) (outer:a5 Env) (s:aB) (H:Hp):Prop where
 frames:A.frames=some outer
 mod:Mod K mg base
 bs:∀b o,base.get? b=some o->s.heap.get? b=some o/\H b=none
 TZ:base.objs.size<=s.heap.objs.size
 yx:s.heap.FunFrames base outer
 Ye:∀b∈S9 outer,H b=none
 gP:tG P w H s.heap
 bare:DW s.gens
def CE(outer:a5 Env)(P:bC)(w:cu)(H:Hp)(s:aB)(Q:VK)(u:ak)(a:aB):Prop:=
 ∃v H',a.os=s.os/\DW a.gens/\Un (S9 outer) [] H H' s.heap a.heap/\tG P w H' a.heap/\RelV v u/\Q v H'
def CR(CX:Qh)(outer:a5 Env)(P:bC)(w:cu)(H:Hp)(s:aB)(Q:VK)(E:XK)(r:Hc)(a:aB):Prop:=
 match r with
|.ok (.ret u)=>CE outer P w H s Q u a
|.ok _=>False
|.error e=>CX outer H s E e a
structure lS (P:bC) (w:cu) (K:au) (mg:Str->Option ak) (base:cY) (CX:Qh) (k:Nat) (f:ao) (fd:gX) (ps:a5 Str) (sp:Sp):Prop where
 len:∀vs H Q E,sp vs H Q E->vs.length=ps.length
 run:∀(A:bT)(outer:a5 Env)(s:aB)(H:Hp)(args:Args)(us:a5 ak)(vs:a5 V)(Q:VK)(E:XK),gC k A->Al P w K mg base A outer s H->Kv s fd args (ps.zip us)->Vals vs us->sp vs H Q E →
  oO (bb P w) A (.call (.ref f) args) (CR CX outer P w H s Q E) s
theorem lS.mono{P:bC}{w:cu}{K:au}{mg:Str->Option ak}{base:cY}{CX:Qh}{j k:Nat}{f:ao}{a:gX}{ps:a5 Str}{sp:Sp}(F:lS P w K mg base CX j f a ps sp)(h:j<=k):
  lS P w K mg base CX k f a ps sp:=⟨F.len,λA outer s H args us vs Q E b=>F.run A outer s H args us vs Q E (b.mono h)⟩
theorem Al.make{P:bC}{w:cu}{K:au}{mg:Str->Option ak}{base:cY}{A:bT}{outer:a5 Env}{s:aB}{H:Hp}(e:Al P w K mg base A outer s H)(C:ao)(us:a5 ak)(a:a5 (Str×ak)):
  Al P w K mg base (A.under (.builtin "type.__call__" ⟨.ref C::us,a⟩)) outer s H:=⟨by first|exact e.frames|(simpa [Around.under,Code.envs,Code.isFrame,pushEnvs] using e.frames),e.mod,e.bs,e.TZ,e.yx,e.Ye,e.gP,e.bare⟩
theorem Al.in1{P:bC}{w:cu}{K:au}{mg:Str->Option ak}{base:cY}{A:bT}{outer:a5 Env}{s:aB}{H:Hp}(e:Al P w K mg base A outer s H):
  Al P w K mg base A.in1 outer s H:=⟨e.frames,e.mod,e.bs,e.TZ,e.yx,e.Ye,e.gP,e.bare⟩
section
variable{X:Cx}{pins:a5 (ao×Obj)}{σ:St}{H:Hp}{s s':aB}
theorem Inv.WM(I:Inv X pins σ H s):Al X.prog X.w X.K X.mg X.base X.A X.stack s H:=
 ⟨I.ok.frames,I.ok.mod,I.bs,bu I.ok.TZ I.sz,I.stack,I.ME,I.gP,I.bare⟩
theorem Inv.after{Q:VK}{u:ak}(I:Inv X pins σ H s)(h:CE X.stack X.prog X.w H s Q u s'):EP X pins σ Q u s':=by obtain⟨v,H',os,bare,un,gP,r,q⟩:=h;obtain⟨c,g,d,t,a⟩:=s';obtain rfl:a=s.os:=os;exact⟨v,H',I.call (h':=c) (g':=g) (d':=d) (t':=t) (ch:=[]) un gP bare (λb z=>absurd z #v[0]),r,q⟩
end
def ab7(sp:Sp)(dvs:a5 V)(E:XK)(t:TA):TE:=λa H Q=>t a H λvs b=>sp (vs++dvs) b Q E
def XJ(C:ao)(m:Str)(sp:Sp)(dvs:a5 V)(E:XK)(d:TE)(t:TA):TE:=λb H Q=>d b H λx c=>∃a dx fs,x=.ref a/\c a=some (.ins C dx fs)/\fs.lookup m=none ∧
 t b c λvs f=>sp (x::(vs++dvs)) f Q E
def XM(C:ao)(sp:Sp)(dvs:a5 V)(E:XK)(t:TA):TE:=λb H Q=>t b H λvs a=>∀x dx,a x=none->a dx=none->dx≠x →
 sp (.ref x::(vs++dvs)) (upd (upd a dx (.own x)) x (.ins C dx [])) (λv c=>v=.jw/\Q (.ref x) c) E
def Binds(K:au)(a:gX)(ps:a5 Str)(ds:a5 ak):Prop:=
 ∀(s:aB)(us:a5 ak),K.In s.heap->(us++ds).length=ps.length->Kv s a ⟨us,[]⟩ (ps.zip (us++ds))
theorem Binds.all{K:au}{a:gX}{ps:a5 Str}(h:∀us:a5 ak,us.length=ps.length->bindArgs a ⟨us,[]⟩=pure (ps.zip us)):Binds K a ps []:=λs us _ hl=>by rw[cG]at hl⊢;exact .of_eq (h us hl)
def Passes(CX:Qh)(X:Cx)(E:XK):Prop:=∀(pins:a5 (ao×Obj))(b:St)(H:Hp)(s:aB)(e:ak)(a:aB),Inv X pins b H s->CX X.stack H s E e a->X.xe e a
section
variable{X:Cx}{CX:Qh}{k:Nat}{f C:ao}{fd:gX}{ps:a5 Str}{sp:Sp}{dvs:a5 V}{ds:a5 ak}{E:XK}{x m:Str}{p pos apos:Pos}{e o:bL}{es:a5 bL}{ta:TE}{t:TA}
theorem Fz{pins:a5 (ao×Obj)}{b:St}{H:Hp}{s:aB}{Q:VK}{us:a5 ak}{vs:a5 V}(F:lS X.prog X.w X.K X.mg X.base CX k f fd ps sp)(i:gC k X.A)(j:Binds X.K fd ps ds)(hd:Vals dvs ds)(g:Passes CX X E)(I:Inv X pins b H s)(r:Vals vs us)(h:sp (vs++dvs) H Q E):a7 (bb X.prog X.w) X.A (call (.ref f) us) (EP X pins b Q) X.xe s:=by
 have c:Vals (vs++dvs) (us++ds):=r.append hd;have hl:(us++ds).length=ps.length:=by rw[<- c.length];exact F.len _ _ _ _ h
 refine wpAny_call (vX (F.run X.A X.stack s H ⟨us,[]⟩ (us++ds) (vs++dvs) Q E i I.WM (j s us I.Hf hl) c h) λr d a=>?_);cases r with
|error e=>exact g pins b H s e d I a
|ok l=>
  cases l with
 |ret u=>exact I.after a
 |next=>exact False.elim a
 |brk=>exact False.elim a
 |cont=>exact False.elim a
theorem MW(F:lS X.prog X.w X.K X.mg X.base CX k f fd ps sp)(d:gC k X.A)(j:Gl X x)(i:X.mg x=some (.ref f))(hk:c8 X.K (.ref f)=true)(n:Binds X.K fd ps ds)(hd:Vals dvs ds)(c:Passes CX X E)(o:PA X (e::es) t)(m:(x == ("__debug__" : Str))=false:=by decide)(l:aG (e::es) X.env=(false,cg e X.env)::aG es X.env:=by rfl)(g:(ef pos (aG es X.env)).any (·.1)=false:=by rfl):
  PE X (.Call (.Name x p) (e::es) [] pos) (ab7 sp dvs E t):=by intro pins s b H Q I h;refine dD (tY I j i ?_ m);refine oH (h₀:=X.base) I.ok.mod.kin hk (iW (o pos pins s b H _ I h) λus u ⟨vs,v,a,r,q⟩=>⟨a.Hf,?_⟩) l g;exact Fz F d n hd c a r q
theorem V5{pl:Sem Bool}(D:PE X o ta)(c:Fb X.K C)(g:Meth X.K C m f)(F:lS X.prog X.w X.K X.mg X.base CX k f fd ps sp)(A:gC k X.A)(G:Binds X.K fd ps ds)(hd:Vals dvs ds)(w:Passes CX X E)(J:PA X (e::es) t)(z:aG (e::es) X.env=(false,cg e X.env)::aG es X.env:=by rfl)(B:(ef pos (aG es X.env)).any (·.1)=false:=by rfl)(y:cg (.Call (.Attribute o m apos) (e::es) [] pos) X.env=(do
   let d <- cg o X.env
   zX apos.atName
   let(f,first) <- kF [d] (zY d m pl)
   XD pos f first (ef pos (aG (e::es) X.env)) (yU pos (oV [] X.env))):=by rfl):
  PE X (.Call (.Attribute o m apos) (e::es) [] pos) (XJ C m sp dvs E ta t):=by intro pins s b H Q I h;refine Hh (pl:=pl) (iW (D pins s b H _ I h) λu n ⟨x,L,j,p,a,dx,fs,ex,K,l,q⟩=>?_) y;subst ex;obtain rfl:u=Value.ref a:=p;refine B7 j K c g l ?_;refine oH (first:=[.ref a]) (h₀:=X.base) I.ok.mod.kin g.kp (iW (J pos pins n b L _ j q) λus M ⟨vs,N,i,r,v⟩=>⟨i.Hf,?_⟩) z B;exact Fz (us:=.ref a::us) (vs:=.ref a::vs) F A G hd w i (.cons rfl r) v
theorem RQ{pl:Sem Bool}(t:PE X o ta)(c:Fb X.K C)(g:Meth X.K C m f)(F:lS X.prog X.w X.K X.mg X.base CX k f fd ps sp)(r:gC k X.A)(v:Binds X.K fd ps ds)(hd:Vals dvs ds)(n:Passes CX X E)(p:cg (.Call (.Attribute o m apos) [] [] pos) X.env=(do
   let d <- cg o X.env
   zX apos.atName
   let(f,first) <- kF [d] (zY d m pl)
   XD pos f first (ef pos (aG [] X.env)) (yU pos (oV [] X.env))):=by rfl):
  PE X (.Call (.Attribute o m apos) [] [] pos) (XJ C m sp dvs E ta Zq):=by intro pins s i H Q I h;refine Hh (pl:=pl) (iW (t pins s i H _ I h) λu y ⟨x,z,b,j,a,dx,fs,ex,w,l,q⟩=>?_) p;subst ex;obtain rfl:u=Value.ref a:=j;refine B7 b w c g l ?_;exact Kn (first:=[.ref a]) b.Hf g.kp (Fz (us:=[.ref a]) (vs:=[.ref a]) F r v hd n b (.cons rfl .nil) q)
structure Mk (K:au) (C f:ao):Prop where
 makes:rK K C=true
 init:cH K (.ref C) "__init__" = some (some (.ref f))
 fn:lL K (.ref f)=true
 kp:c8 K (.ref C)=true
theorem HY{pins:a5 (ao×Obj)}{c:St}{H:Hp}{s:aB}{Q:VK}{us:a5 ak}{vs:a5 V}(M:Mk X.K C f)(F:lS X.prog X.w X.K X.mg X.base CX k f fd ps sp)(n:gC (k+1) X.A)(o:Binds X.K fd ps ds)(hd:Vals dvs ds)(m:Passes CX X E)(I:Inv X pins c H s)(r:Vals vs us)(h:∀x dx,H x=none->H dx=none->dx≠x->sp (.ref x::(vs++dvs)) (upd (upd H dx (.own x)) x (.ins C dx [])) (λv w=>v=.jw/\Q (.ref x) w) E):
  a7 (bb X.prog X.w) X.A (call (.ref C) us) (EP X pins c Q) X.xe s:=by
 have g:=h (s.heap.objs.size+1) s.heap.objs.size (I.gP.fresh (jy _)) (I.gP.fresh (aS _)) (bQ (rQ _));have b:=Inv.made (C:=C) I;have d:Vals (V.ref (s.heap.objs.size+1)::(vs++dvs)) (Value.ref (s.heap.objs.size+1)::(us++ds)):=.cons rfl (r.append hd);have hl:(Value.ref (s.heap.objs.size+1)::us++ds).length=ps.length:=by have e:=d.length;rw[F.len _ _ _ _ g]at e;exact e.symm
 refine wpAny_call (SF (f:=f) I.Hf M.makes M.init (beq_iff_eq.mp M.fn) (vX (F.run _ X.stack _ _ ⟨Value.ref (s.heap.objs.size+1)::us,[]⟩ (Value.ref (s.heap.objs.size+1)::(us++ds)) _ _ E (n.make C us [])
  (b.WM.make C us []) (o _ (Value.ref (s.heap.objs.size+1)::us) b.Hf hl) d g) λr i a=>?_))
 cases r with
|error e=>exact m pins c _ _ e i b a
|ok p=>
  cases p with
 |ret u=>obtain⟨v,H',t,j,q,l⟩:=b.after a;subst q;exact⟨j,⟨V.ref (s.heap.objs.size+1),H',t,rfl,l⟩⟩
 |next=>exact False.elim a
 |brk=>exact False.elim a
 |cont=>exact False.elim a
theorem V6(M:Mk X.K C f)(F:lS X.prog X.w X.K X.mg X.base CX k f fd ps sp)(d:gC (k+1) X.A)(j:Gl X x)(i:X.mg x=some (.ref C))(n:Binds X.K fd ps ds)(hd:Vals dvs ds)(c:Passes CX X E)(o:PA X (e::es) t)(m:(x == ("__debug__" : Str))=false:=by decide)(l:aG (e::es) X.env=(false,cg e X.env)::aG es X.env:=by rfl)(g:(ef pos (aG es X.env)).any (·.1)=false:=by rfl):
  PE X (.Call (.Name x p) (e::es) [] pos) (XM C sp dvs E t):=by intro pins s b H Q I h;refine dD (tY I j i ?_ m);refine oH (h₀:=X.base) I.ok.mod.kin M.kp (iW (o pos pins s b H _ I h) λus u ⟨vs,v,a,r,q⟩=>⟨a.Hf,?_⟩) l g;exact HY M F d n hd c a r q
theorem RR(M:Mk X.K C f)(F:lS X.prog X.w X.K X.mg X.base CX k f fd ps sp)(b:gC (k+1) X.A)(d:Gl X x)(c:X.mg x=some (.ref C))(i:Binds X.K fd ps ds)(hd:Vals dvs ds)(a:Passes CX X E)(g:(x == ("__debug__" : Str))=false:=by decide):PE X (.Call (.Name x p) [] [] pos) (XM C sp dvs E Zq):=by intro pins s j H Q I h;refine dD (tY I d c ?_ g);exact Kn I.Hf M.kp (HY (us:=[]) M F b i hd a I .nil h)
end
section
variable{X:Cx}{CX:Qh}{k:Nat}{f C:ao}{fd:gX}{ps ks:a5 Str}{sp:Sp}{E:XK}{x m:Str}{p pos apos kpos:Pos}{e o:bL}{es:a5 bL}{kws:a5 DV}{te ta:TE}{t tk:TA}{nm:Option Str}
variable{g:a5 ak->a5 ak->a5 ak}{gV:a5 V->a5 V->a5 V}
end
structure ke (N P:a5 Str) (sc:lV):Prop where
 kind:sc.kind=.function
 co:sc.isCoroutine=false
 gen:sc.isGenerator=false
 nd:N.Nodup
 pre:N.take P.length=P
 par:∀x∈P,sc.names.lookup x=some .local\/sc.names.lookup x=some .cell
 aai:∀y∈sc.names,y.2≠.free
theorem ET{pN:Str->Option jd}{x:Str}:∀{binds:a5 (Str×ak)}{m:Str->Option ak},(∀v,(x,v)∉binds)->QH pN binds m x=m x
|[],_,_=>rfl
|(n,v)::r,m,h=>by
  unfold QH;rw[ET λw a=>h w (ah _ a)];split;have:x≠n:=by rintro rfl;exact h v aF
  simp[this];rfl
theorem EV{pN:Str->Option jd}{x:Str}:∀{binds:a5 (Str×ak)}{m:Str->Option ak},(∀v,(x,v)∉binds)->QJ pN binds m x=m x
|[],_,_=>rfl
|(n,v)::r,m,h=>by
  unfold QJ;rw[EV λw a=>h w (ah _ a)];split;rfl;have:x≠n:=by rintro rfl;exact h v aF
  simp[this]
theorem EU{pN:Str->Option jd}{x:Str}{v:ak}:∀{P:a5 Str}{vs:a5 ak}{i:Nat}{m:Str->Option ak},P.Nodup->P[i]? = some x->vs[i]? = some v->pN x=some .local →
  QH pN (P.zip vs) m x=some v
|[],_,_,_,_,h,_,_=>by simp at h
|_::_,[],_,_,_,_,h,_=>by simp at h
|p::P,w::vs,0,m,nd,b,a,hk=>by simp at b a;subst b;subst a;show QH pN ((p,w)::P.zip vs) m p=_;unfold QH;rw[ET λv c=>(bg.mp nd).1 (iR c).1,if_pos hk];simp
|p::P,w::vs,i+1,m,nd,b,a,hk=>by show QH pN ((p,w)::P.zip vs) m x=_;unfold QH;exact EU (i:=i) (bg.mp nd).2 #v[b] #v[a] hk
theorem EW{pN:Str->Option jd}{x:Str}{v:ak}:∀{P:a5 Str}{vs:a5 ak}{i:Nat}{m:Str->Option ak},P.Nodup->P[i]? = some x->vs[i]? = some v->pN x≠some .local →
  QJ pN (P.zip vs) m x=some v
|[],_,_,_,_,h,_,_=>by simp at h
|_::_,[],_,_,_,_,h,_=>by simp at h
|p::P,w::vs,0,m,nd,b,a,hk=>by simp at b a;subst b;subst a;show QJ pN ((p,w)::P.zip vs) m p=_;unfold QJ;rw[EV λv c=>(bg.mp nd).1 (iR c).1,if_neg hk];simp
|p::P,w::vs,i+1,m,nd,b,a,hk=>by show QJ pN ((p,w)::P.zip vs) m x=_;unfold QJ;exact EW (i:=i) (bg.mp nd).2 #v[b] #v[a] hk
def start(N:a5 Str)(vs:a5 V):St:=vs.map some++fC (N.length-vs.length) none
def yC(CX:Qh)(P:bC)(w:cu)(K:au)(mg:Str->Option ak)(base:cY)(N:a5 Str)(b:Str)(a:lV)(f:ao)(c:ak)(A:bT)(outer:a5 Env)(s:aB)(H:Hp)(E:XK):Cx where
 prog:=P
 w:=w
 K:=K
 mg:=mg
 base:=base
 A:=A.deeper (nu b a s.heap.objs.size f c)
 N:=N
 C3:=s
 H_0:=H
 env:=nu b a s.heap.objs.size f c
 outer:=outer
 stack:=nu b a s.heap.objs.size f c::outer
 ex:=[]
 calm:=true
 fn:=λ_=>true
 pn:=[]
 xe:=λe g=>a7 (bb P w) (A.deeper (nu b a s.heap.objs.size f c)) (leaving (nu b a s.heap.objs.size f c) e) (λ_ d=>CX outer H s E e d) (λh d=>CX outer H s E h d) g
theorem JN{sc:lV}{n:Nat}{x:Str}(h:sc.names.lookup x=some .cell):∃c,(eF n sc.names []).lookup x=some c:=by have q:=G3 sc.names n [] (.inl h);exact pT.mp q
theorem Py{CX:Qh}{P:bC}{w:cu}{K:au}{mg:Str->Option ak}{base:cY}{N ps:a5 Str}{o:Str}{j:lV}{f:ao}{B:ak}{A:bT}{outer:a5 Env}{s D:aB}{H:Hp}{E:XK}{us:a5 ak}{vs:a5 V}(S:ke N ps j)(hd:A.handled=none)(g:Al P w K mg base A outer s H)(hl:vs.length=ps.length)(r:Vals vs us)(x:InCallC s s.heap.objs.size (QH (nu o j s.heap.objs.size f B).kindOf (ps.zip us) λ_=>none) (eF (s.heap.objs.size+1) j.names []) (QJ (nu o j s.heap.objs.size f B).kindOf (ps.zip us) λ_=>none) D):
  Inv (yC CX P w K mg base N o j f B A outer s H E) [] (start N vs) H D:=by
 have L:ps.length<=N.length:=by have:=congrArg nJ S.pre;rw[bw]at this;lia
 obtain⟨t,tk,rfl,hk⟩:=x.done;have C:∀b:ao,b∉(yC CX P w K mg base N o j f B A outer s H E).ex:=λb z=>absurd (show b∈([]:a5 ao) from z) #v[0];refine⟨⟨g.mod,S.kind,rfl,rfl,aS _,λy z c t d=>?_,λy l=>?_,λy c _ h=>?_,λ_=>hd,Around.frames_deeper g.frames,.inr ⟨rfl,rfl⟩,λb z=>absurd z (C b),g.bs,g.TZ,λb _ _=>C b,λb z=>absurd z (C b),g.yx,g.Ye⟩,
  rfl,g.bare,Un.kept hk,⟨_,x.toInCall.ns,λi y v t d M=>?_⟩,λy c h=>⟨_,x.cell y c h⟩,g.gP.fresh (aS _),λy c h=>?_,λp m=>absurd (show p∈([]:a5 (ao×Obj)) from m) #v[0],g.gP.kept hk,?_⟩
 exact name_of_addr x.apart (bW t) (bW d);have l:j.names.lookup y=some .cell\/j.names.lookup y=some .free:=l;rcases l with l|l;exact JN l;exact absurd rfl (S.aai _ (bW l));exact mI (x.above y c (bW h));have hi:i<vs.length:=by unfold start at d;by_cases hi:i<vs.length;exact hi;rw[fE #v[hi]]at d;rw[Kd]at d;split at d<;>cases d
 have J:vs[i]? = some v:=by
  unfold start at d;rw[ej #v[hi],bq]at d;cases e:vs[i]? with
 |none=>rw[e]at d;cases d
 |some a=>rw[e]at d;cases d;rfl
 obtain⟨u,G,I⟩:=r.get J;have m:ps[i]? = some y:=by rw[<- S.pre,Hm #v[]];exact t
 have F:ps.Nodup:=by rw[<- S.pre];exact S.nd.sublist (List.take_sublist _ _)
 refine⟨u,I,?_⟩;rcases S.par y (bp m) with k|k;exact .inl ⟨k,EU F m G k⟩;obtain⟨c,e⟩:=JN (n:=s.heap.objs.size+1) k;refine .inr ⟨.inl k,c,e,?_⟩;have q:=x.cell y c e;rw[EW F m G (by show j.names.lookup y≠_;rw[k];decide)]at q;exact q;exact g.gP.fresh (mI (x.above y c (bW h)));unfold start;show _=N.length;rw[aP,ai,Mp];lia
theorem acU{CX:Qh}{P:bC}{w:cu}{K:au}{mg:Str->Option ak}{base:cY}{k:Nat}{f:ao}{name c:Str}{C:Arguments}{p:a5 jv}{a:lV}{G kV F B d ct T:ak}{L R:Option ao}{O:Array (Option ak)}{N ps:a5 Str}{sp:Sp}(U:K.lookup f=some ⟨T,R,.func (fu name c C p a G kV F B L d ct),O⟩)(ac:i7 K d c=true)(S:ke N ps a)(len:∀vs H Q E,sp vs H Q E->vs.length=ps.length)(ad:∀(A:bT)(outer:a5 Env)(s:aB)(H:Hp)(vs:a5 V)(Q:VK)(E:XK),gC k (A.deeper (nu c a s.heap.objs.size f d))->sp vs H Q E →
   ∃t,NX (yC CX P w K mg base N c a f d A outer s H E) p t/\t { nx:=λ_ H'=>Q .jw H',rt:=Q } (start N vs) H):
  lS P w K mg base CX (k+1) f (fu name c C p a G kV F B L d ct) ps sp:=by
 refine⟨len,λA outer s H args us vs Q E m h hb r D=>?_⟩;have hl:=len _ _ _ _ D;have M:K.In s.heap:=h.mod.kin.keeps λb o e=>(h.bs b o e).1;have W:s.heap.NoLimit:=h.mod.nolimit.keeps λb o e=>(h.bs b o e).1;have aa:∀y∈ps.zip us,a.names.lookup y.1=some .local\/(a.names.lookup y.1=some .cell/\((eF (s.heap.objs.size+1) a.names []).lookup y.1).isSome=true):=λ⟨n,v⟩ X=>by rcases S.par n (iR X).1 with q|q;exact .inl q;exact .inr ⟨q,G3 _ _ _ (.inl q)⟩
 refine codeAny_call_function m.depth (M _ _ U) rfl S.co S.gen rfl (PySem.W.codeRec_of M ac) (hb _ _ _ _ ?_);refine wpAny_newFunctionEnv_cells S.kind aa λenv he z x=>?_;subst he;refine⟨W.keeps x.toInCall.keep,codeAny_func ?_⟩;obtain⟨t,Y,Z⟩:=ad A outer s H vs Q E (m.deeper _) D;have I:Inv (yC CX P w K mg base N c a f d A outer s H E) [] (start N vs) H z:=Py S m.hd h hl r x;refine d9 (Y [] z (start N vs) H _ I Z) (λfl j g=>?_) λe j g=>g;have fin:∀{i:St}{H':Hp}{v:V}{u:ak},Inv (yC CX P w K mg base N c a f d A outer s H E) [] i H' j->RelV v u->Q v H'->CE outer P w H s Q u j:=
  λ{i H' v u} J l q=>⟨v,H',J.os,J.bare,J.base,J.gP,l,q⟩
 cases fl with
|ret u=>obtain⟨v,i,H',J,l,q⟩:=g;exact fin J l q
|next=>obtain⟨i,H',J,q⟩:=g;exact fin (v:=V.jw) (u:=Value.none) J rfl q
|brk=>obtain⟨_,_,_,q⟩:=g;exact False.elim q
|cont=>obtain⟨_,_,_,q⟩:=g;exact False.elim q
section
variable{X:Cx}{x:Str}{p pos:Pos}{e:bL}{es:a5 bL}{t:TA}{id T:String}{r:a5 V->Hp->VK->Prop}
def tCB(r:a5 V->Hp->VK->Prop)(t:TA):TE:=λa H Q=>t a H λvs b=>r vs b Q
theorem Iz(n:lK X (.builtin id) r)(k:Gl X x)(j:X.mg x=none)(f:gH x=some (.builtin id))(o:PA X (e::es) t)(i:x≠"__name__":=by decide)(m:(x == ("__debug__" : Str))=false:=by decide)(l:aG (e::es) X.env=(false,cg e X.env)::aG es X.env:=by rfl)(g:(ef pos (aG es X.env)).any (·.1)=false:=by rfl):PE X (.Call (.Name x p) (e::es) [] pos) (tCB r t):=by intro pins s a H Q I h;refine dD (ml I k j f ?_ i m);exact PyProof.Rows.callWith_builtin1 (iW (o pos pins s a H _ I h) λus b ⟨vs,u,q,c,d⟩=>n pins b a u vs us Q q c d) l g
theorem Ec(n:lK X (.type T) r)(k:Gl X x)(j:X.mg x=none)(f:gH x=some (.type T))(o:PA X (e::es) t)(i:x≠"__name__":=by decide)(m:(x == ("__debug__" : Str))=false:=by decide)(l:aG (e::es) X.env=(false,cg e X.env)::aG es X.env:=by rfl)(g:(ef pos (aG es X.env)).any (·.1)=false:=by rfl):PE X (.Call (.Name x p) (e::es) [] pos) (tCB r t):=by intro pins s a H Q I h;refine dD (ml I k j f ?_ i m);exact b9 (iW (o pos pins s a H _ I h) λus b ⟨vs,u,q,c,d⟩=>n pins b a u vs us Q q c d) l g
end
end L2
namespace HT
def lexLt:a5 Int->a5 Int->Bool
|[],[]=>false
|[],_::_=>true
|_::_,[]=>false
|x::xs,y::a=>if x=y then lexLt xs a else decide (x<y)
theorem vK(x y:Int)(xs a:a5 Int):lexLt (x::xs) (y::a)=if x=y then lexLt xs a else decide (x<y):=rfl
theorem uU:lexLt [] []=false:=rfl
theorem B0(y:Int)(a:a5 Int):lexLt [] (y::a)=true:=rfl
theorem B3(x:Int)(xs:a5 Int):lexLt (x::xs) []=false:=rfl
theorem Tg(A:bT)(s:aB)(a:Int)(t:Tok)(c:Int)(u:Tok):∃e,SeqAt.EqAt A s (.int a t) (.int c u) e/\(e=true↔a=c):=
 ⟨(a == c),SeqAt.EqAt.int_int a t c u,#v[0]⟩
theorem Rt(A:bT)(s:aB)(a:Int)(t:Tok)(c:Int)(u:Tok)(prog:bC)(w:cu)(E:ak->aB->Prop)(Q:ak->aB->Prop)(h:Q (.bool (decide (a<c))) s):
  a7 (bb prog w) A (richCompare .Lt (.int a t) (.int c u)) Q E s:=
 (PyProof.Rows.lt_int h:a7 (bb prog w) A (eE .Lt (.int a t) (.int c u)) Q E s)
section
open PySem.SeqAt
open PySem.AutoSeq1 (wpAny_loadPart')
open PySem.MeetsSeq PySem.MeetsSeq2 PySem.MeetsSeq3
theorem C0(l b:ao)(items items2:Array ak)(n n2:Nat)(dd N:Option ao)(sl C:Array (Option ak))(ns ms:a5 Int)(hi:oQ items.toList ns)(hj:oQ items2.toList ms):
  Meets (Builtin.«tuple.__lt__» ⟨[.ref l,.ref b],[]⟩)
   (λ_ R s=>s.heap.get? l=some { cls:=.type "tuple",dict:=dd,data:=.seq items n,slots:=sl }/\s.heap.get? b=some { cls:=.type "tuple",dict:=N,data:=.seq items2 n2,slots:=C } ∧
    R (.ok (.ret (.bool (lexLt ns ms)))) s):=
 .of_wp λprog w A R s h=>by
  obtain⟨o,g,d,tk,os⟩:=s;obtain⟨hl,M,h⟩:=h;have Q:=AutoSeq1.sub_tuple_tuple;have P:items.size=ns.length:=by rw[<- hi.length];simp
  have O:items2.size=ms.length:=by rw[<- hj.length];simp
  wp_walk using Kh hl,Kh M,wpAny_forIn_list _ (λrest b p=>b.1=none/\p=⟨o,g,d,tk,os⟩/\∃(vs ws:a5 ak)(i j:a5 Int),rest=vs.zip ws ∧
   oQ vs i/\oQ ws j/\i.length+items2.size=j.length+items.size/\R (.ok (.ret (.bool (lexLt i j)))) ⟨o,g,d,tk,os⟩) _
  case turn=>
   rintro⟨y,x⟩ rest b p ⟨v,rfl,vs,ws,i,j,hz,r,m,k,f⟩;cases r with
  |nil=>rw[Up]at hz;cases hz
  |cons a t I=>
    cases m with
   |nil=>rw[xJ]at hz;cases hz
   |cons c u G=>
     rw[du]at hz;injection hz with D K;injection D with E F;subst E F;rw[vK]at f;simp only[aL]at k;obtain⟨e,L,B⟩:=Tg A.in1 ⟨o,g,d,tk,os⟩ a t c u;refine aj (L prog w _ _ ?_);cases e with
    |true=>
      rw[if_pos (B.mp rfl)]at f
      wp_walk
      exact⟨rfl,rfl,_,_,_,_,K,I,G,#v[],f⟩
    |false=>
      rw[if_neg (λq=>absurd (B.mpr q) bR)]at f;have J:=Rt A.in1 ⟨o,g,d,tk,os⟩ a t c u prog w
      wp_walk using J
      exact⟨_,rfl,by simpa using f⟩
  case fin=>
   rintro⟨S,b2⟩ p ⟨v,rfl,vs,ws,i,j,hz,r,m,k,f⟩;simp only at v;subst v;have z:lexLt i j=decide (items.size<items2.size):=by
    cases r with
   |nil=>
     cases m with
    |nil=>simp only[de]at k;rw[uU];exact(decide_eq_false #v[]).symm
    |cons c u H=>simp only[de,aL]at k;rw[B0];exact(decide_eq_true #v[]).symm
   |cons a t z=>
     cases m with
    |nil=>simp only[de,aL]at k;rw[B3];exact(decide_eq_false #v[]).symm
    |cons c u H=>rw[du]at hz;cases hz
   rw[z]at f
   wp_walk
   exact⟨_,rfl,by simpa [Builtin.Tuple.tupleCompareSizes] using f⟩
  case h=>exact⟨rfl,rfl,items.toList,items2.toList,ns,ms,rfl,hi,hj,#v[],h⟩
end
section
variable{prog:bC}{w:cu}{A:bT}{E:ak->aB->Prop}{s:aB}
theorem Ls{l b:ao}{items items2:Array ak}{ns ms:a5 Int}{Q:ak->aB->Prop}(hl:IsTup s.heap l items)(k:IsTup s.heap b items2)(hi:oQ items.toList ns)(hj:oQ items2.toList ms)(j:A.units<pU)(h:Q (.bool (lexLt ns ms)) s):a7 (bb prog w) A (eE .Lt (.ref l) (.ref b)) Q E s:=by
 obtain⟨⟨cls,dd,data,sl⟩,c,g,n,hd⟩:=id hl;obtain⟨⟨o,m,data2,i⟩,a,f,n2,d⟩:=id k;simp only at g hd f d;subst g hd f d;exact richCompare_meets_room (op:=.Lt) ⟨_,c,rfl⟩ ⟨_,a,rfl⟩ PySem.F.slot_tuple_lt PySem.F.entry_tuple_lt (PySem.F.args_tuple_lt_2 _ _) (C0 l b items items2 n n2 dd m sl i ns ms hi hj)
  ⟨c,a,show Value.bool (lexLt ns ms)≠Value.notImplemented/\Q (.bool (lexLt ns ms)) s from⟨(λx=>nomatch x),h⟩⟩ j
def nX(n d:Nat):Option Int->Nat
|none=>d
|some v=>if v<0 then(v+(n:Int)).toNat else min v.toNat n
end
end HT
namespace L2
abbrev TO:=St->Hp->(Option Int->Hp->Prop)->Prop
def PO(X:Cx)(e:Option bL)(t:TO):Prop:=
 ∀(pins:a5 (ao×Obj))(s:aB)(a:St)(H:Hp)(Q:Option Int->Hp->Prop),Inv X pins a H s->t a H Q →
  a7 (bb X.prog X.w) X.A (evalPart e X.env) (λu b=>∃o H',Inv X pins a H' b/\IsPart u o/\Q o H') X.xe s
def VC:TO:=λ_ H Q=>Q none H
def ab0(t:TE):TO:=λa H Q=>t a H λx b=>∃i,x=.int i/\Q (some i) b
theorem intsAre_of{ns:a5 Int}:∀{us:a5 ak},Vals (ns.map V.int) us->oQ us ns:=by
 induction ns with
|nil=>intro us r;rw[iU]at r;cases r;exact .nil
|cons n ns c=>
  intro us r;rw[a9]at r;cases r with
 |cons b a=>obtain⟨t,e⟩:=b;subst e;exact .cons n t (c a)
section
variable{X:Cx}{e:bL}{te:TE}{lo hi:Option bL}{tl th:TO}{pos p2:Pos}
theorem V4:PO X none VC:=by intro pins s a H Q I h;rw[evalPart_none];exact aM ⟨none,H,I,.none,h⟩
theorem V3(h:PE X e te):PO X (some e) (ab0 te):=by intro pins s a H Q I d;rw[evalPart_some];refine iW (h pins s a H _ I d) λu j ⟨x,g,f,b,c⟩=>?_;obtain⟨i,rfl,q⟩:=c;obtain⟨t,rfl⟩:=b;exact⟨some i,g,f,.int i t,q⟩
def SlR(X:Cx)(r:V->Option Int->Option Int->Hp->VK->Prop):Prop:=
 ∀(pins:a5 (ao×Obj))(s:aB)(a:St)(H:Hp)(x:V)(v c b:ak)(lo hi:Option Int)(sl:ao)(Q:VK),Inv X pins a H s->RelV x v->s.heap.IsSliceOf sl c b .none->IsPart c lo->IsPart b hi->r x lo hi H Q →
  ∃T id,vW (.type T) "__getitem__" = pure (some (.builtin id))/\s.TypeIs v T/\a7 (bb X.prog X.w) X.A (UE v (.ref sl)) (EP X pins a Q) X.xe s
def tSl(r:V->Option Int->Option Int->Hp->VK->Prop)(te:TE)(tl th:TO):TE:=λa H Q=>te a H λx d=>tl a d λl c=>th a c λu b=>r x l u b Q
theorem Iy{r:V->Option Int->Option Int->Hp->VK->Prop}(y:SlR X r)(A:PE X e te)(hl:PO X lo tl)(t:PO X hi th):PE X (.Subscript e (.Slice lo hi none p2) pos) (tSl r te tl th):=by intro pins s c H Q I h;refine Subscript_ (iW (A pins s c H _ I h) λv j ⟨x,J,F,k,o⟩=>?_);refine wpAny_Slice (iW (hl pins j c J _ F o) λf i ⟨l,G,E,pl,n⟩=>iW (t pins i c G _ E n) λd a ⟨u,g,D,p,m⟩=>?_);rw[evalPart_none];refine aM ?_;have C:Inv X pins c g { a with heap:=a.heap.push { cls:=.type "slice",data:=.fields #[f,d,.none] } }:=D.kept (t':=a.toks) λb K q=>Heap.get?_push_of_some _ q;obtain⟨T,id,B,w,z⟩:=y pins { a with heap:=a.heap.push { cls:=.type "slice",data:=.fields #[f,d,.none] } } c g x v f d l u a.heap.objs.size Q C k (Heap.IsSliceOf.new ..) pl p m;show a7 (bb X.prog X.w) X.A (Qv e (.Slice lo hi none p2) v (.ref a.heap.objs.size)) (EP X pins c Q) X.xe { a with heap:=a.heap.push { cls:=.type "slice",data:=.fields #[f,d,.none] } };exact tail_any (ops:=[.ref a.heap.objs.size,v]) w B z (by with_unfolding_all rfl)
def PV(xs:a5 V)(lo hi:Option Int):a5 V:=(xs.drop (HT.nX xs.length 0 lo)).take (HT.nX xs.length xs.length hi-HT.nX xs.length 0 lo)
theorem JE(xs:a5 V)(lo hi:Option Int):(PV xs lo hi).length<=xs.length:=by unfold PV;rw[bw,cj];lia
end
def Nd(n:Nat)(i:Int):Option Nat:=if 0<=i then(if i<n then some i.toNat else none) else if -(n:Int)<=i then some (i+n).toNat else none
def nT{α:Type}(xs:a5 α)(i:Int):Option α:=(Nd xs.length i).bind λj=>xs[j]?
theorem Gq{n:Nat}{i:Int}{j:Nat}(h:Nd n i=some j):seqIndex? i n=some j/\j<n/\-(n:Int)<=i/\i<n:=by unfold Nd at h;by_cases b:0<=i;rw[if_pos b]at h;by_cases a:i<n;rw[if_pos a]at h;have e:i.toNat=j:=aH h;exact⟨by rw[Xz b a,e],#v[],#v[],a⟩;rw[if_neg a]at h;cases h;rw[if_neg b]at h;by_cases a:-(n:Int)<=i;rw[if_pos a]at h;have e:(i+n).toNat=j:=aH h;exact⟨by rw[UC #v[] a,e],#v[],a,#v[]⟩;rw[if_neg a]at h;cases h
theorem NV{α:Type}{xs:a5 α}{i:Int}{v:α}(h:nT xs i=some v):∃j,seqIndex? i xs.length=some j/\xs[j]? = some v/\j<xs.length/\-(xs.length:Int)<=i/\i<xs.length:=by
 unfold nT at h;cases e:Nd xs.length i with
|none=>rw[e]at h;cases h
|some j=>rw[e]at h;obtain⟨d,c,b,a⟩:=Gq e;exact⟨j,d,h,c,b,a⟩
def GW(b:bL):Prop:=∀o i,Hq b false o i=operate [o,i] (UE o i)
def Ys(X:Cx)(r:R2):Prop:=
 ∀(c b:bL)(pins:a5 (ao×Obj))(s:aB)(a:St)(H:Hp)(x y:V)(v u:ak)(Q:VK),Inv X pins a H s->RelV x v->RelV y u->r x y H Q →
  Hq b false v u=operate [v,u] (UE v u)->a7 (bb X.prog X.w) X.A (Qv c b v u) (EP X pins a Q) X.xe s
def MtR(X:Cx)(id:String)(r:V->a5 V->Hp->VK->Prop):Prop:=
 ∀(pins:a5 (ao×Obj))(s:aB)(a:St)(H:Hp)(x:V)(xs:a5 V)(v:ak)(us:a5 ak)(Q:VK),Inv X pins a H s->RelV x v->Vals xs us->r x xs H Q →
  a7 (bb X.prog X.w) X.A (call (.builtin id) (v::us)) (EP X pins a Q) X.xe s
section
variable{X:Cx}{a b:bL}{ta tb:TE}{pos:Pos}
theorem Ys.or{r g:R2}(h:Ys X r)(h':Ys X g):Ys X (λx y H Q=>r x y H Q\/g x y H Q):=by intro b c pins s a H x y v u Q I f d q i;rcases q with q|q;exact h b c pins s a H x y v u Q I f d q i;exact h' b c pins s a H x y v u Q I f d q i
theorem XY{r:R2}(j:Ys X r)(l:PE X a ta)(k:PE X b tb)(i:GW b):PE X (.Subscript a b pos) (tOp r ta tb):=by intro pins s c H Q I h;exact Subscript_ (aa5 l k I h λv u d x y n m g f q=>j a b pins d c n x y v u Q m g f q (i _ _))
inductive ack (K:au) (x:V) (y:V) (H:Hp) (Q:VK):Prop
|mk (p xs i v:_) (_:x=.ref p) (_:y=.int i) (_:lY K H p xs) (_:nT xs i=some v) (_:Q v H)
inductive acj (K:au) (x:V) (y:V) (H:Hp) (Q:VK):Prop
|mk (p xs i v:_) (_:x=.ref p) (_:y=.int i) (_:zy K H p xs) (_:nT xs i=some v) (_:Q v H)
theorem Nc:Ys X (ack X.K):=by
 intro D E pins s b H x y v u Q I l k h c;obtain⟨p,xs,i,z,rfl,rfl,n,o,q⟩:=h;cases l;obtain⟨t,rfl⟩:=k;obtain⟨bK,r,pl,hz⟩:=I.list n;obtain⟨j,a,C,G,B,A⟩:=NV o;obtain⟨w,f,m⟩:=r.get C;have hl:=r.length;have F:=Gi;have fin:EP X pins b Q w s:=⟨z,H,I,m,q⟩;by_cases d:0<=i;have hj:i.toNat=j:=by rw[Xz d A]at a;exact aH a
 exact item_listR pl.isList d #v[] (by rw[hj];simpa using f) fin c;have hj:(i+(bK.toArray.size:Int)).toNat=j:=by rw[UC #v[] B]at a;rw[aX,<- hl];exact aH a
 exact UB (x:=w) pl.isList.typeIs slot_list_getitem.lookup
  (wpAny_getItem_list_neg (Q:=λr g=>r=w/\EP X pins b Q r g) pl.isList #v[] (by rw[aX]<;>lia) #v[] (by rw[hj];simpa using f) ⟨rfl,fin⟩) c
theorem aaC:Ys X (acj X.K):=by
 intro A B pins s a H x y v u Q I d c h g;obtain⟨p,xs,i,z,rfl,rfl,k,l,q⟩:=h;cases d;obtain⟨t,rfl⟩:=c;obtain⟨bK,r,pl,hz⟩:=I.tuple k;obtain⟨j,n,m,F,E,D⟩:=NV l;obtain⟨w,o,f⟩:=r.get m;have hl:=r.length;have C:=Gi;have fin:EP X pins a Q w s:=⟨z,H,I,f,q⟩;exact UB (x:=w) pl.typeIs slot_tuple_getitem.lookup
  (getItem_tuple (j:=j) (Q:=λr b=>r=w/\EP X pins a Q r b) pl #v[] #v[] (by rw[aX,<- hl];exact n) #v[o] ⟨rfl,fin⟩) g
def rIx(K:au):R2:=λx y H Q=>ack K x y H Q\/acj K x y H Q
theorem aaD:Ys X (rIx X.K):=Nc.or aaC
theorem Lp(bK:a5 ak)(n j:Nat)(u:ak):Obj.mapSeq (·.setIfInBounds j u) { cls:=.type "list",data:=.seq bK.toArray n }={ cls:=.type "list",data:=.seq (bK.set j u).toArray n }:=by simp[Obj.mapSeq]
theorem Inv.lst{pins:a5 (ao×Obj)}{a:St}{H:Hp}{s:aB}{p:ao}{xs:a5 V}(I:Inv X pins a H s)(h:H p=some (.lst xs)):
  ∃(bK:a5 ak)(n:Nat),Vals xs bK/\s.heap.get? p=some { cls:=.type "list",data:=.seq bK.toArray n }/\xs.length<=aQ:=by obtain⟨z,bK,n,r,e⟩:=I.gP p _ h;exact⟨bK,n,r,e,z⟩
theorem Inv.aat{pins:a5 (ao×Obj)}{d:St}{H:Hp}{s:aB}{p:ao}{xs a:a5 V}{bK its':a5 ak}{n c:Nat}{f:Obj->Obj}(I:Inv X pins d H s)(h:H p=some (.lst xs))(i:s.heap.get? p=some { cls:=.type "list",data:=.seq bK.toArray n })(g:f { cls:=.type "list",data:=.seq bK.toArray n }={ cls:=.type "list",data:=.seq its'.toArray c })(r:Vals a its')(hz:a.length<=aQ)(t:Nat):
  Inv X pins d (upd H p (.lst a)) { s with heap:=s.heap.update p f,toks:=t }:=by
 have e:(s.heap.update p f).get? p=some { cls:=.type "list",data:=.seq its'.toArray c }:=by rw[Heap.get?_update_self f i (by rw[g]<;>rfl),g]
 refine I.write (x:=p) (e:=p) (by rw[h];trivial) (.inl rfl) (λb u j q=>(Heap.get?_update_other _ _ (Ne.symm j)).trans q) ⟨_,e⟩ ?_;exact⟨hz,its',c,r,e⟩
inductive acb (o:V) (i:V) (v:V) (H:Hp) (Q:(Hp->Prop)):Prop
|mk (p xs k j:_) (_:o=.ref p) (_:i=.int k) (_:H p=some (.lst xs)) (_:Nd xs.length k=some j) (_:Q (upd H p (.lst (xs.set j v))))
theorem set_list:adH X acb:=by
 intro pins s l H o i v y z u Q I w x m h;obtain⟨p,xs,k,j,rfl,rfl,c,hj,q⟩:=h;cases w;obtain⟨t,rfl⟩:=x;obtain⟨bK,n,r,b,hz⟩:=I.lst c;obtain⟨a,B,f,d⟩:=Gq hj;have hl:=r.length;have A:=Gi;have I':Inv X pins l (upd H p (.lst (xs.set j v))) { s with heap:=s.heap.update p (Obj.mapSeq (·.setIfInBounds j u)) }:=
  I.aat c b (Lp bK n j u) (r.set m j) (by rw[eT];exact hz) s.toks
 by_cases g:0<=k;have hk:k.toNat=j:=by rw[Xz g d]at a;exact aH a
 exact PySem.W.ki_setAt b g #v[] (by rw[aX,<- hl];exact d) (by rw[hk];exact⟨_,I',q⟩);have hk:(k+(bK.toArray.size:Int)).toNat=j:=by rw[UC #v[] f]at a;rw[aX,<- hl];exact aH a
 exact PySem.W.ki_setBack b #v[] (by rw[aX,<- hl];exact f) #v[] (by rw[hk];exact⟨_,I',q⟩)
theorem Fx(lo hi:Option Int)(n:Nat):(oU lo hi none n).1=((HT.nX n 0 lo:Nat):Int)/\(oU lo hi none n).2.1=((HT.nX n n hi:Nat):Int)/\(oU lo hi none n).2.2=1:=by
 refine⟨?_,?_,rfl⟩;cases lo with
|none=>simp[oU,HT.nX]
|some i=>simp only[oU,HT.nX,QB,show(1:Int) > 0 by decide,if_true];by_cases h:i<0;simp only[h,if_true]<;>lia;simp only[h,if_false]<;>lia
 cases hi with
|none=>simp[oU,HT.nX]
|some i=>simp only[oU,HT.nX,QB,show(1:Int) > 0 by decide,if_true];by_cases h:i<0;simp only[h,if_true]<;>lia;simp only[h,if_false]<;>lia
theorem C1(bK:a5 ak)(lo hi:Option Int):slicePick bK.toArray lo hi none=((bK.drop (HT.nX bK.length 0 lo)).take (HT.nX bK.length bK.length hi-HT.nX bK.length 0 lo)).toArray:=by obtain⟨c,b,a⟩:=Fx lo hi bK.toArray.size;unfold slicePick;rw[c,b,a];simp only[sliceRange_one,pick_run,aX]<;>rfl
inductive aeX (K:au) (x:V) (lo:Option Int) (hi:Option Int) (H:Hp) (Q:VK):Prop
|mk (a xs:_) (_:x=.ref a) (_:lY K H a xs) (_:∀p,H p=none->Q (.ref p) (upd H p (.lst (PV xs lo hi))))
theorem MI:SlR X (aeX X.K):=by intro pins s k H x v m l lo hi sl Q I d i pl f h;obtain⟨a,xs,rfl,g,q⟩:=h;cases d;obtain⟨bK,r,c,hz⟩:=I.list g;have j:=r.length;refine⟨"list",_,slot_list_getitem.lookup,c.isList.typeIs,?_⟩;refine wpAny_getItem_list_slice c.isList i pl f .none #v[0] ?_ (by rw[aX]<;>lia);rw[C1,<- j];refine⟨.ref s.heap.objs.size,_,I.laid (t':=s.toks) (o:=.lst (PV xs lo hi)) (λb n q=>Heap.get?_push_of_some _ q) (aS _) ?_,rfl,q _ (I.gP.fresh (aS _))⟩;exact⟨bu (JE xs lo hi) hz,_,0,(r.drop (HT.nX xs.length 0 lo)).take (HT.nX xs.length xs.length hi-HT.nX xs.length 0 lo),Heap.get?_push_size _ rfl⟩
theorem GL:lK X (.builtin "len") (λxs H Q=>∃p a,xs=[.ref p]/\(lY X.K H p a\/zy X.K H p a)/\Q (.int a.length) H):=by intro pins s g H xs us Q I r h;obtain⟨p,a,rfl,b,q⟩:=h;obtain⟨u,rfl,f⟩:=vals1 r;cases f;have i:=Gi;rcases b with b|b;obtain⟨bK,c,pl,hz⟩:=I.list b;have d:=c.length;exact Calls.call_len_list pl.isList (by simp only[aX]<;>lia) ⟨.int a.length,H,I.tok _,⟨s.toks+1,by rw[aX,d]⟩,q⟩;obtain⟨bK,c,pl,hz⟩:=I.tuple b;have d:=c.length;exact len_tuple pl (by simp only[aX]<;>lia) ⟨.int a.length,H,I.tok _,⟨s.toks+1,by rw[aX,d]⟩,q⟩
theorem xj:lK X (.type "list") (λxs H Q=>∃p a,xs=[.ref p]/\(lY X.K H p a\/zy X.K H p a)/\∀l,H l=none->Q (.ref l) (upd H l (.lst a))):=by
 intro pins s k H xs us Q I r h;obtain⟨p,a,rfl,f,q⟩:=h;obtain⟨u,rfl,m⟩:=vals1 r;cases m;have fin:∀(bK:a5 ak),Vals a bK->a.length<=aQ->∀(h':cY)(d:Nat),(∀b j,s.heap.get? b=some j->h'.get? b=some j) →
   h'.get? s.heap.objs.size=some { cls:=.type "list",dict:=none,data:=.seq bK.toArray d,slots:=#[] }->EP X pins k Q (.ref s.heap.objs.size) { s with heap:=h' }:=λbK c hz h' d kp e=>⟨.ref s.heap.objs.size,_,I.laid (t':=s.toks) kp (aS _) (show ie X.prog X.w _ h' _ (.lst a) from⟨hz,bK,d,c,e⟩),rfl,q _ (I.gP.fresh (aS _))⟩
 rcases f with f|f;obtain⟨bK,c,pl,hz⟩:=I.list f;have t:=c.length;obtain⟨o,g,i,n,hd⟩:=pl.isList;exact call_list_seq p (.inl rfl) g i hd (λh' d kp e=>fin bK c hz h' d kp e) (by simp only[aX]<;>lia);obtain⟨bK,c,pl,hz⟩:=I.tuple f;have t:=c.length;obtain⟨o,g,i,n,hd⟩:=pl;exact call_list_seq p (.inr rfl) g i hd (λh' d kp e=>fin bK c hz h' d kp e) (by simp only[aX]<;>lia)
theorem Dz:lK X (.type "tuple") (λxs H Q=>∃p a,xs=[.ref p]/\((lY X.K H p a/\∀l,H l=none->Q (.ref l) (upd H l (.tup a)))\/(zy X.K H p a/\Q (.ref p) H))):=by
 intro pins s f H xs us Q I r h;obtain⟨p,a,rfl,h⟩:=h;obtain⟨u,rfl,i⟩:=vals1 r;cases i;rcases h with⟨d,q⟩|⟨d,q⟩;obtain⟨bK,c,pl,hz⟩:=I.list d;have k:=c.length;refine call_tuple_list pl.isList (λh' kp=>?_) (by simp only[aX]<;>lia);have g:Inv X pins f H { s with heap:=h' }:=I.kept (t':=s.toks) kp;have j:Inv X pins f (upd H h'.objs.size (.tup a)) { s with heap:=h'.push { cls:=.type "tuple",data:=.seq bK.toArray } }:=
  g.laid (t':=s.toks) (λb o e=>Heap.get?_push_of_some _ e) (aS _) (show ie X.prog X.w _ _ _ (.tup a) from⟨hz,bK,c,IsTup.new _ _⟩)
 exact⟨.ref h'.objs.size,_,j,rfl,q _ (g.gP.fresh (aS _))⟩;obtain⟨bK,c,pl,hz⟩:=I.tuple d;exact call_tuple_same pl ⟨.ref p,H,I,rfl,q⟩
def tyV(K:au)(T:String)(x:V)(H:Hp):Prop:=match x with
|.str _=>T = "str"
|.int _=>T = "int"
|.ref p=>(T = "list"/\∃xs,lY K H p xs)\/(T = "tuple"/\∃o,K.lookup p=some o/\o.cls=.type "tuple"/\o.dict=none) ∨
   (T = "dict"/\((∃a,H p=some (.dK a))\/∃a,H p=some (.dT a)))\/(T = "set"/\∃S n,H p=some (.set S n))
|_=>False
theorem Rb{pins:a5 (ao×Obj)}{f:St}{H:Hp}{s:aB}{T:String}{x:V}{v:ak}(I:Inv X pins f H s)(r:RelV x v)(ty:tyV X.K T x H):
  s.TypeIs v T/\∀a,v=.ref a->∃d,s.heap.get? a=some d/\d.dict=none:=by
 cases x with
|str z=>obtain⟨t,rfl⟩:=r;cases(show T = "str" from ty);exact⟨typeIs_str s z t,λ_ e=>nomatch e⟩
|int i=>obtain⟨t,rfl⟩:=r;cases(show T = "int" from ty);exact⟨typeIs_int s i t,λ_ e=>nomatch e⟩
|ref p=>
  cases r;rcases ty with⟨rfl,xs,h⟩|⟨rfl,o,hk,j,hd⟩|⟨rfl,hk⟩|⟨rfl,S,n,hk⟩;obtain⟨bK,_,pl,_⟩:=I.list h;refine⟨pl.isList.typeIs,λa e=>?_⟩;cases e;obtain⟨o,n,e,c,hd,_⟩:=pl;exact⟨o,e,hd⟩;refine⟨⟨o,I.Hf p o hk,j⟩,λa e=>?_⟩;cases e;exact⟨o,I.Hf _ o hk,hd⟩;have z:∃o,s.heap.get? p=some o/\o.ExactDict:=by rcases hk with⟨g,hk⟩|⟨g,hk⟩;obtain⟨_,_,_,_,o,_,_,e,ex,_⟩:=I.gP p _ hk;exact⟨o,e,ex⟩;obtain⟨_,_,_,_,o,_,_,e,ex,_⟩:=I.gP p _ hk;exact⟨o,e,ex⟩
  obtain⟨o,e,ex⟩:=z;refine⟨⟨o,e,ex.1⟩,λa b=>?_⟩;cases b;exact⟨o,e,ex.2.1⟩;obtain⟨o,_,_,_,e,ex,_⟩:=I.gP p _ hk;refine⟨⟨o,e,ex.1⟩,λa b=>?_⟩;cases b;exact⟨o,e,ex.2.1⟩
|_=>exact False.elim ty
def aeN(K:au)(T:String)(r:V->a5 V->Hp->VK->Prop)(to:TE):TE:=λb H Q=>to b H λx a=>tyV K T x a/\r x [] a Q
def tBM(K:au)(T:String)(r:V->a5 V->Hp->VK->Prop)(to:TE)(t:TA):TE:=λa H Q=>to a H λx b=>tyV K T x b/\t a b λxs c=>r x xs c Q
variable{o e:bL}{es:a5 bL}{to:TE}{t:TA}{name:Str}{apos cpos:Pos}{T id:String}{r:V->a5 V->Hp->VK->Prop}
theorem Z1(g:PlainAttrs T)(slot:Slot T name id)(i:typeOf (.builtin id)=pure (.type "method_descriptor"))(k:MtR X id r)(j:PE X o to)(m:gJ o name X.env (cg o X.env)=cg o X.env:=by rfl)(l:(apos.endLine == cpos.line)=true:=by rfl):PE X (.Call (.Attribute o name apos) [] [] cpos) (aeN X.K T r to):=by intro pins s a H Q I h;refine wpAny_Call_method0_late m l (iW (j pins s a H _ I h) λv d ⟨x,q,c,b,ty,f⟩=>?_);obtain⟨p,n⟩:=Rb c b ty;exact⟨T,id,g,slot,i,p,n,Calls.callWith_builtin rfl (PySem.evalArgs_none (k pins d a q x [] v [] Q c b .nil f))⟩
theorem XZ(l:PlainAttrs T)(slot:Slot T name id)(m:typeOf (.builtin id)=pure (.type "method_descriptor"))(u:MtR X id r)(q:PE X o to)(A:PA X (e::es) t)(z:gJ o name X.env (cg o X.env)=cg o X.env:=by rfl)(y:((ef cpos (aG (e::es) X.env)).all (λx=>!x.1)&&(yU cpos (oV [] X.env)).all (λx=>x.1.isSome)
   && decide ((e::es).length+([]:a5 DV).length+(if([]:a5 DV).isEmpty then 0 else 1)<30))=true:=by rfl)(w:(apos.endLine == cpos.line)=true:=by rfl)(n:aG (e::es) X.env=(false,cg e X.env)::aG es X.env:=by rfl)(p:(ef cpos (aG es X.env)).any (·.1)=false:=by rfl):
  PE X (.Call (.Attribute o name apos) (e::es) [] cpos) (tBM X.K T r to t):=by intro pins s a H Q I h;refine wpAny_Call_method_late z y w rfl (iW (q pins s a H _ I h) λv g ⟨x,F,d,b,ty,k⟩=>?_);obtain⟨C,B⟩:=Rb d b ty;refine⟨T,id,l,slot,m,C,B,?_⟩;have c:=A cpos pins g a F _ d k;rw[n]at c⊢;refine Calls.callWith_builtin (by show(false||(ef cpos (aG es X.env)).any (·.1))=false;rw[p]<;>rfl) (Calls.evalArgs_plain ?_);exact iW c λus f ⟨vs,E,D,i,j⟩=>u pins f a E x vs v us Q D b i j
end
def MtM(X:Cx)(id:String)(r:V->a5 V->Hp->VK->Prop):Prop:=
 ∀(pins:a5 (ao×Obj))(s:aB)(a:St)(H:Hp)(x:V)(xs:a5 V)(v:ak)(us:a5 ak)(Q:VK),Inv X pins a H s->RelV x v->Vals xs us->r x xs H Q →
  a7 (bb X.prog X.w) X.A (call (.builtin id) (v::us)) (EP X pins a Q) X.xe s
theorem Vals.one:∀{x:V}{us:a5 ak},Vals [x] us->∃u,us=[u]/\RelV x u
|_,_,.cons r .nil=>⟨_,rfl,r⟩
theorem Vals.zero:∀{us:a5 ak},Vals [] us->us=[]
|_,.nil=>rfl
theorem Vals.dropLast{xs:a5 V}{us:a5 ak}(h:Vals xs us):Vals xs.dropLast us.dropLast:=by
 induction h with
|nil=>exact .nil
|cons r t a=>
  cases t with
 |nil=>exact .nil
 |cons q t'=>exact .cons r a
theorem Vals.eraseIdx:∀{xs:a5 V}{us:a5 ak}(i:Nat),Vals xs us->Vals (xs.eraseIdx i) (us.eraseIdx i)
|_,_,_,.nil=>.nil
|_,_,0,.cons _ t=>t
|_,_,i+1,.cons r t=>.cons r (Vals.eraseIdx i t)
theorem LJ{α:Type}(l:a5 α):l.eraseIdx (l.length-1)=l.dropLast:=by
 induction l with
|nil=>rfl
|cons a r c=>
  cases r with
 |nil=>rfl
 |cons b r=>
   have e:(a::b::r).length-1=((b::r).length-1)+1:=by have f:(a::b::r).length=r.length+2:=rfl;have d:(b::r).length=r.length+1:=rfl;lia
   rw[e,List.eraseIdx_cons_succ,c]
   all_goals rfl
theorem Eo{α:Type}:∀(l:a5 α)(i:Nat),(l.eraseIdx i).length<=l.length
|[],_=>aS _
|_::_,0=>jy _
|_::r,i+1=>Xm (Eo r i)
section
variable{X:Cx}{pins:a5 (ao×Obj)}{σ:St}{H:Hp}{s:aB}{l b:ao}{xs ys zs:a5 V}
theorem Inv.SH{bK its':a5 ak}{n:Nat}{f:Array ak->Array ak}{t':Nat}(I:Inv X pins σ H s)(g:H l=some (.lst xs))(e:s.heap.get? l=some { cls:=.type "list",data:=.seq bK.toArray n })(c:f bK.toArray=its'.toArray)(a:Vals ys its')(hz:ys.length<=aQ):
  Inv X pins σ (upd H l (.lst ys)) { s with heap:=s.heap.update l (Obj.mapSeq f),toks:=t' }:=by have q:=PySem.IsL.update e f;rw[c]at q;refine I.write (x:=l) (e:=l) (by rw[g];exact trivial) (.inl rfl) (λh u d b=>(Heap.get?_update_other s.heap (Obj.mapSeq f) (Ne.symm d)).trans b) ⟨_,q⟩ ?_;exact⟨hz,its',_,a,q⟩
theorem Inv.ae9{bK:a5 ak}{t':Nat}(I:Inv X pins σ H s)(a:Vals ys bK)(hz:ys.length<=aQ):
  Inv X pins σ (upd H s.heap.objs.size (.lst ys)) { s with heap:=s.heap.push { cls:=.type "list",data:=.seq bK.toArray },toks:=t' }:=
 I.laid (λ_ _ q=>Heap.get?_push_of_some _ q) (aS _) ⟨hz,bK,0,a,Heap.get?_push_size _ rfl⟩
theorem Inv.fresh(I:Inv X pins σ H s):H s.heap.objs.size=none:=I.gP.fresh (aS _)
theorem Inv.Je(I:Inv X pins σ H s)(a:H l=some (.lst xs)):xs.length<=aQ/\∃(bK:a5 ak)(n:Nat),Vals xs bK/\xs.length=bK.length/\s.heap.get? l=some { cls:=.type "list",data:=.seq bK.toArray n }:=by obtain⟨z,bK,n,r,e⟩:=I.gP l _ a;exact⟨z,bK,n,r,r.length,e⟩
theorem IM{n:Nat}(h:n<=aQ):Builtin.List.listTooLong n=false:=by unfold Builtin.List.listTooLong;exact decide_eq_false #v[]
end
section
variable{X:Cx}
inductive ML (x:V) (vs:List V) (H:Hp) (Q:VK):Prop
|mk (l xs y:_) (_:x=.ref l) (_:vs=[y]) (_:H l=some (.lst xs)) (_:xs.length<aQ) (_:Q .jw (upd H l (.lst (xs++[y]))))
theorem j9:MtM X "list.append" ML:=by intro pins s f H x vs v us Q I b c h;obtain⟨l,xs,y,rfl,rfl,a,hz,q⟩:=h;cases b;obtain⟨u,rfl,d⟩:=c.one;obtain⟨z,bK,n,r,hl,e⟩:=I.Je a;refine CS F.slot_list_append ⟨_,e,rfl⟩ F.entry_list_append (F.args_list_append_2 _ _) (PySem.list_append l bK.toArray n u (by rw[aX];lia)) ⟨e,?_⟩;refine⟨.jw,_,I.SH (its':=bK++[u]) a e #v[0] (r.append (.cons d .nil)) ?_,rfl,q⟩;rw[aP,List.length_singleton];lia
inductive MK (x:V) (vs:List V) (H:Hp) (Q:VK):Prop
|mk (l b xs zs:_) (_:x=.ref l) (_:vs=[.ref b]) (_:H l=some (.lst xs)) (_:H b=some (.lst zs)) (_:xs.length+zs.length<=aQ) (_:Q .jw (upd H l (.lst (xs++zs))))
theorem tX:MtM X "list.extend" MK:=by
 intro pins s o H x vs v us Q I d f h;obtain⟨l,b,xs,p,rfl,rfl,c,k,hz,q⟩:=h;cases d;obtain⟨u,rfl,g⟩:=f.one;cases g;obtain⟨z,bK,n,r,hl,e⟩:=I.Je c;obtain⟨t,a,n2,i,w,m⟩:=I.Je k;have hsz:bK.toArray.size+a.toArray.size<=aQ:=by rw[aX,aX];lia
 have j:¬(!bK.toArray.isEmpty&&Builtin.List.listTooLong (bK.toArray.size+a.toArray.size))=true:=by rw[IM hsz,pC];exact bR
 refine CS F.slot_list_extend ⟨_,e,rfl⟩ F.entry_list_extend (F.args_list_extend_2 _ _)
  (AutoSeq1.list_extend_list_list_0 l bK.toArray n b a.toArray n2 j (by rw[aX];lia) #v[]) ⟨e,m,?_⟩
 refine⟨.jw,_,I.SH (its':=bK++a) c e #v[0] (r.append i) ?_,rfl,q⟩;rw[aP];lia
inductive acd (x:V) (vs:List V) (H:Hp) (Q:VK):Prop
|mk (l xs y:_) (_:x=.ref l) (_:vs=[]) (_:H l=some (.lst xs)) (_:xs[xs.length-1]? = some y) (_:Q y (upd H l (.lst xs.dropLast)))
theorem aam:MtM X "list.pop" acd:=by
 intro pins s j H x vs v us Q I b c h;obtain⟨l,xs,y,rfl,rfl,a,f,q⟩:=h;cases b;have g:=c.zero;subst g;obtain⟨z,bK,n,r,hl,e⟩:=I.Je a;obtain⟨u,i,d⟩:=r.get f;have hy':bK.toArray[bK.toArray.size-1]? = some u:=by show bK.toArray[bK.length-1]? = some u;rw[<- eG,<- hl];exact i
 refine CS F.slot_list_pop ⟨_,e,rfl⟩ F.entry_list_pop (F.args_list_pop_1 _) (MeetsSeq.list_pop_last l bK.toArray n u hy' (by rw[aX];lia)) ⟨e,?_⟩;refine⟨y,_,I.SH (its':=bK.dropLast) a e ?_ r.dropLast ?_,d,q⟩;show bK.toArray.eraseIdxIfInBounds (bK.toArray.size-1)=bK.dropLast.toArray;rw[aX,Ar,LJ];rw[dM];lia
inductive Rv (x:V) (vs:List V) (H:Hp) (Q:VK):Prop
|mk (l xs i k y:_) (_:x=.ref l) (_:vs=[.int i]) (_:H l=some (.lst xs)) (_:-(2 ^ 63)<=i) (_:i<2 ^ 63) (_:seqIndex? i xs.length=some k) (_:xs[k]? = some y) (_:Q y (upd H l (.lst (xs.eraseIdx k))))
theorem Sz:MtM X "list.pop" Rv:=by
 intro pins s p H x vs v us Q I b d h;obtain⟨l,xs,i,k,y,rfl,rfl,a,o,m,hk,g,q⟩:=h;cases b;obtain⟨u,rfl,f⟩:=d.one;obtain⟨t,rfl⟩:=f;obtain⟨z,bK,n,r,hl,e⟩:=I.Je a;obtain⟨w,j,c⟩:=r.get g;refine CS F.slot_list_pop ⟨_,e,rfl⟩ F.entry_list_pop (F.args_list_pop_2 _ _)
  (MeetsSeq.list_pop_at l bK.toArray n i t k w (fitsIndex_both o m) (by rw[aX,<- hl];exact hk) (by rw[<- eG];exact j) (by rw[aX];lia)) ⟨e,?_⟩
 refine⟨y,_,I.SH (its':=bK.eraseIdx k) a e ?_ (r.eraseIdx k) ?_,c,q⟩;show bK.toArray.eraseIdxIfInBounds k=(bK.eraseIdx k).toArray;rw[Ar];have:=Eo xs k;lia
inductive acn (x:V) (y:V) (H:Hp) (Q:VK):Prop
|mk (l b xs zs:_) (_:x=.ref l) (_:y=.ref b) (_:H l=some (.lst xs)) (_:H b=some (.lst zs)) (_:xs.length+zs.length<=aQ) (_:∀p,H p=none->Q (.ref p) (upd H p (.lst (xs++zs))))
theorem aaa:rN X (uI .Add) acn:=by
 intro pins s m H x y v u Q I d c h;obtain⟨l,b,xs,o,rfl,rfl,g,i,hz,q⟩:=h;cases d;cases c;obtain⟨z,bK,n,r,hl,e⟩:=I.Je g;obtain⟨p,a,n2,f,t,k⟩:=I.Je i;refine PySem.P.add_list e k ?_ (by rw[aX,aX];lia);have j:bK.toArray++a.toArray=(bK++a).toArray:=#v[0]
 rw[j];exact⟨.ref _,_,I.ae9 (t':=s.toks) (r.append f) (by rw[aP];lia),rfl,q _ I.fresh⟩
end
section
variable{prog:bC}{w:cu}{A:bT}{E:ak->aB->Prop}{s:aB}
end
section
variable{X:Cx}
end
theorem Vals.ints:∀{ns:a5 Int}{us:a5 ak},Vals (ns.map V.int) us->oQ us ns
|[],us,h=>by rw[iU]at h;cases h;exact IntsAre.nil
|n::ns,us,h=>by
  rw[a9]at h;cases h with
 |cons r t=>obtain⟨k,rfl⟩:=r;exact IntsAre.cons n k (Vals.ints t)
theorem wo:∀{us:a5 ak}{ns:a5 Int},oQ us ns->Vals (ns.map V.int) us
|_,_,.nil=>by rw[iU];exact Paired.nil
|_,_,.cons n t h=>by rw[a9];exact Paired.cons (show RelV (V.int n) (Value.int n t) from⟨t,rfl⟩) (wo h)
theorem Vals.FA{a:ao}{us:a5 ak}(r:Vals [V.ref a] us):us=[Value.ref a]:=by
 cases r with
|cons r t=>cases t;cases r;rfl
section
variable{prog:bC}{w:cu}{A:bT}{E:ak->aB->Prop}{s:aB}{l:ao}{bK:a5 ak}{ns:a5 Int}{Q:ak->aB->Prop}
theorem VD(c:A.handled=none)(hl:s.heap.IsList l bK.toArray)(hi:oQ bK ns)(h:∀h' tk t',(∀b o,s.heap.get? b=some o->h'.get? b=some o)->Q (.int ns.sum t') { s with heap:=h',toks:=tk }):a7 (bb prog w) A (call (.builtin "sum") [.ref l]) Q E s:=by
 obtain⟨xs,e⟩:=hi.allInts.items;have a:numsOf (intItems xs).toList=ns:=by rw[<- e];exact hi.numsOf
 rw[Qw]at a;rw[e]at hl;refine PySem.sum_intListG c hl λh' tk t' hk=>?_;have:=h h' tk t' hk;rw[preSum_eq,ic #v[0],a];exact this
theorem Wm(g:A.handled=none)(hl:s.heap.IsList l bK.toArray)(hi:oQ bK ns)(f:0<ns.length)(h:∀h' tk M t',(∀b o,s.heap.get? b=some o->h'.get? b=some o)->M∈ns->(∀a,a∈ns->a<=M)->Q (.int M t') { s with heap:=h',toks:=tk }):a7 (bb prog w) A (call (.builtin "max") [.ref l]) Q E s:=by
 obtain⟨xs,e⟩:=hi.allInts.items;have c:numsOf (intItems xs).toList=ns:=by rw[<- e];exact hi.numsOf
 rw[Qw]at c;subst c;rw[e]at hl;have hsz:0<xs.size:=by simpa using f
 refine PySem.max_intList g hl hsz λv h' tk d hk=>?_;obtain⟨t,rfl⟩:=intItems_at d;obtain⟨m,k⟩:=argBest_gt (numAt xs) (xs.size-1);refine h h' tk _ t hk ?_ λa i=>?_;rw[XC];exact Xl (by rw[ai,cv];lia);obtain⟨j,hj,rfl⟩:=mem_getD i;rw[ai,cv]at hj;rw[<- XC];exact k j #v[]
theorem Wk(g:A.handled=none)(hl:s.heap.IsList l bK.toArray)(hi:oQ bK ns)(f:0<ns.length)(h:∀h' tk M t',(∀b o,s.heap.get? b=some o->h'.get? b=some o)->M∈ns->(∀a,a∈ns->M<=a)->Q (.int M t') { s with heap:=h',toks:=tk }):a7 (bb prog w) A (call (.builtin "min") [.ref l]) Q E s:=by
 obtain⟨xs,e⟩:=hi.allInts.items;have c:numsOf (intItems xs).toList=ns:=by rw[<- e];exact hi.numsOf
 rw[Qw]at c;subst c;rw[e]at hl;have hsz:0<xs.size:=by simpa using f
 refine PySem.min_intList g hl hsz λv h' tk d hk=>?_;obtain⟨t,rfl⟩:=intItems_at d;obtain⟨m,k⟩:=argBest_lt (numAt xs) (xs.size-1);refine h h' tk _ t hk ?_ λa i=>?_;rw[XC];exact Xl (by rw[ai,cv];lia);obtain⟨j,hj,rfl⟩:=mem_getD i;rw[ai,cv]at hj;rw[<- XC];exact k j #v[]
end
section
variable{X:Cx}
inductive aca (K:au) (vs:List V) (H:Hp) (Q:VK):Prop
|mk (a:ao) (ns:List Int) (_:vs=[V.ref a]) (_:lY K H a (ns.map V.int)) (_:Q (.int ns.sum) H)
inductive ach (K:au) (vs:List V) (H:Hp) (Q:VK):Prop
|mk (a:ao) (ns:List Int) (_:vs=[V.ref a]) (_:lY K H a (ns.map V.int)) (_:0<ns.length) (_:∀m,m∈ns->(∀y,y∈ns->y<=m)->Q (.int m) H)
inductive acg (K:au) (vs:List V) (H:Hp) (Q:VK):Prop
|mk (a:ao) (ns:List Int) (_:vs=[V.ref a]) (_:lY K H a (ns.map V.int)) (_:0<ns.length) (_:∀m,m∈ns->(∀y,y∈ns->m<=y)->Q (.int m) H)
theorem aaZ(d:X.calm=true):lK X (.builtin "sum") (aca X.K):=by intro pins s f H vs us Q I r h;obtain⟨a,ns,rfl,c,q⟩:=h;obtain⟨bK,b,hl,_⟩:=I.list c;rw[Vals.FA r];exact VD (I.ok.hd d) hl.isList b.ints λh' tk t' hk=>⟨.int _,H,I.kept hk,⟨_,rfl⟩,q⟩
theorem LY(f:X.calm=true):lK X (.builtin "max") (ach X.K):=by intro pins s j H vs us Q I r h;obtain⟨a,ns,rfl,c,d,q⟩:=h;obtain⟨bK,b,hl,_⟩:=I.list c;rw[Vals.FA r];exact Wm (I.ok.hd f) hl.isList b.ints d λh' tk m t' hk i g=>⟨.int _,H,I.kept hk,⟨_,rfl⟩,q m i g⟩
theorem TC(f:X.calm=true):lK X (.builtin "min") (acg X.K):=by intro pins s j H vs us Q I r h;obtain⟨a,ns,rfl,c,d,q⟩:=h;obtain⟨bK,b,hl,_⟩:=I.list c;rw[Vals.FA r];exact Wk (I.ok.hd f) hl.isList b.ints d λh' tk m t' hk i g=>⟨.int _,H,I.kept hk,⟨_,rfl⟩,q m i g⟩
end
section
variable{X:Cx}
end
section
variable{X:Cx}
end
section
variable{X:Cx}
end
mutual
inductive Dp(K:au) (H:Hp):V->Hd->Prop
|jw:Dp K H .jw .none
|bl (b:Bool):Dp K H (.bl b) (.bool b)
|int(i:Int):Dp K H (.int i) (.int i)
|str (x:Str):Dp K H (.str x) (.str x)
|lst {a:ao} {xs:List V} {ds:List Hd}:lY K H a xs->CP K H xs ds->Dp K H (.ref a) (.list ds)
|tup {a:ao} {xs:List V} {ds:List Hd}:zy K H a xs->CP K H xs ds->Dp K H (.ref a) (.tuple ds)
inductive CP(K:au) (H:Hp):List V->List Hd->Prop
|nil:CP K H [] []
|cons {v:V} {vs:List V} {d:Hd} {ds:List Hd}:Dp K H v d->CP K H vs ds->CP K H (v::vs) (d::ds)
end
section
variable{X:Cx}{pins:a5 (ao×Obj)}{σ:St}{H:Hp}{s:aB}
mutual
theorem Dp.reads(I:Inv X pins σ H s):∀(d:Hd)(v:V)(u:ak),Dp X.K H v d->RelV v u->∃l,Reads s.heap u d l
|.none,_,_,h,r=>by cases h;cases r;exact⟨_,Reads.none⟩
|.bool b,_,_,h,r=>by cases h;cases r;exact⟨_,Reads.bool b⟩
|.int i,_,_,h,r=>by cases h;obtain⟨t,rfl⟩:=r;exact⟨_,Reads.int i t⟩
|.str x,_,_,h,r=>by cases h;obtain⟨t,rfl⟩:=r;exact⟨_,Reads.str x t⟩
|.list ds,_,_,h,r=>by
  cases h with
 |lst c k=>cases r;obtain⟨bK,a,⟨o,n,g,j,_,hd⟩,_⟩:=I.list c;obtain⟨l,f⟩:=Dp.readsAll I ds _ bK k a;exact⟨_,Reads.list g j hd f⟩
|.tuple ds,_,_,h,r=>by
  cases h with
 |tup c k=>cases r;obtain⟨bK,a,⟨o,g,j,n,hd⟩,_⟩:=I.tuple c;obtain⟨l,f⟩:=Dp.readsAll I ds _ bK k a;exact⟨_,Reads.tuple g j hd f⟩
|.dict _,_,_,h,_=>by cases h
theorem Dp.readsAll(I:Inv X pins σ H s):∀(ds:a5 Hd)(vs:a5 V)(us:a5 ak),CP X.K H vs ds->Vals vs us->∃a,ReadsAll s.heap us ds a
|[],_,_,h,r=>by cases h;cases r;exact⟨_,ReadsAll.nil⟩
|d::ds,_,_,h,r=>by
  cases h with
 |cons j i=>
   cases r with
  |cons c b=>obtain⟨a,g⟩:=Dp.reads I d _ _ j c;obtain⟨bs,f⟩:=Dp.readsAll I ds _ _ i b;exact⟨_,ReadsAll.cons g f⟩
end
end
section
variable{X:Cx}
inductive acm (K:au) (x:V) (y:V) (H:Hp) (Q:VK):Prop
|mk (d e:_) (_:Dp K H x d) (_:Dp K H y e) (_:SeqAt.shaped d=true) (_:SeqAt.shaped e=true) (_:Q (.bl (PyData.eqv d e)) H)
inductive ace (K:au) (x:V) (y:V) (H:Hp) (Q:VK):Prop
|mk (d e:_) (_:Dp K H x d) (_:Dp K H y e) (_:SeqAt.shaped d=true) (_:SeqAt.shaped e=true) (_:Q (.bl (!PyData.eqv d e)) H)
theorem R6(i:X.A.units+64<pU):rN X (eE .Eq) (acm X.K):=by intro pins s k H x y v u Q I c b h;obtain⟨d,e,hd,j,sd,a,q⟩:=h;obtain⟨l,g⟩:=Dp.reads I d x v hd c;obtain⟨bs,f⟩:=Dp.reads I e y u j b;exact SeqAt.compareEq_shaped g f sd a i ⟨.bl _,H,I,rfl,q⟩
theorem R4(i:X.A.units+64<pU):rN X (eE .NotEq) (ace X.K):=by intro pins s k H x y v u Q I c b h;obtain⟨d,e,hd,j,sd,a,q⟩:=h;obtain⟨l,g⟩:=Dp.reads I d x v hd c;obtain⟨bs,f⟩:=Dp.reads I e y u j b;exact SeqAt.compareNe_shaped g f sd a i ⟨.bl _,H,I,rfl,q⟩
end
abbrev Ul(h:cY)(c:ao)(v:Option ak):Prop:=h.IsCell c v
def aeW(a sc:lV):lV:=
 { a with names:=a.names.map λ(n,k)=>if(k == .free&&sc.kind == .function&&sc.names.lookup n == some .cell) then(n,.cell) else(n,k) }
def f6(cells:a5 (Str×ao)):a5 (Str×jd)->a5 (Str×ao)->a5 (Str×ao)
|[],acc=>acc
|(n,k)::r,acc=>if k == .free then f6 cells r ((n,(cells.lookup n).getD 0)::acc) else f6 cells r acc
theorem xi(env:Env)(f:Str×jd->a5 (Str×ao)->Sem (ForInStep (a5 (Str×ao))))(d:∀n k c,f (n,k) c=if k == .free then(do let a <- cellOf env n;pure (.yield ((n,a)::c))) else pure (.yield c)):
  ∀(names:a5 (Str×jd))(acc:a5 (Str×ao)),(∀y∈names,y.2=.free->∃c,env.cells.lookup y.1=some c)->forIn names acc f=pure (f6 env.cells names acc)
|[],acc,_=>by rw[vf];rfl
|(n,k)::r,acc,h=>by
  rw[tL,d];have b:=λacc=>xi env f d r acc λy i=>h y (ah _ i);unfold f6;by_cases hk:(k == NameKind.free)=true;rw[if_pos hk,if_pos hk];obtain⟨c,g⟩:=h (n,k) aF #v[hk];have e:cellOf env n=pure c:=by unfold cellOf;rw[g]
  rw[e];have j:(env.cells.lookup n).getD 0=c:=by rw[g];rfl
  rw[j];exact b _;rw[if_neg hk,if_neg hk];exact b _
theorem L3{a:lV}{env:Env}(h:∀y∈a.names,y.2=.free->∃c,env.cells.lookup y.1=some c):closureFor a env=pure (f6 env.cells a.names []):=by simp only[closureFor];rw[xi env _ (λn k c=>rfl) a.names [] h];rfl
theorem mem_lookup{α:Type}:∀{l:a5 (Str×α)}{n:Str}{c:α},(n,c)∈l->∃b,l.lookup n=some b
|(k,v)::r,n,c,h=>by
  rw[f9];cases a:n == k with
 |true=>exact⟨_,rfl⟩
 |false=>rcases aq.mp h with e|h;cases e;simp at a;exact mem_lookup h
theorem pz{cells:a5 (Str×ao)}:∀{names:a5 (Str×jd)}{acc:a5 (Str×ao)}{n:Str}{c:ao},(n,c)∈f6 cells names acc->(n,c)∈acc\/((n,.free)∈names/\c=(cells.lookup n).getD 0)
|[],_,_,_,h=>.inl h
|(m,k)::r,acc,n,c,h=>by
  unfold f6 at h;split at h;rename_i hk;have hk:k=.free:=by simpa using hk
  rcases pz h with h|⟨b,a⟩;rcases aq.mp h with e|h;cases e;exact .inr ⟨hk▸aF,rfl⟩;exact .inl h;exact .inr ⟨ah _ b,a⟩;rcases pz h with h|⟨b,a⟩;exact .inl h;exact .inr ⟨ah _ b,a⟩
theorem tm{cells:a5 (Str×ao)}:∀{names:a5 (Str×jd)}{acc:a5 (Str×ao)}{p:Str×ao},p∈acc->p∈f6 cells names acc
|[],_,_,h=>h
|(m,k)::r,acc,p,h=>by unfold f6;split;exact tm (ah _ h);exact tm h
theorem tj{cells:a5 (Str×ao)}:∀{names:a5 (Str×jd)}{acc:a5 (Str×ao)}{n:Str},(n,.free)∈names->(n,(cells.lookup n).getD 0)∈f6 cells names acc
|(m,k)::r,acc,n,h=>by unfold f6;rcases aq.mp h with e|h;cases e;exact tm aF;split;exact tj h;exact tj h
theorem qw:∀{names:a5 (Str×jd)}{h:cY}{acc:a5 (Str×ao)}{x:Str}{c:ao},(x,c)∈eF h.objs.size names acc →
  (x,c)∈acc\/((x,.cell)∈names/\h.objs.size<=c/\Ul (qH h names) c none)
|[],_,_,_,_,h=>.inl h
|(n,k)::r,h,acc,x,c,a=>by
  unfold eF at a;unfold qH;split at a;rename_i hk;rw[if_pos hk];have hk:k=.cell:=by simpa using hk
  rw[<- Heap.size_push h { cls:=.type "cell",data:=.cell none }]at a;rcases qw a with a|⟨f,b,d⟩;rcases aq.mp a with e|a;cases e;exact .inr ⟨hk▸aF,aS _,_,wd r _ _ _ (Heap.get?_push_size _ rfl),rfl⟩;exact .inl a;rw[Heap.size_push]at b;exact .inr ⟨ah _ f,qF b,d⟩;rename_i hk;rw[if_neg hk];rcases qw a with a|⟨f,b,d⟩;exact .inl a;exact .inr ⟨ah _ f,b,d⟩
theorem uc:∀{names:a5 (Str×jd)}{n:Nat}{acc:a5 (Str×ao)}{p:Str×ao},p∈acc->p∈eF n names acc
|[],_,_,_,h=>h
|(m,k)::r,n,acc,p,h=>by unfold eF;split;exact uc (ah _ h);exact uc h
theorem yG:∀{names:a5 (Str×jd)}{n:Nat}{acc:a5 (Str×ao)}{x:Str},(x,.cell)∈names->∃c,(x,c)∈eF n names acc
|(m,k)::r,n,acc,x,h=>by unfold eF;rcases aq.mp h with e|h;cases e;exact⟨n,uc aF⟩;split;exact yG h;exact yG h
theorem yF:∀{names:a5 (Str×jd)}{h:cY}{acc:a5 (Str×ao)}{x y:Str}{c:ao},(∀p∈acc,p.2<h.objs.size)->(∀x y c,(x,c)∈acc->(y,c)∈acc->x=y) →
  (x,c)∈eF h.objs.size names acc->(y,c)∈eF h.objs.size names acc->x=y
|[],_,_,_,_,_,_,hi,f,d=>hi _ _ _ f d
|(n,k)::r,h,acc,x,y,c,hl,hi,f,d=>by unfold eF at f d;split at f;rename_i hk;rw[if_pos hk]at d;rw[<- Heap.size_push h { cls:=.type "cell",data:=.cell none }]at f d;refine yF (h:=h.push _) (λp g=>?_) (λx y c a b=>?_) f d;rw[Heap.size_push];rcases aq.mp g with rfl|g;exact rQ _;exact jY (hl p g);rcases aq.mp a with e|a<;>rcases aq.mp b with i|b;cases e;cases i;rfl;cases e;exact absurd (hl _ b) (eQ _);cases i;exact absurd (hl _ a) (eQ _);exact hi _ _ _ a b;rename_i hk;rw[if_neg hk]at d;exact yF hl hi f d
theorem IP{M:XF}{A:bT}{E:ak->aB->Prop}{s:aB}{a:lV}{f:ao}{b:a5 (Str×ao)}{d:Str}{g:Option ao}{code:ak}{j:Env}{i:ao}{Q:Env->aB->Prop}(h:Q (newEnv a s.heap.objs.size f (eF (s.heap.objs.size+1) a.names b) d g code (some j) i)
   { s with heap:=qH (s.heap.push { cls:=.type "dict",data:=.dict #[] }) a.names }):
  a7 M A (newFunctionEnv a f b [] d g code (some j) i) Q E s:=by simp only[newFunctionEnv,N2,if_true];refine aj (wpAny_alloc ?_);refine aj (wpAny_layCells _ (λn k c=>rfl) a.names b _ _ ?_);rw[show({ s with heap:=s.heap.push { cls:=.type "dict",data:=.dict #[] } }:aB).heap.objs.size=s.heap.objs.size+1 from Heap.size_push ..];rw[vf];exact aj (aM (aM h))
theorem sO{sc:lV}:∀{names:a5 (Str×jd)}{x:Str}{k:jd},
  (names.map λ(n,k)=>if(k == NameKind.free&&sc.kind == .function&&sc.names.lookup n == some .cell) then(n,NameKind.cell) else(n,k)).lookup x=some k →
  ∃d,names.lookup x=some d/\(k=d\/(d=.free/\k=.cell))
|[],_,_,h=>by simp at h
|(n,c)::r,x,k,h=>by
  have f:=@sO sc r x k;have h':ki x ((if(c == NameKind.free&&sc.kind == .function&&sc.names.lookup n == some .cell)=true then(n,NameKind.cell) else(n,c))::(r.map _))=some k:=h;cases b:x == n with
 |true=>simp only[f9,b];by_cases a:(c == NameKind.free&&sc.kind == .function&&sc.names.lookup n == some .cell)=true;rw[if_pos a]at h';simp only[f9,b]at h';cases h';simp only[aZ,beq_iff_eq]at a;exact⟨c,rfl,.inr ⟨a.1.1,rfl⟩⟩;rw[if_neg a]at h';simp only[f9,b]at h';cases h';exact⟨_,rfl,.inl rfl⟩
 |false=>simp only[f9,b];by_cases a:(c == NameKind.free&&sc.kind == .function&&sc.names.lookup n == some .cell)=true;rw[if_pos a]at h';simp only[f9,b]at h';exact f h';rw[if_neg a]at h';simp only[f9,b]at h';exact f h'
structure Fc (N:a5 Str) (sc scope:lV) (own:a5 (Str×Nat)):Prop where
 kind:scope.kind=.function
 uniq:∀y∈scope.names,scope.names.lookup y.1=some y.2
 ix:∀p∈own,N[p.2]? = some p.1
 free:∀y∈scope.names,y.2=.free->sc.names.lookup y.1=some .cell\/sc.names.lookup y.1=some .free
 own:∀y∈scope.names,y.2=.local\/y.2=.cell->y.1∈own.map (·.1)\/y.1∉N
def wipe(a:St):a5 Nat->St
|[]=>a
|v::vs=>(wipe a vs).set v none
theorem rV(a:St):∀vs:a5 Nat,(wipe a vs).length=a.length
|[]=>rfl
|v::vs=>by unfold wipe;rw[eT,rV a vs]
theorem xP{a:St}{i:Nat}{x:V}:∀{vs:a5 Nat},(wipe a vs)[i]? = some (some x)->a[i]? = some (some x)/\i∉vs
|[],h=>⟨h,#v[0]⟩
|v::vs,h=>by unfold wipe at h;by_cases hi:v=i;subst hi;by_cases b:v<(wipe a vs).length;rw[dO b]at h;cases h;rw[fX #v[b]]at h;cases h;rw[b8 hi]at h;obtain⟨d,c⟩:=xP h;exact⟨d,by simp only[aq,not_or];exact⟨λe=>hi e.symm,c⟩⟩
abbrev Cx.Ag(X:Cx)(s:aB)(H:Hp)(a:lV)(c:Env)(b:a5 ao):Cx:={ X with C3:=s,H_0:=H,env:=c,outer:=X.stack,ex:=b,fn:=λx=>a.names.lookup x == some .cell,pn:=[],xe:=λ_ _=>False }
section
variable{X:Cx}{pins:a5 (ao×Obj)}{σ:St}{H:Hp}{s:aB}
theorem JQ{d:lV}{own:a5 (Str×Nat)}{M:a5 ao}(I:Inv X pins σ H s)(ok:Fc X.N X.env.scope d own)(W:X.N.Nodup)(D:∀b∈M,Ai X pins H b/\b<s.heap.objs.size):
  Inv (X.Ag s H d (gW d (eF (s.heap.objs.size+1) d.names (f6 X.env.cells d.names [])) s.heap.objs.size X.env) M) [] (wipe σ (own.map (·.2))) H { s with heap:=qH (s.heap.push { cls:=.type "dict",data:=.dict #[] }) d.names }:=by
 have V:∀y∈d.names,y.2=.free->∃c,X.env.cells.lookup y.1=some c:=λy l e=>by rcases ok.free y l e with k|k;exact I.ok.has _ (.inl k);exact I.ok.has _ (.inr k)
 generalize E:gW d (eF (s.heap.objs.size+1) d.names (f6 X.env.cells d.names [])) s.heap.objs.size X.env=cenv;have kp:∀b o,s.heap.get? b=some o->(qH (s.heap.push { cls:=.type "dict",data:=.dict #[] }) d.names).get? b=some o:=λb o e=>wd _ _ _ _ (Heap.get?_push_of_some _ e);have G:cenv.locals=s.heap.objs.size:=by rw[<- E];rfl
 have B:cenv.cells=eF (s.heap.objs.size+1) d.names (f6 X.env.cells d.names []):=by rw[<- E];rfl
 have K:cenv.scope=aeW d X.env.scope:=by rw[<- E];rfl
 rw[<- Heap.size_push s.heap { cls:=.type "dict",data:=.dict #[] }]at B;have cm:∀{y c},(y,c)∈f6 X.env.cells d.names []->X.env.cells.lookup y=some c/\c<s.heap.objs.size:=λ{y c} g=>by rcases pz g with g|⟨f,rfl⟩;cases g;obtain⟨c,P⟩:=V _ f rfl;rw[P];obtain⟨w,z⟩:=I.cell _ _ P;exact⟨rfl,z.lt⟩
 have mem:∀{y c},cenv.cells.lookup y=some c->(X.env.cells.lookup y=some c/\c<s.heap.objs.size)\/(s.heap.objs.size+1<=c/\Ul (qH (s.heap.push { cls:=.type "dict",data:=.dict #[] }) d.names) c none):=λ{y c} e=>by rw[B]at e;rcases qw (bW e) with g|⟨_,t,Y⟩;exact .inl (cm g);rw[Heap.size_push]at t;exact .inr ⟨t,Y⟩
 have look:∀{y},d.names.lookup y=some .free->∃c,cenv.cells.lookup y=some c/\X.env.cells.lookup y=some c:=λ{y} hl=>by have l:(y,NameKind.free)∈d.names:=bW hl;obtain⟨J,h⟩:=mem_lookup (uc (names:=d.names) (n:=(s.heap.push { cls:=.type "dict",data:=.dict #[] }).objs.size) (tj (cells:=X.env.cells) (acc:=[]) l));rw[<- B]at h;refine⟨J,h,?_⟩;rw[B]at h;rcases qw (bW h) with g|⟨f,_,_⟩;exact(cm g).1;have:=ok.uniq _ f;rw[hl]at this;cases this
 have Q:(X.Ag s H d cenv M).Ok:=by
  refine⟨I.ok.mod,by show cenv.scope.kind=_;rw[K];exact ok.kind,by show cenv.globals=_;rw[<- E];exact I.ok.glob,by show cenv.builtins=_;rw[<- E];exact I.ok.blt,by show s.heap.objs.size<=cenv.locals;rw[G];exact aS _,
   λy z c A x=>?_,λy l=>?_,λy c z e=>?_,I.ok.hd,I.ok.frames,.inl rfl,λb v=>⟨?_,λy c e z=>?_⟩,I.bs,bu I.ok.TZ I.sz,λb o e v=>?_,λb v z=>?_,I.stack,I.ME⟩
  have A:cenv.cells.lookup y=some c:=A;have x:cenv.cells.lookup z=some c:=x;rw[B]at A x;refine yF (λp C=>?_) (λy z c a b=>I.ok.inj y z c (cm a).1 (cm b).1) (bW A) (bW x);rw[Heap.size_push];exact jY (cm (y:=p.1) (c:=p.2) C).2;show ∃c,cenv.cells.lookup y=some c;have key:∀k,cenv.kindOf y=some k->(k=.cell\/k=.free)->∃c,cenv.cells.lookup y=some c:=λk hk L=>by
   unfold Env.kindOf at hk;rw[K]at hk;obtain⟨u,e,r⟩:=sO hk;have:u=.cell\/u=.free:=by rcases r with rfl|⟨rfl,_⟩;exact L;exact .inr rfl
   rcases this with rfl|rfl;obtain⟨c,g⟩:=yG (n:=(s.heap.push { cls:=.type "dict",data:=.dict #[] }).objs.size) (acc:=f6 X.env.cells d.names []) (bW e);obtain⟨J,h⟩:=mem_lookup g;exact⟨J,by rw[B];exact h⟩;obtain⟨c,f,_⟩:=look e;exact⟨c,f⟩
  rcases l with l|l;exact key _ l (.inl rfl);exact key _ l (.inr rfl);have z:(d.names.lookup y == some NameKind.cell)=true:=z;have z:d.names.lookup y=some .cell:=by simpa using z
  have e:cenv.cells.lookup y=some c:=e;rw[B]at e;rcases qw (bW e) with g|⟨_,t,_⟩;rcases pz g with g|⟨f,_⟩;cases g;have q:=ok.uniq _ f;rw[z]at q;cases q;rw[Heap.size_push]at t;exact qF t;show b≠cenv.locals;rw[G];exact bQ (D b v).2;have e:cenv.cells.lookup y=some c:=e;rcases mem e with⟨f,_⟩|⟨f,_⟩;exact(D b v).1.2.2.2.2.1 y c f z;have t:s.heap.objs.size+1<=b:=by rw[<- z];exact f
  exact absurd (aR (D b v).2 (qF t)) (eQ _);rcases(D b v).1.2.2.2.1 with z|z;exact I.ok.Si b o e z;exact absurd (aR (Heap.lt_size e) (bu I.ok.TZ z)) (eQ _);rcases aq.mp (I.KN b z) with z|z;exact(D b v).1.2.1 z;exact(D b v).1.2.2.1 z
 refine⟨Q,rfl,I.bare,Un.kept kp,⟨λ_=>none,?_,λi y av A x j=>?_⟩,λy c e=>?_,?_,λy c e=>?_,λp C=>?_,I.gP.kept kp,by rw[rV];exact I.len⟩;show Heap.Ns _ cenv.locals _;rw[G];exact Heap.Ns.keeps (Heap.Ns.new ..) λb o e=>wd _ _ _ _ e;obtain⟨x,T⟩:=xP x;have F:d.names.lookup y=some .free/\(cenv.kindOf y=some .cell\/cenv.kindOf y=some .free):=by
  have key:∀k,cenv.scope.names.lookup y=some k->k=.local\/k=.cell\/k=.free->d.names.lookup y=some .free/\(cenv.kindOf y=some .cell\/cenv.kindOf y=some .free):=λk hk L=>by
   have O:=hk;rw[K]at hk;obtain⟨u,e,r⟩:=sO hk;have N:¬(u=.local\/u=.cell):=λU=>by rcases ok.own _ (bW e) U with h|h;obtain⟨p,C,S⟩:=bh.mp h;have j:=ok.ix p C;have:p.1=y:=S;rw[this]at j;exact T (bh.mpr ⟨p,C,BJ W j A⟩);exact h (bp A)
   rcases r with rfl|⟨rfl,rfl⟩;rcases L with rfl|rfl|rfl;exact absurd (.inl rfl) N;exact absurd (.inr rfl) N;exact⟨e,.inr O⟩;exact⟨e,.inl O⟩
  have j:UJ cenv.scope y:=j;rcases j with j|j|j;exact key _ j (.inl rfl);exact key _ j (.inr (.inl rfl));exact key _ j (.inr (.inr rfl))
 obtain⟨m,Z,hl⟩:=I.loc;have R:UJ X.env.scope y:=(ok.free _ (bW F.1) rfl).elim (λk=>.inr (.inl k)) (λk=>.inr (.inr k));obtain⟨w,r,q⟩:=hl i y av A x R;refine⟨w,r,.inr ⟨F.2,?_⟩⟩;obtain⟨c,f,t⟩:=look F.1;rcases q with⟨k,_⟩|⟨_,J,h,z⟩;have k:X.env.scope.names.lookup y=some .local:=k;rcases ok.free _ (bW F.1) rfl with u|u<;>rw[show X.env.scope.names.lookup y=_ from u]at k<;>cases k;rw[t]at h;cases h;exact⟨c,f,z.keeps kp⟩;have e:cenv.cells.lookup y=some c:=e;rcases mem e with⟨f,_⟩|⟨_,z⟩;obtain⟨w,z⟩:=I.cell y c f;exact⟨w,z.keeps kp⟩;exact⟨_,z⟩;show H cenv.locals=none;rw[G];exact I.gP.fresh (aS _);have e:cenv.cells.lookup y=some c:=e;rcases mem e with⟨f,_⟩|⟨f,_⟩;exact I.sT y c f;exact I.gP.fresh (qF f);exact absurd (show p∈([]:a5 (ao×Obj))++[] from C) #v[0]
theorem aa7{E:ak->aB->Prop}{D:ao}{xs:a5 V}{y:V}{v:ak}{Q:ak->aB->Prop}(I:Inv X pins σ H s)(f:H D=some (.lst xs))(hz:xs.length<aQ)(r:RelV y v)(h:∀a,Inv X pins σ (upd H D (.lst (xs++[y]))) a->Q .none a):a7 (bb X.prog X.w) X.A (call (.builtin "list.append") [.ref D,v]) Q E s:=by obtain⟨j,bK,n,c,e⟩:=I.gP D _ f;have hl:=c.length;refine append_at (hsz:=by rw[aX];lia) e λh' g d=>?_;refine h { s with heap:=h' } (I.write (t':=s.toks) (by rw[f];trivial) (.inl rfl) (λb u i q=>(g.2 b i).trans q) ⟨_,d⟩ ⟨by rw[aP];exact hz,bK++[v],n+1,c.append (.cons r .nil),?_⟩);rw[d];simp
def PTs(X:Cx)(a:a5 bL)(t:TT):Prop:=
 ∀(pins:a5 (ao×Obj))(s:aB)(σ:St)(H:Hp)(Q:Bool->Hp->Prop),Inv X pins σ H s->t σ H Q →
  a7 (bb X.prog X.w) X.A (forIn a true λc r=>if r=true then do let ok <- UD c X.env (cg c X.env);pure (ForInStep.yield ok) else pure (ForInStep.yield r)) (TP X pins σ Q) X.xe s
def aeA:TT:=λ_ H Q=>Q true H
theorem VZ:PTs X [] aeA:=λ_ _ _ H _ I h=>wpAny_tests_nil ⟨H,I,h⟩
theorem VY{c:bL}{t:TT}(h:PT X c t):PTs X [c] t:=λpins s σ H Q I a=>wpAny_tests_one (h pins s σ H Q I a)
end
theorem Ou{α:Type}{t:Sem α}{Q b:α->aB->Prop}{M:XF}{A:bT}{E:ak->aB->Prop}{s:aB}(h:a7 M A t Q (λ_ _=>False) s)(c:∀a s,Q a s->b a s):a7 M A t b E s:=d9 h c λ_ _ z=>False.elim z
theorem GG{prog:bC}{w:cu}{A:bT}{R:Hc->aB->Prop}{s:aB}{j b t:bL}{i:a5 bL}{q:lV}{pos:Pos}{d acc:ak}{env:Env}(I:Nat->aB->Prop)(turn:∀n s,I n s->a7 (bb prog w) A (nt d) (λr g=>match r with
  |none=>R (.ok .next) g
  |some v=>a7 (bb prog w) A (we b d v) (λ_ p=>a7 (bb prog w) A (pQ b env v) (λ_ o=>
     a7 (bb prog w) A (forIn i true λc r=>if r=true then do let ok <- UD c env (cg c env);pure (ForInStep.yield ok) else pure (ForInStep.yield r)) (λok f=>
      if ok=true then a7 (bb prog w) A (cg j env) (λx l=>a7 (bb prog w) A (call (.builtin "list.append") [acc,x]) (λ_ k=>∃m,m<n/\I m k) (Kt (bb prog w) A env λe a=>R (.error e) a) l) (Kt (bb prog w) A env λe a=>R (.error e) a) f
      else ∃m,m<n/\I m f) (Kt (bb prog w) A env λe a=>R (.error e) a) o) (Kt (bb prog w) A env λe a=>R (.error e) a) p) (Kt (bb prog w) A env λe a=>R (.error e) a) g) (Kt (bb prog w) A env λe a=>R (.error e) a) s)(n:Nat)(h:I n s):
  oO (bb prog w) A (.compLoop (.ListComp j [⟨b,t,i,0⟩] q pos) 0 d acc env) R s:=by
 refine codeAny_loop rfl I (λn s E=>?_) n h;show a7 _ A ((compTurn (.ListComp j [⟨b,t,i,0⟩] q pos) 0 d acc env).onRaise (λx=>do noteFrame x env;theTreesLotGoes x)) _ _ s;refine wpAny_noted ?_;rw[compTurn_list];refine aj (Qt (aj (d9 (turn n s E) (λr g y=>?_) λ_ _ h'=>h')));cases r with
|none=>exact aM y
|some v=>
  refine aj (d9 y (λ_ p D=>?_) λ_ _ h'=>h');refine aj (d9 D (λ_ o C=>aj (d9 C (λok f u=>?_) λ_ _ h'=>h')) λ_ _ h'=>h');cases ok with
 |false=>exact aM ⟨rfl,u⟩
 |true=>exact aj (aj (d9 u (λx l B=>aj (d9 B (λ_ k z=>aM (aM ⟨rfl,z⟩)) λ_ _ h'=>h')) λ_ _ h'=>h'))
section
variable{X:Cx}
def tLc(l:TI)(g:TG)(n:TT)(o:TE)(vs:a5 Nat):TE:=λc H Q=>l c H λJ k=>∀D,k D=none->∃W:Nat->Nat->Hp->Prop,(∃m,W 0 m (upd k D (.lst [])))/\∀i m H,W i m H →
 (J.stop i H/\Q (.ref D) H)\/(J.go i H/\∃d:Hp->Prop,(∀H',d H'->∃f,f<m/\W (i+1) f H')/\∀x H',J.yld i H x H'->g x (wipe c vs) H' λa p=>wipe a vs=wipe c vs/\n a p λb j=>if b=true then o a j λy h=>∃acc,h D=some (.lst acc)/\acc.length<aQ/\d (upd h D (.lst (acc++[y]))) else d j)
theorem Nb{pins:a5 (ao×Obj)}{s:aB}{t:St}{H:Hp}{Q:VK}{V M F:bL}{S:a5 bL}{a:lV}{own:a5 (Str×Nat)}{pos aW:Pos}{wi:TI}{g:TG}{tt:TT}{te:TE}{use:Option (ak->Sem Unit)}{Qf:ak->aB->Prop}(hc:X.calm=true)(hN:X.N.Nodup)(I:Inv X pins t H s)(hi:PI X M F wi)(ok:Fc X.N X.env.scope a own)(hg:∀(s:aB)(H:Hp)(C:ao)(cl:a5 (Str×ao))(d:a5 ao),PG (X.Ag s H a (gW a cl C X.env) d) M g)(ht:∀(s:aB)(H:Hp)(C:ao)(cl:a5 (Str×ao))(d:a5 ao),PTs (X.Ag s H a (gW a cl C X.env) d) S tt)(he:∀(s:aB)(H:Hp)(C:ao)(cl:a5 (Str×ao))(d:a5 ao),PE (X.Ag s H a (gW a cl C X.env) d) V te)(hs:∀x,jc F X.env x=pure x)(h:tLc wi g tt te (own.map (·.2)) t H Q)(bd:∀D C l m H',Inv X pins t H' l->Q (.ref D) H'->l.heap.Ns C m->Ai X pins H' C->compPost (bb X.prog X.w) X.A X.xe use Qf (.ref D) C (.ok .next) l):
  a7 (bb X.prog X.w) X.A (comprehension (.ListComp V [⟨M,F,S,0⟩] a pos) a X.env aW (newList []) false (cg F X.env) use) Qf X.xe s:=by
 have a9:∀y∈a.names,y.2=.free->∃c,X.env.cells.lookup y.1=some c:=λy hy e=>by rcases ok.free y hy e with k|k;exact I.ok.has _ (.inl k);exact I.ok.has _ (.inr k)
 refine wpAny_comprehension_free (use:=use) rfl hs (L3 a9) ok.kind (λy hy e=>by rw[ok.uniq y hy,e])
  (iW (hi pins s t H _ I h) λxv s1 hx=>iW hx λbw E h2=>?_)
 obtain⟨it,d,O,J,w,e,I2,T,ar,f2,q⟩:=h2;subst e;refine rT (IP ?_) (by show 0<=aQ;decide);generalize U:E.heap.objs.size=D;have bg:w D=none:=I2.gP.fresh (jD U);obtain⟨W,⟨m0,w0⟩,turn⟩:=q D bg;generalize az:({ E with heap:=E.heap.push { cls:=.type "list",data:=.seq ([]:a5 ak).toArray } }:aB)=s3;have I3:Inv X pins t (upd w D (.lst [])) s3:=by rw[<- az];refine I2.laid (t':=E.toks) (λb o e=>Heap.get?_push_of_some _ e) (jD U) ⟨d4 _,[],0,.nil,?_⟩;rw[<- U];exact Heap.get?_push_size _ rfl
 have h3:s3.heap=E.heap.push { cls:=.type "list",data:=.seq ([]:a5 ak).toArray }:=by rw[<- az]
 have sz:∀b∈d,b<E.heap.objs.size:=λb f=>by obtain⟨o,e,_⟩:=T.obj _ _ ar b f;exact Heap.lt_size e
 have A:∀b∈d,Ai X pins (upd w D (.lst [])) b/\b<s3.heap.objs.size:=λb f=>by have aA:=sz b f;refine⟨⟨?_,(f2 b f).2⟩,by rw[h3,Heap.size_push];exact jY aA⟩;rw[bP (by rw[<- U];exact bQ aA)];exact(f2 b f).1
 have aN:O 0 s3.heap:=T.keep _ _ _ ar λb _ o e=>by rw[h3];exact Heap.get?_push_of_some _ e
 have I4:=JQ I3 ok hN A;have pg:=hg s3 (upd w D (.lst [])) s3.heap.objs.size (eF (s3.heap.objs.size+1) a.names (f6 X.env.cells a.names [])) d;have pt:=ht s3 (upd w D (.lst [])) s3.heap.objs.size (eF (s3.heap.objs.size+1) a.names (f6 X.env.cells a.names [])) d;have pe:=he s3 (upd w D (.lst [])) s3.heap.objs.size (eF (s3.heap.objs.size+1) a.names (f6 X.env.cells a.names [])) d;show oO _ _ (.compStart (.ListComp V [⟨M,F,S,0⟩] a pos) 0 (.ref it) (.ref D) (gW a (eF (s3.heap.objs.size+1) a.names (f6 X.env.cells a.names [])) s3.heap.objs.size X.env)) (compPost (bb X.prog X.w) X.A X.xe use Qf (.ref D) s3.heap.objs.size) { s3 with heap:=qH (s3.heap.push { cls:=.type "dict",data:=.dict #[] }) a.names };have au:∀b∈d,(upd w D (.lst [])) b=none:=λb f=>(A b f).1.1;generalize bc:gW a (eF (s3.heap.objs.size+1) a.names (f6 X.env.cells a.names [])) s3.heap.objs.size X.env=ce at I4 pg pt pe⊢;have cL:ce.locals=s3.heap.objs.size:=by subst bc;rfl
 generalize bx:upd w D (.lst [])=H3 at I3 I4 pg pt pe w0 au A;generalize a3:({ s3 with heap:=qH (s3.heap.push { cls:=.type "dict",data:=.dict #[] }) a.names }:aB)=s4 at I4⊢;have aq:O 0 s4.heap:=T.keep _ _ _ aN λb _ o e=>by rw[<- a3];exact wd _ _ _ _ (Heap.get?_push_of_some _ e)
 have ac:∀{ai:St}{H':Hp}{l:aB},Inv (X.Ag s3 H3 a ce d) [] ai H' l->(∀b∈d,H' b=none)->∀b∈d,Ai (X.Ag s3 H3 a ce d) [] H' b:=λ{ai H' l} L G b f=>⟨G b f,(L.ok.exf b f).1,L.ok.Te b f,.inl f,λx c e=>(L.ok.exf b f).2 x c e,λp hp=>absurd (show p∈([]:a5 (ao×Obj))++[] from hp) #v[0]⟩
 have aw:oO (bb X.prog X.w) X.A (.compLoop (.ListComp V [⟨M,F,S,0⟩] a pos) 0 (.ref it) (.ref D) ce) (compPost (bb X.prog X.w) X.A X.xe use Qf (.ref D) s3.heap.objs.size) s4:=by
  refine GG (λn l=>∃i H',Inv (X.Ag s3 H3 a ce d) [] (wipe t (own.map (·.2))) H' l/\O i l.heap/\(∀b∈d,H' b=none)/\W i n H') ?_ m0 ⟨0,H3,I4,aq,au,w0⟩;rintro n s5 ⟨i,B,Z,ap,n5,w5⟩;rcases turn i n B w5 with⟨stop,qq⟩|⟨go,Nx,be,step⟩;have td:=T.done (X.Ag s3 H3 a ce d) rfl rfl rfl hc i [] s5 _ B (λ_ _=>False) Z (ac Z n5) ap stop;refine Ou td λr P ⟨hr,K⟩=>?_;subst hr;have Y:Inv X pins t B P:=I3.adp (ch:=d) K.os K.base K.gP K.bare λb f=>⟨(A b f).1.2.2.2.1,(A b f).1.2.1,(A b f).1.2.2.2.2.1,(A b f).1.2.2.2.2.2⟩;have nC:B s3.heap.objs.size=none:=by have z:B ce.locals=none:=K.free;rw[cL]at z;exact z
  obtain⟨m,G,_⟩:=K.loc;have G:P.heap.Ns ce.locals m:=G;rw[cL]at G;exact bd D s3.heap.objs.size P m B Y qq G (I3.LF (aS _) nC);have ti:=T.item (X.Ag s3 H3 a ce d) rfl rfl rfl hc i [] s5 _ B (λ_ _=>False) Z (ac Z n5) ap go;refine Ou ti λr P ⟨u,hr,h6⟩=>?_;subst hr;refine Ou h6 λ_ s7 ⟨x,H7,Y,r7,y7,ad,n7⟩=>?_;have bm:=Y.pinned (ac Y n7) (T.obj _ _ ad);refine Ou (pg _ s7 _ H7 x u _ bm r7 (step x H7 y7)) λ_ s8 ⟨N,H8,I8,ay,q8⟩=>?_;refine Ou (pt _ s8 N H8 _ I8 q8) λb s9 ⟨H9,I9,R⟩=>?_;have fin:∀{l:aB}{H':Hp},Inv (X.Ag s3 H3 a ce d) ([]++Br d s7.heap) N H' l->Nx H'->∃m,m<n/\∃i H',Inv (X.Ag s3 H3 a ce d) [] (wipe t (own.map (·.2))) H' l/\O i l.heap/\(∀b∈d,H' b=none)/\W i m H':=λ{l H'} L nx=>by
   obtain⟨m',hm,w'⟩:=be H' nx;have pin':∀b∈d,∀o,s7.heap.get? b=some o->l.heap.get? b=some o/\H' b=none:=λb f o e=>
    let z:=L.pin (b,o) (bI _ (bI _ (vJ f e)))
    ⟨z.1,z.2.1⟩
   have hl:(wipe t (own.map (·.2))).length=N.length:=by rw[<- ay,rV]
   refine⟨m',hm,i+1,H',(L.kG (pins:=[])).weak hl (λj v e=>?_),T.keep _ _ _ ad λb f o e=>(pin' b f o e).1,λb f=>?_,w'⟩;rw[<- ay]at e;exact(xP e).1;obtain⟨o,e,_⟩:=T.obj _ _ ad b f;exact(pin' b f o e).2
  cases b with
 |false=>simp only[gd,if_false]at R⊢;exact fin I9 R
 |true=>simp only[if_true]at R⊢;refine Ou (pe _ s9 N H9 _ I9 R) λz bu ⟨yv,bz,bo,aT,acc,bh,a0,nx⟩=>?_;exact aa7 (X:=X.Ag s3 H3 a ce d) bo bh a0 aT λbt bn=>fin bn nx
 exact codeAny_compStart_list aw (T.self X.A 0 _ _ _ aq aw)
theorem acx{p d i:bL}{n:a5 bL}{a:lV}{own:a5 (Str×Nat)}{pos:Pos}{j:TI}{g:TG}{k:TT}{l:TE}(A:X.calm=true)(E:X.N.Nodup)(hi:PI X d i j)(ok:Fc X.N X.env.scope a own)(y:∀(s:aB)(H:Hp)(C:ao)(cl:a5 (Str×ao))(c:a5 ao),PG (X.Ag s H a (gW a cl C X.env) c) d g)(u:∀(s:aB)(H:Hp)(C:ao)(cl:a5 (Str×ao))(c:a5 ao),PTs (X.Ag s H a (gW a cl C X.env) c) n k)(z:∀(s:aB)(H:Hp)(C:ao)(cl:a5 (Str×ao))(c:a5 ao),PE (X.Ag s H a (gW a cl C X.env) c) p l)(v:∀x,jc i X.env x=pure x:=by intro _;rfl):
  PE X (.ListComp p [⟨d,i,n,0⟩] a pos) (tLc j g k l (own.map (·.2))):=by intro pins s N H Q I h;rw[eval_ListComp];refine Nb A E I hi ok y u z v h λD C t m H' M q w f=>⟨m,w,λO r=>?_⟩;obtain⟨L,K,P,J,G,F⟩:=f;exact⟨.ref D,H',M.turned (t':=t.toks) (λb o B e=>(r.2 b B).trans e) L K J G F,rfl,q⟩
theorem RL{i:Nat}{y:Str}{n:Pos}{p j d:bL}{k:a5 bL}{c:lV}{own:a5 (Str×Nat)}{pos B:Pos}{r:TI}{g:TG}{t:TT}{u:TE}(Y:X.calm=true)(F:X.N.Nodup)(O:X.N[i]? = some y)(E:X.env.scope.names.lookup y=some .local)(Q:lq (.ListComp p [⟨j,d,k,0⟩] c pos) (some (.Name y n)) B.line X.env=pure true)(hi:PI X j d r)(ok:Fc X.N X.env.scope c own)(U:∀(s:aB)(H:Hp)(C:ao)(cl:a5 (Str×ao))(l:a5 ao),PG (X.Ag s H c (gW c cl C X.env) l) j g)(P:∀(s:aB)(H:Hp)(C:ao)(cl:a5 (Str×ao))(l:a5 ao),PTs (X.Ag s H c (gW c cl C X.env) l) k t)(W:∀(s:aB)(H:Hp)(C:ao)(cl:a5 (Str×ao))(l:a5 ao),PE (X.Ag s H c (gW c cl C X.env) l) p u)(R:∀x,jc d X.env x=pure x:=by intro _;rfl):
  PS X (.Assign [.Name y n] (.ListComp p [⟨j,d,k,0⟩] c pos) B) (Zt (tLc r g t u (own.map (·.2))) (uV i)):=by
 intro pins s A H D I h;rw[exec_Assign_Name_used _ _ _ _ Q];refine aj (Qt (aj ?_));show a7 _ X.A (do let _ <- comprehension (.ListComp p [⟨j,d,k,0⟩] c pos) c X.env (firstIterPos [⟨j,d,k,0⟩] pos) (newList []) false (cg d X.env) (some (pQ (.Name y n) X.env))) _ _ s;have h:tLc r g t u (own.map (·.2)) A H (λx H1=>uV i x A H1 D.nx):=h;refine aj (iW (Nb (Qf:=λ_ w=>SP X pins D .next w) Y F I hi ok U P W R h λL C w m H' I' q T f=>?_) λ_ w S=>aM (aM S));show a7 _ _ (pQ (.Name y n) X.env (.ref L)) _ _ _;refine wpAny_assign_Name (D3 (v:=V.ref L) I' F O (.inl E) rfl (λN I2 ⟨a,M,ha⟩=>?_) (.inr E));obtain⟨f0,J,f2,f3,G,f5⟩:=f;have aa:C≠a:=by rcases ha with z|z;rw[z];exact J;exact λe=>G y a z e.symm
 refine⟨m,T.sameBut M aa,λh3 K=>?_⟩;exact⟨_,H',I2.turned (t':=N.toks) (λb o Z e=>(K.2 b Z).trans e) f0 J f3 G f5,q⟩
end
section
variable{prog:bC}{w:cu}{A:bT}{R:Hc->aB->Prop}{s:aB}{elt t0 i0 t1 i1:bL}{ifs0 ifs1:a5 bL}{scope:lV}{pos:Pos}{it acc:ak}{env:Env}
end
section
variable{X:Cx}
end
section
variable{κ:Type}[DecidableEq κ]
def KD(a:a5 (κ×V))(k:κ):Option V:=(a.find? λb=>decide (b.1=k)).map (·.2)
def putK(b:a5 (κ×V))(k:κ)(v:V):a5 (κ×V):=
 if(b.any λa=>decide (a.1=k))=true then b.map (λa=>if a.1=k then(a.1,v) else a) else b++[(k,v)]
theorem HE{p:κ×V}{r:a5 (κ×V)}{k:κ}(e:p.1=k):KD (p::r) k=some p.2:=by simp[KD,tM,e]
theorem HF{p:κ×V}{r:a5 (κ×V)}{k:κ}(e:¬p.1=k):KD (p::r) k=KD r k:=by simp[KD,tM,e]
theorem HG(k:κ):∀a:a5 (κ×V),(a.any λb=>decide (b.1=k))=(KD a k).isSome
|[]=>rfl
|p::r=>by rw[Ho];by_cases e:p.1=k;simp only[HE e,decide_eq_true e,Bool.true_or,N2];rw[HF e,decide_eq_false e,jL];exact HG k r
theorem zj(a:a5 (κ×V))(k:κ)(v:V):(putK a k v).length<=a.length+1:=by unfold putK;split;rw[ai];lia;rw[aP,aL,de];lia
theorem yM.Px{o:Option V}{u:Option ak}(r:yM o u):o.isSome=u.isSome:=by
 cases o with
|none=>cases u with
 |none=>rfl
 |some _=>exact(show False from r).elim
|some _=>cases u with
 |none=>exact(show False from r).elim
 |some _=>rfl
theorem KV.any{b:a5 (κ×V)}{vs:a5 (κ×ak)}(r:KV b vs)(k:κ):(b.any λa=>decide (a.1=k))=vs.any λa=>decide (a.1=k):=by
 unfold KV at r
 induction r with
|nil=>rfl
|cons h t c=>rw[Ho,Ho,c,h.1]
theorem KV.ZA{c:a5 (κ×V)}{vs:a5 (κ×ak)}(r:KV c vs)(k:κ){y:V}{u:ak}(d:RelV y u):
  KV (c.map λa=>if a.1=k then(a.1,y) else a) (vs.map λa=>if a.1=k then(a.1,u) else a):=by
 unfold KV at r⊢
 induction r with
|nil=>exact .nil
|@cons p q ps i h t f=>rw[a9,a9];refine .cons ?_ f;obtain⟨b,g⟩:=h;by_cases e:p.1=k;rw[if_pos e,if_pos (b.symm.trans e)];exact⟨b,d⟩;rw[if_neg e,if_neg (λz=>e (b.trans z))];exact⟨b,g⟩
theorem KV.put{b:a5 (κ×V)}{vs:a5 (κ×ak)}(r:KV b vs)(k:κ){y:V}{u:ak}(a:RelV y u):KV (putK b k y) (stored vs k u):=by unfold putK stored;rw[r.any k];by_cases e:(vs.any λc=>decide (c.1=k))=true;rw[if_pos e,if_pos e];exact r.ZA k a;rw[if_neg e,if_neg e];exact Paired.snoc r ⟨rfl,a⟩
theorem KV.length{a:a5 (κ×V)}{vs:a5 (κ×ak)}(r:KV a vs):a.length=vs.length:=Paired.length r
end
theorem SQ{P:bC}{w:cu}{k:Key}{u:ak}(r:RelV (kV k) u):(fq P w).is k u=true:=by
 cases k with
|inl i=>obtain⟨t,e⟩:=(show ∃t,u=Value.int i t from r);subst e;exact zi P w i t
|inr x=>obtain⟨t,e⟩:=(show ∃t,u=Value.str x t from r);subst e;exact Jb P w x t
theorem Et{P:bC}{w:cu}:∀{a:a5 Key}{us:a5 ak},Vals (a.map kV) us->ItemsAre (fq P w) a us
|[],_,r=>by rw[iU]at r;cases r;exact .nil
|k::a,_,r=>by
  rw[a9]at r;cases r with
 |cons h t=>exact .cons (SQ h) (Et t)
abbrev KT(H:Hp):a5 (a5 Key×V)->a5 (a5 Key×ao×ak)->Prop:=Paired λp q=>p.1=q.1/\H q.2.1=some (.tup (p.1.map kV))/\RelV p.2 q.2.2
theorem KT.val{H:Hp}{c:a5 (a5 Key×V)}{xs:a5 (a5 Key×ao×ak)}(r:KT H c xs)(k:a5 Key):yM (KD c k) ((QK xs k).map (·.2)):=by
 induction r with
|nil=>exact True.intro
|@cons p q ps a h t f=>
  obtain⟨d,_,g⟩:=h;by_cases e:p.1=k;have e':q.1=k:=d.symm.trans e;have b:QK (q::a) k=some q.2:=by simp[QK,tM,e']
  rw[HE e,b];exact g;have e':¬q.1=k:=λz=>e (d.trans z);have b:QK (q::a) k=QK a k:=by simp[QK,tM,e']
  rw[HF e,b];exact f
theorem KT.ZA{H:Hp}{c:a5 (a5 Key×V)}{xs:a5 (a5 Key×ao×ak)}(r:KT H c xs)(k:a5 Key){y:V}{u:ak}(f:RelV y u):
  KT H (c.map λb=>if b.1=k then(b.1,y) else b) (xs.map (putAt k u)):=by
 induction r with
|nil=>exact .nil
|@cons p q ps j h t g=>rw[a9,a9];refine .cons ?_ g;obtain⟨a,d,i⟩:=h;unfold putAt;by_cases e:p.1=k;rw[if_pos e,if_pos (a.symm.trans e)];exact⟨a,d,f⟩;rw[if_neg e,if_neg (λz=>e (a.trans z))];exact⟨a,d,i⟩
theorem KT.put{H:Hp}{a:a5 (a5 Key×V)}{xs:a5 (a5 Key×ao×ak)}(r:KT H a xs)(k:a5 Key){b:ao}{y:V}{u:ak}(f:H b=some (.tup (k.map kV)))(c:RelV y u):
  KT H (putK a k y) (storedH xs k b u):=by
 have e:(a.any λd=>decide (d.1=k))=(QK xs k).isSome:=by rw[HG,(r.val k).Px,Option.isSome_map]
 unfold putK storedH;rw[e];by_cases q:(QK xs k).isSome=true;rw[if_pos q,if_pos q];exact r.ZA k c;rw[if_neg q,if_neg q];exact Paired.snoc r ⟨rfl,f,c⟩
theorem KT.keeps{H H':Hp}{c:a5 (a5 Key×V)}{xs:a5 (a5 Key×ao×ak)}(r:KT H c xs)(d:∀b a,H b=some (.tup a)->H' b=some (.tup a)):KT H' c xs:=
 Paired.aar r λ_ _ z=>⟨z.1,d _ _ z.2.1,z.2.2⟩
section
variable{P:bC}{w:cu}{H:Hp}{h:cY}{a:ao}
theorem XS{u:HO}(ok:tG P w H h)(e:Rd H a u):ie P w H h a u:=e.ok ok
theorem ac1{b:a5 (Key×V)}(ok:tG P w H h)(e:Rd H a (.dK b)):b.length<=aQ/\(a == jX)=false/\∃vs,KV b vs/\h.DictOf (fq P w) a vs:=
 show ie P w H h a (.dK b) from XS ok e
theorem ac2{b:a5 (Key×V)}(ok:tG P w H h)(e:H a=some (.dK b)):b.length<=aQ/\(a == jX)=false/\∃vs,KV b vs/\h.DictOf (fq P w) a vs:=ac1 ok (.inl e)
theorem SN{b:a5 Key}(ok:tG P w H h)(e:H a=some (.tup (b.map kV))):(zW (fq P w)).is h b a:=by obtain⟨_,bK,r,o,f,d,n,c⟩:=(show ie P w H h a (.tup (b.map kV)) from ok a _ e);exact⟨o,bK.toArray,n,f,d,c,by simpa using Et r⟩
theorem acY{c:a5 (a5 Key×V)}(ok:tG P w H h)(e:Rd H a (.dT c)):c.length<=aQ/\(a == jX)=false ∧
  ∃xs,KT H c xs/\h.DictOfH (zW (fq P w)) a xs:=by
 obtain⟨z,y,xs,r,o,s,u,n,k,j,i,g⟩:=(show ie P w H h a (.dT c) from XS ok e);refine⟨z,y,xs,r,o,s,u,n,k,j,i,λx b=>?_,g⟩;have all:∀{l:a5 (a5 Key×V)}{m:a5 (a5 Key×ao×ak)},KT H l m->∀x∈m,(zW (fq P w)).is h x.1 x.2.1:=by
  intro l m q
  induction q with
 |nil=>intro x b;exact nomatch b
 |@cons p q ps v d t f=>intro x b;rcases aq.mp b with e|b;subst e;exact SN ok (by rw[<- d.1];exact d.2.1);exact f x b
 exact all r x b
theorem acZ{b:a5 (a5 Key×V)}(ok:tG P w H h)(e:H a=some (.dT b)):b.length<=aQ/\(a == jX)=false ∧
  ∃xs,KT H b xs/\h.DictOfH (zW (fq P w)) a xs:=acY ok (.inl e)
end
def Uk(H:Hp)(a:ao)(y v:V)(H':Hp):Prop:=
 (∃c k,H a=some (.dK c)/\y=kV k/\c.length<aQ/\H'=upd H a (.dK (putK c k v))) ∨
 ∃c k b,H a=some (.dT c)/\y=.ref b/\H b=some (.tup (k.map kV))/\c.length<aQ/\H'=upd H a (.dT (putK c k v))
theorem Uk.t{H:Hp}{a b:ao}{c:a5 (a5 Key×V)}{k:a5 Key}{v:V}(e:H a=some (.dT c))(d:H b=some (.tup (k.map kV)))(hl:c.length<aQ):
  Uk H a (.ref b) v (upd H a (.dT (putK c k v))):=.inr ⟨c,k,b,e,rfl,d,hl,rfl⟩
section
variable{X:Cx}{pins:a5 (ao×Obj)}{σ:St}{H:Hp}{s:aB}{a:ao}{y v:V}{u r:ak}{o:Option V}{A:bT}{E:ak->aB->Prop}
theorem Inv.big(I:Inv X pins σ H s):jX<s.heap.objs.size:=by have h:bc<s.heap.objs.size:=(I.mod.glob.keeps I.bk).lt;exact mH #v[1] h
theorem NG{h':cY}{t':Nat}{c:HO}(I:Inv X pins σ H s)(d:Mut (H a))(f:Heap.SameBut a s.heap h')(g:∃q,h'.get? a=some q)(new:ie X.prog X.w (upd H a c) h' a c):
  Inv X pins σ (upd H a c) { s with heap:=h',toks:=t' }:=
 I.write (x:=a) (e:=a) d (.inl rfl) (λb q h z=>(f.2 b h).trans z) g new
theorem aaU{P:bC}{w:cu}{H':Hp}{h':cY}{b:a5 (Key×V)}{vs:a5 (Key×ak)}(z:b.length<=aQ)(hd:(a == jX)=false)(c:KV b vs)(dd:h'.DictOf (fq P w) a vs):
  ie P w H' h' a (.dK b):=⟨z,hd,vs,c,dd⟩
theorem PQ{H':Hp}{Q:Unit->aB->Prop}(C:A.units+1<pU)(I:Inv X pins σ H s)(g:Uk H a y v H')(t:RelV y u)(w:RelV v r)(h:∀p,Inv X pins σ H' p->Q () p):
  a7 (bb X.prog X.w) A (setItem (.ref a) u r) Q E s:=by
 rcases g with⟨f,k,e,n,l,o⟩|⟨f,k,b,e,n,B,l,o⟩;subst n o;obtain⟨z,hd,vs,d,dd⟩:=ac2 I.gP e;have hz:vs.length<=aQ:=by rw[<- d.length];exact z
 have hl:(putK f k v).length<=aQ:=by have:=zj f k v;lia
 refine wpAny_setItem_pairs (hsz:=hz) (SQ t) dd λh' j m=>h _ ?_;have D:∃q,h'.get? a=some q:=let⟨q,_,_,i,_⟩:=j;⟨q,i⟩;exact NG I (by rw[e];exact True.intro) m D (aaU hl hd (d.put k w) j);subst n o;cases(show u=Value.ref b from t);obtain⟨z,hd,xs,d,dd⟩:=acZ I.gP e;have hz:xs.length<=aQ:=by rw[<- Paired.length d];exact z
 have hl:(putK f k v).length<=aQ:=by have:=zj f k v;lia
 refine wpAny_setItem_heap (hsz:=hz) (tupleKind_room_in1 C) (SN I.gP B) dd λh' j m=>h _ ?_;obtain⟨q,L,M,i,K,J,G,_,F⟩:=j;refine NG I (by rw[e];exact True.intro) m ⟨q,i⟩ ⟨hl,hd,_,(d.put k B w).keeps λc N x=>?_,q,L,M,i,K,J,G,F⟩;rw[bP (X8 x e (λz=>nomatch z))];exact x
end
section
variable{X:Cx}{pins:a5 (ao×Obj)}{σ:St}{H:Hp}{s:aB}{a:ao}{kvs:a5 (Key×V)}{k:Key}{u:ak}{A:bT}{E:ak->aB->Prop}
end
def adI(i:bL):Prop:=∀a b,Hq i false a b=operate [a,b] (UE a b)
theorem VE{prog:bC}{w:cu}{A:bT}{E:ak->aB->Prop}{s:aB}{env:Env}{c b:bL}{pos:Pos}{T id:String}{Q:ak->aB->Prop}(hl:vW (.type T) "__getitem__" = pure (some (.builtin id)))(m:adI b)(h:a7 (bb prog w) A (cg c env) (λo g=>a7 (bb prog w) A (cg b env) (λi a=>a.TypeIs o T/\a7 (bb prog w) A (UE o i) Q E a) E g) E s):
  a7 (bb prog w) A (cg (.Subscript c b pos) env) Q E s:=by
 refine Subscript_ (d9 h (λo g l=>d9 l (λi a d=>?_) λ_ _ x=>x) λ_ _ x=>x);obtain⟨j,d⟩:=d;unfold Qv;refine aj ?_;rw[getitemInPython_of_ne j.not_modules];refine aj (pL j hl ?_);have fin:a7 (bb prog w) A (Hq b false o i) (λr f=>a7 (bb prog w) A (letTemporaryGo c o r >>= λ_=>pure r) Q E f) E a:=by rw[m o i];exact wpAny_operating (d9 d (λr f k=>aj (wpAny_letTemporaryGo (aM k))) λ_ _ x=>x)
 first
 |exact aM (aj fin)
 |exact aj (aM (aj fin))
 |exact aj fin
def ab9(f ty d:TE):TS:=λD b H=>d b H λv i=>f b i λx h=>ty b h λy g=>∃a c,x=.ref a/\Uk g a y v c/\D.nx b c
section
variable{X:Cx}{o i e value:bL}{pos pos' tpos:Pos}{td ty tv:TE}
theorem V2(q:X.A.units+1<pU)(w:PE X o td)(hi:PE X i ty)(p:PE X value tv)(t:lq value (some (.Subscript o i pos')) pos.line X.env=pure false):
  PS X (.Assign [.Subscript o i pos'] value pos) (ab9 td ty tv):=by intro pins s b H D I h;refine wpAny_Assign_Subscript (iW (p pins s b H _ I h) λr d ⟨v,G,C,k,n⟩=>iW (w pins d b G _ C n) λu c ⟨x,F,B,j,m⟩=>iW (hi pins c b F _ B m) λL K ⟨y,M,A,f,a,E,ex,g,l⟩=>?_) t;subst ex;obtain rfl:u=Value.ref a:=j;exact PQ q A g f k λJ z=>⟨b,E,z,l⟩
end
theorem Tn{P:bC}{w:cu}{H:Hp}(h:cY)(a:jX<h.objs.size):ie P w H (h.push { cls:=.type "dict",data:=.dict #[] }) h.objs.size (.dT []):=
 ⟨d4 _,beq_eq_false_iff_ne.mpr (Ne.symm (bQ a)),[],.nil,_,#[],0,Heap.get?_push_size _ rfl,⟨rfl,rfl,rfl⟩,rfl,rfl,List.nodup_nil⟩
def Zr:TE:=λ_ H Q=>∀p,H p=none->Q (.ref p) (upd H p (.dT []))
section
variable{X:Cx}{pos:Pos}
theorem RV:PE X (.Dict [] [] pos) Zr:=λpins s b H Q I h=>wpAny_Dict_empty ⟨.ref s.heap.objs.size,_,I.laid (a:=s.heap.objs.size) (o:=.dT []) (t':=s.toks) (λ_ _ q=>Heap.get?_push_of_some _ q) (aS _) (Tn s.heap I.big),rfl,h _ (I.gP.fresh (aS _))⟩
end
section
variable{X:Cx}{pins:a5 (ao×Obj)}{σ:St}{H:Hp}{s:aB}{a:ao}{y d:V}{u r:ak}{o:Option V}{A:bT}{E:ak->aB->Prop}
end
section
variable{X:Cx}{o e f:bL}{apos cpos:Pos}{td ty tx:TE}
end
section
variable{X:Cx}{pins:a5 (ao×Obj)}{σ:St}{H:Hp}{s:aB}{a:ao}{kvs:a5 (Key×V)}{A:bT}{E:ak->aB->Prop}
end
section
variable{X:Cx}{pins:a5 (ao×Obj)}{σ:St}{H:Hp}{s:aB}{a:ao}{y:V}{u:ak}{A:bT}{E:ak->aB->Prop}
end
section
variable{prog:bC}{w:cu}{A:bT}{E:ak->aB->Prop}
end
section
variable{X:Cx}
end
theorem CA:gH "reversed" = some (.type "reversed"):=#v[2]
section
variable{X:Cx}{pins:a5 (ao×Obj)}{σ:St}{H:Hp}{s:aB}{h':cY}
theorem Inv.Vy{t':Nat}{ch:a5 ao}(I:Inv X pins σ H s)(k:∀b o,b∉ch->s.heap.get? b=some o->h'.get? b=some o)(d:∀b∈ch,Ai X pins H b):Inv X pins σ H { s with heap:=h',toks:=t' }:=by
 have g:∀b u,H b=some u->b∉ch:=λb u e z=>by have q:=(d b z).1;rw[q]at e;cases e
 refine I.step (g':=s.gens) (d':=s.drawn) (ch:=ch) (λb f=>⟨(d b f).2.2.2.1,(d b f).2.1,(d b f).2.2.2.2.1,(d b f).2.2.2.2.2⟩) (λb o _ _ a e _=>k b o a e) (λb o _ _ a e _=>⟨o.slots,k b o a e⟩)
  (λ_ _ _ _ n=>n) (λb o a e=>⟨o,k b o a e⟩) (λ_ _ e=>e) (λ_ _ _ e=>e) (λb ps e=>⟨#[],by rw[e];simp⟩) (λm i=>?_) (λb u e=>?_) I.bare
 obtain⟨o,j,l,h,r⟩:=i;exact⟨o,j,l,k _ o (λz=>(d _ z).2.1 rfl) h,r⟩;refine(I.gP b u e).HV (λc v a q=>k c v ?_ q) (λ_ q=>q) λ_ _ q=>q;rcases a with z|z;rw[z];exact g b u e;exact g c _ z
theorem Inv.Om{t':Nat}{ch:a5 ao}{T:ao}{h:HO}(I:Inv X pins σ H s)(k:∀b o,b∉ch->s.heap.get? b=some o->h'.get? b=some o)(f:∀b∈ch,Ai X pins H b)(j:s.heap.objs.size<=T)(new:ie X.prog X.w (upd H T h) h' T h):Inv X pins σ (upd H T h) { s with heap:=h',toks:=t' }:=by
 have g:H T=none:=I.gP.fresh j;have i:∀b u,H b=some u->b∉ch:=λb u e z=>by have q:=(f b z).1;rw[q]at e;cases e
 refine I.step (g':=s.gens) (d':=s.drawn) (ch:=ch) (λb d=>⟨(f b d).2.2.2.1,(f b d).2.1,(f b d).2.2.2.2.1,(f b d).2.2.2.2.2⟩) (λb o _ _ a e _=>k b o a e) (λb o _ _ a e _=>⟨o.slots,k b o a e⟩)
  (λb o _ e n=>?_) (λb o a e=>⟨o,k b o a e⟩) (λb xs e=>?_) (λb o u e=>?_) (λb ps e=>⟨#[],?_⟩) (λm p=>?_) (λb u e=>?_) I.bare
 rw[bP (bQ (aR (Heap.lt_size e) j))];exact n;rw[bP (cN e g)];exact e;rw[bP (cN e g)];exact e;rw[bP (cN e g),e];simp;obtain⟨o,t,w,l,r⟩:=p;exact⟨o,t,w,k _ o (λz=>(f _ z).2.1 rfl) l,r⟩;by_cases d:b=T;subst d;rw[bZ]at e;cases e;exact new;rw[bP d]at e;refine(I.gP b u e).HV (λc v a q=>k c v ?_ q) (λc q=>by rw[bP (cN q g)];exact q) λc xs q=>by rw[bP (cN q g)];exact q
 rcases a with z|z;rw[z];exact i b u e;exact i c _ z
end
section
variable{X:Cx}
theorem ZQ{d:bL}{pins:a5 (ao×Obj)}{c:St}{H:Hp}{s:aB}{R:It->Hp->Prop}{J:It}{a:Nat->cY->Prop}{tk:Nat}(I:Inv X pins c H s)(o:Obj)(T:Turn X.prog X.w X.K d J [s.heap.objs.size] s.heap.objs.size a)(st:a 0 (s.heap.push o))(q:R J H):PIE X pins c d R (.ref s.heap.objs.size) { s with heap:=s.heap.push o,toks:=tk }:=by
 refine⟨s.heap.objs.size,[s.heap.objs.size],a,J,H,rfl,I.kept λb g e=>Heap.get?_push_of_some _ e,T,st,λb f=>?_,q⟩;have e:b=s.heap.objs.size:=by simpa using f
 subst e;exact I.LF (aS _) (I.gP.fresh (aS _))
end
def Itc(lo c:Int)(n:Nat):It:=⟨λi _=>i<n,λi H x H'=>H'=H/\x=.int (lo+(i:Nat)*c),λi _=>n<=i⟩
theorem HK{P:bC}{w:cu}{K:au}{D:bL}(a:ao)(lo c:Int)(n:Nat):Turn P w K D (Itc lo c n) [a] a (λi h=>Hr h a (lo+(i:Nat)*c) ((n:Int)-(i:Nat)) c) where
 mem:=#v[0]
 obj:=λi h st b d=>by
  have e:b=a:=by simpa using d
  subst e;exact⟨_,st,λv z=>nomatch z⟩
 keep:=λi h h' st k=>k a #v[0] _ st
 item:=by intro X m g p l i pins s B H E I f st j;subst m g p;obtain⟨y,x,J,u,r,q⟩:=f a #v[0];have W:=Walks.range (prog:=X.prog) (w:=X.w) (I.ok.hd l) a lo c n;refine W.item i s _ _ j st λv h' tk G C F=>?_;obtain⟨t,rfl⟩:=G;have M:Inv X pins B H { s with heap:=h',toks:=tk }:=I.turned (λb o d e=>F b o #v[d] e) y x u r q;exact⟨_,rfl,Nu (s:={ s with heap:=h',toks:=tk }) (n:="range_iterator") C rfl rfl #v[1] ⟨.int (lo+(i:Nat)*c),H,M,⟨t,rfl⟩,⟨rfl,rfl⟩,C,λb d=>(f b d).1⟩⟩
 done:=by intro X m g p l i pins s B H E I f st j;subst m g p;obtain⟨y,x,J,u,r,q⟩:=f a #v[0];exact Uy (I.ok.hd l) st (by have:n<=i:=j;lia) λh' L=>⟨rfl,I.turned (t':=s.toks) (λb o d e=>L b o d e) y x u r q⟩
 self:=λA i s Q E st h=>Uz st h
def RgC(i j c:Int)(n:Nat):Prop:=c≠0/\c.natAbs<1073741824/\Builtin.Range.small i j c=true/\Builtin.Range.rangeSize i j c=n
def acN(b:TA):TI:=λa H R=>b a H λvs d=>∃(i j c:Int)(n:Nat),vs=[.int i,.int j,.int c]/\RgC i j c n/\R (Itc i c n) d
section
variable{X:Cx}{tg:bL}
theorem OM{a b c:bL}{l:TA}{p pos:Pos}(B:Gl X "range")(A:X.mg "range" = none)(C:PA X [a,b,c] l)(y:aG [a,b,c] X.env=(false,cg a X.env)::aG [b,c] X.env:=by rfl)(z:(ef pos (aG [b,c] X.env)).any (·.1)=false:=by rfl):
  PI X tg (.Call (.Name "range" p) [a,b,c] [] pos) (acN l):=by
 intro pins s g H R I h;refine Call_ (ml I B A Mv (b9 (iW (C pos pins s g H _ I h) λus f ⟨vs,N,M,u,x⟩=>?_) y z));obtain⟨i,j,k,n,e,⟨K,J,G,F⟩,q⟩:=x;subst e;cases u with
|cons r d=>
  cases d with
 |cons w d=>
   cases d with
  |cons v d=>
    cases d;obtain⟨t,rfl⟩:=r;obtain⟨t',rfl⟩:=w;obtain⟨m,rfl⟩:=v;refine call_range_3 K ?_ (.inl (PyProof.noPylong_small J));refine wpAny_pyIter_range (IsRange.new ..) G ?_;have L:Inv X pins g N { f with heap:=f.heap.push { cls:=.type "range",data:=.fields #[.int i t,.int j t',.int k m] } }:=M.kept (t':=f.toks) λb o e=>Heap.get?_push_of_some _ e;refine ZQ (tk:=f.toks) L _ (HK _ i k n) ?_ q;have E:i+((0:Nat):Int)*k=i:=#v[0]
    have D:(n:Int)-((0:Nat):Int)=Builtin.Range.rangeSize i j k:=by rw[F];simp
    show Hr _ _ (i+((0:Nat):Int)*k) ((n:Int)-((0:Nat):Int)) k;rw[E,D];exact Heap.get?_push_size _ rfl
end
section
variable{X:Cx}{tg:bL}
end
section
variable{prog:bC}{w:cu}{A:bT}{E:ak->aB->Prop}{s:aB}
theorem Pw{d:ao}{o:Obj}{f:Array jF}{g:Nat}{Q:ak->aB->Prop}(hd:(d == jX)=false)(a:s.heap.get? d=some o)(h:o.ExactDict)(c:o.data=.dict f g)(i:Q (.ref s.heap.objs.size) { s with heap:=s.heap.push { cls:=.type "dict_keyiterator",data:=.fields #[.ref d,.int 0 0,.int f.size 0,.int g 0] } }):
  a7 (bb prog w) A (pyIter (.ref d)) Q E s:=by have b:s.TypeIs (.ref d) "dict":=⟨o,a,h.1⟩;refine wpAny_pyIter_slot b F.slot_dict_iter (lp F.slot_dict_iter b F.entry_dict_iter ?_ (F.args_dict_iter_1 _));unfold Builtin.«dict.__iter__»;refine aj ?_;unfold Builtin.Dict.dictSlotNone;refine aj (wpAny_notOrdered_dict b ?_);show a7 _ _ (pure (Value.ref d)) _ _ s;refine aM ?_;show a7 _ _ (Builtin.Dict.showsAll d >>= _) _ _ s;unfold Builtin.Dict.showsAll;rw[if_neg (by rw[hd];exact bR)];refine aj (aM ?_);refine aj (DT a c ?_);refine aj (Ki a c ?_);refine aj (rT (aM ⟨_,rfl,"dict_keyiterator",_,⟨_,Heap.get?_push_size _ rfl,rfl⟩,F.slot_dict_keyiterator_next.lookup,?_⟩));simpa [nj] using i
theorem Dj{a d:ao}{i n f:Nat}{h:Obj}{c:Array jF}{l:jF}{Q:Option ak->aB->Prop}(b:s.heap.IsKeyIter a d i n f)(j:s.heap.get? d=some h)(k:h.data=.dict c f)(hsz:c.size=n)(m:c[i]? = some l)(u:∀h',h'.IsKeyIter a d (i+1) n f->Heap.SameBut a s.heap h'->Q (some l.key) { s with heap:=h' }):a7 (bb prog w) A (nt (.ref a)) Q E s:=by
 obtain⟨o,g,t,hd⟩:=id b;unfold nt;refine aj (tN (mO (name:=Str.ofString "__next__") b.typeIs F.slot_dict_keyiterator_next
  (lp F.slot_dict_keyiterator_next b.typeIs F.entry_dict_keyiterator_next ?_ (F.args_dict_keyiterator_next_1 _))))
 refine aj (aM ?_);refine aj ?_;refine aj ?_
 first|refine aj (jO b.typeIs (aM ?_))|refine aj (lU b.typeIs (aM ?_))
 refine aj (wpAny_fieldsOf g hd ?_);have p:Builtin.Dict_items.ownsTuple "dict_keyiterator" = false:=#v[1]
 simp only[p,gd,if_false];show a7 _ _ (if(Value.ref d == Value.none)=true then _ else _) _ _ s;rw[if_neg (show ¬((Value.ref d == Value.none)=true) from bR)];refine aj (aM ?_);refine aj (DT j k ?_);rw[if_neg (by rw[hsz];simp)];refine aj (aM ?_);refine aj (Ki j k ?_);rw[if_neg #v[0]];refine aM ?_;obtain⟨q,r⟩:=Array.getElem?_eq_some_iff.mp m;simp only[show ¬((i:Int)<0) from by lia,if_false,UQ,dN q];refine aj ?_
 first|refine aj (jO b.typeIs (aM ?_))|refine aj (lU b.typeIs (aM ?_))
 refine aj (UR b.typeIs ?_);show a7 _ _ (setField (.ref a) 1 (nj ((i:Int)+1)) >>= _) _ _ s;refine aj (wpAny_setField g hd #v[0] ?_);have hit':(s.heap.update a (Obj.mapFields (·.setIfInBounds 1 (nj ((i:Int)+1))))).IsKeyIter a d (i+1) n f:=
  ⟨_,Heap.get?_update_self _ g (Obj.isFreed_of_fields (Obj.data_mapFields hd _)),(Obj.cls_mapFields ..).trans t,by rw[Obj.data_mapFields hd];simp[nj]⟩
 refine aj (eo ?_);refine aj (UR (s:={ s with heap:=s.heap.update a (Obj.mapFields (·.setIfInBounds 1 (nj ((i:Int)+1)))) }) hit'.typeIs ?_);show a7 _ _ (pure c[i].key) _ _ _;rw[r];exact aM (aM ⟨_,rfl,aM (u _ hit' (Heap.SameBut.update ..))⟩)
theorem F6{f d:ao}{i n p:Nat}{h:Obj}{g:Array jF}{Q:Option ak->aB->Prop}(r:A.handled=none)(c:s.heap.IsKeyIter f d i n p)(j:s.heap.get? d=some h)(l:h.data=.dict g p)(hsz:g.size=n)(t:n<=i)(u:∀h',Heap.ExtBut f s.heap h'->Q none { s with heap:=h' }):a7 (bb prog w) A (nt (.ref f)) Q E s:=by
 obtain⟨o,k,v,hd⟩:=id c;unfold nt;refine aj (tN (mO (name:=Str.ofString "__next__") c.typeIs F.slot_dict_keyiterator_next
  (lp F.slot_dict_keyiterator_next c.typeIs F.entry_dict_keyiterator_next ?_ (F.args_dict_keyiterator_next_1 _))))
 refine aj (aM ?_);refine aj ?_;refine aj ?_
 first|refine aj (jO c.typeIs (aM ?_))|refine aj (lU c.typeIs (aM ?_))
 refine aj (wpAny_fieldsOf k hd ?_);have q:Builtin.Dict_items.ownsTuple "dict_keyiterator" = false:=#v[1]
 simp only[q,gd,if_false];show a7 _ _ (if(Value.ref d == Value.none)=true then _ else _) _ _ s;rw[if_neg (show ¬((Value.ref d == Value.none)=true) from bR)];refine aj (aM ?_);refine aj (DT j l ?_);rw[if_neg (by rw[hsz];simp)];refine aj (aM ?_);refine aj (Ki j l ?_);rw[if_neg #v[0]];refine aM ?_;have hge':g.size<=i:=by rw[hsz];exact t
 simp only[show ¬((i:Int)<0) from by lia,if_false,UQ,Kg hge'];refine aj ?_
 first|refine aj (jO c.typeIs (aM ?_))|refine aj (lU c.typeIs (aM ?_))
 show a7 _ _ (setField (.ref f) 0 .none >>= _) _ _ s;refine aj (wpAny_setField k hd #v[0] ?_);show a7 _ _ (newExc (.type "StopIteration") [] >>= _) _ _ _;refine aj ?_;simp only[newExc,newTuple];refine aj (rT ?_ (by size_fits));refine aj (m:=firstArgMember _ _) (Xx (a:=Value.none) (by first|rfl|(simp only[firstArgMember];rfl)) ?_);refine rT ?_ (by size_fits);simp only[raiseNew];refine aj (wpAny_handled ?_);rw[show A.in1.handled=none from r];refine aj (aM (wpAny_throw ?_));refine aj (Hb (T:="StopIteration") (b:=true) ⟨_,Heap.get?_push_size _ rfl,rfl⟩ isSubtype_stop ?_);exact aM (u _ (((Heap.SameBut.update ..).extBut.push _).push _))
end
theorem K0{α β:Type}{G:α->β->Prop}{d:a5 α}{c:a5 β}(h:Paired G d c):∀{i:Nat}{a:α},d[i]? = some a->∃b,c[i]? = some b/\G a b:=by
 induction h with
|nil=>intro i a e;simp at e
|@cons a b d c r t f=>
  intro i g e;cases i with
 |zero=>simp only[Ke,kU]at e;subst e;exact⟨b,rfl,r⟩
 |succ j=>simp only[gG]at e⊢;exact f e
section
variable{X:Cx}{pins:a5 (ao×Obj)}{σ:St}{H:Hp}{s:aB}{d:ao}{o:Obj}
end
section
variable{P:bC}{w:cu}{K:au}{tg:bL}{d:ao}{o:Obj}{es:Array jF}{ep:Nat}
end
section
variable{X:Cx}{tg e:bL}{td:TE}{apos cpos:Pos}
end
theorem yI:gH "zip" = some (.type "zip"):=#v[2]
def Itz(K:au)(a b:ao):It:=
 ⟨λi H=>∃(xs c:a5 V)(x y:V),lY K H a xs/\lY K H b c/\xs[i]? = some x/\c[i]? = some y,
  λi H v H'=>∃T x y,v=.ref T/\H T=none/\H'=upd H T (.tup [x,y])/\(∀xs,lY K H a xs->xs[i]? = some x)/\∀c,lY K H b c->c[i]? = some y,
  λi H=>∃xs c:a5 V,lY K H a xs/\lY K H b c/\(xs.length<=i\/c.length<=i)⟩
theorem Rc{P:bC}{w:cu}{K:au}{aA:a5 bL}{kk:Nat}{ak:Pos}{a b z TI TO j g:ao}(D:ZipApart z TI TO j g a b):
  Turn P w K (.Tuple aA kk ak) (Itz K a b) [z,TI,TO,j,g] z (λi h=>IsZip h z TI TO .none/\IsPair h TI (.ref j) (.ref g)/\(∃x y,IsPair h TO x y)/\h.IsListIter j a i/\h.IsListIter g b i) where
 mem:=#v[0]
 obj:=λi h st c L=>by
  obtain⟨hz,m,⟨x,y,n⟩,⟨o1,Y,_,d1⟩,⟨o2,W,_,d2⟩⟩:=st;have e':c=z\/c=TI\/c=TO\/c=j\/c=g:=by simpa using L
  rcases e' with q|q|q|q|q;rw[q];exact⟨_,hz,λv q=>nomatch q⟩;rw[q];exact⟨_,m,λv q=>nomatch q⟩;rw[q];exact⟨_,n,λv q=>nomatch q⟩;rw[q];exact⟨o1,Y,λv q=>by rw[d1]at q;cases q⟩;rw[q];exact⟨o2,W,λv q=>by rw[d2]at q;cases q⟩
 keep:=λi h h' st k=>by obtain⟨hz,m,⟨x,y,n⟩,B,t⟩:=st;exact⟨k z #v[0] _ hz,k TI #v[0] _ m,⟨x,y,k TO #v[0] _ n⟩,B.at λo q=>k j #v[0] o q,t.at λo q=>k g #v[0] o q⟩
 item:=by
  intro X T R U L i pins s Z H E I J st S;subst T R U;obtain⟨hz,m,⟨x0,y0,n⟩,B,t⟩:=st;obtain⟨xs,ys,x,y,G,F,hx,hy⟩:=S;obtain⟨bK,N,p,_⟩:=I.list G;obtain⟨aa,M,O,_⟩:=I.list F;obtain⟨u,hu,ru⟩:=N.get hx;obtain⟨C,ap,al⟩:=M.get hy;have ab:z<s.heap.objs.size:=Heap.lt_size hz;refine wpAny_pyNext_zip_item D hz m n B t p.isList O.isList (x:=u) (y:=C) #v[hu] #v[ap] λh' z' aB az ay hT hsz hk=>?_;refine⟨_,rfl,wpAny_letOwnedTupleGo_zip (s:={ s with heap:=h' }) z' λV af r=>?_⟩;have aw:V.get? s.heap.objs.size=some { cls:=.type "tuple",data:=.seq #[u,C] }:=(r.2 _ (cX ab)).trans hT;have new:ie X.prog X.w (upd H s.heap.objs.size (.tup [x,y])) V s.heap.objs.size (.tup [x,y]):=
   ⟨by show 2<=aQ;decide,[u,C],.cons ru (.cons al .nil),⟨_,aw,rfl,_,rfl⟩⟩
  have I1:Inv X pins Z (upd H s.heap.objs.size (.tup [x,y])) { s with heap:=V }:=
   I.Om (t':=s.toks) (ch:=[z,TI,TO,j,g]) (λc o f q=>(r.2 c (λd=>f (by simp[d]))).trans (hk c o (λd=>f (by simp[d])) (λd=>f (by simp[d])) (λd=>f (by simp[d])) (λd=>f (by simp[d])) q)) J (aS _) new
  refine⟨.ref s.heap.objs.size,_,I1,rfl,⟨_,x,y,rfl,I.gP.fresh (aS _),rfl,λl hl=>by rw[I.BZ hl G];exact hx,λl hl=>by rw[I.BZ hl F];exact hy⟩,⟨af,?_,⟨u,C,?_⟩,?_,?_⟩,λc ae=>?_⟩;exact(r.2 _ D.TIz).trans (hk _ _ D.TIz D.TITO D.TIi1 D.TIi2 m);exact(r.2 _ D.TOz).trans aB;exact az.at λo q=>(r.2 _ D.i1z).trans q;exact ay.at λo q=>(r.2 _ D.i2z).trans q;have ar:c<s.heap.objs.size:=by
   have e':c=z\/c=TI\/c=TO\/c=j\/c=g:=by simpa using ae
   rcases e' with q|q|q|q|q;rw[q];exact ab;rw[q];exact Heap.lt_size m;rw[q];exact Heap.lt_size n;rw[q];obtain⟨_,Y,_⟩:=B;exact Heap.lt_size Y;rw[q];obtain⟨_,W,_⟩:=t;exact Heap.lt_size W
  rw[bP (bQ ar)];exact(J c ae).1
 done:=by
  intro X T R U L i pins s Z H E I J st S;subst T R U;obtain⟨hz,m,⟨x0,y0,n⟩,B,t⟩:=st;obtain⟨xs,ys,G,F,as⟩:=S;obtain⟨bK,N,p,_⟩:=I.list G;obtain⟨aa,M,O,_⟩:=I.list F;have l1:=N.length;have l2:=M.length;have he:bK.toArray[i]? = none\/aa.toArray[i]? = none:=by rcases as with q|q;exact .inl (by simp;lia);exact .inr (by simp;lia)
  exact wpAny_pyNext_zip_end (I.ok.hd L) D hz m n B t p.isList O.isList he λh' hk=>⟨rfl,I.Vy (t':=s.toks) (ch:=[z,TI,TO,j,g]) (λc o f q=>hk c o (λd=>f (by simp[d])) (λd=>f (by simp[d])) (λd=>f (by simp[d])) (λd=>f (by simp[d])) q) J⟩
 self:=λA i s Q E st h=>Ha st.1 h
def afc(K:au)(g:TA):TI:=λd H R=>g d H λvs c=>∃a b xs f,vs=[.ref a,.ref b]/\lY K c a xs/\lY K c b f/\R (Itz K a b) c
theorem ZN{X:Cx}{e f:bL}{k:TA}{p pos t:Pos}{O:a5 bL}{y:Nat}(F:Gl X "zip")(E:X.mg "zip" = none)(J:PA X [e,f] k)(A:aG [e,f] X.env=(false,cg e X.env)::aG [f] X.env:=by rfl)(D:(ef pos (aG [f] X.env)).any (·.1)=false:=by rfl):
  PI X (.Tuple O y t) (.Call (.Name "zip" p) [e,f] [] pos) (afc X.K k):=by
 intro pins s j H R I h;refine Call_ (ml I F E yI (b9 (iW (J pos pins s j H _ I h) λus d ⟨vs,o,g,u,w⟩=>?_) A D));obtain⟨a,b,xs,Q,ex,C,B,q⟩:=w;subst ex;cases u with
|cons r i=>
  cases i with
 |cons v i=>
   cases i;cases r;cases v;obtain⟨bK,T,m,_⟩:=g.list C;obtain⟨U,S,l,_⟩:=g.list B;have la:a<d.heap.objs.size:=m.lt;have x:b<d.heap.objs.size:=l.lt;refine call_zip_2 m.isList l.isList λh' hz L K N M hsz hk=>Ha hz ?_;have P:Inv X pins j o { d with heap:=h' }:=g.kept (t':=d.toks) hk;refine⟨d.heap.objs.size+4,[d.heap.objs.size+4,d.heap.objs.size+2,d.heap.objs.size+3,d.heap.objs.size,d.heap.objs.size+1],_,_,o,rfl,P,Rc (PySem.W.ktu_apart d.heap.objs.size a b la x),⟨hz,L,⟨_,_,K⟩,N,M⟩,λc G=>?_,q⟩;have e':c=d.heap.objs.size+4\/c=d.heap.objs.size+2\/c=d.heap.objs.size+3\/c=d.heap.objs.size\/c=d.heap.objs.size+1:=by simpa using G
   have n:d.heap.objs.size<=c:=by rcases e' with z|z|z|z|z;rw[z];exact cq _ _;rw[z];exact cq _ _;rw[z];exact cq _ _;rw[z];exact aS _;rw[z];exact cq _ _
   exact g.LF n (g.gP.fresh n)
end L2
section
namespace Bits
end Bits
end
section
namespace TL
open PySem PySem.Builtin PySem.Builtin.Str PySem.StrLaws
end TL
end
namespace L2
section
variable{X:Cx}{pins:a5 (ao×Obj)}{σ:St}{H:Hp}{s:aB}{Q:VK}
end
section
variable{X:Cx}
end
section
variable{X:Cx}{o e:bL}{to te:TE}
end
section
variable{X:Cx}
end
end L2
namespace Att
open PySem PySem.W PySem.Calls PyProof.Rows
section
variable{prog:bC}{w:cu}{A:bT}{E:ak->aB->Prop}{s:aB}{K:Frag}
end
end Att
namespace L2
def inClass(s:jv)(j:Nat):jv:=match s with
|.ClassDef _ _ _ a _ _ _ _ _ _ _=>a.getD j (.Pass ⟨0,0,0,0⟩)
|_=>.Pass ⟨0,0,0,0⟩
def lH(s:jv):Arguments:=match s with
|.FunctionDef _ a _ _ _ _ _ _ _ _=>a
|_=>{ posonlyargs:=[],args:=[],vararg:=none,kwonlyargs:=[],kw_defaults:=[],kwarg:=none,defaults:=[] }
def gT(s:jv):a5 jv:=match s with
|.FunctionDef _ _ b _ _ _ _ _ _ _=>b
|_=>[]
def b7(s:jv):lV:=match s with
|.FunctionDef _ _ _ _ _ _ sc _ _ _=>sc
|_=>{ kind:=.function,names:=[],isGenerator:=false,isCoroutine:=false }
abbrev CQ:Qh:=λ_ _ _ _ _ _=>False
abbrev E0:XK:=λ_ _ _=>False
theorem Bu{X:Cx}:Passes CQ X E0:=λ_ _ _ _ _ _ _ h=>h.elim
structure Ud (K:au) (x qual:Str) (st:jv) (f:ao) (fd:gX):Prop where
 ex:∃(oc:ak)(od:Option ao)(kV doc pm:ak)(an:Option ao)(cdv ct:ak)(osl:Array (Option ak)),
  fd=fu x qual (lH st) (gT st) (b7 st) .none kV doc pm an cdv ct/\K.lookup f=some ⟨oc,od,.func fd,osl⟩/\i7 K cdv qual=true
 kp:c8 K (.ref f)=true
section
variable{P:bC}{w:cu}{K:au}{mg:Str->Option ak}{base:cY}
theorem Ud.ok{x b:Str}{st:jv}{f:ao}{c:gX}{N ps:a5 Str}{k:Nat}{sp:Sp}(F:Ud K x b st f c)(S:ke N ps (b7 st))(len:∀vs H Q E,sp vs H Q E->vs.length=ps.length)(l:∀(a:ak)(A:bT)(outer:a5 Env)(s:aB)(H:Hp)(vs:a5 V)(Q:VK)(E:XK),gC k (A.deeper (nu b (b7 st) s.heap.objs.size f a))->sp vs H Q E →
   ∃t,NX (yC CQ P w K mg base N b (b7 st) f a A outer s H E).Se (gT st) t/\t { nx:=λ_ H'=>Q .jw H',rt:=Q } (start N vs) H):lS P w K mg base CQ (k+1) f c ps sp:=by obtain⟨p,o,kV,r,m,u,a,ct,n,rfl,d,j⟩:=F.ex;refine acU d j S len λA outer s H vs Q E i g=>?_;obtain⟨t,h,q⟩:=l a A outer s H vs Q E i g;exact⟨t,h.Se,q⟩
theorem Ud.binds{x g:Str}{st:jv}{f:ao}{i:gX}{ps:a5 Str}(F:Ud K x g st f i)(h:∀(kV b a:ak)(d:Option ao)(c ct:ak)(us:a5 ak),us.length=ps.length->bindArgs (fu x g (lH st) (gT st) (b7 st) .none kV b a d c ct) ⟨us,[]⟩=pure (ps.zip us)):Binds K i ps []:=by obtain⟨l,k,kV,b,a,d,c,ct,j,rfl,m,n⟩:=F.ex;exact .all (h kV b a d c ct)
theorem S7{x a:Str}{st:jv}{f:ao}{m:ak}{j h:Option ao}{i:Array (Option ak)}{kV g d b ct:ak}(l:K.lookup f=some ⟨m,j,.func (fu x a (lH st) (gT st) (b7 st) .none kV g d h b ct),i⟩)(c:i7 K b a=true)(k:c8 K (.ref f)=true):Ud K x a st f (fu x a (lH st) (gT st) (b7 st) .none kV g d h b ct):=⟨⟨m,j,kV,g,d,h,b,ct,i,rfl,l,c⟩,k⟩
end
theorem acR{A:bT}{k:Nat}(a:gC k A):A.units+1<pU:=Uo (Nat.add_le_add_left (by decide:1<=64) _) a.units
section
variable{X:Cx}
theorem pv(i:Nat){x:Str}{pos:Pos}(c:X.N[i]? = some x:=by rfl)(a:UJ X.env.scope x:=by first|exact k6 rfl|exact ky (k6 rfl)|exact ky (ky rfl))(hd:(x == ("__debug__" : Str))=false:=by decide)(b:(x == ("__classdict__" : Str))=false:=by decide):PE X (.Name x pos) (Zp i):=Bt c a hd b
end
def kc(H H':Hp):Prop:=∀b o,H b=some o->H' b=some o
theorem kc.seq{K:au}{H H':Hp}{a:ao}{xs:a5 V}(e:kc H H')(h:lY K H a xs):lY K H' a xs:=by rcases h with(h|⟨o,h⟩)|h;exact .inl (.inl (e _ _ h));exact .inl (.inr ⟨o,e _ _ h⟩);exact .inr h
section
variable{κ:Type}[DecidableEq κ]
end
end L2
end
section
section
namespace L2
open PySem.W (WData Codec OpenSpec Well WellAll ReadsW ReadsAllW)
mutual
inductive Dw(K:au) (H:Hp):V->WData->Prop
|jw:Dw K H .jw .none
|bl (b:Bool):Dw K H (.bl b) (.bool b)
|int(i:Int):Dw K H (.int i) (.int i)
|str (x:Str):Dw K H (.str x) (.str x)
|Yq (b:Array UInt8):Dw K H (.Yq b) (.bytes b.toList)
|lst {a:ao} {xs:List V} {ds:List WData}:lY K H a xs->rH K H xs ds->Dw K H (.ref a) (.list ds)
|tup {a:ao} {xs:List V} {ds:List WData}:zy K H a xs->rH K H xs ds->Dw K H (.ref a) (.tuple ds)
inductive rH(K:au) (H:Hp):List V->List WData->Prop
|nil:rH K H [] []
|cons {v:V} {vs:List V} {d:WData} {ds:List WData}:Dw K H v d->rH K H vs ds->rH K H (v::vs) (d::ds)
end
theorem WS{K:au}{H:Hp}:∀ns:a5 Int,rH K H (ns.map V.int) (ns.map WData.int)
|[]=>.nil
|n::r=>.cons (.int n) (WS r)
theorem Wy{K:au}{H:Hp}:∀(ns:a5 Int)(xs:a5 V),rH K H xs (ns.map WData.int)->xs=ns.map V.int
|[],xs,h=>by cases h;rfl
|n::r,xs,h=>by
  cases h with
 |cons b a=>cases b;rw[Wy r _ a]<;>rfl
section
variable{P:bC}{w:cu}{K:au}{H:Hp}{h:cY}{R:Qk}{cl:Str->Option ao}
theorem Zw{a:ao}{xs:a5 V}(gP:tG P w H h)(d:K.In h)(q:lY K H a xs):∃(bK:a5 ak)(o:Obj)(n:Nat),Vals xs bK/\h.get? a=some o/\o.cls=.type "list"/\o.data=.seq bK.toArray n:=by rcases q with q|⟨o,bK,n,e,c,_,hd,_,b⟩;obtain⟨_,bK,n,b,e⟩:=(show ie P w H h a (.lst xs) from q.ok gP);exact⟨bK,_,n,b,e,rfl,rfl⟩;exact⟨bK.toList,o,n,b,d _ _ e,c,by simp[hd]⟩
theorem Zv{a:ao}{xs:a5 V}(gP:tG P w H h)(d:K.In h)(q:zy K H a xs):∃(bK:a5 ak)(o:Obj)(n:Nat),Vals xs bK/\h.get? a=some o/\o.cls=.type "tuple"/\o.data=.seq bK.toArray n:=by rcases q with q|⟨o,bK,n,e,c,hd,_,b⟩;obtain⟨_,bK,b,o,e,c,n,hd⟩:=(show ie P w H h a (.tup xs) from q.ok gP);exact⟨bK,o,n,b,e,c,hd⟩;exact⟨bK.toList,o,n,b,d _ _ e,c,by simp[hd]⟩
mutual
theorem Dw.reads(gP:tG P w H h)(a:K.In h):∀(d:WData)(v:V)(u:ak),Dw K H v d->RelV v u->∃m,ReadsW R cl h u d m
|.none,_,_,x,r=>by cases x;cases r;exact⟨_,ReadsW.none⟩
|.bool b,_,_,x,r=>by cases x;cases r;exact⟨_,ReadsW.bool b⟩
|.int i,_,_,x,r=>by cases x;obtain⟨t,rfl⟩:=r;exact⟨_,ReadsW.int i t⟩
|.str s,_,_,x,r=>by cases x;obtain⟨t,rfl⟩:=r;exact⟨_,ReadsW.str s t⟩
|.bytes b,_,_,x,r=>by cases x;obtain⟨t,rfl⟩:=r;exact⟨_,ReadsW.bytes _ t⟩
|.list ds,_,_,x,r=>by
  cases x with
 |lst f l=>cases r;obtain⟨bK,o,n,c,j,k,hd⟩:=Zw gP a f;obtain⟨m,g⟩:=Dw.readsAll gP a ds _ bK l c;exact⟨_,ReadsW.list j k hd g⟩
|.tuple ds,_,_,x,r=>by
  cases x with
 |tup f l=>cases r;obtain⟨bK,o,n,c,j,k,hd⟩:=Zv gP a f;obtain⟨m,g⟩:=Dw.readsAll gP a ds _ bK l c;exact⟨_,ReadsW.tuple j k hd g⟩
|.float _,_,_,x,_=>by cases x
|.dict _,_,_,x,_=>by cases x
|.bytearray _,_,_,x,_=>by cases x
|.set _,_,_,x,_=>by cases x
|.frozenset _,_,_,x,_=>by cases x
|.obj _ _,_,_,x,_=>by cases x
theorem Dw.readsAll(gP:tG P w H h)(b:K.In h):∀(ds:a5 WData)(vs:a5 V)(us:a5 ak),rH K H vs ds->Vals vs us->∃a,ReadsAllW R cl h us ds a
|[],_,_,x,r=>by cases x;cases r;exact⟨_,ReadsAllW.nil⟩
|d::ds,_,_,x,r=>by
  cases x with
 |cons k j=>
   cases r with
  |cons f c=>obtain⟨a,i⟩:=Dw.reads gP b d _ _ k f;obtain⟨bs,g⟩:=Dw.readsAll gP b ds _ _ j c;exact⟨_,ReadsAllW.cons i g⟩
end
end
mutual
def MT:WData->Bool
|.none=>true
|.bool _=>true
|.int _=>true
|.str _=>true
|.bytes _=>true
|.list xs=>z7 xs
|.tuple xs=>z7 xs
|_=>false
def z7:a5 WData->Bool
|[]=>true
|x::r=>MT x&&z7 r
end
theorem Iw{α:Type}{f:α->WData}(h:∀a,MT (f a)=true):∀l:a5 α,z7 (l.map f)=true
|[]=>rfl
|x::r=>by show(MT (f x)&&z7 (r.map f))=true;rw[h x,Iw h r]<;>rfl
theorem sE:∀(c:Codec)(a:c.denote),MT (c.enc a)=true
|.unit,_=>rfl
|.bool,_=>rfl
|.int _ _,_=>rfl
|.nat _ _,_=>rfl
|.u8,_=>rfl
|.bytes _ _,_=>rfl
|.text _ _ _ _,_=>rfl
|.list _ _ c,a=>Iw (λx=>sE c x) a
|.pair c d,a=>by show(MT (c.enc a.1)&&(MT (d.enc a.2)&&true))=true;rw[sE c a.1,sE d a.2]<;>rfl
|.triple c d e,a=>by show(MT (c.enc a.1)&&(MT (d.enc a.2.1)&&(MT (e.enc a.2.2)&&true)))=true;rw[sE c a.1,sE d a.2.1,sE e a.2.2]<;>rfl
|.option c,none=>rfl
|.option c,some x=>sE c x
theorem Ea:∀(b:a5 Codec)(a:Codec.denoteAll b),z7 (Codec.encAll b a)=true
|[],_=>rfl
|c::b,a=>by show(MT (c.enc a.1)&&z7 (Codec.encAll b a.2))=true;rw[sE c a.1,Ea b a.2]<;>rfl
theorem vg:∀{xs:a5 WData}{d:WData},d∈xs->d.weight<=WData.weightAll xs
|[],d,h=>absurd h #v[0]
|x::r,d,h=>by show d.weight<=x.weight+1+WData.weightAll r;rcases aq.mp h with e|m;rw[e];lia;have z:=vg m;lia
def toV:ak->V
|.none=>.jw
|.bool b=>.bl b
|.int i _=>.int i
|.str x _=>.str x
|.bytes b _=>.Yq b
|.ref a=>.ref a
|_=>.jw
def P7(A:a5 ao):ak->Prop
|.none=>True
|.bool _=>True
|.int _ _=>True
|.str _ _=>True
|.bytes _ _=>True
|.ref a=>a∈A
|_=>False
theorem P7.mono{A B:a5 ao}(h:∀a∈A,a∈B):∀{u:ak},P7 A u->P7 B u:=λ{u} x=>by
 cases u with
|ref a=>exact h a x
|none=>trivial
|bool b=>trivial
|int i t=>trivial
|str s t=>trivial
|bytes b t=>trivial
|_=>exact False.elim x
theorem Ro{A:a5 ao}{u:ak}(x:P7 A u):RelV (toV u) u:=by
 cases u with
|ref a=>rfl
|none=>rfl
|bool b=>rfl
|int i t=>exact⟨t,rfl⟩
|str s t=>exact⟨t,rfl⟩
|bytes b t=>exact⟨t,rfl⟩
|_=>exact False.elim x
theorem pX{A:a5 ao}:∀{vs:a5 ak},(∀u∈vs,P7 A u)->Vals (vs.map toV) vs
|[],_=>.nil
|u::r,h=>.cons (Ro (h u (aF ..))) (pX λx a=>h x (ah _ a))
def rJ(h:cY)(A:a5 ao)(a:ao):Prop:=∃vs:a5 ak,vs.length<=aQ/\(∀u∈vs,P7 A u) ∧
 (h.get? a=some { cls:=.type "list",data:=.seq vs.toArray }\/h.get? a=some { cls:=.type "tuple",data:=.seq vs.toArray })
theorem rJ.mono{h:cY}{A B:a5 ao}{a:ao}(k:∀a∈A,a∈B)(x:rJ h A a):rJ h B a:=by obtain⟨vs,f,d,c⟩:=x;exact⟨vs,f,λu b=>(d u b).mono k,c⟩
theorem oX{P:CT}{h:cY}:∀{vs:a5 ak}{ds:a5 WData},WellAll P h vs ds->vs.length=ds.length
|_,_,.nil=>rfl
|_,_,.cons _ b=>by show _+1=_+1;rw[oX b]
theorem DX{P:CT}{h:cY}{v:ak}{ds:a5 WData}(x:Well P h v (.list ds)):∃(a:ao)(vs:a5 ak),v=.ref a/\h.get? a=some { cls:=.type "list",data:=.seq vs.toArray }/\WellAll P h vs ds:=by
 cases x with
|list b c=>exact⟨_,_,rfl,b,c⟩
theorem A5{P:CT}{h:cY}{v:ak}{ds:a5 WData}(x:Well P h v (.tuple ds)):∃(a:ao)(vs:a5 ak),v=.ref a/\h.get? a=some { cls:=.type "tuple",data:=.seq vs.toArray }/\WellAll P h vs ds:=by
 cases x with
|tuple b c=>exact⟨_,_,rfl,b,c⟩
theorem DY{P:CT}{h:cY}{us:a5 ak}{d:WData}{ds:a5 WData}(x:WellAll P h us (d::ds)):∃(v:ak)(vs:a5 ak),us=v::vs/\Well P h v d/\WellAll P h vs ds:=by
 cases x with
|cons a b=>exact⟨_,_,rfl,a,b⟩
theorem Na{n:Nat}(h:n<=1048576):n<=aQ:=bu h #v[1]
section
variable{P:CT}{h:cY}
mutual
theorem T7:∀(d:WData)(v:ak),Well P h v d->MT d=true->d.weight<=1048576->∃A:a5 ao,P7 A v/\∀a∈A,rJ h A a
|.none,_,x,_,_=>by cases x;exact⟨[],trivial,λa m=>absurd m #v[0]⟩
|.bool b,_,x,_,_=>by cases x;exact⟨[],trivial,λa m=>absurd m #v[0]⟩
|.int i,_,x,_,_=>by cases x;exact⟨[],trivial,λa m=>absurd m #v[0]⟩
|.str s,_,x,_,_=>by cases x;exact⟨[],trivial,λa m=>absurd m #v[0]⟩
|.bytes b,_,x,_,_=>by cases x;exact⟨[],trivial,λa m=>absurd m #v[0]⟩
|.list ds,_,x,p,z=>by obtain⟨a,vs,rfl,l,g⟩:=DX x;have f:WData.weightAll ds<=1048576:=z;obtain⟨A,o,n⟩:=xn ds _ g p λd hd=>bu (vg hd) f;have k:∀b∈A,b∈a::A:=λb c=>ah _ c;refine⟨a::A,aF ..,λb c=>?_⟩;rcases aq.mp c with e|m;rw[e];exact⟨vs,Na (by rw[oX g];exact bu (An ds) f),λu j=>(o u j).mono k,.inl l⟩;exact(n b m).mono k
|.tuple ds,_,x,p,z=>by obtain⟨a,vs,rfl,l,g⟩:=A5 x;have f:WData.weightAll ds<=1048576:=z;obtain⟨A,o,n⟩:=xn ds _ g p λd hd=>bu (vg hd) f;have k:∀b∈A,b∈a::A:=λb c=>ah _ c;refine⟨a::A,aF ..,λb c=>?_⟩;rcases aq.mp c with e|m;rw[e];exact⟨vs,Na (by rw[oX g];exact bu (An ds) f),λu j=>(o u j).mono k,.inr l⟩;exact(n b m).mono k
|.float _,_,_,p,_=>aD (show false=true from p)
|.dict _,_,_,p,_=>aD (show false=true from p)
|.bytearray _,_,_,p,_=>aD (show false=true from p)
|.set _,_,_,p,_=>aD (show false=true from p)
|.frozenset _,_,_,p,_=>aD (show false=true from p)
|.obj _ _,_,_,p,_=>aD (show false=true from p)
theorem xn:∀(ds:a5 WData)(vs:a5 ak),WellAll P h vs ds->z7 ds=true->(∀d∈ds,d.weight<=1048576)->∃A:a5 ao,(∀u∈vs,P7 A u)/\∀a∈A,rJ h A a
|[],_,x,_,_=>by cases x;exact⟨[],λu m=>absurd m #v[0],λa m=>absurd m #v[0]⟩
|d::ds,_,x,p,z=>by obtain⟨v,vs,rfl,j,i⟩:=DY x;have q:MT d=true/\z7 ds=true:=N5.mp p;obtain⟨A,a1,a2⟩:=T7 d v j q.1 (z d (aF ..));obtain⟨B,n,b2⟩:=xn ds vs i q.2 λe l=>z e (ah _ l);have g:∀b∈A,b∈A++B:=λb c=>aI.mpr (.inl c);have f:∀b∈B,b∈A++B:=λb c=>aI.mpr (.inr c);refine⟨A++B,λu k=>?_,λb c=>?_⟩;rcases aq.mp k with e|m;rw[e];exact a1.mono g;exact(n u m).mono f;rcases aI.mp c with m|m;exact(a2 b m).mono g;exact(b2 b m).mono f
end
end
def WB(o:Obj):Option HO:=match o.data with
|.seq vs _=>if(o.cls == Value.type "list")=true then some (.sR o (.lst (vs.toList.map toV))) else some (.sR o (.tup (vs.toList.map toV)))
|_=>none
def qV(K:au)(h:cY)(A:a5 ao):Hp:=λb=>if b∈A then(if(K.lookup b).isNone=true then(h.get? b).bind WB else none) else none
def JV(H:Hp):Prop:=∀b,H b=none\/∃o u,H b=some (.sR o u)
theorem Jr(vs:a5 ak):WB { cls:=.type "list",data:=.seq vs.toArray }=some (.sR { cls:=.type "list",data:=.seq vs.toArray } (.lst (vs.map toV))):=by show(if(Value.type "list" == Value.type "list")=true then some (HO.sR { cls:=.type "list",data:=.seq vs.toArray } (.lst (vs.toArray.toList.map toV))) else some (HO.sR { cls:=.type "list",data:=.seq vs.toArray } (.tup (vs.toArray.toList.map toV))))=_;rw[if_pos (beq_self_eq_true _)]
theorem Jq(vs:a5 ak):WB { cls:=.type "tuple",data:=.seq vs.toArray }=some (.sR { cls:=.type "tuple",data:=.seq vs.toArray } (.tup (vs.map toV))):=by show(if(Value.type "tuple" == Value.type "list")=true then some (HO.sR { cls:=.type "tuple",data:=.seq vs.toArray } (.lst (vs.toArray.toList.map toV))) else some (HO.sR { cls:=.type "tuple",data:=.seq vs.toArray } (.tup (vs.toArray.toList.map toV))))=_;rw[if_neg #v[1]]
section
variable{P:bC}{w:cu}{K:au}{h:cY}{A:a5 ao}
theorem AV{b:ao}{o:Obj}(a:b∈A)(hk:K.lookup b=none)(e:h.get? b=some o):qV K h A b=WB o:=by unfold qV;rw[if_pos a,hk,if_pos (show(none:Option Obj).isNone=true from rfl),e]<;>rfl
theorem Wh{b:ao}{u:HO}(q:qV K h A b=some u):b∈A/\K.lookup b=none:=by
 unfold qV at q;by_cases a:b∈A;rw[if_pos a]at q;cases hk:K.lookup b with
|none=>exact⟨a,rfl⟩
|some o=>rw[hk,if_neg #v[0]]at q;cases q
 rw[if_neg a]at q;cases q
theorem AU(i:∀a∈A,rJ h A a){b:ao}{u:HO}(q:qV K h A b=some u):K.lookup b=none/\∃vs:a5 ak,vs.length<=aQ/\(∀u∈vs,P7 A u) ∧
  ((h.get? b=some { cls:=.type "list",data:=.seq vs.toArray }/\u=.sR { cls:=.type "list",data:=.seq vs.toArray } (.lst (vs.map toV))) ∨
  (h.get? b=some { cls:=.type "tuple",data:=.seq vs.toArray }/\u=.sR { cls:=.type "tuple",data:=.seq vs.toArray } (.tup (vs.map toV)))):=by obtain⟨c,hk⟩:=Wh q;obtain⟨vs,g,f,d⟩:=i b c;refine⟨hk,vs,g,f,?_⟩;rcases d with e|e;rw[AV c hk e,Jr]at q;exact .inl ⟨e,(aH q).symm⟩;rw[AV c hk e,Jq]at q;exact .inr ⟨e,(aH q).symm⟩
theorem P5(c:∀a∈A,rJ h A a):JV (qV K h A):=λb=>by
 cases q:qV K h A b with
|none=>exact .inl rfl
|some u=>obtain⟨_,vs,_,_,⟨_,e⟩|⟨_,e⟩⟩:=AU c q;exact .inr ⟨_,_,by rw[e]⟩;exact .inr ⟨_,_,by rw[e]⟩
theorem Xb(f:∀a∈A,rJ h A a):tG P w (qV K h A) h:=λb u q=>by obtain⟨_,vs,d,c,⟨e,rfl⟩|⟨e,rfl⟩⟩:=AU f q;exact⟨e,by rw[ai];exact d,vs,_,pX c,e⟩;exact⟨e,by rw[ai];exact d,vs,pX c,_,e,rfl,_,rfl⟩
theorem AF{c a:ak}{vs us:a5 ak}(e:(some { cls:=c,data:=.seq vs.toArray }:Option Obj)=some { cls:=a,data:=.seq us.toArray }):c=a/\vs=us:=by have b:=aH e;have h:c=a:=congrArg Obj.cls b;have g:Data.seq vs.toArray=Data.seq us.toArray:=congrArg Obj.data b;injection g with f;refine⟨h,?_⟩;have d:=congrArg Kf f;simpa using d
theorem afp(k:K.In h)(j:∀a∈A,rJ h A a){a:ao}{vs:a5 ak}(b:a∈A)(e:h.get? a=some { cls:=.type "list",data:=.seq vs.toArray }):(∀u∈vs,P7 A u)/\lY K (qV K h A) a (vs.map toV):=by
 obtain⟨us,i,c,g⟩:=j a b;have f:us=vs:=by rcases g with q|q;rw[e]at q;exact(AF q).2.symm;rw[e]at q;exact absurd (Value.type.inj (AF q).1) #v[1]
 subst f;refine⟨c,?_⟩;cases hk:K.lookup a with
|none=>exact .inl (.inr ⟨_,by rw[AV b hk e,Jr]⟩)
|some o=>have d:=k a o hk;rw[e]at d;obtain rfl:=aH d;exact .inr ⟨_,us.toArray,_,hk,rfl,rfl,rfl,by rw[aX];exact i,by simpa using pX c⟩
theorem afo(k:K.In h)(j:∀a∈A,rJ h A a){a:ao}{vs:a5 ak}(b:a∈A)(e:h.get? a=some { cls:=.type "tuple",data:=.seq vs.toArray }):(∀u∈vs,P7 A u)/\zy K (qV K h A) a (vs.map toV):=by
 obtain⟨us,i,c,g⟩:=j a b;have f:us=vs:=by rcases g with q|q;rw[e]at q;exact absurd (Value.type.inj (AF q).1) #v[1];rw[e]at q;exact(AF q).2.symm
 subst f;refine⟨c,?_⟩;cases hk:K.lookup a with
|none=>exact .inl (.inr ⟨_,by rw[AV b hk e,Jq]⟩)
|some o=>have d:=k a o hk;rw[e]at d;obtain rfl:=aH d;exact .inr ⟨_,us.toArray,_,hk,rfl,rfl,by rw[aX];exact i,by simpa using pX c⟩
mutual
theorem aaS{n:CT}(f:K.In h)(c:∀a∈A,rJ h A a):∀(d:WData)(v:ak),Well n h v d->MT d=true->P7 A v->Dw K (qV K h A) (toV v) d
|.none,_,x,_,_=>by cases x;exact .jw
|.bool b,_,x,_,_=>by cases x;exact .bl b
|.int i,_,x,_,_=>by cases x;exact .int i
|.str s,_,x,_,_=>by cases x;exact .str s
|.bytes b,_,x,_,_=>by cases x;have z:=Dw.Yq (K:=K) (H:=qV K h A) b.toArray;exact z
|.list ds,_,x,p,g=>by obtain⟨a,vs,rfl,k,l⟩:=DX x;obtain⟨m,j⟩:=afp f c g k;exact .lst j (GA f c ds _ l p m)
|.tuple ds,_,x,p,g=>by obtain⟨a,vs,rfl,k,l⟩:=A5 x;obtain⟨m,j⟩:=afo f c g k;exact .tup j (GA f c ds _ l p m)
|.float _,_,_,p,_=>aD (show false=true from p)
|.dict _,_,_,p,_=>aD (show false=true from p)
|.bytearray _,_,_,p,_=>aD (show false=true from p)
|.set _,_,_,p,_=>aD (show false=true from p)
|.frozenset _,_,_,p,_=>aD (show false=true from p)
|.obj _ _,_,_,p,_=>aD (show false=true from p)
theorem GA{j:CT}(f:K.In h)(c:∀a∈A,rJ h A a):∀(ds:a5 WData)(vs:a5 ak),WellAll j h vs ds->z7 ds=true->(∀u∈vs,P7 A u)->rH K (qV K h A) (vs.map toV) ds
|[],_,x,_,_=>by cases x;exact .nil
|d::ds,_,x,p,b=>by obtain⟨v,vs,rfl,i,g⟩:=DY x;have q:MT d=true/\z7 ds=true:=N5.mp p;exact .cons (aaS f c d v i q.1 (b _ (aF ..))) (GA f c ds vs g q.2 λu m=>b u (ah _ m))
end
end
theorem Oy{P:bC}{w:cu}{K:au}{mg l:Str->Option ak}{CX:Qh}{k:Nat}{S:ao}{Q:gX}{ps:a5 Str}{sp:Sp}{a:aB}{vals:a5 ak}{ds:a5 WData}{R:Qk}{cl:Str->Option ao}{d0:WData}(C:K.In a.heap)(L:a.heap.Ns bc mg)(t:a.heap.Ns builtinsNs l)(aj:∀x:Str,x≠"__name__"->l x=gH x)(af:a.heap.NoLimit)(hg:a.gens = #[])(p:WellAll w.params a.heap vals ds)(G:z7 ds=true)(ab:∀d∈ds,d.weight<=1048576)(hr:gC k Ku)(F:∀base:cY,K.In base->base.Ns bc mg->lS P w K mg base CX k S Q ps sp)(ai:∀(s:aB)(us:a5 ak),us.length=ps.length->Kv s Q ⟨us,[]⟩ (ps.zip us))(ag:ds.length=ps.length)(ac:∀(H:Hp)(xs:a5 V),JV H->rH K H xs ds->sp xs H (λv H'=>Dw K H' v d0) λ_ _ _=>False)(an:∀H e c,CX [] H a (λ_ _ _=>False) e c->False):
  oO (bb P w) Ku (.call (.ref S) ⟨vals,[]⟩) (λr c=>∃u B,r=.ok (.ret u)/\ReadsW R cl c.heap u d0 B/\OldK a.heap c.heap/\c.os=a.os/\DW c.gens) a:=by
 obtain⟨A,J,i⟩:=xn ds vals p G ab;have y:JV (qV K a.heap A):=P5 i;have gP:tG P w (qV K a.heap A) a.heap:=Xb i;have M:=GA C i ds vals p G J;have hV:=pX J;have O:∀b u,qV K a.heap A b=some u->K.lookup b=none:=λb u q=>(AU i q).1;have E:∀{b:ao}{o:Obj}{f:Array jF}{g:Nat},a.heap.get? b=some o->o.data=.dict f g->qV K a.heap A b=none:=λ{b o f g} e d=>by
  cases q:qV K a.heap A b with
 |none=>rfl
 |some u=>obtain⟨_,vs,_,_,⟨h,_⟩|⟨h,_⟩⟩:=AU i q;rw[h]at e;cases e;have d':Data.seq vs.toArray _=Data.dict f g:=d;cases d';rw[h]at e;cases e;have d':Data.seq vs.toArray _=Data.dict f g:=d;cases d'
 generalize qV K a.heap A=H at y gP M O E;have U:∀{b:ao}{o:Obj},a.heap.get? b=some o->H b=none->(Gv a.heap H).get? b=some o:=λe n=>SW e n;have j:∀{b:ao}{m:Str->Option ak},a.heap.Ns b m->(Gv a.heap H).Ns b m:=λ{b m} ⟨o,f,g,e,d,r⟩=>⟨o,f,g,U e (E e d),d,r⟩;have Z:∀b o,K.lookup b=some o->H b=none:=λb o e=>by
  cases q:H b with
 |none=>rfl
 |some u=>rw[O b u q]at e;cases e
 have N:K.In (Gv a.heap H):=λb o e=>U (C b o e) (Z b o e);have hM:Mod K mg (Gv a.heap H):=⟨N,j L,⟨l,j t,aj⟩,let⟨mc,h1,h2⟩:=af;⟨mc,j h1,h2⟩⟩;have e0:Al P w K mg (Gv a.heap H) Ku [] a H:=⟨rfl,hM,λb o e=>Wg e,jD (PH _ _),trivial,λb t=>absurd (show b∈([]:a5 ao) from t) #v[0],gP,.of_eq hg⟩;have hl:vals.length=ps.length:=by rw[oX p];exact ag
 refine vX ((F _ N (j L)).run Ku [] a H ⟨vals,[]⟩ vals (vals.map toV) _ _ hr e0 (ai a vals hl) hV (ac H _ y M)) λr c x=>?_;cases r with
|error e=>exact(an H e c x).elim
|ok fl=>
  cases fl with
 |next=>exact False.elim x
 |brk=>exact False.elim x
 |cont=>exact False.elim x
 |ret u=>
   obtain⟨v,H',os,bare,un,I,X,q⟩:=x;have kept:∀b o,a.heap.get? b=some o->c.heap.get? b=some o:=λb o e=>by
    cases D:H b with
   |none=>exact un.keep b o e D (by intro z;exact absurd (show b∈([]:a5 ao) from z) #v[0]) #v[0]
   |some u2=>rcases y b with z|⟨Y,u3,z⟩;rw[D]at z;cases z;have W:=un.Gx b Y _ z;obtain⟨T,_⟩:=gP b _ z;obtain⟨h,_⟩:=I b _ W;rw[e]at T;cases T;exact h
   have KX':K.In c.heap:=λb o e=>kept b o (C b o e);obtain⟨B,ad⟩:=Dw.reads (R:=R) (cl:=cl) I KX' d0 v u q X;exact⟨u,B,rfl,ad,OldK.of_keep kept,os,bare⟩
theorem B4{ds:a5 WData}(h:WData.layableAll ds=true):∀d∈ds,d.weight<=1048576:=λd hd=>(PySem.W.layableW_iff.mp (bf.mp h d hd)).2.2
theorem Cf:∀(b:a5 Codec)(a:Codec.denoteAll b),(Codec.encAll b a).length=b.length
|[],_=>rfl
|c::b,a=>by show(Codec.encAll b a.2).length+1=b.length+1;rw[Cf b a.2]
theorem Oi{r:OpenSpec}{k:Nat}{q:bC}{n:a5 Str}{XP:(Str->Option ak)->cY->Prop}{i:cu->cY->Prop}{d:DefRec}{K:CT->au}{CX:cu->Qh}{ps:a5 Str}{sp:cu->Sp}(t:r.wellSaid=true)(ai:d.params.defaults=[])(D:r.args.length=ps.length)(y:gC k Ku)(L:∀(w:cu)(h:cY),i w h->(K w.params).In h)(F:∀(w:cu)(mg:Str->Option ak)(c:ao)(h:cY),i w h->(K w.params).In h->h.Ns bc mg->mg d.name=some (.ref c) →
   ∃g:gX,(∀(s:aB)(us:a5 ak),us.length=ps.length->Kv s g ⟨us,[]⟩ (ps.zip us)) ∧
    ∀base:cY,(K w.params).In base->base.Ns bc mg->lS r.prog w (K w.params) mg base (CX w) k c g ps (sp w))(x:∀(w:cu)(H:Hp)(xs:a5 V)(a:Codec.denoteAll r.args),JV H->Codec.withinAll r.args a=true->Codec.app r.args r.asked a=true->rH (K w.params) H xs (Codec.encAll r.args a) →
   sp w xs H (λv H'=>Dw (K w.params) H' v (r.ret.enc (Codec.app r.args r.f a))) λ_ _ _=>False)(P:∀(w:cu)(H:Hp)(s:aB)(e:ak)(b:aB),CX w [] H s (λ_ _ _=>False) e b->False):
  Um q n XP i r d [] (λf vs=>PySem.call f vs):=by
 intro w C3 m mg mb G Y c o pm cd am dV kV ho hd aj hD C I args vals as B E af p ah;obtain⟨a,Z,X⟩:=PySem.W.os_pre_some B;obtain⟨W,j⟩:=Codec.encAll_of_decAll r.args args a Z;subst W;have l:=L w _ Y;obtain⟨g,J,O⟩:=F w mg c _ Y l G.T.g C;refine PySem.W.enter_call (vX (Oy (R:=[]) (cl:=classAt C3.heap) (d0:=r.ret.enc (Codec.app r.args r.f a)) l G.T.g G.T.b G.T.builtins G.T.nolimit I p (Ea _ _) (B4 E) y O J (by rw[Cf];exact D)
  (λH xs N M=>x w H xs a N j X M) λH e b=>P w H m e b) λr' b A=>?_)
 obtain⟨u,aa,rfl,U,T,S,Q⟩:=A;exact⟨.inl ⟨u,_,aa,rfl,λ_=>rfl,U,(OpenSpec.post_iff t j _ _).mpr rfl,λz=>aD (show false=true from z)⟩,T,S,Q⟩
theorem Zh{r:OpenSpec}{k:Nat}{q:bC}{j:a5 Str}{B:(Str->Option ak)->cY->Prop}{c:cu->cY->Prop}{d:DefRec}{K:CT->au}{CX:Qh}{ps:a5 Str}{sp:au->Sp}(l:r.wellSaid=true)(p:d.params.defaults=[])(o:r.args.length=ps.length)(n:gC k Ku)(t:∀(w:cu)(h:cY),c w h->(K w.params).In h)(F:∀(w:cu)(mg:Str->Option ak)(i:ao)(h:cY),c w h->(K w.params).In h->h.Ns bc mg->mg d.name=some (.ref i) →
   ∃g:gX,(∀(s:aB)(us:a5 ak),us.length=ps.length->Kv s g ⟨us,[]⟩ (ps.zip us)) ∧
    ∀base:cY,(K w.params).In base->base.Ns bc mg->lS r.prog w (K w.params) mg base CX k i g ps (sp (K w.params)))(m:∀(K:au)(H:Hp)(xs:a5 V)(a:Codec.denoteAll r.args),JV H->Codec.withinAll r.args a=true->Codec.app r.args r.asked a=true->rH K H xs (Codec.encAll r.args a) →
   sp K xs H (λv H'=>Dw K H' v (r.ret.enc (Codec.app r.args r.f a))) λ_ _ _=>False)(u:∀(H:Hp)(s:aB)(e:ak)(b:aB),CX [] H s (λ_ _ _=>False) e b->False):
  Um q j B c r d [] (λf vs=>PySem.call f vs):=
 Oi (K:=K) (CX:=λ_=>CX) (sp:=λw=>sp (K w.params)) l p o n t F (λw H xs a A z y x=>m (K w.params) H xs a A z y x) λ_ H s e b=>u H s e b
end L2
end
end
namespace DL
open L2
inductive D where
|jw|bl (b:Bool)|int (i:Int)|tup (ds:List D)|kt (ds:List D)|zl (ds:List D)|lst (ds:List D)|yX (r p:D)|dU|fn (a:ao)
structure Gb where
 K:au
 cS:ao
 cT:ao
structure Sh where
 on:Bool
 sa:ao
 la:ao
def Xi(K:au)(a:ao)(xs:a5 V):Prop:=
 ∃(o:Obj)(bK:Array ak)(n:Nat),K.lookup a=some o/\o.cls=.type "tuple"/\o.data=.seq bK n/\bK.size<=aQ/\Vals xs bK.toList
def Md(K:au)(b:ao->Prop)(H:Hp)(a:ao)(xs:a5 V):Prop:=
 (¬b a/\(H a=some (.lst xs)\/∃o,H a=some (.sR o (.lst xs))))\/∃(o:Obj)(bK:Array ak)(n:Nat),K.lookup a=some o/\o.cls=.type "list"/\o.dict=none/\o.data=.seq bK n/\bK.size<=aQ/\Vals xs bK.toList
theorem Md.imp{K:au}{c b:ao->Prop}{H H':Hp}{a:ao}{xs:a5 V}(k:∀a o,¬c a->H a=some o->¬b a/\H' a=some o)(h:Md K c H a xs):Md K b H' a xs:=by rcases h with⟨n,h|⟨o,h⟩⟩|h;exact .inl ⟨(k _ _ n h).1,.inl (k _ _ n h).2⟩;exact .inl ⟨(k _ _ n h).1,.inr ⟨o,(k _ _ n h).2⟩⟩;exact .inr h
theorem Md.sq{K:au}{b:ao->Prop}{H:Hp}{a:ao}{xs:a5 V}(h:Md K b H a xs):lY K H a xs:=h.elim (λz=>.inl z.2) .inr
mutual
inductive Rep (G:Gb) (sa:ao) (Av:ao->Prop) (H:Hp):D->V->Prop
|jw:Rep G sa Av H .jw .jw
|bl (b:Bool):Rep G sa Av H (.bl b) (.bl b)
|int(i:Int):Rep G sa Av H (.int i) (.int i)
|tup {a:ao} {xs:List V} {ds:List D}:¬Av a->H a=some (.tup xs)->bV G sa Av H ds xs->Rep G sa Av H (.tup ds) (.ref a)
|Gn {a:ao} {xs:List V} {ds:List D}:Xi G.K a xs->bV G sa Av H ds xs->Rep G sa Av H (.kt ds) (.ref a)
|zl {a:ao} {xs:List V} {ds:List D}:Md G.K Av H a xs->bV G sa Av H ds xs->Rep G sa Av H (.zl ds) (.ref a)
|lst {a:ao} {xs:List V} {ds:List D}:¬Av a->H a=some (.lst xs)->bV G sa Av H ds xs->Rep G sa Av H (.lst ds) (.ref a)
|yX {a dx:ao} {fs:List (Str×V)} {rv pv:V} {r p:D}:¬Av a->H a=some (.ins G.cS dx fs)->fs.lookup ("radius" : Str)=some rv->fs.lookup ("points" : Str)=some pv →
   Rep G sa Av H r rv->Rep G sa Av H p pv->Rep G sa Av H (.yX r p) (.ref a)
|dU:Rep G sa Av H .dU (.ref sa)
|fn(a:ao):Rep G sa Av H (.fn a) (.ref a)
inductive bV (G:Gb) (sa:ao) (Av:ao->Prop) (H:Hp):List D->List V->Prop
|nil:bV G sa Av H [] []
|cons {d:D} {ds:List D} {v:V} {vs:List V}:Rep G sa Av H d v->bV G sa Av H ds vs->bV G sa Av H (d::ds) (v::vs)
end
section
variable{G:Gb}{sa:ao}{Av Av':ao->Prop}{H H':Hp}
mutual
theorem Rep.imp(k:∀a o,¬Av a->H a=some o->¬Av' a/\H' a=some o):∀{d:D}{v:V},Rep G sa Av H d v->Rep G sa Av' H' d v
|_,_,.jw=>.jw
|_,_,.bl b=>.bl b
|_,_,.int i=>.int i
|_,_,.tup n e r=>.tup (k _ _ n e).1 (k _ _ n e).2 (bV.imp k r)
|_,_,.Gn e r=>.Gn e (bV.imp k r)
|_,_,.zl e r=>.zl (e.imp k) (bV.imp k r)
|_,_,.lst n e r=>.lst (k _ _ n e).1 (k _ _ n e).2 (bV.imp k r)
|_,_,.yX n e l1 l2 f c=>.yX (k _ _ n e).1 (k _ _ n e).2 l1 l2 (Rep.imp k f) (Rep.imp k c)
|_,_,.dU=>.dU
|_,_,.fn a=>.fn a
theorem bV.imp(k:∀a o,¬Av a->H a=some o->¬Av' a/\H' a=some o):∀{ds:a5 D}{vs:a5 V},bV G sa Av H ds vs->bV G sa Av' H' ds vs
|_,_,.nil=>.nil
|_,_,.cons r t=>.cons (Rep.imp k r) (bV.imp k t)
end
theorem bV.length:∀{ds:a5 D}{vs:a5 V},bV G sa Av H ds vs->ds.length=vs.length
|_,_,.nil=>rfl
|_,_,.cons _ t=>by simp[t.length]
theorem bV.get:∀{ds:a5 D}{vs:a5 V}{i:Nat}{d:D},bV G sa Av H ds vs->ds[i]? = some d->∃v,vs[i]? = some v/\Rep G sa Av H d v
|_,_,_,_,.nil,e=>by simp at e
|_,_,0,_,.cons r _,e=>by simp at e;subst e;exact⟨_,rfl,r⟩
|_,_,i+1,d,.cons _ t,e=>by obtain⟨v,b,a⟩:=bV.get (i:=i) (d:=d) t #v[e];exact⟨v,by simpa using b,a⟩
theorem bV.append:∀{ds a:a5 D}{vs us:a5 V},bV G sa Av H ds vs->bV G sa Av H a us->bV G sa Av H (ds++a) (vs++us)
|_,_,_,_,.nil,s=>s
|_,_,_,_,.cons r t,s=>.cons r (bV.append t s)
theorem bV.take:∀{ds:a5 D}{vs:a5 V}(n:Nat),bV G sa Av H ds vs->bV G sa Av H (ds.take n) (vs.take n)
|_,_,0,_=>.nil
|_,_,_+1,.nil=>.nil
|_,_,n+1,.cons r t=>.cons r (bV.take n t)
theorem bV.drop:∀{ds:a5 D}{vs:a5 V}(n:Nat),bV G sa Av H ds vs->bV G sa Av H (ds.drop n) (vs.drop n)
|_,_,0,r=>r
|_,_,_+1,.nil=>.nil
|_,_,n+1,.cons _ t=>bV.drop n t
theorem bV.set:∀{ds:a5 D}{vs:a5 V}{d:D}{v:V}(n:Nat),Rep G sa Av H d v->bV G sa Av H ds vs->bV G sa Av H (ds.set n d) (vs.set n v)
|_,_,_,_,_,_,.nil=>.nil
|_,_,_,_,0,r,.cons _ t=>.cons r t
|_,_,_,_,n+1,r,.cons q t=>.cons q (bV.set n r t)
theorem bV.rev:∀{ds:a5 D}{vs:a5 V},bV G sa Av H ds vs->bV G sa Av H ds.reverse vs.reverse
|_,_,.nil=>.nil
|_,_,.cons r t=>by rw[gE,gE];exact(bV.rev t).append (.cons r .nil)
theorem bV.eraseIdx:∀{ds:a5 D}{vs:a5 V}(n:Nat),bV G sa Av H ds vs->bV G sa Av H (ds.eraseIdx n) (vs.eraseIdx n)
|_,_,_,.nil=>.nil
|_,_,0,.cons _ t=>t
|_,_,n+1,.cons r t=>.cons r (bV.eraseIdx n t)
theorem bV.ints:∀(ns:a5 Int),bV G sa Av H (ns.map D.int) (ns.map V.int)
|[]=>.nil
|n::r=>.cons (.int n) (bV.ints r)
theorem bV.Nf:∀(ns:a5 Int){vs:a5 V},bV G sa Av H (ns.map D.int) vs->vs=ns.map V.int
|[],_,r=>by cases r;rfl
|n::t,_,r=>by
  cases r with
 |cons r q=>cases r;rw[bV.Nf t q];rfl
end
def Le(h:Sh)(H H':Hp):Prop:=∀b o,H b=some o->¬(h.on=true/\b=h.la)->H' b=some o
theorem Le.refl{h:Sh}{H:Hp}:Le h H H:=λ_ _ e _=>e
theorem Le.trans{h:Sh}{H f d:Hp}(a:Le h H f)(b:Le h f d):Le h H d:=λc o e n=>b c o (a c o e n) n
theorem Le.of{h:Sh}{H H':Hp}(s:kc H H'):Le h H H':=λb o e _=>s b o e
theorem Le.new{h:Sh}{H:Hp}{p:ao}{o:HO}(e:H p=none):Le h H (upd H p o):=λb u q _=>by rw[bP (cN q e)];exact q
def p8(la:ao):a5 (Str×V):=sA "places" (.ref la) []
def IsL(H:Hp)(a:ao):Prop:=∃xs,H a=some (.lst xs)
theorem IsL.ne{H:Hp}{a:ao}(h:IsL H a):H a≠none:=λz=>by obtain⟨xs,e⟩:=h;rw[z]at e;cases e
structure Ok (G:Gb) (h:Sh) (Av:ao->Prop) (S:a5 D) (H:Hp):Prop where
 av:∀a,Av a->IsL H a
 on:h.on=true->Av h.la/\(∃dx,H h.sa=some (.ins G.cT dx (p8 h.la)))/\∃xs,H h.la=some (.lst xs)/\bV G h.sa Av H S xs
 sz:S≠[]->h.on=true
 Bc:h.on=true->S≠[]
inductive Sl where
|sh (d:D)
|ow (ds:List D)
abbrev Env:=a5 (Option Sl)
def lT(b:ao->Prop)(O:Nat->Option ao)(a:ao):Prop:=b a\/∃i:Nat,O i=some a
def adD(G:Gb)(h:Sh)(A:ao->Prop)(O:Nat->Option ao)(H:Hp)(b:L2.St)(i:Nat):Sl->Prop
|.sh d=>∃v,b[i]? = some (some v)/\Rep G h.sa A H d v
|.ow ds=>∃a xs,O i=some a/\b[i]? = some (some (.ref a))/\H a=some (.lst xs)/\bV G h.sa A H ds xs
structure St (G:Gb) (h:Sh) (Av:ao->Prop) (H0:Hp) (O:Nat->Option ao) (ρ:Env) (S:a5 D) (σ:L2.St) (H:Hp):Prop where
 le:Le h H0 H
 ent:∀a,Av a->H0 a≠none
 la:h.on=true->Av h.la
 ok:Ok G h (lT Av O) S H
 own:∀i a,O i=some a->H0 a=none/\∃xs,H a=some (.lst xs)
 inj:∀i j a,O i=some a->O j=some a->i=j
 len:σ.length=ρ.length
 slot:∀(i:Nat) s,ρ[i]? = some (some s)->adD G h (lT Av O) O H σ i s
 fin:∃N:Nat,∀i,N<=i->O i=none
 sup:∀(i:Nat) a,O i=some a->(∃ds,ρ[i]? = some (some (.ow ds)))\/ρ.length<=i
section
variable{G:Gb}{h:Sh}{Av:ao->Prop}{H0 H H':Hp}{O:Nat->Option ao}{ρ:Env}{S S':a5 D}{σ:L2.St}
theorem St.nla(s:St G h Av H0 O ρ S σ H){b:ao}(n:¬lT Av O b):¬(h.on=true/\b=h.la):=λ⟨o,e⟩=>n (.inl (by rw[e];exact s.la o))
theorem St.keep(s:St G h Av H0 O ρ S σ H)(le:Le h H H'):∀a o,¬lT Av O a->H a=some o->¬lT Av O a/\H' a=some o:=λa o n e=>⟨n,le a o e (s.nla n)⟩
theorem St.rep(s:St G h Av H0 O ρ S σ H)(le:Le h H H'){d:D}{v:V}(r:Rep G h.sa (lT Av O) H d v):Rep G h.sa (lT Av O) H' d v:=r.imp (s.keep le)
theorem St.vq(s:St G h Av H0 O ρ S σ H)(le:Le h H H'){d:a5 D}{v:a5 V}(r:bV G h.sa (lT Av O) H d v):bV G h.sa (lT Av O) H' d v:=r.imp (s.keep le)
theorem St.grow(s:St G h Av H0 O ρ S σ H)(le:Le h H H')(ok:Ok G h (lT Av O) S' H'):St G h Av H0 O ρ S' σ H' where
 le:=s.le.trans le
 ent:=s.ent
 la:=s.la
 ok:=ok
 own:=λi a e=>by obtain⟨n,xs,q⟩:=s.own i a e;refine⟨n,xs,le a _ q ?_⟩;rintro⟨o,rfl⟩;exact s.ent _ (s.la o) n
 inj:=s.inj
 len:=s.len
 fin:=s.fin
 sup:=s.sup
 slot:=λi sl e=>by
  have q:=s.slot i sl e;cases sl with
 |sh d=>obtain⟨v,b,c⟩:=q;exact⟨v,b,s.rep le c⟩
 |ow ds=>obtain⟨a,xs,b,c,g,f⟩:=q;refine⟨a,xs,b,c,le a _ g ?_,s.vq le f⟩;rintro⟨o,rfl⟩;exact s.ent _ (s.la o) (s.own i _ b).1
theorem Ok.up{A:ao->Prop}(ok:Ok G h A S H)(le:kc H H'):Ok G h A S H' where
 av:=λa e=>let⟨xs,z⟩:=ok.av a e;⟨xs,le _ _ z⟩
 on:=λo=>by obtain⟨f,⟨dx,d⟩,xs,c,b⟩:=ok.on o;exact⟨f,⟨dx,le _ _ d⟩,xs,le _ _ c,b.imp λa o n e=>⟨n,le a o e⟩⟩
 sz:=ok.sz
 Bc:=ok.Bc
theorem St.same(s:St G h Av H0 O ρ S σ H)(le:kc H H'):St G h Av H0 O ρ S σ H':=s.grow (.of le) (s.ok.up le)
theorem fN{p:ao}{o:HO}(e:H p=none):kc H (upd H p o):=λb u q=>by rw[bP (cN q e)];exact q
theorem St.fresh(s:St G h Av H0 O ρ S σ H){p:ao}(e:H p=none):¬lT Av O p:=λn=>(s.ok.av p n).ne e
end
abbrev jg:=Env->a5 D->(D->a5 D->Prop)->Prop
abbrev xp:=Env->a5 D->(Bool->a5 D->Prop)->Prop
abbrev lJ:=Env->a5 D->(a5 D->a5 D->Prop)->Prop
structure CO where
 nx:Env->a5 D->Prop
 rt:D->a5 D->Prop
abbrev uC:=Env->a5 D->CO->Prop
inductive adF (G:Gb) (h:Sh) (Av:ao->Prop) (H0:Hp) (O:Nat->Option ao) (ρ:Env) (σ:L2.St) (H:Hp) (Q:D->List D->Prop) (v:V) (H':Hp):Prop
|mk (d:D) (S':List D) (_:St G h Av H0 O ρ S' σ H') (_:Le h H H') (_:Rep G h.sa (lT Av O) H' d v) (_:Q d S')
inductive adE (G:Gb) (h:Sh) (Av:ao->Prop) (H0:Hp) (O:Nat->Option ao) (ρ:Env) (σ:L2.St) (H:Hp) (Q:Bool->List D->Prop) (b:Bool) (H':Hp):Prop
|mk (S':List D) (_:St G h Av H0 O ρ S' σ H') (_:Le h H H') (_:Q b S')
inductive adG (G:Gb) (h:Sh) (Av:ao->Prop) (H0:Hp) (O:Nat->Option ao) (ρ:Env) (σ:L2.St) (H:Hp) (Q:List D->List D->Prop) (vs:List V) (H':Hp):Prop
|mk (ds S':List D) (_:St G h Av H0 O ρ S' σ H') (_:Le h H H') (_:bV G h.sa (lT Av O) H' ds vs) (_:Q ds S')
inductive XI (G:Gb) (t:jg) (σ:L2.St) (H:Hp) (Q:VK):Prop
|mk (h:Sh) (Av:ao->Prop) (H0:Hp) (O:Nat->Option ao) (ρ:Env) (S:List D) (Q':D->List D->Prop) (_:St G h Av H0 O ρ S σ H) (_:t ρ S Q') (_:∀v H',adF G h Av H0 O ρ σ H Q' v H'->Q v H')
inductive upT (G:Gb) (t:xp) (σ:L2.St) (H:Hp) (Q:Bool->Hp->Prop):Prop
|mk (h:Sh) (Av:ao->Prop) (H0:Hp) (O:Nat->Option ao) (ρ:Env) (S:List D) (Q':Bool->List D->Prop) (_:St G h Av H0 O ρ S σ H) (_:t ρ S Q') (_:∀v H',adE G h Av H0 O ρ σ H Q' v H'->Q v H')
inductive upA (G:Gb) (t:lJ) (σ:L2.St) (H:Hp) (Q:List V->Hp->Prop):Prop
|mk (h:Sh) (Av:ao->Prop) (H0:Hp) (O:Nat->Option ao) (ρ:Env) (S:List D) (Q':List D->List D->Prop) (_:St G h Av H0 O ρ S σ H) (_:t ρ S Q') (_:∀v H',adG G h Av H0 O ρ σ H Q' v H'->Q v H')
def tE(b:ao->Prop)(O:Nat->Option ao)(H:Hp)(c:Nat->Option ao)(H':Hp):Prop:=∀a o,¬lT b O a->H a=some o->¬lT b c a/\H' a=some o
theorem tE.refl{a:ao->Prop}{O:Nat->Option ao}{H:Hp}:tE a O H O H:=λ_ _ n e=>⟨n,e⟩
theorem tE.trans{d:ao->Prop}{O g f:Nat->Option ao}{H i h:Hp}(a:tE d O H g i)(b:tE d g i f h):tE d O H f h:=λc o n e=>b c o (a c o n e).1 (a c o n e).2
inductive Zj (G:Gb) (t:uC) (E:L2.Ends) (σ:L2.St) (H:Hp):Prop
|mk (h:Sh) (Av:ao->Prop) (H0:Hp) (O:Nat->Option ao) (ρ:Env) (S:List D) (E':CO) (_:St G h Av H0 O ρ S σ H) (_:t ρ S E')
  (_:∀σ' H' O' ρ' S',St G h Av H0 O' ρ' S' σ' H'->tE Av O H O' H'->E'.nx ρ' S'->E.nx σ' H')
  (_:∀v H' d S',Le h H0 H'->Ok G h Av S' H'->Rep G h.sa Av H' d v->E'.rt d S'->E.rt v H')
def QE(X:Cx)(G:Gb)(e:bL)(t:jg):Prop:=PE X e (XI G t)
def QT(X:Cx)(G:Gb)(e:bL)(t:xp):Prop:=PT X e (upT G t)
def QW(X:Cx)(G:Gb)(e:bL)(t:xp):Prop:=PW X e (upT G t)
def QA(X:Cx)(G:Gb)(a:a5 bL)(t:lJ):Prop:=PA X a (upA G t)
def QS(X:Cx)(G:Gb)(st:jv)(t:uC):Prop:=PS X st (Zj G t)
def Km(X:Cx)(G:Gb)(st:a5 jv)(t:uC):Prop:=NX X st (Zj G t)
def Me(G:Gb)(r:R2)(i:D->D->(D->Prop)->Prop):Prop:=
 ∀{h:Sh}{a:ao->Prop}{j:Hp}{O:Nat->Option ao}{g:Env}{S:a5 D}{f:L2.St}{H:Hp}{x y:V}{dx b:D}{c:D->Prop}{Q:VK},
  St G h a j O g S f H->Rep G h.sa (lT a O) H dx x->Rep G h.sa (lT a O) H b y->i dx b c->(∀v H' d,kc H H'->Rep G h.sa (lT a O) H' d v->c d->Q v H')->r x y H Q
def nF(G:Gb)(r:a5 V->Hp->VK->Prop)(g:a5 D->(D->Prop)->Prop):Prop:=
 ∀{h:Sh}{a:ao->Prop}{i:Hp}{O:Nat->Option ao}{f:Env}{S:a5 D}{c:L2.St}{H:Hp}{xs:a5 V}{ds:a5 D}{b:D->Prop}{Q:VK},
  St G h a i O f S c H->bV G h.sa (lT a O) H ds xs->g ds b->(∀v H' d,kc H H'->Rep G h.sa (lT a O) H' d v->b d->Q v H')->r xs H Q
section
variable{X:Cx}{G:Gb}{a b c e:bL}{es:a5 bL}{ta tb tc te:jg}{pos:Pos}
def rC(b:D->D->(D->Prop)->Prop)(ta tb:jg):jg:=λa S Q=>ta a S λx f=>tb a f λy c=>b x y λd=>Q d c
theorem FH{r:R2}{i:D->D->(D->Prop)->Prop}(l:Me G r i){a:L2.St}{H:Hp}{Q:VK}(z:XI G (rC i ta tb) a H Q):tOp r (XI G ta) (XI G tb) a H Q:=by obtain⟨h,n,m,O,b,S,I,st,A,k⟩:=z;refine⟨h,n,m,O,b,S,_,st,A,?_⟩;rintro x K ⟨dx,C,f,w,p,u⟩;refine⟨h,n,m,O,b,C,_,f,u,?_⟩;rintro y J ⟨F,B,c,j,o,t⟩;exact l c (f.rep j p) o t λv E d g q s=>k v E ⟨d,B,c.same g,(w.trans j).trans (.of g),q,s⟩
theorem D9{op:XE}{r:R2}{c:D->D->(D->Prop)->Prop}(g:rN X (uI op) r)(l:Me G r c)(i:QE X G a ta)(h:QE X G b tb):QE X G (.BinOp a op b pos) (rC c ta tb):=
 λpins s d H Q I f=>acv g i h pins s d H Q I (FH l f)
theorem yd{op:XG}{r:R2}{c:D->D->(D->Prop)->Prop}(g:rN X (eE op) r)(l:Me G r c)(j:QE X G a ta)(i:QE X G b tb)(h:oP op b=false):QE X G (.Compare a [op] [b] pos) (rC c ta tb):=
 λpins s d H Q I f=>V8 g j i h pins s d H Q I (FH l f)
def qp(t:jg):xp:=λa S Q=>t a S λd c=>match d with
|.bl b=>Q b c
|_=>False
theorem Rep.ES{sa:ao}{a:ao->Prop}{H:Hp}{d:D}{v:V}{P:Bool->Prop}(q:match d with
|.bl b=>P b
|_=>False)(r:Rep G sa a H d v):∃b,v=.bl b/\P b:=by cases r<;>first|exact q.elim|exact⟨_,rfl,q⟩
theorem Rep.lE{sa:ao}{a:ao->Prop}{H:Hp}{d:D}{v:V}{P:Int->Prop}(q:match d with
|.int b=>P b
|_=>False)(r:Rep G sa a H d v):∃b,v=.int b/\P b:=by cases r<;>first|exact q.elim|exact⟨_,rfl,q⟩
theorem sg{op:XG}{r:R2}{f:D->D->(D->Prop)->Prop}(t:rN X (eE op) r)(l:Me G r f)(x:QE X G a ta)(w:QE X G b tb)(u:oP op b=false):QT X G (.Compare a [op] [b] pos) (qp (rC f ta tb)):=by intro pins s g H Q I o;obtain⟨h,A,z,O,i,S,B,st,p,k⟩:=o;refine V0 t x w u pins s g H Q I (FH l ⟨h,A,z,O,i,S,_,st,p,?_⟩);rintro v H' ⟨d,y,j,n,m,q⟩;obtain⟨c,e,q⟩:=m.ES q;exact⟨c,e,k _ _ ⟨y,j,n,q⟩⟩
end
section
variable{X:Cx}{G:Gb}{a b c e:bL}{es:a5 bL}{ta tb tc te:jg}{pos:Pos}
theorem rN.Wa{f:ak->ak->Sem ak}{r d:R2}(h:rN X f r)(h':rN X f d):rN X f (λx y H Q=>r x y H Q\/d x y H Q):=by intro pins s a H x y v u Q I c b q;rcases q with q|q;exact h pins s a H x y v u Q I c b q;exact h' pins s a H x y v u Q I c b q
theorem Rep.lst_inv{sa:ao}{b:ao->Prop}{H:Hp}{ds:a5 D}{x:V}(r:Rep G sa b H (.lst ds) x):∃a xs,x=.ref a/\¬b a/\H a=some (.lst xs)/\bV G sa b H ds xs:=by
 cases r with
|lst n e q=>exact⟨_,_,rfl,n,e,q⟩
theorem Rep.AD{sa:ao}{b:ao->Prop}{H:Hp}{ds:a5 D}{x:V}(r:Rep G sa b H (.tup ds) x):∃a xs,x=.ref a/\zy G.K H a xs/\bV G sa b H ds xs:=by
 cases r with
|tup n e q=>exact⟨_,_,rfl,.inl (.inl e),q⟩
theorem Rep.aaw{sa:ao}{b:ao->Prop}{H:Hp}{ds:a5 D}{x:V}(r:Rep G sa b H (.kt ds) x):∃a xs,x=.ref a/\zy G.K H a xs/\bV G sa b H ds xs:=by
 cases r with
|Gn e q=>exact⟨_,_,rfl,.inr e,q⟩
theorem Rep.Fj{sa:ao}{b:ao->Prop}{H:Hp}{ds:a5 D}{x:V}(r:Rep G sa b H (.zl ds) x):∃a xs,x=.ref a/\lY G.K H a xs/\bV G sa b H ds xs:=by
 cases r with
|zl e q=>exact⟨_,_,rfl,e.sq,q⟩
theorem Rep.int_inv{sa:ao}{a:ao->Prop}{H:Hp}{i:Int}{x:V}(r:Rep G sa a H (.int i) x):x=.int i:=by cases r;rfl
theorem Rep.L7{sa:ao}{a:ao->Prop}{H:Hp}{i:Bool}{x:V}(r:Rep G sa a H (.bl i) x):x=.bl i:=by cases r;rfl
def o1(ds:a5 D)(P:D->Prop):Prop:=match ds with
|[a]=>P a
|_=>False
def o2(ds:a5 D)(P:D->D->Prop):Prop:=match ds with
|[a,b]=>P a b
|_=>False
def o3(ds:a5 D)(P:D->D->D->Prop):Prop:=match ds with
|[a,b,c]=>P a b c
|_=>False
def oI(d:D)(P:Int->Prop):Prop:=match d with
|.int i=>P i
|_=>False
def oL(d:D)(P:a5 D->Prop):Prop:=match d with
|.lst i=>P i
|_=>False
def oT(d:D)(P:a5 D->Prop):Prop:=match d with
|.tup i=>P i
|_=>False
theorem Eg{sa:ao}{A:ao->Prop}{H:Hp}{ds:a5 D}{vs:a5 V}{P:D->Prop}(q:o1 ds P)(r:bV G sa A H ds vs):∃d v,vs=[v]/\Rep G sa A H d v/\P d:=by
 cases r with
|nil=>exact q.elim
|cons r t=>
  cases t with
 |nil=>exact⟨_,_,rfl,r,q⟩
 |cons _ _=>exact q.elim
theorem IL{sa:ao}{A:ao->Prop}{H:Hp}{ds:a5 D}{vs:a5 V}{P:D->D->Prop}(q:o2 ds P)(r:bV G sa A H ds vs):∃d e v u,vs=[v,u]/\Rep G sa A H d v/\Rep G sa A H e u/\P d e:=by
 cases r with
|nil=>exact q.elim
|cons r t=>rename_i d ds v vs;obtain⟨e,u,h,a,q⟩:=Eg (P:=P d) (by rcases ds with _|⟨_,_|⟨_,_⟩⟩<;>exact q) t;exact⟨_,_,_,_,by rw[h],r,a,q⟩
theorem Sb{sa:ao}{A:ao->Prop}{H:Hp}{ds:a5 D}{vs:a5 V}{P:D->D->D->Prop}(q:o3 ds P)(r:bV G sa A H ds vs):∃d e f v u w,vs=[v,u,w]/\Rep G sa A H d v/\Rep G sa A H e u/\Rep G sa A H f w/\P d e f:=by
 cases r with
|nil=>exact q.elim
|cons r t=>rename_i d ds v vs;obtain⟨e,f,u,w,h,b,a,q⟩:=IL (P:=P d) (by rcases ds with _|⟨_,_|⟨_,_|⟨_,_⟩⟩⟩<;>exact q) t;exact⟨_,_,_,_,_,_,by rw[h],r,b,a,q⟩
theorem BI{sa:ao}{A:ao->Prop}{H:Hp}{d:D}{v:V}{P:a5 D->Prop}(q:oL d P)(r:Rep G sa A H d v):∃ds a xs,v=.ref a/\¬A a/\H a=some (.lst xs)/\bV G sa A H ds xs/\P ds:=by
 cases r<;>first|exact q.elim|skip
 rename_i n e r;exact⟨_,_,_,rfl,n,e,r,q⟩
theorem R9{sa:ao}{A:ao->Prop}{H:Hp}{d:D}{v:V}{P:a5 D->Prop}(q:oT d P)(r:Rep G sa A H d v):∃ds a xs,v=.ref a/\zy G.K H a xs/\bV G sa A H ds xs/\P ds:=by
 cases d<;>first|exact q.elim|skip
 obtain⟨a,xs,h,s,b⟩:=r.AD;exact⟨_,a,xs,h,s,b,q⟩
def iw(i:Nat):jg:=λa S Q=>match a[i]? with
|some (some (.sh d))=>Q d S
|_=>False
theorem ir{t:TE}{b:jg}(h:PE X e t)(l:∀{a:L2.St}{H:Hp}{Q:VK},XI G b a H Q->t a H Q):QE X G e b:=λpins s a H Q I c=>h pins s a H Q I (l c)
theorem qv(i:Nat){x:Str}{pos:Pos}(f:X.N[i]? = some x:=by rfl)(b:UJ X.env.scope x:=by first|exact k6 rfl|exact ky (k6 rfl)|exact ky (ky rfl))(hd:(x == ("__debug__" : Str))=false:=by decide)(c:(x == ("__classdict__" : Str))=false:=by decide):QE X G (.Name x pos) (iw i):=by refine ir (Bt f b hd c) ?_;rintro l H Q ⟨h,p,o,O,m,S,n,st,a,k⟩;unfold iw at a;split at a;rename_i d e;obtain⟨v,j,g⟩:=st.slot i _ e;exact⟨v,j,k v H ⟨d,S,st,.refl,g,a⟩⟩;exact a.elim
def dC(d:D):jg:=λ_ S Q=>Q d S
theorem FG{v:V}{d:D}(h:PE X e (tC v))(r:∀sa a H,Rep G sa a H d v):QE X G e (dC d):=by refine ir h ?_;rintro c H Q ⟨h,a,i,O,f,S,g,st,b,k⟩;exact k v H ⟨d,S,st,.refl,r _ _ _,b⟩
theorem aA{i:Int}{j:Nat}{pos:Pos}:QE X G (.Constant (.int i) j pos) (dC (.int i)):=FG Z0 λ_ _ _=>.int i
theorem jH{i:Bool}{j:Nat}{pos:Pos}:QE X G (.Constant (.bool i) j pos) (dC (.bl i)):=FG X0 λ_ _ _=>.bl i
theorem Bm{j:Nat}{pos:Pos}:QE X G (.Constant .none j pos) (dC .jw):=FG ZW λ_ _ _=>.jw
theorem VW{x:Str}{n:Int}{tk:Tok}{pos:Pos}(b:Gl X x)(a:X.mg x=some (.int n tk))(hd:(x == ("__debug__" : Str))=false:=by decide):QE X G (.Name x pos) (dC (.int n)):=
 FG (v:=.int n) (V7 b a ⟨tk,rfl⟩ hd) λ_ _ _=>.int n
def dI(C:Int->Int->Prop)(g:Int->Int->D):D->D->(D->Prop)->Prop:=λx y Q=>match x with
|.int i=>(match y with
 |.int j=>C i j/\Q (g i j)
 |_=>False)
|_=>False
def WU(g:Int->Int->D):D->D->(D->Prop)->Prop:=λx y Q=>match x with
|.int i=>(match y with
 |.int j=>Q (g i j)
 |_=>False)
|_=>False
theorem R1{C:Int->Int->Prop}{g:Int->Int->Int}:Me G (rI C λi j=>.int (g i j)) (dI C λi j=>.int (g i j)):=by intro h o n O f S d H x y dx l m Q st b a q k;obtain⟨i,e,q⟩:=b.lE q;obtain⟨j,c,q⟩:=a.lE q;exact⟨i,j,e,c,q.1,k _ _ _ (λ_ _ z=>z) (.int _) q.2⟩
theorem R0{g:Int->Int->Int}:Me G (UG λi j=>.int (g i j)) (WU λi j=>.int (g i j)):=by intro h o n O f S d H x y dx l m Q st b a q k;obtain⟨i,e,q⟩:=b.lE q;obtain⟨j,c,q⟩:=a.lE q;exact⟨i,j,e,c,k _ _ _ (λ_ _ z=>z) (.int _) q⟩
theorem m4{g:Int->Int->Bool}:Me G (UG λi j=>.bl (g i j)) (WU λi j=>.bl (g i j)):=by intro h o n O f S d H x y dx l m Q st b a q k;obtain⟨i,e,q⟩:=b.lE q;obtain⟨j,c,q⟩:=a.lE q;exact⟨i,j,e,c,k _ _ _ (λ_ _ z=>z) (.bl _) q⟩
abbrev Ck:=rC (WU λi j=>.int (i+j))
abbrev afj:=rC (WU λi j=>.int (i-j))
abbrev afk:=rC (dI Qi λi j=>.int (i*j))
abbrev afl:=rC (dI (λ_ j=>0<j) λi j=>.int (i % j))
def CDv(_ j:Int):Prop:=0<j/\j<2 ^ 200
theorem Z9:rN X (uI .FloorDiv) (rI CDv λi j=>.int (i / j)):=opI λi j _ _ _ _ _ a q=>by
 refine floordiv_int (by have:=a.1;lia) (by rw[Int.fdiv_eq_ediv_of_nonneg _ (fK a.1)];exact q) (.inl (PyProof.noPylong_of_log2 ?_));have d:=a.1;have c:=a.2;have b:j.natAbs<2 ^ 200:=#v[]
 exact aR ((Nat.log2_lt #v[]).mpr b) #v[1]
abbrev afn:=rC (dI CDv λi j=>.int (i / j))
theorem gN(d:QE X G a ta)(c:QE X G b tb):QE X G (.BinOp a .Add b pos) (Ck ta tb):=D9 aab R0 d c
theorem eX(d:QE X G a ta)(c:QE X G b tb):QE X G (.BinOp a .Sub b pos) (afj ta tb):=D9 Z5 R0 d c
theorem gM(d:QE X G a ta)(c:QE X G b tb):QE X G (.BinOp a .Mult b pos) (afk ta tb):=D9 Z6 R1 d c
theorem FD(d:QE X G a ta)(c:QE X G b tb):QE X G (.BinOp a .Mod b pos) (afl ta tb):=D9 Z7 R1 d c
theorem RH(d:QE X G a ta)(c:QE X G b tb):QE X G (.BinOp a .FloorDiv b pos) (afn ta tb):=D9 Z9 R1 d c
abbrev rLt:=WU λi j=>.bl (decide (i<j))
abbrev rLe:=WU λi j=>.bl (decide (i<=j))
abbrev rGt:=WU λi j=>.bl (decide (j<i))
abbrev rGe:=WU λi j=>.bl (decide (j<=i))
theorem MM(d:QE X G a ta)(c:QE X G b tb):QE X G (.Compare a [.Lt] [b] pos) (rC rLt ta tb):=yd R5 m4 d c (lC _)
theorem acp(d:QE X G a ta)(c:QE X G b tb):QE X G (.Compare a [.LtE] [b] pos) (rC rLe ta tb):=yd IE m4 d c (lC _)
theorem MO(d:QE X G a ta)(c:QE X G b tb):QE X G (.Compare a [.Gt] [b] pos) (rC rGt ta tb):=yd X4 m4 d c (lC _)
theorem RG(d:QE X G a ta)(c:QE X G b tb):QE X G (.Compare a [.GtE] [b] pos) (rC rGe ta tb):=yd X5 m4 d c (lC _)
theorem uN(d:QE X G a ta)(c:QE X G b tb):QT X G (.Compare a [.Lt] [b] pos) (qp (rC rLt ta tb)):=sg R5 m4 d c (lC _)
theorem Io(d:QE X G a ta)(c:QE X G b tb):QT X G (.Compare a [.LtE] [b] pos) (qp (rC rLe ta tb)):=sg IE m4 d c (lC _)
theorem yY(d:QE X G a ta)(c:QE X G b tb):QT X G (.Compare a [.Gt] [b] pos) (qp (rC rGt ta tb)):=sg X4 m4 d c (lC _)
theorem XU(d:QE X G a ta)(c:QE X G b tb):QT X G (.Compare a [.GtE] [b] pos) (qp (rC rGe ta tb)):=sg X5 m4 d c (lC _)
def xS:a5 D->Option (Int×Int)
|[.int a,.int b]=>some (a,b)
|_=>none
def eqD:D->D->Option Bool:=λx y=>match x with
|.int i=>(match y with
 |.int j=>some (decide (i=j))
 |_=>none)
|.bl i=>(match y with
 |.bl j=>some (decide (i=j))
 |_=>none)
|.tup l=>(match y with
 |.tup m=>(match xS l with
  |some p=>(match xS m with
   |some q=>some (decide (p.1=q.1/\p.2=q.2))
   |none=>none)
  |none=>none)
 |_=>none)
|_=>none
def dEq:D->D->(D->Prop)->Prop:=λx y Q=>match eqD x y with
|some b=>Q (.bl b)
|none=>False
def dNe:D->D->(D->Prop)->Prop:=λx y Q=>match eqD x y with
|some b=>Q (.bl (!b))
|none=>False
theorem Rep.dp2{sa:ao}{a:ao->Prop}{H:Hp}{i j:Int}{x:V}(r:Rep G sa a H (.tup [.int i,.int j]) x):Dp G.K H x (.tuple [.int i,.int j]):=by
 have key:∀{xs:a5 V},bV G sa a H [.int i,.int j] xs->CP G.K H xs [.int i,.int j]:=λ{xs} q=>by
  cases q with
 |cons c q=>
   cases q with
  |cons b q=>cases q;cases c;cases b;exact .cons (.int _) (.cons (.int _) .nil)
 cases r with
|tup n e q=>exact .tup (.inl (.inl e)) (key q)
theorem acW{a b c d:Int}:PyData.eqv (.tuple [.int a,.int b]) (.tuple [.int c,.int d])=decide (a=c/\b=d):=by simp[PyData.eqv,PyData.eqvAll];rfl
theorem Az{l:a5 D}{p:Int×Int}(h:xS l=some p):l=[.int p.1,.int p.2]:=by
 rcases l with _|⟨a,_|⟨b,_|⟨c,l⟩⟩⟩;cases h;cases a<;>cases h;cases a<;>first|cases h|skip
 cases b<;>cases h;rfl;cases a<;>first|cases h|skip
 cases b<;>cases h
theorem Tf{sa:ao}{h:ao->Prop}{H:Hp}{dx a:D}{x y:V}{b:Bool}(d:Rep G sa h H dx x)(c:Rep G sa h H a y)(e:eqD dx a=some b):
  (Zx x y/\b=decide (x=y))\/∃p q:Int×Int,Dp G.K H x (.tuple [.int p.1,.int p.2])/\Dp G.K H y (.tuple [.int q.1,.int q.2])/\b=decide (p.1=q.1/\p.2=q.2):=by
 cases dx<;>first|cases e|skip
 cases a<;>first|cases e|skip
 rw[d.L7,c.L7];exact .inl ⟨.inr ⟨_,_,rfl,rfl⟩,#v[0]⟩;cases a<;>first|cases e|skip
 rw[d.int_inv,c.int_inv];exact .inl ⟨.inl ⟨_,_,rfl,rfl⟩,#v[0]⟩;cases a<;>first|cases e|skip
 rename_i l m;have e':(match xS l with
 |some p=>(match xS m with
  |some q=>some (decide (p.1=q.1/\p.2=q.2))
  |none=>none)
 |none=>none)=some b:=e
 cases g:xS l with
|none=>rw[g]at e';cases e'
|some p=>
  rw[g]at e';cases f:xS m with
 |none=>rw[f]at e';cases e'
 |some q=>rw[f]at e';rw[Az g]at d;rw[Az f]at c;exact .inr ⟨p,q,d.dp2,c.dp2,(aH e').symm⟩
theorem R3(g:X.K=G.K):Me G (λx y H Q=>rEq x y H Q\/acm X.K x y H Q) dEq:=by
 intro h s o O m S l H x y dx j n Q st f d q k;unfold dEq at q;cases e:eqD dx j with
|none=>rw[e]at q;exact q.elim
|some b=>rw[e]at q;have q:=k (.bl b) _ _ (λ_ _ z=>z) (.bl _) q;rcases Tf f d e with⟨c,a⟩|⟨p,r,c,a,i⟩;rw[a]at q;exact .inl ⟨c,q⟩;rw[g];exact .inr ⟨_,_,c,a,rfl,rfl,by rw[acW,<- i];exact q⟩
theorem RZ(g:X.K=G.K):Me G (λx y H Q=>rNe x y H Q\/ace X.K x y H Q) dNe:=by
 intro h s o O m S l H x y dx j n Q st f d q k;unfold dNe at q;cases e:eqD dx j with
|none=>rw[e]at q;exact q.elim
|some b=>rw[e]at q;have q:=k (.bl (!b)) _ _ (λ_ _ z=>z) (.bl _) q;rcases Tf f d e with⟨c,a⟩|⟨p,r,c,a,i⟩;rw[a]at q;exact .inl ⟨c,q⟩;rw[g];exact .inr ⟨_,_,c,a,rfl,rfl,by rw[acW,<- i];exact q⟩
theorem XX(c:X.A.units+64<pU)(f:QE X G a ta)(d:QE X G b tb)(g:X.K=G.K:=by rfl):QE X G (.Compare a [.Eq] [b] pos) (rC dEq ta tb):=yd (rN.Wa X6 (R6 c)) (R3 g) f d (lC _)
theorem p5(c:X.A.units+64<pU)(f:QE X G a ta)(d:QE X G b tb)(g:X.K=G.K:=by rfl):QT X G (.Compare a [.Eq] [b] pos) (qp (rC dEq ta tb)):=sg (rN.Wa X6 (R6 c)) (R3 g) f d (lC _)
theorem aco(c:X.A.units+64<pU)(f:QE X G a ta)(d:QE X G b tb)(g:X.K=G.K:=by rfl):QE X G (.Compare a [.NotEq] [b] pos) (rC dNe ta tb):=yd (rN.Wa X3 (R4 c)) (RZ g) f d (lC _)
theorem wu(c:X.A.units+64<pU)(f:QE X G a ta)(d:QE X G b tb)(g:X.K=G.K:=by rfl):QT X G (.Compare a [.NotEq] [b] pos) (qp (rC dNe ta tb)):=sg (rN.Wa X3 (R4 c)) (RZ g) f d (lC _)
def Yb:D->Bool
|.jw=>true
|_=>false
def dIs:D->D->(D->Prop)->Prop:=λx y Q=>match y with
|.jw=>Q (.bl (Yb x))
|_=>False
def LU:D->D->(D->Prop)->Prop:=λx y Q=>match y with
|.jw=>Q (.bl (!Yb x))
|_=>False
theorem Rep.Yb{sa:ao}{a:ao->Prop}{H:Hp}{d:D}{x:V}(r:Rep G sa a H d x):decide (x=.jw)=DL.Yb d:=by cases r<;>rfl
theorem Rep.Sf{sa:ao}{a:ao->Prop}{H:Hp}{d:D}{v:V}{P:Prop}(q:match d with
|.jw=>P
|_=>False)(r:Rep G sa a H d v):v=.jw/\P:=by cases r<;>first|exact q.elim|exact⟨rfl,q⟩
theorem Z4:Me G (λx y H Q=>y=.jw/\Q (.bl (decide (x=.jw))) H) dIs:=by intro h j i O d S c H x y dx f g Q st b a q k;obtain⟨e,q⟩:=a.Sf q;refine⟨e,?_⟩;rw[b.Yb];exact k _ _ _ (λ_ _ z=>z) (.bl _) q
theorem OR:Me G (λx y H Q=>y=.jw/\Q (.bl (!decide (x=.jw))) H) LU:=by intro h j i O d S c H x y dx f g Q st b a q k;obtain⟨e,q⟩:=a.Sf q;refine⟨e,?_⟩;rw[b.Yb];exact k _ _ _ (λ_ _ z=>z) (.bl _) q
theorem XT(d:QE X G a ta)(c:QE X G b tb):QT X G (.Compare a [.Is] [b] pos) (qp (rC dIs ta tb)):=sg Z8 Z4 d c (lC _)
theorem Rw(d:QE X G a ta)(c:QE X G b tb):QT X G (.Compare a [.IsNot] [b] pos) (qp (rC LU ta tb)):=sg Wd OR d c (lC _)
def WV:D->D->(D->Prop)->Prop:=λx y Q=>match x,y with
|.lst xs,.lst a=>xs.length+a.length<=aQ/\Q (.lst (xs++a))
|_,_=>False
theorem Wc:Me G acn WV:=by
 intro h A w O m S l H x y dx u v Q st g f q k;unfold WV at q;split at q<;>first|exact q.elim|skip
 obtain⟨a1,s,rfl,t,j,d⟩:=g.lst_inv;obtain⟨a2,r,rfl,n2,i,c⟩:=f.lst_inv;refine⟨_,_,_,_,rfl,rfl,j,i,by rw[<- d.length,<- c.length];exact q.1,λp b=>k _ _ _ (fN b) ?_ q.2⟩;exact .lst (st.fresh b) bZ ((d.append c).imp λa o n z=>⟨n,by rw[bP (cN z b)];exact z⟩)
theorem pF(d:QE X G a ta)(c:QE X G b tb):QE X G (.BinOp a .Add b pos) (rC WV ta tb):=D9 aaa Wc d c
def aeT:D->Option (a5 D)
|.lst xs=>some xs
|.tup xs=>some xs
|.kt xs=>some xs
|.zl xs=>some xs
|_=>none
def Hg:D->D->(D->Prop)->Prop:=λx y Q=>oI y λi=>match aeT x with
|some xs=>(match nT xs i with
 |some d=>Q d
 |none=>False)
|none=>False
theorem bV.nT{sa:ao}{a:ao->Prop}{H:Hp}{ds:a5 D}{xs:a5 V}{i:Int}{d:D}(r:bV G sa a H ds xs)(e:L2.nT ds i=some d):∃v,L2.nT xs i=some v/\Rep G sa a H d v:=by
 unfold L2.nT at e⊢;rw[<- r.length];cases q:Nd ds.length i with
|none=>rw[q]at e;cases e
|some j=>rw[q]at e;exact r.get e
theorem Z3(l:X.K=G.K):Me G (rIx X.K) Hg:=by
 intro h o w O t S p H x y dx u m Q st g j q k;obtain⟨i,e,q⟩:=j.lE q;rw[e,l];have key:∀{xs:a5 D}{b:a5 V},(match nT xs i with
 |some d=>m d
 |none=>False)->bV G h.sa (lT o O) H xs b->∃v,L2.nT b i=some v/\Q v H:=λ{xs b} q r=>by
  cases e:L2.nT xs i with
 |none=>rw[e]at q;exact q.elim
 |some d=>rw[e]at q;obtain⟨v,f,c⟩:=r.nT e;exact⟨v,f,k _ _ _ (λ_ _ z=>z) c q⟩
 cases dx<;>first|exact q.elim|skip
 obtain⟨a,b,e,s,r⟩:=g.AD;obtain⟨v,f,c⟩:=key q r;exact .inr ⟨a,b,i,v,e,rfl,s,f,c⟩;obtain⟨a,b,e,s,r⟩:=g.aaw;obtain⟨v,f,c⟩:=key q r;exact .inr ⟨a,b,i,v,e,rfl,s,f,c⟩;obtain⟨a,b,e,s,r⟩:=g.Fj;obtain⟨v,f,c⟩:=key q r;exact .inl ⟨a,b,i,v,e,rfl,s,f,c⟩;obtain⟨a,b,e,n,s,r⟩:=g.lst_inv;obtain⟨v,f,c⟩:=key q r;exact .inl ⟨a,b,i,v,e,rfl,.inl (.inl s),f,c⟩
theorem aW(h:QE X G a ta)(g:QE X G b tb)(i:X.K=G.K:=by rfl)(f:GW b:=by exact λ_ _=>rfl):QE X G (.Subscript a b pos) (rC Hg ta tb):=
 λpins s c H Q I d=>XY aaD h g f pins s c H Q I (FH (Z3 i) d)
end
section
variable{X:Cx}{G:Gb}{a b c e:bL}{es rest:a5 bL}{ta tb tc te:jg}{tA tB':xp}{pos:Pos}
def adi(t u:xp):xp:=λa S Q=>t a S λc b=>(c=true->u a b Q)/\(c=false->Q false b)
def dOr(t u:xp):xp:=λa S Q=>t a S λc b=>(c=true->Q true b)/\(c=false->u a b Q)
def ac9(t:xp):xp:=λa S Q=>t a S λc b=>Q (!c) b
theorem tU(b:QT X G a tA):QW X G (.BoolOp .And [a] pos) tA:=VX b
theorem xZ(b:QT X G a tA):QW X G (.BoolOp .Or [a] pos) tA:=ZE b
theorem x9(x:QT X G a tA)(w:QW X G (.BoolOp .And (b::rest) pos) tB'):QW X G (.BoolOp .And (a::b::rest) pos) (adi tA tB'):=by
 intro p pins s o H Q I u;obtain⟨h,n,m,O,f,S,A,st,v,k⟩:=u;refine ZG x w p pins s o H Q I ⟨h,n,m,O,f,S,_,st,v,?_⟩;rintro c B ⟨l,g,j,i⟩;cases c with
|true=>exact⟨h,n,m,O,f,l,_,g,i.1 rfl,λd z ⟨y,q,t,r⟩=>k d z ⟨y,q,j.trans t,r⟩⟩
|false=>exact k _ _ ⟨l,g,j,i.2 rfl⟩
theorem Bk(x:QT X G a tA)(w:QW X G (.BoolOp .Or (b::rest) pos) tB'):QW X G (.BoolOp .Or (a::b::rest) pos) (dOr tA tB'):=by
 intro p pins s o H Q I u;obtain⟨h,n,m,O,f,S,A,st,v,k⟩:=u;refine acq x w p pins s o H Q I ⟨h,n,m,O,f,S,_,st,v,?_⟩;rintro c B ⟨l,g,j,i⟩;cases c with
|false=>exact⟨h,n,m,O,f,l,_,g,i.2 rfl,λd z ⟨y,q,t,r⟩=>k d z ⟨y,q,j.trans t,r⟩⟩
|true=>exact k _ _ ⟨l,g,j,i.1 rfl⟩
theorem QW.qt{t:xp}(h:QW X G e t):QT X G e t:=h _
theorem jm(m:QT X G a tA):QT X G (.UnaryOp .Not a pos) (ac9 tA):=by intro pins s b H Q I j;obtain⟨h,p,o,O,d,S,q,st,l,k⟩:=j;refine ZI m pins s b H Q I ⟨h,p,o,O,d,S,_,st,l,?_⟩;rintro c r ⟨n,f,i,g⟩;exact k _ _ ⟨n,f,i,g⟩
theorem d7(h:QE X G e te)(n:∀whole,UD e X.env whole=(do let v <- whole;zX e.pos;kF [v] (truthy v)):=by intro _;rfl):QT X G e (qp te):=by intro pins s b H Q I l;obtain⟨h',q,p,O,f,S,r,st,m,k⟩:=l;refine ZH h n pins s b H Q I ⟨h',q,p,O,f,S,_,st,m,?_⟩;rintro v t ⟨d,o,g,j,i,a⟩;obtain⟨c,e,a⟩:=i.ES a;exact⟨c,e,k _ _ ⟨o,g,j,a⟩⟩
def Yo(t u:jg):jg:=λa S Q=>t a S λd b=>match d with
|.bl c=>(c=true->u a b Q)/\(c=false->Q (.bl false) b)
|_=>False
def ac8(t u:jg):jg:=λa S Q=>t a S λd b=>match d with
|.bl c=>(c=true->Q (.bl true) b)/\(c=false->u a b Q)
|_=>False
def Yk(t:jg):jg:=λa S Q=>t a S λd b=>match d with
|.bl c=>Q (.bl (!c)) b
|_=>False
theorem vv{op:BoolOp}(b:QE X G a ta):QE X G (.BoolOp op [a] pos) ta:=ZU b
theorem yg(w:QE X G a ta)(u:QE X G (.BoolOp .And (b::rest) pos) tb):QE X G (.BoolOp .And (a::b::rest) pos) (Yo ta tb):=by
 refine ir (Z2 w u) ?_;rintro A H Q ⟨h,n,m,O,g,S,B,st,t,k⟩;refine⟨h,n,m,O,g,S,_,st,t,?_⟩;rintro v C ⟨d,l,i,j,q,f⟩;obtain⟨c,e,f⟩:=q.ES f;refine⟨c,e,?_⟩;cases c with
|true=>exact⟨h,n,m,O,g,l,_,i,f.1 rfl,λd z ⟨x,y,o,s,p,r⟩=>k d z ⟨x,y,o,j.trans s,p,r⟩⟩
|false=>exact k _ _ ⟨_,l,i,j,.bl _,f.2 rfl⟩
theorem XW(w:QE X G a ta)(u:QE X G (.BoolOp .Or (b::rest) pos) tb):QE X G (.BoolOp .Or (a::b::rest) pos) (ac8 ta tb):=by
 refine ir (acu w u) ?_;rintro A H Q ⟨h,n,m,O,g,S,B,st,t,k⟩;refine⟨h,n,m,O,g,S,_,st,t,?_⟩;rintro v C ⟨d,l,i,j,q,f⟩;obtain⟨c,e,f⟩:=q.ES f;refine⟨c,e,?_⟩;cases c with
|false=>exact⟨h,n,m,O,g,l,_,i,f.2 rfl,λd z ⟨x,y,o,s,p,r⟩=>k d z ⟨x,y,o,j.trans s,p,r⟩⟩
|true=>exact k _ _ ⟨_,l,i,j,.bl _,f.1 rfl⟩
theorem KW(m:QE X G a ta):QE X G (.UnaryOp .Not a pos) (Yk ta):=by refine ir (ZV m) ?_;rintro q H Q ⟨h,p,o,O,f,S,r,st,l,k⟩;refine⟨h,p,o,O,f,S,_,st,l,?_⟩;rintro v s ⟨d,n,g,j,i,b⟩;obtain⟨c,e,b⟩:=i.ES b;exact⟨c,e,k _ _ ⟨_,n,g,j,.bl _,b⟩⟩
def dIf(t:xp)(ta tb:jg):jg:=λa S Q=>t a S λc b=>(c=true->ta a b Q)/\(c=false->tb a b Q)
theorem Iq(v:QT X G c tA)(y:QE X G a ta)(w:QE X G b tb):QE X G (.IfExp c a b pos) (dIf tA ta tb):=by
 refine ir (RU v y w) ?_;rintro z H Q ⟨h,p,o,O,f,S,A,st,u,k⟩;refine⟨h,p,o,O,f,S,_,st,u,?_⟩;rintro c B ⟨t,q,s,r⟩;cases c with
|true=>exact⟨h,p,o,O,f,t,_,q,r.1 rfl,λd n ⟨x,m,g,l,i,j⟩=>k d n ⟨x,m,g,s.trans l,i,j⟩⟩
|false=>exact⟨h,p,o,O,f,t,_,q,r.2 rfl,λd n ⟨x,m,g,l,i,j⟩=>k d n ⟨x,m,g,s.trans l,i,j⟩⟩
def nQ:lJ:=λ_ S Q=>Q [] S
def g7(ta:jg)(b:lJ):lJ:=λa S Q=>ta a S λx d=>b a d λxs c=>Q (x::xs) c
theorem mh:QA X G [] nQ:=by intro pos pins s a H Q I b;obtain⟨h,i,g,O,d,S,f,st,c,k⟩:=b;exact K3 pos pins s a H Q I (k _ _ ⟨[],S,st,.refl,.nil,c⟩)
theorem j4{t:lJ}(x:QE X G e te)(w:QA X G es t)(u:aG (e::es) X.env=(false,cg e X.env)::aG es X.env:=by rfl):QA X G (e::es) (g7 te t):=by intro pos pins s i H Q I q;obtain⟨h,g,f,O,a,S,A,st,r,k⟩:=q;refine AJ x w u pos pins s i H Q I ⟨h,g,f,O,a,S,_,st,r,?_⟩;rintro v C ⟨d,z,b,p,m,o⟩;refine⟨h,g,f,O,a,z,_,b,o,?_⟩;rintro vs B ⟨ds,y,j,c,l,n⟩;exact k _ _ ⟨_,y,j,p.trans c,.cons (b.rep c m) l,n⟩
theorem cB{a:bL}{b:jg}(d:QE X G a b)(c:aG [a] X.env=(false,cg a X.env)::aG [] X.env:=by rfl):QA X G [a] (g7 b nQ):=(j4 d mh c)
theorem ju{b a:bL}{d c:jg}(i:QE X G b d)(h:QE X G a c)(g:aG [b,a] X.env=(false,cg b X.env)::aG [a] X.env:=by rfl)(f:aG [a] X.env=(false,cg a X.env)::aG [] X.env:=by rfl):QA X G [b,a] (g7 d (g7 c nQ)):=(j4 i (j4 h mh f) g)
theorem rp{c b a:bL}{g f d:jg}(m:QE X G c g)(l:QE X G b f)(k:QE X G a d)(j:aG [c,b,a] X.env=(false,cg c X.env)::aG [b,a] X.env:=by rfl)(i:aG [b,a] X.env=(false,cg b X.env)::aG [a] X.env:=by rfl)(h:aG [a] X.env=(false,cg a X.env)::aG [] X.env:=by rfl):QA X G [c,b,a] (g7 g (g7 f (g7 d nQ))):=(j4 m (j4 l (j4 k mh h) i) j)
theorem UH{d c b a:bL}{i h g f:jg}(q:QE X G d i)(p:QE X G c h)(o:QE X G b g)(n:QE X G a f)(m:aG [d,c,b,a] X.env=(false,cg d X.env)::aG [c,b,a] X.env:=by rfl)(l:aG [c,b,a] X.env=(false,cg c X.env)::aG [b,a] X.env:=by rfl)(k:aG [b,a] X.env=(false,cg b X.env)::aG [a] X.env:=by rfl)(j:aG [a] X.env=(false,cg a X.env)::aG [] X.env:=by rfl):QA X G [d,c,b,a] (g7 i (g7 h (g7 g (g7 f nQ)))):=(j4 q (j4 p (j4 o (j4 n mh j) k) l) m)
def ac4(t:lJ):jg:=λa S Q=>t a S λxs b=>xs.length<=aQ/\Q (.tup xs) b
def adb(t:lJ):jg:=λa S Q=>t a S λxs b=>xs.length<=aQ/\Q (.lst xs) b
theorem i6{t:lJ}{x1}(h:QA X G es t):QE X G (.Tuple es x1 pos) (ac4 t):=by refine ir (ZT h) ?_;rintro n H Q ⟨h,m,l,O,f,S,o,st,i,k⟩;refine⟨h,m,l,O,f,S,_,st,i,?_⟩;rintro vs q ⟨ds,j,b,g,c,d⟩;refine⟨by rw[<- c.length];exact d.1,λp a=>k _ _ ⟨_,j,b.same (fN a),g.trans (.new a),?_,d.2⟩⟩;exact .tup (b.fresh a) bZ (b.vq (.new a) c)
theorem cR{t:lJ}(h:QA X G es t):QE X G (.List es pos) (adb t):=by refine ir (RS h) ?_;rintro n H Q ⟨h,m,l,O,f,S,o,st,i,k⟩;refine⟨h,m,l,O,f,S,_,st,i,?_⟩;rintro vs q ⟨ds,j,b,g,c,d⟩;refine⟨by rw[<- c.length];exact d.1,λp a=>k _ _ ⟨_,j,b.same (fN a),g.trans (.new a),?_,d.2⟩⟩;exact .lst (b.fresh a) bZ (b.vq (.new a) c)
def Qy(b:a5 D->(D->Prop)->Prop)(t:lJ):jg:=λa S Q=>t a S λds c=>b ds λd=>Q d c
theorem NT{r:a5 V->Hp->VK->Prop}{f:a5 D->(D->Prop)->Prop}(l:nF G r f){t:lJ}{a:L2.St}{H:Hp}{Q:VK}(p:XI G (Qy f t) a H Q):tCB r (upA G t) a H Q:=by obtain⟨h,x,w,O,g,S,y,st,q,k⟩:=p;refine⟨h,x,w,O,g,S,_,st,q,?_⟩;rintro vs z ⟨ds,s,b,o,j,n⟩;exact l b j n λv u d c i m=>k v u ⟨d,s,b.same c,o.trans (.of c),i,m⟩
theorem fi{id:String}{x:Str}{p pos:Pos}{t:lJ}{r:a5 V->Hp->VK->Prop}{a:a5 D->(D->Prop)->Prop}(l:nF G r a)(j:lK X (.builtin id) r)(g:Gl X x)(f:X.mg x=none)(b:gH x=some (.builtin id))(k:QA X G (e::es) t)(d:x≠"__name__":=by decide)(i:(x == ("__debug__" : Str))=false:=by decide)(h:aG (e::es) X.env=(false,cg e X.env)::aG es X.env:=by rfl)(c:(ef pos (aG es X.env)).any (·.1)=false:=by rfl):
  QE X G (.Call (.Name x p) (e::es) [] pos) (Qy a t):=ir (Iz j g f b k d i h c) (NT l)
theorem mf{T:String}{x:Str}{p pos:Pos}{t:lJ}{r:a5 V->Hp->VK->Prop}{a:a5 D->(D->Prop)->Prop}(l:nF G r a)(j:lK X (.type T) r)(g:Gl X x)(f:X.mg x=none)(b:gH x=some (.type T))(k:QA X G (e::es) t)(d:x≠"__name__":=by decide)(i:(x == ("__debug__" : Str))=false:=by decide)(h:aG (e::es) X.env=(false,cg e X.env)::aG es X.env:=by rfl)(c:(ef pos (aG es X.env)).any (·.1)=false:=by rfl):
  QE X G (.Call (.Name x p) (e::es) [] pos) (Qy a t):=ir (Ec j g f b k d i h c) (NT l)
end
section
variable{G:Gb}{h:Sh}{Av:ao->Prop}{H0 H H':Hp}{O:Nat->Option ao}{ρ:Env}{S S':a5 D}{σ:L2.St}
def without(O:Nat->Option ao)(i:Nat):Nat->Option ao:=λj=>if j=i then none else O j
def js(O:Nat->Option ao)(i:Nat)(p:ao):Nat->Option ao:=λj=>if j=i then some p else O j
theorem iL{i:Nat}{a:ao}(n:lT Av (without O i) a):lT Av O a:=by rcases n with n|⟨j,n⟩;exact .inl n;refine .inr ⟨j,?_⟩;unfold without at n;split at n;cases n;exact n
theorem fZ{i:Nat}:tE Av O H (without O i) H:=λ_ _ n e=>⟨λw=>n (iL w),e⟩
theorem St.vz(s:St G h Av H0 O ρ S σ H)(le:Le h H H'):tE Av O H O H':=s.keep le
theorem Eb{i:Nat}{p:ao}{o:HO}(e:H p=none):tE Av O H (js O i p) (upd H p o):=λa u n q=>by have ne:a≠p:=cN q e;refine⟨λw=>?_,by rw[bP ne];exact q⟩;rcases w with w|⟨j,w⟩;exact n (.inl w);unfold js at w;split at w;exact ne (aH w).symm;exact n (.inr ⟨j,w⟩)
theorem Bs{i:Nat}{p:ao}{o:HO}(e:O i=some p):tE Av O H O (upd H p o):=λa u n q=>⟨n,by rw[bP (λz=>n (.inr ⟨i,by rw[z];exact e⟩))];exact q⟩
theorem Ok.weak{A b:ao->Prop}(ok:Ok G h A S H)(w:∀a,b a->A a)(la:h.on=true->b h.la):Ok G h b S H where
 av:=λa n=>ok.av a (w a n)
 on:=λo=>by obtain⟨_,f,xs,d,c⟩:=ok.on o;exact⟨la o,f,xs,d,c.imp λa o n e=>⟨λz=>n (w a z),e⟩⟩
 sz:=ok.sz
 Bc:=ok.Bc
theorem St.drop(s:St G h Av H0 O ρ S σ H)(i:Nat){sl:Option Sl}{v:Option V}(m:∀d,sl=some d->adD G h (lT Av (without O i)) (without O i) H (σ.set i v) i d):St G h Av H0 (without O i) (ρ.set i sl) S (σ.set i v) H where
 le:=s.le
 ent:=s.ent
 la:=s.la
 ok:=s.ok.weak (λa n=>iL n) λo=>.inl (s.la o)
 own:=λj a e=>by unfold without at e;split at e;cases e;exact s.own j a e
 inj:=λj k a c b=>by unfold without at c b;split at c;cases c;split at b;cases b;exact s.inj j k a c b
 len:=by rw[eT,eT];exact s.len
 fin:=by obtain⟨N,q⟩:=s.fin;refine⟨N,λj hj=>?_⟩;unfold without;split;rfl;exact q j hj
 sup:=λj a e=>by unfold without at e;split at e;cases e;rename_i z;rw[b8 (λw=>z w.symm),eT];exact s.sup j a e
 slot:=λj d e=>by
  by_cases q:j=i;subst q;rw[zT]at e;simp only[if_true]at e;split at e;exact m d #v[e];cases e;rw[b8 (λz=>q z.symm)]at e;have z:=s.slot j d e;cases d with
 |sh d=>obtain⟨l,g,f⟩:=z;exact⟨l,by rw[b8 (λz=>q z.symm)];exact g,f.imp λa o n e=>⟨λw=>n (iL w),e⟩⟩
 |ow ds=>obtain⟨a,xs,g,f,r,p⟩:=z;exact⟨a,xs,by unfold without;rw[if_neg q];exact g,by rw[b8 (λz=>q z.symm)];exact f,r,p.imp λa o n e=>⟨λw=>n (iL w),e⟩⟩
theorem St.set(s:St G h Av H0 O ρ S σ H)(i:Nat){d:D}{v:V}(r:Rep G h.sa (lT Av O) H d v):St G h Av H0 (without O i) (ρ.set i (some (.sh d))) S (σ.set i (some v)) H:=by
 by_cases q:i<σ.length;refine s.drop i λd' e=>?_;cases e;exact⟨v,by rw[dO q],r.imp λa o n e=>⟨λw=>n (iL w),e⟩⟩;have c:σ.set i (some v)=σ:=gk #v[];have b:ρ.set i (some (Sl.sh d))=ρ.set i none:=by rw[gk (by rw[<- s.len];lia),gk (by rw[<- s.len];lia)]
 rw[b,show σ.set i (some v)=σ.set i none from by rw[c,gk #v[]]];exact s.drop i λd' e=>nomatch e
theorem Nj(s:St G h Av H0 O ρ S σ H){p:ao}(e:H p=none):H0 p=none:=by
 cases q:H0 p with
|none=>rfl
|some o=>by_cases z:h.on=true/\p=h.la;exact absurd e (s.ok.av p (.inl (by rw[z.2];exact s.la z.1))).ne;rw[s.le p o q z]at e;cases e
theorem St.take(s:St G h Av H0 O ρ S σ H)(i:Nat){p:ao}{ds:a5 D}{xs:a5 V}(e:H p=none)(r:bV G h.sa (lT Av O) H ds xs):
  St G h Av H0 (js O i p) (ρ.set i (some (.ow ds))) S (σ.set i (some (.ref p))) (upd H p (.lst xs)):=by
 have t:∀a o,¬lT Av O a->H a=some o->¬lT Av (js O i p) a/\upd H p (.lst xs) a=some o:=λa o n q=>by have ne:a≠p:=cN q e;refine⟨λw=>?_,by rw[bP ne];exact q⟩;rcases w with w|⟨j,w⟩;exact n (.inl w);unfold js at w;split at w;exact ne (aH w).symm;exact n (.inr ⟨j,w⟩)
 have f:kc H (upd H p (.lst xs)):=fN e;refine⟨s.le.trans (.new e),s.ent,s.la,⟨λa n=>?_,λo=>?_,s.ok.sz,s.ok.Bc⟩,λj a q=>?_,λj k a l g=>?_,by rw[eT,eT];exact s.len,λj d q=>?_,?_,λj a q=>?_⟩;rcases n with n|⟨j,n⟩;exact let⟨xs,z⟩:=s.ok.av a (.inl n);⟨xs,f _ _ z⟩;unfold js at n;split at n;rw[<- aH n];exact⟨_,bZ⟩;exact let⟨xs,z⟩:=s.ok.av a (.inr ⟨j,n⟩);⟨xs,f _ _ z⟩;obtain⟨_,⟨dx,b⟩,c,x,v⟩:=s.ok.on o;exact⟨.inl (s.la o),⟨dx,f _ _ b⟩,c,f _ _ x,v.imp t⟩;unfold js at q;split at q;rw[<- aH q];exact⟨Nj s e,_,bZ⟩;obtain⟨m,c,b⟩:=s.own j a q;exact⟨m,c,f _ _ b⟩;unfold js at l g;split at l;rename_i B;split at g;rename_i A;rw[B,A];obtain⟨_,c,b⟩:=s.own k a g;rw[<- aH l,e]at b;cases b;split at g;obtain⟨_,c,b⟩:=s.own j a l;rw[<- aH g,e]at b;cases b;exact s.inj j k a l g;by_cases z:j=i;subst z;have C:=q;rw[zT]at q;simp only[if_true]at q;split at q;rename_i lt;have q:Sl.ow ds=d:=by simpa using q
 subst q;exact⟨p,xs,by unfold js;rw[if_pos rfl],by rw[dO (by rw[s.len];exact lt)],bZ,r.imp t⟩;cases q;rw[b8 (λw=>z w.symm)]at q;have w:=s.slot j d q;cases d with
|sh d=>obtain⟨y,m,b⟩:=w;exact⟨y,by rw[b8 (λu=>z u.symm)];exact m,b.imp t⟩
|ow ds=>obtain⟨a,c,m,b,x,v⟩:=w;exact⟨a,c,by unfold js;rw[if_neg z];exact m,by rw[b8 (λu=>z u.symm)];exact b,f _ _ x,v.imp t⟩
 obtain⟨N,q⟩:=s.fin;refine⟨max N (i+1),λj hj=>?_⟩;unfold js;rw[if_neg #v[]];exact q j #v[];rw[eT];by_cases z:j=i;subst z;by_cases w:j<ρ.length;exact .inl ⟨ds,by rw[dO w]⟩;exact .inr #v[];unfold js at q;rw[if_neg z]at q;rw[b8 (λw=>z w.symm)];exact s.sup j a q
theorem St.mut(s:St G h Av H0 O ρ S σ H){i:Nat}{a:ao}{ds:a5 D}{xs k:a5 V}(l:O i=some a)(x:i<ρ.length->σ[i]? = some (some (.ref a)))(e:H a=some (.lst xs))(r:bV G h.sa (lT Av O) H ds k):
  St G h Av H0 O (ρ.set i (some (.ow ds))) S σ (upd H a (.lst k)):=by
 have y:lT Av O a:=.inr ⟨i,l⟩;have u:H0 a=none:=(s.own i a l).1;have m:∀b o,¬lT Av O b->H b=some o->¬lT Av O b/\upd H a (.lst k) b=some o:=λb o n q=>⟨n,by rw[bP (λz=>n (by rw[z];exact y))];exact q⟩;refine⟨λb o q n=>?_,s.ent,s.la,⟨λb n=>?_,λo=>?_,s.ok.sz,s.ok.Bc⟩,λj b q=>?_,s.inj,by rw[eT];exact s.len,λj d q=>?_,s.fin,λj b q=>?_⟩;rw[bP (λz=>by rw[z,u]at q;cases q)];exact s.le b o q n;by_cases w:b=a;rw[w];exact⟨_,bZ⟩;obtain⟨xs,z⟩:=s.ok.av b n;exact⟨xs,by rw[bP w];exact z⟩;obtain⟨f,⟨dx,c⟩,g,t,p⟩:=s.ok.on o;refine⟨f,⟨dx,?_⟩,g,?_,p.imp m⟩;rw[bP (X8 c e (by intro z;cases z))];exact c;rw[bP (λz=>s.ent _ (s.la o) (by rw[z];exact u))];exact t;obtain⟨f,g,c⟩:=s.own j b q;by_cases w:b=a;rw[w];exact⟨u,_,bZ⟩;exact⟨f,g,by rw[bP w];exact c⟩;by_cases z:j=i;subst z;rw[zT]at q;simp only[if_true]at q;split at q;have q:Sl.ow ds=d:=by simpa using q
 subst q;exact⟨a,k,l,x (by assumption),bZ,r.imp m⟩;cases q;rw[b8 (λw=>z w.symm)]at q;have w:=s.slot j d q;cases d with
|sh d=>obtain⟨v,f,c⟩:=w;exact⟨v,f,c.imp m⟩
|ow A=>obtain⟨b,g,f,c,t,p⟩:=w;refine⟨b,g,f,c,?_,p.imp m⟩;rw[bP (λw=>z (s.inj j i a (by rw[<- w];exact f) l))];exact t
 rw[eT];by_cases z:j=i;subst z;by_cases w:j<ρ.length;exact .inl ⟨ds,by rw[dO w]⟩;exact .inr #v[];rw[b8 (λw=>z w.symm)];exact s.sup j b q
theorem St.sR(s:St G h Av H0 O ρ S σ H){i:Nat}{ds:a5 D}(e:ρ[i]? = some (some (.ow ds))):St G h Av H0 (without O i) (ρ.set i (some (.sh (.lst ds)))) S σ H:=by
 obtain⟨a,xs,d,c,g,f⟩:=s.slot i _ e;have q:=s.drop i (sl:=some (.sh (.lst ds))) (v:=some (.ref a)) λd' z=>by cases z;refine⟨.ref a,by rw[dO (aJ.mp c).1],.lst ?_ g (f.imp λb o n w=>⟨λz=>n (iL z),w⟩)⟩;rintro(n|⟨j,n⟩);exact s.ent a n (s.own i a d).1;unfold without at n;split at n;cases n;rename_i z;exact z (s.inj j i a n d)
 have k:σ.set i (some (.ref a))=σ:=by apply Us;intro j;by_cases z:j=i;subst z;rw[c,dO (aJ.mp c).1];rw[b8 (λw=>z w.symm)]
 rw[k]at q;exact q
end
section
variable{X:Cx}{G:Gb}{st:jv}{rest:a5 jv}{t u:uC}{e c:bL}{te:jg}{tc:xp}{pos:Pos}
def Tt:uC:=λa S E=>E.nx a S
def uA(t u:uC):uC:=λb S E=>t b S ⟨λa c=>u a c E,E.rt⟩
theorem bM:Km X G [] Tt:=by intro pins s a H D I d;obtain⟨h,k,i,O,b,S,j,st,f,c,g⟩:=d;exact V1 pins s a H D I (c a H O b S st .refl f)
theorem az(x:QS X G st t)(w:Km X G rest u):Km X G (st::rest) (uA t u):=by intro pins s f H D I r;obtain⟨h,c,b,O,j,S,E,st,v,p,a⟩:=r;exact sC x w pins s f H D I ⟨h,c,b,O,j,S,_,st,v,λF H' B i z l o q=>⟨h,c,b,B,i,z,E,l,q,λd C A g y k n m=>p d C A g y k (o.trans n) m,a⟩,a⟩
theorem bO(a:QS X G st t):Km X G [st] t:=wB a
def Ym(te:jg):uC:=λa S E=>te a S λ_ b=>E.nx a b
theorem o6(l:QE X G e te)(k:lq e none pos.line X.env=pure false:=by rfl):QS X G (.Expr e pos) (Ym te):=by intro pins s a H D I i;obtain⟨h,o,n,O,b,S,t,st,j,g,p⟩:=i;exact FL l k pins s a H D I ⟨h,o,n,O,b,S,_,st,j,λv H' ⟨d,m,c,f,r,q⟩=>g a H' O b m c (st.vz f) q⟩
def Ts(te:jg):uC:=λa S E=>te a S E.rt
theorem St.out{h:Sh}{b:ao->Prop}{f H:Hp}{O:Nat->Option ao}{d:Env}{S:a5 D}{c:L2.St}(s:St G h b f O d S c H):Ok G h b S H:=s.ok.weak (λa n=>.inl n) s.la
theorem qK(k:QE X G e te):QS X G (.Return (some e) pos) (Ts te):=by intro pins s c H D I i;obtain⟨h,p,m,O,f,S,w,st,j,u,g⟩:=i;exact RM k pins s c H D I ⟨h,p,m,O,f,S,_,st,j,λv H' ⟨d,l,b,t,r,q⟩=>g v H' d l b.le b.out (r.imp λa o n e=>⟨λz=>n (.inl z),e⟩) q⟩
theorem eI(a:QE X G e te):Km X G [.Return (some e) pos] (Ts te):=bO (qK a)
def aaX(tc:xp)(t u:uC):uC:=λa S E=>tc a S λc b=>(c=true->t a b E)/\(c=false->u a b E)
theorem dv{a b:a5 jv}(E:QT X G c tc)(J:Km X G a t)(F:Km X G b u):QS X G (.If c a b pos) (aaX tc t u):=by
 intro pins s A H D I B;obtain⟨h,p,o,O,g,S,z,st,C,x,w⟩:=B;refine acr E J F pins s A H D I ⟨h,p,o,O,g,S,_,st,C,?_⟩;rintro c K ⟨y,q,v,r⟩;cases c with
|true=>exact⟨h,p,o,O,g,y,z,q,r.1 rfl,λd n m f l i k j=>x d n m f l i ((st.vz v).trans k) j,w⟩
|false=>exact⟨h,p,o,O,g,y,z,q,r.2 rfl,λd n m f l i k j=>x d n m f l i ((st.vz v).trans k) j,w⟩
def Ae(i:Nat)(te:jg):uC:=λa S E=>te a S λd b=>E.nx (a.set i (some (.sh d))) b
theorem bB(i:Nat){x:Str}{a:Pos}(t:X.N.Nodup)(p:QE X G e te)(hi:X.N[i]? = some x:=by rfl)(k:Loc X.env.scope x:=by first|exact k6 rfl|exact ky rfl)(n:lq e (some (.Name x a)) pos.line X.env=pure false:=by rfl)(o:X.fn x=true\/X.env.scope.names.lookup x=some .local:=by first|exact .inl rfl|exact .inr rfl|assumption):
  QS X G (.Assign [.Name x a] e pos) (Ae i te):=by intro pins s b H D I l;obtain⟨h,y,w,O,c,S,A,st,m,j,z⟩:=l;exact FK t hi k p n o pins s b H D I ⟨h,y,w,O,c,S,_,st,m,λv H' ⟨d,u,f,g,r,q⟩=>j _ H' _ _ u (f.set i r) ((st.vz g).trans fZ) q⟩
def PR(i:Nat)(t:uC):uC:=λa S E=>match a[i]? with
|some (some (.ow ds))=>t (a.set i (some (.sh (.lst ds)))) S E
|_=>False
theorem Zi{i:Nat}{E:Ends}{b:L2.St}{H:Hp}(m:Zj G (PR i t) E b H):Zj G t E b H:=by obtain⟨h,s,q,O,u,S,r,st,a,l,k⟩:=m;unfold PR at a;split at a;rename_i ds e;exact⟨h,s,q,_,_,S,r,st.sR e,a,λc p o d n f j g=>l c p o d n f (fZ.trans j) g,k⟩;exact a.elim
theorem QS.sR(i:Nat)(h:QS X G st t):QS X G st (PR i t):=λpins s a H D I b=>h pins s a H D I (Zi b)
end
def upF(G:Gb)(t:lJ):TE:=λd H Q=>∃h c i O b S g,St G h c i O b S d H/\t b S g ∧
 ∀a p xs ds f,St G h c i O b f d a->Le h H a->a p=none->bV G h.sa (lT c O) a ds xs->g ds f->Q (.ref p) (upd a p (.lst xs))
def QF(X:Cx)(G:Gb)(e:bL)(t:lJ):Prop:=PE X e (upF G t)
section
variable{X:Cx}{G:Gb}{e c:bL}{es:a5 bL}{te:jg}{tc:xp}{t:lJ}{tb:uC}{pos apos cpos:Pos}{x:Str}{p pos':Pos}
def Tv(t:lJ):lJ:=λa S Q=>t a S λxs b=>xs.length<=aQ/\Q xs b
theorem qL(h:QA X G es t):QF X G (.List es pos) (Tv t):=by intro pins s c H Q I i;obtain⟨h',q,o,O,d,S,r,st,j,k⟩:=i;refine RS h pins s c H Q I ⟨h',q,o,O,d,S,_,st,j,?_⟩;rintro vs n ⟨ds,m,f,g,a,b⟩;exact⟨by rw[<- a.length];exact b.1,λp l=>k n p vs ds m f g l a b.2⟩
def NH(i:Nat)(t:lJ):uC:=λa S E=>t a S λds b=>E.nx (a.set i (some (.ow ds))) b
theorem lA(i:Nat)(u:X.N.Nodup)(r:QF X G e t)(hi:X.N[i]? = some x:=by rfl)(k:Loc X.env.scope x:=by first|exact k6 rfl|exact ky rfl)(n:lq e (some (.Name x pos')) pos.line X.env=pure false:=by rfl)(o:X.fn x=true\/X.env.scope.names.lookup x=some .local:=by first|exact .inl rfl|exact .inr rfl|assumption):
  QS X G (.Assign [.Name x pos'] e pos) (NH i t):=by intro pins s b H D I l;obtain⟨h,y,w,O,c,S,B,st,m,j,z⟩:=l;exact FK u hi k r n o pins s b H D I ⟨h,y,w,O,c,S,_,st,m,λA p xs ds v d g a f q=>j _ _ _ _ v (d.take i a f) ((st.vz g).trans (Eb a)) q⟩
def acL(a:Env)(i:Nat):Prop:=∃ds,a[i]? = some (some (.ow ds))
def JC(i:Nat)(b:lJ)(f:a5 D->a5 D->(a5 D->Prop)->Prop):uC:=λa S E=>acL a i/\b a S λd g=>match a[i]? with
|some (some (.ow ds))=>f ds d λc=>E.nx (a.set i (some (.ow c))) g
|_=>False
def JX(G:Gb)(r:V->a5 V->Hp->VK->Prop)(f:a5 D->a5 D->(a5 D->Prop)->Prop):Prop:=
 ∀{sa:ao}{A:ao->Prop}{H:Hp}{a:ao}{xs vs:a5 V}{ds d:a5 D}{g:a5 D->Prop}{Q:VK},H a=some (.lst xs)->bV G sa A H ds xs->bV G sa A H d vs->f ds d g →
  (∀v b c,bV G sa A H c b->g c->Q v (upd H a (.lst b)))->r (.ref a) vs H Q
theorem Sy{i:Nat}{f:a5 D->a5 D->(a5 D->Prop)->Prop}{r:V->a5 V->Hp->VK->Prop}(l:JX G r f){b:L2.St}{H:Hp}{E:Ends}(y:Zj G (JC i t f) E b H):
  tBM X.K "list" r (Zp i) (upA G t) b H (λ_ o=>E.nx b o):=by
 obtain⟨h,K,J,O,p,S,W,st,⟨⟨T,d⟩,z⟩,x,N⟩:=y;obtain⟨a,xs,c,m,B,P⟩:=st.slot i _ d;refine⟨.ref a,m,.inl ⟨rfl,xs,.inl (.inl B)⟩,h,K,J,O,p,S,_,st,z,?_⟩;rintro vs o ⟨U,I,g,w,s,j⟩;rw[d]at j;obtain⟨F,M,n,Q,k,A⟩:=g.slot i _ d;have C:F=a:=by rw[c]at n;exact(aH n).symm
 subst C;refine l k A s j λv L R q u=>x b _ O _ I (g.mut c (λ_=>m) k q) ((st.vz w).trans (Bs c)) u
theorem kP{id:String}{name:Str}{i:Nat}{f:a5 D->a5 D->(a5 D->Prop)->Prop}{r:V->a5 V->Hp->VK->Prop}(l:JX G r f)(slot:Slot "list" name id)(d:typeOf (.builtin id)=pure (.type "method_descriptor"))(k:MtR X id r)(u:QA X G (e::es) t)(v:X.N[i]? = some x:=by rfl)(c:UJ X.env.scope x:=by first|exact k6 rfl|exact ky (k6 rfl)|exact ky (ky rfl))(hd:(x == ("__debug__" : Str))=false:=by decide)(o:(x == ("__classdict__" : Str))=false:=by decide)(q:gJ (.Name x p) name X.env (cg (.Name x p) X.env)=cg (.Name x p) X.env:=by rfl)(n:((ef cpos (aG (e::es) X.env)).all (λx=>!x.1)&&(yU cpos (oV [] X.env)).all (λx=>x.1.isSome)
   && decide ((e::es).length+([]:a5 DV).length+(if([]:a5 DV).isEmpty then 0 else 1)<30))=true:=by rfl)(m:(apos.endLine == cpos.line)=true:=by rfl)(h:aG (e::es) X.env=(false,cg e X.env)::aG es X.env:=by rfl)(j:(ef cpos (aG es X.env)).any (·.1)=false:=by rfl)(g:lq (.Call (.Attribute (.Name x p) name apos) (e::es) [] cpos) none pos.line X.env=pure false:=by rfl):
  QS X G (.Expr (.Call (.Attribute (.Name x p) name apos) (e::es) [] cpos) pos) (JC i t f):=by intro pins s a H D I b;exact FL (XZ qB slot d k (Bt v c hd o) u q n m h j) g pins s a H D I (Sy l b)
theorem VT{id:String}{name:Str}{i:Nat}{f:a5 D->a5 D->(a5 D->Prop)->Prop}{r:V->a5 V->Hp->VK->Prop}(l:JX G r f)(slot:Slot "list" name id)(u:typeOf (.builtin id)=pure (.type "method_descriptor"))(z:MtR X id r)(E:X.N[i]? = some x:=by rfl)(t:UJ X.env.scope x:=by first|exact k6 rfl|exact ky (k6 rfl)|exact ky (ky rfl))(hd:(x == ("__debug__" : Str))=false:=by decide)(B:(x == ("__classdict__" : Str))=false:=by decide)(C:gJ (.Name x p) name X.env (cg (.Name x p) X.env)=cg (.Name x p) X.env:=by rfl)(A:(apos.endLine == cpos.line)=true:=by rfl)(y:lq (.Call (.Attribute (.Name x p) name apos) [] [] cpos) none pos.line X.env=pure false:=by rfl):
  QS X G (.Expr (.Call (.Attribute (.Name x p) name apos) [] [] cpos) pos) (JC i nQ f):=by intro pins s d H D I q;refine FL (Z1 qB slot u z (Bt E t hd B) C A) y pins s d H D I ?_;obtain⟨h,R,P,O,J,S,Q,st,⟨⟨N,k⟩,w⟩,o,L⟩:=q;obtain⟨a,xs,j,g,c,F⟩:=st.slot i _ k;refine⟨.ref a,g,.inl ⟨rfl,xs,.inl (.inl c)⟩,?_⟩;have b:=w;unfold nQ at b;rw[k]at b;exact l c F .nil b λv K M m n=>o d _ O _ S (st.mut j (λ_=>g) c m) (Bs j) n
def t8:a5 D->a5 D->(a5 D->Prop)->Prop:=λds a Q=>match a with
|[d]=>ds.length<aQ/\Q (ds++[d])
|_=>False
theorem iH:JX G ML t8:=by
 intro sa A H a xs vs ds g h Q e d c b k;unfold t8 at b;split at b;cases c with
|cons c f=>cases f;exact⟨a,xs,_,rfl,rfl,e,by rw[<- d.length];exact b.1,k _ _ _ (d.append (.cons c .nil)) b.2⟩
 exact b.elim
def AR:a5 D->a5 D->(a5 D->Prop)->Prop:=λds a Q=>match a with
|[.lst es]=>ds.length+es.length<=aQ/\Q (ds++es)
|_=>False
theorem o8:JX G MK AR:=by
 intro sa A H a xs vs ds l m Q e g d c k;unfold AR at c;split at c;cases d with
|cons d i=>cases i;obtain⟨b,h,rfl,n,j,f⟩:=d.lst_inv;exact⟨a,b,xs,h,rfl,rfl,e,j,by rw[<- g.length,<- f.length];exact c.1,k _ _ _ (g.append f) c.2⟩
 exact c.elim
def aff:a5 D->a5 D->(a5 D->Prop)->Prop:=λds a Q=>a=[]/\ds≠[]/\Q ds.dropLast
theorem bV.dropLast{sa:ao}{A:ao->Prop}{H:Hp}{ds:a5 D}{xs:a5 V}(r:bV G sa A H ds xs):bV G sa A H ds.dropLast xs.dropLast:=by rw[uo,uo,<- r.length];exact r.take _
theorem Sx:JX G acd aff:=by intro sa A H a xs vs ds i j Q e b c h k;obtain⟨rfl,g,q⟩:=h;cases c;have hl:0<ds.length:=g9.mpr g;obtain⟨d,hd⟩:∃d,ds[ds.length-1]? = some d:=⟨_,aw #v[]⟩;obtain⟨v,f,_⟩:=b.get hd;exact⟨a,xs,v,rfl,rfl,e,by rw[<- b.length];exact f,k _ _ _ b.dropLast q⟩
def aaN:a5 D->a5 D->(a5 D->Prop)->Prop:=λds a Q=>o1 a λd=>oI d λi=>∃j:Nat,i=(j:Int)/\j<ds.length/\ds.length<2 ^ 60/\Q (ds.eraseIdx j)
theorem Lk:JX G Rv aaN:=by intro sa A H a xs vs ds l m Q e c b f k;obtain⟨d,v,rfl,b,f⟩:=Eg f b;obtain⟨i,rfl,j,rfl,hj,h,q⟩:=b.lE f;obtain⟨d,hd⟩:∃d,ds[j]? = some d:=⟨_,aw hj⟩;obtain⟨v,g,_⟩:=c.get hd;refine⟨a,xs,(j:Int),j,v,rfl,rfl,e,#v[],#v[],?_,g,k _ _ _ (c.eraseIdx j) q⟩;have:=c.length;exact(Gq (n:=xs.length) (i:=(j:Int)) (j:=j) (by unfold Nd;rw[if_pos #v[],if_pos #v[]];simp)).1
def WW(i:Nat)(te:jg):uC:=λa S E=>match a[i]? with
|some (some (.sh (.int n)))=>te a S λd b=>(match d with
 |.int m=>E.nx (a.set i (some (.sh (.int (n+m))))) b
 |_=>False)
|_=>False
theorem KU(i:Nat)(r:X.N.Nodup)(q:QE X G e te)(hi:X.N[i]? = some x:=by rfl)(m:Loc X.env.scope x:=by first|exact k6 rfl|exact ky rfl)(p:X.fn x=true\/X.env.scope.names.lookup x=some .local:=by first|exact .inl rfl|exact .inr rfl|assumption):
  QS X G (.AugAssign (.Name x pos') .Add e pos) (WW i te):=by intro pins s c H D I o;obtain⟨h,A,z,O,f,S,E,st,a,l,B⟩:=o;unfold WW at a;split at a;rename_i n w;obtain⟨v,u,t⟩:=st.slot i _ w;obtain rfl:=t.int_inv;refine ZJ r hi m q aaF p pins s c H D I ⟨_,u,h,A,z,O,f,S,_,st,a,?_⟩;rintro v C ⟨d,y,g,k,j,b⟩;split at b;obtain rfl:=j.int_inv;exact⟨n,_,rfl,rfl,l _ _ _ _ y (g.set i (.int _)) ((st.vz k).trans fZ) b⟩;exact b.elim;exact a.elim
def Tr(tc:xp)(tb:uC):uC:=λa S E=>∃W:Nat->Env->a5 D->Prop,(∃m,W m a S)/\∀m a S,W m a S →
 tc a S λb d=>(b=true->tb a d ⟨λf g=>∃c,c<m/\W c f g,E.rt⟩)/\(b=false->E.nx a d)
theorem sj{y:a5 jv}(Q:QL (bb X.prog X.w) X.A X.env X.xe)(T:QT X G c tc)(U:Km X G y tb):QS X G (.While c y [] pos) (Tr tc tb):=by
 intro pins s B H D I P;obtain⟨h,f,n,O,C,S,Z,st,⟨W,⟨m0,J⟩,turn⟩,N,M⟩:=P;refine RK Q T U pins s B H D I ⟨λm o r=>∃d a g,St G h f n d a g o r/\tE f O H d r/\W m a g,⟨m0,O,C,S,st,.refl,J⟩,?_⟩;rintro m o r ⟨d,a,g,p,w,F⟩;refine⟨h,f,n,d,a,g,_,p,turn m a g F,?_⟩;rintro b V ⟨A,u,x,v⟩;cases b with
|true=>rw[if_pos rfl];refine⟨λt q=>∃j,j<m/\∃l i k,St G h f n l i k t q/\tE f O H l q/\W j i k,λY H' z=>z,?_⟩;exact⟨h,f,n,d,a,A,_,u,v.1 rfl,λt q l i k K L ⟨j,R,E⟩=>⟨j,R,l,i,k,K,(w.trans (p.vz x)).trans L,E⟩,M⟩
|false=>rw[if_neg bR];exact N o V d a A u (w.trans (p.vz x)) (v.2 rfl)
end
def abe(G:Gb)(sa:ao)(A:ao->Prop)(f:Hp)(J:It)(ds:a5 D):Prop:=
 ∀(c:ao->Prop)(H':Hp),(∀a o,¬A a->f a=some o->¬c a/\H' a=some o)->(∀a,c a->H' a≠none) →
  (∀(i:Nat) d,ds[i]? = some d->J.go i H'/\∀x b,J.yld i H' x b->kc H' b/\Rep G sa c b d x)/\J.stop ds.length H'
def upI(G:Gb)(ti:lJ):TI:=λd H R=>∃h c i O b S g,St G h c i O b S d H/\ti b S g ∧
 ∀J a ds f,St G h c i O b f d a->Le h H a->abe G h.sa (lT c O) a J ds->g ds f->R J a
def QI(X:Cx)(G:Gb)(a b:bL)(ti:lJ):Prop:=PI X a b (upI G ti)
section
variable{X:Cx}{G:Gb}{e l tg:bL}{es:a5 bL}{te:jg}{t:lJ}{pos p:Pos}
def acM(te:jg):lJ:=λa S Q=>te a S λd b=>match d with
|.lst ds=>Q ds b
|_=>False
def Yd(te:jg):lJ:=λa S Q=>te a S λd b=>match d with
|.kt ds=>Q ds b
|_=>False
theorem cI(hl:QE X G l te):QI X G tg l (acM te):=by intro pins s m H R I A;obtain⟨h,F,E,O,n,S,J,st,B,k⟩:=A;refine MU hl pins s m H R I ⟨h,F,E,O,n,S,_,st,B,?_⟩;rintro v D ⟨d,C,o,u,q,b⟩;split at b;rename_i ds;obtain⟨a,xs,rfl,t,j,r⟩:=q.lst_inv;refine⟨a,rfl,⟨xs,.inl (.inl j)⟩,k _ D ds C o u ?_ b⟩;intro L H' f av;have c:=(f a _ t j).2;refine⟨λi d hd=>?_,⟨xs,.inl (.inl c),by rw[<- r.length];exact aS _⟩⟩;obtain⟨x,g,p⟩:=r.get hd;refine⟨⟨xs,x,.inl (.inl c),g⟩,?_⟩;rintro y K ⟨rfl,w⟩;have:=w xs (.inl (.inl c));rw[g]at this;obtain rfl:=aH this;exact⟨λ_ _ z=>z,p.imp f⟩;exact b.elim
theorem ZD(F:X.K=G.K)(hl:QE X G l te):QI X G tg l (Yd te):=by
 intro pins s p H R I D;obtain⟨h,m,K,O,q,S,L,st,E,k⟩:=D;refine ZO hl pins s p H R I ⟨h,m,K,O,q,S,_,st,E,?_⟩;rintro v b ⟨d,J,t,B,A,f⟩;split at f;rename_i ds;rw[F];have key:∃a xs,v=.ref a/\bV G h.sa (lT m O) b ds xs/\zy G.K b a xs/\∀(c:ao->Prop)(H':Hp),(∀a o,¬lT m O a->b a=some o->¬c a/\H' a=some o)->zy G.K H' a xs:=by
  cases A with
 |Gn e r=>exact⟨_,_,rfl,r,.inr e,λc H' g=>.inr e⟩
 obtain⟨a,xs,rfl,r,sq,u⟩:=key;refine⟨a,rfl,⟨xs,sq⟩,k _ b ds J t B ?_ f⟩;intro c H' g av;have j:=u c H' g;refine⟨λi d hd=>?_,⟨xs,j,by rw[<- r.length];exact aS _⟩⟩;obtain⟨x,n,w⟩:=r.get hd;refine⟨⟨xs,x,j,n⟩,?_⟩;rintro y M ⟨rfl,C⟩;have:=C xs j;rw[n]at this;obtain rfl:=aH this;exact⟨λ_ _ z=>z,w.imp g⟩;exact f.elim
def C4(lo:Int)(n:Nat):a5 D:=(cf n).map λ(i:Nat)=>D.int (lo+(i:Int))
theorem Ib{lo:Int}{n i:Nat}{d:D}(h:(C4 lo n)[i]? = some d):i<n/\d=.int (lo+(i:Int)):=by
 unfold C4 at h;rw[bq]at h;cases q:(cf n)[i]? with
|none=>rw[q]at h;cases h
|some j=>rw[q]at h;obtain⟨b,a⟩:=aJ.mp q;rw[QC]at a;subst a;exact⟨by simpa using b,(aH h).symm⟩
theorem Ia{lo:Int}{n:Nat}:(C4 lo n).length=n:=by unfold C4;simp
theorem SS{sa:ao}{A:ao->Prop}{b:Hp}{lo:Int}{n:Nat}:abe G sa A b (Itr lo n) (C4 lo n):=by intro g H' c av;refine⟨λi d hd=>?_,by rw[Ia];exact aS n⟩;obtain⟨a,rfl⟩:=Ib hd;refine⟨a,?_⟩;rintro x f ⟨rfl,rfl⟩;exact⟨λ_ _ z=>z,.int _⟩
def AN(t:lJ):lJ:=λa S Q=>t a S λds b=>match ds with
|[.int j]=>(-(2 ^ 62)<=j/\j<2 ^ 62)/\Q (C4 0 j.toNat) b
|_=>False
def Gs(t:lJ):lJ:=λc S Q=>t c S λds d=>o2 ds λa b=>oI a λi=>oI b λj=>(-(2 ^ 62)<=i/\i<2 ^ 62/\-(2 ^ 62)<=j/\j<2 ^ 62)/\Q (C4 i (j-i).toNat) d
theorem p6{a:bL}(u:Gl X "range")(r:X.mg "range" = none)(w:QA X G [a] t)(q:aG [a] X.env=[(false,cg a X.env)]:=by rfl):QI X G tg (.Call (.Name "range" p) [a] [] pos) (AN t):=by
 intro pins s f H R I n;obtain⟨h,z,y,O,g,S,A,st,o,k⟩:=n;refine OO u r w q pins s f H R I ⟨h,z,y,O,g,S,_,st,o,?_⟩;rintro v B ⟨d,x,i,m,c,b⟩;split at b;rename_i j;cases c with
|cons c l=>cases l;obtain rfl:=c.int_inv;exact⟨j,rfl,b.1.1,b.1.2,k _ _ _ x i m SS b.2⟩
 exact b.elim
theorem OI{a b:bL}(y:Gl X "range")(x:X.mg "range" = none)(z:QA X G [a,b] t)(w:aG [a,b] X.env=[(false,cg a X.env),(false,cg b X.env)]:=by rfl)(u:aG [b] X.env=[(false,cg b X.env)]:=by rfl):QI X G tg (.Call (.Name "range" p) [a,b] [] pos) (Gs t):=by intro pins s g H R I q;obtain⟨h,C,B,O,l,S,D,st,r,k⟩:=q;refine ON y x z w u pins s g H R I ⟨h,C,B,O,l,S,_,st,r,?_⟩;rintro v E ⟨d,A,m,o,f,c⟩;obtain⟨_,_,_,_,rfl,f,n,c⟩:=IL c f;obtain⟨i,rfl,c⟩:=f.lE c;obtain⟨j,rfl,c⟩:=n.lE c;exact⟨i,j,rfl,c.1,k _ _ _ A m o SS c.2⟩
def Yc(t:lJ):lJ:=λc S Q=>t c S λds f=>o2 ds λa b=>oL a λxs=>oL b λd=>Q ((xs.zip d).map λz=>.tup [z.1,z.2]) f
theorem zip_get{α β:Type}:∀{xs:a5 α}{a:a5 β}{i:Nat}{z:α×β},(xs.zip a)[i]? = some z->xs[i]? = some z.1/\a[i]? = some z.2:=by intro xs a i z h;rw[bG]at h;exact h
theorem Rx{e f:bL}{ap:a5 bL}{kk:Nat}{Q:Pos}(hK:X.K=G.K)(hg:Gl X "zip")(hm:X.mg "zip" = none)(ha:QA X G [e,f] t)(hs:aG [e,f] X.env=(false,cg e X.env)::aG [f] X.env:=by rfl)(aj:(ef pos (aG [f] X.env)).any (·.1)=false:=by rfl):
  QI X G (.Tuple ap kk Q) (.Call (.Name "zip" p) [e,f] [] pos) (Yc t):=by
 intro pins s M H R I hw;obtain⟨h,L,H0,O,N,S,Q',st,ht,k⟩:=hw;refine ZN hg hm ha hs aj pins s M H R I ⟨h,L,H0,O,N,S,_,st,ht,?_⟩;rintro v H1 ⟨d,S1,U,ad,j,g⟩;obtain⟨_,_,_,_,rfl,j,Y,g⟩:=IL g j;obtain⟨xs,a,us,rfl,na,J,B,g⟩:=BI g j;obtain⟨P,b,ws,rfl,nb,F,A,g⟩:=BI g Y;refine⟨a,b,us,ws,rfl,.inl (.inl J),.inl (.inl F),k _ _ _ S1 U ad ?_ g⟩;intro A' H' l av;have u:=(l a _ na J).2;have r:=(l b _ nb F).2;refine⟨λi d hd=>?_,?_⟩;rw[bq]at hd;cases q:(xs.zip P)[i]? with
|none=>rw[q]at hd;cases hd
|some z=>
  rw[q]at hd;have hd:D.tup [z.1,z.2]=d:=aH hd;subst hd;obtain⟨aa,Z⟩:=zip_get q;obtain⟨x,E,W⟩:=B.get aa;obtain⟨y,C,V⟩:=A.get Z;refine⟨⟨us,ws,x,y,.inl (.inl u),.inl (.inl r),E,C⟩,?_⟩;rintro w aA ⟨T,x',y',rfl,m,rfl,h1,h2⟩;have K:=h1 us (.inl (.inl u));have f:=h2 ws (.inl (.inl r));rw[E]at K;rw[C]at f;obtain rfl:=aH K;obtain rfl:=aH f;have up:∀a o,¬lT L O a->H1 a=some o->¬A' a/\upd H' T (.tup [x,y]) a=some o:=λc o n z=>by have w:=l c o n z;exact⟨w.1,by rw[bP (cN w.2 m)];exact w.2⟩
  refine⟨fN m,.tup (λz=>av T z m) bZ (.cons (W.imp up) (.cons (V.imp up) .nil))⟩
 refine⟨us,ws,.inl (.inl u),.inl (.inl r),?_⟩;rw[ai,dE,B.length,A.length];lia
end
theorem kO{O:Nat->Option ao}{i:Nat}(e:O i=none):without O i=O:=by funext j;unfold without;by_cases z:j=i;rw[if_pos z,z,e];rw[if_neg z]
inductive CC where
|one (i:Nat)
|two(i j:Nat)
|three (i j k:Nat)
def z8:CC->D->Env->(Env->Prop)->Prop
|.one i,d,f,Q=>Q (f.set i (some (.sh d)))
|.two i j,d,f,Q=>oT d λl=>o2 l λa b=>Q ((f.set i (some (.sh a))).set j (some (.sh b)))
|.three i j k,d,f,Q=>oT d λl=>o3 l λa b c=>Q (((f.set i (some (.sh a))).set j (some (.sh b))).set k (some (.sh c)))
def CC.slots:CC->a5 Nat
|.one i=>[i]
|.two i j=>[i,j]
|.three i j k=>[i,j,k]
def LD(K:au):CC->TG
|.one i=>uV i
|.two i j=>aaJ K 2 (EA (uV i) (EA (uV j) aaK))
|.three i j k=>aaJ K 3 (EA (uV i) (EA (uV j) (EA (uV k) aaK)))
theorem jM{X:Cx}{G:Gb}{x:Str}{p:Pos}(i:Nat)(c:X.N.Nodup)(hi:X.N[i]? = some x:=by rfl)(a:Loc X.env.scope x:=by first|exact k6 rfl|exact ky rfl)(b:X.fn x=true\/X.env.scope.names.lookup x=some .local:=by first|exact .inl rfl|exact .inr rfl|assumption):PG X (.Name x p) (LD G.K (.one i)):=FO c hi a b
theorem He{X:Cx}{G:Gb}{a b:bL}{p:Pos}{k i j:Nat}(l:PG X a (LD G.K (.one i)))(h:PG X b (LD G.K (.one j)))(g:X.K=G.K:=by rfl)(f:X.calm=true:=by rfl)(n:(dQ [a,b] X.env).map (·.2)=pQ a X.env::(dQ [b] X.env).map (·.2):=by rfl)(m:(dQ [b] X.env).map (·.2)=pQ b X.env::(dQ [] X.env).map (·.2):=by rfl)(d:(dQ [a,b] X.env).length=2:=by rfl)(c:(dQ [a,b] X.env).findIdx? (·.1)=none:=by rfl):PG X (.Tuple [a,b] k p) (LD G.K (.two i j)):=by unfold LD;rw[<- g];exact RO f (sF l (sF h MV m) n) d c
theorem pg3{X:Cx}{G:Gb}{a b c:bL}{p:Pos}{k i j l:Nat}(o:PG X a (LD G.K (.one i)))(n:PG X b (LD G.K (.one j)))(m:PG X c (LD G.K (.one l)))(h:X.K=G.K:=by rfl)(g:X.calm=true:=by rfl)(s:(dQ [a,b,c] X.env).map (·.2)=pQ a X.env::(dQ [b,c] X.env).map (·.2):=by rfl)(r:(dQ [b,c] X.env).map (·.2)=pQ b X.env::(dQ [c] X.env).map (·.2):=by rfl)(q:(dQ [c] X.env).map (·.2)=pQ c X.env::(dQ [] X.env).map (·.2):=by rfl)(f:(dQ [a,b,c] X.env).length=3:=by rfl)(d:(dQ [a,b,c] X.env).findIdx? (·.1)=none:=by rfl):PG X (.Tuple [a,b,c] k p) (LD G.K (.three i j l)):=by unfold LD;rw[<- h];exact RO g (sF o (sF n (sF m MV q) r) s) f d
theorem Og{b:L2.St}:∀{vs:a5 Nat},L2.wipe (L2.wipe b vs) vs=L2.wipe b vs:=by
 intro vs;have key:∀(us:a5 Nat)(a:L2.St),(∀u∈us,a.set u none=a)->L2.wipe a us=a:=by
  intro us
  induction us with
 |nil=>intro a _;rfl
 |cons u us c=>intro a h;show(L2.wipe a us).set u none=a;rw[c a λw f=>h w (ah _ f)];exact h u (aF ..)
 refine key vs _ λu g=>?_;have d:∀(ws:a5 Nat),u∈ws->(L2.wipe b ws).set u none=L2.wipe b ws:=by
  intro ws
  induction ws with
 |nil=>intro h;cases h
 |cons w ws c=>intro h;show((L2.wipe b ws).set w none).set u none=(L2.wipe b ws).set w none;by_cases z:u=w;subst z;rw[zR];rw[Hl _ _ (λq=>z q.symm),c (by rcases aq.mp h with q|q;exact absurd q z;exact q)]
 exact d vs g
theorem oa{b:L2.St}{i:Nat}{v:Option V}:∀{vs:a5 Nat},i∈vs->wipe (b.set i v) vs=wipe b vs
|[],h=>by cases h
|w::ws,h=>by
  show(wipe (b.set i v) ws).set w none=(wipe b ws).set w none;by_cases q:i∈ws;rw[oa q];have e:i=w:=by rcases aq.mp h with e|e;exact e;exact absurd e q
  subst e;have key:∀(a:L2.St)(us:a5 Nat),(wipe (a.set i v) us).set i none=(wipe a us).set i none:=by
   intro a us
   induction us with
  |nil=>show(a.set i v).set i none=a.set i none;rw[zR]
  |cons u us c=>show((wipe (a.set i v) us).set u none).set i none=((wipe a us).set u none).set i none;by_cases z:u=i;subst z;rw[zR,zR,c];rw[Hl _ _ z,c,Hl _ _ (λw=>z w.symm)]
  exact key b ws
section
variable{G:Gb}{h:Sh}{Av:ao->Prop}{H0 H:Hp}{O:Nat->Option ao}{ρ:Env}{S:a5 D}{σ:L2.St}
theorem RX{pt:CC}{d:D}{x:V}{v:Env->Prop}{Q:L2.St->Hp->Prop}(st:St G h Av H0 O ρ S σ H)(r:Rep G h.sa (lT Av O) H d x)(q:z8 pt d ρ v)(k:∀t u c,St G h Av H0 t u S c H->tE Av O H t H->((∀i∈pt.slots,O i=none)->t=O)->(∀vs,(∀i∈pt.slots,i∈vs)->wipe c vs=wipe σ vs)->v u->Q c H):LD G.K pt x σ H Q:=by
 cases pt with
|one i=>exact k _ _ _ (st.set i r) fZ (λw=>kO (w i (by simp[CC.slots]))) (λvs b=>oa (b i (by simp[CC.slots]))) q
|two i j=>obtain⟨_,a,_,rfl,sq,m,q⟩:=R9 q r;obtain⟨_,_,_,_,rfl,s,p,q⟩:=IL q m;have g:=st.set i s;have f:=g.set j (p.imp λa o n e=>⟨λw=>n (iL w),e⟩);exact⟨a,_,rfl,sq,rfl,_,_,rfl,_,_,rfl,rfl,k _ _ _ f (fZ.trans fZ) (λw=>by rw[kO (w i (by simp[CC.slots])),kO (w j (by simp[CC.slots]))]) (λvs b=>by rw[oa (b j (by simp[CC.slots])),oa (b i (by simp[CC.slots]))]) q⟩
|three i j l=>
  obtain⟨_,a,_,rfl,sq,m,q⟩:=R9 q r;obtain⟨_,_,_,_,_,_,rfl,s,p,z,q⟩:=Sb q m;have g:=st.set i s;have f:=g.set j (p.imp λa o n e=>⟨λw=>n (iL w),e⟩);have y:=f.set l (z.imp λa o n e=>⟨λw=>n (iL (iL w)),e⟩);exact⟨a,_,rfl,sq,rfl,_,_,rfl,_,_,rfl,_,_,rfl,rfl,k _ _ _ y ((fZ.trans fZ).trans fZ) (λw=>by rw[kO (w i (by simp[CC.slots])),kO (w j (by simp[CC.slots])),kO (w l (by simp[CC.slots]))])
   (λvs b=>by rw[oa (b l (by simp[CC.slots])),oa (b j (by simp[CC.slots])),oa (b i (by simp[CC.slots]))]) q⟩
end
section
variable{X:Cx}{G:Gb}{tg iter:bL}{ti:lJ}{tb:uC}{pos:Pos}{pt:CC}
def PU(ti:lJ)(pt:CC)(tb:uC):uC:=λa S E=>ti a S λds c=>∃J:Nat->Env->a5 D->Prop,J 0 a c ∧
 (∀(i:Nat) d a S,ds[i]? = some d->J i a S->z8 pt d a λb=>tb b S ⟨J (i+1),E.rt⟩)/\∀a S,J ds.length a S->E.nx a S
theorem eP{A:a5 jv}(hi:QI X G tg iter ti)(hg:PG X tg (LD G.K pt))(hb:Km X G A tb)(hK:X.K=G.K:=by rfl)(hp:QL (bb X.prog X.w) X.A X.env X.xe:=by exact PassesOwn.never)(hc:X.calm=true:=by rfl)(hs:∀x,jc iter X.env x=pure x:=by intro _;rfl):QS X G (.For tg iter A [] pos) (PU ti pt tb):=by
 intro pins s F H D I hw;obtain⟨h,c,l,O,u,S,E',st,ht,Z,Y⟩:=hw;refine RN hp hc hi hg hb hs pins s F H D I ⟨h,c,l,O,u,S,_,st,ht,?_⟩;rintro It E ds S1 Q W ok ⟨J,j0,turn,fin⟩;refine⟨λi m o j=>m=ds.length-i/\i<=ds.length/\∃f d b,St G h c l f d b o j/\tE c O E f j/\J i d b,⟨ds.length,#v[0],d4 _,O,u,S1,Q,.refl,j0⟩,?_⟩;rintro i m o j ⟨rfl,ar,f,d,b,k,p,w⟩;obtain⟨go,stop⟩:=ok (lT c f) j p λa n=>(k.ok.av a n).ne;by_cases q:i<ds.length;obtain⟨g1,g2⟩:=go i ds[i] (aw q);refine .inr ⟨g1,λr g=>∃C t B,St G h c l C t B r g/\tE c O E C g/\J (i+1) t B,λr g z=>⟨ds.length-(i+1),#v[],rfl,q,z⟩,?_⟩;intro x g y;obtain⟨v,R⟩:=g2 x g y;have P:=k.same v;refine RX P R (turn i _ d b (aw q) w) λO4 L aq N V _ _ T=>?_;exact⟨h,c,l,O4,L,b,_,N,T,λap H5 O5 K S5 M U j5=>⟨O5,K,S5,M,((p.trans (k.vz (.of v))).trans V).trans U,j5⟩,Y⟩;have e:i=ds.length:=#v[]
 subst e;exact .inl ⟨stop,Z o j f d b k ((st.vz W).trans p) (fin d b w)⟩
def Hx(a:Env):a5 Nat->Env
|[]=>a
|v::vs=>(Hx a vs).set v none
def Nw(a:Env)(vs:a5 Nat):Bool:=vs.all λv=>match a[v]? with
|some (some (.ow _))=>false
|some _=>true
|none=>false
def dLc(ti:lJ)(pt:CC)(g:xp)(h:jg)(vs:a5 Nat):jg:=λc S Q=>Nw c vs=true/\ti c S λds a=>∃J:Nat->a5 D->Prop,J 0 [] ∧
 (∀(i:Nat) d acc,ds[i]? = some d->J i acc->z8 pt d (Hx c vs) λf=>g f a λb k=>k=a ∧
  (b=true->h f a λy j=>j=a/\acc.length<aQ/\J (i+1) (acc++[y]))/\(b=false->J (i+1) acc))/\∀acc,J ds.length acc->Q (.lst acc) a
theorem St.ae5{h:Sh}{i:ao->Prop}{g H:Hp}{S:a5 D}{vs:a5 Nat}{O:Nat->Option ao}{b:Env}{c:L2.St}(s:St G h i g O b S c H)(f:Nw b vs=true):∀v∈vs,O v=none:=λv d=>by
 have q:=bf.mp f v d;cases e:O v with
|none=>rfl
|some a=>rcases s.sup v a e with⟨ds,z⟩|z;rw[z]at q;cases q;rw[fX #v[]]at q;cases q
theorem St.wipe{h:Sh}{g:ao->Prop}{f H:Hp}{S:a5 D}{O:Nat->Option ao}:∀{vs:a5 Nat}{b:Env}{a:L2.St},St G h g f O b S a H->(∀v∈vs,O v=none)->St G h g f O (Hx b vs) S (L2.wipe a vs) H
|[],b,a,s,_=>s
|v::vs,b,a,s,c=>by have i:=St.wipe (vs:=vs) s λw j=>c w (ah _ j);have q:=i.drop v (sl:=none) (v:=none) λd e=>nomatch e;rw[kO (c v (aF ..))]at q;exact q
def QTs(X:Cx)(G:Gb)(a:a5 bL)(t:xp):Prop:=PTs X a (upT G t)
def ac3:xp:=λ_ S Q=>Q true S
theorem jG:QTs X G [] ac3:=by intro pins s a H Q I b;obtain⟨h,i,g,O,d,S,f,st,c,k⟩:=b;exact VZ pins s a H Q I (k _ _ ⟨S,st,.refl,c⟩)
theorem AI{c:bL}{t:xp}(h:QT X G c t):QTs X G [c] t:=VY h
theorem vsb(ws:a5 Nat):∃M:Nat,∀v∈ws,v<M:=by
 induction ws with
|nil=>exact⟨0,λv a=>nomatch a⟩
|cons w ws b=>obtain⟨M,c⟩:=b;refine⟨max M (w+1),λv a=>?_⟩;rcases aq.mp a with z|z;rw[z];exact Nat.le_max_right ..;exact aR (c v z) (Nat.le_max_left ..)
theorem mx3(a b c:Nat):∃n,a<=n/\b<=n/\c<=n:=⟨a+b+c,bu (cq ..) (cq ..),bu (DR ..) (cq ..),DR ..⟩
inductive LcI (G:Gb) (h:Sh) (Av:ao->Prop) (H0:Hp) (O O':Nat->Option ao) (ρ:Env) (S:List D) (σ:L2.St) (H1:Hp) (Dd:ao) (J:List D->Prop) (H2:Hp):Prop
|mk (acc:List D) (vs:List V) (_:St G h Av H0 O' ρ S σ H2) (_:tE Av O H1 O' H2) (_:Le h H1 H2) (_:H2 Dd=some (.lst vs)) (_:bV G h.sa (lT Av O') H2 acc vs) (_:J acc)
theorem Ya{own:a5 (Str×Nat)}{X:xp}{Y:jg}(ai:∀i∈pt.slots,i∈own.map (·.2)){r:L2.St}{H:Hp}{Q:VK}(P:XI G (dLc ti pt X Y (own.map (·.2))) r H Q):
  tLc (upI G ti) (LD G.K pt) (upT G X) (XI G Y) (own.map (·.2)) r H Q:=by
 obtain⟨h,g,B,O,s,S,Q',st,R,k⟩:=P;obtain⟨fv,R⟩:=R;have Ov:=st.ae5 fv;refine⟨h,g,B,O,s,S,_,st,R,?_⟩;rintro It H1 ds E l aF aI ⟨J,j0,turn,fin⟩;intro c p;obtain⟨N,aK⟩:=l.fin;obtain⟨M,hM⟩:=vsb (own.map (·.2));obtain⟨n,n1,n2,K⟩:=mx3 N M s.length;have On:O n=none:=aK n n1;have F:∀{x:Option Sl},s.set n x=s:=gk K;have U:∀{x:Option V},r.set n x=r:=gk (by rw[l.len];exact K);have ab:=l.take n p (ds:=[]) (xs:=[]) .nil;rw[F,U]at ab;have aV:∀a,lT g O a->lT g (js O n c) a:=λa z=>by rcases z with z|⟨j,z⟩;exact .inl z;refine .inr ⟨j,?_⟩;unfold js;rw[if_neg (by intro w;rw[w,On]at z;cases z)];exact z
 refine⟨λi m A=>m=ds.length-i/\i<=ds.length/\LcI G h g B O (js O n c) s E r H1 c (J i) A,
  ⟨ds.length,#v[0],d4 _,[],[],ab,Eb p,.new p,bZ,.nil,j0⟩,?_⟩
 rintro i m A ⟨rfl,aJ,acc,vs,f,I,L,T,C,j3⟩;obtain⟨go,stop⟩:=aI (lT g (js O n c)) A I λa n=>(f.ok.av a n).ne;have oD:js O n c n=some c:=by unfold js;rw[if_pos rfl]
 by_cases D:i<ds.length;obtain⟨g1,g2⟩:=go i ds[i] (aw D);refine .inr ⟨g1,LcI G h g B O (js O n c) s E r H1 c (J (i+1)),λH4 z=>⟨ds.length-(i+1),#v[],rfl,D,z⟩,?_⟩;intro x H4 y;obtain⟨sm,rx⟩:=g2 x H4 y;have ax:=f.same sm;have al:∀v∈own.map (·.2),js O n c v=none:=λv hv=>by unfold js;rw[if_neg (bQ (aR (hM v hv) n2))];exact Ov v hv
 have ar:=ax.wipe (vs:=own.map (·.2)) al;refine RX ar rx (turn i _ acc (aw D) j3) λO5 W aW av aX aP aq q5=>?_;obtain rfl:=aP λw P=>al w (ai w P);have aj:¬(h.on=true/\c=h.la):=λ⟨o,z⟩=>(l.ok.av c (.inl (by rw[z];exact l.la o))).ne p;refine⟨by rw[aq _ ai,Og],h,g,B,_,W,E,_,av,q5,?_⟩;rintro b H6 ⟨S2,aa,aE,rfl,q6⟩;have t:Le h A H6:=(Le.of sm).trans aE;cases b with
|false=>rw[if_neg bR];exact⟨acc,vs,f.grow t aa.ok,I.trans (f.vz t),L.trans t,t _ _ T aj,f.vq t C,q6.2 rfl⟩
|true=>rw[if_pos rfl];refine⟨h,g,B,_,W,S2,_,aa,q6.1 rfl,?_⟩;rintro y H7 ⟨d,S3,au,aD,r7,rfl,hz,j7⟩;have u:Le h A H7:=t.trans aD;have e7:=u _ _ T aj;have as:=f.grow u au.ok;have r8:bV G h.sa (lT g (js O n c)) H7 (acc++[d]) (vs++[y]):=(f.vq u C).append (.cons r7 .nil);have Z:=as.mut oD (λz=>absurd z (G4.mpr K)) e7 r8;rw[F]at Z;have nD:lT g (js O n c) c:=.inr ⟨n,oD⟩;refine⟨vs,e7,by rw[<- C.length];exact hz,acc++[d],vs++[y],Z,(I.trans (f.vz u)).trans (Bs oD),?_,bZ,r8.imp λa o n' e=>⟨n',by rw[bP (λz=>n' (by rw[z];exact nD))];exact e⟩,j7⟩;intro b o e w;rw[bP (cN e p)];exact(L.trans u) b o e w
 have e:i=ds.length:=Nat.le_antisymm aJ (G4.mp D);subst e;refine .inl ⟨stop,k _ _ ⟨_,E,?_,aF.trans L,?_,fin acc j3⟩⟩;have q:=f.drop n (sl:=none) (v:=none) λd z=>nomatch z;rw[F,U]at q;have eO:without (js O n c) n=O:=by funext j;unfold without js;by_cases z:j=n;rw[if_pos z,z,On];rw[if_neg z,if_neg z]
 rw[eO]at q;exact q;refine .lst ?_ T (C.imp λa o n e=>⟨λz=>n (aV a z),e⟩);rintro(z|⟨j,z⟩);exact f.ent c z (Nj l p);exact l.fresh p (.inr ⟨j,z⟩)
theorem su{g:bL}{f:a5 bL}{a:lV}{own:a5 (Str×Nat)}{c:xp}{d:jg}(o:X.N.Nodup)(hi:QI X G tg iter ti)(l:∀(s:aB)(H:Hp)(C:ao)(cl:a5 (Str×ao))(b:a5 ao),PG (X.Ag s H a (gW a cl C X.env) b) tg (LD G.K pt))(h:∀(s:aB)(H:Hp)(C:ao)(cl:a5 (Str×ao))(b:a5 ao),QTs (X.Ag s H a (gW a cl C X.env) b) G f c)(m:∀(s:aB)(H:Hp)(C:ao)(cl:a5 (Str×ao))(b:a5 ao),QE (X.Ag s H a (gW a cl C X.env) b) G g d)(ok:Fc X.N X.env.scope a own:=by exact⟨rfl,of_decide_eq_true (by kernel_rfl),of_decide_eq_true (by kernel_rfl),of_decide_eq_true (by kernel_rfl),of_decide_eq_true (by kernel_rfl)⟩)(n:X.calm=true:=by rfl)(k:∀i∈pt.slots,i∈own.map (·.2):=by decide)(j:∀x,jc iter X.env x=pure x:=by intro _;rfl):
  QE X G (.ListComp g [⟨tg,iter,f,0⟩] a pos) (dLc ti pt c d (own.map (·.2))):=ir (acx n o hi ok l h m j) (Ya k)
theorem ou(i:Nat){y:Str}{l k:Pos}{f:bL}{c:a5 bL}{a:lV}{own:a5 (Str×Nat)}{g:xp}{j:jg}(N:X.N.Nodup)(hi:QI X G tg iter ti)(K:∀(s:aB)(H:Hp)(C:ao)(cl:a5 (Str×ao))(b:a5 ao),PG (X.Ag s H a (gW a cl C X.env) b) tg (LD G.K pt))(B:∀(s:aB)(H:Hp)(C:ao)(cl:a5 (Str×ao))(b:a5 ao),QTs (X.Ag s H a (gW a cl C X.env) b) G c g)(L:∀(s:aB)(H:Hp)(C:ao)(cl:a5 (Str×ao))(b:a5 ao),QE (X.Ag s H a (gW a cl C X.env) b) G f j)(w:X.N[i]? = some y:=by rfl)(u:X.env.scope.names.lookup y=some .local:=by rfl)(E:lq (.ListComp f [⟨tg,iter,c,0⟩] a pos) (some (.Name y l)) k.line X.env=pure true:=by rfl)(ok:Fc X.N X.env.scope a own:=by exact⟨rfl,of_decide_eq_true (by kernel_rfl),of_decide_eq_true (by kernel_rfl),of_decide_eq_true (by kernel_rfl),of_decide_eq_true (by kernel_rfl)⟩)(M:X.calm=true:=by rfl)(J:∀i∈pt.slots,i∈own.map (·.2):=by decide)(F:∀x,jc iter X.env x=pure x:=by intro _;rfl):
  QS X G (.Assign [.Name y l] (.ListComp f [⟨tg,iter,c,0⟩] a pos) k) (Ae i (dLc ti pt g j (own.map (·.2)))):=by intro pins s m H D I z;obtain⟨h,R,Q,O,n,S,U,st,A,t,T⟩:=z;refine RL M N w u E hi ok K B L F pins s m H D I (Ya J ⟨h,R,Q,O,n,S,_,st,A,?_⟩);rintro v H' ⟨d,P,o,p,r,q⟩;exact t _ H' _ _ P (o.set i r) ((st.vz p).trans fZ) q
end
abbrev FP:=a5 D->(D->Prop)->Prop
abbrev FS:=a5 D->a5 D->(D->a5 D->Prop)->Prop
def spP(G:Gb)(F:FP):Sp:=λvs H Q _=>∃sa b ds c,(∀a,b a->IsL H a)/\bV G sa b H ds vs/\F ds c/\∀v H' d,kc H H'->Rep G sa b H' d v->c d->Q v H'
def spS(G:Gb)(F:FS):Sp:=λvs H Q _=>∃h a ds S c,(h.on=true->a h.la)/\Ok G h a S H/\bV G h.sa a H ds vs/\F ds S c/\∀v H' d b,Le h H H'->Ok G h a b H'->Rep G h.sa a H' d v->c d b->Q v H'
def ko(N:a5 Str)(ds:a5 D):Env:=ds.map (λd=>some (.sh d))++fC (N.length-ds.length) none
theorem KO{N:a5 Str}{ds:a5 D}{i:Nat}{s:Sl}(h:(ko N ds)[i]? = some (some s)):∃d,ds[i]? = some d/\s=.sh d:=by
 unfold ko at h;by_cases q:i<ds.length;rw[ej #v[q],bq]at h;cases e:ds[i]? with
|none=>rw[e]at h;cases h
|some d=>rw[e]at h;exact⟨d,rfl,by simpa using h.symm⟩
 rw[fE #v[q],Kd]at h;split at h<;>cases h
theorem Ox{N:a5 Str}{vs:a5 V}{i:Nat}{v:V}(h:vs[i]? = some v):(L2.start N vs)[i]? = some (some v):=by have q:=(aJ.mp h).1;unfold L2.start;rw[ej #v[q],bq,h];rfl
theorem St.start{G:Gb}{h:Sh}{b:ao->Prop}{H:Hp}{S:a5 D}{N:a5 Str}{ds:a5 D}{vs:a5 V}(la:h.on=true->b h.la)(ok:Ok G h b S H)(r:bV G h.sa b H ds vs):St G h b H (λ_=>none) (ko N ds) S (L2.start N vs) H where
 le:=.refl
 ent:=λa n=>(ok.av a n).ne
 la:=la
 ok:=ok.weak (λa n=>n.elim id λ⟨j,z⟩=>nomatch z) λo=>.inl (la o)
 own:=λi a e=>nomatch e
 inj:=λi j a e=>nomatch e
 len:=by unfold L2.start ko;simp[r.length]
 fin:=⟨0,λ_ _=>rfl⟩
 sup:=λi a e=>nomatch e
 slot:=λi s e=>by obtain⟨d,g,rfl⟩:=KO e;obtain⟨v,f,c⟩:=r.get g;exact⟨v,Ox f,c.imp λa o n e=>⟨λz=>n (z.elim id λ⟨j,z⟩=>nomatch z),e⟩⟩
def Def(K:au)(mg:Str->Option ak)(x:Str)(st:jv)(ps:a5 Str):Prop:=∃f a,Ud K x x st f a/\mg x=some (.ref f)/\Binds K a ps []
def afu(K:au)(C:ao)(x b:Str)(st:jv)(ps:a5 Str):Prop:=∃f a,Ud K x b st f a/\Meth K C x f/\Binds K a ps []
section
variable{P:bC}{w:cu}{K:au}{mg:Str->Option ak}{base:cY}{G:Gb}
def FnP(P:bC)(w:cu)(K:au)(mg:Str->Option ak)(base:cY)(G:Gb)(x:Str)(k:Nat)(F:FP):Prop:=
 ∃f a ps,lS P w K mg base CQ k f a ps (spP G F)/\mg x=some (.ref f)/\c8 K (.ref f)=true/\Binds K a ps []
def FnS(P:bC)(w:cu)(K:au)(mg:Str->Option ak)(base:cY)(G:Gb)(x:Str)(k:Nat)(F:FS):Prop:=
 ∃f a ps,lS P w K mg base CQ k f a ps (spS G F)/\mg x=some (.ref f)/\c8 K (.ref f)=true/\Binds K a ps []
def MtS(P:bC)(w:cu)(K:au)(mg:Str->Option ak)(base:cY)(G:Gb)(C:ao)(x:Str)(k:Nat)(F:FS):Prop:=
 ∃f a ps,lS P w K mg base CQ k f a ps (spS G F)/\Meth K C x f/\Binds K a ps []
theorem Vx{t:uC}{F:FP}{N:a5 Str}{vs:a5 V}{H:Hp}{Q:VK}{E:XK}(h:spP G F vs H Q E)(g:∀ds Q,F ds Q->t (ko N ds) [] ⟨λ_ _=>Q .jw,λd _=>Q d⟩):
  Zj G t { nx:=λ_ H'=>Q .jw H',rt:=Q } (L2.start N vs) H:=by obtain⟨sa,m,ds,l,av,r,f,k⟩:=h;have a:∀{H':Hp},Le ⟨false,sa,0⟩ H H'->kc H H':=λle b o e=>le b o e (λz=>nomatch z.1);refine⟨⟨false,sa,0⟩,m,H,λ_=>none,ko N ds,[],_,St.start (λz=>nomatch z) ⟨av,(λz=>nomatch z),(λz=>absurd rfl z),λz=>nomatch z⟩ r,g ds l f,?_,?_⟩;intro n H' u p j c s q;exact k _ _ _ (a c.le) .jw q;intro v H' d j le ok i q;exact k _ _ _ (a le) i q
theorem HH{t:uC}{F:FS}{N:a5 Str}{vs:a5 V}{H:Hp}{Q:VK}{E:XK}(h:spS G F vs H Q E)(c:∀ds S Q,F ds S Q->t (ko N ds) S ⟨λ_ a=>Q .jw a,Q⟩):
  Zj G t { nx:=λ_ H'=>Q .jw H',rt:=Q } (L2.start N vs) H:=by obtain⟨h,j,ds,S,i,la,ok,r,f,k⟩:=h;refine⟨h,j,H,λ_=>none,ko N ds,S,_,St.start la ok r,c ds S i f,?_,?_⟩;intro l H' o m a b n q;exact k _ _ _ a b.le b.out .jw q;intro v H' d a le ok g q;exact k _ _ _ a le ok g q
theorem MG{F:FP}{ps:a5 Str}(len:∀ds Q,F ds Q->ds.length=ps.length):∀vs H Q E,spP G F vs H Q E->vs.length=ps.length:=λvs H Q E ⟨sa,b,ds,a,av,r,f,k⟩=>by rw[<- r.length];exact len ds a f
theorem MF{F:FS}{ps:a5 Str}(len:∀ds S Q,F ds S Q->ds.length=ps.length):∀vs H Q E,spS G F vs H Q E->vs.length=ps.length:=λvs H Q E ⟨h,b,ds,S,a,la,ok,r,f,k⟩=>by rw[<- r.length];exact len ds S a f
theorem aaM{x:Str}{st:jv}{N ps:a5 Str}{k:Nat}{F:FP}{t:uC}(d:Def K mg x st ps)(sc:ke N ps (b7 st))(len:∀ds Q,F ds Q->ds.length=ps.length)(m:∀(f:ao)(a:ak)(A:bT)(outer:a5 rf)(s:aB)(H:Hp)(E:XK),gC k (A.deeper (nu x (b7 st) s.heap.objs.size f a))->Km (yC CQ P w K mg base N x (b7 st) f a A outer s H E).Se G (gT st) t)(c:∀ds Q,F ds Q->t (ko N ds) [] ⟨λ_ _=>Q .jw,λd _=>Q d⟩):FnP P w K mg base G x (k+1) F:=by obtain⟨f,l,b,i,j⟩:=d;refine⟨f,l,ps,b.ok sc (MG len) λa A outer s H vs Q E h g=>⟨_,m f a A outer s H E h,Vx g c⟩,i,b.kp,j⟩
theorem aaL{x:Str}{st:jv}{N ps:a5 Str}{k:Nat}{F:FS}{t:uC}(d:Def K mg x st ps)(sc:ke N ps (b7 st))(len:∀ds S Q,F ds S Q->ds.length=ps.length)(m:∀(f:ao)(a:ak)(A:bT)(outer:a5 rf)(s:aB)(H:Hp)(E:XK),gC k (A.deeper (nu x (b7 st) s.heap.objs.size f a))->Km (yC CQ P w K mg base N x (b7 st) f a A outer s H E).Se G (gT st) t)(c:∀ds S Q,F ds S Q->t (ko N ds) S ⟨λ_ n=>Q .jw n,Q⟩):FnS P w K mg base G x (k+1) F:=by obtain⟨f,l,b,i,j⟩:=d;refine⟨f,l,ps,b.ok sc (MF len) λa A outer s H vs Q E h g=>⟨_,m f a A outer s H E h,HH g c⟩,i,b.kp,j⟩
theorem aan{C:ao}{x b:Str}{st:jv}{N ps:a5 Str}{k:Nat}{F:FS}{t:uC}(d:afu K C x b st ps)(sc:ke N ps (b7 st))(len:∀ds S Q,F ds S Q->ds.length=ps.length)(m:∀(f:ao)(a:ak)(A:bT)(outer:a5 rf)(s:aB)(H:Hp)(E:XK),gC k (A.deeper (nu b (b7 st) s.heap.objs.size f a))->Km (yC CQ P w K mg base N b (b7 st) f a A outer s H E).Se G (gT st) t)(c:∀ds S Q,F ds S Q->t (ko N ds) S ⟨λ_ n=>Q .jw n,Q⟩):MtS P w K mg base G C x (k+1) F:=by obtain⟨f,l,o,i,j⟩:=d;refine⟨f,l,ps,o.ok sc (MF len) λa A outer s H vs Q E h g=>⟨_,m f a A outer s H E h,HH g c⟩,i,j⟩
end
section
variable{X:Cx}{G:Gb}{e o:bL}{es:a5 bL}{te:jg}{t:lJ}{pos p apos:Pos}{x:Str}{k:Nat}
def EL(F:FP)(t:lJ):jg:=λa S Q=>t a S λds b=>F ds λd=>Q d b
def LW(F:FS)(t:lJ):jg:=λa S Q=>t a S λds b=>F ds b Q
theorem aN{F:FP}(L:FnP X.prog X.w X.K X.mg X.base G x k F){c:Nat}(s:gC c X.A)(A:QA X G (e::es) t)(l:k<=c:=by decide)(w:Gl X x:=by rfl)(z:(x == ("__debug__" : Str))=false:=by decide)(y:aG (e::es) X.env=(false,cg e X.env)::aG es X.env:=by rfl)(u:(ef pos (aG es X.env)).any (·.1)=false:=by rfl):
  QE X G (.Call (.Name x p) (e::es) [] pos) (EL F t):=by obtain⟨f,N,ps,E,D,C,B⟩:=L;refine ir (MW E (s.mono l) w D C B .nil Bu A z y u) ?_;rintro M H Q ⟨h,g,K,O,i,S,P,st,r,k⟩;refine⟨h,g,K,O,i,S,_,st,r,?_⟩;rintro vs R ⟨ds,I,a,q,m,o⟩;rw[cG];exact⟨h.sa,lT g O,ds,_,a.ok.av,m,o,λv J d b j n=>k v J ⟨d,I,a.same b,q.trans (.of b),j,n⟩⟩
theorem sv{F:FS}(P:FnS X.prog X.w X.K X.mg X.base G x k F){c:Nat}(w:gC c X.A)(C:QA X G (e::es) t)(l:k<=c:=by decide)(z:Gl X x:=by rfl)(B:(x == ("__debug__" : Str))=false:=by decide)(A:aG (e::es) X.env=(false,cg e X.env)::aG es X.env:=by rfl)(y:(ef pos (aG es X.env)).any (·.1)=false:=by rfl):
  QE X G (.Call (.Name x p) (e::es) [] pos) (LW F t):=by obtain⟨f,T,ps,J,I,E,D⟩:=P;refine ir (MW J (w.mono l) z I E D .nil Bu C B A y) ?_;rintro R H Q ⟨h,g,N,O,i,S,U,st,u,k⟩;refine⟨h,g,N,O,i,S,_,st,u,?_⟩;rintro vs V ⟨ds,L,a,s,m,q⟩;rw[cG];exact⟨h,lT g O,ds,L,_,λo=>.inl (a.la o),a.ok,m,q,λv M d K b r j n=>k v M ⟨d,K,a.grow b r,s.trans b,j,n⟩⟩
def Tu(F:FS)(te:jg)(t:lJ):jg:=λa S Q=>te a S λd b=>b≠[]/\match d with
|.dU=>t a b λds c=>F (.dU::ds) c Q
|_=>False
theorem yZ{la:ao}{m:Str}(h:¬m = "places"):(p8 la).lookup m=none:=by unfold p8;rw[jU,if_neg h];rfl
theorem y2{la:ao}:(p8 la).lookup ("places" : Str)=some (.ref la):=by unfold p8;rw[jU,if_pos rfl]
theorem cp{F:FS}{m:Str}{pl:Sem Bool}(Y:MtS X.prog X.w X.K X.mg X.base G G.cT m k F)(c:Fb X.K G.cT){r:Nat}(E:gC r X.A)(J:QE X G o te)(L:QA X G (e::es) t)(l:k<=r:=by decide)(K:¬m = "places":=by decide +kernel)(D:aG (e::es) X.env=(false,cg e X.env)::aG es X.env:=by rfl)(I:(ef pos (aG es X.env)).any (·.1)=false:=by rfl)(i:cg (.Call (.Attribute o m apos) (e::es) [] pos) X.env=(do
   let p <- cg o X.env
   zX apos.atName
   let(f,first) <- kF [p] (zY p m pl)
   XD pos f first (ef pos (aG (e::es) X.env)) (yU pos (oV [] X.env))):=by rfl):
  QE X G (.Call (.Attribute o m apos) (e::es) [] pos) (Tu F te t):=by obtain⟨f,fd,ps,P,N,M⟩:=Y;refine ir (V5 J c N P (E.mono l) M .nil Bu L D I i) ?_;rintro Z H Q ⟨h,j,s,O,n,S,Q',st,i,k⟩;refine⟨h,j,s,O,n,S,_,st,i,?_⟩;rintro v H1 ⟨d,V,b,C,x,ne,g⟩;split at g;cases x;obtain⟨_,⟨dx,R⟩,_⟩:=b.ok.on (b.ok.sz ne);refine⟨h.sa,dx,_,rfl,R,yZ K,h,j,s,O,n,V,_,b,g,?_⟩;rintro vs H2 ⟨ds,U,a,B,w,z⟩;rw[cG];exact⟨h,lT j O,.dU::ds,U,_,λo=>.inl (a.la o),a.ok,.cons .dU w,z,λv W d T q A u y=>k v W ⟨d,T,a.grow q A,(C.trans B).trans q,u,y⟩⟩;exact g.elim
theorem Bn{F:FS}{m:Str}{pl:Sem Bool}(L:MtS X.prog X.w X.K X.mg X.base G G.cT m k F)(c:Fb X.K G.cT){n:Nat}(x:gC n X.A)(y:QE X G o te)(l:k<=n:=by decide)(z:¬m = "places":=by decide +kernel)(g:cg (.Call (.Attribute o m apos) [] [] pos) X.env=(do
   let i <- cg o X.env
   zX apos.atName
   let(f,first) <- kF [i] (zY i m pl)
   XD pos f first (ef pos (aG [] X.env)) (yU pos (oV [] X.env))):=by rfl):
  QE X G (.Call (.Attribute o m apos) [] [] pos) (Tu F te nQ):=by obtain⟨f,N,ps,C,B,A⟩:=L;refine ir (RQ y c B C (x.mono l) A .nil Bu g) ?_;rintro M H Q ⟨h,p,K,O,q,S,P,st,g,k⟩;refine⟨h,p,K,O,q,S,_,st,g,?_⟩;rintro v R ⟨d,I,a,w,s,ne,b⟩;split at b;cases s;obtain⟨_,⟨dx,D⟩,_⟩:=a.ok.on (a.ok.sz ne);refine⟨h.sa,dx,_,rfl,D,yZ z,?_⟩;exact⟨h,lT p O,[.dU],I,_,λo=>.inl (a.la o),a.ok,.cons .dU .nil,b,λv J d E j u r t=>k v J ⟨d,E,a.grow j u,w.trans j,r,t⟩⟩;exact b.elim
def ac5(te:jg):jg:=λa S Q=>te a S λd b=>match d with
|.yX r _=>Q r b
|_=>False
def ac6(te:jg):jg:=λa S Q=>te a S λd b=>match d with
|.yX _ p=>Q p b
|_=>False
theorem jS(q:X.K=G.K)(c:Fb G.K G.cS)(i:kR G.K G.cS "radius")(m:QE X G o te)(p:gJ o "radius" X.env (cg o X.env)=cg o X.env:=by rfl):QE X G (.Attribute o "radius" pos) (ac5 te):=by
 refine ir (FQ m p) ?_;rintro u H Q ⟨h,t,s,O,f,S,x,st,l,k⟩;refine⟨h,t,s,O,f,S,_,st,l,?_⟩;rintro v y ⟨d,r,g,j,a,b⟩;split at b;cases a with
|yX n e l1 l2 a w=>rw[q];exact⟨_,_,_,_,_,rfl,e,c,i,l1,k _ _ ⟨_,r,g,j,a,b⟩⟩
 exact b.elim
theorem dS(r:X.K=G.K)(c:Fb G.K G.cS)(j:kR G.K G.cS "points")(p:QE X G o te)(q:gJ o "points" X.env (cg o X.env)=cg o X.env:=by rfl):QE X G (.Attribute o "points" pos) (ac6 te):=by
 refine ir (FQ p q) ?_;rintro w H Q ⟨h,u,t,O,f,S,x,st,m,k⟩;refine⟨h,u,t,O,f,S,_,st,m,?_⟩;rintro v y ⟨d,s,g,l,b,a⟩;split at a;cases b with
|yX n e l1 l2 b i=>rw[r];exact⟨_,_,_,_,_,rfl,e,c,j,l2,k _ _ ⟨_,s,g,l,i,a⟩⟩
 exact a.elim
def Ft(C:ao):Sp:=λvs H Q _=>∃(a dx:ao)(c pv:V),vs=[.ref a,c,pv]/\H a=some (.ins C dx []) ∧
 ∀(H':Hp)(fs:a5 (Str×V)),H' a=some (.ins C dx fs)->fs.lookup ("radius" : Str)=some c->fs.lookup ("points" : Str)=some pv->(∀b o,H b=some o->b≠a->H' b=some o)->Q .jw H'
def LS(t:lJ):jg:=λa S Q=>t a S λds b=>match ds with
|[r,p]=>Q (.yX r p) b
|_=>False
theorem RB{f:ao}{m:gX}{ps:a5 Str}(M:Mk X.K G.cS f)(F:lS X.prog X.w X.K X.mg X.base CQ k f m ps (Ft G.cS))(u:gC (k+1) X.A)(y:Gl X x)(w:X.mg x=some (.ref G.cS))(B:Binds X.K m ps [])(C:QA X G (e::es) t)(A:(x == ("__debug__" : Str))=false:=by decide)(z:aG (e::es) X.env=(false,cg e X.env)::aG es X.env:=by rfl)(v:(ef pos (aG es X.env)).any (·.1)=false:=by rfl):
  QE X G (.Call (.Name x p) (e::es) [] pos) (LS t):=by
 refine ir (V6 M F u y w B .nil Bu C A z v) ?_;rintro N H Q ⟨h,L,K,O,n,S,P,st,s,k⟩;refine⟨h,L,K,O,n,S,_,st,s,?_⟩;rintro vs J ⟨ds,E,c,r,i,j⟩;intro a dx l nd ne;split at j;cases i with
|cons i g=>
  cases g with
 |cons g q=>cases q;refine⟨a,dx,_,_,rfl,bZ,λI fs D l1 l2 kp=>⟨rfl,?_⟩⟩;have d:kc J I:=λb o e=>kp b o (by rw[bP (cN e l),bP (cN e nd)];exact e) (cN e l);exact k _ _ ⟨_,E,c.same d,r.trans (.of d),.yX (c.fresh l) D l1 l2 (c.rep (.of d) i) (c.rep (.of d) g),j⟩
 exact j.elim
abbrev Xg:=Env->a5 D->(Option Int->a5 D->Prop)->Prop
def upO(G:Gb)(t:Xg):TO:=λb H Q=>∃h g f O a S d,St G h g f O a S b H/\t a S d/\∀o H' c,St G h g f O a c b H'->Le h H H'->d o c->Q o H'
def QO(X:Cx)(G:Gb)(e:Option bL)(t:Xg):Prop:=PO X e (upO G t)
def NJ:Xg:=λ_ S Q=>Q none S
def zm(te:jg):Xg:=λa S Q=>te a S λd b=>match d with
|.int i=>Q (some i) b
|_=>False
theorem iY:QO X G none NJ:=by intro pins s a H Q I b;obtain⟨h,i,g,O,d,S,f,st,c,k⟩:=b;exact V4 pins s a H Q I (k _ _ S st .refl c)
theorem fL(h:QE X G e te):QO X G (some e) (zm te):=by intro pins s b H Q I j;obtain⟨h',o,n,O,c,S,p,st,l,k⟩:=j;refine V3 h pins s b H Q I ⟨h',o,n,O,c,S,_,st,l,?_⟩;rintro v q ⟨d,m,f,i,g,a⟩;split at a;obtain rfl:=g.int_inv;exact⟨_,rfl,k _ _ m f i a⟩;exact a.elim
def cutD(xs:a5 D)(lo hi:Option Int):a5 D:=(xs.drop (HT.nX xs.length 0 lo)).take (HT.nX xs.length xs.length hi-HT.nX xs.length 0 lo)
def dSl(te:jg)(c f:Xg):jg:=λa S Q=>te a S λd h=>c a h λlo g=>f a g λhi b=>match d with
|.lst ds=>Q (.lst (cutD ds lo hi)) b
|.zl ds=>Q (.lst (cutD ds lo hi)) b
|_=>False
theorem fO{lo hi:Option bL}{s t:Xg}{B:Pos}(E:QE X G e te)(hl:QO X G lo s)(C:QO X G hi t)(F:X.K=G.K:=by rfl):QE X G (.Subscript e (.Slice lo hi none B) pos) (dSl te s t):=by refine ir (Iy MI E hl C) ?_;rintro K H Q ⟨h,q,o,O,j,S,M,st,D,k⟩;refine⟨h,q,o,O,j,S,_,st,D,?_⟩;rintro v R ⟨d,J,m,w,u,A⟩;refine⟨h,q,o,O,j,J,_,m,A,?_⟩;intro lo P I l i y;refine⟨h,q,o,O,j,I,_,l,y,?_⟩;intro hi N x c g f;split at f;obtain⟨a,xs,rfl,L,n,r⟩:=(l.rep g (m.rep i u)).lst_inv;refine⟨a,xs,rfl,.inl (.inl n),λp b=>k _ _ ⟨_,x,c.same (fN b),((w.trans i).trans g).trans (.new b),.lst (c.fresh b) bZ ?_,f⟩⟩;have z:=(r.drop (HT.nX xs.length 0 lo)).take (HT.nX xs.length xs.length hi-HT.nX xs.length 0 lo);unfold cutD PV;rw[r.length];exact c.vq (.new b) z;obtain⟨a,xs,rfl,n,r⟩:=(l.rep g (m.rep i u)).Fj;rw[F];refine⟨a,xs,rfl,n,λp b=>k _ _ ⟨_,x,c.same (fN b),((w.trans i).trans g).trans (.new b),.lst (c.fresh b) bZ ?_,f⟩⟩;have z:=(r.drop (HT.nX xs.length 0 lo)).take (HT.nX xs.length xs.length hi-HT.nX xs.length 0 lo);unfold cutD PV;rw[r.length];exact c.vq (.new b) z;exact f.elim
end
section
variable{X:Cx}{G:Gb}
def Gz:FP:=λds Q=>o1 ds λd=>match d with
|.lst xs=>Q (.int (xs.length:Nat))
|.tup xs=>Q (.int (xs.length:Nat))
|.zl xs=>Q (.int (xs.length:Nat))
|_=>False
theorem bV.one{sa:ao}{A:ao->Prop}{H:Hp}{d:D}{vs:a5 V}(r:bV G sa A H [d] vs):∃v,vs=[v]/\Rep G sa A H d v:=by
 cases r with
|cons b a=>cases a;exact⟨_,rfl,b⟩
theorem bV.two{sa:ao}{A:ao->Prop}{H:Hp}{d e:D}{vs:a5 V}(r:bV G sa A H [d,e] vs):∃v u,vs=[v,u]/\Rep G sa A H d v/\Rep G sa A H e u:=by
 cases r with
|cons c b=>obtain⟨v,rfl,a⟩:=b.one;exact⟨_,_,rfl,c,a⟩
theorem bV.three{sa:ao}{A:ao->Prop}{H:Hp}{d e f:D}{vs:a5 V}(r:bV G sa A H [d,e,f] vs):∃v u w,vs=[v,u,w]/\Rep G sa A H d v/\Rep G sa A H e u/\Rep G sa A H f w:=by
 cases r with
|cons g c=>obtain⟨v,u,rfl,b,a⟩:=c.two;exact⟨_,_,_,rfl,g,b,a⟩
theorem aa3(i:X.K=G.K):nF G (λxs H Q=>∃p b,xs=[.ref p]/\(lY X.K H p b\/zy X.K H p b)/\Q (.int b.length) H) Gz:=by
 intro h l s O o S m H xs ds j Q st r c k;rw[i];obtain⟨d,v,rfl,g,c⟩:=Eg c r;have key:∀{ds b},bV G h.sa (lT l O) H ds b->j (.int (ds.length:Nat))->Q (.int b.length) H:=λr q=>k _ _ _ (λ_ _ z=>z) (.int _) (r.length▸q);cases d<;>first|exact c.elim|skip
 obtain⟨a,b,rfl,e,f⟩:=g.AD;exact⟨a,b,rfl,.inr e,key f c⟩;obtain⟨a,b,rfl,e,f⟩:=g.Fj;exact⟨a,b,rfl,.inl e,key f c⟩;obtain⟨a,b,rfl,n,e,f⟩:=g.lst_inv;exact⟨a,b,rfl,.inl (.inl (.inl e)),key f c⟩
def aaQ:FP:=λds Q=>match ds with
|[.int i]=>Q (.int (if i<0 then -i else i))
|_=>False
theorem TR:nF G (λxs H Q=>∃i,xs=[.int i]/\Q (.int (if i<0 then -i else i)) H) aaQ:=by intro h j g O d S c H xs ds f Q st r a k;unfold aaQ at a;split at a;obtain⟨v,rfl,b⟩:=r.one;obtain rfl:=b.int_inv;exact⟨_,rfl,k _ _ _ (λ_ _ z=>z) (.int _) a⟩;exact a.elim
def Tc:FP:=λds Q=>match ds with
|[.int i,.int j]=>Q (.int (if j > i then j else i))
|_=>False
def Tb:FP:=λds Q=>match ds with
|[.int i,.int j]=>Q (.int (if j<i then j else i))
|_=>False
theorem AS:nF G (λxs H Q=>∃i j,xs=[.int i,.int j]/\Q (.int (if j > i then j else i)) H) Tc:=by intro h m l O f S d H xs ds g Q st r a k;unfold Tc at a;split at a;obtain⟨v,u,rfl,c,b⟩:=r.two;obtain rfl:=c.int_inv;obtain rfl:=b.int_inv;exact⟨_,_,rfl,k _ _ _ (λ_ _ z=>z) (.int _) a⟩;exact a.elim
theorem NQ:nF G (λxs H Q=>∃i j,xs=[.int i,.int j]/\Q (.int (if j<i then j else i)) H) Tb:=by intro h m l O f S d H xs ds g Q st r a k;unfold Tb at a;split at a;obtain⟨v,u,rfl,c,b⟩:=r.two;obtain rfl:=c.int_inv;obtain rfl:=b.int_inv;exact⟨_,_,rfl,k _ _ _ (λ_ _ z=>z) (.int _) a⟩;exact a.elim
def Yg:FP:=λds Q=>o3 ds λa b c=>oI a λi=>oI b λj=>oI c λk=>Q (.int (max i (max j k)))
theorem ER(o:X.calm=true):lK X (.builtin "max") (λxs H Q=>∃i j k,xs=[.int i,.int j,.int k]/\Q (.int (max i (max j k))) H):=by
 intro pins s p H xs us Q I r h;obtain⟨i,j,k,rfl,q⟩:=h;cases r with
|cons m r=>
  cases r with
 |cons l r=>
   cases r with
  |cons g r=>cases r;obtain⟨f,rfl⟩:=m;obtain⟨d,rfl⟩:=l;obtain⟨b,rfl⟩:=g;refine max_three_ints (I.ok.hd o) λh' tk n=>⟨_,H,I.kept n,?_,q⟩;by_cases c:j > i;rw[if_pos c];by_cases a:k > j;rw[if_pos a];exact⟨b,by rw[show max i (max j k)=k by lia]⟩;rw[if_neg a];exact⟨d,by rw[show max i (max j k)=j by lia]⟩;rw[if_neg c];by_cases a:k > i;rw[if_pos a];exact⟨b,by rw[show max i (max j k)=k by lia]⟩;rw[if_neg a];exact⟨f,by rw[show max i (max j k)=i by lia]⟩
theorem NR:nF G (λxs H Q=>∃i j k,xs=[.int i,.int j,.int k]/\Q (.int (max i (max j k))) H) Yg:=by intro h s q O o S n H xs ds p Q st r a k;obtain⟨_,_,_,_,_,_,e,d,c,b,a⟩:=Sb a r;obtain⟨i,m,a⟩:=d.lE a;obtain⟨j,g,a⟩:=c.lE a;obtain⟨l,f,a⟩:=b.lE a;exact⟨_,_,_,by rw[e,m,g,f],k _ _ _ (λ_ _ z=>z) (.int _) a⟩
def acV:FP:=λds Q=>o1 ds λd=>match d with
|.bl b=>Q (.int (if b then 1 else 0))
|_=>False
theorem GK:nF G (λxs H Q=>(∃i,xs=[.int i]/\Q (.int i) H)\/∃k,xs=[.bl k]/\Q (.int (if k then 1 else 0)) H) acV:=by intro h m l O g S f H xs ds j Q st r a k;obtain⟨_,_,e,c,a⟩:=Eg a r;obtain⟨b,d,a⟩:=c.ES a;exact .inr ⟨b,by rw[e,d],k _ _ _ (λ_ _ z=>z) (.int _) a⟩
def Td:FP:=λds Q=>o1 ds λd=>match d with
|.lst xs=>Q (.lst xs)
|.tup xs=>Q (.lst xs)
|_=>False
theorem NS(i:X.K=G.K):nF G (λxs H Q=>∃p b,xs=[.ref p]/\(lY X.K H p b\/zy X.K H p b)/\∀l,H l=none->Q (.ref l) (upd H l (.lst b))) Td:=by
 intro h s q O m S j H xs ds o Q st r c k;rw[i];obtain⟨d,v,rfl,g,c⟩:=Eg c r;cases d<;>first|exact c.elim|skip
 obtain⟨a,b,rfl,e,f⟩:=g.AD;exact⟨a,b,rfl,.inr e,λl hl=>k _ _ _ (fN hl) (.lst (st.fresh hl) bZ (st.vq (.new hl) f)) c⟩;obtain⟨a,b,rfl,n,e,f⟩:=g.lst_inv;exact⟨a,b,rfl,.inl (.inl (.inl e)),λl hl=>k _ _ _ (fN hl) (.lst (st.fresh hl) bZ (st.vq (.new hl) f)) c⟩
def LH:FP:=λds Q=>match ds with
|[.lst xs]=>Q (.tup xs)
|_=>False
theorem TQ:nF G (λxs H Q=>∃p b,xs=[.ref p]/\((lY X.K H p b/\∀l,H l=none->Q (.ref l) (upd H l (.tup b)))\/(zy X.K H p b/\Q (.ref p) H))) LH:=by intro h o m O i S g H xs ds j Q st r c k;unfold LH at c;split at c;obtain⟨v,rfl,f⟩:=r.one;obtain⟨a,b,rfl,n,e,d⟩:=f.lst_inv;exact⟨a,b,rfl,.inl ⟨.inl (.inl e),λl hl=>k _ _ _ (fN hl) (.tup (st.fresh hl) bZ (st.vq (.new hl) d)) c⟩⟩;exact c.elim
def mF:a5 D->Option (a5 Int)
|[]=>some []
|.int i::r=>(mF r).map (i :: ·)
|_=>none
theorem zx:∀{ds:a5 D}{ns:a5 Int},mF ds=some ns->ds=ns.map D.int
|[],ns,h=>by cases h;rfl
|.int i::r,ns,h=>by
  unfold mF at h;cases q:mF r with
 |none=>rw[q]at h;cases h
 |some ms=>rw[q]at h;have h:i::ms=ns:=aH h;subst h;rw[zx q];rfl
|.jw::_,_,h=>nomatch h
|.bl _::_,_,h=>nomatch h
|.tup _::_,_,h=>nomatch h
|.lst _::_,_,h=>nomatch h
|.yX _ _::_,_,h=>nomatch h
|.dU::_,_,h=>nomatch h
|.fn _::_,_,h=>nomatch h
theorem kQ:∀(ns:a5 Int),mF (ns.map D.int)=some ns
|[]=>rfl
|n::r=>by show(mF (r.map D.int)).map (n :: ·)=_;rw[kQ r];rfl
theorem Rep.Ng{sa:ao}{A:ao->Prop}{H:Hp}{ds:a5 D}{ns:a5 Int}{x:V}(r:Rep G sa A H (.lst ds) x)(e:mF ds=some ns):∃a,x=.ref a/\H a=some (.lst (ns.map V.int)):=by obtain⟨a,xs,rfl,n,c,b⟩:=r.lst_inv;rw[zx e]at b;rw[bV.Nf ns b]at c;exact⟨a,rfl,c⟩
def WJ:FP:=λds Q=>match ds with
|[.lst xs]=>(match mF xs with
 |some ns=>Q (.int ns.sum)
 |none=>False)
|_=>False
theorem aa2:nF G (aca X.K) WJ:=by intro h l j O g S f H xs ds i Q st r b k;unfold WJ at b;split at b;split at b;rename_i e;obtain⟨v,rfl,c⟩:=r.one;obtain⟨a,rfl,d⟩:=c.Ng e;exact⟨a,_,rfl,.inl (.inl d),k _ _ _ (λ_ _ z=>z) (.int _) b⟩;exact b.elim;exact b.elim
def Jw:FP:=λds Q=>match ds with
|[.lst xs]=>(match mF xs with
 |some (n::ns)=>Q (.int (ns.foldl max n))
 |_=>False)
|_=>False
def Jv:FP:=λds Q=>match ds with
|[.lst xs]=>(match mF xs with
 |some (n::ns)=>Q (.int (ns.foldl min n))
 |_=>False)
|_=>False
theorem sV:∀(ns:a5 Int)(n:Int),ns.foldl max n∈n::ns/\∀y∈n::ns,y<=ns.foldl max n
|[],n=>by simp
|m::ns,n=>by have h:=sV ns (max n m);rw[bJ];refine⟨?_,λy a=>?_⟩;rcases aq.mp h.1 with e|e;rw[e];by_cases q:n<=m;rw[show max n m=m by lia];simp;rw[show max n m=n by lia];simp;exact ah _ (ah _ e);rcases aq.mp a with e|e;have:=h.2 (max n m) (aF ..);lia;rcases aq.mp e with e|e;have:=h.2 (max n m) (aF ..);lia;exact h.2 y (ah _ e)
theorem sU:∀(ns:a5 Int)(n:Int),ns.foldl min n∈n::ns/\∀y∈n::ns,ns.foldl min n<=y
|[],n=>by simp
|m::ns,n=>by have h:=sU ns (min n m);rw[bJ];refine⟨?_,λy a=>?_⟩;rcases aq.mp h.1 with e|e;rw[e];by_cases q:n<=m;rw[show min n m=n by lia];simp;rw[show min n m=m by lia];simp;exact ah _ (ah _ e);rcases aq.mp a with e|e;have:=h.2 (min n m) (aF ..);lia;rcases aq.mp e with e|e;have:=h.2 (min n m) (aF ..);lia;exact h.2 y (ah _ e)
theorem GH:nF G (ach X.K) Jw:=by
 intro h q p O l S j H xs ds o Q st r b k;unfold Jw at b;split at b;split at b;rename_i n ns e;obtain⟨v,rfl,c⟩:=r.one;obtain⟨a,rfl,i⟩:=c.Ng e;refine⟨a,_,rfl,.inl (.inl i),#v[0],λm f d=>?_⟩;have s:=sV ns n;have g:m=ns.foldl max n:=by have a1:=d _ s.1;have a2:=s.2 m f;lia
 rw[g];exact k _ _ _ (λ_ _ z=>z) (.int _) b;exact b.elim;exact b.elim
theorem NP:nF G (acg X.K) Jv:=by
 intro h q p O l S j H xs ds o Q st r b k;unfold Jv at b;split at b;split at b;rename_i n ns e;obtain⟨v,rfl,c⟩:=r.one;obtain⟨a,rfl,i⟩:=c.Ng e;refine⟨a,_,rfl,.inl (.inl i),#v[0],λm f d=>?_⟩;have s:=sU ns n;have g:m=ns.foldl min n:=by have a1:=d _ s.1;have a2:=s.2 m f;lia
 rw[g];exact k _ _ _ (λ_ _ z=>z) (.int _) b;exact b.elim;exact b.elim
end
section
variable{X:Cx}{G:Gb}{a b c e:bL}{ta tb tc te:jg}{pos:Pos}
def ada(te:jg):jg:=λa S Q=>te a S λd b=>match d with
|.int i=>Q (.int (-i)) b
|_=>False
theorem sr(m:QE X G a ta):QE X G (.UnaryOp .USub a pos) (ada ta):=by refine ir (acs Zk m) ?_;rintro q H Q ⟨h,p,o,O,f,S,r,st,l,k⟩;refine⟨h,p,o,O,f,S,_,st,l,?_⟩;rintro v s ⟨d,n,g,j,i,b⟩;obtain⟨c,e,b⟩:=i.lE b;exact⟨c,e,k _ _ ⟨_,n,g,j,.int _,b⟩⟩
def GF(f c:D->D->(D->Prop)->Prop)(ta tb tc:jg):jg:=λa S Q=>ta a S λx h=>tb a h λy b=>f x y λz=>match z with
|.bl k=>(k=true->tc a b λw g=>c y w λd=>Q d g)/\(k=false->Q (.bl false) b)
|_=>False
theorem Ir{op n:XG}{r C:R2}{B A:D->D->(D->Prop)->Prop}(ho:rN X (eE op) r)(Z:rN X (eE n) C)(l:Me G r B)(W:Me G C A)(ha:QE X G a ta)(hb:QE X G b tb)(hc:QE X G c tc)(hm:QG [op,n] [b,c]=false:=by with_unfolding_all rfl):QE X G (.Compare a [op,n] [b,c] pos) (GF B A ta tb tc):=by
 refine ir (RW ho Z ha hb hc hm) ?_;rintro σ H Q ⟨h,q,p,O,i,S,Q',st,Y,k⟩;refine⟨h,q,p,O,i,S,_,st,Y,?_⟩;rintro x H1 ⟨dx,S1,t,F,L,V⟩;refine⟨h,q,p,O,i,S1,_,t,V,?_⟩;rintro y H2 ⟨dy,J,m,o,z,U⟩;refine l m (t.rep o L) z U λv H3 d f P g=>?_;split at g;rename_i I;obtain rfl:=P.L7;refine⟨I,rfl,?_⟩;have j:=m.same f;cases I with
|true=>rw[if_pos rfl];refine⟨h,q,p,O,i,J,_,j,g.1 rfl,?_⟩;rintro w H4 ⟨dw,S4,s,E,M,T⟩;exact W s (j.rep E (m.rep (.of f) z)) M T λK H5 d' u N R=>k K H5 ⟨d',S4,s.same u,(((F.trans o).trans (.of f)).trans E).trans (.of u),N,R⟩
|false=>rw[if_neg bR];exact k _ _ ⟨_,J,j,(F.trans o).trans (.of f),.bl _,g.2 rfl⟩
 exact g.elim
abbrev ade:=GF rLe rLt
abbrev adf:=GF rLe rLe
theorem VV(h:QE X G a ta)(g:QE X G b tb)(f:QE X G c tc)(d:QG [.LtE,.Lt] [b,c]=false:=by with_unfolding_all rfl):QE X G (.Compare a [.LtE,.Lt] [b,c] pos) (ade ta tb tc):=Ir IE R5 m4 m4 h g f d
theorem MN(h:QE X G a ta)(g:QE X G b tb)(f:QE X G c tc)(d:QG [.LtE,.LtE] [b,c]=false:=by with_unfolding_all rfl):QE X G (.Compare a [.LtE,.LtE] [b,c] pos) (adf ta tb tc):=Ir IE IE m4 m4 h g f d
def GI(mg:Str->Option ak)(x:Str)(n:Int):Prop:=∃tk,mg x=some (.int n tk)
theorem fP{x:Str}{n:Int}(g:GI X.mg x n)(b:Gl X x:=by rfl)(hd:(x == ("__debug__" : Str))=false:=by decide):QE X G (.Name x pos) (dC (.int n)):=by obtain⟨tk,a⟩:=g;exact VW b a hd
end
mutual
def O6:D->Bool
|.lst _=>false
|.zl _=>false
|.yX _ _=>false
|.tup ds=>Di ds
|.kt ds=>Di ds
|_=>true
def Di:a5 D->Bool
|[]=>true
|d::ds=>O6 d&&Di ds
end
section
variable{G:Gb}{sa:ao}{A A':ao->Prop}{H:Hp}
mutual
theorem Rep.O6(k:∀a,A' a->A a\/∃xs,H a=some (.lst xs)):∀{d:D}{v:V},Rep G sa A H d v->DL.O6 d=true->Rep G sa A' H d v
|_,_,.jw,_=>.jw
|_,_,.bl b,_=>.bl b
|_,_,.int i,_=>.int i
|_,_,.tup n e r,q=>.tup (λz=>by rcases k _ z with z|⟨xs,z⟩;exact n z;rw[e]at z;cases z) e (bV.Di k r (by simpa [DL.O6] using q))
|_,_,.Gn e r,q=>.Gn e (bV.Di k r (by simpa [DL.O6] using q))
|_,_,.zl e r,q=>by simp[DL.O6]at q
|_,_,.lst n e r,q=>by simp[DL.O6]at q
|_,_,.yX n e l1 l2 f c,q=>by simp[DL.O6]at q
|_,_,.dU,_=>.dU
|_,_,.fn a,_=>.fn a
theorem bV.Di(k:∀a,A' a->A a\/∃xs,H a=some (.lst xs)):∀{ds:a5 D}{vs:a5 V},bV G sa A H ds vs->DL.Di ds=true->bV G sa A' H ds vs
|_,_,.nil,_=>.nil
|_,_,.cons (d:=d) (ds:=ds) r t,q=>by
  have q:DL.O6 d=true/\DL.Di ds=true:=by simpa [DL.Di] using q
  exact .cons (Rep.O6 k r q.1) (bV.Di k t q.2)
end
end
section
variable{X:Cx}{G:Gb}{e:bL}{te:jg}{tt:xp}{t:lJ}{es:a5 bL}
def adh(i:Nat)(te:jg):jg:=λa S Q=>S=[]/\match a[i]? with
|some (some (.ow ds))=>te (a.set i (some (.sh (.lst ds)))) S λd b=>b=[]/\O6 d=true/\Q d []
|_=>False
def Yn(i:Nat)(tt:xp):xp:=λa S Q=>S=[]/\match a[i]? with
|some (some (.ow ds))=>tt (a.set i (some (.sh (.lst ds)))) S λb c=>c=[]/\Q b []
|_=>False
theorem off{h:Sh}{f:ao->Prop}{d H H':Hp}{O:Nat->Option ao}{c:Env}{a:L2.St}(s:St G h f d O c [] a H)(le:Le h H H'):kc H H':=λb o e=>le b o e λz=>s.ok.Bc z.1 rfl
theorem QE.bor(i:Nat)(h:QE X G e te):QE X G e (adh i te):=by refine ir h ?_;rintro w H Q ⟨h,u,t,O,x,S,D,st,⟨rfl,c⟩,k⟩;split at c;rename_i ds l;obtain⟨a,xs,r,B,p,A⟩:=st.slot i _ l;refine⟨h,u,t,_,_,[],_,st.sR l,c,?_⟩;rintro v s ⟨d,C,y,g,m,rfl,o,n⟩;have f:=off st g;refine k v s ⟨d,[],st.same f,g,m.O6 (λb z=>?_) o,n⟩;rcases z with z|⟨j,z⟩;exact .inl (.inl z);by_cases q:j=i;rw[q,r]at z;rw[<- aH z];exact .inr ⟨xs,f _ _ p⟩;exact .inl (.inr ⟨j,by unfold without;rw[if_neg q];exact z⟩);exact c.elim
theorem QT.bor(i:Nat)(h:QT X G e tt):QT X G e (Yn i tt):=by intro pins s d H Q I g;obtain⟨h',n,m,O,o,S,r,st,⟨rfl,a⟩,k⟩:=g;split at a;rename_i ds j;refine h pins s d H Q I ⟨h',n,m,_,_,[],_,st.sR j,a,?_⟩;rintro b l ⟨q,p,c,rfl,f⟩;exact k b l ⟨[],st.same (off st c),c,f⟩;exact a.elim
end
structure Bl (mg:Str->Option ak):Prop where
 afa:mg "len" = none
 adB:mg "abs" = none
 Gg:mg "max" = none
 SE:mg "min" = none
 aeQ:mg "sum" = none
 Wz:mg "int" = none
 wY:mg "list" = none
 Zl:mg "tuple" = none
 r9:mg "range" = none
 UT:mg "zip" = none
 Fu:mg "sorted" = none
 D8:mg "reversed" = none
 Jm:mg "isinstance" = none
structure Cn (mg:Str->Option ak):Prop where
 Kb:GI mg "FARTHEST" 1000000000
 DF:GI mg "NO_SUCH_PLACE" (-1)
 Kc:GI mg "EMPTY_PLACE" (-2)
 qW:GI mg "WRONG_KIND" (-3)
 vU:GI mg "BAD_RADIUS" (-4)
 uj:GI mg "BAD_COUNT" (-5)
 nU:GI mg "OUT_OF_RANGE" (-6)
 JW:GI mg "NO_SKELETON" (-7)
 qY:GI mg "BAD_DISTANCE" (-8)
 CF:GI mg "NO_OTHER_SHAPE" (-9)
 Xh:GI mg "OUTSIDE" 0
 Ub:GI mg "ON_RIM" 1
 Uc:GI mg "INSIDE" 2
 PLACES:GI mg "PLACES" 64
 Ah:GI mg "GREATEST_RADIUS" 1000000000
 xq:GI mg "GREATEST_DISTANCE" 1000000000
 tF:GI mg "MOST_POINTS" 32
structure abc (P:bC) (w:cu) (K:au) (mg:Str->Option ak) (base:cY) (cS fI:ao) (fdI:gX):Prop where
 cl:Fb K cS
 nr:kR K cS "radius"
 np:kR K cS "points"
 mk_:Mk K cS fI
 ini:lS P w K mg base CQ 1 fI fdI ["self","radius","points"] (Ft cS)
 mg_:mg "Shape" = some (.ref cS)
 bd:Binds K fdI ["self","radius","points"] []
structure abb (K:au) (cT:ao):Prop where
 cl:Fb K cT
 np:kR K cT "places"
def top(i:Nat):jv:=PySem.Challenge.pw_shapesheet_s01_answers.main.body.getD i (.Pass ⟨0,0,0,0⟩)
section
variable{X:Cx}{G:Gb}
def Il(K:au):a5 V->Hp->VK->Prop:=λvs H Q=>∃(a:ao)(ns:a5 Int),vs=[V.ref a]/\lY K H a (ns.map V.int) ∧
 ∀(b:a5 Int)(p:ao),b.Perm ns->b.Pairwise (·<=·)->H p=none->Q (.ref p) (upd H p (.lst (b.map V.int)))
theorem JG:lK X (.builtin "sorted") (Il X.K):=by
 intro pins s n H vs us Q I r h;obtain⟨a,ns,rfl,f,q⟩:=h;obtain⟨bK,c,hl,hz⟩:=I.list f;rw[Vals.FA r];have hi:=c.ints;have g:=c.length;refine PyProof.Rows.sorted_intsAny hl.isList hi (by rw[<- g];exact hz) λout b l d k=>?_;obtain⟨m,j⟩:=yR s.heap bK out;have i:(b.map V.int).length<=aQ:=by rw[ai,d.length_eq];rw[ai]at hz;exact hz
 exact⟨.ref _,upd H (s.heap.objs.size+1) (.lst (b.map V.int)),I.laid (t':=s.toks) (λ_ _=>xI) (jy _) ⟨i,out.toList,m,wo l,j⟩,rfl,q b _ d k (I.gP.fresh (jy _))⟩
def t7:FP:=λds Q=>match ds with
|[.lst xs]=>(match mF xs with
 |some ns=>∀a:a5 Int,a.Perm ns->a.Pairwise (·<=·)->Q (.lst (a.map D.int))
 |none=>False)
|_=>False
theorem JK:nF G (Il X.K) t7:=by intro h q o O m S l H xs ds n Q st r b k;unfold t7 at b;split at b;split at b;rename_i ns e;obtain⟨v,rfl,d⟩:=r.one;obtain⟨a,rfl,j⟩:=d.Ng e;exact⟨a,ns,rfl,.inl (.inl j),λf p i g c=>k _ _ _ (fN c) (.lst (st.fresh c) bZ (bV.ints _)) (b f i g)⟩;exact b.elim;exact b.elim
def NK(c:jg):jg:=λb S Q=>c b S λd a=>match d with
|.int _=>Q (.bl false) a
|.lst _=>Q (.bl true) a
|_=>False
def VQ(K:au):a5 V->Hp->VK->Prop:=λvs H Q=>∃x,vs=[x,.ty "list"]/\((∃i,x=.int i/\Q (.bl false) H)\/∃a xs,x=.ref a/\lY K H a xs/\Q (.bl true) H)
theorem PX:lK X (.builtin "isinstance") (VQ X.K):=by intro pins s j H vs us Q I r h;obtain⟨x,rfl,h⟩:=h;obtain⟨u,k,rfl,b,c⟩:=vals2 r;cases c;rcases h with⟨i,rfl,q⟩|⟨a,xs,rfl,d,q⟩;obtain⟨t,rfl⟩:=b;exact IsiPair.int_list ⟨.bl false,H,I.tok _,rfl,q⟩;cases b;obtain⟨bK,l,⟨o,n,f,g,_,_⟩,_⟩:=I.list d;exact PySem.IsiPair.list_list f g ⟨.bl true,H,I,rfl,q⟩
theorem OJ{e:bL}{f:jg}{p b pos:Pos}(x:Gl X "isinstance")(u:X.mg "isinstance" = none)(w:Gl X "list")(t:X.mg "list" = none)(y:QE X G e f)(l:aG [e,.Name "list" b] X.env=(false,cg e X.env)::aG [.Name "list" b] X.env:=by rfl)(r:aG [.Name "list" b] X.env=(false,cg (.Name "list" b) X.env)::aG [] X.env:=by rfl)(s:(ef pos (aG [.Name "list" b] X.env)).any (·.1)=false:=by rfl):
  QE X G (.Call (.Name "isinstance" p) [e,.Name "list" b] [] pos) (NK f):=by have z:PE X (.Name "list" b) (tC (.ty "list")):=V9 w t #v[2] rfl;refine ir (Iz PX x u #v[2] (AJ y (AJ z K3 r) l) #v[1] #v[1] l s) ?_;rintro D H Q ⟨h,C,B,O,o,S,F,st,q,k⟩;refine⟨h,C,B,O,o,S,_,st,q,?_⟩;rintro v I ⟨d,m,g,j,i,c⟩;split at c;obtain rfl:=i.int_inv;exact⟨_,rfl,.inl ⟨_,rfl,k _ _ ⟨_,m,g,j,.bl _,c⟩⟩⟩;obtain⟨a,xs,rfl,n,A,E⟩:=i.lst_inv;exact⟨_,rfl,.inr ⟨a,xs,rfl,.inl (.inl A),k _ _ ⟨_,m,g,j,.bl _,c⟩⟩⟩;exact c.elim
def Im(K:au):V->a5 V->Hp->VK->Prop:=λx vs H Q=>∃l b xs a,x=.ref l/\vs=[.ref b]/\H l=some (.lst xs)/\zy K H b a/\xs.length+a.length<=aQ/\Q .jw (upd H l (.lst (xs++a)))
theorem Lm:MtM X "list.extend" (Im X.K):=by
 intro pins s y H x vs v us Q I j k h;obtain⟨l,b,xs,A,rfl,rfl,i,w,hz,q⟩:=h;cases j;obtain⟨u,rfl,m⟩:=k.one;cases m;obtain⟨z,bK,n,r,hl,e⟩:=I.Je i;obtain⟨c,d,⟨o2,g,t,n2,p⟩,B⟩:=I.tuple w;have C:=d.length;have hsz:bK.toArray.size+c.toArray.size<=aQ:=by rw[aX,aX];lia
 have o:¬(!bK.toArray.isEmpty&&Builtin.List.listTooLong (bK.toArray.size+c.toArray.size))=true:=by rw[IM hsz,pC];exact bR
 refine lp F.slot_list_extend ⟨_,e,rfl⟩ F.entry_list_extend ?_ (F.args_list_extend_2 _ _);unfold Builtin.«list.extend»;refine aj (Xx (a:=(Value.ref l,Value.ref b)) rfl ?_);dsimp only;unfold Builtin.List.listExtendWith;refine aj (Ux ⟨o2,g,t⟩ ?_);rw[if_pos #v[0]];refine aj (DU g p (aj (DU e rfl ?_)));dsimp only;rw[if_neg o];refine aj (tO (f:=(· ++ c.toArray)) e rfl ?_ (by rw[aX];lia) (by rw[Array.size_append];lia));refine aM ⟨_,rfl,?_⟩;refine⟨.jw,_,I.SH (its':=bK++c) i e #v[0] (r.append d) ?_,rfl,q⟩;rw[aP];lia
def Jx:a5 D->a5 D->(a5 D->Prop)->Prop:=λds b Q=>o1 b λd=>oT d λa=>ds.length+a.length<=aQ/\Q (ds++a)
theorem Ge:JX G (Im G.K) Jx:=by intro sa A H a xs vs ds l m Q e f i c k;obtain⟨_,_,rfl,h,c⟩:=Eg c i;obtain⟨_,b,g,rfl,j,d,c⟩:=R9 c h;exact⟨a,b,xs,g,rfl,rfl,e,j,by rw[<- f.length,<- d.length];exact c.1,k _ _ _ (f.append d) c.2⟩
end
def d6(a b:Int×Int):Prop:=a.1<b.1\/(a.1=b.1/\a.2<=b.2)
theorem RP{α β:Type}{l f:a5 α}(p:l.Perm f):∀m:a5 β,m.length=l.length->∃d:a5 β,d.length=f.length/\(f.zip d).Perm (l.zip m):=by
 induction p with
|nil=>intro m c;exact⟨[],rfl,#v[0]⟩
|cons x p k=>
  intro m c;cases m with
 |nil=>simp at c
 |cons y m=>obtain⟨d,h,g⟩:=k m #v[c];exact⟨y::d,by simp[h],by simpa using List.Perm.cons (x,y) g⟩
|swap x y l=>
  intro m c
  match m,c with
 |a::b::m,c=>exact⟨b::a::m,by simpa using c,by simpa using List.Perm.swap (y,a) (x,b) (l.zip m)⟩
|trans p q j i=>intro m c;obtain⟨m1,h,g⟩:=j m c;obtain⟨m2,o,n⟩:=i m1 h;exact⟨m2,o,n.trans g⟩
section
variable{X:Cx}{G:Gb}
def Xf(K:au)(H:Hp)(a:ao)(xs:a5 V):Prop:=H a=some (.tup xs)
theorem Xf.sq{K:au}{H:Hp}{a:ao}{xs:a5 V}(h:Xf K H a xs):zy K H a xs:=.inl (.inl h)
theorem Rep.abW{sa:ao}{A:ao->Prop}{H:Hp}{ds:a5 D}{x:V}(r:Rep G sa A H (.tup ds) x):∃a xs,x=.ref a/\Xf G.K H a xs/\bV G sa A H ds xs:=by
 cases r with
|tup n e q=>exact⟨_,_,rfl,e,q⟩
abbrev gu(K:au)(H:Hp)(x:V)(p:Int×Int):Prop:=∃q,x=.ref q/\Xf K H q [.int p.1,.int p.2]
def Ik(K:au):a5 V->Hp->VK->Prop:=λvs H Q=>∃(a:ao)(xs:a5 V)(ps:a5 (Int×Int)),vs=[V.ref a]/\lY K H a xs/\Paired (gu K H) xs ps ∧
 ∀(m:a5 (V×(Int×Int)))(p:ao),m.Perm (xs.zip ps)->(m.map (·.2)).Pairwise d6->H p=none->Q (.ref p) (upd H p (.lst (m.map (·.1))))
theorem iN{α β:Type}{R:α->β->Prop}:∀{l:a5 α}{m:a5 β},Paired R l m->l.length=m.length
|_,_,.nil=>rfl
|_,_,.cons _ t=>by simp[iN t]
theorem SK{a b:Int×Int}(h:PyProof.Rows.lexLt itemOrd [.inl b.1,.inl b.2] [.inl a.1,.inl a.2]=false):d6 a b:=by rw[AW]at h;obtain⟨d,c⟩:=h;have d:decide (b.1<a.1)=false:=d;have d:=of_decide_eq_false d;unfold d6;rcases c with c|c;have c:decide (a.1<b.1)=true:=c;exact .inl (of_decide_eq_true c);rw[AW]at c;have f:decide (b.2<a.2)=false:=c.1;have f:=of_decide_eq_false f;lia
theorem Ot{a b:Int}{t u:Tok}:tupItems (λ_=>false) 0 [.int a t,.int b u]=some [.inl a,.inl b]:=rfl
theorem p9{pins:a5 (ao×Obj)}{d:L2.St}{H:Hp}{s:aB}{x:V}{u:ak}{p:Int×Int}(I:Inv X pins d H s)(r:RelV x u)(h:gu X.K H x p):
  PyProof.Rows.G.tupKeyC s.heap (λ_=>false) u=some [.inl p.1,.inl p.2]/\∃f,TupOf s.heap (λ_=>false) u f:=by
 obtain⟨q,rfl,j⟩:=h;obtain rfl:u=Value.ref q:=r;obtain⟨bK,a,⟨o,b,c,n,hd⟩,hz⟩:=I.tuple j.sq;cases a with
|cons i a=>
  cases a with
 |cons g a=>cases a;obtain⟨t,rfl⟩:=i;obtain⟨t',rfl⟩:=g;refine⟨?_,.int p.1 t,q,o,_,n,rfl,b,c,hd,rfl,λ_=>⟨_,_,rfl⟩,λz=>nomatch z⟩;unfold PyProof.Rows.G.tupKeyC;rw[if_pos (by simp[PyProof.Rows.G.isTupObj,b,c])];unfold tupKey;dsimp only;rw[b];dsimp only;rw[hd];exact Ot
theorem Fp{h:cY}:∀{us:a5 ak},(∀u∈us,∃f,TupOf h (λ_=>false) u f)->∃fs,TupsOf h (λ_=>false) us fs
|[],_=>⟨[],.nil⟩
|u::us,k=>by obtain⟨f,b⟩:=k u (aF ..);obtain⟨fs,a⟩:=Fp (us:=us) λz hz=>k z (ah _ hz);exact⟨f::fs,.cons b a⟩
theorem HW{α:Type}{κ:KeyKind}{d h:Array Keyed}{us:a5 ak}{m:a5 α}{key:α->κ.α}{R:ak->α->Prop}(s:d.Perm h)(F:h.toList.map (·.2)=us)(D:m.length=us.length)(H:∀(i:Nat) c a,h.toList[i]? = some c->m[i]? = some a->κ.keyOf c.1=some (key a)/\R c.2 a)(B:SortedToK κ d h.size):
  ∃f:a5 α,f.Perm m/\Paired R (d.toList.map (·.2)) f/\f.Pairwise (λa b=>κ.blt (key b) (key a)=false):=by
 have hp':h.toList.Perm d.toList:=(Array.perm_iff_toList_perm.mp s).symm;have E:m.length=h.toList.length:=by rw[D,<- F,ai]
 obtain⟨f,p,t⟩:=RP hp' m E;have C:∀z∈d.toList.zip f,κ.keyOf z.1.1=some (key z.2)/\R z.1.2 z.2:=λz hz=>by
  have A:=t.mem_iff.mp hz;obtain⟨i,hi,e⟩:=iT.mp A;have g:(h.toList.zip m)[i]? = some z:=by rw[aw hi,e]
  rw[bG]at g;exact H i z.1 z.2 g.1 g.2
 have r:∀(i:Nat) c a,d.toList[i]? = some c->f[i]? = some a->κ.keyOf c.1=some (key a)/\R c.2 a:=λi c a k g=>C (c,a) (bp (i:=i) (by rw[bG];exact⟨k,g⟩))
 refine⟨f,?_,?_,?_⟩;have q:=t.map Yv;rw[kD #v[],kD #v[]]at q;exact q;have u:∀(l:a5 Keyed)(n:a5 α),l.length=n.length->(∀(i:Nat) c a,l[i]? = some c->n[i]? = some a->R c.2 a)->Paired R (l.map (·.2)) n:=by
  intro l
  induction l with
 |nil=>
   intro n o _;cases n with
  |nil=>exact .nil
  |cons _ _=>simp at o
 |cons x l y=>
   intro n o hk;cases n with
  |nil=>simp at o
  |cons a n=>exact .cons (hk 0 x a rfl rfl) (y n #v[o] λi c b k g=>hk (i+1) c b #v[k] #v[g])
 exact u d.toList f p.symm λi c a k g=>(r i c a k g).2;rw[G7];intro i j hi hj G;have hsz:h.size=f.length:=by rw[p];exact s.size_eq.symm.trans #v[0]
 have hi':i<d.toList.length:=by rw[<- p];exact hi
 have hj':j<d.toList.length:=by rw[<- p];exact hj
 have q:=B i j (mI G) (by rw[hsz];exact hj);have w:=(r i d.toList[i] f[i] (aw hi') (aw hi)).1;have v:=(r j d.toList[j] f[j] (aw hj') (aw hj)).1;have k:KK κ d i=key f[i]:=by unfold KK;rw[<- eG,aw hi'];show(κ.keyOf d.toList[i].1).getD κ.dflt=_;rw[w];rfl
 have g:KK κ d j=key f[j]:=by unfold KK;rw[<- eG,aw hj'];show(κ.keyOf d.toList[j].1).getD κ.dflt=_;rw[v];rfl
 rw[k,g]at q;exact q
theorem pairs_at{K:au}{H:Hp}:∀{xs:a5 V}{ps:a5 (Int×Int)}{i:Nat}{x:V},Paired (gu K H) xs ps->xs[i]? = some x->∃p,ps[i]? = some p/\gu K H x p
|_,_,_,_,.nil,e=>by simp at e
|_,_,0,_,.cons r _,e=>by simp at e;subst e;exact⟨_,rfl,r⟩
|_,_,i+1,x,.cons _ t,e=>by obtain⟨p,b,a⟩:=pairs_at (i:=i) t #v[e];exact⟨p,by simpa using b,a⟩
theorem Vals.vM:∀{xs:a5 V}{us:a5 ak}{i:Nat}{u:ak},Vals xs us->us[i]? = some u->∃x,xs[i]? = some x/\RelV x u
|_,_,_,_,.nil,e=>by simp at e
|_,_,0,_,.cons r _,e=>by simp at e;subst e;exact⟨_,rfl,r⟩
|_,_,i+1,u,.cons _ t,e=>by obtain⟨p,b,a⟩:=Vals.vM (i:=i) t #v[e];exact⟨p,by simpa using b,a⟩
theorem oe{R:ak->V×(Int×Int)->Prop}(k:∀u a,R u a->RelV a.1 u):∀{us:a5 ak}{m:a5 (V×(Int×Int))},Paired R us m->Vals (m.map (·.1)) us
|_,_,.nil=>.nil
|_,_,.cons r t=>.cons (k _ _ r) (oe k t)
theorem JF:lK X (.builtin "sorted") (Ik X.K):=by
 intro pins s O H vs us Q I r h;obtain⟨a,xs,ps,rfl,D,o,q⟩:=h;obtain⟨bK,n,hl,hz⟩:=I.list D;rw[Vals.FA r];have E:=n.length;have S:=iN o;have y:∀u∈bK,∃x p,RelV x u/\gu X.K H x p:=λu f=>by obtain⟨i,hi,e⟩:=iT.mp f;obtain⟨x,d,c⟩:=Vals.vM n (i:=i) (by rw[aw hi,e]);obtain⟨p,L,j⟩:=pairs_at o d;exact⟨x,p,c,j⟩
 obtain⟨fs,G⟩:=Fp (h:=s.heap) (us:=bK) λu f=>by obtain⟨x,p,d,c⟩:=y u f;exact(p9 I d c).2
 refine PyProof.Rows.G.sorted_tups hl.isList G (λu f=>?_) (by rw[<- E];exact hz) λt d c L=>?_;obtain⟨x,p,d,c⟩:=y u f;exact⟨_,(p9 I d c).1⟩;have B:(pairsOf bK).toList.map (·.2)=bK:=by rw[pairsOf_toList,kD (aS _)]
 obtain⟨g,m1,m2,A⟩:=HW (κ:=PyProof.Rows.G.tupKindC s.heap λ_=>false) (m:=xs.zip ps) (key:=λ(z:V×(Int×Int))=>[.inl z.2.1,.inl z.2.2]) (R:=λu(z:V×(Int×Int))=>RelV z.1 u) d B (by rw[dE];lia) (λi P z l k=>by rw[pairsOf_toList,bG]at l;rw[bG]at k;obtain⟨x,j,w⟩:=Vals.vM n l.1;rw[k.1]at j;obtain rfl:=aH j;obtain⟨p,v,K⟩:=pairs_at o k.1;rw[k.2]at v;obtain rfl:=aH v;refine⟨(p9 I w K).1,?_⟩;have N:=l.1.symm.trans l.2;rw[<- aH N];exact w) c
 obtain⟨M,J⟩:=yR s.heap bK ((A3 t).map (·.2));have C:Vals (g.map (·.1)) ((A3 t).map (·.2)).toList:=by rw[Uw];exact oe (λu a h=>h) m2
 have F:(g.map (·.1)).length<=aQ:=by rw[ai,m1.length_eq,dE];lia
 refine⟨.ref _,upd H (s.heap.objs.size+1) (.lst (g.map (·.1))),I.laid (t':=s.toks) (λ_ _=>xI) (jy _) ⟨F,_,M,C,J⟩,rfl,q g _ m1 ?_ (I.gP.fresh (jy _))⟩;rw[lZ];exact A.imp λ{a b} h=>SK h
def pairD(p:Int×Int):D:=.tup [.int p.1,.int p.2]
def jJ:a5 D->Option (a5 (Int×Int))
|[]=>some []
|d::r=>match d with
 |.tup l=>(match xS l with
  |some p=>(jJ r).map (p :: ·)
  |none=>none)
 |_=>none
theorem k5:∀(ps:a5 (Int×Int)),jJ (ps.map pairD)=some ps
|[]=>rfl
|p::r=>by show(jJ (r.map pairD)).map (p :: ·)=_;rw[k5 r];rfl
theorem lI:∀{ds:a5 D}{ps:a5 (Int×Int)},jJ ds=some ps->ds=ps.map pairD:=by
 intro ds
 induction ds with
|nil=>intro ps h;cases h;rfl
|cons d ds a=>
  intro ps h;cases d<;>first|cases h|skip
  rename_i l;have h:(match xS l with
  |some p=>(jJ ds).map (p :: ·)
  |none=>none)=some ps:=h
  cases e:xS l with
 |none=>rw[e]at h;cases h
 |some p=>rw[e]at h;obtain⟨ms,q,rfl⟩:=jr.mp h;rw[a q,Az e];rfl
theorem bV.pairs{sa:ao}{A:ao->Prop}{H:Hp}:∀{ps:a5 (Int×Int)}{xs:a5 V},bV G sa A H (ps.map pairD) xs->Paired (gu G.K H) xs ps
|[],xs,r=>by cases r;exact .nil
|p::ps,xs,r=>by
  cases r with
 |cons r t=>obtain⟨a,f,rfl,e,b⟩:=Rep.abW (show Rep G sa A H (.tup [.int p.1,.int p.2]) _ from r);obtain⟨v,u,rfl,d,c⟩:=b.two;obtain rfl:=d.int_inv;obtain rfl:=c.int_inv;exact .cons ⟨a,rfl,e⟩ (bV.pairs t)
theorem bV.QN{sa:ao}{A:ao->Prop}{H:Hp}{ps:a5 (Int×Int)}{xs:a5 V}(r:bV G sa A H (ps.map pairD) xs){m:a5 (V×(Int×Int))}(b:∀z∈m,z∈xs.zip ps):bV G sa A H (m.map λz=>pairD z.2) (m.map (·.1)):=by
 induction m with
|nil=>exact .nil
|cons z m f=>
  refine .cons ?_ (f λy g=>b y (ah _ g));have h:=b z (aF ..);obtain⟨i,hi,e⟩:=iT.mp h;have a:(xs.zip ps)[i]? = some z:=by rw[aw hi,e]
  rw[bG]at a;obtain⟨v,c,j⟩:=r.get (i:=i) (d:=pairD z.2) (by rw[bq,a.2];rfl);rw[a.1]at c;obtain rfl:=aH c;exact j
def t6:FP:=λds Q=>match ds with
|[.lst xs]=>(match jJ xs with
 |some ps=>∀a:a5 (Int×Int),a.Perm ps->a.Pairwise d6->Q (.lst (a.map pairD))
 |none=>False)
|_=>False
theorem JJ(j:X.K=G.K):nF G (Ik X.K) t6:=by intro h x w O t S s H xs ds u Q st r b k;unfold t6 at b;split at b;split at b;rename_i ps e;obtain⟨v,rfl,i⟩:=r.one;obtain⟨a,g,rfl,n,o,c⟩:=i.lst_inv;rw[lI e]at c;rw[j];refine⟨a,g,ps,rfl,.inl (.inl o),c.pairs,λm p f l d=>k _ _ _ (fN d) (.lst (st.fresh d) bZ ?_) (b (m.map (·.2)) ?_ l)⟩;rw[bz];exact st.vq (.new d) (c.QN λz hz=>f.mem_iff.mp hz);have q:=f.map Yv;rw[kD (by have:=c.length;simp at this;lia)]at q;exact q;exact b.elim;exact b.elim
end
section
variable{X:Cx}{G:Gb}{pins:a5 (ao×Obj)}{σ:L2.St}{H:Hp}{s:aB}
theorem VL{b:bT}{k:Nat}{f:ao}{d:gX}{ps:a5 Str}{sp:Sp}{Q:VK}{us:a5 ak}{vs:a5 V}(F:lS X.prog X.w X.K X.mg X.base CQ k f d ps sp)(g:gC k b)(j:Binds X.K d ps [])(i:Al X.prog X.w X.K X.mg X.base b X.stack s H)(I:Inv X pins σ H s)(r:Vals vs us)(h:sp vs H Q E0):a7 (bb X.prog X.w) b (call (.ref f) us) (EP X pins σ Q) (λ_ _=>False) s:=by
 have hl:(us++[]).length=ps.length:=by rw[cG,<- r.length];exact F.len _ _ _ _ h
 have c:=j s us I.Hf hl;rw[cG]at c;refine wpAny_call (vX (F.run b X.stack s H ⟨us,[]⟩ us vs Q E0 g i c r h) λr m a=>?_);cases r with
|error e=>exact False.elim a
|ok l=>
  cases l with
 |ret u=>exact I.after a
 |next=>exact False.elim a
 |brk=>exact False.elim a
 |cont=>exact False.elim a
def uD(X:Cx)(pins:a5 (ao×Obj))(b:ao):Prop:=b≠X.env.locals/\b∉X.fs/\(b∈X.ex\/X.C3.heap.objs.size<=b)/\(∀x c,X.env.cells.lookup x=some c->c≠b)/\∀p∈X.pn++pins,p.1≠b
theorem qj{b:ao}(I:Inv X pins σ H s)(h:s.heap.objs.size<=b):uD X pins b:=(I.LF h (H':=H) (I.gP.fresh h)).2
theorem qk{b c:ao}{d a:Obj}(I:Inv X pins σ H s)(f:uD X pins b)(sc:uD X pins c)(i:H b=none)(h:H c=none)(k:s.heap.get? b=some d)(j:s.heap.get? c=some a)(m:∀v,d.data≠.cell v)(l:∀v,a.data≠.cell v):
  Inv X (pins++[(b,d),(c,a)]) σ H s:=I.FN λp g=>by rcases aI.mp g with z|z;exact I.pin p (bI _ z);rcases aq.mp z with z|z;rw[z];exact⟨k,i,f.1,f.2.1,m⟩;rw[bA.mp z];exact⟨j,h,sc.1,sc.2.1,l⟩
theorem jV{b c:ao}{d a:Obj}(I:Inv X (pins++[(b,d),(c,a)]) σ H s):(s.heap.get? b=some d/\H b=none)/\s.heap.get? c=some a/\H c=none:=by have g:=I.pin (b,d) (bI _ (bI _ (.head _)));have f:=I.pin (c,a) (bI _ (bI _ (.tail _ (.head _))));exact⟨⟨g.1,g.2.1⟩,f.1,f.2.1⟩
theorem ph{b:ao}{h':cY}{t':Nat}(I:Inv X pins σ H s)(a:uD X pins b)(d:H b=none)(k:∀c o,c≠b->s.heap.get? c=some o->h'.get? c=some o):Inv X pins σ H { s with heap:=h',toks:=t' }:=
 I.turned k d a.1 a.2.2.1 a.2.2.2.1 a.2.2.2.2
theorem yw{b:ao}{o:HO}{h':cY}{t':Nat}(I:Inv X pins σ H s)(g:uD X pins b)(p:H b=none)(k:∀c u,c≠b->s.heap.get? c=some u->h'.get? c=some u)(new:ie X.prog X.w (upd H b o) h' b o):
  Inv X pins σ (upd H b o) { s with heap:=h',toks:=t' }:=by
 have f:∀c u,H c=some u->c≠b:=λc u e z=>by rw[z,p]at e;cases e
 have i:∀{c:ao},c∉[b]->c≠b:=λh z=>h (by simp[z]);refine I.step (g':=s.gens) (d':=s.drawn) (ch:=[b]) (λc a=>?_) (λc u _ _ a e _=>k c u (i a) e) (λc u _ _ a e _=>⟨u.slots,k c u (i a) e⟩) (λc u a e n=>by rw[bP (i a)];exact n)
  (λc u a e=>⟨u,k c u (i a) e⟩) (λc xs e=>by rw[bP (f c _ e)];exact e) (λc u v e=>by rw[bP (f c _ e)];exact e) (λc ps e=>⟨#[],by rw[bP (f c _ e),e];simp⟩) (λm l=>?_) (λc u e=>?_) I.bare
 have e:c=b:=by simpa using a
 subst e;exact⟨g.2.2.1,g.1,g.2.2.2.1,g.2.2.2.2⟩;obtain⟨u,t,x,j,r⟩:=l;exact⟨u,t,x,k _ u (Ne.symm g.1) j,r⟩;by_cases z:c=b;subst z;rw[bZ]at e;cases e;exact new;rw[bP z]at e;refine(I.gP c u e).HV (λd v a q=>k d v ?_ q) (λd q=>by rw[bP (f d _ q)];exact q) λd xs q=>by rw[bP (f d _ q)];exact q
 rcases a with w|w;rw[w];exact z;exact f d _ w
theorem jR{T:String}{xs:Array ak}{n:Nat}:∀v,(c9 T xs n).data≠.cell v:=λv z=>nomatch z
theorem gu.same{K:au}{H H':Hp}{x:V}{p:Int×Int}(a:kc H H')(h:gu K H x p):gu K H' x p:=by obtain⟨q,rfl,b⟩:=h;exact⟨q,rfl,a _ _ b⟩
theorem vA{K:au}{H H':Hp}(a:kc H H'):∀{xs:a5 V}{ps:a5 (Int×Int)},Paired (gu K H) xs ps->Paired (gu K H') xs ps
|_,_,.nil=>.nil
|_,_,.cons r t=>.cons (r.same a) (vA a t)
theorem Bv{α β:Type}{R:α->β->Prop}:∀{l:a5 α}{m:a5 β}{a:α}{b:β},Paired R l m->R a b->Paired R (l++[a]) (m++[b])
|_,_,_,_,.nil,r=>.cons r .nil
|_,_,_,_,.cons r t,q=>.cons r (Bv t q)
theorem me{H f d:Hp}(a:kc H f)(b:kc f d):kc H d:=λc o h=>b c o (a c o h)
theorem Wv{N:bT}{E:ak->aB->Prop}{P:lx->aB->Prop}{a kS:ao}{e k:Nat}{bK:a5 ak}{d:Array ak}{xs U:a5 V}{ps:a5 (Int×Int)}{kf:Int×Int->Int×Int}(I:Inv X (pins++[(kS,c9 "list" d e),(a,c9 "list" #[] k)]) σ H s)(aa:kS≠a)(sa:uD X pins a)(sk:uD X pins kS)(S:Vals xs bK)(v:Paired (gu X.K H) xs ps)(T:Vals U d.toList)(hk:Paired (gu X.K H) U (ps.map kf))(hz:bK.length<=aQ)(q:∀(m:a5 (V×(Int×Int))) l ,m.Perm (xs.zip ps)->(m.map λz=>kf z.2).Pairwise d6->Inv X pins σ (upd H a (.lst (m.map (·.1)))) l->P (.done (.ret .none)) l):
  a7 (bb X.prog X.w) N (ksk_end a false bK.toArray k (.ref kS) d) P E s:=by
 obtain⟨⟨nk,au⟩,na,ay⟩:=jV I;have y:Inv X pins σ H s:=I.kG;have al:=hz;rw[ee]at al;have l1:=S.length;have l2:=iN v;have l3:=T.length;have l4:=iN hk;rw[ai]at l4;have hsz:d.size=bK.length:=by rw[<- cv];lia
 have G:(d.zip bK.toArray).size=bK.length:=by rw[Array.size_zip,hsz,aX,Nat.min_self]
 have F:∀(i:Nat) u,d.toList[i]? = some u->∃x p,RelV x u/\gu X.K H x (kf p)/\ps[i]? = some p:=λi u J=>by
  obtain⟨x,n,g⟩:=Vals.vM T J;obtain⟨p,f,w⟩:=pairs_at hk n;rw[bq]at f;cases z:ps[i]? with
 |none=>rw[z]at f;cases f
 |some B=>rw[z]at f;have f:kf B=p:=aH f;exact⟨x,B,g,by rw[f];exact w,rfl⟩
 have tail:∀st:SortSt,(A3 st).Perm (d.zip bK.toArray)->SortedToK (PyProof.Rows.G.tupKindC s.heap λ_=>false) (A3 st) (d.zip bK.toArray).size->failedOf st=none →
   a7 (bb X.prog X.w) N (ksk_tail a false k (.ref kS) st) P E s:=by
  intro st W ap av;have ah:(d.zip bK.toArray).toList.map (·.2)=bK:=by rw[Aw,kD (by simp;lia)]
  obtain⟨D,m1,m2,m3⟩:=HW (κ:=PyProof.Rows.G.tupKindC s.heap λ_=>false) (m:=xs.zip ps) (key:=λ(z:V×(Int×Int))=>[.inl (kf z.2).1,.inl (kf z.2).2]) (R:=λu(z:V×(Int×Int))=>RelV z.1 u) W ah (by rw[dE];lia) (λi kv z k t=>by rw[Aw,bG]at k;rw[bG]at t;obtain⟨x,p,n,g,f⟩:=F i _ k.1;rw[t.2]at f;obtain rfl:=aH f;refine⟨(p9 y n g).1,?_⟩;obtain⟨x',w,h5⟩:=Vals.vM S (i:=i) (u:=kv.2) #v[k.2];rw[t.1]at w;obtain rfl:=aH w;exact h5) ap
  have an:(A3 st).size=bK.length:=by rw[W.size_eq,G]
  have O:=Heap.SameBut.update s.heap kS (Obj.mapSeq λ_=>(#[]:Array ak));have C:(s.heap.update kS (Obj.mapSeq λ_=>(#[]:Array ak))).get? a=some (c9 "list" #[] k):=(O.2 a aa.symm).trans na;have s2:=Heap.SameBut.update (s.heap.update kS (Obj.mapSeq λ_=>(#[]:Array ak))) a (Obj.mapSeq λ_=>(A3 st).map (·.2));obtain⟨L,hc2⟩:∃L,((s.heap.update kS (Obj.mapSeq λ_=>(#[]:Array ak))).update a (Obj.mapSeq λ_=>(A3 st).map (·.2))).get? a=some (c9 "list" ((A3 st).map (·.2)) L):=
   ⟨_,pO C λ_=>(A3 st).map (·.2)⟩
  unfold ksk_tail
  try dsimp only
  refine aj (tO nk rfl ?_ (by rw[hsz,ee];lia) (d4 _));refine aj (mN ?_);refine aj (seqEpoch_at C rfl ?_);refine aj (tO C rfl ?_ (d4 _) (bu (jD #v[an]) (by rw[ee];lia)));rw[av];simp only[bne_self_eq_false,gd,if_false];refine aM (q D _ m1 ?_ ?_);rw[lZ];exact m3.imp λ{a b} h=>SK h;have J1:Inv X pins σ H { s with heap:=s.heap.update kS (Obj.mapSeq λ_=>(#[]:Array ak)) }:=ph (t':=s.toks) y sk au λc o K e=>(O.2 c K).trans e;have hv:Vals (D.map (·.1)) ((A3 st).map (·.2)).toList:=by rw[Uw];exact oe (λu a h=>h) m2
  have as:(D.map (·.1)).length<=aQ:=by rw[ai,m1.length_eq,dE];lia
  exact yw (s:={ s with heap:=s.heap.update kS (Obj.mapSeq λ_=>(#[]:Array ak)) }) (t':=s.toks) J1 sa ay (λc u K e=>(s2.2 c K).trans e) ⟨as,_,L,hv,hc2⟩
 unfold ksk_end
 try dsimp only
 rw[if_neg bR];by_cases g:bK.toArray.size<2;rw[if_pos g,if_pos g];refine aj (aM ?_);rw[StateT.run_pure];refine aj (aM ?_)
 try dsimp only
 refine tail (SortSt.mk' general' (d.zip bK.toArray) #[] 7 none) (Array.Perm.refl _) ?_ rfl;intro i j aE hj;rw[G]at hj;rw[aX]at g;have:i=j:=#v[]
 subst this;exact KeyOrd.kle_refl _;rw[if_neg g,if_neg g];rw[aX]at g;obtain⟨fs,Z⟩:=Fp (h:=s.heap) (us:=d.toList) λu J=>by obtain⟨i,hi,e⟩:=iT.mp J;obtain⟨x,p,n,g,_⟩:=F i u (by rw[aw hi,e]);exact(p9 y n g).2
 have Y:=tup_kind (M:=bb X.prog X.w) (A:=N) (E:=E) (s:=s) (vs:=d.toList) (fs:=fs) (Q:=λkd l=>kd=tuples' true/\l=s) (by rw[PyProof.Rows.G.TupsOf.length Z,cv];lia) Z ⟨rfl,rfl⟩;rw[Array.toArray_toList]at Y;refine aj (d9 Y ?_ λ_ _ e=>e);rintro kd l ⟨rfl,rfl⟩;refine aj (d9 (PyProof.Rows.G.wpS_sortRunsSt (κ:=PyProof.Rows.G.tupKindC l.heap λ_=>false) (kd:=tuples' true) (a₀:=d.zip bK.toArray) (st:=SortSt.mk' (tuples' true) (d.zip bK.toArray) #[] 7 none)
  (Q:=λ_ r=>(A3 r).Perm (d.zip bK.toArray)/\failedOf r=none/\SortedToK (PyProof.Rows.G.tupKindC l.heap λ_=>false) (A3 r) (d.zip bK.toArray).size)
  (PyProof.Rows.G.tupC_ltAt true (PyProof.Rows.G.KeepsTups.refl _)) (λp v=>?_) ⟨Array.Perm.refl _,rfl,rfl⟩ rfl (Stable.refl _) (by rw[G];lia) λr a1 a2 a3 a4=>⟨a1,a2,a3⟩) ?_ λ_ _ e=>e)
 rw[Aw]at v;obtain⟨i,hi,e⟩:=iT.mp v;have t:(d.toList.zip bK.toArray.toList)[i]? = some p:=by rw[aw hi,e]
 rw[bG]at t;obtain⟨x,B,n,f,_⟩:=F i _ t.1;exact⟨_,(p9 y n f).1⟩;rintro⟨⟨⟩,r⟩ aD ⟨rfl,ar,hf,aq⟩
 try dsimp only
 exact tail r ar aq hf
def JY(X:Cx)(a:bT)(f:ak)(kf:Int×Int->Int×Int):Prop:=
 ∀(pins:a5 (ao×Obj))(σ:L2.St)(H:Hp)(s:aB)(x:V)(u:ak)(p:Int×Int),Inv X pins σ H s->RelV x u->gu X.K H x p →
  a7 (bb X.prog X.w) a (call f [u]) (EP X pins σ λv H'=>kc H H'/\gu X.K H' v (kf p)) (λ_ _=>False) s
theorem SM{Q:bT}{E:ak->aB->Prop}{P:lx->aB->Prop}{f:ak}{a kS:ao}{C:Nat}{bK:a5 ak}{xs:a5 V}{ps:a5 (Int×Int)}{kf:Int×Int->Int×Int}(I:Inv X (pins++[(kS,c9 "list" #[] 0),(a,c9 "list" #[] C)]) σ H s)(G:kS≠a)(sa:uD X pins a)(t:uD X pins kS)(u:Vals xs bK)(w:Paired (gu X.K H) xs ps)(hz:bK.length<=aQ)(turn:JY X Q f kf)(q:∀(m:a5 (V×(Int×Int))) H' g ,kc H H'->m.Perm (xs.zip ps)->(m.map λz=>kf z.2).Pairwise d6->H' a=none->Inv X pins σ (upd H' a (.lst (m.map (·.1)))) g->P (.done (.ret .none)) g):
  a7 (bb X.prog X.w) Q (ksk_rest a f false bK.toArray C (.ref kS)) P E s:=by
 have W:=hz;rw[ee]at W;have l1:=u.length;have l2:=iN w;unfold ksk_rest;refine aj (Mt ?_)
 first
 |rw[xN]
 |(rw[<- Qs];simp only[List.toList_toArray])
 |rw[<- Qs]
 refine aj (ksk_fold (λi g=>∃H' k b e,Inv X (pins++[(kS,c9 "list" b e),(a,c9 "list" #[] C)]) σ H' g/\kc H H'/\Vals k b.toList/\Paired (gu X.K H') k ((ps.take i).map kf)) bK 0 s
  ⟨H,[],#[],0,I,λ_ _ z=>z,.nil,.nil⟩ ?step ?done)
 case step=>
  rintro j x g M ⟨H',k,b,e,r,h,l,hk⟩;simp only[Mo]at hk⊢;have hj:j<bK.length:=(aJ.mp M).1;obtain⟨y,Z,S⟩:=Vals.vM u M;obtain⟨p,aa,Y⟩:=pairs_at w Z;have al:b.size<=bK.length:=by have h1:=l.length;have h2:=iN hk;rw[ai,bw]at h2;rw[<- cv];lia
  refine aj (tN (d9 (turn _ σ H' g y x p r S (Y.same h)) (λv d he=>?_) λ_ _ hF=>hF.elim));obtain⟨R,O,N,T,F,U⟩:=he
  try dsimp only
  obtain⟨⟨n,A⟩,L,B⟩:=jV N;have K:=Heap.SameBut.update d.heap kS (Obj.mapSeq (·.push v));obtain⟨D,hc2⟩:∃D,(d.heap.update kS (Obj.mapSeq (·.push v))).get? kS=some (c9 "list" (b.push v) D):=⟨_,pO n (·.push v)⟩;refine aj (tO n rfl ?_ (by rw[ee];lia) (bu (jD (Array.size_push ..)) (by rw[ee];lia)));have J:Inv X pins σ O { d with heap:=d.heap.update kS (Obj.mapSeq (·.push v)) }:=ph (t':=d.toks) (N.kG) t A λc o hc e=>(K.2 c hc).trans e;have ek:(ps.take (j+1)).map kf=(ps.take j).map kf++[kf p]:=by rw[Uq,aa];simp
  have ea:(b.push v).toList=b.toList++[v]:=#v[0]
  refine aM ⟨rfl,O,k++[R],b.push v,D,qk J t sa A B hc2 ((K.2 a G.symm).trans L) jR jR,me h F,?_,?_⟩;rw[ea];exact l.append (.cons T .nil);rw[ek];exact Bv (vA F hk) U
 case done=>
  rintro g ⟨H',k,b,e,r,h,l,hk⟩;have e3:ps.take (0+bK.length)=ps:=ic #v[];rw[e3]at hk;obtain⟨⟨n,A⟩,L,B⟩:=jV r
  try dsimp only
  refine aj (DU n rfl ?_);exact Wv r G sa t u (vA h w) l hk hz λm d m1 m2 J=>q m H' d h m1 m2 B J
theorem KP{l f:ao}{xs:a5 V}{ps:a5 (Int×Int)}{kf:Int×Int->Int×Int}{Q:VK}(I:Inv X pins σ H s)(r:lY X.K H l xs)(t:Paired (gu X.K H) xs ps)(turn:JY X X.A.in1.in1 (.ref f) kf)(q:∀(m:a5 (V×(Int×Int)))(a:ao)(H':Hp),kc H H'->m.Perm (xs.zip ps)->(m.map λz=>kf z.2).Pairwise d6->H' a=none->Q (.ref a) (upd H' a (.lst (m.map (·.1))))):
  a7 (bb X.prog X.w) X.A (call (.builtin "sorted") [.ref l] [(Str.ofString "key",.ref f)]) (EP X pins σ Q) X.xe s:=by
 obtain⟨bK,i,hl,hz⟩:=I.list r;have l1:=i.length;rw[l1]at hz;have y:=hz;rw[ee]at y;refine call_function_entry_kw kind_sorted plain_sorted entry_sorted (ksk_s1 _ _) ?_;unfold Builtin.«sorted»;refine aj (m:=checkCount "sorted" 1 1 _) (aM ?_);refine aj (collect_list hl.isList ?_ (by rw[ee];lia));refine aj (Qu ?_ (by rw[ee];lia));have hsz:((s.heap.push (c9 "list" #[] 0)).update s.heap.objs.size (Obj.mapSeq (· ++ bK.toArray))).objs.size=s.heap.objs.size+1:=by rw[Heap.size_update,ij]
 have c:(((s.heap.push (c9 "list" #[] 0)).update s.heap.objs.size (Obj.mapSeq (· ++ bK.toArray))).push (c9 "list" bK.toArray 0)).get? (s.heap.objs.size+1)=some (c9 "list" bK.toArray 0):=by rw[<- hsz];exact Heap.get?_push_size _ rfl
 have keep:∀b o,s.heap.get? b=some o->(((s.heap.push (c9 "list" #[] 0)).update s.heap.objs.size (Obj.mapSeq (· ++ bK.toArray))).push (c9 "list" bK.toArray 0)).get? b=some o:=λb o q=>by have d:b<s.heap.objs.size:=Heap.lt_size q;rw[Heap.get?_push_ne _ _ _ (by rw[hsz];exact bQ (jY d)),Heap.get?_update_ne _ _ _ _ (bQ d),Heap.get?_push_ne _ _ _ (bQ d)];exact q
 show a7 _ _ _ _ _ { s with heap:=((s.heap.push (c9 "list" #[] 0)).update s.heap.objs.size (Obj.mapSeq (· ++ bK.toArray))).push (c9 "list" bK.toArray 0) };rw[hsz];generalize E:((s.heap.push (c9 "list" #[] 0)).update s.heap.objs.size (Obj.mapSeq (· ++ bK.toArray))).push (c9 "list" bK.toArray 0)=h1 at c keep⊢;refine aj (eo (wpAny_call_entry_kw slot_list_sort ⟨_,c,rfl⟩ entry_list_sort ?body (ksk_l1 _ _)))
 case body=>
  show a7 (bb X.prog X.w) X.A.in1.in1 (Builtin.«list.sort» ⟨[.ref (s.heap.objs.size+1)],[(Str.ofString "key",.ref f)]⟩) _ _ _;rw[ksk_t1];generalize w:s.heap.objs.size+1=a at c⊢;have x:a<h1.objs.size:=Heap.lt_size c;have n:=Heap.SameBut.update h1 a (Obj.mapSeq λ_=>(#[]:Array ak));obtain⟨j,ho1⟩:∃j,(h1.update a (Obj.mapSeq λ_=>(#[]:Array ak))).get? a=some (c9 "list" #[] j):=⟨_,pO c λ_=>#[]⟩;have g:((h1.update a (Obj.mapSeq λ_=>(#[]:Array ak))).push (c9 "tuple" bK.toArray 0)).objs.size=h1.objs.size+1:=by rw[ij,Heap.size_update]
  unfold ksk_tree;refine aj (DU c rfl ?_);refine aj (tO c rfl ?_ (by rw[aX,ee];lia) (d4 _));refine aj (seqEpoch_at ho1 rfl ?_);refine aj (Mu ?_ (by show bK.length<=_;rw[ee];lia));refine aj (Qu ?_ (d4 _));refine eo ?_;have p:∀b o,s.heap.get? b=some o->(((h1.update a (Obj.mapSeq λ_=>(#[]:Array ak))).push (c9 "tuple" bK.toArray 0)).push (c9 "list" #[] 0)).get? b=some o:=λb o e=>by refine Heap.get?_push_of_some _ (Heap.get?_push_of_some _ ((n.2 b ?_).trans (keep b o e)));exact bQ (by rw[<- w];exact jY (Heap.lt_size e))
  have B:Inv X pins σ H { s with heap:=((h1.update a (Obj.mapSeq λ_=>(#[]:Array ak))).push (c9 "tuple" bK.toArray 0)).push (c9 "list" #[] 0) }:=I.kept (t':=s.toks) p;have D:s.heap.objs.size<=h1.objs.size:=#v[]
  have sa:uD X pins a:=qj I #v[];have h:uD X pins ((h1.update a (Obj.mapSeq λ_=>(#[]:Array ak))).push (c9 "tuple" bK.toArray 0)).objs.size:=qj I (by rw[g];lia);have v:H a=none:=I.gP.fresh #v[];have u:H ((h1.update a (Obj.mapSeq λ_=>(#[]:Array ak))).push (c9 "tuple" bK.toArray 0)).objs.size=none:=I.gP.fresh (by rw[g];lia);refine SM (qk B h sa u v (Heap.get?_push_size _ rfl) (Heap.get?_push_of_some _ (Heap.get?_push_of_some _ ho1)) jR jR) (by rw[g];exact cX (jY x)) sa h i t hz turn λm H' C k m1 m2 A J=>⟨_,rfl,?_⟩;exact aM ⟨_,rfl,.ref a,_,J,rfl,q m a H' k m1 m2 A⟩
end
section
variable{X:Cx}{G:Gb}{pins:a5 (ao×Obj)}{σ:L2.St}{H:Hp}{s:aB}
theorem Rn{sa:ao}{A:ao->Prop}{H:Hp}{x:V}{p:Int×Int}(h:gu G.K H x p)(b:∀a,¬A a):Rep G sa A H (pairD p) x:=by obtain⟨q,rfl,c⟩:=h;exact .tup (b q) c (.cons (.int _) (.cons (.int _) .nil))
theorem IC{sa:ao}{A:ao->Prop}{H:Hp}{x:V}{p:Int×Int}(r:Rep G sa A H (pairD p) x):gu G.K H x p:=by obtain⟨a,f,rfl,e,b⟩:=Rep.abW (show Rep G sa A H (.tup [.int p.1,.int p.2]) _ from r);obtain⟨v,u,rfl,d,c⟩:=b.two;obtain rfl:=d.int_inv;obtain rfl:=c.int_inv;exact⟨a,rfl,e⟩
theorem Jk{F:FP}{x:Str}{k:Nat}{b:bT}{kf:Int×Int->Int×Int}(j:X.K=G.K)(q:FnP X.prog X.w X.K X.mg X.base G x k F)(l:∀p Q,Q (pairD (kf p))->F [pairD p] Q)(i:gC k b)(env:∀pins σ H s,Inv X pins σ H s->Al X.prog X.w X.K X.mg X.base b X.stack s H):∃f,X.mg x=some (.ref f)/\JY X b (.ref f) kf:=by obtain⟨f,w,ps,o,n,t,m⟩:=q;refine⟨f,n,λpins σ H s y u p I r h=>?_⟩;refine VL o i m (env _ _ _ _ I) I (.cons r .nil) ?_;rw[j]at h⊢;refine⟨0,λ_=>False,[pairD p],λd=>d=pairD (kf p),λa z=>z.elim,.cons (Rn h λa z=>z) .nil,l p _ rfl,λv H' d c g e=>⟨c,?_⟩⟩;subst e;exact IC g
theorem Ed{id:String}{x a:Str}{e:bL}{k p pos j:Pos}{t:TA}{b:ak}{r:a5 V->Hp->VK->Prop}(u:Gl X x)(n:X.mg x=none)(l:gH x=some (.builtin id))(z:PA X [e] t)(q:Gl X a)(o:X.mg a=some b)(y:∀pins s σ H vs us Q,Inv X pins σ H s->Vals vs us->r vs H Q->a7 (bb X.prog X.w) X.A (call (.builtin id) us [(Str.ofString "key",b)]) (EP X pins σ Q) X.xe s)(m:x≠"__name__":=by decide)(w:(x == ("__debug__" : Str))=false:=by decide)(v:(a == ("__debug__" : Str))=false:=by decide)(c:aG [e] X.env=(false,cg e X.env)::aG [] X.env:=by rfl):
  PE X (.Call (.Name x p) [e] [⟨some (Str.ofString "key"),.Name a k,j⟩] pos) (tCB r t):=by intro pins s σ H Q I h;refine dD (ml I u n l ?_ m w);refine callWith_kw (e:=e) (rest:=[]) ?_ (by rw[c];rfl) (by rw[c];rfl);refine iW (z pos pins s σ H _ I h) λus f ⟨vs,A,d,g,i⟩=>?_;exact kws_cons (tY d q o (kws_nil (y pins f σ A vs us Q d g i)) v)
def Ru(K:au)(kf:Int×Int->Int×Int):a5 V->Hp->VK->Prop:=λvs H Q=>∃(a:ao)(xs:a5 V)(ps:a5 (Int×Int)),vs=[V.ref a]/\lY K H a xs/\Paired (gu K H) xs ps ∧
 ∀(m:a5 (V×(Int×Int)))(p:ao)(H':Hp),kc H H'->m.Perm (xs.zip ps)->(m.map λz=>kf z.2).Pairwise d6->H' p=none->Q (.ref p) (upd H' p (.lst (m.map (·.1))))
def swap(p:Int×Int):Int×Int:=(p.2,p.1)
def sQ:FP:=λds Q=>match ds with
|[.lst xs]=>(match jJ xs with
 |some ps=>∀a:a5 (Int×Int),a.Perm ps->(a.map swap).Pairwise d6->Q (.lst (a.map pairD))
 |none=>False)
|_=>False
theorem Ip{F:FP}{g:Str}{k:Nat}{e:bL}{p pos E C:Pos}{t:lJ}(Fn:FnP X.prog X.w X.K X.mg X.base G g k F)(P:gC (k+2) X.A)(u:X.K=G.K)(U:Gl X "sorted")(T:Gl X g)(R:X.mg "sorted" = none)(W:QA X G [e] t)(Y:∀p Q,Q (pairD (swap p))->F [pairD p] Q)(V:(g == ("__debug__" : Str))=false:=by decide)(N:aG [e] X.env=(false,cg e X.env)::aG [] X.env:=by rfl):
  QE X G (.Call (.Name "sorted" p) [e] [⟨some (Str.ofString "key"),.Name g E,C⟩] pos) (Qy sQ t):=by
 obtain⟨f,l,ok⟩:=Jk (kf:=swap) u Fn Y (P.in1.in1) λpins σ H s I=>I.WM.in1.in1;refine ir (Ed (id:="sorted") (r:=Ru X.K swap) U R #v[2] W T l (λpins s σ H vs us Q I r h=>?_) #v[1] #v[1] V N) (λ{σ H Q} K=>?_)
 .obtain⟨a,xs,ps,rfl,M,c,q⟩:=h;rw[Vals.FA r];exact KP I M c ok q
 .obtain⟨h,Av,H0,O,x,S,Q',st,L,J⟩:=K;refine⟨h,Av,H0,O,x,S,_,st,L,?_⟩;rintro vs H1 ⟨ds,S1,o,D,B,b⟩;unfold sQ at b;split at b
  .split at b
   .rename_i ps e';obtain⟨v,rfl,A⟩:=B.one;obtain⟨a,y,rfl,n,Z,d⟩:=A.lst_inv;rw[lI e']at d;rw[u];refine⟨a,y,ps,rfl,.inl (.inl Z),d.pairs,λm p H2 j w l c=>?_⟩;have i:=o.same j;refine J _ _ ⟨_,S1,i.same (fN c),(D.trans (.of j)).trans (.new c),.lst (i.fresh c) bZ ?_,b (m.map (·.2)) ?_ (by rw[bz];exact l)⟩
    .rw[bz];exact i.vq (.new c) ((o.vq (.of j) d).QN λz hz=>w.mem_iff.mp hz)
    .have q:=w.map Yv;rw[kD (by have:=d.length;simp at this;lia)]at q;exact q
   .exact b.elim
  .exact b.elim
theorem lex_total(a b:Int×Int):d6 a b\/d6 b a:=by unfold d6;lia
theorem Lv{a b c:Int×Int}(f:d6 a b)(d:d6 b c):d6 a c:=by unfold d6 at *;lia
instance (a b:Int×Int):Decidable (d6 a b):=by unfold d6;infer_instance
theorem aav(a b:Int×Int):HT.lexLt [a.1,a.2] [b.1,b.2]=decide (¬d6 b a):=by rw[HT.vK];by_cases h:a.1=b.1;rw[if_pos h,HT.vK];by_cases c:a.2=b.2;rw[if_pos c,HT.uU];exact(decide_eq_false (by unfold d6;lia)).symm;rw[if_neg c];exact decide_eq_decide.mpr (by unfold d6;lia);rw[if_neg h];exact decide_eq_decide.mpr (by unfold d6;lia)
theorem Po{K:au}{H H':Hp}{l:ao}{xs:a5 V}(a:kc H H')(h:lY K H l xs):lY K H' l xs:=a.seq h
theorem A6{K:au}{H:Hp}:∀{xs:a5 V}{ps:a5 (Int×Int)}{us ws:a5 ak},Paired (gu K H) xs ps->Vals xs us->Vals xs ws->us=ws
|_,_,_,_,.nil,.nil,.nil=>rfl
|_,_,_,_,.cons h t,.cons d b,.cons c a=>by obtain⟨q,rfl,_⟩:=h;cases d;cases c;rw[A6 t b a]
theorem SD{R:Hc->aB->Prop}{f l It S:ao}{F:Hp}{bK:a5 ak}{xs:a5 V}{ps:a5 (Int×Int)}{kf:Int×Int->Int×Int}(hh:X.A.handled=none)(hu:X.A.in1.units<pU)(hs:lY X.K F l xs)(Y:Vals xs bK)(hp:Paired (gu X.K F) xs ps)(G:uD X pins S)(J:uD X pins It)(a0:l≠It)(P:S≠It)(turn:JY X X.A.in1 (.ref f) kf)(hR:∀(i:Nat) v p s' H',bK[i]? = some v->ps[i]? = some p->(∀g∈ps,d6 (kf p) (kf g))->kc F H'->Inv X pins σ H' s'->R (.ok (.ret v)) s'):
  ∀(r j i:Nat)(s:aB)(H:Hp)(t D:ak)(L:V)(d:Int×Int)(c:Nat)(oI:Obj),bK.length-(j+1)=r->j+1<=bK.length →
   Inv X (pins++[(S,c9 "list" #[t,D] c),(It,oI)]) σ H s->kc F H->s.heap.IsListIter It l (j+1)->bK[i]? = some t->ps[i]? = some d->RelV L D->gu X.K H L (kf d) →
   (∀(h:Nat) g,h<=j->ps[h]? = some g->d6 (kf d) (kf g)) →
   oO (bb X.prog X.w) X.A (.builtin "min.loop" ⟨[.ref It,.ref f,.ref S],[]⟩) R s:=by
 have aE:(toString "min" ++ toString ".loop" : String) = "min.loop":=#v[1]
 have W:=Walks.list (prog:=X.prog) (w:=X.w) (A:=X.A.in1) hh It l a0 bK.toArray;have hsz:bK.toArray.size=bK.length:=aX ..;have l1:=Y.length;have l2:=iN hp;have az:∀{ax:a5 (ao×Obj)}{H:Hp}{s:aB},Inv X ax σ H s->kc F H->s.heap.IsList l bK.toArray:=λ{ax H s} I k=>by obtain⟨its',aK,pl,_⟩:=I.list (Po k hs);rw[A6 hp Y aK];exact pl.isList
 intro r
 induction r with
|zero=>
  intro j i s H t D L d c oI hr hj I k ag aa ac rk pk N;have a2:j+1=bK.length:=#v[]
  obtain⟨⟨C,ah⟩,nI,Q⟩:=jV I;have I0:Inv X pins σ H s:=I.kG;refine pP qZ ?_;rw[Around.under_plainId fy _];show a7 _ X.A.in1 (seqItems? (.ref S) >>= _) _ _ _;refine aj (gU C rfl ?_);show a7 _ X.A.in1 (tryCatch (nt (.ref It)) _ >>= _) _ _ _;refine aj (ng (W.done _ _ _ ⟨by rw[hsz,<- a2];exact ag,az I k⟩ λh' y E=>?_));have J1:Inv X pins σ H { s with heap:=h',toks:=y }:=ph I0 J Q λb o q e=>E b o #v[q] e;have ai:=E S _ #v[P] C;have B:=Heap.SameBut.update h' S (Obj.mapSeq λ_=>(#[]:Array ak));show a7 _ X.A.in1 (oK S (λ_=>#[]) >>= _) _ _ _;refine aj ?_;refine fb ai rfl (aj (mN (aM ?_)));refine hR i t d _ H aa ac (λg n=>?_) k (ph (s:={ s with heap:=h',toks:=y }) (t':=y) J1 G ah λb o q e=>(B.2 b q).trans e);obtain⟨h,af,e⟩:=iT.mp n;exact N h g #v[] (by rw[aw af,e])
|succ r ih=>
  intro j i s H t D L d c oI hr hj I k ag aa ac rk pk N;have ae:j+1<bK.length:=#v[]
  obtain⟨⟨C,ah⟩,nI,Q⟩:=jV I;have I0:Inv X pins σ H s:=I.kG;refine pP qZ ?_;rw[Around.under_plainId fy _];show a7 _ X.A.in1 (seqItems? (.ref S) >>= _) _ _ _;refine aj (gU C rfl ?_);show a7 _ X.A.in1 (tryCatch (nt (.ref It)) _ >>= _) _ _ _;refine aj (ng (W.item (j+1) _ _ _ (by rw[hsz];exact ae) ⟨ag,az I k⟩ λv h' y hP aV E=>?_));have hv:bK[j+1]? = some v:=by simpa using hP
  obtain⟨x,hx,rx⟩:=Vals.vM Y hv;obtain⟨pv,ab,aS⟩:=pairs_at hp hx;obtain⟨K,aZ,aD,M⟩:=id aV.1;have J1:Inv X pins σ H { s with heap:=h',toks:=y }:=ph I0 J Q λb o q e=>E b o #v[q] e;have ai:=E S _ #v[P] C;have bd:=qk J1 G J ah Q ai aZ jR λv z=>by rw[M]at z;cases z
  show a7 _ X.A.in1 (tryCatch (kF [v] (call (.ref f) [v])) _ >>= _) _ _ _;refine aj (ng (eo (d9 (turn _ σ H _ x v pv bd rx (aS.same k)) (λkv m he=>?_) λ_ _ hF=>hF.elim)));obtain⟨kx,T,I2,aL,U,aP⟩:=he;obtain⟨⟨ay,aF⟩,Z,a8⟩:=jV I2;have an:Inv X pins σ T m:=I2.kG;have a1:m.heap.IsListIter It l (j+1+1):=⟨K,Z,aD,M⟩;obtain⟨a,rfl,au⟩:=aP;obtain⟨u,rfl,as⟩:=pk.same U;obtain rfl:kv=Value.ref a:=aL;obtain rfl:D=Value.ref u:=rk;obtain⟨ia,ra,ta,_⟩:=an.tuple au.sq;obtain⟨ib,rb,tb,_⟩:=an.tuple as.sq;show a7 _ X.A.in1 (tryCatch (kF [v,.ref a] (richCompare .Lt (.ref a) (.ref u) >>= _)) _ >>= _) _ _ _;refine aj (ng (eo (aj ?_)));refine(HT.Ls (ns:=[(kf pv).1,(kf pv).2]) (ms:=[(kf d).1,(kf d).2]) ta tb (intsAre_of ra) (intsAre_of rb) hu ?_:a7 (bb X.prog X.w) X.A.in1 (eE .Lt (.ref a) (.ref u)) _ _ m);refine aj (eo (jb ?_));refine aj (mN (aM ?_));rw[aav];by_cases O:d6 (kf d) (kf pv);simp only[O,not_true_eq_false,decide_false,gd,if_false];refine aj (mN ?_);rw[aE];refine aM ⟨km fy _,ih (j+1) i m T t (.ref u) (.ref u) d c K #v[] ae I2 (me k U) a1 aa ac rfl ⟨u,rfl,as⟩ λh g af n=>?_⟩;by_cases e:h=j+1;subst e;rw[ab]at n;obtain rfl:=aH n;exact O;exact N h g #v[] n;have B:=Heap.SameBut.update m.heap S (Obj.mapSeq λ_=>#[v,.ref a]);obtain⟨c2,hc2⟩:∃c2,(m.heap.update S (Obj.mapSeq λ_=>#[v,.ref a])).get? S=some (c9 "list" #[v,.ref a] c2):=⟨_,pO ay λ_=>#[v,.ref a]⟩;simp only[O,not_false_eq_true,decide_true,if_true];refine aj ?_;refine fb ay rfl (aj (mN ?_));rw[aE];have J3:Inv X pins σ T { m with heap:=m.heap.update S (Obj.mapSeq λ_=>#[v,.ref a]) }:=ph (t':=m.toks) an G aF λb o q e=>(B.2 b q).trans e;have ba:=qk J3 G J aF a8 hc2 ((B.2 It P.symm).trans Z) jR λv z=>by rw[M]at z;cases z
  have hpb':d6 (kf pv) (kf d):=(lex_total (kf d) (kf pv)).resolve_left O;refine aM ⟨km fy _,ih (j+1) (j+1) _ T v (.ref a) (.ref a) pv c2 K #v[] ae ba (me k U) ⟨K,(B.2 It P.symm).trans Z,aD,M⟩ hv ab rfl ⟨a,rfl,au⟩ λh g af n=>?_⟩;by_cases e:h=j+1;subst e;rw[ab]at n;obtain rfl:=aH n;unfold d6;lia;exact Lv hpb' (N h g #v[] n)
end
section
variable{X:Cx}{G:Gb}{pins:a5 (ao×Obj)}{σ:L2.St}{H:Hp}{s:aB}
theorem Wl{Q:ak->aB->Prop}{E:ak->aB->Prop}{f l:ao}{xs:a5 V}{ps:a5 (Int×Int)}{kf:Int×Int->Int×Int}(I:Inv X pins σ H s)(Y:X.A.handled=none)(hu:X.A.in1.units<pU)(t:lY X.K H l xs)(n:Paired (gu X.K H) xs ps)(aZ:0<ps.length)(turn:JY X X.A.in1 (.ref f) kf)(hQ:∀(i:Nat) v x p m H',xs[i]? = some x->RelV x v->ps[i]? = some p->(∀D∈ps,d6 (kf p) (kf D))->kc H H'->Inv X pins σ H' m->Q v m):
  a7 (bb X.prog X.w) X.A (call (.builtin "min") [.ref l] [(Str.ofString "key",.ref f)]) Q E s:=by
 have O:(toString "min" ++ toString ".loop" : String) = "min.loop":=#v[1]
 obtain⟨bK,d,pl,hz⟩:=I.list t;have P:=pl.isList;have l1:=d.length;have l2:=iN n;obtain⟨ol,ax,_⟩:=id P;have R:l<s.heap.objs.size:=Heap.lt_size ax;refine kmk_tree PySem.F.kind_min PySem.F.plain_min PySem.F.entry_min (kmk_min_key _ _) ?_;show a7 _ X.A.in1 (Builtin.Builtins.bindParams "min" ["key","default"] 0 ⟨[],[(Str.ofString "key",.ref f)]⟩ >>= _) _ _ s;refine aj (Xx (show Builtin.Builtins.bindParams "min" ["key","default"] 0 ⟨[],[(Str.ofString "key",.ref f)]⟩=pure [some (.ref f),none] from rfl) ?_);refine aj (aM ?_);refine aj (nh P ?_);refine aj (Qu ?_ (d4 _));rw[O];have g:(s.heap.push { cls:=.type "list_iterator",data:=.fields #[.ref l,.int 0 0] }).objs.size=s.heap.objs.size+1:=ij ..;generalize aD:(s.heap.push { cls:=.type "list_iterator",data:=.fields #[.ref l,.int 0 0] }).objs.size=S at g⊢;generalize h:s.heap.objs.size=It at g R⊢;have T:l≠It:=bQ R;have q:S≠It:=by rw[g];exact cX (rQ _)
 have k:uD X pins It:=qj I (jD h);have j:uD X pins S:=qj I (by rw[h,g];exact jy _);have aa:H It=none:=I.gP.fresh (jD h);have aE:H S=none:=I.gP.fresh (by rw[h,g];exact jy _);refine aM ⟨km fy _,?_⟩;have gI:((s.heap.push { cls:=.type "list_iterator",data:=.fields #[.ref l,.int 0 0] }).push (c9 "list" #[] 0)).get? It=some { cls:=.type "list_iterator",data:=.fields #[.ref l,.int 0 0] }:=by rw[<- h];exact Heap.get?_push_of_some _ (Heap.get?_push_size _ rfl)
 have gS:((s.heap.push { cls:=.type "list_iterator",data:=.fields #[.ref l,.int 0 0] }).push (c9 "list" #[] 0)).get? S=some (c9 "list" #[] 0):=by rw[<- aD];exact Heap.get?_push_size _ rfl
 have J:Inv X pins σ H { s with heap:=(s.heap.push { cls:=.type "list_iterator",data:=.fields #[.ref l,.int 0 0] }).push (c9 "list" #[] 0) }:=I.kept (t':=s.toks) λb o e=>Heap.get?_push_of_some _ (Heap.get?_push_of_some _ e);have W:=Walks.list (prog:=X.prog) (w:=X.w) (A:=X.A.in1) Y It l T bK.toArray;have hsz:bK.toArray.size=bK.length:=aX ..;have aA:((s.heap.push { cls:=.type "list_iterator",data:=.fields #[.ref l,.int 0 0] }).push (c9 "list" #[] 0)).IsList l bK.toArray:=by obtain⟨its',ai,am,_⟩:=J.list t;rw[A6 n d ai];exact am.isList
 refine pP qZ ?_;rw[Around.under_plainId fy _];show a7 _ X.A.in1 (seqItems? (.ref _) >>= _) _ _ _;refine aj (gU gS rfl ?_);show a7 _ X.A.in1 (tryCatch (nt (.ref It)) _ >>= _) _ _ _;refine aj (ng (W.item 0 _ _ _ (by rw[hsz];lia) ⟨⟨_,gI,rfl,rfl⟩,aA⟩ λv h' ae hP aw U=>?_));have L:bK[0]? = some v:=by simpa using hP
 obtain⟨x,hx,rx⟩:=Vals.vM d L;obtain⟨pv,M,ar⟩:=pairs_at n hx;obtain⟨F,az,ay,u⟩:=id aw.1;have J1:Inv X pins σ H { s with heap:=h',toks:=ae }:=ph (s:={ s with heap:=(s.heap.push { cls:=.type "list_iterator",data:=.fields #[.ref l,.int 0 0] }).push (c9 "list" #[] 0) }) J k aa λb o y e=>U b o #v[y] e;have aF:=U S _ #v[q] gS;have aU:=qk J1 j k aE aa aF az jR λv z=>by rw[u]at z;cases z
 show a7 _ X.A.in1 (tryCatch (kF [v] (call (.ref f) [v])) _ >>= _) _ _ _;refine aj (ng (eo (d9 (turn _ σ H _ x v pv aU rx ar) (λa c he=>?_) λ_ _ hF=>hF.elim)));obtain⟨kx,C,I2,al,af,an⟩:=he;obtain⟨⟨G,Z⟩,K,aJ⟩:=jV I2;have aW:Inv X pins σ C c:=I2.kG;have r:=Heap.SameBut.update c.heap S (Obj.mapSeq λ_=>#[v,a]);obtain⟨B,hc2⟩:∃B,(c.heap.update S (Obj.mapSeq λ_=>#[v,a])).get? S=some (c9 "list" #[v,a] B):=⟨_,pO G λ_=>#[v,a]⟩;show a7 _ X.A.in1 (oK S (λ_=>#[v,a]) >>= _) _ _ _;refine aj ?_;refine fb G rfl ?_;rw[O];have J3:Inv X pins σ C { c with heap:=c.heap.update S (Obj.mapSeq λ_=>#[v,a]) }:=ph (t':=c.toks) aW j Z λb o y e=>(r.2 b y).trans e;have aS:=qk J3 j k Z aJ hc2 ((r.2 It q.symm).trans K) jR λv z=>by rw[u]at z;cases z
 refine aM ⟨km fy _,SD Y hu t d n j k T q turn (λi v p m H' h1 h2 h3 h4 h5=>?_) _ 0 0 _ C v a kx pv B F rfl #v[] aS af ⟨F,(r.2 It q.symm).trans K,ay,u⟩ L M al an λj' D a0 N=>?_⟩;obtain⟨x',as,ag⟩:=Vals.vM d h1;exact hQ i v x' p m H' as ag h2 h3 h4 h5;have e:j'=0:=#v[]
 subst e;rw[M]at N;obtain rfl:=aH N;unfold d6;lia
def acf(K:au)(kf:Int×Int->Int×Int):a5 V->Hp->VK->Prop:=λvs H Q=>∃(a:ao)(xs:a5 V)(ps:a5 (Int×Int)),vs=[V.ref a]/\lY K H a xs/\Paired (gu K H) xs ps/\0<ps.length ∧
 ∀(i:Nat) x p H',xs[i]? = some x->ps[i]? = some p->(∀b∈ps,d6 (kf p) (kf b))->kc H H'->Q x H'
def Js:FP:=λds Q=>match ds with
|[.lst xs]=>(match jJ xs with
 |some ps=>ps≠[]/\∀p∈ps,(∀a∈ps,d6 (swap p) (swap a))->Q (pairD p)
 |none=>False)
|_=>False
theorem RD{F:FP}{g:Str}{k:Nat}{e:bL}{p pos K E:Pos}{t:lJ}(Fn:FnP X.prog X.w X.K X.mg X.base G g k F)(u:gC (k+1) X.A)(z:X.K=G.K)(W:Gl X "min")(V:Gl X g)(w:X.mg "min" = none)(Z:QA X G [e] t)(hF:∀p Q,Q (pairD (swap p))->F [pairD p] Q)(Y:(g == ("__debug__" : Str))=false:=by decide)(T:aG [e] X.env=(false,cg e X.env)::aG [] X.env:=by rfl):
  QE X G (.Call (.Name "min" p) [e] [⟨some (Str.ofString "key"),.Name g K,E⟩] pos) (Qy Js t):=by
 obtain⟨f,c,ok⟩:=Jk (kf:=swap) z Fn hF (u.in1) λpins σ H s I=>I.WM.in1;refine ir (Ed (id:="min") (r:=acf X.K swap) W w #v[2] Z V c (λpins s σ H vs us Q I r h=>?_) #v[1] #v[1] Y T) (λ{σ H Q} N=>?_)
 .obtain⟨a,xs,ps,rfl,R,j,U,q⟩:=h;rw[Vals.FA r];exact Wl I u.hd (by have:=u.in1.un;lia) R j U ok λi v x p s' H' l c h3 h4 h5 h6=>⟨x,H',h6,c,q i x p H' l h3 h4 h5⟩
 .obtain⟨h,Av,H0,O,A,S,Q',st,P,L⟩:=N;refine⟨h,Av,H0,O,A,S,_,st,P,?_⟩;rintro vs H1 ⟨ds,S1,y,J,D,b⟩;unfold Js at b;split at b
  .split at b
   .rename_i ps e';obtain⟨v,rfl,C⟩:=D.one;obtain⟨a,B,rfl,n,ea,o⟩:=C.lst_inv;rw[lI e']at o;rw[z];refine⟨a,B,ps,rfl,.inl (.inl ea),o.pairs,g9.mpr b.1,λi x p H2 M j w m=>?_⟩;obtain⟨v,l,c⟩:=o.get (i:=i) (d:=pairD p) (by rw[bq,j];rfl);rw[M]at l;obtain rfl:=aH l;exact L _ _ ⟨_,S1,y.same m,J.trans (.of m),y.rep (.of m) c,b.2 p (bp j) w⟩
   .exact b.elim
  .exact b.elim
end
section
variable{X:Cx}{G:Gb}{pins:a5 (ao×Obj)}{σ:L2.St}{H:Hp}{s:aB}
theorem OQ{A:bT}{x y:V}{u v:ak}{p q:Int×Int}(I:Inv X pins σ H s)(N:A.units<pU)(E:RelV x u)(D:RelV y v)(M:gu X.K H x p)(L:gu X.K H y q):SeqAt.EqAt A s u v (decide (p=q)):=by
 obtain⟨a,rfl,w⟩:=M;obtain⟨b,rfl,r⟩:=L;obtain rfl:u=Value.ref a:=E;obtain rfl:v=Value.ref b:=D;by_cases t:a=b;subst t;have e:=I.xU w.sq r.sq;have c:p=q:=by injection e with o c;injection c with c _;injection o with o;injection c with c;exact zQ o c
 rw[decide_eq_true c];exact SeqAt.EqAt.same _;obtain⟨P,g,C,_⟩:=I.tuple w.sq;obtain⟨O,f,B,_⟩:=I.tuple r.sq;cases g with
|cons K g=>
  cases g with
 |cons J g=>
   cases g;cases f with
  |cons G f=>
    cases f with
   |cons F f=>
     cases f;obtain⟨n,rfl⟩:=K;obtain⟨m,rfl⟩:=J;obtain⟨l,rfl⟩:=G;obtain⟨k,rfl⟩:=F;have h:=SeqAt.RcAt.tuples (A:=A) (s:=s) (items:=#[.int p.1 n,.int p.2 m]) (items2:=#[.int q.1 l,.int q.2 k]) (e:=λj=>if j=0 then(p.1 == q.1) else(p.2 == q.2)) C B N (λj d i=>by
      have hj:j=0\/j=1:=by simp at d;lia
      rcases hj with rfl|rfl;exact SeqAt.EqAt.int_int _ _ _ _;exact SeqAt.EqAt.int_int _ _ _ _)
     have e:((cf (min (#[Value.int p.1 n,.int p.2 m]:Array ak).size (#[Value.int q.1 l,.int q.2 k]:Array ak).size)).all (λj=>if j=0 then(p.1 == q.1) else(p.2 == q.2))&&((#[Value.int p.1 n,.int p.2 m]:Array ak).size == (#[Value.int q.1 l,.int q.2 k]:Array ak).size))=decide (p=q):=by have:(cf (min (#[Value.int p.1 n,.int p.2 m]:Array ak).size (#[Value.int q.1 l,.int q.2 k]:Array ak).size))=[0,1]:=rfl;rw[this];by_cases d:p.1=q.1;by_cases i:p.2=q.2;rw[decide_eq_true (zQ d i)];simp[d,i];rw[decide_eq_false (λz=>i (by rw[z]))];simp[i];rw[decide_eq_false (λz=>d (by rw[z]))];simp[d]
     rw[e]at h;exact SeqAt.EqAt.of_refs t h
open Classical in
noncomputable def eqP (K:au) (H:Hp) (q:Int×Int) (u:ak):Bool:=decide (∃x,RelV x u/\gu K H x q)
open Classical in
theorem LK{x:V}{u:ak}{p q:Int×Int}(I:Inv X pins σ H s)(f:RelV x u)(g:gu X.K H x p):eqP X.K H q u=decide (p=q):=by
 unfold eqP;by_cases h:p=q;rw[decide_eq_true h];exact decide_eq_true ⟨x,f,by rw[<- h];exact g⟩;rw[decide_eq_false h];refine decide_eq_false λ⟨y,i,j⟩=>h ?_;obtain⟨a,rfl,l⟩:=g;obtain⟨b,rfl,k⟩:=j;obtain rfl:u=Value.ref a:=f;have e:a=b:=by injection i
 subst e;have e:=I.xU l.sq k.sq;injection e with d c;injection c with c _;injection d with d;injection c with c;exact zQ d c
def VR(K:au):V->a5 V->Hp->VK->Prop:=λx vs H Q=>∃(a:ao)(xs:a5 V)(ps:a5 (Int×Int))(y:V)(q:Int×Int)(j:Nat),x=.ref a/\vs=[y]/\lY K H a xs/\Paired (gu K H) xs ps/\gu K H y q ∧
 ps[j]? = some q/\(∀(m:Nat) p,m<j->ps[m]? = some p->p≠q)/\Q (.int (j:Nat)) H
theorem Pj(C:X.A.in1.units<pU):MtR X "list.index" (VR X.K):=by
 intro pins s σ H x vs v us Q I z w h;obtain⟨a,xs,ps,y,q,j,rfl,rfl,D,k,A,hj,F,E⟩:=h;cases z;obtain⟨r,rfl,t⟩:=vals1 w;obtain⟨bK,g,⟨⟨cls,dd,data,sl⟩,n,l,o,N,hd⟩,L⟩:=I.list D;simp only at o hd;subst o hd;have l1:=g.length;have l2:=iN k;have M:j<ps.length:=(aJ.mp hj).1;have K:=ee;have at_:∀(m:Nat)(f:m<bK.toArray.size),∃x p,RelV x bK.toArray[m]/\gu X.K H x p/\ps[m]? = some p:=λm f=>by
  have hm':m<bK.length:=by simpa using f
  obtain⟨x,b,c⟩:=Vals.vM g (i:=m) (aw hm');obtain⟨p,d,J⟩:=pairs_at k b;exact⟨x,p,by simpa using c,J,d⟩
 refine CS Fd ⟨_,l,rfl⟩ PySem.F.entry_list_index (PySem.F.args_list_index_2 _ _)
  (SeqAt.list_indexAt a bK.toArray n dd sl r (eqP X.K H q) j (by simp;lia) #v[] ?_ ?_) ⟨l,λu B=>?_,?_⟩
 obtain⟨x,p,b,c,d⟩:=at_ j (by simp;lia);rw[hj]at d;obtain rfl:=aH d;rw[LK I b c];exact decide_eq_true rfl;intro m f G;obtain⟨x,p,b,c,d⟩:=at_ m f;rw[LK I b c];exact decide_eq_false (F m p G d);obtain⟨m,f,e⟩:=Array.mem_iff_getElem.mp B;obtain⟨x,p,b,c,d⟩:=at_ m f;rw[e]at b;rw[LK I b c];exact OQ I C b t c A;exact⟨.int (j:Nat),H,I.tok _,⟨_,rfl⟩,E⟩
def yB:D->D->(D->Prop)->Prop:=λx y Q=>oL x λxs=>oT y λl=>match xS l with
|some p=>(match jJ xs with
 |some ps=>p∈ps/\Q (.int (ps.idxOf p:Nat))
 |none=>False)
|none=>False
def NL(to b:jg):jg:=λa S Q=>to a S λx f=>match x with
|.lst xs=>b a f λy c=>yB (.lst xs) y λd=>Q d c
|_=>False
theorem Lz{ps:a5 (Int×Int)}{q:Int×Int}(h:q∈ps):ps[ps.idxOf q]? = some q/\∀(m:Nat) p,m<ps.idxOf q->ps[m]? = some p->p≠q:=by
 induction ps with
|nil=>cases h
|cons p ps d=>
  by_cases e:p=q;subst e;rw[N4];exact⟨rfl,λm a b=>absurd b (Yw _)⟩;have f:q∈ps:=(aq.mp h).resolve_left λz=>e z.symm;obtain⟨i,g⟩:=d f;have j:(p::ps).idxOf q=ps.idxOf q+1:=by
   have k:(p == q)=false:=by simpa using e
   simp[List.idxOf,List.findIdx_cons,k]
  rw[j];refine⟨by simpa using i,λm a b c=>?_⟩;cases m with
 |zero=>
   have z:p=a:=by simpa using c
   rw[<- z];exact e
 |succ m=>exact g m a #v[b] #v[c]
theorem RF{o e:bL}{to m:jg}{z pos:Pos}(W:X.K=G.K)(hu:X.A.units+64<pU)(P:QE X G o to)(U:QE X G e m)(V:gJ o "index" X.env (cg o X.env)=cg o X.env:=by rfl)(T:((ef pos (aG [e] X.env)).all (λx=>!x.1)&&(yU pos (oV [] X.env)).all (λx=>x.1.isSome)
   && decide (([e]:a5 bL).length+([]:a5 DV).length+(if([]:a5 DV).isEmpty then 0 else 1)<30))=true:=by rfl)(R:(z.endLine == pos.line)=true:=by rfl)(u:aG [e] X.env=(false,cg e X.env)::aG [] X.env:=by rfl)(N:(ef pos (aG [] X.env)).any (·.1)=false:=by rfl):
  QE X G (.Call (.Attribute o "index" z) [e] [] pos) (NL to m):=by
 refine ir (XZ qB Fd PySem.F.type_list_index (Pj (by show X.A.units+1<pU;lia)) P (j4 U mh u) V T R u N) ?_;rintro σ H Q ⟨h,C,B,O,j,S,A,st,M,k⟩;refine⟨h,C,B,O,j,S,_,st,M,?_⟩;rintro x H1 ⟨dx,S1,q,L,I,g⟩;split at g;rename_i xs;obtain⟨a,E,rfl,n,w,J⟩:=I.lst_inv;refine⟨.inl ⟨rfl,E,.inl (.inl w)⟩,h,C,B,O,j,S1,λds f=>match ds with|[y]=>yB (.lst xs) y λd=>A d f|_=>False,q,g,?_⟩;rintro vs H2 ⟨ds,f,F,t,K,c⟩;split at c;rename_i y;obtain⟨v,rfl,r⟩:=K.one;cases y<;>first|exact c.elim|skip
 rename_i l;have c:(match xS l with
 |some p=>(match jJ xs with
  |some ps=>p∈ps/\A (.int (ps.idxOf p:Nat)) f
  |none=>False)
 |none=>False):=c
 cases e:xS l with
|none=>rw[e]at c;exact c.elim
|some p=>
  rw[e]at c;cases i:jJ xs with
 |none=>rw[i]at c;exact c.elim
 |some ps=>
   rw[i]at c;rw[Az e]at r;obtain⟨b,D,e1,na,eb,s⟩:=(q.rep t (Rep.lst n w J)).lst_inv;obtain rfl:a=b:=by injection e1
   rw[lI i]at s;rw[W];obtain⟨Z,Y⟩:=Lz c.1;exact⟨a,D,ps,v,p,_,rfl,rfl,.inl (.inl eb),s.pairs,IC (G:=G) (p:=p) r,Z,Y,k _ _ ⟨_,f,F,L.trans t,.int _,c.2⟩⟩
 exact c.elim;exact g.elim
end
section
variable{prog:bC}{w:cu}{A:bT}{E:ak->aB->Prop}{s:aB}
theorem wg{M:XF}{a:ao}{Q:Option Obj->aB->Prop}(h:Q (s.heap.get? a) s):a7 M A (loadIfAlive a) Q E s:=λb p _=>by unfold loadIfAlive;rw[Sem.wp_loadIfAlive];exact h
abbrev ZF(h:cY)(z TI TO:ao)(b a:ak):Prop:=h.get? z=some { cls:=.type "zip",dict:=none,data:=.fields #[b,a,.bool false,.ref TI,.ref TO],slots:=#[] }
abbrev TupAt(h:cY)(T:ao)(xs:a5 ak):Prop:=h.get? T=some { cls:=.type "tuple",data:=.seq xs.toArray }
theorem M4{z TI TO a:ao}{b:ak}{oT:Obj}{Q:Bool->aB->Prop}(hz:ZF s.heap z TI TO (nj a) b)(g:b=.bool true\/b=.bool false)(h:s.heap.get? a=some oT)(c:∀h',ZF h' z TI TO (nj a) (.bool true)->Heap.SameBut z s.heap h'->Q false { s with heap:=h' }):a7 (bb prog w) A (Builtin.SmallTypes.ownedTupleIsFree (.ref z)) Q E s:=by unfold Builtin.SmallTypes.ownedTupleIsFree;refine aj (jP hz rfl (x:=nj a) rfl ?_);unfold nj;dsimp only;refine aj (wg ?_);rw[show((a:Int)).toNat=a from rfl,h];dsimp only[Option.isNone];rw[if_neg bR];refine aj (jP hz rfl (x:=b) rfl ?_);rcases g with rfl|rfl;rw[if_neg #v[1]];exact aM (c s.heap hz ⟨rfl,λ_ _=>rfl⟩);rw[if_pos #v[1]];refine aj (rh hz #v[0] λh' d f=>aM (c h' d f))
abbrev ZL:=a5 (ao×ao×Array ak)
def ZL.at(L:ZL)(h:cY)(k:Nat):Prop:=∀t∈L,h.IsListIter t.1 t.2.1 k/\h.IsList t.2.1 t.2.2
def ZL.apart:ZL->Prop
|[]=>True
|t::r=>(∀u∈r,t.1≠u.1/\t.1≠u.2.1)/\ZL.apart r
def ZL.vals:ZL->Nat->a5 ak->Prop
|[],_,vs=>vs=[]
|t::r,k,vs=>∃v ws,vs=v::ws/\t.2.2[k]? = some v/\ZL.vals r k ws
theorem ZL.xl{L:ZL}{h h':cY}{k:Nat}(a:L.at h k)(hk:∀t∈L,∀o,(h.get? t.1=some o->h'.get? t.1=some o)/\(h.get? t.2.1=some o->h'.get? t.2.1=some o)):L.at h' k:=λt b=>⟨(a t b).1.at λo e=>(hk t b o).1 e,(a t b).2.at λo e=>(hk t b o).2 e⟩
theorem NC{f:ak->Option lx×Array ak->Sem (ForInStep (Option lx×Array ak))}{g:ak->Array ak->Sem (ForInStep (Option lx×Array ak))}(m:∀i items,f i (none,items)=(kF items.toList (Builtin.SmallTypes.nextOf i >>= λx=>pure (some x)) >>= λo=>match o with|some x=>pure (ForInStep.yield (none,items.push x))|none=>g i items)):
  ∀(L:ZL)(items:Array ak)(s:aB)(k:Nat)(vs:a5 ak)(Q:Option lx×Array ak->aB->Prop),L.at s.heap k->L.apart->L.vals k vs →
   (∀h',(∀c o,(∀t∈L,c≠t.1)->s.heap.get? c=some o->h'.get? c=some o)->h'.objs.size=s.heap.objs.size->(∀t∈L,h'.IsListIter t.1 t.2.1 (k+1))->Q (none,items++vs.toArray) { s with heap:=h' }) →
   a7 (bb prog w) A (forIn (L.map λt=>Value.ref t.1) (none,items) f) Q E s
|[],items,s,k,vs,Q,_,_,j,h=>by have e:vs=[]:=j;subst e;simp only[iU,vf];exact aM (by simpa using h s.heap (λ_ _ _ e=>e) rfl λt F=>nomatch F)
|t::L,items,s,k,vs,Q,p,d,j,h=>by
  obtain⟨v,ws,rfl,D,C⟩:=j;simp only[a9,tL];rw[m];have r:=p t (.head _);refine aj (aj (eo (aj (UA r.1 r.2 D λH B b=>aM ?_))));refine aM (NC m L _ _ k ws _ (ZL.xl (λu a=>p u (.tail _ a)) λu a o=>⟨λe=>b.extBut _ _ (d.1 u a).1.symm e,λe=>b.extBut _ _ (d.1 u a).2.symm e⟩) d.2 C λG l y z=>?_);have:=h G (λc o n e=>l c o (λu a=>n u (.tail _ a)) (b.extBut _ _ (n t (.head _)) e)) (by rw[y];exact b.1) λu a=>by rcases aq.mp a with e|e;rw[e];exact B.at λo q=>l _ o (λu a=>(d.1 u a).1) q;exact z u e
  have e:items.push v++ws.toArray=items++(v::ws).toArray:=by apply Array.ext';simp
  rw[e];exact this
structure GV (z TI TO:ao) (L:ZL):Prop where
 a1:TI≠z
 a2:TO≠z
 a3:TI≠TO
 bK:∀t∈L,t.1≠z/\t.1≠TI/\t.1≠TO/\t.2.1≠z/\t.2.1≠TO
 ap:L.apart
 ne:L≠[]
theorem QQ{z TI TO h:ao}{L:ZL}{k:Nat}{vs:a5 ak}{f:ak}{oT:Obj}{Q:ak->aB->Prop}(D:GV z TI TO L)(hz:ZF s.heap z TI TO (nj h) f)(u:f=.bool true\/f=.bool false)(F:s.heap.get? h=some oT)(C:TupAt s.heap TI (L.map λt=>.ref t.1))(B:L.at s.heap k)(p:L.vals k vs)(q:vs.length<=aQ)(G:∀h',ZF h' z TI TO (nj h) (.bool true)->(∀t∈L,h'.IsListIter t.1 t.2.1 (k+1))->TupAt h' s.heap.objs.size vs->h'.objs.size=s.heap.objs.size+1 →
   (∀c o,c≠z->(∀t∈L,c≠t.1)->s.heap.get? c=some o->h'.get? c=some o)->Q (.ref s.heap.objs.size) { s with heap:=h' }):
  a7 (bb prog w) A (Builtin.«zip.__next__» ⟨[.ref z],[]⟩) (λfin l=>∃v,fin=.done (.ret v)/\Q v l) E s:=by
 show a7 (bb prog w) A (field (.ref z) 2 >>= _) _ E s;refine aj (jP hz rfl (x:=.bool false) rfl ?_);show a7 (bb prog w) A (field (.ref z) 3 >>= _) _ E s;refine aj (jP hz rfl (x:=.ref TI) rfl (aj (gU C rfl ?_)));have y:(L.map λt=>Value.ref t.1).toArray.isEmpty=false:=by
  cases H:L with
 |nil=>exact absurd H D.ne
 |cons t r=>rfl
 dsimp only;rw[y];show a7 (bb prog w) A (Builtin.SmallTypes.ownedTupleIsFree (.ref z) >>= _) _ E s;refine aj (M4 hz u F λM n b=>?_);rw[if_neg bR];refine aj ?_;rw[xN];refine NC (g:=_) (λK items=>rfl) L #[] _ k vs _ (ZL.xl B λt a o=>⟨λe=>b.extBut _ _ (D.bK t a).1 e,λe=>b.extBut _ _ (D.bK t a).2.2.2.1 e⟩) D.ap p λd i j m=>?_;dsimp only;refine aj (Mu (aM ⟨_,rfl,?_⟩) #v[q]);have hsz:d.objs.size=s.heap.objs.size:=by rw[j];exact b.1
 show Q (.ref d.objs.size) _;rw[hsz];have up:∀c o,c≠z->(∀t∈L,c≠t.1)->s.heap.get? c=some o->(d.push { cls:=.type "tuple",data:=.seq (#[]++vs.toArray).toList.toArray }).get? c=some o:=λc o J I e=>Heap.get?_push_of_some _ (i c o I (b.extBut _ _ J e));refine G _ (Heap.get?_push_of_some _ (i _ _ (λt a=>(D.bK t a).1.symm) n)) (λt a=>(m t a).at λo e=>Heap.get?_push_of_some _ e) ?_ (by rw[ij,hsz]) up;rw[<- hsz];have e:(#[]++vs.toArray).toList.toArray=vs.toArray:=#v[0]
 rw[e];exact Heap.get?_push_size _ rfl
theorem QP{z TI TO h:ao}{L:ZL}{k:Nat}{d:ak}{oT:Obj}{Q:lx->aB->Prop}(j:A.handled=none)(D:GV z TI TO L)(hz:ZF s.heap z TI TO (nj h) d)(l:d=.bool true\/d=.bool false)(v:s.heap.get? h=some oT)(u:TupAt s.heap TI (L.map λt=>.ref t.1))(p:L.at s.heap k)(m:∀t∈L,t.2.2[k]? = none)(y:∀h' e,(∀c o,c≠z->(∀t∈L,c≠t.1)->s.heap.get? c=some o->h'.get? c=some o)->(∃o,h'.get? e=some o/\o.cls=.type "StopIteration")->E (.ref e) { s with heap:=h' }):
  a7 (bb prog w) A (Builtin.«zip.__next__» ⟨[.ref z],[]⟩) Q E s:=by
 show a7 (bb prog w) A (field (.ref z) 2 >>= _) _ E s;refine aj (jP hz rfl (x:=.bool false) rfl ?_);show a7 (bb prog w) A (field (.ref z) 3 >>= _) _ E s;refine aj (jP hz rfl (x:=.ref TI) rfl (aj (gU u rfl ?_)));cases f:L with
|nil=>exact absurd f D.ne
|cons t r=>
  have a:t∈L:=by rw[f];exact .head _
  show a7 (bb prog w) A (Builtin.SmallTypes.ownedTupleIsFree (.ref z) >>= _) _ E s;refine aj (M4 hz l v λH G b=>?_);rw[if_neg bR];refine aj ?_;rw[xN,a9,tL];have g:=p t a;refine aj (aj (eo ?_));show a7 (bb prog w) A (Builtin.SmallTypes.nextOf (.ref t.1) >>= _) _ E _;refine aj (wpAny_nextOf_list_end j (g.1.extBut b.extBut (D.bK t a).1) (g.2.extBut b.extBut (D.bK t a).2.2.2.1) (m t a) λB e i n=>?_);exact y B e (λc o F C q=>i _ _ (C t a) (b.extBut _ _ F q)) n
theorem EI{TO:ao}{f:ak×Nat->Option lx×Unit->Sem (ForInStep (Option lx×Unit))}(D:∀C j Q s,a7 (bb prog w) A (Builtin.SmallTypes.nextOf C) (λx n=>∃m:a5 ak,m.length<=aQ/\TupAt n.heap TO m/\∀h',TupAt h' TO (m.set j x)->Heap.SameBut TO n.heap h'->Q (ForInStep.yield (none,())) { n with heap:=h' }) (λ_ _=>False) s →
   a7 (bb prog w) A (f (C,j) (none,())) Q E s):
  ∀(L:ZL)(j:Nat)(b us:a5 ak)(s:aB)(k:Nat)(vs:a5 ak)(Q:Option lx×Unit->aB->Prop),L.at s.heap k->L.apart->(∀t∈L,t.1≠TO/\t.2.1≠TO)->L.vals k vs->b.length=j->us.length=L.length->b.length+us.length<=aQ->TupAt s.heap TO (b++us) →
   (∀h',(∀c o,c≠TO->(∀t∈L,c≠t.1)->s.heap.get? c=some o->h'.get? c=some o)->h'.objs.size=s.heap.objs.size->(∀t∈L,h'.IsListIter t.1 t.2.1 (k+1))->TupAt h' TO (b++vs)->Q (none,()) { s with heap:=h' }) →
   a7 (bb prog w) A (forIn ((L.map λt=>Value.ref t.1).zipIdx j) (none,()) f) Q E s
|[],j,b,us,s,k,vs,Q,_,_,_,r,hj,a,y,z,h=>by have e:vs=[]:=r;subst e;have e:us=[]:=jh.mp a;subst e;simp only[iU,List.zipIdx_nil,vf];exact aM (h s.heap (λ_ _ _ _ e=>e) rfl (λt R=>nomatch R) z)
|t::L,j,b,us,s,k,vs,Q,G,i,l,r,hj,a,y,z,h=>by
  obtain⟨v,ws,rfl,P,O⟩:=r;cases us with
 |nil=>cases a
 |cons u us=>
  simp only[a9,List.zipIdx_cons,tL];have I:=G t (.head _);have p:=l t (.head _);refine aj (D _ _ _ _ (UA I.1 I.2 P λV N g=>⟨b++u::us,by simpa using y,g.extBut _ _ p.1.symm z,λU H d=>?_⟩));have e:(b++u::us).set j v=(b++[v])++us:=by subst hj;simp
  rw[e]at H;refine EI D L (j+1) (b++[v]) us _ k ws _ (ZL.xl (λu a=>G u (.tail _ a)) λu a o=>⟨λe=>d.extBut _ _ (l u (.tail _ a)).1 (g.extBut _ _ (i.1 u a).1.symm e),λe=>d.extBut _ _ (l u (.tail _ a)).2 (g.extBut _ _ (i.1 u a).2.symm e)⟩) i.2 (λu a=>l u (.tail _ a)) O (by simp[hj]) #v[a] (by simp at y⊢;lia) H λT B K M S=>?_;refine h T (λc o J F e=>B c o J (λu a=>F u (.tail _ a)) (d.extBut _ _ J (g.extBut _ _ (F t (.head _)) e))) (by rw[K];exact d.1.trans g.1) (λu a=>?_) #v[S];rcases aq.mp a with e|e;rw[e];exact N.at λo q=>B _ o p.1 (λu a=>(i.1 u a).1) (d.extBut _ _ p.1 q);exact M u e
theorem N6{z TI TO:ao}{L:ZL}{k:Nat}{vs us:a5 ak}{Q:ak->aB->Prop}(D:GV z TI TO L)(hz:ZF s.heap z TI TO .none (.bool false))(T:TupAt s.heap TI (L.map λt=>.ref t.1))(S:TupAt s.heap TO us)(N:us.length=L.length)(M:us.length<=aQ)(R:L.at s.heap k)(K:L.vals k vs)(O:vs.length<=aQ)(V:∀h',ZF h' z TI TO (nj s.heap.objs.size) (.bool false)->(∀t∈L,h'.IsListIter t.1 t.2.1 (k+1))->TupAt h' s.heap.objs.size vs->h'.objs.size=s.heap.objs.size+1 →
   (∀c o,c≠z->c≠TO->(∀t∈L,c≠t.1)->s.heap.get? c=some o->h'.get? c=some o)->Q (.ref s.heap.objs.size) { s with heap:=h' }):
  a7 (bb prog w) A (Builtin.«zip.__next__» ⟨[.ref z],[]⟩) (λfin i=>∃v,fin=.done (.ret v)/\Q v i) E s:=by
 show a7 (bb prog w) A (field (.ref z) 2 >>= _) _ E s;refine aj (jP hz rfl (x:=.bool false) rfl ?_);show a7 (bb prog w) A (field (.ref z) 3 >>= _) _ E s;refine aj (jP hz rfl (x:=.ref TI) rfl (aj (gU T rfl ?_)));have P:(L.map λt=>Value.ref t.1).toArray.isEmpty=false:=by
  cases W:L with
 |nil=>exact absurd W D.ne
 |cons t r=>rfl
 dsimp only;rw[P];show a7 (bb prog w) A (Builtin.SmallTypes.ownedTupleIsFree (.ref z) >>= _) _ E s;unfold Builtin.SmallTypes.ownedTupleIsFree;refine aj (aj (jP hz rfl (x:=.none) rfl (aM ?_)));rw[if_pos rfl];refine aj (Mt (aj (jP hz rfl (x:=.ref TO) rfl ?_)));refine aj (rh hz #v[0] λh1 H d=>?_);refine aj ?_;refine EI (TO:=TO) (λC j Q' i J=>?_) L 0 [] us _ k vs _ (ZL.xl R λt a o=>⟨λe=>d.extBut _ _ (D.bK t a).1 e,λe=>d.extBut _ _ (D.bK t a).2.2.2.1 e⟩) D.ap (λt a=>⟨(D.bK t a).2.2.1,(D.bK t a).2.2.2.2⟩) K rfl N #v[M] (d.extBut _ _ D.a2 S) λb n B F U=>?_;refine aj (wpAny_onRaise ?_);show a7 (bb prog w) A (Builtin.SmallTypes.nextOf C >>= _) _ _ i;refine aj (d9 J (λx s1 ⟨ys,I,m,q⟩=>aM ?_) λ_ _ z=>z.elim);refine aj (gU m rfl ?_);refine aj (fb m rfl ?_ #v[I] (by simp;lia));refine aj (mN (aM (q _ ?_ (Heap.SameBut.update ..))));refine(Heap.get?_update_self (Obj.mapSeq _) m rfl).trans ?_;simp[Obj.mapSeq];dsimp only;refine aj (gU U rfl (aj (Mu ?_ #v[O])));have hsz:b.objs.size=s.heap.objs.size:=by rw[B];exact d.1
 have u:ZF b z TI TO .ellipsis (.bool false):=n _ _ D.a2.symm (λt a=>(D.bK t a).1.symm) H;have p:z<b.objs.size:=Heap.lt_size u;show a7 (bb prog w) A (Builtin.SmallTypes.ownedTupleHandOut (.ref z) (.ref b.objs.size) >>= _) _ E _;refine aj ?_;unfold Builtin.SmallTypes.ownedTupleHandOut;have hz2':ZF (b.push { cls:=.type "tuple",data:=.seq (([]++vs).toArray.toList).toArray }) z TI TO .ellipsis (.bool false):=Heap.get?_push_of_some _ u;refine aj (rh hz2' #v[0] λX l h=>?_);replace l:ZF X z TI TO (nj b.objs.size) (.bool false):=l;refine rh l #v[0] λy G g=>aM ⟨_,rfl,?_⟩;rw[hsz];have up:∀c o,c≠z->b.get? c=some o->y.get? c=some o:=λc o f e=>g.extBut _ _ f (h.extBut _ _ f (Heap.get?_push_of_some _ e));refine V y (by rw[<- hsz];exact G) (λt a=>(F t a).at λo e=>up _ o (D.bK t a).1 e) ?_ ?_ λc o f Z Y e=>up c o f (n c o Z Y (d.extBut _ _ f e));rw[<- hsz];exact g.extBut _ _ (cX p) (h.extBut _ _ (cX p) (Heap.get?_push_size _ rfl));rw[g.1,h.1,ij,hsz]
end
section
variable{prog:bC}{w:cu}{A:bT}{E:ak->aB->Prop}{s:aB}{R:Hc->aB->Prop}{z TI TO S:ao}{L:ZL}{n:Nat}
structure DE (z TI TO S:ao) (L:ZL) (n:Nat):Prop where
 d:GV z TI TO L
 z:z<S
 ti:TI<S
 to:TO<S
 bK:∀t∈L,t.1<S/\t.2.1<S/\t.2.2.size=n
 few:L.length<=3
def ZS(z TI TO S:ao)(L:ZL)(i:Nat)(h:cY):Prop:=TupAt h TI (L.map λt=>.ref t.1)/\L.at h i ∧
 ((i=0/\ZF h z TI TO .none (.bool false)/\∃us,TupAt h TO us/\us.length=L.length)\/(0<i/\∃(b:ao)(a:ak)(o:Obj),ZF h z TI TO (nj b) a/\(a=.bool true\/a=.bool false)/\h.get? b=some o/\S<b))
def ZP(S:ao)(L:ZL)(h:cY)(j:Nat)(v:ak):Prop:=∃T vs,v=.ref T/\S<T/\L.vals j vs/\TupAt h T vs
theorem ZL.MB:∀(L:ZL)(i:Nat),(∀t∈L,i<t.2.2.size)->∃vs,L.vals i vs/\vs.length=L.length
|[],i,_=>⟨[],rfl,rfl⟩
|t::L,i,h=>by obtain⟨vs,c,b⟩:=MB L i λu a=>h u (.tail _ a);exact⟨_::vs,⟨_,vs,rfl,dN (h t (.head _)),c⟩,by simp[b]⟩
theorem Sj(hh:A.handled=none)(y:DE z TI TO S L n){i:Nat}(hi:i<n)(st:ZS z TI TO S L i s.heap)(C:S<s.heap.objs.size){Q:Option ak->aB->Prop}(M:∀h',ZP S L h' i (.ref s.heap.objs.size)->ZS z TI TO S L (i+1) h'->(∀c o,S<=c->s.heap.get? c=some o->h'.get? c=some o)->(∀c o,c≠z->c≠TO->(∀t∈L,c≠t.1)->s.heap.get? c=some o->h'.get? c=some o)->Q (some (.ref s.heap.objs.size)) { s with heap:=h' }):
  a7 (bb prog w) A (nt (.ref z)) Q E s:=by
 obtain⟨x,f,st⟩:=st;obtain⟨vs,j,aa⟩:=L.MB i λt a=>by rw[(y.bK t a).2.2];exact hi
 have ad:=y.few;have H:vs.length<=aQ:=by rw[ee];lia
 have D:∀h':cY,(∀c o,c≠z->c≠TO->(∀t∈L,c≠t.1)->s.heap.get? c=some o->h'.get? c=some o)->(∀c o,S<=c->s.heap.get? c=some o->h'.get? c=some o):=λh' k c o d e=>k c o (cX (aR y.z d)) (cX (aR y.to d)) (λt a=>cX (aR (y.bK t a).1 d)) e
 have nx:∀{h':cY},(∀t∈L,h'.IsListIter t.1 t.2.1 (i+1))->(∀c o,c≠z->c≠TO->(∀t∈L,c≠t.1)->s.heap.get? c=some o->h'.get? c=some o)->(∀t∈L,∀u∈L,t.2.1≠u.1)->TupAt h' TI (L.map λt=>.ref t.1)/\L.at h' (i+1):=λ{h'} P k ap=>⟨k _ _ y.d.a1 y.d.a3 (λt a=>(y.d.bK t a).2.1.symm) x,λt a=>⟨P t a,(f t a).2.at λo e=>k _ o (y.d.bK t a).2.2.2.1 (y.d.bK t a).2.2.2.2 (ap t a) e⟩⟩
 have ap:∀t∈L,∀u∈L,t.2.1≠u.1:=λt a u T e=>by obtain⟨o,U,d,_⟩:=(f u T).1;obtain⟨Z,G,I,_⟩:=(f t a).2;rw[e,U]at G;cases G;rw[d]at I;exact absurd I #v[1]
 have K:s.TypeIs (.ref z) "zip":=by rcases st with⟨_,q,_⟩|⟨_,Y,X,o,q,_⟩<;>exact⟨_,q,rfl⟩
 unfold nt;refine aj (tN (mO (name:=Str.ofString "__next__") K F.slot_zip_next (lp F.slot_zip_next K F.entry_zip_next ?_ (F.args_zip_next_1 _))));rcases st with⟨rfl,hz,us,W,R⟩|⟨ab,Y,X,o,hz,V,J,B⟩;refine N6 y.d hz x W R (by rw[ee];lia) f j H λh' v r l O b=>aM (M h' ⟨_,vs,rfl,C,j,l⟩ ?_ (D h' b) b);obtain⟨p,m⟩:=nx r b ap;exact⟨p,m,.inr ⟨Nat.succ_pos _,_,_,_,v,.inr rfl,l,C⟩⟩;refine QQ y.d hz V J x f j H λh' v r l O b=>aM (M h' ⟨_,vs,rfl,C,j,l⟩ ?_ (D h' λc o h N g=>b c o h g) λc o h N g=>b c o h g);obtain⟨p,m⟩:=nx r (λc o h N g=>b c o h g) ap;exact⟨p,m,.inr ⟨Nat.succ_pos _,_,_,_,v,.inl rfl,b _ _ (cX (mH y.z B)) (λt a=>cX (mH (y.bK t a).1 B)) J,B⟩⟩
theorem WN(h:A.handled=none)(y:DE z TI TO S L n)(g:0<n)(st:ZS z TI TO S L n s.heap){Q:Option ak->aB->Prop}(r:∀h',(∀c o,c≠z->c≠TO->(∀t∈L,c≠t.1)->s.heap.get? c=some o->h'.get? c=some o)->Q none { s with heap:=h' }):
  a7 (bb prog w) A (nt (.ref z)) Q E s:=by obtain⟨p,m,st⟩:=st;rcases st with⟨rfl,_⟩|⟨x,G,C,o,hz,i,q,B⟩;exact absurd g (eQ _);have a:s.TypeIs (.ref z) "zip":=⟨_,hz,rfl⟩;unfold nt;refine aj (tN (mO (name:=Str.ofString "__next__") a F.slot_zip_next (lp F.slot_zip_next a F.entry_zip_next (QP h y.d hz i q p m (λt d=>?_) λh' e k j=>?_) (F.args_zip_next_1 _))));exact Kg (by rw[(y.bK t d).2.2];exact aS _);obtain⟨o,f,l⟩:=j;exact aj (Hb (T:="StopIteration") (b:=true) ⟨o,f,l⟩ isSubtype_stop (aM (r _ λc o v D u=>k c o v u)))
theorem ZS.keep{i:Nat}{h h':cY}(y:DE z TI TO S L n)(st:ZS z TI TO S L i h)(k:∀c o,c≠S->h.get? c=some o->h'.get? c=some o):ZS z TI TO S L i h':=by obtain⟨p,l,st⟩:=st;have a:∀{c},c<S->c≠S:=bQ;refine⟨k _ _ (a y.ti) p,ZL.xl l λt b o=>⟨λe=>k _ _ (a (y.bK t b).1) e,λe=>k _ _ (a (y.bK t b).2.1) e⟩,?_⟩;rcases st with⟨rfl,hz,us,m,f⟩|⟨g,s,r,o,hz,j,q,d⟩;exact .inl ⟨rfl,k _ _ (a y.z) hz,us,k _ _ (a y.to) m,f⟩;exact .inr ⟨g,s,r,o,k _ _ (a y.z) hz,j,k _ _ (cX d) q,d⟩
theorem SX(M:A.handled=none)(y:DE z TI TO S L n)(ae:0<n)(hn:n<=aQ)(I:ak):
  ∀(r i:Nat)(s:aB)(acc:Array ak)(c:Nat),n-i=r->i<=n->ZS z TI TO S L i s.heap->s.heap.get? S=some (c9 "list" acc c)->acc.size=i->acc.toList.Nodup->(∀j v,acc[j]? = some v->ZP S L s.heap j v) →
  (∀h' B P,(∀b o,b≠S->b≠z->b≠TO->(∀t∈L,b≠t.1)->s.heap.get? b=some o->h'.get? b=some o)->h'.get? S=some (c9 "list" B P)->B.size=n->B.toList.Nodup->(∀j v,B[j]? = some v->ZP S L h' j v)->R (.ok (.ret I)) { s with heap:=h' }) →
  oO (bb prog w) A (.builtin "list.extend.loop" ⟨[.ref S,.ref z,I],[]⟩) R s:=by
 have C:∀{h h':cY}{j:Nat}{v:ak},ZP S L h j v->(∀c o,S<c->h.get? c=some o->h'.get? c=some o)->ZP S L h' j v:=λ⟨T,vs,e,l,q,t⟩ k=>⟨T,vs,e,l,q,k _ _ l t⟩;intro r
 induction r with
|zero=>
  intro i s acc c hr hi st m g G f H;have e:i=n:=#v[]
  refine pP F.entry_extend_loop ?_;rw[Around.under_plainId F.plain_extend_loop _];show a7 (bb prog w) A.in1 (nt (.ref z) >>= _) _ _ s;rw[e]at st;refine aj (WN (A:=A.in1) M y ae st λh' k=>aM (H h' acc c (λb o _ x b2 u q=>k b o x b2 u q) ?_ (g.trans e) G λj v q=>C (f j v q) λP o d=>?_));exact k _ _ (cX y.z) (cX y.to) (λt E=>cX (y.bK t E).1) m;exact k _ _ (cX (mH y.z d)) (cX (mH y.to d)) λt E=>cX (mH (y.bK t E).1 d)
|succ r Y=>intro i s acc c hr hi st m g G f H;refine pP F.entry_extend_loop ?_;rw[Around.under_plainId F.plain_extend_loop _];show a7 (bb prog w) A.in1 (nt (.ref z) >>= _) _ _ s;refine aj (Sj (A:=A.in1) M y #v[] st (Heap.lt_size m) λp K V J X=>?_);generalize aa:Value.ref s.heap.objs.size=v at K⊢;have N:=J S _ (aS _) m;have D:=Heap.SameBut.update p S (Obj.mapSeq (·.push v));have ag:(p.update S (Obj.mapSeq (·.push v))).get? S=some (c9 "list" (acc.push v) _):=Heap.get?_update_self (Obj.mapSeq (·.push v)) N rfl;show a7 (bb prog w) A.in1 (oK S (·.push v) >>= _) _ _ _;refine aj (fb N rfl (aM ⟨km F.plain_extend_loop _,Y (i+1) _ _ _ #v[] #v[] (ZS.keep y V λc o d e=>(D.2 c d).trans e) ag (by simp[g]) ?_ (λj U hj=>?_) λh2 ao c2 W af Z ad ac=>?_⟩) #v[] (by simp;lia));rw[Array.toList_push,eC];refine⟨G,#v[0],λa hA b hB e=>?_⟩;obtain rfl:=bA.mp hB;subst e;obtain⟨j,hj⟩:=dB.mp hA;obtain⟨T,vs,O,_,_,e2⟩:=f j a #v[hj];rw[<- aa]at O;cases O;exact absurd (Heap.lt_size e2) (eQ _);have up:∀c o,S<c->p.get? c=some o->(p.update S (Obj.mapSeq (·.push v))).get? c=some o:=λc o d e=>(D.2 c (cX d)).trans e;rw[Array.getElem?_push]at hj;split at hj;rename_i q;obtain rfl:=aH hj;rw[q,g];exact C K up;exact C (f j U hj) λc o d e=>up c o d (J c o (mI d) e);exact H h2 ao c2 (λb o Q x b2 u e=>W b o Q x b2 u ((D.2 b Q).trans (X b o x b2 u e))) af Z ad ac
end
theorem Kw:vW (.type "zip") "__len__" = pure none:=by rw[wb,n8];kernel_rfl
theorem Ht:vW (.type "zip") "__length_hint__" = pure none:=by rw[wb,n8];kernel_rfl
section
variable{prog:bC}{w:cu}{A:bT}{E:ak->aB->Prop}{s:aB}{R:Hc->aB->Prop}{z TI TO S:ao}{L:ZL}{n:Nat}
theorem WK(E:A.handled=none)(y:DE z TI TO S L n)(C:0<n)(D:n<=aQ)(g:ak){O:Nat}(st:ZS z TI TO S L 0 s.heap)(l:s.heap.get? S=some (c9 "list" #[] O))(I:∀h' c a,(∀b o,b≠S->b≠z->b≠TO->(∀t∈L,b≠t.1)->s.heap.get? b=some o->h'.get? b=some o)->h'.get? S=some (c9 "list" c a)->c.size=n->c.toList.Nodup->(∀j v,c[j]? = some v->ZP S L h' j v)->R (.ok (.ret g)) { s with heap:=h' }):
  a7 (bb prog w) A.in1 (Builtin.List.listExtendWith (.ref S) (.ref z) g)
   (λfin d=>match fin with|.done f=>R (.ok f) d|.again a=>a.quiet=true/\oO (bb prog w) A a R d) (λe d=>R (.error e) d) s:=by
 have hz:ZF s.heap z TI TO .none (.bool false):=by rcases st.2.2 with⟨_,q,_⟩|⟨q,_⟩;exact q;exact absurd q (eQ _)
 have h:s.TypeIs (.ref z) "zip":=⟨_,hz,rfl⟩;have H:S≠z:=cX y.z;have N:Builtin.List.listSameRef (.ref S) (.ref z)=false:=by simp[Builtin.List.listSameRef,H]
 have M:(Value.type "zip" == Value.type "list")=false:=#v[1]
 have K:(Value.type "zip" == Value.type "tuple")=false:=#v[1]
 unfold Builtin.List.listExtendWith;refine aj (Ux h ?_);simp only[N,M,K,Bool.or_false,gd,if_false];refine aj (Ha hz (aj (eo ?_)));unfold Builtin.List.listLengthHint;refine aj (pL h Kw ?_);show a7 (bb prog w) A.in1 (specialOf (.ref z) (Str.ofString "__length_hint__") >>= _) _ _ s;refine aj (pL h Ht (aM ?_));refine pM (λ_=>?_) λG=>absurd rfl G;refine aj (Mt (aj ?_));show a7 (bb prog w) A.in1 (oK S (·.push .none) >>= λ_=>oK S (·.pop)) _ _ s;have m:=Heap.get?_update_self (Obj.mapSeq (·.push Value.none)) l rfl;have J:=Heap.get?_update_self (Obj.mapSeq (·.pop)) m rfl;refine aj (fb l rfl (fb (hz:=by seq_fits) m rfl (aM ⟨km F.plain_extend_loop _,?_⟩)));have kp:∀b o,b≠S->s.heap.get? b=some o->((s.heap.update S (Obj.mapSeq (·.push Value.none))).update S (Obj.mapSeq (·.pop))).get? b=some o:=λb o i e=>(Heap.get?_update_other _ _ i.symm).trans ((Heap.get?_update_other _ _ i.symm).trans e);exact SX E y C D g n 0 _ #[] _ rfl (d4 _) (st.keep y kp) J rfl #v[0] (λj v q=>by simp at q) λh' c a k B x r u=>I h' c a (λb o p Q b2 P e=>k b o p Q b2 P (kp b o p e)) B x r u
theorem Jh{Q:ak->aB->Prop}(x:A.handled=none)(y:DE z TI TO s.heap.objs.size L n)(r:0<n)(u:n<=aQ)(st:ZS z TI TO s.heap.objs.size L 0 s.heap)(B:∀h' a f,(∀b o,b≠z->b≠TO->(∀t∈L,b≠t.1)->s.heap.get? b=some o->h'.get? b=some o)->h'.get? s.heap.objs.size=some (c9 "list" a f)->a.size=n->a.toList.Nodup->(∀j v,a[j]? = some v->ZP s.heap.objs.size L h' j v)->Q (.ref s.heap.objs.size) { s with heap:=h' }):
  a7 (bb prog w) A (call (.type "list") [.ref z]) Q E s:=by refine callType_codes (Q₁:=λobj h=>obj=.ref s.heap.objs.size/\h={ s with heap:=s.heap.push { cls:=.type "list",data:=.seq #[] } }) F.called_list (F.typeCall_list_1 _) F.entry_list_init (code_list_new _ ⟨rfl,rfl⟩) λobj I C=>?_;obtain⟨rfl,rfl⟩:=C;have d:(s.heap.push { cls:=.type "list",data:=.seq #[] }).get? s.heap.objs.size=some { cls:=.type "list",data:=.seq #[] }:=Heap.get?_push_size _ rfl;refine⟨⟨_,d,rfl⟩,F.args_list_init_2 _ _,?_⟩;have g:∀{b:ao}{o:Obj},s.heap.get? b=some o->b≠s.heap.objs.size:=λe=>bQ (Heap.lt_size e);have D:=Heap.get?_update_self (Obj.mapSeq λ_=>(#[]:Array ak)) d rfl;have kp:∀b o,s.heap.get? b=some o->((s.heap.push { cls:=.type "list",data:=.seq #[] }).update s.heap.objs.size (Obj.mapSeq λ_=>(#[]:Array ak))).get? b=some o:=λb o e=>(Heap.get?_update_other _ _ (g e).symm).trans (Heap.get?_push_of_some _ e);show a7 (bb prog w) A.in1.in1 (Builtin.List.listItems (.ref s.heap.objs.size) >>= λq=>Builtin.List.listUpdate (.ref s.heap.objs.size) (λ_=>#[]) >>= λ_=>letGo q.toList.reverse >>= λ_=>Builtin.List.listExtendWith (.ref s.heap.objs.size) (.ref z) .none) _ _ _;unfold Builtin.List.listItems;refine aj (aj (gU d rfl (aM ?_)));show a7 (bb prog w) A.in1.in1 (oK s.heap.objs.size (λ_=>#[]) >>= _) _ _ _;refine aj (fb d rfl (aj (mN ?_)));refine WK (A:=A.in1) x y r u .none (ZS.keep y st λc o _ e=>kp c o e) D λh' a f k p m i l=>⟨rfl,B h' a f (λb o H b2 G e=>k b o (g e) H b2 G (kp b o e)) p m i l⟩
end
section
theorem A7(a b c:ak):checkTypeCall "zip" ⟨[a,b,c],[]⟩=pure ():=by kernel_rfl
theorem Dk(a b c:ak):checkBuiltinCall "zip.__new__" ⟨[.type "zip",a,b,c],[]⟩=pure ():=by kernel_rfl
theorem JS(a b c d:ak):argsOk "object.__init__" ⟨[a,b,c,d],[]⟩:=by
 unfold argsOk;rw[signature?_of (id:="object.__init__") (n:=['_','_','t','i','n','i','_','_']) (o:=['t','c','e','j','b','o']) (by kernel_rfl) F.owner_object]
 kernel_rfl
abbrev Lx(l:ao):Obj:={ cls:=.type "list_iterator",data:=.fields #[.ref l,.int 0 0] }
abbrev Zm(xs:Array ak):Obj:={ cls:=.type "tuple",data:=.seq xs }
abbrev zpO(TI TO:ao):Obj:={ cls:=.type "zip",data:=.fields #[.none,.bool false,.bool false,.ref TI,.ref TO] }
abbrev UW(h:cY)(l1 l2 l3:ao):cY:=(((((h.push (Lx l1)).push (Lx l2)).push (Lx l3)).push (Zm #[.ref h.objs.size,.ref (h.objs.size+1),.ref (h.objs.size+2)])).push (Zm #[.none,.none,.none])).push (zpO (h.objs.size+3) (h.objs.size+4))
theorem Lo(l1 l2 l3:ao)(xs c b:Array ak):
  Meets (Builtin.«zip.__new__» ⟨[.type "zip",.ref l1,.ref l2,.ref l3],[]⟩) (λ_ R s=>s.heap.IsList l1 xs/\s.heap.IsList l2 c/\s.heap.IsList l3 b/\R (.ok (.ret (.ref (s.heap.objs.size+5)))) { s with heap:=UW s.heap l1 l2 l3 }):=
 .of_wp λprog w A R s h=>by
  obtain⟨a,g,d,tk,os⟩:=s;obtain⟨l,b2,k,h⟩:=h;have m:=sub_zip;have j:Heap.IsList (Shared.heap ⟨a,g,d,tk,os⟩) l1 xs:=l;have i:Heap.IsList (Shared.heap ⟨a.push (Lx l1),g,d,tk,os⟩) l2 c:=Heap.IsList.push b2 _;have f:Heap.IsList (Shared.heap ⟨(a.push (Lx l1)).push (Lx l2),g,d,tk,os⟩) l3 b:=Heap.IsList.push (Heap.IsList.push k _) _
  wp_walk using nh j,nh i,nh f
  refine⟨_,rfl,?_⟩;simp only[Heap.size_push];exact h
theorem AL{a b:Nat}(h:a≠b):@Ne ao a b:=h
theorem Kk{a b:Nat}(h:a<b):@LT.lt ao instLTNat a b:=h
theorem abC{n l1 l2 l3 N:Nat}{xs c b:Array ak}(k:l1<n)(j:l2<n)(i:l3<n)(h:xs.size=c.size)(g:xs.size=b.size)(f:N=n+6):DE (n+5) (n+3) (n+4) N [(n,l1,xs),(n+1,l2,c),(n+2,l3,b)] xs.size:=by subst f;refine⟨⟨AL #v[],AL #v[],AL #v[],?_,?_,#v[0]⟩,Kk #v[],Kk #v[],Kk #v[],?_,#v[0]⟩;intro t a;simp only[aq,bF,or_false]at a;rcases a with rfl|rfl|rfl<;>(dsimp only;exact⟨AL #v[],AL #v[],AL #v[],AL #v[],AL #v[]⟩);simp only[ZL.apart,aq,bF,or_false,forall_eq_or_imp,forall_eq,and_true];refine⟨⟨⟨AL #v[],AL #v[]⟩,AL #v[],AL #v[]⟩,⟨AL #v[],AL #v[]⟩,?_⟩;intro u d;cases d;intro t a;simp only[aq,bF,or_false]at a;rcases a with rfl|rfl|rfl;dsimp only;exact⟨Kk #v[],Kk #v[],rfl⟩;dsimp only;exact⟨Kk #v[],Kk #v[],h.symm⟩;dsimp only;exact⟨Kk #v[],Kk #v[],g.symm⟩
theorem abD{n l1 l2 N:Nat}{xs b:Array ak}(h:l1<n)(g:l2<n)(f:xs.size=b.size)(d:N=n+5):DE (n+4) (n+2) (n+3) N [(n,l1,xs),(n+1,l2,b)] xs.size:=by subst d;refine⟨⟨AL #v[],AL #v[],AL #v[],?_,?_,#v[0]⟩,Kk #v[],Kk #v[],Kk #v[],?_,#v[0]⟩;intro t a;simp only[aq,bF,or_false]at a;rcases a with rfl|rfl<;>(dsimp only;exact⟨AL #v[],AL #v[],AL #v[],AL #v[],AL #v[]⟩);simp only[ZL.apart,aq,bF,or_false,forall_eq_or_imp,forall_eq,and_true];refine⟨⟨AL #v[],AL #v[]⟩,?_⟩;intro u c;cases c;intro t a;simp only[aq,bF,or_false]at a;rcases a with rfl|rfl;dsimp only;exact⟨Kk #v[],Kk #v[],rfl⟩;dsimp only;exact⟨Kk #v[],Kk #v[],f.symm⟩
section
variable{prog:bC}{w:cu}{A:bT}{E:ak->aB->Prop}{s:aB}
theorem PZ{l1 l2 l3:ao}{xs d a:Array ak}{Q:ak->aB->Prop}(k:s.heap.IsList l1 xs)(j:s.heap.IsList l2 d)(i:s.heap.IsList l3 a)(N:xs.size=d.size)(M:xs.size=a.size)(h:∀h' L,DE (s.heap.objs.size+5) (s.heap.objs.size+3) (s.heap.objs.size+4) h'.objs.size L xs.size->ZS (s.heap.objs.size+5) (s.heap.objs.size+3) (s.heap.objs.size+4) h'.objs.size L 0 h' →
   L=[(s.heap.objs.size,l1,xs),(s.heap.objs.size+1,l2,d),(s.heap.objs.size+2,l3,a)]->(∀c o,s.heap.get? c=some o->h'.get? c=some o)->s.heap.objs.size<=h'.objs.size->Q (.ref (s.heap.objs.size+5)) { s with heap:=h' }):
  a7 (bb prog w) A (call (.type "zip") [.ref l1,.ref l2,.ref l3]) Q E s:=by
 refine callType_new F.called_zip #v[1] (A7 _ _ _) (Dk _ _ _) (λobj=>JS obj _ _ _) F.entry_zip_new (Lo l1 l2 l3 xs d a) ⟨k,j,i,?_⟩;obtain⟨o1,D,_⟩:=id k;obtain⟨o2,C,_⟩:=id j;obtain⟨o3,B,_⟩:=id i;have z:l1<s.heap.objs.size:=Heap.lt_size D;have y:l2<s.heap.objs.size:=Heap.lt_size C;have v:l3<s.heap.objs.size:=Heap.lt_size B;have kp:∀c o,s.heap.get? c=some o->(UW s.heap l1 l2 l3).get? c=some o:=λc o x=>Heap.get?_push_of_some _ (Heap.get?_push_of_some _ (Heap.get?_push_of_some _ (Heap.get?_push_of_some _ (Heap.get?_push_of_some _ (Heap.get?_push_of_some _ x)))));generalize f:s.heap.objs.size=n at *;have q:(s.heap.push (Lx l1)).objs.size=n+1:=by rw[ij,f]
 have p:((s.heap.push (Lx l1)).push (Lx l2)).objs.size=n+2:=by rw[ij,q]
 have g:(((s.heap.push (Lx l1)).push (Lx l2)).push (Lx l3)).objs.size=n+3:=by rw[ij,p]
 have l:(UW s.heap l1 l2 l3).objs.size=n+6:=by simp only[ij,f]
 have K:(UW s.heap l1 l2 l3).get? n=some (Lx l1):=by rw[<- f];exact Heap.get?_push_of_some _ (Heap.get?_push_of_some _ (Heap.get?_push_of_some _ (Heap.get?_push_of_some _ (Heap.get?_push_of_some _ (Heap.get?_push_size _ rfl)))))
 have J:(UW s.heap l1 l2 l3).get? (n+1)=some (Lx l2):=by rw[<- q];exact Heap.get?_push_of_some _ (Heap.get?_push_of_some _ (Heap.get?_push_of_some _ (Heap.get?_push_of_some _ (Heap.get?_push_size _ rfl))))
 have I:(UW s.heap l1 l2 l3).get? (n+2)=some (Lx l3):=by rw[<- p];exact Heap.get?_push_of_some _ (Heap.get?_push_of_some _ (Heap.get?_push_of_some _ (Heap.get?_push_size _ rfl)))
 have H:(UW s.heap l1 l2 l3).get? (n+3)=some (Zm #[.ref n,.ref (n+1),.ref (n+2)]):=by rw[<- g,<- f];exact Heap.get?_push_of_some _ (Heap.get?_push_of_some _ (Heap.get?_push_size _ rfl))
 have G:(UW s.heap l1 l2 l3).get? (n+4)=some (Zm #[.none,.none,.none]):=by have b:=congrArg (· + 1) g;rw[<- ij _ (Zm #[.ref s.heap.objs.size,.ref (s.heap.objs.size+1),.ref (s.heap.objs.size+2)])]at b;rw[<- show _=n+4 from b];exact Heap.get?_push_of_some _ (Heap.get?_push_size _ rfl)
 have u:(UW s.heap l1 l2 l3).get? (n+5)=some (zpO (n+3) (n+4)):=by have b:=congrArg (· + 1) g;rw[<- ij _ (Zm #[.ref s.heap.objs.size,.ref (s.heap.objs.size+1),.ref (s.heap.objs.size+2)])]at b;have m:=congrArg (· + 1) b;rw[<- ij _ (Zm #[.none,.none,.none])]at m;rw[<- show _=n+5 from m,<- f];exact Heap.get?_push_size _ rfl
 refine⟨⟨_,u,rfl⟩,h _ [(n,l1,xs),(n+1,l2,d),(n+2,l3,a)] (abC z y v N M l) ⟨H,?_,.inl ⟨rfl,u,[.none,.none,.none],G,rfl⟩⟩ rfl kp (by rw[l];exact cq _ _)⟩;intro t r;simp only[aq,bF,or_false]at r;rcases r with rfl|rfl|rfl;exact⟨⟨_,K,rfl,rfl⟩,k.at λo e=>kp _ o e⟩;exact⟨⟨_,J,rfl,rfl⟩,j.at λo e=>kp _ o e⟩;exact⟨⟨_,I,rfl,rfl⟩,i.at λo e=>kp _ o e⟩
theorem P0{l1 l2:ao}{xs a:Array ak}{Q:ak->aB->Prop}(d:s.heap.IsList l1 xs)(b:s.heap.IsList l2 a)(v:xs.size=a.size)(h:∀h' L,DE (s.heap.objs.size+4) (s.heap.objs.size+2) (s.heap.objs.size+3) h'.objs.size L xs.size->ZS (s.heap.objs.size+4) (s.heap.objs.size+2) (s.heap.objs.size+3) h'.objs.size L 0 h' →
   L=[(s.heap.objs.size,l1,xs),(s.heap.objs.size+1,l2,a)]->(∀c o,s.heap.get? c=some o->h'.get? c=some o)->s.heap.objs.size<=h'.objs.size->Q (.ref (s.heap.objs.size+4)) { s with heap:=h' }):
  a7 (bb prog w) A (call (.type "zip") [.ref l1,.ref l2]) Q E s:=by obtain⟨o1,l,_⟩:=id d;obtain⟨o2,k,_⟩:=id b;have j:l1<s.heap.objs.size:=Heap.lt_size l;have i:l2<s.heap.objs.size:=Heap.lt_size k;refine call_zip_2 d b λh' q u r p m f kp=>?_;generalize x:s.heap.objs.size=n at *;refine h _ [(n,l1,xs),(n+1,l2,a)] (abD j i v f) ⟨u,?_,.inl ⟨rfl,q,[.none,.none],r,rfl⟩⟩ rfl kp (by rw[f];exact cq _ _);intro t g;simp only[aq,bF,or_false]at g;rcases g with rfl|rfl;exact⟨p,d.at λo e=>kp _ o e⟩;exact⟨m,b.at λo e=>kp _ o e⟩
end
end
section
variable{X:Cx}{G:Gb}{pins:a5 (ao×Obj)}{σ:L2.St}{H:Hp}{s:aB}
def F7(H:Hp)(b:a5 (a5 V))(Q:VK):Prop:=∀p(a:a5 ao) H',kc H H'->H' p=some (.lst (a.map V.ref))->a.length=b.length →
 (∀(j:Nat) t xs,a[j]? = some t->b[j]? = some xs->H' t=some (.tup xs))->H p=none->(∀t∈a,H t=none)->Q (.ref p) H'
theorem A8:∀(a:a5 ao)(c:a5 (a5 V))(H:Hp),Inv X pins σ H s->a.length=c.length->a.Nodup->(∀t∈a,H t=none/\uD X pins t) →
  (∀(j:Nat) t xs,a[j]? = some t->c[j]? = some xs->∃us,Vals xs us/\TupAt s.heap t us/\xs.length<=aQ) →
  ∃H',kc H H'/\Inv X pins σ H' s/\(∀(j:Nat) t xs,a[j]? = some t->c[j]? = some xs->H' t=some (.tup xs))/\∀b,b∉a->H' b=H b
|[],c,H,I,_,_,_,_=>⟨H,λ_ _ e=>e,I,λj t xs e=>by simp at e,λ_ _=>rfl⟩
|t::a,[],H,I,hl,_,_,_=>by simp at hl
|t::a,xs::c,H,I,hl,p,i,l=>by
  obtain⟨us,v,r,q⟩:=l 0 t xs rfl rfl;obtain⟨k,n2⟩:=bg.mp p;obtain⟨n,w⟩:=i t (.head _);have new:ie X.prog X.w (upd H t (.tup xs)) s.heap t (.tup xs):=⟨q,us,v,⟨_,r,rfl,_,rfl⟩⟩;have x:Inv X pins σ (upd H t (.tup xs)) s:=yw (h':=s.heap) (t':=s.toks) I w n (λ_ _ _ e=>e) new;obtain⟨H',a1,a2,a3,o⟩:=A8 a c _ x #v[hl] n2 (λu h=>⟨by rw[bP (show u≠t from λz=>k (z▸h))];exact(i u (.tail _ h)).1,(i u (.tail _ h)).2⟩) λj u d g f=>l (j+1) u d #v[g] #v[f];refine⟨H',me (fN n) a1,a2,λj u d g f=>?_,λb m=>?_⟩;cases j with
 |zero=>
   obtain rfl:t=u:=by simpa using g
   obtain rfl:xs=d:=by simpa using f
   rw[o t k,bZ]
 |succ j=>exact a3 j u d #v[g] #v[f]
  rw[o b λz=>m (.tail _ z),bP (show b≠t from λz=>m (z▸.head _))]
def addrOf:ak->ao
|.ref a=>a
|_=>0
theorem Mw{Q:VK}{S:ao}{acc:Array ak}{c:Nat}{h':cY}{d:a5 (a5 V)}(I:Inv X pins σ H s)(k:∀b o,s.heap.get? b=some o->h'.get? b=some o)(n:s.heap.objs.size<=S)(O:h'.get? S=some (c9 "list" acc c))(hl:acc.size=d.length)(hz:d.length<=aQ)(D:acc.toList.Nodup)(u:∀(j:Nat) v,acc[j]? = some v->∃T us xs,v=.ref T/\S<T/\d[j]? = some xs/\Vals xs us/\xs.length<=aQ/\TupAt h' T us)(q:F7 H d Q):
  EP X pins σ Q (.ref S) { s with heap:=h' }:=by
 have R:Inv X pins σ H { s with heap:=h' }:=I.kept (t':=s.toks) k;have g:acc.toList=(acc.toList.map addrOf).map Value.ref:=by
  rw[bz]
  conv=>lhs;rw[<- vd acc.toList]
  apply i8;intro v N;obtain⟨j,hj⟩:=dB.mp N;obtain⟨T,us,xs,e,_⟩:=u j v #v[hj];rw[e];rfl
 generalize C:acc.toList.map addrOf=a at g;have i:a.length=d.length:=by rw[<- C,ai,cv,hl]
 have w:∀(j:Nat) t,a[j]? = some t->acc[j]? = some (.ref t):=λj t e=>by rw[<- eG,g,bq,e];rfl
 have m:∀t∈a,S<t:=λt f=>by obtain⟨j,hj⟩:=dB.mp f;obtain⟨T,us,xs,e,l,_⟩:=u j _ (w j t hj);cases e;exact l
 have E:a.Nodup:=by rw[g]at D;exact(lZ.mp D).imp λh e=>h (congrArg _ e)
 obtain⟨B,a1,a2,a3,K⟩:=A8 a d H R i E (λt f=>by
  have F:s.heap.objs.size<=t:=bu n (mI (m t f));exact⟨I.gP.fresh F,qj I F⟩) λj t xs p A=>by obtain⟨T,us,U,e,l,J,r,z,L⟩:=u j _ (w j t p);cases e;rw[A]at J;obtain rfl:=aH J;exact⟨us,r,L,z⟩
 have x:S∉a:=λz=>eQ _ (m S z);have G:H S=none:=I.gP.fresh n;have y:B S=none:=by rw[K S x];exact G
 have new:ie X.prog X.w (upd B S (.lst (a.map V.ref))) h' S (.lst (a.map V.ref)):=by
  refine⟨by rw[ai,i];exact hz,acc.toList,c,?_,by simpa using O⟩;rw[g];clear C g w m E i a3 K x y
  induction a with
 |nil=>exact .nil
 |cons t a M=>exact .cons rfl M
 have P:Inv X pins σ (upd B S (.lst (a.map V.ref))) { s with heap:=h' }:=yw (s:={ s with heap:=h' }) (h':=h') (t':=s.toks) a2 (qj I n) y (λ_ _ _ e=>e) new;refine⟨.ref S,_,P,rfl,q S a _ (me a1 (fN y)) (bZ ..) i (λj t xs p A=>?_) G λt f=>I.gP.fresh (bu n (mI (m t f)))⟩;rw[bP (show t≠S from λz=>x (z▸bp p))];exact a3 j t xs p A
theorem L6:gH "list" = some (.type "list"):=#v[2]
theorem qS{e:bL}{p pos:Pos}{Q:VK}(d:Gl X "list")(c:X.mg "list" = none)(I:Inv X pins σ H s)(h:a7 (bb X.prog X.w) X.A (cg e X.env) (λu a=>a7 (bb X.prog X.w) X.A (call (.type "list") [u]) (EP X pins σ Q) X.xe a) X.xe s)(b:aG [e] X.env=(false,cg e X.env)::aG [] X.env:=by rfl):a7 (bb X.prog X.w) X.A (cg (.Call (.Name "list" p) [e] [] pos) X.env) (EP X pins σ Q) X.xe s:=by refine dD (ml I d c L6 ?_);refine b9 ?_ b rfl;rw[b];show a7 _ _ (spliced ((false,cg e X.env)::ef pos (aG [] X.env))) _ _ s;exact Calls.spliced_cons (iW h λu a q=>Calls.spliced_nil q)
def aeI(K:au)(t:TA):TE:=λσ H Q=>t σ H λvs d=>∃a b xs c,vs=[.ref a,.ref b]/\lY K d a xs/\lY K d b c/\xs.length=c.length/\0<xs.length/\F7 d (oM (λx y=>[x,y]) xs c) Q
def aeH(K:au)(t:TA):TE:=λσ H Q=>t σ H λvs d=>∃a b c xs g f,vs=[.ref a,.ref b,.ref c]/\lY K d a xs/\lY K d b g/\lY K d c f/\xs.length=g.length/\xs.length=f.length/\0<xs.length ∧
 F7 d (oM (λx(h:V×V)=>[x,h.1,h.2]) xs (g.zip f)) Q
theorem ZY{e d:bL}{F:TA}{p A pos f:Pos}(hh:X.A.handled=none)(hg:Gl X "list")(hm:X.mg "list" = none)(ak:Gl X "zip")(ah:X.mg "zip" = none)(ha:PA X [e,d] F)(hs:aG [e,d] X.env=(false,cg e X.env)::aG [d] X.env:=by rfl)(ag:(ef f (aG [d] X.env)).any (·.1)=false:=by rfl)(ac:aG [.Call (.Name "zip" A) [e,d] [] f] X.env=(false,cg (.Call (.Name "zip" A) [e,d] [] f) X.env)::aG [] X.env:=by rfl):
  PE X (.Call (.Name "list" p) [.Call (.Name "zip" A) [e,d] [] f] [] pos) (aeI X.K F):=by
 intro pins s σ H Q I h;refine qS hg hm I ?_ ac;refine dD (ml I ak ah yI (b9 (iW (ha f pins s σ H _ I h) λus g ⟨vs,H1,C,V,Y⟩=>?_) hs ag));obtain⟨a,b,xs,ys,ex,af,ae,el,e0,q⟩:=Y;subst ex;cases V with
|cons r x=>
 cases x with
|cons W x=>cases x;cases r;cases W;obtain⟨i1,E,p1,J⟩:=C.list af;obtain⟨i2,D,Z,_⟩:=C.list ae;have l1:=E.length;have l2:=D.length;have hz:=J;refine P0 p1.isList Z.isList (by simp;lia) λh' L y st G k hsz=>?_;refine Jh (s:={ g with heap:=h' }) hh y (by simp;lia) (by simp;lia) st λh2 acc c k2 e1 d e3 e4=>?_;have n:∀{b:Nat}{o:Obj}{m:Nat},g.heap.get? b=some o->g.heap.objs.size<=m->b≠m:=λe l z=>absurd (Heap.lt_size e) (by rw[z];exact G4.mpr l);refine Mw (s:=g) (H:=H1) (S:=h'.objs.size) C (λb o e=>k2 b o (n e (cq _ _)) (n e (cq _ _)) (λt B=>?_) (k b o e)) hsz e1 ?_ ?_ e3 (λj v hj=>?_) q;rw[G]at B;simp only[aq,bF,or_false]at B;rcases B with rfl|rfl;exact n e (aS _);exact n e (cq _ _);rw[d,i9];simp;lia;rw[i9];lia;obtain⟨T,us,rfl,l,w,P⟩:=e4 j v hj;rw[G]at w;obtain⟨O,w1,rfl,g1,N,w2,rfl,g2,rfl⟩:=w;obtain⟨M,f1,U⟩:=Vals.vM E (i:=j) (u:=O) #v[g1];obtain⟨K,f2,R⟩:=Vals.vM D (i:=j) (u:=N) #v[g2];exact⟨T,_,[M,K],rfl,l,by rw[mX,f1,f2],.cons U (.cons R .nil),by show 2<=aQ;decide,P⟩
theorem ZX{e f d:bL}{M:TA}{p C pos n:Pos}(hh:X.A.handled=none)(hg:Gl X "list")(hm:X.mg "list" = none)(au:Gl X "zip")(ap:X.mg "zip" = none)(ha:PA X [e,f,d] M)(hs:aG [e,f,d] X.env=(false,cg e X.env)::aG [f,d] X.env:=by rfl)(ao:(ef n (aG [f,d] X.env)).any (·.1)=false:=by rfl)(aj:aG [.Call (.Name "zip" C) [e,f,d] [] n] X.env=(false,cg (.Call (.Name "zip" C) [e,f,d] [] n) X.env)::aG [] X.env:=by rfl):
  PE X (.Call (.Name "list" p) [.Call (.Name "zip" C) [e,f,d] [] n] [] pos) (aeH X.K M):=by
 intro pins s σ H Q I h;refine qS hg hm I ?_ aj;refine dD (ml I au ap yI (b9 (iW (ha n pins s σ H _ I h) λus A ⟨vs,H1,B,r1,q1⟩=>?_) hs ao));obtain⟨a,b,c,xs,ys,zs,ex,an,am,al,el,em,e0,q⟩:=q1;subst ex;cases r1 with
|cons r g=>
 cases g with
|cons r' g=>
 cases g with
|cons ac g=>cases g;cases r;cases r';cases ac;obtain⟨i1,K,p1,O⟩:=B.list an;obtain⟨i2,J,ag,_⟩:=B.list am;obtain⟨i3,G,p3,_⟩:=B.list al;have l1:=K.length;have l2:=J.length;have l3:=G.length;have hz:=O;refine PZ p1.isList ag.isList p3.isList (by simp;lia) (by simp;lia) λh' L y st N k hsz=>?_;refine Jh (s:={ A with heap:=h' }) hh y (by simp;lia) (by simp;lia) st λh2 acc c k2 e1 f d e4=>?_;have x:∀{b:Nat}{o:Obj}{m:Nat},A.heap.get? b=some o->A.heap.objs.size<=m->b≠m:=λe l z=>absurd (Heap.lt_size e) (by rw[z];exact G4.mpr l);refine Mw (s:=A) (H:=H1) (S:=h'.objs.size) B (λb o e=>k2 b o (x e (cq _ _)) (x e (cq _ _)) (λt D=>?_) (k b o e)) hsz e1 ?_ ?_ d (λj v hj=>?_) q;rw[N]at D;simp only[aq,bF,or_false]at D;rcases D with rfl|rfl|rfl;exact x e (aS _);exact x e (cq _ _);exact x e (cq _ _);rw[f,i9,dE];simp;lia;rw[i9,dE];lia;obtain⟨T,us,rfl,l,w,W⟩:=e4 j v hj;rw[N]at w;obtain⟨V,w1,rfl,g1,U,w2,rfl,g2,R,w3,rfl,g3,rfl⟩:=w;obtain⟨P,f1,aa⟩:=Vals.vM K (i:=j) (u:=V) #v[g1];obtain⟨F,f2,Z⟩:=Vals.vM J (i:=j) (u:=U) #v[g2];obtain⟨E,f3,Y⟩:=Vals.vM G (i:=j) (u:=R) #v[g3];exact⟨T,_,[P,F,E],rfl,l,by rw[mX,f1,bG (z:=(F,E))|>.mpr ⟨f2,f3⟩],.cons aa (.cons Z (.cons Y .nil)),by show 3<=aQ;decide,W⟩
theorem bV.z6{sa:ao}{A:ao->Prop}{H:Hp}:∀{b:a5 ao}{c:a5 (a5 D)}{a:a5 (a5 V)},b.length=a.length->c.length=a.length->(∀(j:Nat) t xs,b[j]? = some t->a[j]? = some xs->H t=some (.tup xs))->(∀t∈b,¬A t) →
  (∀(j:Nat) ds xs,c[j]? = some ds->a[j]? = some xs->bV G sa A H ds xs)->bV G sa A H (c.map D.tup) (b.map V.ref)
|[],[],[],_,_,_,_,_=>.nil
|[],_::_,[],_,h,_,_,_=>by simp at h
|[],_,_::_,h,_,_,_,_=>by simp at h
|_::_,_,[],h,_,_,_,_=>by simp at h
|_::_,[],_::_,_,h,_,_,_=>by simp at h
|t::b,ds::c,xs::a,o,n,l,k,i=>.cons (.tup (k t (.head _)) (l 0 t xs rfl rfl) (i 0 ds xs rfl rfl)) (bV.z6 #v[o] #v[n] (λj u d g f=>l (j+1) u d #v[g] #v[f]) (λu m=>k u (.tail _ m)) λj u d g f=>i (j+1) u d #v[g] #v[f])
def aaP:FP:=λds Q=>o2 ds λa b=>oL a λxs=>oL b λc=>xs.length=c.length/\0<xs.length/\Q (.lst ((oM (λx y=>[x,y]) xs c).map D.tup))
def aaO:FP:=λds Q=>o3 ds λa b c=>oL a λxs=>oL b λg=>oL c λd=>xs.length=g.length/\xs.length=d.length/\0<xs.length/\Q (.lst ((oM (λx(f:D×D)=>[x,f.1,f.2]) xs (g.zip d)).map D.tup))
theorem FF{e c:bL}{t:lJ}{p l pos i:Pos}(hK:X.K=G.K)(N:X.A.handled=none)(R:Gl X "list")(M:X.mg "list" = none)(P:Gl X "zip")(L:X.mg "zip" = none)(T:QA X G [e,c] t)(I:aG [e,c] X.env=(false,cg e X.env)::aG [c] X.env:=by rfl)(J:(ef i (aG [c] X.env)).any (·.1)=false:=by rfl)(F:aG [.Call (.Name "zip" l) [e,c] [] i] X.env=(false,cg (.Call (.Name "zip" l) [e,c] [] i) X.env)::aG [] X.env:=by rfl):
  QE X G (.Call (.Name "list" p) [.Call (.Name "zip" l) [e,c] [] i] [] pos) (Qy aaP t):=by refine ir (ZY N R M P L T I J F) λ{σ H Q} D=>?_;obtain⟨h,q,H0,O,r,S,Q',st,m,C⟩:=D;refine⟨h,q,H0,O,r,S,_,st,m,?_⟩;rintro vs H1 ⟨ds,S1,f,B,A,d⟩;obtain⟨_,_,_,_,rfl,z,w,d⟩:=IL d A;obtain⟨_,a,xs,rfl,na,ea,o,d⟩:=BI d z;obtain⟨_,b,s,rfl,nb,Z,n,d⟩:=BI d w;obtain⟨el,e0,d⟩:=d;have l1:=o.length;have l2:=n.length;refine⟨a,b,xs,s,rfl,.inl (.inl ea),.inl (.inl Z),#v[],#v[],λp ts H' g Y hl m K E=>?_⟩;have av:∀t,H1 t=none->¬lT q O t:=λt e=>f.fresh e;refine C _ _ ⟨_,S1,f.same g,B.trans (.of g),.lst (av p K) Y (bV.z6 hl (by simp only[i9];lia) m (λt h=>av t (E t h)) λj ds ae k c=>?_),d⟩;rw[mX]at k c;split at k;rename_i x y gx U;obtain⟨v1,W,v⟩:=o.get gx;obtain⟨v2,V,u⟩:=n.get U;rw[W,V]at c;obtain rfl:=aH k;obtain rfl:=aH c;exact .cons (f.rep (.of g) v) (.cons (f.rep (.of g) u) .nil);cases k
theorem FE{e f g:bL}{t:lJ}{p n pos l:Pos}(hK:X.K=G.K)(hh:X.A.handled=none)(hg:Gl X "list")(hm:X.mg "list" = none)(ac:Gl X "zip")(Z:X.mg "zip" = none)(ha:QA X G [e,f,g] t)(V:aG [e,f,g] X.env=(false,cg e X.env)::aG [f,g] X.env:=by rfl)(W:(ef l (aG [f,g] X.env)).any (·.1)=false:=by rfl)(U:aG [.Call (.Name "zip" n) [e,f,g] [] l] X.env=(false,cg (.Call (.Name "zip" n) [e,f,g] [] l) X.env)::aG [] X.env:=by rfl):
  QE X G (.Call (.Name "list" p) [.Call (.Name "zip" n) [e,f,g] [] l] [] pos) (Qy aaO t):=by refine ir (ZX hh hg hm ac Z ha V W U) λ{σ H Q} R=>?_;obtain⟨h,v,H0,O,w,S,Q',st,o,P⟩:=R;refine⟨h,v,H0,O,w,S,_,st,o,?_⟩;rintro vs H1 ⟨ds,S1,i,N,M,d⟩;obtain⟨_,_,_,_,_,_,rfl,L,K,J,d⟩:=Sb d M;obtain⟨_,a,xs,rfl,na,ea,u,d⟩:=BI d L;obtain⟨_,b,B,rfl,nb,eb,s,d⟩:=BI d K;obtain⟨_,c,A,rfl,nc,ec,r,d⟩:=BI d J;obtain⟨el,em,e0,d⟩:=d;have l1:=u.length;have l2:=s.length;have l3:=r.length;refine⟨a,b,c,xs,B,A,rfl,.inl (.inl ea),.inl (.inl eb),.inl (.inl ec),#v[],#v[],#v[],λp ts H' k ep hl o Y T=>?_⟩;have av:∀t,H1 t=none->¬lT v O t:=λt e=>i.fresh e;refine P _ _ ⟨_,S1,i.same k,N.trans (.of k),.lst (av p Y) ep (bV.z6 hl (by simp only[i9,dE];lia) o (λt h=>av t (T t h)) λj ds aq m f=>?_),d⟩;rw[mX]at m f;split at m;rename_i x y gx q;obtain⟨q,gz⟩:=bG.mp q;obtain⟨v1,f1,E⟩:=u.get gx;obtain⟨I,f2,D⟩:=s.get q;obtain⟨F,f3,C⟩:=r.get gz;rw[f1,(bG (z:=(I,F))).mpr ⟨f2,f3⟩]at f;obtain rfl:=aH m;obtain rfl:=aH f;exact .cons (i.rep (.of k) E) (.cons (i.rep (.of k) D) (.cons (i.rep (.of k) C) .nil));cases m
end
section
variable{prog:bC}{w:cu}{d:ao}{o:Obj}{es:Array jF}{ep:Nat}
theorem KC{A:bT}(n:A.handled=none)(I:ao)(m:d≠I)(g:o.data=.dict es ep):
  Walks prog w A I [I,d] [I] es.size (λi v=>∃j,es[i]? = some j/\v=j.key) (λi h=>i<=es.size/\h.IsKeyIter I d i es.size ep/\h.get? d=some o) where
 sub:=λb a=>by simp at a;simp[a]
 frame:=λi h h' st k=>⟨st.1,st.2.1.at λu e=>k I #v[0] u e,k d #v[0] _ st.2.2⟩
 item:=λi s Q E hi st c=>Dj st.2.1 st.2.2 g rfl (dN hi) λh' l f=>c _ h' s.toks ⟨_,dN hi,rfl⟩ ⟨hi,l,f.extBut _ _ m st.2.2⟩ λb u a e=>f.extBut b u (λz=>a (by simp[z])) e
 done:=λs Q E st c=>F6 n st.2.1 st.2.2 g rfl (aS _) λh' p=>c h' s.toks λb u a e=>p b u (λz=>a (by simp[z])) e
 self:=λi s Q E st h=>wpAny_pyIter_keyiter st.2.1 h
theorem Zu(lo:(d == jX)=false)(b:o.ExactDict)(f:o.data=.dict es ep):PySem.W.KdlSrc prog w "dict" d d es.size (λi v=>∃g,es[i]? = some g/\v=g.key) (λh=>h.get? d=some o) where
 type:=λ_ a=>⟨_,a,b.1⟩
 there:=λ_ a=>⟨Heap.lt_size a,Heap.lt_size a⟩
 keep:=λ_ _ a hk=>hk d (.inl rfl) o a
 notList:=#v[1]
 notTuple:=#v[1]
 hint:=λ_ _ _ _ a c=>PySem.W.kdl_hint_dict ⟨_,a,b.1⟩ c
 iter:=λ_ _ j a=>⟨_,_,(λ_ _ c=>Pw lo a b f c),KC j _ (bQ (Heap.lt_size a)) f,d4 _,⟨_,Heap.get?_push_size _ rfl,rfl,rfl⟩,Heap.get?_push_of_some _ a⟩
end
section
variable{X:Cx}{G:Gb}{pins:a5 (ao×Obj)}{σ:L2.St}{H:Hp}{s:aB}
def ZC:a5 V->Hp->VK->Prop:=λvs H Q=>∃(a:ao)(c:a5 (a5 Key×V)),vs=[.ref a]/\H a=some (.dT c) ∧
 ∀p(b:a5 ao),H p=none->b.length=c.length->(∀(i:Nat) q kv,b[i]? = some q->c[i]? = some kv->H q=some (.tup (kv.1.map kV)))->Q (.ref p) (upd H p (.lst (b.map V.ref)))
theorem TH(G:X.A.handled=none):lK X (.type "list") ZC:=by
 intro pins s σ H vs us Q I r h;obtain⟨a,f,rfl,K,q⟩:=h;rw[Vals.FA r];obtain⟨z,lo,xs,kt,o,R,Y,N,M,L,y,W⟩:=(show ie X.prog X.w H s.heap a (.dT f) from I.gP a _ K);have hsz:R.size=xs.length:=size_of_entries y;have hl:f.length=xs.length:=iN kt;refine PySem.W.kdl_call (Zu lo M L) G N #v[] λh' tk acc c k U p=>?_;have E:H s.heap.objs.size=none:=I.gP.fresh (aS _);have at_:∀(i:Nat) l,f[i]? = some l->∃t,acc[i]? = some (.ref t)/\H t=some (.tup (l.1.map kV)):=λi l hi=>by
  obtain⟨b,J,B,w,A⟩:=K0 kt hi;have m:i<acc.size:=by rw[p.1];have:=(aJ.mp hi).1;lia
  obtain⟨S,P,C⟩:=p.2 i _ (dN m);have:=entry_at y i;rw[J,P]at this;have T:S=entryOfKey (zW (fq X.prog X.w)) b:=aH this;rw[T]at C;exact⟨b.2.1,by rw[dN m,C];rfl,w⟩
 have n:acc.toList=(acc.toList.map addrOf).map Value.ref:=by
  rw[bz]
  conv=>lhs;rw[<- vd acc.toList]
  apply i8;intro v F;obtain⟨j,hj⟩:=dB.mp F;have m:j<f.length:=by have:=(aJ.mp hj).1;rw[cv,p.1]at this;lia
  obtain⟨t,g,_⟩:=at_ j _ (aw m);rw[eG,g]at hj;rw[<- aH hj];rfl
 generalize x:acc.toList.map addrOf=d at n;have u:d.length=f.length:=by rw[<- x,ai,cv,p.1];lia
 have new:ie X.prog X.w (upd H s.heap.objs.size (.lst (d.map V.ref))) h' s.heap.objs.size (.lst (d.map V.ref)):=by
  refine⟨by rw[ai,u];exact z,acc.toList,c,?_,by simpa using U⟩;rw[n];clear x n u
  induction d with
 |nil=>exact .nil
 |cons t d D=>exact .cons rfl D
 refine⟨.ref s.heap.objs.size,_,I.laid k (aS _) new,rfl,q _ d E u λi t l B w=>?_⟩;obtain⟨t',A,O⟩:=at_ i l w;have:acc.toList[i]? = some (.ref t):=by rw[n,bq,B];rfl
 rw[eG,A]at this;cases this;exact O
end
section
variable{prog:bC}{w:cu}{A:bT}{E:ak->aB->Prop}{s:aB}{R:Hc->aB->Prop}{r l S:ao}{items:Array ak}
theorem SV{i:Int}{Q:Bool->aB->Prop}(c:s.heap.IsRevIter r l i)(h:Q false s):a7 (bb prog w) A (Builtin.List.listLengthHint (.ref r)) Q E s:=by
 unfold Builtin.List.listLengthHint;refine aj (pL c.typeIs (show vW (.type "list_reverseiterator") "__len__" = pure none by rw[wb,n8];kernel_rfl) ?_);show a7 (bb prog w) A (specialOf (.ref r) (Str.ofString "__length_hint__") >>= _) _ _ s;refine aj (pL c.typeIs (show vW (.type "list_reverseiterator") "__length_hint__" = pure (some (.builtin "list_reverseiterator.__length_hint__")) by rw[wb,n8];kernel_rfl) ?_);generalize d:("list_reverseiterator.__length_hint__" : String)=id0
 wp_delta
 rw[show splitId id0=some ("list_reverseiterator","__length_hint__") from by subst d;decide +kernel];subst d;refine aj (Hb (T:="list_reverseiterator") (b:=true) c.typeIs (by rw[isSubtype_type];kernel_rfl) ?_);refine pM (λa=>absurd a #v[1]) (λ_=>?_);refine pM (λ_=>?_) (λa=>absurd #v[2] a);refine pM (λa=>absurd a #v[2]) (λ_=>?_);exact aM h
theorem WL(D:A.handled=none)(j:ak){y:Nat}(n:s.heap.get? S=some (c9 "list" #[] y))(d:s.heap.IsRevIter r l ((items.size:Int)-1))(hl:s.heap.IsList l items)(C:l≠r)(m:S≠r)(t:S≠l)(B:items.size<=aQ)(J:∀h' tk k c,(∀b o,b≠S->b≠r->s.heap.get? b=some o->h'.get? b=some o)->h'.get? S=some (c9 "list" k c)->ItemsOf (λi v=>items[items.size-1-i]? = some v) k items.size->R (.ok (.ret j)) { s with heap:=h',toks:=tk }):
  a7 (bb prog w) A.in1 (Builtin.List.listExtendWith (.ref S) (.ref r) j)
   (λfin a=>match fin with|.done f=>R (.ok f) a|.again c=>c.quiet=true/\oO (bb prog w) A c R a) (λe a=>R (.error e) a) s:=by
 have W:=(Walks.listRev (prog:=prog) (w:=w) (A:=A.in1) D r l C items).toS;have H:S∉[r,l]:=by simp only[aq,bF,or_false,not_or];exact⟨m,t⟩
 have key:∀(h:cY)(p:Nat),h.IsRevIter r l ((items.size:Int)-1-((0:Nat):Int))->h.IsList l items->(∀b o,b≠S->s.heap.get? b=some o->h.get? b=some o)->h.get? S=some (c9 "list" #[] p) →
   oO (bb prog w) A (.builtin "list.extend.loop" ⟨[.ref S,.ref r,j],[]⟩) R { s with heap:=h }:=λh p a1 a2 a3 O=>by refine codeAny_extend_loopS W B S H j items.size 0 { s with heap:=h } #[] p rfl (d4 _) ⟨d4 _,a1,a2⟩ O (ItemsOf.nil _) λa k c q I G=>?_;rw[Moved.eq_with q];exact J a.heap a.toks k c (λb o g E e=>q.heap b o (λz=>by simp only[aq,bF,or_false]at z;rcases z with z|z;exact g z;exact E z) (a3 b o g e)) I G
 have x:(items.size:Int)-1-((0:Nat):Int)=(items.size:Int)-1:=#v[0]
 have N:Builtin.List.listSameRef (.ref S) (.ref r)=false:=by simp[Builtin.List.listSameRef,m]
 have M:(Value.type "list_reverseiterator" == Value.type "list")=false:=#v[1]
 have L:(Value.type "list_reverseiterator" == Value.type "tuple")=false:=#v[1]
 unfold Builtin.List.listExtendWith;refine aj (Ux d.typeIs ?_);simp only[N,M,L,Bool.or_false,gd,if_false];refine aj (wpAny_pyIter_revIter d (aj (eo (SV d ?_))));refine pM (λP=>?_) λ_=>aM ⟨km F.plain_extend_loop _,key _ y (by rw[x];exact d) hl (λ_ _ _ e=>e) n⟩;refine aj (Mt (aj ?_));show a7 (bb prog w) A.in1 (oK S (·.push .none) >>= λ_=>oK S (·.pop)) _ _ s;have u:=Heap.get?_update_self (Obj.mapSeq (·.push Value.none)) n rfl;have K:=Heap.get?_update_self (Obj.mapSeq (·.pop)) u rfl;have kp:∀b o,b≠S->s.heap.get? b=some o->((s.heap.update S (Obj.mapSeq (·.push Value.none))).update S (Obj.mapSeq (·.pop))).get? b=some o:=λb o g e=>(Heap.get?_update_other _ _ g.symm).trans ((Heap.get?_update_other _ _ g.symm).trans e);exact aj (fb n rfl (fb (hz:=by seq_fits) u rfl (aM ⟨km F.plain_extend_loop _,key _ _ (by rw[x];exact d.at λo e=>kp _ o m.symm e) (hl.at λo e=>kp _ o t.symm e) kp K⟩)))
theorem SJ{Q:ak->aB->Prop}(x:A.handled=none)(g:s.heap.IsRevIter r l ((items.size:Int)-1))(hl:s.heap.IsList l items)(u:l≠r)(t:items.size<=aQ)(y:∀h' tk d f,(∀b o,b≠r->s.heap.get? b=some o->h'.get? b=some o)->h'.get? s.heap.objs.size=some (c9 "list" d f)->ItemsOf (λi v=>items[items.size-1-i]? = some v) d items.size->Q (.ref s.heap.objs.size) { s with heap:=h',toks:=tk }):
  a7 (bb prog w) A (call (.type "list") [.ref r]) Q E s:=by refine callType_codes (Q₁:=λobj h=>obj=.ref s.heap.objs.size/\h={ s with heap:=s.heap.push { cls:=.type "list",data:=.seq #[] } }) F.called_list (F.typeCall_list_1 _) F.entry_list_init (code_list_new _ ⟨rfl,rfl⟩) λobj D z=>?_;obtain⟨rfl,rfl⟩:=z;have c:(s.heap.push { cls:=.type "list",data:=.seq #[] }).get? s.heap.objs.size=some { cls:=.type "list",data:=.seq #[] }:=Heap.get?_push_size _ rfl;refine⟨⟨_,c,rfl⟩,F.args_list_init_2 _ _,?_⟩;have a:∀{b:ao}{o:Obj},s.heap.get? b=some o->b≠s.heap.objs.size:=λe=>bQ (Heap.lt_size e);have B:=Heap.get?_update_self (Obj.mapSeq λ_=>(#[]:Array ak)) c rfl;have kp:∀b o,s.heap.get? b=some o->((s.heap.push { cls:=.type "list",data:=.seq #[] }).update s.heap.objs.size (Obj.mapSeq λ_=>(#[]:Array ak))).get? b=some o:=λb o e=>(Heap.get?_update_other _ _ (a e).symm).trans (Heap.get?_push_of_some _ e);show a7 (bb prog w) A.in1.in1 (Builtin.List.listItems (.ref s.heap.objs.size) >>= λq=>Builtin.List.listUpdate (.ref s.heap.objs.size) (λ_=>#[]) >>= λ_=>letGo q.toList.reverse >>= λ_=>Builtin.List.listExtendWith (.ref s.heap.objs.size) (.ref r) .none) _ _ _;unfold Builtin.List.listItems;refine aj (aj (gU c rfl (aM ?_)));show a7 (bb prog w) A.in1.in1 (oK s.heap.objs.size (λ_=>#[]) >>= _) _ _ _;refine aj (fb c rfl (aj (mN ?_)));obtain⟨o1,p,_⟩:=id g;obtain⟨o2,n,_⟩:=id hl;exact WL (A:=A.in1) x .none B (g.at λo e=>kp _ o e) (hl.at λo e=>kp _ o e) u (a p).symm (a n).symm t λh' tk d f k m j=>⟨rfl,y h' tk d f (λb o C e=>k b o (a e) C (kp b o e)) m j⟩
end
section
variable{X:Cx}{G:Gb}
def tLR(K:au)(t:TA):TE:=λc H Q=>t c H λvs b=>∃a xs,vs=[.ref a]/\lY K b a xs/\∀p,b p=none->Q (.ref p) (upd b p (.lst xs.reverse))
theorem Ra{us:a5 ak}{xs:a5 V}(h:Vals xs us):Vals xs.reverse us.reverse:=by
 have j:∀{a b:a5 V}{c d:a5 ak},Vals a c->Vals b d->Vals (a++b) (c++d):=by
  intro a b c d i g
  induction i with
 |nil=>exact g
 |cons r _ f=>exact .cons r f
 induction h with
|nil=>exact .nil
|cons r t f=>rw[gE,gE];exact j f (.cons r .nil)
theorem acw{e:bL}{n:TA}{p g pos f:Pos}(G:X.A.handled=none)(K:Gl X "list")(E:X.mg "list" = none)(J:Gl X "reversed")(D:X.mg "reversed" = none)(L:PA X [e] n)(A:aG [e] X.env=[(false,cg e X.env)]:=by rfl)(z:aG [.Call (.Name "reversed" g) [e] [] f] X.env=(false,cg (.Call (.Name "reversed" g) [e] [] f) X.env)::aG [] X.env:=by rfl):
  PE X (.Call (.Name "list" p) [.Call (.Name "reversed" g) [e] [] f] [] pos) (tLR X.K n):=by
 intro pins s v H Q I h;refine qS K E I ?_ z;refine dD (ml I J D CA (b9 (iW (L f pins s v H _ I h) λus d ⟨vs,O,m,w,x⟩=>?_) A rfl));obtain⟨a,xs,ex,B,q⟩:=x;subst ex;rw[Vals.FA w];obtain⟨bK,r,pl,hz⟩:=m.list B;have hl:=r.length;have F:a<d.heap.objs.size:=pl.lt;refine call_reversed_list pl.isList (SJ (s:={ d with heap:=_ }) G (l:=a) (items:=bK.toArray) ⟨_,Heap.get?_push_size _ rfl,rfl,rfl⟩ (pl.isList.at λo e=>Heap.get?_push_of_some _ e) (bQ F) (by simp;lia) λh' tk acc c k N j=>?_);have y:∀b o,d.heap.get? b=some o->h'.get? b=some o:=λb o e=>k b o (bQ (Heap.lt_size e)) (Heap.get?_push_of_some _ e);have t:d.heap.objs.size<=(d.heap.push (revObj a ((bK.toArray.size:Int)-1))).objs.size:=by rw[ij];exact jy _
 have M:acc.toList=bK.reverse:=by
  apply Us;intro i;by_cases hi:i<bK.length;have u:i<acc.size:=by rw[j.1];simpa using hi
  have:=j.2 i _ (dN u);rw[eG,dN u,List.getElem?_reverse hi,<- this];simp;rw[fX (by rw[cv,j.1];simpa using hi),fX #v[hi]]
 have C:=m.gP.fresh t;refine⟨.ref _,_,m.laid (t':=tk) y t (o:=.lst xs.reverse) ⟨by simpa using hz,acc.toList,c,by rw[M];exact Ra r,by simpa using N⟩,rfl,q _ C⟩
def vN:FP:=λds Q=>match ds with
|[.lst xs]=>Q (.lst xs.reverse)
|_=>False
theorem p7{e:bL}{t:lJ}{p g pos f:Pos}(z:X.A.handled=none)(B:Gl X "list")(y:X.mg "list" = none)(A:Gl X "reversed")(x:X.mg "reversed" = none)(C:QA X G [e] t)(w:aG [e] X.env=[(false,cg e X.env)]:=by rfl)(u:aG [.Call (.Name "reversed" g) [e] [] f] X.env=(false,cg (.Call (.Name "reversed" g) [e] [] f) X.env)::aG [] X.env:=by rfl):
  QE X G (.Call (.Name "list" p) [.Call (.Name "reversed" g) [e] [] f] [] pos) (Qy vN t):=by refine ir (acw z B y A x C w u) λ{J H Q} r=>?_;obtain⟨h,I,F,O,j,S,L,st,s,q⟩:=r;refine⟨h,I,F,O,j,S,_,st,s,?_⟩;rintro vs M ⟨ds,E,c,n,m,b⟩;unfold vN at b;split at b;obtain⟨v,rfl,l⟩:=m.one;obtain⟨a,xs,rfl,K,D,k⟩:=l.lst_inv;refine⟨a,xs,rfl,.inl (.inl D),λp i=>?_⟩;have d:=fN (o:=.lst xs.reverse) i;exact q _ _ ⟨_,E,c.same d,n.trans (.of d),.lst (c.fresh i) (bZ ..) (c.vq (.of d) k.rev),b⟩;exact b.elim
def aeJ(t:TA):TE:=λb H Q=>t b H λvs a=>∃n:Nat,vs=[.int n]/\n<=1000000/\∀p,a p=none->Q (.ref p) (upd a p (.lst ((cf n).map λ(i:Nat)=>V.int i)))
theorem ZZ{e:bL}{j:TA}{p g pos d:Pos}(L:X.A.handled=none)(N:Gl X "list")(f:X.mg "list" = none)(M:Gl X "range")(K:X.mg "range" = none)(O:PA X [e] j)(J:aG [e] X.env=[(false,cg e X.env)]:=by rfl)(G:aG [.Call (.Name "range" g) [e] [] d] X.env=(false,cg (.Call (.Name "range" g) [e] [] d) X.env)::aG [] X.env:=by rfl):
  PE X (.Call (.Name "list" p) [.Call (.Name "range" g) [e] [] d] [] pos) (aeJ j):=by
 intro pins s y H Q I h;refine qS N f I ?_ G;refine dD (ml I M K Mv (b9 (iW (O d pins s y H _ I h) λus a ⟨vs,S,x,A,B⟩=>?_) J rfl));obtain⟨n,ex,R,q⟩:=B;subst ex;cases A with
|cons r z=>
 cases z;obtain⟨t,rfl⟩:=r;have F:Builtin.Range.small 0 (n:Int) 1=true:=small_one #v[] #v[] #v[] #v[];have hsz:Builtin.Range.rangeSize 0 (n:Int) 1=n:=by rw[rangeSize_one];split<;>lia
 refine call_range_1 ?_;refine call_list_range (s:={ a with heap:=_,toks:=_ }) L (IsRange.new ..) F hsz #v[] λh' tk acc c k P w=>?_;have C:∀b o,a.heap.get? b=some o->h'.get? b=some o:=λb o e=>k b o (Heap.get?_push_of_some _ e);have u:a.heap.objs.size<=(a.heap.push { cls:=.type "range",data:=.fields #[.int 0 a.toks,.int n t,.int 1 (a.toks+1)] }).objs.size:=by rw[ij];exact jy _
 have E:Vals ((cf n).map λ(i:Nat)=>V.int i) acc.toList:=by
  have go:∀(l:a5 ak)(m:Nat),(∀(i:Nat) v,l[i]? = some v->∃t,v=.int ((m+i:Nat):Int) t)->Vals ((List.range' m l.length).map λ(i:Nat)=>V.int i) l:=by
   intro l
   induction l with
  |nil=>intro m _;exact .nil
  |cons v l D=>
    intro m f;obtain⟨t,rfl⟩:=f 0 v rfl;exact .cons ⟨t,rfl⟩ (D (m+1) λi v hi=>by obtain⟨t,e⟩:=f (i+1) v #v[hi];exact⟨t,by rw[e,show m+(i+1)=m+1+i by lia]⟩)
  have:=go acc.toList 0 λi v hi=>by obtain⟨t,e⟩:=w.2 i v #v[hi];exact⟨t,by rw[e,show(0:Int)+(i:Int)*1=((0+i:Nat):Int) by lia]⟩
  rw[cv,w.1]at this;rw[List.range_eq_range'];exact this
 refine⟨.ref _,_,x.laid (t':=tk) C u (o:=.lst ((cf n).map λ(i:Nat)=>V.int i)) ⟨by rw[ai,l5,ee];lia,acc.toList,c,E,by simpa using P⟩,rfl,q _ (x.gP.fresh u)⟩
def NI(t:lJ):lJ:=λa S Q=>t a S λds b=>match ds with
|[.int n]=>0<=n/\n<=1000000/\Q ((cf n.toNat).map λ(i:Nat)=>D.int i) b
|_=>False
theorem Rz{e:bL}{t:lJ}{p c pos b:Pos}(E:X.A.handled=none)(J:Gl X "list")(C:X.mg "list" = none)(F:Gl X "range")(B:X.mg "range" = none)(K:QA X G [e] t)(z:aG [e] X.env=[(false,cg e X.env)]:=by rfl)(y:aG [.Call (.Name "range" c) [e] [] b] X.env=(false,cg (.Call (.Name "range" c) [e] [] b) X.env)::aG [] X.env:=by rfl):
  QF X G (.Call (.Name "list" p) [.Call (.Name "range" c) [e] [] b] [] pos) (NI t):=by
 intro pins s g H Q I w;obtain⟨h',f,N,O,h,S,R,st,x,k⟩:=w;refine ZZ E J C F B K z y pins s g H Q I ⟨h',f,N,O,h,S,_,st,x,?_⟩;rintro vs d ⟨ds,M,j,o,m,a⟩;split at a;rename_i n;obtain⟨v,rfl,r⟩:=m.one;obtain rfl:=r.int_inv;obtain⟨L,P,q⟩:=a;refine⟨n.toNat,by rw[jk L],#v[],λp A=>k d p _ _ M j o A ?_ q⟩;have:∀l:a5 Nat,bV G h'.sa (lT f O) d (l.map λ(i:Nat)=>D.int i) (l.map λ(i:Nat)=>V.int i):=by
  intro l
  induction l with
 |nil=>exact .nil
 |cons i l u=>exact .cons (.int _) u
 exact this _;exact a.elim
end
section
variable{X:Cx}{G:Gb}{tg:bL}{p pos:Pos}{t:lJ}
def OD(lo c:Int)(n:Nat):a5 D:=(cf n).map λ(i:Nat)=>D.int (lo+(i:Int)*c)
theorem Rj{lo c:Int}{n i:Nat}{d:D}(h:(OD lo c n)[i]? = some d):i<n/\d=.int (lo+(i:Int)*c):=by unfold OD at h;rw[bq]at h;by_cases hi:i<n;rw[List.getElem?_range hi]at h;exact⟨hi,(aH h).symm⟩;rw[fX (by simp;lia)]at h;cases h
theorem aaE{sa:ao}{A:ao->Prop}{b:Hp}{lo c:Int}{n:Nat}:abe G sa A b (Itc lo c n) (OD lo c n):=by intro h H' f av;refine⟨λi d hd=>?_,by unfold OD;rw[ai,l5];exact aS n⟩;obtain⟨a,rfl⟩:=Rj hd;refine⟨a,?_⟩;rintro x g ⟨rfl,rfl⟩;exact⟨λ_ _ z=>z,.int _⟩
def Nh(t:lJ):lJ:=λa S Q=>t a S λds b=>match ds with
|[.int i,.int j,.int c]=>∃n:Nat,RgC i j c n/\Q (OD i c n) b
|_=>False
theorem OH{a b c:bL}(C:Gl X "range")(B:X.mg "range" = none)(D:QA X G [a,b,c] t)(z:aG [a,b,c] X.env=(false,cg a X.env)::aG [b,c] X.env:=by rfl)(A:(ef pos (aG [b,c] X.env)).any (·.1)=false:=by rfl):QI X G tg (.Call (.Name "range" p) [a,b,c] [] pos) (Nh t):=by intro pins s m H R I x;obtain⟨h,J,F,O,o,S,N,st,y,k⟩:=x;refine OM C B D z A pins s m H R I ⟨h,J,F,O,o,S,_,st,y,?_⟩;rintro v P ⟨d,E,q,w,l,f⟩;split at f;rename_i i j c;obtain⟨n,g,f⟩:=f;obtain⟨M,L,K,rfl,l,u,r⟩:=l.three;obtain rfl:=l.int_inv;obtain rfl:=u.int_inv;obtain rfl:=r.int_inv;exact⟨i,j,c,n,rfl,g,k _ _ _ E q w aaE f⟩;exact f.elim
end
abbrev Tab:=a5 (Int×D)
def abd(G:Gb)(d:D)(v:V):Prop:=∀sa a H,Rep G sa a H d v
structure T9 (P:bC) (w:cu) (K:au) (mg:Str->Option ak) (base:cY) (G:Gb) (tab:Tab) (fns:a5 ao) (FT:ao->FS) (kk:Nat):Prop where
 dict:∃(a:ao)(o:Obj)(es:Array jF)(ep:Nat)(vs:a5 (Key×ak)),mg "CALLS" = some (.ref a)/\K.lookup a=some o/\o.ExactDict/\o.data=.dict es ep/\KeysOf (fq P w) es/\Mn (fq P w) es.toList vs/\(vs.map (·.1)).Nodup ∧
  ∀n d,tab.lookup n=some d->∃u v,valueAt vs (.inl n)=some u/\RelV v u/\abd G d v
 fn:∀a∈fns,∃fd ps,lS P w K mg base CQ kk a fd ps (spS G (FT a))/\c8 K (.ref a)=true/\Binds K fd ps []
section
variable{X:Cx}{G:Gb}{e:bL}{es:a5 bL}{te:jg}{t:lJ}{pos p:Pos}{x:Str}{kk:Nat}{tab:Tab}{fns:a5 ao}{FT:ao->FS}
def Tw(tab:Tab)(te:jg):jg:=λa S Q=>te a S λd b=>match d with
|.int n=>(match tab.lookup n with
 |some d=>Q d b
 |none=>False)
|_=>False
theorem Bp(T:T9 X.prog X.w X.K X.mg X.base G tab fns FT kk)(D:Gl X "CALLS")(E:QE X G e te)(A:adI e:=by exact λ_ _=>rfl):QE X G (.Subscript (.Name "CALLS" p) e pos) (Tw tab te):=by obtain⟨a,o,es,R,vs,C,hk,w,hd,L,K,J,F⟩:=T.dict;intro pins s g H Q I x;obtain⟨h,W,V,O,i,S,Z,st,z,k⟩:=x;refine VE PySem.F.slot_dict_getitem.lookup A (tY I D C ?_ #v[1]);refine iW (E pins s g H _ I ⟨h,W,V,O,i,S,_,st,z,λv H' q=>q⟩) λY l ⟨y,f,c,m,d,U,j,t,r,b⟩=>?_;have dd:l.heap.DictOf (fq X.prog X.w) a vs:=⟨o,es,R,c.Hf a o hk,w,hd,L,K,J⟩;refine⟨dd.typeIs,?_⟩;split at b;split at b;rename_i n _ d B;obtain rfl:=r.int_inv;obtain⟨u,v,P,N,M⟩:=F n d B;exact wpAny_getItem_of (SQ (k:=.inl n) m) dd.mapOf P ⟨v,f,c.tok _,N,k v f ⟨d,U,j,t,M _ _ _,b⟩⟩;exact b.elim;exact b.elim
def LV(fns:a5 ao)(FT:ao->FS)(i:Nat)(t:lJ):jg:=λb S Q=>match b[i]? with
|some (some (.sh (.fn a)))=>a∈fns/\t b S λds c=>FT a ds c Q
|_=>False
theorem RI(i:Nat)(T:T9 X.prog X.w X.K X.mg X.base G tab fns FT kk)(R:gC kk X.A)(ha:QA X G (e::es) t)(hN:X.N[i]? = some x:=by rfl)(P:UJ X.env.scope x:=by first|exact k6 rfl|exact ky (k6 rfl)|exact ky (ky rfl))(Y:(x == ("__debug__" : Str))=false:=by decide)(Z:(x == ("__classdict__" : Str))=false:=by decide)(W:aG (e::es) X.env=(false,cg e X.env)::aG es X.env:=by rfl)(U:(ef pos (aG es X.env)).any (·.1)=false:=by rfl):
  QE X G (.Call (.Name x p) (e::es) [] pos) (LV fns FT i t):=by intro pins s g H Q I M;obtain⟨h,w,H0,O,y,S,Q',st,b,k⟩:=M;unfold LV at b;split at b;rename_i a ea;obtain⟨K,b⟩:=b;obtain⟨fd,ps,F,hk,hb⟩:=T.fn a K;obtain⟨v,e1,e2⟩:=st.slot i _ ea;cases e2;refine dD (iW (Bt hN P Y Z pins s g H (λj H'=>j=V.ref a/\H'=H) I ⟨_,e1,rfl,rfl⟩) λu z ⟨j,H',n,A,N,hH⟩=>?_);subst N hH;obtain rfl:u=Value.ref a:=A;refine oH (h₀:=X.base) n.ok.mod.kin hk (iW (ha pos pins z g H' (λvs f=>spS G (FT a) vs f Q E0) n ⟨h,w,H0,O,y,S,_,st,b,?_⟩) λus s2 ⟨vs,f,m,r,q⟩=>⟨m.Hf,?_⟩) W U;rintro vs f ⟨ds,S1,c,L,C,E⟩;exact⟨h,lT w O,ds,S1,_,λo=>.inl (c.la o),c.ok,C,E,λv H2 d S2 l J B D=>k v H2 ⟨d,S2,c.grow l J,L.trans l,B,D⟩⟩;exact Fz (dvs:=[]) (ds:=[]) F R hb .nil Bu m r (by rw[cG];exact q);exact b.elim
end
section
variable{X:Cx}{G:Gb}{o i e:bL}{to ti te:jg}{pos apos spos:Pos}
def ac7(to ti:jg):jg:=λb S Q=>to b S λd c=>match d with
|.dU=>c≠[]/\ti b c λy a=>a≠[]/\(match y with
 |.int n=>(match nT a n with
  |some d=>Q d a
  |none=>False)
 |_=>False)
|_=>False
theorem RC(D:X.K=G.K)(c:Fb G.K G.cT)(t:kR G.K G.cT "places")(B:QE X G o to)(hi:QE X G i ti)(C:gJ o "places" X.env (cg o X.env)=cg o X.env:=by rfl)(A:GW i:=by exact λ_ _=>rfl):
  QE X G (.Subscript (.Attribute o "places" apos) i pos) (ac7 to ti):=by refine ir (XY Nc (FQ B C) hi A) ?_;rintro L H Q ⟨h,m,l,O,j,S,N,st,z,k⟩;refine⟨h,m,l,O,j,S,_,st,z,?_⟩;rintro v R ⟨d,K,g,x,r,b⟩;split at b;obtain⟨ne,b⟩:=b;cases r;obtain⟨_,⟨dx,I⟩,_⟩:=g.ok.on (g.ok.sz ne);rw[D];refine⟨h.sa,_,dx,_,.ref h.la,rfl,I,c,t,y2,h,m,l,O,j,K,_,g,b,?_⟩;rintro y P ⟨M,J,f,u,q,s,a⟩;split at a;split at a;rename_i n _ d hd;obtain rfl:=q.int_inv;obtain⟨_,_,xs,ex,p⟩:=f.ok.on (f.ok.sz s);obtain⟨w,F,E⟩:=p.nT hd;exact⟨h.la,xs,n,w,rfl,rfl,.inl (.inl ex),F,k _ _ ⟨_,J,f,x.trans u,E,a⟩⟩;exact a.elim;exact a.elim;exact b.elim
theorem St.hold{h:Sh}{c:ao->Prop}{k H:Hp}{O:Nat->Option ao}{i:Env}{S:a5 D}{g:L2.St}(s:St G h c k O i S g H){d:D}{v:V}{xs:a5 V}{j:Nat}(on:h.on=true)(e:H h.la=some (.lst xs))(m:bV G h.sa (lT c O) H S xs)(r:Rep G h.sa (lT c O) H d v):St G h c k O i (S.set j d) g (upd H h.la (.lst (xs.set j v)))/\Le h H (upd H h.la (.lst (xs.set j v))):=by
 have le:Le h H (upd H h.la (.lst (xs.set j v))):=λb u q n=>by rw[bP (λz=>n ⟨on,z⟩)];exact q
 refine⟨s.grow le ⟨λa n=>?_,λ_=>?_,λ_=>on,λ_ z=>?_⟩,le⟩;by_cases z:a=h.la;rw[z];exact⟨_,bZ⟩;obtain⟨l,q⟩:=s.ok.av a n;exact⟨l,by rw[bP z];exact q⟩;obtain⟨o,⟨dx,f⟩,_⟩:=s.ok.on on;have ne:h.sa≠h.la:=λz=>by rw[z,e]at f;cases f
 exact⟨o,⟨dx,by rw[bP ne];exact f⟩,_,bZ,(s.vq le m).set j (s.rep le r)⟩;have:=congrArg nJ z;rw[eT]at this;exact s.ok.Bc on (jh.mp this)
def Yl(te to ti:jg):uC:=λa S E=>te a S λv f=>to a f λd c=>match d with
|.dU=>c≠[]/\ti a c λy b=>b≠[]/\(match y with
 |.int n=>(match Nd b.length n with
  |some j=>E.nx a (b.set j v)
  |none=>False)
 |_=>False)
|_=>False
theorem VU(W:X.K=G.K)(c:Fb G.K G.cT)(J:kR G.K G.cT "places")(T:QE X G e te)(R:QE X G o to)(hi:QE X G i ti)(U:gJ o "places" X.env (cg o X.env)=cg o X.env:=by rfl)(V:∀v,pQ (.Subscript (.Attribute o "places" apos) i spos) X.env v=(do
   let k <- kF [v] (cg (.Attribute o "places" apos) X.env);let m <- kF [v,k] (cg i X.env)
   zX spos
   kF [v,k,m] (setItem k m v)
   release [v,k,m] []):=by intro _;rfl)(Q:swapsWithSole [.Subscript (.Attribute o "places" apos) i spos] e pos.line X.env=pure false:=by rfl)(N:swappedStores [.Subscript (.Attribute o "places" apos) i spos] e X.env=pure none:=by rfl)(Y:(dQ [.Subscript (.Attribute o "places" apos) i spos] X.env).map (·.2)=[pQ (.Subscript (.Attribute o "places" apos) i spos) X.env]:=by rfl):
  QS X G (.Assign [.Subscript (.Attribute o "places" apos) i spos] e pos) (Yl te to ti):=by intro pins s z H D I M;obtain⟨h,q,p,O,f,S,E',st,P,L,kr⟩:=M;refine ZK T (ZR (FQ R U) hi set_list V) Q N Y pins s z H D I ⟨h,q,p,O,f,S,_,st,P,?_⟩;rintro v H1 ⟨d,S1,r,K,C,E⟩;refine⟨h,q,p,O,f,S1,_,r,E,?_⟩;rintro w H2 ⟨d2,S2,g,x,B,b⟩;split at b;obtain⟨ne,b⟩:=b;cases B;obtain⟨_,⟨dx,Z⟩,_⟩:=g.ok.on (g.ok.sz ne);rw[W];refine⟨h.sa,_,dx,_,.ref h.la,rfl,Z,c,J,y2,h,q,p,O,f,S2,_,g,b,?_⟩;rintro y H3 ⟨dy,S3,l,u,A,F,a⟩;split at a;split at a;rename_i n _ j hj;obtain rfl:=A.int_inv;have on:=l.ok.sz F;obtain⟨_,_,xs,ex,t⟩:=l.ok.on on;obtain⟨a1,a2⟩:=l.hold (j:=j) on ex t (g.rep u (r.rep x C));exact⟨h.la,xs,n,j,rfl,rfl,ex,by rw[<- t.length];exact hj,L _ _ O f _ a1 (st.vz (((K.trans x).trans u).trans a2)) a⟩;exact a.elim;exact a.elim;exact b.elim
end
section
variable{X:Cx}{G:Gb}{e:bL}{te:jg}{pos:Pos}
def aaV(te:jg)(b c:Xg):lJ:=λa S Q=>te a S λd h=>b a h λlo g=>c a g λhi f=>match d with
|.zl ds=>Q (cutD ds lo hi) f
|_=>False
theorem Ry{lo hi:Option bL}{i j:Xg}{y:Pos}(F:QE X G e te)(hl:QO X G lo i)(C:QO X G hi j)(J:X.K=G.K:=by rfl):QF X G (.Subscript e (.Slice lo hi none y) pos) (aaV te i j):=by intro pins s q H Q I B;obtain⟨h,g,f,O,b,S,R,st,D,k⟩:=B;refine Iy MI F hl C pins s q H Q I ⟨h,g,f,O,b,S,_,st,D,?_⟩;rintro v U ⟨d,N,m,A,u,x⟩;refine⟨h,g,f,O,b,N,_,m,x,?_⟩;intro lo T M l o w;refine⟨h,g,f,O,b,M,_,l,w,?_⟩;intro hi P L t n c;split at c;obtain⟨a,xs,rfl,K,r⟩:=(l.rep n (m.rep o u)).Fj;rw[J];refine⟨a,xs,rfl,K,λp E=>?_⟩;have z:=(r.drop (HT.nX xs.length 0 lo)).take (HT.nX xs.length xs.length hi-HT.nX xs.length 0 lo);refine k P p _ _ L t ((A.trans o).trans n) E ?_ c;unfold cutD;rw[r.length];exact z;exact c.elim
end
section
variable{P:bC}{w:cu}{K:au}{mg:Str->Option ak}{base:cY}{cS cT:ao}
abbrev Bj:jv:=inClass (top 71) 0
theorem OC:ke ["self","radius","points"] ["self","radius","points"] (b7 Bj):=⟨rfl,rfl,rfl,#v[2],rfl,#v[2],#v[2]⟩
theorem OW{f:ao}{c:gX}(F:Ud K "__init__" "Shape.__init__" Bj f c)(cl:Fb K cS)(nr:kR K cS "radius")(np:kR K cS "points"):lS P w K mg base CQ 1 f c ["self","radius","points"] (Ft cS):=by
 refine F.ok OC (λvs H Q E h=>?_) (λj A outer s H vs Q E i h=>?_);obtain⟨p,dx,d,pv,rfl,_⟩:=h;rfl;obtain⟨p,dx,d,pv,rfl,g,k⟩:=h;refine⟨_,sC (KY (L2.pv 0) (L2.pv 1) rfl) (wB (KY (L2.pv 0) (L2.pv 2) rfl)),?_⟩;refine⟨_,rfl,_,rfl,p,cS,dx,[],rfl,g,cl,nr,(by show 0<1000;decide),_,rfl,_,rfl,p,cS,dx,_,rfl,bZ,cl,np,(by show 1<1000;decide),?_⟩;refine k _ _ bZ ?_ ?_ λb o e a=>by rw[bP a,bP a];exact e
 rw[jU,if_neg #v[2],jU,if_pos rfl];rw[jU,if_pos rfl]
abbrev Bi:jv:=inClass (top 72) 0
theorem D7:ke ["self","place"] ["self"] (b7 Bi):=⟨rfl,rfl,rfl,#v[2],rfl,#v[2],#v[2]⟩
def MH(C:ao):Sp:=λvs H Q _=>∃(a dx:ao),vs=[.ref a]/\H a=some (.ins C dx []) ∧
 ∀(H':Hp)(la:ao)(xs:a5 V),H la=none->H' a=some (.ins C dx (p8 la))->H' la=some (.lst (fC 64 .jw))->(∀b o,H b=some o->b≠a->H' b=some o)->Q .jw H'
theorem Ih{G:Gb}{sa:ao}{A:ao->Prop}{H:Hp}:∀{n:Nat}{vs:a5 V},bV G sa A H (fC n .jw) vs->vs=fC n .jw
|0,_,r=>by cases r;rfl
|n+1,_,r=>by
  rw[Qo]at r;cases r with
 |cons r q=>cases r;rw[Ih q,Qo]
theorem OV{f:ao}{r:gX}(F:Ud K "__init__" "Sheet.__init__" Bi f r)(Z:abb K cT)(B:Bl mg)(C:Cn mg):lS P w K mg base CQ 1 f r ["self"] (MH cT):=by
 refine F.ok D7 (λvs H Q E h=>?_) (λM A outer s H vs Q E L h=>?_);obtain⟨p,dx,rfl,_⟩:=h;rfl;obtain⟨p,dx,rfl,l,k⟩:=h;have nd:=D7.nd;refine⟨_,wB (KY (L2.pv 0) (su (G:=⟨K,cT,cT⟩) (own:=[("place",1)]) (pt:=(.one 1)) nd (p6 rfl B.r9 (j4 (fP C.PLACES) mh)) (λ_ _ _ _ _=>(FO (i:=1) nd rfl (k6 rfl))) (λ_ _ _ _ _=>jG) (λ_ _ _ _ _=>Bm)) rfl),?_⟩;have st:St ⟨K,cT,cT⟩ ⟨false,0,0⟩ (λb=>IsL H b) H (λ_=>none) (ko ["self","place"] [.fn p]) [] (L2.start ["self","place"] [.ref p]) H:=St.start (λz=>nomatch z) ⟨λa n=>n,λz=>(nomatch z),λz=>absurd rfl z,λz=>nomatch z⟩ (.cons (.fn p) .nil);refine⟨_,_,_,_,_,_,(λd S=>d=.lst (fC 64 D.jw)/\S=[]),st,⟨rfl,⟨#v[1],#v[1]⟩,λi acc=>acc=fC i D.jw/\i<=64,⟨rfl,#v[1]⟩,?_⟩,?_⟩;refine⟨λi d acc hd ⟨c,hi⟩=>?_,λacc c=>?_⟩;have m:i<64:=(Ib hd).1;subst c;refine⟨rfl,λ_=>⟨rfl,?_,?_,m⟩,λz=>nomatch z⟩;rw[Mp];exact mH m #v[1];rw[List.replicate_succ'];rw[Ia]at c;exact⟨by rw[c.1];rfl,rfl⟩;rintro v I ⟨d,N,J,x,u,rfl,rfl⟩;obtain⟨la,xs,rfl,n,e,t⟩:=u.lst_inv;have g:kc H I:=off st x;have j:H la=none:=by
  cases z:H la with
 |none=>rfl
 |some o=>have q:=g _ _ z;rw[e]at q;obtain rfl:=aH q;exact absurd (.inl ⟨_,z⟩) n
 have ne:la≠p:=λz=>by rw[z,l]at j;cases j
 refine⟨_,rfl,p,cT,dx,[],rfl,g _ _ l,Z.cl,Z.np,(by show 0<1000;decide),?_⟩;refine k _ la xs j bZ ?_ λb o e y=>by rw[bP y];exact g _ _ e
 rw[bP ne,e,Ih t]
abbrev Bh:jv:=top 44
theorem D6:ke ["points","found","p"] ["points"] (b7 Bh):=⟨rfl,rfl,rfl,#v[2],rfl,#v[2],#v[2]⟩
def uniq(ps:a5 (Int×Int)):a5 (Int×Int):=ps.foldl (λacc p=>if p∈acc then acc else acc++[p]) []
def qz:FP:=λds Q=>match ds with
|[.lst xs]=>(match jJ xs with
 |some ps=>ps.length<aQ/\Q (.lst ((uniq ps).map pairD))
 |none=>False)
|_=>False
def kOf(p:Int×Int):a5 Key:=[.inl p.1,.inl p.2]
theorem Ww{p q:Int×Int}(h:kOf p=kOf q):p=q:=by unfold kOf at h;injection h with b a;injection a with a c;injection b with b;injection a with a;exact zQ b a
theorem OK(b:a5 (a5 Key×V))(k:a5 Key)(v:V):(k∈b.map (·.1)->(putK b k v).map (·.1)=b.map (·.1))/\(¬k∈b.map (·.1)->(putK b k v).map (·.1)=b.map (·.1)++[k]):=by
 unfold putK;have e:(b.any λd=>decide (d.1=k))=true↔k∈b.map (·.1):=by rw[bS,bh];constructor;rintro⟨x,c,h⟩;exact⟨x,c,of_decide_eq_true h⟩;rintro⟨x,c,h⟩;exact⟨x,c,decide_eq_true h⟩
 refine⟨λh=>?_,λh=>?_⟩;rw[if_pos (e.mpr h),bz];apply i8;intro a _;dsimp only[Function.comp];split<;>rfl;rw[if_neg (λz=>h (e.mp z)),bj];rfl
theorem Oj(ps:a5 (Int×Int))(p:Int×Int):uniq (ps++[p])=if p∈uniq ps then uniq ps else uniq ps++[p]:=by unfold uniq;rw[zU];rfl
theorem HJ(ps:a5 (Int×Int)):(uniq ps).length<=ps.length:=by
 have:∀(ps acc:a5 (Int×Int)),(ps.foldl (λacc p=>if p∈acc then acc else acc++[p]) acc).length<=acc.length+ps.length:=by
  intro ps
  induction ps with
 |nil=>intro acc;exact aS _
 |cons p ps a=>intro acc;refine bu (a _) ?_;dsimp only;split<;>simp<;>lia
 simpa [uniq] using this ps []
theorem ck{α:Type}{l:a5 α}{i:Nat}{x:α}(h:l[i]? = some x):l.take (i+1)=l.take i++[x]:=by rw[Uq,h];rfl
theorem OS(d:Def K mg "unlike" Bh ["points"])(B:Bl mg){G:Gb}(hG:G.K=K):FnP P w K mg base G "unlike" 1 qz:=by
 obtain⟨f,fd,X,hm,hb⟩:=d;refine⟨f,fd,["points"],X.ok D6 (MG λds Q h=>?_) λaE A outer s H vs Q E U ah=>?_,hm,X.kp,hb⟩;unfold qz at h;split at h;rfl;exact h.elim;have nd:=D6.nd;refine⟨_,sC (FK (i:=1) nd rfl (k6 rfl) RV) (sC (RN PassesOwn.never rfl (MU (L2.pv 0)) (FO (i:=2) nd rfl (k6 rfl)) (wB (V2 (acR U) (L2.pv 1) (L2.pv 2) X0 rfl))) (wB (RM (Ec (TH U.hd) rfl B.wY #v[2] (AJ (L2.pv 1) K3))))),?_⟩;obtain⟨sa,Y,ds,Q',av,r,l,kq⟩:=ah;unfold qz at l;split at l;split at l;rename_i xs ps au;obtain⟨ap,l⟩:=l;obtain⟨v,rfl,Z⟩:=r.one;obtain⟨a,M,rfl,na,O,N⟩:=Z.lst_inv;rw[lI au]at N;have hl:M.length=ps.length:=by have:=N.length;simpa using this.symm
 intro d hd;refine⟨_,rfl,a,rfl,⟨M,.inl (.inl (by rw[bP (cN O hd)];exact O))⟩,?_⟩;refine Ta (K:=K) (xs:=M) (λi C H'=>∃j x,C=[some (V.ref a),some (V.ref d),x]/\H' d=some (.dT j)/\j.map (·.1)=(uniq (ps.take i)).map kOf/\kc H H') ?_ ?_ ?_ ?_;exact⟨[],none,rfl,bZ,rfl,fN hd⟩;rintro i C H' _ ⟨j,x,rfl,L,c,n⟩;exact .inl (.inl (n _ _ O));rintro i y C H' hy ⟨j,x,rfl,L,c,n⟩;obtain⟨p,hp,q,rfl,F⟩:=pairs_at N.pairs hy;have aq:j.length<=ps.length:=by have e:=congrArg nJ c;rw[ai,ai]at e;rw[e];exact bu (HJ _) (by rw[bw];exact Xo _ _)
 refine⟨_,rfl,_,rfl,d,_,rfl,Uk.t (k:=kOf p) L (n _ _ F) (Uo aq ap),?_⟩;refine⟨_,some (V.ref q),rfl,bZ,?_,λb o e=>by rw[bP (cN e hd)];exact n b o e⟩;rw[ck hp,Oj];obtain⟨k1,k2⟩:=OK j (kOf p) (V.bl true);by_cases J:p∈uniq (ps.take i);rw[if_pos J,k1 (by rw[c];exact dR J),c];rw[if_neg J,k2 ?_,c,bj];rfl;rw[c];intro z;obtain⟨t,m,e'⟩:=bh.mp z;exact J (Ww e'▸m);rintro C H' ⟨j,x,rfl,L,c,n⟩;rw[hl,bY]at c;refine⟨_,rfl,d,j,rfl,L,λt T I aC aj=>?_⟩;have ak:H t=none:=by
  cases z:H t with
 |none=>rfl
 |some o=>rw[n _ _ z]at I;cases I
 refine kq _ _ _ (me n (fN I)) (.lst (λz=>(av t z).ne ak) bZ ?_) l;have an:(uniq ps).length=T.length:=by have e:=congrArg nJ c;rw[ai,ai]at e;lia
 have aw:∀(us:a5 (Int×Int))(g:a5 ao),us.length=g.length->(∀(i:Nat) q u,g[i]? = some q->us[i]? = some u->H' q=some (.tup [.int u.1,.int u.2]))->bV G sa Y (upd H' t (.lst (T.map V.ref))) (us.map pairD) (g.map V.ref):=by
  intro us
  induction us with
 |nil=>
   intro g hl _;cases g with
  |nil=>exact .nil
  |cons _ _=>cases hl
 |cons u us ih=>
   intro g hl F;cases g with
  |nil=>cases hl
  |cons q g=>
    have D:=F 0 q u rfl rfl;have nq:¬Y q:=λz=>by obtain⟨zs,e⟩:=av q z;rw[n _ _ e]at D;cases D
    exact .cons (.tup nq (by rw[bP (cN D I)];exact D) (.cons (.int _) (.cons (.int _) .nil))) (ih g #v[hl] λi q u S R=>F (i+1) q u #v[S] #v[R])
 refine aw _ _ an λi q u S R=>?_;have W:(j.map (·.1))[i]? = some (kOf u):=by rw[c,bq,R];rfl
 rw[bq]at W;obtain⟨kv,e4,e5⟩:=jr.mp W;have:=aj i q kv S e4;rw[e5]at this;exact this;exact l.elim;exact l.elim
end
end DL
namespace DL
open L2
def Wo(d:D)(Q:Bool->Prop):Prop:=match d with
|.bl b=>Q b
|_=>False
def Dx(d:D)(Q:Int->Prop):Prop:=match d with
|.int b=>Q b
|_=>False
def Wn(d:D)(Q:a5 D->Prop):Prop:=match d with
|.lst b=>Q b
|_=>False
def mKt(d:D)(Q:a5 D->Prop):Prop:=match d with
|.kt b=>Q b
|_=>False
def mZl(d:D)(Q:a5 D->Prop):Prop:=match d with
|.zl b=>Q b
|_=>False
def SG(d:D)(Q:a5 D->Prop):Prop:=match d with
|.lst b=>Q b
|.zl b=>Q b
|_=>False
def aas(d:D)(Q:D->D->Prop):Prop:=match d with
|.yX r p=>Q r p
|_=>False
def mSh(d:D)(Q:Prop):Prop:=match d with
|.dU=>Q
|_=>False
def mIL(d:D)(Q:Bool->Prop):Prop:=match d with
|.int _=>Q false
|.lst _=>Q true
|_=>False
def M9(s:Option (Option Sl))(Q:D->Prop):Prop:=match s with
|some (some (.sh d))=>Q d
|_=>False
def mOw(s:Option (Option Sl))(Q:a5 D->Prop):Prop:=match s with
|some (some (.ow d))=>Q d
|_=>False
def Wq(s:Option D)(Q:D->Prop):Prop:=match s with
|some d=>Q d
|none=>False
section
variable{x A:uC}{b:Env}{a q:a5 D}{i:CO}{d n M:jg}{h P Z:Nat}{g:lJ}{j:a5 D->a5 D->Prop}{o H:xp}{B X:D->D->(D->Prop)->Prop}{e:D->a5 D->Prop}{C:Int->Int->Prop}{F:Int->Int->D}{f k u O:Int}{c:D->Prop}{l v v0:D}{V:a5 D->(D->Prop)->Prop}{W:FP}{G:FS}{p:Bool->a5 D->Prop}{I:Option Int->a5 D->Prop}{J L:Xg}{Y:a5 D->a5 D->(a5 D->Prop)->Prop}{t N:Bool}{m:a5 D->Prop}{y:Env->Prop}{z:Bool->Prop}{R:Int->Prop}{T:D->D->Prop}{v1:Prop}{v2:Int->Int->Int->Prop}{w:a5 Int}{r:a5 (Int×Int)}{U:Int×Int}{v3:Nat->Prop}{v4:Tab}{v5:ao}{v6:ao->Prop}{v7:a5 ao}{v8:ao->FS}
theorem QZ:(uA x A b a i=x b a ⟨λc d=>A c d i,i.rt⟩):=rfl
theorem Vl:(Tt b a i=i.nx b a):=rfl
theorem YS:(Ts d b a i=d b a i.rt):=rfl
theorem Vp:(Ym d b a i=d b a λ_ c=>i.nx b c):=rfl
theorem YR:(Ae h d b a i=d b a λZ c=>i.nx (b.set h (some (.sh Z))) c):=rfl
theorem Vi:(NH h g b a i=g b a λds c=>i.nx (b.set h (some (.ow ds))) c):=rfl
theorem Vn:(Tv g b a j=g b a λxs c=>xs.length<=aQ/\j xs c):=rfl
theorem Y8:(aaX o x A b a i=o b a λZ c=>(Z=true->x b c i)/\(Z=false->A b c i)):=rfl
theorem abR:(rC B d n b a e=d b a λx f=>n b f λy c=>B x y λZ=>e Z c):=rfl
theorem aew:(dI C F (.int f) (.int k) c=(C f k/\c (F f k))):=rfl
theorem abU:(WU F (.int f) (.int k) c=c (F f k)):=rfl
theorem aex:(dC l b a e=e l a):=rfl
theorem abV:(Qy V g b a e=g b a λds c=>V ds λd=>e d c):=rfl
theorem Vq:(g7 d g b a j=d b a λx f=>g b f λxs c=>j (x::xs) c):=rfl
theorem YY:(nQ b a j=j [] a):=rfl
theorem YO:(ac4 g b a e=g b a λxs c=>xs.length<=aQ/\e (.tup xs) c):=rfl
theorem Y4:(adb g b a e=g b a λxs c=>xs.length<=aQ/\e (.lst xs) c):=rfl
theorem Vr:(EL W g b a e=g b a λds c=>W ds λd=>e d c):=rfl
theorem Q6:(LW G g b a e=g b a λds c=>G ds c e):=rfl
theorem Vh:(qp d b a p=d b a λY c=>Wo Y λZ=>p Z c):=rfl
theorem Zg:(adi o H b a p=o b a λc d=>(c=true->H b d p)/\(c=false->p false d)):=rfl
theorem abQ:(dOr o H b a p=o b a λc d=>(c=true->p true d)/\(c=false->H b d p)):=rfl
theorem YX:(ac9 o b a p=o b a λc d=>p (!c) d):=rfl
theorem Vt:(Yo d n b a e=d b a λZ f=>Wo Z λc=>(c=true->n b f e)/\(c=false->e (.bl false) f)):=rfl
theorem YW:(ac8 d n b a e=d b a λZ f=>Wo Z λc=>(c=true->e (.bl true) f)/\(c=false->n b f e)):=rfl
theorem Vk:(Yk d b a e=d b a λZ f=>Wo Z λc=>e (.bl (!c)) f):=rfl
theorem abT:(dIf o d n b a e=o b a λZ c=>(Z=true->d b c e)/\(Z=false->n b c e)):=rfl
theorem YZ:(ada d b a e=d b a λZ c=>Dx Z λi=>e (.int (-i)) c):=rfl
theorem Vj:(zm d b a I=d b a λZ c=>Dx Z λi=>I (some i) c):=rfl
theorem Od:(NJ b a I=I none a):=rfl
theorem abP:(dSl d J L b a e=d b a λZ g=>J b g λlo f=>L b f λhi c=>SG Z λds=>e (.lst (cutD ds lo hi)) c):=rfl
theorem YQ:(aaV d J L b a j=d b a λZ g=>J b g λlo f=>L b f λhi c=>mZl Z λds=>j (cutD ds lo hi) c):=rfl
theorem YL:(acM d b a j=d b a λZ c=>Wn Z λds=>j ds c):=rfl
theorem U7:(Yd d b a j=d b a λZ c=>mKt Z λds=>j ds c):=rfl
theorem YT:(ac5 d b a e=d b a λZ c=>aas Z λr p=>e r c):=rfl
theorem YU:(ac6 d b a e=d b a λZ c=>aas Z λr p=>e p c):=rfl
theorem Vm:(Tu G d g b a e=d b a λZ c=>c≠[]/\mSh Z (g b c λds f=>G (.dU::ds) f e)):=rfl
theorem Q3:(GF B X d n M b a e=d b a λx g=>n b g λy c=>B x y λz=>Wo z λk=>(k=true->M b c λw f=>X y w λZ=>e Z f)/\(k=false->e (.bl false) c)):=rfl
theorem Oe:(NK d b a e=d b a λY c=>mIL Y λZ=>e (.bl Z) c):=rfl
theorem Of:(NL d n b a e=d b a λx f=>Wn x λxs=>n b f λy c=>yB (.lst xs) y λZ=>e Z c):=rfl
theorem YN:(iw h b a e=M9 b[h]? λd=>e d a):=rfl
theorem Zf:(WW h d b a i=M9 b[h]? λx=>Dx x λn=>d b a λZ c=>Dx Z λm=>i.nx (b.set h (some (.sh (.int (n+m))))) c):=by
 unfold WW M9;cases h:b[h]? with
|none=>rfl
|some o=>
  cases o with
 |none=>rfl
 |some sl=>
   cases sl with
  |ow ds=>rfl
  |sh Z=>cases Z<;>exact propext Au
theorem Y9:(PR h x b a i=mOw b[h]? λds=>x (b.set h (some (.sh (.lst ds)))) a i):=rfl
theorem Y3:(JC h g Y b a i=(acL b h/\g b a λd f=>mOw b[h]? λds=>Y ds d λc=>i.nx (b.set h (some (.ow c))) f)):=rfl
theorem Ze:(adh h d b a e=(a=[]/\mOw b[h]? λds=>d (b.set h (some (.sh (.lst ds)))) a λZ c=>c=[]/\O6 Z=true/\e Z [])):=rfl
theorem Vs:(Yn h o b a p=(a=[]/\mOw b[h]? λds=>o (b.set h (some (.sh (.lst ds)))) a λZ c=>c=[]/\p Z [])):=rfl
theorem Y6:(Hg (.tup a) (.int f) c=Wq (nT a f) c):=rfl
theorem Q0:(Hg (.lst a) (.int f) c=Wq (nT a f) c):=rfl
theorem Y7:(Hg (.kt a) (.int f) c=Wq (nT a f) c):=rfl
theorem Y5:(Hg (.zl a) (.int f) c=Wq (nT a f) c):=rfl
theorem Zd:(WV (.lst a) (.lst q) c=(a.length+q.length<=aQ/\c (.lst (a++q)))):=rfl
theorem Zb:(dEq (.int f) (.int k) c=c (.bl (decide (f=k)))):=rfl
theorem Y1:(dNe (.int f) (.int k) c=c (.bl (!decide (f=k)))):=rfl
theorem Zc:(dEq (.bl t) (.bl N) c=c (.bl (decide (t=N)))):=rfl
theorem Y2:(dNe (.bl t) (.bl N) c=c (.bl (!decide (t=N)))):=rfl
theorem Za:(dEq (.tup [.int f,.int k]) (.tup [.int u,.int O]) c=c (.bl (decide (f=u/\k=O)))):=rfl
theorem Y0:(dNe (.tup [.int f,.int k]) (.tup [.int u,.int O]) c=c (.bl (!decide (f=u/\k=O)))):=rfl
theorem abS:(dIs l .jw c=c (.bl (Yb l))):=rfl
theorem Q1:(LU l .jw c=c (.bl (!Yb l))):=rfl
theorem Vf:(Gz [.lst a] c=c (.int (a.length:Nat))):=rfl
theorem Vd:(Gz [.zl a] c=c (.int (a.length:Nat))):=rfl
theorem Ve:(Gz [.tup a] c=c (.int (a.length:Nat))):=rfl
theorem YM:(aaQ [.int f] c=c (.int (if f<0 then -f else f))):=rfl
theorem Vc:(Tc [.int f,.int k] c=c (.int (max f k))):=by show c (.int (if k > f then k else f))=_;rw[show(if k > f then k else f)=max f k by lia]
theorem U9:(Tb [.int f,.int k] c=c (.int (min f k))):=by show c (.int (if k<f then k else f))=_;rw[show(if k<f then k else f)=min f k by lia]
theorem Vb:(Yg [.int f,.int k,.int u] c=c (.int (max f (max k u)))):=rfl
theorem Vg:(acV [.bl t] c=c (.int (if t then 1 else 0))):=rfl
theorem QX:(Td [.lst a] c=c (.lst a)):=rfl
theorem QV:(Td [.tup a] c=c (.lst a)):=rfl
theorem QR:(LH [.lst a] c=c (.tup a)):=rfl
theorem Fm:(vN [.lst a] c=c (.lst a.reverse)):=rfl
theorem Ob:(t8 a [l] m=(a.length<aQ/\m (a++[l]))):=rfl
theorem Oa:(AR a [.lst q] m=(a.length+q.length<=aQ/\m (a++q))):=rfl
theorem Ky:(Jx a [.tup q] m=(a.length+q.length<=aQ/\m (a++q))):=rfl
theorem UZ:(z8 (.one h) l b y=y (b.set h (some (.sh l)))):=rfl
theorem UY:(z8 (.two h P) (.tup [l,v]) b y=y ((b.set h (some (.sh l))).set P (some (.sh v)))):=rfl
theorem UX:(z8 (.three h P Z) (.tup [l,v,v0]) b y=y (((b.set h (some (.sh l))).set P (some (.sh v))).set Z (some (.sh v0)))):=rfl
theorem abN:(Wo (.bl t) z=z t):=rfl
theorem YI:(Dx (.int f) R=R f):=rfl
theorem YH:(Wn (.lst a) m=m a):=rfl
theorem abI:(mKt (.kt a) m=m a):=rfl
theorem abF:(mZl (.zl a) m=m a):=rfl
theorem U5:(SG (.lst a) m=m a):=rfl
theorem U4:(SG (.zl a) m=m a):=rfl
theorem YF:(aas (.yX l v) T=T l v):=rfl
theorem abG:(mSh .dU v1=v1):=rfl
theorem YK:(mIL (.int f) z=z false):=rfl
theorem YJ:(mIL (.lst a) z=z true):=rfl
theorem U3:(M9 (some (some (.sh l))) c=c l):=rfl
theorem abH:(mOw (some (some (.ow a))) m=m a):=rfl
theorem abO:(Wq (some l) c=c l):=rfl
def acF(ds:a5 D)(Q:a5 D->a5 D->Prop):Prop:=o2 ds λa b=>oL a λx=>oL b λy=>Q x y
theorem YE:acF [.lst a,.lst q] j=j a q:=rfl
theorem U6:Yc g b a j=g b a λds d=>acF ds λxs c=>j ((xs.zip c).map λz=>.tup [z.1,z.2]) d:=rfl
def mI1(ds:a5 D)(Q:Int->Prop):Prop:=match ds with
|[.int i]=>Q i
|_=>False
def mI2(ds:a5 D)(Q:Int->Int->Prop):Prop:=o2 ds λa b=>oI a λx=>oI b λy=>Q x y
def mI3(ds:a5 D)(Q:Int->Int->Int->Prop):Prop:=match ds with
|[.int i,.int j,.int c]=>Q i j c
|_=>False
theorem abL:mI1 [.int f] R=R f:=rfl
theorem abK:mI2 [.int f,.int k] C=C f k:=rfl
theorem abJ:mI3 [.int f,.int k,.int u] v2=v2 f k u:=rfl
theorem N9:AN g b a j=g b a λds c=>mI1 ds λZ=>(-(2 ^ 62)<=Z/\Z<2 ^ 62)/\j (C4 0 Z.toNat) c:=rfl
theorem N8:Gs g b a j=g b a λds c=>mI2 ds λi Z=>(-(2 ^ 62)<=i/\i<2 ^ 62/\-(2 ^ 62)<=Z/\Z<2 ^ 62)/\j (C4 i (Z-i).toNat) c:=rfl
theorem N7:Nh g b a j=g b a λds d=>mI3 ds λi Z c=>∃n:Nat,RgC i Z c n/\j (OD i c n) d:=rfl
theorem Oc:NI g b a j=g b a λds c=>mI1 ds λn=>0<=n/\n<=1000000/\j ((cf n.toNat).map λ(i:Nat)=>D.int i) c:=rfl
theorem QU:WJ [.lst (w.map D.int)] c=c (.int w.sum):=by unfold WJ;dsimp only;rw[kQ]
theorem Va:Jw [.lst ((f::w).map D.int)] c=c (.int (w.foldl max f)):=by unfold Jw;dsimp only;rw[kQ]
theorem adZ:Jv [.lst ((f::w).map D.int)] c=c (.int (w.foldl min f)):=by unfold Jv;dsimp only;rw[kQ]
theorem Hv:t7 [.lst (w.map D.int)] c = ∀a:a5 Int,a.Perm w->a.Pairwise (·<=·)->c (.lst (a.map D.int)):=by unfold t7;dsimp only;rw[kQ]
theorem Hu:t6 [.lst (r.map pairD)] c = ∀a:a5 (Int×Int),a.Perm r->a.Pairwise d6->c (.lst (a.map pairD)):=by unfold t6;dsimp only;rw[k5]
theorem Kx:sQ [.lst (r.map pairD)] c = ∀a:a5 (Int×Int),a.Perm r->(a.map swap).Pairwise d6->c (.lst (a.map pairD)):=by unfold sQ;dsimp only;rw[k5]
theorem U8:Js [.lst (r.map pairD)] c=(r≠[]/\∀p∈r,(∀a∈r,d6 (swap p) (swap a))->c (pairD p)):=by unfold Js;dsimp only;rw[k5]
theorem Q2:yB (.lst (r.map pairD)) (pairD U) c=(U∈r/\c (.int (r.idxOf U:Nat))):=by
 show(match jJ (r.map pairD) with
 |some ps=>U∈ps/\c (.int (ps.idxOf U:Nat))
 |none=>False)=_
 rw[k5]
def X9(ds:a5 D)(Q:D->D->Prop):Prop:=match ds with
|[r,p]=>Q r p
|_=>False
theorem U2:X9 [l,v] T=T l v:=rfl
theorem QY:LS g b a e=g b a λds c=>X9 ds λr p=>e (.yX r p) c:=rfl
def acH(o:Option Nat)(Q:Nat->Prop):Prop:=match o with
|some j=>Q j
|none=>False
theorem YG:acH (some h) v3=v3 h:=rfl
theorem YV:ac7 d n b a e=d b a λY f=>mSh Y (f≠[]/\n b f λy c=>c≠[]/\Dx y λZ=>Wq (nT c Z) λY=>e Y c):=rfl
theorem Vo:Yl d n M b a i=d b a λv g=>n b g λY f=>mSh Y (f≠[]/\M b f λy c=>c≠[]/\Dx y λZ=>acH (Nd c.length Z) λj=>i.nx b (c.set j v)):=rfl
theorem Q4:Tw v4 d b a e=d b a λZ c=>Dx Z λn=>Wq (v4.lookup n) λZ=>e Z c:=rfl
def mFn(s:Option (Option Sl))(Q:ao->Prop):Prop:=match s with
|some (some (.sh (.fn a)))=>Q a
|_=>False
theorem abM:mFn (some (some (.sh (.fn v5)))) v6=v6 v5:=rfl
theorem Q5:LV v7 v8 h g b a e=mFn b[h]? λZ=>Z∈v7/\g b a λds c=>v8 Z ds c e:=rfl
end
theorem mE{α:Type}(l:a5 α)(n:Nat):nT l (n:Int)=l[n]?:=by unfold nT Nd;rw[if_pos #v[]];by_cases h:n<l.length;rw[if_pos #v[]];simp;rw[if_neg #v[],fX #v[]];rfl
theorem at0{α:Type}(a:α)(l:a5 α):nT (a::l) 0=some a:=by have:=mE (a::l) 0;simpa using this
theorem at1{α:Type}(a b:α)(l:a5 α):nT (a::b::l) 1=some b:=by have:=mE (a::b::l) 1;simpa using this
theorem at2{α:Type}(a b c:α)(l:a5 α):nT (a::b::c::l) 2=some c:=by have:=mE (a::b::c::l) 2;simpa using this
theorem at3{α:Type}(a b c d:α)(l:a5 α):nT (a::b::c::d::l) 3=some d:=by have:=mE (a::b::c::d::l) 3;simpa using this
theorem at4{α:Type}(a b c d e:α)(l:a5 α):nT (a::b::c::d::e::l) 4=some e:=by have:=mE (a::b::c::d::e::l) 4;simpa using this
local macro_rules|`(tactic|simp! only[$l,*])=>do let i:=("YE U6 abL abK abJ N9 N8 N7 Oc QU U2 QY YG YV Vo Q4 abM Q5 QZ Vl YS Vp YR Vi Vn Y8 abR aew abU aex abV Vq YY YO Y4 Vr Q6 Vh Zg abQ YX Vt YW Vk abT YZ Vj Od abP YQ YL U7 YT YU Vm Q3 Oe Of YN Zf Y9 Y3 Ze Vs Y6 Q0 Y7 Y5 Zd Zb Y1 Zc Y2 Za Y0 abS Q1 Vf Vd Ve YM Vc U9 Vb Vg QX QV QR Fm Ob Oa Ky UZ UY UX abN YI YH abI abF U5 U4 YF abG YK YJ U3 abH abO ko a9 iU aL de fC aU fQ cG Ke gG List.set_cons_zero List.set_cons_succ Nat.reduceAdd Nat.reduceSub reduceCtorEq false_implies implies_true and_true true_and forall_const at0 at1 at2 at3 at4".splitOn " ").toArray.map fun s=>Lean.mkIdent s.toName;`(tactic|simp only[$[$i:ident],*,$l,*])
abbrev En(Q:D->Prop):CO:=⟨λ_ _=>Q .jw,λd _=>Q d⟩
abbrev EnS(Q:D->a5 D->Prop):CO:=⟨λ_ a=>Q .jw a,Q⟩
def JZ(K:au)(x a:Str)(st:jv)(f:ao):Prop:=∃(h:ak)(g j:Option ao)(d:Array (Option ak))(kV i c b ct:ak),
 K.lookup f=some ⟨h,g,.func (fu x a (lH st) (gT st) (b7 st) .none kV i c j b ct),d⟩/\i7 K b a=true/\c8 K (.ref f)=true
theorem JZ.fn{K:au}{x a:Str}{st:jv}{f:ao}(d:JZ K x a st f):∃b,Ud K x a st f b:=by obtain⟨j,i,o,h,kV,m,g,n,ct,l,c,k⟩:=d;exact⟨_,S7 l c k⟩
abbrev N0(x a:Str)(st:jv)(ps:a5 Str):Prop:=∀(kV c b:ak)(f:Option ao)(d ct:ak)(us:a5 ak),us.length=ps.length->bindArgs (fu x a (lH st) (gT st) (b7 st) .none kV c b f d ct) ⟨us,[]⟩=pure (ps.zip us)
def qy(l:a5 ao)(k:Nat):ao:=l.getD k 0
theorem NW{l:a5 ao}(nd:l.Nodup)(hl:l.length=25):∀i<25,∀j<25,qy l i=qy l j->i=j:=by intro i hi j hj e;unfold qy at e;rw[cA,cA,aw #v[],aw #v[]]at e;exact(UN nd).mp e
theorem FnS.at{P:bC}{w:cu}{K:au}{mg:Str->Option ak}{base:cY}{G:Gb}{x:Str}{k c:Nat}{F:FS}{f:ao}(h:FnS P w K mg base G x k F)(d:mg x=some (.ref f))(l:k<=c):
  ∃b ps,lS P w K mg base CQ c f b ps (spS G F)/\c8 K (.ref f)=true/\Binds K b ps []:=by obtain⟨m,b,ps,j,a,i,g⟩:=h;rw[d]at a;injection a with a;injection a with a;subst a;exact⟨b,ps,j.mono l,i,g⟩
def ND(K:au)(x:Str)(st:jv):Prop:=∃f,bt K bc x=some (some (.ref f))/\JZ K x x st f
def N1(K:au)(x:Str)(st:jv)(f:ao):Prop:=bt K bc x=some (some (.ref f))/\JZ K x x st f
def NM(K:au)(C:ao)(x q:Str)(st:jv):Prop:=∃f,cH K (.ref C) x=some (some (.ref f))/\lL K (.ref f)=true/\JZ K x q st f
structure Facts (K:au) (cS cT fI fJ aC:ao) (fs:a5 ao):Prop where
 kS:bt K bc "Shape" = some (some (.ref cS))
 kS1:kg K cS Str.empty=true
 kS2:lM K cS=true
 kS3:pB K cS=true
 kS4:cH K (.ref cS) "__setattr__" = some (some (.builtin "object.__setattr__"))
 kS5:rK K cS=true
 kS6:c8 K (.ref cS)=true
 kS7:cH K (.ref cS) "__init__" = some (some (.ref fI))
 kS8:lL K (.ref fI)=true
 kS9:JZ K "__init__" "Shape.__init__" Bj fI
 kT:bt K bc "Sheet" = some (some (.ref cT))
 kT1:kg K cT Str.empty=true
 kT2:lM K cT=true
 kT3:pB K cT=true
 kT4:cH K (.ref cT) "__setattr__" = some (some (.builtin "object.__setattr__"))
 kT5:rK K cT=true
 kT6:c8 K (.ref cT)=true
 kT7:cH K (.ref cT) "__init__" = some (some (.ref fJ))
 kT8:lL K (.ref fJ)=true
 kT9:JZ K "__init__" "Sheet.__init__" Bi fJ
 Gp:cH K (.ref cS) "radius" = some none
 rB:cH K (.ref cS) "points" = some none
 kTp:cH K (.ref cT) "places" = some none
 kC:bt K bc "CALLS" = some (some (.ref aC))
 Sw:ND K "box_of" (top 1)
 Dl:ND K "squared_gap" (top 2)
 BN:ND K "covered_area" (top 3)
 yr:ND K "covered_length" (top 4)
 IV:ND K "left_turn" (top 7)
 vH:ND K "squared_distance" (top 8)
 Li:ND K "low_left" (top 9)
 BU:ND K "all_in_range" (top 10)
 O8:ND K "shifted" (top 11)
 So:ND K "turned" (top 12)
 Pf:ND K "flipped" (top 13)
 Ga:ND K "spans_part" (top 15)
 IS:ND K "straddles" (top 16)
 Ab:ND K "segments_meet" (top 17)
 F9:ND K "turns_back" (top 18)
 vI:ND K "point_to_segment" (top 19)
 Lh:ND K "sides_of" (top 21)
 Gd:ND K "corners_of" (top 22)
 Ds:ND K "is_skeleton" (top 23)
 wJ:ND K "neighbours_part" (top 24)
 Dm:ND K "others_part" (top 25)
 Pd:ND K "in_form" (top 26)
 Dv:ND K "double_area" (top 27)
 IX:ND K "is_convex" (top 28)
 qP:ND K "without_flat_corners" (top 29)
 Lj:ND K "encloses" (top 30)
 uv:ND K "skeleton_distance" (top 32)
 yq:ND K "distance_up_to" (top 33)
 uw:ND K "have_common_point" (top 34)
 IU:ND K "meets_one" (top 35)
 wI:ND K "points_to_sides" (top 36)
 Ad:ND K "keep_distance" (top 37)
 ux:ND K "greatest_distance" (top 38)
 Pc:ND K "is_less" (top 39)
 Ss:ND K "lesser" (top 40)
 Dq:ND K "least_terms" (top 41)
 Pe:ND K "hull_of" (top 43)
 Sn:ND K "unlike" Bh
 BM:ND K "left_turning" (top 45)
 Sq:ND K "sum_of" (top 46)
 Wj:ND K "touch" (top 60)
 IZ:ND K "are_apart" (top 61)
 F8:ND K "where_lies" (top 62)
 Pa:ND K "on_side" (top 63)
 wK:ND K "is_bare_polygon" (top 64)
 Dn:ND K "lies_inside" (top 65)
 Su:ND K "is_box" (top 66)
 IW:ND K "is_radius" (top 73)
 Dt:ND K "is_distance" (top 74)
 BL:ND K "triangles_of" (top 76)
 IY:ND K "first_ear" (top 77)
 wW:ND K "begins_with_ear" (top 78)
 Du:ND K "in_triangle" (top 79)
 BP:N1 K "call_put" (top 82) (qy fs 0)
 wU:N1 K "call_clear" (top 83) (qy fs 1)
 zg:N1 K "call_copy" (top 84) (qy fs 2)
 Pb:ND K "move_to" (top 85)
 wM:N1 K "call_shift" (top 86) (qy fs 3)
 y6:N1 K "call_turn" (top 87) (qy fs 4)
 ze:N1 K "call_flip" (top 88) (qy fs 5)
 zd:N1 K "call_grow" (top 89) (qy fs 6)
 y8:N1 K "call_tidy" (top 90) (qy fs 7)
 wN:N1 K "call_shape" (top 91) (qy fs 8)
 BR:N1 K "call_box" (top 92) (qy fs 9)
 zh:N1 K "call_area" (top 93) (qy fs 10)
 uT:N1 K "call_convex" (top 94) (qy fs 11)
 zf:N1 K "call_dist" (top 95) (qy fs 12)
 BQ:N1 K "call_far" (top 96) (qy fs 13)
 wL:N1 K "call_touch" (top 97) (qy fs 14)
 wV:N1 K "call_apart" (top 98) (qy fs 15)
 wO:N1 K "call_point" (top 99) (qy fs 16)
 uS:N1 K "call_inside" (top 100) (qy fs 17)
 zb:N1 K "call_hull" (top 101) (qy fs 18)
 BO:N1 K "call_sum" (top 102) (qy fs 19)
 y9:N1 K "call_near" (top 103) (qy fs 20)
 wR:N1 K "call_close" (top 104) (qy fs 21)
 Pg:ND K "counted" (top 105)
 wQ:N1 K "call_cover" (top 106) (qy fs 22)
 qh:N1 K "call_triangles" (top 107) (qy fs 23)
 BS:N1 K "call_all" (top 108) (qy fs 24)
 vG:ND K "whole_numbers_of" (top 110)
 O9:ND K "rows_of" (top 111)
 IT:ND K "places_in" (top 112)
 Ac:ND K "place_refusal" (top 113)
 Ja:ND K "answer_to" (top 114)
 Ph:ND K "answers" (top 116)
 acE:NM K cT "has" "Sheet.has" (inClass (top 72) 1)
 aal:NM K cT "held" "Sheet.held" (inClass (top 72) 2)
 aak:NM K cT "hold" "Sheet.hold" (inClass (top 72) 3)
 Sv:NM K cT "filled" "Sheet.filled" (inClass (top 72) 4)
 adx:bt K bc "len" = some none
 adz:bt K bc "abs" = some none
 adw:bt K bc "max" = some none
 adv:bt K bc "min" = some none
 adu:bt K bc "sum" = some none
 ady:bt K bc "int" = some none
 aa6:bt K bc "list" = some none
 W7:bt K bc "tuple" = some none
 W8:bt K bc "range" = some none
 adt:bt K bc "zip" = some none
 T5:bt K bc "sorted" = some none
 Ma:bt K bc "reversed" = some none
 GU:bt K bc "isinstance" = some none
 L5:∃tk,bt K bc "FARTHEST" = some (some (.int 1000000000 tk))
 Af:∃tk,bt K bc "NO_SUCH_PLACE" = some (some (.int (-1) tk))
 DD:∃tk,bt K bc "EMPTY_PLACE" = some (some (.int (-2) tk))
 GN:∃tk,bt K bc "WRONG_KIND" = some (some (.int (-3) tk))
 GO:∃tk,bt K bc "BAD_RADIUS" = some (some (.int (-4) tk))
 JP:∃tk,bt K bc "BAD_COUNT" = some (some (.int (-5) tk))
 Cw:∃tk,bt K bc "OUT_OF_RANGE" = some (some (.int (-6) tk))
 DA:∃tk,bt K bc "NO_SKELETON" = some (some (.int (-7) tk))
 Cy:∃tk,bt K bc "BAD_DISTANCE" = some (some (.int (-8) tk))
 yH:∃tk,bt K bc "NO_OTHER_SHAPE" = some (some (.int (-9) tk))
 P1:∃tk,bt K bc "OUTSIDE" = some (some (.int 0 tk))
 TX:∃tk,bt K bc "ON_RIM" = some (some (.int 1 tk))
 TY:∃tk,bt K bc "INSIDE" = some (some (.int 2 tk))
 TV:∃tk,bt K bc "PLACES" = some (some (.int 64 tk))
 xk:∃tk,bt K bc "GREATEST_RADIUS" = some (some (.int 1000000000 tk))
 uB:∃tk,bt K bc "GREATEST_DISTANCE" = some (some (.int 1000000000 tk))
 DB:∃tk,bt K bc "MOST_POINTS" = some (some (.int 32 tk))
 nd:fs.Nodup
 ln:fs.length=25
structure Qz (P:bC) (w:cu) (K:au) (mg:Str->Option ak) (base:cY) (cS cT fI fJ aC:ao) (fs:a5 ao):Prop extends Facts K cS cT fI fJ aC fs where
 n:∀x v,bt K bc x=some (some v)->mg x=some v
 o:∀x,bt K bc x=some none->mg x=none
theorem blc{n:Nat}:∀{us:a5 ak},us.length=n+1->∃u t,us=u::t/\t.length=n
|u::t,h=>⟨u,t,rfl,Nat.succ.inj h⟩
local macro_rules|`(tactic|ac_nf)=>`(tactic|simp! only[])
local macro_rules|`(tactic|walk_at "B")=>`(tactic|(intro _ _ _ _ _ _ us hl;(repeat (obtain⟨_,us,h,k⟩:=blc hl;clear hl;subst h;have hl:=k;clear k));have h:=List.eq_nil_of_length_eq_zero hl;subst h;exact rfl))
local macro_rules|`(tactic|walk_at "C")=>`(tactic|exact⟨rfl,rfl,rfl,#v[2],rfl,#v[2],#v[2]⟩)
local macro_rules|`(tactic|walk_at "P")=>`(tactic|(intro ds Q h;first|(cases h;subst_vars;rfl)|(cases h;rename_i h;cases h;subst_vars;rfl)|(repeat (obtain⟨_,h⟩:=h));subst_vars;rfl))
local macro_rules|`(tactic|walk_at "S")=>`(tactic|(intro ds S Q h;first|(cases h;subst_vars;rfl)|(cases h;rename_i h;cases h;subst_vars;rfl)|(repeat (obtain⟨_,h⟩:=h));subst_vars;rfl))
section
variable{P:bC}{w:cu}{K:au}{mg:Str->Option ak}{base:cY}{cS cT fI fJ aC:ao}{fs:a5 ao}{x q:Str}{st:jv}{k:Nat}{N ps:a5 Str}{t:uC}
section
variable(e:Qz P w K mg base cS cT fI fJ aC fs)
abbrev VP(_:Qz P w K mg base cS cT fI fJ aC fs)(x:Str)(k:Nat)(F:FP):Prop:=FnP P w K mg base ⟨K,cS,cT⟩ x k F
abbrev VS(_:Qz P w K mg base cS cT fI fJ aC fs)(x:Str)(k:Nat)(F:FS):Prop:=FnS P w K mg base ⟨K,cS,cT⟩ x k F
abbrev VM(_:Qz P w K mg base cS cT fI fJ aC fs)(x:Str)(k:Nat)(F:FS):Prop:=MtS P w K mg base ⟨K,cS,cT⟩ cT x k F
include e
theorem LQ(n:ND K x st)(b:N0 x x st ps):Def K mg x st ps:=by obtain⟨f,n,d⟩:=n;obtain⟨a,F⟩:=d.fn;exact⟨f,a,F,e.n _ _ n,F.binds b⟩
omit e in
theorem N1.nd{f:ao}(n:N1 K x st f):ND K x st:=⟨f,n⟩
theorem lX(N:a5 Str)(m:Nat){F:FP}(n:ND K x st)(d:∀{f:ao}{a:ak}{A:bT}{outer:a5 rf}{s:aB}{H:Hp}{E:XK},N.Nodup->gC k (A.deeper (nu x (b7 st) s.heap.objs.size f a))->Km (yC CQ P w K mg base N x (b7 st) f a A outer s H E).Se ⟨K,cS,cT⟩ (gT st) t)(c:∀ds Q,F ds Q->t (ko N ds) [] (En Q))(b:N0 x x st (N.take m):=by walk_at "B")(sc:ke N (N.take m) (b7 st):=by walk_at "C")(len:∀ds Q,F ds Q->ds.length=(N.take m).length:=by walk_at "P"):VP e x (k+1) F:=aaM (LQ e n b) sc len (λ_ _ _ _ _ _ _ r=>d sc.nd r) c
theorem xH(N:a5 Str)(m:Nat){F:FS}(n:ND K x st)(d:∀{f:ao}{a:ak}{A:bT}{outer:a5 rf}{s:aB}{H:Hp}{E:XK},N.Nodup->gC k (A.deeper (nu x (b7 st) s.heap.objs.size f a))->Km (yC CQ P w K mg base N x (b7 st) f a A outer s H E).Se ⟨K,cS,cT⟩ (gT st) t)(c:∀ds S Q,F ds S Q->t (ko N ds) S (EnS Q))(b:N0 x x st (N.take m):=by walk_at "B")(sc:ke N (N.take m) (b7 st):=by walk_at "C")(len:∀ds S Q,F ds S Q->ds.length=(N.take m).length:=by walk_at "S"):VS e x (k+1) F:=aaL (LQ e n b) sc len (λ_ _ _ _ _ _ _ r=>d sc.nd r) c
theorem mkM(N:a5 Str)(m:Nat){F:FS}(n:NM K cT x q st)(h:∀{f:ao}{a:ak}{A:bT}{outer:a5 rf}{s:aB}{H:Hp}{E:XK},N.Nodup->gC k (A.deeper (nu q (b7 st) s.heap.objs.size f a))->Km (yC CQ P w K mg base N q (b7 st) f a A outer s H E).Se ⟨K,cS,cT⟩ (gT st) t)(c:∀ds S Q,F ds S Q->t (ko N ds) S (EnS Q))(b:N0 x q st (N.take m):=by walk_at "B")(sc:ke N (N.take m) (b7 st):=by walk_at "C")(len:∀ds S Q,F ds S Q->ds.length=(N.take m).length:=by walk_at "S"):VM e x (k+1) F:=by obtain⟨f,n,i,d⟩:=n;obtain⟨g,F⟩:=d.fn;exact aan ⟨f,g,F,⟨n,i,F.kp⟩,F.binds b⟩ sc len (λ_ _ _ _ _ _ _ r=>h sc.nd r) c
omit e in
theorem rm{j:Nat}{A:bT}(a:gC k A)(l:j<=k:=by decide):gC j A:=a.mono l
theorem Qz.mG:Fb K cS:=⟨e.kS1,e.kS2,e.kS3,e.kS4⟩
theorem Qz.nE:Fb K cT:=⟨e.kT1,e.kT2,e.kT3,e.kT4⟩
theorem Qz.B:Bl mg:=⟨e.o _ e.adx,e.o _ e.adz,e.o _ e.adw,e.o _ e.adv,e.o _ e.adu,e.o _ e.ady,e.o _ e.aa6,e.o _ e.W7,e.o _ e.W8,e.o _ e.adt,e.o _ e.T5,e.o _ e.Ma,e.o _ e.GU⟩
theorem Qz.C:Cn mg:=⟨(let⟨tk,h⟩:=e.L5;⟨tk,e.n _ _ h⟩),(let⟨tk,h⟩:=e.Af;⟨tk,e.n _ _ h⟩),(let⟨tk,h⟩:=e.DD;⟨tk,e.n _ _ h⟩),(let⟨tk,h⟩:=e.GN;⟨tk,e.n _ _ h⟩),(let⟨tk,h⟩:=e.GO;⟨tk,e.n _ _ h⟩),(let⟨tk,h⟩:=e.JP;⟨tk,e.n _ _ h⟩),(let⟨tk,h⟩:=e.Cw;⟨tk,e.n _ _ h⟩),(let⟨tk,h⟩:=e.DA;⟨tk,e.n _ _ h⟩),(let⟨tk,h⟩:=e.Cy;⟨tk,e.n _ _ h⟩),(let⟨tk,h⟩:=e.yH;⟨tk,e.n _ _ h⟩),(let⟨tk,h⟩:=e.P1;⟨tk,e.n _ _ h⟩),(let⟨tk,h⟩:=e.TX;⟨tk,e.n _ _ h⟩),(let⟨tk,h⟩:=e.TY;⟨tk,e.n _ _ h⟩),(let⟨tk,h⟩:=e.TV;⟨tk,e.n _ _ h⟩),(let⟨tk,h⟩:=e.xk;⟨tk,e.n _ _ h⟩),(let⟨tk,h⟩:=e.uB;⟨tk,e.n _ _ h⟩),(let⟨tk,h⟩:=e.DB;⟨tk,e.n _ _ h⟩)⟩
theorem Qz.Y:∃a,abc P w K mg base cS fI a:=by obtain⟨a,b⟩:=e.kS9.fn;exact⟨a,e.mG,e.Gp,e.rB,⟨e.kS5,e.kS7,e.kS8,e.kS6⟩,OW b e.mG e.Gp e.rB,e.n _ _ e.kS,b.binds (by walk_at "B")⟩
omit e in
theorem yb{X:Cx}{a:bL}{b:a5 bL}{p pos:Pos}{t:lJ}(e:Qz X.prog X.w X.K X.mg X.base cS cT fI fJ aC fs)(c:gC k X.A)(h:QA X ⟨X.K,cS,cT⟩ (a::b) t)(l:2<=k:=by decide)(f:Gl X "Shape":=by rfl)(g:aG (a::b) X.env=(false,cg a X.env)::aG b X.env:=by rfl)(d:(ef pos (aG b X.env)).any (·.1)=false:=by rfl):QE X ⟨X.K,cS,cT⟩ (.Call (.Name "Shape" p) (a::b) [] pos) (LS t):=by obtain⟨_,Y⟩:=e.Y;exact RB Y.mk_ Y.ini (c.mono l) f Y.mg_ Y.bd h #v[1] g d
theorem K7:VP e "unlike" 1 qz:=OS (LQ e e.Sn (by walk_at "B")) e.B rfl
end
section
variable(e:Qz P w K mg base cS cT fI fJ aC fs)
variable(ds S:a5 D)(Q:D->Prop)(R:D->a5 D->Prop)
omit e in
theorem gY{X:Cx}{G:Gb}{p pos:Pos}{a:bL}{t:lJ}(B:Bl X.mg)(f:QA X G [a] t)(g:X.K=G.K:=by rfl)(c:Gl X "len":=by rfl)(d:aG [a] X.env=(false,cg a X.env)::aG [] X.env:=by rfl)(b:(ef pos (aG [] X.env)).any (·.1)=false:=by rfl):QE X G (.Call (.Name "len" p) [a] [] pos) (Qy Gz t):=fi (aa3 g) GL c B.afa #v[2] f #v[1] #v[1] d b
abbrev Pt:=Vbpcaa.Pt
def pD(p:Pt):D:=.tup [.int p.x,.int p.y]
def d5(l:a5 Pt):D:=.lst (l.map pD)
def fD(f:Int×Int):D:=.tup [.int f.1,.int f.2]
def bD(b:Int×Int×Int×Int):D:=.tup [.int b.1,.int b.2.1,.int b.2.2.1,.int b.2.2.2]
def sD(e:Pt×Pt):D:=.tup [pD e.1,pD e.2]
def CU(l:a5 (Pt×Pt)):D:=.lst (l.map sD)
def B1(p:Pt):Prop:=-1000000000<=p.x/\p.x<=1000000000/\-1000000000<=p.y/\p.y<=1000000000
def B2(p:Pt):Prop:=-2000000000<=p.x/\p.x<=2000000000/\-2000000000<=p.y/\p.y<=2000000000
theorem B1.b2{p:Pt}(h:B1 p):B2 p:=by unfold B1 at h;unfold B2;lia
theorem cm{i j:Int}(h:-(2 ^ 64)<i/\i<2 ^ 64):Qi i j:=.inl h
inductive J6:Prop
|mk (a b c:Pt) (_:ds=[pD a,pD b,pD c]) (_:B2 a) (_:B2 b) (_:B2 c) (_:Q (.int (ag a b c)))
theorem Bc:2<=aQ:=#v[1]
theorem sz4:4<=aQ:=#v[1]
theorem sz3:3<=aQ:=#v[1]
theorem WI(z:Int):(1000000000<if z<0 then -z else z)↔¬(-1000000000<=z/\z<=1000000000):=by split<;>lia
theorem vL{n:Nat}(h:n<=1000):n<=aQ:=bu h #v[1]
theorem eJ:VP e "left_turn" 1 J6:=by refine lX e ["a","b","c"] 3 e.IV (λnd d=>(eI (eX (gM (eX (aW (qv 1) aA) (aW (qv 0) aA)) (eX (aW (qv 2) aA) (aW (qv 0) aA))) (gM (eX (aW (qv 1) aA) (aW (qv 0) aA)) (eX (aW (qv 2) aA) (aW (qv 0) aA)))))) λds Q h=>?_;obtain⟨a,b,c,rfl,i,g,f,q⟩:=h;simp! only[pD,fD,bD,sD,d5,CU];unfold B2 at *;exact⟨cm #v[],cm #v[],q⟩
inductive vS:Prop
|mk (a b:Pt) (_:ds=[pD a,pD b]) (_:B2 a) (_:B2 b) (_:Q (.int (cD a b)))
theorem gw:VP e "squared_distance" 1 vS:=by refine lX e ["a","b","dx","dy"] 2 e.vH (λnd c=>(az (bB 2 nd (eX (aW (qv 0) aA) (aW (qv 1) aA))) (az (bB 3 nd (eX (aW (qv 0) aA) (aW (qv 1) aA))) (eI (gN (gM (qv 2) (qv 2)) (gM (qv 3) (qv 3))))))) λds Q h=>?_;obtain⟨a,b,rfl,f,d,q⟩:=h;simp! only[pD,fD,bD,sD,d5,CU];rw[Sg.eA]at q;unfold B2 at *;exact⟨cm #v[],cm #v[],q⟩
inductive Mi:Prop
|mk (p:Int×Int) (_:ds=[pairD p]) (_:Q (pairD (swap p)))
theorem y3:VP e "low_left" 1 Mi:=by refine lX e ["point"] 1 e.Li (λnd a=>(eI (i6 (ju (aW (qv 0) aA) (aW (qv 0) aA))))) λds Q h=>?_;obtain⟨p,rfl,q⟩:=h;simp! only[pD,fD,bD,sD,d5,CU,pairD];exact⟨vL #v[1],q⟩
section
variable{ti:lJ}{pt:CC}{tt:xp}{te:jg}{tb:uC}{vs:a5 Nat}{ρ:Env}{S:a5 D}{Q:D->a5 D->Prop}{E:CO}{α:Type}
theorem tZ(l:a5 α)(k f:α->D)(g:α->Bool)(p:Nw ρ vs=true)(o:∀R:a5 D->a5 D->Prop,R (l.map k) S->ti ρ S R)(hz:l.length<=aQ)(q:∀a∈l,∀R:Env->Prop,(∀c,(∀m:Bool->a5 D->Prop,m (g a) S->tt c S m)->(g a=true->∀n:D->a5 D->Prop,n (f a) S->te c S n)->R c)->z8 pt (k a) (Hx ρ vs) R)(r:Q (.lst ((l.filter g).map f)) S):dLc ti pt tt te vs ρ S Q:=by
 refine⟨p,o _ ⟨λi acc=>acc=((l.take i).filter g).map f,#v[0],λi d acc hd b=>?_,λacc b=>?_⟩⟩;rw[bq]at hd;obtain⟨a,j,rfl⟩:=jr.mp hd;refine q a (bp j) _ λc t s=>t _ ⟨rfl,λh=>s h _ ⟨rfl,?_,?_⟩,λh=>?_⟩;have hi:i<l.length:=(aJ.mp j).1;have:acc.length<=i:=by rw[b,ai];exact bu (fW _ _) (by rw[bw];exact uk _ _)
 lia;show acc++[f a]=((l.take (i+1)).filter g).map f;rw[ck j,jz,bj,b,rL,if_pos h];rfl;show acc=((l.take (i+1)).filter g).map f;rw[ck j,jz,bj,b,rL,if_neg (by rw[h];exact bR)];simp;rw[ai,bY]at b;rw[b];exact r
theorem Sa{d:D}{P Q:a5 D->Prop}(k:∀l,P l->Q l)(h:oT d P):oT d Q:=by cases d<;>first|exact h.elim|exact k _ h
theorem aah{ds:a5 D}{P Q:D->D->Prop}(k:∀a b,P a b->Q a b)(h:o2 ds P):o2 ds Q:=by rcases ds with _|⟨a,_|⟨b,_|⟨c,l⟩⟩⟩<;>first|exact h.elim|exact k _ _ h
theorem aag{ds:a5 D}{P Q:D->D->D->Prop}(k:∀a b c,P a b c->Q a b c)(h:o3 ds P):o3 ds Q:=by rcases ds with _|⟨a,_|⟨b,_|⟨c,_|⟨d,l⟩⟩⟩⟩<;>first|exact h.elim|exact k _ _ _ h
theorem OP:∀{pt:CC}{d:D}{ρ:Env}{A B:Env->Prop},(∀e,A e->B e)->z8 pt d ρ A->z8 pt d ρ B
|.one i,d,ρ,A,B,k,h=>k _ h
|.two i j,d,ρ,A,B,k,h=>Sa (λ_=>aah λ_ _=>k _) h
|.three i j m,d,ρ,A,B,k,h=>Sa (λ_=>aag λ_ _ _=>k _) h
theorem mn(l:a5 α)(g f:α->D)(n:Nw ρ vs=true)(m:∀R:a5 D->a5 D->Prop,R (l.map g) S->ti ρ S R)(hz:l.length<=aQ)(o:∀a∈l,∀j:D->a5 D->Prop,j (f a) S->z8 pt (g a) (Hx ρ vs) λk=>te k S j)(p:Q (.lst (l.map f)) S):dLc ti pt ac3 te vs ρ S Q:=by refine⟨n,m _ ⟨λi acc=>acc=(l.take i).map f,#v[0],λi d acc hd b=>?_,λacc b=>?_⟩⟩;rw[bq]at hd;obtain⟨a,c,rfl⟩:=jr.mp hd;have hi:i<l.length:=(aJ.mp c).1;have h:=o a (bp c) (λy q=>q=S/\acc.length<aQ/\acc++[y]=(l.take (i+1)).map f) ⟨rfl,by rw[b,ai,bw];lia,by rw[ck c,bj,b];rfl⟩;exact OP (λe h=>⟨rfl,λ_=>h,λz=>nomatch z⟩) h;rw[ai,bY]at b;rw[b];exact p
theorem gQ(l:a5 α)(h:α->D)(J:Nat->Env->Prop)(k:∀R:a5 D->a5 D->Prop,R (l.map h) S->ti ρ S R)(o:J 0 ρ)(m:∀(i:Nat) a ρ,l[i]? = some a->J i ρ->z8 pt (h a) ρ λj=>tb j S ⟨λb c=>c=S/\J (i+1) b,E.rt⟩)(hd:∀ρ,J l.length ρ->E.nx ρ S):PU ti pt tb ρ S E:=by refine k _ ⟨λi b c=>c=S/\J i b,⟨rfl,o⟩,λi d b c g ⟨e,f⟩=>?_,λb c ⟨e,f⟩=>?_⟩;rw[bq]at g;obtain⟨a,n,rfl⟩:=jr.mp g;subst e;exact m i a b n f;subst e;rw[ai]at f;exact hd _ f
theorem jI(l:a5 α)(j:α->D)(J:Env->Prop)(g:α->Bool)(k:D)(n:∀R:a5 D->a5 D->Prop,R (l.map j) S->ti ρ S R)(r:J ρ)(o:∀a∈l,∀ρ,J ρ->∀N:CO,(g a=true->∀b,J b->N.nx b S)->(g a=false->N.rt k S)->z8 pt (j a) ρ λm=>tb m S N)(q:l.all g=false->E.rt k S)(hd:∀ρ,J ρ->l.all g=true->E.nx ρ S):PU ti pt tb ρ S E:=by refine gQ l j (λi b=>J b/\(l.take i).all g=true) n ⟨r,#v[0]⟩ (λi a b f ⟨h,d⟩=>?_) λb ⟨h,d⟩=>hd b h (by rwa[bY]at d);refine o a (bp f) b h _ (λc s p=>⟨rfl,p,?_⟩) λc=>q ?_;rw[ck f,lh,d];simpa using c;rw[Ut];exact⟨a,bp f,by rw[c];exact bR⟩
end
inductive GZ:Prop
|mk (a b c d:Int) (_:ds=[.int a,.int b,.int c,.int d]) (_:Q (.bl (Sg.cQ a b c d)))
theorem aeZ{x y:Bool}{Q:D->Prop}(q:Q (.bl (x||y))):(x=true->Q (.bl true))/\(x=false->Q (.bl y)):=by
 cases x with
|true=>exact⟨λ_=>q,λz=>nomatch z⟩
|false=>exact⟨λz=>(nomatch z),λ_=>q⟩
theorem Iu{x y:Bool}{Q:D->Prop}(q:Q (.bl (x&&y))):(x=true->Q (.bl y))/\(x=false->Q (.bl false)):=by
 cases x with
|true=>exact⟨λ_=>q,λz=>nomatch z⟩
|false=>exact⟨λz=>(nomatch z),λ_=>q⟩
theorem uO:VP e "spans_part" 1 GZ:=by refine lX e ["a","b","c","d"] 4 e.Ga (λnd f=>(eI (XW (MM (fi AS (uh rfl) rfl e.B.Gg #v[2] (ju (qv 0) (qv 1))) (fi NQ (EO rfl) rfl e.B.SE #v[2] (ju (qv 2) (qv 3)))) (vv (MM (fi AS (uh rfl) rfl e.B.Gg #v[2] (ju (qv 2) (qv 3))) (fi NQ (EO rfl) rfl e.B.SE #v[2] (ju (qv 0) (qv 1)))))))) λds Q h=>?_;obtain⟨a,b,c,d,rfl,q⟩:=h;simp! only[pD,fD,bD,sD,d5,CU];exact aeZ q
theorem HL{a b c:Pt}(i:B1 a)(h:B1 b)(g:B1 c):-8000000000000000000<=ag a b c/\ag a b c<=8000000000000000000:=by
 have key:∀u v:Int,-2000000000<=u->u<=2000000000->-2000000000<=v->v<=2000000000->-4000000000000000000<=u*v/\u*v<=4000000000000000000:=λu v f d k j=>by
  have e:(u*v).natAbs<=2000000000*2000000000:=by rw[Int.natAbs_mul];exact pJ #v[] #v[]
  lia
 unfold B1 at *;have f:=key (b.x-a.x) (c.y-a.y) #v[] #v[] #v[] #v[];have d:=key (b.y-a.y) (c.x-a.x) #v[] #v[] #v[] #v[];unfold ag;lia
inductive tH:Prop
|mk (a b c d:Pt) (_:ds=[pD a,pD b,pD c,pD d]) (_:B1 a) (_:B1 b) (_:B1 c) (_:B1 d) (_:Q (.bl (Sg.iZ a b c d)))
theorem wC:VP e "straddles" 2 tH:=by refine lX e ["a","b","c","d"] 4 e.IS (λnd i=>(eI (acp (gM (aN (eJ e) i (rp (qv 0) (qv 1) (qv 2))) (aN (eJ e) i (rp (qv 0) (qv 1) (qv 3)))) aA))) λds Q h=>?_;obtain⟨a,b,c,d,rfl,g,f,j,hd,q⟩:=h;simp! only[pD,fD,bD,sD,d5,CU];refine⟨a,b,c,rfl,g.b2,f.b2,j.b2,a,b,d,rfl,g.b2,f.b2,hd.b2,?_,q⟩;have:=HL g f j;exact cm #v[]
inductive rG:Prop
|mk (a b c d:Pt) (_:ds=[pD a,pD b,pD c,pD d]) (_:B1 a) (_:B1 b) (_:B1 c) (_:B1 d) (_:Q (.bl (Vbpcaa.meet a b c d)))
theorem qe:VP e "segments_meet" 3 rG:=by
 refine lX e ["a","b","c","d"] 4 e.Ab (λnd g=>(az (dv (QW.qt (Bk (d7 (aN (uO e) g (UH (aW (qv 0) aA) (aW (qv 1) aA) (aW (qv 2) aA) (aW (qv 3) aA)))) (xZ (d7 (aN (uO e) g (UH (aW (qv 0) aA) (aW (qv 1) aA) (aW (qv 2) aA) (aW (qv 3) aA))))))) (eI jH) bM) (eI (yg (aN (wC e) g (UH (qv 0) (qv 1) (qv 2) (qv 3))) (vv (aN (wC e) g (UH (qv 2) (qv 3) (qv 0) (qv 1)))))))) λds Q h=>?_;obtain⟨a,b,c,d,rfl,k,j,i,hd,q⟩:=h;simp! only[pD,fD,bD,sD,d5,CU];rw[<- Sg.jl]at q;unfold Sg.fh at q;have tail:Sg.cQ a.x b.x c.x d.x=false->Sg.cQ a.y b.y c.y d.y=false->tH [pD a,pD b,pD c,pD d] λn=>match n with
  |D.bl l=>(l=true->tH [pD c,pD d,pD a,pD b] λd=>Q d)/\(l=false->Q (D.bl false))
  |x=>False:=λm f=>by rw[m,f]at q;refine⟨a,b,c,d,rfl,k,j,i,hd,λe=>⟨c,d,a,b,rfl,i,hd,k,j,?_⟩,λe=>?_⟩;rw[e]at q;exact q;rw[e]at q;exact q
 refine⟨a.x,b.x,c.x,d.x,rfl,λe=>?_,λe=>⟨a.y,b.y,c.y,d.y,rfl,λf=>?_,λf=>tail e f⟩⟩;rw[e]at q;exact q;rw[e,f]at q;exact q
inductive GY:Prop
|mk (a b c:Pt) (_:ds=[pD a,pD b,pD c]) (_:B1 a) (_:B1 b) (_:B1 c) (_:Q (.bl (Sg.EZ a b c)))
theorem C6:VP e "turns_back" 2 GY:=by refine lX e ["a","b","c","along"] 3 e.F9 (λnd d=>(az (bB 3 nd (gN (gM (eX (aW (qv 1) aA) (aW (qv 0) aA)) (eX (aW (qv 2) aA) (aW (qv 1) aA))) (gM (eX (aW (qv 1) aA) (aW (qv 0) aA)) (eX (aW (qv 2) aA) (aW (qv 1) aA))))) (eI (yg (XX d.units (aN (eJ e) d (rp (qv 0) (qv 1) (qv 2))) aA) (vv (MM (qv 3) aA)))))) λds Q h=>?_;obtain⟨a,b,c,rfl,i,g,f,q⟩:=h;simp! only[pD,fD,bD,sD,d5,CU];unfold Sg.EZ at q;refine⟨cm (by unfold B1 at *;lia),cm (by unfold B1 at *;lia),a,b,c,rfl,i.b2,g.b2,f.b2,?_⟩;exact Iu q
def fr(f:Vbpcaa.Frac):Int×Int:=((f.num:Int),(f.den:Int))
theorem VH(z:Int):((Vbpcaa.sq z:Nat):Int)=z*z:=by unfold Vbpcaa.sq;rw[fR,ku]
inductive vT:Prop
|mk (p a b:Pt) (_:ds=[pD p,pD a,pD b]) (_:B1 p) (_:B1 a) (_:B1 b) (_:Q (fD (fr (ba p a b))))
theorem aaT(p a b:Pt):cP (Vbpcaa.sub p a) (Vbpcaa.sub b a)=(p.x-a.x)*(b.x-a.x)+(p.y-a.y)*(b.y-a.y):=rfl
theorem nB:VP e "point_to_segment" 2 vT:=by refine lX e ["p","a","b","length","along","across"] 3 e.vI (λnd c=>(az (bB 3 nd (aN (gw e) c (ju (qv 1) (qv 2)))) (az (bB 4 nd (gN (gM (eX (aW (qv 0) aA) (aW (qv 1) aA)) (eX (aW (qv 2) aA) (aW (qv 1) aA))) (gM (eX (aW (qv 0) aA) (aW (qv 1) aA)) (eX (aW (qv 2) aA) (aW (qv 1) aA))))) (az (dv (Io (qv 4) aA) (eI (i6 (ju (aN (gw e) c (ju (qv 0) (qv 1))) aA))) bM) (az (dv (XU (qv 4) (qv 3)) (eI (i6 (ju (aN (gw e) c (ju (qv 0) (qv 2))) aA))) bM) (az (bB 5 nd (aN (eJ e) c (rp (qv 1) (qv 2) (qv 0)))) (eI (i6 (ju (gM (qv 5) (qv 5)) (qv 3)))))))))) λds Q h=>?_;obtain⟨p,a,b,rfl,d,g,f,q⟩:=h;simp! only[pD,fD,bD,sD,d5,CU];unfold ba at q;rw[aaT]at q;refine⟨a,b,rfl,g.b2,f.b2,cm (by unfold B1 at *;lia),cm (by unfold B1 at *;lia),λe=>⟨p,a,rfl,d.b2,g.b2,vL #v[1],?_⟩,λe=>⟨λi=>⟨p,b,rfl,d.b2,f.b2,vL #v[1],?_⟩,λi=>⟨a,b,p,rfl,g.b2,f.b2,d.b2,?_,vL #v[1],?_⟩⟩⟩;rw[if_pos (of_decide_eq_true e)]at q;exact q;rw[if_neg (of_decide_eq_false e),if_pos (of_decide_eq_true i)]at q;exact q;have:=HL g f d;exact cm #v[];rw[if_neg (of_decide_eq_false e),if_neg (of_decide_eq_false i)]at q;unfold fr at q;rw[VH]at q;exact q
inductive tI:Prop
|mk (l:List Pt) (_:ds=[d5 l]) (_:Q (.bl (l.all dP)))
theorem kN:VP e "all_in_range" 1 tI:=by refine lX e ["points","x","y"] 1 e.BU (λnd a=>(az (eP (cI (qv 0)) (He (jM 1 nd) (jM 2 nd)) (bO (dv (QW.qt (Bk (yY (fi TR JO rfl e.B.adB #v[2] (cB (qv 1))) (fP e.C.Kb)) (xZ (yY (fi TR JO rfl e.B.adB #v[2] (cB (qv 2))) (fP e.C.Kb))))) (eI jH) bM))) (eI jH))) λds Q h=>?_;obtain⟨l,rfl,q⟩:=h;simp! only[pD,fD,bD,sD,d5,CU];refine jI l pD (λb=>∃x y,b=[some (.sh (d5 l)),x,y]) dP (.bl false) (λR h=>h) ⟨_,_,rfl⟩ ?_ ?_ ?_;rintro p g b ⟨x,y,rfl⟩ N d c;simp! only[pD];have a:dP p=decide (-1000000000<=p.x/\p.x<=1000000000/\-1000000000<=p.y/\p.y<=1000000000):=rfl;simp only[decide_eq_true_eq,decide_eq_false_iff_not,WI];refine⟨λe=>c (by rw[a];exact decide_eq_false #v[]),λe=>⟨λf=>c (by rw[a];exact decide_eq_false #v[]),λf=>d (by rw[a];exact decide_eq_true #v[]) _ ⟨_,_,rfl⟩⟩⟩;intro e;rw[e]at q;exact q;rintro b _ e;rw[e]at q;exact q
inductive P8:Prop
|mk (l:List Pt) (dx dy:Int) (_:ds=[d5 l,.int dx,.int dy]) (_:l.length<=2000) (_:Q (d5 (l.map (kL ⟨dx,dy⟩))))
theorem iO{n:Nat}(h:n<=2000):n<=aQ:=bu h #v[1]
theorem By:VP e "shifted" 1 P8:=by refine lX e ["points","dx","dy","x","y"] 3 e.O8 (λnd b=>(eI (su (own:=[("x",3),("y",4)]) nd (cI (qv 0)) (λ_ _ _ _ _=>(He (jM 3 nd) (jM 4 nd))) (λ_ _ _ _ _=>jG) (λ_ _ _ _ _=>(i6 (ju (gN (qv 3) (qv 1)) (gN (qv 4) (qv 2)))))))) λds Q h=>?_;obtain⟨l,dx,a,rfl,hl,q⟩:=h;simp! only[pD,fD,bD,sD,d5,CU];refine mn l pD (λp=>pD (kL ⟨dx,a⟩ p)) rfl (λR h=>h) (iO hl) (λp c d h=>⟨Bc,h⟩) ?_;rw[d5,bz]at q;exact q
inductive Qd:Prop
|mk (l:List Pt) (cx:Int) (_:ds=[d5 l,.int cx]) (_:l.length<=2000) (_:Q (d5 (l.map (qE cx))))
theorem Lb:VP e "flipped" 1 Qd:=by refine lX e ["points","cx","x","y"] 2 e.Pf (λnd a=>(eI (su (own:=[("x",2),("y",3)]) nd (cI (qv 0)) (λ_ _ _ _ _=>(He (jM 2 nd) (jM 3 nd))) (λ_ _ _ _ _=>jG) (λ_ _ _ _ _=>(i6 (ju (eX (gM aA (qv 1)) (qv 2)) (qv 3))))))) λds Q h=>?_;obtain⟨l,cx,rfl,hl,q⟩:=h;simp! only[pD,fD,bD,sD,d5,CU];refine mn l pD (λp=>pD (qE cx p)) rfl (λR h=>h) (iO hl) (λp b c h=>⟨cm #v[1],Bc,h⟩) ?_;rw[d5,bz]at q;exact q
inductive Ue:Prop
|mk (l:List Pt) (k cx cy:Int) (_:ds=[d5 l,.int k,.int cx,.int cy]) (_:l.length<=2000) (_:Q (d5 (l.map (Vbpcaa.turned ⟨cx,cy⟩ (k % 4).toNat))))
theorem ad6(n:Nat):C4 0 n=(cf n).map λ(i:Nat)=>D.int (0+(i:Int)):=rfl
theorem OT:VP e "turned" 1 Ue:=by
 refine lX e ["points","k","cx","cy","quarter","x","y"] 4 e.So (λnd c=>(az (eP (p6 rfl e.B.r9 (cB (FD (qv 1) aA))) (jM 4 nd) (bO (ou 0 (own:=[("x",5),("y",6)]) nd (cI (qv 0)) (λ_ _ _ _ _=>(He (jM 5 nd) (jM 6 nd))) (λ_ _ _ _ _=>jG) (λ_ _ _ _ _=>(i6 (ju (eX (qv 2) (eX (qv 6) (qv 3))) (gN (qv 3) (eX (qv 5) (qv 2))))))))) (eI (qv 0)))) λds Q h=>?_;obtain⟨l,k,cx,cy,rfl,hl,q⟩:=h;simp! only[pD,fD,bD,sD,d5,CU];refine gQ (cf (k % 4).toNat) (λ(i:Nat)=>D.int (0+(i:Int))) (λi b=>∃x,b=[some (.sh (d5 (l.map (Vbpcaa.turned ⟨cx,cy⟩ i)))),some (.sh (.int k)),some (.sh (.int cx)),some (.sh (.int cy)),x,none,none]) (λR h=>⟨(show(0:Int)<4 by decide),⟨#v[],#v[]⟩,h⟩) ?_ ?_ ?_;refine⟨none,?_⟩;rw[show l.map (Vbpcaa.turned ⟨cx,cy⟩ 0)=l from by rw[show Vbpcaa.turned ⟨cx,cy⟩ 0=id from rfl,vd]]
 rfl;rintro i a b f ⟨x,rfl⟩;simp! only[pD];refine mn (l.map (Vbpcaa.turned ⟨cx,cy⟩ i)) pD (λp=>pD (pE ⟨cx,cy⟩ p)) rfl (λR h=>h) (by rw[ai];exact iO hl) (λp d g h=>⟨Bc,h⟩) ?_;refine⟨rfl,some (.sh (.int (0+(a:Int)))),?_⟩;simp only[d5,bz];rfl;rintro b ⟨x,rfl⟩;rw[l5];exact q
def bx(l:a5 Pt):Int×Int×Int×Int:=(nz (l.map (·.x)),nz (l.map (·.y)),lr (l.map (·.x)),lr (l.map (·.y)))
inductive J9:Prop
|mk (l:List Pt) (_:ds=[d5 l]) (_:l≠[]) (_:l.length<=2000) (_:Q (bD (bx l)))
theorem kY:VP e "box_of" 1 J9:=by
 refine lX e ["points","xs","ys","x","y"] 1 e.Sw (λnd g=>(az (ou 1 (own:=[("x",3),("y",4)]) nd (cI (qv 0)) (λ_ _ _ _ _=>(He (jM 3 nd) (jM 4 nd))) (λ_ _ _ _ _=>jG) (λ_ _ _ _ _=>(qv 3))) (az (ou 2 (own:=[("x",3),("y",4)]) nd (cI (qv 0)) (λ_ _ _ _ _=>(He (jM 3 nd) (jM 4 nd))) (λ_ _ _ _ _=>jG) (λ_ _ _ _ _=>(qv 4))) (eI (i6 (UH (fi NP (TC rfl) rfl e.B.SE #v[2] (cB (qv 1))) (fi NP (TC rfl) rfl e.B.SE #v[2] (cB (qv 2))) (fi GH (LY rfl) rfl e.B.Gg #v[2] (cB (qv 1))) (fi GH (LY rfl) rfl e.B.Gg #v[2] (cB (qv 2))))))))) λds Q h=>?_;obtain⟨l,rfl,b,hl,q⟩:=h;simp! only[pD,fD,bD,sD,d5,CU];refine mn l pD (λp=>D.int p.x) rfl (λR h=>h) (iO hl) (λp a f h=>h) ?_;refine mn l pD (λp=>D.int p.y) rfl (λR h=>h) (iO hl) (λp a f h=>h) ?_;have d:mF (l.map λp=>D.int p.x)=some (l.map (·.x)):=by rw[<- kQ (l.map (·.x)),bz];rfl
 have c:mF (l.map λp=>D.int p.y)=some (l.map (·.y)):=by rw[<- kQ (l.map (·.y)),bz];rfl
 simp! only[Jv,Jw,d,c];cases l with
|nil=>exact absurd rfl b
|cons p r=>exact⟨sz4,q⟩
def Bb(b:Int×Int×Int×Int):Prop:=(-1000000000<=b.1/\b.1<=1000000000)/\(-1000000000<=b.2.1/\b.2.1<=1000000000)/\(-1000000000<=b.2.2.1/\b.2.2.1<=1000000000)/\(-1000000000<=b.2.2.2/\b.2.2.2<=1000000000)
def gap(b c:Int×Int×Int×Int):Int:=
 max 0 (max (c.1-b.2.2.1) (b.1-c.2.2.1))*max 0 (max (c.1-b.2.2.1) (b.1-c.2.2.1))+max 0 (max (c.2.1-b.2.2.2) (b.2.1-c.2.2.2))*max 0 (max (c.2.1-b.2.2.2) (b.2.1-c.2.2.2))
inductive DG:Prop
|mk (b c:Int×Int×Int×Int) (_:ds=[bD b,bD c]) (_:Bb b) (_:Bb c) (_:Q (.int (gap b c)))
theorem mx2{a b:Int}(d:a<=2000000000)(c:b<=2000000000):0<=max 0 (max a b)/\max 0 (max a b)<=2000000000:=⟨ur ..,yS.mpr ⟨#v[1],yS.mpr ⟨d,c⟩⟩⟩
theorem Yi{a b:Int}(d:a<=1000000000)(c:-1000000000<=b):a-b<=2000000000:=#v[]
theorem ox:VP e "squared_gap" 1 DG:=by refine lX e ["box","other","across","up"] 2 e.Dl (λnd g=>(az (bB 2 nd (fi NR (ER rfl) rfl e.B.Gg #v[2] (rp aA (eX (aW (qv 1) aA) (aW (qv 0) aA)) (eX (aW (qv 0) aA) (aW (qv 1) aA))))) (az (bB 3 nd (fi NR (ER rfl) rfl e.B.Gg #v[2] (rp aA (eX (aW (qv 1) aA) (aW (qv 0) aA)) (eX (aW (qv 0) aA) (aW (qv 1) aA))))) (eI (gN (gM (qv 2) (qv 2)) (gM (qv 3) (qv 3))))))) λds Q h=>?_;obtain⟨b,c,rfl,d,a,q⟩:=h;simp! only[bD];unfold gap at q;have f:∀{u:Int},0<=u/\u<=2000000000->Qi u u:=λh=>cm #v[];exact⟨f (mx2 (Yi a.1.2 d.2.2.1.1) (Yi d.1.2 a.2.2.1.1)),f (mx2 (Yi a.2.1.2 d.2.2.2.1) (Yi d.2.1.2 a.2.2.2.1)),q⟩
theorem oE{xs:a5 D}(k:Nat)(h:k<=xs.length):cutD xs (some (k:Int)) none=xs.drop k:=by
 have e:HT.nX xs.length 0 (some (k:Int))=k:=by simp only[HT.nX];split<;>lia
 unfold cutD;rw[e,ic];simp[HT.nX]
theorem Cm{xs:a5 D}(k:Nat)(h:k<=xs.length):cutD xs none (some (k:Int))=xs.take k:=by
 have e:HT.nX xs.length xs.length (some (k:Int))=k:=by simp only[HT.nX];split<;>lia
 unfold cutD;rw[e];simp[HT.nX]
theorem TB{xs:a5 D}(h:0<xs.length):cutD xs (some (-1)) none=xs.drop (xs.length-1):=by
 have e:HT.nX xs.length 0 (some (-1))=xs.length-1:=by simp only[HT.nX];split<;>lia
 unfold cutD;rw[e,ic];simp[HT.nX]
theorem xg{xs:a5 D}(h:0<xs.length):cutD xs none (some (-1))=xs.dropLast:=by
 have e:HT.nX xs.length xs.length (some (-1))=xs.length-1:=by simp only[HT.nX];split<;>lia
 unfold cutD;rw[e,uo];simp[HT.nX]
theorem EH{l:a5 Pt}(h:l.length≠2):aO l=l.zip (l.drop 1++l.take 1):=by
 match l,h with
|[],_=>rfl
|[p],_=>rfl
|[p,q],h=>simp at h
|p::q::r::l,_=>rfl
theorem UU(l m:a5 Pt):(oM (λx y=>[x,y]) (l.map pD) (m.map pD)).map D.tup=(l.zip m).map sD:=by rw[List.zipWith_map,List.map_zipWith,List.map_zip_eq_zipWith];rfl
inductive Mg:Prop
|mk (l:List Pt) (_:ds=[d5 l]) (_:l≠[]) (_:l.length<=2000) (_:Q (CU (aO l)))
theorem AH(l:a5 Pt):(l.map pD).drop 1++(l.map pD).take 1=(l.drop 1++l.take 1).map pD:=by rw[bj,k7,m8]
theorem len_pos{l:a5 Pt}(h:l≠[]):0<l.length:=g9.mpr h
theorem je:VP e "sides_of" 1 Mg:=by
 refine lX e ["points"] 1 e.Lh (λnd d=>(az (dv (p5 d.units (gY e.B (cB (qv 0))) aA) (eI (cR (cB (i6 (ju (aW (qv 0) aA) (aW (qv 0) aA)))))) bM) (eI (FF rfl d.hd rfl e.B.wY rfl e.B.UT (ju (qv 0) (pF (fO (qv 0) (fL aA) iY) (fO (qv 0) iY (fL aA)))))))) λds Q h=>?_;obtain⟨l,rfl,g,hl,q⟩:=h;have c:=len_pos g;have j:cutD (l.map pD) (some 1) none=(l.map pD).drop 1:=oE 1 (by rw[ai];exact c);have i:cutD (l.map pD) none (some 1)=(l.map pD).take 1:=Cm 1 (by rw[ai];exact c);simp! only[d5,ai,j,i,AH,decide_eq_true_eq,decide_eq_false_iff_not];refine⟨λe=>?_,λe=>⟨?_,?_⟩⟩
 match l,e with
|[a,b],_=>simp! only[pD];exact⟨Bc,#v[1],q⟩
 have:(l.map pD).drop 1++(l.map pD).take 1=(l.drop 1++l.take 1).map pD:=AH l;have f:=congrArg nJ this;rw[aP]at f;rw[f,ai,aP,cj,bw];exact iO #v[];rw[EH (λz=>e (by rw[z];rfl))]at q;refine⟨?_,by rw[ai];exact c,?_⟩;simp only[ai,aP,cj,bw];lia;rw[UU];exact q
def tD(t:Pt×Pt×Pt):D:=.tup [pD t.1,pD t.2.1,pD t.2.2]
inductive G1:Prop
|mk (l:List Pt) (_:ds=[d5 l]) (_:l≠[]) (_:l.length<=2000) (_:Q (.lst ((dh l).map tD)))
theorem Mx{α β:Type}:∀(x y:a5 α)(m:a5 β),m.length<=x.length->(x++y).zip m=x.zip m
|_,_,[],_=>by rw[xJ,xJ]
|[],_,_::_,h=>by simp at h
|a::x,y,b::m,h=>by show(a,b)::(x++y).zip m=(a,b)::x.zip m;rw[Mx x y m #v[h]]
theorem vP{l:a5 Pt}(h:l≠[]):dh l=(l.drop (l.length-1)++l.dropLast).zip (l.zip (l.drop 1++l.take 1)):=by
 have b:=CV h;have c:l.getLast? = some (l.getLast h):=gv h;have d:l.drop (l.length-1)=[l.getLast h]:=by
  conv=>lhs;rw[<- b]
  rw[Xs #v[0]]
 have key:∀m:a5 (Pt×Pt),m.length<=l.length->(l.getLast h::l).zip m=(l.getLast h::l.dropLast).zip m:=λm f=>by
  have:l.getLast h::l=(l.getLast h::l.dropLast)++[l.getLast h]:=by rw[aU,b]
  rw[this];exact Mx _ _ m (by rw[aL,dM];lia)
 rw[d];generalize l.getLast h=z at *
 match l,h with
|a::r,_=>unfold dh;rw[c];show List.map (λt=>(t.1,t.2.1,t.2.2)) ((z::a::r).zip ((a::r).zip (r++[a])))=(z::(a::r).dropLast).zip ((a::r).zip (r++[a]));rw[show(λt:Pt×Pt×Pt=>(t.1,t.2.1,t.2.2))=id from rfl,vd];exact key _ (by rw[dE];exact uk _ _)
theorem My:∀k l m:a5 Pt,(oM (λx(d:D×D)=>[x,d.1,d.2]) (k.map pD) ((l.map pD).zip (m.map pD))).map D.tup=(k.zip (l.zip m)).map tD
|[],_,_=>by simp
|_::_,[],_=>by simp
|_::_,_::_,[]=>by simp
|a::k,b::l,c::m=>by have f:=My k l m;simp only[a9,du,List.zipWith_cons_cons,f];rfl
theorem pH:VP e "corners_of" 1 G1:=by
 refine lX e ["points"] 1 e.Gd (λnd c=>(eI (FE rfl c.hd rfl e.B.wY rfl e.B.UT (rp (pF (fO (qv 0) (fL (sr aA)) iY) (fO (qv 0) iY (fL (sr aA)))) (qv 0) (pF (fO (qv 0) (fL aA) iY) (fO (qv 0) iY (fL aA))))))) λds Q h=>?_;obtain⟨l,rfl,b,hl,q⟩:=h;have d:=len_pos b;have a:0<(l.map pD).length:=by rw[ai];exact d
 have k:cutD (l.map pD) (some 1) none=(l.map pD).drop 1:=oE 1 a;have j:cutD (l.map pD) none (some 1)=(l.map pD).take 1:=Cm 1 a;have i:=TB a;have g:=xg a;have f:(l.map pD).drop ((l.map pD).length-1)++(l.map pD).dropLast=(l.drop (l.length-1)++l.dropLast).map pD:=by rw[bj,k7,zS,ai]
 simp! only[d5,k,j,i,g,AH,f];rw[vP b]at q;refine⟨?_,?_,?_,?_,?_,?_⟩;simp only[cj,ai,dM];exact iO #v[];simp only[cj,ai,bw];exact iO #v[];simp only[ai,aP,cj,dM];lia;simp only[ai,aP,cj,dM,bw];lia;simp only[ai,aP,cj,dM];lia;rw[My];exact q
theorem sZ{l:a5 Pt}{t:Pt×Pt×Pt}(h:t∈dh l):t.1∈l/\t.2.1∈l/\t.2.2∈l:=by by_cases a:l=[];subst a;simp[dh]at h;rw[vP a]at h;have c:=iR h;have b:=iR c.2;refine⟨?_,b.1,?_⟩;rcases aI.mp c.1 with z|z;exact nG z;exact List.dropLast_subset _ z;rcases aI.mp b.2 with z|z;exact nG z;exact di z
inductive xt:Prop
|mk (l:List Pt) (_:ds=[d5 l]) (_:l≠[]) (_:l.length<=2000) (_:(∀p∈l,B1 p)) (_:Q (.bl (Sg.nbr l)))
theorem RJ{a b:Pt}:(a.x=b.x/\a.y=b.y)↔a=b:=⟨λh=>Sg.fk h.1 h.2,λh=>by rw[h];exact⟨rfl,rfl⟩⟩
theorem vB:VP e "neighbours_part" 3 xt:=by refine lX e ["points","a","b","c"] 1 e.wJ (λnd f=>(az (eP (cI (aN (pH e) f (cB (qv 0)))) (pg3 (jM 1 nd) (jM 2 nd) (jM 3 nd)) (bO (dv (QW.qt (Bk (p5 f.units (qv 1) (qv 2)) (xZ (d7 (aN (C6 e) f (rp (qv 1) (qv 2) (qv 3))))))) (eI jH) bM))) (eI jH))) λds Q h=>?_;obtain⟨l,rfl,p,hl,g,q⟩:=h;ac_nf;unfold Sg.nbr at q;refine jI (dh l) tD (λd=>∃x y z,d=[some (.sh (d5 l)),x,y,z]) (λt=>!(decide (t.1=t.2.1)||Sg.EZ t.1 t.2.1 t.2.2)) (.bl false) (λR h=>?_) ⟨_,_,_,rfl⟩ ?_ ?_ ?_;ac_nf;exact⟨l,rfl,p,hl,h⟩;rintro⟨a,b,c⟩ o d ⟨x,y,z,rfl⟩ N r j;obtain⟨n,m,k⟩:=sZ o;simp! only[tD,pD];refine⟨λe=>j ?_,λe=>⟨a,b,c,rfl,g _ n,g _ m,g _ k,λi=>j ?_,λi=>r ?_ _ ⟨_,_,_,rfl⟩⟩⟩;have:=RJ.mp (of_decide_eq_true e);simp[this];simp[i];have:a≠b:=λz=>of_decide_eq_false e (RJ.mpr z);simp[i,this];intro e;rw[e]at q;exact q;rintro d _ e;rw[e]at q;exact q
inductive J7:Prop
|mk (l:List Pt) (_:ds=[d5 l]) (_:l≠[]) (_:l.length<=2000) (_:(∀p∈l,B2 p)) (_:Q (.bl (iD l)))
theorem LZ{l:a5 Pt}(h:l≠[]):iD l=(dh l).all λt=>decide (0<=ag t.1 t.2.1 t.2.2):=by
 unfold iD
 match l,h with
|[p],_=>simp[dh,ag]
|[p,q],_=>
  have:ag q p q=0/\ag p q p=0:=by simp only[ag];constructor<;>grind
  simp[dh,this.1,this.2]
|p::q::r::l,_=>
  have:¬(p::q::r::l).length<3:=by simp only[aL];lia
  rw[decide_eq_false this,jL]
theorem qO:VP e "is_convex" 2 J7:=by refine lX e ["points","a","b","c"] 1 e.IX (λnd g=>(az (eP (cI (aN (pH e) g (cB (qv 0)))) (pg3 (jM 1 nd) (jM 2 nd) (jM 3 nd)) (bO (dv (uN (aN (eJ e) g (rp (qv 1) (qv 2) (qv 3))) aA) (eI jH) bM))) (eI jH))) λds Q h=>?_;obtain⟨l,rfl,i,hl,f,q⟩:=h;ac_nf;rw[LZ i]at q;refine jI (dh l) tD (λd=>∃x y z,d=[some (.sh (d5 l)),x,y,z]) (λt=>decide (0<=ag t.1 t.2.1 t.2.2)) (.bl false) (λR h=>?_) ⟨_,_,_,rfl⟩ ?_ ?_ ?_;ac_nf;exact⟨l,rfl,i,hl,h⟩;rintro⟨a,b,c⟩ n d ⟨x,y,z,rfl⟩ N p o;obtain⟨m,k,j⟩:=sZ n;simp! only[tD,pD];refine⟨a,b,c,rfl,f _ m,f _ k,f _ j,λe=>o ?_,λe=>p ?_ _ ⟨_,_,_,rfl⟩⟩;have:=of_decide_eq_true e;exact decide_eq_false (by dsimp only;lia);have:=of_decide_eq_false e;exact decide_eq_true (by dsimp only;lia);intro e;rw[e]at q;exact q;rintro d _ e;rw[e]at q;exact q
inductive qX:Prop
|mk (l:List Pt) (_:ds=[d5 l]) (_:l≠[]) (_:l.length<=2000) (_:(∀p∈l,B2 p)) (_:Q (d5 (Vbpcaa.tidied l)))
theorem JI{l:a5 Pt}:(dh l).length<=l.length:=by by_cases h:l=[];subst h;simp[dh];rw[vP h,dE,dE];exact bu (Xo _ _) (uk _ _)
theorem qd:VP e "without_flat_corners" 2 qX:=by
 refine lX e ["points","a","b","c"] 1 e.qP (λnd d=>(az (dv (uN (gY e.B (cB (qv 0))) aA) (eI (qv 0)) bM) (eI (su (own:=[("a",1),("b",2),("c",3)]) nd (cI (aN (pH e) d (cB (qv 0)))) (λ_ _ _ _ _=>(pg3 (jM 1 nd) (jM 2 nd) (jM 3 nd))) (λ_ _ _ _ _=>(AI (wu d.units (aN (eJ e) d (rp (qv 1) (qv 2) (qv 3))) aA))) (λ_ _ _ _ _=>(qv 2)))))) λds Q h=>?_;obtain⟨l,rfl,n,hl,f,q⟩:=h;simp! only[d5,ai,decide_eq_true_eq,decide_eq_false_iff_not];unfold Vbpcaa.tidied at q;refine⟨λe=>?_,λe=>?_⟩;rw[if_pos #v[]]at q;exact q;rw[if_neg #v[]]at q;refine tZ (dh l) tD (λt=>pD t.2.1) (λt=>decide (ag t.1 t.2.1 t.2.2≠0)) rfl (λR h=>?_) (iO (bu JI hl)) ?_ ?_;ac_nf;exact⟨l,rfl,n,hl,h⟩;rintro⟨a,b,c⟩ m R k;obtain⟨j,i,g⟩:=sZ m;refine k _ (λo h=>?_) λ_ p h=>h;simp! only[pD];refine⟨a,b,c,rfl,f _ j,f _ i,f _ g,?_⟩;have e:(!decide (ag a b c=0))=decide (ag a b c≠0):=#v[0]
 show o (!decide (ag a b c=0)) [];rw[e];exact h;rw[d5,bz]at q;exact q
inductive Qa:Prop
|mk (f g:Int×Int) (_:ds=[fD f,fD g]) (_:(-(2 ^ 64)<f.2/\f.2<2 ^ 64)) (_:(-(2 ^ 64)<g.2/\g.2<2 ^ 64)) (_:Q (.bl (decide (f.1*g.2<g.1*f.2))))
theorem mi:VP e "is_less" 1 Qa:=by refine lX e ["one","other"] 2 e.Pc (λnd c=>(eI (MM (gM (aW (qv 0) aA) (aW (qv 1) aA)) (gM (aW (qv 1) aA) (aW (qv 0) aA))))) λds Q h=>?_;obtain⟨f,g,rfl,b,a,q⟩:=h;simp! only[fD];exact⟨.inr a,.inr b,q⟩
inductive Ug:Prop
|mk (f g:Int×Int) (_:ds=[fD f,fD g]) (_:(-(2 ^ 64)<f.2/\f.2<2 ^ 64)) (_:(-(2 ^ 64)<g.2/\g.2<2 ^ 64)) (_:Q (fD (if g.1*f.2<f.1*g.2 then g else f)))
theorem OX:VP e "lesser" 2 Ug:=by refine lX e ["one","other"] 2 e.Ss (λnd a=>(eI (Iq (d7 (aN (mi e) a (ju (qv 1) (qv 0)))) (qv 1) (qv 0)))) λds Q h=>?_;obtain⟨f,g,rfl,c,b,q⟩:=h;ac_nf;refine⟨g,f,rfl,b,c,λe=>?_,λe=>?_⟩;rw[if_pos (of_decide_eq_true e)]at q;exact q;rw[if_neg (of_decide_eq_false e)]at q;exact q
inductive J5:Prop
|mk (a b:Pt) (l:List (Pt×Pt)) (_:ds=[pD a,pD b,CU l]) (_:B1 a) (_:B1 b) (_:(∀e∈l,B1 e.1/\B1 e.2)) (_:Q (.bl (l.any λe=>Vbpcaa.meet a b e.1 e.2)))
theorem Xc{α:Type}(l:a5 α)(f:α->Bool):l.any f = !(l.all λx=>!f x):=by
 induction l with
|nil=>rfl
|cons a l b=>simp[b]
theorem FR:VP e "meets_one" 4 J5:=by refine lX e ["a","b","sides","c","d"] 3 e.IU (λnd i=>(az (eP (cI (qv 2)) (He (jM 3 nd) (jM 4 nd)) (bO (dv (d7 (aN (qe e) i (UH (qv 0) (qv 1) (qv 3) (qv 4)))) (eI jH) bM))) (eI jH))) λds Q h=>?_;obtain⟨a,b,l,rfl,k,j,hl,q⟩:=h;ac_nf;rw[Xc]at q;refine jI l sD (λf=>∃x y,f=[some (.sh (pD a)),some (.sh (pD b)),some (.sh (CU l)),x,y]) (λe=>!Vbpcaa.meet a b e.1 e.2) (.bl true) (λR h=>h) ⟨_,_,rfl⟩ ?_ ?_ ?_;rintro⟨c,d⟩ g f ⟨x,y,rfl⟩ N n m;simp! only[sD];refine⟨a,b,c,d,rfl,k,j,(hl _ g).1,(hl _ g).2,λe=>m ?_,λe=>n ?_ _ ⟨_,_,rfl⟩⟩;simp[e];simp[e];intro e;rw[e]at q;exact q;rintro f _ e;rw[e]at q;exact q
inductive DQ:Prop
|mk (l:List Pt) (_:ds=[d5 l]) (_:l≠[]) (_:l.length<=2000) (_:(∀p∈l,B1 p)) (_:Q (.int (cw l)))
theorem sM:VP e "double_area" 1 DQ:=by
 refine lX e ["points","a","b"] 1 e.Dv (λnd n=>(eI (fi aa2 (aaZ rfl) rfl e.B.aeQ #v[2] (cB (su (own:=[("a",1),("b",2)]) nd (Rx rfl rfl e.B.UT (ju (qv 0) (pF (fO (qv 0) (fL aA) iY) (fO (qv 0) iY (fL aA))))) (λ_ _ _ _ _=>(He (jM 1 nd) (jM 2 nd))) (λ_ _ _ _ _=>jG) (λ_ _ _ _ _=>(eX (gM (aW (qv 1) aA) (aW (qv 2) aA)) (gM (aW (qv 1) aA) (aW (qv 2) aA))))))))) λds Q h=>?_;obtain⟨l,rfl,g,hl,d,q⟩:=h;have c:0<(l.map pD).length:=by rw[ai];exact len_pos g
 have m:cutD (l.map pD) (some 1) none=(l.map pD).drop 1:=oE 1 c;have k:cutD (l.map pD) none (some 1)=(l.map pD).take 1:=Cm 1 c;simp! only[d5];rw[<- Sg.GD]at q;unfold Sg.dbl at q;refine mn (l.zip (l.drop 1++l.take 1)) sD (λe=>D.int (Sg.uY e)) rfl (λR h=>?_) ?_ ?_ ?_;simp! only[m,k,AH];refine⟨?_,?_⟩;simp only[cj,ai,bw];exact iO #v[];have e:((l.map pD).zip ((l.drop 1++l.take 1).map pD)).map (λz=>D.tup [z.1,z.2])=(l.zip (l.drop 1++l.take 1)).map sD:=by rw[List.zip_map,bz];rfl
 rw[e];exact h;rw[dE];exact iO #v[];rintro⟨a,b⟩ i o h;have f:=iR i;have j:b∈l:=by rcases aI.mp f.2 with z|z;exact nG z;exact di z
 have r:=d a f.1;have p:=d b j;simp! only[sD,pD];unfold B1 at *;exact⟨cm #v[],cm #v[],h⟩;rw[show(l.zip (l.drop 1++l.take 1)).map (λe=>D.int (Sg.uY e))=((l.zip (l.drop 1++l.take 1)).map Sg.uY).map D.int by rw[bz];rfl,QU];exact q
theorem IA{α:Type}(f:α->Bool)(x:α):∀l:a5 α,Sg.par f (l++[x])=(Sg.par f l ^^ f x)
|[]=>by simp[Sg.par]
|a::l=>by have:=IA f x l;simp only[aU,Sg.par,this];cases f a<;>cases Sg.par f l<;>cases f x<;>rfl
theorem PM{l:a5 Pt}:(aO l).length<=l.length:=by
 match l with
|[]=>simp[aO]
|[p]=>simp[aO]
|[p,q]=>simp[aO]
|p::q::r::l=>rw[EH #v[0],dE];exact uk _ _
inductive Mm:Prop
|mk (l:List Pt) (p:Pt) (_:ds=[d5 l,pD p]) (_:l.length<=2000) (_:(∀q∈l,B1 q)) (_:B1 p) (_:Q (.bl (Sg.encl l p)))
theorem sL:VP e "encloses" 2 Mm:=by
 refine lX e ["points","p","within","a","b","upwards"] 2 e.Lj (λnd c=>(az (dv (uN (gY e.B (cB (qv 0))) aA) (eI jH) bM) (az (bB 2 nd jH) (az (eP (cI (aN (je e) c (cB (qv 0)))) (He (jM 3 nd) (jM 4 nd)) (az (bB 5 nd (MO (aW (qv 4) aA) (aW (qv 1) aA))) (bO (dv (QW.qt (x9 (wu c.units (MO (aW (qv 3) aA) (aW (qv 1) aA)) (qv 5)) (tU (p5 c.units (MO (aN (eJ e) c (rp (qv 3) (qv 4) (qv 1))) aA) (qv 5))))) (bO (bB 2 nd (KW (qv 2)))) bM)))) (eI (qv 2)))))) λds Q h=>?_;obtain⟨l,p,rfl,hl,m,n,q⟩:=h;simp! only[d5,ai,decide_eq_true_eq,decide_eq_false_iff_not];unfold Sg.encl at q;refine⟨λe=>?_,λe=>?_⟩;rw[decide_eq_false #v[]]at q;exact q;rw[decide_eq_true #v[],gr]at q;have o:l≠[]:=λz=>by rw[z]at e;simp at e
 refine gQ (aO l) sD (λi d=>∃x y z,d=[some (.sh (d5 l)),some (.sh (pD p)),some (.sh (.bl (Sg.par (Sg.nR p) ((aO l).take i)))),x,y,z]) (λR h=>?_) ⟨_,_,_,rfl⟩ ?_ ?_;ac_nf;exact⟨l,rfl,o,hl,h⟩;rintro i ⟨a,b⟩ d k ⟨x,y,z,rfl⟩;have j:=Sg.bN (bp k);simp! only[sD,pD,ck k,IA];generalize A:Sg.par (Sg.nR p) ((aO l).take i)=w;have f:Sg.nR p (a,b)=((decide (p.y<a.y) != decide (p.y<b.y))&&(decide (0<ag a b p) == decide (p.y<b.y))):=rfl;have key:∀g,g=(w ^^ Sg.nR p (a,b))->∃x y z,[some (Sl.sh (d5 l)),some (Sl.sh (D.tup [D.int p.x,D.int p.y])),some (Sl.sh (D.bl g)),some (Sl.sh (D.tup [D.int a.x,D.int a.y])),some (Sl.sh (D.tup [D.int b.x,D.int b.y])),some (Sl.sh (D.bl (decide (p.y<b.y))))] =
   [some (Sl.sh (d5 l)),some (Sl.sh (D.tup [D.int p.x,D.int p.y])),some (Sl.sh (D.bl (w ^^ Sg.nR p (a,b)))),x,y,z]:=by rintro _ rfl;exact⟨_,_,_,rfl⟩
 refine⟨λs=>⟨a,b,p,rfl,(m _ j.1).b2,(m _ j.2).b2,n.b2,λr=>key _ ?_,λr=>key _ ?_⟩,λs=>key _ ?_⟩;rw[f];generalize decide (p.y<a.y)=u at *;generalize decide (p.y<b.y)=v at *;generalize decide (0<ag a b p)=t at *;cases u<;>cases v<;>cases t<;>simp_all;rw[f];generalize decide (p.y<a.y)=u at *;generalize decide (p.y<b.y)=v at *;generalize decide (0<ag a b p)=t at *;cases u<;>cases v<;>cases t<;>simp_all;rw[f];generalize decide (p.y<a.y)=u at *;generalize decide (p.y<b.y)=v at *;generalize decide (0<ag a b p)=t at *;cases u<;>cases v<;>cases t<;>simp_all;rintro d ⟨x,y,z,rfl⟩;rw[bY];exact q
def yt(S:a5 (Pt×Pt))(i j:Nat):Bool:=match S[i]?,S[j]? with
|some e,some f=>Vbpcaa.meet e.1 e.2 f.1 f.2
|_,_=>false
def pd(n i:Nat):Nat:=if i=0 then n-1 else n
def row(S:a5 (Pt×Pt))(i:Nat):Bool:=(cf (pd S.length i-(i+2))).all λk=>!yt S i (i+2+k)
theorem lj1{n i j:Nat}(b:j<n)(a:i+2<=j)(c:i=0->j+1<n):j-(i+2)<pd n i-(i+2):=by
 refine Nat.sub_lt_sub_right a ?_;unfold pd;split
 next z=>exact Nat.lt_sub_of_add_lt (c z)
 exact b
theorem lj2{n i k:Nat}(h:k<pd n i-(i+2)):i+2+k<n/\(i=0->i+2+k+1<n):=by
 have h:=Nat.add_lt_of_lt_sub' h;unfold pd at h;split at h;exact⟨aR h (Nat.sub_le ..),λ_=>Nat.add_lt_of_lt_sub h⟩
 next z=>exact⟨h,λw=>absurd w z⟩
theorem Ri(S:a5 (Pt×Pt)):(cf S.length).all (row S)=lu true S:=by apply Sg.cW;rw[Sg.Ju,bf];constructor;intro h i j e f l g d c;have hi:i<S.length:=(aJ.mp l).1;have hj:j<S.length:=(aJ.mp g).1;have b:=h i (eM.mpr hi);unfold row at b;rw[bf]at b;have a:=b (j-(i+2)) (eM.mpr (lj1 hj d c));rw[Nat.add_sub_cancel' d]at a;unfold yt at a;rw[l,g]at a;simpa using a;intro h i hi;have hi:=eM.mp hi;unfold row;rw[bf];intro k hk;obtain⟨hj,c⟩:=lj2 (eM.mp hk);have:=h i (i+2+k) S[i] S[i+2+k] (aw hi) (aw hj) (cq ..) c;unfold yt;rw[aw hi,aw hj];simpa using this
inductive DI:Prop
|mk (l:List Pt) (_:ds=[d5 l]) (_:l≠[]) (_:l.length<=2000) (_:(∀p∈l,B1 p)) (_:Q (.bl (lu true (aO l))))
theorem Bz:VP e "others_part" 4 DI:=by
 refine lX e ["points","sides","i","end","j"] 1 e.Dm (λnd b=>(az (bB 1 nd (aN (je e) b (cB (qv 0)))) (az (eP (p6 rfl e.B.r9 (cB (gY e.B (cB (qv 1))))) (jM 2 nd) (az (bB 3 nd (Iq (p5 b.units (qv 2) aA) (eX (gY e.B (cB (qv 1))) aA) (gY e.B (cB (qv 1))))) (bO (eP (OI rfl e.B.r9 (ju (gN (qv 2) aA) (qv 3))) (jM 4 nd) (bO (dv (d7 (aN (qe e) b (UH (aW (aW (qv 1) (qv 2)) aA) (aW (aW (qv 1) (qv 2)) aA) (aW (aW (qv 1) (qv 4)) aA) (aW (aW (qv 1) (qv 4)) aA)))) (eI jH) bM)))))) (eI jH)))) λds Q h=>?_;obtain⟨l,rfl,o,hl,g,q⟩:=h;ac_nf;refine⟨l,rfl,o,hl,?_⟩;rw[<- Ri]at q;have v:=PM (l:=l);have d:∀e∈aO l,B1 e.1/\B1 e.2:=λe f=>⟨g _ (Sg.bN f).1,g _ (Sg.bN f).2⟩;generalize A:aO l=S at *;refine jI (cf S.length) (λ(i:Nat)=>D.int (0+(i:Int))) (λa=>∃x y z,a=[some (.sh (d5 l)),some (.sh (CU S)),x,y,z]) (row S) (.bl false) (λR h=>?_) ⟨_,_,_,rfl⟩ ?_ ?_ ?_;simp! only[CU,ai];exact⟨⟨#v[],#v[]⟩,h⟩;rintro i hi a ⟨x,y,z,rfl⟩ N r p;have hi:=eM.mp hi;have c:∀n:Int,n=(pd S.length i:Nat)->PU (Gs (g7 (Ck (iw 2) (dC (D.int 2))) (g7 (iw 3) nQ))) (CC.one 4)
   (aaX (qp (EL rG (g7 (rC Hg (rC Hg (iw 1) (iw 2)) (dC (D.int 0))) (g7 (rC Hg (rC Hg (iw 1) (iw 2)) (dC (D.int 1))) (g7 (rC Hg (rC Hg (iw 1) (iw 4)) (dC (D.int 0))) (g7 (rC Hg (rC Hg (iw 1) (iw 4)) (dC (D.int 1))) nQ))))))
    (Ts (dC (D.bl false))) Tt)
   [some (Sl.sh (d5 l)),some (Sl.sh (D.lst (List.map sD S))),some (Sl.sh (D.int (0 + ↑i))),some (Sl.sh (D.int n)),z] [] N:=by
  rintro _ rfl;have u:pd S.length i<=S.length:=by unfold pd;split<;>lia
  refine jI (cf (pd S.length i-(i+2))) (λ(k:Nat)=>D.int (0+(i:Int)+2+(k:Int))) (λa=>∃w,a=[some (.sh (d5 l)),some (.sh (CU S)),some (Sl.sh (D.int (0 + ↑i))),some (Sl.sh (D.int (pd S.length i:Nat))),w]) (λk=>!yt S i (i+2+k)) (.bl false) (λR h=>?_) ⟨_,rfl⟩ ?_ p ?_;ac_nf;refine⟨⟨#v[],#v[],#v[],#v[]⟩,?_⟩;have e:((pd S.length i:Nat)-(0+(i:Int)+2)).toNat=pd S.length i-(i+2):=#v[]
  rw[e];exact h;rintro k hk a ⟨w,rfl⟩ B t s;have hk:=eM.mp hk;have hj:i+2+k<S.length:=#v[]
  have a1:nT (S.map sD) (0+(i:Int))=some (sD S[i]):=by rw[show(0:Int)+(i:Int)=((i:Nat):Int) by lia,mE,bq,aw hi];rfl
  have a2:nT (S.map sD) (0+(i:Int)+2+(k:Int))=some (sD S[i+2+k]):=by rw[show(0:Int)+(i:Int)+2+(k:Int)=((i+2+k:Nat):Int) by lia,mE,bq,aw hj];rfl
  have j:yt S i (i+2+k)=Vbpcaa.meet S[i].1 S[i].2 S[i+2+k].1 S[i+2+k].2:=by unfold yt;rw[aw hi,aw hj]
  have m:=d _ (mZ hi);have b2:=d _ (mZ hj);simp! only[CU,a1,a2,sD];refine⟨S[i].1,S[i].2,S[i+2+k].1,S[i+2+k].2,rfl,m.1,m.2,b2.1,b2.2,λe=>s ?_,λe=>t ?_ _ ⟨_,rfl⟩⟩;rw[j,e];rfl;rw[j,e];rfl;rintro a ⟨w,rfl⟩ e;exact r e _ ⟨_,_,_,rfl⟩
 simp! only[CU,ai];refine⟨λe=>c _ ?_,λe=>c _ ?_⟩;have:=of_decide_eq_true e;unfold pd;rw[if_pos #v[]];lia;have:=of_decide_eq_false e;unfold pd;rw[if_neg #v[]];intro e;rw[e]at q;exact q;rintro a _ e;rw[e]at q;exact q
inductive DM:Prop
|mk (l:List Pt) (_:ds=[d5 l]) (_:l≠[]) (_:l.length<=2000) (_:(∀p∈l,B1 p)) (_:Q (.bl (vY l)))
theorem BB:VP e "is_skeleton" 5 DM:=by
 refine lX e ["points"] 1 e.Ds (λnd d=>(az (dv (p5 d.units (gY e.B (cB (qv 0))) aA) (eI jH) bM) (az (dv (p5 d.units (gY e.B (cB (qv 0))) aA) (eI (aco d.units (aW (qv 0) aA) (aW (qv 0) aA))) bM) (eI (yg (aN (vB e) d (cB (qv 0))) (vv (aN (Bz e) d (cB (qv 0))))))))) λds Q h=>?_;obtain⟨l,rfl,f,hl,g,q⟩:=h;simp! only[d5,ai,decide_eq_true_eq,decide_eq_false_iff_not]
 match l,f,hl,g,q with
|[p],_,_,_,q=>refine⟨λ_=>q,λe=>absurd rfl e⟩
|[a,b],_,_,_,q=>
  refine⟨λe=>?_,λ_=>⟨λ_=>?_,λe=>absurd rfl e⟩⟩;exact absurd e #v[0];simp! only[pD];have e:(!decide (a.x=b.x/\a.y=b.y))=decide (a≠b):=by rw[<- decide_not];exact decide_eq_decide.mpr (not_congr RJ)
  rw[e];exact q
|a::b::c::r,f,hl,g,q=>
  refine⟨λe=>?_,λ_=>⟨λe=>?_,λ_=>⟨_,rfl,f,hl,g,?_⟩⟩⟩;exfalso;simp only[aL]at e;lia;exfalso;simp only[aL]at e;lia;have e:vY (a::b::c::r)=(Sg.nbr (a::b::c::r)&&lu true (aO (a::b::c::r))):=by show rS _=_;unfold rS;rw[decide_eq_true (by simp only[aL];lia),gr,Sg.aaj (by simp only[aL];lia)]
  rw[e]at q;refine⟨λi=>⟨_,rfl,f,hl,g,?_⟩,λi=>?_⟩;rw[i]at q;exact q;rw[i]at q;exact q
def Fq(p:Pt):Int×Int:=(p.x,p.y)
theorem VA{a b:Pt}(h:Fq a=Fq b):a=b:=by unfold Fq at h;injection h with d c;exact Sg.fk d c
theorem yi(l:a5 Pt):l.map pD=(l.map Fq).map pairD:=by rw[bz];rfl
theorem Pp{a b:Pt}:d6 (swap (Fq a)) (swap (Fq b))↔fB b a=false:=by rw[Sg.c7];unfold d6 swap Fq;dsimp only;lia
inductive Qb:Prop
|mk (l:List Pt) (_:ds=[d5 l]) (_:l≠[]) (_:l.length<=2000) (_:(∀p∈l,B1 p)) (_:Q (d5 (Vbpcaa.normal l)))
theorem WA{u v:a5 Pt}{m:Pt}(h:∀q∈u,q≠m):((u++m::v).map Fq).idxOf (Fq m)=u.length:=by rw[bj,a9,List.idxOf_append,if_neg,N4,ai];exact Mo _;intro z;obtain⟨q,a,e⟩:=bh.mp z;exact h q a (VA e)
theorem EB{l:a5 Pt}(h:l≠[])(hl:l.length<=2000)(Q:D->Prop)(q:Q (d5 (kW l))):
  Wn (d5 l) λxs=>Js [d5 l] λd=>yB (D.lst xs) d λd=>Dx d λi=>SG (d5 l) λds=>Dx d λc=>SG (d5 l) λj=>(cutD ds (some i) none).length+(cutD j none (some c)).length<=aQ/\Q (D.lst (cutD ds (some i) none++cutD j none (some c))):=by
 obtain⟨u,m,v,b,A,z,y⟩:=Sg.mw h;simp! only[d5];rw[yi,U8];refine⟨by simpa using h,λp g n=>?_⟩;obtain⟨a,k,rfl⟩:=bh.mp g;have o:m∈l:=by rw[b];simp
 have t:a=m:=by have s:=Pp.mp (n (Fq m) (dR o));have r:=z a k;rw[Sg.c7]at s r;exact Sg.fk #v[] #v[]
 subst t;show yB _ _ _;rw[Q2];refine⟨g,?_⟩;have w:(l.map Fq).idxOf (Fq a)=u.length:=by rw[b];exact WA A
 rw[w,<- yi];have f:u.length<=(l.map pD).length:=by rw[ai,b,aP];lia
 have C:=oE u.length f;have B:=Cm u.length f;simp! only[C,B];rw[y]at q;have x:(l.map pD).drop u.length++(l.map pD).take u.length=(a::v++u).map pD:=by rw[<- k7,<- m8,<- bj,b,List.drop_left,List.take_left]
 refine⟨?_,by rw[x];exact q⟩;rw[cj,bw,ai];exact iO #v[]
theorem BD:VP e "in_form" 3 Qb:=by refine lX e ["points","start"] 1 e.Pd (λnd a=>(az (dv (uN (aN (sM e) a (cB (qv 0))) aA) (bO (bB 0 nd (p7 a.hd rfl e.B.wY rfl e.B.D8 (cB (qv 0))))) bM) (az (bB 1 nd (RF rfl a.units (qv 0) (RD (y3 e) (rm a) rfl rfl rfl e.B.SE (cB (qv 0)) (λp Q q=>⟨p,rfl,q⟩)))) (eI (pF (fO (qv 0) (fL (qv 1)) iY) (fO (qv 0) iY (fL (qv 1)))))))) λds Q h=>?_;obtain⟨l,rfl,b,hl,c,q⟩:=h;rw[<- Sg.PC,Sg.GD]at q;rw[QZ];ac_nf;refine⟨l,rfl,b,hl,c,λe=>?_,λe=>?_⟩;rw[if_pos (of_decide_eq_true e)]at q;have:=EB (l:=l.reverse) #v[b] #v[hl] Q q;rw[show d5 l.reverse=D.lst (l.map pD).reverse by rw[d5,UM]]at this;exact this;rw[if_neg (of_decide_eq_false e)]at q;exact EB b hl Q q
inductive DK:Prop
|mk (a b:Nat) (_:ds=[fD ((a:Int),(b:Int))]) (_:0<b) (_:b<2 ^ 64) (_:Q (fD (fr (Vbpcaa.Frac.reduced ⟨a,b⟩))))
theorem sG:VP e "least_terms" 1 DK:=by
 refine lX e ["fraction","divisor","rest","remainder"] 1 e.Dq (λnd k=>(az (bB 1 nd (aW (qv 0) aA)) (az (bB 2 nd (aW (qv 0) aA)) (az (sj PassesOwn.never (wu k.units (qv 2) aA) (az (bB 3 nd (FD (qv 1) (qv 2))) (az (bB 1 nd (qv 2)) (bO (bB 2 nd (qv 3)))))) (eI (i6 (ju (RH (aW (qv 0) aA) (qv 1)) (RH (aW (qv 0) aA) (qv 1))))))))) λds Q h=>?_;obtain⟨a,b,rfl,j,n,q⟩:=h;simp! only[fD];refine⟨λm g S=>S=[]/\∃(c:Nat)(x:Option Sl),g=[some (.sh (fD ((a:Int),(b:Int)))),some (.sh (.int (c:Int))),some (.sh (.int (m:Int))),x]/\jZ c m=jZ a b,⟨b,rfl,a,none,rfl,rfl⟩,?_⟩;rintro m g S ⟨rfl,c,x,rfl,d⟩;simp! only[fD];refine⟨λe=>?_,λe=>?_⟩;have f:0<m:=by
  have:¬((m:Int)=0):=by simpa using e
  lia
 refine⟨#v[],c % m,Nat.mod_lt _ f,m,some (.sh (.int ((c:Int) % (m:Int)))),?_,?_⟩;rw[Xt];rw[<- d,Nat.gcd_comm m,<- Nat.gcd_rec,Nat.gcd_comm];have f:m=0:=by
  have:(m:Int)=0:=by simpa using e
  lia
 subst f;rw[Nat.gcd_zero_right]at d;have l:0<c/\c<=b:=by rw[d];exact⟨lg _ j,Nat.le_of_dvd j (Ao _ _)⟩
 have i:∀z:Int,CDv z (c:Int):=λz=>⟨#v[],#v[]⟩;refine⟨i _,i _,Bc,?_⟩;unfold fr Vbpcaa.Frac.reduced fD at q;dsimp only at q;rw[<- d,Xu,Xu]at q;exact q
def kJ(f g:Int×Int):Prop:=f.1*g.2<=g.1*f.2
structure jK (f:Int×Int):Prop where
 n:0<=f.1
 d:0<f.2
 b:f.2<2 ^ 64
theorem jK.OE{f:Int×Int}(h:jK f):-(2 ^ 64)<f.2/\f.2<2 ^ 64:=⟨by have:=h.d;lia,h.b⟩
theorem kJ.refl(f:Int×Int):kJ f f:=Qr _
theorem kJ.trans{f g h:Int×Int}(c:jK f)(b:jK g)(a:jK h)(i:kJ f g)(d:kJ g h):kJ f h:=by
 unfold kJ at *;have a1:f.1*g.2*h.2<=g.1*f.2*h.2:=d8 i (by have:=a.d;lia);have a2:g.1*h.2*f.2<=h.1*g.2*f.2:=d8 d (by have:=c.d;lia);have a3:g.2*(f.1*h.2)<=g.2*(h.1*f.2):=by
  have k:g.2*(f.1*h.2)=f.1*g.2*h.2:=by grind
  have j:g.2*(h.1*f.2)=h.1*g.2*f.2:=by grind
  have l:g.1*f.2*h.2=g.1*h.2*f.2:=by grind
  rw[k,j];lia
 exact qD a3 b.d
structure PtS (k l:a5 Pt) (m f:Int×Int):Prop where
 of:f=m\/∃p∈k,∃e∈aO l,f=fr (ba p e.1 e.2)
 le:kJ f m
 all:∀p∈k,∀e∈aO l,kJ f (fr (ba p e.1 e.2))
theorem mQ{p a b:Pt}(f:B1 p)(h:B1 a)(g:B1 b):jK (fr (ba p a b)):=by
 refine⟨lN _,?_,?_⟩;have:=Sg.j6 p a b;show(0:Int)<((ba p a b).den:Int);lia;show((ba p a b).den:Int)<2 ^ 64;unfold ba;dsimp only;split;show((1:Nat):Int)<2 ^ 64;decide;split;show((1:Nat):Int)<2 ^ 64;decide;show((cD a b:Nat):Int)<2 ^ 64;rw[Sg.eA];unfold B1 at *;have key:∀u:Int,-2000000000<=u->u<=2000000000->u*u<=4000000000000000000:=λu d c=>by
  have e:(u*u).natAbs<=2000000000*2000000000:=by rw[Int.natAbs_mul];exact pJ #v[] #v[]
  lia
 have d:=key (a.x-b.x) #v[] #v[];have c:=key (a.y-b.y) #v[] #v[];lia
inductive xr:Prop
|mk (k l:List Pt) (m:Int×Int) (_:ds=[d5 k,d5 l,fD m]) (_:k≠[]) (_:l≠[]) (_:k.length<=2000) (_:l.length<=2000) (_:(∀p∈k,B1 p)) (_:(∀p∈l,B1 p)) (_:jK m) (_:∀f,jK f->PtS k l m f->Q (fD f))
theorem Cz{l:a5 Pt}(hl:l≠[])(a:∀p∈l,B1 p):Bb (bx l):=by
 have nx:l.map (·.x)≠[]:=by simpa using hl
 have d:l.map (·.y)≠[]:=by simpa using hl
 obtain⟨c,g,q⟩:=bh.mp (Sg.Ej nx);obtain⟨i,k,o⟩:=bh.mp (Sg.Ej d);obtain⟨b,f,n⟩:=bh.mp (Sg.Ek nx);obtain⟨h,j,m⟩:=bh.mp (Sg.Ek d);unfold Bb bx;dsimp only;rw[<- q,<- o,<- n,<- m];exact⟨⟨(a c g).1,(a c g).2.1⟩,(a i k).2.2,⟨(a b f).1,(a b f).2.1⟩,(a h j).2.2⟩
theorem Nv{b c:Int×Int×Int×Int}(d:Bb b)(a:Bb c):0<=gap b c/\gap b c<=8000000000000000000:=by
 have key:∀{u:Int},0<=u/\u<=2000000000->0<=u*u/\u*u<=2000000000*2000000000:=λh=>⟨aE h.1 h.1,pK h.2 h.2 h.1 #v[1]⟩
 have g:=key (mx2 (Yi a.1.2 d.2.2.1.1) (Yi d.1.2 a.2.2.1.1));have f:=key (mx2 (Yi a.2.1.2 d.2.2.2.1) (Yi d.2.1.2 a.2.2.2.1));exact⟨Int.add_nonneg g.1 f.1,iX (G9 g.2 f.2) #v[1]⟩
theorem WG{k:a5 Pt}{p a b:Pt}(d:p∈k):gap (bx k) (bx [a,b])*(fr (ba p a b)).2<=(fr (ba p a b)).1:=
 Sg.LA (b:=Sg.vQ k) (c:=Sg.vQ [a,b]) (Sg.fG d) (Sg.fG #v[0]) (Sg.fG #v[0])
theorem Er{f g:Int×Int}{z:Int}(b:jK f)(a:jK g)(d:f.1<=z*f.2)(c:z*g.2<=g.1):kJ f g:=by
 unfold kJ;have a1:=d8 d (show 0<=g.2 by have:=a.d;lia);have a2:=d8 c (show 0<=f.2 by have:=b.d;lia);have e:z*f.2*g.2=z*g.2*f.2:=by grind
 lia
theorem Pq{f g:Int×Int}:kJ (if g.1*f.2<f.1*g.2 then g else f) f/\kJ (if g.1*f.2<f.1*g.2 then g else f) g:=by
 split
 next h=>exact⟨by unfold kJ;lia,kJ.refl _⟩
 next h=>exact⟨kJ.refl _,by unfold kJ;lia⟩
inductive PS1 (k l:List Pt) (m:Int×Int) (i:Nat) (ρ:Env):Prop
|mk (f:Int×Int) (x y z:Option Sl) (_:ρ=[some (.sh (d5 k)),some (.sh (d5 l)),some (.sh (fD m)),some (.sh (bD (bx k))),some (.sh (fD f)),x,y,z]) (_:jK f)
  (_:f=m\/∃p∈k,∃e∈aO l,f=fr (ba p e.1 e.2)) (_:kJ f m) (_:∀p∈k,∀e∈(aO l).take i,kJ f (fr (ba p e.1 e.2)))
inductive PS2 (k l:List Pt) (m:Int×Int) (i:Nat) (e:Pt×Pt) (j:Nat) (ρ:Env):Prop
|mk (f:Int×Int) (z:Option Sl) (_:ρ=[some (.sh (d5 k)),some (.sh (d5 l)),some (.sh (fD m)),some (.sh (bD (bx k))),some (.sh (fD f)),some (.sh (pD e.1)),some (.sh (pD e.2)),z]) (_:jK f)
  (_:f=m\/∃p∈k,∃e∈aO l,f=fr (ba p e.1 e.2)) (_:kJ f m) (_:∀p∈k,∀e∈(aO l).take i,kJ f (fr (ba p e.1 e.2))) (_:∀p∈k.take j,kJ f (fr (ba p e.1 e.2)))
theorem oy:VP e "points_to_sides" 3 xr:=by
 refine lX e ["points","others","most","around","least","a","b","p"] 3 e.wI (λnd c=>(az (bB 3 nd (aN (kY e) c (cB (qv 0)))) (az (bB 4 nd (qv 2)) (az (eP (cI (aN (je e) c (cB (qv 1)))) (He (jM 5 nd) (jM 6 nd)) (bO (dv (uN (gM (aN (ox e) c (ju (qv 3) (aN (kY e) c (cB (cR (ju (qv 5) (qv 6))))))) (aW (qv 4) aA)) (aW (qv 4) aA)) (bO (eP (cI (qv 0)) (jM 7 nd) (bO (bB 4 nd (aN (OX e) c (ju (qv 4) (aN (nB e) c (rp (qv 7) (qv 5) (qv 6))))))))) bM))) (eI (qv 4)))))) λds Q h=>?_;obtain⟨k,l,m,rfl,hk,hl,U,T,d,A,N,q⟩:=h;ac_nf;refine⟨k,rfl,hk,U,?_⟩;refine gQ (aO l) sD (PS1 k l m) (λR h=>⟨l,rfl,hl,T,h⟩) ?_ ?_ ?_;exact⟨m,none,none,none,rfl,N,.inl rfl,kJ.refl _,#v[0]⟩;rintro i e H J ⟨f,x,y,z,rfl,s,D,E,u⟩;have M:=bp J;obtain⟨m1,m2⟩:=Sg.bN M;have G:=A _ m1;have F:=A _ m2;simp! only[sD,fD];have P:=Cz hk d;have O:Bb (bx [e.1,e.2]):=Cz #v[0] (λp a=>by simp at a;rcases a with rfl|rfl<;>assumption);have X:=Nv P O;refine⟨#v[1],[e.1,e.2],rfl,#v[0],#v[0],bx k,bx [e.1,e.2],rfl,P,O,cm #v[],λt=>?_,λt=>?_⟩;refine gQ k pD (PS2 k l m i e) (λR h=>h) ?_ ?_ ?_;exact⟨f,z,rfl,s,D,E,u,#v[0]⟩;rintro j p H a ⟨g,z,rfl,n,go,K,L,C⟩;have I:=bp a;have V:=mQ (d p I) G F;ac_nf;refine⟨p,e.1,e.2,rfl,d p I,G,F,g,fr (ba p e.1 e.2),rfl,n.OE,V.OE,?_⟩;obtain⟨l1,l2⟩:=Pq (f:=g) (g:=fr (ba p e.1 e.2));have B:jK (if(fr (ba p e.1 e.2)).1*g.2<g.1*(fr (ba p e.1 e.2)).2 then fr (ba p e.1 e.2) else g):=by split<;>assumption
 refine⟨_,_,rfl,B,?_,kJ.trans B n N l1 K,λo r v b=>?_,λo r=>?_⟩;split;exact .inr ⟨p,I,e,M,rfl⟩;exact go;have W:=di b;obtain⟨S,n2⟩:=Sg.bN W;exact kJ.trans B n (mQ (d o r) (A _ S) (A _ n2)) l1 (L o r v b);rw[ck a]at r;rcases aI.mp r with w|w;exact kJ.trans B n (mQ (d o (di w)) G F) l1 (C o w);simp at w;subst w;exact l2;rintro H ⟨g,z,rfl,n,go,K,L,C⟩;rw[bY]at C;refine⟨rfl,g,_,_,_,rfl,n,go,K,λp a v b=>?_⟩;rw[ck J]at b;rcases aI.mp b with w|w;exact L p a v w;simp at w;subst w;exact C p a;refine⟨f,_,_,_,rfl,s,D,E,λp a v b=>?_⟩;rw[ck J]at b;rcases aI.mp b with w|w;exact u p a v w;simp at w;subst w;have t':=of_decide_eq_false t;exact Er s (mQ (d p a) G F) #v[] (WG a);rintro H ⟨f,x,y,z,rfl,s,D,E,u⟩;rw[bY]at u;exact q f s ⟨D,E,u⟩
inductive uF:Prop
|mk (k l:List Pt) (_:ds=[d5 k,d5 l]) (_:k≠[]) (_:l≠[]) (_:k.length<=2000) (_:l.length<=2000) (_:(∀p∈k,B1 p)) (_:(∀p∈l,B1 p)) (_:Q (.bl (Sg.common k l)))
theorem Pl{k:a5 Pt}{e:Pt×Pt}(h:gap (bx k) (bx [e.1,e.2])≠0):((aO k).any λd=>Vbpcaa.meet e.1 e.2 d.1 d.2)=false:=by
 cases c:(aO k).any λd=>Vbpcaa.meet e.1 e.2 d.1 d.2 with
|false=>rfl
|true=>exfalso;apply h;obtain⟨d,hd,m⟩:=bS.mp c;obtain⟨m1,m2⟩:=Sg.bN hd;exact Sg.Nq (b:=Sg.vQ k) (c:=Sg.vQ [e.1,e.2]) (Sg.fG m1) (Sg.fG m2) (Sg.fG (p:=e.1) #v[0]) (Sg.fG (p:=e.2) #v[0]) (by rw[Sg.jl,Sg.meet_comm];exact m)
theorem xh(k l:a5 Pt):((aO l).all λe=>!((aO k).any λd=>Vbpcaa.meet e.1 e.2 d.1 d.2)) = !((aO k).any λe=>(aO l).any λf=>Sg.fh e.1 e.2 f.1 f.2):=by apply Sg.cW;simp only[bf,fF,eD,Sg.jl];constructor;intro h d hd;rw[a8,eD];intro e a;rw[Sg.meet_comm];exact h e a d hd;intro h e a d hd;have:=h d hd;rw[a8,eD]at this;rw[Sg.meet_comm];exact this e a
theorem sH:VP e "have_common_point" 5 uF:=by
 refine lX e ["points","others","around","sides","a","b"] 2 e.uw (λnd a=>(az (bB 2 nd (aN (kY e) a (cB (qv 0)))) (az (bB 3 nd (aN (je e) a (cB (qv 0)))) (az (eP (cI (aN (je e) a (cB (qv 1)))) (He (jM 4 nd) (jM 5 nd)) (bO (dv (QW.qt (x9 (p5 a.units (aN (ox e) a (ju (qv 2) (aN (kY e) a (cB (cR (ju (qv 4) (qv 5))))))) aA) (tU (d7 (aN (FR e) a (rp (qv 4) (qv 5) (qv 3))))))) (eI jH) bM))) (eI (XW (aN (sL e) a (ju (qv 0) (aW (qv 1) aA))) (vv (aN (sL e) a (ju (qv 1) (aW (qv 0) aA)))))))))) λds Q h=>?_;obtain⟨k,l,rfl,hk,hl,i,j,b,c,q⟩:=h;ac_nf;refine⟨k,rfl,hk,i,k,rfl,hk,i,?_⟩;refine jI (aO l) sD (λm=>∃x y:Option Sl,m=[some (.sh (d5 k)),some (.sh (d5 l)),some (.sh (bD (bx k))),some (.sh (CU (aO k))),x,y]) (λe=>!((aO k).any λd=>Vbpcaa.meet e.1 e.2 d.1 d.2)) (.bl true) (λR h=>⟨l,rfl,hl,j,h⟩) ⟨_,_,rfl⟩ ?_ ?_ ?_;rintro e u m ⟨x,y,rfl⟩ N r v;obtain⟨m1,m2⟩:=Sg.bN u;have C:=c _ m1;have B:=c _ m2;have A:=Cz hk b;have w:Bb (bx [e.1,e.2]):=Cz #v[0] (λp o=>by simp at o;rcases o with rfl|rfl<;>assumption);simp! only[sD];refine⟨#v[1],[e.1,e.2],rfl,#v[0],#v[0],bx k,bx [e.1,e.2],rfl,A,w,λt=>⟨e.1,e.2,aO k,rfl,C,B,λd hd=>?_,λn=>?_,λn=>?_⟩,λt=>?_⟩;obtain⟨s,n2⟩:=Sg.bN hd;exact⟨b _ s,b _ n2⟩;exact v (by rw[n];rfl);exact r (by rw[n];rfl) _ ⟨_,_,rfl⟩;refine r ?_ _ ⟨_,_,rfl⟩;rw[Pl (by intro z;rw[z]at t;simp at t)];rfl
 intro e;rw[xh]at e;have:((aO k).any λe=>(aO l).any λf=>Sg.fh e.1 e.2 f.1 f.2)=true:=by revert e;cases((aO k).any λe=>(aO l).any λf=>Sg.fh e.1 e.2 f.1 f.2)<;>simp
 unfold Sg.common at q;rw[this]at q;exact q;rintro m ⟨x,y,rfl⟩ e;rw[xh]at e;have:((aO k).any λe=>(aO l).any λf=>Sg.fh e.1 e.2 f.1 f.2)=false:=by revert e;cases((aO k).any λe=>(aO l).any λf=>Sg.fh e.1 e.2 f.1 f.2)<;>simp
 unfold Sg.common at q;rw[this,jL]at q
 match k,l,hk,hl,i,j,b,c,q with
|p::k,g::l,_,_,i,j,b,c,q=>simp! only[d5];refine⟨p::k,g,rfl,i,b,c g #v[0],λt=>?_,λt=>⟨g::l,p,rfl,j,c,b p #v[0],?_⟩⟩;have t':Sg.encl (p::k) g=true:=t;simp only[n6]at q;rw[t']at q;exact q;have t':Sg.encl (p::k) g=false:=t;simp only[n6]at q;rw[t']at q;exact q
theorem lD{f g:Vbpcaa.Frac}:kJ (fr f) (fr g)↔f.le g=true:=by rw[Sg.le_iff];unfold kJ fr;dsimp only;rw[<- fR,<- fR];exact Int.ofNat_le
theorem qo{k l:a5 Pt}(hk:k≠[])(hl:l≠[])(h:∀p∈k,B1 p)(g:∀p∈l,B1 p):jK (fr (aT k l)):=by
 refine⟨lN _,?_,?_⟩;have:=Sg.oC hk hl;show(0:Int)<((aT k l).den:Int);lia;cases c:Sg.common k l with
|true=>rw[Sg.jf hk hl c];decide
|false=>
  have L:=Sg.kI hk hl;obtain⟨_,e⟩:=Sg.lG hk hl c L;rw[<- e];have r:=(Sg.vt _ L.den).2.2;have b:((Vbpcaa.Frac.least (cO (Sg.eB k l)) (cO (Sg.eB l k))).den:Int)<2 ^ 64:=by rcases L.1 with m|m;obtain⟨p,f,d,hd,e⟩:=Sg.dZ.mp m;obtain⟨a,n2⟩:=Sg.bN hd;rw[e];exact(mQ (h p f) (g _ a) (g _ n2)).b;obtain⟨p,f,d,hd,e⟩:=Sg.dZ.mp m;obtain⟨a,n2⟩:=Sg.bN hd;rw[e];exact(mQ (g p f) (h _ a) (h _ n2)).b
  show((Vbpcaa.Frac.reduced _).den:Int)<2 ^ 64;lia
structure afr (k l:a5 Pt) (m f:Int×Int):Prop where
 g:jK f
 le:kJ f m
 d:kJ f (fr (aT k l))
 o:f=m\/kJ (fr (aT k l)) f
inductive yP:Prop
|mk (k l:List Pt) (m:Int×Int) (_:ds=[d5 k,d5 l,fD m]) (_:k≠[]) (_:l≠[]) (_:k.length<=2000) (_:l.length<=2000) (_:(∀p∈k,B1 p)) (_:(∀p∈l,B1 p)) (_:jK m) (_:∀f,afr k l m f->Q (fD f))
theorem lB:VP e "distance_up_to" 6 yP:=by
 refine lX e ["points","others","most"] 3 e.yq (λnd n=>(az (dv (XU (gM (aN (ox e) n (ju (aN (kY e) n (cB (qv 0))) (aN (kY e) n (cB (qv 1))))) (aW (qv 2) aA)) (aW (qv 2) aA)) (eI (qv 2)) bM) (az (dv (d7 (aN (sH e) n (ju (qv 0) (qv 1)))) (eI (i6 (ju aA aA))) bM) (eI (aN (oy e) n (rp (qv 0) (qv 1) (aN (oy e) n (rp (qv 1) (qv 0) (qv 2))))))))) λds Q h=>?_;obtain⟨k,l,m,rfl,hk,hl,s,r,j,i,o,q⟩:=h;have G:=qo hk hl j i;simp! only[fD];have K:=Cz hk j;have J:=Cz hl i;have T:=Nv K J;refine⟨k,rfl,hk,s,l,rfl,hl,r,bx k,bx l,rfl,K,J,cm #v[],λt=>?_,λt=>⟨k,l,rfl,hk,hl,s,r,j,i,λy=>⟨Bc,?_⟩,λy=>?_⟩⟩;refine q m ⟨o,kJ.refl _,?_,.inl rfl⟩;have t':=of_decide_eq_true t;exact Er o G t' (Sg.WC hk hl);have e:=Sg.jf hk hl y;refine q (0,1) ⟨⟨#v[1],#v[1],#v[1]⟩,?_,?_,.inr ?_⟩;unfold kJ;have:=o.n;simp only;lia;rw[e];exact kJ.refl _;rw[e];exact kJ.refl _;refine⟨l,k,m,rfl,hl,hk,r,s,i,j,o,λP E z=>⟨k,l,P,rfl,hk,hl,s,r,j,i,E,λf u p=>q f ?_⟩⟩;have L:=Sg.kI hk hl;obtain⟨R,_⟩:=Sg.lG hk hl y L;generalize S:Vbpcaa.Frac.least (cO (Sg.eB k l)) (cO (Sg.eB l k))=g at L R;have O:kJ (fr g) (fr (aT k l)):=lD.mpr (Sg.le_iff.mpr #v[]);have N:kJ (fr (aT k l)) (fr g):=lD.mpr (Sg.le_iff.mpr #v[]);have I:∀p∈k,∀e∈aO l,jK (fr (ba p e.1 e.2)):=λp B e C=>by obtain⟨A,n2⟩:=Sg.bN C;exact mQ (j p B) (i _ A) (i _ n2)
 have D:∀p∈l,∀e∈aO k,jK (fr (ba p e.1 e.2)):=λp B e C=>by obtain⟨A,n2⟩:=Sg.bN C;exact mQ (i p B) (j _ A) (j _ n2)
 have F:kJ f (fr g)/\jK (fr g):=by rcases L.1 with w|w;obtain⟨a,b,d,c,rfl⟩:=Sg.dZ.mp w;exact⟨p.all a b d c,I a b d c⟩;obtain⟨a,b,d,c,rfl⟩:=Sg.dZ.mp w;exact⟨kJ.trans u E (D a b d c) p.le (z.all a b d c),D a b d c⟩
 refine⟨u,kJ.trans u E o p.le z.le,kJ.trans u F.2 G F.1 O,?_⟩;have H:∀x:Vbpcaa.Frac,x∈Sg.eB k l\/x∈Sg.eB l k->jK (fr x)->kJ (fr (aT k l)) (fr x):=by
  intro x M gx;have:kJ (fr g) (fr x):=lD.mpr (by rcases M with w|w;exact L.2.1 x w;exact L.2.2 x w)
  exact kJ.trans G F.2 gx N this
 rcases p.of with w|⟨a,b,d,c,w⟩;rcases z.of with v|⟨a,b,d,c,v⟩;exact .inl (w.trans v);right;rw[w,v];exact H _ (.inr (Sg.dZ.mpr ⟨a,b,d,c,rfl⟩)) (D a b d c);right;rw[w];exact H _ (.inl (Sg.dZ.mpr ⟨a,b,d,c,rfl⟩)) (I a b d c)
theorem Sm{f:Int×Int}(g:jK f):∃a b:Nat,f=((a:Int),(b:Int))/\0<b/\b<2 ^ 64:=by obtain⟨x,y⟩:=f;have c:=g.n;have h:=g.d;have d:=g.b;simp only at c h d;refine⟨x.toNat,y.toNat,?_,#v[],#v[]⟩;rw[jk c,jk #v[]]
theorem GC{k l:a5 Pt}(hk:k≠[])(hl:l≠[]):(aT k l).reduced=aT k l:=by
 cases c:Sg.common k l with
|true=>rw[Sg.jf hk hl c];rfl
|false=>have L:=Sg.kI hk hl;obtain⟨b,a⟩:=Sg.lG hk hl c L;rw[<- Sg.mM L.den (Sg.oC hk hl) b,a]
theorem Rr{k l:a5 Pt}(hk:k≠[])(hl:l≠[]){a b:Nat}(c:0<b)(h:kJ ((a:Int),(b:Int)) (fr (aT k l)))(d:kJ (fr (aT k l)) ((a:Int),(b:Int))):Vbpcaa.Frac.reduced ⟨a,b⟩=aT k l:=by have j:Vbpcaa.Frac.le ⟨a,b⟩ (aT k l)=true:=lD.mp h;have i:Vbpcaa.Frac.le (aT k l) ⟨a,b⟩=true:=lD.mp d;rw[Sg.mM (f:=⟨a,b⟩) (g:=aT k l) c (Sg.oC hk hl) (Sg.le_antisymm j i),GC hk hl]
inductive uE:Prop
|mk (k l:List Pt) (_:ds=[d5 k,d5 l]) (_:k≠[]) (_:l≠[]) (_:k.length<=2000) (_:l.length<=2000) (_:(∀p∈k,B1 p)) (_:(∀p∈l,B1 p)) (_:Q (fD (fr (aT k l))))
theorem iG:VP e "skeleton_distance" 7 uE:=by
 refine lX e ["points","others"] 2 e.uv (λnd i=>(eI (aN (sG e) i (cB (aN (lB e) i (rp (qv 0) (qv 1) (i6 (ju (aN (gw e) i (ju (aW (qv 0) aA) (aW (qv 1) aA))) aA)))))))) λds Q h=>?_;obtain⟨k,l,rfl,hk,hl,m,j,g,d,q⟩:=h
 match k,l,hk,hl,m,j,g,d,q with
|p::k,c::l,hk,hl,m,j,g,d,q=>simp! only[d5];refine⟨p,c,rfl,(g p #v[0]).b2,(d c #v[0]).b2,Bc,p::k,c::l,((cD p c:Int),1),rfl,hk,hl,m,j,g,d,⟨lN _,(show(0:Int)<1 by decide),(show(1:Int)<2 ^ 64 by decide)⟩,λf u=>?_⟩;obtain⟨a,b,rfl,n,r⟩:=Sm u.g;refine⟨a,b,rfl,n,r,?_⟩;have s:=Sg.LP (k:=p::k) (l:=c::l) rfl rfl;rw[Rr hk hl n u.d ?_];exact q;rcases u.o with o|o;rw[o];exact lD.mpr s;exact o
inductive Ak:Prop
|mk (k l:List Pt) (d:Nat) (_:ds=[d5 k,d5 l,.int (d:Int)]) (_:k≠[]) (_:l≠[]) (_:k.length<=2000) (_:l.length<=2000) (_:(∀p∈k,B1 p)) (_:(∀p∈l,B1 p)) (_:d<2 ^ 64) (_:Q (.bl ((Vbpcaa.Frac.whole (d*d)).le (aT k l))))
theorem qf:VP e "keep_distance" 7 Ak:=by
 refine lX e ["points","others","distance","square"] 3 e.Ad (λnd b=>(az (bB 3 nd (i6 (ju (gM (qv 2) (qv 2)) aA))) (eI (KW (aN (mi e) b (ju (aN (lB e) b (rp (qv 0) (qv 1) (qv 3))) (qv 3))))))) λds Q h=>?_;obtain⟨k,l,d,rfl,hk,hl,p,m,i,g,hd,q⟩:=h;have j:=qo hk hl i g;ac_nf;have a:jK (((d:Int)*(d:Int)),1):=⟨aE #v[] #v[],(show(0:Int)<1 by decide),(show(1:Int)<2 ^ 64 by decide)⟩;refine⟨cm #v[],Bc,k,l,((d:Int)*(d:Int),1),rfl,hk,hl,p,m,i,g,a,λf u=>⟨f,((d:Int)*(d:Int),1),rfl,u.g.OE,a.OE,?_⟩⟩;have e:(!decide (f.1*(1:Int)<((d:Int)*(d:Int))*f.2))=(Vbpcaa.Frac.whole (d*d)).le (aT k l):=by
  apply Sg.cW;have w:(Vbpcaa.Frac.whole (d*d)).le (aT k l)=true↔kJ (((d:Int)*(d:Int)),1) (fr (aT k l)):=by rw[<- lD];unfold fr Vbpcaa.Frac.whole;dsimp only;rw[fR];exact Au
  rw[w];simp only[fF,decide_eq_false_iff_not];constructor;intro n;have:kJ (((d:Int)*(d:Int)),1) f:=by unfold kJ;dsimp only;lia
  exact kJ.trans a u.g j this u.d;intro n c;rcases u.o with o|o;rw[o]at c;simp only at c;lia;have:=kJ.trans a j u.g n o;unfold kJ at this;dsimp only at this;lia
 rw[<- e]at q;exact q
inductive uG:Prop
|mk (k l:List Pt) (_:ds=[d5 k,d5 l]) (_:k≠[]) (_:l≠[]) (_:k.length<=2000) (_:l.length<=2000) (_:(∀p∈k,B2 p)) (_:(∀p∈l,B2 p)) (_:Q (.int (YD k l)))
theorem aeb{n:Int}{ns:a5 Int}:ns.foldl max n=lr (n::ns):=rfl
theorem Gy:∀(l m:a5 Nat)(z:Nat),(l++m).foldl max z=max (l.foldl max z) (m.foldl max 0):=by
 intro l m z;rw[zU];have:∀(m:a5 Nat)(z:Nat),m.foldl max z=max z (m.foldl max 0):=by
  intro m
  induction m with
 |nil=>intro z;simp
 |cons a m b=>intro z;rw[bJ,bJ,b,b (max 0 a),Nat.zero_max,Nat.max_assoc]
 rw[this]
theorem uW:∀(m:a5 Nat)(z:Nat),(m.map λ(x:Nat)=>(x:Int)).foldl max (z:Int)=((m.foldl max z:Nat):Int)
|[],z=>rfl
|a::m,z=>by rw[a9,bJ,bJ,<- uW m];congr 1;lia
theorem sJ:VP e "greatest_distance" 2 uG:=by
 refine lX e ["points","others","greatest","p","q"] 2 e.ux (λnd f=>(az (bB 2 nd aA) (az (eP (cI (qv 0)) (jM 3 nd) (bO (bB 2 nd (fi AS (uh rfl) rfl e.B.Gg #v[2] (ju (qv 2) (fi GH (LY rfl) rfl e.B.Gg #v[2] (cB (su (own:=[("q",4)]) nd (cI (qv 1)) (λ_ _ _ _ _=>(jM 4 nd)) (λ_ _ _ _ _=>jG) (λ_ _ _ _ _=>(aN (gw e) f (ju (qv 3) (qv 4)))))))))))) (eI (qv 2))))) λds Q h=>?_;obtain⟨k,l,rfl,hk,hl,u,m,o,n,q⟩:=h;ac_nf;refine gQ k pD (λi b=>∃x:Option Sl,b=[some (.sh (d5 k)),some (.sh (d5 l)),some (.sh (.int (((k.take i).flatMap λp=>l.map λq=>cD p q).foldl max 0:Nat))),x,none]) (λR h=>h) ⟨none,rfl⟩ ?_ ?_;rintro i p b d ⟨x,rfl⟩;have g:=bp d;ac_nf;refine mn l pD (λq=>D.int (cD p q:Nat)) rfl (λR h=>h) (iO m) (λc j v h=>⟨p,c,rfl,o p g,n c j,h⟩) ?_;have t:(l.map λq=>D.int (cD p q:Nat))=(l.map λq=>((cD p q:Nat):Int)).map D.int:=by rw[bz];rfl
 rw[t]
 match l,hl with
|a::l,_=>
  rw[a9,Va];ac_nf;refine⟨some (.sh (pD p)),?_⟩;have s:(l.map λq=>((cD p q:Nat):Int)).foldl max ((cD p a:Nat):Int)=((((a::l).map λq=>cD p q).foldl max 0:Nat):Int):=by have:=uW (l.map λq=>cD p q) (cD p a);rw[bz]at this;rw[a9,bJ,show max 0 (cD p a)=cD p a by lia];exact this
  rw[s,ck d,ja,Gy];have r:∀A B:Nat,max (A:Int) (B:Int)=((max A B:Nat):Int):=λA B=>by lia
  simp only[dW,AX,cG,r];rfl
 rintro b ⟨x,rfl⟩;rw[bY];exact q
inductive yQ:Prop
|mk (S:List (Int×Int)) (_:ds=[.lst (S.map pairD)]) (_:Q (.int (Sg.qu S)))
theorem wF:VP e "covered_length" 1 yQ:=by
 refine lX e ["spans","length","reached","low","high"] 1 e.yr (λnd f=>(az (dv (p5 f.units (gY e.B (cB (qv 0))) aA) (eI aA) bM) (az (bB 1 nd aA) (az (bB 2 nd (aW (aW (qv 0) aA) aA)) (az (eP (cI (qv 0)) (He (jM 3 nd) (jM 4 nd)) (bO (dv (yY (qv 4) (qv 2)) (az (KU 1 nd (eX (qv 4) (fi AS (uh rfl) rfl e.B.Gg #v[2] (ju (qv 3) (qv 2))))) (bO (bB 2 nd (qv 4)))) bM))) (eI (qv 1))))))) λds Q h=>?_;obtain⟨S,rfl,q⟩:=h;ac_nf;refine⟨λt=>?_,λt=>?_⟩;have:S=[]:=by rw[ai]at t;have:=of_decide_eq_true t;exact jh.mp #v[]
 subst this;exact q
 match S,q,t with
|[],q,t=>simp at t
|s::S,q,t=>
  simp! only[pairD];refine gQ (s::S) pairD (λi c=>∃(len b:Int)(x y:Option Sl),c=[some (.sh (.lst ((s::S).map pairD))),some (.sh (.int len)),some (.sh (.int b)),x,y]/\Sg.Cq (s::S) s.1 0=Sg.Cq ((s::S).drop i) b len) (λR h=>h) ⟨0,s.1,none,none,rfl,rfl⟩ ?_ ?_;rintro i a c d ⟨len,b,x,y,rfl,e⟩;have g:(s::S).drop i=a::(s::S).drop (i+1):=by have hi:=(aJ.mp d).1;rw[kK hi];congr 1;exact(aJ.mp d).2
  rw[g]at e;simp! only[pairD];refine⟨λt=>⟨_,_,_,_,rfl,?_⟩,λt=>⟨_,_,_,_,rfl,?_⟩⟩;rw[e,Sg.Cq,if_pos (of_decide_eq_true t)];rw[e,Sg.Cq,if_neg (of_decide_eq_false t)];rintro c ⟨len,b,x,y,rfl,e⟩;rw[List.drop_length]at e;have q':Q (.int (Sg.Cq (s::S) s.1 0)):=q;rw[e]at q';exact q'
inductive CI:Prop
|mk (l:List Sg.Bo) (_:ds=[.lst (l.map bD)]) (_:l.length<=1000) (_:(∀b∈l,Bb b/\b.2.1<=b.2.2.2)) (_:Q (.int (uJ l)))
theorem Wt{p q:Int×Int}(h:d6 p q):p.1<=q.1:=by unfold d6 at h;lia
theorem Rf{α:Type}(f:α->Int)(l:a5 α){i:Nat}{a:α}(h:l[i]? = some a):((l.take (i+1)).map f).sum=((l.take i).map f).sum+f a:=by rw[ck h,bj,Xq];simp
theorem Fl{xs:a5 Int}{p:Int×Int}(h:p∈xs.zip xs.tail):p.1∈xs/\p.2∈xs:=by have:=iR h;exact⟨this.1,List.mem_of_mem_tail this.2⟩
def SoP(S a:a5 (Int×Int)):Prop:=a.Perm S/\a.Pairwise d6
theorem WZ{S g f:a5 (Int×Int)}(d:SoP S g)(c:SoP S f):g=f:=by refine List.Perm.eq_of_pairwise (λa b i h l1 l2=>?_) d.2 c.2 (d.1.trans c.1.symm);unfold d6 at l1 l2;exact zQ #v[] #v[]
theorem XQ(S:a5 (Int×Int)):∃d,SoP S d:=by
 refine⟨S.mergeSort (λa b=>decide (d6 a b)),List.mergeSort_perm _ _,?_⟩;have:=List.pairwise_mergeSort (le:=λa b:Int×Int=>decide (d6 a b)) (λa b c g f=>by
  simp only[decide_eq_true_eq]at *;unfold d6 at *;lia) (λa b=>by simp only[eU,decide_eq_true_eq];unfold d6;lia) S
 exact this.imp λh=>by simpa using h
noncomputable def so (S:a5 (Int×Int)):a5 (Int×Int):=Mr (XQ S)
theorem Fw(S:a5 (Int×Int)):SoP S (so S):=Fi (XQ S)
theorem NN(xs:a5 D):cutD xs (some 1) none=xs.tail:=by
 match xs with
|[]=>rfl
|x::xs=>exact oE (xs:=x::xs) 1 #v[0]
theorem Aa:VP e "covered_area" 2 CI:=by
 refine lX e ["boxes","edges","area","left","right","spans","box"] 1 e.BN (λnd w=>(az (bB 1 nd (fi JK JG rfl e.B.Fu #v[2] (cB (pF (su (own:=[("box",6)]) nd (cI (qv 0)) (λ_ _ _ _ _=>(jM 6 nd)) (λ_ _ _ _ _=>jG) (λ_ _ _ _ _=>(aW (qv 6) aA))) (su (own:=[("box",6)]) nd (cI (qv 0)) (λ_ _ _ _ _=>(jM 6 nd)) (λ_ _ _ _ _=>jG) (λ_ _ _ _ _=>(aW (qv 6) aA))))))) (az (bB 2 nd aA) (az (eP (Rx rfl rfl e.B.UT (ju (qv 1) (fO (qv 1) (fL aA) iY))) (He (jM 3 nd) (jM 4 nd)) (az (ou 5 (own:=[("box",6)]) nd (cI (qv 0)) (λ_ _ _ _ _=>(jM 6 nd)) (λ_ _ _ _ _=>(AI (QW.qt (x9 (Io (aW (qv 6) aA) (qv 3)) (tU (Io (qv 4) (aW (qv 6) aA))))))) (λ_ _ _ _ _=>(i6 (ju (aW (qv 6) aA) (aW (qv 6) aA))))) (bO (KU 2 nd (gM (eX (qv 4) (qv 3)) (aN (wF e) w (cB (fi (JJ rfl) JF rfl e.B.Fu #v[2] (cB (qv 5)))))))))) (eI (qv 2)))))) λds Q h=>?_;obtain⟨l,rfl,hl,a,q⟩:=h;ac_nf;refine mn l bD (λb=>D.int b.1) rfl (λR h=>h) (vL #v[]) (λp c n h=>h) ?_;refine mn l bD (λb=>D.int b.2.2.1) rfl (λR h=>h) (vL #v[]) (λp c n h=>h) ?_;ac_nf;refine⟨by rw[ai,ai];exact iO #v[],?_⟩;have F:(l.map λb=>D.int b.1)++(l.map λb=>D.int b.2.2.1)=(l.map (·.1)++l.map (·.2.2.1)).map D.int:=by rw[bj,bz,bz];rfl
 rw[F,Hv];intro xs o r;have g:∀e,e∈xs↔∃b∈l,e=b.1\/e=b.2.2.1:=by intro e;rw[o.mem_iff];simp only[aI,bh];constructor;rintro(⟨b,a,rfl⟩|⟨b,a,rfl⟩);exact⟨b,a,.inl rfl⟩;exact⟨b,a,.inr rfl⟩;rintro⟨b,a,rfl|rfl⟩;exact .inl ⟨b,a,rfl⟩;exact .inr ⟨b,a,rfl⟩
 rw[<- Sg.TJ (l:=l) (xs:=xs) (so:=so) r g (λS=>⟨(Fw S).2.imp Wt,λs=>(Fw S).1.mem_iff⟩) (λb h=>(a b h).2)]at q;refine gQ (xs.zip xs.tail) pairD (λi f=>∃(x y z:Option Sl),f=[some (.sh (.lst (l.map bD))),some (.sh (.lst (xs.map D.int))),some (.sh (.int (((xs.zip xs.tail).take i).map λp=>(p.2-p.1)*Sg.qu (so ((l.filter λb=>decide (b.1<=p.1)&&decide (p.2<=b.2.2.1)).map λb=>(b.2.1,b.2.2.2)))).sum)),x,y,z,none]) (λR h=>?_) ⟨none,none,none,rfl⟩ ?_ ?_;ac_nf;have:((xs.map D.int).zip (cutD (xs.map D.int) (some 1) none)).map (λz=>D.tup [z.1,z.2])=(xs.zip xs.tail).map pairD:=by rw[NN,<- List.map_tail,List.zip_map,bz];rfl
 rw[this];exact h;rintro i p f c ⟨x,y,z,rfl⟩;have j:=Fl (bp c);simp! only[pairD];refine tZ l bD (λb=>pairD (b.2.1,b.2.2.2)) (λb=>decide (b.1<=p.1)&&decide (p.2<=b.2.2.1)) rfl (λR h=>h) (vL #v[]) (λb k R h=>?_) ?_;refine h _ (λH d=>?_) (λ_ n B=>⟨Bc,B⟩);simp! only[bD];refine⟨λt=>?_,λt=>?_⟩;rw[t,gr]at d;exact d;rw[t,kl]at d;exact d;have E:((l.filter λb=>decide (b.1<=p.1)&&decide (p.2<=b.2.2.1)).map λb=>pairD (b.2.1,b.2.2.2))=((l.filter λb=>decide (b.1<=p.1)&&decide (p.2<=b.2.2.1)).map λb=>(b.2.1,b.2.2.2)).map pairD:=by rw[bz];rfl
 rw[E];ac_nf;rw[Hu];intro G u v;have C:=WZ (Fw _) ⟨u,v⟩;subst C;refine⟨_,rfl,?_,?_⟩;have m:∀e∈xs,-1000000000<=e/\e<=1000000000:=by intro e A;obtain⟨b,k,h⟩:=(g e).mp A;have:=(a b k).1;unfold Bb at this;rcases h with rfl|rfl<;>lia
 have:=m _ j.1;have:=m _ j.2;exact cm #v[];rw[Rf _ _ c];exact⟨_,_,_,rfl⟩;rintro f ⟨x,y,z,rfl⟩;rw[bY];exact q
theorem m5{n:Nat}(h:n<=5000):n<=aQ:=bu h #v[1]
theorem T6{α:Type}(l:a5 α)(b:α):nT (l++[b]) (-1)=some b:=by
 unfold nT Nd;rw[if_neg #v[1],if_pos (by simp only[aP,aL,de];lia)];have:(-1+((l++[b]).length:Int)).toNat=l.length:=by simp only[aP,aL,de];lia
 rw[this];simp
theorem adA{α:Type}(l:a5 α)(a b:α):nT (l++[a,b]) (-2)=some a:=by
 unfold nT Nd;rw[if_neg #v[1],if_pos (by simp only[aP,aL,de];lia)];have:(-2+((l++[a,b]).length:Int)).toNat=l.length:=by simp only[aP,aL,de];lia
 rw[this];simp
theorem MR(p:Pt):∀(s:a5 Pt),(Sg.pop p s).length<=s.length
|[]=>aS _
|[a]=>aS _
|b::a::s=>by unfold Sg.pop;split;have:=MR p (a::s);simp only[aL]at *;lia;exact aS _
theorem yE(l:a5 Pt):(Sg.chain l).length<=l.length:=by
 have:∀(l s:a5 Pt),(l.foldl (λs p=>p::Sg.pop p s) s).length<=s.length+l.length:=by
  intro l
  induction l with
 |nil=>intro s;simp
 |cons p l a=>intro s;have c:=a (p::Sg.pop p s);have b:=MR p s;simp only[bJ,aL]at *;lia
 have:=this l [];simpa [Sg.chain] using this
theorem MQ{p:Pt}:∀{s:a5 Pt}{q:Pt},q∈Sg.pop p s->q∈s
|[],q,h=>h
|[a],q,h=>h
|b::a::s,q,h=>by unfold Sg.pop at h;split at h;exact ah _ (MQ h);exact h
theorem PY{l:a5 Pt}{q:Pt}(h:q∈Sg.chain l):q∈l:=by
 have:∀(l s:a5 Pt),q∈l.foldl (λs p=>p::Sg.pop p s) s->q∈s\/q∈l:=by
  intro l
  induction l with
 |nil=>intro s h;exact .inl h
 |cons p l a=>intro s h;rcases a _ h with k|k;rcases aq.mp k with z|z;subst z;exact .inr #v[0];exact .inl (MQ z);exact .inr (ah _ k)
 rcases this l [] h with k|k;simp at k;exact k
inductive CH:Prop
|mk (l:List Pt) (_:ds=[d5 l]) (_:l.length<=4000) (_:(∀p∈l,B2 p)) (_:Q (d5 (Sg.chain l).reverse))
theorem rq:VP e "left_turning" 2 CH:=by
 refine lX e ["ordered","chain","p"] 1 e.BM (λnd v=>(az (lA 1 nd (qL mh)) (az (eP (cI (qv 0)) (jM 2 nd) (az (sj PassesOwn.never (QT.bor 1 (QW.qt (x9 (yY (gY e.B (cB (qv 1))) aA) (tU (Io (aN (eJ e) v (rp (aW (qv 1) (sr aA)) (aW (qv 1) (sr aA)) (qv 2))) aA))))) (bO (VT (i:=1) Sx Hj Hi aam))) (bO (kP (i:=1) iH dr dk j9 (cB (qv 2)))))) (bO (QS.sR 1 (qK (qv 1))))))) λds Q h=>?_;obtain⟨l,rfl,hl,k,q⟩:=h;ac_nf;refine⟨#v[1],?_⟩;refine gQ l pD (λi d=>∃x:Option Sl,d=[some (.sh (d5 l)),some (.ow ((Sg.chain (l.take i)).reverse.map pD)),x]) (λR h=>h) ⟨none,rfl⟩ ?_ ?_;rintro i p d g ⟨x,rfl⟩;have w:=bp g;have hi:=(aJ.mp g).1;have j:Sg.chain (l.take (i+1))=p::Sg.pop p (Sg.chain (l.take i)):=by rw[ck g];unfold Sg.chain;rw[zU];rfl
 ac_nf;refine⟨λm d S=>S=[]/\∃s:a5 Pt,d=[some (.sh (d5 l)),some (.ow (s.reverse.map pD)),some (.sh (pD p))]/\m=s.length/\(∀a∈s,B2 a)/\s.length<=i/\Sg.pop p s=Sg.pop p (Sg.chain (l.take i)),⟨_,rfl,Sg.chain (l.take i),rfl,rfl,λa y=>k a (di (PY y)),?_,rfl⟩,?_⟩;have:=yE (l.take i);rw[bw]at this;lia;rintro m d S ⟨rfl,s,rfl,rfl,c,sl,e⟩
 match s,c,sl,e with
|[],c,sl,e=>have e':Sg.pop p (Sg.chain (l.take i))=[]:=e.symm;simp! only[UL];refine⟨λt=>absurd (of_decide_eq_true t) #v[],λ_=>⟨⟨_,rfl⟩,#v[1],?_⟩⟩;rw[j,e'];exact⟨_,rfl⟩
|[a],c,sl,e=>have e':Sg.pop p (Sg.chain (l.take i))=[a]:=e.symm;simp! only[gE,UL];refine⟨λt=>absurd (of_decide_eq_true t) #v[],λ_=>⟨⟨_,rfl⟩,#v[1],?_⟩⟩;rw[j,e'];exact⟨_,rfl⟩
|b::a::r,c,sl,e=>
  have z:((b::a::r).reverse.map pD)=r.reverse.map pD++[pD a,pD b]:=#v[0]
  have o:r.reverse.map pD++[pD a,pD b]=(r.reverse.map pD++[pD a])++[pD b]:=#v[0]
  have a1:nT (r.reverse.map pD++[pD a,pD b]) (-1)=some (pD b):=by rw[o];exact T6 _ _
  have a2:nT (r.reverse.map pD++[pD a,pD b]) (-2)=some (pD a):=adA _ _ _;rw[z];simp! only[a1,a2];have A:((r.reverse.map pD++[pD a,pD b]).length:Int)=(r.length:Int)+2:=#v[0]
  refine⟨λt=>⟨a,b,p,rfl,c a #v[0],c b #v[0],k p w,?_⟩,λt=>?_⟩;ac_nf;refine⟨λf=>⟨⟨_,rfl⟩,rfl,#v[0],?_⟩,λf=>⟨⟨_,rfl⟩,?_,?_⟩⟩;refine⟨r.length+1,#v[],a::r,?_,rfl,λx u=>c x (ah _ u),by simp only[aL]at sl⊢;lia,?_⟩;rw[o,kj];simp;rw[<- e,Sg.pop.eq_1 p b a r,if_pos (of_decide_eq_true f)];refine aR ?_ (m5 (n:=5000) (aS _));simp only[aP,ai,g8,aL,de]at sl⊢;lia;have e':Sg.pop p (b::a::r)=b::a::r:=by unfold Sg.pop;rw[if_neg (of_decide_eq_false f)]
  rw[j,<- e,e'];refine⟨some (.sh (pD p)),#v[0]⟩;exfalso;have:=of_decide_eq_false t;lia
 rintro d ⟨x,rfl⟩;rw[bY];exact q
theorem HI(ps:a5 (Int×Int))(p:Int×Int):p∈uniq ps↔p∈ps:=by
 have:∀(ps acc:a5 (Int×Int)),p∈ps.foldl (λacc p=>if p∈acc then acc else acc++[p]) acc↔p∈acc\/p∈ps:=by
  intro ps
  induction ps with
 |nil=>intro acc;simp
 |cons a ps b=>
   intro acc;rw[bJ,b];split
   next h=>simp only[aq];constructor;rintro(k|k);exact .inl k;exact .inr (.inr k);rintro(k|k|k);exact .inl k;subst k;exact .inl h;exact .inr k
   simp only[aI,bA,aq,bF,or_false,or_assoc]
 have:=this ps [];simpa [uniq] using this
theorem KG(ps:a5 (Int×Int)):(uniq ps).Nodup:=by
 have:∀(ps acc:a5 (Int×Int)),acc.Nodup->(ps.foldl (λacc p=>if p∈acc then acc else acc++[p]) acc).Nodup:=by
  intro ps
  induction ps with
 |nil=>intro acc h;exact h
 |cons a ps c=>
   intro acc h;rw[bJ];apply c;split;exact h
   next f=>rw[eC];refine⟨h,#v[0],λx d y b e=>?_⟩;simp at b;subst b;subst e;exact f d
 exact this ps [] #v[0]
def unP(p:Int×Int):Pt:=⟨p.1,p.2⟩
theorem ae1(p:Int×Int):pD (unP p)=pairD p:=rfl
theorem ad1(p:Pt):unP (Fq p)=p:=rfl
inductive Qc:Prop
|mk (l:List Pt) (_:ds=[d5 l]) (_:l≠[]) (_:l.length<=4000) (_:(∀p∈l,B2 p)) (_:∀h,Sg.m6 l h->h.length<=8000->Q (d5 h))
theorem BE:VP e "hull_of" 4 Qc:=by
 refine lX e ["points","ordered","upwards","downwards"] 1 e.Pe (λnd d=>(az (bB 1 nd (Ip (y3 e) (rm d) rfl rfl rfl e.B.Fu (cB (aN (K7 e) d (cB (qv 0)))) (λp Q q=>⟨p,rfl,q⟩))) (az (dv (p5 d.units (gY e.B (cB (qv 1))) aA) (eI (qv 1)) bM) (az (bB 2 nd (aN (rq e) d (cB (qv 1)))) (az (bB 3 nd (aN (rq e) d (cB (p7 d.hd rfl e.B.wY rfl e.B.D8 (cB (qv 1)))))) (eI (pF (fO (qv 2) iY (fL (sr aA))) (fO (qv 3) iY (fL (sr aA)))))))))) λds Q h=>?_;obtain⟨l,rfl,hl,M,E,q⟩:=h;ac_nf;have I:qz [d5 l]=λQ=>(l.map Fq).length<aQ/\Q (.lst ((uniq (l.map Fq)).map pairD)):=by
  funext Q;unfold qz d5;rw[yi];show(match jJ ((l.map Fq).map pairD) with
  |some ps=>ps.length<aQ/\Q (.lst ((uniq ps).map pairD))
  |none=>False)=_
  rw[k5]
 rw[I];refine⟨?_,?_⟩
 .rw[ai];exact aR (show l.length<5000 by lia) (m5 (aS _))
 show sQ [.lst ((uniq (l.map Fq)).map pairD)] _;rw[Kx];intro ps g m;have key:∃o:a5 Pt,ps.map pairD=o.map pD/\o.Pairwise (λa b=>fB a b=true)/\(∀p,p∈l↔p∈o)/\o.length<=4000:=by
  refine⟨ps.map unP,by rw[bz];rfl,?_,λp=>?_,?_⟩
  .have nd:ps.Nodup:=g.nodup_iff.mpr (KG _);rw[lZ]at m⊢;have L:=m.and nd;refine L.imp λ{a b} h=>?_;obtain⟨v,F⟩:=h;rw[Sg.nZ];unfold d6 swap at v;unfold unP;dsimp only at v⊢;by_cases e:a.2=b.2
   .right;refine⟨e,?_⟩;have:a.1≠b.1:=λJ=>F (zQ J e);lia
   .left;lia
  .rw[bh];constructor
   .intro h;exact⟨Fq p,g.mem_iff.mpr ((HI _ _).mpr (dR h)),rfl⟩
   .rintro⟨x,B,rfl⟩;have:=(HI _ _).mp (g.mem_iff.mp B);obtain⟨y,A,rfl⟩:=bh.mp this;exact A
  .rw[ai,g.length_eq];have:=HJ (l.map Fq);rw[ai]at this;lia
 obtain⟨o,G,ow,i,on⟩:=key;have j:o≠[]:=by rintro rfl;obtain⟨p,f⟩:=fV l hl;have:=(i p).mp f;simp at this
 have H:=Sg.Jo (k:=l) j ow (λp=>i p);have u:∀p∈o,B2 p:=λp f=>E p ((i p).mpr f);rw[G];ac_nf;unfold Sg.Ni at H;refine⟨λt=>?_,λt=>⟨o,rfl,on,u,o.reverse,by rw[d5,UM],by simpa using on,λp f=>u p #v[f],?_⟩⟩
 .have:o.length=1:=by have:=of_decide_eq_true t;rw[ai]at this;lia
  rw[if_pos this]at H;exact q o H #v[]
 .have:¬o.length=1:=by have:=of_decide_eq_false t;rw[ai]at this;lia
  rw[if_neg this]at H;have N:=yE o;have K:=yE o.reverse;rw[g8]at K;have w:0<(Sg.chain o).length:=by obtain⟨c,t,e,_⟩:=Sg.oF 1 (Mr (Sg.Cb o)) j (ow.imp_of_mem λD C h=>((Fi (Sg.Cb o)) _ D _ C).1 h);rw[e];simp
  have n2:0<(Sg.chain o.reverse).length:=by
   match o.reverse,(show o.reverse≠[] by simpa using j) with
  |p::r,_=>
    have:∀(r s:a5 Pt),s≠[]->0<(r.foldl (λs p=>p::Sg.pop p s) s).length:=by
     intro r
     induction r with
    |nil=>intro s n;exact g9.mpr n
    |cons a r z=>intro s n;exact z _ #v[0]
    exact this r [p] #v[0]
  have d1:=xg (xs:=(Sg.chain o).reverse.map pD) #v[w];have d2:=xg (xs:=(Sg.chain o.reverse).reverse.map pD) #v[n2];simp! only[d5,d1,d2];refine⟨?_,?_⟩
  .rw[dM,dM,ai,ai,g8,g8];exact bu (show _<=8000 by lia) #v[1]
  .have:=q _ H (by rw[aP,dM,dM,g8,g8];lia)
   rw[d5,bj,zS,zS]at this;exact this
inductive J0:Prop
|mk (k l:List Pt) (_:ds=[d5 k,d5 l]) (_:k≠[]) (_:l≠[]) (_:k.length<=32) (_:l.length<=32) (_:(∀p∈k,B1 p)) (_:(∀p∈l,B1 p)) (_:∀h,Sg.m6 (dX k l) h->h.length<=8000->Q (d5 h))
theorem Bd(k l:a5 Pt):(dX k l).length=k.length*l.length:=by
 unfold dX
 induction k with
|nil=>simp
|cons p k a=>rw[dW,aP,a,ai,aL,Nat.succ_mul];lia
theorem OU:VP e "sum_of" 5 J0:=by
 refine lX e ["points","others","sums","x","y"] 2 e.Sq (λnd d=>(az (lA 2 nd (qL mh)) (az (eP (cI (qv 0)) (He (jM 3 nd) (jM 4 nd)) (bO (kP (i:=2) o8 iQ iP tX (cB (aN (By e) d (rp (qv 1) (qv 3) (qv 4))))))) (bO (QS.sR 2 (qK (aN (BE e) d (cB (qv 2))))))))) λds Q h=>?_;obtain⟨k,l,rfl,hk,hl,m,g,n,j,q⟩:=h;ac_nf;refine⟨#v[1],?_⟩;refine gQ k pD (λi c=>∃x y:Option Sl,c=[some (.sh (d5 k)),some (.sh (d5 l)),some (.ow ((dX (k.take i) l).map pD)),x,y]) (λR h=>h) ⟨none,none,rfl⟩ ?_ ?_;rintro i p c f ⟨x,y,rfl⟩;have hi:=(aJ.mp f).1;have u:dX (k.take (i+1)) l=dX (k.take i) l++l.map (kL ⟨p.x,p.y⟩):=by unfold dX;rw[ck f,ja];congr 1;simp only[dW,AX,cG];apply i8;intro z _;unfold kL Vbpcaa.add;dsimp only;congr 1<;>lia
 simp! only[pD];refine⟨⟨_,rfl⟩,l,p.x,p.y,rfl,#v[],?_⟩;simp! only[d5];refine⟨?_,?_⟩;rw[ai,ai,ai,Bd,bw];refine m5 ?_;have:min i k.length*l.length<=32*32:=pJ #v[] g;lia;rw[u,bj];exact⟨_,_,rfl⟩;rintro c ⟨x,y,rfl⟩;rw[bY];ac_nf;refine⟨dX k l,rfl,?_,?_,?_,q⟩
 match k,l,hk,hl with
|p::k,v::l,_,_=>simp[dX]
 rw[Bd];have:k.length*l.length<=32*32:=pJ m g;lia;intro z hz;unfold dX at hz;obtain⟨a,r,hz⟩:=kz.mp hz;obtain⟨b,o,rfl⟩:=bh.mp hz;have t:=n a r;have s:=j b o;unfold B1 at t s;unfold B2 Vbpcaa.add;dsimp only;lia
def mY(a:Vbpcaa.Shape):D:=.yX (.int (a.r:Int)) (d5 a.pts)
structure CD (a:Vbpcaa.Shape):Prop where
 gR:Sg.vR a.pts
 len:a.pts.length<=32
 B:∀p∈a.pts,B1 p
 r:a.r<=1000000000
 simp:3<=a.pts.length->Sg.Simp a.pts
theorem CD.n2{a:Vbpcaa.Shape}(h:CD a):a.pts.length<=2000:=by have:=h.len;lia
theorem Zy:-(2 ^ 64)<(1:Int)/\(1:Int)<2 ^ 64:=#v[1]
theorem Ji(f:Vbpcaa.Frac)(n:Nat):f.le (.whole n) = !decide ((n:Int)*(fr f).2<(fr f).1*1):=by apply Sg.cW;have w:f.le (.whole n)=true↔(fr f).1*1<=(n:Int)*(fr f).2:=lD.symm;rw[w];simp only[fF,decide_eq_false_iff_not];lia
theorem Oh(f:Vbpcaa.Frac)(n:Nat):(Vbpcaa.Frac.whole n).le f = !decide ((fr f).1*1<(n:Int)*(fr f).2):=by apply Sg.cW;have w:(Vbpcaa.Frac.whole n).le f=true↔(n:Int)*(fr f).2<=(fr f).1*1:=lD.symm;rw[w];simp only[fF,decide_eq_false_iff_not];lia
inductive Xk:Prop
|mk (a b:Vbpcaa.Shape) (_:ds=[mY a,mY b]) (_:CD a) (_:CD b) (_:Q (.bl (Vbpcaa.touch a b)))
theorem R7:VP e "touch" 8 Xk:=by
 refine lX e ["shape","other","reach"] 2 e.Wj (λnd f=>(az (bB 2 nd (gN (jS rfl e.mG e.Gp (qv 0)) (jS rfl e.mG e.Gp (qv 1)))) (eI (KW (aN (mi e) f (ju (i6 (ju (gM (qv 2) (qv 2)) aA)) (aN (iG e) f (ju (dS rfl e.mG e.rB (qv 0)) (dS rfl e.mG e.rB (qv 1)))))))))) λds Q h=>?_;obtain⟨a,b,rfl,d,c,q⟩:=h;simp! only[mY];have g:=qo d.gR.ne c.gR.ne d.B c.B;have j:=d.r;have i:=c.r;refine⟨cm #v[],Bc,a.pts,b.pts,rfl,d.gR.ne,c.gR.ne,d.n2,c.n2,d.B,c.B,(((a.r:Int)+(b.r:Int))*((a.r:Int)+(b.r:Int)),1),fr (aT a.pts b.pts),rfl,Zy,g.OE,?_⟩;have e:(!decide ((((a.r:Int)+(b.r:Int))*((a.r:Int)+(b.r:Int)),(1:Int)).1*(fr (aT a.pts b.pts)).2<(fr (aT a.pts b.pts)).1*(((a.r:Int)+(b.r:Int))*((a.r:Int)+(b.r:Int)),(1:Int)).2))=Vbpcaa.touch a b:=by unfold Vbpcaa.touch;rw[Ji,fR,iV]
 rw[<- e]at q;exact q
inductive Ka:Prop
|mk (a b:Vbpcaa.Shape) (c:Nat) (_:ds=[mY a,mY b,.int (c:Int)]) (_:CD a) (_:CD b) (_:c<=1000000000) (_:Q (.bl (Vbpcaa.apart a b c)))
theorem wH:VP e "are_apart" 8 Ka:=by refine lX e ["shape","other","distance"] 3 e.IZ (λnd g=>(eI (aN (qf e) g (rp (dS rfl e.mG e.rB (qv 0)) (dS rfl e.mG e.rB (qv 1)) (gN (gN (jS rfl e.mG e.Gp (qv 0)) (jS rfl e.mG e.Gp (qv 1))) (qv 2)))))) λds Q h=>?_;obtain⟨a,b,c,rfl,f,d,i,q⟩:=h;simp! only[mY];have k:=f.r;have j:=d.r;refine⟨a.pts,b.pts,a.r+b.r+c,?_,f.gR.ne,d.gR.ne,f.n2,d.n2,f.B,d.B,#v[],q⟩;rw[iV,iV]
inductive P9:Prop
|mk (p:Pt) (l:List Pt) (_:ds=[pD p,d5 l]) (_:B1 p) (_:l≠[]) (_:l.length<=2000) (_:(∀p∈l,B1 p)) (_:Q (.bl (il l p)))
theorem K9:VP e "on_side" 3 P9:=by
 refine lX e ["p","points","a","b"] 2 e.Pa (λnd b=>(az (eP (cI (aN (je e) b (cB (qv 1)))) (He (jM 2 nd) (jM 3 nd)) (bO (dv (p5 b.units (aW (aN (nB e) b (rp (qv 0) (qv 2) (qv 3))) aA) aA) (eI jH) bM))) (eI jH))) λds Q h=>?_;obtain⟨p,l,rfl,g,hl,i,f,q⟩:=h;ac_nf;refine jI (aO l) sD (λa=>∃x y:Option Sl,a=[some (.sh (pD p)),some (.sh (d5 l)),x,y]) (λe=>!Vbpcaa.onSeg p e.1 e.2) (.bl true) (λR h=>⟨l,rfl,hl,i,h⟩) ⟨_,_,rfl⟩ ?_ ?_ ?_;rintro e j a ⟨x,y,rfl⟩ N m k;obtain⟨m1,m2⟩:=Sg.bN j;simp! only[sD];refine⟨p,e.1,e.2,rfl,g,f _ m1,f _ m2,?_⟩;simp! only[fD,fr];have z:=Sg.pG p e.1 e.2;refine⟨λt=>k ?_,λt=>m ?_ _ ⟨_,_,rfl⟩⟩;have:(ba p e.1 e.2).num=0:=by have:=of_decide_eq_true t;lia
 rw[z.mp this];rfl;cases c:Vbpcaa.onSeg p e.1 e.2 with
|false=>rfl
|true=>exfalso;have:=z.mpr c;have t':=of_decide_eq_false t;lia
 intro e;have:il l p=true:=by unfold il;rw[bS];rw[Ut]at e;obtain⟨d,hd,h⟩:=e;exact⟨d,hd,by simpa using h⟩
 rw[this]at q;exact q;rintro a _ e;have:il l p=false:=by unfold il;rw[eD];rw[bf]at e;intro d hd;have:=e d hd;simpa using this
 rw[this]at q;exact q
inductive GX:Prop
|mk (p:Pt) (a:Vbpcaa.Shape) (_:ds=[pD p,mY a]) (_:B1 p) (_:CD a) (_:Q (.int (Hs a p)))
theorem C5:VP e "where_lies" 8 GX:=by
 refine lX e ["p","shape","square","distance"] 2 e.F8 (λnd f=>(az (bB 2 nd (i6 (ju (gM (jS rfl e.mG e.Gp (qv 1)) (jS rfl e.mG e.Gp (qv 1))) aA))) (az (bB 3 nd (aN (iG e) f (ju (cR (cB (qv 0))) (dS rfl e.mG e.rB (qv 1))))) (az (dv (d7 (aN (mi e) f (ju (qv 2) (qv 3)))) (eI (fP e.C.Xh)) bM) (az (dv (p5 f.units (jS rfl e.mG e.Gp (qv 1)) aA) (eI (Iq (d7 (aN (K9 e) f (ju (qv 0) (dS rfl e.mG e.rB (qv 1))))) (fP e.C.Ub) (fP e.C.Uc))) bM) (eI (Iq (d7 (aN (mi e) f (ju (qv 3) (qv 2)))) (fP e.C.Uc) (fP e.C.Ub)))))))) λds Q h=>?_;obtain⟨p,a,rfl,i,b,q⟩:=h;rw[Sg.Q8 b.gR.ne]at q;simp! only[mY];have g:=qo (k:=[p]) (l:=a.pts) #v[0] b.gR.ne #v[i] b.B;have m:=b.r;have j:((a.r*a.r:Nat):Int)=(a.r:Int)*(a.r:Int):=fR _ _;have d0:=Ji (aT [p] a.pts) (a.r*a.r);have d1:=Oh (aT [p] a.pts) (a.r*a.r);rw[j]at d0 d1;rw[d0,d1]at q;refine⟨cm #v[],Bc,#v[1],[p],a.pts,rfl,#v[0],b.gR.ne,#v[0],b.n2,by simpa using i,b.B,((a.r:Int)*(a.r:Int),1),fr (aT [p] a.pts),rfl,Zy,g.OE,λt=>?_,λt=>⟨λd=>⟨p,a.pts,rfl,i,b.gR.ne,b.n2,b.B,λc=>?_,λc=>?_⟩,λd=>⟨fr (aT [p] a.pts),((a.r:Int)*(a.r:Int),1),rfl,g.OE,Zy,λc=>?_,λc=>?_⟩⟩⟩;rw[t]at q;exact q;rw[t]at q;have:a.r=0:=by have:=of_decide_eq_true d;lia
 rw[if_pos this,c]at q;exact q;rw[t]at q;have:a.r=0:=by have:=of_decide_eq_true d;lia
 rw[if_pos this,c]at q;exact q;rw[t]at q;have:¬a.r=0:=by have:=of_decide_eq_false d;lia
 rw[if_neg this,c]at q;exact q;rw[t]at q;have:¬a.r=0:=by have:=of_decide_eq_false d;lia
 rw[if_neg this,c]at q;exact q
inductive xu:Prop
|mk (a:Vbpcaa.Shape) (_:ds=[mY a]) (_:Q (.bl (h9 a&&a.r == 0)))
theorem vD:VP e "is_bare_polygon" 1 xu:=by
 refine lX e ["shape"] 1 e.wK (λnd b=>(eI (yg (MO (gY e.B (cB (dS rfl e.mG e.rB (qv 0)))) aA) (vv (XX b.units (jS rfl e.mG e.Gp (qv 0)) aA))))) λds Q h=>?_;obtain⟨a,rfl,q⟩:=h;simp! only[mY,d5];have d:h9 a=decide (2<((a.pts.map pD).length:Int)):=by unfold h9;apply Sg.cW;simp only[decide_eq_true_eq,ai];lia
 have c:(a.r == 0)=decide ((a.r:Int)=0):=by apply Sg.cW;simp only[beq_iff_eq,decide_eq_true_eq];lia
 rw[d,c]at q;exact Iu q
inductive DJ:Prop
|mk (a b:Vbpcaa.Shape) (m:Nat) (_:ds=[mY a,mY b,.int (m:Int)]) (_:CD a) (_:CD b) (_:3<=b.pts.length) (_:1<=m) (_:m<=1000000000) (_:Q (.bl (A4 a b.pts m)))
theorem BA:VP e "lies_inside" 8 DJ:=by
 refine lX e ["shape","polygon","margin","a","b"] 3 e.Dn (λnd f=>(az (eP (cI (aN (je e) f (cB (dS rfl e.mG e.rB (qv 1))))) (He (jM 3 nd) (jM 4 nd)) (bO (dv (jm (d7 (aN (qf e) f (rp (dS rfl e.mG e.rB (qv 0)) (cR (ju (qv 3) (qv 4))) (gN (jS rfl e.mG e.Gp (qv 0)) (qv 2)))))) (eI jH) bM))) (eI (aN (sL e) f (ju (dS rfl e.mG e.rB (qv 1)) (aW (dS rfl e.mG e.rB (qv 0)) aA)))))) λds Q h=>?_;obtain⟨a,b,m,rfl,c,d,o,j,z,q⟩:=h;rw[Sg.Pz c.gR.ne o j]at q;ac_nf;have f:=c.r;refine jI (aO b.pts) sD (λg=>∃x y:Option Sl,g=[some (.sh (mY a)),some (.sh (mY b)),some (.sh (.int (m:Int))),x,y]) (λe=>(Vbpcaa.Frac.whole ((a.r+m)*(a.r+m))).le (aT a.pts [e.1,e.2])) (.bl false) (λR h=>?_) ⟨_,_,rfl⟩ ?_ ?_ ?_;simp! only[mY];exact⟨b.pts,rfl,d.gR.ne,d.n2,h⟩;rintro e l g ⟨x,y,rfl⟩ N s r;obtain⟨m1,m2⟩:=Sg.bN l;simp! only[sD,mY];refine⟨#v[1],a.pts,[e.1,e.2],a.r+m,?_,c.gR.ne,#v[0],c.n2,#v[0],c.B,?_,#v[],λt=>?_,λt=>?_⟩;rw[iV];rfl;intro p i;simp at i;rcases i with rfl|rfl;exact d.B _ m1;exact d.B _ m2;exact r #v[t];exact s #v[t] _ ⟨_,_,rfl⟩;intro e;rw[e]at q;exact q;rintro g ⟨x,y,rfl⟩ e;rw[e,gr]at q
 match w:a.pts,c.gR.ne,c.B,q with
|p::k,_,n,q=>
  have v:mY a=.yX (.int (a.r:Int)) (.lst (pD p::k.map pD)):=by unfold mY d5;rw[w];rfl
  have u:mY b=.yX (.int (b.r:Int)) (d5 b.pts):=rfl;rw[v,u];ac_nf;exact⟨b.pts,p,rfl,d.n2,d.B,n p #v[0],q⟩
inductive Uh:Prop
|mk (a:Vbpcaa.Shape) (_:ds=[mY a]) (_:CD a) (_:Q (.bl (eK a).isSome))
theorem T1{a:Vbpcaa.Shape}:(∃p q u t,a=⟨0,[p,q,u,t]⟩)\/(eK a=none/\¬(a.pts.length=4/\a.r=0)):=by
 obtain⟨r,l⟩:=a;rcases r with _|r
 .rcases l with _|⟨p,_|⟨q,_|⟨u,_|⟨t,_|⟨v,l⟩⟩⟩⟩⟩
  case cons.cons.cons.cons.nil=>exact .inl ⟨_,_,_,_,rfl⟩
  all_goals exact .inr ⟨rfl,λh=>by have:=h.1;simp at this⟩
 .exact .inr ⟨rfl,λh=>nomatch h.2⟩
theorem W3{a:Vbpcaa.Shape}(h:CD a):(eK a).isSome=(decide (a.pts.length=4)&&(decide (a.r=0)&&(aO a.pts).all λe=>decide (e.1.x=e.2.x)||decide (e.1.y=e.2.y))):=by
 rcases T1 (a:=a) with⟨p,q,u,t,rfl⟩|⟨g,f⟩;have F:Sg.vR [p,q,u,t]:=h.gR;show(if p.y=q.y/\q.x=u.x/\u.y=t.y/\t.x=p.x then some (p.x,p.y,u.x,u.y) else none).isSome=_;have i:(decide (([p,q,u,t]:a5 Pt).length=4)&&(decide (0=0)&&(aO [p,q,u,t]).all λe=>decide (e.1.x=e.2.x)||decide (e.1.y=e.2.y)))=(aO [p,q,u,t]).all λe=>decide (e.1.x=e.2.x)||decide (e.1.y=e.2.y):=#v[0]
 show _=(decide (([p,q,u,t]:a5 Pt).length=4)&&(decide (0=0)&&(aO [p,q,u,t]).all λe=>decide (e.1.x=e.2.x)||decide (e.1.y=e.2.y)));rw[i];apply Sg.cW;constructor;intro b;split at b
 next d=>simp[aO,d]
 cases b;intro b;rw[bf]at b;have:=Sg.T3 F λe c=>by simpa using b e c
 rw[if_pos this];rfl;rw[g,<- Bool.and_assoc,<- Bool.decide_and,decide_eq_false f,kl];rfl
theorem OY:VP e "is_box" 2 Uh:=by
 refine lX e ["shape","a","b"] 1 e.Su (λnd c=>(az (dv (QW.qt (Bk (wu c.units (gY e.B (cB (dS rfl e.mG e.rB (qv 0)))) aA) (xZ (wu c.units (jS rfl e.mG e.Gp (qv 0)) aA)))) (eI jH) bM) (az (eP (cI (aN (je e) c (cB (dS rfl e.mG e.rB (qv 0))))) (He (jM 1 nd) (jM 2 nd)) (bO (dv (QW.qt (x9 (wu c.units (aW (qv 1) aA) (aW (qv 2) aA)) (tU (wu c.units (aW (qv 1) aA) (aW (qv 2) aA))))) (eI jH) bM))) (eI jH)))) λds Q h=>?_;obtain⟨a,rfl,f,q⟩:=h;rw[W3 f]at q;simp! only[mY,d5];refine⟨λt=>?_,λt=>⟨λb=>?_,λb=>?_⟩⟩;have:¬a.pts.length=4:=by intro z;rw[ai,z]at t;simp at t
 rw[decide_eq_false this,kl]at q;exact q;have:¬a.r=0:=by intro z;rw[z]at b;simp at b
 rw[decide_eq_false this,kl,pC]at q;exact q;have l4:a.pts.length=4:=by rw[ai]at t;have:=t;simp at this;lia
 have i:a.r=0:=by have:=b;simp at this;lia
 rw[decide_eq_true l4,decide_eq_true i,gr,gr]at q;refine jI (aO a.pts) sD (λd=>∃x y:Option Sl,d=[some (.sh (mY a)),x,y]) (λe=>decide (e.1.x=e.2.x)||decide (e.1.y=e.2.y)) (.bl false) (λR h=>⟨a.pts,rfl,f.gR.ne,f.n2,h⟩) ⟨_,_,rfl⟩ ?_ ?_ ?_;rintro e k d ⟨x,y,rfl⟩ N g j;simp! only[sD,pD];refine⟨λt=>⟨λb=>?_,λb=>?_⟩,λt=>?_⟩;refine j ?_;simp at t b⊢;exact⟨t,b⟩;refine g ?_ _ ⟨_,_,rfl⟩;simp at b⊢;exact .inr b;refine g ?_ _ ⟨_,_,rfl⟩;simp at t⊢;exact .inl t;intro e;rw[e]at q;exact q;rintro d _ e;rw[e]at q;exact q
def oD:Option Vbpcaa.Shape->D
|none=>.jw
|some a=>mY a
def nA(s:Vbpcaa.Sheet):a5 D:=s.at_.map oD
structure zE (s:Vbpcaa.Sheet):Prop where
 len:s.at_.length=64
 ok:∀a,some a∈s.at_->CD a
theorem zE.ne{s:Vbpcaa.Sheet}(h:zE s):nA s≠[]:=by
 intro e;have:(nA s).length=64:=by rw[nA,ai];exact h.len
 rw[e]at this;simp at this
theorem yk{i:Int}(h:aV i=true):∃n:Nat,i=(n:Int)/\n<64/\i.toNat=n:=by unfold aV Vbpcaa.PLACES at h;have h':=of_decide_eq_true h;exact⟨i.toNat,#v[],#v[],rfl⟩
theorem S6{s:Vbpcaa.Sheet}(h:zE s){n:Nat}(a:n<64):s.at_[n]? = some (s.get n):=by
 unfold Vbpcaa.Sheet.get;rw[cA];have:n<s.at_.length:=by rw[h.len];exact a
 rw[aw this];rfl
theorem Mb{s:Vbpcaa.Sheet}(h:zE s){n:Nat}(a:n<64):nT (nA s) (n:Int)=some (oD (s.get n)):=by rw[mE,nA,bq,S6 h a];rfl
theorem aaI{s:Vbpcaa.Sheet}(h:zE s){n:Nat}{a:Vbpcaa.Shape}(e:s.get n=some a):CD a:=by apply h.ok;by_cases b:n<64;have:=S6 h b;rw[e]at this;exact bp this;exfalso;unfold Vbpcaa.Sheet.get at e;rw[cA,fX (by rw[h.len];lia)]at e;cases e
theorem zE.set{s:Vbpcaa.Sheet}(h:zE s){n:Nat}{o:Option Vbpcaa.Shape}(c:∀a,o=some a->CD a):zE (s.set n o):=by refine⟨by unfold Vbpcaa.Sheet.set;simpa using h.len,λa b=>?_⟩;unfold Vbpcaa.Sheet.set at b;rcases List.mem_or_eq_of_mem_set b with k|k;exact h.ok a k;exact c a k.symm
theorem VF(s:Vbpcaa.Sheet)(n:Nat)(o:Option Vbpcaa.Shape):(nA s).set n (oD o)=nA (s.set n o):=by unfold nA Vbpcaa.Sheet.set;rw[List.map_set]
inductive adR:Prop
|mk (i:Int) (_:ds=[.dU,.int i]) (_:R (.bl (aV i)) S)
theorem aad:VM e "has" 1 adR:=by
 refine mkM e ["self","place"] 2 e.acE (λnd a=>(eI (VV aA (qv 1) (fP e.C.PLACES)))) λds S Q h=>?_;obtain⟨i,rfl,q⟩:=h;ac_nf;have e:aV i=(decide (0<=i)&&decide (i<64)):=by unfold aV Vbpcaa.PLACES;apply Sg.cW;simp only[decide_eq_true_eq,aZ];exact Au
 rw[e]at q;exact Iu (Q:=λd=>Q d S) q
inductive Ml:Prop
|mk (s:Vbpcaa.Sheet) (i:Int) (_:ds=[.dU,.int i]) (_:S=nA s) (_:zE s) (_:aV i=true) (_:R (oD (s.get i.toNat)) S)
theorem dt:VM e "held" 1 Ml:=by refine mkM e ["self","place"] 2 e.aal (λnd c=>(eI (RC rfl e.nE e.kTp (qv 0) (qv 1)))) λds S Q h=>?_;obtain⟨s,i,rfl,rfl,a,hi,q⟩:=h;obtain⟨n,rfl,b,e⟩:=yk hi;rw[e]at q;simp! only[Mb a b];exact⟨a.ne,a.ne,q⟩
inductive Mj:Prop
|mk (s:Vbpcaa.Sheet) (i:Int) (o:Option Vbpcaa.Shape) (_:ds=[.dU,.int i,oD o]) (_:S=nA s) (_:zE s) (_:aV i=true) (_:R .jw (nA (s.set i.toNat o)))
theorem o7:VM e "hold" 1 Mj:=by
 refine mkM e ["self","place","shape"] 3 e.aak (λnd c=>(bO (VU rfl e.nE e.kTp (qv 2) (qv 0) (qv 1)))) λds S Q h=>?_;obtain⟨s,i,o,rfl,rfl,a,hi,q⟩:=h;obtain⟨n,rfl,d,e⟩:=yk hi;rw[e]at q;have hl:(nA s).length=64:=by rw[nA,ai];exact a.len
 have b:Nd (nA s).length (n:Int)=some n:=by unfold Nd;rw[if_pos #v[],if_pos #v[]];simp
 simp! only[b];refine⟨a.ne,a.ne,?_⟩;rw[VF];exact q
def lF(s:Vbpcaa.Sheet):a5 Nat:=(cf 64).filter λn=>(s.get n).isSome
def nsD(l:a5 Nat):D:=.lst (l.map λ(n:Nat)=>D.int (n:Int))
inductive Ui:Prop
|mk (s:Vbpcaa.Sheet) (_:ds=[.dU]) (_:S=nA s) (_:zE s) (_:R (nsD (lF s)) S)
theorem yo:VM e "filled" 1 Ui:=by
 refine mkM e ["self","place"] 1 e.Sv (λnd g=>(eI (su (own:=[("place",1)]) nd (p6 rfl e.B.r9 (cB (fP e.C.PLACES))) (λ_ _ _ _ _=>(jM 1 nd)) (λ_ _ _ _ _=>(AI (Rw (RC rfl e.nE e.kTp (qv 0) (qv 1)) Bm))) (λ_ _ _ _ _=>(qv 1))))) λds S Q h=>?_;obtain⟨s,rfl,rfl,b,q⟩:=h;ac_nf;refine tZ (cf 64) (λ(i:Nat)=>D.int (0+(i:Int))) (λ(n:Nat)=>D.int (n:Int)) (λn=>(s.get n).isSome) rfl (λR h=>?_) #v[1] (λn d R h=>?_) q;ac_nf;exact⟨⟨#v[1],#v[1]⟩,h⟩;have hn':n<64:=eM.mp d;refine h _ (λj c=>?_) (λ_ k f=>?_);rw[show(0+(n:Int))=(n:Int) from by lia];simp! only[Mb b hn'];refine⟨b.ne,b.ne,?_⟩;simp! only[Mb b hn'];cases e:s.get n with
|none=>rw[e]at c;exact c
|some a=>rw[e]at c;exact c
 rw[show(0+(n:Int))=(n:Int) from by lia];ac_nf;exact f
inductive zF:Prop
|mk (i:Int) (_:ds=[.int i]) (_:Q (.bl (decide (0<=i/\i<=cK))))
theorem qN:VP e "is_radius" 1 zF:=by
 refine lX e ["number"] 1 e.IW (λnd a=>(eI (MN aA (qv 0) (fP e.C.Ah)))) λds Q h=>?_;obtain⟨i,rfl,q⟩:=h;ac_nf;have e:decide (0<=i/\i<=cK)=(decide (0<=i)&&decide (i<=1000000000)):=by unfold cK;apply Sg.cW;simp only[decide_eq_true_eq,aZ]
 rw[e]at q;exact Iu q
inductive DN:Prop
|mk (i:Int) (_:ds=[.int i]) (_:Q (.bl (decide (1<=i/\i<=cK))))
theorem oA:VP e "is_distance" 1 DN:=by
 refine lX e ["number"] 1 e.Dt (λnd a=>(eI (MN aA (qv 0) (fP e.C.xq)))) λds Q h=>?_;obtain⟨i,rfl,q⟩:=h;ac_nf;have e:decide (1<=i/\i<=cK)=(decide (1<=i)&&decide (i<=1000000000)):=by unfold cK;apply Sg.cW;simp only[decide_eq_true_eq,aZ]
 rw[e]at q;exact Iu q
inductive DO:Prop
|mk (p a b c:Pt) (_:ds=[pD p,pD a,pD b,pD c]) (_:B2 p) (_:B2 a) (_:B2 b) (_:B2 c) (_:Q (.bl (oW a b c p)))
theorem BC:VP e "in_triangle" 2 DO:=by
 refine lX e ["p","a","b","c"] 4 e.Du (λnd f=>(eI (yg (RG (aN (eJ e) f (rp (qv 1) (qv 2) (qv 0))) aA) (yg (RG (aN (eJ e) f (rp (qv 2) (qv 3) (qv 0))) aA) (vv (RG (aN (eJ e) f (rp (qv 3) (qv 1) (qv 0))) aA)))))) λds Q h=>?_;obtain⟨p,a,b,c,rfl,g,k,j,i,q⟩:=h;ac_nf;have e:oW a b c p=(decide (0<=ag a b p)&&(decide (0<=ag b c p)&&decide (0<=ag c a p))):=by unfold oW;apply Sg.cW;simp only[decide_eq_true_eq,aZ]
 rw[e]at q;refine⟨a,b,p,rfl,k,j,g,λt=>⟨b,c,p,rfl,j,i,g,λd=>⟨c,a,p,rfl,i,k,g,?_⟩,λd=>?_⟩,λt=>?_⟩;rw[t,d]at q;exact q;rw[t,d]at q;exact q;rw[t]at q;exact q
theorem WY(b c a:D)(K:a5 D):cutD (b::c::(K++[a])) (some 2) (some (-1))=K:=by
 have g:=oE (xs:=b::c::(K++[a])) 2 #v[0];have f:=xg (xs:=b::c::(K++[a])) #v[0];unfold cutD at g f⊢;have d:HT.nX (b::c::(K++[a])).length 0 (some ((2:Nat):Int))=2:=by unfold HT.nX;simp
 have n2:HT.nX (b::c::(K++[a])).length (b::c::(K++[a])).length (some (-1))=K.length+2:=by unfold HT.nX;simp;lia
 have n1':HT.nX (b::c::(K++[a])).length 0 (some 2)=2:=d;rw[n1',n2];simp
inductive xF:Prop
|mk (l:List Pt) (_:ds=[d5 l]) (_:3<=l.length) (_:(∀p∈l,B2 p)) (_:Q (.bl (Sg.Kl l)))
theorem vE:VP e "begins_with_ear" 3 xF:=by
 refine lX e ["points","a","b","c","p"] 1 e.wW (λnd i=>(az (bB 1 nd (aW (qv 0) (sr aA))) (az (bB 2 nd (aW (qv 0) aA)) (az (bB 3 nd (aW (qv 0) aA)) (az (dv (Io (aN (eJ e) i (rp (qv 1) (qv 2) (qv 3))) aA) (eI jH) bM) (az (eP (cI (fO (qv 0) (fL aA) (fL (sr aA)))) (jM 4 nd) (bO (dv (d7 (aN (BC e) i (UH (qv 4) (qv 1) (qv 2) (qv 3)))) (eI jH) bM))) (eI jH))))))) λds Q h=>?_;obtain⟨l,rfl,g,d,q⟩:=h;obtain⟨b,c,K,a,rfl⟩:∃b c K a,l=b::c::(K++[a]):=by
  match l,g with
 |b::c::r,g=>rcases iy r with e|⟨K,a,e⟩;subst e;simp at g;exact⟨b,c,K,a,by rw[e,iz]⟩
 rw[Sg.GP]at q;have j:d5 (b::c::(K++[a]))=.lst (pD b::pD c::(K.map pD++[pD a])):=by simp[d5]
 have s:nT (pD b::pD c::(K.map pD++[pD a])) (-1)=some (pD a):=by
  have:pD b::pD c::(K.map pD++[pD a])=(pD b::pD c::K.map pD)++[pD a]:=#v[0]
  rw[this];exact T6 _ _
 have k:=WY (pD b) (pD c) (pD a) (K.map pD);rw[j];simp! only[s,k];refine⟨a,b,c,rfl,d a #v[0],d b #v[0],d c #v[0],λt=>?_,λt=>?_⟩;have:¬0<ag a b c:=by have:=of_decide_eq_true t;lia
 rw[decide_eq_false this,kl]at q;exact q;have:0<ag a b c:=by have:=of_decide_eq_false t;lia
 rw[decide_eq_true this,gr]at q;refine jI K pD (λf=>∃x:Option Sl,f=[some (.sh (d5 (b::c::(K++[a])))),some (.sh (pD a)),some (.sh (pD b)),some (.sh (pD c)),x]) (λp=>!Vbpcaa.inTriangle a b c p) (.bl false) (λR h=>?_) ⟨none,by rw[j]⟩ ?_ ?_ ?_;simp! only[k];exact h;rintro p m f ⟨x,rfl⟩ N o n;ac_nf;refine⟨p,a,b,c,rfl,d p (by simp[m]),d a #v[0],d b #v[0],d c #v[0],λt=>?_,λt=>?_⟩;exact n (by rw[t];rfl);exact o (by rw[t];rfl) _ ⟨_,rfl⟩;intro e;rw[e]at q;exact q;rintro f _ e;rw[e]at q;exact q
inductive J8:Prop
|mk (l:List Pt) (_:ds=[d5 l]) (_:3<=l.length) (_:l.length<=2000) (_:(∀p∈l,B2 p)) (_:(∃k<l.length,Sg.Kl (l.drop k++l.take k)=true)) (_:∀k<l.length,Sg.Kl (l.drop k++l.take k)=true->(∀j<k,Sg.Kl (l.drop j++l.take j)=false)->Q (.int (k:Int)))
theorem FU:VP e "first_ear" 4 J8:=by
 refine lX e ["points","k"] 1 e.IY (λnd g=>(az (bB 1 nd aA) (az (sj PassesOwn.never (jm (d7 (aN (vE e) g (cB (pF (fO (qv 0) (fL (qv 1)) iY) (fO (qv 0) iY (fL (qv 1)))))))) (bO (KU 1 nd aA))) (eI (qv 1))))) λds Q h=>?_;obtain⟨l,rfl,u,r,f,⟨a,s,d⟩,q⟩:=h;ac_nf;refine⟨λm b S=>S=[]/\∃k:Nat,b=[some (.sh (d5 l)),some (.sh (.int (k:Int)))]/\k<=a/\m=a-k/\∀j<k,Sg.Kl (l.drop j++l.take j)=false,⟨a,rfl,0,rfl,#v[],rfl,#v[0]⟩,?_⟩;rintro m b S ⟨rfl,k,rfl,hk,rfl,least⟩;have c:k<=(l.map pD).length:=by rw[ai];lia
 have o:=oE (xs:=l.map pD) k c;have n:=Cm (xs:=l.map pD) k c;simp! only[d5,o,n];refine⟨?_,l.drop k++l.take k,?_,?_,?_,λt=>?_,λt=>?_⟩;rw[cj,bw,ai];exact iO #v[];rw[d5,bj,k7,m8];rw[aP,cj,bw];lia;intro p i;rcases aI.mp i with w|w;exact f p (nG w);exact f p (di w);have t':Sg.Kl (l.drop k++l.take k)=false:=by simpa using t
 have ne:k≠a:=by rintro rfl;rw[t']at d;cases d
 refine⟨a-(k+1),#v[],k+1,?_,#v[],rfl,λj hj=>?_⟩;rw[iV];rfl;by_cases e:j=k;subst e;exact t';exact least j #v[];have t':Sg.Kl (l.drop k++l.take k)=true:=by simpa using t
 exact q k #v[] t' least
def cn(pts:a5 Pt)(l:a5 Nat):a5 pV:=l.map λi=>(i,pts.getD i ⟨0,0⟩)
theorem aa1(pts:a5 Pt)(l:a5 Nat):(cn pts l).map (·.1)=l:=by unfold cn;rw[bz];exact vd _
def abX(t:Nat×Nat×Nat):D:=.tup [.int (t.1:Int),.int (t.2.1:Int),.int (t.2.2:Int)]
inductive CG:Prop
|mk (l:List Pt) (_:ds=[d5 l]) (_:3<=l.length) (_:l.length<=2000) (_:(∀p∈l,B2 p)) (_:Sg.rP l) (_:Q (.lst ((fz l).map abX)))
theorem OF(l:a5 Pt):(cf l.length).zip l=cn l (cf l.length):=by unfold cn;apply UP;simp;intro i a b;simp at a;simp[a]
theorem TN(pts:a5 Pt)(l:a5 Nat):(cn pts l).map (·.2)=l.map λi=>pts.getD i ⟨0,0⟩:=by unfold cn;rw[bz];rfl
theorem S8(pts:a5 Pt):((cf pts.length).map λi=>pts.getD i ⟨0,0⟩)=pts:=by apply UP;simp;intro i b a;simp at b a;simp[a]
theorem NO:∀(n:Nat)(L:a5 pV),(lW n L).length<=n
|0,L=>aS 0
|n+1,L=>by
  unfold lW;split;rcases L with _|⟨a,_|⟨b,_|⟨c,_|⟨d,l⟩⟩⟩⟩<;>first|exact d4 _|exact DR _ _
  split;exact Xm (NO n _);exact d4 _
theorem t9{α β:Type}(f:α->β):∀(l:a5 α)(k:Nat),(l.map f).eraseIdx k=(l.eraseIdx k).map f
|[],k=>by simp
|a::l,0=>by simp
|a::l,k+1=>by simp[t9 f l k]
def Kj(l:a5 Nat):a5 D:=l.map λ(n:Nat)=>D.int (n:Int)
theorem Mc{l:a5 Nat}{k:Nat}{n:Nat}(h:l[k]? = some n):nT (Kj l) (k:Int)=some (.int (n:Int)):=by rw[mE,Kj,bq,h];rfl
theorem Xa{l:a5 Nat}{k:Nat}{n:Nat}(hl:l≠[])(h:l[if k=0 then l.length-1 else k-1]? = some n):nT (Kj l) ((k:Int)-1)=some (.int (n:Int)):=by
 by_cases a:k=0;subst a;rw[if_pos rfl]at h;obtain⟨A,b,e⟩:∃A b,l=A++[b]:=by rcases iy l with e|⟨A,b,e⟩;exact absurd e hl;exact⟨A,b,by rw[e,iz]⟩
 subst e;have:n=b:=by simp at h;exact h.symm
 subst this;have:Kj (A++[n])=Kj A++[.int (n:Int)]:=by simp[Kj]
 rw[this];exact T6 _ _;rw[if_neg a]at h;have:(k:Int)-1=((k-1:Nat):Int):=#v[]
 rw[this];exact Mc h
theorem z9:VP e "triangles_of" 5 CG:=by
 refine lX e ["points","left","triangles","k","number"] 1 e.BL (λnd r=>(az (lA 1 nd (Rz r.hd rfl e.B.wY rfl e.B.r9 (cB (gY e.B (cB (qv 0)))))) (az (lA 2 nd (qL mh)) (az (sj PassesOwn.never (QT.bor 1 (yY (gY e.B (cB (qv 1))) aA)) (az (bB 3 nd (QE.bor 1 (aN (FU e) r (cB (su (own:=[("number",4)]) nd (cI (qv 1)) (λ_ _ _ _ _=>(jM 4 nd)) (λ_ _ _ _ _=>jG) (λ_ _ _ _ _=>(aW (qv 0) (qv 4)))))))) (az (kP (i:=2) iH dr dk j9 (cB (QE.bor 1 (i6 (rp (aW (qv 1) (eX (qv 3) aA)) (aW (qv 1) (qv 3)) (aW (qv 1) (FD (gN (qv 3) aA) (gY e.B (cB (qv 1)))))))))) (bO (kP (i:=1) Lk Hj Hi Sz (cB (qv 3))))))) (az (kP (i:=2) iH dr dk j9 (cB (QE.bor 1 (mf TQ Dz rfl e.B.Zl #v[2] (cB (qv 1)))))) (bO (QS.sR 2 (qK (qv 2))))))))) λds Q h=>?_;obtain⟨l,rfl,G,O,C,B,q⟩:=h;simp! only[d5];refine⟨#v[],by rw[ai];lia,#v[1],?_⟩;refine⟨λm o S=>S=[]/\∃(f:a5 Nat)(g:a5 (Nat×Nat×Nat))(x:Option Sl),o=[some (.sh (d5 l)),some (.ow (Kj f)),some (.ow (g.map abX)),x,none]/\m=f.length/\f.Nodup/\(∀i∈f,i<l.length)/\3<=f.length/\g.length+f.length=l.length/\Sg.rP (f.map λi=>l.getD i ⟨0,0⟩) ∧
  fz l=g++lW f.length (cn l f),⟨l.length,rfl,cf l.length,[],none,?_,#v[0],List.nodup_range,#v[0],by simpa using G,#v[0],by rw[S8];exact B,?_⟩,?_⟩
 simp[Kj,d5];rw[l5,<- OF];rfl;rintro m o S ⟨rfl,f,g,x,rfl,rfl,nd,lt,l3,ln,E,e⟩;ac_nf;refine⟨λt=>?_,λt=>?_⟩;have F:4<=f.length:=by have:=of_decide_eq_true t;simp only[Kj,ai]at this;lia
 refine mn f (λ(n:Nat)=>D.int (n:Int)) (λn=>pD (l.getD n ⟨0,0⟩)) rfl (λR h=>h) (iO #v[]) (λn A N h=>?_) ?_;have s:=lt n A;have:nT (l.map pD) (n:Int)=some (pD (l.getD n ⟨0,0⟩)):=by rw[mE,bq,aw s,cA,aw s];rfl
 have H:Hg (D.lst (l.map pD)) (.int (n:Int)) λd=>N d []:=by rw[Q0,this];exact h
 exact H;refine⟨f.map λi=>l.getD i ⟨0,0⟩,by rw[d5,bz];rfl,by rw[ai];lia,by rw[ai];lia,λp w=>?_,Sg.LM E,λk hk v least=>?_⟩;obtain⟨i,hi,rfl⟩:=bh.mp w;have:=lt i hi;apply C;rw[cA,aw this];exact mZ this;rw[ai]at hk;obtain⟨y,z,K,j,_,a1,a2,a3,_⟩:=Sg.wt (l:=f) (k:=k) #v[] hk;have M:=Mc a1;have b2:=Mc a2;have J:=Xa (by rintro rfl;simp at F) a3;have hl':(Kj f).length=f.length:=by simp[Kj]
 rw[Xt,iV]at b2;have b2':nT (Kj f) (((k:Int)+1) % (f.length:Int))=some (.int (z:Int)):=b2;simp! only[M,b2',J,hl'];have I:lW f.length (cn l f)=(j,y,z)::lW (f.length-1) (cn l (f.eraseIdx k)):=by
  have u:(cn l f).length=f.length:=by simp[cn]
  have:=Sg.Tx (L:=cn l f) (by rw[aa1];exact nd) #v[] (k:=k) #v[] (by rw[TN];exact v) (by rw[TN];exact least)
   (x:=(j,l.getD j ⟨0,0⟩)) (y:=(y,l.getD y ⟨0,0⟩)) (z:=(z,l.getD z ⟨0,0⟩))
   (by unfold cn;rw[bq,a1];rfl) (by rw[u];unfold cn;rw[bq,a2];rfl) (by rw[u];unfold cn;rw[bq,a3];rfl) (f.length-1)
  rw[show f.length-1+1=f.length by lia]at this;rw[this];congr 2;unfold cn;rw[t9]
 refine⟨rfl,⟨_,rfl⟩,#v[],sz3,rfl,?_,⟨_,rfl⟩,k,rfl,#v[],?_,f.length-1,#v[],f.eraseIdx k,g++[(j,y,z)],some (.sh (.int (k:Int))),?_,?_,?_,?_,?_,?_,?_,?_⟩;rw[ai];exact aR (show g.length<5000 by lia) (m5 (aS _));lia;rw[show(Kj f).eraseIdx k=Kj (f.eraseIdx k) by unfold Kj;rw[t9],bj];rfl;rw[nH,if_pos hk];exact nd.sublist (List.eraseIdx_sublist ..);intro i hi;exact lt i (List.mem_of_mem_eraseIdx hi);rw[nH,if_pos hk];lia;rw[aP,nH,if_pos hk];simp;lia;have:=Sg.Ti E (by rw[ai];lia) (k:=k) (by rw[ai];lia) v;rw[t9]at this;exact this;rw[e,I,nH,if_pos hk,dj];rfl;have h3':f.length=3:=by have:=of_decide_eq_false t;simp only[Kj,ai]at this;lia
 match f,h3',e,ln with
|[a,b,c],_,e,ln=>refine⟨⟨_,rfl⟩,rfl,?_,?_⟩;rw[ai];exact aR (show g.length<5000 by simp at ln;lia) (m5 (aS _));have:fz l=g++[(a,b,c)]:=e;rw[this,bj]at q;exact q
theorem jo{α β:Type}(a:α)(f:α->Vbpcaa.R β):(Except.ok a >>= f:Vbpcaa.R β)=f a:=rfl
theorem E4{α β:Type}(n:Int)(f:α->Vbpcaa.R β):((Except.error n:Vbpcaa.R α) >>= f)=Except.error n:=rfl
theorem sN(n:Int):dH true n=.ok ():=rfl
theorem Ll(n:Int):dH false n=.error n:=rfl
theorem cJ{i:Int}(h:aV i=true):gi i=.ok ():=by unfold gi;rw[h];rfl
theorem c6{s:Vbpcaa.Sheet}{i:Int}{a:Vbpcaa.Shape}(h:s.get i.toNat=some a):ik s i=.ok a:=by unfold ik;rw[h]
theorem fc{s:Vbpcaa.Sheet}{c:Vbpcaa.Call}{x:Vbpcaa.Sheet×a5 Int}(h:aY s c=.ok x):Vbpcaa.step s c=x:=by unfold Vbpcaa.step;rw[h]
theorem c5{s:Vbpcaa.Sheet}{c:Vbpcaa.Call}{n:Int}(h:aY s c=.error n):Vbpcaa.step s c=(s,[n]):=by unfold Vbpcaa.step;rw[h]
def uz(l:a5 Int):D:=.lst (l.map D.int)
inductive Cl (c:Vbpcaa.Call) (given:D) (Pre:Vbpcaa.Sheet->Prop) (ds S:List D) (Q:D->List D->Prop):Prop
|mk (s:Vbpcaa.Sheet) (_:ds=[.dU,given]) (_:S=nA s) (_:zE s) (_:Pre s) (_:∀s' ans,Vbpcaa.step s c=(s',ans)->zE s'->ans.length<=5000->Q (uz ans) (nA s'))
def At(s:Vbpcaa.Sheet)(i:Int)(a:Vbpcaa.Shape):Prop:=aV i=true/\s.get i.toNat=some a
theorem At.ok{s:Vbpcaa.Sheet}{i:Int}{a:Vbpcaa.Shape}(h:At s i a)(b:zE s):CD a:=aaI b h.2
def ig(s:Vbpcaa.Sheet)(i:Int):Prop:=∃a,At s i a
theorem dF{s:Vbpcaa.Sheet}{i:Int}{a:Vbpcaa.Shape}(b:zE s)(h:At s i a){Q:D->a5 D->Prop}(q:Q (mY a) (nA s)):Ml [.dU,.int i] (nA s) Q:=
 ⟨s,i,rfl,rfl,b,h.1,by rw[h.2];exact q⟩
theorem pj{s:Vbpcaa.Sheet}{i:Int}{o:Option Vbpcaa.Shape}{d:D}(a:zE s)(hi:aV i=true)(hd:d=oD o){Q:D->a5 D->Prop}(q:Q .jw (nA (s.set i.toNat o))):Mj [.dU,.int i,d] (nA s) Q:=
 ⟨s,i,o,by rw[hd],rfl,a,hi,q⟩
inductive xD:Prop
|mk (i:Int) (_:Cl (.clear i) (.lst [.int i]) (λ_=>aV i=true) ds S R)
theorem Dg:VS e "call_clear" 2 xD:=by
 refine xH e ["sheet","given","shape"] 2 e.wU.nd (λnd d=>(az (bB 2 nd (cp (dt e) e.nE d (qv 0) (cB (aW (qv 1) aA)))) (az (o6 (cp (o7 e) e.nE d (qv 0) (ju (aW (qv 1) aA) Bm))) (eI (cR (cB (Iq (XT (qv 2) Bm) aA aA))))))) λds S Q h=>?_;obtain⟨i,s,rfl,rfl,b,hi,q⟩:=h;ac_nf;refine⟨b.ne,s,i,rfl,rfl,b,hi,b.ne,pj (o:=none) b hi rfl ?_⟩;have st:Vbpcaa.step s (.clear i)=(s.set i.toNat none,jq (s.get i.toNat).isSome):=fc (by simp only[aY,cJ hi,jo];rfl)
 have c:=q _ _ st (b.set #v[0]) (by simp[jq]);cases e:s.get i.toNat with
|none=>rw[e]at c;exact⟨λ_=>⟨#v[1],c⟩,λz=>nomatch z⟩
|some a=>rw[e]at c;exact⟨λz=>(nomatch z),λ_=>⟨#v[1],c⟩⟩
inductive zN:Prop
|mk (i j:Int) (_:Cl (.copy i j) (.lst [.int i,.int j]) (λs=>ig s i/\aV j=true) ds S R)
theorem F3:VS e "call_copy" 2 zN:=by
 refine xH e ["sheet","given"] 2 e.zg.nd (λnd f=>(az (o6 (cp (o7 e) e.nE f (qv 0) (ju (aW (qv 1) aA) (cp (dt e) e.nE f (qv 0) (cB (aW (qv 1) aA)))))) (eI (cR (cB aA))))) λds S Q h=>?_;obtain⟨i,j,s,rfl,rfl,c,⟨⟨a,d⟩,hj⟩,q⟩:=h;ac_nf;refine⟨c.ne,c.ne,dF c d (pj (o:=some a) c hj rfl ⟨#v[1],?_⟩)⟩;have st:Vbpcaa.step s (.copy i j)=(s.set j.toNat (some a),[0]):=fc (by simp only[aY,cJ d.1,cJ hj,c6 d.2,jo];rfl)
 exact q _ _ st (c.set (λb e=>by injection e with e;subst e;exact d.ok c)) #v[1]
inductive E9:Prop
|mk (s:Vbpcaa.Sheet) (i:Int) (a:Vbpcaa.Shape) (l:List Pt) (_:ds=[.dU,.int i,d5 l]) (_:S=nA s) (_:zE s) (_:At s i a) (_:l≠[]) (_:l.length<=2000) (_:(l.all dP=false->R (uz [-6]) (nA s))) (_:(l.all dP=true->R (uz [0]) (nA (s.set i.toNat (some ⟨a.r,Vbpcaa.normal l⟩)))))
theorem oq{l:a5 Pt}(h:l.all dP=true):∀p∈l,B1 p:=by intro p a;have:=bf.mp h p a;unfold dP cK at this;unfold B1;have:=of_decide_eq_true this;lia
theorem vC:VS e "move_to" 4 E9:=by
 refine xH e ["sheet","place","points"] 3 e.Pb (λnd b=>(az (dv (jm (d7 (aN (kN e) b (cB (qv 2))))) (eI (cR (cB (fP e.C.nU)))) bM) (az (o6 (cp (o7 e) e.nE b (qv 0) (ju (qv 1) (yb e b (ju (jS rfl e.mG e.Gp (cp (dt e) e.nE b (qv 0) (cB (qv 1)))) (aN (BD e) b (cB (qv 2)))))))) (eI (cR (cB aA)))))) λds S Q h=>?_;obtain⟨s,i,a,l,rfl,rfl,c,d,hl,j,g,f⟩:=h;ac_nf;refine⟨l,rfl,λt=>⟨#v[1],g #v[t]⟩,λt=>?_⟩;have t':l.all dP=true:=by simpa using t
 refine⟨c.ne,c.ne,dF c d ?_⟩;simp! only[mY];exact⟨l,rfl,hl,j,oq t',pj (o:=some ⟨a.r,Vbpcaa.normal l⟩) c d.1 rfl ⟨#v[1],f t'⟩⟩
theorem SA{a:Vbpcaa.Shape}{f:Pt->Pt}(h:CD a)(k:Sg.Keeps f)(b:Sg.Back f)(c:(a.pts.map f).all dP=true):CD ⟨a.r,Vbpcaa.normal (a.pts.map f)⟩:=by
 obtain⟨F,L,M⟩:=h.gR.moved k;refine⟨F,by rw[L];exact h.len,λp d=>oq c p ((M p).mp d),h.r,λg=>?_⟩;have h3':3<=a.pts.length:=by have:3<=(Vbpcaa.normal (a.pts.map f)).length:=g;lia
 exact((h.simp h3').map b).normal
theorem BV{s:Vbpcaa.Sheet}{i:Int}{a:Vbpcaa.Shape}{f:Pt->Pt}{c:Vbpcaa.Call}{Q:D->a5 D->Prop}(d:zE s)(o:At s i a)(k:Sg.Keeps f)(b:Sg.Back f)(m:aY s c=(do
   let b <- Vbpcaa.moved f a
   return(s.set i.toNat (some b),[0])))(q:∀g l,Vbpcaa.step s c=(g,l)->zE g->l.length<=5000->Q (uz l) (nA g)):
  E9 [.dU,.int i,d5 (a.pts.map f)] (nA s) Q:=by have h:=o.ok d;refine⟨s,i,a,a.pts.map f,rfl,rfl,d,o,by simpa using h.gR.ne,by rw[ai];exact h.n2,λe=>?_,λe=>?_⟩;refine q _ _ (c5 (n:=-6) ?_) d #v[1];rw[m];unfold Vbpcaa.moved;rw[e];rfl;refine q _ _ (fc (x:=(s.set i.toNat (some ⟨a.r,Vbpcaa.normal (a.pts.map f)⟩),[0])) ?_) (d.set ?_) #v[1];rw[m];unfold Vbpcaa.moved;rw[e];rfl;rintro p j;injection j with j;subst j;exact SA h k b e
inductive xx:Prop
|mk (i x y:Int) (_:Cl (.shift i x y) (.lst [.int i,.int x,.int y]) (λs=>ig s i) ds S R)
theorem C8:VS e "call_shift" 5 xx:=by refine xH e ["sheet","given"] 2 e.wM.nd (λnd d=>(eI (sv (vC e) d (rp (qv 0) (aW (qv 1) aA) (aN (By e) d (rp (dS rfl e.mG e.rB (cp (dt e) e.nE d (qv 0) (cB (aW (qv 1) aA)))) (aW (qv 1) aA) (aW (qv 1) aA))))))) λds S Q h=>?_;obtain⟨i,x,y,s,rfl,rfl,c,⟨a,b⟩,q⟩:=h;have f:=b.ok c;ac_nf;refine⟨c.ne,dF c b ?_⟩;simp! only[mY];exact⟨a.pts,x,y,rfl,f.n2,BV c b (Sg.Jl _) (Sg.L9 _) (by simp only[aY,cJ b.1,c6 b.2,jo]) q⟩
inductive zG:Prop
|mk (i k x y:Int) (_:Cl (.turn i k x y) (.lst [.int i,.int k,.int x,.int y]) (λs=>ig s i) ds S R)
theorem FV:VS e "call_turn" 5 zG:=by refine xH e ["sheet","given"] 2 e.y6.nd (λnd d=>(eI (sv (vC e) d (rp (qv 0) (aW (qv 1) aA) (aN (OT e) d (UH (dS rfl e.mG e.rB (cp (dt e) e.nE d (qv 0) (cB (aW (qv 1) aA)))) (aW (qv 1) aA) (aW (qv 1) aA) (aW (qv 1) aA))))))) λds S Q h=>?_;obtain⟨i,k,x,y,s,rfl,rfl,c,⟨a,b⟩,q⟩:=h;have f:=b.ok c;ac_nf;refine⟨c.ne,dF c b ?_⟩;simp! only[mY];exact⟨a.pts,k,x,y,rfl,f.n2,BV c b (Sg.w4 _ _) (Sg.zw _ _) (by simp only[aY,cJ b.1,c6 b.2,jo]) q⟩
inductive zL:Prop
|mk (i x:Int) (_:Cl (.flip i x) (.lst [.int i,.int x]) (λs=>ig s i) ds S R)
theorem F1:VS e "call_flip" 5 zL:=by refine xH e ["sheet","given"] 2 e.ze.nd (λnd d=>(eI (sv (vC e) d (rp (qv 0) (aW (qv 1) aA) (aN (Lb e) d (ju (dS rfl e.mG e.rB (cp (dt e) e.nE d (qv 0) (cB (aW (qv 1) aA)))) (aW (qv 1) aA))))))) λds S Q h=>?_;obtain⟨i,x,s,rfl,rfl,c,⟨a,b⟩,q⟩:=h;have f:=b.ok c;ac_nf;refine⟨c.ne,dF c b ?_⟩;simp! only[mY];exact⟨a.pts,x,rfl,f.n2,BV c b (Sg.Lw _) (Sg.P2 _) (by simp only[aY,cJ b.1,c6 b.2,jo]) q⟩
theorem oZ(r:Int):QM r=dH (decide (0<=r/\r<=cK)) (-4):=rfl
theorem pI(r:Int):Vbpcaa.distanceOk r=dH (decide (1<=r/\r<=cK)) (-8):=rfl
inductive zK:Prop
|mk (i d:Int) (_:Cl (.grow i d) (.lst [.int i,.int d]) (λs=>ig s i) ds S R)
theorem FZ:VS e "call_grow" 3 zK:=by
 refine xH e ["sheet","given","shape","radius"] 2 e.zd.nd (λnd g=>(az (bB 2 nd (cp (dt e) e.nE g (qv 0) (cB (aW (qv 1) aA)))) (az (bB 3 nd (gN (jS rfl e.mG e.Gp (qv 2)) (aW (qv 1) aA))) (az (dv (jm (d7 (aN (qN e) g (cB (qv 3))))) (eI (cR (cB (fP e.C.vU)))) bM) (az (o6 (cp (o7 e) e.nE g (qv 0) (ju (aW (qv 1) aA) (yb e g (ju (qv 3) (dS rfl e.mG e.rB (qv 2))))))) (eI (cR (cB aA)))))))) λds S Q h=>?_;obtain⟨i,d,s,rfl,rfl,c,⟨a,f⟩,q⟩:=h;have j:=f.ok c;have l:aY s (.grow i d)=(dH (decide (0<=(a.r:Int)+d/\(a.r:Int)+d<=cK)) (-4) >>= λ_=>.ok (s.set i.toNat (some ⟨((a.r:Int)+d).toNat,a.pts⟩),[0])):=by simp only[aY,cJ f.1,c6 f.2,jo,oZ];rfl
 ac_nf;refine⟨c.ne,dF c f ?_⟩;simp! only[mY];refine⟨(a.r:Int)+d,rfl,λt=>⟨#v[1],?_⟩,λt=>⟨c.ne,?_⟩⟩;have t':decide (0<=(a.r:Int)+d/\(a.r:Int)+d<=cK)=false:=by
  cases e:decide (0<=(a.r:Int)+d/\(a.r:Int)+d<=cK) with
 |false=>rfl
 |true=>rw[e]at t;cases t
 exact q _ _ (c5 (n:=-4) (by rw[l,t'];rfl)) c #v[1];have t':decide (0<=(a.r:Int)+d/\(a.r:Int)+d<=cK)=true:=by
  cases e:decide (0<=(a.r:Int)+d/\(a.r:Int)+d<=cK) with
 |true=>rfl
 |false=>rw[e]at t;cases t
 have k:=of_decide_eq_true t';unfold cK at k;refine pj (o:=some ⟨((a.r:Int)+d).toNat,a.pts⟩) c f.1 ?_ ⟨#v[1],?_⟩;show D.yX (.int ((a.r:Int)+d)) (d5 a.pts)=D.yX (.int ((((a.r:Int)+d).toNat:Nat):Int)) (d5 a.pts);rw[jk k.1];refine q _ _ (fc (by rw[l,t'];rfl)) (c.set λb e=>?_) #v[1];injection e with e;subst e;exact⟨j.gR,j.len,j.B,by show((a.r:Int)+d).toNat<=1000000000;lia,j.simp⟩
inductive zH:Prop
|mk (i:Int) (_:Cl (.tidy i) (.lst [.int i]) (λs=>ig s i) ds S R)
theorem FW:VS e "call_tidy" 3 zH:=by
 refine xH e ["sheet","given","shape","points"] 2 e.y8.nd (λnd g=>(az (bB 2 nd (cp (dt e) e.nE g (qv 0) (cB (aW (qv 1) aA)))) (az (bB 3 nd (aN (qd e) g (cB (dS rfl e.mG e.rB (qv 2))))) (az (o6 (cp (o7 e) e.nE g (qv 0) (ju (aW (qv 1) aA) (yb e g (ju (jS rfl e.mG e.Gp (qv 2)) (qv 3)))))) (eI (cR (cB (gY e.B (cB (qv 3)))))))))) λds S Q h=>?_;obtain⟨i,s,rfl,rfl,d,⟨a,f⟩,q⟩:=h;have c:=f.ok d;have l:aY s (.tidy i)=.ok (s.set i.toNat (some ⟨a.r,Vbpcaa.tidied a.pts⟩),[((Vbpcaa.tidied a.pts).length:Int)]):=by simp only[aY,cJ f.1,c6 f.2,jo];rfl
 obtain⟨F,L,M⟩:=c.gR.tidied;ac_nf;refine⟨d.ne,dF d f ?_⟩;simp! only[mY];refine⟨a.pts,rfl,c.gR.ne,c.n2,λp j=>(c.B p j).b2,d.ne,pj (o:=some ⟨a.r,Vbpcaa.tidied a.pts⟩) d f.1 rfl ?_⟩;simp! only[d5,ai];refine⟨#v[1],q _ _ (fc l) (d.set λb e=>?_) #v[0]⟩;injection e with e;subst e;refine⟨F,bu L c.len,λp j=>c.B p (M p j),c.r,λk=>?_⟩;have h3':3<=(Vbpcaa.tidied a.pts).length:=k;exact(c.simp #v[]).tidied c.gR
inductive xy:Prop
|mk (i:Int) (_:Cl (.shape i) (.lst [.int i]) (λs=>ig s i) ds S R)
theorem EM(l:a5 Pt):(ip l).length=2*l.length:=by
 unfold ip
 induction l with
|nil=>rfl
|cons p l a=>rw[dW,aP,a];simp;lia
theorem C9:VS e "call_shape" 2 xy:=by
 refine xH e ["sheet","given","shape","answer","x","y"] 2 e.wN.nd (λnd g=>(az (bB 2 nd (cp (dt e) e.nE g (qv 0) (cB (aW (qv 1) aA)))) (az (lA 3 nd (qL (cB (jS rfl e.mG e.Gp (qv 2))))) (az (eP (cI (dS rfl e.mG e.rB (qv 2))) (He (jM 4 nd) (jM 5 nd)) (az (kP (i:=3) iH dr dk j9 (cB (qv 4))) (bO (kP (i:=3) iH dr dk j9 (cB (qv 5)))))) (bO (QS.sR 3 (qK (qv 3)))))))) λds S Q h=>?_;obtain⟨i,s,rfl,rfl,b,⟨a,c⟩,q⟩:=h;have j:=c.ok b;have m:aY s (.shape i)=.ok (s,(a.r:Int)::ip a.pts):=by simp only[aY,cJ c.1,c6 c.2,jo];rfl
 have hl:=j.len;ac_nf;refine⟨b.ne,dF b c ?_⟩;simp! only[mY];refine⟨#v[1],?_⟩;refine gQ a.pts pD (λk d=>∃x y:Option Sl,d=[some (.sh .dU),some (.sh (.lst [.int i])),some (.sh (mY a)),some (.ow (((a.r:Int)::ip (a.pts.take k)).map D.int)),x,y]) (λR h=>?_) ⟨none,none,rfl⟩ ?_ ?_;exact h;rintro k p d f ⟨x,y,rfl⟩;have hk:=(aJ.mp f).1;have l:ip (a.pts.take (k+1))=ip (a.pts.take k)++[p.x,p.y]:=by unfold ip;rw[ck f,ja];rfl
 have cl:=EM (a.pts.take k);rw[bw]at cl;simp! only[pD];refine⟨⟨_,rfl⟩,?_,⟨_,rfl⟩,?_,?_⟩;rw[ai,cl];exact aR (show _<5000 by lia) (m5 (aS _));rw[aP,ai,cl];exact aR (show _<5000 by simp;lia) (m5 (aS _));rw[l];refine⟨some (.sh (.int p.x)),some (.sh (.int p.y)),#v[0]⟩;rintro d ⟨x,y,rfl⟩;rw[bY];ac_nf;exact q _ _ (fc m) b (by rw[aL,EM];lia)
inductive CM:Prop
|mk (i:Int) (_:Cl (.box i) (.lst [.int i]) (λs=>ig s i) ds S R)
theorem II:VS e "call_box" 2 CM:=by
 refine xH e ["sheet","given","shape","r","around"] 2 e.BR.nd (λnd d=>(az (bB 2 nd (cp (dt e) e.nE d (qv 0) (cB (aW (qv 1) aA)))) (az (bB 3 nd (jS rfl e.mG e.Gp (qv 2))) (az (bB 4 nd (aN (kY e) d (cB (dS rfl e.mG e.rB (qv 2))))) (eI (cR (j4 aA (UH (eX (aW (qv 4) aA) (qv 3)) (eX (aW (qv 4) aA) (qv 3)) (gN (aW (qv 4) aA) (qv 3)) (gN (aW (qv 4) aA) (qv 3)))))))))) λds S Q h=>?_;obtain⟨i,s,rfl,rfl,b,⟨a,c⟩,q⟩:=h;have f:=c.ok b;have g:aY s (.box i)=.ok (s,0::XH a):=by simp only[aY,cJ c.1,c6 c.2,jo];rfl
 ac_nf;refine⟨b.ne,dF b c ?_⟩;simp! only[mY];refine⟨a.pts,rfl,f.gR.ne,f.n2,?_⟩;simp! only[bD,bx];exact⟨#v[1],q _ _ (fc g) b (by simp[XH])⟩
inductive zO:Prop
|mk (i:Int) (_:Cl (.area i) (.lst [.int i]) (λs=>ig s i) ds S R)
theorem F4:VS e "call_area" 2 zO:=by
 refine xH e ["sheet","given"] 2 e.zh.nd (λnd f=>(eI (cR (cB (aN (sM e) f (cB (dS rfl e.mG e.rB (cp (dt e) e.nE f (qv 0) (cB (aW (qv 1) aA)))))))))) λds S Q h=>?_;obtain⟨i,s,rfl,rfl,b,⟨a,d⟩,q⟩:=h;have c:=d.ok b;have g:aY s (.area i)=.ok (s,[((cw a.pts).natAbs:Int)]):=by simp only[aY,cJ d.1,c6 d.2,jo];rfl
 have j:=c.gR.area;rw[show((cw a.pts).natAbs:Int)=cw a.pts by lia]at g;ac_nf;refine⟨b.ne,dF b d ?_⟩;simp! only[mY];exact⟨a.pts,rfl,c.gR.ne,c.n2,c.B,#v[1],q _ _ (fc g) b #v[0]⟩
theorem AE(b:Bool):uz (jq b)=.lst [.int (if b then 1 else 0)]:=by cases b<;>rfl
theorem tQ(b:Bool):(jq b).length<=5000:=by simp[jq]
inductive va:Prop
|mk (i:Int) (_:Cl (.convex i) (.lst [.int i]) (λs=>ig s i) ds S R)
theorem BH:VS e "call_convex" 3 va:=by
 refine xH e ["sheet","given"] 2 e.uT.nd (λnd g=>(eI (cR (cB (mf GK ui rfl e.B.Wz #v[2] (cB (aN (qO e) g (cB (dS rfl e.mG e.rB (cp (dt e) e.nE g (qv 0) (cB (aW (qv 1) aA)))))))))))) λds S Q h=>?_;obtain⟨i,s,rfl,rfl,b,⟨a,c⟩,q⟩:=h;have d:=c.ok b;have k:aY s (.convex i)=.ok (s,jq (iD a.pts)):=by simp only[aY,cJ c.1,c6 c.2,jo];rfl
 have f:=q _ _ (fc k) b (tQ _);rw[AE]at f;ac_nf;refine⟨b.ne,dF b c ?_⟩;simp! only[mY];refine⟨a.pts,rfl,d.gR.ne,d.n2,λp j=>(d.B p j).b2,?_⟩;ac_nf;exact⟨#v[1],f⟩
inductive zM:Prop
|mk (i j:Int) (_:Cl (.dist i j) (.lst [.int i,.int j]) (λs=>ig s i/\ig s j) ds S R)
theorem F2:VS e "call_dist" 8 zM:=by
 refine xH e ["sheet","given"] 2 e.zf.nd (λnd g=>(eI (mf (NS rfl) xj rfl e.B.wY #v[2] (cB (aN (iG e) g (ju (dS rfl e.mG e.rB (cp (dt e) e.nE g (qv 0) (cB (aW (qv 1) aA)))) (dS rfl e.mG e.rB (cp (dt e) e.nE g (qv 0) (cB (aW (qv 1) aA)))))))))) λds S Q h=>?_;obtain⟨i,j,s,rfl,rfl,c,⟨⟨a,f⟩,⟨b,d⟩⟩,q⟩:=h;have l:=f.ok c;have k:=d.ok c;have m:aY s (.dist i j)=.ok (s,zZ (aT a.pts b.pts)):=by simp only[aY,cJ f.1,cJ d.1,c6 f.2,c6 d.2,jo];rfl
 ac_nf;refine⟨c.ne,dF c f ?_⟩;simp! only[mY];refine⟨c.ne,dF c d ?_⟩;simp! only[mY];refine⟨a.pts,b.pts,rfl,l.gR.ne,k.gR.ne,l.n2,k.n2,l.B,k.B,?_⟩;simp! only[fD];exact q _ _ (fc m) c (by simp[zZ])
inductive CL:Prop
|mk (i j:Int) (_:Cl (.far i j) (.lst [.int i,.int j]) (λs=>ig s i/\ig s j) ds S R)
theorem IH:VS e "call_far" 3 CL:=by
 refine xH e ["sheet","given"] 2 e.BQ.nd (λnd g=>(eI (cR (cB (aN (sJ e) g (ju (dS rfl e.mG e.rB (cp (dt e) e.nE g (qv 0) (cB (aW (qv 1) aA)))) (dS rfl e.mG e.rB (cp (dt e) e.nE g (qv 0) (cB (aW (qv 1) aA)))))))))) λds S Q h=>?_;obtain⟨i,j,s,rfl,rfl,c,⟨⟨a,f⟩,⟨b,d⟩⟩,q⟩:=h;have l:=f.ok c;have k:=d.ok c;have m:aY s (.far i j)=.ok (s,[(YD a.pts b.pts:Int)]):=by simp only[aY,cJ f.1,cJ d.1,c6 f.2,c6 d.2,jo];rfl
 ac_nf;refine⟨c.ne,dF c f ?_⟩;simp! only[mY];refine⟨c.ne,dF c d ?_⟩;simp! only[mY];exact⟨a.pts,b.pts,rfl,l.gR.ne,k.gR.ne,l.n2,k.n2,λp h=>(l.B p h).b2,λp h=>(k.B p h).b2,#v[1],q _ _ (fc m) c #v[0]⟩
inductive xw:Prop
|mk (i j:Int) (_:Cl (.touch i j) (.lst [.int i,.int j]) (λs=>ig s i/\ig s j) ds S R)
theorem C7:VS e "call_touch" 9 xw:=by
 refine xH e ["sheet","given"] 2 e.wL.nd (λnd g=>(eI (cR (cB (mf GK ui rfl e.B.Wz #v[2] (cB (aN (R7 e) g (ju (cp (dt e) e.nE g (qv 0) (cB (aW (qv 1) aA))) (cp (dt e) e.nE g (qv 0) (cB (aW (qv 1) aA))))))))))) λds S Q h=>?_;obtain⟨i,j,s,rfl,rfl,c,⟨⟨a,f⟩,⟨b,d⟩⟩,q⟩:=h;have m:=f.ok c;have l:=d.ok c;have n:aY s (.touch i j)=.ok (s,jq (Vbpcaa.touch a b)):=by simp only[aY,cJ f.1,cJ d.1,c6 f.2,c6 d.2,jo];rfl
 have k:=q _ _ (fc n) c (tQ _);rw[AE]at k;ac_nf;refine⟨c.ne,dF c f ?_⟩;refine⟨c.ne,dF c d ?_⟩;refine⟨a,b,rfl,m,l,?_⟩;ac_nf;exact⟨#v[1],k⟩
theorem oB{b:Bool}(h:(!b)=true):b=false:=by cases b<;>simp_all
theorem gZ{b:Bool}(h:(!b)=false):b=true:=by cases b<;>simp_all
theorem yj:∀(l:a5 Int),cV l=(cf (l.length / 2)).map λj=>⟨l.getD (2*j) 0,l.getD (2*j+1) 0⟩
|[]=>rfl
|[x]=>by simp[cV]
|x::y::l=>by
  have a:=yj l;have e:(x::y::l).length / 2=l.length / 2+1:=by simp only[aL];lia
  rw[e,List.range_succ_eq_map,a9,bz];show(⟨x,y⟩::cV l:a5 Pt)=_;rw[a];congr 1
theorem NU{l:a5 Int}{j:Nat}(h:j<l.length):nT (l.map D.int) (j:Int)=some (.int (l.getD j 0)):=by rw[mE,bq,aw h,cA,aw h];rfl
theorem VN:∀m:Fin 33,RgC 0 (2*((m.val:Nat):Int)) 2 m.val:=by intro m;unfold RgC;revert m;decide +kernel
inductive CK:Prop
|mk (i r:Int) (l:List Int) (_:l.length<=1000) (_:Cl (.put i r l) (.lst [.int i,.int r,uz l]) (λ_=>aV i=true) ds S R)
theorem IG:VS e "call_put" 6 CK:=by
 refine xH e ["sheet","given","radius","numbers","points","k"] 2 e.BP.nd (λnd g=>(az (bB 2 nd (aW (qv 1) aA)) (az (bB 3 nd (aW (qv 1) aA)) (az (dv (jm (d7 (aN (qN e) g (cB (qv 2))))) (eI (cR (cB (fP e.C.vU)))) bM) (az (dv (QW.qt (Bk (wu g.units (FD (gY e.B (cB (qv 3))) aA) aA) (Bk (uN (gY e.B (cB (qv 3))) aA) (xZ (yY (gY e.B (cB (qv 3))) (gM aA (fP e.C.tF))))))) (eI (cR (cB (fP e.C.uj)))) bM) (az (ou 4 (own:=[("k",5)]) nd (OH rfl e.B.r9 (rp aA (gY e.B (cB (qv 3))) aA)) (λ_ _ _ _ _=>(jM 5 nd)) (λ_ _ _ _ _=>jG) (λ_ _ _ _ _=>(i6 (ju (aW (qv 3) (qv 5)) (aW (qv 3) (gN (qv 5) aA)))))) (az (dv (jm (d7 (aN (kN e) g (cB (qv 4))))) (eI (cR (cB (fP e.C.nU)))) bM) (az (dv (jm (d7 (aN (BB e) g (cB (qv 4))))) (eI (cR (cB (fP e.C.JW)))) bM) (az (o6 (cp (o7 e) e.nE g (qv 0) (ju (aW (qv 1) aA) (yb e g (ju (qv 2) (aN (BD e) g (cB (qv 4)))))))) (eI (cR (cB aA)))))))))))) λds S Q h=>?_;obtain⟨i,r,l,hl,s,rfl,rfl,u,hi,q⟩:=h;have I:aY s (.put i r l)=(Vbpcaa.made r l >>= λa=>.ok (s.set i.toNat (some a),[0])):=by simp only[aY,cJ hi,jo];rfl
 simp! only[uz];have v:∀n:Int,Vbpcaa.made r l=.error n->Q (uz [n]) (nA s):=λn e=>q _ _ (c5 (by rw[I,e];rfl)) u #v[0];refine⟨r,rfl,λt=>⟨#v[1],?_⟩,λt=>?_⟩;refine v (-4) ?_;unfold Vbpcaa.made;rw[oZ,oB t];rfl;have C:QM r=.ok ():=by rw[oZ,gZ t];rfl
 have E:=of_decide_eq_true (gZ t);have B:¬(l.length % 2=0/\1<=l.length / 2/\l.length / 2<=32)->Q (D.lst [D.int (-5)]) (nA s):=λO=>by refine v (-5) ?_;unfold Vbpcaa.made;rw[C,jo,decide_eq_false (show ¬(l.length % 2=0/\1<=l.length / 2/\l.length / 2<=eW) from O)];rfl
 rw[ai];refine⟨#v[1],λz=>⟨#v[1],B ?_⟩,λz=>⟨λy=>⟨#v[1],B ?_⟩,λy=>⟨cm #v[1],λw=>⟨#v[1],B ?_⟩,λw=>?_⟩⟩⟩;intro V;have:=of_decide_eq_false (oB z);lia;have:=of_decide_eq_true y;lia;have:=of_decide_eq_true w;lia;have len:l.length % 2=0/\1<=l.length / 2/\l.length / 2<=32:=by have X:=of_decide_eq_true (gZ z);have W:=of_decide_eq_false y;have H:=of_decide_eq_false w;lia
 have rg:RgC 0 (l.length:Int) 2 (l.length / 2):=by
  have:=VN ⟨l.length / 2,#v[]⟩;have e:(l.length:Int)=2*((l.length / 2:Nat):Int):=#v[]
  rw[e];exact this
 have gen:∀(x:Vbpcaa.R Vbpcaa.Shape),x=(dH ((cV l).all dP) (-6) >>= λ_=>dH (vY (cV l)) (-7) >>= λ_=>.ok ⟨r.toNat,Vbpcaa.normal (cV l)⟩)->Vbpcaa.made r l=x:=λx K=>by rw[K];unfold Vbpcaa.made;rw[C,jo,decide_eq_true (show l.length % 2=0/\1<=l.length / 2/\l.length / 2<=eW from len),sN,jo];rfl
 refine mn (cf (l.length / 2)) (λ(i:Nat)=>D.int (0+(i:Int)*2)) (λj=>pD ⟨l.getD (2*j) 0,l.getD (2*j+1) 0⟩) rfl (λR h=>?_) (by rw[l5];exact iO #v[]) (λj hj U h=>?_) ?_;simp! only[ai];exact⟨_,rg,h⟩;have hj':j<l.length / 2:=eM.mp hj;have a1:nT (l.map D.int) (0+(j:Int)*2)=some (.int (l.getD (2*j) 0)):=by rw[show 0+(j:Int)*2=((2*j:Nat):Int) by lia];exact NU #v[]
 have a2:nT (l.map D.int) (0+(j:Int)*2+1)=some (.int (l.getD (2*j+1) 0)):=by rw[show 0+(j:Int)*2+1=((2*j+1:Nat):Int) by lia];exact NU #v[]
 have P:Wq (nT (l.map D.int) (0+(j:Int)*2)) λd=>Wq (nT (l.map D.int) (0+(j:Int)*2+1)) λd'=>2<=aQ/\U (.tup [d,d']) (nA s):=by rw[a1,a2];exact⟨Bc,h⟩
 exact P;have T:(cf (l.length / 2)).map (λj=>pD ⟨l.getD (2*j) 0,l.getD (2*j+1) 0⟩)=(cV l).map pD:=by rw[yj,bz];rfl
 rw[T];have pl:(cV l).length=l.length / 2:=by rw[yj];simp
 have G:cV l≠[]:=by intro e;rw[e]at pl;simp at pl;lia
 refine⟨cV l,rfl,λf=>⟨#v[1],v (-6) (gen _ ?_)⟩,λf=>⟨cV l,rfl,G,#v[],oq (gZ f),λm=>⟨#v[1],v (-7) (gen _ ?_)⟩,λm=>⟨u.ne,cV l,rfl,G,#v[],oq (gZ f),pj (o:=some ⟨r.toNat,Vbpcaa.normal (cV l)⟩) u hi ?_ ⟨#v[1],?_⟩⟩⟩⟩;rw[oB f];rfl;rw[gZ f,oB m];rfl;show D.yX (.int r) (d5 _)=D.yX (.int ((r.toNat:Nat):Int)) (d5 _);rw[jk E.1];have J:Vbpcaa.made r l=.ok ⟨r.toNat,Vbpcaa.normal (cV l)⟩:=gen _ (by rw[gZ f,gZ m];rfl);refine q _ _ (fc (by rw[I,J];rfl)) (u.set λb e=>?_) #v[0];injection e with e;subst e;obtain⟨F,L,M⟩:=Sg.C2 (gZ m);refine⟨F,by show(Vbpcaa.normal _).length<=32;lia,λp N=>oq (gZ f) p ((M p).mp N),?_,λH=>?_⟩;have:=E.2;unfold cK at this;show r.toNat<=1000000000;lia;have h3':3<=(Vbpcaa.normal (cV l)).length:=H;have A:=gZ m;have:rS (cV l)=true:=by
  match e:cV l,(show 3<=(cV l).length by lia),A with
 |a::b::c::k,_,A=>exact A
 exact(Sg.Simp.of this).normal
theorem Cj{c:Int}(h:decide (1<=c/\c<=cK)=true):∃n:Nat,c=(n:Int)/\1<=n/\n<=1000000000/\c.toNat=n:=by have h':=of_decide_eq_true h;unfold cK at h';exact⟨c.toNat,#v[],#v[],#v[],rfl⟩
inductive xE:Prop
|mk (i j c:Int) (_:Cl (.apart i j c) (.lst [.int i,.int j,.int c]) (λs=>ig s i/\ig s j) ds S R)
theorem Dh:VS e "call_apart" 9 xE:=by
 refine xH e ["sheet","given"] 2 e.wV.nd (λnd f=>(az (dv (jm (d7 (aN (oA e) f (cB (aW (qv 1) aA))))) (eI (cR (cB (fP e.C.qY)))) bM) (eI (cR (cB (mf GK ui rfl e.B.Wz #v[2] (cB (aN (wH e) f (rp (cp (dt e) e.nE f (qv 0) (cB (aW (qv 1) aA))) (cp (dt e) e.nE f (qv 0) (cB (aW (qv 1) aA))) (aW (qv 1) aA)))))))))) λds S Q h=>?_;obtain⟨i,j,c,s,rfl,rfl,d,⟨⟨a,k⟩,⟨b,g⟩⟩,q⟩:=h;have p:=k.ok d;have o:=g.ok d;have m:aY s (.apart i j c)=(dH (decide (1<=c/\c<=cK)) (-8) >>= λ_=>.ok (s,jq (Vbpcaa.apart a b c.toNat))):=by simp only[aY,cJ k.1,cJ g.1,c6 k.2,c6 g.2,jo,pI];rfl
 ac_nf;refine⟨c,rfl,λt=>⟨#v[1],q _ _ (c5 (n:=-8) (by rw[m,oB t];rfl)) d #v[0]⟩,λt=>?_⟩;obtain⟨n,rfl,u,r,e⟩:=Cj (gZ t);have l:=q _ _ (fc (by rw[m,gZ t];rfl)) d (tQ _);rw[AE,e]at l;refine⟨d.ne,dF d k ⟨d.ne,dF d g ⟨a,b,n,rfl,p,o,r,?_⟩⟩⟩;ac_nf;exact⟨#v[1],l⟩
inductive xA:Prop
|mk (i x y:Int) (_:Cl (.point i x y) (.lst [.int i,.int x,.int y]) (λs=>ig s i) ds S R)
theorem Dc:VS e "call_point" 9 xA:=by
 refine xH e ["sheet","given","p"] 2 e.wO.nd (λnd d=>(az (bB 2 nd (i6 (ju (aW (qv 1) aA) (aW (qv 1) aA)))) (az (dv (jm (d7 (aN (kN e) d (cB (cR (cB (qv 2))))))) (eI (cR (cB (fP e.C.nU)))) bM) (eI (cR (cB (aN (C5 e) d (ju (qv 2) (cp (dt e) e.nE d (qv 0) (cB (aW (qv 1) aA))))))))))) λds S Q h=>?_;obtain⟨i,x,y,s,rfl,rfl,b,⟨a,c⟩,q⟩:=h;have j:=c.ok b;have g:aY s (.point i x y)=(dH (dP ⟨x,y⟩) (-6) >>= λ_=>.ok (s,[Hs a ⟨x,y⟩])):=by simp only[aY,cJ c.1,c6 c.2,jo];rfl
 ac_nf;have f:([⟨x,y⟩]:a5 Pt).all dP=dP ⟨x,y⟩:=#v[0]
 refine⟨Bc,#v[1],[⟨x,y⟩],rfl,?_⟩;simp! only[f];refine⟨λt=>⟨#v[1],q _ _ (c5 (n:=-6) (by rw[g,oB t];rfl)) b #v[0]⟩,λt=>⟨b.ne,dF b c ⟨⟨x,y⟩,a,rfl,?_,j,#v[1],?_⟩⟩⟩;have:=oq (l:=[⟨x,y⟩]) (by rw[f];exact gZ t);exact this _ #v[0];exact q _ _ (fc (by rw[g,gZ t];rfl)) b #v[0]
inductive u9:Prop
|mk (i j m:Int) (_:Cl (.inside i j m) (.lst [.int i,.int j,.int m]) (λs=>ig s i/\ig s j) ds S R)
theorem BG:VS e "call_inside" 9 u9:=by
 refine xH e ["sheet","given","polygon"] 2 e.uS.nd (λnd d=>(az (bB 2 nd (cp (dt e) e.nE d (qv 0) (cB (aW (qv 1) aA)))) (az (dv (jm (d7 (aN (vD e) d (cB (qv 2))))) (eI (cR (cB (fP e.C.qW)))) bM) (az (dv (jm (d7 (aN (oA e) d (cB (aW (qv 1) aA))))) (eI (cR (cB (fP e.C.qY)))) bM) (eI (cR (cB (mf GK ui rfl e.B.Wz #v[2] (cB (aN (BA e) d (rp (cp (dt e) e.nE d (qv 0) (cB (aW (qv 1) aA))) (qv 2) (aW (qv 1) aA)))))))))))) λds S Q h=>?_;obtain⟨i,j,m,s,rfl,rfl,c,⟨⟨a,k⟩,⟨b,g⟩⟩,q⟩:=h;have r:=k.ok c;have p:=g.ok c;have l:aY s (.inside i j m)=(dH (h9 b&&b.r == 0) (-3) >>= λ_=>dH (decide (1<=m/\m<=cK)) (-8) >>= λ_=>.ok (s,jq (A4 a b.pts m.toNat))):=by simp only[aY,cJ k.1,cJ g.1,c6 k.2,c6 g.2,jo,pI];rfl
 ac_nf;refine⟨c.ne,dF c g ⟨b,rfl,λt=>⟨#v[1],q _ _ (c5 (n:=-3) (by rw[l,oB t];rfl)) c #v[0]⟩,λt=>⟨m,rfl,λf=>⟨#v[1],q _ _ (c5 (n:=-8) (by rw[l,gZ t,oB f];rfl)) c #v[0]⟩,λf=>?_⟩⟩⟩;obtain⟨n,rfl,w,v,e⟩:=Cj (gZ f);have o:=q _ _ (fc (by rw[l,gZ t,gZ f];rfl)) c (tQ _);rw[AE,e]at o;have u:3<=b.pts.length:=by have:=gZ t;rw[aZ]at this;exact of_decide_eq_true this.1
 refine⟨c.ne,dF c k ⟨a,b,n,rfl,r,p,u,w,v,?_⟩⟩;ac_nf;exact⟨#v[1],o⟩
theorem xo(s:Vbpcaa.Sheet):s.all.map (·.1)=lF s:=by
 unfold Vbpcaa.Sheet.all lF Vbpcaa.PLACES;rw[List.map_filterMap]
 induction cf 64 with
|nil=>rfl
|cons n l c=>
  cases e:s.get n with
 |none=>rw[Hn (by rw[e];rfl),jj (by rw[e];decide),c]
 |some a=>rw[qG (b:=n) (by rw[e];rfl),ji (by rw[e];rfl),c]
theorem qQ(s:Vbpcaa.Sheet):(lF s).length<=64:=by unfold lF;exact bu (fW _ _) #v[0]
def CN:FS:=λds S Q=>Cl .all (.lst []) (λ_=>True) ds S Q
theorem IJ:VS e "call_all" 2 CN:=by
 refine xH e ["sheet","given","places"] 2 e.BS.nd (λnd d=>(az (bB 2 nd (Bn (yo e) e.nE d (qv 0))) (eI (pF (cR (cB (gY e.B (cB (qv 2))))) (qv 2))))) λds S Q h=>?_;obtain⟨s,rfl,rfl,b,_,q⟩:=h;have g:aY s .all=.ok (s,(s.all.length:Int)::s.all.map λx=>(x.1:Int)):=rfl;have c:s.all.length=(lF s).length:=by rw[<- xo,ai]
 have f:(s.all.map λx=>(x.1:Int))=(lF s).map λ(n:Nat)=>(n:Int):=by rw[<- xo,bz];rfl
 have i:=qQ s;have a:=q _ _ (fc g) b (by rw[aL,ai,c];lia);rw[c,f]at a;ac_nf;refine⟨b.ne,s,rfl,rfl,b,?_⟩;simp! only[nsD,ai];refine⟨#v[1],iO #v[],?_⟩;unfold uz at a;rw[a9,bz]at a;exact a
inductive Qe:Prop
|mk (n:Nat) (l:List (List Int)) (_:ds=[.lst (l.map λg=>.tup (g.map D.int))]) (_:l.length<=4100) (_:(∀g∈l,g.length<=3)) (_:Q (uz ((l.length:Int)::l.flatten)))
theorem Jt{l:a5 (a5 Int)}(h:∀g∈l,g.length<=3):l.flatten.length<=3*l.length:=by
 induction l with
|nil=>simp
|cons g l a=>have:=a λg b=>h g (ah _ b);have:=h g #v[0];simp only[List.flatten_cons,aP,aL];lia
theorem Wu{n:Nat}(h:n<=20000):n<=aQ:=bu h #v[1]
theorem BF:VP e "counted" 1 Qe:=by refine lX e ["groups","answer","group"] 1 e.Pg (λnd f=>(az (lA 1 nd (qL (cB (gY e.B (cB (qv 0)))))) (az (eP (cI (qv 0)) (jM 2 nd) (bO (kP (i:=1) Ge iQ iP Lm (cB (qv 2))))) (bO (QS.sR 1 (qK (qv 1))))))) λds Q h=>?_;obtain⟨n,l,rfl,hl,b,q⟩:=h;ac_nf;refine⟨#v[1],?_⟩;refine gQ l (λg=>D.tup (g.map D.int)) (λk a=>∃x:Option Sl,a=[some (.sh (.lst (l.map λg=>.tup (g.map D.int)))),some (.ow (((l.length:Int)::(l.take k).flatten).map D.int)),x]) (λR h=>h) ⟨none,#v[0]⟩ ?_ ?_;rintro k g a hk ⟨x,rfl⟩;have j:=(aJ.mp hk).1;have d:=Jt (l:=l.take k) λg c=>b g (di c);rw[bw]at d;have m:=b g (bp hk);ac_nf;refine⟨⟨_,rfl⟩,?_,?_⟩;rw[ai,ai];exact Wu #v[];rw[ck hk,List.flatten_append];exact⟨some (.sh (.tup (g.map D.int))),#v[0]⟩;rintro a ⟨x,rfl⟩;rw[bY];ac_nf;exact q
inductive qA:Prop
|mk (i:Int) (_:Cl (.triangles i) (.lst [.int i]) (λs=>ig s i) ds S R)
theorem HM(l:a5 (Nat×Nat×Nat)):(l.flatMap λt=>[(t.1:Int),(t.2.1:Int),(t.2.2:Int)])=(l.map λt=>[(t.1:Int),(t.2.1:Int),(t.2.2:Int)]).flatten:=UO ..
theorem wG:VS e "call_triangles" 6 qA:=by
 refine xH e ["sheet","given","points"] 2 e.qh.nd (λnd f=>(az (bB 2 nd (dS rfl e.mG e.rB (cp (dt e) e.nE f (qv 0) (cB (aW (qv 1) aA))))) (az (dv (uN (gY e.B (cB (qv 2))) aA) (eI (cR (cB (fP e.C.qW)))) bM) (eI (aN (BF e) f (cB (aN (z9 e) f (cB (qv 2))))))))) λds S Q h=>?_;obtain⟨i,s,rfl,rfl,b,⟨a,d⟩,q⟩:=h;have c:=d.ok b;have m:aY s (.triangles i)=(dH (h9 a) (-3) >>= λ_=>.ok (s,((fz a.pts).length:Int)::(fz a.pts).flatMap λt=>[(t.1:Int),(t.2.1:Int),(t.2.2:Int)])):=by simp only[aY,cJ d.1,c6 d.2,jo];rfl
 ac_nf;refine⟨b.ne,dF b d ?_⟩;simp! only[mY,d5,ai];refine⟨λt=>⟨#v[1],?_⟩,λt=>?_⟩;refine q _ _ (c5 (n:=-3) ?_) b #v[0];have:h9 a=false:=by unfold h9;have:=of_decide_eq_true t;exact decide_eq_false #v[]
 rw[m,this];rfl;have k:3<=a.pts.length:=by have:=of_decide_eq_false t;lia
 have:h9 a=true:=decide_eq_true k;have r:(fz a.pts).length<=32:=bu (NO _ _) c.len;refine⟨a.pts,rfl,k,c.n2,λp o=>(c.B p o).b2,Sg.rP.of (c.simp k) c.gR.area,0,(fz a.pts).map λt=>[(t.1:Int),(t.2.1:Int),(t.2.2:Int)],?_,by rw[ai];lia,?_,?_⟩;rw[bz];rfl;intro g j;obtain⟨t,_,rfl⟩:=bh.mp j;simp;rw[ai,<- HM];refine q _ _ (fc (by rw[m,this];rfl)) b ?_;rw[HM];have:=Jt (l:=(fz a.pts).map λt=>[(t.1:Int),(t.2.1:Int),(t.2.2:Int)]) (by intro g j;obtain⟨t,_,rfl⟩:=bh.mp j;simp)
 rw[ai]at this;simp only[aL];lia
theorem Gh{s:Vbpcaa.Sheet}{f:Int->Vbpcaa.Shape}:∀{l:a5 Int},(∀i∈l,At s i (f i))->l.mapM (ik s)=.ok (l.map f)
|[],_=>rfl
|i::l,h=>by rw[Yy,c6 (h i #v[0]).2,jo,Gh λj hj=>h j (ah _ hj),jo];rfl
def rM(s:Vbpcaa.Sheet)(i:Int):Vbpcaa.Shape:=(s.get i.toNat).getD ⟨0,[]⟩
theorem tR{s:Vbpcaa.Sheet}{i:Int}(h:ig s i):At s i (rM s i):=by obtain⟨a,c,b⟩:=h;refine⟨c,?_⟩;unfold rM;rw[b];rfl
theorem E6{s:Vbpcaa.Sheet}{l:a5 Int}(h:∀i∈l,ig s i):l.all aV=true:=by rw[bf];intro i hi;obtain⟨a,b,_⟩:=h i hi;exact b
theorem w9{l:a5 Vbpcaa.Shape}(h:∀a∈l,CD a):(l.flatMap λa=>a.pts).length<=32*l.length:=by
 induction l with
|nil=>simp
|cons a l c=>have g:=c λb d=>h b (ah _ d);have f:=(h a #v[0]).len;rw[dW,aP,aL];lia
theorem Jp{l h:a5 Pt}(hl:l≠[])(H:Sg.m6 l h)(b:h.length<=32)(c:∀p∈h,B1 p){r:Nat}(a:r<=1000000000):CD ⟨r,h⟩:=
 ⟨Sg.PF hl H,b,c,a,λd=>Sg.PD hl H d⟩
inductive zJ:Prop
|mk (to:Int) (l:List Int) (_:l.length<=100) (_:Cl (.hull to l) (.lst [.int to,uz l]) (λs=>aV to=true/\∀i∈l,ig s i) ds S R)
theorem FY:VS e "call_hull" 5 zJ:=by
 refine xH e ["sheet","given","points","place","hull"] 2 e.zb.nd (λnd g=>(az (lA 2 nd (qL mh)) (az (eP (cI (aW (qv 1) aA)) (jM 3 nd) (bO (kP (i:=2) o8 iQ iP tX (cB (dS rfl e.mG e.rB (cp (dt e) e.nE g (qv 0) (cB (qv 3)))))))) (az (QS.sR 2 (dv (p5 g.units (gY e.B (cB (qv 2))) aA) (eI (cR (cB (fP e.C.uj)))) bM)) (az (bB 4 nd (aN (BE e) g (cB (qv 2)))) (az (dv (yY (gY e.B (cB (qv 4))) (fP e.C.tF)) (eI (cR (cB (fP e.C.uj)))) bM) (az (o6 (cp (o7 e) e.nE g (qv 0) (ju (aW (qv 1) aA) (yb e g (ju aA (qv 4)))))) (eI (cR (cB (gY e.B (cB (qv 4))))))))))))) λds S Q h=>?_;obtain⟨to,l,hl,s,rfl,rfl,c,⟨z,r⟩,q⟩:=h;have y:∀a∈l.map (rM s),CD a:=by intro a f;obtain⟨i,hi,rfl⟩:=bh.mp f;exact(tR (r i hi)).ok c
 have m:aY s (.hull to l)=(dH (decide (1<=(eh ((l.map (rM s)).flatMap λa=>a.pts)).length/\(eh ((l.map (rM s)).flatMap λa=>a.pts)).length<=eW)) (-5) >>= λ_=>.ok (s.set to.toNat (some ⟨0,eh ((l.map (rM s)).flatMap λa=>a.pts)⟩),[((eh ((l.map (rM s)).flatMap λa=>a.pts)).length:Int)])):=by simp only[aY,z,E6 r,Bool.and_self,sN,jo,Gh λi hi=>tR (r i hi)];rfl
 simp! only[uz];refine⟨#v[1],?_⟩;refine gQ l D.int (λk v=>∃x:Option Sl,v=[some (.sh .dU),some (.sh (.lst [.int to,uz l])),some (.ow ((((l.take k).map (rM s)).flatMap λa=>a.pts).map pD)),x,none]) (λR h=>h) ⟨none,rfl⟩ ?_ ?_;rintro k i v hk ⟨x,rfl⟩;have O:=(aJ.mp hk).1;have hi:=bp hk;have f:=tR (r i hi);have F:=f.ok c;have K:=w9 (l:=(l.take k).map (rM s)) λa f=>y a (by obtain⟨j,hj,rfl⟩:=bh.mp f;exact dR (di hj))
 rw[ai,bw]at K;have L:=F.len;ac_nf;refine⟨⟨_,rfl⟩,c.ne,dF c f ?_⟩;simp! only[mY,d5];refine⟨?_,?_⟩;rw[ai,ai];exact m5 #v[];rw[ck hk,bj,ja];exact⟨some (.sh (.int i)),#v[0]⟩;rintro v ⟨x,rfl⟩;rw[bY];generalize C:((l.map (rM s)).flatMap λa=>a.pts)=P at m;have B:∀p∈P,B1 p:=by intro p d;rw[<- C]at d;obtain⟨a,f,d⟩:=kz.mp d;exact(y a f).B p d
 have G:P.length<=4000:=by have:=w9 y;rw[C,ai]at this;lia
 simp! only[ai];refine⟨λt=>⟨#v[1],?_⟩,λt=>?_⟩;have I:P=[]:=jh.mp (by have:=of_decide_eq_true t;lia);refine q _ _ (c5 (n:=-5) ?_) c #v[0];rw[m,I];rfl;have u:P≠[]:=by rintro rfl;have:=of_decide_eq_false t;simp at this
 refine⟨P,rfl,u,G,λp d=>(B p d).b2,λh H N=>?_⟩;have A:=Sg.Ey u H;have M:=g9.mpr (Sg.Gu H);simp! only[d5,ai];refine⟨λw=>⟨#v[1],?_⟩,λw=>⟨c.ne,?_⟩⟩;refine q _ _ (c5 (n:=-5) ?_) c #v[0];have:¬(1<=(eh P).length/\(eh P).length<=eW):=by have:=of_decide_eq_true w;rw[A,bw];unfold eW;lia
 rw[m,decide_eq_false this];rfl;have E:h.length<=32:=by have:=of_decide_eq_false w;lia
 have he':eh P=h:=by rw[A,ic #v[]]
 rw[he']at m;have J:∀p∈h,B1 p:=λp d=>B p (Sg.AO H p d u);refine pj (o:=some ⟨0,h⟩) c z rfl ⟨#v[1],?_⟩;refine q _ _ (fc (by rw[m,decide_eq_true (show 1<=h.length/\h.length<=eW from⟨#v[],E⟩)];rfl)) (c.set λb e=>?_) #v[0];injection e with e;subst e;exact Jp u H E J #v[1]
inductive CJ:Prop
|mk (i j to:Int) (_:Cl (.sum i j to) (.lst [.int i,.int j,.int to]) (λs=>ig s i/\ig s j/\aV to=true) ds S R)
theorem IF:VS e "call_sum" 6 CJ:=by
 refine xH e ["sheet","given","one","other","radius","points"] 2 e.BO.nd (λnd g=>(az (bB 2 nd (cp (dt e) e.nE g (qv 0) (cB (aW (qv 1) aA)))) (az (bB 3 nd (cp (dt e) e.nE g (qv 0) (cB (aW (qv 1) aA)))) (az (dv (QW.qt (Bk (jm (d7 (aN (qO e) g (cB (dS rfl e.mG e.rB (qv 2)))))) (xZ (jm (d7 (aN (qO e) g (cB (dS rfl e.mG e.rB (qv 3))))))))) (eI (cR (cB (fP e.C.qW)))) bM) (az (bB 4 nd (gN (jS rfl e.mG e.Gp (qv 2)) (jS rfl e.mG e.Gp (qv 3)))) (az (dv (jm (d7 (aN (qN e) g (cB (qv 4))))) (eI (cR (cB (fP e.C.vU)))) bM) (az (bB 5 nd (aN (OU e) g (ju (dS rfl e.mG e.rB (qv 2)) (dS rfl e.mG e.rB (qv 3))))) (az (dv (yY (gY e.B (cB (qv 5))) (fP e.C.tF)) (eI (cR (cB (fP e.C.uj)))) bM) (az (dv (jm (d7 (aN (kN e) g (cB (qv 5))))) (eI (cR (cB (fP e.C.nU)))) bM) (az (o6 (cp (o7 e) e.nE g (qv 0) (ju (aW (qv 1) aA) (yb e g (ju (qv 4) (qv 5)))))) (eI (cR (cB (gY e.B (cB (qv 5)))))))))))))))) λds S Q h=>?_;obtain⟨i,j,to,s,rfl,rfl,f,⟨⟨a,w⟩,⟨b,v⟩,C⟩,q⟩:=h;have m:=w.ok f;have l:=v.ok f;have r:aY s (.sum i j to)=(dH (iD a.pts&&iD b.pts) (-3) >>= λ_=>dH (decide (0<=(a.r:Int)+(b.r:Int)/\(a.r:Int)+(b.r:Int)<=cK)) (-4) >>= λ_=>
   dH (decide ((eh (dX a.pts b.pts)).length<=eW)) (-5) >>= λ_=>dH ((eh (dX a.pts b.pts)).all dP) (-6) >>= λ_=>
   .ok (s.set to.toNat (some ⟨a.r+b.r,eh (dX a.pts b.pts)⟩),[((eh (dX a.pts b.pts)).length:Int)])):=by simp only[aY,w.1,v.1,C,Bool.and_self,sN,c6 w.2,c6 v.2,jo,oZ];rfl
 have B:dX a.pts b.pts≠[]:=by intro e;have:=Bd a.pts b.pts;rw[e]at this;have I:=g9.mpr m.gR.ne;have G:=g9.mpr l.gR.ne;have:=Qm I G;simp at *;lia
 ac_nf;refine⟨f.ne,dF f w ⟨f.ne,dF f v ?_⟩⟩;simp! only[mY];have rest:iD a.pts=true->iD b.pts=true->zF [D.int ((a.r:Int)+(b.r:Int))] λd=>Wo d λc=>
   ((!c)=true->1<=aQ/\Q (D.lst [D.int (-4)]) (nA s))/\((!c)=false->J0 [d5 a.pts,d5 b.pts] λd=>Gz [d] λL=>rGt L (D.int 32) λK=>Wo K λc=>
    (c=true->1<=aQ/\Q (D.lst [D.int (-5)]) (nA s))/\(c=false->tI [d] λJ=>Wo J λc=>((!c)=true->1<=aQ/\Q (D.lst [D.int (-6)]) (nA s))/\((!c)=false->nA s≠[]/\Mj [D.dU,D.int to,(D.int ((a.r:Int)+(b.r:Int))).yX d] (nA s) λx M=>Gz [d] λd=>1<=aQ/\Q (D.lst [d]) M))):=by
  intro z y;refine⟨(a.r:Int)+(b.r:Int),rfl,λt=>⟨#v[1],?_⟩,λt=>?_⟩;exact q _ _ (c5 (n:=-4) (by rw[r,z,y,oB t];rfl)) f #v[0];refine⟨a.pts,b.pts,rfl,m.gR.ne,l.gR.ne,m.len,l.len,m.B,l.B,λh H N=>?_⟩;have E:=Sg.Ey B H;simp! only[d5,ai];refine⟨λk=>⟨#v[1],?_⟩,λk=>?_⟩;refine q _ _ (c5 (n:=-5) ?_) f #v[0];have:¬((eh (dX a.pts b.pts)).length<=eW):=by have:=of_decide_eq_true k;rw[E,bw];unfold eW;lia
  rw[r,z,y,gZ t,decide_eq_false this];rfl;have A:h.length<=32:=by have:=of_decide_eq_false k;lia
  have he':eh (dX a.pts b.pts)=h:=by rw[E,ic #v[]]
  rw[he']at r;refine⟨h,rfl,λu=>⟨#v[1],?_⟩,λu=>⟨f.ne,?_⟩⟩;exact q _ _ (c5 (n:=-6) (by rw[r,z,y,gZ t,decide_eq_true (show h.length<=eW from A),oB u];rfl)) f #v[0];have F:=oq (gZ u);have g:a.r+b.r<=1000000000:=by have:=of_decide_eq_true (gZ t);unfold cK at this;lia
  refine pj (o:=some ⟨a.r+b.r,h⟩) f C ?_ ⟨#v[1],?_⟩;show D.yX (.int ((a.r:Int)+(b.r:Int))) (d5 h)=D.yX (.int (((a.r+b.r:Nat)):Int)) (d5 h);rw[iV];refine q _ _ (fc (by rw[r,z,y,gZ t,decide_eq_true (show h.length<=eW from A),gZ u];rfl)) (f.set λO e=>?_) #v[0];injection e with e;subst e;exact Jp B H A F g
 refine⟨a.pts,rfl,m.gR.ne,m.n2,λp h=>(m.B p h).b2,λt=>⟨#v[1],?_⟩,λt=>⟨b.pts,rfl,l.gR.ne,l.n2,λp h=>(l.B p h).b2,λk=>⟨#v[1],?_⟩,λk=>?_⟩⟩;exact q _ _ (c5 (n:=-3) (by rw[r,oB t];rfl)) f #v[0];exact q _ _ (c5 (n:=-3) (by rw[r,oB k,pC];rfl)) f #v[0];exact rest (gZ t) (gZ k)
theorem IQ{a:Vbpcaa.Shape}:∀{l:a5 (Nat×Vbpcaa.Shape)}{m:Nat}{e:Vbpcaa.Frac},lQ a l=some (m,e)->∃b,(m,b)∈l/\e=aT a.pts b.pts
|[],m,e,h=>by cases h
|(n,b)::l,m,e,h=>by
  unfold lQ at h;simp only at h;split at h;injection h with h;injection h with d c;exact⟨b,by rw[d];simp,c.symm⟩
  next j k h'=>split at h;injection h with h;injection h with d c;exact⟨b,by rw[d];simp,c.symm⟩;injection h with h;injection h with d c;subst d;subst c;obtain⟨i,f,g⟩:=IQ h';exact⟨i,ah _ f,g⟩
theorem Ei{a:Vbpcaa.Shape}{n:Nat}{b:Vbpcaa.Shape}{B:a5 (Nat×Vbpcaa.Shape)}(d:∀x∈B,(aT a.pts b.pts).le (aT a.pts x.2.pts)=true):
  ∀{A:a5 (Nat×Vbpcaa.Shape)},(∀x∈A,(aT a.pts x.2.pts).le (aT a.pts b.pts)=false)->lQ a (A++(n,b)::B)=some (n,aT a.pts b.pts)
|[],_=>by
  rw[fQ];unfold lQ;simp only;split;rfl
  next m e h=>obtain⟨j,i,rfl⟩:=IQ h;rw[if_pos (d (m,j) i)]
|(m,c)::A,hA=>by have f:=Ei (n:=n) d (A:=A) λx g=>hA x (ah _ g);rw[aU];unfold lQ;simp only[f];rw[hA (m,c) #v[0]];rfl
theorem Xd{s:Vbpcaa.Sheet}{x:Nat×Vbpcaa.Shape}(h:x∈s.all):x.1<64/\s.get x.1=some x.2:=by
 unfold Vbpcaa.Sheet.all at h;obtain⟨n,b,e⟩:=xM.mp h;have hn':n<64:=eM.mp b;cases g:s.get n with
|none=>rw[g]at e;cases e
|some a=>rw[g]at e;injection e with e;subst e;exact⟨hn',g⟩
theorem yL{s:Vbpcaa.Sheet}{x:Nat×Vbpcaa.Shape}(h:x∈s.all):At s (x.1:Int) x.2:=by obtain⟨b,a⟩:=Xd h;refine⟨?_,by simpa using a⟩;unfold aV Vbpcaa.PLACES;exact decide_eq_true ⟨#v[],#v[]⟩
inductive zI:Prop
|mk (i:Int) (_:Cl (.near i) (.lst [.int i]) (λs=>ig s i) ds S R)
theorem acI{f g:Int×Int}(h:decide (f.1*g.2<g.1*f.2)=false):kJ g f:=by have:=of_decide_eq_false h;unfold kJ;lia
inductive NRI (i:Int) (n0:Nat) (b0:Vbpcaa.Shape) (R:List (Nat×Vbpcaa.Shape)) (a:Vbpcaa.Shape) (k:Nat) (ρ:Env):Prop
|mk (A:List (Nat×Vbpcaa.Shape)) (n:Nat) (b:Vbpcaa.Shape) (B:List (Nat×Vbpcaa.Shape)) (f:Int×Int) (x y:Option Sl) (_:ρ=[some (.sh .dU),some (.sh (.lst [.int i])),some (.sh (d5 a.pts)),some (.sh (.lst (D.int (n0:Int)::(R.map (·.1)).map λ(n:Nat)=>D.int (n:Int)))),some (.sh (.int (n:Int))),some (.sh (fD f)),x,y])
  (_:(n0,b0)::R.take k=A++(n,b)::B) (_:∀x∈A,(aT a.pts x.2.pts).le (aT a.pts b.pts)=false) (_:∀x∈B,(aT a.pts b.pts).le (aT a.pts x.2.pts)=true) (_:jK f) (_:kJ f (fr (aT a.pts b.pts))) (_:kJ (fr (aT a.pts b.pts)) f)
theorem FX:VS e "call_near" 8 zI:=by
 refine xH e ["sheet","given","points","others","nearest","least","place","distance"] 2 e.y9.nd (λnd p=>(az (bB 2 nd (dS rfl e.mG e.rB (cp (dt e) e.nE p (qv 0) (cB (aW (qv 1) aA))))) (az (ou 3 (own:=[("place",6)]) nd (cI (Bn (yo e) e.nE p (qv 0))) (λ_ _ _ _ _=>(jM 6 nd)) (λ_ _ _ _ _=>(AI (wu p.units (qv 6) (aW (qv 1) aA)))) (λ_ _ _ _ _=>(qv 6))) (az (dv (p5 p.units (gY e.B (cB (qv 3))) aA) (eI (cR (cB (fP e.C.CF)))) bM) (az (bB 4 nd (aW (qv 3) aA)) (az (bB 5 nd (aN (iG e) p (ju (qv 2) (dS rfl e.mG e.rB (cp (dt e) e.nE p (qv 0) (cB (qv 4))))))) (az (eP (cI (fO (qv 3) (fL aA) iY)) (jM 6 nd) (az (bB 7 nd (aN (lB e) p (rp (qv 2) (dS rfl e.mG e.rB (cp (dt e) e.nE p (qv 0) (cB (qv 6)))) (qv 5)))) (bO (dv (d7 (aN (mi e) p (ju (qv 7) (qv 5)))) (az (bB 4 nd (qv 6)) (bO (bB 5 nd (qv 7)))) bM)))) (eI (pF (cR (cB (qv 4))) (mf (NS rfl) xj rfl e.B.wY #v[2] (cB (aN (sG e) p (cB (qv 5)))))))))))))) λds S Q h=>?_;obtain⟨i,s,rfl,rfl,j,⟨a,H⟩,q⟩:=h;have C:=H.ok j;obtain⟨ni,ao,aw,ay⟩:=yk H.1;generalize U:(s.all.filter λx=>x.1 != i.toNat)=L;have F:∀x∈L,x∈s.all:=λx r=>by rw[<- U]at r;exact(eR.mp r).1
 have G:aY s (.near i)=(match lQ a L with
  |some (n,d)=>.ok (s,(n:Int)::zZ d)
  |none=>.error (-9)):=by simp only[aY,cJ H.1,c6 H.2,jo,U];rfl
 have Y:(lF s).filter (λ(n:Nat)=>!decide ((n:Int)=i))=L.map (·.1):=by rw[<- xo,<- U,List.filter_map];congr 1;apply Ur;intro x _;show(!decide ((x.1:Int)=i))=(x.1 != i.toNat);rw[ao];apply Sg.cW;simp;lia
 ac_nf;refine⟨j.ne,dF j H ?_⟩;simp! only[mY];refine tZ (lF s) (λ(n:Nat)=>D.int (n:Int)) (λ(n:Nat)=>D.int (n:Int)) (λ(n:Nat)=>!decide ((n:Int)=i)) rfl (λR h=>?_) (by have:=qQ s;exact iO #v[]) (λn hn R h=>?_) ?_;ac_nf;exact⟨j.ne,s,rfl,rfl,j,h⟩;exact h _ (λRT ar=>ar) (λ_ RE as=>as);rw[Y];have Z:L.length<=64:=by
  have V:(L.map (·.1)).length<=(lF s).length:=by rw[<- Y];exact fW _ _
  have h2:=qQ s;rw[ai]at V;lia
 match aB:L,G,Z,F with
|[],G,_,_=>ac_nf;refine⟨λ_=>⟨#v[1],q _ _ (c5 (n:=-9) G) j #v[0]⟩,λt=>absurd t #v[1]⟩
|(l,b0)::R,G,Z,F=>
  have af:cutD (D.int (l:Int)::(R.map (·.1)).map λ(n:Nat)=>D.int (n:Int)) (some 1) none=(R.map (·.1)).map λ(n:Nat)=>D.int (n:Int):=NN _;have ad:=yL (F (l,b0) #v[0]);have T:=ad.ok j;simp! only[af,a9];refine⟨λt=>absurd (of_decide_eq_true t) #v[],λt=>⟨j.ne,dF j ad ?_⟩⟩;simp! only[mY];refine⟨a.pts,b0.pts,rfl,C.gR.ne,T.gR.ne,C.n2,T.n2,C.B,T.B,?_⟩;have O:∀x∈(l,b0)::R,jK (fr (aT a.pts x.2.pts)):=λx r=>by have:=(yL (F x r)).ok j;exact qo C.gR.ne this.gR.ne C.B this.B
  refine gQ R (λx=>D.int (x.1:Int)) (NRI i l b0 R a) (λR' h=>?_) ?_ ?_ ?_;simp! only[af];rw[bz];exact h;exact⟨[],l,b0,[],fr (aT a.pts b0.pts),none,none,rfl,rfl,#v[0],#v[0],O (l,b0) #v[0],kJ.refl _,kJ.refl _⟩;rintro k ⟨m,c⟩ ρ hk ⟨A,n,b,B,f,x,y,rfl,e,K,J,E,N,M⟩;have hm:=bp hk;have hc:=yL (F (m,c) (ah _ hm));have P:=hc.ok j;have nb:(n,b)∈(l,b0)::R:=by
   have:(n,b)∈(l,b0)::R.take k:=by rw[e];simp
   rcases aq.mp this with w|w;rw[w];simp;exact ah _ (di w)
  have W:=O _ nb;have I:=O (m,c) (ah _ hm);ac_nf;refine⟨j.ne,dF j hc ?_⟩;simp! only[mY];refine⟨a.pts,c.pts,f,rfl,C.gR.ne,P.gR.ne,C.n2,P.n2,C.B,P.B,E,λg u=>⟨g,f,rfl,u.g.OE,E.OE,λt=>?_,λt=>?_⟩⟩;have t':=of_decide_eq_true t;have X:kJ (fr (aT a.pts c.pts)) g:=by rcases u.o with o|o;rw[o]at t';lia;exact o
  have cb:(aT a.pts b.pts).le (aT a.pts c.pts)=false:=by
   cases w:(aT a.pts b.pts).le (aT a.pts c.pts) with
  |false=>rfl
  |true=>exfalso;have V:=lD.mpr w;have h2:=kJ.trans E W I N V;have h3:=kJ.trans E I u.g h2 X;unfold kJ at h3;lia
  refine⟨A++(n,b)::B,m,c,[],g,_,_,rfl,?_,?_,#v[0],u.g,u.d,X⟩;rw[ck hk,<- aU,e];intro x r;have xm:x∈(l,b0)::R:=by
   have:x∈(l,b0)::R.take k:=by rw[e];exact r
   rcases aq.mp this with w|w;rw[w];simp;exact ah _ (di w)
  have gx:=O x xm;cases w:(aT a.pts x.2.pts).le (aT a.pts c.pts) with
 |false=>rfl
 |true=>
   exfalso;have bx:(aT a.pts b.pts).le (aT a.pts x.2.pts)=true:=by rcases aI.mp r with z|z;exact Sg.le_total (K x z);rcases aq.mp z with z|z;rw[z];exact Sg.le_refl _;exact J x z
   have:=lD.mp (kJ.trans W gx I (lD.mpr bx) (lD.mpr w));rw[this]at cb;cases cb
  have t':=acI t;refine⟨A,n,b,B++[(m,c)],f,_,_,rfl,?_,K,?_,E,N,M⟩;rw[ck hk,<- aU,e];simp;intro x r;rcases aI.mp r with z|z;exact J x z;simp at z;subst z;exact lD.mp (kJ.trans W E I M (kJ.trans E u.g I t' u.d));rintro ρ ⟨A,n,b,B,f,x,y,rfl,e,K,J,E,N,M⟩;rw[bY]at e;have ap:(n,b)∈(l,b0)::R:=by rw[e];simp
  have an:=(yL (F _ ap)).ok j;obtain⟨u,v,rfl,aa,am⟩:=Sm E;rw[e,Ei J K]at G;ac_nf;refine⟨#v[1],u,v,rfl,aa,am,?_⟩;rw[Rr C.gR.ne an.gR.ne aa N M];simp! only[fD];exact⟨#v[1],q _ _ (fc G) j (by simp[zZ])⟩
def prs(c:Nat)(L:a5 (Nat×Vbpcaa.Shape)):a5 (Nat×Nat):=L.flatMap λx=>(L.filter λy=>decide ((x.1:Int)<(y.1:Int))&&!Vbpcaa.apart x.2 y.2 c).map λy=>(x.1,y.1)
theorem MP(c:Nat):∀(R A:a5 (Nat×Vbpcaa.Shape)),(A++R).Pairwise (λx y=>x.1<y.1) →
  (R.flatMap λx=>((A++R).filter λy=>decide ((x.1:Int)<(y.1:Int))&&!Vbpcaa.apart x.2 y.2 c).map λy=>(x.1,y.1))=dG c R
|[],A,_=>rfl
|(n,a)::R,A,pw=>by
  have e:A++(n,a)::R=(A++[(n,a)])++R:=#v[0]
  have d:=MP c R (A++[(n,a)]) (by rw[<- e];exact pw);rw[<- e]at d;rw[dW,d];show _=((R.filter λx=>!Vbpcaa.apart a x.2 c).map λx=>(n,x.1))++dG c R;congr 2;rw[vc,bH]at pw;rw[jz,jj #v[0]];have f:(A.filter λy=>decide (((n,a).1:Int)<(y.1:Int))&&!Vbpcaa.apart (n,a).2 y.2 c)=[]:=by
   rw[Kq];intro y b;have:=pw.2.2 y b (n,a) #v[0];have h:¬((n:Int)<(y.1:Int)):=by simp at this;lia
   simp[h]
  rw[f,fQ];apply Ur;intro y b;have:=pw.2.1.1 y b;have h:((n:Int)<(y.1:Int)):=by simp at this;lia
  simp[h]
theorem aa8(s:Vbpcaa.Sheet):s.all.Pairwise (λx y=>x.1<y.1):=by
 unfold Vbpcaa.Sheet.all;rw[List.pairwise_filterMap];refine Fh ?_ (List.pairwise_lt_range (n:=Vbpcaa.PLACES));intro m n h b c g a;cases f:s.get m with
|none=>rw[f]at c;cases c
|some x=>
  cases d:s.get n with
 |none=>rw[d]at a;cases a
 |some y=>rw[f]at c;rw[d]at a;injection c with c;injection a with a;subst c;subst a;exact h
theorem ZM(s:Vbpcaa.Sheet)(c:Nat):prs c s.all=dG c s.all:=MP c s.all [] (aa8 s)
inductive xC:Prop
|mk (c:Int) (_:Cl (.close c) (.lst [.int c]) (λ_=>True) ds S R)
theorem LG(s:Vbpcaa.Sheet):nsD (lF s)=.lst (s.all.map λx=>D.int (x.1:Int)):=by rw[<- xo,nsD,bz];rfl
theorem Cc{α β:Type}(f:α->a5 β){l:a5 α}(h:∀a∈l,(f a).length<=64):(l.flatMap f).length<=64*l.length:=by
 induction l with
|nil=>simp
|cons a l c=>have i:=c λb d=>h b (ah _ d);have g:=h a #v[0];rw[dW,aP,aL];lia
theorem Xe(s:Vbpcaa.Sheet):s.all.length<=64:=by have:=qQ s;rw[<- xo,ai]at this;exact this
theorem EN(c:Nat):∀(l:a5 (Nat×Vbpcaa.Shape)),2*(dG c l).length<=l.length*l.length
|[]=>by simp[dG]
|(n,a)::l=>by
  have b:=EN c l;have d:((l.filter λx=>!Vbpcaa.apart a x.2 c).map λx=>(n,x.1)).length<=l.length:=by rw[ai];exact fW _ _
  have e:(l.length+1)*(l.length+1)=l.length*l.length+2*l.length+1:=by rw[Nat.add_mul,Nat.mul_add];lia
  show 2*(((l.filter λx=>!Vbpcaa.apart a x.2 c).map λx=>(n,x.1))++dG c l).length<=_;rw[aP,aL,e];lia
def L4(n:Nat)(l:a5 (Nat×Vbpcaa.Shape))(x:Nat×Vbpcaa.Shape):a5 (Nat×Nat):=(l.filter λy=>decide ((x.1:Int)<(y.1:Int))&&!Vbpcaa.apart x.2 y.2 n).map λy=>(x.1,y.1)
def prD(p:Nat×Nat):D:=D.tup [.int (p.1:Int),.int (p.2:Int)]
theorem Df:VS e "call_close" 9 xC:=by
 refine xH e ["sheet","given","places","pairs","i","j"] 2 e.wR.nd (λnd o=>(az (dv (jm (d7 (aN (oA e) o (cB (aW (qv 1) aA))))) (eI (cR (cB (fP e.C.qY)))) bM) (az (bB 2 nd (Bn (yo e) e.nE o (qv 0))) (az (lA 3 nd (qL mh)) (az (eP (cI (qv 2)) (jM 4 nd) (bO (eP (cI (qv 2)) (jM 5 nd) (bO (dv (QW.qt (x9 (uN (qv 4) (qv 5)) (tU (jm (d7 (aN (wH e) o (rp (cp (dt e) e.nE o (qv 0) (cB (qv 4))) (cp (dt e) e.nE o (qv 0) (cB (qv 5))) (aW (qv 1) aA)))))))) (bO (kP (i:=3) iH dr dk j9 (cB (i6 (ju (qv 4) (qv 5)))))) bM))))) (bO (QS.sR 3 (qK (aN (BF e) o (cB (qv 3))))))))))) λds S Q h=>?_;obtain⟨c,s,rfl,rfl,d,_,q⟩:=h;have v:aY s (.close c)=(dH (decide (1<=c/\c<=cK)) (-8) >>= λ_=>.ok (s,((dG c.toNat s.all).length:Int)::(dG c.toNat s.all).flatMap λx=>[(x.1:Int),(x.2:Int)])):=by simp only[aY,pI];rfl
 have w:=Xe s;ac_nf;refine⟨c,rfl,λt=>⟨#v[1],q _ _ (c5 (n:=-8) (by rw[v,oB t];rfl)) d #v[0]⟩,λt=>?_⟩;obtain⟨n,rfl,H,E,e⟩:=Cj (gZ t);rw[e]at v;refine⟨d.ne,s,rfl,rfl,d,#v[1],?_⟩;rw[LG];have A:∀x:Nat×Vbpcaa.Shape,(L4 n s.all x).length<=64:=λx=>by rw[L4,ai];exact bu (fW _ _) w
 refine gQ s.all (λx=>D.int (x.1:Int)) (λk f=>∃x y:Option Sl,f=[some (.sh .dU),some (.sh (.lst [.int (n:Int)])),some (.sh (.lst (s.all.map λx=>D.int (x.1:Int)))),some (.ow (((s.all.take k).flatMap (L4 n s.all)).map prD)),x,y]) (λR h=>h) ⟨none,none,rfl⟩ ?_ ?_;rintro k ⟨i,a⟩ f hk ⟨x,y,rfl⟩;have K:=(aJ.mp hk).1;have C:=yL (bp hk);have u:=Cc (L4 n s.all) (l:=s.all.take k) λx _=>A x;rw[bw]at u;ac_nf;refine gQ s.all (λx=>D.int (x.1:Int)) (λj f=>∃y:Option Sl,f=[some (.sh .dU),some (.sh (.lst [.int (n:Int)])),some (.sh (.lst (s.all.map λx=>D.int (x.1:Int)))),some (.ow ((((s.all.take k).flatMap (L4 n s.all))++L4 n (s.all.take j) (i,a)).map prD)),some (.sh (.int (i:Int))),y]) (λR h=>h) ⟨y,by rw[show L4 n (s.all.take 0) (i,a)=[] from rfl,cG]⟩ ?_ ?_;rintro j ⟨m,b⟩ f hj ⟨y,rfl⟩;have L:=(aJ.mp hj).1;have B:=yL (bp hj);have M:(L4 n (s.all.take j) (i,a)).length<=64:=by rw[L4,ai];exact bu (fW _ _) (by rw[bw];lia)
 have step:∀z:Bool,(decide ((i:Int)<(m:Int))&&!Vbpcaa.apart a b n)=z->L4 n (s.all.take (j+1)) (i,a)=(L4 n (s.all.take j) (i,a))++(if z then[(i,m)] else[]):=by
  intro z hz;rw[L4,L4,ck hj,jz,bj];congr 1;cases z with
 |true=>rw[rL];simp only[hz];rfl
 |false=>rw[rL];simp only[hz];rfl
 ac_nf;refine⟨λr=>⟨d.ne,dF d C ⟨d.ne,dF d B ⟨a,b,n,rfl,C.ok d,B.ok d,E,λp=>?_,λp=>?_⟩⟩⟩,λr=>?_⟩;refine⟨⟨_,rfl⟩,Bc,?_,?_⟩;rw[ai,aP];exact aR (show _<5000 by lia) (m5 (aS _));rw[step true (by rw[r,p];rfl),if_pos rfl,<- dj,bj];exact⟨rfl,some (.sh (.int (m:Int))),by rw[bj,bj];rfl⟩;rw[step false (by rw[p,pC]),if_neg #v[1],cG];exact⟨rfl,_,rfl⟩;rw[step false (by rw[r,kl]),if_neg #v[1],cG];exact⟨_,rfl⟩;rintro f ⟨y,rfl⟩;refine⟨rfl,?_⟩;rw[bY,ck hk,ja];simp only[dW,AX,cG];exact⟨_,_,rfl⟩;rintro f ⟨x,y,rfl⟩;rw[bY];have J:(s.all.flatMap (L4 n s.all))=dG n s.all:=ZM s n;have u:=Cc (L4 n s.all) (l:=s.all) λx _=>A x;rw[J]at u⊢;ac_nf;have I:((dG n s.all).flatMap λx=>[(x.1:Int),(x.2:Int)])=((dG n s.all).map λx=>[(x.1:Int),(x.2:Int)]).flatten:=UO ..;refine⟨0,(dG n s.all).map λx=>[(x.1:Int),(x.2:Int)],?_,by rw[ai];lia,?_,?_⟩;rw[bz];rfl;intro g G;obtain⟨z,_,rfl⟩:=bh.mp G;simp;rw[ai,<- I];refine q _ _ (fc (by rw[v,gZ t];rfl)) d ?_;have:∀l:a5 (Nat×Nat),(l.flatMap λx=>[(x.1:Int),(x.2:Int)]).length=2*l.length:=by
  intro l
  induction l with
 |nil=>rfl
 |cons z l F=>rw[dW,aP,F];simp;lia
 rw[aL,this];have H:=EN n s.all;have E:s.all.length*s.all.length<=64*64:=pJ w w;lia
theorem aa4{a:Vbpcaa.Shape}(h:CD a){b:Sg.Bo}(d:eK a=some b):bx a.pts=b:=by
 rcases T1 (a:=a) with⟨p,q,u,t,rfl⟩|⟨g,m⟩;have F:Sg.vR [p,q,u,t]:=h.gR;have c:(if p.y=q.y/\q.x=u.x/\u.y=t.y/\t.x=p.x then some (p.x,p.y,u.x,u.y) else none)=some b:=d;split at c
 next f=>
  injection c with c;subst c;have l1:=Sg.c7.mp (F.low q #v[0]);have l2:=Sg.c7.mp (F.low u #v[0]);have l3:=Sg.c7.mp (F.low t #v[0]);simp only[n6]at l1 l2 l3;show(nz [p.x,q.x,u.x,t.x],nz [p.y,q.y,u.y,t.y],lr [p.x,q.x,u.x,t.x],lr [p.y,q.y,u.y,t.y])=_;obtain⟨l,k,j,i⟩:=f;have d1:p.x<=u.x:=#v[]
  have d2:p.y<=u.y:=#v[]
  simp only[nz,lr,bJ,Yz,Prod.mk.injEq,<- l,k,<- j,i,YB d1,YB d2,Xw d1,Xw d2,DS d1,DS d2,Xv d1,Xv d2,Int.min_self,Int.max_self,and_self]
 cases c;rw[g]at d;cases d
theorem W4{l:a5 Vbpcaa.Shape}:(∀a∈l,CD a)->(l.all λa=>(eK a).isSome)=true->l.filterMap eK=l.map λa=>bx a.pts:=by
 intro d h
 induction l with
|nil=>rfl
|cons a l f=>rw[gq,aZ]at h;obtain⟨b,c⟩:=pT.mp h.1;rw[qG c,a9,aa4 (d a #v[0]) c,f (λb c=>d b (ah _ c)) h.2]
theorem T2{l:a5 Vbpcaa.Shape}(h:(l.all λa=>(eK a).isSome)=false):((l.filterMap eK).length == l.length)=false:=by
 have lt:(l.filterMap eK).length<l.length:=by
  induction l with
 |nil=>simp at h
 |cons a l c=>
   cases e:eK a with
  |none=>rw[Hn e];have:=List.length_filterMap_le eK l;simp only[aL];lia
  |some b=>rw[qG e];rw[gq,e]at h;have:=c #v[h];simp only[aL];lia
 rw[beq_eq_false_iff_ne];lia
inductive xB:Prop
|mk (l:List Int) (_:l.length<=100) (_:Cl (.cover l) (.lst [uz l]) (λs=>∀i∈l,ig s i) ds S R)
theorem ads{l:a5 Pt}(h:l≠[]):(bx l).2.1<=(bx l).2.2.2:=by obtain⟨p,a⟩:=fV l h;have:=Sg.fG a;exact iX this.2.2.1 this.2.2.2
theorem De:VS e "call_cover" 3 xB:=by
 refine xH e ["sheet","given","shapes","shape","place"] 2 e.wQ.nd (λnd k=>(az (ou 2 (own:=[("place",4)]) nd (cI (aW (qv 1) aA)) (λ_ _ _ _ _=>(jM 4 nd)) (λ_ _ _ _ _=>jG) (λ_ _ _ _ _=>(cp (dt e) e.nE k (qv 0) (cB (qv 4))))) (az (eP (cI (qv 2)) (jM 3 nd) (bO (dv (jm (d7 (aN (OY e) k (cB (qv 3))))) (eI (cR (cB (fP e.C.qW)))) bM))) (eI (cR (cB (aN (Aa e) k (cB (su (own:=[("shape",3)]) nd (cI (qv 2)) (λ_ _ _ _ _=>(jM 3 nd)) (λ_ _ _ _ _=>jG) (λ_ _ _ _ _=>(aN (kY e) k (cB (dS rfl e.mG e.rB (qv 3)))))))))))))) λds S Q h=>?_;obtain⟨l,hl,s,rfl,rfl,j,m,q⟩:=h;have g:∀a∈l.map (rM s),CD a:=by intro a c;obtain⟨i,hi,rfl⟩:=bh.mp c;exact(tR (m i hi)).ok j
 have o:aY s (.cover l)=(dH (((l.map (rM s)).filterMap eK).length == (l.map (rM s)).length) (-3) >>= λ_=>.ok (s,[uJ ((l.map (rM s)).filterMap eK)])):=by simp only[aY,E6 m,sN,jo,Gh λi hi=>tR (m i hi)];rfl
 simp! only[uz];refine mn l D.int (λi=>mY (rM s i)) rfl (λR h=>h) (iO #v[]) (λi hi u h=>?_) ?_;have r:nA s≠[]/\Ml [.dU,.int i] (nA s) u:=⟨j.ne,dF j (tR (m i hi)) h⟩;exact r;have B:(l.map λi=>mY (rM s i))=(l.map (rM s)).map mY:=by rw[bz];rfl
 rw[B];generalize w:l.map (rM s)=P at o g;have C:P.length<=100:=by rw[<- w,ai];exact hl
 refine jI P mY (λp=>∃x:Option D,p=[some (.sh .dU),some (.sh (.lst [uz l])),some (.sh (.lst (P.map mY))),x.map Sl.sh,none]) (λa=>(eK a).isSome) (D.lst [.int (-3)]) (λR h=>h) ⟨none,rfl⟩ ?_ ?_ ?_;rintro a c p ⟨x,rfl⟩ N z y;ac_nf;refine⟨a,rfl,g a c,λt=>⟨#v[1],y (oB t)⟩,λt=>z (gZ t) _ ⟨some (mY a),rfl⟩⟩;intro e;exact q _ _ (c5 (n:=-3) (by rw[o,T2 e];rfl)) j #v[0];rintro p ⟨x,rfl⟩ e;have A:=W4 g e;rw[A,ai,beq_self_eq_true,sN,jo]at o;ac_nf;refine mn P mY (λa=>bD (bx a.pts)) (by cases x<;>rfl) (λR h=>h) (iO #v[]) (λa c u h=>?_) ?_;have f:=g a c;have r:J9 [d5 a.pts] λd=>u d (nA s):=⟨a.pts,rfl,f.gR.ne,f.n2,h⟩;exact r;have q':Q (D.lst [D.int (uJ (P.map λa=>bx a.pts))]) (nA s):=q _ _ (fc o) j #v[0];refine⟨P.map λ(a:Vbpcaa.Shape)=>bx a.pts,by rw[bz];rfl,by rw[ai];lia,?_,#v[1],q'⟩;intro b v;obtain⟨a,c,rfl⟩:=bh.mp v;have f:=g a c;exact⟨Cz f.gR.ne f.B,ads f.gR.ne⟩
open Vbpcaa (Call)
def ent:a5 (Nat×Nat×a5 Nat×a5 Nat):=
 [(2,1,[0],[]),(1,0,[0],[]),(2,0,[0,1],[0]),(3,0,[0],[0]),(4,0,[0],[0]),(2,0,[0],[0]),(2,0,[0],[0]),(1,0,[0],[0]),(1,0,[0],[0]),(1,0,[0],[0]),(1,0,[0],[0]),(1,0,[0],[0]),
 (2,0,[0,1],[0,1]),(2,0,[0,1],[0,1]),(2,0,[0,1],[0,1]),(3,0,[0,1],[0,1]),(3,0,[0],[0]),(3,0,[0,1],[0,1]),(1,1,[0,1],[1]),(3,0,[0,1,2],[0,1]),(1,0,[0],[0]),(1,0,[],[]),(0,1,[0],[0]),(1,0,[0],[0]),(0,0,[],[])]
def ksD(l:a5 Nat):D:=.kt (l.map λ(n:Nat)=>D.int (n:Int))
def HZ(e:Nat×Nat×a5 Nat×a5 Nat)(a:ao):D:=.kt [.int (e.1:Int),.int (e.2.1:Int),ksD e.2.2.1,ksD e.2.2.2,.fn a]
def KJ(ad:Nat->ao):Nat->a5 (Nat×Nat×a5 Nat×a5 Nat)->Tab
|_,[]=>[]
|k,e::r=>((k:Int),HZ e (ad k))::KJ ad (k+1) r
def tabOf(ad:Nat->ao):Tab:=KJ ad 0 ent
theorem HP(ad:Nat->ao):∀(r:a5 (Nat×Nat×a5 Nat×a5 Nat))(k j:Nat)(e:Nat×Nat×a5 Nat×a5 Nat),r[j]? = some e->(KJ ad k r).lookup ((k+j:Nat):Int)=some (HZ e (ad (k+j)))
|[],k,j,e,h=>by simp at h
|x::r,k,0,e,h=>by simp at h;subst h;simp[KJ,ki]
|x::r,k,j+1,e,h=>by
  have a:=HP ad r (k+1) j e #v[h];rw[show k+1+j=k+(j+1) by lia]at a;unfold KJ;rw[f9];have:((((k+(j+1):Nat):Int)) == (k:Int))=false:=by rw[beq_eq_false_iff_ne];lia
  rw[this];exact a
theorem Fs(ad:Nat->ao){j:Nat}{e:Nat×Nat×a5 Nat×a5 Nat}(h:ent[j]? = some e):(tabOf ad).lookup (j:Int)=some (HZ e (ad j)):=by have:=HP ad ent 0 j e h;simpa [tabOf] using this
def Fk:a5 FS:=[CK,xD,zN,xx,zG,zL,zK,zH,xy,CM,zO,va,zM,CL,xw,xE,xA,u9,zJ,CJ,zI,xC,xB,qA,CN]
def FTo(ad:Nat->ao)(a:ao):FS:=match(cf 25).find? (λk=>decide (ad k=a)) with
|some k=>Fk.getD k λ_ _ _=>False
|none=>λ_ _ _=>False
def Yf(ad:Nat->ao):a5 ao:=(cf 25).map ad
theorem Uj{ad:Nat->ao}(inj:∀i<25,∀j<25,ad i=ad j->i=j){k:Nat}(hk:k<25):FTo ad (ad k)=Fk.getD k λ_ _ _=>False:=by
 unfold FTo;have:(cf 25).find? (λj=>decide (ad j=ad k))=some k:=by
  rw[AY];refine⟨#v[0],k,by simpa using hk,#v[0],λj hj=>?_⟩;simp only[QC];have:ad j≠ad k:=λe=>by have:=inj j #v[] k hk e;lia
  simp[this]
 rw[this]
inductive oG:Prop
|mk (k:Nat) (e:_) (_:ds=[.int (k:Int)]) (_:ent[k]? = some e) (_:Q (.int (e.1:Int)))
def pA(P:bC)(w:cu)(K:au)(G:Gb)(aC:ao)(ad:Nat->ao):Prop:=∃(o:Obj)(a:Array jF)(b:Nat)(vs:a5 (Key×ak)),K.lookup aC=some o/\o.ExactDict/\o.data=.dict a b/\KeysOf (fq P w) a/\Mn (fq P w) a.toList vs/\(vs.map (·.1)).Nodup ∧
  ∀n d,(tabOf ad).lookup n=some d->∃u v,valueAt vs (.inl n)=some u/\RelV v u/\abd G d v
theorem MC(e:Qz P w K mg base cS cT fI fJ aC fs)(q:pA P w K ⟨K,cS,cT⟩ aC (qy fs)):T9 P w K mg base ⟨K,cS,cT⟩ (tabOf (qy fs)) (Yf (qy fs)) (FTo (qy fs)) 9:=by
 obtain⟨k,o,p,vs,j,h,g,f,d,c,b⟩:=q;refine⟨⟨aC,k,o,p,vs,e.n _ _ e.kC,j,h,g,f,d,c,b⟩,λa m=>?_⟩;obtain⟨i,hi,rfl⟩:=bh.mp m;have hi':i<25:=eM.mp hi;rw[Uj (NW e.nd e.ln) hi']
 match i,hi' with
|0,_=>exact(IG e).at (e.n _ _ e.BP.1) #v[1]
|1,_=>exact(Dg e).at (e.n _ _ e.wU.1) #v[1]
|2,_=>exact(F3 e).at (e.n _ _ e.zg.1) #v[1]
|3,_=>exact(C8 e).at (e.n _ _ e.wM.1) #v[1]
|4,_=>exact(FV e).at (e.n _ _ e.y6.1) #v[1]
|5,_=>exact(F1 e).at (e.n _ _ e.ze.1) #v[1]
|6,_=>exact(FZ e).at (e.n _ _ e.zd.1) #v[1]
|7,_=>exact(FW e).at (e.n _ _ e.y8.1) #v[1]
|8,_=>exact(C9 e).at (e.n _ _ e.wN.1) #v[1]
|9,_=>exact(II e).at (e.n _ _ e.BR.1) #v[1]
|10,_=>exact(F4 e).at (e.n _ _ e.zh.1) #v[1]
|11,_=>exact(BH e).at (e.n _ _ e.uT.1) #v[1]
|12,_=>exact(F2 e).at (e.n _ _ e.zf.1) #v[1]
|13,_=>exact(IH e).at (e.n _ _ e.BQ.1) #v[1]
|14,_=>exact(C7 e).at (e.n _ _ e.wL.1) #v[1]
|15,_=>exact(Dh e).at (e.n _ _ e.wV.1) #v[1]
|16,_=>exact(Dc e).at (e.n _ _ e.wO.1) #v[1]
|17,_=>exact(BG e).at (e.n _ _ e.uS.1) #v[1]
|18,_=>exact(FY e).at (e.n _ _ e.zb.1) #v[1]
|19,_=>exact(IF e).at (e.n _ _ e.BO.1) #v[1]
|20,_=>exact(FX e).at (e.n _ _ e.y9.1) #v[1]
|21,_=>exact(Df e).at (e.n _ _ e.wR.1) #v[1]
|22,_=>exact(De e).at (e.n _ _ e.wQ.1) #v[1]
|23,_=>exact(wG e).at (e.n _ _ e.qh.1) #v[1]
|24,_=>exact(IJ e).at (e.n _ _ e.BS.1) #v[1]
|n+25,l=>exact absurd l #v[]
theorem uu(b:pA P w K ⟨K,cS,cT⟩ aC (qy fs)):VP e "whole_numbers_of" 1 oG:=by refine lX e ["call"] 1 e.vG (λnd c=>(eI (aW (Bp (MC e b) rfl (qv 0)) aA))) λds Q h=>?_;obtain⟨k,e,rfl,a,q⟩:=h;simp! only[Fs (qy fs) a,HZ];exact q
inductive yO:Prop
|mk (k:Nat) (e:_) (_:ds=[.int (k:Int)]) (_:ent[k]? = some e) (_:Q (.int (e.2.1:Int)))
theorem K8(b:pA P w K ⟨K,cS,cT⟩ aC (qy fs)):VP e "rows_of" 1 yO:=by refine lX e ["call"] 1 e.O9 (λnd c=>(eI (aW (Bp (MC e b) rfl (qv 0)) aA))) λds Q h=>?_;obtain⟨k,e,rfl,a,q⟩:=h;simp! only[Fs (qy fs) a,HZ];exact q
abbrev It:=Int ⊕ a5 Int
def gD:It->D
|.inl i=>.int i
|.inr l=>uz l
def one:It->a5 Int
|.inl i=>[i]
|.inr l=>l
def UI(b:a5 It)(a:a5 Nat):a5 Int:=a.flatMap λk=>one (b.getD k (.inl 0))
inductive J4:Prop
|mk (gs:List It) (ks:List Nat) (_:ds=[.lst (gs.map gD),ksD ks]) (_:(∀k∈ks,k<gs.length)) (_:ks.length<=10) (_:(∀g∈gs,(one g).length<=200)) (_:Q (uz (UI gs ks)))
theorem MS{b:a5 It}(h:∀g∈b,(one g).length<=200):∀(a:a5 Nat),(∀k∈a,k<b.length)->(UI b a).length<=200*a.length
|[],_=>by simp[UI]
|k::a,hk=>by have d:=MS h a λj hj=>hk j (ah _ hj);have c:=hk k #v[0];have f:=h (b.getD k (.inl 0)) (by rw[cA,aw c];exact mZ c);unfold UI at d⊢;rw[dW,aP,aL];lia
theorem wD:VP e "places_in" 1 J4:=by
 refine lX e ["given","indexes","places","k"] 2 e.IT (λnd r=>(az (lA 2 nd (qL mh)) (az (eP (ZD rfl (qv 1)) (jM 3 nd) (bO (dv (d7 (OJ rfl e.B.Jm rfl e.B.wY (aW (qv 0) (qv 3)))) (bO (kP (i:=2) o8 iQ iP tX (cB (aW (qv 0) (qv 3))))) (bO (kP (i:=2) iH dr dk j9 (cB (aW (qv 0) (qv 3)))))))) (bO (QS.sR 2 (qK (qv 2))))))) λds Q h=>?_;obtain⟨a,b,rfl,hk,s,g,q⟩:=h;ac_nf;refine⟨#v[1],?_⟩;refine gQ b (λ(n:Nat)=>D.int (n:Int)) (λj f=>∃x:Option Sl,f=[some (.sh (.lst (a.map gD))),some (.sh (ksD b)),some (.ow ((UI a (b.take j)).map D.int)),x]) (λR h=>h) ⟨none,rfl⟩ ?_ ?_;rintro j k f hj ⟨x,rfl⟩;have t:=(aJ.mp hj).1;have c:=hk k (bp hj);have pl:=MS g (b.take j) λi hi=>hk i (di hi);rw[bw]at pl;have p:nT (a.map gD) (k:Int)=some (gD (a.getD k (.inl 0))):=by rw[mE,bq,aw c,cA,aw c];rfl
 have m:a.getD k (.inl 0)∈a:=by rw[cA,aw c];exact mZ c
 have o:UI a (b.take (j+1))=UI a (b.take j)++one (a.getD k (.inl 0)):=by unfold UI;rw[ck hj,ja];simp
 simp! only[p];rw[o];have d:=g _ m;revert d;cases a.getD k (.inl 0) with
|inl i=>intro d;simp! only[gD,one];refine⟨⟨_,rfl⟩,?_,?_⟩;rw[ai];exact aR (show _<5000 by lia) (m5 (aS _));exact⟨some (.sh (.int (k:Int))),#v[0]⟩
|inr l=>intro d;have hgl':l.length<=200:=d;simp! only[gD,one,uz];refine⟨⟨_,rfl⟩,?_,?_⟩;rw[ai,ai];exact m5 #v[];exact⟨some (.sh (.int (k:Int))),#v[0]⟩
 rintro f ⟨x,rfl⟩;rw[bY];ac_nf;exact q
def refusal(s:Vbpcaa.Sheet)(T L:a5 Int):Int:=if T.all aV=false then -1 else if(L.all λi=>(s.get i.toNat).isSome)=false then -2 else 0
inductive Aj:Prop
|mk (s:Vbpcaa.Sheet) (T L:List Int) (_:ds=[.dU,uz T,uz L]) (_:S=nA s) (_:zE s) (_:(∀i∈L,i∈T)) (_:R (.int (refusal s T L)) S)
theorem yn:VS e "place_refusal" 2 Aj:=by
 refine xH e ["sheet","told","looked_at","place"] 3 e.Ac (λnd k=>(az (eP (cI (qv 1)) (jM 3 nd) (bO (dv (jm (d7 (cp (aad e) e.nE k (qv 0) (cB (qv 3))))) (eI (fP e.C.DF)) bM))) (az (eP (cI (qv 2)) (jM 3 nd) (bO (dv (XT (cp (dt e) e.nE k (qv 0) (cB (qv 3))) Bm) (eI (fP e.C.Kc)) bM))) (eI aA)))) λds S Q h=>?_;obtain⟨s,T,L,rfl,rfl,c,l,q⟩:=h;ac_nf;unfold refusal at q;refine jI T D.int (λb=>∃x:Option Sl,b=[some (.sh .dU),some (.sh (uz T)),some (.sh (uz L)),x]) aV (.int (-1)) (λR h=>h) ⟨none,rfl⟩ ?_ ?_ ?_;rintro i hi b ⟨x,rfl⟩ N f d;ac_nf;refine⟨c.ne,i,rfl,λt=>d (oB t),λt=>f (gZ t) _ ⟨_,rfl⟩⟩;intro e;rw[if_pos e]at q;exact q;rintro b ⟨x,rfl⟩ e;rw[if_neg (by rw[e];decide)]at q;ac_nf;refine jI L D.int (λb=>∃x:Option Sl,b=[some (.sh .dU),some (.sh (uz T)),some (.sh (uz L)),x]) (λi=>(s.get i.toNat).isSome) (.int (-2)) (λR h=>h) ⟨_,rfl⟩ ?_ ?_ ?_;rintro i hi b ⟨x,rfl⟩ N f d;have m:=bf.mp e i (l i hi);ac_nf;refine⟨c.ne,s,i,rfl,rfl,c,m,?_⟩;cases g:s.get i.toNat with
|none=>exact⟨λ_=>d (by rw[g];rfl),λt=>nomatch t⟩
|some a=>exact⟨λt=>(nomatch t),λ_=>f (by rw[g];rfl) _ ⟨_,rfl⟩⟩
 intro j;rw[if_pos j]at q;exact q;rintro b ⟨x,rfl⟩ j;rw[if_neg (by rw[j];decide)]at q;exact q
open Vbpcaa (Call)
def num:Call->Nat
|.put ..=>0|.clear ..=>1|.copy ..=>2|.shift ..=>3|.turn ..=>4|.flip ..=>5|.grow ..=>6|.tidy ..=>7|.shape ..=>8|.box ..=>9|.area ..=>10|.convex ..=>11
|.dist ..=>12|.far ..=>13|.touch ..=>14|.apart ..=>15|.point ..=>16|.inside ..=>17|.hull ..=>18|.sum ..=>19|.near ..=>20|.close ..=>21|.cover ..=>22|.triangles ..=>23|.all=>24
def gl:Call->a5 It
|.put i r l=>[.inl i,.inl r,.inr l]
|.clear i=>[.inl i]
|.copy i j=>[.inl i,.inl j]
|.shift i x y=>[.inl i,.inl x,.inl y]
|.turn i k x y=>[.inl i,.inl k,.inl x,.inl y]
|.flip i x=>[.inl i,.inl x]
|.grow i d=>[.inl i,.inl d]
|.tidy i=>[.inl i]
|.shape i=>[.inl i]
|.box i=>[.inl i]
|.area i=>[.inl i]
|.convex i=>[.inl i]
|.dist i j=>[.inl i,.inl j]
|.far i j=>[.inl i,.inl j]
|.touch i j=>[.inl i,.inl j]
|.apart i j c=>[.inl i,.inl j,.inl c]
|.point i x y=>[.inl i,.inl x,.inl y]
|.inside i j m=>[.inl i,.inl j,.inl m]
|.hull to l=>[.inl to,.inr l]
|.sum i j to=>[.inl i,.inl j,.inl to]
|.near i=>[.inl i]
|.close c=>[.inl c]
|.cover l=>[.inr l]
|.triangles i=>[.inl i]
|.all=>[]
def uK:Call->a5 Int
|.put i _ _|.clear i|.shift i _ _|.turn i _ _ _|.flip i _|.grow i _|.tidy i|.shape i|.box i|.area i|.convex i|.point i _ _|.near i|.triangles i=>[i]
|.copy i j|.dist i j|.far i j|.touch i j|.apart i j _|.inside i j _=>[i,j]
|.hull to l=>to::l
|.sum i j to=>[i,j,to]
|.cover l=>l
|.close _|.all=>[]
def wX:Call->a5 Int
|.put ..|.clear ..|.close ..|.all=>[]
|.shift i _ _|.turn i _ _ _|.flip i _|.grow i _|.tidy i|.shape i|.box i|.area i|.convex i|.point i _ _|.near i|.triangles i|.copy i _=>[i]
|.dist i j|.far i j|.touch i j|.apart i j _|.inside i j _|.sum i j _=>[i,j]
|.hull _ l=>l
|.cover l=>l
theorem m0{α:Type}{a:α}{l:a5 α}:a∈a::l:=aF ..
theorem m1{α:Type}{a b:α}{l:a5 α}:a∈b::a::l:=ah _ m0
theorem m2{α:Type}{a b c:α}{l:a5 α}:a∈b::c::a::l:=ah _ m1
theorem Sd(c:Call):num c<25:=by cases c<;>exact jW rfl
theorem ltA{l:a5 Nat}{n:Nat}(h:l.all (λk=>Nat.blt k n)=true):∀k∈l,k<n:=λk hk=>jW (bf.mp h k hk)
inductive Ent (c:Call) (e:Nat×Nat×List Nat×List Nat):Prop
|mk (_:ent[num c]? = some e) (_:UI (gl c) e.2.2.1=uK c) (_:UI (gl c) e.2.2.2=wX c) (_:∀k∈e.2.2.1,k<(gl c).length) (_:∀k∈e.2.2.2,k<(gl c).length) (_:e.2.2.1.length<=10) (_:e.2.2.2.length<=10) (_:e.1+e.2.1=(gl c).length)
theorem aaR(c:Call):∃e,Ent c e:=by cases c<;>refine⟨_,rfl,?_,?_,ltA rfl,ltA rfl,jW rfl,jW rfl,rfl⟩<;>first|rfl|exact cG _|exact congrArg (List.cons _) (cG _)
theorem El(c:Call):∀i∈wX c,i∈uK c:=by cases c<;>intro i hi<;>first|exact hi|exact absurd hi bF|exact eY [_] hi|exact ah _ hi
theorem Bq{i:Int}(h:aV i=false):gi i=.error (-1):=by unfold gi;rw[h];rfl
theorem oj{s:Vbpcaa.Sheet}{i:Int}(h:s.get i.toNat=none):ik s i=.error (-2):=by unfold ik;rw[h]
theorem Wa{a b:Bool}(h:(a&&b)=false):a=false\/(a=true/\b=false):=by cases a<;>simp_all
theorem Ly{s:Vbpcaa.Sheet}{i:Int}(h:(s.get i.toNat).isSome=false):s.get i.toNat=none:=by cases e:s.get i.toNat<;>simp_all
theorem Wx{s:Vbpcaa.Sheet}{i:Int}(h:(s.get i.toNat).isSome=true):∃a,s.get i.toNat=some a:=pT.mp h
theorem ac0{s:Vbpcaa.Sheet}{c:Call}{i:Int}{f:Unit->Vbpcaa.R (Vbpcaa.Sheet×a5 Int)}(a:aY s c=(gi i >>= f))(h:[i].all aV=false):Vbpcaa.step s c=(s,[-1]):=by refine c5 ?_;rw[a,Bq #v[h]];rfl
theorem EJ{s:Vbpcaa.Sheet}{c:Call}{i j:Int}{f:Unit->Vbpcaa.R (Vbpcaa.Sheet×a5 Int)}(l:aY s c=(gi i >>= λ_=>gi j >>= f))(h:[i,j].all aV=false):Vbpcaa.step s c=(s,[-1]):=by refine c5 ?_;rw[l];rcases Wa (a:=aV i) (b:=aV j) #v[h] with k|⟨g,d⟩;rw[Bq k];rfl;rw[cJ g,Bq d];rfl
theorem Rp{s:Vbpcaa.Sheet}(c:Call)(h:(uK c).all aV=false):Vbpcaa.step s c=(s,[-1]):=by
 cases c with
|copy i j=>exact EJ rfl h
|dist i j=>exact EJ rfl h
|far i j=>exact EJ rfl h
|touch i j=>exact EJ rfl h
|apart i j c=>exact EJ rfl h
|inside i j m=>exact EJ rfl h
|hull to l=>have h':(aV to&&l.all aV)=false:=h;exact c5 (by simp only[aY,h',Ll,E4])
|sum i j to=>have h':(aV i&&(aV j&&(aV to&&true)))=false:=h;rw[k8]at h';exact c5 (by simp only[aY,h',Ll,E4])
|close c=>exact aD h
|cover l=>have h':l.all aV=false:=h;exact c5 (by simp only[aY,h',Ll,E4])
|all=>exact aD h
|_=>exact ac0 rfl h
theorem BX{s:Vbpcaa.Sheet}:∀{l:a5 Int},(l.all λi=>(s.get i.toNat).isSome)=false->l.mapM (ik s)=.error (-2)
|[],h=>by simp at h
|i::l,h=>by rw[Yy];rw[gq]at h;rcases Wa h with k|⟨c,b⟩;rw[oj (Ly k)];rfl;obtain⟨a,d⟩:=Wx c;rw[c6 d,jo,BX b];rfl
theorem acK{s:Vbpcaa.Sheet}{c:Call}{i:Int}{f:Vbpcaa.Shape->Vbpcaa.R (Vbpcaa.Sheet×a5 Int)}(a:aY s c=(gi i >>= λ_=>ik s i >>= f))(h:[i].all aV=true)(g:([i].all λi=>(s.get i.toNat).isSome)=false):Vbpcaa.step s c=(s,[-2]):=by refine c5 ?_;rw[a,cJ #v[h],jo,oj (Ly #v[g])];rfl
theorem Jg{s:Vbpcaa.Sheet}{c:Call}{i j:Int}{f:Vbpcaa.Shape->Vbpcaa.Shape->Vbpcaa.R (Vbpcaa.Sheet×a5 Int)}(m:aY s c=(gi i >>= λ_=>gi j >>= λ_=>ik s i >>= λa=>ik s j >>= λb=>f a b))(h:[i,j].all aV=true)(g:([i,j].all λi=>(s.get i.toNat).isSome)=false):Vbpcaa.step s c=(s,[-2]):=by
 refine c5 ?_;have h':aV i=true/\aV j=true:=by simpa using h
 rw[m,cJ h'.1,cJ h'.2,jo,jo];rcases Wa (a:=(s.get i.toNat).isSome) (b:=(s.get j.toNat).isSome) (by simpa [gq] using g) with k|⟨l,d⟩;rw[oj (Ly k)];rfl;obtain⟨a,n⟩:=Wx l;rw[c6 n,jo,oj (Ly d)];rfl
theorem Rq{s:Vbpcaa.Sheet}(c:Call)(h:(uK c).all aV=true)(g:((wX c).all λi=>(s.get i.toNat).isSome)=false):Vbpcaa.step s c=(s,[-2]):=by
 cases c with
|put i r l=>exact aD g
|clear i=>exact aD g
|copy i j=>refine c5 ?_;have h':=bf.mp h;have g':((s.get i.toNat).isSome&&true)=false:=g;rw[k8]at g';simp only[aY,cJ (h' i m0),cJ (h' j m1),jo,oj (Ly g'),E4]
|dist i j=>exact Jg rfl h g
|far i j=>exact Jg rfl h g
|touch i j=>exact Jg rfl h g
|apart i j c=>exact Jg rfl h g
|inside i j m=>exact Jg rfl h g
|hull to l=>have h':(aV to&&l.all aV)=true:=h;have g':(l.all λi=>(s.get i.toNat).isSome)=false:=g;exact c5 (by simp only[aY,h',sN,jo,BX g',E4])
|sum i j to=>have h':(aV i&&(aV j&&(aV to&&true)))=true:=h;have g':((s.get i.toNat).isSome&&((s.get j.toNat).isSome&&true))=false:=g;rw[k8]at h' g';refine c5 ?_;simp only[aY,h',sN,jo];rcases Wa g' with k|⟨d,b⟩;rw[oj (Ly k)];rfl;obtain⟨a,f⟩:=Wx d;rw[c6 f,jo,oj (Ly b)];rfl
|close c=>exact aD g
|cover l=>have h':l.all aV=true:=h;have g':(l.all λi=>(s.get i.toNat).isSome)=false:=g;exact c5 (by simp only[aY,h',sN,jo,BX g',E4])
|all=>exact aD g
|_=>exact acK rfl h g
def Bnd(c:Call):Prop:=∀g∈gl c,(one g).length<=100
theorem acS{s:Vbpcaa.Sheet}{i:Int}(h:aV i=true)(g:(s.get i.toNat).isSome=true):ig s i:=by obtain⟨a,b⟩:=Wx g;exact⟨a,h,b⟩
theorem WE{s:Vbpcaa.Sheet}(c:Call)(b:zE s)(o:Bnd c)(h:(uK c).all aV=true)(g:((wX c).all λi=>(s.get i.toNat).isSome)=true){Q:D->a5 D->Prop}(q:∀n p,Vbpcaa.step s c=(n,p)->zE n->p.length<=5000->Q (uz p) (nA n)):(Fk.getD (num c) λ_ _ _=>False) [.dU,.lst ((gl c).map gD)] (nA s) Q:=by
 have f:∀i∈uK c,aV i=true:=bf.mp h;have a:∀i∈wX c,ig s i:=λi hi=>acS (f i (El c i hi)) (bf.mp g i hi);cases c with
|put i r l=>exact⟨i,r,l,bu (o (.inr l) m2) #v[1],s,rfl,rfl,b,f i m0,q⟩
|clear i=>exact⟨i,s,rfl,rfl,b,f i m0,q⟩
|copy i j=>exact⟨i,j,s,rfl,rfl,b,⟨a i m0,f j m1⟩,q⟩
|shift i x y=>exact⟨i,x,y,s,rfl,rfl,b,a i m0,q⟩
|turn i k x y=>exact⟨i,k,x,y,s,rfl,rfl,b,a i m0,q⟩
|flip i x=>exact⟨i,x,s,rfl,rfl,b,a i m0,q⟩
|grow i d=>exact⟨i,d,s,rfl,rfl,b,a i m0,q⟩
|dist i j=>exact⟨i,j,s,rfl,rfl,b,⟨a i m0,a j m1⟩,q⟩
|far i j=>exact⟨i,j,s,rfl,rfl,b,⟨a i m0,a j m1⟩,q⟩
|touch i j=>exact⟨i,j,s,rfl,rfl,b,⟨a i m0,a j m1⟩,q⟩
|apart i j c=>exact⟨i,j,c,s,rfl,rfl,b,⟨a i m0,a j m1⟩,q⟩
|point i x y=>exact⟨i,x,y,s,rfl,rfl,b,a i m0,q⟩
|inside i j m=>exact⟨i,j,m,s,rfl,rfl,b,⟨a i m0,a j m1⟩,q⟩
|hull to l=>exact⟨to,l,o (.inr l) m1,s,rfl,rfl,b,⟨f to m0,λi hi=>a i hi⟩,q⟩
|sum i j to=>exact⟨i,j,to,s,rfl,rfl,b,⟨a i m0,a j m1,f to m2⟩,q⟩
|close c=>exact⟨c,s,rfl,rfl,b,trivial,q⟩
|cover l=>exact⟨l,o (.inr l) m0,s,rfl,rfl,b,λi hi=>a i hi,q⟩
|all=>exact⟨s,rfl,rfl,b,trivial,q⟩
|_ i=>exact⟨i,s,rfl,rfl,b,a i m0,q⟩
inductive zP:Prop
|mk (s:Vbpcaa.Sheet) (c:Call) (_:ds=[.dU,.int (num c:Int),.lst ((gl c).map gD)]) (_:S=nA s) (_:zE s) (_:Bnd c) (_:∀s' ans,Vbpcaa.step s c=(s',ans)->zE s'->ans.length<=5000->R (uz ans) (nA s'))
theorem F5(k:pA P w K ⟨K,cS,cT⟩ aC (qy fs)):VS e "answer_to" 10 zP:=by
 refine xH e ["sheet","call","given","entry","refusal","function"] 3 e.Ja (λnd f=>(az (bB 3 nd (Bp (MC e k) rfl (qv 1))) (az (bB 4 nd (sv (yn e) f (rp (qv 0) (aN (wD e) f (ju (qv 2) (aW (qv 3) aA))) (aN (wD e) f (ju (qv 2) (aW (qv 3) aA)))))) (az (dv (uN (qv 4) aA) (eI (cR (cB (qv 4)))) bM) (az (bB 5 nd (aW (qv 3) aA)) (eI (RI 5 (MC e k) (rm f) (ju (qv 0) (qv 2))))))))) λds S Q h=>?_;have inj:=NW e.nd e.ln;obtain⟨s,c,rfl,rfl,d,j,q⟩:=h;obtain⟨e,m,v,u,r,p,o,n,_⟩:=aaR c;have hb':∀g∈gl c,(one g).length<=200:=λg l=>bu (j g l) #v[1];simp! only[Fs (qy fs) m,HZ];refine⟨gl c,e.2.2.1,rfl,r,o,hb',gl c,e.2.2.2,rfl,p,n,hb',s,uK c,wX c,by rw[v,u],rfl,d,El c,?_⟩;unfold refusal;ac_nf;refine⟨λt=>⟨#v[1],?_⟩,λt=>⟨?_,?_⟩⟩;by_cases a:(uK c).all aV=false;rw[if_pos a];exact q _ _ (Rp c a) d #v[0];rw[if_neg a];by_cases b:((wX c).all λi=>(s.get i.toNat).isSome)=false;rw[if_pos b];exact q _ _ (Rq c #v[a] b) d #v[0];rw[if_neg a,if_neg b]at t;exact absurd t #v[1];unfold Yf;exact bh.mpr ⟨num c,eM.mpr (Sd c),rfl⟩;have a:(uK c).all aV=true:=by
  cases a:(uK c).all aV with
 |true=>rfl
 |false=>rw[if_pos a]at t;exact absurd t #v[1]
 have b:((wX c).all λi=>(s.get i.toNat).isSome)=true:=by
  cases b:(wX c).all λi=>(s.get i.toNat).isSome with
 |true=>rfl
 |false=>rw[if_neg (by rw[a];decide),if_pos b]at t;exact absurd t #v[1]
 rw[Uj inj (Sd c)];exact WE c d j a b q
open Vbpcaa (Call)
theorem Oz:∀j:Fin 25,PyVbpcaa.shape ((j.val:Nat):Int)=(ent[j.val]?).map λe=>(e.1,e.2.1):=#v[1]
theorem OA{p:Int}{n k:Nat}(h:PyVbpcaa.shape p=some (n,k)):∃(j:Nat)(e:_),p=(j:Int)/\j<25/\ent[j]? = some e/\e.1=n/\e.2.1=k:=by
 by_cases a:0<=p/\p<25
 .obtain⟨j,rfl⟩:∃j:Nat,p=(j:Int):=⟨p.toNat,#v[]⟩;have hj:j<25:=#v[]
  have:=Oz ⟨j,hj⟩;simp only at this;rw[h]at this;cases e:ent[j]? with
 |none=>rw[e]at this;cases this
 |some x=>rw[e]at this;injection this with this;injection this with c b;exact⟨j,x,rfl,hj,e,c.symm,b.symm⟩
 .exfalso;have z:PyVbpcaa.shape p=none:=by
   unfold PyVbpcaa.shape
   iterate 25 refine(if_neg λe=>a (by rw[e];decide)).trans ?_
   rfl
  rw[z]at h;cases h
abbrev Raw:=a5 (a5 Int)
structure Dec (j:Nat) (nums:a5 Int) (xs:a5 (a5 Int)) (c:Call):Prop where
 of:VbpcaaNeutral.callOf (PyVbpcaa.whole (((j:Int)::nums)::xs))=some c
 n:num c=j
 g:gl c=nums.map Sum.inl++xs.map Sum.inr
 b:Bnd c
theorem l0{α:Type}{l:a5 α}(h:l.length=0):l=[]:=jh.mp h
theorem l1{α:Type}{l:a5 α}(h:l.length=1):∃a,l=[a]:=by
 match l,h with
|[a],_=>exact⟨a,rfl⟩
theorem l2{α:Type}{l:a5 α}(h:l.length=2):∃a b,l=[a,b]:=by
 match l,h with
|[a,b],_=>exact⟨a,b,rfl⟩
theorem l3{α:Type}{l:a5 α}(h:l.length=3):∃a b c,l=[a,b,c]:=by
 match l,h with
|[a,b,c],_=>exact⟨a,b,c,rfl⟩
theorem l4{α:Type}{l:a5 α}(h:l.length=4):∃a b c d,l=[a,b,c,d]:=by
 match l,h with
|[a,b,c,d],_=>exact⟨a,b,c,d,rfl⟩
theorem bl1{n:a5 It}(h:n.all Sum.isLeft=true):∀g∈n,(one g).length<=100:=λg a=>by
 match g,bf.mp h g a with
|.inl i,_=>exact jW rfl
theorem fM{c:Call}(h:(gl c).all Sum.isLeft=true):Bnd c:=bl1 h
theorem T4{c:Call}{l:a5 Int}{n:a5 It}(e:gl c=n++[.inr l])(h:n.all Sum.isLeft=true)(k:(decide (l.length<=100)&&l.all VbpcaaNeutral.whole60)=true):Bnd c:=λg a=>by rw[e,aI]at a;rcases a with q|q;exact bl1 h g q;rw[bA.mp q];exact of_decide_eq_true (aZ ..▸k).1
def PJ(j:Nat):Prop:=∀{e:Nat×Nat×a5 Nat×a5 Nat}{nums:a5 Int}{xs:a5 (a5 Int)},ent[j]? = some e->nums.length=e.1->xs.length=e.2.1->VbpcaaNeutral.asked1 (PyVbpcaa.whole (((j:Int)::nums)::xs))=true->∃c,Dec j nums xs c
def AB(P:Nat->Prop):Nat->Nat->Prop
|_,0=>True
|k,n+1=>P k/\AB P (k+1) n
theorem adC{P:Nat->Prop}{n:Nat}:∀{k:Nat},AB P k n->∀j,j<n->P (k+j):=by
 induction n with
|zero=>intro k _ j hj;exact absurd hj (Yw j)
|succ n a=>
  intro k h j hj;cases j with
 |zero=>exact h.1
 |succ j=>exact Nat.succ_add_eq_add_succ k j▸a h.2 j (Nat.lt_of_succ_lt_succ hj)
theorem dx{j m n:Nat}{a:Nat×Nat×a5 Nat×a5 Nat}(z:ent[j]? = some a)(b:a.1=m/\a.2.1=n)(h:∀nums xs,nums.length=m->xs.length=n->VbpcaaNeutral.asked1 (PyVbpcaa.whole (((j:Int)::nums)::xs))=true->∃c,Dec j nums xs c):PJ j:=λg f d i=>by cases g.symm.trans z;exact h _ _ (f.trans b.1) (d.trans b.2) i
theorem d1{j:Nat}{b:Nat×Nat×a5 Nat×a5 Nat}{k:Int->Call}(h:∀a,Dec j [a] [] (k a))(z:ent[j]? = some b)(c:b.1=1/\b.2.1=0):PJ j:=dx z c λnums xs f d _=>by obtain⟨a,e⟩:=l1 f;rw[e,l0 d];exact⟨_,h a⟩
theorem d2{j:Nat}{c:Nat×Nat×a5 Nat×a5 Nat}{k:Int->Int->Call}(h:∀a b,Dec j [a,b] [] (k a b))(z:ent[j]? = some c)(d:c.1=2/\c.2.1=0):PJ j:=dx z d λnums xs g f _=>by obtain⟨a,b,e⟩:=l2 g;rw[e,l0 f];exact⟨_,h a b⟩
theorem d3{j:Nat}{d:Nat×Nat×a5 Nat×a5 Nat}{k:Int->Int->Int->Call}(h:∀a b c,Dec j [a,b,c] [] (k a b c))(z:ent[j]? = some d)(f:d.1=3/\d.2.1=0):PJ j:=dx z f λnums xs i g _=>by obtain⟨a,b,c,e⟩:=l3 i;rw[e,l0 g];exact⟨_,h a b c⟩
theorem dj0:PJ 0:=dx (m:=2) (n:=1) rfl ⟨rfl,rfl⟩ λnums xs d c f=>by obtain⟨a,b,rfl⟩:=l2 d;obtain⟨l,rfl⟩:=l1 c;exact⟨.put a b l,rfl,rfl,rfl,T4 (n:=[.inl a,.inl b]) rfl rfl (aZ ..▸(aZ ..▸f).2).2⟩
theorem dj4:PJ 4:=dx (m:=4) (n:=0) rfl ⟨rfl,rfl⟩ λnums xs g f h=>by obtain⟨a,b,c,d,e⟩:=l4 g;rw[e,l0 f];exact⟨.turn a b c d,rfl,rfl,rfl,fM rfl⟩
theorem afi:PJ 18:=dx (m:=1) (n:=1) rfl ⟨rfl,rfl⟩ λnums xs c b d=>by obtain⟨a,rfl⟩:=l1 c;obtain⟨l,rfl⟩:=l1 b;exact⟨.hull a l,rfl,rfl,rfl,T4 (n:=[.inl a]) rfl rfl (aZ ..▸d).2⟩
theorem afh:PJ 22:=dx (m:=0) (n:=1) rfl ⟨rfl,rfl⟩ λnums xs b a c=>by obtain⟨l,rfl⟩:=l1 a;obtain rfl:=l0 b;exact⟨.cover l,rfl,rfl,rfl,T4 (n:=[]) rfl rfl c⟩
theorem afg:PJ 24:=dx (m:=0) (n:=0) rfl ⟨rfl,rfl⟩ λnums xs b a c=>by rw[l0 b,l0 a];exact⟨.all,rfl,rfl,rfl,fM rfl⟩
theorem dec{j:Nat}(hj:j<25):PJ j:=by rw[<- Mo j];exact adC (P:=PJ) (k:=0) (n:=25) ⟨dj0,d1 (k:=.clear) (λa=>⟨rfl,rfl,rfl,fM rfl⟩) rfl ⟨rfl,rfl⟩,d2 (k:=.copy) (λa b=>⟨rfl,rfl,rfl,fM rfl⟩) rfl ⟨rfl,rfl⟩,d3 (k:=.shift) (λa b c=>⟨rfl,rfl,rfl,fM rfl⟩) rfl ⟨rfl,rfl⟩,dj4,d2 (k:=.flip) (λa b=>⟨rfl,rfl,rfl,fM rfl⟩) rfl ⟨rfl,rfl⟩,d2 (k:=.grow) (λa b=>⟨rfl,rfl,rfl,fM rfl⟩) rfl ⟨rfl,rfl⟩,d1 (k:=.tidy) (λa=>⟨rfl,rfl,rfl,fM rfl⟩) rfl ⟨rfl,rfl⟩,d1 (k:=.shape) (λa=>⟨rfl,rfl,rfl,fM rfl⟩) rfl ⟨rfl,rfl⟩,d1 (k:=.box) (λa=>⟨rfl,rfl,rfl,fM rfl⟩) rfl ⟨rfl,rfl⟩,d1 (k:=.area) (λa=>⟨rfl,rfl,rfl,fM rfl⟩) rfl ⟨rfl,rfl⟩,d1 (k:=.convex) (λa=>⟨rfl,rfl,rfl,fM rfl⟩) rfl ⟨rfl,rfl⟩,d2 (k:=.dist) (λa b=>⟨rfl,rfl,rfl,fM rfl⟩) rfl ⟨rfl,rfl⟩,d2 (k:=.far) (λa b=>⟨rfl,rfl,rfl,fM rfl⟩) rfl ⟨rfl,rfl⟩,d2 (k:=.touch) (λa b=>⟨rfl,rfl,rfl,fM rfl⟩) rfl ⟨rfl,rfl⟩,d3 (k:=.apart) (λa b c=>⟨rfl,rfl,rfl,fM rfl⟩) rfl ⟨rfl,rfl⟩,d3 (k:=.point) (λa b c=>⟨rfl,rfl,rfl,fM rfl⟩) rfl ⟨rfl,rfl⟩,d3 (k:=.inside) (λa b c=>⟨rfl,rfl,rfl,fM rfl⟩) rfl ⟨rfl,rfl⟩,afi,d3 (k:=.sum) (λa b c=>⟨rfl,rfl,rfl,fM rfl⟩) rfl ⟨rfl,rfl⟩,d1 (k:=.near) (λa=>⟨rfl,rfl,rfl,fM rfl⟩) rfl ⟨rfl,rfl⟩,d1 (k:=.close) (λa=>⟨rfl,rfl,rfl,fM rfl⟩) rfl ⟨rfl,rfl⟩,afh,d1 (k:=.triangles) (λa=>⟨rfl,rfl,rfl,fM rfl⟩) rfl ⟨rfl,rfl⟩,afg,trivial⟩ j hj
theorem MJ{j:Nat}{e:_}(h:ent[j]? = some e):e.2.1<=1:=by
 have a:e∈ent:=bp h;have:∀e∈ent,e.2.1<=1:=#v[1]
 exact this e a
theorem O7{f:Nat}{l:a5 Int}{p:Int}{r:a5 Int}{d:a5 Raw}(hl:l=p::r)(h:PyFlat.calls PyVbpcaa.shape f l=some d):
  ∃q n k xs t b,PyVbpcaa.shape p=some (n,k)/\n<=r.length/\PyFlat.rows k (r.drop n)=some (xs,t)/\PyFlat.calls PyVbpcaa.shape q t=some b/\d=((p::r.take n)::xs)::b:=by
 subst hl
 match f,h with
|f+1,h=>
  unfold PyFlat.calls at h;split at h;cases h
  next c t a=>
   split at h;cases h
   next b j=>
    injection h with h;have a:(match PyVbpcaa.shape p with
    |none=>none
    |some (n,k)=>if r.length<n then none else match PyFlat.rows k (r.drop n) with
     |none=>none
     |some (xs,t)=>some ((p::r.take n)::xs,t))=some (c,t):=a
    split at a;cases a
    next n k g=>
     split at a;cases a
     next s=>
      split at a;cases a
      next xs t' i=>injection a with a;injection a with o m;subst o;subst m;exact⟨f,n,k,xs,t',b,g,#v[],i,j,h.symm⟩
theorem rows0{r:a5 Int}{xs:a5 (a5 Int)}{t:a5 Int}(h:PyFlat.rows 0 r=some (xs,t)):xs=[]/\t=r:=by unfold PyFlat.rows at h;injection h with h;injection h with b a;exact⟨b.symm,a.symm⟩
theorem XR{r:a5 Int}{xs:a5 (a5 Int)}{t:a5 Int}(h:PyFlat.rows 1 r=some (xs,t)):∃(m:Nat)(b:a5 Int),r=(m:Int)::b/\m<=b.length/\xs=[b.take m]/\t=b.drop m:=by
 unfold PyFlat.rows at h;split at h;cases h
 next x s a=>
  unfold PyFlat.rows at h;simp only at h;injection h with h;injection h with d c;subst d;subst c
  match r,a with
 |n::b,a=>
   unfold PyFlat.row at a;simp only at a;split at a
   next f=>injection a with a;injection a with d c;refine⟨n.toNat,b,by rw[jk f.1],f.2,by rw[d],c.symm⟩
   cases a
theorem WX{xs:a5 D}(a b:Nat)(g:a<=b)(f:b<=xs.length):cutD xs (some (a:Int)) (some (b:Int))=(xs.drop a).take (b-a):=by
 have d:HT.nX xs.length 0 (some (a:Int))=a:=by simp only[HT.nX];split<;>lia
 have c:HT.nX xs.length xs.length (some (b:Int))=b:=by simp only[HT.nX];split<;>lia
 unfold cutD;rw[d,c]
open Vbpcaa (Call)
theorem Rg:zE Vbpcaa.start:=⟨by simp[Vbpcaa.start,Vbpcaa.PLACES],λa b=>by simp[Vbpcaa.start]at b⟩
theorem P4{l:a5 Int}(h:PyVbpcaa.answers_asked l=true):∃a:a5 Raw,PyFlat.calls PyVbpcaa.shape l.length l=some a/\a.length<=200/\(∀c∈a,VbpcaaNeutral.asked1 (PyVbpcaa.whole c)=true) ∧
  PyVbpcaa.answers l=PyFlat.told (PyFlat.played VbpcaaNeutral.step Vbpcaa.start (a.map PyVbpcaa.whole)):=by
 unfold PyVbpcaa.answers_asked PyVbpcaa.calls at h;cases e:PyFlat.calls PyVbpcaa.shape l.length l with
|none=>rw[e]at h;cases h
|some a=>rw[e]at h;simp only[PyFlat.atMost,VbpcaaNeutral.asked,aZ,decide_eq_true_eq,ai,zV]at h;refine⟨a,rfl,h.1,λc b=>bf.mp h.2.1 c b,?_⟩;unfold PyVbpcaa.answers PyVbpcaa.calls;rw[e];rfl
theorem drop_cons{α:Type}{l r:a5 α}{k:Nat}{p:α}(h:l.drop k=p::r):k<l.length/\l[k]? = some p/\l.drop (k+1)=r:=by
 have hk:k<l.length:=by rcases oR k l.length with q|q;exact q;rw[Kr q]at h;cases h
 rw[kK hk]at h;injection h with b a;exact⟨hk,by rw[aw hk,b],a⟩
theorem Yr{l:a5 Int}{k:Nat}{p:Int}(h:l[k]? = some p):nT (l.map D.int) (k:Int)=some (.int p):=by rw[mE,bq,h];rfl
theorem JD{l:a5 Int}(a n:Nat)(h:a+n<=l.length):cutD (l.map D.int) (some (a:Int)) (some ((a+n:Nat):Int))=((l.drop a).take n).map D.int:=by rw[WX a (a+n) #v[] #v[h]];rw[<- k7,<- m8];congr 2;lia
abbrev j1:jv:=top 116
def xV:uC:=(uA (NH 2 (Tv nQ)) (uA (Ae 3 (dC (.int 0))) (uA (Tr (qp (rC rLt (iw 3) (Qy Gz (g7 (iw 0) nQ)))) (uA (Ae 4 (rC Hg (iw 0) (iw 3))) (uA (Ae 5 (Ck (Ck (iw 3) (dC (.int 1))) (EL oG (g7 (iw 4) nQ)))) (uA (NH 6 (aaV (iw 0) (zm (Ck (iw 3) (dC (.int 1)))) (zm (iw 5)))) (uA (Ae 3 (iw 5)) (uA (PU (AN (g7 (EL yO (g7 (iw 4) nQ)) nQ)) (.one 7) (uA (Ae 5 (Ck (Ck (iw 3) (dC (.int 1))) (rC Hg (iw 0) (iw 3)))) (uA (JC 6 (g7 (dSl (iw 0) (zm (Ck (iw 3) (dC (.int 1)))) (zm (iw 5))) nQ) t8) (Ae 3 (iw 5))))) (uA (PR 6 (Ae 8 (LW zP (g7 (iw 1) (g7 (iw 4) (g7 (iw 6) nQ)))))) (uA (JC 2 (g7 (Qy Gz (g7 (iw 8) nQ)) nQ) t8) (JC 2 (g7 (iw 8) nQ) AR))))))))) (PR 2 (Ts (iw 2))))))
theorem vm:ke ["calls","sheet","answered","at","call","end","given","row","answer"] ["calls"] (b7 j1):=by walk_at "C"
include e in
theorem L8(b:pA P w K ⟨K,cS,cT⟩ aC (qy fs)){f:ao}{c:ak}{A:bT}{outer:a5 rf}{s:aB}{H:Hp}{E:XK}(a:gC 10 (A.deeper (nu "answers" (b7 j1) s.heap.objs.size f c))):Km (yC CQ P w K mg base ["calls","sheet","answered","at","call","end","given","row","answer"] "answers" (b7 j1) f c A outer s H E).Se ⟨K,cS,cT⟩ (gT j1).tail xV:=
 have nd:=vm.nd
 (az (lA 2 nd (qL mh)) (az (bB 3 nd aA) (az (sj PassesOwn.never (uN (qv 3) (gY e.B (cB (qv 0)))) (az (bB 4 nd (aW (qv 0) (qv 3))) (az (bB 5 nd (gN (gN (qv 3) aA) (aN (uu e b) a (cB (qv 4))))) (az (lA 6 nd (Ry (qv 0) (fL (gN (qv 3) aA)) (fL (qv 5)))) (az (bB 3 nd (qv 5)) (az (eP (p6 rfl e.B.r9 (cB (aN (K8 e b) a (cB (qv 4))))) (jM 7 nd) (az (bB 5 nd (gN (gN (qv 3) aA) (aW (qv 0) (qv 3)))) (az (kP (i:=6) iH dr dk j9 (cB (fO (qv 0) (fL (gN (qv 3) aA)) (fL (qv 5))))) (bO (bB 3 nd (qv 5)))))) (az (QS.sR 6 (bB 8 nd (sv (F5 e b) a (rp (qv 1) (qv 4) (qv 6))))) (az (kP (i:=2) iH dr dk j9 (cB (gY e.B (cB (qv 8))))) (bO (kP (i:=2) o8 iQ iP tX (cB (qv 8)))))))))))) (bO (QS.sR 2 (qK (qv 2)))))))
inductive RA (l:List Int) (m:Nat) (ρ:Env) (S:List D):Prop
|mk (pos:Nat) (rem:List Raw) (s:Vbpcaa.Sheet) (out:List Int) (f:Nat) (x4 x5 x6 x7 x8:Option Sl) (_:ρ=[some (.sh (.zl (l.map D.int))),some (.sh .dU),some (.ow (out.map D.int)),some (.sh (.int (pos:Int))),x4,x5,x6,x7,x8]) (_:S=nA s) (_:zE s) (_:m=rem.length)
  (_:PyFlat.calls PyVbpcaa.shape f (l.drop pos)=some rem) (_:∀c∈rem,VbpcaaNeutral.asked1 (PyVbpcaa.whole c)=true) (_:out.length+5001*rem.length<=5001*200) (_:PyVbpcaa.answers l=out++PyFlat.told (PyFlat.played VbpcaaNeutral.step s (rem.map PyVbpcaa.whole)))
theorem OG{l:a5 Int}(ha:PyVbpcaa.answers_asked l=true)(Q:D->a5 D->Prop)(q:∀S,Q (uz (PyVbpcaa.answers l)) S):
  xV [some (.sh (.zl (l.map D.int))),some (.sh .dU),none,none,none,none,none,none,none] (nA Vbpcaa.start) (EnS Q):=by
 obtain⟨Z,hr,hn,hk,ht⟩:=P4 ha;unfold xV;ac_nf;refine⟨#v[1],?_⟩;refine⟨RA l,
  ⟨_,0,Z,Vbpcaa.start,[],l.length,none,none,none,none,none,rfl,rfl,Rg,rfl,by simpa using hr,hk,by simp;lia,by simpa using ht⟩,?_⟩
 rintro m b S ⟨pos,X,s,out,f,x4,P,x6,u,v,rfl,rfl,hs,rfl,g,T,al,U⟩;simp! only[ai];refine⟨λt=>?_,λt=>?_⟩;have K:pos<l.length:=by have:=of_decide_eq_true t;lia
 obtain⟨p,r,hpr⟩:∃p r,l.drop pos=p::r:=⟨_,_,kK K⟩;obtain⟨_,hp,F⟩:=drop_cons hpr;obtain⟨f',n,k,xs,t',y,ad,aD,d,am,rfl⟩:=O7 hpr g;obtain⟨j,e,rfl,hj,o,rfl,rfl⟩:=OA ad;have aC:r.length=l.length-(pos+1):=by rw[<- F,cj]
 have c1:cutD (l.map D.int) (some ((pos:Int)+1)) (some ((pos:Int)+1+(e.1:Int)))=(r.take e.1).map D.int:=by have:=JD (l:=l) (pos+1) e.1 #v[];rw[F]at this;rw[<- this];congr 2
 have ab:xs.length=e.2.1:=by
  have:=MJ o;rcases oR e.2.1 1 with z|z;have C:e.2.1=0:=#v[]
  rw[C]at d⊢;rw[(rows0 d).1];rfl;have B:e.2.1=1:=#v[]
  rw[B]at d⊢;obtain⟨_,_,_,_,h3,_⟩:=XR d;rw[h3];rfl
 obtain⟨c,x⟩:=dec hj o (nums:=r.take e.1) (xs:=xs) (by rw[bw];lia) ab (T _ #v[0]);simp! only[Yr hp];refine⟨j,e,rfl,o,?_⟩;simp! only[c1];have fin:∃E:Nat,l.drop E=t'/\∀(Y:Env->a5 D->Prop),(∀P u:Option Sl,Y [some (.sh (.zl (l.map D.int))),some (.sh .dU),some (.ow (out.map D.int)),some (.sh (.int (E:Int))),some (.sh (.int (j:Int))),P,some (.ow ((gl c).map gD)),u,v] (nA s)) →
   PU (AN (g7 (EL yO (g7 (iw 4) nQ)) nQ)) (.one 7)
    (uA (Ae 5 (Ck (Ck (iw 3) (dC (.int 1))) (rC Hg (iw 0) (iw 3))))
    (uA (JC 6 (g7 (dSl (iw 0) (zm (Ck (iw 3) (dC (.int 1)))) (zm (iw 5))) nQ) t8)
    (Ae 3 (iw 5)))) [some (.sh (.zl (l.map D.int))),some (.sh .dU),some (.ow (out.map D.int)),some (.sh (.int ((pos:Int)+1+(e.1:Int)))),some (.sh (.int (j:Int))),some (.sh (.int ((pos:Int)+1+(e.1:Int)))),some (.ow ((r.take e.1).map D.int)),u,v] (nA s) ⟨Y,Q⟩:=by
  have aB:=MJ o;rcases oR e.2.1 1 with z|z;have C:e.2.1=0:=#v[]
  rw[C]at d;obtain⟨rfl,rfl⟩:=rows0 d;refine⟨pos+1+e.1,by rw[<- F,Ff],λY L=>?_⟩;refine gQ ([]:a5 Nat) (λ(i:Nat)=>D.int (0+(i:Int))) (λ_ b=>b=[some (.sh (.zl (l.map D.int))),some (.sh .dU),some (.ow (out.map D.int)),some (.sh (.int ((pos:Int)+1+(e.1:Int)))),some (.sh (.int (j:Int))),some (.sh (.int ((pos:Int)+1+(e.1:Int)))),some (.ow ((r.take e.1).map D.int)),u,v]) (λR h=>?_) rfl (λi a b h=>by simp at h) ?_;ac_nf;refine⟨j,e,rfl,o,?_⟩;simp! only[C];exact⟨⟨#v[1],#v[1]⟩,h⟩;rintro b rfl;have N:(r.take e.1).map D.int=(gl c).map gD:=by rw[x.g,bj,bz];simp only[iU,cG];rfl
  have:=L (some (.sh (.int ((pos:Int)+1+(e.1:Int))))) u;rw[<- N]at this;rw[show((pos+1+e.1:Nat):Int)=(pos:Int)+1+(e.1:Int) by lia]at this;exact this;have B:e.2.1=1:=#v[]
  rw[B]at d;obtain⟨m,w,h1,h2,rfl,rfl⟩:=XR d;have hd:l.drop (pos+1+e.1)=(m:Int)::w:=by rw[<- h1,<- F,Ff]
  obtain⟨aF,an,J⟩:=drop_cons hd;have aA:w.length=l.length-(pos+1+e.1+1):=by rw[<- J,cj]
  refine⟨pos+1+e.1+1+m,by rw[<- J,Ff],λY L=>?_⟩;have c2:cutD (l.map D.int) (some ((pos:Int)+1+(e.1:Int)+1)) (some ((pos:Int)+1+(e.1:Int)+1+(m:Int)))=(w.take m).map D.int:=by have:=JD (l:=l) (pos+1+e.1+1) m #v[];rw[J]at this;rw[<- this];congr 2
  have a2:nT (l.map D.int) ((pos:Int)+1+(e.1:Int))=some (.int (m:Int)):=by have:=Yr an;rw[<- this];congr 1
  refine gQ ([0]:a5 Nat) (λ(i:Nat)=>D.int (0+(i:Int))) (λi b=>(i=0->b=[some (.sh (.zl (l.map D.int))),some (.sh .dU),some (.ow (out.map D.int)),some (.sh (.int ((pos:Int)+1+(e.1:Int)))),some (.sh (.int (j:Int))),some (.sh (.int ((pos:Int)+1+(e.1:Int)))),some (.ow ((r.take e.1).map D.int)),u,v]) ∧
   (i=1->∃H G:Option Sl,b=[some (.sh (.zl (l.map D.int))),some (.sh .dU),some (.ow (out.map D.int)),some (.sh (.int ((pos:Int)+1+(e.1:Int)+1+(m:Int)))),some (.sh (.int (j:Int))),H,some (.ow ((r.take e.1).map D.int++[uz (w.take m)])),G,v])) (λR h=>?_) ⟨λ_=>rfl,λz=>by cases z⟩ (λi a b h M=>?_) ?_
  ac_nf;refine⟨j,e,rfl,o,?_⟩;simp! only[B];exact⟨⟨#v[1],#v[1]⟩,h⟩;have hi:i=0:=by have:=(aJ.mp h).1;simp at this;exact this
  subst hi;obtain rfl:=M.1 rfl;simp! only[a2,c2];refine⟨⟨_,rfl⟩,?_,_,_,rfl⟩;rw[ai,bw];have:e.1<=4:=by
   have:∀e∈ent,e.1<=4:=#v[1]
   exact this e (bp o)
  exact aR (show _<5000 by lia) (m5 (aS _));rintro b M;obtain⟨H,G,rfl⟩:=M.2 rfl;have N:(r.take e.1).map D.int++[uz (w.take m)]=(gl c).map gD:=by rw[x.g,bj,bz];rfl
  have:=L H G;rw[<- N]at this;rw[show((pos+1+e.1+1+m:Nat):Int)=(pos:Int)+1+(e.1:Int)+1+(m:Int) by lia]at this;exact this
 obtain⟨E,aj,run⟩:=fin;refine run _ λW V=>?_;ac_nf;refine⟨s,c,by rw[x.n],rfl,hs,x.b,λI A st ae aG=>?_⟩;have aa:VbpcaaNeutral.step s (PyVbpcaa.whole (((j:Int)::r.take e.1)::xs))=(I,A):=by unfold VbpcaaNeutral.step;rw[x.of];exact st
 simp! only[uz,ai];have hlen':out.length+5001*(y.length+1)<=5001*200:=by simpa using al
 refine⟨⟨_,rfl⟩,?_,⟨_,rfl⟩,?_,y.length,#v[0],E,y,I,out++((A.length:Int)::A),f',some (.sh (.int (j:Int))),W,some (.sh (.lst ((gl c).map gD))),V,some (.sh (.lst (A.map D.int))),?_,rfl,ae,rfl,by rw[aj];exact am,λc g=>T c (ah _ g),?_,?_⟩;exact aR (show out.length<5001*200+1 by lia) #v[1];rw[aP,ai];simp only[aL,de];exact bu (show _<=5001*200 by lia) #v[1];simp only[bj,a9,dj,aU,fQ];simp only[aP,aL];lia;have e1:PyFlat.played VbpcaaNeutral.step s (PyVbpcaa.whole (((j:Int)::r.take e.1)::xs)::y.map PyVbpcaa.whole)=A::PyFlat.played VbpcaaNeutral.step I (y.map PyVbpcaa.whole):=by show(VbpcaaNeutral.step s _).2::PyFlat.played VbpcaaNeutral.step (VbpcaaNeutral.step s _).1 _=_;rw[aa]
 have e2:∀(a:a5 Int)(O:a5 (a5 Int)),PyFlat.told (a::O)=((a.length:Int)::a)++PyFlat.told O:=λa O=>rfl;rw[U,a9,e1,e2,dj];have K:l.length<=pos:=by have:=of_decide_eq_false t;lia
 rw[Kr K]at g;have:X=[]:=by
  have:PyFlat.calls PyVbpcaa.shape f []=some []:=by cases f<;>rfl
  rw[this]at g;injection g with g;exact g.symm
 subst this;have ha':PyVbpcaa.answers l=out:=by rw[U];simp[PyFlat.played,PyFlat.told]
 have:=q (nA s);rw[ha']at this;exact this
def XO(K:au):Sp:=λvs H Q _=>∃(a:ao)(ns:a5 Int),vs=[.ref a]/\lY K H a (ns.map V.int)/\PyVbpcaa.answers_asked ns=true/\∀(H':Hp)(p:ao),H' p=some (.lst ((PyVbpcaa.answers ns).map V.int))->Q (.ref p) H'
theorem Ii{G:Gb}{sa:ao}{A:ao->Prop}{H:Hp}:∀ns:a5 Int,bV G sa A H (ns.map D.int) (ns.map V.int)
|[]=>.nil
|n::ns=>.cons (.int n) (Ii ns)
theorem Jn{G:Gb}{sa:ao}{A:ao->Prop}{H:Hp}:∀(ns:a5 Int){vs:a5 V},bV G sa A H (ns.map D.int) vs->vs=ns.map V.int
|[],_,r=>by cases r;rfl
|n::ns,_,r=>by
  cases r with
 |cons r q=>cases r;rw[Jn ns q];rfl
theorem Ig{G:Gb}{sa:ao}{A:ao->Prop}{H:Hp}:∀n:Nat,bV G sa A H (fC n .jw) (fC n .jw)
|0=>.nil
|n+1=>.cons .jw (Ig n)
theorem D4:nA Vbpcaa.start=fC 64 D.jw:=by unfold nA Vbpcaa.start Vbpcaa.PLACES;rw[List.map_replicate];rfl
include e in
theorem Ld(R:pA P w K ⟨K,cS,cT⟩ aC (qy fs)){f:ao}{y:gX}(F:Ud K "answers" "answers" j1 f y):lS P w K mg base CQ 11 f y ["calls"] (XO K):=by
 obtain⟨N,B⟩:=e.kT9.fn;have S:lS P w K mg base CQ 1 fJ N ["self"] (MH cT):=OV B ⟨e.nE,e.kTp⟩ e.B e.C;refine F.ok vm (λvs H Q E h=>?_) (λaa A outer s H vs Q E u h=>?_);obtain⟨a,ns,rfl,_⟩:=h;rfl;obtain⟨a,ns,rfl,J,I,k⟩:=h;refine⟨_,sC (FK (i:=1) vm.nd rfl (k6 rfl) (RR ⟨e.kT5,e.kT7,e.kT8,e.kT6⟩ S (u.mono #v[1]) rfl (e.n _ _ e.kT) (B.binds (by walk_at "B")) .nil Bu)) (L8 e R u),?_⟩;intro c d0 D m0 Z;refine⟨c,d0,rfl,bZ,λm la xs G M t L=>?_⟩;have g:∀b o,H b=some o->m b=some o/\b≠la:=λb o e=>by
  have nx:b≠c:=λz=>by rw[z,D]at e;cases e
  have nd:b≠d0:=λz=>by rw[z,m0]at e;cases e
  have e':upd (upd H d0 (HO.own c)) c (HO.ins cT d0 []) b=some o:=by rw[bP nx,bP nd];exact e
  exact⟨L b o e' nx,λz=>by rw[z,G]at e';cases e'⟩
 have hz:Md K (lT (λb=>b=la) λ_=>none) m a (ns.map V.int):=by rcases J with(e|⟨o,e⟩)|e;exact .inl ⟨λz=>z.elim (g _ _ e).2 λ⟨_,z⟩=>(nomatch z),.inl (g _ _ e).1⟩;exact .inl ⟨λz=>z.elim (g _ _ e).2 λ⟨_,z⟩=>(nomatch z),.inr ⟨o,(g _ _ e).1⟩⟩;exact .inr e
 have q:=OG (l:=ns) I (λd _=>d=uz (PyVbpcaa.answers ns)) λ_=>rfl;refine⟨rfl,?_⟩;refine⟨⟨true,c,la⟩,λb=>b=la,m,λ_=>none,_,_,_,?_,q,?_,?_⟩;refine⟨.refl,λb e=>?_,λ_=>rfl,⟨λb e=>?_,λ_=>⟨.inl rfl,⟨d0,M⟩,_,t,?_⟩,λ_=>rfl,λ_=>?_⟩,λi b e=>(nomatch e),λi j b e=>(nomatch e),rfl,λi sl e=>?_,⟨0,λ_ _=>rfl⟩,λi b e=>nomatch e⟩;show m b≠none;have e':b=la:=e;rw[e',t];exact λz=>nomatch z;rcases e with e|⟨_,z⟩;have e':b=la:=e;rw[e'];exact⟨_,t⟩;exact nomatch z;rw[D4];exact Ig 64;rw[D4];exact λz=>nomatch z
 match i,e with
|0,e=>injection e with e;injection e with e;subst e;exact⟨.ref a,rfl,.zl hz (Ii ns)⟩
|1,e=>injection e with e;injection e with e;subst e;exact⟨.ref c,rfl,.dU⟩
|2,e=>exact nomatch e
|3,e=>exact nomatch e
|4,e=>exact nomatch e
|5,e=>exact nomatch e
|6,e=>exact nomatch e
|7,e=>exact nomatch e
|8,e=>exact nomatch e
|n+9,e=>exact nomatch e
 intro T H' O' U O X Y z;exact nomatch z;intro v H' d O le ok C e;have e':d=uz (PyVbpcaa.answers ns):=e;subst e';obtain⟨p,W,rfl,_,x,r⟩:=C.lst_inv;rw[Jn _ r]at x;exact k H' p x
theorem all_mk{h:cY}{b:ao}(X:K.In h)(G:h.Ns bc mg)(i:mg "answers" = some (.ref b))(T:Facts K cS cT fI fJ aC fs)(q:pA P w K ⟨K,cS,cT⟩ aC (qy fs)):
  ∃a:gX,(∀(s:aB)(us:a5 ak),us.length=(["calls"]:a5 Str).length->Kv s a ⟨us,[]⟩ ((["calls"]:a5 Str).zip us))/\∀base:cY,K.In base->base.Ns bc mg->lS P w K mg base CQ 11 b a ["calls"] (XO K):=by obtain⟨f,j,n⟩:=T.Ph;have e:=i.symm.trans (UK X G j);cases e;obtain⟨u,t,p,r,kV,m,d,o,ct,l,c,k⟩:=n;refine⟨fu "answers" "answers" (lH j1) (gT j1) (b7 j1) .none kV m d p o ct,λs us g=>match us,g with|[_],_=>.of_eq rfl,λbase y z=>?_⟩;exact Ld (P:=P) (base:=base) ⟨T,λx v=>UK X G,λx=>PySem.W.mg_none_of X G⟩ q (S7 (st:=j1) l c k)
end
end
def Ua(K:au)(e:Nat×Nat×a5 Nat×a5 Nat)(a u:ao):Prop:=∃c b:ao,Xi K u [.int (e.1:Int),.int (e.2.1:Int),.ref c,.ref b,.ref a]/\Xi K c (e.2.2.1.map λ(n:Nat)=>V.int (n:Int))/\Xi K b (e.2.2.2.map λ(n:Nat)=>V.int (n:Int))
def abg(K:au)(ad:Nat->ao):Nat->a5 (Nat×Nat×a5 Nat×a5 Nat)->a5 jF->Prop
|_,[],[]=>True
|k,e::r,d::ds=>(∃t,d.key=.int (k:Int) t)/\d.hash=hashInt (k:Int)/\(∃u,d.val=.ref u/\Ua K e (ad k) u)/\abg K ad (k+1) r ds
|_,_,_=>False
def Qx:Nat->a5 jF->a5 (Key×ak)
|_,[]=>[]
|k,d::ds=>(.inl (k:Int),d.val)::Qx (k+1) ds
theorem Ua.rep{K:au}{cS cT:ao}{e:Nat×Nat×a5 Nat×a5 Nat}{a u:ao}(h:Ua K e a u):abd ⟨K,cS,cT⟩ (HZ e a) (.ref u):=by
 obtain⟨k,j,g,f,d⟩:=h;intro sa i H;have b:∀l:a5 Nat,bV ⟨K,cS,cT⟩ sa i H (l.map λ(n:Nat)=>D.int (n:Int)) (l.map λ(n:Nat)=>V.int (n:Int)):=by
  intro l
  induction l with
 |nil=>exact .nil
 |cons n l c=>exact .cons (.int _) c
 exact .Gn g (.cons (.int _) (.cons (.int _) (.cons (.Gn f (b _)) (.cons (.Gn d (b _)) (.cons (.fn a) .nil)))))
theorem Ce{P:bC}{w:cu}{K:au}{ad:Nat->ao}:∀(r:a5 (Nat×Nat×a5 Nat×a5 Nat))(k:Nat)(ds:a5 jF),abg K ad k r ds->Mn (fq P w) ds (Qx k ds)/\(∀d∈ds,∃x,(fq P w).is x d.key=true/\d.hash=(fq P w).hash x) ∧
  (∀x∈(Qx k ds).map (·.1),∃j:Nat,k<=j/\x=.inl (j:Int))/\((Qx k ds).map (·.1)).Nodup/\∀j e,r[j]? = some e->∃u,valueAt (Qx k ds) (.inl ((k+j:Nat):Int))=some (.ref u)/\Ua K e (ad (k+j)) u
|[],k,[],_=>⟨.nil,#v[0],by simp[Qx],by simp[Qx],#v[0]⟩
|[],k,d::ds,h=>h.elim
|e::r,k,[],h=>h.elim
|e::r,k,d::ds,h=>by
  obtain⟨⟨t,hk⟩,s,⟨u,o,p⟩,h'⟩:=h;obtain⟨n,m,c,l,i⟩:=Ce (P:=P) (w:=w) r (k+1) ds h';have b:(fq P w).is (.inl (k:Int)) d.key=true:=by rw[hk];exact zi P w _ t
  refine⟨.cons b rfl n,?_,?_,?_,?_⟩;intro x a;rcases aq.mp a with q|q;subst q;exact⟨.inl (k:Int),b,s⟩;exact m x q;intro x a;simp only[Qx,a9,aq]at a;rcases a with q|q;exact⟨k,aS _,q⟩;obtain⟨j,hj,e⟩:=c x q;exact⟨j,#v[],e⟩;simp only[Qx,a9,bg];refine⟨λa=>?_,l⟩;obtain⟨j,hj,e⟩:=c _ a;injection e with e;lia;intro j v hj
  match j,hj with
 |0,hj=>simp at hj;subst hj;refine⟨u,?_,p⟩;simp[Qx,valueAt,o]
 |j+1,hj=>obtain⟨f,a1,a2⟩:=i j v #v[hj];rw[show k+1+j=k+(j+1) by lia]at a1 a2;refine⟨f,?_,a2⟩;show((((.inl (k:Int),d.val)::Qx (k+1) ds:a5 (Key×ak)).find? λg=>decide (g.1=.inl ((k+(j+1):Nat):Int))).map (·.2))=_;rw[List.find?_cons_of_neg];exact a1;intro z;have:=of_decide_eq_true z;injection this with this;lia
theorem MD(ad:Nat->ao):∀(r:a5 (Nat×Nat×a5 Nat×a5 Nat))(k:Nat)(n:Int)(d:D),(KJ ad k r).lookup n=some d->∃j e,r[j]? = some e/\n=((k+j:Nat):Int)/\d=HZ e (ad (k+j))
|[],k,n,d,h=>by cases h
|x::r,k,n,d,h=>by
  unfold KJ at h;rw[f9]at h;split at h
  next a=>injection h with h;exact⟨0,x,rfl,by simpa using a,h.symm⟩
  obtain⟨j,e,f,c,b⟩:=MD ad r (k+1) n d h;exact⟨j+1,e,by simpa using f,by rw[c];lia,by rw[b,show k+1+j=k+(j+1) by lia]⟩
theorem aeV{K:au}{e:Nat×Nat×a5 Nat×a5 Nat}{a u c b:ao}{d1 d2 d3:Option ao}{g f d:Array ak}{s n2 r:Nat}{q p o:Array (Option ak)}(l1:K.lookup u=some ⟨.type "tuple",d1,.seq g s,q⟩)(j:g.size<=aQ)(m:Vals [.int (e.1:Int),.int (e.2.1:Int),.ref c,.ref b,.ref a] g.toList)(l2:K.lookup c=some ⟨.type "tuple",d2,.seq f n2,p⟩)(i:f.size<=aQ)(l:Vals (e.2.2.1.map λ(n:Nat)=>V.int (n:Int)) f.toList)(l3:K.lookup b=some ⟨.type "tuple",d3,.seq d r,o⟩)(h:d.size<=aQ)(k:Vals (e.2.2.2.map λ(n:Nat)=>V.int (n:Int)) d.toList):Ua K e a u:=
 ⟨c,b,⟨_,_,_,l1,rfl,rfl,j,m⟩,⟨_,_,_,l2,rfl,rfl,i,l⟩,⟨_,_,_,l3,rfl,rfl,h,k⟩⟩
section
variable{K:au}{x qual:Str}{st:jv}{f C:ao}{oc:ak}{od an:Option ao}{osl:Array (Option ak)}{kV doc pm cdv ct:ak}
theorem SO(l:K.lookup f=some ⟨oc,od,.func (fu x qual (lH st) (gT st) (b7 st) .none kV doc pm an cdv ct),osl⟩)(c:i7 K cdv qual=true)(k:c8 K (.ref f)=true):JZ K x qual st f:=⟨oc,od,an,osl,kV,doc,pm,cdv,ct,l,c,k⟩
theorem afH(n:bt K bc x=some (some (.ref f)))(l:K.lookup f=some ⟨oc,od,.func (fu x x (lH st) (gT st) (b7 st) .none kV doc pm an cdv ct),osl⟩)(c:i7 K cdv x=true)(k:c8 K (.ref f)=true):ND K x st:=⟨f,n,SO l c k⟩
theorem afI{g:ao}(n:bt K bc x=some (some (.ref f)))(l:K.lookup f=some ⟨oc,od,.func (fu x x (lH st) (gT st) (b7 st) .none kV doc pm an cdv ct),osl⟩)(c:i7 K cdv x=true)(k:c8 K (.ref f)=true)(h:g=f):N1 K x st g:=by subst h;exact⟨n,SO l c k⟩
theorem afJ(n:cH K (.ref C) x=some (some (.ref f)))(i:lL K (.ref f)=true)(l:K.lookup f=some ⟨oc,od,.func (fu x qual (lH st) (gT st) (b7 st) .none kV doc pm an cdv ct),osl⟩)(c:i7 K cdv qual=true)(k:c8 K (.ref f)=true):NM K C x qual st:=⟨f,n,i,SO l c k⟩
theorem afU{v:Int}{tk:Tok}(n:bt K bc x=some (some (.int v tk))):∃tk,bt K bc x=some (some (.int v tk)):=⟨tk,n⟩
end
theorem ado{P:bC}{w:cu}{K:au}{cS cT b:ao}{ad:Nat->ao}{a:a5 jF}{n:Nat}(hl:K.lookup b=some { cls:=.type "dict",data:=.dict a.toArray n })(k:abg K ad 0 ent a):pA P w K ⟨K,cS,cT⟩ b ad:=by obtain⟨h,g,o,f,c⟩:=Ce (P:=P) (w:=w) ent 0 a k;refine⟨_,a.toArray,n,Qx 0 a,hl,⟨rfl,rfl,rfl⟩,rfl,λd hd=>g d #v[hd],by simpa using h,f,λm d i=>?_⟩;obtain⟨j,e,l,rfl,rfl⟩:=MD ad ent 0 m d i;obtain⟨u,a1,a2⟩:=c j e l;exact⟨.ref u,.ref u,a1,rfl,a2.rep⟩
end DL
set_option genInjectivity false in
set_option genSizeOf false in
structure PySem.W.Fast where(tw18189793963508662644 tw16889470600545059327 tw1021406804540884368 tw6085715059186686550 tw5888794241743882371 tw13313544649539032509 tw12724655193009316238 tw6193234547660781307 tw9448023082030699105 tw16305419417056727500 tw1513086083494761149 tw7384135076278363333 tw4164657619940294522 tw18296856334347615490 tw13389197888503055298 tw16408747869275945629 tw8373456197711087882 tw1276653524994500882 tw6863893889720481095 tw2536735883120478036 tw10506816185486544486 tw16907175906439934431 tw8701201057966951158 tw15594802227542355619 tw15912776801134648796 tw17773939303021374498 tw6128833380022821524 tw2505911020436194381 tw18185378476713671671 tw15301029562073431130 tw6559588457479358618 tw11721215034532106289 tw14015886050146154511 tw2769763997910961624 tw2183391983550607296 tw3733097975592522678 tw13730584135619173309 tw4982014002003128966 tw15654137742805666536 tw14008997783657853994 tw41228124520064317 tw170856315725188317 tw5046508655087334900 tw2336027142084912032 tw15727296453473796605 tw8699019302928646336 tw757717560652597807 tw1474836805728907569 tw11217498013663216703 tw16687309904907336202 tw7704597399840699401 tw15913617771078129255 tw13960625983312154442 tw9278039855408174987 tw3029186576900309139 tw3312814708622030532 tw14087018507431567548 tw3168627135850599410 tw16915451316232501019 tw15614364033785453713 tw2844592585255241640 tw18097296339669639245 tw5574941491128254422 tw9772275058276521270 tw2746741576109123931 tw322233747106192004 tw11687722690043493839 tw17818613708816415040 tw10285129020944391717 tw885404274917824311 tw12832996261973893589 tw187271787340314497 tw6660912758239528182 tw8607172540543904603 tw2948114144399925890 tw250141833781247664 tw3374355190086847426 tw885439645470860378 tw8147052647894430396 tw8174002989227994994 tw18048715899830738920 tw179206845489343479 tw8195775965061257438 tw16813747901005582370 tw12971482786326202089 tw14840301570791047756 tw7413887685779400322 tw11908368484000094444 tw13135396795195314395 tw9899065390327885691 tw3692450157709579179 tw8765699260772128391 tw12314634485050656428 tw5796307328337907871 tw421065104623662937 tw17168290276070555262 tw12945250890687675681 tw9159537135567396251 tw1396526195655313799 tw16322504757052709150 tw15434604602386296207 tw13342767758118572039 tw13479261632077685265 tw13264784196293904624 tw11237665955501212783 tw3816485620698102271 tw2551303644665224574 tw11874959822066933029 tw15113541845327370598 tw12817681458191151456 tw384343321496685917 tw4926929086780693022 tw8473899236599247611 tw10337536797919140291 tw12929120227968857604 tw2731925022131706796 tw10667366068785640978 tw16956379173061338668 tw12799897035554107494 tw14143912369324741924 tw13038893180666120454 tw6942684222458123157 tw10762574279141901246 tw11992292457471212438 tw3021061473392422939 tw11207309022345126666 tw63549376936191677 tw17015810327220477278 tw1293857350448865117 tw3946156551688268646 tw18113235395595024697 tw2412674570326986245 tw8757469209464737852 tw5125431852789640723 tw1670463395176937893 tw11984837418042469017 tw8664862397879808003 tw12940472258023559217 tw4846610407599676261 tw3350005698805509953 tw5163065147673457254 tw9840213943667345435 tw6698677255477146362 tw512983361275120290 tw797668502895970613 tw584439020621689294 tw4016472851715203728 tw9939100599119434119 tw4614107090541137897 tw17841098543788653033 tw17751640679833709130 tw9456226524470292176 tw14086840374123000017 tw6487155522576731519 tw15201732144803619505 tw5258057273342140484 tw3579904917604356444 tw5994123577705551297 tw2666507370694584321 tw6279876699691670143 tw1494065711066974753 tw6877645192730335287 tw198693384835567756 tw7874847744117468590 tw3533469907988907585 tw2925503356681019683 tw4418713950706689063 tw11852132347181192644 tw8618213733864074244 tw8580137886099933827 tw11428978812896069624 tw11249700591866262720 tw1118757586141362628 tw10312335378585636070 tw7104773874951089553 tw1365764711736652315 tw16400520335413931237 tw8708096818919365718 tw8456756370337317690 tw15904461541248388378 tw8056859656813736094 tw7880434024760665692 tw12482933270765539921 tw8131991808480113052 tw13156192461912894712 tw13279000976660959029 tw7031159553171922732 tw9841781828171318910 tw10962632878492480026 tw8335324853280078158 tw13785556342750880697 tw4287856024526751640 tw12739290833198510491 tw7388568954504168354 tw9211426868970705106 tw16390138546784600807 tw4617967655073637987 tw17266534274327901270 tw6094343984172049561 tw16362170467716471856 tw8441075499134763765 tw1845715107846385215 tw2532291273180675250 tw7016355606366052532 tw14717377303163261976 tw1736918120976537619 tw13709326501862729518 tw13531184835677058309 tw17505197753525751719 tw7951061539034140144 tw13310891201301799239 tw5818796436763208803 tw1729038448790313087 tw15966160638959492975 tw5046095238607481909 tw10969880882094339541 tw4924864846618594567 tw2139646605535335360 tw13907474020263574442 tw3775491477353549926 tw8865339400806148413 tw6715181988236003785 tw6123167904614504848 tw1929667747856374471 tw14908208579959374895 tw9084842778456794908 tw2288633736691171876 tw18097617176146585417 tw8919357772702857903 tw14952737127305342582 tw65327131889665344 tw8122285643249333553 tw8971219264117378857 tw5153715633022541858 tw3264214382210285377 tw2384974090762941949 tw16483192744245504890 tw13542233111354901620 tw15860108675968398329 tw4010677881151194223 tw15341726804923947421 tw16432493423141524605 tw1255066884683909871 tw11786321037509199995:Unit)
open PySem PySem.W PyProof.Rows
local macro_rules | `(tactic| walk_at "K") => `(tactic| (refine' DL.SO ?a ?b ?c; (case a => k_is); (case b => k_is); (case c => k_is)))
local macro_rules | `(tactic| walk_at "N") => `(tactic| (refine' DL.afH ?a ?b ?c ?d; (case a => k_is); (case b => k_is); (case c => k_is); (case d => k_is)))
local macro_rules | `(tactic| walk_at "1") => `(tactic| (refine' DL.afI ?a ?b ?c ?d ?e; (case a => k_is); (case b => k_is); (case c => k_is); (case d => k_is); (case e => exact rfl)))
local macro_rules | `(tactic| walk_at "M") => `(tactic| (refine' DL.afJ ?a ?b ?c ?d ?e; (case a => k_is); (case b => k_is); (case c => k_is); (case d => k_is); (case e => k_is)))
local macro_rules | `(tactic| walk_at "I") => `(tactic| (refine' DL.afU ?a; (case a => k_is)))
local macro_rules | `(tactic| walk_at "V") => `(tactic| (repeat (first | exact .nil | refine' .cons ⟨_, rfl⟩ ?_ | refine' .cons rfl ?_)))
local macro_rules | `(tactic| walk_at "R") => `(tactic| (refine' ⟨⟨_, rfl⟩, by decide, ⟨_, rfl, DL.aeV ?a ?b ?c ?d ?e ?f ?g ?h ?i⟩, ?j⟩; (case a => k_is); (case b => decide); (case c => walk_at "V"); (case d => k_is); (case e => decide); (case f => walk_at "V"); (case g => k_is); (case h => decide); (case i => walk_at "V")))
set_option maxRecDepth 100000 in
set_option maxHeartbeats 0 in
theorem PySem.Challenge.cw_shapesheet_s01_answers_holds : PySem.Challenge.rw_shapesheet_s01_answers.Holds := by
  w_on; k_headS; (case hw => exact ⟨[.list [.int 24]], by decide +kernel, by decide +kernel⟩)
  k_fillS
  refine L2.Zh (r := PySem.Challenge.rw_shapesheet_s01_answers) (k := 11) (CX := L2.CQ) (ps := ["calls"]) (sp := DL.XO) (by decide +kernel) rfl rfl ⟨rfl, by decide, by decide⟩ (fun w h Y => PySem.W.kIn_of Y) ?F ?S (fun _ _ _ _ z => z)
  case F =>
    intro w mg fa h Y KX G hmg
    have hm2 : mg "answers" = some (.ref fa) := hmg
    clear Y hmg
    refine' DL.all_mk (fs := [_, _, _, _, _, _, _, _, _, _, _, _, _, _, _, _, _, _, _, _, _, _, _, _, _]) KX G hm2 ?zzT ?zzC
    case zzT =>
      constructor
      all_goals first | k_is | walk_at "1" | walk_at "N" | walk_at "K" | walk_at "M" | walk_at "I" | decide | rfl
    case zzC =>
      refine' DL.ado ?zzL ?zzE
      case zzL => k_is
      case zzE =>
        iterate 25 walk_at "R"
        trivial
  case S =>
    intro K H xs a hO hwi hask hx
    cases hx with
    | cons h1 h2 =>
      cases h2
      cases h1 with
      | lst hs ha =>
        have e := L2.Wy a.1 _ ha
        subst e
        exact ⟨_, a.1, rfl, hs, hask, fun H' p hp => .lst (L2.lY.of hp) (L2.WS _)⟩
