import PyProof.Rows.All
import Wide.All
import OpenK.AllK
import Wide.FinOn
import Lean
import PyProof.EqAt
import PyProof.EqKinds
import PyProof.TupleCall
import PySem.Challenge.RW_paperwright_k45_whole_known_roots_kept_a
set_option Elab.async false
set_option linter.all false
set_option compiler.extract_closed false
set_option maxRecDepth 100000
set_option maxHeartbeats 4000000
set_option hygiene false in
local macro_rules | `(tactic| walk_at "lo") => `(tactic| first | exact False.elim h | (obtain ⟨rfl, _⟩ := h; rfl) | (obtain ⟨_, h⟩ := h; walk_at "lo"))
set_option hygiene false in
local macro_rules | `(tactic| walk_at "l") => `(tactic| (intro _ _ _ h; walk_at "lo"))
set_option hygiene false in
local macro_rules | `(tactic| fin2) => `(tactic| first | dsimp only [↓TV, ↓NC, TX, wSs, wS, wE, wA, Cu, SX, wP, ID, Az, IE, dQ, setAt, List.getElem?_cons_zero, List.getElem?_cons_succ, look, List.set, bI, n8, cI, aj, List.map_cons, List.map_nil, List.nil_append, List.cons_append, x_len, DY, DZ, L3, L4, L5, D3, AA, L6, L7, L8, Ma, Mb, Mc, D4, Me, Mf, TY, TZ, x_lt, T3, T4, T5, Mg, Mh, uC, T6, Mi, Mj, Ml, T7, Mm, Mn, Mp, Mq, AB, wO, T8, Mr, T9, Mt, Mu, D5, AD, gx, List.replicate, if_true, Bool.not_true, Bool.not_false] | simp only [List.getElem?_cons_zero, List.getElem?_cons_succ, List.map_cons, List.map_nil, List.nil_append, List.cons_append, x_len, DY, DZ, L3, L4, L5, D3, AA, L6, L7, L8, Ma, Mb, Mc, D4, Me, Mf, TY, TZ, x_lt, T3, T4, T5, Mg, Mh, uC, T6, Mi, Mj, Ml, T7, Mm, Mn, Mp, Mq, AB, wO, T8, Mr, T9, Mt, Mu, D5, AD, gx, List.replicate, if_true, Bool.not_true, Bool.not_false] | skip)
set_option hygiene false in
local macro_rules | `(tactic| walk_at "hd") => `(tactic| (refine' Mv.Ua ?ka ?kl ?kc ?kk; (case ka => k_is); (case kl => k_is); (case kc => k_is); (case kk => k_is)))
set_option hygiene false in
local macro_rules | `(tactic| walk_at "hm") => `(tactic| (refine' Mv.Ub ?ka ?ki ?kl ?kc ?kk; (case ka => k_is); (case ki => k_is); (case kl => k_is); (case kc => k_is); (case kk => k_is)))
set_option hygiene false in
local macro_rules | `(tactic| walk_at "bn") => `(tactic| first | exact Mv.Uc fun _ _ _ _ _ _ _ => rfl | exact Mv.X0 fun _ _ _ _ _ _ _ _ => rfl | exact Mv.X3 fun _ _ _ _ _ _ _ _ _ => rfl | exact Mv.Ud fun _ _ _ _ _ _ _ _ _ _ => rfl)
set_option hygiene false in
local macro_rules | `(tactic| walk_at "ah") => `(tactic| (refine' And.intro (And.intro ?h1 ?h2) ?_; (case h1 => walk_at "hd"); (case h2 => walk_at "bn")))
set_option hygiene false in
local macro_rules | `(tactic| walk_at "az") => `(tactic| (refine' And.intro ?h1 ?_; (case h1 => k_is)))
open List renaming getD_eq_getElem?_getD->AC,length_map->Bi,getElem?_eq_getElem->D2,mem_cons_of_mem->FM,getElem?_map->FR,mem_cons_self->FS,mem_singleton->Fh,getElem?_eq_some_iff->Fu,getElem?_eq_none->Gc,size_toArray->Hk,mem_cons->IH,length_pos_iff->Jn,length_append->KB,getLast?_eq_getElem?->KM,isEmpty_iff->Ki,mem_of_getElem?->Mo,mem_append_right->NA,getElem?_append_right->NM,mem_map->OF,length_eq_zero_iff->Oy,getElem?_append_left->QP,append_assoc->Re,mem_append->SL,all_eq_true->T2,getElem?_set_ne->TC,map_map->U2,getElem_of_mem->UF,map_cons->Wp,length_set->XB,length_take->cx,getElem_mem->d5,length_range->de,getElem?_range->dt,nodup_cons->du,length_reverse->gL,getElem?_set_self->gd,pairwise_cons->hJ,drop_eq_getElem_cons->i3,mem_filter->i5,append_nil->ik,mem_append_left->il,map_congr_left->kS,pairwise_singleton->kb,getLast?_cons_cons->ke,map_set->lj,map_append->mB,ext_getElem?->ma,getElem?_take_of_lt->ox,getElem?_replicate->rh,length_eq_one_iff->si,getLast?_map->sk,countP_cons->tJ,dropLast_concat_getLast->ui,map_eq_nil_iff->va,countP_eq_zero->vb,mem_range->wx,reverse_cons->xn,not_mem_nil->y8,length_drop->yA,drop_length->yB,take_of_length_le->zz7,range_succ_eq_map->zz8,pairwise_append->zzi,nodup_nil->zzj,mem_of_mem_take->zzk,length_cons->Av,replicate->B1,range->Bn,nil_append->C0,lookup_cons->Ck,cons_append->Dh,all_cons->G1,replicate_succ->G2,flatten_cons->Ig,zip_cons_cons->Ih,lookup->Ik,filterMap_cons->Ji,length_singleton->L1,length->LZ,mem_filterMap->MT,map_replicate->My,map_inj_right->Mz,pairwise_iff_forall_sublist->ON,map_nil->Ol,getElem?_set->Om,filter_cons->S0,of_mem_zip->Sz,map_const'->TQ,length_nil->TR,drop_zero->WI,pairwise_iff_getElem->Wh,map_take->XJ,reverse_singleton->XW,take_append_drop->Xw,singleton_append->Y3,getElem?_zipWith->YJ,dropLast_eq_take->YP,mem_of_mem_drop->ZF,getLast?_concat->ZK,reverse_append->Zn,flatMap_append->aX,dropWhile_cons->aY,countP_pos_iff->aa,set_cons_succ->bX,getElem_range->ba,foldl->bb,take_sublist->bf,nodup_append->bg,any_eq_false->cR,take_length->d3,perm_middle->dA,mem_flatMap->dB,map_drop->eB,set->iz
open Rat renaming intCast_mul->BM,mul_le_mul_of_nonneg_left->Da,le_of_lt->FK,intCast_le_intCast->FV,mul_inv_cancel->Fs,mul_pos->GE,intCast_eq_zero_iff->GM,mul_le_mul_of_nonneg_right->Kb,mul_eq_zero->Kk,inv_mul_cancel->OK,mul_nonneg->PH,inv_pos->Pi,mul_zero->Pv,intCast_add->RF,num_divInt_den->SC,intCast_sub->SF,zero_mul->Y2,intCast_pos->Ya,divInt_eq_divInt_iff->cb,pow_succ->cm,one_mul->cq,mul_assoc->dC,le_of_mul_le_mul_left->hZ,intCast_lt_intCast->kz,divInt_eq_div->mM,mul_one->mf,zero_add->mn,pow_zero->my,intCast_neg_iff->oe,intCast_inj->oy,le_trans->rp,natCast_mul->ub,natCast_le_natCast->zz1,mul_comm->zz2,add_zero->zz3,natCast_pos->zzd,divInt->An,intCast_neg->DN,le_refl->Sd,num_eq_zero->Tf,mul_pos_iff_of_pos_right->UW,mul_lt_mul_of_pos_left->WR,divInt_mul_divInt->Yl,add_mul->ZM,inv_def->fq
open Bool renaming and_eq_true->DL,false_ne_true->PQ,and_eq_true_iff->Pt,or_false->dE,and_false->fe,not_eq_true->kf,or_eq_true->uj,eq_iff_iff->uk,not_eq_true'->xt,false_eq_true->NI,true_and->eF,and_true->ed
open Nat renaming le_trans->Do,le_refl->FC,mul_le_mul_left->Fk,lt_of_lt_of_le->Fm,lt_of_le_of_lt->HI,pow_le_pow_right->Ha,add_sub_cancel->On,zero_le->Os,mul_le_mul->QR,lt_succ_self->Qr,le_of_lt->SZ,pow_pos->TB,ne_of_lt->Ts,le_mul_of_pos_right->UV,le_add_right->W1,pow_lt_pow_right->X1,mul_le_mul_right->X9,lt_irrefl->Xt,pow_add->Y1,mul_comm->ag,pow_le_pow_left->bj,add_sub_cancel_left->cw,lt_succ_of_lt->fo,le_of_not_lt->h7,eq_zero_or_pos->h8,pow_mul->ky,zero_add->lh,mul_assoc->mI,mul_lt_mul_of_pos_right->mN,le_of_eq->n4,add_assoc->oo,le_max_left->pj,lt_of_le_of_ne->rg,le_mul_of_pos_left->sT,le_max_right->tI,sub_le_sub_right->tm,mul_add->tq,add_le_add_right->u3,add_le_add_left->vT,sub_self->vk,one_le_two_pow->wb,add_right_comm->wt,sub_pos_of_lt->xb,lt_succ_of_le->xc,le_zero->xf,le_succ->xi,add_mul->xk,sub_le->zz4,sub_add_sub_cancel->zz5,add_comm->zz6,le_add_left->zze,add_le_add->zzh,pow_succ->El,sub_zero->Km,succ_mul->R1,ne_of_gt->R7,mul_succ->RV,le_succ_of_le->RW,succ_le_succ->S2,lt_of_not_le->S5,mul_one->Sn,log2_lt->Sx,eq_of_mul_eq_mul_left->X8,succ_pred_eq_of_pos->XN,exists_eq_add_of_le->XO,zero_mul->Xl,pow_zero->Xm,mul_zero->Xo,sub_sub->ZN,sub_lt_sub_right->ZQ,one_pos->ZW,one_mul->Zi,Coprime->Zj,add_lt_add_left->bN,le_of_lt_succ->cg,min_le_right->dr,min_eq_left->e5,le_antisymm->e6,le_of_dvd->ef,succ_pos->ew,le_total->ey,add_zero->fb,two_mul->fw,sub_lt->hX,succ->jH
open Classical renaming byContradiction->Ee,choose_spec->WO,not_not->Xi,choose->YS,propDecidable->jh
open Int renaming natAbs_mul->GT,pow_succ->Hb,fdiv_eq_ediv_of_nonneg->Iy,mul_ne_zero->Kt,pow_zero->PP,eq_of_mul_eq_mul_left->QQ,gcd_dvd_right->SB,mul_zero->T1,le_of_lt->TK,natAbs_dvd_natAbs->Ta,mul_assoc->Yf,mul_comm->ar,natAbs_ediv_le_natAbs->aw,one_mul->bo,zero_mul->dk,mul_one->eC,gcd_dvd_left->eD,le_of_dvd->eJ,mul_pos->eP,mul_nonneg->eQ,mul_le_mul_of_nonneg_left->fI,fmod_eq_emod_of_nonneg->hU,add_zero->iq,mul_fdiv_cancel_left->js,mul_ediv_cancel_left->kA,gcd_comm->oC,pow_add->rk,fdiv_eq_ediv_of_dvd->rl,lt_or_le->so,mul_le_mul_of_nonneg_right->tj,neg_mul->u4,ediv_mul_cancel->vi,gcd_pos_of_ne_zero_left->vw,lt_or_gt_of_ne->wy,emod_lt_of_pos->x5,ediv_pos_of_pos_of_dvd->xI,dvd_mul_of_dvd_right->y3,emod_eq_zero_of_dvd->yn,dvd_of_emod_eq_zero->zi,zero_sub->zz9,zero_add->zza,sub_zero->zzb,dvd_zero->zzc,mul_neg->zzl,mul_ediv_cancel'->zzm,mul_dvd_mul_left->zzn,mul_add->zzo,gcd->AS,natAbs_natCast->BB,toNat_natCast->Gg,natAbs->L0,toNat_of_nonneg->MH,dvd_trans->N0,gcd_zero_right->Ni,dvd_refl->Rn,ediv_le_self->SW,nonneg_of_mul_nonneg_left->TU,neg_mul_neg->Ug,emod_nonneg->VN,ediv_nonneg->W5,natAbs_pow->X5,pow_one->ax,dvd_sub->b5,natCast_nonneg->cZ,lt_or_eq_of_le->cc,natAbs_sub_le->dV,natAbs_add_le->dc,mul_left_comm->dg,gcd_mul_left->dy,natCast_pow->e7,dvd_coe_gcd->e9,dvd_natAbs->eE,zero_fdiv->ej,ediv_self->eu,zero_dvd->fg,add_comm->fh,pow_pos->fx,one_pow->fy,one_dvd->fz,neg_gcd->g4,le_refl->gm,gcd_neg->h9,dvd_neg->hH,dvd_gcd->hO,dvd_add->hV
open PySem.Heap renaming get?_push_of_some->He,lt_size->KF,get?_push_size->Sr
open PySem renaming wpAny_bind->Hn,wpAny_pure->P3,mem_of_lookup->Tb,wpAny_Call_Name_kw->me,wpAny_passesOwn->ml,wpAny_truthy_bool->oI,wpAny_newObj_type->oP,wpAny_mono->sv
open Option renaming map_eq_some_iff->L9,isSome_iff_exists->eI,map_some->Ij,getD_none->bM,none->eA
open Option.some renaming inj->Pm
open PyProof.Rows renaming callWith_type1->d6,slot_tuple_getitem->t4,callWith_builtin1->ft
open Ne renaming symm->gN
open PySem.W renaming callWith_K->wa
open PySem.F renaming plainAttrs_list->y6
open Std.Associative renaming assoc->zzf
open False renaming elim->FE
open Prod renaming fst->IB
open ForInStep renaming yield->Ii
open List.Pairwise renaming nil->Il,imp_of_mem->fc
open Array renaming length_toList->Jf,append_assoc->b9,toList->ee
open Sum renaming inr->Pc,inl->Qf
open Std.Commutative renaming comm->R0
open List.cons renaming inj->SV,injEq->ZL
open Nat.succ renaming inj->WB
open PyProof renaming noPylong_small->Wc
open Or renaming inr->Yx,inl->ZC
open List.Perm renaming refl->ae
open True renaming intro->fi
open Nat.Coprime renaming symm->hY,mul_left->i0,dvd_of_dvd_mul_right->ib,dvd_of_dvd_mul_left->ig,coprime_dvd_right->ip
open Decidable renaming not_not->jK
def Bz:=@if_neg
def D1:=@if_pos
def Dx:=@of_decide_eq_true
def Fn:=@decide_eq_true
def IR:=@decide_eq_false
def KE:=@decide_eq_true_eq
def Qb:=@beq_iff_eq
def SU:=@congrArg
def oT:=@beq_eq_false_iff_ne
def rf:=@of_decide_eq_false
def t5:=@beq_self_eq_true
def w8:=@congrFun
def y4:=@decide_eq_decide
def zz0:=@if_true
def zzg:=@if_false
noncomputable section
set_option bootstrap.genMatcherCode false
open PySem.W(instObj methodObj hideAll_get Frag lookIn plainGet hasDictIn findIn plainGet_of isFn plainOver takerIn makesIn emptyDict keepIn mroIn fnOf codeIn nsIn mg_of)
namespace L2
open PySem PySem.Spec PyProof.Rows
abbrev Key:=Sum Int Str
noncomputable def Mw:Key->Value->Bool
 |.inl k,v=>Value.isInt k v
 |.inr x,v=>Value.isStrOf x v
noncomputable def X4(w:World):Key->Int
 |.inl k=>hashInt k
 |.inr x=>hashStr w x
theorem bO:∀{k:Key}{v:Value},Mw k v=true->(∃i t,k=Qf i/\v=Value.int i t)\/(∃x t,k=Pc x/\v=Value.str x t)
 |.inl i,v,h=>by obtain⟨t,e⟩:=Value.isInt_shape (k:=i) (v:=v) h;exact .inl ⟨i,t,rfl,e⟩
 |.inr x,v,h=>by obtain⟨t,e⟩:=Value.isStrOf_shape (x:=x) (v:=v) h;exact .inr ⟨x,t,rfl,e⟩
theorem ND(a b:Int):decide ((Qf a:Key)=Qf b)=(a==b):=by
 by_cases e:a=b
 .subst e;simp
 .have h:¬(Qf a:Key)=Qf b:=λq=>e (Sum.inl.inj q);rw[IR h];exact(oT.mpr e).symm
theorem NF(a b:Str):decide ((Pc a:Key)=Pc b)=decide (a=b):=by
 by_cases e:a=b
 .subst e;simp
 .have h:¬(Pc a:Key)=Pc b:=λq=>e (Sum.inr.inj q);rw[IR h,IR e]
theorem NG(a:Int)(b:Str):decide ((Qf a:Key)=Pc b)=false:=IR (λq=>nomatch q)
theorem NH(a:Str)(b:Int):decide ((Pc a:Key)=Qf b)=false:=IR (λq=>nomatch q)
noncomputable def AE(prog:Program)(w:World):PySem.KeyKind prog w Key where
 is:=Mw
 hash:=X4 w
 inj:=λv a b g d=>by
  rcases bO g with⟨i,t,rfl,rfl⟩|⟨x,t,rfl,rfl⟩
  .rcases bO d with⟨j,u,rfl,e⟩|⟨y,u,rfl,e⟩
   .injection e with e1 _;rw[e1]
   .exact nomatch e
  .rcases bO d with⟨j,u,rfl,e⟩|⟨y,u,rfl,e⟩
   .exact nomatch e
   .injection e with e1 _;rw[e1]
 byValue:=λk v h=>by rcases bO h with⟨i,t,rfl,rfl⟩|⟨x,t,rfl,rfl⟩<;>rfl
 pyHash:=λc h=>by
  rcases bO c with⟨i,t,rfl,rfl⟩|⟨x,t,rfl,rfl⟩
  .exact wpAny_pyHash_int h
  .exact wpAny_pyHash_str h
 eqBool:=λf c h=>by
  rcases bO f with⟨i,t,rfl,rfl⟩|⟨x,t,rfl,rfl⟩
  .rcases bO c with⟨j,u,rfl,rfl⟩|⟨y,u,rfl,rfl⟩
   .rw[ND]at h;exact wpAny_eqBool_int h
   .rw[NG]at h;exact SeqAt.EqAt.int_str i t y u _ _ _ _ h
  .rcases bO c with⟨j,u,rfl,rfl⟩|⟨y,u,rfl,rfl⟩
   .rw[NH]at h;exact SeqAt.EqAt.str_int x t j u _ _ _ _ h
   .rw[NF]at h;exact wpAny_eqBool_str h
 «strs»:=λk x t v h=>by
  rcases bO h with⟨i,u,rfl,e⟩|⟨y,u,rfl,e⟩
  .exact nomatch e
  .injection e with e1 _;subst e1;cases v<;>rfl
inductive V where
 |cu|bl (b:Bool)|int (i:Int)|str (x:Str)|DM (b:Array UInt8)|SY (b:UInt64)|ref (a:Addr)|ty (n:String)
 deriving DecidableEq
def RelV:V->Value->Prop
 |.cu,u=>u=Value.none
 |.bl b,u=>u=Value.bool b
 |.int i,u=>∃t,u=Value.int i t
 |.str x,u=>∃t,u=Value.str x t
 |.DM b,u=>∃t,u=Value.bytes b t
 |.SY b,u=>∃t,u=Value.float b t
 |.ref a,u=>u=Value.ref a
 |.ty n,u=>u=Value.type n
abbrev Vals:List V->List Value->Prop:=Paired RelV
theorem Vals.length(r:Vals a us):a.length=us.length:=Paired.length r
theorem Vals.get:∀{a:List V}{us:List Value}{i:Nat}{x:V},Vals a us->a[i]?=some x->∃u,us[i]?=some u/\RelV x u
 |_,_,_,_,.nil,e=>by simp at e
 |_,_,0,_,.cons r _,e=>by simp at e;subst e;exact⟨_,rfl,r⟩
 |_,_,i+1,x,.cons _ t,e=>by obtain⟨u,c,b⟩:=Vals.get (i:=i) (x:=x) t (by simpa using e);exact⟨u,by simpa using c,b⟩
theorem Vals.set(r:RelV x u):∀{a:List V}{us:List Value}(i:Nat),Vals a us->Vals (a.set i x) (us.set i u)
 |_,_,_,.nil=>.nil
 |_,_,0,.cons _ t=>.cons r t
 |_,_,i+1,.cons q t=>.cons q (Vals.set r i t)
theorem Vals.append:∀{b a:List V}{us c:List Value},Vals b us->Vals a c->Vals (b++a) (us++c)
 |_,_,_,_,.nil,s=>s
 |_,_,_,_,.cons r t,s=>.cons r (Vals.append t s)
theorem Vals.take:∀{a:List V}{us:List Value}(n:Nat),Vals a us->Vals (a.take n) (us.take n)
 |_,_,0,_=>.nil
 |_,_,_+1,.nil=>.nil
 |_,_,n+1,.cons r t=>.cons r (Vals.take n t)
theorem Vals.drop:∀{a:List V}{us:List Value}(n:Nat),Vals a us->Vals (a.drop n) (us.drop n)
 |_,_,0,r=>r
 |_,_,_+1,.nil=>.nil
 |_,_,n+1,.cons _ t=>Vals.drop n t
def r9:Option V->Option Value->Prop
 |some v,some u=>RelV v u
 |none,none=>True
 |_,_=>False
def KV{κ:Type}:List (κ×V)->List (κ×Value)->Prop:=Paired λ(p:κ×V)(q:κ×Value)=>p.1=q.1/\RelV p.2 q.2
noncomputable def kV:Key->V
 |.inl i=>.int i
 |.inr x=>.str x
inductive HO where
 |lst (xs:List V)
 |tup (xs:List V)
 |dK (kvs:List (Key×V))|dT (kvs:List (List Key×V))
 |set (S:Int->Bool) (n:Nat)
 |ins (C dx:Addr) (fs:List (Str×V))
 |own (x:Addr)
 |xd (fs:List (Str×V))
 |met (f x:Addr)
 |jN (lo hi:Int)
 |AF (o:Obj) (u:HO)
 |Mx (ps:Array Value)
 |ext (φ:Heap->Prop)
abbrev Hp:=Addr->Option HO
noncomputable def upd(H:Hp)(a:Addr)(o:HO):Hp:=λb=>if b=a then some o else H b
theorem aJ:upd H a o a=some o:=by unfold upd;rw[D1 rfl]
theorem ay(h:b≠a):upd H a o b=H b:=by unfold upd;rw[Bz h]
theorem aT{H:Hp}(h:H a=some o)(h':H b=none):a≠b:=by intro e;subst e;rw[h]at h';cases h'
section
variable(P:Program)(w:World)
def dH(H:Hp)(h:Heap)(a:Addr):HO->Prop
 |.lst d=>d.length<=sizeLine/\∃(c:List Value)(n:Nat),Vals d c/\h.get? a=some {cls:=.type "list",data:=.seq c.toArray n}
 |.tup d=>d.length<=sizeLine/\∃c:List Value,Vals d c/\IsTup h a c.toArray
 |.dK b=>b.length<=sizeLine/\(a==sysModules)=false/\∃vs,KV b vs/\h.DictOf (AE P w) a vs
 |.dT b=>b.length<=sizeLine/\(a==sysModules)=false/\∃d:List (List Key×Addr×Value),
   Paired (λ(p:List Key×V)(q:List Key×Addr×Value)=>p.1=q.1/\H q.2.1=some (.tup (p.1.map kV))/\RelV p.2 q.2.2) b d/\
   ∃o l m,h.get? a=some o/\o.ExactDict/\o.data=.dict l m/\l.toList=d.map (entryOfKey (tupleKind (AE P w)))/\(d.map (·.1)).Nodup
 |.set S n=>h.SetOf (intKind P w) a S n
 |.ins C i g=>H i=some (.own a)/\g.length<=1000/\i≠a/\h.get? a=some (instObj C i)/\
   ∃e,h.Ns1 i e/\(∀f,r9 (g.lookup f) (e f))/\PySem.Within e (g.map (·.1))
 |.own _=>∃o,h.get? a=some o
 |.xd g=>∃e,h.Ns1 a e/\∀f,r9 (g.lookup f) (e f)
 |.jN lo hi=>∃t u v,h.get? a=some {cls:=.type "range",data:=.fields #[.int lo t,.int hi u,.int 1 v]}
 |.AF o u=>h.get? a=some o/\dH H h a u
 |.Mx ps=>h.get? a=some {cls:=.none,data:=.fields ps}
 |.met f x=>h.get? a=some (methodObj (.ref f) (.ref x))
 |.ext φ=>φ h/\(∃o,h.get? a=some o)/\∀k j:Heap,φ k->(∀o,k.get? a=some o->j.get? a=some o)->φ j
def kC(H:Hp)(h:Heap):Prop:=∀a o,H a=some o->dH P w H h a o
end
section
variable{P:Program}{w:World}{H H':Hp}{h h':Heap}{a:Addr}{o:HO}
theorem dH.lt(x:dH P w H h a o):a<h.objs.size:=by
 cases o with
 |lst c=>obtain⟨_,_,_,_,e⟩:=x;exact KF e
 |tup c=>obtain⟨_,_,_,p⟩:=x;exact p.lt
 |dK b=>obtain⟨_,_,_,_,o,_,_,e,_⟩:=x;exact KF e
 |dT b=>obtain⟨_,_,_,_,o,_,_,e,_⟩:=x;exact KF e
 |set S n=>obtain⟨o,_,_,_,e,_⟩:=x;exact KF e
 |ins C l d=>obtain⟨_,_,_,e,_⟩:=x;exact KF e
 |own y=>obtain⟨_,e⟩:=x;exact KF e
 |xd d=>obtain⟨_,⟨_,_,_,e,_⟩,_⟩:=x;exact KF e
 |jN j k=>obtain⟨_,_,_,e⟩:=x;exact KF e
 |AF i u=>obtain⟨e,_⟩:=x;exact KF e
 |Mx g=>exact KF (show h.get? a=some _ from x)
 |met f y=>exact KF (show h.get? a=some _ from x)
 |ext φ=>obtain⟨_,⟨_,e⟩,_⟩:=x;exact KF e
theorem Paired.Ue:∀{d:List α}{c:List e},Paired F d c->(∀a b,F a b->G a b)->Paired G d c
 |_,_,.nil,_=>.nil
 |_,_,.cons r t,f=>.cons (f _ _ r) (Paired.Ue t f)
theorem dH.stay(x:dH P w H h a o)(k:∀b u,(b=a\/H b=some (.own a))->h.get? b=some u->h'.get? b=some u)
 (K:∀b,H b=some (.own a)->H' b=some (.own a))(J:∀b m,H b=some (.tup m)->H' b=some (.tup m)):dH P w H' h' a o:=by
 induction o with
 |lst m=>obtain⟨z,l,n,r,e⟩:=x;exact⟨z,l,n,r,k _ _ (.inl rfl) e⟩
 |tup m=>obtain⟨z,l,r,g,e,c⟩:=x;exact⟨z,l,r,g,k _ _ (.inl rfl) e,c⟩
 |dK B=>obtain⟨z,y,F,r,g,i,j,e,c⟩:=x;exact⟨z,y,F,r,g,i,j,k _ _ (.inl rfl) e,c⟩
 |dT B=>obtain⟨z,y,m,r,g,i,j,e,c⟩:=x;exact⟨z,y,m,Paired.Ue r λp q z=>⟨z.1,J _ _ z.2.1,z.2.2⟩,g,i,j,k _ _ (.inl rfl) e,c⟩
 |set S n=>obtain⟨g,i,j,t,e,c⟩:=x;exact⟨g,i,j,t,k _ _ (.inl rfl) e,c⟩
 |ins C Q L=>obtain⟨d,z,G,e,A,⟨s,i,j,M,c⟩,r⟩:=x;exact⟨K _ d,z,G,k _ _ (.inl rfl) e,A,⟨s,i,j,k _ _ (.inr d) M,c⟩,r⟩
 |own y=>obtain⟨g,e⟩:=x;exact⟨g,k _ _ (.inl rfl) e⟩
 |xd L=>obtain⟨A,⟨s,i,j,e,c⟩,r⟩:=x;exact⟨A,⟨s,i,j,k _ _ (.inl rfl) e,c⟩,r⟩
 |jN N O=>obtain⟨t,u,v,e⟩:=x;exact⟨t,u,v,k _ _ (.inl rfl) e⟩
 |AF g u I=>obtain⟨e,q⟩:=x;exact⟨k _ _ (.inl rfl) e,I q⟩
 |Mx E=>have e:h.get? a=some {cls:=.none,data:=.fields E}:=x;show h'.get? a=some {cls:=.none,data:=.fields E};exact k a _ (.inl rfl) e
 |met f y=>have e:h.get? a=some (methodObj (.ref f) (.ref y)):=x;show h'.get? a=some (methodObj (.ref f) (.ref y));exact k a _ (.inl rfl) e
 |ext φ=>obtain⟨p,⟨o,e⟩,D⟩:=x;exact⟨D _ _ p λo q=>k _ _ (.inl rfl) q,⟨o,k _ _ (.inl rfl) e⟩,D⟩
theorem kC.lt(x:kC P w H h)(e:H a=some o):a<h.objs.size:=(x a o e).lt
theorem kC.fresh(x:kC P w H h)(e:h.objs.size<=a):H a=none:=by
 cases q:H a with
 |none=>rfl
 |some u=>exact absurd (Fm (x.lt q) e) (Xt _)
theorem kC.kept(x:kC P w H h)(k:∀b u,h.get? b=some u->h'.get? b=some u):kC P w H h':=λa o e=>(x a o e).stay (λb u _ q=>k b u q) (λ_ q=>q) λ_ _ q=>q
theorem kC.laid(x:kC P w H h)(k:∀b u,h.get? b=some u->h'.get? b=some u)(i:h.objs.size<=a)(d:dH P w (upd H a o) h' a o):kC P w (upd H a o) h':=λb u e=>by
 have f:=x.fresh i;by_cases g:b=a
 .subst g;rw[aJ]at e;cases e;exact d
 .rw[ay g]at e;exact(x b u e).stay (λc v _ q=>k c v q) (λc q=>by rw[ay (aT q f)];exact q) λc j q=>by rw[ay (aT q f)];exact q
end
def Rd(H:Hp)(a:Addr)(u:HO):Prop:=H a=some u\/∃o,H a=some (.AF o u)
theorem Rd.ok(r:Rd H a u)(x:kC P w H h):dH P w H h a u:=by
 rcases r with r|⟨o,r⟩
 .exact x a u r
 .obtain⟨_,q⟩:=x a _ r;exact q
def Xf:Option HO->Prop
 |some (.lst _)=>True
 |some (.dK _)=>True
 |some (.dT _)=>True
 |some (.set _ _)=>True
 |some (.ins _ _ _)=>True
 |some (.ext _)=>True
 |_=>False
section
variable{P:Program}{w:World}{H:Hp}{h h':Heap}{x e:Addr}{o':HO}
theorem kC.write(n:kC P w H h)(mu:Xf (H x))(l:e=x\/H e=some (.own x))(k:∀b u,b≠e->h.get? b=some u->h'.get? b=some u)(s:∃u,h'.get? e=some u)
 (i:dH P w (upd H x o') h' x o'):kC P w (upd H x o') h':=λb u q=>by
 have m:∀c y,H c=some (.own y)->c≠x:=λc y r z=>by subst z;rw[r]at mu;exact mu
 have p:∀c a,H c=some (.tup a)->c≠x:=λc a r z=>by subst z;rw[r]at mu;exact mu
 by_cases f:b=x
 .subst f;rw[aJ]at q;cases q;exact i
 .rw[ay f]at q;by_cases g:b=e
  .have j:H b=some (.own x):=by
    rcases l with z|z
    .exact absurd (g.trans z) f
    .rw[g];exact z
   rw[q]at j;cases j;obtain⟨v,o⟩:=s;exact⟨v,by rw[g];exact o⟩
  .refine(n b u q).stay (λc v d r=>k c v ?_ r) (λc r=>by rw[ay (m c b r)];exact r) λc a r=>by rw[ay (p c a r)];exact r
   rcases d with rfl|d
   .exact g
   .rintro rfl;rcases l with z|z
    .exact m c b d z
    .rw[d]at z;cases z;exact f rfl
end
structure Un(fs ex:List Addr)(H H':Hp)(h h':Heap):Prop where
 keep:∀b o,h.get? b=some o->H b=none->b∉fs->b∉ex->h'.get? b=some o
 slot:∀b o,h.get? b=some o->H b=none->b∈fs->b∉ex->∃sl,h'.get? b=some {o with slots:=sl}
 free:∀b o,h.get? b=some o->H b=none->b∉ex->H' b=none
 there:∀b o,h.get? b=some o->b∉ex->∃o',h'.get? b=some o'
 tups:∀b xs,H b=some (.tup xs)->H' b=some (.tup xs)
 mK:∀b o u,H b=some (.AF o u)->H' b=some (.AF o u)
 n9:∀b ps,H b=some (.Mx ps)->∃more,H' b=some (.Mx (ps++more))
section
variable{fs fs' ex ex':List Addr}{H H1 H2:Hp}{h h1 h2 h':Heap}{a x e:Addr}{o:HO}
theorem Un.any(u:Un fs ex H H1 h h1)(q:h.get? b=some c)(n:H b=none)(d:b∉ex):∃g,h1.get? b=some {c with slots:=g}:=by
 by_cases f:b∈fs
 .exact u.slot b c q n f d
 .exact⟨c.slots,u.keep b c q n f d⟩
theorem Un.kept(k:∀b u,h.get? b=some u->h'.get? b=some u):Un fs ex H H h h':=
 ⟨λb c q _ _ _=>k b c q,λb c q _ _ _=>⟨c.slots,k b c q⟩,λ_ _ _ n _=>n,λb c q _=>⟨c,k b c q⟩,λ_ _ q=>q,λ_ _ _ q=>q,λ_ d q=>⟨#[],by rw[q];simp⟩⟩
theorem Un.refl:Un fs ex H H h h:=Un.kept λ_ _ q=>q
theorem Un.laid(k:∀b u,h.get? b=some u->h'.get? b=some u)(f:h.objs.size<=a)(c:H a=none):Un fs ex H (upd H a o) h h' where
 keep:=λb u q _ _ _=>k b u q
 slot:=λb u q _ _ _=>⟨u.slots,k b u q⟩
 free:=λb u q n _=>by rw[ay (Ts (Fm (KF q) f))];exact n
 there:=λb u q _=>⟨u,k b u q⟩
 tups:=λb d q=>by rw[ay (aT q c)];exact q
 mK:=λb u d q=>by rw[ay (aT q c)];exact q
 n9:=λb g q=>⟨#[],by rw[ay (aT q c),q];simp⟩
theorem Un.write(mu:Xf (H x))(l:e=x\/H e=some (.own x))(k:∀b u,b≠e->h.get? b=some u->h'.get? b=some u)(m:∃u,h'.get? e=some u):Un fs ex H (upd H x o) h h':=by
 have d:∀b,H b=none->b≠x:=λb n z=>by subst z;rw[n]at mu;exact mu
 have f:∀b,H b=none->b≠e:=λb n z=>by
  subst z;rcases l with r|r
  .exact d b n r
  .rw[n]at r;cases r
 have c:∀b u,H b=some u->¬Xf (some u)->b≠x:=λb u q j z=>by subst z;rw[q]at mu;exact j mu
 refine⟨λb u q n _ _=>k b u (f b n) q,λb u q n _ _=>⟨u.slots,k b u (f b n) q⟩,λb u q n _=>by rw[ay (d b n)];exact n,λb u q _=>?_,
  λb i q=>by rw[ay (c b _ q λz=>z)];exact q,λb u i q=>by rw[ay (c b _ q λz=>z)];exact q,λb p q=>⟨#[],by rw[ay (c b _ q λz=>z),q];simp⟩⟩
 by_cases g:b=e
 .subst g;exact m
 .exact⟨u,k b u g q⟩
end
noncomputable def Xg(h:Heap)(H:Hp):List Addr:=(Bn h.objs.size).filter λa=>(H a).isSome
noncomputable def uD(h:Heap)(H:Hp):Heap:=PySem.W.hideAll h (Xg h H)
theorem Cv(h:Heap)(H:Hp):(uD h H).objs.size=h.objs.size:=PySem.W.hideAll_size _ _
theorem D6(e:h.get? b=some o)(n:H b=none):(uD h H).get? b=some o:=
 hideAll_get _ e λa=>by have q:(H b).isSome=true:=(i5.mp a).2;rw[n]at q;simp at q
theorem IF(e:(uD h H).get? b=some o):h.get? b=some o/\H b=none:=by
 have a:h.get? b=some o:=PySem.W.of_hideAll (Xg h H) e;refine⟨a,?_⟩;cases q:H b with
 |none=>rfl
 |some x=>have c:b∈Xg h H:=i5.mpr ⟨wx.mpr (KF a),by simp[q]⟩;have z:(uD h H).get? b=none:=PySem.W.hideAll_none (Xg h H) c;rw[z]at e;cases e
noncomputable def IG(g h:Heap)(L:Addr):List (Addr×Obj):=(Bn h.objs.size).filterMap λa=>if a=L\/(g.get? a).isSome=true then none else(h.get? a).map λo=>(a,o)
noncomputable def rest(g h:Heap)(L d:Addr):List (Addr×Obj):=(IG g h L).filter λp=>decide (p.1≠d)
structure Mod(K:Frag)(mg:Str->Option Value)(base:Heap):Prop where
 S6:K.In base
 glob:base.Ns mainGlobals mg
 blt:∃mb,base.Ns builtinsNs mb/\∀x:Str,x≠"__name__"->mb x=bootBuiltins x
 nolimit:base.NoLimit
 seer:base.NoSeer
set_option genInjectivity false in
set_option genSizeOf false in
structure Cx where
 prog:Program
 w:World
 K:Frag
 mg:Str->Option Value
 base:Heap
 A:Around
 N:List Str
 s₀:Shared
 H₀:Hp
 env:Env
 outer:List Env
 stack:List Env
 ex:List Addr
 fn:Str->Bool
 calm:Bool
 pn:List (Addr×Obj)
 xe:Value->Shared->Prop
noncomputable def frs(l:List Env):List Addr:=l.filterMap (·.frame)
abbrev Cx.fs(X:Cx):List Addr:=frs X.outer
def Uh(sc:Scope)(x:Str):Prop:=sc.names.lookup x=some .local\/sc.names.lookup x=some .cell\/sc.names.lookup x=some .free
def Loc(sc:Scope)(x:Str):Prop:=sc.names.lookup x=some .local\/sc.names.lookup x=some .cell
def Look(env:Env)(h:Heap)(m:Str->Option Value)(x:Str)(u:Value):Prop:=
 (env.kindOf x=some .local/\m x=some u)\/((env.kindOf x=some .cell\/env.kindOf x=some .free)/\∃c,env.cells.lookup x=some c/\h.IsCell c (some u))
structure Cx.Ok(X:Cx):Prop where
 mod:Mod X.K X.mg X.base
 kind:X.env.scope.kind=.function
 glob:X.env.globals=mainGlobals
 blt:X.env.builtins=builtinsNs
 above:X.s₀.heap.objs.size<=X.env.locals
 inj:∀x y c,X.env.cells.lookup x=some c->X.env.cells.lookup y=some c->x=y
 has:∀x,(X.env.kindOf x=some .cell\/X.env.kindOf x=some .free)->∃c,X.env.cells.lookup x=some c
 Ui:∀x c,X.fn x=true->X.env.cells.lookup x=some c->X.s₀.heap.objs.size<=c
 hd:X.calm=true->X.A.handled=none
 frames:X.A.frames=some X.stack
 stk:X.stack=X.outer\/(X.stack=X.env::X.outer/\X.env.frame=some X.env.locals)
 X6:∀b∈X.ex,b≠X.env.locals/\∀x c,X.env.cells.lookup x=some c->c≠b
 bs:∀b o,X.base.get? b=some o->X.s₀.heap.get? b=some o/\X.H₀ b=none
 II:X.base.objs.size<=X.s₀.heap.objs.size
 D7:∀b o,X.base.get? b=some o->b∉X.ex
 D8:∀b∈X.ex,b∉X.fs
 oh:X.s₀.heap.FunFrames X.base X.outer
 NJ:∀b∈X.fs,X.H₀ b=none
 tree:X.prog.given.tree=none
 Xh:∀(A:Around)(s:Shared),A.frames=X.A.frames->A.depth=X.A.depth->(∀b o,X.base.get? b=some o->s.heap.get? b=some o)->PylongRoom (model X.prog X.w) A s
structure Inv(X:Cx)(pins:List (Addr×Obj))(σ:List (Option V))(H:Hp)(s:Shared):Prop where
 ok:X.Ok
 os:s.os=X.s₀.os
 bare:AllBare s.gens
 base:Un X.fs X.ex X.H₀ H X.s₀.heap s.heap
 loc:∃m,s.heap.Ns X.env.locals m/\∀(i:Nat)(x:Str)(v:V),X.N[i]?=some x->σ[i]?=some (some v)->Uh X.env.scope x->∃u,RelV v u/\Look X.env s.heap m x u
 cell:∀x c,X.env.cells.lookup x=some c->∃v,s.heap.IsCell c v
 free:H X.env.locals=none
 jI:∀x c,X.env.cells.lookup x=some c->H c=none
 pin:∀p∈X.pn++pins,s.heap.get? p.1=some p.2/\H p.1=none/\p.1≠X.env.locals/\p.1∉X.fs/\∀v,p.2.data≠.cell v
 hok:kC X.prog X.w H s.heap
 len:σ.length=X.N.length
section
variable{X:Cx}{pins:List (Addr×Obj)}{σ:List (Option V)}{H H':Hp}{s:Shared}{h':Heap}
theorem Cx.Ok.Cw(a:X.Ok)(e:X.base.get? b=some o):b∉X.fs:=λc=>by have:=(a.oh.mem c).1;rw[e]at this;cases this
theorem Inv.bs(I:Inv X pins σ H s):∀b o,X.base.get? b=some o->s.heap.get? b=some o/\H b=none:=λb o e=>⟨I.base.keep b o (I.ok.bs b o e).1 (I.ok.bs b o e).2 (I.ok.Cw e) (I.ok.D7 b o e),I.base.free b o (I.ok.bs b o e).1 (I.ok.bs b o e).2 (I.ok.D7 b o e)⟩
theorem Inv.bk(I:Inv X pins σ H s):∀b o,X.base.get? b=some o->s.heap.get? b=some o:=λb o e=>(I.bs b o e).1
theorem Inv.mod(I:Inv X pins σ H s):Mod X.K X.mg X.base:=I.ok.mod
theorem Inv.yJ(I:Inv X pins σ H s):X.K.In s.heap:=I.ok.mod.S6.keeps I.bk
theorem Inv.lt(I:Inv X pins σ H s):X.env.locals<s.heap.objs.size:=let⟨_,hn,_⟩:=I.loc;hn.lt
theorem Inv.sz(I:Inv X pins σ H s):X.s₀.heap.objs.size<=s.heap.objs.size:=Do I.ok.above (SZ I.lt)
theorem Inv.X7(I:Inv X pins σ H s){a:Addr}(h:s.heap.objs.size<=a):a∉X.fs:=λc=>by obtain⟨_,o,b,_⟩:=I.ok.oh.mem c;exact absurd (Fm (KF b) (Do I.sz h)) (Xt _)
theorem Inv.NK(I:Inv X pins σ H s):∀x c,X.env.cells.lookup x=some c->c≠X.env.locals:=λx c e z=>by obtain⟨v,o,d,f⟩:=I.cell x c e;obtain⟨m,⟨g,h,i,a,b,_⟩,_⟩:=I.loc;rw[z,a]at d;cases d;rw[b]at f;cases f
theorem Inv.oh(I:Inv X pins σ H s):s.heap.FunFrames X.base X.outer:=by
 have f:∀(l:List Env),(∀b∈frs l,b∈X.fs)->X.s₀.heap.FunFrames X.base l->s.heap.FunFrames X.base l:=by
  intro l
  induction l with
  |nil=>intro _ _;trivial
  |cons env r h=>intro g m;obtain⟨n,⟨L,o,a,k,j,p⟩,i⟩:=m;have d:L∈X.fs:=g L (by unfold frs;rw[Ji,a];exact FS);obtain⟨q,e⟩:=I.base.slot L o j (I.ok.NJ L d) d λz=>I.ok.D8 L z d;exact⟨n,⟨L,_,a,k,e,p⟩,h (λb c=>g b (by unfold frs;rw[Ji,a];exact FM _ c)) i⟩
 exact f X.outer (λ_ c=>c) I.ok.oh
theorem Inv.stack(I:Inv X pins σ H s):s.heap.FunFrames X.base X.stack:=by
 rcases I.ok.stk with e|⟨e,b⟩
 .rw[e];exact I.oh
 .rw[e];obtain⟨m,a,_⟩:=I.loc;refine .cons (by rw[I.ok.kind];decide) b a ?_ I.oh;exact Heap.get?_none_of_le (Do I.ok.II I.ok.above)
theorem Inv.yK(I:Inv X pins σ H s):∀b∈frs X.stack,b∈X.env.locals::X.fs:=λb a=>by
 rcases I.ok.stk with e|⟨e,c⟩
 .rw[e]at a;exact FM _ a
 .rw[e]at a;unfold frs at a;rw[Ji,c]at a;exact a
theorem Inv.jj(I:Inv X pins σ H s):∀b∈frs X.stack,H b=none:=λb a=>by
 rcases IH.mp (I.yK b a)with e|a
 .rw[e];exact I.free
 .obtain⟨_,o,c,_⟩:=I.ok.oh.mem a;exact I.base.free b o c (I.ok.NJ b a) λz=>I.ok.D8 b z a
theorem Inv.step{ch:List Addr}(I:Inv X pins σ H s)
 (f:∀b∈ch,(b∈X.ex\/X.s₀.heap.objs.size<=b)/\b≠X.env.locals/\(∀x c,X.env.cells.lookup x=some c->c≠b)/\∀p∈X.pn++pins,p.1≠b)
 (keep:∀b o,b≠X.env.locals->b∉X.fs->b∉ch->s.heap.get? b=some o->H b=none->h'.get? b=some o)
 (slot:∀b o,b≠X.env.locals->b∈X.fs->b∉ch->s.heap.get? b=some o->H b=none->∃J,h'.get? b=some {o with slots:=J})(free:∀b o,b∉ch->s.heap.get? b=some o->H b=none->H' b=none)
 (there:∀b o,b∉ch->s.heap.get? b=some o->∃A,h'.get? b=some A)
 (tups:∀b j,H b=some (.tup j)->H' b=some (.tup j))(mK:∀b o u,H b=some (.AF o u)->H' b=some (.AF o u))(n9:∀b ps,H b=some (.Mx ps)->∃C,H' b=some (.Mx (ps++C)))
 (ns:∀m,s.heap.Ns X.env.locals m->h'.Ns X.env.locals m)(K:kC X.prog X.w H' h')(U:AllBare g'):
 Inv X pins σ H' {s with heap:=h',gens:=g',drawn:=d',toks:=t'}:=by
 have B:∀b o,X.s₀.heap.get? b=some o->b≠X.env.locals:=λb o e=>Ts (Fm (KF e) I.ok.above);have F:∀b o,X.s₀.heap.get? b=some o->b∉X.ex->b∉ch:=λb o e a t=>by
  rcases(f b t).1 with z|z
  .exact a z
  .exact absurd (Fm (KF e) z) (Xt _)
 have g:∀x c,X.env.cells.lookup x=some c->∀v,s.heap.IsCell c v->h'.IsCell c v:=λx c e v ⟨o,y,L⟩=>by
  have E:c∉ch:=λz=>(f c z).2.2.1 x c e rfl;by_cases P:c∈X.fs
  .obtain⟨J,q⟩:=slot c o (I.NK x c e) P E y (I.jI x c e);exact⟨_,q,L⟩
  .exact⟨o,keep c o (I.NK x c e) P E y (I.jI x c e),L⟩
 refine⟨I.ok,I.os,U,⟨λb o e n t a=>?_,λb o e n t a=>?_,λb o e n a=>?_,λb o e a=>?_,λb j e=>tups b j (I.base.tups b j e),λb o j e=>mK b o j (I.base.mK b o j e),λb ps e=>?_⟩,?_,λx c e=>?_,?_,λx c e=>?_,λp O=>?_,K,I.len⟩
 .exact keep b o (B b o e) t (F b o e a) (I.base.keep b o e n t a) (I.base.free b o e n a)
 .obtain⟨J,h⟩:=I.base.slot b o e n t a;obtain⟨G,D⟩:=slot b _ (B b o e) t (F b o e a) h (I.base.free b o e n a);exact⟨G,D⟩
 .obtain⟨A,h⟩:=I.base.there b o e a;exact free b A (F b o e a) h (I.base.free b o e n a)
 .obtain⟨A,h⟩:=I.base.there b o e a;exact there b A (F b o e a) h
 .obtain⟨R,h⟩:=I.base.n9 b ps e;obtain⟨Q,D⟩:=n9 b _ h;exact⟨R++Q,by rw[D,b9]⟩
 .obtain⟨m,S,T⟩:=I.loc;refine⟨m,ns m S,λi x v h D Y=>?_⟩;obtain⟨u,r,l⟩:=T i x v h D Y;refine⟨u,r,?_⟩;rcases l with l|⟨k,c,e,z⟩
  .exact .inl l
  .exact .inr ⟨k,c,e,g x c e _ z⟩
 .obtain⟨v,z⟩:=I.cell x c e;exact⟨v,g x c e v z⟩
 .obtain⟨m,⟨o,_,_,y,_⟩,_⟩:=I.loc;exact free _ o (λz=>(f _ z).2.1 rfl) y I.free
 .obtain⟨v,o,y,L⟩:=I.cell x c e;exact free c o (λz=>(f c z).2.2.1 x c e rfl) y (I.jI x c e)
 .obtain⟨e,n,N,M,d⟩:=I.pin p O;have E:p.1∉ch:=λz=>(f p.1 z).2.2.2 p O rfl;exact⟨keep p.1 p.2 N M E e n,free p.1 p.2 E e n,N,M,d⟩
theorem Inv.un(I:Inv X pins σ H s)(u:Un X.fs [] H H' s.heap h')(c:kC X.prog X.w H' h'):Inv X pins σ H' {s with heap:=h',toks:=t'}:=by obtain⟨m,⟨o,t,v,g,r⟩,_⟩:=id I.loc;obtain⟨l,j⟩:=u.any g I.free (by simp);exact I.step (g':=s.gens) (d':=s.drawn) (ch:=[]) (λ_ z=>nomatch z) (λb o _ d _ e n=>u.keep b o e n d (by simp)) (λb o _ d _ e n=>u.slot b o e n d (by simp)) (λb o _ e n=>u.free b o e n (by simp)) (λb o _ e=>u.there b o e (by simp)) u.tups u.mK u.n9 (λq i=>by obtain⟨p,f,k,a,h⟩:=i;rw[g]at a;cases a;exact⟨_,f,k,j,h⟩) c I.bare
theorem Inv.call(I:Inv X pins σ H s)(u:Un (frs X.stack) ch H H' s.heap h')(g:kC X.prog X.w H' h')(q:AllBare g')
 (f:∀b∈ch,(b∈X.ex\/X.s₀.heap.objs.size<=b)/\b≠X.env.locals/\(∀x c,X.env.cells.lookup x=some c->c≠b)/\∀p∈X.pn++pins,p.1≠b):
 Inv X pins σ H' {s with heap:=h',gens:=g',drawn:=d',toks:=t'}:=by
 obtain⟨m,⟨o,C,D,j,r⟩,_⟩:=id I.loc;obtain⟨y,h⟩:=u.any j I.free λz=>(f _ z).2.1 rfl;exact I.step (ch:=ch) f (λb o h t a e n=>u.keep b o e n (λz=>(IH.mp (I.yK b z)).elim h t) a) (λb o _ _ a e n=>u.any e n a) (λb o a e n=>u.free b o e n a) (λb o a e=>u.there b o e a) u.tups u.mK u.n9 (λB l=>by obtain⟨A,i,v,d,k⟩:=l;rw[j]at d;cases d;exact⟨_,i,v,h,k⟩) g q
theorem Inv.turned(I:Inv X pins σ H s)(k:∀b o,b≠a->s.heap.get? b=some o->h'.get? b=some o)(i:H a=none)(g:a≠X.env.locals)
 (y:a∈X.ex\/X.s₀.heap.objs.size<=a)(w:∀x c,X.env.cells.lookup x=some c->c≠a)(t:∀p∈X.pn++pins,p.1≠a):Inv X pins σ H {s with heap:=h',toks:=t'}:=by
 have f:∀b u,H b=some u->b≠a:=λb u e z=>by rw[z,i]at e;cases e
 refine I.step (g':=s.gens) (d':=s.drawn) (ch:=[a]) (λb l=>?_) (λb o _ _ d e _=>k b o (λz=>d (by simp[z])) e) (λb o _ _ d e _=>⟨o.slots,k b o (λz=>d (by simp[z])) e⟩) (λ_ _ _ _ n=>n)
  (λb o d e=>⟨o,k b o (λz=>d (by simp[z])) e⟩) (λ_ _ e=>e) (λ_ _ _ e=>e) (λb C e=>⟨#[],by rw[e];simp⟩) (λm j=>?_) (λb u e=>?_) I.bare
 .have e:b=a:=by simpa using l
  subst e;exact⟨y,g,w,t⟩
 .obtain⟨o,A,B,h,r⟩:=j;exact⟨o,A,B,k _ o (gN g) h,r⟩
 .refine(I.hok b u e).stay (λc v d q=>k c v ?_ q) (λ_ q=>q) λ_ _ q=>q;rcases d with z|z
  .rw[z];exact f b u e
  .exact f c _ z
theorem Inv.tok(I:Inv X pins σ H s)(t:Nat):Inv X pins σ H {s with toks:=t}:=I.un (h':=s.heap) (t':=t) Un.refl I.hok
theorem Inv.kept(I:Inv X pins σ H s)(k:∀b u,s.heap.get? b=some u->h'.get? b=some u):Inv X pins σ H {s with heap:=h',toks:=t'}:=I.un (Un.kept k) (I.hok.kept k)
theorem Inv.laid{a:Addr}(I:Inv X pins σ H s)(k:∀b u,s.heap.get? b=some u->h'.get? b=some u)(d:s.heap.objs.size<=a)(c:dH X.prog X.w (upd H a o) h' a o):
 Inv X pins σ (upd H a o) {s with heap:=h',toks:=t'}:=I.un (Un.laid k d (I.hok.fresh d)) (I.hok.laid k d c)
theorem Inv.write(I:Inv X pins σ H s)(mu:Xf (H x))(c:e=x\/H e=some (.own x))(k:∀b u,b≠e->s.heap.get? b=some u->h'.get? b=some u)(d:∃u,h'.get? e=some u)
 (a:dH X.prog X.w (upd H x o) h' x o):Inv X pins σ (upd H x o) {s with heap:=h',toks:=t'}:=I.un (Un.write mu c k d) (I.hok.write mu c k d a)
theorem Inv.AG(I:Inv X pins σ H s)(h:∀p∈a,s.heap.get? p.1=some p.2/\H p.1=none/\p.1≠X.env.locals/\p.1∉X.fs/\∀v,p.2.data≠.cell v):Inv X a σ H s:=
 ⟨I.ok,I.os,I.bare,I.base,I.loc,I.cell,I.free,I.jI,λp b=>(SL.mp b).elim (λz=>I.pin p (il _ z)) (h p),I.hok,I.len⟩
theorem wQ{N:List Str}(c:N.Nodup){i j:Nat}(a:N[i]?=some x)(b:N[j]?=some x):i=j:=by obtain⟨g,e⟩:=Fu.mp a;obtain⟨f,d⟩:=Fu.mp b;exact(List.getElem_inj c).mp (e.trans d.symm)
theorem tF(I:Inv X pins σ H s)(hN:X.N.Nodup)(hi:X.N[i]?=some x)(B:Loc X.env.scope x)(r:RelV v u)
 (h:∀s',Inv X pins (σ.set i (some v)) H s'->(∃a,Heap.SameBut a s.heap s'.heap/\(a=X.env.locals\/X.env.cells.lookup x=some a))->Q () s')(hf:X.fn x=true\/X.env.scope.names.lookup x=some .local:=by first|exact .inl rfl|exact .inr rfl|assumption):wpAny M A (storeName X.env x u) Q E s:=by
 obtain⟨m,hn,hl⟩:=id I.loc;have O:(X.env.scope.kind==.class||(X.env.scope.kind==.module&&X.env.locals !=X.env.globals))=false:=by rw[I.ok.kind];rfl
 have Uj:i<σ.length:=by rw[I.len];exact(Fu.mp hi).1
 have NK:=I.NK;have g:∀{a:Addr}{h':Heap},(∃o,s.heap.get? a=some o/\H a=none)->Heap.SameBut a s.heap h'->kC X.prog X.w H h':=λ{a h'} ha f b ob e=>by
  obtain⟨_,_,C⟩:=ha;refine(I.hok b ob e).stay (λc S t q=>(f.2 c ?_).trans q) (λ_ q=>q) λ_ _ q=>q;rintro rfl;rcases t with rfl|t
  .rw[C]at e;cases e
  .rw[C]at t;cases t
 rcases B with F|F
 .refine wpAny_storeName_local F hn (λh' hn' f=>?_) O;obtain⟨oL,_,_,hoL,_⟩:=id hn;refine h _ ⟨I.ok,I.os,I.bare,⟨λb o e n K B=>?_,λb o e n K B=>?_,I.base.free,λb o e B=>?_,I.base.tups,I.base.mK,I.base.n9⟩,⟨_,hn',λj y Y l D e3=>?_⟩,λy c e=>?_,I.free,I.jI,λp hp=>?_,g ⟨oL,hoL,I.free⟩ f,by simpa using I.len⟩ ⟨_,f,.inl rfl⟩
  .exact(f.2 b (Ts (Fm (KF e) I.ok.above))).trans (I.base.keep b o e n K B)
  .obtain⟨sl,l⟩:=I.base.slot b o e n K B;exact⟨sl,(f.2 b (Ts (Fm (KF e) I.ok.above))).trans l⟩
  .obtain⟨o',l⟩:=I.base.there b o e B;exact⟨o',(f.2 b (Ts (Fm (KF e) I.ok.above))).trans l⟩
  .by_cases G:j=i
   .subst G;rw[hi]at l;cases l;rw[gd Uj]at D;cases D;exact⟨u,r,.inl ⟨F,by simp⟩⟩
   .rw[TC (gN G)]at D;obtain⟨Z,r',q⟩:=hl j y Y l D e3;refine⟨Z,r',?_⟩;rcases q with⟨k,e⟩|⟨k,c,e,z⟩
    .refine .inl ⟨k,?_⟩;have:y≠x:=λe=>G (wQ hN l (e▸hi));simp[this,e]
    .exact .inr ⟨k,c,e,z.sameBut f (NK y c e)⟩
  .obtain⟨S,z⟩:=I.cell y c e;exact⟨S,z.sameBut f (NK y c e)⟩
  .obtain⟨e,n,T,nf,d⟩:=I.pin p hp;exact⟨(f.2 p.1 T).trans e,n,T,nf,d⟩
 .have J:X.fn x=true:=by
   rcases hf with z|z
   .exact z
   .rw[z]at F;cases F
  obtain⟨c,t⟩:=I.ok.has x (.inl F);obtain⟨S,z⟩:=I.cell x c t;refine wpAny_storeName_cell I.ok.kind F t z (λh' R f=>?_);obtain⟨oc,L,Yb⟩:=id z;refine h {s with heap:=h'} ⟨I.ok,I.os,I.bare,⟨λb o e n K B=>?_,λb o e n K B=>?_,I.base.free,λb o e B=>?_,I.base.tups,I.base.mK,I.base.n9⟩,⟨m,hn.sameBut f (gN (NK x c t)),λj y Y l D e3=>?_⟩,λy U e=>?_,I.free,I.jI,λp hp=>?_,g ⟨oc,L,I.jI x c t⟩ f,by simpa using I.len⟩ ⟨c,f,.inr t⟩
  .exact(f.2 b (Ts (Fm (KF e) (I.ok.Ui x c J t)))).trans (I.base.keep b o e n K B)
  .obtain⟨sl,l⟩:=I.base.slot b o e n K B;exact⟨sl,(f.2 b (Ts (Fm (KF e) (I.ok.Ui x c J t)))).trans l⟩
  .obtain⟨o',l⟩:=I.base.there b o e B;exact⟨o',(f.2 b (Ts (Fm (KF e) (I.ok.Ui x c J t)))).trans l⟩
  .by_cases G:j=i
   .subst G;rw[hi]at l;cases l;rw[gd Uj]at D;cases D;exact⟨u,r,.inr ⟨.inl F,c,t,R⟩⟩
   .rw[TC (gN G)]at D;obtain⟨Z,r',q⟩:=hl j y Y l D e3;refine⟨Z,r',?_⟩;rcases q with q|⟨k,U,e,z'⟩
    .exact .inl q
    .refine .inr ⟨k,U,e,z'.sameBut f ?_⟩;rintro rfl;exact G (wQ hN l (I.ok.inj _ _ _ e t▸hi))
  .by_cases P:U=c
   .subst P;exact⟨_,R⟩
   .obtain⟨w2,z2⟩:=I.cell y U e;exact⟨w2,z2.sameBut f P⟩
  .obtain⟨e,n,T,nf,d⟩:=I.pin p hp;refine⟨(f.2 p.1 ?_).trans e,n,T,nf,d⟩;intro q;rw[q,L]at e;have q':oc=p.2:=Pm e;exact d S (by rw[<-q'];exact Yb)
theorem kH(I:Inv X pins σ H s)(c:X.N.Nodup)(hi:X.N[i]?=some x)(a:Loc X.env.scope x)(r:RelV v u)
 (h:∀s',Inv X pins (σ.set i (some v)) H s'->Q () s')(b:X.fn x=true\/X.env.scope.names.lookup x=some .local:=by first|exact .inl rfl|exact .inr rfl|assumption):wpAny M A (storeName X.env x u) Q E s:=
 tF I c hi a r (λs' d _=>h s' d) b
theorem Inv.D9(I:Inv X pins σ H s)(g:s'.os=s.os)(u:Un (frs X.stack) ch H H' s.heap s'.heap)(a:kC X.prog X.w H' s'.heap)(h:AllBare s'.gens)
 (d:∀b∈ch,(b∈X.ex\/X.s₀.heap.objs.size<=b)/\b≠X.env.locals/\(∀x c,X.env.cells.lookup x=some c->c≠b)/\∀p∈X.pn++pins,p.1≠b):Inv X pins σ H' s':=by
 obtain⟨h',g',d',t',f⟩:=s';have e:f=s.os:=g;subst e;exact I.call (g':=g') (t':=t') (d':=d') u a h d
end
abbrev XK:=Value->Option Addr->Hp->Prop
abbrev St:=List (Option V)
abbrev VK:=V->Hp->Prop
abbrev TE:=St->Hp->VK->Prop
abbrev TT:=St->Hp->(Bool->Hp->Prop)->Prop
abbrev TA:=St->Hp->(List V->Hp->Prop)->Prop
set_option genInjectivity false in
set_option genSizeOf false in
structure Ends where
 nx:St->Hp->Prop
 rt:VK
 bk:St->Hp->Prop:=λ_ _=>False
 ct:St->Hp->Prop:=λ_ _=>False
abbrev TS:=Ends->St->Hp->Prop
def EP(X:Cx)(a:List (Addr×Obj))(c:St)(Q:VK)(u:Value)(s':Shared):Prop:=∃v b,Inv X a c b s'/\RelV v u/\Q v b
def TP(X:Cx)(a:List (Addr×Obj))(d:St)(Q:Bool->Hp->Prop)(b:Bool)(s':Shared):Prop:=∃c,Inv X a d c s'/\Q b c
def AP(X:Cx)(a:List (Addr×Obj))(d:St)(Q:List V->Hp->Prop)(us:List Value)(s':Shared):Prop:=∃b c,Inv X a d c s'/\Vals b us/\Q b c
def SP(X:Cx)(b:List (Addr×Obj))(D:Ends)(f:Flow)(s':Shared):Prop:=
 match f with
 |.next=>∃a c,Inv X b a c s'/\D.nx a c
 |.brk=>∃a c,Inv X b a c s'/\D.bk a c
 |.cont=>∃a c,Inv X b a c s'/\D.ct a c
 |.ret u=>∃v a c,Inv X b a c s'/\RelV v u/\D.rt v c
def PE(X:Cx)(e:Expr)(t:TE):Prop:=
 ∀(a:List (Addr×Obj))(s:Shared)(b:St)(H:Hp)(Q:VK),Inv X a b H s->t b H Q->wpAny (model X.prog X.w) X.A (eval e X.env) (EP X a b Q) X.xe s
def PT(X:Cx)(e:Expr)(t:TT):Prop:=
 ∀(a:List (Addr×Obj))(s:Shared)(b:St)(H:Hp)(Q:Bool->Hp->Prop),Inv X a b H s->t b H Q->wpAny (model X.prog X.w) X.A (isTrue e X.env (eval e X.env)) (TP X a b Q) X.xe s
def PW(X:Cx)(e:Expr)(t:TT):Prop:=
 ∀(b:Sem Value)(a:List (Addr×Obj))(s:Shared)(c:St)(H:Hp)(Q:Bool->Hp->Prop),Inv X a c H s->t c H Q->wpAny (model X.prog X.w) X.A (isTrue e X.env b) (TP X a c Q) X.xe s
theorem PW.pt(h:PW X e t):PT X e t:=h _
def PA(X:Cx)(d:List Expr)(t:TA):Prop:=
 ∀(c:Pos)(a:List (Addr×Obj))(s:Shared)(b:St)(H:Hp)(Q:List V->Hp->Prop),Inv X a b H s->t b H Q->wpAny (model X.prog X.w) X.A (spliced (backTo c (starEach d X.env))) (AP X a b Q) X.xe s
def PS(X:Cx)(st:Stmt)(t:TS):Prop:=
 ∀(a:List (Addr×Obj))(s:Shared)(b:St)(H:Hp)(D:Ends),Inv X a b H s->t D b H->wpAny (model X.prog X.w) X.A (exec st X.env) (SP X a D) X.xe s
def wR(X:Cx)(st:List Stmt)(t:TS):Prop:=
 ∀(a:List (Addr×Obj))(s:Shared)(b:St)(H:Hp)(D:Ends),Inv X a b H s->t D b H->wpAny (model X.prog X.w) X.A (execs st X.env) (SP X a D) X.xe s
theorem cC(h:wpAny M A t Q E s)(c:∀a s,Q a s->b a s):wpAny M A t b E s:=sv h c λ_ _ x=>x
section
variable{X:Cx}
theorem bin(t:PE X a ta)(r:PE X b k){d:St}{R:V->V->Hp->Prop}(I:Inv X c d H s)(h:ta d H λx H1=>k d H1 λy e=>R x y e)
 {α:Type}{Q:α->Shared->Prop}{f:Value->Value->Sem α}
 (q:∀v u j x y e,Inv X c d e j->RelV x v->RelV y u->R x y e->wpAny (model X.prog X.w) X.A (f v u) Q X.xe j):
 wpAny (model X.prog X.w) X.A (eval a X.env) (λv i=>wpAny (model X.prog X.w) X.A (eval b X.env) (λu g=>wpAny (model X.prog X.w) X.A (f v u) Q X.xe g) X.xe i) X.xe s:=by
 refine cC (t c s d H _ I h) λv l ⟨x,H1,I1,n,p⟩=>?_;refine cC (r c l d H1 _ I1 p) λu j ⟨y,e,z,m,o⟩=>?_;exact q v u j x y e z n m o
def kI(i:Nat):TE:=λa H Q=>∃v,a[i]?=some (some v)/\Q v H
def tC(v:V):TE:=λ_ H Q=>Q v H
theorem Ea{pos:Pos}(w:X.N[i]?=some x)(o:Uh X.env.scope x)(g:(x==("__debug__":Str))=false:=by decide)(j:(x==("__classdict__":Str))=false:=by decide):PE X (.Name x pos) (kI i):=by
 intro f s n H Q I h;obtain⟨v,e,h⟩:=h;obtain⟨m,p,t⟩:=I.loc;obtain⟨u,r,l⟩:=t i x v w e o;have d:EP X f n Q u s:=⟨v,H,I,r,h⟩;rcases l with⟨b,q⟩|⟨b,c,k,a⟩
 .exact wpAny_Name (wpAny_loadName_local I.ok.kind b p q d) g
 .rcases b with b|b
  .exact wpAny_Name (wpAny_loadName_cell I.ok.kind b k a d) g
  .exact wpAny_Name (wpAny_loadName_free I.ok.kind b k a d j) g
theorem mO:PE X (.Constant (.int i) j pos) (tC (.int i)):=λ_ _ _ H _ I h=>wpAny_Constant_int ⟨.int i,H,I.tok _,⟨_,rfl⟩,h⟩
theorem Uk:PE X (.Constant (.bool b) j pos) (tC (.bl b)):=λ_ _ _ H _ I h=>Constant_bool ⟨.bl b,H,I,rfl,h⟩
theorem NL:PE X (.Constant .none j pos) (tC .cu):=λ_ _ _ H _ I h=>Constant_none ⟨.cu,H,I,rfl,h⟩
theorem NN:PE X (.Constant (.str x) j pos) (tC (.str x)):=λ_ _ _ H _ I h=>Calls.Constant_str ⟨.str x,H,I.tok _,⟨_,rfl⟩,h⟩
def Gl(X:Cx)(x:Str):Prop:=X.env.kindOf x=some .globalImplicit
theorem kJ{b:St}{u:Value}{pos:Pos}{Q:Value->Shared->Prop}(I:Inv X a b H s)(d:Gl X x)(c:X.mg x=some u)(h:Q u s)
 (e:(x==("__debug__":Str))=false:=by decide):wpAny (model X.prog X.w) X.A (eval (.Name x pos) X.env) Q E s:=
 Calls.Name_function_global I.ok.kind d (Calls.loadGlobal_global (by rw[I.ok.glob];exact I.mod.glob.keeps I.bk) c h) e
theorem jO{E:Value->Shared->Prop}{b:St}{u:Value}{pos:Pos}{Q:Value->Shared->Prop}(I:Inv X a b H s)(f:Gl X x)(e:X.mg x=none)(c:bootBuiltins x=some u)(h:Q u s)
 (d:x≠"__name__":=by decide)(g:(x==("__debug__":Str))=false:=by decide):wpAny (model X.prog X.w) X.A (eval (.Name x pos) X.env) Q E s:=by
 obtain⟨k,j,i⟩:=I.mod.blt;exact Calls.Name_function_global I.ok.kind f (Calls.loadGlobal_builtin (by rw[I.ok.glob];exact I.mod.glob.keeps I.bk) e (by rw[I.ok.blt];exact j.keeps I.bk) ((i x d).trans c) h) g
theorem IJ(b:Gl X x)(a:X.mg x=some u)(r:RelV v u)(c:(x==("__debug__":Str))=false:=by decide):PE X (.Name x pos) (tC v):=
 λ_ _ _ H _ I h=>kJ I b a ⟨v,H,I,r,h⟩ c
variable{a b:Expr}{ta tb:TE}{pos:Pos}
def tB(t:TE):TT:=λd H Q=>t d H λx e=>∃c,x=.bl c/\Q c e
theorem Eb(h:PE X e t)(l:∀c,isTrue e X.env c=(do let v<-c;standAt e.pos;holding [v] (truthy v)):=by intro _;rfl):PT X e (tB t):=by intro f s g H Q I k;refine isTrue_plain (cC (h f s g H _ I k) λv n ⟨x,m,I1,i,j⟩=>?_) (l _);obtain⟨d,rfl,q⟩:=j;cases i;exact oI ⟨m,I1,q⟩
variable{tA Xj:TT}{rest:List Expr}
def Yc(t u:TT):TT:=λd H Q=>t d H λc e=>if c=true then u d e Q else Q false e
def tOr(t u:TT):TT:=λd H Q=>t d H λc e=>if c=true then Q true e else u d e Q
def Yd(t:TT):TT:=λd H Q=>t d H λc e=>Q (!c) e
theorem AH(g:PT X a tA):PW X (.BoolOp .And [a] pos) tA:=by
 intro i d s f H Q I h;refine isTrue_and (cC (g d s f H Q I h) λc j e=>?_);cases c with
 |true=>exact isTrue_and_nil e
 |false=>exact e
theorem Ec(g:PT X a tA):PW X (.BoolOp .Or [a] pos) tA:=by
 intro i d s f H Q I h;refine isTrue_or (cC (g d s f H Q I h) λc j e=>?_);cases c with
 |false=>exact isTrue_or_nil e
 |true=>exact e
theorem Ed(l:PT X a tA)(k:PW X (.BoolOp .And (b::rest) pos) Xj):PW X (.BoolOp .And (a::b::rest) pos) (Yc tA Xj):=by
 intro i d s e H Q I h;refine isTrue_and (cC (l d s e H _ I h) λc j ⟨g,I1,f⟩=>?_);cases c with
 |true=>exact k i d j e g Q I1 f
 |false=>exact⟨g,I1,f⟩
theorem MA(l:PT X a tA)(k:PW X (.BoolOp .Or (b::rest) pos) Xj):PW X (.BoolOp .Or (a::b::rest) pos) (tOr tA Xj):=by
 intro i d s e H Q I h;refine isTrue_or (cC (l d s e H _ I h) λc j ⟨g,I1,f⟩=>?_);cases c with
 |true=>exact⟨g,I1,f⟩
 |false=>exact k i d j e g Q I1 f
theorem NO(f:PT X a tA):PT X (.UnaryOp .Not a pos) (Yd tA):=by intro d s e H Q I h;exact isTrue_not (f d s e H (λc g=>Q (!c) g) I h)
def Ul(ta tb:TE):TE:=λd H Q=>ta d H λx e=>∃c,x=.bl c/\if c=true then tb d e Q else Q (.bl false) e
def Ye(ta tb:TE):TE:=λd H Q=>ta d H λx e=>∃c,x=.bl c/\if c=true then Q (.bl true) e else tb d e Q
def Um(ta:TE):TE:=λd H Q=>ta d H λx e=>∃c,x=.bl c/\Q (.bl (!c)) e
theorem Ef(h:PE X a t):PE X (.BoolOp op [a] pos) t:=λc s d H Q I e=>BoolOp_one (h c s d H Q I e)
theorem NP(l:PE X a ta)(k:PE X (.BoolOp .And (b::rest) pos) tb):PE X (.BoolOp .And (a::b::rest) pos) (Ul ta tb):=by
 intro d s f H Q I h;refine BoolOp_and (cC (l d s f H _ I h) λv i ⟨x,g,I1,j,e⟩=>?_);obtain⟨c,rfl,e⟩:=e;cases j;refine oI ?_;cases c with
 |true=>exact k d i f g Q I1 e
 |false=>exact⟨.bl false,g,I1,rfl,e⟩
theorem Uo(l:PE X a ta)(k:PE X (.BoolOp .Or (b::rest) pos) tb):PE X (.BoolOp .Or (a::b::rest) pos) (Ye ta tb):=by
 intro d s f H Q I h;refine BoolOp_or (cC (l d s f H _ I h) λv i ⟨x,g,I1,j,e⟩=>?_);obtain⟨c,rfl,e⟩:=e;cases j;refine oI ?_;cases c with
 |false=>exact k d i f g Q I1 e
 |true=>exact⟨.bl true,g,I1,rfl,e⟩
theorem NQ(i:PE X a ta):PE X (.UnaryOp .Not a pos) (Um ta):=by intro d s f H Q I h;refine UnaryOp_ (cC (i d s f H _ I h) λv k ⟨x,j,I1,g,e⟩=>?_);obtain⟨c,rfl,e⟩:=e;cases g;exact not_of (oI ⟨.bl (!c),j,I1,rfl,e⟩)
def tIf(t:TT)(ta tb:TE):TE:=λd H Q=>t d H λc e=>if c=true then ta d e Q else tb d e Q
theorem Eg(k:PT X c tA)(m:PE X a ta)(l:PE X b tb):PE X (.IfExp c a b pos) (tIf tA ta tb):=by
 intro e s f H Q I h;refine wpAny_IfExp (cC (k e s f H _ I h) λd g ⟨j,I1,i⟩=>?_);cases d with
 |true=>exact m e g f j Q I1 i
 |false=>exact l e g f j Q I1 i
end
def jA(K:Frag)(H:Hp)(a:Addr)(c:List V):Prop:=
 Rd H a (.lst c)\/
  ∃(o:Obj)(b:Array Value)(n:Nat),K.lookup a=some o/\o.cls=.type "list"/\o.dict=none/\o.data=.seq b n/\b.size<=sizeLine/\Vals c b.toList
def mP(K:Frag)(H:Hp)(a:Addr)(c:List V):Prop:=
 Rd H a (.tup c)\/
  ∃(o:Obj)(b:Array Value)(n:Nat),K.lookup a=some o/\o.cls=.type "tuple"/\o.data=.seq b n/\b.size<=sizeLine/\Vals c b.toList
noncomputable def Yg:Value->Option V
 |.none=>some .cu
 |.bool b=>some (.bl b)
 |.int i _=>some (.int i)
 |.str x _=>some (.str x)
 |.bytes b _=>some (.DM b)
 |.float b _=>some (.SY b)
 |.ref a=>some (.ref a)
 |.type n=>some (.ty n)
 |_=>none
theorem RelV.abs(r:RelV x u):Yg u=some x:=by
 cases x with
 |cu=>cases r;rfl
 |bl _=>cases r;rfl
 |int _=>obtain⟨t,rfl⟩:=r;rfl
 |str _=>obtain⟨t,rfl⟩:=r;rfl
 |DM _=>obtain⟨t,rfl⟩:=r;rfl
 |SY _=>obtain⟨t,rfl⟩:=r;rfl
 |ref _=>cases r;rfl
 |ty _=>cases r;rfl
theorem RelV.inj(r:RelV x u)(q:RelV y u):x=y:=Pm (r.abs.symm.trans q.abs)
theorem Vals.inj:∀{b a:List V}{us:List Value},Vals b us->Vals a us->b=a
 |_,_,_,.nil,.nil=>rfl
 |_,_,_,.cons r t,.cons c t'=>by rw[r.inj c,Vals.inj t t']
section
variable{X:Cx}{pins:List (Addr×Obj)}{σ:St}{H:Hp}{s:Shared}{a:Addr}{xs ys:List V}
theorem jA.of{K:Frag}(h:H a=some (.lst xs)):jA K H a xs:=.inl (.inl h)
theorem mP.of{K:Frag}(h:H a=some (.tup xs)):mP K H a xs:=.inl (.inl h)
theorem Inv.list(I:Inv X pins σ H s)(h:jA X.K H a xs):∃b:List Value,Vals xs b/\PlainL s.heap a b.toArray/\xs.length<=sizeLine:=by
 rcases h with h|⟨o,b,n,d,g,f,c,hz,r⟩
 .obtain⟨z,b,n,r,e⟩:=h.ok I.hok;exact⟨b,r,⟨_,n,e,rfl,rfl,rfl⟩,z⟩
 .refine⟨b.toList,r,⟨o,n,I.yJ a o d,g,f,by simpa using c⟩,?_⟩;have e:=r.length;simp only[Jf]at e;lia
theorem Inv.tuple(I:Inv X pins σ H s)(h:mP X.K H a xs):∃b:List Value,Vals xs b/\IsTup s.heap a b.toArray/\xs.length<=sizeLine:=by
 rcases h with h|⟨o,b,n,d,f,c,hz,r⟩
 .obtain⟨z,b,r,p⟩:=h.ok I.hok;exact⟨b,r,p,z⟩
 .refine⟨b.toList,r,⟨o,I.yJ a o d,f,n,by simpa using c⟩,?_⟩;have e:=r.length;simp only[Jf]at e;lia
theorem Inv.oZ(I:Inv X pins σ H s)(h:jA X.K H a xs)(h':jA X.K H a ys):xs=ys:=by
 obtain⟨c,r,⟨o,n,e,_,_,d⟩,_⟩:=I.list h;obtain⟨b,i,⟨j,k,f,_,_,g⟩,_⟩:=I.list h';rw[e]at f;cases f;rw[d]at g;injection g with d1 _;have:c=b:=by simpa using SU ee d1
 subst this;exact r.inj i
theorem Inv.Cy(I:Inv X pins σ H s)(h:mP X.K H a xs)(h':mP X.K H a ys):xs=ys:=by
 obtain⟨c,r,⟨o,e,_,n,d⟩,_⟩:=I.tuple h;obtain⟨b,i,⟨j,f,_,k,g⟩,_⟩:=I.tuple h';rw[e]at f;cases f;rw[d]at g;injection g with d1 _;have:c=b:=by simpa using SU ee d1
 subst this;exact r.inj i
end
abbrev Cx.wU(X:Cx)(E:Value->Shared->Prop):Cx:={X with xe:=E}
abbrev Cx.nox(X:Cx):Cx:=X.wU λ_ _=>False
theorem Cx.Ok.wU{X:Cx}(a:X.Ok)(E:Value->Shared->Prop):(X.wU E).Ok:=
 ⟨a.mod,a.kind,a.glob,a.blt,a.above,a.inj,a.has,a.Ui,a.hd,a.frames,a.stk,a.X6,a.bs,a.II,a.D7,a.D8,a.oh,a.NJ,a.tree,a.Xh⟩
theorem Cx.Ok.Eh{X:Cx}(a:(X.wU E).Ok):X.Ok:=
 ⟨a.mod,a.kind,a.glob,a.blt,a.above,a.inj,a.has,a.Ui,a.hd,a.frames,a.stk,a.X6,a.bs,a.II,a.D7,a.D8,a.oh,a.NJ,a.tree,a.Xh⟩
section
variable{X:Cx}{pins:List (Addr×Obj)}{σ:St}{H:Hp}{s:Shared}{E:Value->Shared->Prop}
theorem Inv.wU(I:Inv X pins σ H s)(E:Value->Shared->Prop):Inv (X.wU E) pins σ H s:=⟨I.ok.wU E,I.os,I.bare,I.base,I.loc,I.cell,I.free,I.jI,I.pin,I.hok,I.len⟩
theorem Inv.Eh(I:Inv (X.wU E) pins σ H s):Inv X pins σ H s:=⟨I.ok.Eh,I.os,I.bare,I.base,I.loc,I.cell,I.free,I.jI,I.pin,I.hok,I.len⟩
end
section
variable{X:Cx}{st:Stmt}{rest:List Stmt}{t u:TS}{e:Expr}{te:TE}{pos:Pos}
def Up:TS:=λD a H=>D.nx a H
def Yh(t u:TS):TS:=λD a H=>t {D with nx:=u D} a H
theorem IK:wR X [] Up:=λ_ _ a H _ I h=>wpAny_execs_nil ⟨a,H,I,h⟩
theorem c7(i:PS X st t)(g:wR X rest u):wR X (st::rest) (Yh t u):=by
 intro a s c H D I h;refine wpAny_execs_cons (cC (i a s c H {D with nx:=u D} I h) λf d q=>?_);cases f with
 |next=>obtain⟨b,k,j,q⟩:=q;exact g a d b k D j q
 |ret v=>exact q
 |brk=>exact q
 |cont=>exact q
theorem AI(c:PS X st t):wR X [st] t:=by
 intro a s b H D I h;refine wpAny_execs_cons (cC (c a s b H D I h) λf d q=>?_);cases f with
 |next=>exact wpAny_execs_nil q
 |ret v=>exact q
 |brk=>exact q
 |cont=>exact q
def NR:TS:=λD a H=>D.bk a H
theorem Ei:PS X (.Break pos) NR:=λ_ _ a H _ I h=>wpAny_Break ⟨a,H,I,h⟩
theorem Inv.quiet{b:St}(I:Inv X a b H s):interactive X.env=false:=by simp[interactive,I.ok.kind]
def Ej(te:TE):TS:=λD a H=>te a H λ_ b=>D.nx a b
theorem AJ(f:PE X e te)(d:swapsWith e none pos.line X.env=pure false:=by rfl):PS X (.Expr e pos) (Ej te):=by intro a s b H D I h;exact wpAny_Expr_any (cC (f a s b H _ I h) λv i ⟨x,g,I1,j,c⟩=>⟨b,g,I1,c⟩) I.quiet d
def Yi(te:TE):TS:=λD a H=>te a H D.rt
theorem mQ(f:PE X e te):PS X (.Return (some e) pos) (Yi te):=by intro a s b H D I h;exact wpAny_Return_some (cC (f a s b H _ I h) λv i ⟨x,g,I1,c,d⟩=>⟨x,b,g,I1,c,d⟩)
def Uq:TS:=λD _ H=>D.rt .cu H
theorem AK:PS X (.Return none pos) Uq:=λ_ _ a H _ I h=>wpAny_Return_none ⟨.cu,a,H,I,rfl,h⟩
def Yj(c:TT)(t u:TS):TS:=λD a H=>c a H λb d=>if b=true then t D a d else u D a d
theorem MB(l:PT X c tc)(n:wR X a t)(m:wR X b u):PS X (.If c a b pos) (Yj tc t u):=by
 intro f s g H D I h;refine wpAny_If (cC (l f s g H _ I h) λd i ⟨k,I1,j⟩=>?_);cases d with
 |true=>exact n f i g k D I1 j
 |false=>exact m f i g k D I1 j
end
abbrev TG:=V->St->Hp->(St->Hp->Prop)->Prop
abbrev MC:=List V->St->Hp->(St->Hp->Prop)->Prop
def PG(X:Cx)(a:Expr)(t:TG):Prop:=
 ∀(b:List (Addr×Obj))(s:Shared)(d:St)(H:Hp)(v:V)(u:Value)(Q:St->Hp->Prop),Inv X b d H s->RelV v u->t v d H Q->
  wpAny (model X.prog X.w) X.A (assign a X.env u) (λ_ f=>∃c e,Inv X b c e f/\Q c e) X.xe s
def Ur(X:Cx)(g:List Expr)(t:MC):Prop:=
 ∀(a:List (Addr×Obj))(s:Shared)(c:St)(H:Hp)(d:List V)(e:List Value)(Q:St->Hp->Prop),Inv X a c H s->Vals d e->t d c H Q->
  wpAny (model X.prog X.w) X.A (assignInOrder ((assignEach g X.env).map (·.2)) e) (λ_ h=>∃b f,Inv X a b f h/\Q b f) X.xe s
abbrev NS:=V->V->V->Hp->(Hp->Prop)->Prop
def Us(X:Cx)(t:NS):Prop:=
 ∀(a:List (Addr×Obj))(s:Shared)(b:St)(H:Hp)(o i v:V)(c d u:Value)(Q:Hp->Prop),Inv X a b H s->RelV o c->RelV i d->RelV v u->t o i v H Q->
  wpAny (model X.prog X.w) X.A (setItem c d u) (λ_ f=>∃e,Inv X a b e f/\Q e) X.xe s
section
variable{X:Cx}{pos:Pos}
def iH(i:Nat):TG:=λv a H Q=>Q (a.set i (some v)) H
theorem IL(d:X.N.Nodup)(hi:X.N[i]?=some x)(b:Loc X.env.scope x)(c:X.fn x=true\/X.env.scope.names.lookup x=some .local:=by first|exact .inl rfl|exact .inr rfl|assumption):PG X (.Name x pos) (iH i):=by intro a s f H v u Q I r h;exact wpAny_assign_Name (kH I d hi b r (λg e=>⟨_,H,e,h⟩) c)
def Ut:MC:=λb a H Q=>b=[]/\Q a H
def MD(t:TG)(u:MC):MC:=λc b H Q=>∃v r,c=v::r/\t v b H λa d=>u r a d Q
theorem IM:Ur X [] Ut:=by intro a s b H c d Q I r h;obtain⟨e,h⟩:=h;subst e;cases r;exact assignInOrder_nil ⟨b,H,I,h⟩
theorem Ek(l:PG X e t)(k:Ur X b u)
 (j:(assignEach (e::b) X.env).map (·.2)=assign e X.env::(assignEach b X.env).map (·.2):=by rfl):Ur X (e::b) (MD t u):=by
 intro a s d H o q Q I r h;obtain⟨v,p,m,h⟩:=h;subst m;cases r with
 |cons r g=>rw[j];refine assignInOrder_cons (cC (l a s d H _ _ _ I r h) λ_ f ⟨c,n,I1,i⟩=>?_);exact k a f c n _ _ Q I1 g i
def NT(K:Frag)(n:Nat)(t:MC):TG:=λv c H Q=>∃a b,v=.ref a/\mP K H a b/\b.length=n/\t b c H Q
theorem NU{k:Nat}(y:X.calm=true)(h:Ur X d t)
 (w:(assignEach d X.env).length=n:=by rfl)(g:(assignEach d X.env).findIdx? (·.1)=none:=by rfl):PG X (.Tuple d k pos) (NT X.K n t):=by
 intro c s i H v u Q I r f;obtain⟨a,j,A,q,x,f⟩:=f;subst A;cases r;obtain⟨l,rv,p,hz⟩:=I.tuple q;refine assign_Tuple_tuple (I.ok.hd y) p (by simp[w,<-x,rv.length]) g λz m=>?_;have I1:Inv X c i H {s with heap:=z}:=I.kept (t':=s.toks) λb o e=>m b o (Ts (KF e)) e;exact h c _ i H j _ Q I1 (by simpa using rv) f
def Uu(b ti:TE)(t:NS):TG:=λv a H Q=>b a H λo e=>ti a e λi d=>t o i v d λc=>Q a c
theorem NV(q:PE X o e)(hi:PE X i ti)(p:Us X t)
 (w:∀v,assign (.Subscript o i pos) X.env v=(do
   let b<-holding [v] (eval o X.env)
   let c<-holding [v,b] (eval i X.env)
   standAt pos
   holding [v,b,c] (setItem b c v)
   release [v,b,c] []):=by intro _;rfl):PG X (.Subscript o i pos) (Uu e ti t):=by
 intro a s d H v u Q I r h;rw[w];refine Hn (wpAny_holding (cC (q a s d H _ I h) λb g ⟨x,D,I1,k,n⟩=>?_));refine Hn (wpAny_holding (cC (hi a g d D _ I1 n) λc f ⟨y,C,A,j,m⟩=>?_));refine Hn (wpAny_standAt (Hn (wpAny_holding (cC (p a f d C x y v b c u _ A k j r m) λ_ E ⟨B,z,l⟩=>?_))));exact wpAny_release ⟨d,B,z,l⟩
def pC(te:TE)(g:TG):TS:=λD a H=>te a H λx b=>g x a b D.nx
theorem yL(l:PE X e te)(k:PG X tg g)(j:swapsWithSole [tg] e pos.line X.env=pure false:=by rfl)(i:swappedStores [tg] e X.env=pure none:=by rfl)
 (m:(assignEach [tg] X.env).map (·.2)=[assign tg X.env]:=by rfl):PS X (.Assign [tg] e pos) (pC te g):=by
 intro a s b H D I h;refine wpAny_Assign_stores (cC (l a s b H _ I h) λv c ⟨x,n,I1,d,f⟩=>?_) j i;rw[m];exact cC (k a c b n x v _ I1 d f) λ_ o q=>q
theorem yM(m:X.N.Nodup)(hi:X.N[i]?=some x)(g:Loc X.env.scope x)(l:PE X e te)(j:swapsWith e (some (.Name x a)) pos.line X.env=pure false:=by rfl)(k:X.fn x=true\/X.env.scope.names.lookup x=some .local:=by first|exact .inl rfl|exact .inr rfl|assumption):
 PS X (.Assign [.Name x a] e pos) (pC te (iH i)):=by
 intro b s c H D I h;refine wpAny_Assign_Name (cC (l b s c H _ I h) λv q ⟨y,o,I1,d,f⟩=>?_) j;exact kH I1 m hi g d (λp n=>⟨_,o,n,f⟩) k
def Yk(i j:Nat)(ta:TA):TS:=λD a H=>ta a H λb c=>∃v w,b=[v,w]/\D.nx ((a.set i (some v)).set j (some w)) c
theorem NW(T:X.calm=true)(G:X.N.Nodup)(hi:X.N[i]?=some x)(S:X.N[j]?=some y)(z:i≠j)
 (F:X.env.scope.names.lookup x=some .local)(E:X.env.scope.names.lookup y=some .local)(U:PA X [a,b] ta)
 (Q:swappedStores [.Tuple [.Name x n,.Name y m] t r] (.Tuple [a,b] k2 B) X.env=pure (some [x,y]))
 (R:swapsWithSole [.Tuple [.Name x n,.Name y m] t r] (.Tuple [a,b] k2 B) pos.line X.env=pure false:=by rfl):
 PS X (.Assign [.Tuple [.Name x n,.Name y m] t r] (.Tuple [a,b] k2 B) pos) (Yk i j ta):=by
 intro c s C H D I h;rw[exec_Assign_arm];refine Hn (wpAny_standAt ?_);rw[R];refine Hn (P3 ?_);rw[Bz (by decide)];refine Hn (Tuple_ (cC (U _ c s C H _ I h) λL g ⟨vs,K,I1,M,l⟩=>?_));obtain⟨v,w,Y,l⟩:=l;subst Y;obtain⟨f,d,rfl,rv,k⟩:∃f d,L=[f,d]/\RelV v f/\RelV w d:=by
  cases M with
  |cons p q=>
   cases q with
   |cons P O=>
    cases O;exact⟨_,_,rfl,p,P⟩
 refine oP ?_ (by show 2<=sizeLine;decide);have I2:Inv X c C K {g with heap:=g.heap.push {cls:=.type "tuple",data:=.seq [f,d].toArray}}:=I1.kept (t':=g.toks) λb o e=>He _ e;rw[Q];refine Hn (P3 ?_);show wpAny (model X.prog X.w) X.A (do rule "assign.swapped-stores";let items<-unpackItems (.ref g.heap.objs.size) 2 none;assignInOrder [λv=>bindName X.env y v,λv=>bindName X.env x v] items.reverse;pure Flow.next) _ _ _;refine Hn (wpAny_rule (Hn (unpackItems_tuple (items:= #[f,d]) (I.ok.hd T) (IsTup.new g.heap _) λh' u=>?_)));have I3:=I2.kept (h':=h') (t':=g.toks) λb o e=>u b o (Ts (KF e)) e;show wpAny _ _ (assignInOrder [λv=>bindName X.env y v,λv=>bindName X.env x v] [d,f]>>=λ_=>pure Flow.next) _ _ _;refine Hn (assignInOrder_cons (wpAny_bindName (kH I3 G S (.inl E) k (λs2 Z=>?_) (.inr E))));refine assignInOrder_cons (wpAny_bindName (kH Z G hi (.inl F) rv (λs3 J=>assignInOrder_nil (P3 ?_)) (.inr F)));rw[List.set_comm _ _ (gN z)]at J;exact⟨_,K,J,l⟩
def NX(c:TT)(h:TS):TS:=λD a H=>∃W:Nat->St->Hp->Prop,(∃m,W m a H)/\∀m a H,W m a H->
 c a H λb f=>if b=true then∃N:St->Hp->Prop,(∀d g,N d g->∃e,e<m/\W e d g)/\h {D with nx:=N,ct:=N,bk:=D.nx} a f else D.nx a f
theorem wV(x:PassesOwn (model X.prog X.w) X.A X.env X.xe)(P:PT X c tc)(Q:wR X g u):PS X (.While c g [] pos) (NX tc u):=by
 intro d s F H D I h;obtain⟨W,⟨O,J⟩,j⟩:=h;refine wpAny_While (codeAny_whileLoop (λn M=>∃i E,Inv X d i E M/\W n i E) ?_ O ⟨F,H,I,J⟩);rintro n L ⟨e,C,I1,G⟩;refine ml x (cC (P d L e C _ I1 (j n e C G)) λb K ⟨B,z,m⟩=>?_);cases b with
 |true=>
  obtain⟨N,y,m⟩:=m;rw[D1 rfl];refine ml x (cC (Q d K e B _ z m) λf R l=>?_);cases f with
  |next=>obtain⟨a,k,t,p⟩:=l;obtain⟨q,r,o⟩:=y a k p;exact⟨q,r,a,k,t,o⟩
  |cont=>obtain⟨a,k,t,p⟩:=l;obtain⟨q,r,o⟩:=y a k p;exact⟨q,r,a,k,t,o⟩
  |brk=>exact l
  |ret v=>exact l
 |false=>rw[Bz PQ];exact wpAny_execs_nil ⟨e,B,z,m⟩
end
set_option genInjectivity false in
set_option genSizeOf false in
structure It where
 go:Nat->Hp->Prop
 Uv:Nat->Hp->V->Hp->Prop
 stop:Nat->Hp->Prop
def pD(X:Cx)(a:List (Addr×Obj))(H:Hp)(b:Addr):Prop:=
 H b=none/\b≠X.env.locals/\b∉X.fs/\(b∈X.ex\/X.s₀.heap.objs.size<=b)/\(∀x c,X.env.cells.lookup x=some c->c≠b)/\∀p∈X.pn++a,p.1≠b
theorem Inv.yN{f:St}{b:Addr}(I:Inv X a f H s)(d:s.heap.objs.size<=b)(h:H' b=none):pD X a H' b:=by
 refine⟨h,R7 (Fm I.lt d),I.X7 d,.inr (Do I.sz d),λx c e z=>?_,λp g z=>?_⟩
 .obtain⟨v,q⟩:=I.cell x c e;exact absurd (Fm q.lt (by rw[z];exact d)) (Xt _)
 .exact absurd (Fm (KF (I.pin p g).1) (by rw[z];exact d)) (Xt _)
structure Turn(P:Program)(w:World)(K:Frag)(tg:Expr)(J:It)(fp:List Addr)(it:Addr)(tn:Nat->Heap->Prop):Prop where
 mem:it∈fp
 obj:∀i h,tn i h->∀b∈fp,∃o,h.get? b=some o/\∀v,o.data≠.cell v
 keep:∀i h h',tn i h->(∀b∈fp,∀o,h.get? b=some o->h'.get? b=some o)->tn i h'
 item:∀(X:Cx),X.prog=P->X.w=w->X.K=K->X.calm=true->∀(i:Nat)(pins:List (Addr×Obj))(s:Shared)(σ:St)(H:Hp)(E:Value->Shared->Prop),Inv X pins σ H s->(∀b∈fp,pD X pins H b)->tn i s.heap->J.go i H->
  wpAny (model P w) X.A (pyNext (.ref it)) (λr s1=>∃u,r=some u/\
   wpAny (model P w) X.A (letOwnedTupleGo tg (.ref it) u) (λ_ s2=>∃x H',Inv X pins σ H' s2/\RelV x u/\J.Uv i H x H'/\tn (i+1) s2.heap/\∀b∈fp,H' b=none) E s1) E s
 done:∀(X:Cx),X.prog=P->X.w=w->X.K=K->X.calm=true->∀(i:Nat)(pins:List (Addr×Obj))(s:Shared)(σ:St)(H:Hp)(E:Value->Shared->Prop),Inv X pins σ H s->(∀b∈fp,pD X pins H b)->tn i s.heap->J.stop i H->
  wpAny (model P w) X.A (pyNext (.ref it)) (λr s1=>r=none/\Inv X pins σ H s1) E s
 self:∀(A:Around)(i:Nat)(s:Shared)(Q:Value->Shared->Prop)(E:Value->Shared->Prop),tn i s.heap->Q (.ref it) s->wpAny (model P w) A (pyIter (.ref it)) Q E s
abbrev TI:=St->Hp->(It->Hp->Prop)->Prop
def Ym(X:Cx)(a:List (Addr×Obj))(i:St)(tg:Expr)(R:It->Hp->Prop)(c:Value)(f:Shared):Prop:=
 ∃(g:Addr)(h:List Addr)(e:Nat->Heap->Prop)(J:It)(d:Hp),c=.ref g/\Inv X a i d f/\Turn X.prog X.w X.K tg J h g e/\e 0 f.heap/\(∀b∈h,pD X a d b)/\R J d
def PI(X:Cx)(tg b:Expr)(d:TI):Prop:=
 ∀(a:List (Addr×Obj))(s:Shared)(c:St)(H:Hp)(R:It->Hp->Prop),Inv X a c H s->d c H R->
  wpAny (model X.prog X.w) X.A (eval b X.env) (λv e=>wpAny (model X.prog X.w) X.A (pyIter v) (Ym X a c tg R) X.xe e) X.xe s
theorem wX(c:s.heap.get? b=some o)(f:o.cls=.type n)(e:o.data=.fields vs)
 (d:["enumerate","zip","dict_itemiterator","dict_reverseitemiterator","odict_iterator","itertools.zip_longest","itertools.pairwise"].contains n=false)(a:Q () s):wpAny M A (letOwnedTupleGo tg (.ref b) u) Q E s:=by
 unfold letOwnedTupleGo;cases tg<;>first
  |exact P3 a
  |(cases u<;>first
     |exact P3 a
     |(refine Hn (wpAny_load c ?_)
       rw[f,e];show wpAny M A (if(["enumerate","zip","dict_itemiterator","dict_reverseitemiterator","odict_iterator","itertools.zip_longest","itertools.pairwise"].contains n&&vs[0]?==some (rawInt _))=true then _ else _) Q E s;rw[Bz (by intro h;rw[d,Bool.false_and]at h;cases h)];exact P3 a))
noncomputable def Yn(K:Frag)(a:Addr):It:=
 ⟨λi H=>∃b x,jA K H a b/\b[i]?=some x,λi H x c=>c=H/\∀b,jA K H a b->b[i]?=some x,λi H=>∃b,jA K H a b/\b.length<=i⟩
noncomputable def Yo(K:Frag)(a:Addr):It:=
 ⟨λi H=>∃b x,mP K H a b/\b[i]?=some x,λi H x c=>c=H/\∀b,mP K H a b->b[i]?=some x,λi H=>∃b,mP K H a b/\b.length<=i⟩
noncomputable def Uw(lo:Int)(n:Nat):It:=⟨λi _=>i<n,λi H x a=>a=H/\x=.int (lo+i),λi _=>n<=i⟩
theorem Cz{K:Frag}(a j:Addr):Turn P w K tg (Yn K a) [j] j (λi h=>h.IsListIter j a i)where
 mem:=by simp
 obj:=λi h f b l=>by
  have e:b=j:=by simpa using l
  subst e;obtain⟨o,e,c,d⟩:=f;exact⟨o,e,λv z=>by rw[d]at z;cases z⟩
 keep:=λi h r f k=>f.at λo e=>k j (by simp) o e
 item:=by intro X C A D O i g s N H E I q f B;subst C A D;obtain⟨Q,x,n,y⟩:=B;obtain⟨t,rv,p,hz⟩:=I.list n;obtain⟨u,U,S⟩:=rv.get y;obtain⟨M,L,Y,J,G,F⟩:=q j (by simp);refine wpAny_pyNext_list_item f p.isList (x:=u) (by simpa using U) λr m R=>?_;have I1:Inv X g N H {s with heap:=r}:=I.turned (t':=s.toks) (λb o l e=>(R.2 b l).trans e) M L J G F;obtain⟨o,e,c,d⟩:=id m;exact⟨u,rfl,wX (s:={s with heap:=r}) e c d (by decide) ⟨x,H,I1,S,⟨rfl,λys T=>by rw[I.oZ T n];exact y⟩,m,λb l=>(q b l).1⟩⟩
 done:=by intro X C A D O i g s N H E I q f B;subst C A D;obtain⟨Q,n,y⟩:=B;obtain⟨t,rv,p,hz⟩:=I.list n;obtain⟨M,L,Y,J,G,F⟩:=q j (by simp);have hl:=rv.length;exact wpAny_pyNext_list_end (I.ok.hd O) f p.isList (by simp;lia) λr Z=>⟨rfl,I.turned (t':=s.toks) (λb o l e=>Z b o l e) M L J G F⟩
 self:=λ_ _ _ _ _ f h=>wpAny_pyIter_listiter f h
theorem yO{K:Frag}(a l:Addr):Turn P w K tg (Yo K a) [l] l (λi h=>h.IsTupleIter l a i)where
 mem:=by simp
 obj:=λi h f b m=>by
  have e:b=l:=by simpa using m
  subst e;obtain⟨o,e,c,d⟩:=f;exact⟨o,e,λv z=>by rw[d]at z;cases z⟩
 keep:=λi h t f k=>f.at λo e=>k l (by simp) o e
 item:=by intro X C A D O i g s N H E I r f B;subst C A D;obtain⟨Q,x,q,y⟩:=B;obtain⟨j,rv,p,hz⟩:=I.tuple q;obtain⟨u,U,S⟩:=rv.get y;obtain⟨M,L,Y,J,G,F⟩:=r l (by simp);refine wpAny_pyNext_tuple_item f (show s.heap.IsTuple a j.toArray from p) (x:=u) (by simpa using U) λt n R=>?_;have I1:Inv X g N H {s with heap:=t}:=I.turned (t':=s.toks) (λb o m e=>(R.2 b m).trans e) M L J G F;obtain⟨o,e,c,d⟩:=id n;exact⟨u,rfl,wX (s:={s with heap:=t}) e c d (by decide) ⟨x,H,I1,S,⟨rfl,λys T=>by rw[I.Cy T q];exact y⟩,n,λb m=>(r b m).1⟩⟩
 done:=by intro X C A D O i g s N H E I r f B;subst C A D;obtain⟨Q,q,y⟩:=B;obtain⟨j,rv,p,hz⟩:=I.tuple q;obtain⟨M,L,Y,J,G,F⟩:=r l (by simp);have hl:=rv.length;exact wpAny_pyNext_tuple_end (I.ok.hd O) f (show s.heap.IsTuple a j.toArray from p) (by simp;lia) λt Z=>⟨rfl,I.turned (t':=s.toks) (λb o m e=>Z b o m e) M L J G F⟩
 self:=λ_ _ _ _ _ f h=>wpAny_pyIter_tupleiter f h
theorem yP{K:Frag}(d:Addr)(lo:Int)(n:Nat):Turn P w K tg (Uw lo n) [d] d (λi h=>IsRangeIter h d (lo+(i:Nat)*1) ((n:Int) -(i:Nat)) 1)where
 mem:=by simp
 obj:=λi h a b f=>by
  have e:b=d:=by simpa using f
  subst e;exact⟨_,a,λv z=>by have G:Data.fields _=Data.cell v:=z;cases G⟩
 keep:=λi h l a k=>k d (by simp) _ a
 item:=by intro X r m u q i c s D H E I j a p;subst r m u;obtain⟨C,B,M,A,y,x⟩:=j d (by simp);have W:=Walks.range (prog:=X.prog) (w:=X.w) (I.ok.hd q) d lo 1 n;refine W.item i s _ _ p a λv l F L g J=>?_;obtain⟨t,rfl⟩:=L;have I1:Inv X c D H {s with heap:=l,toks:=F}:=I.turned (λb o f e=>J b o (by simpa using f) e) C B A y x;refine⟨_,rfl,wX (s:={s with heap:=l,toks:=F}) (n:="range_iterator") g rfl rfl (by decide) ⟨.int (lo+i),H,I1,⟨t,?_⟩,⟨rfl,rfl⟩,g,λb f=>(j b f).1⟩⟩;rw[eC]
 done:=by intro X r m u q i c s D H E I j a p;subst r m u;obtain⟨C,B,M,A,y,x⟩:=j d (by simp);exact wpAny_pyNext_range_end (I.ok.hd q) a (by have:n<=i:=p;lia) λl N=>⟨rfl,I.turned (t':=s.toks) (λb o f e=>N b o f e) C B A y x⟩
 self:=λ_ _ _ _ _ a h=>wpAny_pyIter_rangeiter a h
section
variable{X:Cx}{tg:Expr}
theorem wY{c:St}{lo hi:Int}{t u v:Tok}{d:Nat}(I:Inv X a c H s)(j: -(2^62)<=lo)(i:lo<2^62)(h: -(2^62)<=hi)(g:hi<2^62)
 (q:R (Uw lo (hi -lo).toNat) H):wpAny (model X.prog X.w) X.A (pyIter (.ref s.heap.objs.size)) (Ym X a c tg R) E {s with heap:=s.heap.push {cls:=.type "range",data:=.fields #[.int lo t,.int hi u,.int 1 v]},toks:=d}:=by
 refine wpAny_pyIter_range (IsRange.new ..) (small_one j i h g) ?_;have I1:Inv X a c H {s with heap:=s.heap.push {cls:=.type "range",data:=.fields #[.int lo t,.int hi u,.int 1 v]},toks:=d}:=I.kept λb o e=>He _ e;refine⟨(s.heap.push {cls:=.type "range",data:=.fields #[.int lo t,.int hi u,.int 1 v]}).objs.size,[(s.heap.push {cls:=.type "range",data:=.fields #[.int lo t,.int hi u,.int 1 v]}).objs.size],_,_,H,rfl,
  I1.kept (t':=d) λb o e=>He _ e,yP _ lo (hi -lo).toNat,?_,λb f=>?_,q⟩
 .have l:lo+((0:Nat):Int)*1=lo:=by simp
  have k:(((hi -lo).toNat:Nat):Int) -((0:Nat):Int)=Builtin.Range.rangeSize lo hi 1:=by rw[rangeSize_one];split<;>lia
  show IsRangeIter _ _ (lo+((0:Nat):Int)*1) ((((hi -lo).toNat:Nat):Int) -((0:Nat):Int)) 1;rw[l,k];exact Sr _ rfl
 .have e:b=(s.heap.push {cls:=.type "range",data:=.fields #[.int lo t,.int hi u,.int 1 v]}).objs.size:=by simpa using f
  subst e;exact I1.yN (FC _) (I1.hok.fresh (FC _))
def Ux(ta:TA):TI:=λa H R=>ta a H λb c=>∃j:Int,b=[.int j]/\-(2^62)<=j/\j<2^62/\R (Uw 0 j.toNat) c
def Uy(ta:TA):TI:=λa H R=>ta a H λb c=>∃i j:Int,b=[.int i,.int j]/\(-(2^62)<=i/\i<2^62/\-(2^62)<=j/\j<2^62)/\R (Uw i (j -i).toNat) c
theorem tG(m:Gl X "range")(l:X.mg "range"=none)(n:PA X [a] ta)(k:starEach [a] X.env=[(false,eval a X.env)]:=by rfl):PI X tg (.Call (.Name "range" p) [a] [] pos) (Ux ta):=by
 intro b s d H R I h;refine Call_ (jO I m l boot_range (d6 (cC (n pos b s d H _ I h) λu v ⟨o,w,I1,g,c⟩=>?_) k rfl));obtain⟨j,e,c,i,q⟩:=c;subst e;cases g with
 |cons r f=>
  cases f;obtain⟨t,rfl⟩:=r;exact call_range_1 (wY I1 (by lia) (by lia) c i (by simpa using q))
theorem CA{p pos:Pos}(x:Gl X "range")(w:X.mg "range"=none)(y:PA X [a,b] ta)(v:starEach [a,b] X.env=[(false,eval a X.env),(false,eval b X.env)]:=by rfl)(d:starEach [b] X.env=[(false,eval b X.env)]:=by rfl):
 PI X tg (.Call (.Name "range" p) [a,b] [] pos) (Uy ta):=by
 intro c s k H R I h;refine Call_ (jO I x w boot_range (d6 (cC (y pos c s k H _ I h) λA C ⟨z,D,I1,l,g⟩=>?_) (by rw[v,d]) (by rw[d];rfl)));obtain⟨i,j,e,⟨g,u,o,n⟩,q⟩:=g;subst e;cases l with
 |cons r f=>
  cases f with
  |cons m f=>
   cases f;obtain⟨t,rfl⟩:=r;obtain⟨B,rfl⟩:=m;exact call_range_2 (wY I1 g u o n q)
def Yp(f:TI)(g:TG)(h:TS):TS:=λD a H=>f a H λJ k=>∃W:Nat->Nat->St->Hp->Prop,(∃m,W 0 m a k)/\∀i m a H,W i m a H->
 (J.stop i H/\D.nx a H)\/(J.go i H/\∃N:St->Hp->Prop,(∀b c,N b c->∃e,e<m/\W (i+1) e b c)/\∀x c,J.Uv i H x c->g x a c λd j=>h {D with nx:=N,ct:=N,bk:=D.nx} d j)
noncomputable def pG(a:List Addr)(h:Heap):List (Addr×Obj):=a.filterMap λb=>(h.get? b).map λo=>(b,o)
theorem gR(c:b∈a)(e:h.get? b=some o):(b,o)∈pG a h:=MT.mpr ⟨b,c,by rw[e];rfl⟩
theorem CB(c:p∈pG a h):p.1∈a/\h.get? p.1=some p.2:=by
 obtain⟨b,d,e⟩:=MT.mp c;cases q:h.get? b with
 |none=>rw[q]at e;cases e
 |some o=>rw[q]at e;have f:(b,o)=p:=Pm e;subst f;exact⟨d,q⟩
theorem Inv.pinned{f:St}(I:Inv X a f H s)(k:∀b∈c,pD X a H b)(j:∀b∈c,∃o,s.heap.get? b=some o/\∀v,o.data≠.cell v):Inv X (a++pG c s.heap) f H s:=
 I.AG λp i=>(SL.mp i).elim (λz=>I.pin p (NA _ z)) λz=>by obtain⟨g,e⟩:=CB z;obtain⟨n,m,l,_⟩:=k p.1 g;obtain⟨o,h,d⟩:=j p.1 g;rw[e]at h;cases h;exact⟨e,n,m,l,d⟩
theorem Inv.kK{b:St}(I:Inv X (a++pl) b H s):Inv X a b H s:=I.AG λp c=>I.pin p (NA _ (il _ c))
theorem NY(M:PassesOwn (model X.prog X.w) X.A X.env X.xe)(hc:X.calm=true)(hi:PI X tg k wi)(hg:PG X tg g)(l:wR X C tb)
 (hs:∀x,foldedSetIterable k X.env x=pure x:=by intro _;rfl):PS X (.For tg k C [] pos) (Yp wi g tb):=by
 intro a s σ H D I h;refine wpAny_For (cC (hi a s σ H _ I h) λv s1 h1=>cC h1 λitv s2 h2=>?_) hs;obtain⟨it,P,tn,J,H2,e,I2,T,S,f2,W,⟨m0,w0⟩,E⟩:=h2;subst e;have NZ:∀{z:Hp},(∀b∈P,z b=none)->∀b∈P,pD X a z b:=λhn b l=>⟨hn b l,(f2 b l).2⟩;refine codeAny_forLoop_any (λn s'=>∃i j z,Inv X a j z s'/\tn i s'.heap/\(∀b∈P,z b=none)/\W i n j z) ?_ m0 ⟨0,σ,H2,I2,S,λb l=>(f2 b l).1,w0⟩;rintro n s3 ⟨i,c,Q,I3,K,O,w3⟩;rcases E i n c Q w3 with⟨F,qn⟩|⟨go,N,hN,G⟩
 .refine ml M (cC (T.done X rfl rfl rfl hc i a s3 c Q X.xe I3 (NZ O) K F) λr s4 ⟨Y,I4⟩=>?_);subst Y;exact wpAny_execs_nil ⟨c,Q,I4,qn⟩
 .refine ml M (cC (T.item X rfl rfl rfl hc i a s3 c Q X.xe I3 (NZ O) K go) λr s4 ⟨u,Y,h4⟩=>?_);subst Y;refine ml M (cC h4 λ_ s5 ⟨x,H5,I5,r5,y5,Z,Xk⟩=>?_);have I5':=I5.pinned (NZ Xk) (T.obj _ _ Z);refine ml M (cC (hg _ s5 c H5 x u _ I5' r5 (G x H5 y5)) λ_ s6 ⟨R,H6,I6,q6⟩=>?_);refine ml M (cC (l _ s6 R H6 _ I6 q6) λf U B=>?_);have p:∀{y:St}{t:Hp},Inv X (a++pG P s5.heap) y t U->N y t->∃m,m<n/\∃i j z,Inv X a j z U/\tn i U.heap/\(∀b∈P,z b=none)/\W i m j z:=λ{y t} q L=>by obtain⟨m',hm,w7⟩:=hN y t L;refine⟨m',hm,i+1,y,t,q.kK,T.keep _ _ _ Z λb l o e=>(q.pin (b,o) (NA _ (NA _ (gR l e)))).1,λb l=>?_,w7⟩;obtain⟨o,e,d⟩:=T.obj _ _ Z b l;exact(q.pin (b,o) (NA _ (NA _ (gR l e)))).2.1
  cases f with
  |next=>obtain⟨y,t,q,L⟩:=B;exact p q L
  |cont=>obtain⟨y,t,q,L⟩:=B;exact p q L
  |brk=>obtain⟨y,t,q,B⟩:=B;exact⟨y,t,q.kK,B⟩
  |ret v=>obtain⟨x7,y,t,q,r7,B⟩:=B;exact⟨x7,y,t,q.kK,r7,B⟩
end
abbrev R2:=V->V->Hp->VK->Prop
def rZ(X:Cx)(f:Value->Value->Sem Value)(r:R2):Prop:=
 ∀(a:List (Addr×Obj))(s:Shared)(b:St)(H:Hp)(x y:V)(v u:Value)(Q:VK),Inv X a b H s->RelV x v->RelV y u->r x y H Q->
  wpAny (model X.prog X.w) X.A (f v u) (EP X a b Q) X.xe s
def Yq(X:Cx)(f:Value->Sem Value)(r:V->Hp->VK->Prop):Prop:=
 ∀(a:List (Addr×Obj))(s:Shared)(b:St)(H:Hp)(x:V)(v:Value)(Q:VK),Inv X a b H s->RelV x v->r x H Q->
  wpAny (model X.prog X.w) X.A (f v) (EP X a b Q) X.xe s
def dS(X:Cx)(f:Value)(r:List V->Hp->VK->Prop):Prop:=
 ∀(a:List (Addr×Obj))(s:Shared)(b:St)(H:Hp)(c:List V)(d:List Value)(Q:VK),Inv X a b H s->Vals c d->r c H Q->
  wpAny (model X.prog X.w) X.A (call f d) (EP X a b Q) X.xe s
def tOp(r:R2)(ta b:TE):TE:=λa H Q=>ta a H λx d=>b a d λy c=>r x y c Q
def tUn(r:V->Hp->VK->Prop)(ta:TE):TE:=λa H Q=>ta a H λx b=>r x b Q
def rI(C:Int->Int->Prop)(g:Int->Int->V):R2:=λx y H Q=>∃i j,x=.int i/\y=.int j/\C i j/\Q (g i j) H
def IP(g:Int->Int->V):R2:=λx y H Q=>∃i j,x=.int i/\y=.int j/\Q (g i j) H
def rU(g:Int->V):V->Hp->VK->Prop:=λx H Q=>∃i,x=.int i/\Q (g i) H
section
variable{X:Cx}{a b c:Expr}{ta tb tc:TE}{pos:Pos}
theorem Yr(t:PE X a ta)(r:PE X b tb){e:St}{R:V->V->Hp->Prop}(I:Inv X d e H s)
 (h:ta e H λx H1=>tb e H1 λy g=>R x y g){f:Value->Value->Sem Value}
 (q:∀v u k x y g,Inv X d e g k->RelV x v->RelV y u->R x y g->wpAny (model X.prog X.w) X.A (f v u) Q X.xe k):
 wpAny (model X.prog X.w) X.A (eval a X.env) (λv j=>wpAny (model X.prog X.w) X.A (eval b X.env) (λu i=>wpAny (model X.prog X.w) X.A (f v u) Q X.xe i) X.xe j) X.xe s:=by
 refine cC (t d s e H _ I h) λv l ⟨x,H1,I1,n,p⟩=>?_;refine cC (r d l e H1 _ I1 p) λu k ⟨y,g,z,m,o⟩=>?_;exact q v u k x y g z n m o
theorem Uz(j:Yq X (unaryOp op) r)(k:PE X a ta):PE X (.UnaryOp op a pos) (tUn r ta):=by intro d s e H Q I h;exact UnaryOp_ (cC (k d s e H _ I h) λv f ⟨x,l,I1,g,i⟩=>j d f e l x v Q I1 g i)
theorem Ys{g:Int->Int->Int}
 (d:∀(i j:Int)(t u:Tok)(s:Shared)(Q:Value->Shared->Prop)(E:Value->Shared->Prop),C i j->Q (.int (g i j) s.toks) {s with toks:=s.toks+1}->wpAny (model X.prog X.w) X.A (f (.int i t) (.int j u)) Q E s):
 rZ X f (rI C λi j=>.int (g i j)):=by
 intro e s o H x y v u Q I m l h;obtain⟨i,j,rfl,rfl,n,q⟩:=h;obtain⟨t,rfl⟩:=m;obtain⟨k,rfl⟩:=l;exact d i j t k s _ _ n ⟨.int (g i j),H,I.tok _,⟨_,rfl⟩,q⟩
theorem UA{g:Int->Int->Int}
 (d:∀(i j:Int)(t u:Tok)(s:Shared)(Q:Value->Shared->Prop)(E:Value->Shared->Prop),Q (.int (g i j) s.toks) {s with toks:=s.toks+1}->wpAny (model X.prog X.w) X.A (f (.int i t) (.int j u)) Q E s):
 rZ X f (IP λi j=>.int (g i j)):=by
 intro e s n H x y v u Q I m l h;obtain⟨i,j,rfl,rfl,q⟩:=h;obtain⟨t,rfl⟩:=m;obtain⟨k,rfl⟩:=l;exact d i j t k s _ _ ⟨.int (g i j),H,I.tok _,⟨_,rfl⟩,q⟩
theorem IQ{g:Int->Int->Bool}
 (d:∀(i j:Int)(t u:Tok)(s:Shared)(Q:Value->Shared->Prop)(E:Value->Shared->Prop),Q (.bool (g i j)) s->wpAny (model X.prog X.w) X.A (f (.int i t) (.int j u)) Q E s):
 rZ X f (IP λi j=>.bl (g i j)):=by
 intro e s n H x y v u Q I m l h;obtain⟨i,j,rfl,rfl,q⟩:=h;obtain⟨t,rfl⟩:=m;obtain⟨k,rfl⟩:=l;exact d i j t k s _ _ ⟨.bl (g i j),H,I,rfl,q⟩
def Yt(i j:Int):Prop:=0<j/\j<1073741824
def IS(i j:Int):Prop:=0<=j/\j<=1000000/\i.natAbs<2^64
theorem N3:rZ X (binaryOp .Add) (IP λi j=>.int (i+j)):=UA λ_ _ _ _ _ _ _ q=>add_int q
theorem N4:rZ X (binaryOp .Sub) (IP λi j=>.int (i -j)):=UA λ_ _ _ _ _ _ _ q=>sub_int q
theorem IT:rZ X (binaryOp .Mod) (rI (λ_ j=>j≠0) λi j=>.int (i.fmod j)):=Ys λ_ _ _ _ _ _ _ d q=>mod_int' d q
theorem N5:rZ X (binaryOp .Pow) (rI IS λi j=>.int (i^j.toNat)):=Ys λ_ _ _ _ _ _ _ d q=>pow_int_small d.1 d.2.1 d.2.2 q
theorem unI{g:Int->Int}
 (d:∀(i:Int)(t:Tok)(s:Shared)(Q:Value->Shared->Prop)(E:Value->Shared->Prop),Q (.int (g i) s.toks) {s with toks:=s.toks+1}->wpAny (model X.prog X.w) X.A (f (.int i t)) Q E s):
 Yq X f (rU λi=>.int (g i)):=by
 intro e s k H x v Q I j h;obtain⟨i,rfl,q⟩:=h;obtain⟨t,rfl⟩:=j;exact d i t s _ _ ⟨.int (g i),H,I.tok _,⟨_,rfl⟩,q⟩
theorem N6:Yq X (unaryOp .USub) (rU λi=>.int (-i)):=unI λ_ _ _ _ _ q=>neg_int q
end
noncomputable def N7:V->V->Bool
 |.cu,.cu=>true|.cu,.int _=>true|.int _,.cu=>true|.cu,.bl _=>true|.bl _,.cu=>true|.cu,.str _=>true|.str _,.cu=>true
 |.int _,.int _=>true|.bl _,.bl _=>true|.str _,.str _=>true|.DM _,.DM _=>true
 |.int _,.str _=>true|.str _,.int _=>true|.bl _,.str _=>true|.str _,.bl _=>true
 |_,_=>false
def rEq:R2:=λx y H Q=>N7 x y=true/\Q (.bl (decide (x=y))) H
def rNe:R2:=λx y H Q=>N7 x y=true/\Q (.bl (!decide (x=y))) H
theorem AL:decide (V.int i=V.int j)=(i==j):=by rw[uk];simp
theorem Em:decide (V.bl i=V.bl j)=(i==j):=by rw[uk];simp
theorem AM:decide (V.str i=V.str j)=(i==j):=by rw[uk];simp
theorem AN:decide (V.DM i=V.DM j)=(i.toList==j.toList):=by rw[uk];cases i;cases j;simp
section
variable{X:Cx}{a b c:Expr}{ta tb tc:TE}{pos:Pos}
theorem aQ{f:St}(I:Inv X d f H s)(q:Q (.bl k) H)(e:k=g):EP X d f Q (.bool g) s:=by subst e;exact⟨.bl k,H,I,rfl,q⟩
theorem UB:rZ X (compareOp .Eq) rEq:=by
 intro k s l H x y v u Q I g d h;obtain⟨f,q⟩:=h;cases x with
 |cu=>
  cases g;cases y with
  |cu=>cases d;exact PySem.EqNone.eq_none_none (aQ I q (by simp))
  |bl j=>cases d;exact PySem.EqNone.eq_none_bool (aQ I q (by simp))
  |int j=>obtain⟨e,rfl⟩:=d;exact PySem.EqNone.eq_none_int (aQ I q (by simp))
  |str j=>obtain⟨e,rfl⟩:=d;exact PySem.EqNone.eq_none_str (aQ I q (by simp))
  |_=>exact absurd (show false=true from f) PQ
 |bl i=>
  cases g;cases y with
  |cu=>cases d;exact PySem.EqNone.eq_bool_none (aQ I q (by simp))
  |bl j=>cases d;exact eq_bool (aQ I q Em)
  |str j=>obtain⟨e,rfl⟩:=d;exact PySem.EqMixed.eq_bool_str (aQ I q (by simp))
  |_=>exact absurd (show false=true from f) PQ
 |int i=>
  obtain⟨t,rfl⟩:=g;cases y with
  |cu=>cases d;exact PySem.EqNone.eq_int_none (aQ I q (by simp))
  |int j=>obtain⟨e,rfl⟩:=d;exact eq_int (aQ I q AL)
  |str j=>obtain⟨e,rfl⟩:=d;exact PySem.EqMixed.eq_int_str (aQ I q (by simp))
  |_=>exact absurd (show false=true from f) PQ
 |str i=>
  obtain⟨t,rfl⟩:=g;cases y with
  |cu=>cases d;exact PySem.EqNone.eq_str_none (aQ I q (by simp))
  |bl j=>cases d;exact PySem.EqMixed.eq_str_bool (aQ I q (by simp))
  |int j=>obtain⟨e,rfl⟩:=d;exact PySem.EqMixed.eq_str_int (aQ I q (by simp))
  |str j=>obtain⟨e,rfl⟩:=d;exact eq_str (aQ I q AM)
  |_=>exact absurd (show false=true from f) PQ
 |DM i=>
  obtain⟨t,rfl⟩:=g;cases y with
  |DM j=>obtain⟨e,rfl⟩:=d;exact PySem.W.eq_bytes (aQ I q AN)
  |_=>exact absurd (show false=true from f) PQ
 |_=>cases y<;>exact absurd (show false=true from f) PQ
theorem UC:rZ X (compareOp .NotEq) rNe:=by
 intro k s l H x y v u Q I g d h;obtain⟨f,q⟩:=h;cases x with
 |cu=>
  cases g;cases y with
  |cu=>cases d;exact PySem.EqNone.ne_none_none (aQ I q (by simp))
  |bl j=>cases d;exact PySem.EqNone.ne_none_bool (aQ I q (by simp))
  |int j=>obtain⟨e,rfl⟩:=d;exact PySem.EqNone.ne_none_int (aQ I q (by simp))
  |str j=>obtain⟨e,rfl⟩:=d;exact PySem.EqNone.ne_none_str (aQ I q (by simp))
  |_=>exact absurd (show false=true from f) PQ
 |bl i=>
  cases g;cases y with
  |cu=>cases d;exact PySem.EqNone.ne_bool_none (aQ I q (by simp))
  |bl j=>cases d;exact ne_bool (aQ I q (SU not Em))
  |str j=>obtain⟨e,rfl⟩:=d;exact PySem.EqMixed.ne_bool_str (aQ I q (by simp))
  |_=>exact absurd (show false=true from f) PQ
 |int i=>
  obtain⟨t,rfl⟩:=g;cases y with
  |cu=>cases d;exact PySem.EqNone.ne_int_none (aQ I q (by simp))
  |int j=>obtain⟨e,rfl⟩:=d;exact ne_int (aQ I q (SU not AL))
  |str j=>obtain⟨e,rfl⟩:=d;exact PySem.EqMixed.ne_int_str (aQ I q (by simp))
  |_=>exact absurd (show false=true from f) PQ
 |str i=>
  obtain⟨t,rfl⟩:=g;cases y with
  |cu=>cases d;exact PySem.EqNone.ne_str_none (aQ I q (by simp))
  |bl j=>cases d;exact PySem.EqMixed.ne_str_bool (aQ I q (by simp))
  |int j=>obtain⟨e,rfl⟩:=d;exact PySem.EqMixed.ne_str_int (aQ I q (by simp))
  |str j=>obtain⟨e,rfl⟩:=d;exact ne_str (aQ I q (SU not AM))
  |_=>exact absurd (show false=true from f) PQ
 |DM i=>
  obtain⟨t,rfl⟩:=g;cases y with
  |DM j=>obtain⟨e,rfl⟩:=d;exact PySem.W.ne_bytes (aQ I q (SU not AN))
  |_=>exact absurd (show false=true from f) PQ
 |_=>cases y<;>exact absurd (show false=true from f) PQ
theorem UD:rZ X (compareOp .Lt) (IP λi j=>.bl (decide (i<j))):=IQ λ_ _ _ _ _ _ _ q=>lt_int q
theorem UE:rZ X (compareOp .LtE) (IP λi j=>.bl (decide (i<=j))):=IQ λ_ _ _ _ _ _ _ q=>le_int q
theorem UG:rZ X (compareOp .Gt) (IP λi j=>.bl (decide (j<i))):=IQ λ_ _ _ _ _ _ _ q=>gt_int q
theorem UH:rZ X (compareOp .GtE) (IP λi j=>.bl (decide (j<=i))):=IQ λ_ _ _ _ _ _ _ q=>ge_int q
theorem En(b:Expr)(h:op≠.In:=by decide)(d:op≠.NotIn:=by decide):behindInMarks op b=false:=by
 have f:(op==CmpOp.In)=false:=by cases op<;>first|rfl|exact absurd rfl h
 have e:(op==CmpOp.NotIn)=false:=by cases op<;>first|rfl|exact absurd rfl d
 cases b<;>simp[behindInMarks,f,e]
theorem pH:(sizeLine:Nat)<2^63:=by rw[sizeLine_eq];decide
theorem vals1(r:Vals [x] us):∃u,us=[u]/\RelV x u:=by
 cases r with
 |cons e d=>cases d;exact⟨_,rfl,e⟩
theorem vals2(r:Vals [x,y] us):∃u w',us=[u,w']/\RelV x u/\RelV y w':=by
 cases r with
 |cons g f=>
  cases f with
  |cons e d=>cases d;exact⟨_,_,rfl,g,e⟩
theorem Eo:dS X (.builtin "abs") (λd H Q=>∃i,d=[.int i]/\Q (.int (if i<0 then-i else i)) H):=by intro e s f H d g Q I r h;obtain⟨i,rfl,q⟩:=h;obtain⟨u,rfl,t,rfl⟩:=vals1 r;exact call_abs_int λu j=>⟨.int (if i<0 then-i else i),H,I.tok _,⟨_,rfl⟩,q⟩
theorem CC(g:X.calm=true):dS X (.builtin "max") (λe H Q=>∃i j,e=[.int i,.int j]/\Q (.int (if j>i then j else i)) H):=by
 intro f s l H e n Q I r h;obtain⟨i,j,rfl,q⟩:=h;obtain⟨u,m,rfl,⟨t,rfl⟩,⟨p,rfl⟩⟩:=vals2 r;refine max_two_ints (I.ok.hd g) λv o k=>⟨_,H,I.kept k,?_,q⟩;by_cases d:j>i
 .rw[D1 d,D1 d];exact⟨_,rfl⟩
 .rw[Bz d,Bz d];exact⟨_,rfl⟩
theorem CD(g:X.calm=true):dS X (.builtin "min") (λe H Q=>∃i j,e=[.int i,.int j]/\Q (.int (if j<i then j else i)) H):=by
 intro f s l H e n Q I r h;obtain⟨i,j,rfl,q⟩:=h;obtain⟨u,m,rfl,⟨t,rfl⟩,⟨p,rfl⟩⟩:=vals2 r;refine min_two_ints (I.ok.hd g) λv o k=>⟨_,H,I.kept k,?_,q⟩;by_cases d:j<i
 .rw[D1 d,D1 d];exact⟨_,rfl⟩
 .rw[Bz d,Bz d];exact⟨_,rfl⟩
theorem CF:dS X (.type "int") (λd H Q=>(∃i,d=[.int i]/\Q (.int i) H)\/∃k,d=[.bl k]/\Q (.int (if k then 1 else 0)) H):=by
 intro e s g H d j Q I r h;rcases h with⟨i,rfl,q⟩|⟨k,rfl,q⟩
 .obtain⟨u,rfl,t,rfl⟩:=vals1 r;exact call_int_int ⟨.int i,H,I,⟨_,rfl⟩,q⟩
 .obtain⟨u,rfl,f⟩:=vals1 r;cases f;exact call_int_bool ⟨.int (if k then 1 else 0),H,I.tok _,⟨_,rfl⟩,q⟩
theorem wZ:dS X (.builtin "divmod") (λd H Q=>∃i j,d=[.int i,.int j]/\Yt i j/\∀p,H p=none->Q (.ref p) (upd H p (.tup [.int (i/j),.int (i%j)]))):=by intro f s k H d m Q I r h;obtain⟨i,j,rfl,⟨w,v⟩,q⟩:=h;obtain⟨u,l,rfl,⟨t,rfl⟩,⟨n,rfl⟩⟩:=vals2 r;refine divmod_int (by lia) ?_ (.inl (Wc (by lia)));rw[Iy i (by lia),hU i (by lia)];have g:H s.heap.objs.size=none:=I.hok.fresh (FC _);refine⟨.ref s.heap.objs.size,_,?_,rfl,q _ g⟩;refine I.laid (λb o e=>He _ e) (FC _) ⟨by simp only[Av,TR];rw[sizeLine_eq];decide,[.int (i/j) s.toks,.int (i%j) (s.toks+1)],.cons ⟨_,rfl⟩ (.cons ⟨_,rfl⟩ .nil),?_⟩;exact⟨_,Sr s.heap rfl,rfl,0,rfl⟩
end
structure yQ(h:Heap)(x dx C:Addr)(mA:Str->Option Value):Prop where
 obj:h.get? x=some (instObj C dx)
 ns:h.Ns1 dx mA
 ne:dx≠x
theorem CG{h:Heap}(n:h.Ns1 g d):∃c,h.get? g=some c/\∀name,lookIn name c=some (d name):=by
 obtain⟨o,f,r,j,m,l,_,k⟩:=n;refine⟨o,j,λname=>?_⟩;have e:=k name;unfold nsFind findBy at e;rw[<-Array.find?_toList]at e;unfold lookIn;rw[m];dsimp only;split
 .rename_i y q
  rw[q]at e;exact SU some e
 .rename_i q
  rw[q]at e;have a:f.toList.any (·.refKey)=false:=by rw[cR];intro y i;obtain⟨z,t,b⟩:=l y (Array.mem_toList_iff.mp i);simp[DictEntry.refKey,b]
  have p:¬f.toList.any (·.refKey)=true:=by rw[a];exact PQ
  rw[Bz p];exact SU some e
theorem yQ.look(I:yQ h x c C b):∃a,PySem.W.InstAt h x (instObj C c) C (some a)/\∀name,lookIn name a=some (b name):=
 let⟨a,ho,hl⟩:=CG I.ns
 ⟨a,⟨I.obj,rfl,rfl,ho⟩,hl⟩
section
variable{prog:Program}{w:World}{A:Around}{E:Value->Shared->Prop}{s:Shared}{K:Frag}{x dx C f:Addr}{mA:Str->Option Value}{name:Str}{v:Value}
theorem get_map(X:K.In s.heap)(I:yQ s.heap x dx C mA)(g:plainGet K C name=true)(e:hasDictIn K C=true)
 (i:findIn K (.ref C) name=some none)(c:mA name=some v)(b:PySem.W.handedIn v=true)(h:Q v {s with toks:=s.toks+1}):
 wpAny (model prog w) A (getAttr (.ref x) name a) Q E s:=by
 obtain⟨j,J,d⟩:=I.look;exact PySem.W.get_value X J (plainGet_of g).1 (PySem.W.findObj_own e i rfl (by rw[d,c])) b h
theorem Ep(X:K.In s.heap)(I:yQ s.heap x dx C mA)(a:plainGet K C name=true)
 (g:findIn K (.ref C) name=some (some (.ref f)))(d:isFn K (.ref f)=true)(c:mA name=none)(h:Q (.ref f,[.ref x]) s):
 wpAny (model prog w) A (getMethod (.ref x) name pl) Q E s:=by
 obtain⟨b,J,e⟩:=I.look;exact PySem.W.method_fn X J (plainGet_of a).1 (plainGet_of a).2 g (Qb.mp d) (by show(lookIn name b).map (·.isSome)=some false;rw[e,c];rfl) h
theorem IU(X:K.In s.heap)(I:yQ s.heap x dx C mA)
 (o:findIn K (.ref C) "__setattr__"=some (some (.builtin "object.__setattr__")))(p:plainOver K C=true)(m:takerIn K C name=some none)(q:hasDictIn K C=true)
 (l:PySem.Within mA ns)(n:ns.length<=sizeLine)
 (h:∀h',yQ h' x dx C (λy=>if y=name then some v else mA y)->Heap.SameBut dx s.heap h'->Q () {s with heap:=h',toks:=s.toks+2}):
 wpAny (model prog w) A (setAttr (.ref x) name v) Q E s:=by
 obtain⟨B,J,F⟩:=I.look;refine PySem.W.set_plain X J o (PySem.W.osa_open (s:={s with toks:=s.toks+1}) (r:=none) X J p m λb=>?_);obtain⟨G,t,i⟩:=PySem.W.any_some q;have k:s.heap.get? x=some ⟨.ref C,some dx,.plain,#[]⟩:=I.obj;refine Hn (P3 (Hn (Hn (wpAny_loadPart k (Hn (PySem.W.Looks.here (s:={s with toks:=s.toks+1}) (PySem.W.looks_clsIn X t) ?_))))));rw[i];refine P3 (a:=some dx) (Hn (P3 (Hn ?_)));refine wpAny_nsSet1 (s:={s with toks:=s.toks+1}) I.ns λh' d c=>?_;obtain⟨D,u,z,e,g,j⟩:=d.count (PySem.Within.cons name v l);refine Hn (wpAny_lookBehind e (by rw[g];exact pastItsLine_dict (Do j (by rw[Av];lia))) ?_);exact P3 (h _ ⟨(c.2 _ (gN I.ne)).trans I.obj,d,I.ne⟩ c)
theorem Er(X:K.In s.heap)(c:makesIn K C=true)
 (hi:findIn K (.ref C) "__init__"=some (some (.ref f)))(e:PySem.W.typeIn K (.ref f)=some (.type "function"))
 (h:codeAny (model prog w) (A.under (.builtin "type.__call__" ⟨.ref C::vs,b⟩)) (.call (.ref f) ⟨.ref (s.heap.objs.size+1)::vs,b⟩) (PySem.W.InitBack (s.heap.objs.size+1) R)
   {s with heap:=(s.heap.push emptyDict).push (instObj C s.heap.objs.size)}):
 codeAny (model prog w) A (.call (.ref C) ⟨vs,b⟩) R s:=by
 obtain⟨j,g,d,t,i⟩:=s;exact PySem.W.make_core (PySem.W.makes_of X c) (PySem.W.looks_findIn X hi) (λa=>PySem.W.bind_fn X a e) (.inl rfl) h
end
noncomputable def gS(f:Str)(v:V):List (Str×V)->List (Str×V)
 |[]=>[(f,v)]
 |(g,x)::r=>if g=f then(g,v)::r else(g,x)::gS f v r
theorem nN(f g:Str)(v:V):∀c:List (Str×V),(gS f v c).lookup g=if g=f then some v else c.lookup g
 |[]=>by
  show Ik g [(f,v)]=_;by_cases h:g=f
  .have a:(g==f)=true:=Qb.mpr h;simp only[Ik,a,D1 h]
  .have a:(g==f)=false:=oT.mpr h;simp only[Ik,a,Bz h]
 |(k,x)::r=>by
  have d:=nN f g v r;rw[show gS f v ((k,x)::r)=(if k=f then(k,v)::r else(k,x)::gS f v r)from rfl];by_cases b:k=f
  .rw[D1 b];by_cases h:g=k
   .have a:(g==k)=true:=Qb.mpr h;simp only[Ik,a,D1 (h.trans b)]
   .have a:(g==k)=false:=oT.mpr h;simp only[Ik,a,Bz (λe:g=f=>h (e.trans b.symm))]
  .rw[Bz b];by_cases h:g=k
   .have a:(g==k)=true:=Qb.mpr h;simp only[Ik,a,Bz (λe:g=f=>b (h.symm.trans e))]
   .have a:(g==k)=false:=oT.mpr h;simp only[Ik,a];exact d
theorem mR(f:Str)(v:V):∀b:List (Str×V),f∈(gS f v b).map (·.1)/\∀g,g∈b.map (·.1)->g∈(gS f v b).map (·.1)
 |[]=>⟨by simp[gS],λg h=>by simp at h⟩
 |(k,x)::r=>by
  obtain⟨d,c⟩:=mR f v r;rw[show gS f v ((k,x)::r)=(if k=f then(k,v)::r else(k,x)::gS f v r)from rfl];by_cases a:k=f
  .rw[D1 a];subst a;exact⟨by simp,λg h=>by simpa using h⟩
  .rw[Bz a];refine⟨?_,λg h=>?_⟩
   .rw[Wp];exact FM _ d
   .rw[Wp]at h⊢;rcases IH.mp h with e|e
    .exact IH.mpr (.inl e)
    .exact FM _ (c g e)
theorem nO(f:Str)(v:V):∀b:List (Str×V),(gS f v b).length<=b.length+1
 |[]=>by simp[gS]
 |(k,x)::r=>by
  have ih:=nO f v r;rw[show gS f v ((k,x)::r)=(if k=f then(k,v)::r else(k,x)::gS f v r)from rfl];by_cases a:k=f
  .rw[D1 a,Av,Av];lia
  .rw[Bz a,Av,Av];lia
theorem r9.some_of(r:r9 (some v) o):∃u,o=some u/\RelV v u:=by
 cases o with
 |none=>exact(show False from r).elim
 |some u=>exact⟨u,rfl,r⟩
theorem r9.none_of(r:r9 none o):o=none:=by
 cases o with
 |none=>rfl
 |some u=>exact(show False from r).elim
theorem CH(r:RelV v u):PySem.W.handedIn u=true:=by
 cases v with
 |cu=>cases(show u=Value.none from r);rfl
 |bl b=>cases(show u=Value.bool b from r);rfl
 |int i=>obtain⟨t,e⟩:=(show∃t,u=Value.int i t from r);cases e;rfl
 |str x=>obtain⟨t,e⟩:=(show∃t,u=Value.str x t from r);cases e;rfl
 |DM b=>obtain⟨t,e⟩:=(show∃t,u=Value.bytes b t from r);cases e;rfl
 |SY b=>obtain⟨t,e⟩:=(show∃t,u=Value.float b t from r);cases e;rfl
 |ref a=>cases(show u=Value.ref a from r);rfl
 |ty n=>cases(show u=Value.type n from r);rfl
section
variable{P:Program}{w:World}{H H':Hp}{h h':Heap}{a C dx:Addr}{fs fs':List (Str×V)}
theorem uE(c:kC P w H h)(e:H a=some (.ins C dx fs)):∃b,yQ h a dx C b/\(∀f,r9 (fs.lookup f) (b f))/\PySem.Within b (fs.map (·.1))/\fs.length<=1000/\H dx=some (.own a):=by obtain⟨d,z,i,g,b,n,r,q⟩:=(show dH P w H h a (.ins C dx fs)from c a _ e);exact⟨b,⟨g,n,i⟩,r,q,z,d⟩
end
structure IV(K:Frag)(C:Addr):Prop where
 pg:plainGet K C Str.empty=true
 hd:hasDictIn K C=true
 po:plainOver K C=true
 sa:findIn K (.ref C) "__setattr__"=some (some (.builtin "object.__setattr__"))
theorem IV.get{K:Frag}(c:IV K C)(f:Str):plainGet K C f=true:=c.pg
def jP(K:Frag)(C:Addr)(f:Str):Prop:=findIn K (.ref C) f=some none
theorem jP.UI{K:Frag}(n:jP K C f):takerIn K C f=some none:=by unfold takerIn;rw[show findIn K (.ref C) f=some none from n];rfl
structure Meth(K:Frag)(C:Addr)(m:Str)(f:Addr):Prop where
 at_:findIn K (.ref C) m=some (some (.ref f))
 fn:isFn K (.ref f)=true
 kp:keepIn K (.ref f)=true
section
variable{X:Cx}{pins:List (Addr×Obj)}{σ:St}{H:Hp}{s:Shared}{a C dx:Addr}{fs:List (Str×V)}{f:Str}{v:V}{A:Around}{E:Value->Shared->Prop}
theorem yR(I:Inv X pins σ H s)(e:H a=some (.ins C dx fs))(c:IV X.K C)(n:jP X.K C f)(l:fs.lookup f=some v)
 (h:∀u s',Inv X pins σ H s'->RelV v u->Q u s'):wpAny (model X.prog X.w) A (getAttr (.ref a) f b) Q E s:=by
 obtain⟨g,O,r,_,_,_⟩:=uE I.hok e;obtain⟨u,i,d⟩:=r9.some_of (v:=v) (o:=g f) (by rw[<-l];exact r f);exact get_map I.yJ O (c.get f) c.hd n i (CH d) (h u _ (I.tok _) d)
theorem yS(I:Inv X pins σ H s)(e:H a=some (.ins C dx fs))(c:IV X.K C)(k:Meth X.K C m g)(l:fs.lookup m=none)
 (h:Q (.ref g,[.ref a]) s):wpAny (model X.prog X.w) A (getMethod (.ref a) m pl) Q E s:=by
 obtain⟨b,O,r,_,_,_⟩:=uE I.hok e;have d:b m=none:=r9.none_of (by rw[<-l];exact r m);exact Ep I.yJ O (c.get m) k.at_ k.fn d h
theorem yT(I:Inv X pins σ H s)(e:H a=some (.ins C dx fs))(c:IV X.K C)(n:jP X.K C f)(D:fs.length<1000)(m:RelV y u)
 (h:∀s',Inv X pins σ (upd H a (.ins C dx (gS f y fs))) s'->Q () s'):wpAny (model X.prog X.w) A (setAttr (.ref a) f u) Q E s:=by
 obtain⟨j,O,r,i,_,k⟩:=uE I.hok e;have hz:(fs.map (·.1)).length<=sizeLine:=by rw[Bi,sizeLine_eq];lia
 refine IU I.yJ O c.sa c.po n.UI c.hd i hz λB d l=>h _ ?_;have hd:∃o,B.get? dx=some o:=let⟨o,_,_,e',_⟩:=d.ns;⟨o,e'⟩
 refine I.write (x:=a) (e:=dx) (by rw[e];exact fi) (.inr k) (λb q t z=>(l.2 b t).trans z) hd ?_;refine⟨by rw[ay O.ne];exact k,?_,O.ne,d.obj,_,d.ns,λg=>?_,λg p=>?_⟩
 .have:=nO f y fs;lia
 .show r9 ((gS f y fs).lookup g) (if g=f then some u else j g);rw[nN];by_cases q:g=f
  .rw[D1 q,D1 q];exact m
  .rw[Bz q,Bz q];exact r g
 .by_cases q:g=f
  .rw[q];exact(mR f y fs).1
  .refine(mR f y fs).2 g (i g λz=>p ?_);show(if g=f then some u else j g)=none;rw[Bz q];exact z
theorem Inv.made(I:Inv X pins σ H s):Inv X pins σ (upd (upd H s.heap.objs.size (.own (s.heap.objs.size+1))) (s.heap.objs.size+1) (.ins C s.heap.objs.size []))
 {s with heap:=(s.heap.push emptyDict).push (instObj C s.heap.objs.size)}:=by
 have d:(s.heap.push emptyDict).get? s.heap.objs.size=some emptyDict:=Sr s.heap rfl;have j:((s.heap.push emptyDict).push (instObj C s.heap.objs.size)).get? (s.heap.objs.size+1)=some (instObj C s.heap.objs.size):=by have:=Sr (s.heap.push emptyDict) (o:=instObj C s.heap.objs.size) rfl;rwa [Heap.size_push]at this
 have i:(s.heap.push emptyDict).Ns s.heap.objs.size (λ_=>none):=⟨emptyDict,#[],_,d,rfl,(λe h=>absurd h (by simp)),λ_=>rfl⟩;have I1:=I.laid (a:=s.heap.objs.size) (o:=.own (s.heap.objs.size+1)) (h':=s.heap.push emptyDict) (t':=s.toks) (λb u q=>He _ q) (FC _) ⟨_,d⟩;refine I1.laid (a:=s.heap.objs.size+1) (o:=.ins C s.heap.objs.size []) (t':=s.toks) (λb u q=>He _ q) (n4 (Heap.size_push _ _)) ?_;have c:s.heap.objs.size≠s.heap.objs.size+1:=Ts (Qr _);refine⟨by rw[ay c,aJ],Os _,c,j,λ_=>none,(Heap.Ns1.of_empty i).at λo q=>He _ q,λ_=>fi,λy g=>absurd rfl g⟩
theorem IX(c:attributeBase e f env (eval e env)=eval e env)
 (h:wpAny (model prog w) A (eval e env) (λo b=>wpAny (model prog w) A (getAttr o f true) Q E b) E s):wpAny (model prog w) A (eval (.Attribute e f pos) env) Q E s:=
 Attribute_any_ h (by rw[arm_eval_Attribute,c])
end
def Yu(K:Frag)(ta:TE)(f:Str):TE:=λd H Q=>ta d H λx c=>∃a C e b v,x=.ref a/\c a=some (.ins C e b)/\IV K C/\jP K C f/\b.lookup f=some v/\Q v c
def UJ(K:Frag)(ta g:TE)(f:Str):TS:=λD b H=>g b H λy h=>ta b h λx e=>∃a C d c,x=.ref a/\e a=some (.ins C d c)/\IV K C/\jP K C f/\c.length<1000/\
 D.nx b (upd e a (.ins C d (gS f y c)))
section
variable{X:Cx}{o e value:Expr}{f:Str}{pos pos' tpos:Pos}{ta tv:TE}
theorem N8(j:PE X e ta)(k:attributeBase e f X.env (eval e X.env)=eval e X.env):PE X (.Attribute e f pos) (Yu X.K ta f):=by intro b s d H Q I h;refine IX k (cC (j b s d H _ I h) λu y hz=>?_);obtain⟨x,r,I1,g,a,C,A,z,v,ex,m,c,n,l,q⟩:=hz;subst ex;obtain rfl:u=Value.ref a:=g;exact yR I1 m c n l λt w p i=>⟨v,r,p,i,q⟩
theorem gg(t:PE X o ta)(p:PE X value tv)(r:swapsWith value (some (.Attribute o f pos')) pos.line X.env=pure false):PS X (.Assign [.Attribute o f pos'] value pos) (UJ X.K ta tv f):=by intro b s d H D I h;refine plainObj_wpAny_Assign_Attribute (cC (p b s d H _ I h) λu g ⟨y,A,I1,i,q⟩=>cC (t b g d A _ I1 q) λm E hz=>?_) r;obtain⟨x,J,z,j,a,C,G,F,ex,v,c,n,l,k⟩:=hz;subst ex;obtain rfl:m=Value.ref a:=j;exact yT z v c n l i λB w=>⟨d,_,w,k⟩
end
section
variable{X:Cx}{pins:List (Addr×Obj)}{σ:St}{H:Hp}{s:Shared}{A:Around}{E:Value->Shared->Prop}{Q:Value->Shared->Prop}{c:Value}{b:Bool}
inductive pI(K:Frag)(H:Hp):V->Value->Prop where
 |cu:pI K H .cu (.type "NoneType")
 |bl (x:Bool):pI K H (.bl x) (.type "bool")
 |int (i:Int):pI K H (.int i) (.type "int")
 |str (x:Str):pI K H (.str x) (.type "str")
 |SY (x:UInt64):pI K H (.SY x) (.type "float")
 |lst {a:Addr} {xs:List V} (e:H a=some (.lst xs)):pI K H (.ref a) (.type "list")
 |AF {a:Addr} {o:Obj} {xs:List V} (e:H a=some (.AF o (.lst xs))):pI K H (.ref a) (.type "list")
 |tup {a:Addr} {xs:List V} (e:H a=some (.tup xs)):pI K H (.ref a) (.type "tuple")
 |dK {a:Addr} {kvs:List (Key×V)} (e:H a=some (.dK kvs)):pI K H (.ref a) (.type "dict")
 |dT {a:Addr} {kvs:List (List Key×V)} (e:H a=some (.dT kvs)):pI K H (.ref a) (.type "dict")
 |ins {a C dx:Addr} {fs:List (Str×V)} (e:H a=some (.ins C dx fs)) (cl:IV K C) (ha:findIn K (.ref C) "__class__"=some (some (.builtin "object.__class__")))
   (hn:PySem.W.specialIn K (.builtin "object.__class__") "__get__"=some (some (.builtin "getset_descriptor.__get__"))) (htk:PySem.W.takesIn K (.builtin "object.__class__")=some true)
   (hm:mroIn K C (.type "object")=some true):pI K H (.ref a) (.ref C)
end
structure cY(k:Nat)(A:Around):Prop where
 hd:A.handled=none
 dp:A.depth+k+120<recursionLimit
 un:A.units+8*k+200<cLine
theorem cY.mono(r:cY k A)(h:j<=k):cY j A:=⟨r.hd,by have:=r.dp;lia,by have:=r.un;lia⟩
theorem cY.deeper(r:cY (k+1) A)(env:Env):cY k (A.deeper env):=
 ⟨r.hd,by have:=r.dp;show A.depth+1+k+120<_;lia,by have:=r.un;show A.units+3+8*k+200<_;lia⟩
theorem yU{A:Around}:(A.under (.builtin "type.__call__" ⟨.ref C::us,a⟩)).depth=A.depth+1:=by first|rfl|simp[Around.under,Code.weight,Code.isCreation,Code.isGuard,Code.isCaller,Code.frames,Code.isFrame,guardIds]
theorem yV{A:Around}:(A.under (.builtin "type.__call__" ⟨.ref C::us,a⟩)).units=A.units+1:=by first|rfl|simp[Around.under,Code.cUnits,Code.frames,Code.isFrame]
theorem cY.make(r:cY (k+1) A)(C:Addr)(us:List Value)(a:List (Str×Value)):cY k (A.under (.builtin "type.__call__" ⟨.ref C::us,a⟩)):=
 ⟨r.hd,by have:=r.dp;rw[yU];lia,by have:=r.un;rw[yV];lia⟩
theorem cY.depth(r:cY k A):A.depth<recursionLimit:=by have:=r.dp;lia
theorem cY.units(r:cY k A):A.units+64<cLine:=by have:=r.un;lia
def N9:TA:=λ_ H Q=>Q [] H
def AO(ta:TE)(c:TA):TA:=λa H Q=>ta a H λx e=>c a e λb d=>Q (x::b) d
section
variable{X:Cx}{e:Expr}{es:List Expr}{te:TE}{t:TA}{pos:Pos}
theorem dX:PA X [] N9:=λ_ _ _ _ H Q I h=>Calls.spliced_nil ⟨[],H,I,.nil,h⟩
theorem bU(m:PE X e te)(l:PA X es t)(k:starEach (e::es) X.env=(false,eval e X.env)::starEach es X.env:=by rfl):PA X (e::es) (AO te t):=by intro pos a s b H Q I h;rw[k];show wpAny _ _ (spliced ((false,eval e X.env)::backTo pos (starEach es X.env))) _ _ s;refine Calls.spliced_cons (cC (m a s b H _ I h) λu d ⟨x,p,I1,g,j⟩=>?_);exact cC (l pos a d b p _ I1 j) λq r ⟨c,o,n,f,i⟩=>⟨x::c,o,n,.cons g f,i⟩
def Yv(t:TA):TE:=λc H Q=>t c H λa b=>a.length<=sizeLine/\∀p,b p=none->Q (.ref p) (upd b p (.tup a))
def Yw(t:TA):TE:=λc H Q=>t c H λa b=>a.length<=sizeLine/\∀p,b p=none->Q (.ref p) (upd b p (.lst a))
theorem Es(h:PA X es t):PE X (.Tuple es i pos) (Yv t):=by intro a s f H Q I k;refine wpAny_Tuple_spliced (cC (h pos a s f H _ I k) λj c ⟨g,d,I1,r,z,q⟩=>⟨by rw[<-r.length];exact z,?_⟩);have l:d c.heap.objs.size=none:=I1.hok.fresh (FC _);refine⟨.ref c.heap.objs.size,upd d c.heap.objs.size (.tup g),I1.laid (t':=c.toks) (λb u e=>He _ e) (FC _) ?_,rfl,q _ l⟩;exact⟨z,j,r,⟨_,Sr _ rfl,rfl,_,rfl⟩⟩
theorem yW(h:PA X es t):PE X (.List es pos) (Yw t):=by intro a s f H Q I j;refine wpAny_List_spliced (cC (h pos a s f H _ I j) λi c ⟨g,d,I1,r,z,q⟩=>⟨by rw[<-r.length];exact z,?_⟩);have k:d c.heap.objs.size=none:=I1.hok.fresh (FC _);refine⟨.ref c.heap.objs.size,upd d c.heap.objs.size (.lst g),I1.laid (t':=c.toks) (λb u e=>He _ e) (FC _) ?_,rfl,q _ k⟩;exact⟨z,i,0,r,Sr _ rfl⟩
end
abbrev Sp:=List V->Hp->VK->XK->Prop
abbrev CI:=List Env->Hp->Shared->XK->Value->Shared->Prop
structure yX(P:Program)(w:World)(K:Frag)(mg:Str->Option Value)(base:Heap)(A:Around)(outer:List Env)(s:Shared)(H:Hp):Prop where
 frames:A.frames=some outer
 mod:Mod K mg base
 bs:∀b o,base.get? b=some o->s.heap.get? b=some o/\H b=none
 II:base.objs.size<=s.heap.objs.size
 oh:s.heap.FunFrames base outer
 NJ:∀b∈frs outer,H b=none
 hok:kC P w H s.heap
 bare:AllBare s.gens
 tree:P.given.tree=none
def CE(a:List Env)(P:Program)(w:World)(H:Hp)(s:Shared)(Q:VK)(u:Value)(s':Shared):Prop:=
 ∃v b,s'.os=s.os/\AllBare s'.gens/\Un (frs a) [] H b s.heap s'.heap/\kC P w b s'.heap/\RelV v u/\Q v b
def CR(CX:CI)(a:List Env)(P:Program)(w:World)(H:Hp)(s:Shared)(Q:VK)(E:XK)(r:Result)(s':Shared):Prop:=
 match r with
 |.ok (.ret u)=>CE a P w H s Q u s'
 |.ok _=>False
 |.error e=>CX a H s E e s'
structure cA(P:Program)(w:World)(K:Frag)(mg:Str->Option Value)(base:Heap)(CX:CI)(k:Nat)(f:Addr)(fd:FuncData)(ps:List Str)(sp:Sp):Prop where
 len:∀vs H Q E,sp vs H Q E->vs.length=ps.length
 run:∀(A:Around)(outer:List Env)(s:Shared)(H:Hp)(args:Args)(us:List Value)(vs:List V)(Q:VK)(E:XK),cY k A->yX P w K mg base A outer s H->BindsTo s fd args (ps.zip us)->Vals vs us->sp vs H Q E->
  codeAny (model P w) A (.call (.ref f) args) (CR CX outer P w H s Q E) s
theorem cA.imp{K:Frag}{k:Nat}{f:Addr}{d:FuncData}{ps:List Str}{sp e:Sp}(F:cA P w K c base CX k f d ps sp)
 (h:∀vs H Q E,e vs H Q E->sp vs H Q E):cA P w K c base CX k f d ps e:=
 ⟨λvs H Q E q=>F.len vs H Q E (h _ _ _ _ q),λA a s H b g vs Q E l m n i j=>F.run A a s H b g vs Q E l m n i (h _ _ _ _ j)⟩
theorem yX.make{K:Frag}{a:List Env}{s:Shared}{H:Hp}(e:yX P w K b base A a s H)(C:Addr)(us:List Value)(c:List (Str×Value)):
 yX P w K b base (A.under (.builtin "type.__call__" ⟨.ref C::us,c⟩)) a s H:=⟨by first|exact e.frames|(simpa[Around.under,Code.envs,Code.isFrame,pushEnvs]using e.frames),e.mod,e.bs,e.II,e.oh,e.NJ,e.hok,e.bare,e.tree⟩
section
variable{X:Cx}{pins:List (Addr×Obj)}{σ:St}{H:Hp}{s s':Shared}
theorem Inv.UK(I:Inv X pins σ H s):yX X.prog X.w X.K X.mg X.base X.A X.stack s H:=
 ⟨I.ok.frames,I.ok.mod,I.bs,Do I.ok.II I.sz,I.stack,I.jj,I.hok,I.bare,I.ok.tree⟩
theorem Inv.after(I:Inv X pins σ H s)(h:CE X.stack X.prog X.w H s Q u s'):EP X pins σ Q u s':=by obtain⟨v,j,os,a,f,e,r,q⟩:=h;obtain⟨i,g,d,t,c⟩:=s';obtain rfl:c=s.os:=os;exact⟨v,j,I.call (h':=i) (g':=g) (d':=d) (t':=t) (ch:=[]) f e a (λb z=>absurd z (by simp)),r,q⟩
end
def Binds(K:Frag)(b:FuncData)(ps:List Str)(ds:List Value):Prop:=
 ∀(s:Shared)(a:List Value),K.In s.heap->(a++ds).length=ps.length->BindsTo s b ⟨a,[]⟩ (ps.zip (a++ds))
theorem Binds.all{K:Frag}(h:∀us:List Value,us.length=ps.length->bindArgs b ⟨us,[]⟩=pure (ps.zip us)):Binds K b ps []:=λs us _ a=>by rw[ik]at a⊢;exact .of_eq (h us a)
def Passes(CX:CI)(X:Cx)(E:XK):Prop:=∀(a:List (Addr×Obj))(c:St)(H:Hp)(s:Shared)(e:Value)(b:Shared),Inv X a c H s->CX X.stack H s E e b->X.xe e b
section
variable{X:Cx}{CX:CI}{k:Nat}{f C:Addr}{fd:FuncData}{ps:List Str}{sp:Sp}{Im:List V}{ds:List Value}{E:XK}{x m:Str}{p pos apos:Pos}{e o:Expr}{es:List Expr}{ta:TE}{t:TA}
theorem Et{c:St}{vs:List V}(F:cA X.prog X.w X.K X.mg X.base CX k f fd ps sp)(i:cY k X.A)(n:Binds X.K fd ps ds)(l:Vals Im ds)(g:∀H s e s',Inv X a c H s->CX X.stack H s E e s'->X.xe e s')
 (I:Inv X a c H s)(r:Vals vs us)(h:sp (vs++Im) H Q E):wpAny (model X.prog X.w) X.A (call (.ref f) us) (EP X a c Q) X.xe s:=by
 have d:Vals (vs++Im) (us++ds):=r.append l;have j:(us++ds).length=ps.length:=by rw[<-d.length];exact F.len _ _ _ _ h
 refine wpAny_call (codeAny_mono (F.run X.A X.stack s H ⟨us,[]⟩ (us++ds) (vs++Im) Q E i I.UK (n s us I.yJ j) d h) λr s' b=>?_);cases r with
 |error e=>exact g H s e s' I b
 |ok fl=>
  cases fl with
  |ret u=>exact I.after b
  |next=>exact FE b
  |brk=>exact FE b
  |cont=>exact FE b
structure Mk(K:Frag)(C f:Addr):Prop where
 makes:makesIn K C=true
 init:findIn K (.ref C) "__init__"=some (some (.ref f))
 fn:isFn K (.ref f)=true
 kp:keepIn K (.ref C)=true
theorem Eu{g:St}{vs:List V}(M:Mk X.K C f)(F:cA X.prog X.w X.K X.mg X.base CX k f fd ps sp)(q:cY (k+1) X.A)(B:Binds X.K fd ps ds)(z:Vals Im ds)
 (n:∀H s e s',Inv X a g H s->CX X.stack H s E e s'->X.xe e s')(I:Inv X a g H s)(r:Vals vs us)
 (h:∀x c,H x=none->H c=none->c≠x->sp (.ref x::(vs++Im)) (upd (upd H c (.own x)) x (.ins C c [])) (λv G=>v=.cu/\Q (.ref x) G) E):
 wpAny (model X.prog X.w) X.A (call (.ref C) us) (EP X a g Q) X.xe s:=by
 have j:=h (s.heap.objs.size+1) s.heap.objs.size (I.hok.fresh (xi _)) (I.hok.fresh (FC _)) (Ts (Qr _));have d:=Inv.made (C:=C) I;have i:Vals (V.ref (s.heap.objs.size+1)::(vs++Im)) (Value.ref (s.heap.objs.size+1)::(us++ds)):=.cons rfl (r.append z);have y:(Value.ref (s.heap.objs.size+1)::us++ds).length=ps.length:=by have e:=i.length;rw[F.len _ _ _ _ j]at e;exact e.symm
 refine wpAny_call (Er (f:=f) I.yJ M.makes M.init (Qb.mp M.fn) (codeAny_mono (F.run _ X.stack _ _ ⟨Value.ref (s.heap.objs.size+1)::us,[]⟩ (Value.ref (s.heap.objs.size+1)::(us++ds)) _ _ E (q.make C us [])
  (d.UK.make C us []) (B _ (Value.ref (s.heap.objs.size+1)::us) d.yJ y) i j) λr s' b=>?_))
 cases r with
 |error e=>exact n _ _ e s' d b
 |ok fl=>
  cases fl with
  |ret u=>obtain⟨v,J,D,rv,ev,l⟩:=d.after b;subst ev;exact⟨rv,⟨V.ref (s.heap.objs.size+1),J,D,rfl,l⟩⟩
  |next=>exact FE b
  |brk=>exact FE b
  |cont=>exact FE b
end
section
variable{X:Cx}{CX:CI}{k:Nat}{f C:Addr}{fd:FuncData}{ps ks:List Str}{sp:Sp}{E:XK}{x m:Str}{p pos apos kpos:Pos}{e o:Expr}{es:List Expr}{kws:List Keyword}{te ta:TE}{t tk:TA}{nm:Option Str}
variable{g:List Value->List Value->List Value}{gV:List V->List V->List V}
end
structure cN(N P:List Str)(sc:Scope):Prop where
 kind:sc.kind=.function
 co:sc.isCoroutine=false
 gen:sc.isGenerator=false
 nd:N.Nodup
 pre:N.take P.length=P
 par:∀x∈P,sc.names.lookup x=some .local\/sc.names.lookup x=some .cell
 Oa:∀y∈sc.names,y.2≠.free
theorem tH:∀{a:List (Str×Value)}{m:Str->Option Value},(∀v,(x,v)∉a)->bindL b a m x=m x
 |[],_,_=>rfl
 |(n,v)::r,m,h=>by
  unfold bindL;rw[tH λw c=>h w (FM _ c)];split
  .have:x≠n:=by rintro rfl;exact h v FS
   simp[this]
  .rfl
theorem tK:∀{a:List (Str×Value)}{m:Str->Option Value},(∀v,(x,v)∉a)->bindC b a m x=m x
 |[],_,_=>rfl
 |(n,v)::r,m,h=>by
  unfold bindC;rw[tK λw c=>h w (FM _ c)];split
  .rfl
  .have:x≠n:=by rintro rfl;exact h v FS
   simp[this]
theorem tL:∀{P:List Str}{vs:List Value}{i:Nat}{m:Str->Option Value},P.Nodup->P[i]?=some x->vs[i]?=some v->a x=some .local->
 bindL a (P.zip vs) m x=some v
 |[],_,_,_,_,h,_,_=>by simp at h
 |_::_,[],_,_,_,_,h,_=>by simp at h
 |p::P,w::vs,0,m,d,c,b,e=>by simp at c b;subst c;subst b;show bindL a ((p,w)::P.zip vs) m p=_;unfold bindL;rw[tH λv f=>(du.mp d).1 (Sz f).1,D1 e];simp
 |p::P,w::vs,i+1,m,d,c,b,e=>by show bindL a ((p,w)::P.zip vs) m x=_;unfold bindL;exact tL (i:=i) (du.mp d).2 (by simpa using c) (by simpa using b) e
theorem tM:∀{P:List Str}{vs:List Value}{i:Nat}{m:Str->Option Value},P.Nodup->P[i]?=some x->vs[i]?=some v->a x≠some .local->
 bindC a (P.zip vs) m x=some v
 |[],_,_,_,_,h,_,_=>by simp at h
 |_::_,[],_,_,_,_,h,_=>by simp at h
 |p::P,w::vs,0,m,d,c,b,e=>by simp at c b;subst c;subst b;show bindC a ((p,w)::P.zip vs) m p=_;unfold bindC;rw[tK λv f=>(du.mp d).1 (Sz f).1,Bz e];simp
 |p::P,w::vs,i+1,m,d,c,b,e=>by show bindC a ((p,w)::P.zip vs) m x=_;unfold bindC;exact tM (i:=i) (du.mp d).2 (by simpa using c) (by simpa using b) e
noncomputable def start(N:List Str)(vs:List V):St:=vs.map some++B1 (N.length -vs.length) none
noncomputable def CJ(CX:CI)(P:Program)(w:World)(K:Frag)(mg:Str->Option Value)(base:Heap)(N:List Str)(b:Str)(a:Scope)(f:Addr)(d:Value)(A:Around)(outer:List Env)(s:Shared)(H:Hp)(E:XK):Cx where
 prog:=P
 w:=w
 K:=K
 mg:=mg
 base:=base
 A:=A.deeper (envOfC b a s.heap.objs.size f d)
 N:=N
 s₀:=s
 H₀:=H
 env:=envOfC b a s.heap.objs.size f d
 outer:=outer
 stack:=envOfC b a s.heap.objs.size f d::outer
 ex:=[]
 calm:=true
 fn:=λ_=>true
 pn:=[]
 xe:=λe g=>wpAny (model P w) (A.deeper (envOfC b a s.heap.objs.size f d)) (leaving (envOfC b a s.heap.objs.size f d) e) (λ_ c=>CX outer H s E e c) (λh c=>CX outer H s E h c) g
theorem w4{sc:Scope}(h:sc.names.lookup x=some .cell):∃c,(cellsFrom n sc.names []).lookup x=some c:=by have q:=PySem.W.cellsFrom_some sc.names n [] (.inl h);exact eI.mp q
theorem CK{K:Frag}{N ps:List Str}{l:Str}{d:Scope}{f:Addr}{G:Value}{A:Around}{g:List Env}{s L:Shared}{H:Hp}{E:XK}{us:List Value}{vs:List V}
 (S:cN N ps d)(T:A.handled=none)(R:A.depth+110<recursionLimit)(j:yX P w K I base A g s H)(hl:vs.length=ps.length)(r:Vals vs us)
 (x:InCallC s s.heap.objs.size (bindL (envOfC l d s.heap.objs.size f G).kindOf (ps.zip us) λ_=>none) (cellsFrom (s.heap.objs.size+1) d.names []) (bindC (envOfC l d s.heap.objs.size f G).kindOf (ps.zip us) λ_=>none) L):
 Inv (CJ CX P w K I base N l d f G A g s H E) [] (start N vs) H L:=by
 have O:ps.length<=N.length:=by have:=SU LZ S.pre;rw[cx]at this;lia
 obtain⟨F,Y,rfl,C⟩:=x.done;have J:∀b:Addr,b∉(CJ CX P w K I base N l d f G A g s H E).ex:=λb z=>absurd (show b∈([]:List Addr)from z) (by simp);refine⟨⟨j.mod,S.kind,rfl,rfl,FC _,λy z c F m=>?_,λy o=>?_,λy c _ h=>?_,λ_=>T,Around.frames_deeper j.frames,.inr ⟨rfl,rfl⟩,λb z=>absurd z (J b),j.bs,j.II,λb _ _=>J b,λb z=>absurd z (J b),j.oh,j.NJ,j.tree,λA' Z Q X C=>PylongRoom.of (j.mod.nolimit.keeps C) (by rw[X];show A.depth+1+100<_;lia) (SeerAt.of (j.mod.seer.keeps C) j.tree (Q.trans (Around.frames_deeper j.frames)) S.gen S.co rfl rfl)⟩,
  rfl,j.bare,Un.kept C,⟨_,x.toInCall.ns,λi y v F m h3=>?_⟩,λy c h=>⟨_,x.cell y c h⟩,j.hok.fresh (FC _),λy c h=>?_,λp B=>absurd (show p∈([]:List (Addr×Obj))from B) (by simp),j.hok.kept C,?_⟩
 .exact name_of_addr x.apart (Tb F) (Tb m)
 .have o:d.names.lookup y=some .cell\/d.names.lookup y=some .free:=o;rcases o with o|o
  .exact w4 o
  .exact absurd rfl (S.Oa _ (Tb o))
 .exact SZ (x.above y c (Tb h))
 .have D:i<vs.length:=by
   unfold start at m;by_cases D:i<vs.length
   .exact D
   .rw[NM (by simpa using D)]at m;rw[rh]at m;split at m<;>cases m
  have U:vs[i]?=some v:=by
   unfold start at m;rw[QP (by simpa using D),FR]at m;cases e:vs[i]? with
   |none=>rw[e]at m;cases m
   |some a=>rw[e]at m;cases m;rfl
  obtain⟨u,M,rv⟩:=r.get U;have B:ps[i]?=some y:=by rw[<-S.pre,ox (by lia)];exact F
  have t:ps.Nodup:=by rw[<-S.pre];exact S.nd.sublist (bf _ _)
  refine⟨u,rv,?_⟩;rcases S.par y (Mo B)with k|k
  .exact .inl ⟨k,tL t B M k⟩
  .obtain⟨c,e⟩:=w4 (n:=s.heap.objs.size+1) k;refine .inr ⟨.inl k,c,e,?_⟩;have q:=x.cell y c e;rw[tM t B M (by show d.names.lookup y≠_;rw[k];decide)]at q;exact q
 .exact j.hok.fresh (SZ (x.above y c (Tb h)))
 .unfold start;show _=N.length;rw[KB,Bi,List.length_replicate];lia
theorem UM{K:Frag}{k:Nat}{f:Addr}{name d:Str}{h:Arguments}{i:List Stmt}{a:Scope}{Y kV D X g Z oc:Value}{an od:Option Addr}
 {M:Array (Option Value)}{N ps:List Str}{sp:Sp}(lk:K.lookup f=some ⟨oc,od,.func (fnOf name d h i a Y kV D X an g Z),M⟩)(R:codeIn K g d=true)(S:cN N ps a)
 (z:∀vs H Q E,sp vs H Q E->vs.length=ps.length)
 (m:∀(A:Around)(c:List Env)(s:Shared)(H:Hp)(vs:List V)(Q:VK)(E:XK),cY k (A.deeper (envOfC d a s.heap.objs.size f g))->sp vs H Q E->
   ∃t,wR (CJ CX P w K F base N d a f g A c s H E) i t/\t {nx:=λ_ H'=>Q .cu H',rt:=Q} (start N vs) H):
 cA P w K F base CX (k+1) f (fnOf name d h i a Y kV D X an g Z) ps sp:=by
 refine⟨z,λA c s H args us vs Q E G C hb r T=>?_⟩;have hl:=z _ _ _ _ T;have KX:K.In s.heap:=C.mod.S6.keeps λb o e=>(C.bs b o e).1;have O:s.heap.NoLimit:=C.mod.nolimit.keeps λb o e=>(C.bs b o e).1;have l:∀y∈ps.zip us,a.names.lookup y.1=some .local\/(a.names.lookup y.1=some .cell/\((cellsFrom (s.heap.objs.size+1) a.names []).lookup y.1).isSome=true):=λ⟨n,v⟩ hy=>by
  rcases S.par n (Sz hy).1 with q|q
  .exact .inl q
  .exact .inr ⟨q,PySem.W.cellsFrom_some _ _ _ (.inl q)⟩
 refine codeAny_call_function G.depth (KX _ _ lk) rfl S.co S.gen rfl (PySem.W.codeRec_of KX R) (hb _ _ _ _ ?_);refine wpAny_newFunctionEnv_cells S.kind l λenv he U x=>?_;subst he;refine⟨O.keeps x.toInCall.keep,codeAny_func ?_⟩;obtain⟨t,ht,hq⟩:=m A c s H vs Q E (G.deeper _) T;have I:Inv (CJ CX P w K F base N d a f g A c s H E) [] (start N vs) H U:=CK S G.hd (by have:=G.dp;lia) C hl r x;refine sv (ht [] U (start N vs) H _ I hq) (λfl L p=>?_) λe L p=>p;have B:∀{j:St}{H':Hp}{v:V}{u:Value},Inv (CJ CX P w K F base N d a f g A c s H E) [] j H' L->RelV v u->Q v H'->CE c P w H s Q u L:=
  λ{j H' v u} J rv q=>⟨v,H',J.os,J.bare,J.base,J.hok,rv,q⟩
 cases fl with
 |ret u=>obtain⟨v,j,H',J,rv,q⟩:=p;exact B J rv q
 |next=>obtain⟨j,H',J,q⟩:=p;exact B (v:=V.cu) (u:=Value.none) J rfl q
 |brk=>obtain⟨_,_,_,q⟩:=p;exact FE q
 |cont=>obtain⟨_,_,_,q⟩:=p;exact FE q
section
variable{X:Cx}{x:Str}{p pos:Pos}{e:Expr}{es:List Expr}{t:TA}{id T:String}{r:List V->Hp->VK->Prop}
def tCB(r:List V->Hp->VK->Prop)(t:TA):TE:=λa H Q=>t a H λb c=>r b c Q
theorem w6(u:dS X (.builtin id) r)(o:Gl X x)(n:X.mg x=none)(l:bootBuiltins x=some (.builtin id))(v:PA X (e::es) t)(m:x≠"__name__":=by decide)(c:(x==("__debug__":Str))=false:=by decide)
 (q:starEach (e::es) X.env=(false,eval e X.env)::starEach es X.env:=by rfl)(b:(backTo pos (starEach es X.env)).any (·.1)=false:=by rfl):PE X (.Call (.Name x p) (e::es) [] pos) (tCB r t):=by
 intro a s d H Q I h;refine me (jO I o n l ?_ m c);exact ft (cC (v pos a s d H _ I h) λg i ⟨f,w,I1,j,k⟩=>u a i d w f g Q I1 j k) q b
theorem tN(u:dS X (.type T) r)(o:Gl X x)(n:X.mg x=none)(l:bootBuiltins x=some (.type T))(v:PA X (e::es) t)(m:x≠"__name__":=by decide)(c:(x==("__debug__":Str))=false:=by decide)
 (q:starEach (e::es) X.env=(false,eval e X.env)::starEach es X.env:=by rfl)(b:(backTo pos (starEach es X.env)).any (·.1)=false:=by rfl):PE X (.Call (.Name x p) (e::es) [] pos) (tCB r t):=by
 intro a s d H Q I h;refine me (jO I o n l ?_ m c);exact d6 (cC (v pos a s d H _ I h) λg i ⟨f,w,I1,j,k⟩=>u a i d w f g Q I1 j k) q b
end
end L2
namespace HT
open PySem PyProof.Rows
section
open PySem.SeqAt
open PySem.AutoSeq1 (wpAny_loadPart')
open PySem.MeetsSeq PySem.MeetsSeq2 PySem.MeetsSeq3
end
section
variable{prog:Program}{w:World}{A:Around}{E:Value->Shared->Prop}{s:Shared}
theorem IY(v:IsTup s.heap t vs.toArray)(x:IsTup s.heap b a.toArray)(p:vs≠[])
 (z:a=[]->Q (.ref t) s)(y:a≠[]->Q (.ref s.heap.objs.size) {s with heap:=s.heap.push {cls:=.type "tuple",data:=.seq (vs++a).toArray}})
 (k:vs.length+a.length<=sizeLine):wpAny (model prog w) A (binaryOp .Add (.ref t) (.ref b)) Q E s:=by
 obtain⟨⟨cls,u,data,m⟩,j,r,n,q⟩:=id v;obtain⟨⟨B,h,l,d⟩,c,g,o,f⟩:=id x;simp only at r q g f;subst r q g f;have e:vs.toArray++a.toArray=(vs++a).toArray:=by simp
 by_cases i:a=[]
 .exact concat_meets ⟨_,j,rfl⟩ ⟨_,c,rfl⟩ noFill_tuple_add seq_tuple_add PySem.F.slot_tuple_add PySem.F.entry_tuple_add (PySem.F.args_tuple_add_2 _ _)
   (tuple_addW1 t b vs.toArray a.toArray n o u h m d (by simpa using p) (by simp[i])) ⟨j,c,z i⟩
 .refine concat_meets ⟨_,j,rfl⟩ ⟨_,c,rfl⟩ noFill_tuple_add seq_tuple_add PySem.F.slot_tuple_add PySem.F.entry_tuple_add (PySem.F.args_tuple_add_2 _ _)
   (tuple_addW2 t b vs.toArray a.toArray n o u h m d (by simpa using p) (by simpa using i) (by rw[Hk,Hk];exact k)) ⟨j,c,?_⟩
  rw[e];exact y i
noncomputable def cV(n d:Nat):Option Int->Nat
 |none=>d
 |some v=>if v<0 then(v+(n:Int)).toNat else min v.toNat n
theorem xg(n d:Nat):cV n d none=d:=rfl
theorem AQ(n d k:Nat):cV n d (some (k:Int))=min k n:=by show(if(k:Int)<0 then((k:Int)+(n:Int)).toNat else min (k:Int).toNat n)=min k n;rw[Bz (by lia),Gg]
theorem Ob(n d:Nat)(b:d<=n)(o:Option Int):cV n d o<=n:=by
 cases o with
 |none=>exact b
 |some v=>
  show(if v<0 then(v+(n:Int)).toNat else min v.toNat n)<=n;by_cases a:v<0
  .rw[D1 a];lia
  .rw[Bz a];exact dr _ _
theorem AR(v:Int)(n d:Nat):(if v<0 then max (v+(n:Int)) 0 else min v (n:Int))=((cV n d (some v):Nat):Int):=by
 show(if v<0 then max (v+(n:Int)) 0 else min v (n:Int))=(((if v<0 then(v+(n:Int)).toNat else min v.toNat n):Nat):Int);by_cases a:v<0
 .simp only[D1 a];lia
 .simp only[Bz a];lia
theorem yY(lo hi:Option Int)(n:Nat):Builtin.Slice.sliceAdjust lo hi 1 (n:Int)=(((cV n 0 lo:Nat):Int),((cV n n hi:Nat):Int)):=by
 have a:¬((1:Int)<0):=by lia
 unfold Builtin.Slice.sliceAdjust;simp only[a,zzg];refine Prod.ext ?_ ?_
 .cases lo with
  |none=>rfl
  |some v=>exact AR v n 0
 .cases hi with
  |none=>rfl
  |some v=>exact AR v n n
theorem yZ(i j:Nat):Builtin.Slice.slicePlaces (i:Int) (j:Int) 1=j -i:=by
 unfold Builtin.Slice.slicePlaces;have a:(1:Int)>0:=by lia
 simp only[a,zz0,Int.ediv_one];split<;>lia
theorem pJ(p:IsPart v o)(h:Q o s):wpAny (model prog w) A (Builtin.Slice.slicePartIndex v) Q E s:=by
 cases p with
 |none=>exact slicePart_none h
 |int i t=>exact slicePart_int h
theorem mT{lo hi:Option Int}{Q:Int×Int×Nat->Shared->Prop}(g:s.heap.IsSliceOf e d c .none)(pl:IsPart d lo)(f:IsPart c hi)
 (h:Q (((cV n 0 lo:Nat):Int),1,cV n n hi -cV n 0 lo) s):wpAny (model prog w) A (Builtin.Slice.sliceApplied (.ref e) (pure (n:Int))) Q E s:=by
 obtain⟨j,a,i,b⟩:=id g;unfold Builtin.Slice.sliceApplied Builtin.Slice.sliceFields;refine Hn (Hn (wpAny_field a b (x:=d) rfl (Hn (wpAny_field a b (x:=c) rfl (Hn (wpAny_field a b (x:=.none) rfl (P3 ?_)))))));refine Hn (slicePart_none ?_);show wpAny _ _ (if((1:Int)==0)=true then _ else _) _ _ s;rw[Bz (by decide)];refine Hn (pJ pl (Hn (pJ f (Hn (P3 ?_)))));show wpAny _ _ (match Builtin.Slice.sliceAdjust lo hi 1 (n:Int)with|(lo,hi)=>pure (lo,(1:Int),Builtin.Slice.slicePlaces lo hi 1)) _ _ s;rw[yY lo hi n];show wpAny _ _ (pure (((cV n 0 lo:Nat):Int),(1:Int),Builtin.Slice.slicePlaces ((cV n 0 lo:Nat):Int) ((cV n n hi:Nat):Int) 1)) _ _ s;rw[yZ];exact P3 h
theorem Ew(a:Array Value)(i k:Nat):((Bn k).filterMap λ(m:Nat)=>a[((i:Int)+(m:Int)*1).toNat]?).toArray=((a.toList.drop i).take k).toArray:=by
 have e:(λ(m:Nat)=>a[((i:Int)+(m:Int)*1).toNat]?)=λm=>a[i+m]?:=by
  funext m;have:((i:Int)+(m:Int)*1).toNat=i+m:=by lia
  rw[this]
 rw[e];have:=pick_run a i k;rw[List.filterMap_map]at this;have b:((λx=>a[x]?)∘λx=>i+x)=λm=>a[i+m]?:=rfl;rw[b]at this;rw[this]
theorem kL{lo hi:Option Int}(a:IsTup s.heap t items)(k:s.heap.IsSliceOf c j i .none)(pl:IsPart j lo)(l:IsPart i hi)
 (o:¬(cV items.size 0 lo=0/\cV items.size items.size hi=items.size))
 (h:Q (.ref s.heap.objs.size) {s with heap:=s.heap.push {cls:=.type "tuple",data:=.seq ((items.toList.drop (cV items.size 0 lo)).take (cV items.size items.size hi -cV items.size 0 lo)).toArray}})
 (p:items.size<=sizeLine):wpAny (model prog w) A (getItem (.ref t) (.ref c)) Q E s:=by
 have b:sizeOk (.seq ((items.toList.drop (cV items.size 0 lo)).take (cV items.size items.size hi -cV items.size 0 lo)).toArray):=by show((items.toList.drop (cV items.size 0 lo)).take (cV items.size items.size hi -cV items.size 0 lo)).toArray.size<=sizeLine;rw[Hk,cx,yA,Jf];lia
 have x:cV items.size items.size hi<=items.size:=Ob _ _ (FC _) hi;obtain⟨n,d,f,r⟩:=id k;have g:s.TypeIs (.ref c) "slice":=⟨n,d,f⟩;unfold getItem
 try with_reducible refine wpAny_holding ?_
 first|refine Hn (P3 ?_)|skip
 refine Hn (wpAny_sequenceKey a.typeIs (by decide) ?_);refine Hn (wpAny_callSpecial?_slot (name:=Str.ofString "__getitem__") a.typeIs t4
  (wpAny_call_entry t4 a.typeIs entry_tuple_getitem ?_ (args_tuple_getitem _ _)))
 show wpAny _ _ (Builtin.Tuple.tupleItemsOf (.ref t)>>=_) _ _ s;refine Hn (tupleItemsOf_ a ?_);refine Hn (wpAny_typeOf g ?_);rw[D1 (by decide)];refine Hn (mT k pl l ?_);have e:¬((((cV items.size 0 lo:Nat):Int)==0&&(1:Int)==1&&(cV items.size items.size hi -cV items.size 0 lo)==items.size)=true):=by intro q;rw[DL,DL]at q;have v:((cV items.size 0 lo:Nat):Int)=0:=eq_of_beq q.1.1;have u:cV items.size items.size hi -cV items.size 0 lo=items.size:=eq_of_beq q.2;exact o ⟨by lia,by lia⟩
 show wpAny _ _ (if(((cV items.size 0 lo:Nat):Int)==0&&(1:Int)==1&&(cV items.size items.size hi -cV items.size 0 lo)==items.size)=true then _ else _) _ _ s;rw[Bz e,Ew]
 first
  |exact Hn (m:=Builtin.Tuple.tupleExact _) (oP (P3 ⟨_,rfl,P3 h⟩) b)
  |exact Hn (m:=Builtin.Tuple.tupleExact _) (oP (Hn (P3 (P3 ⟨_,rfl,P3 h⟩))) b)
  |exact Hn (Hn (m:=Builtin.Tuple.tupleExact _) (oP (P3 (P3 ⟨_,rfl,P3 h⟩)) b))
  |exact Hn (Hn (m:=Builtin.Tuple.tupleExact _) (oP (P3 ⟨_,rfl,P3 h⟩) b))
end
end HT
namespace L2
open PySem PySem.Spec PyProof.Rows
abbrev TO:=St->Hp->(Option Int->Hp->Prop)->Prop
def PO(X:Cx)(e:Option Expr)(t:TO):Prop:=
 ∀(a:List (Addr×Obj))(s:Shared)(b:St)(H:Hp)(Q:Option Int->Hp->Prop),Inv X a b H s->t b H Q->
  wpAny (model X.prog X.w) X.A (evalPart e X.env) (λu d=>∃o c,Inv X a b c d/\IsPart u o/\Q o c) X.xe s
def IZ:TO:=λ_ H Q=>Q none H
def UN(t:TE):TO:=λa H Q=>t a H λx b=>∃i,x=.int i/\Q (some i) b
theorem intsAre_of:∀{us:List Value},Vals (ns.map V.int) us->IntsAre us ns:=by
 induction ns with
 |nil=>intro us r;rw[Ol]at r;cases r;exact .nil
 |cons n ns c=>
  intro us r;rw[Wp]at r;cases r with
  |cons b a=>obtain⟨t,e⟩:=b;subst e;exact .cons n t (c a)
section
variable{X:Cx}{e:Expr}{te:TE}{lo hi:Option Expr}{tl th:TO}{pos p2:Pos}
theorem I0:PO X none IZ:=by intro a s b H Q I h;rw[evalPart_none];exact P3 ⟨none,H,I,.none,h⟩
theorem Ja(h:PE X e te):PO X (some e) (UN te):=by intro a s b H Q I f;rw[evalPart_some];refine cC (h a s b H _ I f) λu j ⟨x,g,I1,c,d⟩=>?_;obtain⟨i,rfl,q⟩:=d;obtain⟨t,rfl⟩:=c;exact⟨some i,g,I1,.int i t,q⟩
def Oc(X:Cx)(r:V->Option Int->Option Int->Hp->VK->Prop):Prop:=
 ∀(a:List (Addr×Obj))(s:Shared)(b:St)(H:Hp)(x:V)(v d c:Value)(lo hi:Option Int)(f:Addr)(Q:VK),Inv X a b H s->RelV x v->s.heap.IsSliceOf f d c .none->IsPart d lo->IsPart c hi->r x lo hi H Q->
  ∃T g,typeLookup (.type T) "__getitem__"=pure (some (.builtin g))/\s.TypeIs v T/\wpAny (model X.prog X.w) X.A (getItem v (.ref f)) (EP X a b Q) X.xe s
theorem Oc.or(h:Oc X r)(h':Oc X i):Oc X (λx lo hi H Q=>r x lo hi H Q\/i x lo hi H Q):=by
 intro a s b H x v d c lo hi f Q I g l k j q;rcases q with q|q
 .exact h a s b H x v d c lo hi f Q I g l k j q
 .exact h' a s b H x v d c lo hi f Q I g l k j q
def tSl(r:V->Option Int->Option Int->Hp->VK->Prop)(te:TE)(tl th:TO):TE:=λa H Q=>te a H λx d=>tl a d λl c=>th a c λu b=>r x l u b Q
theorem xh(C:Oc X r)(F:PE X e te)(D:PO X lo tl)(z:PO X hi th):PE X (.Subscript e (.Slice lo hi none p2) pos) (tSl r te tl th):=by intro a s d H Q I h;refine Subscript_ (cC (F a s d H _ I h) λv k ⟨x,N,I1,m,p⟩=>?_);refine wpAny_Slice (cC (D a k d N _ I1 p) λg j ⟨l,M,L,y,o⟩=>cC (z a j d M _ L o) λf c ⟨u,i,K,t,n⟩=>?_);rw[evalPart_none];refine P3 ?_;have J:Inv X a d i {c with heap:=c.heap.push {cls:=.type "slice",data:=.fields #[g,f,.none]}}:=K.kept (t':=c.toks) λb O q=>He _ q;obtain⟨T,P,G,B,E⟩:=C a {c with heap:=c.heap.push {cls:=.type "slice",data:=.fields #[g,f,.none]}} d i x v g f l u c.heap.objs.size Q J m (Heap.IsSliceOf.new ..) y t n;show wpAny (model X.prog X.w) X.A (subscriptTail e (.Slice lo hi none p2) v (.ref c.heap.objs.size)) (EP X a d Q) X.xe {c with heap:=c.heap.push {cls:=.type "slice",data:=.fields #[g,f,.none]}};exact tail_any (ops:=[.ref c.heap.objs.size,v]) B G E (by with_unfolding_all rfl)
noncomputable def xj(a:List V)(lo hi:Option Int):List V:=(a.drop (HT.cV a.length 0 lo)).take (HT.cV a.length a.length hi -HT.cV a.length 0 lo)
theorem nQ(a:List V)(lo hi:Option Int):(xj a lo hi).length<=a.length:=by unfold xj;rw[cx,yA];lia
def Yy(K:Frag):V->Option Int->Option Int->Hp->VK->Prop:=λx lo hi H Q=>∃a b,x=.ref a/\mP K H a b/\
 ¬(HT.cV b.length 0 lo=0/\HT.cV b.length b.length hi=b.length)/\∀p,H p=none->Q (.ref p) (upd H p (.tup (xj b lo hi)))
theorem Od:Oc X (Yy X.K):=by
 intro g s t H x v w u lo hi y Q I j p l k h;obtain⟨a,d,rfl,m,n,q⟩:=h;cases j;obtain⟨f,r,i,hz⟩:=I.tuple m;have c:f.toArray.size=d.length:=by rw[Hk];exact r.length.symm
 refine⟨"tuple",_,t4.lookup,i.typeIs,?_⟩;refine HT.kL i p l k (by rw[c];exact n) ?_ (by rw[c];exact hz);rw[c];refine⟨.ref s.heap.objs.size,_,I.laid (t':=s.toks) (o:=.tup (xj d lo hi)) (λb z q=>He _ q) (FC _) ?_,rfl,q _ (I.hok.fresh (FC _))⟩;exact⟨Do (nQ d lo hi) hz,_,(r.drop (HT.cV d.length 0 lo)).take (HT.cV d.length d.length hi -HT.cV d.length 0 lo),IsTup.new _ _⟩
def UO(K:Frag):R2:=λx y H Q=>∃a b d c,x=.ref a/\y=.ref b/\mP K H a d/\mP K H b c/\d≠[]/\d.length+c.length<=sizeLine/\
 (c=[]->Q (.ref a) H)/\(c≠[]->∀p,H p=none->Q (.ref p) (upd H p (.tup (d++c))))
theorem Vals.uF(r:Vals a us):us=[]↔a=[]:=by
 cases r with
 |nil=>simp
 |cons _ _=>simp
theorem Jb:rZ X (binaryOp .Add) (UO X.K):=by intro f s C H x y v u Q I l k h;obtain⟨a,b,j,i,rfl,rfl,B,A,t,hz,n,m⟩:=h;cases l;cases k;obtain⟨r,d,p,_⟩:=I.tuple B;obtain⟨g,c,p2,_⟩:=I.tuple A;refine HT.IY p p2 (λz=>t (d.uF.mp z)) (λz=>⟨.ref a,H,I,rfl,n (c.uF.mp z)⟩) (λz=>?_) (by rw[<-d.length,<-c.length];exact hz);refine⟨.ref s.heap.objs.size,_,I.laid (t':=s.toks) (o:=.tup (j++i)) (λb D q=>He _ q) (FC _) ?_,rfl,m (λw=>z (c.uF.mpr w)) _ (I.hok.fresh (FC _))⟩;exact⟨by rw[KB];exact hz,_,d.append c,IsTup.new _ _⟩
end
noncomputable def wL(n:Nat)(i:Int):Option Nat:=if 0<=i then(if i<n then some i.toNat else none)else if-(n:Int)<=i then some (i+n).toNat else none
noncomputable def jQ{α:Type}(a:List α)(i:Int):Option α:=(wL a.length i).bind λj=>a[j]?
theorem AU(h:wL n i=some j):seqIndex? i n=some j/\j<n/\-(n:Int)<=i/\i<n:=by
 unfold wL at h;by_cases b:0<=i
 .rw[D1 b]at h;by_cases a:i<n
  .rw[D1 a]at h;have e:i.toNat=j:=Pm h;exact⟨by rw[seqIndex_of b a,e],by lia,by lia,a⟩
  .rw[Bz a]at h;cases h
 .rw[Bz b]at h;by_cases a: -(n:Int)<=i
  .rw[D1 a]at h;have e:(i+n).toNat=j:=Pm h;exact⟨by rw[seqIndex_neg (by lia) a,e],by lia,a,by lia⟩
  .rw[Bz a]at h;cases h
theorem uG(h:jQ a i=some v):∃j,seqIndex? i a.length=some j/\a[j]?=some v/\j<a.length/\-(a.length:Int)<=i/\i<a.length:=by
 unfold jQ at h;cases e:wL a.length i with
 |none=>rw[e]at h;cases h
 |some j=>rw[e]at h;obtain⟨f,d,c,b⟩:=AU e;exact⟨j,f,h,d,c,b⟩
theorem cD{j:Nat}(h:a[j]?=some v):jQ a (j:Int)=some v:=by
 have b:j<a.length:=(Fu.mp h).1;have e:wL a.length (j:Int)=some j:=by unfold wL;rw[D1 (by lia),D1 (by lia)];simp
 unfold jQ;rw[e];exact h
def oz(b:Expr):Prop:=∀o i,subscripted b false o i=operate [o,i] (getItem o i)
def Jc(X:Cx)(r:R2):Prop:=
 ∀(c a:Expr)(b:List (Addr×Obj))(s:Shared)(d:St)(H:Hp)(x y:V)(v u:Value)(Q:VK),Inv X b d H s->RelV x v->RelV y u->r x y H Q->
  subscripted a false v u=operate [v,u] (getItem v u)->wpAny (model X.prog X.w) X.A (subscriptTail c a v u) (EP X b d Q) X.xe s
def Yz(X:Cx)(e:String)(r:V->List V->Hp->VK->Prop):Prop:=
 ∀(a:List (Addr×Obj))(s:Shared)(b:St)(H:Hp)(x:V)(c:List V)(v:Value)(d:List Value)(Q:VK),Inv X a b H s->RelV x v->Vals c d->r x c H Q->
  wpAny (model X.prog X.w) X.A (call (.builtin e) (v::d)) (EP X a b Q) X.xe s
section
variable{X:Cx}{a b:Expr}{ta tb:TE}{pos:Pos}
theorem Jc.or(h:Jc X r)(h':Jc X j):Jc X (λx y H Q=>r x y H Q\/j x y H Q):=by
 intro c d e s f H x y v u Q I i g q k;rcases q with q|q
 .exact h c d e s f H x y v u Q I i g q k
 .exact h' c d e s f H x y v u Q I i g q k
theorem ME(j:Jc X r)(l:PE X a ta)(k:PE X b tb)(i:oz b):PE X (.Subscript a b pos) (tOp r ta tb):=by intro c s d H Q I h;exact Subscript_ (Yr l k I h λv u e x y n m g f q=>j a b c e d n x y v u Q m g f q (i _ _))
def UP(K:Frag):R2:=λx y H Q=>∃p c i v,x=.ref p/\y=.int i/\jA K H p c/\jQ c i=some v/\Q v H
def UQ(K:Frag):R2:=λx y H Q=>∃p c i v,x=.ref p/\y=.int i/\mP K H p c/\jQ c i=some v/\Q v H
def UR:R2:=λx y H Q=>∃z i c,x=.str z/\y=.int i/\z.length<=sizeLine/\jQ z.cps.toList i=some c/\Q (.str ⟨#[c]⟩) H
theorem Jd:Jc X (UP X.K):=by
 intro f g c s o H x y v u Q I F E h A;obtain⟨p,P,i,z,rfl,rfl,G,L,q⟩:=h;cases F;obtain⟨t,rfl⟩:=E;obtain⟨m,r,l,hz⟩:=I.list G;obtain⟨j,e,O,S,N,M⟩:=uG L;obtain⟨w,C,k⟩:=r.get O;have J:=r.length;have R:=pH;have d:EP X c o Q w s:=⟨z,H,I,k,q⟩;by_cases B:0<=i
 .have n:i.toNat=j:=by rw[seqIndex_of B M]at e;exact Pm e
  exact item_listR l.isList B (by lia) (by rw[n];simpa using C) d A
 .have n:(i+(m.toArray.size:Int)).toNat=j:=by rw[seqIndex_neg (by lia) N]at e;rw[Hk,<-J];exact Pm e
  exact subscriptTail_builtinR (x:=w) l.isList.typeIs slot_list_getitem.lookup
   (wpAny_getItem_list_neg (Q:=λr D=>r=w/\EP X c o Q r D) l.isList (by lia) (by rw[Hk]<;>lia) (by lia) (by rw[n];simpa using C) ⟨rfl,d⟩) A
theorem Oe:Jc X (UQ X.K):=by
 intro d e c s k H x y v u Q I o n h B;obtain⟨p,L,i,z,rfl,rfl,C,E,q⟩:=h;cases o;obtain⟨t,rfl⟩:=n;obtain⟨A,r,l,hz⟩:=I.tuple C;obtain⟨j,G,F,P,O,N⟩:=uG E;obtain⟨w,J,f⟩:=r.get F;have D:=r.length;have M:=pH;have g:EP X c k Q w s:=⟨z,H,I,f,q⟩;exact subscriptTail_builtinR (x:=w) l.typeIs slot_tuple_getitem.lookup
  (getItem_tuple (j:=j) (Q:=λr m=>r=w/\EP X c k Q r m) l (by lia) (by lia) (by rw[Hk,<-D];exact G) (by simpa using J) ⟨rfl,g⟩) B
theorem Of:Jc X UR:=by
 intro d e f s C H x y v u Q I l k h m;obtain⟨z,i,c,rfl,rfl,hz,o,q⟩:=h;obtain⟨t,rfl⟩:=l;obtain⟨D,rfl⟩:=k;obtain⟨j,g,w,F,r,p⟩:=uG o;have n:z.cps.toList.length=z.length:=by simp[Str.length]
 rw[n]at g r p;have E:=pH;exact tail_any (typeIs_str s z t) slot_str_getitem.lookup (getItem_str (c:=c) (by have B:decide (i< -(2^63:Int))=false:=IR (by lia);have A:decide (i>=2^63)=false:=IR (by lia);rw[B,A,dE]) (by rw[g];simpa using w) ⟨.str ⟨#[c]⟩,H,I.tok _,⟨_,rfl⟩,q⟩) m
def rIx(K:Frag):R2:=λx y H Q=>UP K x y H Q\/UQ K x y H Q\/UR x y H Q
theorem Ex:Jc X (rIx X.K):=Jd.or (Oe.or Of)
theorem y9(c:List Value)(n j:Nat)(u:Value):Obj.mapSeq (·.setIfInBounds j u) {cls:=.type "list",data:=.seq c.toArray n}={cls:=.type "list",data:=.seq (c.set j u).toArray n}:=by simp[Obj.mapSeq]
theorem Inv.lst{d:List (Addr×Obj)}{g:St}{H:Hp}{s:Shared}{p:Addr}{f:List V}(I:Inv X d g H s)(h:H p=some (.lst f)):
 ∃(c:List Value)(n:Nat),Vals f c/\s.heap.get? p=some {cls:=.type "list",data:=.seq c.toArray n}/\f.length<=sizeLine:=by
 obtain⟨z,c,n,r,e⟩:=I.hok p _ h;exact⟨c,n,r,e,z⟩
theorem Inv.Og{j:St}{d its':List Value}{n i:Nat}{f:Obj->Obj}(I:Inv X c j H s)(h:H p=some (.lst l))
 (m:s.heap.get? p=some {cls:=.type "list",data:=.seq d.toArray n})(k:f {cls:=.type "list",data:=.seq d.toArray n}={cls:=.type "list",data:=.seq its'.toArray i})(r:Vals g its')(hz:g.length<=sizeLine)(t:Nat):
 Inv X c j (upd H p (.lst g)) {s with heap:=s.heap.update p f,toks:=t}:=by
 have e:(s.heap.update p f).get? p=some {cls:=.type "list",data:=.seq its'.toArray i}:=by rw[Heap.get?_update_self f m (by rw[k]<;>rfl),k]
 refine I.write (x:=p) (e:=p) (by rw[h];trivial) (.inl rfl) (λb u o q=>(Heap.get?_update_other _ _ (gN o)).trans q) ⟨_,e⟩ ?_;exact⟨hz,its',i,r,e⟩
def MF:V->V->V->Hp->(Hp->Prop)->Prop:=λo i v H Q=>∃p c k j,o=.ref p/\i=.int k/\H p=some (.lst c)/\wL c.length k=some j/\Q (upd H p (.lst (c.set j v)))
theorem set_list:Us X MF:=by
 intro c s A H o i v F G u Q I C D rv h;obtain⟨p,B,k,j,rfl,rfl,m,E,q⟩:=h;cases C;obtain⟨t,rfl⟩:=D;obtain⟨d,n,r,f,hz⟩:=I.lst m;obtain⟨e,K,x,w⟩:=AU E;have g:=r.length;have J:=pH;have z:Inv X c A (upd H p (.lst (B.set j v))) {s with heap:=s.heap.update p (Obj.mapSeq (·.setIfInBounds j u))}:=
  I.Og m f (y9 d n j u) (r.set rv j) (by rw[XB];exact hz) s.toks
 by_cases y:0<=k
 .have l:k.toNat=j:=by rw[seqIndex_of y w]at e;exact Pm e
  exact PySem.W.ki_setAt f y (by lia) (by rw[Hk,<-g];exact w) (by rw[l];exact⟨_,z,q⟩)
 .have l:(k+(d.toArray.size:Int)).toNat=j:=by rw[seqIndex_neg (by lia) x]at e;rw[Hk,<-g];exact Pm e
  exact PySem.W.ki_setBack f (by lia) (by rw[Hk,<-g];exact x) (by lia) (by rw[l];exact⟨_,z,q⟩)
theorem uH(lo hi:Option Int)(n:Nat):(sliceBounds lo hi none n).1=((HT.cV n 0 lo:Nat):Int)/\(sliceBounds lo hi none n).2.1=((HT.cV n n hi:Nat):Int)/\(sliceBounds lo hi none n).2.2=1:=by
 refine⟨?_,?_,rfl⟩
 .cases lo with
  |none=>simp[sliceBounds,HT.cV]
  |some i=>
   simp only[sliceBounds,HT.cV,bM,show(1:Int)>0 by decide,zz0];by_cases h:i<0
   .simp only[h,zz0]<;>lia
   .simp only[h,zzg]<;>lia
 .cases hi with
  |none=>simp[sliceBounds,HT.cV]
  |some i=>
   simp only[sliceBounds,HT.cV,bM,show(1:Int)>0 by decide,zz0];by_cases h:i<0
   .simp only[h,zz0]<;>lia
   .simp only[h,zzg]<;>lia
theorem sd(c:List Value)(lo hi:Option Int):slicePick c.toArray lo hi none=((c.drop (HT.cV c.length 0 lo)).take (HT.cV c.length c.length hi -HT.cV c.length 0 lo)).toArray:=by obtain⟨f,e,d⟩:=uH lo hi c.toArray.size;unfold slicePick;rw[f,e,d];simp only[sliceRange_one,pick_run,Hk]<;>rfl
def YA(K:Frag):V->Option Int->Option Int->Hp->VK->Prop:=λx d e H Q=>∃a c,x=.ref a/\jA K H a c/\∀p,H p=none->Q (.ref p) (upd H p (.lst (xj c d e)))
theorem Je:Oc X (YA X.K):=by intro g s t H x v w u e f y Q I j p l k h;obtain⟨a,c,rfl,n,q⟩:=h;cases j;obtain⟨m,r,i,hz⟩:=I.list n;have d:=r.length;refine⟨"list",_,slot_list_getitem.lookup,i.isList.typeIs,?_⟩;refine wpAny_getItem_list_slice i.isList p l k .none (by simp) ?_ (by rw[Hk]<;>lia);rw[sd,<-d];refine⟨.ref s.heap.objs.size,_,I.laid (t':=s.toks) (o:=.lst (xj c e f)) (λb z q=>He _ q) (FC _) ?_,rfl,q _ (I.hok.fresh (FC _))⟩;exact⟨Do (nQ c e f) hz,_,0,(r.drop (HT.cV c.length 0 e)).take (HT.cV c.length c.length f -HT.cV c.length 0 e),Sr _ rfl⟩
theorem gU:dS X (.builtin "len") (λj H Q=>∃p d,j=[.ref p]/\(jA X.K H p d\/mP X.K H p d)/\Q (.int d.length) H):=by
 intro k s m H j n Q I r h;obtain⟨p,d,rfl,e,q⟩:=h;obtain⟨u,rfl,l⟩:=vals1 r;cases l;have o:=pH;rcases e with e|e
 .obtain⟨i,f,g,hz⟩:=I.list e;have c:=f.length;exact Calls.call_len_list g.isList (by simp only[Hk]<;>lia) ⟨.int d.length,H,I.tok _,⟨s.toks+1,by rw[Hk,c]⟩,q⟩
 .obtain⟨i,f,g,hz⟩:=I.tuple e;have c:=f.length;exact len_tuple g (by simp only[Hk]<;>lia) ⟨.int d.length,H,I.tok _,⟨s.toks+1,by rw[Hk,c]⟩,q⟩
theorem kM:dS X (.type "list") (λB H Q=>∃p f,B=[.ref p]/\(jA X.K H p f\/mP X.K H p f)/\∀l,H l=none->Q (.ref l) (upd H l (.lst f))):=by
 intro j s D H B F Q I r h;obtain⟨p,f,rfl,m,q⟩:=h;obtain⟨u,rfl,E⟩:=vals1 r;cases E;have v:∀(c:List Value),Vals f c->f.length<=sizeLine->∀(d:Heap)(i:Nat),(∀b C,s.heap.get? b=some C->d.get? b=some C)->
  d.get? s.heap.objs.size=some {cls:=.type "list",dict:=none,data:=.seq c.toArray i,slots:= #[]}->EP X j D Q (.ref s.heap.objs.size) {s with heap:=d}:=λc g hz d i k e=>
  ⟨.ref s.heap.objs.size,_,I.laid (t':=s.toks) k (FC _) (show dH X.prog X.w _ d _ (.lst f)from⟨hz,c,i,g,e⟩),rfl,q _ (I.hok.fresh (FC _))⟩
 rcases m with m|m
 .obtain⟨c,g,x,hz⟩:=I.list m;have t:=g.length;obtain⟨o,y,A,n,z⟩:=x.isList;exact call_list_seq p (.inl rfl) y A z (λd i k e=>v c g hz d i k e) (by simp only[Hk]<;>lia)
 .obtain⟨c,g,x,hz⟩:=I.tuple m;have t:=g.length;obtain⟨o,y,A,n,z⟩:=x;exact call_list_seq p (.inr rfl) y A z (λd i k e=>v c g hz d i k e) (by simp only[Hk]<;>lia)
def YB(K:Frag)(T:String)(x:V)(H:Hp):Prop:=match x with
 |.str _=>T="str"
 |.int _=>T="int"
 |.ref p=>(T="list"/\∃d,jA K H p d)\/(T="tuple"/\∃o,K.lookup p=some o/\o.cls=.type "tuple"/\o.dict=none)\/
   (T="dict"/\((∃c,H p=some (.dK c))\/∃c,H p=some (.dT c)))\/(T="set"/\∃S n,H p=some (.set S n))
 |_=>False
theorem Ey{q:St}{v:Value}(I:Inv X f q H s)(r:RelV x v)(g:YB X.K T x H):
 s.TypeIs v T/\∀a,v=.ref a->∃m,s.heap.get? a=some m/\m.dict=none:=by
 cases x with
 |str z=>obtain⟨t,rfl⟩:=r;cases(show T="str"from g);exact⟨typeIs_str s z t,λ_ e=>nomatch e⟩
 |int i=>obtain⟨t,rfl⟩:=r;cases(show T="int"from g);exact⟨typeIs_int s i t,λ_ e=>nomatch e⟩
 |ref p=>
  cases r;rcases g with⟨rfl,A,w⟩|⟨rfl,o,d,y,j⟩|⟨rfl,d⟩|⟨rfl,S,n,d⟩
  .obtain⟨u,_,l,_⟩:=I.list w;refine⟨l.isList.typeIs,λa e=>?_⟩;cases e;obtain⟨o,n,e,c,j,_⟩:=l;exact⟨o,e,j⟩
  .refine⟨⟨o,I.yJ p o d,y⟩,λa e=>?_⟩;cases e;exact⟨o,I.yJ _ o d,j⟩
  .have z:∃o,s.heap.get? p=some o/\o.ExactDict:=by
    rcases d with⟨h,d⟩|⟨h,d⟩
    .obtain⟨_,_,_,_,o,_,_,e,ex,_⟩:=I.hok p _ d;exact⟨o,e,ex⟩
    .obtain⟨_,_,_,_,o,_,_,e,ex,_⟩:=I.hok p _ d;exact⟨o,e,ex⟩
   obtain⟨o,e,ex⟩:=z;refine⟨⟨o,e,ex.1⟩,λa k=>?_⟩;cases k;exact⟨o,e,ex.2.1⟩
  .obtain⟨o,_,_,_,e,ex,_⟩:=I.hok p _ d;refine⟨⟨o,e,ex.1⟩,λa k=>?_⟩;cases k;exact⟨o,e,ex.2.1⟩
 |_=>exact FE g
def YC(K:Frag)(T:String)(r:V->List V->Hp->VK->Prop)(e:TE):TE:=λd H Q=>e d H λx c=>YB K T x c/\r x [] c Q
def YD(K:Frag)(T:String)(r:V->List V->Hp->VK->Prop)(f:TE)(t:TA):TE:=λc H Q=>f c H λx d=>YB K T x d/\t c d λe g=>r x e g Q
variable{o e:Expr}{es:List Expr}{to:TE}{t:TA}{name:Str}{apos cpos:Pos}{T id:String}{r:V->List V->Hp->VK->Prop}
theorem Ez(p:PlainAttrs T)(g:Slot T name id)(i:typeOf (.builtin id)=pure (.type "method_descriptor"))(u:Yz X id r)(q:PE X o to)
 (f:attributeBase o name X.env (eval o X.env)=eval o X.env:=by rfl)(d:(apos.endLine==cpos.line)=true:=by rfl):PE X (.Call (.Attribute o name apos) [] [] cpos) (YC X.K T r to):=by
 intro c s j H Q I h;refine wpAny_Call_method0_late f d (cC (q c s j H _ I h) λv m ⟨x,z,I1,k,l,n⟩=>?_);obtain⟨y,w⟩:=Ey I1 k l;exact⟨T,id,p,g,i,y,w,Calls.callWith_builtin rfl (PySem.evalArgs_none (u c m j z x [] v [] Q I1 k .nil n))⟩
theorem MG(C:PlainAttrs T)(i:Slot T name id)(l:typeOf (.builtin id)=pure (.type "method_descriptor"))(F:Yz X id r)(E:PE X o to)(G:PA X (e::es) t)
 (g:attributeBase o name X.env (eval o X.env)=eval o X.env:=by rfl)
 (j:((backTo cpos (starEach (e::es) X.env)).all (λx=>!x.1)&&(backToKw cpos (keywordEach [] X.env)).all (λx=>x.1.isSome)
   &&decide ((e::es).length+([]:List Keyword).length+(if([]:List Keyword).isEmpty then 0 else 1)<30))=true:=by rfl)
 (f:(apos.endLine==cpos.line)=true:=by rfl)(D:starEach (e::es) X.env=(false,eval e X.env)::starEach es X.env:=by rfl)(d:(backTo cpos (starEach es X.env)).any (·.1)=false:=by rfl):
 PE X (.Call (.Attribute o name apos) (e::es) [] cpos) (YD X.K T r to t):=by
 intro c s k H Q I h;refine wpAny_Call_method_late g j f rfl (cC (E c s k H _ I h) λv y ⟨x,O,I1,m,u,B⟩=>?_);obtain⟨L,J⟩:=Ey I1 m u;refine⟨T,id,C,i,l,L,J,?_⟩;have n:=G cpos c y k O _ I1 B;rw[D]at n⊢;refine Calls.callWith_builtin (by show(false||(backTo cpos (starEach es X.env)).any (·.1))=false;rw[d]<;>rfl) (Calls.evalArgs_plain ?_);exact cC n λq w ⟨p,N,M,z,A⟩=>F c w k N x p v q Q M m z A
end
def YE(X:Cx)(e:String)(r:V->List V->Hp->VK->Prop):Prop:=
 ∀(a:List (Addr×Obj))(s:Shared)(b:St)(H:Hp)(x:V)(c:List V)(v:Value)(d:List Value)(Q:VK),Inv X a b H s->RelV x v->Vals c d->r x c H Q->
  wpAny (model X.prog X.w) X.A (call (.builtin e) (v::d)) (EP X a b Q) X.xe s
theorem Vals.one(h:Vals [x] us):∃u,us=[u]/\RelV x u:=by
 cases h with
 |cons r h=>
  cases h;exact⟨_,rfl,r⟩
theorem Vals.two:∀{x y:V}{us:List Value},Vals [x,y] us->∃u v,us=[u,v]/\RelV x u/\RelV y v
 |_,_,_,.cons r (.cons q .nil)=>⟨_,_,rfl,r,q⟩
theorem Vals.zero:∀{us:List Value},Vals [] us->us=[]
 |_,.nil=>rfl
theorem Vals.dropLast(h:Vals a us):Vals a.dropLast us.dropLast:=by
 induction h with
 |nil=>exact .nil
 |cons r t b=>
  cases t with
  |nil=>exact .nil
  |cons q c=>exact .cons r b
theorem Vals.rep(h:Vals a us):∀k:Nat,Vals (B1 k a).flatten (B1 k us).flatten
 |0=>.nil
 |k+1=>by rw[G2,G2,Ig,Ig];exact Vals.append h (Vals.rep h k)
theorem zh{α:Type}(l:List α):l.eraseIdx (l.length -1)=l.dropLast:=by
 induction l with
 |nil=>rfl
 |cons a r c=>
  cases r with
  |nil=>rfl
  |cons b r=>
   have e:(a::b::r).length -1=((b::r).length -1)+1:=by have f:(a::b::r).length=r.length+2:=rfl;have d:(b::r).length=r.length+1:=rfl;lia
   rw[e,List.eraseIdx_cons_succ,c]
   all_goals rfl
theorem foldl_rep(a:List Value):∀(k:Nat)(b:List Value),
 bb (λd c=>d++c) b.toArray (B1 k a.toArray)=(b++(B1 k a).flatten).toArray
 |0,b=>by simp
 |k+1,b=>by
  have e:b.toArray++a.toArray=(b++a).toArray:=by simp
  have f:(b++a)++(B1 k a).flatten=b++(B1 (k+1) a).flatten:=by rw[G2,Ig,Re]
  rw[<-f,<-foldl_rep a k (b++a),<-e,G2,List.foldl_cons]
section
variable{X:Cx}{pins:List (Addr×Obj)}{σ:St}{H:Hp}{s:Shared}{l b:Addr}{xs ys zs:List V}
theorem Inv.Oh{a its':List Value}(I:Inv X pins σ H s)(i:H l=some (.lst xs))
 (e:s.heap.get? l=some {cls:=.type "list",data:=.seq a.toArray n})(g:f a.toArray=its'.toArray)(c:Vals ys its')(hz:ys.length<=sizeLine):
 Inv X pins σ (upd H l (.lst ys)) {s with heap:=s.heap.update l (Obj.mapSeq f),toks:=t'}:=by
 have q:=PySem.IsL.update e f;rw[g]at q;refine I.write (x:=l) (e:=l) (by rw[i];exact trivial) (.inl rfl) (λj u h d=>(Heap.get?_update_other s.heap (Obj.mapSeq f) (gN h)).trans d) ⟨_,q⟩ ?_;exact⟨hz,its',_,c,q⟩
theorem Inv.US(I:Inv X pins σ H s)(c:Vals ys a)(hz:ys.length<=sizeLine):
 Inv X pins σ (upd H s.heap.objs.size (.lst ys)) {s with heap:=s.heap.push {cls:=.type "list",data:=.seq a.toArray},toks:=t'}:=
 I.laid (λ_ _ q=>He _ q) (FC _) ⟨hz,a,0,c,Sr _ rfl⟩
theorem Inv.fresh(I:Inv X pins σ H s):H s.heap.objs.size=none:=I.hok.fresh (FC _)
theorem Inv.Oi(I:Inv X pins σ H s)(c:H l=some (.lst xs)):xs.length<=sizeLine/\∃(a:List Value)(n:Nat),Vals xs a/\xs.length=a.length/\s.heap.get? l=some {cls:=.type "list",data:=.seq a.toArray n}:=by obtain⟨z,a,n,r,e⟩:=I.hok l _ c;exact⟨z,a,n,r,r.length,e⟩
theorem EA(h:n<=sizeLine):Builtin.List.listTooLong n=false:=by unfold Builtin.List.listTooLong;exact IR (by lia)
end
section
variable{X:Cx}
def AV:V->List V->Hp->VK->Prop:=λx b H Q=>∃l a y,x=.ref l/\b=[y]/\H l=some (.lst a)/\a.length<sizeLine/\Q .cu (upd H l (.lst (a++[y])))
theorem tO:YE X "list.append" AV:=by intro b s g H x j v k Q I d rv h;obtain⟨l,i,y,rfl,rfl,c,hz,q⟩:=h;cases d;obtain⟨u,rfl,f⟩:=rv.one;obtain⟨z,a,n,r,m,e⟩:=I.Oi c;refine call_meets F.slot_list_append ⟨_,e,rfl⟩ F.entry_list_append (F.args_list_append_2 _ _) (PySem.list_append l a.toArray n u (by rw[Hk];lia)) ⟨e,?_⟩;refine⟨.cu,_,I.Oh (its':=a++[u]) c e (by simp) (r.append (.cons f .nil)) ?_,rfl,q⟩;rw[KB,L1];lia
def YF:V->List V->Hp->VK->Prop:=λx b H Q=>∃l a y,x=.ref l/\b=[]/\H l=some (.lst a)/\a[a.length -1]?=some y/\Q y (upd H l (.lst a.dropLast))
theorem Oj:YE X "list.pop" YF:=by
 intro d s o H x t v w Q I g rv h;obtain⟨l,p,y,rfl,rfl,f,j,q⟩:=h;cases g;have c:=rv.zero;subst c;obtain⟨z,a,n,r,m,e⟩:=I.Oi f;obtain⟨u,k,i⟩:=r.get j;have b:a.toArray[a.toArray.size -1]?=some u:=by show a.toArray[a.length -1]?=some u;rw[<-Array.getElem?_toList,<-m];exact k
 refine call_meets F.slot_list_pop ⟨_,e,rfl⟩ F.entry_list_pop (F.args_list_pop_1 _) (MeetsSeq.list_pop_last l a.toArray n u b (by rw[Hk];lia)) ⟨e,?_⟩;refine⟨y,_,I.Oh (its':=a.dropLast) f e ?_ r.dropLast ?_,i,q⟩
 .show a.toArray.eraseIdxIfInBounds (a.toArray.size -1)=a.dropLast.toArray;rw[Hk,List.eraseIdxIfInBounds_toArray,zh]
 .rw[List.length_dropLast];lia
theorem len_rep{α:Type}(a:List α)(k:Nat):(B1 k a).flatten.length=k*a.length:=by
 induction k with
 |zero=>simp
 |succ k b=>rw[G2,Ig,KB,b,R1,zz6]
end
section
variable{prog:Program}{w:World}{A:Around}{E:Value->Shared->Prop}{s:Shared}
end
section
variable{X:Cx}
end
end L2
namespace Att
open PySem PySem.W PySem.Calls PyProof.Rows
theorem oi:∀(ns:List Int)(vs:List Value),WellAll P h vs (ns.map WData.int)->IntsAre vs ns:=by
 intro ns
 induction ns with
 |nil=>intro vs w;rw[Ol]at w;cases w;exact .nil
 |cons n ns c=>
  intro vs w;rw[Wp]at w;cases w with
  |cons a b=>
   cases a;exact .cons _ _ (c _ b)
theorem CL{l:OpenLaw}(u:l.most=some n)
 (c:l.row.toRowW.claim.pre args=true)(j:WellAll P h b args):
 ∃a vs ns,b=[Value.ref a]/\args=[WData.list (ns.map WData.int)]/\h.get? a=some {cls:=.type "list",data:=.seq vs.toArray}/\IntsAre vs ns/\ns.length<=n:=by
 have k:WShape.hasAll [] args [.list .int]=true:=(pre_splitW c).1;have m:l.pre.holds [] {args:=args}=true:=(pre_splitW c).2;obtain⟨d,r,rfl,x,w⟩:=hasAllW_cons k;obtain rfl:=hasAllW_nil w;obtain⟨y,rfl,v⟩:=hasW_list x;obtain⟨ns,rfl⟩:=items_int v;have e:ns.length<=n:=by
  unfold OpenLaw.pre at m;have i:(WTm.not (.lt (.lit (.int (n:Int))) (.len (.arg 0)))).holds [] {args:=[.list (ns.map .int)]}=true:=by have i:=(holds_andW m).1;rw[u]at i;exact i
  have g:=condW_of i (w_not (w_lt w_lit (w_len_list (w_arg rfl))));rw[Bi]at g;refine h7 λq=>?_;have s:(n:Int)<((ns.length:Nat):Int):=by lia
  first
   |(rw[Fn s]at g;exact absurd g (by decide))
   |(simp at g;lia)
 cases j with
 |cons p o=>
  cases o;cases p with
  |list t f=>exact⟨_,_,ns,rfl,rfl,t,oi ns _ f,e⟩
theorem CM(l:OpenLaw)(args:List WData):l.row.toRowW.claim.post args (.bool true) args=true:=
 postW_of (r:=l.row.toRowW) (X:=(true==true))
  (show WShape.has [] (.bool true) .bool=true by first|rfl|decide|simp[WShape.has,WShape.arms,WShape.armsAll])
  (show(WTm.eq .res (.lit (.bool true))).value [] {args:=args,res:=some (.bool true),after:=args}=some (.bool (true==true))from w_eq_bool (w_res rfl) w_lit) rfl
theorem xm{l:OpenLaw}{d:DefRec}
 (K:l.most=some n)(y:d.params.defaults=[])
 (call:∀(w:World)(c b:Shared)(p u:Str->Option Value)(m:Addr)(o:Obj)(t s h:Value)(a:Addr)(vs:List Value)(ns:List Int),
   Ground q e [] F w c p u b.heap->E w b.heap->
   b.heap.get? m=some o->o.data=.func (docDef d.name d.params d.body d.scope t s h)->b.heap.CodeRec s d.name->p d.name=some (.ref m)->
   b.heap.get? a=some {cls:=.type "list",data:=.seq vs.toArray}->IntsAre vs ns->ns.length<=n->b.gens= #[]->
   codeAny (model l.prog w) callerA (.call (.ref m) ⟨[.ref a],[]⟩) (λr s'=>r=.ok (.ret (.bool true))/\OldK b.heap s'.heap/\s'.os=b.os/\AllBare s'.gens) b):
 WalkO q e F E l.row.toRowW d [] (λf vs=>PySem.call f vs):=by
 intro w c b p u G Y m o t s h S kV J O z C x N D A T i B H v M;obtain rfl:S=.none:=Dflts.none C y;obtain rfl:kV=.none:=Dflts.noKw C;obtain⟨a,vs,ns,rfl,rfl,j,g,k⟩:=CL K i v;refine enter_call (codeAny_mono (call w c b p u m o t s h a vs ns G Y J (fd_plain O) z x j g k N) λr s' I=>?_);obtain⟨rfl,R,Q,P⟩:=I;exact⟨.inl ⟨.bool true,.bool true,[],rfl,λ_=>rfl,.bool true,CM l _,λ_=>⟨Il,λ_ L=>(nomatch L)⟩⟩,R,Q,P⟩
section
variable{prog:Program}{w:World}{A:Around}{E:Value->Shared->Prop}{s:Shared}{K:Frag}
end
end Att
namespace L2
open PySem PySem.Spec PyProof.Rows
theorem tQ:∀{vs:List Value}{ns:List Int},IntsAre vs ns->Vals (ns.map V.int) vs
 |_,_,.nil=>.nil
 |_,_,.cons n t h=>.cons ⟨t,rfl⟩ (tQ h)
def EB(H:Hp):Prop:=∀b,H b=none\/∃o a,H b=some (.AF o (.lst a))
theorem EC{K:Frag}{T a:Addr}{fd:FuncData}{x:Str}{sp:Sp}{c:Shared}{vs:List Value}{ns:List Int}
 (KX:K.In c.heap)(y:c.heap.Ns mainGlobals p)(f:c.heap.Ns builtinsNs O)(R:∀x:Str,x≠"__name__"->O x=bootBuiltins x)(A:c.heap.NoLimit)(J:c.heap.NoSeer)(UT:P.given.tree=none)(hg:c.gens= #[])
 (B:c.heap.get? a=some {cls:=.type "list",data:=.seq vs.toArray})(hi:IntsAre vs ns)(Y:ns.length<=sizeLine)(hr:cY k callerA)
 (F:∀base:Heap,K.In base->base.Ns mainGlobals p->cA P w K p base CX k T fd [x] sp)(j:∀(s:Shared)(u:Value),BindsTo s fd ⟨[u],[]⟩ [(x,u)])
 (wJ:∀H:Hp,EB H->jA K H a (ns.map V.int)->sp [.ref a] H (λv _=>v=.bl true) λ_ _ _=>False)
 (YG:∀H e s',CX [] H c (λ_ _ _=>False) e s'->False):
 codeAny (model P w) callerA (.call (.ref T) ⟨[.ref a],[]⟩) (λr s'=>r=.ok (.ret (.bool true))/\OldK c.heap s'.heap/\s'.os=c.os/\AllBare s'.gens) c:=by
 have rv:=tQ hi;have YH:=hi.length;have g:∀H:Hp,EB H->jA K H a (ns.map V.int)->kC P w H c.heap->(∀b,H b≠none->b=a)->(H a≠none->K.lookup a=none)->
  codeAny (model P w) callerA (.call (.ref T) ⟨[.ref a],[]⟩) (λr s'=>r=.ok (.ret (.bool true))/\OldK c.heap s'.heap/\s'.os=c.os/\AllBare s'.gens) c:=by
  intro H Z hS t S hK;have L:∀{b:Addr}{o:Obj},c.heap.get? b=some o->H b=none->(uD c.heap H).get? b=some o:=λe n=>D6 e n;have UL:∀{b:Addr}{o:Obj}{D:Array DictEntry}{E:Nat},c.heap.get? b=some o->o.data=.dict D E->H b=none:=λ{b o D E} e d=>by
   cases q:H b with
   |none=>rfl
   |some u=>have G:b=a:=S b (by rw[q];simp);subst G;rw[B]at e;cases e;have U:Data.seq vs.toArray _=Data.dict D E:=d;cases U
  have i:∀{b:Addr}{m:Str->Option Value},c.heap.Ns b m->(uD c.heap H).Ns b m:=λ{b m} ⟨o,D,E,e,d,r⟩=>⟨o,D,E,L e (UL e d),d,r⟩;have C:K.In (uD c.heap H):=λb o e=>L (KX b o e) (by
   cases q:H b with
   |none=>rfl
   |some u=>have G:b=a:=S b (by rw[q];simp);subst G;rw[hK (by rw[q];simp)]at e;cases e)
  have N:∀{b:Addr}{o:Obj},c.heap.get? b=some o->o.cls=.type "module"->H b=none:=λ{b o} e d=>by
   cases q:H b with
   |none=>rfl
   |some u=>have G:b=a:=S b (by rw[q];simp);subst G;rw[B]at e;cases e;have U:Value.type "list"=Value.type "module":=d;exact absurd U (by decide)
  have hM:Mod K p (uD c.heap H):=⟨C,i y,⟨O,i f,R⟩,let⟨mc,h1,h2⟩:=A;⟨mc,i h1,h2⟩,⟨let⟨m,h1,h2⟩:=J.statics;⟨m,i h1,h2⟩,let⟨m,h1,h2⟩:=J.mods;⟨m,i h1,h2⟩,let⟨m,h1,h2⟩:=J.imp;⟨m,i h1,h2⟩,let⟨m,bm,M,h1,h2,h3,h4,h5⟩:=J.main;⟨m,bm,M,i h1,h2,L h3 (N h3 h4),h4,h5⟩⟩⟩;have e0:yX P w K p (uD c.heap H) callerA [] c H:=⟨rfl,hM,λb o e=>IF e,n4 (Cv _ _),trivial,λb f=>absurd (show b∈([]:List Addr)from f) (by simp),t,.of_eq hg,UT⟩;refine codeAny_mono ((F _ C (i y)).run callerA [] c H ⟨[.ref a],[]⟩ [.ref a] [.ref a] _ _ hr e0 (j c (.ref a)) (.cons rfl .nil) (wJ H Z hS)) λr s' h=>?_;cases r with
  |error e=>exact(YG H e s' h).elim
  |ok fl=>
   cases fl with
   |next=>exact FE h
   |brk=>exact FE h
   |cont=>exact FE h
   |ret u=>
    obtain⟨v,H',os,I,X,YI,r',q⟩:=h;have q':v=.bl true:=q;subst q';obtain rfl:u=Value.bool true:=r';refine⟨rfl,OldK.of_keep λb o e=>?_,os,I⟩;cases q:H b with
    |none=>exact X.keep b o e q (by intro z;exact absurd (show b∈([]:List Addr)from z) (by simp)) (by simp)
    |some u=>
     rcases Z b with z|⟨M,xs,z⟩
     .rw[q]at z;cases z
     .have z2:=X.mK b M _ z;obtain⟨e1,_⟩:=t b _ z;obtain⟨e2,_⟩:=YI b _ z2;rw[e]at e1;cases e1;exact e2
 cases Q:K.lookup a with
 |some o=>have e:=KX a o Q;rw[B]at e;cases e;refine g (λ_=>none) (λ_=>.inl rfl) (.inr ⟨_,vs.toArray,_,Q,rfl,rfl,rfl,by rw[Hk,YH];exact Y,by simpa using rv⟩) (λb u z=>by have l:(none:Option HO)=some u:=z;cases l) (λb z=>absurd rfl z) λz=>absurd rfl z
 |none=>
  refine g (λb=>if b=a then some (.AF {cls:=.type "list",data:=.seq vs.toArray} (.lst (ns.map V.int)))else none) (λb=>?_) (.inl (.inr ⟨{cls:=.type "list",data:=.seq vs.toArray},D1 rfl⟩)) (λb u z=>?_) (λb z=>?_) λ_=>Q
  .by_cases f:b=a
   .exact .inr ⟨_,_,D1 f⟩
   .exact .inl (Bz f)
  .by_cases f:b=a
   .have l:=(D1 f).symm.trans z;cases l;subst f;exact⟨B,by rw[Bi];exact Y,vs,_,rv,B⟩
   .have l:=(Bz f).symm.trans z;cases l
  .by_cases f:b=a
   .exact f
   .exact absurd (Bz f) z
theorem Jg{l:PySem.W.OpenLaw}{d:DefRec}{K:Params->Frag}{CX:World->CI}{sp:World->Sp}{x:Str}
 (M:l.most=some n)(z:n<=sizeLine)(B:d.params.defaults=[])(L:cY k callerA)(Z:importsNone q=true)(y:l.prog.given.tree=none)
 (Q:∀(w:World)(h:Heap),E w h->(K w.params).In h)
 (F:∀(w:World)(m:Str->Option Value)(t:Addr)(h:Heap),(K w.params).In h->h.Ns mainGlobals m->m d.name=some (.ref t)->
   ∃C:FuncData,(∀(s:Shared)(u:Value),BindsTo s C ⟨[u],[]⟩ [(x,u)])/\
    ∀base:Heap,(K w.params).In base->base.Ns mainGlobals m->cA l.prog w (K w.params) m base (CX w) k t C [x] (sp w))
 (J:∀(w:World)(H:Hp)(a:Addr)(ns:List Int),ns.length<=n->EB H->jA (K w.params) H a (ns.map V.int)->sp w [.ref a] H (λv _=>v=.bl true) λ_ _ _=>False)
 (YG:∀(w:World)(H:Hp)(s:Shared)(e:Value)(s':Shared),CX w [] H s (λ_ _ _=>False) e s'->False):
 PySem.W.WalkO q i XP E l.row.toRowW d [] (λf vs=>PySem.call f vs):=by
 refine Att.xm M B λw D p m mb t o pm cd X a vs ns G Y ho hd O A r j c N=>?_;have I:=Q w _ Y;obtain⟨C,P,U⟩:=F w m t _ I G.T.g A;exact EC I G.T.g G.T.b G.T.builtins G.T.nolimit (G.T.seer Z) y N r j (Do c z) L U P (λH S R=>J w H a ns c S R) λH e s'=>YG w H p e s'
noncomputable def inClass(s:Stmt)(j:Nat):Stmt:=match s with
 |.ClassDef _ _ _ body _ _ _ _ _ _ _=>body.getD j (.Pass ⟨0,0,0,0⟩)
 |_=>.Pass ⟨0,0,0,0⟩
noncomputable def cE(s:Stmt):Arguments:=match s with
 |.FunctionDef _ a _ _ _ _ _ _ _ _=>a
 |_=>{posonlyargs:=[],args:=[],vararg:=none,kwonlyargs:=[],kw_defaults:=[],kwarg:=none,defaults:=[]}
noncomputable def aO(s:Stmt):List Stmt:=match s with
 |.FunctionDef _ _ b _ _ _ _ _ _ _=>b
 |_=>[]
noncomputable def ai(s:Stmt):Scope:=match s with
 |.FunctionDef _ _ _ _ _ _ sc _ _ _=>sc
 |_=>{kind:=.function,names:=[],isGenerator:=false,isCoroutine:=false}
abbrev UU:CI:=λ_ _ _ _ _ _=>False
abbrev E0:XK:=λ_ _ _=>False
structure ED(K:Frag)(x qual:Str)(st:Stmt)(f:Addr)(fd:FuncData):Prop where
 ex:∃(oc:Value)(od:Option Addr)(kV doc pm:Value)(an:Option Addr)(cdv ct:Value)(osl:Array (Option Value)),
  fd=fnOf x qual (cE st) (aO st) (ai st) .none kV doc pm an cdv ct/\K.lookup f=some ⟨oc,od,.func fd,osl⟩/\codeIn K cdv qual=true
 kp:keepIn K (.ref f)=true
section
variable{P:Program}{w:World}{K:Frag}{mg:Str->Option Value}{base:Heap}
theorem ED.binds{st:Stmt}(F:ED K x a st f i)
 (h:∀(kV b d:Value)(g:Option Addr)(c e:Value)(us:List Value),us.length=ps.length->bindArgs (fnOf x a (cE st) (aO st) (ai st) .none kV b d g c e) ⟨us,[]⟩=pure (ps.zip us)):Binds K i ps []:=by
 obtain⟨m,l,kV,b,d,g,c,e,j,rfl,n,k⟩:=F.ex;exact .all (h kV b d g c e)
theorem EF{st:Stmt}{kV d g b h:Value}(l:K.lookup f=some ⟨m,j,.func (fnOf x a (cE st) (aO st) (ai st) .none kV d g i b h),e⟩)
 (c:codeIn K b a=true)(k:keepIn K (.ref f)=true):ED K x a st f (fnOf x a (cE st) (aO st) (ai st) .none kV d g i b h):=⟨⟨m,j,kV,d,g,i,b,h,e,rfl,l,c⟩,k⟩
end
section
variable{X:Cx}
theorem pv(i:Nat){pos:Pos}(d:X.N[i]?=some x:=by rfl)(b:Uh X.env.scope x:=by first|exact ZC rfl|exact Yx (ZC rfl)|exact Yx (Yx rfl))(c:(x==("__debug__":Str))=false:=by decide)
 (a:(x==("__classdict__":Str))=false:=by decide):PE X (.Name x pos) (kI i):=Ea d b c a
end
def aE(H H':Hp):Prop:=∀b o,H b=some o->H' b=some o
theorem aE.refl(H:Hp):aE H H:=λ_ _ h=>h
theorem aE.trans(a:aE H H1)(b:aE H1 d):aE H d:=λc o h=>b c o (a c o h)
theorem aE.free(e:aE H H')(h:H' l=eA):H l=eA:=by
 cases q:H l with
 |none=>rfl
 |some o=>rw[e l o q]at h;cases h
theorem bits_le(h:x.natAbs<2^n):Builtin.Int.intBits x<=n:=by
 unfold Builtin.Int.intBits;split
 .exact Os _
 .rename_i hx
  have a:x.natAbs≠0:=λe=>hx (by simp[Int.natAbs_eq_zero.mp e]);have:=(Sx a).mpr h;lia
theorem zj(h:Builtin.Int.intBits i+Builtin.Int.intBits j<=134217728):IntMulOk i j:=by
 unfold IntMulOk Builtin.Int.intTooBig;have a:¬((Builtin.Int.intBits i:Int)+(Builtin.Int.intBits j:Int)>((bitsLine:Nat):Int)):=by rw[bitsLine_eq];lia
 intro z;rw[DL]at z;exact a (Dx z.2)
section
variable{X:Cx}
theorem Jh:rZ X (binaryOp .Mult) (rI IntMulOk λi j=>.int (i*j)):=Ys λ_ _ _ _ _ _ _ a q=>mul_int q a
def kN(_ j:Int):Prop:=j≠0/\j.natAbs.log2<1000000000
theorem EG:rZ X (binaryOp .FloorDiv) (rI kN λi j=>.int (i.fdiv j)):=λa s e H x y v u Q I c b h=>by obtain⟨i,j,rfl,rfl,d,q⟩:=h;obtain⟨t,rfl⟩:=c;obtain⟨f,rfl⟩:=b;exact floordiv_int d.1 ⟨.int (i.fdiv j),H,I.tok _,⟨_,rfl⟩,q⟩ (.inr (I.ok.Xh X.A s rfl rfl I.bk))
end
theorem aU(h:H p=none)(o:HO):aE H (upd H p o):=λb u q=>by rw[ay (aT q h)];exact q
theorem aE.tup{K:Frag}{H H':Hp}{a:Addr}{b:List V}(e:aE H H')(h:mP K H a b):mP K H' a b:=by
 rcases h with(h|⟨o,h⟩)|h
 .exact .inl (.inl (e _ _ h))
 .exact .inl (.inr ⟨o,e _ _ h⟩)
 .exact .inr h
theorem tR(h:n<=100000):n<=sizeLine:=Do h (by decide)
end L2
namespace L2
theorem pK(c:0<=j)(b:j<=1000000)(a:i.natAbs<2^64):IS i j:=⟨c,b,a⟩
end L2
namespace L2
open PySem PySem.Spec PyProof.Rows
theorem EH(a:H q=some u)(b:H p=none):upd H p o q=some u:=by rw[ay (aT a b)];exact a
theorem dH.thing(x:dH P w H h a o):∃b,h.get? a=some b:=by
 cases o with
 |lst d=>obtain⟨_,_,_,_,e⟩:=x;exact⟨_,e⟩
 |tup d=>obtain⟨_,_,_,b,e,_⟩:=x;exact⟨_,e⟩
 |dK c=>obtain⟨_,_,_,_,b,_,_,e,_⟩:=x;exact⟨_,e⟩
 |dT c=>obtain⟨_,_,_,_,b,_,_,e,_⟩:=x;exact⟨_,e⟩
 |set S n=>obtain⟨b,_,_,_,e,_⟩:=x;exact⟨_,e⟩
 |ins C l g=>obtain⟨_,_,_,e,_⟩:=x;exact⟨_,e⟩
 |own y=>exact x
 |xd g=>obtain⟨_,⟨_,_,_,e,_⟩,_⟩:=x;exact⟨_,e⟩
 |jN j k=>obtain⟨_,_,_,e⟩:=x;exact⟨_,e⟩
 |AF b u=>obtain⟨e,_⟩:=x;exact⟨_,e⟩
 |Mx i=>exact⟨_,x⟩
 |met f y=>exact⟨_,x⟩
 |ext φ=>obtain⟨_,e,_⟩:=x;exact e
theorem kC.gone(x:kC P w H h)(e:h.get? a=none):H a=none:=by
 cases q:H a with
 |none=>rfl
 |some u=>obtain⟨b,z⟩:=(x a u q).thing;rw[e]at z;cases z
theorem kC.tracked(x:kC P w H h)(k:∀b u c,H b=some u->h.get? b=some c->h'.get? b=some c):kC P w H h':=λa o e=>
 (x a o e).stay (λb u z q=>by
   rcases z with rfl|z
   .exact k b o u e q
   .exact k b _ u z q) (λ_ q=>q) λ_ _ q=>q
structure Fly(P:Program)(w:World)(outer:List Env)(H:Hp)(s:Shared)(H':Hp)(a C:Addr)(s':Shared):Prop where
 os:s'.os=s.os
 bare:AllBare s'.gens
 un:Un (frs outer) [] H H' s.heap s'.heap
 hok:kC P w H' s'.heap
 new:H' a=none
 old:s.heap.get? a=none
 fly:∃(B:Heap)(a0:Value),Heap.FlyingW B outer a (.ref C) a0 s'.heap/\∀b o,s'.heap.get? b=some o->b∉frs outer->((∃o',s.heap.get? b=some o')\/∃u,H' b=some u)->B.get? b=some o
def jB(P:Program)(w:World):CI:=λb H s E e d=>∃a C c,e=.ref a/\Fly P w b H s c a C d/\E (.ref C) none c
section
variable{P:Program}{w:World}{K:Frag}{mg:Str->Option Value}{base:Heap}{N:List Str}{qual:Str}{scope:Scope}{f:Addr}{cd:Value}{A:Around}{outer:List Env}{s:Shared}{H:Hp}{E:XK}
abbrev kD(P:Program)(w:World)(K:Frag)(mg:Str->Option Value)(base:Heap)(N:List Str)(qual:Str)(scope:Scope)(f:Addr)(cd:Value)(A:Around)(outer:List Env)(s:Shared)(H:Hp)(E:XK):Cx:=
 CJ (jB P w) P w K mg base N qual scope f cd A outer s H E
theorem pL(a:e.frame=some L):b∈frs (e::l)↔b=L\/b∈frs l:=by unfold frs;rw[Ji,a];exact IH
theorem xo{x:St}(I:Inv (kD P w K mg base N qual scope f cd A outer s H E) g x H1 i)
 (u:Un (frs (kD P w K mg base N qual scope f cd A outer s H E).stack) [] H1 t i.heap r):Un (frs outer) [] H t s.heap r:=by
 have D:(kD P w K mg base N qual scope f cd A outer s H E).env.frame=some s.heap.objs.size:=rfl;have p:∀b,b∈frs (kD P w K mg base N qual scope f cd A outer s H E).stack↔b=s.heap.objs.size\/b∈frs outer:=λb=>pL D;have c:Un (frs outer) [] H H1 s.heap i.heap:=I.base;have k:∀b o,s.heap.get? b=some o->b∉frs outer->b∉frs (kD P w K mg base N qual scope f cd A outer s H E).stack:=λb o q d z=>by
  rcases(p b).mp z with z|z
  .exact absurd (KF q) (by rw[z];exact Xt _)
  .exact d z
 refine⟨λb o q n d a=>?_,λb o q n d a=>?_,λb o q n a=>?_,λb o q a=>?_,λb m q=>u.tups b m (c.tups b m q),λb o v q=>u.mK b o v (c.mK b o v q),λb y q=>?_⟩
 .exact u.keep b o (c.keep b o q n d a) (c.free b o q n a) (k b o q d) a
 .obtain⟨F,e⟩:=c.slot b o q n d a;obtain⟨h,l⟩:=u.slot b _ e (c.free b o q n a) ((p b).mpr (.inr d)) a;exact⟨h,l⟩
 .obtain⟨j,e⟩:=c.there b o q a;exact u.free b j e (c.free b o q n a) a
 .obtain⟨j,e⟩:=c.there b o q a;exact u.there b j e a
 .obtain⟨C,e⟩:=c.n9 b y q;obtain⟨B,l⟩:=u.n9 b _ e;exact⟨C++B,by rw[l,b9]⟩
theorem zk(u:Un (frs l) [] H1 t p g)(k:∀b o,g.get? b=some o->b∉frs l->((∃c,p.get? b=some c)\/∃u,t b=some u)->h.get? b=some o)
 (ff:∀b,b∈frs l->∃o,g.get? b=some o/\∀vs,o.data≠.fields vs)(up:g.UpToSlots h):Un (frs l) [] H1 t p h:=by
 have v:∀b o,b∈frs l->g.get? b=some o->∃m,h.get? b=some {o with slots:=m}:=λb o a q=>by obtain⟨c,e,x⟩:=ff b a;rw[q]at e;cases e;exact up b o q x
 refine⟨λb o q n a d=>k b o (u.keep b o q n a d) a (.inl ⟨o,q⟩),λb o q n a d=>?_,u.free,λb o q d=>?_,u.tups,u.mK,u.n9⟩
 .obtain⟨m,i⟩:=u.slot b o q n a d;obtain⟨j,r⟩:=v b _ a i;exact⟨j,r⟩
 .obtain⟨c,i⟩:=u.there b o q d;by_cases a:b∈frs l
  .obtain⟨m,r⟩:=v b c a i;exact⟨_,r⟩
  .exact⟨c,k b c i a (.inl ⟨o,q⟩)⟩
theorem EI{d:St}(I:Inv (kD P w K mg base N qual scope f cd A outer s H E) b d H1 c)(e:c.heap.get? a=none):s.heap.get? a=none:=by
 have g:Un (frs outer) [] H H1 s.heap c.heap:=I.base;cases q:s.heap.get? a with
 |none=>rfl
 |some o=>obtain⟨h,z⟩:=g.there a o q (by simp);rw[e]at z;cases z
theorem zo{J:St}{k:List Value}(I:Inv (kD P w K mg base N qual scope f cd A outer s H E) d J H1 c)
 (l:Heap.MadeExcOf c.heap h' a (.ref C) k)(q:E (.ref C) none H1):(kD P w K mg base N qual scope f cd A outer s H E).xe (.ref a) {c with heap:=h'}:=by
 have D:(kD P w K mg base N qual scope f cd A outer s H E).env.frame=some s.heap.objs.size:=rfl;have R:∀b,b∈frs (kD P w K mg base N qual scope f cd A outer s H E).stack↔b=s.heap.objs.size\/b∈frs outer:=λb=>pL D;have ff:=I.stack;have p:∀env∈(kD P w K mg base N qual scope f cd A outer s H E).stack,∀b,env.frame=some b->b∈frs (kD P w K mg base N qual scope f cd A outer s H E).stack:=λenv T b r=>MT.mpr ⟨env,T,r⟩;have j:=PySem.W.funFrames_hide ff p;refine wpAny_leaves_madeW (base:=PySem.W.hideAll c.heap (frs (kD P w K mg base N qual scope f cd A outer s H E).stack)) (h:=c.heap) I.ok.frames D (λb o z=>PySem.W.of_hideAll _ z) j l λn t y Y X M=>?_;have v:∀b o,c.heap.get? b=some o->b∉frs (kD P w K mg base N qual scope f cd A outer s H E).stack->n.get? b=some o:=λb o z g=>y.1 b o (hideAll_get _ z g);have fm:∀b,b∈frs (kD P w K mg base N qual scope f cd A outer s H E).stack->∃o,c.heap.get? b=some o/\∀O,o.data≠.fields O:=λb r=>(j.mem r).2;have up:c.heap.UpToSlots n:=(Heap.UpToSlots.of_keeps l.keeps).trans M;have Q:Un (frs (kD P w K mg base N qual scope f cd A outer s H E).stack) [] H1 H1 c.heap n:=zk Un.refl (λb o z g _=>v b o z g) fm up;refine⟨a,C,H1,rfl,⟨I.os,I.bare,xo I Q,I.hok.tracked λb u S z L=>v b S L λm=>?_,I.hok.gone l.new,EI I l.new,_,_,y,λb o z g i=>?_⟩,q⟩
 .have:=I.jj b m;rw[z]at this;cases this
 .have G:b∉frs (kD P w K mg base N qual scope f cd A outer s H E).stack:=λm=>by
   rcases i with⟨B,e⟩|⟨u,e⟩
   .rcases(R b).mp m with m|m
    .exact absurd (KF e) (by rw[m];exact Xt _)
    .exact g m
   .have:=I.jj b m;rw[e]at this;cases this
  have:∃o1,c.heap.get? b=some o1:=by
   rcases i with⟨B,e⟩|⟨u,e⟩
   .exact Un.there (show Un (frs outer) [] H H1 s.heap c.heap from I.base) b B e (by simp)
   .exact(I.hok b u e).thing
  obtain⟨o1,F⟩:=this;have U:=v b o1 F G;have x:n.get? b=some o:=z;rw[U]at x;cases x;exact hideAll_get _ F G
theorem EJ{G:St}(I:Inv (kD P w K mg base N qual scope f cd A outer s H E) g G H1 i)
 (S:jB P w (kD P w K mg base N qual scope f cd A outer s H E).stack H1 i E e s'):(kD P w K mg base N qual scope f cd A outer s H E).xe e s':=by
 obtain⟨a,C,n,rfl,F,q⟩:=S;obtain⟨B,Y,x,k⟩:=F.fly;have t:(kD P w K mg base N qual scope f cd A outer s H E).env.frame=some s.heap.objs.size:=rfl;have Q:∀b,b∈frs (kD P w K mg base N qual scope f cd A outer s H E).stack↔b=s.heap.objs.size\/b∈frs outer:=λb=>pL t;refine wpAny_leaves_onW I.ok.frames t x λU h L=>?_;have fm:∀b,b∈frs (kD P w K mg base N qual scope f cd A outer s H E).stack->∃o,s'.heap.get? b=some o/\∀M,o.data≠.fields M:=λb T=>(x.2.2.1.mem T).2;have D:∀b u,n b=some u->b∉frs (kD P w K mg base N qual scope f cd A outer s H E).stack:=λb u z m=>by have l:=I.jj b m;obtain⟨o,R,_⟩:=I.stack.mem m|>.2;rw[F.un.free b o R l (by simp)]at z;cases z
 have O:=zk F.un (λb o z j c=>h.1 b o (k b o z j c)) fm L;refine⟨a,C,n,rfl,⟨F.os.trans I.os,F.bare,xo I O,F.hok.tracked λb u r z J=>h.1 b r (k b r J (D b u z) (.inr ⟨u,z⟩)),F.new,EI I F.old,B,Y,h,λb o z j c=>?_⟩,q⟩;have Z:b∉frs (kD P w K mg base N qual scope f cd A outer s H E).stack:=λm=>by
  rcases c with⟨d,e⟩|⟨u,e⟩
  .rcases(Q b).mp m with m|m
   .exact absurd (KF e) (by rw[m];exact Xt _)
   .exact j m
  .exact D b u e m
 have y:(∃d,i.heap.get? b=some d)\/∃u,n b=some u:=by
  rcases c with⟨d,e⟩|z
  .exact .inl (Un.there (show Un (frs outer) [] H H1 s.heap i.heap from I.base) b d e (by simp))
  .exact .inr z
 have:∃o1,s'.heap.get? b=some o1:=by
  rcases y with⟨d,e⟩|⟨u,e⟩
  .exact F.un.there b d e (by simp)
  .exact(F.hok b u e).thing
 obtain⟨o1,l⟩:=this;have v:=k b o1 l Z y;have X:=h.1 b o1 v;have p:U.get? b=some o:=z;rw[X]at p;cases p;exact v
theorem MI:Passes (jB P w) (kD P w K mg base N qual scope f cd A outer s H E) E:=λ_ _ _ _ _ _ I h=>EJ I h
end
abbrev bmV:List Value:=[.type "ValueError",.type "Exception",.type "BaseException",.type "object"]
structure YK(K:Frag)(C:Addr):Prop where
 exc:PySem.W.excIn K C bmV "ValueError.__new__"=true
 ga:findIn K (.ref C) "__getattribute__"=some (some (.builtin "BaseException.__getattribute__"))
 gt:findIn K (.ref C) "__getattr__"=some none
 cl:findIn K (.ref C) "__class__"=some (some (.builtin "object.__class__"))
 ob:mroIn K C (.type "object")=some true
 bs:mroIn K C (.type "BaseException")=some true
def EK(X:Cx)(R:Addr->Hp->Prop):Prop:=∀(b:List (Addr×Obj))(e:St)(H:Hp)(s:Shared)(d:Heap)(a C:Addr)(c:List Value),Inv X b e H s->Heap.MadeExcOf s.heap d a (.ref C) c->R C H->X.xe (.ref a) {s with heap:=d}
theorem AW{K:Frag}{c:Str}{a:Scope}{f:Addr}{g:Value}{A:Around}{b:List Env}{s:Shared}{H:Hp}{E:XK}:
 EK (kD P w K d base N c a f g A b s H E) (λC H'=>E (.ref C) none H'):=λ_ _ _ _ _ _ _ _ I e q=>zo I e q
section
variable{X:Cx}{x:Str}{C:Addr}{e:Expr}{t:TA}{np cpos pos:Pos}{R:Addr->Hp->Prop}
end
theorem ED.YL{K:Frag}{st:Stmt}{f:Addr}{j:FuncData}{N ps:List Str}{k:Nat}{sp:Sp}(F:ED K x b st f j)(S:cN N ps (ai st))
 (d:∀vs H Q E,sp vs H Q E->vs.length=ps.length)
 (o:∀(c:Value)(A:Around)(a:List Env)(s:Shared)(H:Hp)(vs:List V)(Q:VK)(E:XK),cY k (A.deeper (envOfC b (ai st) s.heap.objs.size f c))->sp vs H Q E->
   ∃t,wR (kD P w K i base N b (ai st) f c A a s H E) (aO st) t/\t {nx:=λ_ H'=>Q .cu H',rt:=Q} (start N vs) H):cA P w K i base (jB P w) (k+1) f j ps sp:=by
 obtain⟨u,r,kV,p,q,y,c,v,l,e,m,g⟩:=F.ex;subst e;exact UM m g S d λA a s H vs Q E n h=>o c A a s H vs Q E n h
theorem cA.UX{K:Frag}{f:Addr}{d:FuncData}{ps:List Str}{sp:Sp}(F:cA P w K c base (jB P w) k f d ps sp):
 cA P w K c base UU k f d ps (λvs H Q _=>sp vs H Q E0):=
 ⟨λvs H Q E h=>F.len vs H Q E0 h,λA a s H b g vs Q E i l j r h=>codeAny_mono (F.run A a s H b g vs Q E0 i l j r h) λr m z=>by
   cases r with
   |error e=>obtain⟨_,_,_,_,_,q⟩:=z;exact q.elim
   |ok fl=>cases fl<;>exact z⟩
def FX(X:Cx)(a:List (Addr×Obj))(d:St)(E:XK)(e:Value)(s':Shared):Prop:=∃c b,Inv X a d c b/\jB X.prog X.w X.stack c b E e s'
section
variable{X:Cx}{k:Nat}{f:Addr}{fd:FuncData}{ps:List Str}{sp:Sp}{x:Str}{p pos:Pos}{e:Expr}{es:List Expr}{t:TA}
end
section
variable{X:Cx}{pins:List (Addr×Obj)}{σ:St}{H:Hp}{s:Shared}
end
theorem Inv.fly{k:St}{B:Heap}{A:Value}(I:Inv X c k H1 g)(F:Fly X.prog X.w X.stack H1 g f a C d)
 (p:∀b o,d.heap.get? b=some o->b∉frs X.stack->((∃s,g.heap.get? b=some s)\/∃u,f b=some u)->B.get? b=some o)(x:Heap.FlyingW B X.stack a (.ref C) A d.heap)(l:B.StaysIn e.heap)(up:d.heap.UpToSlots e.heap)
 (j:e.os=d.os)(y:e.gens=d.gens):Inv X c k f e:=by
 have fm:∀b,b∈frs X.stack->∃o,d.heap.get? b=some o/\∀r,o.data≠.fields r:=λb i=>(x.2.2.1.mem i).2;have D:∀b u,f b=some u->b∉frs X.stack:=λb u z m=>by have j:=I.jj b m;obtain⟨o,v,_⟩:=I.stack.mem m|>.2;rw[F.un.free b o v j (by simp)]at z;cases z
 refine I.D9 (ch:=[]) (j.trans F.os) (zk F.un (λb o z t h=>l b o (p b o z t h)) fm up) (F.hok.tracked λb u n z q=>l b n (p b n q (D b u z) (.inr ⟨u,z⟩))) (by rw[y];exact F.bare) λb i=>absurd i (by simp)
section
variable{prog:Program}{w:World}{A:Around}{E:Value->Shared->Prop}{s:Shared}{K:Frag}{a C:Addr}
end
inductive UY:V->Value->Prop where
 |own (D:Addr):UY (.ref D) (.ref D)
 |ty (n:String):UY (.ty n) (.type n)
noncomputable def mU(cells:List (Str×Addr)):List (Str×NameKind)->List (Str×Addr)->List (Str×Addr)
 |[],acc=>acc
 |(n,k)::r,acc=>mU cells r (if k=.free then(n,(cells.lookup n).getD 0)::acc else acc)
theorem pM:∀(l:List (Str×NameKind))(a:List (Str×Addr)),(∀p∈l,p.2=.free->∃c,env.cells.lookup p.1=some c)->
 (forIn l a λ(x:Str×NameKind)(cs:List (Str×Addr))=>if(x.2==NameKind.free)=true then(do let c<-cellOf env x.1;pure (Ii ((x.1,c)::cs)))else(pure (Ii cs):Sem _))=pure (mU env.cells l a)
 |[],a,_=>rfl
 |(n,k)::r,a,h=>by
  have ih:=λa=>pM (env:=env) r a λp g=>h p (FM _ g);rw[List.forIn_cons];by_cases b:k=.free
  .obtain⟨c,i⟩:=h (n,k) FS b;have d:env.cells.lookup n=some c:=i;have e:cellOf env n=pure c:=by unfold cellOf;rw[d]
   have f:(k==NameKind.free)=true:=by simp[b]
   simp only[f,zz0,e,pure_bind,ih];simp only[mU,b,zz0,d,Option.getD_some]
  .have f:(k==NameKind.free)=false:=by simpa using b
   simp only[f,NI,zzg,pure_bind,ih];simp only[mU,b,zzg]
theorem pN(h:∀p∈a.names,p.2=.free->∃c,env.cells.lookup p.1=some c):closureFor a env=pure (mU env.cells a.names []):=by have:=pM (env:=env) a.names [] h;unfold closureFor;simp only[bind_pure];exact this
theorem xq:∀(l:List (Str×NameKind))(a:List (Str×Addr)),(∀p∈l,p.2=.free->∃c,cells.lookup p.1=some c)->(∀y c,a.lookup y=some c->cells.lookup y=some c)->
 ∀y c,(mU cells l a).lookup y=some c->cells.lookup y=some c
 |[],_,_,ha,y,c,h=>ha y c h
 |(n,k)::r,a,hl,ha,y,c,h=>by
  refine xq r _ (λp i=>hl p (FM _ i)) (λz d hz=>?_) y c h;by_cases b:k=.free
  .rw[D1 b,Ck]at hz;obtain⟨m,g⟩:=hl (n,k) FS b;have f:cells.lookup n=some m:=g;split at hz
   .rename_i e
    have j:z=n:=by simpa using e
    subst j;rw[f]at hz⊢;exact hz
   .exact ha z d hz
  .rw[Bz b]at hz;exact ha z d hz
theorem pO:∀(l:List (Str×NameKind))(a:List (Str×Addr))(y:Str),((a.lookup y).isSome=true\/(y,NameKind.free)∈l)->((mU cells l a).lookup y).isSome=true
 |[],_,_,h=>h.elim id λz=>nomatch z
 |(n,k)::r,a,y,h=>by
  refine pO r _ y ?_;by_cases b:k=.free
  .rw[D1 b,Ck];by_cases e:(y==n)=true
   .left;rw[e];rfl
   .rw[kf]at e;rw[e];rcases h with h|h
    .exact .inl h
    .rcases IH.mp h with h|h
     .have:y=n:=SU IB h;subst this;simp at e
     .exact .inr h
  .rw[Bz b];rcases h with h|h
   .exact .inl h
   .rcases IH.mp h with h|h
    .have:NameKind.free=k:=SU Prod.snd h;exact absurd this.symm b
    .exact .inr h
theorem tS:∀(l:List (Str×NameKind))(a:List (Str×Addr))(y:Str)(c:Addr),(mU cells l a).lookup y=some c->(∃b,a.lookup y=some b)\/(y,NameKind.free)∈l
 |[],_,y,c,h=>.inl ⟨c,h⟩
 |(n,k)::r,a,y,c,h=>by
  rcases tS r _ y c h with⟨b,h'⟩|h'
  .by_cases d:k=.free
   .rw[D1 d,Ck]at h';split at h'
    .rename_i e
     have f:y=n:=by simpa using e
     subst f;subst d;exact .inr FS
    .exact .inl ⟨b,h'⟩
   .rw[Bz d]at h';exact .inl ⟨b,h'⟩
  .exact .inr (FM _ h')
theorem iP{env:Env}(d:env.scope.kind=.function):∀(l:List (Str×NameKind))(y:Str),
 (l.map λ(n,k)=>if(k==NameKind.free&&env.scope.kind==.function&&env.kindOf n==some .cell)then(n,NameKind.cell)else(n,k)).lookup y=(l.lookup y).map λk=>if(k==NameKind.free&&env.kindOf y==some .cell)=true then NameKind.cell else k
 |[],_=>rfl
 |(n,k)::r,y=>by
  have ih:=iP d r y;have b:(env.scope.kind==ScopeKind.function)=true:=by rw[d];rfl
  rw[Wp,Ck];by_cases e:(y==n)=true
  .have f:y=n:=by simpa using e
   subst f;by_cases c:(k==NameKind.free&&env.kindOf y==some .cell)=true
   .have a:(k==NameKind.free&&env.scope.kind==.function&&env.kindOf y==some .cell)=true:=by rw[b,ed];exact c
    simp only[a,zz0,Ck,t5,Ij,c]
   .have a:¬(k==NameKind.free&&env.scope.kind==.function&&env.kindOf y==some .cell)=true:=by rw[b,ed];exact c
    rw[Bz a];simp only[Ck,t5,Ij];rw[Bz c]
  .rw[kf]at e;by_cases a:(k==NameKind.free&&env.scope.kind==.function&&env.kindOf n==some .cell)=true
   .simp only[a,zz0,e,Ck];exact ih
   .rw[kf]at a;simp only[a,NI,zzg,e,Ck];exact ih
noncomputable def dI(sc c:Scope)(N a b:List Str):Bool:=
 sc.kind==.function&&b.all (λx=>sc.names.lookup x==some .local&&!a.contains x)&&
 sc.names.all (λp=>p.2 !=.cell&&(p.2 !=.local||sc.names.lookup p.1==some .local)&&(p.2 !=.free||(c.names.lookup p.1==some .cell&&sc.names.lookup p.1==some .free)))&&
 a.all (λy=>sc.names.lookup y !=some .local)&&(N.length==a.length&&(N.zip a).all (λp=>p.1==p.2||sc.names.lookup p.2==none))
structure gh(sc S8:Scope)(N N' xs:List Str):Prop where
 kind:sc.kind=.function
 own:∀x∈xs,sc.names.lookup x=some .local/\x∉N'
 zp:∀p∈sc.names,p.2≠.cell
 loc:∀p∈sc.names,p.2=.local->sc.names.lookup p.1=some .local
 free:∀p∈sc.names,p.2=.free->S8.names.lookup p.1=some .cell/\sc.names.lookup p.1=some .free
 out:∀y∈N',sc.names.lookup y≠some .local
 len:N.length=N'.length
 pair:∀(i:Nat)(y:Str),N'[i]?=some y->sc.names.lookup y≠none->N[i]?=some y
theorem gh.of(h:dI sc l N b d=true):gh sc l N b d:=by
 unfold dI at h;simp only[DL,T2,uj,bne_iff_ne,Qb,xt,ne_eq]at h;obtain⟨⟨⟨⟨s,k⟩,c⟩,r⟩,q,o⟩:=h;refine⟨s,λx g=>⟨(k x g).1,λz=>?_⟩,λp a=>(c p a).1.1,λp a e=>?_,λp a e=>?_,r,q,λi y f m=>?_⟩
 .have:=(k x g).2;rw[List.contains_eq_mem]at this;simp[z]at this
 .rcases(c p a).1.2 with z|z
  .exact absurd e z
  .exact z
 .rcases(c p a).2 with z|z
  .exact absurd e z
  .exact z
 .have t:i<b.length:=(Fu.mp f).1;have j:N[i]?=some (N[i]'(by lia)):=D2 (by lia);have n:(N[i]'(by lia),y)∈N.zip b:=by refine Mo (i:=i) ?_;rw[List.getElem?_zip_eq_some];exact⟨j,f⟩
  rcases o _ n with z|z
  .rw[j];exact SU some z
  .exact absurd z m
noncomputable def aR(X:Cx)(a:Scope)(C:Addr)(b d:List Str)(s:Shared)(H:Hp)(c:List Addr):Cx:=
 {X with N:=b++d,s₀:=s,H₀:=H,env:=compEnvC a (mU X.env.cells a.names []) C X.env,outer:=X.stack,stack:=X.stack,ex:=c,fn:=λy=>b.contains y,pn:=[],xe:=λ_ _=>False}
section
variable{X:Cx}{pins:List (Addr×Obj)}{σ:St}{H:Hp}{s:Shared}{scope:Scope}{xs N':List Str}{fp:List Addr}
theorem jR(I:Inv X pins σ H s)(O:gh scope X.env.scope X.N N' xs):∀p∈scope.names,p.2=.free->∃c,X.env.cells.lookup p.1=some c:=λp a e=>I.ok.has p.1 (.inl (O.free p a e).1)
theorem gy(I:Inv X pins σ H s)(O:gh scope X.env.scope X.N N' xs)(y:Str):(relabel scope X.env).names.lookup y=(scope.names.lookup y).map λk=>if k=.free then NameKind.cell else k:=by
 unfold relabel;show(List.map _ scope.names).lookup y=_;rw[iP I.ok.kind];cases e:scope.names.lookup y with
 |none=>rfl
 |some k=>
  rw[Ij,Ij];by_cases a:k=.free
  .subst a;have:=(O.free (y,.free) (Tb e) rfl).1;have b:X.env.kindOf y=some .cell:=this;rw[b];rfl
  .rw[Bz a,Bz (by simp[a])]
theorem EL(I:Inv X pins σ H s)(O:gh scope X.env.scope X.N N' xs)(B:∀b∈fp,pD X pins H b)(F:∀b∈fp,b<s.heap.objs.size)
 (hn:n.Ns s.heap.objs.size Q)(g:∀b o,s.heap.get? b=some o->n.get? b=some o):
 Inv (aR X scope s.heap.objs.size xs N' s H fp) [] (xs.map (λ_=>none)++σ) H {s with heap:=n,toks:=T}:=by
 have f:=xq (cells:=X.env.cells) scope.names [] (jR I O) (λy c z=>nomatch z);refine⟨⟨I.ok.mod,?_,I.ok.glob,I.ok.blt,FC _,λx y c n J=>I.ok.inj x y c (f x c n) (f y c J),λy D=>?_,λy c n J=>?_,I.ok.hd,I.ok.frames,.inl rfl,λb j=>⟨Ts (F b j),λx c e=>(B b j).2.2.2.2.1 x c (f x c e)⟩,
  I.bs,Do I.ok.II I.sz,λb o e j=>?_,λb j z=>?_,I.stack,I.jj,I.ok.tree,I.ok.Xh⟩,rfl,I.bare,Un.kept g,⟨Q,hn,λi y v e1 h e3=>?_⟩,λy c e=>?_,I.hok.fresh (FC _),λy c e=>I.jI y c (f y c e),λp Y=>absurd (show p∈([]:List (Addr×Obj))from Y) (by simp),I.hok.kept g,?_⟩
 .show scope.kind=_;exact O.kind
 .have d:(relabel scope X.env).names.lookup y=some .cell\/(relabel scope X.env).names.lookup y=some .free:=D;rw[gy I O]at d;have a:scope.names.lookup y=some .free:=by
   cases e:scope.names.lookup y with
   |none=>rw[e]at d;rcases d with z|z<;>cases z
   |some k=>
    rw[e]at d;by_cases g:k=.free
    .rw[g]
    .rw[Ij,Bz g]at d;rcases d with z|z
     .have:k=.cell:=Pm z;exact absurd this (O.zp (y,k) (Tb e))
     .exact absurd (Pm z) g
  exact eI.mp (pO scope.names [] y (.inr (Tb a)))
 .have G:(mU X.env.cells scope.names []).lookup y=some c:=J;have D:y∈xs:=by have K:xs.contains y=true:=n;simpa using K
  rcases tS scope.names [] y c G with⟨_,z⟩|z
  .cases z
  .have P:=(O.free (y,.free) z rfl).2;rw[(O.own y D).1]at P;cases P
 .have S:X.base.get? b=some o:=e;rcases(B b j).2.2.2.1 with z|z
  .exact I.ok.D7 b o S z
  .exact absurd (Fm (KF S) (Do I.ok.II z)) (Xt _)
 .rcases IH.mp (I.yK b z)with q|q
  .exact(B b j).2.1 q
  .exact(B b j).2.2.1 q
 .have M:(xs++N')[i]?=some y:=e1;by_cases R:i<xs.length
  .rw[QP (by simpa using R),FR]at h;cases q:xs[i]? with
   |none=>rw[q]at h;cases h
   |some z=>rw[q]at h;cases h
  .rw[NM (by simpa using R)]at h;rw[NM (by lia)]at M;rw[Bi]at h;have C:y∈N':=Mo M;have t:Uh (relabel scope X.env) y:=e3;unfold Uh at t;rw[gy I O]at t;have a:scope.names.lookup y=some .free:=by
    cases e:scope.names.lookup y with
    |none=>rw[e]at t;rcases t with z|z|z<;>cases z
    |some k=>
     rw[e]at t;by_cases g:k=.free
     .rw[g]
     .rw[Ij,Bz g]at t;rcases t with z|z|z
      .have:k=.local:=Pm z;subst this;exact absurd e (O.out y C)
      .have:k=.cell:=Pm z;exact absurd this (O.zp (y,k) (Tb e))
      .exact absurd (Pm z) g
   have A:=(O.free (y,.free) (Tb a) rfl).1;obtain⟨m,Z,hl⟩:=I.loc;have L:=O.pair _ y M (by rw[a];simp);obtain⟨u,r,l⟩:=hl _ y v L h (.inr (.inl A));refine⟨u,r,?_⟩;rcases l with⟨U,_⟩|⟨_,c,hc,o,E,hd⟩
   .have:X.env.scope.names.lookup y=some .local:=U;rw[A]at this;cases this
   .refine .inr ⟨.inl ?_,c,?_,o,g c o E,hd⟩
    .show(relabel scope X.env).names.lookup y=_;rw[gy I O,a];rfl
    .obtain⟨c',w⟩:=eI.mp (pO (cells:=X.env.cells) scope.names [] y (.inr (Tb a)));have q:=f y c' w;rw[hc]at q;show(mU X.env.cells scope.names []).lookup y=some c;rw[w,<-Pm q]
 .obtain⟨v,o,E,hd⟩:=I.cell y c (f y c e);exact⟨v,o,g c o E,hd⟩
 .show(xs.map (λ_=>none)++σ).length=(xs++N').length;rw[KB,KB,Bi,I.len,O.len]
end
def PF(X:Cx)(d:List Expr)(t:TT):Prop:=
 ∀(a:List (Addr×Obj))(s:Shared)(b:St)(H:Hp)(Q:Bool->Hp->Prop),Inv X a b H s->t b H Q->
  wpAny (model X.prog X.w) X.A (forIn d true λc r=>if r=true then do let ok<-isTrue c X.env (eval c X.env);pure (Ii ok)else pure (Ii r)) (TP X a b Q) X.xe s
def YM:TT:=λ_ H Q=>Q true H
theorem Oo:PF X [] YM:=λ_ _ _ H _ I h=>wpAny_tests_nil ⟨H,I,h⟩
theorem Oq(h:PT X c t):PF X [c] t:=λa s b H Q I q=>wpAny_tests_one (h a s b H Q I q)
def EM(k:Nat)(q:TI)(g:TG)(tc:TT)(te:TE):TE:=λe H Q=>q e H λJ p=>∀D,p D=none->∃W:Nat->Nat->Hp->Prop,(∃m,W 0 m (upd p D (.lst [])))/\∀i m d,W i m d->
 (J.stop i d/\Q (.ref D) d)\/(J.go i d/\∀x o,J.Uv i d x o->∀j:List (Option V),j.length=k->g x (j++e) o λa r=>∃h:List (Option V),h.length=k/\a=h++e/\
   tc a r λb n=>if b=true then te a n λy l=>∃f,l D=some (.lst f)/\f.length<sizeLine/\∃c,c<m/\W (i+1) c (upd l D (.lst (f++[y])))else∃c,c<m/\W (i+1) c n)
theorem uJ(I:Nat->Shared->Prop)
 (z:∀n s,I n s->wpAny (model prog w) A (pyNext E) (λr e=>match r with
   |none=>R (.ok .next) e
   |some v=>wpAny (model prog w) A (letOwnedTupleGo a E v) (λ_ d=>wpAny (model prog w) A (assign a env v) (λ_ k=>
     wpAny (model prog w) A (forIn q true λc r=>if r=true then do let ok<-isTrue c env (eval c env);pure (Ii ok)else pure (Ii r)) (λok b=>
      if ok=true then wpAny (model prog w) A (eval u env) (λx j=>wpAny (model prog w) A (call (.builtin "list.append") [y,x]) (λ_ i=>∃m,m<n/\I m i) (λ_ _=>False) j) (λ_ _=>False) b
      else∃m,m<n/\I m b) (λ_ _=>False) k) (λ_ _=>False) d) (λ_ _=>False) e) (λ_ _=>False) s)
 (n:Nat)(h:I n s):
 codeAny (model prog w) A (.compLoop (.ListComp u [⟨a,l,q,0⟩] f pos) 0 E y env) R s:=by
 refine codeAny_loop rfl I (λn s F=>?_) n h;show wpAny _ A ((compTurn (.ListComp u [⟨a,l,q,0⟩] f pos) 0 E y env).onRaise (λx=>do noteFrame x env;theTreesLotGoes x)) _ _ s;refine wpAny_noted ?_;rw[compTurn_list];refine Hn (wpAny_standAt (Hn (sv (z n s F) (λr e p=>?_) λ_ _ g=>g.elim)));cases r with
 |none=>exact P3 p
 |some v=>
  refine Hn (sv p (λ_ d t=>?_) λ_ _ g=>g.elim);refine Hn (sv t (λ_ k D=>Hn (sv D (λok b o=>?_) λ_ _ g=>g.elim)) λ_ _ g=>g.elim);cases ok with
  |false=>exact P3 ⟨rfl,o⟩
  |true=>exact Hn (Hn (sv o (λx j C=>Hn (sv C (λ_ i B=>P3 (P3 ⟨rfl,B⟩)) λ_ _ g=>g.elim)) λ_ _ g=>g.elim))
section
variable{X:Cx}
theorem pP{tc:TT}{te:TE}(hc:X.calm=true)(O:gh scope X.env.scope X.N H t)
 (hg:∀C s0 H0 l,PG (aR X scope C t H s0 H0 l) tg g)(hf:∀C s0 H0 l,PF (aR X scope C t H s0 H0 l) U tc)(he:∀C s0 H0 l,PE (aR X scope C t H s0 H0 l) Z te)
 {v:List (Addr×Obj)}{B:St}{H1:Hp}{f:Shared}{it:Addr}{l:List Addr}{tn:Nat->Heap->Prop}{J:It}{Q:VK}{E:Value->Shared->Prop}{RR:Value->Addr->Result->Shared->Prop}
 (I2:Inv X v B H1 f)(T:Turn X.prog X.w X.K tg J l it tn)(st2:tn 0 f.heap)(f2:∀b∈l,pD X v H1 b)
 (h:∀D,H1 D=none->∃W:Nat->Nat->Hp->Prop,(∃m,W 0 m (upd H1 D (.lst [])))/\∀i m H2,W i m H2->
   (J.stop i H2/\Q (.ref D) H2)\/(J.go i H2/\∀x H3,J.Uv i H2 x H3->∀F:List (Option V),F.length=t.length->g x (F++B) H3 λS H4=>∃L:List (Option V),L.length=t.length/\S=L++B/\
     tc S H4 λb I=>if b=true then te S I λy H6=>∃ys,H6 D=some (.lst ys)/\ys.length<sizeLine/\∃G,G<m/\W (i+1) G (upd H6 D (.lst (ys++[y])))else∃G,G<m/\W (i+1) G I))
 (hRR:∀D C s' H',(∃m,s'.heap.Ns C m)->(∀h',Heap.SameBut C s'.heap h'->Inv X v B H' {s' with heap:=h'})->f.heap.objs.size<=D->f.heap.objs.size<=C->H' C=none->Q (.ref D) H'->RR (.ref D) C (.ok .next) s'):
 wpAny (model X.prog X.w) X.A (newList []) (λacc s₃=>wpAny (model X.prog X.w) X.A (newFunctionEnv scope X.env.globals (mU X.env.cells scope.names []) [] X.env.qual none .none (some X.env)) (λR s₄=>codeAny (model X.prog X.w) X.A (.compStart (.ListComp Z [⟨tg,P,U,0⟩] scope pos) 0 (.ref it) acc {R with scope:=relabel scope X.env}) (RR acc R.locals) s₄) E s₃) E f:=by
 refine oP (wpAny_newFunctionEnv O.zp (by intro y hy;simp at hy) (λs EN EO=>?_) O.kind);dsimp only at EN EO⊢;have hD:H1 f.heap.objs.size=none:=I2.hok.fresh (FC _);obtain⟨W,⟨m0,w0⟩,turn⟩:=h f.heap.objs.size hD;have I3:Inv X v B (upd H1 f.heap.objs.size (.lst [])) {f with heap:=f.heap.push {cls:=.type "list",dict:=none,data:=.seq ([]:List Value).toArray}}:=
  I2.laid (t':=f.toks) (λb u e=>He _ e) (FC _) ⟨Os _,[],0,.nil,Sr _ rfl⟩
 have S9:∀b∈l,b<f.heap.objs.size:=λb j=>by obtain⟨o,e,_⟩:=T.obj _ _ st2 b j;exact KF e
 have f3:∀b∈l,pD X v (upd H1 f.heap.objs.size (.lst [])) b:=λb j=>by obtain⟨q0,q⟩:=f2 b j;exact⟨by rw[ay (Ts (S9 b j))];exact q0,q⟩
 generalize Tc:({f with heap:=f.heap.push {cls:=.type "list",dict:=none,data:=.seq ([]:List Value).toArray}}:Shared)=k at I3;have tU:k.heap=f.heap.push {cls:=.type "list",dict:=none,data:=.seq ([]:List Value).toArray}:=by rw[<-Tc]
 have Y:k.heap.objs.size=f.heap.objs.size+1:=by rw[tU,Heap.size_push]
 have old:∀b o,k.heap.get? b=some o->s.get? b=some o:=λb o e=>EO.extBut b o (by rw[<-tU];exact Ts (KF e)) (He _ (by rw[<-tU];exact e));have J4:Inv (aR X scope k.heap.objs.size t H k (upd H1 f.heap.objs.size (.lst [])) l) [] (t.map (λ_=>none)++B) (upd H1 f.heap.objs.size (.lst [])) {k with heap:=s,toks:=f.toks+([]:List (Str×Value)).length}:=
  EL I3 O f3 (λb j=>by rw[Y];exact fo (S9 b j)) (by rw[tU];exact EN) old
 have es4:({k with heap:=s,toks:=f.toks+([]:List (Str×Value)).length}:Shared)={f with heap:=s,toks:=f.toks+([]:List (Str×Value)).length}:=by rw[<-Tc]
 rw[es4]at J4;have st4:tn 0 s:=T.keep _ _ _ st2 λb j o e=>old b o (by rw[tU];exact He _ e);have hC:(f.heap.push {cls:=.type "list",dict:=none,data:=.seq ([]:List Value).toArray}).objs.size=k.heap.objs.size:=by rw[tU]
 have YN:∀{H':Hp},(∀b∈l,H' b=none)->∀b∈l,pD (aR X scope k.heap.objs.size t H k (upd H1 f.heap.objs.size (.lst [])) l) [] H' b:=λhn b j=>⟨hn b j,Ts (by rw[Y];exact fo (S9 b j)),J4.ok.D8 b j,.inl j,λx c e=>((J4.ok.X6 b j).2 x c e),λp hp=>absurd (show p∈([]:List (Addr×Obj))from hp) (by simp)⟩;have M:codeAny (model X.prog X.w) X.A (.compLoop (.ListComp Z [⟨tg,P,U,0⟩] scope pos) 0 (.ref it) (.ref f.heap.objs.size) (compEnvC scope (mU X.env.cells scope.names []) k.heap.objs.size X.env))
  (RR (.ref f.heap.objs.size) k.heap.objs.size) {f with heap:=s,toks:=f.toks+([]:List (Str×Value)).length}:=by
  refine uJ (λn s'=>∃(i:Nat)(F:List (Option V))(H':Hp),F.length=t.length/\Inv (aR X scope k.heap.objs.size t H k (upd H1 f.heap.objs.size (.lst [])) l) [] (F++B) H' s'/\tn i s'.heap/\(∀b∈l,H' b=none)/\W i n H') ?_ m0
   ⟨0,t.map (λ_=>none),_,Bi _,J4,st4,λb j=>(f3 b j).1,w0⟩
  rintro n s5 ⟨i,F,I,hv0,I5,S7,Xk,w5⟩;rcases turn i n I w5 with⟨stop,qn⟩|⟨go,step⟩
  .refine cC (T.done (aR X scope k.heap.objs.size t H k (upd H1 f.heap.objs.size (.lst [])) l) rfl rfl rfl hc i [] s5 (F++B) I _ I5 (YN Xk) S7 stop) ?_;rintro r s6 ⟨hr,I6⟩;subst hr;obtain⟨m,hnm,_⟩:=I6.loc;refine hRR _ _ s6 I ⟨m,hnm⟩ (λh' MJ=>?_) (FC _) (by rw[Y];exact xi _) I6.free qn;have YO:∀b o,k.heap.get? b=some o->b≠k.heap.objs.size:=λb o e=>Ts (KF e);have u:=I6.base;have I3':=I3.D9 (s':={s6 with heap:=h'}) (H':=I) (ch:=l) I6.os ⟨λb o e n j hx=>MJ.extBut b _ (YO b o e) (u.keep b o e n j hx),λb o e n j hx=>by
    obtain⟨sl,q⟩:=u.slot b o e n j hx;exact⟨sl,MJ.extBut b _ (YO b o e) q⟩,u.free,λb o e hx=>by
    obtain⟨o',q⟩:=u.there b o e hx;exact⟨o',MJ.extBut b _ (YO b o e) q⟩,u.tups,u.mK,u.n9⟩ (λa o e=>?_) I6.bare (λb j=>?_)
   .exact I3'
   .have hnC:∀b u,I b=some u->b≠k.heap.objs.size:=λb u e z=>by subst z;have:=I6.free;have e2:I k.heap.objs.size=none:=this;rw[e2]at e;cases e
    refine(I6.hok a o e).stay (λb u j q=>MJ.extBut b u ?_ q) (λ_ q=>q) λ_ _ q=>q;rcases j with rfl|j
    .exact hnC _ _ e
    .exact hnC _ _ j
   .obtain⟨q0,q1,q2,q3,q4,q5⟩:=f3 b j;exact⟨q3,q1,q4,q5⟩
  .refine cC (T.item (aR X scope k.heap.objs.size t H k (upd H1 f.heap.objs.size (.lst [])) l) rfl rfl rfl hc i [] s5 (F++B) I _ I5 (YN Xk) S7 go) ?_;rintro r s6 ⟨u,hr,h6⟩;subst hr;refine cC h6 ?_;rintro _ s7 ⟨x,H7,I7,r7,y7,YQ,fr7⟩;have I7':=I7.pinned (YN fr7) (T.obj _ _ YQ);refine cC (hg _ _ _ _ _ s7 (F++B) H7 x u _ I7' r7 (step x H7 y7 F hv0)) ?_;rintro _ s8 ⟨σ8,H8,I8,L,hv1,e8,q8⟩;subst e8;have fin:∀{s9:Shared}{H9:Hp},Inv (aR X scope k.heap.objs.size t H k (upd H1 f.heap.objs.size (.lst [])) l) ([]++pG l s7.heap) (L++B) H9 s9->(∃G,G<n/\W (i+1) G H9)->
    ∃m,m<n/\∃(i:Nat)(F:List (Option V))(H':Hp),F.length=t.length/\Inv (aR X scope k.heap.objs.size t H k (upd H1 f.heap.objs.size (.lst [])) l) [] (F++B) H' s9/\tn i s9.heap/\(∀b∈l,H' b=none)/\W i m H':=λ{s9 H9} I9 ⟨G,hm,w9⟩=>by
    refine⟨G,hm,i+1,L,H9,hv1,I9.kK,T.keep _ _ _ YQ λb j o e=>(I9.pin (b,o) (NA _ (NA _ (gR j e)))).1,λb j=>?_,w9⟩;obtain⟨o,e,d⟩:=T.obj _ _ YQ b j;exact(I9.pin (b,o) (NA _ (NA _ (gR j e)))).2.1
   refine cC (hf _ _ _ _ _ s8 (L++B) H8 _ I8 q8) ?_;rintro ok s9 ⟨H9,I9,q9⟩;cases ok with
   |false=>exact fin I9 q9
   |true=>show wpAny _ _ _ _ _ _;refine cC (he _ _ _ _ _ s9 (L++B) H9 _ I9 q9) ?_;rintro y s10 ⟨vy,H10,I10,r10,ys,hys,hl,q10⟩;refine cC (tO (X:=aR X scope k.heap.objs.size t H k (upd H1 f.heap.objs.size (.lst [])) l) _ s10 (L++B) H10 (.ref f.heap.objs.size) [vy] _ [y] (λ_ H'=>∃G,G<n/\W (i+1) G H') I10 rfl (.cons r10 .nil) ⟨_,ys,vy,rfl,rfl,hys,hl,q10⟩) ?_;rintro _ s11 ⟨_,H11,I11,_,q11⟩;exact fin I11 q11
 rw[hC];exact codeAny_compStart_list M (T.self X.A 0 _ _ _ st4 M)
theorem Jj(d l:List Str)(K:X.calm=true)(y:dI scope X.env.scope X.N l d=true)(hi:PI X tg a r)
 (E:∀C f k c,PG (aR X scope C d l f k c) tg g)(F:∀C f k c,PF (aR X scope C d l f k c) i tc)(G:∀C f k c,PE (aR X scope C d l f k c) j te)
 (u:∀z,foldedSetIterable a X.env z=pure z:=by intro _;rfl):PE X (.ListComp j [⟨tg,a,i,0⟩] scope pos) (EM d.length r g tc te):=by
 intro b s p H Q I h;have O:=gh.of y;rw[eval_ListComp];refine wpAny_comprehension_free (use:=none) rfl u (pN (jR I O)) O.kind O.loc (cC (hi b s p H _ I h) λv s1 P=>cC P λt s2 M=>?_);obtain⟨it,c,tn,J,H2,e,Y,T,n,S,x⟩:=M;subst e;refine pP (RR:=λo C=>compPost (model X.prog X.w) X.A X.xe none (EP X b p Q) o C) K O E F G Y T n S x ?_;rintro D C s' Z ⟨m,B⟩ L _ _ _ q;exact⟨m,B,λR U=>⟨.ref D,Z,L R U,rfl,q⟩⟩
theorem Jk{d pos t:Pos}(F P:List Str){wi:TI}{g:TG}{tc:TT}{te:TE}(hN:X.N.Nodup)(hi:X.N[i]?=some x)(B:Loc X.env.scope x)(hc:X.calm=true)(ho:dI scope X.env.scope X.N P F=true)(UZ:PI X tg f wi)
 (hg:∀C K M G,PG (aR X scope C F P K M G) tg g)(hf:∀C K M G,PF (aR X scope C F P K M G) k tc)(he:∀C K M G,PE (aR X scope C F P K M G) r te)
 (Z:swapsWith (.ListComp r [⟨tg,f,k,0⟩] scope pos) (some (.Name x d)) t.line X.env=pure true:=by rfl)
 (hs:∀z,foldedSetIterable f X.env z=pure z:=by intro _;rfl)(hfn:X.fn x=true\/X.env.scope.names.lookup x=some .local:=by first|exact .inl rfl|exact .inr rfl|assumption):
 PS X (.Assign [.Name x d] (.ListComp r [⟨tg,f,k,0⟩] scope pos) t) (pC (EM F.length wi g tc te) (iH i)):=by
 intro j s R H W I h;have O:=gh.of ho;rw[exec_Assign_Name_used _ _ _ _ Z];refine Hn (wpAny_standAt (Hn ?_));show wpAny _ X.A (do let _<-comprehension (.ListComp r [⟨tg,f,k,0⟩] scope pos) scope X.env _ (newList []) false (eval f X.env) (some (assign (.Name x d) X.env))) _ _ s;refine Hn (sv (wpAny_comprehension_free (use:=some (assign (.Name x d) X.env)) (Q:=λ_ s'=>SP X j W .next s') rfl hs (pN (jR I O)) O.kind O.loc (cC (UZ j s R H _ I h) λv s1 h1=>cC h1 λitv s2 h2=>?_)) (λ_ s' hq=>P3 (P3 hq)) λ_ _ e=>e);obtain⟨it,G,tn,J,H2,e,L,T,S,f2,hq⟩:=h2;subst e;refine pP (Q:=λx H1=>iH i x R H1 W.nx) (RR:=λacc C=>compPost (model X.prog X.w) X.A X.xe (some (assign (.Name x d) X.env)) (λ_ s'=>SP X j W .next s') acc C) hc O hg hf he L T S f2 hq ?_;rintro D C s' H' ⟨m,hm⟩ hI _ hC fC q;have I':Inv X j R H' s':=hI s'.heap ⟨rfl,λ_ _=>rfl⟩;have Y:∀b o,s2.heap.get? b=some o->b≠C:=λb o e=>Ts (Fm (KF e) hC);have nL:C≠X.env.locals:=λe=>by obtain⟨m2,hn2,_⟩:=L.loc;obtain⟨o,_,_,ho2,_⟩:=hn2;exact Y _ o ho2 e.symm
 have nC:∀y c,X.env.cells.lookup y=some c->c≠C:=λy c e z=>by obtain⟨v,o,e1,_⟩:=L.cell y c e;exact Y _ o e1 z
 have nP:∀p∈X.pn++j,p.1≠C:=λp hp z=>Y _ _ (L.pin p hp).1 z;show wpAny _ X.A (assign (.Name x d) X.env (.ref D)) _ _ _;refine wpAny_assign_Name (tF I' hN hi B (v:=.ref D) rfl (λU YR hsm=>?_) hfn);obtain⟨a,MJ,ha⟩:=hsm;have aC:a≠C:=by
  rcases ha with rfl|ha
  .exact gN nL
  .exact nC x a ha
 refine⟨m,hm.sameBut MJ (gN aC),λh' l=>⟨_,H',?_,q⟩⟩;refine YR.D9 (s':={U with heap:=h'}) (H':=H') (ch:=[C]) rfl ⟨λb o e n E B=>l.extBut b o (λz=>B (by rw[z];exact Fh.mpr rfl)) e,λb o e n E B=>⟨o.slots,l.extBut b o (λz=>B (by rw[z];exact Fh.mpr rfl)) e⟩,λb o e n B=>n,λb o e B=>⟨o,l.extBut b o (λz=>B (by rw[z];exact Fh.mpr rfl)) e⟩,λb F q=>q,λb o u q=>q,λb ps q=>⟨#[],by rw[Array.append_empty];exact q⟩⟩ (λa o e=>?_) YR.bare (λb E=>?_)
 .refine(YR.hok a o e).stay (λb u E q=>l.extBut b u ?_ q) (λ_ q=>q) λ_ _ q=>q;rintro rfl;rcases E with rfl|E
  .rw[fC]at e;cases e
  .rw[fC]at E;cases E
 .rw[Fh.mp E];exact⟨.inr (Do L.sz hC),nL,λy c e z=>nC y c e z,nP⟩
theorem Jl:Yz X "int.bit_length" (λx b H Q=>∃i:Int,x=.int i/\b=[]/\Q (.int (Builtin.Int.intBits i:Nat)) H):=by intro a s c H x b v e Q I d rv h;obtain⟨i,rfl,rfl,q⟩:=h;obtain⟨t,rfl⟩:=d;cases rv;exact call_gives F.slot_int_bit_length (typeIs_int s i t) F.entry_int_bit_length (F.args_int_bit_length_1 _) (PySem.AutoIntG2.int_bit_length_int_0 i t) (show EP X a c Q (.int _ _) _ from⟨.int _,H,I.tok _,⟨_,rfl⟩,q⟩)
noncomputable def Xn(lo st:Int)(n:Nat):It:=⟨λi _=>i<n,λi H x a=>a=H/\x=.int (lo+i*st),λi _=>n<=i⟩
theorem xr{K:Frag}(c:Addr)(lo st:Int)(n:Nat):Turn P w K tg (Xn lo st n) [c] c (λi h=>IsRangeIter h c (lo+(i:Nat)*st) ((n:Int) -(i:Nat)) st)where
 mem:=by simp
 obj:=λi h st b d=>by
  have e:b=c:=by simpa using d
  subst e;exact⟨_,st,λv z=>by have G:Data.fields _=Data.cell v:=z;cases G⟩
 keep:=λi h j st k=>k c (by simp) _ st
 item:=by intro X q l r p i a s D H E I g C m;subst q l r;obtain⟨B,A,M,y,x,u⟩:=g c (by simp);have W:=Walks.range (prog:=X.prog) (w:=X.w) (I.ok.hd p) c lo st n;refine W.item i s _ _ m C λv j F L f J=>?_;obtain⟨t,rfl⟩:=L;have I1:Inv X a D H {s with heap:=j,toks:=F}:=I.turned (λb o d e=>J b o (by simpa using d) e) B A y x u;exact⟨_,rfl,wX (s:={s with heap:=j,toks:=F}) (n:="range_iterator") f rfl rfl (by decide) ⟨.int (lo+i*st),H,I1,⟨t,rfl⟩,⟨rfl,rfl⟩,f,λb d=>(g b d).1⟩⟩
 done:=by intro X q l r p i a s D H E I g C m;subst q l r;obtain⟨B,A,M,y,x,u⟩:=g c (by simp);exact wpAny_pyNext_range_end (I.ok.hd p) C (by have:n<=i:=m;lia) λj N=>⟨rfl,I.turned (t':=s.toks) (λb o d e=>N b o d e) B A y x u⟩
 self:=λ_ _ _ _ _ st h=>wpAny_pyIter_rangeiter st h
theorem CN{c:St}{E:Value->Shared->Prop}{lo hi st:Int}{n:Nat}{t u v:Tok}{d:Nat}(I:Inv X a c H s)(f:Builtin.Range.small lo hi st=true)(g:Builtin.Range.rangeSize lo hi st=(n:Int))
 (q:R (Xn lo st n) H):wpAny (model X.prog X.w) X.A (pyIter (.ref s.heap.objs.size)) (Ym X a c tg R) E {s with heap:=s.heap.push {cls:=.type "range",data:=.fields #[.int lo t,.int hi u,.int st v]},toks:=d}:=by
 refine wpAny_pyIter_range (IsRange.new ..) f ?_;have I1:Inv X a c H {s with heap:=s.heap.push {cls:=.type "range",data:=.fields #[.int lo t,.int hi u,.int st v]},toks:=d}:=I.kept λb o e=>He _ e;refine⟨(s.heap.push {cls:=.type "range",data:=.fields #[.int lo t,.int hi u,.int st v]}).objs.size,[(s.heap.push {cls:=.type "range",data:=.fields #[.int lo t,.int hi u,.int st v]}).objs.size],_,_,H,rfl,
  I1.kept (t':=d) λb o e=>He _ e,xr _ lo st n,?_,λb h=>?_,q⟩
 .have j:lo+((0:Nat):Int)*st=lo:=by simp
  have i:(n:Int) -((0:Nat):Int)=Builtin.Range.rangeSize lo hi st:=by rw[g];simp
  show IsRangeIter _ _ (lo+((0:Nat):Int)*st) ((n:Int) -((0:Nat):Int)) st;rw[j,i];exact Sr _ rfl
 .have e:b=(s.heap.push {cls:=.type "range",data:=.fields #[.int lo t,.int hi u,.int st v]}).objs.size:=by simpa using h
  subst e;exact I1.yN (FC _) (I1.hok.fresh (FC _))
def U0(ta:TA):TI:=λa H R=>ta a H λb c=>∃(i j k:Int)(n:Nat),b=[.int i,.int j,.int k]/\(k≠0/\k.natAbs<1073741824/\Builtin.Range.small i j k=true/\Builtin.Range.rangeSize i j k=(n:Int))/\R (Xn i k n) c
theorem CO{tg a b c:Expr}{p pos:Pos}(C:Gl X "range")(B:X.mg "range"=none)(D:PA X [a,b,c] ta)(A:starEach [a,b,c] X.env=[(false,eval a X.env),(false,eval b X.env),(false,eval c X.env)]:=by rfl)(g:starEach [b,c] X.env=[(false,eval b X.env),(false,eval c X.env)]:=by rfl):
 PI X tg (.Call (.Name "range" p) [a,b,c] [] pos) (U0 ta):=by
 intro f s o H R I h;refine Call_ (jO I C B boot_range (d6 (cC (D pos f s o H _ I h) λF J ⟨E,K,I1,v,m⟩=>?_) (by rw[A,g]) (by rw[g];rfl)));obtain⟨i,j,k,n,e,⟨m,z,y,x⟩,q⟩:=m;subst e;cases v with
 |cons r d=>
  cases d with
  |cons w d=>
   cases d with
   |cons l d=>
    cases d;obtain⟨t,rfl⟩:=r;obtain⟨G,rfl⟩:=w;obtain⟨u,rfl⟩:=l;exact call_range_3 m (CN I1 y x q) (.inl (Wc z))
end
end L2
namespace L2
open PySem
end L2
namespace L2
open PySem PySem.Spec PyProof.Rows
def Dt(X:Cx)(H:Hp)(x:V)(d:PyData):Prop:=
 ∀(a:List (Addr×Obj))(b:St)(s:Shared)(u:Value),Inv X a b H s->RelV x u->∃c,Reads s.heap u d c
section
variable{X:Cx}{H:Hp}
theorem Ot(i:Int):Dt X H (.int i) (.int i):=λ_ _ s u _ r=>by obtain⟨t,rfl⟩:=r;exact⟨_,.int i t⟩
theorem U1(b:Bool):Dt X H (.bl b) (.bool b):=λ_ _ s u _ r=>by
 cases(show u=Value.bool b from r);exact⟨_,.bool b⟩
theorem Ou:Dt X H .cu .none:=λ_ _ s u _ r=>by
 cases(show u=Value.none from r);exact⟨_,.none⟩
theorem zu{d:St}(I:Inv X a d H s):∀{b:List V}{ds:List PyData}{us:List Value},Paired (Dt X H) b ds->Vals b us->∃c,ReadsAll s.heap us ds c
 |_,_,_,.nil,.nil=>⟨_,.nil⟩
 |_,_,_,.cons h t,.cons r e=>by obtain⟨c,q⟩:=h _ _ _ _ I r;obtain⟨g,f⟩:=zu I t e;exact⟨_,.cons q f⟩
theorem ES(h:jA X.K H a c)(b:Paired (Dt X H) c ds):Dt X H (.ref a) (.list ds):=λ_ _ s u I r=>by
 cases(show u=Value.ref a from r);obtain⟨e,rv,d,_⟩:=I.list h;obtain⟨j,q⟩:=zu I b rv;obtain⟨o,f,i,n,g⟩:=d.isList;exact⟨_,.list f i g (by simpa using q)⟩
theorem Ov(h:mP X.K H a c)(b:Paired (Dt X H) c ds):Dt X H (.ref a) (.tuple ds):=λ_ _ s u I r=>by
 cases(show u=Value.ref a from r);obtain⟨d,rv,e,_⟩:=I.tuple h;obtain⟨j,q⟩:=zu I b rv;obtain⟨o,f,i,n,g⟩:=e;exact⟨_,.tuple f i g (by simpa using q)⟩
def YT(X:Cx):R2:=λx y H Q=>∃b a,Dt X H x b/\Dt X H y a/\(SeqAt.shaped b=true/\SeqAt.shaped a=true/\SeqAt.noMix b a=true)/\Q (.bl (PySem.Spec.same b a)) H
def YU(X:Cx):R2:=λx y H Q=>∃b a,Dt X H x b/\Dt X H y a/\(SeqAt.shaped b=true/\SeqAt.shaped a=true/\SeqAt.noMix b a=true)/\Q (.bl (!PySem.Spec.same b a)) H
theorem Ow(j:X.A.units+64<cLine):rZ X (compareOp .Eq) (YT X):=by intro a s m H x y v u Q I c b h;obtain⟨o,n,l,k,⟨i,g,f⟩,q⟩:=h;obtain⟨r,e⟩:=l _ _ _ _ I c;obtain⟨p,d⟩:=k _ _ _ _ I b;exact eq_dataH_same e d i g j f ⟨.bl _,H,I,rfl,q⟩
theorem Ox(j:X.A.units+64<cLine):rZ X (compareOp .NotEq) (YU X):=by intro a s m H x y v u Q I c b h;obtain⟨o,n,l,k,⟨i,g,f⟩,q⟩:=h;obtain⟨r,e⟩:=l _ _ _ _ I c;obtain⟨p,d⟩:=k _ _ _ _ I b;exact ne_dataH_same e d i g j f ⟨.bl _,H,I,rfl,q⟩
end
noncomputable def YV(K:Frag)(a:Addr):It:=⟨λi H=>∃b x,jA K H a b/\b[i]?=some x,λi H x c=>∃p y,H p=none/\x=.ref p/\c=upd H p (.tup [.int i,y])/\∀b,jA K H a b->b[i]?=some y,λi H=>∃b,jA K H a b/\b.length=i⟩
theorem Inv.U3{t:St}{t':Nat}{ch:List Addr}{p:Addr}{h:List V}(I:Inv X a t H s)(l:∀b∈ch,pD X a H b)
 (k:∀b o,b∉ch->s.heap.get? b=some o->h'.get? b=some o)(x:s.heap.objs.size<=p)(i:dH X.prog X.w (upd H p (.tup h)) h' p (.tup h))(M:∀b∈ch,∃o,h'.get? b=some o):Inv X a t (upd H p (.tup h)) {s with heap:=h',toks:=t'}:=by
 have f:H p=none:=I.hok.fresh x;have y:∀b u,H b=some u->b∉ch:=λb u e z=>by rw[(l b z).1]at e;cases e
 have j:∀b o,s.heap.get? b=some o->b≠p:=λb o e z=>absurd (Fm (KF e) x) (by rw[z];exact Xt _);refine I.step (g':=s.gens) (d':=s.drawn) (ch:=ch) (λb g=>?_) (λb o _ _ d e _=>k b o d e) (λb o _ _ d e _=>⟨o.slots,k b o d e⟩) (λb o _ e n=>by rw[ay (j b o e)];exact n)
  (λb o d e=>⟨o,k b o d e⟩) (λb A e=>by rw[ay (aT e f)];exact e) (λb o u e=>by rw[ay (aT e f)];exact e) (λb L e=>⟨#[],by rw[ay (aT e f),e];simp⟩) (λm C=>?_) (λb u e=>?_) I.bare
 .obtain⟨O,G,N,F,E,D⟩:=l b g;exact⟨F,G,E,D⟩
 .obtain⟨o,J,K,B,r⟩:=C;exact⟨o,J,K,k _ o (λz=>(l _ z).2.1 rfl) B,r⟩
 .by_cases g:b=p
  .subst g;rw[aJ]at e;cases e;exact i
  .rw[ay g]at e;refine(I.hok b u e).stay (λc v d q=>k c v ?_ q) (λc q=>by rw[ay (aT q f)];exact q) λc A q=>by rw[ay (aT q f)];exact q
   rcases d with z|z
   .rw[z];exact y b u e
   .exact y c _ z
theorem CP{K:Frag}(a e l:Addr)(R:e≠l):
 Turn P w K (.Tuple C kk pos) (YV K a) [e,l] e (λi h=>(∃f,IsEnum h e l i f)/\h.IsListIter l a i)where
 mem:=by simp
 obj:=λi h q b m=>by
  obtain⟨⟨f,n⟩,o,r,c,d⟩:=q;rcases IH.mp m with z|z
  .subst z;exact⟨_,n,λv z=>by cases z⟩
  .rw[Fh.mp z];exact⟨o,r,λv z=>by rw[d]at z;cases z⟩
 keep:=λi h h' q k=>by obtain⟨⟨f,n⟩,F⟩:=q;exact⟨⟨f,k e (by simp) _ n⟩,F.at λo x=>k l (by simp) o x⟩
 item:=by
  intro X hP hw hK hc i M s σ H E I L q hg;subst hP hw hK;obtain⟨xs,x,Z,Y⟩:=hg;obtain⟨j,rv,p,hz⟩:=I.list Z;obtain⟨u,hu,ru⟩:=rv.get Y;obtain⟨⟨f,n⟩,F⟩:=q;have hit:=L l (by simp);have hee:=L e (by simp);have G:a≠l:=λz=>by obtain⟨o,r,c,d⟩:=F;obtain⟨o',g,J,_⟩:=p.isList;rw[z,r]at g;cases g;rw[c]at J;exact absurd J (by decide)
  have hae:a≠e:=λz=>by obtain⟨o',g,J,_⟩:=p.isList;have B:s.heap.get? e=some _:=n;rw[z,B]at g;cases g;exact absurd (show Value.type "enumerate"=Value.type "list"from J) (by decide)
  have D:=Draws.list (prog:=X.prog) (w:=X.w) (A:=X.A.in1) (I.ok.hd hc) l a G j.toArray;have W:=WalksT.enumerateD D e R (by simp[R,hae.symm]) (by simp);have hlt:i<j.toArray.size:=by have:=(Fu.mp hu).1;simpa using this
  refine W.item i s _ _ hlt ⟨⟨f,n⟩,F,p.isList⟩ λT vals h' tk hPt hT YW U4 hk=>?_;obtain⟨t,y,hy,rfl⟩:=hPt;have hyu:y=u:=by
   have:j[i]?=some y:=by simpa using hy
   rw[hu]at this;exact(Pm this).symm
  subst hyu;refine⟨.ref T,rfl,W.go C kk pos i T _ _ _ U4 λU hst Q=>?_⟩;have S:T∉[e,l]:=W.apart i T h' U4;obtain⟨⟨N,B⟩,O,_⟩:=hst;have U5:IsTup U T #[.int i t,y]:=by obtain⟨o,r,c⟩:=YW;exact⟨o,Q T o S r,c⟩
  have obj:dH X.prog X.w (upd H T (.tup [.int i,x])) U T (.tup [.int i,x]):=⟨tR (by show 2<=100000;decide),[.int i t,y],.cons ⟨t,rfl⟩ (.cons ru .nil),U5⟩;have I2:=I.U3 (t':=tk) (ch:=[e,l]) L (λb o m eo=>Q b o m (hk b o m eo)) hT obj (λb m=>by
   rcases IH.mp m with z|z
   .rw[z];exact⟨_,B⟩
   .rw[Fh.mp z];obtain⟨o,r,_⟩:=O;exact⟨o,r⟩)
  refine⟨.ref T,upd H T (.tup [.int i,x]),I2,rfl,⟨T,x,I.hok.fresh hT,rfl,rfl,λys hy=>by rw[I.oZ hy Z];exact Y⟩,⟨⟨N,B⟩,O⟩,λb m=>?_⟩;rw[ay (show b≠T from λz=>S (by rw[<-z];exact m))];exact(L b m).1
 done:=by
  intro X hP hw hK hc i M s σ H E I L q hg;subst hP hw hK;obtain⟨xs,Z,Y⟩:=hg;obtain⟨j,rv,p,hz⟩:=I.list Z;obtain⟨⟨f,n⟩,F⟩:=q;obtain⟨f0,f1,f2,f3,f4,f5⟩:=L l (by simp);have G:a≠l:=λz=>by obtain⟨o,r,c,d⟩:=F;obtain⟨o',g,J,_⟩:=p.isList;rw[z,r]at g;cases g;rw[c]at J;exact absurd J (by decide)
  have D:=Draws.list (prog:=X.prog) (w:=X.w) (A:=X.A.in1) (I.ok.hd hc) l a G j.toArray;have hn:j.toArray.size=i:=by rw[Hk,<-rv.length];exact Y
  exact wpAny_pyNext_enum_endD D n ⟨by rw[hn];exact F,p.isList⟩ λh' eb=>⟨rfl,I.turned (t':=s.toks) (λb o m x=>eb b o m x) f0 f1 f3 f4 f5⟩
 self:=λ_ _ _ _ _ q h=>by obtain⟨⟨f,n⟩,_⟩:=q;exact wpAny_pyIter_enum n h
section
variable{X:Cx}
def U6(K:Frag)(ta:TA):TI:=λc H R=>ta c H λe b=>∃a,e=[.ref a]/\(∃d,jA K b a d)/\R (YV K a) b
theorem Jm{f:List Expr}{t:Nat}{k p pos:Pos}(E:Gl X "enumerate")(B:X.mg "enumerate"=none)(G:PA X [a] ta)(w:bootBuiltins "enumerate"=some (.type "enumerate"):=by rfl)(y:starEach [a] X.env=[(false,eval a X.env)]:=by rfl):
 PI X (.Tuple f t k) (.Call (.Name "enumerate" p) [a] [] pos) (U6 X.K ta):=by
 intro c s g H R I h;refine Call_ (jO I E B w (d6 (cC (G pos c s g H _ I h) λO d ⟨N,j,I1,n,o⟩=>?_) y rfl));obtain⟨l,e,⟨M,A⟩,q⟩:=o;subst e;obtain⟨u,rfl,m⟩:=Vals.one n;cases(show u=Value.ref l from m);obtain⟨v,rv,r,_⟩:=I1.list A;refine call_enumerate_list r.isList λJ i C x D=>?_;refine wpAny_pyIter_enum i ?_;have L:Inv X c g j {d with heap:=J}:=I1.kept (t':=d.toks) D;refine⟨d.heap.objs.size+1,[d.heap.objs.size+1,d.heap.objs.size],_,_,j,rfl,L,CP l (d.heap.objs.size+1) d.heap.objs.size (Nat.succ_ne_self _),⟨⟨_,i⟩,C⟩,λb F=>?_,q⟩;rcases IH.mp F with z|z
 .rw[z];exact I1.yN (by lia) (I1.hok.fresh (by lia))
 .rw[Fh.mp z];exact I1.yN (FC _) (I1.hok.fresh (FC _))
end
noncomputable def YX(K:Frag)(a:Addr)(n:Nat):It:=
 ⟨λi H=>∃b,jA K H a b/\b.length=n/\i<n,λi H x c=>c=H/\∀b,jA K H a b->b.length=n->b[n -1 -i]?=some x,λi _=>i=n⟩
theorem ET{K:Frag}(a l:Addr)(n:Nat):Turn P w K tg (YX K a n) [l] l (λi h=>h.IsRevIter l a ((n:Int) -1 -(i:Int)))where
 mem:=by simp
 obj:=λi h f b m=>by
  have e:b=l:=by simpa using m
  subst e;obtain⟨o,e,c,d⟩:=f;refine⟨o,e,λv z=>?_⟩;rw[d]at z;cases z
 keep:=λi h r f k=>f.at λo e=>k l (Fh.mpr rfl) o e
 item:=by
  intro X B t C R i g s M H E I q f A;subst B t C;obtain⟨N,Q,hn,hi⟩:=A;obtain⟨U,rv,p,hz⟩:=I.list Q;have O:N[n -1 -i]?=some (N[n -1 -i]'(by omega)):=D2 (by omega);obtain⟨u,Z,T⟩:=rv.get O;obtain⟨L,J,f2,G,F,D⟩:=q l (Fh.mpr rfl);have e:(n:Int) -1 -(i:Int)=((n -1 -i:Nat):Int):=by omega
  rw[e]at f;refine wpAny_pyNext_rev_item f p.isList (x:=u) (by simpa using Z) λr j S=>?_;have e2:((n -1 -i:Nat):Int) -1=(n:Int) -1 -((i+1:Nat):Int):=by lia
  rw[e2]at j;have I1:Inv X g M H {s with heap:=r}:=I.turned (t':=s.toks) (λb o m z=>(S.2 b m).trans z) L J G F D;obtain⟨o,e3,c,d⟩:=id j;exact⟨u,rfl,wX (s:={s with heap:=r}) e3 c d (by decide) ⟨_,H,I1,T,⟨rfl,λys Y _=>by rw[I.oZ Y Q];exact O⟩,j,λb m=>(q b m).1⟩⟩
 done:=by
  intro X B t C R i g s M H E I q f A;subst B t C;have y:i=n:=A;subst y;obtain⟨L,J,f2,G,F,D⟩:=q l (Fh.mpr rfl);have e:(i:Int) -1 -(i:Int)= -1:=by lia
  rw[e]at f;exact wpAny_pyNext_rev_end (I.ok.hd R) f λr eb=>⟨rfl,I.turned (t':=s.toks) (λb o m z=>eb b o m z) L J G F D⟩
 self:=λ_ _ _ _ _ f h=>wpAny_pyIter_revIter f h
section
variable{X:Cx}{tg:Expr}
def YY(K:Frag)(ta:TA):TI:=λd H R=>ta d H λe c=>∃a b,e=[.ref a]/\jA K c a b/\R (YX K a b.length) c
theorem Oz{p pos:Pos}(y:Gl X "reversed")(x:X.mg "reversed"=none)(B:PA X [a] ta)(t:bootBuiltins "reversed"=some (.type "reversed"):=by rfl)(v:starEach [a] X.env=[(false,eval a X.env)]:=by rfl):
 PI X tg (.Call (.Name "reversed" p) [a] [] pos) (YY X.K ta):=by
 intro d s j H R I h;refine Call_ (jO I y x t (d6 (cC (B pos d s j H _ I h) λF c ⟨E,D,I1,m,n⟩=>?_) v rfl));obtain⟨l,f,e,w,q⟩:=n;subst e;obtain⟨u,rfl,k⟩:=Vals.one m;cases(show u=Value.ref l from k);obtain⟨g,rv,r,_⟩:=I1.list w;refine call_reversed_list r.isList ?_;have C:((g.toArray.size:Nat):Int) -1=(f.length:Int) -1 -((0:Nat):Int):=by have:=rv.length;simp;lia
 rw[C];have i:Heap.IsRevIter (c.heap.push (revObj l ((f.length:Int) -1 -((0:Nat):Int)))) c.heap.objs.size l ((f.length:Int) -1 -((0:Nat):Int)):=⟨_,Sr _ rfl,rfl,rfl⟩;refine wpAny_pyIter_revIter i ?_;refine⟨c.heap.objs.size,[c.heap.objs.size],_,_,D,rfl,I1.kept (t':=c.toks) λb o z=>He _ z,ET l _ f.length,i,λb A=>?_,q⟩;have e:b=c.heap.objs.size:=by simpa using A
 subst e;exact I1.yN (FC _) (I1.hok.fresh (FC _))
end
section
variable{prog:Program}{w:World}{A:Around}{E:Value->Shared->Prop}
end
theorem CQ(C:X.calm=true):dS X (.builtin "max") (λa H Q=>∃(p:Addr)(ns:List Int),a=[.ref p]/\jA X.K H p (ns.map V.int)/\ns≠[]/\∀m∈ns,(∀n∈ns,n<=m)->Q (.int m) H):=by
 intro f s G H a J Q I r h;obtain⟨p,ns,rfl,D,w,q⟩:=h;obtain⟨u,rfl,l⟩:=Vals.one r;cases(show u=Value.ref p from l);obtain⟨d,rv,o,_⟩:=I.list D;have i:=intsAre_of rv;obtain⟨a,g⟩:=i.allInts.items;have e:s.heap.IsList p (intItems a):=g▸o.isList;have k:ns=a.toList.map (·.1):=by rw[<-nums_intItems,<-g];exact(show numsOf d.toArray.toList=ns from i.numsOf).symm
 have A:ns.length=a.size:=by rw[k,Bi,Jf]
 have y:0<a.size:=by rw[<-A];exact Jn.mpr w
 refine max_intList (I.ok.hd C) e y λv M L x B=>?_;obtain⟨t,rfl⟩:=intItems_at x;obtain⟨N,F⟩:=argBest_gt (numAt a) (a.size -1);have c:∀j,j<ns.length->numAt a j=ns.getD j 0:=λj _=>by rw[numAt_eq,<-k]
 have E:∀j,j<ns.length->ns.getD j 0∈ns:=λj b=>by rw[AC,D2 b];exact d5 b
 refine⟨.int _,H,I.kept B,⟨_,rfl⟩,q _ ?_ λn z=>?_⟩
 .rw[c _ (by lia)];exact E _ (by lia)
 .obtain⟨j,b,rfl⟩:=UF z;have:=F j (by lia);rw[c j b,AC,D2 b]at this;exact this
end L2
namespace L2
open PySem
variable{r:List Expr}{env:Env}{pos:Pos}
inductive OA:List Expr->List (Int×Int)->Prop where
 |nil:OA [] []
 |cons {a b:Int} {j1 j2 k:Nat} {p1 p2 pos:Pos} {es:List Expr} {qs:List (Int×Int)} (h:OA es qs):OA (.Tuple [.Constant (.int a) j1 p1,.Constant (.int b) j2 p2] k pos::es) ((a,b)::qs)
end L2
namespace L2
open PySem PySem.Spec PyProof.Rows
section
variable{X:Cx}{H:Hp}
end
mutual
noncomputable def aN:PyData->Bool
 |.int _=>true
 |.list a=>fG a
 |.tuple a=>fG a
 |.none=>false
 |.bool _=>false
 |.str _=>false
 |.dict _=>false
noncomputable def fG:List PyData->Bool
 |[]=>true
 |x::a=>aN x&&fG a
end
mutual
theorem EU:∀d:PyData,aN d=true->d.canLay0=true
 |.int _,_=>by simp[PyData.canLay0]
 |.list a,h=>by rw[aN]at h;rw[PyData.canLay0];exact mV a h
 |.tuple a,h=>by rw[aN]at h;rw[PyData.canLay0];exact mV a h
 |.none,h=>by simp[aN]at h
 |.bool _,h=>by simp[aN]at h
 |.str _,h=>by simp[aN]at h
 |.dict _,h=>by simp[aN]at h
theorem mV:∀a:List PyData,fG a=true->PyData.canLayAll0 a=true
 |[],_=>by simp[PyData.canLayAll0]
 |x::a,h=>by rw[fG,DL]at h;rw[PyData.canLayAll0,EU x h.1,mV a h.2];rfl
end
mutual
theorem EV:∀d e:PyData,aN d=true->aN e=true->SeqAt.noMix d e=true
 |.int _,.int _,_,_=>by simp[SeqAt.noMix]
 |.int _,.list _,_,_=>by simp[SeqAt.noMix]
 |.int _,.tuple _,_,_=>by simp[SeqAt.noMix]
 |.list _,.int _,_,_=>by simp[SeqAt.noMix]
 |.list _,.tuple _,_,_=>by simp[SeqAt.noMix]
 |.tuple _,.int _,_,_=>by simp[SeqAt.noMix]
 |.tuple _,.list _,_,_=>by simp[SeqAt.noMix]
 |.list c,.list b,h,a=>by rw[aN]at h a;rw[SeqAt.noMix];exact mW c b h a
 |.tuple c,.tuple b,h,a=>by rw[aN]at h a;rw[SeqAt.noMix];exact mW c b h a
 |.none,_,h,_=>by simp[aN]at h
 |.bool _,_,h,_=>by simp[aN]at h
 |.str _,_,h,_=>by simp[aN]at h
 |.dict _,_,h,_=>by simp[aN]at h
 |.int _,.none,_,h=>by simp[aN]at h
 |.int _,.bool _,_,h=>by simp[aN]at h
 |.int _,.str _,_,h=>by simp[aN]at h
 |.int _,.dict _,_,h=>by simp[aN]at h
 |.list _,.none,_,h=>by simp[aN]at h
 |.list _,.bool _,_,h=>by simp[aN]at h
 |.list _,.str _,_,h=>by simp[aN]at h
 |.list _,.dict _,_,h=>by simp[aN]at h
 |.tuple _,.none,_,h=>by simp[aN]at h
 |.tuple _,.bool _,_,h=>by simp[aN]at h
 |.tuple _,.str _,_,h=>by simp[aN]at h
 |.tuple _,.dict _,_,h=>by simp[aN]at h
theorem mW:∀b a:List PyData,fG b=true->fG a=true->SeqAt.noMixAll b a=true
 |[],[],_,_=>by simp[SeqAt.noMixAll]
 |[],_::_,_,_=>by simp[SeqAt.noMixAll]
 |_::_,[],_,_=>by simp[SeqAt.noMixAll]
 |x::b,y::a,h,c=>by rw[fG,DL]at h c;rw[SeqAt.noMixAll,EV x y h.1 c.1,mW b a h.2 c.2];rfl
end
mutual
theorem CT:∀d e:PyData,aN d=true->aN e=true->(same d e=true↔d=e)
 |.int a,.int b,_,_=>by simp[same]
 |.int _,.list _,_,_=>by simp[same]
 |.int _,.tuple _,_,_=>by simp[same]
 |.list _,.int _,_,_=>by simp[same]
 |.list _,.tuple _,_,_=>by simp[same]
 |.tuple _,.int _,_,_=>by simp[same]
 |.tuple _,.list _,_,_=>by simp[same]
 |.list g,.list f,h,c=>by rw[aN]at h c;rw[same,jS g f h c,PyData.list.injEq]
 |.tuple g,.tuple f,h,c=>by rw[aN]at h c;rw[same,jS g f h c,PyData.tuple.injEq]
 |.none,_,h,_=>by simp[aN]at h
 |.bool _,_,h,_=>by simp[aN]at h
 |.str _,_,h,_=>by simp[aN]at h
 |.dict _,_,h,_=>by simp[aN]at h
 |.int _,.none,_,h=>by simp[aN]at h
 |.int _,.bool _,_,h=>by simp[aN]at h
 |.int _,.str _,_,h=>by simp[aN]at h
 |.int _,.dict _,_,h=>by simp[aN]at h
 |.list _,.none,_,h=>by simp[aN]at h
 |.list _,.bool _,_,h=>by simp[aN]at h
 |.list _,.str _,_,h=>by simp[aN]at h
 |.list _,.dict _,_,h=>by simp[aN]at h
 |.tuple _,.none,_,h=>by simp[aN]at h
 |.tuple _,.bool _,_,h=>by simp[aN]at h
 |.tuple _,.str _,_,h=>by simp[aN]at h
 |.tuple _,.dict _,_,h=>by simp[aN]at h
theorem jS:∀b a:List PyData,fG b=true->fG a=true->(sameAll b a=true↔b=a)
 |[],[],_,_=>by simp[sameAll]
 |[],_::_,_,_=>by simp[sameAll]
 |_::_,[],_,_=>by simp[sameAll]
 |x::b,y::a,h,c=>by rw[fG,DL]at h c;rw[sameAll,DL,CT x y h.1 c.1,jS b a h.2 c.2,ZL]
end
section
variable{X:Cx}
end
theorem xu(h:∀x∈a,x.depth<=n):PyData.depthAll a<=n:=by
 induction a with
 |nil=>simp[PyData.depthAll]
 |cons x a b=>rw[PyData.depthAll];have:=h x (FS ..);have:=b λy c=>h y (FM _ c);lia
section
variable{X:Cx}
end
end L2
set_option genSizeOf false
set_option genInjectivity false
namespace Num
theorem pQ(a b q:Int):AS b (a -q*b)=AS a b:=by
 apply Nat.dvd_antisymm
 .apply hO
  .have f:((AS b (a -q*b):Nat):Int)∣b:=eD ..;have d:((AS b (a -q*b):Nat):Int)∣(a -q*b):=SB ..;have c:=hV d (y3 f:_∣q*b);have e:a -q*b+q*b=a:=by lia
   rw[e]at c;exact c
  .exact eD ..
 .apply hO
  .exact SB ..
  .exact b5 (eD ..) (y3 (SB ..))
theorem fl(a b:Int)(c:b≠0):(0<b->0<=a -a.fdiv b*b/\a -a.fdiv b*b<b)/\(b<0->b<a -a.fdiv b*b/\a -a.fdiv b*b<=0):=by
 have e:=Int.mul_ediv_add_emod a b;have f:=VN a c;have d:a%b<(b.natAbs:Int):=by
  rcases so 0 b with z|z
  .have:=x5 a z;lia
  .have:=x5 a (show 0< -b by lia);rw[Int.emod_neg]at this;lia
 rw[Int.fdiv_eq_ediv];have g:b*(a/b)=(a/b)*b:=ar _ _;constructor
 .intro h;rw[D1 (ZC (by lia)),zzb];lia
 .intro h;split
  .rename_i hd
   have hz:a%b=0:=yn (by lia);rw[zzb];lia
  .rename_i hd
   have hz:a%b≠0:=λz=>hd (.inr (zi z));have:(a/b -1)*b=a/b*b -b:=by rw[Int.sub_mul];lia
   lia
theorem EW(a b:Int)(c:b≠0):(a -a.fdiv b*b).natAbs<b.natAbs:=by have:=fl a b c;omega
theorem fmod_eq(a b:Int):a.fmod b=a -a.fdiv b*b:=by have:=Int.mul_fdiv_add_fmod a b;have:b*a.fdiv b=a.fdiv b*b:=ar _ _;omega
theorem dz(r:Rat):(r.den:Int)≠0:=by have:=r.den_nz;lia
theorem dpos(r:Rat):(0:Int)<r.den:=by have:=r.den_pos;omega
theorem OB{d:Nat}{r:Rat}(a:d≠0)(b:Nat.gcd n.natAbs d=1)(h:n*r.den=r.num*d):r.num=n/\(r.den:Int)=d:=by
 have e:r=⟨n,d,a,b⟩:=by rw[<-SC r,Rat.mk_eq_divInt,cb (dz r) (by lia)];exact h.symm
 rw[e];exact⟨rfl,rfl⟩
theorem jJ(a b:Rat):(a+b).num*(a.den*b.den:Int)=(a.num*b.den+b.num*a.den)*(a+b).den:=by
 have c:a+b=An (a.num*b.den+b.num*a.den) (a.den*b.den):=by
  conv=>lhs;rw[<-SC a,<-SC b]
  exact Rat.divInt_add_divInt _ _ (dz a) (dz b)
 exact(cb (dz _) (Kt (dz a) (dz b))).mp ((SC (a+b)).trans c)
theorem se(a b:Rat):(a*b).num*(a.den*b.den:Int)=(a.num*b.num)*(a*b).den:=by
 have c:a*b=An (a.num*b.num) (a.den*b.den):=by
  conv=>lhs;rw[<-SC a,<-SC b]
  exact Yl _ _
 exact(cb (dz _) (Kt (dz a) (dz b))).mp ((SC (a*b)).trans c)
theorem oA(x y m:Int):AS (x+y*m) m=AS x m:=by
 have h:=pQ x m (-y);have e:x - -y*m=x+y*m:=by rw[u4];lia
 rw[e]at h;rw[oC,h]
theorem gW(b:AS x m=1)(a:AS y m=1):AS (x*y) m=1:=by unfold AS at*;rw[GT];exact i0 b a
theorem kO(b:AS m x=1)(a:AS m y=1):AS m (x*y)=1:=by rw[oC]at*;exact gW b a
theorem kP(h:AS x m=1)(a:y∣m):AS x y=1:=by unfold AS at*;exact ip (Ta.mpr a) h
theorem kQ(h:AS m x=1)(a:y∣m):AS y x=1:=by rw[oC]at*;exact kP h a
theorem red(r:Rat):AS r.num r.den=1:=r.reduced
theorem jk(x y:Int)(h:y≠0):∃b a:Int,x=(AS x y:Nat)*b/\y=(AS x y:Nat)*a/\AS b a=1/\0<((AS x y:Nat):Int):=by
 have f:0<AS x y:=Int.gcd_pos_of_ne_zero_right _ h;obtain⟨b,d⟩:((AS x y:Nat):Int)∣x:=eD ..;obtain⟨a,c⟩:((AS x y:Nat):Int)∣y:=SB ..;refine⟨b,a,d,c,?_,by lia⟩;have e:AS ((AS x y:Nat)*b) ((AS x y:Nat)*a)=AS x y*AS b a:=by rw[dy];rfl
 rw[<-d,<-c]at e;have:AS x y*1=AS x y*AS b a:=by lia
 exact(X8 f this).symm
theorem eO{g x a:Int}(h:x=g*a)(b:0<g):x/g=a:=by rw[h];exact kA _ (by lia)
theorem mX{g y a:Int}(h:y=g*a)(b:0<g)(c:0<y):0<a:=by
 rcases so 0 a with z|z
 .exact z
 .have:=Int.mul_nonpos_of_nonneg_of_nonpos (TK b) z;omega
theorem gX{r:Rat}(b:0<d)(a:AS n d=1)(h:n*r.den=r.num*d):r.num=n/\(r.den:Int)=d:=by
 have e:((d.toNat:Nat):Int)=d:=by lia
 have:=OB (n:=n) (d:=d.toNat) (r:=r) (by lia) (by unfold AS at a;rw[show d.toNat=d.natAbs by lia];exact a) (by rw[e];exact h);rw[e]at this;exact this
theorem Jo(a b:Rat):∃A B:Int,(a.den:Int)/(AS a.den b.den:Nat)=A/\(b.den:Int)/(AS a.den b.den:Nat)=B/\
 0<((AS a.den b.den:Nat):Int)/\0<A/\0<B/\A<=a.den/\B<=b.den/\0<((AS (a.num*B+b.num*A) (AS a.den b.den:Nat):Nat):Int)/\
 (a+b).num=(a.num*B+b.num*A)/(AS (a.num*B+b.num*A) (AS a.den b.den:Nat):Nat)/\
 ((a+b).den:Int)=A*((b.den:Int)/(AS (a.num*B+b.num*A) (AS a.den b.den:Nat):Nat)):=by
 obtain⟨A,B,f,d,e,c⟩:=jk a.den b.den (dz b);generalize((AS a.den b.den:Nat):Int)=g at*;have o:=mX f c (dpos a);have n:=mX d c (dpos b);have gz:g≠0:=by lia
 obtain⟨t,h,q,k,p,j⟩:=jk (a.num*B+b.num*A) g gz;generalize m:a.num*B+b.num*A=T at*;generalize E:((AS T g:Nat):Int)=l at*;have w:=mX k j c;have v:(b.den:Int)=l*(B*h):=by rw[d,k];grind
 have I:AS T A=1:=by rw[<-m,oA];exact gW (kP (red a) ⟨g,by rw[f];grind⟩) (by rw[oC];exact e)
 have H:AS T B=1:=by rw[<-m,fh,oA];exact gW (kP (red b) ⟨g,by rw[d];grind⟩) e
 have u:t∣T:=⟨l,by rw[q];grind⟩;have s:AS t (A*(B*h))=1:=kO (kQ I u) (kO (kQ H u) p);have y:t*(a+b).den=(a+b).num*(A*(B*h)):=by
  have D:=jJ a b;have G:(a.den*b.den:Int)=(l*l*h)*(A*(B*h)):=by rw[v,f,k];grind
  have F:(a.num*b.den+b.num*a.den:Int)=(l*l*h)*t:=by
   have:(a.num*b.den+b.num*a.den:Int)=g*T:=by rw[<-m,d,f];grind
   rw[this,q,k];grind
  rw[G,F]at D;have x:l*l*h≠0:=Kt (Kt (by lia) (by lia)) (by lia);have:(l*l*h)*((a+b).num*(A*(B*h)))=(l*l*h)*(t*(a+b).den):=by grind
  exact(QQ x this).symm
 have i:=gX (r:=a+b) (eP o (eP n w)) s y;have C:A<=a.den:=by have:=tj (show 1<=g by lia) (TK o);lia
 have z:B<=b.den:=by have:=tj (show 1<=g by lia) (TK n);lia
 refine⟨A,B,eO f c,eO d c,c,o,n,C,z,?_⟩;rw[m,E];refine⟨j,?_,?_⟩
 .rw[i.1,eO q j]
 .rw[i.2,eO v j]
theorem Jp(a b:Rat)(h:AS a.den b.den=1):(a+b).num=a.num*b.den+b.num*a.den/\((a+b).den:Int)=a.den*b.den:=by
 refine gX (eP (dpos a) (dpos b)) (kO ?_ ?_) ?_
 .rw[oA];exact gW (red a) (by rw[oC];exact h)
 .rw[fh,oA];exact gW (red b) h
 .have:=jJ a b;grind
theorem EX(a b:Rat):0<((AS a.num b.den:Nat):Int)/\0<((AS b.num a.den:Nat):Int)/\
 (a*b).num=a.num/(AS a.num b.den:Nat)*(b.num/(AS b.num a.den:Nat))/\((a*b).den:Int)=(a.den:Int)/(AS b.num a.den:Nat)*((b.den:Int)/(AS a.num b.den:Nat)):=by
 obtain⟨x,y,k,d,j,h⟩:=jk a.num b.den (dz b);obtain⟨z,w,hz,e,i,g⟩:=jk b.num a.den (dz a);generalize((AS a.num b.den:Nat):Int)=f at*;generalize((AS b.num a.den:Nat):Int)=s at*;have m:=mX d h (dpos b);have pw:=mX e g (dpos a);have l:AS (x*z) (w*y)=1:=by have v:AS x w=1:=kP (kQ (red a) ⟨f,by rw[k];grind⟩) ⟨s,by rw[e];grind⟩;have u:AS z y=1:=kP (kQ (red b) ⟨s,by rw[hz];grind⟩) ⟨f,by rw[d];grind⟩;exact kO (gW v i) (gW j u)
 have o:x*z*(a*b).den=(a*b).num*(w*y):=by
  have p:=se a b;have t:(a.den*b.den:Int)=(f*s)*(w*y):=by rw[e,d];grind
  have q:a.num*b.num=(f*s)*(x*z):=by rw[k,hz];grind
  rw[t,q]at p;have n:f*s≠0:=Kt (by lia) (by lia);have:(f*s)*((a*b).num*(w*y))=(f*s)*(x*z*(a*b).den):=by grind
  exact(QQ n this).symm
 have c:=gX (r:=a*b) (eP pw m) l o;refine⟨h,g,?_,?_⟩
 .rw[c.1,eO k h,eO hz g]
 .rw[c.2,eO e g,eO d h]
theorem inv_pos(b:Rat)(h:0<b.num):b⁻¹.num=b.den/\(b⁻¹.den:Int)=b.num:=by refine gX h (by rw[oC];exact red b) ?_;have:=(cb (dz b⁻¹) (show b.num≠0 by omega)).mp ((SC b⁻¹).trans (fq b));grind
theorem inv_neg(b:Rat)(h:b.num<0):b⁻¹.num= -b.den/\(b⁻¹.den:Int)= -b.num:=by
 refine gX (by lia) ?_ ?_
 .rw[h9,g4,oC];exact red b
 .have:=(cb (dz b⁻¹) (show b.num≠0 by lia)).mp ((SC b⁻¹).trans (fq b));grind
def Bd(n:Nat)(r:Rat):Prop:=r.num.natAbs<2^n/\r.den<2^n
theorem OC(a:d≠0):(mkRat n d).num.natAbs<=n.natAbs/\(mkRat n d).den<=d:=by
 obtain⟨m,e,c,b⟩:=Rat.mkRat_num_den a (show mkRat n d=⟨(mkRat n d).num,(mkRat n d).den,(mkRat n d).den_nz,(mkRat n d).reduced⟩from rfl);constructor
 .have:n.natAbs=(mkRat n d).num.natAbs*m:=by
   conv=>lhs;rw[c]
   rw[GT,BB]
  rw[this];exact UV _ (by lia)
 .conv=>rhs;rw[b]
  exact UV _ (by lia)
theorem lt_mul(b:x<2^n)(a:y<2^m):x*y<2^(n+m):=by
 rw[Y1];rcases h8 y with z|z
 .subst z;have:=Nat.mul_pos (TB (n:=n) (show 0<2 by decide)) (TB (n:=m) (show 0<2 by decide));omega
 .exact Fm (mN b z) (Fk _ (SZ a))
theorem OD(f:Bd n a)(c:Bd m b):Bd (n+m+1) (a+b):=by
 have q:=OC (n:=a.num*b.den+b.num*a.den) (d:=a.den*b.den) (Nat.mul_ne_zero a.den_nz b.den_nz);rw[<-Rat.add_def']at q;have e:2^(n+m+1)=2*2^(n+m):=by rw[El];lia
 have i:a.num.natAbs*b.den<2^(n+m):=lt_mul f.1 c.2;have h:b.num.natAbs*a.den<2^(n+m):=by rw[ag];exact lt_mul f.2 c.1
 have g:=lt_mul f.2 c.2;have k:(a.num*b.den).natAbs=a.num.natAbs*b.den:=by rw[GT,BB]
 have j:(b.num*a.den).natAbs=b.num.natAbs*a.den:=by rw[GT,BB]
 exact⟨by omega,by omega⟩
theorem OE(h:Bd n a)(hz:a.num≠0):Bd n a⁻¹:=by
 obtain⟨e,d⟩:=h;rcases so 0 a.num with z|z
 .obtain⟨b,c⟩:=inv_pos a z;exact⟨by rw[b];omega,by omega⟩
 .obtain⟨b,c⟩:=inv_neg a (by omega);exact⟨by rw[b];omega,by omega⟩
noncomputable def cf(b a:List Int):Nat->Nat->Int
 |0,_=>0
 |i+1,k=>cf b a i k+b.getD i 0*(if i<=k then a.getD (k -i) 0 else 0)
noncomputable def xw(b a:List Int)(i j k:Nat):Int:=cf b a i k+(if i<=k/\k<i+j then b.getD i 0*a.getD (k -i) 0 else 0)
theorem xx(b a:List Int)(i k:Nat):xw b a i 0 k=cf b a i k:=by unfold xw;rw[Bz (by lia)];lia
theorem xA(b a:List Int)(i k:Nat):xw b a i a.length k=cf b a (i+1) k:=by
 unfold xw;rw[cf];by_cases h:i<=k
 .by_cases c:k<i+a.length
  .rw[D1 ⟨h,c⟩,D1 h]
  .have e:a.getD (k -i) 0=0:=by rw[AC,Gc (by lia)];rfl
   rw[Bz (by lia),D1 h,e,T1]
 .rw[Bz (by lia),Bz h,T1]
theorem kR(b a:List Int)(i j k:Nat):xw b a i (j+1) k=xw b a i j k+(if k=i+j then b.getD i 0*a.getD j 0 else 0):=by
 unfold xw;by_cases h:k=i+j
 .subst h;rw[D1 (by lia),Bz (by lia),D1 rfl,cw];lia
 .rw[Bz h];by_cases c:i<=k/\k<i+j
  .rw[D1 (by lia),D1 c];lia
  .rw[Bz (by lia),Bz c];lia
theorem Jq(h:a.getD i 0=0)(k:Nat):cf a b (i+1) k=cf a b i k:=by rw[cf,h,dk,iq]
theorem kT(b a:List Int)(k:Nat):∀i,i+a.length<=k+1->cf b a i k=0
 |0,_=>rfl
 |i+1,h=>by
  rw[cf,kT b a k i (by lia)];have e:a.getD (k -i) 0=0:=by rw[AC,Gc (by lia)];rfl
  rw[D1 (by lia),e,T1];rfl
theorem Jr(a b:List Int)(e:0<a.length)(d:0<b.length):cf a b a.length (a.length+b.length -2)=a.getD (a.length -1) 0*b.getD (b.length -1) 0:=by obtain⟨m,c⟩:∃m,a.length=m+1:=⟨a.length -1,by lia⟩;rw[c,cf,kT a b _ m (by clear c d e;omega),D1 (by lia),zza];congr 2<;>lia
def gY(ns ms:List Int):Prop:=∃k,k<=ns.length/\ms=ns.take k/\(∀j,k<=j->j<ns.length->ns.getD j 0=0)/\(k=0\/ns.getD (k -1) 0≠0)
theorem gY.last(h:gY ns ms):ms=[]\/ms.getD (ms.length -1) 0≠0:=by
 obtain⟨k,b,rfl,d,a⟩:=h;rcases a with q|q
 .left;rw[q];rfl
 .by_cases c:k=0
  .left;rw[c];rfl
  .right;rw[cx,e5 b,AC,ox (by lia),<-AC];exact q
theorem gY.mem(h:gY ns ms):∀m∈ms,m∈ns:=by obtain⟨k,_,rfl,_⟩:=h;exact λm a=>zzk a
def pR(p:Int):Prop:=2<=p/\∀d:Int,2<=d->d*d<=p->p%d≠0
theorem sf(d:pR p)(i:0<x)(m:x<p):AS p x=1:=by
 obtain⟨l,b⟩:=d;have j:0<AS p x:=vw _ (by lia);obtain⟨q,a⟩:((AS p x:Nat):Int)∣p:=eD ..;have f:((AS p x:Nat):Int)<=x:=eJ i (SB ..);generalize k:((AS p x:Nat):Int)=g at*;have n:1<=g:=by lia
 rcases so 1 g with h|e
 .exfalso
  have c:2<=q:=by
   rcases so q 2 with z|z
   .have:q<=1:=by lia
    have:=fI this (show 0<=g by lia);lia
   .exact z
  rcases Int.le_total g q with z|z
  .have:g*g<=g*q:=fI z (by lia);exact b g (by lia) (by lia) (yn ⟨q,a⟩)
  .have:q*q<=g*q:=tj z (by lia);exact b q c (by lia) (yn ⟨g,by rw[a,ar]⟩)
 .lia
theorem EY(t b:Int)(k:b≠0):((if b<0 then-((AS t b:Nat):Int)else((AS t b:Nat):Int))≠0)/\(An t b).num=t.fdiv (if b<0 then-((AS t b:Nat):Int)else((AS t b:Nat):Int))/\
 ((An t b).den:Int)=b.fdiv (if b<0 then-((AS t b:Nat):Int)else((AS t b:Nat):Int)):=by
 obtain⟨x,y,i,e,c,j⟩:=jk t b k;have l:=(cb (dz (An t b)) k).mp (SC (An t b));generalize((AS t b:Nat):Int)=g at*;generalize An t b=r at*;have gz:g≠0:=by lia
 have m:x*r.den=r.num*y:=by
  rw[i,e]at l;have:g*(x*r.den)=g*(r.num*y):=by grind
  exact QQ gz this
 rcases so b 0 with z|z
 .rw[D1 z];have f:0< -y:=by
   rcases so 0 (-y)with q|q
   .exact q
   .have:=eQ (TK j) (show 0<=y by lia);lia
  have a:=gX (n:= -x) (d:= -y) (r:=r) f (by rw[h9,g4];exact c) (by grind);have h: -g≠0:=by lia
  refine⟨h,?_,?_⟩
  .rw[a.1,i,show g*x= -g* -x by grind,js _ h]
  .rw[a.2,e,show g*y= -g* -y by grind,js _ h]
 .rw[Bz (by lia)];have f:=mX e j (by lia);have a:=gX (r:=r) f c m;refine⟨gz,?_,?_⟩
  .rw[a.1,i,js _ gz]
  .rw[a.2,e,js _ gz]
theorem zv(t b:Int)(a:b≠0):(An t b).num*b=t*(An t b).den:=(cb (dz _) a).mp (SC _)
theorem uK(t b:Int)(f:b≠0):(An t b).num.natAbs<=t.natAbs/\(An t b).den<=b.natAbs:=by
 have c:=zv t b f;generalize An t b=r at*;have d:r.num.natAbs*b.natAbs=t.natAbs*r.den:=by have:=SU L0 c;rw[GT,GT,BB]at this;exact this
 have a:Zj r.num.natAbs r.den:=r.reduced;have e:0<b.natAbs:=by lia
 have h:r.den∣b.natAbs:=a.symm.dvd_of_dvd_mul_left ⟨t.natAbs,by rw[d,ag]⟩;have g:r.num.natAbs∣t.natAbs:=a.dvd_of_dvd_mul_right ⟨b.natAbs,d.symm⟩;refine⟨?_,ef e h⟩;rcases h8 t.natAbs with z|z
 .rw[z,Xl]at d;rcases Nat.mul_eq_zero.mp d with q|q
  .lia
  .lia
 .exact ef z g
noncomputable def ev(x:Rat):List Rat->Rat
 |[]=>0
 |r::a=>r+x*ev x a
noncomputable def wv(t b:Int):List Int->Int
 |[]=>0
 |x::s=>wv t b s*t+x*b^s.length
theorem MK{t b:Int}{x:Rat}(f:(b:Rat)≠0)(d:x*b=t)(g:B≠0):∀(ns:List Int)(a:List Rat),ns.length=a.length->(∀i,i<ns.length->(ns.getD i 0:Rat)=a.getD i 0*B)->((wv t b ns:Int):Rat)*b=(b:Rat)^ns.length*ev x a*B
 |[],[],_,_=>by show((0:Int):Rat)*b=_*0*B;grind
 |n::ns,r::a,c,h=>by
  have ih:=MK f d g ns a (by simpa using c) λi e=>by have:=h (i+1) (by simpa using e);simpa using this
  have j:(n:Rat)=r*B:=by simpa using h 0 (by simp)
  show((wv t b ns*t+n*b^ns.length:Int):Rat)*b=(b:Rat)^(ns.length+1)*(r+x*ev x a)*B;rw[RF,BM,BM,Rat.intCast_pow,cm,j];have:(wv t b ns:Rat)*t*b=(wv t b ns:Rat)*b*(x*b):=by rw[d];grind
  grind
 |[],_::_,c,_=>by simp at c
 |_::_,[],c,_=>by simp at c
theorem eS(x:Rat):x*((x.den:Int):Rat)=((x.num:Int):Rat):=by
 have h:=SC x;rw[mM]at h;have:((x.den:Int):Rat)≠0:=λz=>by have:=oy.mp (z.trans (show(0:Rat)=((0:Int):Rat)from rfl));have:=x.den_nz;lia
 grind
theorem gA(h:(x.den:Int)∣B):((x.num*(B/x.den):Int):Rat)=x*B:=by
 obtain⟨k,a⟩:=h;have e:B/(x.den:Int)=k:=by rw[a];exact kA _ (dz x)
 rw[e,a,BM,BM,<-eS x];grind
noncomputable def sm(f:Nat->Int):Nat->Int
 |0=>0
 |n+1=>sm f n+f n
theorem gZ:∀n,(∀i,i<n->f i=g i)->sm f n=sm g n
 |0,_=>rfl
 |n+1,h=>by rw[sm,sm,gZ n λi hi=>h i (by lia),h n (by lia)]
theorem AX(f:Nat->Int):∀n,sm f (n+1)=f 0+sm (λi=>f (i+1)) n
 |0=>by rw[sm,sm,sm];lia
 |n+1=>by rw[sm,AX f n,sm];lia
theorem EZ(f:Nat->Int):∀n,sm (λi=>f (n -i)) (n+1)=sm f (n+1)
 |0=>rfl
 |n+1=>by rw[AX,gZ (g:=λi=>f (n -i)) (n+1) λi hi=>by congr 1;lia,EZ f n];rw[sm,sm,sm];show f (n+1 -0)+(sm f n+f n)=_;rw[Km];lia
theorem uL:∀n,m<=n->(∀i,m<=i->i<n->f i=0)->sm f n=sm f m
 |0,h,_=>by
  have:m=0:=by lia
  rw[this]
 |n+1,h,z=>by
  by_cases e:m=n+1
  .rw[e]
  .rw[sm,uL n (by lia) (λi a b=>z i a (by lia)),z n (by lia) (by lia),iq]
theorem xB(b a:List Int)(k:Nat):∀n,cf b a n k=sm (λi=>b.getD i 0*(if i<=k then a.getD (k -i) 0 else 0)) n
 |0=>rfl
 |n+1=>by rw[cf,xB b a k n,sm]
theorem f7(a d:List Int)(k:Nat):cf a d a.length k=sm (λi=>a.getD i 0*d.getD (k -i) 0) (k+1):=by
 rw[xB];have b:∀i,a.length<=i->a.getD i 0=0:=λi h=>by rw[AC,Gc h];rfl
 rcases ey a.length (k+1)with h|h
 .rw[<-uL (k+1) h λi c _=>by rw[b i c,dk]];exact gZ _ λi e=>by rw[D1 (by lia)]
 .rw[uL a.length h λi c _=>by rw[Bz (by lia),T1]];exact gZ _ λi e=>by rw[D1 (by lia)]
theorem Js(b a:List Int)(k:Nat):cf b a b.length k=cf a b a.length k:=by rw[f7,f7,<-EZ];refine gZ _ λi c=>?_;show b.getD (k -i) 0*a.getD (k -(k -i)) 0=_;rw[show k -(k -i)=i by lia,ar]
noncomputable def sj(n:Nat)(f:Nat->Rat):List Rat:=(Bn n).map f
theorem pT(n:Nat)(f:Nat->Rat):(sj n f).length=n:=by unfold sj;simp
theorem Jt(h:k<n):(sj n f)[k]?=some (f k):=by unfold sj;rw[FR,dt h];rfl
theorem jC{a:List Rat}(h:a.length<=k):a.getD k 0=0:=by rw[AC,Gc h];rfl
noncomputable def iI(l:List Rat):List Rat:=(l.reverse.dropWhile λx=>decide (x=0)).reverse
theorem pU(l:List Rat):iI (l++[0])=iI l:=by unfold iI;rw[Zn,XW,Y3,aY,D1 (by simp)]
theorem pV(l:List Rat)(h:x≠0):iI (l++[x])=l++[x]:=by unfold iI;rw[Zn,XW,Y3,aY,Bz (by simpa using h)];simp
theorem tW(l:List Rat):∃k,k<=l.length/\iI l=l.take k/\(k=0\/l.getD (k -1) 0≠0):=by
 generalize d:l.length=n
 induction n generalizing l with
 |zero=>have:l=[]:=Oy.mp d;subst this;exact⟨0,FC _,rfl,.inl rfl⟩
 |succ n i=>
  have b:l≠[]:=λz=>by rw[z]at d;cases d
  obtain⟨c,x,rfl⟩:∃c x,l=c++[x]:=⟨l.dropLast,l.getLast b,(ui b).symm⟩;have a:c.length=n:=by simpa using d
  by_cases e:x=0
  .subst e;obtain⟨k,j,g,f⟩:=i c a;refine⟨k,by lia,by rw[pU,g,List.take_append_of_le_length (by lia)],?_⟩;rcases f with z|z
   .exact .inl z
   .by_cases h:k=0
    .exact .inl h
    .right;rw[AC,QP (by lia),<-AC];exact z
  .refine⟨n+1,FC _,by rw[pV _ e,zz7 (by simp[a])],.inr ?_⟩;rw[On,AC,NM (by lia),a,vk];exact e
theorem CU(l:List Rat):(iI l).length<=l.length:=by obtain⟨k,a,e,_⟩:=tW l;rw[e,cx];lia
def aq(l:List Rat):Prop:=∀x,l.getLast?=some x->x≠0
theorem kU(l:List Rat):aq (iI l):=λx a=>by
 obtain⟨k,c,e,h⟩:=tW l;rw[e]at a;rcases h with z|z
 .rw[z]at a;simp at a
 .by_cases b:k=0
  .rw[b]at a;simp at a
  .have d:(l.take k).getLast?=some (l.getD (k -1) 0):=by rw[KM,cx,e5 c,ox (by lia),AC,D2 (by lia)];rfl
   rw[d]at a;rw[<-Pm a];exact z
noncomputable def jD(a:List Rat):List Rat:=a.map λx=> -x
theorem ML(f:∀x∈a,x.natAbs<2^n)(d:∀x∈b,x.natAbs<2^m)(k:Nat):∀i,(cf a b i k).natAbs<=i*2^(n+m)
 |0=>by show 0<=_;lia
 |i+1=>by
  have g:∀{n:Nat}{a:List Int}(h:∀x∈a,x.natAbs<2^n)(j:Nat),(a.getD j 0).natAbs<2^n:=λ{n a} h j=>by
   by_cases c:j<a.length
   .rw[AC,D2 c];exact h _ (d5 c)
   .rw[AC,Gc (by lia)];exact TB (by decide)
  have l:=ML f d k i;have e:(a.getD i 0*(if i<=k then b.getD (k -i) 0 else 0)).natAbs<2^(n+m):=by
   rw[GT];refine lt_mul (g f i) ?_;split
   .exact g d _
   .exact TB (by decide)
  rw[cf,xk];omega
theorem xC(l:List Rat)(k:Nat):(l++[0]).getD k 0=l.getD k 0:=by
 rw[AC,AC];by_cases h:k<l.length
 .rw[QP h]
 .rw[NM (by lia),Gc (l:=l) (by lia)];cases a:k -l.length with
  |zero=>rfl
  |succ n=>rfl
theorem AY(l:List Rat)(k:Nat):(iI l).getD k 0=l.getD k 0:=by
 generalize b:l.length=n
 induction n generalizing l with
 |zero=>have:l=[]:=Oy.mp b;subst this;rfl
 |succ n e=>
  have a:l≠[]:=λz=>by rw[z]at b;cases b
  obtain⟨c,x,rfl⟩:∃c x,l=c++[x]:=⟨l.dropLast,l.getLast a,(ui a).symm⟩;by_cases d:x=0
  .subst d;rw[pU,e c (by simpa using b),xC]
  .rw[pV _ d]
theorem kW(h:aq l)(a:0<l.length):l.getD (l.length -1) 0≠0:=by refine h _ ?_;rw[KM,D2 (by omega),AC,D2 (by omega)];rfl
theorem E2(g:aq a)(c:aq b)(h:∀k,a.getD k 0=b.getD k 0):a=b:=by
 have d:∀{a b:List Rat},aq b->(∀k,a.getD k 0=b.getD k 0)->b.length<=a.length:=λ{a b} c h=>by
  rcases Nat.lt_or_ge a.length b.length with z|z
  .exact absurd ((h _).symm.trans (jC (by lia))) (kW c (by lia))
  .exact z
 have e:a.length=b.length:=e6 (d g λk=>(h k).symm) (d c h);apply ma;intro k;by_cases f:k<a.length
 .have:=h k;rw[AC,AC,D2 f,D2 (show k<b.length by lia)]at this;rw[D2 f,D2 (show k<b.length by lia)];exact SU some this
 .rw[Gc (by lia),Gc (by lia)]
theorem uM(k:Nat):(sj n f).getD k 0=if k<n then f k else 0:=by
 by_cases h:k<n
 .rw[D1 h,AC,Jt h];rfl
 .rw[Bz h];exact jC (by rw[pT];lia)
noncomputable def dU(f:Nat->Rat):Nat->Rat
 |0=>0
 |n+1=>dU f n+f n
theorem c8:∀n,(∀i,i<n->f i=g i)->dU f n=dU g n
 |0,_=>rfl
 |n+1,h=>by rw[dU,dU,c8 n λi hi=>h i (by lia),h n (by lia)]
theorem pW:∀n,m<=n->(∀i,m<=i->i<n->f i=0)->dU f n=dU f m
 |0,h,_=>by
  have:m=0:=by lia
  rw[this]
 |n+1,h,z=>by
  by_cases e:m=n+1
  .rw[e]
  .rw[dU,pW n (by lia) (λi a b=>z i a (by lia)),z n (by lia) (by lia),zz3]
noncomputable def aH(f g:Nat->Rat)(k:Nat):Rat:=dU (λi=>f i*g (k -i)) (k+1)
theorem uO(c:Int)(f:Nat->Int):∀n,sm (λi=>c*f i) n=c*sm f n
 |0=>by rw[sm,sm,T1]
 |n+1=>by rw[sm,sm,uO c f n,zzo]
theorem zx(f g:Nat->Int):∀n,sm (λi=>f i+g i) n=sm f n+sm g n
 |0=>rfl
 |n+1=>by rw[sm,sm,sm,zx f g n];lia
theorem uP(p:Nat)(v:Nat->Int):∀n,sm (λi=>if i=p then v i else 0) n=if p<n then v p else 0
 |0=>by rw[sm,Bz (by lia)]
 |n+1=>by
  rw[sm,uP p v n];by_cases h:p<n
  .rw[D1 h,Bz (by lia),D1 (by lia)];lia
  .rw[Bz h];by_cases e:n=p
   .subst e;rw[D1 rfl,D1 (by lia)];lia
   .rw[Bz e,Bz (by lia)];lia
noncomputable def jT(f g:Nat->Int)(k:Nat):Int:=sm (λi=>f i*g (k -i)) (k+1)
theorem Ju(c h:Int)(Q O:Nat->Int)(p k:Nat):jT (λi=>c*Q i+if i=p then h else 0) O k=c*jT Q O k+if p<=k then h*O (k -p)else 0:=by
 unfold jT;rw[gZ (g:=λi=>c*(Q i*O (k -i))+if i=p then h*O (k -i)else 0) (k+1) λi _=>?_,zx,uO,uP p λi=>h*O (k -i)]
 .by_cases a:p<=k
  .rw[D1 a,D1 (show p<k+1 by lia)]
  .rw[Bz a,Bz (show¬p<k+1 by lia)]
 .split
  .grind
  .grind
theorem Jv(O:Nat->Int)(k:Nat):jT (λ_=>0) O k=0:=by unfold jT;rw[gZ (g:=λi=>0*0) (k+1) λi _=>by rw[dk,dk],uO,dk]
theorem Jw{A C:Rat}(c:∀i,f i*A=F i)(b:∀i,g i*C=G i)(k:Nat):aH f g k*(A*C)=((jT F G k:Int):Rat):=by
 unfold aH jT;have:∀n,dU (λi=>f i*g (k -i)) n*(A*C)=((sm (λi=>F i*G (k -i)) n:Int):Rat):=λn=>by
  induction n with
  |zero=>show 0*(A*C)=((0:Int):Rat);grind
  |succ n a=>rw[dU,sm,RF,BM,<-a,<-c n,<-b (k -n)];grind
 exact this _
def zy(ns ms:List Int)(l:Int)(s:Nat)(Q:Nat->Int)(R:List Int):Prop:=∀k,l^s*ns.getD k 0=jT Q (λi=>ms.getD i 0) k+R.getD k 0
theorem zy.start(ns ms:List Int)(l:Int):zy ns ms l 0 (λ_=>0) ns:=λk=>by rw[Jv,PP];lia
theorem outI{ns:List Int}(h:ns.length<=k):ns.getD k 0=0:=by rw[AC,Gc h];rfl
theorem zy.step(h:zy ns ms l s Q R)(j:0<ms.length)(b:l=ms.getD (ms.length -1) 0)(m:R.length=p+ms.length)(c:R'.length=p+ms.length -1)
 (a:∀k,k<p+ms.length -1->R'.getD k 0=l*R.getD k 0 -if p<=k then R.getD (p+ms.length -1) 0*ms.getD (k -p) 0 else 0):
 zy ns ms l (s+1) (λi=>l*Q i+if i=p then R.getD (p+ms.length -1) 0 else 0) R':=λk=>by
 rw[Ju,Hb];have e:=h k;have g:l^s*l*ns.getD k 0=l*jT Q (λi=>ms.getD i 0) k+l*R.getD k 0:=by rw[<-zzo,<-e];grind
 rw[g];by_cases f:k<p+ms.length -1
 .rw[a k f];lia
 .by_cases d:k=p+ms.length -1
  .subst d;rw[outI (ns:=R') (by lia),D1 (by lia),show p+ms.length -1 -p=ms.length -1 by lia,<-b];grind
  .rw[outI (ns:=R) (k:=k) (by lia),outI (ns:=R') (by lia)];split
   .rw[outI (ns:=ms) (by lia)];grind
   .grind
def Cd(D:Int)(n:Nat)(x:Rat):Prop:=∃z:Int,x*D=z/\z.natAbs<2^n
theorem Cd.dvd(h:Cd D n x):(x.den:Int)∣D/\(x.num*(D/x.den)).natAbs<2^n:=by
 obtain⟨z,a,f⟩:=h;have e:x.num*D=z*x.den:=by
  have e:=eS x;have:((x.num*D:Int):Rat)=((z*x.den:Int):Rat):=by rw[BM,BM,<-e,<-a];grind
  exact oy.mp this
 have d:(x.den:Int)∣D:=by have c:Zj x.den x.num.natAbs:=hY x.reduced;have b:x.den∣x.num.natAbs*D.natAbs:=⟨z.natAbs,by have:=SU L0 e;rw[GT,GT,BB]at this;rw[this,ag]⟩;have:=c.dvd_of_dvd_mul_left b;rw[<-BB x.den]at this;exact Ta.mp this
 refine⟨d,?_⟩;have:((x.num*(D/x.den):Int):Rat)=(z:Rat):=by rw[gA d,a]
 rw[oy.mp this];exact f
theorem xD(h:AS a b=1)(e:a∣b*c):a∣c:=by
 have d:a.natAbs∣b.natAbs*c.natAbs:=by rw[<-GT];exact Ta.mpr e
 exact Ta.mp (ig (show Zj a.natAbs b.natAbs from h) d)
theorem E3(k:d≠0)(m:B∣D)(l:d∣D):B/(AS B d:Nat)*d∣D:=by
 obtain⟨x,y,b,c,a,j⟩:=jk B d k;rw[show B/((AS B d:Nat):Int)=x from Num.eO b j];obtain⟨u,f⟩:=m;obtain⟨v,i⟩:=l;generalize((AS B d:Nat):Int)=g at*;have e:x*u=y*v:=by
  have:g*(x*u)=g*(y*v):=by rw[<-Yf,<-Yf,<-b,<-c,<-f,<-i]
  exact QQ (by lia) this
 obtain⟨w,h⟩:y∣u:=xD (by rw[oC];exact a) ⟨v,e⟩;refine⟨w,?_⟩;rw[f,b,h,c];grind
theorem Jx(h:gY ns ms)(k:Nat):ms.getD k 0=ns.getD k 0:=by
 obtain⟨j,d,rfl,b,_⟩:=h;by_cases c:k<j
 .rw[AC,ox c,<-AC]
 .rw[outI (by rw[cx];lia)];by_cases a:k<ns.length
  .exact(b k (by lia) a).symm
  .exact(outI (by lia)).symm
theorem xE(h:gY ns ms):ms.length<=ns.length:=by obtain⟨j,a,rfl,_⟩:=h;rw[cx];lia
theorem E4{l:Int}(h:l.natAbs<2^M):(l^i).natAbs<=2^(M*i):=by rw[X5,ky];exact bj (SZ h) _
theorem Jy(b:x<2^n)(a:y<=2^m):x*y<2^(n+m):=by rw[Y1];exact HI (Fk _ a) (mN b (TB (by decide)))
end Num
namespace Sub
abbrev Ix:=Bool×Nat
abbrev Vc:=Ix->Int
noncomputable def ex(D:List Vc->Int)(r:Ix):List Vc->List Vc->Int
 |_,[]=>0
 |pre,c::post=>c r*D (pre++post) -ex D r (pre++[c]) post
noncomputable def det:List Ix->List Vc->Int
 |[],[]=>1
 |[],_::_=>0
 |r::a,cs=>ex (det a) r [] cs
def Alt(D:List Vc->Int):Prop:=∀(p q:List Vc)(a b:Vc),D (p++a::b::q)= -D (p++b::a::q)
def Td(D:List Vc->Int):Prop:=∀(p q:List Vc)(x y:Int)(a b:Vc),D (p++(λi=>x*a i+y*b i)::q)=x*D (p++a::q)+y*D (p++b::q)
theorem AZ(h:Alt D)(r:Ix):∀(d p q:List Vc)(a b:Vc),ex D r (p++a::b::q) d= -ex D r (p++b::a::q) d
 |[],_,_,_,_=>rfl
 |c::d,p,q,a,b=>by have ih:=AZ h r d p (q++[c]) a b;have e:=h p (q++d) a b;simp only[ex,Re,Dh]at ih e⊢;rw[e,ih];grind
theorem A3(h:Alt D)(r:Ix):∀(p d q:List Vc)(a b:Vc),ex D r d (p++a::b::q)= -ex D r d (p++b::a::q)
 |[],d,q,a,b=>by have e:=AZ h r q d [] a b;simp only[ex,C0,Re,Dh]at e⊢;rw[e];grind
 |c::p,d,q,a,b=>by have f:=A3 h r p (d++[c]) q a b;have e:=h (d++p) q a b;simp only[ex,Dh,Re]at f e⊢;rw[e,f];grind
theorem oB:∀c:List Ix,Alt (det c)
 |[]=>λp q a b=>by
  cases p<;>rfl
 |r::c=>λp q a b=>A3 (oB c) r p [] q a b
theorem A4(h:Td D)(r:Ix):∀(d p q:List Vc)(x y:Int)(a b:Vc),ex D r (p++(λi=>x*a i+y*b i)::q) d=x*ex D r (p++a::q) d+y*ex D r (p++b::q) d
 |[],_,_,_,_,_,_=>by simp[ex]
 |c::d,p,q,x,y,a,b=>by have ih:=A4 h r d p (q++[c]) x y a b;have e:=h p (q++d) x y a b;simp only[ex,Re,Dh]at ih e⊢;rw[e,ih];grind
theorem A5(h:Td D)(r:Ix):∀(p d q:List Vc)(x y:Int)(a b:Vc),ex D r d (p++(λi=>x*a i+y*b i)::q)=x*ex D r d (p++a::q)+y*ex D r d (p++b::q)
 |[],d,q,x,y,a,b=>by have e:=A4 h r q d [] x y a b;simp only[ex,C0]at e⊢;rw[e];grind
 |c::p,d,q,x,y,a,b=>by have f:=A5 h r p (d++[c]) q x y a b;have e:=h (d++p) q x y a b;simp only[ex,Dh,Re]at f e⊢;rw[e,f];grind
theorem uQ:∀c:List Ix,Td (det c)
 |[]=>λp q x y a b=>by
  cases p<;>simp[det]
 |r::c=>λp q x y a b=>A5 (uQ c) r p [] q x y a b
theorem A6:∀(a b:List Vc),(∀c∈a,c r=0)->ex D r b a=0
 |[],_,_=>rfl
 |c::a,b,h=>by rw[ex,h c FS,A6 a _ λd e=>h d (FM _ e)];simp
theorem tX(h:∀d∈cs,d r=0):det (r::a) (c::cs)=c r*det a cs:=by rw[det,ex,A6 cs _ h,C0,zzb]
theorem xF(h:Alt D):∀(u p v:List Vc)(a:Vc),D (p++a::(u++a::v))=0
 |[],p,v,a=>by have:=h p v a a;simp only[C0]at this⊢;lia
 |c::u,p,v,a=>by have e:=h p (u++a::v) a c;have b:=xF h u (p++[c]) v a;simp only[Re,Dh,C0]at b e⊢;rw[e,b];rfl
theorem Jz(h:Alt D)(c:Td D){p q:List Vc}(x y:Int)(d:b∈q):D (p++(λi=>x*a i+y*b i)::q)=x*D (p++a::q):=by obtain⟨u,v,rfl⟩:=List.append_of_mem d;rw[c,xF h u p v b,T1,iq]
noncomputable def sg(n:Nat):Int:=(-1)^n
theorem xG(h:Alt D):∀(u p q:List Vc)(a:Vc),D (p++a::(u++q))=sg u.length*D (p++(u++a::q))
 |[],p,q,a=>by simp[sg]
 |c::u,p,q,a=>by have e:=h p (u++q) a c;have b:=xG h u (p++[c]) q a;simp only[Re,Dh,C0,Av]at b e⊢;rw[e,b];unfold sg;rw[Hb];grind
theorem xH(h:Alt D):∀(w p u q:List Vc),D (p++(w++(u++q)))=sg (u.length*w.length)*D (p++(u++(w++q)))
 |[],p,u,q=>by simp[sg]
 |a::w,p,u,q=>by have ih:=xH h w (p++[a]) u q;have e:=xG h u p (w++q) a;simp only[Re,Dh,C0,Av]at ih e⊢;rw[ih,e];unfold sg;rw[RV,rk];grind
noncomputable def sh(j:Nat)(P:Vc):Vc:=λi=>if j<=i.2 then P (i.1,i.2 -j)else 0
noncomputable def oE(P:Vc):Nat->List Vc
 |0=>[]
 |n+1=>sh n P::oE P n
noncomputable def rws:Nat->Nat->List Ix
 |_,0=>[]
 |0,_+1=>[]
 |E+1,c+1=>(false,E)::rws E c
theorem xJ(E:Nat):rws E 0=[]:=by cases E<;>rfl
theorem JA(P:Vc):sh 0 P=P:=by funext i;unfold sh;rw[D1 (Os _)];rfl
theorem U7(j s:Nat)(P:Vc):sh j (sh s P)=sh (s+j) P:=by
 funext i;unfold sh;by_cases h:j<=i.2
 .rw[D1 h];by_cases a:s+j<=i.2
  .rw[D1 a,D1 (by show s<=i.2 -j;lia)];show P (i.1,i.2 -j -s)=P (i.1,i.2 -(s+j));congr 2;lia
  .rw[Bz a,Bz (by show¬s<=i.2 -j;lia)]
 .rw[Bz h,Bz (by lia)]
theorem oF(P:Vc):∀n,(oE P n).length=n
 |0=>rfl
 |n+1=>by rw[oE,Av,oF P n]
theorem A7:∀{n i:Nat},i<n->sh i P∈oE P n
 |n+1,i,h=>by
  rw[oE];by_cases e:i=n
  .rw[e];exact FS
  .exact FM _ (A7 (by lia))
theorem pX:∀{n:Nat}{d:Vc},d∈oE P n->∃i,i<n/\d=sh i P
 |n+1,d,h=>by
  rw[oE]at h;rcases IH.mp h with h|h
  .exact⟨n,by lia,h⟩
  .obtain⟨i,hi,e⟩:=pX h;exact⟨i,by lia,e⟩
theorem OG(a:B (false,n)=l)(hz:∀t,n<t->B (false,t)=0)(f:∀d∈cs,∀t,n+b<=t->d (false,t)=0):
 ∀s,det (rws (n+b+s) (c+s)++tl) (oE B (b+s)++cs)=l^s*det (rws (n+b) c++tl) (oE B b++cs)
 |0=>by simp
 |s+1=>by
  show det ((false,n+b+s)::(rws (n+b+s) (c+s)++tl)) (sh (b+s) B::(oE B (b+s)++cs))=_;rw[tX,OG a hz f s]
  .have e:sh (b+s) B (false,n+b+s)=l:=by unfold sh;rw[D1 (by show b+s<=n+b+s;lia),<-a];show B (false,n+b+s -(b+s))=_;congr 2;lia
   rw[e,Hb];grind
  .intro d g;rcases SL.mp g with h|h
   .obtain⟨i,j,rfl⟩:=pX h;unfold sh;split
    .exact hz _ (by show n<n+b+s -i;lia)
    .rfl
   .exact f d h _ (by lia)
noncomputable def comb(c:Int)(a:Vc):List (Int×Vc)->Vc
 |[]=>λi=>c*a i+0*a i
 |z::L=>λi=>1*comb c a L i+z.1*z.2 i
theorem xK(h:Alt D)(b:Td D):∀{L:List (Int×Vc)},(∀z∈L,z.2∈q)->D (p++comb c a L::q)=c*D (p++a::q)
 |[],_=>by rw[comb,b];grind
 |z::L,d=>by rw[comb,Jz h b _ _ (d z FS),xK h b λy e=>d y (FM _ e),bo]
theorem A8(j:Nat)(c:Int)(a:Vc):∀L:List (Int×Vc),sh j (comb c a L)=comb c (sh j a) (L.map λz=>(z.1,sh j z.2))
 |[]=>by funext i;show sh j (comb c a []) i=c*sh j a i+0*sh j a i;unfold sh comb;split<;>simp
 |z::L=>by
  funext i;have ih:=w8 (A8 j c a L) i;show sh j (comb c a (z::L)) i=1*comb c (sh j a) (L.map λz=>(z.1,sh j z.2)) i+z.1*sh j z.2 i;rw[<-ih];unfold sh;split
  .rfl
  .simp
theorem pY(h:Alt D)(d:Td D):∀(a:Nat)(p:List Vc),(∀z∈L,∀j,j<a->sh j z.2∈q)->D (p++(oE (comb c A L) a++q))=c^a*D (p++(oE A a++q))
 |0,p,_=>by simp[oE]
 |a+1,p,b=>by
  have ih:=pY h d (c:=c) (A:=A) a (p++[sh a A]) λz hz j f=>b z hz j (by lia);rw[oE,oE,Dh,A8,xK h d (λz hz=>?_)]
  .simp only[Re,Dh,C0]at ih⊢;rw[ih,Hb];grind
  .obtain⟨y,e,rfl⟩:=OF.mp hz;exact NA _ (b y e a (by lia))
noncomputable def SS(E:Nat)(A B:Vc)(a b:Nat)(c:Ix):Int:=det (rws E (a+b -1)++[c]) (oE A a++oE B b)
noncomputable def less(c:Int)(A B:Vc)(L:List (Int×Nat)):Vc:=comb c A (L.map λz=>(z.1,sh z.2 B))
theorem A9(h:∀z∈L,z.2+a<=b)(d:Ix):SS E (less c A B L) B a b d=c^a*SS E A B a b d:=by
 unfold SS less;have e:=pY (oB (rws E (a+b -1)++[d])) (uQ _) (q:=oE B b) (c:=c) (A:=A) (L:=L.map λz=>(z.1,sh z.2 B)) a [] λz hz j g=>by obtain⟨y,f,rfl⟩:=OF.mp hz;rw[U7];have:=h y f;exact A7 (by lia)
 simp only[C0]at e;exact e
theorem E5(h:∀i,R i=c*P i)(b a:Nat)(d:Ix):SS E B R b a d=c^a*SS E B P b a d:=by
 have f:R=comb c P []:=funext λi=>by rw[h i];show _=c*P i+0*P i;simp
 unfold SS;have e:=pY (oB (rws E (b+a -1)++[d])) (uQ _) (q:=[]) (c:=c) (A:=P) (L:=[]) a (oE B b) λz hz=>nomatch hz;simp only[ik]at e;rw[f,e]
theorem Ba(f:B (false,n)=l)(hz:∀t,n<t->B (false,t)=0)(h:∀t,z<=t->R (false,t)=0)(o:1<=a)(m:z+a<=n+b+1)(c:Ix):
 SS (n+b+s) R B a (b+s) c=sg ((b+s)*a)*(l^s*SS (n+b) B R b a c):=by
 unfold SS;have e:=xH (oB (rws (n+b+s) (a+(b+s) -1)++[c])) (oE R a) [] (oE B (b+s)) [];simp only[C0,ik,oF]at e;rw[e];congr 1;rw[show a+(b+s) -1=b+a -1+s by lia];refine OG f hz (λd g t j=>?_) s;obtain⟨i,k,rfl⟩:=pX g;unfold sh;split
 .exact h _ (by show z<=t -i;lia)
 .rfl
theorem E6(E:Nat)(B R:Vc)(a:Ix):SS E B R 0 1 a=R a:=by unfold SS;show det (rws E 0++[a]) (sh 0 R::[])=_;rw[xJ,C0,JA,tX (cs:=[]) (by intro d b;cases b)];show R a*1=R a;rw[eC]
theorem JB(f:B (false,n)=l)(hz:∀t,n<t->B (false,t)=0)(s:Nat)(a:Ix):SS (n+1+s) A B 0 (1+s) a=l^s*B a:=by unfold SS;rw[show 0+(1+s) -1=0+s by lia];have e:=OG f hz (cs:=[]) (b:=1) (c:=0) (tl:=[a]) (λd g=>nomatch g) s;simp only[ik]at e;show det (rws (n+1+s) (0+s)++[a]) ([]++oE B (1+s))=_;rw[C0,e];congr 1;exact E6 (n+1) A B a
def E7(a:Int):Prop:=a=1\/a= -1
theorem E7.sq(h:E7 a):a*a=1:=by rcases h with rfl|rfl<;>rfl
theorem E7.mul(h:E7 a)(c:E7 b):E7 (a*b):=by rcases h with rfl|rfl<;>rcases c with rfl|rfl<;>first|exact .inl rfl|exact .inr rfl
theorem pZ:∀n,E7 (sg n)
 |0=>.inl rfl
 |n+1=>by have:=pZ n;unfold sg at this⊢;rw[Hb];exact this.mul (.inr rfl)
theorem c9{x:Int}(h:x≠0):∀n:Nat,x^n≠0
 |0=>by rw[PP];decide
 |n+1=>by rw[Hb];exact Kt (c9 h n) h
theorem E8(x y:Int):∀n:Nat,(x*y)^n=x^n*y^n
 |0=>by rw[PP,PP,PP];rfl
 |n+1=>by rw[Hb,Hb,Hb,E8 x y n];generalize x^n=a;generalize y^n=b;grind
theorem E9(x:Int)(m:Nat):∀n:Nat,(x^m)^n=x^(m*n)
 |0=>by rw[Xo,PP,PP]
 |n+1=>by rw[Hb,E9 x m n,RV,rk]
theorem Fb{l h h':Int}(e:h'*h^b=l^b*h):∀a:Nat,(l^(b+1))^(a+1)*h^(b+a)=l^(b+(a+1))*h^(b*(a+1))*h'^a
 |0=>by rw[lh,ax,PP,eC,Sn];simp
 |a+1=>by
  have ih:=Fb e a;have d:(l^(b+1))^(a+1+1)*h^(b+(a+1))=((l^(b+1))^(a+1)*h^(b+a))*(l*(l^b*h)):=by rw[Hb (l^(b+1)) (a+1),<-oo b a 1,Hb h (b+a),Hb l b];generalize(l^b*l)^(a+1)=x;generalize h^(b+a)=y;generalize l^b=z;grind
  have c:l^(b+(a+1+1))*h^(b*(a+1+1))*h'^(a+1)=(l^(b+(a+1))*h^(b*(a+1))*h'^a)*(l*(h'*h^b)):=by rw[<-oo b (a+1) 1,Hb l (b+(a+1)),RV b (a+1),rk h (b*(a+1)) b,Hb h' a];generalize l^(b+(a+1))=x;generalize h^(b*(a+1))=y;generalize h^b=z;generalize h'^a=u;grind
  rw[d,c,ih,e]
structure Ch(A B:Vc)(m n:Nat)(P Q:Vc)(p q:Nat)(lp lq h:Int):Prop where
 hpq:q<=p
 YZ:lp≠0
 h0:h≠0
 CV:lq≠0
 lead:Q (false,q)=lq
 zero:∀t,q<t->Q (false,t)=0
 inv:∀k,k<=q->k<p->∃ε:Int,E7 ε/\∀ρ,SS (p+q -k) P Q (q -k) (p -k) ρ=ε*(lp^(q -k)*h^(p -k -1))*SS (m+n -k) A B (n -k) (m -k) ρ
theorem Ch.start(h:n<=m)(b:B (false,n)=l)(a:l≠0)(hz:∀t,n<t->B (false,t)=0):Ch A B m n A B m n 1 l 1:=
 ⟨h,by decide,by decide,a,b,hz,λk _ _=>⟨1,.inl rfl,λc=>by rw[fy,fy];simp⟩⟩
theorem Ch.rest(H:Ch A B m n P Q p q g f h)(y:1<=q)(r:∀z∈L,z.2<=p -q)(o:∀t,q<=t->less (f^(p -q+1)) P Q L (false,t)=0):
 ∃e:Int,E7 e/\∀d,less (f^(p -q+1)) P Q L d=e*(g*h^(p -q))*SS (m+n -(q -1)) A B (n -(q -1)) (m -(q -1)) d:=by
 have hpq:=H.hpq;obtain⟨e,x,inv⟩:=H.inv (q -1) (by lia) (by lia);refine⟨sg (p -q+1)*e,(pZ _).mul x,λd=>?_⟩;have k:=inv d;rw[show p+q -(q -1)=q+0+(p -q+1) by lia,show q -(q -1)=1 by lia,show p -(q -1)=0+(p -q+1) by lia,show 0+(p -q+1) -1=p -q by lia,ax]at k;have v:=A9 (E:=q+0+(p -q+1)) (A:=P) (B:=Q) (c:=f^(p -q+1)) (L:=L) (a:=1) (b:=0+(p -q+1)) (λz hz=>by have:=r z hz;lia) d;have j:=Ba H.lead H.zero (z:=q) (a:=1) (b:=0) (s:=p -q+1) o (FC _) (by lia) d;rw[v,E6,ax,show(0+(p -q+1))*1=p -q+1 by lia,k]at j;have w:=c9 H.CV (p -q+1);have l:=(pZ (p -q+1)).sq;generalize f^(p -q+1)=c at*;generalize less c P Q L d=R at*;generalize sg (p -q+1)=s at*;generalize h^(p -q)=i at*;generalize SS (m+n -(q -1)) A B (n -(q -1)) (m -(q -1)) d=S at*;have u:c*R=c*(s*e*(g*i)*S):=by
  have:c*(s*e*(g*i)*S)=s*(c*(e*(g*i)*S)):=by grind
  rw[this,j];have:s*(s*(c*R))=s*s*(c*R):=by grind
  rw[this,l,bo]
 exact QQ w u
theorem Ch.step(H:Ch A B m n P Q p q g d h)(T:∀z∈L,z.2<=p -q)(I:∀e,less (d^(p -q+1)) P Q L e=(g*h^(p -q))*j e)(N:r<q)(O:j (false,r)=o)(M:o≠0)(hz:∀t,r<t->j (false,t)=0)
 (D:h'*h^(p -q)=d^(p -q)*h):Ch A B m n Q j q r d o h':=by
 have hpq:=H.hpq;have F:h'≠0:=λz=>by rw[z,dk]at D;exact Kt (c9 H.CV _) H.h0 D.symm
 refine⟨by lia,H.CV,F,M,O,hz,λk C f=>?_⟩;obtain⟨l,OH,inv⟩:=H.inv k (by lia) (by lia);refine⟨sg ((p -k)*(q -k))*l,(pZ _).mul OH,λe=>?_⟩;have e0:=inv e;have e1:=A9 (E:=p+q -k) (A:=P) (B:=Q) (c:=d^(p -q+1)) (L:=L) (a:=q -k) (b:=p -k) (λz hz=>by have:=T z hz;lia) e;have G:=Ba (R:=less (d^(p -q+1)) P Q L) H.lead H.zero (z:=r+1) (a:=q -k) (b:=r -k) (s:=p -r) (λt ht=>by rw[I,hz t (by lia),T1]) (by lia) (by lia) e;rw[E5 I,show q+(r -k)+(p -r)=p+q -k by lia,show r -k+(p -r)=p -k by lia,e1,e0,show q+(r -k)=q+r -k by lia]at G;have i:=Fb D (q -k -1);have K:=(pZ ((p -k)*(q -k))).sq;have ck:(g*h^(p -q))^(q -k)=g^(q -k)*h^((p -q)*(q -k)):=by rw[E8,E9]
 have J:d^(p -r)*(g*h^(p -q))^(q -k)≠0:=Kt (c9 H.CV _) (c9 (Kt H.YZ (c9 H.h0 _)) _);refine QQ J ?_;rw[Nat.sub_add_cancel (xb f),show p -q+(q -k -1)=p -k -1 by rw[ZN,zz5 hpq f,ZN],show p -q+(q -k)=(p -r)+(r -k) by rw[zz5 hpq (SZ f),zz5 (Do (SZ N) hpq) C],rk d (p -r) (r -k)]at i;rw[ck]at G⊢;generalize SS (q+r -k) Q j (r -k) (q -k) e=X at*;generalize SS (m+n -k) A B (n -k) (m -k) e=S at*;generalize sg ((p -k)*(q -k))=s at*;generalize(d^(p -q+1))^(q -k)=c at*;generalize g^(q -k)=u at*;generalize h^(p -k -1)=v at*;generalize d^(p -r)=x at*;generalize h^((p -q)*(q -k))=y at*;generalize d^(r -k)=z at*;generalize h'^(q -k -1)=w at*;have Z:x*(u*y)*X=s*s*(x*(u*y)*X):=by rw[K,bo]
 have Y:s*s*(x*(u*y)*X)=s*(s*(x*(u*y*X))):=by grind
 rw[Z,Y,<-G];have U:s*(c*(l*(u*v)*S))=s*l*u*S*(c*v):=by grind
 rw[U,i];grind
end Sub
namespace Sub
open Num
theorem MN:∀(a e:List Vc),(∀c∈a,(c r).natAbs<=M)->(∀u,(∀c∈u,c∈e\/c∈a)->u.length+1=e.length+a.length->(D u).natAbs<=b)->(ex D r e a).natAbs<=a.length*(M*b)
 |[],_,_,_=>by simp[ex]
 |c::a,e,h,g=>by
  rw[ex];have h1:=h c FS;have k:=g (e++a) (λd f=>by
   rcases SL.mp f with z|z
   .exact .inl z
   .exact .inr (FM _ z)) (by simp only[KB,Av];lia)
  have l:=MN (D:=D) (r:=r) (M:=M) (b:=b) a (e++[c]) (λd f=>h d (FM _ f)) (λu i j=>g u (λd f=>by
   rcases i d f with z|z
   .rcases SL.mp z with y|y
    .exact .inl y
    .rw[Fh]at y;rw[y];exact .inr FS
   .exact .inr (FM _ z)) (by simp only[KB,Av,TR]at j⊢;lia))
  have o:(c r*D (e++a)).natAbs<=M*b:=by rw[GT];exact QR h1 k
  have n:(c r*D (e++a) -ex D r (e++[c]) a).natAbs<=(c r*D (e++a)).natAbs+(ex D r (e++[c]) a).natAbs:=by omega
  have m:(c::a).length*(M*b)=a.length*(M*b)+M*b:=by rw[Av,R1]
  omega
theorem Fc:∀(a:List Ix)(cs:List Vc),cs.length<=N->(∀c∈cs,∀i,(c i).natAbs<=M)->(det a cs).natAbs<=(N*M)^a.length
 |[],[],_,_=>by simp[det]
 |[],_::_,_,_=>by simp[det]
 |r::a,cs,h,f=>by
  rw[det];have:=MN (D:=det a) (r:=r) (M:=M) (b:=(N*M)^a.length) cs [] (λc e=>f c e r) (λu g d=>Fc a u (by simp only[TR]at d;lia) λc e=>by
   rcases g c e with z|z
   .cases z
   .exact f c z)
  refine Do this ?_;rw[Av,El];have k:cs.length*(M*(N*M)^a.length)<=N*(M*(N*M)^a.length):=X9 _ h;have j:N*(M*(N*M)^a.length)=(N*M)^a.length*(N*M):=by generalize(N*M)^a.length=x;grind
  lia
theorem Bb:∀(c E:Nat),(rws E c).length<=c
 |0,E=>by rw[xJ];exact FC _
 |c+1,0=>Os _
 |c+1,E+1=>by show(rws E c).length+1<=c+1;have:=Bb c E;lia
theorem MO(h:∀i,(P i).natAbs<=M)(j:Nat)(i:Ix):(sh j P i).natAbs<=M:=by
 unfold sh;split
 .exact h _
 .exact Os _
theorem U8(l:∀i,(A i).natAbs<=M)(k:∀i,(B i).natAbs<=M)(g:a+b<=N)(m:1<=a+b)(f:1<=N*M)(E:Nat)(d:Ix):(SS E A B a b d).natAbs<=(N*M)^(a+b):=by
 unfold SS;have:=Fc (N:=N) (M:=M) (rws E (a+b -1)++[d]) (oE A a++oE B b) (by rw[KB,oF,oF];exact g) (λc e i=>by
  rcases SL.mp e with h|h
  .obtain⟨j,_,rfl⟩:=pX h;exact MO l j i
  .obtain⟨j,_,rfl⟩:=pX h;exact MO k j i)
 refine Do this (Ha f ?_);have:=Bb (a+b -1) E;rw[KB];show _+1<=_;omega
theorem E7.abs(h:E7 a):(a*x).natAbs=x.natAbs:=by rcases h with rfl|rfl<;>lia
theorem Ch.JC(H:Ch A B m n P Q p q e a h)(f:q<p):∃S:Int,a^(p -q)=h^(p -q -1)*S/\S.natAbs=(SS (m+n -q) A B (n -q) (m -q) (false,q)).natAbs:=by
 obtain⟨c,j,inv⟩:=H.inv q (FC _) f;obtain⟨d,k⟩:∃d,p=q+1+d:=⟨p -q -1,by lia⟩;have b:=inv (false,q);have i:=JB (A:=P) H.lead H.zero d (false,q);rw[show p+q -q=q+1+d by lia,show q -q=0 by lia,show p -q=1+d by lia,i,H.lead,show 1+d -1=d by lia,PP,bo]at b;have g:a^(p -q)=a^d*a:=by rw[<-Hb];congr 1;lia
 refine⟨c*SS (m+n -q) A B (n -q) (m -q) (false,q),?_,j.abs⟩;rw[g,b,show p -q -1=d by lia];generalize SS (m+n -q) A B (n -q) (m -q) (false,q)=S;generalize h^d=x;grind
noncomputable def vc(r f:List Int):Vc:=λi=>if i.1 then f.getD i.2 0 else r.getD i.2 0
noncomputable def su(a:List Int):Nat->List (Int×Nat)
 |0=>[]
 |n+1=>(-(a.getD n 0),n)::su a n
theorem Bc:∀{n:Nat}{z:Int×Nat},z∈su a n->z.2<n
 |n+1,z,h=>by
  rcases IH.mp h with rfl|h
  .exact Qr n
  .exact fo (Bc h)
theorem Be(c:Int)(A B:Vc)(a:List Int)(i:Ix):∀n,less c A B (su a n) i=c*A i -sm (λj=>a.getD j 0*(if j<=i.2 then B (i.1,i.2 -j)else 0)) n
 |0=>by show c*A i+0*A i=c*A i -0;simp
 |n+1=>by
  have ih:=Be c A B a i n;show 1*less c A B (su a n) i+ -(a.getD n 0)*sh n B i=_;rw[ih,sm];have e:sh n B i=if n<=i.2 then B (i.1,i.2 -n)else 0:=rfl
  rw[e];generalize(if n<=i.2 then B (i.1,i.2 -n)else 0)=x;generalize sm _ n=y;generalize a.getD n 0=z;grind
theorem JD(c:Int)(P e Q d a:List Int)(b:Bool)(t:Nat):less c (vc P e) (vc Q d) (su a a.length) (b,t)=c*(if b then e else P).getD t 0 -cf a (if b then d else Q) a.length t:=by
 rw[Be,xB];cases b
 .rfl
 .rfl
end Sub
namespace Num
theorem JE(h:∀i,1<=i->f i=0)(k:Nat):aH f g k=f 0*g k:=by unfold aH;rw[pW (m:=1) (k+1) (by lia) λi a _=>by rw[h i a,Y2]];show 0+f 0*g (k -0)=_;rw[Km,mn]
end Num
namespace Sub
open Num
structure CS(ns ms f0 g0:List Int)(w E b1:Nat)(P Q fP fQ:List Int)(ld h:Int):Prop where
 ch:Ch (vc ns f0) (vc ms g0) (ns.length -1) (ms.length -1) (vc P fP) (vc Q fQ) (P.length -1) (Q.length -1) ld (Q.getD (Q.length -1) 0) h
 lq:0<Q.length
 DO:Q.length<=P.length
 lp:P.length<=ns.length
 Fd:Q.length<=ms.length
 lf:fP.length+Q.length<=b1
 Y0:fQ=[]\/fQ.length+P.length<=b1
 bP:∀i,(vc P fP i).natAbs<=2^(w*(ns.length -1+(ms.length -1)+1))
 bQ:∀i,(vc Q fQ i).natAbs<=2^(w*(ns.length -1+(ms.length -1)+1))
 bl:ld.natAbs<=2^(w*(ns.length -1+(ms.length -1)+1))
 bh:h.natAbs<=2^(w*(ns.length -1+(ms.length -1) -2*(P.length -1)))
structure FX(ns ms f0 g0:List Int)(w E:Nat):Prop where
 l1:ms.length<=ns.length
 l2:ns.length<=50
 M:∃M:Nat,(∀i,(vc ns f0 i).natAbs<=M)/\(∀i,(vc ms g0 i).natAbs<=M)/\1<=M/\(ns.length -1+(ms.length -1)+1)*M<=2^w
 E1:∀p,(ns.length -1+(ms.length -1) -2*p)*p+(ns.length -1+(ms.length -1)+1)<=E
theorem g5(x:Int):∀n:Nat,(x^n).natAbs=x.natAbs^n
 |0=>by simp
 |n+1=>by rw[Hb,GT,g5 x n,El]
theorem JF(f:k<=b)(e:k<=a):b -k+(a -k)=a+b -2*k:=by obtain⟨c,rfl⟩:=XO f;obtain⟨d,rfl⟩:=XO e;rw[cw,cw,show k+d+(k+c)=c+d+2*k by lia,On]
theorem U9(F:FX ns ms f d w E)(c:k<=ms.length -1)(n:1<=(ms.length -1 -k)+(ns.length -1 -k))(e:Nat)(a:Ix):
 (SS e (vc ns f) (vc ms d) (ms.length -1 -k) (ns.length -1 -k) a).natAbs<=2^(w*(ns.length -1+(ms.length -1) -2*k)):=by
 obtain⟨M,j,i,h,g⟩:=F.M;have l1:=F.l1;have m:1<=(ns.length -1+(ms.length -1)+1)*M:=QR (show 1<=ns.length -1+(ms.length -1)+1 by lia) h;have l:=Do c (tm l1 1);have b:=U8 (N:=ns.length -1+(ms.length -1)+1) j i (RW (by rw[zz6];exact zzh (zz4 _ _) (zz4 _ _))) n m e a;refine Do b ?_;rw[ky,JF c l];exact bj g _
theorem getD_mem'{ns:List Int}(h:k<ns.length):ns.getD k 0∈ns:=by rw[AC,D2 h];exact d5 h
theorem mem_getD{ns:List Int}(h:x∈ns):∃k,k<ns.length/\ns.getD k 0=x:=by obtain⟨i,a,e⟩:=UF h;exact⟨i,a,by rw[AC,D2 a,<-e];rfl⟩
theorem map_getD{ns:List Int}{f:Int->Int}(a:f 0=0)(k:Nat):(ns.map f).getD k 0=f (ns.getD k 0):=by
 rw[AC,FR,AC];cases ns[k]? with
 |none=>exact a.symm
 |some z=>rfl
noncomputable def hnext(h l:Int)(a:Nat):Int:=if a=0 then h else(l^a).fdiv (h^(a -1))
theorem CS.step{ns ms B A P Q p n g R F:List Int}(X:FX ns ms B A w E)(C:CS ns ms B A w E b1 P Q p n d h)(D:2<=Q.length)(N:c=Q.getD (Q.length -1) 0^(P.length -Q.length+1))(Te:g.length=P.length -Q.length+1)
 (hR:∀k,R.getD k 0=c*P.getD k 0 -cf g Q g.length k)(lR:R.length<Q.length)(zR:R=[]\/R.getD (R.length -1) 0≠0)(hF:∀k,F.getD k 0=c*p.getD k 0 -cf g n g.length k)(s:F.length<=max p.length (g.length+n.length -1))(J:n=[]->F.length<=p.length):
 d*h^(P.length -Q.length)≠0/\(d*h^(P.length -Q.length)).natAbs<=2^(w*E)/\(∀x∈R,d*h^(P.length -Q.length)∣x)/\(∀x∈F,d*h^(P.length -Q.length)∣x)/\(0<P.length -Q.length->h^(P.length -Q.length -1)≠0/\(h^(P.length -Q.length -1)).natAbs<=2^(w*E))/\
 (∀j,(vc (R.map λx=>x.fdiv (d*h^(P.length -Q.length))) (F.map λx=>x.fdiv (d*h^(P.length -Q.length))) j).natAbs<=2^(w*(ns.length -1+(ms.length -1)+1)))/\
 (R≠[]->CS ns ms B A w E b1 Q (R.map λx=>x.fdiv (d*h^(P.length -Q.length))) n (F.map λx=>x.fdiv (d*h^(P.length -Q.length))) (Q.getD (Q.length -1) 0) (hnext h (Q.getD (Q.length -1) 0) (P.length -Q.length))):=by
 have ch:=C.ch;have DO:=C.DO;have lp:=C.lp;have l1:=X.l1;have lf:=C.lf;have Fd:=C.Fd;obtain⟨a,q⟩:∃a,P.length -Q.length=a:=⟨_,rfl⟩;have i:P.length -1 -(Q.length -1)=a:=by rw[ZN,Nat.add_sub_cancel' (SZ D)];exact q
 have hL:∀z∈su g g.length,z.2<=P.length -1 -(Q.length -1):=λz hz=>by have:=Bc hz;lia
 have O:∀(b:Bool)(t:Nat),less c (vc P p) (vc Q n) (su g g.length) (b,t)=(if b then F else R).getD t 0:=λb t=>by
  rw[JD];cases b
  .exact(hR t).symm
  .exact(hF t).symm
 have CV:=ch.CV;generalize U:Q.getD (Q.length -1) 0=H at*;have l:H^(P.length -1 -(Q.length -1)+1)=c:=by rw[N,i,q]
 have G:d*h^a≠0:=Kt ch.YZ (c9 ch.h0 _);obtain⟨Y,OH,rest⟩:=ch.rest (L:=su g g.length) (by lia) hL (λt ht=>by rw[l,O];exact outI (by show R.length<=t;lia));rw[l,i]at rest;have bk:(d*h^a).natAbs<=2^(w*E):=by
  rw[GT,g5];have m:=X.E1 (P.length -1);have v:h.natAbs^a<=2^(w*(ns.length -1+(ms.length -1) -2*(P.length -1))*a):=by rw[ky];exact bj C.bh a
  refine Do (QR C.bl v) ?_;rw[<-Y1];refine Ha (by decide) ?_;rw[mI,<-tq];refine Fk _ ?_;have:(ns.length -1+(ms.length -1) -2*(P.length -1))*a<=(ns.length -1+(ms.length -1) -2*(P.length -1))*(P.length -1):=Fk _ (by clear v m G l CV N U i;lia);lia
 have dv:∀(b:Bool)(t:Nat),(d*h^a)∣(if b then F else R).getD t 0:=λb t=>by rw[<-O,rest];exact⟨Y*SS (ns.length -1+(ms.length -1) -(Q.length -1 -1)) (vc ns B) (vc ms A) (ms.length -1 -(Q.length -1 -1)) (ns.length -1 -(Q.length -1 -1)) (b,t),by grind⟩
 have dR:∀x∈R,d*h^a∣x:=λx K=>by obtain⟨k,_,rfl⟩:=mem_getD K;exact dv false k
 have dF:∀x∈F,d*h^a∣x:=λx K=>by obtain⟨k,_,rfl⟩:=mem_getD K;exact dv true k
 have fd:∀(b:Bool)(t:Nat),((if b then F else R).map λx=>x.fdiv (d*h^a)).getD t 0*(d*h^a)=(if b then F else R).getD t 0:=λb t=>by rw[map_getD (f:=λx=>x.fdiv (d*h^a)) (ej _),rl (dv b t),vi (dv b t)]
 have Z:∀j,vc (R.map λx=>x.fdiv (d*h^a)) (F.map λx=>x.fdiv (d*h^a)) j*(d*h^a)=less c (vc P p) (vc Q n) (su g g.length) j:=λj=>by obtain⟨b,t⟩:=j;rw[O,<-fd b t];cases b<;>rfl
 have vS:∀j,(vc (R.map λx=>x.fdiv (d*h^a)) (F.map λx=>x.fdiv (d*h^a)) j).natAbs<=2^(w*(ns.length -1+(ms.length -1)+1)):=λj=>by
  have m:=Z j;rw[rest]at m;have T:vc (R.map λx=>x.fdiv (d*h^a)) (F.map λx=>x.fdiv (d*h^a)) j=Y*SS (ns.length -1+(ms.length -1) -(Q.length -1 -1)) (vc ns B) (vc ms A) (ms.length -1 -(Q.length -1 -1)) (ns.length -1 -(Q.length -1 -1)) j:=by refine Int.eq_of_mul_eq_mul_right G ?_;rw[m];grind
  rw[T,OH.abs];refine Do (U9 X (Do (zz4 _ _) (tm Fd 1)) (Do (xb (Fm (hX (xb D) ZW) (tm Fd 1))) (W1 _ _)) _ _) (Ha (by decide) (Fk _ (RW (zz4 _ _))))
 rw[q];refine⟨G,bk,dR,dF,λo=>⟨c9 ch.h0 _,?_⟩,vS,λVa=>?_⟩
 .rw[g5];have m:=X.E1 (P.length -1);have v:h.natAbs^(a -1)<=2^(w*(ns.length -1+(ms.length -1) -2*(P.length -1))*(a -1)):=by rw[ky];exact bj C.bh _
  refine Do v (Ha (by decide) ?_);rw[mI];refine Fk _ ?_;have:(ns.length -1+(ms.length -1) -2*(P.length -1))*(a -1)<=(ns.length -1+(ms.length -1) -2*(P.length -1))*(P.length -1):=Fk _ (by clear v m o bk G l CV N U i;lia);lia
 have CW:0<R.length:=Jn.mpr Va;have zl:=zR.resolve_left Va;have h2:∃S:Int,hnext h H a=S/\S*h^a=H^a*h/\S.natAbs<=2^(w*(ns.length -1+(ms.length -1) -2*(Q.length -1))):=by
  by_cases o:a=0
  .refine⟨h,by unfold hnext;rw[D1 o],by rw[o,PP,PP,eC,bo],?_⟩;have:=C.bh;rw[e6 (Nat.le_of_sub_eq_zero (q.trans o)) DO]at this;exact this
  .have u:Q.length<P.length:=Nat.lt_of_sub_ne_zero (by rw[q];exact o);obtain⟨S,m,T⟩:=ch.JC (ZQ (SZ D) u);rw[i]at m;have M:h^(a -1)≠0:=c9 ch.h0 _;refine⟨S,?_,?_,?_⟩
   .unfold hnext;rw[Bz o,m,rl ⟨S,rfl⟩,kA S M]
   .have e3:h^a=h^(a -1)*h:=by rw[<-Hb];congr 1;lia
    rw[m,e3];generalize h^(a -1)=x;grind
   .rw[T];exact U9 X (tm Fd 1) (Do (xb (ZQ (SZ D) (Fm u lp))) (zze _ _)) _ _
 obtain⟨S,hS,hh,bS⟩:=h2;rw[hS];have r:(R.map λx=>x.fdiv (d*h^a)).length=R.length:=Bi _;have I:(F.map λx=>x.fdiv (d*h^a)).length=F.length:=Bi _;have ql:(R.map λx=>x.fdiv (d*h^a)).getD (R.length -1) 0≠0:=λz=>by have e:=fd false (R.length -1);simp only[NI,zzg]at e;rw[z,dk]at e;exact zl e.symm
 refine⟨?_,by rw[r];exact CW,by rw[r];exact SZ lR,Do Fd l1,by rw[r];exact Do (SZ lR) Fd,?_,?_,C.bQ,vS,?_,bS⟩
 .rw[r];refine ch.step (L:=su g g.length) hL (λj=>?_) (by lia) rfl ql (λt ht=>?_) (by rw[i];exact hh)
  .rw[l,i,<-Z j,ar]
  .exact outI (by show(R.map λx=>x.fdiv (d*h^a)).length<=t;rw[r];lia)
 .rw[r];rcases C.Y0 with z|z
  .rw[z];show 0+_<=_;lia
  .lia
 .rw[I];rcases C.Y0 with z|z
  .right;exact Do (u3 (J z) _) lf
  .right;rw[Te,q,wt,On]at s;rw[(Nat.sub_eq_iff_eq_add DO).mp q]at z;rcases ey p.length (a+n.length)with y|y
   .rw[Nat.max_eq_right y]at s;refine Do (u3 s _) (Do (n4 ?_) z);rw[zz6 a,oo]
   .rw[Nat.max_eq_left y]at s;exact Do (u3 s _) lf
 .have:=C.bQ (false,Q.length -1);rw[<-U];exact this
end Sub
namespace Num
theorem CY(b:pR p)(a:0<l/\l<p)(h:p∣x*l):p∣x:=by have c:=sf b a.1 a.2;exact xD c (by rw[ar]at h;exact h)
theorem Fe(f g:Nat->Int):∀n,sm f n -sm g n=sm (λi=>f i -g i) n
 |0=>rfl
 |n+1=>by rw[sm,sm,sm,<-Fe f g n];lia
theorem JG(c:Int)(f h:Nat->Int)(k:Nat):jT (λi=>c*f i) h k=c*jT f h k:=by unfold jT;rw[<-uO];exact gZ _ λi _=>Yf ..
abbrev co(a:List Int):Nat->Int:=λi=>a.getD i 0
end Num
namespace Sub
open Num
theorem CS.size(X:FX ns ms e d w E)(C:CS ns ms e d w E m P Q k i b h)(f:2<=Q.length):
 b*h^(P.length -Q.length)≠0/\(b*h^(P.length -Q.length)).natAbs<=2^(w*E)/\(0<P.length -Q.length->h^(P.length -Q.length -1)≠0/\(h^(P.length -Q.length -1)).natAbs<=2^(w*E)):=by
 have ch:=C.ch;have l:=X.E1 (P.length -1);have DO:=C.DO;generalize n:P.length -Q.length=a at*;have c:∀j,j<=a->(h^j).natAbs<=2^(w*((ns.length -1+(ms.length -1) -2*(P.length -1))*(P.length -1))):=λj o=>by
  rw[g5];have g:h.natAbs^j<=2^(w*(ns.length -1+(ms.length -1) -2*(P.length -1))*j):=by rw[ky];exact bj C.bh j
  refine Do g (Ha (by decide) ?_);rw[mI];exact Fk _ (Fk _ (by lia))
 refine⟨Kt ch.YZ (c9 ch.h0 _),?_,λ_=>⟨c9 ch.h0 _,?_⟩⟩
 .rw[GT];refine Do (QR C.bl (c a (FC _))) ?_;rw[<-Y1,<-tq];exact Ha (by decide) (Fk _ (by lia))
 .exact Do (c (a -1) (by clear n DO l f;lia)) (Ha (by decide) (Fk _ (by lia)))
theorem CS.start(X:FX ns ms b a w E)(j:0<ms.length)(e:ms.getD (ms.length -1) 0≠0)(l:b.length+ms.length<=c)(k:a=[]\/a.length+ns.length<=c):CS ns ms b a w E c ns ms b a 1 1:=by
 obtain⟨M,h,g,m,f⟩:=X.M;have l1:=X.l1;have d:M<=2^(w*(ns.length -1+(ms.length -1)+1)):=by refine Do (Do (sT M (show 0<ns.length -1+(ms.length -1)+1 by omega)) f) (Ha (by decide) ?_);exact UV w (by omega)
 refine⟨Ch.start (by omega) rfl e (λt n=>outI (by omega)),j,l1,FC _,FC _,l,k,λi=>Do (h i) d,λi=>Do (g i) d,TB (by decide),TB (by decide)⟩
theorem CS.bd(C:CS ns ms f e w E g P Q c b d h):(∀x∈P,x.natAbs<=2^(w*(ns.length -1+(ms.length -1)+1)))/\(∀x∈Q,x.natAbs<=2^(w*(ns.length -1+(ms.length -1)+1)))/\(∀x∈c,x.natAbs<=2^(w*(ns.length -1+(ms.length -1)+1)))/\∀x∈b,x.natAbs<=2^(w*(ns.length -1+(ms.length -1)+1)):=by
 refine⟨λx a=>?_,λx a=>?_,λx a=>?_,λx a=>?_⟩
 .obtain⟨k,_,rfl⟩:=mem_getD a;exact C.bP (false,k)
 .obtain⟨k,_,rfl⟩:=mem_getD a;exact C.bQ (false,k)
 .obtain⟨k,_,rfl⟩:=mem_getD a;exact C.bP (true,k)
 .obtain⟨k,_,rfl⟩:=mem_getD a;exact C.bQ (true,k)
end Sub
namespace Num
noncomputable def Xp(t:Rat):Rat->List Rat->List Rat
 |r,[]=>[r]
 |r,s::a=>(r+t*s)::Xp t s a
noncomputable def hz(t:Int):List Int->List Int
 |[]=>[]
 |r::a=>(r+t*(hz t a).headD 0)::hz t a
noncomputable def cs(l:List Int):List Rat:=l.map λx:Int=>((x:Int):Rat)
noncomputable def sc(u b:Rat):List Rat->List Rat
 |[]=>[]
 |r::a=>r*u*b^a.length::sc u b a
def Tg(N n:Nat)(r:Rat):Prop:=r.num.natAbs<2^N/\r.den<2^n
theorem Bd.dd(h:Bd n a):Tg n n a:=h
noncomputable def gz(t:Int)(M:List Int)(k:Nat):Int:=(hz t (M.drop k)).headD 0
end Num
namespace Num
open Sub
theorem Ff(a:pR p)(h:p∣x*y):p∣x\/p∣y:=by
 have b:0<p:=by have:=a.1;lia
 by_cases c:y%p=0
 .exact .inr (zi c)
 .refine .inl (CY a (l:=y%p) ⟨?_,x5 _ b⟩ ?_)
  .have:=VN y (show p≠0 by lia);lia
  .have e:=Int.emod_add_mul_ediv y p;have d:x*(y%p)=x*y -p*(x*(y/p)):=by
    have:y%p=y -p*(y/p):=by lia
    rw[this];grind
   rw[d];exact b5 h ⟨_,rfl⟩
end Num
namespace Num
theorem kX(f:Nat->Rat):∀n,dU f (n+1)=f 0+dU (λi=>f (i+1)) n
 |0=>by rw[dU,dU,dU];grind
 |n+1=>by rw[dU,kX f n,dU];grind
theorem uR(c:Rat)(f:Nat->Rat):∀n,dU (λi=>c*f i) n=c*dU f n
 |0=>by rw[dU,dU];grind
 |n+1=>by rw[dU,uR c f n,dU];grind
theorem uS(f g:Nat->Rat):∀n,dU (λi=>f i+g i) n=dU f n+dU g n
 |0=>by rw[dU,dU,dU];grind
 |n+1=>by rw[dU,uS f g n,dU,dU];grind
theorem Bf:∀(n:Nat)(f:Nat->Rat),dU (λi=>f (n -i)) (n+1)=dU f (n+1)
 |0,f=>rfl
 |n+1,f=>by
  rw[kX,c8 (g:=λi=>f (n -i)) (n+1) λi hi=>by show f (n+1 -(i+1))=f (n -i);rw[show n+1 -(i+1)=n -i by lia],Bf n f,Km];have:dU f (n+1+1)=dU f (n+1)+f (n+1):=by rw[dU]
  rw[this];grind
theorem bG(f g:Nat->Rat)(k:Nat):aH f g k=aH g f k:=by unfold aH;rw[<-Bf];refine c8 _ λi a=>?_;show f (k -i)*g (k -(k -i))=g i*f (k -i);rw[show k -(k -i)=i by lia,zz2]
theorem aW(b:∀i,f i=f' i)(a:∀i,g i=g' i)(k:Nat):aH f g k=aH f' g' k:=by rw[show f=f' from funext b,show g=g' from funext a]
theorem fH(f g h:Nat->Rat)(k:Nat):aH (λi=>f i+g i) h k=aH f h k+aH g h k:=by unfold aH;rw[<-uS];exact c8 _ λi _=>ZM ..
theorem bV(c:Rat)(f h:Nat->Rat)(k:Nat):aH (λi=>c*f i) h k=c*aH f h k:=by unfold aH;rw[<-uR];exact c8 _ λi _=>dC ..
theorem p8(f g h:Nat->Rat)(k:Nat):aH f (λi=>g i+h i) k=aH f g k+aH f h k:=by rw[bG,fH,bG g,bG h]
theorem g6(c:Rat)(f h:Nat->Rat)(k:Nat):aH f (λi=>c*h i) k=c*aH f h k:=by rw[bG,bV,bG h]
theorem cW(f g:Nat->Rat):aH f g 0=f 0*g 0:=by unfold aH;rw[dU,dU];show 0+f 0*g (0 -0)=_;rw[mn]
theorem fJ(f g:Nat->Rat)(k:Nat):aH f g (k+1)=f 0*g (k+1)+aH (λi=>f (i+1)) g k:=by unfold aH;rw[kX];congr 1;exact c8 _ λi a=>by show f (i+1)*g (k+1 -(i+1))=f (i+1)*g (k -i);rw[show k+1 -(i+1)=k -i by lia]
theorem gB(g h:Nat->Rat):∀(k:Nat)(f:Nat->Rat),aH (aH f g) h k=aH f (aH g h) k
 |0,f=>by rw[cW,cW,cW,cW,dC]
 |k+1,f=>by rw[fJ,fJ f,cW,fJ g];have e:(λi=>aH f g (i+1))=λi=>f 0*g (i+1)+aH (λi=>f (i+1)) g i:=funext λi=>fJ f g i;rw[e,fH,bV,gB g h k];generalize aH (λi=>g (i+1)) h k=x;generalize aH (λi=>f (i+1)) (aH g h) k=y;generalize h (k+1)=z;grind
theorem uT(d:∀i,n<=i->f i=0)(c:∀i,m<=i->g i=0)(h:n+m<=k+1):aH f g k=0:=by
 unfold aH;rw[c8 (g:=λ_=>0) _ λi e=>?_]
 .have:∀n,dU (λ_=>0) n=0:=λn=>by
   induction n with
   |zero=>rfl
   |succ n b=>rw[dU,b];grind
  exact this _
 .show f i*g (k -i)=0;by_cases a:n<=i
  .rw[d i a,Y2]
  .rw[c _ (by lia),Pv]
theorem oG(c:∀i,n<i->f i=0)(b:∀i,m<i->g i=0):aH f g (n+m)=f n*g m:=by
 unfold aH;have e:dU (λi=>f i*g (n+m -i)) (n+m+1)=dU (λi=>f i*g (n+m -i)) (n+1):=pW _ (by lia) λi h _=>by show f i*g (n+m -i)=0;rw[c i (by lia),Y2]
 rw[e,dU];have z:dU (λi=>f i*g (n+m -i)) n=0:=by
  rw[c8 (g:=λ_=>0) _ λi d=>by show f i*g (n+m -i)=0;rw[b _ (by lia),Pv]];have:∀n,dU (λ_=>0) n=0:=λn=>by
   induction n with
   |zero=>rfl
   |succ n a=>rw[dU,a];grind
  exact this _
 rw[z,mn,show n+m -n=m by lia]
abbrev cQ(a:List Rat):Nat->Rat:=λi=>a.getD i 0
def Fin(f:Nat->Rat):Prop:=∃n,∀i,n<=i->f i=0
theorem aI(a:List Rat):Fin (cQ a):=⟨a.length,λi b=>jC b⟩
theorem Fin.add(d:Fin f)(c:Fin g):Fin λi=>f i+g i:=by obtain⟨n,a⟩:=d;obtain⟨m,b⟩:=c;exact⟨max n m,λi e=>by show f i+g i=0;rw[a i (by lia),b i (by lia)];grind⟩
theorem Fin.mul(d:Fin f)(c:Fin g):Fin (aH f g):=by obtain⟨n,a⟩:=d;obtain⟨m,b⟩:=c;exact⟨n+m,λi e=>uT a b (by lia)⟩
def DQ(g a:Nat->Rat):Prop:=∃s,Fin s/\∀k,a k=aH s g k
theorem DQ.trans(b:DQ f g)(a:DQ g h):DQ f h:=by obtain⟨s,d,i⟩:=b;obtain⟨t,c,e⟩:=a;refine⟨aH t s,c.mul d,λk=>?_⟩;rw[e k,gB];exact aW (λ_=>rfl) i k
theorem DQ.add(d:DQ g a)(c:DQ g b):DQ g λk=>a k+b k:=by obtain⟨s,f,j⟩:=d;obtain⟨t,e,h⟩:=c;exact⟨λi=>s i+t i,f.add e,λk=>by show a k+b k=_;rw[j k,h k,fH]⟩
theorem DQ.mul(u:Nat->Rat)(b:Fin u)(h:DQ g a):DQ g (aH u a):=by obtain⟨s,c,d⟩:=h;refine⟨aH u s,b.mul c,λk=>?_⟩;rw[gB];exact aW (λ_=>rfl) d k
theorem DQ.ext(h:DQ g a)(e:∀k,b k=a k):DQ g b:=by obtain⟨s,c,d⟩:=h;exact⟨s,c,λk=>by rw[e k,d k]⟩
theorem p9(g:Nat->Rat)(k:Nat):aH (λi=>if i=0 then 1 else 0) g k=g k:=by rw[JE (λi a=>Bz (by lia))];show(1:Rat)*_=_;rw[cq]
theorem DQ.refl(g:Nat->Rat):DQ g g:=⟨λi=>if i=0 then 1 else 0,⟨1,λi a=>Bz (by lia)⟩,λk=>(p9 g k).symm⟩
theorem cO(g:Nat->Rat)(k:Nat):aH (λ_=>0) g k=0:=by
 unfold aH;have:∀n,dU (λi=>(0:Rat)*g (k -i)) n=0:=λn=>by
  induction n with
  |zero=>rfl
  |succ n a=>rw[dU,a];grind
 exact this _
theorem DQ.zero(g:Nat->Rat):DQ g λ_=>0:=⟨λ_=>0,⟨0,λ_ _=>rfl⟩,λk=>(cO g k).symm⟩
structure Mon(g:List Rat):Prop where
 ne:g≠[]
 one:g.getD (g.length -1) 0=1
theorem jU(h:Fin f)(k:Nat)(c:f k≠0):∃n,f n≠0/\∀i,n<i->f i=0:=by
 obtain⟨n,a⟩:=h
 induction n with
 |zero=>exact absurd (a k (Os _)) c
 |succ n b=>
  by_cases e:f n=0
  .refine b λi d=>?_;by_cases g:i=n
   .rw[g];exact e
   .exact a i (by lia)
  .exact⟨n,e,λi d=>a i (by lia)⟩
theorem DQ.sub(f:DQ g a)(e:DQ g b):DQ g λk=>a k -b k:=by obtain⟨t,h,j⟩:=e;have:DQ g λk=> -1*b k:=⟨λi=> -1*t i,by obtain⟨n,c⟩:=h;exact⟨n,λi d=>by show-1*t i=0;rw[c i d];grind⟩,λk=>by show-1*b k=_;rw[j k,bV]⟩;exact(f.add this).ext λk=>by show a k -b k=a k+ -1*b k;grind
theorem Fg(u:aq b)(A:b≠[])(o:aq r)(C:r.length<b.length)(h:DQ (cQ b) (cQ r)):r=[]:=by
 rcases List.eq_nil_or_concat r with e|⟨t,y,e⟩
 .exact e
 .rw[List.concat_eq_append]at e;obtain⟨s,v,d⟩:=h;have B:=Jn.mpr A;have l:r.getD t.length 0=y:=by rw[e,AC,NM (FC _),vk];rfl
  have k:y≠0:=o y (by rw[e];exact ZK);have x:b.getD (b.length -1) 0≠0:=by refine u _ ?_;rw[KM,AC,D2 (by lia)];rfl
  have:∃j,s j≠0:=Ee λz=>k (by have z:∀j,s j=0:=λj=>Ee λw=>z ⟨j,w⟩;have:=d t.length;rw[aW (f':=λ_=>0) z (λ_=>rfl),cO]at this;exact l.symm.trans this);obtain⟨j,q⟩:=this;obtain⟨n,p,c⟩:=jU v j q;have a:=oG (f:=s) (g:=cQ b) (n:=n) (m:=b.length -1) c (λi D=>jC (by lia));rw[<-d]at a;have z:cQ r (n+(b.length -1))=0:=jC (by lia);rw[z]at a;rcases Kk.mp a.symm with w|w
  .exact absurd w p
  .exact absurd w x
theorem tY(j:Fin s)(e:aq b)(o:b≠[])(h:∀k,aH s (cQ b) k=0):∀i,s i=0:=λi=>Ee λc=>by
 have p:=Jn.mpr o;have l:b.getD (b.length -1) 0≠0:=by refine e _ ?_;rw[KM,AC,D2 (by lia)];rfl
 obtain⟨n,d,a⟩:=jU j i c;have t:=oG (f:=s) (g:=cQ b) (n:=n) (m:=b.length -1) a (λi c=>jC (by lia));rw[h]at t;rcases Kk.mp t.symm with w|w
 .exact d w
 .exact l w
end Num
namespace Num
open Sub
abbrev cz(a:List Int):Nat->Rat:=λi=>((a.getD i 0:Int):Rat)
theorem qe(f g:Nat->Int)(k:Nat):aH (λi=>(f i:Rat)) (λi=>(g i:Rat)) k=((jT f g k:Int):Rat):=by have:=Jw (f:=λi=>(f i:Rat)) (g:=λi=>(g i:Rat)) (F:=f) (G:=g) (A:=1) (C:=1) (λi=>mf _) (λi=>mf _) k;rw[mf,mf]at this;exact this
theorem DQ.sc(c:Rat)(h:DQ d f):DQ d λk=>c*f k:=by obtain⟨s,⟨n,a⟩,e⟩:=h;refine⟨λi=>c*s i,⟨n,λi b=>by dsimp only;rw[a i b,Pv]⟩,λk=>?_⟩;dsimp only;rw[bV,e k]
theorem DQ.Y4(a:c≠0)(h:DQ d λk=>c*f k):DQ d f:=
 (h.sc c⁻¹).ext λk=>by have:=OK c a;grind
theorem oH(c:Rat)(p:Nat)(g:Nat->Rat)(k:Nat):aH (λi=>if i=p then c else 0) g k=if p<=k then c*g (k -p)else 0:=by
 have:∀(p:Nat)(k:Nat),aH (λi=>if i=p then c else 0) g k=if p<=k then c*g (k -p)else 0:=by
  intro p
  induction p with
  |zero=>
   intro k;have:=bV c (λi=>if i=0 then 1 else 0) g k;rw[p9]at this;rw[D1 (Os _),Km,<-this];refine aW (λi=>?_) (λ_=>rfl) k;by_cases h:i=0
   .rw[D1 h,D1 h,mf]
   .rw[Bz h,Bz h,Pv]
  |succ p a=>
   intro k;cases k with
   |zero=>rw[cW,Bz (by lia),Bz (by lia),Y2]
   |succ k=>
    rw[fJ,Bz (by lia),Y2,mn];have e:(λi=>if i+1=p+1 then c else 0)=λi=>if i=p then c else 0:=funext λi=>by
     by_cases h:i=p
     .rw[D1 h,D1 (by lia)]
     .rw[Bz h,Bz (by lia)]
    rw[e,a k];by_cases h:p<=k
    .rw[D1 h,D1 (by lia),show k+1 -(p+1)=k -p by lia]
    .rw[Bz h,Bz (by lia)]
 exact this p k
theorem JH(z:aq b)(C:b≠[]):∀(n:Nat)(a:List Rat),a.length<=n->∃(q:Nat->Rat)(r:List Rat),Fin q/\aq r/\r.length<b.length/\∀k,cQ a k=aH q (cQ b) k+cQ r k:=by
 have t:=Jn.mpr C;have s:b.getD (b.length -1) 0≠0:=by refine z _ ?_;rw[KM,D2 (by lia),AC,D2 (by lia)];rfl
 intro n
 induction n with
 |zero=>intro a j;refine⟨λ_=>0,[],⟨0,λ_ _=>rfl⟩,λx v=>(by cases v),t,λk=>?_⟩;rw[Oy.mp (xf.mp j),cO];show(0:Rat)=0+0;grind
 |succ n u=>
  intro a j;by_cases w:a.length<b.length
  .exact⟨λ_=>0,iI a,⟨0,λ_ _=>rfl⟩,kU a,HI (CU a) w,λk=>by rw[cO,mn];exact(AY a k).symm⟩
  .generalize E:a.length -b.length=d;generalize y:a.getD (a.length -1) 0*(b.getD (b.length -1) 0)⁻¹=c;obtain⟨q,r,B,o,p,e⟩:=u (sj (a.length -1) λk=>cQ a k -if d<=k then c*cQ b (k -d)else 0) (by rw[pT];lia);refine⟨λi=>q i+if i=d then c else 0,r,Fin.add B ⟨d+1,λi D=>Bz (by lia)⟩,o,p,λk=>?_⟩;rw[fH,oH];have f:=e k;have f:(sj (a.length -1) λk=>cQ a k -if d<=k then c*cQ b (k -d)else 0).getD k 0=_:=f;rw[uM]at f;by_cases m:k<a.length -1
   .rw[D1 m]at f;grind
   .rw[Bz m]at f;by_cases A:k=a.length -1
    .have h:cQ b (k -d)=b.getD (b.length -1) 0:=by rw[show k -d=b.length -1 by lia]
     have g:cQ a k=a.getD (a.length -1) 0:=by rw[A]
     rw[D1 (by lia),h,g,<-y];have:=OK _ s;grind
    .have h:cQ a k=0:=jC (by lia);have g:(if d<=k then c*cQ b (k -d)else 0)=0:=by
      by_cases l:d<=k
      .rw[D1 l,show cQ b (k -d)=0 from jC (by lia),Pv]
      .rw[Bz l]
     rw[h,g];grind
theorem OI:∀(n:Nat)(a b:List Rat),b.length<=n->aq a->aq b->∃(g:List Rat)(u v:Nat->Rat),aq g/\Fin u/\Fin v/\DQ (cQ g) (cQ a)/\DQ (cQ g) (cQ b)/\∀k,cQ g k=aH u (cQ a) k+aH v (cQ b) k:=by
 have c:∀(a:List Rat),aq a->∃(g:List Rat)(u v:Nat->Rat),aq g/\Fin u/\Fin v/\DQ (cQ g) (cQ a)/\DQ (cQ g) (cQ [])/\∀k,cQ g k=aH u (cQ a) k+aH v (cQ []) k:=λa z=>⟨a,λi=>if i=0 then 1 else 0,λ_=>0,z,⟨1,λi y=>Bz (by lia)⟩,⟨0,λ_ _=>rfl⟩,DQ.refl _,DQ.zero _,λk=>by rw[p9,cO,zz3]⟩;intro n
 induction n with
 |zero=>intro a b h f d;rw[Oy.mp (xf.mp h)];exact c a f
 |succ n x=>
  intro a b h f d;by_cases o:b=[]
  .rw[o];exact c a f
  .obtain⟨q,r,l,p,G,e⟩:=JH d o a.length a (FC _);obtain⟨g,u,v,s,C,j,m,F,E⟩:=x b r (by lia) d p;refine⟨g,v,λi=>u i+ -1*aH v q i,s,j,?_,?_,m,λk=>?_⟩
   .obtain⟨w,B⟩:=C;obtain⟨t,A⟩:=j.mul l;exact⟨w+t,λi y=>by dsimp only;rw[B i (by lia),A i (by lia)];grind⟩
   .exact(DQ.add (DQ.mul q l m) F).ext λk=>e k
   .rw[E k,fH,bV,gB];have D:aH v (cQ r) k=aH v (cQ a) k -aH v (aH q (cQ b)) k:=by have:aH v (cQ a) k=aH v (λi=>aH q (cQ b) i+cQ r i) k:=aW (λ_=>rfl) e k;rw[p8]at this;grind
    rw[D];grind
end Num
namespace Num
theorem g7(h:aq c)(a:c≠[]):c.getD (c.length -1) 0≠0:=by have l:=Jn.mpr a;refine h _ ?_;rw[KM,AC,D2 (hX l ZW)];rfl
end Num
namespace Num
open Sub
def qf(a b r:List Rat):Prop:=aq r/\r.length<b.length/\∃q:Nat->Rat,Fin q/\∀k,cQ a k=aH q (cQ b) k+cQ r k
theorem qf.one(c:x≠0):qf a [x] []:=by
 have e:∀i,cQ [x] i=if i=0 then x else 0:=λi=>by
  cases i with
  |zero=>rfl
  |succ i=>rfl
 have hz:aq []:=λy b=>by cases b
 refine⟨hz,ZW,λi=>x⁻¹*cQ a i,⟨a.length,λi d=>by dsimp only;rw[show cQ a i=0 from jC d];grind⟩,λk=>?_⟩;rw[bV,bG,aW (g:=cQ a) e (λ_=>rfl),oH,D1 (Os k)];have:=OK x c;show _=x⁻¹*(x*cQ a k)+0;grind
theorem zA(r:List Rat)(k:Nat):cQ (jD r) k= -cQ r k:=by
 show(r.map λx=> -x).getD k 0= -(r.getD k 0);rw[AC,FR,AC];cases r[k]? with
 |none=>show(0:Rat)= -0;grind
 |some z=>rfl
theorem xM(h:aq r):aq (jD r):=λx a=>by unfold jD at a;rw[sk]at a;obtain⟨y,b,rfl⟩:=L9.mp a;have:=h y b;grind
theorem Bg(r:List Rat):(jD r).length=r.length:=Bi _
theorem Fi(h:r≠[]):jD r≠[]:=λz=>h (va.mp z)
inductive r6:List Rat->List Rat->List (List Rat)->Prop
 |nil {a b:List Rat} (h:qf a b []):r6 a b []
 |cons {a b r:List Rat} {l:List (List Rat)} (h:qf a b r) (h0:r≠[]) (k:r6 b (jD r) l):r6 a b (jD r::l)
def Bl(N n:Nat)(x:Rat):Prop:=x.num.natAbs<=2^N/\x.den<=2^n
theorem Bl.up(h:Bl N n x)(d:N<=b)(c:n<=a):Bl b a x:=⟨Do h.1 (Ha (by decide) d),Do h.2 (Ha (by decide) c)⟩
theorem Bl.div(d:t.natAbs<=2^N)(c:b.natAbs<=2^n)(a:b≠0):Bl N n (An t b):=⟨Do (uK t b a).1 d,Do (uK t b a).2 c⟩
theorem Bl.mul(b:Bl N n x)(a:Bl M m y):Bl (N+M) (n+m) (x*y):=by
 have e:x*y=An (x.num*y.num) ((x.den:Int)*y.den):=by
  conv=>lhs;rw[<-SC x,<-SC y]
  exact Yl ..
 rw[e];have d:=x.den_pos;have c:=y.den_pos;refine Bl.div ?_ ?_ (Kt (by lia) (by lia))
 .rw[GT,Y1];exact QR b.1 a.1
 .rw[GT,BB,BB,Y1];exact QR b.2 a.2
theorem Bl.neg(h:Bl N n x):Bl N n (-x):=⟨by rw[Rat.neg_num,Int.natAbs_neg];exact h.1,by rw[Rat.neg_den];exact h.2⟩
structure Sm(ns ms:List Int)(w E D0:Nat)(A B:List Int)(ld h:Int)(α β:Rat)(a b:List Rat):Prop where
 C:CS ns ms [] [] w E (ms.length+1) A B [] [] ld h
 ea:∀k,cQ a k=α*(A.getD k 0:Int)
 eb:∀k,cQ b k=β*(B.getD k 0:Int)
 JI:α≠0
 Xq:β≠0
 la:a.length=A.length
 lb:b.length=B.length
 za:aq a
 zb:aq b
 Xr:Bl (D0+w*E*(2*ns.length -A.length -B.length)) (D0+w*(ns.length -1+(ms.length -1)+1)*(2*ns.length -A.length -B.length)) α
 bβ:Bl (D0+w*E*(2*ns.length -A.length -B.length)) (D0+w*(ns.length -1+(ms.length -1)+1)*(2*ns.length -A.length -B.length)) β
theorem zB(c:x≠0)(b:R=[]\/R.getD (R.length -1) 0≠0):aq (R.map λy:Int=>x*(y:Rat)):=λz hz=>by
 rw[sk]at hz;obtain⟨y,a,rfl⟩:=L9.mp hz;rcases b with e|e
 .rw[e]at a;cases a
 .rw[KM]at a;rw[AC,a]at e;intro z;rcases Kk.mp z with z|z
  .exact c z
  .exact e (GM.mp z)
theorem Fj(R:List Int)(x:Rat)(k:Nat):cQ (R.map λy:Int=>x*(y:Rat)) k=x*((R.getD k 0:Int):Rat):=by
 show(R.map λy:Int=>x*(y:Rat)).getD k 0=_;rw[AC,FR,AC];cases R[k]? with
 |none=>show(0:Rat)=x*((0:Int):Rat);grind
 |some z=>rfl
section
variable{ns ms A B Qs R:List Int}{w E D0:Nat}{ld h c:Int}{α β:Rat}{a b:List Rat}
theorem Sm.rem(S:Sm ns ms w E D0 A B ld h α β a b)(r:c≠0)(q:∀k,R.getD k 0=c*A.getD k 0 -cf Qs B Qs.length k)(m:R.length<B.length)(d:R=[]\/R.getD (R.length -1) 0≠0):qf a b (R.map λy:Int=>α/c*(y:Rat)):=by
 have l:(c:Rat)≠0:=λz=>r (GM.mp z);have Xq:=S.Xq;have JI:=S.JI;have g:α/(c:Rat)≠0:=λz=>by
  have:α=α/(c:Rat)*c:=by grind
  rw[z]at this;exact JI (by grind)
 refine⟨zB g d,by rw[Bi,S.lb];exact m,λi=>α/(c*β)*((Qs.getD i 0:Int):Rat),⟨Qs.length,λi n=>by dsimp only;rw[outI n];show _*((0:Int):Rat)=0;grind⟩,λk=>?_⟩;rw[Fj,bV,aW (f:=λi=>((Qs.getD i 0:Int):Rat)) (g':=λi=>β*((B.getD i 0:Int):Rat)) (λ_=>rfl) S.eb,g6,qe,S.ea k];have e:=q k;rw[f7]at e;have e:((R.getD k 0:Int):Rat)=c*((A.getD k 0:Int):Rat) -((jT (λi=>Qs.getD i 0) (λi=>B.getD i 0) k:Int):Rat):=by rw[e,SF,BM];rfl
 rw[e];generalize((jT (λi=>Qs.getD i 0) (λi=>B.getD i 0) k:Int):Rat)=u;generalize((A.getD k 0:Int):Rat)=v;have j:(c:Rat)*β≠0:=λz=>by
  rcases Kk.mp z with z|z
  .exact l z
  .exact Xq z
 have p:α/(c*β)*(β*u)=α/c*u:=by grind
 have o:α/(c:Rat)*(c*v -u)=α*v -α/c*u:=by grind
 rw[p,o];grind
theorem Sm.next(X:FX ns ms [] [] w E)(S:Sm ns ms w E D0 A B ld h α β a b)(u:2<=B.length)(e:c=B.getD (B.length -1) 0^(A.length -B.length+1))(I:Qs.length=A.length -B.length+1)(p:∀k,R.getD k 0=c*A.getD k 0 -cf Qs B Qs.length k)(j:R.length<B.length)(i:R=[]\/R.getD (R.length -1) 0≠0)(v:R≠[]):
 jD (R.map λy:Int=>α/c*(y:Rat))=((R.map λy=>y.fdiv (ld*h^(A.length -B.length))).map λy:Int=> -(α*An (ld*h^(A.length -B.length)) c)*(y:Rat))/\
 Sm ns ms w E D0 B (R.map λy=>y.fdiv (ld*h^(A.length -B.length))) (B.getD (B.length -1) 0) (hnext h (B.getD (B.length -1) 0) (A.length -B.length)) β (-(α*An (ld*h^(A.length -B.length)) c)) b (jD (R.map λy:Int=>α/c*(y:Rat))):=by
 have CV:B.getD (B.length -1) 0≠0:=S.C.ch.CV;have f:c≠0:=by rw[e];exact c9 CV _
 have q:=S.C.step X u e I p j i (F:=[]) (λk=>by
  have:cf Qs [] Qs.length k=0:=by rw[Js];rfl
  rw[this];show(0:Int)=c*0 -0;lia) (Os _) (λ_=>FC _)
 obtain⟨l,r,D,_,_,_,g⟩:=q;have g:=g v;have DO:=S.C.DO;have lp:=S.C.lp;have Fd:=S.C.Fd;have l1:=X.l1;have G:=(S.C.bd).2.1 _ (getD_mem' (k:=B.length -1) (by lia));generalize s:ld*h^(A.length -B.length)=d at*;have K:(c:Rat)≠0:=λz=>f (GM.mp z);have J:(d:Rat)≠0:=λz=>l (GM.mp z);have JI:=S.JI;have m:An d c=(d:Rat)/c:=mM ..;have o:jD (R.map λy:Int=>α/c*(y:Rat))=((R.map λy=>y.fdiv d).map λy:Int=> -(α*An d c)*(y:Rat)):=by unfold jD;rw[U2,U2];refine kS λx t=>?_;obtain⟨y,rfl⟩:=D x t;show-(α/c*((d*y:Int):Rat))= -(α*An d c)*(((d*y).fdiv d:Int):Rat);rw[rl ⟨y,rfl⟩,kA y l,m,BM];grind
 have H: -(α*An d c)≠0:=λz=>by
  rw[m]at z;have:α= -(-(α*((d:Rat)/c)))*c/d:=by grind
  rw[z]at this;exact JI (by grind)
 refine⟨o,g,S.eb,λk=>by rw[o,Fj],S.Xq,H,S.lb,by rw[Bg,Bi,Bi],S.zb,xM (S.rem f p j i).1,S.bβ.up ?_ ?_,Bl.neg ((S.Xr.mul (Bl.div r (n:=w*(ns.length -1+(ms.length -1)+1)*(A.length -B.length+1)) ?_ f)).up ?_ ?_)⟩
 .rw[Bi];exact vT (Fk _ (by lia)) _
 .rw[Bi];exact vT (Fk _ (by lia)) _
 .rw[e,g5,ky];exact bj G _
 .rw[Bi,oo,<-RV];exact vT (Fk _ (by lia)) _
 .rw[Bi,oo,<-tq];exact vT (Fk _ (by lia)) _
end
noncomputable def dW(ns:List Int):List Int:=(Bn (ns.length -1)).map λi=>((i+1:Nat):Int)*ns.getD (i+1) 0
noncomputable def bF(a:List Rat):List Rat:=sj (a.length -1) λi=>((i+1:Nat):Rat)*a.getD (i+1) 0
theorem fK(ns:List Int):(dW ns).length=ns.length -1:=by unfold dW;simp
theorem gC(a:List Rat):(bF a).length=a.length -1:=pT _ _
theorem uU(ns:List Int)(k:Nat):(dW ns).getD k 0=((k+1:Nat):Int)*ns.getD (k+1) 0:=by
 unfold dW;rw[AC,FR];by_cases h:k<ns.length -1
 .rw[dt h];rfl
 .rw[Gc (by simpa using h),outI (ns:=ns) (by lia),T1];rfl
theorem jl(a:List Rat)(k:Nat):cQ (bF a) k=((k+1:Nat):Rat)*cQ a (k+1):=by
 show(sj _ _).getD k 0=_;rw[uM];split
 .rfl
 .rw[show cQ a (k+1)=0 from jC (by lia)];grind
theorem Vb(h:∀s,s<m+1->∀p,p<m+1->(s -2*p)*p+(s+1)<=E):∀s,s<=m->∀p,(s -2*p)*p+(s+1)<=E:=λs b p=>by
 by_cases a:p<m+1
 .exact h s (by lia) p a
 .have:=h s (by lia) 0 (by lia);rw[show s -2*p=0 by lia,Xl];lia
theorem Vd(l:2<=ns.length)(j:2*ns.length<=m+3)(a:ns.length<=50)(b:∀x∈ns,x.natAbs<=M)(h:1<=M)(f:(2*ns.length -2)*((ns.length -1)*M)<=2^w)(g:∀s,s<m+1->∀p,p<m+1->(s -2*p)*p+(s+1)<=E):FX ns (dW ns) [] [] w E:=by
 have c:M<=(ns.length -1)*M:=sT M (by lia);have e:∀k,(ns.getD k 0).natAbs<=M:=λk=>by
  by_cases d:k<ns.length
  .exact b _ (getD_mem' d)
  .rw[outI (by lia)];exact Os _
 refine⟨by rw[fK];lia,a,⟨(ns.length -1)*M,λi=>?_,λi=>?_,Do h c,?_⟩,λp=>?_⟩
 .obtain⟨z,k⟩:=i;cases z
  .exact Do (e k) c
  .exact Os _
 .obtain⟨z,k⟩:=i;cases z
  .show((dW ns).getD k 0).natAbs<=_;rw[uU,GT,BB];by_cases d:k+1<ns.length
   .exact QR (by lia) (e _)
   .rw[outI (by lia)];exact Os _
  .exact Os _
 .rw[fK,show ns.length -1+(ns.length -1 -1)+1=2*ns.length -2 by lia];exact f
 .rw[fK];exact Vb g _ (by lia) p
theorem Sm.start(P:FX ns (dW ns) [] [] w E)(p:2<=ns.length)(m:ns.getD (ns.length -1) 0≠0)(e:∀k,cQ a k=α*((ns.getD k 0:Int):Rat))(l:a.length=ns.length)(z:aq a)(i:α≠0)(g:Bl 26 26 α):Sm ns (dW ns) w E 26 ns (dW ns) 1 1 α α a (bF a):=by
 have c:=fK ns;have b:(dW ns).getD ((dW ns).length -1) 0≠0:=by rw[uU,c,show ns.length -1 -1+1=ns.length -1 by lia];exact Kt (by lia) m
 have j:aq (bF a):=λx d=>by
  rw[KM]at d;have f:cQ (bF a) ((bF a).length -1)=x:=by show(bF a).getD _ 0=x;rw[AC,d];rfl
  rw[jl,gC,show a.length -1 -1+1=a.length -1 by lia]at f;have o:=kW z (by lia);have n:((a.length -1:Nat):Rat)≠0:=λh=>by have:((a.length -1:Nat):Int)=0:=GM.mp h;lia
  rw[<-f];intro h;rcases Kk.mp h with h|h
  .exact n h
  .exact o h
 refine⟨CS.start P (by rw[c];lia) b (by show 0+_<=_;lia) (.inl rfl),e,λk=>?_,i,i,l,by rw[gC,c,l],z,j,g.up (W1 _ _) (W1 _ _),g.up (W1 _ _) (W1 _ _)⟩;rw[jl,uU,e (k+1),BM];show((k+1:Nat):Rat)*_=α*(((k+1:Nat):Rat)*_);grind
end Num
namespace Num
def ab(u A:Rat):Prop:= -A<=u/\u<=A
theorem iQ{a b:Rat}(d:0<=a)(c:0<=b):0<=a*b:=PH d c
theorem ao(b:ab u A)(a:ab v B):ab (u*v) (A*B):=by obtain⟨i,a2⟩:=b;obtain⟨h,g⟩:=a;have f:=iQ (show 0<=A -u by grind) (show 0<=B -v by grind);have e:=iQ (show 0<=A+u by grind) (show 0<=B+v by grind);have d:=iQ (show 0<=A -u by grind) (show 0<=B+v by grind);have c:=iQ (show 0<=A+u by grind) (show 0<=B -v by grind);constructor<;>grind
theorem fL(b:ab u A)(a:ab v B):ab (u+v) (A+B):=by unfold ab at*;grind
theorem aZ(h:ab u A)(a:A<=B):ab u B:=by unfold ab at*;grind
def In(a b x:Rat):Prop:=a<=x/\x<=b
structure Smt(a b:Rat)(f g:Rat->Rat)(C:Rat):Prop where
 f0:∀x,In a b x->ab (f x) C
 g0:∀x,In a b x->ab (g x) C
 l:∀x y,In a b x->In a b y->x<=y->ab (f y -f x) (C*(y -x))
 d:∀x y,In a b x->In a b y->x<=y->ab (f y -f x -(y -x)*g x) (C*((y -x)*(y -x)))
noncomputable def dv(x:Rat):List Rat->Rat
 |[]=>0
 |_::a=>ev x a+x*dv x a
theorem In.ab(h:In a b x):∃M,0<=M/\∀x,In a b x->ab x M:=by
 by_cases e: -a<=b
 .by_cases d:0<=b
  .exact⟨b,d,λx c=>⟨by have:=c.1;grind,c.2⟩⟩
  .exact⟨-a,by unfold In at h;grind,λx c=>by unfold In at*;constructor<;>grind⟩
 .exact⟨-a,by unfold In at h;grind,λx c=>by unfold In at*;constructor<;>grind⟩
theorem bY(x r:Rat)(a:List Rat):ev x (r::a)=r+x*ev x a:=rfl
theorem qg(h:a<=b):∀c:List Rat,∃C,0<=C/\Smt a b (λx=>ev x c) (λx=>dv x c) C
 |[]=>⟨0,by grind,λx _=>by show Num.ab 0 0;unfold Num.ab;grind,λx _=>by show Num.ab 0 0;unfold Num.ab;grind,λx y _ _ _=>by show Num.ab (0 -0) _;unfold Num.ab;grind,λx y _ _ _=>by show Num.ab (0 -0 -_*0) _;unfold Num.ab;grind⟩
 |r::c=>by
  obtain⟨C,u,S⟩:=qg h c;obtain⟨M,t,j⟩:=In.ab (x:=a) (a:=a) (b:=b) ⟨by grind,h⟩;have R:∃R,0<=R/\Num.ab r R:=by
   by_cases o:0<=r
   .exact⟨r,o,by grind,by grind⟩
   .exact⟨-r,by grind,by grind,by grind⟩
  obtain⟨R,n,s⟩:=R;have p:=iQ t u;refine⟨R+M*C+C,by grind,λx f=>?_,λx f=>?_,λx y f i g=>?_,λx y f i g=>?_⟩
  .exact aZ (fL s (ao (j x f) (S.f0 x f))) (by grind)
  .show Num.ab (ev x c+x*dv x c) _;exact aZ (fL (S.f0 x f) (ao (j x f) (S.g0 x f))) (by grind)
  .show Num.ab (r+y*ev y c -(r+x*ev x c)) _;have e:r+y*ev y c -(r+x*ev x c)=y*(ev y c -ev x c)+(y -x)*ev x c:=by grind
   rw[e];have m:0<=y -x:=by grind
   have k:Num.ab (y -x) (y -x):=⟨by grind,by grind⟩;have q:=iQ n m;exact aZ (fL (ao (j y i) (S.l x y f i g)) (ao k (S.f0 x f))) (by grind)
  .show Num.ab (r+y*ev y c -(r+x*ev x c) -(y -x)*(ev x c+x*dv x c)) _;have e:r+y*ev y c -(r+x*ev x c) -(y -x)*(ev x c+x*dv x c)=y*(ev y c -ev x c -(y -x)*dv x c)+(y -x)*(y -x)*dv x c:=by grind
   rw[e];have m:0<=y -x:=by grind
   have k:Num.ab (y -x) (y -x):=⟨by grind,by grind⟩;have q:=iQ n (iQ m m);exact aZ (fL (ao (j y i) (S.d x y f i g)) (ao (ao k k) (S.g0 x f))) (by grind)
structure dJ(a b:Rat)where
 l:Nat->Rat
 r:Nat->Rat
 lt:∀n,l n<r n
 up:∀n,l n<=l (n+1)
 dn:∀n,r (n+1)<=r n
 a0:a<=l 0
 b0:r 0<=b
 sm:∀e:Rat,0<e->∃n,r n -l n<=e
def dJ.I{a b:Rat}(N:dJ a b)(n:Nat)(x:Rat):Prop:=In (N.l n) (N.r n) x
theorem dJ.mono(N:dJ a b):∀{m:Nat},n<=m->N.I m x->N.I n x
 |0,h,c=>by cases xf.mp h;exact c
 |m+1,h,c=>by
  by_cases e:n=m+1
  .rw[e];exact c
  .have:=N.up m;have:=N.dn m;refine N.mono (m:=m) (by lia) ?_;unfold dJ.I In at*;grind
theorem dJ.base(N:dJ a b)(h:N.I n x):In a b x:=by have h:=N.mono (Os n) h;have:=N.a0;have:=N.b0;unfold dJ.I In at*;grind
def dJ.Z{a b:Rat}(N:dJ a b)(f:Rat->Rat):Prop:=∀e:Rat,0<e->∃n,∀x,N.I n x->ab (f x) e
def dJ.P{a b:Rat}(N:dJ a b)(s:Rat)(f:Rat->Rat):Prop:=(s=1\/s= -1)/\∃c,0<c/\∃n,∀x,N.I n x->c<=s*f x
def OJ(a b:Rat)(f:Rat->Rat):Prop:=∃L,0<=L/\∀x y,In a b x->In a b y->x<=y->ab (f y -f x) (L*(y -x))
def Xs(a b:Rat)(f:Rat->Rat):Prop:=∃B,0<=B/\∀x,In a b x->ab (f x) B
theorem dJ.DR(N:dJ a b)(h:OJ a b f):N.Z f\/∃s,N.P s f:=by
 by_cases z:N.Z f
 .exact .inl z
 .refine .inr ?_;obtain⟨L,K,q⟩:=h;have v:∃e:Rat,0<e/\∀n,∃x,N.I n x/\¬ab (f x) e:=Ee λB=>z λe j=>Ee λp=>B ⟨e,j,λn=>Ee λg=>p ⟨n,λx C=>Ee λm=>g ⟨x,C,m⟩⟩⟩;obtain⟨e,t,j⟩:=v;have E:(0:Rat)<2*(L+1):=by grind
  obtain⟨n,p⟩:=N.sm (e*(2*(L+1))⁻¹) (GE t (Pi.mpr E));obtain⟨x,g,m⟩:=j n;have d:∀y,N.I n y->ab (f y -f x) (e*2⁻¹):=λy c=>by
   have k:∀d:Rat,0<=d->d<=N.r n -N.l n->L*d<=e*2⁻¹:=λd J G=>by
    have D:d<=e*(2*(L+1))⁻¹:=by grind
    have o:=Da D (show(0:Rat)<=L+1 by grind);have H:(L+1)*(e*(2*(L+1))⁻¹)=e*2⁻¹:=by
     have:(2*(L+1))*(2*(L+1))⁻¹=1:=Fs _ (by grind);have o:(2:Rat)*2⁻¹=1:=by grind
     grind
    grind
   have A:=g;have w:=c;unfold dJ.I In at A w;by_cases i:x<=y
   .exact aZ (q x y (N.base g) (N.base c) i) (k _ (by grind) (by grind))
   .have h:=aZ (q y x (N.base c) (N.base g) (by grind)) (k _ (by grind) (by grind));unfold ab at*;grind
  have u:(0:Rat)<e*2⁻¹:=GE t (Pi.mpr (by decide));have o:e*2⁻¹+e*2⁻¹=e:=by
   have o:(2:Rat)*2⁻¹=1:=by grind
   grind
  unfold ab at m;by_cases F:0<=f x
  .refine⟨1,.inl rfl,e*2⁻¹,u,n,λy c=>?_⟩;have:=d y c;unfold ab at this;grind
  .refine⟨-1,.inr rfl,e*2⁻¹,u,n,λy c=>?_⟩;have:=d y c;unfold ab at this;grind
noncomputable def df(a b:Rat):Nat:=if 0<a then(if 0<b then 0 else 1)else(if 0<b then 1 else 0)
noncomputable def uV(b:Rat):List Rat->Nat
 |[]=>0
 |x::l=>if x=0 then uV b l else(if b=0 then 0 else df b x)+uV x l
noncomputable def chg(l:List Rat):Nat:=uV 0 l
theorem xN(b:Rat)(l:List Rat):uV b (0::l)=uV b l:=D1 rfl
theorem qh(a:x≠0)(c:b≠0)(l:List Rat):uV b (x::l)=df b x+uV x l:=by show(if x=0 then _ else _)=_;rw[Bz a,Bz c]
theorem uW(a:x≠0)(l:List Rat):chg (x::l)=uV x l:=by show(if x=0 then _ else _)=_;rw[Bz a,D1 rfl,lh]
theorem xO(l:List Rat):chg (0::l)=chg l:=xN 0 l
theorem nS(d:s=1\/s= -1)(c:t=1\/t= -1)(f:0<s*a)(e:0<t*b):df a b=df s t:=by
 unfold df;rcases d with rfl|rfl<;>rcases c with rfl|rfl
 .rw[D1 (by grind),D1 (by grind),D1 (by decide),D1 (by decide)]
 .rw[D1 (by grind),Bz (by grind),D1 (by decide),Bz (by decide)]
 .rw[Bz (by grind),D1 (by grind),Bz (by decide),D1 (by decide)]
 .rw[Bz (by grind),Bz (by grind),Bz (by decide),Bz (by decide)]
theorem g8{s a:Rat}(h:0<s*a):a≠0:=λe=>by rw[e,Pv]at h;exact absurd h (by decide)
theorem JJ(e:s=1\/s= -1)(g:0<s*a)(f:0< -s*c)(l:List Rat):uV a (b::c::l)=1+uV c l:=by
 have m:=g8 g;have k:=g8 f;have d: -s=1\/-s= -1:=by rcases e with rfl|rfl<;>grind
 have j:df s (-s)=1:=by
  rcases e with rfl|rfl
  .decide+kernel
  .decide+kernel
 have n:∀t:Rat,t=1\/t= -1->df t t=0:=λt o=>by
  rcases o with rfl|rfl
  .decide+kernel
  .decide+kernel
 by_cases i:b=0
 .rw[i,xN,qh k m,nS e d g f,j]
 .rw[qh i m,qh k i];have p:0<s*b\/0< -s*b:=by rcases e with rfl|rfl<;>grind
  rcases p with h|h
  .rw[nS e e g h,nS e d h f,j,n s e,lh]
  .rw[nS e d g h,nS d d h f,j,n _ d,lh]
inductive Ch(a b:Rat):List (Rat->Rat)->Prop
 |one {f:Rat->Rat} (c:Rat) (h0:c≠0) (h:∀x,In a b x->f x=c):Ch a b [f]
 |two {f g:Rat->Rat} (hf:OJ a b f) (h:Ch a b [g]):Ch a b [f,g]
 |cons {f g h:Rat->Rat} {l:List (Rat->Rat)} (hf:OJ a b f) (α β:Rat) (q:Rat->Rat) (a0:0<α) (b0:0<β) (hq:Xs a b q) (e:∀x,In a b x->α*f x+β*h x=q x*g x) (k:Ch a b (g::h::l)):Ch a b (f::g::h::l)
theorem Ch.Io(h:Ch a b (f::l)):OJ a b f:=by
 cases h with
 |one c i h=>exact⟨0,by grind,λx y g e _=>by rw[h x g,h y e];unfold ab;grind⟩
 |two d h=>exact d
 |cons d _ _ _ _ _ _ _ _=>exact d
theorem Ch.tail(h:Ch a b (f::g::l)):Ch a b (g::l):=by
 cases h with
 |two c h=>exact h
 |cons c _ _ _ _ _ _ _ k=>exact k
variable{a b:Rat}(N:dJ a b)
theorem dJ.P.Ve{N:dJ a b}(h:N.P s f):∃n,∀m,n<=m->∀x,N.I m x->0<s*f x:=by obtain⟨_,c,g,n,h⟩:=h;exact⟨n,λm e x d=>by have:=h x (N.mono e d);grind⟩
theorem dJ.P.noZ{N:dJ a b}(h:N.P s f):¬N.Z f:=λz=>by
 obtain⟨d,c,j,n,h⟩:=h;have k:(2:Rat)*2⁻¹=1:=by grind
 obtain⟨m,e⟩:=z (c*2⁻¹) (GE j (Pi.mpr (by decide)));have i:N.I (max n m) (N.l (max n m)):=⟨by grind,FK (N.lt _)⟩;have o:=h _ (N.mono (pj n m) i);have g:=e _ (N.mono (tI n m) i);unfold ab at g;rcases d with rfl|rfl<;>grind
theorem Ch.Fl(h:Ch a b [f]):∃s,N.P s f:=by
 cases h with
 |one c g h=>
  by_cases e:0<c
  .exact⟨1,.inl rfl,c,e,0,λx d=>by rw[h x (N.base d)];grind⟩
  .exact⟨-1,.inr rfl,-c,by grind,0,λx d=>by rw[h x (N.base d)];grind⟩
theorem OL(I:0<α)(o:0<c)(t:Xs a b q)(e:∀x,In a b x->α*f x+c*h x=q x*g x)(r:N.Z f)(p:N.Z g):N.Z h:=λd j=>by
 obtain⟨B,J,w⟩:=t;have s:0<α+B+1:=by grind
 have y:=Pi.mpr s;have D:(α+B+1)*(α+B+1)⁻¹=1:=Fs _ (by grind);have l:0<c*d*(α+B+1)⁻¹:=GE (GE o j) y;generalize C:c*d*(α+B+1)⁻¹=k at l;obtain⟨n,u⟩:=r k l;obtain⟨m,v⟩:=p k l;refine⟨max n m,λx i=>?_⟩;have H:=e x (N.base i);have z:=u x (N.mono (pj n m) i);have G:=ao (w x (N.base i)) (v x (N.mono (tI n m) i));have F:=ao (show ab α α from⟨by grind,by grind⟩) z;have E:(α+B+1)*k=c*d:=by rw[<-C];grind
 unfold ab at*;have up:c*h x<=c*d:=by grind
 have A:c*(-d)<=c*h x:=by grind
 exact⟨hZ A o,hZ up o⟩
theorem Ch.xP:∀{f g:Rat->Rat}{l:List (Rat->Rat)},Ch a b (f::g::l)->¬(N.Z f/\N.Z g)
 |f,g,[],h,z=>by obtain⟨s,c⟩:=Ch.Fl N h.tail;exact c.noZ z.2
 |f,g,k::l,h,z=>by
  cases h with
  |cons o n m q j i d e t=>exact Ch.xP t ⟨z.2,OL N j i d e z.1 z.2⟩
theorem Vf(o:0<α)(l:0<d)(u:Xs a b q)(e:∀x,In a b x->α*f x+d*h x=q x*g x)(r:N.P s f)(p:N.Z g):N.P (-s) h:=by
 obtain⟨j,c,K,n,v⟩:=r;obtain⟨B,S,y⟩:=u;have Q:(2:Rat)*2⁻¹=1:=by grind
 have t:0<B+1:=by grind
 have z:=Pi.mpr t;have O:(B+1)*(B+1)⁻¹=1:=Fs _ (by grind);have L:=GE o K;have k:0<α*c*2⁻¹:=GE L (Pi.mpr (by decide));have J:0<α*c*2⁻¹*(B+1)⁻¹:=GE k z;obtain⟨m,w⟩:=p _ J;have M:d*d⁻¹=1:=Fs _ (by grind);refine⟨by rcases j with rfl|rfl<;>grind,α*c*2⁻¹*d⁻¹,GE k (Pi.mpr l),max n m,λx i=>?_⟩;have I:=e x (N.base i);have H:=v x (N.mono (pj n m) i);have G:=ao (y x (N.base i)) (w x (N.mono (tI n m) i));have R:=Da H (FK o);have F:B*(α*c*2⁻¹*(B+1)⁻¹)<=α*c*2⁻¹:=by
  have:(B+1)*(α*c*2⁻¹*(B+1)⁻¹)=α*c*2⁻¹:=by grind
  grind
 have E:ab (s*(q x*g x)) (α*c*2⁻¹):=by have:=aZ G F;unfold ab at*;rcases j with rfl|rfl<;>grind
 have D:d*(α*c*2⁻¹*d⁻¹)<=d*(-s*h x):=by
  have C:d*(-s*h x)=α*(s*f x) -s*(q x*g x):=by rw[<-I];grind
  have A:d*(α*c*2⁻¹*d⁻¹)=α*c*2⁻¹:=by grind
  rw[C,A];unfold ab at E;grind
 exact hZ D l
theorem Ch.same:∀(M:Nat){f:Rat->Rat}{l:List (Rat->Rat)}{s:Rat},l.length<=M->Ch a b (f::l)->N.P s f->∃n K,∀m,n<=m->∀x,N.I m x->uV (f x) (l.map (· x))=K
 |M,f,[],s,_,h,p=>⟨0,0,λm _ x _=>rfl⟩
 |0,f,_::_,s,i,h,p=>by simp at i
 |M+1,f,g::l,s,i,h,p=>by
  obtain⟨v,w⟩:=p.Ve;rcases N.DR h.tail.Io with z|⟨t,d⟩
  .cases l with
   |nil=>obtain⟨t,d⟩:=Ch.Fl N h.tail;exact absurd z d.noZ
   |cons k l=>
    cases h with
    |cons H G F q E D B e A=>have pk:=Vf N E D B e p z;obtain⟨o,u⟩:=pk.Ve;obtain⟨j,K,r⟩:=Ch.same M (by simp at i⊢;lia) A.tail pk;refine⟨max v (max o j),1+K,λm C x c=>?_⟩;show uV (f x) (g x::k x::l.map (· x))=_;rw[JJ p.1 (w m (by lia) x c) (u m (by lia) x c),r m (by lia) x c]
  .obtain⟨o,u⟩:=d.Ve;obtain⟨j,K,r⟩:=Ch.same M (by simp at i⊢;lia) h.tail d;refine⟨max v (max o j),df s t+K,λm C x c=>?_⟩;have y:=w m (by lia) x c;have a2:=u m (by lia) x c;show uV (f x) (g x::l.map (· x))=_;rw[qh (g8 a2) (g8 y),nS p.1 d.1 y a2,r m (by lia) x c]
def OM(a b:Rat)(f g:Rat->Rat):Prop:=∃C,0<=C/\∀x y,In a b x->In a b y->x<=y->ab (f y -f x -(y -x)*g x) (C*((y -x)*(y -x)))
noncomputable def uX(l:List (Rat->Rat))(x:Rat):Nat:=chg (l.map (· x))
section
variable{a b:Rat}(N:dJ a b)
theorem OM.Vg(h:OM a b f g)(p:N.P s g):∃n,∀m,n<=m->∀x y,N.I m x->N.I m y->x<y->s*f x<s*f y:=by
 obtain⟨C,Q,v⟩:=h;obtain⟨r,c,G,n,t⟩:=p;have j:0<C+1:=by grind
 have w:=Pi.mpr j;have K:(C+1)*(C+1)⁻¹=1:=Fs _ (by grind);obtain⟨e,u⟩:=N.sm (c*(C+1)⁻¹) (GE G w);refine⟨max n e,λm H x y i k q=>?_⟩;have O:=t x (N.mono (by lia) i);have E:=v x y (N.base i) (N.base k) (by grind);have D:y -x<=c*(C+1)⁻¹:=by have o:=N.mono (show e<=m by lia) i;have l:=N.mono (show e<=m by lia) k;unfold dJ.I In at o l;grind
 generalize J:y -x=d at*;have F:0<d:=by grind
 have B:=Da D (FK j);have A:(C+1)*(c*(C+1)⁻¹)=c:=by grind
 have M:(C+1)*d<=c:=by rw[<-A];exact B
 have z:C*d<s*g x:=by grind
 have L:=WR z F;unfold ab at E;rcases r with rfl|rfl<;>grind
theorem Ch.nR(h:Ch a b (f::g::l))(r:OM a b f g)(z:N.Z f):∃s,(s=1\/s= -1)/\∃n K,∀m,n<=m->(∀x y,N.I m x->N.I m y->x<y->s*f x<s*f y)/\∀x,N.I m x->uX (f::g::l) x=K+if s*f x<0 then 1 else 0:=by
 rcases N.DR h.tail.Io with k|⟨s,d⟩
 .exact absurd ⟨z,k⟩ (h.xP N)
 .obtain⟨q,w⟩:=r.Vg N d;obtain⟨p,v⟩:=d.Ve;obtain⟨o,K,u⟩:=Ch.same N _ (FC _) h.tail d;refine⟨s,d.1,max q (max p o),K,λm A=>⟨w m (by lia),λx j=>?_⟩⟩;have a2:=v m (by lia) x j;have a3:=u m (by lia) x j;show chg (f x::g x::l.map (· x))=_;by_cases i:f x=0
  .rw[i,xO,uW (g8 a2),a3,Bz (by rw[Pv];decide),fb]
  .rw[uW i,qh (g8 a2) i,a3,zz6];congr 1;have c:=d.1;have DR:0<s*f x\/0< -s*f x:=by rcases c with rfl|rfl<;>grind
   have e: -s=1\/-s= -1:=by rcases c with rfl|rfl<;>grind
   rcases DR with t|t
   .rw[nS c c t a2,Bz (by grind)];rcases c with rfl|rfl<;>decide+kernel
   .rw[nS e c t a2,D1 (by grind)];rcases c with rfl|rfl<;>decide+kernel
theorem Ch.tZ(h:Ch a b (f::l))(p:N.P s f):∃n K,∀m,n<=m->∀x,N.I m x->uX (f::l) x=K:=by obtain⟨e,i⟩:=p.Ve;obtain⟨d,K,g⟩:=Ch.same N _ (FC _) h p;refine⟨max e d,K,λm j x c=>?_⟩;show chg (f x::l.map (· x))=_;rw[uW (g8 (i m (by lia) x c)),g m (by lia) x c]
theorem Ch.Vh(h:Ch a b (f::g::l))(m:OM a b f g):∃n,∀x y,N.I n x->N.I n y->x<y->uX (f::g::l) y<=uX (f::g::l) x:=by
 rcases N.DR h.Io with z|⟨s,p⟩
 .obtain⟨s,q,n,K,e⟩:=h.nR N m z;obtain⟨o,j⟩:=e n (FC _);refine⟨n,λx y d c i=>?_⟩;rw[j x d,j y c];have:=o x y d c i;by_cases k:s*f y<0
  .rw[D1 k,D1 (by grind)];exact FC _
  .rw[Bz k];exact W1 _ _
 .obtain⟨n,K,e⟩:=h.tZ N p;exact⟨n,λx y d c _=>by rw[e n (FC _) x d,e n (FC _) y c];exact FC _⟩
end
section
variable(dM:Rat->Rat->Prop)
def iJ(p:Rat×Rat):Rat×Rat:=
 have:=jh (dM p.1 ((p.1+p.2)*2⁻¹))
 if dM p.1 ((p.1+p.2)*2⁻¹)then(p.1,(p.1+p.2)*2⁻¹)else((p.1+p.2)*2⁻¹,p.2)
def cK(p:Rat×Rat):Nat->Rat×Rat
 |0=>p
 |n+1=>iJ dM (cK p n)
variable{dM}
theorem qi(h:p.1<p.2)(e:∀l m r,l<m->m<r->m=(l+r)*2⁻¹->dM l r->dM l m\/dM m r)(d:dM p.1 p.2):dM (iJ dM p).1 (iJ dM p).2/\(iJ dM p).1<(iJ dM p).2/\p.1<=(iJ dM p).1/\(iJ dM p).2<=p.2/\(iJ dM p).2 -(iJ dM p).1=(p.2 -p.1)*2⁻¹:=by
 have f:(2:Rat)*2⁻¹=1:=by grind
 unfold iJ;by_cases c:dM p.1 ((p.1+p.2)*2⁻¹)
 .simp only[D1 c];exact⟨c,by grind,by grind,by grind,by grind⟩
 .simp only[Bz c];refine⟨?_,by grind,by grind,by grind,by grind⟩;rcases e p.1 ((p.1+p.2)*2⁻¹) p.2 (by grind) (by grind) rfl d with k|k
  .exact absurd k c
  .exact k
theorem fD(h:p.1<p.2)(d:∀l m r,l<m->m<r->m=(l+r)*2⁻¹->dM l r->dM l m\/dM m r)(c:dM p.1 p.2):∀n,dM (cK dM p n).1 (cK dM p n).2/\(cK dM p n).1<(cK dM p n).2/\((cK dM p n).2 -(cK dM p n).1)*2^n=p.2 -p.1
 |0=>⟨c,h,by show(p.2 -p.1)*2^0=_;rw[my];grind⟩
 |n+1=>by
  obtain⟨k,e,j⟩:=fD h d c n;obtain⟨i,g,q,o,f⟩:=qi e d k;refine⟨i,g,?_⟩;show((iJ dM (cK dM p n)).2 -(iJ dM (cK dM p n)).1)*2^(n+1)=_;rw[f,<-j,cm];have e:(2:Rat)*2⁻¹=1:=by grind
  grind
theorem qj:∀n:Nat,((n:Nat):Rat)<=2^n
 |0=>by rw[my];decide
 |n+1=>by
  have h:=qj n;have c:∀n:Nat,(1:Rat)<=2^n:=λn=>by
   induction n with
   |zero=>rw[my];grind
   |succ n d=>rw[cm];grind
  have c:=c n;rw[cm];have e:((n+1:Nat):Rat)=((n:Nat):Rat)+1:=by show(((n+1:Nat):Int):Rat)=(((n:Nat):Int):Rat)+((1:Int):Rat);rw[<-RF];rfl
  grind
theorem Y5{x e:Rat}(g:0<x)(c:0<e):∃n:Nat,x<=e*2^n:=by
 have f:=Pi.mpr c;have d:e*e⁻¹=1:=Fs _ (by grind);have p:=GE g f;refine⟨(x*e⁻¹).num.natAbs,?_⟩;have k:=qj (x*e⁻¹).num.natAbs;have q:x*e⁻¹<=(((x*e⁻¹).num.natAbs:Nat):Rat):=by
  generalize x*e⁻¹=y at p;have l:0<=y.num:=Rat.num_nonneg.mpr (FK p);have o:=eS y;have j:(1:Rat)<=((y.den:Int):Rat):=by
   have:(1:Int)<=y.den:=by have:=y.den_pos;lia
   exact FV.mpr this
  have m:=Da j (FK p);have i:((y.num.natAbs:Nat):Rat)=((y.num:Int):Rat):=by show(((y.num.natAbs:Nat):Int):Rat)=_;rw[Int.natAbs_of_nonneg (by lia)]
  rw[i];grind
 have r:=Da (rp q k) (FK c);have h:e*(x*e⁻¹)=x:=by rw[zz2 x,<-dC,d,cq]
 rw[h]at r;exact r
def JK{a b:Rat}(h:a<b)(d:∀l m r,l<m->m<r->m=(l+r)*2⁻¹->dM l r->dM l m\/dM m r)(f:dM a b):dJ a b where
 l n:=(cK dM (a,b) n).1
 r n:=(cK dM (a,b) n).2
 lt n:=(fD (p:=(a,b)) h d f n).2.1
 up n:=by obtain⟨j,i,_⟩:=fD (p:=(a,b)) h d f n;exact(qi i d j).2.2.1
 dn n:=by obtain⟨j,i,_⟩:=fD (p:=(a,b)) h d f n;exact(qi i d j).2.2.2.1
 a0:=by show a<=a;grind
 b0:=by show b<=b;grind
 sm e he:=by obtain⟨n,o⟩:=Y5 (show 0<b -a by grind) he;obtain⟨_,_,g⟩:=fD (p:=(a,b)) h d f n;have g:((cK dM (a,b) n).2 -(cK dM (a,b) n).1)*2^n=b -a:=g;have k:(0:Rat)<2^n:=Rat.pow_pos (by decide);refine⟨n,Rat.le_of_mul_le_mul_right (c:=2^n) ?_ k⟩;rw[g];exact o
theorem qo(h:a<b)(e:∀l m r,l<m->m<r->m=(l+r)*2⁻¹->dM l r->dM l m\/dM m r)(g:∀N:dJ a b,∃n,∀x y,N.I n x->N.I n y->x<y->¬dM x y):¬dM a b:=λd=>by obtain⟨n,f⟩:=g (JK h e d);obtain⟨i,c,_⟩:=fD (p:=(a,b)) h e d n;exact f _ _ ⟨by show(cK dM (a,b) n).1<=(cK dM (a,b) n).1;grind,FK c⟩ ⟨FK c,by show(cK dM (a,b) n).2<=(cK dM (a,b) n).2;grind⟩ c i
end
theorem Ch.gx(h:a<b)(o:Ch a b (f::g::l))(j:OM a b f g):uX (f::g::l) b<=uX (f::g::l) a:=by have k:=qo (dM:=λx y=>uX (f::g::l) x<uX (f::g::l) y) h (λl m r _ _ _ p=>by lia) (λN=>by obtain⟨n,i⟩:=o.Vh N j;exact⟨n,λx y e d c=>by have:=i x y e d c;lia⟩);lia
theorem Ch.stay(h:a<b)(e:Ch a b (f::l))(q:0<c)(o:∀x,In a b x->¬ab (f x) c):uX (f::l) a=uX (f::l) b:=by
 have k:=qo (dM:=λx y=>uX (f::l) x≠uX (f::l) y) h (λl m r _ _ _ t=>by lia) (λN=>by
  rcases N.DR e.Io with z|⟨s,p⟩
  .obtain⟨n,d⟩:=z c q;have i:N.I n (N.l n):=⟨by grind,FK (N.lt n)⟩;exact absurd (d _ i) (o _ (N.base i))
  .obtain⟨n,K,d⟩:=e.tZ N p;exact⟨n,λx y j g _=>by rw[d n (FC _) x j,d n (FC _) y g];exact λh=>h rfl⟩)
 exact Xi.mp k
end Num
namespace Num
open Sub
theorem uY{P:Nat->Prop}(h:∃i,¬P i):∃i,¬P i/\∀j,j<i->P j:=by
 obtain⟨i,d⟩:=h
 induction i using Nat.strongRecOn with
 |ind i c=>
  by_cases z:∃j,j<i/\¬P j
  .obtain⟨j,b,a⟩:=z;exact c j b a
  .exact⟨i,d,λj b=>Ee λa=>z ⟨j,b,a⟩⟩
theorem Fo:∀n,(∀i,i<n->p∣f i)->p∣sm f n
 |0,_=>zzc _
 |n+1,h=>by rw[sm];exact hV (Fo n λi hi=>h i (by lia)) (h n (by lia))
theorem CZ(m:pR p)(o:∃i,¬p∣g i)(h:∀k,p∣jT f g k)(j:Nat):p∣f j:=by
 refine Ee λa=>?_;obtain⟨i,n,l⟩:=uY (P:=λi=>p∣g i) o;obtain⟨j,a,d⟩:=uY (P:=λj=>p∣f j) ⟨j,a⟩;have e:=h (j+i);unfold jT at e;have c:p∣sm (λt=>f t*g (j+i -t)) (j+i+1) -sm (λt=>if t=j then f j*g i else 0) (j+i+1):=by
  rw[Fe];refine Fo _ λt s=>?_;show p∣f t*g (j+i -t) -(if t=j then f j*g i else 0);by_cases b:t=j
  .rw[D1 b,b,show j+i -j=i by lia,Int.sub_self];exact zzc _
  .rw[Bz b,zzb];by_cases q:t<j
   .exact Int.dvd_mul_of_dvd_left (d t q)
   .exact y3 (l _ (by lia))
 rw[uP j λ_=>f j*g i,D1 (by lia)]at c;have r:p∣f j*g i:=by have:=b5 e c;rw[show sm (λt=>f t*g (j+i -t)) (j+i+1) -(sm (λt=>f t*g (j+i -t)) (j+i+1) -f j*g i)=f j*g i by lia]at this;exact this
 exact(Ff m r).elim a n
theorem C1(h:2<=d):∃p,pR p/\p∣d:=by
 have g:∃i:Nat,¬(i<2\/¬(i:Int)∣d):=⟨d.toNat,λz=>z.elim (λz=>by lia) λz=>z (by rw[MH (by lia)];exact Rn _)⟩;obtain⟨i,b,c⟩:=uY g;have k:2<=i:=by refine h7 λz=>b (.inl z)
 have a:(i:Int)∣d:=Ee λz=>b (.inr z);refine⟨i,⟨by lia,λe n m z=>?_⟩,a⟩;have j:e∣(i:Int):=zi z;have f:e.toNat<i:=by have l:e*2<=e*e:=fI (by lia) (by lia);lia
 rcases c e.toNat f with z|z
 .lia
 .exact z (by rw[MH (by lia)];exact N0 j a)
theorem Vi{f g n:Nat->Int}(u:∀e:Int,(∀i,e∣g i)->e∣1):∀(m:Nat)(d:Int)(f:Nat->Int),d.natAbs<=m->d≠0->(∀k,d*n k=jT f g k)->∀i,d∣f i:=by
 intro m
 induction m with
 |zero=>intro d f h c;exact absurd (by lia) c
 |succ m t=>
  intro d f h c e;by_cases v:d.natAbs=1
  .intro i;exact⟨d*f i,by rcases Int.natAbs_eq d with z|z<;>rw[v]at z<;>rw[z]<;>grind⟩
  .obtain⟨p,l,b⟩:=C1 (d:=(d.natAbs:Int)) (by lia);have b:p∣d:=eE.mp b;have w:=l.1;obtain⟨a,rfl⟩:=b;have r:∀i,p∣f i:=CZ l (Ee λz=>by have:=eJ (by decide) (u p λi=>Ee λy=>z ⟨i,y⟩);lia) λk=>⟨a*n k,by rw[<-e k,Yf]⟩;have j:a≠0:=λz=>c (by rw[z,T1]);have o:∀i,f i=p*(f i/p):=λi=>(zzm (r i)).symm;have s:a.natAbs<=m:=by
    rw[GT]at h;have A:2*a.natAbs<=p.natAbs*a.natAbs:=X9 _ (by lia);have x:0<a.natAbs:=by lia
    lia
   have:=t a (λi=>f i/p) s j λk=>by have q:=e k;rw[show f=λi=>p*(f i/p)from funext o,JG,Yf]at q;exact QQ (by lia) q
   intro i;rw[o i];exact zzn _ (this i)
theorem C2(h:Fin u):∃(D:Int)(f:Nat->Int),D≠0/\∀i,(D:Rat)*u i=f i:=by
 obtain⟨n,b⟩:=h;have:∃D:Int,0<D/\∀i,i<n->∃z:Int,(D:Rat)*u i=z:=by
  clear b
  induction n with
  |zero=>exact⟨1,by decide,λi h=>by lia⟩
  |succ n k=>
   obtain⟨D,j,a⟩:=k;have l:=(u n).den_pos;refine⟨D*(u n).den,eP j (by lia),λi c=>?_⟩;by_cases e:i=n
   .subst e;have g:=gA (x:=u i) (B:=(u i).den) (Rn _);rw[eu (by lia),eC]at g;refine⟨D*(u i).num,?_⟩;rw[BM,BM,g,dC,zz2 (u i)]
   .obtain⟨z,hz⟩:=a i (by lia);refine⟨z*(u n).den,?_⟩;rw[BM,BM,<-hz];grind
 obtain⟨D,j,a⟩:=this;have d:∀i,∃z:Int,(D:Rat)*u i=z:=λi=>if c:i<n then a i c else⟨0,by rw[b i (by lia),Pv];rfl⟩
 exact⟨D,λi=>YS (d i),by lia,λi=>WO (d i)⟩
theorem JL{g n:Nat->Int}(j:Fin u)(c:∀e:Int,(∀i,e∣g i)->e∣1)(h:∀k,((n k:Int):Rat)=aH u (λi=>(g i:Rat)) k):∃z:Nat->Int,∀i,u i=(z i:Rat):=by
 obtain⟨D,f,a,e⟩:=C2 j;have d:=Vi (f:=f) (n:=n) c D.natAbs D f (FC _) a λk=>by
  have:((D*n k:Int):Rat)=((jT f g k:Int):Rat):=by rw[<-qe,BM,h k,<-bV];exact aW e (λ_=>rfl) k
  exact_mod_cast this
 refine⟨λi=>f i/D,λi=>?_⟩;have l:(D:Rat)≠0:=by exact_mod_cast a
 have:=e i;rw[<-zzm (d i),BM]at this;have b:=OK (D:Rat) l;have:=SU ((D:Rat)⁻¹*·) this;rw[<-dC,<-dC,b,cq,cq]at this;exact this
theorem JM(I:0<ns.length)(v:ns.getD (ns.length -1) 0≠0)(L:0<g.length)(A:g.getD (g.length -1) 0≠0)(one:∀d:Int,(∀x∈g,d∣x)->d∣1)(h:DQ (cz g) (cz ns)):
 ∃Z:List Int,0<Z.length/\ns.length+1=Z.length+g.length/\(∀k,ns.getD k 0=jT (co Z) (co g) k)/\ns.getD (ns.length -1) 0=Z.getD (Z.length -1) 0*g.getD (g.length -1) 0:=by
 obtain⟨u,r,e⟩:=h;obtain⟨z,hz⟩:=JL (g:=co g) (n:=co ns) r (λd D=>one d λx B=>by obtain⟨i,c,e⟩:=UF B;have:=D i;unfold co at this;rw[AC,D2 c]at this;rw[<-e];exact this) e;have l:((g.getD (g.length -1) 0:Int):Rat)≠0:=by exact_mod_cast A
 have j:((ns.getD (ns.length -1) 0:Int):Rat)≠0:=by exact_mod_cast v
 have q:∀i,g.length -1<i->cz g i=0:=λi c=>by show((g.getD i 0:Int):Rat)=0;rw[outI (by lia)];rfl
 have p:∃k,u k≠0:=Ee λy=>j (by have b:=e (ns.length -1);have:=aW (f':=λ_=>0) (g:=cz g) (λi=>Ee λw=>y ⟨i,w⟩) (λ_=>rfl) (ns.length -1);rw[this,cO]at b;exact b);obtain⟨k,p⟩:=p;obtain⟨t,C,o⟩:=jU r k p;have a:=oG (f:=u) (g:=cz g) (n:=t) (m:=g.length -1) o q;rw[<-e]at a;have K:t+(g.length -1)<ns.length:=by
  refine S5 λy=>?_;have b:cz ns (t+(g.length -1))=0:=by show((ns.getD _ 0:Int):Rat)=0;rw[outI y];rfl
  rw[b]at a;rcases Kk.mp a.symm with w|w
  .exact C w
  .exact l w
 have J:ns.length -1<=t+(g.length -1):=by refine h7 λy=>j ?_;exact(e (ns.length -1)).trans (uT (n:=t+1) (m:=g.length) (λi c=>o i (by lia)) (λi c=>q i (by lia)) (by lia))
 have E:ns.length -1=t+(g.length -1):=by lia
 have s:∀i,co ((Bn (t+1)).map z) i=z i:=λi=>by
  show((Bn (t+1)).map z).getD i 0=_;by_cases c:i<t+1
  .rw[AC,FR,dt c];rfl
  .rw[outI (by rw[Bi,de];lia)];have:=o i (by lia);rw[hz i]at this;exact_mod_cast this.symm
 refine⟨(Bn (t+1)).map z,by rw[Bi,de];lia,by rw[Bi,de];lia,λk=>?_,?_⟩
 .rw[show co ((Bn (t+1)).map z)=z from funext s];have b:=e k;rw[aW hz (λ_=>rfl) k]at b;have G:=qe z (co g) k;have F:((ns.getD k 0:Int):Rat)=((jT z (co g) k:Int):Rat):=b.trans G;exact_mod_cast F
 .rw[Bi,de,On];have H:((Bn (t+1)).map z).getD t 0=z t:=s t;rw[H];rw[<-E,hz t]at a;have a:((ns.getD (ns.length -1) 0:Int):Rat)=(z t:Rat)*((g.getD (g.length -1) 0:Int):Rat):=a;rw[<-BM]at a;exact_mod_cast a
theorem Fq:∀n,(∀i,i<n->(f i).natAbs<=B)->(sm f n).natAbs<=n*B
 |0,_=>by rw[sm];simp
 |n+1,h=>by rw[sm];have h1:=Fq n λi a=>h i (by lia);have c:=h n (by lia);have b:=dc (sm f n) (f n);rw[R1];lia
instance:Std.Associative aH:=⟨λf g h=>funext λk=>gB g h k f⟩
instance:Std.Commutative aH:=⟨λf g=>funext λk=>bG f g k⟩
theorem OO(ff:Fin f)(j:Fin h)(d:aq b)(l:b≠[])(e:aH f (cQ b)=aH h (cQ b)):f=h:=funext λi=>by
 have g:Fin λi=> -1*h i:=by obtain⟨n,a⟩:=j;exact⟨n,λi c=>by show-1*h i=0;rw[a i c];grind⟩
 have:=tY (s:=λi=>f i+ -1*h i) (ff.add g) d l (λk=>by rw[fH,bV,e];grind) i;have this:f i+ -1*h i=0:=this;grind
theorem Bh(g:Nat->Rat):aH (cQ [1]) g=g:=funext λk=>by rw[aW (f':=λi=>if i=0 then 1 else 0) (g':=g) (λi=>?_) (λ_=>rfl) k,p9];cases i<;>rfl
abbrev Pq:=Nat->Rat
noncomputable def iR(f:Pq):Pq:=λk=>((k+1:Nat):Rat)*f (k+1)
noncomputable def I1:Pq:=cQ [1]
theorem Vj:Fin I1:=aI [1]
theorem MP(g:Pq):aH I1 g=g:=Bh g
theorem Vk(g:Pq):aH g I1=g:=(R0 (op:=aH) g I1).trans (Bh g)
theorem jm{f:Pq}(h:Fin f):Fin (iR f):=by obtain⟨n,a⟩:=h;exact⟨n,λi b=>by show _*f (i+1)=0;rw[a _ (by lia),Pv]⟩
theorem Ft(f g:Pq):iR (aH f g)=λk=>aH (iR f) g k+aH f (iR g) k:=funext λk=>by
 have c:aH (iR f) g k=dU (λi=>((i:Nat):Rat)*(f i*g (k+1 -i))) (k+2):=by rw[kX];unfold aH iR;rw[show((0:Nat):Rat)*(f 0*g (k+1 -0))=0 from Y2 _,mn];exact c8 _ λi _=>by rw[show k+1 -(i+1)=k -i by lia,dC]
 have b:aH f (iR g) k=dU (λi=>((k+1 -i:Nat):Rat)*(f i*g (k+1 -i))) (k+2):=by show _=dU _ (k+1)+((k+1 -(k+1):Nat):Rat)*(f (k+1)*g (k+1 -(k+1)));rw[show k+1 -(k+1)=0 by lia];rw[show((0:Nat):Rat)*(f (k+1)*g 0)=0 from Y2 _,zz3];unfold aH iR;exact c8 _ λi a=>by rw[show k+1 -i=k -i+1 by lia];grind
 rw[c,b,<-uS];show _*aH f g (k+1)=_;unfold aH;rw[<-uR];exact c8 _ λi a=>by
  rw[<-ZM];congr 1;have:k+1=i+(k+1 -i):=by lia
  exact_mod_cast this
theorem aS{f:Pq}(h:Fin f):∃a:List Rat,aq a/\cQ a=f:=by
 obtain⟨n,b⟩:=h;refine⟨iI (sj n f),kU _,funext λi=>?_⟩;show(iI _).getD i 0=_;rw[AY,uM];split
 .rfl
 .exact(b _ (by lia)).symm
def Z0(f:Pq):Prop:=∀i,f i=0
theorem Y6{f g:Pq}(ff:Fin f)(d:Fin g)(h:Z0 (aH f g))(c:¬Z0 g):Z0 f:=by obtain⟨b,a,rfl⟩:=aS d;exact tY ff a (λe=>c λi=>by rw[e];rfl) h
theorem MQ{f g:Pq}(ff:Fin f)(c:Fin g)(b:¬Z0 f)(a:¬Z0 g):¬Z0 (aH f g):=λh=>b (Y6 ff c h a)
theorem JN{f h g:Pq}(ff:Fin f)(d:Fin h)(j:Fin g)(c:¬Z0 g)(e:aH f g=aH h g):f=h:=by obtain⟨b,a,rfl⟩:=aS j;exact OO ff d a (λe=>c λi=>by rw[e];rfl) e
theorem jV(h:¬Z0 (cQ a)):a≠[]:=λe=>h λi=>by rw[e];rfl
theorem dY(z:aq a)(h:a≠[]):¬Z0 (cQ a):=λe=>g7 z h (e _)
theorem iS(n:aq a)(m:aq b)(l:aq c)(g:a≠[])(f:b≠[])(e:cQ c=aH (cQ a) (cQ b)):c.length+1=a.length+b.length:=by
 have q:=Jn.mpr g;have p:=Jn.mpr f;have t:cQ c (a.length -1+(b.length -1))≠0:=by
  rw[e,oG (λi d=>jC (by lia)) λi d=>jC (by lia)];intro z;rcases Kk.mp z with z|z
  .exact g7 n g z
  .exact g7 m f z
 have k:a.length -1+(b.length -1)<c.length:=S5 λh=>t (jC h);have o:c≠[]:=λz=>by rw[z]at k;cases k
 have j:=g7 l o;rw[show c.getD (c.length -1) 0=cQ c (c.length -1)from rfl,e]at j;have r:¬a.length+b.length<=c.length -1+1:=λh=>j (uT (λi d=>jC d) (λi d=>jC d) h);lia
def Un(f:Pq):Prop:=DQ f I1
theorem OP(h:x≠0):Un (cQ [x]):=⟨cQ [x⁻¹],aI _,λk=>by
 have:cQ [x⁻¹]=λi=>x⁻¹*I1 i:=funext λi=>by cases i<;>simp[I1,cQ]
 rw[this,bV,MP];cases k with
 |zero=>show(1:Rat)=x⁻¹*x;rw[OK _ h]
 |succ k=>show(0:Rat)=x⁻¹*0;rw[Pv]⟩
theorem mY(z:aq a)(n:a≠[])(l:a.length<2):Un (cQ a):=by
 match a,n,l with
 |[x],_,_=>exact OP (g7 z (by simp))
noncomputable def pw(p:Pq):Nat->Pq
 |0=>I1
 |n+1=>aH p (pw p n)
theorem iT{p:Pq}(h:Fin p):∀n,Fin (pw p n)
 |0=>Vj
 |n+1=>h.mul (iT h n)
theorem uZ(p:Pq)(n:Nat):∀m,pw p (m+n)=aH (pw p m) (pw p n)
 |0=>by rw[lh];exact(MP _).symm
 |m+1=>by
  rw[show m+1+n=(m+n)+1 by lia];show aH p (pw p (m+n))=aH (aH p (pw p m)) (pw p n);rw[uZ p n m]
  ac_rfl
theorem Xu:¬Z0 I1:=λh=>absurd (h 0) (by decide)
theorem Fv{p:Pq}(a:Fin p)(h:¬Z0 p):∀n,¬Z0 (pw p n)
 |0=>Xu
 |n+1=>MQ a (iT a n) h (Fv a h n)
structure mH(p:Pq):Prop where
 fin:Fin p
 nz:¬Z0 p
 un:¬Un p
 or:∀d,Fin d->DQ d p->Un d\/DQ p d
theorem bez{f g:Pq}(ff:Fin f)(l:Fin g):∃h u v:Pq,Fin h/\Fin u/\Fin v/\DQ h f/\DQ h g/\h=λk=>aH u f k+aH v g k:=by obtain⟨a,d,rfl⟩:=aS ff;obtain⟨b,c,rfl⟩:=aS l;obtain⟨h,u,v,_,j,i,n,m,e⟩:=OI _ a b (FC _) d c;exact⟨cQ h,u,v,aI h,j,i,n,m,funext e⟩
theorem DQ.eq{g a:Pq}(h:DQ g a):∃s,Fin s/\a=aH s g:=by obtain⟨s,b,e⟩:=h;exact⟨s,b,funext e⟩
theorem DQ.cv{g s:Pq}(a:Fin s):DQ g (aH s g):=⟨s,a,λ_=>rfl⟩
theorem DQ.cvR{g s:Pq}(a:Fin s):DQ g (aH g s):=by rw[R0 (op:=aH) g s];exact DQ.cv a
theorem mH.cop{p f:Pq}(a:mH p)(ff:Fin f)(h:¬DQ p f):∃u v,Fin u/\Fin v/\I1=λk=>aH u p k+aH v f k:=by
 obtain⟨g,u,v,i,d,c,m,l,e⟩:=bez a.fin ff;rcases a.or g i m with x|x
 .obtain⟨w,b,j⟩:=DQ.eq x;refine⟨aH w u,aH w v,b.mul d,b.mul c,?_⟩;rw[j,e];funext k;rw[p8,zzf (op:=aH) w u p,zzf (op:=aH) w v f]
 .exact absurd (x.trans l) h
theorem mH.split{p f g:Pq}(a:mH p)(ff:Fin f)(i:Fin g)(h:DQ p (aH f g)):DQ p f\/DQ p g:=by
 by_cases c:DQ p f
 .exact ZC c
 obtain⟨u,v,d,b,e⟩:=a.cop ff c;refine Yx ?_;have j:∀k,g k=aH (aH g u) p k+aH v (aH f g) k:=λk=>by
  have:aH I1 g k=g k:=by rw[MP]
  rw[<-this,e,fH,show aH (aH u p) g=aH (aH g u) p by ac_rfl,show aH (aH v f) g=aH v (aH f g) by ac_rfl]
 exact(((DQ.refl p).mul _ (i.mul d)).add (h.mul v b)).ext j
theorem fM(g:Pq)(k:Nat):aH (cQ []) g k=0:=(aW (λ_=>rfl) (λ_=>rfl) k).trans (cO g k)
theorem qp(n:aq d)(b:aq a)(m:a≠[])(h:DQ (cQ d) (cQ a)):d≠[]/\(d.length<a.length\/DQ (cQ a) (cQ d)):=by
 obtain⟨s,p,e⟩:=h.eq;obtain⟨s,g,rfl⟩:=aS p;have j:d≠[]:=λz=>by rw[z]at e;refine dY b m λi=>?_;rw[e,bG];exact fM _ i
 have f:s≠[]:=λz=>by rw[z]at e;refine dY b m λi=>?_;rw[e];exact fM _ i
 have l:=iS g n b f j e;have r:=Jn.mpr f;refine⟨j,?_⟩;by_cases c:s.length<2
 .refine Yx ?_;obtain⟨w,o,q⟩:=(mY g f c).eq;refine⟨w,o,λk=>?_⟩;rw[e,show aH w (aH (cQ s) (cQ d))=aH (aH w (cQ s)) (cQ d) by ac_rfl,<-q,MP]
 .exact ZC (by lia)
theorem Fw:∀(n:Nat)(a:List Rat),a.length<=n->aq a->2<=a.length->∃p,mH p/\DQ p (cQ a)
 |0,a,h,_,l=>absurd (Do l h) (by decide)
 |n+1,a,h,b,l=>by
  have j:a≠[]:=λz=>by rw[z]at l;cases l
  by_cases c:∃d:Pq,Fin d/\DQ d (cQ a)/\¬Un d/\¬DQ (cQ a) d
  .obtain⟨d,r,w,F,E⟩:=c;obtain⟨d,f,rfl⟩:=aS r;obtain⟨B,o⟩:=qp f b j w;rcases o with o|o
   .have C:2<=d.length:=h7 λl=>F (mY f B l);obtain⟨p,D,m⟩:=Fw n d (by lia) f C;exact⟨p,D,m.trans w⟩
   .exact absurd o E
  .refine⟨cQ a,⟨aI a,dY b j,λu=>?_,λd r m=>?_⟩,DQ.refl _⟩
   .have:=(qp (d:=a) (a:=[1]) b (λx k=>by cases k;decide) (by simp) u).2;rcases this with t|t
    .exact absurd t (by simp;lia)
    .obtain⟨s,y,e⟩:=DQ.eq (g:=I1) t;have:(([1]:List Rat)).length<a.length:=by simp;lia
     have G:Un (cQ a):=u;obtain⟨s,y,e⟩:=G.eq;obtain⟨s,A,rfl⟩:=aS y;have v:s≠[]:=λz=>by rw[z]at e;refine Xu λi=>?_;rw[e];exact fM _ i
     have l:=iS (c:=[1]) A b (λx k=>by cases k;decide) v j e;have H:=Jn.mpr v;simp at l;lia
   .by_cases u:Un d
    .exact ZC u
    .exact Yx (Ee λq=>c ⟨d,r,m,u,q⟩)
theorem OQ{f:Pq}(ff:Fin f)(c:¬Z0 f)(u:¬Un f):∃p,mH p/\DQ p f:=by obtain⟨a,b,rfl⟩:=aS ff;have d:=jV c;exact Fw _ a (FC _) b (h7 λl=>u (mY b d l))
theorem Bj(h:aq a)(u:Un (cQ a)):a.length=1:=by
 have d:a≠[]:=λz=>by obtain⟨s,f,e⟩:=u.eq;refine Xu λi=>?_;rw[e,bG,z];exact fM _ i
 obtain⟨s,f,e⟩:=u.eq;obtain⟨s,g,rfl⟩:=aS f;have b:s≠[]:=λz=>by rw[z]at e;refine Xu λi=>?_;rw[e];exact fM _ i
 have l:=iS (c:=[1]) g h (λx j=>by cases j;decide) b d e;have m:=Jn.mpr b;have k:=Jn.mpr d;simp at l;lia
def Val(p f:Pq)(e:Nat):Prop:=∃s,Fin s/\f=aH (pw p e) s/\¬DQ p s
theorem Fx(d:mH p):∀(n:Nat)(a:List Rat),a.length<=n->aq a->a≠[]->∃e,Val p (cQ a) e
 |0,a,h,_,l=>absurd (Oy.mp (xf.mp h)) l
 |n+1,a,h,j,r=>by
  by_cases c:DQ p (cQ a)
  .obtain⟨s,v,e⟩:=c.eq;obtain⟨s,f,rfl⟩:=aS v;obtain⟨b,g,rfl⟩:=aS d.fin;have m:s≠[]:=λz=>by rw[z]at e;refine dY j r λi=>?_;rw[e];exact fM _ i
   have o:=jV d.nz;have l:=iS f g j m o e;have x:2<=b.length:=h7 λl=>d.un (mY g o l);obtain⟨k,t,u,w,q⟩:=Fx d n s (by lia) f m;refine⟨k+1,t,u,?_,q⟩;rw[e,w];show _=aH (aH _ _) _
   ac_rfl
  .exact⟨0,cQ a,aI a,(MP _).symm,c⟩
theorem mH.val{p f:Pq}(d:mH p)(ff:Fin f)(c:¬Z0 f):∃e,Val p f e:=by obtain⟨a,b,rfl⟩:=aS ff;exact Fx d _ a (FC _) b (jV c)
theorem Val.mul(i:mH p)(l:Val p f e)(j:Val p g k):Val p (aH f g) (e+k):=by
 obtain⟨s,b,rfl,d⟩:=l;obtain⟨t,a,rfl,c⟩:=j;refine⟨aH s t,b.mul a,?_,λh=>(i.split b a h).elim d c⟩;rw[uZ]
 ac_rfl
theorem Fy{p s t:Pq}(a:mH p)(d:Fin s)(c:Fin t)(h:e<k)(b:aH (pw p e) s=aH (pw p k) t):DQ p s:=by obtain⟨n,rfl⟩:∃n,k=e+(n+1):=⟨k -e -1,by lia⟩;rw[uZ,show aH (aH (pw p e) (pw p (n+1))) t=aH (aH (pw p (n+1)) t) (pw p e) by ac_rfl,show aH (pw p e) s=aH s (pw p e) by ac_rfl]at b;have:=JN d ((iT a.fin _).mul c) (iT a.fin e) (Fv a.fin a.nz e) b;rw[this];show DQ p (aH (aH p (pw p n)) t);rw[show aH (aH p (pw p n)) t=aH (aH (pw p n) t) p by ac_rfl];exact DQ.cv ((iT a.fin n).mul c)
theorem Val.uniq(a:mH p)(m:Val p f e)(l:Val p f k):e=k:=by
 obtain⟨s,c,g,j⟩:=m;obtain⟨t,b,d,i⟩:=l;rcases Nat.lt_trichotomy e k with h|h|h
 .exact absurd (Fy a c b h (g.symm.trans d)) j
 .exact h
 .exact absurd (Fy a b c h (d.symm.trans g)) i
theorem Val.pos(b:mH p)(h:Val p f e):DQ p f↔e≠0:=by
 obtain⟨s,c,rfl,a⟩:=h;cases e with
 |zero=>exact⟨λd=>by rw[show pw p 0=I1 from rfl,MP]at d;exact absurd d a,λh=>absurd rfl h⟩
 |succ n=>exact⟨λ_=>Nat.succ_ne_zero n,λ_=>by show DQ p (aH (aH p (pw p n)) s);rw[show aH (aH p (pw p n)) s=aH (aH (pw p n) s) p by ac_rfl];exact DQ.cv ((iT b.fin n).mul c)⟩
theorem Fin.MR{f:Pq}(c:Rat)(h:Fin f):Fin λi=>c*f i:=by obtain⟨n,a⟩:=h;exact⟨n,λi b=>by show c*f i=0;rw[a i b,Pv]⟩
theorem FA(p:Pq):∀n,iR (pw p (n+1))=λk=>((n+1:Nat):Rat)*aH (pw p n) (iR p) k
 |0=>by show iR (aH p I1)=_;rw[Vk];funext k;show _=((1:Nat):Rat)*aH I1 (iR p) k;rw[MP];exact(cq _).symm
 |n+1=>by
  show iR (aH p (pw p (n+1)))=_;rw[Ft,FA p n];funext k;show aH (iR p) (pw p (n+1)) k+aH p (λk=>((n+1:Nat):Rat)*aH (pw p n) (iR p) k) k=_;rw[g6,show aH p (aH (pw p n) (iR p))=aH (pw p (n+1)) (iR p)from(zzf (op:=aH) p (pw p n) (iR p)).symm,bG];have:((n+1+1:Nat):Rat)=1+((n+1:Nat):Rat):=by
   have:n+1+1=1+(n+1):=by lia
   exact_mod_cast this
  rw[this,ZM,cq]
theorem JO(f:mH p):¬DQ p (iR p):=λh=>by
 obtain⟨b,e,rfl⟩:=aS f.fin;obtain⟨a,g,d⟩:=aS (jm (aI b));have c:=jV f.nz;have k:2<=b.length:=h7 λl=>f.un (mY e c l);rw[<-d]at h;have j:a.length<b.length:=S5 λl=>by
  have i:a≠[]:=λz=>by rw[z]at l;simp at l;exact c l
  refine g7 g i ?_;have:=w8 d (a.length -1);rw[show a.getD (a.length -1) 0=cQ a (a.length -1)from rfl,this];show _*cQ b _=0;rw[show cQ b (a.length -1+1)=0 from jC (by lia),Pv]
 have:=Fg e c g j h;rw[this]at d;have t:=w8 d (b.length -2);have t:(0:Rat)=((b.length -2+1:Nat):Rat)*cQ b (b.length -2+1):=t;rcases Kk.mp t.symm with z|z
 .have:b.length -2+1=0:=by exact_mod_cast z
  lia
 .rw[show b.length -2+1=b.length -1 by lia]at z;exact g7 e c z
theorem Val.iR(a:mH p)(h:Val p f (n+1)):Val p (iR f) n:=by
 obtain⟨s,c,rfl,e⟩:=h;refine⟨λk=>((n+1:Nat):Rat)*aH (Num.iR p) s k+aH p (Num.iR s) k,(Fin.MR _ ((jm a.fin).mul c)).add (a.fin.mul (jm c)),?_,λd=>?_⟩
 .rw[Ft,FA];funext k;show aH (λk=>((n+1:Nat):Rat)*aH (pw p n) (Num.iR p) k) s k+aH (aH p (pw p n)) (Num.iR s) k=_;rw[bV,p8,g6,show aH (aH (pw p n) (Num.iR p)) s=aH (pw p n) (aH (Num.iR p) s) by ac_rfl,show aH (aH p (pw p n)) (Num.iR s)=aH (pw p n) (aH p (Num.iR s)) by ac_rfl]
 .have j:=(d.sub (DQ.cvR (g:=p) (jm c))).ext (b:=λk=>((n+1:Nat):Rat)*aH (Num.iR p) s k) λk=>by grind
  have i:=DQ.Y4 (λz=>by
   have:n+1=0:=by exact_mod_cast z
   lia) j
  exact(a.split (jm a.fin) c i).elim (JO a) e
theorem Val.nz(a:mH p)(h:Val p f e):¬Z0 f:=by obtain⟨s,c,rfl,b⟩:=h;exact MQ (iT a.fin e) c (Fv a.fin a.nz e) λz=>b ((DQ.zero p).ext z)
theorem OR(a:mH p)(n:Nat):Val p (pw p n) n:=⟨I1,Vj,(Vk _).symm,a.un⟩
theorem Val.quo{p f q g:Pq}(a:mH p)(h:Val p f e)(d:Val p g k)(i:Fin q)(c:¬Z0 q)(E:f=aH q g):Val p q (e -k)/\k<=e:=by obtain⟨j,b⟩:=a.val i c;have:=(E▸h).uniq a (b.mul a d);rw[this,On];exact⟨b,zze ..⟩
theorem Val.le(a:mH p)(h:Val p f e):DQ (pw p n) f↔n<=e:=by
 constructor
 .intro d;obtain⟨s,b,E⟩:=d.eq;refine(h.quo a (OR a n) b (λz=>h.nz a λi=>?_) E).2;rw[E,show s=λ_=>0 from funext z];exact cO _ i
 .intro l;obtain⟨s,b,rfl,c⟩:=h;obtain⟨m,rfl⟩:∃m,e=n+m:=⟨e -n,by lia⟩;rw[uZ,show aH (aH (pw p n) (pw p m)) s=aH (aH (pw p m) s) (pw p n) by ac_rfl];exact DQ.cv ((iT a.fin m).mul b)
structure Vl(f h g:Pq):Prop where
 fin:Fin g
 l:DQ g f
 r:DQ g h
 out:∀d,DQ d f->DQ d h->DQ d g
theorem Vl.val(a:mH p)(G:Vl f h g)(c:Val p f e)(d:Val p h k):Val p g (min e k):=by
 have j:¬Z0 g:=λz=>c.nz a λi=>by obtain⟨s,o,E⟩:=G.l.eq;rw[E,bG,show g=λ_=>0 from funext z];exact cO _ i
 obtain⟨m,b⟩:=a.val G.fin j;have q:=(c.le a).mp (((b.le a).mpr (FC m)).trans G.l);have a2:=(d.le a).mp (((b.le a).mpr (FC m)).trans G.r);have a3:=(b.le a (n:=min e k)).mp (G.out _ ((c.le a).mpr (Nat.min_le_left ..)) ((d.le a).mpr (dr ..)));rw[show min e k=m by lia];exact b
theorem Vl.kY(a:mH p)(G:Vl f (iR f) g)(b:Val p f e):Val p g (e -1):=by
 cases e with
 |succ n=>have:=G.val a b (b.iR a);rw[show min (n+1) n=n+1 -1 by lia]at this;exact this
 |zero=>
  have d:¬Z0 g:=λz=>b.nz a λi=>by obtain⟨s,j,E⟩:=G.l.eq;rw[E,bG,show g=λ_=>0 from funext z];exact cO _ i
  obtain⟨m,c⟩:=a.val G.fin d;have h:=(b.le a).mp (((c.le a).mpr (FC m)).trans G.l);rw[xf.mp h]at c;exact c
theorem Vm{g f:Pq}(h:DQ g f)(a:¬Z0 f):¬Z0 g:=λz=>a λi=>by obtain⟨s,b,E⟩:=h.eq;rw[E,bG,show g=λ_=>0 from funext z];exact cO _ i
theorem zC{q g f:Pq}(E:f=aH q g)(a:¬Z0 f):¬Z0 q:=λz=>a λi=>by rw[E,show q=λ_=>0 from funext z];exact cO _ i
theorem JP{f g:Pq}(ff:Fin f)(c:¬Z0 f)(j:Fin g)(H:∀p,mH p->DQ p f->¬DQ p g)(d:Pq)(i:Fin d)(b:DQ d f)(h:DQ d g):Un d:=
 Ee λu=>by obtain⟨p,e,a⟩:=OQ i (Vm b c) u;exact H p e (a.trans b) (a.trans h)
theorem FD{f:Pq}(ff:Fin f)(c:¬Z0 f)(H:∀p,mH p->∀e,Val p f e->e<=1)(d:Pq)(i:Fin d)(h:DQ d f)(g:DQ d (iR f)):Un d:=
 JP ff c (jm ff) (λp a x y=>by
  obtain⟨e,b⟩:=a.val ff c;have j:=H p a e b;have k:=(b.pos a).mp x;have:e=0+1:=by lia
  rw[this]at b;exact((b.iR a).pos a).mp y rfl) d i h g
theorem u5(r:Rat)(a:List Rat)(k:Nat):cQ (r::a) (k+1)=cQ a k:=rfl
theorem jn(x:Rat):∀{a:List Rat},(∀k,cQ a k=0)->ev x a=0
 |[],_=>rfl
 |r::a,h=>by have b:r=0:=h 0;rw[bY,b,jn x (a:=a) λk=>h (k+1)];grind
theorem zD(x:Rat):∀{a b:List Rat},(∀k,cQ a k=cQ b k)->ev x a=ev x b
 |[],b,h=>(jn x λk=>(h k).symm).symm
 |r::a,[],h=>jn x h
 |r::a,s::b,h=>by have c:r=s:=h 0;rw[bY,bY,c,zD x (a:=a) (b:=b) λk=>h (k+1)]
theorem qv(x c:Rat):∀{a b:List Rat},(∀k,cQ b k=c*cQ a k)->ev x b=c*ev x a
 |[],b,h=>by rw[jn x λk=>by rw[h k];show c*0=0;grind];show 0=c*0;grind
 |r::a,[],h=>by
  by_cases d:c=0
  .rw[d];show 0=0*_;grind
  .rw[jn x (a:=r::a) λk=>by
    have e:0=c*cQ (r::a) k:=h k;rcases Kk.mp e.symm with z|z
    .exact absurd z d
    .exact z]
   show 0=c*0;grind
 |r::a,s::b,h=>by have f:s=c*r:=h 0;rw[bY,bY,f,qv x c (a:=a) (b:=b) λk=>h (k+1)];grind
theorem jW(x:Rat):∀{a b c:List Rat},(∀k,cQ c k=cQ a k+cQ b k)->ev x c=ev x a+ev x b
 |[],b,c,h=>by rw[zD x (a:=c) (b:=b) λk=>by rw[h k];show 0+_=_;grind];show _=0+_;grind
 |r::a,[],c,h=>by rw[zD x (a:=c) (b:=r::a) λk=>by rw[h k];show _+0=_;grind];show _=_+0;grind
 |r::a,s::b,[],h=>by have e:=jW x (a:=a) (b:=b) (c:=[]) λk=>h (k+1);have d:0=r+s:=h 0;rw[bY,bY];have f:(0:Rat)=ev x a+ev x b:=e;show(0:Rat)=_;grind
 |r::a,s::b,t::c,h=>by have d:t=r+s:=h 0;rw[bY,bY,bY,d,jW x (a:=a) (b:=b) (c:=c) λk=>h (k+1)];grind
theorem nT(x:Rat):∀{q b c:List Rat},(∀k,cQ c k=aH (cQ q) (cQ b) k)->ev x c=ev x q*ev x b
 |[],b,c,h=>by rw[jn x λk=>(h k).trans (fM _ k)];show 0=0*_;grind
 |r::q,b,c,h=>by
  obtain⟨d,l,f⟩:=aS ((aI q).mul (aI b));have e:=nT x (q:=q) (b:=b) (c:=d) λk=>by rw[f]
  have j:=qv x r (a:=b) (b:=b.map (r*·)) λk=>by
   show(b.map _).getD k 0=r*b.getD k 0;rw[AC,FR,AC];cases b[k]? with
   |none=>show(0:Rat)=r*0;grind
   |some z=>rfl
  have i:=jW x (a:=b.map (r*·)) (b:=0::d) (c:=c) λk=>by
   have g:cQ (b.map (r*·)) k=r*cQ b k:=by
    show(b.map _).getD k 0=r*b.getD k 0;rw[AC,FR,AC];cases b[k]? with
    |none=>show(0:Rat)=r*0;grind
    |some z=>rfl
   rw[h k,g];cases k with
   |zero=>rw[cW];show r*cQ b 0=r*cQ b 0+0;grind
   |succ k=>rw[fJ,u5,f];rfl
  rw[i,j,bY,bY,e];grind
theorem MS(x:Rat):∀(d:List Rat),dv x d=ev x (bF d)
 |[]=>rfl
 |r::d=>by
  have e:=MS x d;show ev x d+x*dv x d=_;rw[e,jW x (a:=d) (b:=0::bF d) (c:=bF (r::d)) λk=>?_,bY]
  .grind
  .rw[jl,u5];cases k with
   |zero=>show((0+1:Nat):Rat)*_=_+0;have:((0+1:Nat):Rat)=1:=rfl;rw[this];grind
   |succ k=>
    rw[u5,jl];have:((k+1+1:Nat):Rat)=((k+1:Nat):Rat)+1:=by show(((k+1+1:Nat):Int):Rat)=(((k+1:Nat):Int):Rat)+((1:Int):Rat);rw[<-RF];rfl
    rw[this];grind
noncomputable def wM(r:List Rat):Rat->Rat:=λx=>ev x r
theorem Bk(h:a<=b)(r:List Rat):OJ a b (wM r):=by obtain⟨C,c,S⟩:=qg h r;exact⟨C,c,S.l⟩
theorem kZ(h:a<=b)(r:List Rat):Xs a b (wM r):=by obtain⟨C,c,S⟩:=qg h r;exact⟨C,c,S.f0⟩
theorem Bm(h:a<=b)(r:List Rat):OM a b (wM r) (wM (bF r)):=by obtain⟨C,g,S⟩:=qg h r;refine⟨C,g,λx y f e c=>?_⟩;have:=S.d x y f e c;rw[MS]at this;exact this
theorem OS(x:Rat)(r:List Rat):ev x (jD r)= -1*ev x r:=qv x (-1) λk=>by rw[zA];grind
theorem r6.ch(h:lo<=hi)(S:r6 a b l):(∃c:Rat,c≠0/\(b::l).getLast?=some [c])->Ch lo hi ((a::b::l).map wM):=by
 induction S with
 |@nil a b i=>rintro⟨c,g,e⟩;cases e;exact .two (Bk h a) (.one c g λx _=>by show c+x*0=c;grind)
 |@cons a b r l i y k m=>
  rintro⟨c,g,e⟩;have t:((jD r)::l).getLast?=some [c]:=by rw[ke]at e;exact e
  obtain⟨z,w,q,n,o⟩:=i;obtain⟨f,u,rfl⟩:=aS n;obtain⟨d,v,j⟩:=aS ((aI f).mul (aI b));refine .cons (Bk h a) 1 1 (wM f) (by decide) (by decide) (kZ h f) (λx _=>?_) (m ⟨c,g,t⟩);show 1*ev x a+1*ev x (jD r)=ev x f*ev x b;have s:=nT x (q:=f) (b:=b) (c:=d) λk=>by rw[j]
  have p:=jW x (a:=d) (b:=r) (c:=a) λk=>by rw[o k,j]
  rw[OS,p,s];grind
noncomputable def cP(l:List (List Rat))(x:Rat):Nat:=chg (l.map (ev x))
theorem ly(l:List (List Rat))(x:Rat):uX (l.map wM) x=cP l x:=by unfold uX cP;rw[U2];rfl
theorem r6.gx(h:lo<hi)(S:r6 a (bF a) l)(b:∃c:Rat,c≠0/\(bF a::l).getLast?=some [c]):cP (a::bF a::l) hi<=cP (a::bF a::l) lo:=by rw[<-ly,<-ly];exact Ch.gx h (S.ch (FK h) b) (Bm (FK h) a)
theorem zE(m:0<=C)(h:∀x:Rat,0<x->x<=1->ab r (x*C)):r=0:=by
 apply Ee;intro o;have b:∀u:Rat,0<u->(∀x:Rat,0<x->x<=1->u<=x*C)->False:=λu d j=>by
  have g:0<C+u+1:=by grind
  have i:=Pi.mpr g;have e:(C+u+1)*(C+u+1)⁻¹=1:=Fs _ (by grind);have a:=GE d i;have l:(C+u+1)*(u*(C+u+1)⁻¹)=u:=by rw[zz2 u,<-dC,e,cq]
  generalize u*(C+u+1)⁻¹=x at a l;have p:=PH m (FK a);have n:=GE d a;have f:x<=1:=by apply Ee;intro f;have:=WR (show 1<x by grind) d;grind
  have:=j x a f;grind
 by_cases k:0<r
 .exact b r k λx a c=>(h x a c).2
 .exact b (-r) (by grind) λx a c=>by have:=(h x a c).1;grind
theorem t7:∀{a:List Rat},(∀x:Rat,0<x->x<=1->ev x a=0)->∀k,cQ a k=0
 |[],_,k=>rfl
 |r::a,h,k=>by
  obtain⟨C,g,S⟩:=qg (a:=0) (b:=1) (by decide) a;have f:r=0:=zE g λx d c=>by have e:=h x d c;rw[bY]at e;have b:=ao (show ab x x from⟨by grind,by grind⟩) (S.f0 x ⟨FK d,c⟩);unfold ab at*;grind
  cases k with
  |zero=>exact f
  |succ k=>
   refine t7 (a:=a) (λx d c=>?_) k;have e:=h x d c;rw[bY,f]at e;rcases Kk.mp (show x*ev x a=0 by grind)with z|z
   .grind
   .exact z
theorem Vn(h:∀x,ev x a=ev x b)(k:Nat):cQ a k=cQ b k:=by obtain⟨d,l,g⟩:=aS (f:=λi=>cQ a i+(-1)*cQ b i) ((aI a).add ((aI b).MR (-1)));have e:=t7 (a:=d) (λx _ _=>by obtain⟨c,m,j⟩:=aS (f:=λi=>(-1)*cQ b i) ((aI b).MR (-1));rw[jW x (a:=a) (b:=c) (c:=d) (λk=>by rw[g,j]),qv x (-1) (a:=b) (b:=c) (λk=>by rw[j]),h x];grind) k;rw[g]at e;grind
theorem mZ(h:aq a):aq (bF a):=λx c=>by
 have e:cQ (bF a) ((bF a).length -1)=x:=by show(bF a).getD _ 0=x;rw[AC,<-KM,c];rfl
 have i:0<(bF a).length:=Jn.mpr λz=>by rw[z]at c;cases c
 have f:=gC a;obtain⟨n,b⟩:∃n,a.length=n+2:=⟨a.length -2,by lia⟩;have g:a≠[]:=λz=>by rw[z]at b;cases b
 rw[f,b]at e;rw[jl]at e;have d:=kW h (by lia);rw[b]at d;rw[<-e];intro z;rcases Kk.mp z with z|z
 .have:((n+2 -1 -1+1:Nat):Int)=0:=GM.mp z;lia
 .exact d z
noncomputable def u6(c:Rat)(a:List Rat):List Rat:=a.map (c*·)
theorem qw(c:Rat)(a:List Rat)(k:Nat):cQ (u6 c a) k=c*cQ a k:=by
 show(a.map _).getD k 0=c*a.getD k 0;rw[AC,FR,AC];cases a[k]? with
 |none=>show(0:Rat)=c*0;grind
 |some z=>rfl
theorem u7(c:Rat)(a:List Rat):(u6 c a).length=a.length:=Bi _
theorem Bo(e:c≠0)(h:aq a):aq (u6 c a):=λx b=>by
 unfold u6 at b;rw[sk]at b;obtain⟨y,d,rfl⟩:=L9.mp b;intro z;rcases Kk.mp z with z|z
 .exact e z
 .exact h y d z
theorem xQ(c x:Rat)(a:List Rat):ev x (u6 c a)=c*ev x a:=qv x c (qw c a)
theorem xR(a:List Rat):cQ (bF a)=iR (cQ a):=funext λk=>jl a k
theorem r6.last(S:r6 a b l)(p:aq b)(t:b≠[]):∃g,(b::l).getLast?=some g/\aq g/\g≠[]/\Vl (cQ a) (cQ b) (cQ g):=by
 induction S with
 |@nil a b h=>obtain⟨_,_,q,c,e⟩:=h;refine⟨b,rfl,p,t,aI b,⟨q,c,λk=>?_⟩,DQ.refl _,λd _ h=>h⟩;rw[e k];show _+0=_;grind
 |@cons a b r l h v k u=>
  obtain⟨g,e,o,s,G⟩:=u (xM h.1) (Fi v);obtain⟨_,_,q,c,m⟩:=h;refine⟨g,by rw[ke];exact e,o,s,G.fin,?_,G.l,λd w n=>G.out d n ?_⟩
  .have j:=(G.l.mul q c).add (G.r.mul (cQ [-1]) (aI _));refine j.ext λk=>?_;rw[m k,aW (f:=cQ [-1]) (g:=cQ (jD r)) (λi=>(by cases i<;>rfl:cQ [-1] i=if i=0 then-1 else 0)) (λi=>rfl),oH,D1 (Os k),zA];show _=_+ -1* -cQ r k;grind
  .have j:=(n.mul q c).add (w.mul (cQ [-1]) (aI _));refine j.ext λk=>?_;rw[aW (f:=cQ [-1]) (g:=cQ a) (λi=>(by cases i<;>rfl:cQ [-1] i=if i=0 then-1 else 0)) (λi=>rfl),oH,D1 (Os k),zA];show _=_+ -1*cQ a k;rw[m k];grind
theorem r6.len(S:r6 a b l)(c:b≠[]):l.length+1<=b.length:=by
 induction S with
 |nil h=>exact Jn.mpr c
 |@cons a b r l h e k d=>have:=d (Fi e);rw[Bg]at this;have:=h.2.1;rw[Av];lia
theorem u9:∀(l:List Rat)(b:Rat),uV b l<=l.length
 |[],b=>FC _
 |x::l,b=>by
  show(if x=0 then uV b l else(if b=0 then 0 else df b x)+uV x l)<=l.length+1;have h1:=u9 l b;have c:=u9 l x;have a:df b x<=1:=by unfold df;split<;>split<;>decide
  split
  .lia
  .split<;>lia
theorem OT(x:Rat)(l:List Rat):chg (x::l)<=l.length:=by
 by_cases h:x=0
 .rw[h,xO];exact u9 l 0
 .rw[uW h];exact u9 l x
def Bp(p s:List Rat):Prop:=aq s/\s≠[]/\∃l g a,r6 p (bF p) l/\(bF p::l).getLast?=some g/\a≠0/\∀k,cQ p k=a*aH (cQ s) (cQ g) k
def Cc(p:List Rat)(C:List (List Rat)):Prop:=∃s l,C=s::bF s::l/\Bp p s/\r6 s (bF s) l
structure Rp(p:List Rat):Prop where
 z:aq p
 l2:2<=p.length
theorem Rp.kY(h:Rp p):bF p≠[]:=λz=>by have e:=gC p;have:=h.l2;rw[z]at e;have e:0=p.length -1:=e;lia
theorem Rp.ne(h:Rp p):p≠[]:=λz=>by have:=h.l2;rw[z]at this;cases this
theorem OU(f:c≠0)(e:aq a)(d:aq b)(h:∀k,cQ b k=c*cQ a k):b=u6 c a:=E2 d (Bo f e) λk=>by show cQ _ k=cQ _ k;rw[h,qw]
theorem vd(f:aq g)(j:g≠[])(b:aq a)(k:a≠[])(h:DQ (cQ g) (cQ a)):g.length<=a.length:=by obtain⟨s,l,e⟩:=h.eq;obtain⟨i,d,rfl⟩:=aS l;have c:i≠[]:=jV (zC e (dY b k));have:=iS d f b c j e;have:=Jn.mpr c;lia
theorem Bp.len(P:Rp p)(h:Bp p s):Rp s/\s.length<=p.length:=by
 obtain⟨b,m,l,g,t,S,o,n,e⟩:=h;obtain⟨w,j,c,a,G⟩:=S.last (mZ P.z) P.kY;rw[o]at j;cases j;obtain⟨d,f,i⟩:=aS ((aI s).mul (aI g));have u:=iS b c f m a i;have q:=OU n f P.z λk=>by rw[e k,i]
 have x:p.length=d.length:=by rw[q,u7]
 have l2:=vd c a (mZ P.z) P.kY G.r;have:=gC p;have:=P.l2;have v:=Jn.mpr a;exact⟨⟨b,by lia⟩,by lia⟩
theorem Bp.val(P:Rp p)(h:Bp p s)(f:mH π)(c:Val π (cQ p) m):Val π (cQ s) (m -(m -1)):=by
 obtain⟨j,o,l,g,a,S,D,b,e⟩:=h;obtain⟨I,d,F,H,G⟩:=S.last (mZ P.z) P.kY;rw[D]at d;cases d;rw[xR]at G;have x:=G.kY f c;have B:Fin λi=>a*cQ s i:=(aI s).MR a;have q:¬Z0 λi=>a*cQ s i:=λz=>dY j o λi=>(Kk.mp (z i)).resolve_left b;have E:cQ p=aH (λi=>a*cQ s i) (cQ g):=funext λk=>by rw[e k,bV]
 obtain⟨t,w⟩:=c.quo f x B q E;obtain⟨u,A,C,n⟩:=t;refine⟨λi=>a⁻¹*u i,A.MR _,funext λk=>?_,λz=>n ?_⟩
 .have:=w8 C k;have r:a*a⁻¹=1:=Fs _ b;rw[g6,<-this];grind
 .obtain⟨v,y,ev⟩:=z;refine⟨λi=>a*v i,y.MR _,λk=>?_⟩;have:=ev k;have r:a*a⁻¹=1:=Fs _ b;rw[bV,<-this];grind
theorem Bp.bare(P:Rp p)(h:Bp p s)(d:Pq)(g:Fin d)(f:DQ d (cQ s))(b:DQ d (cQ (bF s))):Un d:=by rw[xR]at b;refine FD (aI s) (dY h.1 h.2.1) (λi a j e=>?_) d g f b;obtain⟨m,c⟩:=a.val (aI p) (dY P.z P.ne);rw[e.uniq a (h.val P a c)];omega
theorem Bp.const(P:Rp p)(h:Bp p s)(S:r6 s (bF s) l):∃c:Rat,c≠0/\(bF s::l).getLast?=some [c]:=by have R:=(h.len P).1;obtain⟨g,d,a,e,G⟩:=S.last (mZ R.z) R.kY;have u:=h.bare P (cQ g) (aI g) G.l G.r;have b:=Bj a u;obtain⟨c,rfl⟩:=si.mp b;exact⟨c,a c rfl,d⟩
theorem Cc.gx(P:Rp p)(h:Cc p C)(a:lo<hi):cP C hi<=cP C lo:=by obtain⟨s,l,rfl,B,S⟩:=h;exact S.gx a (B.const P S)
theorem Cc.few(P:Rp p)(h:Cc p C)(x:Rat):cP C x+1<=p.length:=by obtain⟨s,l,rfl,B,S⟩:=h;obtain⟨R,b⟩:=B.len P;have c:=S.len R.kY;have a:cP (s::bF s::l) x<=_:=OT (ev x s) ((bF s::l).map (ev x));rw[Bi,Av]at a;have:=gC s;have:=R.l2;lia
end Num
namespace Num
noncomputable def qI(ns:List Int):List Rat:=ns.map λz:Int=>(z:Rat)
theorem bJ(ns:List Int):(qI ns).length=ns.length:=Bi _
theorem cS(ns:List Int)(k:Nat):cQ (qI ns) k=((ns.getD k 0:Int):Rat):=by show(ns.map _).getD k 0=_;rw[AC,AC,FR];cases ns[k]?<;>rfl
def ve(A:List Int)(a:List Rat):Prop:=∃b:Rat,0<b/\a.length=A.length/\∀k,cQ a k=b*((A.getD k 0:Int):Rat)
def Pz:List (List Int)->List (List Rat)->Prop
 |[],[]=>True
 |A::L,a::l=>ve A a/\Pz L l
 |_,_=>False
theorem Pz.app:∀{L:List (List Int)}{l:List (List Rat)}{A:List Int}{a:List Rat},Pz L l->ve A a->Pz (L++[A]) (l++[a])
 |[],[],_,_,_,h=>⟨h,trivial⟩
 |B::L,b::l,_,_,⟨d,c⟩,h=>⟨d,c.app h⟩
theorem Pz.last:∀{L:List (List Int)}{l:List (List Rat)}{a:List Rat},Pz L l->l.getLast?=some a->∃A,L.getLast?=some A/\ve A a
 |[],[],a,_,e=>by cases e
 |[A],[b],a,⟨h1,_⟩,e=>by
  cases e;exact⟨A,rfl,h1⟩
 |A::f::L,b::d::l,a,⟨_,c⟩,e=>by rw[ke]at e⊢;exact Pz.last c e
def Ip(a:Int)(α:Rat):Prop:=(a=1/\0<α)\/(a= -1/\α<0)
theorem Ip.row{B:List Int}(h:Ip a c)(d:b.length=B.length)(e:∀k,cQ b k=c*((B.getD k 0:Int):Rat)):ve (B.map (a*·)) b:=by
 have g:∀k,(B.map (a*·)).getD k 0=a*B.getD k 0:=λk=>Sub.map_getD (f:=λy=>a*y) (T1 a) k;rcases h with⟨rfl,h⟩|⟨rfl,h⟩
 .refine⟨c,h,by rw[Bi];exact d,λk=>?_⟩;rw[g,bo];exact e k
 .refine⟨-c,by grind,by rw[Bi];exact d,λk=>?_⟩;rw[g,e k,BM];have:((-1:Int):Rat)= -1:=rfl;rw[this];grind
theorem FF(f:c≠0):(0<An κ c↔0<κ*c)/\(An κ c<0↔κ*c<0):=by
 have g:(c:Rat)≠0:=λz=>f (GM.mp z);have e:An κ c*((c:Rat)*(c:Rat))=((κ*c:Int):Rat):=by rw[mM,BM];grind
 have d:0<(c:Rat)*(c:Rat):=by
  rcases wy f with h|h
  .have:(c:Rat)<0:=oe.mpr h;have:=GE (a:= -(c:Rat)) (b:= -(c:Rat)) (by grind) (by grind);grind
  .have:0<(c:Rat):=Ya.mpr h;exact GE this this
 constructor
 .constructor
  .intro h;have:=GE h d;rw[e]at this;exact Ya.mp this
  .intro h;have h:(0:Rat)<((κ*c:Int):Rat):=Ya.mpr h;rw[<-e]at h;exact(UW d).mp h
 .constructor
  .intro h;have:=GE (a:= -An κ c) (by grind) d;have:((κ*c:Int):Rat)<0:=by rw[<-e];grind
   exact oe.mp this
  .intro h;have h:((κ*c:Int):Rat)<0:=oe.mpr h;rw[<-e]at h;have:=(UW (a:= -An κ c) d).mp (by grind);grind
theorem Ip.next(h:Ip f α)(l:κ≠0)(k:c≠0):Ip (if decide (κ>0)=decide (c>0)then-f else f) (-(α*An κ c)):=by
 obtain⟨j,i⟩:=FF (κ:=κ) k;have d:∀{x y:Rat},0<x->0<y->0<x*y:=λn m=>GE n m;have g:(decide (κ>0)=decide (c>0)/\0<An κ c)\/(¬decide (κ>0)=decide (c>0)/\An κ c<0):=by
  rcases wy l with a|a<;>rcases wy k with b|b
  .refine .inl ⟨by rw[IR (by lia),IR (by lia)],j.mpr (Int.mul_pos_of_neg_of_neg a b)⟩
  .refine .inr ⟨by rw[IR (by lia),Fn b];decide,i.mpr (Int.mul_neg_of_neg_of_pos a b)⟩
  .refine .inr ⟨by rw[Fn a,IR (by lia)];decide,i.mpr (Int.mul_neg_of_pos_of_neg a b)⟩
  .refine .inl ⟨by rw[Fn a,Fn b],j.mpr (eP a b)⟩
 rcases g with⟨e,s⟩|⟨e,s⟩
 .rw[D1 e];rcases h with⟨rfl,h⟩|⟨rfl,h⟩
  .exact .inr ⟨rfl,by have:=d h s;grind⟩
  .exact .inl ⟨rfl,by have:=d (x:= -α) (by grind) s;grind⟩
 .rw[Bz e];rcases h with⟨rfl,h⟩|⟨rfl,h⟩
  .exact .inl ⟨rfl,by have:=d h (y:= -An κ c) (by grind);grind⟩
  .exact .inr ⟨rfl,by have:=d (x:= -α) (y:= -An κ c) (by grind) (by grind);grind⟩
noncomputable def jE(b:Int):List Int->Nat
 |[]=>0
 |x::l=>if x=0 then jE b l else(if b≠0/\¬decide (x>0)=decide (b>0)then 1 else 0)+jE x l
def OV(z:Int)(r:Rat):Prop:=∃a:Rat,0<a/\r=a*(z:Rat)
theorem OV.pos(h:OV z r):0<r↔0<z:=by obtain⟨b,a,rfl⟩:=h;rw[Rat.mul_pos_iff_of_pos_left a];exact Ya
theorem OV.zero(h:OV z r):r=0↔z=0:=by
 obtain⟨b,a,rfl⟩:=h;constructor
 .intro e;rcases Kk.mp e with e|e
  .rw[e]at a;exact absurd a (by decide)
  .exact GM.mp e
 .rintro rfl;exact Pv b
theorem Bq:∀{L:List (List Int)}{l:List (List Rat)}{b:Int}{c:Rat},Pz L l->(∀A∈L,∀a,ve A a->OV (f A) (g a))->OV b c->uV c (l.map g)=jE b (L.map f)
 |[],[],_,_,_,_,_=>rfl
 |A::L,a::l,b,c,⟨r,q⟩,h,n=>by
  have s:=h A FS a r;have o:=λ{b c}=>Bq (b:=b) (c:=c) q λB p=>h B (FM _ p);show(if g a=0 then uV c (l.map g)else(if c=0 then 0 else df c (g a))+uV (g a) (l.map g))=if f A=0 then jE b (L.map f)else(if b≠0/\¬decide (f A>0)=decide (b>0)then 1 else 0)+jE (f A) (L.map f)
  rw[o n,o s];by_cases z:f A=0
  .rw[D1 z,D1 (s.zero.mpr z)]
  .rw[Bz z,Bz λe=>z (s.zero.mp e)];congr 1;by_cases j:b=0
   .rw[D1 (n.zero.mpr j),Bz λe=>e.1 j]
   .rw[Bz λe=>j (n.zero.mp e)];unfold df;have m:=s.pos;have k:=n.pos;by_cases i:0<f A<;>by_cases d:0<b
    .rw[D1 (k.mpr d),D1 (m.mpr i),Bz];rintro⟨_,e⟩;exact e (by rw[Fn i,Fn d])
    .rw[Bz λe=>d (k.mp e),D1 (m.mpr i),D1];exact⟨j,by rw[Fn i,IR d];decide⟩
    .rw[D1 (k.mpr d),Bz λe=>i (m.mp e),D1];exact⟨j,by rw[IR i,Fn d];decide⟩
    .rw[Bz λe=>d (k.mp e),Bz λe=>i (m.mp e),Bz];rintro⟨_,e⟩;exact e (by rw[IR i,IR d])
theorem Vo{t b:Int}{x:Rat}(r:0<b)(j:x*b=t)(h:ve A a):OV (wv t b A) (ev x a):=by
 obtain⟨c,l,k,e⟩:=h;have d:(0:Rat)<(b:Rat):=Ya.mpr r;have g:c⁻¹≠0:=λz=>by have:=OK c (by grind);rw[z]at this;grind
 have w:=MK (t:=t) (b:=b) (B:=c⁻¹) (x:=x) (by grind) j g A a k.symm λi _=>by have:=e i;have m:a.getD i 0=c*((A.getD i 0:Int):Rat):=this;rw[m];have:=OK c (by grind);grind
 have pw:∀n:Nat,0<(b:Rat)^n:=λn=>by
  induction n with
  |zero=>rw[my];decide
  |succ n f=>rw[cm];exact GE f d
 have p:=pw A.length;refine⟨((b:Rat)^A.length)⁻¹*(c*b),?_,?_⟩
 .exact GE (Pi.mpr p) (GE l d)
 .have q:=OK ((b:Rat)^A.length) (by grind);have o:=OK c (by grind);generalize(b:Rat)^A.length=P at*;generalize((wv t b A:Int):Rat)=V at*;have:P⁻¹*(c*b)*V=P⁻¹*c*(V*b):=by grind
  rw[this,w];have:P⁻¹*c*(P*ev x a*c⁻¹)=(P⁻¹*P)*(c⁻¹*c)*ev x a:=by grind
  rw[this,q,o];grind
theorem JQ{t b:Int}{x:Rat}(e:0<b)(c:x*b=t)(h:Pz L l):cP l x=jE 0 (L.map (wv t b)):=
 Bq h (λA _ a d=>Vo e c d) ⟨1,by decide,by decide+kernel⟩
end Num
namespace Sub
end Sub
namespace Sub
open Num
noncomputable def one:Nat->Int:=λi=>if i=0 then 1 else 0
end Sub
namespace Num
open Sub
theorem FG(g:Nat->Rat)(k:Nat):aH (cQ []) g k=0:=(aW (f:=cQ []) (f':=λ_=>0) (λi=>rfl) (λ_=>rfl) k).trans (cO g k)
noncomputable def Th(t:Rat):List Rat->Rat
 |[]=>0
 |c::a=>c+t*Th t a
theorem horner(t:Rat):∀a:List Rat,∃q:List Rat,q.length<=a.length -1/\∀k,cQ a k=aH (cQ q) (cQ [-t,1]) k+cQ [Th t a] k
 |[]=>⟨[],FC _,λk=>by rw[FG,mn];cases k<;>rfl⟩
 |[c]=>⟨[],FC _,λk=>by rw[FG,mn];show cQ [c] k=cQ [c+t*0] k;rw[Pv,zz3]⟩
 |c::d::a=>by
  obtain⟨q,b,e⟩:=horner t (d::a);refine⟨Th t (d::a)::q,by simp at b⊢;omega,λk=>?_⟩;show _=_+cQ [c+t*Th t (d::a)] k;generalize Th t (d::a)=v at*;cases k with
  |zero=>rw[cW];show c=v* -t+(c+t*v);grind
  |succ k=>
   rw[fJ];have:=e k;show cQ (d::a) k=v*cQ [-t,1] (k+1)+aH (cQ q) (cQ [-t,1]) k+0;rw[this];cases k with
   |zero=>show _+v=v*1+_+0;grind
   |succ k=>show _+0=v*0+_+0;grind
end Num
namespace Sub
open Num
noncomputable def cut(c:Vc):Vc:=λi=>if i.1 then 0 else c i
end Sub
namespace Num
open Sub
theorem Y7{a b c:Int}(e:c=a+b)(j:c.natAbs<N)(i:N<=P)(g:b.natAbs<=K)(f:K<=31*P)(d:x<=a.natAbs):x<32*P:=by have h:=dV c b;rw[e,Int.add_sub_cancel,<-e]at h;lia
theorem Br{Z g ns:List Int}(e:∀k,ns.getD k 0=jT (co Z) (co g) k)(l:ns.length+1=Z.length+g.length)(r:ns.length<=30)(t:0<g.length)(o:g.getD (g.length -1) 0≠0)(d:∀x∈ns,x.natAbs<2^n)(f:∀x∈g,x.natAbs<2^q):
 ∀s i,Z.length<=i+s->(Z.getD i 0).natAbs<2^(n+s*(q+5))
 |0,i,h=>by rw[outI (by lia)];exact TB (by decide)
 |s+1,i,h=>by
  by_cases hi:Z.length<=i
  .rw[outI hi];exact TB (by decide)
  have ih:=Br e l r t o d f s;have c:=e (i+(g.length -1));generalize E:i+(g.length -1)=k at c;have a:∀(l:List Int)(m:Nat),(∀x∈l,x.natAbs<2^m)->∀j,(l.getD j 0).natAbs<2^m:=λl m h j=>by
   by_cases b:j<l.length
   .exact h _ (getD_mem' b)
   .rw[outI (by lia)];exact TB (by decide)
  have p:jT (co Z) (co g) k=Z.getD i 0*g.getD (g.length -1) 0+sm (λj=>if j=i then 0 else Z.getD j 0*g.getD (k -j) 0) (k+1):=by
   unfold jT co;have u:∀j,Z.getD j 0*g.getD (k -j) 0=(if j=i then Z.getD j 0*g.getD (k -j) 0 else 0)+(if j=i then 0 else Z.getD j 0*g.getD (k -j) 0):=λj=>by
    by_cases z:j=i
    .rw[D1 z,D1 z,iq]
    .rw[Bz z,Bz z,zza]
   rw[gZ (k+1) λj _=>u j,zx,uP i (λj=>Z.getD j 0*g.getD (k -j) 0),D1 (by lia),show k -i=g.length -1 by lia]
  have v:(sm (λj=>if j=i then 0 else Z.getD j 0*g.getD (k -j) 0) (k+1)).natAbs<=(k+1)*2^(n+s*(q+5)+q):=by
   refine Fq _ λj b=>?_;by_cases z:j=i
   .rw[D1 z];exact Os _
   .rw[Bz z,GT,Y1 2 _ q];by_cases D:j<i
    .rw[outI (ns:=g) (k:=k -j) (by lia)];exact Os _
    .exact QR (SZ (ih j (by lia))) (SZ (a g q f _))
  have C:=a ns n d k;have B:(Z.getD i 0).natAbs<=(Z.getD i 0*g.getD (g.length -1) 0).natAbs:=by rw[GT];exact UV _ (by lia)
  have A:(2:Nat)^n<=2^(n+s*(q+5)+q):=Ha (by decide) (by lia);have y:(k+1)*2^(n+s*(q+5)+q)<=31*2^(n+s*(q+5)+q):=X9 _ (by lia);have w:(2:Nat)^(n+(s+1)*(q+5))=32*2^(n+s*(q+5)+q):=by rw[R1,show n+(s*(q+5)+(q+5))=n+s*(q+5)+q+5 by lia,Y1 2 _ 5,ag]
  rw[w];exact Y7 (c.trans p) C A v y B
theorem OW{g m f:Pq}(e:∀k,g k=κ*m k)(h:DQ g f):DQ m f:=by obtain⟨s,b,a⟩:=h;refine⟨λk=>κ*s k,b.MR κ,λk=>?_⟩;rw[a k,bV,aW (λ_=>rfl) e,g6]
theorem JR(P:Rp p)(S:r6 p (bF p) l)(h:(bF p::l).getLast?=some [c])(a:c≠0):Cc p (p::bF p::l):=by
 refine⟨p,l,rfl,⟨P.z,P.ne,l,[c],c⁻¹,S,h,λz=>?_,λk=>?_⟩,S⟩
 .have:=OK c a;rw[z,Y2]at this;exact absurd this (by decide+kernel)
 .have e:∀i,cQ [c] i=c*(if i=0 then 1 else 0):=λi=>by
   cases i with
   |zero=>show c=c*1;grind
   |succ i=>show(0:Rat)=c*0;grind
  rw[aW (λ_=>rfl) e,g6,bG,p9,<-dC,OK c a,cq]
theorem gD(h:ns.getD (ns.length -1) 0≠0):aq (qI ns):=λx a=>by
 rw[KM,bJ]at a;have e:cQ (qI ns) (ns.length -1)=x:=by show(qI ns).getD _ 0=x;rw[AC,a];rfl
 rw[cS]at e;rw[<-e];exact λz=>h (GM.mp z)
theorem ve.ne(h:ve A a)(z:aq a)(n:a≠[]):A.getD (A.length -1) 0≠0:=λe=>by obtain⟨b,g,c,f⟩:=h;have:=kW z (Jn.mpr n);have d:a.getD (a.length -1) 0=b*((A.getD (a.length -1) 0:Int):Rat):=f (a.length -1);rw[c,e]at d;rw[c]at this;refine this (d.trans ?_);exact Pv b
theorem OX(K:2<=ns.length)(m:ns.getD (ns.length -1) 0≠0)(S:r6 (qI ns) (bF (qI ns)) l)(v:(bF (qI ns)::l).getLast?=some g)(w:ve A g)(U:0<c)(O:∀x∈A,c∣x)(Q:∀d:Int,(∀x∈A,d∣x)->d∣c)(B:ms=A.map (·/c)):
 ∃Z:List Int,(0<ms.length/\ms.getD (ms.length -1) 0≠0)/\(0<Z.length/\ns.length+1=Z.length+ms.length/\(∀k,ns.getD k 0=jT (co Z) (co ms) k))/\Bp (qI ns) (qI Z)/\Z.getD (Z.length -1) 0≠0:=by
 have P:Rp (qI ns):=⟨gD m,by rw[bJ];exact K⟩;obtain⟨Y,D,H,r,G⟩:=S.last (mZ P.z) P.kY;rw[v]at D;cases D;have J:=w.ne H r;obtain⟨j,y,N,f⟩:=w;have s:0<A.length:=by rw[<-N];exact Jn.mpr r
 have b:ms.length=A.length:=by rw[B,Bi]
 have n:∀k,A.getD k 0=c*ms.getD k 0:=λk=>by
  rw[B];by_cases h:k<A.length
  .rw[AC,AC,FR,D2 h];show A[k]=c*(A[k]/c);rw[zzm (O _ (d5 h))]
  .rw[outI (by lia),outI (by rw[Bi];lia),T1]
 have p:ms.getD (ms.length -1) 0≠0:=λe=>J (by rw[n,<-b,e,T1]);have one:∀d:Int,(∀x∈ms,d∣x)->d∣1:=λd X=>by
  have:c*d∣c:=Q _ λx L=>by
   obtain⟨k,f,rfl⟩:=UF L;have e:=n k;rw[AC,D2 f]at e;have e:A[k]=c*ms.getD k 0:=e;rw[e];have t:k<ms.length:=by rw[b];exact f
   refine zzn _ (X _ ?_);rw[AC,D2 t];exact d5 t
  rw[show c=c*1 by rw[eC]]at this;rw[eC]at this;obtain⟨u,M⟩:=this;exact⟨u,QQ (Int.ne_of_gt U) (by rw[eC,<-Yf];exact M)⟩
 have C:∀k,cQ g k=(j*(c:Rat))*cz ms k:=λk=>by rw[f k,n k,BM,dC]
 have R:DQ (cz ms) (cz ns):=(OW C G.l).ext λk=>(cS ns k).symm;obtain⟨Z,I,F,q,E⟩:=JM (by lia) m (by rw[b];exact s) p one R;have o:Z.getD (Z.length -1) 0≠0:=λe=>m (by rw[E,e,dk]);have T:(c:Rat)≠0:=λz=>by have:=GM.mp z;lia
 have a:j*(c:Rat)≠0:=λz=>by
  rcases Kk.mp z with z|z
  .rw[z]at y;exact absurd y (by decide)
  .exact T z
 refine⟨Z,⟨by rw[b];exact s,p⟩,⟨I,F,q⟩,⟨gD o,λe=>?_,l,g,(j*(c:Rat))⁻¹,S,v,λz=>?_,λk=>?_⟩,o⟩
 .have:=bJ Z;rw[e]at this;have:0=Z.length:=this;lia
 .have:=OK _ a;rw[z]at this;rw[Y2]at this;exact absurd this (by decide+kernel)
 .rw[aW (λ_=>rfl) C,g6,<-dC,OK _ a,cq,cS,q k,<-qe];exact aW (λi=>(cS Z i).symm) (λ_=>rfl) k
structure lz(f:Rat->Bool):Prop where
 dn:∀x y,x<=y->f y=true->f x=true
 op:∀x,f x=true->∃y,x<y/\f y=true
def Rt(f:Rat->Bool)(φ:Rat->Rat):Prop:=∀x y,f x=true->f y=false->∀e:Rat,0<e->∃z,In x y z/\ab (φ z) e
theorem lz.lt(h:lz f)(b:f x=true)(a:f y=false):x<y:=by
 by_cases k:y<=x
 .rw[h.dn y x k b]at a;cases a
 .grind
noncomputable def gQ(x y:Rat)(f:Rat->Bool):Bool:=f x&&!f y
theorem cU:gQ x y f=true↔f x=true/\f y=false:=by unfold gQ;cases f x<;>cases f y<;>simp
theorem Bs(b:l<=m)(a:m<=r):∀L:List (Rat->Bool),(∀f∈L,lz f)->L.countP (gQ l r)=L.countP (gQ l m)+L.countP (gQ m r)
 |[],_=>rfl
 |f::L,h=>by have ih:=Bs b a L λg d=>h g (FM _ d);have c:=h f FS;rw[tJ,tJ,tJ,ih];have k:=c.dn l m b;have a2:=c.dn m r a;unfold gQ;cases j:f l<;>cases i:f m<;>cases e:f r<;>simp_all<;>lia
theorem Bu{α:Type}{q:α->Bool}{R:α->α->Prop}(h:∀a b,R a b->q a=true->q b=true->False):∀{L:List α},L.Pairwise R->L.countP q<=1
 |[],_=>Os _
 |a::L,c=>by
  rw[hJ]at c;have ih:=Bu h c.2;rw[tJ];by_cases d:q a=true
  .have:L.countP q=0:=vb.mpr λb f e=>h a b (c.1 b f) d e;rw[this,D1 d];exact FC _
  .rw[Bz d];exact ih
def Sep(f g:Rat->Bool):Prop:=∃z,f z≠g z
theorem C3{N:dJ a b}(E:s=1\/s= -1)(d:∀x y,N.I n x->N.I n y->x<y->s*φ x<s*φ y)(c:lz f)(r:Rt f φ){x y:Rat}(m:N.I n x)(i:N.I n y)(C:f x=true)(o:f y=false):s*φ x<0/\0<=s*φ y:=by
 have q:∀{u v z:Rat},N.I n u->N.I n v->In u v z->N.I n z:=λ{u v z} B A hz=>by unfold dJ.I In at*;grind
 have w:∀u v,N.I n u->N.I n v->u<=v->s*φ u<=s*φ v:=λu v B A D=>by
  by_cases e:u=v
  .rw[e];grind
  .have:=d u v B A (by grind);grind
 have sm:∀{e t:Rat},0<e->ab t e->-e<=s*t/\s*t<=e:=λ{e t} J h=>by unfold ab at h;rcases E with rfl|rfl<;>grind
 constructor
 .by_cases k:0<=s*φ x
  .exfalso
   obtain⟨g,F,j⟩:=c.op x C;have H:=c.lt j o;have l:N.I n g:=q m i ⟨by grind,by grind⟩;have G:=d x g m l F;obtain⟨z,hz,p⟩:=r g y j o (s*φ g*2⁻¹) (by grind);have:=sm (by grind) p;have:=w g z l (q l i hz) hz.1;have j:(2:Rat)*2⁻¹=1:=by grind
   grind
  .grind
 .by_cases k:s*φ y<0
  .exfalso
   obtain⟨z,hz,p⟩:=r x y C o (-(s*φ y)*2⁻¹) (by grind);have:=sm (by grind) p;have:=w z y (q m i hz) i hz.2;have j:(2:Rat)*2⁻¹=1:=by grind
   grind
  .grind
theorem vf(h:a<b)(Z:∀x y,a<=x->x<y->y<=b->Ch x y (φ::ψ::l))(hd:∀x y,a<=x->x<y->y<=b->OM x y φ ψ){L:List (Rat->Bool)}(O:∀f∈L,lz f/\Rt f φ)(S:L.Pairwise Sep)
 (J:∀x y,a<=x->x<y->y<=b->φ x≠0->(∀f∈L,gQ x y f=false)->∃c:Rat,0<c/\∀z,In x y z->¬ab (φ z) c):uX (φ::ψ::l) a=uX (φ::ψ::l) b+L.countP (gQ a b):=by
 have cut:∀f∈L,lz f:=λf d=>(O f d).1;have k:=qo (dM:=λx y=>uX (φ::ψ::l) x≠uX (φ::ψ::l) y+L.countP (gQ x y)) h (λl m r hl hr _ hb=>by
  have:=Bs (FK hl) (FK hr) L cut;lia) (λN=>by
  have H:=Z a b (by grind) h (by grind);have Ti:∀{n:Nat}{u v z:Rat},N.I n u->N.I n v->In u v z->N.I n z:=λ{n u v z} X U hz=>by unfold dJ.I In at*;grind
  rcases N.DR H.Io with z|⟨s,p⟩
  .obtain⟨s,w,n,K,Q⟩:=H.nR N (hd a b (by grind) h (by grind)) z;obtain⟨mono,t⟩:=Q n (FC _);refine⟨n,λx y o j i=>?_⟩;have one:∀f∈L,∀u v,N.I n u->N.I n v->f u=true->f v=false->s*φ u<0/\0<=s*φ v:=λf d u v X U fu fv=>C3 w mono (O f d).1 (O f d).2 X U fu fv;have le1:L.countP (gQ x y)<=1:=by
    refine Bu (R:=λf g=>Sep f g/\f∈L/\g∈L) (λf g ⟨⟨z,hz⟩,d,G⟩ D B=>?_) (ON.mpr λ{f g} w=>⟨ON.mp S w,w.subset (by simp),w.subset (by simp)⟩);have Y:∀f g,f∈L->g∈L->gQ x y f=true->gQ x y g=true->f z=true->g z=false->False:=λf g d G D B C a2=>by rw[cU]at D B;have l1:=(cut g G).lt B.1 a2;have l2:=(cut f d).lt C D.2;have P:N.I n z:=Ti o j ⟨by grind,by grind⟩;have b1:=one g G x z o P B.1 a2;have b2:=one f d z y P j C D.2;grind
    cases C:f z with
    |true=>exact Y f g d G D B C (by cases a2:g z with|true=>exact absurd (C.trans a2.symm) hz|false=>rfl)
    |false=>exact Y g f G d B D (by cases a2:g z with|true=>rfl|false=>exact absurd (C.trans a2.symm) hz) C
   by_cases E:L.countP (gQ x y)=0
   .rw[E,fb];refine λh=>h ?_;have F:∀f∈L,gQ x y f=false:=λf d=>by have:=vb.mp E f d;simpa using this
    have m:=mono x y o j i;by_cases q:s*φ x<0
    .have nz:φ x≠0:=λe=>by rw[e,Pv]at q;exact absurd q (by decide)
     have bx:=N.base o;have M:=N.base j;obtain⟨c,E,T⟩:=J x y bx.1 i M.2 nz F;exact Ch.stay i (Z x y bx.1 i M.2) E T
    .rw[t x o,t y j,Bz q,Bz (by grind)]
   .obtain⟨f,d,A⟩:=aa.mp (Nat.pos_of_ne_zero E);rw[cU]at A;have:=one f d x y o j A.1 A.2;rw[t x o,t y j,D1 this.1,Bz (by grind),show L.countP (gQ x y)=1 by lia];lia
  .obtain⟨n,K,Q⟩:=H.tZ N p;obtain⟨w,c,E,m,hm⟩:=p;refine⟨max n m,λx y o j i=>?_⟩;have:L.countP (gQ x y)=0:=vb.mpr λf d A=>by
    rw[cU]at A;obtain⟨z,hz,az⟩:=(O f d).2 x y A.1 A.2 (c*2⁻¹) (by grind);have P:N.I (max n m) z:=Ti o j hz;have:=hm z (N.mono (tI n m) P);unfold ab at az;have B:(2:Rat)*2⁻¹=1:=by grind
    rcases w with rfl|rfl<;>grind
   rw[Q _ (pj n m) x o,Q _ (pj n m) y j,this];exact λh=>h rfl)
 exact Xi.mp k
theorem FH(x:Rat):∀a:List Rat,Th x a=ev x a
 |[]=>rfl
 |c::a=>SU (λt=>c+x*t) (FH x a)
theorem JS(x c:Rat):ev x [c]=c:=by show c+x*0=c;grind
theorem FI(x c d:Rat):ev x [c,d]=c+x*d:=by show c+x*(d+x*0)=_;grind
theorem DQ.Y8(h:DQ (cQ a) (cQ b)):∃q:List Rat,∀x,ev x b=ev x q*ev x a:=by obtain⟨s,c,e⟩:=h;obtain⟨q,_,rfl⟩:=aS c;exact⟨q,λx=>nT x e⟩
theorem JT(h:ev x p=0):DQ (cQ [-x,1]) (cQ p):=by
 obtain⟨q,_,e⟩:=horner x p;refine⟨cQ q,aI q,λk=>?_⟩;rw[e k,FH,h];have:cQ [(0:Rat)] k=0:=by cases k<;>rfl
 rw[this];grind
theorem t8(z:aq g)(p:2<=g.length)(D:g.length<=4)(h:g.length=2\/∀x,ev x g≠0):mH (cQ g):=by
 have b:g≠[]:=λe=>by rw[e]at p;exact absurd p (by decide)
 have Xp:∀d:List Rat,aq d->d.length=2->∃x,ev x d=0:=λd a o=>by
  match d,o with
  |[c,e],_=>have A:e≠0:=a e rfl;refine⟨-c*e⁻¹,?_⟩;rw[FI,dC,OK _ A];grind
 refine⟨aI g,dY z b,λu=>by have:=Bj z u;omega,λd y l=>?_⟩;obtain⟨d,a,rfl⟩:=aS y;obtain⟨f,j⟩:=qp a z b l;rcases j with C|B
 .have o:=Jn.mpr f;by_cases E:d.length=1
  .exact .inl (mY a f (by omega))
  exfalso
  have n:∀x,ev x g≠0:=by
   rcases h with h|h
   .omega
   .exact h
  obtain⟨q,v⟩:=l.Y8;by_cases t:d.length=2
  .obtain⟨x,i⟩:=Xp d a t;exact n x (by rw[v,i,Pv])
  .obtain⟨s,w,e⟩:=l.eq;obtain⟨s,m,rfl⟩:=aS w;have r:=jV (zC e (dY z b));have:=iS m a z r f e;obtain⟨x,i⟩:=Xp s m (by lia);refine n x ?_;rw[nT x (λk=>w8 e k),i,Y2]
 .exact .inr B
theorem Bp.part(P:Rp p)(h:Bp p s)(a:mH π)(d:DQ π (cQ p)):DQ π (cQ s):=by obtain⟨m,b⟩:=a.val (aI p) (dY P.z P.ne);have c:=(b.pos a).mp d;exact((h.val P a b).pos a).mpr (by lia)
theorem Bp.dq(h:Bp p s):DQ (cQ s) (cQ p):=by obtain⟨_,_,_,g,a,_,_,_,e⟩:=h;refine⟨λi=>a*cQ g i,(aI g).MR a,λk=>?_⟩;rw[e k,bV,bG]
theorem Bp.zero(P:Rp p)(h:Bp p s)(e:ev x p=0):ev x s=0:=by
 have b:aq [-x,1]:=λy a=>by have a:some (1:Rat)=some y:=a;cases a;exact show(1:Rat)≠0 by decide
 obtain⟨q,c⟩:=(h.part P (t8 b (show 2<=2 by decide) (show 2<=4 by decide) (.inl rfl)) (JT e)).Y8;rw[c,FI];grind
theorem DQ.small(h:DQ (cQ a) (cQ b))(c:x<=y):∃B:Rat,0<B/\∀z,In x y z->∀e,ab (ev z a) e->ab (ev z b) (B*e):=by obtain⟨q,d⟩:=h.Y8;obtain⟨B,i,g⟩:=kZ c q;refine⟨B+1,by grind,λz hz e f=>?_⟩;rw[d];exact ao (aZ (g z hz) (by grind)) f
theorem Rt.dq(c:lz f)(r:Rt f (wM a))(h:DQ (cQ a) (cQ b)):Rt f (wM b):=λx y g d e j=>by obtain⟨B,l,i⟩:=h.small (FK (c.lt g d));obtain⟨z,hz,k⟩:=r x y g d (e*B⁻¹) (GE j (Pi.mpr l));refine⟨z,hz,?_⟩;have:=i z hz _ k;have m:B*B⁻¹=1:=Fs _ (by grind);rw[show B*(e*B⁻¹)=e by grind]at this;exact this
theorem Cc.known(P:Rp p)(h:Cc p C)(n:lo<hi){L:List (Rat->Bool)}(j:∀f∈L,lz f/\∃g,mH (cQ g)/\DQ (cQ g) (cQ p)/\Rt f (wM g))(i:L.Pairwise Sep)
 (d:∀x y,x<y->ev x p≠0->(∀f∈L,gQ x y f=false)->∃c:Rat,0<c/\∀z,In x y z->¬ab (ev z p) c):cP C lo=cP C hi+L.countP (gQ lo hi):=by
 obtain⟨s,l,rfl,B,S⟩:=h;have co:=B.const P S;rw[<-ly,<-ly];refine vf (φ:=wM s) (ψ:=wM (bF s)) (l:=l.map wM) n (λx y _ a _=>S.ch (FK a) co) (λx y _ a _=>Bm (FK a) s) (λf o=>?_) i λx y _ a _ k b=>?_
 .obtain⟨c,g,m,u,r⟩:=j f o;exact⟨c,r.dq c (B.part P m u)⟩
 .obtain⟨c,v,q⟩:=d x y a (λe=>k (B.zero P e)) b;obtain⟨D,A,t⟩:=B.dq.small (FK a);refine⟨c*D⁻¹,GE v (Pi.mpr A),λz hz w=>q z hz ?_⟩;have:=t z hz _ w;have E:D*D⁻¹=1:=Fs _ (by grind);rw[show D*(c*D⁻¹)=c by grind]at this;exact this
noncomputable def pk(k:Int)(A:Rat):Rat:=if k=1 then A else if k=2 then(if A<0 then-(A*A)else A*A)else A*A*A
theorem eN(a:Rat):0<=a*a:=by
 by_cases h:0<=a
 .exact PH h h
 .have:=PH (show 0<=-a by grind) (show 0<=-a by grind);grind
theorem oJ{a b c d:Rat}(g:0<=a)(f:a<=b)(h:0<=c)(e:c<=d):a*c<=b*d:=by have:=Da e g;have:=Kb f (show 0<=d by grind);grind
theorem oK(k:Int)(h:A<=B)(l:1<=M)(n:ab A M)(m:ab B M):pk k A<=pk k B/\pk k B -pk k A<=3*(M*M)*(B -A):=by
 unfold ab at n m;have M2:M<=M*M:=by have:=Da l (show 0<=M by grind);grind
 have d:0<=B -A:=by grind
 have D:=PH (show 0<=M*M by grind) d;have C:=Kb M2 d;have c:∀{x y:Rat},0<=x->0<=y->0<=x*y:=λp o=>PH p o;unfold pk;by_cases g:k=1
 .rw[D1 g,D1 g];have:=Kb (show(1:Rat)<=M*M by grind) d;exact⟨h,by grind⟩
 rw[Bz g,Bz g];by_cases f:k=2
 .rw[D1 f,D1 f];by_cases a:A<0
  .rw[D1 a];by_cases b:B<0
   .rw[D1 b];have j:=c d (show 0<=-A -B by grind);have i:=c d (show 0<=2*M+A+B by grind);exact⟨by grind,by grind⟩
   .rw[Bz b];have j:=eN A;have i:=eN B;have z:=c (show 0<=B by grind) (show 0<=M -B by grind);have w:=c (show 0<=-A by grind) (show 0<=M+A by grind);exact⟨by grind,by grind⟩
  .rw[Bz a,Bz (show¬B<0 by grind)];have j:=c d (show 0<=A+B by grind);have i:=c d (show 0<=2*M -A -B by grind);exact⟨by grind,by grind⟩
 .rw[Bz f,Bz f];have e:B*B*B -A*A*A=(B -A)*(A*A+A*B+B*B):=by grind
  have v:=eN (A+B);have u:=eN A;have t:=eN B;have j:=c d (show 0<=A*A+A*B+B*B by grind);have s:=c (show 0<=M -A by grind) (show 0<=M+A by grind);have r:=c (show 0<=M -B by grind) (show 0<=M+B by grind);have q:=eN (A -B);have i:=c d (show 0<=3*(M*M) -(A*A+A*B+B*B) by grind);exact⟨by grind,by grind⟩
theorem FJ(x:Rat):∃M:Rat,1<=M/\ab x M:=by
 unfold ab;by_cases h:0<=x
 .exact⟨x+1,by grind,by grind,by grind⟩
 .exact⟨1 -x,by grind,by grind,by grind⟩
theorem FN(x y:Rat):∃M:Rat,1<=M/\ab x M/\ab y M:=by obtain⟨M,d,b⟩:=FJ x;obtain⟨N,c,a⟩:=FJ y;exact⟨M+N,by grind,aZ b (by grind),aZ a (by grind)⟩
theorem qx(k:Int)(h:A<=B):pk k A<=pk k B:=by obtain⟨M,c,b,a⟩:=FN A B;exact(oK k h c b a).1
theorem xS(k:Int)(b:0<S):pk k (S*A)=pk k S*pk k A:=by
 have e:¬S<0:=by grind
 unfold pk;by_cases d:k=1
 .simp only[D1 d]
 simp only[Bz d];by_cases c:k=2
 .simp only[D1 c,Bz e];have a:S*A<0↔A<0:=by
   constructor
   .intro h;by_cases q:A<0
    .exact q
    .have:=PH (FK b) (show 0<=A by grind);grind
   .intro h;have:=GE b (show 0< -A by grind);grind
  by_cases q:A<0
  .rw[D1 (a.mpr q),D1 q];grind
  .rw[Bz (λz=>q (a.mp z)),Bz q];grind
 .simp only[Bz c];grind
theorem m5(k:Int)(a:0<S):0<pk k S:=by
 have e:¬S<0:=by grind
 have b:=GE a a;unfold pk;by_cases d:k=1
 .rw[D1 d];exact a
 rw[Bz d];by_cases c:k=2
 .rw[D1 c,Bz e];exact b
 .rw[Bz c];exact GE b a
theorem Vp(k:Int)(h:A<B):pk k A<pk k B:=by
 have o:=qx k (FK h);by_cases e:pk k A=pk k B
 .exfalso
  revert e
  have f:0<B -A:=by grind
  unfold pk;by_cases d:k=1
  .rw[D1 d,D1 d];grind
  rw[Bz d,Bz d];by_cases c:k=2
  .rw[D1 c,D1 c];by_cases a:A<0
   .have n:=GE (show 0< -A by grind) (show 0< -A by grind);have m:=eN B;rw[D1 a];by_cases b:B<0
    .rw[D1 b];have:=GE f (show 0< -A -B by grind);grind
    .rw[Bz b];grind
   .rw[Bz a,Bz (show¬B<0 by grind)];have:=GE f (show 0<A+B by grind);grind
  .rw[Bz c,Bz c];have l:=eN (A+B);have j:=eN A;have i:=eN B;have g:0<A*A+A*B+B*B:=by
    by_cases a:A=0
    .rw[a];have:0<B:=by grind
     have:=GE this this;grind
    .have:0<A*A:=by
      by_cases q:A<0
      .have:=GE (show 0< -A by grind) (show 0< -A by grind);grind
      .have:0<A:=by grind
       exact GE this this
     grind
   have:=GE f g;intro e;grind
 .grind
theorem ivt(w:∀a b,a<=b->OJ a b φ)(k:φ x<0)(j:0<=φ y)(d:x<y)(A:0<e):∃z,In x y z/\ab (φ z) e:=by
 refine Ee λg=>?_;have g:∀z,In x y z->¬ab (φ z) e:=λz hz B=>g ⟨z,hz,B⟩;refine qo (dM:=λl r=>φ l<0/\0<=φ r) d (λl m r _ _ _ h=>?_) (λN=>?_) ⟨k,j⟩
 .by_cases q:φ m<0
  .exact .inr ⟨q,h.2⟩
  .exact .inl ⟨h.1,by grind⟩
 .rcases N.DR (w x y (FK d))with z|⟨s,t,c,C,n,f⟩
  .obtain⟨n,f⟩:=z e A;have i:N.I n (N.l n):=⟨by grind,FK (N.lt n)⟩;exact absurd (f _ i) (g _ (N.base i))
  .refine⟨n,λu v p o _ h=>?_⟩;have D:=f u p;have a2:=f v o;rcases t with rfl|rfl<;>grind
structure Kn where
 t:Int
 s:Int
 u:Int
 b:Int
 k:Int
structure aD(n:Kn):Prop where
 b0:0<n.b
 kd:n.k=1\/n.k=2\/n.k=3
 s0:n.k=1->n.s=0
 s1:n.k≠1->n.s=1\/n.s= -1
 u0:n.k≠1->0<n.u
 np:n.k≠1->∀r:Rat,pk n.k r≠(n.u:Rat)/\pk n.k r≠-(n.u:Rat)
noncomputable def Kn.A(n:Kn)(x:Rat):Rat:=(n.b:Rat)*x -n.t
noncomputable def Kn.c(n:Kn):Rat:=(n.s:Rat)*n.u
noncomputable def Kn.f(n:Kn)(x:Rat):Rat:=pk n.k (n.A x) -n.c
noncomputable def Kn.lo(n:Kn)(x:Rat):Bool:=decide (n.f x<0)
noncomputable def Kn.h(n:Kn)(x:Rat):Rat:=if n.k=2 then n.A x*n.A x -n.u else n.f x
section
variable{n:Kn}
theorem aD.qb(h:aD n):(0:Rat)<(n.b:Rat):=Ya.mpr h.b0
theorem aD.Vq(h:aD n)(l:x<y):n.A x<n.A y:=by have:=GE h.qb (show 0<y -x by grind);unfold Kn.A;grind
theorem aD.C4(h:aD n)(l:x<y):n.f x<n.f y:=by have:=Vp n.k (h.Vq l);unfold Kn.f;grind
theorem aD.vg(h:aD n)(l:x<=y):n.f x<=n.f y:=by
 by_cases e:x=y
 .rw[e];grind
 .exact FK (h.C4 (by grind))
theorem aD.Io(h:aD n)(a b:Rat)(l:a<=b):OJ a b n.f:=by
 obtain⟨M,m,w,v⟩:=FN (n.A a) (n.A b);have c:∀{x y:Rat},x<=y->n.A x<=n.A y:=λ{x y} q=>by
  by_cases e:x=y
  .rw[e];grind
  .exact FK (h.Vq (by grind))
 have s:=PH (show(0:Rat)<=M by grind) (show(0:Rat)<=M by grind);have g:=PH (show(0:Rat)<=3*(M*M) by grind) (FK h.qb);refine⟨3*(M*M)*n.b,g,λx y p o d=>?_⟩;have i:∀{z:Rat},In a b z->ab (n.A z) M:=λ{z} hz=>by have u:=c hz.1;have t:=c hz.2;unfold ab at*;grind
 obtain⟨r,j⟩:=oK n.k (c d) m (i p) (i o);have e:n.A y -n.A x=n.b*(y -x):=by unfold Kn.A;grind
 rw[e]at j;have:=PH g (show 0<=y -x by grind);unfold ab Kn.f;grind
theorem aD.dh:n.lo x=true↔n.f x<0:=by unfold Kn.lo;exact decide_eq_true_iff
theorem aD.lC:n.lo x=false↔0<=n.f x:=by unfold Kn.lo;rw[decide_eq_false_iff_not];exact Rat.not_lt
theorem aD.cut(h:aD n):lz n.lo:=by
 refine⟨λx y l c=>?_,λx g=>?_⟩
 .rw[aD.dh]at c⊢;have:=h.vg l;grind
 .rw[aD.dh]at g;obtain⟨L,s,i⟩:=h.Io x (x+1) (by grind);have a:=Pi.mpr (show(0:Rat)<2*(L+1) by grind);have b:2*(L+1)*(2*(L+1))⁻¹=1:=Fs _ (by grind);have o:=GE (show 0< -n.f x by grind) a;generalize(2*(L+1))⁻¹=j at*;obtain⟨d,r,p,k⟩:∃d:Rat,0<d/\d<=1/\d<=-n.f x*j:=by
   by_cases q: -n.f x*j<=1
   .exact⟨_,o,q,by grind⟩
   .exact⟨1,by decide,by grind,by grind⟩
  refine⟨x+d,by grind,aD.dh.mpr ?_⟩;have:=i x (x+d) ⟨by grind,by grind⟩ ⟨by grind,by grind⟩ (by grind);have m:=Da k (show 0<=L+1 by grind);unfold ab at this;have e:(L+1)*(-n.f x*j)*2= -n.f x*(2*(L+1)*j):=by grind
  rw[b]at e;grind
theorem aD.rt(h:aD n):Rt n.lo n.f:=λx y b a e c=>ivt h.Io (aD.dh.mp b) (aD.lC.mp a) (h.cut.lt b a) c
theorem aD.c2(h:aD n)(k2:n.k=2):n.c=n.u\/n.c= -n.u:=by
 unfold Kn.c;rcases h.s1 (by rw[k2];decide)with e|e
 .rw[e];left;exact cq _
 .rw[e];right;show(-1:Rat)*_=_;grind
theorem aD.qu(h:aD n)(a:n.k≠1):(0:Rat)<(n.u:Rat):=Ya.mpr (h.u0 a)
theorem Iq(A:Rat):pk 2 A=if A<0 then-(A*A)else A*A:=rfl
theorem aD.OY(h:aD n)(a:ab (n.f z) e):ab (n.h z) e:=by
 unfold Kn.h;by_cases b:n.k=2
 .rw[D1 b];have d:=h.qu (by rw[b];decide);have c:=h.c2 b;unfold Kn.f at a;rw[b,Iq]at a;have s:=eN (n.A z);unfold ab at*;by_cases q:n.A z<0
  .rw[D1 q]at a;rcases c with c|c<;>rw[c]at a<;>grind
  .rw[Bz q]at a;rcases c with c|c<;>rw[c]at a<;>grind
 .rw[Bz b];exact a
theorem aD.OZ(h:aD n)(d:n.k≠1)(x:Rat):n.h x≠0:=by
 unfold Kn.h;have np:=h.np d;by_cases b:n.k=2
 .rw[D1 b];rw[b]at np;intro e;have a:=np (n.A x);rw[Iq]at a;by_cases q:n.A x<0
  .rw[D1 q]at a;exact a.2 (by grind)
  .rw[Bz q]at a;exact a.1 (by grind)
 .rw[Bz b];intro e;have a:=np (n.A x);unfold Kn.f at e;have c:n.c=n.u\/n.c= -n.u:=by
   unfold Kn.c;rcases h.s1 d with e|e
   .rw[e];left;exact cq _
   .rw[e];right;show(-1:Rat)*_=_;grind
  rcases c with c|c
  .exact a.1 (by grind)
  .exact a.2 (by grind)
noncomputable def Kn.cj(n:Kn):Kn:={n with s:= -n.s}
theorem aD.cj(h:aD n)(k2:n.k=2):aD n.cj:=by
 have a:n.k≠1:=by rw[k2];decide
 refine⟨h.b0,h.kd,λe=>absurd e a,λe=>?_,h.u0,h.np⟩;show-n.s=1\/-n.s= -1;have:=h.s1 a;lia
theorem Kn.Y9(n:Kn)(k2:n.k=2)(x:Rat):n.cj.h x=n.h x:=by unfold Kn.h;rw[D1 k2,D1 (show n.cj.k=2 from k2)];rfl
theorem aD.O2(h:aD n)(k2:n.k=2):Sep n.lo n.cj.lo:=by
 have e:n.k≠1:=by rw[k2];decide
 have j:=h.qu e;have qb:=h.qb;have l:(n.b:Rat)*(n.b:Rat)⁻¹=1:=Fs _ (by grind);have d:n.A (n.t*(n.b:Rat)⁻¹)=0:=by unfold Kn.A;grind
 have a:pk 2 0=0:=by decide+kernel
 have i:n.f (n.t*(n.b:Rat)⁻¹)= -n.c:=by unfold Kn.f;rw[k2,d,a];grind
 have g:n.cj.f (n.t*(n.b:Rat)⁻¹)=n.c:=by show pk n.k (n.A _) -((-n.s:Int):Rat)*n.u=_;rw[k2,d,a,DN];unfold Kn.c;grind
 refine⟨n.t*(n.b:Rat)⁻¹,?_⟩;unfold Kn.lo;rw[i,g];rcases h.c2 k2 with c|c
 .rw[c,Fn (by grind),IR (by grind)];decide
 .rw[c,IR (by grind),Fn (by grind)];decide
theorem aD.stay(h:aD n)(g:n.h x≠0)(D:gQ x y n.lo=false)(E:n.k=2->gQ x y n.cj.lo=false):∃c:Rat,0<c/\∀z,In x y z->c<=n.h z\/n.h z<=-c:=by
 have o:∀{m:Kn},gQ x y m.lo=false->m.f x<0->m.f y<0:=λ{m} q a=>by
  have:m.lo y≠false:=λe=>by have:=cU.mpr ⟨aD.dh.mpr a,e⟩;rw[q]at this;cases this
  exact aD.dh.mp (by cases z:m.lo y with|true=>rfl|false=>exact absurd z this)
 have i:=o D;by_cases d:n.k=2
 .have p:=o (E d);have K:=h.qu (by rw[d];decide);have P:∀z,pk 2 (n.A z)=n.f z+n.c:=λz=>by unfold Kn.f;rw[d];grind
  have w:∀z,n.cj.f z=pk 2 (n.A z)+n.c:=λz=>by show pk n.k (n.A _) -((-n.s:Int):Rat)*n.u=_;rw[d,DN];unfold Kn.c;grind
  have b:∀{u v:Rat},u<=v->pk 2 (n.A u)<=pk 2 (n.A v):=λ{u v} l=>by have:=h.vg l;rw[P,P];grind
  have H:∀z,n.h z=if n.A z<0 then-pk 2 (n.A z) -n.u else pk 2 (n.A z) -n.u:=λz=>by
   unfold Kn.h;rw[D1 d,Iq];by_cases q:n.A z<0
   .rw[D1 q,D1 q];grind
   .rw[Bz q,Bz q]
  have S:∀z,(n.A z<0->pk 2 (n.A z)<=0)/\(¬n.A z<0->0<=pk 2 (n.A z)):=λz=>by
   have:=eN (n.A z);rw[Iq];constructor
   .intro q;rw[D1 q];grind
   .intro q;rw[Bz q];exact this
  have j:(pk 2 (n.A x)<n.u->pk 2 (n.A y)<n.u)/\(pk 2 (n.A x)< -n.u->pk 2 (n.A y)< -n.u):=by
   have r:=P x;have a2:=P y;have a3:=w x;have a4:=w y;rcases h.c2 d with c|c
   .exact⟨λq=>by have:=i (by grind);grind,λq=>by have:=p (by grind);grind⟩
   .exact⟨λq=>by have:=p (by grind);grind,λq=>by have:=i (by grind);grind⟩
  rw[H]at g;have t:=S x;by_cases C:pk 2 (n.A x)<n.u
  .have J:=j.1 C;by_cases B:pk 2 (n.A x)< -n.u
   .have I:=j.2 B;refine⟨-pk 2 (n.A y) -n.u,by grind,λz hz=>.inl ?_⟩;have m:=b hz.2;have G:=S z;have:n.A z<0:=by
     by_cases q:n.A z<0
     .exact q
     .have:=G.2 q;grind
    rw[H,D1 this];grind
   .have L: -(n.u:Rat)<pk 2 (n.A x):=by
     by_cases q:pk 2 (n.A x)= -n.u
     .exfalso
      have:n.A x<0:=by
       by_cases q:n.A x<0
       .exact q
       .have:=t.2 q;grind
      rw[D1 this]at g;exact g (by grind)
     .grind
    obtain⟨c,F,O,c2⟩:∃c:Rat,0<c/\c<=pk 2 (n.A x)+n.u/\c<=n.u -pk 2 (n.A y):=by
     by_cases q:pk 2 (n.A x)+n.u<=n.u -pk 2 (n.A y)
     .exact⟨_,by grind,by grind,q⟩
     .exact⟨_,by grind,by grind,Sd⟩
    refine⟨c,F,λz hz=>.inr ?_⟩;have N:=b hz.1;have M:=b hz.2;rw[H];by_cases q:n.A z<0
    .rw[D1 q];grind
    .rw[Bz q];grind
  .have r:¬n.A x<0:=λq=>by have:=t.1 q;grind
   rw[Bz r]at g;refine⟨pk 2 (n.A x) -n.u,by grind,λz hz=>.inl ?_⟩;have m:=b hz.1;have:¬n.A z<0:=λq=>by have:=(S z).1 q;grind
   rw[H,Bz this];grind
 .have e:∀z,n.h z=n.f z:=λz=>by unfold Kn.h;rw[Bz d]
  rw[e]at g;by_cases q:n.f x<0
  .refine⟨-n.f y,by have:=i q;grind,λz hz=>.inr ?_⟩;rw[e];have:=h.vg hz.2;grind
  .refine⟨n.f x,by grind,λz hz=>.inl ?_⟩;rw[e];exact h.vg hz.1
end
noncomputable def kG(k A:Int):Int:=if k=1 then A else if k=2 then(if A<0 then-(A*A)else A*A)else A*A*A
theorem b6(k A:Int):((kG k A:Int):Rat)=pk k (A:Rat):=by
 unfold kG pk;by_cases c:k=1
 .rw[D1 c,D1 c]
 rw[Bz c,Bz c];by_cases b:k=2
 .rw[D1 b,D1 b];by_cases a:A<0
  .rw[D1 a,D1 (oe.mpr a),DN,BM]
  .rw[Bz a,Bz (λz=>a (oe.mp z)),BM]
 .rw[Bz b,Bz b,BM,BM]
theorem vh(k:Int)(h:A<=B):kG k A<=kG k B:=by have:=qx k (FV.mpr h);rw[<-b6,<-b6]at this;exact FV.mp this
theorem Bv(k A:Int):kG k (-A)= -kG k A:=by
 unfold kG;by_cases d:k=1
 .rw[D1 d,D1 d]
 rw[Bz d,Bz d];by_cases c:k=2
 .rw[D1 c,D1 c,Ug];by_cases a:A<0
  .rw[D1 a,Bz (by lia),Int.neg_neg]
  .rw[Bz a];by_cases b: -A<0
   .rw[D1 b]
   .rw[Bz b,show A=0 by lia];decide
 .rw[Bz c,Bz c,Ug,zzl]
theorem lD{e:Nat}(a:k=(e:Int))(h:e=1\/e=2\/e=3)(b:0<=r):kG k r=r^e:=by
 rcases h with rfl|rfl|rfl
 .subst a;show r=r^1;rw[Hb,PP,bo]
 .subst a;show(if r<0 then _ else r*r)=r^2;rw[Bz (by omega),Hb,Hb,PP,bo]
 .subst a;show r*r*r=r^3;rw[Hb,Hb,Hb,PP,bo]
def FL(n:Kn)(S F:Int):Prop:=∀m:Int,m<=F↔n.f ((m:Rat)*(S:Rat)⁻¹)<=0
theorem Vr(i:0<S)(h:∀m:Int,m<=F↔kG n.k (n.b*m -n.t*S)<=n.s*n.u*kG n.k S):FL n S F:=λm=>by
 rw[h];have d:(0:Rat)<(S:Rat):=Ya.mpr i;have j:(S:Rat)*(S:Rat)⁻¹=1:=Fs _ (by grind);have g:=m5 n.k d;have e:pk n.k ((n.b*m -n.t*S:Int):Rat)=pk n.k S*pk n.k (n.A ((m:Rat)*(S:Rat)⁻¹)):=by rw[<-xS n.k d,SF,BM,BM];congr 1;unfold Kn.A;grind
 rw[<-FV,b6,BM,BM,b6,e];unfold Kn.f Kn.c;generalize pk n.k (n.A _)=y;generalize(n.s:Rat)*n.u=c;generalize pk n.k (S:Rat)=P at*;constructor
 .intro q;have:=hZ (a:=y) (b:=c) (c:=P) (by grind) g;grind
 .intro q;have:=Da (show y<=c by grind) (FK g);grind
noncomputable def kq(x:Rat):Kn:=⟨x.num,0,0,x.den,1⟩
theorem qy(x:Rat):aD (kq x):=by have:=x.den_pos;exact⟨by show(0:Int)<x.den;omega,.inl rfl,λ_=>rfl,λh=>absurd rfl h,λh=>absurd rfl h,λh=>absurd rfl h⟩
theorem Vs(x y:Rat):(kq x).f y=((x.den:Int):Rat)*(y -x):=by show(((x.den:Int):Rat)*y -x.num) -(((0:Int):Rat)*((0:Int):Rat))=_;have:=eS x;have z:((0:Int):Rat)=0:=rfl;rw[z];grind
theorem FO(x y:Rat):(kq x).f y<=0↔y<=x:=by
 rw[Vs];have d:(0:Rat)<((x.den:Int):Rat):=(qy x).qb;constructor
 .intro h;by_cases q:y<=x
  .exact q
  .have:=GE d (show 0<y -x by grind);grind
 .intro h;have:=PH (FK d) (show 0<=x -y by grind);grind
section
variable{n:Kn}{x:Rat}{S a c:Int}
theorem FL.near(h:aD n)(o:1<=S)(l:FL (kq x) S a)(i:FL n S a)(q:1<=M)(v:ab (n.A x) (M -n.b))(L:0<e)(u:e<=n.f x\/n.f x<=-e):(S:Rat)*e<=3*(M*M)*n.b:=by
 have p:(1:Rat)<=(S:Rat):=FV.mpr o;have t:(S:Rat)*(S:Rat)⁻¹=1:=Fs _ (by grind);have g:=Pi.mpr (show(0:Rat)<(S:Rat) by grind);have s:(S:Rat)⁻¹<=1:=by have:=Kb p (FK g);grind
 have qb:=h.qb;have F:=(FO x _).mp ((l a).mp (by omega));have E:¬((a+1:Int):Rat)*(S:Rat)⁻¹<=x:=λz=>by have:=(l (a+1)).mpr ((FO x _).mpr z);omega
 have K:=(i a).mp (by omega);have D:¬n.f (((a+1:Int):Rat)*(S:Rat)⁻¹)<=0:=λz=>by have:=(i (a+1)).mpr z;omega
 have w:((a+1:Int):Rat)=(a:Rat)+1:=by rw[RF];rfl
 rw[w]at E D;generalize(a:Rat)=A at*;have J:=h.vg F;have I:=h.vg (show x<=(A+1)*(S:Rat)⁻¹ by grind);have d:=oK n.k (A:=n.A (A*(S:Rat)⁻¹)) (B:=n.A ((A+1)*(S:Rat)⁻¹)) (M:=M);generalize(S:Rat)⁻¹=j at*;have N:(n.b:Rat)*j<=n.b:=by have:=Da s (FK qb);grind
 have H:=PH (FK qb) (show 0<=x -A*j by grind);have G:=PH (FK qb) (show 0<=(A+1)*j -x by grind);have y:n.A ((A+1)*j) -n.A (A*j)=n.b*j:=by unfold Kn.A;grind
 have O:n.A x -n.A (A*j)=n.b*(x -A*j):=by unfold Kn.A;grind
 have a2:n.A ((A+1)*j) -n.A x=n.b*((A+1)*j -x):=by unfold Kn.A;grind
 unfold ab at d v;obtain⟨_,m⟩:=d (by have:=GE qb g;grind) q ⟨by grind,by grind⟩ ⟨by grind,by grind⟩;rw[y]at m;have ff:n.f ((A+1)*j) -n.f (A*j)<=3*(M*M)*(n.b*j):=by unfold Kn.f;grind
 have r:e<=3*(M*M)*(n.b*j):=by rcases u with z|z<;>grind
 have:=Da r (show 0<=(S:Rat) by grind);have C:(S:Rat)*(3*(M*M)*(n.b*j))=3*(M*M)*n.b*((S:Rat)*j):=by grind
 rw[C,t,mf]at this;exact this
theorem O3(h:aD n)(p:n.f x≠0):∃e:Rat,0<e/\(e<=n.f x\/n.f x<=-e)/\1<=e*(((x.den:Int):Rat)*((x.den:Int):Rat)*((x.den:Int):Rat)):=by
 have d:(0:Rat)<((x.den:Int):Rat):=(qy x).qb;have v:(1:Int)<=(x.den:Int):=by have:=x.den_pos;omega
 have j:(1:Rat)<=((x.den:Int):Rat):=FV.mpr v;have o:=m5 n.k d;have i:n.f x*pk n.k ((x.den:Int):Rat)=((kG n.k (n.b*x.num -n.t*x.den) -n.s*n.u*kG n.k x.den:Int):Rat):=by
  rw[SF,BM,BM,b6,b6];have:((n.b*x.num -n.t*x.den:Int):Rat)=((x.den:Int):Rat)*n.A x:=by rw[SF,BM,BM];have:=eS x;unfold Kn.A;grind
  rw[this,xS n.k d];unfold Kn.f Kn.c;grind
 generalize kG n.k (n.b*x.num -n.t*x.den) -n.s*n.u*kG n.k x.den=z at*;have w:z≠0:=λe=>by rw[e]at i;exact(Kk.mp i).elim p (by grind)
 have l:(1:Rat)<=(z:Rat)\/(z:Rat)<=-1:=by
  have:1<=z\/z<=-1:=by omega
  rcases this with q|q
  .exact .inl (FV.mpr q)
  .exact .inr (FV.mpr q)
 have m:pk n.k ((x.den:Int):Rat)<=((x.den:Int):Rat)*((x.den:Int):Rat)*((x.den:Int):Rat):=by
  generalize((x.den:Int):Rat)=q at*;have s:=Da j (FK d);have y:=Da j (show 0<=q*q by grind);rcases h.kd with k|k|k
  .rw[k];show q<=_;grind
  .rw[k,Iq,Bz (by grind)];grind
  .rw[k];show q*q*q<=_;grind
 have B:pk n.k ((x.den:Int):Rat)*(pk n.k ((x.den:Int):Rat))⁻¹=1:=Fs _ (by grind);have g:=Pi.mpr o;generalize pk n.k ((x.den:Int):Rat)=P at*;refine⟨P⁻¹,g,?_,?_⟩
 .have r:n.f x=(z:Rat)*P⁻¹:=by rw[<-i];grind
  rw[r];rcases l with q|q
  .have:=Kb q (FK g);exact .inl (by grind)
  .have:=Kb q (FK g);exact .inr (by grind)
 .have:=Da m (FK g);grind
end
structure Sb(n:Kn):Prop where
 t6:n.t.natAbs<=6
 b4:n.b<=4
 Tj:n.u<=42
theorem Vt(h:ab u A):ab (-u) A:=by unfold ab at*;grind
theorem jX(b:ab u A)(a:ab v B):ab (u -v) (A+B):=by have:=fL b (Vt a);rw[show u -v=u+ -v by grind];exact this
theorem Kn.near(h:aD n)(b:Sb n)(l:x<y)(v:y -x<=1)(i:gQ x y n.lo=true):ab (n.A x) 50/\ab (n.f x) (30000*(y -x)):=by
 obtain⟨r,q⟩:=cU.mp i;have t:=aD.dh.mp r;have s:=aD.lC.mp q;have qb:=h.qb;have g:(n.b:Rat)<=4:=FV.mpr b.b4;have c: -42<=n.c/\n.c<=42:=by
  unfold Kn.c;by_cases a:n.k=1
  .rw[h.s0 a];have:((0:Int):Rat)*n.u=0:=Y2 _;rw[this];decide
  .have C:=h.qu a;have B:(n.u:Rat)<=42:=FV.mpr b.Tj;rcases h.s1 a with e|e
   .rw[e];have:((1:Int):Rat)=1:=rfl;rw[this];grind
   .rw[e];have:((-1:Int):Rat)= -1:=rfl;rw[this];grind
 have p:43<=pk n.k 43/\pk n.k (-43)<=-43:=by rcases h.kd with k|k|k<;>rw[k]<;>decide+kernel
 have d:n.A y -n.A x=n.b*(y -x):=by unfold Kn.A;grind
 have E:0<=n.A y -n.A x:=by rw[d];exact PH (FK qb) (by grind)
 have D:n.A y -n.A x<=4:=by rw[d];have:=oJ (FK qb) g (show 0<=y -x by grind) v;grind
 have F:n.A x<=43:=by
  by_cases z:n.A x<=43
  .exact z
  .have:=qx n.k (show(43:Rat)<=n.A x by grind);unfold Kn.f at t;grind
 have a2: -43<=n.A y:=by
  by_cases z: -43<=n.A y
  .exact z
  .have:=qx n.k (show n.A y<=(-43:Rat) by grind);unfold Kn.f at s;grind
 have j:ab (n.A x) 50:=by unfold ab;grind
 have w:ab (n.A y) 50:=by unfold ab;grind
 refine⟨j,?_⟩;obtain⟨s1,o⟩:=oK n.k (show n.A x<=n.A y by grind) (show(1:Rat)<=50 by decide) j w;rw[d]at o;have m:=Kb g (show 0<=y -x by grind);unfold Kn.f at*;unfold ab;grind
theorem O4{z:Int}(h:z.natAbs<=M):ab (z:Rat) (M:Rat):=by have a:=FV.mpr (show z<=(M:Int) by lia);have b:=FV.mpr (show-(M:Int)<=z by lia);rw[DN]at b;exact⟨b,a⟩
theorem oM{z:Int}(h:z≠0)(a:ab (z:Rat) e):1<=e:=by
 unfold ab at a;have:1<=z\/z<=-1:=by lia
 rcases this with q|q
 .have:=FV.mpr q;have o:((1:Int):Rat)=1:=rfl;rw[o]at this;grind
 .have:=FV.mpr q;have o:((-1:Int):Rat)= -1:=rfl;rw[o]at this;grind
theorem O5{u b D N:Int}(x:0<b)(l:∀r:Rat,r*r≠(u:Rat))(o:D≠0)(v:0<d)(w:d*(2^100:Rat)<=1)(a:ab (D:Rat) 1000000)(m:ab p 200)(c:ab ((D:Rat)*p -N) (10000000000*d))(n:ab (p*p -((b*b*u:Int):Rat)) (1000000*d)):False:=by
 have z:D*D*(b*b*u) -N*N≠0:=λz=>by
  have g:(b:Rat)≠0:=λe=>by have:=GM.mp e;lia
  have h:(D:Rat)≠0:=λe=>o (GM.mp e);have e:((D*D*(b*b*u) -N*N:Int):Rat)=((0:Int):Rat):=by rw[z]
  rw[SF,BM,BM,BM,BM,BM]at e;have f:((0:Int):Rat)=0:=rfl;rw[f]at e;have t:(b:Rat)*(b:Rat)⁻¹=1:=Fs _ g;have q:(D:Rat)*(D:Rat)⁻¹=1:=Fs _ h;refine l ((N:Rat)*(b:Rat)⁻¹*(D:Rat)⁻¹) ?_;generalize(b:Rat)⁻¹=i at*;generalize(D:Rat)⁻¹=j at*;grind
 have e:((D*D*(b*b*u) -N*N:Int):Rat)=((D:Rat)*p -N)*(2*((D:Rat)*p) -((D:Rat)*p -N)) -(D:Rat)*D*(p*p -((b*b*u:Int):Rat)):=by rw[SF,BM,BM,BM];grind
 have s:ab ((D:Rat)*p -N) 1:=aZ c (by grind);have k:=oM z (by rw[e];exact jX (ao c (jX (ao (show ab 2 2 by unfold ab;decide) (ao a m)) s)) (ao (ao a a) n));grind
theorem Vu{u b D N:Int}(y:0<b)(m:∀r:Rat,r*r*r≠(u:Rat))(q:D≠0)(w:0<d)(x:d*(2^100:Rat)<=1)(c:ab (D:Rat) 1000000)(n:ab p 200)(f:ab ((D:Rat)*p -N) (10000000000*d))(o:ab (p*p*p -((b*b*b*u:Int):Rat)) (10000000*d)):False:=by
 have z:D*D*D*(b*b*b*u) -N*N*N≠0:=λz=>by
  have h:(b:Rat)≠0:=λe=>by have:=GM.mp e;lia
  have l:(D:Rat)≠0:=λe=>q (GM.mp e);have e:((D*D*D*(b*b*b*u) -N*N*N:Int):Rat)=((0:Int):Rat):=by rw[z]
  rw[SF,BM,BM,BM,BM,BM,BM,BM,BM]at e;have g:((0:Int):Rat)=0:=rfl;rw[g]at e;have v:(b:Rat)*(b:Rat)⁻¹=1:=Fs _ h;have t:(D:Rat)*(D:Rat)⁻¹=1:=Fs _ l;refine m ((N:Rat)*(b:Rat)⁻¹*(D:Rat)⁻¹) ?_;generalize(b:Rat)⁻¹=i at*;generalize(D:Rat)⁻¹=j at*;grind
 have e:((D*D*D*(b*b*b*u) -N*N*N:Int):Rat)=((D:Rat)*p -N)*(((D:Rat)*p)*((D:Rat)*p)+((D:Rat)*p)*((D:Rat)*p -((D:Rat)*p -N))+((D:Rat)*p -((D:Rat)*p -N))*((D:Rat)*p -((D:Rat)*p -N))) -(D:Rat)*D*D*(p*p*p -((b*b*b*u:Int):Rat)):=by rw[SF,BM,BM,BM,BM,BM];grind
 have s:ab ((D:Rat)*p -N) 1:=aZ f (by grind);have a:=ao c n;have k:=oM z (by rw[e];exact jX (ao f (fL (fL (ao a a) (ao a (jX a s))) (ao (jX a s) (jX a s)))) (ao (ao (ao c c) c) o));grind
theorem Vv(l:aD n)(C:aD m)(H:Sb n)(I:Sb m)(F:n.k=m.k)(G:m.b*n.t=n.b*m.t)(E:ab (n.f x) (30000*d))(D:ab (m.f x) (30000*d))(L:0<d)(M:d*(2^100:Rat)<=1)(z:Rat):n.lo z=m.lo z:=by
 have g:=l.qb;have qb:=C.qb;have w:∀z,(m.b:Rat)*n.A z=n.b*m.A z:=λz=>by
  have e:((m.b*n.t:Int):Rat)=((n.b*m.t:Int):Rat):=by rw[G]
  rw[BM,BM]at e;unfold Kn.A;grind
 have r:∀z,pk n.k m.b*pk n.k (n.A z)=pk n.k n.b*pk n.k (m.A z):=λz=>by rw[<-xS _ qb,<-xS _ g,w]
 have a:∀{b:Int},(0:Rat)<(b:Rat)->b<=4->ab (pk n.k (b:Rat)) 64:=λ{b} q h=>by
  have J:=m5 n.k q;have j:=qx n.k (show(b:Rat)<=4 from FV.mpr h);have i:pk n.k 4<=64:=by rcases l.kd with k|k|k<;>rw[k]<;>decide+kernel
  unfold ab;grind
 have p:∀z,n.f z=pk n.k (n.A z) -n.c:=λz=>rfl;have o:∀z,m.f z=pk n.k (m.A z) -m.c:=λz=>by rw[F];rfl
 have B:pk n.k m.b*n.c=pk n.k n.b*m.c:=by
  refine Ee λy=>?_;have e:((kG n.k m.b*(n.s*n.u) -kG n.k n.b*(m.s*m.u):Int):Rat)=pk n.k n.b*m.f x -pk n.k m.b*n.f x:=by rw[SF,BM,BM,BM,BM,b6,b6,p,o];have:=r x;unfold Kn.c;grind
  have k:=oM (z:=kG n.k m.b*(n.s*n.u) -kG n.k n.b*(m.s*m.u)) (λz=>y (by
   have e:((kG n.k m.b*(n.s*n.u) -kG n.k n.b*(m.s*m.u):Int):Rat)=((0:Int):Rat):=by rw[z]
   rw[SF,BM,BM,BM,BM,b6,b6]at e;have v:((0:Int):Rat)=0:=rfl;rw[v]at e;unfold Kn.c;grind)) (by rw[e];exact jX (ao (a g H.b4) D) (ao (a qb I.b4) E))
  grind
 have K:pk n.k m.b*n.f z=pk n.k n.b*m.f z:=by rw[p,o];have:=r z;grind
 have j:=m5 n.k qb;have i:=m5 n.k g;unfold Kn.lo;refine y4.mpr ⟨λh=>?_,λh=>?_⟩
 .have:=GE j (show 0< -n.f z by grind);by_cases c:m.f z<0
  .exact c
  .have:=PH (FK i) (show 0<=m.f z by grind);grind
 .have:=GE i (show 0< -m.f z by grind);by_cases c:n.f z<0
  .exact c
  .have:=PH (FK j) (show 0<=n.f z by grind);grind
section
variable{n m:Kn}{x d:Rat}{b:Int}
theorem pw1(a:n.k=1)(h:aD n)(f:ab (n.f x) (30000*d))(e:ab (b:Rat) 4):ab ((b:Rat)*n.A x) (120000*d):=by
 have g:n.f x=n.A x:=by unfold Kn.f Kn.c;rw[a,h.s0 a];show n.A x -(0:Rat)*_=_;grind
 rw[g]at f;exact aZ (ao e f) (by grind)
theorem Za(k2:n.k=2)(h:aD n)(f:ab (n.f x) (30000*d))(a:ab (b:Rat) 4):ab (((b:Rat)*n.A x)*((b:Rat)*n.A x) -((b*b*n.u:Int):Rat)) (480000*d):=by have g:=h.OY f;unfold Kn.h at g;rw[D1 k2]at g;have:=ao (ao a a) g;rw[BM,BM,show((b:Rat)*n.A x)*((b:Rat)*n.A x) -(b:Rat)*b*n.u=(b:Rat)*b*(n.A x*n.A x -n.u) by grind];exact aZ this (by grind)
theorem Xv(e:n.k=3)(f:ab (n.f x) (30000*d))(a:ab (b:Rat) 4):ab (((b:Rat)*n.A x)*((b:Rat)*n.A x)*((b:Rat)*n.A x) -((b*b*b*(n.s*n.u):Int):Rat)) (1920000*d):=by
 have g:n.f x=n.A x*n.A x*n.A x -(n.s:Rat)*n.u:=by unfold Kn.f Kn.c;rw[e];rfl
 rw[g]at f;have:=ao (ao (ao a a) a) f;rw[BM,BM,BM,BM,show((b:Rat)*n.A x)*((b:Rat)*n.A x)*((b:Rat)*n.A x) -(b:Rat)*b*b*((n.s:Rat)*n.u)=(b:Rat)*b*b*(n.A x*n.A x*n.A x -(n.s:Rat)*n.u) by grind];exact aZ this (by grind)
theorem aD.Zb(h:aD n)(k2:n.k=2)(r:Rat):r*r≠(n.u:Rat):=λz=>by
 have np:=h.np (by rw[k2];decide) r;rw[k2,Iq]at np;by_cases q:r<0
 .rw[D1 q]at np;exact np.2 (by rw[z])
 .rw[Bz q]at np;exact np.1 z
theorem aD.np3(h:aD n)(a:n.k=3)(r:Rat):r*r*r≠((n.s*n.u:Int):Rat):=λz=>by
 have np:=h.np (by rw[a];decide) r;rw[a]at np;have np:r*r*r≠(n.u:Rat)/\r*r*r≠-(n.u:Rat):=np;rcases h.s1 (by rw[a];decide)with s|s
 .rw[s,bo]at z;exact np.1 z
 .rw[s,u4,bo,DN]at z;exact np.2 z
theorem Bw{z:Int}(h:ab (z:Rat) e)(a:e<1):z=0:=Ee λq=>by have:=oM q h;grind
theorem Vw(j:aD n)(v:aD m)(Y:Sb n)(Z:Sb m)(sp:Sep n.lo m.lo)(w:0<d)(J:d*(2^100:Rat)<=1)(aA:ab (n.A x) 50)(aB:ab (m.A x) 50)(I:ab (n.f x) (30000*d))(S:ab (m.f x) (30000*d))(hk:(m.k=1)\/(n.k=2/\m.k≠1)\/(n.k=3/\m.k=3)):False:=by
 have i4:∀{n:Kn},aD n->Sb n->ab (n.b:Rat) 4/\ab (n.t:Rat) 6:=λ{n} h b=>by have q:=h.b0;have b4:=b.b4;have t6:=b.t6;exact⟨aZ (O4 (M:=4) (by lia)) (by decide),aZ (O4 (M:=6) t6) (by decide)⟩
 obtain⟨F,ht⟩:=i4 j Y;obtain⟨g,hu⟩:=i4 v Z;obtain⟨M,eM⟩:∃M:Int,M=n.b*m.t -m.b*n.t:=⟨_,rfl⟩;have eR:(M:Rat)=(n.b:Rat)*m.t -(m.b:Rat)*n.t:=by rw[eM,SF,BM,BM]
 have o:ab (M:Rat) 48:=by rw[eR];exact aZ (jX (ao F hu) (ao g ht)) (by decide+kernel)
 have K:(m.b:Rat)*n.A x -(n.b:Rat)*m.A x=M:=by rw[eR];unfold Kn.A;grind
 have E:=aZ (ao g aA) (show(4:Rat)*50<=200 by decide+kernel);have hq:=aZ (ao F aB) (show(4:Rat)*50<=200 by decide+kernel);have r:n.k=m.k->M=0->False:=λek z=>by obtain⟨y,ne⟩:=sp;exact ne (Vv j v Y Z ek (by lia) I S w J y)
 have p:∀{c:Rat},c<=1000000000000->c*d<1:=λ{c} h=>by have:=Kb h (FK w);grind
 have up:∀{u c C:Rat},ab u (c*d)->c<=C->ab u (C*d):=λh l=>aZ h (Kb l (FK w));rcases hk with X|⟨R,X⟩|⟨U,l3⟩
 .--the other is a Vx
  have q1:=pw1 X v S F;have H:ab (((1:Int):Rat)*((m.b:Rat)*n.A x) -M) (10000000000*d):=by rw[show((1:Int):Rat)*((m.b:Rat)*n.A x) -M=(n.b:Rat)*m.A x by rw[<-K];have:((1:Int):Rat)=1:=rfl;grind];exact up q1 (by decide+kernel)
  have o1:ab ((1:Int):Rat) 1000000:=by unfold ab;decide+kernel
  rcases j.kd with k|k|k
  .have p1:=pw1 k j I g;refine r (by rw[k,X]) (Bw (e:=480000*d) ?_ (p (by decide+kernel)));rw[<-K];exact aZ (jX p1 q1) (by grind)
  .have B:=Za k j I g;exact O5 v.b0 (j.Zb k) (by decide) w J o1 E H (up B (by decide+kernel))
  .have O:=Xv k I g;exact Vu v.b0 (j.np3 k) (by decide) w J o1 E H (up O (by decide+kernel))
 .have B:=Za R j I g;have u0:=j.u0 (by rw[R];decide);have Tj:=Y.Tj;have b0:=v.b0;have b4:=Z.b4;rcases v.kd with l|l|l
  .exact X l
  .have q2:=Za l v S F;generalize G:m.b*m.b*n.u=P at*;generalize hQ:n.b*n.b*m.u=Q at*;by_cases z:M=0
   .exact r (by rw[R,l]) z
   refine O5 (D:=2*M) (N:=P -Q+M*M) b0 (j.Zb R) (by lia) w J ?_ E ?_ (by rw[G];exact up B (by decide+kernel))
   .rw[BM];exact aZ (ao (show ab ((2:Int):Rat) 2 by unfold ab;decide+kernel) o) (by decide+kernel)
   .have:((2*M:Int):Rat)*((m.b:Rat)*n.A x) -((P -Q+M*M:Int):Rat)=((m.b:Rat)*n.A x*((m.b:Rat)*n.A x) -P) -((n.b:Rat)*m.A x*((n.b:Rat)*m.A x) -Q):=by rw[BM,RF,SF,BM,<-K];have:((2:Int):Rat)=2:=rfl;rw[this];grind
    rw[this];exact aZ (jX B q2) (by grind)
  .have q3:=Xv l S F;have P0:0<m.b*m.b*n.u:=eP (eP b0 b0) u0;have P1:ab ((m.b*m.b*n.u:Int):Rat) 672:=by rw[BM,BM];refine aZ (ao (ao g g) (aZ (O4 (M:=42) (by lia)) (show((42:Nat):Rat)<=42 by decide+kernel))) (by decide+kernel)
   generalize G:m.b*m.b*n.u=P at*;generalize hQ:n.b*n.b*n.b*(m.s*m.u)=Q at*;have MM:0<=M*M:=by
    by_cases z:0<=M
    .exact eQ z z
    .have:=eQ (show 0<=-M by lia) (show 0<=-M by lia);rw[Ug]at this;exact this
   refine O5 (D:=P+3*(M*M)) (N:=Q+3*(P*M)+M*M*M) b0 (j.Zb R) (by lia) w J ?_ E ?_ (by rw[G];exact up B (by decide+kernel))
   .rw[RF,BM,BM];exact aZ (fL P1 (ao (show ab ((3:Int):Rat) 3 by unfold ab;decide+kernel) (ao o o))) (by decide+kernel)
   .have:((P+3*(M*M):Int):Rat)*((m.b:Rat)*n.A x) -((Q+3*(P*M)+M*M*M:Int):Rat)=((n.b:Rat)*m.A x*((n.b:Rat)*m.A x)*((n.b:Rat)*m.A x) -Q) -((m.b:Rat)*n.A x)*((m.b:Rat)*n.A x*((m.b:Rat)*n.A x) -P)+3*(M*((m.b:Rat)*n.A x*((m.b:Rat)*n.A x) -P)):=by
     rw[RF,RF,RF,BM,BM,BM,BM,BM];have:((3:Int):Rat)=3:=rfl;rw[this];have:(n.b:Rat)*m.A x=(m.b:Rat)*n.A x -M:=by rw[<-K];grind
     rw[this];grind
    rw[this];exact aZ (fL (jX q3 (ao E B)) (ao (show ab 3 3 by unfold ab;decide+kernel) (ao o B))) (by grind)
 .have O:=Xv U I g;have q3:=Xv l3 S F;have b0:=v.b0;have T:∀{n:Kn}{b:Int},aD n->Sb n->n.k=3->ab (b:Rat) 4->ab ((b*b*b*(n.s*n.u):Int):Rat) 2688:=λ{n b} h c k g=>by
   have u0:=h.u0 (by rw[k];decide);have Tj:=c.Tj;have:(n.s*n.u).natAbs<=42:=by rcases h.s1 (by rw[k];decide)with s|s<;>rw[s]<;>lia
   rw[BM,BM,BM];exact aZ (ao (ao (ao g g) g) (aZ (O4 (M:=42) this) (show((42:Nat):Rat)<=42 by decide+kernel))) (by decide+kernel)
  have P1:=T j Y U g;have Q1:=T v Z l3 F;have np:=j.np3 U;generalize G:m.b*m.b*m.b*(n.s*n.u)=P at*;generalize hQ:n.b*n.b*n.b*(m.s*m.u)=Q at*;obtain⟨L,hL⟩:∃L:Int,L=P -Q -M*M*M:=⟨_,rfl⟩;have eL:(L:Rat)=(P:Rat) -Q -(M:Rat)*M*M:=by rw[hL,SF,SF,BM,BM]
  have bL:ab (L:Rat) 115968:=by rw[eL];exact aZ (jX (jX P1 Q1) (ao (ao o o) o)) (by decide+kernel)
  have H:ab (((L+3*(M*M*M):Int):Rat)*((m.b:Rat)*n.A x) -((3*(P*M) -M*L:Int):Rat)) (10000000000*d):=by
   have:((L+3*(M*M*M):Int):Rat)*((m.b:Rat)*n.A x) -((3*(P*M) -M*L:Int):Rat)=3*(M*((m.b:Rat)*n.A x*((m.b:Rat)*n.A x)*((m.b:Rat)*n.A x) -P)) -((m.b:Rat)*n.A x+M)*(((m.b:Rat)*n.A x*((m.b:Rat)*n.A x)*((m.b:Rat)*n.A x) -P) -((n.b:Rat)*m.A x*((n.b:Rat)*m.A x)*((n.b:Rat)*m.A x) -Q)):=by
    rw[RF,SF,BM,BM,BM,BM,BM,BM,eL];have:((3:Int):Rat)=3:=rfl;rw[this];have:(n.b:Rat)*m.A x=(m.b:Rat)*n.A x -M:=by rw[<-K];grind
    rw[this];grind
   rw[this];exact aZ (jX (ao (show ab 3 3 by unfold ab;decide+kernel) (ao o O)) (ao (fL E o) (jX O q3))) (by grind)
  by_cases D0:L+3*(M*M*M)=0
  .rw[D0]at H;have z:=Bw (z:=3*(P*M) -M*L) (e:=10000000000*d) (by have:=Vt H;have z0:((0:Int):Rat)=0:=rfl;rw[z0,Y2]at this;rw[show-((0:Rat) -((3*(P*M) -M*L:Int):Rat))=((3*(P*M) -M*L:Int):Rat) by grind]at this;exact this) (p (by decide+kernel));by_cases M0:M=0
   .exact r (by rw[U,l3]) M0
   have e3:P= -(M*M*M):=by
    have:M*(3*P -L)=0:=by rw[<-z];grind
    have:=(Int.mul_eq_zero.mp this).resolve_left M0;lia
   have qb:(m.b:Rat)≠0:=λe=>by have:=GM.mp e;lia
   have i1:(m.b:Rat)*(m.b:Rat)⁻¹=1:=Fs _ qb;have e4:((m.b*m.b*m.b*(n.s*n.u):Int):Rat)=((-(M*M*M):Int):Rat):=by rw[G,e3]
   rw[BM,BM,BM,DN,BM,BM]at e4;refine np (-(M:Rat)*(m.b:Rat)⁻¹) ?_;generalize(m.b:Rat)⁻¹=i at*;grind
  .refine Vu (D:=L+3*(M*M*M)) (N:=3*(P*M) -M*L) b0 np D0 w J ?_ E H (by rw[G];exact up O (by decide+kernel));rw[RF,BM,BM,BM];exact aZ (fL bL (ao (show ab ((3:Int):Rat) 3 by unfold ab;decide+kernel) (ao (ao o o) o))) (by decide+kernel)
theorem Vy(a:aD n)(c:aD m)(e:Sb n)(f:Sb m)(sp:Sep n.lo m.lo)(l:x<y)(o:(y -x)*(2^100:Rat)<=1)(t:gQ x y n.lo=true)(s:gQ x y m.lo=true):False:=by
 have j:0<y -x:=by grind
 have i:y -x<=1:=by grind
 obtain⟨r,h⟩:=Kn.near a e l i t;obtain⟨p,g⟩:=Kn.near c f l i s;have u:Sep m.lo n.lo:=let⟨z,hz⟩:=sp;⟨z,hz.symm⟩
 have A:=Vw a c e f sp j o r p h g;have B:=Vw c a f e u j o p r g h;rcases a.kd with k|k|k<;>rcases c.kd with q|q|q
 .exact A (.inl q)
 .exact B (.inl k)
 .exact B (.inl k)
 .exact A (.inl q)
 .exact A (.inr (.inl ⟨k,by rw[q];decide⟩))
 .exact A (.inr (.inl ⟨k,by rw[q];decide⟩))
 .exact A (.inl q)
 .exact B (.inr (.inl ⟨q,by rw[k];decide⟩))
 .exact A (.inr (.inr ⟨k,q⟩))
end
end Num
namespace Num
inductive Bt(V:Rat->Nat):Rat->Rat->Prop
 |leaf {l r:Rat} (h:V l<=V r+1):Bt V l r
 |node {l r:Rat} (h1:Bt V l ((l+r)*2⁻¹)) (h2:Bt V ((l+r)*2⁻¹) r):Bt V l r
def BA(u L:Rat):Prop:=L<=u\/u<=-L
theorem FP(m:0<L)(k:L+M<=L*B)(l:0<=B)(h:BA x B)(j:BA e L)(i:ab r M):BA (r+x*e) L:=by
 unfold ab at i;have a:∀{x e:Rat},B<=x->L<=e->L+M<=x*e:=λ{x e} c b=>by have g:L*B<=e*B:=Kb b l;have d:e*B<=e*x:=Da c (by grind);have f:e*x=x*e:=zz2 ..;rw[f]at d;exact rp k (rp g d)
 unfold BA at*;rcases h with c|c<;>rcases j with b|b
 .have:=a c b;left;grind
 .have:=a (x:=x) (e:= -e) c (by grind);right;grind
 .have:=a (x:= -x) (e:=e) (by grind) b;right;grind
 .have:=a (x:= -x) (e:= -e) (by grind) (by grind);left;grind
theorem FQ(h:0<L)(g:L+M<=L*B)(i:0<=B)(d:BA x B):∀{a:List Rat}{c:Rat},a.getLast?=some c->BA c L->(∀r∈a,ab r M)->BA (ev x a) L
 |[],_,e,_,_=>by cases e
 |[r],c,e,b,_=>by
  cases e;rw[bY];show BA (r+x*0) L;rw[Pv,zz3];exact b
 |r::k::a,c,e,b,f=>by rw[bY];rw[ke]at e;exact FP h g i d (FQ h g i d e b λy j=>f y (FM _ j)) (f r FS)
theorem Cc.tZ(P:Rp p)(h:Cc p C)(j:lo<hi)(M:0<L)(A:∀x,In lo hi x->BA (ev x p) L):cP C lo=cP C hi:=by
 obtain⟨s,l,rfl,B,S⟩:=h;have D:=S.ch (lo:=lo) (hi:=hi) (FK j) (B.const P S);obtain⟨O,U,X,g,f,S',Z,Y,e⟩:=B;obtain⟨G,G0,H⟩:=kZ (FK j) g;have I:∀x,ev x p=f*(ev x s*ev x g):=λx=>by obtain⟨d,Q,n⟩:=aS ((aI s).mul (aI g));rw[qv x f (a:=d) (b:=p) (λk=>by rw[e k,n]),nT x (q:=s) (b:=g) (c:=d) (λk=>by rw[n])]
 obtain⟨K,t,F⟩:∃K:Rat,0<K/\ab f K:=by
  by_cases h:0<f
  .exact⟨f,h,by unfold ab;grind⟩
  .exact⟨-f,by grind,by unfold ab;grind⟩
 have N:0<K*(G+1):=GE t (by grind);have z:=OK (K*(G+1)) (by grind);have y:0<(K*(G+1))⁻¹:=Pi.mpr N;have o:0<L*(K*(G+1))⁻¹*2⁻¹:=GE (GE M y) (Pi.mpr (by decide));have J:uX ((s::bF s::l).map wM)=cP (s::bF s::l):=funext λx=>ly _ x;rw[<-J];refine Ch.stay j D o λx m E=>?_;have r:=ao F (ao E (H x m));have a2:f*(wM s x*wM g x)=ev x p:=(I x).symm;rw[a2]at r;have w:K*(L*(K*(G+1))⁻¹*2⁻¹*G)+K*(L*(K*(G+1))⁻¹*2⁻¹)=L*((K*(G+1))⁻¹*(K*(G+1)))*2⁻¹:=by grind
 rw[z,mf]at w;have T:0<K*(L*(K*(G+1))⁻¹*2⁻¹):=GE t o;have i:=A x m;unfold ab at r;unfold BA at i;generalize K*(L*(K*(G+1))⁻¹*2⁻¹*G)=u at*;generalize K*(L*(K*(G+1))⁻¹*2⁻¹)=v at*;have R:L*2⁻¹<L:=by grind
 rcases i with i|i<;>grind
end Num
namespace VL
open PySem PySem.Spec PyProof.Rows L2
theorem ff{C:Prop}(h:false=true):C:=Bool.noConfusion h
theorem nn{α:Type}{a:α}{C:Prop}(h:none=some a):C:=Option.noConfusion rfl (heq_of_eq h)
inductive W where
 |cu|bl (b:Bool)|int (i:Int)|str (x:Str)|ty (n:String)|cls (C:Addr)|fn (f:Addr)
 |tup (l:List W)|lst (l:List W)|obj (C:Addr) (fs:List Str) (vs:List W)|jY (ns:List Int)
theorem W.xT(h:W.int a=.int b):a=b:=by cases h;rfl
theorem W.MU(h:W.tup a=.tup b):a=b:=by cases h;rfl
theorem W.FT(h:W.lst a=.lst b):a=b:=by cases h;rfl
noncomputable def DS:HO->Bool
 |.lst _|.ins _ _ _|.dK _|.dT _|.set _ _=>true
 |_=>false
def zF(K:Frag)(C:Addr)(a:List Str):Prop:=IV K C/\a.length<1000/\a.Nodup/\∀x∈a,jP K C x
def Rz(H:Hp)(a:Addr)(u:HO):Prop:=H a=some u\/False
theorem Rz.rd(h:Rz H a u):Rd H a u:=h.elim .inl FE
theorem Rz.at(h:Rz H a u):H a=some u:=h.elim id FE
mutual
def Rep(K:Frag)(A:Addr->Prop)(H:Hp):W->V->Prop
 |.cu,v=>v=.cu
 |.bl b,v=>v=.bl b
 |.int i,v=>v=.int i
 |.str x,v=>v=.str x
 |.ty n,v=>v=.ty n
 |.cls C,v=>v=.ref C
 |.fn f,v=>v=.ref f
 |.tup l,v=>∃p vs,v=.ref p/\H p=some (.tup vs)/\ak K A H l vs
 |.lst l,v=>∃p vs,v=.ref p/\¬A p/\Rz H p (.lst vs)/\ak K A H l vs
 |.obj C a c,v=>∃p d vs,v=.ref p/\¬A p/\H p=some (.ins C d (a.zip vs))/\vs.length=a.length/\zF K C a/\ak K A H c vs
 |.jY ns,v=>∃p,v=.ref p/\((∃o,H p=some (.AF o (.lst (ns.map V.int))))\/jA K (λ_=>none) p (ns.map V.int))
def ak(K:Frag)(A:Addr->Prop)(H:Hp):List W->List V->Prop
 |[],vs=>vs=[]
 |w::a,vs=>∃v r,vs=v::r/\Rep K A H w v/\ak K A H a r
end
section
variable{K:Frag}{A B:Addr->Prop}{H H':Hp}
theorem aE.rz(s:aE H H')(h:Rz H p u):Rz H' p u:=.inl (s _ _ h.at)
theorem aE.rd(s:aE H H')(h:Rd H p u):Rd H' p u:=by
 rcases h with h|⟨o,h⟩
 .exact .inl (s _ _ h)
 .exact .inr ⟨o,s _ _ h⟩
def wN(B:Addr->Prop)(H H':Hp):Prop:=∀p o,H p=some o->(DS o=true/\B p)\/H' p=some o
theorem wN.un(h:wN A H H')(e:H p=some o)(n:DS o=true->¬A p):H' p=some o:=by
 rcases h p o e with⟨z,y⟩|z
 .exact(n z y).elim
 .exact z
mutual
theorem Rep.chg(h:wN A H H')(b:∀p o,H p=some o->B p->A p):∀(w:W){v:V},Rep K A H w v->Rep K B H' w v
 |.cu,_,r=>by dsimp only[Rep]at r⊢;exact r
 |.bl _,_,r=>by dsimp only[Rep]at r⊢;exact r
 |.int _,_,r=>by dsimp only[Rep]at r⊢;exact r
 |.str _,_,r=>by dsimp only[Rep]at r⊢;exact r
 |.ty _,_,r=>by dsimp only[Rep]at r⊢;exact r
 |.cls _,_,r=>by dsimp only[Rep]at r⊢;exact r
 |.fn _,_,r=>by dsimp only[Rep]at r⊢;exact r
 |.tup l,v,r=>by obtain⟨p,vs,e,a,c⟩:=r;exact⟨p,vs,e,h.un a (λz=>by cases z),ak.chg h b l c⟩
 |.lst l,v,r=>by
  dsimp only[Rep]at r⊢;obtain⟨p,vs,e,n,a,c⟩:=r;refine⟨p,vs,e,λz=>?_,?_,ak.chg h b l c⟩
  .exact n (b p _ a.at z)
  .exact .inl (h.un a.at λ_=>n)
 |.obj C k d,v,r=>by obtain⟨p,i,vs,e,n,a,c,f,g⟩:=r;exact⟨p,i,vs,e,λz=>n (b p _ a z),h.un a λ_=>n,c,f,ak.chg h b d g⟩
 |.jY j,v,r=>by obtain⟨p,e,a⟩:=r;exact⟨p,e,a.imp (by rintro⟨o,z⟩;exact⟨o,h.un z λz=>by cases z⟩) id⟩
theorem ak.chg(h:wN A H H')(a:∀p o,H p=some o->B p->A p):∀(l:List W){vs:List V},ak K A H l vs->ak K B H' l vs
 |[],_,r=>by dsimp only[ak]at r⊢;exact r
 |w::l,vs,r=>by obtain⟨v,b,e,d,c⟩:=r;exact⟨v,b,e,Rep.chg h a w d,ak.chg h a l c⟩
end
theorem wN.same(s:aE H H'):wN A H H':=λ_ _ e=>.inr (s _ _ e)
theorem wN.put(b:H p=some a)(c:DS a=true)(d:A p):wN A H (upd H p o):=λq u e=>by
 by_cases n:q=p
 .subst n;rw[b]at e;cases e;exact .inl ⟨c,d⟩
 .exact .inr (by rw[ay n];exact e)
theorem Rep.mv(s:aE H H')(a:∀p o,H p=some o->B p->A p)(w:W)(h:Rep K A H w v):Rep K B H' w v:=Rep.chg (.same s) a w h
theorem ak.mv(s:aE H H')(a:∀p o,H p=some o->B p->A p)(l:List W)(h:ak K A H l vs):ak K B H' l vs:=ak.chg (.same s) a l h
theorem Rep.same(s:aE H H')(h:Rep K A H w v):Rep K A H' w v:=Rep.mv s (λ_ _ _ z=>z) w h
theorem ak.same(s:aE H H')(h:ak K A H l vs):ak K A H' l vs:=ak.mv s (λ_ _ _ z=>z) l h
theorem Rep.less(a:∀p,B p->A p)(h:Rep K A H w v):Rep K B H w v:=Rep.mv (aE.refl H) (λp _ _ z=>a p z) w h
theorem ak.less(a:∀p,B p->A p)(h:ak K A H l vs):ak K B H l vs:=ak.mv (aE.refl H) (λp _ _ z=>a p z) l h
theorem ak.put(b:H p=some (.lst a))(c:A p)(l:List W)(h:ak K A H l vs):ak K A (upd H p o) l vs:=ak.chg (.put b rfl c) (λ_ _ _ z=>z) l h
theorem ak.nil:ak K A H [] []:=by dsimp only[ak]
theorem ak.cons{w:W}{v:V}{l:List W}{vs:List V}(b:Rep K A H w v)(a:ak K A H l vs):ak K A H (w::l) (v::vs):=by dsimp only[ak];exact⟨v,vs,rfl,b,a⟩
theorem ak.nil_inv(h:ak K A H [] vs):vs=[]:=by dsimp only[ak]at h;exact h
theorem ak.cons_inv(h:ak K A H (w::l) vs):∃v r,vs=v::r/\Rep K A H w v/\ak K A H l r:=by dsimp only[ak]at h;exact h
theorem ak.len:∀{l:List W}{vs:List V},ak K A H l vs->vs.length=l.length
 |[],vs,h=>by rw[h.nil_inv];rfl
 |w::l,vs,h=>by obtain⟨v,r,rfl,_,a⟩:=h.cons_inv;rw[Av,Av,a.len]
theorem ak.app:∀{l m:List W}{vs us:List V},ak K A H l vs->ak K A H m us->ak K A H (l++m) (vs++us)
 |[],m,vs,us,h,k=>by rw[h.nil_inv];exact k
 |w::l,m,vs,us,h,k=>by obtain⟨v,r,rfl,b,a⟩:=h.cons_inv;exact .cons b (a.app k)
theorem ak.get:∀{l:List W}{vs:List V}{i:Nat}{w:W},ak K A H l vs->l[i]?=some w->∃v,vs[i]?=some v/\Rep K A H w v
 |[],_,_,_,_,e=>by simp at e
 |x::l,vs,0,w,h,e=>by obtain⟨v,r,rfl,b,a⟩:=h.cons_inv;simp at e;subst e;exact⟨v,rfl,b⟩
 |x::l,vs,i+1,w,h,e=>by obtain⟨v,r,rfl,b,a⟩:=h.cons_inv;obtain⟨u,d,c⟩:=a.get (i:=i) (by simpa using e);exact⟨u,by simpa using d,c⟩
theorem ak.set:∀{l:List W}{vs:List V}{i:Nat}{w:W}{v:V},ak K A H l vs->Rep K A H w v->ak K A H (l.set i w) (vs.set i v)
 |[],_,_,_,_,h,_=>by rw[h.nil_inv];exact .nil
 |x::l,vs,0,w,v,h,e=>by obtain⟨c,r,rfl,b,a⟩:=h.cons_inv;exact .cons e a
 |x::l,vs,i+1,w,v,h,e=>by obtain⟨c,r,rfl,b,a⟩:=h.cons_inv;exact .cons b (a.set e)
theorem ak.take:∀{l:List W}{vs:List V}(n:Nat),ak K A H l vs->ak K A H (l.take n) (vs.take n)
 |_,_,0,_=>.nil
 |[],vs,n+1,h=>by rw[h.nil_inv];exact .nil
 |x::l,vs,n+1,h=>by obtain⟨c,r,rfl,b,a⟩:=h.cons_inv;exact .cons b (a.take n)
theorem ak.drop:∀{l:List W}{vs:List V}(n:Nat),ak K A H l vs->ak K A H (l.drop n) (vs.drop n)
 |_,_,0,h=>h
 |[],vs,n+1,h=>by rw[h.nil_inv];exact .nil
 |x::l,vs,n+1,h=>by obtain⟨b,r,rfl,c,a⟩:=h.cons_inv;exact a.drop n
theorem ak.dropLast(h:ak K A H l vs):ak K A H l.dropLast vs.dropLast:=by rw[YP,YP,h.len];exact h.take _
theorem ak.rep(h:ak K A H l vs):∀n:Nat,ak K A H (B1 n l).flatten (B1 n vs).flatten
 |0=>.nil
 |n+1=>by rw[G2,G2,Ig,Ig];exact h.app (h.rep n)
theorem ak.ints{ns:List Int}:∀{vs:List V},ak K A H (ns.map W.int) vs->vs=ns.map V.int:=by
 induction ns with
 |nil=>intro vs h;exact h.nil_inv
 |cons n ns b=>intro vs h;obtain⟨v,r,rfl,a,c⟩:=h.cons_inv;dsimp only[Rep]at a;rw[a,b c];rfl
theorem ak.JU(ns:List Int):ak K A H (ns.map W.int) (ns.map V.int):=by
 induction ns with
 |nil=>exact .nil
 |cons n ns a=>exact .cons (by dsimp only[Rep]) a
end
end VL
set_option genSizeOf false
set_option genInjectivity false
namespace VL
open PySem PySem.Spec
open PyProof.Rows hiding St
open L2
inductive Md where
 |s|f|o (fs:List Str) (ms:List Md)
 |io (m:Md)
mutual
def Fp(K:Frag)(B:Addr->Prop)(H:Hp):Md->W->V->List Addr->Prop
 |.s,w,v,F=>F=[]/\Rep K B H w v
 |.f,w,v,F=>∃a p vs,w=.lst a/\v=.ref p/\F=[p]/\H p=some (.lst vs)/\ak K B H a vs
 |.o b ms,w,v,F=>∃C c a p vs F',w=.obj C b a/\v=.ref p/\F=p::F'/\H p=some (.ins C c (b.zip vs))/\vs.length=b.length/\zF K C b/\jo K B H ms a vs F'
 |.io _,_,_,_=>False
def jo(K:Frag)(B:Addr->Prop)(H:Hp):List Md->List W->List V->List Addr->Prop
 |[],b,vs,F=>b=[]/\vs=[]/\F=[]
 |m::ms,b,vs,F=>∃w c v a e d,b=w::c/\vs=v::a/\F=e++d/\Fp K B H m w v e/\jo K B H ms c a d
end
def sC(B G:Addr->Prop)(H H':Hp):Prop:=∀p o,H p=some o->(DS o=true/\B p/\¬G p)\/H' p=some o
section
variable{K:Frag}{A B G:Addr->Prop}{H H':Hp}
theorem sC.c(h:sC A G H H'):wN A H H':=λp o e=>(h p o e).imp (λz=>⟨z.1,z.2.1⟩) id
theorem sC.un(h:sC A G H H')(e:H p=some o)(g:DS o=true->G p):H' p=some o:=by
 rcases h p o e with⟨z,_,y⟩|z
 .exact(y (g z)).elim
 .exact z
mutual
theorem Fp.chg(h:sC A G H H')(e:∀p o,H p=some o->B p->A p):∀(m:Md){w:W}{v:V}{F:List Addr},(∀p∈F,G p)->Fp K A H m w v F->Fp K B H' m w v F
 |.s,w,v,F,a,r=>by dsimp only[Fp]at r⊢;exact⟨r.1,Rep.chg h.c e w r.2⟩
 |.f,w,v,F,a,r=>by obtain⟨d,p,vs,k,j,b,i,g⟩:=r;exact⟨d,p,vs,k,j,b,h.un i (λ_=>a p (by rw[b];exact FS)),ak.chg h.c e d g⟩
 |.o z l,w,v,F,a,r=>by obtain⟨C,x,d,p,vs,y,k,j,b,i,g,t,u⟩:=r;exact⟨C,x,d,p,vs,y,k,j,b,h.un i (λ_=>a p (by rw[b];exact FS)),g,t,jo.chg h e l (λq n=>a q (by rw[b];exact FM _ n)) u⟩
 |.io _,w,v,F,a,r=>FE r
theorem jo.chg(h:sC A G H H')(e:∀p o,H p=some o->B p->A p):∀(ms:List Md){a:List W}{vs:List V}{F:List Addr},(∀p∈F,G p)->jo K A H ms a vs F->jo K B H' ms a vs F
 |[],_,_,_,_,r=>by dsimp only[jo]at r⊢;exact r
 |m::ms,a,vs,F,f,r=>by obtain⟨w,g,v,b,q,n,l,k,d,j,i⟩:=r;exact⟨w,g,v,b,q,n,l,k,d,Fp.chg h e m (λp c=>f p (by rw[d];exact il _ c)) j,jo.chg h e ms (λp c=>f p (by rw[d];exact NA _ c)) i⟩
end
theorem sC.same(s:aE H H'):sC A (λ_=>True) H H':=λ_ _ e=>.inr (s _ _ e)
theorem Fp.mv(s:aE H H')(a:∀p o,H p=some o->B p->A p)(m:Md)(h:Fp K A H m w v F):Fp K B H' m w v F:=Fp.chg (.same s) a m (λ_ _=>trivial) h
theorem jo.mv(s:aE H H')(a:∀p o,H p=some o->B p->A p)(ms:List Md)(h:jo K A H ms w v F):jo K B H' ms w v F:=jo.chg (.same s) a ms (λ_ _=>trivial) h
mutual
theorem Fp.rep(b:∀p,B p->A p):∀(m:Md){w:W}{v:V}{F:List Addr},(∀p∈F,¬B p)->Fp K A H m w v F->Rep K B H w v
 |.s,w,v,F,a,h=>by dsimp only[Fp]at h;exact h.2.less b
 |.f,w,v,F,a,h=>by obtain⟨e,p,vs,rfl,rfl,rfl,d,c⟩:=h;exact⟨p,vs,rfl,a p (Fh.mpr rfl),.inl d,c.less b⟩
 |.o n g,w,v,F,a,h=>by obtain⟨C,l,e,p,vs,r,rfl,rfl,rfl,d,c,j,k⟩:=h;exact⟨p,l,vs,rfl,a p FS,d,c,j,jo.rep b g (λq i=>a q (FM _ i)) k⟩
 |.io _,w,v,F,a,h=>FE h
theorem jo.rep(d:∀p,B p->A p):∀(ms:List Md){a:List W}{vs:List V}{F:List Addr},(∀p∈F,¬B p)->jo K A H ms a vs F->ak K B H a vs
 |[],_,_,_,_,h=>by obtain⟨rfl,rfl,_⟩:=h;exact .nil
 |m::ms,a,vs,F,c,h=>by obtain⟨w,i,v,e,k,j,rfl,rfl,rfl,g,f⟩:=h;exact .cons (Fp.rep d m (λp b=>c p (il _ b)) g) (jo.rep d ms (λp b=>c p (NA _ b)) f)
end
mutual
theorem Fp.mu:∀(m:Md){w:W}{v:V}{F:List Addr},Fp K A H m w v F->∀p∈F,∃o,H p=some o/\DS o=true
 |.s,w,v,F,h,p,a=>by dsimp only[Fp]at h;rw[h.1]at a;cases a
 |.f,w,v,F,h,p,a=>by obtain⟨c,q,vs,_,_,rfl,b,_⟩:=h;rw[Fh.mp a];exact⟨_,b,rfl⟩
 |.o g d,w,v,F,h,p,a=>by
  obtain⟨C,i,c,q,vs,j,_,_,rfl,b,_,_,e⟩:=h;rcases IH.mp a with rfl|a
  .exact⟨_,b,rfl⟩
  .exact jo.mu d e p a
 |.io _,w,v,F,h,p,a=>FE h
theorem jo.mu:∀(ms:List Md){b:List W}{vs:List V}{F:List Addr},jo K A H ms b vs F->∀p∈F,∃o,H p=some o/\DS o=true
 |[],_,_,_,h,p,a=>by dsimp only[jo]at h;rw[h.2.2]at a;cases a
 |m::ms,b,vs,F,h,p,a=>by
  obtain⟨w,f,v,c,i,g,_,_,rfl,e,d⟩:=h;rcases SL.mp a with a|a
  .exact Fp.mu m e p a
  .exact jo.mu ms d p a
end
inductive mJ where
 |fl (n:Nat) (x:Str)
noncomputable def dQ:W->List mJ->Option W
 |w,[]=>some w
 |.obj _ _ l,.fl n _::π=>match l[n]? with
  |some u=>dQ u π
  |none=>none
 |_,_=>none
noncomputable def setAt:W->List mJ->W->W
 |_,[],u=>u
 |.obj C a l,.fl n _::π,u=>match l[n]? with
  |some x=>.obj C a (l.set n (setAt x π u))
  |none=>.obj C a l
 |w,_,_=>w
noncomputable def oj:Md->List mJ->Option Md
 |m,[]=>some m
 |.o a ms,.fl n x::π=>if a[n]?=some x then(match ms[n]? with
  |some m=>oj m π
  |none=>none)else none
 |_,_=>none
def Ir(K:Frag)(H:Hp):V->List mJ->V->Prop
 |v,[],u=>u=v
 |v,.fl n f::π,u=>∃p vs x,v=.ref p/\(∃(C b:Addr)(a:List Str),H p=some (.ins C b (a.zip vs))/\vs.length=a.length/\zF K C a/\a[n]?=some f)/\vs[n]?=some x/\Ir K H x π u
theorem qz{α:Type}:∀{l:List α}{n:Nat}{x:α},l[n]?=some x->l.set n x=l
 |[],_,_,e=>by cases e
 |y::l,0,x,e=>by cases e;rfl
 |y::l,n+1,x,e=>by rw[bX,qz (by simpa using e)]
theorem jo.at:∀(ms:List Md){k:List W}{vs:List V}{F:List Addr}{n:Nat}{m:Md}{w:W},jo K A H ms k vs F->ms[n]?=some m->k[n]?=some w->
 ∃v d F' i,vs[n]?=some v/\F=d++F'++i/\Fp K A H m w v F'/\∀(H':Hp)(B:Addr->Prop) w' g j,Fp K B H' m w' g j->sC A (·∈d++i) H H'->(∀p o,H p=some o->B p->A p)->jo K B H' ms (k.set n w') (vs.set n g) (d++j++i)
 |[],_,_,_,n,m,w,_,e,_=>by cases e
 |m0::ms,k,vs,F,0,m,w,h,D,C=>by obtain⟨E,r,v,f,d,i,rfl,rfl,rfl,x,t⟩:=h;cases D;cases C;refine⟨v,[],d,i,rfl,by simp,x,λH' B w' g j y l q=>?_⟩;exact⟨w',r,g,f,j,i,rfl,rfl,by simp,y,jo.chg l q ms (λp s=>by simpa using s) t⟩
 |m0::ms,k,vs,F,n+1,m,w,h,D,C=>by obtain⟨E,r,v,f,d,i,rfl,rfl,rfl,x,t⟩:=h;obtain⟨u,J,O,I,N,rfl,M,L⟩:=jo.at ms t (n:=n) (by simpa using D) (by simpa using C);refine⟨u,d++J,O,I,by simpa using N,by simp,M,λH' B w' g j y l q=>?_⟩;refine⟨E,r.set n w',v,f.set n g,d,J++j++I,rfl,rfl,by simp,Fp.chg l q m0 (λp s=>by simp[s]) x,L H' B w' g j y (λp o e=>(l p o e).imp (λ⟨a,b,c⟩=>⟨a,b,λz=>c ?_⟩) id) q⟩;rcases SL.mp z with z|z<;>simp[z]
def Pth(K:Frag)(A:Addr->Prop)(H:Hp)(m:Md)(w:W)(v:V)(F:List Addr)(π:List mJ)(e:Md)(w':W):Prop:=
 ∃b d f c,F=d++f++c/\Ir K H v π b/\Fp K A H e w' b f/\∀(H':Hp)(B:Addr->Prop) a g,Fp K B H' e a b g->sC A (·∈d++c) H H'->(∀p o,H p=some o->B p->A p)->Fp K B H' m (setAt w π a) v (d++g++c)
theorem Fp.path:∀(π:List mJ)(m:Md){w:W}{v:V}{F:List Addr}{i:Md}{w':W},Fp K A H m w v F->oj m π=some i->dQ w π=some w'->Pth K A H m w v F π i w'
 |[],m,w,v,F,i,w',h,d,g=>by dsimp only[oj]at d;dsimp only[dQ]at g;cases d;cases g;refine⟨v,[],F,[],by simp,rfl,h,λH' B j u h' _ _=>?_⟩;dsimp only[setAt];simpa using h'
 |n::π,.s,w,v,F,i,w',h,d,g=>by cases n<;>exact nn d
 |n::π,.f,w,v,F,i,w',h,d,g=>by cases n<;>exact nn d
 |n::π,.io _,w,v,F,i,w',h,d,g=>by cases n<;>exact nn d
 |.fl n f::π,.o J ms,w,v,F,i,w',h,d,g=>by
  obtain⟨C,L,Q,p,vs,F0,rfl,rfl,rfl,I,D,k,h2⟩:=h;dsimp only[oj]at d;dsimp only[dQ]at g;by_cases q:J[n]?=some f;rotate_left
  .rw[Bz q]at d;cases d
  rw[D1 q]at d;cases t:ms[n]? with
  |none=>rw[t]at d;exact nn d
  |some Z=>
   cases l:Q[n]? with
   |none=>rw[l]at g;exact nn g
   |some w1=>rw[t]at d;rw[l]at g;obtain⟨x,P,F',O,y,rfl,Y,X⟩:=jo.at ms h2 t l;obtain⟨R,N,G',M,rfl,U,T,S⟩:=Fp.path π Z Y d g;refine⟨R,p::P++N,G',M++O,by simp,⟨p,vs,x,rfl,⟨C,L,J,I,D,k,q⟩,y,U⟩,T,λH' B j u h' r E=>?_⟩;dsimp only[setAt];rw[l];dsimp only[Fp];have a:=X H' B _ x _ (S H' B j u h' (λp o e=>(r p o e).imp (by rintro⟨a,b,c⟩;exact⟨a,b,λz=>c (by rcases SL.mp z with z|z<;>simp[z])⟩) id) E) (λp o e=>(r p o e).imp (by rintro⟨a,b,c⟩;exact⟨a,b,λz=>c (by rcases SL.mp z with z|z<;>simp[z])⟩) id) E;rw[qz y]at a;refine⟨C,L,_,p,vs,P++(N++u++M)++O,rfl,rfl,by simp,r.un I (λ_=>by simp),D,k,a⟩
end
def di(K:Frag)(A:Addr->Prop)(H H':Hp)(m:Md)(w:W)(v:V):Prop:=
 ∃F:List Addr,F.Nodup/\(∀p∈F,H p=none)/\Fp K (λq=>A q\/q∈F) H' m w v F
def Dom(A:Addr->Prop)(H:Hp):Prop:=∀p,A p->∃o,H p=some o
theorem Dom.no(d:Dom A H)(h:H p=none):¬A p:=λz=>by obtain⟨o,e⟩:=d p z;rw[h]at e;cases e
theorem Dom.same(d:Dom A H)(s:aE H H'):Dom A H':=λp z=>by obtain⟨o,e⟩:=d p z;exact⟨o,s _ _ e⟩
section
variable{K:Frag}{A B:Addr->Prop}{H H':Hp}{m:Md}{w:W}{v:V}
theorem di.rep(d:Dom A H)(h:di K A H H' m w v):Rep K A H' w v:=by obtain⟨F,c,a,h⟩:=h;exact Fp.rep (λp z=>.inl z) m (λp b=>d.no (a p b)) h
theorem di.of(h:Rep K A H' w v):di K A H H' .s w v:=⟨[],zzj,by simp,by dsimp only[Fp];exact⟨rfl,h.less λp z=>by simpa using z⟩⟩
theorem di.s(d:Dom A H)(h:di K A H H' m w v):di K A H H' .s w v:=.of (h.rep d)
theorem di.new(b:H p=none)(d:H' p=some (.lst vs))(e:ak K A H' a vs)(c:ak K (λq=>A q\/q=p) H' a vs):di K A H H' .f (.lst a) (.ref p):=
 ⟨[p],(by simp),(by simpa using b),by dsimp only[Fp];exact⟨a,p,vs,rfl,rfl,rfl,d,c.less λq z=>by simpa using z⟩⟩
theorem di.fresh(s:aE H H1)(b:H1 p=none)(h:ak K A H1 a vs):di K A H (upd H1 p (.lst vs)) .f (.lst a) (.ref p):=by
 have sm:=aU b (.lst vs);refine .new (s.free b) aJ (h.same sm) (ak.mv sm (λq o z y=>?_) a h);rcases y with y|y
 .exact y
 .rw[y,b]at z;cases z
theorem di.Vz(h:di K A H H' .f w v):∃a p vs,w=.lst a/\v=.ref p/\H p=none/\H' p=some (.lst vs)/\ak K (λq=>A q\/q=p) H' a vs:=by obtain⟨F,e,b,h⟩:=h;obtain⟨a,p,vs,rfl,rfl,rfl,d,c⟩:=h;exact⟨a,p,vs,rfl,rfl,b p (Fh.mpr rfl),d,c.less λq z=>by simpa using z⟩
theorem di.back(s:aE a H)(e:∀p,B p->A p)(h:di K A H H' m w v):di K B a H' m w v:=by obtain⟨F,c,b,h⟩:=h;exact⟨F,c,λp d=>s.free (b p d),Fp.mv (aE.refl _) (λp o _ z=>z.imp (e p) id) m h⟩
end
abbrev Ev:=List (Option W)
noncomputable def look:Ev->Nat->Option W
 |[],_=>none
 |x::_,0=>x
 |_::l,n+1=>look l n
theorem b7:∀{a:Ev}{i:Nat}{w:W},look a i=some w↔a[i]?=some (some w)
 |[],i,w=>by simp[look]
 |x::l,0,w=>by simp[look]
 |x::l,i+1,w=>by rw[look,b7];simp
abbrev Ms:=List (Nat×Md)
def bq(M:Ms)(i:Nat):Prop:=∃m,(i,m)∈M
structure Fz where
 ab:Addr->Prop
 B:Addr->Prop
 s0:Option V
abbrev FB(A:Fz)(M:Ms)(σ:St):Addr->Prop:=A.B
structure Tn(K:Frag)(M:Ms)(A:Fz)(H0:Hp)(σ:St)(H:Hp)(ε:Ev)(F:Nat->List Addr):Prop where
 un:∀i m m',(i,m)∈M->(i,m')∈M->m=m'
 val:∀i m w,(i,m)∈M->look ε i=some w->∃v,σ[i]?=some (some v)/\Fp K A.B H m w v (F i)
 emp:∀i,bq M i->look ε i=none->F i=[]
 nd:∀i,bq M i->(F i).Nodup
 ds:∀i j p,bq M i->bq M j->p∈F i->p∈F j->i=j
 nw:∀i p,bq M i->p∈F i->H0 p=none
 na:∀i p,bq M i->p∈F i->¬A.ab p
 all:∀p,A.B p↔A.ab p\/∃i,bq M i/\p∈F i
structure SR(K:Frag)(M:Ms)(A:Fz)(H0:Hp)(σ:St)(H:Hp)(ε:Ev):Prop where
 len:σ.length=ε.length
 sh:∀i w,¬bq M i->look ε i=some w->∃v,σ[i]?=some (some v)/\Rep K A.B H w v
 sm:aE H0 H
 dm:Dom A.ab H
 sl:∀v,A.s0=some v->σ[0]?=some (some v)/\bq M 0
 ow:∃F,Tn K M A H0 σ H ε F
theorem b8(h:i≠j):look (a.set i x) j=look a j:=by
 cases e:look a j with
 |none=>
  cases b:look (a.set i x) j with
  |none=>rfl
  |some w=>rw[b7,TC h,<-b7,e]at b;cases b
 |some w=>rw[b7,TC h,<-b7];exact e
theorem qA{a:Ev}(h:look (a.set i (some w)) i=some w'):w'=w:=by
 rw[b7,Om]at h;rw[D1 rfl]at h;split at h
 .cases h;rfl
 .cases h
theorem vj(h:look a i=some w):i<a.length:=by rw[b7]at h;exact(Fu.mp h).1
section
variable{K:Frag}{M M':Ms}{A:Fz}{H0 H H1:Hp}{σ:St}{ε:Ev}{F:Nat->List Addr}
theorem Tn.has(O:Tn K M A H0 σ H ε F)(hi:bq M i)(a:p∈F i):∃o,H p=some o/\DS o=true:=by
 cases b:look ε i with
 |none=>rw[O.emp i hi b]at a;cases a
 |some w=>obtain⟨m,c⟩:=hi;obtain⟨v,_,h⟩:=O.val i m w c b;exact Fp.mu m h p a
theorem SR.dom(S:SR K M A H0 σ H ε):Dom A.B H:=λp z=>by
 obtain⟨F,O⟩:=S.ow;rcases(O.all p).mp z with z|⟨i,b,a⟩
 .exact S.dm p z
 .obtain⟨o,e,_⟩:=O.has b a;exact⟨o,e⟩
theorem SR.sub'(S:SR K M A H0 σ H ε):∀p,A.ab p->A.B p:=λp z=>by obtain⟨F,O⟩:=S.ow;exact(O.all p).mpr (.inl z)
theorem SR.same(S:SR K M A H0 σ H ε)(s:aE H H1):SR K M A H0 σ H1 ε:=by
 obtain⟨F,O⟩:=S.ow;exact⟨S.len,λi w b e=>let⟨v,h1,h2⟩:=S.sh i w b e;⟨v,h1,h2.same s⟩,S.sm.trans s,S.dm.same s,S.sl,F,
  ⟨O.un,λi m w a e=>let⟨v,h1,h2⟩:=O.val i m w a e;⟨v,h1,Fp.mv s (λ_ _ _ z=>z) m h2⟩,O.emp,O.nd,O.ds,O.nw,O.na,O.all⟩⟩
theorem SR.sub(S:SR K M A H0 σ H ε)(h:∀x∈M',x∈M)(s:Option V)(hz:∀v,s=some v->A.s0=some v/\bq M' 0):∃r,r.ab=A.ab/\r.s0=s/\(∀p,r.B p->A.B p)/\SR K M' r H0 σ H ε:=by
 obtain⟨F,O⟩:=S.ow;have d:∀i,bq M' i->bq M i:=by rintro i ⟨m,f⟩;exact⟨m,h _ f⟩
 have q:∀p,(A.ab p\/∃i,bq M' i/\p∈F i)->A.B p:=λp z=>(O.all p).mpr (z.imp id<|by rintro⟨i,c,n⟩;exact⟨i,d i c,n⟩);refine⟨⟨A.ab,λp=>A.ab p\/∃i,bq M' i/\p∈F i,s⟩,rfl,rfl,q,S.len,λi w u e=>?_,S.sm,S.dm,λv e=>⟨(S.sl v (hz v e).1).1,(hz v e).2⟩,F,⟨λi m y a b=>O.un i m y (h _ a) (h _ b),λi m w f e=>?_,λi c=>O.emp i (d i c),λi c=>O.nd i (d i c),λi j p c o=>O.ds i j p (d i c) (d j o),λi p c=>O.nw i p (d i c),λi p c=>O.na i p (d i c),λp=>Iff.rfl⟩⟩
 .by_cases c:bq M i
  .have g:=c;obtain⟨m,f⟩:=c;obtain⟨v,l,k⟩:=O.val i m w f e;refine⟨v,l,Fp.rep q m (λp n z=>?_) k⟩;rcases z with z|⟨j,o,t⟩
   .exact O.na i p g n z
   .have:=O.ds i j p g (d j o) n t;subst this;exact u o
  .obtain⟨v,l,k⟩:=S.sh i w c e;exact⟨v,l,k.less q⟩
 .obtain⟨v,l,k⟩:=O.val i m w (h _ f) e;exact⟨v,l,Fp.mv (aE.refl _) (λp _ _ z=>q p z) m k⟩
theorem SR.go(S:SR K M A H0 σ H ε):SR K [] ⟨A.ab,A.ab,none⟩ H0 σ H ε:=by
 obtain⟨a,b,c,h,d⟩:=S.sub (M':=[]) (λx f=>by cases f) none (λv e=>by cases e);obtain⟨F,O⟩:=d.ow;have e:∀p,a.B p↔A.ab p:=λp=>by rw[O.all p,b];exact⟨λz=>z.elim id (by rintro⟨i,⟨m,g⟩,_⟩;cases g),.inl⟩
 have:a.B=A.ab:=funext λp=>propext (e p);have:a=⟨A.ab,A.ab,none⟩:=by
  cases a;simp only at b c this;rw[b,this,c]
 rw[<-this];exact d
theorem SR.set(S:SR K M A H0 σ H ε)(hi:¬bq M i)(h:Rep K A.B H w v):SR K M A H0 (σ.set i (some v)) H (ε.set i (some w)):=by
 obtain⟨F,O⟩:=S.ow;refine⟨by rw[XB,XB];exact S.len,λj f d e=>?_,S.sm,S.dm,λu e=>?_,F,⟨O.un,λj m f g e=>?_,λj d e=>?_,O.nd,O.ds,O.nw,O.na,O.all⟩⟩
 .by_cases a:i=j
  .subst a;have k:i<σ.length:=by rw[S.len];have:=vj e;rwa [XB]at this
   have:=qA e;subst this;exact⟨v,gd k,h⟩
  .rw[b8 a]at e;obtain⟨u,c,b⟩:=S.sh j f d e;exact⟨u,by rw[TC a];exact c,b⟩
 .obtain⟨c,b⟩:=S.sl u e;exact⟨by rw[TC (by rintro rfl;exact hi b)];exact c,b⟩
 .have a:i≠j:=by rintro rfl;exact hi ⟨m,g⟩
  rw[b8 a]at e;obtain⟨u,c,b⟩:=O.val j m f g e;exact⟨u,by rw[TC a];exact c,b⟩
 .have a:i≠j:=by rintro rfl;exact hi d
  rw[b8 a]at e;exact O.emp j d e
theorem SR.own(S:SR K M' A H0 σ H ε)(y:∀x,x∈M↔x=(i,m)\/x∈M')(hi:¬bq M' i)(s:aE H H1)(h:di K A.B H H1 m w v):
 ∃N,N.ab=A.ab/\N.s0=A.s0/\(∀p o,H p=some o->N.B p->A.B p)/\SR K M N H0 (σ.set i (some v)) H1 (ε.set i (some w)):=by
 obtain⟨F,O⟩:=S.ow;obtain⟨G,nd,nw,L⟩:∃G:List Addr,G.Nodup/\(∀p∈G,H p=none)/\(i<ε.length->Fp K (λq=>A.B q\/q∈G) H1 m w v G)/\(ε.length<=i->G=[]):=by
  by_cases g:i<ε.length
  .obtain⟨G,nd,nw,L⟩:=h;exact⟨G,nd,nw,λ_=>L,λz=>by lia⟩
  .exact⟨[],zzj,by simp,λz=>(g z).elim,λ_=>rfl⟩
 have f:∀j,bq M j↔j=i\/bq M' j:=λj=>by
  constructor
  .rintro⟨r,Q⟩;rcases(y _).mp Q with e|e
   .cases e;exact .inl rfl
   .exact .inr ⟨r,e⟩
  .rintro(rfl|⟨r,Q⟩)
   .exact⟨m,(y _).mpr (.inl rfl)⟩
   .exact⟨r,(y _).mpr (.inr Q)⟩
 have P:∀j,bq M' j->j≠i:=λj c e=>by subst e;exact hi c
 have E:∀j p,bq M' j->p∈F j->p∉G:=λj p c d z=>by obtain⟨o,e,_⟩:=O.has c d;rw[nw p z]at e;cases e
 have R:∀p o,H p=some o->(A.B p\/p∈G)->A.B p:=λp o e z=>by
  rcases z with z|z
  .exact z
  .rw[nw p z]at e;cases e
 refine⟨⟨A.ab,λp=>A.B p\/p∈G,A.s0⟩,rfl,rfl,R,by rw[XB,XB];exact S.len,λj J c e=>?_,S.sm.trans s,S.dm.same s,λu e=>?_,λj=>if j=i then G else F j,⟨λj X U a b=>?_,λj r J c e=>?_,λj c e=>?_,λj c=>?_,λj k p c T a b=>?_,λj p c d=>?_,λj p c d=>?_,λp=>?_⟩⟩
 .have t:j≠i/\¬bq M' j:=⟨λz=>c ((f j).mpr (.inl z)),λz=>c ((f j).mpr (.inr z))⟩;rw[b8 (gN t.1)]at e;obtain⟨u,I,D⟩:=S.sh j J t.2 e;exact⟨u,by rw[TC (gN t.1)];exact I,Rep.mv s R J D⟩
 .obtain⟨I,D⟩:=S.sl u e;exact⟨by rw[TC (gN (P 0 D))];exact I,(f 0).mpr (.inr D)⟩
 .rcases(y _).mp a with a|a
  .rcases(y _).mp b with b|b
   .cases a;cases b;rfl
   .cases a;exact(hi ⟨_,b⟩).elim
  .rcases(y _).mp b with b|b
   .cases b;exact(hi ⟨_,a⟩).elim
   .exact O.un j X U a b
 .rcases(y _).mp c with a|a
  .cases a;have g:i<ε.length:=by have:=vj e;rwa [XB]at this
   have:=qA e;subst this;exact⟨v,gd (by rw[S.len];exact g),by rw[D1 rfl];exact L.1 g⟩
  .have n:=P j ⟨r,a⟩;rw[b8 (gN n)]at e;obtain⟨u,I,D⟩:=O.val j r J a e;exact⟨u,by rw[TC (gN n)];exact I,by rw[Bz n];exact Fp.mv s R r D⟩
 .by_cases n:j=i
  .subst n;rw[D1 rfl];refine L.2 (h7 λg=>?_);have:look (ε.set j (some w)) j=some w:=by rw[b7];exact gd g
   rw[this]at e;cases e
  .rw[b8 (gN n)]at e;rw[Bz n];exact O.emp j (((f j).mp c).resolve_left n) e
 .by_cases n:j=i
  .rw[D1 n];exact nd
  .rw[Bz n];exact O.nd j (((f j).mp c).resolve_left n)
 .by_cases C:j=i
  .by_cases l:k=i
   .rw[C,l]
   .rw[D1 C]at a;rw[Bz l]at b;exact(E k p (((f k).mp T).resolve_left l) b a).elim
  .by_cases l:k=i
   .rw[Bz C]at a;rw[D1 l]at b;exact(E j p (((f j).mp c).resolve_left C) a b).elim
   .rw[Bz C]at a;rw[Bz l]at b;exact O.ds j k p (((f j).mp c).resolve_left C) (((f k).mp T).resolve_left l) a b
 .by_cases n:j=i
  .rw[D1 n]at d;exact S.sm.free (nw p d)
  .rw[Bz n]at d;exact O.nw j p (((f j).mp c).resolve_left n) d
 .by_cases n:j=i
  .rw[D1 n]at d;exact S.dm.no (nw p d)
  .rw[Bz n]at d;exact O.na j p (((f j).mp c).resolve_left n) d
 .constructor
  .rintro(z|z)
   .rcases(O.all p).mp z with z|⟨j,c,d⟩
    .exact .inl z
    .exact .inr ⟨j,(f j).mpr (.inr c),by rw[Bz (P j c)];exact d⟩
   .exact .inr ⟨i,(f i).mpr (.inl rfl),by rw[D1 rfl];exact z⟩
  .rintro(z|⟨j,c,d⟩)
   .exact .inl ((O.all p).mpr (.inl z))
   .by_cases n:j=i
    .rw[D1 n]at d;exact .inr d
    .rw[Bz n]at d;exact .inl ((O.all p).mpr (.inr ⟨j,((f j).mp c).resolve_left n,d⟩))
theorem Tn.chg(S:SR K M A H0 σ H ε)(O:Tn K M A H0 σ H ε F)(hi:(i,m)∈M)(Q:look ε i=some w)(P:σ[i]?=some (some v))
 (x:∀p o,H p=some o->(DS o=true/\p∈F i)\/H1 p=some o)(nd:F'.Nodup)(nw:∀p∈F',p∈F i\/H p=none)(h:Fp K (λp=>(A.B p/\p∉F i)\/p∈F') H1 m w' v F'):
 ∃s,s.ab=A.ab/\s.s0=A.s0/\(∀p,s.B p↔(A.B p/\p∉F i)\/p∈F')/\(∀p o,H p=some o->s.B p->A.B p)/\wN A.B H H1/\SR K M s H0 σ H1 (ε.set i (some w')):=by
 have f:bq M i:=⟨m,hi⟩;have J:∀p,p∈F i->A.B p:=λp c=>(O.all p).mpr (.inr ⟨i,f,c⟩);have N:wN A.B H H1:=λp o e=>(x p o e).imp (λz=>⟨z.1,J p z.2⟩) id;have I:∀p o,H p=some o->((A.B p/\p∉F i)\/p∈F')->A.B p:=λp o e z=>by
  rcases z with z|z
  .exact z.1
  .rcases nw p z with z|z
   .exact J p z
   .rw[z]at e;cases e
 have C:∀j p,bq M j->j≠i->p∈F j->p∉F i/\p∉F':=λj p d n c=>by
  have a:p∉F i:=λz=>n (O.ds j i p d f c z);refine⟨a,λz=>?_⟩;rcases nw p z with z|z
  .exact a z
  .obtain⟨o,e,_⟩:=O.has d c;rw[z]at e;cases e
 refine⟨⟨A.ab,λp=>(A.B p/\p∉F i)\/p∈F',A.s0⟩,rfl,rfl,λ_=>Iff.rfl,I,N,by rw[XB];exact S.len,λj g d e=>?_,λp o e=>?_,λp z=>?_,S.sl,λj=>if j=i then F' else F j,⟨O.un,λj t g d e=>?_,λj d e=>?_,λj d=>?_,λj k p d L a b=>?_,λj p d c=>?_,λj p d c=>?_,λp=>?_⟩⟩
 .have n:i≠j:=by rintro rfl;exact d f
  rw[b8 n]at e;obtain⟨u,E,D⟩:=S.sh j g d e;exact⟨u,E,Rep.chg N I g D⟩
 .rcases x p o (S.sm p o e)with⟨_,z⟩|z
  .rw[O.nw i p f z]at e;cases e
  .exact z
 .obtain⟨o,e⟩:=S.dm p z;rcases x p o e with⟨_,y⟩|y
  .exact(O.na i p f y z).elim
  .exact⟨o,y⟩
 .by_cases n:j=i
  .subst n;have R:=O.un j m t hi d;subst R;have:=qA e;subst this;exact⟨v,P,by rw[D1 rfl];exact h⟩
  .rw[b8 (gN n)]at e;obtain⟨u,E,D⟩:=O.val j t g d e;refine⟨u,E,?_⟩;rw[Bz n];refine Fp.chg (G:=λp=>p∈F j) (λp o e=>?_) I t (λp c=>c) D;rcases x p o e with⟨z,y⟩|z
   .exact .inl ⟨z,J p y,λq=>(C j p ⟨t,d⟩ n q).1 y⟩
   .exact .inr z
 .by_cases n:j=i
  .subst n;have:look (ε.set j (some w')) j=some w':=by rw[b7];exact gd (vj Q)
   rw[this]at e;cases e
  .rw[b8 (gN n)]at e;rw[Bz n];exact O.emp j d e
 .by_cases n:j=i
  .rw[D1 n];exact nd
  .rw[Bz n];exact O.nd j d
 .by_cases r:j=i
  .by_cases l:k=i
   .rw[r,l]
   .rw[D1 r]at a;rw[Bz l]at b;exact((C k p L l b).2 a).elim
  .by_cases l:k=i
   .rw[Bz r]at a;rw[D1 l]at b;exact((C j p d r a).2 b).elim
   .rw[Bz r]at a;rw[Bz l]at b;exact O.ds j k p d L a b
 .by_cases n:j=i
  .rw[D1 n]at c;rcases nw p c with z|z
   .exact O.nw i p f z
   .exact S.sm.free z
  .rw[Bz n]at c;exact O.nw j p d c
 .by_cases n:j=i
  .rw[D1 n]at c;rcases nw p c with z|z
   .exact O.na i p f z
   .exact S.dm.no z
  .rw[Bz n]at c;exact O.na j p d c
 .constructor
  .rintro(⟨z,y⟩|z)
   .rcases(O.all p).mp z with z|⟨j,d,c⟩
    .exact .inl z
    .have n:j≠i:=by rintro rfl;exact y c
     exact .inr ⟨j,d,by rw[Bz n];exact c⟩
   .exact .inr ⟨i,f,by rw[D1 rfl];exact z⟩
  .rintro(z|⟨j,d,c⟩)
   .exact .inl ⟨(O.all p).mpr (.inl z),λy=>O.na i p f y z⟩
   .by_cases n:j=i
    .rw[D1 n]at c;exact .inr c
    .rw[Bz n]at c;exact .inl ⟨(O.all p).mpr (.inr ⟨j,d,c⟩),(C j p d n c).1⟩
end
end VL
namespace HT
open PySem PySem.Spec PyProof.Rows
section
open PySem.SeqAt
open PySem.AutoSeq1 (wpAny_loadPart')
open PySem.MeetsSeq PySem.MeetsSeq2 PySem.MeetsSeq3
end
section
variable{prog:Program}{w:World}{A:Around}{E:Value->Shared->Prop}{s:Shared}
end
end HT
namespace VL
open PySem PySem.Spec PySem.Calls PyProof.Rows
theorem ints_get:∀{vs:List Value}{ns:List Int},IntsAre vs ns->∀(j:Nat)(h:j<vs.length),∃t,vs[j]=.int (ns.getD j 0) t
 |_,_,.cons n t _,0,_=>⟨t,rfl⟩
 |_,_,.cons n t r,j+1,h=>by obtain⟨u,e⟩:=ints_get r j (by simpa using h);exact⟨u,by simpa using e⟩
theorem all_eq:∀(ns ms:List Int),ns.length=ms.length->(Bn ns.length).all (λj=>ns.getD j 0==ms.getD j 0)=decide (ns=ms)
 |[],[],_=>rfl
 |n::ns,m::ms,h=>by
  have ih:=all_eq ns ms (by simpa using h);rw[Av,zz8,G1,List.all_map];have:((λj=>(n::ns).getD j 0==(m::ms).getD j 0)∘jH)=λj=>ns.getD j 0==ms.getD j 0:=by funext j;rfl
  rw[this,ih];show((n==m)&&decide (ns=ms))=_;by_cases e:n=m<;>by_cases a:ns=ms<;>simp[e,a]
 |[],_::_,h=>by simp at h
 |_::_,[],h=>by simp at h
theorem qC:∀{vs:List Value}{ns ms:List Int},IntsAre vs ns->IntsAre vs ms->ns=ms
 |_,_,_,.nil,.nil=>rfl
 |_,_,_,.cons n t r,.cons _ _ a=>by rw[qC r a]
section
variable{A:Around}{s:Shared}
theorem FU(f:s.heap.IsList l items)(h:s.heap.IsList b a)(hi:IntsAre items.toList ns)(g:IntsAre a.toList ms)(k:A.units<cLine):
 SeqAt.EqAt A s (.ref l) (.ref b) (decide (ns=ms)):=by
 have i:items.size=ns.length:=by rw[<-hi.length];simp
 have r:a.size=ms.length:=by rw[<-g.length];simp
 by_cases e:l=b
 .subst e;obtain⟨o,v,_,n,w⟩:=f;obtain⟨z,c,_,B,d⟩:=h;rw[v]at c;cases c;rw[w]at d;cases d;rw[Fn (qC hi g)];exact SeqAt.EqAt.same _
 .refine SeqAt.EqAt.of_refs e ?_;by_cases hz:items.size=a.size
  .have:=SeqAt.RcAt.lists (e:=λj=>ns.getD j 0==ms.getD j 0) f h hz k λj p m=>by obtain⟨t,y⟩:=ints_get hi j (by simpa using p);obtain⟨u,x⟩:=ints_get g j (by simpa using m);rw[show items[j]=items.toList[j]'(by simpa using p) by simp,show a[j]=a.toList[j]'(by simpa using m) by simp,y,x];exact SeqAt.EqAt.int_int _ _ _ _
   rw[i,all_eq ns ms (by lia)]at this;exact this
  .rw[IR (λq=>hz (by rw[i,r,q]))];exact SeqAt.RcAt.lists_lengths f h (by simpa using hz) k
end
end VL
namespace HT
open PySem PySem.Spec PyProof.Rows
def Zc(A:Around)(s:Shared)(x y:Value)(c:Bool):Prop:=∀(a:Program)(w:World)(E:Value->Shared->Prop)(Q:Value->Shared->Prop),Q (.bool c) s->wpAny (model a w) A (richCompare .Lt x y) Q E s
inductive C5(A:Around)(s:Shared):List Value->List Value->Bool->Prop where
 |nn:C5 A s [] [] false
 |nc {y ys}:C5 A s [] (y::ys) true
 |cn {x xs}:C5 A s (x::xs) [] false
 |eq {x y xs ys c} (h:SeqAt.EqAt A s x y true) (r:C5 A s xs ys c):C5 A s (x::xs) (y::ys) c
 |ne {x y xs ys c} (h:SeqAt.EqAt A s x y false) (r:Zc A s x y c):C5 A s (x::xs) (y::ys) c
section
open PySem.SeqAt
open PySem.AutoSeq1 (wpAny_loadPart')
open PySem.MeetsSeq PySem.MeetsSeq2 PySem.MeetsSeq3
end
section
variable{prog:Program}{w:World}{A:Around}{E:Value->Shared->Prop}{s:Shared}
end
end HT
namespace L2
open PySem PySem.Spec PyProof.Rows
section
variable{κ:Type}[DecidableEq κ]
end
section
variable{P:Program}{w:World}{H:Hp}{h:Heap}{a:Addr}
end
section
variable{X:Cx}{pins:List (Addr×Obj)}{σ:St}{H:Hp}{s:Shared}{a:Addr}{y v:V}{u r:Value}{o:Option V}{A:Around}{E:Value->Shared->Prop}
end
section
variable{X:Cx}{pins:List (Addr×Obj)}{σ:St}{H:Hp}{s:Shared}{a:Addr}{kvs:List (Key×V)}{k:Key}{u:Value}{A:Around}{E:Value->Shared->Prop}
end
section
variable{X:Cx}{o i e value:Expr}{pos pos' tpos:Pos}{td ty tv:TE}
end
section
variable{X:Cx}{pos:Pos}
end
abbrev VV:List (V×V)->List (Value×Value)->Prop:=Paired λp q=>RelV p.1 q.1/\RelV p.2 q.2
structure M2(X:Cx)(o:Expr)(m:Str)(apos:Pos)(e f:Expr)(cpos:Pos):Prop where
 base:attributeBase o m X.env (eval o X.env)=eval o X.env
 few:((backTo cpos (starEach [e,f] X.env)).all (λx=>!x.1)&&(backToKw cpos (keywordEach [] X.env)).all (λx=>x.1.isSome)
  &&decide (([e,f]:List Expr).length+([]:List Keyword).length+(if([]:List Keyword).isEmpty then 0 else 1)<30))=true
 line:(apos.endLine==cpos.line)=true
 trees:backTo cpos (starEach [e,f] X.env)=[(false,eval e X.env),(false,eval f X.env)]
section
variable{X:Cx}{pins:List (Addr×Obj)}{σ:St}{H:Hp}{s:Shared}{a:Addr}{y d:V}{u r:Value}{o:Option V}{A:Around}{E:Value->Shared->Prop}
end
section
variable{X:Cx}{o e f:Expr}{apos cpos:Pos}{td ty tx:TE}
end
section
variable{X:Cx}{pins:List (Addr×Obj)}{σ:St}{H:Hp}{s:Shared}{a:Addr}{kvs:List (Key×V)}{A:Around}{E:Value->Shared->Prop}
end
section
variable{X:Cx}{pins:List (Addr×Obj)}{σ:St}{H:Hp}{s:Shared}{a:Addr}{y:V}{u:Value}{A:Around}{E:Value->Shared->Prop}
end
end L2
namespace L2
open PySem PySem.Spec PyProof.Rows PySem.W
variable{X:Cx}
noncomputable def tx(l:List Nat):Str:=⟨l.toArray⟩
section
variable{X:Cx}
end
end L2
set_option genSizeOf false
set_option genInjectivity false
namespace VL
open PySem PySem.Spec
open PyProof.Rows hiding St
open L2
inductive BI where
 |len|abs|max2|min2|list|int|To
 deriving DecidableEq
inductive CE where
 |var (i:Nat)|int (i:Int)|bl (b:Bool)|str (x:Str)|cu|glob (g:Nat)
 |bin (op:Operator) (a b:CE)|neg (a:CE)|not (a:CE)
 |cmp (op:CmpOp) (a b:CE)
 |and (as:List CE)|or (as:List CE)|ite (c a b:CE)
 |tup (as:List CE)|lst (as:List CE)
 |ix (a i:CE)|sl (a lo hi:CE)
 |call (f:Nat) (as:List CE)|blt (b:BI) (as:List CE)|bits (a:CE)
 |comp (ts:List Nat) (one:Bool) (n:Nat) (it:CE) (c:CE) (e:CE)
 |jN (as:List CE)|t9 (a:CE)|rev (a:CE)
 |pop (i:Nat)
 |own (i:Nat) (π:List mJ)|m6 (i:Nat) (f:Nat) (as:List CE)|DU (i g f:Nat) (as:List CE)
 |BC (is:List Nat) (a:CE)|O6 (f:Nat) (a:CE) (as:List CE)
 |slt (a lo hi:CE)
inductive CS where
 |set (i:Nat) (e:CE)|ua (ts:List Nat) (e:CE)|par (ts:List Nat) (es:List CE)
 |app (i:Nat) (e:CE)|put (i:Nat) (k e:CE)|ins (i:Nat) (a e:CE)|jZ (j:Nat) (e:CE)
 |ret (e:CE)|iff (c:CE) (a b:List CS)|zG (c:CE) (b:List CS)
 |fr (ts:List Nat) (one:Bool) (it:CE) (b:List CS)
 |brk
 |C6 (i n:Nat) (e:CE)
 |C7 (e:CE)|VC (c:CE) (a b:List CS)|Tp (c:CE) (b:List CS)
 |Tq
 |MV (is:List Nat) (b:List CS)
 |Tr (ts:List Nat) (e:CE)
 |VD (e:CE)|Tt (i:Nat) (e:CE) (b:List CS)
def VF:W->W->(W->Prop)->Prop
 |.int i,.int j,Q=>Q (.int (i+j))
 |.lst a,.lst b,Q=>a.length+b.length<=sizeLine/\Q (.lst (a++b))
 |.tup a,.tup b,Q=>a≠[]/\a.length+b.length<=sizeLine/\Q (.tup (a++b))
 |_,_,_=>False
def VG:W->W->(W->Prop)->Prop
 |.int i,.int j,Q=>IntMulOk i j/\Q (.int (i*j))
 |.lst a,.int k,Q=> -(2^63)<=k/\k<2^63/\a.length*k.toNat<=sizeLine/\Q (.lst (B1 k.toNat a).flatten)
 |_,_,_=>False
def Xx(C:Int->Int->Prop)(g:Int->Int->Int):W->W->(W->Prop)->Prop
 |.int i,.int j,Q=>C i j/\Q (.int (g i j))
 |_,_,_=>False
def VH:W->W->(W->Prop)->Prop
 |.int i,.int j,Q=>Q (.int (i -j))
 |_,_,_=>False
def gE:Operator->W->W->(W->Prop)->Prop
 |.Add=>VF
 |.Sub=>VH
 |.Mult=>VG
 |.FloorDiv=>Xx kN λi j=>i.fdiv j
 |.Mod=>Xx (λ_ j=>j≠0) λi j=>i.fmod j
 |.Pow=>Xx IS λi j=>i^j.toNat
 |_=>λ_ _ _=>False
noncomputable def qE:Nat->W->Bool
 |_,.int _=>true
 |_,.cu=>true
 |n+1,.lst l=>l.all (qE n)
 |n+1,.tup l=>l.all (qE n)
 |_,_=>false
noncomputable def Iu:Nat->W->Bool
 |_,.bl _=>true
 |_,.cu=>true
 |n+1,.lst l=>l.all (Iu n)
 |n+1,.tup l=>l.all (Iu n)
 |_,_=>false
def Zd(a:Bool):W->W->(W->Prop)->Prop
 |.int i,.int j,Q=>Q (.bl (if a then !decide (i=j)else decide (i=j)))
 |.bl i,.bl j,Q=>Q (.bl (if a then !decide (i=j)else decide (i=j)))
 |x,y,Q=>((qE 9 x=true/\qE 9 y=true)\/(Iu 9 x=true/\Iu 9 y=true)\/(qE 60 x=true/\qE 60 y=true))/\∀b:Bool,(b=true↔x=y)->Q (.bl (if a then !b else b))
def FW(p:Int->Int->Bool):W->W->(W->Prop)->Prop
 |.int i,.int j,Q=>Q (.bl (p i j))
 |_,_,_=>False
def wLt:W->W->(W->Prop)->Prop
 |.int i,.int j,Q=>Q (.bl (decide (i<j)))
 |_,_,_=>False
def VI:W->W->(W->Prop)->Prop
 |.lst a,.lst b,Q=>∃(ns:List Int)(l:List (List Int)),a=ns.map W.int/\b=l.map (λm=>W.lst (m.map W.int))/\Q (.bl (!decide (ns∈l)))
 |_,_,_=>False
def dZ:CmpOp->W->W->(W->Prop)->Prop
 |.Eq=>Zd false
 |.NotEq=>Zd true
 |.Lt=>wLt
 |.LtE=>FW λi j=>decide (i<=j)
 |.Gt=>FW λi j=>decide (j<i)
 |.GtE=>FW λi j=>decide (j<=i)
 |.NotIn=>VI
 |_=>λ_ _ _=>False
def MW:CmpOp->W->W->(W->Prop)->Prop
 |.Lt=>FW λi j=>decide (i<j)
 |o=>dZ o
def O7:W->W->(W->Prop)->Prop
 |.lst l,.int i,Q=>∃w,jQ l i=some w/\Q w
 |.tup l,.int i,Q=>∃w,jQ l i=some w/\Q w
 |.jY ns,.int i,Q=>∃n,jQ ns i=some n/\Q (.int n)
 |_,_,_=>False
noncomputable def j3(l:List W)(lo hi:Option Int):List W:=(l.drop (HT.cV l.length 0 lo)).take (HT.cV l.length l.length hi -HT.cV l.length 0 lo)
noncomputable def iK:CE->Bool
 |.cu=>true
 |_=>false
def prI:W->(Option Int->Prop)->Prop
 |.int i,Q=>Q (some i)
 |_,_=>False
def DV(c:CE)(y:W)(Q:Option Int->Prop):Prop:=cond (iK c) (Q none) (prI y Q)
def Xy:W->Option Int->Option Int->(W->Prop)->Prop
 |.lst l,lo,hi,Q=>Q (.lst (j3 l lo hi))
 |.jY ns,lo,hi,Q=>Q (.lst (j3 (ns.map W.int) lo hi))
 |_,_,_,_=>False
def O8:W->Option Int->Option Int->(W->Prop)->Prop
 |.tup l,lo,hi,Q=>¬(HT.cV l.length 0 lo=0/\HT.cV l.length l.length hi=l.length)/\Q (.tup (j3 l lo hi))
 |_,_,_,_=>False
def vm:BI->List W->(W->Prop)->Prop
 |.len,[.lst l],Q=>Q (.int l.length)
 |.len,[.tup l],Q=>Q (.int l.length)
 |.len,[.jY ns],Q=>Q (.int ns.length)
 |.abs,[.int i],Q=>Q (.int (if i<0 then-i else i))
 |.max2,[.int i,.int j],Q=>Q (.int (if j>i then j else i))
 |.max2,[.lst l],Q=>∃ns:List Int,l=ns.map W.int/\ns≠[]/\∀m∈ns,(∀n∈ns,n<=m)->Q (.int m)
 |.min2,[.int i,.int j],Q=>Q (.int (if j<i then j else i))
 |.list,[.lst l],Q=>Q (.lst l)
 |.list,[.tup l],Q=>Q (.lst l)
 |.int,[.bl b],Q=>Q (.int (if b then 1 else 0))
 |.To,[.int i,.int j],Q=>(0<j/\j<1073741824)/\Q (.tup [.int (i/j),.int (i%j)])
 |_,_,_=>False
noncomputable def cI(a:Ev):List Nat->List W->Ev
 |i::c,w::b=>cI (a.set i (some w)) c b
 |_,_=>a
def wT(one:Bool)(a:List Nat)(w:W)(b:Ev)(Q:Ev->Prop):Prop:=
 match one,a,w with
 |true,[i],w=>Q (b.set i (some w))
 |false,a,.tup l=>l.length=a.length/\Q (cI b a l)
 |_,_,_=>False
noncomputable def iU(f:W->(Option W->Prop)->Prop):List W->List W->(List W->Prop)->Prop
 |[],acc,Q=>Q acc
 |w::a,acc,Q=>f w λr=>match r with
  |some y=>acc.length<sizeLine/\iU f a (acc++[y]) Q
  |none=>iU f a acc Q
def truth:W->(Bool->Prop)->Prop
 |.bl b,Q=>Q b
 |_,_=>False
def items:W->(List W->Prop)->Prop
 |.lst l,Q=>Q l
 |.tup l,Q=>Q l
 |_,_=>False
noncomputable def gF(lo st:Int)(n:Nat):List W:=(Bn n).map λ(i:Nat)=>W.int (lo+(i:Int)*st)
def vn:List W->(List W->Prop)->Prop
 |[.int j],Q=> -(2^62)<=j/\j<2^62/\Q (gF 0 1 j.toNat)
 |[.int i,.int j],Q=>(-(2^62)<=i/\i<2^62/\-(2^62)<=j/\j<2^62)/\Q (gF i 1 (j -i).toNat)
 |[.int i,.int j,.int k],Q=>∃n:Nat,(k≠0/\k.natAbs<1073741824/\Builtin.Range.small i j k=true/\Builtin.Range.rangeSize i j k=(n:Int))/\Q (gF i k n)
 |_,_=>False
noncomputable def f9(l:List W):List W:=List.zipWith (λ(i:Nat) w=>W.tup [.int i,w]) (Bn l.length) l
mutual
noncomputable def Iv:W->Bool
 |.cu=>true
 |.bl _=>true
 |.int _=>true
 |.str _=>true
 |.tup l=>FY l
 |_=>false
noncomputable def FY:List W->Bool
 |[]=>true
 |w::l=>Iv w&&FY l
end
mutual
noncomputable def flat:Md->W->Bool
 |.s,w=>Iv w
 |.f,.lst l=>FY l
 |_,_=>false
end
abbrev aV:=List W->(W->Prop)->(Addr->Prop)->Prop
noncomputable def O9:W->Bool
 |.cu|.bl _|.int _|.str _=>true
 |_=>false
section
variable(Φ:Nat->aV)(G:Nat->W)
mutual
def wE(R:Addr->Prop):CE->Ev->(W->Prop)->Prop
 |.var i,d,Q=>match look d i with
  |some w=>Q w
  |none=>False
 |.int i,_,Q=>Q (.int i)
 |.bl b,_,Q=>Q (.bl b)
 |.str x,_,Q=>Q (.str x)
 |.cu,_,Q=>Q .cu
 |.glob g,_,Q=>Q (G g)
 |.bin op a b,d,Q=>wE R a d λx=>wE R b d λy=>gE op x y Q
 |.neg a,d,Q=>wE R a d λx=>match x with
  |.int i=>Q (.int (-i))
  |_=>False
 |.not a,d,Q=>wE R a d λx=>truth x λb=>Q (.bl (!b))
 |.cmp op a b,d,Q=>wE R a d λx=>wE R b d λy=>dZ op x y Q
 |.and m,d,Q=>Cu R m d Q
 |.or m,d,Q=>SX R m d Q
 |.ite c a b,d,Q=>wE R c d λx=>truth x λk=>if k=true then wE R a d Q else wE R b d Q
 |.tup m,d,Q=>wA R m d λj=>j.length<=sizeLine/\Q (.tup j)
 |.lst m,d,Q=>wA R m d λj=>j.length<=sizeLine/\Q (.lst j)
 |.ix a i,d,Q=>wE R a d λx=>wE R i d λy=>O7 x y Q
 |.sl a lo hi,d,Q=>wE R a d λx=>wE R lo d λy=>DV lo y λl=>wE R hi d λz=>DV hi z λh=>Xy x l h Q
 |.call f m,d,Q=>wA R m d λj=>Φ f j Q R
 |.blt b m,d,Q=>wA R m d λj=>vm b j Q
 |.bits a,d,Q=>wE R a d λx=>match x with
  |.int i=>Q (.int (Builtin.Int.intBits i:Nat))
  |_=>False
 |.comp p one n q c e,d,Q=>wE R q d λz=>items z λj=>iU (λw K=>wT one p w (B1 n none++d) λo=>wE (λ_=>False) c o λx=>truth x λk=>if k=true then wE (λ_=>False) e o λy=>K (some y)else K none) j [] λl=>Q (.lst l)
 |.jN m,d,Q=>wA R m d λj=>vn j λl=>Q (.lst l)
 |.t9 a,d,Q=>wE R a d λx=>match x with
  |.lst l=>Q (.lst (f9 l))
  |_=>False
 |.rev a,d,Q=>wE R a d λx=>match x with
  |.lst l=>Q (.lst l.reverse)
  |_=>False
 |.pop _,_,_=>False
 |.own i π,d,Q=>match look d i with
  |some w=>match dQ w π with
   |some u=>Q u
   |none=>False
  |none=>False
 |.m6 _ _ _,_,_=>False
 |.BC _ a,d,Q=>wE R a d λw=>O9 w=true/\Q w
 |.DU _ _ _ _,_,_=>False
 |.O6 f a m,d,Q=>wE R a d λx=>wA R m d λj=>Φ f (x::j) (λr=>∃w y,r=.tup [w,y]/\Q w) R
 |.slt a lo hi,d,Q=>wE R a d λx=>wE R lo d λy=>DV lo y λl=>wE R hi d λz=>DV hi z λh=>O8 x l h Q
def wA(R:Addr->Prop):List CE->Ev->(List W->Prop)->Prop
 |[],_,Q=>Q []
 |a::d,b,Q=>wE R a b λx=>wA R d b λc=>Q (x::c)
def Cu(R:Addr->Prop):List CE->Ev->(W->Prop)->Prop
 |[],_,_=>False
 |a::e,c,Q=>match e with
  |[]=>wE R a c Q
  |b::d=>wE R a c λx=>truth x λk=>if k=true then Cu R (b::d) c Q else Q (.bl false)
def SX(R:Addr->Prop):List CE->Ev->(W->Prop)->Prop
 |[],_,_=>False
 |a::e,c,Q=>match e with
  |[]=>wE R a c Q
  |b::d=>wE R a c λx=>truth x λk=>if k=true then Q (.bl true)else SX R (b::d) c Q
end
structure Dn where
 nx:Ev->Prop
 rt:W->Prop
 bk:Ev->Prop
 ct:Ev->Prop
 ex:Addr->Prop
mutual
def wP(R:Addr->Prop):CE->Ev->(W->Ev->Prop)->Prop
 |.pop i,c,Q=>match look c i with
  |some (.lst l)=>∃w,l[l.length -1]?=some w/\Q w (c.set i (some (.lst l.dropLast)))
  |_=>False
 |.m6 i f h,c,Q=>match look c i with
  |some _=>ID R h c λj d=>match look d i with
   |some n=>Φ f (n::j) (λr=>∃w y,r=.tup [w,y]/\Q w (d.set i (some y))) R
   |none=>False
  |none=>False
 |.DU i g f h,c,Q=>match look c i with
  |some (.obj C _ _)=>G g=.cls C/\ID R h c λj d=>match look d i with
   |some n=>Φ f (n::j) (λr=>∃w y,r=.tup [w,y]/\Q w (d.set i (some y))) R
   |none=>False
  |_=>False
 |.bin op a b,c,Q=>wP R a c λx m=>wP R b m λy k=>gE op x y λz=>Q z k
 |.cmp op a b,c,Q=>wP R a c λx m=>wP R b m λy k=>dZ op x y λz=>Q z k
 |.call f h,c,Q=>ID R h c λj d=>Φ f j (λw=>Q w d) R
 |.blt b h,c,Q=>ID R h c λj d=>vm b j λw=>Q w d
 |.ix a b,c,Q=>wP R a c λx m=>wP R b m λy k=>O7 x y λz=>Q z k
 |.lst h,c,Q=>ID R h c λj d=>j.length<=sizeLine/\Q (.lst j) d
 |.tup h,c,Q=>ID R h c λj d=>j.length<=sizeLine/\Q (.tup j) d
 |.and h,c,Q=>Az R h c Q
 |.or h,c,Q=>IE R h c Q
 |e,c,Q=>wE Φ G R e c λw=>Q w c
def ID(R:Addr->Prop):List CE->Ev->(List W->Ev->Prop)->Prop
 |[],b,Q=>Q [] b
 |a::f,b,Q=>wP R a b λx e=>ID R f e λc d=>Q (x::c) d
def Az(R:Addr->Prop):List CE->Ev->(W->Ev->Prop)->Prop
 |[],_,_=>False
 |a::f,d,Q=>match f with
  |[]=>wP R a d Q
  |b::e=>wP R a d λx c=>truth x λk=>if k=true then Az R (b::e) c Q else Q (.bl false) c
def IE(R:Addr->Prop):List CE->Ev->(W->Ev->Prop)->Prop
 |[],_,_=>False
 |a::f,d,Q=>match f with
  |[]=>wP R a d Q
  |b::e=>wP R a d λx c=>truth x λk=>if k=true then Q (.bl true) c else IE R (b::e) c Q
end
noncomputable def g9(b:W->Dn->Ev->Prop)(D:Dn):List W->Ev->Prop
 |[],a=>D.nx a
 |w::c,a=>b w {nx:=g9 b D c,rt:=D.rt,bk:=D.nx,ct:=g9 b D c,ex:=D.ex} a
def VJ(c:Ev->(Bool->Ev->Prop)->Prop)(b:Dn->Ev->Prop)(D:Dn)(d:Ev):Prop:=
 ∃J:Nat->Ev->Prop,(∃m,J m d)/\∀m d,J m d->c d λk f=>if k=true then∃N:Ev->Prop,(∀a,N a->∃e,e<m/\J e a)/\b {nx:=N,rt:=D.rt,bk:=D.nx,ct:=N,ex:=D.ex} f else D.nx f
def FZ(c:Ev->(Bool->Prop)->Prop)(b:Dn->Ev->Prop)(D:Dn)(a:Ev):Prop:=
 ∃J:Nat->Ev->Prop,(∃m,J m a)/\∀m a,J m a->c a λk=>if k=true then∃N:Ev->Prop,(∀d,N d->∃e,e<m/\J e d)/\b {nx:=N,rt:=D.rt,bk:=D.nx,ct:=N,ex:=D.ex} a else D.nx a
mutual
def wS:CS->Dn->Ev->Prop
 |.set i e,D,d=>wE Φ G D.ex e d λw=>D.nx (d.set i (some w))
 |.ua g e,D,d=>wE Φ G D.ex e d λw=>match w with
  |.tup l=>l.length=g.length/\D.nx (cI d g l)
  |_=>False
 |.par g s,D,d=>wA Φ G D.ex s d λh=>h.length=g.length/\D.nx (cI d g h)
 |.app i e,D,d=>match look d i with
  |some (.lst l)=>wE Φ G D.ex e d λw=>l.length<sizeLine/\D.nx (d.set i (some (.lst (l++[w]))))
  |_=>False
 |.ins i a e,D,d=>match look d i with
  |some (.lst l)=>wE Φ G D.ex a d λx=>wE Φ G D.ex e d λw=>match x with
   |.int j=>(0<=j/\j<=(l.length:Int)/\l.length<sizeLine)/\D.nx (d.set i (some (.lst (l.take j.toNat++w::l.drop j.toNat))))
   |_=>False
  |_=>False
 |.put i k e,D,d=>wE Φ G D.ex e d λw=>match look d i with
  |some (.lst l)=>wE Φ G D.ex k d λx=>match x with
   |.int j=>∃n,wL l.length j=some n/\D.nx (d.set i (some (.lst (l.set n w))))
   |_=>False
  |_=>False
 |.jZ j e,D,d=>wP Φ G D.ex e d λw f=>D.nx (f.set j (some w))
 |.ret e,D,d=>wE Φ G D.ex e d D.rt
 |.iff c a b,D,d=>wE Φ G D.ex c d λx=>truth x λk=>if k=true then wSs a D d else wSs b D d
 |.zG c b,D,d=>FZ (λd Q=>wE Φ G D.ex c d λx=>truth x Q) (wSs b) D d
 |.fr g one q b,D,d=>wE Φ G D.ex q d λz=>items z λh=>g9 (λw p f=>wT one g w f λo=>wSs b p o) D h d
 |.Tt i e b,D,d=>wP Φ G D.ex e d λx f=>vn [x] λh=>g9 (λw p f=>wT true [i] w f λo=>wSs b p o) D h f
 |.brk,D,d=>D.bk d
 |.C6 i n e,D,d=>wE Φ G D.ex e d λw=>match look d i with
  |some (.obj C r h)=>n<h.length/\D.nx (d.set i (some (.obj C r (h.set n w))))
  |_=>False
 |.C7 e,D,d=>wE Φ G D.ex e d λw=>match look d 0 with
  |some m=>D.rt (.tup [w,m])
  |none=>False
 |.VC c a b,D,d=>wP Φ G D.ex c d λx f=>truth x λk=>if k=true then wSs a D f else wSs b D f
 |.Tp c b,D,d=>VJ (λd Q=>wP Φ G D.ex c d λx f=>truth x λk=>Q k f) (wSs b) D d
 |.Tq,_,_=>False
 |.Tr g e,D,d=>wP Φ G D.ex e d λw f=>match w with
  |.tup l=>l.length=g.length/\D.nx (cI f g l)
  |_=>False
 |.VD e,D,d=>wP Φ G D.ex e d λw f=>match look f 0 with
  |some m=>D.rt (.tup [w,m])
  |none=>False
 |.MV _ b,D,d=>wSs b {D with nx:=λ_=>False,bk:=λ_=>False,ct:=λ_=>False} d
def wSs:List CS->Dn->Ev->Prop
 |[],D,a=>D.nx a
 |s::c,D,a=>match c with
  |[]=>wS s D a
  |t::b=>wS s {D with nx:=wSs (t::b) D} a
end
end
def bu(K:Frag)(B:Addr->Prop)(H:Hp)(w:W)(v:V):Prop:=
 match w with
 |.lst l=>∃p a,v=.ref p/\Rz H p (.lst a)/\ak K B H l a
 |w=>Rep K B H w v
section
variable{K:Frag}{A B:Addr->Prop}{H H':Hp}{w:W}{v:V}
theorem Rep.b(h:Rep K B H w v):bu K B H w v:=by
 cases w with
 |lst l=>obtain⟨p,a,e,_,d,c⟩:=h;exact⟨p,a,e,d,c⟩
 |_=>exact h
theorem bu.same(s:aE H H')(h:bu K B H w v):bu K B H' w v:=by
 cases w with
 |lst l=>obtain⟨p,a,e,c,b⟩:=h;exact⟨p,a,e,VL.aE.rz s c,b.same s⟩
 |_=>exact Rep.same s h
theorem bu.lst{l:List W}(h:bu K B H (.lst l) v):∃p vs,v=.ref p/\Rz H p (.lst vs)/\ak K B H l vs:=h
theorem bu.Ze(h:bu K B H (.tup l) v):∃p vs,v=.ref p/\H p=some (.tup vs)/\ak K B H l vs:=by have h:Rep K B H (.tup l) v:=h;dsimp only[Rep]at h;exact h
theorem bu.tup{l:List W}(h:bu K B H (.tup l) v):∃p vs,v=.ref p/\mP K H p vs/\ak K B H l vs:=by have h:Rep K B H (.tup l) v:=h;obtain⟨p,vs,e,b,a⟩:=h;exact⟨p,vs,e,mP.of b,a⟩
theorem bu.int(h:bu K B H (.int i) v):v=.int i:=by have h:Rep K B H (.int i) v:=h;dsimp only[Rep]at h;exact h
theorem bu.bl(h:bu K B H (.bl i) v):v=.bl i:=by have h:Rep K B H (.bl i) v:=h;dsimp only[Rep]at h;exact h
theorem bu.str(h:bu K B H (.str i) v):v=.str i:=by have h:Rep K B H (.str i) v:=h;dsimp only[Rep]at h;exact h
theorem bu.cu(h:bu K B H .cu v):v=.cu:=by have h:Rep K B H .cu v:=h;dsimp only[Rep]at h;exact h
theorem bu.ty(h:bu K B H (.ty n) v):v=.ty n:=by have h:Rep K B H (.ty n) v:=h;dsimp only[Rep]at h;exact h
theorem f6(i:Int):Rep K B H (.int i) (.int i):=by dsimp only[Rep]
theorem Iw(i:Bool):Rep K B H (.bl i) (.bl i):=by dsimp only[Rep]
theorem Zf(i:Str):Rep K B H (.str i) (.str i):=by dsimp only[Rep]
theorem VM:Rep K B H .cu .cu:=by dsimp only[Rep]
theorem zH(b:H p=some (.tup vs))(a:ak K B H l vs):Rep K B H (.tup l) (.ref p):=by dsimp only[Rep];exact⟨p,vs,rfl,b,a⟩
end
abbrev KP:=W->Prop
def Cont(K:Frag)(B:Addr->Prop)(H:Hp)(m:Md)(P:KP)(Q:VK):Prop:=∀w v a,P w->aE H a->di K B H a m w v->Q v a
theorem Cont.now{K:Frag}(c:Cont K B H .s P Q){v:V}(p:P w)(h:Rep K B H w v):Q v H:=c w v H p (aE.refl H) (.of h)
theorem Cont.s{K:Frag}(d:Dom B H)(c:Cont K B H .s P Q):Cont K B H m P Q:=λw v b p a h=>c w v b p a (h.s d)
def Iz(X:Cx)(f:Value->Value->Sem Value)(r:W->W->KP->Prop)(m:W->W->Md):Prop:=
 ∀(a:List (Addr×Obj))(s:Shared)(b:St)(H:Hp)(B:Addr->Prop)(x y:W)(d c:V)(v u:Value)(P:KP)(Q:VK),Inv X a b H s->Dom B H->RelV d v->RelV c u->bu X.K B H x d->bu X.K B H y c->r x y P->Cont X.K B H (m x y) P Q->
  wpAny (model X.prog X.w) X.A (f v u) (EP X a b Q) X.xe s
section
variable{X:Cx}
theorem JV:rZ X (binaryOp .Add) (λx y H Q=>∃l b f d,x=.ref l/\y=.ref b/\Rd H l (.lst f)/\Rd H b (.lst d)/\f.length+d.length<=sizeLine/\∀p,H p=none->Q (.ref p) (upd H p (.lst (f++d)))):=by
 intro i s B H x y v u Q I k j h;obtain⟨l,b,f,d,rfl,rfl,o,t,hz,q⟩:=h;cases k;cases j;obtain⟨z,c,n,r,e⟩:=o.ok I.hok;obtain⟨C,a,D,g,A⟩:=t.ok I.hok;have E:=r.length;have m:=g.length;refine PySem.P.add_list e A ?_ (by rw[Hk,Hk];lia);have w:c.toArray++a.toArray=(c++a).toArray:=by simp
 rw[w];exact⟨.ref _,_,I.US (t':=s.toks) (r.append g) (by rw[KB];lia),rfl,q _ I.fresh⟩
theorem JW:rZ X (binaryOp .Mult) (λx y H Q=>∃l k i,x=.ref l/\y=.int k/\Rd H l (.lst i)/\-(2^63)<=k/\k<2^63/\i.length*k.toNat<=sizeLine/\∀p,H p=none->Q (.ref p) (upd H p (.lst (B1 k.toNat i).flatten))):=by
 intro w s M H x y v u Q I C B h;obtain⟨l,k,i,rfl,rfl,E,J,G,hz,q⟩:=h;cases C;obtain⟨t,rfl⟩:=B;obtain⟨z,b,n,r,e⟩:=E.ok I.hok;have D:=r.length;have d:b.toArray.size*k.toNat<=sizeLine:=by rw[Hk,<-D];exact hz
 have g:¬b.toArray.size*k.toNat>(2^63 -1)/8:=by
  have:(sizeLine:Nat)<=(2^63 -1)/8:=by decide
  lia
 have f:¬(!Builtin.List.listFitsIndex k)=true:=by rw[fitsIndex_both J G];exact PQ
 have L:¬Builtin.List.listTooLong (b.toArray.size*k.toNat)=true:=by rw[EA d];exact PQ
 have c:bb (λo j=>o++j) #[] (B1 (if b.toArray.isEmpty=true then 0 else k.toNat) b.toArray)=(B1 k.toNat b).flatten.toArray:=by
  have K:∀m:Nat,bb (λo j=>o++j) #[] (B1 m b.toArray)=(B1 m b).flatten.toArray:=λm=>by have:=foldl_rep b m [];rw[C0]at this;exact this
  rw[K];cases b with
  |nil=>simp
  |cons a N=>rw[Bz (by simp)]
 refine wpAny_binaryOp_repeat_ref (T:="list") (U:="int") (by decide) ⟨_,e,rfl⟩ (λA=>typeIs_int A k t) noFill_list_mul F.fills_int_mul F.slot_int_rmul repeat_list F.slot_int_index.lookup
  (call_meets F.slot_int_rmul (typeIs_int s k t) F.entry_int_rmul (F.args_int_rmul_2 _ _) (int___rmul___int_list k t l b.toArray n)
    ⟨e,rfl,⟨_,e,rfl⟩,call_meets F.slot_list_mul ⟨_,e,rfl⟩ F.entry_list_mul (F.args_list_mul_2 _ _) (AutoListH.list___mul___list_int_3 l b.toArray n k t f g L) ⟨e,?_⟩⟩)
 rw[c];exact⟨.ref _,_,I.US (t':=s.toks) (r.rep k.toNat) (by rw[len_rep,ag];exact hz),rfl,q _ I.fresh⟩
noncomputable def JX:W->W->Md
 |.lst _,_=>.f
 |_,_=>.s
theorem Pa:Iz X (binaryOp .Add) VF JX:=by
 intro f s o H B x y M L v u P Q I d A w E D h c;cases x with
 |int i=>
  cases y with
  |int j=>
   cases E.int;cases D.int;exact N3 f s o H _ _ v u Q I A w ⟨i,j,rfl,rfl,c.now h (f6 _)⟩
  |_=>exact h.elim
 |lst a=>
  cases y with
  |lst b=>obtain⟨p,n,rfl,J,g⟩:=E.lst;obtain⟨q,t,rfl,C,k⟩:=D.lst;obtain⟨G,h⟩:=h;refine JV f s o H _ _ v u Q I A w ⟨p,q,n,t,rfl,rfl,J.rd,C.rd,by rw[g.len,k.len];exact G,λr l=>?_⟩;exact c _ _ _ h (aU l _) (.fresh (aE.refl H) l (g.app k))
  |_=>exact h.elim
 |tup a=>
  cases y with
  |tup b=>
   obtain⟨p,n,rfl,m,g⟩:=E.Ze;have J:mP X.K H p n:=mP.of m;obtain⟨q,t,rfl,C,k⟩:=D.tup;obtain⟨F,G,h⟩:=h;refine Jb f s o H _ _ v u Q I A w ⟨p,q,n,t,rfl,rfl,J,C,λz=>F ?_,by rw[g.len,k.len];exact G,λz=>?_,λ_ r l=>?_⟩
   .have:=g.len;rw[z]at this;exact Oy.mp this.symm
   .have:=k.len;rw[z]at this;have e:b=[]:=Oy.mp this.symm;subst e;rw[ik]at h;exact c.now h (zH m g)
   .exact c _ _ _ h (aU l _) (.of (zH aJ ((g.app k).same (aU l _))))
  |_=>exact h.elim
 |_=>exact h.elim
theorem Pb:Iz X (binaryOp .Mult) VG JX:=by
 intro b s e H B x y D C v u P Q I d g f m l h c;cases x with
 |int i=>
  cases y with
  |int j=>
   cases m.int;cases l.int;exact Jh b s e H _ _ v u Q I g f ⟨i,j,rfl,rfl,h.1,c.now h.2 (f6 _)⟩
  |_=>exact h.elim
 |lst a=>
  cases y with
  |int k=>obtain⟨p,q,rfl,A,o⟩:=m.lst;cases l.int;obtain⟨w,t,z,h⟩:=h;refine JW b s e H _ _ v u Q I g f ⟨p,k,q,rfl,rfl,A.rd,w,t,by rw[o.len];exact z,λr n=>?_⟩;exact c _ _ _ h (aU n _) (.fresh (aE.refl H) n (o.rep _))
  |_=>exact h.elim
 |_=>exact h.elim
noncomputable def mS:W->W->Md:=λ_ _=>.s
theorem Pd:Iz X (binaryOp .Sub) VH mS:=by
 intro a s b H B x y m l v u P Q I d f e k g h c;cases x with
 |int i=>
  cases y with
  |int j=>
   cases k.int;cases g.int;exact N4 a s b H _ _ v u Q I f e ⟨i,j,rfl,rfl,c.now h (f6 _)⟩
  |_=>exact h.elim
 |_=>exact h.elim
theorem F3(n:rZ X f (rI C λi j=>.int (g i j))):Iz X f (Xx C g) mS:=by
 intro a s b H B x y p o v u P Q I d k e m l h c;cases x with
 |int i=>
  cases y with
  |int j=>
   cases m.int;cases l.int;exact n a s b H _ _ v u Q I k e ⟨i,j,rfl,rfl,h.1,c.now h.2 (f6 _)⟩
  |_=>exact h.elim
 |_=>exact h.elim
noncomputable def JY:Operator->W->W->Md
 |.Add=>JX
 |.Mult=>JX
 |_=>mS
theorem zI(op:Operator):Iz X (binaryOp op) (gE op) (JY op):=by
 cases op with
 |Add=>exact Pa
 |Sub=>exact Pd
 |Mult=>exact Pb
 |FloorDiv=>exact F3 EG
 |Mod=>exact F3 IT
 |Pow=>exact F3 N5
 |_=>exact λa s b H B x y f e v u P Q I d i g k j h c=>h.elim
theorem vo(m:rZ X f (IP λi j=>.bl (p i j))):Iz X f (FW p) mS:=by
 intro a s b H B x y o n v u P Q I d g e l k h c;cases x with
 |int i=>
  cases y with
  |int j=>
   cases l.int;cases k.int;exact m a s b H _ _ v u Q I g e ⟨i,j,rfl,rfl,c.now h (Iw _)⟩
  |_=>exact h.elim
 |_=>exact h.elim
end
mutual
noncomputable def toD:W->PyData
 |.cu=>.none
 |.bl b=>.bool b
 |.int i=>.int i
 |.lst l=>.list (toDL l)
 |.tup l=>.tuple (toDL l)
 |_=>.none
noncomputable def toDL:List W->List PyData
 |[]=>[]
 |w::l=>toD w::toDL l
end
mutual
noncomputable def zJ:W->Bool
 |.cu=>true
 |.bl _=>true
 |.int _=>true
 |.lst l=>sD l
 |.tup l=>sD l
 |_=>false
noncomputable def sD:List W->Bool
 |[]=>true
 |w::l=>zJ w&&sD l
end
section
variable{X:Cx}{B:Addr->Prop}{H:Hp}
mutual
theorem VO(w:W)(d:zJ w=true)(h:Rep X.K B H w v):Dt X H v (toD w):=by
 cases w with
 |cu=>obtain rfl:=h;exact Ou
 |bl b=>obtain rfl:=h;exact U1 b
 |int i=>obtain rfl:=h;exact Ot i
 |lst l=>obtain⟨p,e,rfl,_,c,a⟩:=h;exact ES (.inl c.rd) (BD l d a)
 |tup l=>obtain⟨p,e,rfl,c,a⟩:=h;exact Ov (mP.of c) (BD l d a)
 |_=>exact ff d
theorem BD:∀(l:List W){vs:List V},sD l=true->ak X.K B H l vs->Paired (Dt X H) vs (toDL l)
 |[],vs,_,h=>by rw[h.nil_inv];exact .nil
 |w::l,vs,d,h=>by obtain⟨v,r,rfl,b,a⟩:=h.cons_inv;have d:=Pt.mp d;exact .cons (VO w d.1 b) (BD l d.2 a)
end
theorem JZ(d:zJ w=true)(h:bu X.K B H w v):Dt X H v (toD w):=by
 cases w with
 |lst l=>obtain⟨p,c,rfl,b,a⟩:=h.lst;exact ES (.inl b.rd) (BD l d a)
 |_=>exact VO (B:=B) _ d h
end
mutual
theorem toD_lay(w:W)(d:zJ w=true):(toD w).canLay0=true:=by
 cases w with
 |lst l=>exact toDL_lay l d
 |tup l=>exact toDL_lay l d
 |_=>rfl
theorem toDL_lay:∀l:List W,sD l=true->PyData.canLayAll0 (toDL l)=true
 |[],_=>rfl
 |w::l,d=>by have d:=Pt.mp d;exact Pt.mpr ⟨toD_lay w d.1,toDL_lay l d.2⟩
end
mutual
theorem toD_inj(x y:W)(d:zJ x=true)(e:zJ y=true)(h:same (toD x) (toD y)=true):x=y:=by
 cases x<;>first|exact ff d|(cases y<;>first|rfl|exact ff e|exact ff h|exact SU _ (eq_of_beq h)|exact SU _ (toDL_inj _ _ d e h))
theorem toDL_inj:∀x y:List W,sD x=true->sD y=true->sameAll (toDL x) (toDL y)=true->x=y
 |[],[],_,_,_=>rfl
 |[],_::_,_,_,h=>ff h
 |_::_,[],_,_,h=>ff h
 |x::b,y::a,d,e,h=>by have d:=Pt.mp d;have e:=Pt.mp e;have h:=Pt.mp h;rw[toD_inj x y d.1 e.1 h.1,toDL_inj b a d.2 e.2 h.2]
end
mutual
theorem toD_refl(x:W)(d:zJ x=true):same (toD x) (toD x)=true:=by
 cases x<;>first|rfl|exact ff d|exact t5 _|exact toDL_refl _ d
theorem toDL_refl:∀x:List W,sD x=true->sameAll (toDL x) (toDL x)=true
 |[],_=>rfl
 |x::a,d=>by have d:=Pt.mp d;exact Pt.mpr ⟨toD_refl x d.1,toDL_refl a d.2⟩
end
theorem toD_same(x y:W)(d:zJ x=true)(e:zJ y=true):same (toD x) (toD y)=true↔x=y:=⟨toD_inj x y d e,by rintro rfl;exact toD_refl x d⟩
theorem toDL_map:∀l:List W,toDL l=l.map toD
 |[]=>rfl
 |w::l=>SU (toD w::·) (toDL_map l)
theorem xU:∀l:List W,sD l=l.all zJ
 |[]=>rfl
 |w::l=>SU (zJ w&&·) (xU l)
theorem zK(n:Nat)(w:W)(h:qE n w=true\/Iu n w=true):zJ w=true/\(toD w).depth<=n+1:=by
 have go:∀m l,n=m+1->(l.all (qE m)=true\/l.all (Iu m)=true)->sD l=true/\∀x∈toDL l,x.depth<=m+1:=λm l hm h=>by have h1:∀w∈l,zJ w=true/\(toD w).depth<=m+1:=λw hw=>zK m w (h.imp (λh=>T2.mp h w hw) λh=>T2.mp h w hw);refine⟨(xU l).trans (T2.mpr λw hw=>(h1 w hw).1),λx hx=>?_⟩;rw[toDL_map]at hx;obtain⟨w,hw,rfl⟩:=OF.mp hx;exact(h1 w hw).2
 cases w with
 |cu=>exact⟨rfl,Os _⟩
 |bl b=>exact⟨rfl,Os _⟩
 |int b=>exact⟨rfl,Os _⟩
 |lst l=>
  cases n with
  |zero=>exact h.elim ff ff
  |succ m=>exact(go m l rfl h).imp id λz=>S2 (xu z)
 |tup l=>
  cases n with
  |zero=>exact h.elim ff ff
  |succ m=>exact(go m l rfl h).imp id λz=>S2 (xu z)
 |_=>cases n<;>exact h.elim ff ff
termination_by n
decreasing_by omega
inductive zL(b:Bool):PyData->Prop where
 |none:zL b .none
 |bool (x:Bool) (h:b=true):zL b (.bool x)
 |int (x:Int) (h:b=false):zL b (.int x)
 |list {l:List PyData} (h:∀x∈l,zL b x):zL b (.list l)
 |tuple {l:List PyData} (h:∀x∈l,zL b x):zL b (.tuple l)
mutual
theorem oN(d e:PyData)(h:zL b d)(k:zL b e):SeqAt.noMix d e=true:=by
 cases d<;>cases e<;>first
  |(simp[SeqAt.noMix];done)
  |(cases h;done)
  |(cases h with|list h=>cases k with|list k=>rw[SeqAt.noMix];exact qF _ _ h k)
  |(cases h with|tuple h=>cases k with|tuple k=>rw[SeqAt.noMix];exact qF _ _ h k)
  |(cases h with|bool _ h=>cases k with|int _ k=>rw[h]at k;cases k)
  |(cases h with|int _ h=>cases k with|bool _ k=>rw[h]at k;exact ff k)
theorem qF:∀c a:List PyData,(∀x∈c,zL b x)->(∀y∈a,zL b y)->SeqAt.noMixAll c a=true
 |[],[],_,_=>by simp[SeqAt.noMixAll]
 |[],_::_,_,_=>by simp[SeqAt.noMixAll]
 |_::_,[],_,_=>by simp[SeqAt.noMixAll]
 |x::c,y::a,h,k=>by rw[SeqAt.noMixAll,oN x y (h x FS) (k y FS),qF c a (λz hz=>h z (FM _ hz)) λz hz=>k z (FM _ hz)];rfl
end
theorem qG(n:Nat)(w:W)(h:qE n w=true):zL false (toD w):=by
 have go:∀m l,n=m+1->l.all (qE m)=true->∀x∈toDL l,zL false x:=λm l hm h x hx=>by rw[toDL_map]at hx;obtain⟨w,hw,rfl⟩:=OF.mp hx;exact qG m w (T2.mp h w hw)
 cases w with
 |cu=>exact .none
 |int i=>exact .int i rfl
 |lst l=>
  cases n with
  |zero=>exact ff h
  |succ m=>exact .list (go m l rfl h)
 |tup l=>
  cases n with
  |zero=>exact ff h
  |succ m=>exact .tuple (go m l rfl h)
 |_=>cases n<;>exact ff h
termination_by n
decreasing_by omega
theorem zM(n:Nat)(w:W)(h:Iu n w=true):zL true (toD w):=by
 have go:∀m l,n=m+1->l.all (Iu m)=true->∀x∈toDL l,zL true x:=λm l hm h x hx=>by rw[toDL_map]at hx;obtain⟨w,hw,rfl⟩:=OF.mp hx;exact zM m w (T2.mp h w hw)
 cases w with
 |cu=>exact .none
 |bl i=>exact .bool i rfl
 |lst l=>
  cases n with
  |zero=>exact ff h
  |succ m=>exact .list (go m l rfl h)
 |tup l=>
  cases n with
  |zero=>exact ff h
  |succ m=>exact .tuple (go m l rfl h)
 |_=>cases n<;>exact ff h
termination_by n
decreasing_by omega
section
variable{X:Cx}
theorem zN(E:X.A.units+64<cLine)(j:Bool){i:St}{m l:V}{v u:Value}{P:KP}{Q:VK}(I:Inv X a i H s)(r:RelV m v)(p:RelV l u)(D:bu X.K B H x m)(C:bu X.K B H y l)
 (h:((qE 9 x=true/\qE 9 y=true)\/(Iu 9 x=true/\Iu 9 y=true)\/(qE 60 x=true/\qE 60 y=true))/\∀b:Bool,(b=true↔x=y)->P (.bl (if j then !b else b)))(c:Cont X.K B H .s P Q):
 wpAny (model X.prog X.w) X.A (compareOp (if j then .NotEq else .Eq) v u) (EP X a i Q) X.xe s:=by
 obtain⟨k,h⟩:=h;have g:zJ x=true/\(toD x).depth<=61:=by
  rcases k with h|h|h
  .exact(zK 9 x (.inl h.1)).imp id λz=>Do z (by decide)
  .exact(zK 9 x (.inr h.1)).imp id λz=>Do z (by decide)
  .exact zK 60 x (.inl h.1)
 have f:zJ y=true/\(toD y).depth<=61:=by
  rcases k with h|h|h
  .exact(zK 9 y (.inl h.2)).imp id λz=>Do z (by decide)
  .exact(zK 9 y (.inr h.2)).imp id λz=>Do z (by decide)
  .exact zK 60 y (.inl h.2)
 have o:SeqAt.shaped (toD x)=true:=by unfold SeqAt.shaped;rw[toD_lay x g.1,Fn (Do g.2 (by decide))];rfl
 have n:SeqAt.shaped (toD y)=true:=by unfold SeqAt.shaped;rw[toD_lay y f.1,Fn (Do f.2 (by decide))];rfl
 have t:SeqAt.noMix (toD x) (toD y)=true:=by
  rcases k with⟨e,d⟩|⟨e,d⟩|⟨e,d⟩
  .exact oN _ _ (qG 9 x e) (qG 9 y d)
  .exact oN _ _ (zM 9 x e) (zM 9 y d)
  .exact oN _ _ (qG 60 x e) (qG 60 y d)
 have q:=h (same (toD x) (toD y)) (toD_same x y g.1 f.1);cases j with
 |true=>exact Ox E a s i H _ _ v u Q I r p ⟨_,_,JZ g.1 D,JZ f.1 C,⟨o,n,t⟩,c.now q (Iw _)⟩
 |false=>exact Ow E a s i H _ _ v u Q I r p ⟨_,_,JZ g.1 D,JZ f.1 C,⟨o,n,t⟩,c.now q (Iw _)⟩
theorem MX(p:X.A.units+64<cLine)(f:Bool):Iz X (compareOp (if f then .NotEq else .Eq)) (Zd f) mS:=by
 intro e s o H B x y E D v u P Q I d l g n m h c;have sc:∀a b:V,N7 a b=true->(∀k:Bool,k=decide (a=b)->Q (.bl (if f then !k else k)) H)->RelV a v->RelV b u->wpAny (model X.prog X.w) X.A (compareOp (if f then .NotEq else .Eq) v u) (EP X e o Q) X.xe s:=λa b C q z t=>by
  cases f with
  |true=>exact UC e s o H _ _ v u Q I z t ⟨C,q _ rfl⟩
  |false=>exact UB e s o H _ _ v u Q I z t ⟨C,q _ rfl⟩
 cases x with
 |int i=>
  cases y with
  |int j=>
   cases n.int;cases m.int;refine sc _ _ rfl (λk r=>c.now (w:=.bl (if f then !k else k)) ?_ (Iw _)) l g;rw[r,show decide (V.int i=V.int j)=decide (i=j)from by simp];exact h
  |_=>exact zN p f I l g n m h c
 |bl i=>
  cases y with
  |bl j=>
   cases n.bl;cases m.bl;refine sc _ _ rfl (λk r=>c.now (w:=.bl (if f then !k else k)) ?_ (Iw _)) l g;rw[r,show decide (V.bl i=V.bl j)=decide (i=j)from by simp];exact h
  |_=>exact zN p f I l g n m h c
 |_=>exact zN p f I l g n m h c
theorem qH{K:Frag}:∀{l:List Int}{vs:List V},ak K A H (l.map W.int) vs->vs=l.map V.int
 |[],_,h=>h.nil_inv
 |i::l,vs,h=>by obtain⟨x,r,rfl,b,a⟩:=h.cons_inv;rw[qH a];have:x=.int i:=b;rw[this];rfl
theorem VQ(n:X.A.units+64<cLine):Iz X (compareOp .Lt) wLt mS:=by
 intro a s b H B x y f e v u P Q I d k g m l h c;cases x with
 |int i=>
  cases y with
  |int j=>exact vo (p:=λi j=>decide (i<j)) UD a s b H B (.int i) (.int j) f e v u P Q I d k g m l h c
  |_=>exact h.elim
 |_=>exact h.elim
theorem xV{j:St}(I:Inv X a j H s):∀{l:List (List Int)}{vs:List V}{us:List Value},ak X.K B H (l.map λm=>W.lst (m.map W.int)) vs->Vals vs us->∃F:List Value->Prop,∀ns:List Int,∀e:Value->Bool,(∀(q:Addr)(items:Array Value)(ms:List Int),s.heap.IsList q items->IntsAre items.toList ms->e (.ref q)=decide (ms=ns))->(us.any e=decide (ns∈l))/\∀u∈us,∃q items ms,u=.ref q/\s.heap.IsList q items/\IntsAre items.toList ms
 |[],vs,us,h,r=>by obtain rfl:=h.nil_inv;cases r;exact⟨λ_=>True,λns e _=>⟨rfl,λu c=>by cases c⟩⟩
 |m::l,vs,us,h,r=>by
  obtain⟨v,J,rfl,E,D⟩:=h.cons_inv;cases r with
  |cons n o=>
  obtain⟨_,w⟩:=xV I D o;obtain⟨p,k,rfl,_,i,C⟩:=E;rw[qH C]at i;obtain⟨b,t,d,_⟩:=I.list (.inl i.rd);cases n;refine⟨λ_=>True,λns e g=>?_⟩;obtain⟨A,x⟩:=w ns e g;have f:=intsAre_of t;have G:=g p b.toArray m d.isList f;refine⟨?_,λu c=>?_⟩
  .rw[List.any_cons,G,A];by_cases q:m=ns
   .rw[Fn q,Fn (show ns∈m::l by rw[q];exact FS)];rfl
   .rw[IR q,Bool.false_or];exact y4.mpr ⟨FM _,λz=>(IH.mp z).resolve_left λy=>q y.symm⟩
  .rcases IH.mp c with rfl|c
   .exact⟨p,b.toArray,m,rfl,d.isList,f⟩
   .exact x u c
open Classical in
theorem Pe(hu:X.A.units+64<cLine):Iz X (compareOp .NotIn) VI mS:=by
 intro C s σ H B x y vx vy v u P Q I d N M Z Y h c;cases x<;>try exact h.elim
 cases y<;>try exact h.elim
 obtain⟨t,l,rfl,rfl,h⟩:=h;obtain⟨p,vs,rfl,E,h2⟩:=Z.lst;obtain⟨p',K,rfl,h3,h4⟩:=Y.lst;rw[qH h2]at E;obtain⟨U,r,R,_⟩:=I.list (.inl E.rd);obtain⟨a,O,Xz,_⟩:=I.list (.inl h3.rd);cases N;cases M;have hi:=intsAre_of r;have L:X.A.in1.units<cLine:=by show X.A.units+1<_;lia
 let e:Value->Bool:=λw=>decide (∃q items,w=.ref q/\s.heap.IsList q items/\IntsAre items.toList t)
 have D:∀(q:Addr)(items:Array Value)(b:List Int),s.heap.IsList q items->IntsAre items.toList b->e (.ref q)=decide (b=t):=λq items b j i=>by refine y4.mpr ⟨λ⟨q2,m,J,G,F⟩=>?_,λz=>⟨q,items,rfl,j,by rw[<-z];exact i⟩⟩;cases J;obtain⟨o,ho,_,n,hd⟩:=j;obtain⟨o',f,_,n',g⟩:=G;rw[ho]at f;cases f;rw[hd]at g;cases g;exact qC i F
 obtain⟨_,k⟩:=xV I h4 O;obtain⟨T,S⟩:=k t e D;refine SeqAt.notIn_listAt e Xz.isList (λw hw=>?_) ⟨.bl _,H,I,rfl,?_⟩
 .obtain⟨q,items,b,rfl,j,i⟩:=S w (by simpa using hw);rw[D q items b j i];exact FU j R.isList i hi L
 .rw[show a.toArray.any e=a.any e by simp,T];exact c.now h (Iw _)
theorem vp(a:X.A.units+64<cLine)(op:CmpOp):Iz X (compareOp op) (dZ op) mS:=by
 cases op with
 |Eq=>exact MX a false
 |NotEq=>exact MX a true
 |Lt=>exact VQ a
 |LtE=>exact vo UE
 |Gt=>exact vo UG
 |GtE=>exact vo UH
 |NotIn=>exact Pe a
 |_=>exact λb s e H B x y g f v u P Q I d j i l k h c=>h.elim
end
def ER(X:Cx)(b:Hp)(R:Addr->Prop):Prop:=∃E:XK,Passes (jB X.prog X.w) X E/\(∀C a,R C->aE b a->E (.ref C) none a)/\EK X (λC a=>R C/\aE b a)
theorem C8:Passes (jB X.prog X.w) X E0:=λ_ _ _ _ _ _ _ h=>by obtain⟨_,_,_,_,_,q⟩:=h;exact q.elim
theorem ER.none:ER X a λ_=>False:=⟨E0,C8,λ_ _ z=>z.elim,λ_ _ _ _ _ _ _ _ _ _ z=>z.1.elim⟩
theorem ER.up(s:aE d H1)(h:ER X d R):ER X H1 R:=by obtain⟨E,p,l,k⟩:=h;exact⟨E,p,λC n i g=>l C n i (s.trans g),λb e H f m a C c I j q=>k b e H f m a C c I j ⟨q.1,s.trans q.2⟩⟩
abbrev RL:=(Addr->Prop)->Hp->Hp->W->V->Prop
abbrev WT:=Ev->(W->Prop)->Prop
def Pf(K:Frag)(m:Md):RL:=λB H a w v=>di K B H a m w v
def ρB(K:Frag):RL:=λB _ a w v=>bu K B a w v
def tV(X:Cx)(M:Ms)(R:Addr->Prop)(e:RL)(t:WT):TE:=λb H Q=>∃A d c P,SR X.K M A d b H c/\ER X d R/\t c P/\∀w v a,P w->aE H a->e (FB A M b) H a w v->Q v a
def tVT(X:Cx)(M:Ms)(R:Addr->Prop)(t:WT):TT:=λe H Q=>∃A c a P,SR X.K M A c e H a/\ER X c R/\t a P/\∀x d,P x->aE H d->∃b,x=.bl b/\Q b d
abbrev Zg:=(Addr->Prop)->Hp->List W->List V->Prop
def tVA(X:Cx)(M:Ms)(R:Addr->Prop)(g:Zg)(t:Ev->(List W->Prop)->Prop):TA:=λb H Q=>∃A f c P,SR X.K M A f b H c/\ER X f R/\t c P/\∀d e a,P d->aE H a->g (FB A M b) a d e->Q e a
abbrev VE(X:Cx)(M:Ms)(R:Addr->Prop)(m:Md)(e:Expr)(t:WT):Prop:=PE X e (tV X M R (Pf X.K m) t)
abbrev VB(X:Cx)(M:Ms)(R:Addr->Prop)(e:Expr)(t:WT):Prop:=PE X e (tV X M R (ρB X.K) t)
abbrev VT(X:Cx)(M:Ms)(R:Addr->Prop)(e:Expr)(t:WT):Prop:=PT X e (tVT X M R t)
def qJ(K:Frag)(B:Addr->Prop)(H:Hp):List W->List V->Prop
 |[],vs=>vs=[]
 |w::a,vs=>∃v r,vs=v::r/\bu K B H w v/\qJ K B H a r
def ρL(K:Frag):Zg:=λB H a b=>ak K B H a b
def Zh(K:Frag):Zg:=λB H a b=>qJ K B H a b
abbrev VA(X:Cx)(M:Ms)(R:Addr->Prop)(es:List Expr)(t:Ev->(List W->Prop)->Prop):Prop:=PA X es (tVA X M R (ρL X.K) t)
abbrev Tu(X:Cx)(M:Ms)(R:Addr->Prop)(es:List Expr)(t:Ev->(List W->Prop)->Prop):Prop:=PA X es (tVA X M R (Zh X.K) t)
theorem PE.imp(h:PE X e t)(k:∀a H Q,t' a H Q->t a H Q):PE X e t':=λb s a H Q I w=>h b s a H Q I (k a H Q w)
theorem PT.imp(h:PT X e t)(k:∀a H Q,t' a H Q->t a H Q):PT X e t':=λb s a H Q I w=>h b s a H Q I (k a H Q w)
theorem PW.imp(h:PW X e t)(k:∀a H Q,t' a H Q->t a H Q):PW X e t':=λc b s a H Q I w=>h c b s a H Q I (k a H Q w)
theorem PA.imp(h:PA X e t)(k:∀a H Q,t' a H Q->t a H Q):PA X e t':=λc b s a H Q I w=>h c b s a H Q I (k a H Q w)
section
variable{X:Cx}{M:Ms}{R:Addr->Prop}{e a b c:Expr}{t ta tb tc:WT}{m:Md}{pos:Pos}
theorem C9(h:VE X M R m e t):VE X M R .s e t:=PE.imp h<|by rintro j H Q ⟨A,g,d,P,S,f,p,k⟩;exact⟨A,g,d,P,S,f,p,λw v i pw s r=>k w v i pw s (r.s S.dom)⟩
theorem VR(h:VE X M R m e t):VB X M R e t:=PE.imp h<|by rintro j H Q ⟨A,g,d,P,S,f,p,k⟩;exact⟨A,g,d,P,S,f,p,λw v i pw s r=>k w v i pw s (r.rep S.dom).b⟩
theorem F4(h:PE X e (kI i))(r:bq M i->(i,.f)∈M):VB X M R e (λd Q=>match look d i with|some w=>Q w|none=>False):=PE.imp h<|by
 rintro x H Q ⟨A,B,d,P,S,z,p,k⟩
 revert p
 cases l:look d i with
 |none=>exact λp=>p.elim
 |some w=>
  intro p;by_cases n:bq M i
  .obtain⟨F,O⟩:=S.ow;obtain⟨v,j,g⟩:=O.val i .f w (r n) l;obtain⟨y,q,o,rfl,rfl,_,u,s⟩:=g;exact⟨_,j,k _ _ H p (aE.refl H) ⟨q,o,rfl,.inl u,s⟩⟩
  .obtain⟨v,j,g⟩:=S.sh i w n l;exact⟨v,j,k _ _ H p (aE.refl H) g.b⟩
theorem Pg(h:PE X e (kI i))(hi:¬bq M i):VE X M R .s e (λd Q=>match look d i with|some w=>Q w|none=>False):=PE.imp h<|by
 rintro l H Q ⟨A,o,d,P,S,n,p,k⟩
 revert p
 cases f:look d i with
 |none=>exact λp=>p.elim
 |some w=>intro p;obtain⟨v,j,g⟩:=S.sh i w hi f;exact⟨v,j,k _ _ H p (aE.refl H) (.of g)⟩
def zO(K:Frag)(i:Nat)(π:List mJ):TE:=λd H Q=>∃v u,d[i]?=some (some v)/\Ir K H v π u/\Q u H
theorem F5{K:Frag}{f:St}{g:Ev}{w u:W}(S:SR K M A s f H g)(l:(i,m)∈M)(k:oj m π=some h)(n:look g i=some w)(j:dQ w π=some u):
 ∃v d F,f[i]?=some (some v)/\Ir K H v π d/\Fp K A.B H h u d F:=by
 obtain⟨F,O⟩:=S.ow;obtain⟨v,p,o⟩:=O.val i m w l n;obtain⟨d,z,x,y,_,r,q,_⟩:=Fp.path π m o k j;exact⟨v,d,x,p,r,q⟩
theorem xW{Q:W->Prop}(h:match look d i with|some w=>(match dQ w π with|some u=>Q u|none=>False)|none=>False):∃w u,look d i=some w/\dQ w π=some u/\Q u:=by
 cases g:look d i with
 |none=>rw[g]at h;exact h.elim
 |some w=>
  rw[g]at h;dsimp only at h;cases f:dQ w π with
  |none=>rw[f]at h;exact h.elim
  |some u=>rw[f]at h;exact⟨w,u,rfl,f,h⟩
theorem Ph(h:PE X e (zO X.K i π))(r:(i,j)∈M)(o:oj j π=some .f):VB X M R e (λg Q=>match look g i with|some w=>(match dQ w π with|some u=>Q u|none=>False)|none=>False):=PE.imp h<|by rintro C H Q ⟨A,I,g,P,S,G,p,k⟩;obtain⟨w,u,B,z,q⟩:=xW p;obtain⟨v,E,F,y,x,d⟩:=F5 S r o B z;obtain⟨D,n,l,rfl,rfl,_,d,s⟩:=d;exact⟨v,_,y,x,k _ _ H q (aE.refl H) ⟨n,l,rfl,.inl d,s⟩⟩
theorem Pj(h:PE X e (zO X.K i π))(n:(i,f)∈M)(l:oj f π=some .s):VE X M R .s e (λd Q=>match look d i with|some w=>(match dQ w π with|some u=>Q u|none=>False)|none=>False):=PE.imp h<|by rintro z H Q ⟨A,C,d,P,S,B,p,k⟩;obtain⟨w,u,y,x,q⟩:=xW p;obtain⟨v,j,F,r,o,g⟩:=F5 S n l y x;dsimp only[Fp]at g;exact⟨v,j,r,o,k _ _ H q (aE.refl H) (.of g.2)⟩
theorem F6(h:PE X e (tC v))(d:∀B H,Rep X.K B H w v):VE X M R .s e (λ_ Q=>Q w):=PE.imp h<|by rintro f H Q ⟨A,j,g,P,S,i,p,k⟩;exact k _ _ H p (aE.refl H) (.of (d _ _))
theorem F7(T:VB X M R a ta)(O:VB X M R b tb)(N:∀x y,JY op x y=m\/m=.s):VE X M R m (.BinOp a op b pos) (λi Q=>ta i λx=>tb i λy=>gE op x y Q):=by
 rintro j s g H Q I ⟨A,E,i,P,S,D,p,k⟩;refine wpAny_BinOp (bin T O I (R:=λn l f=>∃x y,gE op x y P/\aE H f/\bu X.K (FB A M g) f x n/\bu X.K (FB A M g) f y l) ⟨A,E,i,_,S,D,p,λx n Z B C J=>⟨A,E,i,_,S.same C,D,B,λy l f q o G=>⟨x,y,q,C.trans o,bu.same o J,G⟩⟩⟩ ?_);rintro v u o n l f U rv L ⟨x,y,h,sm,B,q⟩;have d:=(S.same sm).dom;refine zI op j o g f (FB A M g) x y n l v u P Q U d rv L B q h ?_;have c:Cont X.K (FB A M g) f m P Q:=λw z Y pw F r=>k w z Y pw (sm.trans F) (r.back sm λ_ z=>z);rcases N x y with e|e
 .rw[e];exact c
 .subst e;exact Cont.s d c
end
theorem bE(h:truth x Q):∃b,x=.bl b/\Q b:=by
 cases x with
 |bl b=>exact⟨b,rfl,h⟩
 |_=>exact h.elim
theorem Rep.j4{K:Frag}{b:Bool}(h:Rep K B H (.bl b) v):v=.bl b:=by dsimp only[Rep]at h;exact h
theorem Rep.int_inv{K:Frag}{b:Int}(h:Rep K B H (.int b) v):v=.int b:=by dsimp only[Rep]at h;exact h
theorem di.bH{K:Frag}(h:di K B H H' .s w v):Rep K B H' w v:=by obtain⟨F,_,_,h⟩:=h;obtain⟨rfl,h⟩:=h;exact h.less λp z=>.inl z
section
variable{X:Cx}{M:Ms}{R:Addr->Prop}{e a b c:Expr}{t ta tb tc:WT}{m:Md}{pos:Pos}{rest es:List Expr}
noncomputable def MY:W->Bool
 |.lst _=>true
 |_=>false
theorem vt(h:MY x=true):∃l,x=.lst l:=by cases x<;>first|exact⟨_,rfl⟩|exact ff h
theorem Pk(h:gE op x y P)(d:(op=.Add/\(MY x=true\/MY y=true))\/(op=.Mult/\MY x=true)):JY op x y=.f:=by
 rcases d with⟨rfl,d|d⟩|⟨rfl,d⟩
 .obtain⟨l,rfl⟩:=vt d;rfl
 .obtain⟨l,rfl⟩:=vt d;cases x<;>first|rfl|exact h.elim
 .obtain⟨l,rfl⟩:=vt d;rfl
theorem zP(ha:PE X a (tV X M R G ta))(hb:PE X b (tV X M R F tb))(h1:∀B H H' w v,Dom B H->G B H H' w v->bu X.K B H' w v)(h2:∀B H H' w v,Dom B H->F B H H' w v->bu X.K B H' w v)
 (ho:∀B H H' w v B2 g J L Y,G B H H' w v->F B2 g J L Y->(op=.Add/\(MY w=true\/MY L=true))\/(op=.Mult/\MY w=true)):VE X M R .f (.BinOp a op b pos) (λi Q=>ta i λx=>tb i λy=>gE op x y Q):=by
 rintro j s l H Q I ⟨A,U,i,P,S,T,p,k⟩;refine wpAny_BinOp (bin ha hb I (R:=λo n g=>∃x y,gE op x y P/\aE H g/\bu X.K (FB A M l) g x o/\bu X.K (FB A M l) g y n/\JY op x y=.f) ⟨A,U,i,_,S,T,p,λx o H1 E D O=>⟨A,U,i,_,S.same D,T,E,λy n g C q N=>⟨x,y,C,D.trans q,bu.same q (h1 _ _ _ _ _ S.dom O),h2 _ _ _ _ _ (S.same D).dom N,Pk C (ho _ _ _ _ _ _ _ _ _ _ O N)⟩⟩⟩ ?_);rintro v u q o n g I2 rv ru ⟨x,y,h,sm,E,C,em⟩;have d:=(S.same sm).dom;refine zI op j q l g (FB A M l) x y o n v u P Q I2 d rv ru E C h ?_;rw[em];exact λw z H' pw Z r=>k w z H' pw (sm.trans Z) (r.back sm λ_ z=>z)
theorem Pn(j:VE X M R .s a ta):VE X M R .s (.UnaryOp .USub a pos) (λd Q=>ta d λx=>match x with|.int i=>Q (.int (-i))|_=>False):=PE.imp (Uz N6 j)<|by
 rintro q H Q ⟨A,o,d,P,S,l,p,k⟩;refine⟨A,o,d,_,S,l,p,λx r n f g h=>?_⟩;cases x with
 |int i=>exact⟨i,h.bH.int_inv,k _ _ n f g (.of (f6 _))⟩
 |_=>exact f.elim
theorem Po(i:VE X M R .s a ta):VE X M R .s (.UnaryOp .Not a pos) (λd Q=>ta d λx=>truth x λb=>Q (.bl (!b))):=PE.imp (NQ i)<|by rintro o H Q ⟨A,n,d,P,S,j,p,k⟩;refine⟨A,n,d,_,S,j,p,λx q l f g h=>?_⟩;obtain⟨b,rfl,f⟩:=bE f;exact⟨b,h.bH.j4,k _ _ l f g (.of (Iw _))⟩
theorem Pp(L:X.A.units+64<cLine)(N:behindInMarks op b=false)(T:VB X M R a ta)(O:VB X M R b tb):VE X M R .s (.Compare a [op] [b] pos) (λf Q=>ta f λx=>tb f λy=>dZ op x y Q):=by rintro g s i H Q I ⟨A,D,f,P,S,C,p,k⟩;refine wpAny_Compare1 (bin T O I (R:=λl j d=>∃x y,dZ op x y P/\aE H d/\bu X.K (FB A M i) d x l/\bu X.K (FB A M i) d y j) ⟨A,D,f,_,S,C,p,λx l Z q B G=>⟨A,D,f,_,S.same B,C,q,λy j d o n F=>⟨x,y,o,B.trans n,bu.same n G,F⟩⟩⟩ ?_) N;rintro v u n l j d U rv J ⟨x,y,h,sm,q,o⟩;exact vp L op g n i d (FB A M i) x y l j v u P Q U (S.same sm).dom rv J q o h λw z Y pw E r=>k w z Y pw (sm.trans E) (r.back sm λ_ z=>z)
theorem Pr(hu:X.A.units+64<cLine)(hm:behindInMarks op b=false)(ha:VB X M R a ta)(hb:VB X M R b tb):VT X M R (.Compare a [op] [b] pos) (λj Q=>ta j λx=>tb j λy=>dZ op x y Q):=by
 rintro d s i H Q I ⟨A,G,j,P,S,F,p,k⟩;have q:=bin ha hb I (R:=λo n g=>∃x y,dZ op x y P/\aE H g/\bu X.K (FB A M i) g x o/\bu X.K (FB A M i) g y n) ⟨A,G,j,_,S,F,p,λx o H1 D B N=>⟨A,G,j,_,S.same B,F,D,λy n g C l L=>⟨x,y,C,B.trans l,bu.same l N,L⟩⟩⟩
  (f:=compareOp op) (Q:=EP X d i λz E=>∃b,z=.bl b/\Q b E)<|by rintro v u l o n g I2 rv O ⟨x,y,h,sm,D,C⟩;refine vp hu op d l i g (FB A M i) x y o n v u _ _ I2 (S.same sm).dom rv O D C h λw z E pw J r=>?_;obtain⟨b,rfl,q⟩:=k w E pw (sm.trans J);exact⟨b,r.bH.j4,q⟩
 refine wpAny_isTrue_Compare1 (cC q λv B Z=>cC Z λu l Y=>cC Y λc s3 ⟨z,H3,I3,T,b,ez,U⟩=>?_) hm;subst ez;cases T;exact oI ⟨H3,I3,U⟩
theorem Pu(u:VE X M R .s a ta)(r:VE X M R .s (.BoolOp .And (b::rest) pos) tb):VE X M R .s (.BoolOp .And (a::b::rest) pos) (λd Q=>ta d λx=>truth x λk=>if k=true then tb d Q else Q (.bl false)):=
 PE.imp (NP u r)<|by
  rintro B H Q ⟨A,j,d,P,S,i,h,k⟩;refine⟨A,j,d,_,S,i,h,λx D w g f o=>?_⟩;obtain⟨q,rfl,g⟩:=bE g;refine⟨q,o.bH.j4,?_⟩;cases q with
  |true=>exact⟨A,j,d,_,S.same f,i,g,λy C v p l n=>k _ _ v p (f.trans l) (n.back f λ_ z=>z)⟩
  |false=>exact k _ _ w g f (.of (Iw _))
theorem VU(u:VE X M R .s a ta)(r:VE X M R .s (.BoolOp .Or (b::rest) pos) tb):VE X M R .s (.BoolOp .Or (a::b::rest) pos) (λd Q=>ta d λx=>truth x λk=>if k=true then Q (.bl true)else tb d Q):=
 PE.imp (Uo u r)<|by
  rintro B H Q ⟨A,j,d,P,S,i,h,k⟩;refine⟨A,j,d,_,S,i,h,λx D w g f o=>?_⟩;obtain⟨q,rfl,g⟩:=bE g;refine⟨q,o.bH.j4,?_⟩;cases q with
  |false=>exact⟨A,j,d,_,S.same f,i,g,λy C v p l n=>k _ _ v p (f.trans l) (n.back f λ_ z=>z)⟩
  |true=>exact k _ _ w g f (.of (Iw _))
abbrev MZ(X:Cx)(M:Ms)(R:Addr->Prop)(e:Expr)(t:WT):Prop:=PW X e (tVT X M R t)
theorem J0(d:VT X M R a ta):MZ X M R (.BoolOp .And [a] pos) ta:=AH d
theorem Pw(d:VT X M R a ta):MZ X M R (.BoolOp .Or [a] pos) ta:=Ec d
theorem Px(p:VT X M R a ta)(o:MZ X M R (.BoolOp .And (b::rest) pos) tb):MZ X M R (.BoolOp .And (a::b::rest) pos) (λd Q=>ta d λx=>truth x λk=>if k=true then tb d Q else Q (.bl false)):=
 PW.imp (Ed p o)<|by
  rintro u H Q ⟨A,j,d,P,S,i,h,k⟩;refine⟨A,j,d,_,S,i,h,λx s f g=>?_⟩;obtain⟨q,rfl,f⟩:=bE f;refine⟨q,rfl,?_⟩;cases q with
  |true=>exact⟨A,j,d,P,S.same g,i,f,λy r n l=>k _ r n (g.trans l)⟩
  |false=>obtain⟨b,e,q⟩:=k _ s f g;cases e;exact q
theorem VW(p:VT X M R a ta)(o:MZ X M R (.BoolOp .Or (b::rest) pos) tb):MZ X M R (.BoolOp .Or (a::b::rest) pos) (λd Q=>ta d λx=>truth x λk=>if k=true then Q (.bl true)else tb d Q):=
 PW.imp (MA p o)<|by
  rintro u H Q ⟨A,j,d,P,S,i,h,k⟩;refine⟨A,j,d,_,S,i,h,λx s f g=>?_⟩;obtain⟨q,rfl,f⟩:=bE f;refine⟨q,rfl,?_⟩;cases q with
  |false=>exact⟨A,j,d,P,S.same g,i,f,λy r n l=>k _ r n (g.trans l)⟩
  |true=>obtain⟨b,e,q⟩:=k _ s f g;cases e;exact q
theorem Py(i:VT X M R a ta):VT X M R (.UnaryOp .Not a pos) (λd Q=>ta d λx=>truth x λb=>Q (.bl (!b))):=PT.imp (NO i)<|by rintro o H Q ⟨A,n,d,P,S,j,h,k⟩;refine⟨A,n,d,_,S,j,h,λx l f g=>?_⟩;obtain⟨q,rfl,f⟩:=bE f;obtain⟨b,e,z⟩:=k _ l f g;cases e;exact⟨q,rfl,z⟩
theorem vv(l:∀d,isTrue e X.env d=(do let v<-d;standAt e.pos;holding [v] (truthy v)))(h:VE X M R .s e t):VT X M R e t:=PT.imp (Eb h l)<|by rintro q H Q ⟨A,p,f,P,S,n,h,k⟩;refine⟨A,p,f,P,S,n,h,λx r o j g i=>?_⟩;obtain⟨b,rfl,z⟩:=k _ o j g;exact⟨b,i.bH.j4,z⟩
theorem F8(s:VT X M R c tc)(v:VE X M R m a ta)(u:VE X M R m b tb):VE X M R m (.IfExp c a b pos) (λd Q=>tc d λx=>truth x λk=>if k=true then ta d Q else tb d Q):=PE.imp (Eg s v u)<|by
 rintro w H Q ⟨A,p,d,P,S,n,h,k⟩;refine⟨A,p,d,_,S,n,h,λx B g f=>?_⟩;obtain⟨q,rfl,g⟩:=bE g;refine⟨q,rfl,?_⟩;cases q with
 |true=>exact⟨A,p,d,_,S.same f,n,g,λy r o l i j=>k _ _ o l (f.trans i) (j.back f λ_ z=>z)⟩
 |false=>exact⟨A,p,d,_,S.same f,n,g,λy r o l i j=>k _ _ o l (f.trans i) (j.back f λ_ z=>z)⟩
theorem PB:VA X M R [] (λ_ Q=>Q []):=PA.imp dX<|by rintro d H Q ⟨A,i,f,P,S,g,h,k⟩;exact k [] [] H h (aE.refl H) .nil
theorem J1(u:starEach (a::es) X.env=(false,eval a X.env)::starEach es X.env)(w:VE X M R .s a ta)(v:VA X M R es i):VA X M R (a::es) (λd Q=>ta d λx=>i d λg=>Q (x::g)):=
 PA.imp (bU w v u)<|by rintro z H Q ⟨A,o,d,P,S,n,h,k⟩;refine⟨A,o,d,_,S,n,h,λx B D r l p=>⟨A,o,d,_,S.same l,n,r,λg C y f j q=>?_⟩⟩;exact k _ _ y f (l.trans j) (.cons (p.bH.same j) q)
theorem J2:Tu X M R [] (λ_ Q=>Q []):=PA.imp dX<|by rintro d H Q ⟨A,i,f,P,S,g,h,k⟩;exact k [] [] H h (aE.refl H) rfl
theorem F9(v:starEach (a::es) X.env=(false,eval a X.env)::starEach es X.env)(y:VB X M R a ta)(w:Tu X M R es i):Tu X M R (a::es) (λd Q=>ta d λx=>i d λg=>Q (x::g)):=
 PA.imp (bU y w v)<|by rintro B H Q ⟨A,o,d,P,S,n,h,k⟩;refine⟨A,o,d,_,S,n,h,λx p C u l r=>⟨A,o,d,_,S.same l,n,u,λg q z f j s=>?_⟩⟩;exact k _ _ z f (l.trans j) ⟨p,q,rfl,bu.same j r,s⟩
theorem PC(h:VA X M R es i):VE X M R .f (.List es pos) (λd Q=>i d λg=>g.length<=sizeLine/\Q (.lst g)):=PE.imp (yW h)<|by rintro s H Q ⟨A,r,d,P,S,q,h,k⟩;refine⟨A,r,d,_,S,q,h,λg u v n j l=>?_⟩;refine⟨by rw[ak.len l];exact n.1,λp o=>?_⟩;exact k _ _ _ n.2 (j.trans (aU o _)) (.fresh j o l)
theorem PD(h:VA X M R es g):VE X M R .s (.Tuple es n pos) (λd Q=>g d λf=>f.length<=sizeLine/\Q (.tup f)):=PE.imp (Es h)<|by rintro u H Q ⟨A,r,d,P,S,q,h,k⟩;refine⟨A,r,d,_,S,q,h,λf v w j o i=>?_⟩;refine⟨by rw[ak.len i];exact j.1,λp l=>?_⟩;exact k _ _ _ j.2 (o.trans (aU l _)) (.of (zH aJ (ak.same (aU l _) i)))
theorem BE{K:Frag}{w:W}(h:ak K B H l vs)(e:jQ l i=some w):∃v,jQ vs i=some v/\Rep K B H w v:=by
 unfold jQ at e⊢;rw[h.len];cases d:wL l.length i with
 |none=>rw[d]at e;exact nn e
 |some j=>rw[d]at e;exact h.get e
theorem bu.jY{K:Frag}(h:bu K B H (.jY ns) v):∃p,v=.ref p/\jA K H p (ns.map V.int):=by
 have h:Rep K B H (.jY ns) v:=h;obtain⟨p,e,h⟩:=h;refine⟨p,e,?_⟩;rcases h with⟨o,h⟩|h
 .exact .inl (.inr ⟨o,h⟩)
 .rcases h with(h|⟨o,h⟩)|h
  .cases h
  .cases h
  .exact .inr h
theorem BF(e:jQ ns i=some n):jQ (ns.map V.int) i=some (.int n):=by
 unfold jQ at e⊢;rw[Bi];cases d:wL ns.length i with
 |none=>rw[d]at e;exact nn e
 |some j=>rw[d]at e;show(ns.map V.int)[j]?=_;have e:ns[j]?=some n:=e;rw[FR,e];rfl
theorem VX(I:oz b)(K:VB X M R a ta)(J:VE X M R .s b tb):VE X M R .s (.Subscript a b pos) (λf Q=>ta f λx=>tb f λy=>O7 x y Q):=PE.imp (ME Ex K J I)<|by
 rintro L H Q ⟨A,F,f,P,S,E,h,k⟩;refine⟨A,F,f,_,S,E,h,λx O U G q g=>⟨A,F,f,_,S.same q,E,G,λy N D d o u=>?_⟩⟩;have g:=bu.same o g;cases x with
 |lst l=>
  cases y with
  |int i=>obtain⟨p,r,rfl,j,B⟩:=g.lst;obtain⟨w,e,d⟩:=d;obtain⟨v,C,z⟩:=BE B e;exact .inl ⟨p,r,i,v,rfl,u.bH.int_inv,.inl j.rd,C,k _ _ D d (q.trans o) (.of z)⟩
  |_=>exact d.elim
 |tup l=>
  cases y with
  |int i=>obtain⟨p,r,rfl,j,B⟩:=g.tup;obtain⟨w,e,d⟩:=d;obtain⟨v,C,z⟩:=BE B e;exact .inr (.inl ⟨p,r,i,v,rfl,u.bH.int_inv,j,C,k _ _ D d (q.trans o) (.of z)⟩)
  |_=>exact d.elim
 |jY T=>
  cases y with
  |int i=>obtain⟨p,rfl,j⟩:=g.jY;obtain⟨n,e,d⟩:=d;exact .inl ⟨p,_,i,_,rfl,u.bH.int_inv,j,BF e,k _ _ D d (q.trans o) (.of (f6 _))⟩
  |_=>exact d.elim
 |_=>exact d.elim
theorem Ga{K:Frag}(h:ak K B H l vs)(lo hi:Option Int):ak K B H (j3 l lo hi) (xj vs lo hi):=by unfold j3 xj;rw[h.len];exact(h.drop _).take _
def PJ(X:Cx)(M:Ms)(R:Addr->Prop)(t:Ev->(Option Int->Prop)->Prop):TO:=λh H Q=>∃A f d P,SR X.K M A f h H d/\ER X f R/\t d P/\∀o g,P o->aE H g->Q o g
theorem PO.imp{e:Option Expr}{t t':TO}(h:PO X e t)(k:∀d H Q,t' d H Q->t d H Q):PO X e t':=λf s d H Q I w=>h f s d H Q I (k d H Q w)
theorem J3:PO X none (PJ X M R λ_ Q=>Q none):=PO.imp I0<|by rintro d H Q ⟨A,i,f,P,S,g,h,k⟩;exact k none H h (aE.refl H)
theorem J5(l:VE X M R .s a ta):PO X (some a) (PJ X M R λd Q=>ta d λy=>match y with|.int i=>Q (some i)|_=>False):=PO.imp (Ja l)<|by
 rintro q H Q ⟨A,p,d,P,S,n,h,k⟩;refine⟨A,p,d,_,S,n,h,λx r o f g j=>?_⟩;cases x with
 |int i=>exact⟨i,j.bH.int_inv,k _ o f g⟩
 |_=>exact f.elim
theorem VY{lo hi:Option Expr}(D:VB X M R a ta)(s:PO X lo (PJ X M R tl))(o:PO X hi (PJ X M R y)):VE X M R .f (.Subscript a (.Slice lo hi none p2) pos) (λd Q=>ta d λx=>tl d λl=>y d λh=>Xy x l h Q):=
 PE.imp (xh Je D s o)<|by
  rintro F H Q ⟨A,w,d,P,S,v,h,k⟩;refine⟨A,w,d,_,S,v,h,λx I L C i r=>⟨A,w,d,_,S.same i,v,C,λl K s g=>⟨A,w,d,_,S.same (i.trans g),v,s,λh J o j=>?_⟩⟩⟩;have r:=bu.same (g.trans j) r;cases x with
  |lst G=>obtain⟨p,z,rfl,u,E⟩:=r.lst;refine⟨p,z,rfl,.inl u.rd,λq n=>?_⟩;exact k _ _ _ o (((i.trans g).trans j).trans (aU n _)) (.fresh ((i.trans g).trans j) n (Ga E l h))
  |jY B=>obtain⟨p,rfl,u⟩:=r.jY;refine⟨p,_,rfl,u,λq n=>?_⟩;exact k _ _ _ o (((i.trans g).trans j).trans (aU n _)) (.fresh ((i.trans g).trans j) n (Ga (ak.JU B) l h))
  |_=>exact o.elim
noncomputable def VZ:BI->Md
 |.list=>.f
 |_=>.s
def lE(X:Cx)(f:Value)(b:BI):Prop:=
 ∀(d:List (Addr×Obj))(s:Shared)(g:St)(H:Hp)(B:Addr->Prop)(h:List W)(i:List V)(j:List Value)(P:KP)(Q:VK),Inv X d g H s->Dom B H->Vals i j->qJ X.K B H h i->vm b h P->Cont X.K B H (VZ b) P Q->
  wpAny (model X.prog X.w) X.A (call f j) (EP X d g Q) X.xe s
def PK(K:Frag)(b:BI):List V->Hp->VK->Prop:=λf H Q=>∃(B:Addr->Prop)(d:List W)(P:KP),Dom B H/\qJ K B H d f/\vm b d P/\Cont K B H (VZ b) P Q
theorem lE.r{b:BI}(h:lE X f b):dS X f (PK X.K b):=by rintro g s i H l n Q I r ⟨B,j,P,d,p,o,k⟩;exact h g s i H B j l n P Q I d r p o k
theorem lG{K:Frag}(h:qJ K B H [w] vs):∃v,vs=[v]/\bu K B H w v:=by obtain⟨v,r,rfl,f,d⟩:=h;cases(show r=[]from d);exact⟨v,rfl,f⟩
theorem Gb{K:Frag}(h:qJ K B H [w,w'] vs):∃v d,vs=[v,d]/\bu K B H w v/\bu K B H w' d:=by obtain⟨v,r,rfl,i,g⟩:=h;obtain⟨d,rfl,f⟩:=lG g;exact⟨v,d,rfl,i,f⟩
theorem cw_len:lE X (.builtin "len") .len:=by
 intro f s k H B q u n P Q I d r o h c
 match q,h with
 |[.lst l],h=>obtain⟨v,rfl,g⟩:=lG o;obtain⟨p,i,rfl,g,j⟩:=g.lst;exact gU f s k H _ n Q I r ⟨p,i,rfl,.inl (.inl g.rd),c.now (w:=.int i.length) (by rw[j.len];exact h) (f6 _)⟩
 |[.tup l],h=>obtain⟨v,rfl,g⟩:=lG o;obtain⟨p,i,rfl,g,j⟩:=g.tup;exact gU f s k H _ n Q I r ⟨p,i,rfl,.inr g,c.now (w:=.int i.length) (by rw[j.len];exact h) (f6 _)⟩
 |[.jY ns],h=>obtain⟨v,rfl,g⟩:=lG o;obtain⟨p,rfl,j⟩:=g.jY;exact gU f s k H _ n Q I r ⟨p,_,rfl,.inl j,c.now (w:=.int ns.length) h (by rw[Bi];exact f6 _)⟩
theorem cw_abs:lE X (.builtin "abs") .abs:=by
 intro f s g H B j o k P Q I d r l h c
 match j,h with
 |[.int i],h=>obtain⟨v,rfl,n⟩:=lG l;cases n.int;exact Eo f s g H _ k Q I r ⟨i,rfl,c.now h (f6 _)⟩
theorem cw_max(q:X.calm=true):lE X (.builtin "max") .max2:=by
 intro f s n H B w D o P Q I d r u h c
 match w,h with
 |[.int i,.int j],h=>obtain⟨v,E,rfl,g,k⟩:=Gb u;cases g.int;cases k.int;exact CC q f s n H _ o Q I r ⟨i,j,rfl,c.now h (f6 _)⟩
 |[.lst l],h=>obtain⟨x,rfl,y,h⟩:=h;obtain⟨v,rfl,g⟩:=lG u;obtain⟨p,C,rfl,g,k⟩:=g.lst;have e:=ak.ints k;subst e;exact CQ q f s n H _ o Q I r ⟨p,x,rfl,.inl g.rd,y,λm A z=>c.now (h m A z) (f6 _)⟩
theorem cw_dvm:lE X (.builtin "divmod") .To:=by
 intro f s g H B k w l P Q I d r o h c
 match k,h with
 |[.int i,.int j],h=>obtain⟨v,x,rfl,u,p⟩:=Gb o;cases u.int;cases p.int;exact wZ f s g H _ l Q I r ⟨i,j,rfl,h.1,λq n=>c _ _ _ h.2 (aU n _) (.of (zH aJ (.cons (f6 _) (.cons (f6 _) .nil))))⟩
theorem cw_min(n:X.calm=true):lE X (.builtin "min") .min2:=by
 intro f s g H B k u l P Q I d r o h c
 match k,h with
 |[.int i,.int j],h=>obtain⟨v,w,rfl,q,p⟩:=Gb o;cases q.int;cases p.int;exact CD n f s g H _ l Q I r ⟨i,j,rfl,c.now h (f6 _)⟩
theorem cw_list:lE X (.type "list") .list:=by
 intro f s n H B w x o P Q I d r u h c
 match w,h with
 |[.lst l],h=>obtain⟨v,rfl,g⟩:=lG u;obtain⟨p,j,rfl,g,k⟩:=g.lst;exact kM f s n H _ o Q I r ⟨p,j,rfl,.inl (.inl g.rd),λq i=>c _ _ _ h (aU i _) (.fresh (aE.refl H) i k)⟩
 |[.tup l],h=>obtain⟨v,rfl,g⟩:=lG u;obtain⟨p,j,rfl,g,k⟩:=g.tup;exact kM f s n H _ o Q I r ⟨p,j,rfl,.inr g,λq i=>c _ _ _ h (aU i _) (.fresh (aE.refl H) i k)⟩
theorem cw_int:lE X (.type "int") .int:=by
 intro f s g H B j o k P Q I d r l h c
 match j,h with
 |[.bl i],h=>obtain⟨v,rfl,n⟩:=lG l;cases n.bl;exact CF f s g H _ k Q I r (.inr ⟨i,rfl,c.now h (f6 _)⟩)
def Gd(_:Frag):Prop:=True
end
def M1(K:Frag)(n:Nat)(m:Md)(sp:aV):Sp:=λc H Q E=>∃A a P R,a.length=n/\ak K A H a c/\Dom A H/\sp a P R/\Cont K A H m P Q/\∀C b,R C->aE H b->E (.ref C) none b
def PL(K:Frag)(n:Nat)(g:Md)(sp:aV):Sp:=λh H Q E=>∃(ab:Addr->Prop)(F:List Addr)(f:W)(e:V)(d:List W)(b:List V)(P:W->Prop)(R:Addr->Prop),h=e::b/\d.length+1=n/\F.Nodup/\(∀p∈F,¬ab p)/\Dom ab H/\Fp K (λp=>ab p\/p∈F) H g f e F/\ak K (λp=>ab p\/p∈F) H d b/\sp (f::d) P R/\
 (∀w y v c a,P (.tup [w,y])->wN (·∈F) H a->c.Nodup->(∀p∈c,p∈F\/H p=none)->Fp K (λp=>ab p\/p∈c) a g y e c->Rep K (λp=>ab p\/p∈c) a w v->Q v a)/\(∀C a,R C->wN (·∈F) H a->E (.ref C) none a)
def om(K:Frag)(n:Nat)(m:Md)(sp:aV):Sp:=
 match m with
 |.io a=>PL K n a sp
 |m=>M1 K n m sp
inductive cL(P:Program)(w:World)(K:Frag)(mg:Str->Option Value)(base:Heap):Nat->Value->Nat->Sp->Prop where
 |fn {k:Nat} {f:Addr} {fd:FuncData} {ps:List Str} {sp:Sp} (kp:keepIn K (.ref f)=true) (b:Binds K fd ps []) (F:cA P w K mg base (jB P w) k f fd ps sp):cL P w K mg base k (.ref f) ps.length sp
 |mk {k n:Nat} {C f:Addr} {fd:FuncData} {ps:List Str} {sp spi:Sp} (M:Mk K C f) (b:Binds K fd ps []) (F:cA P w K mg base (jB P w) k f fd ps spi)
  (h:∀vs H Q E,sp vs H Q E->∀x dx,H x=none->H dx=none->dx≠x->spi (.ref x::vs) (upd (upd H dx (.own x)) x (.ins C dx [])) (λv H2=>v=.cu/\Q (.ref x) H2) E):cL P w K mg base (k+1) (.ref C) n sp
theorem cL.keep{K:Frag}{a:Value}{sp:Sp}(c:cL P w K b base k a n sp):keepIn K a=true:=by
 cases c with
 |fn kp _ _=>exact kp
 |mk M _ _ _=>exact M.kp
theorem cL.run{d:St}{H:Hp}{s:Shared}{Q:VK}{E:XK}{us:List Value}{vs:List V}(c:cL X.prog X.w X.K X.mg X.base k i n sp)(g:cY k X.A)(f:∀H s e s',Inv X a d H s->jB X.prog X.w X.stack H s E e s'->X.xe e s')(I:Inv X a d H s)(r:Vals vs us)(h:sp vs H Q E):
 wpAny (model X.prog X.w) X.A (call i us) (EP X a d Q) X.xe s:=by
 cases c with
 |fn q b F=>exact Et (ds:=[]) (Im:=[]) F g b .nil f I r (by rw[ik];exact h)
 |mk M b F l=>exact Eu (ds:=[]) (Im:=[]) M F g b .nil f I r (λx p o m j=>by rw[ik];exact l vs H Q E h x p o m j)
section
variable{X:Cx}{M:Ms}{R:Addr->Prop}{e a b c:Expr}{t ta tb tc:WT}{m:Md}{pos p:Pos}{es:List Expr}{x:Str}
theorem BG(F:cL X.prog X.w X.K X.mg X.base k O n (M1 X.K n m sp))(hr:cY k X.A)(hg:Gl X x)(hm:X.mg x=some O)
 (hn:∀d P R,sp d P R->d.length=n)(ha:VA X M R (e::es) G)(y:(x==("__debug__":Str))=false)(he:starEach (e::es) X.env=(false,eval e X.env)::starEach es X.env)(u:(backTo pos (starEach es X.env)).any (·.1)=false):
 VE X M R m (.Call (.Name x p) (e::es) [] pos) (λj Q=>G j λd=>sp d Q R):=by
 rintro f s i H Q I ⟨A,H0,j,P,S,er,h,Y⟩;obtain⟨E,L,N,hR⟩:=er;refine me (kJ I hg hm ?_ y);refine wa (h₀:=X.base) I.ok.mod.S6 F.keep (cC (ha pos f s i H (λl g=>∃d,aE H g/\ak X.K (FB A M i) g d l/\sp d P R) I ⟨A,H0,j,_,S,⟨E,L,N,hR⟩,h,λd l g Z J q=>⟨d,J,q,Z⟩⟩) λus J ⟨l,g,I1,r,d,sm,q,D⟩=>⟨I1.yJ,?_⟩) he u;exact F.run hr (L _ _) I1 r ⟨FB A M i,d,P,R,hn _ _ _ D,q,(S.same sm).dom,D,λw v B pw o U=>Y w v B pw (sm.trans o) (U.back sm λ_ z=>z),λC B T o=>N C B T (S.sm.trans (sm.trans o))⟩
theorem PM(G:dS X (.builtin o) (PK X.K l))(E:Gl X x)(D:X.mg x=none)(B:bootBuiltins x=some (.builtin o))(I:Tu X M R (e::es) n)(C:x≠"__name__")(j:(x==("__debug__":Str))=false)
 (F:starEach (e::es) X.env=(false,eval e X.env)::starEach es X.env)(i:(backTo pos (starEach es X.env)).any (·.1)=false):VE X M R (VZ l) (.Call (.Name x p) (e::es) [] pos) (λd Q=>n d λf=>vm l f Q):=
 PE.imp (w6 G E D B I C j F i)<|by rintro q H Q ⟨A,L,d,P,S,J,h,k⟩;exact⟨A,L,d,_,S,J,h,λf O T y g u=>⟨FB A M q,f,P,(S.same g).dom,u,y,λw v N pw s r=>k w v N pw (g.trans s) (r.back g λ_ z=>z)⟩⟩
theorem PN(G:dS X (.type o) (PK X.K l))(E:Gl X x)(D:X.mg x=none)(B:bootBuiltins x=some (.type o))(I:Tu X M R (e::es) n)(C:x≠"__name__")(j:(x==("__debug__":Str))=false)
 (F:starEach (e::es) X.env=(false,eval e X.env)::starEach es X.env)(i:(backTo pos (starEach es X.env)).any (·.1)=false):VE X M R (VZ l) (.Call (.Name x p) (e::es) [] pos) (λd Q=>n d λf=>vm l f Q):=
 PE.imp (tN G E D B I C j F i)<|by rintro q H Q ⟨A,L,d,P,S,J,h,k⟩;exact⟨A,L,d,_,S,J,h,λf O T y g u=>⟨FB A M q,f,P,(S.same g).dom,u,y,λw v N pw s r=>k w v N pw (g.trans s) (r.back g λ_ z=>z)⟩⟩
theorem J6(r:VE X M R .s a ta)(j:attributeBase a "bit_length" X.env (eval a X.env)=eval a X.env)(g:(f.endLine==d.line)=true):
 VE X M R .s (.Call (.Attribute a "bit_length" f) [] [] d) (λl Q=>ta l λx=>match x with|.int i=>Q (.int (Builtin.Int.intBits i:Nat))|_=>False):=
 PE.imp (Ez PySem.F.plainAttrs_int PySem.F.slot_int_bit_length PySem.F.type_int_bit_length Jl r j g)<|by
  rintro B H Q ⟨A,z,l,P,S,u,h,k⟩;refine⟨A,z,l,_,S,u,h,λw v y n o q=>?_⟩;cases w with
  |int i=>have e:=q.bH.int_inv;subst e;exact⟨rfl,i,rfl,rfl,k _ _ y n o (.of (f6 _))⟩
  |_=>exact n.elim
end
inductive BH(K:Frag)(br:Bool)(B:Addr->Prop)(H:Hp):It->List W->Prop where
 |lst {a:Addr} {vs:List V} {ws:List W} (h:Rz H a (.lst vs)) (n:br=false->¬B a) (r:ak K B H ws vs):BH K br B H (Yn K a) ws
 |tup {a:Addr} {vs:List V} {ws:List W} (h:mP K H a vs) (r:ak K B H ws vs):BH K br B H (Yo K a) ws
 |jN (lo:Int) (n:Nat):BH K br B H (Uw lo n) (gF lo 1 n)
 |J7 (lo st:Int) (n:Nat):BH K br B H (Xn lo st n) (gF lo st n)
 |t9 {a:Addr} {vs:List V} {ws:List W} (h:Rz H a (.lst vs)) (n:br=false->¬B a) (r:ak K B H ws vs):BH K br B H (YV K a) (f9 ws)
 |rev {a:Addr} {vs:List V} {ws:List W} (h:Rz H a (.lst vs)) (n:br=false->¬B a) (r:ak K B H ws vs):BH K br B H (YX K a vs.length) ws.reverse
structure IW(K:Frag)(B:Addr->Prop)(Hs:Hp)(J:It)(ws:List W):Prop where
 go:∀i H,aE Hs H->i<ws.length->J.go i H
 yl:∀i H x H' w,aE Hs H->ws[i]?=some w->J.Uv i H x H'->aE H H'/\∀B':Addr->Prop,(∀p o,Hs p=some o->B' p->B p)->Rep K B' H' w x
 st:∀i H,aE Hs H->i=ws.length->J.stop i H
theorem lI(lo st:Int)(n:Nat):(gF lo st n).length=n:=by unfold gF;simp
theorem xX{lo st:Int}{n i:Nat}(h:(gF lo st n)[i]?=some w):w=.int (lo+i*st)/\i<n:=by
 unfold gF at h;rw[FR]at h;by_cases a:i<n
 .rw[dt a]at h;cases h;exact⟨rfl,a⟩
 .rw[Gc (by simpa using a)]at h;cases h
theorem uc(l:List W):(f9 l).length=l.length:=by unfold f9;simp
theorem m7{i:Nat}(h:(f9 l)[i]?=some w):∃x,l[i]?=some x/\w=.tup [.int i,x]:=by
 unfold f9 at h;rw[YJ]at h;by_cases a:i<l.length
 .rw[dt a,D2 a]at h;cases h;exact⟨_,D2 a,rfl⟩
 .rw[Gc (by simpa using a)]at h;cases h
theorem BH.iw{K:Frag}(h:BH K br B k J l):IW K B k J l:=by
 cases h with
 |@lst a c _ h n r=>
  have q:∀H,aE k H->jA K H a c:=λH s=>.inl (VL.aE.rd s h.rd);refine⟨λi H s b=>?_,λi H x m w s d y=>?_,λi H s b=>⟨c,q H s,by rw[r.len,b];exact FC _⟩⟩
  .have f:i<c.length:=by rw[r.len];exact b
   exact⟨c,c[i],q H s,D2 f⟩
  .obtain⟨rfl,y⟩:=y;obtain⟨v,e,g⟩:=r.get d;have:=y c (q _ s);rw[e]at this;cases this;exact⟨aE.refl _,λo j=>Rep.mv s j w g⟩
 |@tup a c _ h r=>
  have q:∀H,aE k H->mP K H a c:=λH s=>L2.aE.tup s h;refine⟨λi H s b=>?_,λi H x m w s d y=>?_,λi H s b=>⟨c,q H s,by rw[r.len,b];exact FC _⟩⟩
  .have f:i<c.length:=by rw[r.len];exact b
   exact⟨c,c[i],q H s,D2 f⟩
  .obtain⟨rfl,y⟩:=y;obtain⟨v,e,g⟩:=r.get d;have:=y c (q _ s);rw[e]at this;cases this;exact⟨aE.refl _,λo j=>Rep.mv s j w g⟩
 |jN C n=>refine⟨λi H s b=>by rw[lI]at b;exact b,λi H x m w s d y=>?_,λi H s b=>by rw[lI]at b;exact n4 b.symm⟩;obtain⟨rfl,rfl⟩:=y;obtain⟨rfl,_⟩:=xX d;exact⟨aE.refl _,λo _=>by rw[eC];exact f6 _⟩
 |J7 C G n=>refine⟨λi H s b=>by rw[lI]at b;exact b,λi H x m w s d y=>?_,λi H s b=>by rw[lI]at b;exact n4 b.symm⟩;obtain⟨rfl,rfl⟩:=y;obtain⟨rfl,_⟩:=xX d;exact⟨aE.refl _,λo _=>f6 _⟩
 |@t9 a c l h n r=>
  have q:∀H,aE k H->jA K H a c:=λH s=>.inl (VL.aE.rd s h.rd);refine⟨λi H s b=>?_,λi H x m w s d y=>?_,λi H s b=>⟨c,q H s,by rw[r.len,b,uc]⟩⟩
  .rw[uc]at b;have f:i<c.length:=by rw[r.len];exact b
   exact⟨c,c[i],q H s,D2 f⟩
  .obtain⟨p,y,E,rfl,rfl,D⟩:=y;obtain⟨A,F,rfl⟩:=m7 d;obtain⟨v,e,g⟩:=r.get F;have z:=D c (q _ s);rw[e]at z;obtain rfl:v=y:=Pm z;have u:=aU (H:=H) E (.tup [.int i,v]);exact⟨u,λo j=>zH aJ (.cons (f6 _) (.cons (Rep.mv (s.trans u) j A g) .nil))⟩
 |@rev a c l h n r=>
  have q:∀H,aE k H->jA K H a c:=λH s=>.inl (VL.aE.rd s h.rd);have t:=r.len;refine⟨λi H s b=>?_,λi H x m w s d y=>?_,λi H s b=>?_⟩
  .rw[gL]at b;exact⟨c,q H s,rfl,by rw[t];exact b⟩
  .obtain⟨rfl,y⟩:=y;have b:i<l.length:=by have:=(Fu.mp d).1;rwa [gL]at this
   rw[List.getElem?_reverse b]at d;obtain⟨v,e,g⟩:=r.get d;have:=y c (q _ s) rfl;rw[t,e]at this;cases this;exact⟨aE.refl _,λo j=>Rep.mv s j w g⟩
  .rw[gL]at b;show i=c.length;rw[t,b]
noncomputable def itemsOf:W->Option (List W)
 |.lst l=>some l
 |.tup l=>some l
 |_=>none
theorem ud:items z Q↔∃a,itemsOf z=some a/\Q a:=by
 cases z<;>simp[items,itemsOf]
def Ge(X:Cx)(M:Ms)(R:Addr->Prop)(br:Bool)(t:WT):TI:=λb H Q=>∃A e c P,SR X.K M A e b H c/\ER X e R/\t c P/\∀z,P z->∃d,itemsOf z=some d/\∀J a,aE H a->BH X.K br (FB A M b) a J d->Q J a
theorem PI.imp(h:PI X tg e t)(k:∀a H Q,t' a H Q->t a H Q):PI X tg e t':=λb s a H Q I w=>h b s a H Q I (k a H Q w)
section
variable{X:Cx}{M:Ms}{R:Addr->Prop}{e a b c tg:Expr}{t ta tb tc:WT}{m:Md}{pos p:Pos}{es:List Expr}{x:Str}{br:Bool}
theorem PR(w:PE X l tl):PI X tg l (λj H Q=>tl j H λx H1=>∃a,x=.ref a/\(((∃f,jA X.K H1 a f)/\Q (Yn X.K a) H1)\/((∃f,mP X.K H1 a f)/\Q (Yo X.K a) H1))):=by
 intro g s j H Q I h;refine cC (w g s j H _ I h) ?_;rintro v d ⟨x,H1,I1,r,u⟩;obtain⟨a,e,q⟩:=u;subst e;cases r;rcases q with⟨⟨f,k⟩,q⟩|⟨⟨f,k⟩,q⟩
 .obtain⟨i,rv,p,hz⟩:=I1.list k;refine wpAny_pyIter_list p.isList ?_;refine⟨d.heap.objs.size,[d.heap.objs.size],_,_,H1,rfl,I1.kept (t':=d.toks) λb o e=>He _ e,Cz a _,⟨_,Sr _ rfl,rfl,rfl⟩,λb n=>?_,q⟩;have e:b=d.heap.objs.size:=by simpa using n
  subst e;exact I1.yN (FC _) (I1.hok.fresh (FC _))
 .obtain⟨i,rv,p,hz⟩:=I1.tuple k;refine wpAny_pyIter_tuple (show d.heap.IsTuple a i.toArray from p) ?_;refine⟨d.heap.objs.size,[d.heap.objs.size],_,_,H1,rfl,I1.kept (t':=d.toks) λb o e=>He _ e,yO a _,⟨_,Sr _ rfl,rfl,rfl⟩,λb n=>?_,q⟩;have e:b=d.heap.objs.size:=by simpa using n
  subst e;exact I1.yN (FC _) (I1.hok.fresh (FC _))
def PU(K:Frag)(br:Bool):RL:=λB _ d w v=>bu K B d w v/\(br=false->Rep K B d w v)
theorem iV(h:VE X M R m e t):PE X e (tV X M R (PU X.K br) t):=PE.imp h<|by rintro j H Q ⟨A,g,d,P,S,f,p,k⟩;exact⟨A,g,d,P,S,f,p,λw v i pw s r=>k w v i pw s ⟨(r.rep S.dom).b,λ_=>r.rep S.dom⟩⟩
theorem V0(h:VB X M R e t):PE X e (tV X M R (PU X.K true) t):=PE.imp h<|by rintro j H Q ⟨A,g,d,P,S,f,p,k⟩;exact⟨A,g,d,P,S,f,p,λw v i pw s r=>k w v i pw s ⟨r,λz=>by cases z⟩⟩
theorem PU.lst{K:Frag}{B:Addr->Prop}{H H':Hp}{l:List W}{v:V}(h:PU K br B H H' (.lst l) v):∃p vs,v=.ref p/\Rz H' p (.lst vs)/\(br=false->¬B p)/\ak K B H' l vs:=by obtain⟨p,vs,rfl,f,d⟩:=h.1.lst;refine⟨p,vs,rfl,f,λe=>?_,d⟩;have:=h.2 e;obtain⟨i,_,g,n,_⟩:=this;cases g;exact n
theorem fN(r:PE X a (tV X M R (PU X.K br) ta)):PI X tg a (Ge X M R br ta):=PI.imp (PR r)<|by
 rintro y H Q ⟨A,w,q,P,S,u,h,k⟩;refine⟨A,w,q,P,S,u,h,λz v o hz j n=>?_⟩;obtain⟨B,g,k⟩:=k z hz;cases z with
 |lst l=>
  cases g;obtain⟨p,f,rfl,d,i,s⟩:=n.lst;exact⟨p,rfl,.inl ⟨⟨f,.inl d.rd⟩,k _ o j (.lst d i s)⟩⟩
 |tup l=>
  cases g;obtain⟨p,f,rfl,d,i⟩:=n.1.tup;exact⟨p,rfl,.inr ⟨⟨f,d⟩,k _ o j (.tup d i)⟩⟩
 |_=>exact nn g
theorem PV(w:Gl X "enumerate")(s:X.mg "enumerate"=none)(y:PE X a (tV X M R (PU X.K br) ta))(g:starEach [a] X.env=(false,eval a X.env)::starEach [] X.env):
 PI X (.Tuple d r n) (.Call (.Name "enumerate" p) [a] [] pos) (Ge X M R br (λf Q=>ta f λx=>match x with|.lst l=>Q (.lst (f9 l))|_=>False)):=
 PI.imp (Jm w s (bU y dX g) rfl g)<|by
  rintro G H Q ⟨A,F,f,P,S,D,h,k⟩;refine⟨A,F,f,_,S,D,h,λz v E hz o q=>?_⟩;cases z with
  |lst l=>obtain⟨I,u,k⟩:=k _ hz;cases u;obtain⟨p,j,rfl,i,C,B⟩:=q.lst;exact⟨p,rfl,⟨j,.inl i.rd⟩,k _ E o (.t9 i C B)⟩
  |_=>exact hz.elim
theorem PX(r:Gl X "reversed")(o:X.mg "reversed"=none)(s:PE X a (tV X M R (PU X.K br) ta))(f:starEach [a] X.env=(false,eval a X.env)::starEach [] X.env):
 PI X tg (.Call (.Name "reversed" p) [a] [] pos) (Ge X M R br (λd Q=>ta d λx=>match x with|.lst l=>Q (.lst l.reverse)|_=>False)):=
 PI.imp (Oz r o (bU s dX f) rfl f)<|by
  rintro D H Q ⟨A,C,d,P,S,y,h,k⟩;refine⟨A,C,d,_,S,y,h,λz v B hz j n=>?_⟩;cases z with
  |lst l=>obtain⟨E,q,k⟩:=k _ hz;cases q;obtain⟨p,i,rfl,g,w,u⟩:=n.lst;exact⟨p,i,rfl,.inl g.rd,k _ B j (.rev g w u)⟩
  |_=>exact hz.elim
theorem J8(u:Gl X "range")(q:X.mg "range"=none)(v:VE X M R .s a ta)(f:starEach [a] X.env=(false,eval a X.env)::starEach [] X.env):
 PI X tg (.Call (.Name "range" p) [a] [] pos) (Ge X M R br (λd Q=>ta d λx=>vn [x] λl=>Q (.lst l))):=
 PI.imp (tG u q (bU v dX f) f)<|by
  rintro B H Q ⟨A,z,d,P,S,w,h,k⟩;refine⟨A,z,d,_,S,w,h,λx C y hz g i=>?_⟩;cases x with
  |int j=>obtain⟨o,n,hz⟩:=hz;obtain⟨D,r,k⟩:=k _ hz;cases r;cases i.bH.int_inv;exact⟨j,rfl,o,n,k _ y g (.jN 0 j.toNat)⟩
  |_=>exact hz.elim
theorem J9(C:Gl X "range")(z:X.mg "range"=none)(E:VE X M R .s a ta)(D:VE X M R .s b tb)(n:starEach [a,b] X.env=(false,eval a X.env)::starEach [b] X.env)(d:starEach [b] X.env=(false,eval b X.env)::starEach [] X.env):
 PI X tg (.Call (.Name "range" p) [a,b] [] pos) (Ge X M R br (λf Q=>ta f λx=>tb f λy=>vn [x,y] λl=>Q (.lst l))):=
 PI.imp (CA C z (bU E (bU D dX d) n) (by rw[n,d];rfl) d)<|by
  rintro G H Q ⟨A,q,f,P,S,o,h,k⟩;refine⟨A,q,f,_,S,o,h,λx J L hz g v=>⟨A,q,f,_,S.same g,o,hz,λy I F hz r u=>?_⟩⟩;cases x with
  |int i=>
   cases y with
   |int j=>obtain⟨w,hz⟩:=hz;obtain⟨K,B,k⟩:=k _ hz;cases B;cases v.bH.int_inv;cases u.bH.int_inv;exact⟨i,j,rfl,w,k _ F (g.trans r) (.jN i (j -i).toNat)⟩
   |_=>exact hz.elim
  |_=>exact hz.elim
theorem Ka(I:Gl X "range")(F:X.mg "range"=none)(L:VE X M R .s a ta)(K:VE X M R .s b tb)(J:VE X M R .s c tc)(v:starEach [a,b,c] X.env=(false,eval a X.env)::starEach [b,c] X.env)(f:starEach [b,c] X.env=(false,eval b X.env)::starEach [c] X.env)(q:starEach [c] X.env=(false,eval c X.env)::starEach [] X.env):
 PI X tg (.Call (.Name "range" p) [a,b,c] [] pos) (Ge X M R br (λd Q=>ta d λx=>tb d λy=>tc d λz=>vn [x,y,z] λl=>Q (.lst l))):=
 PI.imp (CO I F (bU L (bU K (bU J dX q) f) v) (by rw[v,f,q];rfl) (by rw[f,q];rfl))<|by
  rintro O H Q ⟨A,r,d,P,S,o,h,k⟩;refine⟨A,r,d,_,S,o,h,λx Y H1 hz g D=>⟨A,r,d,_,S.same g,o,hz,λy U H2 hz u C=>⟨A,r,d,_,S.same (g.trans u),o,hz,λz T N hz w B=>?_⟩⟩⟩;cases x with
  |int i=>
   cases y with
   |int j=>
    cases z with
    |int l=>obtain⟨n,E,hz⟩:=hz;obtain⟨Z,G,k⟩:=k _ hz;cases G;cases D.bH.int_inv;cases C.bH.int_inv;cases B.bH.int_inv;exact⟨i,j,l,n,rfl,E,k _ N ((g.trans u).trans w) (.J7 i l n)⟩
    |_=>exact hz.elim
   |_=>exact hz.elim
  |_=>exact hz.elim
end
noncomputable def up(M:Ms)(n:Nat):Ms:=M.map λx=>(x.1+n,x.2)
section
variable{K:Frag}{M:Ms}{A:Fz}{H0 H H1:Hp}{σ v0:St}{ε δ:Ev}
theorem m8:(i,m)∈up M n↔n<=i/\(i -n,m)∈M:=by
 unfold up;rw[OF];constructor
 .rintro⟨⟨j,b⟩,a,e⟩;cases e;exact⟨zze _ _,by rw[On];exact a⟩
 .rintro⟨h,a⟩;exact⟨(i -n,m),a,by simp;omega⟩
theorem dN:bq (up M n) i↔n<=i/\bq M (i -n):=by
 constructor
 .rintro⟨m,h⟩;exact⟨(m8.mp h).1,m,(m8.mp h).2⟩
 .rintro⟨h,m,a⟩;exact⟨m,m8.mpr ⟨h,a⟩⟩
theorem qK(c:δ.length=n)(h:n<=i):look (δ++ε) i=look ε (i -n):=by
 have e:∀w,look (δ++ε) i=some w↔look ε (i -n)=some w:=λw=>by rw[b7,b7,NM (by lia),c]
 cases b:look ε (i -n)with
 |none=>
  cases a:look (δ++ε) i with
  |none=>rfl
  |some w=>rw[e]at a;rw[b]at a;cases a
 |some w=>exact(e w).mpr b
theorem SR.block(S:SR K M A H0 σ H ε)(u:v0.length=n)(s:aE H H1)(C:H D=none)(t:H1 D=some o):SR K (up M n) ⟨λq=>A.ab q\/q=D,λq=>A.B q\/q=D,none⟩ H0 (v0++σ) H1 (B1 n none++ε):=by
 obtain⟨F,O⟩:=S.ow;have g:(B1 n (none:Option W)).length=n:=by simp
 have E:∀{i:Nat},n<=i->(v0++σ)[i]?=σ[i -n]?:=λ{i} h=>by rw[NM (by lia),u]
 have y:∀p o,H p=some o->(A.B p\/p=D)->A.B p:=λp o e z=>by
  rcases z with z|rfl
  .exact z
  .rw[C]at e;cases e
 refine⟨by rw[KB,KB,u,g,S.len],λi w c e=>?_,S.sm.trans s,λp z=>?_,(λv e=>by cases e),λi=>F (i -n),⟨λi m G a b=>O.un _ m G (m8.mp a).2 (m8.mp b).2,λi m w I e=>?_,λi c e=>?_,λi c=>O.nd _ (dN.mp c).2,λi j p c x a b=>?_,λi p c d=>O.nw _ p (dN.mp c).2 d,λi p c d z=>?_,λp=>?_⟩⟩
 .by_cases f:n<=i
  .rw[qK g f]at e;rw[E f];obtain⟨v,l,k⟩:=S.sh (i -n) w (λz=>c (dN.mpr ⟨f,z⟩)) e;exact⟨v,l,Rep.mv s y w k⟩
  .rw[b7,QP (by rw[g];lia),rh,D1 (by lia)]at e;cases e
 .rcases z with z|rfl
  .exact(S.dm.same s) p z
  .exact⟨_,t⟩
 .obtain⟨f,r⟩:=m8.mp I;rw[qK g f]at e;rw[E f];obtain⟨v,l,k⟩:=O.val _ m w r e;exact⟨v,l,Fp.mv s y m k⟩
 .obtain⟨f,r⟩:=dN.mp c;rw[qK g f]at e;exact O.emp _ r e
 .have:=O.ds _ _ p (dN.mp c).2 (dN.mp x).2 a b;have:=(dN.mp c).1;have:=(dN.mp x).1;lia
 .rcases z with z|rfl
  .exact O.na _ p (dN.mp c).2 d z
  .obtain⟨o,e,_⟩:=O.has (dN.mp c).2 d;rw[C]at e;cases e
 .constructor
  .rintro(z|rfl)
   .rcases(O.all p).mp z with z|⟨i,c,d⟩
    .exact .inl (.inl z)
    .exact .inr ⟨i+n,dN.mpr ⟨by lia,by rw[On];exact c⟩,by rw[On];exact d⟩
   .exact .inl (.inr rfl)
  .rintro((z|rfl)|⟨i,c,d⟩)
   .exact .inl ((O.all p).mpr (.inl z))
   .exact .inr rfl
   .exact .inl ((O.all p).mpr (.inr ⟨i -n,(dN.mp c).2,d⟩))
end
def V1:List Nat->MC
 |[]=>Ut
 |i::a=>MD (iH i) (V1 a)
def gT(K:Frag)(one:Bool)(a:List Nat):TG:=
 match one,a with
 |true,[i]=>iH i
 |true,_=>λ_ _ _ _=>False
 |false,a=>NT K a.length (V1 a)
noncomputable def c6(a:St):List Nat->List V->St
 |i::b,v::vs=>c6 (a.set i (some v)) b vs
 |_,_=>a
theorem xY:∀(b:List Nat)(vs:List V)(a:St),(c6 a b vs).length=a.length
 |[],vs,a=>by rw[c6];simp
 |i::b,[],a=>by rw[c6];simp
 |i::b,v::vs,a=>by rw[c6,xY b vs,XB]
theorem xZ:∀(c:List Nat)(vs:List V)(b a:St),b.length=n->(∀i∈c,i<n)->c6 (b++a) c vs=c6 b c vs++a
 |[],vs,b,a,_,_=>by rw[c6,c6]<;>simp
 |i::c,[],b,a,_,_=>by rw[c6,c6]<;>simp
 |i::c,v::vs,b,a,d,h=>by have hi:=h i FS;rw[c6,c6,List.set_append_left _ _ (by lia),xZ c vs _ a (by rw[XB];exact d) λj e=>h j (FM _ e)]
section
variable{K:Frag}{M:Ms}{A:Fz}{H0 H:Hp}
theorem Gf:∀(a:List Nat)(vs:List V)(b:St)(Q:St->Hp->Prop),vs.length=a.length->Q (c6 b a vs) H->V1 a vs b H Q
 |[],[],b,Q,_,q=>⟨rfl,q⟩
 |[],_::_,_,_,h,_=>by cases h
 |_::_,[],_,_,h,_=>by cases h
 |i::a,v::vs,b,Q,h,q=>⟨v,vs,rfl,Gf a vs _ Q (by simpa using h) (by rw[c6]at q;exact q)⟩
theorem SR.cI:∀(a:List Nat)(c:List W)(vs:List V){b:St}{d:Ev},(∀i∈a,¬bq M i)->SR K M A H0 b H d->ak K (FB A M b) H c vs->c.length=a.length->SR K M A H0 (c6 b a vs) H (cI d a c)
 |[],c,vs,b,d,_,S,_,_=>by rw[c6,VL.cI]<;>first|exact S|simp
 |i::a,[],vs,b,d,_,S,_,h=>by cases h
 |i::a,w::c,vs,b,d,e,S,r,h=>by obtain⟨v,f,rfl,m,l⟩:=r.cons_inv;rw[c6,VL.cI];have k:=e i FS;exact SR.cI a c f (λj g=>e j (FM _ g)) (S.set k m) l (by simpa using h)
theorem tgt(j:∀i∈a,¬bq M i)(S:SR K M A H0 b H d)(g:Rep K (FB A M b) H w v)(h:wT one a w d P)
 (k:∀vs c,P c->SR K M A H0 (c6 b a vs) H c->Q (c6 b a vs) H):gT K one a v b H Q:=by
 cases one with
 |true=>
  match a,h with
  |[i],h=>
   have:=k [v] (d.set i (some w)) h (by rw[c6,c6]<;>first|exact S.set (j i FS) g|simp);rw[c6,c6]at this
   .exact this
   .simp
 |false=>
  cases w with
  |tup l=>obtain⟨e,h⟩:=h;obtain⟨p,vs,rfl,m,f⟩:=g;exact⟨p,vs,rfl,mP.of m,by rw[f.len,e],Gf a vs b Q (by rw[f.len,e]) (k vs _ h (SR.cI a l vs j S f e))⟩
  |_=>exact h.elim
end
theorem PF.imp(h:PF X e t)(k:∀a H Q,t' a H Q->t a H Q):PF X e t':=λb s a H Q I w=>h b s a H Q I (k a H Q w)
def Zk(K:Frag)(M:Ms)(t:WT):TE:=λb H Q=>∃A d c P,SR K M A d b H c/\t c P/\∀w v a,P w->aE H a->Rep K (FB A M b) a w v->Q v a
def Zl(K:Frag)(M:Ms)(t:WT):TT:=λd H Q=>∃A e a P,SR K M A e d H a/\t a P/\∀x c,P x->aE H c->∃b,x=.bl b/\Q b c
section
variable{X:Cx}{M:Ms}{R:Addr->Prop}{tg iter elt:Expr}{ifs:List Expr}{scope:Scope}{xs N':List Str}{pos:Pos}{ti tc te:WT}{one:Bool}{ts:List Nat}
theorem x6(I:∀i∈ts,i<xs.length)(n:St)(H:Hp)(Q:VK)
 (hh:tV X M R (Pf X.K .f) (λu Q=>ti u λz=>items z λc=>iU (λw K=>wT one ts w (B1 xs.length none++u) λa=>tc a λx=>truth x λk=>if k=true then te a λy=>K (some y)else K none) c [] λl=>Q (.lst l)) n H Q):
 EM xs.length (Ge X M R true ti) (gT X.K one ts) (Zl X.K (up M xs.length) tc) (Zk X.K (up M xs.length) te) n H Q:=by
 obtain⟨A,H0,u,P,S,er,h,k⟩:=hh;refine⟨A,H0,u,_,S,er,h,λz hz=>?_⟩;obtain⟨c,ez,hw⟩:=ud.mp hz;refine⟨c,ez,λJ H1 s1 it D hD=>?_⟩;have iw:=it.iw;generalize N:(λ(w:W)(K:Option W->Prop)=>wT one ts w (B1 xs.length none++u) λa=>tc a λx=>truth x λk=>if k=true then te a λy=>K (some y)else K none)=f at hw;have O:H D=none:=s1.free hD;refine⟨λi m g=>∃d r,m=c.length -i/\i<=c.length/\aE H1 g/\g D=some (.lst r)/\ak X.K (λq=>FB A M n q\/q=D) g d r/\iU f (c.drop i) d (λl=>P (.lst l)),
  ⟨c.length,[],[],rfl,Os _,aU hD _,aJ,.nil,hw⟩,?_⟩
 rintro i m g ⟨d,r,rfl,hi,s,XC,F,C⟩;by_cases Y:i<c.length
 .refine .inr ⟨iw.go i g s Y,λx U y v t=>?_⟩;have hwi:c[i]?=some c[i]:=D2 Y;rw[i3 Y]at C;generalize c[i]=w at*;obtain⟨s3,G⟩:=iw.yl i g x U w s hwi y;have s13:aE H U:=s1.trans (s.trans s3);have h3D:U D=some (.lst r):=s3 _ _ XC;have S3:SR X.K (up M xs.length) ⟨λq=>A.ab q\/q=D,λq=>A.B q\/q=D,none⟩ H0 (v++n) U (B1 xs.length none++u):=S.block t s13 O h3D;have hr3:Rep X.K (λq=>A.B q\/q=D) U w x:=by
   refine G _ λp o e z=>?_;rcases z with z|rfl
   .exact z
   .rw[hD]at e;cases e
  have hM:∀j∈ts,¬bq (up M xs.length) j:=λj hj z=>by have:=(dN.mp z).1;have:=I j hj;lia
  rw[iU,<-N]at C;rw[N]at C;refine tgt hM S3 hr3 C λE a hp S4=>?_;have e4:c6 (v++n) ts E=c6 v ts E++n:=xZ ts E v n t I;rw[e4]at S4⊢;have hv1:(c6 v ts E).length=xs.length:=by rw[xY];exact t
  refine⟨c6 v ts E,hv1,rfl,⟨_,H0,a,_,S4,hp,λq H5 Z s5=>?_⟩⟩;obtain⟨b,rfl,Z⟩:=bE Z;refine⟨b,rfl,?_⟩;have XD:aE g H5:=s3.trans s5;cases b with
  |false=>exact⟨c.length -(i+1),by lia,d,r,rfl,Y,s.trans XD,XD _ _ XC,F.same XD,Z⟩
  |true=>
   refine⟨_,H0,a,_,S4.same s5,Z,λy vy H6 hy s6 ry=>?_⟩;obtain⟨L,hy⟩:=hy;have Zm:=XD.trans s6;have T:=Zm _ _ XC;refine⟨r,T,by rw[F.len];exact L,c.length -(i+1),by lia,d++[y],r++[vy],rfl,Y,λb o e=>?_,aJ,?_,hy⟩
   .rw[ay (aT e hD)];exact Zm _ _ (s _ _ e)
   .have ry2:Rep X.K (λq=>A.B q\/q=D) H6 y vy:=ry;exact ak.put T (.inr rfl) _ ((F.same Zm).app (.cons ry2 .nil))
 .have e:i=c.length:=by lia
  subst e;refine .inl ⟨iw.st _ g s rfl,?_⟩;rw[yB,iU]at C;exact k _ _ g C (s1.trans s) (.new O XC (F.less λp z=>.inl z) F)
theorem Kc(s:X.calm=true)(o:dI scope X.env.scope X.N N' xs=true)(e:∀i∈ts,i<xs.length)(hi:PI X tg iter (Ge X M R true ti))(p:∀C b d c,PG (aR X scope C xs N' b d c) tg (gT X.K one ts))
 (q:∀C b d c,PF (aR X scope C xs N' b d c) ifs (Zl X.K (up M xs.length) tc))(r:∀C b d c,PE (aR X scope C xs N' b d c) elt (Zk X.K (up M xs.length) te))(n:∀z,foldedSetIterable iter X.env z=pure z):
 VE X M R .f (.ListComp elt [⟨tg,iter,ifs,0⟩] scope pos) (λg Q=>ti g λz=>items z λm=>iU (λw K=>wT one ts w (B1 xs.length none++g) λa=>tc a λx=>truth x λk=>if k=true then te a λy=>K (some y)else K none) m [] λl=>Q (.lst l)):=
 PE.imp (Jj xs N' s o hi p q r n) λj H Q h=>x6 e j H Q h
end
section
variable{K:Frag}{M M':Ms}{A:Fz}{H0 H H1:Hp}{σ:St}{ε:Ev}
theorem SR.rb(S:SR K M A H0 σ H ε):∃f,SR K M A f σ H ε/\aE H0 f/\aE f H/\(∀p o,H p=some o->(DS o=true/\A.B p)\/f p=some o):=by
 classical
 obtain⟨F,O⟩:=S.ow;have d:∀p o,(if(∃i,bq M i/\p∈F i)then none else H p)=some o->H p=some o:=λp o z=>by
  split at z
  .cases z
  .exact z
 refine⟨λp=>if(∃i,bq M i/\p∈F i)then none else H p,⟨S.len,S.sh,d,S.dm,S.sl,F,⟨O.un,O.val,O.emp,O.nd,O.ds,λi p c a=>D1 ⟨i,c,a⟩,O.na,O.all⟩⟩,λb o z=>?_,d,λp o z=>?_⟩
 .try dsimp only
  rw[Bz]
  .exact S.sm _ _ z
  .rintro⟨i,c,e⟩;rw[O.nw i b c e]at z;cases z
 .by_cases a:∃i,bq M i/\p∈F i
  .have g:=a;obtain⟨i,c,a⟩:=a;obtain⟨j,e,h⟩:=O.has c a;rw[z]at e;cases e;exact .inl ⟨h,(O.all p).mpr (.inr g)⟩
  .exact .inr ((Bz a).trans z)
end
section
variable{K:Frag}{B A:Addr->Prop}{H Hs:Hp}
theorem BH.low(h:∀p o,H p=some o->(DS o=true/\B p)\/Hs p=some o)(b:∀p,A p->B p)(i:BH K false B H J g):BH K false A Hs J g:=by
 have d:∀{a:Addr}{c:List V},Rz H a (.lst c)->¬B a->Rz Hs a (.lst c):=λ{a c} r n=>by
  rcases h a _ r.at with⟨_,z⟩|z
  .exact(n z).elim
  .exact .inl z
 cases i with
 |lst q n r=>exact .lst (d q (n rfl)) (λe z=>n e (b _ z)) (ak.chg h (λp _ _ z=>b p z) _ r)
 |@tup a c _ q r=>
  refine .tup ?_ (ak.chg h (λp _ _ z=>b p z) _ r);rcases q with(q|⟨o,q⟩)|q
  .rcases h a _ q with⟨z,_⟩|z
   .cases z
   .exact .inl (.inl z)
  .rcases h a _ q with⟨z,_⟩|z
   .cases z
   .exact .inl (.inr ⟨o,z⟩)
  .exact .inr q
 |jN f n=>exact .jN f n
 |J7 f j n=>exact .J7 f j n
 |t9 q n r=>exact .t9 (d q (n rfl)) (λe z=>n e (b _ z)) (ak.chg h (λp _ _ z=>b p z) _ r)
 |rev q n r=>exact .rev (d q (n rfl)) (λe z=>n e (b _ z)) (ak.chg h (λp _ _ z=>b p z) _ r)
end
abbrev WS:=Dn->Ev->Prop
noncomputable def gG:Md->Bool
 |.io _=>true
 |_=>false
def zQ(K:Frag)(ab:Addr->Prop)(f:Option V)(e H':Hp)(m:Md)(w:W)(v:V):Prop:=
 match m with
 |.io g=>∃b c d a,w=.tup [b,c]/\f=some d/\a.Nodup/\(∀p∈a,e p=none/\¬ab p)/\Fp K (λp=>ab p\/p∈a) H' g c d a/\Rep K (λp=>ab p\/p∈a) H' b v
 |m=>di K ab e H' m w v
theorem zQ.of{K:Frag}{v:V}(c:gG m=false)(h:di K ab a H' m w v):zQ K ab b a H' m w v:=by
 cases m with
 |io _=>cases c
 |_=>exact h
theorem zQ.back{K:Frag}{v:V}(s:aE e d)(h:zQ K ab a d H' m w v):zQ K ab a e H' m w v:=by
 cases m with
 |io q=>obtain⟨f,g,i,o,n,l,k,c,j⟩:=h;exact⟨f,g,i,o,n,l,k,λp b=>⟨s.free (c p b).1,(c p b).2⟩,j⟩
 |_=>exact di.back s (λ_ z=>z) h
structure KS(X:Cx)(M:Ms)(m:Md)(ab:Addr->Prop)(s0:Option V)(H0:Hp)(d:Dn)(D:Ends):Prop where
 nx:∀A ε σ H,A.ab=ab->A.s0=s0->d.nx ε->SR X.K M A H0 σ H ε->D.nx σ H
 rt:∀w v H',d.rt w->aE H0 H'->zQ X.K ab s0 H0 H' m w v->D.rt v H'
 bk:∀A ε σ H,A.ab=ab->A.s0=s0->d.bk ε->SR X.K M A H0 σ H ε->D.bk σ H
 ct:∀A ε σ H,A.ab=ab->A.s0=s0->d.ct ε->SR X.K M A H0 σ H ε->D.ct σ H
def sV(X:Cx)(M:Ms)(m:Md)(t:WS):TS:=λD c H=>∃A a b d,SR X.K M A a c H b/\ER X a d.ex/\A.s0.isSome=gG m/\t d b/\KS X M m A.ab A.s0 a d D
abbrev VS(X:Cx)(M:Ms)(m:Md)(st:Stmt)(t:WS):Prop:=PS X st (sV X M m t)
abbrev zS(X:Cx)(M:Ms)(m:Md)(st:List Stmt)(t:WS):Prop:=wR X st (sV X M m t)
theorem PS.imp(h:PS X e t)(k:∀D a H,t' D a H->t D a H):PS X e t':=λb s a H D I w=>h b s a H D I (k D a H w)
theorem wR.imp(h:wR X e t)(k:∀D a H,t' D a H->t D a H):wR X e t':=λb s a H D I w=>h b s a H D I (k D a H w)
section
variable{X:Cx}{M M':Ms}{R:Addr->Prop}{m mr m0:Md}{st:Stmt}{rest:List Stmt}{t u:WS}{e e1 e2 c:Expr}{te t1 t2 tc:(Addr->Prop)->WT}{pos pos':Pos}{x:Str}{i:Nat}{π:List mJ}
theorem Kd:zS X M m [] (λd a=>d.nx a):=wR.imp IK<|by rintro D b H ⟨A,g,a,d,S,f,hz,h,k⟩;exact k.nx A a b H rfl rfl h S
theorem Ke(h:VS X M m st t):zS X M m [st] t:=AI h
theorem Gh(h:VS X M m st t)(k:zS X M m rest u):zS X M m (st::rest) (λd b=>t {d with nx:=u d} b):=
 wR.imp (c7 h k)<|by rintro D r H ⟨A,j,b,d,S,f,hz,h,k⟩;exact⟨A,j,b,{d with nx:=u d},S,f,hz,h,λq a l s o g n p=>⟨q,j,a,d,p,f,(by rw[g];exact hz),n,by rw[o,g];exact k⟩,k.rt,k.bk,k.ct⟩
theorem Kf{st:List Stmt}(h:zS X M' m st t)(j:∀x∈M',x∈M)(g:gG m=true->bq M 0->bq M' 0):zS X M m st (λd a=>t {d with nx:=λ_=>False,bk:=λ_=>False,ct:=λ_=>False} a):=wR.imp h<|by rintro D B H ⟨A,p,a,d,S,l,hz,h,k⟩;obtain⟨y,n,b,_,o⟩:=S.sub (M':=M') j A.s0 (λv e=>⟨e,g (by rw[<-hz,e];rfl) (S.sl v e).2⟩);refine⟨y,p,a,{d with nx:=λ_=>False,bk:=λ_=>False,ct:=λ_=>False},o,l,by rw[b];exact hz,h,λ_ _ _ _ _ _ z=>z.elim,λw v q f s r=>k.rt w v q f s ?_,λ_ _ _ _ _ _ z=>z.elim,λ_ _ _ _ _ _ z=>z.elim⟩;rw[b,n]at r;exact r
theorem PY:VS X M m (.Break pos) (λd a=>d.bk a):=PS.imp Ei<|by rintro D b H ⟨A,g,a,d,S,f,hz,h,k⟩;exact k.bk A a b H rfl rfl h S
theorem PZ(g:∀{j:TE},PE X e j->PS X st (pC j (gT X.K false f)))(hi:∀i∈f,¬bq M i)(z:∀R,VE X M R .s e (te R)):
 VS X M m st (λd b=>te d.ex b λw=>match w with|.tup l=>l.length=f.length/\d.nx (cI b f l)|_=>False):=by
 rintro a s o H D I ⟨A,F,b,d,S,B,hz,h,k⟩;refine g (z d.ex) a s o H D I ⟨A,F,b,_,S,B,h,λw v E n q r=>?_⟩;cases w with
 |tup l=>exact tgt (P:=d.nx) hi (S.same q) r.bH n λG p y C=>k.nx A _ _ E rfl rfl y C
 |_=>exact n.elim
theorem P4{ta:(Addr->Prop)->Ev->(List W->Prop)->Prop}(n:∀{o:TA},PA X p o->PS X st (λD f H=>o f H λvs H1=>vs.length=a.length/\D.nx (c6 f a vs) H1))(hi:∀i∈a,¬bq M i)(v:∀R,VA X M R p (ta R)):
 VS X M m st (λd g=>ta d.ex g λj=>j.length=a.length/\d.nx (cI g a j)):=by
 rintro b s f H D I ⟨A,y,g,d,S,w,hz,h,k⟩;refine n (v d.ex) b s f H D I ⟨A,y,g,_,S,w,h,λj vs H1 l q r=>?_⟩;exact⟨by rw[ak.len r,l.1],k.nx A _ _ H1 rfl rfl l.2 (SR.cI a j vs hi (S.same q) r l.1)⟩
theorem oO{K:Frag}{l:List W}(S:SR K M A N D H E)(d:(i,m0)∈M)(hp:oj m0 π=some .f)(P:look E i=some w)(hu:dQ w π=some (.lst l)):
 ∃v p vs,D[i]?=some (some v)/\Ir K H v π (.ref p)/\H p=some (.lst vs)/\ak K A.B H l vs/\A.B p/\∀H1,aE H H1->∀(b:List W)(a:List V),ak K A.B H1 b a->
  ∃h,h.ab=A.ab/\h.s0=A.s0/\(∀q o,H1 q=some o->h.B q->A.B q)/\wN A.B H1 (upd H1 p (.lst a))/\SR K M h N D (upd H1 p (.lst a)) (E.set i (some (setAt w π (.lst b)))):=by
 obtain⟨F,O⟩:=S.ow;obtain⟨v,g,k⟩:=O.val i m0 w d P;obtain⟨v',Z,F',Y,J,r,fp,C⟩:=Fp.path π m0 k hp hu;obtain⟨ws,p,vs,e1,rfl,rfl,G,h4⟩:=fp;cases e1;have T:p∈F i:=by rw[J];simp
 have L:A.B p:=(O.all p).mpr (.inr ⟨i,⟨m0,d⟩,T⟩);refine⟨v,p,vs,g,r,G,h4,L,λH1 s b a hr=>?_⟩;have U:=S.same s;obtain⟨F0,O0⟩:=U.ow;have O1:Tn K M A N D H1 E F:=⟨O.un,λi m w d e=>let⟨v,g,k⟩:=O.val i m w d e;⟨v,g,Fp.mv s (λ_ _ _ z=>z) m k⟩,O.emp,O.nd,O.ds,O.nw,O.na,O.all⟩;have j:=s _ _ G;have Q:wN A.B H1 (upd H1 p (.lst a)):=.put j rfl L;have Zo:p∉Z++Y:=by
  have:=O.nd i ⟨m0,d⟩;rw[J]at this;intro z;have g:=bg.mp this;rcases SL.mp z with z|z
  .have k:=bg.mp g.1;exact k.2.2 p z p (by simp) rfl
  .exact g.2.2 p (by simp) p z rfl
 have y:Fp K A.B (upd H1 p (.lst a)) m0 (setAt w π (.lst b)) v (Z++[p]++Y):=by
  refine C (upd H1 p (.lst a)) A.B (.lst b) [p] ?_ (λq o e=>?_) (λq _ _ z=>z)
  .exact⟨b,p,a,rfl,rfl,rfl,aJ,ak.chg Q (λ_ _ _ z=>z) b hr⟩
  .by_cases n:q=p
   .subst n;rw[G]at e;cases e;exact .inl ⟨rfl,L,Zo⟩
   .exact .inr (by rw[ay n];exact s _ _ e)
 rw[<-J]at y;have hc:∀q o,H1 q=some o->(DS o=true/\q∈F i)\/upd H1 p (.lst a) q=some o:=λq o e=>by
  by_cases n:q=p
  .subst n;rw[j]at e;cases e;exact .inl ⟨rfl,T⟩
  .exact .inr (by rw[ay n];exact e)
 have I:Fp K (λq=>(A.B q/\q∉F i)\/q∈F i) (upd H1 p (.lst a)) m0 (setAt w π (.lst b)) v (F i):=Fp.mv (aE.refl _) (λq _ _ z=>by
  rcases z with z|z
  .exact z.1
  .exact(O.all q).mpr (.inr ⟨i,⟨m0,d⟩,z⟩)) m0 y
 obtain⟨h,a1,a2,_,a3,a4,a5⟩:=O1.chg (F':=F i) U d P g hc (O.nd i ⟨m0,d⟩) (λq hq=>.inl hq) I;exact⟨h,a1,a2,a3,Q,a5⟩
theorem vA{P:List W->Prop}(h:match look a i with|some (.lst l)=>P l|_=>False):∃l,look a i=some (.lst l)/\P l:=by
 cases b:look a i with
 |none=>rw[b]at h;exact h.elim
 |some d=>
  rw[b]at h;cases d with
  |lst l=>exact⟨l,rfl,h⟩
  |_=>exact h.elim
theorem XE:oj m0 []=some m0:=by cases m0<;>rfl
theorem Kg:dQ w []=some w:=by cases w<;>rfl
theorem Kh{w u:W}:setAt w [] u=u:=by cases w<;>rfl
theorem P5(o:∀{q:TE},PE X e q->PS X st (Ej (YD X.K "list" AV (kI i) (AO q N9))))(hi:(i,.f)∈M)(F:∀R,VE X M R .s e (te R)):
 VS X M m st (λd a=>match look a i with|some (.lst l)=>te d.ex a λw=>l.length<sizeLine/\d.nx (a.set i (some (.lst (l++[w]))))|_=>False):=by
 rintro g s E H D I ⟨A,P,a,d,S,L,hz,h,k⟩;obtain⟨l,e1,h⟩:=vA h;obtain⟨T,p,j,J,G,B,z,U,b⟩:=oO (π:=[]) S hi XE e1 Kg;cases G;refine o (F d.ex) g s E H D I ⟨_,J,.inl ⟨rfl,j,.inl (.inl B)⟩,A,P,a,_,S,L,h,λw v O y n r=>?_⟩;obtain⟨Q,N,a2,_,_,C⟩:=b O n (l++[w]) (j++[v]) ((z.same n).app (.cons r.bH .nil));rw[Kh]at C;exact⟨p,j,v,rfl,rfl,n _ _ B,by rw[z.len];exact y.1,k.nx Q _ _ _ N a2 y.2 C⟩
theorem P6(B:∀{E F:TE},PE X e E->PE X e1 F->PS X st (pC E (Uu (kI i) F MF)))(hi:(i,.f)∈M)(U:∀R,VE X M R .s e (te R))(T:∀R,VE X M R .s e1 (t1 R)):
 VS X M m st (λd b=>te d.ex b λw=>match look b i with|some (.lst l)=>(t1 d.ex b λx=>(match x with|.int j=>∃n,wL l.length j=some n/\d.nx (b.set i (some (.lst (l.set n w))))|_=>False))|_=>False):=by
 rintro q s P H D I ⟨A,O,b,d,S,L,hz,h,k⟩;refine B (U d.ex) (T d.ex) q s P H D I ⟨A,O,b,_,S,L,h,λw v H1 y J r=>?_⟩;obtain⟨l,e1,y⟩:=vA y;obtain⟨v0,p,C,h1,Z,Y,K,hB,o⟩:=oO (π:=[]) S hi XE e1 Kg;cases Z;refine⟨_,h1,A,O,b,_,S.same J,L,y,λz vz H2 a G Q=>?_⟩;cases z with
 |int j=>obtain⟨n,e,a⟩:=a;have g:=J.trans G;obtain⟨A',a1,a2,_,_,N⟩:=o H2 g (l.set n w) (C.set n v) ((K.same g).set (r.bH.same G));rw[Kh]at N;exact⟨p,C,j,n,rfl,Q.bH.int_inv,g _ _ Y,by rw[K.len];exact e,k.nx A' _ _ _ a1 a2 a N⟩
 |_=>exact a.elim
theorem Gi(p:∀R,VE X [] R mr e (te R))(o:mr=m\/m=.s)(j:gG m=false):VS X M m (.Return (some e) pos) (λd b=>te d.ex b d.rt):=by
 rintro a s n H D I ⟨A,y,b,d,S,q,hz,h,k⟩;refine mQ (p d.ex) a s n H D I ⟨_,y,b,_,S.go,q,h,λw v l g f r=>?_⟩;rcases o with rfl|rfl
 .exact k.rt w v l g (S.sm.trans f) (.of j (r.back S.sm λ_ z=>z))
 .exact k.rt w v l g (S.sm.trans f) (.of j ((r.s S.dm).back S.sm λ_ z=>z))
theorem Kl(l:∀R,VE X M R .s e (te R)):VS X M .s (.Return (some e) pos) (λd b=>te d.ex b d.rt):=by rintro a s f H D I ⟨A,p,b,d,S,n,hz,h,k⟩;refine mQ (l d.ex) a s f H D I ⟨A,p,b,_,S,n,h,λw v o j g r=>?_⟩;exact k.rt w v o j (S.sm.trans g) (.of rfl (di.back S.sm S.sub' r))
theorem Ko(n:∀R,VE X M R m e (te R))(l:gG m=false):VS X M m (.Return (some e) pos) (λd b=>te d.ex b d.rt):=by rintro a s f H D I ⟨A,q,b,d,S,o,hz,h,k⟩;refine mQ (n d.ex) a s f H D I ⟨A,q,b,_,S,o,h,λw v p j g r=>?_⟩;exact k.rt w v p j (S.sm.trans g) (.of l (di.back S.sm S.sub' r))
theorem Kp(n:PE X e (kI i))(hi:(i,m)∈M)(l:gG m=false):VS X M m (.Return (some e) pos) (λd b=>match look b i with|some w=>d.rt w|none=>False):=by
 rintro a s g H D I ⟨A,B,b,d,S,y,hz,h,k⟩
 try dsimp only at h
 cases f:look b i with
 |none=>rw[f]at h;exact h.elim
 |some w=>
  rw[f]at h;obtain⟨F,O⟩:=S.ow;obtain⟨v,r,o⟩:=O.val i m w hi f;refine mQ n a s g H D I ⟨_,r,k.rt _ _ H h S.sm (.of l ⟨F i,O.nd i ⟨m,hi⟩,λp j=>O.nw i p ⟨m,hi⟩ j,Fp.mv (aE.refl _) (λq _ _ z=>?_) m o⟩)⟩;rcases z with z|z
  .exact(O.all q).mpr (.inl z)
  .exact(O.all q).mpr (.inr ⟨i,⟨m,hi⟩,z⟩)
theorem oQ{K:Frag}{v:V}(S:SR K M A n o H h)(a:(0,m0)∈M)(q:look h 0=some b)(f:∃d,A.s0=some d)(r:Rep K A.B H g v):zQ K A.ab A.s0 n H (.io m0) (.tup [g,b]) v:=by obtain⟨d,f⟩:=f;obtain⟨F,O⟩:=S.ow;obtain⟨u,l,s⟩:=O.val 0 m0 b a q;rw[(S.sl d f).1]at l;cases l;have k:∀p,(A.ab p\/p∈F 0)->A.B p:=λp z=>(O.all p).mpr (z.imp id λz=>⟨0,⟨m0,a⟩,z⟩);exact⟨g,b,d,F 0,rfl,f,O.nd 0 ⟨m0,a⟩,λp j=>⟨O.nw 0 p ⟨m0,a⟩ j,O.na 0 p ⟨m0,a⟩ j⟩,Fp.mv (aE.refl _) (λp _ _ z=>k p z) m0 s,r.less k⟩
theorem V2(r:∀R,VT X M R c (tc R))(w:zS X M m a t)(v:zS X M m b u):VS X M m (.If c a b pos) (λd f=>tc d.ex f λx=>truth x λk=>if k=true then t d f else u d f):=by
 rintro g s p H D I ⟨A,n,f,d,S,l,hz,h,k⟩;refine MB (r d.ex) w v g s p H D I ⟨A,n,f,_,S,l,h,λx y j o=>?_⟩;obtain⟨q,rfl,j⟩:=bE j;refine⟨q,rfl,?_⟩;cases q with
 |true=>exact⟨A,n,f,d,S.same o,l,hz,j,k⟩
 |false=>exact⟨A,n,f,d,S.same o,l,hz,j,k⟩
end
section
variable{X:Cx}{M:Ms}{m:Md}{body:List Stmt}{tb:WS}{c iter tg:Expr}{tc:WT}{ti:(Addr->Prop)->WT}{pos:Pos}{one:Bool}{ts:List Nat}
theorem P7(Z:PassesOwn (model X.prog X.w) X.A X.env X.xe){tc:(Addr->Prop)->WT}(hc:∀R,VT X M R c (tc R))(hb:zS X M m body tb):VS X M m (.While c body [] pos) (λd r=>FZ (λr Q=>tc d.ex r λx=>truth x Q) tb d r):=by
 rintro u s L H D I ⟨A,y,r,d,S,F,hz,h,k⟩;refine wV Z (hc d.ex) hb u s L H D I ?_;obtain⟨J,⟨O,U⟩,t⟩:=h;refine⟨λn b f=>∃e a,e.ab=A.ab/\e.s0=A.s0/\J n a/\SR X.K M e y b f a,⟨O,A,r,rfl,rfl,U,S⟩,?_⟩;rintro n G H1 ⟨C,z,v,p,T,B⟩;refine⟨C,y,z,_,B,F,t n z T,λx H2 o E=>?_⟩;obtain⟨q,rfl,o⟩:=bE o;refine⟨q,rfl,?_⟩;cases q with
 |true=>obtain⟨N,hN,o⟩:=o;refine⟨λb f=>∃e a,e.ab=A.ab/\e.s0=A.s0/\N a/\SR X.K M e y b f a,λb f ⟨e,a,j,a2,i,g⟩=>?_,C,y,z,⟨N,d.rt,d.nx,N,d.ex⟩,B.same E,F,(by rw[p];exact hz),o,⟨λe a b f j a2 i g=>⟨e,a,j.trans v,a2.trans p,i,g⟩,by rw[v,p];exact k.rt,λe a b f j a2 i g=>k.nx e a b f (j.trans v) (a2.trans p) i g,λe a b f j a2 i g=>⟨e,a,j.trans v,a2.trans p,i,g⟩⟩⟩;obtain⟨P,l,Y⟩:=hN a i;exact⟨P,l,e,a,j,a2,Y,g⟩
 |false=>exact k.nx C _ _ H2 v p o (B.same E)
end
structure Go(A:Fz)(H:Hp)(A':Fz)(H':Hp):Prop where
 ab:A'.ab=A.ab
 s0:A'.s0=A.s0
 B:∀p o,H p=some o->A'.B p->A.B p
 ch:wN A.B H H'
theorem Go.same(s:aE H H'):Go A H A H':=⟨rfl,rfl,λ_ _ _ z=>z,.same s⟩
theorem Go.trans(g:Go A H c H1)(k:Go c H1 b a):Go A H b a:=by
 refine⟨k.ab.trans g.ab,k.s0.trans g.s0,λp o e z=>?_,λp o e=>?_⟩
 .rcases g.ch p o e with⟨_,y⟩|y
  .exact y
  .exact g.B p o e (k.B p o y z)
 .rcases g.ch p o e with y|y
  .exact .inl y
  .rcases k.ch p o y with⟨f,d⟩|h
   .exact .inl ⟨f,g.B p o e d⟩
   .exact .inr h
theorem Go.rep{K:Frag}(g:Go A H a H1)(h:Rep K A.B H w v):Rep K a.B H1 w v:=Rep.chg g.ch g.B w h
abbrev x8:=Ev->(W->Ev->Prop)->Prop
abbrev M3:=Ev->(List W->Ev->Prop)->Prop
def tP(X:Cx)(M:Ms)(R:Addr->Prop)(t:x8):TE:=λe H Q=>∃A c f P,SR X.K M A c e H f/\ER X c R/\t f P/\∀d w v b a,P w a->Go A H d b->SR X.K M d c e b a->Rep X.K d.B b w v->Q v b
def tPT(X:Cx)(M:Ms)(R:Addr->Prop)(t:x8):TT:=λe H Q=>∃A c f P,SR X.K M A c e H f/\ER X c R/\t f P/\∀g x d a,P x a->Go A H g d->SR X.K M g c e d a->∃b,x=.bl b/\Q b d
def tPA(X:Cx)(M:Ms)(R:Addr->Prop)(t:M3):TA:=λe H Q=>∃A c f P,SR X.K M A c e H f/\ER X c R/\t f P/\∀d g h b a,P g a->Go A H d b->SR X.K M d c e b a->ak X.K d.B b g h->Q h b
abbrev VP(X:Cx)(M:Ms)(R:Addr->Prop)(e:Expr)(t:x8):Prop:=PE X e (tP X M R t)
abbrev DW(X:Cx)(M:Ms)(R:Addr->Prop)(e:Expr)(t:x8):Prop:=PT X e (tPT X M R t)
abbrev M4(X:Cx)(M:Ms)(R:Addr->Prop)(e:Expr)(t:x8):Prop:=PW X e (tPT X M R t)
abbrev IA(X:Cx)(M:Ms)(R:Addr->Prop)(es:List Expr)(t:M3):Prop:=PA X es (tPA X M R t)
section
variable{X:Cx}{M:Ms}{R:Addr->Prop}{m m0:Md}{e a b c:Expr}{es rest:List Expr}{t ta tb:x8}{tl:M3}{pos apos cpos p:Pos}{i j:Nat}{st:Stmt}{x:Str}{π:List mJ}
theorem V3{t:WT}(h:VE X M R .s e t):VP X M R e (λd Q=>t d λw=>Q w d):=PE.imp h<|by rintro o H Q ⟨A,l,d,P,S,g,h,k⟩;exact⟨A,l,d,_,S,g,h,λw v n f s r=>k A w v n d f (.same s) (S.same s) r.bH⟩
theorem P8{t:WT}(h:VT X M R e t):DW X M R e (λd Q=>t d λw=>Q w d):=PT.imp h<|by rintro o H Q ⟨A,l,d,P,S,g,h,k⟩;exact⟨A,l,d,_,S,g,h,λw n f s=>k A w n d f (.same s) (S.same s)⟩
theorem P9(hi:(i,.f)∈M)(C:PE X e (kI i))(n:attributeBase e "pop" X.env (eval e X.env)=eval e X.env)(d:(apos.endLine==cpos.line)=true):
 VP X M R (.Call (.Attribute e "pop" apos) [] [] cpos) (λs Q=>match look s i with|some (.lst l)=>∃w,l[l.length -1]?=some w/\Q w (s.set i (some (.lst l.dropLast)))|_=>False):=
 PE.imp (Ez y6 PySem.F.slot_list_pop PySem.F.type_list_pop Oj C n d)<|by rintro N H Q ⟨A,Y,s,P,S,U,h,k⟩;obtain⟨l,K,w,J,h⟩:=vA h;obtain⟨O,q,r,G,E,y,u,T,o⟩:=oO (π:=[]) S hi XE K Kg;cases E;obtain⟨v,I,D⟩:=u.get J;obtain⟨B,L,a2,a3,a4,z⟩:=o H (aE.refl H) l.dropLast r.dropLast u.dropLast;rw[Kh]at z;have g:Go A H B (upd H q (.lst r.dropLast)):=⟨L,a2,a3,a4⟩;exact⟨_,G,.inl ⟨rfl,r,.inl (.inl y)⟩,q,r,v,rfl,rfl,y,by rw[u.len];exact I,k B w v _ _ h g z (g.rep D)⟩
theorem Qa(ha:VP X M R a ta)(hb:VP X M R b tb):VP X M R (.BinOp a op b pos) (λD Q=>ta D λx G=>tb G λy f=>gE op x y λz=>Q z f):=by rintro n s L H Q I ⟨A,J,D,P,S,T,p,k⟩;refine wpAny_BinOp (bin ha hb I (R:=λC q l=>∃x y d f,gE op x y (λz=>P z f)/\Go A H d l/\SR X.K M d J L l f/\Rep X.K d.B l x C/\Rep X.K d.B l y q) ⟨A,J,D,_,S,T,p,λA1 x C H1 G F g1 S1 Z=>⟨A1,J,G,_,S1,T,F,λd y q l f E O o Y=>⟨x,y,d,f,E,g1.trans O,o,O.rep Z,Y⟩⟩⟩ ?_);rintro v u U C q l I2 rv ru ⟨x,y,d,f,h,g,o,F,E⟩;exact zI op n U L l d.B x y C q v u _ Q I2 o.dom rv ru F.b E.b h λw z H' pw N r=>k d w z H' f pw (g.trans (.same N)) (o.same N) (r.rep o.dom)
theorem Qc(hu:X.A.units+64<cLine)(hm:behindInMarks op b=false)(ha:VP X M R a ta)(hb:VP X M R b tb):VP X M R (.Compare a [op] [b] pos) (λD Q=>ta D λx G=>tb G λy f=>dZ op x y λz=>Q z f):=by rintro n s L H Q I ⟨A,J,D,P,S,T,p,k⟩;refine wpAny_Compare1 (bin ha hb I (R:=λC q l=>∃x y d f,dZ op x y (λz=>P z f)/\Go A H d l/\SR X.K M d J L l f/\Rep X.K d.B l x C/\Rep X.K d.B l y q) ⟨A,J,D,_,S,T,p,λA1 x C H1 G F g1 S1 Z=>⟨A1,J,G,_,S1,T,F,λd y q l f E O o Y=>⟨x,y,d,f,E,g1.trans O,o,O.rep Z,Y⟩⟩⟩ ?_) hm;rintro v u U C q l I2 rv ru ⟨x,y,d,f,h,g,o,F,E⟩;exact vp hu op n U L l d.B x y C q v u _ Q I2 o.dom rv ru F.b E.b h λw z H' pw N r=>k d w z H' f pw (g.trans (.same N)) (o.same N) (r.rep o.dom)
theorem Kq(hu:X.A.units+64<cLine)(hm:behindInMarks op b=false)(ha:VP X M R a ta)(hb:VP X M R b tb):DW X M R (.Compare a [op] [b] pos) (λG Q=>ta G λx N=>tb N λy n=>dZ op x y λz=>Q z n):=by
 rintro l s F H Q I ⟨A,O,G,P,S,er,p,k⟩;have q:=bin ha hb I (R:=λD C o=>∃x y d n,dZ op x y (λz=>P z n)/\Go A H d o/\SR X.K M d O F o n/\Rep X.K d.B o x D/\Rep X.K d.B o y C) ⟨A,O,G,_,S,er,p,λA1 x D H1 N L g1 S1 rx=>⟨A1,O,N,_,S1,er,L,λd y C o n J Z E ry=>⟨x,y,d,n,J,g1.trans Z,E,Z.rep rx,ry⟩⟩⟩
  (f:=compareOp op) (Q:=EP X l F λz T=>∃b,z=.bl b/\Q b T)<|by rintro v u U D C o I2 rv ru ⟨x,y,d,n,h,g,E,L,J⟩;refine vp hu op l U F o d.B x y D C v u _ _ I2 E.dom rv ru L.b J.b h λw z T pw Y r=>?_;obtain⟨b,rfl,q⟩:=k d w T n pw (g.trans (.same Y)) (E.same Y);exact⟨b,r.bH.j4,q⟩
 refine wpAny_isTrue_Compare1 (cC q λv s1 q1=>cC q1 λu U q2=>cC q2 λc s3 ⟨z,H3,I3,r3,b,ez,q3⟩=>?_) hm;subst ez;cases r3;exact oI ⟨H3,I3,q3⟩
theorem vB(n:∀d,isTrue e X.env d=(do let v<-d;standAt e.pos;holding [v] (truthy v)))(h:VP X M R e t):DW X M R e t:=PT.imp (Eb h n)<|by rintro B H Q ⟨A,w,f,P,S,q,h,k⟩;refine⟨A,w,f,P,S,q,h,λy x C u r l o s g=>?_⟩;obtain⟨b,rfl,z⟩:=k y _ u r l o s;exact⟨b,g.j4,z⟩
theorem Gj(d:DW X M R a ta):M4 X M R (.BoolOp .And [a] pos) ta:=AH d
theorem Ks(z:DW X M R a ta)(w:M4 X M R (.BoolOp .And (b::rest) pos) tb):M4 X M R (.BoolOp .And (a::b::rest) pos) (λg Q=>ta g λx d=>truth x λk=>if k=true then tb d Q else Q (.bl false) d):=
 PW.imp (Ed z w)<|by
  rintro I H Q ⟨A,s,g,P,S,n,h,k⟩;refine⟨A,s,g,_,S,n,h,λu x F o f l r=>?_⟩;obtain⟨q,rfl,f⟩:=bE f;refine⟨q,rfl,?_⟩;cases q with
  |true=>exact⟨u,s,o,P,r,n,f,λG y E C v B D=>k G _ E C v (l.trans B) D⟩
  |false=>obtain⟨b,e,q⟩:=k u _ F o f l r;cases e;exact q
theorem Ku(d:DW X M R a ta):M4 X M R (.BoolOp .Or [a] pos) ta:=Ec d
theorem Qd(z:DW X M R a ta)(w:M4 X M R (.BoolOp .Or (b::rest) pos) tb):M4 X M R (.BoolOp .Or (a::b::rest) pos) (λg Q=>ta g λx d=>truth x λk=>if k=true then Q (.bl true) d else tb d Q):=
 PW.imp (MA z w)<|by
  rintro I H Q ⟨A,s,g,P,S,n,h,k⟩;refine⟨A,s,g,_,S,n,h,λu x F o f l r=>?_⟩;obtain⟨q,rfl,f⟩:=bE f;refine⟨q,rfl,?_⟩;cases q with
  |false=>exact⟨u,s,o,P,r,n,f,λG y E C v B D=>k G _ E C v (l.trans B) D⟩
  |true=>obtain⟨b,e,q⟩:=k u _ F o f l r;cases e;exact q
theorem Kv:IA X M R [] (λd Q=>Q [] d):=PA.imp dX<|by rintro f H Q ⟨A,l,d,P,S,g,h,k⟩;exact k A [] [] H d h (.same (aE.refl H)) S .nil
theorem Gk(w:starEach (a::es) X.env=(false,eval a X.env)::starEach es X.env)(z:VP X M R a ta)(y:IA X M R es tl):IA X M R (a::es) (λd Q=>ta d λx l=>tl l λn g=>Q (x::n) g):=
 PA.imp (bU z y w)<|by rintro I H Q ⟨A,r,d,P,S,q,h,k⟩;refine⟨A,r,d,_,S,q,h,λG x J L l v B D s=>⟨G,r,l,_,D,q,v,λF n K E g f o C u=>?_⟩⟩;exact k F _ _ E g f (B.trans o) C (.cons (o.rep s) u)
theorem V4(O:oz b)(U:VP X M R a ta)(T:VP X M R b tb):VP X M R (.Subscript a b pos) (λr Q=>ta r λx F=>tb F λy o=>O7 x y λz=>Q z o):=PE.imp (ME Ex U T O)<|by
 rintro σ H Q ⟨A,L,r,P,S,K,h,k⟩;refine⟨A,L,r,_,S,K,h,λZ x vx H1 F N D Y f=>⟨Z,L,F,_,Y,K,N,λJ y vy I o d q G u=>?_⟩⟩;have f:=(q.rep f).b;cases x with
 |lst l=>
  cases y with
  |int i=>obtain⟨p,s,rfl,g,C⟩:=f.lst;obtain⟨w,e,d⟩:=d;obtain⟨v,E,B⟩:=BE C e;exact .inl ⟨p,s,i,v,rfl,u.int_inv,.inl g.rd,E,k J _ _ I o d (D.trans q) G B⟩
  |_=>exact d.elim
 |tup l=>
  cases y with
  |int i=>obtain⟨p,s,rfl,g,C⟩:=f.tup;obtain⟨w,e,d⟩:=d;obtain⟨v,E,B⟩:=BE C e;exact .inr (.inl ⟨p,s,i,v,rfl,u.int_inv,g,E,k J _ _ I o d (D.trans q) G B⟩)
  |_=>exact d.elim
 |jY ns=>
  cases y with
  |int i=>obtain⟨p,rfl,g⟩:=f.jY;obtain⟨n,e,d⟩:=d;exact .inl ⟨p,_,i,_,rfl,u.int_inv,g,BF e,k J _ _ I o d (D.trans q) G (f6 _)⟩
  |_=>exact d.elim
 |_=>exact d.elim
theorem ak.bl{K:Frag}:∀{d:List W}{vs:List V},ak K B H d vs->qJ K B H d vs
 |[],_,h=>h.nil_inv
 |w::d,_,h=>by obtain⟨v,r,rfl,g,f⟩:=h.cons_inv;exact⟨v,r,rfl,g.b,f.bl⟩
theorem Qe(L:dS X (.builtin s) (PK X.K y))(I:Gl X x)(G:X.mg x=none)(E:bootBuiltins x=some (.builtin s))(N:IA X M R (e::es) tl)(F:x≠"__name__")(n:(x==("__debug__":Str))=false)
 (J:starEach (e::es) X.env=(false,eval e X.env)::starEach es X.env)(l:(backTo pos (starEach es X.env)).any (·.1)=false):VP X M R (.Call (.Name x p) (e::es) [] pos) (λf Q=>tl f λg d=>vm y g λw=>Q w d):=
 PE.imp (w6 L I G E N F n J l)<|by rintro Z H Q ⟨A,U,f,P,S,T,h,k⟩;exact⟨A,U,f,_,S,T,h,λz g vs H1 u D O o C=>⟨z.B,g,λw=>P w u,o.dom,C.bl,D,λw v Y pw q r=>k z w v Y u pw (O.trans (.same q)) (o.same q) (r.rep o.dom)⟩⟩
theorem Qg(L:dS X (.type s) (PK X.K y))(I:Gl X x)(G:X.mg x=none)(E:bootBuiltins x=some (.type s))(N:IA X M R (e::es) tl)(F:x≠"__name__")(n:(x==("__debug__":Str))=false)
 (J:starEach (e::es) X.env=(false,eval e X.env)::starEach es X.env)(l:(backTo pos (starEach es X.env)).any (·.1)=false):VP X M R (.Call (.Name x p) (e::es) [] pos) (λf Q=>tl f λg d=>vm y g λw=>Q w d):=
 PE.imp (tN L I G E N F n J l)<|by rintro Z H Q ⟨A,U,f,P,S,T,h,k⟩;exact⟨A,U,f,_,S,T,h,λz g vs H1 u D O o C=>⟨z.B,g,λw=>P w u,o.dom,C.bl,D,λw v Y pw q r=>k z w v Y u pw (O.trans (.same q)) (o.same q) (r.rep o.dom)⟩⟩
theorem Ky(o:∀{q:TE},PE X e q->PS X st (pC q (iH j)))(z:¬bq M j){tt:(Addr->Prop)->x8}(B:∀R,VP X M R e (tt R)):VS X M m st (λd n=>tt d.ex n λw f=>d.nx (f.set j (some w))):=by rintro l s u H D I ⟨A,G,n,d,S,C,hz,h,k⟩;exact o (B d.ex) l s u H D I ⟨A,G,n,_,S,C,h,λJ w v F f y g E r=>k.nx J _ _ F g.ab g.s0 y (E.set z r)⟩
theorem Qh(u:∀{y:TE},PE X e y->PS X st (pC y (gT X.K false o)))(hi:∀i∈o,¬bq M i){tt:(Addr->Prop)->x8}(E:∀R,VP X M R e (tt R)):
 VS X M m st (λd q=>tt d.ex q λw f=>match w with|.tup l=>l.length=o.length/\d.nx (cI f o l)|_=>False):=by
 rintro n s B H D I ⟨A,N,q,d,S,F,hz,h,k⟩;refine u (E d.ex) n s B H D I ⟨A,N,q,_,S,F,h,λO w v L f z g G r=>?_⟩;cases w with
 |tup l=>exact tgt (P:=d.nx) hi G r z λQ T C J=>k.nx O _ _ L g.ab g.s0 C J
 |_=>exact z.elim
theorem Qi{x y:List Stmt}{tx v:WS}{tt:(Addr->Prop)->x8}(E:∀R,DW X M R c (tt R))(G:zS X M m x tx)(F:zS X M m y v):VS X M m (.If c x y pos) (λd o=>tt d.ex o λx f=>truth x λk=>if k=true then tx d f else v d f):=by
 rintro l s C H D I ⟨A,u,o,d,S,r,hz,h,k⟩;refine MB (E d.ex) G F l s C H D I ⟨A,u,o,_,S,r,h,λB x J w n g z=>?_⟩;obtain⟨q,rfl,n⟩:=bE n;refine⟨q,rfl,?_⟩;cases q with
 |true=>exact⟨B,u,w,d,z,r,(by rw[g.s0];exact hz),n,by rw[g.ab,g.s0];exact k⟩
 |false=>exact⟨B,u,w,d,z,r,(by rw[g.s0];exact hz),n,by rw[g.ab,g.s0];exact k⟩
theorem Qj{tb:WS}{tt:(Addr->Prop)->x8}(hp:PassesOwn (model X.prog X.w) X.A X.env X.xe)(hc:∀R,DW X M R c (tt R))(hb:zS X M m v tb):VS X M m (.While c v [] pos) (λd G=>VJ (λG Q=>tt d.ex G λx f=>truth x λk=>Q k f) tb d G):=by
 rintro O s σ H D I ⟨A,P,G,d,S,T,hz,h,k⟩;refine wV hp (hc d.ex) hb O s σ H D I ?_;obtain⟨J,⟨m0,j0⟩,L⟩:=h;refine⟨λn o y=>∃r f,r.ab=A.ab/\r.s0=A.s0/\J n f/\SR X.K M r P o y f,⟨m0,A,G,rfl,rfl,j0,S⟩,?_⟩;rintro n σ1 H1 ⟨A1,U,C,u,j1,S1⟩;refine⟨A1,P,U,_,S1,T,L n U j1,λZ x H2 d8 F g Y=>?_⟩;obtain⟨q,rfl,F⟩:=bE F;refine⟨q,rfl,?_⟩;have C:=g.ab.trans C;have u:=g.s0.trans u;cases q with
 |true=>obtain⟨N,hN,F⟩:=F;refine⟨λo y=>∃r f,r.ab=A.ab/\r.s0=A.s0/\N f/\SR X.K M r P o y f,λo y ⟨r,f,E,a2,B,z⟩=>?_,Z,P,d8,⟨N,d.rt,d.nx,N,d.ex⟩,Y,T,(by rw[u];exact hz),F,⟨λr f o y E a2 B z=>⟨r,f,E.trans C,a2.trans u,B,z⟩,by rw[C,u];exact k.rt,λr f o y E a2 B z=>k.nx r f o y (E.trans C) (a2.trans u) B z,λr f o y E a2 B z=>⟨r,f,E.trans C,a2.trans u,B,z⟩⟩⟩;obtain⟨m',l,j'⟩:=hN f B;exact⟨m',l,r,f,E,a2,j',z⟩
 |false=>exact k.nx Z _ _ H2 C u F Y
theorem Qk{te:(Addr->Prop)->WT}(y:∀R,VE X M R .s e (te R))(z:(0,m0)∈M):VS X M (.io m0) (.Return (some e) pos) (λd f=>te d.ex f λw=>match look f 0 with|some o=>(d.rt (.tup [w,o]))|none=>False):=by
 rintro g s u H D I ⟨A,E,f,d,S,B,hz,h,k⟩;refine mQ (y d.ex) g s u H D I ⟨A,E,f,_,S,B,h,λw v C l q r=>?_⟩;cases n:look f 0 with
 |none=>rw[n]at l;exact l.elim
 |some o=>rw[n]at l;exact k.rt _ v C l (S.sm.trans q) (oQ (S.same q) z n (eI.mp hz) r.bH)
theorem Ql(q:(0,m0)∈M):VS X M (.io m0) (.Return none pos) (λd g=>match look g 0 with|some n=>(d.rt (.tup [.cu,n]))|none=>False):=by
 rintro f s o H D I ⟨A,u,g,d,S,r,hz,h,k⟩
 try dsimp only at h
 cases l:look g 0 with
 |none=>rw[l]at h;exact h.elim
 |some n=>rw[l]at h;exact AK f s o H D I (k.rt _ _ H h S.sm (oQ S q l (eI.mp hz) VM))
end
def V5(X:Cx)(M:Ms)(R:Addr->Prop)(t:x8):TI:=λa H Q=>∃A d f P,SR X.K M A d a H f/\ER X d R/\t f P/\∀z e h c,P z h->Go A H e c->SR X.K M e d a c h->∃g,itemsOf z=some g/\∀J b,aE c b->BH X.K false (FB e M a) b J g->Q J b
section
variable{X:Cx}{M:Ms}{m:Md}{body:List Stmt}{tb:WS}{a iter tg:Expr}{pos p:Pos}{one:Bool}{ts:List Nat}
theorem Gm{ti:(Addr->Prop)->x8}(hc:X.calm=true)(hM:∀i∈ts,¬bq M i)(hp:PassesOwn (model X.prog X.w) X.A X.env X.xe)(hi:∀R,PI X tg iter (V5 X M R (ti R)))(hg:PG X tg (gT X.K one ts))(hb:zS X M m body tb)(hs:∀x,foldedSetIterable iter X.env x=pure x):
 VS X M m (.For tg iter body [] pos) (λd ε=>ti d.ex ε λz b=>items z λl=>g9 (λw C b=>wT one ts w b λr=>tb C r) d l b):=by
 rintro Q s σ H D I ⟨A,H0,ε,d,S,er,hz,h,k⟩;refine NY hp hc (hi d.ex) hg hb hs Q s σ H D I ?_;refine⟨A,H0,ε,_,S,er,h,λz P cF H1 hz' g S1=>?_⟩;obtain⟨l,ez,hw⟩:=ud.mp hz';refine⟨l,ez,λJ H2 s2 it=>?_⟩;have S1:=S1.same s2;have ga:=g.ab;have gb:=g.s0;obtain⟨Y,Ss,U,b1,b2⟩:=S1.rb;have low:BH X.K false P.ab Y J l:=it.low (λp o e=>b2 p o e) λp z=>S1.sub' p z;have iw:=low.iw;refine⟨λi n f t=>n=l.length -i/\i<=l.length/\∃c b,c.ab=P.ab/\c.s0=P.s0/\SR X.K M c Y f t b/\g9 (λw C b=>wT one ts w b λr=>tb C r) d (l.drop i) b,⟨l.length,rfl,Os _,P,cF,rfl,rfl,Ss,hw⟩,?_⟩;have up:∀{c:Fz}{f:St}{t:Hp}{b:Ev},SR X.K M c Y f t b->SR X.K M c H0 f t b:=λ{c f t b} q=>by obtain⟨F,O⟩:=q.ow;exact⟨q.len,q.sh,U.trans q.sm,q.dm,q.sl,F,⟨O.un,O.val,O.emp,O.nd,O.ds,λi p hi e=>U.free (O.nw i p hi e),O.na,O.all⟩⟩
 rintro i n σ2 H2 ⟨rfl,hi2,A2,d8,L,G,N,r8⟩;by_cases B:i<l.length
 .refine .inr ⟨iw.go i H2 N.sm B,λf t=>∃c b,c.ab=P.ab/\c.s0=P.s0/\SR X.K M c Y f t b/\g9 (λw C b=>wT one ts w b λr=>tb C r) d (l.drop (i+1)) b,by rintro f t ⟨c,b,E,a2,v,u⟩;exact⟨l.length -(i+1),by omega,rfl,B,c,b,E,a2,v,u⟩,λx H3 y=>?_⟩;have hwi:l[i]?=some l[i]:=D2 B;rw[i3 B,g9]at r8;generalize l[i]=w at*;obtain⟨s3,T⟩:=iw.yl i H2 x H3 w N.sm hwi y;have hr:Rep X.K (FB A2 M σ2) H3 w x:=T _ λp o e z=>by
   obtain⟨F,O⟩:=N.ow;rcases(O.all p).mp z with z|⟨j,hj,e2⟩
   .rw[L]at z;exact z
   .rw[O.nw j p hj e2]at e;cases e
  refine tgt hM (N.same s3) hr r8 λvs b hp S4=>?_;exact⟨A2,Y,b,⟨g9 (λw C b=>wT one ts w b λr=>tb C r) d (l.drop (i+1)),d.rt,d.nx,g9 (λw C b=>wT one ts w b λr=>tb C r) d (l.drop (i+1)),d.ex⟩,S4,er.up U,(by rw[G,gb];exact hz),hp,⟨λc r V6 Z E a2 v u=>⟨c,r,E.trans L,a2.trans G,u,v⟩,λw' v' t v u q3=>k.rt w' v' t v (U.trans u) (by rw[L,G,ga,gb]at q3;exact q3.back U),λc r V6 Z E a2 v u=>k.nx c _ _ _ ((E.trans L).trans ga) ((a2.trans G).trans gb) v (up u),λc r V6 Z E a2 v u=>⟨c,r,E.trans L,a2.trans G,u,v⟩⟩⟩
 .have e:i=l.length:=by lia
  subst e;refine .inl ⟨iw.st _ H2 N.sm rfl,?_⟩;rw[yB,g9]at r8;exact k.nx A2 _ _ _ (L.trans ga) (G.trans gb) r8 (up N)
theorem Qm{ti:(Addr->Prop)->WT}(s:X.calm=true)(u:∀i∈ts,¬bq M i)(o:PassesOwn (model X.prog X.w) X.A X.env X.xe)(hi:∀R,PI X tg iter (Ge X M R false (ti R)))(r:PG X tg (gT X.K one ts))(t:zS X M m body tb)(n:∀x,foldedSetIterable iter X.env x=pure x):
 VS X M m (.For tg iter body [] pos) (λd b=>ti d.ex b λz=>items z λf=>g9 (λw D c=>wT one ts w c λy=>tb D y) d f b):=
 Gm (ti:=λR b Q=>ti R b λz=>Q z b) s u o (λR=>PI.imp (hi R)<|by rintro E H Q ⟨A,C,b,P,S,v,h,k⟩;refine⟨A,C,b,_,S,v,h,λz hz=>?_⟩;obtain⟨f,e,_⟩:=k z A b H hz (.same (aE.refl _)) S;refine⟨f,e,λJ B j l=>?_⟩;obtain⟨F,g,q⟩:=k z A b H hz (.same (aE.refl _)) S;rw[e]at g;cases g;exact q J B j l) r t n
theorem Gp(s:Gl X "range")(q:X.mg "range"=none)(t:VP X M R a ta)(e:starEach [a] X.env=(false,eval a X.env)::starEach [] X.env):
 PI X tg (.Call (.Name "range" p) [a] [] pos) (V5 X M R (λc Q=>ta c λx b=>vn [x] λl=>Q (.lst l) b)):=
 PI.imp (tG s q (bU t dX e) e)<|by
  rintro B H Q ⟨A,y,c,P,S,u,h,k⟩;refine⟨A,y,c,_,S,u,h,λz x i f v hz g w d=>?_⟩;cases x with
  |int j=>obtain⟨o,n,hz⟩:=hz;obtain⟨C,r,k⟩:=k _ z v f hz g w;cases r;have d:i=.int j:=d;subst d;exact⟨j,rfl,o,n,k _ f (aE.refl _) (.jN 0 j.toNat)⟩
  |_=>exact hz.elim
end
section
variable{X:Cx}{M:Ms}{R:Addr->Prop}{m m0:Md}{e o a b c:Expr}{es rest:List Expr}{t ta tb:x8}{tl:M3}{pos apos cpos p:Pos}{i j n:Nat}{st:Stmt}{x:Str}{π:List mJ}
theorem Kz(F:cL X.prog X.w X.K X.mg X.base k fv n (M1 X.K n m sp))(hr:cY k X.A)(hg:Gl X x)(hm:X.mg x=some fv)
 (hn:∀d P R,sp d P R->d.length=n)(ha:IA X M R (e::es) tl)(N:(x==("__debug__":Str))=false)(he:starEach (e::es) X.env=(false,eval e X.env)::starEach es X.env)(L:(backTo pos (starEach es X.env)).any (·.1)=false):
 VP X M R (.Call (.Name x p) (e::es) [] pos) (λD Q=>tl D λd z=>sp d (λw=>Q w z) R):=by
 rintro q s U H Q I ⟨A,H0,D,P,S,er,h,kk⟩;obtain⟨E,Z,hE,hR⟩:=er;refine me (kJ I hg hm ?_ N);refine wa (h₀:=X.base) I.ok.mod.S6 F.keep (cC (ha pos q s U H (λG u=>∃d f g,Go A H f u/\SR X.K M f H0 U u g/\ak X.K f.B u d G/\sp d (λw=>P w g) R) I ⟨A,H0,D,_,S,⟨E,Z,hE,hR⟩,h,λf d G u g hw O l J=>⟨d,f,g,O,l,J,hw⟩⟩) λus s1 ⟨G,u,I1,r,d,f,g,O,l,J,Y⟩=>⟨I1.yJ,?_⟩) he L;exact F.run hr (Z _ _) I1 r ⟨f.B,d,_,R,hn _ _ _ Y,J,l.dom,Y,λw v T pw y r'=>kk f w v T g pw (O.trans (.same y)) (l.same y) (r'.rep l.dom),λC T rc y=>hE C T rc (l.sm.trans y)⟩
theorem M5{K:Frag}{sp:aV}{g:List W}{vs:List V}{P:W->Ev->Prop}{Q:VK}{E:XK}{s:V}(S:SR K M A J l H q)(hi:(i,m0)∈M)(N:look q i=some k)(L:l[i]?=some (some s))(Y:ak K A.B H g vs)(hn:g.length+1=n)
 (h:sp (k::g) (λr=>∃w y,r=.tup [w,y]/\P w (q.set i (some y))) R)(hE:∀C H',R C->aE J H'->E (.ref C) none H')(kk:∀f w v H' d,P w d->Go A H f H'->SR K M f J l H' d->Rep K f.B H' w v->Q v H'):PL K n m0 sp (s::vs) H Q E:=by
 obtain⟨F,O⟩:=S.ow;obtain⟨v,T,h2⟩:=O.val i m0 k hi N;rw[L]at T;cases T;have G:bq M i:=⟨m0,hi⟩;have U:∀p,((A.B p/\p∉F i)\/p∈F i)->A.B p:=λp z=>by
  rcases z with z|z
  .exact z.1
  .exact(O.all p).mpr (.inr ⟨i,G,z⟩)
 refine⟨λp=>A.B p/\p∉F i,F i,k,s,g,vs,_,R,rfl,hn,O.nd i G,λp hp z=>z.2 hp,λp z=>S.dom p z.1,Fp.mv (aE.refl _) (λp _ _ z=>U p z) m0 h2,Y.less U,h,λw y v F' H' D I nd nw fp u=>?_,λC H' Z I=>hE C H' Z λp o e=>?_⟩
 .obtain⟨w',y',e,D⟩:=D;cases e;obtain⟨f,a1,a2,aB,a3,a4,S'⟩:=O.chg (F':=F') S hi N L (λp o e=>(I p o e).imp (λz=>⟨z.1,z.2⟩) id) nd nw fp;exact kk f w v H' _ D ⟨a1,a2,a3,a4⟩ S' (u.less λp z=>(aB p).mp z)
 .rcases I p o (S.sm p o e)with⟨_,z⟩|z
  .rw[O.nw i p G z]at e;cases e
  .exact z
theorem Qn(F:cL X.prog X.w X.K X.mg X.base k fv n (PL X.K n m0 sp))(hr:cY k X.A)(hg:Gl X x)(hm:X.mg x=some fv)(hi:(i,m0)∈M)
 (hn:∀f P R,sp f P R->f.length=n)(hv:PE X e (kI i))(ha:IA X M R es tl)(Z:(x==("__debug__":Str))=false)(he:starEach (e::es) X.env=(false,eval e X.env)::starEach es X.env)(U:(backTo pos (starEach es X.env)).any (·.1)=false):
 VP X M R (.Call (.Name x p) (e::es) [] pos) (λG Q=>match look G i with|some _=>(tl G λf l=>match look l i with|some q=>sp (q::f) (λr=>∃w y,r=.tup [w,y]/\Q w (l.set i (some y))) R|none=>False)|none=>False):=by
 rintro J s σ H Q I ⟨A,H0,G,P,S,er,h,kk⟩;obtain⟨E,pE,hE,hR⟩:=er
 try dsimp only at h
 cases Y:look G i with
 |none=>rw[Y]at h;exact h.elim
 |some w1=>
  rw[Y]at h;obtain⟨F0,O0⟩:=S.ow;obtain⟨v0,L,_⟩:=O0.val i m0 w1 hi Y;refine me (kJ I hg hm ?_ Z);refine wa (h₀:=X.base) I.ok.mod.S6 F.keep (cC (bU hv ha he pos J s σ H (λO N=>∃f u D C q,O=v0::u/\Go A H D N/\SR X.K M D H0 σ N C/\ak X.K D.B N f u/\look C i=some q/\sp (q::f) (λr=>∃w y,r=.tup [w,y]/\P w (C.set i (some y))) R) I ⟨v0,L,A,H0,G,_,S,⟨E,pE,hE,hR⟩,h,λD f O N C z g1 S1 T=>?_⟩) λus s1 ⟨O,N,I1,r,f,u,D,C,q,ev,g1,S1,T,d,wJ⟩=>⟨I1.yJ,?_⟩) he U
  .try dsimp only at z
   cases d:look C i with
   |none=>rw[d]at z;exact z.elim
   |some q=>rw[d]at z;exact⟨f,O,D,C,q,rfl,g1,S1,T,d,z⟩
  .subst ev;exact F.run hr (pE _ _) I1 r (M5 S1 hi d L T (by have:=hn _ _ _ wJ;simpa using this) wJ hE λA' w v H' l z g S' rr=>kk A' w v H' l z (g1.trans g) S' rr)
end
theorem Qo:∀(l:List Str)(r:List V),l.contains x=false->(l.zip r).lookup x=none:=λl=>by
 induction l with
 |nil=>intro r _;rfl
 |cons y l b=>
  intro r a;cases r with
  |nil=>rfl
  |cons z r=>rw[List.contains_cons,Bool.or_eq_false_iff]at a;rw[Ih,Ck,a.1];exact b r a.2
theorem Qp{n:Nat}:∀(l:List Str)(r:List V)(n:Nat),l.Nodup->l[n]?=some x->r[n]?=some v->(l.zip r).lookup x=some v:=λl=>by
 induction l with
 |nil=>intro r n _ e _;exact nn e
 |cons y l g=>
  intro r n b c a;cases r with
  |nil=>exact nn a
  |cons z r=>
   rw[Ih,Ck];cases n with
   |zero=>
    cases c;cases a;rw[t5]
   |succ n=>
    have d:l[n]?=some x:=by simpa using c
    have f:(x==y)=false:=by rw[oT];rintro rfl;exact(du.mp b).1 (Mo d)
    rw[f];exact g r n (du.mp b).2 d (by simpa using a)
theorem KA:∀(l:List Str)(r:List V)(n:Nat),l.Nodup->l[n]?=some x->r.length=l.length->gS x v (l.zip r)=l.zip (r.set n v):=λl=>by
 induction l with
 |nil=>intro r n _ e _;exact nn e
 |cons y l g=>
  intro r n b d c;cases r with
  |nil=>cases c
  |cons z r=>
   cases n with
   |zero=>
    cases d;rw[List.set_cons_zero,Ih,Ih,gS];rw[D1 (by first|rfl|simp)]
   |succ n=>
    have f:l[n]?=some x:=by simpa using d
    have a:y≠x:=by rintro rfl;exact(du.mp b).1 (Mo f)
    rw[bX,Ih,Ih,gS];rw[Bz (by first|exact a|simpa using a),g r n (du.mp b).2 f (by simpa using c)]
section
variable{X:Cx}{M:Ms}{R:Addr->Prop}{m m0:Md}{e o a b c:Expr}{es rest:List Expr}{t ta tb:x8}{tl:M3}{pos apos cpos p:Pos}{i j n:Nat}{st:Stmt}{x:Str}{π:List mJ}
theorem KC{G:W}{ms:List Md}{sp:aV}(hG:∀C,G=.cls C->Meth X.K C x f)(F:cA X.prog X.w X.K X.mg X.base (jB X.prog X.w) k f Y ps (PL X.K n (.o D ms) sp))(hr:cY k X.A)(hb:Binds X.K Y ps [])(hi:(i,.o D ms)∈M)(hx:D.contains x=false)
 (hn:∀T P R,sp T P R->T.length=n)(hv:PE X o (kI i))
 (ht:eval (.Call (.Attribute o x apos) [] [] pos) X.env=(do
   let ov<-eval o X.env
   standAt apos.atName
   let(f,first)<-holding [ov] (getMethod ov x pl)
   callWith pos f first (backTo pos (starEach [] X.env)) (backToKw pos (keywordEach [] X.env)))):
 VP X M R (.Call (.Attribute o x apos) [] [] pos) (λd Q=>match look d i with|some (.obj C _ _)=>G=.cls C/\(match look d i with|some w0=>sp [w0] (λr=>∃w y,r=.tup [w,y]/\Q w (d.set i (some y))) R|none=>False)|_=>False):=by
 rintro l s Z H Q I ⟨A,H0,d,P,S,er,h,kk⟩;obtain⟨E,pE,hE,hR⟩:=er
 try dsimp only at h
 cases B:look d i with
 |none=>rw[B]at h;exact h.elim
 |some w1=>
  rw[B]at h;cases w1 with
  |obj C fs' ws1=>obtain⟨hg,h⟩:=h;obtain⟨F0,O0⟩:=S.ow;obtain⟨v0,z,N⟩:=O0.val i _ _ hi B;obtain⟨C',dx,nU,q,L,F',e1,rfl,e3,h1,h2,hc,_⟩:=N;cases e1;have U:=hG C hg;refine PySem.W.methodCall_KW (pl:=pl) (cC (hv l s Z H (λv' O=>v'=V.ref q/\O=H) I ⟨_,z,rfl,rfl⟩) λu s1 ⟨x1,H1,I1,rx,ex,eh⟩=>?_) ht;subst ex;subst eh;obtain rfl:u=Value.ref q:=rx;refine yS I1 h1 hc.1 U (Qo D L hx) ?_;refine PySem.W.callWith_K0 (first:=[.ref q]) I1.yJ U.kp (Et (us:=[.ref q]) (vs:=[.ref q]) (ds:=[]) (Im:=[]) F hr hb .nil (pE _ _) I1 (.cons rfl .nil) ?_);exact M5 S hi B z .nil (by have:=hn _ _ _ h;simpa using this) h hE λA' w v O J hw g S' rr=>kk A' w v O J hw g S' rr
  |_=>exact h.elim
theorem SR.more{K:Frag}{G:List Addr}(S:SR K M A u h H k)(s:aE H H1)(nw:∀q∈G,H q=none)(ex:∀q∈G,∃o,H1 q=some o):SR K M ⟨λq=>A.ab q\/q∈G,λq=>A.B q\/q∈G,A.s0⟩ u h H1 k:=by
 obtain⟨F,O⟩:=S.ow;have r:∀p o,H p=some o->(A.B p\/p∈G)->A.B p:=λp o e z=>by
  rcases z with z|z
  .exact z
  .rw[nw p z]at e;cases e
 refine⟨S.len,λi w d e=>?_,S.sm.trans s,λp z=>?_,S.sl,F,⟨O.un,λi m w y e=>?_,O.emp,O.nd,O.ds,O.nw,λi p d l z=>?_,λp=>?_⟩⟩
 .obtain⟨v,g,f⟩:=S.sh i w d e;exact⟨v,g,Rep.mv s r w f⟩
 .rcases z with z|z
  .exact S.dm.same s p z
  .exact ex p z
 .obtain⟨v,g,f⟩:=O.val i m w y e;exact⟨v,g,Fp.mv s r m f⟩
 .rcases z with z|z
  .exact O.na i p d l z
  .obtain⟨o,e,_⟩:=O.has d l;rw[nw p z]at e;cases e
 .show(A.B p\/p∈G)↔_;rw[O.all p];constructor
  .rintro((z|z)|z)
   .exact .inl (.inl z)
   .exact .inr z
   .exact .inl (.inr z)
  .rintro((z|z)|z)
   .exact .inl (.inl z)
   .exact .inr z
   .exact .inl (.inr z)
theorem Qq{ta:WT}(F:cL X.prog X.w X.K X.mg X.base k fv n (PL X.K n m0 sp))(hr:cY k X.A)(hg:Gl X x)(hm:X.mg x=some fv)
 (hn:∀f P R,sp f P R->f.length=n)(hv:VE X M R m0 e ta)(ha:VA X M R es ts)(hdb:(x==("__debug__":Str))=false)(he:starEach (e::es) X.env=(false,eval e X.env)::starEach es X.env)(hpl:(backTo pos (starEach es X.env)).any (·.1)=false):
 VE X M R .s (.Call (.Name x p) (e::es) [] pos) (λJ Q=>ta J λx=>ts J λf=>sp (x::f) (λr=>∃w y,r=.tup [w,y]/\Q w) R):=by
 rintro L s σ H Q I ⟨A,H0,J,P,S,er,h,kk⟩;obtain⟨E,pE,hE,hR⟩:=er;refine me (kJ I hg hm ?_ hdb);refine wa (h₀:=X.base) I.ok.mod.S6 F.keep (cC (bU hv ha he pos L s σ H (λvs O=>∃g l f d G,vs=l::d/\aE H O/\G.Nodup/\(∀q∈G,H q=none)/\Fp X.K (λq=>A.B q\/q∈G) O m0 g l G/\ak X.K (λq=>A.B q\/q∈G) O f d/\sp (g::f) (λr=>∃w y,r=.tup [w,y]/\P w) R) I ⟨A,H0,J,_,S,⟨E,pE,hE,hR⟩,h,λg l H1 N Z r0=>?_⟩) λus Z ⟨vs,O,I2,r,g,l,f,d,G,ev,sm,nd,D,U,rs,wJ⟩=>⟨I2.yJ,?_⟩) he hpl
 .obtain⟨G,nd,D,U⟩:=r0;have S1:=S.more Z D λq hq=>let⟨o,e,_⟩:=Fp.mu m0 U q hq;⟨o,e⟩
  exact⟨_,H0,J,_,S1,⟨E,pE,hE,hR⟩,N,λf d O hws T rs=>⟨g,l,f,d,G,rfl,Z.trans T,nd,D,Fp.mv T (λ_ _ _ z=>z) m0 U,rs,hws⟩⟩
 .subst ev;refine F.run hr (pE _ _) I2 r ⟨A.B,G,g,l,f,d,_,R,rfl,by have:=hn _ _ _ wJ;simpa using this,nd,λq hq=>S.dom.no (D q hq),S.dom.same sm,U,rs,wJ,λw y v F' Y N hc _ V7 _ rw'=>?_,λC Y rc hc=>hE C Y rc λq u e=>?_⟩
  .obtain⟨w',y',e,N⟩:=N;cases e;have T:aE H Y:=λq u e=>by
    rcases hc q u (sm q u e)with⟨_,z⟩|z
    .rw[D q z]at e;cases e
    .exact z
   exact kk w v Y N T (.of (rw'.less λq z=>.inl z))
  .have e2:=S.sm q u e;rcases hc q u (sm q u e2)with⟨_,z⟩|z
   .rw[D q z]at e2;cases e2
   .exact z
theorem Qt(h:PE X e (kI i)):PE X e (zO X.K i []):=PE.imp h<|by rintro g H Q ⟨v,u,f,d,q⟩;cases d;exact⟨v,f,q⟩
theorem Ir.fl{K:Frag}:∀(π:List mJ){v u:V},Ir K H v (π++[.fl n f]) u->∃p vs C g d,Ir K H v π (.ref p)/\H p=some (.ins C g (List.zip d vs))/\zF K C d/\d[n]?=some f/\vs[n]?=some u
 |[],v,u,h=>by obtain⟨p,vs,x,e,⟨C,g,d,s,_,y,w⟩,r,l⟩:=h;cases l;exact⟨p,vs,C,g,d,by rw[e];rfl,s,y,w,r⟩
 |.fl m _::π,v,u,h=>by obtain⟨p,vs,x,e,s,r,l⟩:=h;obtain⟨q,k,C,g,d,a,b,c⟩:=Ir.fl π l;exact⟨q,k,C,g,d,⟨p,vs,x,e,s,r,a⟩,b,c⟩
theorem Qu(h:PE X a (zO X.K i π))(s:attributeBase a f X.env (eval a X.env)=eval a X.env):PE X (.Attribute a f pos) (zO X.K i (π++[.fl n f])):=
 PE.imp (N8 h s)<|by rintro E H Q ⟨v,u,A,z,l⟩;obtain⟨q,k,C,D,B,r,y,d,g,w⟩:=Ir.fl π z;exact⟨v,.ref q,A,r,q,C,D,_,u,rfl,y,d.1,d.2.2.2 f (Mo g),Qp (v:=u) (n:=n) B k n d.2.2.1 g w,l⟩
theorem Qv{te:(Addr->Prop)->WT}(hps:∀{tv:TE},PE X e tv->PS X st (UJ X.K (kI i) tv f))(hi:(i,.o g ms)∈M)(hf:g[n]?=some f)(hm:ms[n]?=some .s)(he:∀R,VE X M R .s e (te R)):
 VS X M m st (λd y=>te d.ex y λw=>match look y i with|some (.obj C g u)=>n<u.length/\d.nx (y.set i (some (.obj C g (u.set n w))))|_=>False):=by
 rintro J s σ H D I ⟨A,H0,y,d,S,er,hz,h,k⟩;refine hps (he d.ex) J s σ H D I ⟨A,H0,y,_,S,er,h,λw v H1 l s1 r=>?_⟩
 try dsimp only at l
 cases T:look y i with
 |none=>rw[T]at l;exact l.elim
 |some w1=>
  rw[T]at l;cases w1 with
  |obj C fs' u=>
   obtain⟨hn,l⟩:=l;have S1:=S.same s1;obtain⟨F,O⟩:=S1.ow;obtain⟨v0,N,fp⟩:=O.val i _ _ hi T;obtain⟨C',Q,nU,q,E,F',e1,rfl,Y,U,h2,P,h3⟩:=fp;cases e1;have r:=r.bH;have hB:A.B q:=(O.all q).mpr (.inr ⟨i,⟨_,hi⟩,by rw[Y];exact FS⟩);obtain⟨w0,Z⟩:∃w0,u[n]?=some w0:=⟨_,D2 hn⟩;obtain⟨v1,F1,G,F2,q1,e4,q3,q4⟩:=jo.at ms h3 hm Z;obtain⟨rfl,_⟩:=q3;have cB:wN A.B H1 (upd H1 q (.ins C Q (g.zip (E.set n v)))):=.put U rfl hB;have Zo:q∉F':=by have:=O.nd i ⟨_,hi⟩;rw[Y]at this;exact(du.mp this).1
   have fp':jo X.K A.B (upd H1 q (.ins C Q (g.zip (E.set n v)))) ms (u.set n w) (E.set n v) F':=by
    rw[e4];refine q4 _ A.B w v [] ?_ (λp o e=>?_) (λ_ _ _ z=>z)
    .exact⟨rfl,Rep.chg cB (λ_ _ _ z=>z) w r⟩
    .by_cases L:p=q
     .subst L;rw[U]at e;cases e;refine .inl ⟨rfl,hB,λz=>Zo ?_⟩;rw[e4];rcases SL.mp z with z|z<;>simp[z]
     .exact .inr (by rw[ay L];exact e)
   refine⟨_,N,q,C,Q,_,rfl,U,P.1,P.2.2.2 f (Mo hf),?_,?_⟩
   .rw[List.length_zip,h2,Nat.min_self];exact P.2.1
   .rw[KA g E n P.2.2.1 hf h2];obtain⟨A',a1,a2,_,_,_,S'⟩:=O.chg (F':=F i) (H1:=upd H1 q (.ins C Q (g.zip (E.set n v)))) (w':=.obj C g (u.set n w)) S1 hi T N (λp o e=>by
     by_cases L:p=q
     .subst L;rw[U]at e;cases e;exact .inl ⟨rfl,by rw[Y];exact FS⟩
     .exact .inr (by rw[ay L];exact e)) (O.nd i ⟨_,hi⟩) (λp hp=>.inl hp) (Fp.mv (aE.refl _) (λp _ _ z=>by
      rcases z with z|z
      .exact z.1
      .exact(O.all p).mpr (.inr ⟨i,⟨_,hi⟩,z⟩)) _ (by exact⟨C,Q,u.set n w,q,E.set n v,F',rfl,rfl,Y,aJ,by rw[XB];exact h2,P,fp'⟩))
    exact k.nx A' _ _ _ a1 a2 l S'
  |_=>exact l.elim
end
end VL
namespace L2
open PySem PySem.Spec PyProof.Rows
section
variable{pr:Program}{wo:World}{B:Around}{EE:Value->Shared->Prop}
end
section
variable{X:Cx}{pos:Pos}
end
end L2
namespace VL
open PySem PySem.Spec
open PyProof.Rows hiding St
open L2
section
variable{K:Frag}{M M':Ms}{A:Fz}{H0 H H1:Hp}{σ:St}{ε:Ev}
end
section
variable{X:Cx}{M M':Ms}{m:Md}{st:Stmt}{te:(Addr->Prop)->WT}
end
section
variable{K:Frag}{B B':Addr->Prop}{H:Hp}
mutual
theorem Rep.Iv(w:W)(h:Iv w=true)(r:Rep K B H w v):Rep K B' H w v:=by
 cases w with
 |tup l=>obtain⟨p,a,e,c,b⟩:=r;exact⟨p,a,e,c,ak.Iv l h b⟩
 |_=>first|exact ff h|(dsimp only[Rep]at r⊢;exact r)
theorem ak.Iv:∀(l:List W){vs:List V},FY l=true->ak K B H l vs->ak K B' H l vs
 |[],_,_,r=>by dsimp only[ak]at r⊢;exact r
 |w::l,vs,h,r=>by obtain⟨v,us,rfl,b,a⟩:=r.cons_inv;rw[FY,DL]at h;exact .cons (Rep.Iv w h.1 b) (ak.Iv l h.2 a)
end
mutual
theorem Fp.flat(m:Md)(h:Fp K B H m w v F)(f:flat m w=true)(n:∀p∈F,¬B' p):Rep K B' H w v:=by
 cases m with
 |s=>exact Rep.Iv w f h.2
 |f=>obtain⟨a,p,b,rfl,rfl,rfl,d,c⟩:=h;exact⟨p,b,rfl,n p (Fh.mpr rfl),.inl d,ak.Iv a f c⟩
 |_=>exact ff f
end
end
section
variable{X:Cx}{M M':Ms}{m m0:Md}{st:Stmt}{ti:(Addr->Prop)->WT}{tc te:WT}{one:Bool}{ts:List Nat}{i n:Nat}
end
section
variable{K:Frag}{M:Ms}{A:Fz}{H0 H:Hp}{σ:St}{ε:Ev}
end
section
variable{X:Cx}{M:Ms}{m:Md}{st:Stmt}{tg it e o:Expr}{j a b:Nat}{pos q:Pos}{x0:W}{te:WT}
end
section
variable{K:Frag}{M M':Ms}{A:Fz}{H0 Hs H H1:Hp}{σ:St}{ε:Ev}
end
section
variable{X:Cx}{M M':Ms}{m:Md}{st:Stmt}{ti:(Addr->Prop)->WT}{te:x8}{i:Nat}
theorem Qw(o:IA X M R j tl):VP X M R (.List j pos) (λb Q=>tl b λc a=>c.length<=sizeLine/\Q (.lst c) a):=PE.imp (yW o)<|by rintro t H Q ⟨A,r,b,P,S,q,h,k⟩;refine⟨A,r,b,_,S,q,h,λs c n u a e g l d=>⟨by rw[ak.len d];exact e.1,λp f=>?_⟩⟩;have sm:=aU f (.lst n);exact k s _ _ _ a e.2 (g.trans (.same sm)) (l.same sm) ((di.fresh (aE.refl _) f d).rep l.dom)
theorem Qx(o:IA X M R f tl):VP X M R (.Tuple f j pos) (λb Q=>tl b λc a=>c.length<=sizeLine/\Q (.tup c) a):=PE.imp (Es o)<|by rintro u H Q ⟨A,s,b,P,S,q,h,k⟩;refine⟨A,s,b,_,S,q,h,λt c l v a e g r d=>⟨by rw[ak.len d];exact e.1,λp n=>?_⟩⟩;have sm:=aU n (.tup l);exact k t _ _ _ a e.2 (g.trans (.same sm)) (r.same sm) (zH aJ (ak.same sm d))
end
section
variable{K:Frag}{B:Addr->Prop}{H:Hp}{j:Int}
end
section
variable{X:Cx}{M:Ms}{R:Addr->Prop}{o e f:Expr}{te tf:WT}{i:Nat}{pos:Pos}
end
section
variable{X:Cx}{M M':Ms}{m:Md}{st:Stmt}{i:Nat}{e e1:Expr}{te t1:(Addr->Prop)->WT}
end
section
variable{K:Frag}{M:Ms}{A:Fz}{H0 H:Hp}{σ:St}{ε:Ev}
end
section
variable{X:Cx}{M M':Ms}{m:Md}{st:Stmt}{tg it tg2 it2 e:Expr}{j a b t y:Nat}{pos pos2:Pos}{te:WT}
end
end VL
namespace L2
open PySem PySem.Spec PyProof.Rows PySem.W
section
variable{prog:Program}{w:World}{A:Around}{E:Value->Shared->Prop}{s:Shared}
end
section
variable{prog:Program}{w:World}{A:Around}{E:Value->Shared->Prop}{s:Shared}{a I tp:Addr}{es:Array (Int×Value)}{ep i:Nat}{t:SetTable}{vs:List Value}
theorem qz:Slot "set_iterator" "__iter__" "set_iterator.__iter__":=.of (owner:="set_iterator") (n:="__iter__") (by rw[typeLookup_type,builtinLookup_eq_fast];kernel_rfl) (by decide+kernel) (by decide+kernel) (by decide+kernel) (by first|exact .inl (by decide+kernel)|exact .inr (by decide+kernel)) (by rw[isSubtype_type];kernel_rfl)
end
section
variable{X:Cx}
end
section
variable{prog:Program}{w:World}{A:Around}{E:Value->Shared->Prop}{s:Shared}{a:Addr}{es:Array (Int×Value)}{ep:Nat}{t:SetTable}
end
section
variable{X:Cx}
end
end L2
namespace VL
open PySem PySem.Spec
open PyProof.Rows hiding St
open L2
section
variable{X:Cx}{M:Ms}{R:Addr->Prop}{e a b c o:Expr}{ta tb tc:WT}{m:Md}{pos p:Pos}{x:Str}{i:Nat}
theorem Qy{lo hi:Option Expr}(D:VB X M R a ta)(r:PO X lo (PJ X M R tl))(f:PO X hi (PJ X M R v)):VE X M R .s (.Subscript a (.Slice lo hi none p2) pos) (λd Q=>ta d λx=>tl d λl=>v d λh=>O8 x l h Q):=
 PE.imp (xh Od D r f)<|by
  rintro F H Q ⟨A,u,d,P,S,t,h,k⟩;refine⟨A,u,d,_,S,t,h,λx I L C j n=>⟨A,u,d,_,S.same j,t,C,λl K r g=>⟨A,u,d,_,S.same (j.trans g),t,r,λh J f w=>?_⟩⟩⟩;have n:=bu.same (g.trans w) n;cases x with
  |tup G=>obtain⟨p,B,rfl,E,z⟩:=n.tup;refine⟨p,B,rfl,E,by rw[z.len];exact f.1,λq y=>?_⟩;exact k _ _ _ f.2 (((j.trans g).trans w).trans (aU y _)) (.of (zH aJ (ak.same (aU y _) (Ga z l h))))
  |_=>exact f.elim
end
section
variable{X:Cx}{M M':Ms}{m m0:Md}{st:Stmt}{i n:Nat}{e e1:Expr}{te t1:(Addr->Prop)->WT}{π:List mJ}
section
variable{K:Frag}{B:Addr->Prop}{H:Hp}{j:Str}
end
end
section
variable{X:Cx}{M:Ms}{R:Addr->Prop}{m:Md}{e:Expr}{es:List Expr}{tl:M3}{pos p:Pos}{i:Nat}{x:Str}
theorem Qz{tt:(Addr->Prop)->x8}(u:∀R,VP X M R e (tt R))(y:(0,n)∈M):VS X M (.io n) (.Return (some e) pos) (λd f=>tt d.ex f λw a=>match look a 0 with|some l=>d.rt (.tup [w,l])|none=>False):=by
 rintro b s t H D I ⟨A,C,f,d,S,z,hz,h,k⟩;refine mQ (u d.ex) b s t H D I ⟨A,C,f,_,S,z,h,λE w v B a c g o r=>?_⟩;cases j:look a 0 with
 |none=>rw[j]at c;exact c.elim
 |some l=>rw[j]at c;have q:=oQ o y j (eI.mp (by rw[g.s0];exact hz)) r;rw[g.ab,g.s0]at q;exact k.rt _ v B c o.sm q
end
section
variable{K:Frag}{A B:Addr->Prop}{H H':Hp}
end
open Classical in
section
variable{K:Frag}{M:Ms}{A:Fz}{H0 H:Hp}{σ:St}{ε:Ev}{i n:Nat}{fs:List Str}{ms:List Md}{C:Addr}{ws l:List W}
end
section
variable{X:Cx}{M:Ms}{m:Md}{st:Stmt}{i n:Nat}{e:Expr}{fs:List Str}{ms:List Md}{x:Str}
end
section
variable{X:Cx}{M:Ms}{R:Addr->Prop}{e a b o:Expr}{ta:WT}{m:Md}{pos p:Pos}{es:List Expr}{x:Str}
end
end VL
namespace L2
open PySem PySem.Spec
open PyProof.Rows hiding St
theorem KD(l:List Value)(k:Nat)(y:Value):(l.toArray.extract 0 k).push y++l.toArray.extract k=(l.take k++y::l.drop k).toArray:=by apply Array.toList_inj.mp;simp;exact zz7 (by simp)
section
variable{X:Cx}
def BJ:V->List V->Hp->VK->Prop:=λx b H Q=>∃l a j y,x=.ref l/\b=[.int j,y]/\H l=some (.lst a)/\0<=j/\j<=(a.length:Int)/\a.length<sizeLine/\Q .cu (upd H l (.lst (a.take j.toNat++y::a.drop j.toNat)))
theorem Dc:YE X "list.insert" BJ:=by
 intro b s o H x p v t Q I g rv h;obtain⟨l,d,j,y,rfl,rfl,c,B,A,hz,q⟩:=h;cases g;obtain⟨w,u,rfl,k,i⟩:=rv.two;obtain⟨f,rfl⟩:=k;obtain⟨z,a,n,r,C,e⟩:=I.Oi c;have m:Builtin.List.listFitsIndex j=true:=by have:d.length<2^63:=Fm hz (by decide);unfold Builtin.List.listFitsIndex;simp;lia
 refine call_meets F.slot_list_insert ⟨_,e,rfl⟩ F.entry_list_insert (F.args_list_insert_3 _ _ _) (PySem.AutoSeq1.list_insert_list_int_val_1 l a.toArray n j f u (by simp[m]) (by rw[Hk];lia)) ⟨e,?_⟩;refine⟨.cu,_,I.Oh (its':=a.take j.toNat++u::a.drop j.toNat) c e ?_ ((r.take _).append (.cons i (r.drop _))) ?_,rfl,q⟩
 .show(a.toArray.extract 0 (if j<0 then(j+(a.toArray.size:Int)).toNat else min j.toNat a.toArray.size)).push u++a.toArray.extract (if j<0 then(j+(a.toArray.size:Int)).toNat else min j.toNat a.toArray.size)=_;rw[Bz (by lia),show min j.toNat a.toArray.size=j.toNat by rw[Hk];lia];exact KD _ _ _
 .rw[KB,Av,cx,yA];lia
end
end L2
namespace VL
open PySem PySem.Spec
open PyProof.Rows hiding St
open L2
theorem QA{st:Stmt}{te t1:(Addr->Prop)->WT}(t:∀{ta y:TE},PE X q ta->PE X e y->PS X st (Ej (YD X.K "list" BJ (kI i) (AO ta (AO y N9)))))(hi:(i,.f)∈M)(Y:∀R,VE X M R .s q (t1 R))(U:∀R,VE X M R .s e (te R)):
 VS X M m st (λd a=>match look a i with|some (.lst l)=>t1 d.ex a λx=>te d.ex a λw=>(match x with|.int j=>(0<=j/\j<=(l.length:Int)/\l.length<sizeLine)/\d.nx (a.set i (some (.lst (l.take j.toNat++w::l.drop j.toNat))))|_=>False)|_=>False):=by
 rintro g s J H D I ⟨A,G,a,d,S,E,hz,h,k⟩;obtain⟨l,q,h⟩:=vA h;obtain⟨v0,p,n,h1,Z,C,u,hB,c⟩:=oO (π:=[]) S hi XE q Kg;cases Z;refine t (Y d.ex) (U d.ex) g s J H D I ⟨_,h1,.inl ⟨rfl,n,.inl (.inl C)⟩,A,G,a,_,S,E,h,λx vx H1 Q z N=>⟨A,G,a,_,S.same z,E,Q,λw v H2 o L r=>?_⟩⟩;cases x with
 |int j=>obtain⟨⟨P,O,T⟩,o⟩:=o;have b:=z.trans L;have B:=u.same b;obtain⟨A',a1,a2,_,_,F⟩:=c H2 b (l.take j.toNat++w::l.drop j.toNat) (n.take j.toNat++v::n.drop j.toNat) ((B.take _).app (.cons r.bH (B.drop _)));rw[Kh]at F;refine⟨p,n,j,v,rfl,?_,b _ _ C,P,by rw[u.len];exact O,by rw[u.len];exact T,k.nx A' _ _ _ a1 a2 o F⟩;rw[N.bH.int_inv]
 |_=>exact o.elim
theorem a2(z:(a&&b)=true):a=true/\b=true:=by cases a<;>cases b<;>first|exact⟨rfl,rfl⟩|exact ff z
theorem a3(z:((a&&b)&&c)=true):(a=true/\b=true)/\c=true:=⟨a2 (a2 z).1,(a2 z).2⟩
theorem a4(z:(a&&b&&c&&d)=true):((a=true/\b=true)/\c=true)/\d=true:=⟨a3 (a2 z).1,(a2 z).2⟩
theorem a5(z:(a&&b&&c&&d&&e)=true):(((a=true/\b=true)/\c=true)/\d=true)/\e=true:=⟨a4 (a2 z).1,(a2 z).2⟩
theorem a6(z:(a&&b&&c&&d&&e&&f)=true):((((a=true/\b=true)/\c=true)/\d=true)/\e=true)/\f=true:=⟨a5 (a2 z).1,(a2 z).2⟩
theorem a7(z:(a&&b&&c&&d&&e&&f&&g)=true):(((((a=true/\b=true)/\c=true)/\d=true)/\e=true)/\f=true)/\g=true:=⟨a6 (a2 z).1,(a2 z).2⟩
theorem a8(z:(a&&b&&c&&d&&e&&f&&g&&h)=true):((((((a=true/\b=true)/\c=true)/\d=true)/\e=true)/\f=true)/\g=true)/\h=true:=⟨a7 (a2 z).1,(a2 z).2⟩
theorem a9(z:(a&&b&&c&&d&&e&&f&&g&&h&&i)=true):(((((((a=true/\b=true)/\c=true)/\d=true)/\e=true)/\f=true)/\g=true)/\h=true)/\i=true:=⟨a8 (a2 z).1,(a2 z).2⟩
theorem a10(z:(a&&b&&c&&d&&e&&f&&g&&h&&i&&j)=true):((((((((a=true/\b=true)/\c=true)/\d=true)/\e=true)/\f=true)/\g=true)/\h=true)/\i=true)/\j=true:=⟨a9 (a2 z).1,(a2 z).2⟩
structure SE where
 N:List Str
 nk:List (Str×NameKind)
 M:Ms
 fn:List Str
 gn:List Str
 zn:List Str
 md:List Md
 mt:List (Nat×Nat)
noncomputable def fO:List Md->Nat->Md
 |[],_=>.s
 |x::_,0=>x
 |_::l,n+1=>fO l n
noncomputable def Tw:Md->Bool
 |.f=>true
 |_=>false
noncomputable def KG:Md->Bool
 |.s=>true
 |_=>false
noncomputable def x9(M:Ms)(i:Nat):Bool:=(M.lookup i).isSome
theorem lJ(h:x9 M i=false):¬bq M i:=by
 rintro⟨m,d⟩;unfold x9 at h;have:∀M:Ms,(i,m)∈M->(M.lookup i).isSome=true:=λM=>by
  induction M with
  |nil=>intro z;cases z
  |cons x M c=>
   intro z;obtain⟨a,b⟩:=x;rw[Ck];cases e:i==a with
   |true=>rfl
   |false=>
    rcases IH.mp z with z|z
    .cases z;rw[t5]at e;cases e
    .exact c z
 rw[this M d]at h;cases h
theorem iW{M:Ms}(h:M.lookup i=some m):(i,m)∈M:=by
 induction M with
 |nil=>exact nn h
 |cons x M c=>
  obtain⟨a,b⟩:=x;rw[Ck]at h;cases e:i==a with
  |true=>rw[e]at h;cases h;cases Qb.mp e;exact FS
  |false=>rw[e]at h;exact FM _ (c h)
noncomputable def ya(M:Ms)(i:Nat):Bool:=match M.lookup i with
 |none=>true
 |some m=>Tw m
theorem yb(h:ya M i=true):bq M i->(i,.f)∈M:=λa=>by
 unfold ya at h;cases e:M.lookup i with
 |none=>exact(lJ (by unfold x9;rw[e];rfl) a).elim
 |some m=>rw[e]at h;cases m<;>first|exact iW e|exact ff h
noncomputable def zT(M:Ms)(i:Nat):Bool:=match M.lookup i with
 |none=>false
 |some m=>Tw m
theorem lK(h:zT M i=true):(i,.f)∈M:=by
 unfold zT at h;cases e:M.lookup i with
 |none=>rw[e]at h;exact ff h
 |some m=>rw[e]at h;cases m<;>first|exact iW e|exact ff h
noncomputable def SE.sc(S:SE):Scope:={kind:=.function,names:=S.nk,isGenerator:=false,isCoroutine:=false}
noncomputable def V8(S:SE)(x:Str):Bool:=S.nk.lookup x==some .local||(S.nk.lookup x==some .cell||S.nk.lookup x==some .free)
noncomputable def okN(x:Str):Bool:=!(x==("__debug__":Str))&&!(x==("__classdict__":Str))&&!(x==("__name__":Str))
noncomputable def lN(S:SE)(x:Str):Bool:=(S.nk.lookup x==some .globalImplicit)&&okN x
noncomputable def vC:Expr->Bool
 |.Call _ _ _ _=>false
 |_=>true
noncomputable def mC(f:Const->Bool):Expr->Bool
 |.Constant c _ _=>f c
 |_=>false
noncomputable def Zp(f:Str->Pos->Bool):Expr->Bool
 |.Name x p=>f x p
 |_=>false
noncomputable def BK(f:Str->Bool):Expr->Bool:=Zp λx _=>f x
noncomputable def j6(S:SE)(i:Nat):Expr->Bool:=BK λx=>S.N[i]?==some x&&V8 S x&&okN x
noncomputable def o1{α:Type}(f:α->Bool):List α->Bool
 |[a]=>f a
 |_=>false
noncomputable def V9(f:Expr->List CmpOp->List Expr->Bool):Expr->Bool
 |.Compare l b a _=>f l b a
 |_=>false
noncomputable def ue(f:Expr->List Expr->Bool->Pos->Bool):Expr->Bool
 |.Call g b a p=>f g b a.isEmpty p
 |_=>false
noncomputable def zU(f:Expr->Str->Pos->Bool):Expr->Bool
 |.Attribute o m p=>f o m p
 |_=>false
noncomputable def oSl(f:Option Expr->Option Expr->Option Expr->Bool):Expr->Bool
 |.Slice l h t _=>f l h t
 |_=>false
noncomputable def oLC(f:Expr->List Comprehension->Scope->Bool):Expr->Bool
 |.ListComp x a s _=>f x a s
 |_=>false
noncomputable def Gq(f:Operator->Expr->Expr->Bool):Expr->Bool
 |.BinOp l o r _=>f o l r
 |_=>false
noncomputable def Zq(f:UnaryOp->Expr->Bool):Expr->Bool
 |.UnaryOp o x _=>f o x
 |_=>false
noncomputable def Gr(f:CmpOp->Expr->Expr->Bool):Expr->Bool:=V9 λl b a=>o1 (λo=>o1 (λr=>f o l r) a) b
noncomputable def o2{α:Type}(f:α->α->Bool):List α->Bool
 |a::l=>o1 (f a) l
 |_=>false
noncomputable def o3{α:Type}(f:α->α->α->Bool):List α->Bool
 |a::l=>o2 (f a) l
 |_=>false
noncomputable def QB(f:BoolOp->List Expr->Bool):Expr->Bool
 |.BoolOp o a _=>f o a
 |_=>false
noncomputable def mIf(f:Expr->Expr->Expr->Bool):Expr->Bool
 |.IfExp t x y _=>f t x y
 |_=>false
noncomputable def zV(f:List Expr->Bool):Expr->Bool
 |.Tuple a _ _=>f a
 |_=>false
noncomputable def QC(f:List Expr->Bool):Expr->Bool
 |.List a _=>f a
 |_=>false
noncomputable def Gu(f:Expr->Expr->Bool):Expr->Bool
 |.Subscript v s _=>f v s
 |_=>false
noncomputable def Zr(f:Expr->Option Expr->Option Expr->Bool):Expr->Bool:=Gu λv s=>oSl (λl h t=>t.isNone&&f v l h) s
noncomputable def iX(f:Str->List Expr->Bool):Expr->Bool:=ue λg a k _=>k&&BK (λx=>f x a) g
noncomputable def zW(f:Expr->Str->Pos->Pos->Bool):Expr->Bool:=ue λg b k c=>k&&b.isEmpty&&zU (λo m a=>f o m a c) g
noncomputable def M6(f:Expr->Expr->Expr->List Expr->Scope->Bool):Expr->Bool:=oLC λx a s=>o1 (λg=>decide (g.is_async=0)&&f x g.target g.iter g.ifs s) a
theorem iY(h:mC f e=true):∃c k p,e=.Constant c k p/\f c=true:=by cases e<;>first|exact⟨_,_,_,rfl,h⟩|exact ff h
theorem BL(h:Zp f e=true):∃x p,e=.Name x p/\f x p=true:=by cases e<;>first|exact⟨_,_,rfl,h⟩|exact ff h
theorem Gv(h:V9 f e=true):∃l b a p,e=.Compare l b a p/\f l b a=true:=by cases e<;>first|exact⟨_,_,_,_,rfl,h⟩|exact ff h
theorem gH(h:ue f e=true):∃g b a p,e=.Call g b a p/\f g b a.isEmpty p=true:=by cases e<;>first|exact⟨_,_,_,_,rfl,h⟩|exact ff h
theorem fR(h:zU f e=true):∃o m p,e=.Attribute o m p/\f o m p=true:=by cases e<;>first|exact⟨_,_,_,rfl,h⟩|exact ff h
theorem KH(h:oSl f e=true):∃l r t p,e=.Slice l r t p/\f l r t=true:=by cases e<;>first|exact⟨_,_,_,_,rfl,h⟩|exact ff h
theorem KJ(h:oLC f e=true):∃x a s p,e=.ListComp x a s p/\f x a s=true:=by cases e<;>first|exact⟨_,_,_,_,rfl,h⟩|exact ff h
theorem dO(h:o1 f l=true):∃a,l=[a]/\f a=true:=by rcases l with _|⟨a,_|_⟩<;>first|exact⟨_,rfl,h⟩|exact ff h
theorem QD(h:o2 f l=true):∃a b,l=[a,b]/\f a b=true:=by
 cases l with
 |nil=>exact ff h
 |cons a l=>obtain⟨b,rfl,c⟩:=dO h;exact⟨_,_,rfl,c⟩
theorem jq(h:BK f e=true):∃x p,e=.Name x p/\f x=true:=BL h
theorem m9(h:Gq f e=true):∃l o r p,e=.BinOp l o r p/\f o l r=true:=by cases e<;>first|exact⟨_,_,_,_,rfl,h⟩|exact ff h
theorem oR(h:Zq f e=true):∃o x p,e=.UnaryOp o x p/\f o x=true:=by cases e<;>first|exact⟨_,_,_,rfl,h⟩|exact ff h
theorem nh(h:Gr f e=true):∃l o r p,e=.Compare l [o] [r] p/\f o l r=true:=by obtain⟨l,g,d,p,rfl,c⟩:=Gv h;obtain⟨o,rfl,b⟩:=dO c;obtain⟨r,rfl,a⟩:=dO b;exact⟨_,_,_,_,rfl,a⟩
theorem jr(h:QB f e=true):∃o a p,e=.BoolOp o a p/\f o a=true:=by cases e<;>first|exact⟨_,_,_,rfl,h⟩|exact ff h
theorem KL(h:mIf f e=true):∃t x y p,e=.IfExp t x y p/\f t x y=true:=by cases e<;>first|exact⟨_,_,_,_,rfl,h⟩|exact ff h
theorem fS(h:zV f e=true):∃a k p,e=.Tuple a k p/\f a=true:=by cases e<;>first|exact⟨_,_,_,rfl,h⟩|exact ff h
theorem qL(h:QC f e=true):∃a p,e=.List a p/\f a=true:=by cases e<;>first|exact⟨_,_,rfl,h⟩|exact ff h
theorem iZ(h:Gu f e=true):∃v s p,e=.Subscript v s p/\f v s=true:=by cases e<;>first|exact⟨_,_,_,rfl,h⟩|exact ff h
theorem oS(h:Zr f e=true):∃v l r q p,e=.Subscript v (.Slice l r none q) p/\f v l r=true:=by obtain⟨v,s,p,rfl,c⟩:=iZ h;obtain⟨l,r,t,q,rfl,b⟩:=KH c;obtain⟨k,a⟩:=a2 b;rw[Option.isNone_iff_eq_none.mp k];exact⟨_,_,_,_,_,rfl,a⟩
theorem aL(h:iX f e=true):∃x q a p,e=.Call (.Name x q) a [] p/\f x a=true:=by obtain⟨g,a,i,p,rfl,d⟩:=gH h;obtain⟨k,c⟩:=a2 d;obtain⟨x,q,rfl,b⟩:=jq c;rw[Ki.mp k];exact⟨_,_,_,_,rfl,b⟩
theorem j7(h:zW f e=true):∃o m a c,e=.Call (.Attribute o m a) [] [] c/\f o m a c=true:=by obtain⟨g,n,j,p,rfl,i⟩:=gH h;obtain⟨⟨k,l⟩,d⟩:=a3 i;obtain⟨o,m,a,rfl,b⟩:=fR d;rw[Ki.mp k,Ki.mp l];exact⟨_,_,_,_,rfl,b⟩
theorem uf(h:M6 f e=true):∃d tg b c a p,e=.ListComp d [⟨tg,b,c,0⟩] a p/\f d tg b c a=true:=by obtain⟨x,m,s,p,rfl,j⟩:=KJ h;obtain⟨⟨tg,l,n,z⟩,rfl,i⟩:=dO j;obtain⟨k,g⟩:=a2 i;cases Dx k;exact⟨_,_,_,_,_,_,rfl,g⟩
noncomputable def BN(S:SE)(i:Nat):List mJ->Expr->Bool
 |[],e=>j6 S i e
 |.fl _ x::π,e=>zU (λa f _=>decide (f=x)&&vC a&&BN S i π a) e
noncomputable def nV(S:SE)(m:Md->Bool)(i:Nat)(π:List mJ)(e:Expr):Bool:=!π.isEmpty&&BN S i π.reverse e&&(match S.M.lookup i with
 |some a=>(match oj a π with
  |some k=>m k
  |none=>false)
 |none=>false)
noncomputable def fT(S:SE):CE->Expr->Bool
 |.var i,e=>j6 S i e&&ya S.M i
 |.own i π,e=>nV S Tw i π e
 |_,_=>false
noncomputable def XF:BI->Str
 |.len=>"len"
 |.abs=>"abs"
 |.max2=>"max"
 |.min2=>"min"
 |.list=>"list"
 |.int=>"int"
 |.To=>"divmod"
noncomputable def biA:BI->Nat->Bool
 |_,n=>0<n
noncomputable def Dd:CE->Bool
 |.ite _ _ _=>false
 |.not a=>Dd a
 |.BC _ a=>Dd a
 |.and b=>Gw b
 |.or b=>Gw b
 |_=>true
where Gw:List CE->Bool
 |[]=>true
 |a::b=>Dd a&&Gw b
noncomputable def BO:Expr->Bool
 |.Slice _ _ _ _=>false
 |_=>true
noncomputable def vD:Expr->Bool
 |.Set _ _ _=>false
 |_=>true
noncomputable def Gx:List Expr->Option (List Str)
 |[]=>some []
 |.Name x _::a=>(Gx a).map λl=>x::l
 |_::_=>none
noncomputable def Tz:Expr->Option (Bool×List Str)
 |.Name x _=>some (true,[x])
 |.Tuple a _ _=>(Gx a).map λl=>(false,l)
 |_=>none
noncomputable def mask(a:List Str)(N:List Str):List Str:=N.map λy=>if a.contains y then y++("!":Str)else y
noncomputable def SE.comp(S:SE)(a:Scope)(b:List Str):SE:=
 {S with N:=b++mask b S.N,nk:=a.names.map λp=>(p.1,if p.2=.free then .cell else p.2),M:=up S.M b.length}
noncomputable def SE.lend(S:SE)(a:List Nat):SE:={S with M:=S.M.filter (λx=>!a.contains x.1)}
noncomputable def brE:Expr->Bool
 |.Call (.Name _ _) (_::_) _ _=>true
 |.Compare _ _ _ _=>true
 |_=>false
noncomputable def Gy:CE->Bool
 |.t9 _=>true
 |_=>false
noncomputable def Gz(n:Bool)(f:Expr->Bool):Option Expr->Bool
 |none=>n
 |some e=>!n&&f e
noncomputable def M7:CE->Bool
 |.bl b=>b
 |_=>false
noncomputable def Zs(y:Bool)(f:Expr->Bool):List Expr->Bool
 |[]=>y
 |[e]=>f e
 |_=>false
noncomputable def nW(f:Expr->Bool)(g:List Expr->Bool):List Expr->Bool
 |e::a=>f e&&g a
 |[]=>false
noncomputable def De(f:Expr->Bool):List Expr->Bool:=o1 f
noncomputable def qM(S:SE)(f:List Nat)(one:Bool)(n:Nat)(g:Bool)(i:Expr->Bool)(j:SE->List Expr->Bool)(h:SE->Expr->Bool)(e tg b:Expr)(d:List Expr)(a:Scope):Bool:=
 match Tz tg with
 |some (o,c)=>(one==o)&&(n==c.length)&&(f==Bn n)&&dI a S.sc S.N (mask c S.N) c&&decide (c++mask c S.N).Nodup&&vD b&&(!g||!one)&&i b&&j (S.comp a c) d&&h (S.comp a c) e
 |none=>false
noncomputable def iL(c:Nat->Md):CE->Bool
 |.lst _=>true
 |.comp _ _ _ _ _ _=>true
 |.blt .list _=>true
 |.rev _=>true
 |.sl _ _ _=>true
 |.bin .Add a b=>iL c a||iL c b
 |.bin .Mult a _=>iL c a
 |.call f _=>match c f with
  |.f=>true
  |_=>false
 |.ite _ a b=>iL c a&&iL c b
 |_=>false
noncomputable def mo(a:Nat->Md)(c:CE):Md:=if iL a c=true then .f else .s
mutual
noncomputable def aK(S:SE)(w:Bool):CE->Expr->Bool
 |.var i,e=>j6 S i e&&!x9 S.M i
 |.int i,e=>mC (λc=>decide (c=.int i)) e
 |.bl b,e=>mC (λc=>decide (c=.bool b)) e
 |.str x,e=>mC (λc=>decide (c=.str x)) e
 |.cu,e=>mC (λc=>decide (c=.none)) e
 |.glob g,e=>BK (λx=>S.gn[g]?==some x&&lN S x) e
 |.bin op a b,e=>Gq (λo l r=>decide (op=o)&&(aK S false a l||fT S a l)&&(aK S false b r||fT S b r)) e
 |.neg a,e=>Zq (λo x=>decide (o=.USub)&&aK S false a x) e
 |.not a,e=>Zq (λo x=>decide (o=.Not)&&aK S false a x) e
 |.cmp op a b,e=>Gr (λo l r=>decide (op=o)&&vD r&&(aK S false a l||fT S a l)&&(aK S false b r||fT S b r)) e
 |.and j,e=>QB (λo d=>decide (o=.And)&&!d.isEmpty&&gi S j d) e
 |.or j,e=>QB (λo d=>decide (o=.Or)&&!d.isEmpty&&gi S j d) e
 |.ite c a b,e=>mIf (λt x y=>aK S false c t&&Dd c&&aK S false a x&&aK S false b y) e
 |.tup j,e=>zV (λd=>gi S j d) e
 |.lst j,e=>QC (λd=>gi S j d) e
 |.ix a i,e=>Gu (λv s=>BO s&&(aK S false a v||fT S a v)&&aK S false i s) e
 |.sl a lo hi,e=>Zr (λv l h=>(aK S false a v||fT S a v)&&Gz (iK lo) (λx=>aK S false lo x) l&&Gz (iK hi) (λx=>aK S false hi x) h) e
 |.call f j,e=>iX (λx d=>S.fn[f]?==some x&&lN S x&&!d.isEmpty&&!gG (fO S.md f)&&!S.mt.any (·.1==f)&&gi S j d) e
 |.blt b j,e=>iX (λx d=>decide (x=XF b)&&lN S x&&S.zn.contains x&&biA b d.length&&yc S j d) e
 |.bits a,e=>zW (λo m D C=>decide (m=("bit_length":Str))&&(D.endLine==C.line)&&vC o&&aK S false a o) e
 |.comp A one n i c x,e=>M6 (λu tg k q p=>qM S A one n (Gy i) (λk=>aK S true i k||fT S i k) (λz q=>Zs (M7 c) (λf=>aK z false c f&&Dd c) q) (λz u=>aK z false x u) u tg k q p) e
 |.jN j,e=>iX (λx d=>w&&decide (x=("range":Str))&&lN S x&&S.zn.contains x&&(j.length==1||j.length==2||j.length==3)&&gi S j d) e
 |.t9 a,e=>iX (λx d=>w&&decide (x=("enumerate":Str))&&lN S x&&S.zn.contains x&&De (λv=>aK S false a v) d) e
 |.rev a,e=>iX (λx d=>cond w (decide (x=("reversed":Str))&&lN S x&&S.zn.contains x&&De (λv=>aK S false a v) d) false) e
 |.pop _,_=>false
 |.own i π,e=>nV S KG i π e
 |.m6 _ _ _,_=>false
 |.BC B a,e=>brE e&&aK (S.lend B) false a e
 |.DU _ _ _ _,_=>false
 |.O6 f a j,e=>iX (λx d=>S.fn[f]?==some x&&lN S x&&(match fO S.md f with
  |.io m=>Tw m
  |_=>false)&&!S.mt.any (·.1==f)&&iL (fO S.md) a&&nW (λv=>aK S false a v) (λd=>gi S j d) d) e
 |.slt a lo hi,e=>Zr (λv l h=>(aK S false a v||fT S a v)&&Gz (iK lo) (λx=>aK S false lo x) l&&Gz (iK hi) (λx=>aK S false hi x) h) e
noncomputable def gi(S:SE):List CE->List Expr->Bool
 |[],b=>b.isEmpty
 |a::c,b=>nW (λe=>aK S false a e) (λb=>gi S c b) b
noncomputable def yc(S:SE):List CE->List Expr->Bool
 |[],b=>b.isEmpty
 |a::c,b=>nW (λe=>aK S false a e||fT S a e) (λb=>yc S c b) b
end
structure XOk(S:SE)(Φ:Nat->aV)(Ψ:Nat->Md)(G:Nat->W)(X:Cx):Prop where
 hN:X.N=S.N
 nd:X.N.Nodup
 calm:X.calm=true
 un:X.A.units+64<cLine
 nk:∀x,X.env.scope.names.lookup x=S.nk.lookup x
 fns:∀(j:Nat)(x:Str),S.fn[j]?=some x->S.mt.any (·.1==j)=false->∃fv n k,X.mg x=some fv/\cL X.prog X.w X.K X.mg X.base k fv n (om X.K n (Ψ j) (Φ j))/\cY k X.A/\∀ws P R,Φ j ws P R->ws.length=n
 KN:∀(j g:Nat)(x:Str),S.fn[j]?=some x->(j,g)∈S.mt->∃f fd ps n k,(∀C,G g=.cls C->Meth X.K C x f)/\Binds X.K fd ps []/\cA X.prog X.w X.K X.mg X.base (jB X.prog X.w) k f fd ps (om X.K n (Ψ j) (Φ j))/\cY k X.A/\∀ws P R,Φ j ws P R->ws.length=n
 Dg:Ψ=fO S.md
 KO:∀(j:Nat)(x:Str),S.gn[j]?=some x->∃u v,X.mg x=some u/\RelV v u/\∀B H,Rep X.K B H (G j) v
 BP:∀x∈S.zn,X.mg x=none
 kit:Gd X.K
section
variable{S:SE}{Φ:Nat->aV}{Ψ:Nat->Md}{G:Nat->W}{X:Cx}
theorem XOk.nox(h:XOk S Φ Ψ G X):XOk S Φ Ψ G X.nox:=⟨h.hN,h.nd,h.calm,h.un,h.nk,h.fns,h.KN,h.Dg,h.KO,h.BP,h.kit⟩
theorem BQ(h:okN x=true):(x==("__debug__":Str))=false/\(x==("__classdict__":Str))=false/\x≠"__name__":=by unfold okN at h;simp only[DL,xt]at h;exact⟨h.1.1,h.1.2,λz=>by rw[z]at h;exact absurd h.2 (by simp)⟩
theorem cG(a:XOk S Φ Ψ G X)(h:lN S x=true):Gl X x/\(x==("__debug__":Str))=false/\x≠"__name__":=by unfold lN at h;rw[DL]at h;obtain⟨c,d,b⟩:=BQ h.2;refine⟨?_,c,b⟩;show X.env.scope.names.lookup x=_;rw[a.nk];exact Qb.mp h.1
theorem eG(b:XOk S Φ Ψ G X)(h:j6 S i e=true):PE X e (kI i):=by obtain⟨x,c,rfl,h⟩:=jq h;obtain⟨h,d⟩:=Pt.mp h;obtain⟨f,a⟩:=Pt.mp h;obtain⟨j,g,_⟩:=BQ d;refine Ea (by rw[b.hN];exact Qb.mp f) ?_ j g;simp only[V8,uj,Qb]at a;rw[<-b.nk]at a;exact a
noncomputable def noStar:Expr->Bool
 |.Starred _ _=>false
 |_=>true
theorem aM(h:noStar e=true)(a:List Expr)(env:Env):starEach (e::a) env=(false,eval e env)::starEach a env:=by
 cases e<;>first|rfl|exact ff h
theorem cT:∀{a:List Expr}(h:a.all noStar=true)(pos:Pos)(env:Env),(backTo pos (starEach a env)).any (·.1)=false
 |[],_,_,_=>rfl
 |e::a,h,pos,env=>by rw[G1,DL]at h;rw[aM h.1];show(false||(backTo pos (starEach a env)).any (·.1))=false;rw[cT h.2];rfl
theorem fE(h:nV S m i π e=true):
 (∃c k,π≠[]/\BN S i π.reverse e=true/\S.M.lookup i=some c/\oj c π=some k/\m k=true)/\(∃a f q,e=.Attribute a f q):=by
 unfold nV at h;rw[DL,DL]at h;obtain⟨⟨l,d⟩,b⟩:=h;have j:π≠[]:=λz=>by rw[z]at l;exact ff l
 constructor
 .split at b
  .rename_i c hl
   split at b
   .rename_i k hk
    exact⟨c,k,j,d,hl,hk,b⟩
   .cases b
  .cases b
 .cases g:π.reverse with
  |nil=>exact(j (by simpa using g)).elim
  |cons s r=>
   rw[g]at d;cases s with
   |fl n x=>obtain⟨o,m,p,rfl,t⟩:=fR d;exact⟨_,_,_,rfl⟩
theorem qN(h:nV S m i π (.Starred v p)=true):False:=by obtain⟨_,_,_,e⟩:=(fE h).2;cases e
theorem bw(h:aK S b c e=true\/fT S c e=true):noStar e=true:=by
 cases e with
 |Starred v p=>
  rcases h with h|h
  .cases c with
   |own i d=>exact(qN h).elim
   |BC f a=>exact ff h
   |_=>exact ff h
  .cases c<;>first|exact ff h|exact(qN h).elim
 |_=>rfl
theorem gI(h:(a||b)=true):a=true\/b=true:=by
 cases a
 .exact .inr h
 .exact .inl rfl
theorem jt:∀{cs:List CE}{a:List Expr},gi S cs a=true->a.all noStar=true
 |[],a,h=>by
  cases a with
  |nil=>rfl
  |cons _ _=>exact ff h
 |c::cs,[],h=>by cases h
 |c::cs,e::a,h=>by have h:=a2 h;rw[G1,bw (.inl h.1),jt h.2];rfl
theorem qO:∀{cs:List CE}{a:List Expr},yc S cs a=true->a.all noStar=true
 |[],a,h=>by
  cases a with
  |nil=>rfl
  |cons _ _=>exact ff h
 |c::cs,[],h=>by cases h
 |c::cs,e::a,h=>by have h:=a2 h;rw[G1,bw (gI h.1),qO h.2];rfl
theorem BR(h:BO b=true):oz b:=λo i=>by cases b<;>first|rfl|exact ff h
theorem ug(h:vC a=true)(f:Str)(env:Env)(b:Sem Value):attributeBase a f env b=b:=by cases a<;>first|rfl|exact ff h
theorem yd(b:XOk S Φ Ψ G X):∀(π:List mJ)(e:Expr),BN S i π e=true->PE X e (zO X.K i π.reverse)
 |[],e,h=>Qt (eG b h)
 |.fl n x::π,e,h=>by obtain⟨o,m,p,rfl,f⟩:=fR h;obtain⟨⟨a,d⟩,c⟩:=a3 f;have a:=Dx a;subst a;rw[xn];exact Qu (yd b π _ c) (ug d _ _ _)
theorem GA(b:XOk S Φ Ψ G X)(h:nV S m i π e=true):∃a k,(i,a)∈S.M/\oj a π=some k/\m k=true/\PE X e (zO X.K i π):=by obtain⟨⟨a,k,_,g,f,d,c⟩,_⟩:=fE h;have:=yd b π.reverse e g;rw[List.reverse_reverse]at this;exact⟨a,k,iW f,d,c,this⟩
theorem Wa(g:XOk S Φ Ψ G X)(h:nV S KG i π e=true)(R:Addr->Prop):VE X S.M R .s e (λa Q=>match look a i with|some w=>(match dQ w π with|some u=>Q u|none=>False)|none=>False):=by
 obtain⟨j,k,d,c,f,b⟩:=GA g h;cases k<;>first|(cases f;done)|skip
 exact Pj b d c
theorem M8(g:XOk S Φ Ψ G X)(h:nV S Tw i π e=true)(R:Addr->Prop):VB X S.M R e (λa Q=>match look a i with|some w=>(match dQ w π with|some u=>Q u|none=>False)|none=>False):=by
 obtain⟨j,k,d,c,f,b⟩:=GA g h;cases k<;>first|(cases f;done)|skip
 exact Ph b d c
end
structure cM(Φ:Nat->aV)(Ψ:Nat->Md)(G:Nat->W)(c:CE):Prop where
 e:∀{S:SE}{X:Cx},XOk S Φ Ψ G X->∀ex,aK S false c ex=true->∀R,VE X S.M R (mo Ψ c) ex (wE Φ G R c)
 t:∀{S:SE}{X:Cx},XOk S Φ Ψ G X->∀ex,aK S false c ex=true->Dd c=true->∀R,VT X S.M R ex (wE Φ G R c)
 i:∀{S:SE}{X:Cx},XOk S Φ Ψ G X->∀tg br ex,(aK S true c ex||(br&&fT S c ex))=true->(Gy c=true->∃elts kk tp,tg=Expr.Tuple elts kk tp)->∀R,PI X tg ex (Ge X S.M R br (wE Φ G R c))
structure qP(Φ:Nat->aV)(Ψ:Nat->Md)(G:Nat->W)(cs:List CE):Prop where
 a:∀{S:SE}{X:Cx},XOk S Φ Ψ G X->∀es,gi S cs es=true->∀R,VA X S.M R es (wA Φ G R cs)
 b:∀{S:SE}{X:Cx},XOk S Φ Ψ G X->∀es,yc S cs es=true->∀R,Tu X S.M R es (wA Φ G R cs)
 av:∀{S:SE}{X:Cx},XOk S Φ Ψ G X->∀es pos,es≠[]->gi S cs es=true->∀R,VE X S.M R .s (.BoolOp .And es pos) (Cu Φ G R cs)
 ov:∀{S:SE}{X:Cx},XOk S Φ Ψ G X->∀es pos,es≠[]->gi S cs es=true->∀R,VE X S.M R .s (.BoolOp .Or es pos) (SX Φ G R cs)
 «at»:∀{S:SE}{X:Cx},XOk S Φ Ψ G X->∀es pos,es≠[]->gi S cs es=true->Dd.Gw cs=true->∀R,MZ X S.M R (.BoolOp .And es pos) (Cu Φ G R cs)
 ot:∀{S:SE}{X:Cx},XOk S Φ Ψ G X->∀es pos,es≠[]->gi S cs es=true->Dd.Gw cs=true->∀R,MZ X S.M R (.BoolOp .Or es pos) (SX Φ G R cs)
section
variable{Φ:Nat->aV}{Ψ:Nat->Md}{G:Nat->W}
theorem eT(h:iL Ψ c=false):mo Ψ c=.s:=by unfold mo;rw[h];rfl
theorem jF(h:iL Ψ c=true):mo Ψ c=.f:=by unfold mo;rw[h];rfl
theorem cM.s(h:cM Φ Ψ G c)(a:XOk S Φ Ψ G X)(k:aK S false c ex=true)(R:Addr->Prop):VE X S.M R .s ex (wE Φ G R c):=C9 (h.e a ex k R)
theorem cM.b(h:cM Φ Ψ G c)(a:XOk S Φ Ψ G X)(k:(aK S false c ex||fT S c ex)=true)(R:Addr->Prop):VB X S.M R ex (wE Φ G R c):=by
 rcases gI k with k|k
 .exact VR (h.e a ex k R)
 .cases c with
  |var i=>have k:(j6 S i ex&&ya S.M i)=true:=k;rw[DL]at k;exact F4 (eG a k.1) (yb k.2)
  |own i d=>exact M8 a k R
  |_=>exact ff k
theorem cM.mk1(b:∀{S:SE}{X:Cx},XOk S Φ Ψ G X->∀ex,aK S false c ex=true->∀R,VE X S.M R (mo Ψ c) ex (wE Φ G R c))
 (f:∀{S:SE}{ex:Expr}(env:Env),aK S false c ex=true->∀a,isTrue ex env a=(do let v<-a;standAt ex.pos;holding [v] (truthy v)))
 (hi:∀(S:SE)(ex:Expr),aK S true c ex=true->aK S false c ex=true)(e:∀(S:SE)(ex:Expr),fT S c ex=false):cM Φ Ψ G c:=
 ⟨b,λd ex k _ R=>vv (f _ k) (C9 (b d ex k R)),λ{S X} d g h ex k _ R=>by rw[e,fe,dE]at k;exact fN (iV (b d ex (hi _ _ k) R))⟩
theorem QE(i:Nat):cM Φ Ψ G (.var i):=by
 have d:∀{S:SE}{X:Cx},XOk S Φ Ψ G X->∀ex,aK S false (.var i) ex=true->∀R,VE X S.M R (mo Ψ (.var i)) ex (wE Φ G R (.var i)):=λ{S X} a ex k R=>by have k:=a2 k;have e:¬bq S.M i:=lJ (by simpa using k.2);rw[eT rfl];exact Pg (eG a k.1) e
 refine⟨d,λ{S X} a ex k _ R=>vv (λc=>?_) (C9 (d a ex k R)),λ{S X} a f g ex k _ R=>?_⟩
 .have k:=a2 k;cases ex<;>first|rfl|(have:=k.1;exact ff this)
 .rcases gI k with k|k
  .exact fN (iV (d a ex (by exact k) R))
  .rw[DL]at k;obtain⟨rfl,b⟩:=k;have b:(j6 S i ex&&ya S.M i)=true:=b;rw[DL]at b;exact fN (V0 (F4 (eG a b.1) (yb b.2)))
theorem QF(i:Nat)(π:List mJ):cM Φ Ψ G (.own i π):=by
 have d:∀R,wE Φ G R (.own i π)=λe Q=>match look e i with|some w=>(match dQ w π with|some u=>Q u|none=>False)|none=>False:=λR=>rfl
 have c:∀{S:SE}{X:Cx},XOk S Φ Ψ G X->∀ex,aK S false (.own i π) ex=true->∀R,VE X S.M R (mo Ψ (.own i π)) ex (wE Φ G R (.own i π)):=λ{S X} a ex k R=>by rw[eT rfl,d];exact Wa a k R
 refine⟨c,λ{S X} a ex k _ R=>vv (λb=>?_) (C9 (c a ex k R)),λ{S X} a g h ex k _ R=>?_⟩
 .obtain⟨_,_,_,rfl⟩:=(fE k).2;rfl
 .rcases gI k with k|k
  .exact fN (iV (c a ex (by exact k) R))
  .rw[DL]at k;obtain⟨rfl,f⟩:=k;rw[d];exact fN (V0 (M8 a f R))
theorem QG(i:Int):cM Φ Ψ G (.int i):=by
 refine .mk1 (λ{S X} d ex k R=>?_) (λ{S ex} b k a=>?_) (λS ex k=>by exact k) (λ_ _=>rfl)
 .obtain⟨c,q,p,rfl,k⟩:=iY k;cases Dx k;rw[eT rfl];exact F6 mO λ_ _=>f6 _
 .obtain⟨c,q,p,rfl,k⟩:=iY k;rfl
theorem Wb(i:Bool):cM Φ Ψ G (.bl i):=by
 refine .mk1 (λ{S X} d ex k R=>?_) (λ{S ex} b k a=>?_) (λS ex k=>by exact k) (λ_ _=>rfl)
 .obtain⟨c,q,p,rfl,k⟩:=iY k;cases Dx k;rw[eT rfl];exact F6 Uk λ_ _=>Iw _
 .obtain⟨c,q,p,rfl,k⟩:=iY k;rfl
theorem QH(i:Str):cM Φ Ψ G (.str i):=by
 refine .mk1 (λ{S X} d ex k R=>?_) (λ{S ex} b k a=>?_) (λS ex k=>by exact k) (λ_ _=>rfl)
 .obtain⟨c,q,p,rfl,k⟩:=iY k;cases Dx k;rw[eT rfl];exact F6 NN λ_ _=>Zf _
 .obtain⟨c,q,p,rfl,k⟩:=iY k;rfl
theorem QI:cM Φ Ψ G .cu:=by
 refine .mk1 (λ{S X} d ex k R=>?_) (λ{S ex} b k a=>?_) (λS ex k=>by exact k) (λ_ _=>rfl)
 .obtain⟨c,q,p,rfl,k⟩:=iY k;cases Dx k;rw[eT rfl];exact F6 NL λ_ _=>VM
 .obtain⟨c,q,p,rfl,k⟩:=iY k;rfl
theorem KQ(g:Nat):cM Φ Ψ G (.glob g):=by
 refine .mk1 (λ{S X} c ex k R=>?_) (λ{S ex} m k a=>?_) (λS ex k=>by exact k) (λ_ _=>rfl)
 .obtain⟨x,q,rfl,b⟩:=jq k
  replace k:=b
  obtain⟨e,d⟩:=a2 k;obtain⟨l,j,n⟩:=cG c d;obtain⟨u,v,i,h,f⟩:=c.KO g _ (Qb.mp e);rw[eT rfl];exact F6 (IJ l i h j) f
 .obtain⟨x,q,rfl,b⟩:=jq k
  replace k:=b
  rfl
theorem zX{K:Frag}(h:di K B H H' .f w v):MY w=true:=by obtain⟨a,p,b,rfl,_⟩:=h.Vz;rfl
theorem GB(k:fT S a l=true)(z:iL Ψ a=true):False:=by cases a<;>first|exact ff k|exact ff z
theorem QJ(op:Operator)(J:cM Φ Ψ G a)(I:cM Φ Ψ G b):cM Φ Ψ G (.bin op a b):=by
 refine .mk1 (λ{S X} n ex k R=>?_) (λ{S ex} P k s=>?_) (λS ex k=>by exact k) (λ_ _=>rfl)
 .obtain⟨l,o,r,t,rfl,u⟩:=m9 k
  replace k:=u
  obtain⟨⟨A,i⟩,g⟩:=a3 k;have A:=Dx A;subst A;show VE X S.M R _ _ λF Q=>wE Φ G R a F λx=>wE Φ G R b F λy=>gE op x y Q;have E:∀B H m w v,Dom B H->ρB X.K B H m w v->bu X.K B m w v:=λ_ _ _ _ _ _ h=>h;have D:∀B H m w v,Dom B H->Pf X.K .f B H m w v->bu X.K B m w v:=λ_ _ _ _ _ d h=>(di.rep d h).b;have p:=J.b n i R;have j:=I.b n g R;have L:iL Ψ a=true->VE X S.M R .f l (wE Φ G R a):=λz=>by
   rcases gI i with i|i
   .have:=J.e n l i R;rw[jF z]at this;exact this
   .exact(GB i z).elim
  have O:iL Ψ b=true->VE X S.M R .f r (wE Φ G R b):=λz=>by
   rcases gI g with g|g
   .have:=I.e n r g R;rw[jF z]at this;exact this
   .exact(GB g z).elim
  cases op with
  |Add=>
   by_cases c:iL Ψ a=true
   .rw[jF (show iL Ψ (.bin .Add a b)=true by show(iL Ψ a||iL Ψ b)=true;rw[c];rfl)];exact zP (L c) j D E λ_ _ _ _ _ _ _ _ _ _ C _=>.inl ⟨rfl,.inl (zX C)⟩
   .by_cases q:iL Ψ b=true
    .rw[jF (show iL Ψ (.bin .Add a b)=true by show(iL Ψ a||iL Ψ b)=true;rw[q,Bool.or_true])];exact zP p (O q) E D λ_ _ _ _ _ _ _ _ _ _ _ N=>.inl ⟨rfl,.inr (zX N)⟩
    .rw[eT (show iL Ψ (.bin .Add a b)=false by show(iL Ψ a||iL Ψ b)=false;rw[kf _|>.mp c,kf _|>.mp q];rfl)];exact F7 p j λ_ _=>.inr rfl
  |Mult=>
   by_cases c:iL Ψ a=true
   .rw[jF (show iL Ψ (.bin .Mult a b)=true from c)];exact zP (L c) j D E λ_ _ _ _ _ _ _ _ _ _ C _=>.inr ⟨rfl,zX C⟩
   .rw[eT (show iL Ψ (.bin .Mult a b)=false from kf _|>.mp c)];exact F7 p j λ_ _=>.inr rfl
  |_=>rw[eT rfl];exact F7 p j λ_ _=>.inr rfl
 .obtain⟨l,o,r,t,rfl,u⟩:=m9 k
  replace k:=u
  rfl
theorem QK(e:cM Φ Ψ G a):cM Φ Ψ G (.neg a):=by
 refine .mk1 (λ{S X} f ex k R=>?_) (λ{S ex} g k b=>?_) (λS ex k=>by exact k) (λ_ _=>rfl)
 .obtain⟨o,x,c,rfl,d⟩:=oR k
  replace k:=d
  rw[DL]at k;cases Dx k.1;rw[eT rfl];exact Pn (e.s f k.2 R)
 .obtain⟨o,x,c,rfl,d⟩:=oR k
  replace k:=d
  rw[DL]at k;cases Dx k.1;rfl
theorem QL(h:cM Φ Ψ G a):cM Φ Ψ G (.not a):=by
 have e:∀R,wE Φ G R (.not a)=λi Q=>wE Φ G R a i λx=>truth x λb=>Q (.bl (!b)):=λR=>rfl;have g:∀{S:SE}{X:Cx},XOk S Φ Ψ G X->∀ex,aK S false (.not a) ex=true->∀R,VE X S.M R (mo Ψ (.not a)) ex (wE Φ G R (.not a)):=λ{S X} c ex k R=>by
  obtain⟨o,x,d,rfl,f⟩:=oR k
  replace k:=f
  rw[DL]at k;cases Dx k.1;rw[eT rfl,e];exact Po (h.s c k.2 R)
 refine⟨g,λ{S X} c ex k j R=>?_,λ{S X} c m n ex k _ R=>?_⟩
 .obtain⟨o,x,d,rfl,f⟩:=oR k
  replace k:=f
  rw[DL]at k;cases Dx k.1;rw[e];exact Py (h.t c _ k.2 (by exact j) R)
 .have l:fT S (.not a) ex=false:=rfl;rw[l,fe,dE]at k;exact fN (iV (g c ex (by exact k) R))
theorem QM(op:CmpOp)(n:cM Φ Ψ G a)(m:cM Φ Ψ G b):cM Φ Ψ G (.cmp op a b):=by
 have e:∀R,wE Φ G R (.cmp op a b)=λg Q=>wE Φ G R a g λx=>wE Φ G R b g λy=>dZ op x y Q:=λR=>rfl;have f:∀{S:SE}{X:Cx},XOk S Φ Ψ G X->∀ex,aK S false (.cmp op a b) ex=true->∀R,VE X S.M R .s ex (wE Φ G R (.cmp op a b))/\VT X S.M R ex (wE Φ G R (.cmp op a b)):=λ{S X} c ex k R=>by
  obtain⟨l,o,r,p,rfl,q⟩:=nh k
  replace k:=q
  simp only[DL,xt]at k;obtain⟨⟨⟨d,t⟩,i⟩,h⟩:=k;have d:=Dx d;subst d;have j:behindInMarks op r=false:=by cases r<;>first|rfl|exact ff t
  rw[e];exact⟨Pp c.un j (n.b c i R) (m.b c h R),Pr c.un j (n.b c i R) (m.b c h R)⟩
 refine⟨λc ex k R=>by rw[eT rfl];exact(f c ex k R).1,λc ex k _ R=>(f c ex k R).2,λ{S X} c v w ex k _ R=>?_⟩;have u:fT S (.cmp op a b) ex=false:=rfl;rw[u,fe,dE]at k;exact fN (iV (f c ex (by exact k) R).1)
theorem ju{a:List Expr}(h:(!a.isEmpty)=true):a≠[]:=by rintro rfl;cases h
theorem QN(g:qP Φ Ψ G b):cM Φ Ψ G (.and b):=by
 have e:∀R,wE Φ G R (.and b)=Cu Φ G R b:=λR=>rfl;have f:∀{S:SE}{X:Cx},XOk S Φ Ψ G X->∀ex,aK S false (.and b) ex=true->∀R,VE X S.M R .s ex (wE Φ G R (.and b)):=λ{S X} a ex k R=>by
  obtain⟨o,j,c,rfl,d⟩:=jr k
  replace k:=d
  rw[DL,DL]at k;cases Dx k.1.1;rw[e];exact g.av a _ _ (ju k.1.2) k.2 R
 refine⟨λa ex k R=>by rw[eT rfl];exact f a ex k R,λ{S X} a ex k h R=>?_,λ{S X} a l m ex k _ R=>?_⟩
 .obtain⟨o,j,c,rfl,d⟩:=jr k
  replace k:=d
  rw[DL,DL]at k;cases Dx k.1.1;rw[e];exact(g.at a _ _ (ju k.1.2) k.2 (by exact h) R).pt
 .have i:fT S (.and b) ex=false:=rfl;rw[i,fe,dE]at k;exact fN (iV (f a ex (by exact k) R))
theorem Wd(g:qP Φ Ψ G b):cM Φ Ψ G (.or b):=by
 have e:∀R,wE Φ G R (.or b)=SX Φ G R b:=λR=>rfl;have f:∀{S:SE}{X:Cx},XOk S Φ Ψ G X->∀ex,aK S false (.or b) ex=true->∀R,VE X S.M R .s ex (wE Φ G R (.or b)):=λ{S X} a ex k R=>by
  obtain⟨o,j,c,rfl,d⟩:=jr k
  replace k:=d
  rw[DL,DL]at k;cases Dx k.1.1;rw[e];exact g.ov a _ _ (ju k.1.2) k.2 R
 refine⟨λa ex k R=>by rw[eT rfl];exact f a ex k R,λ{S X} a ex k h R=>?_,λ{S X} a l m ex k _ R=>?_⟩
 .obtain⟨o,j,c,rfl,d⟩:=jr k
  replace k:=d
  rw[DL,DL]at k;cases Dx k.1.1;rw[e];exact(g.ot a _ _ (ju k.1.2) k.2 (by exact h) R).pt
 .have i:fT S (.or b) ex=false:=rfl;rw[i,fe,dE]at k;exact fN (iV (f a ex (by exact k) R))
theorem We(h:VE X M R m e t)(a:mo Ψ c=m\/mo Ψ c=.s):VE X M R (mo Ψ c) e t:=by
 rcases a with z|z
 .rw[z];exact h
 .rw[z];exact C9 h
theorem QO(o:cM Φ Ψ G c)(r:cM Φ Ψ G a)(q:cM Φ Ψ G b):cM Φ Ψ G (.ite c a b):=by
 have e:∀R,wE Φ G R (.ite c a b)=λh Q=>wE Φ G R c h λx=>truth x λk=>if k=true then wE Φ G R a h Q else wE Φ G R b h Q:=λR=>rfl
 have n:∀{S:SE}{X:Cx},XOk S Φ Ψ G X->∀ex,aK S false (.ite c a b) ex=true->∀R,VE X S.M R (mo Ψ (.ite c a b)) ex (wE Φ G R (.ite c a b)):=λ{S X} d ex k R=>by
  obtain⟨t,x,y,p,rfl,v⟩:=KL k;obtain⟨⟨⟨m,l⟩,j⟩,i⟩:=a4 v;rw[e];by_cases z:iL Ψ a=true/\iL Ψ b=true
  .rw[jF (show iL Ψ (.ite c a b)=true by show(iL Ψ a&&iL Ψ b)=true;rw[z.1,z.2];rfl)];have g:=r.e d x j R;have f:=q.e d y i R;rw[jF z.1]at g;rw[jF z.2]at f;exact F8 (o.t d t m l R) g f
  .rw[eT (show iL Ψ (.ite c a b)=false by
    show(iL Ψ a&&iL Ψ b)=false;cases g:iL Ψ a
    .rfl
    .cases f:iL Ψ b
     .rfl
     .exact absurd ⟨g,f⟩ z)]
   exact F8 (o.t d t m l R) (r.s d j R) (q.s d i R)
 refine⟨n,(λd ex k u R=>by exact ff u),λ{S X} d A B ex k _ R=>?_⟩;have w:fT S (.ite c a b) ex=false:=rfl;rw[w,fe,dE]at k;exact fN (iV (n d ex (by exact k) R))
theorem QS(f:qP Φ Ψ G e):cM Φ Ψ G (.tup e):=by
 refine .mk1 (λ{S X} g ex k R=>?_) (λ{S ex} h k b=>?_) (λS ex k=>by exact k) (λ_ _=>rfl)
 .obtain⟨d,q,p,rfl,c⟩:=fS k;rw[eT rfl];exact PD (f.a g d c R)
 .obtain⟨d,q,p,rfl,c⟩:=fS k;rfl
theorem QT(f:qP Φ Ψ G e):cM Φ Ψ G (.lst e):=by
 refine .mk1 (λ{S X} g ex k R=>?_) (λ{S ex} h k b=>?_) (λS ex k=>by exact k) (λ_ _=>rfl)
 .obtain⟨d,p,rfl,c⟩:=qL k;rw[jF rfl];exact PC (f.a g d c R)
 .obtain⟨d,p,rfl,c⟩:=qL k;rfl
theorem Wf(f:cM Φ Ψ G a)(hi:cM Φ Ψ G i):cM Φ Ψ G (.ix a i):=by
 refine .mk1 (λ{S X} e ex k R=>?_) (λ{S ex} g k d=>?_) (λS ex k=>by exact k) (λ_ _=>rfl)
 .obtain⟨v,s,p,rfl,c⟩:=iZ k;simp only[DL]at c;rw[eT rfl];exact VX (BR c.1.1) (f.b e c.1.2 R) (hi.s e c.2 R)
 .obtain⟨v,s,p,rfl,c⟩:=iZ k;rfl
theorem BS{lo:CE}(c:cM Φ Ψ G lo)(d:XOk S Φ Ψ G X)(k:Gz (iK lo) (λx=>aK S false lo x) l=true)(R:Addr->Prop):PO X l (PJ X S.M R λa Q=>wE Φ G R lo a λy=>DV lo y Q):=by
 cases l with
 |none=>
  have z:iK lo=true:=k;cases lo with
  |cu=>exact J3
  |_=>exact ff z
 |some x=>
  have k:(!iK lo&&aK S false lo x)=true:=k;rw[DL]at k;have e:(λ(a:Ev)(Q:Option Int->Prop)=>wE Φ G R lo a λy=>DV lo y Q)=λa Q=>wE Φ G R lo a λy=>match y with|.int i=>Q (some i)|_=>False:=by
   have b:iK lo=false:=by simpa using k.1
   unfold DV;rw[b];funext a Q;congr 1;funext y;cases y<;>rfl
  rw[e];exact J5 (c.s d k.2 R)
theorem Wg{a lo hi:CE}(h:cM Φ Ψ G a)(f:cM Φ Ψ G lo)(g:cM Φ Ψ G hi):cM Φ Ψ G (.sl a lo hi):=by
 refine .mk1 (λ{S X} e ex k R=>?_) (λ{S ex} i k d=>?_) (λS ex k=>by exact k) (λ_ _=>rfl)
 .obtain⟨v,l,r,q,p,rfl,c⟩:=oS k;simp only[DL]at c;rw[jF rfl];exact VY (h.b e c.1.1 R) (BS f e c.1.2 R) (BS g e c.2 R)
 .obtain⟨v,l,r,q,p,rfl,c⟩:=oS k;rfl
theorem KR(f:Nat)(C:qP Φ Ψ G l):cM Φ Ψ G (.call f l):=by
 refine .mk1 (λ{S X} b ex k R=>?_) (λ{S ex} I k c=>?_) (λS ex k=>by exact k) (λ_ _=>rfl)
 .obtain⟨x,q,j,p,rfl,m⟩:=aL k;obtain⟨⟨⟨⟨⟨v,u⟩,t⟩,g⟩,s⟩,o⟩:=a6 m;obtain⟨E,D,J⟩:=cG b u;obtain⟨H,n,r,B,F,y,A⟩:=b.fns f x (Qb.mp v) (by simpa using s);have F:cL X.prog X.w X.K X.mg X.base r H n (M1 X.K n (Ψ f) (Φ f)):=by rw[<-b.Dg]at g;cases i:Ψ f<;>rw[i]at g F<;>first|exact F|exact ff g
  have d:=jt o;cases j with
  |nil=>exact ff t
  |cons e j=>
   rw[G1,DL]at d;have h:=BG (M:=S.M) (R:=R) (p:=q) (pos:=p) F y E B A (C.a b _ o R) D (aM d.1 _ _) (cT d.2 _ _);refine We h ?_;by_cases z:iL Ψ (.call f l)=true
   .rw[jF z];left;have z:(match Ψ f with|.f=>true|_=>false)=true:=z;cases i:Ψ f<;>rw[i]at z<;>first|rfl|exact ff z
   .exact .inr (eT (by simpa using z))
 .obtain⟨x,q,j,p,rfl,m⟩:=aL k;rfl
theorem ye(c:X.calm=true):∀b:BI,(∃a,bootBuiltins (XF b)=some (.builtin a)/\dS X (.builtin a) (PK X.K b))\/(∃a,bootBuiltins (XF b)=some (.type a)/\dS X (.type a) (PK X.K b))
 |.len=>.inl ⟨"len",rfl,cw_len.r⟩
 |.abs=>.inl ⟨"abs",rfl,cw_abs.r⟩
 |.max2=>.inl ⟨"max",rfl,(cw_max c).r⟩
 |.min2=>.inl ⟨"min",rfl,(cw_min c).r⟩
 |.list=>.inr ⟨"list",rfl,cw_list.r⟩
 |.int=>.inr ⟨"int",rfl,cw_int.r⟩
 |.To=>.inl ⟨"divmod",rfl,cw_dvm.r⟩
theorem fF(k:gi S (a::c) b=true):∃e r,b=e::r/\aK S false a e=true/\gi S c r=true:=by
 cases b with
 |nil=>exact ff k
 |cons e r=>exact⟨e,r,rfl,a2 k⟩
theorem qQ(k:gi S [] a=true):a=[]:=Ki.mp k
theorem QU(b:BI)(r:qP Φ Ψ G g)(o:∀c∈g,cM Φ Ψ G c):cM Φ Ψ G (.blt b g):=by
 refine .mk1 (λ{S X} d ex k R=>?_) (λ{S ex} B k h=>?_) (λS ex k=>by exact k) (λ_ _=>rfl)
 .obtain⟨x,q,n,p,rfl,i⟩:=aL k;simp only[DL]at i;obtain⟨⟨⟨⟨f,y⟩,w⟩,v⟩,j⟩:=i;have f:=Dx f;obtain⟨u,t,s⟩:=cG d y;have hz:=d.BP x (by simpa using w);have a:=qO j;cases n with
  |nil=>cases b<;>exact ff v
  |cons e n=>
   rw[G1,DL]at a;have A:mo Ψ (.blt b g)=VZ b:=by
    cases b<;>first|rfl|exact eT rfl|exact jF rfl
   rw[A];rcases ye d.calm b with⟨z,l,m⟩|⟨z,l,m⟩
   .exact PM m u hz (by rw[f];exact l) (r.b d _ j R) s t (aM a.1 _ _) (cT a.2 _ _)
   .exact PN m u hz (by rw[f];exact l) (r.b d _ j R) s t (aM a.1 _ _) (cT a.2 _ _)
 .obtain⟨x,q,n,p,rfl,i⟩:=aL k;rfl
theorem KU(h:cM Φ Ψ G a):cM Φ Ψ G (.bits a):=by
 refine .mk1 (λ{S X} i ex k R=>?_) (λ{S ex} j k b=>?_) (λS ex k=>by exact k) (λ_ _=>rfl)
 .obtain⟨o,m,n,l,rfl,d⟩:=j7 k;obtain⟨⟨⟨c,g⟩,e⟩,f⟩:=a4 d;have c:=Dx c;subst c;rw[eT rfl];exact J6 (h.s i f R) (ug e _ _ _) g
 .obtain⟨o,m,n,l,rfl,d⟩:=j7 k;rfl
theorem QV{K:Frag}(a:O9 w=true)(r:Rep K B H w v):Rep K b H w v:=by
 cases w<;>first|(dsimp only[Rep]at r⊢;exact r)|exact ff a
theorem i6{S:SE}:∀x∈(S.lend a).M,x∈S.M:=λx b=>(i5.mp b).1
theorem QW(c:List Nat)(u:cM Φ Ψ G a):cM Φ Ψ G (.BC c a):=by
 have x:∀R,wE Φ G R (.BC c a)=λd Q=>wE Φ G R a d λw=>O9 w=true/\Q w:=λR=>rfl;have q:∀{S:SE}{X:Cx},XOk S Φ Ψ G X->∀ex,aK S false (.BC c a) ex=true->∀R,VE X S.M R .s ex (wE Φ G R (.BC c a)):=λ{S X} b ex k R=>by have k:=a2 k;have o:XOk (S.lend c) Φ Ψ G X:=⟨b.hN,b.nd,b.calm,b.un,b.nk,b.fns,b.KN,b.Dg,b.KO,b.BP,b.kit⟩;rw[x];refine PE.imp (u.s o k.2 R) ?_;rintro y H Q ⟨A,m,d,P,l,i,h,g⟩;obtain⟨p,D,E,C,j⟩:=l.sub (M':=(S.lend c).M) i6 none (λv e=>by cases e);exact⟨p,m,d,_,j,i,h,λw v n f s r=>g w v n f.2 s (.of (QV f.1 r.bH))⟩
 refine⟨λ{S X} b ex k R=>by rw[eT rfl];exact q b ex k R,λ{S X} b ex k z R=>?_,λ{S X} b F I ex k _ R=>?_⟩
 .have k:=a2 k;have o:XOk (S.lend c) Φ Ψ G X:=⟨b.hN,b.nd,b.calm,b.un,b.nk,b.fns,b.KN,b.Dg,b.KO,b.BP,b.kit⟩;rw[x];refine PT.imp (u.t o ex k.2 z R) ?_;rintro y H Q ⟨A,m,d,P,l,i,h,g⟩;obtain⟨p,D,E,C,j⟩:=l.sub (M':=(S.lend c).M) i6 none (λv e=>by cases e);exact⟨p,m,d,_,j,i,h,λw n f s=>g w n f.2 s⟩
 .have B:fT S (.BC c a) ex=false:=rfl;rw[B,fe,dE]at k;exact fN (iV (q b ex (by exact k) R))
theorem QX(i f:Nat)(c:List CE):cM Φ Ψ G (.m6 i f c):=.mk1 (λd ex k R=>by cases k) (λb k a=>by cases k) (λS ex k=>by cases k) (λ_ _=>rfl)
theorem QY(i g f:Nat)(c:List CE):cM Φ Ψ G (.DU i g f c):=.mk1 (λd ex k R=>by cases k) (λb k a=>by cases k) (λS ex k=>by cases k) (λ_ _=>rfl)
theorem QZ(f:Nat)(J:cM Φ Ψ G a)(C:qP Φ Ψ G g):cM Φ Ψ G (.O6 f a g):=by
 refine .mk1 (λ{S X} c ex k R=>?_) (λ{S ex} P k h=>?_) (λS ex k=>by exact k) (λ_ _=>rfl)
 .obtain⟨x,q,i,p,rfl,l⟩:=aL k;obtain⟨⟨⟨⟨⟨B,A⟩,d⟩,z⟩,v⟩,b⟩:=a6 l;obtain⟨N,L,T⟩:=cG c A;obtain⟨O,n,u,I,F,D,H⟩:=c.fns f x (Qb.mp B) (by simpa using z);have F:cL X.prog X.w X.K X.mg X.base u O n (PL X.K n .f (Φ f)):=by
   rw[<-c.Dg]at d;cases E:Ψ f<;>rw[E]at d F<;>first|(cases d;done)|skip
   rename_i m
   cases m<;>first|exact F|exact ff d
  cases i with
  |nil=>exact ff b
  |cons e i=>rw[nW,DL]at b;have t:=jt b.2;have o:=J.e c e b.1 R;rw[c.Dg,jF v]at o;rw[eT rfl,show wE Φ G R (.O6 f a g)=λj Q=>wE Φ G R a j λx=>wA Φ G R g j λs=>Φ f (x::s) (λr=>∃w y,r=.tup [w,y]/\Q w) R from rfl];exact Qq (M:=S.M) (R:=R) (p:=q) (pos:=p) F D N I H o (C.a c _ b.2 R) L (aM (bw (.inl b.1)) _ _) (cT t _ _)
 .obtain⟨x,q,i,p,rfl,l⟩:=aL k;rfl
theorem Q0(i:Nat):cM Φ Ψ G (.pop i):=.mk1 (λc ex k R=>by cases k) (λb k a=>by cases k) (λS ex k=>by cases k) (λ_ _=>rfl)
theorem Q2(h:∀c∈o,cM Φ Ψ G c):cM Φ Ψ G (.jN o):=by
 refine⟨λ{S X} i ex k R=>?_,λ{S X} i ex k _ R=>?_,λ{S X} i tg br ex k _ R=>?_⟩
 .obtain⟨x,q,A,p,rfl,l⟩:=aL k;simp at l
 .obtain⟨x,q,A,p,rfl,l⟩:=aL k;simp at l
 .have E:fT S (.jN o) ex=false:=rfl;rw[E,fe,dE]at k;obtain⟨x,q,A,p,rfl,l⟩:=aL k;obtain⟨⟨⟨⟨⟨_,w⟩,D⟩,C⟩,z⟩,u⟩:=a6 l;have w:=Dx w;subst w;obtain⟨y,H,F⟩:=cG i D;have hz:=i.BP _ (by simpa using C);rcases o with _|⟨a,_|⟨b,_|⟨c,_|⟨d,o⟩⟩⟩⟩
  .simp at z
  .obtain⟨e,r,rfl,j,n⟩:=fF u;cases qQ n;exact J8 (M:=S.M) (R:=R) (br:=br) (tg:=tg) (p:=q) (pos:=p) y hz ((h a FS).s i j R) (aM (bw (.inl j)) _ _)
  .obtain⟨e,r,rfl,j,n⟩:=fF u;obtain⟨f,r,rfl,m,t⟩:=fF n;cases qQ t;exact J9 (M:=S.M) (R:=R) (br:=br) (tg:=tg) (p:=q) (pos:=p) y hz ((h a (by simp)).s i j R) ((h b (by simp)).s i m R) (aM (bw (.inl j)) _ _) (aM (bw (.inl m)) _ _)
  .obtain⟨e,r,rfl,j,n⟩:=fF u;obtain⟨f,r,rfl,m,t⟩:=fF n;obtain⟨g,r,rfl,B,v⟩:=fF t;cases qQ v;exact Ka (M:=S.M) (R:=R) (br:=br) (tg:=tg) (p:=q) (pos:=p) y hz ((h a (by simp)).s i j R) ((h b (by simp)).s i m R) ((h c (by simp)).s i B R) (aM (bw (.inl j)) _ _) (aM (bw (.inl m)) _ _) (aM (bw (.inl B)) _ _)
  .simp at z
theorem qR(h:De f a=true):∃e,a=[e]/\f e=true:=dO h
theorem Q4(n:cM Φ Ψ G a):cM Φ Ψ G (.t9 a):=by
 refine⟨λ{S X} c ex k R=>?_,λ{S X} c ex k _ R=>?_,λ{S X} c s v ex k m R=>?_⟩
 .obtain⟨x,q,g,p,rfl,b⟩:=aL k;simp at b
 .obtain⟨x,q,g,p,rfl,b⟩:=aL k;simp at b
 .have l:fT S (.t9 a) ex=false:=rfl;rw[l,fe,dE]at k;obtain⟨x,q,g,p,rfl,b⟩:=aL k;obtain⟨⟨⟨⟨_,f⟩,j⟩,i⟩,d⟩:=a5 b;have f:=Dx f;subst f;obtain⟨e,rfl,d⟩:=qR d;obtain⟨o,u,t⟩:=cG c j;obtain⟨h,b,r,rfl⟩:=m rfl;exact PV o (c.BP _ (by simpa using i)) (iV (n.e c e d R)) (aM (bw (.inl d)) _ _)
theorem Q5(n:cM Φ Ψ G a):cM Φ Ψ G (.rev a):=by
 have i:∀{S:SE}{X:Cx},XOk S Φ Ψ G X->∀ex,aK S false (.rev a) ex=true->∀R,VE X S.M R (mo Ψ (.rev a)) ex (wE Φ G R (.rev a)):=λ{S X} c ex k R=>by obtain⟨x,q,h,p,rfl,b⟩:=aL k;exact ff b
 refine⟨i,λ{S X} c ex k _ R=>vv (λf=>?_) (C9 (i c ex k R)),λ{S X} c r w ex k s R=>?_⟩
 .obtain⟨x,q,h,p,rfl,b⟩:=aL k;rfl
 .have m:fT S (.rev a) ex=false:=rfl;rw[m,fe,dE]at k;obtain⟨x,q,h,p,rfl,b⟩:=aL k;have b:(decide (x=("reversed":Str))&&lN S x&&S.zn.contains x&&De (λv=>aK S false a v) h)=true:=b;obtain⟨⟨⟨g,l⟩,j⟩,d⟩:=a4 b;have g:=Dx g;subst g;obtain⟨e,rfl,d⟩:=qR d;obtain⟨o,u,t⟩:=cG c l;exact PX o (c.BP _ (by simpa using j)) (iV (n.e c e d R)) (aM (bw (.inl d)) _ _)
theorem Q6{a lo hi:CE}(h:cM Φ Ψ G a)(f:cM Φ Ψ G lo)(g:cM Φ Ψ G hi):cM Φ Ψ G (.slt a lo hi):=by
 refine .mk1 (λ{S X} e ex k R=>?_) (λ{S ex} i k d=>?_) (λS ex k=>by exact k) (λ_ _=>rfl)
 .obtain⟨v,l,r,q,p,rfl,c⟩:=oS k;simp only[DL]at c;rw[eT rfl];exact Qy (h.b e c.1.1 R) (BS f e c.1.2 R) (BS g e c.2 R)
 .obtain⟨v,l,r,q,p,rfl,c⟩:=oS k;rfl
theorem Di(h:attributeBase o x env (eval o env)=eval o env)(d:(backTo pos (starEach b env)).any (·.1)=false)(g:b.length<30)(c:(a.endLine==pos.line)=true):
 eval (.Call (.Attribute o x a) b [] pos) env=(do
  let ov<-eval o env
  standAt a.atName
  let(f,first)<-holding [ov] (getMethod ov x (do return (<-importBound o env).getD true))
  callWith pos f first (backTo pos (starEach b env)) (backToKw pos (keywordEach [] env))):=by
 have j:methodCallForm (b.length+([]:List Keyword).length) (backTo pos (starEach b env)) (backToKw pos (keywordEach [] env))=true:=by
  unfold methodCallForm;have i:(backTo pos (starEach b env)).all (λx=>!x.1)=true:=by rw[T2];intro z hz;rw[cR]at d;simpa using d z hz
  rw[i];show(true&&true&&decide (b.length+0+0<30))=true;simpa using g
 have e:methodCallPos true o env a pos=pure pos:=by unfold methodCallPos;simp[c]
 rw[arm_eval_Call,h];unfold methodCall;rw[j,e];rfl
theorem Q7{c:List (Nat×Nat)}(h:c.any (λy=>y.1==f&&y.2==g)=true):(f,g)∈c:=by obtain⟨⟨a,b⟩,d,e⟩:=List.any_eq_true.mp h;rw[DL]at e;cases Qb.mp e.1;cases Qb.mp e.2;exact d
theorem qS{f:NameKind->NameKind}:∀(l:List (Str×NameKind))(y:Str),(l.map λp=>(p.1,f p.2)).lookup y=(l.lookup y).map f
 |[],_=>rfl
 |(n,k)::r,y=>by
  rw[Wp,Ck,Ck];by_cases e:(y==n)=true
  .rw[e];rfl
  .rw[kf]at e;rw[e];exact qS r y
theorem vE(h:∀x,a.names.lookup x=b.names.lookup x):dI sc a N d c=dI sc b N d c:=by unfold dI;simp only[h]
theorem KW(a:XOk S Φ Ψ G X)(g:dI scope X.env.scope X.N (mask b S.N) b=true)(h:(b++mask b S.N).Nodup){d:St}{H:Hp}{s:Shared}(I:Inv X c d H s)(C:Addr)(e:Shared)(j:Hp)(i:List Addr):
 XOk (S.comp scope b) Φ Ψ G (aR X scope C b (mask b S.N) e j i):=by
 refine⟨rfl,h,a.calm,a.un,λx=>?_,a.fns,a.KN,a.Dg,a.KO,a.BP,a.kit⟩;show(relabel scope X.env).names.lookup x=_;rw[gy I (gh.of g)];show _=(scope.names.map λp=>(p.1,if p.2=.free then NameKind.cell else p.2)).lookup x;rw[qS (f:=λk=>if k=.free then NameKind.cell else k)]
def j8(X:Cx)(i:Nat)(x:Str):Prop:=X.N[i]?=some x/\Loc X.env.scope x/\(X.fn x=true\/X.env.scope.names.lookup x=some .local)
noncomputable def eU(X:Cx):List Nat->List Str->Prop
 |[],a=>a=[]
 |i::b,a=>∃x r,a=x::r/\j8 X i x/\eU X b r
theorem M9(a:X.N.Nodup)(h:j8 X i x):PG X (.Name x p) (iH i):=IL a h.1 h.2.1 h.2.2
theorem GC(f:X.N.Nodup):∀(a:List Expr)(c:List Str)(b:List Nat),Gx a=some c->eU X b c->Ur X a (V1 b)/\(assignEach a X.env).length=b.length/\(assignEach a X.env).findIdx? (·.1)=none
 |[],c,b,h,k=>by
  cases h;cases b with
  |nil=>exact⟨IM,rfl,rfl⟩
  |cons i d=>obtain⟨x,r,e,_⟩:=k;cases e
 |e::a,c,b,h,k=>by
  cases e with
  |Name x p=>
   obtain⟨l,n,rfl⟩:=L9.mp h;cases b with
   |nil=>cases k
   |cons i d=>obtain⟨s,r,e,q,o⟩:=k;cases e;obtain⟨m,j,g⟩:=GC f a l d n o;have e:assignEach (.Name x p::a) X.env=(false,assign (.Name x p) X.env)::assignEach a X.env:=rfl;refine⟨Ek (M9 f q) m rfl,by rw[e,Av,j,Av],?_⟩;rw[e,List.findIdx?_cons,g];rfl
  |_=>exact nn h
theorem GD(q:X.calm=true)(c:X.N.Nodup)(h:Tz tg=some (one,b))(k:eU X a b):PG X tg (gT X.K one a):=by
 cases tg with
 |Name x p=>
  cases h
  match a,k with
  |[i],k=>obtain⟨g,r,e,f,d⟩:=k;cases e;exact M9 c f
  |[],k=>cases k
  |_::_::_,k=>obtain⟨g,r,e,f,d⟩:=k;cases e;obtain⟨u,v,t,_⟩:=d;cases t
 |Tuple s w p=>
  dsimp only[Tz]at h;obtain⟨l,o,e⟩:=L9.mp h;cases e;obtain⟨n,m,j⟩:=GC c s b a o k;have:gT X.K false a=NT X.K a.length (V1 a):=by cases a<;>rfl
  rw[this];exact NU q n m j
 |_=>exact nn h
theorem nX:∀(a:List Str)(n:Nat),(∀k x,a[k]?=some x->j8 X (n+k) x)->eU X ((Bn a.length).map (n+·)) a
 |[],n,_=>rfl
 |x::a,n,h=>by
  rw[Av,zz8,Wp];refine⟨x,a,rfl,h 0 x rfl,?_⟩;have:=nX a (n+1) λk y b=>by have:=h (k+1) y (by simpa using b);rw[show n+1+k=n+(k+1) by lia];exact this
  rw[U2];have e:(Bn a.length).map (n+1+·)=(Bn a.length).map ((n+·)∘jH):=kS λk _=>by show n+1+k=n+(k+1);lia
  rw[<-e];exact this
theorem qT(h:vD a=true)(env:Env)(x:Value):foldedSetIterable a env x=pure x:=by
 cases a<;>first|rfl|exact ff h
theorem BU:wE Φ G R (.comp d one n i c x)=λb Q=>wE Φ G R i b λz=>items z λf=>iU (λw K=>wT one d w (B1 n none++b) λa=>wE Φ G (λ_=>False) c a λe=>truth e λk=>if k=true then wE Φ G (λ_=>False) x a λy=>K (some y)else K none) f [] λl=>Q (.lst l):=rfl
theorem Dj(x:XOk S Φ Ψ G X)(h:qM S m one n en J L F l tg c i scope=true):
 ∃a,n=a.length/\(∀j∈m,j<a.length)/\dI scope X.env.scope X.N (mask a S.N) a=true/\(∀z,foldedSetIterable c X.env z=pure z)/\(en=true->∃M k p,tg=Expr.Tuple M k p)/\J c=true/\L (S.comp scope a) i=true/\F (S.comp scope a) l=true/\
  ∀d s B H,Inv X d B H s->∀C e g f,PG (aR X scope C a (mask a S.N) e g f) tg (gT X.K one m)/\XOk (S.comp scope a) Φ Ψ G (aR X scope C a (mask a S.N) e g f):=by
 unfold qM at h;split at h;rotate_left
 .cases h
 rename_i o a KY
 obtain⟨⟨⟨⟨⟨⟨⟨⟨⟨t,r⟩,q⟩,U⟩,T⟩,R⟩,E⟩,Q⟩,P⟩,Q3⟩:=a10 h;have t:=Qb.mp t;have r:=Qb.mp r;have q:=Qb.mp q;subst t r q;have w:=Dx T;have v:dI scope X.env.scope X.N (mask a S.N) a=true:=by rw[x.hN,vE (b:=S.sc) λy=>x.nk y];exact U
 have O:=gh.of v;refine⟨a,rfl,λj Z=>wx.mp Z,v,qT R _,λz=>?_,Q,P,Q3,λd s B H I C e g f=>?_⟩
 .have:one=false:=by rw[z]at E;simpa using E
  subst this;cases tg with
  |Tuple M h p=>exact⟨_,_,_,rfl⟩
  |Name y p=>cases KY
  |_=>exact nn KY
 .have A:=KW x v w I C e g f;refine⟨GD A.calm A.nd KY ?_,A⟩;have:=nX (X:=aR X scope C a (mask a S.N) e g f) a 0 λk y u=>?_
  .simpa using this
  .have Y:y∈a:=Mo u;have D:(aR X scope C a (mask a S.N) e g f).env.scope.names.lookup y=some .local:=by show(relabel scope X.env).names.lookup y=_;rw[gy I O,(O.own y Y).1];rfl
   refine⟨?_,.inl D,.inr D⟩;show(a++mask a S.N)[0+k]?=some y;rw[lh,QP (Fu.mp u).1];exact u
theorem qU(hi:cM Φ Ψ G i)(hc:cM Φ Ψ G c)(hx:cM Φ Ψ G x)(Z:XOk S Φ Ψ G X)(k:aK S false (.comp L one n i c x) ex=true)(R:Addr->Prop):
 ∃B tg a y scope p d,ex=.ListComp B [⟨tg,a,y,0⟩] scope p/\n=d.length/\(∀j∈L,j<d.length)/\dI scope X.env.scope X.N (mask d S.N) d=true/\(∀z,foldedSetIterable a X.env z=pure z)/\PI X tg a (Ge X S.M R true (wE Φ G R i))/\
  ∀g s D H,Inv X g D H s->(∀C o l u,PG (aR X scope C d (mask d S.N) o l u) tg (gT X.K one L))/\(∀C o l u,PF (aR X scope C d (mask d S.N) o l u) y (Zl X.K (up S.M d.length) (wE Φ G (λ_=>False) c)))/\
   ∀C o l u,(XOk (S.comp scope d) Φ Ψ G (aR X scope C d (mask d S.N) o l u)/\aK (S.comp scope d) false x B=true)/\PE (aR X scope C d (mask d S.N) o l u) B (Zk X.K (up S.M d.length) (wE Φ G (λ_=>False) x)):=by
 obtain⟨B,tg,a,y,scope,p,rfl,kk⟩:=uf k;obtain⟨d,rfl,T,ho,U,Y,k8,m,Q3,O⟩:=Dj Z kk;refine⟨B,tg,a,y,scope,p,d,rfl,rfl,T,ho,U,hi.i Z tg true a (by rw[eF];exact k8) Y R,λg s D H I=>⟨λC o l u=>(O g s D H I C o l u).1,λC o l u=>?_,λC o l u=>?_⟩⟩
 .have J:=(O g s D H I C o l u).2
  match y,m with
  |[],m=>
   have m:M7 c=true:=m;cases c with
   |bl b=>have:b=true:=m;subst this;refine PF.imp Oo ?_;rintro D H Q ⟨A,l,E,P,F,h,k⟩;obtain⟨b,e,q⟩:=k _ H h (aE.refl H);cases e;exact q
   |_=>exact ff m
  |[f],m=>have m:(aK (S.comp scope d) false c f&&Dd c)=true:=m;rw[DL]at m;exact PF.imp (Oq (hc.t J f m.1 m.2 λ_=>False))<|by rintro D H Q ⟨A,l,E,P,F,h,k⟩;exact⟨A,l,E,P,F,.none,h,k⟩
  |_::_::_,m=>exact ff m
 .have J:=(O g s D H I C o l u).2;refine⟨⟨J,Q3⟩,?_⟩;exact PE.imp (hx.s J Q3 λ_=>False)<|by rintro D H Q ⟨A,l,E,P,F,h,k⟩;exact⟨A,l,E,P,F,.none,h,λw v H' pw s r=>k w v H' pw s r.bH⟩
theorem KZ(o:List Nat)(one:Bool)(n:Nat)(hi:cM Φ Ψ G i)(B:cM Φ Ψ G c)(w:cM Φ Ψ G x):cM Φ Ψ G (.comp o one n i c x):=by
 refine .mk1 (λ{S X} m ex k R=>?_) (λ{S ex} E k e=>?_) (λS ex k=>by exact k) (λ_ _=>rfl)
 .obtain⟨j,q,d,f,b,p,K,rfl,rfl,g,A,h,F,z⟩:=qU hi B w m k R;rw[jF rfl];rw[BU];intro a s l H Q I y;obtain⟨v,u,t⟩:=z a s l H I;exact Kc m.calm A g F v u (λC r J D=>(t C r J D).2) h a s l H Q I y
 .obtain⟨j,q,d,f,b,p,rfl,L⟩:=uf k;rfl
theorem Q8:qP Φ Ψ G []:=by
 have en:∀{S:SE}{a:List Expr},gi S [] a=true->a=[]:=λ{S a} h=>by exact Ki.mp h
 have e:∀{S:SE}{a:List Expr},yc S [] a=true->a=[]:=λ{S a} h=>by exact Ki.mp h
 refine⟨λd a k R=>?_,λd a k R=>?_,λd a b c k R=>absurd (en k) c,λd a b c k R=>absurd (en k) c,λd a b c k _ R=>absurd (en k) c,λd a b c k _ R=>absurd (en k) c⟩
 .rw[en k];exact PB
 .rw[e k];exact J2
theorem K1(l:cM Φ Ψ G a)(o:qP Φ Ψ G m):qP Φ Ψ G (a::m):=by
 have p:∀{S:SE}{j:List Expr},gi S (a::m) j=true->∃e r,j=e::r/\aK S false a e=true/\gi S m r=true:=λ{S j} h=>by
  cases j with
  |nil=>exact ff h
  |cons e r=>have h:=Pt.mp h;exact⟨e,r,rfl,h.1,h.2⟩
 have w:∀R,wA Φ G R (a::m)=λv Q=>wE Φ G R a v λx=>wA Φ G R m v λy=>Q (x::y):=λR=>rfl;refine⟨λc j k R=>?_,λ{S X} c j k R=>?_,λ{S X} c j f q k R=>?_,λ{S X} c j f q k R=>?_,λ{S X} c j f q k i R=>?_,λ{S X} c j f q k i R=>?_⟩
 .obtain⟨e,r,rfl,g,d⟩:=p k;rw[w];exact J1 (aM (bw (.inl g)) _ _) (l.s c g R) (o.a c r d R)
 .cases j with
  |nil=>exact ff k
  |cons e r=>have k:=Pt.mp k;rw[w];exact F9 (aM (bw (gI k.1)) _ _) (l.b c k.1 R) (o.b c r k.2 R)
 .obtain⟨e,r,rfl,g,d⟩:=p k;cases m with
  |nil=>
   have:r=[]:=by exact Ki.mp d
   subst this;exact Ef (l.s c g R)
  |cons b u=>
   cases r with
   |nil=>exact ff d
   |cons n r=>exact Pu (l.s c g R) (o.av c (n::r) f (by simp) d R)
 .obtain⟨e,r,rfl,g,d⟩:=p k;cases m with
  |nil=>
   have:r=[]:=by exact Ki.mp d
   subst this;exact Ef (l.s c g R)
  |cons b u=>
   cases r with
   |nil=>exact ff d
   |cons n r=>exact VU (l.s c g R) (o.ov c (n::r) f (by simp) d R)
 .obtain⟨e,r,rfl,g,d⟩:=p k;have i:=a2 i;cases m with
  |nil=>
   have:r=[]:=by exact Ki.mp d
   subst this;exact J0 (l.t c e g i.1 R)
  |cons b u=>
   cases r with
   |nil=>exact ff d
   |cons n r=>exact Px (l.t c e g i.1 R) (o.at c (n::r) f (by simp) d i.2 R)
 .obtain⟨e,r,rfl,g,d⟩:=p k;have i:=a2 i;cases m with
  |nil=>
   have:r=[]:=by exact Ki.mp d
   subst this;exact Pw (l.t c e g i.1 R)
  |cons b u=>
   cases r with
   |nil=>exact ff d
   |cons n r=>exact VW (l.t c e g i.1 R) (o.ot c (n::r) f (by simp) d i.2 R)
variable(Φ Ψ G)
mutual
theorem snd:∀c:CE,cM Φ Ψ G c
 |.var i=>QE i
 |.int i=>QG i
 |.bl b=>Wb b
 |.str x=>QH x
 |.cu=>QI
 |.glob g=>KQ g
 |.bin op a b=>QJ op (snd a) (snd b)
 |.neg a=>QK (snd a)
 |.not a=>QL (snd a)
 |.cmp op a b=>QM op (snd a) (snd b)
 |.and d=>QN (ni d).1
 |.or d=>Wd (ni d).1
 |.ite c a b=>QO (snd c) (snd a) (snd b)
 |.tup d=>QS (ni d).1
 |.lst d=>QT (ni d).1
 |.ix a i=>Wf (snd a) (snd i)
 |.sl a lo hi=>Wg (snd a) (snd lo) (snd hi)
 |.call f d=>KR f (ni d).1
 |.blt b d=>QU b (ni d).1 (ni d).2
 |.bits a=>KU (snd a)
 |.comp e one n i c x=>KZ e one n (snd i) (snd c) (snd x)
 |.jN d=>Q2 (ni d).2
 |.t9 a=>Q4 (snd a)
 |.rev a=>Q5 (snd a)
 |.pop i=>Q0 i
 |.own i π=>QF i π
 |.m6 i f d=>QX i f d
 |.BC h a=>QW h (snd a)
 |.DU i g f d=>QY i g f d
 |.O6 f a d=>QZ f (snd a) (ni d).1
 |.slt a lo hi=>Q6 (snd a) (snd lo) (snd hi)
theorem ni:∀cs:List CE,qP Φ Ψ G cs/\∀c∈cs,cM Φ Ψ G c
 |[]=>⟨Q8,by simp⟩
 |c::cs=>⟨K1 (snd c) (ni cs).1,λd a=>by
  rcases IH.mp a with e|h
  .rw[e];exact snd c
  .exact(ni cs).2 d h⟩
end
end
noncomputable def TF(S:SE)(i:Nat)(x:Str):Bool:=S.N[i]?==some x&&(S.nk.lookup x==some .local||S.nk.lookup x==some .cell)
noncomputable def zY(S:SE):List Nat->List Str->Bool
 |[],a=>a.isEmpty
 |i::b,a=>match a with
  |x::r=>TF S i x&&zY S b r
  |[]=>false
noncomputable def GF(S:SE)(a:List Nat):Bool:=a.all λi=>!x9 S.M i
noncomputable def SE.less(S:SE)(i:Nat):SE:={S with M:=S.M.filter (·.1 !=i)}
noncomputable def SE.bare(S:SE):SE:={S with M:=[]}
noncomputable def zZ:Expr->Bool
 |.Tuple _ _ _=>false
 |_=>true
noncomputable def Na:Expr->Bool
 |.ListComp _ _ _ _=>false
 |_=>true
noncomputable def TH(S:SE)(b vs:List Expr):Option (Option (List Str)):=
 if !(b.length==2||b.length==3)||vs.length !=b.length then some none
 else if vs.any λ|.Starred ..=>true|_=>false then some none
 else
  let line:=(b.head?.map (·.pos.line)).getD 0
  let a:=b.filterMap λ
   |.Name c pos=>if S.nk.lookup c==some .local&&pos.line==line then some c else none
   |_=>none
  if a.length !=b.length||a.eraseDups.length !=a.length then some none
  else if vs.all (foldedForSure 8)then some none
  else if vs.all (constantsAlone 8)then none
  else some (some a)
noncomputable def Dk(f:List Expr->Expr->Bool):Stmt->Bool
 |.Assign a v _=>f a v
 |_=>false
noncomputable def oWh(f:Expr->List Stmt->List Stmt->Bool):Stmt->Bool
 |.While c a b _=>f c a b
 |_=>false
noncomputable def oFr(f:Expr->Expr->List Stmt->List Stmt->Bool):Stmt->Bool
 |.For t i a b _=>f t i a b
 |_=>false
noncomputable def Q9(f:Expr->Bool):Stmt->Bool
 |.Expr v _=>f v
 |_=>false
noncomputable def GG(f:Str->Pos->Expr->Bool):Stmt->Bool:=Dk λa v=>o1 (Zp λx p=>f x p v) a
noncomputable def GH(f:List Expr->Expr->Bool):Stmt->Bool:=Dk λa v=>o1 (zV λb=>f b v) a
noncomputable def Nb(f:List Expr->List Expr->Bool):Stmt->Bool:=Dk λb v=>o1 (zV λc=>zV (λa=>f c a) v) b
noncomputable def Nc(f:Expr->Expr->Expr->Bool):Stmt->Bool:=Dk λa v=>o1 (Gu λo k=>f o k v) a
def Nd(f:Expr->Str->Pos->Pos->Expr->Expr->Bool):Stmt->Bool:=Q9 (ue λg b k c=>k&&o2 (λu v=>zU (λo m a=>f o m a c u v) g) b)
noncomputable def Wi(f:Expr->Str->Pos->Pos->Expr->Bool):Stmt->Bool:=Q9 (ue λg b k c=>k&&o1 (λv=>zU (λo m a=>f o m a c v) g) b)
noncomputable def K3(n:Bool)(f:Expr->Bool):Stmt->Bool
 |.Return (some v) _=>f v
 |.Return none _=>n
 |_=>false
noncomputable def Ra(f:Expr->List Stmt->List Stmt->Bool):Stmt->Bool
 |.If c a b _=>f c a b
 |_=>false
noncomputable def Rb(f:Expr->List Stmt->Bool):Stmt->Bool:=oWh λc a b=>b.isEmpty&&f c a
noncomputable def Rc(f:Expr->Expr->List Stmt->Bool):Stmt->Bool:=oFr λt i a b=>b.isEmpty&&f t i a
noncomputable def Zt:Stmt->Bool
 |.Break _=>true
 |_=>false
noncomputable def GI(f:Stmt->Bool)(g:List Stmt->Bool):List Stmt->Bool
 |e::a=>f e&&g a
 |[]=>false
mutual
noncomputable def Wj:Md->Md->Bool
 |.s,m=>KG m
 |.f,m=>Tw m
 |.o d a,m=>match m with
  |.o c b=>decide (d=c)&&Rf a b
  |_=>false
 |.io a,m=>match m with
  |.io b=>Wj a b
  |_=>false
noncomputable def Rf:List Md->List Md->Bool
 |[],l=>l.isEmpty
 |a::d,l=>match l with
  |b::c=>Wj a b&&Rf d c
  |[]=>false
end
mutual
theorem qV:∀{a b:Md},Wj a b=true->a=b
 |.s,m,h=>by cases m<;>first|rfl|exact ff h
 |.f,m,h=>by cases m<;>first|rfl|exact ff h
 |.o d a,m,h=>by
  cases m with
  |o c b=>have h:=Pt.mp h;rw[Dx h.1,BV h.2]
  |_=>exact ff h
 |.io a,m,h=>by
  cases m with
  |io b=>exact SU _ (qV h)
  |_=>exact ff h
theorem BV:∀{a b:List Md},Rf a b=true->a=b
 |[],l,h=>by
  cases l with
  |nil=>rfl
  |cons b c=>exact ff h
 |a::d,l,h=>by
  cases l with
  |nil=>exact ff h
  |cons b c=>have h:=Pt.mp h;rw[qV h.1,BV h.2]
end
noncomputable def hasB(M:Ms)(i:Nat)(m:Md):Bool:=match M.lookup i with
 |some k=>Wj k m
 |none=>false
theorem jv(h:hasB M i m=true):(i,m)∈M:=by
 unfold hasB at h;cases e:M.lookup i with
 |none=>rw[e]at h;exact ff h
 |some k=>rw[e]at h;rw[<-qV h];exact iW e
noncomputable def Nf(f:Expr->Str->List Expr->Bool):Expr->Bool:=ue λg b k c=>k&&zU (λo m a=>(a.endLine==c.line)&&decide (b.length<30)&&f o m b) g
mutual
noncomputable def fU(S:SE):CE->Expr->Bool
 |.pop i,e=>zW (λo m n k=>decide (m=("pop":Str))&&(n.endLine==k.line)&&zT S.M i&&j6 S i o) e
 |.m6 i f h,e=>iX (λx d=>S.fn[f]?==some x&&lN S x&&!S.mt.any (·.1==f)&&(match fO S.md f with
  |.io m=>hasB S.M i m
  |_=>false)&&nW (λv=>j6 S i v) (λd=>nY S h d) d) e
 |.DU i g f h,e=>Nf (λo x d=>S.fn[f]?==some x&&S.mt.any (λy=>y.1==f&&y.2==g)&&(match fO S.md f with
  |.io (.o j ms)=>hasB S.M i (.o j ms)&&!j.contains x
  |_=>false)&&j6 S i o&&(h.isEmpty&&d.isEmpty)) e
 |.bin op a b,e=>Gq (λo l r=>decide (op=o)&&fU S a l&&fU S b r) e
 |.cmp op a b,e=>Gr (λo l r=>decide (op=o)&&!decide (op=.In)&&!decide (op=.NotIn)&&fU S a l&&fU S b r) e
 |.call f h,e=>iX (λx d=>S.fn[f]?==some x&&lN S x&&!d.isEmpty&&!gG (fO S.md f)&&!S.mt.any (·.1==f)&&nY S h d) e
 |.blt b h,e=>iX (λx d=>decide (x=XF b)&&lN S x&&S.zn.contains x&&biA b d.length&&!d.isEmpty&&nY S h d) e
 |.ix a b,e=>Gu (λv s=>BO s&&fU S a v&&fU S b s) e
 |.lst h,e=>QC (λd=>nY S h d) e
 |.tup h,e=>zV (λd=>nY S h d) e
 |.and _,_=>false
 |.or _,_=>false
 |c,e=>aK S false c e
noncomputable def nY(S:SE):List CE->List Expr->Bool
 |[],b=>b.isEmpty
 |a::c,b=>nW (λe=>fU S a e) (λb=>nY S c b) b
end
noncomputable def nZ(S:SE):CE->Expr->Bool
 |.cmp op a b,e=>fU S (.cmp op a b) e
 |.m6 i f d,e=>fU S (.m6 i f d) e
 |.DU i g f d,e=>fU S (.DU i g f d) e
 |.call f d,e=>fU S (.call f d) e
 |.pop _,_=>false
 |.bin _ _ _,_=>false
 |.blt _ _,_=>false
 |.ix _ _,_=>false
 |.lst _,_=>false
 |.tup _,_=>false
 |.and _,_=>false
 |.or _,_=>false
 |c,e=>aK S false c e&&Dd c
noncomputable def lO(S:SE):List CE->List Expr->Bool
 |[],_=>false
 |a::f,c=>match f with
  |[]=>De (λe=>nZ S a e) c
  |b::d=>nW (λe=>nZ S a e) (λc=>lO S (b::d) c) c
noncomputable def GJ(S:SE):CE->Expr->Bool
 |.and b,e=>QB (λo a=>decide (o=.And)&&lO S b a) e
 |.or b,e=>QB (λo a=>decide (o=.Or)&&lO S b a) e
 |c,e=>nZ S c e
noncomputable def isS:Md->Bool
 |.s=>true
 |_=>false
noncomputable def Zu(a:Nat->Md):CE->Md
 |.call f _=>a f
 |c=>mo a c
noncomputable def isVar:CE->Option Nat
 |.var i=>some i
 |_=>none
noncomputable def Wm(S:SE)(m:Md)(e:CE)(v:Expr):Bool:=match isVar e with
 |some i=>hasB S.M i m&&j6 S i v
 |none=>false
noncomputable def Wn(S:SE)(a:Nat->Md)(m:Md)(e:CE)(v:Expr):Bool:=
 !gG m&&((isS m&&(aK S.bare false e v||aK S false e v))||(Wj (Zu a e) m&&(aK S.bare false e v||aK S false e v))||Wm S m e v)
noncomputable def K4(S:SE)(m:Md):Bool:=match m with
 |.io k=>hasB S.M 0 k
 |_=>false
noncomputable def Ng(f:Expr->Str->Expr->Bool):Stmt->Bool:=Dk λa v=>o1 (zU λo x _=>f o x v) a
noncomputable def isCall:CE->Bool
 |.call _ _=>true
 |_=>false
noncomputable def Rg(S:SE)(i n:Nat)(x:Str):Bool:=match S.M.lookup i with
 |some (.o b a)=>b[n]?==some x&&(match a[n]? with
  |some k=>KG k
  |none=>false)
 |_=>false
noncomputable def XG(S:SE)(a:List Nat)(one e:Bool)(f:Expr->Bool)(g:List Stmt->Bool)(tg c:Expr)(b:List Stmt):Bool:=
 match Tz tg with
 |some (o,d)=>(one==o)&&zY S a d&&GF S a&&vD c&&(!e||!one)&&f c&&g b
 |none=>false
noncomputable def GK:Expr->Bool
 |.SetComp _ _ _ _=>false
 |.DictComp _ _ _ _ _=>false
 |_=>true
mutual
noncomputable def K5(S:SE)(d:Nat->Md)(m:Md):CS->Stmt->Bool
 |.set i e,st=>GG (λx _ v=>TF S i x&&(if x9 S.M i=true then(!gG m||!(i==0))&&((zT S.M i&&iL d e)||(isCall e&&hasB S.M i (Zu d e)))&&aK (S.less i) false e v else aK S false e v)) st
 |.ua f e,st=>GH (λh v=>(match Gx h with|some g=>zY S f g|none=>false)&&GF S f&&aK S false e v&&(zZ v||zV (λvs=>decide (TH S h vs=some none)) v)) st
 |.par f h,st=>Nb (λtg vs=>(match Gx tg with|some g=>zY S f g&&decide (TH S tg vs=some (some g))&&decide g.Nodup&&g.all (λx=>S.nk.lookup x==some .local)|none=>false)&&GF S f&&gi S h vs&&decide (vs.length=2)) st
 |.app i e,st=>Wi (λo l q p v=>decide (l=("append":Str))&&(q.endLine==p.line)&&zT S.M i&&j6 S i o&&aK S false e v) st
 |.ins i a e,st=>Nd (λo l q p u v=>decide (l=("insert":Str))&&(q.endLine==p.line)&&zT S.M i&&j6 S i o&&aK S false a u&&aK S false e v) st
 |.put i k e,st=>Nc (λo j v=>zT S.M i&&j6 S i o&&BO j&&aK S false k j&&aK S false e v) st
 |.jZ j e,st=>GG (λx _ v=>TF S j x&&!x9 S.M j&&Na v&&GK v&&fU S e v) st
 |.Tr f e,st=>GH (λh v=>(match Gx h with|some g=>zY S f g|none=>false)&&GF S f&&zZ v&&fU S e v) st
 |.ret e,st=>K3 (iK e&&isS m) (λv=>Wn S d m e v) st
 |.iff c a b,st=>Ra (λt x y=>aK S false c t&&Dd c&&cJ S d m a x&&cJ S d m b y) st
 |.zG c b,st=>Rb (λt x=>aK S false c t&&Dd c&&cJ S d m b x) st
 |.fr f one r b,st=>Rc (λtg i x=>XG S f one (Gy r) (λi=>aK S true r i) (λx=>cJ S d m b x) tg i x) st
 |.brk,st=>Zt st
 |.C6 i n e,st=>Ng (λo x v=>Rg S i n x&&j6 S i o&&aK S false e v) st
 |.C7 e,st=>K3 (iK e&&K4 S m) (λv=>K4 S m&&aK S false e v) st
 |.Tt j c b,st=>Rc (λtg i x=>XG S [j] true false (λi=>iX (λy h=>decide (y=("range":Str))&&lN S y&&S.zn.contains y&&De (λe=>fU S c e) h) i) (λx=>cJ S d m b x) tg i x) st
 |.VC c a b,st=>Ra (λt x y=>GJ S c t&&cJ S d m a x&&cJ S d m b y) st
 |.Tp c b,st=>Rb (λt x=>GJ S c t&&cJ S d m b x) st
 |.Tq,_=>true
 |.VD e,st=>K3 false (λv=>K4 S m&&fU S e v) st
 |.MV _ _,_=>false
noncomputable def cJ(S:SE)(d:Nat->Md)(m:Md):List CS->List Stmt->Bool
 |[],c=>c.isEmpty
 |a::g,c=>match a with
  |.MV f b=>g.isEmpty&&(!gG m||!f.contains 0)&&cJ (S.lend f) d m b c
  |a=>GI (λe=>K5 S d m a e) (λc=>cJ S d m g c) c
end
structure DX(S:SE)(Φ:Nat->aV)(Ψ:Nat->Md)(G:Nat->W)(X:Cx):Prop extends XOk S Φ Ψ G X where
 bk:X.env.blockKind=.function
 XH:∀x,X.fn x=true
 K6:∀j x C,S.gn[j]?=some x->G j=.cls C->YK X.K C
 own:PassesOwn (model X.prog X.w) X.A X.env X.xe
 stk:X.stack=X.env::X.outer/\X.env.frame=some X.env.locals
 Wo:∀i m m',(i,m)∈S.M->(i,m')∈S.M->m=m'
section
variable{S:SE}{Φ:Nat->aV}{Ψ:Nat->Md}{G:Nat->W}{X:Cx}
theorem XOk.qW(h:XOk S Φ Ψ G X)(M:Ms):XOk {S with M:=M} Φ Ψ G X:=⟨h.hN,h.nd,h.calm,h.un,h.nk,h.fns,h.KN,h.Dg,h.KO,h.BP,h.kit⟩
theorem vF(h:DX S Φ Ψ G X)(k:TF S i x=true):j8 X i x:=by unfold TF at k;simp only[DL,uj,Qb]at k;refine⟨by rw[h.hN];exact k.1,?_,.inl (h.XH x)⟩;unfold L2.Loc;rw[h.nk];exact k.2
theorem jw(h:DX S Φ Ψ G X):∀{b:List Nat}{a:List Str},zY S b a=true->eU X b a
 |[],a,k=>Ki.mp k
 |i::c,[],k=>by cases k
 |i::c,x::r,k=>by rw[zY,DL]at k;exact⟨x,r,rfl,vF h k.1,jw h k.2⟩
theorem lP(h:GF S a=true):∀i∈a,¬bq S.M i:=λi b=>lJ (by simpa using T2.mp h i b)
theorem GL(hi:(i,m)∈S.M)(d:∀c,(i,c)∈S.M->c=m):x∈S.M↔x=(i,m)\/x∈(S.less i).M:=by
 show _↔_\/x∈S.M.filter (·.1 !=i);rw[i5,bne_iff_ne];obtain⟨a,b⟩:=x;constructor
 .intro h;by_cases e:a=i
  .subst e;rw[d b h];exact .inl rfl
  .exact .inr ⟨h,e⟩
 .rintro(e|h)
  .cases e;exact hi
  .exact h.1
theorem GN:¬bq (S.less i).M i:=by rintro⟨m,h⟩;have h:(i,m)∈S.M.filter (·.1 !=i):=h;rw[i5,bne_iff_ne]at h;exact h.2 rfl
noncomputable def BW:Expr->Bool
 |.SetComp _ _ _ _=>false
 |.DictComp _ _ _ _ _=>false
 |_=>true
theorem Rh(h:aK S d c e=true):BW e=true:=by
 cases e with
 |SetComp _ _ _ _=>
  cases c with
  |own i b=>obtain⟨_,_,_,e⟩:=(fE h).2;cases e
  |BC f a=>exact ff h
  |_=>exact ff h
 |DictComp _ _ _ _ _=>
  cases c with
  |own i b=>obtain⟨_,_,_,e⟩:=(fE h).2;cases e
  |BC f a=>exact ff h
  |_=>exact ff h
 |_=>rfl
noncomputable def Zv(S:SE)(x:Str)(p:Pos):Expr->Bool
 |.ListComp _ _ scope q=>(S.nk.lookup x==some .local)&&(p.line==q.line)&&!(scope.names.any λ(n,k)=>n==x&&(k==.local||k==.cell))
 |_=>false
theorem Wq(h:DX S Φ Ψ G X)(c:BW e=true)(x:Str)(p:Pos)(l:Nat):swapsWith e (some (.Name x p)) l X.env=pure (Zv S x p e):=by
 cases e with
 |ListComp a b scope q=>show(pure _:Sem Bool)=pure _;rw[h.bk];show(pure (true&&(X.env.scope.names.lookup x==some .local)&&(p.line==q.line)&&_):Sem Bool)=_;rw[h.nk,eF];rfl
 |SetComp _ _ _ _=>exact ff c
 |DictComp _ _ _ _ _=>exact ff c
 |_=>rfl
theorem BX(l:Nat)(env:Env):swapsWithSole [.Tuple a k p] e l env=pure false:=by
 cases e<;>rfl
theorem GO(l:Nat)(env:Env):swapsWithSole [.Subscript o i p] e l env=pure false:=by
 cases e<;>rfl
theorem BY(a:zZ e=true)(b:List Expr)(k:Nat)(p:Pos)(env:Env):swappedStores [.Tuple b k p] e env=pure none:=by
 cases e<;>first|rfl|exact ff a
theorem GP(env:Env):swappedStores [.Subscript o i p] e env=pure none:=by
 cases e<;>rfl
theorem GQ(h:DX S Φ Ψ G X)(e:TH S a vs=some o):swappedStores [.Tuple a k p] (.Tuple vs k2 p2) X.env=pure o:=by
 delta swappedStores
 unfold TH at e;have b:∀x,X.env.kindOf x=S.nk.lookup x:=λx=>h.nk x;simp only[b,h.bk,bne_self_eq_false,dE];dsimp only at e;split at e
 .rename_i c
  cases e;exact D1 c
 rename_i c1
 refine(Bz c1).trans ?_;split at e
 .rename_i c
  cases e;exact D1 c
 rename_i c2
 refine(Bz c2).trans ?_;split at e
 .rename_i c
  cases e;exact D1 c
 rename_i c3
 refine(Bz c3).trans ?_;split at e
 .rename_i c
  cases e;exact D1 c
 rename_i c4
 refine(Bz c4).trans ?_;split at e
 .cases e
 rename_i c5
 cases e;exact Bz c5
end
theorem i7(h:Dk f e=true):∃a v q,e=.Assign a v q/\f a v=true:=by cases e<;>first|exact⟨_,_,_,rfl,h⟩|exact ff h
theorem K7(h:oWh f e=true):∃c a b q,e=.While c a b q/\f c a b=true:=by cases e<;>first|exact⟨_,_,_,_,rfl,h⟩|exact ff h
theorem K8(h:oFr f e=true):∃t i a b q,e=.For t i a b q/\f t i a b=true:=by cases e<;>first|exact⟨_,_,_,_,_,rfl,h⟩|exact ff h
theorem yf{st:Stmt}(h:Q9 f st=true):∃v q,st=.Expr v q/\f v=true:=by cases st<;>first|exact⟨_,_,rfl,h⟩|exact ff h
theorem uh{st:Stmt}(h:GG f st=true):∃x p v q,st=.Assign [.Name x p] v q/\f x p v=true:=by obtain⟨d,v,q,rfl,c⟩:=i7 h;obtain⟨t,rfl,b⟩:=dO c;obtain⟨x,p,rfl,a⟩:=BL b;exact⟨_,_,_,_,rfl,a⟩
theorem uo{st:Stmt}(h:GH f st=true):∃a k p v q,st=.Assign [.Tuple a k p] v q/\f a v=true:=by obtain⟨e,v,q,rfl,d⟩:=i7 h;obtain⟨t,rfl,c⟩:=dO d;obtain⟨a,k,p,rfl,b⟩:=fS c;exact⟨_,_,_,_,_,rfl,b⟩
theorem Dl{st:Stmt}(h:Nb f st=true):∃a k p vs c b q,st=.Assign [.Tuple a k p] (.Tuple vs c b) q/\f a vs=true:=by obtain⟨j,v,q,rfl,i⟩:=i7 h;obtain⟨t,rfl,g⟩:=dO i;obtain⟨a,k,p,rfl,e⟩:=fS g;obtain⟨vs,c,b,rfl,d⟩:=fS e;exact⟨_,_,_,_,_,_,_,rfl,d⟩
theorem Dp{st:Stmt}(h:Nc f st=true):∃o k p v q,st=.Assign [.Subscript o k p] v q/\f o k v=true:=by obtain⟨d,v,q,rfl,c⟩:=i7 h;obtain⟨t,rfl,b⟩:=dO c;obtain⟨o,k,p,rfl,a⟩:=iZ b;exact⟨_,_,_,_,_,rfl,a⟩
theorem GR{st:Stmt}(h:Wi f st=true):∃o m c v b q,st=.Expr (.Call (.Attribute o m c) [v] [] b) q/\f o m c b v=true:=by obtain⟨v,q,rfl,n⟩:=yf h;obtain⟨g,s,r,p,rfl,l⟩:=gH n;obtain⟨k,j⟩:=a2 l;obtain⟨e,rfl,i⟩:=dO j;obtain⟨o,m,a,rfl,d⟩:=fR i;rw[Ki.mp k];exact⟨_,_,_,_,_,_,rfl,d⟩
theorem Dq{st:Stmt}(h:Nd f st=true):∃o m c u v b q,st=.Expr (.Call (.Attribute o m c) [u,v] [] b) q/\f o m c b u v=true:=by obtain⟨v,q,rfl,n⟩:=yf h;obtain⟨g,s,r,p,rfl,l⟩:=gH n;obtain⟨k,j⟩:=a2 l;obtain⟨u,e,rfl,i⟩:=QD j;obtain⟨o,m,a,rfl,d⟩:=fR i;rw[Ki.mp k];exact⟨_,_,_,_,_,_,_,rfl,d⟩
theorem qX{st:Stmt}(h:K3 n f st=true):(∃v q,st=.Return (some v) q/\f v=true)\/∃q,st=.Return none q/\n=true:=by
 cases st<;>try exact ff h
 rename_i v q
 cases v
 .exact .inr ⟨_,rfl,h⟩
 .exact .inl ⟨_,_,rfl,h⟩
theorem yg{st:Stmt}(h:Ra f st=true):∃c a b q,st=.If c a b q/\f c a b=true:=by
 cases st<;>try exact ff h
 exact⟨_,_,_,_,rfl,h⟩
theorem yh{st:Stmt}(h:Rb f st=true):∃c a q,st=.While c a [] q/\f c a=true:=by obtain⟨c,a,b,q,rfl,e⟩:=K7 h;obtain⟨k,d⟩:=a2 e;rw[Ki.mp k];exact⟨_,_,_,rfl,d⟩
theorem yi{st:Stmt}(h:Rc f st=true):∃tg c a q,st=.For tg c a [] q/\f tg c a=true:=by obtain⟨t,i,a,b,q,rfl,e⟩:=K8 h;obtain⟨k,d⟩:=a2 e;rw[Ki.mp k];exact⟨_,_,_,_,rfl,d⟩
section
variable{X:Cx}{M:Ms}{m:Md}{st:Stmt}{i j k:Nat}{e:Expr}{te:(Addr->Prop)->WT}{M':Ms}{m0:Md}
theorem K9(c:∀R,PS X st (pC (tV X M R (Pf X.K .s) (te R)) (iH i)))(hi:¬bq M i):VS X M m st (λd b=>te d.ex b λw=>d.nx (b.set i (some w))):=by rintro a s f H D I ⟨A,p,b,d,S,n,hz,h,k⟩;refine c d.ex a s f H D I ⟨A,p,b,_,S,n,h,λw v o l g r=>?_⟩;exact k.nx A _ _ o rfl rfl l ((S.same g).set hi r.bH)
theorem GS(c:∀R,PS X st (pC (tV X M' R (Pf X.K m0) (te R)) (iH i)))(g:∀x,x∈M↔x=(i,m0)\/x∈M')(hi:¬bq M' i)(f:gG m=true->i≠0):VS X M m st (λd b=>te d.ex b λw=>d.nx (b.set i (some w))):=by
 rintro a s p H D I ⟨A,O,b,d,S,F,hz,h,k⟩;have E:∀v,A.s0=some v->A.s0=some v/\bq M' 0:=λv e=>by
  refine⟨e,?_⟩;have B:gG m=true:=by rw[<-hz,e];rfl
  obtain⟨t,C⟩:=(S.sl v e).2;rcases(g _).mp C with z|z
  .cases z;exact(f B rfl).elim
  .exact⟨t,z⟩
 obtain⟨Q,J,G,T,o⟩:=S.sub (M':=M') (λx u=>(g x).mpr (.inr u)) A.s0 E;refine c d.ex a s p H D I ⟨Q,O,b,_,o,F,h,λw v N y q r=>?_⟩;obtain⟨P,n,l,_,L⟩:=o.own g hi q r;exact k.nx P _ _ N (n.trans J) (l.trans G) y L
theorem La:VS X M .s (.Return none pos) (λd c=>d.rt .cu):=by rintro a s b H D I ⟨A,g,c,d,S,f,hz,h,k⟩;exact AK a s b H D I (k.rt _ _ H h S.sm (.of rfl (.of (by dsimp only[Rep]))))
end
theorem uq(h:Nf f e=true):∃o m a b c,e=.Call (.Attribute o m a) b [] c/\f o m b=true/\(a.endLine==c.line)=true/\b.length<30:=by obtain⟨g,b,n,p,rfl,l⟩:=gH h;obtain⟨k,j⟩:=a2 l;obtain⟨o,m,a,rfl,i⟩:=fR j;rw[Ki.mp k];have d:=a3 i;exact⟨_,_,_,_,_,rfl,d.2,d.1.1,Dx d.1.2⟩
theorem Dr{st:Stmt}(h:Ng f st=true):∃o x p v q,st=.Assign [.Attribute o x p] v q/\f o x v=true:=by obtain⟨d,v,q,rfl,c⟩:=i7 h;obtain⟨t,rfl,b⟩:=dO c;obtain⟨o,x,p,rfl,a⟩:=fR b;exact⟨_,_,_,_,_,rfl,a⟩
section
variable{X:Cx}{M:Ms}{R:Addr->Prop}{a:Expr}{es:List Expr}{ta:WT}{m:Md}{ms:List Md}{pos:Pos}
end
def fV(b:Nat->aV)(a:Nat->Md)(G:Nat->W)(s:CS):Prop:=∀{S:SE}{X:Cx}{m:Md},DX S b a G X->∀c,K5 S a m s c=true->VS X S.M m c (wS b G s)
def gc(b:Nat->aV)(a:Nat->Md)(G:Nat->W)(s:List CS):Prop:=∀{S:SE}{X:Cx}{m:Md},DX S b a G X->∀c,cJ S a m s c=true->zS X S.M m c (wSs b G s)
section
variable{Φ:Nat->aV}{Ψ:Nat->Md}{G:Nat->W}
theorem DX.qW(h:DX S Φ Ψ G X)(M:Ms)(b:∀i m a,(i,m)∈M->(i,a)∈M->m=a):DX {S with M:=M} Φ Ψ G X:={toXOk:=h.toXOk.qW M,bk:=h.bk,XH:=h.XH,K6:=h.K6,own:=h.own,stk:=h.stk,Wo:=b}
theorem GU(b:XOk S Φ Ψ G X)(k:aK S false (.call f i) v=true)(R:Addr->Prop):VE X S.M R (Ψ f) v (wE Φ G R (.call f i))/\∃g c p,v=.Call g c [] p:=by
 obtain⟨x,q,c,p,rfl,m⟩:=aL k;obtain⟨⟨⟨⟨⟨t,s⟩,r⟩,h⟩,o⟩,j⟩:=a6 m;obtain⟨C,B,E⟩:=cG b s;obtain⟨D,n,l,A,F,u,z⟩:=b.fns f x (Qb.mp t) (by simpa using o);have F:cL X.prog X.w X.K X.mg X.base l D n (M1 X.K n (Ψ f) (Φ f)):=by rw[<-b.Dg]at h;cases y:Ψ f<;>rw[y]at h F<;>first|exact F|exact ff h
 have d:=jt j;cases c with
 |nil=>exact ff r
 |cons e c=>rw[G1,DL]at d;refine⟨?_,_,_,_,rfl⟩;exact BG (M:=S.M) (R:=R) (p:=q) (pos:=p) F u C A z ((ni Φ Ψ G i).1.a b _ j R) B (aM d.1 _ _) (cT d.2 _ _)
theorem GV(a:XOk S Φ Ψ G X)(k:aK S false e v=true)(R:Addr->Prop):VE X S.M R (Zu Ψ e) v (wE Φ G R e):=by
 cases e with
 |call f b=>exact(GU a k R).1
 |_=>exact(snd Φ Ψ G _).e a v k R
theorem z4(h:isCall e=true):∃f a,e=.call f a:=by cases e<;>first|exact⟨_,_,rfl⟩|exact ff h
theorem ur(h:iK e=true):e=.cu:=by cases e<;>first|rfl|exact ff h
theorem Ds(h:isVar e=some i):e=.var i:=by cases e<;>first|(cases h;rfl)|exact nn h
theorem Lb(h:Zv S x p v=true):∃a b c d,v=.ListComp a b c d:=by cases v<;>first|exact⟨_,_,_,_,rfl⟩|exact ff h
theorem Ri(k:aK S false e (.ListComp a b c d)=true):∃f one n i c x,e=.comp f one n i c x:=by
 cases e with
 |comp f one n i c x=>exact⟨_,_,_,_,_,_,rfl⟩
 |own i g=>obtain⟨_,_,_,e⟩:=(fE k).2;cases e
 |_=>exact ff k
theorem BZ(d:DX S Φ Ψ G X)(O:TF S i x=true)(k:aK S false e v=true)(R:Addr->Prop):
 PS X (.Assign [.Name x p] v q) (pC (tV X S.M R (Pf X.K (mo Ψ e)) (wE Φ G R e)) (iH i)):=by
 have n:=vF d O;have a:=Wq d (Rh k) x p q.line;cases m:Zv S x p v with
 |false=>rw[m]at a;exact yM d.nd n.1 n.2.1 ((snd Φ Ψ G e).e d.toXOk v k R) a n.2.2
 |true=>rw[m]at a;obtain⟨Q,gs,h,pp,rfl⟩:=Lb m;obtain⟨Z,one,n',B,c,y,rfl⟩:=Ri k;obtain⟨t,tg,r,E,f,p',o,T,rfl,j,L,l,U,J⟩:=qU (snd Φ Ψ G B) (snd Φ Ψ G c) (snd Φ Ψ G y) d.toXOk k R;cases T;rw[jF rfl,BU];intro b s g H D I F;obtain⟨A,z,w⟩:=J b s g H I;exact Jk o (mask o S.N) d.nd n.1 n.2.1 d.calm L U A z (λC u Y P=>(w C u Y P).2) a l n.2.2 b s g H D I (x6 j g H _ F)
theorem Rj(i:Nat)(e:CE):fV Φ Ψ G (.set i e):=by
 intro S X m l st k;obtain⟨x,p,v,q,rfl,h⟩:=uh k;rw[DL]at h;by_cases y:x9 S.M i=true
 .rw[D1 y]at h;simp only[DL]at h;obtain⟨F,⟨E,d⟩,C⟩:=h;have u:gG m=true->i≠0:=λz e=>by rw[z,e]at E;cases E
  have L:∀{t:Md},(i,t)∈S.M->(∀R,PS X (.Assign [.Name x p] v q) (pC (tV X (S.less i).M R (Pf X.K t) (wE Φ G R e)) (iH i)))->VS X S.M m (.Assign [.Name x p] v q) (λD o=>wE Φ G D.ex e o λw=>D.nx (o.set i (some w))):=λ{t} I N=>GS (M':=(S.less i).M) (te:=λR=>wE Φ G R e) N (λj=>GL I (λm' Q=>l.Wo i _ _ Q I)) GN u;have J:DX (S.less i) Φ Ψ G X:=l.qW (S.less i).M λa b c B O=>l.Wo a b c (i5.mp B).1 (i5.mp O).1;rcases gI d with d|d
  .rw[DL]at d;refine L (lK d.1) λR=>?_;have:=BZ J (p:=p) (q:=q) F C R;rw[jF d.2]at this;exact this
  .rw[DL]at d;refine L (jv d.2) λR=>?_;obtain⟨f,as,rfl⟩:=z4 d.1;obtain⟨B,g,es,pp,rfl⟩:=GU J.toXOk C R;have n:=vF l F;exact yM l.nd n.1 n.2.1 B rfl n.2.2
 .rw[Bz y]at h;refine K9 (te:=λR=>wE Φ G R e) (λR=>?_) (lJ (by simpa using y));refine PS.imp (BZ l (p:=p) (q:=q) h.1 h.2 R)<|by rintro D Z H ⟨A,U,o,P,S,T,p,k⟩;exact⟨A,U,o,P,S,T,p,λw v Y pw s r=>k w v Y pw s (r.s S.dom)⟩
theorem Rk(f:List Nat)(e:CE):fV Φ Ψ G (.ua f e):=by
 intro S X m b w k;obtain⟨i,g,p,v,q,rfl,j⟩:=uo k;obtain⟨⟨⟨c,h⟩,n⟩,a⟩:=a4 j;split at c;rotate_left
 .cases c
 rename_i xs hxs
 have r:PG X (.Tuple i g p) (gT X.K false f):=GD b.calm b.nd (by dsimp only[Tz];rw[hxs];rfl) (jw b c);have d:swappedStores [.Tuple i g p] v X.env=pure none:=by
  rcases gI a with a|a
  .exact BY a _ _ _ _
  .obtain⟨t,h,x,rfl,l⟩:=fS a;exact GQ b (Dx l)
 exact PZ (te:=λR=>wE Φ G R e) (λ{u} o=>yL o r (BX _ _) d rfl) (lP h) λR=>(snd Φ Ψ G e).s b.toXOk n R
theorem yj(h:eU X a (x::b)):∃i r,a=i::r/\j8 X i x/\eU X r b:=by
 cases a with
 |nil=>cases h
 |cons i r=>obtain⟨_,_,e,d,c⟩:=h;cases e;exact⟨i,r,rfl,d,c⟩
theorem Lc(h:eU X a []):a=[]:=by
 cases a with
 |nil=>rfl
 |cons i r=>obtain⟨_,_,e,_⟩:=h;cases e
theorem Ld(h:eU X a [x,y]):∃i j,a=[i,j]/\j8 X i x/\j8 X j y:=by obtain⟨i,r,rfl,e,d⟩:=yj h;obtain⟨j,r,rfl,c,b⟩:=yj d;cases Lc b;exact⟨i,j,rfl,e,c⟩
theorem Rl{α:Type}{l:List α}(h:l.length=2):∃a b,l=[a,b]:=by rcases l with _|⟨a,_|⟨b,_|_⟩⟩<;>first|exact⟨_,_,rfl⟩|(simp at h;done)
theorem qY(h:Gx b=some (x::c)):∃p r,b=.Name x p::r/\Gx r=some c:=by
 cases b with
 |nil=>cases h
 |cons e b=>
  cases e with
  |Name a p=>obtain⟨l,d,e⟩:=L9.mp h;cases e;exact⟨_,_,rfl,d⟩
  |_=>exact nn h
theorem B3(h:Gx b=some []):b=[]:=by
 cases b with
 |nil=>rfl
 |cons e b=>
  cases e with
  |Name a p=>obtain⟨l,c,e⟩:=L9.mp h;cases e
  |_=>exact nn h
theorem Le(h:Gx a=some [x,y]):∃p q,a=[.Name x p,.Name y q]:=by obtain⟨p,r,rfl,c⟩:=qY h;obtain⟨q,r,rfl,b⟩:=qY c;rw[B3 b];exact⟨_,_,rfl⟩
theorem Lf(h:TH S a vs=some (some b)):(a.length=2\/a.length=3)/\vs.length=a.length:=by
 unfold TH at h;split at h
 .cases h
 .rename_i c
  simp only[uj,xt,bne_iff_ne,not_or,Bool.not_eq_false,Qb,ne_eq,jK]at c;exact c
theorem Lg(h:Gx b=some a):b.length=a.length:=by
 induction a generalizing b with
 |nil=>rw[B3 h];rfl
 |cons x a c=>obtain⟨p,r,rfl,d⟩:=qY h;rw[Av,Av,c d]
theorem Rm(I:List Nat)(A:List CE):fV Φ Ψ G (.par I A):=by
 intro S X m g st k;obtain⟨tg,L,p,d,u,J,q,rfl,K⟩:=Dl k;obtain⟨⟨⟨l,k2⟩,P⟩,M⟩:=a4 K;split at l;rotate_left
 .cases l
 rename_i xs hxs
 obtain⟨⟨⟨l,r⟩,z⟩,O⟩:=a4 l;have r:=Dx r;have z:=Dx z;obtain⟨f,F⟩:=Lf r;have T:=GQ g (k:=L) (k2:=u) (p:=p) (p2:=J) r;have c:∀x∈xs,X.env.scope.names.lookup x=some .local:=λx Q=>by rw[g.nk];exact Qb.mp (T2.mp O x Q)
 have U:=jw g l;refine P4 (ta:=λR=>wA Φ G R A) (λ{tv} Z=>?_) (lP k2) λR=>(ni Φ Ψ G A).1.a g.toXOk d P R;have Y:∀{a b:Nat}{x y:Str},x≠y->X.N[a]?=some x->X.N[b]?=some y->a≠b:=λn s o e=>by rw[e,o]at s;exact n (Pm s).symm
 rcases f with f|f
 .obtain⟨x,y,rfl⟩:=Rl ((Lg hxs).symm.trans f);obtain⟨p1,p2,rfl⟩:=Le hxs;obtain⟨i,j,rfl,E,C⟩:=Ld U;obtain⟨a,b,rfl⟩:=Rl (F.trans f);refine PS.imp (NW g.calm g.nd E.1 C.1 (Y (by simpa using z) E.1 C.1) (c x (by simp)) (c y (by simp)) Z T) λD B H h=>?_;have e:(λ(d:List V) t=>d.length=[i,j].length/\D.nx (c6 B [i,j] d) t)=λd t=>∃v w,d=[v,w]/\D.nx ((B.set i (some v)).set j (some w)) t:=by
   funext d t;refine propext ⟨?_,?_⟩
   .rintro⟨s,o⟩;obtain⟨v,w,rfl⟩:=Rl s;exact⟨v,w,rfl,o⟩
   .rintro⟨v,w,rfl,o⟩;exact⟨rfl,o⟩
  rw[e]at h;exact h
 .exact absurd ((Dx M).symm.trans (F.trans f)) (by decide)
theorem qZ(h:j6 S i o=true)(a:Str)(env:Env):attributeBase o a env (eval o env)=eval o env:=by
 cases o with
 |Name x p=>rfl
 |_=>exact ff h
theorem Ro(i:Nat)(e:CE):fV Φ Ψ G (.app i e):=by intro S X m f p k;obtain⟨o,r,u,v,t,q,rfl,g⟩:=GR k;obtain⟨⟨⟨⟨a,j⟩,h⟩,d⟩,c⟩:=a5 g;have a:=Dx a;subst a;have b:=aM (bw (.inl c)) [] X.env;refine P5 (te:=λR=>wE Φ G R e) (λ{n} l=>?_) (lK h) λR=>(snd Φ Ψ G e).s f.toXOk c R;exact AJ (MG y6 PySem.F.slot_list_append PySem.F.type_list_append tO (eG f.toXOk d) (bU l dX b) (qZ d _ _) (by rw[b];rfl) j b rfl) rfl
theorem Rq(i:Nat)(a e:CE):fV Φ Ψ G (.ins i a e):=by intro S X m f y k;obtain⟨o,z,B,u,v,A,q,rfl,l⟩:=Dq k;obtain⟨⟨⟨⟨⟨c,p⟩,n⟩,j⟩,h⟩,g⟩:=a6 l;have c:=Dx c;subst c;have d:=aM (bw (.inl g)) [] X.env;have b:=aM (bw (.inl h)) [v] X.env;refine QA (te:=λR=>wE Φ G R e) (t1:=λR=>wE Φ G R a) (λ{x w} t r=>?_) (lK n) (λR=>(snd Φ Ψ G a).s f.toXOk h R) λR=>(snd Φ Ψ G e).s f.toXOk g R;exact AJ (MG y6 PySem.F.slot_list_insert PySem.F.type_list_insert Dc (eG f.toXOk j) (bU t (bU r dX d) b) (qZ j _ _) (by rw[b,d];rfl) p b (by rw[d];rfl)) rfl
theorem Rr(i:Nat)(a e:CE):fV Φ Ψ G (.put i a e):=by
 intro S X m b y k;obtain⟨o,j,p,v,q,rfl,c⟩:=Dp k;obtain⟨⟨⟨⟨l,h⟩,g⟩,f⟩,d⟩:=a5 c;have t:∀u,assign (.Subscript o j p) X.env u=(do
  let ov<-holding [u] (eval o X.env)
  let iv<-holding [u,ov] (eval j X.env)
  standAt p
  holding [u,ov,iv] (setItem ov iv u)
  release [u,ov,iv] []):=by
  intro u;cases j with
  |Slice _ _ _ _=>exact ff g
  |_=>rfl
 refine P6 (te:=λR=>wE Φ G R e) (t1:=λR=>wE Φ G R a) (λ{w x} n r=>?_) (lK l) (λR=>(snd Φ Ψ G e).s b.toXOk d R) λR=>(snd Φ Ψ G a).s b.toXOk f R;exact yL (pos:=q) n (NV (eG b.toXOk h) r set_list t) (GO _ _) (GP _) rfl
theorem GW:∀{S:SE}{c:CE}{e:Expr},fU S c e=true->noStar e=true:=λ{S c e} h=>by
 cases e with
 |Starred v p=>
  have f:aK S false c (.Starred v p)=true->False:=λz=>by have:=bw (.inl z);exact ff this
  cases c<;>first|exact ff h;done|exact(f h).elim
 |_=>rfl
theorem vG:∀{c:List CE}{b:List Expr},nY S c b=true->b.all noStar=true
 |[],b,h=>by rw[Ki.mp h];rfl
 |a::c,[],h=>by cases h
 |a::c,e::b,h=>by have h:=a2 h;rw[G1,GW h.1,vG h.2];rfl
theorem dj(b:XOk S Φ Ψ G X)(R:Addr->Prop)(e:fU S c v=aK S false c v)(d:wP Φ G R c=λa Q=>wE Φ G R c a λw=>Q w a)(k:fU S c v=true):VP X S.M R v (wP Φ G R c):=by rw[e]at k;rw[d];exact V3 ((snd Φ Ψ G c).s b k R)
mutual
theorem cy(d:XOk S Φ Ψ G X)(R:Addr->Prop):∀(e:CE)(v:Expr),fU S e v=true->VP X S.M R v (wP Φ G R e)
 |.pop i,v,k=>by obtain⟨o,mt,ap,cp,rfl,m⟩:=j7 k;obtain⟨⟨⟨j,t⟩,h⟩,s⟩:=a4 m;have j:=Dx j;subst j;exact P9 (lK h) (eG d s) (qZ s _ _) t
 |.m6 i f A,v,k=>by
  obtain⟨x,q,z,p,rfl,m⟩:=aL k;obtain⟨⟨⟨⟨j,t⟩,h⟩,s⟩,u⟩:=a5 m;obtain⟨E,D,L⟩:=cG d t;obtain⟨Z,n,P,T,F,I,J⟩:=d.fns f x (Qb.mp j) (by simpa using h);rw[<-d.Dg]at s;cases z with
  |nil=>exact ff u
  |cons e z=>
   rw[nW,DL]at u;have e0:noStar e=true:=by
    cases e with
    |Name _ _=>rfl
    |_=>exact ff u.1
   cases C:Ψ f with
   |io Y=>rw[C]at s F;exact Qn (p:=q) (pos:=p) F I E T (jv s) J (eG d u.1) (fW d R A z u.2) D (aM e0 _ _) (cT (vG u.2) _ _)
   |_=>rw[C]at s;exact ff s
 |.DU i g f A,v,k=>by
  obtain⟨o,x,ap,z,p,rfl,m,O,N⟩:=uq k;obtain⟨⟨⟨⟨j,t⟩,h⟩,s⟩,u⟩:=a5 m;obtain⟨fa,fd,ps,n,P,hG,hb,F,I,J⟩:=d.KN f g x (Qb.mp j) (Q7 t);rw[<-d.Dg]at h;cases o with
  |Name y py=>
   cases C:Ψ f with
   |io Y=>
    rw[C]at h F;cases Y with
    |o fs ms=>have h:(hasB S.M i (.o fs ms)&&!fs.contains x)=true:=h;rw[DL]at h;obtain⟨q1,q2⟩:=a2 u;obtain rfl:=Ki.mp q1;obtain rfl:=Ki.mp q2;exact KC (G:=G g) hG F I hb (jv h.1) (by simpa using h.2) J (eG d s) (Di rfl rfl N O)
    |_=>exact ff h
   |_=>rw[C]at h;exact ff h
  |_=>exact ff s
 |.bin op a b,v,k=>by obtain⟨l,o,r,p,rfl,m⟩:=m9 k;obtain⟨⟨j,t⟩,h⟩:=a3 m;have j:=Dx j;subst j;exact Qa (cy d R a l t) (cy d R b r h)
 |.cmp op a b,v,k=>by obtain⟨l,o,r,p,rfl,m⟩:=nh k;obtain⟨⟨⟨⟨j,s⟩,u⟩,t⟩,h⟩:=a5 m;have j:=Dx j;subst j;exact Qc d.un (En r (op:=op) (by simpa using s) (by simpa using u)) (cy d R a l t) (cy d R b r h)
 |.call f A,v,k=>by
  obtain⟨x,q,z,p,rfl,m⟩:=aL k;obtain⟨⟨⟨⟨⟨j,t⟩,h⟩,u⟩,H⟩,s⟩:=a6 m;obtain⟨E,D,L⟩:=cG d t;obtain⟨Z,n,P,T,F,I,J⟩:=d.fns f x (Qb.mp j) (by simpa using H);have F:cL X.prog X.w X.K X.mg X.base P Z n (M1 X.K n (Ψ f) (Φ f)):=by rw[<-d.Dg]at u;cases C:Ψ f<;>rw[C]at u F<;>first|exact F|exact ff u
  have B:=vG s;cases z with
  |nil=>exact ff h
  |cons e z=>rw[G1,DL]at B;exact Kz (p:=q) (pos:=p) F I E T J (fW d R A _ s) D (aM B.1 _ _) (cT B.2 _ _)
 |.blt b A,v,k=>by
  obtain⟨x,q,z,p,rfl,m⟩:=aL k;obtain⟨⟨⟨⟨⟨j,t⟩,h⟩,s⟩,k9⟩,H⟩:=a6 m;have j:=Dx j;obtain⟨E,D,L⟩:=cG d t;have hz:=d.BP x (List.contains_iff_mem.mp h);have B:=vG H;cases z with
  |nil=>exact ff k9
  |cons e z=>
   rw[G1,DL]at B;rcases ye d.calm b with⟨id,Q,U⟩|⟨id,Q,U⟩
   .exact Qe U E hz (by rw[j];exact Q) (fW d R A _ H) L D (aM B.1 _ _) (cT B.2 _ _)
   .exact Qg U E hz (by rw[j];exact Q) (fW d R A _ H) L D (aM B.1 _ _) (cT B.2 _ _)
 |.ix a b,v,k=>by obtain⟨l,r,p,rfl,m⟩:=iZ k;obtain⟨⟨j,t⟩,h⟩:=a3 m;exact V4 (BR j) (cy d R a l t) (cy d R b r h)
 |.lst A,v,k=>by obtain⟨z,p,rfl,m⟩:=qL k;exact Qw (fW d R A z m)
 |.tup A,v,k=>by obtain⟨z,kd,p,rfl,m⟩:=fS k;exact Qx (fW d R A z m)
 |.and _,v,k=>by cases k
 |.or _,v,k=>by cases k
 |.var i,v,k=>dj d R rfl rfl k
 |.int i,v,k=>dj d R rfl rfl k
 |.bl i,v,k=>dj d R rfl rfl k
 |.str i,v,k=>dj d R rfl rfl k
 |.cu,v,k=>dj d R rfl rfl k
 |.glob g,v,k=>dj d R rfl rfl k
 |.neg a,v,k=>dj d R rfl rfl k
 |.not a,v,k=>dj d R rfl rfl k
 |.ite c a b,v,k=>dj d R rfl rfl k
 |.sl a b c,v,k=>dj d R rfl rfl k
 |.bits a,v,k=>dj d R rfl rfl k
 |.comp ts one n i c x,v,k=>dj d R rfl rfl k
 |.jN A,v,k=>dj d R rfl rfl k
 |.t9 a,v,k=>dj d R rfl rfl k
 |.rev a,v,k=>dj d R rfl rfl k
 |.own i π,v,k=>dj d R rfl rfl k
 |.BC is a,v,k=>dj d R rfl rfl k
 |.O6 f a A,v,k=>dj d R rfl rfl k
 |.slt a b c,v,k=>dj d R rfl rfl k
theorem fW(d:XOk S Φ Ψ G X)(R:Addr->Prop):∀(c:List CE)(b:List Expr),nY S c b=true->IA X S.M R b (ID Φ G R c)
 |[],b,k=>by rw[Ki.mp k];exact Kv
 |a::c,[],k=>by cases k
 |a::c,e::b,k=>by have k:=a2 k;exact Gk (aM (GW k.1) _ _) (cy d R a e k.1) (fW d R c b k.2)
end
theorem Lh(a:BW v=true)(b:Na v=true)(t:Option Expr)(l:Nat)(env:Env):swapsWith v t l env=pure false:=by
 cases v with
 |ListComp _ _ _ _=>exact ff b
 |SetComp _ _ _ _=>exact ff a
 |DictComp _ _ _ _ _=>exact ff a
 |_=>rfl
theorem nsc(h:GK v=true):BW v=true:=by cases v<;>first|rfl|exact ff h
theorem Li(j:Nat)(e:CE):fV Φ Ψ G (.jZ j e):=by intro S X m a o k;obtain⟨x,p,v,q,rfl,b⟩:=uh k;obtain⟨⟨⟨⟨h,g⟩,d⟩,c⟩,f⟩:=a5 b;have n:=vF a h;exact Ky (tt:=λR=>wP Φ G R e) (λ{l} i=>yM a.nd n.1 n.2.1 i (Lh (nsc c) d _ _ _) n.2.2) (lJ (by simpa using g)) λR=>cy a.toXOk R _ v f
theorem Ru(c:List Nat)(e:CE):fV Φ Ψ G (.Tr c e):=by
 intro S X m a r k;obtain⟨n,f,p,v,q,rfl,d⟩:=uo k;obtain⟨⟨⟨b,i⟩,g⟩,h⟩:=a4 d;split at b;rotate_left
 .cases b
 rename_i xs hxs
 have l:PG X (.Tuple n f p) (gT X.K false c):=GD a.calm a.nd (by dsimp only[Tz];rw[hxs];rfl) (jw a b);exact Qh (tt:=λR=>wP Φ G R e) (λ{o} j=>yL j l (BX _ _) (BY g _ _ _ _) rfl) (lP i) λR=>cy a.toXOk R _ v h
theorem Rv(e:CE):fV Φ Ψ G (.ret e):=by
 intro S X m d h k;rcases qX k with⟨v,q,rfl,a⟩|⟨q,rfl,a⟩
 .unfold Wn at a;rw[DL]at a;obtain⟨c,a⟩:=a;have c:gG m=false:=by simpa using c
  rcases gI a with a|f
  .rcases gI a with a|a
   .rw[DL]at a;have g:m=.s:=by cases m<;>first|rfl|exact ff a.1
    rcases gI a.2 with b|b
    .exact Gi (te:=λR=>wE Φ G R e) (λR=>(snd Φ Ψ G e).e (d.toXOk.qW []) v b R) (.inr g) c
    .subst g;exact Kl (te:=λR=>wE Φ G R e) λR=>(snd Φ Ψ G e).s d.toXOk b R
   .rw[DL]at a;rcases gI a.2 with b|b
    .exact Gi (te:=λR=>wE Φ G R e) (λR=>GV (d.toXOk.qW []) b R) (.inl (qV a.1)) c
    .exact Ko (te:=λR=>wE Φ G R e) (λR=>by rw[<-qV a.1];exact GV d.toXOk b R) c
  .unfold Wm at f;split at f
   .rename_i i hv
    obtain rfl:=Ds hv;have b:=a2 f;exact Kp (eG d.toXOk b.2) (jv b.1) c
   .exact ff f
 .rw[DL]at a;obtain rfl:=ur a.1;cases m<;>try exact ff a.2
  exact La
theorem vH(h:K4 S m=true):∃k,m=.io k/\(0,k)∈S.M:=by
 cases m with
 |io k=>exact⟨k,rfl,jv h⟩
 |_=>exact ff h
theorem Rw(e:CE):fV Φ Ψ G (.C7 e):=by
 intro S X m d f k;rcases qX k with⟨v,q,rfl,a⟩|⟨q,rfl,a⟩
 .rw[DL]at a;obtain⟨c,rfl,b⟩:=vH a.1;exact Qk (te:=λR=>wE Φ G R e) (λR=>(snd Φ Ψ G e).s d.toXOk a.2 R) b
 .rw[DL]at a;obtain⟨c,rfl,b⟩:=vH a.2;obtain rfl:=ur a.1;exact Ql b
theorem i8(e:XOk S Φ Ψ G X)(R:Addr->Prop)(c:CE)(v:Expr)(k:nZ S c v=true):DW X S.M R v (wP Φ G R c):=by
 have gx:∀{c:CE},nZ S c v=(aK S false c v&&Dd c)->(wP Φ G R c=λm Q=>wE Φ G R c m λw=>Q w m)->nZ S c v=true->DW X S.M R v (wP Φ G R c):=λ{c} C B k=>by rw[C,DL]at k;rw[B];exact P8 ((snd Φ Ψ G c).t e v k.1 k.2 R)
 cases c with
 |cmp op a b=>have k:fU S (.cmp op a b) v=true:=k;obtain⟨l,o,r,p,rfl,s⟩:=nh k;obtain⟨⟨⟨⟨j,y⟩,u⟩,A⟩,z⟩:=a5 s;have j:=Dx j;subst j;exact Kq e.un (En r (op:=op) (by simpa using y) (by simpa using u)) (cy e R a l A) (cy e R b r z)
 |m6 i f d=>have k:fU S (.m6 i f d) v=true:=k;have h:=cy e R _ v k;obtain⟨x,q,n,p,rfl,_⟩:=aL k;exact vB (λ_=>rfl) h
 |DU i g f d=>have k:fU S (.DU i g f d) v=true:=k;have h:=cy e R _ v k;obtain⟨o,x,D,n,p,rfl,_⟩:=uq k;exact vB (λ_=>rfl) h
 |call f d=>have k:fU S (.call f d) v=true:=k;have h:=cy e R _ v k;obtain⟨x,q,n,p,rfl,_⟩:=aL k;exact vB (λ_=>rfl) h
 |pop i=>exact ff k
 |bin op a b=>exact ff k
 |blt b d=>exact ff k
 |ix a b=>exact ff k
 |lst d=>exact ff k
 |tup d=>exact ff k
 |and d=>exact ff k
 |or d=>exact ff k
 |_=>exact gx rfl rfl k
theorem yk(d:XOk S Φ Ψ G X)(R:Addr->Prop):∀(g:List CE)(c:List Expr),lO S g c=true->M4 X S.M R (.BoolOp .And c pos) (Az Φ G R g)
 |[],c,k=>by cases k
 |[a],c,k=>by obtain⟨e,rfl,k⟩:=dO k;exact Gj (i8 d R a e k)
 |a::b::f,c,k=>by
  cases c with
  |nil=>exact ff k
  |cons e c=>
   have k:nZ S a e=true/\lO S (b::f) c=true:=a2 k;have h:=yk d R (pos:=pos) (b::f) c k.2;cases c with
   |nil=>cases f<;>exact ff k.2
   |cons i c=>exact Ks (i8 d R a e k.1) h
theorem ym(d:XOk S Φ Ψ G X)(R:Addr->Prop):∀(g:List CE)(c:List Expr),lO S g c=true->M4 X S.M R (.BoolOp .Or c pos) (IE Φ G R g)
 |[],c,k=>by cases k
 |[a],c,k=>by obtain⟨e,rfl,k⟩:=dO k;exact Ku (i8 d R a e k)
 |a::b::f,c,k=>by
  cases c with
  |nil=>exact ff k
  |cons e c=>
   have k:nZ S a e=true/\lO S (b::f) c=true:=a2 k;have h:=ym d R (pos:=pos) (b::f) c k.2;cases c with
   |nil=>cases f<;>exact ff k.2
   |cons i c=>exact Qd (i8 d R a e k.1) h
theorem yo(f:XOk S Φ Ψ G X)(R:Addr->Prop)(c:CE)(v:Expr)(k:GJ S c v=true):DW X S.M R v (wP Φ G R c):=by
 cases c with
 |and d=>have k:QB (λo b=>decide (o=.And)&&lO S d b) v=true:=k;obtain⟨o,b,p,rfl,a⟩:=jr k;rw[DL]at a;have e:=Dx a.1;subst e;exact PW.pt (yk f R d b a.2)
 |or d=>have k:QB (λo b=>decide (o=.Or)&&lO S d b) v=true:=k;obtain⟨o,b,p,rfl,a⟩:=jr k;rw[DL]at a;have e:=Dx a.1;subst e;exact PW.pt (ym f R d b a.2)
 |_=>exact i8 f R _ v k
theorem Rx(c:CE)(j:gc Φ Ψ G a)(i:gc Φ Ψ G b):fV Φ Ψ G (.VC c a b):=by intro S X m d l k;obtain⟨t,x,y,q,rfl,e⟩:=yg k;obtain⟨⟨h,g⟩,f⟩:=a3 e;exact Qi (tt:=λR=>wP Φ G R c) (λR=>yo d.toXOk R c t h) (j d x g) (i d y f)
theorem Ry(c:CE)(e:gc Φ Ψ G b):fV Φ Ψ G (.Tp c b):=by intro S X m d f k;obtain⟨t,x,q,rfl,a⟩:=yh k;simp only[DL]at a;exact Qj d.own (λR=>yo d.toXOk R c t a.1) (e d x a.2)
theorem Lj(h:Rg S i n x=true):∃a ms,(i,.o a ms)∈S.M/\a[n]?=some x/\ms[n]?=some .s:=by
 unfold Rg at h;split at h
 .rename_i a ms hl
  rw[DL]at h;obtain⟨c,b⟩:=h;split at b
  .rename_i k hk
   have:k=.s:=by cases k<;>first|rfl|exact ff b
   subst this;exact⟨a,ms,iW hl,Qb.mp c,hk⟩
  .cases b
 .cases h
theorem RA(i n:Nat)(e:CE):fV Φ Ψ G (.C6 i n e):=by intro S X m a t k;obtain⟨o,x,p,v,q,rfl,b⟩:=Dr k;obtain⟨⟨f,d⟩,c⟩:=a3 b;obtain⟨w,u,l,j,h⟩:=Lj f;exact Qv (te:=λR=>wE Φ G R e) (λ{r} g=>gg (eG a.toXOk d) g (by cases v<;>rfl)) l j h λR=>(snd Φ Ψ G e).s a.toXOk c R
theorem RC(e:CE):fV Φ Ψ G (.VD e):=by
 intro S X m b d k;rcases qX k with⟨v,q,rfl,a⟩|⟨q,rfl,a⟩
 .rw[DL]at a;obtain⟨f,rfl,c⟩:=vH a.1;exact Qz (tt:=λR=>wP Φ G R e) (λR=>cy b.toXOk R e v a.2) c
 .exact ff a
theorem RD:fV Φ Ψ G .brk:=by
 intro S X m b a k;cases a with
 |Break _=>exact PY
 |_=>exact ff k
theorem Wr(c:CE)(l:gc Φ Ψ G a)(j:gc Φ Ψ G b):fV Φ Ψ G (.iff c a b):=by intro S X m d n k;obtain⟨t,x,y,q,rfl,e⟩:=yg k;obtain⟨⟨⟨i,h⟩,g⟩,f⟩:=a4 e;exact V2 (tc:=λR=>wE Φ G R c) (λR=>(snd Φ Ψ G c).t d.toXOk t i h R) (l d x g) (j d y f)
theorem RE(c:CE)(h:gc Φ Ψ G b):fV Φ Ψ G (.zG c b):=by intro S X m a i k;obtain⟨t,x,q,rfl,d⟩:=yh k;obtain⟨⟨g,f⟩,e⟩:=a3 d;exact P7 a.own (λR=>(snd Φ Ψ G c).t a.toXOk t g f R) (h a x e)
theorem RG(h:List Nat)(one:Bool)(e:CE)(t:gc Φ Ψ G b):fV Φ Ψ G (.fr h one e b):=by
 intro S X m a u k;obtain⟨f,i,x,q,rfl,c⟩:=yi k;unfold XG at c;split at c;rotate_left
 .cases c
 rename_i o xs KY
 simp only[DL]at c;obtain⟨⟨⟨⟨⟨⟨d,s⟩,r⟩,n⟩,g⟩,l⟩,j⟩:=c;have d:=Qb.mp d;subst d;refine Qm (ti:=λR=>wE Φ G R e) a.calm (lP r) a.own (λR=>(snd Φ Ψ G e).i a.toXOk f false i (by rw[l];rfl) (λz=>?_) R) (GD (X:=X) a.calm a.nd KY (jw a s)) (t a x j) (qT n _);have:one=false:=by rw[z]at g;simpa using g
 subst this;cases f with
 |Tuple v c p=>exact⟨_,_,_,rfl⟩
 |Name y p=>cases KY
 |_=>exact nn KY
theorem RH(j:Nat)(c:CE)(D:gc Φ Ψ G b):fV Φ Ψ G (.Tt j c b):=by
 intro S X m a H k;obtain⟨F,i,x,q,rfl,d⟩:=yi k;unfold XG at d;split at d;rotate_left
 .cases d
 rename_i o xs KY
 simp only[DL]at d;obtain⟨⟨⟨⟨⟨⟨C,B⟩,A⟩,z⟩,_⟩,w⟩,v⟩:=d;obtain rfl:=Qb.mp C;obtain⟨y,p,I,r,rfl,d⟩:=aL w;simp only[DL]at d;obtain⟨⟨⟨u,t⟩,s⟩,n⟩:=d;obtain rfl:=Dx u;obtain⟨e,rfl,g⟩:=qR n;obtain⟨E,_,_⟩:=cG a.toXOk t;exact Gm (ti:=λR h Q=>wP Φ G R c h λx f=>vn [x] λl=>Q (.lst l) f) a.calm (lP A) a.own (λR=>Gp E (a.toXOk.BP _ (by simpa using s)) (cy a.toXOk R c e g) (aM (GW g) _ _)) (GD (X:=X) a.calm a.nd KY (jw a B)) (D a x v) (qT z _)
theorem Lk:gc Φ Ψ G []:=by intro S X m b a k;rw[Ki.mp k];exact Kd
def Nh(Φ:Nat->aV)(Ψ:Nat->Md)(G:Nat->W):CS->Prop
 |.MV _ b=>gc Φ Ψ G b
 |_=>True
theorem Ll{st:List Stmt}(k:cJ S Ψ m (s::a) st=true):(∃c b,s=.MV c b/\(a.isEmpty&&(!gG m||!c.contains 0)&&cJ (S.lend c) Ψ m b st)=true)\/GI (λe=>K5 S Ψ m s e) (λd=>cJ S Ψ m a d) st=true:=by
 cases s<;>first|exact .inr k|exact .inl ⟨_,_,rfl,k⟩
theorem GX(h:fV Φ Ψ G s/\Nh Φ Ψ G s)(v:gc Φ Ψ G c):gc Φ Ψ G (s::c):=by
 intro S X m a d k;rcases Ll k with⟨u,b,rfl,o⟩|k
 .obtain⟨n,p⟩:=a2 o;obtain⟨l,f⟩:=a2 n;cases Ki.mp l;have q:gG m=true->bq S.M 0->bq (S.lend u).M 0:=by rintro e ⟨g,A⟩;rw[e]at f;exact⟨g,i5.mpr ⟨A,f⟩⟩
  have w:gc Φ Ψ G b:=h.2;exact Kf (w (a.qW _ λi m j y x=>a.Wo i m j (i6 _ y) (i6 _ x)) d p) i6 q
 have h:fV Φ Ψ G s:=h.1;cases d with
 |nil=>exact ff k
 |cons e r=>
  have k:K5 S Ψ m s e=true/\cJ S Ψ m c r=true:=a2 k;cases c with
  |nil=>
   have:r=[]:=by have:=k.2;exact Ki.mp this
   subst this;exact Ke (h a e k.1)
  |cons t B=>have z:=Gh (h a e k.1) (v a r k.2);exact z
theorem RI:fV Φ Ψ G .Tq:=by rintro S X m g e k a s b H D I ⟨A,j,c,d,S,i,hz,h,f⟩;exact FE h
variable(Φ Ψ G)
mutual
theorem Zw:∀s:CS,fV Φ Ψ G s/\Nh Φ Ψ G s
 |.set i e=>⟨Rj i e,trivial⟩
 |.ua d e=>⟨Rk d e,trivial⟩
 |.par d g=>⟨Rm d g,trivial⟩
 |.app i e=>⟨Ro i e,trivial⟩
 |.ins i a e=>⟨Rq i a e,trivial⟩
 |.put i k e=>⟨Rr i k e,trivial⟩
 |.jZ j e=>⟨Li j e,trivial⟩
 |.ret e=>⟨Rv e,trivial⟩
 |.iff c a b=>⟨Wr c (iM a) (iM b),trivial⟩
 |.zG c b=>⟨RE c (iM b),trivial⟩
 |.fr d one f b=>⟨RG d one f (iM b),trivial⟩
 |.Tt j c b=>⟨RH j c (iM b),trivial⟩
 |.brk=>⟨RD,trivial⟩
 |.C6 i n e=>⟨RA i n e,trivial⟩
 |.C7 e=>⟨Rw e,trivial⟩
 |.VC c a b=>⟨Rx c (iM a) (iM b),trivial⟩
 |.Tp c b=>⟨Ry c (iM b),trivial⟩
 |.Tq=>⟨RI,trivial⟩
 |.Tr d e=>⟨Ru d e,trivial⟩
 |.VD e=>⟨RC e,trivial⟩
 |.MV h b=>⟨λ_ _ k=>(by cases k),iM b⟩
theorem iM:∀a:List CS,gc Φ Ψ G a
 |[]=>Lk
 |s::a=>GX (Zw s) (iM a)
end
end
structure Tab(P:Program)(w:World)(K:Frag)(mg:Str->Option Value)(base:Heap)(fn gn zn:List Str)(md:List Md)(mt:List (Nat×Nat))(Φ:Nat->aV)(G:Nat->W)(k:Nat):Prop where
 fns:∀(j:Nat)(x:Str),fn[j]?=some x->mt.any (·.1==j)=false->∃fv n k',mg x=some fv/\cL P w K mg base k' fv n (om K n (fO md j) (Φ j))/\k'<=k/\∀ws P R,Φ j ws P R->ws.length=n
 KN:∀(j g:Nat)(x:Str),fn[j]?=some x->(j,g)∈mt->∃f fd ps n k',(∀C,G g=.cls C->Meth K C x f)/\Binds K fd ps []/\cA P w K mg base (jB P w) k' f fd ps (om K n (fO md j) (Φ j))/\k'<=k/\∀ws P R,Φ j ws P R->ws.length=n
 KO:∀(j:Nat)(x:Str),gn[j]?=some x->∃u v,mg x=some u/\RelV v u/\∀B H,Rep K B H (G j) v
 BP:∀x∈zn,mg x=none
 kit:Gd K
 K6:∀j x C,gn[j]?=some x->G j=.cls C->YK K C
noncomputable def aj(n:Nat)(a:List W):Ev:=a.map some++B1 (n -a.length) none
def gx:Md->(W->Prop)->Ev->Prop
 |.s,P,_=>P .cu
 |.io _,P,a=>match look a 0 with
  |some b=>P (.tup [.cu,b])
  |none=>False
 |_,_,_=>False
section
variable{K:Frag}{A:Addr->Prop}{H:Hp}{N:List Str}{ws:List W}{vs:List V}{M:Ms}
theorem j9(hi:ws.length<=i)(e:look (aj N.length ws) i=some w):False:=by
 rw[b7]at e;unfold aj at e;rw[NM (by simp;omega),rh]at e;split at e
 .cases e
 .cases e
theorem uu(h:ak K A H ws vs)(e:look (aj N.length ws) i=some w):∃v,(start N vs)[i]?=some (some v)/\Rep K A H w v:=by
 have f:=h.len;by_cases a:i<ws.length
 .rw[b7]at e;unfold aj at e;rw[QP (by simpa using a),FR]at e;obtain⟨d,c,b⟩:=L9.mp e;cases b;obtain⟨v,b,r⟩:=h.get c;refine⟨v,?_,r⟩;unfold L2.start;rw[QP (by simp;lia),FR,b];rfl
 .exact(j9 (by lia) e).elim
theorem GY(h:ak K A H ws vs)(d:Dom A H)(g:∀i m,(i,m)∈M->ws.length<=i)(b:∀i m a,(i,m)∈M->(i,a)∈M->m=a):SR K M ⟨A,A,none⟩ H (start N vs) H (aj N.length ws):=by have f:=h.len;refine⟨by simp[L2.start,aj,f],λi w k e=>uu h e,aE.refl _,d,(λv e=>by cases e),λ_=>[],⟨b,λi m w c e=>(j9 (g i m c) e).elim,λ_ _ _=>rfl,λ_ _=>zzj,(λi j p _ _ z=>by cases z),(λi p _ z=>by cases z),(λi p _ z=>by cases z),λp=>⟨.inl,λz=>z.elim id<|by rintro⟨_,_,z⟩;cases z⟩⟩⟩
open Classical in
noncomputable def era(F:List Addr)(H:Hp):Hp:=λp=>if p∈F then none else H p
theorem GZ(h:era F H p=some o):p∉F/\H p=some o:=by
 unfold era at h;split at h
 .cases h
 .exact⟨by assumption,h⟩
theorem G3(h:era F H p=none):p∈F\/H p=none:=by
 unfold era at h;split at h
 .exact .inl (by assumption)
 .exact .inr h
theorem RJ(h:p∈F):era F H p=none:=by unfold era;rw[D1 h]
theorem Lm(h:p∉F):era F H p=H p:=by unfold era;rw[Bz h]
theorem G4(E:F.Nodup)(G:∀p∈F,¬A p)(d:Dom A H)(P:Fp K (λp=>A p\/p∈F) H q k l F)(h:ak K (λp=>A p\/p∈F) H ws vs)
 (t:(0,q)∈M)(O:∀i m,(i,m)∈M->i=0\/ws.length+1<=i)(B:∀i m C,(i,m)∈M->(i,C)∈M->m=C)(L:0<N.length):
 SR K M ⟨A,λp=>A p\/p∈F,some l⟩ (era F H) (start N (l::vs)) H (aj N.length (k::ws)):=by
 have I:=h.len;have D:look (aj N.length (k::ws)) 0=some k:=rfl;have r:(start N (l::vs))[0]?=some (some l):=rfl;have y:∀i,bq M i->i≠0->∀w,look (aj N.length (k::ws)) i=some w->False:=λi ⟨m,s⟩ n w e=>j9 (by rcases O i m s with z|z;exact(n z).elim;simpa using z) e;refine⟨by simp[L2.start,aj,I],λi w g e=>?_,λp o e=>(GZ e).2,d,λv e=>?_,λi=>if i=0 then F else[],⟨B,λi m w s e=>?_,λi g e=>?_,λi g=>?_,λi j p g R a b=>?_,λi p g c=>?_,λi p g c=>?_,λp=>?_⟩⟩
 .cases i with
  |zero=>exact(g ⟨q,t⟩).elim
  |succ i=>
   have Q:look (ws.map some++B1 (N.length -(k::ws).length) none) i=some w:=e;have:look (aj (N.length -1) ws) i=some w:=by unfold aj;rw[show N.length -1 -ws.length=N.length -(k::ws).length by simp;lia];exact Q
   cases N with
   |nil=>cases L
   |cons x N=>obtain⟨v,f,u⟩:=uu (N:=N) h this;refine⟨v,?_,u⟩;unfold L2.start at f⊢;rw[Wp,Dh,List.getElem?_cons_succ,show(x::N).length -(l::vs).length=N.length -vs.length by simp];exact f
 .cases e;exact⟨r,q,t⟩
 .rcases h8 i with rfl|g
  .have:=B 0 m q s t;subst this;rw[D]at e;cases e;exact⟨l,r,by rw[D1 rfl];exact P⟩
  .exact(y i ⟨m,s⟩ (by lia) w e).elim
 .rcases h8 i with rfl|J
  .rw[D]at e;cases e
  .rw[Bz (by lia)]
 .split
  .exact E
  .exact zzj
 .by_cases f:i=0
  .by_cases u:j=0
   .rw[f,u]
   .rw[Bz u]at b;cases b
  .rw[Bz f]at a;cases a
 .by_cases f:i=0
  .rw[D1 f]at c;exact RJ c
  .rw[Bz f]at c;cases c
 .by_cases f:i=0
  .rw[D1 f]at c;exact G p c
  .rw[Bz f]at c;cases c
 .constructor
  .rintro(z|z)
   .exact .inl z
   .exact .inr ⟨0,⟨q,t⟩,by rw[D1 rfl];exact z⟩
  .rintro(z|⟨i,g,c⟩)
   .exact .inl z
   .by_cases f:i=0
    .rw[D1 f]at c;exact .inr c
    .rw[Bz f]at c;cases c
end
theorem Nj{M:Ms}(h:(M.map (·.1)).Nodup):∀i m c,(i,m)∈M->(i,c)∈M->m=c:=by
 induction M with
 |nil=>intro i m c a;cases a
 |cons x M d=>
  obtain⟨j,k⟩:=x;rw[Wp,du]at h;intro i m c a b;rcases IH.mp a with a|a
  .rcases IH.mp b with b|b
   .cases a;cases b;rfl
   .cases a;exact(h.1 (OF.mpr ⟨_,b,rfl⟩)).elim
  .rcases IH.mp b with b|b
   .cases b;exact(h.1 (OF.mpr ⟨_,a,rfl⟩)).elim
   .exact d h.2 i m c a b
section
variable{P:Program}{w:World}{K:Frag}{mg:Str->Option Value}{base:Heap}{x qual:Str}{st:Stmt}{f:Addr}{fd:FuncData}{N ps:List Str}{k:Nat}{fn gn zn:List Str}{md:List Md}{mt:List (Nat×Nat)}{Φ:Nat->aV}{G:Nat->W}
theorem G5(t:cN N ps (ai st))(T:Tab P w K mg base fn gn zn md mt Φ G k)(q:cY k (kD P w K mg base N qual (ai st) f b A a s H E).A)(un:∀i m r,(i,m)∈M->(i,r)∈M->m=r):
 DX ⟨N,(ai st).names,M,fn,gn,zn,md,mt⟩ Φ (fO md) G (kD P w K mg base N qual (ai st) f b A a s H E):=
 {hN:=rfl,nd:=t.nd,calm:=rfl,un:=q.units,nk:=λ_=>rfl,
  fns:=λj x e h=>by obtain⟨v,n,p,o,l,d,c⟩:=T.fns j x e h;exact⟨v,n,p,o,l,q.mono d,c⟩
  KN:=λj g x e h=>by obtain⟨f,fd,ps,n,p,o,l,d,c,u⟩:=T.KN j g x e h;exact⟨f,fd,ps,n,p,o,l,d,q.mono c,u⟩
  Dg:=rfl,KO:=T.KO,BP:=T.BP,kit:=T.kit,
  bk:=by show(if(ai st).kind.isAnnotationScope then ScopeKind.function else(ai st).kind)=_;rw[t.kind];rfl
  XH:=λ_=>rfl,K6:=T.K6,own:=.leaving,stk:=⟨rfl,rfl⟩,Wo:=un}
theorem G6(F:ED K x qual st f fd)(O:cN N ps (ai st))(T:Tab P w K mg base fn gn zn md mt Φ G k)(b:List CS)(M:Ms)(m:Md)(t:aV)(hM:M.all (λi=>decide (ps.length<=i.1))=true)(hu:(M.map (·.1)).Nodup)(d:gG m=false)
 (g:cJ ⟨N,(ai st).names,M,fn,gn,zn,md,mt⟩ (fO md) m b (aO st)=true)(B:∀c P R,t c P R->c.length=ps.length)
 (hp:∀c P R,t c P R->wSs Φ G b ⟨gx m P,P,λ_=>False,λ_=>False,R⟩ (aj N.length c)):cA P w K mg base (jB P w) (k+1) f fd ps (M1 K ps.length m t):=by
 refine ED.YL F O (by rintro vs H Q E ⟨A,c,P,R,p,o,_⟩;rw[o.len,p]) λcdv A n s H vs Q E hr hz=>?_;obtain⟨U,c,u,R,p,o,h3,h4,L,J⟩:=hz;have y:=Nj hu;refine⟨_,iM Φ (fO md) G b (G5 O T hr y) (aO st) g,⟨U,U,none⟩,H,aj N.length c,⟨gx m u,u,λ_=>False,λ_=>False,R⟩,GY o h3 (λi m hi=>?_) y,⟨E,MI,λC j rc l=>J C j rc l,λe Y S s1 h' a C h I hx q=>AW e Y S s1 h' a C h I hx (J C S q.1 q.2)⟩,(by rw[d];rfl),hp c u R h4,⟨λA' Z X j ea eb D S'=>?_,λw v j hw l r=>?_,λ_ _ _ _ _ _ z=>z.elim,λ_ _ _ _ _ _ z=>z.elim⟩⟩
 .rw[p];exact Dx (T2.mp hM (i,m) hi)
 .cases m with
  |s=>exact L .cu .cu j D S'.sm (.of (by dsimp only[Rep]))
  |io _=>cases d
  |_=>exact D.elim
 .cases m with
  |io _=>cases d
  |_=>exact L w v j hw l r
theorem lS(F:ED K x qual st f fd)(Sc:cN N ps (ai st))(T:Tab P w K mg base fn gn zn md mt Φ G k)(b:List CS)(M:Ms)(j:Md)(Sf:aV)(hM:M.all (λi=>i.1==0||decide (ps.length<=i.1))=true)(hu:(M.map (·.1)).Nodup)(U:hasB M 0 j=true)(hN:0<N.length)
 (J:cJ ⟨N,(ai st).names,M,fn,gn,zn,md,mt⟩ (fO md) (.io j) b (aO st)=true)(hlen:∀h P R,Sf h P R->h.length=ps.length)
 (D:∀h P R,Sf h P R->wSs Φ G b ⟨gx (.io j) P,P,λ_=>False,λ_=>False,R⟩ (aj N.length h)):cA P w K mg base (jB P w) (k+1) f fd ps (PL K ps.length j Sf):=by
 refine ED.YL F Sc (by rintro vs H Q E ⟨ab,F,O,v0,h,vs',P,R,e,h1,_,_,_,_,h2,_⟩;rw[e,Av,h2.len,h1]) λcdv A outer s H vs Q E hr hz=>?_;obtain⟨ab,F,O,v0,h,vs',P0,R,e,h1,nd,na,d,fp,h2,h4,h5,h6⟩:=hz;subst e;have un:=Nj hu;have U:=jv U;have Y:∀{c},aE (era F H) c->wN (·∈F) H c:=λ{c} t p o e=>by
  by_cases Tv:p∈F
  .obtain⟨o',e',hm⟩:=Fp.mu j fp p Tv;rw[e]at e';cases e';exact .inl ⟨hm,Tv⟩
  .exact .inr (t p o (by rw[Lm Tv];exact e))
 refine⟨_,iM Φ (fO md) G b (G5 Sc T hr un) (aO st) J,⟨ab,λp=>ab p\/p∈F,some v0⟩,era F H,aj N.length (O::h),⟨gx (.io j) P0,P0,λ_=>False,λ_=>False,R⟩,G4 nd na d fp h2 U (λi m hi=>?_) un hN,⟨E,MI,λC c rc t=>h6 C c rc (Y t),λu σ H1 s1 h' a C L I hx q=>AW u σ H1 s1 h' a C L I hx (h6 C H1 q.1 (Y q.2))⟩,rfl,D _ P0 R h4,⟨λA' n σ' c ea eb l S'=>?_,λw v c hw t r=>?_,λ_ _ _ _ _ _ z=>z.elim,λ_ _ _ _ _ _ z=>z.elim⟩⟩
 .have:=T2.mp hM (i,m) hi;rw[uj]at this;rcases this with z|z
  .exact .inl (Qb.mp z)
  .exact .inr (by rw[h1];exact Dx z)
 .have l:(match look n 0 with|some O=>P0 (.tup [.cu,O])|none=>False):=l;cases hl:look n 0 with
  |none=>rw[hl]at l;exact l.elim
  |some y=>rw[hl]at l;obtain⟨wr,y',v0',F',e1,X,Zx,Z,g,S⟩:=oQ (v:=.cu) S' U hl ⟨v0,eb⟩ (by dsimp only[Rep]:Rep K A'.B c .cu .cu);cases e1;rw[eb]at X;cases X;rw[ea]at g S Z;exact h5 .cu y .cu F' c l (Y S'.sm) Zx (λp D=>G3 (Z p D).1) g S
 .obtain⟨wr,y,v0',F',rfl,X,Zx,Z,g,S⟩:=r;cases X;exact h5 wr y v F' c hw (Y t) Zx (λp D=>G3 (Z p D).1) g S
end
end VL
namespace L2
open PySem PySem.Spec PyProof.Rows
abbrev rv(as:List (Addr×Rat)):List V:=as.map λx=>V.ref x.1
section
variable{X:Cx}{H:Hp}
end
theorem nj(h:a.getLast?=some x):jQ a (-1)=some x:=by
 have c:a≠[]:=by intro z;rw[z]at h;cases h
 have b:0<a.length:=Jn.mpr c;unfold jQ;have e:wL a.length (-1)=some (a.length -1):=by unfold wL;rw[Bz (by decide),D1 (by lia)];congr 1;lia
 rw[e];show a[a.length -1]?=_;rw[<-h,KM]
end L2
namespace VL
open PySem PySem.Spec
open PyProof.Rows hiding St
open L2
noncomputable def wq(r:Rat):W:=.tup [.int r.num,.int r.den]
noncomputable def jG(a:List Rat):W:=.lst (a.map wq)
section
variable{K:Frag}{A:Addr->Prop}{H H':Hp}{v:V}{p:Addr}{r:Rat}{rs:List Rat}
end
def bI:List aV->Nat->aV
 |[],_=>λ_ _ _=>False
 |x::_,0=>x
 |_::l,n+1=>bI l n
noncomputable def n8:List W->Nat->W
 |[],_=>.cu
 |x::_,0=>x
 |_::l,n+1=>n8 l n
section
variable{Q:W->Prop}{l a b:List W}{i j:Int}{x y:Str}{p q:Bool}
theorem x_len:vm .len [.lst l] Q=Q (.int l.length):=rfl
theorem DZ:vm .len [.jY ns] Q=Q (.int ns.length):=rfl
theorem DY:vm .len [.tup l] Q=Q (.int l.length):=rfl
theorem L3:vm .abs [.int i] Q=Q (.int (if i<0 then-i else i)):=rfl
theorem L4:vm .max2 [.int i,.int j] Q=Q (.int (if j>i then j else i)):=rfl
theorem L5:vm .min2 [.int i,.int j] Q=Q (.int (if j<i then j else i)):=rfl
theorem D3:vm .list [.lst l] Q=Q (.lst l):=rfl
theorem AA:vm .list [.tup l] Q=Q (.lst l):=rfl
theorem Ws:vm .To [.int i,.int j] Q=((0<j/\j<1073741824)/\Q (.tup [.int (i/j),.int (i%j)])):=rfl
theorem L6:vm .int [.bl p] Q=Q (.int (if p then 1 else 0)):=rfl
theorem L7:gE .Add (.int i) (.int j) Q=Q (.int (i+j)):=rfl
theorem L8:gE .Add (.lst a) (.lst b) Q=(a.length+b.length<=sizeLine/\Q (.lst (a++b))):=rfl
theorem Ma:gE .Sub (.int i) (.int j) Q=Q (.int (i -j)):=rfl
theorem Mb:gE .Mult (.int i) (.int j) Q=(IntMulOk i j/\Q (.int (i*j))):=rfl
theorem Mc:gE .Mult (.lst a) (.int j) Q=(-(2^63)<=j/\j<2^63/\a.length*j.toNat<=sizeLine/\Q (.lst (B1 j.toNat a).flatten)):=rfl
theorem D4:gE .FloorDiv (.int i) (.int j) Q=(kN i j/\Q (.int (i.fdiv j))):=rfl
theorem Me:gE .Mod (.int i) (.int j) Q=(j≠0/\Q (.int (i.fmod j))):=rfl
theorem Mf:gE .Pow (.int i) (.int j) Q=(IS i j/\Q (.int (i^j.toNat))):=rfl
theorem TY:dZ .Eq (.int i) (.int j) Q=Q (.bl (decide (i=j))):=rfl
theorem TZ:dZ .NotEq (.int i) (.int j) Q=Q (.bl (!decide (i=j))):=rfl
theorem x_lt:dZ .Lt (.int i) (.int j) Q=Q (.bl (decide (i<j))):=rfl
theorem T3:dZ .LtE (.int i) (.int j) Q=Q (.bl (decide (i<=j))):=rfl
theorem T4:dZ .Gt (.int i) (.int j) Q=Q (.bl (decide (j<i))):=rfl
theorem T5:dZ .GtE (.int i) (.int j) Q=Q (.bl (decide (j<=i))):=rfl
theorem Mg:MW .Lt (.int i) (.int j) Q=Q (.bl (decide (i<j))):=rfl
theorem Mh:MW .LtE (.int i) (.int j) Q=Q (.bl (decide (i<=j))):=rfl
theorem uC{Q:Bool->Prop}:truth (.bl p) Q=Q p:=rfl
theorem T6:O7 (.lst l) (.int i) Q=∃w,jQ l i=some w/\Q w:=rfl
theorem Mj:O7 (.jY ns) (.int i) Q=∃n,jQ ns i=some n/\Q (.int n):=rfl
theorem Ml{lo hi:Option Int}:Xy (.jY ns) lo hi Q=Q (.lst (j3 (ns.map W.int) lo hi)):=rfl
theorem Mi:O7 (.tup l) (.int i) Q=∃w,jQ l i=some w/\Q w:=rfl
theorem T7{lo hi:Option Int}:Xy (.lst l) lo hi Q=Q (.lst (j3 l lo hi)):=rfl
theorem Mm{Q:Option Int->Prop}:DV .cu w Q=Q none:=rfl
theorem Mn{Q:Option Int->Prop}:DV (.int n) (.int i) Q=Q (some i):=rfl
theorem Mp{Q:Option Int->Prop}:DV (.var n) (.int i) Q=Q (some i):=rfl
theorem Mq{Q:Option Int->Prop}:DV (.bin o c d) (.int i) Q=Q (some i):=rfl
theorem AB{Q:List W->Prop}:items (.lst l) Q=Q l:=rfl
theorem wO{Q:List W->Prop}:items (.tup l) Q=Q l:=rfl
theorem T8{Q:Ev->Prop}:wT true [n] w c Q=Q (c.set n (some w)):=rfl
theorem T9{Q:Ev->Prop}:wT false c (.tup l) d Q=(l.length=c.length/\Q (cI d c l)):=by
 cases c<;>rfl
theorem Mr{i j:Nat}{Q:Ev->Prop}:wT false [i,j] (.tup l) c Q=(l.length=2/\Q (cI c [i,j] l)):=rfl
theorem Mt{lo hi:Option Int}:O8 (.tup l) lo hi Q=(¬(HT.cV l.length 0 lo=0/\HT.cV l.length l.length hi=l.length)/\Q (.tup (j3 l lo hi))):=rfl
theorem Mu{Q:Option Int->Prop}:DV (.own k π) (.int i) Q=Q (some i):=rfl
theorem D5{A B:Prop}:(if true=true then A else B)=A:=rfl
theorem AD{A B:Prop}:(if false=true then A else B)=B:=rfl
end
def Zy(c:Nat->aV)(G:Nat->W)(one:Bool)(d:List Nat)(b:List CS):W->Dn->Ev->Prop:=λw f a=>wT one d w a λe=>wSs c G b f e
theorem TV:wS c G (.fr d one e b) D a=wE c G D.ex e a λz=>items z λf=>g9 (Zy c G one d b) D f a:=rfl
theorem NC:wS c G (.Tt i e b) D d=wP c G D.ex e d λx a=>vn [x] λf=>g9 (Zy c G true [i] b) D f a:=rfl
theorem TX:Zy c G one d b w D a=wT one d w a λe=>wSs c G b D e:=rfl
def WN{α:Type}(S:α->Ev)(J:α->Prop)(c:α->Nat)(s:α):Ev->Prop:=λa=>∃b,a=S b/\J b/\c b<c s
def Wt{α:Type}(S:α->Ev)(J:α->Prop)(d:α->Nat)(b:Dn->Ev->Prop)(D:Dn)(s:α)(k:Bool):Prop:=
 if k=true then∃N:Ev->Prop,(∀a,N a->∃e,e<d s/\∃c,a=S c/\e=d c/\J c)/\b {nx:=N,rt:=D.rt,bk:=D.nx,ct:=N,ex:=D.ex} (S s)else D.nx (S s)
theorem gj(g:k=true->b {nx:=WN S J a s,rt:=D.rt,bk:=D.nx,ct:=WN S J a s,ex:=D.ex} (S s))(f:k=false->D.nx (S s)):Wt S J a b D s k:=by
 unfold Wt;cases k with
 |true=>exact⟨_,by rintro c ⟨d,e,j,l⟩;exact⟨_,l,d,e,rfl,j⟩,g rfl⟩
 |false=>exact f rfl
theorem kg(S:α->Ev)(J:α->Prop)(e:α->Nat)(d:α)(h:a=S d)(g:J d)(f:∀s,J s->c (S s) (Wt S J e b D s)):FZ c b D a:=by refine⟨λm a=>∃s,a=S s/\m=e s/\J s,⟨_,d,h,rfl,g⟩,?_⟩;rintro m _ ⟨s,rfl,rfl,j⟩;exact f s j
theorem cH{α:Type}{h g:α->W}:∀(b:List α)(a:List W)(Q:List W->Prop),(∀x∈b,∀K:Option W->Prop,K (some (g x))->f (h x) K)->a.length+b.length<=sizeLine->Q (a++b.map g)->iU f (b.map h) a Q
 |[],a,Q,_,_,q=>by rw[Ol,iU];simpa using q
 |w::b,a,Q,c,l,q=>by
  rw[Wp,iU];refine c w (FS ..) _ ⟨?_,cH b _ Q (λx d=>c x (FM _ d)) ?_ ?_⟩
  .rw[Av]at l;lia
  .rw[KB,L1];rw[Av]at l;lia
  .rw[Re];exact q
theorem gJ{α:Type}(x:α):∀n,(B1 n [x]).flatten=B1 n x
 |0=>rfl
 |n+1=>by rw[G2,Ig,gJ x n];rfl
theorem af(h:n<=1000):n<=sizeLine:=Do h (by decide)
theorem z5(K:Frag):Gd K:=trivial
theorem ny(h:n<=1000):n<sizeLine:=HI h (by decide)
theorem vI(i:Int)(n:Nat):qE n (.int i)=true:=by
 cases n<;>rfl
theorem RK(r:Rat)(n:Nat):qE (n+1) (wq r)=true:=by unfold wq;dsimp only[qE];rw[G1,G1,vI,vI];rfl
theorem B4(a:List Rat)(n:Nat):qE (n+2) (.lst (a.map wq))=true:=by dsimp only[qE];rw[T2];intro x b;obtain⟨r,_,rfl⟩:=OF.mp b;exact RK r n
theorem RM(h:wq r=wq s):r=s:=by have h:=W.MU h;simp only[ZL,and_true]at h;exact Rat.ext (W.xT h.1) (by have:=W.xT h.2;lia)
theorem Lo{d c:List Rat}(h:W.lst (d.map wq)=.lst (c.map wq)):d=c:=by exact(Mz (λa b e=>RM e)).mp (W.FT h)
theorem RN(h:∀k:Bool,(k=true↔x=y)->Q (.bl k)):dZ .Eq (jG x) (jG y) Q:=
 ⟨.inl ⟨B4 x 7,B4 y 7⟩,λk a=>h k (a.trans ⟨λe=>Lo e,λe=>by rw[e]⟩)⟩
theorem vJ(h:k=true↔p)(q:p):k=true:=h.mpr q
theorem lT(h:k=true↔p)(q:¬p):k=false:=by
 cases k with
 |false=>rfl
 |true=>exact absurd (h.mp rfl) q
def Hd(K:Frag)(x:Str)(st:Stmt):Prop:=∃(f:Addr)(d i:Option Addr)(b:Array (Option Value))(e kV g c a h:Value),
 nsIn K mainGlobals x=some (some (.ref f))/\K.lookup f=some ⟨e,d,.func (fnOf x x (cE st) (aO st) (ai st) .none kV g c i a h),b⟩/\codeIn K a x=true/\keepIn K (.ref f)=true
def Hm(K:Frag)(C:Addr)(x q:Str)(st:Stmt):Prop:=∃(f:Addr)(d i:Option Addr)(b:Array (Option Value))(e kV g c a h:Value),
 findIn K (.ref C) x=some (some (.ref f))/\isFn K (.ref f)=true/\K.lookup f=some ⟨e,d,.func (fnOf x q (cE st) (aO st) (ai st) .none kV g c i a h),b⟩/\codeIn K a q=true/\keepIn K (.ref f)=true
structure Df(K:Frag)(mg:Str->Option Value)(x:Str)(st:Stmt)(ps:List Str)(f:Addr)(fd:FuncData):Prop where
 F:ED K x x st f fd
 m:mg x=some (.ref f)
 b:Binds K fd ps []
 bt:∀(s:Shared)(us:List Value),us.length=ps.length->BindsTo s fd ⟨us,[]⟩ (ps.zip us)
structure Dm(K:Frag)(C:Addr)(x q:Str)(st:Stmt)(ps:List Str)(f:Addr)(fd:FuncData):Prop where
 F:ED K x q st f fd
 M:Meth K C x f
 b:Binds K fd ps []
abbrev ia(x q:Str)(st:Stmt)(ps:List Str):Prop:=∀(kV doc pm:Value)(an:Option Addr)(cdv ct:Value)(us:List Value),us.length=ps.length->bindArgs (fnOf x q (cE st) (aO st) (ai st) .none kV doc pm an cdv ct) ⟨us,[]⟩=pure (ps.zip us)
theorem sE{α:Type}{l:List α}(h:l.length=n+1):∃a r,l=a::r/\r.length=n:=by
 cases l with
 |nil=>cases h
 |cons a r=>exact⟨a,r,rfl,WB h⟩
theorem Wu{K:Frag}{st:Stmt}(X:K.In h)(G:h.Ns mainGlobals d)(j:Hd K x st)(b:ia x x st ps):∃f m,Df K d x st ps f m:=by obtain⟨f,t,q,r,u,kV,n,g,p,o,a,l,c,k⟩:=j;have F:=EF (st:=st) l c k;exact⟨f,_,F,mg_of X G a,F.binds b,λs e i=>.of_eq (b kV n g q p o e i)⟩
theorem Nk{K:Frag}{st:Stmt}(d:Hm K C x q st)(b:ia x q st ps):∃f e,Dm K C x q st ps f e:=by obtain⟨f,j,r,g,m,kV,n,h,p,o,a,i,l,c,k⟩:=d;have F:=EF (st:=st) l c k;exact⟨f,_,F,⟨a,i,k⟩,F.binds b⟩
structure Hc(K:Frag)(mg:Str->Option Value)(x:Str)(C:Addr)(fs:List Str):Prop where
 c:mg x=some (.ref C)
 ok:zF K C fs
 mks:makesIn K C=true
 kp:keepIn K (.ref C)=true
theorem z6{K:Frag}(c:EB H)(b:jA K H a (ns.map V.int)):Rep K (λ_=>False) H (.jY ns) (.ref a):=by
 refine⟨a,rfl,?_⟩;rcases b with(h|⟨o,h⟩)|h
 .rcases c a with z|⟨o,d,z⟩
  .rw[z]at h;cases h
  .rw[z]at h;cases h
 .exact .inl ⟨o,h⟩
 .exact .inr (.inr h)
def RO:aV:=λb Q _=>∃a:List Int,b=[.jY a]/\a.length<=63/\Q (.bl true)
def B5(K:Frag):Sp:=λc H Q _=>∃(a:Addr)(b:List Int),c=[.ref a]/\EB H/\jA K H a (b.map V.int)/\b.length<=63/\∀d,Q (.bl true) d
theorem RP{K:Frag}{f:Addr}{d:FuncData}{x:Str}(F:cA P w K c base (jB P w) k f d [x] (M1 K 1 .s RO)):cA P w K c base UU k f d [x] (B5 K):=by refine(cA.UX F).imp λm H Q E ⟨a,b,e,j,i,h,q⟩=>?_;subst e;refine⟨λ_=>False,[.jY b],λw=>w=.bl true,λ_=>False,rfl,.cons (z6 j i) .nil,λ_ z=>z.elim,⟨b,rfl,h,rfl⟩,λw v l g _ r=>?_,λ_ _ z=>z.elim⟩;subst g;have r:=r.bH;dsimp only[Rep]at r;subst r;exact q l
theorem walk{l:PySem.W.OpenLaw}{K:Params->Frag}{k:Nat}(r:l.most=some 63)(g:d.params.defaults=[])(p:cY k callerA)(B:importsNone q=true)(e:l.prog.given.tree=none)
 (v:∀(w:World)(h:Heap),m w h->(K w.params).In h)
 (F:∀(w:World)(c:Str->Option Value)(j:Addr)(h:Heap),(K w.params).In h->h.Ns mainGlobals c->c d.name=some (.ref j)->
   ∃i:FuncData,(∀(s:Shared)(u:Value),BindsTo s i ⟨[u],[]⟩ [("_law_script",u)])/\∀base:Heap,(K w.params).In base->base.Ns mainGlobals c->cA l.prog w (K w.params) c base UU k j i ["_law_script"] (B5 (K w.params))):
 PySem.W.WalkO q b C m l.row.toRowW d [] (λf us=>PySem.call f us):=
 L2.Jg (n:=63) (k:=k) (x:="_law_script") (CX:=λ_=>UU) (sp:=λw=>B5 (K w.params)) r (by decide) g p B e v F (λ_ _ a o t A y=>⟨a,o,rfl,A,y,t,λ_=>rfl⟩) λ_ _ _ _ _ z=>z
def XI:aV:=λ_ _ _=>False
theorem Wv{K:Frag}{f:Addr}{e:FuncData}{ps:List Str}:cA P w K d base (jB P w) k f e ps (om K n .s XI):=
 ⟨by rintro c H Q E ⟨_,_,_,_,_,_,_,z,_⟩;exact z.elim,by rintro A a s H b g c Q E h j i r ⟨_,_,_,_,_,_,_,z,_⟩;exact z.elim⟩
theorem Df.iN{K:Frag}{st:Stmt}{ps:List Str}{f:Addr}{h:FuncData}{k n:Nat}{m:Md}{sp:aV}(D:Df K d x st ps f h)(F:cA P w K d base (jB P w) k f h ps (om K n m sp))(j:n=ps.length)(i:∀a P R,sp a P R->a.length=n){e:Nat}(l:k<=e):
 ∃g n c,d x=some g/\cL P w K d base c g n (om K n m sp)/\c<=e/\∀a P R,sp a P R->a.length=n:=by
 subst j;exact⟨_,_,k,D.m,.fn D.F.kp D.b F,l,i⟩
theorem Dm.iN{K:Frag}{st:Stmt}{ps:List Str}{C f:Addr}{a:FuncData}{k n:Nat}{m:Md}{sp:aV}(D:Dm K C x q st ps f a)(F:cA P w K g base (jB P w) k f a ps (om K n m sp))(i:∀c P R,sp c P R->c.length=n){h:Nat}(j:k<=h){G:W}(l:G=.cls C):
 ∃f a ps n d,(∀C,G=.cls C->Meth K C x f)/\Binds K a ps []/\cA P w K g base (jB P w) d f a ps (om K n m sp)/\d<=h/\∀c P R,sp c P R->c.length=n:=
 ⟨f,a,ps,n,k,λo e=>by rw[l]at e;cases e;exact D.M,D.b,F,j,i⟩
end VL
namespace VL
open PySem PySem.Spec
open PyProof.Rows hiding St
open L2 Num
abbrev bC(m:Md)(P:W->Prop)(R:Addr->Prop):Dn:=⟨gx m P,P,λ_=>False,λ_=>False,R⟩
noncomputable def wI(ns:List Int):W:=.lst (ns.map W.int)
theorem aP(J:Nat->Ev->Prop)(n:J 0 a)(l:∀i w a N,d[i]?=some w->J i a->(∀c,J (i+1) c->N c)->b w ⟨N,D.rt,D.nx,N,D.ex⟩ a)(m:∀a,J d.length a->D.nx a):g9 b D d a:=by
 have:∀k i a,i+k=d.length->J i a->g9 b D (d.drop i) a:=by
  intro k
  induction k with
  |zero=>intro i a e j;rw[List.drop_of_length_le (by lia),g9];exact m a (by rw[<-e];exact j)
  |succ k h=>
   intro i a e j;have f:i<d.length:=by lia
   rw[i3 f,g9];exact l i _ a _ (D2 f) j λc g=>h (i+1) c (by lia) g
 exact this d.length 0 a (by lia) n
theorem aF(h:x.natAbs<2^n)(b:y.natAbs<2^m)(a:n+m<=134217728):IntMulOk x y:=zj (Do (zzh (bits_le h) (bits_le b)) a)
theorem eH{y:Int}(h:y.natAbs<2^n)(a:n<=8000):y.natAbs.log2<1000000000:=by
 rcases h8 y.natAbs with e|e
 .rw[e];decide
 .have:=(Sx (R7 e)).mpr h;lia
theorem rj{y:Int}(h:y.natAbs<2^n)(a:n<=999999999):y.natAbs.log2<1000000000:=by
 rcases h8 y.natAbs with e|e
 .rw[e];decide
 .have:=(Sx (R7 e)).mpr h;lia
theorem G7(r:Rat):(r.den:Int)≠0:=by have:=r.den_pos;lia
noncomputable def rq:List CS:=[.ret (.comp [0] true 1 (.var 0) (.bl true) (.bin .Mult (.var 2) (.var 0)))]
def ic:aV:=λc Q _=>∃(a:List Int)(b:Int),c=[wI a,.int b]/\a.length<=1000/\(∀x∈a,IntMulOk b x)/\Q (wI (a.map (b*·)))
theorem G8(c:List W)(Q:W->Prop)(R:Addr->Prop)(h:ic c Q R):wSs e G rq (bC m Q R) (aj 2 c):=by obtain⟨d,b,rfl,i,j,a⟩:=h;show wSs _ _ rq _ [some (wI d),some (.int b)];unfold rq wI;fin2;refine cH (g:=λx=>.int (b*x)) d [] _ (λx f K k=>⟨j x f,k⟩) (af (by simpa using i)) ?_;rw[C0];unfold wI at a;rw[U2]at a;exact a
noncomputable def vK:List CS:=[.zG (.cmp .NotEq (.var 1) (.int 0)) [.par [0,1] [(.var 1),(.bin .Mod (.var 0) (.var 1))]],.ret (.blt .abs [(.var 0)])]
def B6:aV:=λc Q _=>∃a b:Int,c=[.int a,.int b]/\Q (.int (AS a b:Nat))
theorem Lq(f:List W)(Q:W->Prop)(R:Addr->Prop)(h:B6 f Q R):wSs k G vK (bC m Q R) (aj 2 f):=by
 obtain⟨a,b,rfl,l⟩:=h;show wSs _ _ vK _ [some (.int a),some (.int b)];unfold vK;fin2;refine kg (α:=Int×Int) (λx=>[some (.int x.1),some (.int x.2)]) (λx=>AS x.1 x.2=AS a b) (λx=>x.2.natAbs) (a,b) rfl rfl ?_;rintro⟨x,y⟩ g;fin2;refine gj (λd=>?_) (λd=>?_)
 .have c:y≠0:=by simpa using d
  have j:=pQ x y (x.fdiv y);have i:=EW x y c;rw[<-Num.fmod_eq]at j i;fin2;exact⟨c,rfl,(y,x.fmod y),rfl,j.trans g,i⟩
 .have c:y=0:=by simpa using d
  subst c;fin2;have e:(if x<0 then-x else x)=((AS a b:Nat):Int):=by rw[<-g,Ni];split<;>lia
  rw[e];exact l
noncomputable def rA:List CS:=[.set 2 (.call 0 [(.var 0),(.var 1)]),.iff (.cmp .Lt (.var 1) (.int 0)) [.set 2 (.bin .Sub (.int 0) (.var 2))] [],.ret (.tup [(.bin .FloorDiv (.var 0) (.var 2)),(.bin .FloorDiv (.var 1) (.var 2))])]
theorem fX(h:(gF 0 1 n)[i]?=some w):i<n/\w=.int i:=by unfold gF at h;rw[FR]at h;obtain⟨j,e,rfl⟩:=L9.mp h;obtain⟨b,a⟩:=Fu.mp e;rw[ba]at a;rw[de]at b;refine⟨b,?_⟩;rw[<-a];simp
theorem cD{k:Nat}{w:W}(h:l[k]?=some w):jQ l (k:Int)=some w:=by unfold jQ wL;have:=(Fu.mp h).1;rw[D1 (by lia),D1 (by lia)];simpa using h
theorem i9(h:k<n):wL n (k:Int)=some k:=by unfold wL;rw[D1 (by lia),D1 (by lia)];simp
theorem fm{x:Int}(a:0<n):0<=x.fmod n/\x.fmod n<n:=⟨Int.fmod_nonneg_of_pos x a,Int.fmod_lt_of_pos x a⟩
theorem au(J:Ev->Prop)(f:∀N:Ev->Prop,(∀a,J a->N a)->wS b G s {D with nx:=N} c)(e:∀a,J a->wSs b G (t::d) D a):wSs b G (s::t::d) D c:=f _ e
theorem int_at{ns:List Int}(h:k<ns.length):(ns.map W.int)[k]?=some (.int (ns.getD k 0)):=by rw[FR,AC,D2 h];rfl
theorem vL{ns:List Int}{P:Int->Prop}(h:∀n∈ns,P n)(a:k<ns.length):P (ns.getD k 0):=by rw[AC,D2 a];exact h _ (d5 _)
theorem G9(ns:List Int)(k:Nat)(h:k<=ns.length):j3 (ns.map W.int) none (some (k:Int))=(ns.take k).map W.int:=by unfold j3;rw[HT.AQ,HT.xg,Bi,WI,show min k ns.length -0=k by lia,XJ]
noncomputable def nB:List CS:=[.set 1 (.blt .len [(.var 0)]),.zG (.and [(.cmp .Gt (.var 1) (.int 0)),(.cmp .Eq (.ix (.var 0) (.bin .Sub (.var 1) (.int 1))) (.int 0))]) [.set 1 (.bin .Sub (.var 1) (.int 1))],.ret (.sl (.var 0) .cu (.var 1))]
def lU:aV:=λc Q _=>∃a:List Int,c=[wI a]/\∀b,gY a b->Q (wI b)
theorem Du(i:List W)(Q:W->Prop)(R:Addr->Prop)(h:lU i Q R):wSs l G nB (bC m Q R) (aj 2 i):=by
 obtain⟨c,rfl,n⟩:=h;show wSs _ _ nB _ [some (wI c),none];unfold nB wI;fin2;refine kg (α:=Nat) (λk=>[some (.lst (c.map W.int)),some (.int k)]) (λk=>k<=c.length/\∀j,k<=j->j<c.length->c.getD j 0=0) (λk=>k) c.length (by rw[Bi]) ⟨FC _,λj g f=>by lia⟩ ?_;rintro k ⟨g,f⟩;fin2;have d:(k=0\/c.getD (k -1) 0≠0)->Q (.lst (j3 (c.map W.int) none (some (k:Int)))):=λh=>by rw[G9 c k g];exact n _ ⟨k,g,rfl,f,h⟩
 by_cases o:0<k
 .rw[D1 (Fn (by lia))];rw[show(k:Int) -1=((k -1:Nat):Int) by lia];refine⟨_,cD (int_at (by lia)),?_⟩;fin2;refine gj (λz=>?_) (λz=>?_)
  .have z:=Dx z;fin2;refine⟨k -1,by rw[show(k:Int) -1=((k -1:Nat):Int) by lia],⟨by lia,λj a b=>?_⟩,by show k -1<k;lia⟩;by_cases e:j=k -1
   .rw[e];exact z
   .exact f j (by lia) b
  .have z:=rf z;fin2;exact d (.inr z)
 .rw[Bz (by rw[KE];lia)];refine gj (λz=>by cases z) (λ_=>?_);fin2;exact d (.inl (by lia))
noncomputable def ie:List CS:=[.set 2 (.blt .max2 [(.blt .len [(.var 0)]),(.blt .len [(.var 1)])]),.set 3 (.bin .Add (.blt .list [(.var 0)]) (.bin .Mult (.lst [(.int 0)]) (.bin .Sub (.var 2) (.blt .len [(.var 0)])))),.fr [4,5] false (.t9 (.var 1)) [.put 3 (.var 4) (.bin .Add (.ix (.var 3) (.var 4)) (.var 5))],.ret (.call 0 [(.var 3)])]
def ja:aV:=λd Q _=>∃a b:List Int,d=[wI a,wI b]/\a.length<=200/\b.length<=200/\∀c,gY ((Bn (max a.length b.length)).map λk=>a.getD k 0+b.getD k 0) c->Q (wI c)
theorem vM(t:List W)(Q:W->Prop)(R:Addr->Prop)(h:ja t Q R):wSs (bI [lU]) G ie (bC m Q R) (aj 6 t):=by
 obtain⟨b,a,rfl,u,v,E⟩:=h;show wSs _ _ ie _ [some (wI b),some (wI a),none,none,none,none];unfold ie wI;fin2;have c:(if((a.map W.int).length:Int)>((b.map W.int).length:Int)then((a.map W.int).length:Int)else((b.map W.int).length:Int))=((max b.length a.length:Nat):Int):=by rw[Bi,Bi];split<;>lia
 rw[c];have d:((max b.length a.length:Nat):Int) -((b.map W.int).length:Int)=((max b.length a.length -b.length:Nat):Int):=by rw[Bi];clear c v u;lia
 rw[d,Gg,gJ];generalize J:max b.length a.length=L at*;refine⟨af (by simp),by clear d c J v u;lia,by clear d c;lia,af (by simp;clear d c;lia),af (by simp;clear d c;lia),?_⟩;have g:∀(f:Nat->Int)(k:Nat),k<L->((Bn L).map f)[k]?=some (f k):=λf k F=>by rw[FR,dt F];rfl
 refine aP (λi z=>∃o n,z=[some (.lst (b.map W.int)),some (.lst (a.map W.int)),some (.int L),some (.lst (((Bn L).map λk=>b.getD k 0+if k<i then a.getD k 0 else 0).map W.int)),o,n]) ⟨none,none,?_⟩ ?_ ?_
 .have:b.map W.int++B1 (L -b.length) (W.int 0)=((Bn L).map λk=>b.getD k 0+if k<0 then a.getD k 0 else 0).map W.int:=by
   refine ma λq=>?_;by_cases s:q<b.length
   .rw[QP (by simpa using s),int_at s,FR,g _ q (by lia),Bz (by lia),iq];rfl
   .by_cases j:q<L
    .rw[NM (by simpa using s),rh,D1 (by rw[Bi];omega),FR,g _ q j,Bz (by lia),AC,Gc (by lia)];rfl
    .rw[Gc (by simp;omega),Gc (by simp;lia)]
  rw[this]
 .rintro i w _ N C ⟨o,n,rfl⟩ I;obtain⟨x,p,rfl⟩:=m7 C;have H:i<a.length:=by have:=(Fu.mp p).1;simpa using this
  rw[int_at H]at p;cases p;fin2;have r:i<L:=by omega
  refine⟨rfl,_,cD (by rw[FR,g _ i r];rfl),?_⟩;fin2;refine⟨i,i9 (by simpa using r),I _ ⟨some (.int i),some (.int (a.getD i 0)),?_⟩⟩;have:((Bn L).map λk=>b.getD k 0+if k<i then a.getD k 0 else 0).set i (b.getD i 0+(if i<i then a.getD i 0 else 0)+a.getD i 0)=(Bn L).map λk=>b.getD k 0+if k<i+1 then a.getD k 0 else 0:=by
   refine ma λq=>?_;rw[Om];by_cases j:q<L
   .rw[g _ q j,g _ q j];by_cases e:i=q
    .subst e;rw[D1 rfl,D1 (by simpa using r),Bz (by lia),D1 (by lia)];congr 1;lia
    .rw[Bz e];by_cases y:q<i
     .rw[D1 y,D1 (by lia)]
     .rw[Bz y,Bz (by lia)]
   .rw[Bz (by lia),Gc (by simp;lia),Gc (by simp;lia)]
  rw[<-this,lj]
 .rintro _ ⟨o,n,rfl⟩;have B:(f9 (a.map W.int)).length=a.length:=by unfold f9;simp
  rw[B];fin2;refine⟨_,rfl,λA D=>E A ?_⟩;have:((Bn L).map λk=>b.getD k 0+if k<a.length then a.getD k 0 else 0)=(Bn L).map λk=>b.getD k 0+a.getD k 0:=by
   refine kS λk _=>?_;by_cases h:k<a.length
   .rw[D1 h]
   .rw[Bz h,AC (l:=a),Gc (by lia)];rfl
  rw[<-this];exact D
noncomputable def gk:List CS:=[.ret (.call 0 [(.var 0),(.call 1 [(.var 1),(.neg (.int 1))])])]
def ir:aV:=λe Q _=>∃(c a:List Int)(b:Nat),e=[wI c,wI a]/\c.length<=200/\a.length<=200/\b<=100000000/\(∀x∈a,x.natAbs<2^b)/\∀d,gY ((Bn (max c.length a.length)).map λk=>c.getD k 0 -a.getD k 0) d->Q (wI d)
theorem sG(e:List W)(Q:W->Prop)(R:Addr->Prop)(h:ir e Q R):wSs (bI [ja,ic]) G gk (bC m Q R) (aj 2 e):=by
 obtain⟨c,a,b,rfl,i,j,q,d,p⟩:=h;show wSs _ _ gk _ [some (wI c),some (wI a)];unfold gk;fin2;refine⟨a,-1,rfl,by lia,λx o=>aF (n:=1) (m:=b) (by decide) (d x o) (by lia),?_⟩;refine⟨c,a.map (-1*·),rfl,i,by rw[Bi];exact j,λg f=>p g ?_⟩;rw[Bi]at f;have:((Bn (max c.length a.length)).map λk=>c.getD k 0+(a.map (-1*·)).getD k 0)=(Bn (max c.length a.length)).map λk=>c.getD k 0 -a.getD k 0:=by
  refine kS λk _=>?_;rw[AC (l:=a.map _),FR,AC (l:=a)];cases a[k]? with
  |none=>show _+(0:Int)=_ -(0:Int);lia
  |some z=>show _+ -1*z=_ -z;lia
 rw[<-this];exact f
noncomputable def rB:List CS:=[.set 2 (.int 1),.zG (.cmp .Gt (.var 1) (.int 0)) [.iff (.cmp .Eq (.bin .Mod (.var 1) (.int 2)) (.int 1)) [.set 2 (.bin .Mult (.var 2) (.var 0))] [],.set 1 (.bin .FloorDiv (.var 1) (.int 2)),.iff (.cmp .Gt (.var 1) (.int 0)) [.set 0 (.bin .Mult (.var 0) (.var 0))] []],.ret (.var 2)]
def oU:aV:=λa Q _=>∃(x:Int)(e n:Nat),a=[.int x,.int e]/\x.natAbs<2^n/\n*(e+1)<=130000000/\Q (.int (x^e))
theorem Ww{x:Int}(h:x.natAbs<2^n)(e:Nat):(x^e).natAbs<2^(n*e+1):=by rw[X5];have:x.natAbs^e<=(2^n)^e:=bj (SZ h) e;rw[<-ky]at this;rw[El];have:=TB (n:=n*e) (show 0<2 by decide);lia
theorem Hf(i:List W)(Q:W->Prop)(R:Addr->Prop)(h:oU i Q R):wSs t G rB (bC m Q R) (aj 3 i):=by
 obtain⟨x,e,n,rfl,j,F,w⟩:=h;show wSs _ _ rB _ [some (.int x),some (.int e),none];unfold rB;fin2;refine kg (α:=Nat×Nat×Nat) (λs=>[some (.int (x^s.1)),some (.int s.2.1),some (.int (x^s.2.2))]) (λs=>s.1*s.2.1+s.2.2=e/\(0<s.2.1->0<s.1)) (λs=>s.2.1) (1,e,0) (by show _=[some (W.int (x^1)),some (W.int (e:Int)),some (W.int (x^0))];rw[Hb,PP,bo]) ⟨by show 1*e+0=e;lia,λ_=>by show 0<1;decide⟩ ?_;rintro⟨a,d,p⟩ ⟨v,k⟩;dsimp only at v k;fin2;refine gj (λz=>?_) (λz=>?_)
 .have c:0<d:=by have:=Dx z;lia
  have E:=k c;have H:a<=e:=by have:a*1<=a*d:=Fk a c;lia
  have D:p+a<=e:=by have:a*1<=a*d:=Fk a c;lia
  have a2:2<=d->a+a<=e:=λh=>by have:a*2<=a*d:=Fk a h;lia
  have mo:∀q r,q+r<=e->IntMulOk (x^q) (x^r):=λq r h=>aF (Ww j q) (Ww j r) (by have y:=Fk n h;rw[tq]at y;have f:n*e<=n*(e+1):=Fk n (xi e);lia);have C:(d:Int).fmod 2=((d%2:Nat):Int):=by rw[hU _ (by decide)];lia
  have B:(d:Int).fdiv 2=((d/2:Nat):Int):=by rw[Iy _ (by decide)];lia
  have l:kN (d:Int) 2:=⟨by decide,by decide⟩;fin2;rw[C,B];refine⟨by decide,?_⟩;have g:a*d=a*(2*(d/2))+a*(d%2):=by rw[<-tq,Nat.div_add_mod]
  have A:a*(2*(d/2))=2*a*(d/2):=by rw[ag 2 a,mI]
  split
  .rename_i h
   have h:=Dx h;have o:d%2=1:=by lia
   rw[o,Sn]at g;refine⟨mo p a D,l,?_⟩;split
   .rename_i b
    have b:=Dx b;refine⟨mo a a (a2 (by lia)),(2*a,d/2,p+a),?_,⟨?_,λ_=>?_⟩,?_⟩
    .show[some (W.int (x^a*x^a)),some (W.int ((d/2:Nat):Int)),some (W.int (x^p*x^a))]=[some (W.int (x^(2*a))),some (W.int ((d/2:Nat):Int)),some (W.int (x^(p+a)))];rw[rk,fw,rk]
    .show 2*a*(d/2)+(p+a)=e;lia
    .show 0<2*a;lia
    .show d/2<d;lia
   .rename_i f
    rw[KE]at f;refine⟨(a,d/2,p+a),?_,⟨?_,λz=>?_⟩,?_⟩
    .show[some (W.int (x^a)),some (W.int ((d/2:Nat):Int)),some (W.int (x^p*x^a))]=[some (W.int (x^a)),some (W.int ((d/2:Nat):Int)),some (W.int (x^(p+a)))];rw[rk]
    .show a*(d/2)+(p+a)=e;have u:d/2=0:=by lia
     rw[u]at g A⊢;lia
    .exact E
    .show d/2<d;lia
  .rename_i h
   rw[KE]at h;have o:d%2=0:=by lia
   rw[o,Xo]at g;refine⟨l,?_⟩;split
   .rename_i b
    have b:=Dx b;refine⟨mo a a (a2 (by lia)),(2*a,d/2,p),?_,⟨?_,λ_=>?_⟩,?_⟩
    .show[some (W.int (x^a*x^a)),some (W.int ((d/2:Nat):Int)),some (W.int (x^p))]=[some (W.int (x^(2*a))),some (W.int ((d/2:Nat):Int)),some (W.int (x^p))];rw[fw,rk]
    .show 2*a*(d/2)+p=e;lia
    .show 0<2*a;lia
    .show d/2<d;lia
   .rename_i f
    rw[KE]at f;lia
 .have c:d=0:=by have:=rf z;lia
  subst c;fin2;have:p=e:=by lia
  rw[this];exact w
noncomputable def tabI(n:Nat)(f:Nat->Int):List Int:=(Bn n).map f
theorem eY(h:k<n):(tabI n f)[k]?=some (f k):=by unfold tabI;rw[FR,dt h];rfl
theorem bD(n:Nat)(f:Nat->Int):(tabI n f).length=n:=by unfold tabI;simp
theorem fY(h:k<n)(b:∀j,j<n->j≠k->g j=f j):(tabI n f).set k (g k)=tabI n g:=by
 refine ma λq=>?_;rw[Om];by_cases a:q<n
 .rw[eY a,eY a];by_cases e:k=q
  .subst e;rw[D1 rfl,D1 (by rw[bD];exact h)]
  .rw[Bz e,b q a (gN e)]
 .rw[Bz (by lia),Gc (by rw[bD];lia),Gc (by rw[bD];lia)]
theorem RS(h:∀k:Bool,(k=true↔x=y)->Q (.bl k)):dZ .Eq (wI x) (wI y) Q:=by
 have c:∀z:List Int,qE 9 (.lst (z.map W.int))=true:=λz=>by dsimp only[qE];rw[T2];intro w d;obtain⟨i,_,rfl⟩:=OF.mp d;exact vI i 8
 refine⟨.inl ⟨c x,c y⟩,λk f=>h k (f.trans ⟨λe=>?_,λe=>by rw[e]⟩)⟩;exact(Mz (λa b e=>W.xT e)).mp (W.FT e)
theorem B7{ms:List Int}(h:(f9 (ms.map W.int))[i]?=some w):i<ms.length/\w=.tup [.int i,.int (ms.getD i 0)]:=by
 obtain⟨x,a,rfl⟩:=m7 h;have b:i<ms.length:=by have:=(Fu.mp a).1;simpa using this
 rw[int_at b]at a;cases a;exact⟨b,rfl⟩
theorem yp(ms:List Int):(f9 (ms.map W.int)).length=ms.length:=by unfold f9;simp
noncomputable def gp:List CS:=[.iff (.or [(.cmp .Eq (.var 0) (.lst [])),(.cmp .Eq (.var 1) (.lst []))]) [.ret (.lst [])] [],.set 2 (.bin .Mult (.lst [(.int 0)]) (.bin .Sub (.bin .Add (.blt .len [(.var 0)]) (.blt .len [(.var 1)])) (.int 1))),.fr [3,4] false (.t9 (.var 0)) [.iff (.cmp .NotEq (.var 4) (.int 0)) [.fr [5,6] false (.t9 (.var 1)) [.put 2 (.bin .Add (.var 3) (.var 5)) (.bin .Add (.ix (.var 2) (.bin .Add (.var 3) (.var 5))) (.bin .Mult (.var 4) (.var 6)))]] []],.ret (.var 2)]
def iu:aV:=λc Q _=>∃a b:List Int,c=[wI a,wI b]/\a.length<=200/\b.length<=200/\(∀x∈a,∀y∈b,IntMulOk x y)/\Q (wI (if a=[]\/b=[]then[]else tabI (a.length+b.length -1) (cf a b a.length)))
theorem sH(A:List W)(Q:W->Prop)(R:Addr->Prop)(h:iu A Q R):wSs D G gp (bC m Q R) (aj 7 A):=by
 obtain⟨a,b,rfl,S,O,J,l⟩:=h;show wSs _ _ gp _ [some (wI a),some (wI b),none,none,none,none,none];unfold gp;refine au (λs=>(a≠[]/\b≠[])/\s=[some (wI a),some (wI b),none,none,none,none,none]) (λN r=>?_) ?_
 .fin2;refine⟨af (by simp),RS (y:=[]) λU C=>?_⟩;fin2;by_cases o:a=[]
  .cases vJ C o;rw[D1 rfl];rw[D1 (.inl o)]at l;exact⟨af (by simp),l⟩
  .cases lT C o;rw[Bz (by decide)];refine⟨af (by simp),RS (y:=[]) λT B=>?_⟩;fin2;by_cases p:b=[]
   .cases vJ B p;rw[D1 rfl];rw[D1 (.inr p)]at l;exact⟨af (by simp),l⟩
   .cases lT B p;rw[Bz (by decide)];exact r _ ⟨⟨o,p⟩,rfl⟩
 rintro _ ⟨⟨o,p⟩,rfl⟩;rw[Bz (λz=>z.elim o p)]at l;have X:=Jn.mpr o;unfold wI at*;fin2;have M:((a.map W.int).length:Int)+((b.map W.int).length:Int) -1=((a.length+b.length -1:Nat):Int):=by rw[Bi,Bi];lia
 rw[M,Gg,gJ];refine⟨af (by simp),by lia,by lia,af (by simp;lia),?_⟩;refine aP (λi t=>∃o3 u d c,t=[some (.lst (a.map W.int)),some (.lst (b.map W.int)),some (.lst ((tabI (a.length+b.length -1) (cf a b i)).map W.int)),o3,u,d,c]) ⟨none,none,none,none,?_⟩ ?_ ?_
 .have:tabI (a.length+b.length -1) (cf a b 0)=B1 (a.length+b.length -1) 0:=by unfold tabI;have:cf a b 0=λ_=>0:=rfl;rw[this,TQ,de]
  rw[this,My]
 .rintro i w _ N I ⟨o3,u,d,c,rfl⟩ r;obtain⟨L,rfl⟩:=B7 I;fin2;refine⟨rfl,?_⟩;by_cases z:a.getD i 0=0
  .rw[Fn z];fin2;refine r _ ⟨some (.int i),some (.int (a.getD i 0)),d,c,?_⟩;rw[show cf a b (i+1)=cf a b i from funext λk=>Jq z k]
  .rw[IR z];fin2;refine aP (λj t=>∃d c,t=[some (.lst (a.map W.int)),some (.lst (b.map W.int)),some (.lst ((tabI (a.length+b.length -1) (xw a b i j)).map W.int)),some (.int i),some (.int (a.getD i 0)),d,c]) ⟨d,c,?_⟩ ?_ ?_
   .rw[show xw a b i 0=cf a b i from funext λk=>xx a b i k]
   .rintro j w _ Y F ⟨d,c,rfl⟩ E;obtain⟨K,rfl⟩:=B7 F;have v:i+j<a.length+b.length -1:=by lia
    fin2;rw[show(i:Int)+(j:Int)=((i+j:Nat):Int) by lia];refine⟨rfl,_,cD (by rw[FR,eY v];rfl),?_⟩;fin2;refine⟨vL (P:=λx=>IntMulOk x (b.getD j 0)) (λx H=>vL (P:=λy=>IntMulOk x y) (J x H) K) L,i+j,i9 (by rw[Bi,bD];exact v),E _ ⟨some (.int j),some (.int (b.getD j 0)),?_⟩⟩;have e:=fY (n:=a.length+b.length -1) (f:=xw a b i j) (g:=xw a b i (j+1)) (k:=i+j) v (λq _ l=>by rw[kR,Bz l,iq]);rw[kR,D1 rfl]at e;rw[<-e,lj]
   .rintro _ ⟨d,c,rfl⟩;refine r _ ⟨some (.int i),some (.int (a.getD i 0)),d,c,?_⟩;rw[yp,show xw a b i b.length=cf a b (i+1)from funext λk=>xA a b i k]
 .rintro _ ⟨o3,u,d,c,rfl⟩;rw[yp];fin2;exact l
noncomputable def Hg:List CS:=[.par [0,1] [(.blt .abs [(.var 0)]),(.blt .abs [(.var 1)])],.zG (.cmp .Gt (.bits (.var 1)) (.glob 0)) [.par [0,1] [(.var 1),(.bin .Mod (.var 0) (.var 1))],.ua [0,1] (.call 0 [(.call 1 [(.var 0),(.var 1)]),(.var 0),(.var 1)]),.par [0,1] [(.blt .abs [(.var 0)]),(.blt .abs [(.var 1)])]],.zG (.cmp .NotEq (.var 1) (.int 0)) [.par [0,1] [(.var 1),(.bin .Mod (.var 0) (.var 1))]],.ret (.var 0)]
def Dv:aV:=λc Q _=>∃(a b:Int)(n:Nat),c=[.int a,.int b]/\b.natAbs<2^n/\n<=6000/\Q (.int (AS a b:Nat))
theorem Wx(p:List W)(Q:W->Prop)(R:Addr->Prop)(h:Dv p Q R):wSs r (n8 [.int 6000]) Hg (bC m Q R) (aj 2 p):=by
 obtain⟨a,b,n,rfl,v,B,t⟩:=h;show wSs _ _ Hg _ [some (.int a),some (.int b)];unfold Hg;have A:(if a<0 then-a else a)=(a.natAbs:Int):=by split<;>lia
 have w:(if b<0 then-b else b)=(b.natAbs:Int):=by split<;>lia
 have u:AS (a.natAbs:Int) (b.natAbs:Int)=AS a b:=rfl;refine au (λc=>c=[some (.int (a.natAbs:Int)),some (.int (b.natAbs:Int))]) (λN k=>?_) ?_
 .fin2;rw[A,w];exact⟨rfl,k _ rfl⟩
 rintro _ rfl;have q:Builtin.Int.intBits (b.natAbs:Int)<=n:=bits_le (by rw[BB];exact v);refine au (λc=>c=[some (.int (a.natAbs:Int)),some (.int (b.natAbs:Int))]) (λN k=>?_) ?_
 .dsimp only[wS];refine kg (α:=Unit) (λ_=>[some (.int (a.natAbs:Int)),some (.int (b.natAbs:Int))]) (λ_=>True) (λ_=>0) () rfl trivial ?_;rintro _ _;fin2;refine gj (λz=>?_) (λ_=>k _ rfl);have:=Dx z;lia
 rintro _ rfl;fin2;refine kg (α:=Int×Int) (λx=>[some (.int x.1),some (.int x.2)]) (λx=>AS x.1 x.2=AS a b/\0<=x.1/\0<=x.2) (λx=>x.2.natAbs) (a.natAbs,b.natAbs) rfl ⟨u,cZ _,cZ _⟩ ?_;rintro⟨x,y⟩ ⟨i,s,d⟩;dsimp only at i s d;fin2;refine gj (λj=>?_) (λj=>?_)
 .have g:y≠0:=by simpa using j
  have o:=pQ x y (x.fdiv y);have l:=EW x y g;have f:=fm (x:=x) (n:=y) (by clear l o g;lia);rw[<-Num.fmod_eq]at o l;fin2;exact⟨g,rfl,(y,x.fmod y),rfl,⟨o.trans i,d,f.1⟩,l⟩
 .have g:y=0:=by simpa using j
  subst g;fin2;have e:x=((AS a b:Nat):Int):=by rw[<-i,Ni];lia
  rw[e];exact t
end VL
namespace L2
open PySem
theorem uv{r:Nat}:Builtin.Range.rangeSize ((r:Int) -1) (-1) (-1)=(r:Int):=by
 unfold Builtin.Range.rangeSize;rw[Bz (by decide)];split
 .show((r:Int) -1 - -1 -1)/1+1=_;lia
 .lia
theorem z8{r:Nat}(h:r<=1000):Builtin.Range.small ((r:Int) -1) (-1) (-1)=true:=by
 unfold Builtin.Range.small;rw[uv];have f:∀x:Int,-2000<=x->x<=2000->Builtin.Range.rangeFitsLong x=true:=λx b a=>by unfold Builtin.Range.rangeFitsLong;simp;lia
 rw[f _ (by lia) (by lia),f _ (by lia) (by lia),f _ (by lia) (by lia),Bz (by decide),f (-1+(-1+1)) (by decide) (by decide)];simp
end L2
namespace VL
open PySem PySem.Spec
open PyProof.Rows hiding St
open L2 Num
theorem RT{a:List Rat}{i:Nat}(h:(a.map wq)[i]?=some w):∃x,a[i]?=some x/\w=wq x:=by
 rw[FR]at h;cases e:a[i]? with
 |none=>rw[e]at h;cases h
 |some x=>rw[e]at h;cases h;exact⟨x,rfl,rfl⟩
structure Clr(rs:List Rat)(ns:List Int)(B:Int):Prop where
 pos:0<B
 eq:ns=rs.map λx=>x.num*(B/x.den)
 dv:∀x∈rs,(x.den:Int)∣B
noncomputable def nD:List CS:=[.set 1 (.int 1),.fr [2] true (.var 0) [.set 3 (.ix (.var 2) (.int 1)),.iff (.cmp .NotEq (.bin .Mod (.var 1) (.var 3)) (.int 0)) [.set 1 (.bin .Mult (.bin .FloorDiv (.var 1) (.call 0 [(.var 1),(.var 3)])) (.var 3))] []],.ret (.tup [(.comp [0] true 1 (.var 0) (.bl true) (.bin .Mult (.ix (.var 0) (.int 0)) (.bin .FloorDiv (.var 2) (.ix (.var 0) (.int 1))))),(.var 1)])]
def rC:aV:=λc Q _=>∃(a:List Rat)(D:Int)(n k:Nat),c=[jG a]/\((∀x∈a,Cd D n x)/\0<D/\D.natAbs<2^k/\k<=6000/\n<=100000/\a.length<=100)/\∀(b:List Int)(B:Int),Clr a b B->B∣D->B.natAbs<2^k->(∀x∈b,x.natAbs<2^n)->Q (.tup [wI b,.int B])
theorem Dw(O:List W)(Q:W->Prop)(R:Addr->Prop)(h:rC O Q R):wSs (bI [Dv]) G nD (bC m Q R) (aj 4 O):=by
 obtain⟨o,D,n,k,rfl,⟨F,hD,hDk,hk,hn,hl⟩,hq⟩:=h;have a:∀y:Int,0<y->y∣D->y.natAbs<2^k:=λy I H=>by have:=eJ hD H;lia
 show wSs _ _ nD _ [some (jG o),none,none,none];unfold nD;dsimp only[wSs,wS,wE,look,iz];unfold jG;fin2;refine aP (λi U=>∃B o2 o3,(0<B/\B∣D/\∀j x,j<i->o[j]?=some x->(x.den:Int)∣B)/\U=[some (.lst (o.map wq)),some (.int B),o2,o3]) ⟨1,none,none,⟨by decide,fz _,λj x h=>by lia⟩,rfl⟩ ?_ ?_
 .rintro i w _ N Y ⟨B,o2,o3,⟨d,b,u⟩,rfl⟩ hN;obtain⟨x,c,rfl⟩:=RT Y;have t:=Mo c;have S:=(F x t).dvd.1;have p:0<(x.den:Int):=by have:=x.den_pos;lia
  have v:=a _ p S;have T:=a _ d b;have f:∀q:Int,0<q->q∣D->B∣q->(x.den:Int)∣q->N [some (.lst (o.map wq)),some (.int q),some (wq x),some (.int x.den)]:=λq I H h3 h4=>
   hN _ ⟨q,_,_,⟨I,H,λj z l hz=>by
    by_cases C:j=i
    .subst C;rw[c]at hz;cases hz;exact h4
    .exact N0 (u j z (by lia) hz) h3⟩,rfl⟩
  fin2;refine⟨_,rfl,?_⟩;fin2;refine⟨G7 x,?_⟩;by_cases hz:B.fmod x.den=0
  .rw[Fn hz];fin2;refine f B d b (Rn _) (Int.dvd_of_fmod_eq_zero hz)
  .rw[IR hz];fin2;have hg:((AS B x.den:Nat):Int)<=x.den:=eJ p (SB ..);have r:0<((AS B x.den:Nat):Int):=by have:0<AS B x.den:=vw _ (by lia);lia
   have s:((AS B x.den:Nat):Int)∣B:=eD ..;have Zz:((AS B x.den:Nat):Int)∣(x.den:Int):=SB ..;have ZA:=E3 (G7 x) b S;refine⟨B,x.den,k,rfl,v,hk,?_⟩;generalize((AS B x.den:Nat):Int)=g at*;have X:g.natAbs<2^k:=by lia
   have A:0<B/g:=xI d (TK r) s;have Z:B/g<=B:=SW _ (TK d);have M:(B/g).natAbs<2^k:=by lia
   fin2;rw[Iy _ (TK r)];refine⟨⟨by lia,eH X (by lia)⟩,aF M v (by lia),f _ (eP A p) ZA ?_ ⟨B/g,ar _ _⟩⟩;obtain⟨j,l⟩:=Zz;refine⟨j,?_⟩;rw[l,<-Yf,vi s]
 .rintro _ ⟨B,o2,o3,⟨d,b,u⟩,rfl⟩;rw[Bi]at u;have J:∀x∈o,(x.den:Int)∣B:=λx c=>by obtain⟨j,l,e⟩:=UF c;exact u j x l (by rw[<-e];exact D2 l)
  have T:=a _ d b;have P:∀x∈o,(x.num*(B/x.den)).natAbs<2^n:=λx t=>by
   have E:=J x t;have e:=(F x t).dvd;obtain⟨j,l⟩:=b;have e2:D/x.den=B/x.den*j:=by rw[l];exact Int.mul_ediv_assoc' _ E|>λh=>by rw[<-h]
   have j0:j≠0:=λz=>by rw[z,T1]at l;lia
   refine HI ?_ e.2;rw[e2,<-Yf,GT (x.num*(B/x.den)) j];exact UV _ (by lia)
  fin2;refine cH (h:=wq) (g:=λx=>.int (x.num*(B/x.den))) o [] _ (λx c K hK=>?_) (af (by simpa using Do hl (by decide))) ?_
  .have p:0<(x.den:Int):=by have:=x.den_pos;lia
   have v:=a _ p (F x c).dvd.1;have L:=P x c;have q0:0<B/x.den:=xI d (TK p) (J x c);have M:(B/x.den).natAbs<2^k:=by have I:=SW (x.den:Int) (TK d);lia
   have ZD:x.num.natAbs<2^n:=by refine HI ?_ L;rw[GT];exact UV _ (by lia)
   refine⟨_,rfl,_,rfl,⟨G7 x,eH v (by lia)⟩,?_⟩;fin2;rw[Iy _ (TK p)];exact⟨aF ZD M (by lia),hK⟩
  .refine⟨af (by simp),?_⟩;have:=hq _ B ⟨d,rfl,J⟩ b T (λz hz=>by obtain⟨x,c,rfl⟩:=OF.mp hz;exact P x c);unfold wI at this;rw[U2]at this;exact this
noncomputable def jb:List CS:=[.set 1 (.int 0),.fr [2] true (.var 0) [.set 1 (.call 0 [(.var 2),(.var 1)]),.iff (.cmp .Eq (.var 1) (.int 1)) [.ret (.tup [(.int 1),(.blt .list [(.var 0)])])] []],.ret (.tup [(.var 1),(.comp [0] true 1 (.var 0) (.bl true) (.bin .FloorDiv (.var 0) (.var 2)))])]
structure Srt(ns:List Int)(c:Int)(ms:List Int):Prop where
 pos:0<c
 dv:∀x∈ns,c∣x
 all:∀d:Int,(∀x∈ns,d∣x)->d∣c
 eq:ms=ns.map (·/c)
def iy:aV:=λd Q _=>∃(a:List Int)(n:Nat),d=[wI a]/\((∃x∈a,x≠0)/\a.length<=500/\n<=6000/\∀x∈a,x.natAbs<2^n)/\∀c b,Srt a c b->c.natAbs<2^n->Q (.tup [.int c,wI b])
theorem yq(s:List W)(Q:W->Prop)(R:Addr->Prop)(h:iy s Q R):wSs (bI [Dv]) G jb (bC m Q R) (aj 3 s):=by
 obtain⟨a,n,rfl,⟨⟨F,S,H⟩,o,I,J⟩,u⟩:=h;show wSs _ _ jb _ [some (wI a),none,none];unfold jb;dsimp only[wSs,wS,wE,look,iz];unfold wI at*;fin2;refine aP (λi E=>∃(c:Int)(o2:Option W),(0<=c/\(∀j,j<i->j<a.length->c∣a.getD j 0)/\(∀d:Int,(∀x∈a,d∣x)->d∣c)/\c.natAbs<2^n)/\E=[some (.lst (a.map W.int)),some (.int c),o2]) ⟨0,none,⟨by decide,λj h=>by lia,λd _=>zzc d,TB (by decide)⟩,rfl⟩ ?_ ?_
 .rintro i w _ N l ⟨c,o2,⟨r,f,p,k⟩,rfl⟩ L;have y:i<a.length:=by have:=(Fu.mp l).1;simpa using this
  rw[int_at y]at l;cases l;have v:a.getD i 0∈a:=Sub.getD_mem' y;fin2;refine⟨a.getD i 0,c,n,rfl,k,I,?_⟩;have O:((AS (a.getD i 0) c:Nat):Int)∣a.getD i 0:=eD ..;have C:((AS (a.getD i 0) c:Nat):Int)∣c:=SB ..;have B:∀d:Int,(∀x∈a,d∣x)->d∣((AS (a.getD i 0) c:Nat):Int):=λd h=>e9 (h _ v) (p d h);have A:((AS (a.getD i 0) c:Nat):Int).natAbs<2^n:=by
   rcases cc r with q|q
   .have:=eJ q C;lia
   .rw[<-q,Ni];have:=J _ v;lia
  have P:0<=((AS (a.getD i 0) c:Nat):Int):=by lia
  generalize((AS (a.getD i 0) c:Nat):Int)=g at*;have dv:∀j,j<i+1->j<a.length->g∣a.getD j 0:=λj b o=>by
   by_cases e:j=i
   .subst e;exact O
   .exact N0 C (f j (by lia) o)
  fin2;by_cases e:g=1
  .rw[Fn e];fin2;subst e;have:=u 1 a ⟨by decide,λx _=>fz x,B,by simp⟩ A;exact⟨af (by simp),this⟩
  .rw[IR e];fin2;exact L _ ⟨g,_,⟨P,dv,B,A⟩,rfl⟩
 .rintro _ ⟨c,o2,⟨r,f,p,k⟩,rfl⟩;rw[Bi]at f;have dv:∀x∈a,c∣x:=λx t=>by obtain⟨j,b,e⟩:=UF t;have:=f j b b;rw[AC,D2 b]at this;rw[<-e];exact this
  have D:0<c:=by
   rcases cc r with z|z
   .exact z
   .have:=dv F S;rw[<-z,fg]at this;exact absurd this H
  fin2;refine cH (h:=W.int) (g:=λx=>.int (x/c)) a [] _ (λx t K M=>?_) (af (by simpa using Do o (by decide))) ?_
  .fin2;rw[Iy _ (TK D)];exact⟨⟨by lia,eH k (by lia)⟩,M⟩
  .refine⟨af (by simp),?_⟩;have:=u c _ ⟨D,dv,p,rfl⟩ k;rw[U2]at this;exact this
noncomputable def jc:List CS:=[.ua [1,2] (.call 0 [(.var 0)]),.ua [3,1] (.call 1 [(.var 1)]),.ret (.tup [(.var 1),(.var 2),(.var 3)])]
structure Prim(rs:List Rat)(ms:List Int)(B c:Int):Prop where
 bpos:0<B
 cpos:0<c
 len:ms.length=rs.length
 at_:∀i,(ms.getD i 0:Rat)*c=rs.getD i 0*B
 one:∀d:Int,(∀x∈ms,d∣x)->d∣1
def iA:aV:=λd Q _=>∃(a:List Rat)(D:Int)(n k:Nat),d=[jG a]/\((∃x∈a,x≠0)/\(∀x∈a,Cd D n x)/\0<D/\D.natAbs<2^k/\k<=6000/\n<=6000/\a.length<=100)/\∀(b:List Int)(B c:Int),Prim a b B c->B.natAbs<2^k->c.natAbs<2^n->(∀x∈b,x.natAbs<2^n)->Q (.tup [wI b,.int B,.int c])
theorem uw{α:Type}{l:List α}{f:α->Int}{x:α}(h:l[i]?=some x):(l.map f).getD i 0=f x:=by rw[AC,FR,h];rfl
theorem Lr(f:Clr a ns B)(b:Srt ns c ms):Prim a ms B c:=by
 have n:ns.length=a.length:=by rw[f.eq,Bi]
 have m:ms.length=a.length:=by rw[b.eq,Bi,n]
 refine⟨f.pos,b.pos,m,λi=>?_,λd p=>?_⟩
 .by_cases o:i<a.length
  .have j:=D2 o;have t:ns.getD i 0=a[i].num*(B/a[i].den):=by rw[f.eq];exact uw j
   have en:ns[i]?=some (ns.getD i 0):=by rw[AC,D2 (by lia)];rfl
   have s:ms.getD i 0=ns.getD i 0/c:=by rw[b.eq];exact uw en
   have u:=b.dv _ (Mo en);have:ms.getD i 0*c=ns.getD i 0:=by rw[s];exact vi u
   have r:((ms.getD i 0:Int):Rat)*(c:Rat)=((ns.getD i 0:Int):Rat):=by rw[<-this,BM]
   rw[r,t];have q:a.getD i 0=a[i]:=by rw[AC,j];rfl
   rw[q];exact gA (f.dv _ (d5 _))
  .have l:ms.getD i 0=0:=by rw[AC,Gc (by lia)];rfl
   have k:a.getD i 0=0:=by rw[AC,Gc (by lia)];rfl
   rw[l,k];show((0:Int):Rat)*_=0*_;grind
 .have:=b.all (d*c) λx h=>by have e:=p (x/c) (by rw[b.eq];exact OF.mpr ⟨x,h,rfl⟩);obtain⟨y,g⟩:=e;refine⟨y,?_⟩;rw[<-vi (b.dv x h),g];grind
  obtain⟨y,g⟩:=this;refine⟨y,?_⟩;have v:=b.pos;have:c*1=c*(d*y):=by rw[eC];rw[ar c,Yf,ar y c,<-Yf];exact g
  exact QQ (by lia) this
theorem yr(g:List W)(Q:W->Prop)(R:Addr->Prop)(h:iA g Q R):wSs (bI [rC,iy]) G jc (bC m Q R) (aj 4 g):=by
 obtain⟨e,D,n,k,rfl,⟨⟨a,p,q⟩,A,C,f,w,u,v⟩,t⟩:=h;show wSs _ _ jc _ [some (jG e),none,none,none];unfold jc;fin2;refine⟨e,D,n,k,rfl,⟨A,C,f,w,by lia,v⟩,λi B b J H o=>?_⟩;refine⟨rfl,?_⟩;fin2;have I:i.length=e.length:=by rw[b.eq,Bi]
 refine⟨i,n,rfl,⟨⟨a.num*(B/a.den),by rw[b.eq];exact OF.mpr ⟨a,p,rfl⟩,?_⟩,by lia,u,o⟩,λc r l F=>?_⟩
 .have d:=b.dv a p;have E:0<(a.den:Int):=by have:=a.den_pos;lia
  have:0<B/a.den:=xI b.pos (TK E) d;exact Kt (λz=>q (Tf.mp z)) (by lia)
 .refine⟨rfl,?_⟩;fin2;refine⟨af (by simp),t r B c (Lr b l) H F λx j=>?_⟩;rw[l.eq]at j;obtain⟨y,s,rfl⟩:=OF.mp j;have:=aw y c;have:=o y s;lia
noncomputable def gq:List CS:=[.iff (.cmp .Eq (.var 2) (.int 0)) [.ret (.var 0)] [],.ret (.bin .FloorDiv (.call 0 [(.var 1),(.var 2)]) (.call 0 [(.var 0),(.bin .Sub (.var 2) (.int 1))]))]
def iB:aV:=λb Q _=>∃(h l:Int)(a n:Nat),b=[.int h,.int l,.int a]/\(h.natAbs<2^n/\l.natAbs<2^n/\n*(a+1)<=130000000/\(0<a->h^(a -1)≠0/\(h^(a -1)).natAbs.log2<1000000000))/\Q (.int (Sub.hnext h l a))
theorem sI(c:List W)(Q:W->Prop)(R:Addr->Prop)(h:iB c Q R):wSs (bI [oU]) G gq (bC m Q R) (aj 3 c):=by
 obtain⟨h,l,a,n,rfl,⟨k,j,d,f⟩,b⟩:=h;show wSs _ _ gq _ [some (.int h),some (.int l),some (.int a)];unfold gq;fin2;by_cases z:(a:Int)=0
 .rw[Fn z];fin2;have e:Sub.hnext h l a=h:=by unfold Sub.hnext;rw[D1 (by lia)]
  rw[e]at b;exact b
 .rw[IR z];fin2;obtain⟨i,g⟩:=f (by lia);have e:Sub.hnext h l a=(l^a).fdiv (h^(a -1)):=by unfold Sub.hnext;rw[Bz (by lia)]
  rw[e]at b;refine⟨l,a,n,rfl,j,d,?_⟩;rw[show(a:Int) -1=((a -1:Nat):Int) by lia];refine⟨h,a -1,n,rfl,k,Do (Fk _ (by lia)) d,?_⟩;fin2;exact⟨⟨i,g⟩,b⟩
theorem z9(h:x<2^n)(a:n<=m):x<2^m:=Fm h (Ha (by decide) a)
theorem Hh{a b:Int}(d:a.natAbs<n)(c:b.natAbs<n):(a -b).natAbs<2*n:=by have:=dV a b;lia
theorem ZE(h:p<i):i -p=(i -(p+1))+1:=by lia
theorem iC{ns:List Int}(h:∀x∈ns,x.natAbs<2^n)(k:Nat):(ns.getD k 0).natAbs<2^n:=by
 by_cases a:k<ns.length
 .rw[AC,D2 a];exact h _ (d5 a)
 .rw[outI (by lia)];exact TB (by decide)
theorem yt{ns:List Int}(h:0<ns.length):jQ (ns.map W.int) (-1)=some (.int (ns.getD (ns.length -1) 0)):=by refine nj ?_;rw[KM,Bi,int_at (by omega)]
theorem rD(h:k<n):(tabI n f).getD k 0=f k:=by rw[AC,eY h];rfl
theorem B8(n:Nat)(f:Nat->Int)(k:Nat):(tabI n f).getD k 0=if k<n then f k else 0:=by
 by_cases h:k<n
 .rw[D1 h,rD h]
 .rw[Bz h];exact outI (by rw[bD];lia)
theorem rE(h:x∈tabI n f):∃k,k<n/\x=f k:=by unfold tabI at h;obtain⟨k,a,rfl⟩:=OF.mp h;exact⟨k,wx.mp a,rfl⟩
theorem jd(h:∀k,k<n->f k=g k):tabI n f=tabI n g:=by unfold tabI;exact kS λk a=>h k (wx.mp a)
theorem yu(n:Nat)(x:Int):B1 n (W.int x)=(tabI n λ_=>x).map W.int:=by unfold tabI;rw[TQ,de,My]
theorem nE(ns:List Int)(h:ns.length=n):ns=tabI n λk=>ns.getD k 0:=by
 refine ma λj=>?_;by_cases a:j<n
 .rw[eY a,AC,D2 (by lia)];rfl
 .rw[Gc (by lia),Gc (by rw[bD];lia)]
theorem B9{r n s:Nat}(h:(gF ((r:Int) -1) (-1) n)[s]?=some w):s<n/\w=.int ((r:Int) -1 -s):=by unfold gF at h;rw[FR]at h;obtain⟨j,e,rfl⟩:=L9.mp h;obtain⟨b,a⟩:=Fu.mp e;rw[ba]at a;rw[de]at b;refine⟨b,?_⟩;rw[<-a];congr 1;lia
theorem rF(lo st:Int)(n:Nat):(gF lo st n).length=n:=by unfold gF;simp
theorem uy{r:Nat}(h:r<=1000)(q:Q (gF ((r:Int) -1) (-1) r)):vn [.int ((r:Int) -1),.int (-1),.int (-1)] Q:=
 ⟨r,⟨by decide,by decide,z8 h,uv⟩,q⟩
theorem Ca{R:List Int}(h:0<R.length):∃a x,R=a++[x]:=
 ⟨R.dropLast,R.getLast (λz=>by rw[z]at h;cases h),(ui _).symm⟩
theorem pop_at:((a++[x]).map W.int)[((a++[x]).map W.int).length -1]?=some (.int x):=by simp
theorem Hi:((a++[x]).map W.int).dropLast=a.map W.int:=by simp
noncomputable def eK:List CS:=[.set 2 (.blt .max2 [(.bin .Add (.bin .Sub (.blt .len [(.var 0)]) (.blt .len [(.var 1)])) (.int 1)),(.int 0)]),.set 3 (.ix (.var 1) (.neg (.int 1))),.set 4 (.blt .list [(.var 0)]),.set 5 (.bin .Mult (.lst [(.int 0)]) (.var 2)),.fr [6] true (.jN [(.bin .Sub (.var 2) (.int 1)),(.neg (.int 1)),(.neg (.int 1))]) [.jZ 7 (.pop 4),.put 5 (.var 6) (.var 7),.set 4 (.call 0 [(.var 4),(.var 3)]),.fr [8] true (.jN [(.bin .Sub (.blt .len [(.var 1)]) (.int 1))]) [.put 4 (.bin .Add (.var 6) (.var 8)) (.bin .Sub (.ix (.var 4) (.bin .Add (.var 6) (.var 8))) (.bin .Mult (.var 7) (.ix (.var 1) (.var 8))))]],.set 9 (.int 1),.fr [6] true (.jN [(.var 2)]) [.put 5 (.var 6) (.bin .Mult (.ix (.var 5) (.var 6)) (.var 9)),.set 9 (.bin .Mult (.var 9) (.var 3))],.ret (.tup [(.var 5),(.call 1 [(.var 4)]),(.var 9)])]
structure RU(ns ms:List Int)(N M:Nat)(Qs R:List Int):Prop where
 Wy:Qs.length=ns.length+1 -ms.length
 Wz:R.length<ms.length
 eq:∀k,(ms.getD (ms.length -1) 0)^(ns.length+1 -ms.length)*ns.getD k 0=jT (λi=>Qs.getD i 0) (λi=>ms.getD i 0) k+R.getD k 0
 bQ:∀x∈Qs,x.natAbs<2^(N+(ns.length+1 -ms.length)*(M+1))
 bR:∀x∈R,x.natAbs<2^(N+(ns.length+1 -ms.length)*(M+1))
 last:R=[]\/R.getD (R.length -1) 0≠0
def fZ:aV:=λd Q _=>∃(b a:List Int)(N M:Nat),d=[wI b,wI a]/\(0<a.length/\b.length<=100/\a.length<=100/\(∀x∈b,x.natAbs<2^N)/\(∀x∈a,x.natAbs<2^M)/\∃K,b.length<K/\N+K*(M+1)<=100000000)/\
 ∀c R:List Int,RU b a N M c R->Q (.tup [wI c,wI R,.int ((a.getD (a.length -1) 0)^(b.length+1 -a.length))])
theorem oq(ws:List W)(Q:W->Prop)(R:Addr->Prop)(h:fZ ws Q R):wSs (bI [ic,lU]) G eK (bC m Q R) (aj 10 ws):=by
 obtain⟨A,b,N,M,rfl,⟨lm,la,lb,bn,bm,K,hK,hNM⟩,q⟩:=h;show wSs _ _ eK _ [some (wI A),some (wI b),none,none,none,none,none,none,none,none];unfold eK wI;fin2;have eR:(if(0:Int)>((A.map W.int).length:Int) -((b.map W.int).length:Int)+1 then(0:Int)else((A.map W.int).length:Int) -((b.map W.int).length:Int)+1)=((A.length+1 -b.length:Nat):Int):=by rw[Bi,Bi];split<;>lia
 have bL:=iC bm (b.length -1);have eL:=yt lm;have c:∀s,s<=A.length+1 -b.length->s*(M+1)<=K*(M+1):=λs r=>X9 _ (by lia);rw[eR];have XM:(b.map W.int).length=b.length:=Bi _;generalize hl:b.getD (b.length -1) 0=l at*;generalize kh:A.length+1 -b.length=a at*;refine⟨_,eL,?_⟩;fin2;rw[Gg,gJ,yu];refine⟨af (by simp),by lia,by lia,af (by simp;lia),?_⟩;refine uy (by lia) ?_;fin2;refine aP (λs Y=>∃(R:List Int)(r J:Nat->Int)(L v7 E:Option W),(zy A b l s J R/\R.length=A.length -s/\(∀x∈R,x.natAbs<2^(N+s*(M+1)))/\(∀i,i<a->a -s<=i->J i=r i*l^(i -(a -s))/\(r i).natAbs<2^(N+(a -1 -i)*(M+1)))/\(∀i,(i<a -s\/a<=i)->J i=0))/\Y=[some (.lst (A.map W.int)),some (.lst (b.map W.int)),some (.int a),some (.int l),some (.lst (R.map W.int)),some (.lst ((tabI a r).map W.int)),L,v7,E,none]) ⟨A,λ_=>0,λ_=>0,none,none,none,⟨zy.start A b l,by lia,λx hx=>by rw[Xl];exact bn x hx,λi h1 h2=>by lia,λ_ _=>rfl⟩,rfl⟩ ?_ ?_
 .rintro s w _ N1 hw ⟨R,S,J,L,v7,E,⟨dv,Z,bR,H,hz⟩,rfl⟩ cX;obtain⟨r,rfl⟩:=B9 hw;have hp:((a:Nat):Int) -1 -(s:Int)=((a -1 -s:Nat):Int):=by lia
  rw[hp];generalize hpp:a -1 -s=p at*;have O:a=p+s+1:=by lia
  obtain⟨d,C⟩:∃d,b.length=d+1:=⟨_,(XN lm).symm⟩;have hn:A.length=p+d+(s+1):=by lia
  have bs:=c s (SZ r);have bs1:=c (s+1) r;clear hpp hp kh;have r2:a -s=p+1:=by rw[O,wt,On]
  have r1:a -(s+1)=p:=by rw[O];exact On p (s+1)
  have T:p+b.length -1=p+d:=by rw[C];rfl
  have U:R.length=p+b.length:=by rw[Z,hn,C,<-oo,wt,On];rfl
  obtain⟨o,x,rfl⟩:=Ca (R:=R) (by rw[U,C];exact ew _);have X:o.length=p+d:=by rw[KB,C]at U;exact WB U
  have ex:(o++[x]).getD (p+d) 0=x:=by rw[AC,NM (n4 X),X,vk];rfl
  have eg:∀k,k<p+d->(o++[x]).getD k 0=o.getD k 0:=λk B=>by rw[AC,QP (by rw[X];exact B),<-AC]
  have bx:x.natAbs<2^(N+s*(M+1)):=bR x (NA _ (Fh.mpr rfl));have bR0:∀y∈o,y.natAbs<2^(N+s*(M+1)):=λy F=>bR y (il _ F);fin2;refine⟨_,pop_at,?_⟩;rw[Hi];fin2;refine⟨p,i9 (by rw[Bi,bD,O];exact xc (W1 _ _)),?_⟩;have et:=fY (n:=a) (f:=S) (g:=λk=>if k=p then x else S k) (k:=p) (by rw[O];exact xc (W1 _ _)) (λj _ hj=>Bz hj);rw[D1 rfl]at et;rw[<-lj,et];refine⟨o,l,rfl,by lia,λy F=>aF bL (bR0 y F) (by clear et bx ex X U Z T r1 r2;lia),?_⟩;have em:(o.map λy=>l*y)=tabI (p+d) λk=>l*o.getD k 0:=by
   conv=>lhs;rw[nE o X]
   unfold tabI;rw[U2];rfl
  rw[em];unfold wI;fin2;rw[XM];refine⟨by lia,by lia,?_⟩;rw[show((b.length:Int) -1).toNat=d by rw[C];lia];refine aP (λj Y=>∃(E:Option W),Y=[some (.lst (A.map W.int)),some (.lst (b.map W.int)),some (.int a),some (.int l),some (.lst ((tabI (p+d) λk=>if p<=k/\k<p+j then l*o.getD k 0 -x*b.getD (k -p) 0 else l*o.getD k 0).map W.int)),some (.lst ((tabI a λk=>if k=p then x else S k).map W.int)),some (.int p),some (.int x),E,none]) ⟨E,?_⟩ ?_ ?_
  .rw[jd (n:=p+d) (f:=λk=>if p<=k/\k<p+0 then l*o.getD k 0 -x*b.getD (k -p) 0 else l*o.getD k 0) λk _=>Bz (show¬(p<=k/\k<p+0)from λz=>Xt _ (Fm z.2 z.1))]
  .rintro j w _ N2 r8 ⟨E,rfl⟩ z7;obtain⟨hj,rfl⟩:=fX r8;have ix:p+j<p+d:=bN hj p;fin2;rw[show(p:Int)+(j:Int)=((p+j:Nat):Int) by lia];refine⟨_,cD (by rw[FR,eY ix];rfl),?_⟩;rw[Bz (show¬(p<=p+j/\p+j<p+j)from λz=>Xt _ z.2)];refine⟨_,cD (int_at (by rw[C];exact fo hj)),?_⟩;fin2;refine⟨aF bx (iC bm j) (by clear ix r8 hj em et bx ex X U Z T r1 r2;lia),p+j,i9 (by rw[Bi,bD];exact ix),z7 _ ⟨some (.int j),?_⟩⟩;have e:=fY (n:=p+d) (f:=λk=>if p<=k/\k<p+j then l*o.getD k 0 -x*b.getD (k -p) 0 else l*o.getD k 0) (g:=λk=>if p<=k/\k<p+(j+1)then l*o.getD k 0 -x*b.getD (k -p) 0 else l*o.getD k 0) ix (λk _ B=>by
    by_cases t:p<=k/\k<p+j
    .rw[D1 t,D1 ⟨t.1,fo t.2⟩]
    .rw[Bz t,Bz λz=>t ⟨z.1,rg (cg z.2) B⟩])
   rw[D1 ⟨W1 _ _,Qr _⟩,cw]at e;rw[<-e,lj]
  .rintro _ ⟨E,rfl⟩;rw[rF];refine cX _ ⟨_,λk=>if k=p then x else S k,λi=>l*J i+if i=p then(o++[x]).getD (p+b.length -1) 0 else 0,_,_,_,⟨dv.step lm hl.symm U (R':=tabI (p+d) λk=>if p<=k/\k<p+d then l*o.getD k 0 -x*b.getD (k -p) 0 else l*o.getD k 0) (by rw[bD,T]) (λk B=>?_),by rw[bD,hn,On],λy F=>?_,λi h1 h2=>?_,λi h=>?_⟩,rfl⟩
   .rw[T]at B;rw[rD B,T,ex,eg k B];by_cases I:p<=k
    .rw[D1 ⟨I,B⟩,D1 I]
    .rw[Bz λz=>I z.1,Bz I,zzb]
   .obtain⟨k,B,rfl⟩:=rE F;have c1:(l*o.getD k 0).natAbs<2^(M+(N+s*(M+1))):=by rw[GT];exact lt_mul bL (iC bR0 k)
    have c2:(x*b.getD (k -p) 0).natAbs<2^(M+(N+s*(M+1))):=by rw[GT,ag];exact lt_mul (iC bm _) bx
    have c3:2^(N+(s+1)*(M+1))=2*2^(M+(N+s*(M+1))):=by rw[xk,Zi,show N+(s*(M+1)+(M+1))=(M+(N+s*(M+1)))+1 by lia,El];lia
    rw[c3];split
    .exact Hh c1 c2
    .exact Fm c1 (sT _ (by decide))
   .show l*J i+(if i=p then _ else 0)=(if i=p then x else S i)*l^(i -(a -(s+1)))/\(if i=p then x else S i).natAbs<_;rw[r1]at h2⊢;rw[r2]at H hz;by_cases P:i=p
    .rw[D1 P,D1 P,hz i (.inl (by rw[P];exact Qr p)),T,ex,P,vk,PP];refine⟨by rw[T1,zza,eC],?_⟩;rw[show a -1 -p=s by rw[O];exact cw p s];exact bx
    .have pi:=rg h2 (gN P);have hh:=H i h1 pi;rw[Bz P,Bz P,hh.1,ZE pi,Hb];exact⟨by grind,hh.2⟩
   .show l*J i+(if i=p then _ else 0)=0;rw[r1,O]at h;rw[Bz (by clear dv H hz bs bs1;lia),hz i (by rw[r2,O];clear dv H hz bs bs1;lia),T1];rfl
 .rintro _ ⟨R,r,J,L,v7,E,⟨dv,Z,bR,H,hz⟩,rfl⟩;rw[rF]at dv Z bR H hz;have brr:=c a (by lia);fin2;refine⟨by lia,by lia,?_⟩;rw[Gg];refine aP (λj Y=>∃(L:Option W),Y=[some (.lst (A.map W.int)),some (.lst (b.map W.int)),some (.int a),some (.int l),some (.lst (R.map W.int)),some (.lst ((tabI a λk=>if k<j then r k*l^k else r k).map W.int)),L,v7,E,some (.int (l^j))]) ⟨L,?_⟩ ?_ ?_
  .rw[PP,jd (n:=a) (f:=λk=>if k<0 then r k*l^k else r k) λk _=>Bz (Nat.not_lt_zero k)]
  .rintro j w _ N2 r8 ⟨L,rfl⟩ z7;obtain⟨D,rfl⟩:=fX r8;have bh:=(H j D (by lia)).2;have bp:=E4 (i:=j) bL;have bp2:(l^j).natAbs<2^(M*j+1):=by
    have:2^(M*j+1)=2*2^(M*j):=by rw[El];lia
    have:0<2^(M*j):=TB (by decide);lia
   have k1:=c (a -1 -j+j) (by lia);rw[xk]at k1;have k2:M*j<=j*(M+1):=by rw[ag];exact Fk _ (xi M)
   have k4:=c (j+1) D;rw[xk,Zi]at k4;fin2;refine⟨_,cD (by rw[FR,eY D];rfl),?_⟩;rw[Bz (Xt j)];fin2;refine⟨aF bh bp2 (by clear k4;generalize j*(M+1)=u at*;generalize(a -1 -j)*(M+1)=v at*;generalize K*(M+1)=z at*;lia),j,i9 (by rw[Bi,bD];exact D),aF bp2 bL (by clear k1;generalize j*(M+1)=u at*;generalize K*(M+1)=z at*;lia),?_⟩;have e:=fY (n:=a) (f:=λk=>if k<j then r k*l^k else r k) (g:=λk=>if k<j+1 then r k*l^k else r k) D (λk _ B=>by
    by_cases t:k<j
    .rw[D1 t,D1 (by lia)]
    .rw[Bz t,Bz (by lia)])
   rw[D1 (Qr j)]at e;rw[<-lj,e];refine z7 _ ⟨some (.int j),?_⟩;rw[Hb]
  .rintro _ ⟨L,rfl⟩;rw[rF];fin2;refine⟨R,rfl,λts tr=>?_⟩;refine⟨af (by simp),?_⟩;have tl:=xE tr;have eqf:∀i,J i=(tabI a λk=>if k<a then r k*l^k else r k).getD i 0:=λi=>by
    rw[B8];by_cases hi:i<a
    .rw[D1 hi,D1 hi,(H i hi (by lia)).1,show i -(a -a)=i by lia]
    .rw[Bz hi,hz i (by lia)]
   refine q _ ts ⟨?_,by lia,λk=>?_,λy F=>?_,λy F=>?_,tr.last⟩
   .rw[bD,kh]
   .rw[kh,hl,dv k,Jx tr];congr 2;exact funext eqf
   .obtain⟨k,B,rfl⟩:=rE F;rw[D1 B,GT,kh];refine z9 (Jy (H k B (by lia)).2 (E4 (i:=k) bL)) ?_;have e:a*(M+1)=(a -1 -k)*(M+1)+(k+1)*(M+1):=by rw[<-xk,show a -1 -k+(k+1)=a by lia]
    have e2:M*k<=(k+1)*(M+1):=by rw[ag];exact QR (by lia) (by lia)
    lia
   .rw[kh];exact bR y (tr.mem y F)
end VL
namespace L2
open PySem
end L2
namespace VL
open PySem PySem.Spec
open PyProof.Rows hiding St
open L2 Num
theorem Hj(b a:List Int)(i k:Nat):cf b a (i+1) k=cf b a i k+b.getD i 0*(if i<=k then a.getD (k -i) 0 else 0):=by rw[xB,xB,sm]
noncomputable def iD:List CS:=[.set 2 (.bin .Add (.bin .Sub (.blt .len [(.var 0)]) (.blt .len [(.var 1)])) (.int 1)),.set 3 (.blt .list [(.var 0)]),.set 4 (.bin .Mult (.lst [(.int 0)]) (.var 2)),.fr [5] true (.jN [(.bin .Sub (.var 2) (.int 1)),(.neg (.int 1)),(.neg (.int 1))]) [.jZ 6 (.bin .FloorDiv (.pop 3) (.ix (.var 1) (.neg (.int 1)))),.put 4 (.var 5) (.var 6),.fr [7] true (.jN [(.bin .Sub (.blt .len [(.var 1)]) (.int 1))]) [.put 3 (.bin .Add (.var 5) (.var 7)) (.bin .Sub (.ix (.var 3) (.bin .Add (.var 5) (.var 7))) (.bin .Mult (.var 6) (.ix (.var 1) (.var 7))))]],.ret (.var 4)]
def je:aV:=λc Q _=>∃(b a Z:List Int)(N:Nat),c=[wI b,wI a]/\(0<a.length/\0<Z.length/\b.length<=100/\b.length+1=Z.length+a.length/\(∀k,b.getD k 0=cf Z a Z.length k)/\a.getD (a.length -1) 0≠0/\N<=60000000/\(∀x∈a,x.natAbs<2^N)/\∀x∈Z,x.natAbs<2^N)/\Q (wI Z)
theorem vN(X:List W)(Q:W->Prop)(R:Addr->Prop)(h:je X Q R):wSs Φ G iD (bC m Q R) (aj 8 X):=by
 obtain⟨r,b,Z,N,rfl,⟨Y,lw,ln,lnm,hW,WA,hN,bm,bW⟩,q⟩:=h;show wSs _ _ iD _ [some (wI r),some (wI b),none,none,none,none,none,none];unfold iD wI;unfold wI at q;have eL:=yt Y;have bL:=iC bm (b.length -1);have XM:(b.map W.int).length=b.length:=Bi _;fin2;rw[Bi,XM,show(r.length:Int) -(b.length:Int)+1=((Z.length:Nat):Int) by lia];generalize kh:Z.length=a at*;rw[Gg,gJ,yu];refine⟨af (by simp),by lia,by lia,af (by simp;lia),?_⟩;refine uy (by lia) ?_;fin2;refine aP (λs H=>∃(R:List Int)(J I y:Option W),(R.length=r.length -s/\(∀k,k<r.length -s->R.getD k 0=cf Z b (a -s) k))/\H=[some (.lst (r.map W.int)),some (.lst (b.map W.int)),some (.int a),some (.lst (R.map W.int)),some (.lst ((tabI a λk=>if a -s<=k then Z.getD k 0 else 0).map W.int)),J,I,y]) ⟨r,none,none,none,⟨rfl,λk _=>by rw[hW k];rfl⟩,?_⟩ ?_ ?_
 .rw[jd (n:=a) (f:=λk=>if a -0<=k then Z.getD k 0 else 0) (g:=λ_=>0) λk u=>(Bz (show¬a -0<=k by lia))]
 .rintro s w _ N1 hw ⟨R,J,I,y,⟨lR,O⟩,rfl⟩ cX;obtain⟨hs,rfl⟩:=B9 hw;have B:((a:Nat):Int) -1 -(s:Int)=((a -1 -s:Nat):Int):=by lia
  rw[B];generalize L:a -1 -s=p at*;have D:a=p+s+1:=by lia
  obtain⟨d,i⟩:∃d,b.length=d+1:=⟨_,(XN Y).symm⟩;have M:r.length=p+d+(s+1):=by lia
  clear L B;have A:r.length -s=p+d+1:=by rw[M,zz6 s 1,<-oo,On]
  have U:R.length=p+b.length:=by rw[lR,A,i];rfl
  have T:a -s=p+1:=by rw[D,wt,On]
  have S:a -(s+1)=p:=by rw[D];exact On p (s+1)
  obtain⟨l,x,rfl⟩:=Ca (R:=R) (by rw[U,i];exact ew _);have F:l.length=p+d:=by rw[KB,i]at U;exact WB U
  have ex:(l++[x]).getD (p+d) 0=x:=by rw[AC,NM (n4 F),F,vk];rfl
  have eg:∀k,k<p+d->(l++[x]).getD k 0=l.getD k 0:=λk u=>by rw[AC,QP (by rw[F];exact u),<-AC]
  have xv:x=Z.getD p 0*b.getD (b.length -1) 0:=by have:=O (p+d) (by rw[A];exact Qr _);rw[ex,T,Hj,kT Z b _ p (by rw[i];exact FC _),D1 (W1 _ _),show p+d -p=b.length -1 by rw[i];exact cw p d,zza]at this;exact this
  have P:=iC bW p;have hv:x.fdiv (b.getD (b.length -1) 0)=Z.getD p 0:=by rw[xv,rl ⟨Z.getD p 0,ar _ _⟩,Int.mul_ediv_cancel _ WA]
  fin2;refine⟨_,pop_at,?_⟩;rw[Hi];fin2;refine⟨_,eL,?_⟩;fin2;refine⟨⟨WA,rj bL (Do hN (by decide))⟩,?_⟩;rw[hv];refine⟨p,i9 (by rw[Bi,bD,D];exact xc (W1 _ _)),?_⟩;have et:=fY (n:=a) (f:=λk=>if a -s<=k then Z.getD k 0 else 0) (g:=λk=>if a -(s+1)<=k then Z.getD k 0 else 0) (k:=p) (by rw[D];exact xc (W1 _ _)) (λj _ E=>by
   rw[T,S];by_cases v:p+1<=j
   .rw[D1 v,D1 (SZ v)]
   .rw[Bz v,Bz λz=>v (rg z (gN E))])
  rw[D1 (n4 S)]at et;rw[<-lj,et,XM];refine⟨by lia,by lia,?_⟩;rw[show((b.length:Int) -1).toNat=d by rw[i];lia];refine aP (λj H=>∃(y:Option W),H=[some (.lst (r.map W.int)),some (.lst (b.map W.int)),some (.int a),some (.lst ((tabI (p+d) λk=>if p<=k/\k<p+j then l.getD k 0 -Z.getD p 0*b.getD (k -p) 0 else l.getD k 0).map W.int)),some (.lst ((tabI a λk=>if a -(s+1)<=k then Z.getD k 0 else 0).map W.int)),some (.int p),some (.int (Z.getD p 0)),y]) ⟨y,?_⟩ ?_ ?_
  .rw[jd (n:=p+d) (f:=λk=>if p<=k/\k<p+0 then l.getD k 0 -Z.getD p 0*b.getD (k -p) 0 else l.getD k 0) λk _=>Bz (show¬(p<=k/\k<p+0)from λz=>Xt _ (Fm z.2 z.1)),<-nE l F]
  .rintro j w _ N2 r8 ⟨y,rfl⟩ z7;obtain⟨E,rfl⟩:=fX r8;have K:p+j<p+d:=bN E p;fin2;rw[show(p:Int)+(j:Int)=((p+j:Nat):Int) by lia];refine⟨_,cD (by rw[FR,eY K];rfl),?_⟩;rw[Bz (show¬(p<=p+j/\p+j<p+j)from λz=>Xt _ z.2)];refine⟨_,cD (int_at (by rw[i];exact fo E)),?_⟩;fin2;refine⟨aF P (iC bm j) (by lia),p+j,i9 (by rw[Bi,bD];exact K),z7 _ ⟨some (.int j),?_⟩⟩;have e:=fY (n:=p+d) (f:=λk=>if p<=k/\k<p+j then l.getD k 0 -Z.getD p 0*b.getD (k -p) 0 else l.getD k 0) (g:=λk=>if p<=k/\k<p+(j+1)then l.getD k 0 -Z.getD p 0*b.getD (k -p) 0 else l.getD k 0) K (λk _ u=>by
    by_cases o:p<=k/\k<p+j
    .rw[D1 o,D1 ⟨o.1,fo o.2⟩]
    .rw[Bz o,Bz λz=>o ⟨z.1,rg (cg z.2) u⟩])
   rw[D1 ⟨W1 _ _,Qr _⟩,cw]at e;rw[<-e,lj]
  .rintro _ ⟨y,rfl⟩;rw[rF];refine cX _ ⟨_,_,_,_,⟨by rw[bD,M,On],λk u=>?_⟩,rfl⟩;rw[M,On]at u;have C:=u;rw[rD C,S];have c:=O k (by rw[A];exact fo u);rw[eg k C,T,Hj]at c;by_cases t:p<=k
   .rw[D1 ⟨t,u⟩];rw[D1 t]at c;lia
   .rw[Bz λz=>t z.1];rw[Bz t,T1,iq]at c;exact c
 .rintro _ ⟨R,J,I,y,⟨lR,O⟩,rfl⟩;rw[rF];fin2;have e:(tabI a λk=>if a -a<=k then Z.getD k 0 else 0)=Z:=by rw[jd (g:=λk=>Z.getD k 0) λk _=>D1 (by lia),<-nE Z kh]
  rw[e];exact q
def vO:List CS:=[.ua [2,3] (.var 0),.ua [4,5] (.var 1),.set 6 (.call 0 [(.var 2),(.var 5)]),.set 7 (.call 0 [(.var 4),(.var 3)]),.ret (.tup [(.bin .Mult (.bin .FloorDiv (.var 2) (.var 6)) (.bin .FloorDiv (.var 4) (.var 7))),(.bin .Mult (.bin .FloorDiv (.var 3) (.var 7)) (.bin .FloorDiv (.var 5) (.var 6)))])]
def vP:aV:=λe Q _=>∃(a b:Rat)(d c n m:Nat),e=[wq a,wq b]/\(Tg d n a/\Tg c m b/\d<=1000000/\c<=1000000/\n<=6000/\m<=6000)/\Q (wq (a*b))
theorem Ls(c:List W)(Q:W->Prop)(R:Addr->Prop)(h:vP c Q R):wSs (bI [Dv]) G vO (bC m Q R) (aj 8 c):=by
 obtain⟨a,b,C,B,n,m,rfl,⟨j,e,H,D,E,F⟩,q⟩:=h;show wSs _ _ vO _ [some (wq a),some (wq b),none,none,none,none,none,none];unfold vO wq;unfold wq at q;have A:=j.1;have k:(a.den:Int).natAbs<2^n:=by rw[BB];exact j.2
 have z:=e.1;have l:(b.den:Int).natAbs<2^m:=by rw[BB];exact e.2
 obtain⟨s,r,u,t⟩:=EX a b;have p:((AS a.num b.den:Nat):Int).natAbs<2^m:=by have:((AS a.num b.den:Nat):Int)<=b.den:=eJ (dpos b) (SB ..);lia
 have o:((AS b.num a.den:Nat):Int).natAbs<2^n:=by have:((AS b.num a.den:Nat):Int)<=a.den:=eJ (dpos a) (SB ..);lia
 fin2;refine⟨rfl,?_⟩;fin2;refine⟨rfl,?_⟩;fin2;refine⟨a.num,b.den,m,rfl,l,by lia,?_⟩;refine⟨b.num,a.den,n,rfl,k,by lia,?_⟩;generalize((AS a.num b.den:Nat):Int)=f at*;generalize((AS b.num a.den:Nat):Int)=g at*;have cf:∀i:Int,kN i f:=λi=>⟨by lia,eH p (by lia)⟩;have d:∀i:Int,kN i g:=λi=>⟨by lia,eH o (by lia)⟩;have y:(a.num/f).natAbs<2^C:=HI (aw ..) A;have x:(b.num/g).natAbs<2^B:=HI (aw ..) z;have w:((a.den:Int)/g).natAbs<2^n:=HI (aw ..) k;have v:((b.den:Int)/f).natAbs<2^m:=HI (aw ..) l;fin2;simp only[Iy _ (TK s),Iy _ (TK r)];refine⟨cf _,d _,aF y x (by lia),d _,cf _,aF w v (by lia),af (by simp),?_⟩;rw[u,t]at q;exact q
def Aa:List CS:=[.ua [2,3] (.var 1),.iff (.cmp .Eq (.var 2) (.int 0)) [.Tq] [],.iff (.cmp .Lt (.var 2) (.int 0)) [.ret (.call 0 [(.var 0),(.tup [(.neg (.var 3)),(.neg (.var 2))])])] [],.ret (.call 0 [(.var 0),(.tup [(.var 3),(.var 2)])])]
def Hl:aV:=λe Q R=>∃(a b:Rat)(d c n:Nat),e=[wq a,wq b]/\(Tg d n a/\Tg c c b/\d<=1000000/\c<=6000/\n<=6000)/\(b=0->False)/\(b≠0->Q (wq (a*b⁻¹)))
theorem RX(i:List W)(Q:W->Prop)(R:Addr->Prop)(h:Hl i Q R):wSs (bI [vP]) G Aa (bC m Q R) (aj 4 i):=by
 obtain⟨a,b,s,g,n,rfl,⟨r,p,l,j,c⟩,k,q⟩:=h;show wSs _ _ Aa _ [some (wq a),some (wq b),none,none];unfold Aa
 conv=>arg 5;arg 2;arg 1;unfold wq
 fin2;refine⟨rfl,?_⟩;fin2;by_cases hz:b.num=0
 .rw[D1 (Fn hz)];exact k (Tf.mp hz)
 have q:=q λz=>hz (by rw[z];rfl);rw[Bz (by rw[KE];exact hz)];have o:Tg g g b⁻¹:=OE (n:=g) p hz;have d:∀t u:Int,b⁻¹.num=t->(b⁻¹.den:Int)=u->bI [vP] 0 [wq a,.tup [.int t,.int u]] Q R:=λt u f e=>by refine⟨a,b⁻¹,s,g,n,g,?_,⟨r,o,l,by lia,c,j⟩,q⟩;rw[<-f,<-e];rfl
 by_cases c:b.num<0
 .rw[D1 (Fn c)];obtain⟨f,e⟩:=inv_neg b c;exact⟨af (by simp),d _ _ f e⟩
 .rw[Bz (by rw[KE];exact c)];obtain⟨f,e⟩:=inv_pos b (by lia);exact⟨af (by simp),d _ _ f e⟩
abbrev XQ:List Str:=["ahead","last","factor_ahead","factor_last","lead","height","sign","scale","known"]
abbrev qW:Md:=.o XQ [.s,.s,.s,.s,.s,.s,.s,.s,.s]
noncomputable def sJ(C:Addr)(A B d c:List Int)(a h sg sc b:Int):W:=.obj C XQ [wI A,wI B,wI d,wI c,.int a,.int h,.int sg,.int sc,.int b]
theorem Ho{y:Int}(h:y.natAbs<2^n)(a:n<=100000000):y.natAbs.log2<1000000000:=by
 rcases h8 y.natAbs with e|e
 .rw[e];decide
 .have:=(Sx (R7 e)).mpr h;exact Fm this (Do a (by decide))
structure aa2(A B fA fB:List Int)(ld h:Int)(N E:Nat):Prop where
 l2:2<=B.length
 XR:B.length<=A.length
 l15:A.length<=15
 lf:fA.length<=40
 Y0:fB.length<=40
 bA:∀x∈A,x.natAbs<2^N
 bB:∀x∈B,x.natAbs<2^N
 bfA:∀x∈fA,x.natAbs<2^N
 bfB:∀x∈fB,x.natAbs<2^N
 bl:ld.natAbs<2^N
 bh:h.natAbs<2^N
 hN:N<=5000
 hE:E<=12000
 k0:ld*h^(A.length -B.length)≠0
 kE:(ld*h^(A.length -B.length)).natAbs<=2^E
 h0:0<A.length -B.length->h^(A.length -B.length -1)≠0/\(h^(A.length -B.length -1)).natAbs<=2^E
def RY(A B a R:List Int)(c:Int):Prop:=c=B.getD (B.length -1) 0^(A.length -B.length+1)/\a.length=A.length -B.length+1/\(∀k,R.getD k 0=c*A.getD k 0 -cf a B a.length k)/\R.length<B.length/\(R=[]\/R.getD (R.length -1) 0≠0)
theorem yv(h:Nat.blt n m=true):n<m:=Nat.le_of_ble_eq_true h
theorem ZG{y:Int}(h:y.natAbs<2^n)(e:Nat):(y^e).natAbs<2^(n*e+1):=by rw[Sub.g5];refine HI (bj (SZ h) e) ?_;rw[<-ky];exact X1 (by decide) (Qr _)
theorem RZ(h:RU A B N M a R)(b:B.length<=A.length):RY A B a R (B.getD (B.length -1) 0^(A.length+1 -B.length)):=by
 have e:A.length+1 -B.length=A.length -B.length+1:=by lia
 refine⟨by rw[e],by rw[h.Wy,e],λk=>?_,h.Wz,h.last⟩;rw[h.eq k,f7];show _=jT (λi=>a.getD i 0) (λi=>B.getD i 0) k+_ -jT (λi=>a.getD i 0) (λi=>B.getD i 0) k;lia
noncomputable def dw:List CS:=[.ua [1,2,3] (.call 0 [(.own 0 [.fl 0 "ahead"]),(.own 0 [.fl 1 "last"])]),.iff (.cmp .Eq (.var 2) (.lst [])) [.C7 (.bl false)] [],.set 4 (.call 1 [(.call 2 [(.own 0 [.fl 2 "factor_ahead"]),(.var 3)]),(.call 3 [(.var 1),(.own 0 [.fl 3 "factor_last"])])]),.iff (.and [(.cmp .Eq (.bin .Mod (.blt .len [(.own 0 [.fl 0 "ahead"])]) (.int 2)) (.int 0)),(.cmp .Eq (.bin .Mod (.blt .len [(.own 0 [.fl 1 "last"])]) (.int 2)) (.int 0))]) [.C6 0 6 (.neg (.own 0 [.fl 6 "sign"]))] [],.set 5 (.bin .Sub (.blt .len [(.own 0 [.fl 0 "ahead"])]) (.blt .len [(.own 0 [.fl 1 "last"])])),.set 6 (.bin .Mult (.own 0 [.fl 4 "lead"]) (.call 4 [(.own 0 [.fl 5 "height"]),(.var 5)])),.C6 0 7 (.var 3),.C6 0 8 (.var 6),.C6 0 0 (.own 0 [.fl 1 "last"]),.C6 0 2 (.own 0 [.fl 3 "factor_last"]),.C6 0 1 (.comp [0] true 1 (.var 2) (.bl true) (.bin .FloorDiv (.var 0) (.var 7))),.C6 0 3 (.comp [0] true 1 (.var 4) (.bl true) (.bin .FloorDiv (.var 0) (.var 7))),.C6 0 4 (.ix (.own 0 [.fl 0 "ahead"]) (.neg (.int 1))),.C6 0 5 (.call 5 [(.own 0 [.fl 5 "height"]),(.own 0 [.fl 4 "lead"]),(.var 5)]),.C7 (.bl true)]
theorem bK(h:x<=2^n):x<2^(n+1):=HI h (X1 (by decide) (Qr _))
noncomputable def TJ(a:List Rat):Nat->Rat:=λi=>a.getD i 0
def DvQ(b p2:Nat)(g a:List Rat):Prop:=∃(s:List Rat)(D:Int),(∀k,a.getD k 0=aH (TJ s) (TJ g) k)/\D≠0/\D.natAbs<2^b/\∀x∈s,Cd D p2 x
structure acO(p1 p2:Nat)(a b g u v:List Rat):Prop where
 ng:aq g
 nu:aq u
 nv:aq v
 bez:∀k,g.getD k 0=aH (TJ u) (TJ a) k+aH (TJ v) (TJ b) k
 da:DvQ p1 p2 g a
 db:DvQ p1 p2 g b
 ne:g≠[]
 one:g.getD (g.length -1) 0=1
def WC(x:Addr)(H H':Hp):Prop:=∀b o,b≠x->H b=some o->H' b=some o
def Hq(C:Addr):Sp:=λg H Q _=>∃(x f:Addr)(e d c:V),g=[.ref x,e,d,c]/\H x=some (.ins C f [])/\∀(b:Addr)(a:Hp),WC x H a->H b=none->a b=some (.lst [])->a x=some (.ins C f (XQ.zip [e,d,c,.ref b,.int 1,.int 1,.int 1,.int 1,.int 1]))->Q .cu a
def vQ(C:Addr):aV:=λa Q _=>∃A B f:List Int,a=[wI A,wI B,wI f]/\Q (sJ C A B f [] 1 1 1 1 1)
theorem lV{K:Frag}(i:Int):Rep K A H (.int i) (.int i):=by dsimp only[Rep]
theorem Nl{K:Frag}:∀{n:Nat}{a:List W}{vs:List V},ak K B H a vs->a.length=n->jo K B H (B1 n .s) a vs []
 |0,[],vs,r,_=>by
  cases r;show jo K B H [] _ _ _;dsimp only[jo];exact⟨rfl,rfl,rfl⟩
 |n+1,w::a,vs,r,e=>by obtain⟨v,b,rfl,d,c⟩:=r.cons_inv;show jo K B H (.s::B1 n .s) _ _ _;dsimp only[jo];refine⟨w,a,v,b,[],[],rfl,rfl,rfl,?_,Nl c (by simpa using e)⟩;dsimp only[Fp];exact⟨rfl,d⟩
 |0,_::_,_,_,e=>by cases e
 |n+1,[],_,_,e=>by cases e
theorem Ab{K:Frag}{C f:Addr}{I:FuncData}{ps:List Str}(Y:zF K C XQ)(M:Mk K C f)(b:Binds K I ps [])(F:cA P w K G base (jB P w) k f I ps (Hq C)):
 cL P w K G base (k+1) (.ref C) 3 (om K 3 qW (vQ C)):=by
 refine .mk M b F λvs H Q E hz x m q s S=>?_;obtain⟨A,ws,P,R,l,r,d,⟨a,b',f',e,Z⟩,c,er⟩:=hz;subst e;obtain⟨B,_,rfl,O,r⟩:=r.cons_inv;obtain⟨y,_,rfl,N,r⟩:=r.cons_inv;obtain⟨v,_,rfl,L,r⟩:=r.cons_inv;cases r;refine⟨x,m,B,y,v,rfl,aJ,λg J U h e4 ex=>⟨rfl,?_⟩⟩;have i:g≠x:=λe=>by rw[e,aJ]at h;cases h
 have t:g≠m:=λe=>by rw[e,ay S,aJ]at h;cases h
 have h4:H g=none:=by rw[ay i,ay t]at h;exact h
 have sm:aE H J:=λb o j=>by
  have D:b≠x:=λe=>by rw[e,q]at j;cases j
  have T:b≠m:=λe=>by rw[e,s]at j;cases j
  exact U b o D (by rw[ay D,ay T];exact j)
 have u:∀p o,H p=some o->(A p\/p∈[x])->A p:=λp o e z=>by
  rcases z with z|z
  .exact z
  .rw[Fh.mp z,q]at e;cases e
 refine c _ (.ref x) J Z sm ⟨[x],by simp,λp X=>by rw[Fh.mp X];exact q,?_⟩;unfold sJ;dsimp only[Fp];refine⟨C,m,_,x,[B,y,v,.ref g,.int 1,.int 1,.int 1,.int 1,.int 1],[],rfl,rfl,rfl,ex,rfl,Y,?_⟩;refine Nl (n:=9) ?_ rfl;refine .cons (Rep.mv sm u _ O) (.cons (Rep.mv sm u _ N) (.cons (Rep.mv sm u _ L) (.cons ?_ (.cons (lV 1) (.cons (lV 1) (.cons (lV 1) (.cons (lV 1) (.cons (lV 1) .nil))))))));show Rep _ _ _ (.lst []) _;dsimp only[Rep];refine⟨g,[],rfl,λz=>?_,.inl e4,.nil⟩;rcases z with z|z
 .obtain⟨o,e⟩:=d g z;rw[h4]at e;cases e
 .exact i (Fh.mp z)
theorem Lv(ns:List Int)(a b:Option Int):∃ms:List Int,j3 (ns.map W.int) a b=ms.map W.int:=by unfold j3;exact⟨_,by rw[<-eB,<-XJ]⟩
end VL
namespace VL
open PySem PySem.Spec
open PyProof.Rows hiding St
open L2
def XS(P:Program)(w:World)(K:Frag)(a:Str->Option Value)(base:Heap)(k:Nat):List Str->List Md->List aV->Prop
 |x::fn,m::e,S::Ss=>(∃d n c,a x=some d/\cL P w K a base c d n (om K n m S)/\c<=k/\∀b P R,S b P R->b.length=n)/\XS P w K a base k fn e Ss
 |[],_,_=>True
 |_,_,_=>False
def ZH(a:Str->Option Value):List Str->Prop
 |[]=>True
 |x::b=>a x=none/\ZH a b
theorem Hr:∀{a:List Str},ZH c a->∀x∈a,c x=none
 |y::a,h,x,b=>by
  rcases IH.mp b with e|b
  .rw[e];exact h.1
  .exact Hr h.2 x b
theorem Ac{K:Frag}:∀{fn:List Str}{a:List Md}{Ss:List aV},XS P w K b base k fn a Ss->∀(j:Nat)(x:Str),fn[j]?=some x->∃f n d,b x=some f/\cL P w K b base d f n (om K n (fO a j) (bI Ss j))/\d<=k/\∀c P R,bI Ss j c P R->c.length=n
 |y::fn,m::a,S::Ss,h,0,x,e=>by
  cases e;exact h.1
 |y::fn,m::a,S::Ss,h,j+1,x,e=>Ac (fn:=fn) h.2 j x e
 |[],_,_,_,j,x,e=>by cases e
 |_::_,[],_,h,_,_,_=>h.elim
 |_::_,_::_,[],h,_,_,_=>h.elim
theorem tab_of{K:Frag}{fn b:List Str}{c:List Md}{Ss:List aV}(h:XS P w K a base k fn c Ss)(z:ZH a b):Tab P w K a base fn [] b c [] (bI Ss) (n8 []) k:=
 ⟨λj x e _=>Ac h j x e,λ_ _ _ _ h=>(by cases h),λ_ _ e=>(by simp at e),Hr z,z5 K,λ_ _ _ e=>(by simp at e)⟩
end VL
namespace VL
open PySem PySem.Spec
open PyProof.Rows hiding St
open L2 Num
theorem Ht(S:α->Ev)(J:α->Prop)(f:α->Nat)(e:α)(i:a=S e)(h:J e)(g:∀s,J s->wE d G D.ex c (S s) λx=>truth x (Wt S J f (wSs d G b) D s)):wS d G (.zG c b) D a:=by show FZ (λa Q=>wE d G D.ex c a λx=>truth x Q) (wSs d G b) D a;exact kg S J f e i h g
theorem yw(f:∀Q:W->Prop,Q (.lst l)->wE d G D.ex e c Q)(h:g9 (λw g a=>wSs d G b g (a.set i (some w))) D l c):wS d G (.fr [i] true e b) D c:=f _ h
def Hu:aV:=λa Q _=>∃(t b:Int)(n:Nat),a=[.int t,.int b]/\n<=999999999/\b≠0/\b.natAbs<2^n/\Q (wq (An t b))
theorem WD(i:List W)(Q:W->Prop)(R:Addr->Prop)(h:Hu i Q R):wSs (bI [B6]) G rA (bC m Q R) (aj 3 i):=by
 obtain⟨t,b,n,rfl,j,p,f,c⟩:=h;show wSs _ _ rA _ [some (.int t),some (.int b),none];unfold rA;fin2;refine⟨t,b,rfl,?_⟩;obtain⟨a,l,k⟩:=EY t b p;have o:((AS t b:Nat):Int).natAbs<2^n:=by have:((AS t b:Nat):Int)<=b.natAbs:=eJ (by clear k l a f;lia) (by rw[eE];exact SB ..);omega
 unfold wq at c;generalize((AS t b:Nat):Int)=g at*;rw[l,k]at c;by_cases e:b<0
 .rw[D1 e]at a c;rw[D1 (Fn e)];fin2;rw[zz9];have d:=rj (y:= -g) (by omega) j;exact⟨⟨a,d⟩,⟨a,d⟩,af (by simp),c⟩
 .rw[Bz e]at a c;rw[Bz (by rw[KE];exact e)];have d:=rj (y:=g) o j;exact⟨⟨a,d⟩,⟨a,d⟩,af (by simp),c⟩
def Wl(a b:Int):Prop:=(a=0/\0<=b)\/(a=1/\0<=b/\b<1000000000)
noncomputable def wW(a b:Int):W:=.lst [.int a,.int b]
noncomputable def Ad:List CS:=[.set 2 (.int 0),.fr [3] true (.sl (.var 0) (.var 1) (.bin .Add (.var 1) (.int 1))) [.set 2 (.var 3)],.iff (.or [(.cmp .Lt (.var 2) (.int 0)),(.cmp .GtE (.var 2) (.bin .Pow (.int 10) (.int 18)))]) [.ret (.lst [(.int 0),(.blt .abs [(.var 2)])])] [],.ret (.lst [(.int 1),(.bin .Add (.bin .Mod (.bin .Add (.bin .Mod (.var 2) (.int 998244341)) (.bin .Mult (.int 7919) (.var 1))) (.int 998244353)) (.int 3))])]
def Hv:aV:=λc Q _=>∃(d:List Int)(k:Nat),c=[.jY d,.int k]/\k<=100/\∀a b,Wl a b->Q (wW a b)
theorem R3(p:List W)(Q:W->Prop)(R:Addr->Prop)(h:Hv p Q R):wSs l G Ad (bC m Q R) (aj 4 p):=by
 obtain⟨b,k,rfl,r,d⟩:=h;show wSs _ _ Ad _ [some (.jY b),some (.int k),none,none];unfold Ad;refine au (λa=>a=[some (.jY b),some (.int k),some (.int 0),none]) (λN g=>?_) ?_
 .fin2;exact g _ rfl
 rintro _ rfl;refine au (λa=>∃(c:Int)(o:Option W),a=[some (.jY b),some (.int k),some (.int c),o]) (λN g=>?_) ?_
 .fin2;obtain⟨u,e⟩:=Lv b (some (k:Int)) (some ((k:Int)+1));rw[e];refine aP (λi s=>∃(c:Int)(o:Option W),s=[some (.jY b),some (.int k),some (.int c),o]) ⟨0,none,rfl⟩ ?_ ?_
  .rintro i w _ v q ⟨c,o,rfl⟩ t;rw[FR]at q;obtain⟨z,_,rfl⟩:=L9.mp q;fin2;exact t _ ⟨z,_,rfl⟩
  .rintro _ ⟨c,o,rfl⟩;exact g _ ⟨c,o,rfl⟩
 rintro _ ⟨c,o,rfl⟩;have j:wS l G (.ret (.lst [(.int 1),(.bin .Add (.bin .Mod (.bin .Add (.bin .Mod (.var 2) (.int 998244341)) (.bin .Mult (.int 7919) (.var 1))) (.int 998244353)) (.int 3))])) (bC m Q R) [some (.jY b),some (.int k),some (.int c),o]:=by fin2;have f:=fm (x:=c.fmod 998244341+7919*(k:Int)) (n:=998244353) (by decide);refine⟨by decide,aF (n:=13) (m:=7) (by decide) (by lia) (by decide),by decide,af (by simp),d _ _ (.inr ⟨rfl,by clear f r;lia,by clear f r;lia⟩)⟩
 fin2;by_cases h:c<0
 .rw[D1 (Fn h)];exact⟨af (by simp),d _ _ (.inl ⟨rfl,by split<;>lia⟩)⟩
 .rw[Bz (by rw[KE];exact h)];refine⟨pK (by decide) (by decide) (by decide),?_⟩;split
  .exact⟨af (by simp),d _ _ (.inl ⟨rfl,by first|lia|(split<;>lia)⟩)⟩
  .exact j
noncomputable def rG:List CS:=[.iff (.cmp .Eq (.ix (.var 0) (.int 0)) (.int 0)) [.set 2 (.bin .Mod (.ix (.var 0) (.int 1)) (.var 1)),.put 0 (.int 1) (.bin .FloorDiv (.ix (.var 0) (.int 1)) (.var 1)),.C7 (.var 2)] [],.fr [3] true (.jN [(.int 2)]) [.ua [4,5] (.blt .To [(.ix (.var 0) (.int 1)),(.int 4099)]),.put 0 (.int 1) (.bin .Mod (.bin .Add (.bin .Add (.bin .Mult (.var 5) (.int 240007)) (.bin .Mult (.var 4) (.int 89))) (.int 1201)) (.int 998244353))],.C7 (.bin .Mod (.bin .FloorDiv (.ix (.var 0) (.int 1)) (.int 5)) (.var 1))]
def n5:aV:=λe Q _=>∃(a b n:Int),e=[wW a b,.int n]/\Wl a b/\0<n/\n<2^30/\∀x d c,0<=x->x<n->Wl d c->Q (.tup [.int x,wW d c])
theorem ZI{x y:W}:jQ [x,y] 0=some x:=rfl
theorem Lw{x y:W}:jQ [x,y] 1=some y:=rfl
theorem Ly{b n:Int}(h:0<=b)(a:0<n):0<=b.fdiv n:=by rw[Iy _ (by lia)];exact W5 h (by lia)
theorem R4(q:List W)(Q:W->Prop)(R:Addr->Prop)(h:n5 q Q R):wSs u G rG (bC (.io m) Q R) (aj 6 q):=by
 obtain⟨a,b,n,rfl,p,k,v,l⟩:=h;show wSs _ _ rG _ [some (wW a b),some (.int n),none,none,none,none];unfold rG;have r:n.natAbs.log2<1000000000:=eH (n:=31) (by lia) (by decide);refine au (λd=>(a=1/\0<=b/\b<1000000000)/\d=[some (wW a b),some (.int n),none,none,none,none]) (λN o=>?_) ?_
 .unfold wW at o l⊢;fin2;refine⟨_,ZI,?_⟩;fin2;rcases p with⟨rfl,c⟩|⟨rfl,c,j⟩
  .rw[D1 (Fn rfl)];have f:=fm (x:=b) (n:=n) k;refine⟨_,Lw,by lia,?_⟩;refine⟨_,Lw,⟨by lia,r⟩,1,rfl,?_⟩;exact l _ _ _ f.1 f.2 (.inl ⟨rfl,Ly c k⟩)
  .rw[Bz (by decide)];exact o _ ⟨⟨rfl,c,j⟩,rfl⟩
 rintro _ ⟨⟨rfl,c,j⟩,rfl⟩;refine au (λd=>∃(b:Int)(o3 g e:Option W),(0<=b/\b<1000000000)/\d=[some (wW 1 b),some (.int n),none,o3,g,e]) (λN o=>?_) ?_
 .fin2;refine⟨by decide,by decide,?_⟩;refine aP (λi t=>∃(b:Int)(o3 g e:Option W),(0<=b/\b<1000000000)/\t=[some (wW 1 b),some (.int n),none,o3,g,e]) ⟨b,none,none,none,⟨c,j⟩,rfl⟩ ?_ ?_
  .rintro i w _ D p ⟨b,o3,g,e,⟨c,j⟩,rfl⟩ s;unfold wW at s⊢;fin2;refine⟨_,Lw,?_⟩;rw[Ws];refine⟨⟨by decide,by decide⟩,rfl,?_⟩;fin2;have z:=VN b (show(4099:Int)≠0 by decide);have y:=x5 b (show(0:Int)<4099 by decide);have C:0<=b/4099:=W5 c (by decide);have B:b/4099<=b:=by lia
   have f:=fm (x:=b%4099*240007+b/4099*89+1201) (n:=998244353) (by decide);refine⟨aF (n:=31) (m:=31) (by lia) (by decide) (by decide),aF (n:=31) (m:=31) (by lia) (by decide) (by decide),by decide,1,rfl,s _ ⟨_,_,_,_,⟨f.1,by clear f B C y z j c p r v k;lia⟩,rfl⟩⟩
  .rintro _ ⟨b,o3,g,e,A,rfl⟩;exact o _ ⟨b,o3,g,e,A,rfl⟩
 rintro _ ⟨b,o3,g,e,⟨c,j⟩,rfl⟩;unfold wW at l⊢;fin2;have f:=fm (x:=b.fdiv 5) (n:=n) k;refine⟨_,Lw,⟨by decide,eH (n:=3) (by decide) (by decide)⟩,by lia,?_⟩;exact l _ _ _ f.1 f.2 (.inr ⟨rfl,c,j⟩)
noncomputable def bt(X:Nat):Nat->Nat
 |0=>X
 |s+1=>2*bt X s+2*X+2
end VL
namespace Num
open Sub VL
end Num
namespace VL
open PySem PySem.Spec
open PyProof.Rows hiding St
open L2 Num
theorem Hw{α:Type}(f:α->W)(d:α)(l:List α):f9 (l.map f)=(Bn l.length).map λi:Nat=>W.tup [.int i,f (l.getD i d)]:=by
 unfold f9;refine ma λi=>?_;rw[YJ,FR,FR,Bi];by_cases h:i<l.length
 .have e:l.getD i d=l[i]:=by rw[AC,D2 h];rfl
  rw[dt h,D2 h];show some (W.tup [W.int i,f l[i]])=some (W.tup [W.int i,f (l.getD i d)]);rw[e]
 .rw[Gc (show(Bn l.length).length<=i by simpa using h)];rfl
theorem WE(l:List W):j3 l (some 1) none=l.drop 1:=by
 unfold j3;rw[HT.xg,show(1:Int)=((1:Nat):Int)from rfl,HT.AQ];cases l with
 |nil=>rfl
 |cons x l=>rw[show min 1 (x::l).length=1 by simp];exact zz7 (by simp)
theorem Ae(n:Nat)(g:Nat->W):((Bn n).map g).drop 1=(Bn (n -1)).map λi=>g (i+1):=by
 cases n with
 |zero=>rfl
 |succ n=>rw[zz8];simp
noncomputable def gr:List CS:=[.ret (.sl (.comp [0,1] false 2 (.t9 (.var 0)) (.bl true) (.bin .Mult (.var 0) (.var 1))) (.int 1) .cu)]
def eZ:aV:=λb Q _=>∃(a:List Int)(n:Nat),b=[wI a]/\a.length<=100/\(∀x∈a,x.natAbs<2^n)/\n<=100000000/\Q (wI (dW a))
theorem sL(c:List W)(Q:W->Prop)(R:Addr->Prop)(h:eZ c Q R):wSs e G gr (bC m Q R) (aj 1 c):=by
 obtain⟨a,n,rfl,l,f,k,b⟩:=h;show wSs _ _ gr _ [some (wI a)];unfold gr wI;fin2;rw[Hw W.int 0 a];refine cH (h:=λi:Nat=>W.tup [.int i,W.int (a.getD i 0)]) (g:=λi:Nat=>W.int ((i:Int)*a.getD i 0)) _ [] _ (λi d K j=>?_) (af (by simp;lia)) ?_
 .have d:=wx.mp d;fin2;exact⟨rfl,aF (n:=7) (m:=n) (by lia) (iC f i) (by lia),j⟩
 .rw[C0,WE,Ae];unfold wI dW at b;rw[U2]at b;exact b
theorem WG(J:Nat->Ev->Prop)(f:Nat)(j:J f d)(i:∀m d,J m d->wP e G D.ex c d λx h=>truth x λk=>if k=true then∃N:Ev->Prop,(∀a,N a->∃g,g<m/\J g a)/\wSs e G b {nx:=N,rt:=D.rt,bk:=D.nx,ct:=N,ex:=D.ex} h else D.nx h):wS e G (.Tp c b) D d:=⟨J,⟨f,j⟩,i⟩
structure Hx(A B:List Int)(ld h:Int)(N E:Nat):Prop where
 l2:2<=B.length
 XR:B.length<=A.length
 WH:A.length<=30
 bA:∀x∈A,x.natAbs<2^N
 bB:∀x∈B,x.natAbs<2^N
 bl:ld.natAbs<2^N
 bh:h.natAbs<2^N
 hN:(A.length+1)*(N+1)<=85000000
 z7:N<=10000000
 hE:E<=90000000
 k0:ld*h^(A.length -B.length)≠0
 kE:(ld*h^(A.length -B.length)).natAbs<=2^E
 h0:0<A.length -B.length->h^(A.length -B.length -1)≠0/\(h^(A.length -B.length -1)).natAbs<=2^E
def lW(C:Addr):aV:=λe Q _=>∃(A B:List Int)(a h sg sc d:Int)(N E:Nat),e=[sJ C A B [] [] a h sg sc d]/\Hx A B a h N E/\
 (∀(b:List Int)(c:Int),RY A B b [] c->Q (.tup [.bl false,sJ C A B [] [] a h sg sc d]))/\
 (∀(b R:List Int)(c f:Int),R≠[]->RY A B b R c->Q (.tup [.bl true,sJ C B (R.map λy=>y.fdiv (a*h^(A.length -B.length))) [] [] (B.getD (B.length -1) 0) (Sub.hnext h (B.getD (B.length -1) 0) (A.length -B.length)) f c (a*h^(A.length -B.length))]))
theorem Hy(w:List W)(Q:W->Prop)(R:Addr->Prop)(h:lW C w Q R):wSs (bI [fZ,ir,ic,iu,oU,iB]) G dw (bC m Q R) (aj 7 w):=by
 obtain⟨A,B,f,h,sg,sc,l,N,E,rfl,⟨l2,XR,WH,bA,U,bl,t,q,Y,hE,J,kE,O⟩,D,x⟩:=h;show wSs _ _ dw _ [some (sJ C A B [] [] f h sg sc l),none,none,none,none,none,none];have lB:=iC U (B.length -1);have s:=yt (ns:=B) (by lia);unfold dw;have I:(A.length+1 -B.length)*(N+1)<=85000000:=Do (X9 _ (zz4 _ _)) q;have p:N*(A.length+1 -B.length)<=85000000:=by rw[ag];exact Do (Fk _ (xi N)) I
 refine au (λa=>∃d e,RU A B N N d e/\a=[some (sJ C A B [] [] f h sg sc l),some (wI d),some (wI e),some (.int (B.getD (B.length -1) 0^(A.length+1 -B.length))),none,none,none]) (λv b=>?_) ?_
 .unfold sJ at b⊢;fin2;exact⟨A,B,N,N,rfl,⟨by lia,by lia,by lia,bA,U,A.length+1,Qr _,Do (zzh Y q) (by decide)⟩,λd R dv=>⟨rfl,b _ ⟨d,R,dv,rfl⟩⟩⟩
 rintro _ ⟨d,e,dv,rfl⟩;have T:=RZ dv XR;have lQ:=dv.Wy;have lR:=dv.Wz;generalize hc:B.getD (B.length -1) 0^(A.length+1 -B.length)=c at*;refine au (λa=>e≠[]/\a=[some (sJ C A B [] [] f h sg sc l),some (wI d),some (wI e),some (.int c),none,none,none]) (λv b=>?_) ?_
 .fin2;refine⟨af (by simp),RS (y:=[]) λk L=>?_⟩;fin2;by_cases i:e=[]
  .cases vJ L i;fin2;subst i;exact D d c T
  .cases lT L i;fin2;exact b _ ⟨i,rfl⟩
 rintro _ ⟨i,rfl⟩;refine au (λa=>a=[some (sJ C A B [] [] f h sg sc l),some (wI d),some (wI e),some (.int c),some (wI []),none,none]) (λv b=>?_) ?_
 .unfold sJ at b⊢;fin2;refine⟨[],c,rfl,by decide,by simp,?_⟩;refine⟨d,[],rfl,by lia,by decide,by simp,?_⟩;rw[D1 (.inr rfl)];refine⟨_,[],0,rfl,by simp,by decide,by decide,by simp,λF Z=>?_⟩;have lF:=xE Z;have:F=[]:=Oy.mp (xf.mp lF);subst this;exact b _ rfl
 rintro _ rfl;refine au (λa=>∃u,a=[some (sJ C A B [] [] f h u sc l),some (wI d),some (wI e),some (.int c),some (wI []),none,none]) (λv b=>?_) ?_
 .have y:=b _ ⟨sg,rfl⟩;have z:=b _ ⟨-sg,rfl⟩;clear b;unfold sJ wI at y z⊢;fin2;refine⟨by decide,?_⟩;by_cases S:((A.map W.int).length:Int).fmod 2=0
  .rw[D1 (Fn S)];refine⟨by decide,?_⟩;by_cases P:((B.map W.int).length:Int).fmod 2=0
   .rw[D1 (Fn P)];exact⟨by simp,z⟩
   .rw[Bz (by rw[KE];exact P)];exact y
  .rw[Bz (by rw[KE];exact S)];exact y
 rintro _ ⟨u,rfl⟩;have o:=x d e c u i T;have X:(f*h^(A.length -B.length)).natAbs.log2<1000000000:=Ho (n:=E+1) (HI kE (X1 (by decide) (Qr _))) (by lia);have H:N*(A.length -B.length+1)<=85000000:=Do (Fk _ (by lia)) p;have m4:N*(A.length -B.length)<=85000000:=Do (Fk _ (by lia)) p;clear D x p I q;unfold sJ wI at o⊢;fin2;rw[Bi,Bi,show(A.length:Int) -(B.length:Int)=((A.length -B.length:Nat):Int) by lia];generalize DP:A.length -B.length=j at*;refine⟨h,j,N,rfl,t,Do H (by decide),?_⟩;fin2;refine⟨aF bl (ZG t j) (by lia),yv rfl,yv rfl,yv rfl,yv rfl,?_⟩;refine cH (h:=W.int) (g:=λy=>.int (y.fdiv (f*h^j))) e [] _ (λy hy K r=>⟨⟨J,X⟩,r⟩) (af (by simp;lia)) ⟨yv rfl,?_⟩;refine cH (h:=W.int) (g:=λy=>.int (y.fdiv (f*h^j))) [] [] _ (λy hy K r=>⟨⟨J,X⟩,r⟩) (af (by simp)) ⟨yv rfl,_,s,yv rfl,?_⟩;refine⟨h,B.getD (B.length -1) 0,j,N,rfl,⟨t,lB,Do H (by decide),λM=>⟨(O M).1,Ho (n:=E+1) (HI (O M).2 (X1 (by decide) (Qr _))) (by lia)⟩⟩,yv rfl,?_⟩;rw[U2]at o;exact o
abbrev iO(ns:List Int)(w:Nat):Nat:=w*(ns.length -1+((dW ns).length -1)+1)
structure TL(ns:List Int)(w E:Nat):Prop where
 X:Sub.FX ns (dW ns) [] [] w E
 hL:(ns.length+1)*(iO ns w+2)<=85000000
 XT:iO ns w+1<=10000000
 hE:w*E<=90000000
 WH:ns.length<=30
 l2:2<=ns.length
 nz:ns.getD (ns.length -1) 0≠0
theorem R5(P:TL ns w E)(S:Sm ns (dW ns) w E 26 A B d h α f a b)(e:2<=B.length):Hx A B d h (iO ns w+1) (w*E):=by have C:=S.C;have DO:=C.DO;have lp:=C.lp;have:=P.WH;obtain⟨i,g,j⟩:=C.size P.X e;obtain⟨l,k,_,_⟩:=C.bd;exact⟨e,DO,by lia,λx c=>bK (l x c),λx c=>bK (k x c),bK C.bl,bK (Do C.bh (Ha (by decide) (Fk _ (RW (zz4 _ _))))),Do (X9 _ (by lia)) P.hL,P.XT,P.hE,i,g,j⟩
theorem TL.sm(P:TL ns w E):Sm ns (dW ns) w E 26 ns (dW ns) 1 1 1 1 (qI ns) (bF (qI ns)):=by
 refine Sm.start P.X P.l2 P.nz (λk=>by rw[cS,cq]) (bJ ns) (λx a=>?_) (by decide) ⟨by decide,by decide⟩;rw[KM,bJ]at a;have e:cQ (qI ns) (ns.length -1)=x:=by show(qI ns).getD _ 0=x;rw[AC,a];rfl
 rw[cS]at e;rw[<-e];exact λz=>P.nz (GM.mp z)
noncomputable def rH:List CS:=[.par [1,2] [(.var 2),(.ite (.cmp .Eq (.cmp .Gt (.own 4 [.fl 8 "known"]) (.int 0)) (.cmp .Gt (.own 4 [.fl 7 "scale"]) (.int 0))) (.neg (.var 1)) (.var 1))],.app 3 (.call 3 [(.own 4 [.fl 1 "last"]),(.var 2)])]
noncomputable def gK:List CS:=[.ua [1,2] (.tup [(.int 1),(.int 1)]),.set 3 (.lst [(.blt .list [(.var 0)]),(.call 0 [(.var 0)])]),.set 4 (.call 1 [(.ix (.var 3) (.int 0)),(.ix (.var 3) (.int 1)),(.lst [])]),.Tp (.and [(.cmp .Gt (.blt .len [(.own 4 [.fl 1 "last"])]) (.int 1)),(.DU 4 0 2 [])]) rH,.ret (.var 3)]
def yx(n m:Nat)(L:List (List Int)):Prop:=L.length<=40/\∀A∈L,A.length<=n/\∀x∈A,x.natAbs<=2^m
theorem yx.app(h:yx n m L)(b:L.length<40)(d:A.length<=n)(c:∀x∈A,x.natAbs<=2^m):yx n m (L++[A]):=
 ⟨by rw[KB];exact b,λB a=>(SL.mp a).elim (h.2 B) λa=>by rw[Fh.mp a];exact⟨d,c⟩⟩
def lX:aV:=λb Q _=>∃(a:List Int)(w E:Nat),b=[wI a]/\TL a w E/\∀L l,r6 (qI a) (bF (qI a)) l->Pz L (qI a::bF (qI a)::l)->yx a.length (iO a w) L->Q (.lst (L.map wI))
theorem WJ(h:Q (.bl (decide (a=b)))):dZ .Eq (.bl a) (.bl b) Q:=h
theorem WK(h:Q (.bl (!decide (a=b)))):dZ .NotEq (.bl a) (.bl b) Q:=h
theorem Ip.one(h:Ip a α):a.natAbs=1:=by rcases h with⟨rfl,_⟩|⟨rfl,_⟩<;>rfl
theorem Dz(ws:List W)(Q:W->Prop)(R:Addr->Prop)(h:lX ws Q R):wSs (bI [eZ,vQ C,lW C,ic]) (n8 [.cls C]) gK (bC m Q R) (aj 5 ws):=by
 obtain⟨c,w,E,rfl,P,hq⟩:=h;show wSs _ _ gK _ [some (wI c),none,none,none,none];unfold gK;have l2:=P.l2;have WH:=P.WH;have XT:=P.XT;have r:=P.sm;have XU:=r.C.bd.1;have bsl:=r.C.bd.2.1;have lsl:=fK c;refine au (λf=>f=[some (wI c),some (.int 1),some (.int 1),none,none]) (λN g=>?_) ?_
 .fin2;exact⟨af (by simp),rfl,g _ rfl⟩
 rintro _ rfl;refine au (λf=>f=[some (wI c),some (.int 1),some (.int 1),some (.lst ([c,dW c].map wI)),none]) (λN g=>?_) ?_
 .have g:=g _ rfl;unfold wI at g⊢;fin2;refine⟨c,iO c w+1,rfl,by lia,λx J=>bK (XU x J),by lia,af (by simp),g⟩
 rintro _ rfl;refine au (λf=>f=[some (wI c),some (.int 1),some (.int 1),some (.lst ([c,dW c].map wI)),some (sJ C c (dW c) [] [] 1 1 1 1 1)]) (λN g=>?_) ?_
 .fin2;refine⟨_,rfl,_,rfl,af (by simp),c,dW c,[],rfl,g _ rfl⟩
 rintro _ rfl;refine au (λf=>∃(L:List (List Int))(d:List (List Rat))(o1 o2 o4:Option W),(r6 (qI c) (bF (qI c)) d/\Pz L (qI c::bF (qI c)::d)/\yx c.length (iO c w) L)/\f=[some (wI c),o1,o2,some (.lst (L.map wI)),o4]) (λN g=>?_) ?_
 .refine WG (λm ε=>∃(L:List (List Int))(d:List (List Rat))(A B:List Int)(G h sg sc kn D t:Int)(v O:Rat)(a b:List Rat),(Sm c (dW c) w E 26 A B G h v O a b/\Ip D v/\Ip t O/\Pz L (qI c::bF (qI c)::d)/\yx c.length (iO c w) L/\L.length+B.length<=38/\∀l,r6 a b l->r6 (qI c) (bF (qI c)) (d++l))/\m=B.length/\ε=[some (wI c),some (.int D),some (.int t),some (.lst (L.map wI)),some (sJ C A B [] [] G h sg sc kn)]) _ ⟨[c,dW c],[],c,dW c,1,1,1,1,1,1,1,1,1,qI c,bF (qI c),⟨r,.inl ⟨rfl,by decide⟩,.inl ⟨rfl,by decide⟩,⟨⟨1,by decide,r.la,r.ea⟩,⟨1,by decide,r.lb,r.eb⟩,trivial⟩,⟨by show 2<=40;decide,λA hA=>?_⟩,by show 2+_<=38;lia,λl h=>h⟩,rfl,rfl⟩ ?_
  .rcases IH.mp hA with rfl|hA
   .exact⟨FC _,XU⟩
   .rw[Fh.mp hA];exact⟨by lia,bsl⟩
  rintro m _ ⟨L,d,A,B,G,h,sg,sc,kn,D,t,v,O,a,b,⟨S,sa,sb,F,bd,lL,o⟩,rfl,rfl⟩;have k:qf a b []->r6 (qI c) (bF (qI c)) d:=λR6=>by have q:=o [] (.nil R6);rw[ik]at q;exact q
  unfold sJ wI;fin2;rw[Bi];by_cases hl:1<B.length;rotate_left
  .rw[Bz (by rw[KE];lia)];have lq:=S.C.lq;have l1:b.length=1:=by rw[S.lb];lia
   obtain⟨x,rfl⟩:=si.mp l1;exact g _ ⟨L,d,_,_,_,⟨k (qf.one (S.zb x rfl)),F,bd⟩,rfl⟩
  rw[D1 (Fn (by lia))];refine⟨rfl,A,B,G,h,sg,sc,kn,_,_,rfl,R5 P S hl,λQs i dv=>?_,λQs R i Nm hR dv=>?_⟩
  .obtain⟨U,Te,Y,H,T⟩:=dv;have Z:i≠0:=by rw[U];exact Sub.c9 S.C.ch.CV _
   refine⟨_,_,rfl,?_⟩;exact g _ ⟨L,d,_,_,_,⟨k (S.rem Z Y H T),F,bd⟩,rfl⟩
  .obtain⟨U,Te,Y,H,T⟩:=dv;have Z:i≠0:=by rw[U];exact Sub.c9 S.C.ch.CV _
   obtain⟨en,S'⟩:=S.next P.X hl U Te Y H T hR;have R6:=S.rem Z Y H T;have ZJ:(R.map λy:Int=>v/i*(y:Rat))≠[]:=λz=>hR (va.mp z);have k0:=(S.C.size P.X hl).1;have M:=S'.C.bd.2.1;have Fd:=S.C.Fd;refine⟨_,_,rfl,?_⟩;rw[uC,D1 rfl];generalize hκ:G*h^(A.length -B.length)=u at*;have sn:=sa.next k0 Z;generalize hβ: -(v*An u i)=β' at*;generalize hBn:(R.map λy=>y.fdiv u)=j at*;generalize hr':jD (R.map λy:Int=>v/i*(y:Rat))=r' at*;have lBn:j.length<B.length:=by rw[<-hBn,Bi];exact H
   generalize I:(if decide (u>0)=decide (i>0)then-D else D)=s at*;have K:=Ip.one sn;have bT:∀x∈j.map (s*·),x.natAbs<=2^iO c w:=λx J=>by obtain⟨y,hy,rfl⟩:=OF.mp J;rw[GT,K,Zi];exact M y hy
   refine⟨λf=>f=[some (.lst (c.map W.int)),some (.int t),some (.int s),some (.lst ((L++[j.map (s*·)]).map wI)),some (sJ C B j [] [] (B.getD (B.length -1) 0) (Sub.hnext h (B.getD (B.length -1) 0) (A.length -B.length)) Nm i u)],?_,?_⟩
   .rintro _ rfl;refine⟨j.length,lBn,L++[j.map (s*·)],d++[r'],B,j,_,_,_,_,_,t,s,O,β',b,r',⟨S',sb,sn,?_,bd.app (by lia) (by rw[Bi];clear K I;lia) bT,?_,λl q=>?_⟩,rfl,rfl⟩
    .exact F.app (sn.row S'.lb S'.eb)
    .rw[KB];show L.length+1+_<=38;lia
    .rw[Re];rw[<-hr']at q⊢;exact o _ (.cons R6 ZJ q)
   .unfold rH;refine au (λf=>f=[some (.lst (c.map W.int)),some (.int t),some (.int s),some (.lst (L.map wI)),some (sJ C B j [] [] (B.getD (B.length -1) 0) (Sub.hnext h (B.getD (B.length -1) 0) (A.length -B.length)) Nm i u)]) (λN1 p=>?_) ?_
    .have p:=p _ rfl;rw[<-I]at p;unfold sJ wI at p⊢;fin2;refine WJ ?_;fin2;by_cases e:decide (u>0)=decide (i>0)
     .rw[D1 e]at p;rw[D1 (Fn e)];exact⟨rfl,p⟩
     .rw[Bz e]at p;rw[Bz (by rw[KE];exact e)];exact⟨rfl,p⟩
    rintro _ rfl;unfold sJ wI;fin2;refine⟨j,s,rfl,by lia,λx J=>?_,?_⟩
    .exact aF (n:=1) (m:=iO c w+1) (by lia) (bK (M x J)) (by lia)
    .refine⟨ny (by rw[Bi];have:=bd.1;lia),?_⟩;rw[mB];rfl
 rintro _ ⟨L,d,o1,o2,o4,⟨q,F,bd⟩,rfl⟩;fin2;exact hq L d q F bd
def Af:List CS:=[.ua [2,3] (.var 0),.ua [4,5] (.var 1),.set 6 (.call 0 [(.var 3),(.var 5)]),.iff (.cmp .Eq (.var 6) (.int 1)) [.ret (.tup [(.bin .Add (.bin .Mult (.var 2) (.var 5)) (.bin .Mult (.var 4) (.var 3))),(.bin .Mult (.var 3) (.var 5))])] [],.set 3 (.bin .FloorDiv (.var 3) (.var 6)),.set 7 (.bin .Add (.bin .Mult (.var 2) (.bin .FloorDiv (.var 5) (.var 6))) (.bin .Mult (.var 4) (.var 3))),.set 8 (.call 0 [(.var 7),(.var 6)]),.ret (.tup [(.bin .FloorDiv (.var 7) (.var 8)),(.bin .Mult (.var 3) (.bin .FloorDiv (.var 5) (.var 8)))])]
def Hz:aV:=λc Q _=>∃(a b:Rat)(n m:Nat),c=[wq a,wq b]/\(Bd n a/\Bd m b/\n<=6000/\m<=6000)/\Q (wq (a+b))
theorem R8(o:List W)(Q:W->Prop)(R:Addr->Prop)(h:Hz o Q R):wSs (bI [Dv]) G Af (bC y Q R) (aj 9 o):=by
 obtain⟨a,b,n,m,rfl,⟨t,s,H,I⟩,q⟩:=h;show wSs _ _ Af _ [some (wq a),some (wq b),none,none,none,none,none,none,none];unfold Af;unfold wq at q⊢;have w:=t.1;have x:(a.den:Int).natAbs<2^n:=by rw[BB];exact t.2
 have v:=s.1;have j:(b.den:Int).natAbs<2^m:=by rw[BB];exact s.2
 fin2;refine⟨rfl,?_⟩;fin2;refine⟨rfl,?_⟩;fin2;refine⟨a.den,b.den,m,rfl,j,by lia,?_⟩;fin2;by_cases h:((AS a.den b.den:Nat):Int)=1
 .rw[D1 (Fn h)];obtain⟨e,d⟩:=Jp a b (by lia);fin2;refine⟨aF w j (by lia),aF v x (by lia),aF x j (by lia),af (by simp),?_⟩;rw[e,d]at q;exact q
 .rw[Bz (by rw[KE];exact h)];obtain⟨_,_,rfl,rfl,p,D,C,F,E,k,e,d⟩:=Jo a b;have c:((AS a.den b.den:Nat):Int).natAbs<2^m:=by have:((AS a.den b.den:Nat):Int)<=b.den:=eJ (dpos b) (SB ..);lia
  generalize((AS a.den b.den:Nat):Int)=g at*;have r:∀i:Int,kN i g:=λi=>⟨by lia,eH c (by lia)⟩;have u:((a.den:Int)/g).natAbs<2^n:=by clear e d k;generalize(a.den:Int)/g=z at*;lia
  have l:((b.den:Int)/g).natAbs<2^m:=by clear e d k;generalize(b.den:Int)/g=z at*;lia
  fin2;simp only[Iy _ (TK p)];refine⟨r _,r _,aF w l (by lia),aF v u (by lia),?_⟩;fin2;refine⟨_,g,m,rfl,c,by lia,?_⟩;have A:((AS (a.num*((b.den:Int)/g)+b.num*((a.den:Int)/g)) g:Nat):Int)<=g:=eJ p (SB ..);generalize((AS (a.num*((b.den:Int)/g)+b.num*((a.den:Int)/g)) g:Nat):Int)=f at*;have cf:∀i:Int,kN i f:=λi=>⟨by lia,eH (n:=m) (by lia) (by lia)⟩;have B:((b.den:Int)/f).natAbs<2^m:=HI (aw ..) j;fin2;simp only[Iy _ (TK k)];refine⟨cf _,cf _,aF u B (by lia),af (by simp),?_⟩;rw[e,d]at q;exact q
structure GIn(a:List Rat):Prop where
 l8:a.length<=8
 z:aq a
 cd:∃D:Int,0<D/\D.natAbs<2^101/\∀x∈a,Cd D 117 x
 bd:∀x∈a,Bd 200 x
theorem Nn{x:Int}(h:x.natAbs<2^n)(e:Nat):(x^e).natAbs<=2^(n*e):=by rw[Sub.g5,ky];exact bj (SZ h) e
noncomputable def wv(t p:Int):List Int->Int
 |[]=>0
 |c::l=>wv t p l*t+c*p^l.length
theorem Np(a:t.natAbs<2^m)(b:p.natAbs<2^m):∀{l:List Int},(∀x∈l,x.natAbs<2^n)->(wv t p l).natAbs<2^(n+l.length*(m+1)+1)
 |[],_=>TB (by decide)
 |c::l,h=>by
  have ih:=Np a b (l:=l) λx d=>h x (FM _ d);have g:(wv t p l*t).natAbs<2^(n+l.length*(m+1)+1+m):=by rw[GT];exact lt_mul ih a
  have f:(c*p^l.length).natAbs<2^(n+l.length*(m+1)+1+m):=by
   rw[GT];have e:m*l.length<=l.length*(m+1):=by rw[ag,tq];lia
   refine z9 (n:=n+(m*l.length+1)) (lt_mul (h c FS) (bK (Nn b l.length))) ?_;lia
  show(wv t p l*t+c*p^l.length).natAbs<_;rw[Av,show n+(l.length+1)*(m+1)+1=(n+l.length*(m+1)+1+m)+1 by rw[xk];lia,El];lia
noncomputable def gu:List CS:=[.set 3 (.int 0),.set 4 (.int 1),.fr [5] true (.rev (.var 0)) [.set 3 (.bin .Add (.bin .Mult (.var 3) (.var 1)) (.bin .Mult (.var 5) (.var 4))),.set 4 (.bin .Mult (.var 4) (.var 2))],.ret (.var 3)]
def iE:aV:=λb Q _=>∃(a:List Int)(t p:Int)(n m:Nat),b=[wI a,.int t,.int p]/\(a.length<=50/\(∀x∈a,x.natAbs<2^n)/\t.natAbs<2^m/\p.natAbs<2^m/\n<=60000000/\m<=3000)/\Q (.int (wv t p a))
theorem sM(k:List W)(Q:W->Prop)(R:Addr->Prop)(h:iE k Q R):wSs z G gu (bC A Q R) (aj 6 k):=by
 obtain⟨a,t,p,n,m,rfl,⟨B,u,bt,f,I,J⟩,q⟩:=h;show wSs _ _ gu _ [some (wI a),some (.int t),some (.int p),none,none,none];unfold gu wI;fin2;refine aP (λi v=>∃b,v=[some (.lst (a.map W.int)),some (.int t),some (.int p),some (.int (wv t p (a.drop (a.length -i)))),some (.int (p^i)),b]) ⟨none,?_⟩ ?_ ?_
 .rw[Km,yB,PP];rfl
 .rintro i w _ N r ⟨b,rfl⟩ E;obtain⟨D,e⟩:=Fu.mp r;rw[gL,Bi]at D;have d:a.length -1 -i<a.length:=by lia
  obtain⟨y,c,rfl⟩:∃y,y=a[a.length -1 -i]/\w=.int y:=by refine⟨_,rfl,?_⟩;rw[<-e,List.getElem_reverse,List.getElem_map];simp only[Bi]
  fin2;have g:=Np (n:=n) bt f (l:=a.drop (a.length -i)) λx C=>u x (ZF C);have o:(a.drop (a.length -i)).length=i:=by rw[yA];clear g e r c d;lia
  rw[o]at g;have K:i*(m+1)<=50*3001:=QR (by lia) (by lia);have H:m*i<=3000*50:=QR (by lia) (by lia);have s:y.natAbs<2^n:=by rw[c];exact u _ (d5 d)
  have j:=bK (Nn f i);refine⟨aF g bt (by clear j s H;lia),aF s j (by lia),aF j f (by lia),E _ ⟨some (.int y),?_⟩⟩;have F:a.drop (a.length -(i+1))=y::a.drop (a.length -i):=by rw[show a.length -(i+1)=a.length -1 -i by lia,i3 d,show a.length -1 -i+1=a.length -i by lia,c]
  rw[F,Hb];show _=[some (W.lst (a.map W.int)),some (W.int t),some (W.int p),some (W.int (wv t p (a.drop (a.length -i))*t+y*p^(a.drop (a.length -i)).length)),some (W.int (p^i*p)),some (W.int y)];rw[o]
 .rintro _ ⟨b,rfl⟩;fin2;rw[gL,Bi,vk,WI];exact q
theorem Cb(x:Rat):x*((x.den:Int):Rat)=x.num:=by have:=gA (x:=x) (B:=x.den) (Rn _);rw[eu (by have:=x.den_nz;lia),eC]at this;exact this.symm
noncomputable def rJ:List CS:=[.set 5 (.call 0 [(.var 4),(.ix (.var 1) (.int 0)),(.ix (.var 1) (.int 1))]),.iff (.cmp .NotEq (.var 5) (.int 0)) [.iff (.and [(.cmp .NotEq (.var 3) (.int 0)),(.cmp .NotEq (.cmp .Gt (.var 5) (.int 0)) (.cmp .Gt (.var 3) (.int 0)))]) [.set 2 (.bin .Add (.var 2) (.int 1))] [],.set 3 (.var 5)] []]
noncomputable def nF:List CS:=[.set 2 (.int 0),.set 3 (.int 0),.fr [4] true (.var 0) rJ,.ret (.var 2)]
structure HA(L:List (List Int)):Prop where
 ex:∃n m,yx n m L/\n<=30/\m<=10000000
def Bx(x:Rat):Prop:=∃m,m<=3000/\x.num.natAbs<2^m/\x.den<2^m
def rK:aV:=λa Q _=>∃(L:List (List Int))(x:Rat),a=[.lst (L.map wI),wq x]/\(HA L/\Bx x)/\Q (.int (jE 0 (L.map (wv x.num x.den)):Nat))
theorem DA(q:List W)(Q:W->Prop)(R:Addr->Prop)(h:rK q Q R):wSs (bI [iE]) G nF (bC m Q R) (aj 6 q):=by
 obtain⟨L,x,rfl,⟨⟨n,k,⟨S,M⟩,U,X⟩,K⟩,F⟩:=h;show wSs _ _ nF _ [some (.lst (L.map wI)),some (wq x),none,none,none,none];unfold nF;fin2;generalize I:wv x.num x.den=f at*;refine aP (λi C=>∃(t b:Int)(j g:Option W),t+(jE b ((L.drop i).map f):Nat)=(jE 0 (L.map f):Nat)/\C=[some (.lst (L.map wI)),some (wq x),some (.int t),some (.int b),j,g]) ⟨0,0,none,none,by rw[WI,zza],rfl⟩ ?_ ?_
 .rintro i w _ N r ⟨t,b,j,g,e,rfl⟩ c;rw[FR]at r;obtain⟨A,u,rfl⟩:=L9.mp r;obtain⟨H,P⟩:=Fu.mp u;obtain⟨T,O⟩:=M A (Mo u);have J:L.drop i=A::L.drop (i+1):=by rw[i3 H,P]
  rw[J,Wp]at e;have e:t+((if f A=0 then jE b ((L.drop (i+1)).map f)else(if b≠0/\¬decide (f A>0)=decide (b>0)then 1 else 0)+jE (f A) ((L.drop (i+1)).map f):Nat):Int)=(jE 0 (L.map f):Nat):=e;unfold rJ;refine au (λd=>d=[some (.lst (L.map wI)),some (wq x),some (.int t),some (.int b),some (wI A),some (.int (f A))]) (λY B=>?_) ?_
  .unfold wq at B⊢;fin2;refine⟨_,rfl,_,rfl,?_⟩;obtain⟨D,l,p,o⟩:=K;refine⟨A,x.num,x.den,k+1,D,rfl,⟨by lia,λy E=>bK (O y E),p,by rw[BB];exact o,by lia,l⟩,?_⟩;rw[I];exact B _ rfl
  rintro _ rfl;generalize f A=v at*;fin2;by_cases z:v=0
  .rw[D1 z]at e;rw[z,Bz (by decide)];exact c _ ⟨t,b,_,_,e,rfl⟩
  .rw[Bz z]at e;rw[D1 (by simpa using z)];by_cases a:b=0
   .rw[Bz λh=>h.1 a,lh]at e;rw[Bz (by simpa using a)];fin2;exact c _ ⟨t,v,_,_,e,rfl⟩
   .rw[D1 (by simpa using a)];refine WK ?_;fin2;by_cases s:decide (v>0)=decide (b>0)
    .rw[Bz λh=>h.2 s,lh]at e;rw[Bz (by simpa using s)];exact c _ ⟨t,v,_,_,e,rfl⟩
    .rw[D1 ⟨a,s⟩]at e;rw[D1 (by simpa using s)];exact c _ ⟨t+1,v,_,_,by rw[<-e];lia,rfl⟩
 .rintro _ ⟨t,b,j,g,e,rfl⟩;fin2;rw[Bi,yB]at e;have e:t+0=(jE 0 (L.map f):Nat):=e;rw[iq]at e;rw[e];exact F
theorem WL(i:b<=101000)(a:2<=Z.length)(g:Z.length<=20)(d:Z.getD (Z.length -1) 0≠0)(h:∀x∈Z,x.natAbs<=2^b):TL Z (b+10) 230:=by
 have f:=fK Z;have c:iO Z (b+10)<=101010*38:=QR (by lia) (by rw[f];lia);refine⟨Vd (m:=37) (M:=2^b) a (by lia) (by lia) h (wb) ?_ (by decide+kernel),?_,Do (S2 c) (by decide),Do (X9 _ (by lia:b+10<=101010)) (by decide),by lia,a,d⟩
 .have e:(2*Z.length -2)*(Z.length -1)<=38*19:=QR (by lia) (by lia);rw[<-mI,Y1,ag (2^b)];exact X9 _ (Do e (by decide))
 .exact Do (QR (by lia:Z.length+1<=21) (u3 c 2)) (by decide)
structure Q43(ns:List Int):Prop where
 ex:∃w E,TL ns w E/\ns.length<=21/\iO ns w+1<=4800
noncomputable def kj:List CS:=[.set 1 (.call 0 [(.var 0)]),.iff (.cmp .Eq (.blt .len [(.ix (.var 1) (.neg (.int 1)))]) (.int 1)) [.ret (.var 1)] [],.ret (.call 0 [(.call 1 [(.var 0),(.ix (.call 2 [(.ix (.var 1) (.neg (.int 1)))]) (.int 1))])])]
def jx:aV:=λb Q _=>∃a:List Int,b=[wI a]/\Q43 a/\∀L C,Cc (qI a) C->Pz L C->HA L->Q (.lst (L.map wI))
theorem Ag(M:List W)(Q:W->Prop)(R:Addr->Prop)(h:jx M Q R):wSs (bI [lX,je,iy]) G kj (bC m Q R) (aj 2 M):=by
 obtain⟨a,rfl,⟨w,E,P,Lz,hl⟩,X⟩:=h;show wSs _ _ kj _ [some (wI a),none];unfold kj;have l2:=P.l2;refine au (λe=>∃(L:List (List Int))(l:List (List Rat)),(r6 (qI a) (bF (qI a)) l/\Pz L (qI a::bF (qI a)::l)/\yx a.length (iO a w) L)/\e=[some (wI a),some (.lst (L.map wI))]) (λN B=>?_) ?_
 .fin2;exact⟨a,w,E,rfl,P,λL l j o bd=>B _ ⟨L,l,⟨j,o,bd⟩,rfl⟩⟩
 rintro _ ⟨L,l,⟨j,o,bd⟩,rfl⟩;have p:Rp (qI a):=⟨gD P.nz,by rw[bJ];exact l2⟩;obtain⟨g,F,J,O,_⟩:=j.last (mZ p.z) p.kY;have D:(qI a::bF (qI a)::l).getLast?=some g:=by rw[ke];exact F
 obtain⟨A,Y,s⟩:=o.last D;have mA:A∈L:=List.mem_of_getLast? Y;obtain⟨lA,bA⟩:=bd.2 A mA;have eW:(L.map wI).getLast?=some (wI A):=by rw[sk,Y];rfl
 have U:g.length=A.length:=s.choose_spec.2.1;have t:=s.ne J O;have A0:0<A.length:=by rw[<-U];exact Jn.mpr O
 refine au (λe=>A.length≠1/\e=[some (wI a),some (.lst (L.map wI))]) (λN B=>?_) ?_
 .fin2;refine⟨_,nj eW,?_⟩;have v:=B [some (wI a),some (.lst (L.map wI))];by_cases one:A.length=1
  .obtain⟨c,rfl⟩:=si.mp (U.trans one);have:=X L _ (JR p j F (J c rfl)) o ⟨_,_,bd,by lia,by lia⟩;unfold wI at this⊢;fin2;rw[Bi,D1 (Fn (by lia))];exact this
  .have:=v ⟨one,rfl⟩;unfold wI at this⊢;fin2;rw[Bi,Bz (by rw[KE];lia)];exact this
 rintro _ ⟨one,rfl⟩;fin2;have mg:A.getD (A.length -1) 0∈A:=Sub.getD_mem' (by lia);refine⟨_,nj eW,A,iO a w+1,rfl,⟨⟨_,mg,t⟩,by lia,by lia,λx d=>bK (bA x d)⟩,λc u f bc=>⟨_,rfl,?_⟩⟩;obtain⟨Z,⟨T,S⟩,⟨z0,I,K⟩,bp,zz⟩:=OX l2 P.nz j F s f.pos f.dv f.all f.eq;have lm:u.length=A.length:=by rw[f.eq,Bi]
 have n:∀x∈u,x.natAbs<2^(iO a w+1):=λx d=>by rw[f.eq]at d;obtain⟨y,hy,rfl⟩:=OF.mp d;refine HI (aw y c) (bK (bA y hy))
 have XU:∀x∈a,x.natAbs<2^(iO a w+1):=λx d=>bK (P.sm.C.bd.1 x d);have bZ:=Br K I (by lia) T S XU n Z.length;have WM:Z.length<=20:=by lia
 have Rz:Rp (qI Z)/\_:=bp.len p;have z2:2<=Z.length:=by rw[<-bJ Z];exact Rz.1.l2
 obtain⟨b,hb⟩:∃b,b=4800+20*4805:=⟨_,rfl⟩;have bz:∀x∈Z,x.natAbs<2^b:=λx d=>by obtain⟨i,hi,rfl⟩:=UF d;have:=bZ i (zze _ _);rw[AC,D2 hi]at this;refine Fm this (Ha (by decide) ?_);rw[hb];exact zzh (by lia) (QR WM (by lia))
 refine⟨a,u,Z,b,rfl,⟨T,z0,by lia,I,λk=>?_,S,by lia,λx d=>z9 (n x d) (by lia),bz⟩,?_⟩
 .rw[K k,f7];rfl
 have P2:=WL (by lia:b<=101000) z2 WM zz λx d=>SZ (bz x d);refine⟨Z,_,_,rfl,P2,λL2 l2 q r H=>X L2 _ ⟨qI Z,l2,rfl,bp,q⟩ r ⟨_,_,H,by lia,Nat.le_of_succ_le P2.XT⟩⟩
structure TM(ns:List Int)(b:Nat):Prop where
 l2:2<=ns.length
 Lz:ns.length<=21
 nz:ns.getD (ns.length -1) 0≠0
 bd:∀x∈ns,x.natAbs<=2^b
 hb:(b+10)*(2*ns.length -2)+1<=4800
theorem R9(h:TM ns b):Q43 ns:=by
 have l2:=h.l2;have Lz:=h.Lz;have c:=fK ns;have a:iO ns (b+10)=(b+10)*(2*ns.length -2):=by unfold iO;rw[c];congr 1;lia
 have hb:=h.hb;have d:b+10<=4800:=by have:(b+10)*1<=(b+10)*(2*ns.length -2):=Fk _ (by clear hb a c Lz;lia);lia
 refine⟨b+10,230,⟨Vd (m:=39) (M:=2^b) l2 (by lia) (by lia) h.bd wb ?_ (by decide+kernel),?_,by rw[a];lia,Do (X9 _ d) (by decide),by lia,l2,h.nz⟩,Lz,by rw[a];exact hb⟩
 .have e:(2*ns.length -2)*(ns.length -1)<=40*20:=QR (by lia) (by lia);rw[<-mI,Y1,ag (2^b)];exact X9 _ (Do e (by decide))
 .refine Do (QR (by lia:ns.length+1<=22) (show iO ns (b+10)+2<=4802 by rw[a];lia)) (by decide)
noncomputable def lY(ns:List Int)(t d:Int):List Rat:=ns.map λx=>An (x*t) d
theorem LA(ns:List Int)(t d:Int)(i:Nat):(lY ns t d).getD i 0=An (ns.getD i 0*t) d:=by
 unfold lY;rw[AC,AC,FR];cases ns[i]? with
 |none=>show(0:Rat)=An (0*t) d;rw[dk,Rat.zero_divInt]
 |some x=>rfl
theorem Ah{ns ms:List Int}{U V:Int}(j:U≠0)(s:V≠0)(h:∀i,ms.getD i 0*U=ns.getD i 0*V)(one:∀d:Int,(∀x∈ms,d∣x)->d∣1)(i:Nat):(ms.getD i 0).natAbs<=(ns.getD i 0).natAbs:=by
 have p:0<AS U V:=vw _ j;obtain⟨u,f⟩:=eD (a:=U) (b:=V);obtain⟨v,l⟩:=SB (a:=U) (b:=V);have g:AS u v=1:=by have:=dy (AS U V:Int) u v;rw[<-f,<-l,BB]at this;exact X8 p (by rw[Sn];exact this.symm)
 have e:∀i,ms.getD i 0*u=ns.getD i 0*v:=λi=>by have r:ms.getD i 0*U=ms.getD i 0*((AS U V:Int)*u):=SU (ms.getD i 0*·) f;have q:ns.getD i 0*V=ns.getD i 0*((AS U V:Int)*v):=SU (ns.getD i 0*·) l;refine QQ (a:=(AS U V:Int)) (by lia) ?_;rw[dg,<-r,h i,q,dg]
 have dv:v∣1:=one v λx n=>by obtain⟨k,o,rfl⟩:=UF n;have c:=e k;rw[AC,D2 o]at c;have c:ms[k]*u=ns.getD k 0*v:=c;have:v∣ms[k]*u:=⟨ns.getD k 0,by rw[c,ar]⟩;have this:=Ta.mpr this;rw[GT]at this;exact Ta.mp (ib (by rw[Nat.coprime_iff_gcd_eq_one,Nat.gcd_comm];exact g) this)
 have m:v.natAbs=1:=Nat.dvd_one.mp (Ta.mpr dv);have t:u≠0:=λz=>j (by rw[f,z,T1]);have:=SU L0 (e i);rw[GT,GT,m,Sn]at this;rw[<-this];exact UV _ (by lia)
theorem Nq(t b:Int):∀l:List Int,wv t b l=Num.wv t b l
 |[]=>rfl
 |x::l=>by show wv t b l*t+x*b^l.length=Num.wv t b l*t+x*b^l.length;rw[Nq t b l]
def Ctn(ns:List Int)(lo hi:Rat)(v:Int):Prop:=∃(c:Rat)(C:List (List Rat)),c≠0/\Cc (u6 c (qI ns)) C/\v=(cP C lo:Nat) -(cP C hi:Nat)
theorem Sa(K:TM ns b)(f:t≠0)(C:t.natAbs<=7)(S:0<d)(X:d.natAbs<2^100)
 (h:∀(ms:List Int)(κ:Rat)(U V:Int)(E D:W),κ≠0->TM ms b->ms.length=ns.length->qI ms=u6 κ (qI ns)->U≠0->V≠0->(∀i,ms.getD i 0*U=ns.getD i 0*V)->Q (.tup [wI ms,E,D])):iA [jG (lY ns t d)] Q R:=by
 have I:(lY ns t d).length=ns.length:=Bi _;have l2:=K.l2;have Lz:=K.Lz;have hb:=K.hb;have O:b<=4800:=by have:(b+10)*1<=(b+10)*(2*ns.length -2):=Fk _ (by lia);lia
 have r:(d:Rat)≠0:=λz=>by have:=GM.mp z;lia
 have p:∀x:Int,An (x*t) d*d=((x*t:Int):Rat):=λx=>by rw[mM];grind
 have T:∀x∈lY ns t d,Cd d (b+3) x:=λx o=>by
  obtain⟨y,M,rfl⟩:=OF.mp o;refine⟨y*t,p y,?_⟩;rw[GT,Y1];have:=K.bd y M;have Z:0<2^b:=TB (by decide)
  calc y.natAbs*t.natAbs<=2^b*7:=QR this C
   _<2^b*2^3:=by lia
 have m:∃x∈lY ns t d,x≠0:=by have H:ns.getD (ns.length -1) 0∈ns:=Sub.getD_mem' (by lia);refine⟨_,OF.mpr ⟨_,H,rfl⟩,λz=>?_⟩;have:=p (ns.getD (ns.length -1) 0);rw[z,Y2]at this;have:=GM.mp this.symm;exact Kt K.nz f this
 refine⟨lY ns t d,d,b+3,100,rfl,⟨m,T,S,X,by decide,by lia,by lia⟩,λms B c g _ _ _=>?_⟩;have B0:=g.bpos;have c0:=g.cpos;have G:(B:Rat)≠0:=λz=>by have:=GM.mp z;lia
 have s:(c:Rat)≠0:=λz=>by have:=GM.mp z;lia
 have F:(t:Rat)≠0:=λz=>f (GM.mp z);have l:∀i,((ms.getD i 0:Int):Rat)*c*d=((ns.getD i 0:Int):Rat)*t*B:=λi=>by have v:=g.at_ i;rw[LA]at v;have u:=p (ns.getD i 0);rw[BM]at u;rw[v,<-u];grind
 have a:∀i,ms.getD i 0*(c*d)=ns.getD i 0*(t*B):=λi=>by have:=l i;rw[<-BM,<-BM,<-BM,<-BM]at this;have:=oy.mp this;rw[Yf,Yf]at this;exact this
 have n:ms.length=ns.length:=g.len.trans I;have J:=Ah (Kt (by lia:c≠0) (by lia:d≠0)) (Kt f (by lia:B≠0)) a g.one;have A:ms.getD (ms.length -1) 0≠0:=λz=>by have:=a (ms.length -1);rw[z,dk,n]at this;exact Kt K.nz (Kt f (by lia:B≠0)) this.symm
 have Y:TM ms b:=⟨by lia,by lia,A,λx o=>by obtain⟨k,N,rfl⟩:=UF o;have:=J k;rw[AC,D2 N]at this;exact Do this (K.bd _ (Sub.getD_mem' (by lia))),by rw[n];exact hb⟩;have w:(t:Rat)*B*((c:Rat)*d)⁻¹≠0:=λz=>by
  have q:(c:Rat)*d≠0:=λz=>(Kk.mp z).elim s r;have:=OK _ q;rcases Kk.mp z with z|z
  .exact(Kk.mp z).elim F G
  .rw[z,Y2]at this;exact absurd this (by decide+kernel)
 have P:qI ms=u6 ((t:Rat)*B*((c:Rat)*d)⁻¹) (qI ns):=E2 (gD A) (Bo w (gD K.nz)) λk=>by
  show cQ (qI ms) k=cQ (u6 _ (qI ns)) k;rw[qw,cS,cS];have q:(c:Rat)*d≠0:=λz=>(Kk.mp z).elim s r;have L:=OK _ q;have:=l k;generalize((ms.getD k 0:Int):Rat)=x at*;generalize((ns.getD k 0:Int):Rat)=y at*;generalize((c:Rat)*d)⁻¹=j at*;have e:x=x*(j*(c*d)):=by rw[L,mf]
  rw[e,show x*(j*(c*d))=j*(x*c*d) by grind,this];grind
 exact h ms _ _ _ _ _ w Y n P (Kt (by lia:c≠0) (by lia:d≠0)) (Kt f (by lia:B≠0)) a
noncomputable def yy(a b:List Int):List Int:=tabI (a.length+b.length -1) (cf a b a.length)
noncomputable def Ce:List CS:=[.fr [4] true (.jN [(.blt .len [(.var 1)])]) [.put 2 (.bin .Add (.var 3) (.var 4)) (.bin .Add (.ix (.var 2) (.bin .Add (.var 3) (.var 4))) (.bin .Mult (.ix (.var 0) (.var 3)) (.ix (.var 1) (.var 4))))]]
noncomputable def Ai:List CS:=[.set 2 (.bin .Mult (.lst [(.int 0)]) (.bin .Sub (.bin .Add (.blt .len [(.var 0)]) (.blt .len [(.var 1)])) (.int 1))),.fr [3] true (.jN [(.blt .len [(.var 0)])]) Ce,.ret (.var 2)]
def uz:aV:=λc Q _=>∃b a:List Int,c=[wI b,wI a]/\(0<b.length/\0<a.length/\b.length<=200/\a.length<=200/\∀x∈b,∀y∈a,IntMulOk x y)/\Q (wI (yy b a))
theorem Se(r:List W)(Q:W->Prop)(R:Addr->Prop)(h:uz r Q R):wSs v G Ai (bC m Q R) (aj 5 r):=by
 obtain⟨b,a,rfl,⟨I,H,C,B,E⟩,l⟩:=h;show wSs _ _ Ai _ [some (wI b),some (wI a),none,none,none];unfold Ai;unfold wI yy at*;fin2;have u:((b.map W.int).length:Int)+((a.map W.int).length:Int) -1=((b.length+a.length -1:Nat):Int):=by rw[Bi,Bi];lia
 rw[u,Gg,gJ];refine⟨af (by simp),by lia,by lia,af (by simp;lia),by lia,by lia,?_⟩;rw[Bi,Gg];refine aP (λi d=>∃o3 c,d=[some (.lst (b.map W.int)),some (.lst (a.map W.int)),some (.lst ((tabI (b.length+a.length -1) (cf b a i)).map W.int)),o3,c]) ⟨none,none,?_⟩ ?_ ?_
 .have:tabI (b.length+a.length -1) (cf b a 0)=B1 (b.length+a.length -1) 0:=by unfold tabI;have:cf b a 0=λ_=>0:=rfl;rw[this,TQ,de]
  rw[this,My]
 .rintro i w _ N s ⟨o3,c,rfl⟩ F;obtain⟨p,rfl⟩:=fX s;unfold Ce;fin2;refine⟨by clear s p u B C H I;lia,by lia,?_⟩;rw[Bi,Gg];refine aP (λj d=>∃c,d=[some (.lst (b.map W.int)),some (.lst (a.map W.int)),some (.lst ((tabI (b.length+a.length -1) (xw b a i j)).map W.int)),some (.int i),c]) ⟨c,?_⟩ ?_ ?_
  .rw[show xw b a i 0=cf b a i from funext λk=>xx b a i k]
  .rintro j w _ J A ⟨c,rfl⟩ z;obtain⟨t,rfl⟩:=fX A;have o:i+j<b.length+a.length -1:=by lia
   fin2;rw[show(i:Int)+(j:Int)=((i+j:Nat):Int) by lia];refine⟨_,cD (by rw[FR,eY o];rfl),_,cD (int_at p),_,cD (int_at t),?_⟩;fin2;refine⟨vL (P:=λx=>IntMulOk x (a.getD j 0)) (λx D=>vL (P:=λy=>IntMulOk x y) (E x D) t) p,i+j,i9 (by rw[Bi,bD];exact o),z _ ⟨some (.int j),?_⟩⟩;have e:=fY (n:=b.length+a.length -1) (f:=xw b a i j) (g:=xw b a i (j+1)) (k:=i+j) o (λq _ l=>by rw[kR,Bz l,iq]);rw[kR,D1 rfl]at e;rw[<-e,lj]
  .rintro _ ⟨c,rfl⟩;refine F _ ⟨some (.int i),c,?_⟩;rw[rF,show xw b a i a.length=cf b a (i+1)from funext λk=>xA b a i k]
 .rintro _ ⟨o3,c,rfl⟩;rw[rF];fin2;exact l
noncomputable def vR:List CS:=[.set 1 (.int 0),.fr [2] true (.var 0) [.set 1 (.call 0 [(.var 1),(.var 2)])],.iff (.cmp .Lt (.ix (.var 0) (.neg (.int 1))) (.int 0)) [.set 1 (.bin .Sub (.int 0) (.var 1))] [],.ret (.comp [0] true 1 (.var 0) (.bl true) (.bin .FloorDiv (.var 0) (.var 2)))]
structure Lp(ns ms:List Int)(c:Int):Prop where
 c0:c≠0
 len:ms.length=ns.length
 eq:∀k,ns.getD k 0=c*ms.getD k 0
 one:∀d:Int,(∀x∈ms,d∣x)->d∣1
 sg:0<=ns.getD (ns.length -1) 0*c
def Aj:aV:=λd Q _=>∃(a:List Int)(n:Nat),d=[wI a]/\(0<a.length/\a.length<=100/\a.getD (a.length -1) 0≠0/\(∀x∈a,x.natAbs<2^n)/\n<=100000000)/\∀b c,Lp a b c->Q (wI b)
theorem WQ(o:0<=ns.getD (ns.length -1) 0*c)(i:c=g\/c= -g)(s:0<ns.length)(n:ns.getD (ns.length -1) 0≠0)(dv:∀j,j<ns.length->g∣ns.getD j 0)(r:∀d:Int,(∀j,j<ns.length->d∣ns.getD j 0)->d∣g):Lp ns (ns.map (·.fdiv c)) c:=by
 have m:∀j,c∣ns.getD j 0:=λj=>by
  by_cases a:j<ns.length
  .rcases i with rfl|rfl
   .exact dv j a
   .exact Int.neg_dvd.mpr (dv j a)
  .rw[outI (by lia)];exact zzc c
 have e:c≠0:=λz=>n (by have:=m (ns.length -1);rw[z]at this;exact fg.mp this);have q:∀k,(ns.map (·.fdiv c)).getD k 0=(ns.getD k 0).fdiv c:=λk=>Sub.map_getD (f:=λy=>y.fdiv c) (ej c) k;have l:∀k,ns.getD k 0=c*(ns.map (·.fdiv c)).getD k 0:=λk=>by rw[q];obtain⟨u,b⟩:=m k;rw[b,js _ e]
 refine⟨e,Bi _,l,λd p=>?_,o⟩;have h:c*d∣g:=r _ λj a=>by rw[l j];refine zzn _ (p _ ?_);exact Sub.getD_mem' (by rw[Bi];exact a)
 have h:c*d∣c:=by
  rcases i with rfl|rfl
  .exact h
  .exact hH.mpr h
 obtain⟨u,b⟩:=h;exact⟨u,QQ e (by rw[eC,<-Yf];exact b)⟩
theorem LB(u:List W)(Q:W->Prop)(R:Addr->Prop)(h:Aj u Q R):wSs (bI [B6]) G vR (bC m Q R) (aj 3 u):=by
 obtain⟨a,n,rfl,⟨x,U,v,S,I⟩,H⟩:=h;show wSs _ _ vR _ [some (wI a),none,none];unfold vR;refine au (λb=>b=[some (wI a),some (.int 0),none]) (λN f=>?_) ?_
 .fin2;exact f _ rfl
 rintro _ rfl;refine au (λb=>∃(g:Nat)(o2:Option W),((∀j,j<a.length->(g:Int)∣a.getD j 0)/\∀d:Int,(∀j,j<a.length->d∣a.getD j 0)->d∣(g:Int))/\b=[some (wI a),some (.int g),o2]) (λN f=>?_) ?_
 .unfold wI at f⊢;fin2;refine aP (λi E=>∃(g:Nat)(o2:Option W),((∀j,j<i->(g:Int)∣a.getD j 0)/\∀d:Int,(∀j,j<i->d∣a.getD j 0)->d∣(g:Int))/\E=[some (.lst (a.map W.int)),some (.int g),o2]) ⟨0,none,⟨λj l=>by lia,λd _=>zzc d⟩,rfl⟩ ?_ ?_
  .rintro i w _ X B ⟨g,o2,⟨p,o⟩,rfl⟩ P;rw[FR]at B;obtain⟨y,A,rfl⟩:=L9.mp B;have D:a.getD i 0=y:=by rw[AC,A];rfl
   fin2;refine⟨g,y,rfl,P _ ⟨AS g y,_,⟨λj l=>?_,λd C=>?_⟩,rfl⟩⟩
   .rcases Nat.lt_succ_iff_lt_or_eq.mp l with l|rfl
    .exact N0 (eD ..) (p j l)
    .rw[D];exact SB ..
   .refine e9 (o d λj l=>C j (by lia)) ?_;rw[<-D];exact C i (by lia)
  .rintro _ ⟨g,o2,h,rfl⟩;rw[Bi]at h;exact f _ ⟨g,o2,h,rfl⟩
 rintro _ ⟨g,o2,⟨p,o⟩,rfl⟩;have O:=yt x;refine au (λb=>∃(c:Int)(o2:Option W),((c=g\/c= -(g:Int))/\0<=a.getD (a.length -1) 0*c)/\b=[some (wI a),some (.int c),o2]) (λN f=>?_) ?_
 .have t:=λq=>f [some (wI a),some (.int g),o2] ⟨_,_,⟨.inl rfl,q⟩,rfl⟩;have s:=λq=>f [some (wI a),some (.int (0 -g)),o2] ⟨_,_,⟨.inr (by lia),q⟩,rfl⟩;unfold wI at t s⊢;fin2;refine⟨_,O,?_⟩;fin2;by_cases q:a.getD (a.length -1) 0<0
  .rw[D1 (Fn q)];refine s ?_;rw[zz9,zzl,<-u4];exact eQ (by lia) (by lia)
  .rw[Bz (by rw[KE];exact q)];exact t (eQ (by lia) (by lia))
 rintro _ ⟨c,o2,⟨J,F⟩,rfl⟩;have L:=WQ F J x v p o;have T:c.natAbs<2^n:=by have e:=L.eq (a.length -1);have r:=S _ (Sub.getD_mem' (k:=a.length -1) (by lia));rw[e,GT]at r;refine HI (UV _ ?_) r;have:(a.map (·.fdiv c)).getD (a.length -1) 0≠0:=λz=>v (by rw[e,z,T1]);clear this r;lia
 have q:=H _ c L;unfold wI at q⊢;fin2;refine cH (h:=W.int) (g:=λy=>.int (y.fdiv c)) a [] _ (λy A K M=>?_) (af (by simp;lia)) ?_
 .fin2;exact⟨⟨L.c0,rj T (Do I (by decide))⟩,M⟩
 .rw[U2]at q;exact q
theorem nG(F G:List Int):(yy F G).length=F.length+G.length -1:=bD ..
theorem Cf(a:0<F.length)(k:Nat):(yy F G).getD k 0=cf F G F.length k:=by
 unfold yy;rw[B8];split
 .rfl
 .rw[kT F G k F.length (by lia)]
theorem HB(a:0<F.length)(x:Rat):ev x (qI (yy F G))=ev x (qI F)*ev x (qI G):=nT x λk=>by rw[cS,Cf a,f7];show((jT (co F) (co G) k:Int):Rat)=_;rw[<-qe];exact aW (λi=>(cS F i).symm) (λi=>(cS G i).symm) k
theorem LC(a:0<F.length)(z:Int)(x:Rat):ev x (qI (F.set 0 (F.getD 0 0+z)))=ev x (qI F)+z:=by
 cases F with
 |nil=>exact absurd a (by decide)
 |cons y F=>show((y+z:Int):Rat)+x*ev x (qI F)=(y:Rat)+x*ev x (qI F)+z;rw[RF];grind
theorem WU{x y:W}(b:0<=i)(a:i<2):∃w,jQ [x,y] i=some w/\(w=x\/w=y):=by
 have:i=0\/i=1:=by lia
 rcases this with rfl|rfl
 .exact⟨x,rfl,.inl rfl⟩
 .exact⟨y,rfl,.inr rfl⟩
theorem vU(a:0<F.length)(b:0<G.length):(yy F G).getD ((yy F G).length -1) 0=F.getD (F.length -1) 0*G.getD (G.length -1) 0:=by rw[nG,Cf a,<-Jr F G a b];congr 1
theorem Nr(d:∀y∈F,y.natAbs<2^n)(c:∀y∈G,y.natAbs<2^m)(b:F.length<=2^k):∀x∈yy F G,x.natAbs<=2^(n+m+k):=λx a=>by obtain⟨j,_,rfl⟩:=rE a;refine Do (ML d c j F.length) ?_;rw[Y1 2 (n+m) k,ag];exact Fk _ b
structure Kr(n:Kn)(ms:List Int):Prop where
 l2:2<=ms.length
 l4:ms.length<=4
 k1:n.k=1->ms.length=2
 one:∀d:Int,(∀x∈ms,d∣x)->d∣1
 pos:0<ms.getD (ms.length -1) 0
 ev:∃c:Rat,0<c/\∀x,n.h x=c*Num.ev x (qI ms)
theorem Kr.nz(h:Kr n ms):ms.getD (ms.length -1) 0≠0:=λz=>by have:=h.pos;rw[z]at this;exact absurd this (by decide)
theorem Kr.cj(h:Kr n ms)(k2:n.k=2):Kr n.cj ms:=by obtain⟨c,a,e⟩:=h.ev;exact⟨h.l2,h.l4,h.k1,h.one,h.pos,c,a,λx=>by rw[n.Y9 k2,e]⟩
theorem Kr.XX(h:Kr n ms)(k:aD n):mH (cQ (qI ms)):=by
 refine t8 (gD h.nz) (by rw[bJ];exact h.l2) (by rw[bJ];exact h.l4) ?_;by_cases k1:n.k=1
 .exact .inl (by rw[bJ];exact h.k1 k1)
 .refine .inr λx e=>k.OZ k1 x ?_;obtain⟨c,b,a⟩:=h.ev;rw[a,e,Pv]
theorem Kr.small(h:Kr n ms)(k:aD n):∃c:Rat,0<c/\∀z e,ab (n.f z) (c*e)->ab (Num.ev z (qI ms)) e:=by
 obtain⟨c,j,l⟩:=h.ev;refine⟨c,j,λz e a=>?_⟩;have a:=k.OY a;rw[l]at a;unfold ab at*;have p:c*c⁻¹=1:=Fs _ (by grind);have g:=Pi.mpr j;have d:=Da a.1 (FK g);have b:=Da a.2 (FK g);generalize Num.ev z (qI ms)=y at*;have i:c⁻¹*(c*y)=y:=by grind
 have o:c⁻¹*(c*e)=e:=by grind
 have m:c⁻¹* -(c*e)= -e:=by grind
 rw[i,o]at b;rw[i,m]at d;exact⟨d,b⟩
theorem Kr.rt(h:Kr n ms)(k:aD n):Rt n.lo (wM (qI ms)):=λx y b a e f=>by obtain⟨c,g,d⟩:=h.small k;obtain⟨z,hz,i⟩:=k.rt x y b a (c*e) (GE g f);exact⟨z,hz,d z e i⟩
theorem Cg(N:2<=a.length)(M:2<=b.length)(v:0<a.getD (a.length -1) 0)(u:0<b.getD (b.length -1) 0)(A:∀d:Int,(∀x∈a,d∣x)->d∣1)(y:∀d:Int,(∀x∈b,d∣x)->d∣1)(o:DQ (cQ (qI a)) (cQ (qI b)))(L:DQ (cQ (qI b)) (cQ (qI a))):a=b:=by
 have j:aq (qI a):=gD (by lia);have g:aq (qI b):=gD (by lia);have m:qI a≠[]:=λz=>by have:=SU LZ z;rw[bJ]at this;have this:a.length=0:=this;lia
 have l:qI b≠[]:=λz=>by have:=SU LZ z;rw[bJ]at this;have this:b.length=0:=this;lia
 have D:=vd j m g l o;have C:=vd g l j m L;obtain⟨q,I,e⟩:=o.eq;obtain⟨q,t,rfl⟩:=aS I;have B:=jV (zC e (dY g l));have O:=iS t j g B m e;obtain⟨c,rfl⟩:=si.mp (show q.length=1 by lia);have J:∀k,((b.getD k 0:Int):Rat)=c*((a.getD k 0:Int):Rat):=λk=>by have:=w8 e k;rw[show cQ [c]=λi=>c*I1 i from funext λi=>by cases i<;>simp[I1,cQ],bV,MP]at this;rw[cS,cS]at this;exact this
 have f:a.length=b.length:=by rw[bJ,bJ]at D C;lia
 have K:c*((c.den:Int):Rat)=c.num:=Cb c;have P:=c.den_pos;have h:∀k,b.getD k 0*c.den=a.getD k 0*c.num:=λk=>by
  have:((b.getD k 0:Int):Rat)*((c.den:Int):Rat)=((a.getD k 0:Int):Rat)*((c.num:Int):Rat):=by rw[J,<-K];grind
  rw[<-BM,<-BM]at this;exact oy.mp this
 have n:0<c.num:=by have:=h (b.length -1);rw[show a.getD (b.length -1) 0=a.getD (a.length -1) 0 by rw[f]]at this;have w:=eP u (show(0:Int)<c.den by lia);rw[this]at w;refine Ee λq=>?_;have:=eQ (TK v) (show 0<=-c.num by lia);rw[zzl]at this;lia
 have r:=λk=>Ah (ns:=a) (ms:=b) (U:=c.den) (V:=c.num) (by lia) (by lia) h y k;have p:=λk=>Ah (ns:=b) (ms:=a) (U:=c.num) (V:=c.den) (by lia) (by lia) (λi=>(h i).symm) A k;refine List.ext_getElem f λk F E=>?_;have H:a.getD k 0=a[k]:=by rw[AC,D2 F];rfl
 have G:b.getD k 0=b[k]:=by rw[AC,D2 E];rfl
 have r:=r k;have p:=p k;have e:=h k;rw[H,G]at*;have s:(0<=a[k]/\0<=b[k])\/(a[k]<=0/\b[k]<=0):=by
  by_cases q:0<=a[k]
  .left;refine⟨q,?_⟩;have:=eQ q (TK n);rw[<-e]at this;exact TU this (by lia)
  .right;refine⟨by lia,?_⟩;have:=eQ (show 0<=-a[k] by lia) (TK n);rw[u4,<-e,<-u4]at this;have:=TU this (show(0:Int)<c.den by lia);lia
 lia
theorem Sg(h:aD n):∃x y,n.lo x=true/\n.lo y=false/\x<y:=by
 have qb:=h.qb;have r:(n.b:Rat)*(n.b:Rat)⁻¹=1:=Fs _ (by grind);obtain⟨M,q,i⟩:=FJ n.c;have a:∀v:Rat,n.A ((v+n.t)*(n.b:Rat)⁻¹)=v:=λv=>by unfold Kn.A;grind
 have m:M+1<=pk n.k (M+1)/\pk n.k (-(M+1))<=-(M+1):=by
  have p:(0:Rat)<=M+1:=by grind
  have g:(1:Rat)<=M+1:=by grind
  have s:=Da g p;have o:=Da s p;have l:¬M+1<0:=by grind
  have j: -(M+1)<0:=by grind
  rcases h.kd with k|k|k
  .rw[k];exact⟨by show M+1<=M+1;grind,by show-(M+1)<=-(M+1);grind⟩
  .rw[k,Iq,Iq,Bz l,D1 j];exact⟨by grind,by grind⟩
  .rw[k];show M+1<=(M+1)*(M+1)*(M+1)/\-(M+1)* -(M+1)* -(M+1)<=-(M+1);exact⟨by grind,by grind⟩
 unfold ab at i;have e:n.lo ((-(M+1)+n.t)*(n.b:Rat)⁻¹)=true:=aD.dh.mpr (by unfold Kn.f;rw[a];grind);have d:n.lo ((M+1+n.t)*(n.b:Rat)⁻¹)=false:=aD.lC.mpr (by unfold Kn.f;rw[a];grind);exact⟨_,_,e,d,h.cut.lt e d⟩
theorem Sh(A:aD n)(H:aD m)(g:Kr n C)(j:Kr m B)(ne:C≠B):Sep n.lo m.lo:=by
 have nd:¬DQ (cQ (qI C)) (cQ (qI B)):=λd=>by
  rcases(j.XX H).or _ (aI _) d with u|d'
  .exact(g.XX A).un u
  .exact ne (Cg g.l2 j.l2 g.pos j.pos g.one j.one d d')
 obtain⟨u,v,fu,fv,e⟩:=(g.XX A).cop (aI _) nd;obtain⟨u,_,rfl⟩:=aS fu;obtain⟨v,_,rfl⟩:=aS fv;obtain⟨r1,_,U⟩:=aS ((aI u).mul (aI (qI C)));obtain⟨r2,_,T⟩:=aS ((aI v).mul (aI (qI B)));have one:∀x,Num.ev x u*Num.ev x (qI C)+Num.ev x v*Num.ev x (qI B)=1:=λx=>by rw[<-nT x (c:=r1) (λk=>w8 U k),<-nT x (c:=r2) (λk=>w8 T k),<-jW x (c:=[1]) λk=>by rw[U,T];exact w8 e k,JS]
 refine Ee λno=>?_;have a:∀z,n.lo z=m.lo z:=λz=>Ee λq=>no ⟨z,q⟩;obtain⟨x,y,G,F,b⟩:=Sg A;obtain⟨E,b10,M⟩:=kZ (FK b) u;obtain⟨D,b20,L⟩:=kZ (FK b) v;obtain⟨c1,Q,K⟩:=g.small A;obtain⟨c2,O,J⟩:=j.small H;refine qo (dM:=λl r=>n.lo l=true/\n.lo r=false) b (λl m' r _ _ _ h=>?_) (λN=>?_) ⟨G,F⟩
 .cases q:n.lo m' with
  |true=>exact .inr ⟨rfl,h.2⟩
  |false=>exact .inl ⟨h.1,rfl⟩
 .have p:∀{k:Kn},(∀z,n.lo z=k.lo z)->(∃s,N.P s k.f)->∃R,∀x y,N.I R x->N.I R y->x<y->¬(n.lo x=true/\n.lo y=false):=λ{k} a ⟨s,hs,c,c0,i,S⟩=>by refine⟨i,λx y G F _ h=>?_⟩;rw[a,a]at h;have Z:=S x G;have a2:=S y F;have a3:=aD.dh.mp h.1;have a4:=aD.lC.mp h.2;rcases hs with rfl|rfl<;>grind
  rcases N.DR (A.Io x y (FK b))with z1|p1
  .rcases N.DR (H.Io x y (FK b))with z2|p2
   .exfalso
    have q1:=Pi.mpr (show(0:Rat)<4*(E+1) by grind);have q2:=Pi.mpr (show(0:Rat)<4*(D+1) by grind);have i1:4*(E+1)*(4*(E+1))⁻¹=1:=Fs _ (by grind);have i2:4*(D+1)*(4*(D+1))⁻¹=1:=Fs _ (by grind);obtain⟨w,h1⟩:=z1 _ (GE Q q1);obtain⟨t,h2⟩:=z2 _ (GE O q2);have i:N.I (max w t) (N.l (max w t)):=⟨by grind,FK (N.lt _)⟩;have Z:=K _ _ (h1 _ (N.mono (pj w t) i));have a2:=J _ _ (h2 _ (N.mono (tI w t) i));have Y:=ao (aZ (M _ (N.base i)) (show E<=E+1 by grind)) Z;have X:=ao (aZ (L _ (N.base i)) (show D<=D+1 by grind)) a2;have o:=one (N.l (max w t));unfold wM at Y X;unfold ab at Y X;grind
   .exact p a p2
  .exact p (λ_=>rfl) p1
noncomputable def nums(l:List (Kn×List Int)):List Kn:=l.flatMap λx=>if x.1.k=2 then[x.1,x.1.cj]else[x.1]
noncomputable def cuts(l:List (Kn×List Int)):List (Rat->Bool):=(nums l).map Kn.lo
def sN(F:List (Rat->Bool))(w:List Int):Prop:=∀x y:Rat,Num.ev x (qI w)≠0->(∀f∈F,gQ x y f=false)->∃c:Rat,0<c/\∀z,In x y z->c<=Num.ev z (qI w)\/Num.ev z (qI w)<=-c
theorem sN.up(h:sN F w)(s:∀f∈F,f∈G):sN G w:=λx y a b=>h x y a λf c=>b f (s f c)
theorem sN.mul(f:0<v.length)(k:sN F v)(j:sN F w):sN F (yy v w):=λx y e g=>by
 rw[HB f]at e;obtain⟨c,i,n⟩:=k x y (λz=>e (by rw[z,Y2])) g;obtain⟨d,h,l⟩:=j x y (λz=>e (by rw[z,Pv])) g;refine⟨c*d,GE i h,λz hz=>?_⟩;rw[HB f];have a:=n z hz;have b:=l z hz;generalize Num.ev z (qI v)=p at*;generalize Num.ev z (qI w)=q at*;have m:∀{p q:Rat},c<=p->d<=q->c*d<=p*q:=λr o=>oJ (FK i) r (FK h) o;rcases a with a|a<;>rcases b with b|b
 .exact .inl (m a b)
 .have:=m a (show d<=-q by grind);exact .inr (by grind)
 .have:=m (show c<=-p by grind) b;exact .inr (by grind)
 .have:=m (show c<=-p by grind) (show d<=-q by grind);exact .inl (by grind)
theorem Kr.off(h:Kr n ms)(k:aD n):sN (cuts [(n,ms)]) ms:=λx y j g=>by
 obtain⟨c,o,i⟩:=h.ev;have b:n.lo∈cuts [(n,ms)]/\(n.k=2->n.cj.lo∈cuts [(n,ms)]):=by
  unfold cuts nums;by_cases e:n.k=2
  .simp[e]
  .simp[e]
 obtain⟨d,m,l⟩:=k.stay (λz=>j (by rw[i]at z;exact(Kk.mp z).resolve_left (by grind))) (g _ b.1) λe=>g _ (b.2 e);have q:c*c⁻¹=1:=Fs _ (by grind);have f:=Pi.mpr o;refine⟨c⁻¹*d,GE f m,λz hz=>?_⟩;have a:=l z hz;rw[i]at a;generalize Num.ev z (qI ms)=p at*;have r:c⁻¹*(c*p)=p:=by grind
 rcases a with a|a
 .have:=Da a (FK f);exact .inl (by grind)
 .have:=Da a (FK f);exact .inr (by grind)
structure Kw(l:List (Kn×List Int))(w:List Int):Prop where
 ok:∀x∈l,aD x.1/\Kr x.1 x.2/\DQ (cQ (qI x.2)) (cQ (qI w))
 df:l.Pairwise λx y=>x.2≠y.2
 off:sN (cuts l) w
 w0:0<w.length
 nz:w.getD (w.length -1) 0≠0
theorem Nt{d:Pq}(a:0<v.length)(h:DQ d (cQ (qI v))):DQ d (cQ (qI (yy v w))):=by refine(h.mul (cQ (qI w)) (aI _)).ext λk=>?_;rw[cS,Cf a,f7];show((jT (co v) (co w) k:Int):Rat)=_;rw[<-qe,bG];exact aW (λi=>(cS w i).symm) (λi=>(cS v i).symm) k
theorem Si{d:Pq}(a:0<v.length)(h:DQ d (cQ (qI w))):DQ d (cQ (qI (yy v w))):=by refine(h.mul (cQ (qI v)) (aI _)).ext λk=>?_;rw[cS,Cf a,f7];show((jT (co v) (co w) k:Int):Rat)=_;rw[<-qe];exact aW (λi=>(cS v i).symm) (λi=>(cS w i).symm) k
theorem Sj:Kw [] [1]:=by refine⟨λx h=>(by cases h),Il,λx y _ _=>⟨1,by decide,λz _=>.inl ?_⟩,by decide,by decide⟩;show(1:Rat)<=((1:Int):Rat)+z*0;rw[Pv];decide+kernel
theorem yz(l m:List (Kn×List Int)):cuts (l++m)=cuts l++cuts m:=by unfold cuts nums;rw[aX,mB]
structure Kx(l:List (Kn×List Int))(n:Kn)(ms:List Int)(w:List Int):Prop where
 ok:∀x∈l,aD x.1/\Kr x.1 x.2/\DQ (cQ (qI x.2)) (cQ (qI w))
 off:sN (cuts (l++[(n,ms)])) w
 w0:0<w.length
 nz:w.getD (w.length -1) 0≠0
theorem Kw.start(h:Kw l w)(n:Kn)(ms:List Int):Kx l n ms w:=⟨h.ok,h.off.up λf a=>by rw[yz];exact il _ a,h.w0,h.nz⟩
theorem Kx.mul(h:Kx l n ms w)(k:aD n)(r:Kr n ms):Kx l n ms (yy w ms)/\DQ (cQ (qI ms)) (cQ (qI (yy w ms))):=by
 have g:=r.l2;refine⟨⟨λx a=>?_,h.off.mul h.w0 ((r.off k).up λf b=>by rw[yz];exact NA _ b),by rw[nG];have:=h.w0;lia,?_⟩,Si h.w0 (DQ.refl _)⟩
 .obtain⟨e,d,c⟩:=h.ok x a;exact⟨e,d,Nt h.w0 c⟩
 .rw[vU h.w0 (by lia)];exact Kt h.nz r.nz
theorem Kx.more(h:Kx l n ms w)(k:aD n)(r:Kr n ms)(d:DQ (cQ (qI ms)) (cQ (qI w)))(df:l.Pairwise λx y=>x.2≠y.2)(b:∀x∈l,x.2≠ms):Kw (l++[(n,ms)]) w:=by
 refine⟨λx a=>?_,zzi.mpr ⟨df,kb _ _,λx a y c=>?_⟩,h.off,h.w0,h.nz⟩
 .rcases SL.mp a with a|a
  .exact h.ok x a
  .rw[Fh.mp a];exact⟨k,r,d⟩
 .rw[Fh.mp c];exact b x a
theorem Kw.rest(h:Kw l w)(a:0<q.length)(b:q.getD (q.length -1) 0≠0)(d:∀x,1<=Num.ev x (qI q)):Kw l (yy w q):=by
 refine⟨λx c=>?_,h.df,h.off.mul h.w0 λx y _ _=>⟨1,by decide,λz _=>.inl (d z)⟩,by rw[nG];have:=h.w0;lia,?_⟩
 .obtain⟨g,f,e⟩:=h.ok x c;exact⟨g,f,Nt h.w0 e⟩
 .rw[vU h.w0 a];exact Kt h.nz b
theorem Kw.each(h:Kw l w)(x:Kn×List Int)(e:x∈l)(n:Kn)(a:n∈(if x.1.k=2 then[x.1,x.1.cj]else[x.1])):aD n/\Kr n x.2:=by
 obtain⟨d,c,_⟩:=h.ok x e;by_cases b:x.1.k=2
 .rw[D1 b]at a;rcases IH.mp a with rfl|a
  .exact⟨d,c⟩
  .rw[Fh.mp a];exact⟨d.cj b,c.cj b⟩
 .rw[Bz b,Fh]at a;rw[a];exact⟨d,c⟩
theorem Kw.sep(h:Kw l w):(nums l).Pairwise λn m=>Sep n.lo m.lo:=by
 unfold nums;rw[List.pairwise_flatMap];refine⟨λx c=>?_,fc (λ{x y} c b f n i m j=>?_) h.df⟩
 .by_cases a:x.1.k=2
  .rw[D1 a];exact hJ.mpr ⟨λy b=>by rw[Fh.mp b];exact(h.ok x c).1.O2 a,kb _ _⟩
  .rw[Bz a];exact kb _ _
 .obtain⟨g,e⟩:=h.each x c n i;obtain⟨a,d⟩:=h.each y b m j;exact Sh g a e d f
theorem Kw.count(h:Kw l w)(u:2<=w.length)(G:c≠0)(E:Cc (u6 c (qI w)) C){lo hi:Rat}(A:lo<hi):cP C lo=cP C hi+(nums l).countP λn=>gQ lo hi n.lo:=by
 have o:=gD h.nz;have P:Rp (u6 c (qI w)):=⟨Bo G o,by rw[u7,bJ];exact u⟩;have:=E.known P A (L:=cuts l) (λf B=>?_) ?_ λx y v b e=>?_
 .rw[this,cuts,List.countP_map];rfl
 .obtain⟨n,e,rfl⟩:=OF.mp B;obtain⟨x,b,e⟩:=dB.mp e;obtain⟨k,r⟩:=h.each x b n e;refine⟨k.cut,qI x.2,r.XX k,?_,r.rt k⟩;exact(DQ.sc c (h.ok x b).2.2).ext λi=>qw c _ i
 .unfold cuts;rw[List.pairwise_map];exact h.sep
 .rw[xQ]at b;obtain⟨d,F,D⟩:=h.off x y (λz=>b (by rw[z,Pv])) e;have p:0<c\/0< -c:=by grind
  obtain⟨a,g,j⟩:∃a:Rat,0<a/\(c=a\/c= -a):=by
   rcases p with p|p
   .exact⟨c,p,.inl rfl⟩
   .exact⟨-c,p,.inr (by grind)⟩
  have I:=GE g F;refine⟨a*d*2⁻¹,by grind,λz hz m=>?_⟩;rw[xQ]at m;have:=D z hz;unfold ab at m;have t:d<=Num.ev z (qI w)->a*d<=a*Num.ev z (qI w):=λq=>Da q (FK g);have s:Num.ev z (qI w)<=-d->a*Num.ev z (qI w)<=a* -d:=λq=>Da q (FK g);have H:(2:Rat)*2⁻¹=1:=by grind
  generalize Num.ev z (qI w)=p at*;rcases this with q|q
  .have:=t q;rcases j with rfl|rfl<;>grind
  .have:=s q;rcases j with rfl|rfl<;>grind
noncomputable def rL:List CS:=[.set 2 (.int 1),.fr [3] true (.jN [(.var 1)]) [.set 2 (.bin .Mult (.var 2) (.var 0))],.ret (.var 2)]
def jy:aV:=λb Q _=>∃(a:Int)(k n:Nat),b=[.int a,.int k]/\(k<=3/\a.natAbs<2^n/\n<=1000000)/\Q (.int (a^k))
theorem Ak{a:Int}(h:a.natAbs<2^n):∀i:Nat,(a^i).natAbs<2^(n*i+1)
 |0=>by rw[PP,Xo];decide
 |i+1=>by
  rw[Hb,GT];have p:0<2^n:=TB (by decide)
  calc (a^i).natAbs*a.natAbs<=(a^i).natAbs*2^n:=Fk _ (by lia)
   _<2^(n*i+1)*2^n:=mN (Ak h i) p
   _=2^(n*(i+1)+1):=by rw[<-Y1];congr 1;rw[tq];lia
theorem HC(b:List W)(Q:W->Prop)(R:Addr->Prop)(h:jy b Q R):wSs e G rL (bC m Q R) (aj 4 b):=by
 obtain⟨a,k,n,rfl,⟨p,c,j⟩,g⟩:=h;show wSs _ _ rL _ [some _,some _,none,none];unfold rL;fin2;refine⟨by lia,by lia,?_⟩;rw[show((k:Nat):Int).toNat=k from rfl];refine aP (λi d=>∃o,d=[some (.int a),some (.int k),some (.int (a^i)),o]) ⟨none,by rw[PP]⟩ ?_ ?_
 .rintro i w _ N f ⟨o,rfl⟩ l;obtain⟨q,rfl⟩:=fX f;fin2;refine⟨aF (Ak c i) c ?_,l _ ⟨_,by rw[Hb]⟩⟩;have:n*i<=1000000*3:=QR j (by lia);lia
 .rintro _ ⟨o,rfl⟩;rw[rF];fin2;exact g
noncomputable def iF:List CS:=[.set 2 (.int 0),.set 3 (.int 1),.zG (.cmp .LtE (.call 0 [(.var 3),(.var 1)]) (.var 0)) [.set 3 (.bin .Mult (.int 2) (.var 3))],.zG (.cmp .Gt (.bin .Sub (.var 3) (.var 2)) (.int 1)) [.set 4 (.bin .FloorDiv (.bin .Add (.var 2) (.var 3)) (.int 2)),.iff (.cmp .LtE (.call 0 [(.var 4),(.var 1)]) (.var 0)) [.set 2 (.var 4)] [.set 3 (.var 4)]],.ret (.var 2)]
def rM:aV:=λa Q _=>∃(N:Int)(k n:Nat),a=[.int N,.int k]/\(0<=N/\2<=k/\k<=3/\N.natAbs<2^n/\n<=100000)/\∀r:Int,0<=r->r^k<=N->N<(r+1)^k->r<=N->Q (.int r)
theorem Al{h:Int}(a:1<=h):∀k:Nat,h<=h^(k+1)
 |0=>by rw[Hb,PP,bo];exact gm _
 |k+1=>by rw[Hb];have:=Al a k;have:=fI a (show 0<=h^(k+1) by lia);lia
theorem vV(x:List W)(Q:W->Prop)(R:Addr->Prop)(h:rM x Q R):wSs (bI [jy]) G iF (bC m Q R) (aj 5 x):=by
 obtain⟨N,k,n,rfl,⟨C,I,A,K,J⟩,B⟩:=h;obtain⟨k,rfl⟩:∃d,k=d+1:=⟨k -1,by lia⟩;have l:∀{h:Int},0<=h->h<=2*N+2->h.natAbs<2^(n+2):=λ{h} v f=>by rw[Y1];lia
 show wSs _ _ iF _ [some (.int N),some (.int ((k+1:Nat):Int)),none,none,none];unfold iF;refine au (λa=>a=[some (.int N),some (.int ((k+1:Nat):Int)),some (.int 0),none,none]) (λw f=>?_) ?_
 .fin2;exact f _ rfl
 rintro _ rfl;refine au (λa=>a=[some (.int N),some (.int ((k+1:Nat):Int)),some (.int 0),some (.int 1),none]) (λw f=>?_) ?_
 .fin2;exact f _ rfl
 rintro _ rfl;refine au (λa=>∃h:Int,(1<=h/\h<=2*N+2/\N<h^(k+1))/\a=[some (.int N),some (.int ((k+1:Nat):Int)),some (.int 0),some (.int h),none]) (λw f=>?_) ?_
 .refine Ht (α:=Int) (λh=>[some (.int N),some (.int ((k+1:Nat):Int)),some (.int 0),some (.int h),none]) (λh=>1<=h/\h<=2*N+2) (λh=>(N+1 -h).toNat) 1 rfl ⟨by omega,by lia⟩ ?_;rintro h ⟨j,i⟩;fin2;refine⟨h,k+1,n+2,rfl,⟨A,l (by lia) i,by lia⟩,?_⟩;fin2;refine gj (λg=>?_) (λg=>?_)
  .have:=Dx g;have:=Al j k;fin2;exact⟨aF (n:=2) (by decide) (l (h:=h) (by omega) i) (by lia),⟨2*h,rfl,⟨by lia,by lia⟩,by show(N+1 -2*h).toNat<(N+1 -h).toNat;lia⟩⟩
  .have:=rf g;exact f _ ⟨h,⟨j,i,by lia⟩,rfl⟩
 rintro _ ⟨v,⟨L,a2,a3⟩,rfl⟩;refine au (λa=>∃(r:Int)(o3 y:Option W),(0<=r/\r^(k+1)<=N/\N<(r+1)^(k+1))/\a=[some (.int N),some (.int ((k+1:Nat):Int)),some (.int r),o3,y]) (λw f=>?_) ?_
 .refine Ht (α:=Int×Int×Option W) (λs=>[some (.int N),some (.int ((k+1:Nat):Int)),some (.int s.1),some (.int s.2.1),s.2.2]) (λs=>0<=s.1/\s.1<s.2.1/\s.2.1<=2*N+2/\s.1^(k+1)<=N/\N<s.2.1^(k+1)) (λs=>(s.2.1 -s.1).toNat) (0,v,none) rfl ⟨gm _,by show 0<v;lia,a2,by show(0:Int)^(k+1)<=N;rw[Hb,T1];exact C,a3⟩ ?_;rintro⟨c,e,o⟩ ⟨u,j,i,t,p⟩
  try dsimp only at u j i t p
  fin2;refine gj (λg=>?_) (λg=>?_)
  .have:=Dx g;fin2;refine⟨⟨by decide,eH (n:=2) (by decide) (by decide)⟩,?_⟩;have z:c<(c+e).fdiv 2/\(c+e).fdiv 2<e:=by rw[Iy _ (by decide)];lia
   generalize(c+e).fdiv 2=b at*;refine⟨b,k+1,n+2,rfl,⟨A,l (by lia) (by lia),by lia⟩,?_⟩;fin2;by_cases q:b^(k+1)<=N
   .rw[D1 (Fn q)];exact⟨(b,e,some (.int b)),rfl,⟨by show 0<=b;omega,z.2,i,q,p⟩,by show(e -b).toNat<(e -c).toNat;lia⟩
   .rw[Bz (by rw[KE];exact q)];exact⟨(c,b,some (.int b)),rfl,⟨u,z.1,by show b<=_;omega,t,by show N<b^(k+1);lia⟩,by show(b -c).toNat<(e -c).toNat;lia⟩
  .have:=rf g;obtain rfl:e=c+1:=by lia
   exact f _ ⟨c,_,_,⟨u,t,p⟩,rfl⟩
 rintro _ ⟨r,o3,y,⟨F,E,D⟩,rfl⟩;fin2;refine B r F E D ?_;by_cases H:r=0
 .lia
 .have:=Al (show 1<=r by lia) k;lia
noncomputable def wK(n:Kn):W:=.tup [.int n.t,.int n.s,.int n.u,.int n.b,.int n.k]
structure IC(n:Kn):Prop where
 ok:aD n
 fr:n.k=1->n.u=0/\∃y:Rat,n.t=y.num/\n.b=y.den
 t2:n.t.natAbs<2^40
 b2:n.b.natAbs<2^40
 u2:n.u.natAbs<2^40
noncomputable def jf:List CS:=[.ret (.tup [(.ix (.var 0) (.int 0)),(.int 0),(.int 0),(.ix (.var 0) (.int 1)),(.int 1)])]
def Sk:aV:=λa Q _=>∃x:Rat,a=[wq x]/\Q (wK (kq x))
theorem yC(a:List W)(Q:W->Prop)(R:Addr->Prop)(h:Sk a Q R):wSs b G jf (bC m Q R) (aj 1 a):=by obtain⟨x,rfl,c⟩:=h;show wSs _ _ jf _ [some (wq x)];unfold jf wq;fin2;exact⟨_,rfl,_,rfl,af (by simp),c⟩
theorem LD{F:List Int}(h:0<F.length):jQ (F.map W.int) 0=some (.int (F.getD 0 0)):=by
 cases F with
 |nil=>cases h
 |cons y r=>exact L2.cD (j:=0) rfl
theorem WV(b:x.num.natAbs<2^40)(a:x.den<2^40):IC (kq x):=⟨qy x,λ_=>⟨rfl,x,rfl,rfl⟩,b,a,by show(0:Int).natAbs<_;decide⟩
noncomputable def vW:List CS:=[.ua [1,2,3,4,5] (.var 0),.iff (.cmp .Eq (.var 5) (.int 1)) [.ret (.tup [(.lst [(.bin .Sub (.int 0) (.var 1)),(.var 4)]),(.int 0)])] [],.set 6 (.lst [(.int 1)]),.fr [7] true (.jN [(.var 5)]) [.set 6 (.call 0 [(.var 6),(.lst [(.bin .Sub (.int 0) (.var 1)),(.var 4)])])],.put 6 (.int 0) (.bin .Sub (.ix (.var 6) (.int 0)) (.bin .Mult (.var 3) (.ix (.lst [(.int 1),(.var 2)]) (.bin .Mod (.var 5) (.int 2))))),.ret (.tup [(.call 1 [(.var 6)]),(.blt .int [(.and [(.cmp .Eq (.bin .Mod (.var 5) (.int 2)) (.int 0)),(.cmp .Gt (.var 2) (.int 0))])])])]
def LF(n:Kn):Int:=if n.k=2/\0<n.s then 1 else 0
def ku:aV:=λd Q _=>∃n:Kn,d=[wK n]/\(IC n\/∃x,n=kq x)/\∀(a:List Int)(c:Int),Kr n a->(IC n->∀x∈a,x.natAbs<2^200)->(n.k=1->a=[-n.t,n.b]/\c=0)->c=LF n->Q (.tup [wI a,.int c])
theorem Sl(e:aD n)(i:n.k=1->n.u=0/\∃y:Rat,n.t=y.num/\n.b=y.den)(a:n.k=1):Kr n [-n.t,n.b]:=by
 obtain⟨r,y,l,j⟩:=i a;refine⟨FC _,(by show 2<=4;decide),λ_=>rfl,λd g=>?_,e.b0,1,by decide,λx=>?_⟩
 .have o:d∣y.num:=by rw[<-l];exact hH.mp (g _ FS)
  have m:d∣(y.den:Int):=by rw[<-j];exact g _ (by simp)
  have:=Ta.mpr o;have q:=Nat.dvd_gcd this (Ta.mpr m);rw[BB,y.reduced]at q;exact Ta.mp (by simpa using q)
 .have p:n.c=0:=by unfold Kn.c;rw[e.s0 a];show(0:Rat)*_=0;grind
  unfold Kn.h Kn.f;rw[Bz (by rw[a];decide),p,a];show n.A x -0=1*(((-n.t:Int):Rat)+x*(((n.b:Int):Rat)+x*0));rw[DN];unfold Kn.A;grind
theorem HD{a:Int}(h:a.natAbs<2^n):(0 -a).natAbs<2^n:=by omega
structure WW(n:Kn)(i:Nat)(F:List Int):Prop where
 len:F.length=i+1
 ev:∀x,Num.ev x (qI F)=n.A x^i
 pos:0<F.getD (F.length -1) 0
 bd:∀y∈F,y.natAbs<2^(43*i+1)
theorem WW.step(h:WW n i F)(k:IC n)(hi:i<3):WW n (i+1) (yy F [0 -n.t,n.b]):=by
 have c:0<F.length:=by rw[h.len];lia
 refine⟨by rw[nG,h.len];rfl,λx=>?_,?_,λy a=>?_⟩
 .rw[HB c,h.ev,cm];congr 1;show((0 -n.t:Int):Rat)+x*(((n.b:Int):Rat)+x*0)=_;rw[zz9,DN];unfold Kn.A;grind
 .rw[vU (G:=[0 -n.t,n.b]) c (show 0<2 by decide)];exact eP h.pos k.ok.b0
 .have:=Nr (n:=43*i+1) (m:=40) (k:=2) h.bd (λy a=>?_) (by rw[h.len];show _<=4;lia) y a
  .exact HI this (X1 (by decide) (by lia))
  .rcases IH.mp a with rfl|a
   .exact HD k.t2
   .rw[Fh.mp a];exact k.b2
theorem HE{F:List Int}(a:2<=F.length)(v:Int):(F.set 0 v).getD ((F.set 0 v).length -1) 0=F.getD (F.length -1) 0:=by rw[XB,AC,AC,TC (by omega)]
theorem WX(n:Kn)(x:Rat):n.A x^2=n.A x*n.A x:=by rw[cm,cm,my,cq]
theorem LG(P:List W)(Q:W->Prop)(R:Addr->Prop)(h:ku P Q R):wSs (bI [uz,Aj]) G vW (bC m Q R) (aj 8 P):=by
 obtain⟨n,rfl,K,I⟩:=h;have ok:aD n:=K.elim (λk=>k.ok) (by rintro⟨x,rfl⟩;exact qy x);have fr:n.k=1->n.u=0/\∃y:Rat,n.t=y.num/\n.b=y.den:=K.elim (λk=>k.fr) (by rintro⟨x,rfl⟩;exact λ_=>⟨rfl,x,rfl,rfl⟩);show wSs _ _ vW _ [some (wK n),none,none,none,none,none,none,none];unfold vW;refine au (λa=>a=[some (wK n),some (.int n.t),some (.int n.s),some (.int n.u),some (.int n.b),some (.int n.k),none,none]) (λN d=>?_) ?_
 .have d:=d _ rfl;unfold wK at d⊢;fin2;exact⟨rfl,d⟩
 rintro _ rfl;by_cases v:n.k=1
 .fin2;rw[D1 (Fn v)];refine⟨af (by simp),?_⟩;have:=I [-n.t,n.b] 0 (Sl ok fr v) (λk x r=>?_) (λ_=>⟨rfl,rfl⟩) (by unfold LF;rw[Bz (by rw[v];rintro⟨z,_⟩;exact absurd z (by decide))])
  .rw[zz9];exact⟨af (by simp),this⟩
  .have g:(2:Nat)^40<=2^200:=Ha (by decide) (by decide);have:=k.t2;have:=k.b2;rcases IH.mp r with rfl|r
   .omega
   .rw[Fh.mp r];lia
 have k:IC n:=K.resolve_right (by rintro⟨x,rfl⟩;exact v rfl);obtain⟨e,B,e2,e3⟩:∃e:Nat,n.k=(e:Int)/\2<=e/\e<=3:=by
  rcases k.ok.kd with z|z|z
  .exact absurd z v
  .exact⟨2,z,by decide,by decide⟩
  .exact⟨3,z,by decide,by decide⟩
 refine au (λa=>a=[some (wK n),some (.int n.t),some (.int n.s),some (.int n.u),some (.int n.b),some (.int n.k),none,none]) (λN d=>?_) ?_
 .fin2;rw[Bz (by rw[KE];exact v)];exact d _ rfl
 rintro _ rfl;refine au (λa=>a=[some (wK n),some (.int n.t),some (.int n.s),some (.int n.u),some (.int n.b),some (.int n.k),some (wI [1]),none]) (λN d=>?_) ?_
 .fin2;exact⟨af (by simp),d _ rfl⟩
 rintro _ rfl;refine au (λa=>∃(F:List Int)(o:Option W),WW n e F/\a=[some (wK n),some (.int n.t),some (.int n.s),some (.int n.u),some (.int n.b),some (.int n.k),some (wI F),o]) (λN d=>?_) ?_
 .refine yw (l:=gF 0 1 e) (λQ I=>?_) ?_
  .fin2;rw[B];exact⟨by lia,by lia,I⟩
  refine aP (λi ε=>∃(F:List Int)(o:Option W),WW n i F/\ε=[some (wK n),some (.int n.t),some (.int n.s),some (.int n.u),some (.int n.b),some (.int n.k),some (wI F),o]) ⟨[1],none,⟨rfl,λx=>by rw[my];show((1:Int):Rat)+x*0=1;rw[Pv];decide+kernel,by decide,λy C=>by rw[Fh.mp C];decide⟩,rfl⟩ ?_ ?_
  .rintro i w _ N1 hw ⟨F,o,J,rfl⟩ cX;obtain⟨hi,rfl⟩:=fX hw;have M:=J.len;fin2;refine⟨af (by simp),F,[0 -n.t,n.b],rfl,⟨by lia,show 0<2 by decide,by lia,show 2<=200 by decide,λx r y C=>?_⟩,cX _ ⟨_,_,J.step k (by lia),rfl⟩⟩;have bx:=J.bd x r;have O:y.natAbs<2^40:=by
    rcases IH.mp C with rfl|C
    .exact HD k.t2
    .rw[Fh.mp C];exact k.b2
   exact aF bx O (by lia)
  .rintro _ ⟨F,o,J,rfl⟩;rw[rF]at J;exact d _ ⟨F,o,J,rfl⟩
 rintro _ ⟨F,o,J,rfl⟩;have M:=J.len;have g0:F.getD 0 0∈F:=Sub.getD_mem' (by lia);have b0:(F.getD 0 0).natAbs<2^130:=Fm (J.bd _ g0) (Ha (by decide) (by lia));have s1:=k.ok.s1 v;have u2:=k.u2;obtain⟨z,hz,E⟩:∃z:Int,z.natAbs<2^41/\(∀x,n.h x=n.A x^e+z)/\z= -(n.u*(if e=2 then 1 else n.s)):=by
  refine⟨-(n.u*(if e=2 then 1 else n.s)),?_,λx=>?_,rfl⟩
  .split
   .omega
   .rcases s1 with q|q<;>rw[q]<;>lia
  .unfold Kn.h Kn.f Kn.c;by_cases q:e=2
   .rw[D1 (by rw[B,q];rfl),D1 q,q,WX,eC,DN];grind
   .obtain rfl:e=3:=by lia
    rw[Bz (by rw[B];decide),Bz (by decide),B,DN,BM,cm,WX];show n.A x*n.A x*n.A x -_=_;grind
 refine au (λa=>a=[some (wK n),some (.int n.t),some (.int n.s),some (.int n.u),some (.int n.b),some (.int n.k),some (wI (F.set 0 (F.getD 0 0+z))),o]) (λN d=>?_) ?_
 .have d:=d _ rfl;have RQ:=LD (F:=F) (by lia);unfold wI at d⊢;have T:wL (F.map W.int).length 0=some 0:=by rw[Bi,M];unfold wL;simp
  rw[lj,B]at d;fin2;refine⟨_,RQ,af (by simp),by decide,?_⟩;rw[B,hU _ (by decide)];have X:∀y:Int,z= -(n.u*y)->F.getD 0 0+z=F.getD 0 0 -n.u*y:=λy C=>by rw[C];lia
  by_cases q:e=2
  .subst q;rw[D1 rfl]at E;rw[X 1 E.2]at d;exact⟨_,rfl,aF u2 (show(1:Int).natAbs<2^1 by decide) (by decide),0,T,d⟩
  .obtain rfl:e=3:=by lia
   rw[Bz (by decide)]at E;rw[X n.s E.2]at d;exact⟨_,rfl,aF u2 (show n.s.natAbs<2^1 by rcases s1 with q|q<;>rw[q]<;>decide) (by decide),0,T,d⟩
 rintro _ rfl;have l2:2<=F.length:=by lia
 have el:=HE l2 (F.getD 0 0+z);have pos:=J.pos;rw[<-el]at pos;have bs:∀x∈F.set 0 (F.getD 0 0+z),x.natAbs<2^200:=λx r=>by
  have Y:(2:Nat)^130<=2^199:=Ha (by decide) (by decide);have g2:(2:Nat)^41<=2^199:=Ha (by decide) (by decide);have g3:(2:Nat)^200=2^199*2:=El ..;rcases List.mem_or_eq_of_mem_set r with r|rfl
  .have:=J.bd x r;have:(2:Nat)^(43*e+1)<=2^130:=Ha (by decide) (by lia);lia
  .omega
 generalize U:F.set 0 (F.getD 0 0+z)=H at*;have lH:H.length=e+1:=by rw[<-U,XB,M]
 fin2;refine⟨H,200,rfl,⟨by lia,by lia,by lia,bs,by decide⟩,λp c L=>?_⟩;have c0:0<c:=by
  have h1:=L.sg;have h2:=L.c0;by_cases q:0<c
  .exact q
  .have:=eP pos (show 0< -c by lia);rw[zzl]at this;lia
 have lm:p.length=e+1:=by rw[L.len,lH]
 have em:∀x,Num.ev x (qI H)=(c:Rat)*Num.ev x (qI p):=λx=>Num.qv x c λj=>by rw[cS,cS,L.eq,BM]
 have kr:Kr n p:=by
  refine⟨by lia,by lia,λq=>absurd q v,L.one,?_,(c:Rat),Ya.mpr c0,λx=>?_⟩
  .rw[L.eq,show H.length=p.length by lia]at pos;by_cases q:0<p.getD (p.length -1) 0
   .exact q
   .have:=eQ (show 0<=c by lia) (show 0<=-p.getD (p.length -1) 0 by lia);rw[zzl]at this;lia
  .rw[E.1,<-em,<-U,LC (by lia),J.ev]
 have bm:∀x∈p,x.natAbs<2^200:=λx r=>by
  obtain⟨j,hj,rfl⟩:=UF r;have Z:=L.eq j;have Y:p.getD j 0=p[j]:=by rw[AC,D2 hj];rfl
  rw[Y]at Z;have:=bs (H.getD j 0) (Sub.getD_mem' (by lia));rw[Z,GT]at this;exact HI (sT _ (by lia)) this
 have D:=λpl=>I p pl kr (λ_=>bm) λq=>absurd q v;fin2;refine⟨by decide,?_⟩;rw[B,hU _ (by decide)];have S:LF n=if e=2/\0<n.s then 1 else 0:=by unfold LF;rw[B];congr 1;exact propext (and_congr_left λ_=>⟨λz=>by lia,λz=>by lia⟩)
 by_cases q:e=2
 .subst q;rw[D1 (by decide)];fin2;refine⟨af (by simp),D _ ?_⟩;rw[S];by_cases z:0<n.s
  .rw[D1 (Fn z),D1 ⟨rfl,z⟩]
  .rw[Bz (λh=>z (Dx h)),Bz (λh=>z h.2)]
 .obtain rfl:e=3:=by lia
  rw[Bz (by decide)];fin2;refine⟨af (by simp),D _ ?_⟩;rw[S,Bz (by decide)];rfl
noncomputable def rN:List CS:=[.ua [2,3,4,5,6] (.var 0),.set 7 (.bin .Mult (.var 2) (.var 1)),.iff (.cmp .Gt (.var 3) (.int 0)) [.set 7 (.bin .Add (.var 7) (.call 0 [(.bin .Mult (.var 4) (.call 1 [(.var 1),(.var 6)])),(.var 6)]))] [],.iff (.cmp .Lt (.var 3) (.int 0)) [.set 7 (.bin .Sub (.bin .Sub (.var 7) (.int 1)) (.call 0 [(.bin .Mult (.var 4) (.call 1 [(.var 1),(.var 6)])),(.var 6)]))] [],.ret (.bin .FloorDiv (.var 7) (.var 5))]
structure Ln(n:Kn):Prop where
 nm:IC n
 t6:n.t.natAbs<=6
 b4:n.b<=4
structure Lx(x:Rat):Prop where
 n80:x.num.natAbs<=80
 d9:x.den<=9
noncomputable def lZ:List CS:=[.iff (.cmp .Eq (.call 0 [(.var 0)]) (.call 0 [(.var 1)])) [.ret (.bl false)] [],.set 2 (.int 1),.zG (.cmp .Eq (.call 1 [(.var 0),(.var 2)]) (.call 1 [(.var 1),(.var 2)])) [.set 2 (.bin .Mult (.var 2) (.int 64))],.ret (.cmp .Lt (.call 1 [(.var 0),(.var 2)]) (.call 1 [(.var 1),(.var 2)]))]
theorem vX(l:List Int)(p:Int):qE 9 (.tup [wI l,.int p])=true:=by unfold wI;simp[qE]
theorem wIj(h:wI a=wI b):a=b:=(Mz λ_ _=>W.xT).mp (W.FT h)
theorem Lx.nm(h:Lx x):IC (kq x):=WV (HI h.n80 (by decide)) (HI h.d9 (by decide))
structure RB(ns:List Int)(X:Int):Prop where
 two:2<=X
 TN:∀y∈ns,(y.natAbs:Int)+(ns.getD (ns.length -1) 0).natAbs<=(ns.getD (ns.length -1) 0).natAbs*X
 up:∀b:Nat,(∀y∈ns,y.natAbs<=2^b)->X<=2^b+2
def iG:List CS:=[.ret (.bin .Add (.bin .FloorDiv (.blt .max2 [(.comp [0] true 1 (.var 0) (.bl true) (.blt .abs [(.var 0)]))]) (.blt .abs [(.ix (.var 0) (.neg (.int 1)))])) (.int 2))]
def gf:aV:=λc Q _=>∃(a:List Int)(b:Nat),c=[wI a]/\(0<a.length/\a.length<=100/\a.getD (a.length -1) 0≠0/\(∀y∈a,y.natAbs<=2^b)/\b<=5000)/\∀X,RB a X->Q (.int X)
theorem vY(f:List W)(Q:W->Prop)(R:Addr->Prop)(h:gf f Q R):wSs o G iG (bC m Q R) (aj 1 f):=by
 obtain⟨ns,b,rfl,⟨e,F,D,j,i⟩,s⟩:=h;show wSs _ _ iG _ [some (wI ns)];unfold iG wI;have ab:∀y:Int,(if y<0 then-y else y)=(y.natAbs:Int):=λy=>by split<;>lia
 fin2;refine cH (h:=W.int) (g:=λy=>.int (if y<0 then-y else y)) ns [] _ (λy c K v=>v) (af (by simp;lia)) ?_;have A:=yt (ns:=ns) e;have q:ns.getD (ns.length -1) 0∈ns:=Sub.getD_mem' (by lia);generalize u:ns.getD (ns.length -1) 0=l at*;have B:=j l q;refine⟨ns.map λy=>(y.natAbs:Int),by rw[C0,U2];exact kS λy _=>by rw[ab];rfl,λz=>by rw[va]at z;rw[z]at e;exact absurd e (by decide),λm t C=>⟨_,A,?_⟩⟩;obtain⟨a,k,rfl⟩:=OF.mp t;have p:∀y∈ns,y.natAbs<=a.natAbs:=λy c=>by have:=C _ (OF.mpr ⟨y,c,rfl⟩);lia
 have E:=j a k;fin2;rw[ab];have r:0<(l.natAbs:Int):=by lia
 refine⟨⟨by lia,eH (n:=b+1) (by rw[BB];exact HI B (X1 (by decide) (Qr _))) (by lia)⟩,s _ ⟨?_,λy c=>?_,λb i=>?_⟩⟩
 .rw[Iy _ (by lia)];have:0<=(a.natAbs:Int)/l.natAbs:=W5 (by lia) (by lia);lia
 .rw[u,Iy _ (by lia)];have w:=Int.lt_mul_ediv_self_add (x:=(a.natAbs:Int)) r;have d:=p y c;rw[zzo];lia
 .rw[Iy _ (by lia)];have w:(a.natAbs:Int)/l.natAbs<=a.natAbs:=SW _ (by lia);have d:(a.natAbs:Int)<=((2^b:Nat):Int):=by exact_mod_cast i a k
  rw[e7]at d;have d:(a.natAbs:Int)<=2^b:=d;lia
def rO:List CS:=[.ret (.call 0 [(.call 1 [(.var 0),(.var 1)]),(.tup [(.int 2),(.int 1)])])]
def oV:aV:=λc Q _=>∃(a b:Rat)(n:Nat),c=[wq a,wq b]/\(Bd n a/\Bd n b/\n<=2900)/\Q (wq ((a+b)*2⁻¹))
theorem HF(c:List W)(Q:W->Prop)(R:Addr->Prop)(h:oV c Q R):wSs (bI [Hl,Hz]) G rO (bC m Q R) (aj 2 c):=by obtain⟨a,b,n,rfl,⟨e,d,g⟩,f⟩:=h;show wSs _ _ rO _ [some (wq a),some (wq b)];unfold rO;fin2;refine⟨a,b,n,n,rfl,⟨e,d,by lia,by lia⟩,af (by simp),a+b,2,n+n+1,2,n+n+1,rfl,⟨(OD e d).dd,⟨by decide,by decide⟩,by lia,by decide,by lia⟩,λz=>absurd z (by decide),λ_=>f⟩
def rP:List CS:=[.ret (.tup [(.var 1),(.call 0 [(.var 0),(.var 1)])])]
def oW:aV:=λa Q _=>∃(L:List (List Int))(x:Rat),a=[.lst (L.map wI),wq x]/\(HA L/\Bx x)/\Q (.tup [wq x,.int (jE 0 (L.map (wv x.num x.den)):Nat)])
theorem HG(a:List W)(Q:W->Prop)(R:Addr->Prop)(h:oW a Q R):wSs (bI [rK]) G rP (bC m Q R) (aj 2 a):=by obtain⟨L,x,rfl,c,b⟩:=h;show wSs _ _ rP _ [some (.lst (L.map wI)),some (wq x)];unfold rP;fin2;exact⟨L,x,rfl,c,af (by simp),b⟩
def eW(V:Rat->Nat)(x:Rat):W:=.tup [wq x,.int (V x:Nat)]
def LH(V:Rat->Nat)(e:Rat×Rat×Nat):W:=.tup [eW V e.1,eW V e.2.1]
def yD(p:Rat×Rat):W:=.tup [wq p.1,wq p.2]
def Dy(X t:Nat)(x:Rat):Prop:=∃z:Int,x*((2^t:Nat):Rat)=z/\z.natAbs<=X*2^t
theorem WY(t:Nat):((2^t:Nat):Rat)≠0:=λz=>by have:((2^t:Nat):Int)=0:=GM.mp z;have:=TB (n:=t) (show 0<2 by decide);lia
theorem Dy.bd(h:Dy X t x)(c:X<=2^ξ)(b:t<=T):Bd (ξ+T+1) x:=by
 obtain⟨z,e,hz⟩:=h;have f:((2^t:Nat):Int)≠0:=by have:=TB (n:=t) (show 0<2 by decide);lia
 have ex:x=An z ((2^t:Nat):Int):=by rw[mM,<-e];have:=WY t;show x=x*((2^t:Nat):Rat)/((2^t:Nat):Rat);grind
 obtain⟨d,a⟩:=uK z ((2^t:Nat):Int) f;rw[<-ex]at d a;rw[BB]at a;have j:X*2^t<=2^(ξ+T):=by rw[Y1];exact QR c (Ha (by decide) b)
 have i:2^t<=2^(ξ+T):=Ha (by decide) (by lia);have g:2^(ξ+T)<2^(ξ+T+1):=X1 (by decide) (Qr _);exact⟨by lia,by lia⟩
theorem Dy.up(h:Dy X t x):Dy X (t+1) x:=by
 obtain⟨z,e,hz⟩:=h;refine⟨2*z,?_,?_⟩
 .rw[El,ub,BM,<-e];show x*(_*(2:Rat))=(2:Rat)*_;grind
 .rw[GT,El];show 2*z.natAbs<=_;rw[<-mI];lia
theorem Dy.mid(b:Dy X t x)(a:Dy X t y):Dy X (t+1) ((x+y)*2⁻¹):=by
 obtain⟨z,e,hz⟩:=b;obtain⟨u,c,d⟩:=a;refine⟨z+u,?_,?_⟩
 .rw[El,ub,RF,<-e,<-c];show(x+y)*2⁻¹*(_*(2:Rat))=_;grind
 .rw[El,<-mI];have:=dc z u;lia
def Wk(X T:Nat):Rat->List (Rat×Rat×Nat)->Prop
 |c,[]=>c=(X:Rat)
 |c,(lo,hi,t)::l=>(lo=c/\lo<hi/\Dy X t lo/\Dy X t hi/\(hi -lo)*((2^t:Nat):Rat)=2*(X:Rat)/\t<=T/\l.length<=t)/\Wk X T hi l
structure Tk(V:Rat->Nat)(N:Nat)(X:Nat)(l:List (Rat×Rat))(c:Rat):Prop where
 all:∀p∈l,p.1<p.2/\V p.1=V p.2+1/\Bd N p.1/\Bd N p.2/\p.2<=c
 pw:l.Pairwise λp q=>p.2<=q.1
 len:l.length+V c=V (-(X:Rat))
theorem Tk.go{V:Rat->Nat}(h:Tk V N X l c)(g:c<d)(e:V d=V c):Tk V N X l d:=
 ⟨λp f=>let⟨a,b,c1,d1,e1⟩:=h.all p f;⟨a,b,c1,d1,rp e1 (FK g)⟩,h.pw,by rw[e];exact h.len⟩
theorem Tk.app{V:Rat->Nat}(h:Tk V N X l c)(g:c<d)(e:V c=V d+1)(o:Bd N c)(n:Bd N d):Tk V N X (l++[(c,d)]) d:=by
 refine⟨λp f=>?_,?_,?_⟩
 .rcases SL.mp f with f|f
  .obtain⟨a,b,m,k,j⟩:=h.all p f;exact⟨a,b,m,k,rp j (FK g)⟩
  .rw[Fh.mp f];exact⟨g,e,o,n,Sd⟩
 .refine zzi.mpr ⟨h.pw,kb _ _,λp f q i=>?_⟩;rw[Fh.mp i];exact(h.all p f).2.2.2.2
 .have:=h.len;rw[KB];show l.length+1+V d=_;lia
def HH:List CS:=[.Tr [5,6] (.pop 4),.iff (.cmp .Gt (.bin .Sub (.ix (.var 5) (.int 1)) (.ix (.var 6) (.int 1))) (.int 1)) [.set 7 (.call 2 [(.var 1),(.call 3 [(.ix (.var 5) (.int 0)),(.ix (.var 6) (.int 0))])]),.set 4 (.bin .Add (.var 4) (.lst [(.tup [(.var 7),(.var 6)]),(.tup [(.var 5),(.var 7)])]))] [.iff (.cmp .Eq (.bin .Sub (.ix (.var 5) (.int 1)) (.ix (.var 6) (.int 1))) (.int 1)) [.app 3 (.tup [(.ix (.var 5) (.int 0)),(.ix (.var 6) (.int 0))])] []]]
def So:List CS:=[.set 1 (.call 0 [(.var 0)]),.set 2 (.call 1 [(.var 0)]),.set 3 (.lst []),.set 4 (.lst [(.tup [(.call 2 [(.var 1),(.tup [(.neg (.var 2)),(.int 1)])]),(.call 2 [(.var 1),(.tup [(.var 2),(.int 1)])])])]),.zG (.cmp .NotEq (.var 4) (.lst [])) HH,.ret (.var 3)]
def mu(T:Nat)(l:List (Rat×Rat×Nat)):Nat:=(l.map λe=>2^(T+1 -e.2.2) -1).sum
theorem WZ{V:Rat->Nat}{X T ξ:Nat}{lo hi:Rat}{t:Nat}{l:List (Rat×Rat×Nat)}{g:List (Rat×Rat)}{R Q i:Option W}(eV:∀x:Rat,jE 0 (L.map (wv x.num x.den))=V x)(K:HA L)(s:X<=2^ξ)(Z:ξ+T+1<=2900)
 (gx:∀a b,a<b->V b<=V a)(few:V (-(X:Rat))<=30)(o:t=T->V lo<=V hi+1)(Y:Wk X T lo ((lo,hi,t)::l))(j:Tk V (ξ+T+1) X g lo)
 (u:∀c q J P O M,Wk X T c q->Tk V (ξ+T+1) X J c->mu T q<mu T ((lo,hi,t)::l)->D.nx [p,some (.lst (L.map wI)),some (.int X),some (.lst (J.map yD)),some (.lst (q.map (LH V)).reverse),P,O,M]):
 wSs (bI [jx,gf,oW,oV]) G HH D [p,some (.lst (L.map wI)),some (.int X),some (.lst (g.map yD)),some (.lst (((lo,hi,t)::l).map (LH V)).reverse),R,Q,i]:=by
 obtain⟨⟨_,f,y,w,C,n,lt⟩,m⟩:=Y;have I:=y.bd s n;have H:=w.bd s n;have bx:∀{x:Rat},Bd (ξ+T+1) x->Bx x:=λh=>⟨_,by lia,h.1,h.2⟩;have p1:1<=2^(T -t):=wb;have B:mu T ((lo,hi,t)::l)=2*2^(T -t) -1+mu T l:=by show 2^(T+1 -t) -1+mu T l=_;rw[show T+1 -t=(T -t)+1 by lia,El,ag]
 unfold HH;refine au (λk=>k=[p,some (.lst (L.map wI)),some (.int X),some (.lst (g.map yD)),some (.lst (l.map (LH V)).reverse),some (eW V lo),some (eW V hi),i]) (λN z=>?_) ?_
 .have z:=z _ rfl;rw[Wp,xn];fin2;refine⟨LH V (lo,hi,t),by rw[<-KM,ZK],?_⟩;rw[List.dropLast_concat];unfold LH;fin2;exact⟨rfl,z⟩
 rintro _ rfl;have fl:=gx lo hi f;unfold eW;fin2;refine⟨_,rfl,_,rfl,?_⟩;fin2;by_cases F:(1:Int)<(V lo:Int) -(V hi:Int)
 .rw[D1 (Fn F)];have A:t<T:=rg n λe=>by have:=o e;lia
  have v:=Dy.mid y w;have bm:=v.bd s (show t+1<=T from A);fin2;refine⟨_,rfl,_,rfl,lo,hi,ξ+T+1,rfl,⟨I,H,Z⟩,L,(lo+hi)*2⁻¹,rfl,⟨K,bx bm⟩,?_⟩;rw[eV];have h2:(2:Rat)*2⁻¹=1:=by grind
  have U:lo<(lo+hi)*2⁻¹:=by grind
  have S:(lo+hi)*2⁻¹<hi:=by grind
  have d:=u lo ((lo,(lo+hi)*2⁻¹,t+1)::((lo+hi)*2⁻¹,hi,t+1)::l) g (some (eW V lo)) (some (eW V hi)) (some (eW V ((lo+hi)*2⁻¹))) ⟨⟨rfl,U,y.up,v,?_,A,by rw[Av];lia⟩,⟨rfl,S,v,w.up,?_,A,by lia⟩,m⟩ j ?_
  .refine⟨af (by simp),af (by simp),af (by simp),?_⟩;fin2;refine⟨?_,?_⟩
   .rw[gL,Bi];exact Do (show _<=3000 by simp;lia) (by decide)
   .rw[Wp,Wp,xn,xn,Re]at d;exact d
  .rw[El,ub,<-C];show _*(_*(2:Rat))=_;grind
  .rw[El,ub,<-C];show _*(_*(2:Rat))=_;grind
  .rw[B];show 2^(T+1 -(t+1)) -1+(2^(T+1 -(t+1)) -1+mu T l)<_;rw[show T+1 -(t+1)=T -t by lia];lia
 .rw[Bz (by rw[KE];exact F)];refine⟨_,rfl,_,rfl,?_⟩;fin2;by_cases E:(V lo:Int) -(V hi:Int)=1
  .rw[D1 (Fn E)];have r:=j.app f (by lia) I H;refine⟨_,rfl,_,rfl,af (by simp),?_,?_⟩
   .have:=j.len;exact ny (by rw[Bi];lia)
   .have d:=u hi l (g++[(lo,hi)]) (some (eW V lo)) (some (eW V hi)) i m r (by rw[B];lia);rw[mB]at d;exact d
  .rw[Bz (by rw[KE];exact E)];exact u hi l g (some (eW V lo)) (some (eW V hi)) i m (j.go f (by lia)) (by rw[B];lia)
theorem Sq(S:α->Ev)(J:α->Prop)(f:α->Nat)(e:α)(i:a=S e)(h:J e)(g:∀s,J s->wE d G D.ex c (S s) λx=>truth x (Wt S J f (wSs d G b) D s)):wS d G (.zG c b) D a:=by show FZ (λa Q=>wE d G D.ex c a λx=>truth x Q) (wSs d G b) D a;exact kg S J f e i h g
theorem W0(a:Pz L C)(x:Rat):jE 0 (L.map (wv x.num x.den))=cP C x:=by rw[show wv x.num x.den=Num.wv x.num x.den from funext (Nq _ _)];exact(JQ (x:=x) (t:=x.num) (b:=x.den) (by have:=x.den_pos;lia) (Cb x) a).symm
theorem short{lo hi:Rat}{b X:Nat}(a:(hi -lo)*((2^(b+110):Nat):Rat)=2*(X:Rat))(f:X<=2^(b+2)):(hi -lo)*(2^100:Rat)<=1:=by
 have g:(X:Rat)<=((2^(b+2):Nat):Rat):=zz1.mpr f;have e:((2^(b+110):Nat):Rat)=((2^(b+2):Nat):Rat)*((2:Rat)^100*256):=by
  have e:2^(b+110)=2^(b+2)*2^108:=by rw[<-Y1]
  rw[e,ub,show((2^108:Nat):Rat)=(2:Rat)^100*256 by decide+kernel]
 have c:(0:Rat)<((2^(b+2):Nat):Rat):=zzd.mpr (TB (by decide));rw[e]at a;generalize((2^(b+2):Nat):Rat)=P at*;generalize hi -lo=d at*;have:P*(d*(2^100:Rat))<=P*1:=by grind
 exact hZ this c
def Ap(ns:List Int):Prop:=∀(C:List (List Rat))(a b:Rat),Cc (qI ns) C->a<b->(b -a)*(2^100:Rat)<=1->cP C a<=cP C b+1
def Su:aV:=λc Q _=>∃(a:List Int)(b:Nat),c=[wI a]/\(TM a b/\b<=33/\Ap a)/\∀(C:List (List Rat))(X N:Nat)(l:List (Rat×Rat)),N<=180->X<=2^(b+2)->Cc (qI a) C->RB a X->Tk (cP C) N X l (X:Rat)->Q (.lst (l.map yD))
theorem W2(I:List W)(Q:W->Prop)(R:Addr->Prop)(h:Su I Q R):wSs (bI [jx,gf,oW,oV]) G So (bC m Q R) (aj 8 I):=by
 obtain⟨g,b,rfl,⟨K,hb,ap⟩,hq⟩:=h;show wSs _ _ So _ [some (wI g),none,none,none,none,none,none,none];unfold So;have l2:=K.l2;have Lz:=K.Lz;have P:Rp (qI g):=⟨gD K.nz,by rw[bJ];exact l2⟩;refine au (λd=>∃(L:List (List Int))(C:List (List Rat)),(Cc (qI g) C/\Pz L C/\HA L)/\d=[some (wI g),some (.lst (L.map wI)),none,none,none,none,none,none]) (λN f=>?_) ?_
 .fin2;exact⟨g,rfl,R9 K,λL C u A v=>f _ ⟨L,C,⟨u,A,v⟩,rfl⟩⟩
 rintro _ ⟨L,C,⟨u,A,v⟩,rfl⟩;refine au (λd=>∃X:Nat,RB g X/\d=[some (wI g),some (.lst (L.map wI)),some (.int X),none,none,none,none,none]) (λN f=>?_) ?_
 .fin2;refine⟨g,b,rfl,⟨by lia,by lia,K.nz,K.bd,by lia⟩,λX q=>?_⟩;obtain⟨n,rfl⟩:∃n:Nat,X=n:=⟨X.toNat,by have:=q.two;lia⟩;exact f _ ⟨n,q,rfl⟩
 rintro _ ⟨X,q,rfl⟩;have y:X<=2^(b+2):=by have h1:=q.up b K.bd;have h2:((2^b:Nat):Int)=2^b:=e7 2 b;rw[<-h2]at h1;have:1<=2^b:=wb;rw[Y1];lia
 have hX2:2<=X:=by have:=q.two;lia
 have H:=W0 A;have few:=u.few P;rw[bJ]at few;have gx:∀a b,a<b->cP C b<=cP C a:=λa b h=>u.gx P h;generalize O:cP C=V at*;have S:(((-(X:Int):Int)):Rat)= -(X:Rat):=DN X;have Y:∀z:Int,z.natAbs<=X->Bx ((z:Int):Rat):=λz hz=>⟨b+3,by lia,HI (Do hz y) (X1 (by decide) (by lia)),Nat.one_lt_two_pow (by lia)⟩;have d0:Dy X 0 (-(X:Rat)):=⟨-(X:Int),by rw[S,Xm];show _*(1:Rat)=_;grind,by lia⟩;have U:Dy X 0 (X:Rat):=⟨X,by rw[Xm];show _*(1:Rat)=_;rw[mf];rfl,by lia⟩;have xp:(0:Rat)<(X:Rat):=zzd.mpr (by lia);refine au (λd=>d=[some (wI g),some (.lst (L.map wI)),some (.int X),some (.lst []),none,none,none,none]) (λN f=>?_) ?_
 .fin2;exact⟨af (by simp),f _ rfl⟩
 rintro _ rfl;refine au (λd=>d=[some (wI g),some (.lst (L.map wI)),some (.int X),some (.lst []),some (.lst [LH V (-(X:Rat),(X:Rat),0)]),none,none,none]) (λN f=>?_) ?_
 .have f:=f _ rfl;unfold LH eW at f;rw[<-S]at f;fin2;refine⟨af (by simp),L,((-(X:Int):Int):Rat),rfl,⟨v,Y _ (by lia)⟩,af (by simp),L,((X:Int):Rat),rfl,⟨v,Y _ (by lia)⟩,af (by simp),af (by simp),?_⟩;rw[H,H];exact f
 rintro _ rfl;obtain⟨T,hT⟩:∃T,T=b+110:=⟨_,rfl⟩;refine au (λd=>∃(o:List (Rat×Rat))(J E D B:Option W),Tk V (b+2+T+1) X o (X:Rat)/\d=[some (wI g),some (.lst (L.map wI)),some (.int X),some (.lst (o.map yD)),J,E,D,B]) (λN f=>?_) ?_
 .refine Sq (α:=List (Rat×Rat×Nat)×List (Rat×Rat)×Option W×Option W×Option W) (λs=>[some (wI g),some (.lst (L.map wI)),some (.int X),some (.lst (s.2.1.map yD)),some (.lst (s.1.map (LH V)).reverse),s.2.2.1,s.2.2.2.1,s.2.2.2.2]) (λs=>∃c,Wk X T c s.1/\Tk V (b+2+T+1) X s.2.1 c) (λs=>mu T s.1) ([(-(X:Rat),(X:Rat),0)],[],none,none,none) rfl ⟨-(X:Rat),⟨⟨rfl,by grind,d0,U,?_,Os _,Os _⟩,rfl⟩,⟨λp hp=>(by cases hp),.nil,lh _⟩⟩ ?_
  .rw[Xm];show _*(1:Rat)=_;grind
  rintro⟨l,o,E,D,B⟩ ⟨c,i,r⟩;dsimp only at i r⊢;fin2;refine⟨af (by simp),⟨.inl ⟨T2.mpr λw i=>?_,rfl⟩,λk x=>?_⟩⟩
  .obtain⟨e,_,rfl⟩:=OF.mp (List.mem_reverse.mp i);rfl
  fin2;refine gj (λj=>?_) (λj=>?_)
  .cases l with
   |nil=>have:k=true:=x.mpr rfl;rw[this]at j;cases j
   |cons e l=>
    obtain⟨M,hi,t⟩:=e;have ec:M=c:=i.1.1;subst ec;refine WZ (ξ:=b+2) (T:=T) H v y (by lia) gx (by have:=few (-(X:Rat));lia) (λe=>?_) i r λc' l' XY p5 p6 p7 XA ZO hm=>?_
    .obtain⟨⟨_,F,U,d2,Z,_,_⟩,_⟩:=i;have:=ap C M hi u F (short (hT▸e▸Z) y);rw[O]at this;exact this
    .exact⟨(l',XY,p5,p6,p7),rfl,⟨c',XA,ZO⟩,hm⟩
  .have kt:k=true:=by
    cases k with
    |true=>rfl
    |false=>cases j
   have:=x.mp kt;have l0:l=[]:=by have:=SU (λw=>match w with|W.lst l=>l.length|_=>0) this;have:(l.map (LH V)).reverse.length=0:=this;rw[gL,Bi]at this;exact Oy.mp this
   subst l0;have i:c=(X:Rat):=i;subst i;exact f _ ⟨o,_,_,_,_,r,rfl⟩
 rintro _ ⟨o,J,E,D,B,r,rfl⟩;fin2;rw[<-O]at r;exact hq C X _ o (by lia) y u q r
theorem W3{lo hi:Rat}(e:lo<hi)(f:(hi -lo)*(2^100:Rat)<=1):∀{L:List Kn},(∀n∈L,aD n/\Sb n)->L.Pairwise (λn m=>Sep n.lo m.lo)->L.countP (λn=>gQ lo hi n.lo)<=1
 |[],_,_=>Os _
 |n::L,h,p=>by
  obtain⟨g,p2⟩:=hJ.mp p;have i:=W3 e f (λm d=>h m (FM _ d)) p2;rw[tJ];by_cases c:gQ lo hi n.lo=true
  .have z:L.countP (λn=>gQ lo hi n.lo)=0:=vb.mpr λm d q=>by have a:=h n FS;have b:=h m (FM _ d);exact Vy a.1 b.1 a.2 b.2 (g m d) e f c q
   rw[z,D1 c];decide
  .rw[Bz c];exact i
theorem Kw.ap(h:Kw l w)(d:2<=w.length)(c:∀n∈nums l,aD n/\Sb n)(f:κ≠0)(e:qI ms=u6 κ (qI w)):Ap ms:=λC i j b a g=>by rw[e]at b;rw[h.count d f b a];have:=W3 a g c h.sep;lia
def HJ(ns:List Int)(X:Nat):Prop:=∀y∈ns,(y.natAbs:Int)+(ns.getD (ns.length -1) 0).natAbs<=(ns.getD (ns.length -1) 0).natAbs*X
structure ZP(ns:List Int)(l:List (Rat×Rat)):Prop where
 ex:∃(c:Rat)(C:List (List Rat))(X N:Nat),c≠0/\Cc (u6 c (qI ns)) C/\HJ ns X/\2<=X/\X<=2^19/\N<=180/\Tk (cP C) N X l (X:Rat)
theorem Sv{U V:Int}(r:U≠0)(q:V≠0)(l:ms.length=ns.length)(e:∀i,ms.getD i 0*U=ns.getD i 0*V)(h:HJ ms X):HJ ns X:=λy m=>by
 obtain⟨k,s,rfl⟩:=Sub.mem_getD m;have b:=h _ (Sub.getD_mem' (show k<ms.length by lia));have g:=SU L0 (e k);have f:=SU L0 (e (ns.length -1));rw[GT,GT]at g f;rw[l]at b;have j:0<(V.natAbs:Int):=by lia
 refine Int.le_of_mul_le_mul_left (a:=(V.natAbs:Int)) ?_ j;have p:((ms.getD k 0).natAbs:Int)*U.natAbs=(ns.getD k 0).natAbs*V.natAbs:=by exact_mod_cast g
 have d:((ms.getD (ns.length -1) 0).natAbs:Int)*U.natAbs=(ns.getD (ns.length -1) 0).natAbs*V.natAbs:=by exact_mod_cast f
 have c:=fI b (show 0<=(U.natAbs:Int) by lia);have o:(U.natAbs:Int)*(((ms.getD k 0).natAbs:Int)+(ms.getD (ns.length -1) 0).natAbs)=V.natAbs*(((ns.getD k 0).natAbs:Int)+(ns.getD (ns.length -1) 0).natAbs):=by rw[zzo,zzo,ar,p,ar (U.natAbs:Int),d];grind
 have n:(U.natAbs:Int)*(((ms.getD (ns.length -1) 0).natAbs:Int)*X)=V.natAbs*(((ns.getD (ns.length -1) 0).natAbs:Int)*X):=by rw[<-Yf,ar (U.natAbs:Int),d];grind
 rw[o,n]at c;exact c
def jg:List CS:=[.iff (.cmp .Eq (.var 0) (.lst [])) [.Tq] [],.iff (.cmp .Eq (.blt .len [(.var 0)]) (.int 1)) [.ret (.lst [])] [],.ret (.call 0 [(.ix (.call 1 [(.var 0)]) (.int 0))])]
def nH:aV:=λe Q _=>∃(a:List Int)(t d:Int),e=[jG (lY a t d)]/\((a.length=1/\Q (.lst []))\/
 ((TM a 17/\∀(b:Rat)(c:List Int),b≠0->qI c=u6 b (qI a)->Ap c)/\t≠0/\t.natAbs<=7/\0<d/\d.natAbs<2^100)/\∀l,ZP a l->Q (.lst (l.map yD)))
theorem Ao(j:List W)(Q:W->Prop)(R:Addr->Prop)(h:nH j Q R):wSs (bI [Su,iA]) G jg (bC m Q R) (aj 1 j):=by
 obtain⟨c,t,d,rfl,h⟩:=h;show wSs _ _ jg _ [some (jG (lY c t d))];unfold jg;have e:(lY c t d).length=c.length:=Bi _;have O:1<=c.length:=by
  rcases h with h|⟨⟨⟨h,_⟩,_⟩,_⟩
  .lia
  .have:=h.l2;lia
 refine au (λb=>b=[some (jG (lY c t d))]) (λN a=>?_) ?_
 .fin2;refine⟨af (by simp),RN (y:=[]) λk A=>?_⟩;cases lT A (λz=>by rw[z]at e;have e:0=c.length:=e;lia);fin2;exact a _ rfl
 rintro _ rfl;rcases h with⟨D,f⟩|⟨⟨⟨K,H⟩,w,v,E,I⟩,f⟩
 .unfold jG;fin2;rw[Bi,e,D,D1 (by decide)];exact⟨af (by simp),f⟩
 have l2:=K.l2;refine au (λb=>b=[some (jG (lY c t d))]) (λN a=>?_) ?_
 .have a:=a _ rfl;unfold jG at a⊢;fin2;rw[Bi,e,Bz (by rw[KE];lia)];exact a
 rintro _ rfl;fin2;refine Sa K w v E I λo i U V M L q J x p s r g=>⟨_,rfl,?_⟩;refine⟨o,17,rfl,⟨J,by decide,H i o q p⟩,λC X N l a B F n u=>f l ⟨i,C,X,N,q,by rw[<-p];exact F,Sv s r x g n.TN,by have:=n.two;lia,B,a,u⟩⟩
def Lt(n m:Kn):Prop:=∃z,0<n.f z/\m.f z<=0
theorem Lt.no(e:aD n)(f:aD m)(h:Lt n m)(k:Lt m n):False:=by
 obtain⟨z,a,b⟩:=h;obtain⟨y,c,d⟩:=k;have g:y<z:=Ee λq=>by have:=e.vg (show z<=y by grind);grind
 have:=f.vg (FK g);grind
theorem Ci(f:aD m)(e:aD n)(a:n.lo z=false)(b:m.lo z=true):Lt n m:=by obtain⟨y,l,d⟩:=f.cut.op z b;have a:=aD.lC.mp a;have:=e.C4 l;have c:=aD.dh.mp d;exact⟨y,by grind,by grind⟩
theorem Sep.or(c:aD n)(d:aD m)(h:Sep n.lo m.lo):Lt n m\/Lt m n:=by
 obtain⟨z,hz⟩:=h;cases a:n.lo z with
 |false=>
  cases b:m.lo z with
  |false=>rw[a,b]at hz;exact absurd rfl hz
  |true=>exact .inl (Ci d c a b)
 |true=>
  cases b:m.lo z with
  |false=>exact .inr (Ci c d b a)
  |true=>rw[a,b]at hz;exact absurd rfl hz
theorem HK(c:aD m):Lt (kq x) m↔m.lo x=true:=by
 constructor
 .rintro⟨z,a,b⟩;have l:x<z:=Ee λq=>by have:=(FO x z).mpr (by grind);grind
  have:=c.C4 l;exact aD.dh.mpr (by grind)
 .intro h;refine Ci c (qy x) (z:=x) (aD.lC.mpr ?_) h;rw[Vs];grind
theorem Sw(l:aD n)(o:aD m)(K:Kr n ms)(L:Kr m ms)(F:LF n=LF m)(z:Rat):n.lo z=m.lo z:=by
 obtain⟨c,U,S⟩:=K.ev;obtain⟨d,T,R⟩:=L.ev;have i1:d*d⁻¹=1:=Fs _ (by grind);have D:=Pi.mpr T;have i:=GE U D;have e:∀x,n.h x=c*d⁻¹*m.h x:=λx=>by rw[S,R];grind
 generalize c*d⁻¹=j at*;have sg:∀x,(n.h x<0↔m.h x<0)/\(0<n.h x↔0<m.h x):=λx=>by
  rw[e];refine⟨⟨λq=>?_,λq=>?_⟩,⟨λq=>?_,λq=>?_⟩⟩
  .exact Ee λr=>by have:=PH (FK i) (show 0<=m.h x by grind);grind
  .have:=GE i (show 0< -m.h x by grind);grind
  .exact Ee λr=>by have:=PH (FK i) (show 0<=-m.h x by grind);grind
  .exact GE i q
 have B:∀{n:Kn},n.k≠2->∀x,n.h x=n.f x:=λk x=>by unfold Kn.h;rw[Bz k]
 have w:∀{n m:Kn}{j:Rat},aD n->aD m->0<j->(∀x,n.h x=j*m.h x)->n.k=2->m.k≠2->False:=λ{n m j} l o i e g a=>by
  have qb:=l.qb;have b1:(n.b:Rat)*(n.b:Rat)⁻¹=1:=Fs _ (by grind);have X:n.A ((n.t+1)*(n.b:Rat)⁻¹)=1:=by unfold Kn.A;grind
  have a2:n.A ((n.t -1)*(n.b:Rat)⁻¹)= -1:=by unfold Kn.A;grind
  have s:n.h ((n.t+1)*(n.b:Rat)⁻¹)=n.h ((n.t -1)*(n.b:Rat)⁻¹):=by unfold Kn.h;rw[D1 g,D1 g,X,a2];grind
  rw[e,e,B a,B a]at s;have D:=Pi.mpr qb;have:=o.C4 (show(n.t -1)*(n.b:Rat)⁻¹<(n.t+1)*(n.b:Rat)⁻¹ by grind);have:=GE i (show 0<m.f ((n.t+1)*(n.b:Rat)⁻¹) -m.f ((n.t -1)*(n.b:Rat)⁻¹) by grind);grind
 by_cases g:n.k=2
 .by_cases a:m.k=2
  .have I:(0<n.s↔0<m.s):=by unfold LF at F;by_cases q:0<n.s<;>by_cases r:0<m.s<;>simp[g,a,q,r]at F⊢
   have J:∀{n:Kn},aD n->∃y,n.A y=0:=λ{n} h=>⟨n.t*(n.b:Rat)⁻¹,by have:=h.qb;have:(n.b:Rat)*(n.b:Rat)⁻¹=1:=Fs _ (by grind);unfold Kn.A;grind⟩;obtain⟨y,P⟩:=J l;obtain⟨v,E⟩:=J o;have H:∀x,n.A x*n.A x -n.u=j*(m.A x*m.A x -m.u):=λx=>by have:=e x;unfold Kn.h at this;rw[D1 g,D1 a]at this;exact this
   have p:=H y;have Q:=H v;rw[P]at p;rw[E]at Q;have s1:=eN (n.A v);have s2:=PH (FK i) (eN (m.A y));have Y:n.A v=0:=by
    have:n.A v*n.A v=0:=by grind
    exact(Kk.mp this).elim id id
   have M:=l.qb;have N:=o.qb;have Z:∀x,n.A x=n.b*(x -v):=λx=>by unfold Kn.A at Y⊢;grind
   have Am:∀x,m.A x=m.b*(x -v):=λx=>by unfold Kn.A at E⊢;grind
   have C:n.A z<0↔m.A z<0:=by
    rw[Z,Am];have f:∀{b:Rat},0<b->(b*(z -v)<0↔z<v):=λ{b} G=>by
     constructor
     .intro q;exact Ee λr=>by have:=PH (FK G) (show 0<=z -v by grind);grind
     .intro q;have:=GE G (show 0<v -z by grind);grind
    rw[f M,f N]
   have lo:∀{n:Kn},aD n->n.k=2->(n.lo z=true↔if 0<n.s then(n.A z<0\/n.h z<0)else(n.A z<0/\0<n.h z)):=λ{n} h k=>by
    have u0:=h.qu (by rw[k];decide);have sq:=eN (n.A z);rw[aD.dh];unfold Kn.f Kn.h Kn.c;rw[k,Iq,D1 rfl];have o1:((1:Int):Rat)=1:=rfl;have o2:((-1:Int):Rat)= -1:=rfl;rcases h.s1 (by rw[k];decide)with s|s
    .rw[s,D1 (show(0:Int)<1 by decide),o1];by_cases q:n.A z<0
     .rw[D1 q];exact⟨λ_=>.inl q,λ_=>by grind⟩
     .rw[Bz q];exact⟨λ_=>.inr (by grind),λr=>r.elim (λr=>absurd r q) λr=>by grind⟩
    .rw[s,Bz (show¬(0:Int)< -1 by decide),o2];by_cases q:n.A z<0
     .rw[D1 q];exact⟨λ_=>⟨q,by grind⟩,λr=>by grind⟩
     .rw[Bz q];exact⟨λ_=>by grind,λr=>absurd r.1 q⟩
   have:n.lo z=true↔m.lo z=true:=by
    rw[lo l g,lo o a];have p:=sg z;by_cases q:0<n.s
    .rw[D1 q,D1 (I.mp q),C,p.1]
    .rw[Bz q,Bz (λr=>q (I.mpr r)),C,p.2]
   exact uk.mpr this
  .exact(w l o i e g a).elim
 .by_cases a:m.k=2
  .have O:=Pi.mpr i;have j1:j*j⁻¹=1:=Fs _ (by grind);exact(w o l O (λx=>by rw[e];grind) a g).elim
  .have p:=(sg z).1;rw[B g,B a]at p;unfold Kn.lo;exact y4.mpr p
structure Nw(n:Kn):Prop where
 ok:aD n
 t2:n.t.natAbs<2^180
 b2:n.b.natAbs<2^180
 nm:n.k≠1->IC n
def l6:aV:=λb Q _=>∃(n:Kn)(S:Int)(a:Nat),b=[wK n,.int S]/\Nw n/\0<S/\S.natAbs<2^a/\a<=1000/\∀F,FL n S F->Q (.int F)
theorem DB(F:List W)(Q:W->Prop)(R:Addr->Prop)(h:l6 F Q R):wSs (bI [rM,jy]) G rN (bC m Q R) (aj 8 F):=by
 obtain⟨n,S,d,rfl,k,s0,D,K,L⟩:=h;show wSs _ _ rN _ [some (wK n),some (.int S),none,none,none,none,none,none];unfold rN;have b0:=k.ok.b0;have t2:=k.t2;have j:∀g:Int,(∀J:Int,J<=g↔kG n.k J<=n.s*n.u*kG n.k S)->Q (.int ((n.t*S+g).fdiv n.b)):=λg l=>L _ (Vr s0 λm=>by rw[Iy _ (by lia),Int.le_ediv_iff_mul_le b0,<-l,ar];lia);have dv:kN 0 n.b:=⟨by lia,rj k.b2 (by decide)⟩;refine au (λa=>∃o,a=[some (wK n),some (.int S),some (.int n.t),some (.int n.s),some (.int n.u),some (.int n.b),some (.int n.k),o]) (λN c=>?_) ?_
 .have c:=c _ ⟨none,rfl⟩;unfold wK at c⊢;fin2;exact⟨rfl,c⟩
 rintro _ ⟨o,rfl⟩;refine au (λa=>a=[some (wK n),some (.int S),some (.int n.t),some (.int n.s),some (.int n.u),some (.int n.b),some (.int n.k),some (.int (n.t*S))]) (λN c=>?_) ?_
 .fin2;exact⟨aF t2 D (by lia),c _ rfl⟩
 rintro _ rfl;by_cases i:n.k=1
 .have s1:=k.ok.s0 i;fin2;rw[s1,Bz (by decide),Bz (by decide)];refine⟨dv,?_⟩;have:=j 0 λJ=>by rw[s1,i];show J<=0↔J<=0*n.u*_;rw[dk,dk]
  rw[iq]at this;exact this
 obtain⟨e,p,O,C⟩:∃e:Nat,n.k=(e:Int)/\2<=e/\e<=3:=by
  rcases k.ok.kd with z|z|z
  .exact absurd z i
  .exact⟨2,z,by decide,by decide⟩
  .exact⟨3,z,by decide,by decide⟩
 have u0:=k.ok.u0 i;have u2:=(k.nm i).u2;have E:e=1\/e=2\/e=3:=by lia
 have B:kG n.k S=S^e:=lD p E (by lia);have T:(S^e).natAbs<2^(3*d+1):=Fm (Ak D e) (Ha (by decide) (by have:=Fk d C;lia));have U:0<S^e:=fx s0;have X:0<n.u*S^e:=eP u0 U;have f:∀{Q:W->Prop}{R:Addr->Prop},(∀r:Int,0<=r->kG n.k r<=n.u*S^e->n.u*S^e<kG n.k (r+1)->Q (.int r))->jy [.int S,.int n.k] (λx=>gE .Mult (.int n.u) x λy=>rM [y,.int n.k] Q R) R:=λ{Q R} q=>by
  refine⟨S,e,d,by rw[p],⟨C,D,by lia⟩,aF u2 T (by lia),n.u*S^e,e,40+(3*d+2),by rw[p],⟨by lia,O,C,?_,by lia⟩,λr v A w _=>q r v (by rw[lD p E v];exact A) (by rw[lD p E (by lia)];exact w)⟩;rw[GT,Y1];have Y:(2:Nat)^(3*d+1)<=2^(3*d+2):=Ha (by decide) (by lia);have I:0<(2:Nat)^(3*d+2):=TB (by decide)
  calc n.u.natAbs*(S^e).natAbs<=n.u.natAbs*2^(3*d+2):=Fk _ (by lia)
   _<2^40*2^(3*d+2):=mN u2 I
 rcases k.ok.s1 i with s1|s1
 .refine au (λa=>∃g:Int,(∀J:Int,J<=g↔kG n.k J<=n.s*n.u*kG n.k S)/\a=[some (wK n),some (.int S),some (.int n.t),some (.int n.s),some (.int n.u),some (.int n.b),some (.int n.k),some (.int (n.t*S+g))]) (λN c=>?_) ?_
  .fin2;rw[D1 (by rw[s1];decide)];fin2;refine f λr v A w=>c _ ⟨r,λJ=>?_,rfl⟩;rw[s1,bo,B];constructor
   .intro q;have:=vh n.k q;lia
   .intro q;by_cases z:J<=r
    .exact z
    .have:=vh n.k (show r+1<=J by lia);lia
  rintro _ ⟨g,l,rfl⟩;fin2;rw[Bz (by rw[s1];decide)];exact⟨dv,j g l⟩
 .refine au (λa=>a=[some (wK n),some (.int S),some (.int n.t),some (.int n.s),some (.int n.u),some (.int n.b),some (.int n.k),some (.int (n.t*S))]) (λN c=>?_) ?_
  .fin2;rw[Bz (by rw[s1];decide)];exact c _ rfl
  rintro _ rfl;refine au (λa=>∃g:Int,(∀J:Int,J<=g↔kG n.k J<=n.s*n.u*kG n.k S)/\a=[some (wK n),some (.int S),some (.int n.t),some (.int n.s),some (.int n.u),some (.int n.b),some (.int n.k),some (.int (n.t*S+g))]) (λN c=>?_) ?_
  .fin2;rw[D1 (by rw[s1];decide)];fin2;refine f λr v A w=>c _ ⟨-1 -r,λJ=>?_,by rw[show n.t*S -1 -r=n.t*S+(-1 -r) by lia]⟩;have H:(0:Rat)<(S:Rat):=Ya.mpr s0;have i1:(S:Rat)*(S:Rat)⁻¹=1:=Fs _ (by grind);have Z:kG n.k r≠n.u*S^e:=λz=>by have np:=(k.ok.np i ((r:Rat)*(S:Rat)⁻¹)).1;have M:pk n.k ((S:Rat)*((r:Rat)*(S:Rat)⁻¹))=pk n.k S*pk n.k ((r:Rat)*(S:Rat)⁻¹):=xS n.k H;rw[show(S:Rat)*((r:Rat)*(S:Rat)⁻¹)=r by grind,<-b6,z,<-B,BM,b6]at M;have I:=m5 n.k H;generalize pk n.k ((r:Rat)*(S:Rat)⁻¹)=y at*;generalize pk n.k (S:Rat)=P at*;have i2:P*P⁻¹=1:=Fs _ (by grind);exact np (by grind)
   rw[s1,B,show(-1:Int)*n.u*S^e= -(n.u*S^e) by rw[u4,u4,bo]];constructor
   .intro q;have:=vh n.k (show J<=-(r+1) by lia);rw[Bv]at this;lia
   .intro q;by_cases z:J<=-1 -r
    .exact z
    .have:=vh n.k (show-r<=J by lia);rw[Bv]at this;omega
  rintro _ ⟨g,l,rfl⟩;fin2;exact⟨dv,j g l⟩
theorem FL.S9(d:FL n S a)(b:FL m S c)(l:a<c):Lt n m:=by
 have e:¬n.f (((a+1:Int):Rat)*(S:Rat)⁻¹)<=0:=λz=>by have:=(d (a+1)).mpr z;omega
 exact⟨_,by grind,(b (a+1)).mp (by lia)⟩
theorem FL.gQ(h:aD n)(c:0<S)(b:FL n S a):gQ (((a -1:Int):Rat)*(S:Rat)⁻¹) (((a+1:Int):Rat)*(S:Rat)⁻¹) n.lo=true:=by
 have g:¬n.f (((a+1:Int):Rat)*(S:Rat)⁻¹)<=0:=λz=>by have:=(b (a+1)).mpr z;omega
 have e:=(b a).mp (by omega);have d:=Pi.mpr (show(0:Rat)<(S:Rat)from Ya.mpr c);have:=h.C4 (show((a -1:Int):Rat)*(S:Rat)⁻¹<(a:Rat)*(S:Rat)⁻¹ by rw[SF];have:((1:Int):Rat)=1:=rfl;rw[this];grind);exact cU.mpr ⟨aD.dh.mpr (by grind),aD.lC.mpr (by grind)⟩
theorem LI(b:aD n)(c:aD m)(o:Sb n)(p:Sb m)(sp:Sep n.lo m.lo)(r:1<=S)(k:FL n S a)(j:FL m S a):S<64^17:=Ee λq=>by
 have f:(0:Rat)<(S:Rat):=Ya.mpr (by omega);have h:(S:Rat)*(S:Rat)⁻¹=1:=Fs _ (by grind);have i:=Pi.mpr f;have g:((64^17:Int):Rat)<=(S:Rat):=FV.mpr (by lia);have l:((64^17:Int):Rat)=4*(2:Rat)^100:=by decide+kernel
 rw[l]at g;have m:=Kb g (FK i);rw[h]at m;have e:((a+1:Int):Rat)=a+1:=by rw[RF];rfl
 have d:((a -1:Int):Rat)=a -1:=by rw[SF];rfl
 refine Vy b c o p sp ?_ ?_ (FL.gQ b (by omega) k) (FL.gQ c (by omega) j)
 .rw[e,d];grind
 .rw[e,d];grind
abbrev ZR(x:Rat):Prop:=Bd 180 x
theorem HL(o:ZR x)(j:aD n)(s:Sb n)(w:1<=S)(G:FL (kq x) S a)(F:FL n S a)(C:n.f x≠0):S<64^160:=by
 obtain⟨e,r,E,J⟩:=O3 j C;have b0:=j.b0;have l:(n.b:Rat)<=4:=FV.mpr s.b4;have B:(1:Rat)<=n.b:=FV.mpr (show(1:Int)<=n.b by lia);have N:=aZ (O4 s.t6) (show((6:Nat):Rat)<=6 by decide+kernel);have M:ab (n.A x) (((2^183:Int):Rat) -n.b):=by
  have d:(1:Rat)<=((x.den:Int):Rat):=FV.mpr (show(1:Int)<=x.den by have:=x.den_pos;lia);have e:=eS x;have m:ab ((x.num:Int):Rat) ((2^180:Nat):Rat):=O4 (SZ o.1);have t:ab x ((2^180:Nat):Rat):=by
   generalize((2^180:Nat):Rat)=P at*;generalize((x.num:Int):Rat)=p at*;generalize((x.den:Int):Rat)=q at*;unfold ab at*;constructor
   .by_cases z: -P<=x
    .exact z
    .have:=Da d (show 0<=-x by grind);grind
   .by_cases z:x<=P
    .exact z
    .have:=Da d (show 0<=x by grind);grind
  have h:=ao (u:=(n.b:Rat)) (v:=x) (A:=4) ⟨by grind,l⟩ t;have g:4*((2^180:Nat):Rat)+10<=((2^183:Int):Rat):=by decide+kernel
  unfold ab Kn.A at*;generalize((2^180:Nat):Rat)=P at*;generalize((2^183:Int):Rat)=L at*;grind
 have k:=FL.near j w G F (M:=((2^183:Int):Rat)) (by decide+kernel) M r E;have d:((x.den:Int):Rat)<=((2^180:Int):Rat):=FV.mpr (by have:=o.2;lia);have i:(0:Rat)<=((x.den:Int):Rat):=FV.mpr (show(0:Int)<=x.den by lia);have K:=oJ (PH i i) (oJ i d i d) i d;generalize((x.den:Int):Rat)*((x.den:Int):Rat)*((x.den:Int):Rat)=q at*;have D:(S:Rat)*e<=3*(((2^183:Int):Rat)*((2^183:Int):Rat))*4:=rp k (Da l (by decide+kernel));have I:1<=e*(((2^180:Int):Rat)*((2^180:Int):Rat)*((2^180:Int):Rat)):=rp J (Da K (FK r));have y:(0:Rat)<=(S:Rat):=FV.mpr (show(0:Int)<=S by lia);have Q:=Da I y;have m:(0:Rat)<=((2^180:Int):Rat)*((2^180:Int):Rat)*((2^180:Int):Rat):=by decide+kernel
 have O:=Kb D m;have H:(S:Rat)<=3*(((2^183:Int):Rat)*((2^183:Int):Rat))*4*(((2^180:Int):Rat)*((2^180:Int):Rat)*((2^180:Int):Rat)):=by generalize((2^180:Int):Rat)*((2^180:Int):Rat)*((2^180:Int):Rat)=P at*;generalize 3*(((2^183:Int):Rat)*((2^183:Int):Rat))*4=L at*;grind
 have c:3*(((2^183:Int):Rat)*((2^183:Int):Rat))*4*(((2^180:Int):Rat)*((2^180:Int):Rat)*((2^180:Int):Rat))<((64^160:Int):Rat):=by decide+kernel
 generalize 3*(((2^183:Int):Rat)*((2^183:Int):Rat))*4*(((2^180:Int):Rat)*((2^180:Int):Rat)*((2^180:Int):Rat))=P at*;generalize R:(64^160:Int)=T at*;exact kz.mp (by grind)
structure VV(ns:List Int)(V:Rat->Nat):Prop where
 one:ns.length=1->∀x,V x=0
 cn:∀lo hi v,2<=ns.length->Ctn ns lo hi v->v=(V lo:Int) -V hi
 gx:∀lo hi,lo<hi->V hi<=V lo
 few:∀x,V x+1<=ns.length
 odd:(2<=ns.length->∀d,Num.Fin d->DQ d (cz ns)->DQ d (cz (dW ns))->Un d)->∀lo hi,Num.ev lo (qI ns)*Num.ev hi (qI ns)≠0->(Num.ev lo (qI ns)*Num.ev hi (qI ns)<0↔(V lo+V hi)%2=1)
 ex:2<=ns.length->∃c C,c≠0/\Cc (u6 c (qI ns)) C/\V=cP C
theorem Aq(t:Int)(a:0<b):An t b*(b:Rat)=t:=by
 have:(b:Rat)≠0:=λz=>by have:=GM.mp z;lia
 rw[mM];grind
theorem vZ(c:0<b):((An t b).den:Int)<=b/\(An t b).num.natAbs<=t.natAbs:=by
 have h:Cd b (t.natAbs+1) (An t b):=⟨t,Aq t c,Nat.lt_trans (Qr _) Nat.lt_two_pow_self⟩;obtain⟨a,_⟩:=h.dvd;have e:=gA a;rw[Aq t c]at e;have e:=oy.mp e;have g:=(An t b).den_pos;refine⟨eJ c a,?_⟩;obtain⟨u,d⟩:=a;have q:b/((An t b).den:Int)=u:=by have:b/((An t b).den:Int)=((An t b).den:Int)*u/((An t b).den:Int):=SU (·/((An t b).den:Int)) d;rw[this,kA _ (by lia)]
 have f:u≠0:=λz=>by rw[z,T1]at d;lia
 rw[q]at e;have:=SU L0 e;rw[GT]at this;rw[<-this];exact UV _ (by lia)
theorem HM(k:Int)(y:Rat):pk k (-y)= -pk k y:=by
 unfold pk;by_cases d:k=1
 .rw[D1 d,D1 d]
 rw[Bz d,Bz d];by_cases c:k=2
 .rw[D1 c,D1 c];by_cases a:y<0
  .rw[D1 a,Bz (by grind)];grind
  .rw[Bz a];by_cases b: -y<0
   .rw[D1 b];grind
   .rw[Bz b,show y=0 by grind];grind
 .rw[Bz c,Bz c];grind
theorem Sy{e:Nat}(h:e=2\/e=3)(a:0<=y):pk (e:Int) y=y^e:=by
 rcases h with rfl|rfl
 .show pk 2 y=_;rw[Iq,Bz (by grind),cm,cm,my,cq]
 .show y*y*y=_;rw[cm,cm,cm,my,cq]
theorem Nu{k u r:Int}{e:Nat}(c:k=(e:Int))(h:e=2\/e=3)(f:0<=r)(l:r^e<u)(j:u<(r+1)^e)(y:Rat):pk k y≠(u:Rat)/\pk k y≠-(u:Rat):=by
 have m:e=1\/e=2\/e=3:=.inr h;have l:pk k (r:Rat)<(u:Rat):=by rw[<-b6,lD c m f];exact kz.mpr l
 have j:(u:Rat)<pk k ((r+1:Int):Rat):=by rw[<-b6,lD c m (by lia)];exact kz.mpr j
 have p:(0:Rat)<=(r:Rat):=FV.mpr f;have a:∀y:Rat,pk k y≠(u:Rat):=λy b=>by
  have i:(r:Rat)<y:=by
   by_cases z:y<=(r:Rat)
   .have:=qx k z;grind
   .grind
  have g:y<((r+1:Int):Rat):=by
   by_cases z:((r+1:Int):Rat)<=y
   .have:=qx k z;grind
   .grind
  rw[c,Sy h (by grind)]at b;have d:=SU Rat.den b;rw[Rat.den_pow]at d;have d:y.den^e=1:=d;have o:y.den=1:=by
   rcases Nat.pow_eq_one.mp d with z|z
   .exact z
   .rcases h with rfl|rfl<;>cases z
  have n:y=(y.num:Rat):=by have:=eS y;rw[o]at this;have this:y*1=y.num:=this;grind
  rw[n]at i g;have:=kz.mp i;have:=kz.mp g;lia
 refine⟨a y,λb=>a (-y) ?_⟩;rw[HM,b];grind
noncomputable def gM:List CS:=[.jZ 2 (.ix (.var 1) (.m6 0 0 [(.blt .len [(.var 1)])])),.jZ 3 (.bin .Add (.int 1) (.bin .Mult (.m6 0 0 [(.int 4)]) (.m6 0 0 [(.int 2)]))),.jZ 4 (.bin .Sub (.m6 0 0 [(.int 13)]) (.int 6)),.iff (.cmp .Eq (.var 2) (.int 1)) [.ua [4,3] (.call 1 [(.var 4),(.var 3)]),.C7 (.tup [(.var 4),(.int 0),(.int 0),(.var 3),(.int 1)])] [],.jZ 5 (.bin .Add (.int 2) (.m6 0 0 [(.int 40)])),.set 6 (.ix (.lst [(.int 2),(.var 2)]) (.bin .Mod (.var 2) (.int 2))),.iff (.cmp .Eq (.call 2 [(.call 3 [(.var 5),(.var 6)]),(.var 6)]) (.var 5)) [.set 5 (.bin .Add (.var 5) (.int 1))] [],.VD (.tup [(.var 4),(.bin .Sub (.int 1) (.bin .Mult (.int 2) (.m6 0 0 [(.int 2)]))),(.var 5),(.var 3),(.var 2)])]
theorem Lx.small{x:Rat}(d:0<b)(f:b<=9)(a:t.natAbs<=80):Lx (An t b):=by obtain⟨e,c⟩:=vZ (t:=t) d;exact⟨Do c a,by lia⟩
def Lu(n:Kn):Prop:=Ln n/\n.u<=42/\(n.k=1->∀y:Rat,n.t=y.num->n.b=y.den->Lx y)
def gO:aV:=λe Q _=>∃(a b:Int),e=[wW a b,.lst [.int 1,.int 1,.int 2,.int 3]]/\Wl a b/\∀n d c,Lu n->Wl d c->Q (.tup [wK n,wW d c])
theorem W4{x y z:W}(b:0<=i)(a:i<4):∃w,jQ [x,x,y,z] i=some w/\(w=x\/w=y\/w=z):=by
 have:i=0\/i=1\/i=2\/i=3:=by lia
 rcases this with rfl|rfl|rfl|rfl
 .exact⟨x,rfl,.inl rfl⟩
 .exact⟨x,rfl,.inl rfl⟩
 .exact⟨y,rfl,.inr (.inl rfl)⟩
 .exact⟨z,rfl,.inr (.inr rfl)⟩
theorem DC(M:List W)(Q:W->Prop)(R:Addr->Prop)(h:gO M Q R):wSs (bI [n5,Hu,jy,rM]) G gM (bC (.io m) Q R) (aj 7 M):=by
 obtain⟨a,b,rfl,j,T⟩:=h;show wSs _ _ gM _ [some (wW a b),some (.lst [.int 1,.int 1,.int 2,.int 3]),none,none,none,none,none];unfold gM;refine au (λc=>∃a b k,(Wl a b/\(k=1\/k=2\/k=3))/\c=[some (wW a b),some (.lst [.int 1,.int 1,.int 2,.int 3]),some (.int k),none,none,none,none]) (λN i=>?_) ?_
 .fin2;refine⟨a,b,4,rfl,j,by decide,by decide,λx o l D C f=>⟨_,_,rfl,?_⟩⟩;fin2;obtain⟨w,e,I⟩:=W4 (x:=.int 1) (y:=.int 2) (z:=.int 3) D C;refine⟨w,e,?_⟩;rcases I with rfl|rfl|rfl
  .exact i _ ⟨o,l,1,⟨f,.inl rfl⟩,rfl⟩
  .exact i _ ⟨o,l,2,⟨f,.inr (.inl rfl)⟩,rfl⟩
  .exact i _ ⟨o,l,3,⟨f,.inr (.inr rfl)⟩,rfl⟩
 clear j a b;rintro _ ⟨a,b,k,⟨j,U⟩,rfl⟩;refine au (λc=>∃a b d,(Wl a b/\1<=d/\d<=4)/\c=[some (wW a b),some (.lst [.int 1,.int 1,.int 2,.int 3]),some (.int k),some (.int d),none,none,none]) (λN i=>?_) ?_
 .fin2;refine⟨a,b,4,rfl,j,by decide,by decide,λx o l D C f=>⟨_,_,rfl,?_⟩⟩;fin2;refine⟨o,l,2,rfl,f,by decide,by decide,λy a2 L Z Y E=>⟨_,_,rfl,?_⟩⟩;fin2;have:y=0\/y=1:=by lia
  refine⟨aF (n:=3) (m:=3) (by lia) (by lia) (by decide),i _ ⟨a2,L,_,⟨E,?_⟩,rfl⟩⟩;rcases this with rfl|rfl<;>lia
 clear j a b;rintro _ ⟨a,b,d,⟨j,d0,d4⟩,rfl⟩;refine au (λc=>∃a b t,(Wl a b/\-6<=t/\t<=6)/\c=[some (wW a b),some (.lst [.int 1,.int 1,.int 2,.int 3]),some (.int k),some (.int d),some (.int t),none,none]) (λN i=>?_) ?_
 .fin2;exact⟨a,b,13,rfl,j,by decide,by decide,λx o l D C f=>⟨_,_,rfl,i _ ⟨o,l,_,⟨f,by lia,by lia⟩,rfl⟩⟩⟩
 clear j a b;rintro _ ⟨a,b,t,⟨j,t0,t1⟩,rfl⟩;by_cases A:k=1
 .subst A;fin2;rw[D1 (by decide)];refine⟨t,d,4,rfl,by decide,by lia,by omega,rfl,af (by simp),?_⟩;have H:=Lx.small (x:=0) (t:=t) (b:=d) (by lia) (by lia) (by lia);obtain⟨s1,s2⟩:=vZ (t:=t) (b:=d) (by omega);refine T (kq (An t d)) a b ⟨⟨H.nm,by show _<=6;exact Do s2 (by lia),by show((An t d).den:Int)<=4;lia⟩,(by show(0:Int)<=42;decide),λ_ y K X=>?_⟩ j;have K:(An t d).num=y.num:=K;have X:((An t d).den:Int)=y.den:=X;exact⟨by rw[<-K];exact H.n80,by have:=H.d9;lia⟩
 obtain⟨e,p,B⟩:∃e:Nat,k=(e:Int)/\(e=2\/e=3):=by
  rcases U with z|z|z
  .exact absurd z A
  .exact⟨2,z,.inl rfl⟩
  .exact⟨3,z,.inr rfl⟩
 refine au (λc=>c=[some (wW a b),some (.lst [.int 1,.int 1,.int 2,.int 3]),some (.int k),some (.int d),some (.int t),none,none]) (λN i=>?_) ?_
 .fin2;rw[Bz (by rw[KE];exact A)];exact i _ rfl
 rintro _ rfl;refine au (λc=>∃a b u,(Wl a b/\2<=u/\u<=41)/\c=[some (wW a b),some (.lst [.int 1,.int 1,.int 2,.int 3]),some (.int k),some (.int d),some (.int t),some (.int u),none]) (λN i=>?_) ?_
 .fin2;exact⟨a,b,40,rfl,j,by decide,by decide,λx o l D C f=>⟨_,_,rfl,i _ ⟨o,l,_,⟨f,by lia,by lia⟩,rfl⟩⟩⟩
 clear j a b;rintro _ ⟨a,b,u,⟨j,u0,O⟩,rfl⟩;refine au (λc=>c=[some (wW a b),some (.lst [.int 1,.int 1,.int 2,.int 3]),some (.int k),some (.int d),some (.int t),some (.int u),some (.int k)]) (λN i=>?_) ?_
 .have i:=i _ rfl;fin2;rw[hU _ (by decide)];rcases B with rfl|rfl
  .subst p;exact⟨af (by simp),by decide,_,rfl,i⟩
  .subst p;exact⟨af (by simp),by decide,_,rfl,i⟩
 rintro _ rfl;refine au (λc=>∃v:Int,(2<=v/\v<=42/\∀y:Rat,pk k y≠(v:Rat)/\pk k y≠-(v:Rat))/\c=[some (wW a b),some (.lst [.int 1,.int 1,.int 2,.int 3]),some (.int k),some (.int d),some (.int t),some (.int v),some (.int k)]) (λN i=>?_) ?_
 .fin2;refine⟨u,e,6,by rw[p],⟨by lia,by lia,by lia,by omega,by decide⟩,λr s S F P=>?_⟩;refine⟨r,e,6,by rw[p],⟨by lia,by lia,by decide⟩,?_⟩;fin2;have J:r^e+2<(r+1)^e\/r=0:=by
   by_cases z:r=0
   .exact .inr z
   .left;rcases B with rfl|rfl
    .have:(r+1)^2=r^2+2*r+1:=by rw[Hb,Hb,PP,Hb,Hb,PP];grind
     lia
    .have:(r+1)^3=r^3+3*(r*r)+3*r+1:=by rw[Hb,Hb,Hb,PP,Hb,Hb,Hb,PP];grind
     have:=eQ s s;lia
  by_cases q:r^e=u
  .rw[D1 (Fn q)];refine i _ ⟨u+1,⟨by lia,by lia,Nu p B s (by lia) ?_⟩,rfl⟩;rcases J with g|g
   .lia
   .exfalso
    rw[g]at q;rcases B with rfl|rfl
    .have q:(0:Int)=u:=q;clear q F S p g P s O;lia
    .have q:(0:Int)=u:=q;clear q F S p g P s O;lia
  .rw[Bz (by rw[KE];exact q)];exact i _ ⟨u,⟨u0,by lia,Nu p B s (by lia) F⟩,rfl⟩
 rintro _ ⟨v,⟨v0,v1,np⟩,rfl⟩;fin2;refine⟨a,b,2,rfl,j,by decide,by decide,λy a2 L Z Y E=>⟨_,_,rfl,?_⟩⟩;fin2;have:y=0\/y=1:=by lia
 refine⟨aF (n:=3) (m:=3) (by decide) (by lia) (by decide),af (by simp),?_⟩;refine T ⟨t,1 -2*y,v,d,k⟩ a2 L ⟨⟨⟨⟨by show 0<d;lia,U,λz=>absurd z A,λ_=>?_,λ_=>by show 0<v;lia,λ_=>np⟩,λz=>absurd z A,?_,?_,?_⟩,by show t.natAbs<=6;lia,d4⟩,v1,λz=>absurd z A⟩ E
 .show 1 -2*y=1\/1 -2*y= -1;lia
 .show t.natAbs<2^40;omega
 .show d.natAbs<2^40;omega
 .show v.natAbs<2^40;omega
noncomputable def wKs(l:List Kn):W:=.lst (l.map wK)
def oX:aV:=λa Q _=>∃n m:Kn,a=[wK n,wK m]/\((Lu n/\Lu m/\Sep n.lo m.lo)\/∃x,n=kq x/\ZR x/\Lu m)/\∀b:Bool,(b=true↔Lt n m)->Q (.bl b)
theorem Lu.sb(h:Lu n):Sb n:=⟨h.1.t6,h.1.b4,h.2.1⟩
theorem Lu.ok(h:Lu n):aD n:=h.1.nm.ok
theorem Lu.nw(h:Lu n):Nw n:=by have g:(2:Nat)^40<=2^180:=Ha (by decide) (by decide);exact⟨h.ok,Fm h.1.nm.t2 g,Fm h.1.nm.b2 g,λ_=>h.1.nm⟩
theorem W6(h:ZR x):Nw (kq x):=⟨qy x,h.1,h.2,λk=>absurd rfl k⟩
theorem yE(Q:W->Prop)(R:Addr->Prop)(r:Nw n)(s:Nw m)(E:IC n\/∃x,n=kq x)(F:IC m\/∃x,m=kq x)
 (p:∀(ms:List Int)(pl:Int),Kr n ms->Kr m ms->(n.k=1->ms=[-n.t,n.b])->pl=LF n->pl=LF m->False)(Z:∀S a:Int,1<=S->FL n S a->FL m S a->S<64^160)(P:∀b:Bool,(b=true↔Lt n m)->Q (.bl b)):
 wSs (bI [ku,l6]) G lZ (bC M Q R) [some (wK n),some (wK m),none]:=by
 unfold lZ;refine au (λd=>d=[some (wK n),some (wK m),none]) (λN o=>?_) ?_
 .fin2;refine⟨n,rfl,E,λms pl I _ q K=>⟨m,rfl,F,λL Xz H _ B J=>⟨.inl ⟨vX ..,vX ..⟩,λb T=>?_⟩⟩⟩;have Y:b=false:=by
   cases b with
   |false=>rfl
   |true=>
    exfalso
    have e:=W.MU (T.mp rfl);have X:=wIj (SV e).1;have U:=W.xT (SV (SV e).2).1;subst X;exact p ms pl I H (λk=>(q k).1) K (U.trans J)
  rw[Y];fin2;exact o _ rfl
 rintro _ rfl;refine au (λd=>d=[some (wK n),some (wK m),some (.int (64^0))]) (λN o=>?_) ?_
 .fin2;exact o _ rfl
 rintro _ rfl;have D:∀j:Nat,0<(64:Int)^j/\((64:Int)^j).natAbs<2^(6*j+1):=λj=>by
  refine⟨fx (by decide),?_⟩;have e:((64:Int)^j).natAbs=2^(6*j):=by rw[X5,ky];rfl
  rw[e];exact X1 (by decide) (Qr _)
 refine au (λd=>∃j:Nat,(j<=160/\∀a c,FL n (64^j) a->FL m (64^j) c->a≠c)/\d=[some (wK n),some (wK m),some (.int (64^j))]) (λN o=>?_) ?_
 .refine Ht (α:=Nat) (λj=>[some (wK n),some (wK m),some (.int (64^j))]) (λj=>j<=160) (λj=>161 -j) 0 rfl (by decide) ?_;rintro j C;obtain⟨i,h⟩:=D j;fin2;refine⟨n,_,_,rfl,r,i,h,by lia,λa g=>⟨m,_,_,rfl,s,i,h,by lia,λc f=>?_⟩⟩;fin2;refine gj (λw=>?_) (λw=>?_)
  .have:=Dx w;subst this;have O:=Z _ _ (by lia) g f;have j5:j<160:=by
    by_cases z:j<160
    .exact z
    .obtain rfl:j=160:=by lia
     exact absurd O (Int.lt_irrefl _)
   fin2;exact⟨aF h (show(64:Int).natAbs<2^7 by decide) (by lia),j+1,(by show _=[some (wK n),some (wK m),some (W.int (64^(j+1)))];rw[Hb]),by show j+1<=160;lia,by show 161 -(j+1)<161 -j;lia⟩
  .have p:=rf w;refine o _ ⟨j,⟨C,λa' c' A y e=>p ?_⟩,rfl⟩;have u:∀{n:Kn}{S a b:Int},FL n S a->FL n S b->a=b:=λ{n S a b} q B=>by have:=(B a).mpr ((q a).mp (by lia));have:=(q b).mpr ((B b).mp (by lia));lia
   rw[u g A,u f y,e]
 rintro _ ⟨j,⟨C,v⟩,rfl⟩;obtain⟨i,h⟩:=D j;fin2;refine⟨n,_,_,rfl,r,i,h,by lia,λa g=>⟨m,_,_,rfl,s,i,h,by lia,λc f=>?_⟩⟩;fin2;have p:=v a c g f;refine P _ ?_;by_cases l:a<c
 .exact⟨λ_=>FL.S9 g f l,λ_=>Fn l⟩
 .rw[IR l];exact⟨λz=>(by cases z),λz=>(z.no r.ok s.ok (FL.S9 f g (by lia))).elim⟩
theorem HN(B:List W)(Q:W->Prop)(R:Addr->Prop)(h:oX B Q R):wSs (bI [ku,l6]) G lZ (bC m Q R) (aj 3 B):=by
 obtain⟨n,m,rfl,h,p⟩:=h;show wSs _ _ lZ _ [some (wK n),some (wK m),none];rcases h with⟨o,g,C⟩|⟨x,rfl,H,g⟩
 .refine yE Q R o.nw g.nw (.inl o.1.nm) (.inl g.1.nm) (λF E D s _ N M=>?_) (λS a r v u=>?_) p
  .obtain⟨z,hz⟩:=C;exact hz (Sw o.ok g.ok D s (N.symm.trans M) z)
  .exact Int.lt_trans (LI o.ok g.ok o.sb g.sb C r v u) (by decide+kernel)
 .have l:=g.ok;by_cases i:m.f x=0
  .have P:m.lo x=false:=aD.lC.mpr (by rw[i];exact Sd);have p:=p false ⟨λz=>(by cases z),λz=>by rw[HK l,P]at z;exact z⟩;have j:m.k=1:=Ee λz=>by have a:=l.OY (z:=x) (e:=0) (by rw[i];exact⟨by decide,by decide⟩);unfold ab at a;exact l.OZ z x (by grind)
   obtain⟨_,y,J,I⟩:=g.1.nm.fr j;have L:x=y:=by
    have K:m.c=0:=by unfold Kn.c;rw[l.s0 j];show(0:Rat)*_=0;grind
    have:m.A x=0:=by unfold Kn.f at i;rw[j,K]at i;have i:m.A x -0=0:=i;grind
    unfold Kn.A at this;rw[J,I,<-eS y]at this;have d:(0:Rat)<((y.den:Int):Rat):=(qy y).qb;have:((y.den:Int):Rat)*(x -y)=0:=by grind
    have:=(Kk.mp this).resolve_left (by grind);grind
   subst L;unfold lZ;fin2;refine⟨kq x,rfl,.inr ⟨x,rfl⟩,λF E _ _ w _=>⟨m,rfl,.inl g.1.nm,λO Y _ _ U _=>⟨.inl ⟨vX ..,vX ..⟩,λb T=>?_⟩⟩⟩;obtain⟨rfl,rfl⟩:=w rfl;obtain⟨rfl,rfl⟩:=U j;rw[T.mpr (by rw[J,I];rfl)];exact p
  refine yE Q R (W6 H) g.nw (.inr ⟨x,rfl⟩) (.inl g.1.nm) (λF E D s w _ _=>?_) (λS a r v u=>HL H l g.sb r v u i) p;have e:=w rfl;subst e;obtain⟨c,K,X⟩:=s.ev;have q:m.h x=0:=by
   rw[X];have:Num.ev x (qI [-(kq x).t,(kq x).b])=0:=by show((-x.num:Int):Rat)+x*(((x.den:Int):Rat)+x*0)=0;have:=eS x;rw[DN];grind
   rw[this,Pv]
  by_cases j:m.k=1
  .unfold Kn.h at q;rw[Bz (by rw[j];decide)]at q;exact i q
  .exact l.OZ j x q
noncomputable def v9:List CS:=[.ret (.comp [0] true 1 (.var 0) (.bl true) (.call 0 [(.bin .Mult (.var 0) (.ix (.var 2) (.int 0))),(.ix (.var 2) (.int 1))]))]
def Ar:aV:=λb Q _=>∃(a:List Int)(y:Rat),b=[wI a,wq y]/\(a.length<=100/\(∀z∈a,z.natAbs<2^40)/\y.num.natAbs<2^40/\y.den<2^40)/\Q (jG (lY a y.num y.den))
theorem LJ(a:List W)(Q:W->Prop)(R:Addr->Prop)(h:Ar a Q R):wSs (bI [Hu]) G v9 (bC m Q R) (aj 2 a):=by
 obtain⟨b,y,rfl,⟨l,d,bt,e⟩,q⟩:=h;show wSs _ _ v9 _ [some (wI b),some (wq y)];unfold v9 wI wq;fin2;refine cH (h:=W.int) (g:=λz=>wq (An (z*y.num) y.den)) b [] _ (λz hz K c=>?_) (af (by simp;lia)) ?_
 .fin2;have:=y.den_pos;exact⟨_,rfl,aF (d z hz) bt (by decide),_,rfl,z*y.num,y.den,40,rfl,by decide,by lia,e,c⟩
 .unfold lY jG at q;rw[U2]at q;exact q
theorem Kr.uniq(i:Kr n e)(g:Kr n f):e=f:=by
 obtain⟨c,o,l⟩:=i.ev;obtain⟨d,m,j⟩:=g.ev;have p:∀{e f:List Int}{c d:Rat},0<c->0<d->(∀x,n.h x=c*Num.ev x (qI e))->(∀x,n.h x=d*Num.ev x (qI f))->DQ (cQ (qI e)) (cQ (qI f)):=λ{e f c d} o m l j=>by have q:d*d⁻¹=1:=Fs _ (by grind);refine(DQ.sc (c*d⁻¹) (DQ.refl (cQ (qI e)))).ext λk=>?_;have:=Vn (a:=qI f) (b:=u6 (c*d⁻¹) (qI e)) (λx=>by rw[xQ];have:=l x;rw[j]at this;grind) k;exact this.trans (qw _ _ k)
 exact Cg i.l2 g.l2 i.pos g.pos i.one g.one (p o m l j) (p m o j l)
noncomputable def LK:CE:=.cmp .LtE (.blt .max2 [(.comp [0] true 1 (.var 9) (.bl true) (.blt .abs [(.var 0)]))]) (.bin .Pow (.int 10) (.int 5))
theorem Nv(o:look a 9=some (wI v))(j:v≠[])(i:v.length<=1000)(q:∀k:Bool,(k=true↔∀y∈v,y.natAbs<=100000)->Q (.bl k)):wE b G R LK a Q:=by
 unfold LK;show wE b G R (.blt .max2 [(.comp [0] true 1 (.var 9) (.bl true) (.blt .abs [(.var 0)]))]) a λx=>wE b G R (.bin .Pow (.int 10) (.int 5)) a λy=>dZ .LtE x y Q;have p:iU (λw K=>wT true [0] w (B1 1 none++a) λc=>wE b G (λ_=>False) (.bl true) c λx=>truth x λk=>if k=true then wE b G (λ_=>False) (.blt .abs [(.var 0)]) c λy=>K (some y)else K none) (v.map W.int) [] λl=>vm .max2 [.lst l] λx=>wE b G R (.bin .Pow (.int 10) (.int 5)) a λy=>dZ .LtE x y Q:=by
  refine cH (h:=W.int) (g:=λy=>.int y.natAbs) v [] _ (λy e K n=>?_) (af (by simpa using i)) ?_
  .fin2;rw[show(if y<0 then-y else y)=(y.natAbs:Int) by split<;>lia];exact n
  .refine⟨v.map λy=>(y.natAbs:Int),by rw[U2];rfl,λz=>j (va.mp z),λt m r=>?_⟩;fin2;refine⟨pK (by decide) (by decide) (by decide),q _ ?_⟩;rw[KE];obtain⟨d,s,rfl⟩:=OF.mp m;constructor
   .intro h y e;have u:=r _ (OF.mpr ⟨y,e,rfl⟩);have h:(d.natAbs:Int)<=100000:=h;lia
   .intro h;have:=h d s;show(d.natAbs:Int)<=100000;lia
 show(match look a 9 with|some w=>items w λf=>iU _ f [] _|none=>False);rw[o];exact p
noncomputable def Nx:List CS:=[.set 9 (.call 3 [(.var 9),(.var 6)])]
noncomputable def Cj:List CS:=[.jZ 5 (.m6 0 1 [(.lst [(.int 1),(.int 1),(.int 2),(.int 3)])]),.ua [6,7] (.call 2 [(.var 5)]),.jZ 8 (.bin .Add (.int 1) (.bin .Mult (.bin .FloorDiv (.m6 0 0 [(.int 3)]) (.int 2)) (.bin .Add (.int 1) (.m6 0 0 [(.int 2)])))),.set 9 (.blt .list [(.var 3)]),.fr [10] true (.jN [(.var 8)]) Nx,.set 11 (.and [(.cmp .LtE (.blt .len [(.var 9)]) (.bin .Add (.var 1) (.int 1))),LK]),.iff (.and [(.var 11),(.BC [2] (.cmp .NotIn (.var 6) (.comp [0] true 1 (.var 2) (.bl true) (.ix (.call 2 [(.var 0)]) (.int 0)))))]) [.set 3 (.var 9),.app 2 (.var 5)] []]
noncomputable def HP:List CS:=[.jZ 12 (.bin .Sub (.m6 0 0 [(.int 9)]) (.int 4)),.jZ 9 (.call 3 [(.var 3),(.lst [(.bin .Add (.bin .Add (.bin .Mult (.var 12) (.var 12)) (.int 1)) (.m6 0 0 [(.int 5)])),(.bin .Mult (.int 2) (.var 12)),(.int 1)])]),.iff LK [.set 3 (.var 9)] []]
noncomputable def Ny:List CS:=[.app 13 (.var 5),.iff (.cmp .Eq (.ix (.var 5) (.int 4)) (.int 2)) [.app 13 (.bin .Add (.tup [(.ix (.var 5) (.int 0)),(.bin .Sub (.int 0) (.ix (.var 5) (.int 1)))]) (.slt (.var 5) (.int 2) .cu))] []]
noncomputable def HQ:List CS:=[.set 13 (.lst []),.fr [5] true (.var 2) Ny,.MV [13] [.C7 (.tup [(.var 3),(.var 13)])]]
noncomputable def l7:List CS:=[.set 2 (.lst []),.set 3 (.lst [(.int 1)]),.Tt 4 (.bin .Add (.int 1) (.m6 0 0 [(.int 4)])) Cj,.VC (.and [(.cmp .Eq (.m6 0 0 [(.int 3)]) (.int 1)),(.cmp .LtE (.bin .Add (.blt .len [(.var 3)]) (.int 2)) (.bin .Add (.var 1) (.int 1)))]) HP [],.MV [2] HQ]
structure KI(l:List (Kn×List Int))(w:List Int):Prop where
 kw:Kw l w
 lu:∀x∈l,Lu x.1
 ZS:w.length<=10
 bd:∀y∈w,y.natAbs<=100000
def oY:aV:=λe Q _=>∃(a b:Int),e=[wW a b,.int 9]/\Wl a b/\∀l w d c,KI l w->l.length<=4->Wl d c->Q (.tup [.tup [wI w,wKs (nums l)],wW d c])
structure Kj(l:List (Kn×List Int))(n:Kn)(ms v:List Int)(j:Nat):Prop where
 kx:Kx l n ms v
 dq:j≠0->DQ (cQ (qI ms)) (cQ (qI v))
 len:v.length<=10+3*j
 bd:∀y∈v,y.natAbs<2^(17+206*j)
theorem Kj.step(h:Kj l n ms v j)(g:j<3)(k:aD n)(r:Kr n ms)(d:∀y∈ms,y.natAbs<2^200):Kj l n ms (yy v ms) (j+1):=by obtain⟨c,b⟩:=h.kx.mul k r;have l4:=r.l4;have f:=h.len;have e:=h.kx.w0;refine⟨c,λ_=>b,by rw[nG];lia,λy a=>?_⟩;have:=Nr (k:=5) h.bd d (by show _<=32;lia) y a;exact HI this (X1 (by decide) (by lia))
theorem W7(E:Wl a b)(K:KI l w)(X:l.length<=50)(h:∀a b Y w' U O M I H j A,Wl a b->KI Y w'->Y.length<=l.length+1->D.nx [some (wW a b),some (.int 9),some (wKs (Y.map IB)),some (wI w'),u,U,O,M,I,H,j,A,B,C]):wSs (bI [n5,gO,ku,uz]) G Cj D [some (wW a b),some (.int 9),some (wKs (l.map IB)),some (wI w),u,U,O,M,I,H,j,A,B,C]:=by
 unfold Cj;refine au (λc=>∃a b n,(Wl a b/\Lu n)/\c=[some (wW a b),some (.int 9),some (wKs (l.map IB)),some (wI w),u,some (wK n),O,M,I,H,j,A,B,C]) (λN f=>?_) ?_
 .fin2;exact⟨af (by simp),a,b,rfl,E,λn a1 b1 R F=>⟨_,_,rfl,f _ ⟨a1,b1,n,⟨F,R⟩,rfl⟩⟩⟩
 clear E a b;rintro _ ⟨a,b,n,⟨E,R⟩,rfl⟩;have P:=R.1.nm;refine au (λc=>∃(d:List Int)(t:Int),(Kr n d/\∀x∈d,x.natAbs<2^200)/\c=[some (wW a b),some (.int 9),some (wKs (l.map IB)),some (wI w),u,some (wK n),some (wI d),some (.int t),I,H,j,A,B,C]) (λN f=>?_) ?_
 .fin2;exact⟨n,rfl,.inl P,λd t r S _ _=>⟨rfl,f _ ⟨d,t,⟨r,S P⟩,rfl⟩⟩⟩
 rintro _ ⟨d,t,⟨r,S⟩,rfl⟩;refine au (λc=>∃(a b:Int)(e:Nat),(Wl a b/\1<=e/\e<=3)/\c=[some (wW a b),some (.int 9),some (wKs (l.map IB)),some (wI w),u,some (wK n),some (wI d),some (.int t),some (.int e),H,j,A,B,C]) (λN f=>?_) ?_
 .fin2;refine⟨a,b,3,rfl,E,by decide,by decide,λx a1 b1 x0 x1 F=>⟨_,_,rfl,?_⟩⟩;fin2;refine⟨⟨by decide,eH (n:=2) (by decide) (by decide)⟩,a1,b1,2,rfl,F,by decide,by decide,λy a2 b2 y0 y1 r8=>⟨_,_,rfl,?_⟩⟩;fin2;have q:x.fdiv 2=0\/x.fdiv 2=1:=by rw[Iy _ (by decide)];lia
  refine⟨aF (n:=2) (m:=2) (by omega) (by omega) (by decide),?_⟩;rcases q with q|q
  .rw[q];exact f _ ⟨a2,b2,1,⟨r8,by decide,by decide⟩,by rw[dk];rfl⟩
  .rw[q,bo];exact f _ ⟨a2,b2,(1+(1+y)).toNat,⟨r8,by lia,by lia⟩,by rw[MH (by lia)]⟩
 clear E a b;rintro _ ⟨a,b,e,⟨E,e1,e3⟩,rfl⟩;refine au (λc=>c=[some (wW a b),some (.int 9),some (wKs (l.map IB)),some (wI w),u,some (wK n),some (wI d),some (.int t),some (.int e),some (wI w),j,A,B,C]) (λN f=>?_) ?_
 .have f:=f _ rfl;unfold wI at f⊢;fin2;exact f
 rintro _ rfl;refine au (λc=>∃v j,Kj l n d v e/\c=[some (wW a b),some (.int 9),some (wKs (l.map IB)),some (wI w),u,some (wK n),some (wI d),some (.int t),some (.int e),some (wI v),j,A,B,C]) (λN f=>?_) ?_
 .refine yw (l:=gF 0 1 e) (λQ hq=>?_) ?_
  .fin2;exact⟨by lia,by lia,hq⟩
  refine aP (λi ε=>∃v j,Kj l n d v i/\ε=[some (wW a b),some (.int 9),some (wKs (l.map IB)),some (wI w),u,some (wK n),some (wI d),some (.int t),some (.int e),some (wI v),j,A,B,C]) ⟨w,_,⟨K.kw.start n d,λz=>absurd rfl z,by have:=K.ZS;omega,λy Z=>HI (K.bd y Z) (by decide)⟩,rfl⟩ ?_ ?_
  .rintro i z _ N1 hz ⟨v,o,J,rfl⟩ cX;obtain⟨hi,rfl⟩:=fX hz;have l4:=r.l4;have l2:=r.l2;have hl:=J.len;unfold Nx;fin2;exact⟨v,d,rfl,⟨J.kx.w0,by lia,by lia,by lia,λx p y Z=>aF (J.bd x p) (S y Z) (by lia)⟩,cX _ ⟨_,_,J.step (by lia) P.ok r S,rfl⟩⟩
  .rintro _ ⟨v,o,J,rfl⟩;rw[rF]at J;exact f _ ⟨v,o,J,rfl⟩
 rintro _ ⟨v,j,J,rfl⟩;have hl:=J.len;have v0:=J.kx.w0;refine au (λc=>∃k:Bool,(k=true->v.length<=10/\∀y∈v,y.natAbs<=100000)/\c=[some (wW a b),some (.int 9),some (wKs (l.map IB)),some (wI w),u,some (wK n),some (wI d),some (.int t),some (.int e),some (wI v),j,some (.bl k),B,C]) (λN f=>?_) ?_
 .show wE _ _ _ _ _ _;rw[show wI v=.lst (v.map W.int)from rfl]at f⊢;fin2;rw[Bi];by_cases q:((v.length:Nat):Int)<=9+1
  .rw[Fn q];exact Nv rfl (λz=>by rw[z]at v0;exact absurd v0 (by decide)) (by lia) λk hk=>f _ ⟨k,λz=>⟨by lia,hk.mp z⟩,rfl⟩
  .rw[IR q];exact f _ ⟨false,λz=>(by cases z),rfl⟩
 rintro _ ⟨k,hk,rfl⟩;have s:=h a b l w (some (wK n)) (some (wI d)) (some (.int t)) (some (.int e)) (some (wI v)) j (some (.bl k)) E K (xi _);fin2;cases k with
 |false=>exact s
 |true=>
  obtain⟨T,bv⟩:=hk rfl;have e0:wKs (l.map IB)=.lst (l.map λx=>wK x.1):=by unfold wKs;rw[U2];rfl
  rw[e0]at s⊢;fin2;refine cH (h:=λx:Kn×List Int=>wK x.1) (g:=λx=>wI x.2) l [] _ (λx p K' hK=>?_) (af (by simpa using Do X (by decide))) ?_
  .fin2;refine⟨x.1,rfl,.inl (K.lu x p).1.nm,λms' Xz r' _ _ _=>⟨_,rfl,?_⟩⟩;rw[r'.uniq (K.kw.ok x p).2.1];exact hK
  .refine⟨d,l.map (·.2),rfl,by rw[U2,C0];rfl,rfl,?_⟩;fin2;by_cases q:d∈l.map (·.2)
   .rw[Fn q];exact s
   .rw[IR q];have nw:∀x∈l,x.2≠d:=λx p z=>q (OF.mpr ⟨x,p,z⟩);have K2:KI (l++[(n,d)]) v:=⟨J.kx.more P.ok r (J.dq (by lia)) K.kw.df nw,λx p=>by
     rcases SL.mp p with p|p
     .exact K.lu x p
     .rw[Fh.mp p];exact R,T,bv⟩
    have L:=h a b _ v (some (wK n)) (some (wI d)) (some (.int t)) (some (.int e)) (some (wI v)) j (some (.bl true)) E K2 (by rw[KB];exact FC _);have e1:wKs ((l++[(n,d)]).map IB)=.lst ((l.map λx=>wK x.1)++[wK n]):=by unfold wKs;rw[U2,mB];rfl
    rw[e1]at L;fin2;exact⟨ny (by rw[Bi];lia),L⟩
theorem W8(c:Wl a b)(K:KI l w)(Y:w.length<=8)(h:∀a b w' g C,Wl a b->KI l w'->D.nx [some (wW a b),some (.int 9),some f,some (wI w'),r,p,o,j,i,g,u,t,C,A]):wSs (bI [n5,gO,ku,uz]) G HP D [some (wW a b),some (.int 9),some f,some (wI w),r,p,o,j,i,g,u,t,C,A]:=by
 unfold HP;have w0:=K.kw.w0;refine au (λd=>∃a b m,(Wl a b/\-4<=m/\m<=4)/\d=[some (wW a b),some (.int 9),some f,some (wI w),r,p,o,j,i,g,u,t,some (.int m),A]) (λN E=>?_) ?_
 .fin2;exact⟨a,b,9,rfl,c,by decide,by decide,λx H F I M e=>⟨_,_,rfl,E _ ⟨H,F,_,⟨e,by lia,by lia⟩,rfl⟩⟩⟩
 clear c a b;rintro _ ⟨a,b,m,⟨c,U,T⟩,rfl⟩;refine au (λd=>∃a b v,(Wl a b/\Kw l v/\v.length<=10)/\d=[some (wW a b),some (.int 9),some f,some (wI w),r,p,o,j,i,some (wI v),u,t,some (.int m),A]) (λN E=>?_) ?_
 .fin2;have S:m*m<=16/\0<=m*m:=by
   have:m= -4\/m= -3\/m= -2\/m= -1\/m=0\/m=1\/m=2\/m=3\/m=4:=by lia
   rcases this with rfl|rfl|rfl|rfl|rfl|rfl|rfl|rfl|rfl<;>decide
  refine⟨aF (n:=3) (m:=3) (by omega) (by omega) (by decide),a,b,5,rfl,c,by decide,by decide,λx H F I M e=>⟨_,_,rfl,?_⟩⟩;fin2;refine⟨aF (n:=2) (m:=3) (by decide) (by omega) (by decide),af (by simp),?_⟩;have X:[m*m+1+x,2*m,1].length=3:=rfl;refine⟨w,[m*m+1+x,2*m,1],rfl,⟨w0,by omega,by lia,by omega,λy O z hz=>aF (n:=17) (m:=6) (HI (K.bd y O) (by decide)) ?_ (by decide)⟩,E _ ⟨H,F,_,⟨e,K.kw.rest (q:=[m*m+1+x,2*m,1]) (by omega) (show(1:Int)≠0 by decide) (λy=>?_),by rw[nG];omega⟩,rfl⟩⟩
  .simp only[IH,y8,or_false]at hz;rcases hz with rfl|rfl|rfl<;>lia
  .show(1:Rat)<=((m*m+1+x:Int):Rat)+y*(((2*m:Int):Rat)+y*(((1:Int):Rat)+y*0));have s:=eN (y+m);have Z:(0:Rat)<=(x:Rat):=FV.mpr I;rw[RF,RF,BM,BM];have R:((1:Int):Rat)=1:=rfl;have Q:((2:Int):Rat)=2:=rfl;rw[R,Q];grind
 clear c a b;rintro _ ⟨a,b,v,⟨c,L,B⟩,rfl⟩;have J:=L.w0;fin2;refine Nv rfl (λz=>by rw[z]at J;exact absurd J (by decide)) (by lia) λk P=>?_;cases k with
 |false=>fin2;exact h a b w _ _ c K
 |true=>fin2;exact h a b v _ _ c ⟨L,K.lu,B,P.mp rfl⟩
theorem DE{l:List (Kn×List Int)}(h:l[i]?=some x):nums (l.take (i+1))=nums (l.take i)++(if x.1.k=2 then[x.1,x.1.cj]else[x.1]):=by unfold nums;rw[List.take_add_one,h,aX];simp
theorem rQ:∀l:List (Kn×List Int),(nums l).length<=2*l.length
 |[]=>FC _
 |x::l=>by
  have ih:=rQ l;show((if x.1.k=2 then[x.1,x.1.cj]else[x.1])++nums l).length<=_;rw[KB,Av];have:(if x.1.k=2 then[x.1,x.1.cj]else[x.1]).length<=2:=by split<;>simp
  lia
theorem LL(J:List W)(Q:W->Prop)(R:Addr->Prop)(h:oY J Q R):wSs (bI [n5,gO,ku,uz]) G l7 (bC (.io m) Q R) (aj 14 J):=by
 obtain⟨a,b,rfl,g,H⟩:=h;show wSs _ _ l7 _ [some (wW a b),some (.int 9),none,none,none,none,none,none,none,none,none,none,none,none];unfold l7;refine au (λc=>c=[some (wW a b),some (.int 9),some (wKs []),none,none,none,none,none,none,none,none,none,none,none]) (λN s=>?_) ?_
 .fin2;exact⟨af (by simp),s _ rfl⟩
 rintro _ rfl;refine au (λc=>c=[some (wW a b),some (.int 9),some (wKs []),some (wI [1]),none,none,none,none,none,none,none,none,none,none]) (λN s=>?_) ?_
 .fin2;exact⟨af (by simp),s _ rfl⟩
 rintro _ rfl;have K0:KI [] [1]:=⟨Sj,λx F=>(by cases F),by decide,λy Z=>by rw[Fh.mp Z];decide⟩;refine au (λc=>∃a b l w u d o n j e q p f,(Wl a b/\KI l w/\l.length<=4)/\c=[some (wW a b),some (.int 9),some (wKs (l.map IB)),some (wI w),u,d,o,n,j,e,q,p,f,none]) (λN s=>?_) ?_
 .fin2;refine⟨a,b,4,rfl,g,by decide,by decide,λx B A S P r=>⟨_,_,rfl,?_⟩⟩;fin2;refine⟨by lia,by lia,?_⟩;refine aP (λi D=>∃a b l w u d o n j e q p f,(Wl a b/\KI l w/\l.length<=i)/\D=[some (wW a b),some (.int 9),some (wKs (l.map IB)),some (wI w),u,d,o,n,j,e,q,p,f,none]) ⟨B,A,[],[1],none,none,none,none,none,none,none,none,none,⟨r,K0,FC _⟩,rfl⟩ ?_ ?_
  .clear g r a b B A;rintro i z _ N1 hz ⟨a,b,l,w,u,d,o,n,j,e,q,p,f,⟨g,K,O⟩,rfl⟩ v;obtain⟨hi,rfl⟩:=fX hz;show wSs _ _ Cj _ [some (wW a b),some (.int 9),some (wKs (l.map IB)),some (wI w),some (.int i),d,o,n,j,e,q,p,f,none];exact W7 g K (by lia) λa b Y E d o n j e q p g I hl'=>v _ ⟨a,b,Y,E,_,d,o,n,j,e,q,p,_,⟨g,I,by lia⟩,rfl⟩
  .rintro _ ⟨a,b,l,w,u,d,o,n,j,e,q,p,f,⟨g,K,O⟩,rfl⟩;rw[rF]at O;exact s _ ⟨a,b,l,w,u,d,o,n,j,e,q,p,f,⟨g,K,by lia⟩,rfl⟩
 clear g a b;rintro _ ⟨a,b,l,w,u,d,o,n,j,e,q,p,f,⟨g,K,X⟩,rfl⟩;refine au (λc=>∃a b w e f,(Wl a b/\KI l w)/\c=[some (wW a b),some (.int 9),some (wKs (l.map IB)),some (wI w),u,d,o,n,j,e,q,p,f,none]) (λN s=>?_) ?_
 .have t:=λa b (g:Wl a b)=>s _ ⟨a,b,w,e,f,⟨g,K⟩,rfl⟩;rw[show wI w=.lst (w.map W.int)from rfl]at t⊢;fin2;refine⟨a,b,3,rfl,g,by decide,by decide,λx B A S P r=>⟨_,_,rfl,?_⟩⟩;fin2;by_cases M:x=1
  .rw[Fn M];fin2;rw[Bi];by_cases L:((w.length:Nat):Int)+2<=9+1
   .rw[Fn L];exact W8 r K (by lia) λa b E e f g I=>s _ ⟨a,b,E,e,f,⟨g,I⟩,rfl⟩
   .rw[IR L];exact t B A r
  .rw[IR M];exact t B A r
 clear g K w a b e f;rintro _ ⟨a,b,w,e,f,⟨g,K⟩,rfl⟩;show wSs _ _ HQ {bC (.io m) Q R with nx:=λ_=>False,bk:=λ_=>False,ct:=λ_=>False} _;unfold HQ;refine au (λc=>c=[some (wW a b),some (.int 9),some (wKs (l.map IB)),some (wI w),u,d,o,n,j,e,q,p,f,some (wKs [])]) (λN s=>?_) ?_
 .fin2;exact⟨af (by simp),s _ rfl⟩
 rintro _ rfl;refine au (λc=>∃d,c=[some (wW a b),some (.int 9),some (wKs (l.map IB)),some (wI w),u,d,o,n,j,e,q,p,f,some (wKs (nums l))]) (λN s=>?_) ?_
 .have e0:wKs (l.map IB)=.lst (l.map λx=>wK x.1):=by unfold wKs;rw[U2];rfl
  rw[e0]at s⊢;refine yw (l:=l.map λx=>wK x.1) (λQ H=>?_) ?_
  .fin2;exact H
  refine aP (λi D=>∃d,D=[some (wW a b),some (.int 9),some (.lst (l.map λx=>wK x.1)),some (wI w),u,d,o,n,j,e,q,p,f,some (wKs (nums (l.take i)))]) ⟨d,rfl⟩ ?_ ?_
  .rintro i z _ N1 hz ⟨d,rfl⟩ v;rw[FR]at hz;obtain⟨x,F,rfl⟩:=L9.mp hz;have T:=DE F;have v:=v _ ⟨some (wK x.1),rfl⟩;rw[T]at v;have U:=rQ (l.take i);rw[cx]at U;unfold wKs wK at v⊢;unfold Ny;fin2;refine⟨ny (by rw[Bi];lia),_,rfl,?_⟩;fin2;by_cases C:x.1.k=2
   .rw[D1 (Fn C)];rw[D1 C,mB]at v;refine⟨_,rfl,_,rfl,af (by simp),?_⟩;fin2;refine⟨show¬(HT.cV 5 0 (some 2)=0/\HT.cV 5 5 none=5) by decide,List.cons_ne_nil _ _,af (by show 2+3<=1000;decide),ny (by simp;lia),?_⟩;rw[zz9,Re];exact v
   .rw[Bz (by rw[KE];exact C)];rw[Bz C,mB]at v;exact v
  .rintro _ ⟨d,rfl⟩;rw[Bi,d3];exact s _ ⟨d,rfl⟩
 rintro _ ⟨d,rfl⟩;fin2;exact⟨af (by simp),H l w a b K X g⟩
theorem rR{α:Type}{h:α->W}{p:α->Bool}:∀(b:List α)(a:List W)(Q:List W->Prop),(∀x∈b,∀K:Option W->Prop,(p x=true->K (some (h x)))->(p x=false->K none)->f (h x) K)->a.length+b.length<=sizeLine->Q (a++(b.filter p).map h)->iU f (b.map h) a Q
 |[],a,Q,_,_,q=>by rw[Ol,iU];simpa using q
 |x::b,a,Q,e,l,q=>by
  rw[Av]at l;rw[Wp,iU];refine e x FS _ (λc=>⟨by lia,?_⟩) λc=>?_
  .refine rR b _ Q (λy d=>e y (FM _ d)) (by rw[KB,L1];lia) ?_;rw[S0,D1 c]at q;rw[Re];exact q
  .refine rR b _ Q (λy d=>e y (FM _ d)) (by lia) ?_;rw[S0,Bz (by rw[c];decide)]at q;exact q
theorem Lt.tr(f:aD a)(e:aD b)(h:Lt a b)(k:Lt b c):Lt a c:=by
 obtain⟨z,j,i⟩:=h;obtain⟨y,g,d⟩:=k;have l:z<y:=Ee λq=>by have:=e.vg (show y<=z by grind);grind
 have:=f.C4 l;exact⟨y,by grind,d⟩
theorem As(c:aD m)(p:Kn->Bool)(b:∀x,p x=true↔Lt x m):∀F:List Kn,F.Pairwise Lt->(∀x∈F,aD x/\(Lt x m\/Lt m x))->(F.take (F.filter p).length++m::F.drop (F.filter p).length).Pairwise Lt
 |[],_,_=>kb _ _
 |x::F,h,k=>by
  obtain⟨d,l⟩:=hJ.mp h;obtain⟨g,j⟩:=k x FS;have i:=λy a=>k y (FM _ a);by_cases q:p x=true
  .rw[S0,D1 q,Av,List.take_succ_cons,List.drop_succ_cons,Dh];refine hJ.mpr ⟨λy a=>?_,As c p b F l i⟩;rcases SL.mp a with a|a
   .exact d y (zzk a)
   .rcases IH.mp a with rfl|a
    .exact(b x).mp q
    .exact d y (ZF a)
  .have f:Lt m x:=j.resolve_left λz=>q ((b x).mpr z);have e:(x::F).filter p=[]:=List.filter_eq_nil_iff.mpr λy a=>by
    rcases IH.mp a with rfl|a
    .exact q
    .exact λz=>((b y).mp z).no (i y a).1 c (f.tr c g (d y a))
   rw[e];refine hJ.mpr ⟨λy a=>?_,h⟩;rcases IH.mp a with rfl|a
   .exact f
   .exact f.tr c g (d y a)
def nJ:List CS:=[.set 1 (.lst []),.fr [2] true (.var 0) [.set 3 (.blt .len [(.comp [0] true 1 (.var 1) (.call 0 [(.var 0),(.var 3)]) (.var 0))]),.ins 1 (.var 3) (.var 2)],.ret (.var 1)]
def rS:aV:=λa Q _=>∃L:List Kn,a=[wKs L]/\((∀n∈L,Lu n)/\L.length<=100/\L.Pairwise λn m=>Sep n.lo m.lo)/\∀F:List Kn,F.Perm L->F.Pairwise Lt->Q (wKs F)
theorem DF(r:List W)(Q:W->Prop)(R:Addr->Prop)(h:rS r Q R):wSs (bI [oX]) G nJ (bC m Q R) (aj 4 r):=by
 obtain⟨L,rfl,⟨t,J,pw⟩,y⟩:=h;show wSs _ _ nJ _ [some (wKs L),none,none,none];unfold nJ;refine au (λa=>a=[some (wKs L),some (wKs []),none,none]) (λN g=>?_) ?_
 .fin2;exact⟨af (by simp),g _ rfl⟩
 rintro _ rfl;refine au (λa=>∃(F:List Kn)(o2 o3:Option W),F.Perm L/\F.Pairwise Lt/\a=[some (wKs L),some (wKs F),o2,o3]) (λN g=>?_) ?_
 .unfold wKs at g⊢;fin2;refine aP (λi w=>∃(F:List Kn)(o2 o3:Option W),F.Perm (L.take i)/\F.Pairwise Lt/\w=[some (.lst (L.map wK)),some (.lst (F.map wK)),o2,o3]) ⟨[],none,none,ae _,Il,rfl⟩ ?_ ?_
  .rintro i z _ K hz ⟨F,o2,o3,f,j,rfl⟩ D;rw[FR]at hz;obtain⟨n,q,rfl⟩:=L9.mp hz;obtain⟨H,en⟩:=Fu.mp q;have v:L.take (i+1)=L.take i++[n]:=by rw[List.take_succ,q];rfl
   have l:=t n (Mo q);have s:=pw.sublist (bf (i+1) L);rw[v]at s;have c:∀x∈F,Lu x/\Sep x.lo n.lo:=λx d=>by have d:=f.mem_iff.mp d;exact⟨t x (zzk d),(zzi.mp s).2.2 x d n FS⟩
   have E:F.length<=100:=by rw[f.length_eq];exact Do (List.length_take_le _ _) (by lia)
   obtain⟨p,o⟩:∃p:Kn->Bool,∀x,p x=true↔Lt x n:=by
    classical
    exact⟨λx=>decide (Lt x n),λx=>decide_eq_true_iff⟩
   have I:(F.filter p).length<=F.length:=List.length_filter_le ..;refine au (λa=>a=[some (.lst (L.map wK)),some (.lst (F.map wK)),some (wK n),some (.int ((F.filter p).length:Nat))]) (λN g=>?_) ?_
   .have g:=g _ rfl;fin2;refine rR (h:=wK) (p:=p) F [] _ (λx d M B A=>?_) (af (by simp;lia)) ?_
    .fin2;refine⟨x,n,rfl,.inl ⟨(c x d).1,l,(c x d).2⟩,λb u=>?_⟩;fin2;cases e:b with
     |true=>exact B ((o x).mpr (u.mp e))
     |false=>exact A (by
       cases C:p x with
       |false=>rfl
       |true=>rw[u.mpr ((o x).mp C)]at e;exact e)
    .rw[C0];fin2;rw[Bi];exact g
   rintro _ rfl;fin2;refine⟨⟨by lia,by rw[Bi];lia,ny (by rw[Bi];lia)⟩,?_⟩;rw[show((F.filter p).length:Int).toNat=(F.filter p).length from rfl];have k:=D _ ⟨F.take (F.filter p).length++n::F.drop (F.filter p).length,some (wK n),some (.int ((F.filter p).length:Nat)),?_,As l.ok p o F j λx d=>⟨(c x d).1.ok,Sep.or (c x d).1.ok l.ok (c x d).2⟩,rfl⟩
   .rw[mB,Wp,XJ,eB]at k;exact k
   .rw[v];refine dA.trans ?_;rw[Xw];exact(f.cons n).trans (List.perm_append_singleton n _).symm
  .rintro _ ⟨F,o2,o3,f,j,rfl⟩;rw[Bi,d3]at f;exact g _ ⟨F,o2,o3,f,j,rfl⟩
 rintro _ ⟨F,o2,o3,f,j,rfl⟩;fin2;exact y F f j
theorem SA(h:Kw l w)(c:w.length=1):l=[]:=by
 cases l with
 |nil=>rfl
 |cons x l=>
  exfalso
  obtain⟨_,r,d⟩:=h.ok x FS;have l2:=r.l2;have b:qI x.2≠[]:=λz=>by have:=SU LZ z;rw[bJ]at this;have this:x.2.length=0:=this;lia
  have a:qI w≠[]:=λz=>by have:=SU LZ z;rw[bJ]at this;have this:w.length=0:=this;lia
  have:=vd (gD r.nz) b (gD h.nz) a d;rw[bJ,bJ]at this;lia
structure By(y:Rat):Prop where
 nz:y.num≠0
 n7:y.num.natAbs<=7
 d7:y.den<=7
theorem HR(k:Int)(h:1<=A):A<=pk k A:=by
 have s:=Da h (show 0<=A by grind);have c:=Da h (show 0<=A*A by grind);unfold pk;by_cases b:k=1
 .rw[D1 b];grind
 rw[Bz b];by_cases a:k=2
 .rw[D1 a,Bz (by grind)];grind
 .rw[Bz a];grind
theorem SD(h:Lu n):gQ (-1000000) 1000000 n.lo=true:=by
 have ok:=h.1.nm.ok;have b0:=ok.b0;have t6:=h.1.t6;have j:(1:Rat)<=n.b:=FV.mpr (show(1:Int)<=n.b by lia);have i:(-6:Rat)<=n.t/\(n.t:Rat)<=6:=⟨FV.mpr (show(-6:Int)<=n.t by omega),FV.mpr (show n.t<=(6:Int) by omega)⟩;have d:(-42:Rat)<=n.c/\n.c<=42:=by
  unfold Kn.c;by_cases a:n.k=1
  .rw[ok.s0 a];have z:((0:Int):Rat)=0:=rfl;rw[z];grind
  .have g:=ok.qu a;have l:(n.u:Rat)<=42:=FV.mpr h.2.1;rcases ok.s1 a with q|q
   .rw[q];have z:((1:Int):Rat)=1:=rfl;rw[z];grind
   .rw[q];have z:((-1:Int):Rat)= -1:=rfl;rw[z];grind
 rw[cU,aD.dh,aD.lC];unfold Kn.f;constructor
 .have e:n.A (-1000000)= -(1000000*n.b+n.t):=by unfold Kn.A;grind
  have:=HR n.k (A:=1000000*n.b+n.t) (by grind);rw[e,HM];grind
 .have e:n.A 1000000=1000000*n.b -n.t:=by unfold Kn.A;grind
  have:=HR n.k (A:=1000000*n.b -n.t) (by grind);rw[e];grind
theorem SG(n:0<ns.length)(f:ns.getD (ns.length -1) 0≠0)(h:HJ ns X)(j:BA x (X:Rat)):BA (ev x (qI ns)) (((ns.getD (ns.length -1) 0).natAbs:Nat):Rat):=by
 generalize b:ns.getD (ns.length -1) 0=l at*;have g:(0:Rat)<((l.natAbs:Nat):Rat):=zzd.mpr (by lia);refine FQ (M:=((l.natAbs:Nat):Rat)*(X:Rat) -((l.natAbs:Nat):Rat)) (B:=(X:Rat)) g (by grind) Rat.natCast_nonneg j (c:=(l:Rat)) ?_ ?_ λr k=>?_
 .show(ns.map _).getLast?=_;rw[sk,KM,<-b,AC,D2 (by lia)];rfl
 .unfold BA;rcases wy f with z|z
  .right;have e:(l.natAbs:Int)= -l:=by lia
   show _<=-(((l.natAbs:Nat):Int):Rat);rw[e,DN];grind
  .left;have e:(l.natAbs:Int)=l:=by lia
   show(((l.natAbs:Nat):Int):Rat)<=_;rw[e];exact Sd
 .obtain⟨y,i,rfl⟩:=OF.mp k;have d:=h y i;rw[b]at d;have a:(((y.natAbs:Int)+(l.natAbs:Int):Int):Rat)<=(((l.natAbs:Int)*(X:Int):Int):Rat):=FV.mpr d;rw[RF,BM]at a;have a:((y.natAbs:Nat):Rat)+((l.natAbs:Nat):Rat)<=((l.natAbs:Nat):Rat)*(X:Rat):=a;have m:ab (y:Rat) ((y.natAbs:Nat):Rat):=O4 (FC _);exact aZ m (by grind)
theorem HS{lo hi:Rat}(P:Rp (qI ns))(j:0<ns.length)(i:ns.getD (ns.length -1) 0≠0)(m:c≠0)(f:Cc (u6 c (qI ns)) C)(l:HJ ns X)(e:lo<hi)(k:∀x,In lo hi x->BA x (X:Rat)):cP C lo=cP C hi:=by
 have g:Rp (u6 c (qI ns)):=⟨Bo m P.z,by rw[u7];exact P.l2⟩;have d:(0:Rat)<(((ns.getD (ns.length -1) 0).natAbs:Nat):Rat):=zzd.mpr (by lia);have F:=λx a=>SG j i l (k x a);generalize(((ns.getD (ns.length -1) 0).natAbs:Nat):Rat)=L at*;by_cases h:0<c
 .refine f.tZ g e (GE h d) λx a=>?_;rw[xQ];rcases F x a with z|z
  .exact .inl (Da z (FK h))
  .have:=Da z (FK h);exact .inr (by grind)
 .have b:0< -c:=by grind
  refine f.tZ g e (GE b d) λx a=>?_;rw[xQ];rcases F x a with z|z
  .have:=Da z (FK b);exact .inr (by grind)
  .have:=Da z (FK b);exact .inl (by grind)
theorem rising{f:Nat->Nat}(c:∀i j,i<j->j<N->f i<f j)(m:∀i,i<N->f i<N)(hi:i<N):f i=i:=by
 have g:∀i,i<N->i<=f i:=λi=>by
  induction i with
  |zero=>exact λ_=>Os _
  |succ i a=>intro h;have:=a (by lia);have:=c i (i+1) (by lia) h;lia
 have b:∀d i,i+d<N->f i+d<=f (i+d):=λd=>by
  induction d with
  |zero=>exact λi _=>FC _
  |succ d a=>intro i h;have:=a i (by lia);have:=c (i+d) (i+(d+1)) (by lia) h;lia
 have l:=g i hi;have e:=b (N -1 -i) i (by lia);have k:=m (N -1) (by lia);rw[show i+(N -1 -i)=N -1 by clear k e l;lia]at e;lia
theorem wc(K:KI l w)(n:Kn)(a:n∈nums l):Lu n:=by
 obtain⟨x,d,a⟩:=dB.mp a;have u:=K.lu x d;by_cases b:x.1.k=2
 .rw[D1 b]at a;rcases IH.mp a with rfl|a
  .exact u
  .rw[Fh.mp a];have c:x.1.k≠1:=by rw[b];decide
   exact⟨⟨⟨u.1.nm.ok.cj b,λz=>absurd z c,u.1.nm.t2,u.1.nm.b2,u.1.nm.u2⟩,u.1.t6,u.1.b4⟩,u.2.1,λz=>absurd z c⟩
 .rw[Bz b,Fh]at a;rw[a];exact u
theorem placed(K:KI l w)(Y:2<=w.length)(h:ZP w d){F:List Kn}(G:F.Perm (nums l))(sF:F.Pairwise Lt):
 d.length=F.length/\∀(k:Nat)(p:Rat×Rat)(n:Kn),d[k]?=some p->F[k]?=some n->(Bd 180 p.1/\Bd 180 p.2)/\gQ p.1 p.2 n.lo=true:=by
 obtain⟨c,C,X,N,R,Q,TN,X2,X19,ZT,y⟩:=h.ex;have P:Rp (qI w):=⟨gD K.kw.nz,by rw[bJ];exact Y⟩;have v:=λ{a b:Rat}(h:a<b)=>K.kw.count Y R Q h;have xp:(2:Rat)<=(X:Rat):=zz1.mpr X2;have xl:(X:Rat)<=1000000:=zz1.mpr (show X<=1000000 by have:(2:Nat)^19=524288:=rfl;lia);have eX:cP C (X:Rat)=cP C 1000001/\cP C (-1000001)=cP C (-(X:Rat)):=⟨HS P K.kw.w0 K.kw.nz R Q TN (by grind) λx H=>.inl H.1,HS P K.kw.w0 K.kw.nz R Q TN (by grind) λx H=>.inr H.2⟩;have all:(nums l).countP (λn=>gQ (-1000001) 1000001 n.lo)=(nums l).length:=List.countP_eq_length.mpr λn o=>by
  have u:=wc K n o;obtain⟨i1,Z⟩:=cU.mp (SD u);refine cU.mpr ⟨u.ok.cut.dn _ _ (by grind) i1,?_⟩;cases e:n.lo 1000001 with
  |false=>rfl
  |true=>rw[u.ok.cut.dn 1000000 _ (by grind) e]at Z;exact Z
 have E:=v (show(-1000001:Rat)<1000001 by grind);rw[all]at E;have len:d.length=F.length:=by have:=y.len;rw[G.length_eq];rw[<-eX.2,eX.1]at this;lia
 refine⟨len,?_⟩;have t:∀n∈F,Lu n:=λn o=>wc K n (G.mem_iff.mp o);have one:∀i,i<d.length->∃j,j<F.length/\∃p n,d[i]?=some p/\F[j]?=some n/\gQ p.1 p.2 n.lo=true:=λi r=>by
  obtain⟨lt,e,_⟩:=y.all d[i] (d5 r);have:=v lt;have c1:0<(nums l).countP λn=>gQ d[i].1 d[i].2 n.lo:=by lia
  obtain⟨n,o,M⟩:=aa.mp c1;obtain⟨j,A,O⟩:=UF (G.mem_iff.mpr o);exact⟨j,A,_,n,D2 r,by rw[D2 A,O],M⟩
 obtain⟨f,B⟩:∃f:Nat->Nat,∀i,i<d.length->f i<F.length/\∃p n,d[i]?=some p/\F[f i]?=some n/\gQ p.1 p.2 n.lo=true:=by
  classical
  exact⟨λi=>if h:i<d.length then YS (one i h)else 0,λi h=>by simp only[dif_pos h];exact WO (one i h)⟩
 have up:∀i j,i<j->j<d.length->f i<f j:=λi j ij A=>by
  obtain⟨a1,p,n,a2,a3,a4⟩:=B i (by lia);obtain⟨T,q,m,D,S,b4⟩:=B j A;have s:=t n (Mo a3);have U:=t m (Mo S);obtain⟨r,ei⟩:=Fu.mp a2;obtain⟨J,O⟩:=Fu.mp D;have pq:p.2<=q.1:=by rw[<-ei,<-O];exact Wh.mp y.pw i j r J ij
  have L:Lt n m:=by
   refine Ci U.ok s.ok (z:=q.1) ?_ (cU.mp b4).1;cases e:n.lo q.1 with
   |false=>rfl
   |true=>rw[<-(cU.mp a4).2,s.ok.cut.dn _ _ pq e]
  obtain⟨o,en⟩:=Fu.mp a3;obtain⟨hm,em⟩:=Fu.mp S;refine Ee λno=>?_;by_cases e:f i=f j
  .rw[e,S]at a3;cases a3;exact L.no s.ok s.ok L
  .have:=Wh.mp sF (f j) (f i) hm o (by lia);rw[en,em]at this;exact L.no s.ok U.ok this
 intro k p n I o;obtain⟨hk,ep⟩:=Fu.mp I;have fk:=rising (N:=d.length) up (λi r=>by rw[len];exact(B i r).1) hk;obtain⟨_,p',n',a2,a3,a4⟩:=B k hk;rw[fk,o]at a3;rw[I]at a2;cases a2;cases a3;obtain⟨_,_,T,D,_⟩:=y.all p (Mo I);have g:(2:Nat)^N<=2^180:=Ha (by decide) ZT;exact⟨⟨⟨Fm T.1 g,Fm T.2 g⟩,⟨Fm D.1 g,Fm D.2 g⟩⟩,a4⟩
def Pl(l:List (Kn×List Int))(w:List Int)(a:List (Rat×Rat)):Prop:=(w.length=1/\a=[])\/(2<=w.length/\ZP w a)
theorem Pl.at(K:KI l w)(h:Pl l w a){F:List Kn}(b:F.Perm (nums l))(c:F.Pairwise Lt):
 a.length=F.length/\∀(k:Nat)(p:Rat×Rat)(n:Kn),a[k]?=some p->F[k]?=some n->(Bd 180 p.1/\Bd 180 p.2)/\gQ p.1 p.2 n.lo=true:=by
 rcases h with⟨e,rfl⟩|⟨d,h⟩
 .have:=SA K.kw e;subst this;have:=b.length_eq;exact⟨this.symm,λk p n z=>(by simp at z)⟩
 .exact placed K d h b c
theorem Cm:∀{L:List Kn},(∀n∈L,aD n)->(L.Pairwise λn m=>Sep n.lo m.lo)->∃F:List Kn,F.Perm L/\F.Pairwise Lt
 |[],_,_=>⟨[],ae _,Il⟩
 |n::L,h,p=>by
  obtain⟨f,p2⟩:=hJ.mp p;obtain⟨F,b,e⟩:=Cm (λm i=>h m (FM _ i)) p2;obtain⟨q,g⟩:∃q:Kn->Bool,∀x,q x=true↔Lt x n:=by
   classical
   exact⟨λx=>decide (Lt x n),λx=>decide_eq_true_iff⟩
  have d:=h n FS;refine⟨F.take (F.filter q).length++n::F.drop (F.filter q).length,?_,As d q g F e λx a=>?_⟩
  .refine dA.trans ?_;rw[Xw];exact b.cons n
  .have a:=b.mem_iff.mp a;have c:=h x (FM _ a);exact⟨c,(Sep.or d c (f x a)).symm⟩
def Au:List CS:=[.ua [6,7] (.ix (.var 3) (.var 5)),.iff (.or [(.not (.call 6 [(.call 7 [(.var 6)]),(.ix (.var 4) (.var 5))])),(.call 6 [(.call 7 [(.var 7)]),(.ix (.var 4) (.var 5))])]) [.C7 (.bl false)] []]
def gP:List CS:=[.Tr [1,2] (.m6 0 0 [(.int 9)]),.jZ 3 (.call 1 [(.call 2 [(.var 1),(.call 3 [(.ix (.lst [(.int 1),(.neg (.int 1))]) (.m6 0 4 [(.int 2)])),(.bin .Add (.int 1) (.m6 0 4 [(.int 7)]))])])]),.iff (.cmp .NotEq (.blt .len [(.var 3)]) (.blt .len [(.var 2)])) [.C7 (.bl false)] [],.set 4 (.call 5 [(.var 2)]),.fr [5] true (.jN [(.blt .len [(.var 3)])]) Au,.C7 (.bl true)]
def mh:aV:=λe Q _=>∃(a b:Int),e=[wW a b]/\Wl a b/\∀d c,Wl d c->Q (.tup [.bl true,wW d c])
theorem DG(X:List W)(Q:W->Prop)(R:Addr->Prop)(h:mh X Q R):wSs (bI [oY,nH,Ar,Hu,n5,rS,oX,Sk]) G gP (bC (.io m) Q R) (aj 8 X):=by
 obtain⟨a,b,rfl,v,O⟩:=h;show wSs _ _ gP _ [some (wW a b),none,none,none,none,none,none,none];unfold gP;refine au (λd=>∃a b l w,(Wl a b/\KI l w/\l.length<=4)/\d=[some (wW a b),some (wI w),some (wKs (nums l)),none,none,none,none,none]) (λN f=>?_) ?_
 .fin2;refine⟨a,b,rfl,v,λl w U H K Z u=>⟨_,_,rfl,?_⟩⟩;fin2;exact⟨rfl,f _ ⟨U,H,l,w,⟨u,K,Z⟩,rfl⟩⟩
 clear v a b;rintro _ ⟨a,b,l,w,⟨v,K,Z⟩,rfl⟩;have A:=wc K;have ll:=rQ l;refine au (λd=>∃a b g,(Wl a b/\Pl l w g)/\d=[some (wW a b),some (wI w),some (wKs (nums l)),some (.lst (g.map yD)),none,none,none,none]) (λN f=>?_) ?_
 .fin2;refine⟨af (by simp),a,b,2,rfl,v,by decide,by decide,λx U H x0 x1 u=>⟨_,_,rfl,?_⟩⟩;fin2;obtain⟨z,e,hz⟩:=WU (x:=.int 1) (y:=.int (-1)) x0 x1;refine⟨z,e,?_⟩;obtain⟨s,rfl,hs⟩:∃s:Int,z=.int s/\(s=1\/s= -1):=by
   rcases hz with rfl|rfl
   .exact⟨1,rfl,.inl rfl⟩
   .exact⟨-1,rfl,.inr rfl⟩
  refine⟨U,H,7,rfl,u,by decide,by decide,λq a3 b3 q0 q1 E=>⟨_,_,rfl,?_⟩⟩;fin2;have s9:s.natAbs=1:=by rcases hs with rfl|rfl<;>rfl
  refine⟨s,1+q,4,rfl,by decide,by lia,by omega,?_⟩;obtain⟨s1,s2⟩:=vZ (t:=s) (b:=1+q) (by lia);have D:By (An s (1+q)):=⟨λz=>by have z:=Tf.mp z;have:=Aq s (show 0<1+q by lia);rw[z,Y2]at this;have:=GM.mp this.symm;lia,by lia,by lia⟩;have ZS:=K.ZS;have w0:=K.kw.w0;refine⟨w,_,rfl,⟨by lia,λz hz=>HI (K.bd z hz) (by decide),HI D.n7 (by decide),HI D.d7 (by decide)⟩,w,_,_,rfl,?_⟩;by_cases l1:w.length=1
  .exact .inl ⟨l1,f _ ⟨a3,b3,[],⟨E,.inl ⟨l1,rfl⟩⟩,rfl⟩⟩
  .have d0:=(An s (1+q)).den_pos;have d7:=D.d7;refine .inr ⟨⟨⟨⟨by lia,by lia,K.kw.nz,λx hx=>Do (K.bd x hx) (by decide),?_⟩,λκ ms k0 e=>K.kw.ap (by lia) (λn o=>⟨(A n o).ok,(A n o).sb⟩) k0 e⟩,D.nz,D.n7,by lia,HI (show((An s (1+q)).den:Int).natAbs<=7 by omega) (by decide)⟩,λg h=>f _ ⟨a3,b3,g,⟨E,.inr ⟨by lia,h⟩⟩,rfl⟩⟩;have:(17+10)*(2*w.length -2)<=27*18:=Fk _ (by lia);lia
 clear v a b;rintro _ ⟨a,b,g,⟨v,Y⟩,rfl⟩;obtain⟨F0,B,J⟩:∃F:List Kn,F.Perm (nums l)/\F.Pairwise Lt:=Cm (λn o=>(A n o).ok) K.kw.sep;have M:=(Y.at K B J).1.trans B.length_eq;refine au (λd=>d=[some (wW a b),some (wI w),some (wKs (nums l)),some (.lst (g.map yD)),none,none,none,none]) (λN f=>?_) ?_
 .have f:=f _ rfl;unfold wKs at f⊢;fin2;rw[Bi,Bi,M,Fn rfl];fin2;exact f
 rintro _ rfl;refine au (λd=>∃F:List Kn,(F.Perm (nums l)/\F.Pairwise Lt)/\d=[some (wW a b),some (wI w),some (wKs (nums l)),some (.lst (g.map yD)),some (wKs F),none,none,none]) (λN f=>?_) ?_
 .fin2;exact⟨nums l,rfl,⟨A,by lia,K.kw.sep⟩,λF p s=>f _ ⟨F,⟨p,s⟩,rfl⟩⟩
 rintro _ ⟨F,⟨L,sF⟩,rfl⟩;obtain⟨lF,T⟩:=Y.at K L sF;have lt:=L.length_eq;refine au (λd=>∃r k j,d=[some (wW a b),some (wI w),some (wKs (nums l)),some (.lst (g.map yD)),some (wKs F),r,k,j]) (λN f=>?_) ?_
 .refine yw (l:=gF 0 1 g.length) (λQ O=>?_) ?_
  .fin2;rw[Bi];exact⟨by lia,by lia,O⟩
  refine aP (λi ε=>∃r k j,ε=[some (wW a b),some (wI w),some (wKs (nums l)),some (.lst (g.map yD)),some (wKs F),r,k,j]) ⟨none,none,none,rfl⟩ ?_ ?_
  .rintro i z _ N1 hz ⟨r,k,j,rfl⟩ cX;obtain⟨hi,rfl⟩:=fX hz;show wSs _ _ Au _ [some (wW a b),some (wI w),some (wKs (nums l)),some (.lst (g.map yD)),some (wKs F),some (.int i),k,j];unfold Au;obtain⟨p,hp⟩:∃p,g[i]?=some p:=⟨_,D2 hi⟩;obtain⟨n,o⟩:∃n,F[i]?=some n:=⟨_,D2 (by lia)⟩;obtain⟨⟨H,b2⟩,P⟩:=T i p n hp o;obtain⟨i1,i2⟩:=cU.mp P;have I:=A n (L.mem_iff.mp (Mo o));have e3:jQ (g.map yD) (i:Int)=some (yD p):=L2.cD (by rw[FR,hp];rfl);have e4:jQ (F.map wK) (i:Int)=some (wK n):=L2.cD (by rw[FR,o];rfl);refine au (λd=>d=[some (wW a b),some (wI w),some (wKs (nums l)),some (.lst (g.map yD)),some (wKs F),some (.int i),some (wq p.1),some (wq p.2)]) (λN f=>?_) ?_
   .have f:=f _ rfl;fin2;refine⟨_,e3,?_⟩;unfold yD;fin2;exact⟨rfl,f⟩
   rintro _ rfl;have C:=cX _ ⟨some (.int i),some (wq p.1),some (wq p.2),rfl⟩;unfold wKs at C⊢;fin2;refine⟨p.1,rfl,_,e4,kq p.1,n,rfl,.inr ⟨p.1,rfl,H,I⟩,λc S=>?_⟩;rw[S.mpr ((HK I.ok).mpr i1)];fin2;refine⟨p.2,rfl,_,e4,kq p.2,n,rfl,.inr ⟨p.2,rfl,b2,I⟩,λc S=>?_⟩;have cf:c=false:=by
    cases e:c with
    |false=>rfl
    |true=>rw[(HK I.ok).mp (S.mp e)]at i2;exact i2
   rw[cf];fin2;exact C
  .rintro _ ⟨r,k,j,rfl⟩;exact f _ ⟨r,k,j,rfl⟩
 rintro _ ⟨r,k,j,rfl⟩;fin2;exact O a b v
def we:List CS:=[.fr [1] true (.jN [(.blt .max2 [(.int 1),(.blt .min2 [(.blt .len [(.var 0)]),(.int 5)])])]) [.iff (.not (.O6 0 (.call 1 [(.var 0),(.var 1)]) [])) [.ret (.bl false)] []],.ret (.bl true)]
theorem LM(k:List W)(Q:W->Prop)(R:Addr->Prop)(h:RO k Q R):wSs (bI [mh,Hv]) G we (bC m Q R) (aj 2 k):=by
 obtain⟨d,rfl,_,j⟩:=h;show wSs _ _ we _ [some (.jY d),none];unfold we;obtain⟨c,u,e⟩:∃c:Nat,c<=5/\(if(if(5:Int)<(d.length:Int)then(5:Int)else(d.length:Int))>1 then(if(5:Int)<(d.length:Int)then(5:Int)else(d.length:Int))else 1)=(c:Int):=by
  by_cases p:(5:Int)<(d.length:Int)
  .exact⟨5,by decide,by rw[D1 p,D1 (by decide)];rfl⟩
  .rw[Bz p];by_cases n:(d.length:Int)>1
   .exact⟨d.length,by lia,by rw[D1 n]⟩
   .exact⟨1,by decide,by rw[Bz n];rfl⟩
 refine au (λf=>∃o,f=[some (.jY d),o]) (λN r=>?_) ?_
 .refine yw (l:=gF 0 1 c) (λQ j=>?_) ?_
  .fin2;rw[e];exact⟨by lia,by lia,j⟩
  refine aP (λi q=>∃o,q=[some (.jY d),o]) ⟨none,rfl⟩ ?_ ?_
  .rintro i w _ N g ⟨o,rfl⟩ s;obtain⟨t,rfl⟩:=fX g;fin2;refine⟨d,i,rfl,by lia,λa b g=>?_⟩;refine⟨a,b,rfl,g,λx v y=>⟨_,_,rfl,?_⟩⟩;fin2;exact s _ ⟨_,rfl⟩
  .rintro _ ⟨o,rfl⟩;exact r _ ⟨o,rfl⟩
 rintro _ ⟨o,rfl⟩;fin2;exact j
end VL
namespace VL
open PySem PySem.Spec
open PyProof.Rows hiding St
open L2
noncomputable def Cn(st:Stmt):List Str:=(cE st).args.map (·.arg)
noncomputable def ZU:NameKind->Bool
 |.local=>true
 |.cell=>true
 |_=>false
noncomputable def XZ(st:Stmt):List Str:=((ai st).names.filter λy=>ZU y.2).map (·.1)
abbrev DT:=List (Str×Nat)
noncomputable def LN(DD:DT)(j:Nat):Str:=match DD[j]? with
 |some y=>y.1
 |none=>""
def LO(K:Frag)(a:Nat->Stmt):DT->Prop
 |[]=>True
 |(x,i)::l=>(Hd K x (a i)/\ia x x (a i) (Cn (a i)))/\LO K a l
def LP(K:Frag):List Str->Prop
 |[]=>True
 |x::l=>nsIn K mainGlobals x=some none/\LP K l
structure TT(K:Frag)(mg:Str->Option Value)(tp:Nat->Stmt)(DD:DT)(ZZ:List Str)where
 f:Nat->Addr
 d:Nat->FuncData
 D:∀{j:Nat}{x:Str}{i:Nat},DD[j]?=some (x,i)->Df K mg x (tp i) (Cn (tp i)) (f j) (d j)
 Z:∀x∈ZZ,mg x=none
section
variable{P:Program}{w:World}{K:Frag}{mg:Str->Option Value}{base:Heap}{tp:Nat->Stmt}{DD:DT}{ZZ:List Str}
theorem Co(X:K.In h)(G:h.Ns mainGlobals mg):∀{DD:DT}{j:Nat}{x:Str}{i:Nat},LO K tp DD->DD[j]?=some (x,i)->∃f a,Df K mg x (tp i) (Cn (tp i)) f a
 |(y,n)::DD,0,x,i,h,e=>by
  cases e;exact Wu X G h.1.1 h.1.2
 |(y,n)::DD,j+1,x,i,h,e=>Co X G (DD:=DD) h.2 e
theorem Cp(X:K.In h)(G:h.Ns mainGlobals mg):∀{ZZ:List Str},LP K ZZ->∀x∈ZZ,mg x=none
 |y::ZZ,h,x,a=>by
  rcases IH.mp a with e|a
  .rw[e];exact PySem.W.mg_none_of X G h.1
  .exact Cp X G h.2 x a
open Classical in
theorem W9(X:K.In h)(G:h.Ns mainGlobals mg)(a:LO K tp DD)(z:LP K ZZ):Nonempty (TT K mg tp DD ZZ):=by
 have H:∀j:Nat,∃f b,∀x i,DD[j]?=some (x,i)->Df K mg x (tp i) (Cn (tp i)) f b:=λj=>by
  cases e:DD[j]? with
  |none=>exact⟨0,fnOf "" "" (cE (tp 0)) (aO (tp 0)) (ai (tp 0)) .none .none .none .none none .none .none,λx i q=>nn q⟩
  |some y=>obtain⟨f,b,D⟩:=Co X G a e;exact⟨f,b,λx i q=>by cases q;exact D⟩
 exact⟨⟨λj=>choose (H j),λj=>choose (choose_spec (H j)),λ{j x i} e=>choose_spec (choose_spec (H j)) x i e,Cp X G z⟩⟩
def Cl(P:Program)(w:World)(K:Frag)(mg:Str->Option Value)(base:Heap)(DD:DT)(k j:Nat)(m:Md)(S:aV):Prop:=∃c n b,mg (LN DD j)=some c/\cL P w K mg base b c n (om K n m S)/\b<=k/\∀a P R,S a P R->a.length=n
def DH(P:Program)(w:World)(K:Frag)(mg:Str->Option Value)(base:Heap)(DD:DT):List (Nat×Md×Nat)->List aV->Prop
 |(j,m,k)::iN,S::Ss=>Cl P w K mg base DD k j m S/\DH P w K mg base DD iN Ss
 |[],_=>True
 |_::_,[]=>False
theorem Cq:∀{a:List (Nat×Md×Nat)}{Ss:List aV},DH P w K mg base DD a Ss->a.all (λy=>decide (y.2.2<=k))=true->XS P w K mg base k (a.map λy=>LN DD y.1) (a.map (·.2.1)) Ss
 |(j,m,k')::a,S::Ss,h,hk=>by rw[G1,DL]at hk;obtain⟨f,n,k2,e,d,c,b⟩:=h.1;exact⟨⟨f,n,k2,e,d,Do c (Dx hk.1),b⟩,Cq h.2 hk.2⟩
 |[],_,_,_=>trivial
 |_::_,[],h,_=>h.elim
def Gn(K:Frag)(mg:Str->Option Value)(x:Str)(u:W):Prop:=(∃v z,mg x=some v/\RelV z v/\∀B H,Rep K B H u z)/\∀C,u=.cls C->YK K C
def Xa(K:Frag)(mg:Str->Option Value):List Str->List W->Prop
 |x::gn,u::Gs=>Gn K mg x u/\Xa K mg gn Gs
 |[],_=>True
 |_::_,[]=>False
theorem SH(h:∃u,mg x=some u/\RelV (.int i) u):Gn K mg x (.int i):=by obtain⟨u,b,a⟩:=h;exact⟨⟨u,_,b,a,λ_ _=>by dsimp only[Rep]⟩,λC e=>by cases e⟩
theorem Aw:∀{gn:List Str}{Gs:List W},Xa K mg gn Gs->∀(j:Nat)(x:Str),gn[j]?=some x->Gn K mg x (n8 Gs j)
 |y::gn,u::Gs,h,0,x,e=>by
  cases e;exact h.1
 |y::gn,u::Gs,h,j+1,x,e=>Aw (gn:=gn) h.2 j x e
 |_::_,[],h,_,_,_=>h.elim
 |[],_,_,_,_,e=>by cases e
theorem Xb(T:TT K mg tp DD ZZ)(h:DH P w K mg base DD a Ss)(b:a.all (λy=>decide (y.2.2<=k))=true)(g:Xa K mg gn Gs):Tab P w K mg base (a.map λy=>LN DD y.1) gn ZZ (a.map (·.2.1)) [] (bI Ss) (n8 Gs) k:=
 ⟨λj x e _=>Ac (Cq h b) j x e,λ_ _ _ _ h=>(by cases h),λj x e=>(Aw g j x e).1,T.Z,z5 K,λj x C e q=>(Aw g j x e).2 C q⟩
noncomputable def Nz(ZZ:List Str)(st:Stmt)(a n:Nat)(M:Ms)(fn gn:List Str)(b:List Md)(d:List (Nat×Nat))(m:Md)(c:List CS):Bool:=
 decide (((ai st).kind=.function/\(ai st).isCoroutine=false/\(ai st).isGenerator=false/\(XZ st).Nodup/\(XZ st).take (Cn st).length=Cn st)/\(∀x∈Cn st,(ai st).names.lookup x=some .local\/(ai st).names.lookup x=some .cell)/\(∀y∈(ai st).names,y.2≠.free)/\(Cn st).length=a/\(XZ st).length=n/\(M.map (·.1)).Nodup)&&(M.all (λi=>decide (a<=i.1))&&!gG m&&cJ ⟨XZ st,(ai st).names,M,fn,gn,ZZ,b,d⟩ (fO b) m c (aO st))
theorem ZV(T:TT K mg tp DD ZZ)(s:DD[j]?=some (x,i))(g:Nz ZZ (tp i) e n M fn gn o l m c=true)(q:Tab P w K mg base fn gn ZZ o l h G k)(r:∀a P R,S a P R->a.length=e)(p:∀a Q R,S a Q R->wSs h G c (bC m Q R) (aj n a)):
 cA P w K mg base (jB P w) (k+1) (T.f j) (T.d j) (Cn (tp i)) (om K e m S):=by
 unfold Nz at g;rw[DL,DL,DL]at g;obtain⟨y,⟨v,u⟩,t⟩:=g;obtain⟨⟨B,a2,a3,a4,a5⟩,a6,a7,A,z,a8⟩:=Dx y;have b:gG m=false:=by simpa using u
 subst A z;have:=G6 (T.D s).F ⟨B,a2,a3,a4,a5,a6,a7⟩ q c M m S v a8 b t r p;cases m<;>first|exact this|cases b
theorem Cr(T:TT K mg tp DD ZZ)(c:DD[j]?=some (x,i))(g:a=(Cn (tp i)).length)(F:cA P w K mg base (jB P w) k (T.f j) (T.d j) (Cn (tp i)) (om K a m S))(h:∀b P R,S b P R->b.length=a):Cl P w K mg base DD k j m S:=by
 have e:LN DD j=x:=by unfold LN;rw[c]
 unfold Cl;rw[e];exact(T.D c).iN F g h (FC k)
theorem SI{st:Stmt}{m:Md}{c:List CS}(h:Nz ZZ st a n M fn gn d b m c=true):a=(Cn st).length:=by unfold Nz at h;rw[DL]at h;exact(Dx h.1).2.2.2.1.symm
theorem Xc(T:TT K mg tp DD ZZ)(q:DD[j]?=some (x,i))(e:Nat)(M:Ms)(b:List (Nat×Md×Nat))(gn:List Str)(p:∀a Q R,S a Q R->wSs (bI Ss) (n8 Gs) c (bC m Q R) (aj n a))(h:DH P w K mg base DD b Ss)(g:Xa K mg gn Gs)(l:(b.all (λy=>decide (y.2.2<=k))&&Nz ZZ (tp i) e n M (b.map λy=>LN DD y.1) gn (b.map (·.2.1)) [] m c)=true)(o:∀a P R,S a P R->a.length=e):cA P w K mg base (jB P w) (k+1) (T.f j) (T.d j) (Cn (tp i)) (om K e m S):=by rw[DL]at l;exact ZV T q l.2 (Xb T h l.1 g) o p
theorem SJ(T:TT K mg tp DD ZZ)(l:DD[j]?=some (x,i))(d:Nat)(M:Ms)(b:List (Nat×Md×Nat))(gn:List Str)(p:∀a Q R,S a Q R->wSs (bI Ss) (n8 Gs) c (bC m Q R) (aj n a))(h:DH P w K mg base DD b Ss)(g:Xa K mg gn Gs)(e:(b.all (λy=>decide (y.2.2<=k))&&Nz ZZ (tp i) d n M (b.map λy=>LN DD y.1) gn (b.map (·.2.1)) [] m c)=true)(f:∀a P R,S a P R->a.length=d):Cl P w K mg base DD (k+1) j m S:=by have F:=Xc T l d M b gn p h g e f;rw[DL]at e;exact Cr T l (SI e.2) F f
theorem fj(T:TT K mg tp DD ZZ)(g:DD[j]?=some (x,i))(d:Nat)(M:Ms)(b:List (Nat×Md×Nat))(p:∀a Q R,S a Q R->wSs (bI Ss) (n8 []) c (bC m Q R) (aj n a))(h:DH P w K mg base DD b Ss)(f:(b.all (λy=>decide (y.2.2<=k))&&Nz ZZ (tp i) d n M (b.map λy=>LN DD y.1) [] (b.map (·.2.1)) [] m c)=true)(e:∀a P R,S a P R->a.length=d):Cl P w K mg base DD (k+1) j m S:=SJ T g d M b [] p h trivial f e
theorem nK(T:TT K mg tp DD ZZ)(f:DD[j]?=some (x,i))(b:Nat)(M:Ms)(p:∀a Q R,S a Q R->wSs (bI []) (n8 []) c (bC m Q R) (aj n a))(e:Nz ZZ (tp i) b n M [] [] [] [] m c=true)(d:∀a P R,S a P R->a.length=b):Cl P w K mg base DD 1 j m S:=SJ (k:=0) T f b M [] [] p trivial trivial e d
theorem NB(T:TT K mg tp DD ZZ)(c:DD[j]?=some (x,i))(b:a=(Cn (tp i)).length):Cl P w K mg base DD k j .s XI:=Cr T c b Wv λ_ _ _ z=>z.elim
theorem dD(h:Cl P w K mg base DD k j m S)(f:k<=d):∃b n a,mg (LN DD j)=some b/\cL P w K mg base a b n (om K n m S)/\a<=d/\∀c P R,S c P R->c.length=n:=by obtain⟨b,n,e,o,l,i,g⟩:=h;exact⟨b,n,e,o,l,Do i f,g⟩
end
end VL
namespace Mv
open PySem PySem.Spec
open PyProof.Rows hiding St
open L2 VL Num
set_option genInjectivity false
set_option genSizeOf false
noncomputable def top(i:Nat):Stmt:=PySem.Challenge.pw_paperwright_k45_whole_known_roots_kept_a.main.body.getD i (.Pass ⟨0,0,0,0⟩)
abbrev en(x:Str)(i:Nat):Str×Nat:=(x,i)
abbrev DD:DT:=[en "gcd" 4,en "turn" 5,en "turned" 7,en "raised" 10,en "plus" 16,en "times" 17,en "over" 18,en "middle" 19,en "cleared" 21,en "trimmed" 22,en "scaled" 23,en "whole_plus" 24,en "whole_minus" 25,en "whole_times" 26,en "whole_value" 27,en "whole_slope" 28,en "whole_divided" 29,en "whole_over" 30,en "shortened" 31,en "next_height" 34,en "sturm_chain" 35,en "counting_chain" 37,en "changes" 38,en "root_bound" 39,en "primitive" 41,en "stretches" 43,en "whole_stretches" 44,en "end_of" 45,en "_law_well" 47,en "_law_draw" 48,en "_law_share" 49,en "_law_lowest" 50,en "_law_primitive" 51,en "_law_product" 52,en "_law_power" 53,en "_law_root_below" 54,en "_law_number" 55,en "_law_root" 56,en "_law_floor" 57,en "_law_less" 58,en "_law_as_number" 59,en "_law_row" 60,en "_law_known" 61,en "_law_sorted" 62,en "_law_right" 63,en "law" 64]
abbrev ZZ:List Str:=["abs","divmod","enumerate","int","len","list","max","min","range","reversed"]
abbrev gv:Stmt:=inClass (top 33) 0
abbrev dG:Stmt:=inClass (top 33) 2
abbrev gw:Stmt:=top 35
abbrev Ax:Stmt:=top 48
abbrev rT:Stmt:=top 55
abbrev wg:Stmt:=top 61
abbrev wj:Stmt:=top 63
theorem rV:cN ["self","one","other","factor"] ["self","one","other","factor"] (ai gv):=⟨rfl,rfl,rfl,by decide+kernel,rfl,by decide+kernel,by decide+kernel⟩
theorem sO:cN ["self","quotient","rest","scale","factor","drop","known"] ["self"] (ai dG):=⟨rfl,rfl,rfl,by decide+kernel,rfl,by decide+kernel,by decide+kernel⟩
theorem rW:cN ["numbers","ahead","last","told","chain"] ["numbers"] (ai gw):=⟨rfl,rfl,rfl,by decide+kernel,rfl,by decide+kernel,by decide+kernel⟩
theorem LQ:cN ["_law_well_here","_law_many","_law_found","_law_turn","_law_upper","_law_lower"] ["_law_well_here","_law_many"] (ai Ax):=⟨rfl,rfl,rfl,by decide+kernel,rfl,by decide+kernel,by decide+kernel⟩
theorem DI:cN ["_law_well_here","_law_kinds","_law_kind","_law_bottom","_law_top","_law_under_root","_law_plain"] ["_law_well_here","_law_kinds"] (ai rT):=⟨rfl,rfl,rfl,by decide+kernel,rfl,by decide+kernel,by decide+kernel⟩
theorem HU:cN ["_law_well_here","_law_most","_law_numbers","_law_whole","_law_turn","_law_number_here","_law_part","_law_place","_law_often","_law_longer","_law_time","_law_small","_law_middle","_law_found"] ["_law_well_here","_law_most"] (ai wg):=⟨rfl,rfl,rfl,by decide+kernel,rfl,by decide+kernel,by decide+kernel⟩
theorem HV:cN ["_law_well_here","_law_whole","_law_numbers","_law_found","_law_rising","_law_k","_law_low","_law_high"] ["_law_well_here"] (ai wj):=⟨rfl,rfl,rfl,by decide+kernel,rfl,by decide+kernel,by decide+kernel⟩
structure Tx(K:Frag)(mg:Str->Option Value) extends TT K mg top DD ZZ where
 aG:Addr
 jz:Hc K mg "Chain" aG ["ahead","last","factor_ahead","factor_last","lead","height","sign","scale","known"]
 jL:Addr
 jM:FuncData
 dP:Dm K aG "__init__" "Chain.__init__" gv ["self","one","other","factor"] jL jM
 mq:Addr
 mw:FuncData
 mD:Dm K aG "step" "Chain.step" dG ["self"] mq mw
 SK:∃u,mg "LONG"=some u/\RelV (.int 6000) u
section
variable{P:Program}{w:World}{K:Frag}{mg:Str->Option Value}{base:Heap}
theorem Cs(T:Tx K mg):Cl P w K mg base DD 2 0 .s Dv:=
 SJ (Ss:=[XI,XI]) T.toTT rfl 2 [] [(2,.s,1),(1,.s,1)] ["LONG"] Wx ⟨NB T.toTT rfl rfl,NB T.toTT rfl rfl,trivial⟩ ⟨SH T.SK,trivial⟩ (by decide+kernel) (by walk_at "l")
theorem yF(T:Tx K mg):Cl P w K mg base DD 1 3 .s oU:=
 nK T.toTT rfl 2 [] Hf (by decide+kernel) (by walk_at "l")
theorem SM(T:Tx K mg):Cl P w K mg base DD 3 4 .s Hz:=
 fj T.toTT rfl 2 [] [(0,.s,2)] R8 ⟨Cs T,trivial⟩ (by decide+kernel) (by walk_at "l")
theorem LR(T:Tx K mg):Cl P w K mg base DD 3 5 .s vP:=
 fj T.toTT rfl 2 [] [(0,.s,2)] Ls ⟨Cs T,trivial⟩ (by decide+kernel) (by walk_at "l")
theorem SN(T:Tx K mg):Cl P w K mg base DD 4 6 .s Hl:=
 fj T.toTT rfl 2 [] [(5,.s,3)] RX ⟨LR T,trivial⟩ (by decide+kernel) (by walk_at "l")
theorem HW(T:Tx K mg):Cl P w K mg base DD 5 7 .s oV:=
 fj T.toTT rfl 2 [] [(6,.s,4),(4,.s,3)] HF ⟨SN T,SM T,trivial⟩ (by decide+kernel) (by walk_at "l")
theorem DJ(T:Tx K mg):Cl P w K mg base DD 3 8 .s rC:=
 fj T.toTT rfl 1 [] [(0,.s,2)] Dw ⟨Cs T,trivial⟩ (by decide+kernel) (by walk_at "l")
theorem uA(T:Tx K mg):Cl P w K mg base DD 1 9 .f lU:=
 nK T.toTT rfl 1 [] Du (by decide+kernel) (by walk_at "l")
theorem mE(T:Tx K mg):Cl P w K mg base DD 1 10 .f ic:=
 nK T.toTT rfl 2 [] G8 (by decide+kernel) (by walk_at "l")
theorem wk(T:Tx K mg):Cl P w K mg base DD 2 11 .f ja:=
 fj T.toTT rfl 2 [(3,.f)] [(9,.f,1)] vM ⟨uA T,trivial⟩ (by decide+kernel) (by walk_at "l")
theorem sP(T:Tx K mg):Cl P w K mg base DD 3 12 .f ir:=
 fj T.toTT rfl 2 [] [(11,.f,2),(10,.f,1)] sG ⟨wk T,mE T,trivial⟩ (by decide+kernel) (by walk_at "l")
theorem sQ(T:Tx K mg):Cl P w K mg base DD 1 13 .f iu:=
 nK T.toTT rfl 2 [(2,.f)] sH (by decide+kernel) (by walk_at "l")
theorem sR(T:Tx K mg):Cl P w K mg base DD 1 14 .s iE:=
 nK T.toTT rfl 3 [] sM (by decide+kernel) (by walk_at "l")
theorem sS(T:Tx K mg):Cl P w K mg base DD 1 15 .f eZ:=
 nK T.toTT rfl 1 [] sL (by decide+kernel) (by walk_at "l")
theorem ou(T:Tx K mg):Cl P w K mg base DD 2 16 .s fZ:=
 fj T.toTT rfl 2 [(4,.f),(5,.f)] [(10,.f,1),(9,.f,1)] oq ⟨mE T,uA T,trivial⟩ (by decide+kernel) (by walk_at "l")
theorem wu(T:Tx K mg):Cl P w K mg base DD 1 17 .f je:=
 nK T.toTT rfl 2 [(3,.f),(4,.f)] vN (by decide+kernel) (by walk_at "l")
theorem n6(T:Tx K mg):Cl P w K mg base DD 3 18 .s iy:=
 fj T.toTT rfl 1 [] [(0,.s,2)] yq ⟨Cs T,trivial⟩ (by decide+kernel) (by walk_at "l")
theorem sU(T:Tx K mg):Cl P w K mg base DD 2 19 .s iB:=
 fj T.toTT rfl 3 [] [(3,.s,1)] sI ⟨yF T,trivial⟩ (by decide+kernel) (by walk_at "l")
theorem sW(T:Tx K mg):cA P w K mg base (jB P w) 1 T.jL T.jM ["self","one","other","factor"] (Hq T.aG):=by
 have g:=T.jz.ok.1;have d:=T.jz.ok.2.2.2;refine T.dP.F.YL rV (λn H Q E h=>?_) (λv A k s H n Q E y h=>?_)
 .obtain⟨x,a,t,r,p,rfl,_⟩:=h;rfl
 obtain⟨x,a,t,r,p,rfl,u,q⟩:=h;refine⟨_,(@c7 _ _ _ _ _ (gg (pv 0) (pv 1) rfl)
  (@c7 _ _ _ _ _ (gg (pv 0) (pv 2) rfl)
  (@c7 _ _ _ _ _ (gg (pv 0) (pv 3) rfl)
  (@c7 _ _ _ _ _ (gg (pv 0) (yW dX) rfl)
  (@c7 _ _ _ _ _ (gg (pv 0) mO rfl)
  (@c7 _ _ _ _ _ (gg (pv 0) mO rfl)
  (@c7 _ _ _ _ _ (gg (pv 0) mO rfl)
  (@c7 _ _ _ _ _ (gg (pv 0) mO rfl)
  (AI (gg (pv 0) mO rfl)))))))))),?_⟩
 refine⟨_,rfl,_,rfl,x,T.aG,a,_,rfl,u,g,d "ahead" (by decide),by show 0<1000;decide,?_⟩;refine⟨_,rfl,_,rfl,x,T.aG,a,_,rfl,aJ,g,d "last" (by decide),by show 1<1000;decide,?_⟩;refine⟨_,rfl,_,rfl,x,T.aG,a,_,rfl,aJ,g,d "factor_ahead" (by decide),by show 2<1000;decide,?_⟩;refine⟨tR (by simp),λj i=>?_⟩;have c:j≠x:=λe=>by rw[e,aJ]at i;cases i
 refine⟨_,rfl,x,T.aG,a,_,rfl,EH aJ i,g,d "factor_last" (by decide),by show 3<1000;decide,?_⟩;refine⟨_,rfl,x,T.aG,a,_,rfl,aJ,g,d "lead" (by decide),by show 4<1000;decide,?_⟩;refine⟨_,rfl,x,T.aG,a,_,rfl,aJ,g,d "height" (by decide),by show 5<1000;decide,?_⟩;refine⟨_,rfl,x,T.aG,a,_,rfl,aJ,g,d "sign" (by decide),by show 6<1000;decide,?_⟩;refine⟨_,rfl,x,T.aG,a,_,rfl,aJ,g,d "scale" (by decide),by show 7<1000;decide,?_⟩;refine⟨_,rfl,x,T.aG,a,_,rfl,aJ,g,d "known" (by decide),by show 8<1000;decide,?_⟩;rw[ay c,ay c,ay c]at i;refine q j _ (λb o f m=>?_) i ?_ aJ
 .have l:b≠j:=aT m i;rw[ay f,ay f,ay f,ay f,ay f,ay f,ay l,ay f,ay f,ay f];exact m
 .rw[ay c,ay c,ay c,ay c,ay c,ay c,aJ]
theorem LS(T:Tx K mg):cL P w K mg base 2 (.ref T.aG) 3 (om K 3 qW (vQ T.aG)):=
 Ab T.jz.ok ⟨T.jz.mks,T.dP.M.1,T.dP.M.fn,T.jz.kp⟩ T.dP.b (sW T)
theorem wz:cJ ⟨["self","quotient","rest","scale","factor","drop","known"],(ai dG).names,[(0,qW)],["whole_divided","whole_minus","scaled","whole_times","raised","next_height"],[],["len"],[.s,.f,.f,.f,.s,.s],[]⟩ (fO [.s,.f,.f,.f,.s,.s]) (.io qW) dw (aO dG)=true:=by decide+kernel
theorem wB(T:Tx K mg):cA P w K mg base (jB P w) 4 T.mq T.mw ["self"] (om K 1 (.io qW) (lW T.aG)):=
 lS T.mD.F sO (tab_of (k:=3) (by exact⟨dD (ou T) (by decide),dD (sP T) (by decide),dD (mE T) (by decide),dD (sQ T) (by decide),dD (yF T) (by decide),dD (sU T) (by decide),trivial⟩) (by exact⟨T.Z "len" (by decide),trivial⟩)) dw [(0,qW)] qW (lW T.aG) (by decide) (by decide) (by decide) (by decide) wz (by walk_at "l") Hy
theorem sX:cJ ⟨["numbers","ahead","last","told","chain"],(ai gw).names,[(3,.f),(4,qW)],["whole_slope","Chain","step","scaled"],[],["list","len"],[.f,qW,(.io qW),.f],[(2,0)]⟩ (fO [.f,qW,(.io qW),.f]) .f gK (aO gw)=true:=by decide+kernel
theorem sY(T:Tx K mg):Tab P w K mg base ["whole_slope","Chain","step","scaled"] [] ["list","len"] [.f,qW,(.io qW),.f] [(2,0)] (bI [eZ,(vQ T.aG),(lW T.aG),ic]) (n8 [(.cls T.aG)]) 4:=by
 refine⟨λj x e h=>?_,λj g x e h=>?_,λj x e=>?_,?_,z5 K,λj x C e h=>?_⟩
 .match j,e with
  |0,e=>cases e;exact dD (sS T) (by decide)
  |1,e=>cases e;exact⟨_,_,2,T.jz.c,LS T,by decide,by walk_at "l"⟩
  |2,e=>cases h
  |3,e=>cases e;exact dD (mE T) (by decide)
  |_+4,e=>simp at e
 .simp only[IH,y8,or_false,Prod.mk.injEq]at h;rcases h with⟨rfl,rfl⟩
  .cases e;exact T.mD.iN (m:=(.io qW)) (wB T) (by walk_at "l") (by decide) rfl
 .match j,e with
  |_+0,e=>simp at e
 .intro x h;simp only[IH,y8,or_false]at h;rcases h with rfl|rfl
  .exact T.Z "list" (by decide)
  .exact T.Z "len" (by decide)
 .match j,e with
  |_+0,e=>simp at e
theorem sZ(T:Tx K mg):cA P w K mg base (jB P w) 5 (T.f 20) (T.d 20) ["numbers"] (om K 1 .f lX):=
 G6 (T.D (j:=20) rfl).F rW (sY T) gK [(3,.f),(4,qW)] .f lX (by decide) (by decide) rfl sX (by walk_at "l") Dz
theorem nM(T:Tx K mg):Cl P w K mg base DD 6 21 .s jx:=
 fj T.toTT rfl 1 [] [(20,.f,5),(17,.f,1),(18,.s,3)] Ag ⟨(Cr T.toTT rfl rfl (sZ T) (by walk_at "l")),wu T,n6 T,trivial⟩ (by decide+kernel) (by walk_at "l")
theorem DK(T:Tx K mg):Cl P w K mg base DD 2 22 .s rK:=
 fj T.toTT rfl 2 [] [(14,.s,1)] DA ⟨sR T,trivial⟩ (by decide+kernel) (by walk_at "l")
theorem wC(T:Tx K mg):Cl P w K mg base DD 1 23 .s gf:=
 nK T.toTT rfl 1 [] vY (by decide+kernel) (by walk_at "l")
theorem yG(T:Tx K mg):Cl P w K mg base DD 4 24 .s iA:=
 fj T.toTT rfl 1 [] [(8,.s,3),(18,.s,3)] yr ⟨DJ T,n6 T,trivial⟩ (by decide+kernel) (by walk_at "l")
theorem HX(T:Tx K mg):Cl P w K mg base DD 3 27 .s oW:=
 fj T.toTT rfl 2 [] [(22,.s,2)] HG ⟨DK T,trivial⟩ (by decide+kernel) (by walk_at "l")
theorem mF(T:Tx K mg):Cl P w K mg base DD 7 26 .f Su:=
 fj T.toTT rfl 1 [(3,.f),(4,.f)] [(21,.s,6),(23,.s,1),(27,.s,3),(7,.s,5)] W2 ⟨nM T,wC T,HX T,HW T,trivial⟩ (by decide+kernel) (by walk_at "l")
theorem yH(T:Tx K mg):Cl P w K mg base DD 8 25 .f nH:=
 fj T.toTT rfl 1 [] [(26,.f,7),(24,.s,4)] Ao ⟨mF T,yG T,trivial⟩ (by decide+kernel) (by walk_at "l")
theorem SO(T:Tx K mg):Cl P w K mg base DD 1 28 .f Hv:=
 nK T.toTT rfl 2 [] R3 (by decide+kernel) (by walk_at "l")
theorem SQ:cJ ⟨["_law_well_here","_law_many","_law_found","_law_turn","_law_upper","_law_lower"],(ai Ax).names,[(0,.f)],[],[],["range","divmod"],[],[]⟩ (fO []) (.io .f) rG (aO Ax)=true:=by decide+kernel
theorem Ay(T:Tx K mg):cA P w K mg base (jB P w) 1 (T.f 29) (T.d 29) ["_law_well_here","_law_many"] (om K 2 (.io .f) n5):=
 lS (T.D (j:=29) rfl).F LQ (tab_of (k:=0) (Ss:=[]) (by exact trivial) (by exact⟨T.Z "range" (by decide),T.Z "divmod" (by decide),trivial⟩)) rG [(0,.f)] .f n5 (by decide) (by decide) (by decide) (by decide) SQ (by walk_at "l") R4
theorem Ct(T:Tx K mg):Cl P w K mg base DD 1 30 .s B6:=
 nK T.toTT rfl 2 [] Lq (by decide+kernel) (by walk_at "l")
theorem rX(T:Tx K mg):Cl P w K mg base DD 2 31 .s Hu:=
 fj T.toTT rfl 2 [] [(30,.s,1)] WD ⟨Ct T,trivial⟩ (by decide+kernel) (by walk_at "l")
theorem tu(T:Tx K mg):Cl P w K mg base DD 2 32 .f Aj:=
 fj T.toTT rfl 1 [] [(30,.s,1)] LB ⟨Ct T,trivial⟩ (by decide+kernel) (by walk_at "l")
theorem uB(T:Tx K mg):Cl P w K mg base DD 1 33 .f uz:=
 nK T.toTT rfl 2 [(2,.f)] Se (by decide+kernel) (by walk_at "l")
theorem wD(T:Tx K mg):Cl P w K mg base DD 1 34 .s jy:=
 nK T.toTT rfl 2 [] HC (by decide+kernel) (by walk_at "l")
theorem mG(T:Tx K mg):Cl P w K mg base DD 2 35 .s rM:=
 fj T.toTT rfl 2 [] [(34,.s,1)] vV ⟨wD T,trivial⟩ (by decide+kernel) (by walk_at "l")
theorem HY:cJ ⟨["_law_well_here","_law_kinds","_law_kind","_law_bottom","_law_top","_law_under_root","_law_plain"],(ai rT).names,[(0,.f)],["_law_draw","_law_lowest","_law_power","_law_root_below"],[],["len"],[(.io .f),.s,.s,.s],[]⟩ (fO [(.io .f),.s,.s,.s]) (.io .f) gM (aO rT)=true:=by decide+kernel
theorem HZ(T:Tx K mg):cA P w K mg base (jB P w) 3 (T.f 36) (T.d 36) ["_law_well_here","_law_kinds"] (om K 2 (.io .f) gO):=
 lS (T.D (j:=36) rfl).F DI (tab_of (k:=2) (by exact⟨(T.D (j:=29) rfl).iN (m:=(.io .f)) (Ay T) rfl (by walk_at "l") (by decide),dD (rX T) (by decide),dD (wD T) (by decide),dD (mG T) (by decide),trivial⟩) (by exact⟨T.Z "len" (by decide),trivial⟩)) gM [(0,.f)] .f gO (by decide) (by decide) (by decide) (by decide) HY (by walk_at "l") DC
theorem Ia(T:Tx K mg):Cl P w K mg base DD 3 37 .s ku:=
 fj T.toTT rfl 1 [(6,.f)] [(33,.f,1),(32,.f,2)] LG ⟨uB T,tu T,trivial⟩ (by decide+kernel) (by walk_at "l")
theorem LU(T:Tx K mg):Cl P w K mg base DD 3 38 .s l6:=
 fj T.toTT rfl 2 [] [(35,.s,2),(34,.s,1)] DB ⟨mG T,wD T,trivial⟩ (by decide+kernel) (by walk_at "l")
theorem Ib(T:Tx K mg):Cl P w K mg base DD 4 39 .s oX:=
 fj T.toTT rfl 2 [] [(37,.s,3),(38,.s,3)] HN ⟨Ia T,LU T,trivial⟩ (by decide+kernel) (by walk_at "l")
theorem yI(T:Tx K mg):Cl P w K mg base DD 1 40 .s Sk:=
 nK T.toTT rfl 1 [] yC (by decide+kernel) (by walk_at "l")
theorem Xd(T:Tx K mg):Cl P w K mg base DD 3 41 .s Ar:=
 fj T.toTT rfl 2 [] [(31,.s,2)] LJ ⟨rX T,trivial⟩ (by decide+kernel) (by walk_at "l")
theorem LV:cJ ⟨["_law_well_here","_law_most","_law_numbers","_law_whole","_law_turn","_law_number_here","_law_part","_law_place","_law_often","_law_longer","_law_time","_law_small","_law_middle","_law_found"],(ai wg).names,[(0,.f),(2,.f),(13,.f)],["_law_draw","_law_number","_law_root","_law_product"],[],["range","list","len","max","abs"],[(.io .f),(.io .f),.s,.f],[]⟩ (fO [(.io .f),(.io .f),.s,.f]) (.io .f) l7 (aO wg)=true:=by decide+kernel
theorem LW(T:Tx K mg):cA P w K mg base (jB P w) 4 (T.f 42) (T.d 42) ["_law_well_here","_law_most"] (om K 2 (.io .f) oY):=
 lS (T.D (j:=42) rfl).F HU (tab_of (k:=3) (by exact⟨(T.D (j:=29) rfl).iN (m:=(.io .f)) (Ay T) rfl (by walk_at "l") (by decide),(T.D (j:=36) rfl).iN (m:=(.io .f)) (HZ T) rfl (by walk_at "l") (by decide),dD (Ia T) (by decide),dD (uB T) (by decide),trivial⟩) (by exact⟨T.Z "range" (by decide),T.Z "list" (by decide),T.Z "len" (by decide),T.Z "max" (by decide),T.Z "abs" (by decide),trivial⟩)) l7 [(0,.f),(2,.f),(13,.f)] .f oY (by decide) (by decide) (by decide) (by decide) LV (by walk_at "l") LL
theorem Ic(T:Tx K mg):Cl P w K mg base DD 5 43 .f rS:=
 fj T.toTT rfl 1 [(1,.f)] [(39,.s,4)] DF ⟨Ib T,trivial⟩ (by decide+kernel) (by walk_at "l")
theorem LX:cJ ⟨["_law_well_here","_law_whole","_law_numbers","_law_found","_law_rising","_law_k","_law_low","_law_high"],(ai wj).names,[(0,.f)],["_law_known","stretches","_law_row","_law_lowest","_law_draw","_law_sorted","_law_less","_law_as_number"],[],["len","range"],[(.io .f),.f,.s,.s,(.io .f),.f,.s,.s],[]⟩ (fO [(.io .f),.f,.s,.s,(.io .f),.f,.s,.s]) (.io .f) gP (aO wj)=true:=by decide+kernel
theorem LY(T:Tx K mg):cA P w K mg base (jB P w) 9 (T.f 44) (T.d 44) ["_law_well_here"] (om K 1 (.io .f) mh):=
 lS (T.D (j:=44) rfl).F HV (tab_of (k:=8) (by exact⟨(T.D (j:=42) rfl).iN (m:=(.io .f)) (LW T) rfl (by walk_at "l") (by decide),dD (yH T) (by decide),dD (Xd T) (by decide),dD (rX T) (by decide),(T.D (j:=29) rfl).iN (m:=(.io .f)) (Ay T) rfl (by walk_at "l") (by decide),dD (Ic T) (by decide),dD (Ib T) (by decide),dD (yI T) (by decide),trivial⟩) (by exact⟨T.Z "len" (by decide),T.Z "range" (by decide),trivial⟩)) gP [(0,.f)] .f mh (by decide) (by decide) (by decide) (by decide) LX (by walk_at "l") DG
theorem Xe(T:Tx K mg):cA P w K mg base (jB P w) 10 (T.f 45) (T.d 45) ["_law_script"] (om K 1 .s RO):=
 Xc (j:=45) (k:=9) (m:=.s) (Gs:=[]) T.toTT rfl 1 [] [(44,(.io .f),9),(28,.f,1)] [] LM ⟨(Cr T.toTT rfl rfl (LY T) (by walk_at "l")),SO T,trivial⟩ trivial (by decide+kernel) (by walk_at "l")
end
theorem Ua{K:Frag}{st:Stmt}{h kV i e b j:Value}(a:nsIn K mainGlobals x=some (some (.ref f)))(l:K.lookup f=some ⟨h,g,.func (fnOf x x (cE st) (aO st) (ai st) .none kV i e m b j),d⟩)(c:codeIn K b x=true)(k:keepIn K (.ref f)=true):Hd K x st:=⟨f,g,m,d,h,kV,i,e,b,j,a,l,c,k⟩
theorem Ub{K:Frag}{st:Stmt}{d:Array (Option Value)}{h kV j e b m:Value}(a:findIn K (.ref C) x=some (some (.ref f)))(i:isFn K (.ref f)=true)(l:K.lookup f=some ⟨h,g,.func (fnOf x q (cE st) (aO st) (ai st) .none kV j e n b m),d⟩)(c:codeIn K b q=true)(k:keepIn K (.ref f)=true):Hm K C x q st:=⟨f,g,n,d,h,kV,j,e,b,m,a,i,l,c,k⟩
theorem Uc{st:Stmt}(h:∀(kV a d:Value)(g:Option Addr)(b f c:Value),bindArgs (fnOf x q (cE st) (aO st) (ai st) .none kV a d g b f) ⟨[c],[]⟩=pure ([i].zip [c])):ia x q st [i]:=λkV a d g b f k j=>by obtain⟨c,l,rfl,e⟩:=sE j;cases Oy.mp e;exact h kV a d g b f c
theorem X0{st:Stmt}(h:∀(kV a e:Value)(j:Option Addr)(b i d c:Value),bindArgs (fnOf x q (cE st) (aO st) (ai st) .none kV a e j b i) ⟨[d,c],[]⟩=pure ([l,k].zip [d,c])):ia x q st [l,k]:=λkV a e j b i o n=>by obtain⟨d,p,rfl,g⟩:=sE n;obtain⟨c,m,rfl,f⟩:=sE g;cases Oy.mp f;exact h kV a e j b i d c
theorem X3{st:Stmt}(h:∀(kV a e:Value)(k:Option Addr)(b j d c a2:Value),bindArgs (fnOf x q (cE st) (aO st) (ai st) .none kV a e k b j) ⟨[d,c,a2],[]⟩=pure ([m,l,p2].zip [d,c,a2])):ia x q st [m,l,p2]:=λkV a e k b j r p=>by obtain⟨d,s,rfl,i⟩:=sE p;obtain⟨c,o,rfl,g⟩:=sE i;obtain⟨a2,n,rfl,f⟩:=sE g;cases Oy.mp f;exact h kV a e k b j d c a2
theorem Ud{st:Stmt}(h:∀(kV a e:Value)(l:Option Addr)(b k d c a2 a3:Value),bindArgs (fnOf x q (cE st) (aO st) (ai st) .none kV a e l b k) ⟨[d,c,a2,a3],[]⟩=pure ([o,n,p2,m].zip [d,c,a2,a3])):ia x q st [o,n,p2,m]:=λkV a e l b k u t=>by obtain⟨d,v,rfl,j⟩:=sE t;obtain⟨c,s,rfl,i⟩:=sE j;obtain⟨a2,r,rfl,g⟩:=sE i;obtain⟨a3,p,rfl,f⟩:=sE g;cases Oy.mp f;exact h kV a e l b k d c a2 a3
theorem all_mk{l:PySem.W.OpenLaw}{K:Frag}(X:K.In h)(G:h.Ns mainGlobals b)(c:b "law"=some (.ref y))
 {a:Addr}(Ie:nsIn K mainGlobals "Chain"=some (some (.ref a)))(Z:plainGet K a Str.empty=true)(Y:hasDictIn K a=true)(U:plainOver K a=true)(S:findIn K (.ref a) "__setattr__"=some (some (.builtin "object.__setattr__")))(R:makesIn K a=true)(Q:keepIn K (.ref a)=true)
 (E:findIn K (.ref a) "ahead"=some none)
 (C:findIn K (.ref a) "last"=some none)
 (J:findIn K (.ref a) "factor_ahead"=some none)
 (L:findIn K (.ref a) "factor_last"=some none)
 (B:findIn K (.ref a) "lead"=some none)
 (I:findIn K (.ref a) "height"=some none)
 (A:findIn K (.ref a) "sign"=some none)
 (H:findIn K (.ref a) "scale"=some none)
 (F:findIn K (.ref a) "known"=some none)
 (o:Hm K a "__init__" "Chain.__init__" gv)
 (n:Hm K a "step" "Chain.step" dG)
 (M:LO K top DD)(z:LP K ZZ)
 {O:Tok}(N:nsIn K mainGlobals "LONG"=some (some (.int 6000 O)))
 :∃u:FuncData,(∀(s:Shared)(v:Value),BindsTo s u ⟨[v],[]⟩ [("_law_script",v)])/\∀base:Heap,K.In base->base.Ns mainGlobals b->cA l.prog w K b base UU 10 y u ["_law_script"] (B5 K):=by
 obtain⟨p⟩:=W9 X G M z;have P:zF K a ["ahead","last","factor_ahead","factor_last","lead","height","sign","scale","known"]:=⟨⟨Z,Y,U,S⟩,by decide,by decide+kernel,λx t=>by
  simp only[IH,y8,or_false]at t;rcases t with rfl|rfl|rfl|rfl|rfl|rfl|rfl|rfl|rfl
  .exact E
  .exact C
  .exact J
  .exact L
  .exact B
  .exact I
  .exact A
  .exact H
  .exact F⟩
 obtain⟨g,k,r⟩:=Nk (ps:=["self","one","other","factor"]) o (Ud λ_ _ _ _ _ _ _ _ _ _=>rfl);obtain⟨f,i,q⟩:=Nk (ps:=["self"]) n (Uc λ_ _ _ _ _ _ _=>rfl);have D:=p.D (j:=45) rfl;have e:=c.symm.trans D.m;cases e
 let T:Tx K b:=⟨p,a,⟨mg_of X G Ie,P,R,Q⟩,g,k,r,f,i,q,⟨_,mg_of X G N,_,rfl⟩⟩
 exact⟨p.d 45,λs v=>D.bt s [v] rfl,λbase _ _=>RP (Xe T)⟩
end Mv
structure PySem.W.Fast:Prop where(tw5114391714310468119 tw11555955338942168030 tw2353851753689071705 tw10856740140497845762 tw10230136923739631025 tw6525381351653277475 tw12115223662866713600 tw17423795297104123777 tw3729371361328033001 tw9174327387327063412 tw973253656779031557 tw1094086919925766671 tw16876238308673013572 tw2828170859402897256 tw5143275673345854341 tw16710859349293949447 tw10844708776550125599 tw6035941280088224301 tw4953251485569265128 tw3345928326153299684 tw10125105169863731580 tw8567707135047165580 tw17717576669631243891 tw285142663228015671 tw2706108618359023468 tw4665305294066511378 tw4616867835267358674 tw186391094782643355 tw3294556408362738069 tw6191600877649815609 tw8288854280988843225 tw8587210096198001411 tw6941189426837376627 tw1837599248497457250 tw17365949590162234392 tw781132289776173362 tw17747876856159591792 tw18097375725304603872 tw2549611561736632799 tw3283355655574253581 tw13230585723682844601 tw2768006285363186556 tw2242689124726353025 tw17506933588775763307 tw1393605619860987260 tw10855215894887115020 tw4270099775265365338 tw3302714000674955974 tw14266231392440609713 tw3543322561041091967 tw4235241380290275476 tw2575499298737098075 tw4525194471743953486 tw8110319984427985758 tw15948164167240596147 tw15957437444552477375 tw3913842806621171795 tw3668126956366667508 tw144272216198496299 tw2621787579987549039 tw14721300517034002879 tw1497407140215415317 tw11960629737867627523 tw17073243766270440533 tw10255816163666649733 tw3560407457867905854 tw16026485896164579686 tw15176207969920086826 tw15144328805453156341 tw11604892529523283111 tw489788699426438912 tw1444059642641527331 tw14691122576316479176 tw10816250192108102438 tw4901178466583078955 tw4919058370329086913 tw15503100288199977442 tw12410660822355797068 tw18333332464362059186 tw9243235627220354070 tw7973503189635592196 tw3889459739052501823 tw3424888340419351133 tw14467490587402911343 tw5803006417802726722 tw17471301498213207070 tw441244204099105444 tw18041867616400106355 tw6144499160735619044 tw15463892399269291693 tw5015796783681783888 tw10478920476091474467 tw7384839571640861893 tw13274930760715917852 tw12630007226312228063 tw11893606802383671832 tw8777028638851181427 tw7521257847495130526 tw9578609072051481601 tw10975427425202119292 tw14257656389011595718 tw6503564306964379026 tw17964214951660806661 tw13080494765910883032 tw14563259387179974130 tw2180297547753995921 tw7537230017406121183 tw12236929034931169946 tw6838194508125492858 tw17692133848575566713 tw3976373291594306540 tw16359176569290656205 tw1128315683081766035 tw6998049597964532983 tw5926409368088630597 tw12656726575183634304 tw17361416882361040984 tw12229900821627018874 tw17747314614431117661 tw10100544935551751086 tw18043911236295002084 tw11347437664958378899 tw5230316021570788954 tw4412587496379824687 tw16039737278997853253 tw4139207325644454691 tw1029048717954782871 tw9182832709512669769 tw16908043667532114747 tw12793234304250321472 tw15502066116750434792 tw17745714971136216281 tw14162260791952481250 tw5938168462809943038 tw5395366449264761133 tw18138513183585116812 tw13458340925198864523 tw11663980572333049587 tw10406731262872981552 tw7455946980305137698 tw1231450867745133146 tw6823564389709643479 tw1782046663523864371 tw15820732352967136224 tw2326314831792053777 tw15799488742184432102 tw2748298891666934367 tw11408232930932104572 tw5812563929505253994 tw8384101847983958440 tw13936040311858751605 tw8236621059140761642 tw5010662518757523735 tw14124817171630212269 tw12613409062082362861 tw8338554926553372267 tw12082639944269055808 tw5133848622907358419 tw16642141792875156038 tw12946343346475000196 tw5972981516525144095 tw2291222765608049678 tw13378985234498896453 tw7834378254965344645 tw12852636697808232211 tw8717413727799454386 tw6796498254466251706 tw16835447552703590635 tw1745784674210577651 tw1028202240892661516 tw597386540876233656 tw11855258718101294875 tw7046044619016213260 tw5990801154292102725 tw3987503805422038012 tw13704947292989949284 tw17179725432979023362 tw7035458777574806443 tw3765520145597991141 tw9895141438454998885 tw15818716075828355734 tw14664491107687117835 tw11444024515224223406 tw16083967589191486483 tw2890807954793968513 tw16024669103807029442 tw15284529542928980856 tw9801335525495355553 tw7733598804219615103 tw14006577378195590619 tw13826321898194302753 tw7427337440986572050 tw6056708953545078637 tw10709402041164167164 tw10419858738915958769 tw9958059364843928576 tw9957684175827332046 tw9931013266214032089 tw976856441417229926 tw9626207961754007877 tw9385030192142766876 tw924211004102668350 tw9157384031313129218 tw899667425639450978 tw8185597993020872555 tw8049875281049656021 tw7841246193735620856 tw7483009925365867758 tw6977715459200536855 tw6932295322867760832 tw6873243542280272673 tw6392033285381646821 tw6315261945264660548 tw6082050188216885458 tw6036791850980855966 tw5601584729694286928 tw5156263433203173254 tw5054693170748001406 tw4841019255138156762 tw4301728966754888188 tw3761629824168336979 tw2581176092056770468 tw1968947562021953978 tw18416285150563218309 tw18229578883279918967 tw18223793387652788794 tw17188009492664674856 tw16608200168970658380 tw16497159285788903010 tw16194350853942850761 tw15617585040613199547 tw15377313650810882046 tw14311137077240051190 tw13654461767117968701 tw12649307123415485174 tw12636146500084040818 tw12154466096562785899 tw11826683877521438150 tw11732299193090648876 tw11510577838918439257 tw11393264844396798122 tw11245083778765735365 tw11069425783346881394 tw10642076227271095120 tw13099022842891845702 tw13907396534785871733 tw11993839793898441300 tw9176474001687333474 tw8090010486305020718 tw6381443452796519681 tw505128259769263067 tw4021139056409390580 tw16875862111877388725 tw1299784584862449672 tw12666475373820013952 tw9306630678981592450 tw2252177491722550120 tw6908026539536953467:True)
open PySem PySem.W PyProof.Rows
set_option maxRecDepth 100000 in
set_option maxHeartbeats 0 in
theorem PySem.Challenge.cw_paperwright_k45_whole_known_roots_kept_a_holds : PySem.Challenge.rw_paperwright_k45_whole_known_roots_kept_a.Holds := by
 w_on;o_law;k_head;(case hw=>w_witness2)
 k_fill
 refine VL.walk (l:=PySem.Challenge.rw_paperwright_k45_whole_known_roots_kept_a) (k:=10) rfl rfl ⟨rfl,by decide,by decide⟩ (by decide+kernel) rfl (fun w h Y=>PySem.W.kIn_of Y) ?F
 case F=>
  intro w mg fa h KX G hmg
  refine' Mv.all_mk KX G hmg ?yy0 ?yy1 ?yy2 ?yy3 ?yy4 ?yy5 ?yy6 ?yy7 ?yy8 ?yy9 ?ZX ?ZY ?Z1 ?Z2 ?Z3 ?Z4 ?Z5 ?Z6 ?Z7 ?Z8 ?Z9
  (case yy0|yy1|yy2|yy3|yy4|yy5|yy6|yy7|yy8|yy9|ZX|ZY|Z1|Z2|Z3|Z4=>k_is)
  (case Z5|Z6=>walk_at "hm")
  (case Z7=>(iterate 46 walk_at "ah");exact trivial)
  (case Z8=>(iterate 10 walk_at "az");exact trivial)
  (case Z9=>k_is)
