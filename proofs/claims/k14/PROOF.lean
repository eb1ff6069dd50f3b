import PyProof.Rows.All
import Wide.All
import OpenK.AllK
import Wide.FinOn
import Lean
import PyProof.EqAt
import PyProof.EqKinds
import PyProof.TupleCall
import PySem.Challenge.RW_paperwright_k14_whole_bare_parts
set_option Elab.async false
set_option linter.all false
set_option maxRecDepth 100000
set_option maxHeartbeats 4000000
set_option hygiene false in
local macro_rules | `(tactic| walk_at "lo") => `(tactic| first | exact False.elim h | (obtain ⟨rfl, _⟩ := h; rfl) | (obtain ⟨_, h⟩ := h; walk_at "lo"))
set_option hygiene false in
local macro_rules | `(tactic| walk_at "l") => `(tactic| (intro _ _ _ h; walk_at "lo"))
set_option hygiene false in
local macro_rules | `(tactic| fin2) => `(tactic| first | dsimp only [↓Um, Uo, wSs, wS, wE, wA, Dh, Tu, wP, Yi, cW, setAt, List.getElem?_cons_zero, List.getElem?_cons_succ, look, List.set, bV, j8, cO, ak, List.map_cons, List.map_nil, List.nil_append, List.cons_append, x_len, Fc, Fd, Np, Nq, Nr, Fe, Bp, Bq, xQ, Nt, Nu, Nv, Nx, Ny, Nz, Ff, NB, NC, ND, Up, Uq, x_lt, Ur, Us, Ut, Br, Uu, NF, NG, NH, Uv, NI, NJ, NK, NL, Bs, xR, Uw, NN, NO, Ux, Fg, Bt, fall, List.replicate, if_true, Bool.not_true, Bool.not_false] | simp only [List.getElem?_cons_zero, List.getElem?_cons_succ, List.map_cons, List.map_nil, List.nil_append, List.cons_append, x_len, Fc, Fd, Np, Nq, Nr, Fe, Bp, Bq, xQ, Nt, Nu, Nv, Nx, Ny, Nz, Ff, NB, NC, ND, Up, Uq, x_lt, Ur, Us, Ut, Br, Uu, NF, NG, NH, Uv, NI, NJ, NK, NL, Bs, xR, Uw, NN, NO, Ux, Fg, Bt, fall, List.replicate, if_true, Bool.not_true, Bool.not_false] | skip)
set_option hygiene false in
local macro_rules | `(tactic| walk_at "hd") => `(tactic| (refine' NP.Uy ?ka ?kl ?kc ?kk; (case ka => k_is); (case kl => k_is); (case kc => k_is); (case kk => k_is)))
set_option hygiene false in
local macro_rules | `(tactic| walk_at "hm") => `(tactic| (refine' NP.Uz ?ka ?ki ?kl ?kc ?kk; (case ka => k_is); (case ki => k_is); (case kl => k_is); (case kc => k_is); (case kk => k_is)))
set_option hygiene false in
local macro_rules | `(tactic| walk_at "bn") => `(tactic| first | exact NP.J6 fun _ _ _ _ _ _ _ => rfl | exact NP.Yj fun _ _ _ _ _ _ _ _ => rfl | exact NP.Yk fun _ _ _ _ _ _ _ _ _ => rfl | exact NP.UA fun _ _ _ _ _ _ _ _ _ _ => rfl)
set_option hygiene false in
local macro_rules | `(tactic| walk_at "ah") => `(tactic| (refine' And.intro (And.intro ?h1 ?h2) ?_; (case h1 => walk_at "hd"); (case h2 => walk_at "bn")))
set_option hygiene false in
local macro_rules | `(tactic| walk_at "az") => `(tactic| (refine' And.intro ?h1 ?_; (case h1 => k_is)))
open List renaming getD_eq_getElem?_getD->AC,length_map->AN,getElem?_eq_getElem->BM,getElem?_map->Dx,mem_cons_of_mem->Ee,mem_cons_self->FC,getElem?_eq_none->FK,length_pos_iff->FM,getElem?_eq_some_iff->FR,length_append->Fm,mem_cons->Fn,size_toArray->Fs,mem_singleton->Fu,getElem?_append_right->Ha,mem_append->Hb,mem_of_getElem?->Hk,length_eq_zero_iff->Hn,mem_append_right->IR,getElem?_set_ne->Iy,getElem?_append_left->KE,isEmpty_iff->KM,all_eq_true->Kb,mem_map->Ki,getLast?_eq_getElem?->Kj,getElem_mem->Kx,getElem?_set_self->PP,nodup_cons->Pm,length_set->Q1,mem_append_left->QR,map_cons->RF,getElem?_range->SB,length_range->SF,append_assoc->SL,mem_iff_getElem->SU,map_append->T1,map_map->UV,length_take->W1,mem_range->Yf,mem_filter->ar,append_nil->aw,drop_eq_getElem_cons->bj,ext_getElem?->cw,dropLast_concat_getLast->cx,not_mem_nil->dt,map_set->eM,getLast?_concat->eQ,getElem_of_mem->gd,getElem?_replicate->h9,eq_nil_or_concat->il,mem_of_mem_take->ke,set_comm->lh,getElem?_take_of_lt->lj,take_of_length_le->ox,getElem?_set->oy,concat_eq_append->rg,map_congr_left->tj,set_set->tx,nodup_nil->ub,map_replicate->ui,pairwise_iff_getElem->vT,reverse_cons->vk,nodup_append->vw,drop_length->xI,map_nil->xk,replicate->A0,length_cons->CY,range->D2,nil_append->Dy,lookup_cons->E2,cons_append->Fy,replicate_succ->G8,all_cons->J9,flatten_cons->KD,zip_cons_cons->L1,lookup->N5,length_nil->NT,filterMap_cons->NU,length->Qf,pairwise_cons->SD,mem_filterMap->Sl,map_inj_right->TH,take_add_one->Ue,getLast?_map->Uk,any_eq_true->Vv,take_append_of_le_length->W9,of_mem_zip->XH,map_const'->XO,map_take->ZG,reverse_singleton->ZT,range_succ_eq_map->Zf,drop_of_length_le->Zk,take_append_drop->a7,singleton_append->a8,length_singleton->aN,length_replicate->ae,getElem?_zipWith->ax,dropLast_eq_take->b3,mem_of_getLast?->bG,reverse_append->cm,dropWhile_cons->cy,set_cons_succ->dH,getElem_range->dV,foldl->dZ,any_eq_false->dq,take_length->e5,length_drop->eB,range_succ->eG,set->ep,map->kx
open Bool renaming and_eq_true->Bi,false_ne_true->Mo,and_eq_true_iff->Y2,or_false->de,not_eq_true->hZ,and_false->i3,eq_iff_iff->ma,not_eq_true'->pk,or_eq_true->td,false_eq_true->TY,true_and->fc,and_true->fg
open Nat renaming le_trans->DL,le_refl->Da,lt_of_lt_of_le->FV,mul_le_mul_left->GE,lt_of_le_of_lt->GM,add_sub_cancel->He,pow_le_pow_right->Kt,zero_le->L9,lt_succ_self->N0,mul_le_mul_right->NA,le_of_not_lt->Nw,lt_irrefl->OF,pow_pos->OK,ne_of_lt->Os,le_of_lt->Oy,add_sub_cancel_left->P2,lt_succ_of_lt->SC,le_add_right->UF,mul_le_mul->X9,pow_le_pow_left->ag,eq_zero_or_pos->cb,le_mul_of_pos_right->cq,mul_comm->d5,pow_add->dE,sub_self->eD,pow_lt_pow_right->eI,le_of_eq->eJ,lt_of_le_of_ne->i5,add_right_comm->ij,lt_succ_of_le->js,add_comm->km,one_lt_two_pow->me,pow_mul->ml,le_succ_of_le->oT,le_of_lt_succ->oa,le_mul_of_pos_left->oo,lt_of_not_le->rh,mul_assoc->rn,add_assoc->sT,sub_le_sub_right->so,le_succ->sv,add_le_add_right->t5,zero_mul->tq,sub_pos_of_lt->va,le_zero->vi,succ_pred_eq_of_pos->x5,zero_add->xb,succ_mul->xc,sub_add_sub_cancel->xi,add_mul->yB,pow_succ->KO,sub_zero->P0,mul_zero->Pb,add_lt_add_left->R1,sub_le->Tv,ne_of_gt->V5,mul_succ->Vj,mul_add->WR,log2_lt->X6,le_antisymm->Y0,le_add_left->Y9,mul_lt_mul_of_pos_right->YP,add_le_add->Yo,exists_eq_add_of_le->ZP,succ_pos->Zq,le_total->Zx,add_zero->a6,sub_sub->bg,sub_lt_sub_right->cF,mul_one->cZ,Coprime->cg,pos_of_ne_zero->df,lt_or_eq_of_le->dk,succ_le_succ->eC,min_le_right->eF,min_eq_left->ek,le_of_dvd->fi,two_mul->hH,one_pos->hQ,one_mul->hX,mul_mod->hY,sub_lt->jb,max_le->k9
open Int renaming natAbs_mul->FS,pow_succ->NM,mul_zero->QP,mul_ne_zero->QQ,pow_zero->SZ,natAbs_dvd_natAbs->TB,zero_mul->Ta,fmod_eq_emod_of_nonneg->Ts,eq_of_mul_eq_mul_left->Wp,gcd_dvd_right->X1,mul_assoc->XB,dvd_zero->a9,mul_comm->cc,one_mul->cn,fdiv_eq_ediv_of_nonneg->du,emod_lt_of_pos->eA,mul_ediv_cancel'->fI,le_of_lt->fe,add_zero->fo,le_of_dvd->gL,dvd_mul_of_dvd_right->gN,gcd_dvd_left->hJ,mul_one->i4,sub_zero->ik,emod_add_mul_ediv->iq,mul_fdiv_cancel_left->mB,mul_ediv_cancel_left->mI,emod_nonneg->mM,pow_add->mn,fdiv_eq_ediv_of_dvd->my,emod_eq_zero_of_dvd->oC,dvd_mul_of_dvd_left->oI,zero_add->pd,lt_or_le->pj,mul_le_mul_of_nonneg_right->rk,mul_le_mul_of_nonneg_left->tI,dvd_add->tJ,ediv_mul_cancel->tm,gcd_zero_right->uj,ediv_pos_of_pos_of_dvd->uk,dvd_sub->w8,dvd_of_emod_eq_zero->xa,sub_self->xn,gcd->D1,toNat_natCast->Eg,natAbs_natCast->I0,toNat_of_nonneg->S2,natCast_nonneg->UC,mul_pos->XX,gcd_pos_of_ne_zero_left->Ym,natAbs->Z3,mul_nonneg->Z4,dvd_natAbs->Z6,dvd_trans->ZK,toNat->Zl,zero_sub->b4,dvd_refl->b5,pow_one->d0,dvd_neg->d3,lt_or_eq_of_le->dr,ediv_le_self->eH,natAbs_pow->ey,natAbs_neg->f7,zero_fdiv->fq,gcd_comm->ft,one_pow->i1,one_dvd->i2,neg_mul->iM,mul_neg->ib,mul_add->ip,dvd_gcd->ja
open Classical renaming byContradiction->Fh,not_not->lF,not_imp->lH,not_forall->ly,choose_spec->mi,choose->mx
open PySem.Heap renaming get?_push_of_some->Fk,lt_size->GT,get?_push_size->On
open Rat renaming mul_zero->HI,intCast_mul->Jn,mul_eq_zero->Pl,num_divInt_den->Qr,zero_mul->TC,divInt_eq_div->TK,intCast_eq_zero_iff->Tb,inv_mul_cancel->Xt,mul_one->Y1,mul_assoc->dC,one_mul->kA,zero_add->kf,divInt_eq_divInt_iff->lL,mul_comm->oP,num_eq_zero->xp,intCast_inj->xt,divInt->BK,div_mul_cancel->Tg,add_zero->V4,div_def->WC,zero_divInt->Xs,intCast_add->Xu,divInt_mul_divInt->b6,add_mul->bM,mul_inv_cancel->dc,intCast_sub->ee,intCast_neg->ej,neg_num->fx,neg_den->g4,inv_def->gp
open PySem renaming wpAny_bind->KB,wpAny_pure->Qb,mem_of_lookup->Re,wpAny_mono->dn,wpAny_truthy_bool->h8,wpAny_passesOwn->kS,wpAny_execs_nil->qr,wpAny_Call_Name_kw->rf,codeAny_mono->wb,wpAny_bindName->wy,wpAny_pyIter_list->y2,wpAny_standAt->yA
open Option.some renaming inj->Kk
open Option renaming map_eq_some_iff->PH,isSome_iff_exists->X2,getD_some->L0,map_some->LZ,getD_none->dB,none->eu
open PySem.W renaming kia_one->Sr,mg_of->Ya,looks_findIn->sk,looks_mroIn->tf
open Ne renaming symm->T2
open PyProof.Rows renaming callWith_type1->d4,assignInOrder_cons->kz,callWith_builtin1->hA
open PySem.F renaming plainAttrs_list->mf,type_list_append->wd,slot_list_append->wt
open Std.Commutative renaming comm->si
open Nat.succ renaming inj->xf
open Std.Associative renaming assoc->y8
open False renaming elim->Ew
open ForInStep renaming yield->L4
open True renaming intro->OM
open Or renaming inr->Pv,inl->Qd
open HMul renaming hMul->R0
open List.cons renaming injEq->U2
open Sum renaming inr->Ul,inl->V0
open List.Pairwise renaming nil->YR
open HAdd renaming hAdd->ZL
open Array renaming length_toList->bH,append_assoc->d6,toList->fh
open Prod.mk renaming injEq->dy
open And renaming right->ed,left->n3
open Iff renaming rfl->fw
open Nat.Coprime renaming symm->kR,dvd_of_dvd_mul_right->kb,dvd_of_dvd_mul_left->kh
open Decidable renaming not_not->lA
noncomputable def Bn:=@if_neg
noncomputable def Bz:=@if_pos
noncomputable def Do:=@of_decide_eq_true
noncomputable def Gc:=@decide_eq_true_eq
noncomputable def IH:=@decide_eq_true
noncomputable def P3:=@beq_iff_eq
noncomputable def PQ:=@congrArg
noncomputable def Pi:=@decide_eq_false
noncomputable def bo:=@of_decide_eq_false
noncomputable def h7:=@beq_self_eq_true
noncomputable def ky:=@beq_eq_false_iff_ne
noncomputable def wx:=@or_false
open PySem.W(instObj methodObj hideAll_get Frag lookIn plainGet hasDictIn findIn plainGet_of isFn plainOver takerIn makesIn emptyDict keepIn mroIn kitOne callWith_K fnOf codeIn excIn nsIn)
noncomputable section
set_option bootstrap.genMatcherCode false
namespace L2
open PySem PySem.Spec PyProof.Rows
abbrev Key:=Sum Int Str
noncomputable def NQ:Key->Value->Bool
 |.inl k,v=>Value.isInt k v
 |.inr x,v=>Value.isStrOf x v
noncomputable def Yl(w:World):Key->Int
 |.inl k=>hashInt k
 |.inr x=>hashStr w x
theorem b8:∀{k:Key}{v:Value},NQ k v=true->(∃i t,k=V0 i/\v=Value.int i t)\/(∃x t,k=Ul x/\v=Value.str x t)
 |.inl i,v,h=>by obtain⟨t,e⟩:=Value.isInt_shape (k:=i) (v:=v) h;exact .inl ⟨i,t,rfl,e⟩
 |.inr x,v,h=>by obtain⟨t,e⟩:=Value.isStrOf_shape (x:=x) (v:=v) h;exact .inr ⟨x,t,rfl,e⟩
theorem O6(a b:Int):decide ((V0 a:Key)=V0 b)=(a==b):=by
 by_cases e:a=b
 .subst e;simp
 .have h:¬(V0 a:Key)=V0 b:=λq=>e (Sum.inl.inj q);rw[Pi h];exact(ky.mpr e).symm
theorem O7(a b:Str):decide ((Ul a:Key)=Ul b)=decide (a=b):=by
 by_cases e:a=b
 .subst e;simp
 .have h:¬(Ul a:Key)=Ul b:=λq=>e (Sum.inr.inj q);rw[Pi h,Pi e]
theorem O8(a:Int)(b:Str):decide ((V0 a:Key)=Ul b)=false:=Pi (λq=>nomatch q)
theorem O9(a:Str)(b:Int):decide ((Ul a:Key)=V0 b)=false:=Pi (λq=>nomatch q)
noncomputable def Bu(prog:Program)(w:World):PySem.KeyKind prog w Key where
 is:=NQ
 hash:=Yl w
 inj:=λv a b g d=>by
  rcases b8 g with⟨i,t,rfl,rfl⟩|⟨x,t,rfl,rfl⟩
  .rcases b8 d with⟨j,u,rfl,e⟩|⟨y,u,rfl,e⟩
   .injection e with e1 _;rw[e1]
   .exact nomatch e
  .rcases b8 d with⟨j,u,rfl,e⟩|⟨y,u,rfl,e⟩
   .exact nomatch e
   .injection e with e1 _;rw[e1]
 byValue:=λk v h=>by rcases b8 h with⟨i,t,rfl,rfl⟩|⟨x,t,rfl,rfl⟩<;>rfl
 pyHash:=λc h=>by
  rcases b8 c with⟨i,t,rfl,rfl⟩|⟨x,t,rfl,rfl⟩
  .exact wpAny_pyHash_int h
  .exact wpAny_pyHash_str h
 eqBool:=λf c h=>by
  rcases b8 f with⟨i,t,rfl,rfl⟩|⟨x,t,rfl,rfl⟩
  .rcases b8 c with⟨j,u,rfl,rfl⟩|⟨y,u,rfl,rfl⟩
   .rw[O6]at h;exact wpAny_eqBool_int h
   .rw[O8]at h;exact SeqAt.EqAt.int_str i t y u _ _ _ _ h
  .rcases b8 c with⟨j,u,rfl,rfl⟩|⟨y,u,rfl,rfl⟩
   .rw[O9]at h;exact SeqAt.EqAt.str_int x t j u _ _ _ _ h
   .rw[O7]at h;exact wpAny_eqBool_str h
 «strs»:=λk x t v h=>by
  rcases b8 h with⟨i,u,rfl,e⟩|⟨y,u,rfl,e⟩
  .exact nomatch e
  .injection e with e1 _;subst e1;cases v<;>rfl
inductive V where
 |aW|bl (b:Bool)|int (i:Int)|str (x:Str)|EZ (b:Array UInt8)|Pa (b:UInt64)|ref (a:Addr)|ty (n:String)
 deriving DecidableEq
noncomputable def RelV:V->Value->Prop
 |.aW,u=>u=Value.none
 |.bl b,u=>u=Value.bool b
 |.int i,u=>∃t,u=Value.int i t
 |.str x,u=>∃t,u=Value.str x t
 |.EZ b,u=>∃t,u=Value.bytes b t
 |.Pa b,u=>∃t,u=Value.float b t
 |.ref a,u=>u=Value.ref a
 |.ty n,u=>u=Value.type n
abbrev Vals:List V->List Value->Prop:=Paired RelV
theorem Vals.length{a:List V}{us:List Value}(r:Vals a us):a.length=us.length:=Paired.length r
theorem Vals.get:∀{a:List V}{us:List Value}{i:Nat}{x:V},Vals a us->a[i]?=some x->∃u,us[i]?=some u/\RelV x u
 |_,_,_,_,.nil,e=>by simp at e
 |_,_,0,_,.cons r _,e=>by simp at e;subst e;exact⟨_,rfl,r⟩
 |_,_,i+1,x,.cons _ t,e=>by obtain⟨u,c,b⟩:=Vals.get (i:=i) (x:=x) t (by simpa using e);exact⟨u,by simpa using c,b⟩
theorem Vals.set{x:V}{u:Value}(r:RelV x u):∀{a:List V}{us:List Value}(i:Nat),Vals a us->Vals (a.set i x) (us.set i u)
 |_,_,_,.nil=>.nil
 |_,_,0,.cons _ t=>.cons r t
 |_,_,i+1,.cons q t=>.cons q (Vals.set r i t)
theorem Vals.append:∀{b a:List V}{us c:List Value},Vals b us->Vals a c->Vals (b++a) (us++c)
 |_,_,_,_,.nil,s=>s
 |_,_,_,_,.cons r t,s=>.cons r (Vals.append t s)
theorem Vals.take:∀{a:List V}{us:List Value}(n:Nat),Vals a us->Vals (a.take n) (us.take n)
 |_,_,0,_=>.nil
 |_,_,_+1,.nil=>.nil
 |_,_,n+1,.cons r t=>.cons r (Vals.take n t)
theorem Vals.drop:∀{a:List V}{us:List Value}(n:Nat),Vals a us->Vals (a.drop n) (us.drop n)
 |_,_,0,r=>r
 |_,_,_+1,.nil=>.nil
 |_,_,n+1,.cons _ t=>Vals.drop n t
noncomputable def sQ:Option V->Option Value->Prop
 |some v,some u=>RelV v u
 |none,none=>True
 |_,_=>False
noncomputable def KV{κ:Type}:List (κ×V)->List (κ×Value)->Prop:=Paired λ(p:κ×V)(q:κ×Value)=>p.1=q.1/\RelV p.2 q.2
noncomputable def kV:Key->V
 |.inl i=>.int i
 |.inr x=>.str x
inductive HO where
 |lst (xs:List V)
 |tup (xs:List V)
 |dK (kvs:List (Key×V))|dT (kvs:List (List Key×V))
 |set (S:Int->Bool) (n:Nat)
 |ins (C dx:Addr) (fs:List (Str×V))
 |own (x:Addr)
 |xd (fs:List (Str×V))
 |met (f x:Addr)
 |jP (lo hi:Int)
 |xS (o:Obj) (u:HO)
 |NR (ps:Array Value)
 |ext (φ:Heap->Prop)
abbrev Hp:=Addr->Option HO
noncomputable def upd(H:Hp)(a:Addr)(o:HO):Hp:=λb=>if b=a then some o else H b
theorem aA{H:Hp}{a:Addr}{o:HO}:upd H a o a=some o:=by unfold upd;rw[Bz rfl]
theorem aq{H:Hp}{a b:Addr}{o:HO}(h:b≠a):upd H a o b=H b:=by unfold upd;rw[Bn h]
theorem aO{H:Hp}{a b:Addr}{o:HO}(h:H a=some o)(h':H b=none):a≠b:=by intro e;subst e;rw[h]at h';cases h'
section
variable(P:Program)(w:World)
noncomputable def cH(H:Hp)(h:Heap)(a:Addr):HO->Prop
 |.lst d=>d.length<=sizeLine/\∃(c:List Value)(n:Nat),Vals d c/\h.get? a=some {cls:=.type "list",data:=.seq c.toArray n}
 |.tup d=>d.length<=sizeLine/\∃c:List Value,Vals d c/\IsTup h a c.toArray
 |.dK b=>b.length<=sizeLine/\(a==sysModules)=false/\∃vs,KV b vs/\h.DictOf (Bu P w) a vs
 |.dT b=>b.length<=sizeLine/\(a==sysModules)=false/\∃d:List (List Key×Addr×Value),
   Paired (λ(p:List Key×V)(q:List Key×Addr×Value)=>p.1=q.1/\H q.2.1=some (.tup (p.1.map kV))/\RelV p.2 q.2.2) b d/\
   ∃o es s,h.get? a=some o/\o.ExactDict/\o.data=.dict es s/\es.toList=d.map (entryOfKey (tupleKind (Bu P w)))/\(d.map (·.1)).Nodup
 |.set S n=>h.SetOf (intKind P w) a S n
 |.ins C i g=>H i=some (.own a)/\g.length<=1000/\i≠a/\h.get? a=some (instObj C i)/\
   ∃e,h.Ns1 i e/\(∀f,sQ (g.lookup f) (e f))/\PySem.Within e (g.map (·.1))
 |.own _=>∃o,h.get? a=some o
 |.xd g=>∃e,h.Ns1 a e/\∀f,sQ (g.lookup f) (e f)
 |.jP m r=>∃t u v,h.get? a=some {cls:=.type "range",data:=.fields #[.int m t,.int r u,.int 1 v]}
 |.xS o u=>h.get? a=some o/\cH H h a u
 |.NR ps=>h.get? a=some {cls:=.none,data:=.fields ps}
 |.met f x=>h.get? a=some (methodObj (.ref f) (.ref x))
 |.ext j=>j h/\(∃o,h.get? a=some o)/\∀l k:Heap,j l->(∀o,l.get? a=some o->k.get? a=some o)->j k
noncomputable def lI(H:Hp)(h:Heap):Prop:=∀a o,H a=some o->cH P w H h a o
end
section
variable{P:Program}{w:World}{H H':Hp}{h h':Heap}{a:Addr}{o:HO}
theorem cH.lt(x:cH P w H h a o):a<h.objs.size:=by
 cases o with
 |lst c=>obtain⟨_,_,_,_,e⟩:=x;exact GT e
 |tup c=>obtain⟨_,_,_,p⟩:=x;exact p.lt
 |dK b=>obtain⟨_,_,_,_,o,_,_,e,_⟩:=x;exact GT e
 |dT b=>obtain⟨_,_,_,_,o,_,_,e,_⟩:=x;exact GT e
 |set S n=>obtain⟨o,_,_,_,e,_⟩:=x;exact GT e
 |ins C l d=>obtain⟨_,_,_,e,_⟩:=x;exact GT e
 |own y=>obtain⟨_,e⟩:=x;exact GT e
 |xd d=>obtain⟨_,⟨_,_,_,e,_⟩,_⟩:=x;exact GT e
 |jP j k=>obtain⟨_,_,_,e⟩:=x;exact GT e
 |xS i u=>obtain⟨e,_⟩:=x;exact GT e
 |NR g=>exact GT (show h.get? a=some _ from x)
 |met f y=>exact GT (show h.get? a=some _ from x)
 |ext φ=>obtain⟨_,⟨_,e⟩,_⟩:=x;exact GT e
theorem Paired.UB{α e:Type}{F G:α->e->Prop}:∀{d:List α}{c:List e},Paired F d c->(∀a b,F a b->G a b)->Paired G d c
 |_,_,.nil,_=>.nil
 |_,_,.cons r t,f=>.cons (f _ _ r) (Paired.UB t f)
theorem cH.stay(x:cH P w H h a o)(k:∀b u,(b=a\/H b=some (.own a))->h.get? b=some u->h'.get? b=some u)
 (K:∀b,H b=some (.own a)->H' b=some (.own a))(J:∀b m,H b=some (.tup m)->H' b=some (.tup m)):cH P w H' h' a o:=by
 induction o with
 |lst m=>obtain⟨z,l,n,r,e⟩:=x;exact⟨z,l,n,r,k _ _ (.inl rfl) e⟩
 |tup m=>obtain⟨z,l,r,g,e,c⟩:=x;exact⟨z,l,r,g,k _ _ (.inl rfl) e,c⟩
 |dK B=>obtain⟨z,y,F,r,g,i,j,e,c⟩:=x;exact⟨z,y,F,r,g,i,j,k _ _ (.inl rfl) e,c⟩
 |dT B=>obtain⟨z,y,m,r,g,i,j,e,c⟩:=x;exact⟨z,y,m,Paired.UB r λp q z=>⟨z.1,J _ _ z.2.1,z.2.2⟩,g,i,j,k _ _ (.inl rfl) e,c⟩
 |set S n=>obtain⟨g,i,j,t,e,c⟩:=x;exact⟨g,i,j,t,k _ _ (.inl rfl) e,c⟩
 |ins C Q L=>obtain⟨d,z,G,e,A,⟨s,i,j,M,c⟩,r⟩:=x;exact⟨K _ d,z,G,k _ _ (.inl rfl) e,A,⟨s,i,j,k _ _ (.inr d) M,c⟩,r⟩
 |own y=>obtain⟨g,e⟩:=x;exact⟨g,k _ _ (.inl rfl) e⟩
 |xd L=>obtain⟨A,⟨s,i,j,e,c⟩,r⟩:=x;exact⟨A,⟨s,i,j,k _ _ (.inl rfl) e,c⟩,r⟩
 |jP N O=>obtain⟨t,u,v,e⟩:=x;exact⟨t,u,v,k _ _ (.inl rfl) e⟩
 |xS g u I=>obtain⟨e,q⟩:=x;exact⟨k _ _ (.inl rfl) e,I q⟩
 |NR E=>have e:h.get? a=some {cls:=.none,data:=.fields E}:=x;show h'.get? a=some {cls:=.none,data:=.fields E};exact k a _ (.inl rfl) e
 |met f y=>have e:h.get? a=some (methodObj (.ref f) (.ref y)):=x;show h'.get? a=some (methodObj (.ref f) (.ref y));exact k a _ (.inl rfl) e
 |ext φ=>obtain⟨p,⟨o,e⟩,D⟩:=x;exact⟨D _ _ p λo q=>k _ _ (.inl rfl) q,⟨o,k _ _ (.inl rfl) e⟩,D⟩
theorem lI.lt(x:lI P w H h)(e:H a=some o):a<h.objs.size:=(x a o e).lt
theorem lI.fresh(x:lI P w H h)(e:h.objs.size<=a):H a=none:=by
 cases q:H a with
 |none=>rfl
 |some u=>exact absurd (FV (x.lt q) e) (OF _)
theorem lI.kept(x:lI P w H h)(k:∀b u,h.get? b=some u->h'.get? b=some u):lI P w H h':=λa o e=>(x a o e).stay (λb u _ q=>k b u q) (λ_ q=>q) λ_ _ q=>q
theorem lI.laid(x:lI P w H h)(k:∀b u,h.get? b=some u->h'.get? b=some u)(i:h.objs.size<=a)(d:cH P w (upd H a o) h' a o):lI P w (upd H a o) h':=λb u e=>by
 have f:=x.fresh i;by_cases g:b=a
 .subst g;rw[aA]at e;cases e;exact d
 .rw[aq g]at e;exact(x b u e).stay (λc v _ q=>k c v q) (λc q=>by rw[aq (aO q f)];exact q) λc j q=>by rw[aq (aO q f)];exact q
end
noncomputable def Rd(H:Hp)(a:Addr)(u:HO):Prop:=H a=some u\/∃o,H a=some (.xS o u)
theorem Rd.ok{P:Program}{w:World}{H:Hp}{h:Heap}{a:Addr}{u:HO}(r:Rd H a u)(x:lI P w H h):cH P w H h a u:=by
 rcases r with r|⟨o,r⟩
 .exact x a u r
 .obtain⟨_,q⟩:=x a _ r;exact q
noncomputable def XE:Option HO->Prop
 |some (.lst _)=>True
 |some (.dK _)=>True
 |some (.dT _)=>True
 |some (.set _ _)=>True
 |some (.ins _ _ _)=>True
 |some (.ext _)=>True
 |_=>False
section
variable{P:Program}{w:World}{H:Hp}{h h':Heap}{x e:Addr}{o':HO}
theorem lI.write(o:lI P w H h)(d:XE (H x))(m:e=x\/H e=some (.own x))(k:∀b u,b≠e->h.get? b=some u->h'.get? b=some u)(t:∃u,h'.get? e=some u)
 (j:cH P w (upd H x o') h' x o'):lI P w (upd H x o') h':=λb u q=>by
 have n:∀c y,H c=some (.own y)->c≠x:=λc y r z=>by subst z;rw[r]at d;exact d
 have s:∀c a,H c=some (.tup a)->c≠x:=λc a r z=>by subst z;rw[r]at d;exact d
 by_cases g:b=x
 .subst g;rw[aA]at q;cases q;exact j
 .rw[aq g]at q;by_cases i:b=e
  .have l:H b=some (.own x):=by
    rcases m with z|z
    .exact absurd (i.trans z) g
    .rw[i];exact z
   rw[q]at l;cases l;obtain⟨v,p⟩:=t;exact⟨v,by rw[i];exact p⟩
  .refine(o b u q).stay (λc v f r=>k c v ?_ r) (λc r=>by rw[aq (n c b r)];exact r) λc a r=>by rw[aq (s c a r)];exact r
   rcases f with rfl|f
   .exact i
   .rintro rfl;rcases m with z|z
    .exact n c b f z
    .rw[f]at z;cases z;exact g rfl
end
structure Un(fs ex:List Addr)(H H':Hp)(h h':Heap):Prop where
 keep:∀b o,h.get? b=some o->H b=none->b∉fs->b∉ex->h'.get? b=some o
 slot:∀b o,h.get? b=some o->H b=none->b∈fs->b∉ex->∃sl,h'.get? b=some {o with slots:=sl}
 free:∀b o,h.get? b=some o->H b=none->b∉ex->H' b=none
 there:∀b o,h.get? b=some o->b∉ex->∃o',h'.get? b=some o'
 tups:∀b xs,H b=some (.tup xs)->H' b=some (.tup xs)
 kI:∀b o u,H b=some (.xS o u)->H' b=some (.xS o u)
 lN:∀b ps,H b=some (.NR ps)->∃more,H' b=some (.NR (ps++more))
section
variable{fs fs' ex ex':List Addr}{H H1 H2:Hp}{h h1 h2 h':Heap}{a x e:Addr}{o:HO}
theorem Un.any(u:Un fs ex H H1 h h1){b:Addr}{c:Obj}(q:h.get? b=some c)(n:H b=none)(d:b∉ex):∃g,h1.get? b=some {c with slots:=g}:=by
 by_cases f:b∈fs
 .exact u.slot b c q n f d
 .exact⟨c.slots,u.keep b c q n f d⟩
theorem Un.kept(k:∀b u,h.get? b=some u->h'.get? b=some u):Un fs ex H H h h':=
 ⟨λb c q _ _ _=>k b c q,λb c q _ _ _=>⟨c.slots,k b c q⟩,λ_ _ _ n _=>n,λb c q _=>⟨c,k b c q⟩,λ_ _ q=>q,λ_ _ _ q=>q,λ_ d q=>⟨#[],by rw[q];simp⟩⟩
theorem Un.refl:Un fs ex H H h h:=Un.kept λ_ _ q=>q
theorem Un.laid(k:∀b u,h.get? b=some u->h'.get? b=some u)(f:h.objs.size<=a)(c:H a=none):Un fs ex H (upd H a o) h h' where
 keep:=λb u q _ _ _=>k b u q
 slot:=λb u q _ _ _=>⟨u.slots,k b u q⟩
 free:=λb u q n _=>by rw[aq (Os (FV (GT q) f))];exact n
 there:=λb u q _=>⟨u,k b u q⟩
 tups:=λb d q=>by rw[aq (aO q c)];exact q
 kI:=λb u d q=>by rw[aq (aO q c)];exact q
 lN:=λb g q=>⟨#[],by rw[aq (aO q c),q];simp⟩
theorem Un.write(c:XE (H x))(m:e=x\/H e=some (.own x))(k:∀b u,b≠e->h.get? b=some u->h'.get? b=some u)(p:∃u,h'.get? e=some u):Un fs ex H (upd H x o) h h':=by
 have f:∀b,H b=none->b≠x:=λb n z=>by subst z;rw[n]at c;exact c
 have g:∀b,H b=none->b≠e:=λb n z=>by
  subst z;rcases m with r|r
  .exact f b n r
  .rw[n]at r;cases r
 have d:∀b u,H b=some u->¬XE (some u)->b≠x:=λb u q l z=>by subst z;rw[q]at c;exact l c
 refine⟨λb u q n _ _=>k b u (g b n) q,λb u q n _ _=>⟨u.slots,k b u (g b n) q⟩,λb u q n _=>by rw[aq (f b n)];exact n,λb u q _=>?_,
  λb j q=>by rw[aq (d b _ q λz=>z)];exact q,λb u j q=>by rw[aq (d b _ q λz=>z)];exact q,λb s q=>⟨#[],by rw[aq (d b _ q λz=>z),q];simp⟩⟩
 by_cases i:b=e
 .subst i;exact p
 .exact⟨u,k b u i q⟩
end
noncomputable def XF(h:Heap)(H:Hp):List Addr:=(D2 h.objs.size).filter λa=>(H a).isSome
noncomputable def uR(h:Heap)(H:Hp):Heap:=PySem.W.hideAll h (XF h H)
theorem Di(h:Heap)(H:Hp):(uR h H).objs.size=h.objs.size:=PySem.W.hideAll_size _ _
theorem Fi{h:Heap}{H:Hp}{b:Addr}{o:Obj}(e:h.get? b=some o)(n:H b=none):(uR h H).get? b=some o:=
 hideAll_get _ e λa=>by have q:(H b).isSome=true:=(ar.mp a).2;rw[n]at q;simp at q
theorem J7{h:Heap}{H:Hp}{b:Addr}{o:Obj}(e:(uR h H).get? b=some o):h.get? b=some o/\H b=none:=by
 have a:h.get? b=some o:=PySem.W.of_hideAll (XF h H) e;refine⟨a,?_⟩;cases q:H b with
 |none=>rfl
 |some x=>have c:b∈XF h H:=ar.mpr ⟨Yf.mpr (GT a),by simp[q]⟩;have z:(uR h H).get? b=none:=PySem.W.hideAll_none (XF h H) c;rw[z]at e;cases e
noncomputable def J8(g h:Heap)(L:Addr):List (Addr×Obj):=(D2 h.objs.size).filterMap λa=>if a=L\/(g.get? a).isSome=true then none else(h.get? a).map λo=>(a,o)
noncomputable def rest(g h:Heap)(L d:Addr):List (Addr×Obj):=(J8 g h L).filter λp=>decide (p.1≠d)
structure Mod(K:Frag)(mg:Str->Option Value)(base:Heap):Prop where
 Tw:K.In base
 glob:base.Ns mainGlobals mg
 blt:∃mb,base.Ns builtinsNs mb/\∀x:Str,x≠"__name__"->mb x=bootBuiltins x
 nolimit:base.NoLimit
 seer:base.NoSeer
set_option genInjectivity false in
set_option genSizeOf false in
structure Cx where
 prog:Program
 w:World
 K:Frag
 mg:Str->Option Value
 base:Heap
 A:Around
 N:List Str
 s₀:Shared
 H₀:Hp
 env:Env
 outer:List Env
 stack:List Env
 ex:List Addr
 fn:Str->Bool
 calm:Bool
 pn:List (Addr×Obj)
 xe:Value->Shared->Prop
noncomputable def frs(l:List Env):List Addr:=l.filterMap (·.frame)
abbrev Cx.fs(X:Cx):List Addr:=frs X.outer
noncomputable def Tz(sc:Scope)(x:Str):Prop:=sc.names.lookup x=some .local\/sc.names.lookup x=some .cell\/sc.names.lookup x=some .free
noncomputable def Loc(sc:Scope)(x:Str):Prop:=sc.names.lookup x=some .local\/sc.names.lookup x=some .cell
noncomputable def Look(env:Env)(h:Heap)(m:Str->Option Value)(x:Str)(u:Value):Prop:=
 (env.kindOf x=some .local/\m x=some u)\/((env.kindOf x=some .cell\/env.kindOf x=some .free)/\∃c,env.cells.lookup x=some c/\h.IsCell c (some u))
structure Cx.Ok(X:Cx):Prop where
 mod:Mod X.K X.mg X.base
 kind:X.env.scope.kind=.function
 glob:X.env.globals=mainGlobals
 blt:X.env.builtins=builtinsNs
 above:X.s₀.heap.objs.size<=X.env.locals
 inj:∀x y c,X.env.cells.lookup x=some c->X.env.cells.lookup y=some c->x=y
 has:∀x,(X.env.kindOf x=some .cell\/X.env.kindOf x=some .free)->∃c,X.env.cells.lookup x=some c
 TF:∀x c,X.fn x=true->X.env.cells.lookup x=some c->X.s₀.heap.objs.size<=c
 hd:X.calm=true->X.A.handled=none
 frames:X.A.frames=some X.stack
 stk:X.stack=X.outer\/(X.stack=X.env::X.outer/\X.env.frame=some X.env.locals)
 XG:∀b∈X.ex,b≠X.env.locals/\∀x c,X.env.cells.lookup x=some c->c≠b
 bs:∀b o,X.base.get? b=some o->X.s₀.heap.get? b=some o/\X.H₀ b=none
 JU:X.base.objs.size<=X.s₀.heap.objs.size
 Dj:∀b o,X.base.get? b=some o->b∉X.ex
 Dk:∀b∈X.ex,b∉X.fs
 nj:X.s₀.heap.FunFrames X.base X.outer
 NS:∀b∈X.fs,X.H₀ b=none
 tree:X.prog.given.tree=none
 UD:∀(A:Around)(s:Shared),A.frames=X.A.frames->A.depth=X.A.depth->(∀b o,X.base.get? b=some o->s.heap.get? b=some o)->PylongRoom (model X.prog X.w) A s
structure Inv(X:Cx)(pins:List (Addr×Obj))(σ:List (Option V))(H:Hp)(s:Shared):Prop where
 ok:X.Ok
 os:s.os=X.s₀.os
 bare:AllBare s.gens
 base:Un X.fs X.ex X.H₀ H X.s₀.heap s.heap
 loc:∃m,s.heap.Ns X.env.locals m/\∀(i:Nat)(x:Str)(v:V),X.N[i]?=some x->σ[i]?=some (some v)->Tz X.env.scope x->∃u,RelV v u/\Look X.env s.heap m x u
 cell:∀x c,X.env.cells.lookup x=some c->∃v,s.heap.IsCell c v
 free:H X.env.locals=none
 gH:∀x c,X.env.cells.lookup x=some c->H c=none
 pin:∀p∈X.pn++pins,s.heap.get? p.1=some p.2/\H p.1=none/\p.1≠X.env.locals/\p.1∉X.fs/\∀v,p.2.data≠.cell v
 hok:lI X.prog X.w H s.heap
 len:σ.length=X.N.length
section
variable{X:Cx}{pins:List (Addr×Obj)}{σ:List (Option V)}{H H':Hp}{s:Shared}{h':Heap}
theorem Cx.Ok.Dl(a:X.Ok){b:Addr}{o:Obj}(e:X.base.get? b=some o):b∉X.fs:=λc=>by have:=(a.nj.mem c).1;rw[e]at this;cases this
theorem Inv.bs(I:Inv X pins σ H s):∀b o,X.base.get? b=some o->s.heap.get? b=some o/\H b=none:=λb o e=>⟨I.base.keep b o (I.ok.bs b o e).1 (I.ok.bs b o e).2 (I.ok.Dl e) (I.ok.Dj b o e),I.base.free b o (I.ok.bs b o e).1 (I.ok.bs b o e).2 (I.ok.Dj b o e)⟩
theorem Inv.bk(I:Inv X pins σ H s):∀b o,X.base.get? b=some o->s.heap.get? b=some o:=λb o e=>(I.bs b o e).1
theorem Inv.mod(I:Inv X pins σ H s):Mod X.K X.mg X.base:=I.ok.mod
theorem Inv.lO(I:Inv X pins σ H s):X.K.In s.heap:=I.ok.mod.Tw.keeps I.bk
theorem Inv.lt(I:Inv X pins σ H s):X.env.locals<s.heap.objs.size:=let⟨_,hn,_⟩:=I.loc;hn.lt
theorem Inv.sz(I:Inv X pins σ H s):X.s₀.heap.objs.size<=s.heap.objs.size:=DL I.ok.above (Oy I.lt)
theorem Inv.Yn(I:Inv X pins σ H s){a:Addr}(h:s.heap.objs.size<=a):a∉X.fs:=λc=>by obtain⟨_,o,b,_⟩:=I.ok.nj.mem c;exact absurd (FV (GT b) (DL I.sz h)) (OF _)
theorem Inv.Fj(I:Inv X pins σ H s):∀x c,X.env.cells.lookup x=some c->c≠X.env.locals:=λx c e z=>by obtain⟨v,o,d,f⟩:=I.cell x c e;obtain⟨m,⟨g,h,i,a,b,_⟩,_⟩:=I.loc;rw[z,a]at d;cases d;rw[b]at f;cases f
theorem Inv.nj(I:Inv X pins σ H s):s.heap.FunFrames X.base X.outer:=by
 have f:∀(l:List Env),(∀b∈frs l,b∈X.fs)->X.s₀.heap.FunFrames X.base l->s.heap.FunFrames X.base l:=by
  intro l
  induction l with
  |nil=>intro _ _;trivial
  |cons env r h=>intro g m;obtain⟨n,⟨L,o,a,k,j,p⟩,i⟩:=m;have d:L∈X.fs:=g L (by unfold frs;rw[NU,a];exact FC);obtain⟨q,e⟩:=I.base.slot L o j (I.ok.NS L d) d λz=>I.ok.Dk L z d;exact⟨n,⟨L,_,a,k,e,p⟩,h (λb c=>g b (by unfold frs;rw[NU,a];exact Ee _ c)) i⟩
 exact f X.outer (λ_ c=>c) I.ok.nj
theorem Inv.stack(I:Inv X pins σ H s):s.heap.FunFrames X.base X.stack:=by
 rcases I.ok.stk with e|⟨e,b⟩
 .rw[e];exact I.nj
 .rw[e];obtain⟨m,a,_⟩:=I.loc;refine .cons (by rw[I.ok.kind];decide) b a ?_ I.nj;exact Heap.get?_none_of_le (DL I.ok.JU I.ok.above)
theorem Inv.zK(I:Inv X pins σ H s):∀b∈frs X.stack,b∈X.env.locals::X.fs:=λb a=>by
 rcases I.ok.stk with e|⟨e,c⟩
 .rw[e]at a;exact Ee _ a
 .rw[e]at a;unfold frs at a;rw[NU,c]at a;exact a
theorem Inv.jQ(I:Inv X pins σ H s):∀b∈frs X.stack,H b=none:=λb a=>by
 rcases Fn.mp (I.zK b a)with e|a
 .rw[e];exact I.free
 .obtain⟨_,o,c,_⟩:=I.ok.nj.mem a;exact I.base.free b o c (I.ok.NS b a) λz=>I.ok.Dk b z a
theorem Inv.step{g':Array GenState}{t':Nat}{d':Drawn}{ch:List Addr}(I:Inv X pins σ H s)
 (f:∀b∈ch,(b∈X.ex\/X.s₀.heap.objs.size<=b)/\b≠X.env.locals/\(∀x c,X.env.cells.lookup x=some c->c≠b)/\∀p∈X.pn++pins,p.1≠b)
 (keep:∀b o,b≠X.env.locals->b∉X.fs->b∉ch->s.heap.get? b=some o->H b=none->h'.get? b=some o)
 (slot:∀b o,b≠X.env.locals->b∈X.fs->b∉ch->s.heap.get? b=some o->H b=none->∃J,h'.get? b=some {o with slots:=J})(free:∀b o,b∉ch->s.heap.get? b=some o->H b=none->H' b=none)
 (there:∀b o,b∉ch->s.heap.get? b=some o->∃A,h'.get? b=some A)
 (tups:∀b j,H b=some (.tup j)->H' b=some (.tup j))(kI:∀b o u,H b=some (.xS o u)->H' b=some (.xS o u))(lN:∀b ps,H b=some (.NR ps)->∃C,H' b=some (.NR (ps++C)))
 (ns:∀m,s.heap.Ns X.env.locals m->h'.Ns X.env.locals m)(K:lI X.prog X.w H' h')(U:AllBare g'):
 Inv X pins σ H' {s with heap:=h',gens:=g',drawn:=d',toks:=t'}:=by
 have B:∀b o,X.s₀.heap.get? b=some o->b≠X.env.locals:=λb o e=>Os (FV (GT e) I.ok.above);have F:∀b o,X.s₀.heap.get? b=some o->b∉X.ex->b∉ch:=λb o e a t=>by
  rcases(f b t).1 with z|z
  .exact a z
  .exact absurd (FV (GT e) z) (OF _)
 have g:∀x c,X.env.cells.lookup x=some c->∀v,s.heap.IsCell c v->h'.IsCell c v:=λx c e v ⟨o,y,L⟩=>by
  have E:c∉ch:=λz=>(f c z).2.2.1 x c e rfl;by_cases P:c∈X.fs
  .obtain⟨J,q⟩:=slot c o (I.Fj x c e) P E y (I.gH x c e);exact⟨_,q,L⟩
  .exact⟨o,keep c o (I.Fj x c e) P E y (I.gH x c e),L⟩
 refine⟨I.ok,I.os,U,⟨λb o e n t a=>?_,λb o e n t a=>?_,λb o e n a=>?_,λb o e a=>?_,λb j e=>tups b j (I.base.tups b j e),λb o j e=>kI b o j (I.base.kI b o j e),λb ps e=>?_⟩,?_,λx c e=>?_,?_,λx c e=>?_,λp O=>?_,K,I.len⟩
 .exact keep b o (B b o e) t (F b o e a) (I.base.keep b o e n t a) (I.base.free b o e n a)
 .obtain⟨J,h⟩:=I.base.slot b o e n t a;obtain⟨G,D⟩:=slot b _ (B b o e) t (F b o e a) h (I.base.free b o e n a);exact⟨G,D⟩
 .obtain⟨A,h⟩:=I.base.there b o e a;exact free b A (F b o e a) h (I.base.free b o e n a)
 .obtain⟨A,h⟩:=I.base.there b o e a;exact there b A (F b o e a) h
 .obtain⟨R,h⟩:=I.base.lN b ps e;obtain⟨Q,D⟩:=lN b _ h;exact⟨R++Q,by rw[D,d6]⟩
 .obtain⟨m,S,T⟩:=I.loc;refine⟨m,ns m S,λi x v h D Y=>?_⟩;obtain⟨u,r,l⟩:=T i x v h D Y;refine⟨u,r,?_⟩;rcases l with l|⟨k,c,e,z⟩
  .exact .inl l
  .exact .inr ⟨k,c,e,g x c e _ z⟩
 .obtain⟨v,z⟩:=I.cell x c e;exact⟨v,g x c e v z⟩
 .obtain⟨m,⟨o,_,_,y,_⟩,_⟩:=I.loc;exact free _ o (λz=>(f _ z).2.1 rfl) y I.free
 .obtain⟨v,o,y,L⟩:=I.cell x c e;exact free c o (λz=>(f c z).2.2.1 x c e rfl) y (I.gH x c e)
 .obtain⟨e,n,N,M,d⟩:=I.pin p O;have E:p.1∉ch:=λz=>(f p.1 z).2.2.2 p O rfl;exact⟨keep p.1 p.2 N M E e n,free p.1 p.2 E e n,N,M,d⟩
theorem Inv.un{t':Nat}(I:Inv X pins σ H s)(u:Un X.fs [] H H' s.heap h')(c:lI X.prog X.w H' h'):Inv X pins σ H' {s with heap:=h',toks:=t'}:=by obtain⟨m,⟨o,t,v,g,r⟩,_⟩:=id I.loc;obtain⟨l,j⟩:=u.any g I.free (by simp);exact I.step (g':=s.gens) (d':=s.drawn) (ch:=[]) (λ_ z=>nomatch z) (λb o _ d _ e n=>u.keep b o e n d (by simp)) (λb o _ d _ e n=>u.slot b o e n d (by simp)) (λb o _ e n=>u.free b o e n (by simp)) (λb o _ e=>u.there b o e (by simp)) u.tups u.kI u.lN (λq i=>by obtain⟨p,f,k,a,h⟩:=i;rw[g]at a;cases a;exact⟨_,f,k,j,h⟩) c I.bare
theorem Inv.call{g':Array GenState}{t':Nat}{d':Drawn}{ch:List Addr}(I:Inv X pins σ H s)(u:Un (frs X.stack) ch H H' s.heap h')(g:lI X.prog X.w H' h')(q:AllBare g')
 (f:∀b∈ch,(b∈X.ex\/X.s₀.heap.objs.size<=b)/\b≠X.env.locals/\(∀x c,X.env.cells.lookup x=some c->c≠b)/\∀p∈X.pn++pins,p.1≠b):
 Inv X pins σ H' {s with heap:=h',gens:=g',drawn:=d',toks:=t'}:=by
 obtain⟨m,⟨o,C,D,j,r⟩,_⟩:=id I.loc;obtain⟨y,h⟩:=u.any j I.free λz=>(f _ z).2.1 rfl;exact I.step (ch:=ch) f (λb o h t a e n=>u.keep b o e n (λz=>(Fn.mp (I.zK b z)).elim h t) a) (λb o _ _ a e n=>u.any e n a) (λb o a e n=>u.free b o e n a) (λb o a e=>u.there b o e a) u.tups u.kI u.lN (λB l=>by obtain⟨A,i,v,d,k⟩:=l;rw[j]at d;cases d;exact⟨_,i,v,h,k⟩) g q
theorem Inv.turned{t':Nat}{a:Addr}(I:Inv X pins σ H s)(k:∀b o,b≠a->s.heap.get? b=some o->h'.get? b=some o)(i:H a=none)(g:a≠X.env.locals)
 (y:a∈X.ex\/X.s₀.heap.objs.size<=a)(w:∀x c,X.env.cells.lookup x=some c->c≠a)(t:∀p∈X.pn++pins,p.1≠a):Inv X pins σ H {s with heap:=h',toks:=t'}:=by
 have f:∀b u,H b=some u->b≠a:=λb u e z=>by rw[z,i]at e;cases e
 refine I.step (g':=s.gens) (d':=s.drawn) (ch:=[a]) (λb l=>?_) (λb o _ _ d e _=>k b o (λz=>d (by simp[z])) e) (λb o _ _ d e _=>⟨o.slots,k b o (λz=>d (by simp[z])) e⟩) (λ_ _ _ _ n=>n)
  (λb o d e=>⟨o,k b o (λz=>d (by simp[z])) e⟩) (λ_ _ e=>e) (λ_ _ _ e=>e) (λb C e=>⟨#[],by rw[e];simp⟩) (λm j=>?_) (λb u e=>?_) I.bare
 .have e:b=a:=by simpa using l
  subst e;exact⟨y,g,w,t⟩
 .obtain⟨o,A,B,h,r⟩:=j;exact⟨o,A,B,k _ o (T2 g) h,r⟩
 .refine(I.hok b u e).stay (λc v d q=>k c v ?_ q) (λ_ q=>q) λ_ _ q=>q;rcases d with z|z
  .rw[z];exact f b u e
  .exact f c _ z
theorem Inv.tok(I:Inv X pins σ H s)(t:Nat):Inv X pins σ H {s with toks:=t}:=I.un (h':=s.heap) (t':=t) Un.refl I.hok
theorem Inv.kept{t':Nat}(I:Inv X pins σ H s)(k:∀b u,s.heap.get? b=some u->h'.get? b=some u):Inv X pins σ H {s with heap:=h',toks:=t'}:=I.un (Un.kept k) (I.hok.kept k)
theorem Inv.laid{a:Addr}{o:HO}{t':Nat}(I:Inv X pins σ H s)(k:∀b u,s.heap.get? b=some u->h'.get? b=some u)(d:s.heap.objs.size<=a)(c:cH X.prog X.w (upd H a o) h' a o):
 Inv X pins σ (upd H a o) {s with heap:=h',toks:=t'}:=I.un (Un.laid k d (I.hok.fresh d)) (I.hok.laid k d c)
theorem Inv.write{x e:Addr}{o:HO}{t':Nat}(I:Inv X pins σ H s)(c:XE (H x))(d:e=x\/H e=some (.own x))(k:∀b u,b≠e->s.heap.get? b=some u->h'.get? b=some u)(f:∃u,h'.get? e=some u)
 (a:cH X.prog X.w (upd H x o) h' x o):Inv X pins σ (upd H x o) {s with heap:=h',toks:=t'}:=I.un (Un.write c d k f) (I.hok.write c d k f a)
theorem Inv.Bv{a:List (Addr×Obj)}(I:Inv X pins σ H s)(h:∀p∈a,s.heap.get? p.1=some p.2/\H p.1=none/\p.1≠X.env.locals/\p.1∉X.fs/\∀v,p.2.data≠.cell v):Inv X a σ H s:=
 ⟨I.ok,I.os,I.bare,I.base,I.loc,I.cell,I.free,I.gH,λp b=>(Hb.mp b).elim (λz=>I.pin p (QR _ z)) (h p),I.hok,I.len⟩
theorem qk{N:List Str}(c:N.Nodup){i j:Nat}{x:Str}(a:N[i]?=some x)(b:N[j]?=some x):i=j:=by obtain⟨g,e⟩:=FR.mp a;obtain⟨f,d⟩:=FR.mp b;exact(List.getElem_inj c).mp (e.trans d.symm)
theorem uc{M:Model}{A:Around}{E:Value->Shared->Prop}{i:Nat}{x:Str}{v:V}{u:Value}{Q:Unit->Shared->Prop}(I:Inv X pins σ H s)(hN:X.N.Nodup)(O:X.N[i]?=some x)(B:Loc X.env.scope x)(r:RelV v u)
 (h:∀s',Inv X pins (σ.set i (some v)) H s'->(∃a,Heap.SameBut a s.heap s'.heap/\(a=X.env.locals\/X.env.cells.lookup x=some a))->Q () s')(hf:X.fn x=true\/X.env.scope.names.lookup x=some .local:=by first|exact .inl rfl|exact .inr rfl|assumption):wpAny M A (storeName X.env x u) Q E s:=by
 obtain⟨m,hn,hl⟩:=id I.loc;have P:(X.env.scope.kind==.class||(X.env.scope.kind==.module&&X.env.locals !=X.env.globals))=false:=by rw[I.ok.kind];rfl
 have Ka:i<σ.length:=by rw[I.len];exact(FR.mp O).1
 have Fj:=I.Fj;have g:∀{a:Addr}{h':Heap},(∃o,s.heap.get? a=some o/\H a=none)->Heap.SameBut a s.heap h'->lI X.prog X.w H h':=λ{a h'} ha f b ob e=>by
  obtain⟨_,_,C⟩:=ha;refine(I.hok b ob e).stay (λc T t q=>(f.2 c ?_).trans q) (λ_ q=>q) λ_ _ q=>q;rintro rfl;rcases t with rfl|t
  .rw[C]at e;cases e
  .rw[C]at t;cases t
 rcases B with F|F
 .refine wpAny_storeName_local F hn (λh' hn' f=>?_) P;obtain⟨oL,_,_,hoL,_⟩:=id hn;refine h _ ⟨I.ok,I.os,I.bare,⟨λb o e n K B=>?_,λb o e n K B=>?_,I.base.free,λb o e B=>?_,I.base.tups,I.base.kI,I.base.lN⟩,⟨_,hn',λj y Z l D e3=>?_⟩,λy c e=>?_,I.free,I.gH,λp hp=>?_,g ⟨oL,hoL,I.free⟩ f,by simpa using I.len⟩ ⟨_,f,.inl rfl⟩
  .exact(f.2 b (Os (FV (GT e) I.ok.above))).trans (I.base.keep b o e n K B)
  .obtain⟨sl,l⟩:=I.base.slot b o e n K B;exact⟨sl,(f.2 b (Os (FV (GT e) I.ok.above))).trans l⟩
  .obtain⟨o',l⟩:=I.base.there b o e B;exact⟨o',(f.2 b (Os (FV (GT e) I.ok.above))).trans l⟩
  .by_cases G:j=i
   .subst G;rw[O]at l;cases l;rw[PP Ka]at D;cases D;exact⟨u,r,.inl ⟨F,by simp⟩⟩
   .rw[Iy (T2 G)]at D;obtain⟨u',r',q⟩:=hl j y Z l D e3;refine⟨u',r',?_⟩;rcases q with⟨k,e⟩|⟨k,c,e,z⟩
    .refine .inl ⟨k,?_⟩;have:y≠x:=λe=>G (qk hN l (e▸O));simp[this,e]
    .exact .inr ⟨k,c,e,z.sameBut f (Fj y c e)⟩
  .obtain⟨T,z⟩:=I.cell y c e;exact⟨T,z.sameBut f (Fj y c e)⟩
  .obtain⟨e,n,U,nf,d⟩:=I.pin p hp;exact⟨(f.2 p.1 U).trans e,n,U,nf,d⟩
 .have J:X.fn x=true:=by
   rcases hf with z|z
   .exact z
   .rw[z]at F;cases F
  obtain⟨c,t⟩:=I.ok.has x (.inl F);obtain⟨T,z⟩:=I.cell x c t;refine wpAny_storeName_cell I.ok.kind F t z (λh' S f=>?_);obtain⟨oc,L,Yp⟩:=id z;refine h {s with heap:=h'} ⟨I.ok,I.os,I.bare,⟨λb o e n K B=>?_,λb o e n K B=>?_,I.base.free,λb o e B=>?_,I.base.tups,I.base.kI,I.base.lN⟩,⟨m,hn.sameBut f (T2 (Fj x c t)),λj y Z l D e3=>?_⟩,λy Y e=>?_,I.free,I.gH,λp hp=>?_,g ⟨oc,L,I.gH x c t⟩ f,by simpa using I.len⟩ ⟨c,f,.inr t⟩
  .exact(f.2 b (Os (FV (GT e) (I.ok.TF x c J t)))).trans (I.base.keep b o e n K B)
  .obtain⟨sl,l⟩:=I.base.slot b o e n K B;exact⟨sl,(f.2 b (Os (FV (GT e) (I.ok.TF x c J t)))).trans l⟩
  .obtain⟨o',l⟩:=I.base.there b o e B;exact⟨o',(f.2 b (Os (FV (GT e) (I.ok.TF x c J t)))).trans l⟩
  .by_cases G:j=i
   .subst G;rw[O]at l;cases l;rw[PP Ka]at D;cases D;exact⟨u,r,.inr ⟨.inl F,c,t,S⟩⟩
   .rw[Iy (T2 G)]at D;obtain⟨u',r',q⟩:=hl j y Z l D e3;refine⟨u',r',?_⟩;rcases q with q|⟨k,Y,e,z'⟩
    .exact .inl q
    .refine .inr ⟨k,Y,e,z'.sameBut f ?_⟩;rintro rfl;exact G (qk hN l (I.ok.inj _ _ _ e t▸O))
  .by_cases R:Y=c
   .subst R;exact⟨_,S⟩
   .obtain⟨w2,z2⟩:=I.cell y Y e;exact⟨w2,z2.sameBut f R⟩
  .obtain⟨e,n,U,nf,d⟩:=I.pin p hp;refine⟨(f.2 p.1 ?_).trans e,n,U,nf,d⟩;intro q;rw[q,L]at e;have q':oc=p.2:=Kk e;exact d T (by rw[<-q'];exact Yp)
theorem eW{M:Model}{A:Around}{E:Value->Shared->Prop}{i:Nat}{x:Str}{v:V}{u:Value}{Q:Unit->Shared->Prop}(I:Inv X pins σ H s)(d:X.N.Nodup)(b:X.N[i]?=some x)(a:Loc X.env.scope x)(r:RelV v u)
 (h:∀s',Inv X pins (σ.set i (some v)) H s'->Q () s')(c:X.fn x=true\/X.env.scope.names.lookup x=some .local:=by first|exact .inl rfl|exact .inr rfl|assumption):wpAny M A (storeName X.env x u) Q E s:=
 uc I d b a r (λs' e _=>h s' e) c
theorem Inv.Fl{s':Shared}{ch:List Addr}(I:Inv X pins σ H s)(g:s'.os=s.os)(u:Un (frs X.stack) ch H H' s.heap s'.heap)(a:lI X.prog X.w H' s'.heap)(h:AllBare s'.gens)
 (d:∀b∈ch,(b∈X.ex\/X.s₀.heap.objs.size<=b)/\b≠X.env.locals/\(∀x c,X.env.cells.lookup x=some c->c≠b)/\∀p∈X.pn++pins,p.1≠b):Inv X pins σ H' s':=by
 obtain⟨h',g',d',t',f⟩:=s';have e:f=s.os:=g;subst e;exact I.call (g':=g') (t':=t') (d':=d') u a h d
end
abbrev XK:=Value->Option Addr->Hp->Prop
abbrev St:=List (Option V)
abbrev VK:=V->Hp->Prop
abbrev TE:=St->Hp->VK->Prop
abbrev TT:=St->Hp->(Bool->Hp->Prop)->Prop
abbrev TA:=St->Hp->(List V->Hp->Prop)->Prop
set_option genInjectivity false in
set_option genSizeOf false in
structure Ends where
 nx:St->Hp->Prop
 rt:VK
 bk:St->Hp->Prop:=λ_ _=>False
 ct:St->Hp->Prop:=λ_ _=>False
abbrev TS:=Ends->St->Hp->Prop
noncomputable def EP(X:Cx)(a:List (Addr×Obj))(c:St)(Q:VK)(u:Value)(s':Shared):Prop:=∃v b,Inv X a c b s'/\RelV v u/\Q v b
noncomputable def TP(X:Cx)(a:List (Addr×Obj))(d:St)(Q:Bool->Hp->Prop)(b:Bool)(s':Shared):Prop:=∃c,Inv X a d c s'/\Q b c
noncomputable def AP(X:Cx)(a:List (Addr×Obj))(d:St)(Q:List V->Hp->Prop)(us:List Value)(s':Shared):Prop:=∃b c,Inv X a d c s'/\Vals b us/\Q b c
noncomputable def SP(X:Cx)(b:List (Addr×Obj))(D:Ends)(f:Flow)(s':Shared):Prop:=
 match f with
 |.next=>∃a c,Inv X b a c s'/\D.nx a c
 |.brk=>∃a c,Inv X b a c s'/\D.bk a c
 |.cont=>∃a c,Inv X b a c s'/\D.ct a c
 |.ret u=>∃v a c,Inv X b a c s'/\RelV v u/\D.rt v c
noncomputable def PE(X:Cx)(e:Expr)(t:TE):Prop:=
 ∀(a:List (Addr×Obj))(s:Shared)(b:St)(H:Hp)(Q:VK),Inv X a b H s->t b H Q->wpAny (model X.prog X.w) X.A (eval e X.env) (EP X a b Q) X.xe s
noncomputable def PT(X:Cx)(e:Expr)(t:TT):Prop:=
 ∀(a:List (Addr×Obj))(s:Shared)(b:St)(H:Hp)(Q:Bool->Hp->Prop),Inv X a b H s->t b H Q->wpAny (model X.prog X.w) X.A (isTrue e X.env (eval e X.env)) (TP X a b Q) X.xe s
noncomputable def PW(X:Cx)(e:Expr)(t:TT):Prop:=
 ∀(b:Sem Value)(a:List (Addr×Obj))(s:Shared)(c:St)(H:Hp)(Q:Bool->Hp->Prop),Inv X a c H s->t c H Q->wpAny (model X.prog X.w) X.A (isTrue e X.env b) (TP X a c Q) X.xe s
theorem PW.pt{X:Cx}{e:Expr}{t:TT}(h:PW X e t):PT X e t:=h _
noncomputable def PA(X:Cx)(es:List Expr)(t:TA):Prop:=
 ∀(c:Pos)(a:List (Addr×Obj))(s:Shared)(b:St)(H:Hp)(Q:List V->Hp->Prop),Inv X a b H s->t b H Q->wpAny (model X.prog X.w) X.A (spliced (backTo c (starEach es X.env))) (AP X a b Q) X.xe s
noncomputable def PS(X:Cx)(st:Stmt)(t:TS):Prop:=
 ∀(a:List (Addr×Obj))(s:Shared)(b:St)(H:Hp)(D:Ends),Inv X a b H s->t D b H->wpAny (model X.prog X.w) X.A (exec st X.env) (SP X a D) X.xe s
noncomputable def sN(X:Cx)(st:List Stmt)(t:TS):Prop:=
 ∀(a:List (Addr×Obj))(s:Shared)(b:St)(H:Hp)(D:Ends),Inv X a b H s->t D b H->wpAny (model X.prog X.w) X.A (execs st X.env) (SP X a D) X.xe s
theorem cI{α:Type}{t:Sem α}{Q b:α->Shared->Prop}{M:Model}{A:Around}{E:Value->Shared->Prop}{s:Shared}(h:wpAny M A t Q E s)(c:∀a s,Q a s->b a s):wpAny M A t b E s:=dn h c λ_ _ x=>x
section
variable{X:Cx}
theorem bin{a b:Expr}{ta k:TE}(t:PE X a ta)(r:PE X b k){c:List (Addr×Obj)}{s:Shared}{d:St}{H:Hp}{R:V->V->Hp->Prop}(I:Inv X c d H s)(h:ta d H λx H1=>k d H1 λy e=>R x y e)
 {α:Type}{Q:α->Shared->Prop}{f:Value->Value->Sem α}
 (q:∀v u j x y e,Inv X c d e j->RelV x v->RelV y u->R x y e->wpAny (model X.prog X.w) X.A (f v u) Q X.xe j):
 wpAny (model X.prog X.w) X.A (eval a X.env) (λv i=>wpAny (model X.prog X.w) X.A (eval b X.env) (λu g=>wpAny (model X.prog X.w) X.A (f v u) Q X.xe g) X.xe i) X.xe s:=by
 refine cI (t c s d H _ I h) λv l ⟨x,H1,I1,n,p⟩=>?_;refine cI (r c l d H1 _ I1 p) λu j ⟨y,e,z,m,o⟩=>?_;exact q v u j x y e z n m o
noncomputable def kJ(i:Nat):TE:=λa H Q=>∃v,a[i]?=some (some v)/\Q v H
noncomputable def tC(v:V):TE:=λ_ H Q=>Q v H
theorem Fo{i:Nat}{x:Str}{pos:Pos}(w:X.N[i]?=some x)(o:Tz X.env.scope x)(g:(x==("__debug__":Str))=false:=by decide)(j:(x==("__classdict__":Str))=false:=by decide):PE X (.Name x pos) (kJ i):=by
 intro f s n H Q I h;obtain⟨v,e,h⟩:=h;obtain⟨m,p,t⟩:=I.loc;obtain⟨u,r,l⟩:=t i x v w e o;have d:EP X f n Q u s:=⟨v,H,I,r,h⟩;rcases l with⟨b,q⟩|⟨b,c,k,a⟩
 .exact wpAny_Name (wpAny_loadName_local I.ok.kind b p q d) g
 .rcases b with b|b
  .exact wpAny_Name (wpAny_loadName_cell I.ok.kind b k a d) g
  .exact wpAny_Name (wpAny_loadName_free I.ok.kind b k a d j) g
theorem iL{i j pos}:PE X (.Constant (.int i) j pos) (tC (.int i)):=λ_ _ _ H _ I h=>wpAny_Constant_int ⟨.int i,H,I.tok _,⟨_,rfl⟩,h⟩
theorem UE{b j pos}:PE X (.Constant (.bool b) j pos) (tC (.bl b)):=λ_ _ _ H _ I h=>Constant_bool ⟨.bl b,H,I,rfl,h⟩
theorem zL{j pos}:PE X (.Constant .none j pos) (tC .aW):=λ_ _ _ H _ I h=>Constant_none ⟨.aW,H,I,rfl,h⟩
theorem Pc{x j pos}:PE X (.Constant (.str x) j pos) (tC (.str x)):=λ_ _ _ H _ I h=>Calls.Constant_str ⟨.str x,H,I.tok _,⟨_,rfl⟩,h⟩
noncomputable def Gl(X:Cx)(x:Str):Prop:=X.env.kindOf x=some .globalImplicit
theorem jR{E:Value->Shared->Prop}{a:List (Addr×Obj)}{s:Shared}{b:St}{H:Hp}{x:Str}{u:Value}{pos:Pos}{Q:Value->Shared->Prop}(I:Inv X a b H s)(d:Gl X x)(c:X.mg x=some u)(h:Q u s)
 (e:(x==("__debug__":Str))=false:=by decide):wpAny (model X.prog X.w) X.A (eval (.Name x pos) X.env) Q E s:=
 Calls.Name_function_global I.ok.kind d (Calls.loadGlobal_global (by rw[I.ok.glob];exact I.mod.glob.keeps I.bk) c h) e
theorem kK{E:Value->Shared->Prop}{a:List (Addr×Obj)}{s:Shared}{b:St}{H:Hp}{x:Str}{u:Value}{pos:Pos}{Q:Value->Shared->Prop}(I:Inv X a b H s)(f:Gl X x)(e:X.mg x=none)(c:bootBuiltins x=some u)(h:Q u s)
 (d:x≠"__name__":=by decide)(g:(x==("__debug__":Str))=false:=by decide):wpAny (model X.prog X.w) X.A (eval (.Name x pos) X.env) Q E s:=by
 obtain⟨k,j,i⟩:=I.mod.blt;exact Calls.Name_function_global I.ok.kind f (Calls.loadGlobal_builtin (by rw[I.ok.glob];exact I.mod.glob.keeps I.bk) e (by rw[I.ok.blt];exact j.keeps I.bk) ((i x d).trans c) h) g
theorem gI{x:Str}{v:V}{u:Value}{pos:Pos}(b:Gl X x)(a:X.mg x=some u)(r:RelV v u)(c:(x==("__debug__":Str))=false:=by decide):PE X (.Name x pos) (tC v):=
 λ_ _ _ H _ I h=>jR I b a ⟨v,H,I,r,h⟩ c
theorem Bw{x:Str}{v:V}{u:Value}{pos:Pos}(d:Gl X x)(c:X.mg x=none)(a:bootBuiltins x=some u)(r:RelV v u)(b:x≠"__name__":=by decide)(e:(x==("__debug__":Str))=false:=by decide):PE X (.Name x pos) (tC v):=
 λ_ _ _ H _ I h=>kK I d c a ⟨v,H,I,r,h⟩ b e
variable{a b:Expr}{ta tb:TE}{pos:Pos}
noncomputable def tB(t:TE):TT:=λd H Q=>t d H λx e=>∃c,x=.bl c/\Q c e
theorem Pd{e:Expr}{t:TE}(h:PE X e t)(l:∀c,isTrue e X.env c=(do let v<-c;standAt e.pos;holding [v] (truthy v)):=by intro _;rfl):PT X e (tB t):=by intro f s g H Q I k;refine isTrue_plain (cI (h f s g H _ I k) λv n ⟨x,m,I1,i,j⟩=>?_) (l _);obtain⟨d,rfl,q⟩:=j;cases i;exact h8 ⟨m,I1,q⟩
variable{tA XI:TT}{rest:List Expr}
noncomputable def Yq(t u:TT):TT:=λd H Q=>t d H λc e=>if c=true then u d e Q else Q false e
noncomputable def tOr(t u:TT):TT:=λd H Q=>t d H λc e=>if c=true then Q true e else u d e Q
noncomputable def Yr(t:TT):TT:=λd H Q=>t d H λc e=>Q (!c) e
theorem Kc(g:PT X a tA):PW X (.BoolOp .And [a] pos) tA:=by
 intro i d s f H Q I h;refine isTrue_and (cI (g d s f H Q I h) λc j e=>?_);cases c with
 |true=>exact isTrue_and_nil e
 |false=>exact e
theorem Pe(g:PT X a tA):PW X (.BoolOp .Or [a] pos) tA:=by
 intro i d s f H Q I h;refine isTrue_or (cI (g d s f H Q I h) λc j e=>?_);cases c with
 |false=>exact isTrue_or_nil e
 |true=>exact e
theorem Pf(l:PT X a tA)(k:PW X (.BoolOp .And (b::rest) pos) XI):PW X (.BoolOp .And (a::b::rest) pos) (Yq tA XI):=by
 intro i d s e H Q I h;refine isTrue_and (cI (l d s e H _ I h) λc j ⟨g,I1,f⟩=>?_);cases c with
 |true=>exact k i d j e g Q I1 f
 |false=>exact⟨g,I1,f⟩
theorem UG(l:PT X a tA)(k:PW X (.BoolOp .Or (b::rest) pos) XI):PW X (.BoolOp .Or (a::b::rest) pos) (tOr tA XI):=by
 intro i d s e H Q I h;refine isTrue_or (cI (l d s e H _ I h) λc j ⟨g,I1,f⟩=>?_);cases c with
 |true=>exact⟨g,I1,f⟩
 |false=>exact k i d j e g Q I1 f
theorem Pg(f:PT X a tA):PT X (.UnaryOp .Not a pos) (Yr tA):=by intro d s e H Q I h;exact isTrue_not (f d s e H (λc g=>Q (!c) g) I h)
noncomputable def UH(ta tb:TE):TE:=λd H Q=>ta d H λx e=>∃c,x=.bl c/\if c=true then tb d e Q else Q (.bl false) e
noncomputable def Ys(ta tb:TE):TE:=λd H Q=>ta d H λx e=>∃c,x=.bl c/\if c=true then Q (.bl true) e else tb d e Q
noncomputable def UI(ta:TE):TE:=λd H Q=>ta d H λx e=>∃c,x=.bl c/\Q (.bl (!c)) e
theorem uS{op}{t:TE}(h:PE X a t):PE X (.BoolOp op [a] pos) t:=λc s d H Q I e=>BoolOp_one (h c s d H Q I e)
theorem zM(l:PE X a ta)(k:PE X (.BoolOp .And (b::rest) pos) tb):PE X (.BoolOp .And (a::b::rest) pos) (UH ta tb):=by
 intro d s f H Q I h;refine BoolOp_and (cI (l d s f H _ I h) λv i ⟨x,g,I1,j,e⟩=>?_);obtain⟨c,rfl,e⟩:=e;cases j;refine h8 ?_;cases c with
 |true=>exact k d i f g Q I1 e
 |false=>exact⟨.bl false,g,I1,rfl,e⟩
theorem UJ(l:PE X a ta)(k:PE X (.BoolOp .Or (b::rest) pos) tb):PE X (.BoolOp .Or (a::b::rest) pos) (Ys ta tb):=by
 intro d s f H Q I h;refine BoolOp_or (cI (l d s f H _ I h) λv i ⟨x,g,I1,j,e⟩=>?_);obtain⟨c,rfl,e⟩:=e;cases j;refine h8 ?_;cases c with
 |false=>exact k d i f g Q I1 e
 |true=>exact⟨.bl true,g,I1,rfl,e⟩
theorem Ph(i:PE X a ta):PE X (.UnaryOp .Not a pos) (UI ta):=by intro d s f H Q I h;refine UnaryOp_ (cI (i d s f H _ I h) λv k ⟨x,j,I1,g,e⟩=>?_);obtain⟨c,rfl,e⟩:=e;cases g;exact not_of (h8 ⟨.bl (!c),j,I1,rfl,e⟩)
end
noncomputable def iN(K:Frag)(H:Hp)(a:Addr)(c:List V):Prop:=
 Rd H a (.lst c)\/
  ∃(o:Obj)(b:Array Value)(n:Nat),K.lookup a=some o/\o.cls=.type "list"/\o.dict=none/\o.data=.seq b n/\b.size<=sizeLine/\Vals c b.toList
noncomputable def kL(K:Frag)(H:Hp)(a:Addr)(c:List V):Prop:=
 Rd H a (.tup c)\/
  ∃(o:Obj)(b:Array Value)(n:Nat),K.lookup a=some o/\o.cls=.type "tuple"/\o.data=.seq b n/\b.size<=sizeLine/\Vals c b.toList
noncomputable def Yt:Value->Option V
 |.none=>some .aW
 |.bool b=>some (.bl b)
 |.int i _=>some (.int i)
 |.str x _=>some (.str x)
 |.bytes b _=>some (.EZ b)
 |.float b _=>some (.Pa b)
 |.ref a=>some (.ref a)
 |.type n=>some (.ty n)
 |_=>none
theorem RelV.abs{x:V}{u:Value}(r:RelV x u):Yt u=some x:=by
 cases x with
 |aW=>cases r;rfl
 |bl _=>cases r;rfl
 |int _=>obtain⟨t,rfl⟩:=r;rfl
 |str _=>obtain⟨t,rfl⟩:=r;rfl
 |EZ _=>obtain⟨t,rfl⟩:=r;rfl
 |Pa _=>obtain⟨t,rfl⟩:=r;rfl
 |ref _=>cases r;rfl
 |ty _=>cases r;rfl
theorem RelV.inj{x y:V}{u:Value}(r:RelV x u)(q:RelV y u):x=y:=Kk (r.abs.symm.trans q.abs)
theorem Vals.inj:∀{b a:List V}{us:List Value},Vals b us->Vals a us->b=a
 |_,_,_,.nil,.nil=>rfl
 |_,_,_,.cons r t,.cons c t'=>by rw[r.inj c,Vals.inj t t']
section
variable{X:Cx}{pins:List (Addr×Obj)}{σ:St}{H:Hp}{s:Shared}{a:Addr}{xs ys:List V}
theorem iN.of{K:Frag}(h:H a=some (.lst xs)):iN K H a xs:=.inl (.inl h)
theorem kL.of{K:Frag}(h:H a=some (.tup xs)):kL K H a xs:=.inl (.inl h)
theorem Inv.list(I:Inv X pins σ H s)(h:iN X.K H a xs):∃b:List Value,Vals xs b/\PlainL s.heap a b.toArray/\xs.length<=sizeLine:=by
 rcases h with h|⟨o,b,n,d,g,f,c,hz,r⟩
 .obtain⟨z,b,n,r,e⟩:=h.ok I.hok;exact⟨b,r,⟨_,n,e,rfl,rfl,rfl⟩,z⟩
 .refine⟨b.toList,r,⟨o,n,I.lO a o d,g,f,by simpa using c⟩,?_⟩;have e:=r.length;simp only[bH]at e;lia
theorem Inv.tuple(I:Inv X pins σ H s)(h:kL X.K H a xs):∃b:List Value,Vals xs b/\IsTup s.heap a b.toArray/\xs.length<=sizeLine:=by
 rcases h with h|⟨o,b,n,d,f,c,hz,r⟩
 .obtain⟨z,b,r,p⟩:=h.ok I.hok;exact⟨b,r,p,z⟩
 .refine⟨b.toList,r,⟨o,I.lO a o d,f,n,by simpa using c⟩,?_⟩;have e:=r.length;simp only[bH]at e;lia
theorem Inv.xT(I:Inv X pins σ H s)(h:iN X.K H a xs)(h':iN X.K H a ys):xs=ys:=by
 obtain⟨c,r,⟨o,n,e,_,_,d⟩,_⟩:=I.list h;obtain⟨b,i,⟨j,k,f,_,_,g⟩,_⟩:=I.list h';rw[e]at f;cases f;rw[d]at g;injection g with d1 _;have:c=b:=by simpa using PQ fh d1
 subst this;exact r.inj i
theorem Inv.Dp(I:Inv X pins σ H s)(h:kL X.K H a xs)(h':kL X.K H a ys):xs=ys:=by
 obtain⟨c,r,⟨o,e,_,n,d⟩,_⟩:=I.tuple h;obtain⟨b,i,⟨j,f,_,k,g⟩,_⟩:=I.tuple h';rw[e]at f;cases f;rw[d]at g;injection g with d1 _;have:c=b:=by simpa using PQ fh d1
 subst this;exact r.inj i
end
abbrev Cx.oR(X:Cx)(E:Value->Shared->Prop):Cx:={X with xe:=E}
abbrev Cx.jS(X:Cx):Cx:=X.oR λ_ _=>False
theorem Cx.Ok.oR{X:Cx}(a:X.Ok)(E:Value->Shared->Prop):(X.oR E).Ok:=
 ⟨a.mod,a.kind,a.glob,a.blt,a.above,a.inj,a.has,a.TF,a.hd,a.frames,a.stk,a.XG,a.bs,a.JU,a.Dj,a.Dk,a.nj,a.NS,a.tree,a.UD⟩
theorem Cx.Ok.gP{X:Cx}{E:Value->Shared->Prop}(a:(X.oR E).Ok):X.Ok:=
 ⟨a.mod,a.kind,a.glob,a.blt,a.above,a.inj,a.has,a.TF,a.hd,a.frames,a.stk,a.XG,a.bs,a.JU,a.Dj,a.Dk,a.nj,a.NS,a.tree,a.UD⟩
section
variable{X:Cx}{pins:List (Addr×Obj)}{σ:St}{H:Hp}{s:Shared}{E:Value->Shared->Prop}
theorem Inv.oR(I:Inv X pins σ H s)(E:Value->Shared->Prop):Inv (X.oR E) pins σ H s:=⟨I.ok.oR E,I.os,I.bare,I.base,I.loc,I.cell,I.free,I.gH,I.pin,I.hok,I.len⟩
theorem Inv.gP(I:Inv (X.oR E) pins σ H s):Inv X pins σ H s:=⟨I.ok.gP,I.os,I.bare,I.base,I.loc,I.cell,I.free,I.gH,I.pin,I.hok,I.len⟩
theorem SP.gP{D:Ends}{f:Flow}{s':Shared}(h:SP (X.oR E) pins D f s'):SP X pins D f s':=by
 cases f with
 |next=>obtain⟨a,b,I,q⟩:=h;exact⟨a,b,I.gP,q⟩
 |brk=>obtain⟨a,b,I,q⟩:=h;exact⟨a,b,I.gP,q⟩
 |cont=>obtain⟨a,b,I,q⟩:=h;exact⟨a,b,I.gP,q⟩
 |ret u=>obtain⟨v,a,b,I,r,q⟩:=h;exact⟨v,a,b,I.gP,r,q⟩
theorem sN.jS{st:List Stmt}{t:TS}(h:sN X.jS st t):sN X st t:=λpins s σ H D I a=>dn (h pins s σ H D (I.oR _) a) (λ_ _ q=>q.gP) λ_ _ z=>Ew z
end
section
variable{X:Cx}{st:Stmt}{rest:List Stmt}{t u:TS}{e:Expr}{te:TE}{pos:Pos}
noncomputable def UK:TS:=λD a H=>D.nx a H
noncomputable def Yu(t u:TS):TS:=λD a H=>t {D with nx:=u D} a H
theorem Kd:sN X [] UK:=λ_ _ a H _ I h=>qr ⟨a,H,I,h⟩
theorem cu(i:PS X st t)(g:sN X rest u):sN X (st::rest) (Yu t u):=by
 intro a s c H D I h;refine wpAny_execs_cons (cI (i a s c H {D with nx:=u D} I h) λf d q=>?_);cases f with
 |next=>obtain⟨b,k,j,q⟩:=q;exact g a d b k D j q
 |ret v=>exact q
 |brk=>exact q
 |cont=>exact q
theorem jT(c:PS X st t):sN X [st] t:=by
 intro a s b H D I h;refine wpAny_execs_cons (cI (c a s b H D I h) λf d q=>?_);cases f with
 |next=>exact qr q
 |ret v=>exact q
 |brk=>exact q
 |cont=>exact q
noncomputable def Pj:TS:=λD a H=>D.bk a H
theorem Fq:PS X (.Break pos) Pj:=λ_ _ a H _ I h=>wpAny_Break ⟨a,H,I,h⟩
theorem Inv.quiet{a:List (Addr×Obj)}{b:St}{H:Hp}{s:Shared}(I:Inv X a b H s):interactive X.env=false:=by simp[interactive,I.ok.kind]
noncomputable def xU(te:TE):TS:=λD a H=>te a H λ_ b=>D.nx a b
theorem lP(f:PE X e te)(d:swapsWith e none pos.line X.env=pure false:=by rfl):PS X (.Expr e pos) (xU te):=by intro a s b H D I h;exact wpAny_Expr_any (cI (f a s b H _ I h) λv i ⟨x,g,I1,j,c⟩=>⟨b,g,I1,c⟩) I.quiet d
noncomputable def Yv(te:TE):TS:=λD a H=>te a H D.rt
theorem ny(f:PE X e te):PS X (.Return (some e) pos) (Yv te):=by intro a s b H D I h;exact wpAny_Return_some (cI (f a s b H _ I h) λv i ⟨x,g,I1,c,d⟩=>⟨x,b,g,I1,c,d⟩)
noncomputable def UL:TS:=λD _ H=>D.rt .aW H
theorem Bx:PS X (.Return none pos) UL:=λ_ _ a H _ I h=>wpAny_Return_none ⟨.aW,a,H,I,rfl,h⟩
noncomputable def Yw(c:TT)(t u:TS):TS:=λD a H=>c a H λb d=>if b=true then t D a d else u D a d
theorem UM{c:Expr}{a b:List Stmt}{tc:TT}(l:PT X c tc)(n:sN X a t)(m:sN X b u):PS X (.If c a b pos) (Yw tc t u):=by
 intro f s g H D I h;refine wpAny_If (cI (l f s g H _ I h) λd i ⟨k,I1,j⟩=>?_);cases d with
 |true=>exact n f i g k D I1 j
 |false=>exact m f i g k D I1 j
end
abbrev TG:=V->St->Hp->(St->Hp->Prop)->Prop
abbrev NV:=List V->St->Hp->(St->Hp->Prop)->Prop
noncomputable def PG(X:Cx)(a:Expr)(t:TG):Prop:=
 ∀(b:List (Addr×Obj))(s:Shared)(d:St)(H:Hp)(v:V)(u:Value)(Q:St->Hp->Prop),Inv X b d H s->RelV v u->t v d H Q->
  wpAny (model X.prog X.w) X.A (assign a X.env u) (λ_ f=>∃c e,Inv X b c e f/\Q c e) X.xe s
noncomputable def UN(X:Cx)(g:List Expr)(t:NV):Prop:=
 ∀(a:List (Addr×Obj))(s:Shared)(c:St)(H:Hp)(d:List V)(e:List Value)(Q:St->Hp->Prop),Inv X a c H s->Vals d e->t d c H Q->
  wpAny (model X.prog X.w) X.A (assignInOrder ((assignEach g X.env).map (·.2)) e) (λ_ h=>∃b f,Inv X a b f h/\Q b f) X.xe s
abbrev Pk:=V->V->V->Hp->(Hp->Prop)->Prop
noncomputable def UO(X:Cx)(t:Pk):Prop:=
 ∀(a:List (Addr×Obj))(s:Shared)(b:St)(H:Hp)(o i v:V)(c d u:Value)(Q:Hp->Prop),Inv X a b H s->RelV o c->RelV i d->RelV v u->t o i v H Q->
  wpAny (model X.prog X.w) X.A (setItem c d u) (λ_ f=>∃e,Inv X a b e f/\Q e) X.xe s
section
variable{X:Cx}{pos:Pos}
noncomputable def gJ(i:Nat):TG:=λv a H Q=>Q (a.set i (some v)) H
theorem By{i:Nat}{x:Str}(e:X.N.Nodup)(c:X.N[i]?=some x)(b:Loc X.env.scope x)(d:X.fn x=true\/X.env.scope.names.lookup x=some .local:=by first|exact .inl rfl|exact .inr rfl|assumption):PG X (.Name x pos) (gJ i):=by intro a s g H v u Q I r h;exact wpAny_assign_Name (eW I e c b r (λj f=>⟨_,H,f,h⟩) d)
noncomputable def UP:NV:=λb a H Q=>b=[]/\Q a H
noncomputable def NW(t:TG)(u:NV):NV:=λc b H Q=>∃v r,c=v::r/\t v b H λa d=>u r a d Q
theorem Ke:UN X [] UP:=by intro a s b H c d Q I r h;obtain⟨e,h⟩:=h;subst e;cases r;exact assignInOrder_nil ⟨b,H,I,h⟩
theorem Ft{e:Expr}{es:List Expr}{t:TG}{u:NV}(j:PG X e t)(i:UN X es u)
 (g:(assignEach (e::es) X.env).map (·.2)=assign e X.env::(assignEach es X.env).map (·.2):=by rfl):UN X (e::es) (NW t u):=by
 intro a s c H m o Q I r h;obtain⟨v,n,k,h⟩:=h;subst k;cases r with
 |cons r rr=>rw[g];refine kz (cI (j a s c H _ _ _ I r h) λ_ d ⟨b,l,I1,f⟩=>?_);exact i a d b l _ _ Q I1 rr f
noncomputable def Pn(K:Frag)(n:Nat)(t:NV):TG:=λv c H Q=>∃a b,v=.ref a/\kL K H a b/\b.length=n/\t b c H Q
theorem Po{es:List Expr}{k:Nat}{t:NV}{n:Nat}(x:X.calm=true)(h:UN X es t)
 (q:(assignEach es X.env).length=n:=by rfl)(f:(assignEach es X.env).findIdx? (·.1)=none:=by rfl):PG X (.Tuple es k pos) (Pn X.K n t):=by
 intro c s g H v u Q I r d;obtain⟨a,i,z,p,w,d⟩:=d;subst z;cases r;obtain⟨j,rv,m,hz⟩:=I.tuple p;refine assign_Tuple_tuple (I.ok.hd x) m (by simp[q,<-w,rv.length]) f λy l=>?_;have I1:Inv X c g H {s with heap:=y}:=I.kept (t':=s.toks) λb o e=>l b o (Os (GT e)) e;exact h c _ g H i _ Q I1 (by simpa using rv) d
noncomputable def UQ(b ti:TE)(t:Pk):TG:=λv a H Q=>b a H λo e=>ti a e λi d=>t o i v d λc=>Q a c
theorem Pp{o i:Expr}{e ti:TE}{t:Pk}(q:PE X o e)(w:PE X i ti)(p:UO X t)
 (z:∀v,assign (.Subscript o i pos) X.env v=(do
   let b<-holding [v] (eval o X.env)
   let c<-holding [v,b] (eval i X.env)
   standAt pos
   holding [v,b,c] (setItem b c v)
   release [v,b,c] []):=by intro _;rfl):PG X (.Subscript o i pos) (UQ e ti t):=by
 intro a s d H v u Q I r h;rw[z];refine KB (wpAny_holding (cI (q a s d H _ I h) λb g ⟨x,E,I1,k,n⟩=>?_));refine KB (wpAny_holding (cI (w a g d E _ I1 n) λc f ⟨y,D,B,j,m⟩=>?_));refine KB (yA (KB (wpAny_holding (cI (p a f d D x y v b c u _ B k j r m) λ_ F ⟨C,A,l⟩=>?_))));exact wpAny_release ⟨d,C,A,l⟩
noncomputable def qm(te:TE)(g:TG):TS:=λD a H=>te a H λx b=>g x a b D.nx
theorem Fv{tg e:Expr}{te:TE}{g:TG}(l:PE X e te)(k:PG X tg g)(j:swapsWithSole [tg] e pos.line X.env=pure false:=by rfl)(i:swappedStores [tg] e X.env=pure none:=by rfl)
 (m:(assignEach [tg] X.env).map (·.2)=[assign tg X.env]:=by rfl):PS X (.Assign [tg] e pos) (qm te g):=by
 intro a s b H D I h;refine wpAny_Assign_stores (cI (l a s b H _ I h) λv c ⟨x,n,I1,d,f⟩=>?_) j i;rw[m];exact cI (k a c b n x v _ I1 d f) λ_ o q=>q
theorem iO{i:Nat}{x:Str}{e:Expr}{te:TE}{a:Pos}(n:X.N.Nodup)(k:X.N[i]?=some x)(g:Loc X.env.scope x)(m:PE X e te)(j:swapsWith e (some (.Name x a)) pos.line X.env=pure false:=by rfl)(l:X.fn x=true\/X.env.scope.names.lookup x=some .local:=by first|exact .inl rfl|exact .inr rfl|assumption):
 PS X (.Assign [.Name x a] e pos) (qm te (gJ i)):=by
 intro b s c H D I h;refine wpAny_Assign_Name (cI (m b s c H _ I h) λv r ⟨y,p,I1,d,f⟩=>?_) j;exact eW I1 n k g d (λq o=>⟨_,p,o,f⟩) l
noncomputable def Yx(i j:Nat)(ta:TA):TS:=λD a H=>ta a H λb c=>∃v w,b=[v,w]/\D.nx ((a.set i (some v)).set j (some w)) c
theorem Pu{i j:Nat}{x y:Str}{a b:Expr}{ta:TA}{n m r:Pos}{t k2 B}(U:X.calm=true)(G:X.N.Nodup)(T:X.N[i]?=some x)(S:X.N[j]?=some y)(z:i≠j)
 (F:X.env.scope.names.lookup x=some .local)(E:X.env.scope.names.lookup y=some .local)(Y:PA X [a,b] ta)
 (Q:swappedStores [.Tuple [.Name x n,.Name y m] t r] (.Tuple [a,b] k2 B) X.env=pure (some [x,y]))
 (R:swapsWithSole [.Tuple [.Name x n,.Name y m] t r] (.Tuple [a,b] k2 B) pos.line X.env=pure false:=by rfl):
 PS X (.Assign [.Tuple [.Name x n,.Name y m] t r] (.Tuple [a,b] k2 B) pos) (Yx i j ta):=by
 intro c s C H D I h;rw[exec_Assign_arm];refine KB (yA ?_);rw[R];refine KB (Qb ?_);rw[Bn (by decide)];refine KB (Tuple_ (cI (Y _ c s C H _ I h) λL g ⟨vs,K,I1,M,l⟩=>?_));obtain⟨v,w,Z,l⟩:=l;subst Z;obtain⟨f,d,rfl,rv,k⟩:∃f d,L=[f,d]/\RelV v f/\RelV w d:=by
  cases M with
  |cons p q=>
   cases q with
   |cons P O=>
    cases O;exact⟨_,_,rfl,p,P⟩
 refine wpAny_newObj_type ?_ (by show 2<=sizeLine;decide);have I2:Inv X c C K {g with heap:=g.heap.push {cls:=.type "tuple",data:=.seq [f,d].toArray}}:=I1.kept (t':=g.toks) λb o e=>Fk _ e;rw[Q];refine KB (Qb ?_);show wpAny (model X.prog X.w) X.A (do rule "assign.swapped-stores";let items<-unpackItems (.ref g.heap.objs.size) 2 none;assignInOrder [λv=>bindName X.env y v,λv=>bindName X.env x v] items.reverse;pure Flow.next) _ _ _;refine KB (wpAny_rule (KB (unpackItems_tuple (items:= #[f,d]) (I.ok.hd U) (IsTup.new g.heap _) λh' u=>?_)));have I3:=I2.kept (h':=h') (t':=g.toks) λb o e=>u b o (Os (GT e)) e;show wpAny _ _ (assignInOrder [λv=>bindName X.env y v,λv=>bindName X.env x v] [d,f]>>=λ_=>pure Flow.next) _ _ _;refine KB (kz (wy (eW I3 G S (.inl E) k (λs2 I4=>?_) (.inr E))));refine kz (wy (eW I4 G T (.inl F) rv (λs3 J=>assignInOrder_nil (Qb ?_)) (.inr F)));rw[lh _ _ (T2 z)]at J;exact⟨_,K,J,l⟩
noncomputable def Pw(c:TT)(h:TS):TS:=λD a H=>∃W:Nat->St->Hp->Prop,(∃m,W m a H)/\∀m a H,W m a H->
 c a H λb f=>if b=true then∃N:St->Hp->Prop,(∀d g,N d g->∃e,e<m/\W e d g)/\h {D with nx:=N,ct:=N,bk:=D.nx} a f else D.nx a f
theorem Fw{c:Expr}{g:List Stmt}{tc:TT}{u:TS}(x:PassesOwn (model X.prog X.w) X.A X.env X.xe)(P:PT X c tc)(Q:sN X g u):PS X (.While c g [] pos) (Pw tc u):=by
 intro d s F H D I h;obtain⟨W,⟨O,J⟩,j⟩:=h;refine wpAny_While (codeAny_whileLoop (λn M=>∃i E,Inv X d i E M/\W n i E) ?_ O ⟨F,H,I,J⟩);rintro n L ⟨e,C,I1,G⟩;refine kS x (cI (P d L e C _ I1 (j n e C G)) λb K ⟨B,z,m⟩=>?_);cases b with
 |true=>
  obtain⟨N,y,m⟩:=m;rw[Bz rfl];refine kS x (cI (Q d K e B _ z m) λf R l=>?_);cases f with
  |next=>obtain⟨a,k,t,p⟩:=l;obtain⟨q,r,o⟩:=y a k p;exact⟨q,r,a,k,t,o⟩
  |cont=>obtain⟨a,k,t,p⟩:=l;obtain⟨q,r,o⟩:=y a k p;exact⟨q,r,a,k,t,o⟩
  |brk=>exact l
  |ret v=>exact l
 |false=>rw[Bn Mo];exact qr ⟨e,B,z,m⟩
end
set_option genInjectivity false in
set_option genSizeOf false in
structure It where
 go:Nat->Hp->Prop
 TL:Nat->Hp->V->Hp->Prop
 stop:Nat->Hp->Prop
noncomputable def qo(X:Cx)(a:List (Addr×Obj))(H:Hp)(b:Addr):Prop:=
 H b=none/\b≠X.env.locals/\b∉X.fs/\(b∈X.ex\/X.s₀.heap.objs.size<=b)/\(∀x c,X.env.cells.lookup x=some c->c≠b)/\∀p∈X.pn++a,p.1≠b
theorem Inv.zN{X:Cx}{a:List (Addr×Obj)}{f:St}{H H':Hp}{s:Shared}{b:Addr}(I:Inv X a f H s)(d:s.heap.objs.size<=b)(h:H' b=none):qo X a H' b:=by
 refine⟨h,V5 (FV I.lt d),I.Yn d,.inr (DL I.sz d),λx c e z=>?_,λp g z=>?_⟩
 .obtain⟨v,q⟩:=I.cell x c e;exact absurd (FV q.lt (by rw[z];exact d)) (OF _)
 .exact absurd (FV (GT (I.pin p g).1) (by rw[z];exact d)) (OF _)
structure Turn(P:Program)(w:World)(K:Frag)(tg:Expr)(J:It)(fp:List Addr)(it:Addr)(tn:Nat->Heap->Prop):Prop where
 mem:it∈fp
 obj:∀i h,tn i h->∀b∈fp,∃o,h.get? b=some o/\∀v,o.data≠.cell v
 keep:∀i h h',tn i h->(∀b∈fp,∀o,h.get? b=some o->h'.get? b=some o)->tn i h'
 item:∀(X:Cx),X.prog=P->X.w=w->X.K=K->X.calm=true->∀(i:Nat)(pins:List (Addr×Obj))(s:Shared)(σ:St)(H:Hp)(E:Value->Shared->Prop),Inv X pins σ H s->(∀b∈fp,qo X pins H b)->tn i s.heap->J.go i H->
  wpAny (model P w) X.A (pyNext (.ref it)) (λr s1=>∃u,r=some u/\
   wpAny (model P w) X.A (letOwnedTupleGo tg (.ref it) u) (λ_ s2=>∃x H',Inv X pins σ H' s2/\RelV x u/\J.TL i H x H'/\tn (i+1) s2.heap/\∀b∈fp,H' b=none) E s1) E s
 done:∀(X:Cx),X.prog=P->X.w=w->X.K=K->X.calm=true->∀(i:Nat)(pins:List (Addr×Obj))(s:Shared)(σ:St)(H:Hp)(E:Value->Shared->Prop),Inv X pins σ H s->(∀b∈fp,qo X pins H b)->tn i s.heap->J.stop i H->
  wpAny (model P w) X.A (pyNext (.ref it)) (λr s1=>r=none/\Inv X pins σ H s1) E s
 self:∀(A:Around)(i:Nat)(s:Shared)(Q:Value->Shared->Prop)(E:Value->Shared->Prop),tn i s.heap->Q (.ref it) s->wpAny (model P w) A (pyIter (.ref it)) Q E s
abbrev TI:=St->Hp->(It->Hp->Prop)->Prop
noncomputable def Yy(X:Cx)(a:List (Addr×Obj))(i:St)(tg:Expr)(R:It->Hp->Prop)(c:Value)(f:Shared):Prop:=
 ∃(g:Addr)(h:List Addr)(e:Nat->Heap->Prop)(J:It)(d:Hp),c=.ref g/\Inv X a i d f/\Turn X.prog X.w X.K tg J h g e/\e 0 f.heap/\(∀b∈h,qo X a d b)/\R J d
noncomputable def PI(X:Cx)(tg b:Expr)(d:TI):Prop:=
 ∀(a:List (Addr×Obj))(s:Shared)(c:St)(H:Hp)(R:It->Hp->Prop),Inv X a c H s->d c H R->
  wpAny (model X.prog X.w) X.A (eval b X.env) (λv e=>wpAny (model X.prog X.w) X.A (pyIter v) (Yy X a c tg R) X.xe e) X.xe s
theorem BA{M:Model}{A:Around}{E:Value->Shared->Prop}{s:Shared}{tg:Expr}{b:Addr}{u:Value}{o:Obj}{n:String}{vs:Array Value}{Q:Unit->Shared->Prop}(c:s.heap.get? b=some o)(f:o.cls=.type n)(e:o.data=.fields vs)
 (d:["enumerate","zip","dict_itemiterator","dict_reverseitemiterator","odict_iterator","itertools.zip_longest","itertools.pairwise"].contains n=false)(a:Q () s):wpAny M A (letOwnedTupleGo tg (.ref b) u) Q E s:=by
 unfold letOwnedTupleGo;cases tg<;>first
  |exact Qb a
  |(cases u<;>first
     |exact Qb a
     |(refine KB (wpAny_load c ?_)
       rw[f,e];show wpAny M A (if(["enumerate","zip","dict_itemiterator","dict_reverseitemiterator","odict_iterator","itertools.zip_longest","itertools.pairwise"].contains n&&vs[0]?==some (rawInt _))=true then _ else _) Q E s;rw[Bn (by intro h;rw[d,Bool.false_and]at h;cases h)];exact Qb a))
noncomputable def XJ(K:Frag)(a:Addr):It:=
 ⟨λi H=>∃b x,iN K H a b/\b[i]?=some x,λi H x c=>c=H/\∀b,iN K H a b->b[i]?=some x,λi H=>∃b,iN K H a b/\b.length<=i⟩
noncomputable def Yz(K:Frag)(a:Addr):It:=
 ⟨λi H=>∃b x,kL K H a b/\b[i]?=some x,λi H x c=>c=H/\∀b,kL K H a b->b[i]?=some x,λi H=>∃b,kL K H a b/\b.length<=i⟩
noncomputable def NX(a:Int)(n:Nat):It:=⟨λi _=>i<n,λi H x b=>b=H/\x=.int (a+i),λi _=>n<=i⟩
theorem ud{P:Program}{w:World}{K:Frag}{tg:Expr}(a j:Addr):Turn P w K tg (XJ K a) [j] j (λi h=>h.IsListIter j a i)where
 mem:=by simp
 obj:=λi h f b l=>by
  have e:b=j:=by simpa using l
  subst e;obtain⟨o,e,c,d⟩:=f;exact⟨o,e,λv z=>by rw[d]at z;cases z⟩
 keep:=λi h r f k=>f.at λo e=>k j (by simp) o e
 item:=by intro X C A D O i g s N H E I q f B;subst C A D;obtain⟨Q,x,n,y⟩:=B;obtain⟨t,rv,p,hz⟩:=I.list n;obtain⟨u,U,S⟩:=rv.get y;obtain⟨M,L,Y,J,G,F⟩:=q j (by simp);refine wpAny_pyNext_list_item f p.isList (x:=u) (by simpa using U) λr m R=>?_;have I1:Inv X g N H {s with heap:=r}:=I.turned (t':=s.toks) (λb o l e=>(R.2 b l).trans e) M L J G F;obtain⟨o,e,c,d⟩:=id m;exact⟨u,rfl,BA (s:={s with heap:=r}) e c d (by decide) ⟨x,H,I1,S,⟨rfl,λys T=>by rw[I.xT T n];exact y⟩,m,λb l=>(q b l).1⟩⟩
 done:=by intro X C A D O i g s N H E I q f B;subst C A D;obtain⟨Q,n,y⟩:=B;obtain⟨t,rv,p,hz⟩:=I.list n;obtain⟨M,L,Y,J,G,F⟩:=q j (by simp);have hl:=rv.length;exact wpAny_pyNext_list_end (I.ok.hd O) f p.isList (by simp;lia) λr Z=>⟨rfl,I.turned (t':=s.toks) (λb o l e=>Z b o l e) M L J G F⟩
 self:=λ_ _ _ _ _ f h=>wpAny_pyIter_listiter f h
theorem zO{P:Program}{w:World}{K:Frag}{tg:Expr}(a l:Addr):Turn P w K tg (Yz K a) [l] l (λi h=>h.IsTupleIter l a i)where
 mem:=by simp
 obj:=λi h f b m=>by
  have e:b=l:=by simpa using m
  subst e;obtain⟨o,e,c,d⟩:=f;exact⟨o,e,λv z=>by rw[d]at z;cases z⟩
 keep:=λi h t f k=>f.at λo e=>k l (by simp) o e
 item:=by intro X C A D O i g s N H E I r f B;subst C A D;obtain⟨Q,x,q,y⟩:=B;obtain⟨j,rv,p,hz⟩:=I.tuple q;obtain⟨u,U,S⟩:=rv.get y;obtain⟨M,L,Y,J,G,F⟩:=r l (by simp);refine wpAny_pyNext_tuple_item f (show s.heap.IsTuple a j.toArray from p) (x:=u) (by simpa using U) λt n R=>?_;have I1:Inv X g N H {s with heap:=t}:=I.turned (t':=s.toks) (λb o m e=>(R.2 b m).trans e) M L J G F;obtain⟨o,e,c,d⟩:=id n;exact⟨u,rfl,BA (s:={s with heap:=t}) e c d (by decide) ⟨x,H,I1,S,⟨rfl,λys T=>by rw[I.Dp T q];exact y⟩,n,λb m=>(r b m).1⟩⟩
 done:=by intro X C A D O i g s N H E I r f B;subst C A D;obtain⟨Q,q,y⟩:=B;obtain⟨j,rv,p,hz⟩:=I.tuple q;obtain⟨M,L,Y,J,G,F⟩:=r l (by simp);have hl:=rv.length;exact wpAny_pyNext_tuple_end (I.ok.hd O) f (show s.heap.IsTuple a j.toArray from p) (by simp;lia) λt Z=>⟨rfl,I.turned (t':=s.toks) (λb o m e=>Z b o m e) M L J G F⟩
 self:=λ_ _ _ _ _ f h=>wpAny_pyIter_tupleiter f h
theorem zP{P:Program}{w:World}{K:Frag}{tg:Expr}(d:Addr)(j:Int)(n:Nat):Turn P w K tg (NX j n) [d] d (λi h=>IsRangeIter h d (j+(i:Nat)*1) ((n:Int) -(i:Nat)) 1)where
 mem:=by simp
 obj:=λi h a b f=>by
  have e:b=d:=by simpa using f
  subst e;exact⟨_,a,λv z=>by have J:Data.fields _=Data.cell v:=z;cases J⟩
 keep:=λi h m a k=>k d (by simp) _ a
 item:=by intro X u p x r i c s F H E I l a q;subst u p x;obtain⟨D,C,N,B,A,y⟩:=l d (by simp);have W:=Walks.range (prog:=X.prog) (w:=X.w) (I.ok.hd r) d j 1 n;refine W.item i s _ _ q a λv m G M g L=>?_;obtain⟨t,rfl⟩:=M;have I1:Inv X c F H {s with heap:=m,toks:=G}:=I.turned (λb o f e=>L b o (by simpa using f) e) D C B A y;refine⟨_,rfl,BA (s:={s with heap:=m,toks:=G}) (n:="range_iterator") g rfl rfl (by decide) ⟨.int (j+i),H,I1,⟨t,?_⟩,⟨rfl,rfl⟩,g,λb f=>(l b f).1⟩⟩;rw[i4]
 done:=by intro X u p x r i c s F H E I l a q;subst u p x;obtain⟨D,C,N,B,A,y⟩:=l d (by simp);exact wpAny_pyNext_range_end (I.ok.hd r) a (by have:n<=i:=q;lia) λm O=>⟨rfl,I.turned (t':=s.toks) (λb o f e=>O b o f e) D C B A y⟩
 self:=λ_ _ _ _ _ a h=>wpAny_pyIter_rangeiter a h
section
variable{X:Cx}{tg:Expr}
noncomputable def UR(K:Frag)(tl:TE):TI:=λc H R=>tl c H λx b=>∃a,x=.ref a/\(∃d,iN K b a d)/\R (XJ K a) b
theorem Kf{l:Expr}{tl:TE}(m:PE X l tl):PI X tg l (UR X.K tl):=by
 intro c s f H R I h;refine cI (m c s f H _ I h) λv d ⟨x,r,I1,g,i⟩=>?_;obtain⟨a,e,⟨t,k⟩,q⟩:=i;subst e;cases g;obtain⟨j,rv,p,hz⟩:=I1.list k;refine y2 p.isList ?_;refine⟨d.heap.objs.size,[d.heap.objs.size],_,_,r,rfl,I1.kept (t':=d.toks) λb o e=>Fk _ e,ud a _,⟨_,On _ rfl,rfl,rfl⟩,λb n=>?_,q⟩;have e:b=d.heap.objs.size:=by simpa using n
 subst e;exact I1.zN (Da _) (I1.hok.fresh (Da _))
theorem xV{d:List (Addr×Obj)}{f:St}{H:Hp}{s:Shared}{R:It->Hp->Prop}{E:Value->Shared->Prop}{a c:Int}{t u v:Tok}{g:Nat}(I:Inv X d f H s)(l: -(2^62)<=a)(k:a<2^62)(j: -(2^62)<=c)(i:c<2^62)
 (q:R (NX a (c -a).toNat) H):wpAny (model X.prog X.w) X.A (pyIter (.ref s.heap.objs.size)) (Yy X d f tg R) E {s with heap:=s.heap.push {cls:=.type "range",data:=.fields #[.int a t,.int c u,.int 1 v]},toks:=g}:=by
 refine wpAny_pyIter_range (IsRange.new ..) (small_one l k j i) ?_;have I1:Inv X d f H {s with heap:=s.heap.push {cls:=.type "range",data:=.fields #[.int a t,.int c u,.int 1 v]},toks:=g}:=I.kept λb o e=>Fk _ e;refine⟨(s.heap.push {cls:=.type "range",data:=.fields #[.int a t,.int c u,.int 1 v]}).objs.size,[(s.heap.push {cls:=.type "range",data:=.fields #[.int a t,.int c u,.int 1 v]}).objs.size],_,_,H,rfl,
  I1.kept (t':=g) λb o e=>Fk _ e,zP _ a (c -a).toNat,?_,λb h=>?_,q⟩
 .have n:a+((0:Nat):Int)*1=a:=by simp
  have m:(((c -a).toNat:Nat):Int) -((0:Nat):Int)=Builtin.Range.rangeSize a c 1:=by rw[rangeSize_one];split<;>lia
  show IsRangeIter _ _ (a+((0:Nat):Int)*1) ((((c -a).toNat:Nat):Int) -((0:Nat):Int)) 1;rw[n,m];exact On _ rfl
 .have e:b=(s.heap.push {cls:=.type "range",data:=.fields #[.int a t,.int c u,.int 1 v]}).objs.size:=by simpa using h
  subst e;exact I1.zN (Da _) (I1.hok.fresh (Da _))
noncomputable def US(ta:TA):TI:=λa H R=>ta a H λb c=>∃j:Int,b=[.int j]/\-(2^62)<=j/\j<2^62/\R (NX 0 j.toNat) c
noncomputable def UT(ta:TA):TI:=λa H R=>ta a H λb c=>∃i j:Int,b=[.int i,.int j]/\(-(2^62)<=i/\i<2^62/\-(2^62)<=j/\j<2^62)/\R (NX i (j -i).toNat) c
theorem ue{a:Expr}{ta:TA}{p pos:Pos}(l:Gl X "range")(k:X.mg "range"=none)(m:PA X [a] ta)(i:starEach [a] X.env=[(false,eval a X.env)]:=by rfl):PI X tg (.Call (.Name "range" p) [a] [] pos) (US ta):=by
 intro b s d H R I h;refine Call_ (kK I l k boot_range (d4 (cI (m pos b s d H _ I h) λo u ⟨n,v,I1,f,c⟩=>?_) i rfl));obtain⟨j,e,c,g,q⟩:=c;subst e;cases f with
 |cons r rr=>
  cases rr;obtain⟨t,rfl⟩:=r;exact call_range_1 (xV I1 (by lia) (by lia) c g (by simpa using q))
theorem Dq{a b:Expr}{ta:TA}{p pos:Pos}(w:Gl X "range")(v:X.mg "range"=none)(x:PA X [a,b] ta)(u:starEach [a,b] X.env=[(false,eval a X.env),(false,eval b X.env)]:=by rfl)(d:starEach [b] X.env=[(false,eval b X.env)]:=by rfl):
 PI X tg (.Call (.Name "range" p) [a,b] [] pos) (UT ta):=by
 intro c s g H R I h;refine Call_ (kK I w v boot_range (d4 (cI (x pos c s g H _ I h) λz B ⟨y,C,I1,k,f⟩=>?_) (by rw[u,d]) (by rw[d];rfl)));obtain⟨i,j,e,⟨f,o,n,m⟩,q⟩:=f;subst e;cases k with
 |cons r rr=>
  cases rr with
  |cons l rr=>
   cases rr;obtain⟨t,rfl⟩:=r;obtain⟨A,rfl⟩:=l;exact call_range_2 (xV I1 f o n m q)
noncomputable def YA(f:TI)(g:TG)(h:TS):TS:=λD a H=>f a H λJ k=>∃W:Nat->Nat->St->Hp->Prop,(∃m,W 0 m a k)/\∀i m a H,W i m a H->
 (J.stop i H/\D.nx a H)\/(J.go i H/\∃N:St->Hp->Prop,(∀b c,N b c->∃e,e<m/\W (i+1) e b c)/\∀x c,J.TL i H x c->g x a c λd j=>h {D with nx:=N,ct:=N,bk:=D.nx} d j)
noncomputable def qp(a:List Addr)(h:Heap):List (Addr×Obj):=a.filterMap λb=>(h.get? b).map λo=>(b,o)
theorem iP{a:List Addr}{h:Heap}{b:Addr}{o:Obj}(c:b∈a)(e:h.get? b=some o):(b,o)∈qp a h:=Sl.mpr ⟨b,c,by rw[e];rfl⟩
theorem Dr{a:List Addr}{h:Heap}{p:Addr×Obj}(c:p∈qp a h):p.1∈a/\h.get? p.1=some p.2:=by
 obtain⟨b,d,e⟩:=Sl.mp c;cases q:h.get? b with
 |none=>rw[q]at e;cases e
 |some o=>rw[q]at e;have f:(b,o)=p:=Kk e;subst f;exact⟨d,q⟩
theorem Inv.pinned{a:List (Addr×Obj)}{f:St}{H:Hp}{s:Shared}{c:List Addr}(I:Inv X a f H s)(k:∀b∈c,qo X a H b)(j:∀b∈c,∃o,s.heap.get? b=some o/\∀v,o.data≠.cell v):Inv X (a++qp c s.heap) f H s:=
 I.Bv λp i=>(Hb.mp i).elim (λz=>I.pin p (IR _ z)) λz=>by obtain⟨g,e⟩:=Dr z;obtain⟨n,m,l,_⟩:=k p.1 g;obtain⟨o,h,d⟩:=j p.1 g;rw[e]at h;cases h;exact⟨e,n,m,l,d⟩
theorem Inv.lS{a pl:List (Addr×Obj)}{b:St}{H:Hp}{s:Shared}(I:Inv X (a++pl) b H s):Inv X a b H s:=I.Bv λp c=>I.pin p (IR _ (QR _ c))
theorem Fx{k:Expr}{C:List Stmt}{wi:TI}{g:TG}{tb:TS}{pos:Pos}(M:PassesOwn (model X.prog X.w) X.A X.env X.xe)(hc:X.calm=true)(hi:PI X tg k wi)(hg:PG X tg g)(l:sN X C tb)
 (hs:∀x,foldedSetIterable k X.env x=pure x:=by intro _;rfl):PS X (.For tg k C [] pos) (YA wi g tb):=by
 intro a s σ H D I h;refine wpAny_For (cI (hi a s σ H _ I h) λv s1 h1=>cI h1 λitv s2 h2=>?_) hs;obtain⟨it,P,tn,J,H2,e,I2,T,S,f2,W,⟨m0,w0⟩,E⟩:=h2;subst e;have Px:∀{z:Hp},(∀b∈P,z b=none)->∀b∈P,qo X a z b:=λhn b l=>⟨hn b l,(f2 b l).2⟩;refine codeAny_forLoop_any (λn s'=>∃i j z,Inv X a j z s'/\tn i s'.heap/\(∀b∈P,z b=none)/\W i n j z) ?_ m0 ⟨0,σ,H2,I2,S,λb l=>(f2 b l).1,w0⟩;rintro n s3 ⟨i,c,Q,I3,K,O,w3⟩;rcases E i n c Q w3 with⟨F,qn⟩|⟨go,N,hN,G⟩
 .refine kS M (cI (T.done X rfl rfl rfl hc i a s3 c Q X.xe I3 (Px O) K F) λr s4 ⟨Y,I4⟩=>?_);subst Y;exact qr ⟨c,Q,I4,qn⟩
 .refine kS M (cI (T.item X rfl rfl rfl hc i a s3 c Q X.xe I3 (Px O) K go) λr s4 ⟨u,Y,h4⟩=>?_);subst Y;refine kS M (cI h4 λ_ s5 ⟨x,H5,I5,r5,y5,Z,XM⟩=>?_);have I5':=I5.pinned (Px XM) (T.obj _ _ Z);refine kS M (cI (hg _ s5 c H5 x u _ I5' r5 (G x H5 y5)) λ_ s6 ⟨R,H6,I6,q6⟩=>?_);refine kS M (cI (l _ s6 R H6 _ I6 q6) λf U B=>?_);have p:∀{y:St}{t:Hp},Inv X (a++qp P s5.heap) y t U->N y t->∃m,m<n/\∃i j z,Inv X a j z U/\tn i U.heap/\(∀b∈P,z b=none)/\W i m j z:=λ{y t} q L=>by obtain⟨m',hm,w7⟩:=hN y t L;refine⟨m',hm,i+1,y,t,q.lS,T.keep _ _ _ Z λb l o e=>(q.pin (b,o) (IR _ (IR _ (iP l e)))).1,λb l=>?_,w7⟩;obtain⟨o,e,d⟩:=T.obj _ _ Z b l;exact(q.pin (b,o) (IR _ (IR _ (iP l e)))).2.1
  cases f with
  |next=>obtain⟨y,t,q,L⟩:=B;exact p q L
  |cont=>obtain⟨y,t,q,L⟩:=B;exact p q L
  |brk=>obtain⟨y,t,q,B⟩:=B;exact⟨y,t,q.lS,B⟩
  |ret v=>obtain⟨x7,y,t,q,r7,B⟩:=B;exact⟨x7,y,t,q.lS,r7,B⟩
end
abbrev R2:=V->V->Hp->VK->Prop
noncomputable def kM(X:Cx)(f:Value->Value->Sem Value)(r:R2):Prop:=
 ∀(a:List (Addr×Obj))(s:Shared)(b:St)(H:Hp)(x y:V)(v u:Value)(Q:VK),Inv X a b H s->RelV x v->RelV y u->r x y H Q->
  wpAny (model X.prog X.w) X.A (f v u) (EP X a b Q) X.xe s
noncomputable def YB(X:Cx)(f:Value->Sem Value)(r:V->Hp->VK->Prop):Prop:=
 ∀(a:List (Addr×Obj))(s:Shared)(b:St)(H:Hp)(x:V)(v:Value)(Q:VK),Inv X a b H s->RelV x v->r x H Q->
  wpAny (model X.prog X.w) X.A (f v) (EP X a b Q) X.xe s
noncomputable def dG(X:Cx)(f:Value)(r:List V->Hp->VK->Prop):Prop:=
 ∀(a:List (Addr×Obj))(s:Shared)(b:St)(H:Hp)(c:List V)(d:List Value)(Q:VK),Inv X a b H s->Vals c d->r c H Q->
  wpAny (model X.prog X.w) X.A (call f d) (EP X a b Q) X.xe s
noncomputable def YC(r:R2)(ta b:TE):TE:=λa H Q=>ta a H λx d=>b a d λy c=>r x y c Q
noncomputable def tUn(r:V->Hp->VK->Prop)(ta:TE):TE:=λa H Q=>ta a H λx b=>r x b Q
noncomputable def rI(C:Int->Int->Prop)(g:Int->Int->V):R2:=λx y H Q=>∃i j,x=.int i/\y=.int j/\C i j/\Q (g i j) H
noncomputable def Kg(g:Int->Int->V):R2:=λx y H Q=>∃i j,x=.int i/\y=.int j/\Q (g i j) H
noncomputable def rU(g:Int->V):V->Hp->VK->Prop:=λx H Q=>∃i,x=.int i/\Q (g i) H
section
variable{X:Cx}{a b c:Expr}{ta tb tc:TE}{pos:Pos}
theorem Py(t:PE X a ta)(r:PE X b tb){d:List (Addr×Obj)}{s:Shared}{e:St}{H:Hp}{R:V->V->Hp->Prop}(I:Inv X d e H s)
 (h:ta e H λx H1=>tb e H1 λy g=>R x y g){Q:Value->Shared->Prop}{f:Value->Value->Sem Value}
 (q:∀v u k x y g,Inv X d e g k->RelV x v->RelV y u->R x y g->wpAny (model X.prog X.w) X.A (f v u) Q X.xe k):
 wpAny (model X.prog X.w) X.A (eval a X.env) (λv j=>wpAny (model X.prog X.w) X.A (eval b X.env) (λu i=>wpAny (model X.prog X.w) X.A (f v u) Q X.xe i) X.xe j) X.xe s:=by
 refine cI (t d s e H _ I h) λv l ⟨x,H1,I1,n,p⟩=>?_;refine cI (r d l e H1 _ I1 p) λu k ⟨y,g,z,m,o⟩=>?_;exact q v u k x y g z n m o
theorem UU{op:Operator}{r:R2}(j:kM X (binaryOp op) r)(l:PE X a ta)(k:PE X b tb):PE X (.BinOp a op b pos) (YC r ta tb):=by intro d s e H Q I h;exact wpAny_BinOp (Py l k I h λv u f x y n m i g q=>j d f e n x y v u Q m i g q)
theorem UW{op:UnaryOp}{r:V->Hp->VK->Prop}(j:YB X (unaryOp op) r)(k:PE X a ta):PE X (.UnaryOp op a pos) (tUn r ta):=by intro d s e H Q I h;exact UnaryOp_ (cI (k d s e H _ I h) λv f ⟨x,l,I1,g,i⟩=>j d f e l x v Q I1 g i)
theorem UX{f:Value->Value->Sem Value}{C:Int->Int->Prop}{g:Int->Int->Int}
 (d:∀(i j:Int)(t u:Tok)(s:Shared)(Q:Value->Shared->Prop)(E:Value->Shared->Prop),C i j->Q (.int (g i j) s.toks) {s with toks:=s.toks+1}->wpAny (model X.prog X.w) X.A (f (.int i t) (.int j u)) Q E s):
 kM X f (rI C λi j=>.int (g i j)):=by
 intro e s o H x y v u Q I m l h;obtain⟨i,j,rfl,rfl,n,q⟩:=h;obtain⟨t,rfl⟩:=m;obtain⟨k,rfl⟩:=l;exact d i j t k s _ _ n ⟨.int (g i j),H,I.tok _,⟨_,rfl⟩,q⟩
theorem UY{f:Value->Value->Sem Value}{g:Int->Int->Int}
 (d:∀(i j:Int)(t u:Tok)(s:Shared)(Q:Value->Shared->Prop)(E:Value->Shared->Prop),Q (.int (g i j) s.toks) {s with toks:=s.toks+1}->wpAny (model X.prog X.w) X.A (f (.int i t) (.int j u)) Q E s):
 kM X f (Kg λi j=>.int (g i j)):=by
 intro e s n H x y v u Q I m l h;obtain⟨i,j,rfl,rfl,q⟩:=h;obtain⟨t,rfl⟩:=m;obtain⟨k,rfl⟩:=l;exact d i j t k s _ _ ⟨.int (g i j),H,I.tok _,⟨_,rfl⟩,q⟩
theorem Kh{f:Value->Value->Sem Value}{g:Int->Int->Bool}
 (d:∀(i j:Int)(t u:Tok)(s:Shared)(Q:Value->Shared->Prop)(E:Value->Shared->Prop),Q (.bool (g i j)) s->wpAny (model X.prog X.w) X.A (f (.int i t) (.int j u)) Q E s):
 kM X f (Kg λi j=>.bl (g i j)):=by
 intro e s n H x y v u Q I m l h;obtain⟨i,j,rfl,rfl,q⟩:=h;obtain⟨t,rfl⟩:=m;obtain⟨k,rfl⟩:=l;exact d i j t k s _ _ ⟨.bl (g i j),H,I,rfl,q⟩
noncomputable def sR(i j:Int):Prop:=0<=j/\j<=1000000/\i.natAbs<2^64
theorem zQ(k:Nat):(0:Int)<=2^k:=by rw[two_pow_cast];exact UC _
theorem Pz:kM X (binaryOp .Add) (Kg λi j=>.int (i+j)):=UY λ_ _ _ _ _ _ _ q=>add_int q
theorem PB:kM X (binaryOp .Sub) (Kg λi j=>.int (i -j)):=UY λ_ _ _ _ _ _ _ q=>sub_int q
theorem Kl:kM X (binaryOp .Mod) (rI (λ_ j=>j≠0) λi j=>.int (i.fmod j)):=UX λ_ _ _ _ _ _ _ d q=>mod_int' d q
theorem PC:kM X (binaryOp .Pow) (rI sR λi j=>.int (i^j.toNat)):=UX λ_ _ _ _ _ _ _ d q=>pow_int_small d.1 d.2.1 d.2.2 q
theorem PD:kM X (binaryOp .LShift) (rI sR λi j=>.int (i*2^j.toNat)):=UX λ_ _ _ _ _ _ _ d q=>lshift_int_small d.1 d.2.1 d.2.2 q
theorem PJ:kM X (binaryOp .RShift) (rI (λ_ j=>0<=j) λi j=>.int (i/2^j.toNat)):=UX λi j _ _ _ _ _ d q=>rshift_int d (by rw[du i (zQ _)];exact q)
theorem unI{f:Value->Sem Value}{g:Int->Int}
 (d:∀(i:Int)(t:Tok)(s:Shared)(Q:Value->Shared->Prop)(E:Value->Shared->Prop),Q (.int (g i) s.toks) {s with toks:=s.toks+1}->wpAny (model X.prog X.w) X.A (f (.int i t)) Q E s):
 YB X f (rU λi=>.int (g i)):=by
 intro e s k H x v Q I j h;obtain⟨i,rfl,q⟩:=h;obtain⟨t,rfl⟩:=j;exact d i t s _ _ ⟨.int (g i),H,I.tok _,⟨_,rfl⟩,q⟩
theorem PK:YB X (unaryOp .USub) (rU λi=>.int (-i)):=unI λ_ _ _ _ _ q=>neg_int q
end
noncomputable def PL:V->V->Bool
 |.aW,.aW=>true|.aW,.int _=>true|.int _,.aW=>true|.aW,.bl _=>true|.bl _,.aW=>true|.aW,.str _=>true|.str _,.aW=>true
 |.int _,.int _=>true|.bl _,.bl _=>true|.str _,.str _=>true|.EZ _,.EZ _=>true
 |.int _,.str _=>true|.str _,.int _=>true|.bl _,.str _=>true|.str _,.bl _=>true
 |_,_=>false
noncomputable def rEq:R2:=λx y H Q=>PL x y=true/\Q (.bl (decide (x=y))) H
noncomputable def rNe:R2:=λx y H Q=>PL x y=true/\Q (.bl (!decide (x=y))) H
theorem BB{i j:Int}:decide (V.int i=V.int j)=(i==j):=by rw[ma];simp
theorem FA{i j:Bool}:decide (V.bl i=V.bl j)=(i==j):=by rw[ma];simp
theorem BC{i j:Str}:decide (V.str i=V.str j)=(i==j):=by rw[ma];simp
theorem BD{i j:Array UInt8}:decide (V.EZ i=V.EZ j)=(i.toList==j.toList):=by rw[ma];cases i;cases j;simp
section
variable{X:Cx}{a b c:Expr}{ta tb tc:TE}{pos:Pos}
theorem aS{d:List (Addr×Obj)}{f:St}{H:Hp}{s:Shared}{Q:VK}{k g:Bool}(I:Inv X d f H s)(q:Q (.bl k) H)(e:k=g):EP X d f Q (.bool g) s:=by subst e;exact⟨.bl k,H,I,rfl,q⟩
theorem NY:kM X (compareOp .Eq) rEq:=by
 intro k s l H x y v u Q I g d h;obtain⟨f,q⟩:=h;cases x with
 |aW=>
  cases g;cases y with
  |aW=>cases d;exact PySem.EqNone.eq_none_none (aS I q (by simp))
  |bl j=>cases d;exact PySem.EqNone.eq_none_bool (aS I q (by simp))
  |int j=>obtain⟨e,rfl⟩:=d;exact PySem.EqNone.eq_none_int (aS I q (by simp))
  |str j=>obtain⟨e,rfl⟩:=d;exact PySem.EqNone.eq_none_str (aS I q (by simp))
  |_=>exact absurd (show false=true from f) Mo
 |bl i=>
  cases g;cases y with
  |aW=>cases d;exact PySem.EqNone.eq_bool_none (aS I q (by simp))
  |bl j=>cases d;exact eq_bool (aS I q FA)
  |str j=>obtain⟨e,rfl⟩:=d;exact PySem.EqMixed.eq_bool_str (aS I q (by simp))
  |_=>exact absurd (show false=true from f) Mo
 |int i=>
  obtain⟨t,rfl⟩:=g;cases y with
  |aW=>cases d;exact PySem.EqNone.eq_int_none (aS I q (by simp))
  |int j=>obtain⟨e,rfl⟩:=d;exact eq_int (aS I q BB)
  |str j=>obtain⟨e,rfl⟩:=d;exact PySem.EqMixed.eq_int_str (aS I q (by simp))
  |_=>exact absurd (show false=true from f) Mo
 |str i=>
  obtain⟨t,rfl⟩:=g;cases y with
  |aW=>cases d;exact PySem.EqNone.eq_str_none (aS I q (by simp))
  |bl j=>cases d;exact PySem.EqMixed.eq_str_bool (aS I q (by simp))
  |int j=>obtain⟨e,rfl⟩:=d;exact PySem.EqMixed.eq_str_int (aS I q (by simp))
  |str j=>obtain⟨e,rfl⟩:=d;exact eq_str (aS I q BC)
  |_=>exact absurd (show false=true from f) Mo
 |EZ i=>
  obtain⟨t,rfl⟩:=g;cases y with
  |EZ j=>obtain⟨e,rfl⟩:=d;exact PySem.W.eq_bytes (aS I q BD)
  |_=>exact absurd (show false=true from f) Mo
 |_=>cases y<;>exact absurd (show false=true from f) Mo
theorem UZ:kM X (compareOp .NotEq) rNe:=by
 intro k s l H x y v u Q I g d h;obtain⟨f,q⟩:=h;cases x with
 |aW=>
  cases g;cases y with
  |aW=>cases d;exact PySem.EqNone.ne_none_none (aS I q (by simp))
  |bl j=>cases d;exact PySem.EqNone.ne_none_bool (aS I q (by simp))
  |int j=>obtain⟨e,rfl⟩:=d;exact PySem.EqNone.ne_none_int (aS I q (by simp))
  |str j=>obtain⟨e,rfl⟩:=d;exact PySem.EqNone.ne_none_str (aS I q (by simp))
  |_=>exact absurd (show false=true from f) Mo
 |bl i=>
  cases g;cases y with
  |aW=>cases d;exact PySem.EqNone.ne_bool_none (aS I q (by simp))
  |bl j=>cases d;exact ne_bool (aS I q (PQ not FA))
  |str j=>obtain⟨e,rfl⟩:=d;exact PySem.EqMixed.ne_bool_str (aS I q (by simp))
  |_=>exact absurd (show false=true from f) Mo
 |int i=>
  obtain⟨t,rfl⟩:=g;cases y with
  |aW=>cases d;exact PySem.EqNone.ne_int_none (aS I q (by simp))
  |int j=>obtain⟨e,rfl⟩:=d;exact ne_int (aS I q (PQ not BB))
  |str j=>obtain⟨e,rfl⟩:=d;exact PySem.EqMixed.ne_int_str (aS I q (by simp))
  |_=>exact absurd (show false=true from f) Mo
 |str i=>
  obtain⟨t,rfl⟩:=g;cases y with
  |aW=>cases d;exact PySem.EqNone.ne_str_none (aS I q (by simp))
  |bl j=>cases d;exact PySem.EqMixed.ne_str_bool (aS I q (by simp))
  |int j=>obtain⟨e,rfl⟩:=d;exact PySem.EqMixed.ne_str_int (aS I q (by simp))
  |str j=>obtain⟨e,rfl⟩:=d;exact ne_str (aS I q (PQ not BC))
  |_=>exact absurd (show false=true from f) Mo
 |EZ i=>
  obtain⟨t,rfl⟩:=g;cases y with
  |EZ j=>obtain⟨e,rfl⟩:=d;exact PySem.W.ne_bytes (aS I q (PQ not BD))
  |_=>exact absurd (show false=true from f) Mo
 |_=>cases y<;>exact absurd (show false=true from f) Mo
theorem U0:kM X (compareOp .Lt) (Kg λi j=>.bl (decide (i<j))):=Kh λ_ _ _ _ _ _ _ q=>lt_int q
theorem U1:kM X (compareOp .LtE) (Kg λi j=>.bl (decide (i<=j))):=Kh λ_ _ _ _ _ _ _ q=>le_int q
theorem U3:kM X (compareOp .Gt) (Kg λi j=>.bl (decide (j<i))):=Kh λ_ _ _ _ _ _ _ q=>gt_int q
theorem U4:kM X (compareOp .GtE) (Kg λi j=>.bl (decide (j<=i))):=Kh λ_ _ _ _ _ _ _ q=>ge_int q
theorem PM:kM X (compareOp .Is) (λx y H Q=>y=.aW/\Q (.bl (decide (x=.aW))) H):=by
 intro e s g H x y v u Q I d f h;obtain⟨rfl,q⟩:=h;cases f;refine is_none_gen (aS I q ?_);cases x<;>first
  |(cases d;rfl)
  |(obtain⟨t,rfl⟩:=d;rfl)
theorem BE:kM X (compareOp .IsNot) (λx y H Q=>y=.aW/\Q (.bl (!decide (x=.aW))) H):=by
 intro e s g H x y v u Q I d f h;obtain⟨rfl,q⟩:=h;cases f;refine isnot_none_gen (aS I q ?_);cases x<;>first
  |(cases d;rfl)
  |(obtain⟨t,rfl⟩:=d;rfl)
theorem uT(b:Expr){op:CmpOp}(h:op≠.In:=by decide)(d:op≠.NotIn:=by decide):behindInMarks op b=false:=by
 have f:(op==CmpOp.In)=false:=by cases op<;>first|rfl|exact absurd rfl h
 have e:(op==CmpOp.NotIn)=false:=by cases op<;>first|rfl|exact absurd rfl d
 cases b<;>simp[behindInMarks,f,e]
theorem uU{op:CmpOp}{r:R2}(j:kM X (compareOp op) r)(m:PE X a ta)(l:PE X b tb)(k:behindInMarks op b=false):PE X (.Compare a [op] [b] pos) (YC r ta tb):=by intro d s e H Q I h;exact wpAny_Compare1 (Py m l I h λv u f x y o n i g q=>j d f e o x y v u Q n i g q) k
theorem qt:(sizeLine:Nat)<2^63:=by rw[sizeLine_eq];decide
theorem zS:kM X (binaryOp .Add) (λx y H Q=>∃i j,x=.str i/\y=.str j/\i.length+j.length<=sizeLine/\Q (.str (i++j)) H):=by intro d s k H x y v u Q I g f h;obtain⟨i,j,rfl,rfl,hz,q⟩:=h;obtain⟨t,rfl⟩:=g;obtain⟨e,rfl⟩:=f;exact add_str (λe l=>⟨.str (i++j),H,I.tok _,⟨_,rfl⟩,q⟩) hz
theorem vals1{x:V}{us:List Value}(r:Vals [x] us):∃u,us=[u]/\RelV x u:=by
 cases r with
 |cons e d=>cases d;exact⟨_,rfl,e⟩
theorem vals2{x y:V}{us:List Value}(r:Vals [x,y] us):∃u w',us=[u,w']/\RelV x u/\RelV y w':=by
 cases r with
 |cons g f=>
  cases f with
  |cons e d=>cases d;exact⟨_,_,rfl,g,e⟩
theorem FD:dG X (.builtin "abs") (λd H Q=>∃i,d=[.int i]/\Q (.int (if i<0 then-i else i)) H):=by intro e s f H d g Q I r h;obtain⟨i,rfl,q⟩:=h;obtain⟨u,rfl,t,rfl⟩:=vals1 r;exact call_abs_int λu j=>⟨.int (if i<0 then-i else i),H,I.tok _,⟨_,rfl⟩,q⟩
theorem Ds(g:X.calm=true):dG X (.builtin "max") (λe H Q=>∃i j,e=[.int i,.int j]/\Q (.int (if j>i then j else i)) H):=by
 intro f s l H e n Q I r h;obtain⟨i,j,rfl,q⟩:=h;obtain⟨u,m,rfl,⟨t,rfl⟩,⟨p,rfl⟩⟩:=vals2 r;refine max_two_ints (I.ok.hd g) λv o k=>⟨_,H,I.kept k,?_,q⟩;by_cases d:j>i
 .rw[Bz d,Bz d];exact⟨_,rfl⟩
 .rw[Bn d,Bn d];exact⟨_,rfl⟩
theorem Dv(g:X.calm=true):dG X (.builtin "min") (λe H Q=>∃i j,e=[.int i,.int j]/\Q (.int (if j<i then j else i)) H):=by
 intro f s l H e n Q I r h;obtain⟨i,j,rfl,q⟩:=h;obtain⟨u,m,rfl,⟨t,rfl⟩,⟨p,rfl⟩⟩:=vals2 r;refine min_two_ints (I.ok.hd g) λv o k=>⟨_,H,I.kept k,?_,q⟩;by_cases d:j<i
 .rw[Bz d,Bz d];exact⟨_,rfl⟩
 .rw[Bn d,Bn d];exact⟨_,rfl⟩
theorem Dw:dG X (.type "int") (λd H Q=>(∃i,d=[.int i]/\Q (.int i) H)\/∃k,d=[.bl k]/\Q (.int (if k then 1 else 0)) H):=by
 intro e s g H d j Q I r h;rcases h with⟨i,rfl,q⟩|⟨k,rfl,q⟩
 .obtain⟨u,rfl,t,rfl⟩:=vals1 r;exact call_int_int ⟨.int i,H,I,⟨_,rfl⟩,q⟩
 .obtain⟨u,rfl,f⟩:=vals1 r;cases f;exact call_int_bool ⟨.int (if k then 1 else 0),H,I.tok _,⟨_,rfl⟩,q⟩
end
structure zU(h:Heap)(x dx C:Addr)(mA:Str->Option Value):Prop where
 obj:h.get? x=some (instObj C dx)
 ns:h.Ns1 dx mA
 ne:dx≠x
theorem Dz{h:Heap}{i:Addr}{f:Str->Option Value}(n:h.Ns1 i f):∃d,h.get? i=some d/\∀b,lookIn b d=some (f b):=by
 obtain⟨o,g,s,k,p,m,_,l⟩:=n;refine⟨o,k,λb=>?_⟩;have e:=l b;unfold nsFind findBy at e;rw[<-Array.find?_toList]at e;unfold lookIn;rw[p];dsimp only;split
 .rename_i y q
  rw[q]at e;exact PQ some e
 .rename_i q
  rw[q]at e;have a:g.toList.any (·.refKey)=false:=by rw[dq];intro y j;obtain⟨z,t,c⟩:=m y (Array.mem_toList_iff.mp j);simp[DictEntry.refKey,c]
  have r:¬g.toList.any (·.refKey)=true:=by rw[a];exact Mo
  rw[Bn r];exact PQ some e
theorem zU.look{h:Heap}{x d C:Addr}{c:Str->Option Value}(I:zU h x d C c):∃b,PySem.W.InstAt h x (instObj C d) C (some b)/\∀a,lookIn a b=some (c a):=
 let⟨b,ho,hl⟩:=Dz I.ns
 ⟨b,⟨I.obj,rfl,rfl,ho⟩,hl⟩
section
variable{prog:Program}{w:World}{A:Around}{E:Value->Shared->Prop}{s:Shared}{K:Frag}{x dx C f:Addr}{mA:Str->Option Value}{name:Str}{v:Value}
theorem get_map{a:Bool}{Q:Value->Shared->Prop}(X:K.In s.heap)(I:zU s.heap x dx C mA)(g:plainGet K C name=true)(e:hasDictIn K C=true)
 (i:findIn K (.ref C) name=some none)(c:mA name=some v)(b:PySem.W.handedIn v=true)(h:Q v {s with toks:=s.toks+1}):
 wpAny (model prog w) A (getAttr (.ref x) name a) Q E s:=by
 obtain⟨j,J,d⟩:=I.look;exact PySem.W.get_value X J (plainGet_of g).1 (PySem.W.findObj_own e i rfl (by rw[d,c])) b h
theorem FE{pl:Sem Bool}{Q:Value×List Value->Shared->Prop}(X:K.In s.heap)(I:zU s.heap x dx C mA)(a:plainGet K C name=true)
 (g:findIn K (.ref C) name=some (some (.ref f)))(d:isFn K (.ref f)=true)(c:mA name=none)(h:Q (.ref f,[.ref x]) s):
 wpAny (model prog w) A (getMethod (.ref x) name pl) Q E s:=by
 obtain⟨b,J,e⟩:=I.look;exact PySem.W.method_fn X J (plainGet_of a).1 (plainGet_of a).2 g (P3.mp d) (by show(lookIn name b).map (·.isSome)=some false;rw[e,c];rfl) h
theorem Km{ns:List Str}{Q:Unit->Shared->Prop}(X:K.In s.heap)(I:zU s.heap x dx C mA)
 (o:findIn K (.ref C) "__setattr__"=some (some (.builtin "object.__setattr__")))(p:plainOver K C=true)(m:takerIn K C name=some none)(q:hasDictIn K C=true)
 (l:PySem.Within mA ns)(n:ns.length<=sizeLine)
 (h:∀h',zU h' x dx C (λy=>if y=name then some v else mA y)->Heap.SameBut dx s.heap h'->Q () {s with heap:=h',toks:=s.toks+2}):
 wpAny (model prog w) A (setAttr (.ref x) name v) Q E s:=by
 obtain⟨B,J,F⟩:=I.look;refine PySem.W.set_plain X J o (PySem.W.osa_open (s:={s with toks:=s.toks+1}) (r:=none) X J p m λb=>?_);obtain⟨G,t,i⟩:=PySem.W.any_some q;have k:s.heap.get? x=some ⟨.ref C,some dx,.plain,#[]⟩:=I.obj;refine KB (Qb (KB (KB (wpAny_loadPart k (KB (PySem.W.Looks.here (s:={s with toks:=s.toks+1}) (PySem.W.looks_clsIn X t) ?_))))));rw[i];refine Qb (a:=some dx) (KB (Qb (KB ?_)));refine wpAny_nsSet1 (s:={s with toks:=s.toks+1}) I.ns λh' d c=>?_;obtain⟨D,u,z,e,g,j⟩:=d.count (PySem.Within.cons name v l);refine KB (wpAny_lookBehind e (by rw[g];exact pastItsLine_dict (DL j (by rw[CY];lia))) ?_);exact Qb (h _ ⟨(c.2 _ (T2 I.ne)).trans I.obj,d,I.ne⟩ c)
theorem FF{R:Result->Shared->Prop}{vs:List Value}{b:List (Str×Value)}(X:K.In s.heap)(c:makesIn K C=true)
 (e:findIn K (.ref C) "__init__"=some (some (.ref f)))(i:PySem.W.typeIn K (.ref f)=some (.type "function"))
 (h:codeAny (model prog w) (A.under (.builtin "type.__call__" ⟨.ref C::vs,b⟩)) (.call (.ref f) ⟨.ref (s.heap.objs.size+1)::vs,b⟩) (PySem.W.InitBack (s.heap.objs.size+1) R)
   {s with heap:=(s.heap.push emptyDict).push (instObj C s.heap.objs.size)}):
 codeAny (model prog w) A (.call (.ref C) ⟨vs,b⟩) R s:=by
 obtain⟨k,g,d,t,j⟩:=s;exact PySem.W.make_core (PySem.W.makes_of X c) (sk X e) (λa=>PySem.W.bind_fn X a i) (.inl rfl) h
end
noncomputable def iQ(f:Str)(v:V):List (Str×V)->List (Str×V)
 |[]=>[(f,v)]
 |(g,x)::r=>if g=f then(g,v)::r else(g,x)::iQ f v r
theorem oH(f g:Str)(v:V):∀c:List (Str×V),(iQ f v c).lookup g=if g=f then some v else c.lookup g
 |[]=>by
  show N5 g [(f,v)]=_;by_cases h:g=f
  .have a:(g==f)=true:=P3.mpr h;simp only[N5,a,Bz h]
  .have a:(g==f)=false:=ky.mpr h;simp only[N5,a,Bn h]
 |(k,x)::r=>by
  have d:=oH f g v r;rw[show iQ f v ((k,x)::r)=(if k=f then(k,v)::r else(k,x)::iQ f v r)from rfl];by_cases b:k=f
  .rw[Bz b];by_cases h:g=k
   .have a:(g==k)=true:=P3.mpr h;simp only[N5,a,Bz (h.trans b)]
   .have a:(g==k)=false:=ky.mpr h;simp only[N5,a,Bn (λe:g=f=>h (e.trans b.symm))]
  .rw[Bn b];by_cases h:g=k
   .have a:(g==k)=true:=P3.mpr h;simp only[N5,a,Bn (λe:g=f=>b (h.symm.trans e))]
   .have a:(g==k)=false:=ky.mpr h;simp only[N5,a];exact d
theorem nA(f:Str)(v:V):∀b:List (Str×V),f∈(iQ f v b).map (·.1)/\∀g,g∈b.map (·.1)->g∈(iQ f v b).map (·.1)
 |[]=>⟨by simp[iQ],λg h=>by simp at h⟩
 |(k,x)::r=>by
  obtain⟨d,c⟩:=nA f v r;rw[show iQ f v ((k,x)::r)=(if k=f then(k,v)::r else(k,x)::iQ f v r)from rfl];by_cases a:k=f
  .rw[Bz a];subst a;exact⟨by simp,λg h=>by simpa using h⟩
  .rw[Bn a];refine⟨?_,λg h=>?_⟩
   .rw[RF];exact Ee _ d
   .rw[RF]at h⊢;rcases Fn.mp h with e|e
    .exact Fn.mpr (.inl e)
    .exact Ee _ (c g e)
theorem oJ(f:Str)(v:V):∀b:List (Str×V),(iQ f v b).length<=b.length+1
 |[]=>by simp[iQ]
 |(k,x)::r=>by
  have ih:=oJ f v r;rw[show iQ f v ((k,x)::r)=(if k=f then(k,v)::r else(k,x)::iQ f v r)from rfl];by_cases a:k=f
  .rw[Bz a,CY,CY];lia
  .rw[Bn a,CY,CY];lia
theorem sQ.some_of{v:V}{o:Option Value}(r:sQ (some v) o):∃u,o=some u/\RelV v u:=by
 cases o with
 |none=>exact(show False from r).elim
 |some u=>exact⟨u,rfl,r⟩
theorem sQ.none_of{o:Option Value}(r:sQ none o):o=none:=by
 cases o with
 |none=>rfl
 |some u=>exact(show False from r).elim
theorem DA{v:V}{u:Value}(r:RelV v u):PySem.W.handedIn u=true:=by
 cases v with
 |aW=>cases(show u=Value.none from r);rfl
 |bl b=>cases(show u=Value.bool b from r);rfl
 |int i=>obtain⟨t,e⟩:=(show∃t,u=Value.int i t from r);cases e;rfl
 |str x=>obtain⟨t,e⟩:=(show∃t,u=Value.str x t from r);cases e;rfl
 |EZ b=>obtain⟨t,e⟩:=(show∃t,u=Value.bytes b t from r);cases e;rfl
 |Pa b=>obtain⟨t,e⟩:=(show∃t,u=Value.float b t from r);cases e;rfl
 |ref a=>cases(show u=Value.ref a from r);rfl
 |ty n=>cases(show u=Value.type n from r);rfl
section
variable{P:Program}{w:World}{H H':Hp}{h h':Heap}{a C dx:Addr}{fs fs':List (Str×V)}
theorem pI(c:lI P w H h)(e:H a=some (.ins C dx fs)):∃b,zU h a dx C b/\(∀f,sQ (fs.lookup f) (b f))/\PySem.Within b (fs.map (·.1))/\fs.length<=1000/\H dx=some (.own a):=by obtain⟨d,z,i,g,b,n,r,q⟩:=(show cH P w H h a (.ins C dx fs)from c a _ e);exact⟨b,⟨g,n,i⟩,r,q,z,d⟩
end
structure Kn(K:Frag)(C:Addr):Prop where
 pg:plainGet K C Str.empty=true
 hd:hasDictIn K C=true
 po:plainOver K C=true
 sa:findIn K (.ref C) "__setattr__"=some (some (.builtin "object.__setattr__"))
theorem Kn.get{K:Frag}{C:Addr}(c:Kn K C)(f:Str):plainGet K C f=true:=c.pg
noncomputable def kN(K:Frag)(C:Addr)(f:Str):Prop:=findIn K (.ref C) f=some none
theorem kN.U5{K:Frag}{C:Addr}{f:Str}(n:kN K C f):takerIn K C f=some none:=by unfold takerIn;rw[show findIn K (.ref C) f=some none from n];rfl
structure Meth(K:Frag)(C:Addr)(m:Str)(f:Addr):Prop where
 at_:findIn K (.ref C) m=some (some (.ref f))
 fn:isFn K (.ref f)=true
 kp:keepIn K (.ref f)=true
section
variable{X:Cx}{pins:List (Addr×Obj)}{σ:St}{H:Hp}{s:Shared}{a C dx:Addr}{fs:List (Str×V)}{f:Str}{v:V}{A:Around}{E:Value->Shared->Prop}
theorem zV{b:Bool}{Q:Value->Shared->Prop}(I:Inv X pins σ H s)(e:H a=some (.ins C dx fs))(c:Kn X.K C)(n:kN X.K C f)(l:fs.lookup f=some v)
 (h:∀u s',Inv X pins σ H s'->RelV v u->Q u s'):wpAny (model X.prog X.w) A (getAttr (.ref a) f b) Q E s:=by
 obtain⟨g,O,r,_,_,_⟩:=pI I.hok e;obtain⟨u,i,d⟩:=sQ.some_of (v:=v) (o:=g f) (by rw[<-l];exact r f);exact get_map I.lO O (c.get f) c.hd n i (DA d) (h u _ (I.tok _) d)
theorem zW{m:Str}{g:Addr}{pl:Sem Bool}{Q:Value×List Value->Shared->Prop}(I:Inv X pins σ H s)(e:H a=some (.ins C dx fs))(c:Kn X.K C)(k:Meth X.K C m g)(l:fs.lookup m=none)
 (h:Q (.ref g,[.ref a]) s):wpAny (model X.prog X.w) A (getMethod (.ref a) m pl) Q E s:=by
 obtain⟨b,O,r,_,_,_⟩:=pI I.hok e;have d:b m=none:=sQ.none_of (by rw[<-l];exact r m);exact FE I.lO O (c.get m) k.at_ k.fn d h
theorem zX{y:V}{u:Value}{Q:Unit->Shared->Prop}(I:Inv X pins σ H s)(e:H a=some (.ins C dx fs))(c:Kn X.K C)(n:kN X.K C f)(D:fs.length<1000)(m:RelV y u)
 (h:∀s',Inv X pins σ (upd H a (.ins C dx (iQ f y fs))) s'->Q () s'):wpAny (model X.prog X.w) A (setAttr (.ref a) f u) Q E s:=by
 obtain⟨j,O,r,i,_,k⟩:=pI I.hok e;have hz:(fs.map (·.1)).length<=sizeLine:=by rw[AN,sizeLine_eq];lia
 refine Km I.lO O c.sa c.po n.U5 c.hd i hz λB d l=>h _ ?_;have hd:∃o,B.get? dx=some o:=let⟨o,_,_,e',_⟩:=d.ns;⟨o,e'⟩
 refine I.write (x:=a) (e:=dx) (by rw[e];exact OM) (.inr k) (λb q t z=>(l.2 b t).trans z) hd ?_;refine⟨by rw[aq O.ne];exact k,?_,O.ne,d.obj,_,d.ns,λg=>?_,λg p=>?_⟩
 .have:=oJ f y fs;lia
 .show sQ ((iQ f y fs).lookup g) (if g=f then some u else j g);rw[oH];by_cases q:g=f
  .rw[Bz q,Bz q];exact m
  .rw[Bn q,Bn q];exact r g
 .by_cases q:g=f
  .rw[q];exact(nA f y fs).1
  .refine(nA f y fs).2 g (i g λz=>p ?_);show(if g=f then some u else j g)=none;rw[Bn q];exact z
theorem Inv.made(I:Inv X pins σ H s):Inv X pins σ (upd (upd H s.heap.objs.size (.own (s.heap.objs.size+1))) (s.heap.objs.size+1) (.ins C s.heap.objs.size []))
 {s with heap:=(s.heap.push emptyDict).push (instObj C s.heap.objs.size)}:=by
 have d:(s.heap.push emptyDict).get? s.heap.objs.size=some emptyDict:=On s.heap rfl;have j:((s.heap.push emptyDict).push (instObj C s.heap.objs.size)).get? (s.heap.objs.size+1)=some (instObj C s.heap.objs.size):=by have:=On (s.heap.push emptyDict) (o:=instObj C s.heap.objs.size) rfl;rwa [Heap.size_push]at this
 have i:(s.heap.push emptyDict).Ns s.heap.objs.size (λ_=>none):=⟨emptyDict,#[],_,d,rfl,(λe h=>absurd h (by simp)),λ_=>rfl⟩;have I1:=I.laid (a:=s.heap.objs.size) (o:=.own (s.heap.objs.size+1)) (h':=s.heap.push emptyDict) (t':=s.toks) (λb u q=>Fk _ q) (Da _) ⟨_,d⟩;refine I1.laid (a:=s.heap.objs.size+1) (o:=.ins C s.heap.objs.size []) (t':=s.toks) (λb u q=>Fk _ q) (eJ (Heap.size_push _ _)) ?_;have c:s.heap.objs.size≠s.heap.objs.size+1:=Os (N0 _);refine⟨by rw[aq c,aA],L9 _,c,j,λ_=>none,(Heap.Ns1.of_empty i).at λo q=>Fk _ q,λ_=>OM,λy g=>absurd rfl g⟩
theorem Ko{prog:Program}{w:World}{env:Env}{e:Expr}{f:Str}{pos:Pos}{s:Shared}{Q:Value->Shared->Prop}(c:attributeBase e f env (eval e env)=eval e env)
 (h:wpAny (model prog w) A (eval e env) (λo b=>wpAny (model prog w) A (getAttr o f true) Q E b) E s):wpAny (model prog w) A (eval (.Attribute e f pos) env) Q E s:=
 Attribute_any_ h (by rw[arm_eval_Attribute,c])
end
noncomputable def YD(K:Frag)(ta:TE)(f:Str):TE:=λd H Q=>ta d H λx c=>∃a C e b v,x=.ref a/\c a=some (.ins C e b)/\Kn K C/\kN K C f/\b.lookup f=some v/\Q v c
noncomputable def U6(K:Frag)(ta g:TE)(f:Str):TS:=λD b H=>g b H λy h=>ta b h λx e=>∃a C d c,x=.ref a/\e a=some (.ins C d c)/\Kn K C/\kN K C f/\c.length<1000/\
 D.nx b (upd e a (.ins C d (iQ f y c)))
section
variable{X:Cx}{o e value:Expr}{f:Str}{pos pos' tpos:Pos}{ta tv:TE}
theorem PN(j:PE X e ta)(k:attributeBase e f X.env (eval e X.env)=eval e X.env):PE X (.Attribute e f pos) (YD X.K ta f):=by intro b s d H Q I h;refine Ko k (cI (j b s d H _ I h) λu y hz=>?_);obtain⟨x,r,I1,g,a,C,A,z,v,ex,m,c,n,l,q⟩:=hz;subst ex;obtain rfl:u=Value.ref a:=g;exact zV I1 m c n l λt w p i=>⟨v,r,p,i,q⟩
theorem gQ(t:PE X o ta)(p:PE X value tv)(r:swapsWith value (some (.Attribute o f pos')) pos.line X.env=pure false):PS X (.Assign [.Attribute o f pos'] value pos) (U6 X.K ta tv f):=by intro b s d H D I h;refine plainObj_wpAny_Assign_Attribute (cI (p b s d H _ I h) λu g ⟨y,A,I1,i,q⟩=>cI (t b g d A _ I1 q) λm E hz=>?_) r;obtain⟨x,J,z,j,a,C,G,F,ex,v,c,n,l,k⟩:=hz;subst ex;obtain rfl:m=Value.ref a:=j;exact zX z v c n l i λB w=>⟨d,_,w,k⟩
end
section
variable{X:Cx}{pins:List (Addr×Obj)}{σ:St}{H:Hp}{s:Shared}{A:Around}{E:Value->Shared->Prop}{Q:Value->Shared->Prop}{c:Value}{b:Bool}
inductive oS(K:Frag)(H:Hp):V->Value->Prop where
 |aW:oS K H .aW (.type "NoneType")
 |bl (x:Bool):oS K H (.bl x) (.type "bool")
 |int (i:Int):oS K H (.int i) (.type "int")
 |str (x:Str):oS K H (.str x) (.type "str")
 |Pa (x:UInt64):oS K H (.Pa x) (.type "float")
 |lst {a:Addr} {xs:List V} (e:H a=some (.lst xs)):oS K H (.ref a) (.type "list")
 |xS {a:Addr} {o:Obj} {xs:List V} (e:H a=some (.xS o (.lst xs))):oS K H (.ref a) (.type "list")
 |tup {a:Addr} {xs:List V} (e:H a=some (.tup xs)):oS K H (.ref a) (.type "tuple")
 |dK {a:Addr} {kvs:List (Key×V)} (e:H a=some (.dK kvs)):oS K H (.ref a) (.type "dict")
 |dT {a:Addr} {kvs:List (List Key×V)} (e:H a=some (.dT kvs)):oS K H (.ref a) (.type "dict")
 |ins {a C dx:Addr} {fs:List (Str×V)} (e:H a=some (.ins C dx fs)) (cl:Kn K C) (ha:findIn K (.ref C) "__class__"=some (some (.builtin "object.__class__")))
   (hn:PySem.W.specialIn K (.builtin "object.__class__") "__get__"=some (some (.builtin "getset_descriptor.__get__"))) (htk:PySem.W.takesIn K (.builtin "object.__class__")=some true)
   (hm:mroIn K C (.type "object")=some true):oS K H (.ref a) (.ref C)
theorem gc{x:V}{u t:Value}(I:Inv X pins σ H s)(d:RelV x u)(v:oS X.K H x t)(e:kitOne X.K t c=some b)(h:∀B,Q (.bool b) {s with toks:=B}):
 wpAny (model X.prog X.w) A (call (.builtin "isinstance") [u,c]) Q E s:=by
 cases v with
 |aW=>cases(show u=Value.none from d);exact Sr PySem.W.kitx_none I.lO OM e (λz=>nomatch z) h
 |bl y=>cases(show u=Value.bool y from d);exact Sr PySem.W.kitx_bool I.lO OM e (λz=>nomatch z) h
 |int i=>obtain⟨t,q⟩:=(show∃t,u=Value.int i t from d);cases q;exact Sr PySem.W.kitx_int I.lO OM e (λz=>nomatch z) h
 |str y=>obtain⟨t,q⟩:=(show∃t,u=Value.str y t from d);cases q;exact Sr PySem.W.kitx_str I.lO OM e (λz=>nomatch z) h
 |Pa y=>obtain⟨t,q⟩:=(show∃t,u=Value.float y t from d);cases q;exact Sr PySem.W.kitx_float I.lO OM e (λz=>nomatch z) h
 |@lst a k f=>
  cases(show u=Value.ref a from d);obtain⟨_,_,n,_,g⟩:=(show cH X.prog X.w H s.heap a (.lst k)from I.hok a _ f);exact Sr PySem.W.kitx_list I.lO ⟨_,g,rfl⟩ e (λz=>nomatch z) h
 |@xS a D k f=>
  cases(show u=Value.ref a from d);obtain⟨_,_,_,n,_,g⟩:=(show cH X.prog X.w H s.heap a (.xS D (.lst k))from I.hok a _ f);exact Sr PySem.W.kitx_list I.lO ⟨_,g,rfl⟩ e (λz=>nomatch z) h
 |@tup a k f=>
  cases(show u=Value.ref a from d);obtain⟨_,_,_,p⟩:=(show cH X.prog X.w H s.heap a (.tup k)from I.hok a _ f);obtain⟨o,g,l,_⟩:=p;exact Sr PySem.W.kitx_tuple I.lO ⟨o,g,l⟩ e (λz=>nomatch z) h
 |@dK a j f=>
  cases(show u=Value.ref a from d);obtain⟨_,_,P,_,p⟩:=(show cH X.prog X.w H s.heap a (.dK j)from I.hok a _ f);obtain⟨o,M,N,g,l,_⟩:=p;exact Sr PySem.W.kitx_dict I.lO ⟨o,g,l.1⟩ e (λz=>nomatch z) h
 |@dT a j f=>
  cases(show u=Value.ref a from d);obtain⟨_,_,k,_,o,M,N,g,l,_⟩:=(show cH X.prog X.w H s.heap a (.dT j)from I.hok a _ f);exact Sr PySem.W.kitx_dict I.lO ⟨o,g,l.1⟩ e (λz=>nomatch z) h
 |@ins a C U T f r L F m G=>
  cases(show u=Value.ref a from d);obtain⟨S,O,_⟩:=pI I.hok f;obtain⟨R,J,_⟩:=O.look;exact Sr (PySem.W.kitx_own (r.get _) r.hd L F m G) I.lO J e (λz=>nomatch z) h
end
structure dD(k:Nat)(A:Around):Prop where
 hd:A.handled=none
 dp:A.depth+3*k+120<recursionLimit
 un:A.units+16*k+200<cLine
theorem dD.mono{j k:Nat}{A:Around}(r:dD k A)(h:j<=k):dD j A:=⟨r.hd,by have:=r.dp;lia,by have:=r.un;lia⟩
theorem dD.deeper{k:Nat}{A:Around}(r:dD (k+1) A)(env:Env):dD k (A.deeper env):=
 ⟨r.hd,by have:=r.dp;show A.depth+1+3*k+120<_;lia,by have:=r.un;show A.units+3+16*k+200<_;lia⟩
theorem zY{A:Around}{C:Addr}{us:List Value}{a:List (Str×Value)}:(A.under (.builtin "type.__call__" ⟨.ref C::us,a⟩)).depth=A.depth+1:=by first|rfl|simp[Around.under,Code.weight,Code.isCreation,Code.isGuard,Code.isCaller,Code.frames,Code.isFrame,guardIds]
theorem zZ{A:Around}{C:Addr}{us:List Value}{a:List (Str×Value)}:(A.under (.builtin "type.__call__" ⟨.ref C::us,a⟩)).units=A.units+1:=by first|rfl|simp[Around.under,Code.cUnits,Code.frames,Code.isFrame]
theorem dD.make{k:Nat}{A:Around}(r:dD (k+1) A)(C:Addr)(us:List Value)(a:List (Str×Value)):dD k (A.under (.builtin "type.__call__" ⟨.ref C::us,a⟩)):=
 ⟨r.hd,by have:=r.dp;rw[zY];lia,by have:=r.un;rw[zZ];lia⟩
theorem dD.depth{k:Nat}{A:Around}(r:dD k A):A.depth<recursionLimit:=by have:=r.dp;lia
theorem dD.units{k:Nat}{A:Around}(r:dD k A):A.units+64<cLine:=by have:=r.un;lia
noncomputable def Kp:TA:=λ_ H Q=>Q [] H
noncomputable def BF(ta:TE)(c:TA):TA:=λa H Q=>ta a H λx e=>c a e λb d=>Q (x::b) d
section
variable{X:Cx}{e:Expr}{es:List Expr}{te:TE}{t:TA}{pos:Pos}
theorem bF:PA X [] Kp:=λ_ _ _ _ H Q I h=>Calls.spliced_nil ⟨[],H,I,.nil,h⟩
theorem aF(m:PE X e te)(l:PA X es t)(k:starEach (e::es) X.env=(false,eval e X.env)::starEach es X.env:=by rfl):PA X (e::es) (BF te t):=by intro pos a s b H Q I h;rw[k];show wpAny _ _ (spliced ((false,eval e X.env)::backTo pos (starEach es X.env))) _ _ s;refine Calls.spliced_cons (cI (m a s b H _ I h) λu d ⟨x,p,I1,g,j⟩=>?_);exact cI (l pos a d b p _ I1 j) λq r ⟨c,o,n,f,i⟩=>⟨x::c,o,n,.cons g f,i⟩
noncomputable def YE(t:TA):TE:=λc H Q=>t c H λa b=>a.length<=sizeLine/\∀p,b p=none->Q (.ref p) (upd b p (.tup a))
noncomputable def YF(t:TA):TE:=λc H Q=>t c H λa b=>a.length<=sizeLine/\∀p,b p=none->Q (.ref p) (upd b p (.lst a))
theorem FG{i}(h:PA X es t):PE X (.Tuple es i pos) (YE t):=by intro a s f H Q I k;refine wpAny_Tuple_spliced (cI (h pos a s f H _ I k) λj c ⟨g,d,I1,r,z,q⟩=>⟨by rw[<-r.length];exact z,?_⟩);have l:d c.heap.objs.size=none:=I1.hok.fresh (Da _);refine⟨.ref c.heap.objs.size,upd d c.heap.objs.size (.tup g),I1.laid (t':=c.toks) (λb u e=>Fk _ e) (Da _) ?_,rfl,q _ l⟩;exact⟨z,j,r,⟨_,On _ rfl,rfl,_,rfl⟩⟩
theorem qu(h:PA X es t):PE X (.List es pos) (YF t):=by intro a s f H Q I j;refine wpAny_List_spliced (cI (h pos a s f H _ I j) λi c ⟨g,d,I1,r,z,q⟩=>⟨by rw[<-r.length];exact z,?_⟩);have k:d c.heap.objs.size=none:=I1.hok.fresh (Da _);refine⟨.ref c.heap.objs.size,upd d c.heap.objs.size (.lst g),I1.laid (t':=c.toks) (λb u e=>Fk _ e) (Da _) ?_,rfl,q _ k⟩;exact⟨z,i,0,r,On _ rfl⟩
end
abbrev Sp:=List V->Hp->VK->XK->Prop
abbrev DB:=List Env->Hp->Shared->XK->Value->Shared->Prop
structure z4(P:Program)(w:World)(K:Frag)(mg:Str->Option Value)(base:Heap)(A:Around)(outer:List Env)(s:Shared)(H:Hp):Prop where
 frames:A.frames=some outer
 mod:Mod K mg base
 bs:∀b o,base.get? b=some o->s.heap.get? b=some o/\H b=none
 JU:base.objs.size<=s.heap.objs.size
 nj:s.heap.FunFrames base outer
 NS:∀b∈frs outer,H b=none
 hok:lI P w H s.heap
 bare:AllBare s.gens
 tree:P.given.tree=none
noncomputable def CE(a:List Env)(P:Program)(w:World)(H:Hp)(s:Shared)(Q:VK)(u:Value)(s':Shared):Prop:=
 ∃v b,s'.os=s.os/\AllBare s'.gens/\Un (frs a) [] H b s.heap s'.heap/\lI P w b s'.heap/\RelV v u/\Q v b
noncomputable def CR(CX:DB)(a:List Env)(P:Program)(w:World)(H:Hp)(s:Shared)(Q:VK)(E:XK)(r:Result)(s':Shared):Prop:=
 match r with
 |.ok (.ret u)=>CE a P w H s Q u s'
 |.ok _=>False
 |.error e=>CX a H s E e s'
structure bN(P:Program)(w:World)(K:Frag)(mg:Str->Option Value)(base:Heap)(CX:DB)(k:Nat)(f:Addr)(fd:FuncData)(ps:List Str)(sp:Sp):Prop where
 len:∀vs H Q E,sp vs H Q E->vs.length=ps.length
 run:∀(A:Around)(outer:List Env)(s:Shared)(H:Hp)(args:Args)(us:List Value)(vs:List V)(Q:VK)(E:XK),dD k A->z4 P w K mg base A outer s H->BindsTo s fd args (ps.zip us)->Vals vs us->sp vs H Q E->
  codeAny (model P w) A (.call (.ref f) args) (CR CX outer P w H s Q E) s
theorem bN.imp{P:Program}{w:World}{K:Frag}{d:Str->Option Value}{base:Heap}{CX:DB}{k:Nat}{f:Addr}{e:FuncData}{ps:List Str}{sp b:Sp}(F:bN P w K d base CX k f e ps sp)
 (h:∀vs H Q E,b vs H Q E->sp vs H Q E):bN P w K d base CX k f e ps b:=
 ⟨λvs H Q E q=>F.len vs H Q E (h _ _ _ _ q),λA a s H c g vs Q E l m n i j=>F.run A a s H c g vs Q E l m n i (h _ _ _ _ j)⟩
theorem z4.make{P:Program}{w:World}{K:Frag}{b:Str->Option Value}{base:Heap}{A:Around}{a:List Env}{s:Shared}{H:Hp}(e:z4 P w K b base A a s H)(C:Addr)(us:List Value)(c:List (Str×Value)):
 z4 P w K b base (A.under (.builtin "type.__call__" ⟨.ref C::us,c⟩)) a s H:=⟨by first|exact e.frames|(simpa[Around.under,Code.envs,Code.isFrame,pushEnvs]using e.frames),e.mod,e.bs,e.JU,e.nj,e.NS,e.hok,e.bare,e.tree⟩
section
variable{X:Cx}{pins:List (Addr×Obj)}{σ:St}{H:Hp}{s s':Shared}
theorem Inv.PR(I:Inv X pins σ H s):z4 X.prog X.w X.K X.mg X.base X.A X.stack s H:=
 ⟨I.ok.frames,I.ok.mod,I.bs,DL I.ok.JU I.sz,I.stack,I.jQ,I.hok,I.bare,I.ok.tree⟩
theorem Inv.after{Q:VK}{u:Value}(I:Inv X pins σ H s)(h:CE X.stack X.prog X.w H s Q u s'):EP X pins σ Q u s':=by obtain⟨v,j,os,a,f,e,r,q⟩:=h;obtain⟨i,g,d,t,c⟩:=s';obtain rfl:c=s.os:=os;exact⟨v,j,I.call (h':=i) (g':=g) (d':=d) (t':=t) (ch:=[]) f e a (λb z=>absurd z (by simp)),r,q⟩
end
noncomputable def U7(sp:Sp)(BG:List V)(E:XK)(t:TA):TE:=λa H Q=>t a H λb c=>sp (b++BG) c Q E
noncomputable def Binds(K:Frag)(b:FuncData)(ps:List Str)(ds:List Value):Prop:=
 ∀(s:Shared)(a:List Value),K.In s.heap->(a++ds).length=ps.length->BindsTo s b ⟨a,[]⟩ (ps.zip (a++ds))
theorem Binds.all{K:Frag}{b:FuncData}{ps:List Str}(h:∀us:List Value,us.length=ps.length->bindArgs b ⟨us,[]⟩=pure (ps.zip us)):Binds K b ps []:=λs us _ a=>by rw[aw]at a⊢;exact .of_eq (h us a)
noncomputable def Passes(CX:DB)(X:Cx)(E:XK):Prop:=∀(a:List (Addr×Obj))(c:St)(H:Hp)(s:Shared)(e:Value)(b:Shared),Inv X a c H s->CX X.stack H s E e b->X.xe e b
section
variable{X:Cx}{CX:DB}{k:Nat}{f C:Addr}{fd:FuncData}{ps:List Str}{sp:Sp}{BG:List V}{ds:List Value}{E:XK}{x m:Str}{p pos apos:Pos}{e o:Expr}{es:List Expr}{ta:TE}{t:TA}
theorem z5{a:List (Addr×Obj)}{c:St}{H:Hp}{s:Shared}{Q:VK}{us:List Value}{vs:List V}(F:bN X.prog X.w X.K X.mg X.base CX k f fd ps sp)(j:dD k X.A)(q:Binds X.K fd ps ds)(n:Vals BG ds)(i:Passes CX X E)
 (I:Inv X a c H s)(r:Vals vs us)(h:sp (vs++BG) H Q E):wpAny (model X.prog X.w) X.A (call (.ref f) us) (EP X a c Q) X.xe s:=by
 have d:Vals (vs++BG) (us++ds):=r.append n;have l:(us++ds).length=ps.length:=by rw[<-d.length];exact F.len _ _ _ _ h
 refine wpAny_call (wb (F.run X.A X.stack s H ⟨us,[]⟩ (us++ds) (vs++BG) Q E j I.PR (q s us I.lO l) d h) λr g b=>?_);cases r with
 |error e=>exact i a c H s e g I b
 |ok fl=>
  cases fl with
  |ret u=>exact I.after b
  |next=>exact Ew b
  |brk=>exact Ew b
  |cont=>exact Ew b
theorem Kq(F:bN X.prog X.w X.K X.mg X.base CX k f fd ps sp)(i:dD k X.A)(n:Gl X x)(j:X.mg x=some (.ref f))(l:keepIn X.K (.ref f)=true)(y:Binds X.K fd ps ds)(v:Vals BG ds)(g:Passes CX X E)
 (z:PA X (e::es) t)(c:(x==("__debug__":Str))=false:=by decide)(u:starEach (e::es) X.env=(false,eval e X.env)::starEach es X.env:=by rfl)(b:(backTo pos (starEach es X.env)).any (·.1)=false:=by rfl):
 PE X (.Call (.Name x p) (e::es) [] pos) (U7 sp BG E t):=by
 intro a s d H Q I h;refine rf (jR I n j ?_ c);refine callWith_K (h₀:=X.base) I.ok.mod.Tw l (cI (z pos a s d H _ I h) λD G ⟨B,J,I1,r,q⟩=>⟨I1.lO,?_⟩) u b;exact z5 F i y v g I1 r q
structure Mk(K:Frag)(C f:Addr):Prop where
 makes:makesIn K C=true
 init:findIn K (.ref C) "__init__"=some (some (.ref f))
 fn:isFn K (.ref f)=true
 kp:keepIn K (.ref C)=true
theorem FH{a:List (Addr×Obj)}{g:St}{H:Hp}{s:Shared}{Q:VK}{us:List Value}{vs:List V}(M:Mk X.K C f)(F:bN X.prog X.w X.K X.mg X.base CX k f fd ps sp)(y:dD (k+1) X.A)(D:Binds X.K fd ps ds)(B:Vals BG ds)
 (q:Passes CX X E)(I:Inv X a g H s)(r:Vals vs us)
 (h:∀x c,H x=none->H c=none->c≠x->sp (.ref x::(vs++BG)) (upd (upd H c (.own x)) x (.ins C c [])) (λv J=>v=.aW/\Q (.ref x) J) E):
 wpAny (model X.prog X.w) X.A (call (.ref C) us) (EP X a g Q) X.xe s:=by
 have j:=h (s.heap.objs.size+1) s.heap.objs.size (I.hok.fresh (sv _)) (I.hok.fresh (Da _)) (Os (N0 _));have d:=Inv.made (C:=C) I;have i:Vals (V.ref (s.heap.objs.size+1)::(vs++BG)) (Value.ref (s.heap.objs.size+1)::(us++ds)):=.cons rfl (r.append B);have z:(Value.ref (s.heap.objs.size+1)::us++ds).length=ps.length:=by have e:=i.length;rw[F.len _ _ _ _ j]at e;exact e.symm
 refine wpAny_call (FF (f:=f) I.lO M.makes M.init (P3.mp M.fn) (wb (F.run _ X.stack _ _ ⟨Value.ref (s.heap.objs.size+1)::us,[]⟩ (Value.ref (s.heap.objs.size+1)::(us++ds)) _ _ E (y.make C us [])
  (d.PR.make C us []) (D _ (Value.ref (s.heap.objs.size+1)::us) d.lO z) i j) λr l b=>?_))
 cases r with
 |error e=>exact q a g _ _ e l d b
 |ok fl=>
  cases fl with
  |ret u=>obtain⟨v,L,G,rv,ev,n⟩:=d.after b;subst ev;exact⟨rv,⟨V.ref (s.heap.objs.size+1),L,G,rfl,n⟩⟩
  |next=>exact Ew b
  |brk=>exact Ew b
  |cont=>exact Ew b
end
section
variable{X:Cx}{CX:DB}{k:Nat}{f C:Addr}{fd:FuncData}{ps ks:List Str}{sp:Sp}{E:XK}{x m:Str}{p pos apos kpos:Pos}{e o:Expr}{es:List Expr}{kws:List Keyword}{te ta:TE}{t tk:TA}{nm:Option Str}
variable{g:List Value->List Value->List Value}{gV:List V->List V->List V}
end
structure cU(N P:List Str)(sc:Scope):Prop where
 kind:sc.kind=.function
 co:sc.isCoroutine=false
 gen:sc.isGenerator=false
 nd:N.Nodup
 pre:N.take P.length=P
 par:∀x∈P,sc.names.lookup x=some .local\/sc.names.lookup x=some .cell
 PU:∀y∈sc.names,y.2≠.free
theorem uf{b:Str->Option NameKind}{x:Str}:∀{a:List (Str×Value)}{m:Str->Option Value},(∀v,(x,v)∉a)->bindL b a m x=m x
 |[],_,_=>rfl
 |(n,v)::r,m,h=>by
  unfold bindL;rw[uf λw c=>h w (Ee _ c)];split
  .have:x≠n:=by rintro rfl;exact h v FC
   simp[this]
  .rfl
theorem ug{b:Str->Option NameKind}{x:Str}:∀{a:List (Str×Value)}{m:Str->Option Value},(∀v,(x,v)∉a)->bindC b a m x=m x
 |[],_,_=>rfl
 |(n,v)::r,m,h=>by
  unfold bindC;rw[ug λw c=>h w (Ee _ c)];split
  .rfl
  .have:x≠n:=by rintro rfl;exact h v FC
   simp[this]
theorem uh{a:Str->Option NameKind}{x:Str}{v:Value}:∀{P:List Str}{vs:List Value}{i:Nat}{m:Str->Option Value},P.Nodup->P[i]?=some x->vs[i]?=some v->a x=some .local->
 bindL a (P.zip vs) m x=some v
 |[],_,_,_,_,h,_,_=>by simp at h
 |_::_,[],_,_,_,_,h,_=>by simp at h
 |p::P,w::vs,0,m,d,c,b,e=>by simp at c b;subst c;subst b;show bindL a ((p,w)::P.zip vs) m p=_;unfold bindL;rw[uf λv f=>(Pm.mp d).1 (XH f).1,Bz e];simp
 |p::P,w::vs,i+1,m,d,c,b,e=>by show bindL a ((p,w)::P.zip vs) m x=_;unfold bindL;exact uh (i:=i) (Pm.mp d).2 (by simpa using c) (by simpa using b) e
theorem um{a:Str->Option NameKind}{x:Str}{v:Value}:∀{P:List Str}{vs:List Value}{i:Nat}{m:Str->Option Value},P.Nodup->P[i]?=some x->vs[i]?=some v->a x≠some .local->
 bindC a (P.zip vs) m x=some v
 |[],_,_,_,_,h,_,_=>by simp at h
 |_::_,[],_,_,_,_,h,_=>by simp at h
 |p::P,w::vs,0,m,d,c,b,e=>by simp at c b;subst c;subst b;show bindC a ((p,w)::P.zip vs) m p=_;unfold bindC;rw[ug λv f=>(Pm.mp d).1 (XH f).1,Bn e];simp
 |p::P,w::vs,i+1,m,d,c,b,e=>by show bindC a ((p,w)::P.zip vs) m x=_;unfold bindC;exact um (i:=i) (Pm.mp d).2 (by simpa using c) (by simpa using b) e
noncomputable def start(N:List Str)(vs:List V):St:=vs.map some++A0 (N.length -vs.length) none
noncomputable def z6(CX:DB)(P:Program)(w:World)(K:Frag)(mg:Str->Option Value)(base:Heap)(N:List Str)(b:Str)(a:Scope)(f:Addr)(d:Value)(A:Around)(outer:List Env)(s:Shared)(H:Hp)(E:XK):Cx where
 prog:=P
 w:=w
 K:=K
 mg:=mg
 base:=base
 A:=A.deeper (envOfC b a s.heap.objs.size f d)
 N:=N
 s₀:=s
 H₀:=H
 env:=envOfC b a s.heap.objs.size f d
 outer:=outer
 stack:=envOfC b a s.heap.objs.size f d::outer
 ex:=[]
 calm:=true
 fn:=λ_=>true
 pn:=[]
 xe:=λe g=>wpAny (model P w) (A.deeper (envOfC b a s.heap.objs.size f d)) (leaving (envOfC b a s.heap.objs.size f d) e) (λ_ c=>CX outer H s E e c) (λh c=>CX outer H s E h c) g
theorem xW{sc:Scope}{n:Nat}{x:Str}(h:sc.names.lookup x=some .cell):∃c,(cellsFrom n sc.names []).lookup x=some c:=by have q:=PySem.W.cellsFrom_some sc.names n [] (.inl h);exact X2.mp q
theorem DC{CX:DB}{P:Program}{w:World}{K:Frag}{I:Str->Option Value}{base:Heap}{N ps:List Str}{l:Str}{d:Scope}{f:Addr}{G:Value}{A:Around}{g:List Env}{s M:Shared}{H:Hp}{E:XK}{us:List Value}{vs:List V}
 (S:cU N ps d)(U:A.handled=none)(T:A.depth+110<recursionLimit)(j:z4 P w K I base A g s H)(hl:vs.length=ps.length)(r:Vals vs us)
 (x:InCallC s s.heap.objs.size (bindL (envOfC l d s.heap.objs.size f G).kindOf (ps.zip us) λ_=>none) (cellsFrom (s.heap.objs.size+1) d.names []) (bindC (envOfC l d s.heap.objs.size f G).kindOf (ps.zip us) λ_=>none) M):
 Inv (z6 CX P w K I base N l d f G A g s H E) [] (start N vs) H M:=by
 have Q:ps.length<=N.length:=by have:=PQ Qf S.pre;rw[W1]at this;lia
 obtain⟨F,Y,rfl,C⟩:=x.done;have L:∀b:Addr,b∉(z6 CX P w K I base N l d f G A g s H E).ex:=λb z=>absurd (show b∈([]:List Addr)from z) (by simp);refine⟨⟨j.mod,S.kind,rfl,rfl,Da _,λy z c F m=>?_,λy o=>?_,λy c _ h=>?_,λ_=>U,Around.frames_deeper j.frames,.inr ⟨rfl,rfl⟩,λb z=>absurd z (L b),j.bs,j.JU,λb _ _=>L b,λb z=>absurd z (L b),j.nj,j.NS,j.tree,λA' Z R J C=>PylongRoom.of (j.mod.nolimit.keeps C) (by rw[J];show A.depth+1+100<_;lia) (SeerAt.of (j.mod.seer.keeps C) j.tree (R.trans (Around.frames_deeper j.frames)) S.gen S.co rfl rfl)⟩,
  rfl,j.bare,Un.kept C,⟨_,x.toInCall.ns,λi y v F m h3=>?_⟩,λy c h=>⟨_,x.cell y c h⟩,j.hok.fresh (Da _),λy c h=>?_,λp B=>absurd (show p∈([]:List (Addr×Obj))from B) (by simp),j.hok.kept C,?_⟩
 .exact name_of_addr x.apart (Re F) (Re m)
 .have o:d.names.lookup y=some .cell\/d.names.lookup y=some .free:=o;rcases o with o|o
  .exact xW o
  .exact absurd rfl (S.PU _ (Re o))
 .exact Oy (x.above y c (Re h))
 .have D:i<vs.length:=by
   unfold start at m;by_cases D:i<vs.length
   .exact D
   .rw[Ha (by simpa using D)]at m;rw[h9]at m;split at m<;>cases m
  have X:vs[i]?=some v:=by
   unfold start at m;rw[KE (by simpa using D),Dx]at m;cases e:vs[i]? with
   |none=>rw[e]at m;cases m
   |some a=>rw[e]at m;cases m;rfl
  obtain⟨u,O,rv⟩:=r.get X;have B:ps[i]?=some y:=by rw[<-S.pre,lj (by lia)];exact F
  have t:ps.Nodup:=by rw[<-S.pre];exact S.nd.sublist (List.take_sublist _ _)
  refine⟨u,rv,?_⟩;rcases S.par y (Hk B)with k|k
  .exact .inl ⟨k,uh t B O k⟩
  .obtain⟨c,e⟩:=xW (n:=s.heap.objs.size+1) k;refine .inr ⟨.inl k,c,e,?_⟩;have q:=x.cell y c e;rw[um t B O (by show d.names.lookup y≠_;rw[k];decide)]at q;exact q
 .exact j.hok.fresh (Oy (x.above y c (Re h)))
 .unfold start;show _=N.length;rw[Fm,AN,ae];lia
theorem NZ{CX:DB}{P:Program}{w:World}{K:Frag}{G:Str->Option Value}{base:Heap}{k:Nat}{f:Addr}{l d:Str}{h:Arguments}{i:List Stmt}{a:Scope}{Y kV F X g Z oc:Value}{an od:Option Addr}
 {O:Array (Option Value)}{N ps:List Str}{sp:Sp}(lk:K.lookup f=some ⟨oc,od,.func (fnOf l d h i a Y kV F X an g Z),O⟩)(T:codeIn K g d=true)(S:cU N ps a)
 (B:∀vs H Q E,sp vs H Q E->vs.length=ps.length)
 (p:∀(A:Around)(c:List Env)(s:Shared)(H:Hp)(vs:List V)(Q:VK)(E:XK),dD k (A.deeper (envOfC d a s.heap.objs.size f g))->sp vs H Q E->
   ∃t,sN (z6 CX P w K G base N d a f g A c s H E) i t/\t {nx:=λ_ H'=>Q .aW H',rt:=Q} (start N vs) H):
 bN P w K G base CX (k+1) f (fnOf l d h i a Y kV F X an g Z) ps sp:=by
 refine⟨B,λA c s H args us vs Q E L D hb r FI=>?_⟩;have hl:=B _ _ _ _ FI;have KX:K.In s.heap:=D.mod.Tw.keeps λb o e=>(D.bs b o e).1;have R:s.heap.NoLimit:=D.mod.nolimit.keeps λb o e=>(D.bs b o e).1;have m:∀y∈ps.zip us,a.names.lookup y.1=some .local\/(a.names.lookup y.1=some .cell/\((cellsFrom (s.heap.objs.size+1) a.names []).lookup y.1).isSome=true):=λ⟨n,v⟩ hy=>by
  rcases S.par n (XH hy).1 with q|q
  .exact .inl q
  .exact .inr ⟨q,PySem.W.cellsFrom_some _ _ _ (.inl q)⟩
 refine codeAny_call_function L.depth (KX _ _ lk) rfl S.co S.gen rfl (PySem.W.codeRec_of KX T) (hb _ _ _ _ ?_);refine wpAny_newFunctionEnv_cells S.kind m λenv he U x=>?_;subst he;refine⟨R.keeps x.toInCall.keep,codeAny_func ?_⟩;obtain⟨t,ht,hq⟩:=p A c s H vs Q E (L.deeper _) FI;have I:Inv (z6 CX P w K G base N d a f g A c s H E) [] (start N vs) H U:=DC S L.hd (by have:=L.dp;lia) D hl r x;refine dn (ht [] U (start N vs) H _ I hq) (λfl M z=>?_) λe M z=>z;have C:∀{j:St}{H':Hp}{v:V}{u:Value},Inv (z6 CX P w K G base N d a f g A c s H E) [] j H' M->RelV v u->Q v H'->CE c P w H s Q u M:=
  λ{j H' v u} J rv q=>⟨v,H',J.os,J.bare,J.base,J.hok,rv,q⟩
 cases fl with
 |ret u=>obtain⟨v,j,H',J,rv,q⟩:=z;exact C J rv q
 |next=>obtain⟨j,H',J,q⟩:=z;exact C (v:=V.aW) (u:=Value.none) J rfl q
 |brk=>obtain⟨_,_,_,q⟩:=z;exact Ew q
 |cont=>obtain⟨_,_,_,q⟩:=z;exact Ew q
section
variable{X:Cx}{x:Str}{p pos:Pos}{e:Expr}{es:List Expr}{t:TA}{id T:String}{r:List V->Hp->VK->Prop}
noncomputable def tCB(r:List V->Hp->VK->Prop)(t:TA):TE:=λa H Q=>t a H λb c=>r b c Q
theorem c6(u:dG X (.builtin id) r)(o:Gl X x)(n:X.mg x=none)(l:bootBuiltins x=some (.builtin id))(v:PA X (e::es) t)(m:x≠"__name__":=by decide)(c:(x==("__debug__":Str))=false:=by decide)
 (q:starEach (e::es) X.env=(false,eval e X.env)::starEach es X.env:=by rfl)(b:(backTo pos (starEach es X.env)).any (·.1)=false:=by rfl):PE X (.Call (.Name x p) (e::es) [] pos) (tCB r t):=by
 intro a s d H Q I h;refine rf (kK I o n l ?_ m c);exact hA (cI (v pos a s d H _ I h) λg i ⟨f,w,I1,j,k⟩=>u a i d w f g Q I1 j k) q b
theorem DE(u:dG X (.type T) r)(o:Gl X x)(n:X.mg x=none)(l:bootBuiltins x=some (.type T))(v:PA X (e::es) t)(m:x≠"__name__":=by decide)(c:(x==("__debug__":Str))=false:=by decide)
 (q:starEach (e::es) X.env=(false,eval e X.env)::starEach es X.env:=by rfl)(b:(backTo pos (starEach es X.env)).any (·.1)=false:=by rfl):PE X (.Call (.Name x p) (e::es) [] pos) (tCB r t):=by
 intro a s d H Q I h;refine rf (kK I o n l ?_ m c);exact d4 (cI (v pos a s d H _ I h) λg i ⟨f,w,I1,j,k⟩=>u a i d w f g Q I1 j k) q b
end
end L2
namespace HT
open PySem PyProof.Rows
section
open PySem.SeqAt
open PySem.AutoSeq1 (wpAny_loadPart')
open PySem.MeetsSeq PySem.MeetsSeq2 PySem.MeetsSeq3
end
section
variable{prog:Program}{w:World}{A:Around}{E:Value->Shared->Prop}{s:Shared}
theorem Kr{t b:Addr}{vs a:List Value}{Q:Value->Shared->Prop}(v:IsTup s.heap t vs.toArray)(x:IsTup s.heap b a.toArray)(p:vs≠[])
 (z:a=[]->Q (.ref t) s)(y:a≠[]->Q (.ref s.heap.objs.size) {s with heap:=s.heap.push {cls:=.type "tuple",data:=.seq (vs++a).toArray}})
 (k:vs.length+a.length<=sizeLine):wpAny (model prog w) A (binaryOp .Add (.ref t) (.ref b)) Q E s:=by
 obtain⟨⟨cls,u,data,m⟩,j,r,n,q⟩:=id v;obtain⟨⟨B,h,l,d⟩,c,g,o,f⟩:=id x;simp only at r q g f;subst r q g f;have e:vs.toArray++a.toArray=(vs++a).toArray:=by simp
 by_cases i:a=[]
 .exact concat_meets ⟨_,j,rfl⟩ ⟨_,c,rfl⟩ noFill_tuple_add seq_tuple_add PySem.F.slot_tuple_add PySem.F.entry_tuple_add (PySem.F.args_tuple_add_2 _ _)
   (tuple_addW1 t b vs.toArray a.toArray n o u h m d (by simpa using p) (by simp[i])) ⟨j,c,z i⟩
 .refine concat_meets ⟨_,j,rfl⟩ ⟨_,c,rfl⟩ noFill_tuple_add seq_tuple_add PySem.F.slot_tuple_add PySem.F.entry_tuple_add (PySem.F.args_tuple_add_2 _ _)
   (tuple_addW2 t b vs.toArray a.toArray n o u h m d (by simpa using p) (by simpa using i) (by rw[Fs,Fs];exact k)) ⟨j,c,?_⟩
  rw[e];exact y i
noncomputable def uo(n d:Nat):Option Int->Nat
 |none=>d
 |some v=>if v<0 then(v+(n:Int)).toNat else min v.toNat n
theorem xX(n d:Nat):uo n d none=d:=rfl
theorem pJ(n d k:Nat):uo n d (some (k:Int))=min k n:=by show(if(k:Int)<0 then((k:Int)+(n:Int)).toNat else min (k:Int).toNat n)=min k n;rw[Bn (by lia),Eg]
end
end HT
namespace L2
open PySem PySem.Spec PyProof.Rows
abbrev TO:=St->Hp->(Option Int->Hp->Prop)->Prop
noncomputable def PO(X:Cx)(e:Option Expr)(t:TO):Prop:=
 ∀(a:List (Addr×Obj))(s:Shared)(b:St)(H:Hp)(Q:Option Int->Hp->Prop),Inv X a b H s->t b H Q->
  wpAny (model X.prog X.w) X.A (evalPart e X.env) (λu d=>∃o c,Inv X a b c d/\IsPart u o/\Q o c) X.xe s
noncomputable def Ks:TO:=λ_ H Q=>Q none H
noncomputable def U9(t:TE):TO:=λa H Q=>t a H λx b=>∃i,x=.int i/\Q (some i) b
theorem intsAre_of{ns:List Int}:∀{us:List Value},Vals (ns.map V.int) us->IntsAre us ns:=by
 induction ns with
 |nil=>intro us r;rw[xk]at r;cases r;exact .nil
 |cons n ns c=>
  intro us r;rw[RF]at r;cases r with
  |cons b a=>obtain⟨t,e⟩:=b;subst e;exact .cons n t (c a)
section
variable{X:Cx}{e:Expr}{te:TE}{lo hi:Option Expr}{tl th:TO}{pos p2:Pos}
theorem Ku:PO X none Ks:=by intro a s b H Q I h;rw[evalPart_none];exact Qb ⟨none,H,I,.none,h⟩
theorem Kv(h:PE X e te):PO X (some e) (U9 te):=by intro a s b H Q I f;rw[evalPart_some];refine cI (h a s b H _ I f) λu j ⟨x,g,I1,c,d⟩=>?_;obtain⟨i,rfl,q⟩:=d;obtain⟨t,rfl⟩:=c;exact⟨some i,g,I1,.int i t,q⟩
noncomputable def SlR(X:Cx)(r:V->Option Int->Option Int->Hp->VK->Prop):Prop:=
 ∀(a:List (Addr×Obj))(s:Shared)(b:St)(H:Hp)(x:V)(v d c:Value)(lo hi:Option Int)(f:Addr)(Q:VK),Inv X a b H s->RelV x v->s.heap.IsSliceOf f d c .none->IsPart d lo->IsPart c hi->r x lo hi H Q->
  ∃T g,typeLookup (.type T) "__getitem__"=pure (some (.builtin g))/\s.TypeIs v T/\wpAny (model X.prog X.w) X.A (getItem v (.ref f)) (EP X a b Q) X.xe s
noncomputable def tSl(r:V->Option Int->Option Int->Hp->VK->Prop)(te:TE)(tl th:TO):TE:=λa H Q=>te a H λx d=>tl a d λl c=>th a c λu b=>r x l u b Q
theorem FJ{r:V->Option Int->Option Int->Hp->VK->Prop}(C:SlR X r)(F:PE X e te)(D:PO X lo tl)(z:PO X hi th):PE X (.Subscript e (.Slice lo hi none p2) pos) (tSl r te tl th):=by intro a s d H Q I h;refine Subscript_ (cI (F a s d H _ I h) λv k ⟨x,N,I1,m,p⟩=>?_);refine wpAny_Slice (cI (D a k d N _ I1 p) λg j ⟨l,M,L,y,o⟩=>cI (z a j d M _ L o) λf c ⟨u,i,K,t,n⟩=>?_);rw[evalPart_none];refine Qb ?_;have J:Inv X a d i {c with heap:=c.heap.push {cls:=.type "slice",data:=.fields #[g,f,.none]}}:=K.kept (t':=c.toks) λb O q=>Fk _ q;obtain⟨T,P,G,B,E⟩:=C a {c with heap:=c.heap.push {cls:=.type "slice",data:=.fields #[g,f,.none]}} d i x v g f l u c.heap.objs.size Q J m (Heap.IsSliceOf.new ..) y t n;show wpAny (model X.prog X.w) X.A (subscriptTail e (.Slice lo hi none p2) v (.ref c.heap.objs.size)) (EP X a d Q) X.xe {c with heap:=c.heap.push {cls:=.type "slice",data:=.fields #[g,f,.none]}};exact tail_any (ops:=[.ref c.heap.objs.size,v]) B G E (by with_unfolding_all rfl)
noncomputable def DF(a:List V)(lo hi:Option Int):List V:=(a.drop (HT.uo a.length 0 lo)).take (HT.uo a.length a.length hi -HT.uo a.length 0 lo)
theorem xY(a:List V)(lo hi:Option Int):(DF a lo hi).length<=a.length:=by unfold DF;rw[W1,eB];lia
noncomputable def Va(K:Frag):R2:=λx y H Q=>∃a b d c,x=.ref a/\y=.ref b/\kL K H a d/\kL K H b c/\d≠[]/\d.length+c.length<=sizeLine/\
 (c=[]->Q (.ref a) H)/\(c≠[]->∀p,H p=none->Q (.ref p) (upd H p (.tup (d++c))))
theorem Vals.uV{a:List V}{us:List Value}(r:Vals a us):us=[]↔a=[]:=by
 cases r with
 |nil=>simp
 |cons _ _=>simp
theorem Kw:kM X (binaryOp .Add) (Va X.K):=by intro f s C H x y v u Q I l k h;obtain⟨a,b,j,i,rfl,rfl,B,A,t,hz,n,m⟩:=h;cases l;cases k;obtain⟨r,d,p,_⟩:=I.tuple B;obtain⟨g,c,p2,_⟩:=I.tuple A;refine HT.Kr p p2 (λz=>t (d.uV.mp z)) (λz=>⟨.ref a,H,I,rfl,n (c.uV.mp z)⟩) (λz=>?_) (by rw[<-d.length,<-c.length];exact hz);refine⟨.ref s.heap.objs.size,_,I.laid (t':=s.toks) (o:=.tup (j++i)) (λb D q=>Fk _ q) (Da _) ?_,rfl,m (λw=>z (c.uV.mpr w)) _ (I.hok.fresh (Da _))⟩;exact⟨by rw[Fm];exact hz,_,d.append c,IsTup.new _ _⟩
end
noncomputable def xK(n:Nat)(i:Int):Option Nat:=if 0<=i then(if i<n then some i.toNat else none)else if-(n:Int)<=i then some (i+n).toNat else none
noncomputable def j9{α:Type}(a:List α)(i:Int):Option α:=(xK a.length i).bind λj=>a[j]?
theorem BH{n:Nat}{i:Int}{j:Nat}(h:xK n i=some j):seqIndex? i n=some j/\j<n/\-(n:Int)<=i/\i<n:=by
 unfold xK at h;by_cases b:0<=i
 .rw[Bz b]at h;by_cases a:i<n
  .rw[Bz a]at h;have e:i.toNat=j:=Kk h;exact⟨by rw[seqIndex_of b a,e],by lia,by lia,a⟩
  .rw[Bn a]at h;cases h
 .rw[Bn b]at h;by_cases a: -(n:Int)<=i
  .rw[Bz a]at h;have e:(i+n).toNat=j:=Kk h;exact⟨by rw[seqIndex_neg (by lia) a,e],by lia,a,by lia⟩
  .rw[Bn a]at h;cases h
theorem uW{α:Type}{a:List α}{i:Int}{v:α}(h:j9 a i=some v):∃j,seqIndex? i a.length=some j/\a[j]?=some v/\j<a.length/\-(a.length:Int)<=i/\i<a.length:=by
 unfold j9 at h;cases e:xK a.length i with
 |none=>rw[e]at h;cases h
 |some j=>rw[e]at h;obtain⟨f,d,c,b⟩:=BH e;exact⟨j,f,h,d,c,b⟩
theorem bC{α:Type}{a:List α}{j:Nat}{v:α}(h:a[j]?=some v):j9 a (j:Int)=some v:=by
 have b:j<a.length:=(FR.mp h).1;have e:xK a.length (j:Int)=some j:=by unfold xK;rw[Bz (by lia),Bz (by lia)];simp
 unfold j9;rw[e];exact h
noncomputable def pK(b:Expr):Prop:=∀o i,subscripted b false o i=operate [o,i] (getItem o i)
noncomputable def Ky(X:Cx)(r:R2):Prop:=
 ∀(c a:Expr)(b:List (Addr×Obj))(s:Shared)(d:St)(H:Hp)(x y:V)(v u:Value)(Q:VK),Inv X b d H s->RelV x v->RelV y u->r x y H Q->
  subscripted a false v u=operate [v,u] (getItem v u)->wpAny (model X.prog X.w) X.A (subscriptTail c a v u) (EP X b d Q) X.xe s
noncomputable def YG(X:Cx)(e:String)(r:V->List V->Hp->VK->Prop):Prop:=
 ∀(a:List (Addr×Obj))(s:Shared)(b:St)(H:Hp)(x:V)(c:List V)(v:Value)(d:List Value)(Q:VK),Inv X a b H s->RelV x v->Vals c d->r x c H Q->
  wpAny (model X.prog X.w) X.A (call (.builtin e) (v::d)) (EP X a b Q) X.xe s
section
variable{X:Cx}{a b:Expr}{ta tb:TE}{pos:Pos}
theorem Ky.or{r j:R2}(h:Ky X r)(h':Ky X j):Ky X (λx y H Q=>r x y H Q\/j x y H Q):=by
 intro c d e s f H x y v u Q I i g q k;rcases q with q|q
 .exact h c d e s f H x y v u Q I i g q k
 .exact h' c d e s f H x y v u Q I i g q k
theorem N3{r:R2}(j:Ky X r)(l:PE X a ta)(k:PE X b tb)(i:pK b):PE X (.Subscript a b pos) (YC r ta tb):=by intro c s d H Q I h;exact Subscript_ (Py l k I h λv u e x y n m g f q=>j a b c e d n x y v u Q m g f q (i _ _))
noncomputable def Vb(K:Frag):R2:=λx y H Q=>∃p c i v,x=.ref p/\y=.int i/\iN K H p c/\j9 c i=some v/\Q v H
noncomputable def Vd(K:Frag):R2:=λx y H Q=>∃p c i v,x=.ref p/\y=.int i/\kL K H p c/\j9 c i=some v/\Q v H
noncomputable def Ve:R2:=λx y H Q=>∃z i c,x=.str z/\y=.int i/\z.length<=sizeLine/\j9 z.cps.toList i=some c/\Q (.str ⟨#[c]⟩) H
theorem Kz:Ky X (Vb X.K):=by
 intro f g c s o H x y v u Q I F E h A;obtain⟨p,P,i,z,rfl,rfl,G,L,q⟩:=h;cases F;obtain⟨t,rfl⟩:=E;obtain⟨m,r,l,hz⟩:=I.list G;obtain⟨j,e,O,S,N,M⟩:=uW L;obtain⟨w,C,k⟩:=r.get O;have J:=r.length;have R:=qt;have d:EP X c o Q w s:=⟨z,H,I,k,q⟩;by_cases B:0<=i
 .have n:i.toNat=j:=by rw[seqIndex_of B M]at e;exact Kk e
  exact item_listR l.isList B (by lia) (by rw[n];simpa using C) d A
 .have n:(i+(m.toArray.size:Int)).toNat=j:=by rw[seqIndex_neg (by lia) N]at e;rw[Fs,<-J];exact Kk e
  exact subscriptTail_builtinR (x:=w) l.isList.typeIs slot_list_getitem.lookup
   (wpAny_getItem_list_neg (Q:=λr D=>r=w/\EP X c o Q r D) l.isList (by lia) (by rw[Fs]<;>lia) (by lia) (by rw[n];simpa using C) ⟨rfl,d⟩) A
theorem PV:Ky X (Vd X.K):=by
 intro d e c s k H x y v u Q I o n h B;obtain⟨p,L,i,z,rfl,rfl,C,E,q⟩:=h;cases o;obtain⟨t,rfl⟩:=n;obtain⟨A,r,l,hz⟩:=I.tuple C;obtain⟨j,G,F,P,O,N⟩:=uW E;obtain⟨w,J,f⟩:=r.get F;have D:=r.length;have M:=qt;have g:EP X c k Q w s:=⟨z,H,I,f,q⟩;exact subscriptTail_builtinR (x:=w) l.typeIs slot_tuple_getitem.lookup
  (getItem_tuple (j:=j) (Q:=λr m=>r=w/\EP X c k Q r m) l (by lia) (by lia) (by rw[Fs,<-D];exact G) (by simpa using J) ⟨rfl,g⟩) B
theorem PY:Ky X Ve:=by
 intro d e f s C H x y v u Q I l k h m;obtain⟨z,i,c,rfl,rfl,hz,o,q⟩:=h;obtain⟨t,rfl⟩:=l;obtain⟨D,rfl⟩:=k;obtain⟨j,g,w,F,r,p⟩:=uW o;have n:z.cps.toList.length=z.length:=by simp[Str.length]
 rw[n]at g r p;have E:=qt;exact tail_any (typeIs_str s z t) slot_str_getitem.lookup (getItem_str (c:=c) (by have B:decide (i< -(2^63:Int))=false:=Pi (by lia);have A:decide (i>=2^63)=false:=Pi (by lia);rw[B,A,de]) (by rw[g];simpa using w) ⟨.str ⟨#[c]⟩,H,I.tok _,⟨_,rfl⟩,q⟩) m
noncomputable def rIx(K:Frag):R2:=λx y H Q=>Vb K x y H Q\/Vd K x y H Q\/Ve x y H Q
theorem FL:Ky X (rIx X.K):=Kz.or (PV.or PY)
theorem z7(c:List Value)(n j:Nat)(u:Value):Obj.mapSeq (·.setIfInBounds j u) {cls:=.type "list",data:=.seq c.toArray n}={cls:=.type "list",data:=.seq (c.set j u).toArray n}:=by simp[Obj.mapSeq]
theorem Inv.lst{d:List (Addr×Obj)}{g:St}{H:Hp}{s:Shared}{p:Addr}{f:List V}(I:Inv X d g H s)(h:H p=some (.lst f)):
 ∃(c:List Value)(n:Nat),Vals f c/\s.heap.get? p=some {cls:=.type "list",data:=.seq c.toArray n}/\f.length<=sizeLine:=by
 obtain⟨z,c,n,r,e⟩:=I.hok p _ h;exact⟨c,n,r,e,z⟩
theorem Inv.PZ{c:List (Addr×Obj)}{j:St}{H:Hp}{s:Shared}{p:Addr}{l g:List V}{d its':List Value}{n i:Nat}{f:Obj->Obj}(I:Inv X c j H s)(h:H p=some (.lst l))
 (m:s.heap.get? p=some {cls:=.type "list",data:=.seq d.toArray n})(k:f {cls:=.type "list",data:=.seq d.toArray n}={cls:=.type "list",data:=.seq its'.toArray i})(r:Vals g its')(hz:g.length<=sizeLine)(t:Nat):
 Inv X c j (upd H p (.lst g)) {s with heap:=s.heap.update p f,toks:=t}:=by
 have e:(s.heap.update p f).get? p=some {cls:=.type "list",data:=.seq its'.toArray i}:=by rw[Heap.get?_update_self f m (by rw[k]<;>rfl),k]
 refine I.write (x:=p) (e:=p) (by rw[h];trivial) (.inl rfl) (λb u o q=>(Heap.get?_update_other _ _ (T2 o)).trans q) ⟨_,e⟩ ?_;exact⟨hz,its',i,r,e⟩
noncomputable def N4:V->V->V->Hp->(Hp->Prop)->Prop:=λo i v H Q=>∃p c k j,o=.ref p/\i=.int k/\H p=some (.lst c)/\xK c.length k=some j/\Q (upd H p (.lst (c.set j v)))
theorem set_list:UO X N4:=by
 intro c s A H o i v F G u Q I C D rv h;obtain⟨p,B,k,j,rfl,rfl,m,E,q⟩:=h;cases C;obtain⟨t,rfl⟩:=D;obtain⟨d,n,r,f,hz⟩:=I.lst m;obtain⟨e,K,x,w⟩:=BH E;have g:=r.length;have J:=qt;have z:Inv X c A (upd H p (.lst (B.set j v))) {s with heap:=s.heap.update p (Obj.mapSeq (·.setIfInBounds j u))}:=
  I.PZ m f (z7 d n j u) (r.set rv j) (by rw[Q1];exact hz) s.toks
 by_cases y:0<=k
 .have l:k.toNat=j:=by rw[seqIndex_of y w]at e;exact Kk e
  exact PySem.W.ki_setAt f y (by lia) (by rw[Fs,<-g];exact w) (by rw[l];exact⟨_,z,q⟩)
 .have l:(k+(d.toArray.size:Int)).toNat=j:=by rw[seqIndex_neg (by lia) x]at e;rw[Fs,<-g];exact Kk e
  exact PySem.W.ki_setBack f (by lia) (by rw[Fs,<-g];exact x) (by lia) (by rw[l];exact⟨_,z,q⟩)
theorem uX(c d:Option Int)(n:Nat):(sliceBounds c d none n).1=((HT.uo n 0 c:Nat):Int)/\(sliceBounds c d none n).2.1=((HT.uo n n d:Nat):Int)/\(sliceBounds c d none n).2.2=1:=by
 refine⟨?_,?_,rfl⟩
 .cases c with
  |none=>simp[sliceBounds,HT.uo]
  |some i=>
   simp only[sliceBounds,HT.uo,dB,show(1:Int)>0 by decide,if_true];by_cases h:i<0
   .simp only[h,if_true]<;>lia
   .simp only[h,if_false]<;>lia
 .cases d with
  |none=>simp[sliceBounds,HT.uo]
  |some i=>
   simp only[sliceBounds,HT.uo,dB,show(1:Int)>0 by decide,if_true];by_cases h:i<0
   .simp only[h,if_true]<;>lia
   .simp only[h,if_false]<;>lia
theorem sS(c:List Value)(d e:Option Int):slicePick c.toArray d e none=((c.drop (HT.uo c.length 0 d)).take (HT.uo c.length c.length e -HT.uo c.length 0 d)).toArray:=by obtain⟨h,g,f⟩:=uX d e c.toArray.size;unfold slicePick;rw[h,g,f];simp only[sliceRange_one,pick_run,Fs]<;>rfl
noncomputable def YH(K:Frag):V->Option Int->Option Int->Hp->VK->Prop:=λx d e H Q=>∃a c,x=.ref a/\iN K H a c/\∀p,H p=none->Q (.ref p) (upd H p (.lst (DF c d e)))
theorem KA:SlR X (YH X.K):=by intro g s t H x v w u e f y Q I j p l k h;obtain⟨a,c,rfl,n,q⟩:=h;cases j;obtain⟨m,r,i,hz⟩:=I.list n;have d:=r.length;refine⟨"list",_,slot_list_getitem.lookup,i.isList.typeIs,?_⟩;refine wpAny_getItem_list_slice i.isList p l k .none (by simp) ?_ (by rw[Fs]<;>lia);rw[sS,<-d];refine⟨.ref s.heap.objs.size,_,I.laid (t':=s.toks) (o:=.lst (DF c e f)) (λb z q=>Fk _ q) (Da _) ?_,rfl,q _ (I.hok.fresh (Da _))⟩;exact⟨DL (xY c e f) hz,_,0,(r.drop (HT.uo c.length 0 e)).take (HT.uo c.length c.length f -HT.uo c.length 0 e),On _ rfl⟩
theorem iR:dG X (.builtin "len") (λj H Q=>∃p d,j=[.ref p]/\(iN X.K H p d\/kL X.K H p d)/\Q (.int d.length) H):=by
 intro k s m H j n Q I r h;obtain⟨p,d,rfl,e,q⟩:=h;obtain⟨u,rfl,l⟩:=vals1 r;cases l;have o:=qt;rcases e with e|e
 .obtain⟨i,f,g,hz⟩:=I.list e;have c:=f.length;exact Calls.call_len_list g.isList (by simp only[Fs]<;>lia) ⟨.int d.length,H,I.tok _,⟨s.toks+1,by rw[Fs,c]⟩,q⟩
 .obtain⟨i,f,g,hz⟩:=I.tuple e;have c:=f.length;exact len_tuple g (by simp only[Fs]<;>lia) ⟨.int d.length,H,I.tok _,⟨s.toks+1,by rw[Fs,c]⟩,q⟩
theorem lU:dG X (.type "list") (λB H Q=>∃p f,B=[.ref p]/\(iN X.K H p f\/kL X.K H p f)/\∀l,H l=none->Q (.ref l) (upd H l (.lst f))):=by
 intro j s D H B F Q I r h;obtain⟨p,f,rfl,m,q⟩:=h;obtain⟨u,rfl,E⟩:=vals1 r;cases E;have v:∀(c:List Value),Vals f c->f.length<=sizeLine->∀(d:Heap)(i:Nat),(∀b C,s.heap.get? b=some C->d.get? b=some C)->
  d.get? s.heap.objs.size=some {cls:=.type "list",dict:=none,data:=.seq c.toArray i,slots:= #[]}->EP X j D Q (.ref s.heap.objs.size) {s with heap:=d}:=λc g hz d i k e=>
  ⟨.ref s.heap.objs.size,_,I.laid (t':=s.toks) k (Da _) (show cH X.prog X.w _ d _ (.lst f)from⟨hz,c,i,g,e⟩),rfl,q _ (I.hok.fresh (Da _))⟩
 rcases m with m|m
 .obtain⟨c,g,x,hz⟩:=I.list m;have t:=g.length;obtain⟨o,y,A,n,z⟩:=x.isList;exact call_list_seq p (.inl rfl) y A z (λd i k e=>v c g hz d i k e) (by simp only[Fs]<;>lia)
 .obtain⟨c,g,x,hz⟩:=I.tuple m;have t:=g.length;obtain⟨o,y,A,n,z⟩:=x;exact call_list_seq p (.inr rfl) y A z (λd i k e=>v c g hz d i k e) (by simp only[Fs]<;>lia)
theorem kq:dG X (.type "tuple") (λn H Q=>∃p f,n=[.ref p]/\((iN X.K H p f/\∀l,H l=none->Q (.ref l) (upd H l (.tup f)))\/(kL X.K H p f/\Q (.ref p) H))):=by
 intro c s m H n z Q I r h;obtain⟨p,f,rfl,h⟩:=h;obtain⟨u,rfl,v⟩:=vals1 r;cases v;rcases h with⟨k,q⟩|⟨k,q⟩
 .obtain⟨d,i,j,hz⟩:=I.list k;have t:=i.length;refine call_tuple_list j.isList (λg x=>?_) (by simp only[Fs]<;>lia);have I1:Inv X c m H {s with heap:=g}:=I.kept (t':=s.toks) x;have y:Inv X c m (upd H g.objs.size (.tup f)) {s with heap:=g.push {cls:=.type "tuple",data:=.seq d.toArray}}:=
   I1.laid (t':=s.toks) (λb o e=>Fk _ e) (Da _) (show cH X.prog X.w _ _ _ (.tup f)from⟨hz,d,i,IsTup.new _ _⟩)
  exact⟨.ref g.objs.size,_,y,rfl,q _ (I1.hok.fresh (Da _))⟩
 .obtain⟨d,i,j,hz⟩:=I.tuple k;exact call_tuple_same j ⟨.ref p,H,I,rfl,q⟩
noncomputable def YI(K:Frag)(T:String)(x:V)(H:Hp):Prop:=match x with
 |.str _=>T="str"
 |.int _=>T="int"
 |.ref p=>(T="list"/\∃d,iN K H p d)\/(T="tuple"/\∃o,K.lookup p=some o/\o.cls=.type "tuple"/\o.dict=none)\/
   (T="dict"/\((∃c,H p=some (.dK c))\/∃c,H p=some (.dT c)))\/(T="set"/\∃S n,H p=some (.set S n))
 |_=>False
theorem FN{f:List (Addr×Obj)}{q:St}{H:Hp}{s:Shared}{T:String}{x:V}{v:Value}(I:Inv X f q H s)(r:RelV x v)(g:YI X.K T x H):
 s.TypeIs v T/\∀a,v=.ref a->∃m,s.heap.get? a=some m/\m.dict=none:=by
 cases x with
 |str z=>obtain⟨t,rfl⟩:=r;cases(show T="str"from g);exact⟨typeIs_str s z t,λ_ e=>nomatch e⟩
 |int i=>obtain⟨t,rfl⟩:=r;cases(show T="int"from g);exact⟨typeIs_int s i t,λ_ e=>nomatch e⟩
 |ref p=>
  cases r;rcases g with⟨rfl,A,w⟩|⟨rfl,o,d,y,j⟩|⟨rfl,d⟩|⟨rfl,S,n,d⟩
  .obtain⟨u,_,l,_⟩:=I.list w;refine⟨l.isList.typeIs,λa e=>?_⟩;cases e;obtain⟨o,n,e,c,j,_⟩:=l;exact⟨o,e,j⟩
  .refine⟨⟨o,I.lO p o d,y⟩,λa e=>?_⟩;cases e;exact⟨o,I.lO _ o d,j⟩
  .have z:∃o,s.heap.get? p=some o/\o.ExactDict:=by
    rcases d with⟨h,d⟩|⟨h,d⟩
    .obtain⟨_,_,_,_,o,_,_,e,ex,_⟩:=I.hok p _ d;exact⟨o,e,ex⟩
    .obtain⟨_,_,_,_,o,_,_,e,ex,_⟩:=I.hok p _ d;exact⟨o,e,ex⟩
   obtain⟨o,e,ex⟩:=z;refine⟨⟨o,e,ex.1⟩,λa k=>?_⟩;cases k;exact⟨o,e,ex.2.1⟩
  .obtain⟨o,_,_,_,e,ex,_⟩:=I.hok p _ d;refine⟨⟨o,e,ex.1⟩,λa k=>?_⟩;cases k;exact⟨o,e,ex.2.1⟩
 |_=>exact Ew g
noncomputable def YJ(K:Frag)(T:String)(r:V->List V->Hp->VK->Prop)(e:TE):TE:=λd H Q=>e d H λx c=>YI K T x c/\r x [] c Q
noncomputable def XN(K:Frag)(T:String)(r:V->List V->Hp->VK->Prop)(f:TE)(t:TA):TE:=λc H Q=>f c H λx d=>YI K T x d/\t c d λe g=>r x e g Q
variable{o e:Expr}{es:List Expr}{to:TE}{t:TA}{name:Str}{apos cpos:Pos}{T id:String}{r:V->List V->Hp->VK->Prop}
theorem FO(p:PlainAttrs T)(g:Slot T name id)(i:typeOf (.builtin id)=pure (.type "method_descriptor"))(u:YG X id r)(q:PE X o to)
 (f:attributeBase o name X.env (eval o X.env)=eval o X.env:=by rfl)(d:(apos.endLine==cpos.line)=true:=by rfl):PE X (.Call (.Attribute o name apos) [] [] cpos) (YJ X.K T r to):=by
 intro c s j H Q I h;refine wpAny_Call_method0_late f d (cI (q c s j H _ I h) λv m ⟨x,z,I1,k,l,n⟩=>?_);obtain⟨y,w⟩:=FN I1 k l;exact⟨T,id,p,g,i,y,w,Calls.callWith_builtin rfl (PySem.evalArgs_none (u c m j z x [] v [] Q I1 k .nil n))⟩
theorem FP(C:PlainAttrs T)(i:Slot T name id)(l:typeOf (.builtin id)=pure (.type "method_descriptor"))(F:YG X id r)(E:PE X o to)(G:PA X (e::es) t)
 (g:attributeBase o name X.env (eval o X.env)=eval o X.env:=by rfl)
 (j:((backTo cpos (starEach (e::es) X.env)).all (λx=>!x.1)&&(backToKw cpos (keywordEach [] X.env)).all (λx=>x.1.isSome)
   &&decide ((e::es).length+([]:List Keyword).length+(if([]:List Keyword).isEmpty then 0 else 1)<30))=true:=by rfl)
 (f:(apos.endLine==cpos.line)=true:=by rfl)(D:starEach (e::es) X.env=(false,eval e X.env)::starEach es X.env:=by rfl)(d:(backTo cpos (starEach es X.env)).any (·.1)=false:=by rfl):
 PE X (.Call (.Attribute o name apos) (e::es) [] cpos) (XN X.K T r to t):=by
 intro c s k H Q I h;refine wpAny_Call_method_late g j f rfl (cI (E c s k H _ I h) λv y ⟨x,O,I1,m,u,B⟩=>?_);obtain⟨L,J⟩:=FN I1 m u;refine⟨T,id,C,i,l,L,J,?_⟩;have n:=G cpos c y k O _ I1 B;rw[D]at n⊢;refine Calls.callWith_builtin (by show(false||(backTo cpos (starEach es X.env)).any (·.1))=false;rw[d]<;>rfl) (Calls.evalArgs_plain ?_);exact cI n λq w ⟨p,N,M,z,A⟩=>F c w k N x p v q Q M m z A
end
noncomputable def MtM(X:Cx)(e:String)(r:V->List V->Hp->VK->Prop):Prop:=
 ∀(a:List (Addr×Obj))(s:Shared)(b:St)(H:Hp)(x:V)(c:List V)(v:Value)(d:List Value)(Q:VK),Inv X a b H s->RelV x v->Vals c d->r x c H Q->
  wpAny (model X.prog X.w) X.A (call (.builtin e) (v::d)) (EP X a b Q) X.xe s
theorem Vals.one{x:V}{us:List Value}(h:Vals [x] us):∃u,us=[u]/\RelV x u:=by
 cases h with
 |cons r h=>
  cases h;exact⟨_,rfl,r⟩
theorem Vals.zero:∀{us:List Value},Vals [] us->us=[]
 |_,.nil=>rfl
theorem Vals.dropLast{a:List V}{us:List Value}(h:Vals a us):Vals a.dropLast us.dropLast:=by
 induction h with
 |nil=>exact .nil
 |cons r t b=>
  cases t with
  |nil=>exact .nil
  |cons q c=>exact .cons r b
theorem Vals.reverse{a:List V}{us:List Value}(h:Vals a us):Vals a.reverse us.reverse:=by
 induction h with
 |nil=>exact .nil
 |cons r t b=>rw[vk,vk];exact Vals.append b (.cons r .nil)
theorem Vals.rep{a:List V}{us:List Value}(h:Vals a us):∀k:Nat,Vals (A0 k a).flatten (A0 k us).flatten
 |0=>.nil
 |k+1=>by rw[G8,G8,KD,KD];exact Vals.append h (Vals.rep h k)
theorem z8{α:Type}(l:List α):l.eraseIdx (l.length -1)=l.dropLast:=by
 induction l with
 |nil=>rfl
 |cons a r c=>
  cases r with
  |nil=>rfl
  |cons b r=>
   have e:(a::b::r).length -1=((b::r).length -1)+1:=by have f:(a::b::r).length=r.length+2:=rfl;have d:(b::r).length=r.length+1:=rfl;lia
   rw[e,List.eraseIdx_cons_succ,c]
   all_goals rfl
theorem foldl_rep(a:List Value):∀(k:Nat)(b:List Value),
 dZ (λd c=>d++c) b.toArray (A0 k a.toArray)=(b++(A0 k a).flatten).toArray
 |0,b=>by simp
 |k+1,b=>by
  have e:b.toArray++a.toArray=(b++a).toArray:=by simp
  have f:(b++a)++(A0 k a).flatten=b++(A0 (k+1) a).flatten:=by rw[G8,KD,SL]
  rw[<-f,<-foldl_rep a k (b++a),<-e,G8,List.foldl_cons]
section
variable{X:Cx}{pins:List (Addr×Obj)}{σ:St}{H:Hp}{s:Shared}{l b:Addr}{xs ys zs:List V}
theorem Inv.Vf{a its':List Value}{n:Nat}{f:Array Value->Array Value}{t':Nat}(I:Inv X pins σ H s)(i:H l=some (.lst xs))
 (e:s.heap.get? l=some {cls:=.type "list",data:=.seq a.toArray n})(g:f a.toArray=its'.toArray)(c:Vals ys its')(hz:ys.length<=sizeLine):
 Inv X pins σ (upd H l (.lst ys)) {s with heap:=s.heap.update l (Obj.mapSeq f),toks:=t'}:=by
 have q:=PySem.IsL.update e f;rw[g]at q;refine I.write (x:=l) (e:=l) (by rw[i];exact trivial) (.inl rfl) (λj u h d=>(Heap.get?_update_other s.heap (Obj.mapSeq f) (T2 h)).trans d) ⟨_,q⟩ ?_;exact⟨hz,its',_,c,q⟩
theorem Inv.P4{a:List Value}{t':Nat}(I:Inv X pins σ H s)(c:Vals ys a)(hz:ys.length<=sizeLine):
 Inv X pins σ (upd H s.heap.objs.size (.lst ys)) {s with heap:=s.heap.push {cls:=.type "list",data:=.seq a.toArray},toks:=t'}:=
 I.laid (λ_ _ q=>Fk _ q) (Da _) ⟨hz,a,0,c,On _ rfl⟩
theorem Inv.fresh(I:Inv X pins σ H s):H s.heap.objs.size=none:=I.hok.fresh (Da _)
theorem Inv.KC(I:Inv X pins σ H s)(c:H l=some (.lst xs)):xs.length<=sizeLine/\∃(a:List Value)(n:Nat),Vals xs a/\xs.length=a.length/\s.heap.get? l=some {cls:=.type "list",data:=.seq a.toArray n}:=by obtain⟨z,a,n,r,e⟩:=I.hok l _ c;exact⟨z,a,n,r,r.length,e⟩
theorem FQ{n:Nat}(h:n<=sizeLine):Builtin.List.listTooLong n=false:=by unfold Builtin.List.listTooLong;exact Pi (by lia)
end
section
variable{X:Cx}
noncomputable def pL:V->List V->Hp->VK->Prop:=λx b H Q=>∃l a y,x=.ref l/\b=[y]/\H l=some (.lst a)/\a.length<sizeLine/\Q .aW (upd H l (.lst (a++[y])))
theorem jU:MtM X "list.append" pL:=by intro b s g H x j v k Q I d rv h;obtain⟨l,i,y,rfl,rfl,c,hz,q⟩:=h;cases d;obtain⟨u,rfl,f⟩:=rv.one;obtain⟨z,a,n,r,m,e⟩:=I.KC c;refine call_meets F.slot_list_append ⟨_,e,rfl⟩ F.entry_list_append (F.args_list_append_2 _ _) (PySem.list_append l a.toArray n u (by rw[Fs];lia)) ⟨e,?_⟩;refine⟨.aW,_,I.Vf (its':=a++[u]) c e (by simp) (r.append (.cons f .nil)) ?_,rfl,q⟩;rw[Fm,aN];lia
noncomputable def YK:V->List V->Hp->VK->Prop:=λx b H Q=>∃l a y,x=.ref l/\b=[]/\H l=some (.lst a)/\a[a.length -1]?=some y/\Q y (upd H l (.lst a.dropLast))
theorem P5:MtM X "list.pop" YK:=by
 intro c s o H x t v w Q I f rv h;obtain⟨l,p,y,rfl,rfl,d,i,q⟩:=h;cases f;have m:=rv.zero;subst m;obtain⟨z,a,n,r,k,e⟩:=I.KC d;obtain⟨u,j,g⟩:=r.get i;have b:a.toArray[a.toArray.size -1]?=some u:=by show a.toArray[a.length -1]?=some u;rw[<-Array.getElem?_toList,<-k];exact j
 refine call_meets F.slot_list_pop ⟨_,e,rfl⟩ F.entry_list_pop (F.args_list_pop_1 _) (MeetsSeq.list_pop_last l a.toArray n u b (by rw[Fs];lia)) ⟨e,?_⟩;refine⟨y,_,I.Vf (its':=a.dropLast) d e ?_ r.dropLast ?_,g,q⟩
 .show a.toArray.eraseIdxIfInBounds (a.toArray.size -1)=a.dropLast.toArray;rw[Fs,List.eraseIdxIfInBounds_toArray,z8]
 .rw[List.length_dropLast];lia
noncomputable def YM:R2:=λx y H Q=>∃l b c a,x=.ref l/\y=.ref b/\H l=some (.lst c)/\H b=some (.lst a)/\c.length+a.length<=sizeLine/\∀p,H p=none->Q (.ref p) (upd H p (.lst (c++a)))
theorem P6:kM X (binaryOp .Add) YM:=by
 intro d s t H x y v u Q I g f h;obtain⟨l,b,B,w,rfl,rfl,k,m,hz,q⟩:=h;cases g;cases f;obtain⟨z,c,n,r,D,e⟩:=I.KC k;obtain⟨A,a,C,i,j,p⟩:=I.KC m;refine PySem.P.add_list e p ?_ (by rw[Fs,Fs];lia);have o:c.toArray++a.toArray=(c++a).toArray:=by simp
 rw[o];exact⟨.ref _,_,I.P4 (t':=s.toks) (r.append i) (by rw[Fm];lia),rfl,q _ I.fresh⟩
theorem len_rep{α:Type}(a:List α)(k:Nat):(A0 k a).flatten.length=k*a.length:=by
 induction k with
 |zero=>simp
 |succ k b=>rw[G8,KD,Fm,b,xc,km]
end
section
variable{prog:Program}{w:World}{A:Around}{E:Value->Shared->Prop}{s:Shared}
end
section
variable{X:Cx}
end
end L2
namespace Att
open PySem PySem.W PySem.Calls PyProof.Rows
theorem oU{P:Params}{h:Heap}:∀(ns:List Int)(vs:List Value),WellAll P h vs (ns.map WData.int)->IntsAre vs ns:=by
 intro ns
 induction ns with
 |nil=>intro vs w;rw[xk]at w;cases w;exact .nil
 |cons n ns c=>
  intro vs w;rw[RF]at w;cases w with
  |cons a b=>
   cases a;exact .cons _ _ (c _ b)
theorem DG{l:OpenLaw}{n:Nat}(u:l.most=some n){P:Params}{h:Heap}{args:List WData}{b:List Value}
 (c:l.row.toRowW.claim.pre args=true)(j:WellAll P h b args):
 ∃a vs ns,b=[Value.ref a]/\args=[WData.list (ns.map WData.int)]/\h.get? a=some {cls:=.type "list",data:=.seq vs.toArray}/\IntsAre vs ns/\ns.length<=n:=by
 have k:WShape.hasAll [] args [.list .int]=true:=(pre_splitW c).1;have m:l.pre.holds [] {args:=args}=true:=(pre_splitW c).2;obtain⟨d,r,rfl,x,w⟩:=hasAllW_cons k;obtain rfl:=hasAllW_nil w;obtain⟨y,rfl,v⟩:=hasW_list x;obtain⟨ns,rfl⟩:=items_int v;have e:ns.length<=n:=by
  unfold OpenLaw.pre at m;have i:(WTm.not (.lt (.lit (.int (n:Int))) (.len (.arg 0)))).holds [] {args:=[.list (ns.map .int)]}=true:=by have i:=(holds_andW m).1;rw[u]at i;exact i
  have g:=condW_of i (w_not (w_lt w_lit (w_len_list (w_arg rfl))));rw[AN]at g;refine Nw λq=>?_;have s:(n:Int)<((ns.length:Nat):Int):=by lia
  first
   |(rw[IH s]at g;exact absurd g (by decide))
   |(simp at g;lia)
 cases j with
 |cons p o=>
  cases o;cases p with
  |list t f=>exact⟨_,_,ns,rfl,rfl,t,oU ns _ f,e⟩
theorem DH(l:OpenLaw)(args:List WData):l.row.toRowW.claim.post args (.bool true) args=true:=
 postW_of (r:=l.row.toRowW) (X:=(true==true))
  (show WShape.has [] (.bool true) .bool=true by first|rfl|decide|simp[WShape.has,WShape.arms,WShape.armsAll])
  (show(WTm.eq .res (.lit (.bool true))).value [] {args:=args,res:=some (.bool true),after:=args}=some (.bool (true==true))from w_eq_bool (w_res rfl) w_lit) rfl
theorem xZ{l:OpenLaw}{n:Nat}{q:Program}{e:List Str}{F:(Str->Option Value)->Heap->Prop}{E:World->Heap->Prop}{d:DefRec}
 (K:l.most=some n)(y:d.params.defaults=[])
 (call:∀(w:World)(c b:Shared)(p u:Str->Option Value)(m:Addr)(o:Obj)(t s h:Value)(a:Addr)(vs:List Value)(ns:List Int),
   Ground q e [] F w c p u b.heap->E w b.heap->
   b.heap.get? m=some o->o.data=.func (docDef d.name d.params d.body d.scope t s h)->b.heap.CodeRec s d.name->p d.name=some (.ref m)->
   b.heap.get? a=some {cls:=.type "list",data:=.seq vs.toArray}->IntsAre vs ns->ns.length<=n->b.gens= #[]->
   codeAny (model l.prog w) callerA (.call (.ref m) ⟨[.ref a],[]⟩) (λr s'=>r=.ok (.ret (.bool true))/\OldK b.heap s'.heap/\s'.os=b.os/\AllBare s'.gens) b):
 WalkO q e F E l.row.toRowW d [] (λf vs=>PySem.call f vs):=by
 intro w c b p u G Y m o t s h S kV J O z C x N D A T i B H v M;obtain rfl:S=.none:=Dflts.none C y;obtain rfl:kV=.none:=Dflts.noKw C;obtain⟨a,vs,ns,rfl,rfl,j,g,k⟩:=DG K i v;refine enter_call (wb (call w c b p u m o t s h a vs ns G Y J (fd_plain O) z x j g k N) λr s' I=>?_);obtain⟨rfl,R,Q,P⟩:=I;exact⟨.inl ⟨.bool true,.bool true,[],rfl,λ_=>rfl,.bool true,DH l _,λ_=>⟨YR,λ_ L=>(nomatch L)⟩⟩,R,Q,P⟩
section
variable{prog:Program}{w:World}{A:Around}{E:Value->Shared->Prop}{s:Shared}{K:Frag}
end
end Att
namespace L2
open PySem PySem.Spec PyProof.Rows
theorem uq:∀{vs:List Value}{ns:List Int},IntsAre vs ns->Vals (ns.map V.int) vs
 |_,_,.nil=>.nil
 |_,_,.cons n t h=>.cons ⟨t,rfl⟩ (uq h)
noncomputable def FT(H:Hp):Prop:=∀b,H b=none\/∃o a,H b=some (.xS o (.lst a))
theorem FU{P:Program}{w:World}{K:Frag}{p O:Str->Option Value}{CX:DB}{k:Nat}{T a:Addr}{fd:FuncData}{x:Str}{sp:Sp}{c:Shared}{vs:List Value}{ns:List Int}
 (KX:K.In c.heap)(y:c.heap.Ns mainGlobals p)(f:c.heap.Ns builtinsNs O)(R:∀x:Str,x≠"__name__"->O x=bootBuiltins x)(A:c.heap.NoLimit)(J:c.heap.NoSeer)(Vg:P.given.tree=none)(hg:c.gens= #[])
 (B:c.heap.get? a=some {cls:=.type "list",data:=.seq vs.toArray})(Z:IntsAre vs ns)(Y:ns.length<=sizeLine)(hr:dD k callerA)
 (F:∀base:Heap,K.In base->base.Ns mainGlobals p->bN P w K p base CX k T fd [x] sp)(j:∀(s:Shared)(u:Value),BindsTo s fd ⟨[u],[]⟩ [(x,u)])
 (FI:∀H:Hp,FT H->iN K H a (ns.map V.int)->sp [.ref a] H (λv _=>v=.bl true) λ_ _ _=>False)
 (YN:∀H e s',CX [] H c (λ_ _ _=>False) e s'->False):
 codeAny (model P w) callerA (.call (.ref T) ⟨[.ref a],[]⟩) (λr s'=>r=.ok (.ret (.bool true))/\OldK c.heap s'.heap/\s'.os=c.os/\AllBare s'.gens) c:=by
 have rv:=uq Z;have YO:=Z.length;have g:∀H:Hp,FT H->iN K H a (ns.map V.int)->lI P w H c.heap->(∀b,H b≠none->b=a)->(H a≠none->K.lookup a=none)->
  codeAny (model P w) callerA (.call (.ref T) ⟨[.ref a],[]⟩) (λr s'=>r=.ok (.ret (.bool true))/\OldK c.heap s'.heap/\s'.os=c.os/\AllBare s'.gens) c:=by
  intro H hO hS t S hK;have L:∀{b:Addr}{o:Obj},c.heap.get? b=some o->H b=none->(uR c.heap H).get? b=some o:=λe n=>Fi e n;have U8:∀{b:Addr}{o:Obj}{D:Array DictEntry}{E:Nat},c.heap.get? b=some o->o.data=.dict D E->H b=none:=λ{b o D E} e d=>by
   cases q:H b with
   |none=>rfl
   |some u=>have G:b=a:=S b (by rw[q];simp);subst G;rw[B]at e;cases e;have U:Data.seq vs.toArray _=Data.dict D E:=d;cases U
  have i:∀{b:Addr}{m:Str->Option Value},c.heap.Ns b m->(uR c.heap H).Ns b m:=λ{b m} ⟨o,D,E,e,d,r⟩=>⟨o,D,E,L e (U8 e d),d,r⟩;have C:K.In (uR c.heap H):=λb o e=>L (KX b o e) (by
   cases q:H b with
   |none=>rfl
   |some u=>have G:b=a:=S b (by rw[q];simp);subst G;rw[hK (by rw[q];simp)]at e;cases e)
  have N:∀{b:Addr}{o:Obj},c.heap.get? b=some o->o.cls=.type "module"->H b=none:=λ{b o} e d=>by
   cases q:H b with
   |none=>rfl
   |some u=>have G:b=a:=S b (by rw[q];simp);subst G;rw[B]at e;cases e;have U:Value.type "list"=Value.type "module":=d;exact absurd U (by decide)
  have hM:Mod K p (uR c.heap H):=⟨C,i y,⟨O,i f,R⟩,let⟨mc,h1,h2⟩:=A;⟨mc,i h1,h2⟩,⟨let⟨m,h1,h2⟩:=J.statics;⟨m,i h1,h2⟩,let⟨m,h1,h2⟩:=J.mods;⟨m,i h1,h2⟩,let⟨m,h1,h2⟩:=J.imp;⟨m,i h1,h2⟩,let⟨m,bm,M,h1,h2,h3,h4,h5⟩:=J.main;⟨m,bm,M,i h1,h2,L h3 (N h3 h4),h4,h5⟩⟩⟩;have e0:z4 P w K p (uR c.heap H) callerA [] c H:=⟨rfl,hM,λb o e=>J7 e,eJ (Di _ _),trivial,λb f=>absurd (show b∈([]:List Addr)from f) (by simp),t,.of_eq hg,Vg⟩;refine wb ((F _ C (i y)).run callerA [] c H ⟨[.ref a],[]⟩ [.ref a] [.ref a] _ _ hr e0 (j c (.ref a)) (.cons rfl .nil) (FI H hO hS)) λr s' h=>?_;cases r with
  |error e=>exact(YN H e s' h).elim
  |ok fl=>
   cases fl with
   |next=>exact Ew h
   |brk=>exact Ew h
   |cont=>exact Ew h
   |ret u=>
    obtain⟨v,H',os,I,X,YQ,r',q⟩:=h;have q':v=.bl true:=q;subst q';obtain rfl:u=Value.bool true:=r';refine⟨rfl,OldK.of_keep λb o e=>?_,os,I⟩;cases q:H b with
    |none=>exact X.keep b o e q (by intro z;exact absurd (show b∈([]:List Addr)from z) (by simp)) (by simp)
    |some u=>
     rcases hO b with z|⟨M,xs,z⟩
     .rw[q]at z;cases z
     .have z2:=X.kI b M _ z;obtain⟨e1,_⟩:=t b _ z;obtain⟨e2,_⟩:=YQ b _ z2;rw[e]at e1;cases e1;exact e2
 cases Q:K.lookup a with
 |some o=>have e:=KX a o Q;rw[B]at e;cases e;refine g (λ_=>none) (λ_=>.inl rfl) (.inr ⟨_,vs.toArray,_,Q,rfl,rfl,rfl,by rw[Fs,YO];exact Y,by simpa using rv⟩) (λb u z=>by have l:(none:Option HO)=some u:=z;cases l) (λb z=>absurd rfl z) λz=>absurd rfl z
 |none=>
  refine g (λb=>if b=a then some (.xS {cls:=.type "list",data:=.seq vs.toArray} (.lst (ns.map V.int)))else none) (λb=>?_) (.inl (.inr ⟨{cls:=.type "list",data:=.seq vs.toArray},Bz rfl⟩)) (λb u z=>?_) (λb z=>?_) λ_=>Q
  .by_cases f:b=a
   .exact .inr ⟨_,_,Bz f⟩
   .exact .inl (Bn f)
  .by_cases f:b=a
   .have l:=(Bz f).symm.trans z;cases l;subst f;exact⟨B,by rw[AN];exact Y,vs,_,rv,B⟩
   .have l:=(Bn f).symm.trans z;cases l
  .by_cases f:b=a
   .exact f
   .exact absurd (Bn f) z
theorem KG{l:PySem.W.OpenLaw}{n k:Nat}{q:Program}{i:List Str}{XP:(Str->Option Value)->Heap->Prop}{E:World->Heap->Prop}{d:DefRec}{K:Params->Frag}{CX:World->DB}{sp:World->Sp}{x:Str}
 (L:l.most=some n)(z:n<=sizeLine)(B:d.params.defaults=[])(J:dD k callerA)(X:importsNone q=true)(y:l.prog.given.tree=none)
 (P:∀(w:World)(h:Heap),E w h->(K w.params).In h)
 (F:∀(w:World)(m:Str->Option Value)(t:Addr)(h:Heap),(K w.params).In h->h.Ns mainGlobals m->m d.name=some (.ref t)->
   ∃C:FuncData,(∀(s:Shared)(u:Value),BindsTo s C ⟨[u],[]⟩ [(x,u)])/\
    ∀base:Heap,(K w.params).In base->base.Ns mainGlobals m->bN l.prog w (K w.params) m base (CX w) k t C [x] (sp w))
 (FI:∀(w:World)(H:Hp)(a:Addr)(ns:List Int),ns.length<=n->FT H->iN (K w.params) H a (ns.map V.int)->sp w [.ref a] H (λv _=>v=.bl true) λ_ _ _=>False)
 (Z:∀(w:World)(H:Hp)(s:Shared)(e:Value)(s':Shared),CX w [] H s (λ_ _ _=>False) e s'->False):
 PySem.W.WalkO q i XP E l.row.toRowW d [] (λf vs=>PySem.call f vs):=by
 refine Att.xZ L B λw D p m mb t o pm cd U a vs ns G Y ho hd N A r j c M=>?_;have I:=P w _ Y;obtain⟨C,O,S⟩:=F w m t _ I G.T.g A;exact FU I G.T.g G.T.b G.T.builtins G.T.nolimit (G.T.seer X) y M r j (DL c z) J S O (λH R Q=>FI w H a ns c R Q) λH e s'=>Z w H p e s'
noncomputable def inClass(s:Stmt)(j:Nat):Stmt:=match s with
 |.ClassDef _ _ _ body _ _ _ _ _ _ _=>body.getD j (.Pass ⟨0,0,0,0⟩)
 |_=>.Pass ⟨0,0,0,0⟩
noncomputable def cC(s:Stmt):Arguments:=match s with
 |.FunctionDef _ a _ _ _ _ _ _ _ _=>a
 |_=>{posonlyargs:=[],args:=[],vararg:=none,kwonlyargs:=[],kw_defaults:=[],kwarg:=none,defaults:=[]}
noncomputable def aV(s:Stmt):List Stmt:=match s with
 |.FunctionDef _ _ b _ _ _ _ _ _ _=>b
 |_=>[]
noncomputable def aj(s:Stmt):Scope:=match s with
 |.FunctionDef _ _ _ _ _ _ sc _ _ _=>sc
 |_=>{kind:=.function,names:=[],isGenerator:=false,isCoroutine:=false}
abbrev KH:DB:=λ_ _ _ _ _ _=>False
abbrev E0:XK:=λ_ _ _=>False
theorem Vh{X:Cx}:Passes KH X E0:=λ_ _ _ _ _ _ _ h=>h.elim
structure DI(K:Frag)(x qual:Str)(st:Stmt)(f:Addr)(fd:FuncData):Prop where
 ex:∃(oc:Value)(od:Option Addr)(kV doc pm:Value)(an:Option Addr)(cdv ct:Value)(osl:Array (Option Value)),
  fd=fnOf x qual (cC st) (aV st) (aj st) .none kV doc pm an cdv ct/\K.lookup f=some ⟨oc,od,.func fd,osl⟩/\codeIn K cdv qual=true
 kp:keepIn K (.ref f)=true
section
variable{P:Program}{w:World}{K:Frag}{mg:Str->Option Value}{base:Heap}
theorem DI.ok{x b:Str}{st:Stmt}{f:Addr}{i:FuncData}{N ps:List Str}{k:Nat}{sp:Sp}(F:DI K x b st f i)(S:cU N ps (aj st))(e:∀vs H Q E,sp vs H Q E->vs.length=ps.length)
 (d:∀(c:Value)(A:Around)(a:List Env)(s:Shared)(H:Hp)(vs:List V)(Q:VK)(E:XK),dD k (A.deeper (envOfC b (aj st) s.heap.objs.size f c))->sp vs H Q E->
   ∃t,sN (z6 KH P w K mg base N b (aj st) f c A a s H E).jS (aV st) t/\t {nx:=λ_ H'=>Q .aW H',rt:=Q} (start N vs) H):bN P w K mg base KH (k+1) f i ps sp:=by
 obtain⟨u,r,kV,n,p,y,c,v,j,rfl,l,g⟩:=F.ex;refine NZ l g S e λA a s H vs Q E m o=>?_;obtain⟨t,h,q⟩:=d c A a s H vs Q E m o;exact⟨t,h.jS,q⟩
theorem DI.binds{x a:Str}{st:Stmt}{f:Addr}{i:FuncData}{ps:List Str}(F:DI K x a st f i)
 (h:∀(kV b d:Value)(g:Option Addr)(c e:Value)(us:List Value),us.length=ps.length->bindArgs (fnOf x a (cC st) (aV st) (aj st) .none kV b d g c e) ⟨us,[]⟩=pure (ps.zip us)):Binds K i ps []:=by
 obtain⟨m,l,kV,b,d,g,c,e,j,rfl,n,k⟩:=F.ex;exact .all (h kV b d g c e)
theorem FW{x a:Str}{st:Stmt}{f:Addr}{m:Value}{j i:Option Addr}{e:Array (Option Value)}{kV d g b h:Value}(l:K.lookup f=some ⟨m,j,.func (fnOf x a (cC st) (aV st) (aj st) .none kV d g i b h),e⟩)
 (c:codeIn K b a=true)(k:keepIn K (.ref f)=true):DI K x a st f (fnOf x a (cC st) (aV st) (aj st) .none kV d g i b h):=⟨⟨m,j,kV,d,g,i,b,h,e,rfl,l,c⟩,k⟩
end
theorem DJ{n:Nat}(h:n<=1000):n<sizeLine:=GM h (by decide)
section
variable{X:Cx}
theorem pv(i:Nat){x:Str}{pos:Pos}(d:X.N[i]?=some x:=by rfl)(b:Tz X.env.scope x:=by first|exact Qd rfl|exact Pv (Qd rfl)|exact Pv (Pv rfl))(c:(x==("__debug__":Str))=false:=by decide)
 (a:(x==("__classdict__":Str))=false:=by decide):PE X (.Name x pos) (kJ i):=Fo d b c a
end
noncomputable def aE(H H':Hp):Prop:=∀b o,H b=some o->H' b=some o
theorem aE.refl(H:Hp):aE H H:=λ_ _ h=>h
theorem aE.trans{H H1 d:Hp}(a:aE H H1)(b:aE H1 d):aE H d:=λc o h=>b c o (a c o h)
theorem aE.free{H H':Hp}(e:aE H H'){l:Addr}(h:H' l=eu):H l=eu:=by
 cases q:H l with
 |none=>rfl
 |some o=>rw[e l o q]at h;cases h
theorem bits_le{x:Int}{n:Nat}(h:x.natAbs<2^n):Builtin.Int.intBits x<=n:=by
 unfold Builtin.Int.intBits;split
 .exact L9 _
 .rename_i hx
  have a:x.natAbs≠0:=λe=>hx (by simp[Int.natAbs_eq_zero.mp e]);have:=(X6 a).mpr h;omega
theorem z9{i j:Int}(h:Builtin.Int.intBits i+Builtin.Int.intBits j<=134217728):IntMulOk i j:=by
 unfold IntMulOk Builtin.Int.intTooBig;have a:¬((Builtin.Int.intBits i:Int)+(Builtin.Int.intBits j:Int)>((bitsLine:Nat):Int)):=by rw[bitsLine_eq];omega
 intro z;rw[Bi]at z;exact a (Do z.2)
section
variable{X:Cx}
theorem KI:kM X (binaryOp .Mult) (rI IntMulOk λi j=>.int (i*j)):=UX λ_ _ _ _ _ _ _ a q=>mul_int q a
noncomputable def BJ(_ j:Int):Prop:=j≠0/\j.natAbs.log2<1000000000
theorem FY:kM X (binaryOp .FloorDiv) (rI BJ λi j=>.int (i.fdiv j)):=λa s e H x y v u Q I c b h=>by obtain⟨i,j,rfl,rfl,d,q⟩:=h;obtain⟨t,rfl⟩:=c;obtain⟨f,rfl⟩:=b;exact floordiv_int d.1 ⟨.int (i.fdiv j),H,I.tok _,⟨_,rfl⟩,q⟩ (.inr (I.ok.UD X.A s rfl rfl I.bk))
end
theorem aL{H:Hp}{p:Addr}(h:H p=none)(o:HO):aE H (upd H p o):=λb u q=>by rw[aq (aO q h)];exact q
theorem FZ{H H':Hp}{p:Addr}(s:aE H H')(h:H p=none)(o:HO):aE H (upd H' p o):=λb u q=>by rw[aq (aO q h)];exact s b u q
theorem aE.tup{K:Frag}{H H':Hp}{a:Addr}{b:List V}(e:aE H H')(h:kL K H a b):kL K H' a b:=by
 rcases h with(h|⟨o,h⟩)|h
 .exact .inl (.inl (e _ _ h))
 .exact .inl (.inr ⟨o,e _ _ h⟩)
 .exact .inr h
theorem ie{n:Nat}(h:n<=100000):n<=sizeLine:=DL h (by decide)
end L2
namespace L2
theorem gk{i j:Int}(c:0<=j)(b:j<=1000000)(a:i.natAbs<2^64):sR i j:=⟨c,b,a⟩
end L2
namespace L2
open PySem PySem.Spec PyProof.Rows
theorem x6{H:Hp}{p q:Addr}{o u:HO}(a:H q=some u)(b:H p=none):upd H p o q=some u:=by rw[aq (aO a b)];exact a
theorem cH.thing{P:Program}{w:World}{H:Hp}{h:Heap}{a:Addr}{o:HO}(x:cH P w H h a o):∃b,h.get? a=some b:=by
 cases o with
 |lst d=>obtain⟨_,_,_,_,e⟩:=x;exact⟨_,e⟩
 |tup d=>obtain⟨_,_,_,b,e,_⟩:=x;exact⟨_,e⟩
 |dK c=>obtain⟨_,_,_,_,b,_,_,e,_⟩:=x;exact⟨_,e⟩
 |dT c=>obtain⟨_,_,_,_,b,_,_,e,_⟩:=x;exact⟨_,e⟩
 |set S n=>obtain⟨b,_,_,_,e,_⟩:=x;exact⟨_,e⟩
 |ins C l g=>obtain⟨_,_,_,e,_⟩:=x;exact⟨_,e⟩
 |own y=>exact x
 |xd g=>obtain⟨_,⟨_,_,_,e,_⟩,_⟩:=x;exact⟨_,e⟩
 |jP j k=>obtain⟨_,_,_,e⟩:=x;exact⟨_,e⟩
 |xS b u=>obtain⟨e,_⟩:=x;exact⟨_,e⟩
 |NR i=>exact⟨_,x⟩
 |met f y=>exact⟨_,x⟩
 |ext φ=>obtain⟨_,e,_⟩:=x;exact e
theorem lI.gone{P:Program}{w:World}{H:Hp}{h:Heap}{a:Addr}(x:lI P w H h)(e:h.get? a=none):H a=none:=by
 cases q:H a with
 |none=>rfl
 |some u=>obtain⟨b,z⟩:=(x a u q).thing;rw[e]at z;cases z
theorem lI.tracked{P:Program}{w:World}{H:Hp}{h h':Heap}(x:lI P w H h)(k:∀b u c,H b=some u->h.get? b=some c->h'.get? b=some c):lI P w H h':=λa o e=>
 (x a o e).stay (λb u z q=>by
   rcases z with rfl|z
   .exact k b o u e q
   .exact k b _ u z q) (λ_ q=>q) λ_ _ q=>q
structure Fly(P:Program)(w:World)(outer:List Env)(H:Hp)(s:Shared)(H':Hp)(a C:Addr)(s':Shared):Prop where
 os:s'.os=s.os
 bare:AllBare s'.gens
 un:Un (frs outer) [] H H' s.heap s'.heap
 hok:lI P w H' s'.heap
 new:H' a=none
 old:s.heap.get? a=none
 Vi:∃(B:Heap)(a0:Value),Heap.FlyingW B outer a (.ref C) a0 s'.heap/\∀b o,s'.heap.get? b=some o->b∉frs outer->((∃o',s.heap.get? b=some o')\/∃u,H' b=some u)->B.get? b=some o
noncomputable def ic(P:Program)(w:World):DB:=λb H s E e d=>∃a C c,e=.ref a/\Fly P w b H s c a C d/\E (.ref C) none c
section
variable{P:Program}{w:World}{K:Frag}{mg:Str->Option Value}{base:Heap}{N:List Str}{qual:Str}{scope:Scope}{f:Addr}{cd:Value}{A:Around}{outer:List Env}{s:Shared}{H:Hp}{E:XK}
abbrev lJ(P:Program)(w:World)(K:Frag)(mg:Str->Option Value)(base:Heap)(N:List Str)(qual:Str)(scope:Scope)(f:Addr)(cd:Value)(A:Around)(outer:List Env)(s:Shared)(H:Hp)(E:XK):Cx:=
 z6 (ic P w) P w K mg base N qual scope f cd A outer s H E
theorem qv{e:Env}{l:List Env}{L b:Addr}(a:e.frame=some L):b∈frs (e::l)↔b=L\/b∈frs l:=by unfold frs;rw[NU,a];exact Fn
theorem x8{g:List (Addr×Obj)}{x:St}{H1 t:Hp}{i:Shared}{r:Heap}(I:Inv (lJ P w K mg base N qual scope f cd A outer s H E) g x H1 i)
 (u:Un (frs (lJ P w K mg base N qual scope f cd A outer s H E).stack) [] H1 t i.heap r):Un (frs outer) [] H t s.heap r:=by
 have D:(lJ P w K mg base N qual scope f cd A outer s H E).env.frame=some s.heap.objs.size:=rfl;have p:∀b,b∈frs (lJ P w K mg base N qual scope f cd A outer s H E).stack↔b=s.heap.objs.size\/b∈frs outer:=λb=>qv D;have c:Un (frs outer) [] H H1 s.heap i.heap:=I.base;have k:∀b o,s.heap.get? b=some o->b∉frs outer->b∉frs (lJ P w K mg base N qual scope f cd A outer s H E).stack:=λb o q d z=>by
  rcases(p b).mp z with z|z
  .exact absurd (GT q) (by rw[z];exact OF _)
  .exact d z
 refine⟨λb o q n d a=>?_,λb o q n d a=>?_,λb o q n a=>?_,λb o q a=>?_,λb m q=>u.tups b m (c.tups b m q),λb o v q=>u.kI b o v (c.kI b o v q),λb y q=>?_⟩
 .exact u.keep b o (c.keep b o q n d a) (c.free b o q n a) (k b o q d) a
 .obtain⟨F,e⟩:=c.slot b o q n d a;obtain⟨h,l⟩:=u.slot b _ e (c.free b o q n a) ((p b).mpr (.inr d)) a;exact⟨h,l⟩
 .obtain⟨j,e⟩:=c.there b o q a;exact u.free b j e (c.free b o q n a) a
 .obtain⟨j,e⟩:=c.there b o q a;exact u.there b j e a
 .obtain⟨C,e⟩:=c.lN b y q;obtain⟨B,l⟩:=u.lN b _ e;exact⟨C++B,by rw[l,d6]⟩
theorem Aa{l:List Env}{H1 t:Hp}{p g h:Heap}(u:Un (frs l) [] H1 t p g)(k:∀b o,g.get? b=some o->b∉frs l->((∃c,p.get? b=some c)\/∃u,t b=some u)->h.get? b=some o)
 (ff:∀b,b∈frs l->∃o,g.get? b=some o/\∀vs,o.data≠.fields vs)(up:g.UpToSlots h):Un (frs l) [] H1 t p h:=by
 have v:∀b o,b∈frs l->g.get? b=some o->∃m,h.get? b=some {o with slots:=m}:=λb o a q=>by obtain⟨c,e,x⟩:=ff b a;rw[q]at e;cases e;exact up b o q x
 refine⟨λb o q n a d=>k b o (u.keep b o q n a d) a (.inl ⟨o,q⟩),λb o q n a d=>?_,u.free,λb o q d=>?_,u.tups,u.kI,u.lN⟩
 .obtain⟨m,i⟩:=u.slot b o q n a d;obtain⟨j,r⟩:=v b _ a i;exact⟨j,r⟩
 .obtain⟨c,i⟩:=u.there b o q d;by_cases a:b∈frs l
  .obtain⟨m,r⟩:=v b c a i;exact⟨_,r⟩
  .exact⟨c,k b c i a (.inl ⟨o,q⟩)⟩
theorem F3{b:List (Addr×Obj)}{d:St}{H1:Hp}{c:Shared}{a:Addr}(I:Inv (lJ P w K mg base N qual scope f cd A outer s H E) b d H1 c)(e:c.heap.get? a=none):s.heap.get? a=none:=by
 have g:Un (frs outer) [] H H1 s.heap c.heap:=I.base;cases q:s.heap.get? a with
 |none=>rfl
 |some o=>obtain⟨h,z⟩:=g.there a o q (by simp);rw[e]at z;cases z
theorem Ab{d:List (Addr×Obj)}{J:St}{H1:Hp}{c:Shared}{h':Heap}{a C:Addr}{k:List Value}(I:Inv (lJ P w K mg base N qual scope f cd A outer s H E) d J H1 c)
 (l:Heap.MadeExcOf c.heap h' a (.ref C) k)(q:E (.ref C) none H1):(lJ P w K mg base N qual scope f cd A outer s H E).xe (.ref a) {c with heap:=h'}:=by
 have D:(lJ P w K mg base N qual scope f cd A outer s H E).env.frame=some s.heap.objs.size:=rfl;have R:∀b,b∈frs (lJ P w K mg base N qual scope f cd A outer s H E).stack↔b=s.heap.objs.size\/b∈frs outer:=λb=>qv D;have ff:=I.stack;have p:∀env∈(lJ P w K mg base N qual scope f cd A outer s H E).stack,∀b,env.frame=some b->b∈frs (lJ P w K mg base N qual scope f cd A outer s H E).stack:=λenv T b r=>Sl.mpr ⟨env,T,r⟩;have j:=PySem.W.funFrames_hide ff p;refine wpAny_leaves_madeW (base:=PySem.W.hideAll c.heap (frs (lJ P w K mg base N qual scope f cd A outer s H E).stack)) (h:=c.heap) I.ok.frames D (λb o z=>PySem.W.of_hideAll _ z) j l λn t y Y X M=>?_;have v:∀b o,c.heap.get? b=some o->b∉frs (lJ P w K mg base N qual scope f cd A outer s H E).stack->n.get? b=some o:=λb o z g=>y.1 b o (hideAll_get _ z g);have fm:∀b,b∈frs (lJ P w K mg base N qual scope f cd A outer s H E).stack->∃o,c.heap.get? b=some o/\∀O,o.data≠.fields O:=λb r=>(j.mem r).2;have up:c.heap.UpToSlots n:=(Heap.UpToSlots.of_keeps l.keeps).trans M;have Q:Un (frs (lJ P w K mg base N qual scope f cd A outer s H E).stack) [] H1 H1 c.heap n:=Aa Un.refl (λb o z g _=>v b o z g) fm up;refine⟨a,C,H1,rfl,⟨I.os,I.bare,x8 I Q,I.hok.tracked λb u S z L=>v b S L λm=>?_,I.hok.gone l.new,F3 I l.new,_,_,y,λb o z g i=>?_⟩,q⟩
 .have:=I.jQ b m;rw[z]at this;cases this
 .have G:b∉frs (lJ P w K mg base N qual scope f cd A outer s H E).stack:=λm=>by
   rcases i with⟨B,e⟩|⟨u,e⟩
   .rcases(R b).mp m with m|m
    .exact absurd (GT e) (by rw[m];exact OF _)
    .exact g m
   .have:=I.jQ b m;rw[e]at this;cases this
  have:∃o1,c.heap.get? b=some o1:=by
   rcases i with⟨B,e⟩|⟨u,e⟩
   .exact Un.there (show Un (frs outer) [] H H1 s.heap c.heap from I.base) b B e (by simp)
   .exact(I.hok b u e).thing
  obtain⟨o1,F⟩:=this;have U:=v b o1 F G;have x:n.get? b=some o:=z;rw[U]at x;cases x;exact hideAll_get _ F G
theorem F4{g:List (Addr×Obj)}{G:St}{H1:Hp}{i s':Shared}{e:Value}(I:Inv (lJ P w K mg base N qual scope f cd A outer s H E) g G H1 i)
 (S:ic P w (lJ P w K mg base N qual scope f cd A outer s H E).stack H1 i E e s'):(lJ P w K mg base N qual scope f cd A outer s H E).xe e s':=by
 obtain⟨a,C,n,rfl,F,q⟩:=S;obtain⟨B,Y,x,k⟩:=F.Vi;have t:(lJ P w K mg base N qual scope f cd A outer s H E).env.frame=some s.heap.objs.size:=rfl;have Q:∀b,b∈frs (lJ P w K mg base N qual scope f cd A outer s H E).stack↔b=s.heap.objs.size\/b∈frs outer:=λb=>qv t;refine wpAny_leaves_onW I.ok.frames t x λU h L=>?_;have fm:∀b,b∈frs (lJ P w K mg base N qual scope f cd A outer s H E).stack->∃o,s'.heap.get? b=some o/\∀M,o.data≠.fields M:=λb T=>(x.2.2.1.mem T).2;have D:∀b u,n b=some u->b∉frs (lJ P w K mg base N qual scope f cd A outer s H E).stack:=λb u z m=>by have l:=I.jQ b m;obtain⟨o,R,_⟩:=I.stack.mem m|>.2;rw[F.un.free b o R l (by simp)]at z;cases z
 have O:=Aa F.un (λb o z j c=>h.1 b o (k b o z j c)) fm L;refine⟨a,C,n,rfl,⟨F.os.trans I.os,F.bare,x8 I O,F.hok.tracked λb u r z J=>h.1 b r (k b r J (D b u z) (.inr ⟨u,z⟩)),F.new,F3 I F.old,B,Y,h,λb o z j c=>?_⟩,q⟩;have Z:b∉frs (lJ P w K mg base N qual scope f cd A outer s H E).stack:=λm=>by
  rcases c with⟨d,e⟩|⟨u,e⟩
  .rcases(Q b).mp m with m|m
   .exact absurd (GT e) (by rw[m];exact OF _)
   .exact j m
  .exact D b u e m
 have y:(∃d,i.heap.get? b=some d)\/∃u,n b=some u:=by
  rcases c with⟨d,e⟩|z
  .exact .inl (Un.there (show Un (frs outer) [] H H1 s.heap i.heap from I.base) b d e (by simp))
  .exact .inr z
 have:∃o1,s'.heap.get? b=some o1:=by
  rcases y with⟨d,e⟩|⟨u,e⟩
  .exact F.un.there b d e (by simp)
  .exact(F.hok b u e).thing
 obtain⟨o1,l⟩:=this;have v:=k b o1 l Z y;have X:=h.1 b o1 v;have p:U.get? b=some o:=z;rw[X]at p;cases p;exact v
theorem N6:Passes (ic P w) (lJ P w K mg base N qual scope f cd A outer s H E) E:=λ_ _ _ _ _ _ I h=>F4 I h
end
abbrev YS:List Value:=[.type "ValueError",.type "Exception",.type "BaseException",.type "object"]
structure sU(K:Frag)(C:Addr):Prop where
 exc:excIn K C YS "ValueError.__new__"=true
 ga:findIn K (.ref C) "__getattribute__"=some (some (.builtin "BaseException.__getattribute__"))
 gt:findIn K (.ref C) "__getattr__"=some none
 cl:findIn K (.ref C) "__class__"=some (some (.builtin "object.__class__"))
 ob:mroIn K C (.type "object")=some true
 bs:mroIn K C (.type "BaseException")=some true
theorem KJ{p:Prop}(h:false=true):p:=nomatch h
theorem exA{o:Option Obj}{F:Option Addr->ClassData->Array (Option Value)->Bool}(q:PySem.W.excIn.match_6 (λ_=>Bool) o F (λ_=>false)=true):∃d c l,o=some ⟨.type "type",d,.cls c,l⟩/\F d c l=true:=by
 rcases o with _|⟨b,g,a,f⟩
 .exact KJ q
 cases b with
 |type s=>
  by_cases e:s="type"
  .subst e;cases a with
   |cls h=>exact⟨_,_,_,rfl,q⟩
   |_=>exact KJ q
  .delta PySem.W.excIn.match_6 at q
   exact KJ ((dif_neg e).symm.trans q)
 |_=>exact KJ q
theorem exB{m:List Value}{l:List (Option Value)}{F:Addr->List Value->Option Value->Option Value->Option Value->Option Value->String->Option Value->Bool}(q:PySem.W.excIn.match_1 (λ_ _=>Bool) m l F (λ_ _=>false)=true):∃a b k0 k1 k2 k3 n k5,m=.ref a::b/\l=[k0,k1,k2,k3,some (.builtin n),k5]/\F a b k0 k1 k2 k3 n k5=true:=by
 rcases m with _|⟨v,d⟩
 .exact KJ q
 cases v with
 |ref e=>
  rcases l with _|⟨k0,_|⟨k1,_|⟨k2,_|⟨k3,_|⟨_|v,r⟩⟩⟩⟩⟩<;>try exact KJ q
  cases v with
  |builtin n=>
   rcases r with _|⟨k5,_|⟨c,r⟩⟩<;>try exact KJ q
   exact⟨_,_,_,_,_,_,_,_,rfl,rfl,q⟩
  |_=>exact KJ q
 |_=>exact KJ q
theorem pM{K:Frag}{h:Heap}{C:Addr}{b:List Value}{a:String}(X:K.In h)(q:excIn K C b a=true):
 ∃bm N nm c bs hdct sn sub ab col dd k0 k1 k2 k3 k5 mN,h.get? C=some (excClassObj nm c C N bs bm hdct sn sub ab col dd k0 k1 k2 k3 k5 a)/\h.Ns N mN/\mN "__init__"=none/\OwnTail h b bm:=by
 obtain⟨dd,v,d,i,q⟩:=exA q;have s:=X _ _ i;clear i;obtain⟨w,bm,k0,k1,k2,k3,n,k5,g,f,q⟩:=exB q;obtain⟨nm,bs,r,p,c,t,sn,sub,ab,col,u⟩:=v;obtain⟨d⟩:=d;dsimp only at g f q;subst g f;simp only[Bi,P3,pk]at q;obtain⟨⟨⟨⟨⟨o,m⟩,l⟩,k⟩,e⟩,j⟩:=q;subst o m l;exact⟨bm,p,nm,c,bs,t,sn,sub,ab,col,dd,k0,k1,k2,k3,k5,_,s,Heap.Ns.of_isNs (PySem.W.isNs_of_in X e),PySem.W.nsMap_none_of_in X e j,PySem.W.tail_of_in X k⟩
noncomputable def Ac(X:Cx)(R:Addr->Hp->Prop):Prop:=∀(b:List (Addr×Obj))(e:St)(H:Hp)(s:Shared)(d:Heap)(a C:Addr)(c:List Value),Inv X b e H s->Heap.MadeExcOf s.heap d a (.ref C) c->R C H->X.xe (.ref a) {s with heap:=d}
theorem BL{P:Program}{w:World}{K:Frag}{d:Str->Option Value}{base:Heap}{N:List Str}{c:Str}{a:Scope}{f:Addr}{g:Value}{A:Around}{b:List Env}{s:Shared}{H:Hp}{E:XK}:
 Ac (lJ P w K d base N c a f g A b s H E) (λC H'=>E (.ref C) none H'):=λ_ _ _ _ _ _ _ _ I e q=>Ab I e q
noncomputable def P7(R:Addr->Hp->Prop)(C:Addr)(t:TA):TS:=λ_ a H=>t a H λb c=>b.length<=sizeLine/\R C c
section
variable{X:Cx}{x:Str}{C:Addr}{e:Expr}{t:TA}{np cpos pos:Pos}{R:Addr->Hp->Prop}
theorem F5(v:Ac X R)(p:X.calm=true)(o:Gl X x)(m:X.mg x=some (.ref C))(q:sU X.K C)(u:PA X [e] t)(f:starEach [e] X.env=[(false,eval e X.env)]:=by rfl)
 (hd:(x==("__debug__":Str))=false:=by decide):PS X (.Raise (some (.Call (.Name x np) [e] [] cpos)) none pos) (P7 R C t):=by
 intro b s d H D I h;obtain⟨bm,N,nm,j,bs,hdct,sn,sub,ab,col,dd,k0,k1,k2,k3,k5,mN,y,w,c,T⟩:=pM I.ok.mod.Tw q.exc;refine wpAny_Raise_call_subT (C:=C) (bm:=bm) (mN:=mN) (nm:=nm) (q:=j) (N:=N) (bs:=bs) (hdct:=hdct) (sn:=sn) (sub:=sub) (ab:=ab) (col:=col) (dd:=dd) (k0:=k0) (k1:=k1) (k2:=k2) (k3:=k3) (k5:=k5) (F:=PySem.F.excBase_ValueError) (T.hasType PySem.F.excBase_ValueError.hasBase) (I.ok.hd p) (by rw[f];rfl) c (jR I o m ⟨rfl,?_⟩ hd);have g:=u cpos b s d H _ I h;rw[f]at g⊢;refine Calls.evalArgs_plain (cI g λG i z=>?_);obtain⟨E,B,I1,r,n,k⟩:=z;refine⟨rfl,by rw[<-r.length];exact n,I1.bk _ _ y,w.keeps I1.bk,T.keeps I1.bk,λA a l=>v b d B i A a C _ I1 l k⟩
end
theorem PS.jS{X:Cx}{st:Stmt}{t:TS}(h:PS X.jS st t):PS X st t:=λa s b H D I c=>dn (h a s b H D (I.oR _) c) (λ_ _ q=>q.gP) λ_ _ z=>Ew z
theorem DI.XQ{P:Program}{w:World}{K:Frag}{i:Str->Option Value}{base:Heap}{x b:Str}{st:Stmt}{f:Addr}{j:FuncData}{N ps:List Str}{k:Nat}{sp:Sp}(F:DI K x b st f j)(S:cU N ps (aj st))
 (d:∀vs H Q E,sp vs H Q E->vs.length=ps.length)
 (o:∀(c:Value)(A:Around)(a:List Env)(s:Shared)(H:Hp)(vs:List V)(Q:VK)(E:XK),dD k (A.deeper (envOfC b (aj st) s.heap.objs.size f c))->sp vs H Q E->
   ∃t,sN (lJ P w K i base N b (aj st) f c A a s H E) (aV st) t/\t {nx:=λ_ H'=>Q .aW H',rt:=Q} (start N vs) H):bN P w K i base (ic P w) (k+1) f j ps sp:=by
 obtain⟨u,r,kV,p,q,y,c,v,l,e,m,g⟩:=F.ex;subst e;exact NZ m g S d λA a s H vs Q E n h=>o c A a s H vs Q E n h
theorem bN.Vk{P:Program}{w:World}{K:Frag}{c:Str->Option Value}{base:Heap}{k:Nat}{f:Addr}{d:FuncData}{ps:List Str}{sp:Sp}(F:bN P w K c base (ic P w) k f d ps sp):
 bN P w K c base KH k f d ps (λvs H Q _=>sp vs H Q E0):=
 ⟨λvs H Q E h=>F.len vs H Q E0 h,λA a s H b g vs Q E i l j r h=>wb (F.run A a s H b g vs Q E0 i l j r h) λr m z=>by
   cases r with
   |error e=>obtain⟨_,_,_,_,_,q⟩:=z;exact q.elim
   |ok fl=>cases fl<;>exact z⟩
noncomputable def FX(X:Cx)(a:List (Addr×Obj))(d:St)(E:XK)(e:Value)(s':Shared):Prop:=∃c b,Inv X a d c b/\ic X.prog X.w X.stack c b E e s'
abbrev TX:=St->Hp->VK->XK->Prop
noncomputable def PX(X:Cx)(e:Expr)(t:TX):Prop:=
 ∀(a:List (Addr×Obj))(s:Shared)(b:St)(H:Hp)(Q:VK)(E:XK),Inv X a b H s->t b H Q E->wpAny (model X.prog X.w) X.A (eval e X.env) (EP X a b Q) (FX X a b E) s
noncomputable def P8(sp:Sp)(t:TA):TX:=λa H Q E=>t a H λb c=>sp b c Q E
section
variable{X:Cx}{k:Nat}{f:Addr}{fd:FuncData}{ps:List Str}{sp:Sp}{x:Str}{p pos:Pos}{e:Expr}{es:List Expr}{t:TA}
theorem KL(F:bN X.prog X.w X.K X.mg X.base (ic X.prog X.w) k f fd ps sp)(v:dD k X.A)(D:Gl X x)(y:X.mg x=some (.ref f))(C:keepIn X.K (.ref f)=true)(J:Binds X.K fd ps [])
 (L:PA X.jS (e::es) t)(i:(x==("__debug__":Str))=false:=by decide)(G:starEach (e::es) X.env=(false,eval e X.env)::starEach es X.env:=by rfl)(g:(backTo pos (starEach es X.env)).any (·.1)=false:=by rfl):
 PX X (.Call (.Name x p) (e::es) [] pos) (P8 sp t):=by
 intro a s n H Q E I h;refine rf (jR I D y ?_ i);have M:=L pos a s n H _ (I.oR _) h;refine callWith_K (h₀:=X.base) I.ok.mod.Tw C (dn M (λb c z=>?_) λ_ _ z=>Ew z) G g;obtain⟨o,m,l,r,q⟩:=z;have I1:Inv X a n m c:=l.gP;refine⟨I1.lO,?_⟩;have B:b.length=ps.length:=by rw[<-r.length];exact F.len _ _ _ _ q
 have j:BindsTo c fd ⟨b,[]⟩ (ps.zip b):=by have:=J c b I1.lO (by rw[aw];exact B);rwa [aw]at this
 refine wpAny_call (wb (F.run X.A X.stack c m ⟨b,[]⟩ b o Q E v I1.PR j r q) λr N d=>?_);cases r with
 |error e=>exact⟨m,c,I1,d⟩
 |ok fl=>
  cases fl with
  |ret u=>exact I1.after d
  |next=>exact Ew d
  |brk=>exact Ew d
  |cont=>exact Ew d
end
noncomputable def kr(a C:Addr)(h:Heap):Prop:=∃b c,h.get? a=some b/\b.cls=.ref C/\b.data=.fields c
noncomputable def DK(a C:Addr):HO:=.ext (kr a C)
section
variable{X:Cx}{pins:List (Addr×Obj)}{σ:St}{H:Hp}{s:Shared}
abbrev lV(X:Cx)(a:Addr):Cx:={X with A:=X.A.mark (some (.ref a)),calm:=false,xe:=λ_ _=>False}
theorem Inv.suite(I:Inv X pins σ H s)(a:Addr):Inv (lV X a) pins σ H s:=
 ⟨⟨I.ok.mod,I.ok.kind,I.ok.glob,I.ok.blt,I.ok.above,I.ok.inj,I.ok.has,I.ok.TF,(λz=>by cases z),I.ok.frames,I.ok.stk,I.ok.XG,I.ok.bs,I.ok.JU,I.ok.Dj,I.ok.Dk,I.ok.nj,I.ok.NS,I.ok.tree,I.ok.UD⟩,I.os,I.bare,I.base,I.loc,I.cell,I.free,I.gH,I.pin,I.hok,I.len⟩
theorem Inv.pN{a:Addr}(b:X.Ok)(I:Inv (lV X a) pins σ H s):Inv X pins σ H s:=
 ⟨b,I.os,I.bare,I.base,I.loc,I.cell,I.free,I.gH,I.pin,I.hok,I.len⟩
theorem Inv.adopt{H1:Hp}{j:Shared}{a:Addr}{f:Heap->Prop}(i:Inv X pins σ H1 j)(L:j.heap.get? a=none)(I:Inv X pins σ H s)(n:H a=none)(p:f s.heap)(J:∃o,s.heap.get? a=some o)
 (st:∀y w:Heap,f y->(∀o,y.get? a=some o->w.get? a=some o)->f w):Inv X pins σ (upd H a (.ext f)) s:=by
 have h:∀b o,j.heap.get? b=some o->b≠a:=λb o z e=>by rw[e,L]at z;cases z
 have g:∀b u,H b=some u->upd H a (.ext f) b=some u:=λb u z=>by rw[aq (aO z n)];exact z
 refine⟨I.ok,I.os,I.bare,⟨I.base.keep,I.base.slot,λb o q m l=>?_,I.base.there,λb k q=>g b _ (I.base.tups b k q),λb o v q=>g b _ (I.base.kI b o v q),λb E q=>?_⟩,I.loc,I.cell,?_,λx c e=>?_,λp r=>?_,λb u z=>?_,I.len⟩
 .obtain⟨F,d⟩:=i.base.there b o q l;rw[aq (h b F d)];exact I.base.free b o q m l
 .obtain⟨G,d⟩:=I.base.lN b E q;exact⟨G,g b _ d⟩
 .obtain⟨m,K,_⟩:=i.loc;obtain⟨o,_,_,d,_⟩:=K;rw[aq (h _ o d)];exact I.free
 .obtain⟨v,o,d,_⟩:=i.cell x c e;rw[aq (h _ o d)];exact I.gH x c e
 .obtain⟨D,C,B⟩:=I.pin p r;refine⟨D,?_,B⟩;obtain⟨A,_⟩:=i.pin p r;rw[aq (h _ _ A)];exact C
 .by_cases t:b=a
  .subst t;rw[aA]at z;cases z;exact⟨p,J,st⟩
  .rw[aq t]at z;exact(I.hok b u z).stay (λ_ _ _ q=>q) (λc q=>g c _ q) λc k q=>g c _ q
theorem name_goes{M:Model}{A:Around}{E:Value->Shared->Prop}{i:Nat}{n:Str}{pos:Pos}{Q:Unit->Shared->Prop}(I:Inv X pins σ H s)(hN:X.N.Nodup)(J:X.N[i]?=some n)(hl:X.env.scope.names.lookup n=some .local)
 (h:∀s',Inv X pins (σ.set i none) H s'->Q () s'):wpAny M A (do bindName X.env n .none;unbindBehindTheSuite X.env n pos) Q E s:=by
 obtain⟨m,G,w⟩:=id I.loc;have l:(X.env.scope.kind==.class||(X.env.scope.kind==.module&&X.env.locals !=X.env.globals))=false:=by rw[I.ok.kind];rfl
 have Ka:i<σ.length:=by rw[I.len];exact(FR.mp J).1
 have Fj:=I.Fj;refine wpAny_nameGoes_keeps hl G l λh' v t a=>?_;obtain⟨oL,_,_,Z,_⟩:=id G;have C:∀b o,X.s₀.heap.get? b=some o->b≠X.env.locals:=λb o e=>Os (FV (GT e) I.ok.above);refine h _ ⟨I.ok,I.os,I.bare,⟨λb o e n B g=>?_,λb o e n B g=>?_,I.base.free,λb o e g=>?_,I.base.tups,I.base.kI,I.base.lN⟩,⟨_,t,λj y O f r e3=>?_⟩,λy c e=>?_,I.free,I.gH,λp Y=>?_,?_,by simpa using I.len⟩
 .exact(a.2 b (C b o e)).trans (I.base.keep b o e n B g)
 .obtain⟨P,f⟩:=I.base.slot b o e n B g;exact⟨P,(a.2 b (C b o e)).trans f⟩
 .obtain⟨S,f⟩:=I.base.there b o e g;exact⟨S,(a.2 b (C b o e)).trans f⟩
 .by_cases x:j=i
  .subst x;rw[PP Ka]at r;cases r
  .rw[Iy (T2 x)]at r;obtain⟨D,R,q⟩:=w j y O f r e3;refine⟨D,R,?_⟩;rcases q with⟨k,e⟩|⟨k,c,e,z⟩
   .refine .inl ⟨k,?_⟩;have:y≠n:=λe=>x (qk hN f (e▸J));show(if y=n then v else m y)=some D;rw[Bn this];exact e
   .exact .inr ⟨k,c,e,z.sameBut a (Fj y c e)⟩
 .obtain⟨L,z⟩:=I.cell y c e;exact⟨L,z.sameBut a (Fj y c e)⟩
 .obtain⟨e,U,F,T,d⟩:=I.pin p Y;exact⟨(a.2 p.1 F).trans e,U,F,T,d⟩
 .exact I.hok.tracked λb u ob z K=>(a.2 b λe=>by rw[e,I.free]at z;cases z).trans K
end
theorem Ad{M:Model}{A:Around}{E:Value->Shared->Prop}{K:Frag}{s:Shared}{a C D:Addr}{i:Obj}{Q:Bool->Shared->Prop}(X:K.In s.heap)(w:sU K C)(e:sU K D)(n:s.heap.get? a=some i)(c:i.cls=.ref C)
 (b:mroIn K C (.ref D)=some true)(l:Q true s):wpAny M A (excMatches (.ref a) (.ref D)) Q E s:=by
 obtain⟨h,g,d,t,x⟩:=s;obtain⟨O,N,y,v,bs,j,u,k,P,p,L,I,H,G,F,B,z,o,J,m,T⟩:=pM X e.exc;have r:=tf (M:=M) X b;have q:=tf (M:=M) X e.bs;have f:=tc_notTuple;unfold excMatches
 repeat (first|(with_reducible refine wpAny_loadPart_at n ?_;rw[c])|with_reducible refine wpAny_loadPart_at o ?_|exact l|with_reducible refine r.at ?_|with_reducible refine q.at ?_|wp_step)
abbrev Ends.past(D:Ends)(i:Nat):Ends:={nx:=λσ' H'=>D.nx (σ'.set i none) H',rt:=D.rt,bk:=λσ' H'=>D.bk (σ'.set i none) H',ct:=λσ' H'=>D.ct (σ'.set i none) H'}
noncomputable def YT(K:Frag)(i:Nat)(D:Addr)(te:TX)(e:TS):TS:=λW d H=>te d H (λ_ b=>W.nx d b) (λc _ b=>∃C,c=.ref C/\sU K C/\mroIn K C (.ref D)=some true/\
 ∀a,b a=none->e (W.past i) (d.set i (some (.ref a))) (upd b a (DK a C)))
theorem Inv.Vi{X:Cx}{c:List (Addr×Obj)}{k:St}{H1 f:Hp}{g d e:Shared}{a C:Addr}{B:Heap}{A:Value}(I:Inv X c k H1 g)(F:Fly X.prog X.w X.stack H1 g f a C d)
 (p:∀b o,d.heap.get? b=some o->b∉frs X.stack->((∃s,g.heap.get? b=some s)\/∃u,f b=some u)->B.get? b=some o)(x:Heap.FlyingW B X.stack a (.ref C) A d.heap)(l:B.StaysIn e.heap)(up:d.heap.UpToSlots e.heap)
 (j:e.os=d.os)(y:e.gens=d.gens):Inv X c k f e:=by
 have fm:∀b,b∈frs X.stack->∃o,d.heap.get? b=some o/\∀r,o.data≠.fields r:=λb i=>(x.2.2.1.mem i).2;have D:∀b u,f b=some u->b∉frs X.stack:=λb u z m=>by have j:=I.jQ b m;obtain⟨o,v,_⟩:=I.stack.mem m|>.2;rw[F.un.free b o v j (by simp)]at z;cases z
 refine I.Fl (ch:=[]) (j.trans F.os) (Aa F.un (λb o z t h=>l b o (p b o z t h)) fm up) (F.hok.tracked λb u n z q=>l b n (p b n q (D b u z) (.inr ⟨u,z⟩))) (by rw[y];exact F.bare) λb i=>absurd i (by simp)
theorem P9{X:Cx}{e:Expr}{n x:Str}{i:Nat}{D:Addr}{c:Stmt}{suite:List Stmt}{te:TX}{th:TS}{p1 p2 np pos:Pos}(g:X.stack=X.env::X.outer/\X.env.frame=some X.env.locals)(w:X.N.Nodup)(t:X.N[i]?=some n)
 (l:X.env.scope.names.lookup n=some .local)(hg:Gl X x)(hm:X.mg x=some (.ref D))(qD:sU X.K D)(he:PX X e te)(hs:∀a,sN (lV X a) (c::suite) th)(L:swapsWith e none p1.line X.env=pure false:=by rfl)
 (hd:(x==("__debug__":Str))=false:=by decide):PS X (.Try [.Expr e p1] [.ExceptHandler (some (.Name x np)) (some n) (c::suite) p2] [] [] pos) (YT X.K i D te th):=by
 intro b s m H W I h;refine wpAny_Try_except (wpAny_execs_cons (wpAny_Expr_any (dn (he b s m H _ _ I h) (λv o z=>?_) λev o z=>?_) I.quiet L))
 .obtain⟨y,H1,I1,r1,q1⟩:=z;exact qr (qr ⟨m,H1,I1,q1⟩)
 obtain⟨H1,s0,R,a,C,S,rfl,F,C',O,qC,p,q⟩:=z;cases O;obtain⟨B,a0,Q,kB⟩:=F.Vi;have fr:X.A.frames=some (X.env::X.outer):=by rw[I.ok.frames,g.1]
 have P:Heap.FlyingW B (X.env::X.outer) a (.ref C) a0 o.heap:=by rw[<-g.1];exact Q
 refine wpAny_looks_onW fr g.2 P λh4 y4 Z=>wpAny_landsW y4 λh5 E Y=>?_;have I5:Inv X b m S {o with heap:=h5}:=R.Vi F kB Q E.1 (Z.trans Y) rfl rfl;obtain⟨ob,M,YU⟩:=E.there;refine wpAny_handleBy_cons (codeAny_handlers_test (jR (X:=lV X a) (I5.suite a) hg hm ?_ hd)) (by intro z;cases z);refine Ad (K:=X.K) I5.lO qC qD M YU p (codeAny_handlers_suite_as ?_);refine lands_againW E λh6 U u6=>?_;have I6:Inv X b m S {o with heap:=h6}:=R.Vi F kB Q U.1 ((Z.trans Y).trans u6) rfl rfl;obtain⟨oe,vs,g1,g2,g3,_⟩:=U.first
 have I7:Inv X b m (upd S a (DK a C)) {o with heap:=h6}:=Inv.adopt R F.old I6 F.new ⟨oe,vs,g1,g2,g3⟩ ⟨oe,g1⟩ λh1 h2 z k=>by obtain⟨o1,v1,z1,z2,z3⟩:=z;exact⟨o1,v1,k _ z1,z2,z3⟩
 refine eW (X:=lV X a) (v:=.ref a) (I7.suite a) w t (.inl l) rfl (λs7 I8=>?_) (.inr l);refine dn (hs a b s7 _ _ _ I8 (q a F.new)) (λf s8 z=>?_) λ_ _ z=>Ew z;cases f with
 |next=>obtain⟨d,T,J,z⟩:=z;exact name_goes (J.pN I.ok) w t l λG j=>⟨_,_,j,z⟩
 |brk=>obtain⟨d,T,J,z⟩:=z;exact name_goes (J.pN I.ok) w t l λG j=>⟨_,_,j,z⟩
 |cont=>obtain⟨d,T,J,z⟩:=z;exact name_goes (J.pN I.ok) w t l λG j=>⟨_,_,j,z⟩
 |ret u=>obtain⟨v,d,T,J,r,z⟩:=z;exact name_goes (J.pN I.ok) w t l λG j=>⟨_,_,_,j,r,z⟩
section
variable{prog:Program}{w:World}{A:Around}{E:Value->Shared->Prop}{s:Shared}{K:Frag}{a C:Addr}
theorem jo{M:Model}{h:Heap}(p:kr a C h):PySem.W.Looks M h (typeOf (.ref a)) (.ref C):=by obtain⟨o,d,c,b,e⟩:=p;exact b▸(PySem.W.Looks.ld c).andThen .now
theorem KN{c:Value}{R:Result->Shared->Prop}(X:K.In s.heap)(p:kr a C s.heap)(q:sU K C)(h:R (.ok (.ret (.ref C))) s):
 codeAny (model prog w) A (.call (.builtin "getset_descriptor.__get__") ⟨[.builtin "object.__class__",.ref a,c],[]⟩) R s:=by
 obtain⟨e,g,f,t,d⟩:=s;have j:=jo (M:=model prog w) p;have i:=tf (M:=model prog w) X q.ob;have b:=PySem.W.KF.slot_gs;refine codeAny_call_builtin b.plain PySem.W.KF.entry_gs (b.check _ _ _ _ _ _ _ _ PySem.W.KF.type_class (PySem.W.KF.args_gs _ _ _) ?_);unfold Builtin.«getset_descriptor.__get__»;unfold Builtin.Getset_descriptor.descrGet;rw[PySem.W.dga_obj];apply KB;apply Qb;unfold Builtin.Getset_descriptor.descrGetter;unfold Builtin.Getset_descriptor.descrCheckInstance;unfold Builtin.Getset_descriptor.descrNameAndClass;unfold isInstance;simp only[PySem.W.KF.owner_class]
 repeat lk
 refine⟨Code.quiet_builtin _ (by decide+kernel),codeAny_builtin PySem.W.KF.entry_class ?_⟩;unfold Builtin.«object.__class__»;unfold shownTypeOf
 repeat lk
 exact h
theorem DM{b:Tok}{Q:Fin->Shared->Prop}(X:K.In s.heap)(p:kr a C s.heap)(q:sU K C)(h:Q (.done (.ret (.ref C))) s):
 wpAny (model prog w) A (Builtin.«object.__getattribute__» ⟨[.ref a,.str "__class__" b],[]⟩) Q E s:=by
 obtain⟨d,g,f,t,c⟩:=s;have j:=jo (M:=model prog w) p;have i:=sk (M:=model prog w) X q.cl;have e:(⟨d,g,f,t,c⟩:Shared).TypeIs (.builtin "object.__class__") "getset_descriptor":=F.typeOf_object_class;have m:=F.typeOf_object_class;have l:=F.slot_gs_get.lookup;have k:=F.slot_gs_set.lookup
 repeat (any_goals (first|assumption|with_reducible refine j.at ?_|with_reducible refine i.at ?_|wp_step))
 refine KN X p q ?_
 repeat (any_goals (first|assumption|wp_step))
theorem DN{M:Model}{b:Value}{Q:Unit->Shared->Prop}(X:K.In s.heap)(p:kr a C s.heap)(q:sU K C)(h:Q () s):wpAny M A (checkBuiltinCall "BaseException.__getattribute__" ⟨[.ref a,b],[]⟩) Q E s:=by
 obtain⟨k,g,l,t,i⟩:=s;have f:=jo (M:=M) p;have e:=tf (M:=M) X q.bs;have d:builtinKind "BaseException.__getattribute__"=some .slot:=by decide+kernel
 have c:splitId "BaseException.__getattribute__"=some ("BaseException","__getattribute__"):=by decide+kernel
 have j:=F.args_bexc_ga (.ref a) b;simp only[checkBuiltinCall,d,c];apply KB;unfold isInstance
 repeat (first|with_reducible refine f.at ?_|with_reducible refine e.at ?_|wp_step)
 exact h
theorem F6{b:Tok}{R:Result->Shared->Prop}(X:K.In s.heap)(p:kr a C s.heap)(q:sU K C)(h:R (.ok (.ret (.ref C))) s):
 codeAny (model prog w) A (.call (.builtin "BaseException.__getattribute__") ⟨[.ref a,.str "__class__" b],[]⟩) R s:=
 codeAny_call_builtin PySem.F.excAttr_ValueError.ga.plain F.entry_bexc_ga (DN X p q (DM X p q h))
theorem Qa{e:Tok}{c b:Bool}{Q:Value->Shared->Prop}(X:K.In s.heap)(p:kr a C s.heap)(q:sU K C)(h:Q (.ref C) s):wpAny (model prog w) A (getAttrBy (.ref a) (.str "__class__" e) c b) Q E s:=by
 obtain⟨n,g,r,t,m⟩:=s;have j:=jo (M:=model prog w) p;have i:=sk (M:=model prog w) X q.ga;have f:=sk (M:=model prog w) X q.gt;have o:=PySem.F.excAttr_ValueError.ga.bind (.ref a);have l:(b&&onTheHeap (Value.builtin "BaseException.__getattribute__"))=false:=by
  cases b<;>rfl
 have d:(Value.builtin "BaseException.__getattribute__"==Value.builtin "object.__getattribute__")=false:=by decide+kernel
 have k:(onTheHeap (Value.ref C)&&Value.builtin "BaseException.__getattribute__"==Value.builtin "object.__getattribute__")=false:=by rw[d];rfl
 repeat (any_goals (first|assumption|with_reducible refine j.at ?_|with_reducible refine i.at ?_|with_reducible refine f.at ?_|wp_step))
 refine F6 X p q ?_
 repeat (any_goals (first|assumption|wp_step))
theorem DO{Q:Option Value->Shared->Prop}(X:K.In s.heap)(p:kr a C s.heap)(q:sU K C)(h:Q (some (.ref C)) {s with toks:=s.toks+1}):wpAny (model prog w) A (getAttr? (.ref a) "__class__") Q E s:=by obtain⟨c,g,d,t,b⟩:=s;unfold getAttr?;unfold getAttrBy?;refine KB (wpAny_mkText (KB (wpAny_attempt (Qa (s:=⟨c,g,d,t+1,b⟩) X p q ?_))));exact Qb h
theorem F7(q:sU K C):PySem.W.KitX K (.ref a) (.ref C) (kr a C)where
 ty:=λM h X p=>jo p
 it:=λM h X p=>by obtain⟨H,N,o,m,G,c,l,d,I,g,F,y,x,v,u,t,r,f,_⟩:=pM X q.exc;intro Q O P L k z;unfold isType;unfold loadHead;exact KB (wpAny_loadPart (k _ _ f) (Qb z))
 ne:=λh j F B n J X b=>by obtain⟨H,N,o,m,G,c,l,d,I,g,D,y,x,v,u,t,r,f,_⟩:=pM X q.exc;refine Bool.eq_false_iff.mpr λz=>?_;have e:C=j:=Value.ref.inj (P3.mp z);subst e;rw[f]at b;have i:=PQ Obj.data (Kk b);exact nomatch i
 ca:=λX p h=>DO X p q h
end
inductive Qc:V->Value->Prop where
 |own (D:Addr):Qc (.ref D) (.ref D)
 |ty (n:String):Qc (.ty n) (.type n)
theorem cP{X:Cx}:dG X (.builtin "isinstance") (λf H Q=>∃a C c d b,f=[.ref a,c]/\H a=some (DK a C)/\sU X.K C/\Qc c d/\kitOne X.K (.ref C) d=some b/\Q (.bl b) H):=by
 intro i s u H f v Q I r h;obtain⟨a,C,c,d,b,rfl,o,q,m,e,z⟩:=h;obtain⟨k,j,rfl,l,g⟩:=vals2 r;cases(show k=Value.ref a from l);have t:j=d:=by
  cases m with
  |own D=>exact g
  |ty n=>exact g
 subst t;obtain⟨p,_,_⟩:=(show cH X.prog X.w H s.heap a (.ext (kr a C))from I.hok a _ o);exact Sr (F7 q) I.lO p e (λz=>nomatch z) λx=>⟨.bl b,H,I.tok _,rfl,z⟩
noncomputable def nB(cells:List (Str×Addr)):List (Str×NameKind)->List (Str×Addr)->List (Str×Addr)
 |[],acc=>acc
 |(n,k)::r,acc=>nB cells r (if k=.free then(n,(cells.lookup n).getD 0)::acc else acc)
theorem qw{env:Env}:∀(l:List (Str×NameKind))(a:List (Str×Addr)),(∀p∈l,p.2=.free->∃c,env.cells.lookup p.1=some c)->
 (forIn l a λ(x:Str×NameKind)(cs:List (Str×Addr))=>if(x.2==NameKind.free)=true then(do let c<-cellOf env x.1;pure (L4 ((x.1,c)::cs)))else(pure (L4 cs):Sem _))=pure (nB env.cells l a)
 |[],a,_=>rfl
 |(n,k)::r,a,h=>by
  have ih:=λa=>qw (env:=env) r a λp g=>h p (Ee _ g);rw[List.forIn_cons];by_cases b:k=.free
  .obtain⟨c,i⟩:=h (n,k) FC b;have d:env.cells.lookup n=some c:=i;have e:cellOf env n=pure c:=by unfold cellOf;rw[d]
   have f:(k==NameKind.free)=true:=by simp[b]
   simp only[f,if_true,e,pure_bind,ih];simp only[nB,b,if_true,d,L0]
  .have f:(k==NameKind.free)=false:=by simpa using b
   simp only[f,TY,if_false,pure_bind,ih];simp only[nB,b,if_false]
theorem qx{a:Scope}{env:Env}(h:∀p∈a.names,p.2=.free->∃c,env.cells.lookup p.1=some c):closureFor a env=pure (nB env.cells a.names []):=by have:=qw (env:=env) a.names [] h;unfold closureFor;simp only[bind_pure];exact this
theorem ya{cells:List (Str×Addr)}:∀(l:List (Str×NameKind))(a:List (Str×Addr)),(∀p∈l,p.2=.free->∃c,cells.lookup p.1=some c)->(∀y c,a.lookup y=some c->cells.lookup y=some c)->
 ∀y c,(nB cells l a).lookup y=some c->cells.lookup y=some c
 |[],_,_,ha,y,c,h=>ha y c h
 |(n,k)::r,a,hl,ha,y,c,h=>by
  refine ya r _ (λp i=>hl p (Ee _ i)) (λz d hz=>?_) y c h;by_cases b:k=.free
  .rw[Bz b,E2]at hz;obtain⟨m,g⟩:=hl (n,k) FC b;have f:cells.lookup n=some m:=g;split at hz
   .rename_i e
    have j:z=n:=by simpa using e
    subst j;rw[f]at hz⊢;exact hz
   .exact ha z d hz
  .rw[Bn b]at hz;exact ha z d hz
theorem qy{cells:List (Str×Addr)}:∀(l:List (Str×NameKind))(a:List (Str×Addr))(y:Str),((a.lookup y).isSome=true\/(y,NameKind.free)∈l)->((nB cells l a).lookup y).isSome=true
 |[],_,_,h=>h.elim id λz=>nomatch z
 |(n,k)::r,a,y,h=>by
  refine qy r _ y ?_;by_cases b:k=.free
  .rw[Bz b,E2];by_cases e:(y==n)=true
   .left;rw[e];rfl
   .rw[hZ]at e;rw[e];rcases h with h|h
    .exact .inl h
    .rcases Fn.mp h with h|h
     .have:y=n:=PQ Prod.fst h;subst this;simp at e
     .exact .inr h
  .rw[Bn b];rcases h with h|h
   .exact .inl h
   .rcases Fn.mp h with h|h
    .have:NameKind.free=k:=PQ Prod.snd h;exact absurd this.symm b
    .exact .inr h
theorem ur{cells:List (Str×Addr)}:∀(l:List (Str×NameKind))(a:List (Str×Addr))(y:Str)(c:Addr),(nB cells l a).lookup y=some c->(∃b,a.lookup y=some b)\/(y,NameKind.free)∈l
 |[],_,y,c,h=>.inl ⟨c,h⟩
 |(n,k)::r,a,y,c,h=>by
  rcases ur r _ y c h with⟨b,h'⟩|h'
  .by_cases d:k=.free
   .rw[Bz d,E2]at h';split at h'
    .rename_i e
     have f:y=n:=by simpa using e
     subst f;subst d;exact .inr FC
    .exact .inl ⟨b,h'⟩
   .rw[Bn d]at h';exact .inl ⟨b,h'⟩
  .exact .inr (Ee _ h')
theorem jq{env:Env}(d:env.scope.kind=.function):∀(l:List (Str×NameKind))(y:Str),
 (l.map λ(n,k)=>if(k==NameKind.free&&env.scope.kind==.function&&env.kindOf n==some .cell)then(n,NameKind.cell)else(n,k)).lookup y=(l.lookup y).map λk=>if(k==NameKind.free&&env.kindOf y==some .cell)=true then NameKind.cell else k
 |[],_=>rfl
 |(n,k)::r,y=>by
  have ih:=jq d r y;have b:(env.scope.kind==ScopeKind.function)=true:=by rw[d];rfl
  rw[RF,E2];by_cases e:(y==n)=true
  .have f:y=n:=by simpa using e
   subst f;by_cases c:(k==NameKind.free&&env.kindOf y==some .cell)=true
   .have a:(k==NameKind.free&&env.scope.kind==.function&&env.kindOf y==some .cell)=true:=by rw[b,fg];exact c
    simp only[a,if_true,E2,h7,LZ,c]
   .have a:¬(k==NameKind.free&&env.scope.kind==.function&&env.kindOf y==some .cell)=true:=by rw[b,fg];exact c
    rw[Bn a];simp only[E2,h7,LZ];rw[Bn c]
  .rw[hZ]at e;by_cases a:(k==NameKind.free&&env.scope.kind==.function&&env.kindOf n==some .cell)=true
   .simp only[a,if_true,e,E2];exact ih
   .rw[hZ]at a;simp only[a,TY,if_false,e,E2];exact ih
noncomputable def d8(sc c:Scope)(N a b:List Str):Bool:=
 sc.kind==.function&&b.all (λx=>sc.names.lookup x==some .local&&!a.contains x)&&
 sc.names.all (λp=>p.2 !=.cell&&(p.2 !=.local||sc.names.lookup p.1==some .local)&&(p.2 !=.free||(c.names.lookup p.1==some .cell&&sc.names.lookup p.1==some .free)))&&
 a.all (λy=>sc.names.lookup y !=some .local)&&(N.length==a.length&&(N.zip a).all (λp=>p.1==p.2||sc.names.lookup p.2==none))
structure gR(sc TN:Scope)(N N' xs:List Str):Prop where
 kind:sc.kind=.function
 own:∀x∈xs,sc.names.lookup x=some .local/\x∉N'
 Ae:∀p∈sc.names,p.2≠.cell
 loc:∀p∈sc.names,p.2=.local->sc.names.lookup p.1=some .local
 free:∀p∈sc.names,p.2=.free->TN.names.lookup p.1=some .cell/\sc.names.lookup p.1=some .free
 out:∀y∈N',sc.names.lookup y≠some .local
 len:N.length=N'.length
 pair:∀(i:Nat)(y:Str),N'[i]?=some y->sc.names.lookup y≠none->N[i]?=some y
theorem gR.of{sc l:Scope}{N b d:List Str}(h:d8 sc l N b d=true):gR sc l N b d:=by
 unfold d8 at h;simp only[Bi,Kb,td,bne_iff_ne,P3,pk,ne_eq]at h;obtain⟨⟨⟨⟨s,k⟩,c⟩,r⟩,q,o⟩:=h;refine⟨s,λx g=>⟨(k x g).1,λz=>?_⟩,λp a=>(c p a).1.1,λp a e=>?_,λp a e=>?_,r,q,λi y f m=>?_⟩
 .have:=(k x g).2;rw[List.contains_eq_mem]at this;simp[z]at this
 .rcases(c p a).1.2 with z|z
  .exact absurd e z
  .exact z
 .rcases(c p a).2 with z|z
  .exact absurd e z
  .exact z
 .have t:i<b.length:=(FR.mp f).1;have j:N[i]?=some (N[i]'(by lia)):=BM (by lia);have n:(N[i]'(by lia),y)∈N.zip b:=by refine Hk (i:=i) ?_;rw[List.getElem?_zip_eq_some];exact⟨j,f⟩
  rcases o _ n with z|z
  .rw[j];exact PQ some z
  .exact absurd z m
noncomputable def aX(X:Cx)(a:Scope)(C:Addr)(b d:List Str)(s:Shared)(H:Hp)(c:List Addr):Cx:=
 {X with N:=b++d,s₀:=s,H₀:=H,env:=compEnvC a (nB X.env.cells a.names []) C X.env,outer:=X.stack,stack:=X.stack,ex:=c,fn:=λy=>b.contains y,pn:=[],xe:=λ_ _=>False}
section
variable{X:Cx}{pins:List (Addr×Obj)}{σ:St}{H:Hp}{s:Shared}{scope:Scope}{xs N':List Str}{fp:List Addr}
theorem kO(I:Inv X pins σ H s)(O:gR scope X.env.scope X.N N' xs):∀p∈scope.names,p.2=.free->∃c,X.env.cells.lookup p.1=some c:=λp a e=>I.ok.has p.1 (.inl (O.free p a e).1)
theorem ig(I:Inv X pins σ H s)(O:gR scope X.env.scope X.N N' xs)(y:Str):(relabel scope X.env).names.lookup y=(scope.names.lookup y).map λk=>if k=.free then NameKind.cell else k:=by
 unfold relabel;show(kx _ scope.names).lookup y=_;rw[jq I.ok.kind];cases e:scope.names.lookup y with
 |none=>rfl
 |some k=>
  rw[LZ,LZ];by_cases a:k=.free
  .subst a;have:=(O.free (y,.free) (Re e) rfl).1;have b:X.env.kindOf y=some .cell:=this;rw[b];rfl
  .rw[Bn a,Bn (by simp[a])]
theorem F8{n:Heap}{S:Nat}(I:Inv X pins σ H s)(O:gR scope X.env.scope X.N N' xs)(B:∀b∈fp,qo X pins H b)(F:∀b∈fp,b<s.heap.objs.size){P:Str->Option Value}
 (Z:n.Ns s.heap.objs.size P)(g:∀b o,s.heap.get? b=some o->n.get? b=some o):
 Inv (aX X scope s.heap.objs.size xs N' s H fp) [] (xs.map (λ_=>none)++σ) H {s with heap:=n,toks:=S}:=by
 have f:=ya (cells:=X.env.cells) scope.names [] (kO I O) (λy c z=>nomatch z);refine⟨⟨I.ok.mod,?_,I.ok.glob,I.ok.blt,Da _,λx y c n J=>I.ok.inj x y c (f x c n) (f y c J),λy D=>?_,λy c n J=>?_,I.ok.hd,I.ok.frames,.inl rfl,λb j=>⟨Os (F b j),λx c e=>(B b j).2.2.2.2.1 x c (f x c e)⟩,
  I.bs,DL I.ok.JU I.sz,λb o e j=>?_,λb j z=>?_,I.stack,I.jQ,I.ok.tree,I.ok.UD⟩,rfl,I.bare,Un.kept g,⟨P,Z,λi y v e1 h e3=>?_⟩,λy c e=>?_,I.hok.fresh (Da _),λy c e=>I.gH y c (f y c e),λp U=>absurd (show p∈([]:List (Addr×Obj))from U) (by simp),I.hok.kept g,?_⟩
 .show scope.kind=_;exact O.kind
 .have d:(relabel scope X.env).names.lookup y=some .cell\/(relabel scope X.env).names.lookup y=some .free:=D;rw[ig I O]at d;have a:scope.names.lookup y=some .free:=by
   cases e:scope.names.lookup y with
   |none=>rw[e]at d;rcases d with z|z<;>cases z
   |some k=>
    rw[e]at d;by_cases g:k=.free
    .rw[g]
    .rw[LZ,Bn g]at d;rcases d with z|z
     .have:k=.cell:=Kk z;exact absurd this (O.Ae (y,k) (Re e))
     .exact absurd (Kk z) g
  exact X2.mp (qy scope.names [] y (.inr (Re a)))
 .have G:(nB X.env.cells scope.names []).lookup y=some c:=J;have D:y∈xs:=by have XR:xs.contains y=true:=n;simpa using XR
  rcases ur scope.names [] y c G with⟨_,z⟩|z
  .cases z
  .have M:=(O.free (y,.free) z rfl).2;rw[(O.own y D).1]at M;cases M
 .have R:X.base.get? b=some o:=e;rcases(B b j).2.2.2.1 with z|z
  .exact I.ok.Dj b o R z
  .exact absurd (FV (GT R) (DL I.ok.JU z)) (OF _)
 .rcases Fn.mp (I.zK b z)with q|q
  .exact(B b j).2.1 q
  .exact(B b j).2.2.1 q
 .have L:(xs++N')[i]?=some y:=e1;by_cases Q:i<xs.length
  .rw[KE (by simpa using Q),Dx]at h;cases q:xs[i]? with
   |none=>rw[q]at h;cases h
   |some z=>rw[q]at h;cases h
  .rw[Ha (by simpa using Q)]at h;rw[Ha (by lia)]at L;rw[AN]at h;have C:y∈N':=Hk L;have t:Tz (relabel scope X.env) y:=e3;unfold Tz at t;rw[ig I O]at t;have a:scope.names.lookup y=some .free:=by
    cases e:scope.names.lookup y with
    |none=>rw[e]at t;rcases t with z|z|z<;>cases z
    |some k=>
     rw[e]at t;by_cases g:k=.free
     .rw[g]
     .rw[LZ,Bn g]at t;rcases t with z|z|z
      .have:k=.local:=Kk z;subst this;exact absurd e (O.out y C)
      .have:k=.cell:=Kk z;exact absurd this (O.Ae (y,k) (Re e))
      .exact absurd (Kk z) g
   have A:=(O.free (y,.free) (Re a) rfl).1;obtain⟨m,Y,hl⟩:=I.loc;have K:=O.pair _ y L (by rw[a];simp);obtain⟨u,r,l⟩:=hl _ y v K h (.inr (.inl A));refine⟨u,r,?_⟩;rcases l with⟨T,_⟩|⟨_,c,hc,o,E,hd⟩
   .have:X.env.scope.names.lookup y=some .local:=T;rw[A]at this;cases this
   .refine .inr ⟨.inl ?_,c,?_,o,g c o E,hd⟩
    .show(relabel scope X.env).names.lookup y=_;rw[ig I O,a];rfl
    .obtain⟨c',w⟩:=X2.mp (qy (cells:=X.env.cells) scope.names [] y (.inr (Re a)));have q:=f y c' w;rw[hc]at q;show(nB X.env.cells scope.names []).lookup y=some c;rw[w,<-Kk q]
 .obtain⟨v,o,E,hd⟩:=I.cell y c (f y c e);exact⟨v,o,g c o E,hd⟩
 .show(xs.map (λ_=>none)++σ).length=(xs++N').length;rw[Fm,Fm,AN,I.len,O.len]
end
noncomputable def PF(X:Cx)(d:List Expr)(t:TT):Prop:=
 ∀(a:List (Addr×Obj))(s:Shared)(b:St)(H:Hp)(Q:Bool->Hp->Prop),Inv X a b H s->t b H Q->
  wpAny (model X.prog X.w) X.A (forIn d true λc r=>if r=true then do let ok<-isTrue c X.env (eval c X.env);pure (L4 ok)else pure (L4 r)) (TP X a b Q) X.xe s
noncomputable def Vl:TT:=λ_ H Q=>Q true H
theorem F9{X:Cx}:PF X [] Vl:=λ_ _ _ H _ I h=>wpAny_tests_nil ⟨H,I,h⟩
theorem Qe{X:Cx}{c:Expr}{t:TT}(h:PT X c t):PF X [c] t:=λa s b H Q I q=>wpAny_tests_one (h a s b H Q I q)
noncomputable def BN(k:Nat)(q:TI)(g:TG)(tc:TT)(te:TE):TE:=λe H Q=>q e H λJ p=>∀D,p D=none->∃W:Nat->Nat->Hp->Prop,(∃m,W 0 m (upd p D (.lst [])))/\∀i m d,W i m d->
 (J.stop i d/\Q (.ref D) d)\/(J.go i d/\∀x o,J.TL i d x o->∀j:List (Option V),j.length=k->g x (j++e) o λa r=>∃h:List (Option V),h.length=k/\a=h++e/\
   tc a r λb n=>if b=true then te a n λy l=>∃f,l D=some (.lst f)/\f.length<sizeLine/\∃c,c<m/\W (i+1) c (upd l D (.lst (f++[y])))else∃c,c<m/\W (i+1) c n)
theorem uZ{prog:Program}{w:World}{A:Around}{R:Result->Shared->Prop}{s:Shared}{u a l:Expr}{q:List Expr}{f:Scope}{pos:Pos}{E y:Value}{env:Env}(I:Nat->Shared->Prop)
 (z:∀n s,I n s->wpAny (model prog w) A (pyNext E) (λr e=>match r with
   |none=>R (.ok .next) e
   |some v=>wpAny (model prog w) A (letOwnedTupleGo a E v) (λ_ d=>wpAny (model prog w) A (assign a env v) (λ_ k=>
     wpAny (model prog w) A (forIn q true λc r=>if r=true then do let ok<-isTrue c env (eval c env);pure (L4 ok)else pure (L4 r)) (λok b=>
      if ok=true then wpAny (model prog w) A (eval u env) (λx j=>wpAny (model prog w) A (call (.builtin "list.append") [y,x]) (λ_ i=>∃m,m<n/\I m i) (λ_ _=>False) j) (λ_ _=>False) b
      else∃m,m<n/\I m b) (λ_ _=>False) k) (λ_ _=>False) d) (λ_ _=>False) e) (λ_ _=>False) s)
 (n:Nat)(h:I n s):
 codeAny (model prog w) A (.compLoop (.ListComp u [⟨a,l,q,0⟩] f pos) 0 E y env) R s:=by
 refine codeAny_loop rfl I (λn s F=>?_) n h;show wpAny _ A ((compTurn (.ListComp u [⟨a,l,q,0⟩] f pos) 0 E y env).onRaise (λx=>do noteFrame x env;theTreesLotGoes x)) _ _ s;refine wpAny_noted ?_;rw[compTurn_list];refine KB (yA (KB (dn (z n s F) (λr e p=>?_) λ_ _ g=>g.elim)));cases r with
 |none=>exact Qb p
 |some v=>
  refine KB (dn p (λ_ d t=>?_) λ_ _ g=>g.elim);refine KB (dn t (λ_ k D=>KB (dn D (λok b o=>?_) λ_ _ g=>g.elim)) λ_ _ g=>g.elim);cases ok with
  |false=>exact Qb ⟨rfl,o⟩
  |true=>exact KB (KB (dn o (λx j C=>KB (dn C (λ_ i B=>Qb (Qb ⟨rfl,B⟩)) λ_ _ g=>g.elim)) λ_ _ g=>g.elim))
section
variable{X:Cx}
theorem qz{tg P Z:Expr}{U:List Expr}{scope:Scope}{t H:List Str}{pos:Pos}{g:TG}{tc:TT}{te:TE}(hc:X.calm=true)(O:gR scope X.env.scope X.N H t)
 (hg:∀C s0 H0 l,PG (aX X scope C t H s0 H0 l) tg g)(hf:∀C s0 H0 l,PF (aX X scope C t H s0 H0 l) U tc)(he:∀C s0 H0 l,PE (aX X scope C t H s0 H0 l) Z te)
 {v:List (Addr×Obj)}{B:St}{H1:Hp}{f:Shared}{it:Addr}{l:List Addr}{tn:Nat->Heap->Prop}{J:It}{Q:VK}{E:Value->Shared->Prop}{RR:Value->Addr->Result->Shared->Prop}
 (I2:Inv X v B H1 f)(T:Turn X.prog X.w X.K tg J l it tn)(st2:tn 0 f.heap)(f2:∀b∈l,qo X v H1 b)
 (h:∀D,H1 D=none->∃W:Nat->Nat->Hp->Prop,(∃m,W 0 m (upd H1 D (.lst [])))/\∀i m H2,W i m H2->
   (J.stop i H2/\Q (.ref D) H2)\/(J.go i H2/\∀x H3,J.TL i H2 x H3->∀F:List (Option V),F.length=t.length->g x (F++B) H3 λS H4=>∃L:List (Option V),L.length=t.length/\S=L++B/\
     tc S H4 λb I=>if b=true then te S I λy H6=>∃ys,H6 D=some (.lst ys)/\ys.length<sizeLine/\∃G,G<m/\W (i+1) G (upd H6 D (.lst (ys++[y])))else∃G,G<m/\W (i+1) G I))
 (hRR:∀D C s' H',(∃m,s'.heap.Ns C m)->(∀h',Heap.SameBut C s'.heap h'->Inv X v B H' {s' with heap:=h'})->f.heap.objs.size<=D->f.heap.objs.size<=C->H' C=none->Q (.ref D) H'->RR (.ref D) C (.ok .next) s'):
 wpAny (model X.prog X.w) X.A (newList []) (λacc s₃=>wpAny (model X.prog X.w) X.A (newFunctionEnv scope X.env.globals (nB X.env.cells scope.names []) [] X.env.qual none .none (some X.env)) (λR s₄=>codeAny (model X.prog X.w) X.A (.compStart (.ListComp Z [⟨tg,P,U,0⟩] scope pos) 0 (.ref it) acc {R with scope:=relabel scope X.env}) (RR acc R.locals) s₄) E s₃) E f:=by
 refine wpAny_newObj_type (wpAny_newFunctionEnv O.Ae (by intro y hy;simp at hy) (λs Ga Gb=>?_) O.kind);dsimp only at Ga Gb⊢;have hD:H1 f.heap.objs.size=none:=I2.hok.fresh (Da _);obtain⟨W,⟨m0,w0⟩,turn⟩:=h f.heap.objs.size hD;have I3:Inv X v B (upd H1 f.heap.objs.size (.lst [])) {f with heap:=f.heap.push {cls:=.type "list",dict:=none,data:=.seq ([]:List Value).toArray}}:=
  I2.laid (t':=f.toks) (λb u e=>Fk _ e) (Da _) ⟨L9 _,[],0,.nil,On _ rfl⟩
 have YV:∀b∈l,b<f.heap.objs.size:=λb j=>by obtain⟨o,e,_⟩:=T.obj _ _ st2 b j;exact GT e
 have f3:∀b∈l,qo X v (upd H1 f.heap.objs.size (.lst [])) b:=λb j=>by obtain⟨q0,q⟩:=f2 b j;exact⟨by rw[aq (Os (YV b j))];exact q0,q⟩
 generalize TQ:({f with heap:=f.heap.push {cls:=.type "list",dict:=none,data:=.seq ([]:List Value).toArray}}:Shared)=k at I3;have uu:k.heap=f.heap.push {cls:=.type "list",dict:=none,data:=.seq ([]:List Value).toArray}:=by rw[<-TQ]
 have Y:k.heap.objs.size=f.heap.objs.size+1:=by rw[uu,Heap.size_push]
 have old:∀b o,k.heap.get? b=some o->s.get? b=some o:=λb o e=>Gb.extBut b o (by rw[<-uu];exact Os (GT e)) (Fk _ (by rw[<-uu];exact e));have J4:Inv (aX X scope k.heap.objs.size t H k (upd H1 f.heap.objs.size (.lst [])) l) [] (t.map (λ_=>none)++B) (upd H1 f.heap.objs.size (.lst [])) {k with heap:=s,toks:=f.toks+([]:List (Str×Value)).length}:=
  F8 I3 O f3 (λb j=>by rw[Y];exact SC (YV b j)) (by rw[uu];exact Ga) old
 have es4:({k with heap:=s,toks:=f.toks+([]:List (Str×Value)).length}:Shared)={f with heap:=s,toks:=f.toks+([]:List (Str×Value)).length}:=by rw[<-TQ]
 rw[es4]at J4;have st4:tn 0 s:=T.keep _ _ _ st2 λb j o e=>old b o (by rw[uu];exact Fk _ e);have hC:(f.heap.push {cls:=.type "list",dict:=none,data:=.seq ([]:List Value).toArray}).objs.size=k.heap.objs.size:=by rw[uu]
 have YW:∀{H':Hp},(∀b∈l,H' b=none)->∀b∈l,qo (aX X scope k.heap.objs.size t H k (upd H1 f.heap.objs.size (.lst [])) l) [] H' b:=λhn b j=>⟨hn b j,Os (by rw[Y];exact SC (YV b j)),J4.ok.Dk b j,.inl j,λx c e=>((J4.ok.XG b j).2 x c e),λp hp=>absurd (show p∈([]:List (Addr×Obj))from hp) (by simp)⟩;have M:codeAny (model X.prog X.w) X.A (.compLoop (.ListComp Z [⟨tg,P,U,0⟩] scope pos) 0 (.ref it) (.ref f.heap.objs.size) (compEnvC scope (nB X.env.cells scope.names []) k.heap.objs.size X.env))
  (RR (.ref f.heap.objs.size) k.heap.objs.size) {f with heap:=s,toks:=f.toks+([]:List (Str×Value)).length}:=by
  refine uZ (λn s'=>∃(i:Nat)(F:List (Option V))(H':Hp),F.length=t.length/\Inv (aX X scope k.heap.objs.size t H k (upd H1 f.heap.objs.size (.lst [])) l) [] (F++B) H' s'/\tn i s'.heap/\(∀b∈l,H' b=none)/\W i n H') ?_ m0
   ⟨0,t.map (λ_=>none),_,AN _,J4,st4,λb j=>(f3 b j).1,w0⟩
  rintro n s5 ⟨i,F,I,hv0,I5,TM,XM,w5⟩;rcases turn i n I w5 with⟨stop,qn⟩|⟨go,step⟩
  .refine cI (T.done (aX X scope k.heap.objs.size t H k (upd H1 f.heap.objs.size (.lst [])) l) rfl rfl rfl hc i [] s5 (F++B) I _ I5 (YW XM) TM stop) ?_;rintro r s6 ⟨hr,I6⟩;subst hr;obtain⟨m,hnm,_⟩:=I6.loc;refine hRR _ _ s6 I ⟨m,hnm⟩ (λh' N7=>?_) (Da _) (by rw[Y];exact sv _) I6.free qn;have YX:∀b o,k.heap.get? b=some o->b≠k.heap.objs.size:=λb o e=>Os (GT e);have u:=I6.base;have I3':=I3.Fl (s':={s6 with heap:=h'}) (H':=I) (ch:=l) I6.os ⟨λb o e n j hx=>N7.extBut b _ (YX b o e) (u.keep b o e n j hx),λb o e n j hx=>by
    obtain⟨sl,q⟩:=u.slot b o e n j hx;exact⟨sl,N7.extBut b _ (YX b o e) q⟩,u.free,λb o e hx=>by
    obtain⟨o',q⟩:=u.there b o e hx;exact⟨o',N7.extBut b _ (YX b o e) q⟩,u.tups,u.kI,u.lN⟩ (λa o e=>?_) I6.bare (λb j=>?_)
   .exact I3'
   .have hnC:∀b u,I b=some u->b≠k.heap.objs.size:=λb u e z=>by subst z;have:=I6.free;have e2:I k.heap.objs.size=none:=this;rw[e2]at e;cases e
    refine(I6.hok a o e).stay (λb u j q=>N7.extBut b u ?_ q) (λ_ q=>q) λ_ _ q=>q;rcases j with rfl|j
    .exact hnC _ _ e
    .exact hnC _ _ j
   .obtain⟨q0,q1,q2,q3,q4,q5⟩:=f3 b j;exact⟨q3,q1,q4,q5⟩
  .refine cI (T.item (aX X scope k.heap.objs.size t H k (upd H1 f.heap.objs.size (.lst [])) l) rfl rfl rfl hc i [] s5 (F++B) I _ I5 (YW XM) TM go) ?_;rintro r s6 ⟨u,hr,h6⟩;subst hr;refine cI h6 ?_;rintro _ s7 ⟨x,H7,I7,r7,y7,YY,fr7⟩;have I7':=I7.pinned (YW fr7) (T.obj _ _ YY);refine cI (hg _ _ _ _ _ s7 (F++B) H7 x u _ I7' r7 (step x H7 y7 F hv0)) ?_;rintro _ s8 ⟨σ8,H8,I8,L,hv1,e8,q8⟩;subst e8;have fin:∀{s9:Shared}{H9:Hp},Inv (aX X scope k.heap.objs.size t H k (upd H1 f.heap.objs.size (.lst [])) l) ([]++qp l s7.heap) (L++B) H9 s9->(∃G,G<n/\W (i+1) G H9)->
    ∃m,m<n/\∃(i:Nat)(F:List (Option V))(H':Hp),F.length=t.length/\Inv (aX X scope k.heap.objs.size t H k (upd H1 f.heap.objs.size (.lst [])) l) [] (F++B) H' s9/\tn i s9.heap/\(∀b∈l,H' b=none)/\W i m H':=λ{s9 H9} I9 ⟨G,hm,w9⟩=>by
    refine⟨G,hm,i+1,L,H9,hv1,I9.lS,T.keep _ _ _ YY λb j o e=>(I9.pin (b,o) (IR _ (IR _ (iP j e)))).1,λb j=>?_,w9⟩;obtain⟨o,e,d⟩:=T.obj _ _ YY b j;exact(I9.pin (b,o) (IR _ (IR _ (iP j e)))).2.1
   refine cI (hf _ _ _ _ _ s8 (L++B) H8 _ I8 q8) ?_;rintro ok s9 ⟨H9,I9,q9⟩;cases ok with
   |false=>exact fin I9 q9
   |true=>show wpAny _ _ _ _ _ _;refine cI (he _ _ _ _ _ s9 (L++B) H9 _ I9 q9) ?_;rintro y s10 ⟨vy,H10,I10,r10,ys,hys,hl,q10⟩;refine cI (jU (X:=aX X scope k.heap.objs.size t H k (upd H1 f.heap.objs.size (.lst [])) l) _ s10 (L++B) H10 (.ref f.heap.objs.size) [vy] _ [y] (λ_ H'=>∃G,G<n/\W (i+1) G H') I10 rfl (.cons r10 .nil) ⟨_,ys,vy,rfl,rfl,hys,hl,q10⟩) ?_;rintro _ s11 ⟨_,H11,I11,_,q11⟩;exact fin I11 q11
 rw[hC];exact codeAny_compStart_list M (T.self X.A 0 _ _ _ st4 M)
theorem u7{tg a j:Expr}{i:List Expr}{scope:Scope}(d l:List Str){pos:Pos}{r:TI}{g:TG}{tc:TT}{te:TE}(L:X.calm=true)(y:d8 scope X.env.scope X.N l d=true)(E:PI X tg a r)
 (F:∀C f k c,PG (aX X scope C d l f k c) tg g)(G:∀C f k c,PF (aX X scope C d l f k c) i tc)(K:∀C f k c,PE (aX X scope C d l f k c) j te)
 (u:∀z,foldedSetIterable a X.env z=pure z:=by intro _;rfl):PE X (.ListComp j [⟨tg,a,i,0⟩] scope pos) (BN d.length r g tc te):=by
 intro b s p H Q I h;have O:=gR.of y;rw[eval_ListComp];refine wpAny_comprehension_free (use:=none) rfl u (qx (kO I O)) O.kind O.loc (cI (E b s p H _ I h) λv s1 R=>cI R λt s2 P=>?_);obtain⟨it,c,tn,J,H2,e,Z,T,n,U,x⟩:=P;subst e;refine qz (RR:=λo C=>compPost (model X.prog X.w) X.A X.xe none (EP X b p Q) o C) L O F G K Z T n U x ?_;rintro D C s' H' ⟨m,B⟩ M _ _ _ q;exact⟨m,B,λS Y=>⟨.ref D,H',M S Y,rfl,q⟩⟩
end
noncomputable def N8(D:Addr)(n i:Nat)(e:Nat->List V->Hp->Prop)(y:V)(c:Hp):Prop:=
 ∃a,c D=some (.lst a)/\a.length<sizeLine/\∃b,b<n -i/\(b=n -(i+1)/\i+1<=n/\∃d,e (i+1) d (upd c D (.lst (a++[y]))))
theorem Vm{D:Addr}{n i:Nat}{d:Nat->List V->Hp->Prop}{y:V}{b:Hp}{a c:List V}(e:i<n)(h:b D=some (.lst a))(g:a.length<sizeLine)(f:d (i+1) c (upd b D (.lst (a++[y])))):N8 D n i d y b:=
 ⟨a,h,g,n -(i+1),by omega,rfl,e,c,f⟩
theorem Af{f:Int}{n:Nat}{D:Addr}{te:TE}{l:St}{H1:Hp}{R:Hp->Prop}(h:Nat->List V->Hp->Prop)(w:h 0 [] (upd H1 D (.lst [])))
 (u:∀i a H,i<n->h i a H->te (some (.int (f+i))::l) H (N8 D n i h))(v:∀a H,h n a H->R H):
 ∃W:Nat->Nat->Hp->Prop,(∃m,W 0 m (upd H1 D (.lst [])))/\∀i m j,W i m j->
  ((NX f n).stop i j/\R j)\/((NX f n).go i j/\∀x t,(NX f n).TL i j x t->∀k:List (Option V),k.length=1->gJ 0 x (k++l) t λc z=>∃q:List (Option V),q.length=1/\c=q++l/\
    Vl c z λb s=>if b=true then te c s λy r=>∃a,r D=some (.lst a)/\a.length<sizeLine/\∃d,d<m/\W (i+1) d (upd r D (.lst (a++[y])))else∃d,d<m/\W (i+1) d s):=by
 refine⟨λi m H=>m=n -i/\i<=n/\∃a,h i a H,⟨n,by simp,L9 _,[],w⟩,?_⟩;rintro i m H ⟨rfl,A,a,p⟩;by_cases g:i<n
 .refine .inr ⟨g,λx B y k o=>?_⟩;obtain⟨e,y⟩:=y;subst e y
  match k,o with
  |[_],_=>exact⟨[some (.int (f+i))],rfl,rfl,u i a _ g p⟩
 .have e:i=n:=by lia
  subst e;exact .inl ⟨Da _,v a H p⟩
theorem uv{bs:List Bool}:∀{us:List Value},Vals (bs.map V.bl) us->us=bs.map Value.bool:=by
 induction bs with
 |nil=>intro us r;rw[xk]at r;cases r;rfl
 |cons b bs d=>
  intro us r;rw[RF]at r;cases r with
  |cons c a=>have e:_=Value.bool b:=c;rw[e,d a];rfl
theorem Ag(bs:List Bool):((D2 bs.length).all λi=>(bs[i]?).getD true)=bs.all id:=by
 rw[ma,Kb,Kb];constructor
 .intro h b d;obtain⟨i,c,rfl⟩:=gd d;have:=h i (Yf.mpr c);simp only[BM c,L0]at this;exact this
 .intro h i c;have a:=Yf.mp c;simp only[BM a,L0];exact h _ (Kx a)
section
variable{X:Cx}
theorem DP(k:X.calm=true):dG X (.builtin "sum") (λa H Q=>∃(p:Addr)(ns:List Int),a=[.ref p]/\iN X.K H p (ns.map V.int)/\Q (.int ns.sum) H):=by
 intro d s o H a t Q I r h;obtain⟨p,ns,rfl,l,q⟩:=h;obtain⟨u,rfl,g⟩:=Vals.one r;cases(show u=Value.ref p from g);obtain⟨b,rv,i,_⟩:=I.list l;have f:=intsAre_of rv;obtain⟨a,e⟩:=f.allInts.items;have c:s.heap.IsList p (intItems a):=e▸i.isList;refine sum_intListG (I.ok.hd k) c λx v w j=>?_;have n:ns=a.toList.map (·.1):=by rw[<-nums_intItems,<-e];exact(show numsOf b.toArray.toList=ns from f.numsOf).symm
 have m:preSum (numAt a) a.size=ns.sum:=by rw[preSum_eq,ox (by simp),n]
 rw[m];exact⟨.int ns.sum,H,I.kept j,⟨_,rfl⟩,q⟩
theorem DR(x:X.calm=true):dG X (.builtin "all") (λg H Q=>∃(p:Addr)(bs:List Bool),g=[.ref p]/\iN X.K H p (bs.map V.bl)/\Q (.bl (bs.all id)) H):=by
 intro j s D H g E Q I r h;obtain⟨p,bs,rfl,y,q⟩:=h;obtain⟨u,rfl,m⟩:=Vals.one r;cases(show u=Value.ref p from m);obtain⟨a,rv,n,_⟩:=I.list y;have k:=uv rv;have f:=n.isList;have d:p<s.heap.objs.size:=by obtain⟨_,e,_⟩:=f;exact GT e
 refine call_all_walk (y2 f ?_);refine⟨s.heap.objs.size,[s.heap.objs.size,p],[s.heap.objs.size],a.toArray.size,_,_,λi=>(bs[i]?).getD true,rfl,Walks.list (A:=X.A.in1) (I.ok.hd x) _ p (Os d) a.toArray,
  ⟨⟨_,On _ rfl,rfl,rfl⟩,f.push _⟩,λi v G L M B l=>?_,λJ F w=>?_⟩
 .have c:a[i]?=some v:=by simpa using B
  rw[k,Dx]at c;cases e:bs[i]? with
  |none=>rw[e]at c;cases c
  |some b=>rw[e]at c;simp only[e,L0]at l;have:v=Value.bool b:=(Kk c).symm;subst this;exact h8 l
 .have e:((D2 a.toArray.size).all λi=>(bs[i]?).getD true)=bs.all id:=by
   have C:a.toArray.size=bs.length:=by rw[Fs,k,AN]
   rw[C];exact Ag bs
  rw[e];exact⟨.bl _,H,I.kept λb o z=>w b o (λt=>by rw[Fu.mp t]at z;exact OF _ (GT z)) (Fk _ z),rfl,q⟩
theorem BO{i:Nat}{x:Str}{tg f r:Expr}{k:List Expr}{scope:Scope}{d pos t:Pos}(F P:List Str){wi:TI}{g:TG}{tc:TT}{te:TE}(hN:X.N.Nodup)(hi:X.N[i]?=some x)(B:Loc X.env.scope x)(hc:X.calm=true)(ho:d8 scope X.env.scope X.N P F=true)(N9:PI X tg f wi)
 (hg:∀C K M G,PG (aX X scope C F P K M G) tg g)(hf:∀C K M G,PF (aX X scope C F P K M G) k tc)(he:∀C K M G,PE (aX X scope C F P K M G) r te)
 (Z:swapsWith (.ListComp r [⟨tg,f,k,0⟩] scope pos) (some (.Name x d)) t.line X.env=pure true:=by rfl)
 (hs:∀z,foldedSetIterable f X.env z=pure z:=by intro _;rfl)(hfn:X.fn x=true\/X.env.scope.names.lookup x=some .local:=by first|exact .inl rfl|exact .inr rfl|assumption):
 PS X (.Assign [.Name x d] (.ListComp r [⟨tg,f,k,0⟩] scope pos) t) (qm (BN F.length wi g tc te) (gJ i)):=by
 intro j s R H W I h;have O:=gR.of ho;rw[exec_Assign_Name_used _ _ _ _ Z];refine KB (yA (KB ?_));show wpAny _ X.A (do let _<-comprehension (.ListComp r [⟨tg,f,k,0⟩] scope pos) scope X.env _ (newList []) false (eval f X.env) (some (assign (.Name x d) X.env))) _ _ s;refine KB (dn (wpAny_comprehension_free (use:=some (assign (.Name x d) X.env)) (Q:=λ_ s'=>SP X j W .next s') rfl hs (qx (kO I O)) O.kind O.loc (cI (N9 j s R H _ I h) λv s1 h1=>cI h1 λitv s2 h2=>?_)) (λ_ s' hq=>Qb (Qb hq)) λ_ _ e=>e);obtain⟨it,G,tn,J,H2,e,L,T,S,f2,hq⟩:=h2;subst e;refine qz (Q:=λx H1=>gJ i x R H1 W.nx) (RR:=λacc C=>compPost (model X.prog X.w) X.A X.xe (some (assign (.Name x d) X.env)) (λ_ s'=>SP X j W .next s') acc C) hc O hg hf he L T S f2 hq ?_;rintro D C s' H' ⟨m,hm⟩ hI _ hC fC q;have I':Inv X j R H' s':=hI s'.heap ⟨rfl,λ_ _=>rfl⟩;have Y:∀b o,s2.heap.get? b=some o->b≠C:=λb o e=>Os (FV (GT e) hC);have nL:C≠X.env.locals:=λe=>by obtain⟨m2,hn2,_⟩:=L.loc;obtain⟨o,_,_,ho2,_⟩:=hn2;exact Y _ o ho2 e.symm
 have nC:∀y c,X.env.cells.lookup y=some c->c≠C:=λy c e z=>by obtain⟨v,o,e1,_⟩:=L.cell y c e;exact Y _ o e1 z
 have nP:∀p∈X.pn++j,p.1≠C:=λp hp z=>Y _ _ (L.pin p hp).1 z;show wpAny _ X.A (assign (.Name x d) X.env (.ref D)) _ _ _;refine wpAny_assign_Name (uc I' hN hi B (v:=.ref D) rfl (λU YZ hsm=>?_) hfn);obtain⟨a,N7,ha⟩:=hsm;have aC:a≠C:=by
  rcases ha with rfl|ha
  .exact T2 nL
  .exact nC x a ha
 refine⟨m,hm.sameBut N7 (T2 aC),λh' l=>⟨_,H',?_,q⟩⟩;refine YZ.Fl (s':={U with heap:=h'}) (H':=H') (ch:=[C]) rfl ⟨λb o e n E B=>l.extBut b o (λz=>B (by rw[z];exact Fu.mpr rfl)) e,λb o e n E B=>⟨o.slots,l.extBut b o (λz=>B (by rw[z];exact Fu.mpr rfl)) e⟩,λb o e n B=>n,λb o e B=>⟨o,l.extBut b o (λz=>B (by rw[z];exact Fu.mpr rfl)) e⟩,λb F q=>q,λb o u q=>q,λb ps q=>⟨#[],by rw[Array.append_empty];exact q⟩⟩ (λa o e=>?_) YZ.bare (λb E=>?_)
 .refine(YZ.hok a o e).stay (λb u E q=>l.extBut b u ?_ q) (λ_ q=>q) λ_ _ q=>q;rintro rfl;rcases E with rfl|E
  .rw[fC]at e;cases e
  .rw[fC]at E;cases E
 .rw[Fu.mp E];exact⟨.inr (DL L.sz hC),nL,λy c e z=>nC y c e z,nP⟩
theorem KQ:YG X "int.bit_length" (λx b H Q=>∃i:Int,x=.int i/\b=[]/\Q (.int (Builtin.Int.intBits i:Nat)) H):=by intro a s c H x b v e Q I d rv h;obtain⟨i,rfl,rfl,q⟩:=h;obtain⟨t,rfl⟩:=d;cases rv;exact call_gives F.slot_int_bit_length (typeIs_int s i t) F.entry_int_bit_length (F.args_int_bit_length_1 _) (PySem.AutoIntG2.int_bit_length_int_0 i t) (show EP X a c Q (.int _ _) _ from⟨.int _,H,I.tok _,⟨_,rfl⟩,q⟩)
noncomputable def XS(a st:Int)(n:Nat):It:=⟨λi _=>i<n,λi H x b=>b=H/\x=.int (a+i*st),λi _=>n<=i⟩
theorem yb{P:Program}{w:World}{K:Frag}{tg:Expr}(c:Addr)(g st:Int)(n:Nat):Turn P w K tg (XS g st n) [c] c (λi h=>IsRangeIter h c (g+(i:Nat)*st) ((n:Int) -(i:Nat)) st)where
 mem:=by simp
 obj:=λi h st b d=>by
  have e:b=c:=by simpa using d
  subst e;exact⟨_,st,λv z=>by have J:Data.fields _=Data.cell v:=z;cases J⟩
 keep:=λi h l st k=>k c (by simp) _ st
 item:=by intro X r m u q i a s F H E I j D p;subst r m u;obtain⟨C,B,N,A,y,x⟩:=j c (by simp);have W:=Walks.range (prog:=X.prog) (w:=X.w) (I.ok.hd q) c g st n;refine W.item i s _ _ p D λv l G M f L=>?_;obtain⟨t,rfl⟩:=M;have I1:Inv X a F H {s with heap:=l,toks:=G}:=I.turned (λb o d e=>L b o (by simpa using d) e) C B A y x;exact⟨_,rfl,BA (s:={s with heap:=l,toks:=G}) (n:="range_iterator") f rfl rfl (by decide) ⟨.int (g+i*st),H,I1,⟨t,rfl⟩,⟨rfl,rfl⟩,f,λb d=>(j b d).1⟩⟩
 done:=by intro X r m u q i a s F H E I j D p;subst r m u;obtain⟨C,B,N,A,y,x⟩:=j c (by simp);exact wpAny_pyNext_range_end (I.ok.hd q) D (by have:n<=i:=p;omega) λl O=>⟨rfl,I.turned (t':=s.toks) (λb o d e=>O b o d e) C B A y x⟩
 self:=λ_ _ _ _ _ st h=>wpAny_pyIter_rangeiter st h
theorem DS{tg:Expr}{c:List (Addr×Obj)}{f:St}{H:Hp}{s:Shared}{R:It->Hp->Prop}{E:Value->Shared->Prop}{a d st:Int}{n:Nat}{t u v:Tok}{g:Nat}(I:Inv X c f H s)(h:Builtin.Range.small a d st=true)(i:Builtin.Range.rangeSize a d st=(n:Int))
 (q:R (XS a st n) H):wpAny (model X.prog X.w) X.A (pyIter (.ref s.heap.objs.size)) (Yy X c f tg R) E {s with heap:=s.heap.push {cls:=.type "range",data:=.fields #[.int a t,.int d u,.int st v]},toks:=g}:=by
 refine wpAny_pyIter_range (IsRange.new ..) h ?_;have I1:Inv X c f H {s with heap:=s.heap.push {cls:=.type "range",data:=.fields #[.int a t,.int d u,.int st v]},toks:=g}:=I.kept λb o e=>Fk _ e;refine⟨(s.heap.push {cls:=.type "range",data:=.fields #[.int a t,.int d u,.int st v]}).objs.size,[(s.heap.push {cls:=.type "range",data:=.fields #[.int a t,.int d u,.int st v]}).objs.size],_,_,H,rfl,
  I1.kept (t':=g) λb o e=>Fk _ e,yb _ a st n,?_,λb j=>?_,q⟩
 .have l:a+((0:Nat):Int)*st=a:=by simp
  have k:(n:Int) -((0:Nat):Int)=Builtin.Range.rangeSize a d st:=by rw[i];simp
  show IsRangeIter _ _ (a+((0:Nat):Int)*st) ((n:Int) -((0:Nat):Int)) st;rw[l,k];exact On _ rfl
 .have e:b=(s.heap.push {cls:=.type "range",data:=.fields #[.int a t,.int d u,.int st v]}).objs.size:=by simpa using j
  subst e;exact I1.zN (Da _) (I1.hok.fresh (Da _))
noncomputable def Vn(ta:TA):TI:=λa H R=>ta a H λb c=>∃(i j k:Int)(n:Nat),b=[.int i,.int j,.int k]/\(k≠0/\k.natAbs<1073741824/\Builtin.Range.small i j k=true/\Builtin.Range.rangeSize i j k=(n:Int))/\R (XS i k n) c
theorem DU{tg a b c:Expr}{ta:TA}{p pos:Pos}(B:Gl X "range")(A:X.mg "range"=none)(C:PA X [a,b,c] ta)(z:starEach [a,b,c] X.env=[(false,eval a X.env),(false,eval b X.env),(false,eval c X.env)]:=by rfl)(f:starEach [b,c] X.env=[(false,eval b X.env),(false,eval c X.env)]:=by rfl):
 PI X tg (.Call (.Name "range" p) [a,b,c] [] pos) (Vn ta):=by
 intro d s m H R I h;refine Call_ (kK I B A boot_range (d4 (cI (C pos d s m H _ I h) λE G ⟨D,J,I1,u,l⟩=>?_) (by rw[z,f]) (by rw[f];rfl)));obtain⟨i,j,k,n,e,⟨l,y,x,w⟩,q⟩:=l;subst e;cases u with
 |cons r rr=>
  cases rr with
  |cons v rr=>
   cases rr with
   |cons g rr=>
    cases rr;obtain⟨t,rfl⟩:=r;obtain⟨F,rfl⟩:=v;obtain⟨o,rfl⟩:=g;exact call_range_3 l (DS I1 x w q) (.inl (PyProof.noPylong_small y))
end
end L2
namespace L2
open PySem
end L2
namespace L2
open PySem PySem.Spec PyProof.Rows
noncomputable def Dt(X:Cx)(H:Hp)(x:V)(d:PyData):Prop:=
 ∀(a:List (Addr×Obj))(b:St)(s:Shared)(u:Value),Inv X a b H s->RelV x u->∃c,Reads s.heap u d c
section
variable{X:Cx}{H:Hp}
theorem Qg(i:Int):Dt X H (.int i) (.int i):=λ_ _ s u _ r=>by obtain⟨t,rfl⟩:=r;exact⟨_,.int i t⟩
theorem Oa(b:Bool):Dt X H (.bl b) (.bool b):=λ_ _ s u _ r=>by
 cases(show u=Value.bool b from r);exact⟨_,.bool b⟩
theorem Qh(x:Str):Dt X H (.str x) (.str x):=λ_ _ s u _ r=>by obtain⟨t,rfl⟩:=r;exact⟨_,.str x t⟩
theorem Qi:Dt X H .aW .none:=λ_ _ s u _ r=>by
 cases(show u=Value.none from r);exact⟨_,.none⟩
theorem Ah{a:List (Addr×Obj)}{c:St}{s:Shared}(I:Inv X a c H s):∀{b:List V}{ds:List PyData}{us:List Value},Paired (Dt X H) b ds->Vals b us->∃as,ReadsAll s.heap us ds as
 |_,_,_,.nil,.nil=>⟨_,.nil⟩
 |_,_,_,.cons h t,.cons r rr=>by obtain⟨as,q⟩:=h _ _ _ _ I r;obtain⟨e,d⟩:=Ah I t rr;exact⟨_,.cons q d⟩
theorem u9{a:Addr}{c:List V}{ds:List PyData}(h:iN X.K H a c)(b:Paired (Dt X H) c ds):Dt X H (.ref a) (.list ds):=λ_ _ s u I r=>by
 cases(show u=Value.ref a from r);obtain⟨e,rv,d,_⟩:=I.list h;obtain⟨j,q⟩:=Ah I b rv;obtain⟨o,f,i,n,g⟩:=d.isList;exact⟨_,.list f i g (by simpa using q)⟩
theorem Qj{a:Addr}{c:List V}{ds:List PyData}(h:kL X.K H a c)(b:Paired (Dt X H) c ds):Dt X H (.ref a) (.tuple ds):=λ_ _ s u I r=>by
 cases(show u=Value.ref a from r);obtain⟨d,rv,e,_⟩:=I.tuple h;obtain⟨j,q⟩:=Ah I b rv;obtain⟨o,f,i,n,g⟩:=e;exact⟨_,.tuple f i g (by simpa using q)⟩
noncomputable def Y3(X:Cx):R2:=λx y H Q=>∃b a,Dt X H x b/\Dt X H y a/\(SeqAt.shaped b=true/\SeqAt.shaped a=true/\SeqAt.noMix b a=true)/\Q (.bl (PySem.Spec.same b a)) H
noncomputable def Y4(X:Cx):R2:=λx y H Q=>∃b a,Dt X H x b/\Dt X H y a/\(SeqAt.shaped b=true/\SeqAt.shaped a=true/\SeqAt.noMix b a=true)/\Q (.bl (!PySem.Spec.same b a)) H
theorem Gd(j:X.A.units+64<cLine):kM X (compareOp .Eq) (Y3 X):=by intro a s m H x y v u Q I c b h;obtain⟨o,n,l,k,⟨i,g,f⟩,q⟩:=h;obtain⟨r,e⟩:=l _ _ _ _ I c;obtain⟨p,d⟩:=k _ _ _ _ I b;exact eq_dataH_same e d i g j f ⟨.bl _,H,I,rfl,q⟩
theorem Qk(j:X.A.units+64<cLine):kM X (compareOp .NotEq) (Y4 X):=by intro a s m H x y v u Q I c b h;obtain⟨o,n,l,k,⟨i,g,f⟩,q⟩:=h;obtain⟨r,e⟩:=l _ _ _ _ I c;obtain⟨p,d⟩:=k _ _ _ _ I b;exact ne_dataH_same e d i g j f ⟨.bl _,H,I,rfl,q⟩
end
noncomputable def Y5(K:Frag)(a:Addr):It:=⟨λi H=>∃b x,iN K H a b/\b[i]?=some x,λi H x c=>∃p y,H p=none/\x=.ref p/\c=upd H p (.tup [.int i,y])/\∀b,iN K H a b->b[i]?=some y,λi H=>∃b,iN K H a b/\b.length=i⟩
theorem Inv.Vo{X:Cx}{a:List (Addr×Obj)}{t:St}{H:Hp}{s:Shared}{h':Heap}{t':Nat}{ch:List Addr}{p:Addr}{h:List V}(I:Inv X a t H s)(l:∀b∈ch,qo X a H b)
 (k:∀b o,b∉ch->s.heap.get? b=some o->h'.get? b=some o)(x:s.heap.objs.size<=p)(i:cH X.prog X.w (upd H p (.tup h)) h' p (.tup h))(M:∀b∈ch,∃o,h'.get? b=some o):Inv X a t (upd H p (.tup h)) {s with heap:=h',toks:=t'}:=by
 have f:H p=none:=I.hok.fresh x;have y:∀b u,H b=some u->b∉ch:=λb u e z=>by rw[(l b z).1]at e;cases e
 have j:∀b o,s.heap.get? b=some o->b≠p:=λb o e z=>absurd (FV (GT e) x) (by rw[z];exact OF _);refine I.step (g':=s.gens) (d':=s.drawn) (ch:=ch) (λb g=>?_) (λb o _ _ d e _=>k b o d e) (λb o _ _ d e _=>⟨o.slots,k b o d e⟩) (λb o _ e n=>by rw[aq (j b o e)];exact n)
  (λb o d e=>⟨o,k b o d e⟩) (λb A e=>by rw[aq (aO e f)];exact e) (λb o u e=>by rw[aq (aO e f)];exact e) (λb L e=>⟨#[],by rw[aq (aO e f),e];simp⟩) (λm C=>?_) (λb u e=>?_) I.bare
 .obtain⟨O,G,N,F,E,D⟩:=l b g;exact⟨F,G,E,D⟩
 .obtain⟨o,J,K,B,r⟩:=C;exact⟨o,J,K,k _ o (λz=>(l _ z).2.1 rfl) B,r⟩
 .by_cases g:b=p
  .subst g;rw[aA]at e;cases e;exact i
  .rw[aq g]at e;refine(I.hok b u e).stay (λc v d q=>k c v ?_ q) (λc q=>by rw[aq (aO q f)];exact q) λc A q=>by rw[aq (aO q f)];exact q
   rcases d with z|z
   .rw[z];exact y b u e
   .exact y c _ z
theorem DV{P:Program}{w:World}{K:Frag}{C:List Expr}{kk:Nat}{pos:Pos}(a e l:Addr)(R:e≠l):
 Turn P w K (.Tuple C kk pos) (Y5 K a) [e,l] e (λi h=>(∃f,IsEnum h e l i f)/\h.IsListIter l a i)where
 mem:=by simp
 obj:=λi h q b m=>by
  obtain⟨⟨f,n⟩,o,r,c,d⟩:=q;rcases Fn.mp m with z|z
  .subst z;exact⟨_,n,λv z=>by cases z⟩
  .rw[Fu.mp z];exact⟨o,r,λv z=>by rw[d]at z;cases z⟩
 keep:=λi h h' q k=>by obtain⟨⟨f,n⟩,F⟩:=q;exact⟨⟨f,k e (by simp) _ n⟩,F.at λo x=>k l (by simp) o x⟩
 item:=by
  intro X hP hw hK hc i M s σ H E I L q hg;subst hP hw hK;obtain⟨xs,x,Z,Y⟩:=hg;obtain⟨j,rv,p,hz⟩:=I.list Z;obtain⟨u,hu,ru⟩:=rv.get Y;obtain⟨⟨f,n⟩,F⟩:=q;have hit:=L l (by simp);have hee:=L e (by simp);have G:a≠l:=λz=>by obtain⟨o,r,c,d⟩:=F;obtain⟨o',g,J,_⟩:=p.isList;rw[z,r]at g;cases g;rw[c]at J;exact absurd J (by decide)
  have hae:a≠e:=λz=>by obtain⟨o',g,J,_⟩:=p.isList;have B:s.heap.get? e=some _:=n;rw[z,B]at g;cases g;exact absurd (show Value.type "enumerate"=Value.type "list"from J) (by decide)
  have D:=Draws.list (prog:=X.prog) (w:=X.w) (A:=X.A.in1) (I.ok.hd hc) l a G j.toArray;have W:=WalksT.enumerateD D e R (by simp[R,hae.symm]) (by simp);have hlt:i<j.toArray.size:=by have:=(FR.mp hu).1;simpa using this
  refine W.item i s _ _ hlt ⟨⟨f,n⟩,F,p.isList⟩ λT vals h' tk hPt hT Y6 Vp hk=>?_;obtain⟨t,y,hy,rfl⟩:=hPt;have hyu:y=u:=by
   have:j[i]?=some y:=by simpa using hy
   rw[hu]at this;exact(Kk this).symm
  subst hyu;refine⟨.ref T,rfl,W.go C kk pos i T _ _ _ Vp λU hst Q=>?_⟩;have S:T∉[e,l]:=W.apart i T h' Vp;obtain⟨⟨N,B⟩,O,_⟩:=hst;have Vq:IsTup U T #[.int i t,y]:=by obtain⟨o,r,c⟩:=Y6;exact⟨o,Q T o S r,c⟩
  have obj:cH X.prog X.w (upd H T (.tup [.int i,x])) U T (.tup [.int i,x]):=⟨ie (by show 2<=100000;decide),[.int i t,y],.cons ⟨t,rfl⟩ (.cons ru .nil),Vq⟩;have I2:=I.Vo (t':=tk) (ch:=[e,l]) L (λb o m eo=>Q b o m (hk b o m eo)) hT obj (λb m=>by
   rcases Fn.mp m with z|z
   .rw[z];exact⟨_,B⟩
   .rw[Fu.mp z];obtain⟨o,r,_⟩:=O;exact⟨o,r⟩)
  refine⟨.ref T,upd H T (.tup [.int i,x]),I2,rfl,⟨T,x,I.hok.fresh hT,rfl,rfl,λys hy=>by rw[I.xT hy Z];exact Y⟩,⟨⟨N,B⟩,O⟩,λb m=>?_⟩;rw[aq (show b≠T from λz=>S (by rw[<-z];exact m))];exact(L b m).1
 done:=by
  intro X hP hw hK hc i M s σ H E I L q hg;subst hP hw hK;obtain⟨xs,Z,Y⟩:=hg;obtain⟨j,rv,p,hz⟩:=I.list Z;obtain⟨⟨f,n⟩,F⟩:=q;obtain⟨f0,f1,f2,f3,f4,f5⟩:=L l (by simp);have G:a≠l:=λz=>by obtain⟨o,r,c,d⟩:=F;obtain⟨o',g,J,_⟩:=p.isList;rw[z,r]at g;cases g;rw[c]at J;exact absurd J (by decide)
  have D:=Draws.list (prog:=X.prog) (w:=X.w) (A:=X.A.in1) (I.ok.hd hc) l a G j.toArray;have hn:j.toArray.size=i:=by rw[Fs,<-rv.length];exact Y
  exact wpAny_pyNext_enum_endD D n ⟨by rw[hn];exact F,p.isList⟩ λh' eb=>⟨rfl,I.turned (t':=s.toks) (λb o m x=>eb b o m x) f0 f1 f3 f4 f5⟩
 self:=λ_ _ _ _ _ q h=>by obtain⟨⟨f,n⟩,_⟩:=q;exact wpAny_pyIter_enum n h
section
variable{X:Cx}
noncomputable def Vr(K:Frag)(ta:TA):TI:=λc H R=>ta c H λe b=>∃a,e=[.ref a]/\(∃d,iN K b a d)/\R (Y5 K a) b
theorem KR{a:Expr}{ta:TA}{f:List Expr}{t:Nat}{k p pos:Pos}(E:Gl X "enumerate")(B:X.mg "enumerate"=none)(G:PA X [a] ta)(w:bootBuiltins "enumerate"=some (.type "enumerate"):=by rfl)(y:starEach [a] X.env=[(false,eval a X.env)]:=by rfl):
 PI X (.Tuple f t k) (.Call (.Name "enumerate" p) [a] [] pos) (Vr X.K ta):=by
 intro c s g H R I h;refine Call_ (kK I E B w (d4 (cI (G pos c s g H _ I h) λO d ⟨N,j,I1,n,o⟩=>?_) y rfl));obtain⟨l,e,⟨M,A⟩,q⟩:=o;subst e;obtain⟨u,rfl,m⟩:=Vals.one n;cases(show u=Value.ref l from m);obtain⟨v,rv,r,_⟩:=I1.list A;refine call_enumerate_list r.isList λJ i C x D=>?_;refine wpAny_pyIter_enum i ?_;have L:Inv X c g j {d with heap:=J}:=I1.kept (t':=d.toks) D;refine⟨d.heap.objs.size+1,[d.heap.objs.size+1,d.heap.objs.size],_,_,j,rfl,L,DV l (d.heap.objs.size+1) d.heap.objs.size (Nat.succ_ne_self _),⟨⟨_,i⟩,C⟩,λb F=>?_,q⟩;rcases Fn.mp F with z|z
 .rw[z];exact I1.zN (by lia) (I1.hok.fresh (by lia))
 .rw[Fu.mp z];exact I1.zN (Da _) (I1.hok.fresh (Da _))
end
section
variable{X:Cx}{tg:Expr}
end
section
variable{prog:Program}{w:World}{A:Around}{E:Value->Shared->Prop}
end
end L2
namespace L2
open PySem
variable{r:List Expr}{env:Env}{pos:Pos}
inductive Ql:List Expr->List (Int×Int)->Prop where
 |nil:Ql [] []
 |cons {a b:Int} {j1 j2 k:Nat} {p1 p2 pos:Pos} {es:List Expr} {qs:List (Int×Int)} (h:Ql es qs):Ql (.Tuple [.Constant (.int a) j1 p1,.Constant (.int b) j2 p2] k pos::es) ((a,b)::qs)
end L2
namespace L2
open PySem PySem.Spec PyProof.Rows
theorem uw:∀bs:List Bool,PyData.canLayAll0 (bs.map PyData.bool)=true
 |[]=>rfl
 |b::r=>by rw[RF];simp[PyData.canLayAll0,PyData.canLay0,uw r]
theorem qA:∀bs:List Bool,PyData.depthAll (bs.map PyData.bool)=0
 |[]=>rfl
 |b::r=>by rw[RF];simp[PyData.depthAll,PyData.depth,qA r]
theorem qE:∀bs cs:List Bool,PySem.Spec.sameAll (bs.map PyData.bool) (cs.map PyData.bool)=decide (bs=cs)
 |[],[]=>by simp[sameAll]
 |[],_::_=>by simp[sameAll]
 |_::_,[]=>by simp[sameAll]
 |b::r,c::t=>by
  have ih:=qE r t;simp only[RF,sameAll,ih,PySem.Spec.same];by_cases h:b=c
  .subst h;simp
  .simp[h]
theorem lW(bs:List Bool):SeqAt.shaped (.list (bs.map PyData.bool))=true:=by unfold SeqAt.shaped;simp[PyData.canLay0,PyData.depth,uw,qA]
section
variable{X:Cx}{H:Hp}
theorem qF:∀bs:List Bool,Paired (Dt X H) (bs.map V.bl) (bs.map PyData.bool)
 |[]=>.nil
 |n::r=>.cons (Oa n) (qF r)
noncomputable def Vs(K:Frag):R2:=λx y H Q=>∃(p a:Addr)(b c:List Bool),x=.ref p/\y=.ref a/\iN K H p (b.map V.bl)/\iN K H a (c.map V.bl)/\Q (.bl (decide (b=c))) H
theorem KU(j:X.A.units+64<cLine):kM X (compareOp .Eq) (Vs X.K):=by
 intro a s d H x y v u Q I g f h;obtain⟨p,m,b,c,rfl,rfl,l,k,q⟩:=h;have i:SeqAt.noMix (.list (b.map PyData.bool)) (.list (c.map PyData.bool))=true:=SeqAt.noMix_of_shape (.list .bool) rfl _ _ (list_map_has λ_=>rfl) (list_map_has λ_=>rfl);refine Gd j a s d H _ _ v u Q I g f ⟨_,_,u9 l (qF b),u9 k (qF c),⟨lW _,lW _,i⟩,?_⟩;have e:PySem.Spec.same (.list (b.map PyData.bool)) (.list (c.map PyData.bool))=decide (b=c):=by simp only[PySem.Spec.same];exact qE b c
 rw[e];exact q
end
mutual
noncomputable def aM:PyData->Bool
 |.int _=>true
 |.list a=>gm a
 |.tuple a=>gm a
 |.none=>false
 |.bool _=>false
 |.str _=>false
 |.dict _=>false
noncomputable def gm:List PyData->Bool
 |[]=>true
 |x::a=>aM x&&gm a
end
mutual
theorem Ge:∀d:PyData,aM d=true->d.canLay0=true
 |.int _,_=>by simp[PyData.canLay0]
 |.list a,h=>by rw[aM]at h;rw[PyData.canLay0];exact nD a h
 |.tuple a,h=>by rw[aM]at h;rw[PyData.canLay0];exact nD a h
 |.none,h=>by simp[aM]at h
 |.bool _,h=>by simp[aM]at h
 |.str _,h=>by simp[aM]at h
 |.dict _,h=>by simp[aM]at h
theorem nD:∀a:List PyData,gm a=true->PyData.canLayAll0 a=true
 |[],_=>by simp[PyData.canLayAll0]
 |x::a,h=>by rw[gm,Bi]at h;rw[PyData.canLayAll0,Ge x h.1,nD a h.2];rfl
end
mutual
theorem Gf:∀d e:PyData,aM d=true->aM e=true->SeqAt.noMix d e=true
 |.int _,.int _,_,_=>by simp[SeqAt.noMix]
 |.int _,.list _,_,_=>by simp[SeqAt.noMix]
 |.int _,.tuple _,_,_=>by simp[SeqAt.noMix]
 |.list _,.int _,_,_=>by simp[SeqAt.noMix]
 |.list _,.tuple _,_,_=>by simp[SeqAt.noMix]
 |.tuple _,.int _,_,_=>by simp[SeqAt.noMix]
 |.tuple _,.list _,_,_=>by simp[SeqAt.noMix]
 |.list c,.list b,h,a=>by rw[aM]at h a;rw[SeqAt.noMix];exact nE c b h a
 |.tuple c,.tuple b,h,a=>by rw[aM]at h a;rw[SeqAt.noMix];exact nE c b h a
 |.none,_,h,_=>by simp[aM]at h
 |.bool _,_,h,_=>by simp[aM]at h
 |.str _,_,h,_=>by simp[aM]at h
 |.dict _,_,h,_=>by simp[aM]at h
 |.int _,.none,_,h=>by simp[aM]at h
 |.int _,.bool _,_,h=>by simp[aM]at h
 |.int _,.str _,_,h=>by simp[aM]at h
 |.int _,.dict _,_,h=>by simp[aM]at h
 |.list _,.none,_,h=>by simp[aM]at h
 |.list _,.bool _,_,h=>by simp[aM]at h
 |.list _,.str _,_,h=>by simp[aM]at h
 |.list _,.dict _,_,h=>by simp[aM]at h
 |.tuple _,.none,_,h=>by simp[aM]at h
 |.tuple _,.bool _,_,h=>by simp[aM]at h
 |.tuple _,.str _,_,h=>by simp[aM]at h
 |.tuple _,.dict _,_,h=>by simp[aM]at h
theorem nE:∀b a:List PyData,gm b=true->gm a=true->SeqAt.noMixAll b a=true
 |[],[],_,_=>by simp[SeqAt.noMixAll]
 |[],_::_,_,_=>by simp[SeqAt.noMixAll]
 |_::_,[],_,_=>by simp[SeqAt.noMixAll]
 |x::b,y::a,h,c=>by rw[gm,Bi]at h c;rw[SeqAt.noMixAll,Gf x y h.1 c.1,nE b a h.2 c.2];rfl
end
mutual
theorem DW:∀d e:PyData,aM d=true->aM e=true->(same d e=true↔d=e)
 |.int a,.int b,_,_=>by simp[same]
 |.int _,.list _,_,_=>by simp[same]
 |.int _,.tuple _,_,_=>by simp[same]
 |.list _,.int _,_,_=>by simp[same]
 |.list _,.tuple _,_,_=>by simp[same]
 |.tuple _,.int _,_,_=>by simp[same]
 |.tuple _,.list _,_,_=>by simp[same]
 |.list g,.list f,h,c=>by rw[aM]at h c;rw[same,kP g f h c,PyData.list.injEq]
 |.tuple g,.tuple f,h,c=>by rw[aM]at h c;rw[same,kP g f h c,PyData.tuple.injEq]
 |.none,_,h,_=>by simp[aM]at h
 |.bool _,_,h,_=>by simp[aM]at h
 |.str _,_,h,_=>by simp[aM]at h
 |.dict _,_,h,_=>by simp[aM]at h
 |.int _,.none,_,h=>by simp[aM]at h
 |.int _,.bool _,_,h=>by simp[aM]at h
 |.int _,.str _,_,h=>by simp[aM]at h
 |.int _,.dict _,_,h=>by simp[aM]at h
 |.list _,.none,_,h=>by simp[aM]at h
 |.list _,.bool _,_,h=>by simp[aM]at h
 |.list _,.str _,_,h=>by simp[aM]at h
 |.list _,.dict _,_,h=>by simp[aM]at h
 |.tuple _,.none,_,h=>by simp[aM]at h
 |.tuple _,.bool _,_,h=>by simp[aM]at h
 |.tuple _,.str _,_,h=>by simp[aM]at h
 |.tuple _,.dict _,_,h=>by simp[aM]at h
theorem kP:∀b a:List PyData,gm b=true->gm a=true->(sameAll b a=true↔b=a)
 |[],[],_,_=>by simp[sameAll]
 |[],_::_,_,_=>by simp[sameAll]
 |_::_,[],_,_=>by simp[sameAll]
 |x::b,y::a,h,c=>by rw[gm,Bi]at h c;rw[sameAll,Bi,DW x y h.1 c.1,kP b a h.2 c.2,U2]
end
section
variable{X:Cx}
end
theorem yc{a:List PyData}{n:Nat}(h:∀x∈a,x.depth<=n):PyData.depthAll a<=n:=by
 induction a with
 |nil=>simp[PyData.depthAll]
 |cons x a b=>rw[PyData.depthAll];have:=h x (FC ..);have:=b λy c=>h y (Ee _ c);lia
theorem Ai(bs:List Bool):((D2 bs.length).any λi=>(bs[i]?).getD false)=bs.any id:=by
 rw[ma,Vv,Vv];constructor
 .rintro⟨i,c,h⟩;have a:=Yf.mp c;simp only[BM a,L0]at h;exact⟨_,Kx a,h⟩
 .rintro⟨b,d,h⟩;obtain⟨i,c,rfl⟩:=gd d;refine⟨i,Yf.mpr c,?_⟩;simp only[BM c,L0];exact h
section
variable{X:Cx}
theorem DX(x:X.calm=true):dG X (.builtin "any") (λg H Q=>∃(p:Addr)(bs:List Bool),g=[.ref p]/\iN X.K H p (bs.map V.bl)/\Q (.bl (bs.any id)) H):=by
 intro j s D H g E Q I r h;obtain⟨p,bs,rfl,y,q⟩:=h;obtain⟨u,rfl,m⟩:=Vals.one r;cases(show u=Value.ref p from m);obtain⟨a,rv,n,_⟩:=I.list y;have k:=uv rv;have f:=n.isList;have d:p<s.heap.objs.size:=by obtain⟨_,e,_⟩:=f;exact GT e
 refine call_any_walk (y2 f ?_);refine⟨s.heap.objs.size,[s.heap.objs.size,p],[s.heap.objs.size],a.toArray.size,_,_,λi=>(bs[i]?).getD false,rfl,Walks.list (A:=X.A.in1) (I.ok.hd x) _ p (Os d) a.toArray,
  ⟨⟨_,On _ rfl,rfl,rfl⟩,f.push _⟩,λi v G L M B l=>?_,λJ F w=>?_⟩
 .have c:a[i]?=some v:=by simpa using B
  rw[k,Dx]at c;cases e:bs[i]? with
  |none=>rw[e]at c;cases c
  |some b=>rw[e]at c;simp only[e,L0]at l;have:v=Value.bool b:=(Kk c).symm;subst this;exact h8 l
 .have e:((D2 a.toArray.size).any λi=>(bs[i]?).getD false)=bs.any id:=by
   have C:a.toArray.size=bs.length:=by rw[Fs,k,AN]
   rw[C];exact Ai bs
  rw[e];exact⟨.bl _,H,I.kept λb o z=>w b o (λt=>by rw[Fu.mp t]at z;exact OF _ (GT z)) (Fk _ z),rfl,q⟩
end
end L2
set_option genSizeOf false
set_option genInjectivity false
namespace Num
theorem qG(a b q:Int):D1 b (a -q*b)=D1 a b:=by
 apply Nat.dvd_antisymm
 .apply ja
  .have f:((D1 b (a -q*b):Nat):Int)∣b:=hJ ..;have d:((D1 b (a -q*b):Nat):Int)∣(a -q*b):=X1 ..;have c:=tJ d (gN f:_∣q*b);have e:a -q*b+q*b=a:=by lia
   rw[e]at c;exact c
  .exact hJ ..
 .apply ja
  .exact X1 ..
  .exact w8 (hJ ..) (gN (X1 ..))
theorem fl(a b:Int)(c:b≠0):(0<b->0<=a -a.fdiv b*b/\a -a.fdiv b*b<b)/\(b<0->b<a -a.fdiv b*b/\a -a.fdiv b*b<=0):=by
 have e:=Int.mul_ediv_add_emod a b;have f:=mM a c;have d:a%b<(b.natAbs:Int):=by
  rcases pj 0 b with z|z
  .have:=eA a z;lia
  .have:=eA a (show 0< -b by lia);rw[Int.emod_neg]at this;lia
 rw[Int.fdiv_eq_ediv];have g:b*(a/b)=(a/b)*b:=cc _ _;constructor
 .intro h;rw[Bz (Qd (by lia)),ik];lia
 .intro h;split
  .rename_i hd
   have hz:a%b=0:=oC (by lia);rw[ik];lia
  .rename_i hd
   have hz:a%b≠0:=λz=>hd (.inr (xa z));have:(a/b -1)*b=a/b*b -b:=by rw[Int.sub_mul];lia
   lia
theorem qH(a b:Int)(c:b≠0):(a -a.fdiv b*b).natAbs<b.natAbs:=by have:=fl a b c;omega
theorem fmod_eq(a b:Int):a.fmod b=a -a.fdiv b*b:=by have:=Int.mul_fdiv_add_fmod a b;have:b*a.fdiv b=a.fdiv b*b:=cc _ _;omega
theorem Ob(a b:Int)(c:b≠0):(a.fdiv b).natAbs*b.natAbs<=a.natAbs+b.natAbs:=by have h:=qH a b c;rw[<-FS];omega
theorem Y7(a b:Int)(c:b≠0):(a.fdiv b).natAbs<=a.natAbs+b.natAbs:=by have h:=Ob a b c;have:(a.fdiv b).natAbs*1<=(a.fdiv b).natAbs*b.natAbs:=GE _ (by lia);lia
noncomputable def Sg(x y:Int):Prop:=(0<x/\0<=y)\/(x<0/\y<=0)
theorem KW(x y:Int)(a:y≠0):Sg y (x -x.fdiv y*y):=by have h:=fl x y a;unfold Sg;omega
theorem Vt{x y:Int}(h:Sg x y)(g:y≠0):x.natAbs=(x.fdiv y).natAbs*y.natAbs+(x -x.fdiv y*y).natAbs:=by
 have b:=fl x y g;rw[<-FS];generalize i:x.fdiv y=q at b⊢;have f:0<=q:=by
  rcases pj q 0 with z|z
  .exfalso
   rcases h with⟨d,c⟩|⟨d,c⟩
   .have a:0<y:=by lia
    have:=rk (show q<=-1 by lia) (show 0<=y by lia);have:=b.1 a;lia
   .have a:y<0:=by lia
    have:=rk (show q<=-1 by lia) (show 0<=-y by lia);have e:q* -y= -(q*y):=ib _ _;have:=b.2 a;lia
  .exact z
 rcases h with⟨d,c⟩|⟨d,c⟩
 .have:=Z4 f (show 0<=y by lia);have:=b.1 (by lia);clear this;lia
 .have:=Z4 f (show 0<=-y by lia);have e:q* -y= -(q*y):=ib _ _;have:=b.2 (by lia);lia
noncomputable def Ib(n:Nat)(x y u a:Int):Prop:=a.natAbs*x.natAbs+u.natAbs*y.natAbs<=3*2^n
theorem BP{n:Nat}{x y u a:Int}(h:Ib n x y u a)(f:Sg x y)(d:y≠0):Ib n y (x -x.fdiv y*y) a (u -x.fdiv y*a):=by
 have e:=Vt f d;unfold Ib at h⊢;have c:(u -x.fdiv y*a).natAbs<=u.natAbs+(x.fdiv y).natAbs*a.natAbs:=by rw[<-FS];omega
 generalize(x -x.fdiv y*y).natAbs=r at e⊢;generalize(x.fdiv y).natAbs=q at e c;generalize(u -x.fdiv y*a).natAbs=w at c⊢;generalize u.natAbs=U at*;generalize a.natAbs=b at*;generalize y.natAbs=Y at*;generalize x.natAbs=X at*;subst e;have i:w*Y<=(U+q*b)*Y:=NA _ c;have g:(U+q*b)*Y+b*r=b*(q*Y+r)+U*Y:=by grind
 omega
theorem yd{n:Nat}{x y u a:Int}(h:Ib n x y u a)(c:Sg x y):a.natAbs<2^(n+2):=by
 unfold Ib at h;have b:1<=x.natAbs:=by unfold Sg at c;lia
 have:a.natAbs*1<=a.natAbs*x.natAbs:=GE _ b;have e:2^(n+2)=4*2^n:=by rw[dE];lia
 have:0<2^n:=OK (by decide);lia
theorem dz(r:Rat):(r.den:Int)≠0:=by have:=r.den_nz;lia
theorem Qm{n:Int}{d:Nat}{r:Rat}(a:d≠0)(b:Nat.gcd n.natAbs d=1)(h:n*r.den=r.num*d):r.num=n/\(r.den:Int)=d:=by
 have e:r=⟨n,d,a,b⟩:=by rw[<-Qr r,Rat.mk_eq_divInt,lL (dz r) (by lia)];exact h.symm
 rw[e];exact⟨rfl,rfl⟩
theorem BQ(x y:Int)(h:y≠0):∃b a:Int,x=(D1 x y:Nat)*b/\y=(D1 x y:Nat)*a/\D1 b a=1/\0<((D1 x y:Nat):Int):=by
 have f:0<D1 x y:=Int.gcd_pos_of_ne_zero_right _ h;obtain⟨b,d⟩:((D1 x y:Nat):Int)∣x:=hJ ..;obtain⟨a,c⟩:((D1 x y:Nat):Int)∣y:=X1 ..;refine⟨b,a,d,c,?_,by lia⟩;have e:D1 ((D1 x y:Nat)*b) ((D1 x y:Nat)*a)=D1 x y*D1 b a:=by rw[Int.gcd_mul_left];rfl
 rw[<-d,<-c]at e;have:D1 x y*1=D1 x y*D1 b a:=by lia
 exact(Nat.eq_of_mul_eq_mul_left f this).symm
theorem KY{g x a:Int}(h:x=g*a)(b:0<g):x/g=a:=by rw[h];exact mI _ (by lia)
theorem Qn{g y a:Int}(h:y=g*a)(b:0<g)(c:0<y):0<a:=by
 rcases pj 0 a with z|z
 .exact z
 .have:=Int.mul_nonpos_of_nonneg_of_nonpos (fe b) z;omega
theorem BR{n d:Int}{r:Rat}(b:0<d)(a:D1 n d=1)(h:n*r.den=r.num*d):r.num=n/\(r.den:Int)=d:=by
 have e:((d.toNat:Nat):Int)=d:=by lia
 have:=Qm (n:=n) (d:=d.toNat) (r:=r) (by lia) (by unfold D1 at a;rw[show d.toNat=d.natAbs by lia];exact a) (by rw[e];exact h);rw[e]at this;exact this
noncomputable def Bd(n:Nat)(r:Rat):Prop:=r.num.natAbs<2^n/\r.den<2^n
theorem Qo{n:Int}{d:Nat}(a:d≠0):(mkRat n d).num.natAbs<=n.natAbs/\(mkRat n d).den<=d:=by
 obtain⟨m,e,c,b⟩:=Rat.mkRat_num_den a (show mkRat n d=⟨(mkRat n d).num,(mkRat n d).den,(mkRat n d).den_nz,(mkRat n d).reduced⟩from rfl);constructor
 .have:n.natAbs=(mkRat n d).num.natAbs*m:=by
   conv=>lhs;rw[c]
   rw[FS,I0]
  rw[this];exact cq _ (by lia)
 .conv=>rhs;rw[b]
  exact cq _ (by lia)
theorem lt_mul{x y n m:Nat}(b:x<2^n)(a:y<2^m):x*y<2^(n+m):=by
 rw[dE];rcases cb y with z|z
 .subst z;have:=Nat.mul_pos (OK (n:=n) (show 0<2 by decide)) (OK (n:=m) (show 0<2 by decide));omega
 .exact FV (YP b z) (GE _ (Oy a))
theorem Aj{n m:Nat}{a b:Rat}(e:Bd n a)(c:Bd m b):Bd (n+m) (a*b):=by have q:=Qo (n:=a.num*b.num) (d:=a.den*b.den) (Nat.mul_ne_zero a.den_nz b.den_nz);rw[<-Rat.mul_def']at q;have g:=lt_mul e.1 c.1;have f:=lt_mul e.2 c.2;rw[FS]at q;exact⟨by omega,by omega⟩
theorem Qp{n:Nat}{a:Rat}(h:Bd n a):Bd n (-a):=⟨by rw[fx,f7];exact h.1,by rw[g4];exact h.2⟩
theorem Vu{n m:Nat}{a:Rat}(h:Bd n a)(b:n<=m):Bd m a:=⟨FV h.1 (Kt (by decide) b),FV h.2 (Kt (by decide) b)⟩
noncomputable def cf(as bs:List Int):Nat->Nat->Int
 |0,_=>0
 |i+1,k=>cf as bs i k+as.getD i 0*(if i<=k then bs.getD (k -i) 0 else 0)
noncomputable def E3(as bs:List Int)(i j k:Nat):Int:=cf as bs i k+(if i<=k/\k<i+j then as.getD i 0*bs.getD (k -i) 0 else 0)
theorem Gg(as bs:List Int)(i k:Nat):E3 as bs i 0 k=cf as bs i k:=by unfold E3;rw[Bn (by lia)];lia
theorem Gh(as bs:List Int)(i k:Nat):E3 as bs i bs.length k=cf as bs (i+1) k:=by
 unfold E3;rw[cf];by_cases h:i<=k
 .by_cases a:k<i+bs.length
  .rw[Bz ⟨h,a⟩,Bz h]
  .have e:bs.getD (k -i) 0=0:=by rw[AC,FK (by lia)];rfl
   rw[Bn (by lia),Bz h,e,QP]
 .rw[Bn (by lia),Bn h,QP]
theorem ye(as bs:List Int)(i j k:Nat):E3 as bs i (j+1) k=E3 as bs i j k+(if k=i+j then as.getD i 0*bs.getD j 0 else 0):=by
 unfold E3;by_cases h:k=i+j
 .subst h;rw[Bz (by lia),Bn (by lia),Bz rfl,P2];lia
 .rw[Bn h];by_cases a:i<=k/\k<i+j
  .rw[Bz (by lia),Bz a];lia
  .rw[Bn (by lia),Bn a];lia
theorem KZ{as bs:List Int}{i:Nat}(h:as.getD i 0=0)(k:Nat):cf as bs (i+1) k=cf as bs i k:=by rw[cf,h,Ta,fo]
theorem qI(as bs:List Int)(k:Nat):∀i,i+bs.length<=k+1->cf as bs i k=0
 |0,_=>rfl
 |i+1,h=>by
  rw[cf,qI as bs k i (by lia)];have e:bs.getD (k -i) 0=0:=by rw[AC,FK (by lia)];rfl
  rw[Bz (by lia),e,QP];rfl
noncomputable def fM(ns a:List Int):Prop:=∃k,k<=ns.length/\a=ns.take k/\(∀j,k<=j->j<ns.length->ns.getD j 0=0)/\(k=0\/ns.getD (k -1) 0≠0)
theorem fM.last{ns a:List Int}(h:fM ns a):a=[]\/a.getD (a.length -1) 0≠0:=by
 obtain⟨k,c,rfl,e,b⟩:=h;rcases b with q|q
 .left;rw[q];rfl
 .by_cases d:k=0
  .left;rw[d];rfl
  .right;rw[W1,ek c,AC,lj (by lia),<-AC];exact q
theorem fM.mem{ns a:List Int}(h:fM ns a):∀m∈a,m∈ns:=by obtain⟨k,_,rfl,_⟩:=h;exact λm b=>ke b
noncomputable def gq(p:Int):Prop:=2<=p/\∀d:Int,2<=d->d*d<=p->p%d≠0
theorem ku{p x:Int}(d:gq p)(i:0<x)(m:x<p):D1 p x=1:=by
 obtain⟨l,b⟩:=d;have j:0<D1 p x:=Ym _ (by lia);obtain⟨q,a⟩:((D1 p x:Nat):Int)∣p:=hJ ..;have f:((D1 p x:Nat):Int)<=x:=gL i (X1 ..);generalize k:((D1 p x:Nat):Int)=g at*;have n:1<=g:=by lia
 rcases pj 1 g with h|e
 .exfalso
  have c:2<=q:=by
   rcases pj q 2 with z|z
   .have:q<=1:=by lia
    have:=tI this (show 0<=g by lia);lia
   .exact z
  rcases Int.le_total g q with z|z
  .have:g*g<=g*q:=tI z (by lia);exact b g (by lia) (by lia) (oC ⟨q,a⟩)
  .have:q*q<=g*q:=rk z (by lia);exact b q c (by lia) (oC ⟨g,by rw[a,cc]⟩)
 .lia
theorem yf(t b:Int)(k:b≠0):((if b<0 then-((D1 t b:Nat):Int)else((D1 t b:Nat):Int))≠0)/\(BK t b).num=t.fdiv (if b<0 then-((D1 t b:Nat):Int)else((D1 t b:Nat):Int))/\
 ((BK t b).den:Int)=b.fdiv (if b<0 then-((D1 t b:Nat):Int)else((D1 t b:Nat):Int)):=by
 obtain⟨x,y,i,e,c,j⟩:=BQ t b k;have m:=(lL (dz (BK t b)) k).mp (Qr (BK t b));generalize((D1 t b:Nat):Int)=g at*;generalize BK t b=r at*;have gz:g≠0:=by lia
 have l:x*r.den=r.num*y:=by
  rw[i,e]at m;have:g*(x*r.den)=g*(r.num*y):=by grind
  exact Wp gz this
 rcases pj b 0 with z|z
 .rw[Bz z];have f:0< -y:=by
   rcases pj 0 (-y)with q|q
   .exact q
   .have:=Z4 (fe j) (show 0<=y by lia);lia
  have a:=BR (n:= -x) (d:= -y) (r:=r) f (by rw[Int.gcd_neg,Int.neg_gcd];exact c) (by grind);have h: -g≠0:=by lia
  refine⟨h,?_,?_⟩
  .rw[a.1,i,show g*x= -g* -x by grind,mB _ h]
  .rw[a.2,e,show g*y= -g* -y by grind,mB _ h]
 .rw[Bn (by lia)];have f:=Qn e j (by lia);have a:=BR (r:=r) f c l;refine⟨gz,?_,?_⟩
  .rw[a.1,i,mB _ gz]
  .rw[a.2,e,mB _ gz]
theorem Ak(t b:Int)(a:b≠0):(BK t b).num*b=t*(BK t b).den:=(lL (dz _) a).mp (Qr _)
theorem l5(t b:Int)(f:b≠0):(BK t b).num.natAbs<=t.natAbs/\(BK t b).den<=b.natAbs:=by
 have c:=Ak t b f;generalize BK t b=r at*;have d:r.num.natAbs*b.natAbs=t.natAbs*r.den:=by have:=PQ Z3 c;rw[FS,FS,I0]at this;exact this
 have a:cg r.num.natAbs r.den:=r.reduced;have e:0<b.natAbs:=by lia
 have h:r.den∣b.natAbs:=a.symm.dvd_of_dvd_mul_left ⟨t.natAbs,by rw[d,d5]⟩;have g:r.num.natAbs∣t.natAbs:=a.dvd_of_dvd_mul_right ⟨b.natAbs,d.symm⟩;refine⟨?_,fi e h⟩;rcases cb t.natAbs with z|z
 .rw[z,tq]at d;rcases Nat.mul_eq_zero.mp d with q|q
  .lia
  .lia
 .exact fi z g
noncomputable def ev(x:Rat):List Rat->Rat
 |[]=>0
 |r::rs=>r+x*ev x rs
noncomputable def wv(t b:Int):List Int->Int
 |[]=>0
 |x::s=>wv t b s*t+x*b^s.length
theorem BS(x:Rat):x*((x.den:Int):Rat)=((x.num:Int):Rat):=by
 have h:=Qr x;rw[TK]at h;have:((x.den:Int):Rat)≠0:=λz=>by have:=xt.mp (z.trans (show(0:Rat)=((0:Int):Rat)from rfl));have:=x.den_nz;lia
 grind
theorem Qq{b:Int}(h:b≠0):(b:Rat)≠0:=λz=>h (xt.mp (z.trans (show(0:Rat)=((0:Int):Rat)from rfl)))
theorem gf{x:Rat}{B:Int}(h:(x.den:Int)∣B):((x.num*(B/x.den):Int):Rat)=x*B:=by
 obtain⟨k,a⟩:=h;have e:B/(x.den:Int)=k:=by rw[a];exact mI _ (dz x)
 rw[e,a,Jn,Jn,<-BS x];grind
noncomputable def sm(f:Nat->Int):Nat->Int
 |0=>0
 |n+1=>sm f n+f n
theorem fN{f g:Nat->Int}:∀n,(∀i,i<n->f i=g i)->sm f n=sm g n
 |0,_=>rfl
 |n+1,h=>by rw[sm,sm,fN n λi a=>h i (by lia),h n (by lia)]
theorem vd(f:Nat->Int):∀n,sm f (n+1)=f 0+sm (λi=>f (i+1)) n
 |0=>by rw[sm,sm,sm];lia
 |n+1=>by rw[sm,vd f n,sm];lia
theorem Al(f:Nat->Int):∀n,sm (λi=>f (n -i)) (n+1)=sm f (n+1)
 |0=>rfl
 |n+1=>by rw[vd,fN (g:=λi=>f (n -i)) (n+1) λi a=>by congr 1;lia,Al f n];rw[sm,sm,sm];show f (n+1 -0)+(sm f n+f n)=_;rw[P0];lia
theorem ve{f:Nat->Int}{m:Nat}:∀n,m<=n->(∀i,m<=i->i<n->f i=0)->sm f n=sm f m
 |0,h,_=>by
  have:m=0:=by lia
  rw[this]
 |n+1,h,z=>by
  by_cases e:m=n+1
  .rw[e]
  .rw[sm,ve n (by lia) (λi a b=>z i a (by lia)),z n (by lia) (by lia),fo]
theorem yg(as bs:List Int)(k:Nat):∀n,cf as bs n k=sm (λi=>as.getD i 0*(if i<=k then bs.getD (k -i) 0 else 0)) n
 |0=>rfl
 |n+1=>by rw[cf,yg as bs k n,sm]
theorem pO(as bs:List Int)(k:Nat):cf as bs as.length k=sm (λi=>as.getD i 0*bs.getD (k -i) 0) (k+1):=by
 rw[yg];have a:∀i,as.length<=i->as.getD i 0=0:=λi h=>by rw[AC,FK h];rfl
 rcases Zx as.length (k+1)with h|h
 .rw[<-ve (k+1) h λi b _=>by rw[a i b,Ta]];exact fN _ λi c=>by rw[Bz (by lia)]
 .rw[ve as.length h λi b _=>by rw[Bn (by lia),QP]];exact fN _ λi c=>by rw[Bz (by lia)]
theorem K0(as bs:List Int)(k:Nat):cf as bs as.length k=cf bs as bs.length k:=by rw[pO,pO,<-Al];refine fN _ λi a=>?_;show as.getD (k -i) 0*bs.getD (k -(k -i)) 0=_;rw[show k -(k -i)=i by omega,cc]
noncomputable def c7(n:Nat)(f:Nat->Rat):List Rat:=(D2 n).map f
theorem e9(n:Nat)(f:Nat->Rat):(c7 n f).length=n:=by unfold c7;simp
theorem BU{n:Nat}{f:Nat->Rat}{k:Nat}(h:k<n):(c7 n f)[k]?=some (f k):=by unfold c7;rw[Dx,SB h];rfl
theorem Gi{n:Nat}{f g:Nat->Rat}{k:Nat}(h:k<n)(c:∀j,j<n->j≠k->g j=f j):(c7 n f).set k (g k)=c7 n g:=by
 apply cw;intro j;rw[oy];unfold c7;by_cases b:k=j
 .subst b;rw[Bz rfl,Bz (by simpa using h)];simp[h]
 .rw[Bn b];by_cases a:j<n
  .simp[a,c j a (λz=>b z.symm)]
  .simp[a]
theorem Gj{n:Nat}{f:Nat->Rat}{x:Rat}(h:x∈c7 n f):∃k,k<n/\x=f k:=by unfold c7 at h;obtain⟨k,a,rfl⟩:=Ki.mp h;exact⟨k,Yf.mp a,rfl⟩
theorem cS{rs:List Rat}{k:Nat}(h:rs.length<=k):rs.getD k 0=0:=by rw[AC,FK h];rfl
noncomputable def aY(l:List Rat):List Rat:=(l.reverse.dropWhile λx=>decide (x=0)).reverse
theorem iS(l:List Rat):aY (l++[0])=aY l:=by unfold aY;rw[cm,ZT,a8,cy,Bz (by simp)]
theorem iT(l:List Rat){x:Rat}(h:x≠0):aY (l++[x])=l++[x]:=by unfold aY;rw[cm,ZT,a8,cy,Bn (by simpa using h)];simp
theorem qJ:∀(n:Nat)(l:List Rat)(k:Nat),l.length=n->k<=l.length->(∀j,k<=j->j<l.length->l.getD j 0=0)->(k=0\/l.getD (k -1) 0≠0)->aY l=l.take k
 |0,l,k,d,f,_,_=>by have:l=[]:=Hn.mp d;subst this;simp[aY]
 |n+1,l,k,d,f,hz,h=>by
  have c:l≠[]:=λz=>by rw[z]at d;cases d
  obtain⟨b,x,rfl⟩:∃b x,l=b++[x]:=⟨l.dropLast,l.getLast c,(cx c).symm⟩;have a:b.length=n:=by simpa using d
  have g:(b++[x]).getD n 0=x:=by rw[AC,Ha (by lia),a,eD];rfl
  have i:∀j,j<n->(b++[x]).getD j 0=b.getD j 0:=λj q=>by rw[AC,KE (by lia),<-AC]
  rw[Fm,a]at f hz;simp only[CY,NT]at f hz;by_cases e:k=n+1
  .subst e;rcases h with z|z
   .lia
   .rw[He,g]at z;rw[iT _ z,ox (by simp[a])]
  .have m:x=0:=by rw[<-g];exact hz n (by lia) (by lia)
   subst m;rw[iS,W9 (by lia)];refine qJ n b k a (by lia) (λj p r=>?_) ?_
   .rw[<-i j (by lia)];exact hz j p (by lia)
   .rcases h with z|z
    .exact .inl z
    .by_cases o:k=0
     .exact .inl o
     .rw[i (k -1) (by lia)]at z;exact .inr z
theorem nF(l:List Rat):∃k,k<=l.length/\aY l=l.take k/\(k=0\/l.getD (k -1) 0≠0):=by
 generalize d:l.length=n
 induction n generalizing l with
 |zero=>have:l=[]:=Hn.mp d;subst this;exact⟨0,Da _,rfl,.inl rfl⟩
 |succ n i=>
  have b:l≠[]:=λz=>by rw[z]at d;cases d
  obtain⟨c,x,rfl⟩:∃c x,l=c++[x]:=⟨l.dropLast,l.getLast b,(cx b).symm⟩;have a:c.length=n:=by simpa using d
  by_cases e:x=0
  .subst e;obtain⟨k,j,g,f⟩:=i c a;refine⟨k,by lia,by rw[iS,g,W9 (by lia)],?_⟩;rcases f with z|z
   .exact .inl z
   .by_cases h:k=0
    .exact .inl h
    .right;rw[AC,KE (by lia),<-AC];exact z
  .refine⟨n+1,Da _,by rw[iT _ e,ox (by simp[a])],.inr ?_⟩;rw[He,AC,Ha (by lia),a,eD];exact e
theorem DY{l:List Rat}{x:Rat}(h:x∈aY l):x∈l:=by obtain⟨k,_,e,_⟩:=nF l;rw[e]at h;exact ke h
theorem ux(l:List Rat):(aY l).length<=l.length:=by obtain⟨k,a,e,_⟩:=nF l;rw[e,W1];lia
noncomputable def ao(l:List Rat):Prop:=∀x,l.getLast?=some x->x≠0
theorem b9(l:List Rat):ao (aY l):=λx a=>by
 obtain⟨k,c,e,h⟩:=nF l;rw[e]at a;rcases h with z|z
 .rw[z]at a;simp at a
 .by_cases b:k=0
  .rw[b]at a;simp at a
  .have d:(l.take k).getLast?=some (l.getD (k -1) 0):=by rw[Kj,W1,ek c,lj (by lia),AC,BM (by lia)];rfl
   rw[d]at a;rw[<-Kk a];exact z
noncomputable def Vw(rs:List Rat):List Rat:=rs.map λx=> -x
noncomputable def zF(as bs:List Rat):Nat->Nat->Rat
 |0,_=>0
 |i+1,k=>zF as bs i k+as.getD i 0*(if i<=k then bs.getD (k -i) 0 else 0)
noncomputable def gS(as bs:List Rat)(i j k:Nat):Rat:=zF as bs i k+(if i<=k/\k<i+j then as.getD i 0*bs.getD (k -i) 0 else 0)
theorem DZ(as bs:List Rat)(i k:Nat):gS as bs i 0 k=zF as bs i k:=by unfold gS;rw[Bn (by lia)];grind
theorem D3(as bs:List Rat)(i k:Nat):gS as bs i bs.length k=zF as bs (i+1) k:=by
 unfold gS;rw[zF];by_cases h:i<=k
 .by_cases a:k<i+bs.length
  .rw[Bz ⟨h,a⟩,Bz h]
  .have e:bs.getD (k -i) 0=0:=cS (by omega);rw[Bn (by omega),Bz h,e,HI]
 .rw[Bn (by omega),Bn h,HI]
theorem uy(as bs:List Rat)(i j k:Nat):gS as bs i (j+1) k=gS as bs i j k+(if k=i+j then as.getD i 0*bs.getD j 0 else 0):=by
 unfold gS;by_cases h:k=i+j
 .subst h;rw[Bz (by lia),Bn (by lia),Bz rfl,P2];grind
 .rw[Bn h];by_cases a:i<=k/\k<i+j
  .rw[Bz (by lia),Bz a];grind
  .rw[Bn (by lia),Bn a];grind
noncomputable def mulQ(rs a:List Rat):List Rat:=c7 (rs.length+a.length -1) (zF rs a rs.length)
theorem Oc{n m:Nat}{as bs:List Int}(c:∀x∈as,x.natAbs<2^n)(b:∀x∈bs,x.natAbs<2^m)(k:Nat):∀i,(cf as bs i k).natAbs<=i*2^(n+m)
 |0=>by show 0<=_;lia
 |i+1=>by
  have g:∀{n:Nat}{as:List Int}(h:∀x∈as,x.natAbs<2^n)(j:Nat),(as.getD j 0).natAbs<2^n:=λ{n as} h j=>by
   by_cases a:j<as.length
   .rw[AC,BM a];exact h _ (Kx a)
   .rw[AC,FK (by omega)];exact OK (by decide)
  have d:=Oc c b k i;have e:(as.getD i 0*(if i<=k then bs.getD (k -i) 0 else 0)).natAbs<2^(n+m):=by
   rw[FS];refine lt_mul (g c i) ?_;split
   .exact g b _
   .exact OK (by decide)
  rw[cf,yB];omega
theorem Gk{ns d:List Int}{B:Int}(a:B≠0)(h:fM ns d):d.map (λx=>BK x B)=aY (ns.map λx=>BK x B):=by
 obtain⟨k,m,rfl,l,i⟩:=h;have g:∀j,j<ns.length->(ns.map λx=>BK x B).getD j 0=BK (ns.getD j 0) B:=λj p=>by rw[AC,Dx,AC,BM p];rfl
 have f:∀x:Int,x≠0->BK x B≠0:=λx o z=>by
  have e:BK x B=BK 0 B:=by rw[z,Xs]
  have:=(lL a a).mp e;rw[Ta]at this;rcases Int.mul_eq_zero.mp this with q|q
  .exact o q
  .exact a q
 have c:=qJ _ (ns.map λx=>BK x B) k rfl (by rw[AN];exact m) (λj r b=>by
  rw[AN]at b;rw[g j b,l j r b,Xs]) (by
  rcases i with z|z
  .exact .inl z
  .by_cases n:k=0
   .exact .inl n
   .rw[g (k -1) (by omega)];exact .inr (f _ z))
 rw[c,ZG]
theorem yh(l:List Rat)(k:Nat):(l++[0]).getD k 0=l.getD k 0:=by
 rw[AC,AC];by_cases h:k<l.length
 .rw[KE h]
 .rw[Ha (by lia),FK (l:=l) (by lia)];cases a:k -l.length with
  |zero=>rfl
  |succ n=>rfl
theorem iU(l:List Rat)(k:Nat):(aY l).getD k 0=l.getD k 0:=by
 generalize b:l.length=n
 induction n generalizing l with
 |zero=>have:l=[]:=Hn.mp b;subst this;rfl
 |succ n e=>
  have a:l≠[]:=λz=>by rw[z]at b;cases b
  obtain⟨c,x,rfl⟩:∃c x,l=c++[x]:=⟨l.dropLast,l.getLast a,(cx a).symm⟩;by_cases d:x=0
  .subst d;rw[iS,e c (by simpa using b),yh]
  .rw[iT _ d]
theorem gr{l:List Rat}(h:ao l)(a:0<l.length):l.getD (l.length -1) 0≠0:=by refine h _ ?_;rw[Kj,BM (by omega),AC,BM (by omega)];rfl
theorem vf{a b:List Rat}(g:ao a)(c:ao b)(h:∀k,a.getD k 0=b.getD k 0):a=b:=by
 have d:∀{a b:List Rat},ao b->(∀k,a.getD k 0=b.getD k 0)->b.length<=a.length:=λ{a b} c h=>by
  rcases Nat.lt_or_ge a.length b.length with z|z
  .exact absurd ((h _).symm.trans (cS (by lia))) (gr c (by lia))
  .exact z
 have e:a.length=b.length:=Y0 (d g λk=>(h k).symm) (d c h);apply cw;intro k;by_cases f:k<a.length
 .have:=h k;rw[AC,AC,BM f,BM (show k<b.length by lia)]at this;rw[BM f,BM (show k<b.length by lia)];exact PQ some this
 .rw[FK (by lia),FK (by lia)]
theorem l6{n:Nat}{f:Nat->Rat}(k:Nat):(c7 n f).getD k 0=if k<n then f k else 0:=by
 by_cases h:k<n
 .rw[Bz h,AC,BU h];rfl
 .rw[Bn h];exact cS (by rw[e9];lia)
noncomputable def d9(f:Nat->Rat):Nat->Rat
 |0=>0
 |n+1=>d9 f n+f n
theorem cV{f g:Nat->Rat}:∀n,(∀i,i<n->f i=g i)->d9 f n=d9 g n
 |0,_=>rfl
 |n+1,h=>by rw[d9,d9,cV n λi a=>h i (by lia),h n (by lia)]
theorem ir{f:Nat->Rat}{m:Nat}:∀n,m<=n->(∀i,m<=i->i<n->f i=0)->d9 f n=d9 f m
 |0,h,_=>by
  have:m=0:=by lia
  rw[this]
 |n+1,h,z=>by
  by_cases e:m=n+1
  .rw[e]
  .rw[d9,ir n (by lia) (λi a b=>z i a (by lia)),z n (by lia) (by lia),V4]
noncomputable def aD(f g:Nat->Rat)(k:Nat):Rat:=d9 (λi=>f i*g (k -i)) (k+1)
theorem Gm(as bs:List Rat)(k:Nat):∀n,zF as bs n k=d9 (λi=>as.getD i 0*(if i<=k then bs.getD (k -i) 0 else 0)) n
 |0=>rfl
 |n+1=>by rw[zF,Gm as bs k n,d9]
theorem Qt(as bs:List Rat)(k:Nat):zF as bs as.length k=aD (λi=>as.getD i 0) (λi=>bs.getD i 0) k:=by
 rw[Gm];unfold aD;rcases Zx as.length (k+1)with h|h
 .rw[<-ir (k+1) h λi a _=>by rw[cS a,TC]];exact cV _ λi b=>by rw[Bz (by lia)]
 .rw[ir as.length h λi a _=>by rw[Bn (by lia),HI]];exact cV _ λi b=>by rw[Bz (by lia)]
theorem Gp(a b:List Rat)(k:Nat):(mulQ a b).getD k 0=aD (λi=>a.getD i 0) (λi=>b.getD i 0) k:=by
 unfold mulQ;rw[l6];by_cases h:k<a.length+b.length -1
 .rw[Bz h,Qt]
 .rw[Bn h];unfold aD;rw[ir (m:=0) (k+1) (L9 _) λi _ d=>?_]
  .rfl
  .show a.getD i 0*b.getD (k -i) 0=0;by_cases c:i<a.length
   .rw[cS (rs:=b) (by omega),HI]
   .rw[cS (rs:=a) (by omega),TC]
theorem vg(c:Int)(f:Nat->Int):∀n,sm (λi=>c*f i) n=c*sm f n
 |0=>by rw[sm,sm,QP]
 |n+1=>by rw[sm,sm,vg c f n,ip]
theorem Am(f g:Nat->Int):∀n,sm (λi=>f i+g i) n=sm f n+sm g n
 |0=>rfl
 |n+1=>by rw[sm,sm,sm,Am f g n];lia
theorem vh(p:Nat)(v:Nat->Int):∀n,sm (λi=>if i=p then v i else 0) n=if p<n then v p else 0
 |0=>by rw[sm,Bn (by lia)]
 |n+1=>by
  rw[sm,vh p v n];by_cases h:p<n
  .rw[Bz h,Bn (by lia),Bz (by lia)];lia
  .rw[Bn h];by_cases e:n=p
   .subst e;rw[Bz rfl,Bz (by lia)];lia
   .rw[Bn e,Bn (by lia)];lia
noncomputable def bU(f g:Nat->Int)(k:Nat):Int:=sm (λi=>f i*g (k -i)) (k+1)
theorem vj(c h:Int)(Q O:Nat->Int)(p k:Nat):bU (λi=>c*Q i+if i=p then h else 0) O k=c*bU Q O k+if p<=k then h*O (k -p)else 0:=by
 unfold bU;rw[fN (g:=λi=>c*(Q i*O (k -i))+if i=p then h*O (k -i)else 0) (k+1) λi _=>?_,Am,vg,vh p λi=>h*O (k -i)]
 .by_cases a:p<=k
  .rw[Bz a,Bz (show p<k+1 by lia)]
  .rw[Bn a,Bn (show¬p<k+1 by lia)]
 .split
  .grind
  .grind
theorem vm(O:Nat->Int)(k:Nat):bU (λ_=>0) O k=0:=by unfold bU;rw[fN (g:=λi=>0*0) (k+1) λi _=>by rw[Ta,Ta],vg,Ta]
theorem BV{f g:Nat->Rat}{F G:Nat->Int}{A C:Rat}(c:∀i,f i*A=F i)(b:∀i,g i*C=G i)(k:Nat):aD f g k*(A*C)=((bU F G k:Int):Rat):=by
 unfold aD bU;have:∀n,d9 (λi=>f i*g (k -i)) n*(A*C)=((sm (λi=>F i*G (k -i)) n:Int):Rat):=λn=>by
  induction n with
  |zero=>show 0*(A*C)=((0:Int):Rat);grind
  |succ n a=>rw[d9,sm,Xu,Jn,<-a,<-c n,<-b (k -n)];grind
 exact this _
noncomputable def An(ns a:List Int)(l:Int)(s:Nat)(Q:Nat->Int)(R:List Int):Prop:=∀k,l^s*ns.getD k 0=bU Q (λi=>a.getD i 0) k+R.getD k 0
theorem An.start(ns a:List Int)(l:Int):An ns a l 0 (λ_=>0) ns:=λk=>by rw[vm,SZ];lia
theorem outI{ns:List Int}{k:Nat}(h:ns.length<=k):ns.getD k 0=0:=by rw[AC,FK h];rfl
theorem An.step{ns a:List Int}{l:Int}{s p:Nat}{Q:Nat->Int}{R R':List Int}(h:An ns a l s Q R)(m:0<a.length)(c:l=a.getD (a.length -1) 0)(n:R.length=p+a.length)(d:R'.length=p+a.length -1)
 (b:∀k,k<p+a.length -1->R'.getD k 0=l*R.getD k 0 -if p<=k then R.getD (p+a.length -1) 0*a.getD (k -p) 0 else 0):
 An ns a l (s+1) (λi=>l*Q i+if i=p then R.getD (p+a.length -1) 0 else 0) R':=λk=>by
 rw[vj,NM];have e:=h k;have j:l^s*l*ns.getD k 0=l*bU Q (λi=>a.getD i 0) k+l*R.getD k 0:=by rw[<-ip,<-e];grind
 rw[j];by_cases g:k<p+a.length -1
 .rw[b k g];lia
 .by_cases f:k=p+a.length -1
  .subst f;rw[outI (ns:=R') (by lia),Bz (by lia),show p+a.length -1 -p=a.length -1 by lia,<-c];grind
  .rw[outI (ns:=R) (k:=k) (by lia),outI (ns:=R') (by lia)];split
   .rw[outI (ns:=a) (by lia)];grind
   .grind
noncomputable def Cd(D:Int)(n:Nat)(x:Rat):Prop:=∃z:Int,x*D=z/\z.natAbs<2^n
theorem Cd.zero(D:Int)(n:Nat):Cd D n 0:=⟨0,by show(0:Rat)*D=((0:Int):Rat);grind,OK (by decide)⟩
theorem Cd.up{D:Int}{n m:Nat}{x:Rat}(h:Cd D n x)(a:n<=m):Cd D m x:=by obtain⟨z,c,b⟩:=h;exact⟨z,c,FV b (Kt (by decide) a)⟩
theorem Cd.dvd{D:Int}{n:Nat}{x:Rat}(h:Cd D n x):(x.den:Int)∣D/\(x.num*(D/x.den)).natAbs<2^n:=by
 obtain⟨z,a,f⟩:=h;have e:x.num*D=z*x.den:=by
  have e:=BS x;have:((x.num*D:Int):Rat)=((z*x.den:Int):Rat):=by rw[Jn,Jn,<-e,<-a];grind
  exact xt.mp this
 have d:(x.den:Int)∣D:=by have c:cg x.den x.num.natAbs:=kR x.reduced;have b:x.den∣x.num.natAbs*D.natAbs:=⟨z.natAbs,by have:=PQ Z3 e;rw[FS,FS,I0]at this;rw[this,d5]⟩;have:=c.dvd_of_dvd_mul_left b;rw[<-I0 x.den]at this;exact TB.mp this
 refine⟨d,?_⟩;have:((x.num*(D/x.den):Int):Rat)=(z:Rat):=by rw[gf d,a]
 rw[xt.mp this];exact f
theorem Cd.of{D:Int}{n:Nat}{x:Rat}(d:(x.den:Int)∣D)(h:(x.num*(D/x.den)).natAbs<2^n):Cd D n x:=⟨_,(gf d).symm,h⟩
theorem Cd.eq{D:Int}{n:Nat}{x:Rat}(a:D≠0)(h:Cd D n x):∃z:Int,x=BK z D/\z.natAbs<2^n:=by obtain⟨z,c,b⟩:=h;refine⟨z,?_,b⟩;rw[TK,<-c];have:=Qq a;grind
theorem Cd.bd{D:Int}{n:Nat}{x:Rat}(a:D≠0)(h:Cd D n x)(b:D.natAbs<2^n):Bd n x:=by obtain⟨z,rfl,c⟩:=h.eq a;have:=l5 z D a;exact⟨by lia,by lia⟩
theorem Cd.mul{b a:Int}{n m:Nat}{x y:Rat}(d:Cd b n x)(c:Cd a m y):Cd (b*a) (n+m) (x*y):=by obtain⟨z,g,a2⟩:=d;obtain⟨w,f,e⟩:=c;refine⟨z*w,by rw[Jn,Jn,<-g,<-f];grind,?_⟩;rw[FS];exact lt_mul a2 e
theorem Cd.get{D:Int}{n:Nat}{rs:List Rat}(h:∀x∈rs,Cd D n x)(k:Nat):Cd D n (rs.getD k 0):=by
 by_cases a:k<rs.length
 .rw[AC,BM a];exact h _ (Kx a)
 .rw[cS (by lia)];exact Cd.zero _ _
theorem Ao{e b:Int}{n m:Nat}{rs a:List Rat}(d:∀x∈rs,Cd e n x)(c:∀x∈a,Cd b m x)(k:Nat):∀i,∃z:Int,zF rs a i k*((e*b:Int):Rat)=z/\z.natAbs<=i*2^(n+m)
 |0=>⟨0,by show(0:Rat)*_=((0:Int):Rat);grind,by simp⟩
 |i+1=>by
  obtain⟨z,h,a2⟩:=Ao d c k i;have f:Cd b m (if i<=k then a.getD (k -i) 0 else 0):=by
   split
   .exact Cd.get c _
   .exact Cd.zero _ _
  obtain⟨w,g,j⟩:=(Cd.get d i).mul f;refine⟨z+w,?_,?_⟩
  .rw[zF,Xu,<-h,<-g];grind
  .rw[yB];omega
theorem K1{c b:Int}{n m:Nat}{rs a:List Rat}(f:∀x∈rs,Cd c n x)(d:∀x∈a,Cd b m x)(i j k:Nat)(o:i<31):Cd (c*b) (n+m+5) (gS rs a i j k):=by
 obtain⟨z,l,a2⟩:=Ao f d k i;have g:Cd (c*b) (n+m) (if i<=k/\k<i+j then rs.getD i 0*a.getD (k -i) 0 else 0):=by
  split
  .exact(Cd.get f i).mul (Cd.get d _)
  .exact Cd.zero _ _
 obtain⟨w,h,p⟩:=g;unfold gS;refine⟨z+w,?_,?_⟩
 .rw[Xu,<-l,<-h];grind
 .have e:2^(n+m+5)=32*2^(n+m):=by rw[dE];lia
  have:i*2^(n+m)<=30*2^(n+m):=NA _ (by omega);omega
theorem K2{c b:Int}{n m:Nat}{rs a:List Rat}(g:∀x∈rs,Cd c n x)(f:∀x∈a,Cd b m x)(i:rs.length<31):∀x∈mulQ rs a,Cd (c*b) (n+m+5) x:=λx d=>by
 obtain⟨k,_,rfl⟩:=Gj d;obtain⟨z,h,a2⟩:=Ao g f k rs.length;refine⟨z,h,?_⟩;have e:2^(n+m+5)=32*2^(n+m):=by rw[dE];lia
 have:rs.length*2^(n+m)<=30*2^(n+m):=NA _ (by lia);have:0<2^(n+m):=OK (by decide);lia
theorem yi{a b c:Int}(h:D1 a b=1)(e:a∣b*c):a∣c:=by
 have d:a.natAbs∣b.natAbs*c.natAbs:=by rw[<-FS];exact TB.mpr e
 exact TB.mp (kh (show cg a.natAbs b.natAbs from h) d)
theorem Gq{B d D:Int}(k:d≠0)(m:B∣D)(l:d∣D):B/(D1 B d:Nat)*d∣D:=by
 obtain⟨x,y,b,c,a,j⟩:=BQ B d k;rw[show B/((D1 B d:Nat):Int)=x from Num.KY b j];obtain⟨u,f⟩:=m;obtain⟨v,i⟩:=l;generalize((D1 B d:Nat):Int)=g at*;have e:x*u=y*v:=by
  have:g*(x*u)=g*(y*v):=by rw[<-XB,<-XB,<-b,<-c,<-f,<-i]
  exact Wp (by lia) this
 obtain⟨w,h⟩:y∣u:=yi (by rw[ft];exact a) ⟨v,e⟩;refine⟨w,?_⟩;rw[f,b,h,c];grind
theorem pP{ns b:List Int}(h:fM ns b)(k:Nat):b.getD k 0=ns.getD k 0:=by
 obtain⟨j,e,rfl,c,_⟩:=h;by_cases d:k<j
 .rw[AC,lj d,<-AC]
 .rw[outI (by rw[W1];lia)];by_cases a:k<ns.length
  .exact(c k (by lia) a).symm
  .exact(outI (by lia)).symm
theorem l7{ns a:List Int}(h:fM ns a):a.length<=ns.length:=by obtain⟨j,b,rfl,_⟩:=h;rw[W1];lia
theorem Gr{l:Int}{M i:Nat}(h:l.natAbs<2^M):(l^i).natAbs<=2^(M*i):=by rw[ey,ml];exact ag (Oy h) _
theorem K3{x y n m:Nat}(b:x<2^n)(a:y<=2^m):x*y<2^(n+m):=by rw[dE];exact GM (GE _ a) (YP b (OK (by decide)))
end Num
namespace Sub
abbrev Ix:=Bool×Nat
abbrev Vc:=Ix->Int
noncomputable def ex(D:List Vc->Int)(r:Ix):List Vc->List Vc->Int
 |_,[]=>0
 |pre,c::post=>c r*D (pre++post) -ex D r (pre++[c]) post
noncomputable def det:List Ix->List Vc->Int
 |[],[]=>1
 |[],_::_=>0
 |r::rs,cs=>ex (det rs) r [] cs
noncomputable def Alt(D:List Vc->Int):Prop:=∀(p q:List Vc)(a b:Vc),D (p++a::b::q)= -D (p++b::a::q)
noncomputable def TR(D:List Vc->Int):Prop:=∀(p q:List Vc)(x y:Int)(a b:Vc),D (p++(λi=>x*a i+y*b i)::q)=x*D (p++a::q)+y*D (p++b::q)
theorem BW{D:List Vc->Int}(h:Alt D)(r:Ix):∀(d p q:List Vc)(a b:Vc),ex D r (p++a::b::q) d= -ex D r (p++b::a::q) d
 |[],_,_,_,_=>rfl
 |c::d,p,q,a,b=>by have ih:=BW h r d p (q++[c]) a b;have e:=h p (q++d) a b;simp only[ex,SL,Fy]at ih e⊢;rw[e,ih];grind
theorem BX{D:List Vc->Int}(h:Alt D)(r:Ix):∀(p d q:List Vc)(a b:Vc),ex D r d (p++a::b::q)= -ex D r d (p++b::a::q)
 |[],d,q,a,b=>by have e:=BW h r q d [] a b;simp only[ex,Dy,SL,Fy]at e⊢;rw[e];grind
 |c::p,d,q,a,b=>by have f:=BX h r p (d++[c]) q a b;have e:=h (d++p) q a b;simp only[ex,Fy,SL]at f e⊢;rw[e,f];grind
theorem pQ:∀rs:List Ix,Alt (det rs)
 |[]=>λp q a b=>by
  cases p<;>rfl
 |r::rs=>λp q a b=>BX (pQ rs) r p [] q a b
theorem BY{D:List Vc->Int}(h:TR D)(r:Ix):∀(d p q:List Vc)(x y:Int)(a b:Vc),ex D r (p++(λi=>x*a i+y*b i)::q) d=x*ex D r (p++a::q) d+y*ex D r (p++b::q) d
 |[],_,_,_,_,_,_=>by simp[ex]
 |c::d,p,q,x,y,a,b=>by have ih:=BY h r d p (q++[c]) x y a b;have e:=h p (q++d) x y a b;simp only[ex,SL,Fy]at ih e⊢;rw[e,ih];grind
theorem BZ{D:List Vc->Int}(h:TR D)(r:Ix):∀(p d q:List Vc)(x y:Int)(a b:Vc),ex D r d (p++(λi=>x*a i+y*b i)::q)=x*ex D r d (p++a::q)+y*ex D r d (p++b::q)
 |[],d,q,x,y,a,b=>by have e:=BY h r q d [] x y a b;simp only[ex,Dy]at e⊢;rw[e];grind
 |c::p,d,q,x,y,a,b=>by have f:=BZ h r p (d++[c]) q x y a b;have e:=h (d++p) q x y a b;simp only[ex,Fy,SL]at f e⊢;rw[e,f];grind
theorem vo:∀rs:List Ix,TR (det rs)
 |[]=>λp q x y a b=>by
  cases p<;>simp[det]
 |r::rs=>λp q x y a b=>BZ (vo rs) r p [] q x y a b
theorem B3{D:List Vc->Int}{r:Ix}:∀(a b:List Vc),(∀c∈a,c r=0)->ex D r b a=0
 |[],_,_=>rfl
 |c::a,b,h=>by rw[ex,h c FC,B3 a _ λd e=>h d (Ee _ e)];simp
theorem uz{r:Ix}{rs:List Ix}{c:Vc}{cs:List Vc}(h:∀d∈cs,d r=0):det (r::rs) (c::cs)=c r*det rs cs:=by rw[det,ex,B3 cs _ h,Dy,ik]
theorem yj{D:List Vc->Int}(h:Alt D):∀(u p v:List Vc)(a:Vc),D (p++a::(u++a::v))=0
 |[],p,v,a=>by have:=h p v a a;simp only[Dy]at this⊢;lia
 |c::u,p,v,a=>by have e:=h p (u++a::v) a c;have b:=yj h u (p++[c]) v a;simp only[SL,Fy,Dy]at b e⊢;rw[e,b];rfl
theorem K4{D:List Vc->Int}(h:Alt D)(c:TR D){p q:List Vc}{a b:Vc}(x y:Int)(d:b∈q):D (p++(λi=>x*a i+y*b i)::q)=x*D (p++a::q):=by obtain⟨u,v,rfl⟩:=List.append_of_mem d;rw[c,yj h u p v b,QP,fo]
noncomputable def sg(n:Nat):Int:=(-1)^n
theorem yk{D:List Vc->Int}(h:Alt D):∀(u p q:List Vc)(a:Vc),D (p++a::(u++q))=sg u.length*D (p++(u++a::q))
 |[],p,q,a=>by simp[sg]
 |c::u,p,q,a=>by have e:=h p (u++q) a c;have b:=yk h u (p++[c]) q a;simp only[SL,Fy,Dy,CY]at b e⊢;rw[e,b];unfold sg;rw[NM];grind
theorem ym{D:List Vc->Int}(h:Alt D):∀(w p u q:List Vc),D (p++(w++(u++q)))=sg (u.length*w.length)*D (p++(u++(w++q)))
 |[],p,u,q=>by simp[sg]
 |a::w,p,u,q=>by have ih:=ym h w (p++[a]) u q;have e:=yk h u p (w++q) a;simp only[SL,Fy,Dy,CY]at ih e⊢;rw[ih,e];unfold sg;rw[Vj,mn];grind
noncomputable def sh(j:Nat)(P:Vc):Vc:=λi=>if j<=i.2 then P (i.1,i.2 -j)else 0
noncomputable def pR(P:Vc):Nat->List Vc
 |0=>[]
 |n+1=>sh n P::pR P n
noncomputable def rws:Nat->Nat->List Ix
 |_,0=>[]
 |0,_+1=>[]
 |E+1,c+1=>(false,E)::rws E c
theorem yo(E:Nat):rws E 0=[]:=by cases E<;>rfl
theorem K5(P:Vc):sh 0 P=P:=by funext i;unfold sh;rw[Bz (L9 _)];rfl
theorem Vx(j s:Nat)(P:Vc):sh j (sh s P)=sh (s+j) P:=by
 funext i;unfold sh;by_cases h:j<=i.2
 .rw[Bz h];by_cases a:s+j<=i.2
  .rw[Bz a,Bz (by show s<=i.2 -j;lia)];show P (i.1,i.2 -j -s)=P (i.1,i.2 -(s+j));congr 2;lia
  .rw[Bn a,Bn (by show¬s<=i.2 -j;lia)]
 .rw[Bn h,Bn (by lia)]
theorem pS(P:Vc):∀n,(pR P n).length=n
 |0=>rfl
 |n+1=>by rw[pR,CY,pS P n]
theorem B4{P:Vc}:∀{n i:Nat},i<n->sh i P∈pR P n
 |n+1,i,h=>by
  rw[pR];by_cases e:i=n
  .rw[e];exact FC
  .exact Ee _ (B4 (by lia))
theorem qK{P:Vc}:∀{n:Nat}{d:Vc},d∈pR P n->∃i,i<n/\d=sh i P
 |n+1,d,h=>by
  rw[pR]at h;rcases Fn.mp h with h|h
  .exact⟨n,by lia,h⟩
  .obtain⟨i,a,e⟩:=qK h;exact⟨i,by lia,e⟩
theorem Qu{B:Vc}{n:Nat}{l:Int}(a:B (false,n)=l)(hz:∀t,n<t->B (false,t)=0){cs:List Vc}{b c:Nat}{tl:List Ix}(f:∀d∈cs,∀t,n+b<=t->d (false,t)=0):
 ∀s,det (rws (n+b+s) (c+s)++tl) (pR B (b+s)++cs)=l^s*det (rws (n+b) c++tl) (pR B b++cs)
 |0=>by simp
 |s+1=>by
  show det ((false,n+b+s)::(rws (n+b+s) (c+s)++tl)) (sh (b+s) B::(pR B (b+s)++cs))=_;rw[uz,Qu a hz f s]
  .have e:sh (b+s) B (false,n+b+s)=l:=by unfold sh;rw[Bz (by show b+s<=n+b+s;lia),<-a];show B (false,n+b+s -(b+s))=_;congr 2;lia
   rw[e,NM];grind
  .intro d g;rcases Hb.mp g with h|h
   .obtain⟨i,j,rfl⟩:=qK h;unfold sh;split
    .exact hz _ (by show n<n+b+s -i;lia)
    .rfl
   .exact f d h _ (by lia)
noncomputable def comb(c:Int)(a:Vc):List (Int×Vc)->Vc
 |[]=>λi=>c*a i+0*a i
 |z::L=>λi=>1*comb c a L i+z.1*z.2 i
theorem yp{D:List Vc->Int}(h:Alt D)(b:TR D){p q:List Vc}{c:Int}{a:Vc}:∀{L:List (Int×Vc)},(∀z∈L,z.2∈q)->D (p++comb c a L::q)=c*D (p++a::q)
 |[],_=>by rw[comb,b];grind
 |z::L,d=>by rw[comb,K4 h b _ _ (d z FC),yp h b λy e=>d y (Ee _ e),cn]
theorem B5(j:Nat)(c:Int)(a:Vc):∀L:List (Int×Vc),sh j (comb c a L)=comb c (sh j a) (L.map λz=>(z.1,sh j z.2))
 |[]=>by funext i;show sh j (comb c a []) i=c*sh j a i+0*sh j a i;unfold sh comb;split<;>simp
 |z::L=>by
  funext i;have ih:=congrFun (B5 j c a L) i;show sh j (comb c a (z::L)) i=1*comb c (sh j a) (L.map λz=>(z.1,sh j z.2)) i+z.1*sh j z.2 i;rw[<-ih];unfold sh;split
  .rfl
  .simp
theorem qL{D:List Vc->Int}(h:Alt D)(d:TR D){q:List Vc}{c:Int}{A:Vc}{L:List (Int×Vc)}:∀(a:Nat)(p:List Vc),(∀z∈L,∀j,j<a->sh j z.2∈q)->D (p++(pR (comb c A L) a++q))=c^a*D (p++(pR A a++q))
 |0,p,_=>by simp[pR]
 |a+1,p,b=>by
  have ih:=qL h d (c:=c) (A:=A) a (p++[sh a A]) λz hz j f=>b z hz j (by lia);rw[pR,pR,Fy,B5,yp h d (λz hz=>?_)]
  .simp only[SL,Fy,Dy]at ih⊢;rw[ih,NM];grind
  .obtain⟨y,e,rfl⟩:=Ki.mp hz;exact IR _ (b y e a (by lia))
noncomputable def SS(E:Nat)(A B:Vc)(a b:Nat)(c:Ix):Int:=det (rws E (a+b -1)++[c]) (pR A a++pR B b)
noncomputable def less(c:Int)(A B:Vc)(L:List (Int×Nat)):Vc:=comb c A (L.map λz=>(z.1,sh z.2 B))
theorem B6{E:Nat}{A B:Vc}{c:Int}{L:List (Int×Nat)}{a b:Nat}(h:∀z∈L,z.2+a<=b)(d:Ix):SS E (less c A B L) B a b d=c^a*SS E A B a b d:=by
 unfold SS less;have e:=qL (pQ (rws E (a+b -1)++[d])) (vo _) (q:=pR B b) (c:=c) (A:=A) (L:=L.map λz=>(z.1,sh z.2 B)) a [] λz hz j g=>by obtain⟨y,f,rfl⟩:=Ki.mp hz;rw[Vx];have:=h y f;exact B4 (by lia)
 simp only[Dy]at e;exact e
theorem Gu{E:Nat}{B R P:Vc}{c:Int}(h:∀i,R i=c*P i)(b a:Nat)(d:Ix):SS E B R b a d=c^a*SS E B P b a d:=by
 have f:R=comb c P []:=funext λi=>by rw[h i];show _=c*P i+0*P i;simp
 unfold SS;have e:=qL (pQ (rws E (b+a -1)++[d])) (vo _) (q:=[]) (c:=c) (A:=P) (L:=[]) a (pR B b) λz hz=>nomatch hz;simp only[aw]at e;rw[f,e]
theorem B7{B R:Vc}{n:Nat}{l:Int}(f:B (false,n)=l)(hz:∀t,n<t->B (false,t)=0){z a b s:Nat}(h:∀t,z<=t->R (false,t)=0)(o:1<=a)(m:z+a<=n+b+1)(c:Ix):
 SS (n+b+s) R B a (b+s) c=sg ((b+s)*a)*(l^s*SS (n+b) B R b a c):=by
 unfold SS;have e:=ym (pQ (rws (n+b+s) (a+(b+s) -1)++[c])) (pR R a) [] (pR B (b+s)) [];simp only[Dy,aw,pS]at e;rw[e];congr 1;rw[show a+(b+s) -1=b+a -1+s by lia];refine Qu f hz (λd g t j=>?_) s;obtain⟨i,k,rfl⟩:=qK g;unfold sh;split
 .exact h _ (by show z<=t -i;lia)
 .rfl
theorem Gv(E:Nat)(B R:Vc)(a:Ix):SS E B R 0 1 a=R a:=by unfold SS;show det (rws E 0++[a]) (sh 0 R::[])=_;rw[yo,Dy,K5,uz (cs:=[]) (by intro d b;cases b)];show R a*1=R a;rw[i4]
theorem K6{A B:Vc}{n:Nat}{l:Int}(f:B (false,n)=l)(hz:∀t,n<t->B (false,t)=0)(s:Nat)(a:Ix):SS (n+1+s) A B 0 (1+s) a=l^s*B a:=by unfold SS;rw[show 0+(1+s) -1=0+s by lia];have e:=Qu f hz (cs:=[]) (b:=1) (c:=0) (tl:=[a]) (λd g=>nomatch g) s;simp only[aw]at e;show det (rws (n+1+s) (0+s)++[a]) ([]++pR B (1+s))=_;rw[Dy,e];congr 1;exact Gv (n+1) A B a
noncomputable def Gw(a:Int):Prop:=a=1\/a= -1
theorem Gw.sq{a:Int}(h:Gw a):a*a=1:=by rcases h with rfl|rfl<;>rfl
theorem Gw.mul{a b:Int}(h:Gw a)(c:Gw b):Gw (a*b):=by rcases h with rfl|rfl<;>rcases c with rfl|rfl<;>first|exact .inl rfl|exact .inr rfl
theorem qM:∀n,Gw (sg n)
 |0=>.inl rfl
 |n+1=>by have:=qM n;unfold sg at this⊢;rw[NM];exact this.mul (.inr rfl)
theorem cX{x:Int}(h:x≠0):∀n:Nat,x^n≠0
 |0=>by rw[SZ];decide
 |n+1=>by rw[NM];exact QQ (cX h n) h
theorem Gx(x y:Int):∀n:Nat,(x*y)^n=x^n*y^n
 |0=>by rw[SZ,SZ,SZ];rfl
 |n+1=>by rw[NM,NM,NM,Gx x y n];generalize x^n=a;generalize y^n=b;grind
theorem Gy(x:Int)(m:Nat):∀n:Nat,(x^m)^n=x^(m*n)
 |0=>by rw[Pb,SZ,SZ]
 |n+1=>by rw[NM,Gy x m n,Vj,mn]
theorem Gz{l h h':Int}{b:Nat}(e:h'*h^b=l^b*h):∀a:Nat,(l^(b+1))^(a+1)*h^(b+a)=l^(b+(a+1))*h^(b*(a+1))*h'^a
 |0=>by rw[xb,d0,SZ,i4,cZ];simp
 |a+1=>by
  have ih:=Gz e a;have d:(l^(b+1))^(a+1+1)*h^(b+(a+1))=((l^(b+1))^(a+1)*h^(b+a))*(l*(l^b*h)):=by rw[NM (l^(b+1)) (a+1),<-sT b a 1,NM h (b+a),NM l b];generalize(l^b*l)^(a+1)=x;generalize h^(b+a)=y;generalize l^b=z;grind
  have c:l^(b+(a+1+1))*h^(b*(a+1+1))*h'^(a+1)=(l^(b+(a+1))*h^(b*(a+1))*h'^a)*(l*(h'*h^b)):=by rw[<-sT b (a+1) 1,NM l (b+(a+1)),Vj b (a+1),mn h (b*(a+1)) b,NM h' a];generalize l^(b+(a+1))=x;generalize h^(b*(a+1))=y;generalize h^b=z;generalize h'^a=u;grind
  rw[d,c,ih,e]
structure Ch(A B:Vc)(m n:Nat)(P Q:Vc)(p q:Nat)(lp lq h:Int):Prop where
 hpq:q<=p
 Y8:lp≠0
 h0:h≠0
 K7:lq≠0
 lead:Q (false,q)=lq
 zero:∀t,q<t->Q (false,t)=0
 inv:∀k,k<=q->k<p->∃ε:Int,Gw ε/\∀ρ,SS (p+q -k) P Q (q -k) (p -k) ρ=ε*(lp^(q -k)*h^(p -k -1))*SS (m+n -k) A B (n -k) (m -k) ρ
theorem Ch.start{A B:Vc}{m n:Nat}{l:Int}(h:n<=m)(b:B (false,n)=l)(a:l≠0)(hz:∀t,n<t->B (false,t)=0):Ch A B m n A B m n 1 l 1:=
 ⟨h,by decide,by decide,a,b,hz,λk _ _=>⟨1,.inl rfl,λc=>by rw[i1,i1];simp⟩⟩
theorem Ch.rest{A B P Q:Vc}{m n p q:Nat}{g f h:Int}(H:Ch A B m n P Q p q g f h)(y:1<=q){L:List (Int×Nat)}(r:∀z∈L,z.2<=p -q)(o:∀t,q<=t->less (f^(p -q+1)) P Q L (false,t)=0):
 ∃e:Int,Gw e/\∀d,less (f^(p -q+1)) P Q L d=e*(g*h^(p -q))*SS (m+n -(q -1)) A B (n -(q -1)) (m -(q -1)) d:=by
 have hpq:=H.hpq;obtain⟨e,x,inv⟩:=H.inv (q -1) (by lia) (by lia);refine⟨sg (p -q+1)*e,(qM _).mul x,λd=>?_⟩;have k:=inv d;rw[show p+q -(q -1)=q+0+(p -q+1) by lia,show q -(q -1)=1 by lia,show p -(q -1)=0+(p -q+1) by lia,show 0+(p -q+1) -1=p -q by lia,d0]at k;have v:=B6 (E:=q+0+(p -q+1)) (A:=P) (B:=Q) (c:=f^(p -q+1)) (L:=L) (a:=1) (b:=0+(p -q+1)) (λz hz=>by have:=r z hz;lia) d;have j:=B7 H.lead H.zero (z:=q) (a:=1) (b:=0) (s:=p -q+1) o (Da _) (by lia) d;rw[v,Gv,d0,show(0+(p -q+1))*1=p -q+1 by lia,k]at j;have w:=cX H.K7 (p -q+1);have l:=(qM (p -q+1)).sq;generalize f^(p -q+1)=c at*;generalize less c P Q L d=R at*;generalize sg (p -q+1)=s at*;generalize h^(p -q)=i at*;generalize SS (m+n -(q -1)) A B (n -(q -1)) (m -(q -1)) d=S at*;have u:c*R=c*(s*e*(g*i)*S):=by
  have:c*(s*e*(g*i)*S)=s*(c*(e*(g*i)*S)):=by grind
  rw[this,j];have:s*(s*(c*R))=s*s*(c*R):=by grind
  rw[this,l,cn]
 exact Wp w u
theorem Ch.step{A B P Q j:Vc}{m n p q r:Nat}{g d o h h':Int}(H:Ch A B m n P Q p q g d h){L:List (Int×Nat)}(T:∀z∈L,z.2<=p -q)(I:∀e,less (d^(p -q+1)) P Q L e=(g*h^(p -q))*j e)(N:r<q)(O:j (false,r)=o)(M:o≠0)(hz:∀t,r<t->j (false,t)=0)
 (D:h'*h^(p -q)=d^(p -q)*h):Ch A B m n Q j q r d o h':=by
 have hpq:=H.hpq;have F:h'≠0:=λz=>by rw[z,Ta]at D;exact QQ (cX H.K7 _) H.h0 D.symm
 refine⟨by lia,H.K7,F,M,O,hz,λk C f=>?_⟩;obtain⟨l,Qv,inv⟩:=H.inv k (by lia) (by lia);refine⟨sg ((p -k)*(q -k))*l,(qM _).mul Qv,λe=>?_⟩;have e0:=inv e;have e1:=B6 (E:=p+q -k) (A:=P) (B:=Q) (c:=d^(p -q+1)) (L:=L) (a:=q -k) (b:=p -k) (λz hz=>by have:=T z hz;lia) e;have G:=B7 (R:=less (d^(p -q+1)) P Q L) H.lead H.zero (z:=r+1) (a:=q -k) (b:=r -k) (s:=p -r) (λt ht=>by rw[I,hz t (by lia),QP]) (by lia) (by lia) e;rw[Gu I,show q+(r -k)+(p -r)=p+q -k by lia,show r -k+(p -r)=p -k by lia,e1,e0,show q+(r -k)=q+r -k by lia]at G;have i:=Gz D (q -k -1);have K:=(qM ((p -k)*(q -k))).sq;have ck:(g*h^(p -q))^(q -k)=g^(q -k)*h^((p -q)*(q -k)):=by rw[Gx,Gy]
 have J:d^(p -r)*(g*h^(p -q))^(q -k)≠0:=QQ (cX H.K7 _) (cX (QQ H.Y8 (cX H.h0 _)) _);refine Wp J ?_;rw[Nat.sub_add_cancel (va f),show p -q+(q -k -1)=p -k -1 by rw[bg,xi hpq f,bg],show p -q+(q -k)=(p -r)+(r -k) by rw[xi hpq (Oy f),xi (DL (Oy N) hpq) C],mn d (p -r) (r -k)]at i;rw[ck]at G⊢;generalize SS (q+r -k) Q j (r -k) (q -k) e=X at*;generalize SS (m+n -k) A B (n -k) (m -k) e=S at*;generalize sg ((p -k)*(q -k))=s at*;generalize(d^(p -q+1))^(q -k)=c at*;generalize g^(q -k)=u at*;generalize h^(p -k -1)=v at*;generalize d^(p -r)=x at*;generalize h^((p -q)*(q -k))=y at*;generalize d^(r -k)=z at*;generalize h'^(q -k -1)=w at*;have Z:x*(u*y)*X=s*s*(x*(u*y)*X):=by rw[K,cn]
 have Y:s*s*(x*(u*y)*X)=s*(s*(x*(u*y*X))):=by grind
 rw[Z,Y,<-G];have U:s*(c*(l*(u*v)*S))=s*l*u*S*(c*v):=by grind
 rw[U,i];grind
end Sub
namespace Sub
open Num
theorem Od{D:List Vc->Int}{r:Ix}{M b:Nat}:∀(a e:List Vc),(∀c∈a,(c r).natAbs<=M)->(∀u,(∀c∈u,c∈e\/c∈a)->u.length+1=e.length+a.length->(D u).natAbs<=b)->(ex D r e a).natAbs<=a.length*(M*b)
 |[],_,_,_=>by simp[ex]
 |c::a,e,h,g=>by
  rw[ex];have h1:=h c FC;have k:=g (e++a) (λd f=>by
   rcases Hb.mp f with z|z
   .exact .inl z
   .exact .inr (Ee _ z)) (by simp only[Fm,CY];lia)
  have l:=Od (D:=D) (r:=r) (M:=M) (b:=b) a (e++[c]) (λd f=>h d (Ee _ f)) (λu i j=>g u (λd f=>by
   rcases i d f with z|z
   .rcases Hb.mp z with y|y
    .exact .inl y
    .rw[Fu]at y;rw[y];exact .inr FC
   .exact .inr (Ee _ z)) (by simp only[Fm,CY,NT]at j⊢;lia))
  have o:(c r*D (e++a)).natAbs<=M*b:=by rw[FS];exact X9 h1 k
  have n:(c r*D (e++a) -ex D r (e++[c]) a).natAbs<=(c r*D (e++a)).natAbs+(ex D r (e++[c]) a).natAbs:=by omega
  have m:(c::a).length*(M*b)=a.length*(M*b)+M*b:=by rw[CY,xc]
  omega
theorem GA{N M:Nat}:∀(rs:List Ix)(cs:List Vc),cs.length<=N->(∀c∈cs,∀i,(c i).natAbs<=M)->(det rs cs).natAbs<=(N*M)^rs.length
 |[],[],_,_=>by simp[det]
 |[],_::_,_,_=>by simp[det]
 |r::rs,cs,g,e=>by
  rw[det];have:=Od (D:=det rs) (r:=r) (M:=M) (b:=(N*M)^rs.length) cs [] (λc d=>e c d r) (λu f a=>GA rs u (by simp only[NT]at a;lia) λc d=>by
   rcases f c d with z|z
   .cases z
   .exact e c z)
  refine DL this ?_;rw[CY,KO];have j:cs.length*(M*(N*M)^rs.length)<=N*(M*(N*M)^rs.length):=NA _ g;have h:N*(M*(N*M)^rs.length)=(N*M)^rs.length*(N*M):=by generalize(N*M)^rs.length=x;grind
  lia
theorem B8:∀(c E:Nat),(rws E c).length<=c
 |0,E=>by rw[yo];exact Da _
 |c+1,0=>L9 _
 |c+1,E+1=>by show(rws E c).length+1<=c+1;have:=B8 c E;lia
theorem Oe{P:Vc}{M:Nat}(h:∀i,(P i).natAbs<=M)(j:Nat)(i:Ix):(sh j P i).natAbs<=M:=by
 unfold sh;split
 .exact h _
 .exact L9 _
theorem Vy{A B:Vc}{N M a b:Nat}(l:∀i,(A i).natAbs<=M)(k:∀i,(B i).natAbs<=M)(g:a+b<=N)(m:1<=a+b)(f:1<=N*M)(E:Nat)(d:Ix):(SS E A B a b d).natAbs<=(N*M)^(a+b):=by
 unfold SS;have:=GA (N:=N) (M:=M) (rws E (a+b -1)++[d]) (pR A a++pR B b) (by rw[Fm,pS,pS];exact g) (λc e i=>by
  rcases Hb.mp e with h|h
  .obtain⟨j,_,rfl⟩:=qK h;exact Oe l j i
  .obtain⟨j,_,rfl⟩:=qK h;exact Oe k j i)
 refine DL this (Kt f ?_);have:=B8 (a+b -1) E;rw[Fm];show _+1<=_;omega
theorem Gw.abs{a x:Int}(h:Gw a):(a*x).natAbs=x.natAbs:=by rcases h with rfl|rfl<;>lia
theorem Ch.K8{A B P Q:Vc}{m n p q:Nat}{e a h:Int}(H:Ch A B m n P Q p q e a h)(f:q<p):∃S:Int,a^(p -q)=h^(p -q -1)*S/\S.natAbs=(SS (m+n -q) A B (n -q) (m -q) (false,q)).natAbs:=by
 obtain⟨c,j,inv⟩:=H.inv q (Da _) f;obtain⟨d,k⟩:∃d,p=q+1+d:=⟨p -q -1,by lia⟩;have b:=inv (false,q);have i:=K6 (A:=P) H.lead H.zero d (false,q);rw[show p+q -q=q+1+d by lia,show q -q=0 by lia,show p -q=1+d by lia,i,H.lead,show 1+d -1=d by lia,SZ,cn]at b;have g:a^(p -q)=a^d*a:=by rw[<-NM];congr 1;lia
 refine⟨c*SS (m+n -q) A B (n -q) (m -q) (false,q),?_,j.abs⟩;rw[g,b,show p -q -1=d by lia];generalize SS (m+n -q) A B (n -q) (m -q) (false,q)=S;generalize h^d=x;grind
noncomputable def vc(r f:List Int):Vc:=λi=>if i.1 then f.getD i.2 0 else r.getD i.2 0
noncomputable def sW(Qs:List Int):Nat->List (Int×Nat)
 |0=>[]
 |n+1=>(-(Qs.getD n 0),n)::sW Qs n
theorem B9{Qs:List Int}:∀{n:Nat}{z:Int×Nat},z∈sW Qs n->z.2<n
 |n+1,z,h=>by
  rcases Fn.mp h with rfl|h
  .exact N0 n
  .exact SC (B9 h)
theorem Ca(c:Int)(A B:Vc)(Qs:List Int)(i:Ix):∀n,less c A B (sW Qs n) i=c*A i -sm (λj=>Qs.getD j 0*(if j<=i.2 then B (i.1,i.2 -j)else 0)) n
 |0=>by show c*A i+0*A i=c*A i -0;simp
 |n+1=>by
  have ih:=Ca c A B Qs i n;show 1*less c A B (sW Qs n) i+ -(Qs.getD n 0)*sh n B i=_;rw[ih,sm];have e:sh n B i=if n<=i.2 then B (i.1,i.2 -n)else 0:=rfl
  rw[e];generalize(if n<=i.2 then B (i.1,i.2 -n)else 0)=x;generalize sm _ n=y;generalize Qs.getD n 0=z;grind
theorem K9(c:Int)(P d Q a Qs:List Int)(b:Bool)(t:Nat):less c (vc P d) (vc Q a) (sW Qs Qs.length) (b,t)=c*(if b then d else P).getD t 0 -cf Qs (if b then a else Q) Qs.length t:=by
 rw[Ca,yg];cases b
 .rfl
 .rfl
end Sub
namespace Num
theorem vp{f g:Nat->Rat}(h:∀i,1<=i->f i=0)(k:Nat):aD f g k=f 0*g k:=by unfold aD;rw[ir (m:=1) (k+1) (by lia) λi a _=>by rw[h i a,TC]];show 0+f 0*g (k -0)=_;rw[P0,kf]
end Num
namespace Sub
open Num
structure CS(ns ms f0 g0:List Int)(w E b1:Nat)(P Q fP fQ:List Int)(ld h:Int):Prop where
 ch:Ch (vc ns f0) (vc ms g0) (ns.length -1) (ms.length -1) (vc P fP) (vc Q fQ) (P.length -1) (Q.length -1) ld (Q.getD (Q.length -1) 0) h
 lq:0<Q.length
 JV:Q.length<=P.length
 lp:P.length<=ns.length
 Of:Q.length<=ms.length
 lf:fP.length+Q.length<=b1
 XU:fQ=[]\/fQ.length+P.length<=b1
 bP:∀i,(vc P fP i).natAbs<=2^(w*(ns.length -1+(ms.length -1)+1))
 bQ:∀i,(vc Q fQ i).natAbs<=2^(w*(ns.length -1+(ms.length -1)+1))
 bl:ld.natAbs<=2^(w*(ns.length -1+(ms.length -1)+1))
 bh:h.natAbs<=2^(w*(ns.length -1+(ms.length -1) -2*(P.length -1)))
structure FX(ns ms f0 g0:List Int)(w E:Nat):Prop where
 l1:ms.length<=ns.length
 l2:ns.length<=50
 M:∃M:Nat,(∀i,(vc ns f0 i).natAbs<=M)/\(∀i,(vc ms g0 i).natAbs<=M)/\1<=M/\(ns.length -1+(ms.length -1)+1)*M<=2^w
 E1:∀p,(ns.length -1+(ms.length -1) -2*p)*p+(ns.length -1+(ms.length -1)+1)<=E
theorem jV(x:Int):∀n:Nat,(x^n).natAbs=x.natAbs^n
 |0=>by simp
 |n+1=>by rw[NM,FS,jV x n,KO]
theorem La{a b k:Nat}(f:k<=b)(e:k<=a):b -k+(a -k)=a+b -2*k:=by obtain⟨c,rfl⟩:=ZP f;obtain⟨d,rfl⟩:=ZP e;rw[P2,P2,show k+d+(k+c)=c+d+2*k by lia,He]
theorem Vz{ns a g f:List Int}{w E:Nat}(F:FX ns a g f w E){k:Nat}(d:k<=a.length -1)(o:1<=(a.length -1 -k)+(ns.length -1 -k))(e:Nat)(c:Ix):
 (SS e (vc ns g) (vc a f) (a.length -1 -k) (ns.length -1 -k) c).natAbs<=2^(w*(ns.length -1+(a.length -1) -2*k)):=by
 obtain⟨M,l,j,i,h⟩:=F.M;have l1:=F.l1;have n:1<=(ns.length -1+(a.length -1)+1)*M:=X9 (show 1<=ns.length -1+(a.length -1)+1 by lia) i;have m:=DL d (so l1 1);have b:=Vy (N:=ns.length -1+(a.length -1)+1) l j (oT (by rw[km];exact Yo (Tv _ _) (Tv _ _))) o n e c;refine DL b ?_;rw[ml,La d m];exact ag h _
theorem getD_mem'{ns:List Int}{k:Nat}(h:k<ns.length):ns.getD k 0∈ns:=by rw[AC,BM h];exact Kx h
theorem mem_getD{ns:List Int}{x:Int}(h:x∈ns):∃k,k<ns.length/\ns.getD k 0=x:=by obtain⟨i,a,e⟩:=gd h;exact⟨i,a,by rw[AC,BM a,<-e];rfl⟩
theorem map_getD{ns:List Int}{f:Int->Int}(a:f 0=0)(k:Nat):(ns.map f).getD k 0=f (ns.getD k 0):=by
 rw[AC,Dx,AC];cases ns[k]? with
 |none=>exact a.symm
 |some z=>rfl
noncomputable def hnext(h l:Int)(a:Nat):Int:=if a=0 then h else(l^a).fdiv (h^(a -1))
theorem CS.step{ns g B A P Q p n Qs R F:List Int}{w E b1:Nat}{d h c:Int}(X:FX ns g B A w E)(C:CS ns g B A w E b1 P Q p n d h)(D:2<=Q.length)(hc:c=Q.getD (Q.length -1) 0^(P.length -Q.length+1))(TU:Qs.length=P.length -Q.length+1)
 (hR:∀k,R.getD k 0=c*P.getD k 0 -cf Qs Q Qs.length k)(lR:R.length<Q.length)(zR:R=[]\/R.getD (R.length -1) 0≠0)(hF:∀k,F.getD k 0=c*p.getD k 0 -cf Qs n Qs.length k)(s:F.length<=max p.length (Qs.length+n.length -1))(TV:n=[]->F.length<=p.length):
 d*h^(P.length -Q.length)≠0/\(d*h^(P.length -Q.length)).natAbs<=2^(w*E)/\(∀x∈R,d*h^(P.length -Q.length)∣x)/\(∀x∈F,d*h^(P.length -Q.length)∣x)/\(0<P.length -Q.length->h^(P.length -Q.length -1)≠0/\(h^(P.length -Q.length -1)).natAbs<=2^(w*E))/\
 (∀i,(vc (R.map λx=>x.fdiv (d*h^(P.length -Q.length))) (F.map λx=>x.fdiv (d*h^(P.length -Q.length))) i).natAbs<=2^(w*(ns.length -1+(g.length -1)+1)))/\
 (R≠[]->CS ns g B A w E b1 Q (R.map λx=>x.fdiv (d*h^(P.length -Q.length))) n (F.map λx=>x.fdiv (d*h^(P.length -Q.length))) (Q.getD (Q.length -1) 0) (hnext h (Q.getD (Q.length -1) 0) (P.length -Q.length))):=by
 have ch:=C.ch;have JV:=C.JV;have lp:=C.lp;have l1:=X.l1;have lf:=C.lf;have Of:=C.Of;obtain⟨a,q⟩:∃a,P.length -Q.length=a:=⟨_,rfl⟩;have j:P.length -1 -(Q.length -1)=a:=by rw[bg,Nat.add_sub_cancel' (Oy D)];exact q
 have hL:∀z∈sW Qs Qs.length,z.2<=P.length -1 -(Q.length -1):=λz hz=>by have:=B9 hz;lia
 have N:∀(b:Bool)(t:Nat),less c (vc P p) (vc Q n) (sW Qs Qs.length) (b,t)=(if b then F else R).getD t 0:=λb t=>by
  rw[K9];cases b
  .exact(hR t).symm
  .exact(hF t).symm
 have K7:=ch.K7;generalize v:Q.getD (Q.length -1) 0=I at*;have l:I^(P.length -1 -(Q.length -1)+1)=c:=by rw[hc,j,q]
 have T:d*h^a≠0:=QQ ch.Y8 (cX ch.h0 _);obtain⟨U,Qv,rest⟩:=ch.rest (L:=sW Qs Qs.length) (by lia) hL (λt ht=>by rw[l,N];exact outI (by show R.length<=t;lia));rw[l,j]at rest;have bk:(d*h^a).natAbs<=2^(w*E):=by
  rw[FS,jV];have m:=X.E1 (P.length -1);have G:h.natAbs^a<=2^(w*(ns.length -1+(g.length -1) -2*(P.length -1))*a):=by rw[ml];exact ag C.bh a
  refine DL (X9 C.bl G) ?_;rw[<-dE];refine Kt (by decide) ?_;rw[rn,<-WR];refine GE _ ?_;have:(ns.length -1+(g.length -1) -2*(P.length -1))*a<=(ns.length -1+(g.length -1) -2*(P.length -1))*(P.length -1):=GE _ (by lia);lia
 have H:∀(b:Bool)(t:Nat),(d*h^a)∣(if b then F else R).getD t 0:=λb t=>by rw[<-N,rest];exact⟨U*SS (ns.length -1+(g.length -1) -(Q.length -1 -1)) (vc ns B) (vc g A) (g.length -1 -(Q.length -1 -1)) (ns.length -1 -(Q.length -1 -1)) (b,t),by grind⟩
 have dR:∀x∈R,d*h^a∣x:=λx K=>by obtain⟨k,_,rfl⟩:=mem_getD K;exact H false k
 have dF:∀x∈F,d*h^a∣x:=λx K=>by obtain⟨k,_,rfl⟩:=mem_getD K;exact H true k
 have fd:∀(b:Bool)(t:Nat),((if b then F else R).map λx=>x.fdiv (d*h^a)).getD t 0*(d*h^a)=(if b then F else R).getD t 0:=λb t=>by rw[map_getD (f:=λx=>x.fdiv (d*h^a)) (fq _),my (H b t),tm (H b t)]
 have Y:∀i,vc (R.map λx=>x.fdiv (d*h^a)) (F.map λx=>x.fdiv (d*h^a)) i*(d*h^a)=less c (vc P p) (vc Q n) (sW Qs Qs.length) i:=λi=>by obtain⟨b,t⟩:=i;rw[N,<-fd b t];cases b<;>rfl
 have Z:∀i,(vc (R.map λx=>x.fdiv (d*h^a)) (F.map λx=>x.fdiv (d*h^a)) i).natAbs<=2^(w*(ns.length -1+(g.length -1)+1)):=λi=>by
  have m:=Y i;rw[rest]at m;have O:vc (R.map λx=>x.fdiv (d*h^a)) (F.map λx=>x.fdiv (d*h^a)) i=U*SS (ns.length -1+(g.length -1) -(Q.length -1 -1)) (vc ns B) (vc g A) (g.length -1 -(Q.length -1 -1)) (ns.length -1 -(Q.length -1 -1)) i:=by refine Int.eq_of_mul_eq_mul_right T ?_;rw[m];grind
  rw[O,Qv.abs];refine DL (Vz X (DL (Tv _ _) (so Of 1)) (DL (va (FV (jb (va D) hQ) (so Of 1))) (UF _ _)) _ _) (Kt (by decide) (GE _ (oT (Tv _ _))))
 rw[q];refine⟨T,bk,dR,dF,λo=>⟨cX ch.h0 _,?_⟩,Z,λVC=>?_⟩
 .rw[jV];have m:=X.E1 (P.length -1);have G:h.natAbs^(a -1)<=2^(w*(ns.length -1+(g.length -1) -2*(P.length -1))*(a -1)):=by rw[ml];exact ag C.bh _
  refine DL G (Kt (by decide) ?_);rw[rn];refine GE _ ?_;have:(ns.length -1+(g.length -1) -2*(P.length -1))*(a -1)<=(ns.length -1+(g.length -1) -2*(P.length -1))*(P.length -1):=GE _ (by clear G m o bk T l K7 hc v j;lia);lia
 have yq:0<R.length:=FM.mpr VC;have zl:=zR.resolve_left VC;have h2:∃S:Int,hnext h I a=S/\S*h^a=I^a*h/\S.natAbs<=2^(w*(ns.length -1+(g.length -1) -2*(Q.length -1))):=by
  by_cases o:a=0
  .refine⟨h,by unfold hnext;rw[Bz o],by rw[o,SZ,SZ,i4,cn],?_⟩;have:=C.bh;rw[Y0 (Nat.le_of_sub_eq_zero (q.trans o)) JV]at this;exact this
  .have u:Q.length<P.length:=Nat.lt_of_sub_ne_zero (by rw[q];exact o);obtain⟨S,m,O⟩:=ch.K8 (cF (Oy D) u);rw[j]at m;have M:h^(a -1)≠0:=cX ch.h0 _;refine⟨S,?_,?_,?_⟩
   .unfold hnext;rw[Bn o,m,my ⟨S,rfl⟩,mI S M]
   .have e3:h^a=h^(a -1)*h:=by rw[<-NM];congr 1;lia
    rw[m,e3];generalize h^(a -1)=x;grind
   .rw[O];exact Vz X (so Of 1) (DL (va (cF (Oy D) (FV u lp))) (Y9 _ _)) _ _
 obtain⟨S,hS,hh,bS⟩:=h2;rw[hS];have r:(R.map λx=>x.fdiv (d*h^a)).length=R.length:=AN _;have J:(F.map λx=>x.fdiv (d*h^a)).length=F.length:=AN _;have ql:(R.map λx=>x.fdiv (d*h^a)).getD (R.length -1) 0≠0:=λz=>by have e:=fd false (R.length -1);simp only[TY,if_false]at e;rw[z,Ta]at e;exact zl e.symm
 refine⟨?_,by rw[r];exact yq,by rw[r];exact Oy lR,DL Of l1,by rw[r];exact DL (Oy lR) Of,?_,?_,C.bQ,Z,?_,bS⟩
 .rw[r];refine ch.step (L:=sW Qs Qs.length) hL (λi=>?_) (by lia) rfl ql (λt ht=>?_) (by rw[j];exact hh)
  .rw[l,j,<-Y i,cc]
  .exact outI (by show(R.map λx=>x.fdiv (d*h^a)).length<=t;rw[r];lia)
 .rw[r];rcases C.XU with z|z
  .rw[z];show 0+_<=_;lia
  .lia
 .rw[J];rcases C.XU with z|z
  .right;exact DL (t5 (TV z) _) lf
  .right;rw[TU,q,ij,He]at s;rw[(Nat.sub_eq_iff_eq_add JV).mp q]at z;rcases Zx p.length (a+n.length)with y|y
   .rw[Nat.max_eq_right y]at s;refine DL (t5 s _) (DL (eJ ?_) z);rw[km a,sT]
   .rw[Nat.max_eq_left y]at s;exact DL (t5 s _) lf
 .have:=C.bQ (false,Q.length -1);rw[<-v];exact this
end Sub
namespace Num
noncomputable def vt(p:Int)(ns a:List Int)(Q:Nat->Int)(R:List Int):Prop:=∀k,p∣ns.getD k 0 -(bU Q (λi=>a.getD i 0) k+R.getD k 0)
theorem vt.start(p:Int)(ns a:List Int):vt p ns a (λ_=>0) ns:=λk=>by rw[vm,pd,xn];exact a9 _
theorem Qw(h:Int)(Q O:Nat->Int)(p k:Nat):bU (λi=>Q i+if i=p then h else 0) O k=bU Q O k+if p<=k then h*O (k -p)else 0:=by have:=vj 1 h Q O p k;rw[cn]at this;rw[<-this];congr 1;funext i;rw[cn]
theorem Cb{p a b:Int}(e:p∣a)(d:p∣b){c:Int}(h:c=a+b):p∣c:=by rw[h];exact tJ e d
theorem vt.step{p:Int}{ns a:List Int}{l:Int}{pl:Nat}{Q:Nat->Int}{R R':List Int}{h:Int}(d:vt p ns a Q R)(s:0<a.length)(j:l=a.getD (a.length -1) 0)(t:R.length=pl+a.length)(m:R'.length=pl+a.length -1)(b:p∣h*l -R.getD (pl+a.length -1) 0)
 (g:∀k,k<pl+a.length -1->p∣R'.getD k 0 -(R.getD k 0 -if pl<=k then h*a.getD (k -pl) 0 else 0)):
 vt p ns a (λi=>Q i+if i=pl then h else 0) R':=λk=>by
 rw[Qw];have e:=d k;generalize ns.getD k 0=n at*;generalize bU Q (λi=>a.getD i 0) k=c at*;by_cases q:k<pl+a.length -1
 .have:=g k q;generalize R'.getD k 0=f at*;generalize R.getD k 0=r at*;show p∣n -(c+(if pl<=k then h*a.getD (k -pl) 0 else 0)+f);generalize(if pl<=k then h*a.getD (k -pl) 0 else 0)=x at*;exact Cb e (d3.mpr this) (by lia)
 .by_cases o:k=pl+a.length -1
  .rw[<-o]at b;rw[outI (ns:=R') (by lia),Bz (by lia)];show p∣n -(c+h*a.getD (k -pl) 0+0);rw[show k -pl=a.length -1 by lia,<-j];generalize R.getD k 0=r at*;exact Cb e (d3.mpr b) (by lia)
  .rw[outI (ns:=R) (k:=k) (by lia)]at e;rw[outI (ns:=R') (by lia)];have z:(if pl<=k then h*(λi=>a.getD i 0) (k -pl)else 0)=0:=by
    split
    .show h*a.getD (k -pl) 0=0;rw[outI (by lia),QP]
    .rfl
   rw[z];rw[show n -(c+0+0)=n -(c+0) by lia];exact e
theorem pT{p:Int}(b:0<p){ns:List Int}(h:∀x∈ns,0<=x/\x<p)(k:Nat):0<=ns.getD k 0/\ns.getD k 0<p:=by
 by_cases a:k<ns.length
 .rw[AC,BM a];exact h _ (Kx a)
 .rw[outI (by lia)];exact⟨by lia,b⟩
theorem D4{p x l:Int}(b:gq p)(a:0<l/\l<p)(h:p∣x*l):p∣x:=by have c:=ku b a.1 a.2;exact yi c (by rw[cc]at h;exact h)
theorem vv(f g:Nat->Int):∀n,sm f n -sm g n=sm (λi=>f i -g i) n
 |0=>rfl
 |n+1=>by rw[sm,sm,sm,<-vv f g n];lia
theorem qN(f g:Nat->Int)(k:Nat):bU f g k=bU g f k:=by unfold bU;rw[<-Al];refine fN _ λi a=>?_;show f (k -i)*g (k -(k -i))=g i*f (k -i);rw[show k -(k -i)=i by lia,cc]
theorem vA{f f' g g':Nat->Int}(b:∀i,f i=f' i)(a:∀i,g i=g' i)(k:Nat):bU f g k=bU f' g' k:=by rw[show f=f' from funext b,show g=g' from funext a]
theorem jr(f g h:Nat->Int)(k:Nat):bU (λi=>f i+g i) h k=bU f h k+bU g h k:=by unfold bU;rw[<-Am];exact fN _ λi _=>Int.add_mul ..
theorem pU(c:Int)(f h:Nat->Int)(k:Nat):bU (λi=>c*f i) h k=c*bU f h k:=by unfold bU;rw[<-vg];exact fN _ λi _=>XB ..
theorem GB(f g h:Nat->Int)(k:Nat):bU f (λi=>g i+h i) k=bU f g k+bU f h k:=by rw[qN,jr,qN g,qN h]
theorem gg(f g:Nat->Int):bU f g 0=f 0*g 0:=by unfold bU;rw[sm,sm];show 0+f 0*g (0 -0)=_;rw[pd]
theorem l9(f g:Nat->Int)(k:Nat):bU f g (k+1)=f 0*g (k+1)+bU (λi=>f (i+1)) g k:=by unfold bU;rw[vd];congr 1;exact fN _ λi a=>by show f (i+1)*g (k+1 -(i+1))=f (i+1)*g (k -i);rw[show k+1 -(i+1)=k -i by lia]
theorem iu(g h:Nat->Int):∀(k:Nat)(f:Nat->Int),bU (bU f g) h k=bU f (bU g h) k
 |0,f=>by rw[gg,gg,gg,gg,XB]
 |k+1,f=>by rw[l9,l9 f,gg,l9 g];have e:(λi=>bU f g (i+1))=λi=>f 0*g (i+1)+bU (λi=>f (i+1)) g i:=funext λi=>l9 f g i;rw[e,jr,pU,iu g h k];generalize bU (λi=>g (i+1)) h k=x;generalize bU (λi=>f (i+1)) (bU g h) k=y;generalize h (k+1)=z;grind
theorem vB{f g:Nat->Int}{n m:Nat}(d:∀i,n<=i->f i=0)(c:∀i,m<=i->g i=0){k:Nat}(h:n+m<=k+1):bU f g k=0:=by
 unfold bU;rw[fN (g:=λ_=>0) _ λi e=>?_]
 .have:∀n,sm (λ_=>0) n=0:=λn=>by
   induction n with
   |zero=>rfl
   |succ n b=>rw[sm,b];rfl
  exact this _
 .show f i*g (k -i)=0;by_cases a:n<=i
  .rw[d i a,Ta]
  .rw[c _ (by lia),QP]
abbrev co(a:List Int):Nat->Int:=λi=>a.getD i 0
theorem uA(a b:List Int)(k:Nat):cf a b a.length k=bU (co a) (co b) k:=pO a b k
end Num
namespace Sub
open Num
theorem CS.size{ns a f e P Q l k:List Int}{w E n:Nat}{c h:Int}(X:FX ns a f e w E)(C:CS ns a f e w E n P Q l k c h)(g:2<=Q.length):
 c*h^(P.length -Q.length)≠0/\(c*h^(P.length -Q.length)).natAbs<=2^(w*E)/\(0<P.length -Q.length->h^(P.length -Q.length -1)≠0/\(h^(P.length -Q.length -1)).natAbs<=2^(w*E)):=by
 have ch:=C.ch;have m:=X.E1 (P.length -1);have JV:=C.JV;generalize o:P.length -Q.length=b at*;have d:∀j,j<=b->(h^j).natAbs<=2^(w*((ns.length -1+(a.length -1) -2*(P.length -1))*(P.length -1))):=λj p=>by
  rw[jV];have i:h.natAbs^j<=2^(w*(ns.length -1+(a.length -1) -2*(P.length -1))*j):=by rw[ml];exact ag C.bh j
  refine DL i (Kt (by decide) ?_);rw[rn];exact GE _ (GE _ (by lia))
 refine⟨QQ ch.Y8 (cX ch.h0 _),?_,λ_=>⟨cX ch.h0 _,?_⟩⟩
 .rw[FS];refine DL (X9 C.bl (d b (Da _))) ?_;rw[<-dE,<-WR];exact Kt (by decide) (GE _ (by lia))
 .exact DL (d (b -1) (by clear o JV m g;lia)) (Kt (by decide) (GE _ (by lia)))
theorem CS.start{ns a c b:List Int}{w E d:Nat}(X:FX ns a c b w E)(k:0<a.length)(f:a.getD (a.length -1) 0≠0)(m:c.length+a.length<=d)(l:b=[]\/b.length+ns.length<=d):CS ns a c b w E d ns a c b 1 1:=by
 obtain⟨M,j,h,n,g⟩:=X.M;have l1:=X.l1;have e:M<=2^(w*(ns.length -1+(a.length -1)+1)):=by refine DL (DL (oo M (show 0<ns.length -1+(a.length -1)+1 by omega)) g) (Kt (by decide) ?_);exact cq w (by omega)
 refine⟨Ch.start (by omega) rfl f (λt o=>outI (by omega)),k,l1,Da _,Da _,m,l,λi=>DL (j i) e,λi=>DL (h i) e,OK (by decide),OK (by decide)⟩
theorem CS.bd{ns b g f P Q d c:List Int}{w E i:Nat}{e h:Int}(C:CS ns b g f w E i P Q d c e h):(∀x∈P,x.natAbs<=2^(w*(ns.length -1+(b.length -1)+1)))/\(∀x∈Q,x.natAbs<=2^(w*(ns.length -1+(b.length -1)+1)))/\(∀x∈d,x.natAbs<=2^(w*(ns.length -1+(b.length -1)+1)))/\∀x∈c,x.natAbs<=2^(w*(ns.length -1+(b.length -1)+1)):=by
 refine⟨λx a=>?_,λx a=>?_,λx a=>?_,λx a=>?_⟩
 .obtain⟨k,_,rfl⟩:=mem_getD a;exact C.bP (false,k)
 .obtain⟨k,_,rfl⟩:=mem_getD a;exact C.bQ (false,k)
 .obtain⟨k,_,rfl⟩:=mem_getD a;exact C.bP (true,k)
 .obtain⟨k,_,rfl⟩:=mem_getD a;exact C.bQ (true,k)
end Sub
namespace Num
noncomputable def hz(t:Int):List Int->List Int
 |[]=>[]
 |r::rs=>(r+t*(hz t rs).headD 0)::hz t rs
noncomputable def cs(l:List Int):List Rat:=l.map λx:Int=>((x:Int):Rat)
noncomputable def sc(u b:Rat):List Rat->List Rat
 |[]=>[]
 |r::rs=>r*u*b^rs.length::sc u b rs
noncomputable def gz(t:Int)(M:List Int)(k:Nat):Int:=(hz t (M.drop k)).headD 0
theorem mh(f:Nat->Rat):∀n,d9 f (n+1)=f 0+d9 (λi=>f (i+1)) n
 |0=>by rw[d9,d9,d9];grind
 |n+1=>by rw[d9,mh f n,d9];grind
theorem vC(c:Rat)(f:Nat->Rat):∀n,d9 (λi=>c*f i) n=c*d9 f n
 |0=>by rw[d9,d9];grind
 |n+1=>by rw[d9,vC c f n,d9];grind
theorem vD(f g:Nat->Rat):∀n,d9 (λi=>f i+g i) n=d9 f n+d9 g n
 |0=>by rw[d9,d9,d9];grind
 |n+1=>by rw[d9,vD f g n,d9,d9];grind
theorem Cc:∀(n:Nat)(f:Nat->Rat),d9 (λi=>f (n -i)) (n+1)=d9 f (n+1)
 |0,f=>rfl
 |n+1,f=>by
  rw[mh,cV (g:=λi=>f (n -i)) (n+1) λi a=>by show f (n+1 -(i+1))=f (n -i);rw[show n+1 -(i+1)=n -i by lia],Cc n f,P0];have:d9 f (n+1+1)=d9 f (n+1)+f (n+1):=by rw[d9]
  rw[this];grind
theorem bI(f g:Nat->Rat)(k:Nat):aD f g k=aD g f k:=by unfold aD;rw[<-Cc];refine cV _ λi a=>?_;show f (k -i)*g (k -(k -i))=g i*f (k -i);rw[show k -(k -i)=i by omega,oP]
theorem cL{f f' g g':Nat->Rat}(b:∀i,f i=f' i)(a:∀i,g i=g' i)(k:Nat):aD f g k=aD f' g' k:=by rw[show f=f' from funext b,show g=g' from funext a]
theorem fj(f g h:Nat->Rat)(k:Nat):aD (λi=>f i+g i) h k=aD f h k+aD g h k:=by unfold aD;rw[<-vD];exact cV _ λi _=>bM ..
theorem cj(c:Rat)(f h:Nat->Rat)(k:Nat):aD (λi=>c*f i) h k=c*aD f h k:=by unfold aD;rw[<-vC];exact cV _ λi _=>dC ..
theorem qO(f g h:Nat->Rat)(k:Nat):aD f (λi=>g i+h i) k=aD f g k+aD f h k:=by rw[bI,fj,bI g,bI h]
theorem mw(c:Rat)(f h:Nat->Rat)(k:Nat):aD f (λi=>c*h i) k=c*aD f h k:=by rw[bI,cj,bI h]
theorem gh(f g:Nat->Rat):aD f g 0=f 0*g 0:=by unfold aD;rw[d9,d9];show 0+f 0*g (0 -0)=_;rw[kf]
theorem jt(f g:Nat->Rat)(k:Nat):aD f g (k+1)=f 0*g (k+1)+aD (λi=>f (i+1)) g k:=by unfold aD;rw[mh];congr 1;exact cV _ λi a=>by show f (i+1)*g (k+1 -(i+1))=f (i+1)*g (k -i);rw[show k+1 -(i+1)=k -i by lia]
theorem iy(g h:Nat->Rat):∀(k:Nat)(f:Nat->Rat),aD (aD f g) h k=aD f (aD g h) k
 |0,f=>by rw[gh,gh,gh,gh,dC]
 |k+1,f=>by rw[jt,jt f,gh,jt g];have e:(λi=>aD f g (i+1))=λi=>f 0*g (i+1)+aD (λi=>f (i+1)) g i:=funext λi=>jt f g i;rw[e,fj,cj,iy g h k];generalize aD (λi=>g (i+1)) h k=x;generalize aD (λi=>f (i+1)) (aD g h) k=y;generalize h (k+1)=z;grind
theorem vE{f g:Nat->Rat}{n m:Nat}(d:∀i,n<=i->f i=0)(c:∀i,m<=i->g i=0){k:Nat}(h:n+m<=k+1):aD f g k=0:=by
 unfold aD;rw[cV (g:=λ_=>0) _ λi e=>?_]
 .have:∀n,d9 (λ_=>0) n=0:=λn=>by
   induction n with
   |zero=>rfl
   |succ n b=>rw[d9,b];grind
  exact this _
 .show f i*g (k -i)=0;by_cases a:n<=i
  .rw[d i a,TC]
  .rw[c _ (by lia),HI]
theorem iV{f g:Nat->Rat}{n m:Nat}(c:∀i,n<i->f i=0)(b:∀i,m<i->g i=0):aD f g (n+m)=f n*g m:=by
 unfold aD;have e:d9 (λi=>f i*g (n+m -i)) (n+m+1)=d9 (λi=>f i*g (n+m -i)) (n+1):=ir _ (by lia) λi h _=>by show f i*g (n+m -i)=0;rw[c i (by lia),TC]
 rw[e,d9];have z:d9 (λi=>f i*g (n+m -i)) n=0:=by
  rw[cV (g:=λ_=>0) _ λi d=>by show f i*g (n+m -i)=0;rw[b _ (by lia),HI]];have:∀n,d9 (λ_=>0) n=0:=λn=>by
   induction n with
   |zero=>rfl
   |succ n a=>rw[d9,a];grind
  exact this _
 rw[z,kf,show n+m -n=m by lia]
abbrev cQ(a:List Rat):Nat->Rat:=λi=>a.getD i 0
noncomputable def Fin(f:Nat->Rat):Prop:=∃n,∀i,n<=i->f i=0
theorem aG(a:List Rat):Fin (cQ a):=⟨a.length,λi b=>cS b⟩
theorem Fin.add{f g:Nat->Rat}(d:Fin f)(c:Fin g):Fin λi=>f i+g i:=by obtain⟨n,a⟩:=d;obtain⟨m,b⟩:=c;exact⟨max n m,λi e=>by show f i+g i=0;rw[a i (by lia),b i (by lia)];grind⟩
theorem Fin.mul{f g:Nat->Rat}(d:Fin f)(c:Fin g):Fin (aD f g):=by obtain⟨n,a⟩:=d;obtain⟨m,b⟩:=c;exact⟨n+m,λi e=>vE a b (by lia)⟩
noncomputable def DQ(g a:Nat->Rat):Prop:=∃s,Fin s/\∀k,a k=aD s g k
theorem DQ.trans{f g h:Nat->Rat}(b:DQ f g)(a:DQ g h):DQ f h:=by obtain⟨s,d,i⟩:=b;obtain⟨t,c,e⟩:=a;refine⟨aD t s,c.mul d,λk=>?_⟩;rw[e k,iy];exact cL (λ_=>rfl) i k
theorem DQ.add{g a b:Nat->Rat}(d:DQ g a)(c:DQ g b):DQ g λk=>a k+b k:=by obtain⟨s,f,j⟩:=d;obtain⟨t,e,h⟩:=c;exact⟨λi=>s i+t i,f.add e,λk=>by show a k+b k=_;rw[j k,h k,fj]⟩
theorem DQ.mul{g a:Nat->Rat}(u:Nat->Rat)(b:Fin u)(h:DQ g a):DQ g (aD u a):=by obtain⟨s,c,d⟩:=h;refine⟨aD u s,b.mul c,λk=>?_⟩;rw[iy];exact cL (λ_=>rfl) d k
theorem DQ.ext{g a b:Nat->Rat}(h:DQ g a)(e:∀k,b k=a k):DQ g b:=by obtain⟨s,c,d⟩:=h;exact⟨s,c,λk=>by rw[e k,d k]⟩
theorem qP(g:Nat->Rat)(k:Nat):aD (λi=>if i=0 then 1 else 0) g k=g k:=by rw[vp (λi a=>Bn (by lia))];show(1:Rat)*_=_;rw[kA]
theorem DQ.refl(g:Nat->Rat):DQ g g:=⟨λi=>if i=0 then 1 else 0,⟨1,λi a=>Bn (by lia)⟩,λk=>(qP g k).symm⟩
theorem cD(g:Nat->Rat)(k:Nat):aD (λ_=>0) g k=0:=by
 unfold aD;have:∀n,d9 (λi=>(0:Rat)*g (k -i)) n=0:=λn=>by
  induction n with
  |zero=>rfl
  |succ n a=>rw[d9,a];grind
 exact this _
theorem DQ.zero(g:Nat->Rat):DQ g λ_=>0:=⟨λ_=>0,⟨0,λ_ _=>rfl⟩,λk=>(cD g k).symm⟩
structure Mon(g:List Rat):Prop where
 ne:g≠[]
 one:g.getD (g.length -1) 0=1
theorem gu{f:Nat->Rat}(h:Fin f)(k:Nat)(c:f k≠0):∃n,f n≠0/\∀i,n<i->f i=0:=by
 obtain⟨n,a⟩:=h
 induction n with
 |zero=>exact absurd (a k (L9 _)) c
 |succ n b=>
  by_cases e:f n=0
  .refine b λi d=>?_;by_cases g:i=n
   .rw[g];exact e
   .exact a i (by lia)
  .exact⟨n,e,λi d=>a i (by lia)⟩
theorem DQ.len{g a:List Rat}(c:Mon g)(h:DQ (cQ g) (cQ a)){k:Nat}(l:a.getD k 0≠0):g.length<=a.length:=by
 obtain⟨s,p,d⟩:=h;have q:=FM.mpr c.ne;have:∃j,s j≠0:=Fh λz=>l (by have z:∀j,s j=0:=λj=>Fh λy=>z ⟨j,y⟩;show cQ a k=0;rw[d k,cL (f':=λ_=>0) z (λ_=>rfl)];exact cD _ _);obtain⟨j,o⟩:=this;obtain⟨n,e,b⟩:=gu p j o;have t:=iV (f:=s) (g:=cQ g) (n:=n) (m:=g.length -1) b (λi r=>cS (by lia));rw[<-d]at t;have:cQ a (n+(g.length -1))≠0:=by rw[t];show s n*g.getD (g.length -1) 0≠0;rw[c.one,Y1];exact e
 have:n+(g.length -1)<a.length:=Fh λz=>this (cS (by lia));lia
theorem Mon.unique{g h:List Rat}(b:Mon g)(d:Mon h)(o:DQ (cQ g) (cQ h))(u:DQ (cQ h) (cQ g)):g=h:=by
 have C:=FM.mpr b.ne;have B:=FM.mpr d.ne;have A:=DQ.len b o (k:=h.length -1) (by rw[d.one];decide);have x:=DQ.len d u (k:=g.length -1) (by rw[b.one];decide);have q:g.length=h.length:=by lia
 obtain⟨s,v,j⟩:=o;have l:∀i,1<=i->s i=0:=λi c=>Fh λz=>by obtain⟨n,r,a⟩:=gu v i z;have w:i<=n:=Fh λy=>z (a i (by lia));have t:=iV (f:=s) (g:=cQ g) (n:=n) (m:=g.length -1) a (λi c=>cS (by lia));rw[<-j]at t;have e:cQ h (n+(g.length -1))=0:=cS (by lia);rw[e]at t;have:s n*g.getD (g.length -1) 0=0:=t.symm;rw[b.one,Y1]at this;exact r this
 have p:s 0=1:=by have t:=j (h.length -1);rw[vp l]at t;have t:h.getD (h.length -1) 0=s 0*g.getD (h.length -1) 0:=t;rw[d.one,<-q,b.one,Y1]at t;exact t.symm
 refine cw λi=>?_;by_cases c:i<g.length
 .have t:=j i;rw[vp l,p,kA]at t;have t:h.getD i 0=g.getD i 0:=t;rw[BM c,BM (by lia)];rw[AC,BM (by lia),AC,BM c]at t;exact PQ some t.symm
 .rw[FK (by lia),FK (by lia)]
theorem DQ.sub{g a b:Nat->Rat}(f:DQ g a)(e:DQ g b):DQ g λk=>a k -b k:=by obtain⟨t,h,j⟩:=e;have:DQ g λk=> -1*b k:=⟨λi=> -1*t i,by obtain⟨n,c⟩:=h;exact⟨n,λi d=>by show-1*t i=0;rw[c i d];grind⟩,λk=>by show-1*b k=_;rw[j k,cj]⟩;exact(f.add this).ext λk=>by show a k -b k=a k+ -1*b k;grind
theorem Mon.JX{g:List Rat}(h:Mon g):ao g:=λx a=>by have e:=h.one;rw[Kj]at a;rw[AC,a]at e;have e:x=1:=e;rw[e];decide
theorem GC{b r:List Rat}(u:ao b)(A:b≠[])(o:ao r)(C:r.length<b.length)(h:DQ (cQ b) (cQ r)):r=[]:=by
 rcases il r with e|⟨t,y,e⟩
 .exact e
 .rw[rg]at e;obtain⟨s,v,d⟩:=h;have B:=FM.mpr A;have l:r.getD t.length 0=y:=by rw[e,AC,Ha (Da _),eD];rfl
  have k:y≠0:=o y (by rw[e];exact eQ);have x:b.getD (b.length -1) 0≠0:=by refine u _ ?_;rw[Kj,AC,BM (by lia)];rfl
  have:∃j,s j≠0:=Fh λz=>k (by have z:∀j,s j=0:=λj=>Fh λw=>z ⟨j,w⟩;have:=d t.length;rw[cL (f':=λ_=>0) z (λ_=>rfl),cD]at this;exact l.symm.trans this);obtain⟨j,q⟩:=this;obtain⟨n,p,c⟩:=gu v j q;have a:=iV (f:=s) (g:=cQ b) (n:=n) (m:=b.length -1) c (λi D=>cS (by lia));rw[<-d]at a;have z:cQ r (n+(b.length -1))=0:=cS (by lia);rw[z]at a;rcases Pl.mp a.symm with w|w
  .exact absurd w p
  .exact absurd w x
theorem uB{s:Nat->Rat}{b:List Rat}(j:Fin s)(e:ao b)(o:b≠[])(h:∀k,aD s (cQ b) k=0):∀i,s i=0:=λi=>Fh λc=>by
 have p:=FM.mpr o;have l:b.getD (b.length -1) 0≠0:=by refine e _ ?_;rw[Kj,AC,BM (by lia)];rfl
 obtain⟨n,d,a⟩:=gu j i c;have t:=iV (f:=s) (g:=cQ b) (n:=n) (m:=b.length -1) a (λi c=>cS (by lia));rw[h]at t;rcases Pl.mp t.symm with w|w
 .exact d w
 .exact l w
end Num
namespace Sub
end Sub
namespace Sub
open Num
theorem Lb(p:Nat)(g:Nat->Int)(k:Nat):bU (λi=>if i=p then 1 else 0) g k=if p<=k then g (k -p)else 0:=by have e:=vj 0 1 (λ_=>0) g p k;rw[vA (f':=λi=>0*(λ_=>(0:Int)) i+if i=p then 1 else 0) (λi=>by simp) (λ_=>rfl) k,e];simp
noncomputable def one:Nat->Int:=λi=>if i=0 then 1 else 0
end Sub
namespace Num
theorem Og{d a:Nat->Rat}(r:Rat)(h:DQ d a):DQ d λk=>r*a k:=by
 obtain⟨s,⟨n,b⟩,e⟩:=h;refine⟨λi=>r*s i,⟨n,λi c=>?_⟩,λk=>?_⟩
 .show r*s i=0;rw[b i c,HI]
 .show r*a k=_;rw[e k,cj]
noncomputable def mon(c:List Rat):List Rat:=c.map λx=>x/c.getD (c.length -1) 0
theorem bE{c:List Rat}(h:ao c)(a:c≠[]):c.getD (c.length -1) 0≠0:=by have l:=FM.mpr a;refine h _ ?_;rw[Kj,AC,BM (jb l hQ)];rfl
theorem vF(c:List Rat)(k:Nat):cQ (mon c) k=cQ c k/c.getD (c.length -1) 0:=by
 have e:∀l:Rat,(c.map λx=>x/l).getD k 0=c.getD k 0/l:=λl=>by
  rw[AC,Dx,AC];cases c[k]? with
  |none=>exact(show(0:Rat)=0/l by rw[WC,TC])
  |some x=>rfl
 exact e _
theorem Lc{c:List Rat}(h:ao c)(a:c≠[]):Mon (mon c):=by refine⟨λz=>a (List.map_eq_nil_iff.mp z),?_⟩;have e:=vF c (c.length -1);have l:(mon c).length=c.length:=AN _;rw[l];exact e.trans (by rw[WC];exact dc _ (bE h a))
theorem GD{c:List Rat}(h:ao c)(a:c≠[])(d:Nat->Rat):DQ d (cQ (mon c))↔DQ d (cQ c):=by
 have l:=bE h a;constructor
 .intro q;refine(Og (c.getD (c.length -1) 0) q).ext λk=>?_;rw[vF,oP,Tg l]
 .intro q;refine(Og ((c.getD (c.length -1) 0)⁻¹) q).ext λk=>?_;rw[vF,WC,oP]
end Num
namespace Num
open Sub
end Num
namespace Sub
open Num
end Sub
namespace Num
open Sub
section
variable{ι:Type}
inductive Za(P:List (ι->Rat)):(ι->Rat)->(ι->Rat)->Prop where
 |refl (o:ι->Rat):Za P o o
 |add {o x a:ι->Rat} (y:Rat) (h:Za P o x) (m:a∈P):Za P o (λi=>1*x i+y*a i)
end
abbrev vQ(l:List Rat):Nat->Rat:=cQ l
section
variable{ι α:Type}
end
noncomputable def line(N:Nat)(a:List Rat)(i:Nat):List Rat:=A0 i 0++a.reverse++A0 (N -i -a.length) 0
end Num
namespace Num
structure GF(n:Nat)(a b x y u u2 v v2:Int):Prop where
 e1:u*a+v*b=x
 e2:u2*a+v2*b=y
 g:D1 x y=D1 a b
 bx:x.natAbs<2^n
 vG:y.natAbs<2^n
 bu:u.natAbs<2^(n+2)
 bv:v.natAbs<2^(n+2)
 bu2:u2.natAbs<2^(n+2)
 bv2:v2.natAbs<2^(n+2)
 or:(u=1/\u2=0/\v=0/\v2=1)\/(Sg x y/\Ib n x y u u2/\Ib n x y v v2)
theorem pow2(n:Nat):1<2^(n+2):=by have:=OK (n:=n) (show 0<2 by decide);rw[dE];omega
theorem GF.next{n:Nat}{a b x y u d v c:Int}(I:GF n a b x y u d v c)(e:y≠0):GF n a b y (x -x.fdiv y*y) d (u -x.fdiv y*d) c (v -x.fdiv y*c):=by
 have j:=KW x y e;have k:=qH x y e;have h:Ib n y (x -x.fdiv y*y) d (u -x.fdiv y*d)/\Ib n y (x -x.fdiv y*y) c (v -x.fdiv y*c):=by
  rcases I.or with⟨rfl,rfl,rfl,rfl⟩|⟨f,i,m⟩
  .have o:=Ob x y e;have f:=I.bx;have i:=I.vG;unfold Ib;constructor
   .simp only[QP,ik,Int.natAbs_zero,tq,a6];show 1*y.natAbs<=_;omega
   .simp only[i4,b4,f7];show _+1*_<=_;have l:(x.fdiv y).natAbs*y.natAbs<=x.natAbs+(x -x.fdiv y*y).natAbs:=by rw[<-FS];omega
    omega
  .exact⟨BP i f e,BP m f e⟩
 refine⟨I.e2,?_,?_,I.vG,Nat.lt_trans k I.vG,I.bu2,I.bv2,yd h.1 j,yd h.2 j,.inr ⟨j,h.1,h.2⟩⟩
 .have f:=I.e1;have i:=I.e2;generalize x.fdiv y=q;subst f;subst i;grind
 .rw[qG,I.g]
end Num
namespace Num
open Sub
theorem yr{p x y:Int}(a:gq p)(h:p∣x*y):p∣x\/p∣y:=by
 have b:0<p:=by have:=a.1;lia
 by_cases c:y%p=0
 .exact .inr (xa c)
 .refine .inl (D4 a (l:=y%p) ⟨?_,eA _ b⟩ ?_)
  .have:=mM y (show p≠0 by lia);lia
  .have e:=iq y p;have d:x*(y%p)=x*y -p*(x*(y/p)):=by
    have:y%p=y -p*(y/p):=by lia
    rw[this];grind
   rw[d];exact w8 h ⟨_,rfl⟩
abbrev cz(a:List Int):Nat->Rat:=λi=>((a.getD i 0:Int):Rat)
theorem yt(f g:Nat->Int)(k:Nat):aD (λi=>(f i:Rat)) (λi=>(g i:Rat)) k=((bU f g k:Int):Rat):=by have:=BV (f:=λi=>(f i:Rat)) (g:=λi=>(g i:Rat)) (F:=f) (G:=g) (A:=1) (C:=1) (λi=>Y1 _) (λi=>Y1 _) k;rw[Y1,Y1]at this;exact this
theorem DQ.sc{d f:Nat->Rat}(c:Rat)(h:DQ d f):DQ d λk=>c*f k:=by obtain⟨s,⟨n,a⟩,e⟩:=h;refine⟨λi=>c*s i,⟨n,λi b=>by dsimp only;rw[a i b,HI]⟩,λk=>?_⟩;dsimp only;rw[cj,e k]
theorem DQ.Aq{d f:Nat->Rat}{c:Rat}(a:c≠0)(h:DQ d λk=>c*f k):DQ d f:=
 (h.sc c⁻¹).ext λk=>by have:=Xt c a;grind
theorem ju(a:List Int):Fin (cz a):=⟨a.length,λi b=>by show((a.getD i 0:Int):Rat)=0;rw[outI b];rfl⟩
theorem Ce{A B Qs B':List Int}{c κ:Int}(m:c≠0)(k0:κ≠0)(h:∀k,κ*B'.getD k 0=c*A.getD k 0 -bU (co Qs) (co B) k)(d:Nat->Rat):(DQ d (cz B)/\DQ d (cz B'))↔(DQ d (cz A)/\DQ d (cz B)):=by
 have l:(c:Rat)≠0:=by exact_mod_cast m
 have f:(κ:Rat)≠0:=by exact_mod_cast k0
 have e:∀k,(κ:Rat)*cz B' k=(c:Rat)*cz A k -aD (cz Qs) (cz B) k:=λk=>by have j:=yt (co Qs) (co B) k;have g:=h k;show(κ:Rat)*((B'.getD k 0:Int):Rat)=(c:Rat)*((A.getD k 0:Int):Rat) -aD (λi=>(co Qs i:Rat)) (λi=>(co B i:Rat)) k;rw[j,<-Jn,<-Jn,<-ee,g]
 constructor
 .rintro⟨b,a⟩;refine⟨DQ.Aq l ?_,b⟩;exact(DQ.add (a.sc (κ:Rat)) (DQ.mul (cz Qs) (ju Qs) b)).ext λk=>by have:=e k;grind
 .rintro⟨b,a⟩;refine⟨a,DQ.Aq f ?_⟩;exact(DQ.sub (b.sc (c:Rat)) (DQ.mul (cz Qs) (ju Qs) a)).ext λk=>e k
theorem Cf(c:Rat)(p:Nat)(g:Nat->Rat)(k:Nat):aD (λi=>if i=p then c else 0) g k=if p<=k then c*g (k -p)else 0:=by
 have:∀(p:Nat)(k:Nat),aD (λi=>if i=p then c else 0) g k=if p<=k then c*g (k -p)else 0:=by
  intro p
  induction p with
  |zero=>
   intro k;have:=cj c (λi=>if i=0 then 1 else 0) g k;rw[qP]at this;rw[Bz (L9 _),P0,<-this];refine cL (λi=>?_) (λ_=>rfl) k;by_cases h:i=0
   .rw[Bz h,Bz h,Y1]
   .rw[Bn h,Bn h,HI]
  |succ p a=>
   intro k;cases k with
   |zero=>rw[gh,Bn (by lia),Bn (by lia),TC]
   |succ k=>
    rw[jt,Bn (by lia),TC,kf];have e:(λi=>if i+1=p+1 then c else 0)=λi=>if i=p then c else 0:=funext λi=>by
     by_cases h:i=p
     .rw[Bz h,Bz (by lia)]
     .rw[Bn h,Bn (by lia)]
    rw[e,a k];by_cases h:p<=k
    .rw[Bz h,Bz (by lia),show k+1 -(p+1)=k -p by lia]
    .rw[Bn h,Bn (by lia)]
 exact this p k
theorem Ld{b:List Rat}(z:ao b)(C:b≠[]):∀(n:Nat)(a:List Rat),a.length<=n->∃(q:Nat->Rat)(r:List Rat),Fin q/\ao r/\r.length<b.length/\∀k,cQ a k=aD q (cQ b) k+cQ r k:=by
 have t:=FM.mpr C;have s:b.getD (b.length -1) 0≠0:=by refine z _ ?_;rw[Kj,BM (by lia),AC,BM (by lia)];rfl
 intro n
 induction n with
 |zero=>intro a j;refine⟨λ_=>0,[],⟨0,λ_ _=>rfl⟩,λx v=>(by cases v),t,λk=>?_⟩;rw[Hn.mp (vi.mp j),cD];show(0:Rat)=0+0;grind
 |succ n u=>
  intro a j;by_cases w:a.length<b.length
  .exact⟨λ_=>0,aY a,⟨0,λ_ _=>rfl⟩,b9 a,GM (ux a) w,λk=>by rw[cD,kf];exact(iU a k).symm⟩
  .generalize E:a.length -b.length=d;generalize y:a.getD (a.length -1) 0*(b.getD (b.length -1) 0)⁻¹=c;obtain⟨q,r,B,o,p,e⟩:=u (c7 (a.length -1) λk=>cQ a k -if d<=k then c*cQ b (k -d)else 0) (by rw[e9];lia);refine⟨λi=>q i+if i=d then c else 0,r,Fin.add B ⟨d+1,λi D=>Bn (by lia)⟩,o,p,λk=>?_⟩;rw[fj,Cf];have f:=e k;have f:(c7 (a.length -1) λk=>cQ a k -if d<=k then c*cQ b (k -d)else 0).getD k 0=_:=f;rw[l6]at f;by_cases m:k<a.length -1
   .rw[Bz m]at f;grind
   .rw[Bn m]at f;by_cases A:k=a.length -1
    .have h:cQ b (k -d)=b.getD (b.length -1) 0:=by rw[show k -d=b.length -1 by lia]
     have g:cQ a k=a.getD (a.length -1) 0:=by rw[A]
     rw[Bz (by lia),h,g,<-y];have:=Xt _ s;grind
    .have h:cQ a k=0:=cS (by lia);have g:(if d<=k then c*cQ b (k -d)else 0)=0:=by
      by_cases l:d<=k
      .rw[Bz l,show cQ b (k -d)=0 from cS (by lia),HI]
      .rw[Bn l]
     rw[h,g];grind
theorem GG:∀(n:Nat)(a b:List Rat),b.length<=n->ao a->ao b->∃(g:List Rat)(u v:Nat->Rat),ao g/\Fin u/\Fin v/\DQ (cQ g) (cQ a)/\DQ (cQ g) (cQ b)/\∀k,cQ g k=aD u (cQ a) k+aD v (cQ b) k:=by
 have c:∀(a:List Rat),ao a->∃(g:List Rat)(u v:Nat->Rat),ao g/\Fin u/\Fin v/\DQ (cQ g) (cQ a)/\DQ (cQ g) (cQ [])/\∀k,cQ g k=aD u (cQ a) k+aD v (cQ []) k:=λa z=>⟨a,λi=>if i=0 then 1 else 0,λ_=>0,z,⟨1,λi y=>Bn (by lia)⟩,⟨0,λ_ _=>rfl⟩,DQ.refl _,DQ.zero _,λk=>by rw[qP,cD,V4]⟩;intro n
 induction n with
 |zero=>intro a b h f d;rw[Hn.mp (vi.mp h)];exact c a f
 |succ n x=>
  intro a b h f d;by_cases o:b=[]
  .rw[o];exact c a f
  .obtain⟨q,r,l,p,G,e⟩:=Ld d o a.length a (Da _);obtain⟨g,u,v,s,C,j,m,F,E⟩:=x b r (by lia) d p;refine⟨g,v,λi=>u i+ -1*aD v q i,s,j,?_,?_,m,λk=>?_⟩
   .obtain⟨w,B⟩:=C;obtain⟨t,A⟩:=j.mul l;exact⟨w+t,λi y=>by dsimp only;rw[B i (by lia),A i (by lia)];grind⟩
   .exact(DQ.add (DQ.mul q l m) F).ext λk=>e k
   .rw[E k,fj,cj,iy];have D:aD v (cQ r) k=aD v (cQ a) k -aD v (aD q (cQ b)) k:=by have:aD v (cQ a) k=aD v (λi=>aD q (cQ b) i+cQ r i) k:=cL (λ_=>rfl) e k;rw[qO]at this;grind
    rw[D];grind
theorem pV{P:Nat->Prop}(h:∃i,¬P i):∃i,¬P i/\∀j,j<i->P j:=by
 obtain⟨i,d⟩:=h
 induction i using Nat.strongRecOn with
 |ind i c=>
  by_cases z:∃j,j<i/\¬P j
  .obtain⟨j,b,a⟩:=z;exact c j b a
  .exact⟨i,d,λj b=>Fh λa=>z ⟨j,b,a⟩⟩
theorem vH{p:Int}{f:Nat->Int}:∀n,(∀i,i<n->p∣f i)->p∣sm f n
 |0,_=>a9 _
 |n+1,h=>by rw[sm];exact tJ (vH n λi a=>h i (by lia)) (h n (by lia))
theorem D5{p:Int}{f g:Nat->Int}(m:gq p)(o:∃i,¬p∣g i)(h:∀k,p∣bU f g k)(j:Nat):p∣f j:=by
 refine Fh λa=>?_;obtain⟨i,n,l⟩:=pV (P:=λi=>p∣g i) o;obtain⟨j,a,d⟩:=pV (P:=λj=>p∣f j) ⟨j,a⟩;have e:=h (j+i);unfold bU at e;have c:p∣sm (λt=>f t*g (j+i -t)) (j+i+1) -sm (λt=>if t=j then f j*g i else 0) (j+i+1):=by
  rw[vv];refine vH _ λt s=>?_;show p∣f t*g (j+i -t) -(if t=j then f j*g i else 0);by_cases b:t=j
  .rw[Bz b,b,show j+i -j=i by lia,xn];exact a9 _
  .rw[Bn b,ik];by_cases q:t<j
   .exact oI (d t q)
   .exact gN (l _ (by lia))
 rw[vh j λ_=>f j*g i,Bz (by lia)]at c;have r:p∣f j*g i:=by have:=w8 e c;rw[show sm (λt=>f t*g (j+i -t)) (j+i+1) -(sm (λt=>f t*g (j+i -t)) (j+i+1) -f j*g i)=f j*g i by lia]at this;exact this
 exact(yr m r).elim a n
theorem D6{d:Int}(h:2<=d):∃p,gq p/\p∣d:=by
 have g:∃i:Nat,¬(i<2\/¬(i:Int)∣d):=⟨d.toNat,λz=>z.elim (λz=>by lia) λz=>z (by rw[S2 (by lia)];exact b5 _)⟩;obtain⟨i,b,c⟩:=pV g;have k:2<=i:=by refine Nw λz=>b (.inl z)
 have a:(i:Int)∣d:=Fh λz=>b (.inr z);refine⟨i,⟨by lia,λe n m z=>?_⟩,a⟩;have j:e∣(i:Int):=xa z;have f:e.toNat<i:=by have l:e*2<=e*e:=tI (by lia) (by lia);lia
 rcases c e.toNat f with z|z
 .lia
 .exact z (by rw[S2 (by lia)];exact ZK j a)
theorem VD{f g n:Nat->Int}(u:∀e:Int,(∀i,e∣g i)->e∣1):∀(m:Nat)(d:Int)(f:Nat->Int),d.natAbs<=m->d≠0->(∀k,d*n k=bU f g k)->∀i,d∣f i:=by
 intro m
 induction m with
 |zero=>intro d f h c;exact absurd (by lia) c
 |succ m t=>
  intro d f h c e;by_cases v:d.natAbs=1
  .intro i;exact⟨d*f i,by rcases Int.natAbs_eq d with z|z<;>rw[v]at z<;>rw[z]<;>grind⟩
  .obtain⟨p,l,b⟩:=D6 (d:=(d.natAbs:Int)) (by lia);have b:p∣d:=Z6.mp b;have w:=l.1;obtain⟨a,rfl⟩:=b;have r:∀i,p∣f i:=D5 l (Fh λz=>by have:=gL (by decide) (u p λi=>Fh λy=>z ⟨i,y⟩);lia) λk=>⟨a*n k,by rw[<-e k,XB]⟩;have j:a≠0:=λz=>c (by rw[z,QP]);have o:∀i,f i=p*(f i/p):=λi=>(fI (r i)).symm;have s:a.natAbs<=m:=by
    rw[FS]at h;have A:2*a.natAbs<=p.natAbs*a.natAbs:=NA _ (by lia);have x:0<a.natAbs:=by lia
    lia
   have:=t a (λi=>f i/p) s j λk=>by have q:=e k;rw[show f=λi=>p*(f i/p)from funext o,pU,XB]at q;exact Wp (by lia) q
   intro i;rw[o i];exact Int.mul_dvd_mul_left _ (this i)
theorem uC{u:Nat->Rat}(h:Fin u):∃(D:Int)(f:Nat->Int),D≠0/\∀i,(D:Rat)*u i=f i:=by
 obtain⟨n,b⟩:=h;have:∃D:Int,0<D/\∀i,i<n->∃z:Int,(D:Rat)*u i=z:=by
  clear b
  induction n with
  |zero=>exact⟨1,by decide,λi h=>by lia⟩
  |succ n k=>
   obtain⟨D,j,a⟩:=k;have l:=(u n).den_pos;refine⟨D*(u n).den,XX j (by lia),λi c=>?_⟩;by_cases e:i=n
   .subst e;have g:=gf (x:=u i) (B:=(u i).den) (b5 _);rw[Int.ediv_self (by lia),i4]at g;refine⟨D*(u i).num,?_⟩;rw[Jn,Jn,g,dC,oP (u i)]
   .obtain⟨z,hz⟩:=a i (by lia);refine⟨z*(u n).den,?_⟩;rw[Jn,Jn,<-hz];grind
 obtain⟨D,j,a⟩:=this;have d:∀i,∃z:Int,(D:Rat)*u i=z:=λi=>if c:i<n then a i c else⟨0,by rw[b i (by lia),HI];rfl⟩
 exact⟨D,λi=>mx (d i),by lia,λi=>mi (d i)⟩
theorem Le{u:Nat->Rat}{g n:Nat->Int}(j:Fin u)(c:∀e:Int,(∀i,e∣g i)->e∣1)(h:∀k,((n k:Int):Rat)=aD u (λi=>(g i:Rat)) k):∃z:Nat->Int,∀i,u i=(z i:Rat):=by
 obtain⟨D,f,a,e⟩:=uC j;have d:=VD (f:=f) (n:=n) c D.natAbs D f (Da _) a λk=>by
  have:((D*n k:Int):Rat)=((bU f g k:Int):Rat):=by rw[<-yt,Jn,h k,<-cj];exact cL e (λ_=>rfl) k
  exact_mod_cast this
 refine⟨λi=>f i/D,λi=>?_⟩;have l:(D:Rat)≠0:=by exact_mod_cast a
 have:=e i;rw[<-fI (d i),Jn]at this;have b:=Xt (D:Rat) l;have:=PQ ((D:Rat)⁻¹*·) this;rw[<-dC,<-dC,b,kA,kA]at this;exact this
theorem pW{ns g:List Int}(I:0<ns.length)(v:ns.getD (ns.length -1) 0≠0)(L:0<g.length)(A:g.getD (g.length -1) 0≠0)(one:∀d:Int,(∀x∈g,d∣x)->d∣1)(h:DQ (cz g) (cz ns)):
 ∃Z:List Int,0<Z.length/\ns.length+1=Z.length+g.length/\(∀k,ns.getD k 0=bU (co Z) (co g) k)/\ns.getD (ns.length -1) 0=Z.getD (Z.length -1) 0*g.getD (g.length -1) 0:=by
 obtain⟨u,r,e⟩:=h;obtain⟨z,hz⟩:=Le (g:=co g) (n:=co ns) r (λd D=>one d λx B=>by obtain⟨i,c,e⟩:=gd B;have:=D i;unfold co at this;rw[AC,BM c]at this;rw[<-e];exact this) e;have l:((g.getD (g.length -1) 0:Int):Rat)≠0:=by exact_mod_cast A
 have j:((ns.getD (ns.length -1) 0:Int):Rat)≠0:=by exact_mod_cast v
 have q:∀i,g.length -1<i->cz g i=0:=λi c=>by show((g.getD i 0:Int):Rat)=0;rw[outI (by lia)];rfl
 have p:∃k,u k≠0:=Fh λy=>j (by have b:=e (ns.length -1);have:=cL (f':=λ_=>0) (g:=cz g) (λi=>Fh λw=>y ⟨i,w⟩) (λ_=>rfl) (ns.length -1);rw[this,cD]at b;exact b);obtain⟨k,p⟩:=p;obtain⟨t,C,o⟩:=gu r k p;have a:=iV (f:=u) (g:=cz g) (n:=t) (m:=g.length -1) o q;rw[<-e]at a;have K:t+(g.length -1)<ns.length:=by
  refine rh λy=>?_;have b:cz ns (t+(g.length -1))=0:=by show((ns.getD _ 0:Int):Rat)=0;rw[outI y];rfl
  rw[b]at a;rcases Pl.mp a.symm with w|w
  .exact C w
  .exact l w
 have J:ns.length -1<=t+(g.length -1):=by refine Nw λy=>j ?_;exact(e (ns.length -1)).trans (vE (n:=t+1) (m:=g.length) (λi c=>o i (by lia)) (λi c=>q i (by lia)) (by lia))
 have E:ns.length -1=t+(g.length -1):=by lia
 have s:∀i,co ((D2 (t+1)).map z) i=z i:=λi=>by
  show((D2 (t+1)).map z).getD i 0=_;by_cases c:i<t+1
  .rw[AC,Dx,SB c];rfl
  .rw[outI (by rw[AN,SF];lia)];have:=o i (by lia);rw[hz i]at this;exact_mod_cast this.symm
 refine⟨(D2 (t+1)).map z,by rw[AN,SF];lia,by rw[AN,SF];lia,λk=>?_,?_⟩
 .rw[show co ((D2 (t+1)).map z)=z from funext s];have b:=e k;rw[cL hz (λ_=>rfl) k]at b;have G:=yt z (co g) k;have F:((ns.getD k 0:Int):Rat)=((bU z (co g) k:Int):Rat):=b.trans G;exact_mod_cast F
 .rw[AN,SF,He];have H:((D2 (t+1)).map z).getD t 0=z t:=s t;rw[H];rw[<-E,hz t]at a;have a:((ns.getD (ns.length -1) 0:Int):Rat)=(z t:Rat)*((g.getD (g.length -1) 0:Int):Rat):=a;rw[<-Jn]at a;exact_mod_cast a
instance:Std.Associative aD:=⟨λf g h=>funext λk=>iy g h k f⟩
instance:Std.Commutative aD:=⟨λf g=>funext λk=>bI f g k⟩
theorem Qx{f h:Nat->Rat}{b:List Rat}(ff:Fin f)(j:Fin h)(d:ao b)(l:b≠[])(e:aD f (cQ b)=aD h (cQ b)):f=h:=funext λi=>by
 have g:Fin λi=> -1*h i:=by obtain⟨n,a⟩:=j;exact⟨n,λi c=>by show-1*h i=0;rw[a i c];grind⟩
 have:=uB (s:=λi=>f i+ -1*h i) (ff.add g) d l (λk=>by rw[fj,cj,e];grind) i;have this:f i+ -1*h i=0:=this;grind
theorem Cg(g:Nat->Rat):aD (cQ [1]) g=g:=funext λk=>by rw[cL (f':=λi=>if i=0 then 1 else 0) (g':=g) (λi=>?_) (λ_=>rfl) k,qP];cases i<;>rfl
theorem czF(f g:List Int):aD (cz f) (cz g)=λk=>((bU (co f) (co g) k:Int):Rat):=funext λk=>yt (co f) (co g) k
theorem GH(c:Rat)(f g:Nat->Rat):aD (λi=>c*f i) g=λi=>c*aD f g i:=funext λk=>cj c f g k
theorem Lf(c:Rat)(f g:Nat->Rat):aD f (λi=>c*g i)=λi=>c*aD f g i:=funext λk=>mw c f g k
theorem jv{ns:List Int}(z:ns.getD (ns.length -1) 0≠0):ao (ns.map λx:Int=>(x:Rat)):=λx b=>by rw[Uk]at b;obtain⟨y,a,rfl⟩:=PH.mp b;rw[Kj]at a;rw[AC,a]at z;have z:y≠0:=z;exact_mod_cast z
theorem nH(ns:List Int):cQ (ns.map λx:Int=>(x:Rat))=cz ns:=funext λi=>by show(ns.map λx:Int=>(x:Rat)).getD i 0=((ns.getD i 0:Int):Rat);rw[AC,AC,Dx];cases ns[i]?<;>rfl
theorem Ci:∀(m:Nat)(L:List Int),(L.getD (L.length -1) 0).natAbs<=m->L.getD (L.length -1) 0≠0->∃(H:List Int)(κ:Int),H.length=L.length/\(∀d:Int,(∀x∈H,d∣x)->d∣1)/\∀k,L.getD k 0=κ*H.getD k 0
 |0,L,h,z=>absurd (by lia) z
 |m+1,L,h,z=>by
  by_cases c:∀d:Int,(∀x∈L,d∣x)->d∣1
  .exact⟨L,1,rfl,c,λk=>(cn _).symm⟩
  obtain⟨d,c⟩:=ly.mp c;obtain⟨b,n⟩:=lH.mp c;have e:∀k,L.getD k 0=d*(L.map (·/d)).getD k 0:=λk=>by
   rw[AC,AC,Dx];cases q:L[k]? with
   |none=>show(0:Int)=d*0;lia
   |some x=>exact(fI (b x (Hk q))).symm
  have l:=AN (as:=L) (·/d);have t:=e (L.length -1);have j:2<=d.natAbs:=Nw λq=>n (by
   have:d=0\/d=1\/d= -1:=by lia
   rcases this with rfl|rfl|rfl
   .rw[Ta]at t;exact absurd t z
   .decide
   .decide)
  have a:=PQ Z3 t;rw[FS]at a;have:=NA ((L.map (·/d)).getD (L.length -1) 0).natAbs j;obtain⟨H,κ,i,g,f⟩:=Ci m (L.map (·/d)) (by rw[l];lia) (λq=>z (by rw[l]at q;rw[t,q,QP]));exact⟨H,d*κ,by rw[i,l],g,λk=>by rw[e k,f k,XB]⟩
noncomputable def Ap(p:Int)(f g:Nat->Int):Prop:=∃(u v:Nat->Int)(N:Nat)(c:Int),(∀t,N<=t->u t=0)/\(∀t,N<=t->v t=0)/\¬p∣c/\∀k,p∣bU u f k+bU v g k -if k=0 then c else 0
theorem Qy{p c:Int}{X:Nat->Int}{H:List Int}{M:Nat}(u:gq p)(g:∀t,M<=t->X t=0)(v:¬p∣H.getD (H.length -1) 0)(x:¬p∣c)(e:∀k,p∣bU X (co H) k -if k=0 then c else 0):H.length<=1:=by
 refine Nw λz=>?_;have ex:∃i,¬(M<i\/p∣X (M -i)):=Fh λq=>x (by
  have o:∀t,p∣X t:=λt=>by
   by_cases h:t<=M
   .have:=lF.mp (not_exists.mp q (M -t));rw[show M -(M -t)=t by lia]at this;exact this.resolve_left (by lia)
   .rw[g t (by lia)];exact a9 _
  have l:=e 0;rw[gg,Bz rfl]at l;have:=w8 (oI (c:=co H 0) (o 0)) l;rw[show X 0*co H 0 -(X 0*co H 0 -c)=c by lia]at this;exact this)
 obtain⟨i,d,r⟩:=pV ex;have A:i<=M:=Nw λq=>d (.inl q);have d:¬p∣X (M -i):=λq=>d (.inr q);obtain⟨t,s⟩:∃t,t=M -i:=⟨_,rfl⟩;rw[<-s]at d;have up:∀j,t<j->p∣X j:=λj w=>by
  by_cases h:j<M
  .have:=r (M -j) (by lia);rw[show M -(M -j)=j by lia]at this;exact this.resolve_left (by lia)
  .rw[g j (by lia)];exact a9 _
 have h:=e (t+(H.length -1));rw[Bn (by lia),ik]at h;unfold bU at h;have n:p∣sm (λj=>X j*co H (t+(H.length -1) -j)) (t+(H.length -1)+1) -sm (λj=>if j=t then X t*H.getD (H.length -1) 0 else 0) (t+(H.length -1)+1):=by
  rw[vv];refine vH _ λj w=>?_;show p∣X j*H.getD (t+(H.length -1) -j) 0 -(if j=t then _ else 0);by_cases f:j=t
  .rw[Bz f,f,P2,xn];exact a9 _
  .rw[Bn f,ik];by_cases y:t<j
   .exact oI (up j y)
   .rw[outI (ns:=H) (by lia),QP];exact a9 _
 rw[vh t λ_=>X t*H.getD (H.length -1) 0,Bz (by lia)]at n;have m:=w8 h n;rw[show∀a b:Int,a -(a -b)=b from λa b=>by lia]at m;exact(yr u m).elim d v
theorem Qz{p:Int}{ns j:List Int}(hp:gq p)(n0:0<ns.length)(m0:0<j.length)(r:ns.getD (ns.length -1) 0≠0)(J:j.getD (j.length -1) 0≠0)(hl:¬p∣ns.getD (ns.length -1) 0)(h:Ap p (co ns) (co j))(d:Nat->Rat)(R:DQ d (cz ns)/\DQ d (cz j)):DQ d (cz [1]):=by
 obtain⟨g,u,v,zg,fu,fv,I,U,e⟩:=GG _ (ns.map λx:Int=>(x:Rat)) (j.map λx:Int=>(x:Rat)) (Da _) (jv r) (jv J);rw[nH]at I e;rw[nH]at U e;have dg:DQ d (cQ g):=(DQ.add (DQ.mul u fu R.1) (DQ.mul v fv R.2)).ext e;refine dg.trans ?_;have E:g≠[]:=λz=>by obtain⟨s,_,F⟩:=I;have:=F (ns.length -1);rw[z,bI,(cL (f:=cQ []) (f':=λ_=>0) (g':=s) (λi=>rfl) (λ_=>rfl) (ns.length -1)).trans (cD _ _)]at this;exact r (Tb.mp this)
 have l0:=FM.mpr E;obtain⟨D,f,D0,ef⟩:=uC (aG g);have O:(D:Rat)≠0:=λz=>D0 (Tb.mp z);have cf:∀k,(((D2 g.length).map f).getD k 0:Int)=(D:Rat)*cQ g k:=λk=>by
  rw[AC,Dx];by_cases Q:k<g.length
  .rw[SB Q];exact(ef k).symm
  .rw[FK (by simpa using Q),show cQ g k=0 from cS (by lia),HI];rfl
 have C:((D2 g.length).map f).length=g.length:=by simp
 have A:((D2 g.length).map f).getD (((D2 g.length).map f).length -1) 0≠0:=λz=>by
  have:=cf (g.length -1);rw[C]at z;rw[z]at this;rcases Pl.mp this.symm with q|q
  .exact O q
  .exact gr zg l0 q
 obtain⟨H,b,P,one,G⟩:=Ci _ _ (Da _) A;rw[C]at P;have XW:b≠0:=λz=>A (by rw[G,z,Ta]);have B:(b:Rat)≠0:=λz=>XW (Tb.mp z);have S:∀k,cQ g k=(b:Rat)/D*cz H k:=λk=>by have:=cf k;rw[G k,Jn]at this;show _=(b:Rat)/D*((H.getD k 0:Int):Rat);generalize((H.getD k 0:Int):Rat)=w at*;generalize cQ g k=y at*;grind
 have o:H.getD (H.length -1) 0≠0:=λz=>A (by rw[G,C,<-P,z,QP]);have T:∀{a:Nat->Rat},DQ (cQ g) a->DQ (cz H) a:=λ{a} ⟨s,⟨n,fs⟩,F⟩=>⟨λi=>(b:Rat)/D*s i,⟨n,λi l=>by dsimp only;rw[fs i l,HI]⟩,λk=>by rw[F k,cL (f:=s) (λ_=>rfl) S k,cj,bI,cj,bI]⟩;obtain⟨Z,_,_,eZ,tZ⟩:=pW n0 r (by lia) o one (T I);obtain⟨Y,_,_,eY,_⟩:=pW m0 J (by lia) o one (T U);obtain⟨L,K,N,c,hu,hv,hc,ec⟩:=h;have l1:=Qy (X:=λi=>bU L (co Z) i+bU K (co Y) i) (M:=N+Z.length+Y.length) hp (λt ht=>by
  rw[vB (n:=N) (m:=Z.length) hu (λi l=>outI l) (by lia),vB (n:=N) (m:=Y.length) hv (λi l=>outI l) (by lia)];rfl) (λq=>hl (by rw[tZ];exact gN q)) hc λk=>by
  have:=ec k;rw[jr,iu,iu];rw[vA (f:=L) (λ_=>rfl) eZ k,vA (f:=K) (λ_=>rfl) eY k]at this;exact this
 have e1:∀k,cz [1] k=(((H.getD 0 0:Int):Rat)*((b:Rat)/D))⁻¹*cQ g k:=λk=>by
  have q0:((H.getD 0 0:Int):Rat)*((b:Rat)/D)≠0:=λz=>by
   rcases Pl.mp z with z|z
   .rw[show H.length -1=0 by lia]at o;exact o (Tb.mp z)
   .have:=Tg (a:=(b:Rat)) O;rw[z,TC]at this;exact B this.symm
  rw[S k];cases k with
  |zero=>show(1:Rat)=_*(_*((H.getD 0 0:Int):Rat));have:=Xt _ q0;generalize((H.getD 0 0:Int):Rat)=y at*;generalize(b:Rat)/D=w at*;rw[oP w];exact this.symm
  |succ k=>show(0:Rat)=_*(_*((H.getD (k+1) 0:Int):Rat));rw[outI (ns:=H) (k:=k+1) (by lia)];show(0:Rat)=_*(_*(0:Rat));rw[HI,HI]
 exact((DQ.refl (cQ g)).sc _).ext e1
end Num
namespace Num
theorem GI{p:Int}{f:Nat->Int}(h:∀i,p∣f i):∀n,p∣sm f n
 |0=>a9 _
 |n+1=>by rw[sm];exact tJ (GI h n) (h n)
theorem qQ{p:Int}{f g g':Nat->Int}(h:∀i,p∣g i -g' i)(k:Nat):p∣bU f g k -bU f g' k:=by unfold bU;rw[vv];refine GI (λi=>?_) _;show p∣f i*g (k -i) -f i*g' (k -i);rw[<-Int.mul_sub];exact gN (h _)
noncomputable def D7(p:Int)(f g:Nat->Int)(A:List Int):Prop:=∃(u v:Nat->Int)(N:Nat),(∀t,N<=t->u t=0)/\(∀t,N<=t->v t=0)/\∀k,p∣bU u f k+bU v g k -A.getD k 0
theorem D7.one{p:Int}{f g:Nat->Int}{A:List Int}(h:∀k,f k=A.getD k 0):D7 p f g A:=by refine⟨λi=>if i=0 then 1 else 0,λ_=>0,1,λt a=>Bn (by lia),λ_ _=>rfl,λk=>?_⟩;rw[Sub.Lb,vm,Bz (L9 _),P0,h,fo,xn];exact a9 _
theorem D7.swap{p:Int}{f g:Nat->Int}{A:List Int}(h:D7 p f g A):D7 p g f A:=by obtain⟨u,v,N,c,b,a⟩:=h;exact⟨v,u,N,b,c,λk=>by rw[Int.add_comm];exact a k⟩
theorem D7.rest{p:Int}{f g:Nat->Int}{A B a rs:List Int}(G:D7 p f g A)(F:D7 p f g B)(h:vt p A B (λi=>a.getD i 0) rs):D7 p f g rs:=by obtain⟨u,v,N,D,C,J⟩:=G;obtain⟨d,c,l,q,o,I⟩:=F;have b:∀(w:Nat->Int),(∀t,l<=t->w t=0)->∀t,N+(a.length+l)<=t->bU (co a) w t=0:=λw z t e=>vB (n:=a.length) (m:=l) (λi E=>outI E) z (by lia);refine⟨λi=>u i+ -1*bU (co a) d i,λi=>v i+ -1*bU (co a) c i,N+(a.length+l),λt e=>by dsimp only;rw[D t (by lia),b d q t e];rfl,λt e=>by dsimp only;rw[C t (by lia),b c o t e];rfl,λk=>?_⟩;rw[jr,jr,pU,pU,iu,iu];have j:=qQ (f:=co a) (g:=λi=>bU d f i+bU c g i) (g':=co B) I k;rw[GB]at j;have r:=h k;have H:=J k;have r:p∣A.getD k 0 -(bU (co a) (co B) k+rs.getD k 0):=r;generalize bU u f k=y at*;generalize bU v g k=a2 at*;generalize bU (co a) (bU d f) k=a3 at*;generalize bU (co a) (bU c g) k=s at*;have j:p∣a3+s -bU (co a) (co B) k:=j;generalize bU (co a) (co B) k=x at*;have:=w8 (tJ H r) j;rw[show y+ -1*a3+(a2+ -1*s) -rs.getD k 0=y+a2 -A.getD k 0+(A.getD k 0 -(x+rs.getD k 0)) -(a3+s -x) by lia];exact this
end Num
namespace Num
open Sub
noncomputable def Oh(a b r:List Rat):Prop:=ao r/\r.length<b.length/\∃q:Nat->Rat,Fin q/\∀k,cQ a k=aD q (cQ b) k+cQ r k
inductive Zb:List Rat->List Rat->List (List Rat)->Prop
 |nil {a b:List Rat} (h:Oh a b []):Zb a b []
 |cons {a b r:List Rat} {l:List (List Rat)} (h:Oh a b r) (h0:r≠[]) (k:Zb b (Vw r) l):Zb a b (Vw r::l)
noncomputable def Bl(N n:Nat)(x:Rat):Prop:=x.num.natAbs<=2^N/\x.den<=2^n
theorem Bl.up{N n b a:Nat}{x:Rat}(h:Bl N n x)(d:N<=b)(c:n<=a):Bl b a x:=⟨DL h.1 (Kt (by decide) d),DL h.2 (Kt (by decide) c)⟩
theorem Bl.div{t b:Int}{N n:Nat}(d:t.natAbs<=2^N)(c:b.natAbs<=2^n)(a:b≠0):Bl N n (BK t b):=⟨DL (l5 t b a).1 d,DL (l5 t b a).2 c⟩
theorem Bl.mul{N n M m:Nat}{x y:Rat}(b:Bl N n x)(a:Bl M m y):Bl (N+M) (n+m) (x*y):=by
 have e:x*y=BK (x.num*y.num) ((x.den:Int)*y.den):=by
  conv=>lhs;rw[<-Qr x,<-Qr y]
  exact b6 ..
 rw[e];have d:=x.den_pos;have c:=y.den_pos;refine Bl.div ?_ ?_ (QQ (by lia) (by lia))
 .rw[FS,dE];exact X9 b.1 a.1
 .rw[FS,I0,I0,dE];exact X9 b.2 a.2
theorem Bl.int{N:Nat}{z:Int}(h:z.natAbs<=2^N):Bl N 0 (z:Rat):=⟨h,Da _⟩
theorem Bl.bd{N n m:Nat}{x:Rat}(h:Bl N n x)(b:N<m)(a:n<m):Bd m x:=⟨GM h.1 (eI (by decide) b),GM h.2 (eI (by decide) a)⟩
theorem kQ{R:List Int}{x:Rat}(c:x≠0)(b:R=[]\/R.getD (R.length -1) 0≠0):ao (R.map λy:Int=>x*(y:Rat)):=λz hz=>by
 rw[Uk]at hz;obtain⟨y,a,rfl⟩:=PH.mp hz;rcases b with e|e
 .rw[e]at a;cases a
 .rw[Kj]at a;rw[AC,a]at e;intro z;rcases Pl.mp z with z|z
  .exact c z
  .exact e (Tb.mp z)
theorem QA(R:List Int)(x:Rat)(k:Nat):cQ (R.map λy:Int=>x*(y:Rat)) k=x*((R.getD k 0:Int):Rat):=by
 show(R.map λy:Int=>x*(y:Rat)).getD k 0=_;rw[AC,Dx,AC];cases R[k]? with
 |none=>show(0:Rat)=x*((0:Int):Rat);grind
 |some z=>rfl
section
variable{ns ms A B Qs R:List Int}{w E D0:Nat}{ld h c:Int}{α β:Rat}{a b:List Rat}
end
noncomputable def gG(ns:List Int):List Int:=(D2 (ns.length -1)).map λi=>((i+1:Nat):Int)*ns.getD (i+1) 0
noncomputable def oV(rs:List Rat):List Rat:=c7 (rs.length -1) λi=>((i+1:Nat):Rat)*rs.getD (i+1) 0
theorem dI(ns:List Int):(gG ns).length=ns.length -1:=by unfold gG;simp
theorem qR(rs:List Rat):(oV rs).length=rs.length -1:=e9 _ _
theorem mz(ns:List Int)(k:Nat):(gG ns).getD k 0=((k+1:Nat):Int)*ns.getD (k+1) 0:=by
 unfold gG;rw[AC,Dx];by_cases h:k<ns.length -1
 .rw[SB h];rfl
 .rw[FK (by simpa using h),outI (ns:=ns) (by lia),QP];rfl
theorem vI(rs:List Rat)(k:Nat):cQ (oV rs) k=((k+1:Nat):Rat)*cQ rs (k+1):=by
 show(c7 _ _).getD k 0=_;rw[l6];split
 .rfl
 .rw[show cQ rs (k+1)=0 from cS (by lia)];grind
abbrev Pq:=Nat->Rat
noncomputable def jk(f:Pq):Pq:=λk=>((k+1:Nat):Rat)*f (k+1)
noncomputable def I1:Pq:=cQ [1]
theorem Lg:Fin I1:=aG [1]
theorem GJ(g:Pq):aD I1 g=g:=Cg g
theorem GK(g:Pq):aD g I1=g:=(si (op:=aD) g I1).trans (Cg g)
theorem jW{f:Pq}(h:Fin f):Fin (jk f):=by obtain⟨n,a⟩:=h;exact⟨n,λi b=>by show _*f (i+1)=0;rw[a _ (by lia),HI]⟩
theorem GL(f g:Pq):jk (aD f g)=λk=>aD (jk f) g k+aD f (jk g) k:=funext λk=>by
 have c:aD (jk f) g k=d9 (λi=>((i:Nat):Rat)*(f i*g (k+1 -i))) (k+2):=by rw[mh];unfold aD jk;rw[show((0:Nat):Rat)*(f 0*g (k+1 -0))=0 from TC _,kf];exact cV _ λi _=>by rw[show k+1 -(i+1)=k -i by lia,dC]
 have b:aD f (jk g) k=d9 (λi=>((k+1 -i:Nat):Rat)*(f i*g (k+1 -i))) (k+2):=by show _=d9 _ (k+1)+((k+1 -(k+1):Nat):Rat)*(f (k+1)*g (k+1 -(k+1)));rw[show k+1 -(k+1)=0 by lia];rw[show((0:Nat):Rat)*(f (k+1)*g 0)=0 from TC _,V4];unfold aD jk;exact cV _ λi a=>by rw[show k+1 -i=k -i+1 by lia];grind
 rw[c,b,<-vD];show _*aD f g (k+1)=_;unfold aD;rw[<-vC];exact cV _ λi a=>by
  rw[<-bM];congr 1;have:k+1=i+(k+1 -i):=by lia
  exact_mod_cast this
theorem bz{f:Pq}(h:Fin f):∃a:List Rat,ao a/\cQ a=f:=by
 obtain⟨n,b⟩:=h;refine⟨aY (c7 n f),b9 _,funext λi=>?_⟩;show(aY _).getD i 0=_;rw[iU,l6];split
 .rfl
 .exact(b _ (by lia)).symm
noncomputable def Z0(f:Pq):Prop:=∀i,f i=0
theorem Zc{f g:Pq}(ff:Fin f)(d:Fin g)(h:Z0 (aD f g))(c:¬Z0 g):Z0 f:=by obtain⟨b,a,rfl⟩:=bz d;exact uB ff a (λe=>c λi=>by rw[e];rfl) h
theorem yu{f g:Pq}(ff:Fin f)(c:Fin g)(b:¬Z0 f)(a:¬Z0 g):¬Z0 (aD f g):=λh=>b (Zc ff c h a)
theorem Lh{f h g:Pq}(ff:Fin f)(d:Fin h)(j:Fin g)(c:¬Z0 g)(e:aD f g=aD h g):f=h:=by obtain⟨b,a,rfl⟩:=bz j;exact Qx ff d a (λe=>c λi=>by rw[e];rfl) e
theorem cY{a:List Rat}(h:¬Z0 (cQ a)):a≠[]:=λe=>h λi=>by rw[e];rfl
theorem cE{a:List Rat}(z:ao a)(h:a≠[]):¬Z0 (cQ a):=λe=>bE z h (e _)
theorem gv{a b c:List Rat}(n:ao a)(m:ao b)(l:ao c)(g:a≠[])(f:b≠[])(e:cQ c=aD (cQ a) (cQ b)):c.length+1=a.length+b.length:=by
 have q:=FM.mpr g;have p:=FM.mpr f;have t:cQ c (a.length -1+(b.length -1))≠0:=by
  rw[e,iV (λi d=>cS (by lia)) λi d=>cS (by lia)];intro z;rcases Pl.mp z with z|z
  .exact bE n g z
  .exact bE m f z
 have k:a.length -1+(b.length -1)<c.length:=rh λh=>t (cS h);have o:c≠[]:=λz=>by rw[z]at k;cases k
 have j:=bE l o;rw[show c.getD (c.length -1) 0=cQ c (c.length -1)from rfl,e]at j;have r:¬a.length+b.length<=c.length -1+1:=λh=>j (vE (λi d=>cS d) (λi d=>cS d) h);lia
noncomputable def Un(f:Pq):Prop:=DQ f I1
theorem GN{x:Rat}(h:x≠0):Un (cQ [x]):=⟨cQ [x⁻¹],aG _,λk=>by
 have:cQ [x⁻¹]=λi=>x⁻¹*I1 i:=funext λi=>by cases i<;>simp[I1,cQ]
 rw[this,cj,GJ];cases k with
 |zero=>show(1:Rat)=x⁻¹*x;rw[Xt _ h]
 |succ k=>show(0:Rat)=x⁻¹*0;rw[HI]⟩
theorem gw{a:List Rat}(z:ao a)(n:a≠[])(l:a.length<2):Un (cQ a):=by
 match a,n,l with
 |[x],_,_=>exact GN (bE z (by simp))
theorem VF{f g:Pq}(h:Un f)(a:Fin g):DQ f g:=by have:=h.mul g a;rw[GK]at this;exact this
noncomputable def pw(p:Pq):Nat->Pq
 |0=>I1
 |n+1=>aD p (pw p n)
theorem fO{p:Pq}(h:Fin p):∀n,Fin (pw p n)
 |0=>Lg
 |n+1=>h.mul (fO h n)
theorem qS(p:Pq)(n:Nat):∀m,pw p (m+n)=aD (pw p m) (pw p n)
 |0=>by rw[xb];exact(GJ _).symm
 |m+1=>by
  rw[show m+1+n=(m+n)+1 by lia];show aD p (pw p (m+n))=aD (aD p (pw p m)) (pw p n);rw[qS p n m]
  ac_rfl
theorem VG:¬Z0 I1:=λh=>absurd (h 0) (by decide)
theorem GO{p:Pq}(a:Fin p)(h:¬Z0 p):∀n,¬Z0 (pw p n)
 |0=>VG
 |n+1=>yu a (fO a n) h (GO a h n)
structure iz(p:Pq):Prop where
 fin:Fin p
 nz:¬Z0 p
 un:¬Un p
 or:∀d,Fin d->DQ d p->Un d\/DQ p d
theorem bez{f g:Pq}(ff:Fin f)(l:Fin g):∃h u v:Pq,Fin h/\Fin u/\Fin v/\DQ h f/\DQ h g/\h=λk=>aD u f k+aD v g k:=by obtain⟨a,d,rfl⟩:=bz ff;obtain⟨b,c,rfl⟩:=bz l;obtain⟨h,u,v,_,j,i,n,m,e⟩:=GG _ a b (Da _) d c;exact⟨cQ h,u,v,aG h,j,i,n,m,funext e⟩
theorem DQ.eq{g a:Pq}(h:DQ g a):∃s,Fin s/\a=aD s g:=by obtain⟨s,b,e⟩:=h;exact⟨s,b,funext e⟩
theorem DQ.cv{g s:Pq}(a:Fin s):DQ g (aD s g):=⟨s,a,λ_=>rfl⟩
theorem DQ.VH{g s:Pq}(a:Fin s):DQ g (aD g s):=by rw[si (op:=aD) g s];exact DQ.cv a
theorem iz.cop{p f:Pq}(a:iz p)(ff:Fin f)(h:¬DQ p f):∃u v,Fin u/\Fin v/\I1=λk=>aD u p k+aD v f k:=by
 obtain⟨g,u,v,i,d,c,m,l,e⟩:=bez a.fin ff;rcases a.or g i m with x|x
 .obtain⟨w,b,j⟩:=DQ.eq x;refine⟨aD w u,aD w v,b.mul d,b.mul c,?_⟩;rw[j,e];funext k;rw[qO,y8 (op:=aD) w u p,y8 (op:=aD) w v f]
 .exact absurd (x.trans l) h
theorem iz.split{p f g:Pq}(a:iz p)(ff:Fin f)(i:Fin g)(h:DQ p (aD f g)):DQ p f\/DQ p g:=by
 by_cases c:DQ p f
 .exact Qd c
 obtain⟨u,v,d,b,e⟩:=a.cop ff c;refine Pv ?_;have j:∀k,g k=aD (aD g u) p k+aD v (aD f g) k:=λk=>by
  have:aD I1 g k=g k:=by rw[GJ]
  rw[<-this,e,fj,show aD (aD u p) g=aD (aD g u) p by ac_rfl,show aD (aD v f) g=aD v (aD f g) by ac_rfl]
 exact(((DQ.refl p).mul _ (i.mul d)).add (h.mul v b)).ext j
theorem iA(g:Pq)(k:Nat):aD (cQ []) g k=0:=(cL (λ_=>rfl) (λ_=>rfl) k).trans (cD g k)
theorem jw{d a:List Rat}(n:ao d)(b:ao a)(m:a≠[])(h:DQ (cQ d) (cQ a)):d≠[]/\(d.length<a.length\/DQ (cQ a) (cQ d)):=by
 obtain⟨s,p,e⟩:=h.eq;obtain⟨s,g,rfl⟩:=bz p;have j:d≠[]:=λz=>by rw[z]at e;refine cE b m λi=>?_;rw[e,bI];exact iA _ i
 have f:s≠[]:=λz=>by rw[z]at e;refine cE b m λi=>?_;rw[e];exact iA _ i
 have l:=gv g n b f j e;have r:=FM.mpr f;refine⟨j,?_⟩;by_cases c:s.length<2
 .refine Pv ?_;obtain⟨w,o,q⟩:=(gw g f c).eq;refine⟨w,o,λk=>?_⟩;rw[e,show aD w (aD (cQ s) (cQ d))=aD (aD w (cQ s)) (cQ d) by ac_rfl,<-q,GJ]
 .exact Qd (by lia)
theorem vJ:∀(n:Nat)(a:List Rat),a.length<=n->ao a->2<=a.length->∃p,iz p/\DQ p (cQ a)
 |0,a,h,_,l=>absurd (DL l h) (by decide)
 |n+1,a,h,b,l=>by
  have j:a≠[]:=λz=>by rw[z]at l;cases l
  by_cases c:∃d:Pq,Fin d/\DQ d (cQ a)/\¬Un d/\¬DQ (cQ a) d
  .obtain⟨d,r,w,F,E⟩:=c;obtain⟨d,f,rfl⟩:=bz r;obtain⟨B,o⟩:=jw f b j w;rcases o with o|o
   .have C:2<=d.length:=Nw λl=>F (gw f B l);obtain⟨p,D,m⟩:=vJ n d (by lia) f C;exact⟨p,D,m.trans w⟩
   .exact absurd o E
  .refine⟨cQ a,⟨aG a,cE b j,λu=>?_,λd r m=>?_⟩,DQ.refl _⟩
   .have:=(jw (d:=a) (a:=[1]) b (λx k=>by cases k;decide) (by simp) u).2;rcases this with t|t
    .exact absurd t (by simp;lia)
    .obtain⟨s,y,e⟩:=DQ.eq (g:=I1) t;have:(([1]:List Rat)).length<a.length:=by simp;lia
     have G:Un (cQ a):=u;obtain⟨s,y,e⟩:=G.eq;obtain⟨s,A,rfl⟩:=bz y;have v:s≠[]:=λz=>by rw[z]at e;refine VG λi=>?_;rw[e];exact iA _ i
     have l:=gv (c:=[1]) A b (λx k=>by cases k;decide) v j e;have H:=FM.mpr v;simp at l;lia
   .by_cases u:Un d
    .exact Qd u
    .exact Pv (Fh λq=>c ⟨d,r,m,u,q⟩)
theorem GP{f:Pq}(ff:Fin f)(c:¬Z0 f)(u:¬Un f):∃p,iz p/\DQ p f:=by obtain⟨a,b,rfl⟩:=bz ff;have d:=cY c;exact vJ _ a (Da _) b (Nw λl=>u (gw b d l))
theorem Li{a:List Rat}(h:ao a)(u:Un (cQ a)):a.length=1:=by
 have d:a≠[]:=λz=>by obtain⟨s,f,e⟩:=u.eq;refine VG λi=>?_;rw[e,bI,z];exact iA _ i
 obtain⟨s,f,e⟩:=u.eq;obtain⟨s,g,rfl⟩:=bz f;have b:s≠[]:=λz=>by rw[z]at e;refine VG λi=>?_;rw[e];exact iA _ i
 have l:=gv (c:=[1]) g h (λx j=>by cases j;decide) b d e;have m:=FM.mpr b;have k:=FM.mpr d;simp at l;lia
noncomputable def Val(p f:Pq)(e:Nat):Prop:=∃s,Fin s/\f=aD (pw p e) s/\¬DQ p s
theorem GQ{p:Pq}(d:iz p):∀(n:Nat)(a:List Rat),a.length<=n->ao a->a≠[]->∃e,Val p (cQ a) e
 |0,a,h,_,l=>absurd (Hn.mp (vi.mp h)) l
 |n+1,a,h,j,r=>by
  by_cases c:DQ p (cQ a)
  .obtain⟨s,v,e⟩:=c.eq;obtain⟨s,f,rfl⟩:=bz v;obtain⟨b,g,rfl⟩:=bz d.fin;have m:s≠[]:=λz=>by rw[z]at e;refine cE j r λi=>?_;rw[e];exact iA _ i
   have o:=cY d.nz;have l:=gv f g j m o e;have x:2<=b.length:=Nw λl=>d.un (gw g o l);obtain⟨k,t,u,w,q⟩:=GQ d n s (by lia) f m;refine⟨k+1,t,u,?_,q⟩;rw[e,w];show _=aD (aD _ _) _
   ac_rfl
  .exact⟨0,cQ a,aG a,(GJ _).symm,c⟩
theorem iz.val{p f:Pq}(d:iz p)(ff:Fin f)(c:¬Z0 f):∃e,Val p f e:=by obtain⟨a,b,rfl⟩:=bz ff;exact GQ d _ a (Da _) b (cY c)
theorem Val.mul{p f g:Pq}{e k:Nat}(i:iz p)(l:Val p f e)(j:Val p g k):Val p (aD f g) (e+k):=by
 obtain⟨s,b,rfl,d⟩:=l;obtain⟨t,a,rfl,c⟩:=j;refine⟨aD s t,b.mul a,?_,λh=>(i.split b a h).elim d c⟩;rw[qS]
 ac_rfl
theorem GR{p s t:Pq}{e k:Nat}(a:iz p)(d:Fin s)(c:Fin t)(h:e<k)(b:aD (pw p e) s=aD (pw p k) t):DQ p s:=by obtain⟨n,rfl⟩:∃n,k=e+(n+1):=⟨k -e -1,by lia⟩;rw[qS,show aD (aD (pw p e) (pw p (n+1))) t=aD (aD (pw p (n+1)) t) (pw p e) by ac_rfl,show aD (pw p e) s=aD s (pw p e) by ac_rfl]at b;have:=Lh d ((fO a.fin _).mul c) (fO a.fin e) (GO a.fin a.nz e) b;rw[this];show DQ p (aD (aD p (pw p n)) t);rw[show aD (aD p (pw p n)) t=aD (aD (pw p n) t) p by ac_rfl];exact DQ.cv ((fO a.fin n).mul c)
theorem Val.uniq{p f:Pq}{e k:Nat}(a:iz p)(m:Val p f e)(l:Val p f k):e=k:=by
 obtain⟨s,c,g,j⟩:=m;obtain⟨t,b,d,i⟩:=l;rcases Nat.lt_trichotomy e k with h|h|h
 .exact absurd (GR a c b h (g.symm.trans d)) j
 .exact h
 .exact absurd (GR a b c h (d.symm.trans g)) i
theorem Val.pos{p f:Pq}{e:Nat}(b:iz p)(h:Val p f e):DQ p f↔e≠0:=by
 obtain⟨s,c,rfl,a⟩:=h;cases e with
 |zero=>exact⟨λd=>by rw[show pw p 0=I1 from rfl,GJ]at d;exact absurd d a,λh=>absurd rfl h⟩
 |succ n=>exact⟨λ_=>Nat.succ_ne_zero n,λ_=>by show DQ p (aD (aD p (pw p n)) s);rw[show aD (aD p (pw p n)) s=aD (aD (pw p n) s) p by ac_rfl];exact DQ.cv ((fO b.fin n).mul c)⟩
theorem Fin.VI{f:Pq}(c:Rat)(h:Fin f):Fin λi=>c*f i:=by obtain⟨n,a⟩:=h;exact⟨n,λi b=>by show c*f i=0;rw[a i b,HI]⟩
theorem GS(p:Pq):∀n,jk (pw p (n+1))=λk=>((n+1:Nat):Rat)*aD (pw p n) (jk p) k
 |0=>by show jk (aD p I1)=_;rw[GK];funext k;show _=((1:Nat):Rat)*aD I1 (jk p) k;rw[GJ];exact(kA _).symm
 |n+1=>by
  show jk (aD p (pw p (n+1)))=_;rw[GL,GS p n];funext k;show aD (jk p) (pw p (n+1)) k+aD p (λk=>((n+1:Nat):Rat)*aD (pw p n) (jk p) k) k=_;rw[mw,show aD p (aD (pw p n) (jk p))=aD (pw p (n+1)) (jk p)from(y8 (op:=aD) p (pw p n) (jk p)).symm,bI];have:((n+1+1:Nat):Rat)=1+((n+1:Nat):Rat):=by
   have:n+1+1=1+(n+1):=by lia
   exact_mod_cast this
  rw[this,bM,kA]
theorem Lj{p:Pq}(f:iz p):¬DQ p (jk p):=λh=>by
 obtain⟨b,e,rfl⟩:=bz f.fin;obtain⟨a,g,d⟩:=bz (jW (aG b));have c:=cY f.nz;have k:2<=b.length:=Nw λl=>f.un (gw e c l);rw[<-d]at h;have j:a.length<b.length:=rh λl=>by
  have i:a≠[]:=λz=>by rw[z]at l;simp at l;exact c l
  refine bE g i ?_;have:=congrFun d (a.length -1);rw[show a.getD (a.length -1) 0=cQ a (a.length -1)from rfl,this];show _*cQ b _=0;rw[show cQ b (a.length -1+1)=0 from cS (by lia),HI]
 have:=GC e c g j h;rw[this]at d;have t:=congrFun d (b.length -2);have t:(0:Rat)=((b.length -2+1:Nat):Rat)*cQ b (b.length -2+1):=t;rcases Pl.mp t.symm with z|z
 .have:b.length -2+1=0:=by exact_mod_cast z
  lia
 .rw[show b.length -2+1=b.length -1 by lia]at z;exact bE e c z
theorem Val.jk{p f:Pq}{n:Nat}(a:iz p)(h:Val p f (n+1)):Val p (jk f) n:=by
 obtain⟨s,c,rfl,e⟩:=h;refine⟨λk=>((n+1:Nat):Rat)*aD (Num.jk p) s k+aD p (Num.jk s) k,(Fin.VI _ ((jW a.fin).mul c)).add (a.fin.mul (jW c)),?_,λd=>?_⟩
 .rw[GL,GS];funext k;show aD (λk=>((n+1:Nat):Rat)*aD (pw p n) (Num.jk p) k) s k+aD (aD p (pw p n)) (Num.jk s) k=_;rw[cj,qO,mw,show aD (aD (pw p n) (Num.jk p)) s=aD (pw p n) (aD (Num.jk p) s) by ac_rfl,show aD (aD p (pw p n)) (Num.jk s)=aD (pw p n) (aD p (Num.jk s)) by ac_rfl]
 .have j:=(d.sub (DQ.VH (g:=p) (jW c))).ext (b:=λk=>((n+1:Nat):Rat)*aD (Num.jk p) s k) λk=>by grind
  have i:=DQ.Aq (λz=>by
   have:n+1=0:=by exact_mod_cast z
   lia) j
  exact(a.split (jW a.fin) c i).elim (Lj a) e
theorem Val.nz{p f:Pq}{e:Nat}(a:iz p)(h:Val p f e):¬Z0 f:=by obtain⟨s,c,rfl,b⟩:=h;exact yu (fO a.fin e) c (GO a.fin a.nz e) λz=>b ((DQ.zero p).ext z)
theorem QB{p:Pq}(a:iz p)(n:Nat):Val p (pw p n) n:=⟨I1,Lg,(GK _).symm,a.un⟩
theorem Val.Oi{p f q g:Pq}{e k:Nat}(a:iz p)(h:Val p f e)(d:Val p g k)(i:Fin q)(c:¬Z0 q)(E:f=aD q g):Val p q (e -k)/\k<=e:=by obtain⟨j,b⟩:=a.val i c;have:=(E▸h).uniq a (b.mul a d);rw[this,He];exact⟨b,Y9 ..⟩
theorem Val.le{p f:Pq}{e n:Nat}(a:iz p)(h:Val p f e):DQ (pw p n) f↔n<=e:=by
 constructor
 .intro d;obtain⟨s,b,E⟩:=d.eq;refine(h.Oi a (QB a n) b (λz=>h.nz a λi=>?_) E).2;rw[E,show s=λ_=>0 from funext z];exact cD _ i
 .intro l;obtain⟨s,b,rfl,c⟩:=h;obtain⟨m,rfl⟩:∃m,e=n+m:=⟨e -n,by lia⟩;rw[qS,show aD (aD (pw p n) (pw p m)) s=aD (aD (pw p m) s) (pw p n) by ac_rfl];exact DQ.cv ((fO a.fin m).mul b)
structure QC(f h g:Pq):Prop where
 fin:Fin g
 l:DQ g f
 r:DQ g h
 out:∀d,DQ d f->DQ d h->DQ d g
theorem QC.val{p f h g:Pq}{e k:Nat}(a:iz p)(G:QC f h g)(c:Val p f e)(d:Val p h k):Val p g (min e k):=by
 have j:¬Z0 g:=λz=>c.nz a λi=>by obtain⟨s,o,E⟩:=G.l.eq;rw[E,bI,show g=λ_=>0 from funext z];exact cD _ i
 obtain⟨m,b⟩:=a.val G.fin j;have q:=(c.le a).mp (((b.le a).mpr (Da m)).trans G.l);have a2:=(d.le a).mp (((b.le a).mpr (Da m)).trans G.r);have a3:=(b.le a (n:=min e k)).mp (G.out _ ((c.le a).mpr (Nat.min_le_left ..)) ((d.le a).mpr (eF ..)));rw[show min e k=m by lia];exact b
theorem QC.VJ{p f g:Pq}{e:Nat}(a:iz p)(G:QC f (jk f) g)(b:Val p f e):Val p g (e -1):=by
 cases e with
 |succ n=>have:=G.val a b (b.jk a);rw[show min (n+1) n=n+1 -1 by lia]at this;exact this
 |zero=>
  have d:¬Z0 g:=λz=>b.nz a λi=>by obtain⟨s,j,E⟩:=G.l.eq;rw[E,bI,show g=λ_=>0 from funext z];exact cD _ i
  obtain⟨m,c⟩:=a.val G.fin d;have h:=(b.le a).mp (((c.le a).mpr (Da m)).trans G.l);rw[vi.mp h]at c;exact c
theorem GU{g f:Pq}(h:DQ g f)(a:¬Z0 f):¬Z0 g:=λz=>a λi=>by obtain⟨s,b,E⟩:=h.eq;rw[E,bI,show g=λ_=>0 from funext z];exact cD _ i
theorem iW{q g f:Pq}(E:f=aD q g)(a:¬Z0 f):¬Z0 q:=λz=>a λi=>by rw[E,show q=λ_=>0 from funext z];exact cD _ i
theorem yv:∀(n:Nat)(a:List Rat)(g:Pq),a.length<=n->ao a->a≠[]->Fin g->¬Z0 g->(∀p,iz p->∀e k,Val p (cQ a) e->Val p g k->e<=k)->DQ (cQ a) g
 |0,a,g,h,_,l,_,_,_=>absurd (Hn.mp (vi.mp h)) l
 |n+1,a,g,h,i,m,I,C,H=>by
  by_cases u:Un (cQ a)
  .exact VF u I
  obtain⟨p,c,d⟩:=GP (aG a) (cE i m) u;obtain⟨s,P,E⟩:=d.eq;obtain⟨s,A,rfl⟩:=bz P;have K:¬Z0 (cQ s):=iW E (cE i m);have f:=cY K;obtain⟨b,B,o⟩:=bz c.fin;have D:b≠[]:=cY (o▸c.nz);have S:2<=b.length:=Nw λl=>c.un (o▸gw B D l);have l:=gv A B i f D (by rw[o];exact E);obtain⟨e,G⟩:=c.val (aG a) (cE i m);obtain⟨k,F⟩:=c.val I C;have T:=H p c e k G F;have U:=(G.pos c).mp d;have Q:DQ p g:=(F.pos c).mpr (by lia);obtain⟨t,O,v⟩:=Q.eq;have J:¬Z0 t:=iW v C;have r:DQ (cQ s) t:=yv n s t (by lia) A f O J λq j x y M L=>by obtain⟨z,hz⟩:=j.val c.fin c.nz;have:=H q j (x+z) (y+z) (E▸M.mul j hz) (v▸L.mul j hz);lia
  obtain⟨w,N,R⟩:=r.eq;refine⟨w,N,λk=>?_⟩;rw[v,E,R,show aD (aD w (cQ s)) p=aD w (aD (cQ s) p) by ac_rfl]
theorem GV{f g:Pq}(ff:Fin f)(d:¬Z0 f)(h:Fin g)(c:¬Z0 g)(H:∀p,iz p->∀e k,Val p f e->Val p g k->e<=k):DQ f g:=by obtain⟨a,b,rfl⟩:=bz ff;exact yv _ a g (Da _) b (cY d) h c H
theorem Cj{a b:List Rat}(n:Mon a)(l:Mon b)(j:¬Z0 (cQ a))(i:¬Z0 (cQ b))(H:∀p,iz p->∃e,Val p (cQ a) e/\Val p (cQ b) e):a=b:=
 n.unique l (GV (aG a) j (aG b) i λp c e k h g=>by
  obtain⟨m,f,d⟩:=H p c;rw[h.uniq c f,g.uniq c d];exact Da m) (GV (aG b) i (aG a) j λp c e k h g=>by
  obtain⟨m,f,d⟩:=H p c;rw[h.uniq c d,g.uniq c f];exact Da m)
theorem Ck{f g:Pq}(ff:Fin f)(c:¬Z0 f)(j:Fin g)(H:∀p,iz p->DQ p f->¬DQ p g)(d:Pq)(i:Fin d)(b:DQ d f)(h:DQ d g):Un d:=
 Fh λu=>by obtain⟨p,e,a⟩:=GP i (GU b c) u;exact H p e (a.trans b) (a.trans h)
theorem GW{f:Pq}(ff:Fin f)(c:¬Z0 f)(H:∀p,iz p->∀e,Val p f e->e<=1)(d:Pq)(i:Fin d)(h:DQ d f)(g:DQ d (jk f)):Un d:=
 Ck ff c (jW ff) (λp a x y=>by
  obtain⟨e,b⟩:=a.val ff c;have j:=H p a e b;have k:=(b.pos a).mp x;have:e=0+1:=by lia
  rw[this]at b;exact((b.jk a).pos a).mp y rfl) d i h g
structure Tn(f:Pq)(k:Nat)(left beyond:Pq):Prop where
 fl:Fin left
 nl:¬Z0 left
 fb:Fin beyond
 nb:¬Z0 beyond
 v:∀p,iz p->∀e,Val p f e->Val p left (if k<=e then 1 else 0)/\Val p beyond (e -k)
theorem Tn.start{f b a:Pq}(d:¬Z0 f)(G:QC f (jk f) a)(fl:Fin b)(E:f=aD b a):Tn f 1 b a:=by have c:=iW E d;refine⟨fl,c,G.fin,GU G.l d,λp g e i=>?_⟩;have h:=G.VJ g i;refine⟨?_,h⟩;have q:=(i.Oi g h fl c E).1;rw[show(if 1<=e then 1 else 0)=e -(e -1) by split<;>lia];exact q
theorem Tn.step{f c b a part i:Pq}{k:Nat}(T:Tn f k c b)(G:QC c b a)(s:Fin part)(n:c=aD part a)(m:Fin i)(o:b=aD i a):Tn f (k+1) a i/\¬Z0 part/\∀p,iz p->∀e,Val p f e->Val p part (if e=k then 1 else 0):=by
 have j:=iW n T.nl;have nb:=iW o T.nb;have h:∀p,iz p->∀e,Val p f e->Val p a (if k+1<=e then 1 else 0):=λp d e g=>by obtain⟨r,q⟩:=T.v p d e g;have:=G.val d r q;rw[show(if k+1<=e then 1 else 0)=min (if k<=e then 1 else 0) (e -k) by split<;>split<;>lia];exact this
 refine⟨⟨G.fin,GU G.l T.nl,m,nb,λp d e g=>⟨h p d e g,?_⟩⟩,j,λp d e g=>?_⟩
 .have:=((T.v p d e g).2.Oi d (h p d e g) m nb o).1;rw[show e -(k+1)=e -k -(if k+1<=e then 1 else 0) by split<;>lia];exact this
 .have:=((T.v p d e g).1.Oi d (h p d e g) s j n).1;rw[show(if e=k then 1 else 0)=(if k<=e then 1 else 0) -(if k+1<=e then 1 else 0) by split<;>split<;>split<;>lia];exact this
theorem Mon.Lk{a:List Rat}(h:Mon a)(n:a≠[]):¬Z0 (cQ a):=cE h.JX n
noncomputable def Pt(f:Pq)(k:Nat)(a:List Rat):Prop:=Mon a/\2<=a.length/\∀p,iz p->∀e,Val p f e->Val p (cQ a) (if e=k then 1 else 0)
structure E4(f:Pq)(k:Nat)(l:List (List Rat×Nat)):Prop where
 up:l.Pairwise λx y=>x.2<y.2
 pt:∀x∈l,1<=x.2/\x.2<k/\Pt f x.2 x.1
 all:∀p,iz p->∀e,Val p f e->1<=e->e<k->∃x∈l,x.2=e
structure iX(f:Pq)(l:List (List Rat×Nat)):Prop where
 up:l.Pairwise λx y=>x.2<y.2
 pt:∀x∈l,1<=x.2/\Pt f x.2 x.1
 all:∀p,iz p->∀e,Val p f e->1<=e->∃x∈l,x.2=e
theorem E4.start(f:Pq):E4 f 1 []:=⟨YR,(λx h=>nomatch h),λp c e _ b a=>absurd a (Nat.not_lt.mpr b)⟩
theorem E4.more{f:Pq}{k:Nat}{l:List (List Rat×Nat)}{a:List Rat}(k0:1<=k)(h:E4 f k l)(q:Pt f k a):E4 f (k+1) (l++[(a,k)]):=by
 refine⟨List.pairwise_append.mpr ⟨h.up,List.pairwise_singleton ..,λx b y j=>?_⟩,λx b=>?_,λp n e o s r=>?_⟩
 .rw[Fu.mp j];exact(h.pt x b).2.1
 .rcases Hb.mp b with m|m
  .obtain⟨i,g,d⟩:=h.pt x m;exact⟨i,SC g,d⟩
  .rw[Fu.mp m];exact⟨k0,N0 k,q⟩
 .rcases dk (oa r)with c|c
  .obtain⟨x,b,ex⟩:=h.all p n e o s c;exact⟨x,QR _ b,ex⟩
  .exact⟨(a,k),IR _ (Fu.mpr rfl),c.symm⟩
theorem E4.skip{f part:Pq}{k:Nat}{l:List (List Rat×Nat)}(h:E4 f k l)(u:Un part)(m:∀p,iz p->∀e,Val p f e->Val p part (if e=k then 1 else 0)):E4 f (k+1) l:=by
 refine⟨h.up,λx j=>?_,λp a e b o n=>?_⟩
 .obtain⟨i,g,d⟩:=h.pt x j;exact⟨i,SC g,d⟩
 .rcases dk (oa n)with c|c
  .exact h.all p a e b o c
  .have:=m p a e b;rw[Bz c]at this;exact absurd (((this.pos a).mpr (by decide)).trans u) a.un
theorem E4.end{f b a:Pq}{k:Nat}{l:List (List Rat×Nat)}(h:E4 f k l)(T:Tn f k b a)(u:Un b):iX f l:=
 ⟨h.up,λx g=>⟨(h.pt x g).1,(h.pt x g).2.2⟩,λp d e i j=>h.all p d e i j (rh λc=>by have:=(T.v p d e i).1;rw[Bz c]at this;exact d.un (((this.pos d).mpr (by decide)).trans u))⟩
theorem GX{f:Pq}{k:Nat}{a:List Rat}(ff:Fin f)(i:¬Z0 f)(h:Pt f k a):∃p,iz p/\Val p f k/\DQ p (cQ a):=by obtain⟨p,b,d⟩:=vJ _ a (Da _) h.1.JX h.2.1;obtain⟨e,g⟩:=b.val ff i;have v:=h.2.2 p b e g;have:=(v.pos b).mp d;have j:e=k:=Fh λc=>this (Bn c);exact⟨p,b,j▸g,d⟩
theorem Oj{f:Pq}{k:Nat}{a:List Rat}(h:Pt f k a):a≠[]:=λz=>by have:=h.2.1;rw[z]at this;cases this
theorem Ll{f:Pq}{k:Nat}{a b:List Rat}(ff:Fin f)(i:¬Z0 f)(h:Pt f k a)(c:Pt f k b):a=b:=
 Cj h.1 c.1 (h.1.Lk (Oj h)) (c.1.Lk (Oj c)) λp d=>by obtain⟨e,g⟩:=d.val ff i;exact⟨_,h.2.2 p d e g,c.2.2 p d e g⟩
theorem iX.sub{f:Pq}{l m:List (List Rat×Nat)}(ff:Fin f)(b:¬Z0 f)(k:iX f l)(d:iX f m){x:List Rat×Nat}(i:x∈l):x∈m:=by obtain⟨h,a⟩:=k.pt x i;obtain⟨p,j,v,_⟩:=GX ff b a;obtain⟨y,c,g⟩:=d.all p j _ v h;have:=(d.pt y c).2;rw[g]at this;have e:=Ll ff b a this;have:x=y:=Prod.ext e g.symm;rw[this];exact c
theorem uD:∀{l m:List (List Rat×Nat)},(l.Pairwise λx y=>x.2<y.2)->(m.Pairwise λx y=>x.2<y.2)->(∀x,x∈l↔x∈m)->l=m
 |[],[],_,_,_=>rfl
 |[],y::m,_,_,h=>absurd ((h y).mpr FC) (by simp)
 |x::l,[],_,_,h=>absurd ((h x).mp FC) (by simp)
 |x::l,y::m,g,f,h=>by
  obtain⟨b,a2⟩:=SD.mp g;obtain⟨a,i⟩:=SD.mp f;have e:x=y:=by
   rcases Fn.mp ((h x).mp FC)with c|c
   .exact c
   rcases Fn.mp ((h y).mpr FC)with d|d
   .exact d.symm
   .have:=a x c;have:=b y d;lia
  rw[<-e]at h a⊢;congr 1;refine uD a2 i λz=>⟨λhz=>?_,λhz=>?_⟩
  .rcases Fn.mp ((h z).mp (Ee _ hz))with c|c
   .have:=b z hz;rw[c]at this;exact absurd this (OF _)
   .exact c
  .rcases Fn.mp ((h z).mpr (Ee _ hz))with c|c
   .have:=a z hz;rw[c]at this;exact absurd this (OF _)
   .exact c
theorem iX.uniq{f:Pq}{l m:List (List Rat×Nat)}(ff:Fin f)(c:¬Z0 f)(b:iX f l)(a:iX f m):l=m:=
 uD b.up a.up λ_=>⟨b.sub ff c a,a.sub ff c b⟩
theorem iX.twice{f:Pq}{l:List (List Rat×Nat)}(ff:Fin f)(m:¬Z0 f)(h:iX f l):iX (aD f f) (l.map λx=>(x.1,2*x.2)):=by
 have v:∀p,iz p->∀e,Val p (aD f f) e->∃k,e=2*k/\Val p f k:=λp a e c=>by obtain⟨k,b⟩:=a.val ff m;exact⟨k,by rw[c.uniq a (b.mul a b)];lia,b⟩
 refine⟨List.pairwise_map.mpr (h.up.imp λq=>by lia),λx d=>?_,λp a e c r=>?_⟩
 .obtain⟨y,n,rfl⟩:=Ki.mp d;obtain⟨o,j,i,g⟩:=h.pt y n;refine⟨by show 1<=2*y.2;lia,j,i,λp a e c=>?_⟩;obtain⟨k,rfl,b⟩:=v p a e c;have:=g p a k b;rw[show(if 2*k=2*y.2 then 1 else 0)=if k=y.2 then 1 else 0 by split<;>split<;>lia];exact this
 .obtain⟨k,rfl,b⟩:=v p a e c;obtain⟨x,d,ex⟩:=h.all p a k b (by lia);exact⟨_,Ki.mpr ⟨x,d,rfl⟩,by show 2*x.2=_;rw[ex]⟩
theorem Mon.cv{a b:List Rat}(f:Mon a)(d:Mon b):∃c,Mon c/\cQ c=aD (cQ a) (cQ b):=by
 obtain⟨c,j,e⟩:=bz ((aG a).mul (aG b));have h:a≠[]:=f.ne;have g:b≠[]:=d.ne;have k:c≠[]:=cY λz=>yu (aG a) (aG b) (cE f.JX h) (cE d.JX g) λi=>by rw[<-e];exact z i
 have l:=gv f.JX d.JX j h g e;have o:=FM.mpr h;have n:=FM.mpr g;refine⟨c,⟨k,?_⟩,e⟩;rw[show c.getD (c.length -1) 0=cQ c (c.length -1)from rfl,e,show c.length -1=(a.length -1)+(b.length -1) by lia,iV (λi m=>cS (by lia)) λi m=>cS (by lia)];show a.getD (a.length -1) 0*b.getD (b.length -1) 0=1;rw[f.one,d.one,kA]
theorem VM:Mon [1]:=⟨by simp,rfl⟩
theorem Mon.pw{a:List Rat}(d:Mon a):∀n,∃c,Mon c/\cQ c=pw (cQ a) n
 |0=>⟨[1],VM,rfl⟩
 |n+1=>by obtain⟨b,g,e⟩:=d.pw n;obtain⟨c,f,h⟩:=d.cv g;exact⟨c,f,by rw[h,e];rfl⟩
noncomputable def oW:List (List Rat×Nat)->Pq
 |[]=>I1
 |x::l=>aD (pw (cQ x.1) x.2) (oW l)
theorem mD:∀l:List (List Rat×Nat),(∀x∈l,Mon x.1)->∃c,Mon c/\cQ c=oW l
 |[],_=>⟨[1],VM,rfl⟩
 |x::l,h=>by obtain⟨a,i,e⟩:=(h x FC).pw x.2;obtain⟨b,g,k⟩:=mD l λy d=>h y (Ee _ d);obtain⟨c,f,j⟩:=i.cv g;exact⟨c,f,by rw[j,e,k];rfl⟩
theorem Val.pw{p g:Pq}{e:Nat}(a:iz p)(h:Val p g e):∀n,Val p (pw g n) (n*e)
 |0=>by rw[tq];exact⟨I1,Lg,(GJ _).symm,a.un⟩
 |n+1=>by rw[show(n+1)*e=e+n*e by rw[xc,km]];exact h.mul a (h.pw a n)
theorem qT{f p:Pq}{e:Nat}(a:iz p)(d:Val p f e):∀{l:List (List Rat×Nat)},(∀x∈l,Pt f x.2 x.1)->(∀x∈l,x.2≠e)->Val p (oW l) 0
 |[],_,_=>⟨I1,Lg,(GJ _).symm,a.un⟩
 |x::l,h,n=>by have v:=(h x FC).2.2 p a e d;rw[Bn λc=>n x FC c.symm]at v;have:=(v.pw a x.2).mul a (qT a d (l:=l) (λy b=>h y (Ee _ b)) λy b=>n y (Ee _ b));rw[Pb,xb]at this;exact this
theorem yw{f p:Pq}{e:Nat}(b:iz p)(g:Val p f e):∀{l:List (List Rat×Nat)},(∀x∈l,Pt f x.2 x.1)->(l.Pairwise λx y=>x.2<y.2)->(∃x∈l,x.2=e)->Val p (oW l) e
 |[],_,_,h=>absurd h (by simp)
 |x::l,h,u,n=>by
  obtain⟨k,j⟩:=SD.mp u;have v:=(h x FC).2.2 p b e g;by_cases c:e=x.2
  .rw[Bz c]at v;have:=(v.pw b x.2).mul b (qT b g (l:=l) (λy a=>h y (Ee _ a)) λy a=>by have:=k y a;lia);rw[cZ,a6,<-c]at this;rw[c]at this⊢;exact this
  .rw[Bn c]at v;have:=(v.pw b x.2).mul b (yw b g (l:=l) (λy a=>h y (Ee _ a)) j (by
    obtain⟨y,a,i⟩:=n;rcases Fn.mp a with d|d
    .rw[d]at i;exact absurd i.symm c
    .exact⟨y,d,i⟩))
   rw[Pb,xb]at this;exact this
theorem iX.val{f:Pq}{l:List (List Rat×Nat)}(h:iX f l){p:Pq}(d:iz p){e:Nat}(b:Val p f e):Val p (oW l) e:=by
 by_cases c:1<=e
 .exact yw d b (λx a=>(h.pt x a).2) h.up (h.all p d e b c)
 .have:e=0:=by lia
  rw[this]at b⊢;exact qT d b (λx a=>(h.pt x a).2) λx a=>by have:=(h.pt x a).1;lia
theorem iX.prod{a:List Rat}{l:List (List Rat×Nat)}(d:ao a)(f:a≠[])(h:iX (cQ a) l)(k:Nat):cQ a k=a.getD (a.length -1) 0*oW l k:=by
 obtain⟨c,o,q⟩:=mD l λx r=>(h.pt x r).2.1;have m:=Lc d f;have e:mon a=c:=Cj m o (m.Lk m.ne) (o.Lk o.ne) λp b=>by obtain⟨e,i⟩:=b.val (aG a) (cE d f);refine⟨e,?_,by rw[q];exact h.val b i⟩;obtain⟨j,g⟩:=b.val (aG (mon a)) (m.Lk m.ne);have t:=(i.le b (n:=j)).mp (((GD d f _).mp ((g.le b).mpr (Da j))));have s:=(g.le b (n:=e)).mp (((GD d f _).mpr ((i.le b).mpr (Da e))));rw[show e=j by lia];exact g
 have:=vF a k;rw[e,q]at this;rw[this];have:=bE d f;grind
theorem GY{b:List Rat}(h:ao b)(a:2<=b.length):∀(n:Nat){c:List Rat},ao c->cQ c=pw (cQ b) n->n+1<=c.length
 |0,c,g,e=>df λz=>VG λi=>by have:c=[]:=Hn.mp z;rw[show I1=cQ c from e.symm,this];rfl
 |n+1,c,g,e=>by
  obtain⟨d,f,j⟩:=bz (fO (aG b) n);have:=GY h a n f j;have m:b≠[]:=λz=>by rw[z]at a;cases a
  have k:d≠[]:=λz=>by rw[z]at this;cases this
  have l:=gv h f g m k (by rw[e,j];rfl);lia
theorem iX.Ol{a:List Rat}{l:List (List Rat×Nat)}(c:ao a)(i:a≠[])(h:iX (cQ a) l){x:List Rat×Nat}(y:x∈l):x.2+1<=a.length:=by
 obtain⟨A,t⟩:=h.pt x y;obtain⟨p,f,v,_⟩:=GX (aG a) (cE c i) t;obtain⟨b,j,rfl⟩:=bz f.fin;have u:=cY f.nz;have w:2<=b.length:=Nw λl=>f.un (gw j u l);obtain⟨d,g,n⟩:=bz (fO f.fin x.2);have q:DQ (cQ d) (cQ a):=n▸(v.le f).mpr (Da _);have B:=GY j w x.2 g n;obtain⟨m,o⟩:=jw g c i q;rcases o with o|o
 .lia
 .obtain⟨_,o2⟩:=jw c g m o;obtain⟨s,z,e⟩:=q.eq;obtain⟨s,r,rfl⟩:=bz z;have k:=cY (iW e (cE c i));have:=gv r g c k m e;have:=FM.mpr k;lia
theorem iX.bare{f:Pq}{l:List (List Rat×Nat)}(ff:Fin f)(b:¬Z0 f)(h:iX f l){x:List Rat×Nat}(c:x∈l)(d:Pq)(n:Fin d)(m:DQ d (cQ x.1))(j:DQ d (jk (cQ x.1))):Un d:=by have t:=(h.pt x c).2;refine GW (aG _) (t.1.Lk t.1.ne) (λp a e i=>?_) d n m j;obtain⟨k,g⟩:=a.val ff b;rw[i.uniq a (t.2.2 p a k g)];split<;>lia
theorem iX.cop{f:Pq}{l:List (List Rat×Nat)}(ff:Fin f)(i:¬Z0 f)(h:iX f l){x y:List Rat×Nat}(o:x∈l)(n:y∈l)(ne:x.2≠y.2)(d:Pq)(u:Fin d)(r:DQ d (cQ x.1))(q:DQ d (cQ y.1)):Un d:=by have t:=(h.pt x o).2;have s:=(h.pt y n).2;refine Ck (aG _) (t.1.Lk t.1.ne) (aG _) (λp e a b=>?_) d u r q;obtain⟨k,g⟩:=e.val ff i;have w:=((t.2.2 p e k g).pos e).mp a;have v:=((s.2.2 p e k g).pos e).mp b;have m:k=x.2:=Fh λc=>w (Bn c);have j:k=y.2:=Fh λc=>v (Bn c);exact ne (m.symm.trans j)
theorem GZ{f:Nat->Int}{m K:Nat}(b:∀i,i<m->(f i).natAbs<=K)(a:∀i,m<=i->f i=0):∀n,(sm f n).natAbs<=min n m*K
 |0=>by show(0:Int).natAbs<=_;exact L9 _
 |n+1=>by
  show(sm f n+f n).natAbs<=_;have ih:=GZ b a n;by_cases c:n<m
  .rw[show min (n+1) m=n+1 by lia,xc];rw[show min n m=n by lia]at ih;exact DL (Int.natAbs_add_le ..) (Yo ih (b n c))
  .rw[a n (by lia),fo,show min (n+1) m=min n m by lia];exact ih
noncomputable def MB(f:Pq)(B:Nat):Prop:=∃(G:Nat->Int)(c:Rat),c≠0/\(∀k,f k=c*(G k:Rat))/\∀k,(G k).natAbs<=B
theorem MB.sc{f:Pq}{B:Nat}(h:MB f B){x:Rat}(a:x≠0):MB (λk=>x*f k) B:=by obtain⟨G,c,d,e,b⟩:=h;refine⟨G,x*c,λz=>(Pl.mp z).elim a d,λk=>?_,b⟩;show x*f k=_;rw[e,dC]
theorem MB.cv{f:Pq}{B K:Nat}(H:List Int)(d:∀x∈H,x.natAbs<=K)(h:MB f B):MB (aD (cz H) f) (H.length*(K*B)):=by
 obtain⟨G,c,g,e,b⟩:=h;refine⟨bU (co H) G,c,g,λk=>?_,λk=>?_⟩
 .rw[show f=λk=>c*(G k:Rat)from funext e,mw];congr 1;exact yt (co H) G k
 .have:=GZ (f:=λi=>co H i*G (k -i)) (m:=H.length) (K:=K*B) (λi a=>by
   rw[FS];refine X9 ?_ (b _);show(H.getD i 0).natAbs<=K;rw[AC,BM a];exact d _ (Kx a)) (λi a=>by
   show H.getD i 0*_=0;rw[outI a,Ta]) (k+1)
  exact DL this (NA _ (eF ..))
noncomputable def Sml(p:Pq):Prop:=∃(H:List Int)(c:Rat),c≠0/\(∀k,p k=c*cz H k)/\(H.length=2\/H.length=3)/\H.getD (H.length -1) 0≠0/\∀x∈H,x.natAbs<=24
noncomputable def AS(f:Pq):Prop:=∀p,iz p->DQ p f->Sml p
theorem AS.dvd{d f:Pq}(h:AS f)(b:DQ d f):AS d:=λp a x=>h p a (x.trans b)
theorem AS.mul{f g:Pq}(ff:Fin f)(d:Fin g)(c:AS f)(b:AS g):AS (aD f g):=λp a x=>(a.split ff d x).elim (c p a) (b p a)
theorem AS.un{f:Pq}(h:Un f):AS f:=λp a x=>absurd (x.trans h) a.un
theorem AS.Lm:∀(n:Nat)(a:List Rat),a.length<=n+1->ao a->a≠[]->AS (cQ a)->MB (cQ a) (48^n)
 |n,a,h,za,na,H=>by
  by_cases u:a.length<2
  .match a,na,u with
   |[x],_,_=>
    refine⟨λk=>if k=0 then 1 else 0,x,bE za (by simp),λk=>?_,λk=>?_⟩
    .cases k with
     |zero=>show x=x*((1:Int):Rat);exact(Y1 x).symm
     |succ k=>show(0:Rat)=x*((0:Int):Rat);exact(HI x).symm
    .have:0<48^n:=OK (by decide);show(if k=0 then(1:Int)else 0).natAbs<=_;split
     .exact this
     .exact L9 _
  obtain⟨p,hp,d⟩:=vJ _ a (Da _) za (by lia);obtain⟨s,fs,E⟩:=d.eq;obtain⟨s,zs,rfl⟩:=bz fs;have ns:=cY (iW E (cE za na));obtain⟨T,c,c0,eT,lT,zT,bT⟩:=H p hp d;have eP:p=λk=>c*cz T k:=funext eT;obtain⟨b,zb,hb⟩:=bz hp.fin;have lb:b.length=T.length:=by
   have nb:b≠[]:=cY (hb▸hp.nz);have h1:¬b.length<=T.length -1:=λl=>by
    have:cQ b (T.length -1)=0:=cS l;rw[hb,eT]at this;rcases Pl.mp this with z|z
    .exact c0 z
    .have z:((T.getD (T.length -1) 0:Int):Rat)=0:=z;exact zT (by exact_mod_cast z)
   have h2:¬T.length<=b.length -1:=λl=>by refine bE zb nb ?_;show cQ b (b.length -1)=0;rw[hb,eT];show c*((T.getD _ 0:Int):Rat)=0;rw[outI l];exact HI c
   have:=FM.mpr nb;lia
  have l:=gv zs zb za ns (λz=>by rw[z]at lb;simp at lb;lia) (by rw[hb];exact E);have ls:=FM.mpr ns;have hs:=H.dvd ⟨p,hp.fin,λk=>by rw[E,bI]⟩;rcases lT with t|t
  .obtain⟨m,rfl⟩:∃m,n=m+1:=⟨n -1,by lia⟩;have:=(AS.Lm m s (by lia) zs ns hs).cv T bT;have:=this.sc c0;rw[E,si (op:=aD) (cQ s) p,eP,GH,KO,d5];rw[t,<-rn]at this;exact this
  .obtain⟨m,rfl⟩:∃m,n=m+2:=⟨n -2,by lia⟩;obtain⟨G,x,x0,e,b⟩:=((AS.Lm m s (by lia) zs ns hs).cv T bT).sc c0;rw[E,si (op:=aD) (cQ s) p,eP,GH];refine⟨G,x,x0,e,λk=>DL (b k) ?_⟩;rw[t,KO,KO];have:0<48^m:=OK (by decide);lia
termination_by n=>n
theorem Ln{p:Pq}{r:List Rat}(f:iz p)(c:ao r)(h:r≠[])(d:DQ p (cQ r)):(∃x:Rat,x≠0/\∀k,p k=x*cQ r k)\/∃b:List Rat,ao b/\cQ b=p/\2<=b.length/\b.length<r.length:=by
 obtain⟨b,a,rfl⟩:=bz f.fin;have n:=cY f.nz;have v:2<=b.length:=Nw λl=>f.un (gw a n l);obtain⟨_,o⟩:=jw a c h d;rcases o with o|o
 .exact .inr ⟨b,a,rfl,v,o⟩
 .refine .inl ?_;obtain⟨s,y,e⟩:=o.eq;obtain⟨s,j,rfl⟩:=bz y;have g:=cY (iW e f.nz);have C:=gv j c a g h e;obtain⟨t,w,q⟩:=d.eq;obtain⟨t,u,rfl⟩:=bz w;have m:=cY (iW q (cE c h));have B:=gv u a c m n q;have A:=FM.mpr g;have z:=FM.mpr m
  match s,g,(show s.length=1 by lia)with
  |[x],_,_=>refine⟨x,bE j (by simp),λk=>?_⟩;rw[e,show cQ [x]=λi=>x*I1 i from funext λi=>by cases i<;>simp[I1,cQ],cj,GJ]
theorem G0{H:List Int}{r:List Rat}{c:Rat}(J:ao r)(B:r≠[])(O:c≠0)(e:∀k,cQ r k=c*cz H k)(R:r.length=H.length)(l3:H.length<=3)(l:H.getD (H.length -1) 0≠0)(j:∀x∈H,x.natAbs<=24):AS (cQ r):=λp m d=>by
 rcases Ln m J B d with⟨x,P,ex⟩|⟨b,o,rfl,X,S⟩
 .refine⟨H,x*c,λz=>(Pl.mp z).elim P O,λk=>by rw[ex,e,dC],?_,l,j⟩;by_cases q:H.length<2
  .exact absurd (d.trans (gw J B (by lia))) m.un
  .lia
 .match b,o,X,(show b.length<3 by lia),m,d with
  |[b0,b1],o,_,_,m,d=>
   have G:b1≠0:=bE o (by simp);have w:((b0/b1).den:Int)≠0:=by have:=(b0/b1).den_pos;lia
   have vq:(((b0/b1).den:Int):Rat)≠0:=λz=>w (by exact_mod_cast z);have hu:b0*(((b0/b1).den:Int):Rat)=b1*(((b0/b1).num:Int):Rat):=by
    have t:b0/b1=(((b0/b1).num:Int):Rat)/(((b0/b1).den:Int):Rat):=by rw[<-TK];exact(Qr _).symm
    generalize(((b0/b1).num:Int):Rat)=U at*;generalize(((b0/b1).den:Int):Rat)=V at*;grind
   have N:∀k,cQ [b0,b1] k=b1/(((b0/b1).den:Int):Rat)*cz [(b0/b1).num,((b0/b1).den:Int)] k:=λk=>by
    match k with
    |0=>show b0=_/_*(((b0/b1).num:Int):Rat);grind
    |1=>show b1=_/_*(((b0/b1).den:Int):Rat);grind
    |k+2=>show(0:Rat)=_*((0:Int):Rat);exact(HI _).symm
   generalize hU:(b0/b1).num=u at*;generalize hV:((b0/b1).den:Int)=v at*;have F:∀t:Int,t∣u->t∣v->t∣1:=λt i f=>by have c:=(b0/b1).reduced;rw[<-hU]at i;rw[<-hV]at f;have a1:t.natAbs∣(b0/b1).num.natAbs:=TB.mpr i;have a2:t.natAbs∣(b0/b1).den:=TB.mpr f;have:=Nat.dvd_gcd a1 a2;rw[c]at this;exact TB.mp this
   have XW:b1/(v:Rat)≠0:=λz=>G (by grind);have dd:DQ (cz [u,v]) (cz H):=by obtain⟨s,fs,es⟩:=d.eq;refine DQ.Aq O ((DQ.refl (cz [u,v])).mul s fs|>.sc (b1/(v:Rat))|>.ext λk=>?_);rw[<-e,es,show cQ [b0,b1]=λk=>b1/(v:Rat)*cz [u,v] k from funext N,mw]
   obtain⟨Z,z0,lZ,n,A⟩:=pW (ns:=H) (g:=[u,v]) (by have:=FM.mpr B;lia) l (by simp) w (λt M=>F t (M u (by simp)) (M v (by simp))) dd;refine⟨[u,v],_,XW,N,.inl rfl,w,?_⟩;have T:H.length=3:=by have:([b0,b1]:List Rat).length<r.length:=S;rw[R]at this;have f:([b0,b1]:List Rat).length=2:=rfl;lia
   have C:Z.length=2:=by have f:([u,v]:List Int).length=2:=rfl;lia
   match H,Z,T,C,n,A,l,j with
   |[h0,i,f],[y,z],_,_,n,A,l,j=>
    have Q:h0=y*u:=by have:=n 0;simp[bU,sm,co]at this;exact this
    have L:i=y*v+z*u:=by have:=n 1;simp[bU,sm,co]at this;exact this
    have K:f=z*v:=A;have E:f≠0:=l;have I:z≠0:=λq=>E (by rw[K,q,Ta]);have B0:h0.natAbs<=24:=j h0 (by simp);have B1:i.natAbs<=24:=j i (by simp);have B2:f.natAbs<=24:=j f (by simp);have h:∀a b:Int,a≠0->b.natAbs<=(a*b).natAbs:=λa b Y=>by rw[FS];exact oo _ (Int.natAbs_pos.mpr Y)
    intro x D;rcases Fn.mp D with rfl|D
    .by_cases q:y=0
     .rw[q,Ta,pd]at L;exact DL (h z x I) (L▸B1)
     .exact DL (h y x q) (Q▸B0)
    .rw[Fu.mp D];exact DL (h z v I) (K▸B2)
theorem MB.prim{f:Pq}{B:Nat}{ns:List Int}{κ:Rat}(h:MB f B)(k0:κ≠0)(e:∀k,cz ns k=κ*f k)(one:∀d:Int,(∀x∈ns,d∣x)->d∣1):∀x∈ns,x.natAbs<=B:=by
 obtain⟨G,c,v,s,w⟩:=h;have o:κ*c≠0:=λz=>(Pl.mp z).elim k0 v;generalize b:κ*c=a at*;have u:∀k,cz ns k=a*(G k:Rat):=λk=>by rw[e,s,<-dC,b]
 have rr:a=((a.num:Int):Rat)/((a.den:Int):Rat):=by rw[<-TK];exact(Qr _).symm
 have l:(a.den:Int)≠0:=by have:=a.den_pos;lia
 have A:((a.den:Int):Rat)≠0:=λz=>l (by exact_mod_cast z);have y:a.num≠0:=λz=>o (by rw[rr,z];grind);have m:∀k,ns.getD k 0*(a.den:Int)=a.num*G k:=λk=>by
  have:=u k;have t:((ns.getD k 0:Int):Rat)*((a.den:Int):Rat)=((a.num:Int):Rat)*((G k:Int):Rat):=by have q:((ns.getD k 0:Int):Rat)=a*((G k:Int):Rat):=this;generalize((ns.getD k 0:Int):Rat)=X at*;generalize((G k:Int):Rat)=Y at*;generalize((a.num:Int):Rat)=U at*;generalize((a.den:Int):Rat)=V at*;subst q;rw[rr];grind
  exact_mod_cast t
 have r:a.num∣1:=one _ λx g=>by obtain⟨i,j,rfl⟩:=SU.mp g;have:=m i;rw[AC,BM j]at this;have d:a.num∣ns[i]*(a.den:Int):=⟨G i,this⟩;refine TB.mp ?_;have n:=TB.mpr d;rw[FS]at n;exact kb a.reduced n
 have p:a.num.natAbs=1:=by have:=TB.mpr r;exact Nat.dvd_one.mp this
 intro x g;obtain⟨i,j,rfl⟩:=SU.mp g;have:=m i;rw[AC,BM j]at this;have t:=PQ Z3 this;rw[FS,FS,p,hX]at t;have t:ns[i].natAbs*a.den=(G i).natAbs:=t;have:=w i;rw[<-t]at this;exact DL (cq _ a.den_pos) this
theorem AS.bound{f:Pq}{ns:List Int}{m:Nat}(H:AS f)(d:DQ (cz ns) f)(l:ns.length<=m+1)(a:0<ns.length)(b:ns.getD (ns.length -1) 0≠0)(one:∀d:Int,(∀x∈ns,d∣x)->d∣1):∀x∈ns,x.natAbs<=48^m:=by have h:=H.dvd d;rw[<-nH ns]at h;have:=AS.Lm m (ns.map λx:Int=>(x:Rat)) (by rw[AN];exact l) (jv b) (λz=>by have:=PQ Qf z;rw[AN]at this;simp at this;rw[this]at a;cases a) h;rw[nH]at this;exact this.prim (κ:=1) (by decide) (λk=>(kA _).symm) one
structure Pr(ns:List Int):Prop where
 l0:0<ns.length
 z:ns.getD (ns.length -1) 0≠0
 one:∀d:Int,(∀x∈ns,d∣x)->d∣1
theorem Pr.Oi{ns g:List Int}(a:Pr ns)(b:Pr g)(d:DQ (cz g) (cz ns)):∃Z,Pr Z/\ns.length+1=Z.length+g.length/\(∀k,ns.getD k 0=bU (co Z) (co g) k)/\cz ns=aD (cz Z) (cz g):=by
 obtain⟨Z,f,l,e,h⟩:=pW a.l0 a.z b.l0 b.z b.one d;refine⟨Z,⟨f,λz=>a.z (by rw[h,z,Ta]),λt n=>a.one t λx m=>?_⟩,l,e,?_⟩
 .obtain⟨i,o,rfl⟩:=SU.mp m;have:=e i;rw[AC,BM o]at this;have this:ns[i]=bU (co Z) (co g) i:=this;rw[this];refine vH _ λj _=>oI ?_;show t∣Z.getD j 0;rw[AC];by_cases c:j<Z.length
  .rw[BM c];exact n _ (Kx c)
  .rw[FK (by lia)];exact a9 t
 .rw[czF];exact funext λk=>PQ _ (e k)
theorem Pr.Lk{ns:List Int}(h:Pr ns):¬Z0 (cz ns):=λz=>h.z (by have:((ns.getD (ns.length -1) 0:Int):Rat)=0:=z _;exact_mod_cast this)
theorem Val.VI{p f:Pq}{e:Nat}(c:Rat)(g:c≠0)(h:Val p f e):Val p (λk=>c*f k) e:=by obtain⟨s,b,rfl,a⟩:=h;exact⟨λk=>c*s k,Fin.VI c b,(Lf c _ _).symm,λd=>a (DQ.Aq g d)⟩
noncomputable def mq(Z:List Int):List Rat:=aY (Z.map λx=>BK x (Z.getD (Z.length -1) 0))
theorem G3{Z:List Int}(k:Nat):cQ (mq Z) k=((Z.getD (Z.length -1) 0:Int):Rat)⁻¹*cz Z k:=by
 show(aY _).getD k 0=_*((Z.getD k 0:Int):Rat);rw[iU,AC,Dx,AC (l:=Z) (i:=k)];cases Z[k]? with
 |none=>exact(HI _).symm
 |some y=>show BK y _=_*(y:Rat);rw[TK,WC,oP]
theorem QD{Z:List Int}(h:Pr Z):Mon (mq Z)/\(mq Z).length=Z.length:=by
 have q:((Z.getD (Z.length -1) 0:Int):Rat)≠0:=λz=>h.z (by exact_mod_cast z);have top:cQ (mq Z) (Z.length -1)=1:=by rw[G3];exact Xt _ q
 have b:Z.length -1<(mq Z).length:=rh λc=>by rw[show cQ (mq Z) (Z.length -1)=0 from cS c]at top;exact absurd top (by decide)
 have a:mq Z≠[]:=λz=>by rw[z]at b;cases b
 have d:ao (mq Z):=b9 _;have e:¬Z.length<=(mq Z).length -1:=λc=>bE d a (by show cQ (mq Z) _=0;rw[G3];show _*((Z.getD _ 0:Int):Rat)=0;rw[outI c];exact HI _);have l0:=h.l0;have l:(mq Z).length=Z.length:=by lia
 exact⟨⟨a,by rw[l];exact top⟩,l⟩
structure G4(f:Pq)(k:Nat)(L B:List Int)(l:List (List Rat×Nat)):Prop where
 pl:Pr L
 pb:Pr B
 t:Tn f k (cz L) (cz B)
 d1:DQ (cz L) f
 d2:DQ (cz B) f
 p:E4 f k l
 k0:1<=k
theorem isg{ns e g:List Int}(c:∀d,DQ d (cz g)↔DQ d (cz ns)/\DQ d (cz e)):QC (cz ns) (cz e) (cz g):=
 ⟨ju g,((c _).mp (DQ.refl _)).1,((c _).mp (DQ.refl _)).2,λd a b=>(c d).mpr ⟨a,b⟩⟩
theorem G4.step{f:Pq}{k:Nat}{L B g:List Int}{l:List (List Rat×Nat)}(T:G4 f k L B l)(h:Pr g)(j:∀d,DQ d (cz g)↔DQ d (cz L)/\DQ d (cz B)):∃Z a:List Int,(Pr Z/\L.length+1=Z.length+g.length/\(∀k,L.getD k 0=bU (co Z) (co g) k)/\DQ (cz Z) f)/\(Pr a/\B.length+1=a.length+g.length/\(∀k,B.getD k 0=bU (co a) (co g) k)/\DQ (cz a) f)/\(Z.length<2->G4 f (k+1) g a l)/\(2<=Z.length->G4 f (k+1) g a (l++[(mq Z,k)])):=by
 have G:=isg j;obtain⟨Z,b,w,C,o⟩:=T.pl.Oi h G.l;obtain⟨Y,i,x,D,s⟩:=T.pb.Oi h G.r;obtain⟨t,_,v⟩:=T.t.step G (ju Z) o (ju Y) s;have E:DQ (cz Z) f:=DQ.trans (by rw[o];exact DQ.VH (ju g)) T.d1;have n:DQ (cz Y) f:=DQ.trans (by rw[s];exact DQ.VH (ju g)) T.d2;refine⟨Z,Y,⟨b,w,C,E⟩,⟨i,x,D,n⟩,λc=>⟨h,i,t,G.l.trans T.d1,n,T.p.skip (part:=cz Z) ?_ v,oT T.k0⟩,λc=>⟨h,i,t,G.l.trans T.d1,n,T.p.more T.k0 ?_,oT T.k0⟩⟩
 .rw[<-nH Z];exact gw (jv b.z) (λz=>by have:=PQ Qf z;rw[AN]at this;have l0:=b.l0;simp at this;rw[this]at l0;cases l0) (by rw[AN];exact c)
 .obtain⟨m,u⟩:=QD b;refine⟨m,by rw[u];exact c,λp y e A=>?_⟩;have q:((Z.getD (Z.length -1) 0:Int):Rat)≠0:=λz=>b.z (by exact_mod_cast z);have:=(v p y e A).VI (((Z.getD (Z.length -1) 0:Int):Rat)⁻¹) (λz=>by have t:=Xt _ q;rw[z,TC]at t;exact absurd t (by decide));rw[show cQ (mq Z)=_ from funext G3];exact this
theorem G4.end{f:Pq}{k:Nat}{L B:List Int}{l:List (List Rat×Nat)}(T:G4 f k L B l)(h:L.length<2):iX f l:=
 T.p.end T.t (by rw[<-nH L];exact gw (jv T.pl.z) (λz=>by have:=PQ Qf z;rw[AN]at this;have l0:=T.pl.l0;simp at this;rw[this]at l0;cases l0) (by rw[AN];exact h))
theorem QE(ns:List Int):jk (cz ns)=cz (gG ns):=funext λk=>by
 show((k+1:Nat):Rat)*((ns.getD (k+1) 0:Int):Rat)=(((gG ns).getD k 0:Int):Rat);rw[mz]
 push_cast
 rfl
theorem G4.start{ns g:List Int}(e:Pr ns)(f:Pr g)(a:∀d,DQ d (cz g)↔DQ d (cz ns)/\DQ d (cz (gG ns))):∃Z:List Int,Pr Z/\ns.length+1=Z.length+g.length/\(∀k,ns.getD k 0=bU (co Z) (co g) k)/\G4 (cz ns) 1 Z g []:=by have G:=isg a;obtain⟨Z,c,h,i,b⟩:=e.Oi f G.l;refine⟨Z,c,h,i,c,f,Tn.start e.Lk (by rw[QE];exact G) (ju Z) b,?_,G.l,E4.start _,Da 1⟩;rw[b];exact DQ.VH (ju g)
theorem Lo{ns:List Int}(h:ns.length=1)(d:Pq):DQ d (cz ns)↔DQ d (cz ns)/\DQ d (cz (gG ns)):=by have:gG ns=[]:=Hn.mp (by rw[dI,h]);rw[this];exact⟨λx=>⟨x,(DQ.zero d).ext λk=>rfl⟩,λx=>x.1⟩
theorem G5{p f:Pq}{e:Nat}{c:Rat}(a:c≠0)(h:Val p (λk=>c*f k) e):Val p f e:=by
 have b:c⁻¹≠0:=λz=>by have t:=Xt _ a;rw[z,TC]at t;exact absurd t (by decide)
 have:=h.VI _ b;have d:(λk=>c⁻¹*(c*f k))=f:=funext λk=>by rw[<-dC,Xt _ a,kA]
 rw[d]at this;exact this
theorem iX.sc{f:Pq}{l:List (List Rat×Nat)}{c:Rat}(d:c≠0)(h:iX f l):iX (λk=>c*f k) l:=
 ⟨h.up,λx n=>by obtain⟨m,j,i,g⟩:=h.pt x n;exact⟨m,j,i,λp a e b=>g p a e (G5 d b)⟩,λp a e b o=>h.all p a e (G5 d b) o⟩
theorem p48:48^14<2^79:=by decide
theorem AS.Lp{f:Pq}{ns:List Int}(H:AS f)(d:DQ (cz ns) f)(l:ns.length<=15)(h:Pr ns):∀x∈ns,x.natAbs<2^79:=λx a=>GM (H.bound (m:=14) d l h.l0 h.z h.one x a) p48
theorem Zd{a b:Nat}(d:a<=15)(c:b<=15):(a -1+(b -1)+1)*2^79<=2^84:=DL (NA _ (show _<=32 by lia)) (by decide)
end Num
namespace VL
open PySem PySem.Spec PyProof.Rows L2
theorem ff{C:Prop}(h:false=true):C:=Bool.noConfusion h
theorem nn{α:Type}{a:α}{C:Prop}(h:none=some a):C:=Option.noConfusion rfl (heq_of_eq h)
inductive W where
 |aW|bl (b:Bool)|int (i:Int)|str (x:Str)|ty (n:String)|cls (C:Addr)|err (C:Addr)
 |tup (l:List W)|lst (l:List W)|dct (ks vs:List W)|obj (C:Addr) (fs:List Str) (vs:List W)|di (ns:List Int)
theorem W.Cm{a b:Int}(h:W.int a=.int b):a=b:=by cases h;rfl
theorem W.VN{a b:List W}(h:W.tup a=.tup b):a=b:=by cases h;rfl
theorem W.Cn{a b:List W}(h:W.lst a=.lst b):a=b:=by cases h;rfl
noncomputable def D8:HO->Bool
 |.lst _|.ins _ _ _|.dK _|.dT _|.set _ _=>true
 |_=>false
noncomputable def Ze:Key->W
 |.inl i=>.int i
 |.inr x=>.str x
noncomputable def Ar(K:Frag)(C:Addr)(a:List Str):Prop:=Kn K C/\a.length<1000/\a.Nodup/\∀x∈a,kN K C x
mutual
noncomputable def Rep(K:Frag)(A:Addr->Prop)(H:Hp):W->V->Prop
 |.aW,v=>v=.aW
 |.bl b,v=>v=.bl b
 |.int i,v=>v=.int i
 |.str x,v=>v=.str x
 |.ty n,v=>v=.ty n
 |.cls C,v=>v=.ref C
 |.err C,v=>∃a,v=.ref a/\H a=some (DK a C)/\¬A a
 |.tup l,v=>∃p vs,v=.ref p/\H p=some (.tup vs)/\au K A H l vs
 |.lst l,v=>∃p vs,v=.ref p/\¬A p/\Rd H p (.lst vs)/\au K A H l vs
 |.dct f d,v=>∃p c,v=.ref p/\¬A p/\H p=some (.dK c)/\f=c.map (λx=>Ze x.1)/\au K A H d (c.map (·.2))
 |.obj C e d,v=>∃p g vs,v=.ref p/\¬A p/\H p=some (.ins C g (e.zip vs))/\vs.length=e.length/\Ar K C e/\au K A H d vs
 |.di ns,v=>∃p,v=.ref p/\((∃o,H p=some (.xS o (.lst (ns.map V.int))))\/iN K (λ_=>none) p (ns.map V.int))
noncomputable def au(K:Frag)(A:Addr->Prop)(H:Hp):List W->List V->Prop
 |[],vs=>vs=[]
 |w::a,vs=>∃v r,vs=v::r/\Rep K A H w v/\au K A H a r
end
section
variable{K:Frag}{A B:Addr->Prop}{H H':Hp}
theorem aE.rd{p:Addr}{u:HO}(s:aE H H')(h:Rd H p u):Rd H' p u:=by
 rcases h with h|⟨o,h⟩
 .exact .inl (s _ _ h)
 .exact .inr ⟨o,s _ _ h⟩
noncomputable def xM(B:Addr->Prop)(H H':Hp):Prop:=∀p o,H p=some o->(D8 o=true/\B p)\/H' p=some o
theorem xM.un{p:Addr}{o:HO}(h:xM A H H')(e:H p=some o)(n:D8 o=true->¬A p):H' p=some o:=by
 rcases h p o e with⟨z,y⟩|z
 .exact(n z y).elim
 .exact z
mutual
theorem Rep.chg(h:xM A H H')(d:∀p o,H p=some o->B p->A p):∀(w:W){v:V},Rep K A H w v->Rep K B H' w v
 |.aW,_,r=>by dsimp only[Rep]at r⊢;exact r
 |.bl _,_,r=>by dsimp only[Rep]at r⊢;exact r
 |.int _,_,r=>by dsimp only[Rep]at r⊢;exact r
 |.str _,_,r=>by dsimp only[Rep]at r⊢;exact r
 |.ty _,_,r=>by dsimp only[Rep]at r⊢;exact r
 |.cls _,_,r=>by dsimp only[Rep]at r⊢;exact r
 |.err C,v,r=>by obtain⟨a,e,b,c⟩:=r;exact⟨a,e,h.un b (λz=>by cases z),λz=>c (d a _ b z)⟩
 |.tup l,v,r=>by obtain⟨p,f,e,b,c⟩:=r;exact⟨p,f,e,h.un b (λz=>by cases z),au.chg h d l c⟩
 |.lst l,v,r=>by
  dsimp only[Rep]at r⊢;obtain⟨p,f,e,n,b,c⟩:=r;refine⟨p,f,e,λz=>?_,?_,au.chg h d l c⟩
  .rcases b with b|⟨o,b⟩<;>exact n (d p _ b z)
  .rcases b with b|⟨o,b⟩
   .exact .inl (h.un b λ_=>n)
   .exact .inr ⟨o,h.un b λz=>by cases z⟩
 |.dct s g,v,r=>by obtain⟨p,i,e,n,b,c,j⟩:=r;exact⟨p,i,e,λz=>n (d p _ b z),h.un b λ_=>n,c,au.chg h d g j⟩
 |.obj C t g,v,r=>by obtain⟨p,m,f,e,n,b,c,k,j⟩:=r;exact⟨p,m,f,e,λz=>n (d p _ b z),h.un b λ_=>n,c,k,au.chg h d g j⟩
 |.di q,v,r=>by obtain⟨p,e,b⟩:=r;exact⟨p,e,b.imp (by rintro⟨o,z⟩;exact⟨o,h.un z λz=>by cases z⟩) id⟩
theorem au.chg(h:xM A H H')(a:∀p o,H p=some o->B p->A p):∀(l:List W){vs:List V},au K A H l vs->au K B H' l vs
 |[],_,r=>by dsimp only[au]at r⊢;exact r
 |w::l,vs,r=>by obtain⟨v,b,e,d,c⟩:=r;exact⟨v,b,e,Rep.chg h a w d,au.chg h a l c⟩
end
theorem xM.same(s:aE H H'):xM A H H':=λ_ _ e=>.inr (s _ _ e)
theorem xM.put{p:Addr}{a o:HO}(b:H p=some a)(c:D8 a=true)(d:A p):xM A H (upd H p o):=λq u e=>by
 by_cases n:q=p
 .subst n;rw[b]at e;cases e;exact .inl ⟨c,d⟩
 .exact .inr (by rw[aq n];exact e)
theorem Rep.mv(s:aE H H')(a:∀p o,H p=some o->B p->A p)(w:W){v:V}(h:Rep K A H w v):Rep K B H' w v:=Rep.chg (.same s) a w h
theorem au.mv(s:aE H H')(a:∀p o,H p=some o->B p->A p)(l:List W){vs:List V}(h:au K A H l vs):au K B H' l vs:=au.chg (.same s) a l h
theorem Rep.same{w:W}{v:V}(s:aE H H')(h:Rep K A H w v):Rep K A H' w v:=Rep.mv s (λ_ _ _ z=>z) w h
theorem au.same{l:List W}{vs:List V}(s:aE H H')(h:au K A H l vs):au K A H' l vs:=au.mv s (λ_ _ _ z=>z) l h
theorem Rep.less{w:W}{v:V}(a:∀p,B p->A p)(h:Rep K A H w v):Rep K B H w v:=Rep.mv (aE.refl H) (λp _ _ z=>a p z) w h
theorem au.less{l:List W}{vs:List V}(a:∀p,B p->A p)(h:au K A H l vs):au K B H l vs:=au.mv (aE.refl H) (λp _ _ z=>a p z) l h
theorem au.put{p:Addr}{a:List V}{o:HO}(b:H p=some (.lst a))(c:A p)(l:List W){vs:List V}(h:au K A H l vs):au K A (upd H p o) l vs:=au.chg (.put b rfl c) (λ_ _ _ z=>z) l h
theorem au.nil:au K A H [] []:=by dsimp only[au]
theorem au.cons{w:W}{v:V}{l:List W}{vs:List V}(b:Rep K A H w v)(a:au K A H l vs):au K A H (w::l) (v::vs):=by dsimp only[au];exact⟨v,vs,rfl,b,a⟩
theorem au.nil_inv{vs:List V}(h:au K A H [] vs):vs=[]:=by dsimp only[au]at h;exact h
theorem au.cons_inv{w:W}{l:List W}{vs:List V}(h:au K A H (w::l) vs):∃v r,vs=v::r/\Rep K A H w v/\au K A H l r:=by dsimp only[au]at h;exact h
theorem au.len:∀{l:List W}{vs:List V},au K A H l vs->vs.length=l.length
 |[],vs,h=>by rw[h.nil_inv];rfl
 |w::l,vs,h=>by obtain⟨v,r,rfl,_,a⟩:=h.cons_inv;rw[CY,CY,a.len]
theorem au.app:∀{l m:List W}{vs us:List V},au K A H l vs->au K A H m us->au K A H (l++m) (vs++us)
 |[],m,vs,us,h,k=>by rw[h.nil_inv];exact k
 |w::l,m,vs,us,h,k=>by obtain⟨v,r,rfl,b,a⟩:=h.cons_inv;exact .cons b (a.app k)
theorem au.get:∀{l:List W}{vs:List V}{i:Nat}{w:W},au K A H l vs->l[i]?=some w->∃v,vs[i]?=some v/\Rep K A H w v
 |[],_,_,_,_,e=>by simp at e
 |x::l,vs,0,w,h,e=>by obtain⟨v,r,rfl,b,a⟩:=h.cons_inv;simp at e;subst e;exact⟨v,rfl,b⟩
 |x::l,vs,i+1,w,h,e=>by obtain⟨v,r,rfl,b,a⟩:=h.cons_inv;obtain⟨u,d,c⟩:=a.get (i:=i) (by simpa using e);exact⟨u,by simpa using d,c⟩
theorem au.set:∀{l:List W}{vs:List V}{i:Nat}{w:W}{v:V},au K A H l vs->Rep K A H w v->au K A H (l.set i w) (vs.set i v)
 |[],_,_,_,_,h,_=>by rw[h.nil_inv];exact .nil
 |x::l,vs,0,w,v,h,e=>by obtain⟨c,r,rfl,b,a⟩:=h.cons_inv;exact .cons e a
 |x::l,vs,i+1,w,v,h,e=>by obtain⟨c,r,rfl,b,a⟩:=h.cons_inv;exact .cons b (a.set e)
theorem au.take:∀{l:List W}{vs:List V}(n:Nat),au K A H l vs->au K A H (l.take n) (vs.take n)
 |_,_,0,_=>.nil
 |[],vs,n+1,h=>by rw[h.nil_inv];exact .nil
 |x::l,vs,n+1,h=>by obtain⟨c,r,rfl,b,a⟩:=h.cons_inv;exact .cons b (a.take n)
theorem au.drop:∀{l:List W}{vs:List V}(n:Nat),au K A H l vs->au K A H (l.drop n) (vs.drop n)
 |_,_,0,h=>h
 |[],vs,n+1,h=>by rw[h.nil_inv];exact .nil
 |x::l,vs,n+1,h=>by obtain⟨b,r,rfl,c,a⟩:=h.cons_inv;exact a.drop n
theorem au.dropLast{l:List W}{vs:List V}(h:au K A H l vs):au K A H l.dropLast vs.dropLast:=by rw[b3,b3,h.len];exact h.take _
theorem au.rep{l:List W}{vs:List V}(h:au K A H l vs):∀n:Nat,au K A H (A0 n l).flatten (A0 n vs).flatten
 |0=>.nil
 |n+1=>by rw[G8,G8,KD,KD];exact h.app (h.rep n)
theorem au.ints{ns:List Int}:∀{vs:List V},au K A H (ns.map W.int) vs->vs=ns.map V.int:=by
 induction ns with
 |nil=>intro vs h;exact h.nil_inv
 |cons n ns b=>intro vs h;obtain⟨v,r,rfl,a,c⟩:=h.cons_inv;dsimp only[Rep]at a;rw[a,b c];rfl
theorem au.Lq(ns:List Int):au K A H (ns.map W.int) (ns.map V.int):=by
 induction ns with
 |nil=>exact .nil
 |cons n ns a=>exact .cons (by dsimp only[Rep]) a
theorem au.bls{bs:List Bool}:∀{vs:List V},au K A H (bs.map W.bl) vs->vs=bs.map V.bl:=by
 induction bs with
 |nil=>intro vs h;exact h.nil_inv
 |cons n d b=>intro vs h;obtain⟨v,r,rfl,a,c⟩:=h.cons_inv;dsimp only[Rep]at a;rw[a,b c];rfl
end
end VL
set_option genSizeOf false
set_option genInjectivity false
namespace VL
open PySem PySem.Spec
open PyProof.Rows hiding St
open L2
inductive Md where
 |s|f|t (ms:List Md)|o (fs:List Str) (ms:List Md)
 |io (m:Md)
 |ls (m:Md)
noncomputable def fR(P:W->V->List Addr->Prop):List W->List V->List Addr->Prop
 |[],vs,F=>vs=[]/\F=[]
 |w::d,vs,F=>∃v a c b,vs=v::a/\F=c++b/\P w v c/\fR P d a b
mutual
noncomputable def Fp(K:Frag)(B:Addr->Prop)(H:Hp):Md->W->V->List Addr->Prop
 |.s,w,v,F=>F=[]/\Rep K B H w v
 |.f,w,v,F=>∃a p vs,w=.lst a/\v=.ref p/\F=[p]/\H p=some (.lst vs)/\au K B H a vs
 |.t c,w,v,F=>∃a p vs,w=.tup a/\v=.ref p/\H p=some (.tup vs)/\fk K B H c a vs F
 |.o b c,w,v,F=>∃C d a p vs F',w=.obj C b a/\v=.ref p/\F=p::F'/\H p=some (.ins C d (b.zip vs))/\vs.length=b.length/\Ar K C b/\fk K B H c a vs F'
 |.io _,_,_,_=>False
 |.ls m,w,v,F=>∃a p vs F',w=.lst a/\v=.ref p/\F=p::F'/\H p=some (.lst vs)/\fR (Fp K B H m) a vs F'
noncomputable def fk(K:Frag)(B:Addr->Prop)(H:Hp):List Md->List W->List V->List Addr->Prop
 |[],b,vs,F=>b=[]/\vs=[]/\F=[]
 |m::f,b,vs,F=>∃w c v a e d,b=w::c/\vs=v::a/\F=e++d/\Fp K B H m w v e/\fk K B H f c a d
end
theorem fR.mono{P Q:W->V->List Addr->Prop}:∀{a:List W}{vs:List V}{F:List Addr},(∀w v F',(∀p∈F',p∈F)->P w v F'->Q w v F')->fR P a vs F->fR Q a vs F
 |[],_,_,_,h=>h
 |w::a,vs,F,k,⟨v,b,e,j,i,d,g,f⟩=>⟨v,b,e,j,i,d,k w v e (λp c=>by rw[d];exact QR _ c) g,fR.mono (λw v F' h=>k w v F' λp c=>by rw[d];exact IR _ (h p c)) f⟩
theorem fR.len{P:W->V->List Addr->Prop}:∀{a:List W}{vs:List V}{F:List Addr},fR P a vs F->vs.length=a.length
 |[],_,_,h=>by rw[h.1];rfl
 |w::a,vs,F,⟨v,b,i,g,d,f,e,c⟩=>by rw[d,CY,CY,fR.len c]
theorem fR.app{P:W->V->List Addr->Prop}:∀{b us:List W}{vs a:List V}{F G:List Addr},fR P b vs F->fR P us a G->fR P (b++us) (vs++a) (F++G)
 |[],us,vs,a,F,G,⟨e,d⟩,k=>by rw[e,d];exact k
 |w::b,us,vs,a,F,G,⟨v,c,i,h,e,d,g,f⟩,k=>⟨v,c++a,i,h++G,by rw[e];rfl,by rw[d,SL],g,fR.app f k⟩
noncomputable def qU(B G:Addr->Prop)(H H':Hp):Prop:=∀p o,H p=some o->(D8 o=true/\B p/\¬G p)\/H' p=some o
section
variable{K:Frag}{A B G:Addr->Prop}{H H':Hp}
theorem qU.c(h:qU A G H H'):xM A H H':=λp o e=>(h p o e).imp (λz=>⟨z.1,z.2.1⟩) id
theorem qU.un{p:Addr}{o:HO}(h:qU A G H H')(e:H p=some o)(g:D8 o=true->G p):H' p=some o:=by
 rcases h p o e with⟨z,_,y⟩|z
 .exact(y (g z)).elim
 .exact z
mutual
theorem Fp.chg(h:qU A G H H')(k:∀p o,H p=some o->B p->A p):∀(m:Md){w:W}{v:V}{F:List Addr},(∀p∈F,G p)->Fp K A H m w v F->Fp K B H' m w v F
 |.s,w,v,F,a,r=>by dsimp only[Fp]at r⊢;exact⟨r.1,Rep.chg h.c k w r.2⟩
 |.f,w,v,F,a,r=>by obtain⟨d,p,vs,j,i,b,g,e⟩:=r;exact⟨d,p,vs,j,i,b,h.un g (λ_=>a p (by rw[b];exact FC)),au.chg h.c k d e⟩
 |.t l,w,v,F,a,r=>by obtain⟨d,p,vs,j,i,g,e⟩:=r;exact⟨d,p,vs,j,i,h.un g (λz=>by cases z),fk.chg h k l a e⟩
 |.o I l,w,v,F,a,r=>by obtain⟨C,E,d,p,vs,u,j,i,b,g,e,x,D⟩:=r;exact⟨C,E,d,p,vs,u,j,i,b,h.un g (λ_=>a p (by rw[b];exact FC)),e,x,fk.chg h k l (λq n=>a q (by rw[b];exact Ee _ n)) D⟩
 |.io _,w,v,F,a,r=>Ew r
 |.ls m,w,v,F,a,r=>by obtain⟨d,p,vs,u,j,i,b,g,e⟩:=r;exact⟨d,p,vs,u,j,i,b,h.un g (λ_=>a p (by rw[b];exact FC)),e.mono λw v G y z=>Fp.chg h k m (λq n=>a q (by rw[b];exact Ee _ (y q n))) z⟩
theorem fk.chg(h:qU A G H H')(f:∀p o,H p=some o->B p->A p):∀(a:List Md){b:List W}{vs:List V}{F:List Addr},(∀p∈F,G p)->fk K A H a b vs F->fk K B H' a b vs F
 |[],_,_,_,_,r=>by dsimp only[fk]at r⊢;exact r
 |m::a,b,vs,F,g,r=>by obtain⟨w,i,v,c,s,q,n,l,e,k,j⟩:=r;exact⟨w,i,v,c,s,q,n,l,e,Fp.chg h f m (λp d=>g p (by rw[e];exact QR _ d)) k,fk.chg h f a (λp d=>g p (by rw[e];exact IR _ d)) j⟩
end
theorem qU.same(s:aE H H'):qU A (λ_=>True) H H':=λ_ _ e=>.inr (s _ _ e)
theorem Fp.mv(s:aE H H')(a:∀p o,H p=some o->B p->A p)(m:Md){w:W}{v:V}{F:List Addr}(h:Fp K A H m w v F):Fp K B H' m w v F:=Fp.chg (.same s) a m (λ_ _=>trivial) h
theorem fk.mv(s:aE H H')(b:∀p o,H p=some o->B p->A p)(a:List Md){w:List W}{v:List V}{F:List Addr}(h:fk K A H a w v F):fk K B H' a w v F:=fk.chg (.same s) b a (λ_ _=>trivial) h
mutual
theorem Fp.rep(i:∀p,B p->A p):∀(m:Md){w:W}{v:V}{F:List Addr},(∀p∈F,¬B p)->Fp K A H m w v F->Rep K B H w v
 |.s,w,v,F,a,h=>by dsimp only[Fp]at h;exact h.2.less i
 |.f,w,v,F,a,h=>by obtain⟨b,p,vs,rfl,rfl,rfl,d,c⟩:=h;exact⟨p,vs,rfl,a p (Fu.mpr rfl),.inl d,c.less i⟩
 |.t k,w,v,F,a,h=>by obtain⟨b,p,vs,rfl,rfl,d,c⟩:=h;exact⟨p,vs,rfl,d,fk.rep i k a c⟩
 |.o z k,w,v,F,a,h=>by obtain⟨C,x,b,p,vs,g,rfl,rfl,rfl,d,c,n,r⟩:=h;exact⟨p,x,vs,rfl,a p FC,d,c,n,fk.rep i k (λq e=>a q (Ee _ e)) r⟩
 |.io _,w,v,F,a,h=>Ew h
 |.ls m,w,v,F,a,h=>by
  obtain⟨b,p,vs,g,rfl,rfl,rfl,d,c⟩:=h;dsimp only[Rep];have u:∀(b:List W)(vs:List V)(g:List Addr),(∀q∈g,¬B q)->fR (Fp K A H m) b vs g->au K B H b vs:=λb=>by
   induction b with
   |nil=>rintro vs g _ ⟨rfl,_⟩;exact .nil
   |cons w b l=>rintro vs g a ⟨v,j,D,y,rfl,rfl,d,c⟩;exact .cons (Fp.rep i m (λq e=>a q (QR _ e)) d) (l j y (λq e=>a q (IR _ e)) c)
  exact⟨p,vs,rfl,a p FC,.inl d,u b vs g (λq e=>a q (Ee _ e)) c⟩
theorem fk.rep(e:∀p,B p->A p):∀(b:List Md){a:List W}{vs:List V}{F:List Addr},(∀p∈F,¬B p)->fk K A H b a vs F->au K B H a vs
 |[],_,_,_,_,h=>by obtain⟨rfl,rfl,_⟩:=h;exact .nil
 |m::b,a,vs,F,d,h=>by obtain⟨w,j,v,f,l,k,rfl,rfl,rfl,i,g⟩:=h;exact .cons (Fp.rep e m (λp c=>d p (QR _ c)) i) (fk.rep e b (λp c=>d p (IR _ c)) g)
end
mutual
theorem Fp.mu:∀(m:Md){w:W}{v:V}{F:List Addr},Fp K A H m w v F->∀p∈F,∃o,H p=some o/\D8 o=true
 |.s,w,v,F,h,p,a=>by dsimp only[Fp]at h;rw[h.1]at a;cases a
 |.f,w,v,F,h,p,a=>by obtain⟨b,q,vs,_,_,rfl,c,_⟩:=h;rw[Fu.mp a];exact⟨_,c,rfl⟩
 |.t g,w,v,F,h,p,a=>by obtain⟨b,q,vs,_,_,c,j⟩:=h;exact fk.mu g j p a
 |.o r g,w,v,F,h,p,a=>by
  obtain⟨C,u,b,q,vs,d,_,_,rfl,c,_,_,i⟩:=h;rcases Fn.mp a with rfl|a
  .exact⟨_,c,rfl⟩
  .exact fk.mu g i p a
 |.io _,w,v,F,h,p,a=>Ew h
 |.ls m,w,v,F,h,p,a=>by
  obtain⟨b,q,vs,d,_,_,rfl,c,i⟩:=h;have l:∀(b:List W)(vs:List V)(d:List Addr),fR (Fp K A H m) b vs d->∀p∈d,∃o,H p=some o/\D8 o=true:=λb=>by
   induction b with
   |nil=>rintro vs d ⟨_,rfl⟩ p a;cases a
   |cons w b k=>
    rintro vs d ⟨v,e,x,n,rfl,rfl,c,j⟩ p a;rcases Hb.mp a with a|a
    .exact Fp.mu m c p a
    .exact k e n j p a
  rcases Fn.mp a with rfl|a
  .exact⟨_,c,rfl⟩
  .exact l b vs d i p a
theorem fk.mu:∀(b:List Md){c:List W}{vs:List V}{F:List Addr},fk K A H b c vs F->∀p∈F,∃o,H p=some o/\D8 o=true
 |[],_,_,_,h,p,a=>by dsimp only[fk]at h;rw[h.2.2]at a;cases a
 |m::b,c,vs,F,h,p,a=>by
  obtain⟨w,g,v,d,j,i,_,_,rfl,f,e⟩:=h;rcases Hb.mp a with a|a
  .exact Fp.mu m f p a
  .exact fk.mu b e p a
end
inductive nI where
 |ix (n:Nat)|fl (n:Nat) (x:Str)
noncomputable def cW:W->List nI->Option W
 |w,[]=>some w
 |.tup l,.ix n::π=>match l[n]? with
  |some u=>cW u π
  |none=>none
 |.lst l,.ix n::π=>match l[n]? with
  |some u=>cW u π
  |none=>none
 |.obj _ _ l,.fl n _::π=>match l[n]? with
  |some u=>cW u π
  |none=>none
 |_,_=>none
noncomputable def setAt:W->List nI->W->W
 |_,[],u=>u
 |.tup l,.ix n::π,u=>match l[n]? with
  |some x=>.tup (l.set n (setAt x π u))
  |none=>.tup l
 |.lst l,.ix n::π,u=>match l[n]? with
  |some x=>.lst (l.set n (setAt x π u))
  |none=>.lst l
 |.obj C a l,.fl n _::π,u=>match l[n]? with
  |some x=>.obj C a (l.set n (setAt x π u))
  |none=>.obj C a l
 |w,_,_=>w
noncomputable def kg:Md->List nI->Option Md
 |m,[]=>some m
 |.t a,.ix n::π=>match a[n]? with
  |some m=>kg m π
  |none=>none
 |.o b a,.fl n x::π=>if b[n]?=some x then(match a[n]? with
  |some m=>kg m π
  |none=>none)else none
 |.ls m,.ix _::π=>kg m π
 |_,_=>none
noncomputable def xN(K:Frag)(H:Hp):V->List nI->V->Prop
 |v,[],u=>u=v
 |v,.ix n::π,u=>∃p vs x,v=.ref p/\(H p=some (.tup vs)\/H p=some (.lst vs))/\vs[n]?=some x/\xN K H x π u
 |v,.fl n f::π,u=>∃p vs x,v=.ref p/\(∃(C b:Addr)(a:List Str),H p=some (.ins C b (a.zip vs))/\vs.length=a.length/\Ar K C a/\a[n]?=some f)/\vs[n]?=some x/\xN K H x π u
theorem jy{α:Type}:∀{l:List α}{n:Nat}{x:α},l[n]?=some x->l.set n x=l
 |[],_,_,e=>by cases e
 |y::l,0,x,e=>by cases e;rfl
 |y::l,n+1,x,e=>by rw[dH,jy (by simpa using e)]
theorem fk.at:∀(j:List Md){l:List W}{vs:List V}{F:List Addr}{n:Nat}{m:Md}{w:W},fk K A H j l vs F->j[n]?=some m->l[n]?=some w->
 ∃v d F' k,vs[n]?=some v/\F=d++F'++k/\Fp K A H m w v F'/\∀(H':Hp)(B:Addr->Prop) w' g i,Fp K B H' m w' g i->qU A (·∈d++k) H H'->(∀p o,H p=some o->B p->A p)->fk K B H' j (l.set n w') (vs.set n g) (d++i++k)
 |[],_,_,_,n,m,w,_,e,_=>by cases e
 |m0::j,l,vs,F,0,m,w,h,E,D=>by obtain⟨I,s,v,f,d,k,rfl,rfl,rfl,y,x⟩:=h;cases E;cases D;refine⟨v,[],d,k,rfl,by simp,y,λH' B w' g i C q r=>?_⟩;exact⟨w',s,g,f,i,k,rfl,rfl,by simp,C,fk.chg q r j (λp t=>by simpa using t) x⟩
 |m0::j,l,vs,F,n+1,m,w,h,E,D=>by obtain⟨I,s,v,f,d,k,rfl,rfl,rfl,y,x⟩:=h;obtain⟨u,L,P,J,O,rfl,N,M⟩:=fk.at j x (n:=n) (by simpa using E) (by simpa using D);refine⟨u,d++L,P,J,by simpa using O,by simp,N,λH' B w' g i C q r=>?_⟩;refine⟨I,s.set n w',v,f.set n g,d,L++i++J,rfl,rfl,by simp,Fp.chg q r m0 (λp t=>by simp[t]) y,M H' B w' g i C (λp o e=>(q p o e).imp (λ⟨a,b,c⟩=>⟨a,b,λz=>c ?_⟩) id) r⟩;rcases Hb.mp z with z|z<;>simp[z]
theorem fR.at{m:Md}:∀{q:List W}{vs:List V}{F:List Addr}{n:Nat}{w:W},fR (Fp K A H m) q vs F->q[n]?=some w->
 ∃v d F' j,vs[n]?=some v/\F=d++F'++j/\Fp K A H m w v F'/\∀(H':Hp)(B:Addr->Prop) w' g i,Fp K B H' m w' g i->qU A (·∈d++j) H H'->(∀p o,H p=some o->B p->A p)->fR (Fp K B H' m) (q.set n w') (vs.set n g) (d++i++j)
 |[],_,_,n,w,_,e=>by cases e
 |w0::L,vs,F,0,w,h,y=>by obtain⟨v,f,d,j,rfl,rfl,t,s⟩:=h;cases y;refine⟨v,[],d,j,rfl,by simp,t,λH' B w' g i x k l=>?_⟩;exact⟨g,f,i,j,rfl,by simp,x,s.mono λw v G M z=>Fp.chg k l m (λp r=>by simpa using M p r) z⟩
 |w0::L,vs,F,n+1,w,h,y=>by obtain⟨v,f,d,j,rfl,rfl,t,s⟩:=h;obtain⟨u,D,N,C,J,rfl,I,E⟩:=fR.at s (n:=n) (by simpa using y);refine⟨u,d++D,N,C,by simpa using J,by simp,I,λH' B w' g i x k l=>?_⟩;refine⟨v,f.set n g,d,D++i++C,rfl,by simp,Fp.chg k l m (λp r=>by simp[r]) t,E H' B w' g i x (λp o e=>(k p o e).imp (λ⟨a,b,c⟩=>⟨a,b,λz=>c ?_⟩) id) l⟩;rcases Hb.mp z with z|z<;>simp[z]
noncomputable def Pth(K:Frag)(A:Addr->Prop)(H:Hp)(m:Md)(w:W)(v:V)(F:List Addr)(π:List nI)(f:Md)(w':W):Prop:=
 ∃b d g c,F=d++g++c/\xN K H v π b/\Fp K A H f w' b g/\∀(H':Hp)(B:Addr->Prop) a e,Fp K B H' f a b e->qU A (·∈d++c) H H'->(∀p o,H p=some o->B p->A p)->Fp K B H' m (setAt w π a) v (d++e++c)
theorem Fp.path:∀(π:List nI)(m:Md){w:W}{v:V}{F:List Addr}{k:Md}{w':W},Fp K A H m w v F->kg m π=some k->cW w π=some w'->Pth K A H m w v F π k w'
 |[],m,w,v,F,k,w',h,d,g=>by dsimp only[kg]at d;dsimp only[cW]at g;cases d;cases g;refine⟨v,[],F,[],by simp,rfl,h,λH' B j u h' _ _=>?_⟩;dsimp only[setAt];simpa using h'
 |n::π,.s,w,v,F,k,w',h,d,g=>by cases n<;>exact nn d
 |n::π,.f,w,v,F,k,w',h,d,g=>by cases n<;>exact nn d
 |n::π,.io _,w,v,F,k,w',h,d,g=>by cases n<;>exact nn d
 |.fl n _::π,.t x,w,v,F,k,w',h,d,g=>by cases d
 |.fl n _::π,.ls x,w,v,F,k,w',h,d,g=>by cases d
 |.ix n::π,.ls U,w,v,F,k,w',h,d,g=>by
  obtain⟨N,p,vs,F0,rfl,rfl,rfl,D,Y⟩:=h;dsimp only[kg]at d;dsimp only[cW]at g;cases i:N[n]? with
  |none=>rw[i]at g;exact nn g
  |some w1=>rw[i]at g;obtain⟨q,M,F',L,r,rfl,T,S⟩:=fR.at Y i;obtain⟨O,J,Z,I,rfl,R,Q,P⟩:=Fp.path π U T d g;refine⟨O,p::M++J,Z,I++L,by simp,⟨p,vs,q,rfl,.inr D,r,R⟩,Q,λH' B j u h' l y=>?_⟩;dsimp only[setAt];rw[i];dsimp only[Fp];have a:=S H' B _ q _ (P H' B j u h' (λp o e=>(l p o e).imp (by rintro⟨a,b,c⟩;exact⟨a,b,λz=>c (by rcases Hb.mp z with z|z<;>simp[z])⟩) id) y) (λp o e=>(l p o e).imp (by rintro⟨a,b,c⟩;exact⟨a,b,λz=>c (by rcases Hb.mp z with z|z<;>simp[z])⟩) id) y;rw[jy r]at a;exact⟨_,p,vs,M++(J++u++I)++L,rfl,rfl,by simp,l.un D (λ_=>by simp),a⟩
 |.ix n::π,.o fs x,w,v,F,k,w',h,d,g=>by cases d
 |.ix n::π,.t x,w,v,F,k,w',h,d,g=>by
  obtain⟨N,p,vs,rfl,rfl,D,Y⟩:=h;dsimp only[kg]at d;dsimp only[cW]at g;cases E:x[n]? with
  |none=>rw[E]at d;exact nn d
  |some U=>
   cases i:N[n]? with
   |none=>rw[i]at g;exact nn g
   |some w1=>rw[E]at d;rw[i]at g;obtain⟨q,M,F',L,r,rfl,T,S⟩:=fk.at x Y E i;obtain⟨O,J,Z,I,rfl,R,Q,P⟩:=Fp.path π U T d g;refine⟨O,M++J,Z,I++L,by simp,⟨p,vs,q,rfl,.inl D,r,R⟩,Q,λH' B j u h' l y=>?_⟩;dsimp only[setAt];rw[i];dsimp only[Fp];have a:=S H' B _ q _ (P H' B j u h' (λp o e=>(l p o e).imp (by rintro⟨a,b,c⟩;exact⟨a,b,λz=>c (by rcases Hb.mp z with z|z<;>simp[z])⟩) id) y) (λp o e=>(l p o e).imp (by rintro⟨a,b,c⟩;exact⟨a,b,λz=>c (by rcases Hb.mp z with z|z<;>simp[z])⟩) id) y;rw[jy r]at a;refine⟨_,p,vs,rfl,rfl,l.un D (λz=>by cases z),?_⟩;simpa using a
 |.fl n f::π,.o fs x,w,v,F,k,w',h,d,g=>by
  obtain⟨C,dx,N,p,vs,F0,rfl,rfl,rfl,D,hl,X,Y⟩:=h;dsimp only[kg]at d;dsimp only[cW]at g;by_cases hf:fs[n]?=some f;rotate_left
  .rw[Bn hf]at d;cases d
  rw[Bz hf]at d;cases E:x[n]? with
  |none=>rw[E]at d;exact nn d
  |some U=>
   cases i:N[n]? with
   |none=>rw[i]at g;exact nn g
   |some w1=>rw[E]at d;rw[i]at g;obtain⟨q,M,F',L,r,rfl,T,S⟩:=fk.at x Y E i;obtain⟨O,J,Z,I,rfl,R,Q,P⟩:=Fp.path π U T d g;refine⟨O,p::M++J,Z,I++L,by simp,⟨p,vs,q,rfl,⟨C,dx,fs,D,hl,X,hf⟩,r,R⟩,Q,λH' B j u h' l y=>?_⟩;dsimp only[setAt];rw[i];dsimp only[Fp];have a:=S H' B _ q _ (P H' B j u h' (λp o e=>(l p o e).imp (by rintro⟨a,b,c⟩;exact⟨a,b,λz=>c (by rcases Hb.mp z with z|z<;>simp[z])⟩) id) y) (λp o e=>(l p o e).imp (by rintro⟨a,b,c⟩;exact⟨a,b,λz=>c (by rcases Hb.mp z with z|z<;>simp[z])⟩) id) y;rw[jy r]at a;refine⟨C,dx,_,p,vs,M++(J++u++I)++L,rfl,rfl,by simp,l.un D (λ_=>by simp),hl,X,a⟩
end
noncomputable def dW(K:Frag)(A:Addr->Prop)(H H':Hp)(m:Md)(w:W)(v:V):Prop:=
 ∃F:List Addr,F.Nodup/\(∀p∈F,H p=none)/\Fp K (λq=>A q\/q∈F) H' m w v F
noncomputable def Dom(A:Addr->Prop)(H:Hp):Prop:=∀p,A p->∃o,H p=some o
theorem Dom.no{A:Addr->Prop}{H:Hp}(d:Dom A H){p:Addr}(h:H p=none):¬A p:=λz=>by obtain⟨o,e⟩:=d p z;rw[h]at e;cases e
theorem Dom.same{A:Addr->Prop}{H H':Hp}(d:Dom A H)(s:aE H H'):Dom A H':=λp z=>by obtain⟨o,e⟩:=d p z;exact⟨o,s _ _ e⟩
section
variable{K:Frag}{A B:Addr->Prop}{H H':Hp}{m:Md}{w:W}{v:V}
theorem dW.rep(d:Dom A H)(h:dW K A H H' m w v):Rep K A H' w v:=by obtain⟨F,c,a,h⟩:=h;exact Fp.rep (λp z=>.inl z) m (λp b=>d.no (a p b)) h
theorem dW.of(h:Rep K A H' w v):dW K A H H' .s w v:=⟨[],ub,by simp,by dsimp only[Fp];exact⟨rfl,h.less λp z=>by simpa using z⟩⟩
theorem dW.s(d:Dom A H)(h:dW K A H H' m w v):dW K A H H' .s w v:=.of (h.rep d)
theorem dW.new{a:List W}{p:Addr}{vs:List V}(b:H p=none)(d:H' p=some (.lst vs))(e:au K A H' a vs)(c:au K (λq=>A q\/q=p) H' a vs):dW K A H H' .f (.lst a) (.ref p):=
 ⟨[p],(by simp),(by simpa using b),by dsimp only[Fp];exact⟨a,p,vs,rfl,rfl,rfl,d,c.less λq z=>by simpa using z⟩⟩
theorem dW.fresh{a:List W}{p:Addr}{vs:List V}{H1:Hp}(s:aE H H1)(b:H1 p=none)(h:au K A H1 a vs):dW K A H (upd H1 p (.lst vs)) .f (.lst a) (.ref p):=by
 have sm:=aL b (.lst vs);refine .new (s.free b) aA (h.same sm) (au.mv sm (λq o z y=>?_) a h);rcases y with y|y
 .exact y
 .rw[y,b]at z;cases z
theorem dW.VO(h:dW K A H H' .f w v):∃a p vs,w=.lst a/\v=.ref p/\H p=none/\H' p=some (.lst vs)/\au K (λq=>A q\/q=p) H' a vs:=by obtain⟨F,e,b,h⟩:=h;obtain⟨a,p,vs,rfl,rfl,rfl,d,c⟩:=h;exact⟨a,p,vs,rfl,rfl,b p (Fu.mpr rfl),d,c.less λq z=>by simpa using z⟩
theorem dW.back{a:Hp}(s:aE a H)(e:∀p,B p->A p)(h:dW K A H H' m w v):dW K B a H' m w v:=by obtain⟨F,c,b,h⟩:=h;exact⟨F,c,λp d=>s.free (b p d),Fp.mv (aE.refl _) (λp o _ z=>z.imp (e p) id) m h⟩
end
abbrev Ev:=List (Option W)
noncomputable def look:Ev->Nat->Option W
 |[],_=>none
 |x::_,0=>x
 |_::l,n+1=>look l n
theorem bw:∀{a:Ev}{i:Nat}{w:W},look a i=some w↔a[i]?=some (some w)
 |[],i,w=>by simp[look]
 |x::l,0,w=>by simp[look]
 |x::l,i+1,w=>by rw[look,bw];simp
abbrev Ms:=List (Nat×Md)
noncomputable def aT(M:Ms)(i:Nat):Prop:=∃m,(i,m)∈M
structure Fz where
 ab:Addr->Prop
 B:Addr->Prop
 s0:Option V
abbrev FB(A:Fz)(M:Ms)(σ:St):Addr->Prop:=A.B
structure TZ(K:Frag)(M:Ms)(A:Fz)(H0:Hp)(σ:St)(H:Hp)(ε:Ev)(F:Nat->List Addr):Prop where
 un:∀i m m',(i,m)∈M->(i,m')∈M->m=m'
 val:∀i m w,(i,m)∈M->look ε i=some w->∃v,σ[i]?=some (some v)/\Fp K A.B H m w v (F i)
 emp:∀i,aT M i->look ε i=none->F i=[]
 nd:∀i,aT M i->(F i).Nodup
 ds:∀i j p,aT M i->aT M j->p∈F i->p∈F j->i=j
 nw:∀i p,aT M i->p∈F i->H0 p=none
 na:∀i p,aT M i->p∈F i->¬A.ab p
 all:∀p,A.B p↔A.ab p\/∃i,aT M i/\p∈F i
structure SR(K:Frag)(M:Ms)(A:Fz)(H0:Hp)(σ:St)(H:Hp)(ε:Ev):Prop where
 len:σ.length=ε.length
 sh:∀i w,¬aT M i->look ε i=some w->∃v,σ[i]?=some (some v)/\Rep K A.B H w v
 sm:aE H0 H
 dm:Dom A.ab H
 sl:∀v,A.s0=some v->σ[0]?=some (some v)/\aT M 0
 ow:∃F,TZ K M A H0 σ H ε F
theorem aJ{a:Ev}{i j:Nat}{x:Option W}(h:i≠j):look (a.set i x) j=look a j:=by
 cases e:look a j with
 |none=>
  cases b:look (a.set i x) j with
  |none=>rfl
  |some w=>rw[bw,Iy h,<-bw,e]at b;cases b
 |some w=>rw[bw,Iy h,<-bw];exact e
theorem mE{a:Ev}{i:Nat}{w w':W}(h:look (a.set i (some w)) i=some w'):w'=w:=by
 rw[bw,oy]at h;rw[Bz rfl]at h;split at h
 .cases h;rfl
 .cases h
theorem p5{a:Ev}{i:Nat}{w:W}(h:look a i=some w):i<a.length:=by rw[bw]at h;exact(FR.mp h).1
section
variable{K:Frag}{M M':Ms}{A:Fz}{H0 H H1:Hp}{σ:St}{ε:Ev}{F:Nat->List Addr}
theorem TZ.has(O:TZ K M A H0 σ H ε F){i:Nat}{p:Addr}(c:aT M i)(a:p∈F i):∃o,H p=some o/\D8 o=true:=by
 cases b:look ε i with
 |none=>rw[O.emp i c b]at a;cases a
 |some w=>obtain⟨m,d⟩:=c;obtain⟨v,_,h⟩:=O.val i m w d b;exact Fp.mu m h p a
theorem SR.dom(S:SR K M A H0 σ H ε):Dom A.B H:=λp z=>by
 obtain⟨F,O⟩:=S.ow;rcases(O.all p).mp z with z|⟨i,b,a⟩
 .exact S.dm p z
 .obtain⟨o,e,_⟩:=O.has b a;exact⟨o,e⟩
theorem SR.sub'(S:SR K M A H0 σ H ε):∀p,A.ab p->A.B p:=λp z=>by obtain⟨F,O⟩:=S.ow;exact(O.all p).mpr (.inl z)
theorem SR.same(S:SR K M A H0 σ H ε)(s:aE H H1):SR K M A H0 σ H1 ε:=by
 obtain⟨F,O⟩:=S.ow;exact⟨S.len,λi w b e=>let⟨v,h1,h2⟩:=S.sh i w b e;⟨v,h1,h2.same s⟩,S.sm.trans s,S.dm.same s,S.sl,F,
  ⟨O.un,λi m w a e=>let⟨v,h1,h2⟩:=O.val i m w a e;⟨v,h1,Fp.mv s (λ_ _ _ z=>z) m h2⟩,O.emp,O.nd,O.ds,O.nw,O.na,O.all⟩⟩
theorem SR.sub(S:SR K M A H0 σ H ε)(h:∀x∈M',x∈M)(s:Option V)(hz:∀v,s=some v->A.s0=some v/\aT M' 0):∃r,r.ab=A.ab/\r.s0=s/\(∀p,r.B p->A.B p)/\SR K M' r H0 σ H ε:=by
 obtain⟨F,O⟩:=S.ow;have d:∀i,aT M' i->aT M i:=by rintro i ⟨m,f⟩;exact⟨m,h _ f⟩
 have q:∀p,(A.ab p\/∃i,aT M' i/\p∈F i)->A.B p:=λp z=>(O.all p).mpr (z.imp id<|by rintro⟨i,c,n⟩;exact⟨i,d i c,n⟩);refine⟨⟨A.ab,λp=>A.ab p\/∃i,aT M' i/\p∈F i,s⟩,rfl,rfl,q,S.len,λi w t e=>?_,S.sm,S.dm,λv e=>⟨(S.sl v (hz v e).1).1,(hz v e).2⟩,F,⟨λi m u a b=>O.un i m u (h _ a) (h _ b),λi m w f e=>?_,λi c=>O.emp i (d i c),λi c=>O.nd i (d i c),λi j p c o=>O.ds i j p (d i c) (d j o),λi p c=>O.nw i p (d i c),λi p c=>O.na i p (d i c),λp=>fw⟩⟩
 .by_cases c:aT M i
  .have g:=c;obtain⟨m,f⟩:=c;obtain⟨v,l,k⟩:=O.val i m w f e;refine⟨v,l,Fp.rep q m (λp n z=>?_) k⟩;rcases z with z|⟨j,o,y⟩
   .exact O.na i p g n z
   .have:=O.ds i j p g (d j o) n y;subst this;exact t o
  .obtain⟨v,l,k⟩:=S.sh i w c e;exact⟨v,l,k.less q⟩
 .obtain⟨v,l,k⟩:=O.val i m w (h _ f) e;exact⟨v,l,Fp.mv (aE.refl _) (λp _ _ z=>q p z) m k⟩
theorem SR.go(S:SR K M A H0 σ H ε):SR K [] ⟨A.ab,A.ab,none⟩ H0 σ H ε:=by
 obtain⟨a,b,c,h,d⟩:=S.sub (M':=[]) (λx f=>by cases f) none (λv e=>by cases e);obtain⟨F,O⟩:=d.ow;have e:∀p,a.B p↔A.ab p:=λp=>by rw[O.all p,b];exact⟨λz=>z.elim id (by rintro⟨i,⟨m,g⟩,_⟩;cases g),.inl⟩
 have:a.B=A.ab:=funext λp=>propext (e p);have:a=⟨A.ab,A.ab,none⟩:=by
  cases a;simp only at b c this;rw[b,this,c]
 rw[<-this];exact d
theorem SR.set(S:SR K M A H0 σ H ε){i:Nat}{w:W}{v:V}(g:¬aT M i)(h:Rep K A.B H w v):SR K M A H0 (σ.set i (some v)) H (ε.set i (some w)):=by
 obtain⟨F,O⟩:=S.ow;refine⟨by rw[Q1,Q1];exact S.len,λj f d e=>?_,S.sm,S.dm,λu e=>?_,F,⟨O.un,λj m f k e=>?_,λj d e=>?_,O.nd,O.ds,O.nw,O.na,O.all⟩⟩
 .by_cases a:i=j
  .subst a;have l:i<σ.length:=by rw[S.len];have:=p5 e;rwa [Q1]at this
   have:=mE e;subst this;exact⟨v,PP l,h⟩
  .rw[aJ a]at e;obtain⟨u,c,b⟩:=S.sh j f d e;exact⟨u,by rw[Iy a];exact c,b⟩
 .obtain⟨c,b⟩:=S.sl u e;exact⟨by rw[Iy (by rintro rfl;exact g b)];exact c,b⟩
 .have a:i≠j:=by rintro rfl;exact g ⟨m,k⟩
  rw[aJ a]at e;obtain⟨u,c,b⟩:=O.val j m f k e;exact⟨u,by rw[Iy a];exact c,b⟩
 .have a:i≠j:=by rintro rfl;exact g d
  rw[aJ a]at e;exact O.emp j d e
theorem SR.own(S:SR K M' A H0 σ H ε){i:Nat}{m:Md}{w:W}{v:V}(y:∀x,x∈M↔x=(i,m)\/x∈M')(Q:¬aT M' i)(s:aE H H1)(h:dW K A.B H H1 m w v):
 ∃N,N.ab=A.ab/\N.s0=A.s0/\(∀p o,H p=some o->N.B p->A.B p)/\SR K M N H0 (σ.set i (some v)) H1 (ε.set i (some w)):=by
 obtain⟨F,O⟩:=S.ow;obtain⟨G,nd,nw,L⟩:∃G:List Addr,G.Nodup/\(∀p∈G,H p=none)/\(i<ε.length->Fp K (λq=>A.B q\/q∈G) H1 m w v G)/\(ε.length<=i->G=[]):=by
  by_cases g:i<ε.length
  .obtain⟨G,nd,nw,L⟩:=h;exact⟨G,nd,nw,λ_=>L,λz=>by lia⟩
  .exact⟨[],ub,by simp,λz=>(g z).elim,λ_=>rfl⟩
 have f:∀j,aT M j↔j=i\/aT M' j:=λj=>by
  constructor
  .rintro⟨r,R⟩;rcases(y _).mp R with e|e
   .cases e;exact .inl rfl
   .exact .inr ⟨r,e⟩
  .rintro(rfl|⟨r,R⟩)
   .exact⟨m,(y _).mpr (.inl rfl)⟩
   .exact⟨r,(y _).mpr (.inr R)⟩
 have P:∀j,aT M' j->j≠i:=λj c e=>by subst e;exact Q c
 have E:∀j p,aT M' j->p∈F j->p∉G:=λj p c d z=>by obtain⟨o,e,_⟩:=O.has c d;rw[nw p z]at e;cases e
 have T:∀p o,H p=some o->(A.B p\/p∈G)->A.B p:=λp o e z=>by
  rcases z with z|z
  .exact z
  .rw[nw p z]at e;cases e
 refine⟨⟨A.ab,λp=>A.B p\/p∈G,A.s0⟩,rfl,rfl,T,by rw[Q1,Q1];exact S.len,λj J c e=>?_,S.sm.trans s,S.dm.same s,λu e=>?_,λj=>if j=i then G else F j,⟨λj Y X a b=>?_,λj r J c e=>?_,λj c e=>?_,λj c=>?_,λj k p c U a b=>?_,λj p c d=>?_,λj p c d=>?_,λp=>?_⟩⟩
 .have t:j≠i/\¬aT M' j:=⟨λz=>c ((f j).mpr (.inl z)),λz=>c ((f j).mpr (.inr z))⟩;rw[aJ (T2 t.1)]at e;obtain⟨u,I,D⟩:=S.sh j J t.2 e;exact⟨u,by rw[Iy (T2 t.1)];exact I,Rep.mv s T J D⟩
 .obtain⟨I,D⟩:=S.sl u e;exact⟨by rw[Iy (T2 (P 0 D))];exact I,(f 0).mpr (.inr D)⟩
 .rcases(y _).mp a with a|a
  .rcases(y _).mp b with b|b
   .cases a;cases b;rfl
   .cases a;exact(Q ⟨_,b⟩).elim
  .rcases(y _).mp b with b|b
   .cases b;exact(Q ⟨_,a⟩).elim
   .exact O.un j Y X a b
 .rcases(y _).mp c with a|a
  .cases a;have g:i<ε.length:=by have:=p5 e;rwa [Q1]at this
   have:=mE e;subst this;exact⟨v,PP (by rw[S.len];exact g),by rw[Bz rfl];exact L.1 g⟩
  .have n:=P j ⟨r,a⟩;rw[aJ (T2 n)]at e;obtain⟨u,I,D⟩:=O.val j r J a e;exact⟨u,by rw[Iy (T2 n)];exact I,by rw[Bn n];exact Fp.mv s T r D⟩
 .by_cases n:j=i
  .subst n;rw[Bz rfl];refine L.2 (Nw λg=>?_);have:look (ε.set j (some w)) j=some w:=by rw[bw];exact PP g
   rw[this]at e;cases e
  .rw[aJ (T2 n)]at e;rw[Bn n];exact O.emp j (((f j).mp c).resolve_left n) e
 .by_cases n:j=i
  .rw[Bz n];exact nd
  .rw[Bn n];exact O.nd j (((f j).mp c).resolve_left n)
 .by_cases C:j=i
  .by_cases l:k=i
   .rw[C,l]
   .rw[Bz C]at a;rw[Bn l]at b;exact(E k p (((f k).mp U).resolve_left l) b a).elim
  .by_cases l:k=i
   .rw[Bn C]at a;rw[Bz l]at b;exact(E j p (((f j).mp c).resolve_left C) a b).elim
   .rw[Bn C]at a;rw[Bn l]at b;exact O.ds j k p (((f j).mp c).resolve_left C) (((f k).mp U).resolve_left l) a b
 .by_cases n:j=i
  .rw[Bz n]at d;exact S.sm.free (nw p d)
  .rw[Bn n]at d;exact O.nw j p (((f j).mp c).resolve_left n) d
 .by_cases n:j=i
  .rw[Bz n]at d;exact S.dm.no (nw p d)
  .rw[Bn n]at d;exact O.na j p (((f j).mp c).resolve_left n) d
 .constructor
  .rintro(z|z)
   .rcases(O.all p).mp z with z|⟨j,c,d⟩
    .exact .inl z
    .exact .inr ⟨j,(f j).mpr (.inr c),by rw[Bn (P j c)];exact d⟩
   .exact .inr ⟨i,(f i).mpr (.inl rfl),by rw[Bz rfl];exact z⟩
  .rintro(z|⟨j,c,d⟩)
   .exact .inl ((O.all p).mpr (.inl z))
   .by_cases n:j=i
    .rw[Bz n]at d;exact .inr d
    .rw[Bn n]at d;exact .inl ((O.all p).mpr (.inr ⟨j,((f j).mp c).resolve_left n,d⟩))
theorem TZ.chg(S:SR K M A H0 σ H ε)(O:TZ K M A H0 σ H ε F){i:Nat}{m:Md}{w w':W}{v:V}{F':List Addr}(N:(i,m)∈M)(R:look ε i=some w)(Q:σ[i]?=some (some v))
 (x:∀p o,H p=some o->(D8 o=true/\p∈F i)\/H1 p=some o)(nd:F'.Nodup)(nw:∀p∈F',p∈F i\/H p=none)(h:Fp K (λp=>(A.B p/\p∉F i)\/p∈F') H1 m w' v F'):
 ∃s,s.ab=A.ab/\s.s0=A.s0/\(∀p,s.B p↔(A.B p/\p∉F i)\/p∈F')/\(∀p o,H p=some o->s.B p->A.B p)/\xM A.B H H1/\SR K M s H0 σ H1 (ε.set i (some w')):=by
 have f:aT M i:=⟨m,N⟩;have J:∀p,p∈F i->A.B p:=λp c=>(O.all p).mpr (.inr ⟨i,f,c⟩);have P:xM A.B H H1:=λp o e=>(x p o e).imp (λz=>⟨z.1,J p z.2⟩) id;have I:∀p o,H p=some o->((A.B p/\p∉F i)\/p∈F')->A.B p:=λp o e z=>by
  rcases z with z|z
  .exact z.1
  .rcases nw p z with z|z
   .exact J p z
   .rw[z]at e;cases e
 have C:∀j p,aT M j->j≠i->p∈F j->p∉F i/\p∉F':=λj p d n c=>by
  have a:p∉F i:=λz=>n (O.ds j i p d f c z);refine⟨a,λz=>?_⟩;rcases nw p z with z|z
  .exact a z
  .obtain⟨o,e,_⟩:=O.has d c;rw[z]at e;cases e
 refine⟨⟨A.ab,λp=>(A.B p/\p∉F i)\/p∈F',A.s0⟩,rfl,rfl,λ_=>fw,I,P,by rw[Q1];exact S.len,λj g d e=>?_,λp o e=>?_,λp z=>?_,S.sl,λj=>if j=i then F' else F j,⟨O.un,λj t g d e=>?_,λj d e=>?_,λj d=>?_,λj k p d L a b=>?_,λj p d c=>?_,λj p d c=>?_,λp=>?_⟩⟩
 .have n:i≠j:=by rintro rfl;exact d f
  rw[aJ n]at e;obtain⟨u,E,D⟩:=S.sh j g d e;exact⟨u,E,Rep.chg P I g D⟩
 .rcases x p o (S.sm p o e)with⟨_,z⟩|z
  .rw[O.nw i p f z]at e;cases e
  .exact z
 .obtain⟨o,e⟩:=S.dm p z;rcases x p o e with⟨_,y⟩|y
  .exact(O.na i p f y z).elim
  .exact⟨o,y⟩
 .by_cases n:j=i
  .subst n;have T:=O.un j m t N d;subst T;have:=mE e;subst this;exact⟨v,Q,by rw[Bz rfl];exact h⟩
  .rw[aJ (T2 n)]at e;obtain⟨u,E,D⟩:=O.val j t g d e;refine⟨u,E,?_⟩;rw[Bn n];refine Fp.chg (G:=λp=>p∈F j) (λp o e=>?_) I t (λp c=>c) D;rcases x p o e with⟨z,y⟩|z
   .exact .inl ⟨z,J p y,λq=>(C j p ⟨t,d⟩ n q).1 y⟩
   .exact .inr z
 .by_cases n:j=i
  .subst n;have:look (ε.set j (some w')) j=some w':=by rw[bw];exact PP (p5 R)
   rw[this]at e;cases e
  .rw[aJ (T2 n)]at e;rw[Bn n];exact O.emp j d e
 .by_cases n:j=i
  .rw[Bz n];exact nd
  .rw[Bn n];exact O.nd j d
 .by_cases r:j=i
  .by_cases l:k=i
   .rw[r,l]
   .rw[Bz r]at a;rw[Bn l]at b;exact((C k p L l b).2 a).elim
  .by_cases l:k=i
   .rw[Bn r]at a;rw[Bz l]at b;exact((C j p d r a).2 b).elim
   .rw[Bn r]at a;rw[Bn l]at b;exact O.ds j k p d L a b
 .by_cases n:j=i
  .rw[Bz n]at c;rcases nw p c with z|z
   .exact O.nw i p f z
   .exact S.sm.free z
  .rw[Bn n]at c;exact O.nw j p d c
 .by_cases n:j=i
  .rw[Bz n]at c;rcases nw p c with z|z
   .exact O.na i p f z
   .exact S.dm.no z
  .rw[Bn n]at c;exact O.na j p d c
 .constructor
  .rintro(⟨z,y⟩|z)
   .rcases(O.all p).mp z with z|⟨j,d,c⟩
    .exact .inl z
    .have n:j≠i:=by rintro rfl;exact y c
     exact .inr ⟨j,d,by rw[Bn n];exact c⟩
   .exact .inr ⟨i,f,by rw[Bz rfl];exact z⟩
  .rintro(z|⟨j,d,c⟩)
   .exact .inl ⟨(O.all p).mpr (.inl z),λy=>O.na i p f y z⟩
   .by_cases n:j=i
    .rw[Bz n]at c;exact .inr c
    .rw[Bn n]at c;exact .inl ⟨(O.all p).mpr (.inr ⟨j,d,c⟩),(C j p d n c).1⟩
end
end VL
set_option genSizeOf false
set_option genInjectivity false
namespace VL
open PySem PySem.Spec
open PyProof.Rows hiding St
open L2
inductive BI where
 |len|abs|max2|min2|sum|all|any|list|tuple|zG|int
 deriving DecidableEq
inductive CE where
 |var (i:Nat)|int (i:Int)|bl (b:Bool)|str (x:Str)|aW|As (n:String)|glob (g:Nat)
 |bin (op:Operator) (a b:CE)|neg (a:CE)|not (a:CE)
 |cmp (op:CmpOp) (a b:CE)
 |and (as:List CE)|or (as:List CE)
 |tup (as:List CE)|lst (as:List CE)
 |ix (a i:CE)|sl (a lo hi:CE)
 |call (f:Nat) (as:List CE)|blt (b:BI) (as:List CE)|bits (a:CE)
 |comp (ts:List Nat) (one:Bool) (n:Nat) (it:CE) (c:CE) (e:CE)
 |jP (as:List CE)|uE (a:CE)
 |pop (i:Nat)
 |own (i:Nat) (π:List nI)|Lr (i g f:Nat) (as:List CE)
 |Co (is:List Nat) (a:CE)
inductive CS where
 |set (i:Nat) (e:CE)|D9 (ts:List Nat) (e:CE)|par (ts:List Nat) (es:List CE)
 |app (i:Nat) (e:CE)|put (i:Nat) (k e:CE)|drop (i:Nat)|yx (j:Nat) (e:CE)
 |ret (e:CE)|iff (c:CE) (a b:List CS)|xO (c:CE) (b:List CS)
 |fr (ts:List Nat) (one:Bool) (it:CE) (b:List CS)
 |brk|raise (c:Nat) (e:CE)
 |Ea (i n:Nat) (e:CE)
 |T3 (e:CE)|VQ (e:CE)
 |nK
 |T4 (is:List Nat) (b:List CS)
 |VR (i:Nat) (as:List CE)|T6 (i:Nat) (e:CE)
 |VU (i:Nat) (is:List Nat) (m:Md) (ts:List Nat) (one:Bool) (n:Nat) (it c e:CE)|VV (j a b:Nat) (e:CE)
noncomputable def VW:W->W->(W->Prop)->Prop
 |.int i,.int j,Q=>Q (.int (i+j))
 |.lst a,.lst b,Q=>a.length+b.length<=sizeLine/\Q (.lst (a++b))
 |.tup a,.tup b,Q=>a≠[]/\a.length+b.length<=sizeLine/\Q (.tup (a++b))
 |.str a,.str b,Q=>a.length+b.length<=sizeLine/\Q (.str (a++b))
 |_,_,_=>False
noncomputable def VX:W->W->(W->Prop)->Prop
 |.int i,.int j,Q=>IntMulOk i j/\Q (.int (i*j))
 |.lst a,.int k,Q=> -(2^63)<=k/\k<2^63/\a.length*k.toNat<=sizeLine/\Q (.lst (A0 k.toNat a).flatten)
 |_,_,_=>False
noncomputable def T7(C:Int->Int->Prop)(g:Int->Int->Int):W->W->(W->Prop)->Prop
 |.int i,.int j,Q=>C i j/\Q (.int (g i j))
 |_,_,_=>False
noncomputable def VY:W->W->(W->Prop)->Prop
 |.int i,.int j,Q=>Q (.int (i -j))
 |_,_,_=>False
noncomputable def iB:Operator->W->W->(W->Prop)->Prop
 |.Add=>VW
 |.Sub=>VY
 |.Mult=>VX
 |.FloorDiv=>T7 BJ λi j=>i.fdiv j
 |.Mod=>T7 (λ_ j=>j≠0) λi j=>i.fmod j
 |.Pow=>T7 sR λi j=>i^j.toNat
 |.LShift=>T7 sR λi j=>i*2^j.toNat
 |.RShift=>T7 (λ_ j=>0<=j) λi j=>i/2^j.toNat
 |_=>λ_ _ _=>False
noncomputable def sX:Nat->W->Bool
 |_,.int _=>true
 |_,.str x=>PyData.strOk x
 |_,.aW=>true
 |n+1,.lst l=>l.all (sX n)
 |n+1,.tup l=>l.all (sX n)
 |_,_=>false
noncomputable def JY:Nat->W->Bool
 |_,.bl _=>true
 |_,.str x=>PyData.strOk x
 |_,.aW=>true
 |n+1,.lst l=>l.all (JY n)
 |n+1,.tup l=>l.all (JY n)
 |_,_=>false
noncomputable def Zg(a:Bool):W->W->(W->Prop)->Prop
 |.int i,.int j,Q=>Q (.bl (if a then !decide (i=j)else decide (i=j)))
 |.str i,.str j,Q=>Q (.bl (if a then !decide (i=j)else decide (i=j)))
 |.bl i,.bl j,Q=>Q (.bl (if a then !decide (i=j)else decide (i=j)))
 |x,y,Q=>((sX 9 x=true/\sX 9 y=true)\/(JY 9 x=true/\JY 9 y=true))/\∀b:Bool,(b=true↔x=y)->Q (.bl (if a then !b else b))
noncomputable def G6(p:Int->Int->Bool):W->W->(W->Prop)->Prop
 |.int i,.int j,Q=>Q (.bl (p i j))
 |_,_,_=>False
noncomputable def Zh(a:Bool):W->W->(W->Prop)->Prop
 |.aW,.aW,Q=>Q (.bl (!a))
 |.bl _,.aW,Q=>Q (.bl a)
 |.int _,.aW,Q=>Q (.bl a)
 |.str _,.aW,Q=>Q (.bl a)
 |.lst _,.aW,Q=>Q (.bl a)
 |.tup _,.aW,Q=>Q (.bl a)
 |.err _,.aW,Q=>Q (.bl a)
 |_,_,_=>False
noncomputable def iY:CmpOp->W->W->(W->Prop)->Prop
 |.Eq=>Zg false
 |.NotEq=>Zg true
 |.Lt=>G6 λi j=>decide (i<j)
 |.LtE=>G6 λi j=>decide (i<=j)
 |.Gt=>G6 λi j=>decide (j<i)
 |.GtE=>G6 λi j=>decide (j<=i)
 |.Is=>Zh false
 |.IsNot=>Zh true
 |_=>λ_ _ _=>False
noncomputable def VZ:W->W->(W->Prop)->Prop
 |.lst l,.int i,Q=>∃w,j9 l i=some w/\Q w
 |.tup l,.int i,Q=>∃w,j9 l i=some w/\Q w
 |.di ns,.int i,Q=>∃n,j9 ns i=some n/\Q (.int n)
 |_,_,_=>False
noncomputable def jz(l:List W)(a b:Option Int):List W:=(l.drop (HT.uo l.length 0 a)).take (HT.uo l.length l.length b -HT.uo l.length 0 a)
noncomputable def kC:CE->Bool
 |.aW=>true
 |_=>false
noncomputable def prI:W->(Option Int->Prop)->Prop
 |.int i,Q=>Q (some i)
 |_,_=>False
noncomputable def Ls(c:CE)(y:W)(Q:Option Int->Prop):Prop:=cond (kC c) (Q none) (prI y Q)
noncomputable def XY:W->Option Int->Option Int->(W->Prop)->Prop
 |.lst l,a,b,Q=>Q (.lst (jz l a b))
 |.di ns,a,b,Q=>Q (.lst (jz (ns.map W.int) a b))
 |_,_,_,_=>False
noncomputable def tyW:W->Option String
 |.aW=>some "NoneType"
 |.bl _=>some "bool"
 |.int _=>some "int"
 |.str _=>some "str"
 |.lst _=>some "list"
 |.tup _=>some "tuple"
 |_=>none
noncomputable def Eb(a b:String):Bool:=a==b||(a=="bool"&&b=="int")
noncomputable def sO:BI->List W->(W->Prop)->Prop
 |.len,[.lst l],Q=>Q (.int l.length)
 |.len,[.tup l],Q=>Q (.int l.length)
 |.len,[.di ns],Q=>Q (.int ns.length)
 |.abs,[.int i],Q=>Q (.int (if i<0 then-i else i))
 |.max2,[.int i,.int j],Q=>Q (.int (if j>i then j else i))
 |.min2,[.int i,.int j],Q=>Q (.int (if j<i then j else i))
 |.sum,[.lst l],Q=>∃ns:List Int,l=ns.map W.int/\Q (.int ns.sum)
 |.all,[.lst l],Q=>∃bs:List Bool,l=bs.map W.bl/\Q (.bl (bs.all id))
 |.any,[.lst l],Q=>∃bs:List Bool,l=bs.map W.bl/\Q (.bl (bs.any id))
 |.list,[.lst l],Q=>Q (.lst l)
 |.list,[.tup l],Q=>Q (.lst l)
 |.tuple,[.lst l],Q=>Q (.tup l)
 |.tuple,[.tup l],Q=>Q (.tup l)
 |.zG,[w,.ty n],Q=>∃a,tyW w=some a/\Q (.bl (Eb a n))
 |.int,[.bl b],Q=>Q (.int (if b then 1 else 0))
 |_,_,_=>False
noncomputable def cO(a:Ev):List Nat->List W->Ev
 |i::c,w::b=>cO (a.set i (some w)) c b
 |_,_=>a
noncomputable def wT(one:Bool)(a:List Nat)(w:W)(b:Ev)(Q:Ev->Prop):Prop:=
 match one,a,w with
 |true,[i],w=>Q (b.set i (some w))
 |false,a,.tup l=>l.length=a.length/\Q (cO b a l)
 |_,_,_=>False
noncomputable def jA(f:W->(Option W->Prop)->Prop):List W->List W->(List W->Prop)->Prop
 |[],acc,Q=>Q acc
 |w::a,acc,Q=>f w λr=>match r with
  |some y=>acc.length<sizeLine/\jA f a (acc++[y]) Q
  |none=>jA f a acc Q
noncomputable def truth:W->(Bool->Prop)->Prop
 |.bl b,Q=>Q b
 |_,_=>False
noncomputable def items:W->(List W->Prop)->Prop
 |.lst l,Q=>Q l
 |.tup l,Q=>Q l
 |_,_=>False
noncomputable def eE(a st:Int)(n:Nat):List W:=(D2 n).map λ(i:Nat)=>W.int (a+(i:Int)*st)
noncomputable def G7:List W->(List W->Prop)->Prop
 |[.int j],Q=> -(2^62)<=j/\j<2^62/\Q (eE 0 1 j.toNat)
 |[.int i,.int j],Q=>(-(2^62)<=i/\i<2^62/\-(2^62)<=j/\j<2^62)/\Q (eE i 1 (j -i).toNat)
 |[.int i,.int j,.int k],Q=>∃n:Nat,(k≠0/\k.natAbs<1073741824/\Builtin.Range.small i j k=true/\Builtin.Range.rangeSize i j k=(n:Int))/\Q (eE i k n)
 |_,_=>False
noncomputable def gK(l:List W):List W:=List.zipWith (λ(i:Nat) w=>W.tup [.int i,w]) (D2 l.length) l
mutual
noncomputable def E5:W->Bool
 |.aW=>true
 |.bl _=>true
 |.int _=>true
 |.str _=>true
 |.tup l=>yz l
 |_=>false
noncomputable def yz:List W->Bool
 |[]=>true
 |w::l=>E5 w&&yz l
end
mutual
noncomputable def flat:Md->W->Bool
 |.s,w=>E5 w
 |.f,w=>match w with
  |.lst l=>yz l
  |_=>false
 |.t a,w=>match w with
  |.tup l=>Cp a l
  |_=>false
 |.o _ _,_=>false
 |.io _,_=>false
 |.ls _,_=>false
noncomputable def Cp:List Md->List W->Bool
 |[],l=>l.isEmpty
 |m::a,l=>match l with
  |w::l=>flat m w&&Cp a l
  |[]=>false
end
noncomputable def nM(x:W):W->W
 |.tup (.lst us::r)=>.tup (.lst (us++[x])::r)
 |w=>w
noncomputable def cst:CE->Option W
 |.int i=>some (.int i)
 |.tup [.int i,.int j]=>some (.tup [.int i,.int j])
 |_=>none
abbrev aZ:=List W->(W->Prop)->(Addr->Prop)->Prop
noncomputable def QF:W->Bool
 |.aW|.bl _|.int _|.str _=>true
 |_=>false
section
variable(Φ:Nat->aZ)(G:Nat->W)
mutual
noncomputable def wE(R:Addr->Prop):CE->Ev->(W->Prop)->Prop
 |.var i,d,Q=>match look d i with
  |some w=>Q w
  |none=>False
 |.int i,_,Q=>Q (.int i)
 |.bl b,_,Q=>Q (.bl b)
 |.str x,_,Q=>Q (.str x)
 |.aW,_,Q=>Q .aW
 |.As n,_,Q=>Q (.ty n)
 |.glob g,_,Q=>Q (G g)
 |.bin op a b,d,Q=>wE R a d λx=>wE R b d λy=>iB op x y Q
 |.neg a,d,Q=>wE R a d λx=>match x with
  |.int i=>Q (.int (-i))
  |_=>False
 |.not a,d,Q=>wE R a d λx=>truth x λb=>Q (.bl (!b))
 |.cmp op a b,d,Q=>wE R a d λx=>wE R b d λy=>iY op x y Q
 |.and as,d,Q=>Dh R as d Q
 |.or as,d,Q=>Tu R as d Q
 |.tup as,d,Q=>wA R as d λj=>j.length<=sizeLine/\Q (.tup j)
 |.lst as,d,Q=>wA R as d λj=>j.length<=sizeLine/\Q (.lst j)
 |.ix a i,d,Q=>wE R a d λx=>wE R i d λy=>VZ x y Q
 |.sl a o p,d,Q=>wE R a d λx=>wE R o d λy=>Ls o y λl=>wE R p d λz=>Ls p z λh=>XY x l h Q
 |.call f as,d,Q=>wA R as d λj=>Φ f j Q R
 |.blt b as,d,Q=>wA R as d λj=>sO b j Q
 |.bits a,d,Q=>wE R a d λx=>match x with
  |.int i=>Q (.int (Builtin.Int.intBits i:Nat))
  |_=>False
 |.comp q one n r c e,d,Q=>wE R r d λz=>items z λj=>jA (λw K=>wT one q w (A0 n none++d) λm=>wE (λ_=>False) c m λx=>truth x λk=>if k=true then wE (λ_=>False) e m λy=>K (some y)else K none) j [] λl=>Q (.lst l)
 |.jP as,d,Q=>wA R as d λj=>G7 j λl=>Q (.lst l)
 |.uE a,d,Q=>wE R a d λx=>match x with
  |.lst l=>Q (.lst (gK l))
  |_=>False
 |.pop _,_,_=>False
 |.own i π,d,Q=>match look d i with
  |some w=>match cW w π with
   |some u=>Q u
   |none=>False
  |none=>False
 |.Co _ a,d,Q=>wE R a d λw=>QF w=true/\Q w
 |.Lr _ _ _ _,_,_=>False
noncomputable def wA(R:Addr->Prop):List CE->Ev->(List W->Prop)->Prop
 |[],_,Q=>Q []
 |a::as,b,Q=>wE R a b λx=>wA R as b λc=>Q (x::c)
noncomputable def Dh(R:Addr->Prop):List CE->Ev->(W->Prop)->Prop
 |[],_,_=>False
 |a::as,c,Q=>match as with
  |[]=>wE R a c Q
  |b::bs=>wE R a c λx=>truth x λk=>if k=true then Dh R (b::bs) c Q else Q (.bl false)
noncomputable def Tu(R:Addr->Prop):List CE->Ev->(W->Prop)->Prop
 |[],_,_=>False
 |a::as,c,Q=>match as with
  |[]=>wE R a c Q
  |b::bs=>wE R a c λx=>truth x λk=>if k=true then Q (.bl true)else Tu R (b::bs) c Q
end
structure Dn where
 nx:Ev->Prop
 rt:W->Prop
 bk:Ev->Prop
 ct:Ev->Prop
 ex:Addr->Prop
mutual
noncomputable def wP(R:Addr->Prop):CE->Ev->(W->Ev->Prop)->Prop
 |.pop i,c,Q=>match look c i with
  |some (.lst l)=>∃w,l[l.length -1]?=some w/\Q w (c.set i (some (.lst l.dropLast)))
  |_=>False
 |.Lr i g f as,c,Q=>match look c i with
  |some (.obj C _ _)=>G g=.cls C/\Yi R as c λj d=>match look d i with
   |some k=>Φ f (k::j) (λr=>∃w y,r=.tup [w,y]/\Q w (d.set i (some y))) R
   |none=>False
  |_=>False
 |.bin op a b,c,Q=>wP R a c λx m=>wP R b m λy h=>iB op x y λz=>Q z h
 |e,c,Q=>wE Φ G R e c λw=>Q w c
noncomputable def Yi(R:Addr->Prop):List CE->Ev->(List W->Ev->Prop)->Prop
 |[],b,Q=>Q [] b
 |a::as,b,Q=>wP R a b λx e=>Yi R as e λd c=>Q (x::d) c
end
noncomputable def mF(b:W->Dn->Ev->Prop)(D:Dn):List W->Ev->Prop
 |[],a=>D.nx a
 |w::c,a=>b w {nx:=mF b D c,rt:=D.rt,bk:=D.nx,ct:=mF b D c,ex:=λ_=>False} a
noncomputable def Lu(c:Ev->(Bool->Prop)->Prop)(b:Dn->Ev->Prop)(D:Dn)(a:Ev):Prop:=
 ∃J:Nat->Ev->Prop,(∃m,J m a)/\∀m a,J m a->c a λk=>if k=true then∃N:Ev->Prop,(∀d,N d->∃e,e<m/\J e d)/\b {nx:=N,rt:=D.rt,bk:=D.nx,ct:=N,ex:=λ_=>False} a else D.nx a
mutual
noncomputable def wS:CS->Dn->Ev->Prop
 |.set i e,D,d=>wE Φ G D.ex e d λw=>D.nx (d.set i (some w))
 |.D9 p e,D,d=>wE Φ G D.ex e d λw=>match w with
  |.tup l=>l.length=p.length/\D.nx (cO d p l)
  |_=>False
 |.par p es,D,d=>wA Φ G D.ex es d λh=>h.length=p.length/\D.nx (cO d p h)
 |.app i e,D,d=>match look d i with
  |some (.lst l)=>wE Φ G D.ex e d λw=>l.length<sizeLine/\D.nx (d.set i (some (.lst (l++[w]))))
  |_=>False
 |.put i k e,D,d=>wE Φ G D.ex e d λw=>match look d i with
  |some (.lst l)=>wE Φ G D.ex k d λx=>match x with
   |.int j=>∃n,xK l.length j=some n/\D.nx (d.set i (some (.lst (l.set n w))))
   |_=>False
  |_=>False
 |.drop i,D,d=>wP Φ G D.ex (.pop i) d λ_ f=>D.nx f
 |.yx j e,D,d=>wP Φ G D.ex e d λw f=>D.nx (f.set j (some w))
 |.ret e,D,d=>wE Φ G D.ex e d D.rt
 |.iff c a b,D,d=>wE Φ G D.ex c d λx=>truth x λk=>if k=true then wSs a D d else wSs b D d
 |.xO c b,D,d=>Lu (λd Q=>wE Φ G (λ_=>False) c d λx=>truth x Q) (wSs b) D d
 |.fr p one q b,D,d=>wE Φ G (λ_=>False) q d λz=>items z λh=>mF (λw u f=>wT one p w f λs=>wSs b u s) D h d
 |.brk,D,d=>D.bk d
 |.raise g e,D,d=>match G g with
  |.cls C=>wE Φ G D.ex e d λ_=>D.ex C
  |_=>False
 |.Ea i n e,D,d=>wE Φ G D.ex e d λw=>match look d i with
  |some (.obj C t h)=>n<h.length/\D.nx (d.set i (some (.obj C t (h.set n w))))
  |_=>False
 |.T3 e,D,d=>wE Φ G D.ex e d λw=>match look d 0 with
  |some r=>D.rt (.tup [w,r])
  |none=>False
 |.VQ e,D,d=>wP Φ G D.ex e d λ_ f=>D.nx f
 |.nK,_,_=>False
 |.VR i as,D,d=>wA Φ G D.ex as d λh=>h.length<=sizeLine/\D.nx (d.set i (some (.lst h)))
 |.T6 i e,D,d=>match look d i with
  |some (.lst l)=>wE Φ G D.ex e d λw=>l.length<sizeLine/\D.nx (d.set i (some (.lst (l++[w]))))
  |_=>False
 |.VU i _ m p one n q c e,D,d=>wE Φ G D.ex q d λz=>items z λh=>jA (λw K=>wT one p w (A0 n none++d) λf=>wE Φ G (λ_=>False) c f λx=>truth x λk=>if k=true then wE Φ G (λ_=>False) e f λy=>flat m y=true/\K (some y)else K none) h [] λl=>D.nx (d.set i (some (.lst l)))
 |.VV j a b e,D,d=>match cst e with
  |some x0=>match look d j with
   |some (.lst l)=>(∀w∈l,∃us o,w=.tup [.lst us,o]/\us.length<sizeLine)/\a<d.length/\D.nx (((d.set a none).set b none).set j (some (.lst (l.map (nM x0)))))
   |_=>False
  |none=>False
 |.T4 _ b,D,d=>wSs b {D with nx:=λ_=>False,bk:=λ_=>False,ct:=λ_=>False} d
noncomputable def wSs:List CS->Dn->Ev->Prop
 |[],D,a=>D.nx a
 |s::c,D,a=>match c with
  |[]=>wS s D a
  |t::b=>wS s {D with nx:=wSs (t::b) D} a
end
end
noncomputable def bJ(K:Frag)(B:Addr->Prop)(H:Hp)(w:W)(v:V):Prop:=
 match w with
 |.lst l=>∃p a,v=.ref p/\Rd H p (.lst a)/\au K B H l a
 |w=>Rep K B H w v
section
variable{K:Frag}{A B:Addr->Prop}{H H':Hp}{w:W}{v:V}
theorem Rep.b(h:Rep K B H w v):bJ K B H w v:=by
 cases w with
 |lst l=>obtain⟨p,a,e,_,d,c⟩:=h;exact⟨p,a,e,d,c⟩
 |_=>exact h
theorem bJ.same(s:aE H H')(h:bJ K B H w v):bJ K B H' w v:=by
 cases w with
 |lst l=>obtain⟨p,a,e,c,b⟩:=h;exact⟨p,a,e,VL.aE.rd s c,b.same s⟩
 |_=>exact Rep.same s h
theorem bJ.lst{l:List W}(h:bJ K B H (.lst l) v):∃p vs,v=.ref p/\Rd H p (.lst vs)/\au K B H l vs:=h
theorem bJ.V1{l:List W}(h:bJ K B H (.tup l) v):∃p vs,v=.ref p/\H p=some (.tup vs)/\au K B H l vs:=by have h:Rep K B H (.tup l) v:=h;dsimp only[Rep]at h;exact h
theorem bJ.tup{l:List W}(h:bJ K B H (.tup l) v):∃p vs,v=.ref p/\kL K H p vs/\au K B H l vs:=by have h:Rep K B H (.tup l) v:=h;obtain⟨p,vs,e,b,a⟩:=h;exact⟨p,vs,e,kL.of b,a⟩
theorem bJ.int{i:Int}(h:bJ K B H (.int i) v):v=.int i:=by have h:Rep K B H (.int i) v:=h;dsimp only[Rep]at h;exact h
theorem bJ.bl{i:Bool}(h:bJ K B H (.bl i) v):v=.bl i:=by have h:Rep K B H (.bl i) v:=h;dsimp only[Rep]at h;exact h
theorem bJ.str{i:Str}(h:bJ K B H (.str i) v):v=.str i:=by have h:Rep K B H (.str i) v:=h;dsimp only[Rep]at h;exact h
theorem bJ.aW(h:bJ K B H .aW v):v=.aW:=by have h:Rep K B H .aW v:=h;dsimp only[Rep]at h;exact h
theorem bJ.ty{n:String}(h:bJ K B H (.ty n) v):v=.ty n:=by have h:Rep K B H (.ty n) v:=h;dsimp only[Rep]at h;exact h
theorem iZ(i:Int):Rep K B H (.int i) (.int i):=by dsimp only[Rep]
theorem Au(i:Bool):Rep K B H (.bl i) (.bl i):=by dsimp only[Rep]
theorem V2(i:Str):Rep K B H (.str i) (.str i):=by dsimp only[Rep]
theorem V3:Rep K B H .aW .aW:=by dsimp only[Rep]
theorem rTy(n:String):Rep K B H (.ty n) (.ty n):=by dsimp only[Rep]
theorem Ec{l:List W}{p:Addr}{vs:List V}(b:H p=some (.tup vs))(a:au K B H l vs):Rep K B H (.tup l) (.ref p):=by dsimp only[Rep];exact⟨p,vs,rfl,b,a⟩
end
abbrev KP:=W->Prop
noncomputable def Cont(K:Frag)(B:Addr->Prop)(H:Hp)(m:Md)(P:KP)(Q:VK):Prop:=∀w v a,P w->aE H a->dW K B H a m w v->Q v a
theorem Cont.now{K:Frag}{B:Addr->Prop}{H:Hp}{P:KP}{Q:VK}(c:Cont K B H .s P Q){w:W}{v:V}(p:P w)(h:Rep K B H w v):Q v H:=c w v H p (aE.refl H) (.of h)
theorem Cont.s{K:Frag}{B:Addr->Prop}{H:Hp}{m:Md}{P:KP}{Q:VK}(d:Dom B H)(c:Cont K B H .s P Q):Cont K B H m P Q:=λw v b p a h=>c w v b p a (h.s d)
noncomputable def Lv(X:Cx)(f:Value->Value->Sem Value)(r:W->W->KP->Prop)(m:W->W->Md):Prop:=
 ∀(a:List (Addr×Obj))(s:Shared)(b:St)(H:Hp)(B:Addr->Prop)(x y:W)(d c:V)(v u:Value)(P:KP)(Q:VK),Inv X a b H s->Dom B H->RelV d v->RelV c u->bJ X.K B H x d->bJ X.K B H y c->r x y P->Cont X.K B H (m x y) P Q->
  wpAny (model X.prog X.w) X.A (f v u) (EP X a b Q) X.xe s
section
variable{X:Cx}
theorem Lw:kM X (binaryOp .Add) (λx y H Q=>∃l b f d,x=.ref l/\y=.ref b/\Rd H l (.lst f)/\Rd H b (.lst d)/\f.length+d.length<=sizeLine/\∀p,H p=none->Q (.ref p) (upd H p (.lst (f++d)))):=by
 intro i s B H x y v u Q I k j h;obtain⟨l,b,f,d,rfl,rfl,o,t,hz,q⟩:=h;cases k;cases j;obtain⟨z,c,n,r,e⟩:=o.ok I.hok;obtain⟨C,a,D,g,A⟩:=t.ok I.hok;have E:=r.length;have m:=g.length;refine PySem.P.add_list e A ?_ (by rw[Fs,Fs];lia);have w:c.toArray++a.toArray=(c++a).toArray:=by simp
 rw[w];exact⟨.ref _,_,I.P4 (t':=s.toks) (r.append g) (by rw[Fm];lia),rfl,q _ I.fresh⟩
theorem Lx:kM X (binaryOp .Mult) (λx y H Q=>∃l k i,x=.ref l/\y=.int k/\Rd H l (.lst i)/\-(2^63)<=k/\k<2^63/\i.length*k.toNat<=sizeLine/\∀p,H p=none->Q (.ref p) (upd H p (.lst (A0 k.toNat i).flatten))):=by
 intro w s M H x y v u Q I C B h;obtain⟨l,k,i,rfl,rfl,E,J,G,hz,q⟩:=h;cases C;obtain⟨t,rfl⟩:=B;obtain⟨z,b,n,r,e⟩:=E.ok I.hok;have D:=r.length;have d:b.toArray.size*k.toNat<=sizeLine:=by rw[Fs,<-D];exact hz
 have g:¬b.toArray.size*k.toNat>(2^63 -1)/8:=by
  have:(sizeLine:Nat)<=(2^63 -1)/8:=by decide
  lia
 have f:¬(!Builtin.List.listFitsIndex k)=true:=by rw[fitsIndex_both J G];exact Mo
 have L:¬Builtin.List.listTooLong (b.toArray.size*k.toNat)=true:=by rw[FQ d];exact Mo
 have c:dZ (λo j=>o++j) #[] (A0 (if b.toArray.isEmpty=true then 0 else k.toNat) b.toArray)=(A0 k.toNat b).flatten.toArray:=by
  have K:∀m:Nat,dZ (λo j=>o++j) #[] (A0 m b.toArray)=(A0 m b).flatten.toArray:=λm=>by have:=foldl_rep b m [];rw[Dy]at this;exact this
  rw[K];cases b with
  |nil=>simp
  |cons a N=>rw[Bn (by simp)]
 refine wpAny_binaryOp_repeat_ref (T:="list") (U:="int") (by decide) ⟨_,e,rfl⟩ (λA=>typeIs_int A k t) noFill_list_mul F.fills_int_mul F.slot_int_rmul repeat_list F.slot_int_index.lookup
  (call_meets F.slot_int_rmul (typeIs_int s k t) F.entry_int_rmul (F.args_int_rmul_2 _ _) (int___rmul___int_list k t l b.toArray n)
    ⟨e,rfl,⟨_,e,rfl⟩,call_meets F.slot_list_mul ⟨_,e,rfl⟩ F.entry_list_mul (F.args_list_mul_2 _ _) (AutoListH.list___mul___list_int_3 l b.toArray n k t f g L) ⟨e,?_⟩⟩)
 rw[c];exact⟨.ref _,_,I.P4 (t':=s.toks) (r.rep k.toNat) (by rw[len_rep,d5];exact hz),rfl,q _ I.fresh⟩
noncomputable def Ly:W->W->Md
 |.lst _,_=>.f
 |_,_=>.s
theorem QG:Lv X (binaryOp .Add) VW Ly:=by
 intro f s m H B x y M L v u P Q I d t o A w h c;cases x with
 |int i=>
  cases y with
  |int j=>
   cases A.int;cases w.int;exact Pz f s m H _ _ v u Q I t o ⟨i,j,rfl,rfl,c.now h (iZ _)⟩
  |_=>exact h.elim
 |str i=>
  cases y with
  |str j=>
   cases A.str;cases w.str;exact zS f s m H _ _ v u Q I t o ⟨i,j,rfl,rfl,h.1,c.now h.2 (V2 _)⟩
  |_=>exact h.elim
 |lst a=>
  cases y with
  |lst b=>obtain⟨p,n,rfl,G,g⟩:=A.lst;obtain⟨q,C,rfl,D,k⟩:=w.lst;obtain⟨F,h⟩:=h;refine Lw f s m H _ _ v u Q I t o ⟨p,q,n,C,rfl,rfl,G,D,by rw[g.len,k.len];exact F,λr l=>?_⟩;exact c _ _ _ h (aL l _) (.fresh (aE.refl H) l (g.app k))
  |_=>exact h.elim
 |tup a=>
  cases y with
  |tup b=>
   obtain⟨p,n,rfl,J,g⟩:=A.V1;have G:kL X.K H p n:=kL.of J;obtain⟨q,C,rfl,D,k⟩:=w.tup;obtain⟨E,F,h⟩:=h;refine Kw f s m H _ _ v u Q I t o ⟨p,q,n,C,rfl,rfl,G,D,λz=>E ?_,by rw[g.len,k.len];exact F,λz=>?_,λ_ r l=>?_⟩
   .have:=g.len;rw[z]at this;exact Hn.mp this.symm
   .have:=k.len;rw[z]at this;have e:b=[]:=Hn.mp this.symm;subst e;rw[aw]at h;exact c.now h (Ec J g)
   .exact c _ _ _ h (aL l _) (.of (Ec aA ((g.app k).same (aL l _))))
  |_=>exact h.elim
 |_=>exact h.elim
theorem QH:Lv X (binaryOp .Mult) VX Ly:=by
 intro b s e H B x y D C v u P Q I d g f m l h c;cases x with
 |int i=>
  cases y with
  |int j=>
   cases m.int;cases l.int;exact KI b s e H _ _ v u Q I g f ⟨i,j,rfl,rfl,h.1,c.now h.2 (iZ _)⟩
  |_=>exact h.elim
 |lst a=>
  cases y with
  |int k=>obtain⟨p,q,rfl,A,o⟩:=m.lst;cases l.int;obtain⟨w,t,z,h⟩:=h;refine Lx b s e H _ _ v u Q I g f ⟨p,k,q,rfl,rfl,A,w,t,by rw[o.len];exact z,λr n=>?_⟩;exact c _ _ _ h (aL n _) (.fresh (aE.refl H) n (o.rep _))
  |_=>exact h.elim
 |_=>exact h.elim
noncomputable def mS:W->W->Md:=λ_ _=>.s
theorem QI:Lv X (binaryOp .Sub) VY mS:=by
 intro a s b H B x y m l v u P Q I d f e k g h c;cases x with
 |int i=>
  cases y with
  |int j=>
   cases k.int;cases g.int;exact PB a s b H _ _ v u Q I f e ⟨i,j,rfl,rfl,c.now h (iZ _)⟩
  |_=>exact h.elim
 |_=>exact h.elim
theorem yC{f:Value->Value->Sem Value}{C:Int->Int->Prop}{g:Int->Int->Int}(n:kM X f (rI C λi j=>.int (g i j))):Lv X f (T7 C g) mS:=by
 intro a s b H B x y p o v u P Q I d k e m l h c;cases x with
 |int i=>
  cases y with
  |int j=>
   cases m.int;cases l.int;exact n a s b H _ _ v u Q I k e ⟨i,j,rfl,rfl,h.1,c.now h.2 (iZ _)⟩
  |_=>exact h.elim
 |_=>exact h.elim
noncomputable def Lz:Operator->W->W->Md
 |.Add=>Ly
 |.Mult=>Ly
 |_=>mS
theorem Av(op:Operator):Lv X (binaryOp op) (iB op) (Lz op):=by
 cases op with
 |Add=>exact QG
 |Sub=>exact QI
 |Mult=>exact QH
 |FloorDiv=>exact yC FY
 |Mod=>exact yC Kl
 |Pow=>exact yC PC
 |LShift=>exact yC PD
 |RShift=>exact yC PJ
 |_=>exact λa s b H B x y f e v u P Q I d i g k j h c=>h.elim
theorem vL{f:Value->Value->Sem Value}{p:Int->Int->Bool}(m:kM X f (Kg λi j=>.bl (p i j))):Lv X f (G6 p) mS:=by
 intro a s b H B x y o n v u P Q I d g e l k h c;cases x with
 |int i=>
  cases y with
  |int j=>
   cases l.int;cases k.int;exact m a s b H _ _ v u Q I g e ⟨i,j,rfl,rfl,c.now h (Au _)⟩
  |_=>exact h.elim
 |_=>exact h.elim
end
mutual
noncomputable def toD:W->PyData
 |.aW=>.none
 |.bl b=>.bool b
 |.int i=>.int i
 |.str x=>.str x
 |.lst l=>.list (toDL l)
 |.tup l=>.tuple (toDL l)
 |_=>.none
noncomputable def toDL:List W->List PyData
 |[]=>[]
 |w::l=>toD w::toDL l
end
mutual
noncomputable def Cq:W->Bool
 |.aW=>true
 |.bl _=>true
 |.int _=>true
 |.str x=>PyData.strOk x
 |.lst l=>vM l
 |.tup l=>vM l
 |_=>false
noncomputable def vM:List W->Bool
 |[]=>true
 |w::l=>Cq w&&vM l
end
section
variable{X:Cx}{B:Addr->Prop}{H:Hp}
mutual
theorem V6:∀(w:W){v:V},Cq w=true->Rep X.K B H w v->Dt X H v (toD w)
 |.aW,v,_,h=>by obtain rfl:=h;exact Qi
 |.bl b,v,_,h=>by obtain rfl:=h;exact Oa b
 |.int i,v,_,h=>by obtain rfl:=h;exact Qg i
 |.str x,v,_,h=>by obtain rfl:=h;exact Qh x
 |.lst l,v,d,h=>by obtain⟨p,e,rfl,_,c,a⟩:=h;exact u9 (.inl c) (Cr l d a)
 |.tup l,v,d,h=>by obtain⟨p,e,rfl,c,a⟩:=h;exact Qj (kL.of c) (Cr l d a)
 |.ty _,_,d,_=>ff d
 |.cls _,_,d,_=>ff d
 |.err _,_,d,_=>ff d
 |.dct _ _,_,d,_=>ff d
 |.obj _ _ _,_,d,_=>ff d
 |.di _,_,d,_=>ff d
theorem Cr:∀(l:List W){vs:List V},vM l=true->au X.K B H l vs->Paired (Dt X H) vs (toDL l)
 |[],vs,_,h=>by rw[h.nil_inv];exact .nil
 |w::l,vs,d,h=>by obtain⟨v,r,rfl,b,a⟩:=h.cons_inv;have d:=Y2.mp d;exact .cons (V6 w d.1 b) (Cr l d.2 a)
end
theorem LA{w:W}{v:V}(d:Cq w=true)(h:bJ X.K B H w v):Dt X H v (toD w):=by
 cases w with
 |lst l=>obtain⟨p,c,rfl,b,a⟩:=h.lst;exact u9 (.inl b) (Cr l d a)
 |_=>exact V6 (B:=B) _ d h
end
mutual
theorem toD_lay:∀w:W,Cq w=true->(toD w).canLay0=true
 |.aW,_=>rfl
 |.bl _,_=>rfl
 |.int _,_=>rfl
 |.str x,d=>d
 |.lst l,d=>toDL_lay l d
 |.tup l,d=>toDL_lay l d
 |.ty _,d=>ff d
 |.cls _,d=>ff d
 |.err _,d=>ff d
 |.dct _ _,d=>ff d
 |.obj _ _ _,d=>ff d
 |.di _,d=>ff d
theorem toDL_lay:∀l:List W,vM l=true->PyData.canLayAll0 (toDL l)=true
 |[],_=>rfl
 |w::l,d=>by have d:=Y2.mp d;exact Y2.mpr ⟨toD_lay w d.1,toDL_lay l d.2⟩
end
mutual
theorem toD_inj:∀x y:W,Cq x=true->Cq y=true->same (toD x) (toD y)=true->x=y
 |.aW,.aW,_,_,_=>rfl
 |.aW,.bl _,_,_,h=>ff h
 |.aW,.int _,_,_,h=>ff h
 |.aW,.str _,_,_,h=>ff h
 |.aW,.lst _,_,_,h=>ff h
 |.aW,.tup _,_,_,h=>ff h
 |.bl _,.aW,_,_,h=>ff h
 |.bl _,.int _,_,_,h=>ff h
 |.bl _,.str _,_,_,h=>ff h
 |.bl _,.lst _,_,_,h=>ff h
 |.bl _,.tup _,_,_,h=>ff h
 |.int _,.aW,_,_,h=>ff h
 |.int _,.bl _,_,_,h=>ff h
 |.int _,.str _,_,_,h=>ff h
 |.int _,.lst _,_,_,h=>ff h
 |.int _,.tup _,_,_,h=>ff h
 |.str _,.aW,_,_,h=>ff h
 |.str _,.bl _,_,_,h=>ff h
 |.str _,.int _,_,_,h=>ff h
 |.str _,.lst _,_,_,h=>ff h
 |.str _,.tup _,_,_,h=>ff h
 |.lst _,.aW,_,_,h=>ff h
 |.lst _,.bl _,_,_,h=>ff h
 |.lst _,.int _,_,_,h=>ff h
 |.lst _,.str _,_,_,h=>ff h
 |.lst _,.tup _,_,_,h=>ff h
 |.tup _,.aW,_,_,h=>ff h
 |.tup _,.bl _,_,_,h=>ff h
 |.tup _,.int _,_,_,h=>ff h
 |.tup _,.str _,_,_,h=>ff h
 |.tup _,.lst _,_,_,h=>ff h
 |.bl a,.bl b,_,_,h=>PQ _ (eq_of_beq h)
 |.int a,.int b,_,_,h=>PQ _ (eq_of_beq h)
 |.str a,.str b,_,_,h=>PQ _ (eq_of_beq h)
 |.lst a,.lst b,d,e,h=>PQ _ (toDL_inj a b d e h)
 |.tup a,.tup b,d,e,h=>PQ _ (toDL_inj a b d e h)
 |.ty _,_,d,_,_=>ff d
 |.cls _,_,d,_,_=>ff d
 |.err _,_,d,_,_=>ff d
 |.dct _ _,_,d,_,_=>ff d
 |.obj _ _ _,_,d,_,_=>ff d
 |.di _,_,d,_,_=>ff d
 |_,.ty _,_,d,_=>ff d
 |_,.cls _,_,d,_=>ff d
 |_,.err _,_,d,_=>ff d
 |_,.dct _ _,_,d,_=>ff d
 |_,.obj _ _ _,_,d,_=>ff d
 |_,.di _,_,d,_=>ff d
theorem toDL_inj:∀x y:List W,vM x=true->vM y=true->sameAll (toDL x) (toDL y)=true->x=y
 |[],[],_,_,_=>rfl
 |[],_::_,_,_,h=>ff h
 |_::_,[],_,_,h=>ff h
 |x::b,y::a,d,e,h=>by have d:=Y2.mp d;have e:=Y2.mp e;have h:=Y2.mp h;rw[toD_inj x y d.1 e.1 h.1,toDL_inj b a d.2 e.2 h.2]
end
mutual
theorem toD_refl:∀x:W,Cq x=true->same (toD x) (toD x)=true
 |.aW,_=>rfl
 |.bl a,_=>h7 a
 |.int a,_=>h7 a
 |.str a,_=>h7 a
 |.lst a,d=>toDL_refl a d
 |.tup a,d=>toDL_refl a d
 |.ty _,d=>ff d
 |.cls _,d=>ff d
 |.err _,d=>ff d
 |.dct _ _,d=>ff d
 |.obj _ _ _,d=>ff d
 |.di _,d=>ff d
theorem toDL_refl:∀x:List W,vM x=true->sameAll (toDL x) (toDL x)=true
 |[],_=>rfl
 |x::a,d=>by have d:=Y2.mp d;exact Y2.mpr ⟨toD_refl x d.1,toDL_refl a d.2⟩
end
theorem toD_same(x y:W)(d:Cq x=true)(e:Cq y=true):same (toD x) (toD y)=true↔x=y:=⟨toD_inj x y d e,by rintro rfl;exact toD_refl x d⟩
theorem toDL_map:∀l:List W,toDL l=l.map toD
 |[]=>rfl
 |w::l=>PQ (toD w::·) (toDL_map l)
theorem qV:∀l:List W,vM l=l.all Cq
 |[]=>rfl
 |w::l=>PQ (Cq w&&·) (qV l)
theorem LB:∀(n:Nat)(w:W),(sX n w=true\/JY n w=true)->Cq w=true/\(toD w).depth<=n+1
 |n,.aW,_=>⟨rfl,L9 _⟩
 |n,.bl _,_=>⟨rfl,L9 _⟩
 |n,.int _,_=>⟨rfl,L9 _⟩
 |n,.str x,h=>by
  have:PyData.strOk x=true:=by
   rcases h with h|h
   .cases n<;>exact h
   .cases n<;>exact h
  exact⟨this,L9 _⟩
 |0,.lst l,h=>h.elim ff ff
 |0,.tup l,h=>h.elim ff ff
 |n+1,.lst l,h=>by
  have b:∀w∈l,Cq w=true/\(toD w).depth<=n+1:=λw a=>by
   refine LB n w ?_;rcases h with h|h
   .exact .inl (Kb.mp h w a)
   .exact .inr (Kb.mp h w a)
  refine⟨(qV l).trans (Kb.mpr λw a=>(b w a).1),?_⟩;dsimp only[toD];rw[toDL_map];exact eC (yc λx c=>by obtain⟨w,a,rfl⟩:=Ki.mp c;exact(b w a).2)
 |n+1,.tup l,h=>by
  have b:∀w∈l,Cq w=true/\(toD w).depth<=n+1:=λw a=>by
   refine LB n w ?_;rcases h with h|h
   .exact .inl (Kb.mp h w a)
   .exact .inr (Kb.mp h w a)
  refine⟨(qV l).trans (Kb.mpr λw a=>(b w a).1),?_⟩;dsimp only[toD];rw[toDL_map];exact eC (yc λx c=>by obtain⟨w,a,rfl⟩:=Ki.mp c;exact(b w a).2)
 |0,.ty _,h=>h.elim ff ff
 |0,.cls _,h=>h.elim ff ff
 |0,.err _,h=>h.elim ff ff
 |0,.dct _ _,h=>h.elim ff ff
 |0,.obj _ _ _,h=>h.elim ff ff
 |0,.di _,h=>h.elim ff ff
 |n+1,.ty _,h=>h.elim ff ff
 |n+1,.cls _,h=>h.elim ff ff
 |n+1,.err _,h=>h.elim ff ff
 |n+1,.dct _ _,h=>h.elim ff ff
 |n+1,.obj _ _ _,h=>h.elim ff ff
 |n+1,.di _,h=>h.elim ff ff
inductive Cs(b:Bool):PyData->Prop where
 |none:Cs b .none
 |str (x:Str):Cs b (.str x)
 |bool (x:Bool) (h:b=true):Cs b (.bool x)
 |int (x:Int) (h:b=false):Cs b (.int x)
 |list {l:List PyData} (h:∀x∈l,Cs b x):Cs b (.list l)
 |tuple {l:List PyData} (h:∀x∈l,Cs b x):Cs b (.tuple l)
mutual
theorem vN{b:Bool}:∀d e:PyData,Cs b d->Cs b e->SeqAt.noMix d e=true
 |.list c,.list a,h,k=>by
  cases h with
  |list h=>
   cases k with
   |list k=>rw[SeqAt.noMix];exact qW c a h k
 |.tuple c,.tuple a,h,k=>by
  cases h with
  |tuple h=>
   cases k with
   |tuple k=>rw[SeqAt.noMix];exact qW c a h k
 |.bool _,.int _,h,k=>by
  cases h with
  |bool _ h=>
   cases k with
   |int _ k=>rw[h]at k;cases k
 |.int _,.bool _,h,k=>by
  cases h with
  |int _ h=>
   cases k with
   |bool _ k=>rw[h]at k;exact ff k
 |.dict _,_,h,_=>by cases h
 |.none,.none,_,_=>by simp[SeqAt.noMix]
 |.none,.bool _,_,_=>by simp[SeqAt.noMix]
 |.none,.int _,_,_=>by simp[SeqAt.noMix]
 |.none,.str _,_,_=>by simp[SeqAt.noMix]
 |.none,.list _,_,_=>by simp[SeqAt.noMix]
 |.none,.tuple _,_,_=>by simp[SeqAt.noMix]
 |.none,.dict _,_,_=>by simp[SeqAt.noMix]
 |.bool _,.none,_,_=>by simp[SeqAt.noMix]
 |.bool _,.bool _,_,_=>by simp[SeqAt.noMix]
 |.bool _,.str _,_,_=>by simp[SeqAt.noMix]
 |.bool _,.list _,_,_=>by simp[SeqAt.noMix]
 |.bool _,.tuple _,_,_=>by simp[SeqAt.noMix]
 |.bool _,.dict _,_,_=>by simp[SeqAt.noMix]
 |.int _,.none,_,_=>by simp[SeqAt.noMix]
 |.int _,.int _,_,_=>by simp[SeqAt.noMix]
 |.int _,.str _,_,_=>by simp[SeqAt.noMix]
 |.int _,.list _,_,_=>by simp[SeqAt.noMix]
 |.int _,.tuple _,_,_=>by simp[SeqAt.noMix]
 |.int _,.dict _,_,_=>by simp[SeqAt.noMix]
 |.str _,.none,_,_=>by simp[SeqAt.noMix]
 |.str _,.bool _,_,_=>by simp[SeqAt.noMix]
 |.str _,.int _,_,_=>by simp[SeqAt.noMix]
 |.str _,.str _,_,_=>by simp[SeqAt.noMix]
 |.str _,.list _,_,_=>by simp[SeqAt.noMix]
 |.str _,.tuple _,_,_=>by simp[SeqAt.noMix]
 |.str _,.dict _,_,_=>by simp[SeqAt.noMix]
 |.list _,.none,_,_=>by simp[SeqAt.noMix]
 |.list _,.bool _,_,_=>by simp[SeqAt.noMix]
 |.list _,.int _,_,_=>by simp[SeqAt.noMix]
 |.list _,.str _,_,_=>by simp[SeqAt.noMix]
 |.list _,.tuple _,_,_=>by simp[SeqAt.noMix]
 |.list _,.dict _,_,_=>by simp[SeqAt.noMix]
 |.tuple _,.none,_,_=>by simp[SeqAt.noMix]
 |.tuple _,.bool _,_,_=>by simp[SeqAt.noMix]
 |.tuple _,.int _,_,_=>by simp[SeqAt.noMix]
 |.tuple _,.str _,_,_=>by simp[SeqAt.noMix]
 |.tuple _,.list _,_,_=>by simp[SeqAt.noMix]
 |.tuple _,.dict _,_,_=>by simp[SeqAt.noMix]
theorem qW{b:Bool}:∀c a:List PyData,(∀x∈c,Cs b x)->(∀y∈a,Cs b y)->SeqAt.noMixAll c a=true
 |[],[],_,_=>by simp[SeqAt.noMixAll]
 |[],_::_,_,_=>by simp[SeqAt.noMixAll]
 |_::_,[],_,_=>by simp[SeqAt.noMixAll]
 |x::c,y::a,h,k=>by rw[SeqAt.noMixAll,vN x y (h x FC) (k y FC),qW c a (λz hz=>h z (Ee _ hz)) λz hz=>k z (Ee _ hz)];rfl
end
theorem vO:∀(n:Nat)(w:W),sX n w=true->Cs false (toD w)
 |n,.aW,_=>.none
 |n,.int i,_=>.int i rfl
 |n,.str x,_=>.str x
 |n,.bl _,h=>by cases n<;>exact ff h
 |n+1,.lst l,h=>by dsimp only[toD];rw[toDL_map];exact .list λx a=>by obtain⟨w,b,rfl⟩:=Ki.mp a;exact vO n w (Kb.mp h w b)
 |n+1,.tup l,h=>by dsimp only[toD];rw[toDL_map];exact .tuple λx a=>by obtain⟨w,b,rfl⟩:=Ki.mp a;exact vO n w (Kb.mp h w b)
 |0,.lst l,h=>ff h
 |0,.tup l,h=>ff h
 |n,.ty _,h=>by cases n<;>exact ff h
 |n,.cls _,h=>by cases n<;>exact ff h
 |n,.err _,h=>by cases n<;>exact ff h
 |n,.dct _ _,h=>by cases n<;>exact ff h
 |n,.obj _ _ _,h=>by cases n<;>exact ff h
 |n,.di _,h=>by cases n<;>exact ff h
theorem vP:∀(n:Nat)(w:W),JY n w=true->Cs true (toD w)
 |n,.aW,_=>.none
 |n,.bl i,_=>.bool i rfl
 |n,.str x,_=>.str x
 |n,.int _,h=>by cases n<;>exact ff h
 |n+1,.lst l,h=>by dsimp only[toD];rw[toDL_map];exact .list λx a=>by obtain⟨w,b,rfl⟩:=Ki.mp a;exact vP n w (Kb.mp h w b)
 |n+1,.tup l,h=>by dsimp only[toD];rw[toDL_map];exact .tuple λx a=>by obtain⟨w,b,rfl⟩:=Ki.mp a;exact vP n w (Kb.mp h w b)
 |0,.lst l,h=>ff h
 |0,.tup l,h=>ff h
 |n,.ty _,h=>by cases n<;>exact ff h
 |n,.cls _,h=>by cases n<;>exact ff h
 |n,.err _,h=>by cases n<;>exact ff h
 |n,.dct _ _,h=>by cases n<;>exact ff h
 |n,.obj _ _ _,h=>by cases n<;>exact ff h
 |n,.di _,h=>by cases n<;>exact ff h
section
variable{X:Cx}
theorem vR(D:X.A.units+64<cLine)(g:Bool){a:List (Addr×Obj)}{s:Shared}{f:St}{H:Hp}{B:Addr->Prop}{x y:W}{m l:V}{v u:Value}{P:KP}{Q:VK}(I:Inv X a f H s)(r:RelV m v)(p:RelV l u)(C:bJ X.K B H x m)(z:bJ X.K B H y l)
 (h:((sX 9 x=true/\sX 9 y=true)\/(JY 9 x=true/\JY 9 y=true))/\∀b:Bool,(b=true↔x=y)->P (.bl (if g then !b else b)))(c:Cont X.K B H .s P Q):
 wpAny (model X.prog X.w) X.A (compareOp (if g then .NotEq else .Eq) v u) (EP X a f Q) X.xe s:=by
 obtain⟨i,h⟩:=h;have e:=LB 9 x (i.imp n3 n3);have d:=LB 9 y (i.imp ed ed);have o:SeqAt.shaped (toD x)=true:=by unfold SeqAt.shaped;rw[toD_lay x e.1,IH (DL e.2 (by decide))];rfl
 have n:SeqAt.shaped (toD y)=true:=by unfold SeqAt.shaped;rw[toD_lay y d.1,IH (DL d.2 (by decide))];rfl
 have t:SeqAt.noMix (toD x) (toD y)=true:=by
  rcases i with⟨k,j⟩|⟨k,j⟩
  .exact vN _ _ (vO 9 x k) (vO 9 y j)
  .exact vN _ _ (vP 9 x k) (vP 9 y j)
 have q:=h (same (toD x) (toD y)) (toD_same x y e.1 d.1);cases g with
 |true=>exact Qk D a s f H _ _ v u Q I r p ⟨_,_,LA e.1 C,LA d.1 z,⟨o,n,t⟩,c.now q (Au _)⟩
 |false=>exact Gd D a s f H _ _ v u Q I r p ⟨_,_,LA e.1 C,LA d.1 z,⟨o,n,t⟩,c.now q (Au _)⟩
theorem Om(p:X.A.units+64<cLine)(e:Bool):Lv X (compareOp (if e then .NotEq else .Eq)) (Zg e) mS:=by
 intro f s r H B x y E D v u P Q I d l g n m h c;have sc:∀a b:V,PL a b=true->(∀k:Bool,k=decide (a=b)->Q (.bl (if e then !k else k)) H)->RelV a v->RelV b u->wpAny (model X.prog X.w) X.A (compareOp (if e then .NotEq else .Eq) v u) (EP X f r Q) X.xe s:=λa b C q z t=>by
  cases e with
  |true=>exact UZ f s r H _ _ v u Q I z t ⟨C,q _ rfl⟩
  |false=>exact NY f s r H _ _ v u Q I z t ⟨C,q _ rfl⟩
 cases x with
 |int i=>
  cases y with
  |int j=>
   cases n.int;cases m.int;refine sc _ _ rfl (λk o=>c.now (w:=.bl (if e then !k else k)) ?_ (Au _)) l g;rw[o,show decide (V.int i=V.int j)=decide (i=j)from by simp];exact h
  |_=>exact vR p e I l g n m h c
 |str i=>
  cases y with
  |str j=>
   cases n.str;cases m.str;refine sc _ _ rfl (λk o=>c.now (w:=.bl (if e then !k else k)) ?_ (Au _)) l g;rw[o,show decide (V.str i=V.str j)=decide (i=j)from by simp];exact h
  |_=>exact vR p e I l g n m h c
 |bl i=>
  cases y with
  |bl j=>
   cases n.bl;cases m.bl;refine sc _ _ rfl (λk o=>c.now (w:=.bl (if e then !k else k)) ?_ (Au _)) l g;rw[o,show decide (V.bl i=V.bl j)=decide (i=j)from by simp];exact h
  |_=>exact vR p e I l g n m h c
 |_=>exact vR p e I l g n m h c
theorem Oo(i:Bool):Lv X (compareOp (if i then .IsNot else .Is)) (Zh i) mS:=by
 intro j s m H B x y n t v u P Q I d r o l C h c;have a:t=.aW->(∀k:Bool,k=decide (n=.aW)->P (.bl (if i then !k else k)))->wpAny (model X.prog X.w) X.A (compareOp (if i then .IsNot else .Is) v u) (EP X j m Q) X.xe s:=λe q=>by
  cases i with
  |true=>exact BE j s m H _ _ v u Q I r o ⟨e,c.now (q _ rfl) (Au _)⟩
  |false=>exact PM j s m H _ _ v u Q I r o ⟨e,c.now (q _ rfl) (Au _)⟩
 cases y with
 |aW=>
  have e:=C.aW;cases x with
  |aW=>have g:=l.aW;refine a e λk f=>?_;rw[f,g];cases i<;>exact h
  |bl b=>have g:=l.bl;refine a e λk f=>?_;rw[f,g];cases i<;>exact h
  |int b=>have g:=l.int;refine a e λk f=>?_;rw[f,g];cases i<;>exact h
  |str b=>have g:=l.str;refine a e λk f=>?_;rw[f,g];cases i<;>exact h
  |lst b=>obtain⟨p,z,g,_⟩:=l.lst;refine a e λk f=>?_;rw[f,g];cases i<;>exact h
  |tup b=>obtain⟨p,z,g,_⟩:=l.tup;refine a e λk f=>?_;rw[f,g];cases i<;>exact h
  |err b=>have l:Rep X.K B H (.err b) n:=l;obtain⟨p,g,_⟩:=l;refine a e λk f=>?_;rw[f,g];cases i<;>exact h
  |_=>exact h.elim
 |_=>
  exfalso
  cases x<;>exact h
theorem G9(b:X.A.units+64<cLine)(op:CmpOp):Lv X (compareOp op) (iY op) mS:=by
 cases op with
 |Eq=>exact Om b false
 |NotEq=>exact Om b true
 |Lt=>exact vL U0
 |LtE=>exact vL U1
 |Gt=>exact vL U3
 |GtE=>exact vL U4
 |Is=>exact Oo false
 |IsNot=>exact Oo true
 |_=>exact λa s e H B x y g f v u P Q I d j i l k h c=>h.elim
end
noncomputable def ER(X:Cx)(b:Hp)(R:Addr->Prop):Prop:=∃E:XK,Passes (ic X.prog X.w) X E/\(∀C a,R C->aE b a->E (.ref C) none a)/\Ac X (λC a=>R C/\aE b a)
theorem Ed{X:Cx}:Passes (ic X.prog X.w) X E0:=λ_ _ _ _ _ _ _ h=>by obtain⟨_,_,_,_,_,q⟩:=h;exact q.elim
theorem ER.none{X:Cx}{a:Hp}:ER X a λ_=>False:=⟨E0,Ed,λ_ _ z=>z.elim,λ_ _ _ _ _ _ _ _ _ _ z=>z.1.elim⟩
abbrev RL:=(Addr->Prop)->Hp->Hp->W->V->Prop
abbrev WT:=Ev->(W->Prop)->Prop
noncomputable def QJ(K:Frag)(m:Md):RL:=λB H a w v=>dW K B H a m w v
noncomputable def ρB(K:Frag):RL:=λB _ a w v=>bJ K B a w v
noncomputable def tV(X:Cx)(M:Ms)(R:Addr->Prop)(e:RL)(t:WT):TE:=λb H Q=>∃A d c P,SR X.K M A d b H c/\ER X d R/\t c P/\∀w v a,P w->aE H a->e (FB A M b) H a w v->Q v a
noncomputable def tVT(X:Cx)(M:Ms)(R:Addr->Prop)(t:WT):TT:=λe H Q=>∃A c a P,SR X.K M A c e H a/\ER X c R/\t a P/\∀x d,P x->aE H d->∃b,x=.bl b/\Q b d
abbrev Zi:=(Addr->Prop)->Hp->List W->List V->Prop
noncomputable def tVA(X:Cx)(M:Ms)(R:Addr->Prop)(g:Zi)(t:Ev->(List W->Prop)->Prop):TA:=λb H Q=>∃A f c P,SR X.K M A f b H c/\ER X f R/\t c P/\∀d e a,P d->aE H a->g (FB A M b) a d e->Q e a
abbrev VE(X:Cx)(M:Ms)(R:Addr->Prop)(m:Md)(e:Expr)(t:WT):Prop:=PE X e (tV X M R (QJ X.K m) t)
abbrev VB(X:Cx)(M:Ms)(R:Addr->Prop)(e:Expr)(t:WT):Prop:=PE X e (tV X M R (ρB X.K) t)
abbrev VT(X:Cx)(M:Ms)(R:Addr->Prop)(e:Expr)(t:WT):Prop:=PT X e (tVT X M R t)
noncomputable def oK(K:Frag)(B:Addr->Prop)(H:Hp):List W->List V->Prop
 |[],vs=>vs=[]
 |w::a,vs=>∃v r,vs=v::r/\bJ K B H w v/\oK K B H a r
noncomputable def ρL(K:Frag):Zi:=λB H a b=>au K B H a b
noncomputable def Zj(K:Frag):Zi:=λB H a b=>oK K B H a b
abbrev VA(X:Cx)(M:Ms)(R:Addr->Prop)(es:List Expr)(t:Ev->(List W->Prop)->Prop):Prop:=PA X es (tVA X M R (ρL X.K) t)
abbrev T8(X:Cx)(M:Ms)(R:Addr->Prop)(es:List Expr)(t:Ev->(List W->Prop)->Prop):Prop:=PA X es (tVA X M R (Zj X.K) t)
theorem PE.imp{X:Cx}{e:Expr}{t t':TE}(h:PE X e t)(k:∀a H Q,t' a H Q->t a H Q):PE X e t':=λb s a H Q I w=>h b s a H Q I (k a H Q w)
theorem PT.imp{X:Cx}{e:Expr}{t t':TT}(h:PT X e t)(k:∀a H Q,t' a H Q->t a H Q):PT X e t':=λb s a H Q I w=>h b s a H Q I (k a H Q w)
theorem PW.imp{X:Cx}{e:Expr}{t t':TT}(h:PW X e t)(k:∀a H Q,t' a H Q->t a H Q):PW X e t':=λc b s a H Q I w=>h c b s a H Q I (k a H Q w)
theorem PA.imp{X:Cx}{e:List Expr}{t t':TA}(h:PA X e t)(k:∀a H Q,t' a H Q->t a H Q):PA X e t':=λc b s a H Q I w=>h c b s a H Q I (k a H Q w)
section
variable{X:Cx}{M:Ms}{R:Addr->Prop}{e a b c:Expr}{t ta tb tc:WT}{m:Md}{pos:Pos}
theorem Hf(h:VE X M R m e t):VE X M R .s e t:=PE.imp h<|by rintro j H Q ⟨A,g,d,P,S,f,p,k⟩;exact⟨A,g,d,P,S,f,p,λw v i pw s r=>k w v i pw s (r.s S.dom)⟩
theorem V7(h:VE X M R m e t):VB X M R e t:=PE.imp h<|by rintro j H Q ⟨A,g,d,P,S,f,p,k⟩;exact⟨A,g,d,P,S,f,p,λw v i pw s r=>k w v i pw s (r.rep S.dom).b⟩
theorem Hg{i:Nat}(h:PE X e (kJ i))(r:aT M i->(i,.f)∈M):VB X M R e (λd Q=>match look d i with|some w=>Q w|none=>False):=PE.imp h<|by
 rintro x H Q ⟨A,B,d,P,S,z,p,k⟩
 revert p
 cases l:look d i with
 |none=>exact λp=>p.elim
 |some w=>
  intro p;by_cases n:aT M i
  .obtain⟨F,O⟩:=S.ow;obtain⟨v,j,g⟩:=O.val i .f w (r n) l;obtain⟨y,q,o,rfl,rfl,_,u,s⟩:=g;exact⟨_,j,k _ _ H p (aE.refl H) ⟨q,o,rfl,.inl u,s⟩⟩
  .obtain⟨v,j,g⟩:=S.sh i w n l;exact⟨v,j,k _ _ H p (aE.refl H) g.b⟩
theorem QK{i:Nat}(h:PE X e (kJ i))(g:¬aT M i):VE X M R .s e (λd Q=>match look d i with|some w=>Q w|none=>False):=PE.imp h<|by
 rintro n H Q ⟨A,q,d,P,S,o,p,k⟩
 revert p
 cases f:look d i with
 |none=>exact λp=>p.elim
 |some w=>intro p;obtain⟨v,l,j⟩:=S.sh i w g f;exact⟨v,l,k _ _ H p (aE.refl H) (.of j)⟩
noncomputable def vU(K:Frag)(i:Nat)(π:List nI):TE:=λd H Q=>∃v u,d[i]?=some (some v)/\xN K H v π u/\Q u H
theorem Hh{i:Nat}{π:List nI}{m h:Md}{K:Frag}{A:Fz}{s H:Hp}{f:St}{g:Ev}{w u:W}(S:SR K M A s f H g)(l:(i,m)∈M)(k:kg m π=some h)(n:look g i=some w)(j:cW w π=some u):
 ∃v d F,f[i]?=some (some v)/\xN K H v π d/\Fp K A.B H h u d F:=by
 obtain⟨F,O⟩:=S.ow;obtain⟨v,p,o⟩:=O.val i m w l n;obtain⟨d,z,x,y,_,r,q,_⟩:=Fp.path π m o k j;exact⟨v,d,x,p,r,q⟩
theorem yD{d:Ev}{i:Nat}{π:List nI}{Q:W->Prop}(h:match look d i with|some w=>(match cW w π with|some u=>Q u|none=>False)|none=>False):∃w u,look d i=some w/\cW w π=some u/\Q u:=by
 cases g:look d i with
 |none=>rw[g]at h;exact h.elim
 |some w=>
  rw[g]at h;dsimp only at h;cases f:cW w π with
  |none=>rw[f]at h;exact h.elim
  |some u=>rw[f]at h;exact⟨w,u,rfl,f,h⟩
theorem QL{i:Nat}{π:List nI}{j:Md}(h:PE X e (vU X.K i π))(r:(i,j)∈M)(o:kg j π=some .f):VB X M R e (λg Q=>match look g i with|some w=>(match cW w π with|some u=>Q u|none=>False)|none=>False):=PE.imp h<|by rintro C H Q ⟨A,I,g,P,S,G,p,k⟩;obtain⟨w,u,B,z,q⟩:=yD p;obtain⟨v,E,F,y,x,d⟩:=Hh S r o B z;obtain⟨D,n,l,rfl,rfl,_,d,s⟩:=d;exact⟨v,_,y,x,k _ _ H q (aE.refl H) ⟨n,l,rfl,.inl d,s⟩⟩
theorem QM{i:Nat}{π:List nI}{f:Md}(h:PE X e (vU X.K i π))(n:(i,f)∈M)(l:kg f π=some .s):VE X M R .s e (λd Q=>match look d i with|some w=>(match cW w π with|some u=>Q u|none=>False)|none=>False):=PE.imp h<|by rintro z H Q ⟨A,C,d,P,S,B,p,k⟩;obtain⟨w,u,y,x,q⟩:=yD p;obtain⟨v,j,F,r,o,g⟩:=Hh S n l y x;dsimp only[Fp]at g;exact⟨v,j,r,o,k _ _ H q (aE.refl H) (.of g.2)⟩
theorem Ef{v:V}{w:W}(h:PE X e (tC v))(d:∀B H,Rep X.K B H w v):VE X M R .s e (λ_ Q=>Q w):=PE.imp h<|by rintro f H Q ⟨A,j,g,P,S,i,p,k⟩;exact k _ _ H p (aE.refl H) (.of (d _ _))
theorem Hi{op:Operator}(T:VB X M R a ta)(O:VB X M R b tb)(N:∀x y,Lz op x y=m\/m=.s):VE X M R m (.BinOp a op b pos) (λi Q=>ta i λx=>tb i λy=>iB op x y Q):=by
 rintro j s g H Q I ⟨A,E,i,P,S,D,p,k⟩;refine wpAny_BinOp (bin T O I (R:=λn l f=>∃x y,iB op x y P/\aE H f/\bJ X.K (FB A M g) f x n/\bJ X.K (FB A M g) f y l) ⟨A,E,i,_,S,D,p,λx n Z B C J=>⟨A,E,i,_,S.same C,D,B,λy l f q o G=>⟨x,y,q,C.trans o,bJ.same o J,G⟩⟩⟩ ?_);rintro v u o n l f U rv L ⟨x,y,h,sm,B,q⟩;have d:=(S.same sm).dom;refine Av op j o g f (FB A M g) x y n l v u P Q U d rv L B q h ?_;have c:Cont X.K (FB A M g) f m P Q:=λw z Y pw F r=>k w z Y pw (sm.trans F) (r.back sm λ_ z=>z);rcases N x y with e|e
 .rw[e];exact c
 .subst e;exact Cont.s d c
end
theorem cJ{x:W}{Q:Bool->Prop}(h:truth x Q):∃b,x=.bl b/\Q b:=by
 cases x with
 |bl b=>exact⟨b,rfl,h⟩
 |_=>exact h.elim
theorem Rep.qX{K:Frag}{B:Addr->Prop}{H:Hp}{b:Bool}{v:V}(h:Rep K B H (.bl b) v):v=.bl b:=by dsimp only[Rep]at h;exact h
theorem Rep.int_inv{K:Frag}{B:Addr->Prop}{H:Hp}{b:Int}{v:V}(h:Rep K B H (.int b) v):v=.int b:=by dsimp only[Rep]at h;exact h
theorem dW.b7{K:Frag}{B:Addr->Prop}{H H':Hp}{w:W}{v:V}(h:dW K B H H' .s w v):Rep K B H' w v:=by obtain⟨F,_,_,h⟩:=h;obtain⟨rfl,h⟩:=h;exact h.less λp z=>.inl z
section
variable{X:Cx}{M:Ms}{R:Addr->Prop}{e a b c:Expr}{t ta tb tc:WT}{m:Md}{pos:Pos}{rest es:List Expr}
noncomputable def QN:W->Bool
 |.lst _=>true
 |_=>false
theorem QO{op:Operator}{x y:W}{P:W->Prop}(h:iB op x y P)(d:(op=.Add/\(QN x=true\/QN y=true))\/(op=.Mult/\QN x=true)):Lz op x y=.f:=by
 rcases d with⟨rfl,d⟩|⟨rfl,d⟩
 .cases x with
  |lst l=>rfl
  |_=>
   rcases d with d|d
   .cases d
   .cases y<;>first|exact h.elim|exact ff d
 .cases x<;>first|rfl|exact ff d
theorem Aw{op:Operator}{G F:RL}(ha:PE X a (tV X M R G ta))(hb:PE X b (tV X M R F tb))(h1:∀B H H' w v,Dom B H->G B H H' w v->bJ X.K B H' w v)(h2:∀B H H' w v,Dom B H->F B H H' w v->bJ X.K B H' w v)
 (ho:∀B H H' w v B2 g J L Y,G B H H' w v->F B2 g J L Y->(op=.Add/\(QN w=true\/QN L=true))\/(op=.Mult/\QN w=true)):VE X M R .f (.BinOp a op b pos) (λi Q=>ta i λx=>tb i λy=>iB op x y Q):=by
 rintro j s l H Q I ⟨A,U,i,P,S,T,p,k⟩;refine wpAny_BinOp (bin ha hb I (R:=λo n g=>∃x y,iB op x y P/\aE H g/\bJ X.K (FB A M l) g x o/\bJ X.K (FB A M l) g y n/\Lz op x y=.f) ⟨A,U,i,_,S,T,p,λx o H1 E D O=>⟨A,U,i,_,S.same D,T,E,λy n g C q N=>⟨x,y,C,D.trans q,bJ.same q (h1 _ _ _ _ _ S.dom O),h2 _ _ _ _ _ (S.same D).dom N,QO C (ho _ _ _ _ _ _ _ _ _ _ O N)⟩⟩⟩ ?_);rintro v u q o n g I2 rv ru ⟨x,y,h,sm,E,C,em⟩;have d:=(S.same sm).dom;refine Av op j q l g (FB A M l) x y o n v u P Q I2 d rv ru E C h ?_;rw[em];exact λw z H' pw Z r=>k w z H' pw (sm.trans Z) (r.back sm λ_ z=>z)
theorem QS(j:VE X M R .s a ta):VE X M R .s (.UnaryOp .USub a pos) (λd Q=>ta d λx=>match x with|.int i=>Q (.int (-i))|_=>False):=PE.imp (UW PK j)<|by
 rintro q H Q ⟨A,o,d,P,S,l,p,k⟩;refine⟨A,o,d,_,S,l,p,λx r n f g h=>?_⟩;cases x with
 |int i=>exact⟨i,h.b7.int_inv,k _ _ n f g (.of (iZ _))⟩
 |_=>exact f.elim
theorem QT(i:VE X M R .s a ta):VE X M R .s (.UnaryOp .Not a pos) (λd Q=>ta d λx=>truth x λb=>Q (.bl (!b))):=PE.imp (Ph i)<|by rintro o H Q ⟨A,n,d,P,S,j,p,k⟩;refine⟨A,n,d,_,S,j,p,λx q l f g h=>?_⟩;obtain⟨b,rfl,f⟩:=cJ f;exact⟨b,h.b7.qX,k _ _ l f g (.of (Au _))⟩
theorem QU{op:CmpOp}(L:X.A.units+64<cLine)(N:behindInMarks op b=false)(T:VB X M R a ta)(O:VB X M R b tb):VE X M R .s (.Compare a [op] [b] pos) (λf Q=>ta f λx=>tb f λy=>iY op x y Q):=by rintro g s i H Q I ⟨A,D,f,P,S,C,p,k⟩;refine wpAny_Compare1 (bin T O I (R:=λl j d=>∃x y,iY op x y P/\aE H d/\bJ X.K (FB A M i) d x l/\bJ X.K (FB A M i) d y j) ⟨A,D,f,_,S,C,p,λx l Z q B G=>⟨A,D,f,_,S.same B,C,q,λy j d o n F=>⟨x,y,o,B.trans n,bJ.same n G,F⟩⟩⟩ ?_) N;rintro v u n l j d U rv J ⟨x,y,h,sm,q,o⟩;exact G9 L op g n i d (FB A M i) x y l j v u P Q U (S.same sm).dom rv J q o h λw z Y pw E r=>k w z Y pw (sm.trans E) (r.back sm λ_ z=>z)
theorem QV{op:CmpOp}(hu:X.A.units+64<cLine)(hm:behindInMarks op b=false)(ha:VB X M R a ta)(hb:VB X M R b tb):VT X M R (.Compare a [op] [b] pos) (λj Q=>ta j λx=>tb j λy=>iY op x y Q):=by
 rintro d s i H Q I ⟨A,G,j,P,S,F,p,k⟩;have q:=bin ha hb I (R:=λo n g=>∃x y,iY op x y P/\aE H g/\bJ X.K (FB A M i) g x o/\bJ X.K (FB A M i) g y n) ⟨A,G,j,_,S,F,p,λx o H1 D B N=>⟨A,G,j,_,S.same B,F,D,λy n g C l L=>⟨x,y,C,B.trans l,bJ.same l N,L⟩⟩⟩
  (f:=compareOp op) (Q:=EP X d i λz E=>∃b,z=.bl b/\Q b E)<|by rintro v u l o n g I2 rv O ⟨x,y,h,sm,D,C⟩;refine G9 hu op d l i g (FB A M i) x y o n v u _ _ I2 (S.same sm).dom rv O D C h λw z E pw J r=>?_;obtain⟨b,rfl,q⟩:=k w E pw (sm.trans J);exact⟨b,r.b7.qX,q⟩
 refine wpAny_isTrue_Compare1 (cI q λv B Z=>cI Z λu l Y=>cI Y λc s3 ⟨z,H3,I3,T,b,ez,U⟩=>?_) hm;subst ez;cases T;exact h8 ⟨H3,I3,U⟩
theorem QW(u:VE X M R .s a ta)(r:VE X M R .s (.BoolOp .And (b::rest) pos) tb):VE X M R .s (.BoolOp .And (a::b::rest) pos) (λd Q=>ta d λx=>truth x λk=>if k=true then tb d Q else Q (.bl false)):=
 PE.imp (zM u r)<|by
  rintro B H Q ⟨A,j,d,P,S,i,h,k⟩;refine⟨A,j,d,_,S,i,h,λx D w g f o=>?_⟩;obtain⟨q,rfl,g⟩:=cJ g;refine⟨q,o.b7.qX,?_⟩;cases q with
  |true=>exact⟨A,j,d,_,S.same f,i,g,λy C v p l n=>k _ _ v p (f.trans l) (n.back f λ_ z=>z)⟩
  |false=>exact k _ _ w g f (.of (Au _))
theorem V8(u:VE X M R .s a ta)(r:VE X M R .s (.BoolOp .Or (b::rest) pos) tb):VE X M R .s (.BoolOp .Or (a::b::rest) pos) (λd Q=>ta d λx=>truth x λk=>if k=true then Q (.bl true)else tb d Q):=
 PE.imp (UJ u r)<|by
  rintro B H Q ⟨A,j,d,P,S,i,h,k⟩;refine⟨A,j,d,_,S,i,h,λx D w g f o=>?_⟩;obtain⟨q,rfl,g⟩:=cJ g;refine⟨q,o.b7.qX,?_⟩;cases q with
  |false=>exact⟨A,j,d,_,S.same f,i,g,λy C v p l n=>k _ _ v p (f.trans l) (n.back f λ_ z=>z)⟩
  |true=>exact k _ _ w g f (.of (Au _))
abbrev Oq(X:Cx)(M:Ms)(R:Addr->Prop)(e:Expr)(t:WT):Prop:=PW X e (tVT X M R t)
theorem LC(d:VT X M R a ta):Oq X M R (.BoolOp .And [a] pos) ta:=Kc d
theorem QX(d:VT X M R a ta):Oq X M R (.BoolOp .Or [a] pos) ta:=Pe d
theorem QY(p:VT X M R a ta)(o:Oq X M R (.BoolOp .And (b::rest) pos) tb):Oq X M R (.BoolOp .And (a::b::rest) pos) (λd Q=>ta d λx=>truth x λk=>if k=true then tb d Q else Q (.bl false)):=
 PW.imp (Pf p o)<|by
  rintro u H Q ⟨A,j,d,P,S,i,h,k⟩;refine⟨A,j,d,_,S,i,h,λx s f g=>?_⟩;obtain⟨q,rfl,f⟩:=cJ f;refine⟨q,rfl,?_⟩;cases q with
  |true=>exact⟨A,j,d,P,S.same g,i,f,λy r n l=>k _ r n (g.trans l)⟩
  |false=>obtain⟨b,e,q⟩:=k _ s f g;cases e;exact q
theorem V9(p:VT X M R a ta)(o:Oq X M R (.BoolOp .Or (b::rest) pos) tb):Oq X M R (.BoolOp .Or (a::b::rest) pos) (λd Q=>ta d λx=>truth x λk=>if k=true then Q (.bl true)else tb d Q):=
 PW.imp (UG p o)<|by
  rintro u H Q ⟨A,j,d,P,S,i,h,k⟩;refine⟨A,j,d,_,S,i,h,λx s f g=>?_⟩;obtain⟨q,rfl,f⟩:=cJ f;refine⟨q,rfl,?_⟩;cases q with
  |false=>exact⟨A,j,d,P,S.same g,i,f,λy r n l=>k _ r n (g.trans l)⟩
  |true=>obtain⟨b,e,q⟩:=k _ s f g;cases e;exact q
theorem QZ(i:VT X M R a ta):VT X M R (.UnaryOp .Not a pos) (λd Q=>ta d λx=>truth x λb=>Q (.bl (!b))):=PT.imp (Pg i)<|by rintro o H Q ⟨A,n,d,P,S,j,h,k⟩;refine⟨A,n,d,_,S,j,h,λx l f g=>?_⟩;obtain⟨q,rfl,f⟩:=cJ f;obtain⟨b,e,z⟩:=k _ l f g;cases e;exact⟨q,rfl,z⟩
theorem Ax(l:∀d,isTrue e X.env d=(do let v<-d;standAt e.pos;holding [v] (truthy v)))(h:VE X M R .s e t):VT X M R e t:=PT.imp (Pd h l)<|by rintro q H Q ⟨A,p,f,P,S,n,h,k⟩;refine⟨A,p,f,P,S,n,h,λx r o j g i=>?_⟩;obtain⟨b,rfl,z⟩:=k _ o j g;exact⟨b,i.b7.qX,z⟩
theorem Q0:VA X M R [] (λ_ Q=>Q []):=PA.imp bF<|by rintro d H Q ⟨A,i,f,P,S,g,h,k⟩;exact k [] [] H h (aE.refl H) .nil
theorem LD{i:Ev->(List W->Prop)->Prop}(u:starEach (a::es) X.env=(false,eval a X.env)::starEach es X.env)(w:VE X M R .s a ta)(v:VA X M R es i):VA X M R (a::es) (λd Q=>ta d λx=>i d λg=>Q (x::g)):=
 PA.imp (aF w v u)<|by rintro z H Q ⟨A,o,d,P,S,n,h,k⟩;refine⟨A,o,d,_,S,n,h,λx B D r l p=>⟨A,o,d,_,S.same l,n,r,λg C y f j q=>?_⟩⟩;exact k _ _ y f (l.trans j) (.cons (p.b7.same j) q)
theorem LF:T8 X M R [] (λ_ Q=>Q []):=PA.imp bF<|by rintro d H Q ⟨A,i,f,P,S,g,h,k⟩;exact k [] [] H h (aE.refl H) rfl
theorem Hj{i:Ev->(List W->Prop)->Prop}(v:starEach (a::es) X.env=(false,eval a X.env)::starEach es X.env)(y:VB X M R a ta)(w:T8 X M R es i):T8 X M R (a::es) (λd Q=>ta d λx=>i d λg=>Q (x::g)):=
 PA.imp (aF y w v)<|by rintro B H Q ⟨A,o,d,P,S,n,h,k⟩;refine⟨A,o,d,_,S,n,h,λx p C u l r=>⟨A,o,d,_,S.same l,n,u,λg q z f j s=>?_⟩⟩;exact k _ _ z f (l.trans j) ⟨p,q,rfl,bJ.same j r,s⟩
theorem Q2{i:Ev->(List W->Prop)->Prop}(h:VA X M R es i):VE X M R .f (.List es pos) (λd Q=>i d λg=>g.length<=sizeLine/\Q (.lst g)):=PE.imp (qu h)<|by rintro s H Q ⟨A,r,d,P,S,q,h,k⟩;refine⟨A,r,d,_,S,q,h,λg u v n j l=>?_⟩;refine⟨by rw[au.len l];exact n.1,λp o=>?_⟩;exact k _ _ _ n.2 (j.trans (aL o _)) (.fresh j o l)
theorem Q3{g:Ev->(List W->Prop)->Prop}{n:Nat}(h:VA X M R es g):VE X M R .s (.Tuple es n pos) (λd Q=>g d λf=>f.length<=sizeLine/\Q (.tup f)):=PE.imp (FG h)<|by rintro u H Q ⟨A,r,d,P,S,q,h,k⟩;refine⟨A,r,d,_,S,q,h,λf v w j o i=>?_⟩;refine⟨by rw[au.len i];exact j.1,λp l=>?_⟩;exact k _ _ _ j.2 (o.trans (aL l _)) (.of (Ec aA (au.same (aL l _) i)))
theorem Ot{K:Frag}{B:Addr->Prop}{H:Hp}{l:List W}{vs:List V}{i:Int}{w:W}(h:au K B H l vs)(e:j9 l i=some w):∃v,j9 vs i=some v/\Rep K B H w v:=by
 unfold j9 at e⊢;rw[h.len];cases d:xK l.length i with
 |none=>rw[d]at e;exact nn e
 |some j=>rw[d]at e;exact h.get e
theorem bJ.di{K:Frag}{B:Addr->Prop}{H:Hp}{ns:List Int}{v:V}(h:bJ K B H (.di ns) v):∃p,v=.ref p/\iN K H p (ns.map V.int):=by
 have h:Rep K B H (.di ns) v:=h;obtain⟨p,e,h⟩:=h;refine⟨p,e,?_⟩;rcases h with⟨o,h⟩|h
 .exact .inl (.inr ⟨o,h⟩)
 .rcases h with(h|⟨o,h⟩)|h
  .cases h
  .cases h
  .exact .inr h
theorem LG{ns:List Int}{i n:Int}(e:j9 ns i=some n):j9 (ns.map V.int) i=some (.int n):=by
 unfold j9 at e⊢;rw[AN];cases d:xK ns.length i with
 |none=>rw[d]at e;exact nn e
 |some j=>rw[d]at e;show(ns.map V.int)[j]?=_;have e:ns[j]?=some n:=e;rw[Dx,e];rfl
theorem Wa(I:pK b)(K:VB X M R a ta)(J:VE X M R .s b tb):VE X M R .s (.Subscript a b pos) (λf Q=>ta f λx=>tb f λy=>VZ x y Q):=PE.imp (N3 FL K J I)<|by
 rintro L H Q ⟨A,F,f,P,S,E,h,k⟩;refine⟨A,F,f,_,S,E,h,λx O U G q g=>⟨A,F,f,_,S.same q,E,G,λy N D d o u=>?_⟩⟩;have g:=bJ.same o g;cases x with
 |lst l=>
  cases y with
  |int i=>obtain⟨p,r,rfl,j,B⟩:=g.lst;obtain⟨w,e,d⟩:=d;obtain⟨v,C,z⟩:=Ot B e;exact .inl ⟨p,r,i,v,rfl,u.b7.int_inv,.inl j,C,k _ _ D d (q.trans o) (.of z)⟩
  |_=>exact d.elim
 |tup l=>
  cases y with
  |int i=>obtain⟨p,r,rfl,j,B⟩:=g.tup;obtain⟨w,e,d⟩:=d;obtain⟨v,C,z⟩:=Ot B e;exact .inr (.inl ⟨p,r,i,v,rfl,u.b7.int_inv,j,C,k _ _ D d (q.trans o) (.of z)⟩)
  |_=>exact d.elim
 |di T=>
  cases y with
  |int i=>obtain⟨p,rfl,j⟩:=g.di;obtain⟨n,e,d⟩:=d;exact .inl ⟨p,_,i,_,rfl,u.b7.int_inv,j,LG e,k _ _ D d (q.trans o) (.of (iZ _))⟩
  |_=>exact d.elim
 |_=>exact d.elim
theorem Ou{K:Frag}{B:Addr->Prop}{H:Hp}{l:List W}{vs:List V}(h:au K B H l vs)(d f:Option Int):au K B H (jz l d f) (DF vs d f):=by unfold jz DF;rw[h.len];exact(h.drop _).take _
noncomputable def Wb(X:Cx)(M:Ms)(R:Addr->Prop)(t:Ev->(Option Int->Prop)->Prop):TO:=λh H Q=>∃A f d P,SR X.K M A f h H d/\ER X f R/\t d P/\∀o g,P o->aE H g->Q o g
theorem PO.imp{e:Option Expr}{t t':TO}(h:PO X e t)(k:∀d H Q,t' d H Q->t d H Q):PO X e t':=λf s d H Q I w=>h f s d H Q I (k d H Q w)
theorem LH:PO X none (Wb X M R λ_ Q=>Q none):=PO.imp Ku<|by rintro d H Q ⟨A,i,f,P,S,g,h,k⟩;exact k none H h (aE.refl H)
theorem LI(l:VE X M R .s a ta):PO X (some a) (Wb X M R λd Q=>ta d λy=>match y with|.int i=>Q (some i)|_=>False):=PO.imp (Kv l)<|by
 rintro q H Q ⟨A,p,d,P,S,n,h,k⟩;refine⟨A,p,d,_,S,n,h,λx r o f g j=>?_⟩;cases x with
 |int i=>exact⟨i,j.b7.int_inv,k _ o f g⟩
 |_=>exact f.elim
theorem Wc{z B:Option Expr}{p2:Pos}{tl y:Ev->(Option Int->Prop)->Prop}(F:VB X M R a ta)(s:PO X z (Wb X M R tl))(o:PO X B (Wb X M R y)):VE X M R .f (.Subscript a (.Slice z B none p2) pos) (λd Q=>ta d λx=>tl d λl=>y d λh=>XY x l h Q):=
 PE.imp (FJ KA F s o)<|by
  rintro I H Q ⟨A,w,d,P,S,v,h,k⟩;refine⟨A,w,d,_,S,v,h,λx K O E i r=>⟨A,w,d,_,S.same i,v,E,λl N s g=>⟨A,w,d,_,S.same (i.trans g),v,s,λh L o j=>?_⟩⟩⟩;have r:=bJ.same (g.trans j) r;cases x with
  |lst J=>obtain⟨p,C,rfl,u,G⟩:=r.lst;refine⟨p,C,rfl,.inl u,λq n=>?_⟩;exact k _ _ _ o (((i.trans g).trans j).trans (aL n _)) (.fresh ((i.trans g).trans j) n (Ou G l h))
  |di D=>obtain⟨p,rfl,u⟩:=r.di;refine⟨p,_,rfl,u,λq n=>?_⟩;exact k _ _ _ o (((i.trans g).trans j).trans (aL n _)) (.fresh ((i.trans g).trans j) n (Ou (au.Lq D) l h))
  |_=>exact o.elim
noncomputable def Wd:BI->Md
 |.list=>.f
 |_=>.s
noncomputable def jl(X:Cx)(f:Value)(b:BI):Prop:=
 ∀(d:List (Addr×Obj))(s:Shared)(g:St)(H:Hp)(B:Addr->Prop)(h:List W)(i:List V)(j:List Value)(P:KP)(Q:VK),Inv X d g H s->Dom B H->Vals i j->oK X.K B H h i->sO b h P->Cont X.K B H (Wd b) P Q->
  wpAny (model X.prog X.w) X.A (call f j) (EP X d g Q) X.xe s
noncomputable def We(K:Frag)(b:BI):List V->Hp->VK->Prop:=λf H Q=>∃(B:Addr->Prop)(d:List W)(P:KP),Dom B H/\oK K B H d f/\sO b d P/\Cont K B H (Wd b) P Q
theorem jl.r{f:Value}{b:BI}(h:jl X f b):dG X f (We X.K b):=by rintro g s i H l n Q I r ⟨B,j,P,d,p,o,k⟩;exact h g s i H B j l n P Q I d r p o k
theorem iC{K:Frag}{B:Addr->Prop}{H:Hp}{w:W}{vs:List V}(h:oK K B H [w] vs):∃v,vs=[v]/\bJ K B H w v:=by obtain⟨v,r,rfl,f,d⟩:=h;cases(show r=[]from d);exact⟨v,rfl,f⟩
theorem Hl{K:Frag}{B:Addr->Prop}{H:Hp}{w w':W}{vs:List V}(h:oK K B H [w,w'] vs):∃v d,vs=[v,d]/\bJ K B H w v/\bJ K B H w' d:=by obtain⟨v,r,rfl,i,g⟩:=h;obtain⟨d,rfl,f⟩:=iC g;exact⟨v,d,rfl,i,f⟩
theorem cw_len:jl X (.builtin "len") .len:=by
 intro f s k H B q u n P Q I d r o h c
 match q,h with
 |[.lst l],h=>obtain⟨v,rfl,g⟩:=iC o;obtain⟨p,i,rfl,g,j⟩:=g.lst;exact iR f s k H _ n Q I r ⟨p,i,rfl,.inl (.inl g),c.now (w:=.int i.length) (by rw[j.len];exact h) (iZ _)⟩
 |[.tup l],h=>obtain⟨v,rfl,g⟩:=iC o;obtain⟨p,i,rfl,g,j⟩:=g.tup;exact iR f s k H _ n Q I r ⟨p,i,rfl,.inr g,c.now (w:=.int i.length) (by rw[j.len];exact h) (iZ _)⟩
 |[.di ns],h=>obtain⟨v,rfl,g⟩:=iC o;obtain⟨p,rfl,j⟩:=g.di;exact iR f s k H _ n Q I r ⟨p,_,rfl,.inl j,c.now (w:=.int ns.length) h (by rw[AN];exact iZ _)⟩
theorem cw_abs:jl X (.builtin "abs") .abs:=by
 intro f s g H B j o k P Q I d r l h c
 match j,h with
 |[.int i],h=>obtain⟨v,rfl,n⟩:=iC l;cases n.int;exact FD f s g H _ k Q I r ⟨i,rfl,c.now h (iZ _)⟩
theorem cw_max(n:X.calm=true):jl X (.builtin "max") .max2:=by
 intro f s g H B k u l P Q I d r o h c
 match k,h with
 |[.int i,.int j],h=>obtain⟨v,w,rfl,q,p⟩:=Hl o;cases q.int;cases p.int;exact Ds n f s g H _ l Q I r ⟨i,j,rfl,c.now h (iZ _)⟩
theorem cw_min(n:X.calm=true):jl X (.builtin "min") .min2:=by
 intro f s g H B k u l P Q I d r o h c
 match k,h with
 |[.int i,.int j],h=>obtain⟨v,w,rfl,q,p⟩:=Hl o;cases q.int;cases p.int;exact Dv n f s g H _ l Q I r ⟨i,j,rfl,c.now h (iZ _)⟩
theorem cw_sum(o:X.calm=true):jl X (.builtin "sum") .sum:=by
 intro f s i H B j x k P Q I d r q h c
 match j,h with
 |[.lst l],h=>obtain⟨n,rfl,h⟩:=h;obtain⟨v,rfl,g⟩:=iC q;obtain⟨p,w,rfl,g,u⟩:=g.lst;have e:=au.ints u;subst e;exact DP o f s i H _ k Q I r ⟨p,n,rfl,.inl g,c.now h (iZ _)⟩
theorem cw_all(n:X.calm=true):jl X (.builtin "all") .all:=by
 intro f s i H B j x k P Q I d r o h c
 match j,h with
 |[.lst l],h=>obtain⟨u,rfl,h⟩:=h;obtain⟨v,rfl,g⟩:=iC o;obtain⟨p,w,rfl,g,q⟩:=g.lst;have e:=au.bls q;subst e;exact DR n f s i H _ k Q I r ⟨p,u,rfl,.inl g,c.now h (Au _)⟩
theorem cw_any(n:X.calm=true):jl X (.builtin "any") .any:=by
 intro f s i H B j x k P Q I d r o h c
 match j,h with
 |[.lst l],h=>obtain⟨u,rfl,h⟩:=h;obtain⟨v,rfl,g⟩:=iC o;obtain⟨p,w,rfl,g,q⟩:=g.lst;have e:=au.bls q;subst e;exact DX n f s i H _ k Q I r ⟨p,u,rfl,.inl g,c.now h (Au _)⟩
theorem cw_list:jl X (.type "list") .list:=by
 intro f s n H B w x o P Q I d r u h c
 match w,h with
 |[.lst l],h=>obtain⟨v,rfl,g⟩:=iC u;obtain⟨p,j,rfl,g,k⟩:=g.lst;exact lU f s n H _ o Q I r ⟨p,j,rfl,.inl (.inl g),λq i=>c _ _ _ h (aL i _) (.fresh (aE.refl H) i k)⟩
 |[.tup l],h=>obtain⟨v,rfl,g⟩:=iC u;obtain⟨p,j,rfl,g,k⟩:=g.tup;exact lU f s n H _ o Q I r ⟨p,j,rfl,.inr g,λq i=>c _ _ _ h (aL i _) (.fresh (aE.refl H) i k)⟩
theorem cw_int:jl X (.type "int") .int:=by
 intro f s g H B j o k P Q I d r l h c
 match j,h with
 |[.bl i],h=>obtain⟨v,rfl,n⟩:=iC l;cases n.bl;exact Dw f s g H _ k Q I r (.inr ⟨i,rfl,c.now h (iZ _)⟩)
theorem cw_tuple:jl X (.type "tuple") .tuple:=by
 intro f s k H B x y n P Q I d r u h c
 match x,h with
 |[.lst l],h=>obtain⟨v,rfl,g⟩:=iC u;obtain⟨p,i,rfl,g,j⟩:=g.lst;exact kq f s k H _ n Q I r ⟨p,i,rfl,.inl ⟨.inl g,λq o=>c _ _ _ h (aL o _) (.of (Ec aA (au.same (aL o _) j)))⟩⟩
 |[.tup l],h=>obtain⟨v,rfl,g⟩:=iC u;obtain⟨p,i,rfl,w,j⟩:=g.V1;have g:kL X.K H p i:=kL.of w;exact kq f s k H _ n Q I r ⟨p,i,rfl,.inr ⟨g,c.now h (Ec w j)⟩⟩
noncomputable def yE(K:Frag):Prop:=∀a∈["NoneType","bool","int","str","list","tuple"],∀b∈["int","bool","tuple","list","str","dict"],kitOne K (.type a) (.type b)=some (Eb a b)
theorem cw_isi(N:yE X.K):dG X (.builtin "isinstance") (λvs H Q=>∃(B:Addr->Prop)(w:W)(n:String)(P:KP),n∈["int","bool","tuple","list","str","dict"]/\oK X.K B H [w,.ty n] vs/\sO .zG [w,.ty n] P/\Cont X.K B H .s P Q):=by
 rintro q s A H vs Z Q I r ⟨B,w,n,P,L,O,h,c⟩;obtain⟨v,Y,rfl,k,S⟩:=Hl O;cases S.ty;obtain⟨a,i,h⟩:=h;have x:Q (.bl (Eb a n)) H:=c.now h (Au _);obtain⟨E,D,rfl,d,F⟩:=vals2 r;cases(show D=Value.type n from F);have g:∀u,u∈["NoneType","bool","int","str","list","tuple"]->a=u->kitOne X.K (.type u) (.type n)=some (Eb a n):=λu m e=>by rw[e];exact N u m n L
 have j:∀y:Tok,EP X q A Q (.bool (Eb a n)) {s with toks:=y}:=λy=>⟨.bl _,H,I.tok _,rfl,x⟩;cases w with
 |aW=>
  cases k.aW;cases i;exact gc I d .aW (g _ (by simp) rfl) j
 |bl b=>
  cases k.bl;cases i;exact gc I d (.bl b) (g _ (by simp) rfl) j
 |int b=>
  cases k.int;cases i;exact gc I d (.int b) (g _ (by simp) rfl) j
 |str b=>
  cases k.str;cases i;exact gc I d (.str b) (g _ (by simp) rfl) j
 |lst l=>
  obtain⟨p,C,rfl,f,G⟩:=k.lst;cases i;rcases f with f|⟨o,f⟩
  .exact gc I d (.lst f) (g _ (by simp) rfl) j
  .exact gc I d (.xS f) (g _ (by simp) rfl) j
 |tup l=>obtain⟨p,C,rfl,f,G⟩:=k.tup;cases i;cases(show E=Value.ref p from d);obtain⟨J,r',⟨o,U,T,_⟩,_⟩:=I.tuple f;exact Sr PySem.W.kitx_tuple I.lO ⟨o,U,T⟩ (g _ (by simp) rfl) (λz=>nomatch z) j
 |_=>exact nn i
end
noncomputable def T9(K:Frag)(n:Nat)(m:Md)(sp:aZ):Sp:=λc H Q E=>∃A a P R,a.length=n/\au K A H a c/\Dom A H/\sp a P R/\Cont K A H m P Q/\∀C b,R C->aE H b->E (.ref C) none b
noncomputable def XZ(K:Frag)(n:Nat)(h:Md)(sp:aZ):Sp:=λi H Q E=>∃(b:Addr->Prop)(F:List Addr)(g:W)(f:V)(e:List W)(c:List V)(P:W->Prop)(R:Addr->Prop),i=f::c/\e.length+1=n/\F.Nodup/\(∀p∈F,¬b p)/\Dom b H/\Fp K (λp=>b p\/p∈F) H h g f F/\au K (λp=>b p\/p∈F) H e c/\sp (g::e) P R/\
 (∀w y v d a,P (.tup [w,y])->xM (·∈F) H a->d.Nodup->(∀p∈d,p∈F\/H p=none)->Fp K (λp=>b p\/p∈d) a h y f d->Rep K (λp=>b p\/p∈d) a w v->Q v a)/\(∀C a,R C->xM (·∈F) H a->E (.ref C) none a)
noncomputable def i0(K:Frag)(n:Nat)(m:Md)(sp:aZ):Sp:=
 match m with
 |.io a=>XZ K n a sp
 |m=>T9 K n m sp
inductive d7(P:Program)(w:World)(K:Frag)(mg:Str->Option Value)(base:Heap):Nat->Value->Nat->Sp->Prop where
 |fn {k:Nat} {f:Addr} {fd:FuncData} {ps:List Str} {sp:Sp} (kp:keepIn K (.ref f)=true) (b:Binds K fd ps []) (F:bN P w K mg base (ic P w) k f fd ps sp):d7 P w K mg base k (.ref f) ps.length sp
 |mk {k n:Nat} {C f:Addr} {fd:FuncData} {ps:List Str} {sp spi:Sp} (M:Mk K C f) (b:Binds K fd ps []) (F:bN P w K mg base (ic P w) k f fd ps spi)
  (h:∀vs H Q E,sp vs H Q E->∀x dx,H x=none->H dx=none->dx≠x->spi (.ref x::vs) (upd (upd H dx (.own x)) x (.ins C dx [])) (λv H2=>v=.aW/\Q (.ref x) H2) E):d7 P w K mg base (k+1) (.ref C) n sp
theorem d7.keep{P:Program}{w:World}{K:Frag}{b:Str->Option Value}{base:Heap}{k n:Nat}{a:Value}{sp:Sp}(c:d7 P w K b base k a n sp):keepIn K a=true:=by
 cases c with
 |fn kp _ _=>exact kp
 |mk M _ _ _=>exact M.kp
theorem d7.run{X:Cx}{k n:Nat}{g:Value}{sp:Sp}{a:List (Addr×Obj)}{d:St}{H:Hp}{s:Shared}{Q:VK}{E:XK}{us:List Value}{vs:List V}(c:d7 X.prog X.w X.K X.mg X.base k g n sp)(f:dD k X.A)(e:Passes (ic X.prog X.w) X E)(I:Inv X a d H s)(r:Vals vs us)(h:sp vs H Q E):
 wpAny (model X.prog X.w) X.A (call g us) (EP X a d Q) X.xe s:=by
 cases c with
 |fn p b F=>exact z5 (ds:=[]) (BG:=[]) F f b .nil e I r (by rw[aw];exact h)
 |mk M b F l=>exact FH (ds:=[]) (BG:=[]) M F f b .nil e I r (λx o m j i=>by rw[aw];exact l vs H Q E h x o m j i)
section
variable{X:Cx}{M:Ms}{R:Addr->Prop}{e a b c:Expr}{t ta tb tc:WT}{m:Md}{pos p:Pos}{es:List Expr}{x:Str}
theorem Ct{D:Ev->(List W->Prop)->Prop}{k n:Nat}{N:Value}{sp:aZ}(F:d7 X.prog X.w X.K X.mg X.base k N n (T9 X.K n m sp))(hr:dD k X.A)(hg:Gl X x)(hm:X.mg x=some N)
 (hn:∀d P R,sp d P R->d.length=n)(ha:VA X M R (e::es) D)(y:(x==("__debug__":Str))=false)(he:starEach (e::es) X.env=(false,eval e X.env)::starEach es X.env)(u:(backTo pos (starEach es X.env)).any (·.1)=false):
 VE X M R m (.Call (.Name x p) (e::es) [] pos) (λj Q=>D j λd=>sp d Q R):=by
 rintro f s i H Q I ⟨A,H0,j,P,S,er,h,Y⟩;obtain⟨E,J,L,hR⟩:=er;refine rf (jR I hg hm ?_ y);refine callWith_K (h₀:=X.base) I.ok.mod.Tw F.keep (cI (ha pos f s i H (λl g=>∃d,aE H g/\au X.K (FB A M i) g d l/\sp d P R) I ⟨A,H0,j,_,S,⟨E,J,L,hR⟩,h,λd l g Z G q=>⟨d,G,q,Z⟩⟩) λus G ⟨l,g,I1,r,d,sm,q,O⟩=>⟨I1.lO,?_⟩) he u;exact F.run hr J I1 r ⟨FB A M i,d,P,R,hn _ _ _ O,q,(S.same sm).dom,O,λw v B pw o U=>Y w v B pw (sm.trans o) (U.back sm λ_ z=>z),λC B T o=>L C B T (S.sm.trans (sm.trans o))⟩
theorem Q4{n:Ev->(List W->Prop)->Prop}{l:BI}{o:String}(G:dG X (.builtin o) (We X.K l))(E:Gl X x)(D:X.mg x=none)(B:bootBuiltins x=some (.builtin o))(I:T8 X M R (e::es) n)(C:x≠"__name__")(j:(x==("__debug__":Str))=false)
 (F:starEach (e::es) X.env=(false,eval e X.env)::starEach es X.env)(i:(backTo pos (starEach es X.env)).any (·.1)=false):VE X M R (Wd l) (.Call (.Name x p) (e::es) [] pos) (λd Q=>n d λf=>sO l f Q):=
 PE.imp (c6 G E D B I C j F i)<|by rintro q H Q ⟨A,L,d,P,S,J,h,k⟩;exact⟨A,L,d,_,S,J,h,λf O T y g u=>⟨FB A M q,f,P,(S.same g).dom,u,y,λw v N pw s r=>k w v N pw (g.trans s) (r.back g λ_ z=>z)⟩⟩
theorem Q5{n:Ev->(List W->Prop)->Prop}{l:BI}{o:String}(G:dG X (.type o) (We X.K l))(E:Gl X x)(D:X.mg x=none)(B:bootBuiltins x=some (.type o))(I:T8 X M R (e::es) n)(C:x≠"__name__")(j:(x==("__debug__":Str))=false)
 (F:starEach (e::es) X.env=(false,eval e X.env)::starEach es X.env)(i:(backTo pos (starEach es X.env)).any (·.1)=false):VE X M R (Wd l) (.Call (.Name x p) (e::es) [] pos) (λd Q=>n d λf=>sO l f Q):=
 PE.imp (DE G E D B I C j F i)<|by rintro q H Q ⟨A,L,d,P,S,J,h,k⟩;exact⟨A,L,d,_,S,J,h,λf O T y g u=>⟨FB A M q,f,P,(S.same g).dom,u,y,λw v N pw s r=>k w v N pw (g.trans s) (r.back g λ_ z=>z)⟩⟩
theorem Q6{n:String}(Y:yE X.K)(j:n∈["int","bool","tuple","list","str","dict"])(Z:Gl X x)(U:X.mg x=none)(O:bootBuiltins x=some (.builtin "isinstance"))(ha:VB X M R a ta)(hb:VB X M R b (λ_ Q=>Q (.ty n)))(T:x≠"__name__")(o:(x==("__debug__":Str))=false)
 (y:starEach [a,b] X.env=(false,eval a X.env)::starEach [b] X.env)(l:starEach [b] X.env=(false,eval b X.env)::starEach [] X.env)(i:(backTo pos (starEach [b] X.env)).any (·.1)=false):
 VE X M R .s (.Call (.Name x p) [a,b] [] pos) (λd Q=>ta d λw=>sO .zG [w,.ty n] Q):=
 PE.imp (c6 (cw_isi Y) Z U O (aF ha (aF hb bF l) y) T o y i)<|by rintro D H Q ⟨A,C,d,P,S,B,h,k⟩;refine⟨A,C,d,_,S,B,h,λw v H1 N g L=>⟨A,C,d,λq=>q=.ty n,S.same g,B,rfl,λq u H2 G f J=>?_⟩⟩;subst G;exact⟨FB A M D,w,n,P,j,⟨v,[u],rfl,bJ.same f L,u,[],rfl,J,rfl⟩,N,λE F H' pw I r=>k E F H' pw ((g.trans f).trans I) (r.back (g.trans f) λ_ z=>z)⟩
theorem LJ{d f:Pos}(r:VE X M R .s a ta)(j:attributeBase a "bit_length" X.env (eval a X.env)=eval a X.env)(g:(f.endLine==d.line)=true):
 VE X M R .s (.Call (.Attribute a "bit_length" f) [] [] d) (λl Q=>ta l λx=>match x with|.int i=>Q (.int (Builtin.Int.intBits i:Nat))|_=>False):=
 PE.imp (FO PySem.F.plainAttrs_int PySem.F.slot_int_bit_length PySem.F.type_int_bit_length KQ r j g)<|by
  rintro B H Q ⟨A,z,l,P,S,u,h,k⟩;refine⟨A,z,l,_,S,u,h,λw v y n o q=>?_⟩;cases w with
  |int i=>have e:=q.b7.int_inv;subst e;exact⟨rfl,i,rfl,rfl,k _ _ y n o (.of (iZ _))⟩
  |_=>exact n.elim
end
inductive E6(K:Frag)(br:Bool)(B:Addr->Prop)(H:Hp):It->List W->Prop where
 |lst {a:Addr} {vs:List V} {ws:List W} (h:Rd H a (.lst vs)) (n:br=false->¬B a) (r:au K B H ws vs):E6 K br B H (XJ K a) ws
 |tup {a:Addr} {vs:List V} {ws:List W} (h:kL K H a vs) (r:au K B H ws vs):E6 K br B H (Yz K a) ws
 |jP (lo:Int) (n:Nat):E6 K br B H (NX lo n) (eE lo 1 n)
 |LK (lo st:Int) (n:Nat):E6 K br B H (XS lo st n) (eE lo st n)
 |uE {a:Addr} {vs:List V} {ws:List W} (h:Rd H a (.lst vs)) (n:br=false->¬B a) (r:au K B H ws vs):E6 K br B H (Y5 K a) (gK ws)
structure IW(K:Frag)(B:Addr->Prop)(Hs:Hp)(J:It)(ws:List W):Prop where
 go:∀i H,aE Hs H->i<ws.length->J.go i H
 yl:∀i H x H' w,aE Hs H->ws[i]?=some w->J.TL i H x H'->aE H H'/\∀B':Addr->Prop,(∀p o,Hs p=some o->B' p->B p)->Rep K B' H' w x
 st:∀i H,aE Hs H->i=ws.length->J.stop i H
theorem mG(a st:Int)(n:Nat):(eE a st n).length=n:=by unfold eE;simp
theorem yF{b st:Int}{n i:Nat}{w:W}(h:(eE b st n)[i]?=some w):w=.int (b+i*st)/\i<n:=by
 unfold eE at h;rw[Dx]at h;by_cases a:i<n
 .rw[SB a]at h;cases h;exact⟨rfl,a⟩
 .rw[FK (by simpa using a)]at h;cases h
theorem uF(l:List W):(gK l).length=l.length:=by unfold gK;simp
theorem nN{l:List W}{i:Nat}{w:W}(h:(gK l)[i]?=some w):∃x,l[i]?=some x/\w=.tup [.int i,x]:=by
 unfold gK at h;rw[ax]at h;by_cases a:i<l.length
 .rw[SB a,BM a]at h;cases h;exact⟨_,BM a,rfl⟩
 .rw[FK (by simpa using a)]at h;cases h
theorem E6.iw{K:Frag}{br:Bool}{B:Addr->Prop}{k:Hp}{J:It}{o:List W}(h:E6 K br B k J o):IW K B k J o:=by
 cases h with
 |@lst a c _ h n r=>
  have q:∀H,aE k H->iN K H a c:=λH s=>.inl (VL.aE.rd s h);refine⟨λi H s b=>?_,λi H x l w s f y=>?_,λi H s b=>⟨c,q H s,by rw[r.len,b];exact Da _⟩⟩
  .have d:i<c.length:=by rw[r.len];exact b
   exact⟨c,c[i],q H s,BM d⟩
  .obtain⟨rfl,y⟩:=y;obtain⟨v,e,g⟩:=r.get f;have:=y c (q _ s);rw[e]at this;cases this;exact⟨aE.refl _,λm j=>Rep.mv s j w g⟩
 |@tup a c _ h r=>
  have q:∀H,aE k H->kL K H a c:=λH s=>L2.aE.tup s h;refine⟨λi H s b=>?_,λi H x l w s f y=>?_,λi H s b=>⟨c,q H s,by rw[r.len,b];exact Da _⟩⟩
  .have d:i<c.length:=by rw[r.len];exact b
   exact⟨c,c[i],q H s,BM d⟩
  .obtain⟨rfl,y⟩:=y;obtain⟨v,e,g⟩:=r.get f;have:=y c (q _ s);rw[e]at this;cases this;exact⟨aE.refl _,λm j=>Rep.mv s j w g⟩
 |jP C n=>refine⟨λi H s b=>by rw[mG]at b;exact b,λi H x l w s f y=>?_,λi H s b=>by rw[mG]at b;exact eJ b.symm⟩;obtain⟨rfl,rfl⟩:=y;obtain⟨rfl,_⟩:=yF f;exact⟨aE.refl _,λm _=>by rw[i4];exact iZ _⟩
 |LK C F n=>refine⟨λi H s b=>by rw[mG]at b;exact b,λi H x l w s f y=>?_,λi H s b=>by rw[mG]at b;exact eJ b.symm⟩;obtain⟨rfl,rfl⟩:=y;obtain⟨rfl,_⟩:=yF f;exact⟨aE.refl _,λm _=>iZ _⟩
 |@uE a c o h n r=>
  have q:∀H,aE k H->iN K H a c:=λH s=>.inl (VL.aE.rd s h);refine⟨λi H s b=>?_,λi H x l w s f y=>?_,λi H s b=>⟨c,q H s,by rw[r.len,b,uF]⟩⟩
  .rw[uF]at b;have d:i<c.length:=by rw[r.len];exact b
   exact⟨c,c[i],q H s,BM d⟩
  .obtain⟨p,y,E,rfl,rfl,D⟩:=y;obtain⟨A,t,rfl⟩:=nN f;obtain⟨v,e,g⟩:=r.get t;have z:=D c (q _ s);rw[e]at z;obtain rfl:v=y:=Kk z;have u:=aL (H:=H) E (.tup [.int i,v]);exact⟨u,λm j=>Ec aA (.cons (iZ _) (.cons (Rep.mv (s.trans u) j A g) .nil))⟩
noncomputable def itemsOf:W->Option (List W)
 |.lst l=>some l
 |.tup l=>some l
 |_=>none
theorem nO{z:W}{Q:List W->Prop}:items z Q↔∃a,itemsOf z=some a/\Q a:=by
 cases z<;>simp[items,itemsOf]
noncomputable def Ho(X:Cx)(M:Ms)(R:Addr->Prop)(br:Bool)(t:WT):TI:=λb H Q=>∃A e c P,SR X.K M A e b H c/\ER X e R/\t c P/\∀z,P z->∃d,itemsOf z=some d/\∀J a,aE H a->E6 X.K br (FB A M b) a J d->Q J a
theorem PI.imp{X:Cx}{tg e:Expr}{t t':TI}(h:PI X tg e t)(k:∀a H Q,t' a H Q->t a H Q):PI X tg e t':=λb s a H Q I w=>h b s a H Q I (k a H Q w)
section
variable{X:Cx}{M:Ms}{R:Addr->Prop}{e a b c tg:Expr}{t ta tb tc:WT}{m:Md}{pos p:Pos}{es:List Expr}{x:Str}{br:Bool}
theorem Q7{l:Expr}{tl:TE}(w:PE X l tl):PI X tg l (λj H Q=>tl j H λx H1=>∃a,x=.ref a/\(((∃f,iN X.K H1 a f)/\Q (XJ X.K a) H1)\/((∃f,kL X.K H1 a f)/\Q (Yz X.K a) H1))):=by
 intro g s j H Q I h;refine cI (w g s j H _ I h) ?_;rintro v d ⟨x,H1,I1,r,u⟩;obtain⟨a,e,q⟩:=u;subst e;cases r;rcases q with⟨⟨f,k⟩,q⟩|⟨⟨f,k⟩,q⟩
 .obtain⟨i,rv,p,hz⟩:=I1.list k;refine y2 p.isList ?_;refine⟨d.heap.objs.size,[d.heap.objs.size],_,_,H1,rfl,I1.kept (t':=d.toks) λb o e=>Fk _ e,ud a _,⟨_,On _ rfl,rfl,rfl⟩,λb n=>?_,q⟩;have e:b=d.heap.objs.size:=by simpa using n
  subst e;exact I1.zN (Da _) (I1.hok.fresh (Da _))
 .obtain⟨i,rv,p,hz⟩:=I1.tuple k;refine wpAny_pyIter_tuple (show d.heap.IsTuple a i.toArray from p) ?_;refine⟨d.heap.objs.size,[d.heap.objs.size],_,_,H1,rfl,I1.kept (t':=d.toks) λb o e=>Fk _ e,zO a _,⟨_,On _ rfl,rfl,rfl⟩,λb n=>?_,q⟩;have e:b=d.heap.objs.size:=by simpa using n
  subst e;exact I1.zN (Da _) (I1.hok.fresh (Da _))
noncomputable def Ua(K:Frag)(br:Bool):RL:=λB _ d w v=>bJ K B d w v/\(br=false->Rep K B d w v)
theorem mH(h:VE X M R m e t):PE X e (tV X M R (Ua X.K br) t):=PE.imp h<|by rintro j H Q ⟨A,g,d,P,S,f,p,k⟩;exact⟨A,g,d,P,S,f,p,λw v i pw s r=>k w v i pw s ⟨(r.rep S.dom).b,λ_=>r.rep S.dom⟩⟩
theorem Wf(h:VB X M R e t):PE X e (tV X M R (Ua X.K true) t):=PE.imp h<|by rintro j H Q ⟨A,g,d,P,S,f,p,k⟩;exact⟨A,g,d,P,S,f,p,λw v i pw s r=>k w v i pw s ⟨r,λz=>by cases z⟩⟩
theorem Ua.lst{K:Frag}{B:Addr->Prop}{H H':Hp}{l:List W}{v:V}(h:Ua K br B H H' (.lst l) v):∃p vs,v=.ref p/\Rd H' p (.lst vs)/\(br=false->¬B p)/\au K B H' l vs:=by obtain⟨p,vs,rfl,f,d⟩:=h.1.lst;refine⟨p,vs,rfl,f,λe=>?_,d⟩;have:=h.2 e;obtain⟨i,_,g,n,_⟩:=this;cases g;exact n
theorem gU(r:PE X a (tV X M R (Ua X.K br) ta)):PI X tg a (Ho X M R br ta):=PI.imp (Q7 r)<|by
 rintro y H Q ⟨A,w,q,P,S,u,h,k⟩;refine⟨A,w,q,P,S,u,h,λz v o hz j n=>?_⟩;obtain⟨B,g,k⟩:=k z hz;cases z with
 |lst l=>
  cases g;obtain⟨p,f,rfl,d,i,s⟩:=n.lst;exact⟨p,rfl,.inl ⟨⟨f,.inl d⟩,k _ o j (.lst d i s)⟩⟩
 |tup l=>
  cases g;obtain⟨p,f,rfl,d,i⟩:=n.1.tup;exact⟨p,rfl,.inr ⟨⟨f,d⟩,k _ o j (.tup d i)⟩⟩
 |_=>exact nn g
theorem Q8{d:List Expr}{r:Nat}{n:Pos}(w:Gl X "enumerate")(s:X.mg "enumerate"=none)(y:PE X a (tV X M R (Ua X.K br) ta))(g:starEach [a] X.env=(false,eval a X.env)::starEach [] X.env):
 PI X (.Tuple d r n) (.Call (.Name "enumerate" p) [a] [] pos) (Ho X M R br (λf Q=>ta f λx=>match x with|.lst l=>Q (.lst (gK l))|_=>False)):=
 PI.imp (KR w s (aF y bF g) rfl g)<|by
  rintro G H Q ⟨A,F,f,P,S,D,h,k⟩;refine⟨A,F,f,_,S,D,h,λz v E hz o q=>?_⟩;cases z with
  |lst l=>obtain⟨I,u,k⟩:=k _ hz;cases u;obtain⟨p,j,rfl,i,C,B⟩:=q.lst;exact⟨p,rfl,⟨j,.inl i⟩,k _ E o (.uE i C B)⟩
  |_=>exact hz.elim
theorem LL(u:Gl X "range")(q:X.mg "range"=none)(v:VE X M R .s a ta)(f:starEach [a] X.env=(false,eval a X.env)::starEach [] X.env):
 PI X tg (.Call (.Name "range" p) [a] [] pos) (Ho X M R br (λd Q=>ta d λx=>G7 [x] λl=>Q (.lst l))):=
 PI.imp (ue u q (aF v bF f) f)<|by
  rintro B H Q ⟨A,z,d,P,S,w,h,k⟩;refine⟨A,z,d,_,S,w,h,λx C y hz g i=>?_⟩;cases x with
  |int j=>obtain⟨o,n,hz⟩:=hz;obtain⟨D,r,k⟩:=k _ hz;cases r;cases i.b7.int_inv;exact⟨j,rfl,o,n,k _ y g (.jP 0 j.toNat)⟩
  |_=>exact hz.elim
theorem LM(C:Gl X "range")(z:X.mg "range"=none)(E:VE X M R .s a ta)(D:VE X M R .s b tb)(n:starEach [a,b] X.env=(false,eval a X.env)::starEach [b] X.env)(d:starEach [b] X.env=(false,eval b X.env)::starEach [] X.env):
 PI X tg (.Call (.Name "range" p) [a,b] [] pos) (Ho X M R br (λf Q=>ta f λx=>tb f λy=>G7 [x,y] λl=>Q (.lst l))):=
 PI.imp (Dq C z (aF E (aF D bF d) n) (by rw[n,d];rfl) d)<|by
  rintro G H Q ⟨A,q,f,P,S,o,h,k⟩;refine⟨A,q,f,_,S,o,h,λx J L hz g v=>⟨A,q,f,_,S.same g,o,hz,λy I F hz r u=>?_⟩⟩;cases x with
  |int i=>
   cases y with
   |int j=>obtain⟨w,hz⟩:=hz;obtain⟨K,B,k⟩:=k _ hz;cases B;cases v.b7.int_inv;cases u.b7.int_inv;exact⟨i,j,rfl,w,k _ F (g.trans r) (.jP i (j -i).toNat)⟩
   |_=>exact hz.elim
  |_=>exact hz.elim
theorem LN(I:Gl X "range")(F:X.mg "range"=none)(L:VE X M R .s a ta)(K:VE X M R .s b tb)(J:VE X M R .s c tc)(v:starEach [a,b,c] X.env=(false,eval a X.env)::starEach [b,c] X.env)(f:starEach [b,c] X.env=(false,eval b X.env)::starEach [c] X.env)(q:starEach [c] X.env=(false,eval c X.env)::starEach [] X.env):
 PI X tg (.Call (.Name "range" p) [a,b,c] [] pos) (Ho X M R br (λd Q=>ta d λx=>tb d λy=>tc d λz=>G7 [x,y,z] λl=>Q (.lst l))):=
 PI.imp (DU I F (aF L (aF K (aF J bF q) f) v) (by rw[v,f,q];rfl) (by rw[f,q];rfl))<|by
  rintro O H Q ⟨A,r,d,P,S,o,h,k⟩;refine⟨A,r,d,_,S,o,h,λx Y H1 hz g D=>⟨A,r,d,_,S.same g,o,hz,λy U H2 hz u C=>⟨A,r,d,_,S.same (g.trans u),o,hz,λz T N hz w B=>?_⟩⟩⟩;cases x with
  |int i=>
   cases y with
   |int j=>
    cases z with
    |int l=>obtain⟨n,E,hz⟩:=hz;obtain⟨Z,G,k⟩:=k _ hz;cases G;cases D.b7.int_inv;cases C.b7.int_inv;cases B.b7.int_inv;exact⟨i,j,l,n,rfl,E,k _ N ((g.trans u).trans w) (.LK i l n)⟩
    |_=>exact hz.elim
   |_=>exact hz.elim
  |_=>exact hz.elim
end
noncomputable def up(M:Ms)(n:Nat):Ms:=M.map λx=>(x.1+n,x.2)
section
variable{K:Frag}{M:Ms}{A:Fz}{H0 H H1:Hp}{σ v0:St}{ε δ:Ev}
theorem nQ{n i:Nat}{m:Md}:(i,m)∈up M n↔n<=i/\(i -n,m)∈M:=by
 unfold up;rw[Ki];constructor
 .rintro⟨⟨j,b⟩,a,e⟩;cases e;exact⟨Y9 _ _,by rw[He];exact a⟩
 .rintro⟨h,a⟩;exact⟨(i -n,m),a,by simp;omega⟩
theorem dJ{n i:Nat}:aT (up M n) i↔n<=i/\aT M (i -n):=by
 constructor
 .rintro⟨m,h⟩;exact⟨(nQ.mp h).1,m,(nQ.mp h).2⟩
 .rintro⟨h,m,a⟩;exact⟨m,nQ.mpr ⟨h,a⟩⟩
theorem rj{n i:Nat}(c:δ.length=n)(h:n<=i):look (δ++ε) i=look ε (i -n):=by
 have e:∀w,look (δ++ε) i=some w↔look ε (i -n)=some w:=λw=>by rw[bw,bw,Ha (by lia),c]
 cases b:look ε (i -n)with
 |none=>
  cases a:look (δ++ε) i with
  |none=>rfl
  |some w=>rw[e]at a;rw[b]at a;cases a
 |some w=>exact(e w).mpr b
theorem SR.block(S:SR K M A H0 σ H ε){n:Nat}(u:v0.length=n)(s:aE H H1){D:Addr}{o:HO}(C:H D=none)(t:H1 D=some o):SR K (up M n) ⟨λq=>A.ab q\/q=D,λq=>A.B q\/q=D,none⟩ H0 (v0++σ) H1 (A0 n none++ε):=by
 obtain⟨F,O⟩:=S.ow;have g:(A0 n (none:Option W)).length=n:=by simp
 have E:∀{i:Nat},n<=i->(v0++σ)[i]?=σ[i -n]?:=λ{i} h=>by rw[Ha (by lia),u]
 have y:∀p o,H p=some o->(A.B p\/p=D)->A.B p:=λp o e z=>by
  rcases z with z|rfl
  .exact z
  .rw[C]at e;cases e
 refine⟨by rw[Fm,Fm,u,g,S.len],λi w c e=>?_,S.sm.trans s,λp z=>?_,(λv e=>by cases e),λi=>F (i -n),⟨λi m G a b=>O.un _ m G (nQ.mp a).2 (nQ.mp b).2,λi m w I e=>?_,λi c e=>?_,λi c=>O.nd _ (dJ.mp c).2,λi j p c x a b=>?_,λi p c d=>O.nw _ p (dJ.mp c).2 d,λi p c d z=>?_,λp=>?_⟩⟩
 .by_cases f:n<=i
  .rw[rj g f]at e;rw[E f];obtain⟨v,l,k⟩:=S.sh (i -n) w (λz=>c (dJ.mpr ⟨f,z⟩)) e;exact⟨v,l,Rep.mv s y w k⟩
  .rw[bw,KE (by rw[g];lia),h9,Bz (by lia)]at e;cases e
 .rcases z with z|rfl
  .exact(S.dm.same s) p z
  .exact⟨_,t⟩
 .obtain⟨f,r⟩:=nQ.mp I;rw[rj g f]at e;rw[E f];obtain⟨v,l,k⟩:=O.val _ m w r e;exact⟨v,l,Fp.mv s y m k⟩
 .obtain⟨f,r⟩:=dJ.mp c;rw[rj g f]at e;exact O.emp _ r e
 .have:=O.ds _ _ p (dJ.mp c).2 (dJ.mp x).2 a b;have:=(dJ.mp c).1;have:=(dJ.mp x).1;lia
 .rcases z with z|rfl
  .exact O.na _ p (dJ.mp c).2 d z
  .obtain⟨o,e,_⟩:=O.has (dJ.mp c).2 d;rw[C]at e;cases e
 .constructor
  .rintro(z|rfl)
   .rcases(O.all p).mp z with z|⟨i,c,d⟩
    .exact .inl (.inl z)
    .exact .inr ⟨i+n,dJ.mpr ⟨by lia,by rw[He];exact c⟩,by rw[He];exact d⟩
   .exact .inl (.inr rfl)
  .rintro((z|rfl)|⟨i,c,d⟩)
   .exact .inl ((O.all p).mpr (.inl z))
   .exact .inr rfl
   .exact .inl ((O.all p).mpr (.inr ⟨i -n,(dJ.mp c).2,d⟩))
end
noncomputable def Wg:List Nat->NV
 |[]=>UP
 |i::a=>NW (gJ i) (Wg a)
noncomputable def gT(K:Frag)(one:Bool)(a:List Nat):TG:=
 match one,a with
 |true,[i]=>gJ i
 |true,_=>λ_ _ _ _=>False
 |false,a=>Pn K a.length (Wg a)
noncomputable def cG(a:St):List Nat->List V->St
 |i::b,v::vs=>cG (a.set i (some v)) b vs
 |_,_=>a
theorem rm:∀(b:List Nat)(vs:List V)(a:St),(cG a b vs).length=a.length
 |[],vs,a=>by rw[cG];simp
 |i::b,[],a=>by rw[cG];simp
 |i::b,v::vs,a=>by rw[cG,rm b vs,Q1]
theorem rq{n:Nat}:∀(c:List Nat)(vs:List V)(b a:St),b.length=n->(∀i∈c,i<n)->cG (b++a) c vs=cG b c vs++a
 |[],vs,b,a,_,_=>by rw[cG,cG]<;>simp
 |i::c,[],b,a,_,_=>by rw[cG,cG]<;>simp
 |i::c,v::vs,b,a,d,h=>by have hi:=h i FC;rw[cG,cG,List.set_append_left _ _ (by lia),rq c vs _ a (by rw[Q1];exact d) λj e=>h j (Ee _ e)]
section
variable{K:Frag}{M:Ms}{A:Fz}{H0 H:Hp}
theorem Ay:∀(a:List Nat)(vs:List V)(b:St)(Q:St->Hp->Prop),vs.length=a.length->Q (cG b a vs) H->Wg a vs b H Q
 |[],[],b,Q,_,q=>⟨rfl,q⟩
 |[],_::_,_,_,h,_=>by cases h
 |_::_,[],_,_,h,_=>by cases h
 |i::a,v::vs,b,Q,h,q=>⟨v,vs,rfl,Ay a vs _ Q (by simpa using h) (by rw[cG]at q;exact q)⟩
theorem SR.cO:∀(a:List Nat)(c:List W)(vs:List V){b:St}{d:Ev},(∀i∈a,¬aT M i)->SR K M A H0 b H d->au K (FB A M b) H c vs->c.length=a.length->SR K M A H0 (cG b a vs) H (cO d a c)
 |[],c,vs,b,d,_,S,_,_=>by rw[cG,VL.cO]<;>first|exact S|simp
 |i::a,[],vs,b,d,_,S,_,h=>by cases h
 |i::a,w::c,vs,b,d,e,S,r,h=>by obtain⟨v,f,rfl,m,l⟩:=r.cons_inv;rw[cG,VL.cO];have k:=e i FC;exact SR.cO a c f (λj g=>e j (Ee _ g)) (S.set k m) l (by simpa using h)
theorem tgt{b:St}{d:Ev}{one:Bool}{a:List Nat}{w:W}{v:V}{P:Ev->Prop}{Q:St->Hp->Prop}(j:∀i∈a,¬aT M i)(S:SR K M A H0 b H d)(g:Rep K (FB A M b) H w v)(h:wT one a w d P)
 (k:∀vs c,P c->SR K M A H0 (cG b a vs) H c->Q (cG b a vs) H):gT K one a v b H Q:=by
 cases one with
 |true=>
  match a,h with
  |[i],h=>
   have:=k [v] (d.set i (some w)) h (by rw[cG,cG]<;>first|exact S.set (j i FC) g|simp);rw[cG,cG]at this
   .exact this
   .simp
 |false=>
  cases w with
  |tup l=>obtain⟨e,h⟩:=h;obtain⟨p,vs,rfl,m,f⟩:=g;exact⟨p,vs,rfl,kL.of m,by rw[f.len,e],Ay a vs b Q (by rw[f.len,e]) (k vs _ h (SR.cO a l vs j S f e))⟩
  |_=>exact h.elim
end
theorem PF.imp{X:Cx}{e:List Expr}{t t':TT}(h:PF X e t)(k:∀a H Q,t' a H Q->t a H Q):PF X e t':=λb s a H Q I w=>h b s a H Q I (k a H Q w)
noncomputable def Zm(K:Frag)(M:Ms)(t:WT):TE:=λb H Q=>∃A d c P,SR K M A d b H c/\t c P/\∀w v a,P w->aE H a->Rep K (FB A M b) a w v->Q v a
noncomputable def X3(K:Frag)(M:Ms)(t:WT):TT:=λd H Q=>∃A e a P,SR K M A e d H a/\t a P/\∀x c,P x->aE H c->∃b,x=.bl b/\Q b c
section
variable{X:Cx}{M:Ms}{R:Addr->Prop}{tg iter elt:Expr}{ifs:List Expr}{scope:Scope}{xs N':List Str}{pos:Pos}{ti tc te:WT}{one:Bool}{ts:List Nat}
theorem yG(L:∀i∈ts,i<xs.length)(n:St)(H:Hp)(Q:VK)
 (hh:tV X M R (QJ X.K .f) (λu Q=>ti u λz=>items z λc=>jA (λw K=>wT one ts w (A0 xs.length none++u) λa=>tc a λx=>truth x λk=>if k=true then te a λy=>K (some y)else K none) c [] λl=>Q (.lst l)) n H Q):
 BN xs.length (Ho X M R true ti) (gT X.K one ts) (X3 X.K (up M xs.length) tc) (Zm X.K (up M xs.length) te) n H Q:=by
 obtain⟨A,H0,u,P,S,er,h,k⟩:=hh;refine⟨A,H0,u,_,S,er,h,λz hz=>?_⟩;obtain⟨c,ez,hw⟩:=nO.mp hz;refine⟨c,ez,λJ H1 s1 it D Y=>?_⟩;have iw:=it.iw;generalize O:(λ(w:W)(K:Option W->Prop)=>wT one ts w (A0 xs.length none++u) λa=>tc a λx=>truth x λk=>if k=true then te a λy=>K (some y)else K none)=f at hw;have Wh:H D=none:=s1.free Y;refine⟨λi m g=>∃d r,m=c.length -i/\i<=c.length/\aE H1 g/\g D=some (.lst r)/\au X.K (λq=>FB A M n q\/q=D) g d r/\jA f (c.drop i) d (λl=>P (.lst l)),
  ⟨c.length,[],[],rfl,L9 _,aL Y _,aA,.nil,hw⟩,?_⟩
 rintro i m g ⟨d,r,rfl,hi,s,Z,F,C⟩;by_cases G:i<c.length
 .refine .inr ⟨iw.go i g s G,λx T y v t=>?_⟩;have hwi:c[i]?=some c[i]:=BM G;rw[bj G]at C;generalize c[i]=w at*;obtain⟨s3,I⟩:=iw.yl i g x T w s hwi y;have X4:aE H T:=s1.trans (s.trans s3);have Zn:T D=some (.lst r):=s3 _ _ Z;have S3:SR X.K (up M xs.length) ⟨λq=>A.ab q\/q=D,λq=>A.B q\/q=D,none⟩ H0 (v++n) T (A0 xs.length none++u):=S.block t X4 Wh Zn;have Zo:Rep X.K (λq=>A.B q\/q=D) T w x:=by
   refine I _ λp o e z=>?_;rcases z with z|rfl
   .exact z
   .rw[Y]at e;cases e
  have hM:∀j∈ts,¬aT (up M xs.length) j:=λj hj z=>by have:=(dJ.mp z).1;have:=L j hj;lia
  rw[jA,<-O]at C;rw[O]at C;refine tgt hM S3 Zo C λE a hp S4=>?_;have e4:cG (v++n) ts E=cG v ts E++n:=rq ts E v n t L;rw[e4]at S4⊢;have hv1:(cG v ts E).length=xs.length:=by rw[rm];exact t
  refine⟨cG v ts E,hv1,rfl,⟨_,H0,a,_,S4,hp,λq H5 U s5=>?_⟩⟩;obtain⟨b,rfl,U⟩:=cJ U;refine⟨b,rfl,?_⟩;have J1:aE g H5:=s3.trans s5;cases b with
  |false=>exact⟨c.length -(i+1),by lia,d,r,rfl,G,s.trans J1,J1 _ _ Z,F.same J1,U⟩
  |true=>
   refine⟨_,H0,a,_,S4.same s5,U,λy vy H6 hy s6 ry=>?_⟩;obtain⟨N,hy⟩:=hy;have Q9:=J1.trans s6;have Wi:=Q9 _ _ Z;refine⟨r,Wi,by rw[F.len];exact N,c.length -(i+1),by lia,d++[y],r++[vy],rfl,G,λb o e=>?_,aA,?_,hy⟩
   .rw[aq (aO e Y)];exact Q9 _ _ (s _ _ e)
   .have Zp:Rep X.K (λq=>A.B q\/q=D) H6 y vy:=ry;exact au.put Wi (.inr rfl) _ ((F.same Q9).app (.cons Zp .nil))
 .have e:i=c.length:=by lia
  subst e;refine .inl ⟨iw.st _ g s rfl,?_⟩;rw[xI,jA]at C;exact k _ _ g C (s1.trans s) (.new Wh Z (F.less λp z=>.inl z) F)
theorem LO(t:X.calm=true)(o:d8 scope X.env.scope X.N N' xs=true)(e:∀i∈ts,i<xs.length)(p:PI X tg iter (Ho X M R true ti))(q:∀C b d c,PG (aX X scope C xs N' b d c) tg (gT X.K one ts))
 (r:∀C b d c,PF (aX X scope C xs N' b d c) ifs (X3 X.K (up M xs.length) tc))(s:∀C b d c,PE (aX X scope C xs N' b d c) elt (Zm X.K (up M xs.length) te))(n:∀z,foldedSetIterable iter X.env z=pure z):
 VE X M R .f (.ListComp elt [⟨tg,iter,ifs,0⟩] scope pos) (λg Q=>ti g λz=>items z λm=>jA (λw K=>wT one ts w (A0 xs.length none++g) λa=>tc a λx=>truth x λk=>if k=true then te a λy=>K (some y)else K none) m [] λl=>Q (.lst l)):=
 PE.imp (u7 xs N' t o p q r s n) λj H Q h=>yG e j H Q h
end
section
variable{K:Frag}{M M':Ms}{A:Fz}{H0 H H1:Hp}{σ:St}{ε:Ev}
theorem SR.rb(S:SR K M A H0 σ H ε):∃f,SR K M A f σ H ε/\aE H0 f/\aE f H/\(∀p o,H p=some o->(D8 o=true/\A.B p)\/f p=some o):=by
 classical
 obtain⟨F,O⟩:=S.ow;have d:∀p o,(if(∃i,aT M i/\p∈F i)then none else H p)=some o->H p=some o:=λp o z=>by
  split at z
  .cases z
  .exact z
 refine⟨λp=>if(∃i,aT M i/\p∈F i)then none else H p,⟨S.len,S.sh,d,S.dm,S.sl,F,⟨O.un,O.val,O.emp,O.nd,O.ds,λi p c a=>Bz ⟨i,c,a⟩,O.na,O.all⟩⟩,λb o z=>?_,d,λp o z=>?_⟩
 .try dsimp only
  rw[Bn]
  .exact S.sm _ _ z
  .rintro⟨i,c,e⟩;rw[O.nw i b c e]at z;cases z
 .by_cases a:∃i,aT M i/\p∈F i
  .have g:=a;obtain⟨i,c,a⟩:=a;obtain⟨j,e,h⟩:=O.has c a;rw[z]at e;cases e;exact .inl ⟨h,(O.all p).mpr (.inr g)⟩
  .exact .inr ((Bn a).trans z)
end
section
variable{K:Frag}{B A:Addr->Prop}{H Hs:Hp}
theorem E6.low{J:It}{f:List W}(h:∀p o,H p=some o->(D8 o=true/\B p)\/Hs p=some o)(b:∀p,A p->B p)(i:E6 K false B H J f):E6 K false A Hs J f:=by
 have g:∀{a:Addr}{c:List V},Rd H a (.lst c)->¬B a->Rd Hs a (.lst c):=λ{a c} r n=>by
  rcases r with r|⟨o,r⟩
  .rcases h a _ r with⟨_,z⟩|z
   .exact(n z).elim
   .exact .inl z
  .rcases h a _ r with⟨_,z⟩|z
   .exact(n z).elim
   .exact .inr ⟨o,z⟩
 cases i with
 |lst q n r=>exact .lst (g q (n rfl)) (λe z=>n e (b _ z)) (au.chg h (λp _ _ z=>b p z) _ r)
 |@tup a c _ q r=>
  refine .tup ?_ (au.chg h (λp _ _ z=>b p z) _ r);rcases q with(q|⟨o,q⟩)|q
  .rcases h a _ q with⟨z,_⟩|z
   .cases z
   .exact .inl (.inl z)
  .rcases h a _ q with⟨z,_⟩|z
   .cases z
   .exact .inl (.inr ⟨o,z⟩)
  .exact .inr q
 |jP d n=>exact .jP d n
 |LK d j n=>exact .LK d j n
 |uE q n r=>exact .uE (g q (n rfl)) (λe z=>n e (b _ z)) (au.chg h (λp _ _ z=>b p z) _ r)
end
abbrev WS:=Dn->Ev->Prop
noncomputable def iD:Md->Bool
 |.io _=>true
 |_=>false
noncomputable def Az(K:Frag)(ab:Addr->Prop)(f:Option V)(e H':Hp)(m:Md)(w:W)(v:V):Prop:=
 match m with
 |.io g=>∃b c d a,w=.tup [b,c]/\f=some d/\a.Nodup/\(∀p∈a,e p=none/\¬ab p)/\Fp K (λp=>ab p\/p∈a) H' g c d a/\Rep K (λp=>ab p\/p∈a) H' b v
 |m=>dW K ab e H' m w v
theorem Az.of{K:Frag}{ab:Addr->Prop}{b:Option V}{a H':Hp}{m:Md}{w:W}{v:V}(c:iD m=false)(h:dW K ab a H' m w v):Az K ab b a H' m w v:=by
 cases m with
 |io _=>cases c
 |_=>exact h
theorem Az.back{K:Frag}{ab:Addr->Prop}{a:Option V}{e d H':Hp}{m:Md}{w:W}{v:V}(s:aE e d)(h:Az K ab a d H' m w v):Az K ab a e H' m w v:=by
 cases m with
 |io q=>obtain⟨f,g,i,o,n,l,k,c,j⟩:=h;exact⟨f,g,i,o,n,l,k,λp b=>⟨s.free (c p b).1,(c p b).2⟩,j⟩
 |_=>exact dW.back s (λ_ z=>z) h
structure KS(X:Cx)(M:Ms)(m:Md)(ab:Addr->Prop)(s0:Option V)(H0:Hp)(d:Dn)(D:Ends):Prop where
 nx:∀A ε σ H,A.ab=ab->A.s0=s0->d.nx ε->SR X.K M A H0 σ H ε->D.nx σ H
 rt:∀w v H',d.rt w->aE H0 H'->Az X.K ab s0 H0 H' m w v->D.rt v H'
 bk:∀A ε σ H,A.ab=ab->A.s0=s0->d.bk ε->SR X.K M A H0 σ H ε->D.bk σ H
 ct:∀A ε σ H,A.ab=ab->A.s0=s0->d.ct ε->SR X.K M A H0 σ H ε->D.ct σ H
noncomputable def sV(X:Cx)(M:Ms)(m:Md)(t:WS):TS:=λD c H=>∃A a b d,SR X.K M A a c H b/\ER X a d.ex/\A.s0.isSome=iD m/\t d b/\KS X M m A.ab A.s0 a d D
abbrev VS(X:Cx)(M:Ms)(m:Md)(st:Stmt)(t:WS):Prop:=PS X st (sV X M m t)
abbrev Hq(X:Cx)(M:Ms)(m:Md)(st:List Stmt)(t:WS):Prop:=sN X st (sV X M m t)
theorem PS.imp{X:Cx}{e:Stmt}{t t':TS}(h:PS X e t)(k:∀D a H,t' D a H->t D a H):PS X e t':=λb s a H D I w=>h b s a H D I (k D a H w)
theorem sN.imp{X:Cx}{e:List Stmt}{t t':TS}(h:sN X e t)(k:∀D a H,t' D a H->t D a H):sN X e t':=λb s a H D I w=>h b s a H D I (k D a H w)
section
variable{X:Cx}{M M':Ms}{R:Addr->Prop}{m mr m0:Md}{st:Stmt}{rest:List Stmt}{t u:WS}{e e1 e2 c:Expr}{te t1 t2 tc:(Addr->Prop)->WT}{pos pos':Pos}{x:Str}{i:Nat}{π:List nI}
theorem LP:Hq X M m [] (λd a=>d.nx a):=sN.imp Kd<|by rintro D b H ⟨A,g,a,d,S,f,hz,h,k⟩;exact k.nx A a b H rfl rfl h S
theorem LQ(h:VS X M m st t):Hq X M m [st] t:=jT h
theorem Hr(h:VS X M m st t)(k:Hq X M m rest u):Hq X M m (st::rest) (λd b=>t {d with nx:=u d} b):=
 sN.imp (cu h k)<|by rintro D r H ⟨A,j,b,d,S,f,hz,h,k⟩;exact⟨A,j,b,{d with nx:=u d},S,f,hz,h,λq a l s o g n p=>⟨q,j,a,d,p,f,(by rw[g];exact hz),n,by rw[o,g];exact k⟩,k.rt,k.bk,k.ct⟩
theorem LR{st:List Stmt}(h:Hq X M' m st t)(j:∀x∈M',x∈M)(g:iD m=true->aT M 0->aT M' 0):Hq X M m st (λd a=>t {d with nx:=λ_=>False,bk:=λ_=>False,ct:=λ_=>False} a):=sN.imp h<|by rintro D B H ⟨A,p,a,d,S,l,hz,h,k⟩;obtain⟨y,n,b,_,o⟩:=S.sub (M':=M') j A.s0 (λv e=>⟨e,g (by rw[<-hz,e];rfl) (S.sl v e).2⟩);refine⟨y,p,a,{d with nx:=λ_=>False,bk:=λ_=>False,ct:=λ_=>False},o,l,by rw[b];exact hz,h,λ_ _ _ _ _ _ z=>z.elim,λw v q f s r=>k.rt w v q f s ?_,λ_ _ _ _ _ _ z=>z.elim,λ_ _ _ _ _ _ z=>z.elim⟩;rw[b,n]at r;exact r
theorem Ra:VS X M m (.Break pos) (λd a=>d.bk a):=PS.imp Fq<|by rintro D b H ⟨A,g,a,d,S,f,hz,h,k⟩;exact k.bk A a b H rfl rfl h S
theorem Rb{f:List Nat}(g:∀{j:TE},PE X e j->PS X st (qm j (gT X.K false f)))(z:∀i∈f,¬aT M i)(B:∀R,VE X M R .s e (te R)):
 VS X M m st (λd b=>te d.ex b λw=>match w with|.tup l=>l.length=f.length/\d.nx (cO b f l)|_=>False):=by
 rintro a s o H D I ⟨A,G,b,d,S,C,hz,h,k⟩;refine g (B d.ex) a s o H D I ⟨A,G,b,_,S,C,h,λw v F n q r=>?_⟩;cases w with
 |tup l=>exact tgt (P:=d.nx) z (S.same q) r.b7 n λJ p y E=>k.nx A _ _ F rfl rfl y E
 |_=>exact n.elim
theorem Rc{a:List Nat}{es:List Expr}{ta:(Addr->Prop)->Ev->(List W->Prop)->Prop}(n:∀{o:TA},PA X es o->PS X st (λD f H=>o f H λvs H1=>vs.length=a.length/\D.nx (cG f a vs) H1))(q:∀i∈a,¬aT M i)(v:∀R,VA X M R es (ta R)):
 VS X M m st (λd g=>ta d.ex g λj=>j.length=a.length/\d.nx (cO g a j)):=by
 rintro b s f H D I ⟨A,y,g,d,S,w,hz,h,k⟩;refine n (v d.ex) b s f H D I ⟨A,y,g,_,S,w,h,λj vs H1 l p r=>?_⟩;exact⟨by rw[au.len r,l.1],k.nx A _ _ H1 rfl rfl l.2 (SR.cO a j vs q (S.same p) r l.1)⟩
theorem p6{K:Frag}{A:Fz}{J H:Hp}{C:St}{D:Ev}{w:W}{l:List W}(S:SR K M A J C H D)(d:(i,m0)∈M)(hp:kg m0 π=some .f)(L:look D i=some w)(Z:cW w π=some (.lst l)):
 ∃v p vs,C[i]?=some (some v)/\xN K H v π (.ref p)/\H p=some (.lst vs)/\au K A.B H l vs/\A.B p/\∀H1,aE H H1->∀(b:List W)(a:List V),au K A.B H1 b a->
  ∃h,h.ab=A.ab/\h.s0=A.s0/\(∀q o,H1 q=some o->h.B q->A.B q)/\xM A.B H1 (upd H1 p (.lst a))/\SR K M h J C (upd H1 p (.lst a)) (D.set i (some (setAt w π (.lst b)))):=by
 obtain⟨F,O⟩:=S.ow;obtain⟨v,g,j⟩:=O.val i m0 w d L;obtain⟨v',U,F',T,G,r,fp,y⟩:=Fp.path π m0 j hp Z;obtain⟨ws,p,vs,e1,rfl,rfl,E,h4⟩:=fp;cases e1;have Y:p∈F i:=by rw[G];simp
 have I:A.B p:=(O.all p).mpr (.inr ⟨i,⟨m0,d⟩,Y⟩);refine⟨v,p,vs,g,r,E,h4,I,λH1 s b a hr=>?_⟩;have Q:=S.same s;obtain⟨F0,O0⟩:=Q.ow;have O1:TZ K M A J C H1 D F:=⟨O.un,λi m w d e=>let⟨v,g,j⟩:=O.val i m w d e;⟨v,g,Fp.mv s (λ_ _ _ z=>z) m j⟩,O.emp,O.nd,O.ds,O.nw,O.na,O.all⟩;have P:=s _ _ E;have N:xM A.B H1 (upd H1 p (.lst a)):=.put P rfl I;have Zr:p∉U++T:=by
  have:=O.nd i ⟨m0,d⟩;rw[G]at this;intro z;have g:=vw.mp this;rcases Hb.mp z with z|z
  .have j:=vw.mp g.1;exact j.2.2 p z p (by simp) rfl
  .exact g.2.2 p (by simp) p z rfl
 have k:Fp K A.B (upd H1 p (.lst a)) m0 (setAt w π (.lst b)) v (U++[p]++T):=by
  refine y (upd H1 p (.lst a)) A.B (.lst b) [p] ?_ (λq o e=>?_) (λq _ _ z=>z)
  .exact⟨b,p,a,rfl,rfl,rfl,aA,au.chg N (λ_ _ _ z=>z) b hr⟩
  .by_cases n:q=p
   .subst n;rw[E]at e;cases e;exact .inl ⟨rfl,I,Zr⟩
   .exact .inr (by rw[aq n];exact s _ _ e)
 rw[<-G]at k;have hc:∀q o,H1 q=some o->(D8 o=true/\q∈F i)\/upd H1 p (.lst a) q=some o:=λq o e=>by
  by_cases n:q=p
  .subst n;rw[P]at e;cases e;exact .inl ⟨rfl,Y⟩
  .exact .inr (by rw[aq n];exact e)
 have Zs:Fp K (λq=>(A.B q/\q∉F i)\/q∈F i) (upd H1 p (.lst a)) m0 (setAt w π (.lst b)) v (F i):=Fp.mv (aE.refl _) (λq _ _ z=>by
  rcases z with z|z
  .exact z.1
  .exact(O.all q).mpr (.inr ⟨i,⟨m0,d⟩,z⟩)) m0 k
 obtain⟨h,a1,a2,_,a3,a4,a5⟩:=O1.chg (F':=F i) Q d L g hc (O.nd i ⟨m0,d⟩) (λq hq=>.inl hq) Zs;exact⟨h,a1,a2,a3,N,a5⟩
theorem rC{a:Ev}{P:List W->Prop}(h:match look a i with|some (.lst l)=>P l|_=>False):∃l,look a i=some (.lst l)/\P l:=by
 cases b:look a i with
 |none=>rw[b]at h;exact h.elim
 |some d=>
  rw[b]at h;cases d with
  |lst l=>exact⟨l,rfl,h⟩
  |_=>exact h.elim
theorem Zt:kg m0 []=some m0:=by cases m0<;>rfl
theorem Rf{w:W}:cW w []=some w:=by cases w<;>rfl
theorem LS{w u:W}:setAt w [] u=u:=by cases w<;>rfl
theorem Rg(o:∀{q:TE},PE X e q->PS X st (xU (XN X.K "list" pL (kJ i) (BF q Kp))))(F:(i,.f)∈M)(G:∀R,VE X M R .s e (te R)):
 VS X M m st (λd a=>match look a i with|some (.lst l)=>te d.ex a λw=>l.length<sizeLine/\d.nx (a.set i (some (.lst (l++[w]))))|_=>False):=by
 rintro g s E H D I ⟨A,Q,a,d,S,N,hz,h,k⟩;obtain⟨l,e1,h⟩:=rC h;obtain⟨U,p,j,L,J,B,z,Y,b⟩:=p6 (π:=[]) S F Zt e1 Rf;cases J;refine o (G d.ex) g s E H D I ⟨_,L,.inl ⟨rfl,j,.inl (.inl B)⟩,A,Q,a,_,S,N,h,λw v P y n r=>?_⟩;obtain⟨T,O,a2,_,_,C⟩:=b P n (l++[w]) (j++[v]) ((z.same n).app (.cons r.b7 .nil));rw[LS]at C;exact⟨p,j,v,rfl,rfl,n _ _ B,by rw[z.len];exact y.1,k.nx T _ _ _ O a2 y.2 C⟩
theorem Rh{J:Md}(Y:∀{tv:TE},PE X e tv->PS X st (xU (XN X.K "list" pL (kJ i) (BF tv Kp))))(L:(i,.ls J)∈M)(he:∀R,VE X M R J e (te R)):
 VS X M m st (λd C=>match look C i with|some (.lst l)=>te d.ex C λw=>l.length<sizeLine/\d.nx (C.set i (some (.lst (l++[w]))))|_=>False):=by
 rintro E s σ H D I ⟨A,H0,C,d,S,er,hz,h,k⟩;obtain⟨l,e1,h⟩:=rC h;obtain⟨F,O⟩:=S.ow;obtain⟨v0,h1,h2⟩:=O.val i _ _ L e1;obtain⟨ws,p,N,F',q,rfl,j,P,h4⟩:=h2;cases q;have g:p∈F i:=by rw[j];exact FC
 have y:∀q∈F i,A.B q:=λq f=>(O.all q).mpr (.inr ⟨i,⟨_,L⟩,f⟩);have Zu:(p::F').Nodup:=by rw[<-j];exact O.nd i ⟨_,L⟩
 refine Y (he d.ex) E s σ H D I ⟨_,h1,.inl ⟨rfl,N,.inl (.inl P)⟩,A,H0,C,_,S,er,h,λw v H1 hw Q r=>?_⟩;obtain⟨G,nd,T,fp⟩:=r;have Wj:=Q _ _ P;have U:∀q∈F i,q∉G:=λq f z=>by obtain⟨o,e,_⟩:=O.has ⟨_,L⟩ f;rw[T q z]at e;cases e
 have ba:∀q o,H q=some o->((A.B q/\q∉F i)\/q∈p::(F'++G))->A.B q:=λq o e z=>by
  rcases z with z|z
  .exact z.1
  .rcases Fn.mp z with rfl|z
   .exact y _ g
   .rcases Hb.mp z with z|z
    .exact y q (by rw[j];exact Ee _ z)
    .rw[T q z]at e;cases e
 have fp1:Fp X.K (λq=>(A.B q/\q∉F i)\/q∈p::(F'++G)) (upd H1 p (.lst (N++[v]))) (.ls J) (.lst (l++[w])) (.ref p) (p::(F'++G)):=by
  refine⟨_,p,_,F'++G,rfl,rfl,rfl,aA,fR.app (h4.mono λw' v' F1 Z z=>Fp.chg (A:=A.B) (G:=(·∈F')) (λq o e=>?_) ba J Z z) ⟨v,[],G,[],rfl,by simp,?_,rfl,rfl⟩⟩
  .by_cases n:q=p
   .subst n;rw[P]at e;cases e;exact .inl ⟨rfl,y _ g,(Pm.mp Zu).1⟩
   .exact .inr (by rw[aq n];exact Q _ _ e)
  .refine Fp.chg (A:=λq=>A.B q\/q∈G) (G:=(·∈G)) (λq o e=>?_) (λq o e z=>?_) J (λq f=>f) fp
   .by_cases n:q=p
    .subst n;rw[Wj]at e;cases e;exact .inl ⟨rfl,.inl (y _ g),U _ g⟩
    .exact .inr (by rw[aq n];exact e)
   .rcases z with z|z
    .exact .inl z.1
    .rcases Fn.mp z with rfl|z
     .exact .inl (y _ g)
     .exact(Hb.mp z).imp (λz=>y q (by rw[j];exact Ee _ z)) id
 obtain⟨A',a1,a2,_,_,_,S'⟩:=O.chg (H1:=upd H1 p (.lst (N++[v]))) (F':=p::(F'++G)) S L e1 h1 (λq o e=>by
  by_cases n:q=p
  .subst n;rw[P]at e;cases e;exact .inl ⟨rfl,g⟩
  .exact .inr (by rw[aq n];exact Q _ _ e)) (by
   refine Pm.mpr ⟨λz=>?_,vw.mpr ⟨(Pm.mp Zu).2,nd,λa ha b hb e=>?_⟩⟩
   .rcases Hb.mp z with z|z
    .exact(Pm.mp Zu).1 z
    .exact U _ g z
   .subst e;exact U a (by rw[j];exact Ee _ ha) hb) (λq f=>by
   rcases Fn.mp f with rfl|f
   .exact .inl g
   .exact(Hb.mp f).imp (λz=>by rw[j];exact Ee _ z) (T q)) fp1
 exact⟨p,N,v,rfl,rfl,Wj,by rw[h4.len];exact hw.1,k.nx A' _ _ _ a1 a2 hw.2 S'⟩
theorem Ri(B:∀{E F:TE},PE X e E->PE X e1 F->PS X st (qm E (UQ (kJ i) F N4)))(U:(i,.f)∈M)(Y:∀R,VE X M R .s e (te R))(T:∀R,VE X M R .s e1 (t1 R)):
 VS X M m st (λd b=>te d.ex b λw=>match look b i with|some (.lst l)=>(t1 d.ex b λx=>(match x with|.int j=>∃n,xK l.length j=some n/\d.nx (b.set i (some (.lst (l.set n w))))|_=>False))|_=>False):=by
 rintro q s P H D I ⟨A,O,b,d,S,L,hz,h,k⟩;refine B (Y d.ex) (T d.ex) q s P H D I ⟨A,O,b,_,S,L,h,λw v H1 y J r=>?_⟩;obtain⟨l,e1,y⟩:=rC y;obtain⟨v0,p,C,h1,h2,Z,K,hB,o⟩:=p6 (π:=[]) S U Zt e1 Rf;cases h2;refine⟨_,h1,A,O,b,_,S.same J,L,y,λz vz H2 a G Q=>?_⟩;cases z with
 |int j=>obtain⟨n,e,a⟩:=a;have g:=J.trans G;obtain⟨A',a1,a2,_,_,N⟩:=o H2 g (l.set n w) (C.set n v) ((K.same g).set (r.b7.same G));rw[LS]at N;exact⟨p,C,j,n,rfl,Q.b7.int_inv,g _ _ Z,by rw[K.len];exact e,k.nx A' _ _ _ a1 a2 a N⟩
 |_=>exact a.elim
theorem Ht(p:∀R,VE X [] R mr e (te R))(o:mr=m\/m=.s)(j:iD m=false):VS X M m (.Return (some e) pos) (λd b=>te d.ex b d.rt):=by
 rintro a s n H D I ⟨A,y,b,d,S,q,hz,h,k⟩;refine ny (p d.ex) a s n H D I ⟨_,y,b,_,S.go,q,h,λw v l g f r=>?_⟩;rcases o with rfl|rfl
 .exact k.rt w v l g (S.sm.trans f) (.of j (r.back S.sm λ_ z=>z))
 .exact k.rt w v l g (S.sm.trans f) (.of j ((r.s S.dm).back S.sm λ_ z=>z))
theorem LU(l:∀R,VE X M R .s e (te R)):VS X M .s (.Return (some e) pos) (λd b=>te d.ex b d.rt):=by rintro a s f H D I ⟨A,p,b,d,S,n,hz,h,k⟩;refine ny (l d.ex) a s f H D I ⟨A,p,b,_,S,n,h,λw v o j g r=>?_⟩;exact k.rt w v o j (S.sm.trans g) (.of rfl (dW.back S.sm S.sub' r))
theorem LV(o:PE X e (kJ i))(b:(i,m)∈M)(n:iD m=false):VS X M m (.Return (some e) pos) (λd f=>match look f i with|some w=>d.rt w|none=>False):=by
 rintro a s j H D I ⟨A,C,f,d,S,B,hz,h,k⟩
 try dsimp only at h
 cases g:look f i with
 |none=>rw[g]at h;exact h.elim
 |some w=>
  rw[g]at h;obtain⟨F,O⟩:=S.ow;obtain⟨v,y,r⟩:=O.val i m w b g;refine ny o a s j H D I ⟨_,y,k.rt _ _ H h S.sm (.of n ⟨F i,O.nd i ⟨m,b⟩,λp l=>O.nw i p ⟨m,b⟩ l,Fp.mv (aE.refl _) (λq _ _ z=>?_) m r⟩)⟩;rcases z with z|z
  .exact(O.all q).mpr (.inl z)
  .exact(O.all q).mpr (.inr ⟨i,⟨m,b⟩,z⟩)
theorem vV{K:Frag}{A:Fz}{n H:Hp}{o:St}{h:Ev}{g b:W}{v:V}(S:SR K M A n o H h)(a:(0,m0)∈M)(q:look h 0=some b)(f:∃d,A.s0=some d)(r:Rep K A.B H g v):Az K A.ab A.s0 n H (.io m0) (.tup [g,b]) v:=by obtain⟨d,f⟩:=f;obtain⟨F,O⟩:=S.ow;obtain⟨u,l,s⟩:=O.val 0 m0 b a q;rw[(S.sl d f).1]at l;cases l;have k:∀p,(A.ab p\/p∈F 0)->A.B p:=λp z=>(O.all p).mpr (z.imp id λz=>⟨0,⟨m0,a⟩,z⟩);exact⟨g,b,d,F 0,rfl,f,O.nd 0 ⟨m0,a⟩,λp j=>⟨O.nw 0 p ⟨m0,a⟩ j,O.na 0 p ⟨m0,a⟩ j⟩,Fp.mv (aE.refl _) (λp _ _ z=>k p z) m0 s,r.less k⟩
theorem Wk{a b:List Stmt}(r:∀R,VT X M R c (tc R))(w:Hq X M m a t)(v:Hq X M m b u):VS X M m (.If c a b pos) (λd f=>tc d.ex f λx=>truth x λk=>if k=true then t d f else u d f):=by
 rintro g s p H D I ⟨A,n,f,d,S,l,hz,h,k⟩;refine UM (r d.ex) w v g s p H D I ⟨A,n,f,_,S,l,h,λx y j o=>?_⟩;obtain⟨q,rfl,j⟩:=cJ j;refine⟨q,rfl,?_⟩;cases q with
 |true=>exact⟨A,n,f,d,S.same o,l,hz,j,k⟩
 |false=>exact⟨A,n,f,d,S.same o,l,hz,j,k⟩
end
theorem AB{X:Cx}{st:Stmt}{t:TS}(h:PS X.jS st t):PS X st t:=PS.jS h
section
variable{X:Cx}{M:Ms}{m:Md}{body:List Stmt}{tb:WS}{c iter tg:Expr}{tc:WT}{ti:(Addr->Prop)->WT}{pos:Pos}{one:Bool}{ts:List Nat}
theorem Rj(L:VT X.jS M (λ_=>False) c tc)(O:Hq X.jS M m body tb):VS X M m (.While c body [] pos) (λd r=>Lu (λr Q=>tc r λx=>truth x Q) tb d r):=by
 refine PS.imp (AB (Fw PassesOwn.never L O)) ?_;rintro D T H ⟨A,u,r,d,S,U,hz,h,k⟩;obtain⟨J,⟨C,G⟩,s⟩:=h;refine⟨λn b f=>∃e a,e.ab=A.ab/\e.s0=A.s0/\J n a/\SR X.K M e u b f a,⟨C,A,r,rfl,rfl,G,S⟩,?_⟩;rintro n B Y ⟨y,w,t,p,F,v⟩;refine⟨y,u,w,_,v,.none,s n w F,λx R o z=>?_⟩;obtain⟨q,rfl,o⟩:=cJ o;refine⟨q,rfl,?_⟩;cases q with
 |true=>obtain⟨N,P,o⟩:=o;refine⟨λb f=>∃e a,e.ab=A.ab/\e.s0=A.s0/\N a/\SR X.K M e u b f a,λb f ⟨e,a,j,a2,i,g⟩=>?_,y,u,w,_,v.same z,.none,(by rw[p];exact hz),o,⟨λe a b f j a2 i g=>⟨e,a,j.trans t,a2.trans p,i,g⟩,by rw[t,p];exact k.rt,λe a b f j a2 i g=>k.nx e a b f (j.trans t) (a2.trans p) i g,λe a b f j a2 i g=>⟨e,a,j.trans t,a2.trans p,i,g⟩⟩⟩;obtain⟨E,l,I⟩:=P a i;exact⟨E,l,e,a,j,a2,I,g⟩
 |false=>exact k.nx y _ _ R t p o (v.same z)
theorem Rk(hc:X.calm=true)(hM:∀i∈ts,¬aT M i)(Z:PI X.jS tg iter (Ho X.jS M (λ_=>False) false (ti λ_=>False)))(hg:PG X.jS tg (gT X.K one ts))(hb:Hq X.jS M m body tb)(hs:∀x,foldedSetIterable iter X.env x=pure x):
 VS X M m (.For tg iter body [] pos) (λd G=>ti (λ_=>False) G λz=>items z λg=>mF (λw P a=>wT one ts w a λl=>tb P l) d g G):=by
 refine PS.imp (AB (Fx PassesOwn.never hc Z hg hb hs)) ?_;rintro D σ H ⟨A,H0,G,d,S,er,hz,h,k⟩;refine⟨A,H0,G,_,S,.none,h,λz U=>?_⟩;obtain⟨g,ez,hw⟩:=nO.mp U;refine⟨g,ez,λJ H1 s1 it=>?_⟩;have S1:=S.same s1;obtain⟨L,Ss,R,b1,b2⟩:=S1.rb;have low:E6 X.K false A.ab L J g:=it.low (λp o e=>b2 p o e) λp z=>S.sub' p z;have iw:=low.iw;refine⟨λi n f r=>n=g.length -i/\i<=g.length/\∃b a,b.ab=A.ab/\b.s0=A.s0/\SR X.K M b L f r a/\mF (λw P a=>wT one ts w a λl=>tb P l) d (g.drop i) a,⟨g.length,rfl,L9 _,A,G,rfl,rfl,Ss,hw⟩,?_⟩;have up:∀{b:Fz}{f:St}{r:Hp}{a:Ev},SR X.K M b L f r a->SR X.K M b H0 f r a:=λ{b f r a} q=>by obtain⟨F,O⟩:=q.ow;exact⟨q.len,q.sh,R.trans q.sm,q.dm,q.sl,F,⟨O.un,O.val,O.emp,O.nd,O.ds,λi p Z e=>R.free (O.nw i p Z e),O.na,O.all⟩⟩
 rintro i n T H2 ⟨rfl,hi2,A2,zI,C,B,E,Q⟩;by_cases u:i<g.length
 .refine .inr ⟨iw.go i H2 E.sm u,λf r=>∃b a,b.ab=A.ab/\b.s0=A.s0/\SR X.K M b L f r a/\mF (λw P a=>wT one ts w a λl=>tb P l) d (g.drop (i+1)) a,by rintro f r ⟨b,a,v,a2,t,s⟩;exact⟨g.length -(i+1),by omega,rfl,u,b,a,v,a2,t,s⟩,λx H3 y=>?_⟩;have Y:g[i]?=some g[i]:=BM u;rw[bj u,mF]at Q;generalize g[i]=w at*;obtain⟨s3,I⟩:=iw.yl i H2 x H3 w E.sm Y y;have hr:Rep X.K (FB A2 M T) H3 w x:=I _ λp o e z=>by
   obtain⟨F,O⟩:=E.ow;rcases(O.all p).mp z with z|⟨j,hj,e2⟩
   .rw[C]at z;exact z
   .rw[O.nw j p hj e2]at e;cases e
  refine tgt hM (E.same s3) hr Q λvs a hp S4=>?_;exact⟨A2,L,a,_,S4,.none,(by rw[B];exact hz),hp,⟨λb l Wl N v a2 t s=>⟨b,l,v.trans C,a2.trans B,s,t⟩,λw' v' r t s q3=>k.rt w' v' r t (R.trans s) (by rw[C,B]at q3;exact q3.back R),λb l Wl N v a2 t s=>k.nx b _ _ _ (v.trans C) (a2.trans B) t (up s),λb l Wl N v a2 t s=>⟨b,l,v.trans C,a2.trans B,s,t⟩⟩⟩
 .have e:i=g.length:=by omega
  subst e;refine .inl ⟨iw.st _ H2 E.sm rfl,?_⟩;rw[xI,mF]at Q;exact k.nx A2 _ _ _ C B Q (up E)
end
structure Go(A:Fz)(H:Hp)(A':Fz)(H':Hp):Prop where
 ab:A'.ab=A.ab
 s0:A'.s0=A.s0
 B:∀p o,H p=some o->A'.B p->A.B p
 ch:xM A.B H H'
theorem Go.same{A:Fz}{H H':Hp}(s:aE H H'):Go A H A H':=⟨rfl,rfl,λ_ _ _ z=>z,.same s⟩
theorem Go.trans{A c b:Fz}{H H1 a:Hp}(g:Go A H c H1)(k:Go c H1 b a):Go A H b a:=by
 refine⟨k.ab.trans g.ab,k.s0.trans g.s0,λp o e z=>?_,λp o e=>?_⟩
 .rcases g.ch p o e with⟨_,y⟩|y
  .exact y
  .exact g.B p o e (k.B p o y z)
 .rcases g.ch p o e with y|y
  .exact .inl y
  .rcases k.ch p o y with⟨f,d⟩|h
   .exact .inl ⟨f,g.B p o e d⟩
   .exact .inr h
theorem Go.rep{K:Frag}{A a:Fz}{H H1:Hp}{w:W}{v:V}(g:Go A H a H1)(h:Rep K A.B H w v):Rep K a.B H1 w v:=Rep.chg g.ch g.B w h
abbrev Rl:=Ev->(W->Ev->Prop)->Prop
abbrev Zv:=Ev->(List W->Ev->Prop)->Prop
noncomputable def tP(X:Cx)(M:Ms)(R:Addr->Prop)(t:Rl):TE:=λe H Q=>∃A c f P,SR X.K M A c e H f/\ER X c R/\t f P/\∀d w v b a,P w a->Go A H d b->SR X.K M d c e b a->Rep X.K d.B b w v->Q v b
abbrev VP(X:Cx)(M:Ms)(R:Addr->Prop)(e:Expr)(t:Rl):Prop:=PE X e (tP X M R t)
section
variable{X:Cx}{M:Ms}{R:Addr->Prop}{m m0:Md}{e a b c:Expr}{es rest:List Expr}{t ta tb:Rl}{tl:Zv}{pos apos cpos p:Pos}{i j:Nat}{st:Stmt}{x:Str}{π:List nI}
theorem Wm{t:WT}(h:VE X M R .s e t):VP X M R e (λd Q=>t d λw=>Q w d):=PE.imp h<|by rintro o H Q ⟨A,l,d,P,S,g,h,k⟩;exact⟨A,l,d,_,S,g,h,λw v n f s r=>k A w v n d f (.same s) (S.same s) r.b7⟩
theorem Rn(E:(i,.f)∈M)(C:PE X e (kJ i))(n:attributeBase e "pop" X.env (eval e X.env)=eval e X.env)(d:(apos.endLine==cpos.line)=true):
 VP X M R (.Call (.Attribute e "pop" apos) [] [] cpos) (λs Q=>match look s i with|some (.lst l)=>∃w,l[l.length -1]?=some w/\Q w (s.set i (some (.lst l.dropLast)))|_=>False):=
 PE.imp (FO mf PySem.F.slot_list_pop PySem.F.type_list_pop P5 C n d)<|by rintro T H Q ⟨A,H0,s,P,S,Z,h,k⟩;obtain⟨l,L,w,K,h⟩:=rC h;obtain⟨U,q,r,I,G,y,u,Y,o⟩:=p6 (π:=[]) S E Zt L Rf;cases G;obtain⟨v,J,D⟩:=u.get K;obtain⟨B,O,a2,a3,N,z⟩:=o H (aE.refl H) l.dropLast r.dropLast u.dropLast;rw[LS]at z;have g:Go A H B (upd H q (.lst r.dropLast)):=⟨O,a2,a3,N⟩;exact⟨_,I,.inl ⟨rfl,r,.inl (.inl y)⟩,q,r,v,rfl,rfl,y,by rw[u.len];exact J,k B w v _ _ h g z (g.rep D)⟩
theorem Ro{op:Operator}(ha:VP X M R a ta)(hb:VP X M R b tb):VP X M R (.BinOp a op b pos) (λD Q=>ta D λx J=>tb J λy f=>iB op x y λz=>Q z f):=by rintro n s L H Q I ⟨A,G,D,P,S,T,p,k⟩;refine wpAny_BinOp (bin ha hb I (R:=λC q l=>∃x y d f,iB op x y (λz=>P z f)/\Go A H d l/\SR X.K M d G L l f/\Rep X.K d.B l x C/\Rep X.K d.B l y q) ⟨A,G,D,_,S,T,p,λA1 x C H1 J F g1 S1 Z=>⟨A1,G,J,_,S1,T,F,λd y q l f E O o Y=>⟨x,y,d,f,E,g1.trans O,o,O.rep Z,Y⟩⟩⟩ ?_);rintro v u U C q l I2 rv ru ⟨x,y,d,f,h,g,o,F,E⟩;exact Av op n U L l d.B x y C q v u _ Q I2 o.dom rv ru F.b E.b h λw z H' pw N r=>k d w z H' f pw (g.trans (.same N)) (o.same N) (r.rep o.dom)
theorem au.bl{K:Frag}{B:Addr->Prop}{H:Hp}:∀{d:List W}{vs:List V},au K B H d vs->oK K B H d vs
 |[],_,h=>h.nil_inv
 |w::d,_,h=>by obtain⟨v,r,rfl,g,f⟩:=h.cons_inv;exact⟨v,r,rfl,g.b,f.bl⟩
theorem LW(o:∀{q:TE},PE X e q->PS X st (qm q (gJ j)))(z:¬aT M j){tt:(Addr->Prop)->Rl}(B:∀R,VP X M R e (tt R)):VS X M m st (λd n=>tt d.ex n λw f=>d.nx (f.set j (some w))):=by rintro l s u H D I ⟨A,G,n,d,S,C,hz,h,k⟩;exact o (B d.ex) l s u H D I ⟨A,G,n,_,S,C,h,λJ w v F f y g E r=>k.nx J _ _ F g.ab g.s0 y (E.set z r)⟩
theorem Cu{tt:(Addr->Prop)->Rl}(o:∀R,PS X st (xU (tP X M R (tt R)))):VS X M m st (λd n=>tt d.ex n λw f=>d.nx f):=by rintro l s q H D I ⟨A,C,n,d,S,y,hz,h,k⟩;exact o d.ex l s q H D I ⟨A,C,n,_,S,y,h,λE w v B f u g z r=>k.nx E _ _ B g.ab g.s0 u z⟩
theorem Rp{te:(Addr->Prop)->WT}(y:∀R,VE X M R .s e (te R))(z:(0,m0)∈M):VS X M (.io m0) (.Return (some e) pos) (λd f=>te d.ex f λw=>match look f 0 with|some o=>(d.rt (.tup [w,o]))|none=>False):=by
 rintro g s u H D I ⟨A,E,f,d,S,B,hz,h,k⟩;refine ny (y d.ex) g s u H D I ⟨A,E,f,_,S,B,h,λw v C l q r=>?_⟩;cases n:look f 0 with
 |none=>rw[n]at l;exact l.elim
 |some o=>rw[n]at l;exact k.rt _ v C l (S.sm.trans q) (vV (S.same q) z n (X2.mp hz) r.b7)
theorem Rq(q:(0,m0)∈M):VS X M (.io m0) (.Return none pos) (λd g=>match look g 0 with|some n=>(d.rt (.tup [.aW,n]))|none=>False):=by
 rintro f s o H D I ⟨A,u,g,d,S,r,hz,h,k⟩
 try dsimp only at h
 cases l:look g 0 with
 |none=>rw[l]at h;exact h.elim
 |some n=>rw[l]at h;exact Bx f s o H D I (k.rt _ _ H h S.sm (vV S q l (X2.mp hz) V3))
end
section
variable{X:Cx}{M:Ms}{R:Addr->Prop}{m m0:Md}{e o a b c:Expr}{es rest:List Expr}{t ta tb:Rl}{tl:Zv}{pos apos cpos p:Pos}{i j n:Nat}{st:Stmt}{x:Str}{π:List nI}
theorem Wn{K:Frag}{A:Fz}{L H:Hp}{l:St}{q:Ev}{k:W}{sp:aZ}{g:List W}{vs:List V}{P:W->Ev->Prop}{Q:VK}{E:XK}{s:V}(S:SR K M A L l H q)(G:(i,m0)∈M)(T:look q i=some k)(N:l[i]?=some (some s))(rs:au K A.B H g vs)(hn:g.length+1=n)
 (h:sp (k::g) (λr=>∃w y,r=.tup [w,y]/\P w (q.set i (some y))) R)(hE:∀C H',R C->aE L H'->E (.ref C) none H')(kk:∀f w v H' d,P w d->Go A H f H'->SR K M f L l H' d->Rep K f.B H' w v->Q v H'):XZ K n m0 sp (s::vs) H Q E:=by
 obtain⟨F,O⟩:=S.ow;obtain⟨v,U,h2⟩:=O.val i m0 k G T;rw[N]at U;cases U;have I:aT M i:=⟨m0,G⟩;have Y:∀p,((A.B p/\p∉F i)\/p∈F i)->A.B p:=λp z=>by
  rcases z with z|z
  .exact z.1
  .exact(O.all p).mpr (.inr ⟨i,I,z⟩)
 refine⟨λp=>A.B p/\p∉F i,F i,k,s,g,vs,_,R,rfl,hn,O.nd i I,λp hp z=>z.2 hp,λp z=>S.dom p z.1,Fp.mv (aE.refl _) (λp _ _ z=>Y p z) m0 h2,rs.less Y,h,λw y v F' H' D J nd nw fp u=>?_,λC H' Z J=>hE C H' Z λp o e=>?_⟩
 .obtain⟨w',y',e,D⟩:=D;cases e;obtain⟨f,a1,a2,aB,a3,a4,S'⟩:=O.chg (F':=F') S G T N (λp o e=>(J p o e).imp (λz=>⟨z.1,z.2⟩) id) nd nw fp;exact kk f w v H' _ D ⟨a1,a2,a3,a4⟩ S' (u.less λp z=>(aB p).mp z)
 .rcases J p o (S.sm p o e)with⟨_,z⟩|z
  .rw[O.nw i p I z]at e;cases e
  .exact z
end
theorem Rr{x:Str}:∀(l:List Str)(r:List V),l.contains x=false->(l.zip r).lookup x=none:=λl=>by
 induction l with
 |nil=>intro r _;rfl
 |cons y l b=>
  intro r a;cases r with
  |nil=>rfl
  |cons z r=>rw[List.contains_cons,Bool.or_eq_false_iff]at a;rw[L1,E2,a.1];exact b r a.2
theorem Rt{x:Str}{n:Nat}{v:V}:∀(l:List Str)(r:List V)(n:Nat),l.Nodup->l[n]?=some x->r[n]?=some v->(l.zip r).lookup x=some v:=λl=>by
 induction l with
 |nil=>intro r n _ e _;exact nn e
 |cons y l g=>
  intro r n b c a;cases r with
  |nil=>exact nn a
  |cons z r=>
   rw[L1,E2];cases n with
   |zero=>
    cases c;cases a;rw[h7]
   |succ n=>
    have d:l[n]?=some x:=by simpa using c
    have f:(x==y)=false:=by rw[ky];rintro rfl;exact(Pm.mp b).1 (Hk d)
    rw[f];exact g r n (Pm.mp b).2 d (by simpa using a)
theorem LX{x:Str}{v:V}:∀(l:List Str)(r:List V)(n:Nat),l.Nodup->l[n]?=some x->r.length=l.length->iQ x v (l.zip r)=l.zip (r.set n v):=λl=>by
 induction l with
 |nil=>intro r n _ e _;exact nn e
 |cons y l g=>
  intro r n b d c;cases r with
  |nil=>cases c
  |cons z r=>
   cases n with
   |zero=>
    cases d;rw[List.set_cons_zero,L1,L1,iQ];rw[Bz (by first|rfl|simp)]
   |succ n=>
    have f:l[n]?=some x:=by simpa using d
    have a:y≠x:=by rintro rfl;exact(Pm.mp b).1 (Hk f)
    rw[dH,L1,L1,iQ];rw[Bn (by first|exact a|simpa using a),g r n (Pm.mp b).2 f (by simpa using c)]
section
variable{X:Cx}{M:Ms}{R:Addr->Prop}{m m0:Md}{e o a b c:Expr}{es rest:List Expr}{t ta tb:Rl}{tl:Zv}{pos apos cpos p:Pos}{i j n:Nat}{st:Stmt}{x:Str}{π:List nI}
theorem LY{pl:Sem Bool}{G:W}{k n:Nat}{f:Addr}{Z:FuncData}{ps D:List Str}{U:List Md}{sp:aZ}(hG:∀C,G=.cls C->Meth X.K C x f)(F:bN X.prog X.w X.K X.mg X.base (ic X.prog X.w) k f Z ps (XZ X.K n (.o D U) sp))(hr:dD k X.A)(hb:Binds X.K Z ps [])(Y:(i,.o D U)∈M)(hx:D.contains x=false)
 (hn:∀O P R,sp O P R->O.length=n)(hv:PE X o (kJ i))
 (ht:eval (.Call (.Attribute o x apos) [] [] pos) X.env=(do
   let ov<-eval o X.env
   standAt apos.atName
   let(f,first)<-holding [ov] (getMethod ov x pl)
   callWith pos f first (backTo pos (starEach [] X.env)) (backToKw pos (keywordEach [] X.env)))):
 VP X M R (.Call (.Attribute o x apos) [] [] pos) (λd Q=>match look d i with|some (.obj C _ _)=>G=.cls C/\(match look d i with|some w0=>sp [w0] (λr=>∃w y,r=.tup [w,y]/\Q w (d.set i (some y))) R|none=>False)|_=>False):=by
 rintro l s σ H Q I ⟨A,H0,d,P,S,er,h,kk⟩;obtain⟨E,pE,hE,hR⟩:=er
 try dsimp only at h
 cases B:look d i with
 |none=>rw[B]at h;exact h.elim
 |some w1=>
  rw[B]at h;cases w1 with
  |obj C fs' ws1=>obtain⟨hg,h⟩:=h;obtain⟨F0,O0⟩:=S.ow;obtain⟨v0,z,L⟩:=O0.val i _ _ Y B;obtain⟨C',dx,jx,q,Zw,F',e1,rfl,e3,h1,h2,hc,_⟩:=L;cases e1;have T:=hG C hg;refine PySem.W.methodCall_KW (pl:=pl) (cI (hv l s σ H (λv' N=>v'=V.ref q/\N=H) I ⟨_,z,rfl,rfl⟩) λu s1 ⟨x1,H1,I1,rx,ex,eh⟩=>?_) ht;subst ex;subst eh;obtain rfl:u=Value.ref q:=rx;refine zW I1 h1 hc.1 T (Rr D Zw hx) ?_;refine PySem.W.callWith_K0 (first:=[.ref q]) I1.lO T.kp (z5 (us:=[.ref q]) (vs:=[.ref q]) (ds:=[]) (BG:=[]) F hr hb .nil pE I1 (.cons rfl .nil) ?_);exact Wn S Y B z .nil (by have:=hn _ _ _ h;simpa using this) h hE λA' w v N J hw g S' rr=>kk A' w v N J hw g S' rr
  |_=>exact h.elim
theorem SR.more{K:Frag}{A:Fz}{u H H1:Hp}{h:St}{k:Ev}{G:List Addr}(S:SR K M A u h H k)(s:aE H H1)(nw:∀q∈G,H q=none)(ex:∀q∈G,∃o,H1 q=some o):SR K M ⟨λq=>A.ab q\/q∈G,λq=>A.B q\/q∈G,A.s0⟩ u h H1 k:=by
 obtain⟨F,O⟩:=S.ow;have r:∀p o,H p=some o->(A.B p\/p∈G)->A.B p:=λp o e z=>by
  rcases z with z|z
  .exact z
  .rw[nw p z]at e;cases e
 refine⟨S.len,λi w d e=>?_,S.sm.trans s,λp z=>?_,S.sl,F,⟨O.un,λi m w y e=>?_,O.emp,O.nd,O.ds,O.nw,λi p d l z=>?_,λp=>?_⟩⟩
 .obtain⟨v,g,f⟩:=S.sh i w d e;exact⟨v,g,Rep.mv s r w f⟩
 .rcases z with z|z
  .exact S.dm.same s p z
  .exact ex p z
 .obtain⟨v,g,f⟩:=O.val i m w y e;exact⟨v,g,Fp.mv s r m f⟩
 .rcases z with z|z
  .exact O.na i p d l z
  .obtain⟨o,e,_⟩:=O.has d l;rw[nw p z]at e;cases e
 .show(A.B p\/p∈G)↔_;rw[O.all p];constructor
  .rintro((z|z)|z)
   .exact .inl (.inl z)
   .exact .inr z
   .exact .inl (.inr z)
  .rintro((z|z)|z)
   .exact .inl (.inl z)
   .exact .inr z
   .exact .inl (.inr z)
theorem Ru(h:PE X e (kJ i)):PE X e (vU X.K i []):=PE.imp h<|by rintro g H Q ⟨v,u,f,d,q⟩;cases d;exact⟨v,f,q⟩
theorem xN.ix{K:Frag}{H:Hp}{n:Nat}:∀(π:List nI){v u:V},xN K H v (π++[.ix n]) u->∃p vs,xN K H v π (.ref p)/\(H p=some (.tup vs)\/H p=some (.lst vs))/\vs[n]?=some u
 |[],v,u,h=>by obtain⟨p,vs,x,e,k,g,f⟩:=h;cases f;exact⟨p,vs,by rw[e];rfl,k,g⟩
 |.ix m::π,v,u,h=>by obtain⟨p,vs,x,e,k,g,f⟩:=h;obtain⟨q,d,a,b,c⟩:=xN.ix π f;exact⟨q,d,⟨p,vs,x,e,k,g,a⟩,b,c⟩
 |.fl m _::π,v,u,h=>by obtain⟨p,vs,x,e,k,g,f⟩:=h;obtain⟨q,d,a,b,c⟩:=xN.ix π f;exact⟨q,d,⟨p,vs,x,e,k,g,a⟩,b,c⟩
theorem Wo(h:PE X a (vU X.K i π))(s:PE X b (tC (.int n)))(l:pK b):PE X (.Subscript a b pos) (vU X.K i (π++[.ix n])):=
 PE.imp (N3 FL h s l)<|by rintro z H Q ⟨v,u,y,w,g⟩;obtain⟨q,f,r,d,k⟩:=xN.ix π w;exact⟨v,.ref q,y,r,d.elim (λd=>.inr (.inl ⟨q,f,n,u,rfl,rfl,kL.of d,bC k,g⟩)) λd=>.inl ⟨q,f,n,u,rfl,rfl,iN.of d,bC k,g⟩⟩
theorem xN.fl{K:Frag}{H:Hp}{n:Nat}{f:Str}:∀(π:List nI){v u:V},xN K H v (π++[.fl n f]) u->∃p vs C k d,xN K H v π (.ref p)/\H p=some (.ins C k (List.zip d vs))/\Ar K C d/\d[n]?=some f/\vs[n]?=some u
 |[],v,u,h=>by obtain⟨p,vs,x,e,⟨C,k,d,s,_,y,w⟩,r,l⟩:=h;cases l;exact⟨p,vs,C,k,d,by rw[e];rfl,s,y,w,r⟩
 |.ix m::π,v,u,h=>by obtain⟨p,vs,x,e,s,r,l⟩:=h;obtain⟨q,g,C,k,d,a,b,c⟩:=xN.fl π l;exact⟨q,g,C,k,d,⟨p,vs,x,e,s,r,a⟩,b,c⟩
 |.fl m _::π,v,u,h=>by obtain⟨p,vs,x,e,s,r,l⟩:=h;obtain⟨q,g,C,k,d,a,b,c⟩:=xN.fl π l;exact⟨q,g,C,k,d,⟨p,vs,x,e,s,r,a⟩,b,c⟩
theorem Rv{f:Str}(h:PE X a (vU X.K i π))(s:attributeBase a f X.env (eval a X.env)=eval a X.env):PE X (.Attribute a f pos) (vU X.K i (π++[.fl n f])):=
 PE.imp (PN h s)<|by rintro E H Q ⟨v,u,A,z,l⟩;obtain⟨q,k,C,D,B,r,y,d,g,w⟩:=xN.fl π z;exact⟨v,.ref q,A,r,q,C,D,_,u,rfl,y,d.1,d.2.2.2 f (Hk g),Rt (v:=u) (n:=n) B k n d.2.2.1 g w,l⟩
theorem Rx{f:Str}{g:List Str}{U:List Md}{te:(Addr->Prop)->WT}(hps:∀{tv:TE},PE X e tv->PS X st (U6 X.K (kJ i) tv f))(J:(i,.o g U)∈M)(hf:g[n]?=some f)(hm:U[n]?=some .s)(he:∀R,VE X M R .s e (te R)):
 VS X M m st (λd y=>te d.ex y λw=>match look y i with|some (.obj C g u)=>n<u.length/\d.nx (y.set i (some (.obj C g (u.set n w))))|_=>False):=by
 rintro L s σ H D I ⟨A,H0,y,d,S,er,hz,h,k⟩;refine hps (he d.ex) L s σ H D I ⟨A,H0,y,_,S,er,h,λw v H1 l s1 r=>?_⟩
 try dsimp only at l
 cases Y:look y i with
 |none=>rw[Y]at l;exact l.elim
 |some w1=>
  rw[Y]at l;cases w1 with
  |obj C fs' u=>
   obtain⟨hn,l⟩:=l;have S1:=S.same s1;obtain⟨F,O⟩:=S1.ow;obtain⟨v0,P,fp⟩:=O.val i _ _ J Y;obtain⟨C',T,jx,q,E,F',e1,rfl,e3,Z,h2,Q,h3⟩:=fp;cases e1;have r:=r.b7;have hB:A.B q:=(O.all q).mpr (.inr ⟨i,⟨_,J⟩,by rw[e3];exact FC⟩);obtain⟨w0,hw0⟩:∃w0,u[n]?=some w0:=⟨_,BM hn⟩;obtain⟨v1,F1,G,F2,q1,e4,q3,q4⟩:=fk.at U h3 hm hw0;obtain⟨rfl,_⟩:=q3;have cB:xM A.B H1 (upd H1 q (.ins C T (g.zip (E.set n v)))):=.put Z rfl hB;have Zr:q∉F':=by have:=O.nd i ⟨_,J⟩;rw[e3]at this;exact(Pm.mp this).1
   have fp':fk X.K A.B (upd H1 q (.ins C T (g.zip (E.set n v)))) U (u.set n w) (E.set n v) F':=by
    rw[e4];refine q4 _ A.B w v [] ?_ (λp o e=>?_) (λ_ _ _ z=>z)
    .exact⟨rfl,Rep.chg cB (λ_ _ _ z=>z) w r⟩
    .by_cases N:p=q
     .subst N;rw[Z]at e;cases e;refine .inl ⟨rfl,hB,λz=>Zr ?_⟩;rw[e4];rcases Hb.mp z with z|z<;>simp[z]
     .exact .inr (by rw[aq N];exact e)
   refine⟨_,P,q,C,T,_,rfl,Z,Q.1,Q.2.2.2 f (Hk hf),?_,?_⟩
   .rw[List.length_zip,h2,Nat.min_self];exact Q.2.1
   .rw[LX g E n Q.2.2.1 hf h2];obtain⟨A',a1,a2,_,_,_,S'⟩:=O.chg (F':=F i) (H1:=upd H1 q (.ins C T (g.zip (E.set n v)))) (w':=.obj C g (u.set n w)) S1 J Y P (λp o e=>by
     by_cases N:p=q
     .subst N;rw[Z]at e;cases e;exact .inl ⟨rfl,by rw[e3];exact FC⟩
     .exact .inr (by rw[aq N];exact e)) (O.nd i ⟨_,J⟩) (λp hp=>.inl hp) (Fp.mv (aE.refl _) (λp _ _ z=>by
      rcases z with z|z
      .exact z.1
      .exact(O.all p).mpr (.inr ⟨i,⟨_,J⟩,z⟩)) _ (by exact⟨C,T,u.set n w,q,E.set n v,F',rfl,rfl,e3,aA,by rw[Q1];exact h2,Q,fp'⟩))
    exact k.nx A' _ _ _ a1 a2 l S'
  |_=>exact l.elim
end
end VL
namespace L2
open PySem PySem.Spec PyProof.Rows
section
variable{pr:Program}{wo:World}{B:Around}{EE:Value->Shared->Prop}
end
section
variable{X:Cx}{pos:Pos}
end
end L2
namespace VL
open PySem PySem.Spec
open PyProof.Rows hiding St
open L2
section
variable{K:Frag}{M M':Ms}{A:Fz}{H0 H H1:Hp}{σ:St}{ε:Ev}
theorem SR.take(S:SR K M' A H0 σ H ε){i:Nat}{m:Md}{w:W}{v:V}{F:List Addr}(l:∀x,x∈M↔x=(i,m)\/x∈M')(D:¬aT M' i)(s:i<ε.length)(nd:F.Nodup)(E:∀p∈F,A.ab p)(nw:∀p∈F,H0 p=none)(P:Fp K A.B H m w v F):
 SR K M ⟨λp=>A.ab p/\p∉F,A.B,A.s0⟩ H0 (σ.set i (some v)) H (ε.set i (some w)):=by
 obtain⟨G,O⟩:=S.ow;have f:∀j,aT M j↔j=i\/aT M' j:=λj=>by
  constructor
  .rintro⟨q,I⟩;rcases(l _).mp I with e|e
   .cases e;exact .inl rfl
   .exact .inr ⟨q,e⟩
  .rintro(rfl|⟨q,I⟩)
   .exact⟨m,(l _).mpr (.inl rfl)⟩
   .exact⟨q,(l _).mpr (.inr I)⟩
 have C:∀j,aT M' j->j≠i:=λj c e=>by subst e;exact D c
 refine⟨by rw[Q1,Q1];exact S.len,λj y c e=>?_,S.sm,λp z=>S.dm p z.1,λu e=>?_,λj=>if j=i then F else G j,⟨λj N L a b=>?_,λj q y c e=>?_,λj c e=>?_,λj c=>?_,λj k p c J a b=>?_,λj p c d=>?_,λj p c d=>?_,λp=>?_⟩⟩
 .have h:j≠i/\¬aT M' j:=⟨λz=>c ((f j).mpr (.inl z)),λz=>c ((f j).mpr (.inr z))⟩;rw[aJ (T2 h.1)]at e;obtain⟨u,t,r⟩:=S.sh j y h.2 e;exact⟨u,by rw[Iy (T2 h.1)];exact t,r⟩
 .obtain⟨t,r⟩:=S.sl u e;exact⟨by rw[Iy (T2 (C 0 r))];exact t,(f 0).mpr (.inr r)⟩
 .rcases(l _).mp a with a|a
  .rcases(l _).mp b with b|b
   .cases a;cases b;rfl
   .cases a;exact(D ⟨_,b⟩).elim
  .rcases(l _).mp b with b|b
   .cases b;exact(D ⟨_,a⟩).elim
   .exact O.un j N L a b
 .rcases(l _).mp c with a|a
  .cases a;have:=mE e;subst this;exact⟨v,PP (by rw[S.len];exact s),by rw[Bz rfl];exact P⟩
  .have n:=C j ⟨q,a⟩;rw[aJ (T2 n)]at e;obtain⟨u,t,r⟩:=O.val j q y a e;exact⟨u,by rw[Iy (T2 n)];exact t,by rw[Bn n];exact r⟩
 .by_cases n:j=i
  .subst n;have:look (ε.set j (some w)) j=some w:=by rw[bw];exact PP s
   rw[this]at e;cases e
  .rw[aJ (T2 n)]at e;rw[Bn n];exact O.emp j (((f j).mp c).resolve_left n) e
 .by_cases n:j=i
  .rw[Bz n];exact nd
  .rw[Bn n];exact O.nd j (((f j).mp c).resolve_left n)
 .by_cases o:j=i
  .by_cases g:k=i
   .rw[o,g]
   .rw[Bz o]at a;rw[Bn g]at b;exact(O.na k p (((f k).mp J).resolve_left g) b (E p a)).elim
  .by_cases g:k=i
   .rw[Bn o]at a;rw[Bz g]at b;exact(O.na j p (((f j).mp c).resolve_left o) a (E p b)).elim
   .rw[Bn o]at a;rw[Bn g]at b;exact O.ds j k p (((f j).mp c).resolve_left o) (((f k).mp J).resolve_left g) a b
 .by_cases n:j=i
  .rw[Bz n]at d;exact nw p d
  .rw[Bn n]at d;exact O.nw j p (((f j).mp c).resolve_left n) d
 .by_cases n:j=i
  .rw[Bz n]at d;exact λz=>z.2 d
  .rw[Bn n]at d;exact λz=>O.na j p (((f j).mp c).resolve_left n) d z.1
 .constructor
  .intro z;by_cases d:p∈F
   .exact .inr ⟨i,(f i).mpr (.inl rfl),by rw[Bz rfl];exact d⟩
   .rcases(O.all p).mp z with z|⟨j,c,Q⟩
    .exact .inl ⟨z,d⟩
    .exact .inr ⟨j,(f j).mpr (.inr c),by rw[Bn (C j c)];exact Q⟩
  .rintro(z|⟨j,c,d⟩)
   .exact(O.all p).mpr (.inl z.1)
   .by_cases n:j=i
    .rw[Bz n]at d;exact(O.all p).mpr (.inl (E p d))
    .rw[Bn n]at d;exact(O.all p).mpr (.inr ⟨j,((f j).mp c).resolve_left n,d⟩)
end
theorem Cv{K:Frag}{B:Addr->Prop}{H:Hp}:∀(a:List Md){b:List W}{vs:List V}{F:List Addr},fk K B H a b vs F->vs.length=a.length
 |[],b,vs,F,h=>by dsimp only[fk]at h;rw[h.2.1];rfl
 |m::a,b,vs,F,h=>by obtain⟨w,e,v,c,g,f,rfl,rfl,rfl,_,d⟩:=h;rw[CY,CY,Cv a d]
section
variable{X:Cx}{M M':Ms}{m:Md}{st:Stmt}{te:(Addr->Prop)->WT}
end
section
variable{K:Frag}{B B':Addr->Prop}{H:Hp}
mutual
theorem Rep.E5:∀(w:W){v:V},E5 w=true->Rep K B H w v->Rep K B' H w v
 |.aW,_,_,r=>by dsimp only[Rep]at r⊢;exact r
 |.bl _,_,_,r=>by dsimp only[Rep]at r⊢;exact r
 |.int _,_,_,r=>by dsimp only[Rep]at r⊢;exact r
 |.str _,_,_,r=>by dsimp only[Rep]at r⊢;exact r
 |.tup l,v,h,r=>by obtain⟨p,vs,e,b,a⟩:=r;exact⟨p,vs,e,b,au.E5 l h a⟩
 |.ty _,_,h,_=>ff h
 |.cls _,_,h,_=>ff h
 |.err _,_,h,_=>ff h
 |.lst _,_,h,_=>ff h
 |.dct _ _,_,h,_=>ff h
 |.obj _ _ _,_,h,_=>ff h
 |.di _,_,h,_=>ff h
theorem au.E5:∀(l:List W){vs:List V},yz l=true->au K B H l vs->au K B' H l vs
 |[],_,_,r=>by dsimp only[au]at r⊢;exact r
 |w::l,vs,h,r=>by obtain⟨v,us,rfl,b,a⟩:=r.cons_inv;rw[yz,Bi]at h;exact .cons (Rep.E5 w h.1 b) (au.E5 l h.2 a)
end
mutual
theorem Fp.flat:∀(m:Md){w:W}{v:V}{F:List Addr},Fp K B H m w v F->flat m w=true->(∀p∈F,¬B' p)->Rep K B' H w v
 |.s,w,v,F,h,f,_=>by dsimp only[Fp]at h;dsimp only[VL.flat]at f;exact Rep.E5 w f h.2
 |.f,w,v,F,h,f,n=>by obtain⟨c,p,vs,rfl,rfl,rfl,b,a⟩:=h;dsimp only[VL.flat]at f;exact⟨p,vs,rfl,n p (Fu.mpr rfl),.inl b,au.E5 c f a⟩
 |.t d,w,v,F,h,f,n=>by obtain⟨c,p,vs,rfl,rfl,b,a⟩:=h;dsimp only[VL.flat]at f;exact⟨p,vs,rfl,b,fk.flat d a f n⟩
 |.o _ _,w,v,F,h,f,n=>ff f
 |.io _,w,v,F,h,f,n=>ff f
 |.ls _,w,v,F,h,f,n=>ff f
theorem fk.flat:∀(b:List Md){a:List W}{vs:List V}{F:List Addr},fk K B H b a vs F->Cp b a=true->(∀p∈F,¬B' p)->au K B' H a vs
 |[],a,vs,F,h,f,_=>by obtain⟨rfl,rfl,_⟩:=h;exact .nil
 |m::b,a,vs,F,h,f,n=>by obtain⟨w,i,v,d,k,j,rfl,rfl,rfl,g,e⟩:=h;rw[Cp,Bi]at f;exact .cons (Fp.flat m g f.1 λp c=>n p (QR _ c)) (fk.flat b e f.2 λp c=>n p (IR _ c))
end
end
noncomputable def Wq(K:Frag)(M:Ms)(m:Md)(t:WT):TE:=λc H Q=>∃A d b P,SR K M A d c H b/\t b P/\∀w v a,P w->aE H a->dW K A.B H a m w v->Q v a
section
variable{X:Cx}{M M':Ms}{m m0:Md}{st:Stmt}{ti:(Addr->Prop)->WT}{tc te:WT}{one:Bool}{ts:List Nat}{i n:Nat}
theorem Ry(hps:∀R,PS X st (qm (BN n (Ho X M' R true (ti R)) (gT X.K one ts) (X3 X.K (up M' n) tc) (Wq X.K (up M' n) m0 te)) (gJ i)))(hi:¬aT M i)(Z:∀j∈ts,j<n)(U:∀x∈M',x∈M):
 VS X M m st (λd C=>ti d.ex C λz=>items z λc=>jA (λw K=>wT one ts w (A0 n none++C) λa=>tc a λx=>truth x λk=>if k=true then te a λy=>VL.flat m0 y=true/\K (some y)else K none) c [] λl=>d.nx (C.set i (some (.lst l)))):=by
 rintro T s O H D I ⟨A,H0,C,d,S,er,hz,h,k⟩;obtain⟨A',ea,e0,hb,S'⟩:=S.sub (M':=M') U none (λv e=>by cases e);refine hps d.ex T s O H D I ⟨A',H0,C,_,S',er,h,λz hz=>?_⟩;obtain⟨c,ez,hw⟩:=nO.mp hz;refine⟨c,ez,λJ H1 s1 it t hD=>?_⟩;have iw:=it.iw;generalize hf':(λ(w:W)(K:Option W->Prop)=>wT one ts w (A0 n none++C) λa=>tc a λx=>truth x λk=>if k=true then te a λy=>VL.flat m0 y=true/\K (some y)else K none)=f at hw;have Wh:H t=none:=s1.free hD;refine⟨λi m r=>∃g u,m=c.length -i/\i<=c.length/\aE H1 r/\r t=some (.lst u)/\au X.K (λq=>A.B q\/q=t) r g u/\jA f (c.drop i) g _,
  ⟨c.length,[],[],rfl,L9 _,aL hD _,aA,.nil,hw⟩,?_⟩
 rintro i m r ⟨g,u,rfl,hi2,E,JZ,ra,N⟩;by_cases Q:i<c.length
 .refine .inr ⟨iw.go i r E Q,λx H3 y L G=>?_⟩;have hwi:c[i]?=some c[i]:=BM Q;rw[bj Q]at N;generalize c[i]=w at*;obtain⟨s3,Y⟩:=iw.yl i r x H3 w E hwi y;have X4:aE H H3:=s1.trans (E.trans s3);have Zn:H3 t=some (.lst u):=s3 _ _ JZ;have S3:SR X.K (up M' n) ⟨λq=>A'.ab q\/q=t,λq=>A'.B q\/q=t,none⟩ H0 (L++O) H3 (A0 n none++C):=S'.block G X4 Wh Zn;have Zo:Rep X.K (λq=>A'.B q\/q=t) H3 w x:=by
   refine Y _ λp o e z=>?_;rcases z with z|rfl
   .exact z
   .rw[hD]at e;cases e
  have hM:∀j∈ts,¬aT (up M' n) j:=λj hj z=>by have:=(dJ.mp z).1;have:=Z j hj;lia
  rw[jA,<-hf']at N;rw[hf']at N;refine tgt hM S3 Zo N λP a hp S4=>?_;have e4:cG (L++O) ts P=cG L ts P++O:=rq ts P L O G Z;rw[e4]at S4⊢;have hv1:(cG L ts P).length=n:=by rw[rm];exact G
  refine⟨cG L ts P,hv1,rfl,⟨_,H0,a,_,S4,hp,λq H5 hq s5=>?_⟩⟩;obtain⟨b,rfl,hq⟩:=cJ hq;refine⟨b,rfl,?_⟩;have J1:aE r H5:=s3.trans s5;cases b with
  |false=>exact⟨c.length -(i+1),by lia,g,u,rfl,Q,E.trans J1,J1 _ _ JZ,ra.same J1,hq⟩
  |true=>
   refine⟨_,H0,a,_,S4.same s5,hq,λy vy H6 hy s6 ry=>?_⟩;obtain⟨hfl,hlen,hy⟩:=hy;have Q9:=J1.trans s6;have Wi:=Q9 _ _ JZ;obtain⟨F,nd,nw,fp⟩:=ry;have Zp:Rep X.K (λq=>A.B q\/q=t) H6 y vy:=Fp.flat m0 fp hfl λp hp z=>by
    have h5:=nw p hp;rcases z with z|rfl
    .obtain⟨o,e⟩:=S.dom p z;have:=s5 _ _ (X4 _ _ e);rw[h5]at this;cases this
    .rw[J1 _ _ JZ]at h5;cases h5
   refine⟨u,Wi,by rw[ra.len];exact hlen,c.length -(i+1),by lia,g++[y],u++[vy],rfl,Q,λb o e=>?_,aA,?_,hy⟩
   .rw[aq (aO e hD)];exact Q9 _ _ (E _ _ e)
   .exact au.put Wi (.inr rfl) _ ((ra.same Q9).app (.cons Zp .nil))
 .have e:i=c.length:=by lia
  subst e;refine .inl ⟨iw.st _ r E rfl,?_⟩;rw[xI,jA]at N;refine k.nx A _ _ r rfl rfl N ((S.same (s1.trans E)).set hi ?_);exact⟨t,u,rfl,S.dom.no Wh,.inl JZ,ra.less λp z=>.inl z⟩
end
section
variable{K:Frag}{M:Ms}{A:Fz}{H0 H:Hp}{σ:St}{ε:Ev}
theorem SR.Wr(S:SR K M A H0 σ H ε){i:Nat}{v:Option V}(g:¬aT M i):SR K M A H0 (σ.set i v) H (ε.set i none):=by
 obtain⟨F,O⟩:=S.ow;have k:∀{w:W},look (ε.set i none) i=some w->False:=λ{w} e=>by
  rw[bw,oy,Bz rfl]at e;split at e
  .cases e
  .cases e
 refine⟨by rw[Q1,Q1];exact S.len,λj f d e=>?_,S.sm,S.dm,λu e=>?_,F,⟨O.un,λj m f h e=>?_,λj d e=>?_,O.nd,O.ds,O.nw,O.na,O.all⟩⟩
 .by_cases a:i=j
  .subst a;exact(k e).elim
  .rw[aJ a]at e;obtain⟨u,c,b⟩:=S.sh j f d e;exact⟨u,by rw[Iy a];exact c,b⟩
 .obtain⟨c,b⟩:=S.sl u e;exact⟨by rw[Iy (by rintro rfl;exact g b)];exact c,b⟩
 .have a:i≠j:=by rintro rfl;exact g ⟨m,h⟩
  rw[aJ a]at e;obtain⟨u,c,b⟩:=O.val j m f h e;exact⟨u,by rw[Iy a];exact c,b⟩
 .have a:i≠j:=by rintro rfl;exact g d
  rw[aJ a]at e;exact O.emp j d e
theorem SR.Ws(S:SR K M A H0 σ H ε){i:Nat}(a:¬aT M i):SR K M A H0 σ H (ε.set i none):=by
 obtain⟨x,e⟩:∃x,σ.set i x=σ:=by
  by_cases h:i<σ.length
  .exact⟨σ[i],List.set_getElem_self h⟩
  .exact⟨none,List.set_eq_of_length_le (Nw h)⟩
 have:=S.Wr (v:=x) a;rw[e]at this;exact this
theorem Hu{j:Nat}{p:Addr}{L:List W}(S:SR K M A H0 σ H ε)(P:(j,.ls (.t [.f,.s]))∈M)(n:σ[j]?=some (some (.ref p)))(O:look ε j=some (.lst L)):∃vs,H p=some (.lst vs)/\vs.length=L.length/\∀{i us o},L[i]?=some (.tup [.lst us,o])->∃r k m a,vs[i]?=some (.ref r)/\H r=some (.tup [.ref k,m])/\H k=some (.lst a)/\au K A.B H us a/\∀H1,aE H H1->∀u v,au K A.B H1 u v->∃q,q.ab=A.ab/\q.s0=A.s0/\SR K M q H0 σ (upd H1 k (.lst v)) (ε.set j (some (setAt (.lst L) [.ix i,.ix 0] (.lst u)))):=by
 obtain⟨F2,O2⟩:=S.ow;obtain⟨v2,R,g2⟩:=O2.val j _ _ P O;rw[n]at R;cases R;obtain⟨Z,p2,T,F2',q2,q3,eF2,y,Q⟩:=g2;cases q2;cases q3;refine⟨T,y,Q.len,λ{i us o} D=>?_⟩;obtain⟨v1,G1,G',G2,E,_,X,_⟩:=fR.at Q D;obtain⟨Y,r,C,q4,rfl,w,U⟩:=X;cases q4;obtain⟨v0,k,a,I,r2,G,F,r5,b⟩:=p6 (π:=[.ix i,.ix 0]) (l:=us) S P rfl O (by dsimp only[cW];rw[D];rfl);have z:∃m,C=[.ref k,m]:=by
  clear b F G r5;have l3:=Cv _ U;obtain⟨p0,Zw,x1,n1,h,N,p1,x,x2,n4,g,J,n7⟩:=r2;rw[n]at I;cases I;cases n1;have w2:Zw=T:=by
   rcases h with h|h
   .rw[y]at h;cases h
   .rw[y]at h;cases h;rfl
  rw[w2,E]at N;cases N;cases n4;have w3:x=C:=by
   rcases g with g|g
   .rw[w]at g;cases g;rfl
   .rw[w]at g;cases g
  rw[w3]at J;rcases C with _|⟨c,_|⟨d,_|⟨e,t⟩⟩⟩<;>cases l3;cases J;exact⟨d,by rw[n7]⟩
 obtain⟨m,rfl⟩:=z;refine⟨r,k,m,a,E,w,G,F,λH1 s1 u v rl=>?_⟩;obtain⟨q,a1,a2,_,_,S'⟩:=b H1 s1 u v rl;exact⟨q,a1,a2,S'⟩
theorem L3{j:Nat}{L:List W}(S:SR K M A H0 σ H ε)(d:(j,.ls (.t [.f,.s]))∈M)(c:look ε j=some (.lst L)):∃p,σ[j]?=some (some (.ref p)):=by obtain⟨n,h⟩:=S.ow;obtain⟨k,g,e⟩:=h.val j _ _ d c;obtain⟨a,b,m,i,l,rfl,_⟩:=e;exact⟨b,g⟩
theorem Hv{l:Ev}{X:Option W}{a b j:Nat}(e:a≠j)(d:b≠j):((((((l.set j X).set a none).set b none).set a none).set b none).set j none)=((l.set a none).set b none).set j none:=by
 have c:∀l:Ev,((l.set a none).set b none).set a none=(l.set a none).set b none:=λl=>by
  by_cases h:b=a
  .rw[h,tx]
  .rw[lh _ _ h,tx]
 have m:∀l:Ev,((l.set a none).set b none).set j none=((l.set j none).set a none).set b none:=λl=>by rw[lh _ _ d,lh _ _ e]
 rw[c,tx,m,m,tx]
noncomputable def Wt(K:Frag)(M:Ms)(A:Fz)(H0:Hp)(ε:Ev)(a b j:Nat)(x0:W)(l:List W)(p:Addr)(i:Nat)(d:St)(H':Hp):Prop:=d[j]?=some (some (.ref p))/\∃e c,e.ab=A.ab/\e.s0=A.s0/\SR K M e H0 d H' c/\look c j=some (.lst ((l.take i).map (nM x0)++l.drop i))/\((c.set a none).set b none).set j none=((ε.set a none).set b none).set j none
end
theorem L5{x0:W}{l:List W}{i:Nat}{us:List W}{o:W}(h:l[i]?=some (.tup [.lst us,o])):((l.take i).map (nM x0)++l.drop i)[i]?=some (.tup [.lst us,o])/\setAt (.lst ((l.take i).map (nM x0)++l.drop i)) [.ix i,.ix 0] (.lst (us++[x0]))=.lst ((l.take (i+1)).map (nM x0)++l.drop (i+1)):=by
 have c:=(FR.mp h).1;have a:((l.take i).map (nM x0)).length=i:=by rw[AN,W1];lia
 have b:((l.take i).map (nM x0)++l.drop i)[i]?=some (.tup [.lst us,o]):=by rw[Ha (by lia),a,eD,List.getElem?_drop,a6];exact h
 refine⟨b,?_⟩;dsimp only[setAt];rw[b];show W.lst (((l.take i).map (nM x0)++l.drop i).set i (.tup [setAt (.lst us) [] (.lst (us++[x0])),o]))=_;have d:(l.drop i).set 0 (W.tup [W.lst (us++[x0]),o])=W.tup [W.lst (us++[x0]),o]::l.drop (i+1):=by rw[bj c];rfl
 rw[LS,List.set_append_right _ _ (by lia),a,eD,d,Ue,h];simp[nM]
section
variable{X:Cx}{M:Ms}{m:Md}{st:Stmt}{tg it e o:Expr}{j a b:Nat}{pos q:Pos}{x0:W}{te:WT}
theorem RA(hc:X.calm=true)(T:¬aT M a)(R:¬aT M b)(hab:a≠b)(N:(j,.ls (.t [.f,.s]))∈M)(hi:PE X.jS it (kJ j))(hg:PG X.jS tg (gT X.K false [a,b]))(he:VE X.jS M (λ_=>False) .s e te)(hst:∀{tv:TE},PE X.jS e tv->PS X.jS st (xU (XN X.K "list" pL (kJ a) (BF tv Kp))))(hs:∀x,foldedSetIterable it X.env x=pure x)(hx:∀u Q,Q x0->te u Q):
 VS X M m (.For tg it [st] [] pos) (λd u=>match look u j with|some (.lst l)=>(∀w∈l,∃us o,w=.tup [.lst us,o]/\us.length<sizeLine)/\a<u.length/\d.nx (((u.set a none).set b none).set j (some (.lst (l.map (nM x0)))))|_=>False):=by
 refine PS.imp (AB (Fx PassesOwn.never hc (Kf hi) hg (jT (hst he)) hs)) ?_;rintro D σ H ⟨A,Z,u,d,S,er,hz,h,k⟩;obtain⟨l,e1,hl,hal,hd⟩:=rC h;have P:a≠j:=by rintro rfl;exact T ⟨_,N⟩
 have O:b≠j:=by rintro rfl;exact R ⟨_,N⟩
 obtain⟨p,h1⟩:=L3 S N e1;have U:∀{H2:Hp}{us:List V},H2 p=some (.lst us)->iN X.K H2 p us:=λz=>.inl (.inl z);refine⟨_,h1,p,rfl,(Hu S N h1 e1).imp λ_ z=>U z.1,?_⟩;refine⟨λi n r H'=>(n=l.length -i/\i<=l.length)/\Wt X.K M A Z u a b j x0 l p i r H',⟨l.length,⟨rfl,L9 _⟩,h1,A,u,rfl,rfl,S,e1,rfl⟩,?_⟩;rintro i n g H2 ⟨⟨rfl,hi2⟩,I⟩;obtain⟨L,A2,zI,ea,eb,Y,F,c⟩:=I;obtain⟨Rz,g3,AD,at2⟩:=Hu Y N L F;rw[Fm,AN,<-Fm,a7]at AD;by_cases y:i<l.length
 .have E:l[i]?=some l[i]:=BM y;obtain⟨us,o,ew,YL⟩:=hl _ (Hk E);rw[ew]at E;obtain⟨z1,z2⟩:=L5 (x0:=x0) E;obtain⟨p3,B,G,C,y1,y4,r3,r4,J⟩:=at2 z1;refine .inr ⟨⟨Rz,_,U g3,y1⟩,λr H'=>Wt X.K M A Z u a b j x0 l p (i+1) r H',λr H' w=>⟨l.length -(i+1),Nat.sub_lt_sub_left y (N0 i),⟨rfl,y⟩,w⟩,?_⟩;rintro x H3 ⟨rfl,yy⟩;have:=yy Rz (U g3);rw[y1]at this;cases this;refine⟨p3,[.ref B,G],rfl,kL.of y4,rfl,Ay [a,b] [.ref B,G] g _ rfl ?_⟩;have e3:cG g [a,b] [.ref B,G]=(g.set a (some (.ref B))).set b (some G):=by
   rw[cG,cG,cG]
   all_goals simp
  rw[e3];have S3:SR X.K M A2 Z ((g.set a (some (.ref B))).set b (some G)) H3 ((zI.set a none).set b none):=(Y.Wr T).Wr R;have la:a<g.length:=by have:=PQ Qf c;simp only[Q1]at this;rw[Y.len,this];exact hal
  have wa:((g.set a (some (.ref B))).set b (some G))[a]?=some (some (.ref B)):=by rw[Iy (λz=>hab z.symm)];exact PP la
  refine⟨_,wa,.inl ⟨rfl,C,.inl (.inl r3)⟩,A2,Z,_,λw=>w=x0,S3,.none,hx _ _ rfl,λw v H4 hw s4 rv=>?_⟩;cases hw;obtain⟨A',a1,a2,S'⟩:=J H4 s4 (us++[x0]) (C++[v]) ((r4.same s4).app (.cons rv.b7 .nil));rw[z2]at S';refine⟨B,C,v,rfl,rfl,s4 _ _ r3,by rw[r4.len];exact YL,?_,A',_,a1.trans ea,a2.trans eb,(S'.Wr T).Wr R,?_,?_⟩
  .rw[Iy O,Iy P];exact L
  .rw[aJ O,aJ P,bw];exact PP (p5 F)
  .rw[<-c];exact Hv P O
 .cases Y0 hi2 (Nw y);refine .inl ⟨⟨Rz,U g3,eJ AD⟩,?_⟩;have Sf:=(Y.Ws T).Ws R;have hlj:((zI.set a none).set b none)[j]?=some (some (.lst (l.map (nM x0)))):=by rw[<-bw,aJ O,aJ P,F,e5,xI,aw]
  rw[<-jy hlj,<-tx (a:=none),c,tx]at Sf;exact k.nx A2 _ _ _ ea eb hd Sf
end
theorem a2{a b:Bool}(z:(a&&b)=true):a=true/\b=true:=by cases a<;>cases b<;>first|exact⟨rfl,rfl⟩|exact ff z
theorem a3{a b c:Bool}(z:((a&&b)&&c)=true):(a=true/\b=true)/\c=true:=⟨a2 (a2 z).1,(a2 z).2⟩
structure SE where
 N:List Str
 nk:List (Str×NameKind)
 M:Ms
 fn:List Str
 gn:List Str
 zn:List Str
 md:List Md
 mt:List (Nat×Nat)
noncomputable def kj:List Md->Nat->Md
 |[],_=>.s
 |x::_,0=>x
 |_::l,n+1=>kj l n
noncomputable def Wu:Md->Bool
 |.f=>true
 |_=>false
noncomputable def L6:Md->Bool
 |.s=>true
 |_=>false
noncomputable def rD(M:Ms)(i:Nat):Bool:=(M.lookup i).isSome
theorem gM{M:Ms}{i:Nat}(h:rD M i=false):¬aT M i:=by
 rintro⟨m,d⟩;unfold rD at h;have:∀M:Ms,(i,m)∈M->(M.lookup i).isSome=true:=λM=>by
  induction M with
  |nil=>intro z;cases z
  |cons x M c=>
   intro z;obtain⟨a,b⟩:=x;rw[E2];cases e:i==a with
   |true=>rfl
   |false=>
    rcases Fn.mp z with z|z
    .cases z;rw[h7]at e;cases e
    .exact c z
 rw[this M d]at h;cases h
theorem jB{M:Ms}{i:Nat}{m:Md}(h:M.lookup i=some m):(i,m)∈M:=by
 induction M with
 |nil=>exact nn h
 |cons x M c=>
  obtain⟨a,b⟩:=x;rw[E2]at h;cases e:i==a with
  |true=>rw[e]at h;cases h;cases P3.mp e;exact FC
  |false=>rw[e]at h;exact Ee _ (c h)
noncomputable def yH(M:Ms)(i:Nat):Bool:=match M.lookup i with
 |none=>true
 |some m=>Wu m
theorem yI{M:Ms}{i:Nat}(h:yH M i=true):aT M i->(i,.f)∈M:=λa=>by
 unfold yH at h;cases e:M.lookup i with
 |none=>exact(gM (by unfold rD;rw[e];rfl) a).elim
 |some m=>rw[e]at h;cases m<;>first|exact jB e|exact ff h
noncomputable def Eh(M:Ms)(i:Nat):Bool:=match M.lookup i with
 |none=>false
 |some m=>Wu m
theorem p7{M:Ms}{i:Nat}(h:Eh M i=true):(i,.f)∈M:=by
 unfold Eh at h;cases e:M.lookup i with
 |none=>rw[e]at h;exact ff h
 |some m=>rw[e]at h;cases m<;>first|exact jB e|exact ff h
noncomputable def SE.sc(S:SE):Scope:={kind:=.function,names:=S.nk,isGenerator:=false,isCoroutine:=false}
noncomputable def Wv(S:SE)(x:Str):Bool:=match S.nk.lookup x with
 |some .local=>true
 |some .cell=>true
 |some .free=>true
 |_=>false
noncomputable def okN(x:Str):Bool:=!(x==("__debug__":Str))&&!(x==("__classdict__":Str))&&!(x==("__name__":Str))
noncomputable def vW(S:SE)(x:Str):Bool:=(S.nk.lookup x==some .globalImplicit)&&okN x
noncomputable def tys:List String:=["int","bool","tuple","list","str","dict"]
noncomputable def vX:Expr->Bool
 |.Call _ _ _ _=>false
 |_=>true
noncomputable def jC(S:SE)(i:Nat):Expr->Bool
 |.Name x _=>S.N[i]?==some x&&Wv S x&&okN x
 |_=>false
noncomputable def mC(f:Const->Bool):Expr->Bool
 |.Constant c _ _=>f c
 |_=>false
noncomputable def Zy(f:Str->Pos->Bool):Expr->Bool
 |.Name x p=>f x p
 |_=>false
noncomputable def yJ(f:Str->Bool):Expr->Bool:=Zy λx _=>f x
noncomputable def o1{α:Type}(f:α->Bool):List α->Bool
 |[a]=>f a
 |_=>false
noncomputable def Ww(f:Expr->List CmpOp->List Expr->Bool):Expr->Bool
 |.Compare l a rs _=>f l a rs
 |_=>false
noncomputable def uG(f:Expr->List Expr->Bool->Pos->Bool):Expr->Bool
 |.Call g es a p=>f g es a.isEmpty p
 |_=>false
noncomputable def Ei(f:Expr->Str->Pos->Bool):Expr->Bool
 |.Attribute o m p=>f o m p
 |_=>false
noncomputable def oSl(f:Option Expr->Option Expr->Option Expr->Bool):Expr->Bool
 |.Slice l h t _=>f l h t
 |_=>false
noncomputable def oLC(f:Expr->List Comprehension->Scope->Bool):Expr->Bool
 |.ListComp x a s _=>f x a s
 |_=>false
noncomputable def Hw(f:Operator->Expr->Expr->Bool):Expr->Bool
 |.BinOp l o r _=>f o l r
 |_=>false
noncomputable def Zz(f:UnaryOp->Expr->Bool):Expr->Bool
 |.UnaryOp o x _=>f o x
 |_=>false
noncomputable def Ov(f:CmpOp->Expr->Expr->Bool):Expr->Bool:=Ww λl b a=>o1 (λo=>o1 (λr=>f o l r) a) b
noncomputable def o2{α:Type}(f:α->α->Bool):List α->Bool
 |a::l=>o1 (f a) l
 |_=>false
noncomputable def o3{α:Type}(f:α->α->α->Bool):List α->Bool
 |a::l=>o2 (f a) l
 |_=>false
noncomputable def ZA(f:BoolOp->List Expr->Bool):Expr->Bool
 |.BoolOp o es _=>f o es
 |_=>false
noncomputable def Ej(f:List Expr->Bool):Expr->Bool
 |.Tuple es _ _=>f es
 |_=>false
noncomputable def RB(f:List Expr->Bool):Expr->Bool
 |.List es _=>f es
 |_=>false
noncomputable def Hx(f:Expr->Expr->Bool):Expr->Bool
 |.Subscript v s _=>f v s
 |_=>false
noncomputable def mSl(f:Expr->Option Expr->Option Expr->Bool):Expr->Bool:=Hx λv s=>oSl (λl h t=>t.isNone&&f v l h) s
noncomputable def yK(f:Str->List Expr->Bool):Expr->Bool:=uG λg a k _=>k&&yJ (λx=>f x a) g
noncomputable def AE(f:Expr->Str->Pos->Pos->Bool):Expr->Bool:=uG λg b k c=>k&&b.isEmpty&&Ei (λo m a=>f o m a c) g
noncomputable def Ow(f:Expr->Expr->Expr->List Expr->Scope->Bool):Expr->Bool:=oLC λx a s=>o1 (λg=>decide (g.is_async=0)&&f x g.target g.iter g.ifs s) a
theorem gW{f:Const->Bool}{e:Expr}(h:mC f e=true):∃c k p,e=.Constant c k p/\f c=true:=by cases e<;>first|exact⟨_,_,_,rfl,h⟩|exact ff h
theorem Cw{f:Str->Pos->Bool}{e:Expr}(h:Zy f e=true):∃x p,e=.Name x p/\f x p=true:=by cases e<;>first|exact⟨_,_,rfl,h⟩|exact ff h
theorem Hy{f:Expr->List CmpOp->List Expr->Bool}{e:Expr}(h:Ww f e=true):∃l a rs p,e=.Compare l a rs p/\f l a rs=true:=by cases e<;>first|exact⟨_,_,_,_,rfl,h⟩|exact ff h
theorem iE{f:Expr->List Expr->Bool->Pos->Bool}{e:Expr}(h:uG f e=true):∃g es a p,e=.Call g es a p/\f g es a.isEmpty p=true:=by cases e<;>first|exact⟨_,_,_,_,rfl,h⟩|exact ff h
theorem iF{f:Expr->Str->Pos->Bool}{e:Expr}(h:Ei f e=true):∃o m p,e=.Attribute o m p/\f o m p=true:=by cases e<;>first|exact⟨_,_,_,rfl,h⟩|exact ff h
theorem L7{f:Option Expr->Option Expr->Option Expr->Bool}{e:Expr}(h:oSl f e=true):∃l r t p,e=.Slice l r t p/\f l r t=true:=by cases e<;>first|exact⟨_,_,_,_,rfl,h⟩|exact ff h
theorem L8{f:Expr->List Comprehension->Scope->Bool}{e:Expr}(h:oLC f e=true):∃x a s p,e=.ListComp x a s p/\f x a s=true:=by cases e<;>first|exact⟨_,_,_,_,rfl,h⟩|exact ff h
theorem fS{α:Type}{f:α->Bool}{l:List α}(h:o1 f l=true):∃a,l=[a]/\f a=true:=by rcases l with _|⟨a,_|_⟩<;>first|exact⟨_,rfl,h⟩|exact ff h
theorem eK{f:Str->Bool}{e:Expr}(h:yJ f e=true):∃x p,e=.Name x p/\f x=true:=Cw h
theorem nR{f:Operator->Expr->Expr->Bool}{e:Expr}(h:Hw f e=true):∃l o r p,e=.BinOp l o r p/\f o l r=true:=by cases e<;>first|exact⟨_,_,_,_,rfl,h⟩|exact ff h
theorem p8{f:UnaryOp->Expr->Bool}{e:Expr}(h:Zz f e=true):∃o x p,e=.UnaryOp o x p/\f o x=true:=by cases e<;>first|exact⟨_,_,_,rfl,h⟩|exact ff h
theorem Ek{f:CmpOp->Expr->Expr->Bool}{e:Expr}(h:Ov f e=true):∃l o r p,e=.Compare l [o] [r] p/\f o l r=true:=by obtain⟨l,g,d,p,rfl,c⟩:=Hy h;obtain⟨o,rfl,b⟩:=fS c;obtain⟨r,rfl,a⟩:=fS b;exact⟨_,_,_,_,rfl,a⟩
theorem p9{f:BoolOp->List Expr->Bool}{e:Expr}(h:ZA f e=true):∃o es p,e=.BoolOp o es p/\f o es=true:=by cases e<;>first|exact⟨_,_,_,rfl,h⟩|exact ff h
theorem gx{f:List Expr->Bool}{e:Expr}(h:Ej f e=true):∃es k p,e=.Tuple es k p/\f es=true:=by cases e<;>first|exact⟨_,_,_,rfl,h⟩|exact ff h
theorem rE{f:List Expr->Bool}{e:Expr}(h:RB f e=true):∃es p,e=.List es p/\f es=true:=by cases e<;>first|exact⟨_,_,rfl,h⟩|exact ff h
theorem iG{f:Expr->Expr->Bool}{e:Expr}(h:Hx f e=true):∃v s p,e=.Subscript v s p/\f v s=true:=by cases e<;>first|exact⟨_,_,_,rfl,h⟩|exact ff h
theorem Cy{f:Expr->Option Expr->Option Expr->Bool}{e:Expr}(h:mSl f e=true):∃v l r q p,e=.Subscript v (.Slice l r none q) p/\f v l r=true:=by obtain⟨v,s,p,rfl,c⟩:=iG h;obtain⟨l,r,t,q,rfl,b⟩:=L7 c;obtain⟨k,a⟩:=a2 b;rw[Option.isNone_iff_eq_none.mp k];exact⟨_,_,_,_,_,rfl,a⟩
theorem cA{f:Str->List Expr->Bool}{e:Expr}(h:yK f e=true):∃x q es p,e=.Call (.Name x q) es [] p/\f x es=true:=by obtain⟨g,es,d,p,rfl,c⟩:=iE h;obtain⟨k,b⟩:=a2 c;obtain⟨x,q,rfl,a⟩:=eK b;rw[KM.mp k];exact⟨_,_,_,_,rfl,a⟩
theorem kT{f:Expr->Str->Pos->Pos->Bool}{e:Expr}(h:AE f e=true):∃o m a c,e=.Call (.Attribute o m a) [] [] c/\f o m a c=true:=by obtain⟨g,n,j,p,rfl,i⟩:=iE h;obtain⟨⟨k,l⟩,d⟩:=a3 i;obtain⟨o,m,a,rfl,b⟩:=iF d;rw[KM.mp k,KM.mp l];exact⟨_,_,_,_,rfl,b⟩
theorem uH{f:Expr->Expr->Expr->List Expr->Scope->Bool}{e:Expr}(h:Ow f e=true):∃d tg b c a p,e=.ListComp d [⟨tg,b,c,0⟩] a p/\f d tg b c a=true:=by obtain⟨x,m,s,p,rfl,j⟩:=L8 h;obtain⟨⟨tg,l,n,z⟩,rfl,i⟩:=fS j;obtain⟨k,g⟩:=a2 i;cases Do k;exact⟨_,_,_,_,_,_,rfl,g⟩
noncomputable def isI(n:Int):Const->Bool
 |.int j=>decide (j=n)
 |_=>false
noncomputable def yL(S:SE)(i:Nat):List nI->Expr->Bool
 |[],e=>jC S i e
 |.fl _ x::π,e=>Ei (λa f _=>decide (f=x)&&vX a&&yL S i π a) e
 |.ix n::π,e=>Hx (λa k=>mC (isI n) k&&yL S i π a) e
noncomputable def oM(S:SE)(m:Md->Bool)(i:Nat)(π:List nI)(e:Expr):Bool:=!π.isEmpty&&yL S i π.reverse e&&(match S.M.lookup i with
 |some a=>(match kg a π with
  |some k=>m k
  |none=>false)
 |none=>false)
noncomputable def gX(S:SE):CE->Expr->Bool
 |.var i,e=>jC S i e&&yH S.M i
 |.own i π,e=>oM S Wu i π e
 |_,_=>false
noncomputable def ZC:BI->Str
 |.len=>"len"
 |.abs=>"abs"
 |.max2=>"max"
 |.min2=>"min"
 |.sum=>"sum"
 |.all=>"all"
 |.any=>"any"
 |.list=>"list"
 |.tuple=>"tuple"
 |.zG=>"isinstance"
 |.int=>"int"
noncomputable def biA:BI->Nat->Bool
 |_,n=>0<n
noncomputable def J2:CE->Bool
 |.not a=>J2 a
 |.Co _ a=>J2 a
 |.and as=>Hz as
 |.or as=>Hz as
 |_=>true
where Hz:List CE->Bool
 |[]=>true
 |a::as=>J2 a&&Hz as
noncomputable def HA:Expr->Bool
 |.Slice _ _ _ _=>false
 |_=>true
noncomputable def vY:Expr->Bool
 |.Set _ _ _=>false
 |_=>true
noncomputable def E7:List Expr->Option (List Str)
 |[]=>some []
 |.Name x _::es=>(E7 es).map λl=>x::l
 |_::_=>none
noncomputable def Ub:Expr->Option (Bool×List Str)
 |.Name x _=>some (true,[x])
 |.Tuple es _ _=>(E7 es).map λl=>(false,l)
 |_=>none
noncomputable def mask(a:List Str)(N:List Str):List Str:=N.map λy=>if a.contains y then y++("!":Str)else y
noncomputable def SE.comp(S:SE)(a:Scope)(b:List Str):SE:=
 {S with N:=b++mask b S.N,nk:=a.names.map λp=>(p.1,if p.2=.free then .cell else p.2),M:=up S.M b.length}
noncomputable def SE.lend(S:SE)(a:List Nat):SE:={S with M:=S.M.filter (λx=>!a.contains x.1)}
noncomputable def brE:Expr->Bool
 |.Call (.Name _ _) (_::_) _ _=>true
 |.Compare _ _ _ _=>true
 |_=>false
noncomputable def Wx:CE->Option String
 |.As n=>some n
 |_=>none
noncomputable def HB:CE->Bool
 |.uE _=>true
 |_=>false
noncomputable def RC(n:Bool)(f:Expr->Bool):Option Expr->Bool
 |none=>n
 |some e=>!n&&f e
noncomputable def Ox:CE->Bool
 |.bl b=>b
 |_=>false
noncomputable def Wy:BI->List CE->Bool
 |.zG,[_,c]=>(Wx c).isSome
 |.zG,_=>false
 |_,_=>true
noncomputable def ZD(y:Bool)(f:Expr->Bool):List Expr->Bool
 |[]=>y
 |[e]=>f e
 |_=>false
noncomputable def Cz(f:Expr->Bool)(g:List Expr->Bool):List Expr->Bool
 |e::es=>f e&&g es
 |[]=>false
noncomputable def Wz(f:Expr->Bool):List Expr->Bool:=o1 f
noncomputable def yM(S:SE)(g:List Nat)(one:Bool)(n:Nat)(f:Bool)(i:Expr->Bool)(j:SE->List Expr->Bool)(h:SE->Expr->Bool)(e tg b:Expr)(d:List Expr)(a:Scope):Bool:=
 match Ub tg with
 |some (o,c)=>(one==o)&&(n==c.length)&&(g==D2 n)&&d8 a S.sc S.N (mask c S.N) c&&decide (c++mask c S.N).Nodup&&vY b&&(!f||!one)&&i b&&j (S.comp a c) d&&h (S.comp a c) e
 |none=>false
noncomputable def oX(c:Nat->Md):CE->Bool
 |.lst _=>true
 |.comp _ _ _ _ _ _=>true
 |.blt .list _=>true
 |.sl _ _ _=>true
 |.bin .Add a b=>oX c a||oX c b
 |.bin .Mult a _=>oX c a
 |.call f _=>match c f with
  |.f=>true
  |_=>false
 |_=>false
noncomputable def mo(a:Nat->Md)(c:CE):Md:=if oX a c=true then .f else .s
mutual
noncomputable def aQ(S:SE)(u:Bool):CE->Expr->Bool
 |.var i,e=>jC S i e&&!rD S.M i
 |.int i,e=>mC (λc=>decide (c=.int i)) e
 |.bl b,e=>mC (λc=>decide (c=.bool b)) e
 |.str x,e=>mC (λc=>decide (c=.str x)) e
 |.aW,e=>mC (λc=>decide (c=.none)) e
 |.As n,e=>yJ (λx=>decide (x=Str.ofString n)&&vW S x&&S.zn.contains x&&tys.contains n) e
 |.glob g,e=>yJ (λx=>S.gn[g]?==some x&&vW S x) e
 |.bin op a b,e=>Hw (λo l r=>decide (op=o)&&(aQ S false a l||gX S a l)&&(aQ S false b r||gX S b r)) e
 |.neg a,e=>Zz (λo x=>decide (o=.USub)&&aQ S false a x) e
 |.not a,e=>Zz (λo x=>decide (o=.Not)&&aQ S false a x) e
 |.cmp op a b,e=>Ov (λo l r=>decide (op=o)&&!decide (op=.In)&&!decide (op=.NotIn)&&(aQ S false a l||gX S a l)&&(aQ S false b r||gX S b r)) e
 |.and as,e=>ZA (λo es=>decide (o=.And)&&!es.isEmpty&&gy S as es) e
 |.or as,e=>ZA (λo es=>decide (o=.Or)&&!es.isEmpty&&gy S as es) e
 |.tup as,e=>Ej (λes=>gy S as es) e
 |.lst as,e=>RB (λes=>gy S as es) e
 |.ix a i,e=>Hx (λv s=>HA s&&(aQ S false a v||gX S a v)&&aQ S false i s) e
 |.sl a t w,e=>mSl (λv l h=>(aQ S false a v||gX S a v)&&RC (kC t) (λx=>aQ S false t x) l&&RC (kC w) (λx=>aQ S false w x) h) e
 |.call f as,e=>yK (λx es=>S.fn[f]?==some x&&vW S x&&!es.isEmpty&&!iD (kj S.md f)&&!S.mt.any (·.1==f)&&gy S as es) e
 |.blt b as,e=>yK (λx es=>decide (x=ZC b)&&vW S x&&S.zn.contains x&&biA b es.length&&Wy b as&&mJ S as es) e
 |.bits a,e=>AE (λo m B A=>decide (m=("bit_length":Str))&&(B.endLine==A.line)&&vX o&&aQ S false a o) e
 |.comp y one n i c x,e=>Ow (λp tg d k j=>yM S y one n (HB i) (λd=>aQ S true i d||gX S i d) (λq k=>ZD (Ox c) (λf=>aQ q false c f&&J2 c) k) (λq p=>aQ q false x p) p tg d k j) e
 |.jP as,e=>yK (λx es=>u&&decide (x=("range":Str))&&vW S x&&S.zn.contains x&&(as.length==1||as.length==2||as.length==3)&&gy S as es) e
 |.uE a,e=>yK (λx es=>u&&decide (x=("enumerate":Str))&&vW S x&&S.zn.contains x&&Wz (λv=>aQ S false a v) es) e
 |.pop _,_=>false
 |.own i π,e=>oM S L6 i π e
 |.Co z a,e=>brE e&&aQ (S.lend z) false a e
 |.Lr _ _ _ _,_=>false
noncomputable def gy(S:SE):List CE->List Expr->Bool
 |[],es=>es.isEmpty
 |a::as,es=>Cz (λe=>aQ S false a e) (λes=>gy S as es) es
noncomputable def mJ(S:SE):List CE->List Expr->Bool
 |[],es=>es.isEmpty
 |a::as,es=>Cz (λe=>aQ S false a e||gX S a e) (λes=>mJ S as es) es
end
structure XOk(S:SE)(Φ:Nat->aZ)(Ψ:Nat->Md)(G:Nat->W)(X:Cx):Prop where
 hN:X.N=S.N
 nd:X.N.Nodup
 calm:X.calm=true
 un:X.A.units+64<cLine
 nk:∀x,X.env.scope.names.lookup x=S.nk.lookup x
 fns:∀(j:Nat)(x:Str),S.fn[j]?=some x->S.mt.any (·.1==j)=false->∃fv n k,X.mg x=some fv/\d7 X.prog X.w X.K X.mg X.base k fv n (i0 X.K n (Ψ j) (Φ j))/\dD k X.A/\∀ws P R,Φ j ws P R->ws.length=n
 Ma:∀(j g:Nat)(x:Str),S.fn[j]?=some x->(j,g)∈S.mt->∃f fd ps n k,(∀C,G g=.cls C->Meth X.K C x f)/\Binds X.K fd ps []/\bN X.prog X.w X.K X.mg X.base (ic X.prog X.w) k f fd ps (i0 X.K n (Ψ j) (Φ j))/\dD k X.A/\∀ws P R,Φ j ws P R->ws.length=n
 Mb:Ψ=kj S.md
 J3:∀(j:Nat)(x:Str),S.gn[j]?=some x->∃u v,X.mg x=some u/\RelV v u/\∀B H,Rep X.K B H (G j) v
 E8:∀x∈S.zn,X.mg x=none
 kit:yE X.K
section
variable{S:SE}{Φ:Nat->aZ}{Ψ:Nat->Md}{G:Nat->W}{X:Cx}
theorem XOk.jS(h:XOk S Φ Ψ G X):XOk S Φ Ψ G X.jS:=⟨h.hN,h.nd,h.calm,h.un,h.nk,h.fns,h.Ma,h.Mb,h.J3,h.E8,h.kit⟩
theorem CA{x:Str}(h:okN x=true):(x==("__debug__":Str))=false/\(x==("__classdict__":Str))=false/\x≠"__name__":=by unfold okN at h;simp only[Bi,pk]at h;exact⟨h.1.1,h.1.2,λz=>by rw[z]at h;exact absurd h.2 (by simp)⟩
theorem fy{x:Str}(a:XOk S Φ Ψ G X)(h:vW S x=true):Gl X x/\(x==("__debug__":Str))=false/\x≠"__name__":=by unfold vW at h;rw[Bi]at h;obtain⟨c,d,b⟩:=CA h.2;refine⟨?_,c,b⟩;show X.env.scope.names.lookup x=_;rw[a.nk];exact P3.mp h.1
theorem eN(b:XOk S Φ Ψ G X){i:Nat}{e:Expr}(h:jC S i e=true):PE X e (kJ i):=by
 cases e with
 |Name x pos=>simp only[jC,Bi]at h;obtain⟨⟨d,a⟩,c⟩:=h;obtain⟨g,f,_⟩:=CA c;refine Fo (by rw[b.hN];exact P3.mp d) ?_ g f;unfold Wv at a;rw[<-b.nk]at a;unfold Tz;split at a<;>first|exact .inl (by assumption)|exact .inr (.inl (by assumption))|exact .inr (.inr (by assumption))|exact ff a
 |_=>exact ff h
noncomputable def noStar:Expr->Bool
 |.Starred _ _=>false
 |_=>true
theorem aU{e:Expr}(h:noStar e=true)(es:List Expr)(env:Env):starEach (e::es) env=(false,eval e env)::starEach es env:=by
 cases e<;>first|rfl|exact ff h
theorem gA:∀{es:List Expr}(h:es.all noStar=true)(pos:Pos)(env:Env),(backTo pos (starEach es env)).any (·.1)=false
 |[],_,_,_=>rfl
 |e::es,h,pos,env=>by rw[J9,Bi]at h;rw[aU h.1];show(false||(backTo pos (starEach es env)).any (·.1))=false;rw[gA h.2];rfl
theorem gi{m:Md->Bool}{i:Nat}{π:List nI}{e:Expr}(h:oM S m i π e=true):
 (∃g k,π≠[]/\yL S i π.reverse e=true/\S.M.lookup i=some g/\kg g π=some k/\m k=true)/\((∃a f q,e=.Attribute a f q)\/∃a j c d q,e=.Subscript a (.Constant (.int j) c d) q):=by
 unfold oM at h;rw[Bi,Bi]at h;obtain⟨⟨y,l⟩,b⟩:=h;have u:π≠[]:=λz=>by rw[z]at y;exact ff y
 constructor
 .split at b
  .rename_i g hl
   split at b
   .rename_i k hk
    exact⟨g,k,u,l,hl,hk,b⟩
   .cases b
  .cases b
 .cases t:π.reverse with
  |nil=>exact(u (by simpa using t)).elim
  |cons s r=>
   rw[t]at l;cases s with
   |ix n=>obtain⟨v,s,p,rfl,w⟩:=iG l;obtain⟨c,k,q,rfl,A⟩:=gW (a2 w).1;cases c<;>first|exact .inr ⟨_,_,_,_,_,rfl⟩|exact ff A
   |fl n x=>obtain⟨o,m,p,rfl,w⟩:=iF l;exact .inl ⟨_,_,_,rfl⟩
theorem rF{m:Md->Bool}{i:Nat}{π:List nI}{v:Expr}{p:Pos}(h:oM S m i π (.Starred v p)=true):False:=by rcases(gi h).2 with⟨_,_,_,e⟩|⟨_,_,_,_,_,e⟩<;>cases e
theorem bO{b:Bool}{c:CE}{e:Expr}(h:aQ S b c e=true\/gX S c e=true):noStar e=true:=by
 cases e with
 |Starred v p=>
  rcases h with h|h
  .cases c with
   |own i d=>exact(rF h).elim
   |Co f a=>exact ff h
   |_=>exact ff h
  .cases c<;>first|exact ff h|exact(rF h).elim
 |_=>rfl
theorem iH{a b:Bool}(h:(a||b)=true):a=true\/b=true:=by
 cases a
 .exact .inr h
 .exact .inl rfl
theorem nS:∀{cs:List CE}{es:List Expr},gy S cs es=true->es.all noStar=true
 |[],es,h=>by
  cases es with
  |nil=>rfl
  |cons _ _=>exact ff h
 |c::cs,[],h=>by cases h
 |c::cs,e::es,h=>by have h:=a2 h;rw[J9,bO (.inl h.1),nS h.2];rfl
theorem rG:∀{cs:List CE}{es:List Expr},mJ S cs es=true->es.all noStar=true
 |[],es,h=>by
  cases es with
  |nil=>rfl
  |cons _ _=>exact ff h
 |c::cs,[],h=>by cases h
 |c::cs,e::es,h=>by have h:=a2 h;rw[J9,bO (iH h.1),rG h.2];rfl
theorem CB{b:Expr}(h:HA b=true):pK b:=λo i=>by cases b<;>first|rfl|exact ff h
theorem uI{a:Expr}(h:vX a=true)(f:Str)(env:Env)(b:Sem Value):attributeBase a f env b=b:=by cases a<;>first|rfl|exact ff h
theorem rH(b:XOk S Φ Ψ G X){i:Nat}:∀(π:List nI)(e:Expr),yL S i π e=true->PE X e (vU X.K i π.reverse)
 |[],e,h=>Ru (eN b h)
 |.fl n x::π,e,h=>by obtain⟨o,m,p,rfl,g⟩:=iF h;obtain⟨⟨a,f⟩,d⟩:=a3 g;have a:=Do a;subst a;rw[vk];exact Rv (rH b π _ d) (uI f _ _ _)
 |.ix n::π,e,h=>by
  obtain⟨v,s,p,rfl,g⟩:=iG h;obtain⟨f,d⟩:=a2 g;obtain⟨c,k,q,rfl,j⟩:=gW f;cases c<;>try exact ff j
  have a:=Do j;subst a;rw[vk];exact Wo (rH b π _ d) iL (CB rfl)
theorem HC(b:XOk S Φ Ψ G X){m:Md->Bool}{i:Nat}{π:List nI}{e:Expr}(h:oM S m i π e=true):∃a k,(i,a)∈S.M/\kg a π=some k/\m k=true/\PE X e (vU X.K i π):=by obtain⟨⟨a,k,_,g,f,d,c⟩,_⟩:=gi h;have:=rH b π.reverse e g;rw[List.reverse_reverse]at this;exact⟨a,k,jB f,d,c,this⟩
theorem WA(g:XOk S Φ Ψ G X){i:Nat}{π:List nI}{e:Expr}(h:oM S L6 i π e=true)(R:Addr->Prop):VE X S.M R .s e (λa Q=>match look a i with|some w=>(match cW w π with|some u=>Q u|none=>False)|none=>False):=by
 obtain⟨j,k,d,c,f,b⟩:=HC g h;cases k<;>first|(cases f;done)|skip
 exact QM b d c
theorem Oz(g:XOk S Φ Ψ G X){i:Nat}{π:List nI}{e:Expr}(h:oM S Wu i π e=true)(R:Addr->Prop):VB X S.M R e (λa Q=>match look a i with|some w=>(match cW w π with|some u=>Q u|none=>False)|none=>False):=by
 obtain⟨j,k,d,c,f,b⟩:=HC g h;cases k<;>first|(cases f;done)|skip
 exact QL b d c
end
structure dM(Φ:Nat->aZ)(Ψ:Nat->Md)(G:Nat->W)(c:CE):Prop where
 e:∀{S:SE}{X:Cx},XOk S Φ Ψ G X->∀ex,aQ S false c ex=true->∀R,VE X S.M R (mo Ψ c) ex (wE Φ G R c)
 t:∀{S:SE}{X:Cx},XOk S Φ Ψ G X->∀ex,aQ S false c ex=true->J2 c=true->∀R,VT X S.M R ex (wE Φ G R c)
 i:∀{S:SE}{X:Cx},XOk S Φ Ψ G X->∀tg br ex,(aQ S true c ex||(br&&gX S c ex))=true->(HB c=true->∃elts kk tp,tg=Expr.Tuple elts kk tp)->∀R,PI X tg ex (Ho X S.M R br (wE Φ G R c))
structure sY(Φ:Nat->aZ)(Ψ:Nat->Md)(G:Nat->W)(cs:List CE):Prop where
 a:∀{S:SE}{X:Cx},XOk S Φ Ψ G X->∀es,gy S cs es=true->∀R,VA X S.M R es (wA Φ G R cs)
 b:∀{S:SE}{X:Cx},XOk S Φ Ψ G X->∀es,mJ S cs es=true->∀R,T8 X S.M R es (wA Φ G R cs)
 av:∀{S:SE}{X:Cx},XOk S Φ Ψ G X->∀es pos,es≠[]->gy S cs es=true->∀R,VE X S.M R .s (.BoolOp .And es pos) (Dh Φ G R cs)
 ov:∀{S:SE}{X:Cx},XOk S Φ Ψ G X->∀es pos,es≠[]->gy S cs es=true->∀R,VE X S.M R .s (.BoolOp .Or es pos) (Tu Φ G R cs)
 «at»:∀{S:SE}{X:Cx},XOk S Φ Ψ G X->∀es pos,es≠[]->gy S cs es=true->J2.Hz cs=true->∀R,Oq X S.M R (.BoolOp .And es pos) (Dh Φ G R cs)
 ot:∀{S:SE}{X:Cx},XOk S Φ Ψ G X->∀es pos,es≠[]->gy S cs es=true->J2.Hz cs=true->∀R,Oq X S.M R (.BoolOp .Or es pos) (Tu Φ G R cs)
section
variable{Φ:Nat->aZ}{Ψ:Nat->Md}{G:Nat->W}
theorem gB{c:CE}(h:oX Ψ c=false):mo Ψ c=.s:=by unfold mo;rw[h];rfl
theorem oY{c:CE}(h:oX Ψ c=true):mo Ψ c=.f:=by unfold mo;rw[h];rfl
theorem dM.s{c:CE}(h:dM Φ Ψ G c){S:SE}{X:Cx}(a:XOk S Φ Ψ G X){ex:Expr}(k:aQ S false c ex=true)(R:Addr->Prop):VE X S.M R .s ex (wE Φ G R c):=Hf (h.e a ex k R)
theorem dM.b{c:CE}(h:dM Φ Ψ G c){S:SE}{X:Cx}(a:XOk S Φ Ψ G X){ex:Expr}(k:(aQ S false c ex||gX S c ex)=true)(R:Addr->Prop):VB X S.M R ex (wE Φ G R c):=by
 rcases iH k with k|k
 .exact V7 (h.e a ex k R)
 .cases c with
  |var i=>have k:(jC S i ex&&yH S.M i)=true:=k;rw[Bi]at k;exact Hg (eN a k.1) (yI k.2)
  |own i d=>exact Oz a k R
  |_=>exact ff k
theorem dM.mk1{c:CE}(b:∀{S:SE}{X:Cx},XOk S Φ Ψ G X->∀ex,aQ S false c ex=true->∀R,VE X S.M R (mo Ψ c) ex (wE Φ G R c))
 (f:∀{S:SE}{ex:Expr}(env:Env),aQ S false c ex=true->∀a,isTrue ex env a=(do let v<-a;standAt ex.pos;holding [v] (truthy v)))
 (g:∀(S:SE)(ex:Expr),aQ S true c ex=true->aQ S false c ex=true)(e:∀(S:SE)(ex:Expr),gX S c ex=false):dM Φ Ψ G c:=
 ⟨b,λd ex k _ R=>Ax (f _ k) (Hf (b d ex k R)),λ{S X} d h i ex k _ R=>by rw[e,i3,de]at k;exact gU (mH (b d ex (g _ _ k) R))⟩
theorem RD(i:Nat):dM Φ Ψ G (.var i):=by
 have d:∀{S:SE}{X:Cx},XOk S Φ Ψ G X->∀ex,aQ S false (.var i) ex=true->∀R,VE X S.M R (mo Ψ (.var i)) ex (wE Φ G R (.var i)):=λ{S X} a ex k R=>by have k:=a2 k;have e:¬aT S.M i:=gM (by simpa using k.2);rw[gB rfl];exact QK (eN a k.1) e
 refine⟨d,λ{S X} a ex k _ R=>Ax (λc=>?_) (Hf (d a ex k R)),λ{S X} a f g ex k _ R=>?_⟩
 .have k:=a2 k;cases ex<;>first|rfl|(have:=k.1;exact ff this)
 .rcases iH k with k|k
  .exact gU (mH (d a ex (by exact k) R))
  .rw[Bi]at k;obtain⟨rfl,b⟩:=k;have b:(jC S i ex&&yH S.M i)=true:=b;rw[Bi]at b;exact gU (Wf (Hg (eN a b.1) (yI b.2)))
theorem RE(i:Nat)(π:List nI):dM Φ Ψ G (.own i π):=by
 have d:∀R,wE Φ G R (.own i π)=λe Q=>match look e i with|some w=>(match cW w π with|some u=>Q u|none=>False)|none=>False:=λR=>rfl
 have c:∀{S:SE}{X:Cx},XOk S Φ Ψ G X->∀ex,aQ S false (.own i π) ex=true->∀R,VE X S.M R (mo Ψ (.own i π)) ex (wE Φ G R (.own i π)):=λ{S X} a ex k R=>by rw[gB rfl,d];exact WA a k R
 refine⟨c,λ{S X} a ex k _ R=>Ax (λb=>?_) (Hf (c a ex k R)),λ{S X} a g h ex k _ R=>?_⟩
 .rcases(gi k).2 with⟨_,_,_,rfl⟩|⟨_,_,_,_,_,rfl⟩<;>rfl
 .rcases iH k with k|k
  .exact gU (mH (c a ex (by exact k) R))
  .rw[Bi]at k;obtain⟨rfl,f⟩:=k;rw[d];exact gU (Wf (Oz a f R))
theorem RG(i:Int):dM Φ Ψ G (.int i):=by
 refine .mk1 (λ{S X} d ex k R=>?_) (λ{S ex} b k a=>?_) (λS ex k=>by exact k) (λ_ _=>rfl)
 .obtain⟨c,q,p,rfl,k⟩:=gW k;cases Do k;rw[gB rfl];exact Ef iL λ_ _=>iZ _
 .obtain⟨c,q,p,rfl,k⟩:=gW k;rfl
theorem WB(i:Bool):dM Φ Ψ G (.bl i):=by
 refine .mk1 (λ{S X} d ex k R=>?_) (λ{S ex} b k a=>?_) (λS ex k=>by exact k) (λ_ _=>rfl)
 .obtain⟨c,q,p,rfl,k⟩:=gW k;cases Do k;rw[gB rfl];exact Ef UE λ_ _=>Au _
 .obtain⟨c,q,p,rfl,k⟩:=gW k;rfl
theorem RH(i:Str):dM Φ Ψ G (.str i):=by
 refine .mk1 (λ{S X} d ex k R=>?_) (λ{S ex} b k a=>?_) (λS ex k=>by exact k) (λ_ _=>rfl)
 .obtain⟨c,q,p,rfl,k⟩:=gW k;cases Do k;rw[gB rfl];exact Ef Pc λ_ _=>V2 _
 .obtain⟨c,q,p,rfl,k⟩:=gW k;rfl
theorem RI:dM Φ Ψ G .aW:=by
 refine .mk1 (λ{S X} d ex k R=>?_) (λ{S ex} b k a=>?_) (λS ex k=>by exact k) (λ_ _=>rfl)
 .obtain⟨c,q,p,rfl,k⟩:=gW k;cases Do k;rw[gB rfl];exact Ef zL λ_ _=>V3
 .obtain⟨c,q,p,rfl,k⟩:=gW k;rfl
theorem Mc{n:String}(h:tys.contains n=true):bootBuiltins (Str.ofString n)=some (.type n):=by
 have:n∈tys:=by simpa using h
 unfold tys at this;simp only[Fn,dt,wx]at this;rcases this with rfl|rfl|rfl|rfl|rfl|rfl<;>rfl
theorem RJ(n:String):dM Φ Ψ G (.As n):=by
 refine .mk1 (λ{S X} d ex k R=>?_) (λ{S ex} l k a=>?_) (λS ex k=>by exact k) (λ_ _=>rfl)
 .obtain⟨x,q,rfl,b⟩:=eK k
  replace k:=b
  simp only[Bi]at k;obtain⟨⟨⟨c,g⟩,f⟩,e⟩:=k;obtain⟨j,i,h⟩:=fy d g;have c:=Do c;subst c;rw[gB rfl];exact Ef (v:=.ty n) (Bw j (d.E8 _ (by simpa using f)) (Mc e) rfl h i) λ_ _=>rTy _
 .obtain⟨x,q,rfl,b⟩:=eK k
  replace k:=b
  rfl
theorem Me(g:Nat):dM Φ Ψ G (.glob g):=by
 refine .mk1 (λ{S X} c ex k R=>?_) (λ{S ex} m k a=>?_) (λS ex k=>by exact k) (λ_ _=>rfl)
 .obtain⟨x,q,rfl,b⟩:=eK k
  replace k:=b
  simp only[Bi]at k;obtain⟨e,d⟩:=k;obtain⟨l,j,n⟩:=fy c d;obtain⟨u,v,i,h,f⟩:=c.J3 g _ (P3.mp e);rw[gB rfl];exact Ef (gI l i h j) f
 .obtain⟨x,q,rfl,b⟩:=eK k
  replace k:=b
  rfl
theorem AF{K:Frag}{B:Addr->Prop}{H H':Hp}{w:W}{v:V}(h:dW K B H H' .f w v):QN w=true:=by obtain⟨a,p,b,rfl,_⟩:=h.VO;rfl
theorem HD{S:SE}{a:CE}{l:Expr}(k:gX S a l=true)(z:oX Ψ a=true):False:=by cases a<;>first|exact ff k|exact ff z
theorem RK(op:Operator){a b:CE}(J:dM Φ Ψ G a)(I:dM Φ Ψ G b):dM Φ Ψ G (.bin op a b):=by
 refine .mk1 (λ{S X} n ex k R=>?_) (λ{S ex} P k s=>?_) (λS ex k=>by exact k) (λ_ _=>rfl)
 .obtain⟨l,o,r,t,rfl,u⟩:=nR k
  replace k:=u
  simp only[Bi]at k;obtain⟨⟨A,i⟩,g⟩:=k;have A:=Do A;subst A;show VE X S.M R _ _ λF Q=>wE Φ G R a F λx=>wE Φ G R b F λy=>iB op x y Q;have E:∀B H m w v,Dom B H->ρB X.K B H m w v->bJ X.K B m w v:=λ_ _ _ _ _ _ h=>h;have D:∀B H m w v,Dom B H->QJ X.K .f B H m w v->bJ X.K B m w v:=λ_ _ _ _ _ d h=>(dW.rep d h).b;have p:=J.b n i R;have j:=I.b n g R;have L:oX Ψ a=true->VE X S.M R .f l (wE Φ G R a):=λz=>by
   rcases iH i with i|i
   .have:=J.e n l i R;rw[oY z]at this;exact this
   .exact(HD i z).elim
  have O:oX Ψ b=true->VE X S.M R .f r (wE Φ G R b):=λz=>by
   rcases iH g with g|g
   .have:=I.e n r g R;rw[oY z]at this;exact this
   .exact(HD g z).elim
  cases op with
  |Add=>
   by_cases c:oX Ψ a=true
   .rw[oY (show oX Ψ (.bin .Add a b)=true by show(oX Ψ a||oX Ψ b)=true;rw[c];rfl)];exact Aw (L c) j D E λ_ _ _ _ _ _ _ _ _ _ C _=>.inl ⟨rfl,.inl (AF C)⟩
   .by_cases q:oX Ψ b=true
    .rw[oY (show oX Ψ (.bin .Add a b)=true by show(oX Ψ a||oX Ψ b)=true;rw[q,Bool.or_true])];exact Aw p (O q) E D λ_ _ _ _ _ _ _ _ _ _ _ N=>.inl ⟨rfl,.inr (AF N)⟩
    .rw[gB (show oX Ψ (.bin .Add a b)=false by show(oX Ψ a||oX Ψ b)=false;rw[hZ _|>.mp c,hZ _|>.mp q];rfl)];exact Hi p j λ_ _=>.inr rfl
  |Mult=>
   by_cases c:oX Ψ a=true
   .rw[oY (show oX Ψ (.bin .Mult a b)=true from c)];exact Aw (L c) j D E λ_ _ _ _ _ _ _ _ _ _ C _=>.inr ⟨rfl,AF C⟩
   .rw[gB (show oX Ψ (.bin .Mult a b)=false from hZ _|>.mp c)];exact Hi p j λ_ _=>.inr rfl
  |_=>rw[gB rfl];exact Hi p j λ_ _=>.inr rfl
 .obtain⟨l,o,r,t,rfl,u⟩:=nR k
  replace k:=u
  rfl
theorem RM{a:CE}(e:dM Φ Ψ G a):dM Φ Ψ G (.neg a):=by
 refine .mk1 (λ{S X} f ex k R=>?_) (λ{S ex} g k b=>?_) (λS ex k=>by exact k) (λ_ _=>rfl)
 .obtain⟨o,x,c,rfl,d⟩:=p8 k
  replace k:=d
  rw[Bi]at k;cases Do k.1;rw[gB rfl];exact QS (e.s f k.2 R)
 .obtain⟨o,x,c,rfl,d⟩:=p8 k
  replace k:=d
  rw[Bi]at k;cases Do k.1;rfl
theorem RN{a:CE}(h:dM Φ Ψ G a):dM Φ Ψ G (.not a):=by
 have e:∀R,wE Φ G R (.not a)=λi Q=>wE Φ G R a i λx=>truth x λb=>Q (.bl (!b)):=λR=>rfl;have g:∀{S:SE}{X:Cx},XOk S Φ Ψ G X->∀ex,aQ S false (.not a) ex=true->∀R,VE X S.M R (mo Ψ (.not a)) ex (wE Φ G R (.not a)):=λ{S X} c ex k R=>by
  obtain⟨o,x,d,rfl,f⟩:=p8 k
  replace k:=f
  rw[Bi]at k;cases Do k.1;rw[gB rfl,e];exact QT (h.s c k.2 R)
 refine⟨g,λ{S X} c ex k j R=>?_,λ{S X} c m n ex k _ R=>?_⟩
 .obtain⟨o,x,d,rfl,f⟩:=p8 k
  replace k:=f
  rw[Bi]at k;cases Do k.1;rw[e];exact QZ (h.t c _ k.2 (by exact j) R)
 .have l:gX S (.not a) ex=false:=rfl;rw[l,i3,de]at k;exact gU (mH (g c ex (by exact k) R))
theorem RO(op:CmpOp){a b:CE}(n:dM Φ Ψ G a)(m:dM Φ Ψ G b):dM Φ Ψ G (.cmp op a b):=by
 have e:∀R,wE Φ G R (.cmp op a b)=λg Q=>wE Φ G R a g λx=>wE Φ G R b g λy=>iY op x y Q:=λR=>rfl;have f:∀{S:SE}{X:Cx},XOk S Φ Ψ G X->∀ex,aQ S false (.cmp op a b) ex=true->∀R,VE X S.M R .s ex (wE Φ G R (.cmp op a b))/\VT X S.M R ex (wE Φ G R (.cmp op a b)):=λ{S X} c ex k R=>by
  obtain⟨l,o,r,p,rfl,q⟩:=Ek k
  replace k:=q
  simp only[Bi,pk]at k;obtain⟨⟨⟨⟨d,u⟩,t⟩,i⟩,h⟩:=k;have d:=Do d;subst d;have j:=uT r (op:=op) (bo u) (bo t);rw[e];exact⟨QU c.un j (n.b c i R) (m.b c h R),QV c.un j (n.b c i R) (m.b c h R)⟩
 refine⟨λc ex k R=>by rw[gB rfl];exact(f c ex k R).1,λc ex k _ R=>(f c ex k R).2,λ{S X} c w z ex k _ R=>?_⟩;have v:gX S (.cmp op a b) ex=false:=rfl;rw[v,i3,de]at k;exact gU (mH (f c ex (by exact k) R).1)
theorem jX{es:List Expr}(h:(!es.isEmpty)=true):es≠[]:=by rintro rfl;cases h
theorem RP{as:List CE}(f:sY Φ Ψ G as):dM Φ Ψ G (.and as):=by
 have e:∀R,wE Φ G R (.and as)=Dh Φ G R as:=λR=>rfl;have d:∀{S:SE}{X:Cx},XOk S Φ Ψ G X->∀ex,aQ S false (.and as) ex=true->∀R,VE X S.M R .s ex (wE Φ G R (.and as)):=λ{S X} a ex k R=>by
  obtain⟨o,i,b,rfl,c⟩:=p9 k
  replace k:=c
  rw[Bi,Bi]at k;cases Do k.1.1;rw[e];exact f.av a _ _ (jX k.1.2) k.2 R
 refine⟨λa ex k R=>by rw[gB rfl];exact d a ex k R,λ{S X} a ex k g R=>?_,λ{S X} a j l ex k _ R=>?_⟩
 .obtain⟨o,i,b,rfl,c⟩:=p9 k
  replace k:=c
  rw[Bi,Bi]at k;cases Do k.1.1;rw[e];exact(f.at a _ _ (jX k.1.2) k.2 (by exact g) R).pt
 .have h:gX S (.and as) ex=false:=rfl;rw[h,i3,de]at k;exact gU (mH (d a ex (by exact k) R))
theorem WE{as:List CE}(f:sY Φ Ψ G as):dM Φ Ψ G (.or as):=by
 have e:∀R,wE Φ G R (.or as)=Tu Φ G R as:=λR=>rfl;have d:∀{S:SE}{X:Cx},XOk S Φ Ψ G X->∀ex,aQ S false (.or as) ex=true->∀R,VE X S.M R .s ex (wE Φ G R (.or as)):=λ{S X} a ex k R=>by
  obtain⟨o,i,b,rfl,c⟩:=p9 k
  replace k:=c
  rw[Bi,Bi]at k;cases Do k.1.1;rw[e];exact f.ov a _ _ (jX k.1.2) k.2 R
 refine⟨λa ex k R=>by rw[gB rfl];exact d a ex k R,λ{S X} a ex k g R=>?_,λ{S X} a j l ex k _ R=>?_⟩
 .obtain⟨o,i,b,rfl,c⟩:=p9 k
  replace k:=c
  rw[Bi,Bi]at k;cases Do k.1.1;rw[e];exact(f.ot a _ _ (jX k.1.2) k.2 (by exact g) R).pt
 .have h:gX S (.or as) ex=false:=rfl;rw[h,i3,de]at k;exact gU (mH (d a ex (by exact k) R))
theorem WG{X:Cx}{M:Ms}{R:Addr->Prop}{m:Md}{e:Expr}{t:WT}{c:CE}(h:VE X M R m e t)(a:mo Ψ c=m\/mo Ψ c=.s):VE X M R (mo Ψ c) e t:=by
 rcases a with z|z
 .rw[z];exact h
 .rw[z];exact Hf h
theorem RQ{as:List CE}(e:sY Φ Ψ G as):dM Φ Ψ G (.tup as):=by
 refine .mk1 (λ{S X} f ex k R=>?_) (λ{S ex} g k b=>?_) (λS ex k=>by exact k) (λ_ _=>rfl)
 .obtain⟨d,q,p,rfl,c⟩:=gx k;rw[gB rfl];exact Q3 (e.a f d c R)
 .obtain⟨d,q,p,rfl,c⟩:=gx k;rfl
theorem RS{as:List CE}(e:sY Φ Ψ G as):dM Φ Ψ G (.lst as):=by
 refine .mk1 (λ{S X} f ex k R=>?_) (λ{S ex} g k b=>?_) (λS ex k=>by exact k) (λ_ _=>rfl)
 .obtain⟨d,p,rfl,c⟩:=rE k;rw[oY rfl];exact Q2 (e.a f d c R)
 .obtain⟨d,p,rfl,c⟩:=rE k;rfl
theorem WH{a i:CE}(g:dM Φ Ψ G a)(f:dM Φ Ψ G i):dM Φ Ψ G (.ix a i):=by
 refine .mk1 (λ{S X} e ex k R=>?_) (λ{S ex} h k d=>?_) (λS ex k=>by exact k) (λ_ _=>rfl)
 .obtain⟨v,s,p,rfl,c⟩:=iG k;simp only[Bi]at c;rw[gB rfl];exact Wa (CB c.1.1) (g.b e c.1.2 R) (f.s e c.2 R)
 .obtain⟨v,s,p,rfl,c⟩:=iG k;rfl
theorem OA{a:CE}(d:dM Φ Ψ G a){S:SE}{X:Cx}(f:XOk S Φ Ψ G X){l:Option Expr}(k:RC (kC a) (λx=>aQ S false a x) l=true)(R:Addr->Prop):PO X l (Wb X S.M R λb Q=>wE Φ G R a b λy=>Ls a y Q):=by
 cases l with
 |none=>
  have z:kC a=true:=k;cases a with
  |aW=>exact LH
  |_=>exact ff z
 |some x=>
  have k:(!kC a&&aQ S false a x)=true:=k;rw[Bi]at k;have e:(λ(b:Ev)(Q:Option Int->Prop)=>wE Φ G R a b λy=>Ls a y Q)=λb Q=>wE Φ G R a b λy=>match y with|.int i=>Q (some i)|_=>False:=by
   have c:kC a=false:=by simpa using k.1
   unfold Ls;rw[c];funext b Q;congr 1;funext y;cases y<;>rfl
  rw[e];exact LI (d.s f k.2 R)
theorem WJ{a f g:CE}(j:dM Φ Ψ G a)(h:dM Φ Ψ G f)(i:dM Φ Ψ G g):dM Φ Ψ G (.sl a f g):=by
 refine .mk1 (λ{S X} e ex k R=>?_) (λ{S ex} m k d=>?_) (λS ex k=>by exact k) (λ_ _=>rfl)
 .obtain⟨v,l,r,q,p,rfl,c⟩:=Cy k;simp only[Bi]at c;rw[oY rfl];exact Wc (j.b e c.1.1 R) (OA h e c.1.2 R) (OA i e c.2 R)
 .obtain⟨v,l,r,q,p,rfl,c⟩:=Cy k;rfl
theorem Mf(f:Nat){as:List CE}(B:sY Φ Ψ G as):dM Φ Ψ G (.call f as):=by
 refine .mk1 (λ{S X} b ex k R=>?_) (λ{S ex} H k c=>?_) (λS ex k=>by exact k) (λ_ _=>rfl)
 .obtain⟨x,q,l,p,rfl,g⟩:=cA k;simp only[Bi]at g;obtain⟨⟨⟨⟨⟨u,t⟩,s⟩,i⟩,r⟩,m⟩:=g;obtain⟨D,C,I⟩:=fy b t;obtain⟨E,n,o,A,F,v,y⟩:=b.fns f x (P3.mp u) (by simpa using r);have F:d7 X.prog X.w X.K X.mg X.base o E n (T9 X.K n (Ψ f) (Φ f)):=by rw[<-b.Mb]at i;cases j:Ψ f<;>rw[j]at i F<;>first|exact F|exact ff i
  have d:=nS m;cases l with
  |nil=>exact ff s
  |cons e l=>
   rw[J9,Bi]at d;have h:=Ct (M:=S.M) (R:=R) (p:=q) (pos:=p) F v D A y (B.a b _ m R) C (aU d.1 _ _) (gA d.2 _ _);refine WG h ?_;by_cases z:oX Ψ (.call f as)=true
   .rw[oY z];left;have z:(match Ψ f with|.f=>true|_=>false)=true:=z;cases j:Ψ f<;>rw[j]at z<;>first|rfl|exact ff z
   .exact .inr (gB (by simpa using z))
 .obtain⟨x,q,l,p,rfl,g⟩:=cA k;rfl
theorem HE{X:Cx}(c:X.calm=true):∀b:BI,b≠.zG->(∃a,bootBuiltins (ZC b)=some (.builtin a)/\dG X (.builtin a) (We X.K b))\/(∃a,bootBuiltins (ZC b)=some (.type a)/\dG X (.type a) (We X.K b))
 |.len,_=>.inl ⟨"len",rfl,cw_len.r⟩
 |.abs,_=>.inl ⟨"abs",rfl,cw_abs.r⟩
 |.max2,_=>.inl ⟨"max",rfl,(cw_max c).r⟩
 |.min2,_=>.inl ⟨"min",rfl,(cw_min c).r⟩
 |.sum,_=>.inl ⟨"sum",rfl,(cw_sum c).r⟩
 |.all,_=>.inl ⟨"all",rfl,(cw_all c).r⟩
 |.list,_=>.inr ⟨"list",rfl,cw_list.r⟩
 |.tuple,_=>.inr ⟨"tuple",rfl,cw_tuple.r⟩
 |.int,_=>.inr ⟨"int",rfl,cw_int.r⟩
 |.any,_=>.inl ⟨"any",rfl,(cw_any c).r⟩
 |.zG,h=>absurd rfl h
theorem gj{S:SE}{a:CE}{as:List CE}{es:List Expr}(k:gy S (a::as) es=true):∃e r,es=e::r/\aQ S false a e=true/\gy S as r=true:=by
 cases es with
 |nil=>exact ff k
 |cons e r=>exact⟨e,r,rfl,a2 k⟩
theorem rJ{S:SE}{es:List Expr}(k:gy S [] es=true):es=[]:=KM.mp k
theorem AG{S:SE}{a:CE}{as:List CE}{es:List Expr}(k:mJ S (a::as) es=true):∃e r,es=e::r/\(aQ S false a e||gX S a e)=true/\mJ S as r=true:=by
 cases es with
 |nil=>exact ff k
 |cons e r=>exact⟨e,r,rfl,a2 k⟩
theorem El{S:SE}{es:List Expr}(k:mJ S [] es=true):es=[]:=KM.mp k
theorem RT(b:BI){as:List CE}(H:sY Φ Ψ G as)(g:∀c∈as,dM Φ Ψ G c):dM Φ Ψ G (.blt b as):=by
 refine .mk1 (λ{S X} h ex k R=>?_) (λ{S ex} Y k s=>?_) (λS ex k=>by exact k) (λ_ _=>rfl)
 .obtain⟨x,q,B,p,rfl,j⟩:=cA k;simp only[Bi]at j;obtain⟨⟨⟨⟨⟨l,O⟩,N⟩,L⟩,D⟩,o⟩:=j;have l:=Do l;obtain⟨A,w,v⟩:=fy h O;have hz:=h.E8 x (by simpa using N);have f:=rG o;cases B with
  |nil=>cases b<;>exact ff L
  |cons e B=>
   rw[J9,Bi]at f;by_cases F:b=.zG
   .subst F;rw[gB rfl];rcases as with _|⟨a,_|⟨c,_|⟨d,as⟩⟩⟩<;>try exact ff D
    obtain⟨n,E⟩:=X2.mp D;have Z:c=.As n:=by cases c<;>first|(cases E;rfl)|exact nn E
    subst Z;obtain⟨K,J⟩:=a2 o;obtain⟨e2,r,rfl,C,RU⟩:=AG J;cases El RU;have i:=f.2;rw[J9,Bi]at i;have I:aQ S false (.As n) e2=true:=by
     rcases iH C with z|z
     .exact z
     .exact ff z
    have t:n∈["int","bool","tuple","list","str","dict"]:=by obtain⟨y,q2,rfl,j⟩:=eK I;have:=(a2 j).2;unfold tys at this;exact List.contains_iff_mem.mp this
    have U:=(g a FC).b h K R;have T:=(g (.As n) (Ee _ FC)).b h C R;have m:bootBuiltins x=some (.builtin "isinstance"):=by rw[l];rfl
    exact Q6 (M:=S.M) (R:=R) (p:=q) (pos:=p) h.kit t A hz m U T v w (aU f.1 _ _) (aU i.1 _ _) (gA f.2 _ _)
   .have Q:mo Ψ (.blt b as)=Wd b:=by
     cases b<;>first|rfl|exact gB rfl|exact oY rfl
    rw[Q];rcases HE h.calm b F with⟨P,m,u⟩|⟨P,m,u⟩
    .exact Q4 u A hz (by rw[l];exact m) (H.b h _ o R) v w (aU f.1 _ _) (gA f.2 _ _)
    .exact Q5 u A hz (by rw[l];exact m) (H.b h _ o R) v w (aU f.1 _ _) (gA f.2 _ _)
 .obtain⟨x,q,B,p,rfl,j⟩:=cA k;rfl
theorem Mg{a:CE}(h:dM Φ Ψ G a):dM Φ Ψ G (.bits a):=by
 refine .mk1 (λ{S X} i ex k R=>?_) (λ{S ex} j k b=>?_) (λS ex k=>by exact k) (λ_ _=>rfl)
 .obtain⟨o,m,n,l,rfl,c⟩:=kT k;simp only[Bi]at c;obtain⟨⟨⟨d,g⟩,e⟩,f⟩:=c;have d:=Do d;subst d;rw[gB rfl];exact LJ (h.s i f R) (uI e _ _ _) g
 .obtain⟨o,m,n,l,rfl,c⟩:=kT k;rfl
theorem RV{K:Frag}{B B':Addr->Prop}{H:Hp}{w:W}{v:V}(a:QF w=true)(r:Rep K B H w v):Rep K B' H w v:=by
 cases w<;>first|(dsimp only[Rep]at r⊢;exact r)|exact ff a
theorem fz{S:SE}{a:List Nat}:∀x∈(S.lend a).M,x∈S.M:=λx b=>(ar.mp b).1
theorem RW(c:List Nat){a:CE}(u:dM Φ Ψ G a):dM Φ Ψ G (.Co c a):=by
 have x:∀R,wE Φ G R (.Co c a)=λd Q=>wE Φ G R a d λw=>QF w=true/\Q w:=λR=>rfl;have q:∀{S:SE}{X:Cx},XOk S Φ Ψ G X->∀ex,aQ S false (.Co c a) ex=true->∀R,VE X S.M R .s ex (wE Φ G R (.Co c a)):=λ{S X} b ex k R=>by have k:=a2 k;have o:XOk (S.lend c) Φ Ψ G X:=⟨b.hN,b.nd,b.calm,b.un,b.nk,b.fns,b.Ma,b.Mb,b.J3,b.E8,b.kit⟩;rw[x];refine PE.imp (u.s o k.2 R) ?_;rintro y H Q ⟨A,m,d,P,l,i,h,g⟩;obtain⟨p,D,E,C,j⟩:=l.sub (M':=(S.lend c).M) fz none (λv e=>by cases e);exact⟨p,m,d,_,j,i,h,λw v n f s r=>g w v n f.2 s (.of (RV f.1 r.b7))⟩
 refine⟨λ{S X} b ex k R=>by rw[gB rfl];exact q b ex k R,λ{S X} b ex k z R=>?_,λ{S X} b F I ex k _ R=>?_⟩
 .have k:=a2 k;have o:XOk (S.lend c) Φ Ψ G X:=⟨b.hN,b.nd,b.calm,b.un,b.nk,b.fns,b.Ma,b.Mb,b.J3,b.E8,b.kit⟩;rw[x];refine PT.imp (u.t o ex k.2 z R) ?_;rintro y H Q ⟨A,m,d,P,l,i,h,g⟩;obtain⟨p,D,E,C,j⟩:=l.sub (M':=(S.lend c).M) fz none (λv e=>by cases e);exact⟨p,m,d,_,j,i,h,λw n f s=>g w n f.2 s⟩
 .have B:gX S (.Co c a) ex=false:=rfl;rw[B,i3,de]at k;exact gU (mH (q b ex (by exact k) R))
theorem RX(i g f:Nat)(as:List CE):dM Φ Ψ G (.Lr i g f as):=.mk1 (λc ex k R=>by cases k) (λb k a=>by cases k) (λS ex k=>by cases k) (λ_ _=>rfl)
theorem RY(i:Nat):dM Φ Ψ G (.pop i):=.mk1 (λc ex k R=>by cases k) (λb k a=>by cases k) (λS ex k=>by cases k) (λ_ _=>rfl)
theorem RZ{as:List CE}(h:∀c∈as,dM Φ Ψ G c):dM Φ Ψ G (.jP as):=by
 refine⟨λ{S X} i ex k R=>?_,λ{S X} i ex k _ R=>?_,λ{S X} i tg br ex k _ R=>?_⟩
 .obtain⟨x,q,z,p,rfl,l⟩:=cA k;simp at l
 .obtain⟨x,q,z,p,rfl,l⟩:=cA k;simp at l
 .have D:gX S (.jP as) ex=false:=rfl;rw[D,i3,de]at k;obtain⟨x,q,z,p,rfl,l⟩:=cA k;simp only[Bi]at l;obtain⟨⟨⟨⟨⟨_,v⟩,C⟩,B⟩,y⟩,t⟩:=l;have v:=Do v;subst v;obtain⟨w,F,E⟩:=fy i C;have hz:=i.E8 _ (by simpa using B);rcases as with _|⟨a,_|⟨b,_|⟨c,_|⟨d,as⟩⟩⟩⟩
  .simp at y
  .obtain⟨e,r,rfl,j,n⟩:=gj t;cases rJ n;exact LL (M:=S.M) (R:=R) (br:=br) (tg:=tg) (p:=q) (pos:=p) w hz ((h a FC).s i j R) (aU (bO (.inl j)) _ _)
  .obtain⟨e,r,rfl,j,n⟩:=gj t;obtain⟨f,r,rfl,m,o⟩:=gj n;cases rJ o;exact LM (M:=S.M) (R:=R) (br:=br) (tg:=tg) (p:=q) (pos:=p) w hz ((h a (by simp)).s i j R) ((h b (by simp)).s i m R) (aU (bO (.inl j)) _ _) (aU (bO (.inl m)) _ _)
  .obtain⟨e,r,rfl,j,n⟩:=gj t;obtain⟨f,r,rfl,m,o⟩:=gj n;obtain⟨g,r,rfl,A,u⟩:=gj o;cases rJ u;exact LN (M:=S.M) (R:=R) (br:=br) (tg:=tg) (p:=q) (pos:=p) w hz ((h a (by simp)).s i j R) ((h b (by simp)).s i m R) ((h c (by simp)).s i A R) (aU (bO (.inl j)) _ _) (aU (bO (.inl m)) _ _) (aU (bO (.inl A)) _ _)
  .simp at y
theorem HF{f:Expr->Bool}{es:List Expr}(h:Wz f es=true):∃e,es=[e]/\f e=true:=fS h
theorem R3{a:CE}(n:dM Φ Ψ G a):dM Φ Ψ G (.uE a):=by
 refine⟨λ{S X} c ex k R=>?_,λ{S X} c ex k _ R=>?_,λ{S X} c s v ex k m R=>?_⟩
 .obtain⟨x,q,g,p,rfl,b⟩:=cA k;simp at b
 .obtain⟨x,q,g,p,rfl,b⟩:=cA k;simp at b
 .have l:gX S (.uE a) ex=false:=rfl;rw[l,i3,de]at k;obtain⟨x,q,g,p,rfl,b⟩:=cA k;simp only[Bi]at b;obtain⟨⟨⟨⟨_,f⟩,j⟩,i⟩,d⟩:=b;have f:=Do f;subst f;obtain⟨e,rfl,d⟩:=HF d;obtain⟨o,u,t⟩:=fy c j;obtain⟨h,b,r,rfl⟩:=m rfl;exact Q8 o (c.E8 _ (by simpa using i)) (mH (n.e c e d R)) (aU (bO (.inl d)) _ _)
theorem rK{f:NameKind->NameKind}:∀(l:List (Str×NameKind))(y:Str),(l.map λp=>(p.1,f p.2)).lookup y=(l.lookup y).map f
 |[],_=>rfl
 |(n,k)::r,y=>by
  rw[RF,E2,E2];by_cases e:(y==n)=true
  .rw[e];rfl
  .rw[hZ]at e;rw[e];exact rK r y
theorem vZ{sc a b:Scope}{N d c:List Str}(h:∀x,a.names.lookup x=b.names.lookup x):d8 sc a N d c=d8 sc b N d c:=by unfold d8;simp only[h]
theorem wc{S:SE}{X:Cx}(a:XOk S Φ Ψ G X){scope:Scope}{b:List Str}(g:d8 scope X.env.scope X.N (mask b S.N) b=true)(h:(b++mask b S.N).Nodup){c:List (Addr×Obj)}{d:St}{H:Hp}{s:Shared}(I:Inv X c d H s)(C:Addr)(e:Shared)(j:Hp)(i:List Addr):
 XOk (S.comp scope b) Φ Ψ G (aX X scope C b (mask b S.N) e j i):=by
 refine⟨rfl,h,a.calm,a.un,λx=>?_,a.fns,a.Ma,a.Mb,a.J3,a.E8,a.kit⟩;show(relabel scope X.env).names.lookup x=_;rw[ig I (gR.of g)];show _=(scope.names.map λp=>(p.1,if p.2=.free then NameKind.cell else p.2)).lookup x;rw[rK (f:=λk=>if k=.free then NameKind.cell else k)]
noncomputable def gY(X:Cx)(i:Nat)(x:Str):Prop:=X.N[i]?=some x/\Loc X.env.scope x/\(X.fn x=true\/X.env.scope.names.lookup x=some .local)
noncomputable def dN(X:Cx):List Nat->List Str->Prop
 |[],a=>a=[]
 |i::b,a=>∃x r,a=x::r/\gY X i x/\dN X b r
theorem OB{X:Cx}(a:X.N.Nodup){i:Nat}{x:Str}{p:Pos}(h:gY X i x):PG X (.Name x p) (gJ i):=By a h.1 h.2.1 h.2.2
theorem HG{X:Cx}(d:X.N.Nodup):∀(es:List Expr)(b:List Str)(a:List Nat),E7 es=some b->dN X a b->UN X es (Wg a)/\(assignEach es X.env).length=a.length/\(assignEach es X.env).findIdx? (·.1)=none
 |[],b,a,h,k=>by
  cases h;cases a with
  |nil=>exact⟨Ke,rfl,rfl⟩
  |cons i c=>obtain⟨x,r,e,_⟩:=k;cases e
 |.Name x p::es,b,a,h,k=>by
  rw[E7]at h;obtain⟨l,m,rfl⟩:=PH.mp h;cases a with
  |nil=>cases k
  |cons i c=>obtain⟨q,r,e,o,n⟩:=k;cases e;obtain⟨j,g,f⟩:=HG d es l c m n;have e:assignEach (.Name x p::es) X.env=(false,assign (.Name x p) X.env)::assignEach es X.env:=rfl;refine⟨Ft (OB d o) j rfl,by rw[e,CY,g,CY],?_⟩;rw[e,List.findIdx?_cons,f];rfl
 |.BoolOp ..::es,b,a,h,k=>by cases h
 |.NamedExpr ..::es,b,a,h,k=>by cases h
 |.BinOp ..::es,b,a,h,k=>by cases h
 |.UnaryOp ..::es,b,a,h,k=>by cases h
 |.Lambda ..::es,b,a,h,k=>by cases h
 |.IfExp ..::es,b,a,h,k=>by cases h
 |.Dict ..::es,b,a,h,k=>by cases h
 |.Set ..::es,b,a,h,k=>by cases h
 |.ListComp ..::es,b,a,h,k=>by cases h
 |.SetComp ..::es,b,a,h,k=>by cases h
 |.DictComp ..::es,b,a,h,k=>by cases h
 |.GeneratorExp ..::es,b,a,h,k=>by cases h
 |.Await ..::es,b,a,h,k=>by cases h
 |.Yield ..::es,b,a,h,k=>by cases h
 |.YieldFrom ..::es,b,a,h,k=>by cases h
 |.Compare ..::es,b,a,h,k=>by cases h
 |.Call ..::es,b,a,h,k=>by cases h
 |.FormattedValue ..::es,b,a,h,k=>by cases h
 |.JoinedStr ..::es,b,a,h,k=>by cases h
 |.Constant ..::es,b,a,h,k=>by cases h
 |.Attribute ..::es,b,a,h,k=>by cases h
 |.Subscript ..::es,b,a,h,k=>by cases h
 |.Starred ..::es,b,a,h,k=>by cases h
 |.List ..::es,b,a,h,k=>by cases h
 |.Tuple ..::es,b,a,h,k=>by cases h
 |.Slice ..::es,b,a,h,k=>by cases h
theorem Mh{X:Cx}(q:X.calm=true)(c:X.N.Nodup){tg:Expr}{one:Bool}{b:List Str}{a:List Nat}(h:Ub tg=some (one,b))(k:dN X a b):PG X tg (gT X.K one a):=by
 cases tg with
 |Name x p=>
  cases h
  match a,k with
  |[i],k=>obtain⟨g,r,e,f,d⟩:=k;cases e;exact OB c f
  |[],k=>cases k
  |_::_::_,k=>obtain⟨g,r,e,f,d⟩:=k;cases e;obtain⟨u,v,t,_⟩:=d;cases t
 |Tuple s w p=>
  dsimp only[Ub]at h;obtain⟨l,o,e⟩:=PH.mp h;cases e;obtain⟨n,m,j⟩:=HG c s b a o k;have:gT X.K false a=Pn X.K a.length (Wg a):=by cases a<;>rfl
  rw[this];exact Po q n m j
 |_=>exact nn h
theorem oN{X:Cx}:∀(a:List Str)(n:Nat),(∀k x,a[k]?=some x->gY X (n+k) x)->dN X ((D2 a.length).map (n+·)) a
 |[],n,_=>by simp[dN]
 |x::a,n,h=>by
  rw[CY,Zf,RF];refine⟨x,a,rfl,h 0 x rfl,?_⟩;have:=oN a (n+1) λk y b=>by have:=h (k+1) y (by simpa using b);rw[show n+1+k=n+(k+1) by lia];exact this
  rw[UV];have e:(D2 a.length).map (n+1+·)=(D2 a.length).map ((n+·)∘Nat.succ):=tj λk _=>by show n+1+k=n+(k+1);lia
  rw[<-e];exact this
theorem rL{a:Expr}(h:vY a=true)(env:Env)(x:Value):foldedSetIterable a env x=pure x:=by
 cases a<;>first|rfl|exact ff h
theorem CC{d:List Nat}{one:Bool}{n:Nat}{i c x:CE}{R:Addr->Prop}:wE Φ G R (.comp d one n i c x)=λb Q=>wE Φ G R i b λz=>items z λf=>jA (λw K=>wT one d w (A0 n none++b) λa=>wE Φ G (λ_=>False) c a λe=>truth e λk=>if k=true then wE Φ G (λ_=>False) x a λy=>K (some y)else K none) f [] λl=>Q (.lst l):=rfl
theorem i6{ts:List Nat}{one:Bool}{n:Nat}{i c x:CE}(hi:dM Φ Ψ G i)(hc:dM Φ Ψ G c)(hx:dM Φ Ψ G x){S:SE}{X:Cx}(T:XOk S Φ Ψ G X){ex:Expr}(k:aQ S false (.comp ts one n i c x) ex=true)(R:Addr->Prop):
 ∃D tg d B scope p a,ex=.ListComp D [⟨tg,d,B,0⟩] scope p/\n=a.length/\(∀j∈ts,j<a.length)/\d8 scope X.env.scope X.N (mask a S.N) a=true/\(∀z,foldedSetIterable d X.env z=pure z)/\PI X tg d (Ho X S.M R true (wE Φ G R i))/\
  ∀E s U H,Inv X E U H s->(∀C l g u,PG (aX X scope C a (mask a S.N) l g u) tg (gT X.K one ts))/\(∀C l g u,PF (aX X scope C a (mask a S.N) l g u) B (X3 X.K (up S.M a.length) (wE Φ G (λ_=>False) c)))/\
   ∀C l g u,(XOk (S.comp scope a) Φ Ψ G (aX X scope C a (mask a S.N) l g u)/\aQ (S.comp scope a) false x D=true)/\PE (aX X scope C a (mask a S.N) l g u) D (Zm X.K (up S.M a.length) (wE Φ G (λ_=>False) x)):=by
 obtain⟨D,tg,d,B,scope,p,rfl,L⟩:=uH k;unfold yM at L;split at L;rotate_left
 .cases L
 rename_i o a Mi
 simp only[Bi]at L;obtain⟨⟨⟨⟨⟨⟨⟨⟨⟨k1,k2⟩,k3⟩,k4⟩,k5⟩,k6⟩,k7⟩,k8⟩,m⟩,RU⟩:=L;have k1:=P3.mp k1;have k2:=P3.mp k2;have k3:=P3.mp k3;subst k1 k2 k3;have F:=Do k5;have Y:d8 scope X.env.scope X.N (mask a S.N) a=true:=by rw[T.hN,vZ (b:=S.sc) λy=>T.nk y];exact k4
 have O:=gR.of Y;refine⟨D,tg,d,B,scope,p,a,rfl,rfl,λj hj=>Yf.mp hj,Y,rL k6 _,hi.i T tg true d (by rw[fc];exact k8) (λz=>?_) R,λE s U H I=>⟨λC l g u=>?_,λC l g u=>?_,λC l g u=>?_⟩⟩
 .have:one=false:=by rw[z]at k7;simpa using k7
  subst this;cases tg with
  |Tuple es L p=>exact⟨_,_,_,rfl⟩
  |Name y p=>cases Mi
  |_=>exact nn Mi
 .have J:=wc T Y F I C l g u;refine Mh J.calm J.nd Mi ?_;have:=oN (X:=aX X scope C a (mask a S.N) l g u) a 0 λk y hy=>?_
  .simpa using this
  .have hm:y∈a:=Hk hy;have l1:(aX X scope C a (mask a S.N) l g u).env.scope.names.lookup y=some .local:=by show(relabel scope X.env).names.lookup y=_;rw[ig I O,(O.own y hm).1];rfl
   refine⟨?_,.inl l1,.inr l1⟩;show(a++mask a S.N)[0+k]?=some y;rw[xb,KE (FR.mp hy).1];exact hy
 .have J:=wc T Y F I C l g u
  match B,m with
  |[],m=>
   have m:Ox c=true:=m;cases c with
   |bl b=>have:b=true:=m;subst this;refine PF.imp F9 ?_;rintro U H Q ⟨A,g,Z,P,S',h,k⟩;obtain⟨b,e,q⟩:=k _ H h (aE.refl H);cases e;exact q
   |_=>exact ff m
  |[f],m=>have m:(aQ (S.comp scope a) false c f&&J2 c)=true:=m;rw[Bi]at m;exact PF.imp (Qe (hc.t J f m.1 m.2 λ_=>False))<|by rintro U H Q ⟨A,g,Z,P,S',h,k⟩;exact⟨A,g,Z,P,S',.none,h,k⟩
  |_::_::_,m=>exact ff m
 .have J:=wc T Y F I C l g u;refine⟨⟨J,RU⟩,?_⟩;exact PE.imp (hx.s J RU λ_=>False)<|by rintro U H Q ⟨A,g,Z,P,S',h,k⟩;exact⟨A,g,Z,P,S',.none,h,λw v H' pw s r=>k w v H' pw s r.b7⟩
theorem Mj(o:List Nat)(one:Bool)(n:Nat){i c x:CE}(B:dM Φ Ψ G i)(D:dM Φ Ψ G c)(w:dM Φ Ψ G x):dM Φ Ψ G (.comp o one n i c x):=by
 refine .mk1 (λ{S X} m ex k R=>?_) (λ{S ex} F k e=>?_) (λS ex k=>by exact k) (λ_ _=>rfl)
 .obtain⟨j,q,d,f,b,p,L,rfl,rfl,g,A,h,J,z⟩:=i6 B D w m k R;rw[oY rfl];rw[CC];intro a s l H Q I y;obtain⟨v,u,t⟩:=z a s l H I;exact LO m.calm A g J v u (λC r K E=>(t C r K E).2) h a s l H Q I y
 .obtain⟨j,q,d,f,b,p,rfl,M⟩:=uH k;rfl
theorem R4:sY Φ Ψ G []:=by
 have en:∀{S:SE}{a:List Expr},gy S [] a=true->a=[]:=λ{S a} h=>by exact KM.mp h
 have e:∀{S:SE}{a:List Expr},mJ S [] a=true->a=[]:=λ{S a} h=>by exact KM.mp h
 refine⟨λd a k R=>?_,λd a k R=>?_,λd a b c k R=>absurd (en k) c,λd a b c k R=>absurd (en k) c,λd a b c k _ R=>absurd (en k) c,λd a b c k _ R=>absurd (en k) c⟩
 .rw[en k];exact Q0
 .rw[e k];exact LF
theorem Ml{a:CE}{as:List CE}(l:dM Φ Ψ G a)(n:sY Φ Ψ G as):sY Φ Ψ G (a::as):=by
 have o:∀{S:SE}{j:List Expr},gy S (a::as) j=true->∃e r,j=e::r/\aQ S false a e=true/\gy S as r=true:=λ{S j} h=>by
  rw[gy]at h;cases j with
  |nil=>exact ff h
  |cons e r=>rw[Cz,Bi]at h;exact⟨e,r,rfl,h.1,h.2⟩
 have v:∀R,wA Φ G R (a::as)=λu Q=>wE Φ G R a u λx=>wA Φ G R as u λw=>Q (x::w):=λR=>rfl;refine⟨λc j k R=>?_,λ{S X} c j k R=>?_,λ{S X} c j f p k R=>?_,λ{S X} c j f p k R=>?_,λ{S X} c j f p k i R=>?_,λ{S X} c j f p k i R=>?_⟩
 .obtain⟨e,r,rfl,g,d⟩:=o k;rw[v];exact LD (aU (bO (.inl g)) _ _) (l.s c g R) (n.a c r d R)
 .rw[mJ]at k;cases j with
  |nil=>exact ff k
  |cons e r=>rw[Cz,Bi]at k;rw[v];exact Hj (aU (bO (iH k.1)) _ _) (l.b c k.1 R) (n.b c r k.2 R)
 .obtain⟨e,r,rfl,g,d⟩:=o k;cases as with
  |nil=>
   have:r=[]:=by exact KM.mp d
   subst this;exact uS (l.s c g R)
  |cons b q=>
   cases r with
   |nil=>exact ff d
   |cons m r=>exact QW (l.s c g R) (n.av c (m::r) f (by simp) d R)
 .obtain⟨e,r,rfl,g,d⟩:=o k;cases as with
  |nil=>
   have:r=[]:=by exact KM.mp d
   subst this;exact uS (l.s c g R)
  |cons b q=>
   cases r with
   |nil=>exact ff d
   |cons m r=>exact V8 (l.s c g R) (n.ov c (m::r) f (by simp) d R)
 .obtain⟨e,r,rfl,g,d⟩:=o k;have i:=a2 i;cases as with
  |nil=>
   have:r=[]:=by exact KM.mp d
   subst this;exact LC (l.t c e g i.1 R)
  |cons b q=>
   cases r with
   |nil=>exact ff d
   |cons m r=>exact QY (l.t c e g i.1 R) (n.at c (m::r) f (by simp) d i.2 R)
 .obtain⟨e,r,rfl,g,d⟩:=o k;have i:=a2 i;cases as with
  |nil=>
   have:r=[]:=by exact KM.mp d
   subst this;exact QX (l.t c e g i.1 R)
  |cons b q=>
   cases r with
   |nil=>exact ff d
   |cons m r=>exact V9 (l.t c e g i.1 R) (n.ot c (m::r) f (by simp) d i.2 R)
variable(Φ Ψ G)
mutual
theorem snd:∀c:CE,dM Φ Ψ G c
 |.var i=>RD i
 |.int i=>RG i
 |.bl b=>WB b
 |.str x=>RH x
 |.aW=>RI
 |.As n=>RJ n
 |.glob g=>Me g
 |.bin op a b=>RK op (snd a) (snd b)
 |.neg a=>RM (snd a)
 |.not a=>RN (snd a)
 |.cmp op a b=>RO op (snd a) (snd b)
 |.and as=>RP (oZ as).1
 |.or as=>WE (oZ as).1
 |.tup as=>RQ (oZ as).1
 |.lst as=>RS (oZ as).1
 |.ix a i=>WH (snd a) (snd i)
 |.sl a e j=>WJ (snd a) (snd e) (snd j)
 |.call f as=>Mf f (oZ as).1
 |.blt b as=>RT b (oZ as).1 (oZ as).2
 |.bits a=>Mg (snd a)
 |.comp d one n i c x=>Mj d one n (snd i) (snd c) (snd x)
 |.jP as=>RZ (oZ as).2
 |.uE a=>R3 (snd a)
 |.pop i=>RY i
 |.own i π=>RE i π
 |.Co h a=>RW h (snd a)
 |.Lr i g f as=>RX i g f as
theorem oZ:∀cs:List CE,sY Φ Ψ G cs/\∀c∈cs,dM Φ Ψ G c
 |[]=>⟨R4,by simp⟩
 |c::cs=>⟨Ml (snd c) (oZ cs).1,λd a=>by
  rcases Fn.mp a with e|h
  .rw[e];exact snd c
  .exact(oZ cs).2 d h⟩
end
end
noncomputable def OC(S:SE)(i:Nat)(x:Str):Bool:=S.N[i]?==some x&&(S.nk.lookup x==some .local||S.nk.lookup x==some .cell)
noncomputable def AI(S:SE):List Nat->List Str->Bool
 |[],a=>a.isEmpty
 |i::b,a=>match a with
  |x::r=>OC S i x&&AI S b r
  |[]=>false
noncomputable def Mm(S:SE)(a:List Nat):Bool:=a.all λi=>!rD S.M i
noncomputable def SE.less(S:SE)(i:Nat):SE:={S with M:=S.M.filter (·.1 !=i)}
noncomputable def SE.bare(S:SE):SE:={S with M:=[]}
noncomputable def HH:Expr->Bool
 |.Tuple _ _ _=>false
 |_=>true
noncomputable def CD:Expr->Bool
 |.ListComp _ _ _ _=>false
 |_=>true
noncomputable def Uc(S:SE)(b vs:List Expr):Option (Option (List Str)):=
 if !(b.length==2||b.length==3)||vs.length !=b.length then some none
 else if vs.any λ|.Starred ..=>true|_=>false then some none
 else
  let line:=(b.head?.map (·.pos.line)).getD 0
  let a:=b.filterMap λ
   |.Name c pos=>if S.nk.lookup c==some .local&&pos.line==line then some c else none
   |_=>none
  if a.length !=b.length||a.eraseDups.length !=a.length then some none
  else if vs.all (foldedForSure 8)then some none
  else if vs.all (constantsAlone 8)then none
  else some (some a)
noncomputable def Em(f:List Expr->Expr->Bool):Stmt->Bool
 |.Assign a v _=>f a v
 |_=>false
noncomputable def oWh(f:Expr->List Stmt->List Stmt->Bool):Stmt->Bool
 |.While c a b _=>f c a b
 |_=>false
noncomputable def oFr(f:Expr->Expr->List Stmt->List Stmt->Bool):Stmt->Bool
 |.For t i a b _=>f t i a b
 |_=>false
noncomputable def oRs(f:Expr->Bool):Stmt->Bool
 |.Raise (some x) none _=>f x
 |_=>false
noncomputable def Mn(f:Expr->Bool):Stmt->Bool
 |.Expr v _=>f v
 |_=>false
noncomputable def yN(f:Str->Pos->Expr->Bool):Stmt->Bool:=Em λa v=>o1 (Zy λx p=>f x p v) a
noncomputable def OD(f:List Expr->Expr->Bool):Stmt->Bool:=Em λa v=>o1 (Ej λb=>f b v) a
noncomputable def OE(f:List Expr->List Expr->Bool):Stmt->Bool:=Em λb v=>o1 (Ej λc=>Ej (λa=>f c a) v) b
noncomputable def OG(f:Expr->Expr->Expr->Bool):Stmt->Bool:=Em λa v=>o1 (Hx λo k=>f o k v) a
noncomputable def Mp(f:Expr->Str->Pos->Pos->Expr->Bool):Stmt->Bool:=Mn (uG λg b k c=>k&&o1 (λv=>Ei (λo m a=>f o m a c v) g) b)
noncomputable def R5(n:Bool)(f:Expr->Bool):Stmt->Bool
 |.Return (some v) _=>f v
 |.Return none _=>n
 |_=>false
noncomputable def WK(f:Expr->List Stmt->List Stmt->Bool):Stmt->Bool
 |.If c a b _=>f c a b
 |_=>false
noncomputable def WL(f:Expr->List Stmt->Bool):Stmt->Bool:=oWh λc a b=>b.isEmpty&&f c a
noncomputable def R6(f:Expr->Expr->List Stmt->Bool):Stmt->Bool:=oFr λt i a b=>b.isEmpty&&f t i a
noncomputable def ZE:Stmt->Bool
 |.Break _=>true
 |_=>false
noncomputable def HJ(f:Str->Expr->Bool):Stmt->Bool:=oRs (uG λg a k _=>k&&o1 (λe=>yJ (λx=>f x e) g) a)
noncomputable def HK(f:Stmt->Bool)(g:List Stmt->Bool):List Stmt->Bool
 |e::es=>f e&&g es
 |[]=>false
mutual
noncomputable def xP:Md->Md->Bool
 |.s,m=>L6 m
 |.f,m=>Wu m
 |.t a,m=>match m with
  |.t b=>AJ a b
  |_=>false
 |.o d a,m=>match m with
  |.o c b=>decide (d=c)&&AJ a b
  |_=>false
 |.io a,m=>match m with
  |.io b=>xP a b
  |_=>false
 |.ls a,m=>match m with
  |.ls b=>xP a b
  |_=>false
noncomputable def AJ:List Md->List Md->Bool
 |[],l=>l.isEmpty
 |a::as,l=>match l with
  |b::bs=>xP a b&&AJ as bs
  |[]=>false
end
mutual
theorem kU:∀{a b:Md},xP a b=true->a=b
 |.s,m,h=>by dsimp only[xP]at h;cases m<;>first|rfl|exact ff h
 |.f,m,h=>by dsimp only[xP]at h;cases m<;>first|rfl|exact ff h
 |.t a,m,h=>by
  cases m with
  |t b=>simp only[xP]at h;rw[we h]
  |_=>simp[xP]at h
 |.o d a,m,h=>by
  cases m with
  |o c b=>simp only[xP,Bi]at h;rw[Do h.1,we h.2]
  |_=>simp[xP]at h
 |.io a,m,h=>by
  cases m with
  |io b=>simp only[xP]at h;rw[kU h]
  |_=>simp[xP]at h
 |.ls a,m,h=>by
  cases m with
  |ls b=>simp only[xP]at h;rw[kU h]
  |_=>simp[xP]at h
theorem we:∀{a b:List Md},AJ a b=true->a=b
 |[],l,h=>by
  cases l with
  |nil=>rfl
  |cons b bs=>simp[AJ]at h
 |a::as,l,h=>by
  cases l with
  |nil=>simp[AJ]at h
  |cons b bs=>simp only[AJ,Bi]at h;rw[kU h.1,we h.2]
end
noncomputable def hasB(M:Ms)(i:Nat)(m:Md):Bool:=match M.lookup i with
 |some k=>xP k m
 |none=>false
theorem gO{M:Ms}{i:Nat}{m:Md}(h:hasB M i m=true):(i,m)∈M:=by
 unfold hasB at h;cases e:M.lookup i with
 |none=>rw[e]at h;exact ff h
 |some k=>rw[e]at h;rw[<-kU h];exact jB e
noncomputable def OH(f:Expr->Str->List Expr->Bool):Expr->Bool:=uG λg b k c=>k&&Ei (λo m a=>(a.endLine==c.line)&&decide (b.length<30)&&f o m b) g
noncomputable def yO(S:SE):CE->Expr->Bool
 |.pop i,e=>AE (λo m k j=>decide (m=("pop":Str))&&(k.endLine==j.line)&&Eh S.M i&&jC S i o) e
 |.Lr i g f as,e=>OH (λo x es=>S.fn[f]?==some x&&S.mt.any (λy=>y.1==f&&y.2==g)&&(match kj S.md f with
  |.io (.o d h)=>hasB S.M i (.o d h)&&!d.contains x
  |_=>false)&&jC S i o&&as.isEmpty&&es.isEmpty) e
 |.bin op a b,e=>Hw (λo l r=>decide (op=o)&&yO S a l&&yO S b r) e
 |c,e=>aQ S false c e
noncomputable def isS:Md->Bool
 |.s=>true
 |_=>false
noncomputable def WM(a:Nat->Md):CE->Md
 |.tup as=>.t (as.map (mo a))
 |.call f _=>a f
 |c=>mo a c
noncomputable def isVar:CE->Option Nat
 |.var i=>some i
 |_=>none
noncomputable def WO(S:SE)(m:Md)(e:CE)(v:Expr):Bool:=match isVar e with
 |some i=>hasB S.M i m&&jC S i v
 |none=>false
noncomputable def WQ(S:SE)(a:Nat->Md)(m:Md)(e:CE)(v:Expr):Bool:=
 !iD m&&((isS m&&(aQ S.bare false e v||aQ S false e v))||(xP (WM a e) m&&aQ S.bare false e v)||WO S m e v)
noncomputable def R7(S:SE)(m:Md):Bool:=match m with
 |.io k=>hasB S.M 0 k
 |_=>false
noncomputable def OI(f:Expr->Str->Expr->Bool):Stmt->Bool:=Em λa v=>o1 (Ei λo x _=>f o x v) a
noncomputable def isCall:CE->Bool
 |.call _ _=>true
 |_=>false
noncomputable def R8(S:SE)(i n:Nat)(x:Str):Bool:=match S.M.lookup i with
 |some (.o b a)=>b[n]?==some x&&(match a[n]? with
  |some k=>L6 k
  |none=>false)
 |_=>false
noncomputable def frB(S:SE)(a:List Nat)(one e:Bool)(f:Expr->Bool)(g:List Stmt->Bool)(tg c:Expr)(b:List Stmt):Bool:=
 match Ub tg with
 |some (o,d)=>(one==o)&&AI S a d&&Mm S a&&vY c&&(!e||!one)&&f c&&g b
 |none=>false
noncomputable def wg:Expr->Bool
 |.SetComp _ _ _ _=>false
 |.DictComp _ _ _ _ _=>false
 |_=>true
noncomputable def ZF(M:Ms)(i:Nat):Md:=match M.lookup i with
 |some (.ls m)=>m
 |_=>.s
mutual
noncomputable def Mq(S:SE)(d:Nat->Md)(m:Md):CS->Stmt->Bool
 |.set i e,st=>yN (λx _ v=>OC S i x&&(if rD S.M i=true then(!iD m||!(i==0))&&((Eh S.M i&&oX d e)||(isCall e&&hasB S.M i (WM d e)))&&aQ (S.less i) false e v else aQ S false e v)) st
 |.D9 h e,st=>OD (λes v=>(match E7 es with|some l=>AI S h l|none=>false)&&Mm S h&&aQ S false e v&&(HH v||Ej (λvs=>decide (Uc S es vs=some none)) v)) st
 |.par h es,st=>OE (λtg vs=>(match E7 tg with|some l=>AI S h l&&decide (Uc S tg vs=some (some l))&&decide l.Nodup&&l.all (λx=>S.nk.lookup x==some .local)|none=>false)&&Mm S h&&gy S es vs) st
 |.app i e,st=>Mp (λo p r q v=>decide (p=("append":Str))&&(r.endLine==q.line)&&Eh S.M i&&jC S i o&&aQ S false e v) st
 |.put i k e,st=>OG (λo j v=>Eh S.M i&&jC S i o&&HA j&&aQ S false k j&&aQ S false e v) st
 |.drop i,st=>Mn (λv=>CD v&&wg v&&yO S (.pop i) v) st
 |.yx j e,st=>yN (λx _ v=>OC S j x&&!rD S.M j&&CD v&&wg v&&yO S e v) st
 |.ret e,st=>R5 (kC e&&isS m) (λv=>WQ S d m e v) st
 |.iff c a b,st=>WK (λt x y=>aQ S false c t&&J2 c&&fD S d m a x&&fD S d m b y) st
 |.xO c b,st=>WL (λt x=>aQ S false c t&&J2 c&&fD S d m b x) st
 |.fr h one u b,st=>R6 (λtg i x=>frB S h one (HB u) (λi=>aQ S true u i) (λx=>fD S d m b x) tg i x) st
 |.brk,st=>ZE st
 |.raise g e,st=>HJ (λx v=>S.gn[g]?==some x&&vW S x&&aQ S false e v) st
 |.Ea i n e,st=>OI (λo x v=>R8 S i n x&&jC S i o&&aQ S false e v) st
 |.T3 e,st=>R5 (kC e&&R7 S m) (λv=>R7 S m&&aQ S false e v) st
 |.VQ e,st=>Mn (λv=>CD v&&wg v&&yO S e v) st
 |.nK,_=>true
 |.VR i as,st=>yN (λx _ v=>OC S i x&&(!iD m||!(i==0))&&hasB S.M i (.ls (ZF S.M i))&&as.all (λa=>xP (mo d a) (ZF S.M i))&&RB (λes=>gy (S.less i) as es) v) st
 |.T6 i e,st=>Mp (λo p r q v=>decide (p=("append":Str))&&(r.endLine==q.line)&&hasB S.M i (.ls (WM d e))&&jC S i o&&aQ S false e v) st
 |.VU i z w h one n u c e,st=>yN (λx _ v=>OC S i x&&!rD S.M i&&xP (WM d e) w&&aQ (S.lend z) false (.comp h one n u c e) v) st
 |.VV j a b e,st=>R6 (λtg i x=>(match Ub tg with|some (o,l)=>!o&&AI S [a,b] l|none=>false)&&!rD S.M a&&!rD S.M b&&decide (a≠b)&&hasB S.M j (.ls (.t [.f,.s]))&&vY i&&jC S j i&&(cst e).isSome&&o1 (Mp λo p r q v=>decide (p=("append":Str))&&(r.endLine==q.line)&&jC S a o&&aQ S false e v) x) st
 |.T4 _ _,_=>false
noncomputable def fD(S:SE)(c:Nat->Md)(m:Md):List CS->List Stmt->Bool
 |[],es=>es.isEmpty
 |a::as,es=>match a with
  |.T4 d b=>as.isEmpty&&(!iD m||!d.contains 0)&&fD (S.lend d) c m b es
  |a=>HK (λe=>Mq S c m a e) (λes=>fD S c m as es) es
end
structure yP(S:SE)(Φ:Nat->aZ)(Ψ:Nat->Md)(G:Nat->W)(X:Cx):Prop extends XOk S Φ Ψ G X where
 bk:X.env.blockKind=.function
 Ud:∀x,X.fn x=true
 E9:∀j x C,S.gn[j]?=some x->G j=.cls C->sU X.K C
 J5:∀i m m',(i,m)∈S.M->(i,m')∈S.M->m=m'
section
variable{S:SE}{Φ:Nat->aZ}{Ψ:Nat->Md}{G:Nat->W}{X:Cx}
theorem yP.jS(h:yP S Φ Ψ G X):yP S Φ Ψ G X.jS:={toXOk:=h.toXOk.jS,bk:=h.bk,Ud:=h.Ud,E9:=h.E9,J5:=h.J5}
theorem XOk.jn(h:XOk S Φ Ψ G X)(M:Ms):XOk {S with M:=M} Φ Ψ G X:=⟨h.hN,h.nd,h.calm,h.un,h.nk,h.fns,h.Ma,h.Mb,h.J3,h.E8,h.kit⟩
theorem nT(h:yP S Φ Ψ G X){i:Nat}{x:Str}(k:OC S i x=true):gY X i x:=by unfold OC at k;simp only[Bi,td,P3]at k;refine⟨by rw[h.hN];exact k.1,?_,.inl (h.Ud x)⟩;unfold L2.Loc;rw[h.nk];exact k.2
theorem mK(h:yP S Φ Ψ G X):∀{b:List Nat}{a:List Str},AI S b a=true->dN X b a
 |[],a,k=>KM.mp k
 |i::c,[],k=>by cases k
 |i::c,x::r,k=>by rw[AI,Bi]at k;exact⟨x,r,rfl,nT h k.1,mK h k.2⟩
theorem wj{a:List Nat}(h:Mm S a=true):∀i∈a,¬aT S.M i:=λi b=>gM (by simpa using Kb.mp h i b)
theorem yQ{i:Nat}{m:Md}(f:(i,m)∈S.M)(d:∀c,(i,c)∈S.M->c=m){x:Nat×Md}:x∈S.M↔x=(i,m)\/x∈(S.less i).M:=by
 show _↔_\/x∈S.M.filter (·.1 !=i);rw[ar,bne_iff_ne];obtain⟨a,b⟩:=x;constructor
 .intro h;by_cases e:a=i
  .subst e;rw[d b h];exact .inl rfl
  .exact .inr ⟨h,e⟩
 .rintro(e|h)
  .cases e;exact f
  .exact h.1
theorem yR{i:Nat}:¬aT (S.less i).M i:=by rintro⟨m,h⟩;have h:(i,m)∈S.M.filter (·.1 !=i):=h;rw[ar,bne_iff_ne]at h;exact h.2 rfl
noncomputable def CF:Expr->Bool
 |.SetComp _ _ _ _=>false
 |.DictComp _ _ _ _ _=>false
 |_=>true
theorem HL{d:Bool}{c:CE}{e:Expr}(h:aQ S d c e=true):CF e=true:=by
 cases e with
 |SetComp _ _ _ _=>
  cases c with
  |own i b=>rcases(gi h).2 with⟨_,_,_,e⟩|⟨_,_,_,_,_,e⟩<;>cases e
  |Co f a=>exact ff h
  |_=>exact ff h
 |DictComp _ _ _ _ _=>
  cases c with
  |own i b=>rcases(gi h).2 with⟨_,_,_,e⟩|⟨_,_,_,_,_,e⟩<;>cases e
  |Co f a=>exact ff h
  |_=>exact ff h
 |_=>rfl
noncomputable def X5(S:SE)(x:Str)(p:Pos):Expr->Bool
 |.ListComp _ _ scope q=>(S.nk.lookup x==some .local)&&(p.line==q.line)&&!(scope.names.any λ(n,k)=>n==x&&(k==.local||k==.cell))
 |_=>false
theorem OJ(h:yP S Φ Ψ G X){e:Expr}(c:CF e=true)(x:Str)(p:Pos)(l:Nat):swapsWith e (some (.Name x p)) l X.env=pure (X5 S x p e):=by
 cases e with
 |ListComp a b scope q=>show(pure _:Sem Bool)=pure _;rw[h.bk];show(pure (true&&(X.env.scope.names.lookup x==some .local)&&(p.line==q.line)&&_):Sem Bool)=_;rw[h.nk,fc];rfl
 |SetComp _ _ _ _=>exact ff c
 |DictComp _ _ _ _ _=>exact ff c
 |_=>rfl
theorem Mr{e:Expr}{es:List Expr}{k:Nat}{p:Pos}(l:Nat)(env:Env):swapsWithSole [.Tuple es k p] e l env=pure false:=by
 cases e<;>rfl
theorem HM{e o i:Expr}{p:Pos}(l:Nat)(env:Env):swapsWithSole [.Subscript o i p] e l env=pure false:=by
 cases e<;>rfl
theorem Mt{e:Expr}(a:HH e=true)(es:List Expr)(k:Nat)(p:Pos)(env:Env):swappedStores [.Tuple es k p] e env=pure none:=by
 cases e<;>first|rfl|exact ff a
theorem HN{e o i:Expr}{p:Pos}(env:Env):swappedStores [.Subscript o i p] e env=pure none:=by
 cases e<;>rfl
theorem HP(h:yP S Φ Ψ G X){a vs:List Expr}{k k2:Nat}{p p2:Pos}{o:Option (List Str)}(e:Uc S a vs=some o):swappedStores [.Tuple a k p] (.Tuple vs k2 p2) X.env=pure o:=by
 unfold swappedStores;unfold Uc at e;have b:∀x,X.env.kindOf x=S.nk.lookup x:=λx=>h.nk x;simp only[b,h.bk,bne_self_eq_false,de];dsimp only at e;split at e
 .rename_i c
  cases e;exact Bz c
 rename_i c1
 refine(Bn c1).trans ?_;split at e
 .rename_i c
  cases e;exact Bz c
 rename_i c2
 refine(Bn c2).trans ?_;split at e
 .rename_i c
  cases e;exact Bz c
 rename_i c3
 refine(Bn c3).trans ?_;split at e
 .rename_i c
  cases e;exact Bz c
 rename_i c4
 refine(Bn c4).trans ?_;split at e
 .cases e
 rename_i c5
 cases e;exact Bn c5
end
theorem jD{f:List Expr->Expr->Bool}{e:Stmt}(h:Em f e=true):∃a v q,e=.Assign a v q/\f a v=true:=by cases e<;>first|exact⟨_,_,_,rfl,h⟩|exact ff h
theorem Mu{f:Expr->List Stmt->List Stmt->Bool}{e:Stmt}(h:oWh f e=true):∃c a b q,e=.While c a b q/\f c a b=true:=by cases e<;>first|exact⟨_,_,_,_,rfl,h⟩|exact ff h
theorem Mv{f:Expr->Expr->List Stmt->List Stmt->Bool}{e:Stmt}(h:oFr f e=true):∃t i a b q,e=.For t i a b q/\f t i a b=true:=by cases e<;>first|exact⟨_,_,_,_,_,rfl,h⟩|exact ff h
theorem Mw{f:Expr->Bool}{e:Stmt}(h:oRs f e=true):∃x q,e=.Raise (some x) none q/\f x=true:=by
 cases e<;>try exact ff h
 rename_i x y q
 cases x<;>cases y<;>first|exact⟨_,_,rfl,h⟩|exact ff h
theorem rM{f:Expr->Bool}{st:Stmt}(h:Mn f st=true):∃v q,st=.Expr v q/\f v=true:=by cases st<;>first|exact⟨_,_,rfl,h⟩|exact ff h
theorem jY{f:Str->Pos->Expr->Bool}{st:Stmt}(h:yN f st=true):∃x p v q,st=.Assign [.Name x p] v q/\f x p v=true:=by obtain⟨d,v,q,rfl,c⟩:=jD h;obtain⟨t,rfl,b⟩:=fS c;obtain⟨x,p,rfl,a⟩:=Cw b;exact⟨_,_,_,_,rfl,a⟩
theorem En{f:List Expr->Expr->Bool}{st:Stmt}(h:OD f st=true):∃es k p v q,st=.Assign [.Tuple es k p] v q/\f es v=true:=by obtain⟨d,v,q,rfl,c⟩:=jD h;obtain⟨t,rfl,b⟩:=fS c;obtain⟨es,k,p,rfl,a⟩:=gx b;exact⟨_,_,_,_,_,rfl,a⟩
theorem Eo{f:List Expr->List Expr->Bool}{st:Stmt}(h:OE f st=true):∃es k p vs b a q,st=.Assign [.Tuple es k p] (.Tuple vs b a) q/\f es vs=true:=by obtain⟨i,v,q,rfl,g⟩:=jD h;obtain⟨t,rfl,e⟩:=fS g;obtain⟨es,k,p,rfl,d⟩:=gx e;obtain⟨vs,b,a,rfl,c⟩:=gx d;exact⟨_,_,_,_,_,_,_,rfl,c⟩
theorem Ep{f:Expr->Expr->Expr->Bool}{st:Stmt}(h:OG f st=true):∃o k p v q,st=.Assign [.Subscript o k p] v q/\f o k v=true:=by obtain⟨d,v,q,rfl,c⟩:=jD h;obtain⟨t,rfl,b⟩:=fS c;obtain⟨o,k,p,rfl,a⟩:=iG b;exact⟨_,_,_,_,_,rfl,a⟩
theorem rN{f:Expr->Str->Pos->Pos->Expr->Bool}{st:Stmt}(h:Mp f st=true):∃o m c v b q,st=.Expr (.Call (.Attribute o m c) [v] [] b) q/\f o m c b v=true:=by obtain⟨v,q,rfl,n⟩:=rM h;obtain⟨g,s,r,p,rfl,l⟩:=iE n;obtain⟨k,j⟩:=a2 l;obtain⟨e,rfl,i⟩:=fS j;obtain⟨o,m,a,rfl,d⟩:=iF i;rw[KM.mp k];exact⟨_,_,_,_,_,_,rfl,d⟩
theorem yS{n:Bool}{f:Expr->Bool}{st:Stmt}(h:R5 n f st=true):(∃v q,st=.Return (some v) q/\f v=true)\/∃q,st=.Return none q/\n=true:=by
 cases st<;>try exact ff h
 rename_i v q
 cases v
 .exact .inr ⟨_,rfl,h⟩
 .exact .inl ⟨_,_,rfl,h⟩
theorem HQ{f:Expr->List Stmt->List Stmt->Bool}{st:Stmt}(h:WK f st=true):∃c a b q,st=.If c a b q/\f c a b=true:=by
 cases st<;>try exact ff h
 exact⟨_,_,_,_,rfl,h⟩
theorem HR{f:Expr->List Stmt->Bool}{st:Stmt}(h:WL f st=true):∃c a q,st=.While c a [] q/\f c a=true:=by obtain⟨c,a,b,q,rfl,e⟩:=Mu h;obtain⟨k,d⟩:=a2 e;rw[KM.mp k];exact⟨_,_,_,rfl,d⟩
theorem yT{f:Expr->Expr->List Stmt->Bool}{st:Stmt}(h:R6 f st=true):∃tg c a q,st=.For tg c a [] q/\f tg c a=true:=by obtain⟨t,i,a,b,q,rfl,e⟩:=Mv h;obtain⟨k,d⟩:=a2 e;rw[KM.mp k];exact⟨_,_,_,_,rfl,d⟩
theorem AK{f:Str->Expr->Bool}{st:Stmt}(h:HJ f st=true):∃x a e l q,st=.Raise (some (.Call (.Name x a) [e] [] l)) none q/\f x e=true:=by obtain⟨x,q,rfl,j⟩:=Mw h;obtain⟨g,n,m,p,rfl,i⟩:=iE j;obtain⟨k,d⟩:=a2 i;obtain⟨e,rfl,c⟩:=fS d;obtain⟨y,a,rfl,b⟩:=eK c;rw[KM.mp k];exact⟨_,_,_,_,_,rfl,b⟩
section
variable{X:Cx}{M:Ms}{m:Md}{st:Stmt}{i j k:Nat}{e:Expr}{te:(Addr->Prop)->WT}{M':Ms}{m0:Md}
theorem Mx{x y z:Str}{a b c:Expr}{ta:TA}{Q P O R pos:Pos}{S k2 Y}(hc:X.calm=true)(L:X.N.Nodup)(hi:X.N[i]?=some x)(hj:X.N[j]?=some y)(hk:X.N[k]?=some z)(K:i≠j)(J:i≠k)(G:j≠k)
 (U:X.env.scope.names.lookup x=some .local)(T:X.env.scope.names.lookup y=some .local)(hz:X.env.scope.names.lookup z=some .local)(ha:PA X [a,b,c] ta)
 (hw:swappedStores [.Tuple [.Name x Q,.Name y P,.Name z O] S R] (.Tuple [a,b,c] k2 Y) X.env=pure (some [x,y,z])):
 PS X (.Assign [.Tuple [.Name x Q,.Name y P,.Name z O] S R] (.Tuple [a,b,c] k2 Y) pos) (λD f H=>ta f H λvs H1=>∃v w u,vs=[v,w,u]/\D.nx (((f.set i (some v)).set j (some w)).set k (some u)) H1):=by
 intro d s f H D I h;rw[exec_Assign_arm];refine KB (yA ?_);refine KB (Qb ?_);rw[Bn (by decide)];refine KB (Tuple_ (cI (ha _ d s f H _ I h) λus r ⟨vs,H1,I1,r1,B⟩=>?_));obtain⟨v,w,u,e1,B⟩:=B;subst e1;obtain⟨n,l,g,rfl,rv,t,ru⟩:∃n l g,us=[n,l,g]/\RelV v n/\RelV w l/\RelV u g:=by
  cases r1 with
  |cons p q=>
   cases q with
   |cons p' q'=>
    cases q' with
    |cons E C=>
     cases C;exact⟨_,_,_,rfl,p,p',E⟩
 refine wpAny_newObj_type ?_ (by show 3<=sizeLine;decide);have I2:Inv X d f H1 {r with heap:=r.heap.push {cls:=.type "tuple",data:=.seq [n,l,g].toArray}}:=I1.kept (t':=r.toks) λb o e=>Fk _ e;rw[hw];refine KB (Qb ?_);show wpAny (model X.prog X.w) X.A (do rule "assign.swapped-stores";let items<-unpackItems (.ref r.heap.objs.size) 3 none;assignInOrder [λv=>bindName X.env z v,λv=>bindName X.env y v,λv=>bindName X.env x v] items.reverse;pure Flow.next) _ _ _;refine KB (wpAny_rule (KB (unpackItems_tuple (items:= #[n,l,g]) (I.ok.hd hc) (IsTup.new r.heap _) λh' F=>?_)));have I3:=I2.kept (h':=h') (t':=r.toks) λb o e=>F b o (Os (GT e)) e;show wpAny _ _ (assignInOrder [λv=>bindName X.env z v,λv=>bindName X.env y v,λv=>bindName X.env x v] [g,l,n]>>=λ_=>pure Flow.next) _ _ _;refine KB (kz (wy (eW I3 L hk (.inl hz) ru (λs2 I4=>?_) (.inr hz))));refine kz (wy (eW I4 L hj (.inl T) t (λs3 I5=>?_) (.inr T)));refine kz (wy (eW I5 L hi (.inl U) rv (λs4 Z=>assignInOrder_nil (Qb ?_)) (.inr U)));have e6:((f.set k (some u)).set j (some w)).set i (some v)=((f.set i (some v)).set j (some w)).set k (some u):=by rw[lh _ _ (T2 G),lh _ _ (T2 J),lh _ _ (T2 K)]
 rw[e6]at Z;exact⟨_,H1,Z,B⟩
theorem My(c:∀R,PS X st (qm (tV X M R (QJ X.K .s) (te R)) (gJ i)))(n:¬aT M i):VS X M m st (λd b=>te d.ex b λw=>d.nx (b.set i (some w))):=by rintro a s f H D I ⟨A,q,b,d,S,o,hz,h,k⟩;refine c d.ex a s f H D I ⟨A,q,b,_,S,o,h,λw v p l g r=>?_⟩;exact k.nx A _ _ p rfl rfl l ((S.same g).set n r.b7)
theorem yU(c:∀R,PS X st (qm (tV X M' R (QJ X.K m0) (te R)) (gJ i)))(g:∀x,x∈M↔x=(i,m0)\/x∈M')(C:¬aT M' i)(f:iD m=true->i≠0):VS X M m st (λd b=>te d.ex b λw=>d.nx (b.set i (some w))):=by
 rintro a s p H D I ⟨A,P,b,d,S,G,hz,h,k⟩;have F:∀v,A.s0=some v->A.s0=some v/\aT M' 0:=λv e=>by
  refine⟨e,?_⟩;have B:iD m=true:=by rw[<-hz,e];rfl
  obtain⟨t,E⟩:=(S.sl v e).2;rcases(g _).mp E with z|z
  .cases z;exact(f B rfl).elim
  .exact⟨t,z⟩
 obtain⟨T,L,J,U,o⟩:=S.sub (M':=M') (λx u=>(g x).mpr (.inr u)) A.s0 F;refine c d.ex a s p H D I ⟨T,P,b,_,o,G,h,λw v O y q r=>?_⟩;obtain⟨Q,n,l,_,N⟩:=o.own g C q r;exact k.nx Q _ _ O (n.trans L) (l.trans J) y N
theorem Mz{pos:Pos}:VS X M .s (.Return none pos) (λd c=>d.rt .aW):=by rintro a s b H D I ⟨A,g,c,d,S,f,hz,h,k⟩;exact Bx a s b H D I (k.rt _ _ H h S.sm (.of rfl (.of (by dsimp only[Rep]))))
theorem HS{x:Str}{C:Addr}{p b pos:Pos}(F:X.calm=true)(y:Gl X x)(u:X.mg x=some (.ref C))(q:sU X.K C)(z:∀R,VE X M R .s e (te R))(f:starEach [e] X.env=[(false,eval e X.env)])(B:(x==("__debug__":Str))=false):
 VS X M m (.Raise (some (.Call (.Name x p) [e] [] b)) none pos) (λd c=>te d.ex c λ_=>d.ex C):=by
 rintro a s l H D I ⟨A,J,c,d,S,⟨E,o,G,g⟩,hz,h,k⟩;exact F5 g F y u q (aF (z d.ex) bF f) f B a s l H D I ⟨A,J,c,_,S,⟨E,o,G,g⟩,h,λw v L t n r=>⟨by show 1<=sizeLine;decide,t,S.sm.trans n⟩⟩
end
theorem Er{f:Expr->Str->List Expr->Bool}{e:Expr}(h:OH f e=true):∃o m a es c,e=.Call (.Attribute o m a) es [] c/\f o m es=true/\(a.endLine==c.line)=true/\es.length<30:=by obtain⟨g,es,l,p,rfl,j⟩:=iE h;obtain⟨k,i⟩:=a2 j;obtain⟨o,m,a,rfl,d⟩:=iF i;rw[KM.mp k];have b:=a3 d;exact⟨_,_,_,_,_,rfl,b.2,b.1.1,Do b.1.2⟩
theorem Es{y x:Str}{b a pos:Pos}{es:List Expr}{env:Env}(d:(backTo pos (starEach es env)).any (·.1)=false)(g:es.length<30)(c:(a.endLine==pos.line)=true):
 eval (.Call (.Attribute (.Name y b) x a) es [] pos) env=(do
  let ov<-eval (.Name y b) env
  standAt a.atName
  let(f,first)<-holding [ov] (getMethod ov x (do return (<-importBound (.Name y b) env).getD true))
  callWith pos f first (backTo pos (starEach es env)) (backToKw pos (keywordEach [] env))):=by
 have i:methodCallForm (es.length+([]:List Keyword).length) (backTo pos (starEach es env)) (backToKw pos (keywordEach [] env))=true:=by
  unfold methodCallForm;have h:(backTo pos (starEach es env)).all (λx=>!x.1)=true:=by rw[Kb];intro z hz;rw[dq]at d;simpa using d z hz
  rw[h];show(true&&true&&decide (es.length+0+0<30))=true;simpa using g
 have e:methodCallPos true (.Name y b) env a pos=pure pos:=by unfold methodCallPos;simp[c]
 rw[arm_eval_Call,show attributeBase (.Name y b) x env (eval (.Name y b) env)=eval (.Name y b) env from rfl];unfold methodCall;rw[i,e];rfl
theorem Et{f:Expr->Str->Expr->Bool}{st:Stmt}(h:OI f st=true):∃o x p v q,st=.Assign [.Attribute o x p] v q/\f o x v=true:=by obtain⟨d,v,q,rfl,c⟩:=jD h;obtain⟨t,rfl,b⟩:=fS c;obtain⟨o,x,p,rfl,a⟩:=iF b;exact⟨_,_,_,_,_,rfl,a⟩
noncomputable def Eu(X:Cx)(M:Ms)(R:Addr->Prop)(g:List Md)(t:Ev->(List W->Prop)->Prop):TA:=λf H Q=>∃A e b P,SR X.K M A e f H b/\ER X e R/\t b P/\∀c d a F,P c->aE H a->F.Nodup->(∀p∈F,H p=none)->fk X.K (λq=>A.B q\/q∈F) a g c d F->Q d a
section
variable{X:Cx}{M:Ms}{R:Addr->Prop}{a:Expr}{es:List Expr}{ta:WT}{m:Md}{ms:List Md}{pos:Pos}
theorem MA:PA X [] (Eu X M R [] λ_ Q=>Q []):=PA.imp bF<|by rintro b H Q ⟨A,e,c,P,S,d,h,k⟩;exact k [] [] H [] h (aE.refl H) ub (by simp) (by dsimp only[fk];exact⟨rfl,rfl,rfl⟩)
theorem HU{r:Ev->(List W->Prop)->Prop}(I:starEach (a::es) X.env=(false,eval a X.env)::starEach es X.env)(K:VE X M R m a ta)(J:PA X es (Eu X M R ms r)):PA X (a::es) (Eu X M R (m::ms) λc Q=>ta c λx=>r c λf=>Q (x::f)):=
 PA.imp (aF K J I)<|by
  rintro T H Q ⟨A,w,c,P,S,v,h,k⟩;refine⟨A,w,c,_,S,v,h,λx y O E g C=>?_⟩;obtain⟨G,D,t,u⟩:=C;have d:∀q∈G,∃o,O q=some o:=λq l=>let⟨o,e,_⟩:=Fp.mu m u q l;⟨o,e⟩
  refine⟨_,w,c,_,S.more g t d,v,E,λf B N F j s i n L=>?_⟩;refine k _ _ N (G++F) j (g.trans s) ?_ (λp b=>?_) ?_
  .refine vw.mpr ⟨D,i,λp b q l e=>?_⟩;subst e;obtain⟨o,e⟩:=d p b;rw[n p l]at e;cases e
  .rcases Hb.mp b with b|b
   .exact t p b
   .exact g.free (n p b)
  .refine⟨x,f,y,B,G,F,rfl,rfl,rfl,Fp.mv s (λp o e z=>?_) m u,fk.mv (aE.refl _) (λp o e z=>?_) ms L⟩
   .rcases z with z|z
    .exact .inl z
    .rcases Hb.mp z with z|z
     .exact .inr z
     .rw[n p z]at e;cases e
   .rcases z with z|z
    .exact .inl (.inl z)
    .rcases Hb.mp z with z|z
     .exact .inl (.inr z)
     .exact .inr z
theorem MC{e:Ev->(List W->Prop)->Prop}{j:Nat}(h:PA X es (Eu X M R ms e)):VE X M R (.t ms) (.Tuple es j pos) (λd Q=>e d λb=>b.length<=sizeLine/\Q (.tup b)):=PE.imp (FG h)<|by
 rintro E H Q ⟨A,D,d,P,S,y,h,k⟩;refine⟨A,D,d,_,S,y,h,λb c C F g n q o i=>?_⟩;have u:∀(ms:List Md){b:List W}{c:List V}{F:List Addr}{B:Addr->Prop},fk X.K B C ms b c F->c.length=b.length:=λms=>by
  induction ms with
  |nil=>intro b c F B h;dsimp only[fk]at h;rw[h.1,h.2.1];rfl
  |cons m ms r=>intro b c F B h;obtain⟨w,G,v,l,J,I,rfl,rfl,_,_,x⟩:=h;rw[CY,CY,r x]
 refine⟨by rw[u ms i];exact g.1,λp s=>?_⟩;have f:=aL s (.tup c);refine k _ _ _ g.2 (n.trans f) ⟨F,q,o,?_⟩;exact⟨b,p,c,rfl,rfl,aA,fk.mv f (λ_ _ _ z=>z) ms i⟩
theorem MD{D:Ev->(List W->Prop)->Prop}(h:PA X es (Eu X M R ms D))(l:∀x∈ms,x=m):VE X M R (.ls m) (.List es pos) (λr Q=>D r λb=>b.length<=sizeLine/\Q (.lst b)):=PE.imp (qu h)<|by
 rintro σ H Q ⟨A,Z,r,P,S,Y,h,k⟩;refine⟨A,Z,r,_,S,Y,h,λb c n F j G N L g=>?_⟩;have T:∀(ms:List Md){b:List W}{c:List V}{F:List Addr}{B:Addr->Prop},(∀x∈ms,x=m)->fk X.K B n ms b c F->fR (Fp X.K B n m) b c F:=λms=>by
  induction ms with
  |nil=>intro b c F B _ h;dsimp only[fk]at h;rw[h.1];exact h.2
  |cons O ms s=>intro b c F B l h;obtain⟨w,jx,v,f,I,C,rfl,rfl,e,y,u⟩:=h;cases l O FC;exact⟨v,f,I,C,rfl,e,y,s (λx j=>l x (Ee _ j)) u⟩
 have g:=T ms l g;refine⟨by rw[g.len];exact j.1,λp d=>?_⟩;have E:=aL d (.lst c);have J:p∉F:=λz=>by
  have U:∀(b:List W)(c:List V)(i:List Addr),fR (Fp X.K (λq=>A.B q\/q∈F) n m) b c i->∀p∈i,∃o,n p=some o:=λb=>by
   induction b with
   |nil=>rintro c i ⟨_,rfl⟩ p d;cases d
   |cons w b s=>
    rintro c i ⟨v,f,I,C,rfl,rfl,y,u⟩ p d;rcases Hb.mp d with d|d
    .obtain⟨o,e,_⟩:=Fp.mu m y p d;exact⟨o,e⟩
    .exact s f C u p d
  obtain⟨o,e⟩:=U b c F g p z;rw[d]at e;cases e
 refine k _ _ _ j.2 (G.trans E) ⟨p::F,Pm.mpr ⟨J,N⟩,λq t=>?_,?_⟩
 .rcases Fn.mp t with rfl|t
  .exact G.free d
  .exact L q t
 .refine⟨b,p,c,F,rfl,rfl,rfl,aA,g.mono λw v i _ z=>Fp.mv E (λq o e z=>?_) m z⟩;rcases z with z|z
  .exact .inl z
  .rcases Fn.mp z with rfl|z
   .rw[d]at e;cases e
   .exact .inr z
end
noncomputable def fZ(b:Nat->aZ)(a:Nat->Md)(G:Nat->W)(s:CS):Prop:=∀{S:SE}{X:Cx}{m:Md},yP S b a G X->∀c,Mq S a m s c=true->VS X S.M m c (wS b G s)
noncomputable def kD(b:Nat->aZ)(a:Nat->Md)(G:Nat->W)(s:List CS):Prop:=∀{S:SE}{X:Cx}{m:Md},yP S b a G X->∀c,fD S a m s c=true->Hq X S.M m c (wSs b G s)
section
variable{Φ:Nat->aZ}{Ψ:Nat->Md}{G:Nat->W}
theorem yP.jn{S:SE}{X:Cx}(h:yP S Φ Ψ G X)(M:Ms)(b:∀i m a,(i,m)∈M->(i,a)∈M->m=a):yP {S with M:=M} Φ Ψ G X:={toXOk:=h.toXOk.jn M,bk:=h.bk,Ud:=h.Ud,E9:=h.E9,J5:=b}
theorem HV{S:SE}{X:Cx}(b:XOk S Φ Ψ G X){f:Nat}{as:List CE}{v:Expr}(k:aQ S false (.call f as) v=true)(R:Addr->Prop):VE X S.M R (Ψ f) v (wE Φ G R (.call f as))/\∃g es p,v=.Call g es [] p:=by
 obtain⟨x,q,es,p,rfl,h⟩:=cA k;simp only[Bi]at h;obtain⟨⟨⟨⟨⟨r,o⟩,m⟩,d⟩,l⟩,i⟩:=h;obtain⟨A,z,C⟩:=fy b o;obtain⟨B,n,j,y,F,s,u⟩:=b.fns f x (P3.mp r) (by simpa using l);have F:d7 X.prog X.w X.K X.mg X.base j B n (T9 X.K n (Ψ f) (Φ f)):=by rw[<-b.Mb]at d;cases t:Ψ f<;>rw[t]at d F<;>first|exact F|exact ff d
 have c:=nS i;cases es with
 |nil=>exact ff m
 |cons e es=>rw[J9,Bi]at c;refine⟨?_,_,_,_,rfl⟩;exact Ct (M:=S.M) (R:=R) (p:=q) (pos:=p) F s A y u ((oZ Φ Ψ G as).1.a b _ i R) z (aU c.1 _ _) (gA c.2 _ _)
theorem AL{S:SE}{X:Cx}(b:XOk S Φ Ψ G X):∀(as:List CE)(es:List Expr),gy S as es=true->∀R,PA X es (Eu X S.M R (as.map (mo Ψ)) (wA Φ G R as))
 |[],es,k,R=>by rw[KM.mp k];exact MA
 |a::as,[],k,R=>by cases k
 |a::as,e::es,k,R=>by have k:=a2 k;exact HU (aU (bO (.inl k.1)) _ _) ((snd Φ Ψ G a).e b e k.1 R) (AL b as es k.2 R)
theorem AM{S:SE}{X:Cx}(a:XOk S Φ Ψ G X){e:CE}{v:Expr}(k:aQ S false e v=true)(R:Addr->Prop):VE X S.M R (WM Ψ e) v (wE Φ G R e):=by
 cases e with
 |tup b=>obtain⟨c,d,p,rfl,k⟩:=gx k;exact MC (AL a b c k R)
 |call f b=>exact(HV a k R).1
 |_=>exact(snd Φ Ψ G _).e a v k R
theorem AO{e:CE}(h:isCall e=true):∃f as,e=.call f as:=by cases e<;>first|exact⟨_,_,rfl⟩|exact ff h
theorem uJ{e:CE}(h:kC e=true):e=.aW:=by cases e<;>first|rfl|exact ff h
theorem Ex{e:CE}{i:Nat}(h:isVar e=some i):e=.var i:=by cases e<;>first|(cases h;rfl)|exact nn h
theorem ME{S:SE}{x:Str}{p:Pos}{v:Expr}(h:X5 S x p v=true):∃a b c d,v=.ListComp a b c d:=by cases v<;>first|exact⟨_,_,_,_,rfl⟩|exact ff h
theorem R9{S:SE}{e:CE}{a:Expr}{b:List Comprehension}{c:Scope}{d:Pos}(k:aQ S false e (.ListComp a b c d)=true):∃f one n i c x,e=.comp f one n i c x:=by
 cases e with
 |comp f one n i c x=>exact⟨_,_,_,_,_,_,rfl⟩
 |own i g=>rcases(gi k).2 with⟨_,_,_,e⟩|⟨_,_,_,_,_,e⟩<;>cases e
 |_=>exact ff k
theorem CG{S:SE}{X:Cx}(d:yP S Φ Ψ G X){i:Nat}{x:Str}{p q:Pos}{e:CE}{v:Expr}(O:OC S i x=true)(k:aQ S false e v=true)(R:Addr->Prop):
 PS X (.Assign [.Name x p] v q) (qm (tV X S.M R (QJ X.K (mo Ψ e)) (wE Φ G R e)) (gJ i)):=by
 have n:=nT d O;have a:=OJ d (HL k) x p q.line;cases m:X5 S x p v with
 |false=>rw[m]at a;exact iO d.nd n.1 n.2.1 ((snd Φ Ψ G e).e d.toXOk v k R) a n.2.2
 |true=>rw[m]at a;obtain⟨Q,gs,h,pp,rfl⟩:=ME m;obtain⟨Z,one,n',B,c,y,rfl⟩:=R9 k;obtain⟨t,tg,r,E,f,p',o,T,rfl,j,L,l,U,J⟩:=i6 (snd Φ Ψ G B) (snd Φ Ψ G c) (snd Φ Ψ G y) d.toXOk k R;cases T;rw[oY rfl,CC];intro b s g H D I F;obtain⟨A,z,w⟩:=J b s g H I;exact BO o (mask o S.N) d.nd n.1 n.2.1 d.calm L U A z (λC u Y P=>(w C u Y P).2) a l n.2.2 b s g H D I (yG j g H _ F)
theorem Sa(i:Nat)(e:CE):fZ Φ Ψ G (.set i e):=by
 intro S X m l st k;obtain⟨x,p,v,q,rfl,h⟩:=jY k;rw[Bi]at h;by_cases y:rD S.M i=true
 .rw[Bz y]at h;simp only[Bi]at h;obtain⟨F,⟨E,d⟩,C⟩:=h;have u:iD m=true->i≠0:=λz e=>by rw[z,e]at E;cases E
  have L:∀{t:Md},(i,t)∈S.M->(∀R,PS X (.Assign [.Name x p] v q) (qm (tV X (S.less i).M R (QJ X.K t) (wE Φ G R e)) (gJ i)))->VS X S.M m (.Assign [.Name x p] v q) (λD o=>wE Φ G D.ex e o λw=>D.nx (o.set i (some w))):=λ{t} I N=>yU (M':=(S.less i).M) (te:=λR=>wE Φ G R e) N (λj=>yQ I (λm' Q=>l.J5 i _ _ Q I)) yR u;have J:yP (S.less i) Φ Ψ G X:=l.jn (S.less i).M λa b c B O=>l.J5 a b c (ar.mp B).1 (ar.mp O).1;rcases iH d with d|d
  .rw[Bi]at d;refine L (p7 d.1) λR=>?_;have:=CG J (p:=p) (q:=q) F C R;rw[oY d.2]at this;exact this
  .rw[Bi]at d;refine L (gO d.2) λR=>?_;obtain⟨f,as,rfl⟩:=AO d.1;obtain⟨B,g,es,pp,rfl⟩:=HV J.toXOk C R;have n:=nT l F;exact iO l.nd n.1 n.2.1 B rfl n.2.2
 .rw[Bn y]at h;refine My (te:=λR=>wE Φ G R e) (λR=>?_) (gM (by simpa using y));refine PS.imp (CG l (p:=p) (q:=q) h.1 h.2 R)<|by rintro D Z H ⟨A,U,o,P,S,T,p,k⟩;exact⟨A,U,o,P,S,T,p,λw v Y pw s r=>k w v Y pw s (r.s S.dom)⟩
theorem Sb(f:List Nat)(e:CE):fZ Φ Ψ G (.D9 f e):=by
 intro S X m b w k;obtain⟨j,h,p,v,q,rfl,g⟩:=En k;simp only[Bi]at g;obtain⟨⟨⟨c,i⟩,n⟩,a⟩:=g;split at c;rotate_left
 .cases c
 rename_i xs hxs
 have r:PG X (.Tuple j h p) (gT X.K false f):=Mh b.calm b.nd (by dsimp only[Ub];rw[hxs];rfl) (mK b c);have d:swappedStores [.Tuple j h p] v X.env=pure none:=by
  rcases iH a with a|a
  .exact Mt a _ _ _ _
  .obtain⟨t,i,x,rfl,l⟩:=gx a;exact HP b (Do l)
 exact Rb (te:=λR=>wE Φ G R e) (λ{u} o=>Fv o r (Mr _ _) d rfl) (wj i) λR=>(snd Φ Ψ G e).s b.toXOk n R
theorem rO{X:Cx}{a:List Nat}{x:Str}{b:List Str}(h:dN X a (x::b)):∃i r,a=i::r/\gY X i x/\dN X r b:=by
 cases a with
 |nil=>cases h
 |cons i r=>obtain⟨_,_,e,d,c⟩:=h;cases e;exact⟨i,r,rfl,d,c⟩
theorem MF{X:Cx}{a:List Nat}(h:dN X a []):a=[]:=by
 cases a with
 |nil=>rfl
 |cons i r=>obtain⟨_,_,e,_⟩:=h;cases e
theorem CH{X:Cx}{a:List Nat}{x y:Str}(h:dN X a [x,y]):∃i j,a=[i,j]/\gY X i x/\gY X j y:=by obtain⟨i,r,rfl,e,d⟩:=rO h;obtain⟨j,r,rfl,c,b⟩:=rO d;cases MF b;exact⟨i,j,rfl,e,c⟩
theorem Ey{X:Cx}{a:List Nat}{x y z:Str}(h:dN X a [x,y,z]):∃i j k,a=[i,j,k]/\gY X i x/\gY X j y/\gY X k z:=by obtain⟨i,r,rfl,e,d⟩:=rO h;obtain⟨j,k,rfl,c,b⟩:=CH d;exact⟨i,j,k,rfl,e,c,b⟩
theorem AD{α:Type}{l:List α}(h:l.length=2):∃a b,l=[a,b]:=by rcases l with _|⟨a,_|⟨b,_|_⟩⟩<;>first|exact⟨_,_,rfl⟩|(simp at h;done)
theorem Sd{α:Type}{l:List α}(h:l.length=3):∃a b c,l=[a,b,c]:=by
 cases l with
 |nil=>cases h
 |cons a l=>obtain⟨b,c,rfl⟩:=AD (xf h);exact⟨_,_,_,rfl⟩
theorem mL{es:List Expr}{x:Str}{b:List Str}(h:E7 es=some (x::b)):∃p r,es=.Name x p::r/\E7 r=some b:=by
 cases es with
 |nil=>cases h
 |cons e es=>
  cases e with
  |Name a p=>obtain⟨l,c,e⟩:=PH.mp h;cases e;exact⟨_,_,rfl,c⟩
  |_=>exact nn h
theorem CJ{es:List Expr}(h:E7 es=some []):es=[]:=by
 cases es with
 |nil=>rfl
 |cons e es=>
  cases e with
  |Name a p=>obtain⟨l,b,e⟩:=PH.mp h;cases e
  |_=>exact nn h
theorem CK{es:List Expr}{x y:Str}(h:E7 es=some [x,y]):∃p q,es=[.Name x p,.Name y q]:=by obtain⟨p,r,rfl,b⟩:=mL h;obtain⟨q,r,rfl,a⟩:=mL b;rw[CJ a];exact⟨_,_,rfl⟩
theorem Ez{es:List Expr}{x y z:Str}(h:E7 es=some [x,y,z]):∃p q r,es=[.Name x p,.Name y q,.Name z r]:=by obtain⟨p,r,rfl,a⟩:=mL h;obtain⟨q,s,rfl⟩:=CK a;exact⟨_,_,_,rfl⟩
theorem MG{S:SE}{a vs:List Expr}{b:List Str}(h:Uc S a vs=some (some b)):(a.length=2\/a.length=3)/\vs.length=a.length:=by
 unfold Uc at h;split at h
 .cases h
 .rename_i c
  simp only[td,pk,bne_iff_ne,not_or,Bool.not_eq_false,P3,ne_eq,lA]at c;exact c
theorem CL{es:List Expr}{a:List Str}(h:E7 es=some a):es.length=a.length:=by
 induction a generalizing es with
 |nil=>rw[CJ h];rfl
 |cons x a b=>obtain⟨p,r,rfl,c⟩:=mL h;rw[CY,CY,b c]
theorem Se(U:List Nat)(es:List CE):fZ Φ Ψ G (.par U es):=by
 intro S X m o st k;obtain⟨tg,kd,p,f,L,Z,q,rfl,A⟩:=Eo k;simp only[Bi]at A;obtain⟨⟨C,k2⟩,k3⟩:=A;split at C;rotate_left
 .cases C
 rename_i xs hxs
 simp only[Bi]at C;obtain⟨⟨⟨C,I⟩,B⟩,k6⟩:=C;have I:=Do I;have B:=Do B;obtain⟨r,P⟩:=MG I;have O:=HP o (k:=kd) (k2:=L) (p:=p) (p2:=Z) I;have d:∀x∈xs,X.env.scope.names.lookup x=some .local:=λx hx=>by rw[o.nk];exact P3.mp (Kb.mp k6 x hx)
 have Q:=mK o C;refine Rc (ta:=λR=>wA Φ G R es) (λ{tv} T=>?_) (wj k2) λR=>(oZ Φ Ψ G es).1.a o.toXOk f k3 R;have J:∀{a b:Nat}{x y:Str},x≠y->X.N[a]?=some x->X.N[b]?=some y->a≠b:=λn E g e=>by rw[e,g]at E;exact n (Kk E).symm
 rcases r with r|r
 .obtain⟨x,y,rfl⟩:=AD ((CL hxs).symm.trans r);obtain⟨Y,p2,rfl⟩:=CK hxs;obtain⟨i,j,rfl,t,s⟩:=CH Q;obtain⟨a,b,rfl⟩:=AD (P.trans r);refine PS.imp (Pu o.calm o.nd t.1 s.1 (J (by simpa using B) t.1 s.1) (d x (by simp)) (d y (by simp)) T O) λD F H h=>?_;have e:(λ(f:List V) l=>f.length=[i,j].length/\D.nx (cG F [i,j] f) l)=λf l=>∃v w,f=[v,w]/\D.nx ((F.set i (some v)).set j (some w)) l:=by
   funext f l;refine propext ⟨?_,?_⟩
   .rintro⟨E,g⟩;obtain⟨v,w,rfl⟩:=AD E;exact⟨v,w,rfl,g⟩
   .rintro⟨v,w,rfl,g⟩;exact⟨rfl,g⟩
  rw[e]at h;exact h
 .obtain⟨x,y,z,rfl⟩:=Sd ((CL hxs).symm.trans r);obtain⟨Y,p2,p3,rfl⟩:=Ez hxs;obtain⟨i,j,A,rfl,t,s,K⟩:=Ey Q;obtain⟨a,b,c,rfl⟩:=Sd (P.trans r);have M:(x≠y/\x≠z)/\y≠z:=by simp only[Pm,Fn,dt,wx,not_or]at B;exact⟨B.1,B.2.1⟩
  refine PS.imp (Mx o.calm o.nd t.1 s.1 K.1 (J M.1.1 t.1 s.1) (J M.1.2 t.1 K.1) (J M.2 s.1 K.1) (d x (by simp)) (d y (by simp)) (d z (by simp)) T O) λD F H h=>?_;have e:(λ(f:List V) l=>f.length=[i,j,A].length/\D.nx (cG F [i,j,A] f) l)=λf l=>∃v w u,f=[v,w,u]/\D.nx (((F.set i (some v)).set j (some w)).set A (some u)) l:=by
   funext f l;refine propext ⟨?_,?_⟩
   .rintro⟨E,g⟩;obtain⟨v,w,u,rfl⟩:=Sd E;exact⟨v,w,u,rfl,g⟩
   .rintro⟨v,w,u,rfl,g⟩;exact⟨rfl,g⟩
  rw[e]at h;exact h
theorem mO{S:SE}{i:Nat}{o:Expr}(h:jC S i o=true)(nm:Str)(env:Env):attributeBase o nm env (eval o env)=eval o env:=by
 cases o with
 |Name x p=>rfl
 |_=>exact ff h
theorem Sh(i:Nat)(e:CE):fZ Φ Ψ G (.app i e):=by intro S X m g p k;obtain⟨o,r,u,v,t,q,rfl,c⟩:=rN k;simp only[Bi]at c;obtain⟨⟨⟨⟨a,j⟩,h⟩,f⟩,d⟩:=c;have a:=Do a;subst a;have b:=aU (bO (.inl d)) [] X.env;refine Rg (te:=λR=>wE Φ G R e) (λ{n} l=>?_) (p7 h) λR=>(snd Φ Ψ G e).s g.toXOk d R;exact lP (FP mf wt wd jU (eN g.toXOk f) (aF l bF b) (mO f _ _) (by rw[b];rfl) j b rfl) rfl
theorem Si(i:Nat)(a e:CE):fZ Φ Ψ G (.put i a e):=by
 intro S X m b y k;obtain⟨o,j,p,v,q,rfl,c⟩:=Ep k;simp only[Bi]at c;obtain⟨⟨⟨⟨l,h⟩,g⟩,f⟩,d⟩:=c;have t:∀u,assign (.Subscript o j p) X.env u=(do
  let ov<-holding [u] (eval o X.env)
  let iv<-holding [u,ov] (eval j X.env)
  standAt p
  holding [u,ov,iv] (setItem ov iv u)
  release [u,ov,iv] []):=by
  intro u;cases j with
  |Slice _ _ _ _=>exact ff g
  |_=>rfl
 refine Ri (te:=λR=>wE Φ G R e) (t1:=λR=>wE Φ G R a) (λ{w x} n r=>?_) (p7 l) (λR=>(snd Φ Ψ G e).s b.toXOk d R) λR=>(snd Φ Ψ G a).s b.toXOk f R;exact Fv (pos:=q) n (Pp (eN b.toXOk h) r set_list t) (HM _ _) (HN _) rfl
theorem Sj{c:List (Nat×Nat)}{f g:Nat}(h:c.any (λy=>y.1==f&&y.2==g)=true):(f,g)∈c:=by obtain⟨⟨a,b⟩,d,e⟩:=Vv.mp h;rw[Bi]at e;cases P3.mp e.1;cases P3.mp e.2;exact d
theorem cM{S:SE}{X:Cx}(b:XOk S Φ Ψ G X)(R:Addr->Prop){c:CE}{v:Expr}(e:yO S c v=aQ S false c v)(d:wP Φ G R c=λa Q=>wE Φ G R c a λw=>Q w a)(k:yO S c v=true):VP X S.M R v (wP Φ G R c):=by rw[e]at k;rw[d];exact Wm ((snd Φ Ψ G c).s b k R)
theorem mP{S:SE}{X:Cx}(d:XOk S Φ Ψ G X)(R:Addr->Prop):∀(e:CE)(v:Expr),yO S e v=true->VP X S.M R v (wP Φ G R e)
 |.pop i,v,k=>by obtain⟨o,U,N,cp,rfl,q⟩:=kT k;simp only[Bi]at q;obtain⟨⟨⟨j,t⟩,h⟩,s⟩:=q;have j:=Do j;subst j;exact Rn (p7 h) (eN d s) (mO s _ _) t
 |.Lr i g f m,v,k=>by
  obtain⟨o,x,N,es,p,rfl,q,w,u⟩:=Er k;simp only[Bi]at q;obtain⟨⟨⟨⟨⟨j,t⟩,h⟩,s⟩,E⟩,H⟩:=q;obtain⟨fa,fd,T,n,Y,L,K,F,I,J⟩:=d.Ma f g x (P3.mp j) (Sj t);rw[<-d.Mb]at h;cases o with
  |Name y Q=>
   cases z:Ψ f with
   |io D=>
    rw[z]at h F;cases D with
    |o A C=>
     have h:(hasB S.M i (.o A C)&&!A.contains x)=true:=h;rw[Bi]at h;cases m with
     |nil=>have:es=[]:=KM.mp H;subst this;exact LY (G:=G g) L F I K (gO h.1) (by simpa using h.2) J (eN d s) (Es (gA (es:=[]) rfl _ _) u w)
     |cons a m=>exact ff E
    |_=>exact ff h
   |_=>rw[z]at h;exact ff h
  |_=>exact ff s
 |.bin B a b,v,k=>by obtain⟨l,o,r,p,rfl,q⟩:=nR k;simp only[Bi]at q;obtain⟨⟨j,t⟩,h⟩:=q;have j:=Do j;subst j;exact Ro (mP d R a l t) (mP d R b r h)
 |.cmp B a b,v,k=>cM d R rfl rfl k
 |.call f m,v,k=>cM d R rfl rfl k
 |.blt b m,v,k=>cM d R rfl rfl k
 |.ix a b,v,k=>cM d R rfl rfl k
 |.and m,v,k=>cM d R rfl rfl k
 |.var i,v,k=>cM d R rfl rfl k
 |.int i,v,k=>cM d R rfl rfl k
 |.bl i,v,k=>cM d R rfl rfl k
 |.str i,v,k=>cM d R rfl rfl k
 |.aW,v,k=>cM d R rfl rfl k
 |.As n,v,k=>cM d R rfl rfl k
 |.glob g,v,k=>cM d R rfl rfl k
 |.neg a,v,k=>cM d R rfl rfl k
 |.not a,v,k=>cM d R rfl rfl k
 |.or m,v,k=>cM d R rfl rfl k
 |.tup m,v,k=>cM d R rfl rfl k
 |.lst m,v,k=>cM d R rfl rfl k
 |.sl a b c,v,k=>cM d R rfl rfl k
 |.bits a,v,k=>cM d R rfl rfl k
 |.comp P one n i c x,v,k=>cM d R rfl rfl k
 |.jP m,v,k=>cM d R rfl rfl k
 |.uE a,v,k=>cM d R rfl rfl k
 |.own i O,v,k=>cM d R rfl rfl k
 |.Co Z a,v,k=>cM d R rfl rfl k
theorem wk{v:Expr}(a:CF v=true)(b:CD v=true)(t:Option Expr)(l:Nat)(env:Env):swapsWith v t l env=pure false:=by
 cases v with
 |ListComp _ _ _ _=>exact ff b
 |SetComp _ _ _ _=>exact ff a
 |DictComp _ _ _ _ _=>exact ff a
 |_=>rfl
theorem ZH{v:Expr}(h:wg v=true):CF v=true:=by cases v<;>first|rfl|exact ff h
theorem MH(i:Nat):fZ Φ Ψ G (.drop i):=by intro S X m e f k;obtain⟨v,q,rfl,a⟩:=rM k;simp only[Bi]at a;obtain⟨⟨d,c⟩,b⟩:=a;exact Cu (tt:=λR=>wP Φ G R (.pop i)) λR=>lP (mP e.toXOk R _ v b) (wk (ZH c) d _ _ _)
theorem Sk(e:CE):fZ Φ Ψ G (.VQ e):=by intro S X m f g k;obtain⟨v,q,rfl,a⟩:=rM k;simp only[Bi]at a;obtain⟨⟨d,c⟩,b⟩:=a;exact Cu (tt:=λR=>wP Φ G R e) λR=>lP (mP f.toXOk R _ v b) (wk (ZH c) d _ _ _)
theorem MI(j:Nat)(e:CE):fZ Φ Ψ G (.yx j e):=by intro S X m a o k;obtain⟨x,p,v,q,rfl,b⟩:=jY k;simp only[Bi]at b;obtain⟨⟨⟨⟨h,g⟩,d⟩,c⟩,f⟩:=b;have n:=nT a h;exact LW (tt:=λR=>wP Φ G R e) (λ{l} i=>iO a.nd n.1 n.2.1 i (wk (ZH c) d _ _ _) n.2.2) (gM (by simpa using g)) λR=>mP a.toXOk R _ v f
theorem Sm(e:CE):fZ Φ Ψ G (.ret e):=by
 intro S X m f h k;rcases yS k with⟨v,q,rfl,a⟩|⟨q,rfl,a⟩
 .unfold WQ at a;rw[Bi]at a;obtain⟨c,a⟩:=a;have c:iD m=false:=by simpa using c
  rcases iH a with a|d
  .rcases iH a with a|a
   .rw[Bi]at a;have g:m=.s:=by cases m<;>first|rfl|exact ff a.1
    rcases iH a.2 with b|b
    .exact Ht (te:=λR=>wE Φ G R e) (λR=>(snd Φ Ψ G e).e (f.toXOk.jn []) v b R) (.inr g) c
    .subst g;exact LU (te:=λR=>wE Φ G R e) λR=>(snd Φ Ψ G e).s f.toXOk b R
   .rw[Bi]at a;exact Ht (te:=λR=>wE Φ G R e) (λR=>AM (f.toXOk.jn []) a.2 R) (.inl (kU a.1)) c
  .unfold WO at d;split at d
   .rename_i i hv
    obtain rfl:=Ex hv;have b:=a2 d;exact LV (eN f.toXOk b.2) (gO b.1) c
   .exact ff d
 .rw[Bi]at a;obtain rfl:=uJ a.1;cases m<;>try exact ff a.2
  exact Mz
theorem CM{S:SE}{m:Md}(h:R7 S m=true):∃k,m=.io k/\(0,k)∈S.M:=by
 cases m with
 |io k=>exact⟨k,rfl,gO h⟩
 |_=>exact ff h
theorem Sn(e:CE):fZ Φ Ψ G (.T3 e):=by
 intro S X m d f k;rcases yS k with⟨v,q,rfl,a⟩|⟨q,rfl,a⟩
 .rw[Bi]at a;obtain⟨c,rfl,b⟩:=CM a.1;exact Rp (te:=λR=>wE Φ G R e) (λR=>(snd Φ Ψ G e).s d.toXOk a.2 R) b
 .rw[Bi]at a;obtain⟨c,rfl,b⟩:=CM a.2;obtain rfl:=uJ a.1;exact Rq b
theorem MK{S:SE}{i n:Nat}{x:Str}(h:R8 S i n x=true):∃b a,(i,.o b a)∈S.M/\b[n]?=some x/\a[n]?=some .s:=by
 unfold R8 at h;split at h
 .rename_i b a hl
  rw[Bi]at h;obtain⟨d,c⟩:=h;split at c
  .rename_i k hk
   have:k=.s:=by cases k<;>first|rfl|exact ff c
   subst this;exact⟨b,a,jB hl,P3.mp d,hk⟩
  .cases c
 .cases h
theorem So(i n:Nat)(e:CE):fZ Φ Ψ G (.Ea i n e):=by intro S X m b t k;obtain⟨o,x,p,v,q,rfl,a⟩:=Et k;simp only[Bi]at a;obtain⟨⟨f,d⟩,c⟩:=a;obtain⟨w,u,l,j,h⟩:=MK f;exact Rx (te:=λR=>wE Φ G R e) (λ{r} g=>gQ (eN b.toXOk d) g (by cases v<;>rfl)) l j h λR=>(snd Φ Ψ G e).s b.toXOk c R
theorem Sq:fZ Φ Ψ G .brk:=by
 intro S X m b a k;cases a with
 |Break _=>exact Ra
 |_=>exact ff k
theorem HW(g:Nat)(e:CE):fZ Φ Ψ G (.raise g e):=by
 intro S X m b E k;obtain⟨x,F,v,L,q,rfl,l⟩:=AK k;simp only[Bi]at l;obtain⟨⟨f,p⟩,n⟩:=l;have f:=P3.mp f;show VS X S.M m _ (λD i=>match G g with|.cls C=>wE Φ G D.ex e i λ_=>D.ex C|_=>False);obtain⟨u,z,t,r,a⟩:=b.J3 g x f;obtain⟨y,w,J⟩:=fy b.toXOk p;by_cases o:∃C,G g=.cls C
 .obtain⟨C,c⟩:=o;rw[c]at a⊢;have hz:=a (λ_=>False) (λ_=>none);dsimp only[Rep]at hz;subst hz;cases r;exact HS (te:=λR=>wE Φ G R e) b.calm y t (b.E9 g x C f c) (λR=>(snd Φ Ψ G e).s b.toXOk n R) (aU (bO (.inl n)) [] X.env) w
 .rintro j s B H D I ⟨A,N,i,d,S,K,hz,h,_⟩;cases c:G g<;>rw[c]at h<;>first|exact h.elim|exact(o ⟨_,c⟩).elim
theorem WU(c:CE){a b:List CS}(l:kD Φ Ψ G a)(j:kD Φ Ψ G b):fZ Φ Ψ G (.iff c a b):=by intro S X m d n k;obtain⟨t,x,y,q,rfl,e⟩:=HQ k;simp only[Bi]at e;obtain⟨⟨⟨i,h⟩,g⟩,f⟩:=e;exact Wk (tc:=λR=>wE Φ G R c) (λR=>(snd Φ Ψ G c).t d.toXOk t i h R) (l d x g) (j d y f)
theorem Su(c:CE){b:List CS}(h:kD Φ Ψ G b):fZ Φ Ψ G (.xO c b):=by intro S X m d i k;obtain⟨t,x,q,rfl,a⟩:=HR k;simp only[Bi]at a;obtain⟨⟨g,f⟩,e⟩:=a;exact Rj ((snd Φ Ψ G c).t d.jS.toXOk t g f _) (h d.jS x e)
theorem Sv(h:List Nat)(one:Bool)(e:CE){b:List CS}(t:kD Φ Ψ G b):fZ Φ Ψ G (.fr h one e b):=by
 intro S X m c u k;obtain⟨f,i,x,q,rfl,a⟩:=yT k;unfold frB at a;split at a;rotate_left
 .cases a
 rename_i o xs Mi
 simp only[Bi]at a;obtain⟨⟨⟨⟨⟨⟨d,s⟩,r⟩,n⟩,g⟩,l⟩,j⟩:=a;have d:=P3.mp d;subst d;refine Rk (ti:=λR=>wE Φ G R e) c.calm (wj r) ((snd Φ Ψ G e).i c.jS.toXOk f false i (by rw[l];rfl) (λz=>?_) _) (Mh (X:=X.jS) c.calm c.jS.nd Mi (mK c.jS s)) (t c.jS x j) (rL n _);have:one=false:=by rw[z]at g;simpa using g
 subst this;cases f with
 |Tuple v a p=>exact⟨_,_,_,rfl⟩
 |Name y p=>cases Mi
 |_=>exact nn Mi
theorem ML:kD Φ Ψ G []:=by intro S X m b a k;rw[KM.mp k];exact LP
noncomputable def OL(Φ:Nat->aZ)(Ψ:Nat->Md)(G:Nat->W):CS->Prop
 |.T4 _ b=>kD Φ Ψ G b
 |_=>True
theorem MM{S:SE}{m:Md}{s:CS}{a:List CS}{st:List Stmt}(k:fD S Ψ m (s::a) st=true):(∃c b,s=.T4 c b/\(a.isEmpty&&(!iD m||!c.contains 0)&&fD (S.lend c) Ψ m b st)=true)\/HK (λe=>Mq S Ψ m s e) (λes=>fD S Ψ m a es) st=true:=by
 cases s<;>first|exact .inr k|exact .inl ⟨_,_,rfl,k⟩
theorem HX{s:CS}{c:List CS}(h:fZ Φ Ψ G s/\OL Φ Ψ G s)(v:kD Φ Ψ G c):kD Φ Ψ G (s::c):=by
 intro S X m a d k;rcases MM k with⟨u,b,rfl,o⟩|k
 .obtain⟨n,p⟩:=a2 o;obtain⟨l,f⟩:=a2 n;cases KM.mp l;have q:iD m=true->aT S.M 0->aT (S.lend u).M 0:=by rintro e ⟨g,A⟩;rw[e]at f;exact⟨g,ar.mpr ⟨A,f⟩⟩
  have w:kD Φ Ψ G b:=h.2;exact LR (w (a.jn _ λi m j y x=>a.J5 i m j (fz _ y) (fz _ x)) d p) fz q
 have h:fZ Φ Ψ G s:=h.1;cases d with
 |nil=>exact ff k
 |cons e r=>
  have k:Mq S Ψ m s e=true/\fD S Ψ m c r=true:=a2 k;cases c with
  |nil=>
   have:r=[]:=by have:=k.2;exact KM.mp this
   subst this;exact LQ (h a e k.1)
  |cons t B=>have z:=Hr (h a e k.1) (v a r k.2);exact z
theorem Sw(i:Nat)(e:CE):fZ Φ Ψ G (.T6 i e):=by intro S X m g p k;obtain⟨o,r,t,v,s,q,rfl,c⟩:=rN k;simp only[Bi]at c;obtain⟨⟨⟨⟨a,j⟩,h⟩,f⟩,d⟩:=c;have a:=Do a;subst a;have b:=aU (bO (.inl d)) [] X.env;refine Rh (te:=λR=>wE Φ G R e) (λ{n} l=>?_) (gO h) λR=>AM g.toXOk d R;exact lP (FP mf wt wd jU (eN g.toXOk f) (aF l bF b) (mO f _ _) (by rw[b];rfl) j b rfl) rfl
theorem Sx(i:Nat)(as:List CE):fZ Φ Ψ G (.VR i as):=by
 intro S X m d J k;obtain⟨x,p,v,q,rfl,h⟩:=jY k;simp only[Bi]at h;obtain⟨⟨⟨⟨y,l⟩,w⟩,t⟩,u⟩:=h;obtain⟨I,K,rfl,s⟩:=rE u;have f:iD m=true->i≠0:=λz e=>by rw[z,e]at l;cases l
 have o:=gO w;have D:yP (S.less i) Φ Ψ G X:=d.jn (S.less i).M λa b c F E=>d.J5 a b c (ar.mp F).1 (ar.mp E).1;have n:=nT d y;have B:∀x∈as.map (mo Ψ),x=ZF S.M i:=λx A=>by obtain⟨a,C,rfl⟩:=Ki.mp A;exact kU (Kb.mp t a C)
 exact yU (M':=(S.less i).M) (te:=λR r Q=>wA Φ G R as r λg=>g.length<=sizeLine/\Q (.lst g)) (λR=>iO d.nd n.1 n.2.1 (MD (AL D.toXOk as I s R) B) rfl n.2.2) (λj=>yQ o (λL H=>d.J5 i _ _ H o)) yR f
theorem Sy(i:Nat)(j:List Nat)(m0:Md)(ts:List Nat)(one:Bool)(n:Nat)(J c e:CE):fZ Φ Ψ G (.VU i j m0 ts one n J c e):=by
 intro S X m o st k;obtain⟨x,p,v,q,rfl,kk⟩:=jY k;simp only[Bi]at kk;obtain⟨⟨⟨k0,k1⟩,k2⟩,O⟩:=kk;have AH:yP (S.lend j) Φ Ψ G X:=o.jn (S.lend j).M λa b c h1 h2=>o.J5 a b c (fz _ h1) (fz _ h2);have t:=nT o k0;have em:=kU k2;have l:=OJ AH (HL O) x p q.line;obtain⟨z,tg,u,U,f,pp,xs,rfl,rfl,Y,_,_,_,_⟩:=i6 (snd Φ Ψ G J) (snd Φ Ψ G c) (snd Φ Ψ G e) AH.toXOk O λ_=>False;refine Ry (M':=(S.lend j).M) (ti:=λR=>wE Φ G R J) (tc:=wE Φ G (λ_=>False) c) (te:=wE Φ G (λ_=>False) e) (λR=>?_) (gM (by simpa using k1)) Y fz;obtain⟨elt',tg',T,ifs',F,p',d,e1,e2,hlt',ho,y,N9,hr⟩:=i6 (snd Φ Ψ G J) (snd Φ Ψ G c) (snd Φ Ψ G e) AH.toXOk O R;cases e1;rw[e2];intro g s E H D I hw;obtain⟨q1,q2,q3⟩:=hr g s E H I;have q4:∀C L B Z,PE (aX X f C d (mask d (S.lend j).N) L B Z) z (Wq X.K (up (S.lend j).M d.length) m0 (wE Φ G (λ_=>False) e)):=λC L B Z=>by obtain⟨⟨a1,a2⟩,_⟩:=q3 C L B Z;have:=AM a1 a2 λ_=>False;rw[em]at this;exact PE.imp this<|by rintro E H Q ⟨A,B,ε,P,S',h,k⟩;exact⟨A,B,ε,P,S',.none,h,λw v H' pw s r=>k w v H' pw s r⟩
 cases hb:X5 (S.lend j) x p (.ListComp z [⟨tg,u,U,0⟩] f pp)with
 |false=>rw[hb]at l;exact iO o.nd t.1 t.2.1 (u7 d (mask d (S.lend j).N) o.calm ho N9 q1 q2 q4 y) l t.2.2 g s E H D I hw
 |true=>rw[hb]at l;exact BO d (mask d (S.lend j).N) o.nd t.1 t.2.1 o.calm ho N9 q1 q2 q4 l y t.2.2 g s E H D I hw
theorem Sz{e:CE}{x0:W}(h:cst e=some x0)(R:Addr->Prop)(a:Ev)(Q:W->Prop)(q:Q x0):wE Φ G R e a Q:=by
 unfold cst at h;split at h
 .cases h;exact q
 .cases h;exact⟨by show 2<=sizeLine;decide,q⟩
 .cases h
theorem SA(j a b:Nat)(e:CE):fZ Φ Ψ G (.VV j a b e):=by
 intro S X m r st k;obtain⟨tg,i,x,q,rfl,y⟩:=yT k;simp only[Bi]at y;obtain⟨⟨⟨⟨⟨⟨⟨⟨f,R⟩,P⟩,O⟩,N⟩,L⟩,K⟩,J⟩,n⟩:=y;split at f;rotate_left
 .cases f
 rename_i o xs Mi
 rw[Bi]at f;have Y:o=false:=by simpa using f.1
 subst Y;obtain⟨st,rfl,n⟩:=fS n;obtain⟨I,mt,ap,v,cp,F,rfl,z⟩:=rN n;simp only[Bi]at z;obtain⟨⟨⟨t,b2⟩,C⟩,B⟩:=z;have t:=Do t;subst t;obtain⟨x0,E⟩:=X2.mp J;have p:=aU (bO (.inl B)) [] X.env;have g:=r.jS;have:=RA (X:=X) (M:=S.M) (m:=m) (st:=.Expr (.Call (.Attribute I "append" ap) [v] [] cp) F) (x0:=x0) (te:=wE Φ G (λ_=>False) e) (pos:=q) r.calm (gM (by simpa using R)) (gM (by simpa using P)) (Do O) (gO N) (eN g.toXOk K) (Mh (X:=X.jS) r.calm g.nd Mi (mK g f.2)) ((snd Φ Ψ G e).s g.toXOk B _) (λ{tv} T=>lP (FP mf wt wd jU (eN g.toXOk C) (aF T bF p) (mO C _ _) (by rw[p];rfl) b2 p rfl) rfl) (rL L _) (λc Q U=>Sz E _ c Q U);refine PS.imp this ?_;rintro D σ H ⟨A,H0,c,d,S',Z,hz,h,k⟩;refine⟨A,H0,c,d,S',Z,hz,?_,k⟩;have h:(match cst e with|some x0=>(match look c j with|some (.lst l)=>(∀w∈l,∃u o,w=.tup [.lst u,o]/\u.length<sizeLine)/\a<c.length/\d.nx (((c.set a none).set b none).set j (some (.lst (l.map (nM x0)))))|_=>False)|none=>False):=h;rw[E]at h;exact h
theorem SG:fZ Φ Ψ G .nK:=by rintro S X m g e k a s b H D I ⟨A,j,c,d,S,i,hz,h,f⟩;exact Ew h
variable(Φ Ψ G)
mutual
theorem ZI:∀s:CS,fZ Φ Ψ G s/\OL Φ Ψ G s
 |.set i e=>⟨Sa i e,trivial⟩
 |.D9 d e=>⟨Sb d e,trivial⟩
 |.par d es=>⟨Se d es,trivial⟩
 |.app i e=>⟨Sh i e,trivial⟩
 |.put i k e=>⟨Si i k e,trivial⟩
 |.drop i=>⟨MH i,trivial⟩
 |.yx j e=>⟨MI j e,trivial⟩
 |.ret e=>⟨Sm e,trivial⟩
 |.iff c a b=>⟨WU c (oO a) (oO b),trivial⟩
 |.xO c b=>⟨Su c (oO b),trivial⟩
 |.fr d one f b=>⟨Sv d one f (oO b),trivial⟩
 |.brk=>⟨Sq,trivial⟩
 |.raise g e=>⟨HW g e,trivial⟩
 |.Ea i n e=>⟨So i n e,trivial⟩
 |.T3 e=>⟨Sn e,trivial⟩
 |.VQ e=>⟨Sk e,trivial⟩
 |.nK=>⟨SG,trivial⟩
 |.VR i as=>⟨Sx i as,trivial⟩
 |.T6 i e=>⟨Sw i e,trivial⟩
 |.VU i h m d one n f c e=>⟨Sy i h m d one n f c e,trivial⟩
 |.VV j a b e=>⟨SA j a b e,trivial⟩
 |.T4 h b=>⟨λ_ _ k=>(by cases k),oO b⟩
theorem oO:∀a:List CS,kD Φ Ψ G a
 |[]=>ML
 |s::a=>HX (ZI s) (oO a)
end
end
structure Tab(P:Program)(w:World)(K:Frag)(mg:Str->Option Value)(base:Heap)(fn gn zn:List Str)(md:List Md)(mt:List (Nat×Nat))(Φ:Nat->aZ)(G:Nat->W)(k:Nat):Prop where
 fns:∀(j:Nat)(x:Str),fn[j]?=some x->mt.any (·.1==j)=false->∃fv n k',mg x=some fv/\d7 P w K mg base k' fv n (i0 K n (kj md j) (Φ j))/\k'<=k/\∀ws P R,Φ j ws P R->ws.length=n
 Ma:∀(j g:Nat)(x:Str),fn[j]?=some x->(j,g)∈mt->∃f fd ps n k',(∀C,G g=.cls C->Meth K C x f)/\Binds K fd ps []/\bN P w K mg base (ic P w) k' f fd ps (i0 K n (kj md j) (Φ j))/\k'<=k/\∀ws P R,Φ j ws P R->ws.length=n
 J3:∀(j:Nat)(x:Str),gn[j]?=some x->∃u v,mg x=some u/\RelV v u/\∀B H,Rep K B H (G j) v
 E8:∀x∈zn,mg x=none
 kit:yE K
 E9:∀j x C,gn[j]?=some x->G j=.cls C->sU K C
noncomputable def ak(n:Nat)(a:List W):Ev:=a.map some++A0 (n -a.length) none
noncomputable def fall:Md->(W->Prop)->Ev->Prop
 |.s,P,_=>P .aW
 |.io _,P,a=>match look a 0 with
  |some b=>P (.tup [.aW,b])
  |none=>False
 |_,_,_=>False
section
variable{K:Frag}{A:Addr->Prop}{H:Hp}{N:List Str}{ws:List W}{vs:List V}{M:Ms}
theorem kW{i:Nat}{w:W}(a:ws.length<=i)(e:look (ak N.length ws) i=some w):False:=by
 rw[bw]at e;unfold ak at e;rw[Ha (by simp;omega),h9]at e;split at e
 .cases e
 .cases e
theorem uK{i:Nat}{w:W}(h:au K A H ws vs)(e:look (ak N.length ws) i=some w):∃v,(start N vs)[i]?=some (some v)/\Rep K A H w v:=by
 have f:=h.len;by_cases a:i<ws.length
 .rw[bw]at e;unfold ak at e;rw[KE (by simpa using a),Dx]at e;obtain⟨d,c,b⟩:=PH.mp e;cases b;obtain⟨v,b,r⟩:=h.get c;refine⟨v,?_,r⟩;unfold L2.start;rw[KE (by simp;lia),Dx,b];rfl
 .exact(kW (by lia) e).elim
theorem HY(h:au K A H ws vs)(d:Dom A H)(g:∀i m,(i,m)∈M->ws.length<=i)(b:∀i m a,(i,m)∈M->(i,a)∈M->m=a):SR K M ⟨A,A,none⟩ H (start N vs) H (ak N.length ws):=by have f:=h.len;refine⟨by simp[L2.start,ak,f],λi w k e=>uK h e,aE.refl _,d,(λv e=>by cases e),λ_=>[],⟨b,λi m w c e=>(kW (g i m c) e).elim,λ_ _ _=>rfl,λ_ _=>ub,(λi j p _ _ z=>by cases z),(λi p _ z=>by cases z),(λi p _ z=>by cases z),λp=>⟨.inl,λz=>z.elim id<|by rintro⟨_,_,z⟩;cases z⟩⟩⟩
open Classical in
noncomputable def era(F:List Addr)(H:Hp):Hp:=λp=>if p∈F then none else H p
theorem HZ{F:List Addr}{p:Addr}{o:HO}(h:era F H p=some o):p∉F/\H p=some o:=by
 unfold era at h;split at h
 .cases h
 .exact⟨by assumption,h⟩
theorem Ia{F:List Addr}{p:Addr}(h:era F H p=none):p∈F\/H p=none:=by
 unfold era at h;split at h
 .exact .inl (by assumption)
 .exact .inr h
theorem SH{F:List Addr}{p:Addr}(h:p∈F):era F H p=none:=by unfold era;rw[Bz h]
theorem MN{F:List Addr}{p:Addr}(h:p∉F):era F H p=H p:=by unfold era;rw[Bn h]
theorem Ic{F:List Addr}{k:W}{l:V}{q:Md}(E:F.Nodup)(G:∀p∈F,¬A p)(d:Dom A H)(P:Fp K (λp=>A p\/p∈F) H q k l F)(h:au K (λp=>A p\/p∈F) H ws vs)
 (t:(0,q)∈M)(O:∀i m,(i,m)∈M->i=0\/ws.length+1<=i)(B:∀i m C,(i,m)∈M->(i,C)∈M->m=C)(L:0<N.length):
 SR K M ⟨A,λp=>A p\/p∈F,some l⟩ (era F H) (start N (l::vs)) H (ak N.length (k::ws)):=by
 have I:=h.len;have D:look (ak N.length (k::ws)) 0=some k:=rfl;have r:(start N (l::vs))[0]?=some (some l):=rfl;have y:∀i,aT M i->i≠0->∀w,look (ak N.length (k::ws)) i=some w->False:=λi ⟨m,s⟩ n w e=>kW (by rcases O i m s with z|z;exact(n z).elim;simpa using z) e;refine⟨by simp[L2.start,ak,I],λi w g e=>?_,λp o e=>(HZ e).2,d,λv e=>?_,λi=>if i=0 then F else[],⟨B,λi m w s e=>?_,λi g e=>?_,λi g=>?_,λi j p g R a b=>?_,λi p g c=>?_,λi p g c=>?_,λp=>?_⟩⟩
 .cases i with
  |zero=>exact(g ⟨q,t⟩).elim
  |succ i=>
   have Q:look (ws.map some++A0 (N.length -(k::ws).length) none) i=some w:=e;have:look (ak (N.length -1) ws) i=some w:=by unfold ak;rw[show N.length -1 -ws.length=N.length -(k::ws).length by simp;lia];exact Q
   cases N with
   |nil=>cases L
   |cons x N=>obtain⟨v,f,u⟩:=uK (N:=N) h this;refine⟨v,?_,u⟩;unfold L2.start at f⊢;rw[RF,Fy,List.getElem?_cons_succ,show(x::N).length -(l::vs).length=N.length -vs.length by simp];exact f
 .cases e;exact⟨r,q,t⟩
 .rcases cb i with rfl|g
  .have:=B 0 m q s t;subst this;rw[D]at e;cases e;exact⟨l,r,by rw[Bz rfl];exact P⟩
  .exact(y i ⟨m,s⟩ (by lia) w e).elim
 .rcases cb i with rfl|J
  .rw[D]at e;cases e
  .rw[Bn (by lia)]
 .split
  .exact E
  .exact ub
 .by_cases f:i=0
  .by_cases u:j=0
   .rw[f,u]
   .rw[Bn u]at b;cases b
  .rw[Bn f]at a;cases a
 .by_cases f:i=0
  .rw[Bz f]at c;exact SH c
  .rw[Bn f]at c;cases c
 .by_cases f:i=0
  .rw[Bz f]at c;exact G p c
  .rw[Bn f]at c;cases c
 .constructor
  .rintro(z|z)
   .exact .inl z
   .exact .inr ⟨0,⟨q,t⟩,by rw[Bz rfl];exact z⟩
  .rintro(z|⟨i,g,c⟩)
   .exact .inl z
   .by_cases f:i=0
    .rw[Bz f]at c;exact .inr c
    .rw[Bn f]at c;cases c
end
theorem ON{M:Ms}(h:(M.map (·.1)).Nodup):∀i m c,(i,m)∈M->(i,c)∈M->m=c:=by
 induction M with
 |nil=>intro i m c a;cases a
 |cons x M d=>
  obtain⟨j,k⟩:=x;rw[RF,Pm]at h;intro i m c a b;rcases Fn.mp a with a|a
  .rcases Fn.mp b with b|b
   .cases a;cases b;rfl
   .cases a;exact(h.1 (Ki.mpr ⟨_,b,rfl⟩)).elim
  .rcases Fn.mp b with b|b
   .cases b;exact(h.1 (Ki.mpr ⟨_,a,rfl⟩)).elim
   .exact d h.2 i m c a b
section
variable{P:Program}{w:World}{K:Frag}{mg:Str->Option Value}{base:Heap}{x qual:Str}{st:Stmt}{f:Addr}{fd:FuncData}{N ps:List Str}{k:Nat}{fn gn zn:List Str}{md:List Md}{mt:List (Nat×Nat)}{Φ:Nat->aZ}{G:Nat->W}
theorem Ie{M:Ms}{b:Value}{A:Around}{a:List Env}{s:Shared}{H:Hp}{E:XK}(t:cU N ps (aj st))(T:Tab P w K mg base fn gn zn md mt Φ G k)(q:dD k (lJ P w K mg base N qual (aj st) f b A a s H E).A)(un:∀i m r,(i,m)∈M->(i,r)∈M->m=r):
 yP ⟨N,(aj st).names,M,fn,gn,zn,md,mt⟩ Φ (kj md) G (lJ P w K mg base N qual (aj st) f b A a s H E):=
 {hN:=rfl,nd:=t.nd,calm:=rfl,un:=q.units,nk:=λ_=>rfl,
  fns:=λj x e h=>by obtain⟨v,n,p,o,l,d,c⟩:=T.fns j x e h;exact⟨v,n,p,o,l,q.mono d,c⟩
  Ma:=λj g x e h=>by obtain⟨f,fd,ps,n,p,o,l,d,c,u⟩:=T.Ma j g x e h;exact⟨f,fd,ps,n,p,o,l,d,q.mono c,u⟩
  Mb:=rfl,J3:=T.J3,E8:=T.E8,kit:=T.kit,
  bk:=by show(if(aj st).kind.isAnnotationScope then ScopeKind.function else(aj st).kind)=_;rw[t.kind];rfl
  Ud:=λ_=>rfl,E9:=T.E9,J5:=un}
theorem Ig(F:DI K x qual st f fd)(O:cU N ps (aj st))(T:Tab P w K mg base fn gn zn md mt Φ G k)(b:List CS)(M:Ms)(m:Md)(t:aZ)(hM:M.all (λi=>decide (ps.length<=i.1))=true)(hu:(M.map (·.1)).Nodup)(d:iD m=false)
 (g:fD ⟨N,(aj st).names,M,fn,gn,zn,md,mt⟩ (kj md) m b (aV st)=true)(B:∀c P R,t c P R->c.length=ps.length)
 (hp:∀c P R,t c P R->wSs Φ G b ⟨fall m P,P,λ_=>False,λ_=>False,R⟩ (ak N.length c)):bN P w K mg base (ic P w) (k+1) f fd ps (T9 K ps.length m t):=by
 refine DI.XQ F O (by rintro vs H Q E ⟨A,c,P,R,p,o,_⟩;rw[o.len,p]) λcdv A n s H vs Q E hr hz=>?_;obtain⟨U,c,u,R,p,o,h3,h4,L,J⟩:=hz;have y:=ON hu;refine⟨_,oO Φ (kj md) G b (Ie O T hr y) (aV st) g,⟨U,U,none⟩,H,ak N.length c,⟨fall m u,u,λ_=>False,λ_=>False,R⟩,HY o h3 (λi m hi=>?_) y,⟨E,N6,λC j rc l=>J C j rc l,λe Y S s1 h' a C h I hx q=>BL e Y S s1 h' a C h I hx (J C S q.1 q.2)⟩,(by rw[d];rfl),hp c u R h4,⟨λA' Z X j ea eb D S'=>?_,λw v j hw l r=>?_,λ_ _ _ _ _ _ z=>z.elim,λ_ _ _ _ _ _ z=>z.elim⟩⟩
 .rw[p];exact Do (Kb.mp hM (i,m) hi)
 .cases m with
  |s=>exact L .aW .aW j D S'.sm (.of (by dsimp only[Rep]))
  |io _=>cases d
  |_=>exact D.elim
 .cases m with
  |io _=>cases d
  |_=>exact L w v j hw l r
theorem CN(F:DI K x qual st f fd)(Sc:cU N ps (aj st))(T:Tab P w K mg base fn gn zn md mt Φ G k)(b:List CS)(M:Ms)(j:Md)(Sf:aZ)(hM:M.all (λi=>i.1==0||decide (ps.length<=i.1))=true)(hu:(M.map (·.1)).Nodup)(S:hasB M 0 j=true)(hN:0<N.length)
 (J:fD ⟨N,(aj st).names,M,fn,gn,zn,md,mt⟩ (kj md) (.io j) b (aV st)=true)(hlen:∀h P R,Sf h P R->h.length=ps.length)
 (D:∀h P R,Sf h P R->wSs Φ G b ⟨fall (.io j) P,P,λ_=>False,λ_=>False,R⟩ (ak N.length h)):bN P w K mg base (ic P w) (k+1) f fd ps (XZ K ps.length j Sf):=by
 refine DI.XQ F Sc (by rintro vs H Q E ⟨ab,F,O,v0,h,vs',P,R,e,h1,_,_,_,_,h2,_⟩;rw[e,CY,h2.len,h1]) λcdv A outer s H vs Q E hr hz=>?_;obtain⟨ab,F,O,v0,h,vs',Z,R,e,h1,nd,na,d,fp,h2,h4,h5,h6⟩:=hz;subst e;have un:=ON hu;have S:=gO S;have X:∀{c},aE (era F H) c->xM (·∈F) H c:=λ{c} t p o e=>by
  by_cases AA:p∈F
  .obtain⟨o',e',hm⟩:=Fp.mu j fp p AA;rw[e]at e';cases e';exact .inl ⟨hm,AA⟩
  .exact .inr (t p o (by rw[MN AA];exact e))
 refine⟨_,oO Φ (kj md) G b (Ie Sc T hr un) (aV st) J,⟨ab,λp=>ab p\/p∈F,some v0⟩,era F H,ak N.length (O::h),⟨fall (.io j) Z,Z,λ_=>False,λ_=>False,R⟩,Ic nd na d fp h2 S (λi m hi=>?_) un hN,⟨E,N6,λC c rc t=>h6 C c rc (X t),λu σ H1 s1 h' a C L I hx q=>BL u σ H1 s1 h' a C L I hx (h6 C H1 q.1 (X q.2))⟩,rfl,D _ Z R h4,⟨λA' n σ' c ea eb l S'=>?_,λw v c hw t r=>?_,λ_ _ _ _ _ _ z=>z.elim,λ_ _ _ _ _ _ z=>z.elim⟩⟩
 .have:=Kb.mp hM (i,m) hi;rw[td]at this;rcases this with z|z
  .exact .inl (P3.mp z)
  .exact .inr (by rw[h1];exact Do z)
 .have l:(match look n 0 with|some O=>Z (.tup [.aW,O])|none=>False):=l;cases hl:look n 0 with
  |none=>rw[hl]at l;exact l.elim
  |some y=>rw[hl]at l;obtain⟨wr,y',v0',F',e1,U,ZJ,Y,g,rr⟩:=vV (v:=.aW) S' S hl ⟨v0,eb⟩ (by dsimp only[Rep]:Rep K A'.B c .aW .aW);cases e1;rw[eb]at U;cases U;rw[ea]at g rr Y;exact h5 .aW y .aW F' c l (X S'.sm) ZJ (λp D=>Ia (Y p D).1) g rr
 .obtain⟨wr,y,v0',F',rfl,U,ZJ,Y,g,rr⟩:=r;cases U;exact h5 wr y v F' c hw (X t) ZJ (λp D=>Ia (Y p D).1) g rr
end
end VL
namespace L2
open PySem PySem.Spec PyProof.Rows
abbrev rv(as:List (Addr×Rat)):List V:=as.map λx=>V.ref x.1
section
variable{X:Cx}{H:Hp}
end
theorem uL{α:Type}{a:List α}{x:α}(h:a.getLast?=some x):j9 a (-1)=some x:=by
 have c:a≠[]:=by intro z;rw[z]at h;cases h
 have b:0<a.length:=FM.mpr c;unfold j9;have e:xK a.length (-1)=some (a.length -1):=by unfold xK;rw[Bn (by decide),Bz (by lia)];congr 1;lia
 rw[e];show a[a.length -1]?=_;rw[<-h,Kj]
end L2
namespace VL
open PySem PySem.Spec
open PyProof.Rows hiding St
open L2
noncomputable def wq(r:Rat):W:=.tup [.int r.num,.int r.den]
noncomputable def af(rs:List Rat):W:=.lst (rs.map wq)
section
variable{K:Frag}{A:Addr->Prop}{H H':Hp}{v:V}{p:Addr}{r:Rat}{rs:List Rat}
end
noncomputable def bV:List aZ->Nat->aZ
 |[],_=>λ_ _ _=>False
 |x::_,0=>x
 |_::l,n+1=>bV l n
noncomputable def j8:List W->Nat->W
 |[],_=>.aW
 |x::_,0=>x
 |_::l,n+1=>j8 l n
section
variable{Q:W->Prop}{l a b:List W}{i j:Int}{x y:Str}{p q:Bool}
theorem x_len:sO .len [.lst l] Q=Q (.int l.length):=rfl
theorem Fd{ns:List Int}:sO .len [.di ns] Q=Q (.int ns.length):=rfl
theorem Fc:sO .len [.tup l] Q=Q (.int l.length):=rfl
theorem Np:sO .abs [.int i] Q=Q (.int (if i<0 then-i else i)):=rfl
theorem Nq:sO .max2 [.int i,.int j] Q=Q (.int (if j>i then j else i)):=rfl
theorem Nr:sO .min2 [.int i,.int j] Q=Q (.int (if j<i then j else i)):=rfl
theorem WV:sO .sum [.lst l] Q=∃ns:List Int,l=ns.map W.int/\Q (.int ns.sum):=rfl
theorem WW:sO .all [.lst l] Q=∃bs:List Bool,l=bs.map W.bl/\Q (.bl (bs.all id)):=rfl
theorem WX:sO .any [.lst l] Q=∃bs:List Bool,l=bs.map W.bl/\Q (.bl (bs.any id)):=rfl
theorem Fe:sO .list [.lst l] Q=Q (.lst l):=rfl
theorem Bp:sO .list [.tup l] Q=Q (.lst l):=rfl
theorem Bq:sO .tuple [.lst l] Q=Q (.tup l):=rfl
theorem xQ:sO .tuple [.tup l] Q=Q (.tup l):=rfl
theorem Nt:sO .int [.bl p] Q=Q (.int (if p then 1 else 0)):=rfl
theorem yV{w:W}{n:String}:sO .zG [w,.ty n] Q=∃a,tyW w=some a/\Q (.bl (Eb a n)):=rfl
theorem Nu:iB .Add (.int i) (.int j) Q=Q (.int (i+j)):=rfl
theorem Nv:iB .Add (.lst a) (.lst b) Q=(a.length+b.length<=sizeLine/\Q (.lst (a++b))):=rfl
theorem Nx:iB .Sub (.int i) (.int j) Q=Q (.int (i -j)):=rfl
theorem Ny:iB .Mult (.int i) (.int j) Q=(IntMulOk i j/\Q (.int (i*j))):=rfl
theorem Nz:iB .Mult (.lst a) (.int j) Q=(-(2^63)<=j/\j<2^63/\a.length*j.toNat<=sizeLine/\Q (.lst (A0 j.toNat a).flatten)):=rfl
theorem Ff:iB .FloorDiv (.int i) (.int j) Q=(BJ i j/\Q (.int (i.fdiv j))):=rfl
theorem NB:iB .Mod (.int i) (.int j) Q=(j≠0/\Q (.int (i.fmod j))):=rfl
theorem NC:iB .Pow (.int i) (.int j) Q=(sR i j/\Q (.int (i^j.toNat))):=rfl
theorem ND:iB .RShift (.int i) (.int j) Q=(0<=j/\Q (.int (i/2^j.toNat))):=rfl
theorem Up:iY .Eq (.int i) (.int j) Q=Q (.bl (decide (i=j))):=rfl
theorem Uq:iY .NotEq (.int i) (.int j) Q=Q (.bl (!decide (i=j))):=rfl
theorem x_lt:iY .Lt (.int i) (.int j) Q=Q (.bl (decide (i<j))):=rfl
theorem Ur:iY .LtE (.int i) (.int j) Q=Q (.bl (decide (i<=j))):=rfl
theorem Us:iY .Gt (.int i) (.int j) Q=Q (.bl (decide (j<i))):=rfl
theorem Ut:iY .GtE (.int i) (.int j) Q=Q (.bl (decide (j<=i))):=rfl
theorem WY:iY .Eq (.lst a) (.lst b) Q=(((sX 9 (.lst a)=true/\sX 9 (.lst b)=true)\/(JY 9 (.lst a)=true/\JY 9 (.lst b)=true))/\∀k:Bool,(k=true↔W.lst a=.lst b)->Q (.bl k)):=rfl
theorem Br{Q:Bool->Prop}:truth (.bl p) Q=Q p:=rfl
theorem Uu:VZ (.lst l) (.int i) Q=∃w,j9 l i=some w/\Q w:=rfl
theorem NG{ns:List Int}:VZ (.di ns) (.int i) Q=∃n,j9 ns i=some n/\Q (.int n):=rfl
theorem NH{ns:List Int}{c d:Option Int}:XY (.di ns) c d Q=Q (.lst (jz (ns.map W.int) c d)):=rfl
theorem NF:VZ (.tup l) (.int i) Q=∃w,j9 l i=some w/\Q w:=rfl
theorem Uv{c d:Option Int}:XY (.lst l) c d Q=Q (.lst (jz l c d)):=rfl
theorem NI{w:W}{Q:Option Int->Prop}:Ls .aW w Q=Q none:=rfl
theorem NJ{n:Int}{Q:Option Int->Prop}:Ls (.int n) (.int i) Q=Q (some i):=rfl
theorem NK{n:Nat}{Q:Option Int->Prop}:Ls (.var n) (.int i) Q=Q (some i):=rfl
theorem NL{o:Operator}{c d:CE}{Q:Option Int->Prop}:Ls (.bin o c d) (.int i) Q=Q (some i):=rfl
theorem Bs{Q:List W->Prop}:items (.lst l) Q=Q l:=rfl
theorem xR{Q:List W->Prop}:items (.tup l) Q=Q l:=rfl
theorem Uw{n:Nat}{w:W}{c:Ev}{Q:Ev->Prop}:wT true [n] w c Q=Q (c.set n (some w)):=rfl
theorem Ux{c:List Nat}{d:Ev}{Q:Ev->Prop}:wT false c (.tup l) d Q=(l.length=c.length/\Q (cO d c l)):=by
 cases c<;>rfl
theorem NN{i j:Nat}{c:Ev}{Q:Ev->Prop}:wT false [i,j] (.tup l) c Q=(l.length=2/\Q (cO c [i,j] l)):=rfl
theorem NO{i j k:Nat}{c:Ev}{Q:Ev->Prop}:wT false [i,j,k] (.tup l) c Q=(l.length=3/\Q (cO c [i,j,k] l)):=rfl
theorem Fg{A B:Prop}:(if true=true then A else B)=A:=rfl
theorem Bt{A B:Prop}:(if false=true then A else B)=B:=rfl
end
noncomputable def wFb(c:Nat->aZ)(G:Nat->W)(one:Bool)(d:List Nat)(b:List CS):W->Dn->Ev->Prop:=λw f a=>wT one d w a λe=>wSs c G b f e
theorem Um{c:Nat->aZ}{G:Nat->W}{d:List Nat}{one:Bool}{e:CE}{b:List CS}{D:Dn}{a:Ev}:wS c G (.fr d one e b) D a=wE c G (λ_=>False) e a λz=>items z λf=>mF (wFb c G one d b) D f a:=rfl
theorem Uo{c:Nat->aZ}{G:Nat->W}{d:List Nat}{one:Bool}{b:List CS}{w:W}{D:Dn}{a:Ev}:wFb c G one d b w D a=wT one d w a λe=>wSs c G b D e:=rfl
noncomputable def WN{α:Type}(S:α->Ev)(J:α->Prop)(c:α->Nat)(s:α):Ev->Prop:=λa=>∃b,a=S b/\J b/\c b<c s
noncomputable def X7{α:Type}(S:α->Ev)(J:α->Prop)(d:α->Nat)(b:Dn->Ev->Prop)(D:Dn)(s:α)(k:Bool):Prop:=
 if k=true then∃N:Ev->Prop,(∀a,N a->∃e,e<d s/\∃c,a=S c/\e=d c/\J c)/\b {nx:=N,rt:=D.rt,bk:=D.nx,ct:=N,ex:=λ_=>False} (S s)else D.nx (S s)
theorem cK{α:Type}{S:α->Ev}{J:α->Prop}{a:α->Nat}{b:Dn->Ev->Prop}{D:Dn}{s:α}{k:Bool}(g:k=true->b {nx:=WN S J a s,rt:=D.rt,bk:=D.nx,ct:=WN S J a s,ex:=λ_=>False} (S s))(f:k=false->D.nx (S s)):X7 S J a b D s k:=by
 unfold X7;cases k with
 |true=>exact⟨_,by rintro c ⟨d,e,j,l⟩;exact⟨_,l,d,e,rfl,j⟩,g rfl⟩
 |false=>exact f rfl
theorem fT{c:Ev->(Bool->Prop)->Prop}{b:Dn->Ev->Prop}{D:Dn}{a:Ev}{α:Type}(S:α->Ev)(J:α->Prop)(e:α->Nat)(d:α)(h:a=S d)(g:J d)(f:∀s,J s->c (S s) (X7 S J e b D s)):Lu c b D a:=by refine⟨λm a=>∃s,a=S s/\m=e s/\J s,⟨_,d,h,rfl,g⟩,?_⟩;rintro m _ ⟨s,rfl,rfl,j⟩;exact f s j
theorem bY{α:Type}{f:W->(Option W->Prop)->Prop}{h g:α->W}:∀(b:List α)(a:List W)(Q:List W->Prop),(∀x∈b,∀K:Option W->Prop,K (some (g x))->f (h x) K)->a.length+b.length<=sizeLine->Q (a++b.map g)->jA f (b.map h) a Q
 |[],a,Q,_,_,q=>by rw[xk,jA];simpa using q
 |w::b,a,Q,c,l,q=>by
  rw[RF,jA];refine c w (FC ..) _ ⟨?_,bY b _ Q (λx d=>c x (Ee _ d)) ?_ ?_⟩
  .rw[CY]at l;lia
  .rw[Fm,aN];rw[CY]at l;lia
  .rw[SL];exact q
theorem fE{α:Type}(x:α):∀n,(A0 n [x]).flatten=A0 n x
 |0=>rfl
 |n+1=>by rw[G8,KD,fE x n];rfl
theorem qa{rs:List Rat}{y:Rat}(a:0<rs.length)(h:rs.getD (rs.length -1) 0=y):rs.getLast?=some y:=by rw[Kj,BM (by omega)];rw[AC,BM (by omega)]at h;exact PQ some h
theorem fF{rs:List Rat}{y:Rat}(h:rs.getLast?=some y):j9 (rs.map wq) (-1)=some (wq y):=uL (by rw[Uk,h];rfl)
theorem ai{n:Nat}(h:n<=1000):n<=sizeLine:=DL h (by decide)
theorem wm(K:Frag):yE K:=by intro a d b c;simp only[Fn,dt,wx]at d c;rcases d with rfl|rfl|rfl|rfl|rfl|rfl<;>rcases c with rfl|rfl|rfl|rfl|rfl|rfl<;>rfl
theorem nU{n:Nat}(h:n<=1000):n<sizeLine:=GM h (by decide)
theorem all_true{α:Type}(l:List α):(l.map λ_=>true).all id=true:=by
 induction l with
 |nil=>rfl
 |cons x l a=>rw[RF,J9,a];rfl
theorem wu(i:Int)(n:Nat):sX n (.int i)=true:=by
 cases n<;>rfl
theorem AQ(r:Rat)(n:Nat):sX (n+1) (wq r)=true:=by unfold wq;dsimp only[sX];rw[J9,J9,wu,wu];rfl
theorem jZ(rs:List Rat)(n:Nat):sX (n+2) (.lst (rs.map wq))=true:=by dsimp only[sX];rw[Kb];intro x a;obtain⟨r,_,rfl⟩:=Ki.mp a;exact AQ r n
theorem Ih{r s:Rat}(h:wq r=wq s):r=s:=by have h:=W.VN h;simp only[U2,and_true]at h;exact Rat.ext (W.Cm h.1) (by have:=W.Cm h.2;lia)
theorem CO{rs c:List Rat}(h:W.lst (rs.map wq)=.lst (c.map wq)):rs=c:=by exact(TH (λa b e=>Ih e)).mp (W.Cn h)
theorem AR{x y:List Rat}{Q:W->Prop}(h:∀k:Bool,(k=true↔x=y)->Q (.bl k)):iY .Eq (af x) (af y) Q:=
 ⟨.inl ⟨jZ x 7,jZ y 7⟩,λk a=>h k (a.trans ⟨λe=>CO e,λe=>by rw[e]⟩)⟩
theorem rP{x y:List Rat}{Q:W->Prop}(h:∀k:Bool,(k=true↔x=y)->Q (.bl (!k))):iY .NotEq (af x) (af y) Q:=
 ⟨.inl ⟨jZ x 7,jZ y 7⟩,λk a=>h k (a.trans ⟨λe=>CO e,λe=>by rw[e]⟩)⟩
theorem cN{k:Bool}{p:Prop}(h:k=true↔p)(q:p):k=true:=h.mpr q
theorem c8{k:Bool}{p:Prop}(h:k=true↔p)(q:¬p):k=false:=by
 cases k with
 |false=>rfl
 |true=>exact absurd (h.mp rfl) q
noncomputable def Hd(K:Frag)(x:Str)(st:Stmt):Prop:=∃(f:Addr)(d i:Option Addr)(b:Array (Option Value))(e kV g c a h:Value),
 nsIn K mainGlobals x=some (some (.ref f))/\K.lookup f=some ⟨e,d,.func (fnOf x x (cC st) (aV st) (aj st) .none kV g c i a h),b⟩/\codeIn K a x=true/\keepIn K (.ref f)=true
noncomputable def Hm(K:Frag)(C:Addr)(x q:Str)(st:Stmt):Prop:=∃(f:Addr)(d i:Option Addr)(b:Array (Option Value))(e kV g c a h:Value),
 findIn K (.ref C) x=some (some (.ref f))/\isFn K (.ref f)=true/\K.lookup f=some ⟨e,d,.func (fnOf x q (cC st) (aV st) (aj st) .none kV g c i a h),b⟩/\codeIn K a q=true/\keepIn K (.ref f)=true
structure Df(K:Frag)(mg:Str->Option Value)(x:Str)(st:Stmt)(ps:List Str)(f:Addr)(fd:FuncData):Prop where
 F:DI K x x st f fd
 m:mg x=some (.ref f)
 b:Binds K fd ps []
 bt:∀(s:Shared)(us:List Value),us.length=ps.length->BindsTo s fd ⟨us,[]⟩ (ps.zip us)
structure Dm(K:Frag)(C:Addr)(x q:Str)(st:Stmt)(ps:List Str)(f:Addr)(fd:FuncData):Prop where
 F:DI K x q st f fd
 M:Meth K C x f
 b:Binds K fd ps []
abbrev i7(x q:Str)(st:Stmt)(ps:List Str):Prop:=∀(kV doc pm:Value)(an:Option Addr)(cdv ct:Value)(us:List Value),us.length=ps.length->bindArgs (fnOf x q (cC st) (aV st) (aj st) .none kV doc pm an cdv ct) ⟨us,[]⟩=pure (ps.zip us)
theorem sZ{α:Type}{l:List α}{n:Nat}(h:l.length=n+1):∃a r,l=a::r/\r.length=n:=by
 cases l with
 |nil=>cases h
 |cons a r=>exact⟨a,r,rfl,xf h⟩
theorem WZ{K:Frag}{h:Heap}{d:Str->Option Value}{x:Str}{st:Stmt}{ps:List Str}(X:K.In h)(G:h.Ns mainGlobals d)(j:Hd K x st)(b:i7 x x st ps):∃f m,Df K d x st ps f m:=by obtain⟨f,t,q,r,u,kV,n,g,p,o,a,l,c,k⟩:=j;have F:=FW (st:=st) l c k;exact⟨f,_,F,Ya X G a,F.binds b,λs e i=>.of_eq (b kV n g q p o e i)⟩
theorem CP{K:Frag}{C:Addr}{x q:Str}{st:Stmt}{ps:List Str}(d:Hm K C x q st)(b:i7 x q st ps):∃f e,Dm K C x q st ps f e:=by obtain⟨f,j,r,g,m,kV,n,h,p,o,a,i,l,c,k⟩:=d;have F:=FW (st:=st) l c k;exact⟨f,_,F,⟨a,i,k⟩,F.binds b⟩
structure Hc(K:Frag)(mg:Str->Option Value)(x:Str)(C:Addr)(fs:List Str):Prop where
 c:mg x=some (.ref C)
 ok:Ar K C fs
 mks:makesIn K C=true
 kp:keepIn K (.ref C)=true
theorem AU{K:Frag}{H:Hp}{a:Addr}{ns:List Int}(c:FT H)(b:iN K H a (ns.map V.int)):Rep K (λ_=>False) H (.di ns) (.ref a):=by
 refine⟨a,rfl,?_⟩;rcases b with(h|⟨o,h⟩)|h
 .rcases c a with z|⟨o,d,z⟩
  .rw[z]at h;cases h
  .rw[z]at h;cases h
 .exact .inl ⟨o,h⟩
 .exact .inr (.inr h)
noncomputable def SI:aZ:=λb Q _=>∃a:List Int,b=[.di a]/\a.length<=63/\Q (.bl true)
noncomputable def CQ(K:Frag):Sp:=λc H Q _=>∃(a:Addr)(b:List Int),c=[.ref a]/\FT H/\iN K H a (b.map V.int)/\b.length<=63/\∀d,Q (.bl true) d
theorem SJ{P:Program}{w:World}{K:Frag}{c:Str->Option Value}{base:Heap}{k:Nat}{f:Addr}{d:FuncData}{x:Str}(F:bN P w K c base (ic P w) k f d [x] (T9 K 1 .s SI)):bN P w K c base KH k f d [x] (CQ K):=by refine(bN.Vk F).imp λm H Q E ⟨a,b,e,j,i,h,q⟩=>?_;subst e;refine⟨λ_=>False,[.di b],λw=>w=.bl true,λ_=>False,rfl,.cons (AU j i) .nil,λ_ z=>z.elim,⟨b,rfl,h,rfl⟩,λw v l g _ r=>?_,λ_ _ z=>z.elim⟩;subst g;have r:=r.b7;dsimp only[Rep]at r;subst r;exact q l
theorem walk{l:PySem.W.OpenLaw}{q:Program}{b:List Str}{C:(Str->Option Value)->Heap->Prop}{m:World->Heap->Prop}{d:DefRec}{K:Params->Frag}{k:Nat}(r:l.most=some 63)(g:d.params.defaults=[])(p:dD k callerA)(B:importsNone q=true)(e:l.prog.given.tree=none)
 (v:∀(w:World)(h:Heap),m w h->(K w.params).In h)
 (F:∀(w:World)(c:Str->Option Value)(j:Addr)(h:Heap),(K w.params).In h->h.Ns mainGlobals c->c d.name=some (.ref j)->
   ∃i:FuncData,(∀(s:Shared)(u:Value),BindsTo s i ⟨[u],[]⟩ [("_law_script",u)])/\∀base:Heap,(K w.params).In base->base.Ns mainGlobals c->bN l.prog w (K w.params) c base KH k j i ["_law_script"] (CQ (K w.params))):
 PySem.W.WalkO q b C m l.row.toRowW d [] (λf us=>PySem.call f us):=
 L2.KG (n:=63) (k:=k) (x:="_law_script") (CX:=λ_=>KH) (sp:=λw=>CQ (K w.params)) r (by decide) g p B e v F (λ_ _ a o t A y=>⟨a,o,rfl,A,y,t,λ_=>rfl⟩) λ_ _ _ _ _ z=>z
noncomputable def W0:aZ:=λ_ _ _=>False
theorem OO{P:Program}{w:World}{K:Frag}{d:Str->Option Value}{base:Heap}{k n:Nat}{f:Addr}{e:FuncData}{ps:List Str}:bN P w K d base (ic P w) k f e ps (i0 K n .s W0):=
 ⟨by rintro c H Q E ⟨_,_,_,_,_,_,_,z,_⟩;exact z.elim,by rintro A a s H b g c Q E h j i r ⟨_,_,_,_,_,_,_,z,_⟩;exact z.elim⟩
theorem Df.jE{P:Program}{w:World}{K:Frag}{d:Str->Option Value}{base:Heap}{x:Str}{st:Stmt}{ps:List Str}{f:Addr}{h:FuncData}{k n:Nat}{m:Md}{sp:aZ}(D:Df K d x st ps f h)(F:bN P w K d base (ic P w) k f h ps (i0 K n m sp))(j:n=ps.length)(i:∀a P R,sp a P R->a.length=n){e:Nat}(l:k<=e):
 ∃g n c,d x=some g/\d7 P w K d base c g n (i0 K n m sp)/\c<=e/\∀a P R,sp a P R->a.length=n:=by
 subst j;exact⟨_,_,k,D.m,.fn D.F.kp D.b F,l,i⟩
theorem Dm.jE{P:Program}{w:World}{K:Frag}{g:Str->Option Value}{base:Heap}{x q:Str}{st:Stmt}{ps:List Str}{C f:Addr}{a:FuncData}{k n:Nat}{m:Md}{sp:aZ}(D:Dm K C x q st ps f a)(F:bN P w K g base (ic P w) k f a ps (i0 K n m sp))(i:∀c P R,sp c P R->c.length=n){h:Nat}(j:k<=h){G:W}(l:G=.cls C):
 ∃f a ps n d,(∀C,G=.cls C->Meth K C x f)/\Binds K a ps []/\bN P w K g base (ic P w) d f a ps (i0 K n m sp)/\d<=h/\∀c P R,sp c P R->c.length=n:=
 ⟨f,a,ps,n,k,λo e=>by rw[l]at e;cases e;exact D.M,D.b,F,j,i⟩
end VL
namespace VL
open PySem PySem.Spec
open PyProof.Rows hiding St
open L2 Num
abbrev bK(m:Md)(P:W->Prop)(R:Addr->Prop):Dn:=⟨fall m P,P,λ_=>False,λ_=>False,R⟩
noncomputable def wI(ns:List Int):W:=.lst (ns.map W.int)
theorem bf{b:W->Dn->Ev->Prop}{D:Dn}{d:List W}{a:Ev}(J:Nat->Ev->Prop)(n:J 0 a)(l:∀i w a N,d[i]?=some w->J i a->(∀c,J (i+1) c->N c)->b w ⟨N,D.rt,D.nx,N,λ_=>False⟩ a)(m:∀a,J d.length a->D.nx a):mF b D d a:=by
 have:∀k i a,i+k=d.length->J i a->mF b D (d.drop i) a:=by
  intro k
  induction k with
  |zero=>intro i a e j;rw[Zk (by lia),mF];exact m a (by rw[<-e];exact j)
  |succ k h=>
   intro i a e j;have f:i<d.length:=by lia
   rw[bj f,mF];exact l i _ a _ (BM f) j λc g=>h (i+1) c (by lia) g
 exact this d.length 0 a (by lia) n
theorem aK{x y:Int}{n m:Nat}(h:x.natAbs<2^n)(b:y.natAbs<2^m)(a:n+m<=134217728):IntMulOk x y:=z9 (DL (Yo (bits_le h) (bits_le b)) a)
theorem kX{y:Int}{n:Nat}(h:y.natAbs<2^n)(a:n<=8000):y.natAbs.log2<1000000000:=by
 rcases cb y.natAbs with e|e
 .rw[e];decide
 .have:=(X6 (V5 e)).mpr h;lia
theorem Ii{y:Int}{n:Nat}(h:y.natAbs<2^n)(a:n<=100000000):y.natAbs.log2<1000000000:=by
 rcases cb y.natAbs with e|e
 .rw[e];decide
 .have:=(X6 (V5 e)).mpr h;lia
theorem yW(r:Rat):(r.den:Int).natAbs=r.den:=I0 _
theorem mQ(r:Rat):(r.den:Int)≠0:=by have:=r.den_pos;lia
theorem W2(a b:Rat):BK (a.num*b.den+b.num*a.den) (a.den*b.den)=a+b:=by
 conv=>rhs;rw[<-Qr a,<-Qr b]
 exact(Rat.divInt_add_divInt _ _ (mQ a) (mQ b)).symm
theorem SK(a b:Rat):BK (a.num*b.num) (a.den*b.den)=a*b:=by
 conv=>rhs;rw[<-Qr a,<-Qr b]
 exact(b6 _ _).symm
noncomputable def rQ:List CS:=[.ret (.comp [0] true 1 (.var 0) (.bl true) (.bin .Mult (.var 2) (.var 0)))]
noncomputable def mR:aZ:=λc Q _=>∃(a:List Int)(b:Int),c=[wI a,.int b]/\a.length<=1000/\(∀x∈a,IntMulOk b x)/\Q (wI (a.map (b*·)))
theorem Ij{e:Nat->aZ}{G:Nat->W}{m:Md}(c:List W)(Q:W->Prop)(R:Addr->Prop)(h:mR c Q R):wSs e G rQ (bK m Q R) (ak 2 c):=by obtain⟨d,b,rfl,i,j,a⟩:=h;show wSs _ _ rQ _ [some (wI d),some (.int b)];unfold rQ wI;fin2;refine bY (g:=λx=>.int (b*x)) d [] _ (λx f K k=>⟨j x f,k⟩) (ai (by simpa using i)) ?_;rw[Dy];unfold wI at a;rw[UV]at a;exact a
noncomputable def wz:List CS:=[.xO (.cmp .NotEq (.var 1) (.int 0)) [.par [0,1] [(.var 1),(.bin .Mod (.var 0) (.var 1))]],.ret (.blt .abs [(.var 0)])]
noncomputable def CT:aZ:=λc Q _=>∃a b:Int,c=[.int a,.int b]/\Q (.int (D1 a b:Nat))
theorem MO{k:Nat->aZ}{G:Nat->W}{m:Md}(f:List W)(Q:W->Prop)(R:Addr->Prop)(h:CT f Q R):wSs k G wz (bK m Q R) (ak 2 f):=by
 obtain⟨a,b,rfl,l⟩:=h;show wSs _ _ wz _ [some (.int a),some (.int b)];unfold wz;fin2;refine fT (α:=Int×Int) (λx=>[some (.int x.1),some (.int x.2)]) (λx=>D1 x.1 x.2=D1 a b) (λx=>x.2.natAbs) (a,b) rfl rfl ?_;rintro⟨x,y⟩ g;fin2;refine cK (λd=>?_) (λd=>?_)
 .have c:y≠0:=by simpa using d
  have j:=qG x y (x.fdiv y);have i:=qH x y c;rw[<-Num.fmod_eq]at j i;fin2;exact⟨c,rfl,(y,x.fmod y),rfl,j.trans g,i⟩
 .have c:y=0:=by simpa using d
  subst c;fin2;have e:(if x<0 then-x else x)=((D1 a b:Nat):Int):=by rw[<-g,uj];split<;>lia
  rw[e];exact l
noncomputable def rR:List CS:=[.set 2 (.call 0 [(.var 0),(.var 1)]),.iff (.cmp .Lt (.var 1) (.int 0)) [.set 2 (.bin .Sub (.int 0) (.var 2))] [],.ret (.tup [(.bin .FloorDiv (.var 0) (.var 2)),(.bin .FloorDiv (.var 1) (.var 2))])]
noncomputable def j3:aZ:=λa Q _=>∃(t b:Int)(n:Nat),a=[.int t,.int b]/\n<=100000000/\b≠0/\b.natAbs<2^n/\Q (wq (BK t b))
theorem Ik{G:Nat->W}{m:Md}(i:List W)(Q:W->Prop)(R:Addr->Prop)(h:j3 i Q R):wSs (bV [CT]) G rR (bK m Q R) (ak 3 i):=by
 obtain⟨t,b,n,rfl,j,p,f,c⟩:=h;show wSs _ _ rR _ [some (.int t),some (.int b),none];unfold rR;fin2;refine⟨t,b,rfl,?_⟩;obtain⟨a,l,k⟩:=yf t b p;have o:((D1 t b:Nat):Int).natAbs<2^n:=by have:((D1 t b:Nat):Int)<=b.natAbs:=gL (by clear k l a f;lia) (by rw[Z6];exact X1 ..);omega
 unfold wq at c;generalize((D1 t b:Nat):Int)=g at*;rw[l,k]at c;by_cases e:b<0
 .rw[Bz e]at a c;rw[Bz (IH e)];fin2;rw[b4];have d:=Ii (y:= -g) (by omega) j;exact⟨⟨a,d⟩,⟨a,d⟩,ai (by simp),c⟩
 .rw[Bn e]at a c;rw[Bn (by rw[Gc];exact e)];have d:=Ii (y:=g) o j;exact⟨⟨a,d⟩,⟨a,d⟩,ai (by simp),c⟩
noncomputable def Il:List CS:=[.ret (.call 0 [(.bin .Add (.bin .Mult (.ix (.var 0) (.int 0)) (.ix (.var 1) (.int 1))) (.bin .Mult (.ix (.var 1) (.int 0)) (.ix (.var 0) (.int 1)))),(.bin .Mult (.ix (.var 0) (.int 1)) (.ix (.var 1) (.int 1)))])]
noncomputable def tu(f:Rat->Rat->Rat):aZ:=λc Q _=>∃(a b:Rat)(n m:Nat),c=[wq a,wq b]/\Bd n a/\Bd m b/\n+m<=100000000/\Q (wq (f a b))
theorem W3{G:Nat->W}{m:Md}(f:List W)(Q:W->Prop)(R:Addr->Prop)(h:tu ZL f Q R):wSs (bV [j3]) G Il (bK m Q R) (ak 2 f):=by
 obtain⟨a,b,n,k,rfl,i,g,d,j⟩:=h;show wSs _ _ Il _ [some (wq a),some (wq b)];have c:(a.den:Int).natAbs<2^n:=by rw[yW];exact i.2
 have e:(b.den:Int).natAbs<2^k:=by rw[yW];exact g.2
 unfold Il;fin2;refine⟨_,rfl,_,rfl,aK i.1 e (by lia),_,rfl,_,rfl,aK g.1 c (by lia),_,rfl,_,rfl,aK c e (by lia),?_⟩;refine⟨_,_,n+k,rfl,d,QQ (mQ a) (mQ b),by rw[FS];exact lt_mul c e,?_⟩;rw[W2];exact j
noncomputable def nV:List CS:=[.ret (.call 0 [(.bin .Mult (.ix (.var 0) (.int 0)) (.ix (.var 1) (.int 0))),(.bin .Mult (.ix (.var 0) (.int 1)) (.ix (.var 1) (.int 1)))])]
theorem EA{G:Nat->W}{m:Md}(e:List W)(Q:W->Prop)(R:Addr->Prop)(h:tu R0 e Q R):wSs (bV [j3]) G nV (bK m Q R) (ak 2 e):=by
 obtain⟨a,b,n,k,rfl,g,f,d,j⟩:=h;show wSs _ _ nV _ [some (wq a),some (wq b)];have c:(a.den:Int).natAbs<2^n:=by rw[yW];exact g.2
 have i:(b.den:Int).natAbs<2^k:=by rw[yW];exact f.2
 unfold nV;fin2;refine⟨_,rfl,_,rfl,aK g.1 f.1 (by lia),_,rfl,_,rfl,aK c i (by lia),?_⟩;refine⟨_,_,n+k,rfl,d,QQ (mQ a) (mQ b),by rw[FS];exact lt_mul c i,?_⟩;rw[SK];exact j
noncomputable def Im:List CS:=[.set 1 (.blt .list [(.var 0)]),.xO (.and [(.cmp .NotEq (.var 1) (.lst [])),(.cmp .Eq (.ix (.ix (.var 1) (.neg (.int 1))) (.int 0)) (.int 0))]) [.drop 1],.ret (.var 1)]
noncomputable def MP:aZ:=λb Q _=>∃a:List Rat,b=[af a]/\Q (af (aY a))
theorem W4{g:Nat->aZ}{G:Nat->W}{m:Md}(d:List W)(Q:W->Prop)(R:Addr->Prop)(h:MP d Q R):wSs g G Im (bK m Q R) (ak 2 d):=by
 obtain⟨a,rfl,c⟩:=h;show wSs _ _ Im _ [some (af a),none];unfold Im;dsimp only[wSs,wS,wE,wA,look,ep];unfold af;fin2;refine fT (α:=List Rat) (λx=>[some (af a),some (af x)]) (λx=>aY x=aY a) (λx=>x.length) a rfl rfl ?_;rintro l b;fin2;refine⟨ai (by simp),rP (y:=[]) λk f=>?_⟩;fin2;rcases il l with rfl|⟨t,y,rfl⟩
 .cases cN f rfl;fin2;refine cK (λz=>by cases z) (λ_=>?_);fin2;rw[<-b]at c;exact c
 .rw[rg]at*;cases c8 f (by simp);fin2;refine⟨_,fF eQ,_,rfl,?_⟩;fin2;refine cK (λz=>?_) (λz=>?_)
  .have i:y=0:=xp.mp (Do z);subst i;unfold af;fin2;refine⟨wq 0,?_,t,?_,?_,?_⟩
   .simp
   .rw[T1];simp
   .rw[<-b,iS]
   .simp
  .have j:y≠0:=λe=>by rw[e]at z;cases z
   fin2;rw[iT t j]at b;rw[<-b]at c;exact c
theorem Io(rs:List Rat)(k:Nat):j9 (jz (rs.map wq) (some (k:Int)) (some ((k:Int)+1))++[wq 0]) 0=some (wq (rs.getD k 0)):=by
 have a:((k:Int)+1)=((k+1:Nat):Int):=by lia
 unfold jz;rw[a,HT.pJ,HT.pJ,AN,AC];by_cases h:k<rs.length
 .rw[show min k rs.length=k by lia,show min (k+1) rs.length -k=1 by lia,bj (by simpa using h),BM h];simp[j9,xK]
 .rw[FK (by lia),show min k rs.length=rs.length by lia,Zk (by simp)];simp[j9,xK]
theorem CU(rs:List Rat)(k:Nat):(jz (rs.map wq) (some (k:Int)) (some ((k:Int)+1))).length<=rs.length:=by unfold jz;rw[W1,eB,AN];lia
theorem W5{s:Int}(h:s=1\/s= -1)(r:Rat):W.tup [.int (s*r.num),.int r.den]=wq ((s:Rat)*r):=by
 unfold wq;rcases h with rfl|rfl
 .have e:((1:Int):Rat)*r=r:=by show(1:Rat)*r=r;grind
  rw[e,cn]
 .have e:((-1:Int):Rat)*r= -r:=by show(-1:Rat)*r= -r;grind
  rw[e,fx,g4];rw[show-1*r.num= -r.num by lia]
theorem Ip{n:Nat}{rs:List Rat}(h:∀x∈rs,Bd n x)(k:Nat):Bd (n+1) (rs.getD k 0):=by
 rw[AC];cases e:rs[k]? with
 |none=>exact⟨OK (by decide),me (by lia)⟩
 |some x=>exact Vu (h x (Hk e)) (by lia)
theorem W6{s:Int}(h:s=1\/s= -1){n:Nat}{r:Rat}(b:Bd n r):Bd n ((s:Rat)*r):=by
 rcases h with rfl|rfl
 .have e:((1:Int):Rat)*r=r:=by show(1:Rat)*r=r;grind
  rw[e];exact b
 .have e:((-1:Int):Rat)*r= -r:=by show(-1:Rat)*r= -r;grind
  rw[e];exact Qp b
theorem Iq(n:Nat)(f:Nat->Rat):c7 (n+1) f=c7 n f++[f n]:=by unfold c7;rw[eG,T1];rfl
theorem fU{n i:Nat}{w:W}(h:(eE 0 1 n)[i]?=some w):i<n/\w=.int i:=by unfold eE at h;rw[Dx]at h;obtain⟨j,e,rfl⟩:=PH.mp h;obtain⟨b,a⟩:=FR.mp e;rw[dV]at a;rw[SF]at b;refine⟨b,?_⟩;rw[<-a];simp
noncomputable def wB:List CS:=[.set 3 (.lst []),.fr [4] true (.jP [(.blt .max2 [(.blt .len [(.var 0)]),(.blt .len [(.var 1)])])]) [.set 5 (.ix (.bin .Add (.sl (.var 0) (.var 4) (.bin .Add (.var 4) (.int 1))) (.lst [(.tup [(.int 0),(.int 1)])])) (.int 0)),.set 6 (.ix (.bin .Add (.sl (.var 1) (.var 4) (.bin .Add (.var 4) (.int 1))) (.lst [(.tup [(.int 0),(.int 1)])])) (.int 0)),.app 3 (.call 0 [(.var 5),(.tup [(.bin .Mult (.var 2) (.ix (.var 6) (.int 0))),(.ix (.var 6) (.int 1))])])],.ret (.call 1 [(.var 3)])]
noncomputable def AV:aZ:=λc Q _=>∃(b a:List Rat)(s:Int)(n m:Nat),c=[af b,af a,.int s]/\(∀x∈b,Bd n x)/\(∀x∈a,Bd m x)/\n+m<=99000000/\b.length<=200/\a.length<=200/\(s=1\/s= -1)/\Q (af (aY (c7 (max b.length a.length) λk=>b.getD k 0+(s:Rat)*a.getD k 0)))
theorem CV:W.tup [.int 0,.int 1]=wq 0:=rfl
theorem MQ{G:Nat->W}{m:Md}(l:List W)(Q:W->Prop)(R:Addr->Prop)(h:AV l Q R):wSs (bV [tu ZL,MP]) G wB (bK m Q R) (ak 7 l):=by
 obtain⟨b,a,s,n,k,rfl,x,v,u,A,z,g,t⟩:=h;show wSs _ _ wB _ [some (af b),some (af a),some (.int s),none,none,none,none];unfold wB af;fin2;refine⟨ai (by simp),?_⟩;have o:(if((a.map wq).length:Int)>((b.map wq).length:Int)then((a.map wq).length:Int)else((b.map wq).length:Int))=((max b.length a.length:Nat):Int):=by rw[AN,AN];split<;>lia
 rw[o];generalize C:max b.length a.length=N at*;have y:N<=200:=by clear o;lia
 refine⟨by lia,by lia,?_⟩;rw[Eg];refine bf (λi q=>∃f d c,q=[some (.lst (b.map wq)),some (.lst (a.map wq)),some (.int s),some (.lst ((c7 i λk=>b.getD k 0+(s:Rat)*a.getD k 0).map wq)),f,d,c]) ⟨none,none,none,rfl⟩ ?_ ?_
 .rintro i w _ D r ⟨f,d,c,rfl⟩ j;obtain⟨B,rfl⟩:=fU r;fin2;simp only[CV];refine⟨ai (by simp),ai (by simp),?_,_,Io b i,ai (by simp),ai (by simp),?_,_,Io a i,?_⟩
  .have:=CU b i;exact ai (by simp;lia)
  .have:=CU a i;exact ai (by simp;lia)
  have p:=Ip v i;refine⟨_,rfl,aK (n:=1) (m:=k+1) (by rcases g with rfl|rfl<;>decide) p.1 (by lia),_,rfl,ai (by simp),?_⟩;rw[W5 g];refine⟨b.getD i 0,(s:Rat)*a.getD i 0,n+1,k+1,rfl,Ip x i,W6 g p,by lia,nU (by rw[AN,e9];lia),j _ ⟨some (.int i),some (wq (b.getD i 0)),some (wq (a.getD i 0)),by rw[Iq,T1];rfl⟩⟩
 .rintro _ ⟨f,d,c,rfl⟩;fin2;have e:(eE 0 1 N).length=N:=by unfold eE;simp
  rw[e];exact⟨_,rfl,t⟩
noncomputable def i8:List CS:=[.set 2 (.bin .Mult (.lst [(.tup [(.int 0),(.int 1)])]) (.blt .max2 [(.int 0),(.bin .Sub (.bin .Add (.blt .len [(.var 0)]) (.blt .len [(.var 1)])) (.int 1))])),.fr [3] true (.jP [(.blt .len [(.var 0)])]) [.fr [4] true (.jP [(.blt .len [(.var 1)])]) [.put 2 (.bin .Add (.var 3) (.var 4)) (.call 0 [(.ix (.var 2) (.bin .Add (.var 3) (.var 4))),(.call 1 [(.ix (.var 0) (.var 3)),(.ix (.var 1) (.var 4))])])]],.ret (.call 2 [(.var 2)])]
noncomputable def dj:aZ:=λd Q _=>∃(a b:List Rat)(n m:Nat),d=[af a,af b]/\(∀x∈a,Bd n x)/\(∀x∈b,Bd m x)/\(∃c:Nat,(∀i j k,i<a.length->Bd c (gS a b i j k))/\c+(n+m)<=100000000)/\a.length<=100/\b.length<=100/\Q (af (aY (mulQ a b)))
theorem i9(n:Nat):(eE 0 1 n).length=n:=by unfold eE;simp
theorem bC{l:List W}{k:Nat}{w:W}(h:l[k]?=some w):j9 l (k:Int)=some w:=by unfold j9 xK;have:=(FR.mp h).1;rw[Bz (by lia),Bz (by lia)];simpa using h
theorem gZ{n k:Nat}(h:k<n):xK n (k:Int)=some k:=by unfold xK;rw[Bz (by lia),Bz (by lia)];simp
theorem wD{rs:List Rat}{k:Nat}(h:k<rs.length):(rs.map wq)[k]?=some (wq (rs.getD k 0)):=by rw[Dx,AC,BM h];rfl
theorem wF{G:Nat->W}{m:Md}(r:List W)(Q:W->Prop)(R:Addr->Prop)(h:dj r Q R):wSs (bV [tu ZL,tu R0,MP]) G i8 (bK m Q R) (ak 5 r):=by
 obtain⟨b,a,n,k,rfl,D,C,⟨J,B,E⟩,L,K,o⟩:=h;show wSs _ _ i8 _ [some (af b),some (af a),none,none,none];unfold i8 af;fin2;simp only[CV];refine⟨ai (by simp),ai (by simp),?_⟩;have H:(if((b.map wq).length:Int)+((a.map wq).length:Int) -1>0 then((b.map wq).length:Int)+((a.map wq).length:Int) -1 else 0)=((b.length+a.length -1:Nat):Int):=by rw[AN,AN];split<;>lia
 rw[H,Eg,fE];refine⟨by lia,by lia,ai (by simp;lia),by rw[AN];lia,by rw[AN];lia,?_⟩;rw[Eg,AN];refine bf (λi l=>∃o3 c,l=[some (.lst (b.map wq)),some (.lst (a.map wq)),some (.lst ((c7 (b.length+a.length -1) (zF b a i)).map wq)),o3,c]) ⟨none,none,?_⟩ ?_ ?_
 .have:c7 (b.length+a.length -1) (zF b a 0)=A0 (b.length+a.length -1) 0:=by unfold c7;have:zF b a 0=λ_=>0:=rfl;rw[this,XO,SF]
  rw[this,ui]
 .rintro i w _ N A ⟨o3,c,rfl⟩ y;obtain⟨p,rfl⟩:=fU A;fin2;refine⟨by rw[AN];lia,by rw[AN];lia,?_⟩;rw[Eg,AN];refine bf (λj l=>∃c,l=[some (.lst (b.map wq)),some (.lst (a.map wq)),some (.lst ((c7 (b.length+a.length -1) (gS b a i j)).map wq)),some (.int i),c]) ⟨c,?_⟩ ?_ ?_
  .rw[show gS b a i 0=zF b a i from funext λk=>DZ b a i k]
  .rintro j w _ M x ⟨c,rfl⟩ v;obtain⟨s,rfl⟩:=fU x;have e:(i:Int)+(j:Int)=((i+j:Nat):Int):=by lia
   have d:i+j<(c7 (b.length+a.length -1) (gS b a i j)).length:=by rw[e9];lia
   fin2;rw[e];refine⟨_,bC (wD d),_,bC (wD p),_,bC (wD s),?_⟩;have u:Bd n (b.getD i 0):=D _ (by rw[AC,BM p];exact Kx _);have t:Bd k (a.getD j 0):=C _ (by rw[AC,BM s];exact Kx _);refine⟨_,_,n,k,rfl,u,t,by lia,?_⟩;have I:(c7 (b.length+a.length -1) (gS b a i j)).getD (i+j) 0=gS b a i j (i+j):=by rw[AC,BU (by rw[e9]at d;exact d)];rfl
   rw[I];refine⟨_,_,J,n+k,rfl,B i j _ p,Aj u t,E,i+j,gZ (by rw[AN];exact d),v _ ⟨some (.int j),?_⟩⟩;have F:(c7 (b.length+a.length -1) (gS b a i j)).set (i+j) (gS b a i j (i+j)+b.getD i 0*a.getD j 0)=c7 (b.length+a.length -1) (gS b a i (j+1)):=by have z:=Gi (n:=b.length+a.length -1) (f:=gS b a i j) (g:=gS b a i (j+1)) (k:=i+j) (by rw[e9]at d;exact d) (λq _ o=>by rw[uy,Bn o,V4]);rw[uy,Bz rfl]at z;exact z
   rw[<-eM,F]
  .rintro _ ⟨c,rfl⟩;refine y _ ⟨some (.int i),c,?_⟩;rw[i9,show gS b a i a.length=zF b a (i+1)from funext λk=>D3 b a i k]
 .rintro _ ⟨o3,c,rfl⟩;fin2;rw[i9];exact⟨_,rfl,o⟩
noncomputable def kY(k:Int)(r:Rat):Prop:=(k=0->r.num.natAbs<=4/\r.den<=3)/\(k=1->r.num.natAbs<=1000/\r.den=1)/\(k=2->r.num.natAbs<=1000000/\r.den<=1000)/\Bd 100 r
theorem wG{k t b:Int}(i:0<b)(d:k=0->t.natAbs<=4/\b<=3)(f:k≠1)(c:k=2->t.natAbs<=1000000/\b<=1000)(a:t.natAbs<2^100/\b.natAbs<2^100):kY k (BK t b):=by obtain⟨h,g⟩:=l5 t b (by omega);exact⟨λe=>⟨by have:=d e;lia,by have:=d e;omega⟩,λe=>absurd e f,λe=>⟨by have:=c e;lia,by have:=c e;omega⟩,GM h a.1,GM g a.2⟩
noncomputable def rS:List CS:=[.iff (.cmp .Eq (.var 3) (.int 0)) [.ret (.call 0 [(.bin .Sub (.bin .Mod (.var 0) (.int 9)) (.int 4)),(.bin .Add (.int 1) (.bin .Mod (.var 1) (.int 3)))])] [],.iff (.cmp .Eq (.var 3) (.int 1)) [.ret (.tup [(.bin .Sub (.bin .Mod (.var 0) (.int 2001)) (.int 1000)),(.int 1)])] [],.iff (.cmp .Eq (.var 3) (.int 2)) [.ret (.call 0 [(.bin .Sub (.bin .Mod (.var 0) (.int 2000001)) (.int 1000000)),(.bin .Add (.int 1) (.bin .Mod (.var 1) (.int 1000)))])] [],.set 4 (.bin .Add (.bin .Add (.bin .Add (.bin .Mult (.var 0) (.bin .Pow (.int 10) (.int 21))) (.bin .Mult (.var 1) (.bin .Pow (.int 10) (.int 12)))) (.bin .Mult (.var 2) (.bin .Pow (.int 10) (.int 3)))) (.bin .Mod (.var 0) (.int 1000))),.set 5 (.bin .Add (.bin .Add (.bin .Add (.bin .Mult (.var 1) (.bin .Pow (.int 10) (.int 21))) (.bin .Mult (.var 2) (.bin .Pow (.int 10) (.int 12)))) (.bin .Mult (.var 0) (.bin .Pow (.int 10) (.int 3)))) (.bin .Mod (.var 1) (.int 1000))),.ret (.call 0 [(.bin .Sub (.bin .Mod (.var 4) (.bin .Add (.bin .Mult (.int 2) (.bin .Pow (.int 10) (.int 30))) (.int 1))) (.bin .Pow (.int 10) (.int 30))),(.bin .Add (.int 1) (.bin .Mod (.var 5) (.bin .Pow (.int 10) (.int 30))))])]
noncomputable def qb:aZ:=λa Q _=>∃x y z k:Int,a=[.int x,.int y,.int z,.int k]/\(0<=x/\x<1000000007)/\(0<=y/\y<1000000007)/\(0<=z/\z<1000000007)/\∀r,kY k r->Q (wq r)
theorem fm{x:Int}{n:Int}(a:0<n):0<=x.fmod n/\x.fmod n<n:=⟨Int.fmod_nonneg_of_pos x a,Int.fmod_lt_of_pos x a⟩
theorem Ir{G:Nat->W}{m:Md}(A:List W)(Q:W->Prop)(R:Addr->Prop)(h:qb A Q R):wSs (bV [j3]) G rS (bK m Q R) (ak 6 A):=by
 obtain⟨x,y,z,k,rfl,d,c,hz,p⟩:=h;show wSs _ _ rS _ [some (.int x),some (.int y),some (.int z),some (.int k),none,none];unfold rS;fin2;by_cases a:k=0
 .rw[Bz (IH a)];have f:=fm (x:=x) (n:=9) (by decide);have i:=fm (x:=y) (n:=3) (by decide);refine⟨by decide,by decide,_,_,2,rfl,by decide,by clear i f a hz c d;lia,by omega,p _ (wG (by clear i f a hz c d;lia) (λ_=>by clear i f a hz c d;lia) (by omega) (λ_=>by lia) ⟨GM (show _<=4 by clear i f a hz c d;lia) (by decide),GM (show _<=3 by omega) (by decide)⟩)⟩
 rw[Bn (by rw[Gc];exact a)];by_cases g:k=1
 .rw[Bz (IH g)];have f:=fm (x:=x) (n:=2001) (by decide);refine⟨by decide,ai (by simp),?_⟩;have:=p ((x.fmod 2001 -1000:Int):Rat) ⟨λe=>absurd e a,λ_=>⟨?_,rfl⟩,λe=>absurd e (by lia),?_,?_⟩
  .exact this
  .show(x.fmod 2001 -1000).natAbs<=1000;clear f g a hz c d;lia
  .show(x.fmod 2001 -1000).natAbs<_;exact GM (show _<=1000 by clear f g a hz c d;lia) (by decide)
  .exact me (by decide)
 rw[Bn (by rw[Gc];exact g)];by_cases j:k=2
 .rw[Bz (IH j)];have f:=fm (x:=x) (n:=2000001) (by decide);have i:=fm (x:=y) (n:=1000) (by decide);refine⟨by decide,by decide,_,_,11,rfl,by decide,by clear i f j g a hz c d;lia,by omega,p _ (wG (by clear i f j g a hz c d;lia) (λ_=>by lia) g (λ_=>by clear i f j g a hz c d;lia) ⟨GM (show _<=1000000 by clear i f j g a hz c d;lia) (by decide),GM (show _<=1000 by omega) (by decide)⟩)⟩
 rw[Bn (by rw[Gc];exact j)];have l:sR 10 21:=gk (by decide) (by decide) (by decide);have o:sR 10 12:=gk (by decide) (by decide) (by decide);have B:sR 10 3:=gk (by decide) (by decide) (by decide);have w:sR 10 30:=gk (by decide) (by decide) (by decide);have r:(10:Int)^Zl 21=1000000000000000000000:=rfl;have s:(10:Int)^Zl 12=1000000000000:=rfl;have D:(10:Int)^Zl 3=1000:=rfl;have q:(10:Int)^Zl 30=1000000000000000000000000000000:=rfl;rw[r,s,D,q];have mo:∀(u v:Int),0<=u->u<1000000007->v.natAbs<2^101->IntMulOk u v:=λu v H F C=>aK (n:=30) (m:=101) (by lia) C (by decide);refine⟨l,mo _ _ d.1 d.2 (by decide),o,mo _ _ c.1 c.2 (by decide),B,mo _ _ hz.1 hz.2 (by decide),by decide,l,mo _ _ c.1 c.2 (by decide),o,mo _ _ hz.1 hz.2 (by decide),B,mo _ _ d.1 d.2 (by decide),by decide,w,mo _ _ (by decide) (by decide) (by decide),by decide,w,w,by decide,?_⟩;generalize x*1000000000000000000000+y*1000000000000+z*1000+x.fmod 1000=t;generalize y*1000000000000000000000+z*1000000000000+x*1000+y.fmod 1000=b;have f:=fm (x:=t) (n:=2*1000000000000000000000000000000+1) (by decide);have i:=fm (x:=b) (n:=1000000000000000000000000000000) (by decide);have E:(1000000000000000000000000000000:Nat)<2^100:=by decide
 refine⟨_,_,100,rfl,by decide,by omega,by omega,p _ (wG (by omega) (λe=>absurd e a) g (λe=>absurd e j) ⟨by omega,by omega⟩)⟩
theorem aH{b:Nat->aZ}{G:Nat->W}{s t:CS}{d:List CS}{D:Dn}{c:Ev}(J:Ev->Prop)(f:∀N:Ev->Prop,(∀a,J a->N a)->wS b G s {D with nx:=N} c)(e:∀a,J a->wSs b G (t::d) D a):wSs b G (s::t::d) D c:=f _ e
noncomputable def wH:List CS:=[.set 2 (.int 0),.iff (.or [(.cmp .Lt (.var 0) (.int 0)),(.cmp .GtE (.var 0) (.bin .Pow (.int 10) (.int 18)))]) [.set 2 (.blt .abs [(.var 0)])] [],.set 3 (.bin .Add (.bin .Mod (.var 0) (.int 1999999943)) (.int 3)),.set 4 (.bin .Add (.bin .Mod (.bin .Mult (.var 3) (.var 3)) (.int 1999999973)) (.int 1)),.set 5 (.lst []),.fr [6] true (.jP [(.var 1)]) [.set 3 (.bin .Mod (.bin .Add (.bin .Add (.bin .Add (.bin .Mult (.var 3) (.var 3)) (.var 4)) (.bin .Mult (.int 2) (.var 6))) (.int 1)) (.int 1999999973)),.set 4 (.bin .Mod (.bin .Add (.bin .Add (.bin .Mult (.var 4) (.int 69069)) (.bin .Mult (.var 3) (.int 40692))) (.var 6)) (.int 1999999943)),.set 7 (.bin .Mod (.bin .Add (.var 3) (.bin .Mult (.var 4) (.var 4))) (.int 1000000007)),.iff (.cmp .Gt (.var 2) (.int 0)) [.set 7 (.bin .Mod (.var 2) (.int 1000000007)),.set 2 (.bin .FloorDiv (.var 2) (.int 1000000007))] [],.app 5 (.var 7)],.ret (.var 5)]
noncomputable def wJ:aZ:=λb Q _=>∃(c m:Int),b=[.int c,.int m]/\0<=m/\m<=900/\∀a:List Int,(a.length:Int)=m->(∀n∈a,0<=n/\n<1000000007)->Q (wI a)
theorem MR{K:Nat->aZ}{G:Nat->W}{m:Md}(C:List W)(Q:W->Prop)(R:Addr->Prop)(h:wJ C Q R):wSs K G wH (bK m Q R) (ak 8 C):=by
 obtain⟨c,k,rfl,F,E,S⟩:=h;show wSs _ _ wH _ [some (.int c),some (.int k),none,none,none,none,none,none];unfold wH;refine aH (λf=>f=[some (.int c),some (.int k),some (.int 0),none,none,none,none,none]) (λN e=>?_) ?_
 .fin2;exact e _ rfl
 rintro _ rfl;refine aH (λf=>∃r:Int,0<=r/\f=[some (.int c),some (.int k),some (.int r),none,none,none,none,none]) (λN e=>?_) ?_
 .fin2;by_cases h:c<0
  .rw[Bz (IH h)];exact e _ ⟨_,by split<;>lia,rfl⟩
  .rw[Bn (by rw[Gc];exact h)];refine⟨gk (by decide) (by decide) (by decide),?_⟩;split
   .exact e _ ⟨_,by lia,rfl⟩
   .exact e _ ⟨0,by decide,rfl⟩
 rintro _ ⟨r,g,rfl⟩;have I:=fm (x:=c) (n:=1999999943) (by decide);have j:(2000000000:Nat)<2^31:=by decide
 fin2;refine⟨by decide,aK (n:=31) (m:=31) (by clear j I g E F;lia) (by clear j I g E F;lia) (by decide),by decide,ai (by simp),by lia,by lia,?_⟩;obtain⟨x,O⟩:∃x,x=c.fmod 1999999943+3:=⟨_,rfl⟩;rw[<-O];have f2:=fm (x:=x*x) (n:=1999999973) (by decide);generalize(x*x).fmod 1999999973=y at*;refine bf (λi J=>∃(r x y:Int)(d:List Int)(p o:Option W),((0<=r/\0<=x/\x<2000000000/\0<=y/\y<2000000000)/\d.length=i/\∀n∈d,0<=n/\n<1000000007)/\J=[some (.int c),some (.int k),some (.int r),some (.int x),some (.int y),some (wI d),p,o]) ⟨r,x,y+1,[],none,none,⟨⟨g,by lia,by lia,by lia,by lia⟩,rfl,by simp⟩,rfl⟩ ?_ ?_
 .rintro i w _ N P ⟨r,x,y,d,p,o,⟨⟨g,B,A,M,L⟩,s,t⟩,rfl⟩ e;obtain⟨Z,rfl⟩:=fU P;unfold wI;fin2;have Y:=fm (x:=x*x+y+2*(i:Int)+1) (n:=1999999973) (by decide);generalize(x*x+y+2*(i:Int)+1).fmod 1999999973=u at*;have H:=fm (x:=y*69069+u*40692+(i:Int)) (n:=1999999943) (by decide);generalize(y*69069+u*40692+(i:Int)).fmod 1999999943=v at*;have X:=fm (x:=u+v*v) (n:=1000000007) (by decide);generalize(u+v*v).fmod 1000000007=q at*;have U:=fm (x:=r) (n:=1000000007) (by decide);have D:(d.map W.int).length<sizeLine:=nU (by rw[AN];lia);have l:∀z:Int,0<=z/\z<1000000007->(d++[z]).length=i+1/\∀n∈d++[z],0<=n/\n<1000000007:=λz hz=>by
   refine⟨by rw[Fm,s];rfl,λn T=>?_⟩;rcases Hb.mp T with h|h
   .exact t n h
   .rw[Fu.mp h];exact hz
  have mo:∀a b:Int,0<=a->a<2000000000->0<=b->b<2000000000->IntMulOk a b:=λa b h1 h2 h3 h4=>aK (n:=31) (m:=31) (by lia) (by lia) (by decide);refine⟨mo _ _ B A B A,mo _ _ (by decide) (by decide) (by lia) (by lia),by decide,mo _ _ M L (by decide) (by decide),mo _ _ Y.1 (by lia) (by decide) (by decide),by decide,mo _ _ H.1 (by lia) H.1 (by lia),by decide,?_⟩;by_cases h:0<r
  .rw[Bz (IH h)];refine⟨by decide,⟨by decide,by decide⟩,D,e _ ⟨r.fdiv 1000000007,u,v,d++[r.fmod 1000000007],some (.int i),some (.int (r.fmod 1000000007)),⟨⟨Int.fdiv_nonneg g (by decide),by lia,by lia,by lia,by lia⟩,l _ U⟩,?_⟩⟩;unfold wI;rw[T1];rfl
  .rw[Bn (by rw[Gc];exact h)];refine⟨D,e _ ⟨r,u,v,d++[q],some (.int i),some (.int q),⟨⟨g,by lia,by lia,by lia,by lia⟩,l _ X⟩,?_⟩⟩;unfold wI;rw[T1];rfl
 .rintro _ ⟨r,x,y,d,p,o,⟨_,s,t⟩,rfl⟩;fin2;rw[i9]at s;exact S d (by lia) t
theorem EB(k:Int):kY k 0:=⟨λ_=>by decide,λ_=>by decide,λ_=>by decide,OK (by decide),me (by decide)⟩
theorem int_at{ns:List Int}{k:Nat}(h:k<ns.length):(ns.map W.int)[k]?=some (.int (ns.getD k 0)):=by rw[Dx,AC,BM h];rfl
theorem wK{ns:List Int}{P:Int->Prop}(h:∀n∈ns,P n){k:Nat}(a:k<ns.length):P (ns.getD k 0):=by rw[AC,BM a];exact h _ (Kx _)
noncomputable def Iu:List CS:=[.set 3 (.call 0 [(.var 0),(.bin .Add (.bin .Mult (.int 3) (.var 1)) (.int 2))]),.set 4 (.lst []),.fr [5] true (.jP [(.bin .Mod (.ix (.var 3) (.int 0)) (.bin .Add (.var 1) (.int 1)))]) [.set 6 (.call 1 [(.ix (.var 3) (.bin .Add (.int 2) (.bin .Mult (.int 3) (.var 5)))),(.ix (.var 3) (.bin .Add (.int 3) (.bin .Mult (.int 3) (.var 5)))),(.ix (.var 3) (.bin .Add (.int 4) (.bin .Mult (.int 3) (.var 5)))),(.var 2)]),.iff (.cmp .Eq (.bin .Mod (.bin .RShift (.ix (.var 3) (.int 1)) (.var 5)) (.int 4)) (.int 1)) [.set 6 (.tup [(.int 0),(.int 1)])] [],.app 4 (.var 6)],.xO (.and [(.cmp .NotEq (.var 4) (.lst [])),(.cmp .Eq (.ix (.ix (.var 4) (.neg (.int 1))) (.int 0)) (.int 0))]) [.drop 4],.ret (.var 4)]
noncomputable def SM:aZ:=λb Q _=>∃(c m k:Int),b=[.int c,.int m,.int k]/\0<=m/\m<=21/\∀a:List Rat,a.length<=m.toNat->(∀x∈a,kY k x)->ao a->Q (af a)
theorem W7{G:Nat->W}{L:Md}(D:List W)(Q:W->Prop)(R:Addr->Prop)(h:SM D Q R):wSs (bV [wJ,qb]) G Iu (bK L Q R) (ak 7 D):=by
 obtain⟨c,m,k,rfl,T,S,F⟩:=h;show wSs _ _ Iu _ [some (.int c),some (.int m),some (.int k),none,none,none,none];unfold Iu;fin2;refine⟨aK (n:=2) (m:=5) (by decide) (by lia) (by decide),c,3*m+2,rfl,by lia,by lia,λd X P=>?_⟩;have U:2<=d.length:=by lia
 unfold wI;fin2;refine⟨ai (by simp),_,bC (k:=0) (int_at (by lia)),?_⟩;fin2;have Z:=fm (x:=d.getD 0 0) (n:=m+1) (by lia);generalize(d.getD 0 0).fmod (m+1)=n at*;refine⟨by lia,by lia,by lia,?_⟩;refine bf (λi I=>∃(a:List Rat)(p o:Option W),(a.length=i/\∀x∈a,kY k x)/\I=[some (.int c),some (.int m),some (.int k),some (.lst (d.map W.int)),some (.lst (a.map wq)),p,o]) ⟨[],none,none,⟨rfl,by simp⟩,rfl⟩ ?_ ?_
 .rintro i w _ N M ⟨a,p,o,⟨s,A⟩,rfl⟩ H;obtain⟨Y,rfl⟩:=fU M;fin2;have mo:IntMulOk 3 (i:Int):=aK (n:=2) (m:=10) (by decide) (by lia) (by decide);have B:∀j:Nat,j<=4->j9 (d.map W.int) ((j:Int)+3*(i:Int))=some (.int (d.getD (j+3*i) 0)):=λj O=>by rw[show(j:Int)+3*(i:Int)=((j+3*i:Nat):Int) by lia];exact bC (int_at (by lia))
  have C:∀j:Nat,j<=4->0<=d.getD (j+3*i) 0/\d.getD (j+3*i) 0<1000000007:=λj O=>wK P (by lia);have E:(a.map wq).length<sizeLine:=nU (by rw[AN];lia);have l:∀z:Rat,kY k z->(a++[z]).length=i+1/\∀x∈a++[z],kY k x:=λz hz=>by
   refine⟨by rw[Fm,s];rfl,λx f=>?_⟩;rcases Hb.mp f with h|h
   .exact A x h
   .rw[Fu.mp h];exact hz
  refine⟨mo,_,B 2 (by decide),mo,_,B 3 (by decide),mo,_,B 4 (by decide),_,_,_,k,rfl,C 2 (by decide),C 3 (by decide),C 4 (by decide),λq u=>⟨_,bC (k:=1) (int_at (by lia)),?_⟩⟩;fin2;refine⟨by lia,by decide,?_⟩;split
  .exact⟨ai (by simp),E,H _ ⟨a++[0],_,_,l 0 (EB k),by rw[T1];rfl⟩⟩
  .exact⟨E,H _ ⟨a++[q],_,_,l q u,by rw[T1];rfl⟩⟩
 .rintro _ ⟨a,p,o,⟨s,A⟩,rfl⟩;rw[i9]at s;fin2;refine fT (α:=List Rat) (λx=>[some (.int c),some (.int m),some (.int k),some (.lst (d.map W.int)),some (af x),p,o]) (λx=>x.length<=m.toNat/\∀y∈x,kY k y) (λx=>x.length) a rfl ⟨by lia,A⟩ ?_;rintro K ⟨r,v⟩;fin2;refine⟨ai (by simp),rP (y:=[]) λb g=>?_⟩;fin2;rcases il K with rfl|⟨t,y,rfl⟩
  .cases cN g rfl;fin2;refine cK (λz=>by cases z) (λ_=>?_);fin2;exact F [] r v λx f=>by cases f
  .rw[rg]at*;cases c8 g (by simp);fin2;refine⟨_,fF eQ,_,rfl,?_⟩;fin2;refine cK (λz=>?_) (λz=>?_)
   .unfold af;fin2;refine⟨wq y,by simp,t,by rw[T1];simp,⟨?_,λx f=>v x (QR _ f)⟩,by simp⟩;rw[Fm]at r;lia
   .have J:y≠0:=λe=>by rw[e]at z;cases z
    fin2;exact F _ r v λx f=>by rw[eQ]at f;cases f;exact J
theorem Iv(ns:List Int)(k:Nat)(h:k<=ns.length):jz (ns.map W.int) none (some (k:Int))=(ns.take k).map W.int:=by unfold jz;rw[HT.pJ,HT.xX,AN,List.drop_zero,show min k ns.length -0=k by lia,ZG]
noncomputable def nW:List CS:=[.set 1 (.blt .len [(.var 0)]),.xO (.and [(.cmp .Gt (.var 1) (.int 0)),(.cmp .Eq (.ix (.var 0) (.bin .Sub (.var 1) (.int 1))) (.int 0))]) [.set 1 (.bin .Sub (.var 1) (.int 1))],.ret (.sl (.var 0) .aW (.var 1))]
noncomputable def gC:aZ:=λc Q _=>∃a:List Int,c=[wI a]/\∀b,fM a b->Q (wI b)
theorem EC{l:Nat->aZ}{G:Nat->W}{m:Md}(i:List W)(Q:W->Prop)(R:Addr->Prop)(h:gC i Q R):wSs l G nW (bK m Q R) (ak 2 i):=by
 obtain⟨c,rfl,n⟩:=h;show wSs _ _ nW _ [some (wI c),none];unfold nW wI;fin2;refine fT (α:=Nat) (λk=>[some (.lst (c.map W.int)),some (.int k)]) (λk=>k<=c.length/\∀j,k<=j->j<c.length->c.getD j 0=0) (λk=>k) c.length (by rw[AN]) ⟨Da _,λj g f=>by lia⟩ ?_;rintro k ⟨g,f⟩;fin2;have d:(k=0\/c.getD (k -1) 0≠0)->Q (.lst (jz (c.map W.int) none (some (k:Int)))):=λh=>by rw[Iv c k g];exact n _ ⟨k,g,rfl,f,h⟩
 by_cases o:0<k
 .rw[Bz (IH (by lia))];rw[show(k:Int) -1=((k -1:Nat):Int) by lia];refine⟨_,bC (int_at (by lia)),?_⟩;fin2;refine cK (λz=>?_) (λz=>?_)
  .have z:=Do z;fin2;refine⟨k -1,by rw[show(k:Int) -1=((k -1:Nat):Int) by lia],⟨by lia,λj a b=>?_⟩,by show k -1<k;lia⟩;by_cases e:j=k -1
   .rw[e];exact z
   .exact f j (by lia) b
  .have z:=bo z;fin2;exact d (.inr z)
 .rw[Bn (by rw[Gc];lia)];refine cK (λz=>by cases z) (λ_=>?_);fin2;exact d (.inl (by lia))
noncomputable def jc:List CS:=[.set 2 (.blt .max2 [(.blt .len [(.var 0)]),(.blt .len [(.var 1)])]),.set 3 (.bin .Add (.blt .list [(.var 0)]) (.bin .Mult (.lst [(.int 0)]) (.bin .Sub (.var 2) (.blt .len [(.var 0)])))),.fr [4,5] false (.uE (.var 1)) [.put 3 (.var 4) (.bin .Add (.ix (.var 3) (.var 4)) (.var 5))],.ret (.call 0 [(.var 3)])]
noncomputable def jF:aZ:=λd Q _=>∃a b:List Int,d=[wI a,wI b]/\a.length<=200/\b.length<=200/\∀c,fM ((D2 (max a.length b.length)).map λk=>a.getD k 0+b.getD k 0) c->Q (wI c)
theorem wL{G:Nat->W}{m:Md}(t:List W)(Q:W->Prop)(R:Addr->Prop)(h:jF t Q R):wSs (bV [gC]) G jc (bK m Q R) (ak 6 t):=by
 obtain⟨b,a,rfl,u,v,E⟩:=h;show wSs _ _ jc _ [some (wI b),some (wI a),none,none,none,none];unfold jc wI;fin2;have c:(if((a.map W.int).length:Int)>((b.map W.int).length:Int)then((a.map W.int).length:Int)else((b.map W.int).length:Int))=((max b.length a.length:Nat):Int):=by rw[AN,AN];split<;>lia
 rw[c];have d:((max b.length a.length:Nat):Int) -((b.map W.int).length:Int)=((max b.length a.length -b.length:Nat):Int):=by rw[AN];clear c v u;lia
 rw[d,Eg,fE];generalize J:max b.length a.length=L at*;refine⟨ai (by simp),by clear d c J v u;lia,by clear d c;lia,ai (by simp;clear d c;lia),ai (by simp;clear d c;lia),?_⟩;have g:∀(f:Nat->Int)(k:Nat),k<L->((D2 L).map f)[k]?=some (f k):=λf k F=>by rw[Dx,SB F];rfl
 refine bf (λi z=>∃o n,z=[some (.lst (b.map W.int)),some (.lst (a.map W.int)),some (.int L),some (.lst (((D2 L).map λk=>b.getD k 0+if k<i then a.getD k 0 else 0).map W.int)),o,n]) ⟨none,none,?_⟩ ?_ ?_
 .have:b.map W.int++A0 (L -b.length) (W.int 0)=((D2 L).map λk=>b.getD k 0+if k<0 then a.getD k 0 else 0).map W.int:=by
   refine cw λq=>?_;by_cases s:q<b.length
   .rw[KE (by simpa using s),int_at s,Dx,g _ q (by lia),Bn (by lia),fo];rfl
   .by_cases j:q<L
    .rw[Ha (by simpa using s),h9,Bz (by rw[AN];omega),Dx,g _ q j,Bn (by lia),AC,FK (by lia)];rfl
    .rw[FK (by simp;omega),FK (by simp;lia)]
  rw[this]
 .rintro i w _ N C ⟨o,n,rfl⟩ I;obtain⟨x,p,rfl⟩:=nN C;have H:i<a.length:=by have:=(FR.mp p).1;simpa using this
  rw[int_at H]at p;cases p;fin2;have r:i<L:=by omega
  refine⟨rfl,_,bC (by rw[Dx,g _ i r];rfl),?_⟩;fin2;refine⟨i,gZ (by simpa using r),I _ ⟨some (.int i),some (.int (a.getD i 0)),?_⟩⟩;have:((D2 L).map λk=>b.getD k 0+if k<i then a.getD k 0 else 0).set i (b.getD i 0+(if i<i then a.getD i 0 else 0)+a.getD i 0)=(D2 L).map λk=>b.getD k 0+if k<i+1 then a.getD k 0 else 0:=by
   refine cw λq=>?_;rw[oy];by_cases j:q<L
   .rw[g _ q j,g _ q j];by_cases e:i=q
    .subst e;rw[Bz rfl,Bz (by simpa using r),Bn (by lia),Bz (by lia)];congr 1;lia
    .rw[Bn e];by_cases y:q<i
     .rw[Bz y,Bz (by lia)]
     .rw[Bn y,Bn (by lia)]
   .rw[Bn (by lia),FK (by simp;lia),FK (by simp;lia)]
  rw[<-this,eM]
 .rintro _ ⟨o,n,rfl⟩;have B:(gK (a.map W.int)).length=a.length:=by unfold gK;simp
  rw[B];fin2;refine⟨_,rfl,λA D=>E A ?_⟩;have:((D2 L).map λk=>b.getD k 0+if k<a.length then a.getD k 0 else 0)=(D2 L).map λk=>b.getD k 0+a.getD k 0:=by
   refine tj λk _=>?_;by_cases h:k<a.length
   .rw[Bz h]
   .rw[Bn h,AC (l:=a),FK (by lia)];rfl
  rw[<-this];exact D
noncomputable def g5:List CS:=[.ret (.call 0 [(.var 0),(.call 1 [(.var 1),(.neg (.int 1))])])]
noncomputable def jd:aZ:=λe Q _=>∃(c a:List Int)(b:Nat),e=[wI c,wI a]/\c.length<=200/\a.length<=200/\b<=100000000/\(∀x∈a,x.natAbs<2^b)/\∀d,fM ((D2 (max c.length a.length)).map λk=>c.getD k 0 -a.getD k 0) d->Q (wI d)
theorem tw{G:Nat->W}{m:Md}(e:List W)(Q:W->Prop)(R:Addr->Prop)(h:jd e Q R):wSs (bV [jF,mR]) G g5 (bK m Q R) (ak 2 e):=by
 obtain⟨c,a,b,rfl,i,j,q,d,p⟩:=h;show wSs _ _ g5 _ [some (wI c),some (wI a)];unfold g5;fin2;refine⟨a,-1,rfl,by lia,λx o=>aK (n:=1) (m:=b) (by decide) (d x o) (by lia),?_⟩;refine⟨c,a.map (-1*·),rfl,i,by rw[AN];exact j,λg f=>p g ?_⟩;rw[AN]at f;have:((D2 (max c.length a.length)).map λk=>c.getD k 0+(a.map (-1*·)).getD k 0)=(D2 (max c.length a.length)).map λk=>c.getD k 0 -a.getD k 0:=by
  refine tj λk _=>?_;rw[AC (l:=a.map _),Dx,AC (l:=a)];cases a[k]? with
  |none=>show _+(0:Int)=_ -(0:Int);lia
  |some z=>show _+ -1*z=_ -z;lia
 rw[<-this];exact f
noncomputable def rT:List CS:=[.set 2 (.int 1),.xO (.cmp .Gt (.var 1) (.int 0)) [.iff (.cmp .Eq (.bin .Mod (.var 1) (.int 2)) (.int 1)) [.set 2 (.bin .Mult (.var 2) (.var 0))] [],.set 1 (.bin .FloorDiv (.var 1) (.int 2)),.iff (.cmp .Gt (.var 1) (.int 0)) [.set 0 (.bin .Mult (.var 0) (.var 0))] []],.ret (.var 2)]
noncomputable def qd:aZ:=λa Q _=>∃(x:Int)(e n:Nat),a=[.int x,.int e]/\x.natAbs<2^n/\n*(e+1)<=60000000/\Q (.int (x^e))
theorem ZM{x:Int}{n:Nat}(h:x.natAbs<2^n)(e:Nat):(x^e).natAbs<2^(n*e+1):=by rw[ey];have:x.natAbs^e<=(2^n)^e:=ag (Oy h) e;rw[<-ml]at this;rw[KO];have:=OK (n:=n*e) (show 0<2 by decide);lia
theorem Iw{u:Nat->aZ}{G:Nat->W}{m:Md}(j:List W)(Q:W->Prop)(R:Addr->Prop)(h:qd j Q R):wSs u G rT (bK m Q R) (ak 3 j):=by
 obtain⟨x,e,n,rfl,y,C,B⟩:=h;show wSs _ _ rT _ [some (.int x),some (.int e),none];unfold rT;fin2;refine fT (α:=Nat×Nat×Nat) (λs=>[some (.int (x^s.1)),some (.int s.2.1),some (.int (x^s.2.2))]) (λs=>s.1*s.2.1+s.2.2=e/\(0<s.2.1->0<s.1)) (λs=>s.2.1) (1,e,0) (by show _=[some (W.int (x^1)),some (W.int (e:Int)),some (W.int (x^0))];rw[NM,SZ,cn]) ⟨by show 1*e+0=e;lia,λ_=>by show 0<1;decide⟩ ?_;rintro⟨a,d,p⟩ ⟨A,k⟩;dsimp only at A k;fin2;refine cK (λz=>?_) (λz=>?_)
 .have f:0<d:=by have:=Do z;lia
  have I:=k f;have c:a<=e:=by have:a*1<=a*d:=GE a f;lia
  have w:p<=e:=by lia
  have t:∀q,q<=e->(x^q).natAbs<2^(n*e+1):=λq g=>FV (ZM y q) (Kt (by decide) (t5 (GE n g) 1));have J:n*e<=60000000:=DL (GE n (sv e)) C;have mo:∀q r,q<=e->r<=e->IntMulOk (x^q) (x^r):=λq r D b=>aK (t q D) (t r b) (by lia);have H:(d:Int).fmod 2=((d%2:Nat):Int):=by rw[Ts _ (by decide)];lia
  have F:(d:Int).fdiv 2=((d/2:Nat):Int):=by rw[du _ (by decide)];lia
  have l:BJ (d:Int) 2:=⟨by decide,by decide⟩;fin2;rw[H,F];refine⟨by decide,?_⟩;have i:a*d=a*(2*(d/2))+a*(d%2):=by rw[<-WR,Nat.div_add_mod]
  have E:a*(2*(d/2))=2*a*(d/2):=by rw[d5 2 a,rn]
  split
  .rename_i h
   have h:=Do h;have o:d%2=1:=by lia
   rw[o,cZ]at i;refine⟨mo p a w c,l,?_⟩;split
   .refine⟨mo a a c c,(2*a,d/2,p+a),?_,⟨?_,λ_=>?_⟩,?_⟩
    .show[some (W.int (x^a*x^a)),some (W.int ((d/2:Nat):Int)),some (W.int (x^p*x^a))]=[some (W.int (x^(2*a))),some (W.int ((d/2:Nat):Int)),some (W.int (x^(p+a)))];rw[mn,hH,mn]
    .show 2*a*(d/2)+(p+a)=e;lia
    .show 0<2*a;lia
    .show d/2<d;lia
   .rename_i b
    rw[Gc]at b;refine⟨(a,d/2,p+a),?_,⟨?_,λz=>?_⟩,?_⟩
    .show[some (W.int (x^a)),some (W.int ((d/2:Nat):Int)),some (W.int (x^p*x^a))]=[some (W.int (x^a)),some (W.int ((d/2:Nat):Int)),some (W.int (x^(p+a)))];rw[mn]
    .show a*(d/2)+(p+a)=e;have v:d/2=0:=by lia
     rw[v]at i E⊢;lia
    .exact I
    .show d/2<d;lia
  .rename_i h
   rw[Gc]at h;have o:d%2=0:=by lia
   rw[o,Pb]at i;refine⟨l,?_⟩;split
   .refine⟨mo a a c c,(2*a,d/2,p),?_,⟨?_,λ_=>?_⟩,?_⟩
    .show[some (W.int (x^a*x^a)),some (W.int ((d/2:Nat):Int)),some (W.int (x^p))]=[some (W.int (x^(2*a))),some (W.int ((d/2:Nat):Int)),some (W.int (x^p))];rw[hH,mn]
    .show 2*a*(d/2)+p=e;lia
    .show 0<2*a;lia
    .show d/2<d;lia
   .rename_i b
    rw[Gc]at b;lia
 .have f:d=0:=by have:=bo z;lia
  subst f;fin2;have:p=e:=by lia
  rw[this];exact B
noncomputable def tabI(n:Nat)(f:Nat->Int):List Int:=(D2 n).map f
theorem f9{n k:Nat}{f:Nat->Int}(h:k<n):(tabI n f)[k]?=some (f k):=by unfold tabI;rw[Dx,SB h];rfl
theorem aP(n:Nat)(f:Nat->Int):(tabI n f).length=n:=by unfold tabI;simp
theorem fG{n k:Nat}{f g:Nat->Int}(h:k<n)(b:∀j,j<n->j≠k->g j=f j):(tabI n f).set k (g k)=tabI n g:=by
 refine cw λq=>?_;rw[oy];by_cases a:q<n
 .rw[f9 a,f9 a];by_cases e:k=q
  .subst e;rw[Bz rfl,Bz (by rw[aP];exact h)]
  .rw[Bn e,b q a (T2 e)]
 .rw[Bn (by lia),FK (by rw[aP];lia),FK (by rw[aP];lia)]
theorem Iz{x y:List Int}{Q:W->Prop}(h:∀k:Bool,(k=true↔x=y)->Q (.bl k)):iY .Eq (wI x) (wI y) Q:=by
 have c:∀z:List Int,sX 9 (.lst (z.map W.int))=true:=λz=>by dsimp only[sX];rw[Kb];intro w d;obtain⟨i,_,rfl⟩:=Ki.mp d;exact wu i 8
 refine⟨.inl ⟨c x,c y⟩,λk f=>h k (f.trans ⟨λe=>?_,λe=>by rw[e]⟩)⟩;exact(TH (λa b e=>W.Cm e)).mp (W.Cn e)
theorem CW{a:List Int}{i:Nat}{w:W}(h:(gK (a.map W.int))[i]?=some w):i<a.length/\w=.tup [.int i,.int (a.getD i 0)]:=by
 obtain⟨x,b,rfl⟩:=nN h;have c:i<a.length:=by have:=(FR.mp b).1;simpa using this
 rw[int_at c]at b;cases b;exact⟨c,rfl⟩
theorem yX(a:List Int):(gK (a.map W.int)).length=a.length:=by unfold gK;simp
noncomputable def g6:List CS:=[.iff (.or [(.cmp .Eq (.var 0) (.lst [])),(.cmp .Eq (.var 1) (.lst []))]) [.ret (.lst [])] [],.set 2 (.bin .Mult (.lst [(.int 0)]) (.bin .Sub (.bin .Add (.blt .len [(.var 0)]) (.blt .len [(.var 1)])) (.int 1))),.fr [3,4] false (.uE (.var 0)) [.iff (.cmp .NotEq (.var 4) (.int 0)) [.fr [5,6] false (.uE (.var 1)) [.put 2 (.bin .Add (.var 3) (.var 5)) (.bin .Add (.ix (.var 2) (.bin .Add (.var 3) (.var 5))) (.bin .Mult (.var 4) (.var 6)))]] []],.ret (.var 2)]
noncomputable def gb:aZ:=λc Q _=>∃a b:List Int,c=[wI a,wI b]/\a.length<=200/\b.length<=200/\(∀x∈a,∀y∈b,IntMulOk x y)/\Q (wI (if a=[]\/b=[]then[]else tabI (a.length+b.length -1) (cf a b a.length)))
theorem tD{D:Nat->aZ}{G:Nat->W}{m:Md}(A:List W)(Q:W->Prop)(R:Addr->Prop)(h:gb A Q R):wSs D G g6 (bK m Q R) (ak 7 A):=by
 obtain⟨a,b,rfl,S,O,J,l⟩:=h;show wSs _ _ g6 _ [some (wI a),some (wI b),none,none,none,none,none];unfold g6;refine aH (λs=>(a≠[]/\b≠[])/\s=[some (wI a),some (wI b),none,none,none,none,none]) (λN r=>?_) ?_
 .fin2;refine⟨ai (by simp),Iz (y:=[]) λU C=>?_⟩;fin2;by_cases o:a=[]
  .cases cN C o;rw[Bz rfl];rw[Bz (.inl o)]at l;exact⟨ai (by simp),l⟩
  .cases c8 C o;rw[Bn (by decide)];refine⟨ai (by simp),Iz (y:=[]) λT B=>?_⟩;fin2;by_cases p:b=[]
   .cases cN B p;rw[Bz rfl];rw[Bz (.inr p)]at l;exact⟨ai (by simp),l⟩
   .cases c8 B p;rw[Bn (by decide)];exact r _ ⟨⟨o,p⟩,rfl⟩
 rintro _ ⟨⟨o,p⟩,rfl⟩;rw[Bn (λz=>z.elim o p)]at l;have X:=FM.mpr o;unfold wI at*;fin2;have M:((a.map W.int).length:Int)+((b.map W.int).length:Int) -1=((a.length+b.length -1:Nat):Int):=by rw[AN,AN];lia
 rw[M,Eg,fE];refine⟨ai (by simp),by lia,by lia,ai (by simp;lia),?_⟩;refine bf (λi t=>∃o3 u d c,t=[some (.lst (a.map W.int)),some (.lst (b.map W.int)),some (.lst ((tabI (a.length+b.length -1) (cf a b i)).map W.int)),o3,u,d,c]) ⟨none,none,none,none,?_⟩ ?_ ?_
 .have:tabI (a.length+b.length -1) (cf a b 0)=A0 (a.length+b.length -1) 0:=by unfold tabI;have:cf a b 0=λ_=>0:=rfl;rw[this,XO,SF]
  rw[this,ui]
 .rintro i w _ N I ⟨o3,u,d,c,rfl⟩ r;obtain⟨L,rfl⟩:=CW I;fin2;refine⟨rfl,?_⟩;by_cases z:a.getD i 0=0
  .rw[IH z];fin2;refine r _ ⟨some (.int i),some (.int (a.getD i 0)),d,c,?_⟩;rw[show cf a b (i+1)=cf a b i from funext λk=>KZ z k]
  .rw[Pi z];fin2;refine bf (λj t=>∃d c,t=[some (.lst (a.map W.int)),some (.lst (b.map W.int)),some (.lst ((tabI (a.length+b.length -1) (E3 a b i j)).map W.int)),some (.int i),some (.int (a.getD i 0)),d,c]) ⟨d,c,?_⟩ ?_ ?_
   .rw[show E3 a b i 0=cf a b i from funext λk=>Gg a b i k]
   .rintro j w _ Y F ⟨d,c,rfl⟩ E;obtain⟨K,rfl⟩:=CW F;have v:i+j<a.length+b.length -1:=by lia
    fin2;rw[show(i:Int)+(j:Int)=((i+j:Nat):Int) by lia];refine⟨rfl,_,bC (by rw[Dx,f9 v];rfl),?_⟩;fin2;refine⟨wK (P:=λx=>IntMulOk x (b.getD j 0)) (λx H=>wK (P:=λy=>IntMulOk x y) (J x H) K) L,i+j,gZ (by rw[AN,aP];exact v),E _ ⟨some (.int j),some (.int (b.getD j 0)),?_⟩⟩;have e:=fG (n:=a.length+b.length -1) (f:=E3 a b i j) (g:=E3 a b i (j+1)) (k:=i+j) v (λq _ l=>by rw[ye,Bn l,fo]);rw[ye,Bz rfl]at e;rw[<-e,eM]
   .rintro _ ⟨d,c,rfl⟩;refine r _ ⟨some (.int i),some (.int (a.getD i 0)),d,c,?_⟩;rw[yX,show E3 a b i b.length=cf a b (i+1)from funext λk=>Gh a b i k]
 .rintro _ ⟨o3,u,d,c,rfl⟩;rw[yX];fin2;exact l
noncomputable def IA:List CS:=[.par [0,1] [(.blt .abs [(.var 0)]),(.blt .abs [(.var 1)])],.xO (.cmp .Gt (.bits (.var 1)) (.glob 0)) [.par [0,1] [(.var 1),(.bin .Mod (.var 0) (.var 1))],.D9 [0,1] (.call 0 [(.call 1 [(.var 0),(.var 1)]),(.var 0),(.var 1)]),.par [0,1] [(.blt .abs [(.var 0)]),(.blt .abs [(.var 1)])]],.xO (.cmp .NotEq (.var 1) (.int 0)) [.par [0,1] [(.var 1),(.bin .Mod (.var 0) (.var 1))]],.ret (.var 0)]
noncomputable def IB:aZ:=λc Q _=>∃(a b:Int)(n:Nat),c=[.int a,.int b]/\b.natAbs<2^n/\n<=6000/\Q (.int (D1 a b:Nat))
theorem Xa{r:Nat->aZ}{m:Md}(p:List W)(Q:W->Prop)(R:Addr->Prop)(h:IB p Q R):wSs r (j8 [.int 6000]) IA (bK m Q R) (ak 2 p):=by
 obtain⟨a,b,n,rfl,v,B,t⟩:=h;show wSs _ _ IA _ [some (.int a),some (.int b)];unfold IA;have A:(if a<0 then-a else a)=(a.natAbs:Int):=by split<;>lia
 have w:(if b<0 then-b else b)=(b.natAbs:Int):=by split<;>lia
 have u:D1 (a.natAbs:Int) (b.natAbs:Int)=D1 a b:=rfl;refine aH (λc=>c=[some (.int (a.natAbs:Int)),some (.int (b.natAbs:Int))]) (λN k=>?_) ?_
 .fin2;rw[A,w];exact⟨rfl,k _ rfl⟩
 rintro _ rfl;have q:Builtin.Int.intBits (b.natAbs:Int)<=n:=bits_le (by rw[I0];exact v);refine aH (λc=>c=[some (.int (a.natAbs:Int)),some (.int (b.natAbs:Int))]) (λN k=>?_) ?_
 .dsimp only[wS];refine fT (α:=Unit) (λ_=>[some (.int (a.natAbs:Int)),some (.int (b.natAbs:Int))]) (λ_=>True) (λ_=>0) () rfl trivial ?_;rintro _ _;fin2;refine cK (λz=>?_) (λ_=>k _ rfl);have:=Do z;lia
 rintro _ rfl;fin2;refine fT (α:=Int×Int) (λx=>[some (.int x.1),some (.int x.2)]) (λx=>D1 x.1 x.2=D1 a b/\0<=x.1/\0<=x.2) (λx=>x.2.natAbs) (a.natAbs,b.natAbs) rfl ⟨u,UC _,UC _⟩ ?_;rintro⟨x,y⟩ ⟨i,s,d⟩;dsimp only at i s d;fin2;refine cK (λj=>?_) (λj=>?_)
 .have g:y≠0:=by simpa using j
  have o:=qG x y (x.fdiv y);have l:=qH x y g;have f:=fm (x:=x) (n:=y) (by clear l o g;lia);rw[<-Num.fmod_eq]at o l;fin2;exact⟨g,rfl,(y,x.fmod y),rfl,⟨o.trans i,d,f.1⟩,l⟩
 .have g:y=0:=by simpa using j
  subst g;fin2;have e:x=((D1 a b:Nat):Int):=by rw[<-i,uj];lia
  rw[e];exact t
noncomputable def kZ:List CS:=[.iff (.cmp .Eq (.var 1) (.int 0)) [.nK] [],.set 2 (.call 0 [(.var 0),(.var 1)]),.iff (.cmp .Lt (.var 1) (.int 0)) [.set 2 (.neg (.var 2))] [],.ret (.tup [(.bin .FloorDiv (.var 0) (.var 2)),(.bin .FloorDiv (.var 1) (.var 2))])]
noncomputable def nX:aZ:=λa Q R=>∃(t b:Int)(n:Nat),a=[.int t,.int b]/\b.natAbs<2^n/\n<=6000/\(b=0->False)/\(b≠0->Q (wq (BK t b)))
theorem AW{G:Nat->W}{m:Md}(k:List W)(Q:W->Prop)(R:Addr->Prop)(h:nX k Q R):wSs (bV [IB]) G kZ (bK m Q R) (ak 3 k):=by
 obtain⟨t,b,n,rfl,j,i,q,a⟩:=h;show wSs _ _ kZ _ [some (.int t),some (.int b),none];unfold kZ;fin2;by_cases e:b=0
 .rw[Bz (IH e)];exact q e
 rw[Bn (by rw[Gc];exact e)];have a:=a e;refine⟨t,b,n,rfl,j,i,?_⟩;obtain⟨c,o,l⟩:=yf t b e;have p:((D1 t b:Nat):Int).natAbs<2^n:=by have:((D1 t b:Nat):Int)<=b.natAbs:=gL (by clear l o c;lia) (by rw[Z6];exact X1 ..);lia
 unfold wq at a;generalize((D1 t b:Nat):Int)=g at*;rw[o,l]at a;by_cases f:b<0
 .rw[Bz f]at c a;rw[Bz (IH f)];fin2;have d:=kX (y:= -g) (by lia) (DL i (by decide));exact⟨⟨c,d⟩,⟨c,d⟩,ai (by simp),a⟩
 .rw[Bn f]at c a;rw[Bn (by rw[Gc];exact f)];have d:=kX (y:=g) p (DL i (by decide));exact⟨⟨c,d⟩,⟨c,d⟩,ai (by simp),a⟩
end VL
namespace L2
open PySem
theorem uM{r:Nat}:Builtin.Range.rangeSize ((r:Int) -1) (-1) (-1)=(r:Int):=by
 unfold Builtin.Range.rangeSize;rw[Bn (by decide)];split
 .show((r:Int) -1 - -1 -1)/1+1=_;lia
 .lia
theorem AX{r:Nat}(h:r<=1000):Builtin.Range.small ((r:Int) -1) (-1) (-1)=true:=by
 unfold Builtin.Range.small;rw[uM];have f:∀x:Int,-2000<=x->x<=2000->Builtin.Range.rangeFitsLong x=true:=λx b a=>by unfold Builtin.Range.rangeFitsLong;simp;lia
 rw[f _ (by lia) (by lia),f _ (by lia) (by lia),f _ (by lia) (by lia),Bn (by decide),f (-1+(-1+1)) (by decide) (by decide)];simp
end L2
namespace VL
open PySem PySem.Spec
open PyProof.Rows hiding St
open L2 Num
theorem SN{rs:List Rat}{i:Nat}{w:W}(h:(rs.map wq)[i]?=some w):∃x,rs[i]?=some x/\w=wq x:=by
 rw[Dx]at h;cases e:rs[i]? with
 |none=>rw[e]at h;cases h
 |some x=>rw[e]at h;cases h;exact⟨x,rfl,rfl⟩
structure X8(rs:List Rat)(ns:List Int)(B:Int):Prop where
 pos:0<B
 eq:ns=rs.map λx=>x.num*(B/x.den)
 dv:∀x∈rs,(x.den:Int)∣B
noncomputable def nY:List CS:=[.set 1 (.int 1),.fr [2] true (.var 0) [.set 3 (.ix (.var 2) (.int 1)),.iff (.cmp .NotEq (.bin .Mod (.var 1) (.var 3)) (.int 0)) [.set 1 (.bin .Mult (.bin .FloorDiv (.var 1) (.call 0 [(.var 1),(.var 3)])) (.var 3))] []],.ret (.tup [(.comp [0] true 1 (.var 0) (.bl true) (.bin .Mult (.ix (.var 0) (.int 0)) (.bin .FloorDiv (.var 2) (.ix (.var 0) (.int 1))))),(.var 1)])]
noncomputable def mT:aZ:=λc Q _=>∃(a:List Rat)(D:Int)(n k:Nat),c=[af a]/\((∀x∈a,Cd D n x)/\0<D/\D.natAbs<2^k/\k<=6000/\n<=100000/\a.length<=100)/\∀(b:List Int)(B:Int),X8 a b B->B∣D->B.natAbs<2^k->(∀x∈b,x.natAbs<2^n)->Q (.tup [wI b,.int B])
theorem ED{G:Nat->W}{m:Md}(M:List W)(Q:W->Prop)(R:Addr->Prop)(h:mT M Q R):wSs (bV [IB]) G nY (bK m Q R) (ak 4 M):=by
 obtain⟨o,D,n,k,rfl,⟨E,hD,hDk,hk,hn,hl⟩,Z⟩:=h;have a:∀y:Int,0<y->y∣D->y.natAbs<2^k:=λy H F=>by have:=gL hD F;lia
 show wSs _ _ nY _ [some (af o),none,none,none];unfold nY;dsimp only[wSs,wS,wE,look,ep];unfold af;fin2;refine bf (λi T=>∃B o2 o3,(0<B/\B∣D/\∀j x,j<i->o[j]?=some x->(x.den:Int)∣B)/\T=[some (.lst (o.map wq)),some (.int B),o2,o3]) ⟨1,none,none,⟨by decide,i2 _,λj x h=>by lia⟩,rfl⟩ ?_ ?_
 .rintro i w _ N X ⟨B,o2,o3,⟨d,b,u⟩,rfl⟩ hN;obtain⟨x,c,rfl⟩:=SN X;have t:=Hk c;have P:=(E x t).dvd.1;have p:0<(x.den:Int):=by have:=x.den_pos;lia
  have v:=a _ p P;have S:=a _ d b;have f:∀q:Int,0<q->q∣D->B∣q->(x.den:Int)∣q->N [some (.lst (o.map wq)),some (.int q),some (wq x),some (.int x.den)]:=λq H F h3 h4=>
   hN _ ⟨q,_,_,⟨H,F,λj z l hz=>by
    by_cases A:j=i
    .subst A;rw[c]at hz;cases hz;exact h4
    .exact ZK (u j z (by lia) hz) h3⟩,rfl⟩
  fin2;refine⟨_,rfl,?_⟩;fin2;refine⟨mQ x,?_⟩;by_cases hz:B.fmod x.den=0
  .rw[IH hz];fin2;refine f B d b (b5 _) (Int.dvd_of_fmod_eq_zero hz)
  .rw[Pi hz];fin2;have hg:((D1 B x.den:Nat):Int)<=x.den:=gL p (X1 ..);have r:0<((D1 B x.den:Nat):Int):=by have:0<D1 B x.den:=Ym _ (by lia);lia
   have s:((D1 B x.den:Nat):Int)∣B:=hJ ..;have ZN:((D1 B x.den:Nat):Int)∣(x.den:Int):=X1 ..;have ZO:=Gq (mQ x) b P;refine⟨B,x.den,k,rfl,v,hk,?_⟩;generalize((D1 B x.den:Nat):Int)=g at*;have U:g.natAbs<2^k:=by lia
   have XT:0<B/g:=uk d (fe r) s;have Y:B/g<=B:=eH _ (fe d);have L:(B/g).natAbs<2^k:=by lia
   fin2;rw[du _ (fe r)];refine⟨⟨by lia,kX U (by lia)⟩,aK L v (by lia),f _ (XX XT p) ZO ?_ ⟨B/g,cc _ _⟩⟩;obtain⟨j,l⟩:=ZN;refine⟨j,?_⟩;rw[l,<-XB,tm s]
 .rintro _ ⟨B,o2,o3,⟨d,b,u⟩,rfl⟩;rw[AN]at u;have I:∀x∈o,(x.den:Int)∣B:=λx c=>by obtain⟨j,l,e⟩:=gd c;exact u j x l (by rw[<-e];exact BM l)
  have S:=a _ d b;have O:∀x∈o,(x.num*(B/x.den)).natAbs<2^n:=λx t=>by
   have C:=I x t;have e:=(E x t).dvd;obtain⟨j,l⟩:=b;have e2:D/x.den=B/x.den*j:=by rw[l];exact Int.mul_ediv_assoc' _ C|>λh=>by rw[<-h]
   have j0:j≠0:=λz=>by rw[z,QP]at l;lia
   refine GM ?_ e.2;rw[e2,<-XB,FS (x.num*(B/x.den)) j];exact cq _ (by lia)
  fin2;refine bY (h:=wq) (g:=λx=>.int (x.num*(B/x.den))) o [] _ (λx c K hK=>?_) (ai (by simpa using DL hl (by decide))) ?_
  .have p:0<(x.den:Int):=by have:=x.den_pos;lia
   have v:=a _ p (E x c).dvd.1;have J:=O x c;have q0:0<B/x.den:=uk d (fe p) (I x c);have L:(B/x.den).natAbs<2^k:=by have H:=eH (x.den:Int) (fe d);lia
   have ZQ:x.num.natAbs<2^n:=by refine GM ?_ J;rw[FS];exact cq _ (by lia)
   refine⟨_,rfl,_,rfl,⟨mQ x,kX v (by lia)⟩,?_⟩;fin2;rw[du _ (fe p)];exact⟨aK ZQ L (by lia),hK⟩
  .refine⟨ai (by simp),?_⟩;have:=Z _ B ⟨d,rfl,I⟩ b S (λz hz=>by obtain⟨x,c,rfl⟩:=Ki.mp hz;exact O x c);unfold wI at this;rw[UV]at this;exact this
noncomputable def lu:List CS:=[.ret (.comp [0] true 1 (.call 0 [(.var 0)]) (.bl true) (.call 1 [(.var 0),(.var 2)]))]
noncomputable def j4:aZ:=λb Q _=>∃(a:List Int)(B:Int)(n:Nat),b=[wI a,.int B]/\(B≠0/\B.natAbs<2^n/\n<=6000/\a.length<=500)/\Q (af (aY (a.map λx=>BK x B)))
theorem AY{G:Nat->W}{m:Md}(b:List W)(Q:W->Prop)(R:Addr->Prop)(h:j4 b Q R):wSs (bV [gC,nX]) G lu (bK m Q R) (ak 2 b):=by
 obtain⟨d,B,n,rfl,⟨i,p,l,s⟩,a⟩:=h;show wSs _ _ lu _ [some (wI d),some (.int B)];unfold lu;fin2;refine⟨d,rfl,λf c=>?_⟩;have e:=Gk i c;rw[<-e]at a;have j:f.length<=500:=by obtain⟨k,q,rfl,_⟩:=c;rw[W1];lia
 unfold wI;fin2;refine bY (h:=W.int) (g:=λx=>wq (BK x B)) f [] _ (λx r K o=>?_) (ai (by simpa using DL j (by decide))) ?_
 .fin2;exact⟨x,B,n,rfl,p,l,λz=>absurd z i,λ_=>o⟩
 .unfold af at a;rw[UV]at a;exact a
noncomputable def jG:List CS:=[.set 1 (.int 0),.fr [2] true (.var 0) [.set 1 (.call 0 [(.var 2),(.var 1)]),.iff (.cmp .Eq (.var 1) (.int 1)) [.ret (.tup [(.int 1),(.blt .list [(.var 0)])])] []],.ret (.tup [(.var 1),(.comp [0] true 1 (.var 0) (.bl true) (.bin .FloorDiv (.var 0) (.var 2)))])]
structure Srt(ns:List Int)(c:Int)(ms:List Int):Prop where
 pos:0<c
 dv:∀x∈ns,c∣x
 all:∀d:Int,(∀x∈ns,d∣x)->d∣c
 eq:ms=ns.map (·/c)
noncomputable def gD:aZ:=λd Q _=>∃(a:List Int)(n:Nat),d=[wI a]/\((∃x∈a,x≠0)/\a.length<=500/\n<=6000/\∀x∈a,x.natAbs<2^n)/\∀c b,Srt a c b->c.natAbs<2^n->Q (.tup [.int c,wI b])
theorem yY{G:Nat->W}{m:Md}(t:List W)(Q:W->Prop)(R:Addr->Prop)(h:gD t Q R):wSs (bV [IB]) G jG (bK m Q R) (ak 3 t):=by
 obtain⟨a,n,rfl,⟨⟨H,T,I⟩,p,J,L⟩,v⟩:=h;show wSs _ _ jG _ [some (wI a),none,none];unfold jG;dsimp only[wSs,wS,wE,look,ep];unfold wI at*;fin2;refine bf (λi F=>∃(c:Int)(o2:Option W),(0<=c/\(∀j,j<i->j<a.length->c∣a.getD j 0)/\(∀d:Int,(∀x∈a,d∣x)->d∣c)/\c.natAbs<2^n)/\F=[some (.lst (a.map W.int)),some (.int c),o2]) ⟨0,none,⟨by decide,λj h=>by lia,λd _=>a9 d,OK (by decide)⟩,rfl⟩ ?_ ?_
 .rintro i w _ N o ⟨c,o2,⟨s,f,q,l⟩,rfl⟩ M;have A:i<a.length:=by have:=(FR.mp o).1;simpa using this
  rw[int_at A]at o;cases o;have y:a.getD i 0∈a:=Sub.getD_mem' A;fin2;refine⟨a.getD i 0,c,n,rfl,l,J,?_⟩;have P:((D1 (a.getD i 0) c:Nat):Int)∣a.getD i 0:=hJ ..;have D:((D1 (a.getD i 0) c:Nat):Int)∣c:=X1 ..;have C:∀d:Int,(∀x∈a,d∣x)->d∣((D1 (a.getD i 0) c:Nat):Int):=λd h=>Int.dvd_coe_gcd (h _ y) (q d h);have B:((D1 (a.getD i 0) c:Nat):Int).natAbs<2^n:=by
   rcases dr s with r|r
   .have:=gL r D;lia
   .rw[<-r,uj];have:=L _ y;lia
  have S:0<=((D1 (a.getD i 0) c:Nat):Int):=by lia
  generalize((D1 (a.getD i 0) c:Nat):Int)=g at*;have k:∀j,j<i+1->j<a.length->g∣a.getD j 0:=λj b p=>by
   by_cases e:j=i
   .subst e;exact P
   .exact ZK D (f j (by lia) p)
  fin2;by_cases e:g=1
  .rw[IH e];fin2;subst e;have:=v 1 a ⟨by decide,λx _=>i2 x,C,by simp⟩ B;exact⟨ai (by simp),this⟩
  .rw[Pi e];fin2;exact M _ ⟨g,_,⟨S,k,C,B⟩,rfl⟩
 .rintro _ ⟨c,o2,⟨s,f,q,l⟩,rfl⟩;rw[AN]at f;have k:∀x∈a,c∣x:=λx u=>by obtain⟨j,b,e⟩:=gd u;have:=f j b b;rw[AC,BM b]at this;rw[<-e];exact this
  have E:0<c:=by
   rcases dr s with z|z
   .exact z
   .have:=k H T;rw[<-z,Int.zero_dvd]at this;exact absurd this I
  fin2;refine bY (h:=W.int) (g:=λx=>.int (x/c)) a [] _ (λx u K O=>?_) (ai (by simpa using DL p (by decide))) ?_
  .fin2;rw[du _ (fe E)];exact⟨⟨by lia,kX l (by lia)⟩,O⟩
  .refine⟨ai (by simp),?_⟩;have:=v c _ ⟨E,k,q,rfl⟩ l;rw[UV]at this;exact this
noncomputable def jH:List CS:=[.D9 [1,2] (.call 0 [(.var 0)]),.D9 [3,1] (.call 1 [(.var 1)]),.ret (.tup [(.var 1),(.var 2),(.var 3)])]
structure Prim(rs:List Rat)(ms:List Int)(B c:Int):Prop where
 bpos:0<B
 cpos:0<c
 len:ms.length=rs.length
 at_:∀i,(ms.getD i 0:Rat)*c=rs.getD i 0*B
 one:∀d:Int,(∀x∈ms,d∣x)->d∣1
noncomputable def lz:aZ:=λd Q _=>∃(a:List Rat)(D:Int)(n k:Nat),d=[af a]/\((∃x∈a,x≠0)/\(∀x∈a,Cd D n x)/\0<D/\D.natAbs<2^k/\k<=6000/\n<=6000/\a.length<=100)/\∀(b:List Int)(B c:Int),Prim a b B c->B.natAbs<2^k->c.natAbs<2^n->(∀x∈b,x.natAbs<2^n)->Q (.tup [wI b,.int B,.int c])
theorem nZ{α:Type}{l:List α}{f:α->Int}{i:Nat}{x:α}(h:l[i]?=some x):(l.map f).getD i 0=f x:=by rw[AC,Dx,h];rfl
theorem MS{rs:List Rat}{ns b:List Int}{B c:Int}(f:X8 rs ns B)(a:Srt ns c b):Prim rs b B c:=by
 have n:ns.length=rs.length:=by rw[f.eq,AN]
 have m:b.length=rs.length:=by rw[a.eq,AN,n]
 refine⟨f.pos,a.pos,m,λi=>?_,λd p=>?_⟩
 .by_cases o:i<rs.length
  .have j:=BM o;have t:ns.getD i 0=rs[i].num*(B/rs[i].den):=by rw[f.eq];exact nZ j
   have en:ns[i]?=some (ns.getD i 0):=by rw[AC,BM (by lia)];rfl
   have s:b.getD i 0=ns.getD i 0/c:=by rw[a.eq];exact nZ en
   have u:=a.dv _ (Hk en);have:b.getD i 0*c=ns.getD i 0:=by rw[s];exact tm u
   have r:((b.getD i 0:Int):Rat)*(c:Rat)=((ns.getD i 0:Int):Rat):=by rw[<-this,Jn]
   rw[r,t];have q:rs.getD i 0=rs[i]:=by rw[AC,j];rfl
   rw[q];exact gf (f.dv _ (Kx _))
  .have l:b.getD i 0=0:=by rw[AC,FK (by lia)];rfl
   have k:rs.getD i 0=0:=by rw[AC,FK (by lia)];rfl
   rw[l,k];show((0:Int):Rat)*_=0*_;grind
 .have:=a.all (d*c) λx h=>by have e:=p (x/c) (by rw[a.eq];exact Ki.mpr ⟨x,h,rfl⟩);obtain⟨y,g⟩:=e;refine⟨y,?_⟩;rw[<-tm (a.dv x h),g];grind
  obtain⟨y,g⟩:=this;refine⟨y,?_⟩;have v:=a.pos;have:c*1=c*(d*y):=by rw[i4];rw[cc c,XB,cc y c,<-XB];exact g
  exact Wp (by lia) this
theorem yZ{G:Nat->W}{m:Md}(g:List W)(Q:W->Prop)(R:Addr->Prop)(h:lz g Q R):wSs (bV [mT,gD]) G jH (bK m Q R) (ak 4 g):=by
 obtain⟨e,D,n,k,rfl,⟨⟨a,p,q⟩,A,C,f,w,u,v⟩,t⟩:=h;show wSs _ _ jH _ [some (af e),none,none,none];unfold jH;fin2;refine⟨e,D,n,k,rfl,⟨A,C,f,w,by lia,v⟩,λi B b J H o=>?_⟩;refine⟨rfl,?_⟩;fin2;have I:i.length=e.length:=by rw[b.eq,AN]
 refine⟨i,n,rfl,⟨⟨a.num*(B/a.den),by rw[b.eq];exact Ki.mpr ⟨a,p,rfl⟩,?_⟩,by lia,u,o⟩,λc r l F=>?_⟩
 .have d:=b.dv a p;have E:0<(a.den:Int):=by have:=a.den_pos;lia
  have:0<B/a.den:=uk b.pos (fe E) d;exact QQ (λz=>q (xp.mp z)) (by lia)
 .refine⟨rfl,?_⟩;fin2;refine⟨ai (by simp),t r B c (MS b l) H F λx j=>?_⟩;rw[l.eq]at j;obtain⟨y,s,rfl⟩:=Ki.mp j;have:=Int.natAbs_ediv_le_natAbs y c;have:=o y s;lia
noncomputable def g7:List CS:=[.iff (.cmp .Eq (.var 2) (.int 0)) [.ret (.var 0)] [],.ret (.bin .FloorDiv (.call 0 [(.var 1),(.var 2)]) (.call 0 [(.var 0),(.bin .Sub (.var 2) (.int 1))]))]
noncomputable def je:aZ:=λb Q _=>∃(h l:Int)(a n:Nat),b=[.int h,.int l,.int a]/\(h.natAbs<2^n/\l.natAbs<2^n/\n*(a+1)<=60000000/\(0<a->h^(a -1)≠0/\(h^(a -1)).natAbs.log2<1000000000))/\Q (.int (Sub.hnext h l a))
theorem tE{G:Nat->W}{m:Md}(c:List W)(Q:W->Prop)(R:Addr->Prop)(h:je c Q R):wSs (bV [qd]) G g7 (bK m Q R) (ak 3 c):=by
 obtain⟨h,l,a,n,rfl,⟨k,j,d,f⟩,b⟩:=h;show wSs _ _ g7 _ [some (.int h),some (.int l),some (.int a)];unfold g7;fin2;by_cases z:(a:Int)=0
 .rw[IH z];fin2;have e:Sub.hnext h l a=h:=by unfold Sub.hnext;rw[Bz (by lia)]
  rw[e]at b;exact b
 .rw[Pi z];fin2;obtain⟨i,g⟩:=f (by lia);have e:Sub.hnext h l a=(l^a).fdiv (h^(a -1)):=by unfold Sub.hnext;rw[Bn (by lia)]
  rw[e]at b;refine⟨l,a,n,rfl,j,d,?_⟩;rw[show(a:Int) -1=((a -1:Nat):Int) by lia];refine⟨h,a -1,n,rfl,k,DL (GE _ (by lia)) d,?_⟩;fin2;exact⟨⟨i,g⟩,b⟩
theorem jI{x:Nat}{n m:Nat}(h:x<2^n)(a:n<=m):x<2^m:=FV h (Kt (by decide) a)
theorem y9{a b:Int}{n:Nat}(d:a.natAbs<n)(c:b.natAbs<n):(a -b).natAbs<2*n:=by have:=Int.natAbs_sub_le a b;lia
theorem ZR{p i:Nat}(h:p<i):i -p=(i -(p+1))+1:=by lia
theorem fV{ns:List Int}{n:Nat}(h:∀x∈ns,x.natAbs<2^n)(k:Nat):(ns.getD k 0).natAbs<2^n:=by
 by_cases a:k<ns.length
 .rw[AC,BM a];exact h _ (Kx a)
 .rw[outI (by lia)];exact OK (by decide)
theorem uN{ns:List Int}(h:0<ns.length):j9 (ns.map W.int) (-1)=some (.int (ns.getD (ns.length -1) 0)):=by refine uL ?_;rw[Kj,AN,int_at (by omega)]
theorem jJ{n k:Nat}{f:Nat->Int}(h:k<n):(tabI n f).getD k 0=f k:=by rw[AC,f9 h];rfl
theorem qe(n:Nat)(f:Nat->Int)(k:Nat):(tabI n f).getD k 0=if k<n then f k else 0:=by
 by_cases h:k<n
 .rw[Bz h,jJ h]
 .rw[Bn h];exact outI (by rw[aP];lia)
theorem jK{n:Nat}{f:Nat->Int}{x:Int}(h:x∈tabI n f):∃k,k<n/\x=f k:=by unfold tabI at h;obtain⟨k,a,rfl⟩:=Ki.mp h;exact⟨k,Yf.mp a,rfl⟩
theorem iI{n:Nat}{f g:Nat->Int}(h:∀k,k<n->f k=g k):tabI n f=tabI n g:=by unfold tabI;exact tj λk a=>h k (Yf.mp a)
theorem rV(n:Nat)(x:Int):A0 n (W.int x)=(tabI n λ_=>x).map W.int:=by unfold tabI;rw[XO,SF,ui]
theorem j5{n:Nat}(ns:List Int)(h:ns.length=n):ns=tabI n λk=>ns.getD k 0:=by
 refine cw λj=>?_;by_cases a:j<n
 .rw[f9 a,AC,BM (by lia)];rfl
 .rw[FK (by lia),FK (by rw[aP];lia)]
theorem wM{r n s:Nat}{w:W}(h:(eE ((r:Int) -1) (-1) n)[s]?=some w):s<n/\w=.int ((r:Int) -1 -s):=by unfold eE at h;rw[Dx]at h;obtain⟨j,e,rfl⟩:=PH.mp h;obtain⟨b,a⟩:=FR.mp e;rw[dV]at a;rw[SF]at b;refine⟨b,?_⟩;rw[<-a];congr 1;lia
theorem AZ(a st:Int)(n:Nat):(eE a st n).length=n:=by unfold eE;simp
theorem n8{r:Nat}{Q:List W->Prop}(h:r<=1000)(q:Q (eE ((r:Int) -1) (-1) r)):G7 [.int ((r:Int) -1),.int (-1),.int (-1)] Q:=
 ⟨r,⟨by decide,by decide,AX h,uM⟩,q⟩
theorem wN{R:List Int}(h:0<R.length):∃a x,R=a++[x]:=
 ⟨R.dropLast,R.getLast (λz=>by rw[z]at h;cases h),(cx _).symm⟩
theorem pop_at{a:List Int}{x:Int}:((a++[x]).map W.int)[((a++[x]).map W.int).length -1]?=some (.int x):=by simp
theorem A3{a:List Int}{x:Int}:((a++[x]).map W.int).dropLast=a.map W.int:=by simp
noncomputable def fW:List CS:=[.set 2 (.blt .max2 [(.bin .Add (.bin .Sub (.blt .len [(.var 0)]) (.blt .len [(.var 1)])) (.int 1)),(.int 0)]),.set 3 (.ix (.var 1) (.neg (.int 1))),.set 4 (.blt .list [(.var 0)]),.set 5 (.bin .Mult (.lst [(.int 0)]) (.var 2)),.fr [6] true (.jP [(.bin .Sub (.var 2) (.int 1)),(.neg (.int 1)),(.neg (.int 1))]) [.yx 7 (.pop 4),.put 5 (.var 6) (.var 7),.set 4 (.call 0 [(.var 4),(.var 3)]),.fr [8] true (.jP [(.bin .Sub (.blt .len [(.var 1)]) (.int 1))]) [.put 4 (.bin .Add (.var 6) (.var 8)) (.bin .Sub (.ix (.var 4) (.bin .Add (.var 6) (.var 8))) (.bin .Mult (.var 7) (.ix (.var 1) (.var 8))))]],.set 9 (.int 1),.fr [6] true (.jP [(.var 2)]) [.put 5 (.var 6) (.bin .Mult (.ix (.var 5) (.var 6)) (.var 9)),.set 9 (.bin .Mult (.var 9) (.var 3))],.ret (.tup [(.var 5),(.call 1 [(.var 4)]),(.var 9)])]
structure SO(ns ms:List Int)(N M:Nat)(Qs R:List Int):Prop where
 Xb:Qs.length=ns.length+1 -ms.length
 Xc:R.length<ms.length
 eq:∀k,(ms.getD (ms.length -1) 0)^(ns.length+1 -ms.length)*ns.getD k 0=bU (λi=>Qs.getD i 0) (λi=>ms.getD i 0) k+R.getD k 0
 bQ:∀x∈Qs,x.natAbs<2^(N+(ns.length+1 -ms.length)*(M+1))
 bR:∀x∈R,x.natAbs<2^(N+(ns.length+1 -ms.length)*(M+1))
 last:R=[]\/R.getD (R.length -1) 0≠0
noncomputable def gE:aZ:=λd Q _=>∃(b a:List Int)(N M:Nat),d=[wI b,wI a]/\(0<a.length/\b.length<=100/\a.length<=100/\(∀x∈b,x.natAbs<2^N)/\(∀x∈a,x.natAbs<2^M)/\N+101*(M+1)<=1000000)/\
 ∀c R:List Int,SO b a N M c R->Q (.tup [wI c,wI R,.int ((a.getD (a.length -1) 0)^(b.length+1 -a.length))])
theorem o9{G:Nat->W}{m:Md}(ws:List W)(Q:W->Prop)(R:Addr->Prop)(h:gE ws Q R):wSs (bV [mR,gC]) G fW (bK m Q R) (ak 10 ws):=by
 obtain⟨u,b,N,M,rfl,⟨lm,la,lb,bn,bm,hNM⟩,q⟩:=h;show wSs _ _ fW _ [some (wI u),some (wI b),none,none,none,none,none,none,none,none];unfold fW wI;fin2;have eR:(if(0:Int)>((u.map W.int).length:Int) -((b.map W.int).length:Int)+1 then(0:Int)else((u.map W.int).length:Int) -((b.map W.int).length:Int)+1)=((u.length+1 -b.length:Nat):Int):=by rw[AN,AN];split<;>lia
 have Y:=fV bm (b.length -1);have eL:=uN lm;have o:∀s,s<=u.length+1 -b.length->s*(M+1)<=101*(M+1):=λs r=>NA _ (by lia);rw[eR];have Ug:(b.map W.int).length=b.length:=AN _;generalize hl:b.getD (b.length -1) 0=l at*;generalize S:u.length+1 -b.length=a at*;refine⟨_,eL,?_⟩;fin2;rw[Eg,fE,rV];refine⟨ai (by simp),by lia,by lia,ai (by simp;lia),?_⟩;refine n8 (by lia) ?_;fin2;refine bf (λs P=>∃(R:List Int)(r H:Nat->Int)(I v7 B:Option W),(An u b l s H R/\R.length=u.length -s/\(∀x∈R,x.natAbs<2^(N+s*(M+1)))/\(∀i,i<a->a -s<=i->H i=r i*l^(i -(a -s))/\(r i).natAbs<2^(N+(a -1 -i)*(M+1)))/\(∀i,(i<a -s\/a<=i)->H i=0))/\P=[some (.lst (u.map W.int)),some (.lst (b.map W.int)),some (.int a),some (.int l),some (.lst (R.map W.int)),some (.lst ((tabI a r).map W.int)),I,v7,B,none]) ⟨u,λ_=>0,λ_=>0,none,none,none,⟨An.start u b l,by lia,λx hx=>by rw[tq];exact bn x hx,λi h1 h2=>by lia,λ_ _=>rfl⟩,rfl⟩ ?_ ?_
 .rintro s w _ N1 hw ⟨R,L,H,I,v7,B,⟨O,lR,X,D,hz⟩,rfl⟩ lK;obtain⟨r,rfl⟩:=wM hw;have hp:((a:Nat):Int) -1 -(s:Int)=((a -1 -s:Nat):Int):=by lia
  rw[hp];generalize hpp:a -1 -s=p at*;have J:a=p+s+1:=by lia
  obtain⟨d,A⟩:∃d,b.length=d+1:=⟨_,(x5 lm).symm⟩;have hn:u.length=p+d+(s+1):=by lia
  have bs:=o s (Oy r);have T:=o (s+1) r;clear hpp hp S;have r2:a -s=p+1:=by rw[J,ij,He]
  have r1:a -(s+1)=p:=by rw[J];exact He p (s+1)
  have e1:p+b.length -1=p+d:=by rw[A];rfl
  have EF:R.length=p+b.length:=by rw[lR,hn,A,<-sT,ij,He];rfl
  obtain⟨c,x,rfl⟩:=wN (R:=R) (by rw[EF,A];exact Zq _);have Z:c.length=p+d:=by rw[Fm,A]at EF;exact xf EF
  have ex:(c++[x]).getD (p+d) 0=x:=by rw[AC,Ha (eJ Z),Z,eD];rfl
  have eg:∀k,k<p+d->(c++[x]).getD k 0=c.getD k 0:=λk v=>by rw[AC,KE (by rw[Z];exact v),<-AC]
  have bx:x.natAbs<2^(N+s*(M+1)):=X x (IR _ (Fu.mpr rfl));have Yb:∀y∈c,y.natAbs<2^(N+s*(M+1)):=λy C=>X y (QR _ C);fin2;refine⟨_,pop_at,?_⟩;rw[A3];fin2;refine⟨p,gZ (by rw[AN,aP,J];exact js (UF _ _)),?_⟩;have et:=fG (n:=a) (f:=L) (g:=λk=>if k=p then x else L k) (k:=p) (by rw[J];exact js (UF _ _)) (λj _ hj=>Bn hj);rw[Bz rfl]at et;rw[<-eM,et];refine⟨c,l,rfl,by lia,λy C=>aK Y (Yb y C) (by lia),?_⟩;have em:(c.map λy=>l*y)=tabI (p+d) λk=>l*c.getD k 0:=by
   conv=>lhs;rw[j5 c Z]
   unfold tabI;rw[UV];rfl
  rw[em];unfold wI;fin2;rw[Ug];refine⟨by lia,by lia,?_⟩;rw[show((b.length:Int) -1).toNat=d by rw[A];lia];refine bf (λj P=>∃(B:Option W),P=[some (.lst (u.map W.int)),some (.lst (b.map W.int)),some (.int a),some (.int l),some (.lst ((tabI (p+d) λk=>if p<=k/\k<p+j then l*c.getD k 0 -x*b.getD (k -p) 0 else l*c.getD k 0).map W.int)),some (.lst ((tabI a λk=>if k=p then x else L k).map W.int)),some (.int p),some (.int x),B,none]) ⟨B,?_⟩ ?_ ?_
  .rw[iI (n:=p+d) (f:=λk=>if p<=k/\k<p+0 then l*c.getD k 0 -x*b.getD (k -p) 0 else l*c.getD k 0) λk _=>Bn (show¬(p<=k/\k<p+0)from λz=>OF _ (FV z.2 z.1))]
  .rintro j w _ N2 sP ⟨B,rfl⟩ wC;obtain⟨hj,rfl⟩:=fU sP;have ix:p+j<p+d:=R1 hj p;fin2;rw[show(p:Int)+(j:Int)=((p+j:Nat):Int) by lia];refine⟨_,bC (by rw[Dx,f9 ix];rfl),?_⟩;rw[Bn (show¬(p<=p+j/\p+j<p+j)from λz=>OF _ z.2)];refine⟨_,bC (int_at (by rw[A];exact SC hj)),?_⟩;fin2;refine⟨aK bx (fV bm j) (by lia),p+j,gZ (by rw[AN,aP];exact ix),wC _ ⟨some (.int j),?_⟩⟩;have e:=fG (n:=p+d) (f:=λk=>if p<=k/\k<p+j then l*c.getD k 0 -x*b.getD (k -p) 0 else l*c.getD k 0) (g:=λk=>if p<=k/\k<p+(j+1)then l*c.getD k 0 -x*b.getD (k -p) 0 else l*c.getD k 0) ix (λk _ v=>by
    by_cases t:p<=k/\k<p+j
    .rw[Bz t,Bz ⟨t.1,SC t.2⟩]
    .rw[Bn t,Bn λz=>t ⟨z.1,i5 (oa z.2) v⟩])
   rw[Bz ⟨UF _ _,N0 _⟩,P2]at e;rw[<-e,eM]
  .rintro _ ⟨B,rfl⟩;rw[AZ];refine lK _ ⟨_,λk=>if k=p then x else L k,λi=>l*H i+if i=p then(c++[x]).getD (p+b.length -1) 0 else 0,_,_,_,⟨O.step lm hl.symm EF (R':=tabI (p+d) λk=>if p<=k/\k<p+d then l*c.getD k 0 -x*b.getD (k -p) 0 else l*c.getD k 0) (by rw[aP,e1]) (λk v=>?_),by rw[aP,hn,He],λy C=>?_,λi h1 h2=>?_,λi h=>?_⟩,rfl⟩
   .rw[e1]at v;rw[jJ v,e1,ex,eg k v];by_cases E:p<=k
    .rw[Bz ⟨E,v⟩,Bz E]
    .rw[Bn λz=>E z.1,Bn E,ik]
   .obtain⟨k,v,rfl⟩:=jK C;have c1:(l*c.getD k 0).natAbs<2^(M+(N+s*(M+1))):=by rw[FS];exact lt_mul Y (fV Yb k)
    have c2:(x*b.getD (k -p) 0).natAbs<2^(M+(N+s*(M+1))):=by rw[FS,d5];exact lt_mul (fV bm _) bx
    have c3:2^(N+(s+1)*(M+1))=2*2^(M+(N+s*(M+1))):=by rw[yB,hX,show N+(s*(M+1)+(M+1))=(M+(N+s*(M+1)))+1 by lia,KO];lia
    rw[c3];split
    .exact y9 c1 c2
    .exact FV c1 (oo _ (by decide))
   .show l*H i+(if i=p then _ else 0)=(if i=p then x else L i)*l^(i -(a -(s+1)))/\(if i=p then x else L i).natAbs<_;rw[r1]at h2⊢;rw[r2]at D hz;by_cases K:i=p
    .rw[Bz K,Bz K,hz i (.inl (by rw[K];exact N0 p)),e1,ex,K,eD,SZ];refine⟨by rw[QP,pd,i4],?_⟩;rw[show a -1 -p=s by rw[J];exact P2 p s];exact bx
    .have pi:=i5 h2 (T2 K);have hh:=D i h1 pi;rw[Bn K,Bn K,hh.1,ZR pi,NM];exact⟨by grind,hh.2⟩
   .show l*H i+(if i=p then _ else 0)=0;rw[r1,J]at h;rw[Bn (by clear O D hz bs T;lia),hz i (by rw[r2,J];clear O D hz bs T;lia),QP];rfl
 .rintro _ ⟨R,r,H,I,v7,B,⟨O,lR,X,D,hz⟩,rfl⟩;rw[AZ]at O lR X D hz;have brr:=o a (by lia);fin2;refine⟨by lia,by lia,?_⟩;rw[Eg];refine bf (λj P=>∃(I:Option W),P=[some (.lst (u.map W.int)),some (.lst (b.map W.int)),some (.int a),some (.int l),some (.lst (R.map W.int)),some (.lst ((tabI a λk=>if k<j then r k*l^k else r k).map W.int)),I,v7,B,some (.int (l^j))]) ⟨I,?_⟩ ?_ ?_
  .rw[SZ,iI (n:=a) (f:=λk=>if k<0 then r k*l^k else r k) λk _=>Bn (Nat.not_lt_zero k)]
  .rintro j w _ N2 sP ⟨I,rfl⟩ wC;obtain⟨F,rfl⟩:=fU sP;have bh:=(D j F (by lia)).2;have bp:=Gr (i:=j) Y;have U:(l^j).natAbs<2^(M*j+1):=by
    have:2^(M*j+1)=2*2^(M*j):=by rw[KO];lia
    have:0<2^(M*j):=OK (by decide);lia
   have k1:=o (a -1 -j) (by lia);have k2:M*j<=M*101:=GE _ (by lia);fin2;refine⟨_,bC (by rw[Dx,f9 F];rfl),?_⟩;rw[Bn (OF j)];fin2;refine⟨aK bh U (by lia),j,gZ (by rw[AN,aP];exact F),aK U Y (by lia),?_⟩;have e:=fG (n:=a) (f:=λk=>if k<j then r k*l^k else r k) (g:=λk=>if k<j+1 then r k*l^k else r k) F (λk _ v=>by
    by_cases t:k<j
    .rw[Bz t,Bz (by lia)]
    .rw[Bn t,Bn (by lia)])
   rw[Bz (N0 j)]at e;rw[<-eM,e];refine wC _ ⟨some (.int j),?_⟩;rw[NM]
  .rintro _ ⟨I,rfl⟩;rw[AZ];fin2;refine⟨R,rfl,λts tr=>?_⟩;refine⟨ai (by simp),?_⟩;have tl:=l7 tr;have ZS:∀i,H i=(tabI a λk=>if k<a then r k*l^k else r k).getD i 0:=λi=>by
    rw[qe];by_cases hi:i<a
    .rw[Bz hi,Bz hi,(D i hi (by lia)).1,show i -(a -a)=i by lia]
    .rw[Bn hi,hz i (by lia)]
   refine q _ ts ⟨?_,by lia,λk=>?_,λy C=>?_,λy C=>?_,tr.last⟩
   .rw[aP,S]
   .rw[S,hl,O k,pP tr];congr 2;exact funext ZS
   .obtain⟨k,v,rfl⟩:=jK C;rw[Bz v,FS,S];refine jI (K3 (D k v (by lia)).2 (Gr (i:=k) Y)) ?_;have e:a*(M+1)=(a -1 -k)*(M+1)+(k+1)*(M+1):=by rw[<-yB,show a -1 -k+(k+1)=a by lia]
    have e2:M*k<=(k+1)*(M+1):=by rw[d5];exact X9 (by lia) (by lia)
    lia
   .rw[S];exact X y (tr.mem y C)
end VL
namespace L2
open PySem
end L2
namespace VL
open PySem PySem.Spec
open PyProof.Rows hiding St
open L2 Num
theorem IC(as bs:List Int)(i k:Nat):cf as bs (i+1) k=cf as bs i k+as.getD i 0*(if i<=k then bs.getD (k -i) 0 else 0):=by rw[yg,yg,sm]
noncomputable def jf:List CS:=[.set 2 (.bin .Add (.bin .Sub (.blt .len [(.var 0)]) (.blt .len [(.var 1)])) (.int 1)),.set 3 (.blt .list [(.var 0)]),.set 4 (.bin .Mult (.lst [(.int 0)]) (.var 2)),.fr [5] true (.jP [(.bin .Sub (.var 2) (.int 1)),(.neg (.int 1)),(.neg (.int 1))]) [.yx 6 (.bin .FloorDiv (.pop 3) (.ix (.var 1) (.neg (.int 1)))),.put 4 (.var 5) (.var 6),.fr [7] true (.jP [(.bin .Sub (.blt .len [(.var 1)]) (.int 1))]) [.put 3 (.bin .Add (.var 5) (.var 7)) (.bin .Sub (.ix (.var 3) (.bin .Add (.var 5) (.var 7))) (.bin .Mult (.var 6) (.ix (.var 1) (.var 7))))]],.ret (.var 4)]
noncomputable def jL:aZ:=λc Q _=>∃(b a Z:List Int)(N:Nat),c=[wI b,wI a]/\(0<a.length/\0<Z.length/\b.length<=100/\b.length+1=Z.length+a.length/\(∀k,b.getD k 0=cf Z a Z.length k)/\a.getD (a.length -1) 0≠0/\N<=8000/\(∀x∈a,x.natAbs<2^N)/\∀x∈Z,x.natAbs<2^N)/\Q (wI Z)
theorem wO{Φ:Nat->aZ}{G:Nat->W}{m:Md}(X:List W)(Q:W->Prop)(R:Addr->Prop)(h:jL X Q R):wSs Φ G jf (bK m Q R) (ak 8 X):=by
 obtain⟨r,b,Z,N,rfl,⟨Y,lw,ln,lnm,hW,Xd,hN,bm,bW⟩,q⟩:=h;show wSs _ _ jf _ [some (wI r),some (wI b),none,none,none,none,none,none];unfold jf wI;unfold wI at q;have eL:=uN Y;have bL:=fV bm (b.length -1);have Ug:(b.map W.int).length=b.length:=AN _;fin2;rw[AN,Ug,show(r.length:Int) -(b.length:Int)+1=((Z.length:Nat):Int) by lia];generalize fX:Z.length=a at*;rw[Eg,fE,rV];refine⟨ai (by simp),by lia,by lia,ai (by simp;lia),?_⟩;refine n8 (by lia) ?_;fin2;refine bf (λs H=>∃(R:List Int)(J I y:Option W),(R.length=r.length -s/\(∀k,k<r.length -s->R.getD k 0=cf Z b (a -s) k))/\H=[some (.lst (r.map W.int)),some (.lst (b.map W.int)),some (.int a),some (.lst (R.map W.int)),some (.lst ((tabI a λk=>if a -s<=k then Z.getD k 0 else 0).map W.int)),J,I,y]) ⟨r,none,none,none,⟨rfl,λk _=>by rw[hW k];rfl⟩,?_⟩ ?_ ?_
 .rw[iI (n:=a) (f:=λk=>if a -0<=k then Z.getD k 0 else 0) (g:=λ_=>0) λk u=>(Bn (show¬a -0<=k by lia))]
 .rintro s w _ N1 hw ⟨R,J,I,y,⟨lR,O⟩,rfl⟩ lK;obtain⟨hs,rfl⟩:=wM hw;have B:((a:Nat):Int) -1 -(s:Int)=((a -1 -s:Nat):Int):=by lia
  rw[B];generalize L:a -1 -s=p at*;have E:a=p+s+1:=by lia
  obtain⟨d,i⟩:∃d,b.length=d+1:=⟨_,(x5 Y).symm⟩;have M:r.length=p+d+(s+1):=by lia
  clear L B;have A:r.length -s=p+d+1:=by rw[M,km s 1,<-sT,He]
  have T:R.length=p+b.length:=by rw[lR,A,i];rfl
  have U:a -s=p+1:=by rw[E,ij,He]
  have S:a -(s+1)=p:=by rw[E];exact He p (s+1)
  obtain⟨l,x,rfl⟩:=wN (R:=R) (by rw[T,i];exact Zq _);have D:l.length=p+d:=by rw[Fm,i]at T;exact xf T
  have ex:(l++[x]).getD (p+d) 0=x:=by rw[AC,Ha (eJ D),D,eD];rfl
  have eg:∀k,k<p+d->(l++[x]).getD k 0=l.getD k 0:=λk u=>by rw[AC,KE (by rw[D];exact u),<-AC]
  have xv:x=Z.getD p 0*b.getD (b.length -1) 0:=by have:=O (p+d) (by rw[A];exact N0 _);rw[ex,U,IC,qI Z b _ p (by rw[i];exact Da _),Bz (UF _ _),show p+d -p=b.length -1 by rw[i];exact P2 p d,pd]at this;exact this
  have P:=fV bW p;have hv:x.fdiv (b.getD (b.length -1) 0)=Z.getD p 0:=by rw[xv,my ⟨Z.getD p 0,cc _ _⟩,Int.mul_ediv_cancel _ Xd]
  fin2;refine⟨_,pop_at,?_⟩;rw[A3];fin2;refine⟨_,eL,?_⟩;fin2;refine⟨⟨Xd,kX bL hN⟩,?_⟩;rw[hv];refine⟨p,gZ (by rw[AN,aP,E];exact js (UF _ _)),?_⟩;have et:=fG (n:=a) (f:=λk=>if a -s<=k then Z.getD k 0 else 0) (g:=λk=>if a -(s+1)<=k then Z.getD k 0 else 0) (k:=p) (by rw[E];exact js (UF _ _)) (λj _ F=>by
   rw[U,S];by_cases v:p+1<=j
   .rw[Bz v,Bz (Oy v)]
   .rw[Bn v,Bn λz=>v (i5 z (T2 F))])
  rw[Bz (eJ S)]at et;rw[<-eM,et,Ug];refine⟨by lia,by lia,?_⟩;rw[show((b.length:Int) -1).toNat=d by rw[i];lia];refine bf (λj H=>∃(y:Option W),H=[some (.lst (r.map W.int)),some (.lst (b.map W.int)),some (.int a),some (.lst ((tabI (p+d) λk=>if p<=k/\k<p+j then l.getD k 0 -Z.getD p 0*b.getD (k -p) 0 else l.getD k 0).map W.int)),some (.lst ((tabI a λk=>if a -(s+1)<=k then Z.getD k 0 else 0).map W.int)),some (.int p),some (.int (Z.getD p 0)),y]) ⟨y,?_⟩ ?_ ?_
  .rw[iI (n:=p+d) (f:=λk=>if p<=k/\k<p+0 then l.getD k 0 -Z.getD p 0*b.getD (k -p) 0 else l.getD k 0) λk _=>Bn (show¬(p<=k/\k<p+0)from λz=>OF _ (FV z.2 z.1)),<-j5 l D]
  .rintro j w _ N2 sP ⟨y,rfl⟩ wC;obtain⟨F,rfl⟩:=fU sP;have K:p+j<p+d:=R1 F p;fin2;rw[show(p:Int)+(j:Int)=((p+j:Nat):Int) by lia];refine⟨_,bC (by rw[Dx,f9 K];rfl),?_⟩;rw[Bn (show¬(p<=p+j/\p+j<p+j)from λz=>OF _ z.2)];refine⟨_,bC (int_at (by rw[i];exact SC F)),?_⟩;fin2;refine⟨aK P (fV bm j) (by lia),p+j,gZ (by rw[AN,aP];exact K),wC _ ⟨some (.int j),?_⟩⟩;have e:=fG (n:=p+d) (f:=λk=>if p<=k/\k<p+j then l.getD k 0 -Z.getD p 0*b.getD (k -p) 0 else l.getD k 0) (g:=λk=>if p<=k/\k<p+(j+1)then l.getD k 0 -Z.getD p 0*b.getD (k -p) 0 else l.getD k 0) K (λk _ u=>by
    by_cases o:p<=k/\k<p+j
    .rw[Bz o,Bz ⟨o.1,SC o.2⟩]
    .rw[Bn o,Bn λz=>o ⟨z.1,i5 (oa z.2) u⟩])
   rw[Bz ⟨UF _ _,N0 _⟩,P2]at e;rw[<-e,eM]
  .rintro _ ⟨y,rfl⟩;rw[AZ];refine lK _ ⟨_,_,_,_,⟨by rw[aP,M,He],λk u=>?_⟩,rfl⟩;rw[M,He]at u;have C:=u;rw[jJ C,S];have c:=O k (by rw[A];exact SC u);rw[eg k C,U,IC]at c;by_cases t:p<=k
   .rw[Bz ⟨t,u⟩];rw[Bz t]at c;lia
   .rw[Bn λz=>t z.1];rw[Bn t,QP,fo]at c;exact c
 .rintro _ ⟨R,J,I,y,⟨lR,O⟩,rfl⟩;rw[AZ];fin2;have e:(tabI a λk=>if a -a<=k then Z.getD k 0 else 0)=Z:=by rw[iI (g:=λk=>Z.getD k 0) λk _=>Bz (by lia),<-j5 Z fX]
  rw[e];exact q
abbrev Yc:List Str:=["ahead","last","factor_ahead","factor_last","lead","height","sign","scale","known"]
abbrev jn:Md:=.o Yc [.s,.s,.s,.s,.s,.s,.s,.s,.s]
noncomputable def n9(C:Addr)(A B d c:List Int)(a h sg sc b:Int):W:=.obj C Yc [wI A,wI B,wI d,wI c,.int a,.int h,.int sg,.int sc,.int b]
theorem ID{y:Int}{n:Nat}(h:y.natAbs<2^n)(a:n<=100000000):y.natAbs.log2<1000000000:=by
 rcases cb y.natAbs with e|e
 .rw[e];decide
 .have:=(X6 (V5 e)).mpr h;exact FV this (DL a (by decide))
structure OP(A B fA fB:List Int)(ld h:Int)(N E:Nat):Prop where
 l2:2<=B.length
 ZU:B.length<=A.length
 OQ:A.length<=15
 lf:fA.length<=40
 XU:fB.length<=40
 bA:∀x∈A,x.natAbs<2^N
 bB:∀x∈B,x.natAbs<2^N
 bfA:∀x∈fA,x.natAbs<2^N
 ZV:∀x∈fB,x.natAbs<2^N
 bl:ld.natAbs<2^N
 bh:h.natAbs<2^N
 hN:N<=5000
 hE:E<=12000
 k0:ld*h^(A.length -B.length)≠0
 kE:(ld*h^(A.length -B.length)).natAbs<=2^E
 h0:0<A.length -B.length->h^(A.length -B.length -1)≠0/\(h^(A.length -B.length -1)).natAbs<=2^E
noncomputable def A4(A B Qs R:List Int)(c:Int):Prop:=c=B.getD (B.length -1) 0^(A.length -B.length+1)/\Qs.length=A.length -B.length+1/\(∀k,R.getD k 0=c*A.getD k 0 -cf Qs B Qs.length k)/\R.length<B.length/\(R=[]\/R.getD (R.length -1) 0≠0)
noncomputable def SQ(b a Qs F:List Int)(c:Int):Prop:=(∀k,F.getD k 0=c*b.getD k 0 -cf Qs a Qs.length k)/\F.length<=max b.length (Qs.length+a.length -1)/\(a=[]->F.length<=b.length)
noncomputable def OR(A B:List Int)(sg:Int):Int:=Sub.sg ((A.length -1)*(B.length -1))*sg
theorem IE(n:Nat):Sub.sg n=if n%2=0 then 1 else-1:=by
 unfold Sub.sg
 induction n with
 |zero=>rfl
 |succ n a=>
  rw[NM,a];by_cases h:n%2=0
  .rw[Bz h,Bn (by lia)];rfl
  .rw[Bn h,Bz (by lia)];rfl
theorem IF{A B:List Int}{sg:Int}(d:0<A.length)(c:0<B.length)(b:A.length%2=0)(a:B.length%2=0):OR A B sg= -sg:=by
 unfold OR;rw[IE,Bn]
 .lia
 .rw[hY,show(A.length -1)%2=1 by lia,show(B.length -1)%2=1 by lia];decide
theorem IG{A B:List Int}{sg:Int}(c:0<A.length)(b:0<B.length)(h:¬(A.length%2=0/\B.length%2=0)):OR A B sg=sg:=by
 unfold OR;rw[IE,Bz]
 .exact cn _
 .rw[hY];by_cases a:A.length%2=0
  .rw[show(B.length -1)%2=0 by lia,Pb]
  .rw[show(A.length -1)%2=0 by lia,tq]
theorem qf{n:Nat}:(n:Int).fmod 2=0↔n%2=0:=by rw[Ts _ (by decide)];lia
noncomputable def ze(C:Addr):aZ:=λg Q _=>∃(A B d b:List Int)(a h sg sc f:Int)(N E:Nat),g=[n9 C A B d b a h sg sc f]/\OP A B d b a h N E/\
 (∀(e:List Int)(c:Int),A4 A B e [] c->Q (.tup [.bl false,n9 C A B d b a h sg sc f]))/\
 (∀(e R F:List Int)(c:Int),R≠[]->A4 A B e R c->SQ d b e F c->Q (.tup [.bl true,n9 C B (R.map λy=>y.fdiv (a*h^(A.length -B.length))) b (F.map λy=>y.fdiv (a*h^(A.length -B.length))) (B.getD (B.length -1) 0) (Sub.hnext h (B.getD (B.length -1) 0) (A.length -B.length)) (OR A B sg) c (a*h^(A.length -B.length))]))
theorem zf{n m:Nat}(h:Nat.blt n m=true):n<m:=Nat.le_of_ble_eq_true h
theorem Xe{y:Int}{n:Nat}(h:y.natAbs<2^n)(e:Nat):(y^e).natAbs<2^(n*e+1):=by rw[Sub.jV];refine GM (ag (Oy h) e) ?_;rw[<-ml];exact eI (by decide) (N0 _)
theorem II(as bs:List Int)(k:Nat):(if as=[]\/bs=[]then[]else tabI (as.length+bs.length -1) (cf as bs as.length)).getD k 0=cf as bs as.length k:=by
 by_cases a:as=[]\/bs=[]
 .rw[Bz a];rcases a with z|z
  .rw[z];rfl
  .rw[K0,z];rfl
 .rw[Bn a,qe];have b:0<as.length:=FM.mpr λz=>a (.inl z);split
  .rfl
  .rw[qI as bs k as.length (by omega)]
theorem CZ(as bs:List Int):(if as=[]\/bs=[]then[]else tabI (as.length+bs.length -1) (cf as bs as.length)).length<=as.length+bs.length -1/\(bs=[]->(if as=[]\/bs=[]then[]else tabI (as.length+bs.length -1) (cf as bs as.length)).length=0):=by
 by_cases a:as=[]\/bs=[]
 .rw[Bz a];exact⟨L9 _,λ_=>rfl⟩
 .rw[Bn a,aP];exact⟨Da _,λz=>absurd (.inr z) a⟩
theorem SV{as bs:List Int}{n m:Nat}(f:∀y∈as,y.natAbs<2^n)(d:∀y∈bs,y.natAbs<2^m)(c:as.length<=100):∀y∈(if as=[]\/bs=[]then[]else tabI (as.length+bs.length -1) (cf as bs as.length)),y.natAbs<2^(n+m+7):=λy b=>by
 by_cases a:as=[]\/bs=[]
 .rw[Bz a]at b;cases b
 .rw[Bn a]at b;obtain⟨k,_,rfl⟩:=jK b;refine GM (Oc f d k as.length) ?_;have e:(2:Nat)^(n+m+7)=2^(n+m)*128:=dE 2 (n+m) 7;have g:0<2^(n+m):=OK (by decide);rw[e];generalize 2^(n+m)=z at*;have:=NA z c;omega
theorem SW{A B Qs R:List Int}{N M:Nat}(h:SO A B N M Qs R)(a:B.length<=A.length):A4 A B Qs R (B.getD (B.length -1) 0^(A.length+1 -B.length)):=by
 have e:A.length+1 -B.length=A.length -B.length+1:=by lia
 refine⟨by rw[e],by rw[h.Xb,e],λk=>?_,h.Xc,h.last⟩;rw[h.eq k,pO];show _=bU (λi=>Qs.getD i 0) (λi=>B.getD i 0) k+_ -bU (λi=>Qs.getD i 0) (λi=>B.getD i 0) k;lia
noncomputable def dO:List CS:=[.D9 [1,2,3] (.call 0 [(.own 0 [.fl 0 "ahead"]),(.own 0 [.fl 1 "last"])]),.iff (.cmp .Eq (.var 2) (.lst [])) [.T3 (.bl false)] [],.set 4 (.call 1 [(.call 2 [(.own 0 [.fl 2 "factor_ahead"]),(.var 3)]),(.call 3 [(.var 1),(.own 0 [.fl 3 "factor_last"])])]),.iff (.and [(.cmp .Eq (.bin .Mod (.blt .len [(.own 0 [.fl 0 "ahead"])]) (.int 2)) (.int 0)),(.cmp .Eq (.bin .Mod (.blt .len [(.own 0 [.fl 1 "last"])]) (.int 2)) (.int 0))]) [.Ea 0 6 (.neg (.own 0 [.fl 6 "sign"]))] [],.set 5 (.bin .Sub (.blt .len [(.own 0 [.fl 0 "ahead"])]) (.blt .len [(.own 0 [.fl 1 "last"])])),.set 6 (.bin .Mult (.own 0 [.fl 4 "lead"]) (.call 4 [(.own 0 [.fl 5 "height"]),(.var 5)])),.Ea 0 7 (.var 3),.Ea 0 8 (.var 6),.Ea 0 0 (.own 0 [.fl 1 "last"]),.Ea 0 2 (.own 0 [.fl 3 "factor_last"]),.Ea 0 1 (.comp [0] true 1 (.var 2) (.bl true) (.bin .FloorDiv (.var 0) (.var 7))),.Ea 0 3 (.comp [0] true 1 (.var 4) (.bl true) (.bin .FloorDiv (.var 0) (.var 7))),.Ea 0 4 (.ix (.own 0 [.fl 0 "ahead"]) (.neg (.int 1))),.Ea 0 5 (.call 5 [(.own 0 [.fl 5 "height"]),(.own 0 [.fl 4 "lead"]),(.var 5)]),.T3 (.bl true)]
theorem wQ{G:Nat->W}{m:Md}{C:Addr}(X:List W)(Q:W->Prop)(R:Addr->Prop)(h:ze C X Q R):wSs (bV [gE,jd,mR,gb,qd,je]) G dO (bK m Q R) (ak 7 X):=by
 obtain⟨A,B,i,d,o,h,sg,sc,r,N,E,rfl,⟨l2,ZU,OQ,lf,XU,bA,bB,U,ZV,bl,T,hN,hE,k0,kE,h0⟩,q1,q2⟩:=h;show wSs _ _ dO _ [some (n9 C A B i d o h sg sc r),none,none,none,none,none,none];have lB:=fV bB (B.length -1);have S:=uN (ns:=B) (by lia);unfold dO;have m1:N*(A.length+1 -B.length)<=5000*14:=X9 hN (by lia);have m2:(A.length+1 -B.length)*(N+1)<=14*5001:=X9 (by lia) (by lia);refine aH (λb=>∃a j,SO A B N N a j/\b=[some (n9 C A B i d o h sg sc r),some (wI a),some (wI j),some (.int (B.getD (B.length -1) 0^(A.length+1 -B.length))),none,none,none]) (λI l=>?_) ?_
 .unfold n9 at l⊢;fin2;exact⟨A,B,N,N,rfl,⟨by lia,by lia,by lia,bA,bB,by lia⟩,λa R u=>⟨rfl,l _ ⟨a,R,u,rfl⟩⟩⟩
 rintro _ ⟨a,j,u,rfl⟩;have dR:=SW u ZU;have H:=u.bQ;have lQ:=u.Xb;have lR:=u.Xc;generalize hc:B.getD (B.length -1) 0^(A.length+1 -B.length)=c at*;obtain⟨O,hn0⟩:∃O:Nat,O=80000:=⟨_,rfl⟩;have bc:c.natAbs<2^O:=by rw[<-hc];exact jI (Xe lB _) (by lia)
 refine aH (λb=>j≠[]/\b=[some (n9 C A B i d o h sg sc r),some (wI a),some (wI j),some (.int c),none,none,none]) (λI l=>?_) ?_
 .fin2;refine⟨ai (by simp),Iz (y:=[]) λk D=>?_⟩;fin2;by_cases s:j=[]
  .cases cN D s;fin2;subst s;exact q1 a c dR
  .cases c8 D s;fin2;exact l _ ⟨s,rfl⟩
 rintro _ ⟨s,rfl⟩;refine aH (λb=>∃F,SQ i d a F c/\F.length<=100/\b=[some (n9 C A B i d o h sg sc r),some (wI a),some (wI j),some (.int c),some (wI F),none,none]) (λI l=>?_) ?_
 .unfold n9 at l⊢;fin2;refine⟨i,c,rfl,by lia,λy x=>aK bc (U y x) (by lia),?_⟩;refine⟨a,d,rfl,by lia,by lia,λy x z hz=>aK (H y x) (ZV z hz) (by lia),?_⟩;have Z:=CZ a d;have tb:=SV H ZV (by lia);have tc:=II a d;generalize(if a=[]\/d=[]then[]else tabI (a.length+d.length -1) (cf a d a.length))=L at*;have l4:L.length<=100:=by lia
  have w:i.length<=100:=DL lf (by decide);refine⟨_,L,_,rfl,by rw[AN];exact DL w (by decide),DL l4 (by decide),?_,tb,λF Y=>?_⟩
  .lia
  have J:=l7 Y;rw[AN,SF,AN]at J;refine l _ ⟨F,⟨λk=>?_,DL J (k9.mpr ⟨Nat.le_max_left _ _,DL Z.1 (Nat.le_max_right _ _)⟩),λz=>?_⟩,DL J (k9.mpr ⟨w,l4⟩),rfl⟩
  .rw[pP Y,<-tc k];by_cases D:k<max (i.map (c*·)).length L.length
   .rw[AC,Dx,SB D];show(i.map λy=>c*y).getD k 0 -_=_;rw[Sub.map_getD (f:=λy=>c*y) (QP c)]
   .rw[AN]at D;rw[outI (by rw[AN,SF,AN];lia),outI (ns:=L) (by lia),outI (ns:=i) (by lia)];simp
  .have:=Z.2 z;lia
 rintro _ ⟨F,dF,J,rfl⟩;refine aH (λb=>b=[some (n9 C A B i d o h (OR A B sg) sc r),some (wI a),some (wI j),some (.int c),some (wI F),none,none]) (λI l=>?_) ?_
 .have a0:0<A.length:=by lia
  have b0:0<B.length:=by lia
  have y:¬(A.length%2=0/\B.length%2=0)->I [some (n9 C A B i d o h sg sc r),some (wI a),some (wI j),some (.int c),some (wI F),none,none]:=λe=>l _ (by rw[IG a0 b0 e]);have z:A.length%2=0->B.length%2=0->I [some (n9 C A B i d o h (-sg) sc r),some (wI a),some (wI j),some (.int c),some (wI F),none,none]:=λq p=>l _ (by rw[IF a0 b0 q p]);clear l;unfold n9 wI at y z⊢;fin2;refine⟨by decide,?_⟩;by_cases q:((A.map W.int).length:Int).fmod 2=0
  .rw[Bz (IH q)];refine⟨by decide,?_⟩;by_cases p:((B.map W.int).length:Int).fmod 2=0
   .rw[Bz (IH p)];rw[AN]at q p;exact⟨by simp,z (qf.mp q) (qf.mp p)⟩
   .rw[Bn (by rw[Gc];exact p)];rw[AN]at p;exact y λt=>p (qf.mpr t.2)
  .rw[Bn (by rw[Gc];exact q)];rw[AN]at q;exact y λt=>q (qf.mpr t.1)
 rintro _ rfl;have M:=q2 a j F c s dR dF;generalize OR A B sg=sg' at*;have Xf:(o*h^(A.length -B.length)).natAbs.log2<1000000000:=ID (n:=E+1) (GM kE (eI (by decide) (N0 _))) (by lia);have m3:N*(A.length -B.length+1)<=N*(A.length+1 -B.length):=GE _ (by lia);have m4:N*(A.length -B.length)<=N*(A.length -B.length+1):=GE _ (by lia);clear q1 q2;unfold n9 wI at M⊢;fin2;rw[AN,AN,show(A.length:Int) -(B.length:Int)=((A.length -B.length:Nat):Int) by lia];generalize JW:A.length -B.length=v at*;refine⟨h,v,N,rfl,T,by lia,?_⟩;fin2;refine⟨aK bl (Xe T v) (by lia),zf rfl,zf rfl,zf rfl,zf rfl,?_⟩;refine bY (h:=W.int) (g:=λy=>.int (y.fdiv (o*h^v))) j [] _ (λy x K P=>⟨⟨k0,Xf⟩,P⟩) (ai (by simp;lia)) ⟨zf rfl,?_⟩;refine bY (h:=W.int) (g:=λy=>.int (y.fdiv (o*h^v))) F [] _ (λy x K P=>⟨⟨k0,Xf⟩,P⟩) (ai (by simp;lia)) ⟨zf rfl,_,S,zf rfl,?_⟩;refine⟨h,B.getD (B.length -1) 0,v,N,rfl,⟨T,lB,by lia,λhd=>⟨(h0 hd).1,ID (n:=E+1) (GM (h0 hd).2 (eI (by decide) (N0 _))) (by lia)⟩⟩,zf rfl,?_⟩;rw[UV,UV]at M;exact M
abbrev CI:=List Int->List Int->List Int->List Int->Int->Int->Int->Prop
noncomputable def Kept(I:CI):Prop:=∀(A B d b:List Int)(a h sg:Int),I A B d b a h sg->2<=B.length->(∃N E,OP A B d b a h N E)/\∀(e R F:List Int)(c:Int),R≠[]->A4 A B e R c->SQ d b e F c->
 I B (R.map λy=>y.fdiv (a*h^(A.length -B.length))) b (F.map λy=>y.fdiv (a*h^(A.length -B.length))) (B.getD (B.length -1) 0) (Sub.hnext h (B.getD (B.length -1) 0) (A.length -B.length)) (OR A B sg)
noncomputable def zh(C:Addr):aZ:=λf Q _=>∃(A B d b:List Int)(a h sg sc e:Int)(I:CI),f=[n9 C A B d b a h sg sc e]/\(I A B d b a h sg/\Kept I)/\
 ∀(A B d b:List Int)(a h sg sc e:Int),I A B d b a h sg->(B.length<2\/∃g c,A4 A B g [] c)->Q (.tup [.aW,n9 C A B d b a h sg sc e])
noncomputable def dP:List CS:=[.set 1 (.bl true),.xO (.and [(.var 1),(.cmp .Gt (.blt .len [(.own 0 [.fl 1 "last"])]) (.int 1))]) [.yx 1 (.Lr 0 0 0 [])]]
structure ChS where
 A:List Int
 B:List Int
 fA:List Int
 fB:List Int
 ld:Int
 h:Int
 sg:Int
 sc:Int
 kn:Int
 g:Bool
theorem wR{m:Md}{C:Addr}(k:List W)(Q:W->Prop)(R:Addr->Prop)(h:zh C k Q R):wSs (bV [ze C]) (j8 [.cls C]) dP (bK (.io m) Q R) (ak 2 k):=by
 obtain⟨A,B,fA,fB,ld,h,sg,sc,kn,I,rfl,⟨a,d⟩,q⟩:=h;show wSs _ _ dP _ [some (n9 C A B fA fB ld h sg sc kn),none];unfold dP;fin2;refine fT (α:=ChS) (λs=>[some (n9 C s.A s.B s.fA s.fB s.ld s.h s.sg s.sc s.kn),some (.bl s.g)]) (λs=>I s.A s.B s.fA s.fB s.ld s.h s.sg/\(s.g=false->∃e c,A4 s.A s.B e [] c)) (λs=>if s.g then s.B.length+1 else 0) ⟨A,B,fA,fB,ld,h,sg,sc,kn,true⟩ rfl ⟨a,λz=>by cases z⟩ ?_;clear a;rintro⟨A,B,fA,fB,ld,h,sg,sc,kn,g⟩ ⟨a,l⟩;dsimp only at a l⊢;have f:=q A B fA fB ld h sg sc kn a;cases g with
 |false=>fin2;refine cK (λz=>by cases z) (λ_=>?_);exact f (.inr (l rfl))
 |true=>
  unfold n9 at f⊢;unfold wI at f⊢;fin2;refine cK (λz=>?_) (λz=>?_)
  .have z:=Do z;rw[AN]at z;obtain⟨⟨N,E,b⟩,j⟩:=d A B fA fB ld h sg a (by lia);fin2;refine⟨rfl,A,B,fA,fB,ld,h,sg,sc,kn,N,E,rfl,b,λe c i=>?_,λe R F c n i o=>?_⟩
   .refine⟨_,_,rfl,⟨A,B,fA,fB,ld,h,sg,sc,kn,false⟩,rfl,⟨a,λ_=>⟨e,c,i⟩⟩,?_⟩;show 0<_+1;lia
   .refine⟨_,_,rfl,⟨B,_,fB,_,_,_,_,c,_,true⟩,rfl,⟨j e R F c n i o,λz=>by cases z⟩,?_⟩;have:=i.2.2.2.1;show(R.map _).length+1<B.length+1;rw[AN];lia
  .have z:=bo z;rw[AN]at z;exact f (.inl (by lia))
theorem eO{x n:Nat}(h:x<=2^n):x<2^(n+1):=GM h (eI (by decide) (N0 _))
theorem C0{R:List Int}{d:Int}(h:∀x∈R,d∣x)(k:Nat):d∣R.getD k 0:=by
 by_cases a:k<R.length
 .exact h _ (Sub.getD_mem' a)
 .rw[outI (by lia)];exact a9 _
theorem IJ{R:List Int}{d:Int}(h:∀x∈R,d∣x)(k:Nat):co R k=d*co (R.map λy=>y.fdiv d) k:=by show R.getD k 0=d*(R.map λy=>y.fdiv d).getD k 0;rw[Sub.map_getD (f:=λy=>y.fdiv d) (fq _),my (C0 h k),fI (C0 h k)]
theorem C1:∀(n:Nat)(V:List Int),V.length=n->∃W:List Int,(∀k,W.getD k 0=V.getD k 0)/\(W=[]\/W.getD (W.length -1) 0≠0)/\W.length<=V.length
 |0,V,h=>⟨V,λ_=>rfl,.inl (Hn.mp h),Da _⟩
 |n+1,V,h=>by
  have b:V≠[]:=λz=>by rw[z]at h;cases h
  obtain⟨a,x,rfl⟩:∃a x,V=a++[x]:=⟨V.dropLast,V.getLast b,(cx b).symm⟩;have d:a.length=n:=by rw[Fm]at h;simp only[CY,NT]at h;lia
  have ex:(a++[x]).getD n 0=x:=by rw[AC,Ha (by lia),d,eD];rfl
  by_cases f:x=0
  .obtain⟨W,e,z,l⟩:=C1 n a d;refine⟨W,λk=>?_,z,by rw[Fm];lia⟩;rw[e k];by_cases g:k<a.length
   .rw[AC,AC,KE g]
   .rw[outI (by lia)];by_cases c:k=n
    .rw[c,ex,f]
    .rw[outI (by rw[Fm];show a.length+1<=k;lia)]
  .refine⟨a++[x],λ_=>rfl,.inr ?_,Da _⟩;rw[h,He,ex];exact f
noncomputable def Uh(a:List Rat):Nat->Rat:=λi=>a.getD i 0
noncomputable def DvQ(b p2:Nat)(g a:List Rat):Prop:=∃(s:List Rat)(D:Int),(∀k,a.getD k 0=aD (Uh s) (Uh g) k)/\D≠0/\D.natAbs<2^b/\∀x∈s,Cd D p2 x
structure adC(p1 p2:Nat)(a b g u v:List Rat):Prop where
 ng:ao g
 nu:ao u
 nv:ao v
 bez:∀k,g.getD k 0=aD (Uh u) (Uh a) k+aD (Uh v) (Uh b) k
 da:DvQ p1 p2 g a
 db:DvQ p1 p2 g b
 ne:g≠[]
 one:g.getD (g.length -1) 0=1
theorem eU{B:Int}(h:B≠0):(B:Rat)≠0:=λz=>h (by exact_mod_cast z)
theorem SX{B:Int}(a:B≠0)(X:List Int)(k:Nat):(aY (X.map λx=>BK x B)).getD k 0*(B:Rat)=((X.getD k 0:Int):Rat):=by
 rw[iU];have e:(X.map λx=>BK x B).getD k 0=BK (X.getD k 0) B:=by
  rw[AC,Dx,AC];cases X[k]? with
  |none=>exact(Xs B).symm
  |some z=>rfl
 rw[e,TK];exact Tg (eU a)
theorem A5{x y z:Rat}(hz:z≠0)(h:x*z=y*z):x=y:=by
 have:(x -y)*z=0:=by grind
 rcases Pl.mp this with e|e
 .grind
 .exact absurd e hz
noncomputable def Xg(x:Addr)(H H':Hp):Prop:=∀b o,b≠x->H b=some o->H' b=some o
noncomputable def IK(C:Addr):Sp:=λg H Q _=>∃(x f:Addr)(e d c:V),g=[.ref x,e,d,c]/\H x=some (.ins C f [])/\∀(b:Addr)(a:Hp),Xg x H a->H b=none->a b=some (.lst [])->a x=some (.ins C f (Yc.zip [e,d,c,.ref b,.int 1,.int 1,.int 1,.int 1,.int 1]))->Q .aW a
noncomputable def wU(C:Addr):aZ:=λa Q _=>∃A B f:List Int,a=[wI A,wI B,wI f]/\Q (n9 C A B f [] 1 1 1 1 1)
theorem mU{K:Frag}{A:Addr->Prop}{H:Hp}(i:Int):Rep K A H (.int i) (.int i):=by dsimp only[Rep]
theorem OS{K:Frag}{B:Addr->Prop}{H:Hp}:∀{n:Nat}{a:List W}{vs:List V},au K B H a vs->a.length=n->fk K B H (A0 n .s) a vs []
 |0,[],vs,r,_=>by
  cases r;show fk K B H [] _ _ _;dsimp only[fk];exact⟨rfl,rfl,rfl⟩
 |n+1,w::a,vs,r,e=>by obtain⟨v,b,rfl,d,c⟩:=r.cons_inv;show fk K B H (.s::A0 n .s) _ _ _;dsimp only[fk];refine⟨w,a,v,b,[],[],rfl,rfl,rfl,?_,OS c (by simpa using e)⟩;dsimp only[Fp];exact⟨rfl,d⟩
 |0,_::_,_,_,e=>by cases e
 |n+1,[],_,_,e=>by cases e
theorem A6{P:Program}{w:World}{K:Frag}{G:Str->Option Value}{base:Heap}{k:Nat}{C f:Addr}{I:FuncData}{ps:List Str}(Y:Ar K C Yc)(M:Mk K C f)(b:Binds K I ps [])(F:bN P w K G base (ic P w) k f I ps (IK C)):
 d7 P w K G base (k+1) (.ref C) 3 (i0 K 3 jn (wU C)):=by
 refine .mk M b F λvs H Q E hz x m q s S=>?_;obtain⟨A,ws,P,R,l,r,d,⟨a,b',f',e,Z⟩,c,er⟩:=hz;subst e;obtain⟨B,_,rfl,O,r⟩:=r.cons_inv;obtain⟨y,_,rfl,N,r⟩:=r.cons_inv;obtain⟨v,_,rfl,L,r⟩:=r.cons_inv;cases r;refine⟨x,m,B,y,v,rfl,aA,λg J U h e4 ex=>⟨rfl,?_⟩⟩;have i:g≠x:=λe=>by rw[e,aA]at h;cases h
 have t:g≠m:=λe=>by rw[e,aq S,aA]at h;cases h
 have h4:H g=none:=by rw[aq i,aq t]at h;exact h
 have sm:aE H J:=λb o j=>by
  have D:b≠x:=λe=>by rw[e,q]at j;cases j
  have T:b≠m:=λe=>by rw[e,s]at j;cases j
  exact U b o D (by rw[aq D,aq T];exact j)
 have u:∀p o,H p=some o->(A p\/p∈[x])->A p:=λp o e z=>by
  rcases z with z|z
  .exact z
  .rw[Fu.mp z,q]at e;cases e
 refine c _ (.ref x) J Z sm ⟨[x],by simp,λp X=>by rw[Fu.mp X];exact q,?_⟩;unfold n9;dsimp only[Fp];refine⟨C,m,_,x,[B,y,v,.ref g,.int 1,.int 1,.int 1,.int 1,.int 1],[],rfl,rfl,rfl,ex,rfl,Y,?_⟩;refine OS (n:=9) ?_ rfl;refine .cons (Rep.mv sm u _ O) (.cons (Rep.mv sm u _ N) (.cons (Rep.mv sm u _ L) (.cons ?_ (.cons (mU 1) (.cons (mU 1) (.cons (mU 1) (.cons (mU 1) (.cons (mU 1) .nil))))))));show Rep _ _ _ (.lst []) _;dsimp only[Rep];refine⟨g,[],rfl,λz=>?_,.inl e4,.nil⟩;rcases z with z|z
 .obtain⟨o,e⟩:=d g z;rw[h4]at e;cases e
 .exact i (Fu.mp z)
theorem X8.all{rs:List Rat}{ns:List Int}{B:Int}(h:X8 rs ns B)(i:Nat):rs.getD i 0*(B:Rat)=((ns.getD i 0:Int):Rat):=by
 by_cases c:i<rs.length
 .have a:=BM c;have e:ns.getD i 0=rs[i].num*(B/rs[i].den):=by rw[h.eq];exact nZ a
  have d:rs.getD i 0=rs[i]:=by rw[AC,a];rfl
  rw[e,d];exact(gf (h.dv _ (Kx _))).symm
 .have b:ns.getD i 0=0:=outI (by rw[h.eq,AN];omega);rw[b,cS (by omega)];show 0*_=((0:Int):Rat);grind
noncomputable def jM:List CS:=[.D9 [2,3] (.call 0 [(.var 0)]),.D9 [4,5] (.call 0 [(.var 1)]),.ret (.call 1 [(.call 2 [(.var 2),(.var 4)]),(.bin .Mult (.var 3) (.var 5))])]
noncomputable def gF:aZ:=λi Q _=>∃(b a:List Rat)(d c:Int)(f e h g:Nat),i=[af b,af a]/\((∀x∈b,Cd d f x)/\0<d/\d.natAbs<2^h/\(∀x∈a,Cd c e x)/\0<c/\c.natAbs<2^g/\h+g<=6000/\f<=100000/\e<=100000/\b.length<=100/\a.length<=100)/\Q (af (aY (mulQ b a)))
theorem zj{G:Nat->W}{m:Md}(j:List W)(Q:W->Prop)(R:Addr->Prop)(h:gF j Q R):wSs (bV [mT,j4,gb]) G jM (bK m Q R) (ak 6 j):=by
 obtain⟨d,c,S,P,s,r,n,l,rfl,⟨M,K,I,L,J,H,C,E,D,u,t⟩,z⟩:=h;show wSs _ _ jM _ [some (af d),some (af c),none,none,none,none];unfold jM;fin2;refine⟨d,S,s,n,rfl,⟨M,K,I,by lia,E,u⟩,λa A g dA p N=>⟨rfl,?_⟩⟩;fin2;refine⟨c,P,r,l,rfl,⟨L,J,H,by lia,D,t⟩,λb B f Z o O=>⟨rfl,?_⟩⟩;fin2;have X:a.length=d.length:=by rw[g.eq,AN]
 have Y:b.length=c.length:=by rw[f.eq,AN]
 refine⟨a,b,rfl,by lia,by lia,λx w y v=>aK (N x w) (O y v) (by lia),aK p o (by lia),?_⟩;have U:=g.pos;have T:=f.pos;refine⟨_,A*B,n+l,rfl,⟨QQ (by lia) (by lia),by rw[FS];exact lt_mul p o,C,?_⟩,?_⟩
 .have:=(CZ a b).1;lia
 .have e:aY ((if a=[]\/b=[]then[]else tabI (a.length+b.length -1) (cf a b a.length)).map λx=>BK x (A*B))=aY (mulQ d c):=by refine vf (b9 _) (b9 _) λk=>?_;have q:((A*B:Int):Rat)≠0:=eU (QQ (by lia) (by lia));refine A5 q ?_;rw[SX (QQ (by lia) (by lia)),II,iU,Gp,Jn];rw[BV (F:=co a) (G:=co b) (λi=>g.all i) (λi=>f.all i),uA]
  rw[e];exact z
theorem OT(g:List Rat)(y:Rat)(n k:Nat):(A0 n (0:Rat)++g.map (y*·)).getD k 0=y*(if n<=k then g.getD (k -n) 0 else 0):=by
 rw[AC];by_cases h:n<=k
 .rw[Ha (by simpa using h),Bz h,ae,Dx,AC];cases g[k -n]? with
  |none=>show(0:Rat)=y*0;grind
  |some z=>rfl
 .rw[KE (by simpa using h),h9,Bz (by lia),Bn h];show(0:Rat)=y*0;grind
noncomputable def A7:List CS:=[.ret (.blt .sum [(.sl (.var 0) (.var 1) (.bin .Add (.var 1) (.int 1)))])]
noncomputable def IL:aZ:=λa Q _=>∃(b:List Int)(k:Int),a=[.di b,.int k]/\∀z:Int,Q (.int z)
theorem MT(ns:List Int)(a b:Option Int):∃c:List Int,jz (ns.map W.int) a b=c.map W.int:=by unfold jz;exact⟨_,by rw[<-List.map_drop,<-ZG]⟩
theorem SY{c:Nat->aZ}{G:Nat->W}{m:Md}(a:List W)(Q:W->Prop)(R:Addr->Prop)(h:IL a Q R):wSs c G A7 (bK m Q R) (ak 2 a):=by obtain⟨b,k,rfl,f⟩:=h;show wSs _ _ A7 _ [some (.di b),some (.int k)];unfold A7;fin2;obtain⟨d,e⟩:=MT b (some k) (some (k+1));rw[e,WV];exact⟨d,rfl,f _⟩
noncomputable def wV:List CS:=[.ret (.and [(.blt .zG [(.var 0),(.As "int")]),(.not (.blt .zG [(.var 0),(.As "bool")]))])]
noncomputable def rW:aZ:=λa Q _=>∃i:Int,a=[.int i]/\Q (.bl true)
theorem MU{b:Nat->aZ}{G:Nat->W}{m:Md}(a:List W)(Q:W->Prop)(R:Addr->Prop)(h:rW a Q R):wSs b G wV (bK m Q R) (ak 1 a):=by obtain⟨i,rfl,c⟩:=h;show wSs _ _ wV _ [some (.int i)];unfold wV;fin2;simp only[yV];refine⟨_,rfl,?_⟩;fin2;exact⟨_,rfl,c⟩
noncomputable def g8:List CS:=[.iff (.or [(.not (.blt .zG [(.var 0),(.As "tuple")])),(.cmp .NotEq (.blt .len [(.var 0)]) (.int 2)),(.not (.call 0 [(.ix (.var 0) (.int 0))])),(.not (.call 0 [(.ix (.var 0) (.int 1))]))]) [.ret (.bl false)] [],.ret (.and [(.cmp .Gt (.ix (.var 0) (.int 1)) (.int 0)),(.cmp .Eq (.call 1 [(.ix (.var 0) (.int 0)),(.ix (.var 0) (.int 1))]) (.int 1))])]
noncomputable def jg:aZ:=λa Q _=>∃r:Rat,a=[wq r]/\Q (.bl true)
theorem tF{G:Nat->W}{m:Md}(a:List W)(Q:W->Prop)(R:Addr->Prop)(h:jg a Q R):wSs (bV [rW,CT]) G g8 (bK m Q R) (ak 1 a):=by
 obtain⟨r,rfl,b⟩:=h;show wSs _ _ g8 _ [some (wq r)];unfold g8 wq;fin2;simp only[yV];refine⟨_,rfl,?_⟩;fin2;rw[Bn (by decide),Bn (by simp)];refine⟨_,rfl,_,rfl,?_⟩;fin2;refine⟨_,rfl,_,rfl,?_⟩;fin2;refine⟨_,rfl,?_⟩;have d:0<(r.den:Int):=by have:=r.den_pos;omega
 fin2;rw[Bz (IH d)];refine⟨_,rfl,_,rfl,_,_,rfl,?_⟩;fin2;have c:D1 r.num (r.den:Int)=1:=r.reduced;rw[c];exact b
noncomputable def rX:List CS:=[.iff (.or [(.not (.blt .zG [(.var 0),(.As "list")])),(.not (.blt .all [(.comp [0] true 1 (.var 0) (.bl true) (.call 0 [(.var 0)]))]))]) [.ret (.bl false)] [],.ret (.or [(.cmp .Eq (.var 0) (.lst [])),(.cmp .NotEq (.ix (.ix (.var 0) (.neg (.int 1))) (.int 0)) (.int 0))])]
noncomputable def qg:aZ:=λb Q _=>∃a:List Rat,b=[af a]/\a.length<=200/\ao a/\Q (.bl true)
theorem IM{G:Nat->W}{m:Md}(c:List W)(Q:W->Prop)(R:Addr->Prop)(h:qg c Q R):wSs (bV [jg]) G rX (bK m Q R) (ak 1 c):=by
 obtain⟨a,rfl,l,hz,d⟩:=h;show wSs _ _ rX _ [some (af a)];unfold rX af;fin2;simp only[yV,WW];refine⟨_,rfl,?_⟩;fin2;rw[Bn (by decide)];refine bY (g:=λ_=>.bl true) a [] _ (λr _ K j=>⟨r,rfl,j⟩) (ai (by simp;lia)) ?_;refine⟨a.map λ_=>true,by rw[UV];rfl,?_⟩;rw[all_true];fin2;refine⟨ai (by simp),?_⟩;simp only[WY];refine⟨.inl ⟨jZ a 7,rfl⟩,λk b=>?_⟩;fin2;rcases il a with rfl|⟨t,y,rfl⟩
 .have:k=true:=cN b rfl;subst this;rw[Bz rfl];exact d
 .rw[rg]at*;have:k=false:=c8 b λe=>by simpa using W.Cn e
  subst this;rw[Bn (by decide)];refine⟨_,fF eQ,_,rfl,?_⟩;have i:y≠0:=hz y eQ;have f:y.num≠0:=λe=>i (xp.mp e);fin2;rw[Pi f];exact d
noncomputable def A8:List CS:=[.set 2 (.blt .list [(.var 0)]),.xO (.cmp .GtE (.blt .len [(.var 2)]) (.blt .len [(.var 1)])) [.set 3 (.call 0 [(.ix (.var 2) (.neg (.int 1))),(.call 1 [(.ix (.ix (.var 1) (.neg (.int 1))) (.int 1)),(.ix (.ix (.var 1) (.neg (.int 1))) (.int 0))])]),.set 4 (.bin .Sub (.blt .len [(.var 2)]) (.blt .len [(.var 1)])),.set 2 (.call 2 [(.var 2),(.bin .Add (.bin .Mult (.lst [(.tup [(.int 0),(.int 1)])]) (.var 4)) (.comp [0] true 1 (.var 1) (.bl true) (.call 0 [(.var 4),(.var 0)]))),(.neg (.int 1))])],.ret (.var 2)]
structure GIn(a:List Rat):Prop where
 l8:a.length<=8
 z:ao a
 cd:∃D:Int,0<D/\D.natAbs<2^101/\∀x∈a,Cd D 117 x
 bd:∀x∈a,Bd 200 x
structure Rw(l n k:Nat)(a:List Rat):Prop where
 len:a.length<=l
 z:ao a
 cd:∃D:Int,0<D/\D.natAbs<2^k/\∀x∈a,Cd D n x
theorem Rw.up{l n k d b e:Nat}{a:List Rat}(h:Rw l n k a)(o:l<=d)(i:n<=b)(g:k<=e):Rw d b e a:=by obtain⟨p,a2,D,m,j,c⟩:=h;exact⟨by lia,a2,D,m,jI j g,λx f=>(c x f).up i⟩
theorem S5{D:Int}{n:Nat}{x:Rat}(h:Cd D n x):Cd (-D) n x:=by obtain⟨z,e,b⟩:=h;refine⟨-z,?_,by omega⟩;rw[ej,ej,<-e];grind
theorem S6{D:Int}{n:Nat}{a:List Rat}(e:D≠0)(h:∀x∈a,Cd D n x){k:Nat}(c:D.natAbs<2^k):∃D:Int,0<D/\D.natAbs<2^k/\∀x∈a,Cd D n x:=by
 by_cases d:0<D
 .exact⟨D,d,c,h⟩
 .exact⟨-D,by lia,by lia,λx b=>S5 (h x b)⟩
theorem Xh{m E:Nat}(h:∀s,s<m+1->∀p,p<m+1->(s -2*p)*p+(s+1)<=E):∀s,s<=m->∀p,(s -2*p)*p+(s+1)<=E:=λs b p=>by
 by_cases a:p<m+1
 .exact h s (by omega) p a
 .have:=h s (by omega) 0 (by omega);rw[show s -2*p=0 by omega,tq];omega
theorem rw_draw{l:Nat}{k:Int}{rs:List Rat}(f:k=0\/k=1)(d:rs.length<=l)(h:∀x∈rs,kY k x)(hz:ao rs):Rw l 13 3 rs:=by
 refine⟨d,hz,6,by decide,by decide,λx a=>?_⟩;have a:=h x a;have i:=x.den_pos;have c:(x.den:Int)∣6/\(x.num*(6/x.den)).natAbs<2^13:=by
  rcases f with e|e
  .obtain⟨g,b⟩:=a.1 e;have:x.den=1\/x.den=2\/x.den=3:=by lia
   rcases this with e|e|e<;>rw[e]<;>refine⟨by decide,?_⟩
   .show(x.num*6).natAbs<_;lia
   .show(x.num*3).natAbs<_;lia
   .show(x.num*2).natAbs<_;lia
  .obtain⟨g,b⟩:=a.2.1 e;rw[b];refine⟨by decide,?_⟩;show(x.num*6).natAbs<_;lia
 exact Cd.of c.1 c.2
theorem rw_mul{c f e d k1 k2:Nat}{a b:List Rat}(n:Rw c e k1 a)(m:Rw f d k2 b)(h:c<=30):Rw (c+f -1) (e+d+5) (k1+k2) (aY (mulQ a b)):=by obtain⟨u,a2,r,k,i,p⟩:=n;obtain⟨t,s,q,j,g,o⟩:=m;refine⟨?_,b9 _,r*q,XX k j,by rw[FS];exact lt_mul i g,λx l=>K2 p o (by omega) x (DY l)⟩;have:=ux (mulQ a b);unfold mulQ at this⊢;rw[e9]at this;omega
noncomputable def rB(n k:Nat):Nat:=(2*n+k+4)*14+1
structure Tn(xs xs':List (List Rat))(n i t:Nat):Prop where
 xl:xs'.length=n
 rl:∀x∈xs',x.length=n
 same:∀m,m<=i\/i+1+t<=m->xs'.getD m []=xs.getD m []
 el:∀m,i<m->m<i+1+t->vQ (xs'.getD m []) i=0/\∃s:Rat,∀c,vQ (xs'.getD m []) c=vQ (xs.getD m []) c+s*vQ (xs.getD i []) c
noncomputable def wv(t p:Int):List Int->Int
 |[]=>0
 |c::l=>wv t p l*t+c*p^l.length
theorem Rw.bd{l n k:Nat}{a:List Rat}(h:Rw l n k a)(d:k<=n):∀x∈a,Bd n x:=by obtain⟨_,_,D,f,e,c⟩:=h;exact λx b=>(c x b).bd (by lia) (jI e d)
section
variable{a b:List Rat}{l1 l2 n1 n2 n k1 k2 k E q:Nat}{Q:W->Prop}{R:Addr->Prop}
theorem Xi(p:Rw l1 n1 k1 a)(o:Rw l2 n2 k2 b)(h:k1+k2<=6000/\n1<=100000/\n2<=100000/\l1<=100/\l2<=100)(q:Q (af (aY (mulQ a b)))):gF [af a,af b] Q R:=by obtain⟨u,a2,w,l,i,s⟩:=p;obtain⟨t,x,v,j,g,r⟩:=o;obtain⟨m,d,c,f,e⟩:=h;exact⟨a,b,w,v,n1,n2,k1,k2,rfl,⟨s,l,i,r,j,g,m,d,c,DL u f,DL t e⟩,q⟩
end
theorem Xj{x y:Rat}{Q:W->Prop}(h:∀k:Bool,(k=true↔x=y)->Q (.bl (!k))):iY .NotEq (wq x) (wq y) Q:=
 ⟨.inl ⟨AQ x 8,AQ y 8⟩,λk a=>h k (a.trans ⟨λe=>Ih e,λe=>by rw[e]⟩)⟩
theorem MV{a s:Int}{n i:Nat}{w:W}(h:(eE a s n)[i]?=some w):∃z:Int,w=.int z:=by unfold eE at h;rw[Dx]at h;obtain⟨j,_,rfl⟩:=PH.mp h;exact⟨_,rfl⟩
theorem OU{a b:List Rat}{f e d c k1 k2:Nat}{Q:W->Prop}{R:Addr->Prop}(l:Rw f d k1 a)(g:Rw e c k2 b)(h:k1<=d/\k2<=c/\d+c+5+(d+c)<=100000000/\f<=30/\e<=100)(q:Q (af (aY (mulQ a b)))):dj [af a,af b] Q R:=by have v:=l.bd h.1;have t:=g.bd h.2.1;obtain⟨G,a2,x,z,n,r⟩:=l;obtain⟨u,s,w,y,m,p⟩:=g;obtain⟨F,E,o,C,B⟩:=h;refine⟨a,b,d,c,rfl,v,t,⟨d+c+5,λi j k A=>?_,o⟩,by lia,by lia,q⟩;refine Cd.bd (D:=x*w) (QQ (by lia) (by lia)) (K1 r p i j k (by lia)) ?_;rw[FS];exact jI (lt_mul n m) (by lia)
noncomputable def rY:List CS:=[.D9 [2,3] (.tup [(.int 1),(.int 0)]),.D9 [4,5] (.tup [(.int 0),(.int 1)]),.xO (.cmp .NotEq (.var 1) (.int 0)) [.set 6 (.bin .FloorDiv (.var 0) (.var 1)),.par [0,1] [(.var 1),(.bin .Sub (.var 0) (.bin .Mult (.var 6) (.var 1)))],.par [2,3] [(.var 3),(.bin .Sub (.var 2) (.bin .Mult (.var 6) (.var 3)))],.par [4,5] [(.var 5),(.bin .Sub (.var 4) (.bin .Mult (.var 6) (.var 5)))]],.iff (.cmp .Lt (.var 0) (.int 0)) [.ret (.tup [(.neg (.var 0)),(.neg (.var 2)),(.neg (.var 4))])] [],.ret (.tup [(.var 0),(.var 2),(.var 4)])]
noncomputable def wW:aZ:=λc Q _=>∃(a b:Int)(n:Nat),c=[.int a,.int b]/\n<=7000/\a.natAbs<2^n/\b.natAbs<2^n/\∀g u v:Int,g=(D1 a b:Nat)->u*a+v*b=g->Q (.tup [.int g,.int u,.int v])
theorem IP{s:Nat->aZ}{G:Nat->W}{m:Md}(l:List W)(Q:W->Prop)(R:Addr->Prop)(h:wW l Q R):wSs s G rY (bK m Q R) (ak 7 l):=by
 obtain⟨a,b,n,rfl,z,w,p,q⟩:=h;show wSs _ _ rY _ [some (.int a),some (.int b),none,none,none,none,none];unfold rY;fin2;refine⟨ai (by simp),rfl,ai (by simp),rfl,?_⟩;have i:=pow2 n;refine fT (α:=Int×Int×Int×Int×Int×Int×Option W) (λx=>[some (.int x.1),some (.int x.2.1),some (.int x.2.2.1),some (.int x.2.2.2.1),some (.int x.2.2.2.2.1),some (.int x.2.2.2.2.2.1),x.2.2.2.2.2.2]) (λx=>GF n a b x.1 x.2.1 x.2.2.1 x.2.2.2.1 x.2.2.2.2.1 x.2.2.2.2.2.1) (λx=>x.2.1.natAbs) (a,b,1,0,0,1,none) rfl ⟨by lia,by lia,rfl,w,p,i,by show 0<_;clear i p;lia,by show 0<_;lia,i,.inl ⟨rfl,rfl,rfl,rfl⟩⟩ ?_;rintro⟨x,y,u,f,v,d,o⟩ I;have I:GF n a b x y u f v d:=I;fin2;refine cK (λk=>?_) (λk=>?_)
 .have c:y≠0:=by simpa using k
  have j:(x.fdiv y).natAbs<2^(n+2):=by
   have C:=Y7 x y c;have B:=I.bx;have A:=I.vG;have e:2^(n+2)=4*2^n:=by rw[dE];lia
   lia
  fin2;refine⟨⟨c,kX I.vG (by lia)⟩,aK j I.vG (by lia),rfl,aK j I.bu2 (by lia),rfl,aK j I.bv2 (by lia),rfl,?_⟩;exact⟨(y,x -x.fdiv y*y,f,u -x.fdiv y*f,d,v -x.fdiv y*d,_),rfl,I.next c,qH x y c⟩
 .have c:y=0:=by simpa using k
  subst c;have t:=I.g;rw[uj]at t;have e1:=I.e1;fin2;by_cases r:x<0
  .rw[Bz (IH r)];refine⟨ai (by simp),q (-x) (-u) (-v) (by lia) ?_⟩;rw[iM,iM];lia
  .rw[Bn (by rw[Gc];exact r)];exact⟨ai (by simp),q x u v (by lia) e1⟩
noncomputable def oh:List CS:=[.ret (.bin .Mod (.ix (.call 0 [(.var 0),(.var 1)]) (.int 1)) (.var 1))]
noncomputable def rZ:aZ:=λa Q _=>∃x p:Int,a=[.int x,.int p]/\(gq p/\p<2^40/\0<x/\x<p)/\∀y:Int,0<=y->y<p->p∣y*x -1->Q (.int y)
theorem EG{G:Nat->W}{m:Md}(a:List W)(Q:W->Prop)(R:Addr->Prop)(h:rZ a Q R):wSs (bV [wW]) G oh (bK m Q R) (ak 2 a):=by
 obtain⟨x,p,rfl,⟨b,k,d,c⟩,q⟩:=h;show wSs _ _ oh _ [some (.int x),some (.int p)];have f:0<p:=by have:=b.1;lia
 unfold oh;fin2;refine⟨x,p,40,rfl,by decide,by lia,by lia,λg u v j i=>⟨_,rfl,?_⟩⟩;fin2;have l:g=1:=by rw[j,ft,ku b d c];rfl
 rw[Ts _ (by lia)];refine⟨by lia,q (u%p) (mM _ (by lia)) (eA _ f) ?_⟩;have e:u%p=u -p*(u/p):=by have:=iq u p;lia
 rw[e];refine⟨-(v+(u/p)*x),?_⟩;have:u*x=1 -v*p:=by lia
 grind
noncomputable def oi:List CS:=[.ret (.call 0 [(.comp [0] true 1 (.var 0) (.bl true) (.bin .Mod (.var 0) (.var 2)))])]
noncomputable def mV:aZ:=λc Q _=>∃(a:List Int)(p:Int),c=[wI a,.int p]/\0<p/\a.length<=1000/\∀b,fM (a.map (·%p)) b->Q (wI b)
theorem EH{G:Nat->W}{m:Md}(b:List W)(Q:W->Prop)(R:Addr->Prop)(h:mV b Q R):wSs (bV [gC]) G oi (bK m Q R) (ak 2 b):=by
 obtain⟨a,p,rfl,e,c,q⟩:=h;show wSs _ _ oi _ [some (wI a),some (.int p)];unfold oi wI;fin2;refine bY (g:=λx=>.int (x%p)) a [] _ (λx f K d=>⟨by lia,?_⟩) (ai (by simpa using c)) ⟨a.map (·%p),?_,q⟩
 .dsimp only;rw[Ts _ (by lia)];exact d
 .unfold wI;rw[UV];rfl
noncomputable def jh:List CS:=[.set 3 (.blt .max2 [(.bin .Add (.bin .Sub (.blt .len [(.var 0)]) (.blt .len [(.var 1)])) (.int 1)),(.int 0)]),.set 4 (.call 0 [(.ix (.var 1) (.neg (.int 1))),(.var 2)]),.set 5 (.blt .list [(.var 0)]),.set 6 (.bin .Mult (.lst [(.int 0)]) (.var 3)),.fr [7] true (.jP [(.bin .Sub (.var 3) (.int 1)),(.neg (.int 1)),(.neg (.int 1))]) [.yx 8 (.bin .Mod (.bin .Mult (.pop 5) (.var 4)) (.var 2)),.put 6 (.var 7) (.var 8),.fr [9] true (.jP [(.bin .Sub (.blt .len [(.var 1)]) (.int 1))]) [.put 5 (.bin .Add (.var 7) (.var 9)) (.bin .Mod (.bin .Sub (.ix (.var 5) (.bin .Add (.var 7) (.var 9))) (.bin .Mult (.var 8) (.ix (.var 1) (.var 9)))) (.var 2))]],.ret (.tup [(.var 6),(.call 1 [(.var 5)])])]
structure Rm(p:Int)(ns:List Int):Prop where
 b:∀x∈ns,0<=x/\x<p
 z:ns=[]\/ns.getD (ns.length -1) 0≠0
structure DvM(p:Int)(ns ms qs rs:List Int):Prop where
 lq:qs.length=ns.length+1 -ms.length
 lr:rs.length<ms.length
 eq:vt p ns ms (λi=>qs.getD i 0) rs
 q:Rm p qs
 r:Rm p rs
noncomputable def jN:aZ:=λe Q _=>∃(b a:List Int)(p:Int),e=[wI b,wI a,.int p]/\(gq p/\p<2^40/\0<a.length/\b.length<=100/\a.length<=100/\Rm p b/\Rm p a)/\∀d c,DvM p b a d c->Q (.tup [wI d,wI c])
theorem zk{x y p:Int}(c:p<2^40)(b:0<=x/\x<p)(a:0<=y/\y<p):IntMulOk x y:=aK (n:=40) (m:=40) (by lia) (by lia) (by decide)
theorem wX{G:Nat->W}{m:Md}(ws:List W)(Q:W->Prop)(R:Addr->Prop)(h:jN ws Q R):wSs (bV [rZ,gC]) G jh (bK m Q R) (ak 10 ws):=by
 obtain⟨o,c,b,rfl,⟨hp,S7,P,la,lb,⟨bn,nzn⟩,⟨bm,Xd⟩⟩,q⟩:=h;show wSs _ _ jh _ [some (wI o),some (wI c),some (.int b),none,none,none,none,none,none,none];have J:0<b:=by have:=hp.1;lia
 have Xd:c.getD (c.length -1) 0≠0:=Xd.resolve_left λz=>by rw[z]at P;cases P
 unfold jh wI;fin2;have eR:(if(0:Int)>((o.map W.int).length:Int) -((c.map W.int).length:Int)+1 then(0:Int)else((o.map W.int).length:Int) -((c.map W.int).length:Int)+1)=((o.length+1 -c.length:Nat):Int):=by rw[AN,AN];split<;>lia
 rw[eR];have bL:=pT J bm (c.length -1);have eL:=uN P;have Ug:(c.map W.int).length=c.length:=AN _;generalize hl:c.getD (c.length -1) 0=l at*;generalize fX:o.length+1 -c.length=a at*;refine⟨_,eL,l,b,rfl,⟨hp,S7,by lia,bL.2⟩,λu by0 by1 hby=>?_⟩;fin2;rw[Eg,fE,rV];refine⟨ai (by simp),by lia,by lia,ai (by simp;lia),?_⟩;refine n8 (by lia) ?_;fin2;refine bf (λs ε=>∃(R:List Int)(B C:Nat->Int)(v7 v8 F:Option W),(vt b o c C R/\R.length=o.length -s/\(∀x∈R,0<=x/\x<b)/\(∀i,i<a->a -s<=i->C i=B i)/\(∀i,0<=B i/\B i<b)/\(∀i,(i<a -s\/a<=i)->C i=0)/\(0<s->b∣B (a -1)*l -o.getD (o.length -1) 0)/\(s=0->R=o))/\ε=[some (.lst (o.map W.int)),some (.lst (c.map W.int)),some (.int b),some (.int a),some (.int u),some (.lst (R.map W.int)),some (.lst ((tabI a B).map W.int)),v7,v8,F]) ?_ ?_ ?_
 .exact⟨o,λ_=>0,λ_=>0,_,_,_,⟨vt.start b o c,by lia,bn,λi U h2=>rfl,λ_=>⟨Int.le_refl _,J⟩,λ_ _=>rfl,λh=>by lia,λ_=>rfl⟩,rfl⟩
 .rintro s w _ N1 hw ⟨R,I,C,v7,v8,F,⟨X,lR,bR,M,T,hz,L,A9⟩,rfl⟩ lK;obtain⟨B,rfl⟩:=wM hw;rw[show((a:Nat):Int) -1 -(s:Int)=((a -1 -s:Nat):Int) by lia];generalize hpp:a -1 -s=p at*;have H:a=p+s+1:=by lia
  obtain⟨d,t⟩:∃d,c.length=d+1:=⟨_,(x5 P).symm⟩;have hn:o.length=p+d+(s+1):=by lia
  clear hpp fX;have e1:a -s=p+1:=by rw[H,ij,He]
  have e2:a -(s+1)=p:=by rw[H];exact He p (s+1)
  have em:p+c.length -1=p+d:=by rw[t];rfl
  have EF:R.length=p+c.length:=by rw[lR,hn,t,<-sT,ij,He];rfl
  obtain⟨r,x,rfl⟩:=wN (R:=R) (by rw[EF,t];exact Zq _);have O:r.length=p+d:=by rw[Fm,t]at EF;exact xf EF
  have ex:(r++[x]).getD (p+d) 0=x:=by rw[AC,Ha (eJ O),O,eD];rfl
  have eg:∀k,k<p+d->(r++[x]).getD k 0=r.getD k 0:=λk A=>by rw[AC,KE (by rw[O];exact A),<-AC]
  have bx:=bR x (IR _ (Fu.mpr rfl));have Yb:∀y∈r,0<=y/\y<b:=λy K=>bR y (QR _ K);fin2;refine⟨_,pop_at,?_⟩;rw[A3];fin2;refine⟨zk S7 bx ⟨by0,by1⟩,by lia,?_⟩;rw[Ts _ (by lia)];have h0:0<=x*u%b:=mM _ (by lia);have XR:x*u%b<b:=eA _ J;have hh:b∣(x*u%b)*l -x:=by
   obtain⟨k,A⟩:=hby;have e:=iq (x*u) b;refine⟨x*k -(x*u/b)*l,?_⟩;have:x*u%b=x*u -b*(x*u/b):=by lia
   rw[this];have e2:u*l=1+b*k:=by lia
   grind
  generalize x*u%b=h at*;refine⟨p,gZ (by rw[AN,aP,H];exact js (UF _ _)),?_⟩;have et:=fG (n:=a) (f:=I) (g:=λk=>if k=p then h else I k) (k:=p) (by rw[H];exact js (UF _ _)) (λj _ Z=>Bn Z);rw[Bz rfl]at et;rw[<-eM,et,Ug];refine⟨by lia,by lia,?_⟩;rw[show((c.length:Int) -1).toNat=d by rw[t];lia];refine bf (λj ε=>∃F:Option W,ε=[some (.lst (o.map W.int)),some (.lst (c.map W.int)),some (.int b),some (.int a),some (.int u),some (.lst ((tabI (p+d) λk=>if p<=k/\k<p+j then(r.getD k 0 -h*c.getD (k -p) 0)%b else r.getD k 0).map W.int)),some (.lst ((tabI a λk=>if k=p then h else I k).map W.int)),some (.int p),some (.int h),F]) ⟨F,?_⟩ ?_ ?_
  .rw[iI (n:=p+d) (f:=λk=>if p<=k/\k<p+0 then(r.getD k 0 -h*c.getD (k -p) 0)%b else r.getD k 0) λk _=>Bn (show¬(p<=k/\k<p+0)from λz=>OF _ (FV z.2 z.1)),<-j5 r O]
  .rintro j w _ N2 sP ⟨F,rfl⟩ wC;obtain⟨Z,rfl⟩:=fU sP;have ix:p+j<p+d:=R1 Z p;fin2;rw[show(p:Int)+(j:Int)=((p+j:Nat):Int) by lia];refine⟨_,bC (by rw[Dx,f9 ix];rfl),?_⟩;rw[Bn (show¬(p<=p+j/\p+j<p+j)from λz=>OF _ z.2)];refine⟨_,bC (int_at (by rw[t];exact SC Z)),?_⟩;fin2;refine⟨zk S7 ⟨h0,XR⟩ (pT J bm j),by lia,?_⟩;rw[Ts _ (by lia)];refine⟨p+j,gZ (by rw[AN,aP];exact ix),wC _ ⟨some (.int j),?_⟩⟩;have e:=fG (n:=p+d) (f:=λk=>if p<=k/\k<p+j then(r.getD k 0 -h*c.getD (k -p) 0)%b else r.getD k 0) (g:=λk=>if p<=k/\k<p+(j+1)then(r.getD k 0 -h*c.getD (k -p) 0)%b else r.getD k 0) ix (λk _ A=>by
    by_cases v:p<=k/\k<p+j
    .rw[Bz v,Bz ⟨v.1,SC v.2⟩]
    .rw[Bn v,Bn λz=>v ⟨z.1,i5 (oa z.2) A⟩])
   rw[Bz ⟨UF _ _,N0 _⟩,P2]at e;rw[<-e,eM]
  .rintro _ ⟨F,rfl⟩;rw[AZ];have mm:∀y:Int,b∣y%b -y:=λy=>⟨-(y/b),by have:=iq y b;lia⟩;refine lK _ ⟨_,λk=>if k=p then h else I k,λi=>C i+if i=p then h else 0,_,_,_,⟨X.step (R':=tabI (p+d) λk=>if p<=k/\k<p+d then(r.getD k 0 -h*c.getD (k -p) 0)%b else r.getD k 0) P hl.symm EF (by rw[aP,em]) (by rw[em,ex];exact hh) (λk A=>?_),by rw[aP,hn,He],λy K=>?_,λi U h2=>?_,λi=>?_,λi S=>?_,λ_=>?_,λz=>by cases z⟩,rfl⟩
   .rw[em]at A;rw[jJ A,eg k A];by_cases E:p<=k
    .rw[Bz ⟨E,A⟩,Bz E];exact mm _
    .rw[Bn λz=>E z.1,Bn E,ik,xn];exact a9 _
   .obtain⟨k,A,rfl⟩:=jK K;split
    .exact⟨mM _ (by lia),eA _ J⟩
    .exact pT J Yb k
   .show C i+(if i=p then h else 0)=if i=p then h else I i
    by_cases N:i=p
    .rw[Bz N,Bz N,hz i (.inl (by rw[N,e1];exact N0 _)),pd]
    .rw[Bn N,Bn N,M i U (by rw[e1];rw[e2]at h2;exact i5 h2 (T2 N)),fo]
   .show 0<=(if i=p then h else I i)/\(if i=p then h else I i)<b;split
    .exact⟨h0,XR⟩
    .exact T i
   .show C i+(if i=p then h else 0)=0;rw[e2,H]at S;rw[Bn (by clear X M T hz L A9;lia),hz i (by rw[e1,H];clear X M T hz L A9;lia),fo]
   .show b∣(if a -1=p then h else I (a -1))*l -_;by_cases D:s=0
    .have e:=A9 D;rw[Bz (by rw[H,D];rfl),<-e,Fm];show b∣h*l -(r++[x]).getD (r.length+1 -1) 0;rw[He,O,ex];exact hh
    .rw[Bn λz=>D (by rw[H]at z;exact Nat.add_left_cancel (show p+s=p+0 from z))];exact L (df D)
 .rintro _ ⟨R,B,C,v7,v8,F,⟨X,lR,bR,M,T,hz,L,_⟩,rfl⟩;rw[AZ]at lR M hz L;fin2;refine⟨R,rfl,λts Y=>⟨ai (by simp),?_⟩⟩;have tl:=l7 Y;have ZS:∀i,C i=(tabI a B).getD i 0:=λi=>by
   rw[qe];by_cases S:i<a
   .rw[Bz S,M i S (by lia)]
   .rw[Bn S,hz i (by lia)]
  refine q (tabI a B) ts ⟨by rw[aP];exact fX.symm,by lia,λk=>?_,⟨λy K=>?_,?_⟩,λy K=>bR y (Y.mem y K),Y.last⟩
  .have:=X k;rw[show C=λi=>(tabI a B).getD i 0 from funext ZS]at this;rw[pP Y];exact this
  .obtain⟨k,A,rfl⟩:=jK K;exact T k
  .by_cases hr0:a=0
   .left;rw[hr0];rfl
   .right;rw[aP,jJ (by lia)];intro z;have U:=L (by lia);rw[z,Ta,b4]at U;have nn:o.getD (o.length -1) 0≠0:=by
     rcases nzn with e|e
     .rw[e]at fX;simp only[NT]at fX;lia
     .exact e
    have bb:=pT J bn (o.length -1);have:=gL (by lia) (d3.mp U);lia
noncomputable def lC:List CS:=[.xO (.cmp .Gt (.blt .len [(.var 1)]) (.int 1)) [.par [0,1] [(.var 1),(.ix (.call 0 [(.var 0),(.var 1),(.var 2)]) (.int 1))]],.ret (.cmp .Eq (.blt .len [(.var 1)]) (.int 1))]
noncomputable def j6:aZ:=λd Q _=>∃(a c:List Int)(p:Int),d=[wI a,wI c,.int p]/\(gq p/\p<2^40/\a.length<=100/\c.length<=100/\Rm p a/\Rm p c)/\∀b:Bool,(b=true->Ap p (co a) (co c))->Q (.bl b)
theorem Ba{G:Nat->W}{m:Md}(q:List W)(Q:W->Prop)(R:Addr->Prop)(h:j6 q Q R):wSs (bV [jN]) G lC (bK m Q R) (ak 3 q):=by
 obtain⟨a,f,p,rfl,⟨L,D,H,F,C,y⟩,K⟩:=h;show wSs _ _ lC _ [some (wI a),some (wI f),some (.int p)];unfold lC;refine aH (λj=>∃A B:List Int,(B.length<=1/\Rm p B/\D7 p (co a) (co f) B)/\j=[some (wI A),some (wI B),some (.int p)]) (λN M=>?_) ?_
 .fin2;refine fT (α:=List Int×List Int) (λx=>[some (wI x.1),some (wI x.2),some (.int p)]) (λx=>x.1.length<=100/\x.2.length<=100/\Rm p x.1/\Rm p x.2/\D7 p (co a) (co f) x.1/\D7 p (co a) (co f) x.2) (λx=>x.2.length) (a,f) rfl ⟨H,F,C,y,.one λ_=>rfl,(D7.one λ_=>rfl).swap⟩ ?_;rintro⟨A,B⟩ ⟨w,a2,a3,i,t,g⟩;dsimp only at w a2 a3 i t g⊢;rw[show wI B=W.lst (B.map W.int)from rfl];fin2;rw[AN];refine cK (λn=>?_) (λn=>?_)
  .have E:1<B.length:=by have:=Do n;lia
   fin2;refine⟨A,B,p,rfl,⟨L,D,by lia,w,a2,a3,i⟩,λP s d=>⟨_,rfl,rfl,?_⟩⟩;exact⟨(B,s),rfl,⟨a2,by have:=d.lr;show s.length<=100;lia,i,d.r,g,t.rest g d.eq⟩,d.lr⟩
  .refine M _ ⟨A,B,⟨?_,i,g⟩,rfl⟩;have:=bo n;lia
 rintro _ ⟨A,B,⟨E,rB,O⟩,rfl⟩;unfold wI;fin2;rw[AN];refine K _ λo=>?_;have o:B.length=1:=by have:=Do o;lia
 obtain⟨c,rfl⟩:∃c,B=[c]:=by rcases B with _|⟨c,_|⟨d,l⟩⟩<;>simp at o;exact⟨c,rfl⟩
 obtain⟨u,v,N,J,I,e⟩:=O;refine⟨u,v,N,c,J,I,λz=>?_,λk=>?_⟩
 .have T:=rB.b c (by simp);have S:c≠0:=rB.z.resolve_left (by simp);have:=gL (by lia) z;lia
 .have:=e k;cases k with
  |zero=>exact this
  |succ k=>rw[Bn (by lia)];exact this
noncomputable def uP(p:Nat):Nat->Nat->Bool
 |0,a=>decide (a<2)||decide (p%a≠0)
 |k+1,a=>uP p k a&&uP p k (a+2^k)
theorem r6{p:Nat}:∀(k a d:Nat),uP p k a=true->a<=d->d<a+2^k->2<=d->p%d≠0
 |0,a,d,h,f,c,b=>by
  have e:d=a:=by lia
  subst e;rw[uP,td,Gc,Gc]at h;exact h.resolve_left (by lia)
 |k+1,a,d,h,f,c,b=>by
  rw[uP,Bi]at h;rw[KO]at c;by_cases z:d<a+2^k
  .exact r6 k a d h.1 f z b
  .exact r6 k _ d h.2 (by lia) (by lia) b
theorem witness:gq 2147483647:=by
 have h:uP 2147483647 16 0=true:=by decide+kernel
 refine⟨by decide,λd c b z=>?_⟩;have a:d<65536:=by refine Int.lt_of_not_ge λg=>?_;have:(65536:Int)*65536<=d*d:=Int.mul_le_mul g g (by decide) (by lia);lia
 refine r6 16 0 d.toNat h (L9 _) (by lia) (by lia) ?_;have e:((2147483647%d.toNat:Nat):Int)=2147483647%d:=by rw[Int.natCast_emod,S2 (by lia)];rfl
 rw[z]at e;lia
noncomputable def ZW(ns a:List Int)(w E:Nat):CI:=λA B d c b h e=>d=[]/\c=[]/\Sub.CS ns a [] [] w E (a.length+1) A B [] [] b h
theorem EI{ns a:List Int}{w E:Nat}(c:0<a.length)(b:a.getD (a.length -1) 0≠0)(X:Sub.FX ns a [] [] w E):ZW ns a w E ns a [] [] 1 1 1:=
 ⟨rfl,rfl,Sub.CS.start X c b (by show 0+a.length<=_;lia) (.inl rfl)⟩
theorem IQ{ns b:List Int}{w E:Nat}(X:Sub.FX ns b [] [] w E)(K:ns.length<=15)(n:w*(ns.length -1+(b.length -1)+1)+1<=5000)(o:w*E<=12000):Kept (ZW ns b w E):=by
 rintro A B I H G h D ⟨rfl,rfl,C⟩ d;have l1:=X.l1;have JV:=C.JV;have lp:=C.lp;obtain⟨k,j,p⟩:=C.size X d;obtain⟨y,v,u,t⟩:=C.bd;refine⟨⟨w*(ns.length -1+(b.length -1)+1)+1,w*E,⟨d,JV,by lia,L9 _,L9 _,λx a=>eO (y x a),λx a=>eO (v x a),λx a=>eO (u x a),λx a=>eO (t x a),eO C.bl,?_,n,o,k,j,p⟩⟩,?_⟩
 .exact eO (DL C.bh (Kt (by decide) (GE _ (oT (Tv _ _)))))
 rintro J R F c m ⟨l,z,r,g,f⟩ ⟨s,i,e⟩;obtain⟨_,_,_,_,_,_,S⟩:=C.step X d l z r g f s i e;have q:F=[]:=Hn.mp (vi.mp (e rfl));subst q;exact⟨rfl,rfl,S m⟩
noncomputable def WI(ns a:List Int)(w E:Nat):CI:=λA B f e c h b=>ZW ns a w E A B f e c h b/\∀d,(DQ d (cz A)/\DQ d (cz B))↔(DQ d (cz ns)/\DQ d (cz a))
theorem MW{ns b:List Int}{w E:Nat}(X:Sub.FX ns b [] [] w E)(J:ns.length<=15)(u:w*(ns.length -1+(b.length -1)+1)+1<=5000)(v:w*E<=12000):Kept (WI ns b w E):=by rintro A B y x p h m ⟨g,z⟩ e;obtain⟨a,o⟩:=IQ X J u v A B y x p h m g e;refine⟨a,λQs R F c t j i=>⟨o Qs R F c t j i,λd=>?_⟩⟩;obtain⟨f,I,l,q,n⟩:=j;obtain⟨G,r,H⟩:=i;obtain⟨rfl,rfl,C⟩:=g;obtain⟨s,_,D,_,_,_,_⟩:=C.step X e f I l q n G r H;refine(Ce (c:=c) (A:=A) (Qs:=Qs) (by rw[f];exact Sub.cX C.ch.K7 _) s (λk=>?_) d).trans (z d);rw[<-uA];exact(IJ D k).symm.trans (l k)
structure WD(ns ms g:List Int)(q:Nat):Prop where
 l0:0<g.length
 z:g.getD (g.length -1) 0≠0
 iff:∀d,DQ d (cz g)↔DQ d (cz ns)/\DQ d (cz ms)
 one:∀d:Int,(∀x∈g,d∣x)->d∣1
 bd:∀x∈g,x.natAbs<2^q
structure WP(ns ms:List Int)(n w E q:Nat):Prop where
 ln:ns.length<=15
 lm:ms.length<=15
 n0:0<ns.length
 m0:0<ms.length
 zn:ns.getD (ns.length -1) 0≠0
 zm:ms.getD (ms.length -1) 0≠0
 bn:∀x∈ns,x.natAbs<2^n
 bm:∀x∈ms,x.natAbs<2^n
 hE:∀p,(ns.length -1+(ms.length -1) -2*p)*p+(ns.length -1+(ms.length -1)+1)<=E
 lw:(ns.length -1+(ms.length -1)+1)*2^n<=2^w
 hq:w*(ns.length -1+(ms.length -1)+1)+1<=q
 q5:q<=5000
 e7:w*E<=12000
theorem ZX{ns a:List Int}{n w E:Nat}(d:a.length<=ns.length)(h:ns.length<=15)(g:0<ns.length)(f:∀x∈ns,x.natAbs<2^n)(bm:∀x∈a,x.natAbs<2^n)(c:(ns.length -1+(a.length -1)+1)*2^n<=2^w)(e:∀p,(ns.length -1+(a.length -1) -2*p)*p+(ns.length -1+(a.length -1)+1)<=E):Sub.FX ns a [] [] w E:=by
 refine⟨d,by lia,⟨2^n,λi=>?_,λi=>?_,OK (by decide),c⟩,e⟩
 .obtain⟨b,t⟩:=i;cases b
  .exact Oy (fV f t)
  .exact L9 _
 .obtain⟨b,t⟩:=i;cases b
  .exact Oy (fV bm t)
  .exact L9 _
theorem WP.swap{ns a:List Int}{n w E q:Nat}(h:WP ns a n w E q):WP a ns n w E q:=
 ⟨h.lm,h.ln,h.m0,h.n0,h.zm,h.zn,h.bm,h.bn,by rw[km (a.length -1)];exact h.hE,by rw[km (a.length -1)];exact h.lw,by rw[km (a.length -1)];exact h.hq,h.q5,h.e7⟩
theorem WD.swap{ns a g:List Int}{q:Nat}(h:WD ns a g q):WD a ns g q:=⟨h.l0,h.z,λd=>(h.iff d).trans and_comm,h.one,h.bd⟩
theorem IS{d:Nat->Rat}(h:DQ d (cz [1]))(f:Nat->Rat)(a:Fin f):DQ d f:=
 (DQ.mul f a h).ext λk=>by
   have e:aD f (cz [1]) k=aD (λi=>if i=0 then 1 else 0) f k:=by
    rw[bI];refine cL (λi=>?_) (λ_=>rfl) k;cases i with
    |zero=>rfl
    |succ i=>rfl
   rw[e,qP]
theorem IT{ns a:List Int}{q:Nat}(e:0<q)(h:∀d,DQ d (cz ns)/\DQ d (cz a)->DQ d (cz [1])):WD ns a [1] q:=
 ⟨by decide,by decide,λd=>⟨λz=>⟨IS z _ (ju ns),IS z _ (ju a)⟩,h d⟩,λd c=>c 1 (by simp),λx b=>by rw[Fu.mp b];exact me (by lia)⟩
noncomputable def bZ:aZ:=λc Q _=>∃(a b:List Int)(n w E q:Nat),c=[wI a,wI b]/\WP a b n w E q/\∀g,WD a b g q->Q (wI g)
noncomputable def Bb:aZ:=λa Q R=>bZ a Q R/\∀c b,a=[wI c,wI b]->b.length<=c.length
noncomputable def IU:aZ:=λa Q R=>bZ a Q R/\∀c b,a=[wI c,wI b]->c.length<b.length
noncomputable def zo:List CS:=[.iff (.cmp .Lt (.blt .len [(.var 0)]) (.blt .len [(.var 1)])) [.nK] [],.iff (.cmp .Eq (.var 1) (.lst [])) [.nK] [],.iff (.and [(.cmp .NotEq (.bin .Mod (.ix (.var 0) (.neg (.int 1))) (.glob 0)) (.int 0)),(.call 1 [(.call 2 [(.var 0),(.glob 0)]),(.call 2 [(.var 1),(.glob 0)]),(.glob 0)])]) [.ret (.lst [(.int 1)])] [],.set 2 (.call 3 [(.var 0),(.var 1),(.lst [])]),.VQ (.Lr 2 1 4 []),.iff (.cmp .Eq (.blt .len [(.own 2 [.fl 1 "last"])]) (.int 1)) [.ret (.lst [(.int 1)])] [],.ret (.ix (.call 5 [(.own 2 [.fl 1 "last"])]) (.int 1))]
noncomputable def IV:List CS:=[.iff (.cmp .Lt (.blt .len [(.var 0)]) (.blt .len [(.var 1)])) [.ret (.call 0 [(.var 1),(.var 0)])] [],.nK,.nK,.nK,.nK,.nK,.nK]
theorem IX{ns c:List Int}(h:wI ns=wI c):ns=c:=by exact(TH λa b e=>W.Cm e).mp (W.Cn h)
theorem OV{p:Int}{ns a:List Int}(b:0<p)(h:fM (ns.map (·%p)) a):Rm p a/\a.length<=ns.length/\∀k,p∣ns.getD k 0 -a.getD k 0:=by
 refine⟨⟨λx c=>?_,h.last⟩,?_,λk=>?_⟩
 .obtain⟨y,_,rfl⟩:=Ki.mp (h.mem x c);exact⟨mM _ (by lia),eA _ b⟩
 .have:=l7 h;rw[AN]at this;exact this
 .rw[pP h];have e:(ns.map (·%p)).getD k 0=ns.getD k 0%p:=by
   rw[AC,AC,Dx];cases ns[k]? with
   |none=>show(0:Int)=0%p;rw[Int.zero_emod]
   |some y=>rfl
  rw[e];have:=iq (ns.getD k 0) p;exact⟨ns.getD k 0/p,by lia⟩
theorem S8{p:Int}{f g f' g':Nat->Int}(i:∀k,p∣f k -f' k)(d:∀k,p∣g k -g' k)(h:Ap p f' g'):Ap p f g:=by obtain⟨u,v,N,c,b,a,j,e⟩:=h;refine⟨u,v,N,c,b,a,j,λk=>?_⟩;have m:=qQ (f:=u) i k;have l:=qQ (f:=v) d k;have:=tJ (tJ m l) (e k);rw[show bU u f k+bU v g k -(if k=0 then c else 0)=bU u f k -bU u f' k+(bU v g k -bU v g' k)+(bU u f' k+bU v g' k -if k=0 then c else 0) by lia];exact this
theorem Xk{S0:aZ}{C:Addr}{m:Md}(ws:List W)(Q:W->Prop)(R:Addr->Prop)(h:Bb ws Q R):wSs (bV [S0,j6,mV,wU C,zh C,gD]) (j8 [.int 2147483647,.cls C]) zo (bK m Q R) (ak 3 ws):=by
 obtain⟨⟨ns,f,n,w,E,q,rfl,⟨ln,lm,L,I,zn,zm,bn,bm,hE,lw,hq,q5,e7⟩,T⟩,hl⟩:=h;have hl:=hl ns f rfl;have X:Sub.FX ns f [] [] w E:=ZX (by lia) ln L bn bm lw hE;show wSs _ _ zo _ [some (wI ns),some (wI f),none];unfold zo;refine aH (λa=>a=[some (wI ns),some (wI f),none]) (λN g=>?_) ?_
 .rw[show wI ns=W.lst (ns.map W.int)from rfl,show wI f=W.lst (f.map W.int)from rfl];fin2;rw[AN,AN,Bn (by rw[Gc];lia)];exact g _ rfl
 rintro _ rfl;refine aH (λa=>a=[some (wI ns),some (wI f),none]) (λN g=>?_) ?_
 .fin2;refine⟨ai (by simp),Iz (y:=[]) λk o=>?_⟩;cases c8 o (λz=>by rw[z]at I;cases I);exact g _ rfl
 rintro _ rfl;refine aH (λa=>a=[some (wI ns),some (wI f),none]) (λN g=>?_) ?_
 .rw[show wI ns=W.lst (ns.map W.int)from rfl];fin2;refine⟨_,uN L,?_⟩;fin2;refine⟨by decide,?_⟩;rw[Ts _ (by decide)];by_cases O:ns.getD (ns.length -1) 0%2147483647=0
  .rw[IH O];exact g _ rfl
  .rw[Pi O];fin2;refine⟨ns,_,rfl,by decide,by lia,λK t1=>⟨f,_,rfl,by decide,by lia,λM t2=>?_⟩⟩;obtain⟨r1,l1,c1⟩:=OV (by decide) t1;obtain⟨r2,l2,c2⟩:=OV (by decide) t2;refine⟨K,M,_,rfl,⟨witness,by decide,by lia,by lia,r1,r2⟩,λb S=>?_⟩;cases b with
   |false=>exact g _ rfl
   |true=>refine⟨ai (by simp),T [1] (IT (by lia) λd G=>?_)⟩;exact Qz witness L I zn zm (λz=>O (oC z)) (S8 c1 c2 (S rfl)) d G
 rintro _ rfl;refine aH (λa=>a=[some (wI ns),some (wI f),some (n9 C ns f [] [] 1 1 1 1 1)]) (λN g=>?_) ?_
 .fin2;exact⟨ai (by simp),ns,f,[],rfl,g _ rfl⟩
 rintro _ rfl;refine aH (λa=>∃(A B D v:List Int)(s h sg sc F:Int),(WI ns f w E A B D v s h sg/\(B.length<2\/∃Qs c,A4 A B Qs [] c))/\a=[some (wI ns),some (wI f),some (n9 C A B D v s h sg sc F)]) (λN g=>?_) ?_
 .unfold n9;fin2;refine⟨rfl,ns,f,[],[],1,1,1,1,1,WI ns f w E,rfl,⟨⟨EI I zm X,λd=>fw⟩,MW X (by lia) (by lia) e7⟩,λA B D v s h sg sc F U r=>?_⟩;exact⟨_,_,rfl,g _ ⟨A,B,D,v,s,h,sg,sc,F,⟨U,r⟩,rfl⟩⟩
 rintro _ ⟨A,B,D,v,s,h,sg,sc,F,⟨⟨U,dv⟩,r⟩,rfl⟩;have J:=U.2.2;obtain⟨_,bB,_,_⟩:=J.bd;have lB0:=J.lq;have H:=J.ch.K7;have bq:∀x∈B,x.natAbs<2^q:=λx p=>jI (eO (bB x p)) hq;have lBm:=J.Of;refine aH (λa=>2<=B.length/\a=[some (wI ns),some (wI f),some (n9 C A B D v s h sg sc F)]) (λN g=>?_) ?_
 .unfold n9 at g⊢;rw[show wI B=W.lst (B.map W.int)from rfl]at g⊢;fin2;rw[AN];by_cases l1:B.length=1
  .rw[Bz (IH (by lia))];refine⟨ai (by simp),T [1] (IT (by lia) λd G=>?_)⟩;have Y:=((dv d).mpr G).2;obtain⟨b,rfl⟩:∃b,B=[b]:=by rcases B with _|⟨b,_|⟨c,l⟩⟩<;>simp at l1;exact⟨b,rfl⟩
   have b0:b≠0:=H;refine DQ.Aq (eU b0) (Y.ext λk=>?_);cases k with
   |zero=>exact Y1 _
   |succ k=>exact HI _
  .rw[Bn (by rw[Gc];lia)];exact g _ ⟨by lia,rfl⟩
 rintro _ ⟨l2,rfl⟩;obtain⟨Qs,c,hc,TU,cR,_,_⟩:=r.resolve_left (by lia);have c0:c≠0:=by rw[hc];exact Sub.cX H _
 unfold n9;fin2;refine⟨B,q,rfl,⟨⟨_,Sub.getD_mem' (ns:=B) (k:=B.length -1) (by lia),H⟩,by lia,by lia,bq⟩,λe u j eb=>⟨_,rfl,T u ?_⟩⟩;have e0:(e:Rat)≠0:=eU (by have:=j.pos;lia);have Z:∀i,cz B i=(e:Rat)*cz u i:=λi=>by
  show((B.getD i 0:Int):Rat)=(e:Rat)*((u.getD i 0:Int):Rat);rw[j.eq,AC,AC,Dx];cases S:B[i]? with
  |none=>show(0:Rat)=e*0;rw[HI]
  |some y=>have:=j.dv y (Hk S);show((y:Int):Rat)=(e:Rat)*((y/e:Int):Rat);rw[<-Jn,fI this]
 have lg:u.length=B.length:=by rw[j.eq,AN]
 refine⟨by lia,λz=>?_,λd=>?_,λd G=>?_,λx p=>?_⟩
 .have:=Z (B.length -1);rw[lg]at z;have this:((B.getD (B.length -1) 0:Int):Rat)=(e:Rat)*((u.getD (B.length -1) 0:Int):Rat):=this;rw[z,show((0:Int):Rat)=0 from rfl,HI]at this;exact H (by exact_mod_cast this)
 .have t:DQ d (cz u)↔DQ d (cz B):=⟨λz=>(z.sc (e:Rat)).ext Z,λz=>DQ.Aq e0 (z.ext λk=>(Z k).symm)⟩;rw[t,<-dv d];refine⟨λz=>⟨?_,z⟩,ed⟩;have:=(Ce (A:=A) (B:=B) (Qs:=Qs) (B':=[]) (c:=c) (κ:=1) c0 (by decide) (λk=>by rw[<-uA];exact(cn _).trans (cR k)) d).mp ⟨z,(DQ.zero d).ext λk=>rfl⟩;exact this.1
 .have P:∀x∈B,e*d∣x:=λx p=>by have t:=j.dv x p;have Y:=G (x/e) (by rw[j.eq];exact List.mem_map_of_mem p);obtain⟨k,o⟩:=Y;exact⟨k,by rw[XB,<-o,fI t]⟩
  have h3:=j.all _ P;obtain⟨k,o⟩:=h3;refine⟨k,Wp (show e≠0 by have:=j.pos;lia) ?_⟩;rw[i4,<-XB];exact o
 .rw[j.eq]at p;obtain⟨y,hy,rfl⟩:=Ki.mp p;have t:=bq y hy;obtain⟨k,o⟩:=j.dv y hy;have e1:=j.pos;rw[o,mI _ (by lia)];rw[o,FS]at t;exact GM (oo _ (by lia)) t
theorem oj{as bs b a:List Int}(h:[wI as,wI bs]=[wI b,wI a]):as=b/\bs=a:=by simp only[U2,and_true]at h;exact⟨IX h.1,IX h.2⟩
theorem Xl{G:Nat->W}{m:Md}(c:List W)(Q:W->Prop)(R:Addr->Prop)(h:IU c Q R):wSs (bV [Bb]) G IV (bK m Q R) (ak 3 c):=by obtain⟨⟨a,b,n,w,E,q,rfl,f,i⟩,d⟩:=h;have d:=d a b rfl;show wSs _ _ IV _ [some (wI a),some (wI b),none];unfold IV;refine aH (λ_=>False) (λN l=>?_) (λ_ z=>z.elim);rw[show wI a=W.lst (a.map W.int)from rfl,show wI b=W.lst (b.map W.int)from rfl];fin2;rw[AN,AN,Bz (IH (by lia))];refine⟨⟨b,a,n,w,E,q,rfl,f.swap,λg x=>i g x.swap⟩,λas bs e=>?_⟩;obtain⟨k,j⟩:=oj (as:=b) (bs:=a) e;rw[<-k,<-j];lia
theorem C2:∀a P R,Bb a P R->a.length=2:=by rintro _ _ _ ⟨⟨_,_,_,_,_,_,rfl,_⟩,_⟩;rfl
theorem MX:∀a P R,IU a P R->a.length=2:=by rintro _ _ _ ⟨⟨_,_,_,_,_,_,rfl,_⟩,_⟩;rfl
theorem Xm{P:Program}{w:World}{K:Frag}{j:Str->Option Value}{base:Heap}{k1 k2 k:Nat}{f:Addr}{m:FuncData}{ps:List Str}(B:bN P w K j base (ic P w) k1 f m ps (i0 K 2 .s Bb))(z:bN P w K j base (ic P w) k2 f m ps (i0 K 2 .s IU))(F:k1<=k)(D:k2<=k):bN P w K j base (ic P w) k f m ps (i0 K 2 .s bZ):=by
 have i:∀a H Q E,i0 K 2 .s bZ a H Q E->i0 K 2 .s Bb a H Q E\/i0 K 2 .s IU a H Q E:=by
  rintro a H Q E ⟨A,J,P,R,l,r,d,h,c,e⟩;obtain⟨I,G,n,k,L,E,rfl,N,M⟩:=id h;by_cases C:G.length<=I.length
  .refine .inl ⟨A,_,P,R,l,r,d,⟨h,λt q e=>?_⟩,c,e⟩;obtain⟨p,o⟩:=oj e;rw[<-p,<-o];exact C
  .refine .inr ⟨A,_,P,R,l,r,d,⟨h,λt q e=>?_⟩,c,e⟩;obtain⟨p,o⟩:=oj e;rw[<-p,<-o];lia
 exact⟨λa H Q E h=>(i a H Q E h).elim (B.len a H Q E) (z.len a H Q E),λA b s H g u a Q E v y x r h=>(i a H Q E h).elim (B.run A b s H g u a Q E (v.mono F) y x r) (z.run A b s H g u a Q E (v.mono D) y x r)⟩
end VL
namespace VL
open PySem PySem.Spec
open PyProof.Rows hiding St
open L2
noncomputable def Yd(P:Program)(w:World)(K:Frag)(a:Str->Option Value)(base:Heap)(k:Nat):List Str->List Md->List aZ->Prop
 |x::fn,m::e,S::Ss=>(∃d n c,a x=some d/\d7 P w K a base c d n (i0 K n m S)/\c<=k/\∀b P R,S b P R->b.length=n)/\Yd P w K a base k fn e Ss
 |[],_,_=>True
 |_,_,_=>False
noncomputable def ZY(a:Str->Option Value):List Str->Prop
 |[]=>True
 |x::b=>a x=none/\ZY a b
theorem IY{c:Str->Option Value}:∀{a:List Str},ZY c a->∀x∈a,c x=none
 |y::a,h,x,b=>by
  rcases Fn.mp b with e|b
  .rw[e];exact h.1
  .exact IY h.2 x b
theorem Bc{P:Program}{w:World}{K:Frag}{b:Str->Option Value}{base:Heap}{k:Nat}:∀{fn:List Str}{a:List Md}{Ss:List aZ},Yd P w K b base k fn a Ss->∀(j:Nat)(x:Str),fn[j]?=some x->∃f n d,b x=some f/\d7 P w K b base d f n (i0 K n (kj a j) (bV Ss j))/\d<=k/\∀c P R,bV Ss j c P R->c.length=n
 |y::fn,m::a,S::Ss,h,0,x,e=>by
  cases e;exact h.1
 |y::fn,m::a,S::Ss,h,j+1,x,e=>Bc (fn:=fn) h.2 j x e
 |[],_,_,_,j,x,e=>by cases e
 |_::_,[],_,h,_,_,_=>h.elim
 |_::_,_::_,[],h,_,_,_=>h.elim
theorem tab_of{P:Program}{w:World}{K:Frag}{a:Str->Option Value}{base:Heap}{k:Nat}{fn b:List Str}{c:List Md}{Ss:List aZ}(h:Yd P w K a base k fn c Ss)(z:ZY a b):Tab P w K a base fn [] b c [] (bV Ss) (j8 []) k:=
 ⟨λj x e _=>Bc h j x e,λ_ _ _ _ h=>(by cases h),λ_ _ e=>(by simp at e),IY z,wm K,λ_ _ _ e=>(by simp at e)⟩
end VL
namespace VL
open PySem PySem.Spec
open PyProof.Rows hiding St
open L2 Num
theorem OW{d:Nat->aZ}{G:Nat->W}{c:CE}{b:List CS}{D:Dn}{a:Ev}{α:Type}(S:α->Ev)(J:α->Prop)(f:α->Nat)(e:α)(i:a=S e)(h:J e)(g:∀s,J s->wE d G (λ_=>False) c (S s) λx=>truth x (X7 S J f (wSs d G b) D s)):wS d G (.xO c b) D a:=by show Lu (λa Q=>wE d G (λ_=>False) c a λx=>truth x Q) (wSs d G b) D a;exact fT S J f e i h g
theorem zp{d:Nat->aZ}{G:Nat->W}{D:Dn}{c:Ev}{i:Nat}{e:CE}{b:List CS}{l:List W}(f:∀Q:W->Prop,Q (.lst l)->wE d G (λ_=>False) e c Q)(h:mF (λw g a=>wSs d G b g (a.set i (some w))) D l c):wS d G (.fr [i] true e b) D c:=f _ h
theorem Z1{x y:W}:j9 [x,y] 0=some x:=rfl
theorem Z2{x y:W}:j9 [x,y] 1=some y:=rfl
noncomputable def bt(X:Nat):Nat->Nat
 |0=>X
 |s+1=>2*bt X s+2*X+2
end VL
namespace Num
open Sub VL
end Num
namespace VL
open PySem PySem.Spec
open PyProof.Rows hiding St
open L2 Num
theorem IZ{α:Type}(f:α->W)(d:α)(l:List α):gK (l.map f)=(D2 l.length).map λi:Nat=>W.tup [.int i,f (l.getD i d)]:=by
 unfold gK;refine cw λi=>?_;rw[ax,Dx,Dx,AN];by_cases h:i<l.length
 .have e:l.getD i d=l[i]:=by rw[AC,BM h];rfl
  rw[SB h,BM h];show some (W.tup [W.int i,f l[i]])=some (W.tup [W.int i,f (l.getD i d)]);rw[e]
 .rw[FK (show(D2 l.length).length<=i by simpa using h)];rfl
theorem Xn(l:List W):jz l (some 1) none=l.drop 1:=by
 unfold jz;rw[HT.xX,show(1:Int)=((1:Nat):Int)from rfl,HT.pJ];cases l with
 |nil=>rfl
 |cons x l=>rw[show min 1 (x::l).length=1 by simp];exact ox (by simp)
theorem Be(n:Nat)(g:Nat->W):((D2 n).map g).drop 1=(D2 (n -1)).map λi=>g (i+1):=by
 cases n with
 |zero=>rfl
 |succ n=>rw[Zf];simp
noncomputable def g9:List CS:=[.ret (.sl (.comp [0,1] false 2 (.uE (.var 0)) (.bl true) (.bin .Mult (.var 0) (.var 1))) (.int 1) .aW)]
noncomputable def ji:aZ:=λb Q _=>∃(a:List Int)(n:Nat),b=[wI a]/\a.length<=100/\(∀x∈a,x.natAbs<2^n)/\n<=1000000/\Q (wI (gG a))
theorem tG{e:Nat->aZ}{G:Nat->W}{m:Md}(c:List W)(Q:W->Prop)(R:Addr->Prop)(h:ji c Q R):wSs e G g9 (bK m Q R) (ak 1 c):=by
 obtain⟨a,n,rfl,l,f,k,b⟩:=h;show wSs _ _ g9 _ [some (wI a)];unfold g9 wI;fin2;rw[IZ W.int 0 a];refine bY (h:=λi:Nat=>W.tup [.int i,W.int (a.getD i 0)]) (g:=λi:Nat=>W.int ((i:Int)*a.getD i 0)) _ [] _ (λi d K j=>?_) (ai (by simp;lia)) ?_
 .have d:=Yf.mp d;fin2;exact⟨rfl,aK (n:=7) (m:=n) (by lia) (fV f i) (by lia),j⟩
 .rw[Dy,Xn,Be];unfold wI gG at b;rw[UV]at b;exact b
noncomputable def EJ:aZ:=λb Q _=>∃a:List Int,b=[wI a,wI []]/\Q (wI a)
noncomputable def Ja:List CS:=[.iff (.cmp .Lt (.blt .len [(.var 0)]) (.blt .len [(.var 1)])) [.nK] [],.iff (.cmp .Eq (.var 1) (.lst [])) [.ret (.var 0)] [],.nK,.nK,.nK,.nK,.nK]
theorem Xo{e:Nat->aZ}{G:Nat->W}{m:Md}(c:List W)(Q:W->Prop)(R:Addr->Prop)(h:EJ c Q R):wSs e G Ja (bK m Q R) (ak 3 c):=by
 obtain⟨a,rfl,g⟩:=h;show wSs _ _ Ja _ [some (wI a),some (wI []),none];unfold Ja;refine aH (λb=>b=[some (wI a),some (wI []),none]) (λN d=>?_) ?_
 .rw[show wI a=W.lst (a.map W.int)from rfl,show wI []=W.lst (kx W.int [])from rfl];fin2;rw[AN,AN,Bn (by rw[Gc];simp)];exact d _ rfl
 rintro _ rfl;refine aH (λ_=>False) (λN d=>?_) (λ_ z=>z.elim);fin2;refine⟨ai (by simp),Iz (y:=[]) λk f=>?_⟩;cases cN f rfl;exact g
theorem MY:∀a P R,EJ a P R->a.length=2:=by rintro _ _ _ ⟨_,rfl,_⟩;rfl
noncomputable def zq:aZ:=λa Q R=>bZ a Q R\/EJ a Q R
structure Ui(row:List Rat):Prop where
 ne:row≠[]
 z:ao row
 OQ:row.length<=15
 as:AS (cQ row)
 cd:∃(D:Int)(n k:Nat),(∀x∈row,Cd D n x)/\0<D/\D.natAbs<2^k/\k<=6000/\n<=6000
noncomputable def dQ(x:List Rat×Nat):W:=.tup [af x.1,.int (x.2:Int)]
noncomputable def qh:aZ:=λb Q _=>∃a:List Rat,b=[af a]/\Ui a/\∀l,iX (cQ a) l->Q (.lst (l.map dQ))
noncomputable def wY:List CS:=[.set 6 (.call 1 [(.var 3),(.var 2)]),.set 7 (.call 3 [(.var 3),(.var 6)]),.iff (.cmp .Gt (.blt .len [(.var 7)]) (.int 1)) [.T6 4 (.tup [(.call 4 [(.var 7),(.ix (.var 7) (.neg (.int 1)))]),(.var 5)])] [],.set 3 (.var 6),.set 2 (.call 3 [(.var 2),(.var 6)]),.set 5 (.bin .Add (.var 5) (.int 1))]
noncomputable def r8:List CS:=[.iff (.cmp .Eq (.var 0) (.lst [])) [.nK] [],.set 1 (.ix (.call 0 [(.var 0)]) (.int 0)),.set 2 (.call 1 [(.var 1),(.call 2 [(.var 1)])]),.set 3 (.call 3 [(.var 1),(.var 2)]),.VR 4 [],.set 5 (.int 1),.xO (.cmp .Gt (.blt .len [(.var 3)]) (.int 1)) wY,.ret (.var 4)]
theorem S9{a:List Rat}{ns:List Int}{B c:Int}(h:Prim a ns B c)(b:a≠[])(z:ao a):Pr ns/\∃κ:Rat,κ≠0/\∀k,cQ a k=κ*cz ns k:=by
 have j:B≠0:=by have:=h.bpos;lia
 have i:c≠0:=by have:=h.cpos;lia
 have l:(B:Rat)≠0:=λz=>j (Tb.mp z);have d:(c:Rat)≠0:=λz=>i (Tb.mp z);have e:∀k,cQ a k=(c:Rat)/B*cz ns k:=λk=>by
  have:=h.at_ k;show a.getD k 0=_*((ns.getD k 0:Int):Rat);generalize a.getD k 0=u at*;generalize((ns.getD k 0:Int):Rat)=v at*;have g:u=v*c/B:=by rw[this];grind
  rw[g];grind
 have f:=FM.mpr b;refine⟨⟨by rw[h.len];exact f,λq=>bE z b ?_,h.one⟩,_,λq=>?_,e⟩
 .have:=e (a.length -1);rw[h.len]at q;show cQ a _=0;rw[this];show _*((ns.getD (a.length -1) 0:Int):Rat)=0;rw[q];exact HI _
 .have:(c:Rat)=(c:Rat)/B*B:=by grind
  rw[q]at this;exact d (by grind)
theorem Xp{ns:List Int}(h:Pr ns)(a:2<=ns.length):(gG ns).getD ((gG ns).length -1) 0≠0:=by rw[mz,dI,show ns.length -1 -1+1=ns.length -1 by lia];refine QQ ?_ h.z;lia
theorem Xq{ns:List Int}(H:AS (cz ns))(h:Pr ns)(l:ns.length<=15):∀x∈gG ns,x.natAbs<2^82:=λx d=>by
 obtain⟨i,a,rfl⟩:=SU.mp d;have e:=mz ns i;rw[AC,BM a]at e;have e:(gG ns)[i]=((i+1:Nat):Int)*ns.getD (i+1) 0:=e;rw[dI]at a;have b:=H.bound (m:=14) (DQ.refl _) l h.l0 h.z h.one;have c:(ns.getD (i+1) 0).natAbs<=48^14:=by rw[AC,BM (show i+1<ns.length by lia)];exact b _ (Kx _)
 rw[e,FS];refine GM (X9 (show((i+1:Nat):Int).natAbs<=14 by lia) c) (by decide)
theorem Jb{C:Addr}{m:Md}(ws:List W)(Q:W->Prop)(R:Addr->Prop)(h:qh ws Q R):wSs (bV [lz,zq,ji,jL,j4]) (j8 [.cls C]) r8 (bK m Q R) (ak 8 ws):=by
 obtain⟨a,rfl,q,hq⟩:=h;show wSs _ _ r8 _ [some (af a),none,none,none,none,none,none,none];unfold r8;have l0:=FM.mpr q.ne;have OQ:=q.OQ;refine aH (λb=>b=[some (af a),none,none,none,none,none,none,none]) (λN i=>?_) ?_
 .fin2;refine⟨ai (by simp),AR (y:=[]) λk t=>?_⟩;cases c8 t q.ne;fin2;exact i _ rfl
 rintro _ rfl;refine aH (λb=>∃(f:List Int)(u:Rat),(Pr f/\f.length=a.length/\u≠0/\∀k,cQ a k=u*cz f k)/\b=[some (af a),some (wI f),none,none,none,none,none,none]) (λN i=>?_) ?_
 .fin2;obtain⟨D,n,k,U,D0,bD,t,hn⟩:=q.cd;refine⟨a,D,n,k,rfl,⟨⟨a.getD (a.length -1) 0,?_,bE q.z q.ne⟩,U,D0,bD,t,hn,by lia⟩,λms B c pr bB bc bm=>?_⟩
  .rw[AC,BM (show a.length -1<a.length by lia)];exact Kx _
  obtain⟨p,u,S,e⟩:=S9 pr q.ne q.z;fin2;exact⟨_,rfl,i _ ⟨ms,u,⟨p,pr.len,S,e⟩,rfl⟩⟩
 rintro _ ⟨f,u,⟨s,ln,S,G⟩,rfl⟩;have j:AS (cz f):=λp hp d=>q.as p hp ((d.sc u).ext G);have H:=j.Lp (DQ.refl _) (by lia) s;refine aH (λb=>∃g:List Int,(Pr g/\∀d,DQ d (cz g)↔DQ d (cz f)/\DQ d (cz (gG f)))/\b=[some (af a),some (wI f),some (wI g),none,none,none,none,none]) (λN i=>?_) ?_
 .fin2;refine⟨f,79,rfl,by lia,H,by decide,?_⟩;by_cases h1:f.length=1
  .refine .inr ⟨f,?_,i _ ⟨f,⟨s,Lo h1⟩,rfl⟩⟩;rw[show gG f=[]from Hn.mp (by rw[dI,h1])]
  .have l2:2<=f.length:=by have:=s.l0;lia
   have ls:=dI f;exact .inl ⟨f,gG f,82,87,119,2437,rfl,⟨by lia,by lia,by lia,by lia,s.z,Xp s l2,λx hx=>jI (H x hx) (by decide),Xq j s (by lia),Xh (m:=27) (by decide) _ (by lia),DL (NA _ (show _<=28 by lia)) (by decide),by lia,by decide,by decide⟩,λg r=>i _ ⟨g,⟨⟨r.l0,r.z,r.one⟩,r.iff⟩,rfl⟩⟩
 rintro _ ⟨g,⟨I,iff⟩,rfl⟩;obtain⟨Z,pZ,lZ,eZ,T0⟩:=G4.start s I iff;have M:=pZ.l0;have K:=I.l0;refine aH (λb=>b=[some (af a),some (wI f),some (wI g),some (wI Z),none,none,none,none]) (λN i=>?_) ?_
 .fin2;exact⟨f,g,Z,79,rfl,⟨K,M,by lia,lZ,λk=>by rw[uA];exact eZ k,I.z,by decide,j.Lp T0.d2 (by lia) I,j.Lp T0.d1 (by lia) pZ⟩,i _ rfl⟩
 rintro _ rfl;refine aH (λb=>b=[some (af a),some (wI f),some (wI g),some (wI Z),some (.lst []),none,none,none]) (λN i=>?_) ?_
 .fin2;exact⟨ai (by simp),i _ rfl⟩
 rintro _ rfl;refine aH (λb=>b=[some (af a),some (wI f),some (wI g),some (wI Z),some (.lst []),some (.int 1),none,none]) (λN i=>?_) ?_
 .fin2;exact i _ rfl
 rintro _ rfl;refine aH (λb=>∃(k:Nat)(L B:List Int)(l:List (List Rat×Nat))(o v:Option W),iX (cz f) l/\b=[some (af a),some (wI f),some (wI B),some (wI L),some (.lst (l.map dQ)),some (.int (k:Int)),o,v]) (λN i=>?_) ?_
 .fin2;refine fT (α:=Nat×List Int×List Int×List (List Rat×Nat)×Option W×Option W) (λx=>[some (af a),some (wI f),some (wI x.2.2.1),some (wI x.2.1),some (.lst (x.2.2.2.1.map dQ)),some (.int (x.1:Int)),x.2.2.2.2.1,x.2.2.2.2.2]) (λx=>G4 (cz f) x.1 x.2.1 x.2.2.1 x.2.2.2.1/\x.1+x.2.1.length+x.2.2.1.length<=17/\x.2.2.2.1.length<x.1) (λx=>x.2.1.length+x.2.2.1.length) (1,Z,g,[],none,none) rfl ⟨T0,by dsimp only;lia,Nat.zero_lt_one⟩ ?_;rintro⟨k,L,B,l,o,v⟩ ⟨T,ll,lk⟩;dsimp only at T ll lk⊢;have lL0:=T.pl.l0;have lB0:=T.pb.l0;rw[show wI L=W.lst (L.map W.int)from rfl];fin2;rw[AN];refine cK (λt=>?_) (λt=>?_)
  .have l2:2<=L.length:=by have:=Do t;lia
   show wSs _ _ wY _ [some (af a),some (wI f),some (wI B),some (wI L),some (.lst (l.map dQ)),some (.int (k:Int)),o,v];unfold wY;refine aH (λb=>∃h:List Int,(Pr h/\∀d,DQ d (cz h)↔DQ d (cz L)/\DQ d (cz B))/\b=[some (af a),some (wI f),some (wI B),some (wI L),some (.lst (l.map dQ)),some (.int (k:Int)),some (wI h),v]) (λN i=>?_) ?_
   .fin2;exact .inl ⟨L,B,79,84,119,2437,rfl,⟨by lia,by lia,by lia,by lia,T.pl.z,T.pb.z,j.Lp T.d1 (by lia) T.pl,j.Lp T.d2 (by lia) T.pb,Xh (m:=27) (by decide) _ (by lia),Zd (by lia) (by lia),by lia,by decide,by decide⟩,λg r=>i _ ⟨g,⟨⟨r.l0,r.z,r.one⟩,r.iff⟩,rfl⟩⟩
   rintro _ ⟨h,⟨w,ih⟩,rfl⟩;have A:=w.l0;obtain⟨X,Y,⟨J,lX,eX,dX⟩,⟨pY,lY,eY,dY⟩,n1,n2⟩:=T.step w ih;have E:=J.l0;have O:=pY.l0;have dh:DQ (cz h) (cz f):=((ih _).mp (DQ.refl _)).1.trans T.d1;have bh:=j.Lp dh (by lia) w;refine aH (λb=>b=[some (af a),some (wI f),some (wI B),some (wI L),some (.lst (l.map dQ)),some (.int (k:Int)),some (wI h),some (wI X)]) (λN i=>?_) ?_
   .fin2;exact⟨L,h,X,79,rfl,⟨A,E,by lia,lX,λk=>by rw[uA];exact eX k,w.z,by decide,bh,j.Lp dX (by lia) J⟩,i _ rfl⟩
   rintro _ rfl;refine aH (λb=>∃F,(G4 (cz f) (k+1) h Y F/\F.length<=l.length+1)/\b=[some (af a),some (wI f),some (wI B),some (wI L),some (.lst (F.map dQ)),some (.int (k:Int)),some (wI h),some (wI X)]) (λN i=>?_) ?_
   .have bX:=j.Lp dX (by lia) J;rw[show wI X=W.lst (X.map W.int)from rfl]at i⊢;fin2;rw[AN];by_cases c:2<=X.length
    .rw[Bz (IH (by lia))];fin2;refine⟨_,uN E,X,_,79,rfl,⟨J.z,fV bX _,by decide,by lia⟩,?_⟩;have:=i _ ⟨l++[(mq X,k)],⟨n2 c,by rw[Fm];exact Da _⟩,rfl⟩;rw[T1]at this;exact⟨ai (by simp),FV (show _<100 by rw[AN];lia) (ai (by decide)),this⟩
    .rw[Bn (by rw[Gc];lia)];exact i _ ⟨l,⟨n1 (by lia),sv _⟩,rfl⟩
   rintro _ ⟨F,⟨T',ll'⟩,rfl⟩;fin2;refine⟨B,h,Y,79,rfl,⟨A,O,by lia,lY,λk=>by rw[uA];exact eY k,w.z,by decide,bh,j.Lp dY (by lia) pY⟩,?_⟩;fin2;exact⟨(k+1,h,Y,F,_,_),rfl,⟨T',by dsimp only;lia,by dsimp only;lia⟩,by dsimp only;lia⟩
  .refine i _ ⟨k,L,B,l,o,v,T.end ?_,rfl⟩;have:=bo t;lia
 rintro _ ⟨k,L,B,l,o,v,P,rfl⟩;fin2;have:=hq l (by rw[show cQ a=_ from funext G];exact P.sc S);exact this
theorem MZ{P:Program}{w:World}{K:Frag}{j:Str->Option Value}{base:Heap}{k1 k2 k:Nat}{f:Addr}{m:FuncData}{ps:List Str}(v:bN P w K j base (ic P w) k1 f m ps (i0 K 2 .s bZ))(u:bN P w K j base (ic P w) k2 f m ps (i0 K 2 .s EJ))(y:k1<=k)(x:k2<=k):bN P w K j base (ic P w) k f m ps (i0 K 2 .s zq):=by
 have i:∀a H Q E,i0 K 2 .s zq a H Q E->i0 K 2 .s bZ a H Q E\/i0 K 2 .s EJ a H Q E:=by
  rintro a H Q E ⟨A,n,P,R,l,r,d,h,c,e⟩;rcases h with h|h
  .exact .inl ⟨A,n,P,R,l,r,d,h,c,e⟩
  .exact .inr ⟨A,n,P,R,l,r,d,h,c,e⟩
 exact⟨λa H Q E h=>(i a H Q E h).elim (v.len a H Q E) (u.len a H Q E),λA b s H g o a Q E p t q r h=>(i a H Q E h).elim (v.run A b s H g o a Q E (p.mono y) t q r) (u.run A b s H g o a Q E (p.mono x) t q r)⟩
theorem Jc:∀a P R,zq a P R->a.length=2:=by rintro a P R (⟨_,_,_,_,_,_,rfl,_⟩|⟨_,rfl,_⟩)<;>rfl
end VL
namespace Num
open Sub VL
noncomputable def rr(α:Rat)(l:Int)(s:Nat)(R:List Int):List Rat:=R.map λy:Int=>α*BK 1 (l^s)*(y:Rat)
theorem Bf(α:Rat)(l:Int)(s:Nat)(R:List Int):(rr α l s R).length=R.length:=AN _
theorem zu(α:Rat)(l:Int)(s:Nat)(R:List Int)(k:Nat):cQ (rr α l s R) k=α*BK 1 (l^s)*((R.getD k 0:Int):Rat):=QA R _ k
theorem Jd{l:Int}(h:l≠0)(s:Nat):BK 1 (l^s)≠0:=λz=>by
 rw[TK]at z;have a:((l^s:Int):Rat)≠0:=eU (cX h s);generalize((l^s:Int):Rat)=u at*;have:(1:Rat)=((1:Int):Rat)/u*u:=by show(1:Rat)=(1:Rat)/u*u;grind
 rw[z,TC]at this;exact absurd this (by decide)
theorem C3{l:Int}(h:l≠0)(s:Nat):BK 1 (l^(s+1))*(l:Rat)=BK 1 (l^s):=by rw[TK,TK,NM,Jn];have b:((l^s:Int):Rat)≠0:=eU (cX h s);have a:(l:Rat)≠0:=eU h;generalize((l^s:Int):Rat)=u at*;grind
structure zJ(a b:List Rat)(A B:List Int)(α β:Rat)(n m X:Nat):Prop where
 la:a.length=A.length
 lb:b.length=B.length
 ea:∀k,cQ a k=α*((A.getD k 0:Int):Rat)
 eb:∀k,cQ b k=β*((B.getD k 0:Int):Rat)
 za:ao a
 zb:ao b
 OX:α≠0
 lM:A.length<=13
 Ye:B.length<=13
 b0:0<B.length
 bA:∀x∈A,x.natAbs<2^n
 bB:∀x∈B,x.natAbs<2^m
 Tc:Bl 80 (80+n) α
 bb:∀y∈b,Bd X y
 h1:80+n+(A.length+1 -B.length)*(m+1)<X
 h3:X<=11000000
structure M0(a b:List Rat)(A B:List Int)(n m:Nat)(R:List Int)(s:Nat)(r:List Rat):Prop where
 tp:R=[]\/R.getD (R.length -1) 0≠0
 ln:s+R.length<=A.length
 ls:s<=A.length+1 -B.length
 bd:∀x∈R,x.natAbs<2^(n+s*(m+1))
 q:∃q:Nat->Rat,Fin q/\∀k,cQ a k=aD q (cQ b) k+cQ r k
section
variable{a b:List Rat}{A B:List Int}{α β:Rat}{n m X:Nat}
theorem zJ.l0(h:zJ a b A B α β n m X):B.getD (B.length -1) 0≠0:=λe=>by have:=h.eb (B.length -1);rw[e]at this;have l0:=h.b0;refine gr h.zb (by rw[h.lb];exact l0) ?_;rw[h.lb];refine this.trans ?_;exact HI _
theorem zJ.start(h:zJ a b A B α β n m X){l:Int}:a=rr α l 0 A/\M0 a b A B n m A 0 (rr α l 0 A):=by
 have d:∀k,cQ a k=cQ (rr α l 0 A) k:=λk=>by rw[zu,h.ea k,show BK 1 (l^0)=1 by rw[SZ];rfl,Y1]
 have c:A=[]\/A.getD (A.length -1) 0≠0:=by
  rcases il A with e|⟨t,y,e⟩
  .exact .inl e
  .refine .inr λz=>?_;have g:0<a.length:=by rw[h.la,e];simp
   have:=h.ea (A.length -1);rw[z]at this;refine gr h.za g ?_;rw[h.la];exact this.trans (HI _)
 have f:α*BK 1 (l^0)≠0:=by rw[show BK 1 (l^0)=1 by rw[SZ];rfl,Y1];exact h.OX
 refine⟨vf h.za (kQ f c) d,c,by lia,L9 _,λx i=>jI (h.bA x i) (by lia),λ_=>0,⟨0,λ_ _=>rfl⟩,λk=>?_⟩;rw[cD,d k,kf]
theorem zJ.Xr(h:zJ a b A B α β n m X)(s:Nat):Bl 80 (80+n+m*s) (α*BK 1 (B.getD (B.length -1) 0^s)):=by have b0:=h.b0;have c:=h.bB _ (getD_mem' (k:=B.length -1) (by lia));exact h.Tc.mul (N:=80) (M:=0) (Bl.div (by decide) (by rw[jV,ml];exact ag (Oy c) _) (cX h.l0 s))
theorem zJ.bd(h:zJ a b A B α β n m X){R:List Int}{s:Nat}{r:List Rat}(J:M0 a b A B n m R s r):∀x∈rr α (B.getD (B.length -1) 0) s R,Bd X x:=λx e=>by
 obtain⟨y,d,rfl⟩:=Ki.mp e;have h1:=h.h1;have g:s*(m+1)<=(A.length+1 -B.length)*(m+1):=NA _ J.ls;have f:m*s<=s*(m+1):=by rw[d5];exact GE _ (sv m)
 have c:Bl (n+s*(m+1)) 0 (y:Rat):=Bl.int (Oy (J.bd y d));exact((h.Xr s).mul c).bd (by lia) (by lia)
theorem zJ.step(h:zJ a b A B α β n m X){R:List Int}{s:Nat}{g:Rat}(J:M0 a b A B n m R s (rr α (B.getD (B.length -1) 0) s R))(Y:B.length<=R.length)(L:g=cQ (rr α (B.getD (B.length -1) 0) s R) (R.length -1)*(cQ b (B.length -1))⁻¹):
 ∃R':List Int,M0 a b A B n m R' (s+1) (rr α (B.getD (B.length -1) 0) (s+1) R')/\R'.length<R.length/\aY (c7 (max (rr α (B.getD (B.length -1) 0) s R).length (A0 (R.length -B.length) (0:Rat)++b.map (g*·)).length) λk=>(rr α (B.getD (B.length -1) 0) s R).getD k 0+((-1:Int):Rat)*(A0 (R.length -B.length) (0:Rat)++b.map (g*·)).getD k 0)=rr α (B.getD (B.length -1) 0) (s+1) R':=by
 have l0:=h.l0;have b0:=h.b0;have lb:=h.lb;have lM:=h.lM;have eb:=h.eb;have bB:=h.bB;have S:=bB _ (getD_mem' (k:=B.length -1) (by lia));have U:β≠0:=λe=>gr h.zb (by lia) (by refine(eb (b.length -1)).trans ?_;rw[e,TC]);generalize o:B.getD (B.length -1) 0=l at*;generalize Z:R.length -B.length=d at*;generalize f:R.getD (R.length -1) 0=top at*;have T:top.natAbs<2^(n+s*(m+1)):=f▸J.bd _ (getD_mem' (by lia));obtain⟨R',e,y,H⟩:=C1 _ (tabI (R.length -1) λk=>l*R.getD k 0 -if d<=k then top*B.getD (k -d) 0 else 0) rfl;rw[aP]at H;have E:∀k,R'.getD k 0=l*R.getD k 0 -if d<=k then top*B.getD (k -d) 0 else 0:=λk=>by
  rw[e k,qe];by_cases c:k<R.length -1
  .rw[Bz c]
  .rw[Bn c,Bz (by lia)];by_cases Q:k=R.length -1
   .rw[Q,f,show R.length -1 -d=B.length -1 by lia,o,cc];lia
   .rw[outI (ns:=R) (by lia),outI (ns:=B) (by lia)];lia
 have F:(l:Rat)≠0:=eU l0;have O:∀k,g*cQ b k=α*BK 1 (l^(s+1))*((top*B.getD k 0:Int):Rat):=λk=>by
  rw[L,zu,f,eb k,eb (B.length -1),o,<-C3 l0 s,Jn];generalize BK 1 (l^(s+1))=u;generalize((B.getD k 0:Int):Rat)=v;have:(β*(l:Rat))*(β*(l:Rat))⁻¹=1:=dc _ (λz=>by
   rcases Pl.mp z with z|z
   .exact U z
   .exact F z)
  generalize(β*(l:Rat))⁻¹=w at*;have P:α*(u*(l:Rat))*(top:Rat)*w*(β*v)=α*u*((top:Rat)*v)*((β*(l:Rat))*w):=by grind
  rw[P,this,Y1]
 have j:∀k,cQ (rr α l s R) k+((-1:Int):Rat)*(A0 d (0:Rat)++b.map (g*·)).getD k 0=cQ (rr α l (s+1) R') k:=λk=>by
  rw[OT,zu,zu,E k,<-C3 l0 s];have:g*(if d<=k then b.getD (k -d) 0 else 0)=α*BK 1 (l^(s+1))*((if d<=k then top*B.getD (k -d) 0 else 0:Int):Rat):=by
   split
   .exact O _
   .show g*0=_*((0:Int):Rat);rw[HI];exact(HI _).symm
  rw[this,ee,Jn];generalize((if d<=k then top*B.getD (k -d) 0 else 0:Int):Rat)=v;show _+(-1:Rat)*_=_;generalize BK 1 (l^(s+1))=u;grind
 have G:α*BK 1 (l^(s+1))≠0:=λz=>by
  rcases Pl.mp z with z|z
  .exact h.OX z
  .exact Jd l0 _ z
 have t:aY (c7 (max (rr α l s R).length (A0 d (0:Rat)++b.map (g*·)).length) λk=>(rr α l s R).getD k 0+((-1:Int):Rat)*(A0 d (0:Rat)++b.map (g*·)).getD k 0)=rr α l (s+1) R':=by
  refine vf (b9 _) (kQ G y) λk=>?_;rw[iU,l6];refine Eq.trans ?_ (j k);by_cases c:k<max (rr α l s R).length (A0 d (0:Rat)++b.map (g*·)).length
  .rw[Bz c]
  .rw[Bn c,show cQ (rr α l s R) k=0 from cS (by lia),cS (rs:=A0 d (0:Rat)++b.map (g*·)) (by lia),HI,kf]
 refine⟨R',⟨y,by have:=J.ln;lia,by have:=J.ln;lia,λx I=>?_,?_⟩,by lia,t⟩
 .obtain⟨k,K,rfl⟩:=SU.mp I;have p:=E k;rw[AC,BM K]at p;have p:R'[k]=_:=p;rw[p];have D:∀{ns:List Int}{q:Nat},(∀x∈ns,x.natAbs<2^q)->∀i,(ns.getD i 0).natAbs<2^q:=λ{ns q} r i=>by
   by_cases C:i<ns.length
   .exact r _ (getD_mem' C)
   .rw[outI (by lia)];exact OK (by decide)
  have N:(l*R.getD k 0).natAbs<2^(m+(n+s*(m+1))):=by rw[FS];exact lt_mul S (D J.bd k)
  have M:(if d<=k then top*B.getD (k -d) 0 else 0).natAbs<2^(m+(n+s*(m+1))):=by
   split
   .rw[FS,d5];exact lt_mul (D bB _) T
   .exact OK (by decide)
  have:=y9 N M;rw[d5,<-KO]at this;rw[show n+(s+1)*(m+1)=m+(n+s*(m+1))+1 by rw[xc];lia];exact this
 .obtain⟨q,⟨n,r⟩,e⟩:=J.q;refine⟨λi=>q i+if i=d then g else 0,⟨max n (d+1),λi C=>by dsimp only;rw[r i (by lia),Bn (by lia)];grind⟩,λk=>?_⟩;rw[fj,Cf,e k,<-j k,OT];show _=_+_+(_+(-1:Rat)*(g*if d<=k then b.getD (k -d) 0 else 0));have:(if d<=k then g*cQ b (k -d)else 0)=g*if d<=k then b.getD (k -d) 0 else 0:=by
   split
   .rfl
   .rw[HI]
  rw[this];grind
end
end Num
namespace VL
open PySem PySem.Spec
open PyProof.Rows hiding St
open L2 Num
noncomputable def wZ:aZ:=λe Q _=>∃(a b:List Rat)(A B:List Int)(c d:Rat)(n m X:Nat),e=[af a,af b]/\zJ a b A B c d n m X/\∀(R:List Int)(s:Nat),M0 a b A B n m R s (rr c (B.getD (B.length -1) 0) s R)->R.length<B.length->Q (af (rr c (B.getD (B.length -1) 0) s R))
theorem Je{G:Nat->W}{m:Md}(q:List W)(Q:W->Prop)(R:Addr->Prop)(h:wZ q Q R):wSs (bV [tu R0,j3,AV]) G A8 (bK m Q R) (ak 5 q):=by
 obtain⟨a,b,A,B,α,β,n,I,X,rfl,h,O⟩:=h;show wSs _ _ A8 _ [some (af a),some (af b),none,none,none];unfold A8;have b0:=h.b0;have lb:=h.lb;have lM:=h.lM;have Ye:=h.Ye;have h3:=h.h3;have X0:0<X:=by have:=h.h1;lia
 obtain⟨U,J0⟩:=h.start (l:=B.getD (B.length -1) 0);refine aH (λc=>c=[some (af a),some (af b),some (af a),none,none]) (λN o=>?_) ?_
 .unfold af;fin2;exact o _ rfl
 rintro _ rfl;refine aH (λc=>∃(r:List Rat)(o3 i:Option W),Q (af r)/\c=[some (af a),some (af b),some (af r),o3,i]) (λN o=>?_) ?_;rotate_left
 .rintro _ ⟨r,o3,i,j,rfl⟩;fin2;exact j
 refine OW (α:=List Int×Nat×Option W×Option W) (λx=>[some (af a),some (af b),some (af (rr α (B.getD (B.length -1) 0) x.2.1 x.1)),x.2.2.1,x.2.2.2]) (λx=>M0 a b A B n I x.1 x.2.1 (rr α (B.getD (B.length -1) 0) x.2.1 x.1)) (λx=>x.1.length) (A,0,none,none) (by dsimp only;rw[<-U]) J0 ?_;rintro⟨R,s,o3,i⟩ J;dsimp only at J⊢;have lR:R.length<=13:=by have:=J.ln;lia
 have L:=Bf α (B.getD (B.length -1) 0) s R;have bd:=h.bd J;have F:=λ(f:B.length<=R.length)=>h.step J f rfl;have S:=O R s J;have tp:=J.tp;generalize j:rr α (B.getD (B.length -1) 0) s R=r at*;unfold af;fin2;rw[AN,AN];refine cK (λk=>?_) (λk=>?_)
 .have f:B.length<=R.length:=by have:=Do k;lia
  have y:r.getLast?=some (cQ r (R.length -1)):=qa (by lia) (by rw[L]);have p:b.getLast?=some (cQ b (B.length -1)):=qa (by lia) (by rw[lb]);have bb:=h.bb _ (bG p);have C:=bd _ (bG y);have H:cQ b (B.length -1)≠0:=by have:=gr h.zb (by lia);rw[lb]at this;exact this
  obtain⟨Z,J',M,e⟩:=F f;fin2;rw[j];generalize cQ r (R.length -1)=u at*;generalize hv:cQ b (B.length -1)=v at*;have t:v.num≠0:=λz=>H (xp.mp z);refine⟨_,fF y,_,fF p,_,Z2,_,fF p,_,Z1,?_⟩;refine⟨_,_,X,rfl,by lia,t,bb.1,?_⟩;rw[<-gp];have D:Bd X v⁻¹:=by rw[gp];obtain⟨w,T⟩:=l5 (v.den:Int) v.num t;rw[yW]at w;exact⟨GM w bb.2,GM T bb.1⟩
  refine⟨u,v⁻¹,X,X,rfl,C,D,by lia,?_⟩;have E:=Aj C D;generalize u*v⁻¹=g at*;have Y:(r.length:Int) -(b.length:Int)=((R.length -B.length:Nat):Int):=by lia
  rw[AN,AN,Y,Eg,fE];refine⟨ai (by simp),ai (by simp),by lia,by lia,ai (by simp;lia),?_⟩;refine bY (g:=λx=>wq (g*x)) b [] _ (λx d K P=>?_) (ai (by simp;lia)) ?_
  .exact⟨g,x,X+X,X,rfl,E,h.bb x d,by lia,P⟩
  .refine⟨ai (by simp;lia),r,A0 (R.length -B.length) 0++b.map (g*·),-1,X,X+X+X,?_,bd,λx d=>?_,by lia,by lia,by simp;lia,.inr rfl,?_⟩
   .unfold af;rw[Dy,T1,ui,UV];rfl
   .rcases Hb.mp d with d|d
    .rw[(List.mem_replicate.mp d).2];exact⟨OK (by decide),me (by lia)⟩
    .obtain⟨z,hz,rfl⟩:=Ki.mp d;exact Aj E (h.bb z hz)
   .rw[e];exact⟨(Z,s+1,_,_),rfl,J',M⟩
 .have f:R.length<B.length:=by have:=bo k;lia
  rw[j];exact o _ ⟨r,o3,i,S f,rfl⟩
end VL
namespace Num
open Sub VL
noncomputable def T5(j:Nat):Nat:=5^(13 -j)*2^j
theorem Xv:∀h,h<14->∀l,l<h->1<=l->T5 h+(h+1 -l)*T5 (h -1)<=T5 (l -1):=by decide
theorem Jf:∀h,h<14->∀l,l<14->1<=l->(1+(h+1 -l))*8192<=T5 (l -1):=by decide
theorem Xw:∀h,h<14->∀l,l<h->T5 (h -1)<=T5 l:=by decide
theorem Xx:∀h,h<14->8192<=T5 h:=by decide
theorem Jg:∀h,h<14->T5 h<=1220703125:=by decide
structure Jh(a:List Rat)(A:List Int)(α:Rat):Prop where
 la:a.length=A.length
 ea:∀k,cQ a k=α*((A.getD k 0:Int):Rat)
 za:ao a
 OX:α≠0
 bA:∀x∈A,x.natAbs<=12*48^12
 Tc:Bl 80 80 α
 lM:A.length<=13
 l0:0<A.length
noncomputable def Uj(x y:List Rat):Prop:=∃(A B:List Int)(b a:Rat)(n m:Nat),(x.length=A.length/\y.length=B.length/\(∀k,cQ x k=b*((A.getD k 0:Int):Rat))/\(∀k,cQ y k=a*((B.getD k 0:Int):Rat))/\ao x/\ao y/\b≠0/\a≠0)/\(A.length<=13/\0<B.length/\B.length<A.length)/\(∀x∈A,x.natAbs<2^n)/\(∀x∈B,x.natAbs<2^m)/\Bl 80 (80+n) b/\Bl 80 (80+m) a/\(n+1)*8192<=73*T5 A.length/\(m+1)*8192<=73*T5 (A.length -1)
theorem Ji{y:List Rat}{B:List Int}{a:Rat}{N d m X:Nat}(l:y.length=B.length)(e:∀k,cQ y k=a*((B.getD k 0:Int):Rat))(h:Bl N d a)(g:∀x∈B,x.natAbs<2^m)(c:N+m<X)(i:d<X):∀z∈y,Bd X z:=λz hz=>by
 obtain⟨k,b,rfl⟩:=SU.mp hz;have f:y[k]=cQ y k:=by show _=y.getD k 0;rw[AC,BM b];rfl
 rw[f,e k];exact(h.mul (Bl.int (Oy (g _ (getD_mem' (k:=k) (by lia)))))).bd c (by lia)
noncomputable def Z5(x y:List Rat):Prop:=∃(A B:List Int)(a b:Rat)(n m X:Nat),zJ x y A B a b n m X/\∀(R:List Int)(s:Nat),M0 x y A B n m R s (rr a (B.getD (B.length -1) 0) s R)->R.length<B.length->R=[]\/Uj y (rr a (B.getD (B.length -1) 0) s R)
theorem C4{x y:List Rat}{A B R:List Int}{α a:Rat}{n m X s:Nat}(h:zJ x y A B α a n m X)(g:a≠0)(i:Bl 80 (80+m) a)(J:M0 x y A B n m R s (rr α (B.getD (B.length -1) 0) s R))(d:R.length<B.length)(f:(m+1)*8192<=73*T5 B.length)(e:(n+1+(A.length+1 -B.length)*(m+1))*8192<=73*T5 (B.length -1)):R=[]\/Uj y (rr α (B.getD (B.length -1) 0) s R):=by
 by_cases b:R=[]
 .exact .inl b
 have j:s*(m+1)<=(A.length+1 -B.length)*(m+1):=NA _ J.ls;have c:α*BK 1 (B.getD (B.length -1) 0^s)≠0:=λz=>by
  rcases Pl.mp z with z|z
  .exact h.OX z
  .exact Jd h.l0 _ z
 refine .inr ⟨B,R,a,_,m,n+s*(m+1),⟨h.lb,Bf _ _ _ _,h.eb,λk=>zu _ _ _ _ k,h.zb,kQ c J.tp,g,c⟩,⟨h.Ye,FM.mpr b,d⟩,h.bB,J.bd,i,(h.Xr s).up (Da _) (by rw[d5 m,Vj];lia),f,DL (NA _ (by lia)) e⟩
theorem Uj.rp{x y:List Rat}(h:Uj x y):Z5 x y:=by
 obtain⟨A,B,c,b,n,m,⟨q,e,v,i,p,o,D,z⟩,⟨r,k,d⟩,w,j,C,l,F,f⟩:=h;have g:=Xv A.length (by lia) B.length d k;have E:=Jg (B.length -1) (by lia);have a:(n+1+(A.length+1 -B.length)*(m+1))*8192<=73*T5 (B.length -1):=by have:=GE (A.length+1 -B.length) f;have u:=GE 73 g;rw[WR,Nat.mul_left_comm]at u;rw[yB,rn];lia
 have rp:zJ x y A B c b n m 11000000:=⟨q,e,v,i,p,o,D,r,by lia,k,w,j,C,Ji e i l j (by
  have:=Jg (A.length -1) (by lia);lia) (by
  have:=Jg (A.length -1) (by lia);lia),by lia,Da _⟩
 exact⟨A,B,c,b,n,m,_,rp,λR s J t=>C4 rp z l J t (DL f (GE _ (Xw A.length (by lia) B.length d))) a⟩
theorem Jh.rp{a b:List Rat}{A B:List Int}{α e:Rat}(d:Jh a A α)(c:Jh b B e):Z5 a b:=by
 have p:12*48^12<2^72:=by decide
 have up:∀{l:List Int},(∀x∈l,x.natAbs<=12*48^12)->∀x∈l,x.natAbs<2^72:=λ{l} g x j=>GM (g x j) p;have i:=d.lM;have h:=c.lM;have l0:=c.l0;have f:=Jf A.length (by lia) B.length (by lia) l0;have k:=Xx B.length (by lia);have rp:zJ a b A B α e 72 72 2000:=⟨d.la,c.la,d.ea,c.ea,d.za,c.za,d.OX,i,h,l0,up d.bA,up c.bA,d.Tc.up (by decide) (by decide),Ji c.la c.ea c.Tc (up c.bA) (by decide) (by decide),by lia,by decide⟩;exact⟨A,B,α,e,72,72,_,rp,λR s J g=>C4 rp c.OX (c.Tc.up (by decide) (by decide)) J g (by lia) (by lia)⟩
structure TJ(a b:List Rat)(x:List Rat×List Rat):Prop where
 dv:∀d,DQ d (cQ x.1)->DQ d (cQ x.2)->DQ d (cQ a)/\DQ d (cQ b)
 z:ao x.1
 ne:x.1≠[]
 s:x.2=[]\/Z5 x.1 x.2
theorem TJ.start{a b:List Rat}{A B:List Int}{α e:Rat}(c:Jh a A α)(f:Jh b B e):TJ a b (a,b):=by have l0:=c.l0;refine⟨λd h g=>⟨h,g⟩,c.za,λz=>?_,.inr (c.rp f)⟩;have:=c.la;have z:a=[]:=z;rw[z]at this;rw[<-this]at l0;cases l0
theorem TJ.next{a b x y:List Rat}{A B R:List Int}{α f:Rat}{n m X s:Nat}(h:TJ a b (x,y))(rp:zJ x y A B α f n m X)(J:M0 x y A B n m R s (rr α (B.getD (B.length -1) 0) s R))(g:R=[]\/Uj y (rr α (B.getD (B.length -1) 0) s R)):TJ a b (y,rr α (B.getD (B.length -1) 0) s R):=by have b0:=rp.b0;obtain⟨q,j,e⟩:=J.q;refine⟨λd c i=>h.dv d (((c.mul q j).add i).ext e) c,rp.zb,λz=>?_,g.imp (λz=>by rw[z];rfl) Uj.rp⟩;have:=rp.lb;have z:y=[]:=z;rw[z]at this;rw[<-this]at b0;cases b0
theorem TJ.fin{a b:List Rat}{x:List Rat×List Rat}(h:TJ a b x)(n:x.2=[])(c:∀d,Fin d->DQ d (cQ a)->DQ d (cQ b)->Un d):x.1.length=1:=by have:=h.dv (cQ x.1) (DQ.refl _) (by rw[n];exact(DQ.zero _).ext λk=>rfl);exact Li h.z (c _ (aG _) this.1 this.2)
end Num
namespace VL
open PySem PySem.Spec
open PyProof.Rows hiding St
open L2 Num
noncomputable def w4:List CS:=[.xO (.cmp .NotEq (.var 1) (.lst [])) [.par [0,1] [(.var 1),(.call 0 [(.var 0),(.var 1)])]],.ret (.cmp .Gt (.blt .len [(.var 0)]) (.int 1))]
noncomputable def w6:aZ:=λf Q _=>∃(a b:List Rat)(A B:List Int)(e c:Rat),f=[af a,af b]/\(Jh a A e/\Jh b B c/\∀d,Num.Fin d->DQ d (cQ a)->DQ d (cQ b)->Un d)/\Q (.bl false)
theorem M1{G:Nat->W}{m:Md}(i:List W)(Q:W->Prop)(R:Addr->Prop)(h:w6 i Q R):wSs (bV [wZ]) G w4 (bK m Q R) (ak 2 i):=by
 obtain⟨a,b,A,B,α,g,rfl,⟨w,v,f⟩,u⟩:=h;show wSs _ _ w4 _ [some (af a),some (af b)];unfold w4;refine aH (λd=>∃x:List Rat,x.length=1/\∃o,d=[some (af x),o]) (λN C=>?_) ?_
 .refine OW (α:=List Rat×List Rat) (λx=>[some (af x.1),some (af x.2)]) (TJ a b) (λx=>x.2.length) (a,b) rfl (.start w v) ?_;rintro⟨x,y⟩ J;dsimp only;fin2;refine⟨ai (by simp),rP (y:=[]) λk l=>?_⟩;by_cases c:y=[]
  .cases cN l c;fin2;exact cK (λz=>by cases z) (λ_=>C _ ⟨x,J.fin c f,_,rfl⟩)
  .cases c8 l c;fin2;refine cK (λ_=>?_) (λz=>by cases z);obtain⟨A,B,α,g,n,r,X,e,q⟩:=J.s.resolve_left c;fin2;exact⟨x,y,A,B,α,g,n,r,X,rfl,e,λR s p j=>⟨rfl,(y,_),rfl,J.next e p (q R s p j),by show(rr _ _ _ _).length<y.length;rw[Bf,show y.length=_ from e.lb];exact j⟩⟩
 rintro _ ⟨x,t,o,rfl⟩;unfold af;fin2;rw[AN,t];exact u
theorem r9(a b:List Rat):cQ (aY (mulQ a b))=aD (cQ a) (cQ b):=funext λk=>by show(aY _).getD k 0=_;rw[iU,Gp]
theorem Jj{a b:List Rat}(d:ao a)(c:ao b)(f:a≠[])(e:b≠[]):aY (mulQ a b)≠[]:=cY (by rw[r9];exact yu (aG a) (aG b) (cE d f) (cE c e))
theorem M3{r:List Rat}(h:∀x∈r,kY 0 x)(z:ao r)(c:r.length<=3)(n:r≠[]):AS (cQ r):=by
 have b:∀x∈r,(x.den:Int)∣6/\(x.num*(6/x.den)).natAbs<=24:=λx a=>by
  obtain⟨g,f⟩:=(h x a).1 rfl;have i:=x.den_pos;have:x.den=1\/x.den=2\/x.den=3:=by lia
  rcases this with e|e|e<;>rw[e]<;>refine⟨by decide,?_⟩
  .show(x.num*6).natAbs<=_;lia
  .show(x.num*3).natAbs<=_;lia
  .show(x.num*2).natAbs<=_;lia
 have e:∀k,cQ r k=(1/6:Rat)*cz (r.map λx:Rat=>x.num*(6/(x.den:Int))) k:=λk=>by
  show r.getD k 0=_*(((r.map _).getD k 0:Int):Rat);rw[AC,AC,Dx];cases a:r[k]? with
  |none=>exact(HI _).symm
  |some x=>show x=_*((x.num*(6/(x.den:Int)):Int):Rat);rw[gf (b x (Hk a)).1];show x=1/6*(x*6);grind
 have l:=AN (as:=r) λx:Rat=>x.num*(6/(x.den:Int));refine G0 z n (show(1/6:Rat)≠0 by decide+kernel) e l.symm (by rw[l];exact c) (λq=>bE z n ?_) λx a=>?_
 .refine(e (r.length -1)).trans ?_;rw[l]at q;show _*(((r.map λx:Rat=>x.num*(6/(x.den:Int))).getD (r.length -1) 0:Int):Rat)=0;rw[q];exact HI _
 .obtain⟨y,d,rfl⟩:=Ki.mp a;exact(b y d).2
structure MJ(j:Nat)(f:List Rat):Prop where
 ne:f≠[]
 rw:Rw 13 (13+18*j) (3+3*j) f
 as:AS (cQ f)
theorem MJ.up{i j:Nat}{f:List Rat}(h:MJ i f)(a:i<=j):MJ j f:=⟨h.ne,h.rw.up (Da _) (by lia) (by lia),h.as⟩
theorem MJ.mul{j:Nat}{f r:List Rat}(h:MJ j f)(a:∀x∈r,kY 0 x)(z:ao r)(b:r.length<=3)(n:r≠[])(e:f.length+r.length<15):MJ (j+1) (aY (mulQ f r)):=by refine⟨Jj h.rw.z z h.ne n,?_,by rw[r9];exact AS.mul (aG f) (aG r) h.as (M3 a z b n)⟩;have c:Rw f.length (13+18*j) (3+3*j) f:=⟨Da _,h.rw.z,h.rw.cd⟩;have d:=h.rw.len;exact(rw_mul c (rw_draw (l:=r.length) (.inl rfl) (Da _) a z) (by lia)).up (by lia) (by lia) (by lia)
noncomputable def sd:List CS:=[.set 2 (.call 0 [(.call 1 [(.var 0),(.bin .Add (.var 1) (.int 6))]),(.int 12)]),.set 3 (.call 2 [(.ix (.var 2) (.int 0)),(.ix (.var 2) (.int 1)),(.ix (.var 2) (.int 2)),(.bin .Mod (.ix (.var 2) (.int 3)) (.int 2))]),.iff (.cmp .Eq (.ix (.var 3) (.int 0)) (.int 0)) [.set 3 (.tup [(.int 1),(.int 1)])] [],.set 4 (.lst [(.var 3)]),.fr [5] true (.jP [(.bin .Mod (.ix (.var 2) (.int 4)) (.int 5))]) [.set 6 (.call 3 [(.call 1 [(.var 0),(.bin .Add (.var 1) (.var 5))]),(.int 3),(.int 0)]),.iff (.cmp .Eq (.bin .Mod (.ix (.var 2) (.int 5)) (.int 4)) (.int 1)) [.set 6 (.call 3 [(.call 1 [(.var 0),(.var 1)]),(.int 2),(.int 0)])] [],.fr [7] true (.jP [(.bin .Add (.int 1) (.bin .Mod (.ix (.var 2) (.bin .Add (.int 6) (.var 5))) (.int 5)))]) [.iff (.and [(.cmp .NotEq (.var 6) (.lst [])),(.cmp .Lt (.bin .Add (.blt .len [(.var 4)]) (.blt .len [(.var 6)])) (.int 15))]) [.set 4 (.call 4 [(.var 4),(.var 6)])] []]],.ret (.var 4)]
noncomputable def qi:aZ:=λa Q _=>∃(b:List Int)(k:Int),a=[.di b,.int k]/\∀f,MJ 20 f->Q (af f)
theorem M4(r:Rat):j9 [W.int r.num,W.int (r.den:Int)] 0=some (.int r.num):=rfl
theorem Jk{G:Nat->W}{m:Md}(M:List W)(Q:W->Prop)(R:Addr->Prop)(h:qi M Q R):wSs (bV [wJ,IL,qb,SM,dj]) G sd (bK m Q R) (ak 8 M):=by
 obtain⟨q,k,rfl,A⟩:=h;show wSs _ _ sd _ [some (.di q),some (.int k),none,none,none,none,none,none];unfold sd;refine aH (λa=>∃d:List Int,(d.length=12/\∀n∈d,0<=n/\n<1000000007)/\a=[some (.di q),some (.int k),some (wI d),none,none,none,none,none]) (λN g=>?_) ?_
 .fin2;exact⟨q,_,rfl,λz=>⟨z,12,rfl,by decide,by decide,λd l b=>g _ ⟨d,⟨by lia,b⟩,rfl⟩⟩⟩
 rintro _ ⟨d,⟨lx,bx⟩,rfl⟩;have o:∀j:Nat,j<12->j9 (d.map W.int) (j:Int)=some (.int (d.getD j 0)):=λj hj=>bC (int_at (by lia));have I:∀j:Nat,j<12->0<=d.getD j 0/\d.getD j 0<1000000007:=λj hj=>wK bx (by lia);refine aH (λa=>∃(y:Rat)(e:Int),((e=0\/e=1)/\kY e y)/\a=[some (.di q),some (.int k),some (wI d),some (wq y),none,none,none,none]) (λN g=>?_) ?_
 .unfold wI at g⊢;fin2;have F:(d.getD 3 0).fmod 2=0\/(d.getD 3 0).fmod 2=1:=by have:=fm (x:=d.getD 3 0) (n:=2) (by decide);lia
  exact⟨_,o 0 (by decide),_,o 1 (by decide),_,o 2 (by decide),_,o 3 (by decide),(show(2:Int)≠0 by decide),_,_,_,_,rfl,I 0 (by decide),I 1 (by decide),I 2 (by decide),λy v=>g _ ⟨y,_,⟨F,v⟩,rfl⟩⟩
 rintro _ ⟨y,e,⟨H,v⟩,rfl⟩;refine aH (λa=>∃y:Rat,(y≠0/\∃e:Int,(e=0\/e=1)/\kY e y)/\a=[some (.di q),some (.int k),some (wI d),some (wq y),none,none,none,none]) (λN g=>?_) ?_
 .unfold wq at g⊢;fin2;refine⟨_,M4 y,?_⟩;fin2;by_cases c:y.num=0
  .rw[Bz (IH c)];exact⟨ai (by simp),g _ ⟨1,⟨by decide,0,.inl rfl,λ_=>by decide,λz=>(by cases z),λz=>(by cases z),by decide,by decide⟩,rfl⟩⟩
  .rw[Bn (by rw[Gc];exact c)];exact g _ ⟨y,⟨λz=>c (by rw[z];rfl),e,H,v⟩,rfl⟩
 rintro _ ⟨y,⟨L,e,H,v⟩,rfl⟩;have J0:MJ 0 [y]:=by refine⟨by simp,?_,.un (GN L)⟩;exact(rw_draw (l:=1) H (Da _) (λx E=>by rw[Fu.mp E];exact v) (λx E=>by cases E;exact L)).up (by decide) (by decide) (by decide)
 refine aH (λa=>a=[some (.di q),some (.int k),some (wI d),some (wq y),some (af [y]),none,none,none]) (λN g=>?_) ?_
 .fin2;exact⟨ai (by simp),g _ rfl⟩
 rintro _ rfl;refine aH (λa=>∃(f:List Rat)(u s p:Option W),MJ 20 f/\a=[some (.di q),some (.int k),some (wI d),some (wq y),some (af f),u,s,p]) (λN g=>?_) ?_;rotate_left
 .rintro _ ⟨f,u,s,p,J,rfl⟩;fin2;exact A f J
 have f4:=fm (x:=d.getD 4 0) (n:=5) (by decide);refine zp (l:=eE 0 1 ((d.getD 4 0).fmod 5).toNat) (λQ A=>?_) ?_
 .unfold wI;fin2;refine⟨_,o 4 (by decide),?_⟩;fin2;exact⟨by decide,by lia,by lia,A⟩
 refine bf (λi C=>∃(f:List Rat)(u s p:Option W),MJ (5*i) f/\C=[some (.di q),some (.int k),some (wI d),some (wq y),some (af f),u,s,p]) ⟨[y],none,none,none,J0,rfl⟩ ?_ ?_;rotate_left
 .rintro _ ⟨f,u,s,p,J,rfl⟩;rw[i9]at J;exact g _ ⟨f,u,s,p,J.up (by lia),rfl⟩
 rintro i w _ N1 Z ⟨f,u,s,p,J,rfl⟩ Y;obtain⟨hi,rfl⟩:=fU Z;refine aH (λa=>∃r:List Rat,((∀x∈r,kY 0 x)/\ao r/\r.length<=3)/\a=[some (.di q),some (.int k),some (wI d),some (wq y),some (af f),some (.int i),some (af r),p]) (λN g=>?_) ?_
 .fin2;exact⟨q,_,rfl,λz=>⟨z,3,0,rfl,by decide,by decide,λr l b z=>g _ ⟨r,⟨b,z,l⟩,rfl⟩⟩⟩
 rintro _ ⟨r,P,rfl⟩;refine aH (λa=>∃r:List Rat,((∀x∈r,kY 0 x)/\ao r/\r.length<=3)/\a=[some (.di q),some (.int k),some (wI d),some (wq y),some (af f),some (.int i),some (af r),p]) (λN g=>?_) ?_
 .unfold wI at g⊢;fin2;refine⟨_,o 5 (by decide),?_⟩;fin2;refine⟨by decide,?_⟩;split
  .exact⟨q,_,rfl,λz=>⟨z,2,0,rfl,by decide,by decide,λr l b z=>g _ ⟨r,⟨b,z,DL l (by decide)⟩,rfl⟩⟩⟩
  .exact g _ ⟨r,P,rfl⟩
 clear P r;rintro _ ⟨r,⟨T,K,O⟩,rfl⟩;have f6:=fm (x:=d.getD (6+i) 0) (n:=5) (by decide);refine zp (l:=eE 0 1 (1+(d.getD (6+i) 0).fmod 5).toNat) (λQ A=>?_) ?_
 .unfold wI;fin2;rw[show(6:Int)+(i:Int)=((6+i:Nat):Int) by lia];refine⟨_,o (6+i) (by lia),?_⟩;fin2;exact⟨by decide,by lia,by lia,A⟩
 refine bf (λt C=>∃(f:List Rat)(p:Option W),MJ (5*i+t) f/\C=[some (.di q),some (.int k),some (wI d),some (wq y),some (af f),some (.int i),some (af r),p]) ⟨f,p,J,rfl⟩ ?_ ?_;rotate_left
 .rintro _ ⟨f,p,J,rfl⟩;rw[i9]at J;exact Y _ ⟨f,_,_,p,J.up (by lia),rfl⟩
 clear J f;rintro t w _ N2 U ⟨f,X,J,rfl⟩ B;obtain⟨ht,rfl⟩:=fU U;show wSs _ _ _ _ [some (.di q),some (.int k),some (wI d),some (wq y),some (af f),some (.int i),some (af r),some (.int t)];fin2;refine⟨ai (by simp),rP (y:=[]) λb S=>?_⟩;fin2;by_cases D:r=[]
 .cases cN S D;fin2;exact B _ ⟨f,_,J.up (sv _),rfl⟩
 .cases c8 S D;rw[Bz (show(!false)=true from rfl)];unfold af at B⊢;fin2;rw[AN,AN];by_cases c:(f.length:Int)+(r.length:Int)<15
  .rw[Bz (IH c)];have lM:=J.rw.len;refine OU J.rw (rw_draw (l:=3) (.inl rfl) O T K) ⟨by lia,by lia,by lia,by decide,by decide⟩ ?_;exact B _ ⟨_,_,J.mul T K O D (by lia),rfl⟩
  .rw[Bn (by rw[Gc];exact c)];exact B _ ⟨f,_,J.up (sv _),rfl⟩
end VL
namespace Num
open Sub VL
theorem C5{c:List Rat}(d:Mon c)(l:c.length<=13)(as:AS (cQ c)):∃(A:List Int)(g:Int),A.length=c.length/\g≠0/\g.natAbs<=48^12/\(∀x∈A,x.natAbs<=48^12)/\∀k,cQ c k=BK 1 g*((A.getD k 0:Int):Rat):=by
 obtain⟨G,a,p,e,b⟩:=AS.Lm 12 c (by lia) d.JX d.ne as;have o:=FM.mpr d.ne;have top:a*(G (c.length -1):Rat)=1:=(e (c.length -1)).symm.trans d.one;have h:G (c.length -1)≠0:=λz=>by rw[z]at top;have top:a*(0:Rat)=1:=top;rw[HI]at top;exact absurd top (by decide)
 have n:((G (c.length -1):Int):Rat)≠0:=eU h;have m:BK 1 (G (c.length -1))=a:=by rw[TK];show(1:Rat)/_=a;rw[<-top];generalize((G (c.length -1):Int):Rat)=u at*;grind
 refine⟨(D2 c.length).map G,G (c.length -1),by simp,h,b _,λx j=>?_,λk=>?_⟩
 .obtain⟨i,_,rfl⟩:=Ki.mp j;exact b i
 .rw[m,AC,Dx];by_cases f:k<c.length
  .rw[SB f];exact e k
  .rw[FK (by simpa using f),show cQ c k=0 from cS (by lia)];exact(HI _).symm
theorem Z7:48^12<2^68:=by decide
theorem Jl{g:Int}(h:g≠0):BK 1 g≠0:=by have:=Jd h 1;rw[NM,SZ,cn]at this;exact this
theorem Td{c:List Rat}{A:List Int}{g:Int}(b:Mon c)(l:c.length<=13)(a:A.length=c.length)(d:g≠0)(h:g.natAbs<=48^12)(i:∀x∈A,x.natAbs<=48^12)(e:∀k,cQ c k=BK 1 g*((A.getD k 0:Int):Rat)):Jh c A (BK 1 g):=
 ⟨a.symm,e,b.JX,Jl d,λx f=>DL (i x f) (by decide),Bl.div (by decide) (DL h (by decide)) d,by lia,by rw[a];exact FM.mpr b.ne⟩
theorem Jm{c:List Rat}{A:List Int}{g:Int}(m:Mon c)(l:c.length<=13)(r:2<=c.length)(j:A.length=c.length)(f:g≠0)(o:g.natAbs<=48^12)(p:∀x∈A,x.natAbs<=48^12)(e:∀k,cQ c k=BK 1 g*((A.getD k 0:Int):Rat)):Jh (oV c) (gG A) (BK 1 g):=by
 have n:∀k,cQ (oV c) k=BK 1 g*(((gG A).getD k 0:Int):Rat):=λk=>by rw[vI,mz,e (k+1),Jn];show((k+1:Nat):Rat)*_=_*(((k+1:Nat):Rat)*_);grind
 have q:=qR c;refine⟨by rw[qR,dI,j],n,λx b=>?_,Jl f,λx b=>?_,Bl.div (by decide) (DL o (by decide)) f,by rw[dI];lia,by rw[dI];lia⟩
 .rw[Kj]at b;have a:cQ (oV c) ((oV c).length -1)=x:=by show(oV c).getD _ 0=x;rw[AC,b];rfl
  rw[vI,qR,show c.length -1 -1+1=c.length -1 by lia,show cQ c (c.length -1)=1 from m.one,Y1]at a;rw[<-a];intro h;have:((c.length -1:Nat):Int)=0:=Tb.mp h;lia
 .obtain⟨i,d,rfl⟩:=SU.mp b;have a:=mz A i;rw[AC,BM d]at a;have a:(gG A)[i]=((i+1:Nat):Int)*A.getD (i+1) 0:=a;rw[dI]at d;rw[a,FS];exact X9 (show((i+1:Nat):Int).natAbs<=12 by lia) (p _ (getD_mem' (by lia)))
theorem Jo{c:List Rat}{A:List Int}{g:Int}(f:Mon c)(l:c.length<=13)(m:A.length=c.length)(a:g≠0)(n:g.natAbs<=48^12)(i:∀x∈A,x.natAbs<=48^12)(e:∀k,cQ c k=BK 1 g*((A.getD k 0:Int):Rat)):Rw 13 68 68 c:=by
 have p:=Z7;refine⟨l,f.JX,S6 a (λx b=>?_) (show g.natAbs<2^68 by lia)⟩;obtain⟨k,d,rfl⟩:=SU.mp b;have h:c[k]=cQ c k:=by show _=c.getD k 0;rw[AC,BM d];rfl
 refine⟨A.getD k 0,?_,by have:=i _ (getD_mem' (k:=k) (by lia));lia⟩;rw[h,e k,TK];have j:(g:Rat)≠0:=eU a;generalize((A.getD k 0:Int):Rat)=v;show((1:Rat)/(g:Rat))*v*(g:Rat)=v;grind
structure Du(y:Rat)(f:Pq)(D:List Rat):Prop where
 z:ao D
 e:∀k,cQ D k=y*f k
theorem Du.rw{y:Rat}{c D:List Rat}{a:Int}{n m:Nat}(h:Du y (cQ c) D)(r:0<a)(C:a.natAbs<2^m)(s:Cd a n y)(f:Rw 13 68 68 c):Rw 13 (n+68) (m+68) D:=by
 obtain⟨l,z,g,i,B,t⟩:=f;refine⟨Nw λq=>gr h.z (by lia) ?_,h.z,a*g,XX r i,by rw[FS];exact lt_mul C B,λx b=>?_⟩
 .refine(h.e (D.length -1)).trans ?_;rw[show cQ c (D.length -1)=0 from cS (by lia),HI]
 .obtain⟨k,d,rfl⟩:=SU.mp b;have p:D[k]=cQ D k:=by show _=D.getD k 0;rw[AC,BM d];rfl
  rw[p,h.e k];obtain⟨u,j,A⟩:=s;have:Cd g 68 (cQ c k):=by
   by_cases q:k<c.length
   .have o:cQ c k=c[k]:=by show c.getD k 0=_;rw[AC,BM q];rfl
    rw[o];exact t _ (Kx q)
   .rw[show cQ c k=0 from cS (by lia)];exact⟨0,TC _,OK (by decide)⟩
  obtain⟨v,ev,w⟩:=this;refine⟨u*v,?_,by rw[FS];exact lt_mul A w⟩;rw[Jn,Jn,<-j,<-ev];grind
theorem Du.mul{y:Rat}{f:Pq}{D p:List Rat}(h:Du y f D):Du y (aD f (cQ p)) (aY (mulQ D p)):=
 ⟨b9 _,λk=>by rw[r9,show cQ D=_ from funext h.e,cj]⟩
theorem xg:∀a b:List (List Rat×Nat),oW (a++b)=aD (oW a) (oW b)
 |[],b=>(GJ _).symm
 |x::a,b=>by
  show aD _ (oW (a++b))=aD (aD _ _) _;rw[xg a b]
  ac_rfl
theorem M5(x:List Rat×Nat):oW [x]=pw (cQ x.1) x.2:=GK _
theorem zv{l:List (List Rat×Nat)}{i:Nat}{x:List Rat×Nat}(h:l[i]?=some x):oW (l.take (i+1))=aD (oW (l.take i)) (pw (cQ x.1) x.2):=by rw[Ue,h];show oW (l.take i++[x])=_;rw[xg,M5]
theorem zw{l:List (List Rat×Nat)}{i t:Nat}{x:List Rat×Nat}(f:∀x∈l,Mon x.1)(h:l[i]?=some x)(s:t<=x.2):∃c,Mon c/\cQ c=aD (oW (l.take i)) (pw (cQ x.1) t)/\DQ (cQ c) (oW l):=by
 have m:=Hk h;obtain⟨a,p,k⟩:=mD (l.take i) λy d=>f y (ke d);obtain⟨b,o,j⟩:=(f x m).pw t;obtain⟨c,n,g⟩:=p.cv o;refine⟨c,n,by rw[g,k,j],?_⟩;obtain⟨r,u,q⟩:=mD (l.drop (i+1)) λy d=>f y (List.mem_of_mem_drop d);have e:oW l=aD (cQ c) (aD (pw (cQ x.1) (x.2 -t)) (cQ r)):=by
  conv=>lhs;rw[<-a7 (i+1) l]
  rw[xg,zv h,show x.2=t+(x.2 -t) by lia,qS,g,k,j,q,P2]
  ac_rfl
 rw[e];exact DQ.VH ((fO (aG _) _).mul (aG _))
theorem iX.mon{f:Pq}{l:List (List Rat×Nat)}(h:iX f l):∀x∈l,Mon x.1:=λx a=>(h.pt x a).2.1
theorem iX.part{a:List Rat}{l:List (List Rat×Nat)}(z:ao a)(n:a≠[])(as:AS (cQ a))(g:a.length<=13)(h:iX (cQ a) l){i t:Nat}{x:List Rat×Nat}(j:l[i]?=some x)(m:t<=x.2):∃c,Mon c/\cQ c=aD (oW (l.take i)) (pw (cQ x.1) t)/\AS (cQ c)/\c.length<=13:=by obtain⟨c,b,e,d⟩:=zw h.mon j m;have f:DQ (cQ c) (cQ a):=(d.sc (a.getD (a.length -1) 0)).ext λk=>h.prod z n k;exact⟨c,b,e,as.dvd f,DL (DQ.len b f (k:=a.length -1) (bE z n)) g⟩
theorem iX.one{b:List Rat}{l:List (List Rat×Nat)}(z:ao b)(n:b≠[])(as:AS (cQ b))(j:b.length<=13)(h:iX (cQ b) l){x:List Rat×Nat}(f:x∈l):AS (cQ x.1)/\x.1.length<=13:=by
 obtain⟨i,q⟩:=List.getElem?_of_mem f;obtain⟨u,g⟩:=h.pt x f;have d:DQ (cQ x.1) (cQ b):=by obtain⟨c,v,e,d⟩:=zw (t:=x.2) h.mon q (Da _);have s:DQ (cQ c) (cQ b):=(d.sc (b.getD (b.length -1) 0)).ext λk=>h.prod z n k;refine DQ.trans ?_ s;obtain⟨a,w,r⟩:=mD (l.take i) λy o=>h.mon y (ke o);obtain⟨m,p⟩:∃m,x.2=m+1:=⟨x.2 -1,by lia⟩;rw[e,p,<-r];exact⟨aD (cQ a) (pw (cQ x.1) m),(aG _).mul (fO (aG _) _),λk=>congrFun (show aD (cQ a) (aD (cQ x.1) (pw (cQ x.1) m))=aD (aD (cQ a) (pw (cQ x.1) m)) (cQ x.1) by ac_rfl) k⟩
 exact⟨as.dvd d,DL (DQ.len g.1 d (k:=b.length -1) (bE z n)) j⟩
theorem OY{l:List (List Rat×Nat)}(h:l.Pairwise λx y=>x.2<y.2)(a:∀x∈l,1<=x.2):∀i x,l[i]?=some x->i+1<=x.2
 |0,x,e=>a x (Hk e)
 |i+1,x,e=>by obtain⟨b,c⟩:=FR.mp e;have:=OY h a i _ (BM (show i<l.length by lia));have:=vT.mp h i (i+1) (by lia) b (N0 _);rw[c]at this;lia
theorem iX.few{a:List Rat}{l:List (List Rat×Nat)}(z:ao a)(n:a≠[])(h:iX (cQ a) l):l.length+1<=a.length:=by
 have d:=FM.mpr n;rcases cb l.length with e|e
 .lia
 .have b:l[l.length -1]?=some l[l.length -1]:=BM (by lia);have:=OY h.up (λx c=>(h.pt x c).1) _ _ b;have:=h.Ol z n (Hk b);lia
end Num
namespace VL
open PySem PySem.Spec
open PyProof.Rows hiding St
open L2 Num
noncomputable def se:List CS:=[.iff (.or [(.not (.blt .zG [(.var 5),(.As "tuple")])),(.cmp .NotEq (.blt .len [(.var 5)]) (.int 2)),(.not (.call 0 [(.ix (.var 5) (.int 0))])),(.not (.call 1 [(.ix (.var 5) (.int 1))]))]) [.ret (.bl false)] [],.D9 [6,7] (.var 5),.iff (.or [(.cmp .Lt (.blt .len [(.var 6)]) (.int 2)),(.cmp .NotEq (.ix (.var 6) (.neg (.int 1))) (.tup [(.int 1),(.int 1)])),(.cmp .LtE (.var 7) (.var 4)),(.cmp .Gt (.var 7) (.blt .len [(.var 1)]))]) [.ret (.bl false)] [],.fr [8] true (.jP [(.var 7)]) [.set 2 (.call 2 [(.var 2),(.var 6)])],.iff (.call 3 [(.var 6),(.comp [0] true 1 (.jP [(.int 1),(.blt .len [(.var 6)])]) (.bl true) (.call 4 [(.ix (.var 7) (.var 0)),(.tup [(.var 0),(.int 1)])]))]) [.ret (.bl false)] [],.iff (.blt .any [(.comp [0] true 1 (.var 3) (.bl true) (.call 3 [(.var 7),(.var 0)]))]) [.ret (.bl false)] [],.app 3 (.var 6),.set 4 (.var 7)]
noncomputable def om:List CS:=[.iff (.not (.blt .zG [(.var 0),(.As "list")])) [.ret (.bl false)] [],.set 2 (.lst [(.ix (.var 1) (.neg (.int 1)))]),.set 3 (.lst []),.set 4 (.int 0),.fr [5] true (.var 0) se,.ret (.cmp .Eq (.var 2) (.var 1))]
noncomputable def mW:aZ:=λb Q _=>∃(a:List Rat)(l:List (List Rat×Nat)),b=[.lst (l.map dQ),af a]/\(MJ 20 a/\iX (cQ a) l)/\Q (.bl true)
theorem M6{α:Type}(l:List α):(l.map λ_=>false).any id=false:=by
 induction l with
 |nil=>rfl
 |cons x l a=>rw[RF,List.any_cons,a];rfl
structure P1(row:List Rat)(l:List (List Rat×Nat))(x:List Rat×Nat):Prop where
 mon:Mon x.1
 l2:2<=x.1.length
 lM:x.1.length<=13
 o1:1<=x.2
 o2:x.2+1<=row.length
 rw:Rw 13 68 68 x.1
 i:∃A α,Jh x.1 A α/\∃B,Jh (oV x.1) B α
theorem C6{a:List Rat}{l:List (List Rat×Nat)}(h:MJ 20 a)(p:iX (cQ a) l){x:List Rat×Nat}(f:x∈l):P1 a l x:=by obtain⟨n,b,m,_⟩:=p.pt x f;obtain⟨as,c⟩:=p.one h.rw.z h.ne h.as h.rw.len f;obtain⟨A,g,d,i,j,k,e⟩:=C5 b c as;exact⟨b,m,c,n,p.Ol h.rw.z h.ne f,Jo b c d i j k e,A,_,Td b c d i j k e,gG A,Jm b c m d i j k e⟩
theorem Te(r:List Rat):jk (cQ r)=cQ (oV r):=funext λk=>(vI r k).symm
theorem M7{a:List Rat}{l:List (List Rat×Nat)}(h:MJ 20 a)(p:iX (cQ a) l){i t:Nat}{x:List Rat×Nat}{D:List Rat}(k:l[i]?=some x)(m:t<=x.2)(d:Du (a.getD (a.length -1) 0) (aD (oW (l.take i)) (pw (cQ x.1) t)) D):Rw 13 441 131 D:=by obtain⟨c,f,o,as,b⟩:=p.part h.rw.z h.ne h.as h.rw.len k m;obtain⟨A,g,j,n,s,v,e⟩:=C5 f b as;obtain⟨_,_,y,q,u,r⟩:=h.rw;rw[<-o]at d;have w:=FM.mpr h.ne;refine(d.rw q u (r _ ?_) (Jo f b j n s v e)).up (Da _) (by decide) (by decide);rw[AC,BM (show a.length -1<a.length by lia)];exact Kx _
theorem M8(f g:Pq):aD f (pw g 0)=f:=GK f
theorem M9(f g:Pq)(t:Nat):aD (aD f (pw g t)) g=aD f (pw g (t+1)):=by
 show _=aD f (aD g (pw g t))
 ac_rfl
theorem Jp{G:Nat->W}{a:List Rat}{l:List (List Rat×Nat)}{x:List Rat×Nat}{y:Rat}{D:List Rat}{i n:Nat}{U T c:Option W}{E:Dn}(o:MJ 20 a)(q:iX (cQ a) l)(hy:y=a.getD (a.length -1) 0)(s:l[i]?=some x)(Yg:n<x.2)(d:Du y (oW (l.take i)) D)
 (X:∀(D:List Rat)(c:Option W),Du y (oW (l.take (i+1))) D->E.nx [some (.lst (l.map dQ)),some (af a),some (af D),some (.lst ((l.take (i+1)).map λx=>af x.1)),some (.int (x.2:Int)),some (dQ x),some (af x.1),some (.int (x.2:Int)),c]):
 wSs (bV [qg,rW,dj,w6,tu R0]) G se E [some (.lst (l.map dQ)),some (af a),some (af D),some (.lst ((l.take i).map λx=>af x.1)),some (.int (n:Int)),some (dQ x),U,T,c]:=by
 have M:=Hk s;have m:=C6 o q M;have F:i<l.length:=(FR.mp s).1;have few:=q.few o.rw.z o.ne;have lM:=o.rw.len;generalize hL:W.lst (l.map dQ)=L;rw[hL]at X;generalize C:(l.take i).map (λx=>af x.1)=p;unfold se;have l2:=m.l2;have Ye:=m.lM;have o1:=m.o1;have o2:=m.o2;refine aH (λb=>b=[some L,some (af a),some (af D),some (.lst p),some (.int (n:Int)),some (dQ x),U,T,c]) (λN f=>?_) ?_
 .unfold dQ at f⊢;fin2;simp only[yV];refine⟨_,rfl,?_⟩;fin2;rw[Bn (by decide),Bn (by simp)];refine⟨_,rfl,x.1,rfl,by lia,m.mon.JX,?_⟩;fin2;refine⟨_,rfl,_,rfl,?_⟩;fin2;exact f _ rfl
 rintro _ rfl;refine aH (λb=>b=[some L,some (af a),some (af D),some (.lst p),some (.int (n:Int)),some (dQ x),some (af x.1),some (.int (x.2:Int)),c]) (λN f=>?_) ?_
 .unfold dQ at f⊢;fin2;exact⟨rfl,f _ rfl⟩
 rintro _ rfl;have lx:x.1.getLast?=some 1:=qa (by lia) m.mon.one;refine aH (λb=>b=[some L,some (af a),some (af D),some (.lst p),some (.int (n:Int)),some (dQ x),some (af x.1),some (.int (x.2:Int)),c]) (λN f=>?_) ?_
 .unfold af at f⊢;fin2;rw[AN,AN,Bn (by rw[Gc];lia)];refine⟨_,fF lx,ai (by simp),?_⟩;refine Xj (x:=1) (y:=1) λk hk=>?_;cases cN hk rfl;fin2;rw[Bn (show¬(!true)=true by decide),Bn (by rw[Gc];lia),Bn (by rw[Gc];lia)];exact f _ rfl
 rintro _ rfl;refine aH (λb=>∃(D:List Rat)(c:Option W),Du y (aD (oW (l.take i)) (pw (cQ x.1) x.2)) D/\b=[some L,some (af a),some (af D),some (.lst p),some (.int (n:Int)),some (dQ x),some (af x.1),some (.int (x.2:Int)),c]) (λN f=>?_) ?_
 .refine zp (l:=eE 0 1 x.2) (λQ hq=>?_) ?_
  .fin2;exact⟨by lia,by lia,by rw[Eg];exact hq⟩
  refine bf (λt ε=>∃(D:List Rat)(c:Option W),Du y (aD (oW (l.take i)) (pw (cQ x.1) t)) D/\ε=[some L,some (af a),some (af D),some (.lst p),some (.int (n:Int)),some (dQ x),some (af x.1),some (.int (x.2:Int)),c]) ⟨D,c,by rw[M8];exact d,rfl⟩ ?_ ?_
  .rintro t w _ N2 sP ⟨D,c,d,rfl⟩ wC;obtain⟨ht,rfl⟩:=fU sP;fin2;refine OU (M7 o q s (Oy ht) (hy▸d)) m.rw ⟨by decide,by decide,by decide,by decide,by decide⟩ ?_;exact wC _ ⟨_,_,by rw[<-M9];exact d.mul,rfl⟩
  .rintro _ ⟨D,c,d,rfl⟩;rw[i9]at d;exact f _ ⟨D,c,d,rfl⟩
 clear d D;rintro _ ⟨D,c,d,rfl⟩;obtain⟨A,I,u,B,J⟩:=m.i;have Tf:=aG a;have Z:=cE o.rw.z o.ne;refine aH (λb=>b=[some L,some (af a),some (af D),some (.lst p),some (.int (n:Int)),some (dQ x),some (af x.1),some (.int (x.2:Int)),c]) (λN f=>?_) ?_
 .unfold af at f⊢;fin2;rw[AN];refine⟨⟨by decide,by decide,by lia,by lia⟩,?_⟩;rw[show((x.1.length:Int) -1).toNat=x.1.length -1 by lia];unfold eE;refine bY (h:=λi:Nat=>W.int (1+(i:Int)*1)) (g:=λi:Nat=>wq (((i+1:Nat):Rat)*x.1.getD (i+1) 0)) _ [] _ (λi F K O=>?_) (ai (by simp;lia)) ?_
  .have F:=Yf.mp F;have ei:(1+(i:Int)*1)=((i+1:Nat):Int):=by lia
   rw[ei];fin2;have ea:(x.1.map wq)[i+1]?=some (wq (x.1.getD (i+1) 0)):=wD (by lia);have hb:=m.rw.bd (Da _) (x.1.getD (i+1) 0) (by rw[AC,BM (show i+1<x.1.length by lia)];exact Kx _);generalize x.1.getD (i+1) 0=z at*;refine⟨_,bC ea,ai (by simp),z,((i+1:Nat):Rat),68,4,rfl,hb,⟨?_,?_⟩,by decide,?_⟩
   .show i+1<2^4;lia
   .show 1<2^4;decide
   .rw[oP];exact O
  .have es:([]++(D2 (x.1.length -1)).map λi:Nat=>wq (((i+1:Nat):Rat)*x.1.getD (i+1) 0))=(oV x.1).map wq:=by unfold oV c7;rw[UV];rfl
   rw[es];refine⟨x.1,oV x.1,A,B,I,I,rfl,⟨u,J,λd S R P=>q.bare Tf Z M d S R (by rw[Te];exact P)⟩,?_⟩;fin2;exact f _ rfl
 rintro _ rfl;refine aH (λb=>b=[some L,some (af a),some (af D),some (.lst p),some (.int (n:Int)),some (dQ x),some (af x.1),some (.int (x.2:Int)),c]) (λN f=>?_) ?_
 .subst C;fin2;refine bY (h:=λx:List Rat×Nat=>af x.1) (g:=λ_=>.bl false) (l.take i) [] _ (λz hz K O=>?_) (ai (by simp;lia)) ?_
  .have v:=ke hz;obtain⟨A',H,W8,_⟩:=(C6 o q v).i;refine⟨x.1,z.1,A,A',I,H,rfl,⟨u,W8,λd S R P=>q.cop Tf Z M v (λe=>?_) d S R P⟩,O⟩;obtain⟨j,hj,Y⟩:=SU.mp hz;rw[W1]at hj;rw[List.getElem_take]at Y;have:=vT.mp q.up j i (by lia) F (by lia);rw[Y,(FR.mp s).2]at this;lia
  .rw[WX];refine⟨(l.take i).map λ_=>false,by rw[UV];rfl,?_⟩;rw[M6];fin2;exact f _ rfl
 rintro _ rfl;subst C;have r:=X D c (by rw[zv s];exact d);rw[Ue,s]at r;fin2;refine⟨nU (by simp;lia),?_⟩;simp only[Option.toList,T1,RF,xk]at r;exact r
theorem EK{G:Nat->W}{m:Md}(A:List W)(Q:W->Prop)(R:Addr->Prop)(h:mW A Q R):wSs (bV [qg,rW,dj,w6,tu R0]) G om (bK m Q R) (ak 9 A):=by
 obtain⟨a,l,rfl,⟨c,q⟩,t⟩:=h;show wSs _ _ om _ [some (.lst (l.map dQ)),some (af a),none,none,none,none,none,none,none];unfold om;have H:=FM.mpr c.ne;have M:=c.rw.len;have few:=q.few c.rw.z c.ne;refine aH (λb=>b=[some (.lst (l.map dQ)),some (af a),none,none,none,none,none,none,none]) (λN f=>?_) ?_
 .fin2;simp only[yV];refine⟨_,rfl,?_⟩;fin2;rw[Bn (by decide)];exact f _ rfl
 rintro _ rfl;obtain⟨y,r⟩:∃y,y=a.getD (a.length -1) 0:=⟨_,rfl⟩;have F:y≠0:=r▸bE c.rw.z c.ne;have I:a.getLast?=some y:=qa H r.symm;refine aH (λb=>b=[some (.lst (l.map dQ)),some (af a),some (af [y]),none,none,none,none,none,none]) (λN f=>?_) ?_
 .unfold af at f⊢;fin2;exact⟨_,fF I,ai (by simp),f _ rfl⟩
 rintro _ rfl;refine aH (λb=>b=[some (.lst (l.map dQ)),some (af a),some (af [y]),some (.lst []),none,none,none,none,none]) (λN f=>?_) ?_
 .fin2;exact⟨ai (by simp),f _ rfl⟩
 rintro _ rfl;refine aH (λb=>b=[some (.lst (l.map dQ)),some (af a),some (af [y]),some (.lst []),some (.int 0),none,none,none,none]) (λN f=>?_) ?_
 .fin2;exact f _ rfl
 rintro _ rfl;refine aH (λb=>∃(D:List Rat)(o3 B p o n j:Option W),Du y (oW l) D/\b=[some (.lst (l.map dQ)),some (af a),some (af D),o3,B,p,o,n,j]) (λN f=>?_) ?_;rotate_left
 .rintro _ ⟨D,o3,B,p,o,n,j,d,rfl⟩;fin2;refine AR λk K=>?_;have e:D=a:=vf d.z c.rw.z λk=>by refine(d.e k).trans ?_;rw[r];exact(q.prod c.rw.z c.ne k).symm
  rw[cN K e];exact t
 refine zp (l:=l.map dQ) (λQ t=>t) ?_;refine bf (λi E=>∃(D:List Rat)(s:Nat)(p o n j:Option W),(Du y (oW (l.take i)) D/\∀x,l[i]?=some x->s<x.2)/\E=[some (.lst (l.map dQ)),some (af a),some (af D),some (.lst ((l.take i).map λx=>af x.1)),some (.int (s:Int)),p,o,n,j]) ⟨[y],0,none,none,none,none,⟨⟨λx g=>by cases g;exact F,λk=>?_⟩,λx g=>(q.pt x (Hk g)).1⟩,rfl⟩ ?_ ?_
 .show[y].getD k 0=y*cQ [1] k;cases k with
  |zero=>exact(Y1 y).symm
  |succ k=>exact(HI y).symm
 rotate_left
 .rintro _ ⟨D,s,p,o,n,j,⟨d,_⟩,rfl⟩;rw[AN,e5]at d;exact f _ ⟨D,_,_,p,o,n,j,d,rfl⟩
 rintro i w _ P C ⟨D,s,p,o,n,j,⟨d,v⟩,rfl⟩ J;rw[Dx]at C;obtain⟨x,g,rfl⟩:=PH.mp C;have O:=Hk g;have v:=v x g;have L:i<l.length:=(FR.mp g).1;refine Jp c q r g v d λD j d=>J _ ⟨D,x.2,_,_,_,_,⟨d,λz hz=>?_⟩,rfl⟩;have u:=(FR.mp hz).1;have:=vT.mp q.up i (i+1) L u (N0 _);rw[(FR.mp g).2,(FR.mp hz).2]at this;exact this
noncomputable def xh:List CS:=[.iff (.cmp .Eq (.var 0) (.lst [])) [.raise 0 (.str "bare parts of the row 0")] [],.nK,.nK,.nK,.nK,.nK,.nK,.nK]
noncomputable def Jq(C:Addr):aZ:=λa _ R=>a=[af []]/\R C
theorem Na{b:Nat->aZ}{C:Addr}{m:Md}(a:List W)(Q:W->Prop)(R:Addr->Prop)(h:Jq C a Q R):wSs b (j8 [.cls C]) xh (bK m Q R) (ak 8 a):=by obtain⟨rfl,d⟩:=h;show wSs _ _ xh _ [some (af []),none,none,none,none,none,none,none];unfold xh;refine aH (λ_=>False) (λN e=>?_) (λ_ z=>z.elim);fin2;refine⟨ai (by simp),AR (x:=[]) (y:=[]) λk c=>?_⟩;cases cN c rfl;exact d
noncomputable def lD:aZ:=λa Q _=>a=[af []]/\Q (.bl true)
noncomputable def sf:List CS:=[.set 2 (.call 0 [(.var 0),(.var 1)]),.set 3 (.blt .list [(.var 2)]),.set 4 (.call 1 [(.var 3)]),.iff (.or [(.not (.Co [4] (.call 2 [(.var 4),(.var 2)]))),(.cmp .NotEq (.var 3) (.var 2)),(.not (.call 3 [(.lst [])]))]) [.ret (.bl false)] [],.VU 7 [4] (.t [.f,.s]) [0,1] false 2 (.var 4) (.bl true) (.tup [(.blt .list [(.var 0)]),(.var 1)]),.VV 4 5 6 (.tup [(.int 7),(.int 1)]),.T6 4 (.tup [(.lst []),(.int 1)]),.iff (.cmp .NotEq (.call 1 [(.var 3)]) (.var 7)) [.ret (.bl false)] [],.set 8 (.comp [0,1] false 2 (.var 7) (.bl true) (.tup [(.var 0),(.bin .Mult (.int 2) (.var 1))])),.iff (.and [(.cmp .Lt (.blt .len [(.var 2)]) (.int 9)),(.cmp .NotEq (.call 1 [(.call 4 [(.var 3),(.var 3)])]) (.var 8))]) [.ret (.bl false)] []]
noncomputable def xj:List CS:=[.fr [1] true (.jP [(.int 0),(.int 63),(.int 7)]) sf,.ret (.bl true)]
theorem Ui.mj{f:List Rat}(h:MJ 20 f):Ui f:=by obtain⟨_,_,D,a,c,b⟩:=h.rw;exact⟨h.ne,h.rw.z,DL h.rw.len (by decide),h.as,D,_,_,b,a,c,by decide,by decide⟩
theorem Ui.sq{f:List Rat}(h:MJ 20 f)(l:f.length<9):Ui (aY (mulQ f f)):=by have a:Rw 8 (13+18*20) (3+3*20) f:=⟨by lia,h.rw.z,h.rw.cd⟩;obtain⟨l,z,D,b,c,cd⟩:=rw_mul a a (by decide);exact⟨Jj h.rw.z h.rw.z h.ne h.ne,z,l,by rw[r9];exact AS.mul (aG f) (aG f) h.as h.as,D,_,_,cd,b,c,by decide,by decide⟩
theorem zx:∀r:List Rat,yz (r.map wq)=true
 |[]=>rfl
 |x::r=>by show(E5 (wq x)&&yz (r.map wq))=true;rw[zx r];rfl
theorem Nb(x:List Rat×Nat):flat (.t [.f,.s]) (dQ x)=true:=by show(yz (x.1.map wq)&&(E5 (.int (x.2:Int))&&true))=true;rw[zx];rfl
theorem Jr(l:List (List Rat×Nat)):sX 9 (.lst (l.map dQ))=true:=by dsimp only[sX];rw[Kb];intro w a;obtain⟨x,_,rfl⟩:=Ki.mp a;show(sX 7 (.lst (x.1.map wq))&&(sX 7 (.int (x.2:Int))&&true))=true;rw[jZ x.1 5];rfl
theorem OZ{a b:List (List Rat×Nat)}{Q:W->Prop}(e:a=b)(q:Q (.bl false)):iY .NotEq (.lst (a.map dQ)) (.lst (b.map dQ)) Q:=
 ⟨.inl ⟨Jr a,Jr b⟩,λk c=>by rw[cN c (by rw[e])];exact q⟩
theorem Js{G:Nat->W}{ns:List Int}{z:Int}{o2 o3 u o j p d:Option W}{E:Dn}(D:∀o2 o3 u o j p d,E.nx [some (.di ns),some (.int z),o2,o3,u,o,j,p,d]):wSs (bV [qi,qh,mW,lD,gF]) G sf E [some (.di ns),some (.int z),o2,o3,u,o,j,p,d]:=by
 unfold sf;refine aH (λa=>∃f:List Rat,MJ 20 f/\a=[some (.di ns),some (.int z),some (af f),o3,u,o,j,p,d]) (λN b=>?_) ?_
 .fin2;exact⟨ns,z,rfl,λf J=>b _ ⟨f,J,rfl⟩⟩
 rintro _ ⟨f,J,rfl⟩;have lM:=J.rw.len;refine aH (λa=>a=[some (.di ns),some (.int z),some (af f),some (af f),u,o,j,p,d]) (λN b=>?_) ?_
 .unfold af at b⊢;fin2;exact b _ rfl
 rintro _ rfl;refine aH (λa=>∃l,iX (cQ f) l/\a=[some (.di ns),some (.int z),some (af f),some (af f),some (.lst (l.map dQ)),o,j,p,d]) (λN b=>?_) ?_
 .fin2;exact⟨f,rfl,.mj J,λl r=>b _ ⟨l,r,rfl⟩⟩
 rintro _ ⟨l,r,rfl⟩;have few:=r.few J.rw.z J.ne;have B:=aG f;have A:=cE J.rw.z J.ne;refine aH (λa=>a=[some (.di ns),some (.int z),some (af f),some (af f),some (.lst (l.map dQ)),o,j,p,d]) (λN b=>?_) ?_
 .fin2;refine⟨f,l,rfl,⟨J,r⟩,rfl,?_⟩;fin2;rw[Bn (by decide)];refine rP λk I=>?_;cases cN I rfl;fin2;rw[Bn (by decide)];refine⟨ai (by simp),rfl,?_⟩;fin2;exact b _ rfl
 rintro _ rfl;refine aH (λa=>a=[some (.di ns),some (.int z),some (af f),some (af f),some (.lst (l.map dQ)),o,j,some (.lst (l.map dQ)),d]) (λN b=>?_) ?_
 .fin2;refine bY (h:=dQ) (g:=dQ) l [] _ (λx y K v=>?_) (ai (by simp;lia)) ?_
  .have e:∀P:Ev->Prop,P [some (af x.1),some (.int (x.2:Int)),some (.di ns),some (.int z),some (af f),some (af f),some (.lst (l.map dQ)),o,j,p,d]->wT false [0,1] (dQ x) (none::none::[some (.di ns),some (.int z),some (af f),some (af f),some (.lst (l.map dQ)),o,j,p,d]) P:=λP h=>⟨rfl,h⟩;refine e _ ?_;have fl:=Nb x;unfold dQ af at fl v;unfold af;fin2;exact⟨ai (by simp),fl,v⟩
  .exact b _ rfl
 rintro _ rfl;refine aH (λa=>∃i:List W,i.length=l.length/\a=[some (.di ns),some (.int z),some (af f),some (af f),some (.lst i),none,none,some (.lst (l.map dQ)),d]) (λN b=>?_) ?_
 .show(_/\_/\_);refine⟨λw H=>?_,by show 5<9;decide,b _ ⟨(l.map dQ).map (nM (.tup [.int 7,.int 1])),by rw[AN,AN],rfl⟩⟩;obtain⟨x,y,rfl⟩:=Ki.mp H;refine⟨x.1.map wq,.int (x.2:Int),rfl,nU ?_⟩;rw[AN];have:=(C6 J r y).lM;lia
 rintro _ ⟨i,M,rfl⟩;refine aH (λa=>∃i:List W,a=[some (.di ns),some (.int z),some (af f),some (af f),some (.lst i),none,none,some (.lst (l.map dQ)),d]) (λN b=>?_) ?_
 .fin2;exact⟨ai (by simp),ai (by simp),nU (by lia),b _ ⟨_,rfl⟩⟩
 clear M i;rintro _ ⟨i,rfl⟩;refine aH (λa=>a=[some (.di ns),some (.int z),some (af f),some (af f),some (.lst i),none,none,some (.lst (l.map dQ)),d]) (λN b=>?_) ?_
 .fin2;refine⟨f,rfl,.mj J,λF q=>OZ (q.uniq B A r) ?_⟩;fin2;exact b _ rfl
 rintro _ rfl;refine aH (λa=>a=[some (.di ns),some (.int z),some (af f),some (af f),some (.lst i),none,none,some (.lst (l.map dQ)),some (.lst ((l.map λx=>(x.1,2*x.2)).map dQ))]) (λN b=>?_) ?_
 .fin2;refine bY (h:=dQ) (g:=λx=>dQ (x.1,2*x.2)) l [] _ (λx y K v=>?_) (ai (by simp;lia)) ?_
  .have o2:=(C6 J r y).o2;have e:∀P:Ev->Prop,P [some (af x.1),some (.int (x.2:Int)),some (.di ns),some (.int z),some (af f),some (af f),some (.lst i),none,none,some (.lst (l.map dQ)),d]->wT false [0,1] (dQ x) (none::none::[some (.di ns),some (.int z),some (af f),some (af f),some (.lst i),none,none,some (.lst (l.map dQ)),d]) P:=λP h=>⟨rfl,h⟩;refine e _ ?_;fin2;refine⟨aK (n:=2) (m:=5) (by decide) (by lia) (by decide),ai (by simp),?_⟩;have O:dQ (x.1,2*x.2)=.tup [af x.1,.int (2*(x.2:Int))]:=by unfold dQ;simp only[Int.natCast_mul];rfl
   rw[O]at v;exact v
  .have:=b _ rfl;rw[UV]at this;exact this
 rintro _ rfl;generalize C:[some (W.di ns),some (W.int z),some (af f),some (af f),some (W.lst i),none,none,some (W.lst (l.map dQ)),some (W.lst ((l.map λx=>(x.1,2*x.2)).map dQ))]=P;have s:E.nx P:=by rw[<-C];exact D _ _ _ _ _ _ _
 subst C;unfold af at s⊢;fin2;rw[AN];by_cases c:(f.length:Int)<9
 .rw[Bz (IH c)];refine Xi J.rw J.rw ⟨by decide,by decide,by decide,by decide,by decide⟩ ?_;have L:=Ui.sq J (by lia);have t:=r.twice B A;refine⟨_,rfl,L,λF q=>OZ ?_ ?_⟩
  .rw[r9]at q;exact q.uniq ((aG f).mul (aG f)) (yu B B A A) t
  .fin2;exact s
 .rw[Bn (by rw[Gc];exact c)];fin2;exact s
theorem Nc{G:Nat->W}{m:Md}(j:List W)(Q:W->Prop)(R:Addr->Prop)(h:SI j Q R):wSs (bV [qi,qh,mW,lD,gF]) G xj (bK m Q R) (ak 9 j):=by
 obtain⟨k,rfl,_,g⟩:=h;show wSs _ _ xj _ [some (.di k),none,none,none,none,none,none,none,none];unfold xj;refine aH (λ_=>True) (λN q=>?_) (λa _=>?_)
 .refine zp (l:=eE 0 7 9) (λQ g=>?_) ?_
  .fin2;exact⟨9,⟨by decide,by decide,by decide,by decide⟩,g⟩
  refine bf (λi n=>∃o1 o2 o3 f e d c b,n=[some (.di k),o1,o2,o3,f,e,d,c,b]) ⟨none,none,none,none,none,none,none,none,rfl⟩ ?_ ?_
  .rintro i w _ r p ⟨o1,o2,o3,f,e,d,c,b,rfl⟩ o;obtain⟨z,rfl⟩:=MV p;exact Js λo2 o3 f e d c b=>o _ ⟨_,_,_,_,_,_,_,_,rfl⟩
  .rintro a _;exact q _ trivial
 .fin2;exact g
end VL
namespace VL
open PySem PySem.Spec
open PyProof.Rows hiding St
open L2
noncomputable def C7(st:Stmt):List Str:=(cC st).args.map (·.arg)
noncomputable def Z8:NameKind->Bool
 |.local=>true
 |.cell=>true
 |_=>false
noncomputable def Yh(st:Stmt):List Str:=((aj st).names.filter λy=>Z8 y.2).map (·.1)
abbrev DT:=List (Str×Nat)
noncomputable def Nd(DD:DT)(j:Nat):Str:=match DD[j]? with
 |some y=>y.1
 |none=>""
noncomputable def Nf(K:Frag)(a:Nat->Stmt):DT->Prop
 |[]=>True
 |(x,i)::l=>(Hd K x (a i)/\i7 x x (a i) (C7 (a i)))/\Nf K a l
noncomputable def Ng(K:Frag):List Str->Prop
 |[]=>True
 |x::l=>nsIn K mainGlobals x=some none/\Ng K l
structure TT(K:Frag)(mg:Str->Option Value)(tp:Nat->Stmt)(DD:DT)(ZZ:List Str)where
 f:Nat->Addr
 d:Nat->FuncData
 D:∀{j:Nat}{x:Str}{i:Nat},DD[j]?=some (x,i)->Df K mg x (tp i) (C7 (tp i)) (f j) (d j)
 Z:∀x∈ZZ,mg x=none
section
variable{P:Program}{w:World}{K:Frag}{mg:Str->Option Value}{base:Heap}{tp:Nat->Stmt}{DD:DT}{ZZ:List Str}
theorem C8{h:Heap}(X:K.In h)(G:h.Ns mainGlobals mg):∀{DD:DT}{j:Nat}{x:Str}{i:Nat},Nf K tp DD->DD[j]?=some (x,i)->∃f a,Df K mg x (tp i) (C7 (tp i)) f a
 |(y,n)::DD,0,x,i,h,e=>by
  cases e;exact WZ X G h.1.1 h.1.2
 |(y,n)::DD,j+1,x,i,h,e=>C8 X G (DD:=DD) h.2 e
theorem C9{h:Heap}(X:K.In h)(G:h.Ns mainGlobals mg):∀{ZZ:List Str},Ng K ZZ->∀x∈ZZ,mg x=none
 |y::ZZ,h,x,a=>by
  rcases Fn.mp a with e|a
  .rw[e];exact PySem.W.mg_none_of X G h.1
  .exact C9 X G h.2 x a
open Classical in
theorem Xy{h:Heap}(X:K.In h)(G:h.Ns mainGlobals mg)(a:Nf K tp DD)(z:Ng K ZZ):Nonempty (TT K mg tp DD ZZ):=by
 have H:∀j:Nat,∃f b,∀x i,DD[j]?=some (x,i)->Df K mg x (tp i) (C7 (tp i)) f b:=λj=>by
  cases e:DD[j]? with
  |none=>exact⟨0,fnOf "" "" (cC (tp 0)) (aV (tp 0)) (aj (tp 0)) .none .none .none .none none .none .none,λx i q=>nn q⟩
  |some y=>obtain⟨f,b,D⟩:=C8 X G a e;exact⟨f,b,λx i q=>by cases q;exact D⟩
 exact⟨⟨λj=>choose (H j),λj=>choose (choose_spec (H j)),λ{j x i} e=>choose_spec (choose_spec (H j)) x i e,C9 X G z⟩⟩
noncomputable def Cl(P:Program)(w:World)(K:Frag)(mg:Str->Option Value)(base:Heap)(DD:DT)(k j:Nat)(m:Md)(S:aZ):Prop:=∃c n b,mg (Nd DD j)=some c/\d7 P w K mg base b c n (i0 K n m S)/\b<=k/\∀a P R,S a P R->a.length=n
noncomputable def EL(P:Program)(w:World)(K:Frag)(mg:Str->Option Value)(base:Heap)(DD:DT):List (Nat×Md×Nat)->List aZ->Prop
 |(j,m,k)::jE,S::Ss=>Cl P w K mg base DD k j m S/\EL P w K mg base DD jE Ss
 |[],_=>True
 |_::_,[]=>False
theorem Dc{k:Nat}:∀{a:List (Nat×Md×Nat)}{Ss:List aZ},EL P w K mg base DD a Ss->a.all (λy=>decide (y.2.2<=k))=true->Yd P w K mg base k (a.map λy=>Nd DD y.1) (a.map (·.2.1)) Ss
 |(j,m,k')::a,S::Ss,h,hk=>by rw[J9,Bi]at hk;obtain⟨f,n,k2,e,d,c,b⟩:=h.1;exact⟨⟨f,n,k2,e,d,DL c (Do hk.1),b⟩,Dc h.2 hk.2⟩
 |[],_,_,_=>trivial
 |_::_,[],h,_=>h.elim
noncomputable def Gn(K:Frag)(mg:Str->Option Value)(x:Str)(u:W):Prop:=(∃v z,mg x=some v/\RelV z v/\∀B H,Rep K B H u z)/\∀C,u=.cls C->sU K C
noncomputable def Xz(K:Frag)(mg:Str->Option Value):List Str->List W->Prop
 |x::gn,u::Gs=>Gn K mg x u/\Xz K mg gn Gs
 |[],_=>True
 |_::_,[]=>False
theorem Th{x:Str}{i:Int}(h:∃u,mg x=some u/\RelV (.int i) u):Gn K mg x (.int i):=by obtain⟨u,b,a⟩:=h;exact⟨⟨u,_,b,a,λ_ _=>by dsimp only[Rep]⟩,λC e=>by cases e⟩
theorem Jt{x:Str}{C:Addr}(h:mg x=some (.ref C))(e:sU K C):Gn K mg x (.cls C):=
 ⟨⟨_,.ref C,h,rfl,λ_ _=>by dsimp only[Rep]⟩,λa q=>by cases q;exact e⟩
theorem Bg:∀{gn:List Str}{Gs:List W},Xz K mg gn Gs->∀(j:Nat)(x:Str),gn[j]?=some x->Gn K mg x (j8 Gs j)
 |y::gn,u::Gs,h,0,x,e=>by
  cases e;exact h.1
 |y::gn,u::Gs,h,j+1,x,e=>Bg (gn:=gn) h.2 j x e
 |_::_,[],h,_,_,_=>h.elim
 |[],_,_,_,_,e=>by cases e
theorem XA{k:Nat}{a:List (Nat×Md×Nat)}{Ss:List aZ}{gn:List Str}{Gs:List W}(T:TT K mg tp DD ZZ)(h:EL P w K mg base DD a Ss)(b:a.all (λy=>decide (y.2.2<=k))=true)(g:Xz K mg gn Gs):Tab P w K mg base (a.map λy=>Nd DD y.1) gn ZZ (a.map (·.2.1)) [] (bV Ss) (j8 Gs) k:=
 ⟨λj x e _=>Bc (Dc h b) j x e,λ_ _ _ _ h=>(by cases h),λj x e=>(Bg g j x e).1,T.Z,wm K,λj x C e q=>(Bg g j x e).2 C q⟩
noncomputable def O3(ZZ:List Str)(st:Stmt)(a n:Nat)(M:Ms)(fn gn:List Str)(b:List Md)(d:List (Nat×Nat))(m:Md)(c:List CS):Bool:=
 decide (((aj st).kind=.function/\(aj st).isCoroutine=false/\(aj st).isGenerator=false/\(Yh st).Nodup/\(Yh st).take (C7 st).length=C7 st)/\(∀x∈C7 st,(aj st).names.lookup x=some .local\/(aj st).names.lookup x=some .cell)/\(∀y∈(aj st).names,y.2≠.free)/\(C7 st).length=a/\(Yh st).length=n/\(M.map (·.1)).Nodup)&&(M.all (λi=>decide (a<=i.1))&&!iD m&&fD ⟨Yh st,(aj st).names,M,fn,gn,ZZ,b,d⟩ (kj b) m c (aV st))
theorem Z9{e n j i:Nat}{x:Str}{M:Ms}{fn gn:List Str}{o:List Md}{l:List (Nat×Nat)}{m:Md}{c:List CS}{h:Nat->aZ}{G:Nat->W}{k:Nat}{S:aZ}(T:TT K mg tp DD ZZ)(s:DD[j]?=some (x,i))(g:O3 ZZ (tp i) e n M fn gn o l m c=true)(q:Tab P w K mg base fn gn ZZ o l h G k)(r:∀a P R,S a P R->a.length=e)(p:∀a Q R,S a Q R->wSs h G c (bK m Q R) (ak n a)):
 bN P w K mg base (ic P w) (k+1) (T.f j) (T.d j) (C7 (tp i)) (i0 K e m S):=by
 unfold O3 at g;rw[Bi,Bi,Bi]at g;obtain⟨y,⟨v,u⟩,t⟩:=g;obtain⟨⟨J,a2,a3,I,H⟩,E,C,A,z,B⟩:=Do y;have b:iD m=false:=by simpa using u
 subst A z;have:=Ig (T.D s).F ⟨J,a2,a3,I,H,E,C⟩ q c M m S v B b t r p;cases m<;>first|exact this|cases b
theorem zy{a j i k:Nat}{x:Str}{m:Md}{S:aZ}(T:TT K mg tp DD ZZ)(c:DD[j]?=some (x,i))(g:a=(C7 (tp i)).length)(F:bN P w K mg base (ic P w) k (T.f j) (T.d j) (C7 (tp i)) (i0 K a m S))(h:∀b P R,S b P R->b.length=a):Cl P w K mg base DD k j m S:=by
 have e:Nd DD j=x:=by unfold Nd;rw[c]
 unfold Cl;rw[e];exact(T.D c).jE F g h (Da k)
theorem Ti{a n:Nat}{st:Stmt}{M:Ms}{fn gn:List Str}{d:List Md}{b:List (Nat×Nat)}{m:Md}{c:List CS}(h:O3 ZZ st a n M fn gn d b m c=true):a=(C7 st).length:=by unfold O3 at h;rw[Bi]at h;exact(Do h.1).2.2.2.1.symm
theorem Ju{n j i:Nat}{x:Str}{Gs:List W}{m:Md}{c:List CS}{Ss:List aZ}{k:Nat}{S:aZ}(T:TT K mg tp DD ZZ)(q:DD[j]?=some (x,i))(e:Nat)(M:Ms)(b:List (Nat×Md×Nat))(gn:List Str)(p:∀a Q R,S a Q R->wSs (bV Ss) (j8 Gs) c (bK m Q R) (ak n a))(h:EL P w K mg base DD b Ss)(g:Xz K mg gn Gs)(l:(b.all (λy=>decide (y.2.2<=k))&&O3 ZZ (tp i) e n M (b.map λy=>Nd DD y.1) gn (b.map (·.2.1)) [] m c)=true)(o:∀a P R,S a P R->a.length=e):bN P w K mg base (ic P w) (k+1) (T.f j) (T.d j) (C7 (tp i)) (i0 K e m S):=by rw[Bi]at l;exact Z9 T q l.2 (XA T h l.1 g) o p
theorem Nh{n j i:Nat}{x:Str}{Gs:List W}{m:Md}{c:List CS}{Ss:List aZ}{k:Nat}{S:aZ}(T:TT K mg tp DD ZZ)(l:DD[j]?=some (x,i))(d:Nat)(M:Ms)(b:List (Nat×Md×Nat))(gn:List Str)(p:∀a Q R,S a Q R->wSs (bV Ss) (j8 Gs) c (bK m Q R) (ak n a))(h:EL P w K mg base DD b Ss)(g:Xz K mg gn Gs)(e:(b.all (λy=>decide (y.2.2<=k))&&O3 ZZ (tp i) d n M (b.map λy=>Nd DD y.1) gn (b.map (·.2.1)) [] m c)=true)(f:∀a P R,S a P R->a.length=d):Cl P w K mg base DD (k+1) j m S:=by have F:=Ju T l d M b gn p h g e f;rw[Bi]at e;exact zy T l (Ti e.2) F f
theorem eS{n j i:Nat}{x:Str}{m:Md}{c:List CS}{Ss:List aZ}{k:Nat}{S:aZ}(T:TT K mg tp DD ZZ)(g:DD[j]?=some (x,i))(d:Nat)(M:Ms)(b:List (Nat×Md×Nat))(p:∀a Q R,S a Q R->wSs (bV Ss) (j8 []) c (bK m Q R) (ak n a))(h:EL P w K mg base DD b Ss)(f:(b.all (λy=>decide (y.2.2<=k))&&O3 ZZ (tp i) d n M (b.map λy=>Nd DD y.1) [] (b.map (·.2.1)) [] m c)=true)(e:∀a P R,S a P R->a.length=d):Cl P w K mg base DD (k+1) j m S:=Nh T g d M b [] p h trivial f e
theorem pq{n j i:Nat}{x:Str}{m:Md}{c:List CS}{S:aZ}(T:TT K mg tp DD ZZ)(f:DD[j]?=some (x,i))(b:Nat)(M:Ms)(p:∀a Q R,S a Q R->wSs (bV []) (j8 []) c (bK m Q R) (ak n a))(e:O3 ZZ (tp i) b n M [] [] [] [] m c=true)(d:∀a P R,S a P R->a.length=b):Cl P w K mg base DD 1 j m S:=Nh (k:=0) T f b M [] [] p trivial trivial e d
theorem O4{k j i a:Nat}{x:Str}(T:TT K mg tp DD ZZ)(c:DD[j]?=some (x,i))(b:a=(C7 (tp i)).length):Cl P w K mg base DD k j .s W0:=zy T c b OO λ_ _ _ z=>z.elim
theorem mX{k j d:Nat}{m:Md}{S:aZ}(h:Cl P w K mg base DD k j m S)(f:k<=d):∃b n a,mg (Nd DD j)=some b/\d7 P w K mg base a b n (i0 K n m S)/\a<=d/\∀c P R,S c P R->c.length=n:=by obtain⟨b,n,e,o,l,i,g⟩:=h;exact⟨b,n,e,o,l,DL i f,g⟩
end
end VL
namespace NP
open PySem PySem.Spec
open PyProof.Rows hiding St
open L2 VL Num
set_option genInjectivity false
set_option genSizeOf false
noncomputable def top(i:Nat):Stmt:=PySem.Challenge.pw_paperwright_k14_whole_bare_parts.main.body.getD i (.Pass ⟨0,0,0,0⟩)
abbrev en(x:Str)(i:Nat):Str×Nat:=(x,i)
abbrev DD:DT:=[en "common" 4,en "gcd" 5,en "turn" 6,en "turned" 8,en "raised" 11,en "fraction" 22,en "cleared" 24,en "row_over" 25,en "trimmed" 26,en "scaled" 27,en "whole_plus" 28,en "whole_minus" 29,en "whole_times" 30,en "whole_slope" 31,en "whole_divided" 32,en "whole_over" 33,en "shortened" 34,en "next_height" 37,en "reduced" 39,en "inverse" 40,en "divided_by" 41,en "apart_by" 42,en "primitive" 44,en "bare_parts" 45,en "whole_divisor" 47,en "row_times" 49,en "_law_cell" 51,en "_law_drawn" 52,en "_law_gcd" 53,en "_law_lowest" 54,en "_law_number" 55,en "_law_whole" 56,en "_law_is_fraction" 57,en "_law_row" 58,en "_law_is_row" 59,en "_law_sum" 60,en "_law_product" 61,en "_law_cut" 62,en "_law_added" 63,en "_law_multiplied" 64,en "_law_only" 65,en "_law_rest" 66,en "_law_together" 67,en "_law_made" 68,en "_law_right" 69,en "_law_refused" 70,en "law" 71]
abbrev ZZ:List Str:=["ValueError","abs","all","any","bool","enumerate","int","isinstance","len","list","max","range","sum","tuple"]
abbrev ia:Stmt:=inClass (top 36) 0
abbrev dS:Stmt:=inClass (top 36) 1
abbrev dU:Stmt:=inClass (top 36) 2
abbrev jm:Stmt:=inClass (top 36) 3
abbrev fY:Stmt:=top 47
abbrev Jv:Stmt:=top 65
abbrev EM:Stmt:=top 70
theorem sj:cU ["self","one","other","factor"] ["self","one","other","factor"] (aj ia):=⟨rfl,rfl,rfl,by decide+kernel,rfl,by decide+kernel,by decide+kernel⟩
theorem tH:cU ["self","going"] ["self"] (aj dS):=⟨rfl,rfl,rfl,by decide+kernel,rfl,by decide+kernel,by decide+kernel⟩
theorem tK:cU ["self","quotient","rest","scale","factor","drop","known"] ["self"] (aj dU):=⟨rfl,rfl,rfl,by decide+kernel,rfl,by decide+kernel,by decide+kernel⟩
theorem oq:cU ["one","other","chain"] ["one","other"] (aj fY):=⟨rfl,rfl,rfl,by decide+kernel,rfl,by decide+kernel,by decide+kernel⟩
theorem xm:cU ["_law_e","_law_sort","_law_sorts"] ["_law_e","_law_sort"] (aj Jv):=⟨rfl,rfl,rfl,by decide+kernel,rfl,by decide+kernel,by decide+kernel⟩
theorem jj:cU ["_law_row_here","_law_caught","_law_e"] ["_law_row_here"] (aj EM):=⟨rfl,rfl,rfl,by decide+kernel,rfl,by decide+kernel,by decide+kernel⟩
structure Tx(K:Frag)(mg:Str->Option Value) extends TT K mg top DD ZZ where
 ay:Addr
 j7:Hc K mg "Chain" ay ["ahead","last","factor_ahead","factor_last","lead","height","sign","scale","known"]
 kF:Addr
 kG:FuncData
 eV:Dm K ay "__init__" "Chain.__init__" ia ["self","one","other","factor"] kF kG
 mY:Addr
 mZ:FuncData
 m5:Dm K ay "walk" "Chain.walk" dS ["self"] mY mZ
 m6:Addr
 m7:FuncData
 m8:Dm K ay "step" "Chain.step" dU ["self"] m6 m7
 pA:Addr
 pB:FuncData
 Fb:Dm K ay "outcome" "Chain.outcome" jm ["self"] pA pB
 Tj:∃u,mg "LONG"=some u/\RelV (.int 6000) u
 EN:∃u,mg "WITNESS"=some u/\RelV (.int 2147483647) u
 aR:Addr
 xo:mg "HouseError"=some (.ref aR)
 xq:sU K aR
 cT:Addr
 Bh:mg "NoNumber"=some (.ref cT)
 aI:Addr
 xr:mg "NoRow"=some (.ref aI)
 qj:sU K aI
 dw:Addr
 EO:mg "NoValue"=some (.ref dw)
 fH:Addr
 Jw:mg "NoText"=some (.ref fH)
 fJ:Addr
 Jx:mg "NoRoot"=some (.ref fJ)
 fK:Addr
 Jy:mg "TooFar"=some (.ref fK)
 fL:Addr
 Jz:mg "NoLine"=some (.ref fL)
 ou:kitOne K (.ref aI) (.ref cT)=some false
 tL:kitOne K (.ref aI) (.ref aI)=some true
 pC:kitOne K (.ref aI) (.ref dw)=some false
 su:kitOne K (.ref aI) (.ref fH)=some false
 sA:kitOne K (.ref aI) (.ref fJ)=some false
 sC:kitOne K (.ref aI) (.ref fK)=some false
 sD:kitOne K (.ref aI) (.ref fL)=some false
 lE:kitOne K (.ref aI) (.type "ValueError")=some true
 c9:mroIn K aI (.ref aR)=some true
section
variable{P:Program}{w:World}{K:Frag}{mg:Str->Option Value}{base:Heap}
theorem JA(T:Tx K mg):Cl P w K mg base DD 2 1 .s IB:=
 Nh (Ss:=[W0,W0]) T.toTT rfl 2 [] [(3,.s,1),(2,.s,1)] ["LONG"] Xa ⟨O4 T.toTT rfl rfl,O4 T.toTT rfl rfl,trivial⟩ ⟨Th T.Tj,trivial⟩ (by decide+kernel) (by walk_at "l")
theorem zA(T:Tx K mg):Cl P w K mg base DD 1 4 .s qd:=
 pq T.toTT rfl 2 [] Iw (by decide+kernel) (by walk_at "l")
theorem Bj(T:Tx K mg):Cl P w K mg base DD 3 5 .s nX:=
 eS T.toTT rfl 2 [] [(1,.s,2)] AW ⟨JA T,trivial⟩ (by decide+kernel) (by walk_at "l")
theorem uQ(T:Tx K mg):Cl P w K mg base DD 3 6 .s mT:=
 eS T.toTT rfl 1 [] [(1,.s,2)] ED ⟨JA T,trivial⟩ (by decide+kernel) (by walk_at "l")
theorem iJ(T:Tx K mg):Cl P w K mg base DD 1 8 .f gC:=
 pq T.toTT rfl 1 [] EC (by decide+kernel) (by walk_at "l")
theorem sE(T:Tx K mg):Cl P w K mg base DD 4 7 .f j4:=
 eS T.toTT rfl 2 [] [(8,.f,1),(5,.s,3)] AY ⟨iJ T,Bj T,trivial⟩ (by decide+kernel) (by walk_at "l")
theorem sF(T:Tx K mg):Cl P w K mg base DD 1 9 .f mR:=
 pq T.toTT rfl 2 [] Ij (by decide+kernel) (by walk_at "l")
theorem xu(T:Tx K mg):Cl P w K mg base DD 2 10 .f jF:=
 eS T.toTT rfl 2 [(3,.f)] [(8,.f,1)] wL ⟨iJ T,trivial⟩ (by decide+kernel) (by walk_at "l")
theorem tM(T:Tx K mg):Cl P w K mg base DD 3 11 .f jd:=
 eS T.toTT rfl 2 [] [(10,.f,2),(9,.f,1)] tw ⟨xu T,sF T,trivial⟩ (by decide+kernel) (by walk_at "l")
theorem kH(T:Tx K mg):Cl P w K mg base DD 1 12 .f gb:=
 pq T.toTT rfl 2 [(2,.f)] tD (by decide+kernel) (by walk_at "l")
theorem tN(T:Tx K mg):Cl P w K mg base DD 1 13 .f ji:=
 pq T.toTT rfl 1 [] tG (by decide+kernel) (by walk_at "l")
theorem pD(T:Tx K mg):Cl P w K mg base DD 2 14 .s gE:=
 eS T.toTT rfl 2 [(4,.f),(5,.f)] [(9,.f,1),(8,.f,1)] o9 ⟨sF T,iJ T,trivial⟩ (by decide+kernel) (by walk_at "l")
theorem xw(T:Tx K mg):Cl P w K mg base DD 1 15 .f jL:=
 pq T.toTT rfl 2 [(3,.f),(4,.f)] wO (by decide+kernel) (by walk_at "l")
theorem oQ(T:Tx K mg):Cl P w K mg base DD 3 16 .s gD:=
 eS T.toTT rfl 1 [] [(1,.s,2)] yY ⟨JA T,trivial⟩ (by decide+kernel) (by walk_at "l")
theorem tO(T:Tx K mg):Cl P w K mg base DD 2 17 .s je:=
 eS T.toTT rfl 3 [] [(4,.s,1)] tE ⟨zA T,trivial⟩ (by decide+kernel) (by walk_at "l")
theorem zC(T:Tx K mg):Cl P w K mg base DD 4 22 .s lz:=
 eS T.toTT rfl 1 [] [(6,.s,3),(16,.s,3)] yZ ⟨uQ T,oQ T,trivial⟩ (by decide+kernel) (by walk_at "l")
theorem zD(T:Tx K mg):Cl P w K mg base DD 5 25 .f gF:=
 eS T.toTT rfl 2 [] [(6,.s,3),(7,.f,4),(12,.f,1)] zj ⟨uQ T,sE T,kH T,trivial⟩ (by decide+kernel) (by walk_at "l")
theorem tQ(T:Tx K mg):bN P w K mg base (ic P w) 1 T.kF T.kG ["self","one","other","factor"] (IK T.ay):=by
 have g:=T.j7.ok.1;have d:=T.j7.ok.2.2.2;refine T.eV.F.XQ sj (λn H Q E h=>?_) (λv A k s H n Q E y h=>?_)
 .obtain⟨x,a,t,r,p,rfl,_⟩:=h;rfl
 obtain⟨x,a,t,r,p,rfl,u,q⟩:=h;refine⟨_,(@cu _ _ _ _ _ (gQ (pv 0) (pv 1) rfl)
  (@cu _ _ _ _ _ (gQ (pv 0) (pv 2) rfl)
  (@cu _ _ _ _ _ (gQ (pv 0) (pv 3) rfl)
  (@cu _ _ _ _ _ (gQ (pv 0) (qu bF) rfl)
  (@cu _ _ _ _ _ (gQ (pv 0) iL rfl)
  (@cu _ _ _ _ _ (gQ (pv 0) iL rfl)
  (@cu _ _ _ _ _ (gQ (pv 0) iL rfl)
  (@cu _ _ _ _ _ (gQ (pv 0) iL rfl)
  (jT (gQ (pv 0) iL rfl)))))))))),?_⟩
 refine⟨_,rfl,_,rfl,x,T.ay,a,_,rfl,u,g,d "ahead" (by decide),by show 0<1000;decide,?_⟩;refine⟨_,rfl,_,rfl,x,T.ay,a,_,rfl,aA,g,d "last" (by decide),by show 1<1000;decide,?_⟩;refine⟨_,rfl,_,rfl,x,T.ay,a,_,rfl,aA,g,d "factor_ahead" (by decide),by show 2<1000;decide,?_⟩;refine⟨ie (by simp),λj i=>?_⟩;have c:j≠x:=λe=>by rw[e,aA]at i;cases i
 refine⟨_,rfl,x,T.ay,a,_,rfl,x6 aA i,g,d "factor_last" (by decide),by show 3<1000;decide,?_⟩;refine⟨_,rfl,x,T.ay,a,_,rfl,aA,g,d "lead" (by decide),by show 4<1000;decide,?_⟩;refine⟨_,rfl,x,T.ay,a,_,rfl,aA,g,d "height" (by decide),by show 5<1000;decide,?_⟩;refine⟨_,rfl,x,T.ay,a,_,rfl,aA,g,d "sign" (by decide),by show 6<1000;decide,?_⟩;refine⟨_,rfl,x,T.ay,a,_,rfl,aA,g,d "scale" (by decide),by show 7<1000;decide,?_⟩;refine⟨_,rfl,x,T.ay,a,_,rfl,aA,g,d "known" (by decide),by show 8<1000;decide,?_⟩;rw[aq c,aq c,aq c]at i;refine q j _ (λb o f m=>?_) i ?_ aA
 .have l:b≠j:=aO m i;rw[aq f,aq f,aq f,aq f,aq f,aq f,aq l,aq f,aq f,aq f];exact m
 .rw[aq c,aq c,aq c,aq c,aq c,aq c,aA]
theorem Ni(T:Tx K mg):d7 P w K mg base 2 (.ref T.ay) 3 (i0 K 3 jn (wU T.ay)):=
 A6 T.j7.ok ⟨T.j7.mks,T.eV.M.1,T.eV.M.fn,T.j7.kp⟩ T.eV.b (tQ T)
theorem xx:fD ⟨["self","quotient","rest","scale","factor","drop","known"],(aj dU).names,[(0,jn)],["whole_divided","whole_minus","scaled","whole_times","raised","next_height"],[],["len"],[.s,.f,.f,.f,.s,.s],[]⟩ (kj [.s,.f,.f,.f,.s,.s]) (.io jn) dO (aV dU)=true:=by decide+kernel
theorem xy(T:Tx K mg):bN P w K mg base (ic P w) 4 T.m6 T.m7 ["self"] (i0 K 1 (.io jn) (ze T.ay)):=
 CN T.m8.F tK (tab_of (k:=3) (by exact⟨mX (pD T) (by decide),mX (tM T) (by decide),mX (sF T) (by decide),mX (kH T) (by decide),mX (zA T) (by decide),mX (tO T) (by decide),trivial⟩) (by exact⟨T.Z "len" (by decide),trivial⟩)) dO [(0,jn)] jn (ze T.ay) (by decide) (by decide) (by decide) (by decide) xx (by walk_at "l") wQ
theorem xA:fD ⟨["self","going"],(aj dS).names,[(0,jn)],["step"],[],["len"],[(.io jn)],[(0,0)]⟩ (kj [(.io jn)]) (.io jn) dP (aV dS)=true:=by decide+kernel
theorem xB(T:Tx K mg):Tab P w K mg base ["step"] [] ["len"] [(.io jn)] [(0,0)] (bV [(ze T.ay)]) (j8 [(.cls T.ay)]) 4:=by
 refine⟨λj x e h=>?_,λj g x e h=>?_,λj x e=>?_,?_,wm K,λj x C e h=>?_⟩
 .match j,e with
  |0,e=>cases h
  |_+1,e=>simp at e
 .simp only[Fn,dt,wx,dy]at h;rcases h with⟨rfl,rfl⟩
  .cases e;exact T.m8.jE (m:=(.io jn)) (xy T) (by walk_at "l") (by decide) rfl
 .match j,e with
  |_+0,e=>simp at e
 .intro x h;simp only[Fn,dt,wx]at h;rcases h with rfl
  .exact T.Z "len" (by decide)
 .match j,e with
  |_+0,e=>simp at e
theorem xC(T:Tx K mg):bN P w K mg base (ic P w) 5 T.mY T.mZ ["self"] (i0 K 1 (.io jn) (zh T.ay)):=
 CN T.m5.F tH (xB T) dP [(0,jn)] jn (zh T.ay) (by decide) (by decide) (by decide) (by decide) xA (by walk_at "l") wR
theorem JB(T:Tx K mg):Cl P w K mg base DD 1 0 .s wW:=
 pq T.toTT rfl 2 [] IP (by decide+kernel) (by walk_at "l")
theorem ES(T:Tx K mg):Cl P w K mg base DD 2 19 .s rZ:=
 eS T.toTT rfl 2 [] [(0,.s,1)] EG ⟨JB T,trivial⟩ (by decide+kernel) (by walk_at "l")
theorem ET(T:Tx K mg):Cl P w K mg base DD 2 18 .s mV:=
 eS T.toTT rfl 2 [] [(8,.f,1)] EH ⟨iJ T,trivial⟩ (by decide+kernel) (by walk_at "l")
theorem xD(T:Tx K mg):Cl P w K mg base DD 3 20 .s jN:=
 eS T.toTT rfl 3 [(5,.f),(6,.f)] [(19,.s,2),(8,.f,1)] wX ⟨ES T,iJ T,trivial⟩ (by decide+kernel) (by walk_at "l")
theorem Bk(T:Tx K mg):Cl P w K mg base DD 4 21 .s j6:=
 eS T.toTT rfl 3 [] [(20,.s,3)] Ba ⟨xD T,trivial⟩ (by decide+kernel) (by walk_at "l")
theorem oz:fD ⟨["one","other","chain"],(aj fY).names,[(2,jn)],["whole_divisor","apart_by","reduced","Chain","walk","shortened"],["WITNESS"],["len"],[.s,.s,.s,jn,(.io jn),.s],[(4,1)]⟩ (kj [.s,.s,.s,jn,(.io jn),.s]) .s zo (aV fY)=true:=by decide+kernel
theorem oA(T:Tx K mg):Tab P w K mg base ["whole_divisor","apart_by","reduced","Chain","walk","shortened"] ["WITNESS"] ["len"] [.s,.s,.s,jn,(.io jn),.s] [(4,1)] (bV [W0,j6,mV,(wU T.ay),(zh T.ay),gD]) (j8 [(.int 2147483647),(.cls T.ay)]) 5:=by
 refine⟨λj x e h=>?_,λj g x e h=>?_,λj x e=>?_,?_,wm K,λj x C e h=>?_⟩
 .match j,e with
  |0,e=>cases e;exact(T.D (j:=24) rfl).jE (m:=.s) (OO (k:=1)) rfl (by walk_at "l") (by decide)
  |1,e=>cases e;exact mX (Bk T) (by decide)
  |2,e=>cases e;exact mX (ET T) (by decide)
  |3,e=>cases e;exact⟨_,_,2,T.j7.c,Ni T,by decide,by walk_at "l"⟩
  |4,e=>cases h
  |5,e=>cases e;exact mX (oQ T) (by decide)
  |_+6,e=>simp at e
 .simp only[Fn,dt,wx,dy]at h;rcases h with⟨rfl,rfl⟩
  .cases e;exact T.m5.jE (m:=(.io jn)) (xC T) (by walk_at "l") (by decide) rfl
 .match j,e with
  |0,e=>cases e;obtain⟨u,b,a⟩:=T.EN;exact⟨u,_,b,a,λ_ _=>by show Rep _ _ _ (.int 2147483647) _;dsimp only[Rep]⟩
  |_+1,e=>simp at e
 .intro x h;simp only[Fn,dt,wx]at h;rcases h with rfl
  .exact T.Z "len" (by decide)
 .match j,e with
  |0,e=>cases h
  |_+1,e=>simp at e
theorem iK(T:Tx K mg):bN P w K mg base (ic P w) 6 (T.f 24) (T.d 24) ["one","other"] (i0 K 2 .s Bb):=
 Ig (T.D (j:=24) rfl).F oq (oA T) zo [(2,jn)] .s Bb (by decide) (by decide) rfl oz C2 Xk
theorem oB(T:Tx K mg):bN P w K mg base (ic P w) 7 (T.f 24) (T.d 24) ["one","other"] (i0 K 2 .s IU):=
 Ju (j:=24) (k:=6) (m:=.s) (Gs:=[]) T.toTT rfl 2 [(2,jn)] [(24,.s,6)] [] Xl ⟨(zy T.toTT rfl rfl (iK T) C2),trivial⟩ trivial (by decide+kernel) MX
theorem oE(T:Tx K mg):bN P w K mg base (ic P w) 1 (T.f 24) (T.d 24) ["one","other"] (i0 K 2 .s EJ):=
 Ju (j:=24) (k:=0) (m:=.s) (Ss:=[]) (Gs:=[]) T.toTT rfl 2 [(2,jn)] [] [] Xo trivial trivial (by decide+kernel) MY
theorem pG(T:Tx K mg):bN P w K mg base (ic P w) 7 (T.f 24) (T.d 24) ["one","other"] (i0 K 2 .s zq):=
 MZ (Xm (iK T) (oB T) (by decide) (by decide)) (oE T) (Da 7) (by decide)
theorem xE(T:Tx K mg):Cl P w K mg base DD 8 23 (.ls (.t [.f,.s])) qh:=
 Nh T.toTT rfl 1 [(4,(.ls (.t [.f,.s])))] [(22,.s,4),(24,.s,7),(13,.f,1),(15,.f,1),(7,.f,4)] ["NoRow"] Jb ⟨zC T,(zy T.toTT rfl rfl (pG T) Jc),tN T,xw T,sE T,trivial⟩ ⟨Jt T.xr T.qj,trivial⟩ (by decide+kernel) (by walk_at "l")
theorem tR(T:Tx K mg):bN P w K mg base (ic P w) 1 (T.f 23) (T.d 23) ["row"] (i0 K 1 .s (Jq T.aI)):=
 Ju (j:=23) (k:=0) (m:=.s) (Ss:=[]) T.toTT rfl 1 [] [] ["NoRow"] Na trivial ⟨Jt T.xr T.qj,trivial⟩ (by decide+kernel) (by walk_at "l")
theorem To(T:Tx K mg):Cl P w K mg base DD 1 26 .s IL:=
 pq T.toTT rfl 2 [] SY (by decide+kernel) (by walk_at "l")
theorem Dd(T:Tx K mg):Cl P w K mg base DD 1 27 .f wJ:=
 pq T.toTT rfl 2 [(5,.f)] MR (by decide+kernel) (by walk_at "l")
theorem De(T:Tx K mg):Cl P w K mg base DD 1 28 .s CT:=
 pq T.toTT rfl 2 [] MO (by decide+kernel) (by walk_at "l")
theorem m9(T:Tx K mg):Cl P w K mg base DD 2 29 .s j3:=
 eS T.toTT rfl 2 [] [(28,.s,1)] Ik ⟨De T,trivial⟩ (by decide+kernel) (by walk_at "l")
theorem zE(T:Tx K mg):Cl P w K mg base DD 3 30 .s qb:=
 eS T.toTT rfl 4 [] [(29,.s,2)] Ir ⟨m9 T,trivial⟩ (by decide+kernel) (by walk_at "l")
theorem Dg(T:Tx K mg):Cl P w K mg base DD 1 31 .s rW:=
 pq T.toTT rfl 1 [] MU (by decide+kernel) (by walk_at "l")
theorem tS(T:Tx K mg):Cl P w K mg base DD 2 32 .s jg:=
 eS T.toTT rfl 1 [] [(31,.s,1),(28,.s,1)] tF ⟨Dg T,De T,trivial⟩ (by decide+kernel) (by walk_at "l")
theorem XC(T:Tx K mg):Cl P w K mg base DD 4 33 .f SM:=
 eS T.toTT rfl 3 [(4,.f)] [(27,.f,1),(30,.s,3)] W7 ⟨Dd T,zE T,trivial⟩ (by decide+kernel) (by walk_at "l")
theorem JC(T:Tx K mg):Cl P w K mg base DD 3 34 .s qg:=
 eS T.toTT rfl 1 [] [(32,.s,2)] IM ⟨tS T,trivial⟩ (by decide+kernel) (by walk_at "l")
theorem v_sum(T:Tx K mg):Cl P w K mg base DD 3 35 .s (tu ZL):=
 eS T.toTT rfl 2 [] [(29,.s,2)] W3 ⟨m9 T,trivial⟩ (by decide+kernel) (by walk_at "l")
theorem oF(T:Tx K mg):Cl P w K mg base DD 3 36 .s (tu R0):=
 eS T.toTT rfl 2 [] [(29,.s,2)] EA ⟨m9 T,trivial⟩ (by decide+kernel) (by walk_at "l")
theorem v_cut(T:Tx K mg):Cl P w K mg base DD 1 37 .f MP:=
 pq T.toTT rfl 1 [(1,.f)] W4 (by decide+kernel) (by walk_at "l")
theorem Nj(T:Tx K mg):Cl P w K mg base DD 4 38 .f AV:=
 eS T.toTT rfl 3 [(3,.f)] [(35,.s,3),(37,.f,1)] MQ ⟨v_sum T,v_cut T,trivial⟩ (by decide+kernel) (by walk_at "l")
theorem nh(T:Tx K mg):Cl P w K mg base DD 4 39 .f dj:=
 eS T.toTT rfl 2 [(2,.f)] [(35,.s,3),(36,.s,3),(37,.f,1)] wF ⟨v_sum T,oF T,v_cut T,trivial⟩ (by decide+kernel) (by walk_at "l")
theorem Tp(T:Tx K mg):Cl P w K mg base DD 5 41 .s wZ:=
 eS T.toTT rfl 2 [] [(36,.s,3),(29,.s,2),(38,.f,4)] Je ⟨oF T,m9 T,Nj T,trivial⟩ (by decide+kernel) (by walk_at "l")
theorem Bm(T:Tx K mg):Cl P w K mg base DD 6 42 .s w6:=
 eS T.toTT rfl 2 [] [(41,.s,5)] M1 ⟨Tp T,trivial⟩ (by decide+kernel) (by walk_at "l")
theorem Tq(T:Tx K mg):Cl P w K mg base DD 5 43 .s qi:=
 eS T.toTT rfl 2 [] [(27,.f,1),(26,.s,1),(30,.s,3),(33,.f,4),(39,.f,4)] Jk ⟨Dd T,To T,zE T,XC T,nh T,trivial⟩ (by decide+kernel) (by walk_at "l")
theorem Nk(T:Tx K mg):Cl P w K mg base DD 7 44 .s mW:=
 eS T.toTT rfl 2 [(3,.f)] [(34,.s,3),(31,.s,1),(39,.f,4),(42,.s,6),(36,.s,3)] EK ⟨JC T,Dg T,nh T,Bm T,oF T,trivial⟩ (by decide+kernel) (by walk_at "l")
noncomputable def O5(T:Tx K mg)(C:Addr)(k:Int):Prop:=sU K C/\kitOne K (.ref C) (.ref T.cT)=some (decide ((0:Int)=k))/\kitOne K (.ref C) (.ref T.aI)=some (decide ((1:Int)=k))/\kitOne K (.ref C) (.ref T.dw)=some (decide ((2:Int)=k))/\kitOne K (.ref C) (.ref T.fH)=some (decide ((3:Int)=k))/\
 kitOne K (.ref C) (.ref T.fJ)=some (decide ((4:Int)=k))/\kitOne K (.ref C) (.ref T.fK)=some (decide ((5:Int)=k))/\kitOne K (.ref C) (.ref T.fL)=some (decide ((6:Int)=k))/\kitOne K (.ref C) (.type "ValueError")=some true
@[irreducible] noncomputable def sG(T:Tx K mg):Sp:=λc H Q _=>∃(a C:Addr)(k:Int),c=[.ref a,.int k]/\H a=some (DK a C)/\O5 T C k/\∀b,aE H b->Q (.bl true) b
theorem EU{T:Tx K mg}{vs:List V}{H:Hp}{Q:VK}{E:XK}(h:∃(a C:Addr)(k:Int),vs=[.ref a,.int k]/\H a=some (DK a C)/\O5 T C k/\∀H',aE H H'->Q (.bl true) H'):sG T vs H Q E:=by unfold sG;exact h
theorem Nl(T:Tx K mg):bN P w K mg base KH 1 (T.f 40) (T.d 40) ["_law_e","_law_sort"] (sG T):=by
 refine(T.D (j:=40) rfl).F.ok xm (λvs H Q E h=>?_) (λcdv A M s H vs Q E hr h=>?_)
 .unfold sG at h;obtain⟨a,C,k,rfl,_⟩:=h;rfl
 unfold sG at h;obtain⟨a,C,k,rfl,t,⟨b,k0,k1,k2,k3,k4,k5,k6,kv⟩,q⟩:=h;have hb:([decide ((0:Int)=k),decide ((1:Int)=k),decide ((2:Int)=k),decide ((3:Int)=k),decide ((4:Int)=k),decide ((5:Int)=k),decide ((6:Int)=k)]:List Bool)=(D2 7).map λj:Nat=>decide ((j:Int)=k):=rfl;generalize decide ((0:Int)=k)=l at*;generalize decide ((1:Int)=k)=g at*;generalize decide ((2:Int)=k)=e at*;generalize decide ((3:Int)=k)=c at*;generalize decide ((4:Int)=k)=r at*;generalize decide ((5:Int)=k)=p at*;generalize decide ((6:Int)=k)=o at*;refine⟨_,(@cu _ _ _ _ _ (iO (i:=2) xm.nd rfl (by first|exact Qd rfl|exact Pv rfl) (qu (aF (c6 cP (by rfl) (T.Z "isinstance" (by decide)) (by rfl) (aF (pv 0) (aF (gI (v:=.ref T.cT) rfl T.Bh rfl) bF))) (aF (c6 cP (by rfl) (T.Z "isinstance" (by decide)) (by rfl) (aF (pv 0) (aF (gI (v:=.ref T.aI) rfl T.xr rfl) bF))) (aF (c6 cP (by rfl) (T.Z "isinstance" (by decide)) (by rfl) (aF (pv 0) (aF (gI (v:=.ref T.dw) rfl T.EO rfl) bF))) (aF (c6 cP (by rfl) (T.Z "isinstance" (by decide)) (by rfl) (aF (pv 0) (aF (gI (v:=.ref T.fH) rfl T.Jw rfl) bF))) bF))))))
  (@cu _ _ _ _ _ (iO (i:=2) xm.nd rfl (by first|exact Qd rfl|exact Pv rfl) (UU P6 (pv 2) (qu (aF (c6 cP (by rfl) (T.Z "isinstance" (by decide)) (by rfl) (aF (pv 0) (aF (gI (v:=.ref T.fJ) rfl T.Jx rfl) bF))) (aF (c6 cP (by rfl) (T.Z "isinstance" (by decide)) (by rfl) (aF (pv 0) (aF (gI (v:=.ref T.fK) rfl T.Jy rfl) bF))) (aF (c6 cP (by rfl) (T.Z "isinstance" (by decide)) (by rfl) (aF (pv 0) (aF (gI (v:=.ref T.fL) rfl T.Jz rfl) bF))) bF))))))
  (jT (ny (zM (c6 cP (by rfl) (T.Z "isinstance" (by decide)) (by rfl) (aF (pv 0) (aF (Bw (v:=.ty "ValueError") (u:=.type "ValueError") (by rfl) (T.Z "ValueError" (by decide)) (by rfl) rfl) bF))) (uS (uU (KU hr.units) (pv 2) (u7 ["_law_k"] ["_law_e","_law_sort","_law_sorts"] rfl (by show d8 _ (aj Jv) ["_law_e","_law_sort","_law_sorts"] ["_law_e","_law_sort","_law_sorts"] ["_law_k"]=true;decide+kernel) (ue rfl (T.Z "range" (by decide)) (aF iL bF)) (λ_ _ _ _=>(By (i:=0) (show List.Nodup ((["_law_k"]:List Str)++(["_law_e","_law_sort","_law_sorts"]:List Str)) by decide+kernel) rfl (Qd rfl) (Pv rfl))) (λ_ _ _ _=>F9) (λ_ _ _ _=>(uU NY (pv 0) (pv 2) (uT _)))) (uT _)))))))),?_⟩
 refine⟨_,rfl,a,C,_,_,_,rfl,t,b,.own _,k0,?_⟩;refine⟨_,rfl,a,C,_,_,_,rfl,t,b,.own _,k1,?_⟩;refine⟨_,rfl,a,C,_,_,_,rfl,t,b,.own _,k2,?_⟩;refine⟨_,rfl,a,C,_,_,_,rfl,t,b,.own _,k3,?_⟩;refine⟨ie (by simp),λJ R=>?_⟩;have U:=aL R (.lst [V.bl l,V.bl g,V.bl e,V.bl c]);have e1:upd H J (.lst [V.bl l,V.bl g,V.bl e,V.bl c]) J=some (.lst [V.bl l,V.bl g,V.bl e,V.bl c]):=aA;generalize upd H J (.lst [V.bl l,V.bl g,V.bl e,V.bl c])=S at*;have m:=U _ _ t;refine⟨_,rfl,?_⟩;refine⟨_,rfl,a,C,_,_,_,rfl,m,b,.own _,k4,?_⟩;refine⟨_,rfl,a,C,_,_,_,rfl,m,b,.own _,k5,?_⟩;refine⟨_,rfl,a,C,_,_,_,rfl,m,b,.own _,k6,?_⟩;refine⟨ie (by simp),λI B=>?_⟩;refine⟨J,I,_,_,rfl,rfl,x6 e1 B,aA,ie (by simp),λy O=>?_⟩;have x:aE H (upd (upd S I (.lst [V.bl r,V.bl p,V.bl o])) y (.lst ([V.bl l,V.bl g,V.bl e,V.bl c]++[V.bl r,V.bl p,V.bl o]))):=U.trans ((aL B _).trans (aL O _));have h3:upd (upd S I (.lst [V.bl r,V.bl p,V.bl o])) y (.lst ([V.bl l,V.bl g,V.bl e,V.bl c]++[V.bl r,V.bl p,V.bl o])) y=some (.lst ([l,g,e,c,r,p,o].map V.bl)):=aA;generalize upd (upd S I (.lst [V.bl r,V.bl p,V.bl o])) y (.lst ([V.bl l,V.bl g,V.bl e,V.bl c]++[V.bl r,V.bl p,V.bl o]))=H3 at*;refine⟨_,rfl,a,C,_,_,_,rfl,x _ _ t,b,.ty _,kv,?_⟩
 repeat refine⟨_,rfl,?_⟩
 refine⟨by decide,by decide,λD Y=>Af (n:=7) (λi G L=>i<=7/\aE H3 L/\L D=some (.lst G)/\G=(((D2 i).map λj:Nat=>decide ((j:Int)=k)).map V.bl)) ?_ ?_ ?_⟩
 .exact⟨by decide,aL Y _,aA,rfl⟩
 .rintro i G L X ⟨_,sm,N,rfl⟩;refine⟨_,rfl,_,rfl,rfl,?_⟩;refine Vm X N (by rw[AN,AN,SF];exact DJ (by omega)) ⟨X,FZ sm Y _,aA,?_⟩;rw[eG,T1,T1];congr 1;show[V.bl (decide (V.int (0+(i:Int))=V.int k))]=[V.bl (decide ((i:Int)=k))];congr 2;rw[pd];by_cases h:(i:Int)=k
  .rw[IH h,IH (PQ V.int h)]
  .rw[Pi h,Pi (λz=>h (V.int.inj z))]
 .rintro G L ⟨_,sm,N,rfl⟩;refine⟨y,D,_,_,rfl,rfl,iN.of (sm _ _ h3),iN.of N,?_⟩;rw[IH hb];exact q _ (x.trans sm)
theorem EV(T:Tx K mg):bN P w K mg base (ic P w) 2 (T.f 45) (T.d 45) ["_law_row_here"] (i0 K 1 .s lD):=by
 refine(T.D (j:=45) rfl).F.XQ jj (λe H Q E h=>?_) (λv A g s H e Q E n h=>?_)
 .obtain⟨A,o,P1,R,l,r,_⟩:=h;exact r.len.trans l
 obtain⟨y,o,P1,R,l,r,d,⟨rfl,q⟩,c,_⟩:=h;obtain⟨k,rfl⟩:∃k,e=[k]:=by have:=r.len;rcases e with _|⟨a,_|⟨b,t⟩⟩<;>simp at this;exact⟨a,rfl⟩
 refine⟨_,(@cu _ _ _ _ _ (iO (i:=1) jj.nd rfl (by first|exact Qd rfl|exact Pv rfl) zL)
  (@cu _ _ _ _ _ (P9 (i:=2) ⟨rfl,rfl⟩ jj.nd rfl rfl rfl T.xo T.xq (KL (tR T) (n.mono (by omega)) rfl (T.D (j:=23) rfl).m (T.D (j:=23) rfl).F.kp (T.D (j:=23) rfl).b (aF (pv 0) bF)) (λ_=>(jT (iO (i:=1) jj.nd rfl (by first|exact Qd rfl|exact Pv rfl) (pv 2)))))
  (jT (ny (zM (uU BE (pv 1) zL (uT _)) (uS (Kq (Nl T) (n.mono (by omega)) rfl (T.D (j:=40) rfl).m (T.D (j:=40) rfl).F.kp (T.D (j:=40) rfl).b .nil Vh (aF (pv 1) (aF iL bF))))))))),?_⟩
 refine⟨_,rfl,?_⟩;refine⟨y,_,λ_=>False,λC=>C=T.aI,rfl,r,d,⟨rfl,rfl⟩,λ_ _ _ z=>z.elim,?_⟩;rintro C B rfl p;refine⟨_,rfl,T.qj,T.c9,λa u=>?_⟩;refine⟨_,rfl,?_⟩;refine⟨_,rfl,rfl,?_⟩;refine⟨_,rfl,?_⟩;rw[Bz (by rfl)];refine⟨_,rfl,?_⟩;refine EU ⟨a,T.aI,1,rfl,aA,⟨T.qj,T.ou,T.tL,T.pC,T.su,T.sA,T.sC,T.sD,T.lE⟩,λx sm=>c _ _ x q (p.trans ((aL u _).trans sm)) (.of (by dsimp only[Rep]))⟩
theorem XD(T:Tx K mg):bN P w K mg base (ic P w) 9 (T.f 46) (T.d 46) ["_law_script"] (i0 K 1 .s SI):=
 Ju (j:=46) (k:=8) (m:=.s) (Gs:=[]) T.toTT rfl 1 [(4,(.ls (.t [.f,.s])))] [(43,.s,5),(23,(.ls (.t [.f,.s])),8),(44,.s,7),(45,.s,2),(25,.f,5)] [] Nc ⟨Tq T,xE T,Nk T,(zy T.toTT rfl rfl (EV T) (by walk_at "l")),zD T,trivial⟩ trivial (by decide+kernel) (by walk_at "l")
end
theorem Uy{K:Frag}{x:Str}{st:Stmt}{f:Addr}{g m:Option Addr}{d:Array (Option Value)}{h kV i e b j:Value}(a:nsIn K mainGlobals x=some (some (.ref f)))(l:K.lookup f=some ⟨h,g,.func (fnOf x x (cC st) (aV st) (aj st) .none kV i e m b j),d⟩)(c:codeIn K b x=true)(k:keepIn K (.ref f)=true):Hd K x st:=⟨f,g,m,d,h,kV,i,e,b,j,a,l,c,k⟩
theorem Uz{K:Frag}{C:Addr}{x q:Str}{st:Stmt}{f:Addr}{g n:Option Addr}{d:Array (Option Value)}{h kV j e b m:Value}(a:findIn K (.ref C) x=some (some (.ref f)))(i:isFn K (.ref f)=true)(l:K.lookup f=some ⟨h,g,.func (fnOf x q (cC st) (aV st) (aj st) .none kV j e n b m),d⟩)(c:codeIn K b q=true)(k:keepIn K (.ref f)=true):Hm K C x q st:=⟨f,g,n,d,h,kV,j,e,b,m,a,i,l,c,k⟩
theorem J6{x q:Str}{st:Stmt}{i:Str}(h:∀(kV a d:Value)(g:Option Addr)(b f c:Value),bindArgs (fnOf x q (cC st) (aV st) (aj st) .none kV a d g b f) ⟨[c],[]⟩=pure ([i].zip [c])):i7 x q st [i]:=λkV a d g b f l k=>by obtain⟨c,j,rfl,e⟩:=sZ k;cases Hn.mp e;exact h kV a d g b f c
theorem Yj{x q:Str}{st:Stmt}{l k:Str}(h:∀(kV a e:Value)(j:Option Addr)(b i d c:Value),bindArgs (fnOf x q (cC st) (aV st) (aj st) .none kV a e j b i) ⟨[d,c],[]⟩=pure ([l,k].zip [d,c])):i7 x q st [l,k]:=λkV a e j b i p o=>by obtain⟨d,n,rfl,g⟩:=sZ o;obtain⟨c,m,rfl,f⟩:=sZ g;cases Hn.mp f;exact h kV a e j b i d c
theorem Yk{x q:Str}{st:Stmt}{m l p2:Str}(h:∀(kV a e:Value)(k:Option Addr)(b j d c a2:Value),bindArgs (fnOf x q (cC st) (aV st) (aj st) .none kV a e k b j) ⟨[d,c,a2],[]⟩=pure ([m,l,p2].zip [d,c,a2])):i7 x q st [m,l,p2]:=λkV a e k b j s r=>by obtain⟨d,p,rfl,i⟩:=sZ r;obtain⟨c,o,rfl,g⟩:=sZ i;obtain⟨a2,n,rfl,f⟩:=sZ g;cases Hn.mp f;exact h kV a e k b j d c a2
theorem UA{x q:Str}{st:Stmt}{o n p2 m:Str}(h:∀(kV a e:Value)(l:Option Addr)(b k d c a2 a3:Value),bindArgs (fnOf x q (cC st) (aV st) (aj st) .none kV a e l b k) ⟨[d,c,a2,a3],[]⟩=pure ([o,n,p2,m].zip [d,c,a2,a3])):i7 x q st [o,n,p2,m]:=λkV a e l b k v u=>by obtain⟨d,t,rfl,j⟩:=sZ u;obtain⟨c,s,rfl,i⟩:=sZ j;obtain⟨a2,r,rfl,g⟩:=sZ i;obtain⟨a3,p,rfl,f⟩:=sZ g;cases Hn.mp f;exact h kV a e l b k d c a2 a3
theorem all_mk{l:PySem.W.OpenLaw}{w:World}{K:Frag}{h:Heap}{f:Str->Option Value}{R:Addr}(X:K.In h)(G:h.Ns mainGlobals f)(g:f "law"=some (.ref R))
 {a:Addr}(JD:nsIn K mainGlobals "Chain"=some (some (.ref a)))(JE:plainGet K a Str.empty=true)(JF:hasDictIn K a=true)(JG:plainOver K a=true)(JH:findIn K (.ref a) "__setattr__"=some (some (.builtin "object.__setattr__")))(JI:makesIn K a=true)(JJ:keepIn K (.ref a)=true)
 (tT:findIn K (.ref a) "ahead"=some none)
 (xF:findIn K (.ref a) "last"=some none)
 (jO:findIn K (.ref a) "factor_ahead"=some none)
 (ko:findIn K (.ref a) "factor_last"=some none)
 (Z:findIn K (.ref a) "lead"=some none)
 (sH:findIn K (.ref a) "height"=some none)
 (Y:findIn K (.ref a) "sign"=some none)
 (tU:findIn K (.ref a) "scale"=some none)
 (tW:findIn K (.ref a) "known"=some none)
 (I:Hm K a "__init__" "Chain.__init__" ia)
 (H:Hm K a "walk" "Chain.walk" dS)
 (F:Hm K a "step" "Chain.step" dU)
 (E:Hm K a "outcome" "Chain.outcome" jm)
 (aa:Nf K top DD)(S:Ng K ZZ)
 {Tr:Tok}(Tt:nsIn K mainGlobals "LONG"=some (some (.int 6000 Tr)))
 {EW:Tok}(EX:nsIn K mainGlobals "WITNESS"=some (some (.int 2147483647 EW)))
 {c:Addr}(U:nsIn K mainGlobals "HouseError"=some (some (.ref c)))(tX:excIn K c YS "ValueError.__new__"=true)(tY:findIn K (.ref c) "__getattribute__"=some (some (.builtin "BaseException.__getattribute__")))(t6:findIn K (.ref c) "__getattr__"=some none)(t7:findIn K (.ref c) "__class__"=some (some (.builtin "object.__class__")))(t8:mroIn K c (.type "object")=some true)(t9:mroIn K c (.type "BaseException")=some true)
 {C:Addr}(Bo:nsIn K mainGlobals "NoNumber"=some (some (.ref C)))
 {b:Addr}(Nm:nsIn K mainGlobals "NoRow"=some (some (.ref b)))(JK:excIn K b YS "ValueError.__new__"=true)(JL:findIn K (.ref b) "__getattribute__"=some (some (.builtin "BaseException.__getattribute__")))(JM:findIn K (.ref b) "__getattr__"=some none)(JN:findIn K (.ref b) "__class__"=some (some (.builtin "object.__class__")))(JO:mroIn K b (.type "object")=some true)(JP:mroIn K b (.type "BaseException")=some true)
 {u:Addr}(EY:nsIn K mainGlobals "NoValue"=some (some (.ref u)))
 {o:Addr}(JQ:nsIn K mainGlobals "NoText"=some (some (.ref o)))
 {n:Addr}(JR:nsIn K mainGlobals "NoRoot"=some (some (.ref n)))
 {k:Addr}(JS:nsIn K mainGlobals "TooFar"=some (some (.ref k)))
 {i:Addr}(JT:nsIn K mainGlobals "NoLine"=some (some (.ref i)))
 (oG:kitOne K (.ref b) (.ref C)=some false)
 (ua:kitOne K (.ref b) (.ref b)=some true)
 (pH:kitOne K (.ref b) (.ref u)=some false)
 (sI:kitOne K (.ref b) (.ref o)=some false)
 (sJ:kitOne K (.ref b) (.ref n)=some false)
 (sL:kitOne K (.ref b) (.ref k)=some false)
 (sM:kitOne K (.ref b) (.ref i)=some false)
 (lG:kitOne K (.ref b) (.type "ValueError")=some true)
 (c9:mroIn K b (.ref c)=some true)
 :∃Q:FuncData,(∀(s:Shared)(v:Value),BindsTo s Q ⟨[v],[]⟩ [("_law_script",v)])/\∀base:Heap,K.In base->base.Ns mainGlobals f->bN l.prog w K f base KH 9 R Q ["_law_script"] (CQ K):=by
 obtain⟨J⟩:=Xy X G aa S;have Nn:Ar K a ["ahead","last","factor_ahead","factor_last","lead","height","sign","scale","known"]:=⟨⟨JE,JF,JG,JH⟩,by decide,by decide+kernel,λx P=>by
  simp only[Fn,dt,wx]at P;rcases P with rfl|rfl|rfl|rfl|rfl|rfl|rfl|rfl|rfl
  .exact tT
  .exact xF
  .exact jO
  .exact ko
  .exact Z
  .exact sH
  .exact Y
  .exact tU
  .exact tW⟩
 obtain⟨t,B,O⟩:=CP (ps:=["self","one","other","factor"]) I (UA λ_ _ _ _ _ _ _ _ _ _=>rfl);obtain⟨r,A,N⟩:=CP (ps:=["self"]) H (J6 λ_ _ _ _ _ _ _=>rfl);obtain⟨q,z,M⟩:=CP (ps:=["self"]) F (J6 λ_ _ _ _ _ _ _=>rfl);obtain⟨p,y,L⟩:=CP (ps:=["self"]) E (J6 λ_ _ _ _ _ _ _=>rfl);have D:=J.D (j:=46) rfl;have e:=g.symm.trans D.m;cases e
 let T:Tx K f:=⟨J,a,⟨Ya X G JD,Nn,JI,JJ⟩,t,B,O,r,A,N,q,z,M,p,y,L,⟨_,Ya X G Tt,_,rfl⟩,⟨_,Ya X G EX,_,rfl⟩,c,Ya X G U,⟨tX,tY,t6,t7,t8,t9⟩,C,Ya X G Bo,b,Ya X G Nm,⟨JK,JL,JM,JN,JO,JP⟩,u,Ya X G EY,o,Ya X G JQ,n,Ya X G JR,k,Ya X G JS,i,Ya X G JT,oG,ua,pH,sI,sJ,sL,sM,lG,c9⟩
 exact⟨J.d 46,λs v=>D.bt s [v] rfl,λbase _ _=>SJ (XD T)⟩
end NP
namespace PySem.W.Fast
noncomputable def tw13309681113881365240:=0
noncomputable def tw18386687375333803232:=0
noncomputable def tw1950239836710153579:=0
noncomputable def tw293260895222026636:=0
noncomputable def tw17743551197531677445:=0
noncomputable def tw14401647150683494118:=0
noncomputable def tw3817338130130374840:=0
noncomputable def tw15621959139943205275:=0
noncomputable def tw2698161770945167014:=0
noncomputable def tw9489851782735161569:=0
noncomputable def tw2675472293190125233:=0
noncomputable def tw8237497113398197001:=0
noncomputable def tw5121305649259120287:=0
noncomputable def tw12667020956002426883:=0
noncomputable def tw6636461092754475017:=0
noncomputable def tw15025186393341931539:=0
noncomputable def tw4175076852261031850:=0
noncomputable def tw7755481672106728187:=0
noncomputable def tw3747249990317246458:=0
noncomputable def tw8392645748056443893:=0
noncomputable def tw4628817343802423631:=0
noncomputable def tw17830826704022735782:=0
noncomputable def tw2004547624510365314:=0
noncomputable def tw1274260060265002418:=0
noncomputable def tw10764435318087082383:=0
noncomputable def tw7551161829699171692:=0
noncomputable def tw1830322727059022335:=0
noncomputable def tw150037161500226733:=0
noncomputable def tw9668914580158461433:=0
noncomputable def tw7286756797655721367:=0
noncomputable def tw6916195833625462765:=0
noncomputable def tw14553071707292225796:=0
noncomputable def tw11712192521405262977:=0
noncomputable def tw12560767112233838827:=0
noncomputable def tw12495516009195119422:=0
noncomputable def tw11542078644933587427:=0
noncomputable def tw3292885383907557693:=0
noncomputable def tw5024635205633343503:=0
noncomputable def tw3199436766121651702:=0
noncomputable def tw5390473565464541662:=0
noncomputable def tw17551683410452460002:=0
noncomputable def tw14161827951540742624:=0
noncomputable def tw15456904792252142088:=0
noncomputable def tw14945801888276062081:=0
noncomputable def tw17080075086830461079:=0
noncomputable def tw15631009476207536898:=0
noncomputable def tw7112776105959170910:=0
noncomputable def tw10343245134355688408:=0
noncomputable def tw17147310220905486530:=0
noncomputable def tw6287690050928837710:=0
noncomputable def tw11884525201223111474:=0
noncomputable def tw9466268402704628407:=0
noncomputable def tw16059562353309512227:=0
noncomputable def tw9819215553754564188:=0
noncomputable def tw9042266947466164490:=0
noncomputable def tw9915371880738950811:=0
noncomputable def tw10039909362652294439:=0
noncomputable def tw11167827065571265649:=0
noncomputable def tw12659526575711530735:=0
noncomputable def tw6858671294378644367:=0
noncomputable def tw6404870116200381511:=0
noncomputable def tw14435103053456543650:=0
noncomputable def tw3591573057892223868:=0
noncomputable def tw15569519229065627854:=0
noncomputable def tw7236727198424990903:=0
noncomputable def tw12481037740055520935:=0
noncomputable def tw5942412327688009769:=0
noncomputable def tw9050739707880137566:=0
noncomputable def tw7352057869615800462:=0
noncomputable def tw2601379094041184889:=0
noncomputable def tw9596264839720586896:=0
noncomputable def tw335808278728542664:=0
noncomputable def tw16040707754580775579:=0
noncomputable def tw899055558608422450:=0
noncomputable def tw17372466752747880617:=0
noncomputable def tw17663605823162107074:=0
noncomputable def tw6652210825009015031:=0
noncomputable def tw16115810260780094269:=0
noncomputable def tw12493249957179027205:=0
noncomputable def tw13073909695766715976:=0
noncomputable def tw4003723493168409814:=0
noncomputable def tw7111675138255215289:=0
noncomputable def tw9569937096783902137:=0
noncomputable def tw10379688240999784105:=0
noncomputable def tw11118660064833626549:=0
noncomputable def tw15556734237378737517:=0
noncomputable def tw8403416311097704807:=0
noncomputable def tw6909787598186630422:=0
noncomputable def tw16595323830723829492:=0
noncomputable def tw14401737550885812710:=0
noncomputable def tw2904209671835180173:=0
noncomputable def tw16194322188681170163:=0
noncomputable def tw15018595473421895995:=0
noncomputable def tw3423211598516624583:=0
noncomputable def tw7973749458706397679:=0
noncomputable def tw8101145689156515933:=0
noncomputable def tw7768876791528637875:=0
noncomputable def tw17591180926070227898:=0
noncomputable def tw9427736293942736421:=0
noncomputable def tw5173385678013890556:=0
noncomputable def tw16006632680082710174:=0
noncomputable def tw15157240564627380713:=0
noncomputable def tw5049412188362225395:=0
noncomputable def tw14864303079010660063:=0
noncomputable def tw14289535580365930034:=0
noncomputable def tw1881945250434267651:=0
noncomputable def tw5600048601125844173:=0
noncomputable def tw16732366549001842738:=0
noncomputable def tw5270875181047538129:=0
noncomputable def tw11511570208433665352:=0
noncomputable def tw10021754488541292162:=0
noncomputable def tw7547661206611153013:=0
noncomputable def tw14345564142103230316:=0
noncomputable def tw16013721328987825:=0
noncomputable def tw6905039753735137112:=0
noncomputable def tw2783659355921194792:=0
noncomputable def tw6847824586488740022:=0
noncomputable def tw1143816280729777321:=0
noncomputable def tw17753710085849901489:=0
noncomputable def tw4549058617487205433:=0
noncomputable def tw3296991712046842926:=0
noncomputable def tw15996325891368460630:=0
noncomputable def tw12520490442536837097:=0
noncomputable def tw2672409501596637014:=0
noncomputable def tw11315180686882320441:=0
noncomputable def tw15440483655842364751:=0
noncomputable def tw13119996671304775964:=0
noncomputable def tw16162632224826709117:=0
noncomputable def tw14530657385908873983:=0
noncomputable def tw3443153900705730900:=0
noncomputable def tw4697819318592617794:=0
noncomputable def tw10513252279957652480:=0
noncomputable def tw8749687361362797592:=0
noncomputable def tw13995573102501422562:=0
noncomputable def tw18057178769804120636:=0
noncomputable def tw17592335475093550130:=0
noncomputable def tw10069921263878834455:=0
noncomputable def tw4282812704360056399:=0
noncomputable def tw3221963076708202281:=0
noncomputable def tw10700411608562323054:=0
noncomputable def tw17032429231027901475:=0
noncomputable def tw11790610961593822591:=0
noncomputable def tw5714919224295338921:=0
noncomputable def tw4063415677888265546:=0
noncomputable def tw941860014824912911:=0
noncomputable def tw18105861374174307728:=0
noncomputable def tw13254337951189975678:=0
noncomputable def tw14502816960149864331:=0
noncomputable def tw7406703295920645777:=0
noncomputable def tw4310752538632408794:=0
noncomputable def tw5434400340736888824:=0
noncomputable def tw10014909397410246027:=0
noncomputable def tw10955734590103952223:=0
noncomputable def tw12138542507164448245:=0
noncomputable def tw2074007271046962667:=0
noncomputable def tw8498858779743963689:=0
noncomputable def tw1448461878266877565:=0
noncomputable def tw14193484636055663952:=0
noncomputable def tw18134333673476030662:=0
noncomputable def tw3657993051744264109:=0
noncomputable def tw6224103517319602440:=0
noncomputable def tw5538353141184744908:=0
noncomputable def tw2185034841064683926:=0
noncomputable def tw13334901105434712342:=0
noncomputable def tw15990842561305712934:=0
noncomputable def tw4320269464493355922:=0
noncomputable def tw16150367845574325130:=0
noncomputable def tw15485452516457461860:=0
noncomputable def tw13269713168011206260:=0
noncomputable def tw12523502162252505184:=0
noncomputable def tw1587779553564099281:=0
noncomputable def tw3732454244373238526:=0
noncomputable def tw1730367692266224163:=0
noncomputable def tw1577707674989864158:=0
noncomputable def tw4625583145669089675:=0
noncomputable def tw2247669785801713073:=0
noncomputable def tw10642006448501328341:=0
noncomputable def tw16415075429822792178:=0
noncomputable def tw14460690473133072164:=0
noncomputable def tw14215956537207909295:=0
noncomputable def tw12285231645464450693:=0
noncomputable def tw1171918344562505347:=0
noncomputable def tw2031108378470623695:=0
noncomputable def tw10671564554202373971:=0
noncomputable def tw18154047505719556893:=0
noncomputable def tw13639584841583176956:=0
noncomputable def tw12006534208428078827:=0
noncomputable def tw16125486021167550560:=0
noncomputable def tw6444142777851283916:=0
noncomputable def tw18410677563223993067:=0
noncomputable def tw1756185802273735536:=0
noncomputable def tw9855125447161297564:=0
noncomputable def tw9677928694704347402:=0
noncomputable def tw7982121259842999987:=0
noncomputable def tw7563344727674505901:=0
noncomputable def tw7274907762753905139:=0
noncomputable def tw15900319856403544329:=0
noncomputable def tw2615101929211654886:=0
noncomputable def tw14962365017098764955:=0
noncomputable def tw11483546285109883258:=0
noncomputable def tw9007241861114914258:=0
noncomputable def tw13435173665850752504:=0
noncomputable def tw13080299226124140703:=0
noncomputable def tw10399473024927069726:=0
noncomputable def tw6557305990431898701:=0
noncomputable def tw8383361868856952980:=0
noncomputable def tw2351328705248906056:=0
noncomputable def tw4626667491805690260:=0
noncomputable def tw16267364366417814925:=0
noncomputable def tw11785143913522963507:=0
noncomputable def tw3806396176196623880:=0
noncomputable def tw14010432280506751999:=0
noncomputable def tw9709582685618008304:=0
noncomputable def tw6758814175493981335:=0
noncomputable def tw1689403152215022248:=0
noncomputable def tw17068072346021779846:=0
noncomputable def tw14983356811581637950:=0
noncomputable def tw14742756607560016823:=0
noncomputable def tw6393672871365158710:=0
noncomputable def tw17112133549463450030:=0
noncomputable def tw15792529955519300378:=0
noncomputable def tw6878786061703846563:=0
noncomputable def tw9896018187843557532:=0
noncomputable def tw9441779573229174658:=0
noncomputable def tw7953223084213095979:=0
noncomputable def tw7915404314422569396:=0
noncomputable def tw16791270478233724168:=0
noncomputable def tw5762131916871157103:=0
noncomputable def tw16261540754051147222:=0
noncomputable def tw18141501676835165195:=0
noncomputable def tw16787328392128445927:=0
noncomputable def tw1265010832399369822:=0
noncomputable def tw5758877689507633654:=0
noncomputable def tw5060284482751154447:=0
noncomputable def tw4414810091877629485:=0
noncomputable def tw1682191896360057826:=0
noncomputable def tw15279077504051984559:=0
noncomputable def tw4554224620316084355:=0
noncomputable def tw1030993974371341447:=0
noncomputable def tw9692595142778096543:=0
noncomputable def tw946311208033836551:=0
noncomputable def tw9374449783345956753:=0
noncomputable def tw929623837705774547:=0
noncomputable def tw7769111554853704724:=0
noncomputable def tw7193290006947372211:=0
noncomputable def tw6553578319810337903:=0
noncomputable def tw6186438059516472243:=0
noncomputable def tw6144689323313791469:=0
noncomputable def tw6139471011146440333:=0
noncomputable def tw5972535842903464903:=0
noncomputable def tw5587824348004467188:=0
noncomputable def tw4911493091357835411:=0
noncomputable def tw4277980407568449085:=0
noncomputable def tw4134391678465129931:=0
noncomputable def tw406947788183182577:=0
noncomputable def tw352447154574773652:=0
noncomputable def tw3292442781730848259:=0
noncomputable def tw3250491117841205869:=0
noncomputable def tw3200551882038767499:=0
noncomputable def tw2570090023404772919:=0
noncomputable def tw18011272640367745438:=0
noncomputable def tw17830621917788847852:=0
noncomputable def tw17324530337176323332:=0
noncomputable def tw15974070413020399473:=0
noncomputable def tw1577228729120690900:=0
noncomputable def tw15725867822521070038:=0
noncomputable def tw15267665604711478532:=0
noncomputable def tw15148453582358404806:=0
noncomputable def tw1487468705573382471:=0
noncomputable def tw14645220807533500381:=0
noncomputable def tw13408586221485376183:=0
noncomputable def tw13358572719635125914:=0
noncomputable def tw13135380192792407432:=0
noncomputable def tw12581327258858443552:=0
noncomputable def tw1244244917711759197:=0
noncomputable def tw11746930453504010144:=0
noncomputable def tw11567106879657670135:=0
noncomputable def tw11261416493499546512:=0
noncomputable def tw1062269356971600689:=0
noncomputable def tw10360033455982461877:=0
noncomputable def tw10026144283815476635:=0
noncomputable def tw9358580326011376712:=0
noncomputable def tw10670700732582660535:=0
noncomputable def tw18231186988974808150:=0
noncomputable def tw12957045733679906725:=0
noncomputable def tw6738219507284089873:=0
noncomputable def tw6335126267910089356:=0
noncomputable def tw4335645536466709141:=0
noncomputable def tw3508839869586418910:=0
noncomputable def tw2182685106920187989:=0
noncomputable def tw17048472838937864267:=0
noncomputable def tw16985487108238603041:=0
def tw1421474331043877062:=0
def tw11718041430082690017:=0
def tw8032531562211305416:=0
def tw4588748901335120574:=0
def tw754357858373883095:=0
def tw1908114555491902924:=0
def tw18050623451331801829:=0
def tw3358904177509444430:=0
end PySem.W.Fast
open PySem PySem.W PyProof.Rows
set_option maxRecDepth 100000 in
set_option maxHeartbeats 0 in
theorem PySem.Challenge.cw_paperwright_k14_whole_bare_parts_holds : PySem.Challenge.rw_paperwright_k14_whole_bare_parts.Holds := by
 w_on;o_law;k_head;(case hw=>w_witness2)
 k_fill
 refine VL.walk (l:=PySem.Challenge.rw_paperwright_k14_whole_bare_parts) (k:=9) rfl rfl ⟨rfl,by decide,by decide⟩ (by decide+kernel) rfl (fun w h Y=>PySem.W.kIn_of Y) ?F
 case F=>
  intro w mg fa h KX G hmg
  refine' NP.all_mk KX G hmg ?yy0 ?yy1 ?yy2 ?yy3 ?yy4 ?yy5 ?yy6 ?yy7 ?yy8 ?yy9 ?aab ?aac ?aad ?aae ?aaf ?aag ?aah ?aai ?aaj ?aak ?aal ?aam ?aan ?aao ?aap ?aaq ?aar ?aas ?aat ?aau ?aav ?aaw ?aax ?aay ?aaz ?aaA ?aaB ?aaC ?aaD ?aaE ?aaF ?aaG ?aaH ?aaI ?aaJ ?aaK ?aaL ?aaM ?aaN ?aaO ?aaP ?aaQ ?aaR
  (case yy0|yy1|yy2|yy3|yy4|yy5|yy6|yy7|yy8|yy9|aab|aac|aad|aae|aaf|aag=>k_is)
  (case aah|aai|aaj|aak=>walk_at "hm")
  (case aal=>(iterate 47 walk_at "ah");exact trivial)
  (case aam=>(iterate 14 walk_at "az");exact trivial)
  (case aan|aao|aap=>k_is)
  (case aaq=>k_exc)
  (case aar|aas|aat|aau|aav|aaw|aax=>k_is)
  (case aay=>k_exc)
  (case aaz|aaA|aaB|aaC|aaD|aaE|aaF|aaG|aaH|aaI=>k_is)
  (case aaJ|aaK|aaL|aaM|aaN|aaO|aaP|aaQ=>kit_is)
  (case aaR=>k_is)
