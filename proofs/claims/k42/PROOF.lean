import PyProof.Rows.All
import Wide.All
import OpenK.AllK
import Wide.FinOn
import Lean
import PyProof.EqAt
import PyProof.EqKinds
import PyProof.TupleCall
import PySem.Challenge.RW_paperwright_k42_roots_counted
set_option Elab.async false
set_option linter.all false
set_option compiler.extract_closed false
set_option maxRecDepth 100000
set_option maxHeartbeats 4000000
set_option hygiene false in
local macro_rules | `(tactic| walk_at "lo") => `(tactic| first | exact False.elim h | (obtain ⟨rfl, _⟩ := h; rfl) | (obtain ⟨_, h⟩ := h; walk_at "lo"))
set_option hygiene false in
local macro_rules | `(tactic| walk_at "l") => `(tactic| (intro _ _ _ h; walk_at "lo"))
set_option hygiene false in
local macro_rules | `(tactic| fin2) => `(tactic| first | dsimp only [↓Uy, ↓Ov, Uz, wSs, wS, wE, wA, CF, T4, wP, Jq, AG, Jr, dZ, setAt, List.getElem?_cons_zero, List.getElem?_cons_succ, look, List.set, b7, ja, cI, ak, List.map_cons, List.map_nil, List.nil_append, List.cons_append, x_len, Es, Et, ML, MM, MN, Eu, AH, MO, MP, MQ, MR, MS, MT, Ew, MU, MV, UA, UB, x_lt, UC, UD, UE, MW, MX, uL, UG, MY, MZ, M1, UH, M3, M4, M5, M6, AI, w4, UI, M7, UJ, M8, M9, Ex, AJ, se, List.replicate, if_true, Bool.not_true, Bool.not_false] | simp only [List.getElem?_cons_zero, List.getElem?_cons_succ, List.map_cons, List.map_nil, List.nil_append, List.cons_append, x_len, Es, Et, ML, MM, MN, Eu, AH, MO, MP, MQ, MR, MS, MT, Ew, MU, MV, UA, UB, x_lt, UC, UD, UE, MW, MX, uL, UG, MY, MZ, M1, UH, M3, M4, M5, M6, AI, w4, UI, M7, UJ, M8, M9, Ex, AJ, se, List.replicate, if_true, Bool.not_true, Bool.not_false] | skip)
set_option hygiene false in
local macro_rules | `(tactic| walk_at "hd") => `(tactic| (refine' Na.UK ?ka ?kl ?kc ?kk; (case ka => k_is); (case kl => k_is); (case kc => k_is); (case kk => k_is)))
set_option hygiene false in
local macro_rules | `(tactic| walk_at "hm") => `(tactic| (refine' Na.UL ?ka ?ki ?kl ?kc ?kk; (case ka => k_is); (case ki => k_is); (case kl => k_is); (case kc => k_is); (case kk => k_is)))
set_option hygiene false in
local macro_rules | `(tactic| walk_at "bn") => `(tactic| first | exact Na.UM fun _ _ _ _ _ _ _ => rfl | exact Na.YE fun _ _ _ _ _ _ _ _ => rfl | exact Na.YF fun _ _ _ _ _ _ _ _ _ => rfl | exact Na.UN fun _ _ _ _ _ _ _ _ _ _ => rfl)
set_option hygiene false in
local macro_rules | `(tactic| walk_at "ah") => `(tactic| (refine' And.intro (And.intro ?h1 ?h2) ?_; (case h1 => walk_at "hd"); (case h2 => walk_at "bn")))
set_option hygiene false in
local macro_rules | `(tactic| walk_at "az") => `(tactic| (refine' And.intro ?h1 ?_; (case h1 => k_is)))
open List renaming getD_eq_getElem?_getD->AC,length_map->Ap,getElem?_eq_getElem->DL,getElem?_map->FC,mem_cons_self->FK,mem_singleton->FR,mem_cons_of_mem->FS,getElem?_eq_none->Fs,getElem?_eq_some_iff->Gc,size_toArray->He,mem_cons->Hk,isEmpty_iff->Jn,length_pos_iff->KE,length_append->KM,getLast?_eq_getElem?->Ki,mem_append_right->Mo,getElem?_append_right->NA,getElem?_set_ne->OF,length_eq_zero_iff->PH,getElem?_append_left->PP,mem_map->Pm,append_assoc->Pv,mem_append->Re,length_set->SB,mem_of_getElem?->SL,all_eq_true->T1,map_map->T2,getElem_of_mem->Ta,map_cons->UV,getElem?_set_self->W1,getElem_mem->Yf,length_range->bj,getElem?_range->cm,nodup_cons->cw,length_take->d6,drop_eq_getElem_cons->eD,mem_filter->eJ,append_nil->eM,mem_append_left->fe,map_set->hU,ext_getElem?->hV,not_mem_nil->iq,map_congr_left->km,length_reverse->ky,getElem?_take_of_lt->lh,getLast?_cons_cons->me,getElem?_replicate->mf,length_eq_one_iff->oI,map_append->rp,dropLast_concat_getLast->sT,mem_range->u3,getLast?_map->vi,getElem?_set->vk,pairwise_singleton->wa,drop_length->wb,countP_cons->wd,range_succ_eq_map->xc,nodup_nil->yB,replicate->AW,length_cons->BL,range->C0,nil_append->Cv,lookup_cons->D1,all_cons->D2,cons_append->D4,replicate_succ->D6,flatten_cons->Ep,zip_cons_cons->G1,lookup->I0,filterMap_cons->JP,length->Jp,length_singleton->L0,map_eq_nil_iff->L1,countP_eq_zero->M0,mem_filterMap->N8,map_replicate->NH,map_inj_right->Ng,pairwise_iff_forall_sublist->Pe,map_nil->Qf,length_drop->UP,range'->Uw,of_mem_zip->W3,map_const'->WX,length_nil->Wt,drop_zero->Xy,take_of_length_le->Yu,reverse_singleton->ZD,singleton_append->Zt,getElem?_zipWith->ae,dropLast_eq_take->ax,contains_iff_mem->b5,reverse_append->dB,flatMap_append->dV,dropWhile_cons->dc,set_cons_succ->eB,pairwise_cons->eF,getElem_range->eN,foldl->eW,nodup_append->ee,any_eq_false->ef,range'_succ->eu,mem_flatMap->ew,filter_cons->ey,cons_ne_nil->f6,set_comm->g4,map_take->g5,set->mx
open Bool renaming and_eq_true->Bz,false_ne_true->Oy,and_eq_true_iff->P3,or_false->aw,and_false->de,not_eq_true->h7,not_eq_true'->oP,or_eq_true->si,eq_iff_iff->xt,false_eq_true->Nr,true_and->gm,and_true->h9
open Nat renaming le_trans->Do,le_refl->Ee,mul_le_mul_left->FV,lt_of_lt_of_le->Fu,lt_of_le_of_lt->IH,pow_le_pow_right->IR,add_sub_cancel->Nw,zero_le->PQ,mul_le_mul->Pt,le_of_lt->QR,lt_succ_self->RF,ne_of_lt->SC,mul_le_mul_right->SF,lt_irrefl->TC,le_add_right->TK,pow_pos->U2,pow_le_pow_left->Wp,pow_add->Y1,le_mul_of_pos_right->Y2,add_sub_cancel_left->Ya,mul_comm->bb,lt_succ_of_lt->dt,le_of_not_lt->du,eq_zero_or_pos->eC,pow_lt_pow_right->fI,pow_mul->i3,zero_add->ik,le_of_eq->ip,add_assoc->kz,le_max_left->mI,le_mul_of_pos_left->oC,le_max_right->oy,mul_assoc->ph,sub_le_sub_right->rg,mul_add->rh,add_le_add_right->rk,add_le_add_left->so,sub_self->t4,mul_lt_mul_of_pos_right->t5,lt_of_le_of_ne->tm,add_right_comm->tq,sub_pos_of_lt->uj,lt_succ_of_le->uk,le_zero->vT,le_succ->va,add_mul->vb,sub_le->x5,sub_add_sub_cancel->xI,add_comm->xb,le_add_left->xp,add_le_add->yA,pow_succ->Gg,sub_zero->Km,succ_mul->Sx,ne_of_gt->Sz,mul_succ->T5,le_succ_of_le->Td,succ_le_succ->Uc,lt_of_not_le->Uv,mul_one->Ux,log2_lt->Vz,eq_of_mul_eq_mul_left->YP,succ_pred_eq_of_pos->Yc,exists_eq_add_of_le->Yk,zero_mul->ZW,mul_zero->Zi,sub_sub->bg,sub_lt_sub_right->cR,one_pos->cZ,one_mul->cc,Coprime->d3,add_lt_add_left->e9,one_le_two_pow->ed,le_of_lt_succ->ek,min_le_right->fc,min_eq_left->fq,le_antisymm->ft,le_of_dvd->hQ,succ_pos->i0,le_total->ib,add_zero->ig,two_mul->kv,sub_lt->mD,succ->mz
open Rat renaming mul_le_mul_of_nonneg_left->Dx,intCast_mul->FM,le_of_lt->Fm,intCast_le_intCast->Fn,mul_pos->Ha,mul_inv_cancel->Hn,intCast_eq_zero_iff->Iy,mul_eq_zero->Kk,inv_mul_cancel->On,mul_zero->Pl,inv_pos->SU,mul_le_mul_of_nonneg_right->Sr,mul_nonneg->TB,zero_mul->X9,pow_succ->XB,one_mul->Xt,mul_assoc->ar,intCast_pos->cq,intCast_add->eI,num_divInt_den->hJ,zero_add->i5,pow_zero->ij,le_of_mul_le_mul_left->js,intCast_neg_iff->kf,intCast_inj->mB,intCast_lt_intCast->my,divInt_eq_div->n4,mul_one->pj,divInt_eq_divInt_iff->vw,intCast_sub->xn,divInt->B1,intCast_neg->Eg,mul_comm->S0,add_zero->SY,mul_pos_iff_of_pos_right->X8,mul_lt_mul_of_pos_left->YB,le_trans->ZS,add_mul->ba,num_eq_zero->fi,le_refl->k7,not_lt->m3
open Classical renaming byContradiction->Fk,not_not->ZR,propDecidable->n2,choose_spec->n3,choose->nA
open PySem renaming wpAny_bind->GE,wpAny_pure->L9,mem_of_lookup->SZ,wpAny_mono->eP,wpAny_Call_Name_kw->eQ,wpAny_passesOwn->hZ,wpAny_truthy_bool->kA,wpAny_newObj_type->kS,wpAny_execs_nil->oT
open Int renaming pow_succ->GM,natAbs_mul->HI,pow_zero->Os,mul_ne_zero->Pi,fdiv_eq_ediv_of_nonneg->QQ,mul_zero->Qb,eq_of_mul_eq_mul_left->Qr,natAbs_dvd_natAbs->Tb,gcd_dvd_right->Ts,mul_assoc->X2,zero_mul->bo,le_of_lt->cb,one_mul->cx,mul_one->d5,gcd_dvd_left->dA,mul_comm->dE,add_zero->fo,mul_fdiv_cancel_left->gL,mul_ediv_cancel_left->gN,mul_nonneg->gd,mul_le_mul_of_nonneg_left->h8,fmod_eq_emod_of_nonneg->i4,le_of_dvd->lj,pow_add->ml,fdiv_eq_ediv_of_dvd->mn,mul_pos->rl,ediv_mul_cancel->sv,lt_or_le->tI,gcd_pos_of_ne_zero_left->tJ,emod_lt_of_pos->ub,ediv_pos_of_pos_of_dvd->ui,dvd_mul_of_dvd_right->w8,emod_eq_zero_of_dvd->wt,dvd_of_emod_eq_zero->wx,zero_sub->xf,zero_add->xi,sub_zero->xk,dvd_zero->xl,neg_mul->yn,mul_neg->zi,mul_ediv_cancel'->zz0,mul_dvd_mul_left->zz1,gcd->Bn,natAbs_natCast->D3,toNat_natCast->D7,toNat_of_nonneg->N0,dvd_trans->Nh,lt_or_gt_of_ne->O9,gcd_zero_right->OC,dvd_refl->Th,nonneg_of_mul_nonneg_left->X4,emod_nonneg->XG,natAbs->YJ,natAbs_ediv_le_natAbs->YU,pow_one->dg,dvd_sub->dr,natCast_nonneg->ei,lt_or_eq_of_le->ej,natAbs_sub_le->f7,mul_left_comm->fb,gcd_mul_left->fg,ediv_le_self->fh,neg_mul_neg->fw,ediv_nonneg->fx,dvd_coe_gcd->fy,natAbs_pow->g6,dvd_natAbs->g8,zero_fdiv->hX,ediv_self->hY,zero_dvd->j7,one_pow->l0,one_dvd->l3,mul_add->l5,le_refl->lM,dvd_neg->lr,dvd_gcd->lx,dvd_add->m1
open PySem.Heap renaming get?_push_of_some->GT,lt_size->KB,get?_push_size->QP
open Option renaming map_eq_some_iff->NM,isSome_iff_exists->X1,map_some->GI,getD_none->e5,none->fz
open Option.some renaming inj->OK
open PySem.W renaming kia_one->UF,mg_of->dC,callWith_K->ma,looks_findIn->rf,looks_mroIn->sk
open PyProof.Rows renaming callWith_type1->ag,slot_tuple_getitem->oo,callWith_builtin1->ke
open Ne renaming symm->dk
open Std.Associative renaming assoc->y3
open False renaming elim->D5
open Prod renaming fst->EJ
open ForInStep renaming yield->G2
open Array renaming length_toList->J9,append_assoc->dy,toList->hH
open True renaming intro->JU
open Sum renaming inr->R0,inl->R1
open Std.Commutative renaming comm->Rn
open Nat.succ renaming inj->Xq
open List.Pairwise renaming nil->Y8,imp_of_mem->iz
open PyProof renaming noPylong_small->YH
open Or renaming inr->b9,inl->bM
open List.cons renaming injEq->bN,inj->n0
open Nat.Coprime renaming symm->mi,dvd_of_dvd_mul_right->mj,dvd_of_dvd_mul_left->mm
open Decidable renaming not_not->n1
def BM:=@if_neg
def Bi:=@if_pos
def Da:=@of_decide_eq_true
def Fh:=@decide_eq_true
def Hb:=@decide_eq_false
def Kb:=@decide_eq_true_eq
def Kt:=@beq_iff_eq
def Q1:=@congrArg
def kb:=@beq_eq_false_iff_ne
def mM:=@of_decide_eq_false
def ox:=@beq_self_eq_true
def tj:=@congrFun
def wy:=@if_true
def y8:=@if_false
noncomputable section
set_option bootstrap.genMatcherCode false
open PySem.W(instObj methodObj hideAll_get Frag lookIn plainGet hasDictIn findIn plainGet_of isFn plainOver takerIn makesIn emptyDict keepIn mroIn kitOne fnOf codeIn excIn nsIn)
namespace L2
open PySem PySem.Spec PyProof.Rows
abbrev Key:=Sum Int Str
noncomputable def Nb:Key->Value->Bool
 |.inl k,v=>Value.isInt k v
 |.inr x,v=>Value.isStrOf x v
noncomputable def YG(w:World):Key->Int
 |.inl k=>hashInt k
 |.inr x=>hashStr w x
theorem bO:∀{k:Key}{v:Value},Nb k v=true->(∃i t,k=R1 i/\v=Value.int i t)\/(∃x t,k=R0 x/\v=Value.str x t)
 |.inl i,v,h=>by obtain⟨t,e⟩:=Value.isInt_shape (k:=i) (v:=v) h;exact .inl ⟨i,t,rfl,e⟩
 |.inr x,v,h=>by obtain⟨t,e⟩:=Value.isStrOf_shape (x:=x) (v:=v) h;exact .inr ⟨x,t,rfl,e⟩
theorem Ow(a b:Int):decide ((R1 a:Key)=R1 b)=(a==b):=by
 by_cases e:a=b
 .subst e;simp
 .have h:¬(R1 a:Key)=R1 b:=λq=>e (Sum.inl.inj q);rw[Hb h];exact(kb.mpr e).symm
theorem Ox(a b:Str):decide ((R0 a:Key)=R0 b)=decide (a=b):=by
 by_cases e:a=b
 .subst e;simp
 .have h:¬(R0 a:Key)=R0 b:=λq=>e (Sum.inr.inj q);rw[Hb h,Hb e]
theorem Oz(a:Int)(b:Str):decide ((R1 a:Key)=R0 b)=false:=Hb (λq=>nomatch q)
theorem OA(a:Str)(b:Int):decide ((R0 a:Key)=R1 b)=false:=Hb (λq=>nomatch q)
noncomputable def AK(prog:Program)(w:World):PySem.KeyKind prog w Key where
 is:=Nb
 hash:=YG w
 inj:=λv a b g d=>by
  rcases bO g with⟨i,t,rfl,rfl⟩|⟨x,t,rfl,rfl⟩
  .rcases bO d with⟨j,u,rfl,e⟩|⟨y,u,rfl,e⟩
   .injection e with e1 _;rw[e1]
   .exact nomatch e
  .rcases bO d with⟨j,u,rfl,e⟩|⟨y,u,rfl,e⟩
   .exact nomatch e
   .injection e with e1 _;rw[e1]
 byValue:=λk v h=>by rcases bO h with⟨i,t,rfl,rfl⟩|⟨x,t,rfl,rfl⟩<;>rfl
 pyHash:=λc h=>by
  rcases bO c with⟨i,t,rfl,rfl⟩|⟨x,t,rfl,rfl⟩
  .exact wpAny_pyHash_int h
  .exact wpAny_pyHash_str h
 eqBool:=λf c h=>by
  rcases bO f with⟨i,t,rfl,rfl⟩|⟨x,t,rfl,rfl⟩
  .rcases bO c with⟨j,u,rfl,rfl⟩|⟨y,u,rfl,rfl⟩
   .rw[Ow]at h;exact wpAny_eqBool_int h
   .rw[Oz]at h;exact SeqAt.EqAt.int_str i t y u _ _ _ _ h
  .rcases bO c with⟨j,u,rfl,rfl⟩|⟨y,u,rfl,rfl⟩
   .rw[OA]at h;exact SeqAt.EqAt.str_int x t j u _ _ _ _ h
   .rw[Ox]at h;exact wpAny_eqBool_str h
 «strs»:=λk x t v h=>by
  rcases bO h with⟨i,u,rfl,e⟩|⟨y,u,rfl,e⟩
  .exact nomatch e
  .injection e with e1 _;subst e1;cases v<;>rfl
inductive V where
 |bV|bl (b:Bool)|int (i:Int)|str (x:Str)|Ef (b:Array UInt8)|OB (b:UInt64)|ref (a:Addr)|ty (n:String)
 deriving DecidableEq
def RelV:V->Value->Prop
 |.bV,u=>u=Value.none
 |.bl b,u=>u=Value.bool b
 |.int i,u=>∃t,u=Value.int i t
 |.str x,u=>∃t,u=Value.str x t
 |.Ef b,u=>∃t,u=Value.bytes b t
 |.OB b,u=>∃t,u=Value.float b t
 |.ref a,u=>u=Value.ref a
 |.ty n,u=>u=Value.type n
abbrev Vals:List V->List Value->Prop:=Paired RelV
theorem Vals.length(r:Vals a us):a.length=us.length:=Paired.length r
theorem Vals.get:∀{a:List V}{us:List Value}{i:Nat}{x:V},Vals a us->a[i]?=some x->∃u,us[i]?=some u/\RelV x u
 |_,_,_,_,.nil,e=>by simp at e
 |_,_,0,_,.cons r _,e=>by simp at e;subst e;exact⟨_,rfl,r⟩
 |_,_,i+1,x,.cons _ t,e=>by obtain⟨u,c,b⟩:=Vals.get (i:=i) (x:=x) t (by simpa using e);exact⟨u,by simpa using c,b⟩
theorem Vals.set(r:RelV x u):∀{a:List V}{us:List Value}(i:Nat),Vals a us->Vals (a.set i x) (us.set i u)
 |_,_,_,.nil=>.nil
 |_,_,0,.cons _ t=>.cons r t
 |_,_,i+1,.cons q t=>.cons q (Vals.set r i t)
theorem Vals.append:∀{b a:List V}{us c:List Value},Vals b us->Vals a c->Vals (b++a) (us++c)
 |_,_,_,_,.nil,s=>s
 |_,_,_,_,.cons r t,s=>.cons r (Vals.append t s)
theorem Vals.take:∀{a:List V}{us:List Value}(n:Nat),Vals a us->Vals (a.take n) (us.take n)
 |_,_,0,_=>.nil
 |_,_,_+1,.nil=>.nil
 |_,_,n+1,.cons r t=>.cons r (Vals.take n t)
theorem Vals.drop:∀{a:List V}{us:List Value}(n:Nat),Vals a us->Vals (a.drop n) (us.drop n)
 |_,_,0,r=>r
 |_,_,_+1,.nil=>.nil
 |_,_,n+1,.cons _ t=>Vals.drop n t
def sf:Option V->Option Value->Prop
 |some v,some u=>RelV v u
 |none,none=>True
 |_,_=>False
def KV{κ:Type}:List (κ×V)->List (κ×Value)->Prop:=Paired λ(p:κ×V)(q:κ×Value)=>p.1=q.1/\RelV p.2 q.2
noncomputable def kV:Key->V
 |.inl i=>.int i
 |.inr x=>.str x
inductive HO where
 |lst (xs:List V)
 |tup (xs:List V)
 |dK (kvs:List (Key×V))|dT (kvs:List (List Key×V))
 |set (S:Int->Bool) (n:Nat)
 |ins (C dx:Addr) (fs:List (Str×V))
 |own (x:Addr)
 |xd (fs:List (Str×V))
 |met (f x:Addr)
 |j3 (lo hi:Int)
 |yK (o:Obj) (u:HO)
 |Nc (ps:Array Value)
 |ext (φ:Heap->Prop)
abbrev Hp:=Addr->Option HO
noncomputable def upd(H:Hp)(a:Addr)(o:HO):Hp:=λb=>if b=a then some o else H b
theorem aG:upd H a o a=some o:=by unfold upd;rw[Bi rfl]
theorem ao(h:b≠a):upd H a o b=H b:=by unfold upd;rw[BM h]
theorem aP{H:Hp}(h:H a=some o)(h':H b=none):a≠b:=by intro e;subst e;rw[h]at h';cases h'
section
variable(P:Program)(w:World)
def cJ(H:Hp)(h:Heap)(a:Addr):HO->Prop
 |.lst d=>d.length<=sizeLine/\∃(c:List Value)(n:Nat),Vals d c/\h.get? a=some {cls:=.type "list",data:=.seq c.toArray n}
 |.tup d=>d.length<=sizeLine/\∃c:List Value,Vals d c/\IsTup h a c.toArray
 |.dK b=>b.length<=sizeLine/\(a==sysModules)=false/\∃vs,KV b vs/\h.DictOf (AK P w) a vs
 |.dT b=>b.length<=sizeLine/\(a==sysModules)=false/\∃d:List (List Key×Addr×Value),
   Paired (λ(p:List Key×V)(q:List Key×Addr×Value)=>p.1=q.1/\H q.2.1=some (.tup (p.1.map kV))/\RelV p.2 q.2.2) b d/\
   ∃o l s,h.get? a=some o/\o.ExactDict/\o.data=.dict l s/\l.toList=d.map (entryOfKey (tupleKind (AK P w)))/\(d.map (·.1)).Nodup
 |.set S n=>h.SetOf (intKind P w) a S n
 |.ins C i g=>H i=some (.own a)/\g.length<=1000/\i≠a/\h.get? a=some (instObj C i)/\
   ∃e,h.Ns1 i e/\(∀f,sf (g.lookup f) (e f))/\PySem.Within e (g.map (·.1))
 |.own _=>∃o,h.get? a=some o
 |.xd g=>∃e,h.Ns1 a e/\∀f,sf (g.lookup f) (e f)
 |.j3 m r=>∃t u v,h.get? a=some {cls:=.type "range",data:=.fields #[.int m t,.int r u,.int 1 v]}
 |.yK o u=>h.get? a=some o/\cJ H h a u
 |.Nc ps=>h.get? a=some {cls:=.none,data:=.fields ps}
 |.met f x=>h.get? a=some (methodObj (.ref f) (.ref x))
 |.ext φ=>φ h/\(∃o,h.get? a=some o)/\∀k j:Heap,φ k->(∀o,k.get? a=some o->j.get? a=some o)->φ j
def kR(H:Hp)(h:Heap):Prop:=∀a o,H a=some o->cJ P w H h a o
end
section
variable{P:Program}{w:World}{H H':Hp}{h h':Heap}{a:Addr}{o:HO}
theorem cJ.lt(x:cJ P w H h a o):a<h.objs.size:=by
 cases o with
 |lst c=>obtain⟨_,_,_,_,e⟩:=x;exact KB e
 |tup c=>obtain⟨_,_,_,p⟩:=x;exact p.lt
 |dK b=>obtain⟨_,_,_,_,o,_,_,e,_⟩:=x;exact KB e
 |dT b=>obtain⟨_,_,_,_,o,_,_,e,_⟩:=x;exact KB e
 |set S n=>obtain⟨o,_,_,_,e,_⟩:=x;exact KB e
 |ins C l d=>obtain⟨_,_,_,e,_⟩:=x;exact KB e
 |own y=>obtain⟨_,e⟩:=x;exact KB e
 |xd d=>obtain⟨_,⟨_,_,_,e,_⟩,_⟩:=x;exact KB e
 |j3 j k=>obtain⟨_,_,_,e⟩:=x;exact KB e
 |yK i u=>obtain⟨e,_⟩:=x;exact KB e
 |Nc g=>exact KB (show h.get? a=some _ from x)
 |met f y=>exact KB (show h.get? a=some _ from x)
 |ext φ=>obtain⟨_,⟨_,e⟩,_⟩:=x;exact KB e
theorem Paired.UO:∀{d:List α}{c:List e},Paired F d c->(∀a b,F a b->G a b)->Paired G d c
 |_,_,.nil,_=>.nil
 |_,_,.cons r t,f=>.cons (f _ _ r) (Paired.UO t f)
theorem cJ.stay(x:cJ P w H h a o)(k:∀b u,(b=a\/H b=some (.own a))->h.get? b=some u->h'.get? b=some u)
 (K:∀b,H b=some (.own a)->H' b=some (.own a))(J:∀b m,H b=some (.tup m)->H' b=some (.tup m)):cJ P w H' h' a o:=by
 induction o with
 |lst m=>obtain⟨z,l,n,r,e⟩:=x;exact⟨z,l,n,r,k _ _ (.inl rfl) e⟩
 |tup m=>obtain⟨z,l,r,g,e,c⟩:=x;exact⟨z,l,r,g,k _ _ (.inl rfl) e,c⟩
 |dK B=>obtain⟨z,y,F,r,g,i,j,e,c⟩:=x;exact⟨z,y,F,r,g,i,j,k _ _ (.inl rfl) e,c⟩
 |dT B=>obtain⟨z,y,m,r,g,i,j,e,c⟩:=x;exact⟨z,y,m,Paired.UO r λp q z=>⟨z.1,J _ _ z.2.1,z.2.2⟩,g,i,j,k _ _ (.inl rfl) e,c⟩
 |set S n=>obtain⟨g,i,j,t,e,c⟩:=x;exact⟨g,i,j,t,k _ _ (.inl rfl) e,c⟩
 |ins C Q L=>obtain⟨d,z,G,e,A,⟨s,i,j,M,c⟩,r⟩:=x;exact⟨K _ d,z,G,k _ _ (.inl rfl) e,A,⟨s,i,j,k _ _ (.inr d) M,c⟩,r⟩
 |own y=>obtain⟨g,e⟩:=x;exact⟨g,k _ _ (.inl rfl) e⟩
 |xd L=>obtain⟨A,⟨s,i,j,e,c⟩,r⟩:=x;exact⟨A,⟨s,i,j,k _ _ (.inl rfl) e,c⟩,r⟩
 |j3 N O=>obtain⟨t,u,v,e⟩:=x;exact⟨t,u,v,k _ _ (.inl rfl) e⟩
 |yK g u I=>obtain⟨e,q⟩:=x;exact⟨k _ _ (.inl rfl) e,I q⟩
 |Nc E=>have e:h.get? a=some {cls:=.none,data:=.fields E}:=x;show h'.get? a=some {cls:=.none,data:=.fields E};exact k a _ (.inl rfl) e
 |met f y=>have e:h.get? a=some (methodObj (.ref f) (.ref y)):=x;show h'.get? a=some (methodObj (.ref f) (.ref y));exact k a _ (.inl rfl) e
 |ext φ=>obtain⟨p,⟨o,e⟩,D⟩:=x;exact⟨D _ _ p λo q=>k _ _ (.inl rfl) q,⟨o,k _ _ (.inl rfl) e⟩,D⟩
theorem kR.lt(x:kR P w H h)(e:H a=some o):a<h.objs.size:=(x a o e).lt
theorem kR.fresh(x:kR P w H h)(e:h.objs.size<=a):H a=none:=by
 cases q:H a with
 |none=>rfl
 |some u=>exact absurd (Fu (x.lt q) e) (TC _)
theorem kR.kept(x:kR P w H h)(k:∀b u,h.get? b=some u->h'.get? b=some u):kR P w H h':=λa o e=>(x a o e).stay (λb u _ q=>k b u q) (λ_ q=>q) λ_ _ q=>q
theorem kR.laid(x:kR P w H h)(k:∀b u,h.get? b=some u->h'.get? b=some u)(i:h.objs.size<=a)(d:cJ P w (upd H a o) h' a o):kR P w (upd H a o) h':=λb u e=>by
 have f:=x.fresh i;by_cases g:b=a
 .subst g;rw[aG]at e;cases e;exact d
 .rw[ao g]at e;exact(x b u e).stay (λc v _ q=>k c v q) (λc q=>by rw[ao (aP q f)];exact q) λc j q=>by rw[ao (aP q f)];exact q
end
def Rd(H:Hp)(a:Addr)(u:HO):Prop:=H a=some u\/∃o,H a=some (.yK o u)
theorem Rd.ok(r:Rd H a u)(x:kR P w H h):cJ P w H h a u:=by
 rcases r with r|⟨o,r⟩
 .exact x a u r
 .obtain⟨_,q⟩:=x a _ r;exact q
def XZ:Option HO->Prop
 |some (.lst _)=>True
 |some (.dK _)=>True
 |some (.dT _)=>True
 |some (.set _ _)=>True
 |some (.ins _ _ _)=>True
 |some (.ext _)=>True
 |_=>False
section
variable{P:Program}{w:World}{H:Hp}{h h':Heap}{x e:Addr}{o':HO}
theorem kR.write(o:kR P w H h)(d:XZ (H x))(m:e=x\/H e=some (.own x))(k:∀b u,b≠e->h.get? b=some u->h'.get? b=some u)(t:∃u,h'.get? e=some u)
 (j:cJ P w (upd H x o') h' x o'):kR P w (upd H x o') h':=λb u q=>by
 have n:∀c y,H c=some (.own y)->c≠x:=λc y r z=>by subst z;rw[r]at d;exact d
 have s:∀c a,H c=some (.tup a)->c≠x:=λc a r z=>by subst z;rw[r]at d;exact d
 by_cases g:b=x
 .subst g;rw[aG]at q;cases q;exact j
 .rw[ao g]at q;by_cases i:b=e
  .have l:H b=some (.own x):=by
    rcases m with z|z
    .exact absurd (i.trans z) g
    .rw[i];exact z
   rw[q]at l;cases l;obtain⟨v,p⟩:=t;exact⟨v,by rw[i];exact p⟩
  .refine(o b u q).stay (λc v f r=>k c v ?_ r) (λc r=>by rw[ao (n c b r)];exact r) λc a r=>by rw[ao (s c a r)];exact r
   rcases f with rfl|f
   .exact i
   .rintro rfl;rcases m with z|z
    .exact n c b f z
    .rw[f]at z;cases z;exact g rfl
end
structure Un(fs ex:List Addr)(H H':Hp)(h h':Heap):Prop where
 keep:∀b o,h.get? b=some o->H b=none->b∉fs->b∉ex->h'.get? b=some o
 slot:∀b o,h.get? b=some o->H b=none->b∈fs->b∉ex->∃sl,h'.get? b=some {o with slots:=sl}
 free:∀b o,h.get? b=some o->H b=none->b∉ex->H' b=none
 there:∀b o,h.get? b=some o->b∉ex->∃o',h'.get? b=some o'
 tups:∀b xs,H b=some (.tup xs)->H' b=some (.tup xs)
 kg:∀b o u,H b=some (.yK o u)->H' b=some (.yK o u)
 kW:∀b ps,H b=some (.Nc ps)->∃more,H' b=some (.Nc (ps++more))
section
variable{fs fs' ex ex':List Addr}{H H1 H2:Hp}{h h1 h2 h':Heap}{a x e:Addr}{o:HO}
theorem Un.any(u:Un fs ex H H1 h h1)(q:h.get? b=some c)(n:H b=none)(d:b∉ex):∃g,h1.get? b=some {c with slots:=g}:=by
 by_cases f:b∈fs
 .exact u.slot b c q n f d
 .exact⟨c.slots,u.keep b c q n f d⟩
theorem Un.kept(k:∀b u,h.get? b=some u->h'.get? b=some u):Un fs ex H H h h':=
 ⟨λb c q _ _ _=>k b c q,λb c q _ _ _=>⟨c.slots,k b c q⟩,λ_ _ _ n _=>n,λb c q _=>⟨c,k b c q⟩,λ_ _ q=>q,λ_ _ _ q=>q,λ_ d q=>⟨#[],by rw[q];simp⟩⟩
theorem Un.refl:Un fs ex H H h h:=Un.kept λ_ _ q=>q
theorem Un.laid(k:∀b u,h.get? b=some u->h'.get? b=some u)(f:h.objs.size<=a)(c:H a=none):Un fs ex H (upd H a o) h h' where
 keep:=λb u q _ _ _=>k b u q
 slot:=λb u q _ _ _=>⟨u.slots,k b u q⟩
 free:=λb u q n _=>by rw[ao (SC (Fu (KB q) f))];exact n
 there:=λb u q _=>⟨u,k b u q⟩
 tups:=λb d q=>by rw[ao (aP q c)];exact q
 kg:=λb u d q=>by rw[ao (aP q c)];exact q
 kW:=λb g q=>⟨#[],by rw[ao (aP q c),q];simp⟩
theorem Un.write(c:XZ (H x))(m:e=x\/H e=some (.own x))(k:∀b u,b≠e->h.get? b=some u->h'.get? b=some u)(p:∃u,h'.get? e=some u):Un fs ex H (upd H x o) h h':=by
 have f:∀b,H b=none->b≠x:=λb n z=>by subst z;rw[n]at c;exact c
 have g:∀b,H b=none->b≠e:=λb n z=>by
  subst z;rcases m with r|r
  .exact f b n r
  .rw[n]at r;cases r
 have d:∀b u,H b=some u->¬XZ (some u)->b≠x:=λb u q l z=>by subst z;rw[q]at c;exact l c
 refine⟨λb u q n _ _=>k b u (g b n) q,λb u q n _ _=>⟨u.slots,k b u (g b n) q⟩,λb u q n _=>by rw[ao (f b n)];exact n,λb u q _=>?_,
  λb j q=>by rw[ao (d b _ q λz=>z)];exact q,λb u j q=>by rw[ao (d b _ q λz=>z)];exact q,λb s q=>⟨#[],by rw[ao (d b _ q λz=>z),q];simp⟩⟩
 by_cases i:b=e
 .subst i;exact p
 .exact⟨u,k b u i q⟩
end
noncomputable def X0(h:Heap)(H:Hp):List Addr:=(C0 h.objs.size).filter λa=>(H a).isSome
noncomputable def uM(h:Heap)(H:Hp):Heap:=PySem.W.hideAll h (X0 h H)
theorem CG(h:Heap)(H:Hp):(uM h H).objs.size=h.objs.size:=PySem.W.hideAll_size _ _
theorem Ey(e:h.get? b=some o)(n:H b=none):(uM h H).get? b=some o:=
 hideAll_get _ e λa=>by have q:(H b).isSome=true:=(eJ.mp a).2;rw[n]at q;simp at q
theorem Js(e:(uM h H).get? b=some o):h.get? b=some o/\H b=none:=by
 have a:h.get? b=some o:=PySem.W.of_hideAll (X0 h H) e;refine⟨a,?_⟩;cases q:H b with
 |none=>rfl
 |some x=>have c:b∈X0 h H:=eJ.mpr ⟨u3.mpr (KB a),by simp[q]⟩;have z:(uM h H).get? b=none:=PySem.W.hideAll_none (X0 h H) c;rw[z]at e;cases e
noncomputable def Jt(g h:Heap)(L:Addr):List (Addr×Obj):=(C0 h.objs.size).filterMap λa=>if a=L\/(g.get? a).isSome=true then none else(h.get? a).map λo=>(a,o)
noncomputable def rest(g h:Heap)(L d:Addr):List (Addr×Obj):=(Jt g h L).filter λp=>decide (p.1≠d)
structure Mod(K:Frag)(mg:Str->Option Value)(base:Heap):Prop where
 Nd:K.In base
 glob:base.Ns mainGlobals mg
 blt:∃mb,base.Ns builtinsNs mb/\∀x:Str,x≠"__name__"->mb x=bootBuiltins x
 nolimit:base.NoLimit
 seer:base.NoSeer
set_option genInjectivity false in
set_option genSizeOf false in
structure Cx where
 prog:Program
 w:World
 K:Frag
 mg:Str->Option Value
 base:Heap
 A:Around
 N:List Str
 s₀:Shared
 H₀:Hp
 env:Env
 outer:List Env
 stack:List Env
 ex:List Addr
 fn:Str->Bool
 calm:Bool
 pn:List (Addr×Obj)
 xe:Value->Shared->Prop
noncomputable def frs(l:List Env):List Addr:=l.filterMap (·.frame)
abbrev Cx.fs(X:Cx):List Addr:=frs X.outer
def UQ(sc:Scope)(x:Str):Prop:=sc.names.lookup x=some .local\/sc.names.lookup x=some .cell\/sc.names.lookup x=some .free
def Loc(sc:Scope)(x:Str):Prop:=sc.names.lookup x=some .local\/sc.names.lookup x=some .cell
def Look(env:Env)(h:Heap)(m:Str->Option Value)(x:Str)(u:Value):Prop:=
 (env.kindOf x=some .local/\m x=some u)\/((env.kindOf x=some .cell\/env.kindOf x=some .free)/\∃c,env.cells.lookup x=some c/\h.IsCell c (some u))
structure Cx.Ok(X:Cx):Prop where
 mod:Mod X.K X.mg X.base
 kind:X.env.scope.kind=.function
 glob:X.env.globals=mainGlobals
 blt:X.env.builtins=builtinsNs
 above:X.s₀.heap.objs.size<=X.env.locals
 inj:∀x y c,X.env.cells.lookup x=some c->X.env.cells.lookup y=some c->x=y
 has:∀x,(X.env.kindOf x=some .cell\/X.env.kindOf x=some .free)->∃c,X.env.cells.lookup x=some c
 T6:∀x c,X.fn x=true->X.env.cells.lookup x=some c->X.s₀.heap.objs.size<=c
 hd:X.calm=true->X.A.handled=none
 frames:X.A.frames=some X.stack
 stk:X.stack=X.outer\/(X.stack=X.env::X.outer/\X.env.frame=some X.env.locals)
 X3:∀b∈X.ex,b≠X.env.locals/\∀x c,X.env.cells.lookup x=some c->c≠b
 bs:∀b o,X.base.get? b=some o->X.s₀.heap.get? b=some o/\X.H₀ b=none
 Je:X.base.objs.size<=X.s₀.heap.objs.size
 CH:∀b o,X.base.get? b=some o->b∉X.ex
 CI:∀b∈X.ex,b∉X.fs
 mV:X.s₀.heap.FunFrames X.base X.outer
 Nf:∀b∈X.fs,X.H₀ b=none
 tree:X.prog.given.tree=none
 UR:∀(A:Around)(s:Shared),A.frames=X.A.frames->A.depth=X.A.depth->(∀b o,X.base.get? b=some o->s.heap.get? b=some o)->PylongRoom (model X.prog X.w) A s
structure Inv(X:Cx)(pins:List (Addr×Obj))(σ:List (Option V))(H:Hp)(s:Shared):Prop where
 ok:X.Ok
 os:s.os=X.s₀.os
 bare:AllBare s.gens
 base:Un X.fs X.ex X.H₀ H X.s₀.heap s.heap
 loc:∃m,s.heap.Ns X.env.locals m/\∀(i:Nat)(x:Str)(v:V),X.N[i]?=some x->σ[i]?=some (some v)->UQ X.env.scope x->∃u,RelV v u/\Look X.env s.heap m x u
 cell:∀x c,X.env.cells.lookup x=some c->∃v,s.heap.IsCell c v
 free:H X.env.locals=none
 gf:∀x c,X.env.cells.lookup x=some c->H c=none
 pin:∀p∈X.pn++pins,s.heap.get? p.1=some p.2/\H p.1=none/\p.1≠X.env.locals/\p.1∉X.fs/\∀v,p.2.data≠.cell v
 hok:kR X.prog X.w H s.heap
 len:σ.length=X.N.length
section
variable{X:Cx}{pins:List (Addr×Obj)}{σ:List (Option V)}{H H':Hp}{s:Shared}{h':Heap}
theorem Cx.Ok.CJ(a:X.Ok)(e:X.base.get? b=some o):b∉X.fs:=λc=>by have:=(a.mV.mem c).1;rw[e]at this;cases this
theorem Inv.bs(I:Inv X pins σ H s):∀b o,X.base.get? b=some o->s.heap.get? b=some o/\H b=none:=λb o e=>⟨I.base.keep b o (I.ok.bs b o e).1 (I.ok.bs b o e).2 (I.ok.CJ e) (I.ok.CH b o e),I.base.free b o (I.ok.bs b o e).1 (I.ok.bs b o e).2 (I.ok.CH b o e)⟩
theorem Inv.bk(I:Inv X pins σ H s):∀b o,X.base.get? b=some o->s.heap.get? b=some o:=λb o e=>(I.bs b o e).1
theorem Inv.mod(I:Inv X pins σ H s):Mod X.K X.mg X.base:=I.ok.mod
theorem Inv.kX(I:Inv X pins σ H s):X.K.In s.heap:=I.ok.mod.Nd.keeps I.bk
theorem Inv.lt(I:Inv X pins σ H s):X.env.locals<s.heap.objs.size:=let⟨_,hn,_⟩:=I.loc;hn.lt
theorem Inv.sz(I:Inv X pins σ H s):X.s₀.heap.objs.size<=s.heap.objs.size:=Do I.ok.above (QR I.lt)
theorem Inv.YI(I:Inv X pins σ H s){a:Addr}(h:s.heap.objs.size<=a):a∉X.fs:=λc=>by obtain⟨_,o,b,_⟩:=I.ok.mV.mem c;exact absurd (Fu (KB b) (Do I.sz h)) (TC _)
theorem Inv.Ez(I:Inv X pins σ H s):∀x c,X.env.cells.lookup x=some c->c≠X.env.locals:=λx c e z=>by obtain⟨v,o,d,f⟩:=I.cell x c e;obtain⟨m,⟨g,h,i,a,b,_⟩,_⟩:=I.loc;rw[z,a]at d;cases d;rw[b]at f;cases f
theorem Inv.mV(I:Inv X pins σ H s):s.heap.FunFrames X.base X.outer:=by
 have f:∀(l:List Env),(∀b∈frs l,b∈X.fs)->X.s₀.heap.FunFrames X.base l->s.heap.FunFrames X.base l:=by
  intro l
  induction l with
  |nil=>intro _ _;trivial
  |cons env r h=>intro g m;obtain⟨n,⟨L,o,a,k,j,p⟩,i⟩:=m;have d:L∈X.fs:=g L (by unfold frs;rw[JP,a];exact FK);obtain⟨q,e⟩:=I.base.slot L o j (I.ok.Nf L d) d λz=>I.ok.CI L z d;exact⟨n,⟨L,_,a,k,e,p⟩,h (λb c=>g b (by unfold frs;rw[JP,a];exact FS _ c)) i⟩
 exact f X.outer (λ_ c=>c) I.ok.mV
theorem Inv.stack(I:Inv X pins σ H s):s.heap.FunFrames X.base X.stack:=by
 rcases I.ok.stk with e|⟨e,b⟩
 .rw[e];exact I.mV
 .rw[e];obtain⟨m,a,_⟩:=I.loc;refine .cons (by rw[I.ok.kind];decide) b a ?_ I.mV;exact Heap.get?_none_of_le (Do I.ok.Je I.ok.above)
theorem Inv.yM(I:Inv X pins σ H s):∀b∈frs X.stack,b∈X.env.locals::X.fs:=λb a=>by
 rcases I.ok.stk with e|⟨e,c⟩
 .rw[e]at a;exact FS _ a
 .rw[e]at a;unfold frs at a;rw[JP,c]at a;exact a
theorem Inv.jG(I:Inv X pins σ H s):∀b∈frs X.stack,H b=none:=λb a=>by
 rcases Hk.mp (I.yM b a)with e|a
 .rw[e];exact I.free
 .obtain⟨_,o,c,_⟩:=I.ok.mV.mem a;exact I.base.free b o c (I.ok.Nf b a) λz=>I.ok.CI b z a
theorem Inv.step{ch:List Addr}(I:Inv X pins σ H s)
 (f:∀b∈ch,(b∈X.ex\/X.s₀.heap.objs.size<=b)/\b≠X.env.locals/\(∀x c,X.env.cells.lookup x=some c->c≠b)/\∀p∈X.pn++pins,p.1≠b)
 (keep:∀b o,b≠X.env.locals->b∉X.fs->b∉ch->s.heap.get? b=some o->H b=none->h'.get? b=some o)
 (slot:∀b o,b≠X.env.locals->b∈X.fs->b∉ch->s.heap.get? b=some o->H b=none->∃J,h'.get? b=some {o with slots:=J})(free:∀b o,b∉ch->s.heap.get? b=some o->H b=none->H' b=none)
 (there:∀b o,b∉ch->s.heap.get? b=some o->∃A,h'.get? b=some A)
 (tups:∀b j,H b=some (.tup j)->H' b=some (.tup j))(kg:∀b o u,H b=some (.yK o u)->H' b=some (.yK o u))(kW:∀b ps,H b=some (.Nc ps)->∃C,H' b=some (.Nc (ps++C)))
 (ns:∀m,s.heap.Ns X.env.locals m->h'.Ns X.env.locals m)(K:kR X.prog X.w H' h')(U:AllBare g'):
 Inv X pins σ H' {s with heap:=h',gens:=g',drawn:=d',toks:=t'}:=by
 have B:∀b o,X.s₀.heap.get? b=some o->b≠X.env.locals:=λb o e=>SC (Fu (KB e) I.ok.above);have F:∀b o,X.s₀.heap.get? b=some o->b∉X.ex->b∉ch:=λb o e a t=>by
  rcases(f b t).1 with z|z
  .exact a z
  .exact absurd (Fu (KB e) z) (TC _)
 have g:∀x c,X.env.cells.lookup x=some c->∀v,s.heap.IsCell c v->h'.IsCell c v:=λx c e v ⟨o,y,L⟩=>by
  have E:c∉ch:=λz=>(f c z).2.2.1 x c e rfl;by_cases P:c∈X.fs
  .obtain⟨J,q⟩:=slot c o (I.Ez x c e) P E y (I.gf x c e);exact⟨_,q,L⟩
  .exact⟨o,keep c o (I.Ez x c e) P E y (I.gf x c e),L⟩
 refine⟨I.ok,I.os,U,⟨λb o e n t a=>?_,λb o e n t a=>?_,λb o e n a=>?_,λb o e a=>?_,λb j e=>tups b j (I.base.tups b j e),λb o j e=>kg b o j (I.base.kg b o j e),λb ps e=>?_⟩,?_,λx c e=>?_,?_,λx c e=>?_,λp O=>?_,K,I.len⟩
 .exact keep b o (B b o e) t (F b o e a) (I.base.keep b o e n t a) (I.base.free b o e n a)
 .obtain⟨J,h⟩:=I.base.slot b o e n t a;obtain⟨G,D⟩:=slot b _ (B b o e) t (F b o e a) h (I.base.free b o e n a);exact⟨G,D⟩
 .obtain⟨A,h⟩:=I.base.there b o e a;exact free b A (F b o e a) h (I.base.free b o e n a)
 .obtain⟨A,h⟩:=I.base.there b o e a;exact there b A (F b o e a) h
 .obtain⟨R,h⟩:=I.base.kW b ps e;obtain⟨Q,D⟩:=kW b _ h;exact⟨R++Q,by rw[D,dy]⟩
 .obtain⟨m,S,T⟩:=I.loc;refine⟨m,ns m S,λi x v h D Y=>?_⟩;obtain⟨u,r,l⟩:=T i x v h D Y;refine⟨u,r,?_⟩;rcases l with l|⟨k,c,e,z⟩
  .exact .inl l
  .exact .inr ⟨k,c,e,g x c e _ z⟩
 .obtain⟨v,z⟩:=I.cell x c e;exact⟨v,g x c e v z⟩
 .obtain⟨m,⟨o,_,_,y,_⟩,_⟩:=I.loc;exact free _ o (λz=>(f _ z).2.1 rfl) y I.free
 .obtain⟨v,o,y,L⟩:=I.cell x c e;exact free c o (λz=>(f c z).2.2.1 x c e rfl) y (I.gf x c e)
 .obtain⟨e,n,N,M,d⟩:=I.pin p O;have E:p.1∉ch:=λz=>(f p.1 z).2.2.2 p O rfl;exact⟨keep p.1 p.2 N M E e n,free p.1 p.2 E e n,N,M,d⟩
theorem Inv.un(I:Inv X pins σ H s)(u:Un X.fs [] H H' s.heap h')(c:kR X.prog X.w H' h'):Inv X pins σ H' {s with heap:=h',toks:=t'}:=by obtain⟨m,⟨o,t,v,g,r⟩,_⟩:=id I.loc;obtain⟨l,j⟩:=u.any g I.free (by simp);exact I.step (g':=s.gens) (d':=s.drawn) (ch:=[]) (λ_ z=>nomatch z) (λb o _ d _ e n=>u.keep b o e n d (by simp)) (λb o _ d _ e n=>u.slot b o e n d (by simp)) (λb o _ e n=>u.free b o e n (by simp)) (λb o _ e=>u.there b o e (by simp)) u.tups u.kg u.kW (λq i=>by obtain⟨p,f,k,a,h⟩:=i;rw[g]at a;cases a;exact⟨_,f,k,j,h⟩) c I.bare
theorem Inv.call(I:Inv X pins σ H s)(u:Un (frs X.stack) ch H H' s.heap h')(g:kR X.prog X.w H' h')(q:AllBare g')
 (f:∀b∈ch,(b∈X.ex\/X.s₀.heap.objs.size<=b)/\b≠X.env.locals/\(∀x c,X.env.cells.lookup x=some c->c≠b)/\∀p∈X.pn++pins,p.1≠b):
 Inv X pins σ H' {s with heap:=h',gens:=g',drawn:=d',toks:=t'}:=by
 obtain⟨m,⟨o,C,D,j,r⟩,_⟩:=id I.loc;obtain⟨y,h⟩:=u.any j I.free λz=>(f _ z).2.1 rfl;exact I.step (ch:=ch) f (λb o h t a e n=>u.keep b o e n (λz=>(Hk.mp (I.yM b z)).elim h t) a) (λb o _ _ a e n=>u.any e n a) (λb o a e n=>u.free b o e n a) (λb o a e=>u.there b o e a) u.tups u.kg u.kW (λB l=>by obtain⟨A,i,v,d,k⟩:=l;rw[j]at d;cases d;exact⟨_,i,v,h,k⟩) g q
theorem Inv.turned(I:Inv X pins σ H s)(k:∀b o,b≠a->s.heap.get? b=some o->h'.get? b=some o)(i:H a=none)(g:a≠X.env.locals)
 (y:a∈X.ex\/X.s₀.heap.objs.size<=a)(w:∀x c,X.env.cells.lookup x=some c->c≠a)(t:∀p∈X.pn++pins,p.1≠a):Inv X pins σ H {s with heap:=h',toks:=t'}:=by
 have f:∀b u,H b=some u->b≠a:=λb u e z=>by rw[z,i]at e;cases e
 refine I.step (g':=s.gens) (d':=s.drawn) (ch:=[a]) (λb l=>?_) (λb o _ _ d e _=>k b o (λz=>d (by simp[z])) e) (λb o _ _ d e _=>⟨o.slots,k b o (λz=>d (by simp[z])) e⟩) (λ_ _ _ _ n=>n)
  (λb o d e=>⟨o,k b o (λz=>d (by simp[z])) e⟩) (λ_ _ e=>e) (λ_ _ _ e=>e) (λb C e=>⟨#[],by rw[e];simp⟩) (λm j=>?_) (λb u e=>?_) I.bare
 .have e:b=a:=by simpa using l
  subst e;exact⟨y,g,w,t⟩
 .obtain⟨o,A,B,h,r⟩:=j;exact⟨o,A,B,k _ o (dk g) h,r⟩
 .refine(I.hok b u e).stay (λc v d q=>k c v ?_ q) (λ_ q=>q) λ_ _ q=>q;rcases d with z|z
  .rw[z];exact f b u e
  .exact f c _ z
theorem Inv.tok(I:Inv X pins σ H s)(t:Nat):Inv X pins σ H {s with toks:=t}:=I.un (h':=s.heap) (t':=t) Un.refl I.hok
theorem Inv.kept(I:Inv X pins σ H s)(k:∀b u,s.heap.get? b=some u->h'.get? b=some u):Inv X pins σ H {s with heap:=h',toks:=t'}:=I.un (Un.kept k) (I.hok.kept k)
theorem Inv.laid{a:Addr}(I:Inv X pins σ H s)(k:∀b u,s.heap.get? b=some u->h'.get? b=some u)(d:s.heap.objs.size<=a)(c:cJ X.prog X.w (upd H a o) h' a o):
 Inv X pins σ (upd H a o) {s with heap:=h',toks:=t'}:=I.un (Un.laid k d (I.hok.fresh d)) (I.hok.laid k d c)
theorem Inv.write(I:Inv X pins σ H s)(c:XZ (H x))(d:e=x\/H e=some (.own x))(k:∀b u,b≠e->s.heap.get? b=some u->h'.get? b=some u)(f:∃u,h'.get? e=some u)
 (a:cJ X.prog X.w (upd H x o) h' x o):Inv X pins σ (upd H x o) {s with heap:=h',toks:=t'}:=I.un (Un.write c d k f) (I.hok.write c d k f a)
theorem Inv.AL(I:Inv X pins σ H s)(h:∀p∈a,s.heap.get? p.1=some p.2/\H p.1=none/\p.1≠X.env.locals/\p.1∉X.fs/\∀v,p.2.data≠.cell v):Inv X a σ H s:=
 ⟨I.ok,I.os,I.bare,I.base,I.loc,I.cell,I.free,I.gf,λp b=>(Re.mp b).elim (λz=>I.pin p (fe _ z)) (h p),I.hok,I.len⟩
theorem pL{N:List Str}(c:N.Nodup){i j:Nat}(a:N[i]?=some x)(b:N[j]?=some x):i=j:=by obtain⟨g,e⟩:=Gc.mp a;obtain⟨f,d⟩:=Gc.mp b;exact(List.getElem_inj c).mp (e.trans d.symm)
theorem tT(I:Inv X pins σ H s)(hN:X.N.Nodup)(O:X.N[i]?=some x)(B:Loc X.env.scope x)(r:RelV v u)
 (h:∀s',Inv X pins (σ.set i (some v)) H s'->(∃a,Heap.SameBut a s.heap s'.heap/\(a=X.env.locals\/X.env.cells.lookup x=some a))->Q () s')(hf:X.fn x=true\/X.env.scope.names.lookup x=some .local:=by first|exact .inl rfl|exact .inr rfl|assumption):wpAny M A (storeName X.env x u) Q E s:=by
 obtain⟨m,hn,hl⟩:=id I.loc;have P:(X.env.scope.kind==.class||(X.env.scope.kind==.module&&X.env.locals !=X.env.globals))=false:=by rw[I.ok.kind];rfl
 have Ju:i<σ.length:=by rw[I.len];exact(Gc.mp O).1
 have Ez:=I.Ez;have g:∀{a:Addr}{h':Heap},(∃o,s.heap.get? a=some o/\H a=none)->Heap.SameBut a s.heap h'->kR X.prog X.w H h':=λ{a h'} ha f b ob e=>by
  obtain⟨_,_,C⟩:=ha;refine(I.hok b ob e).stay (λc T t q=>(f.2 c ?_).trans q) (λ_ q=>q) λ_ _ q=>q;rintro rfl;rcases t with rfl|t
  .rw[C]at e;cases e
  .rw[C]at t;cases t
 rcases B with F|F
 .refine wpAny_storeName_local F hn (λh' hn' f=>?_) P;obtain⟨oL,_,_,hoL,_⟩:=id hn;refine h _ ⟨I.ok,I.os,I.bare,⟨λb o e n K B=>?_,λb o e n K B=>?_,I.base.free,λb o e B=>?_,I.base.tups,I.base.kg,I.base.kW⟩,⟨_,hn',λj y Z l D e3=>?_⟩,λy c e=>?_,I.free,I.gf,λp hp=>?_,g ⟨oL,hoL,I.free⟩ f,by simpa using I.len⟩ ⟨_,f,.inl rfl⟩
  .exact(f.2 b (SC (Fu (KB e) I.ok.above))).trans (I.base.keep b o e n K B)
  .obtain⟨sl,l⟩:=I.base.slot b o e n K B;exact⟨sl,(f.2 b (SC (Fu (KB e) I.ok.above))).trans l⟩
  .obtain⟨o',l⟩:=I.base.there b o e B;exact⟨o',(f.2 b (SC (Fu (KB e) I.ok.above))).trans l⟩
  .by_cases G:j=i
   .subst G;rw[O]at l;cases l;rw[W1 Ju]at D;cases D;exact⟨u,r,.inl ⟨F,by simp⟩⟩
   .rw[OF (dk G)]at D;obtain⟨u',r',q⟩:=hl j y Z l D e3;refine⟨u',r',?_⟩;rcases q with⟨k,e⟩|⟨k,c,e,z⟩
    .refine .inl ⟨k,?_⟩;have:y≠x:=λe=>G (pL hN l (e▸O));simp[this,e]
    .exact .inr ⟨k,c,e,z.sameBut f (Ez y c e)⟩
  .obtain⟨T,z⟩:=I.cell y c e;exact⟨T,z.sameBut f (Ez y c e)⟩
  .obtain⟨e,n,U,nf,d⟩:=I.pin p hp;exact⟨(f.2 p.1 U).trans e,n,U,nf,d⟩
 .have J:X.fn x=true:=by
   rcases hf with z|z
   .exact z
   .rw[z]at F;cases F
  obtain⟨c,t⟩:=I.ok.has x (.inl F);obtain⟨T,z⟩:=I.cell x c t;refine wpAny_storeName_cell I.ok.kind F t z (λh' S f=>?_);obtain⟨oc,L,YK⟩:=id z;refine h {s with heap:=h'} ⟨I.ok,I.os,I.bare,⟨λb o e n K B=>?_,λb o e n K B=>?_,I.base.free,λb o e B=>?_,I.base.tups,I.base.kg,I.base.kW⟩,⟨m,hn.sameBut f (dk (Ez x c t)),λj y Z l D e3=>?_⟩,λy Y e=>?_,I.free,I.gf,λp hp=>?_,g ⟨oc,L,I.gf x c t⟩ f,by simpa using I.len⟩ ⟨c,f,.inr t⟩
  .exact(f.2 b (SC (Fu (KB e) (I.ok.T6 x c J t)))).trans (I.base.keep b o e n K B)
  .obtain⟨sl,l⟩:=I.base.slot b o e n K B;exact⟨sl,(f.2 b (SC (Fu (KB e) (I.ok.T6 x c J t)))).trans l⟩
  .obtain⟨o',l⟩:=I.base.there b o e B;exact⟨o',(f.2 b (SC (Fu (KB e) (I.ok.T6 x c J t)))).trans l⟩
  .by_cases G:j=i
   .subst G;rw[O]at l;cases l;rw[W1 Ju]at D;cases D;exact⟨u,r,.inr ⟨.inl F,c,t,S⟩⟩
   .rw[OF (dk G)]at D;obtain⟨u',r',q⟩:=hl j y Z l D e3;refine⟨u',r',?_⟩;rcases q with q|⟨k,Y,e,z'⟩
    .exact .inl q
    .refine .inr ⟨k,Y,e,z'.sameBut f ?_⟩;rintro rfl;exact G (pL hN l (I.ok.inj _ _ _ e t▸O))
  .by_cases R:Y=c
   .subst R;exact⟨_,S⟩
   .obtain⟨w2,z2⟩:=I.cell y Y e;exact⟨w2,z2.sameBut f R⟩
  .obtain⟨e,n,U,nf,d⟩:=I.pin p hp;refine⟨(f.2 p.1 ?_).trans e,n,U,nf,d⟩;intro q;rw[q,L]at e;have q':oc=p.2:=OK e;exact d T (by rw[<-q'];exact YK)
theorem jb(I:Inv X pins σ H s)(d:X.N.Nodup)(b:X.N[i]?=some x)(a:Loc X.env.scope x)(r:RelV v u)
 (h:∀s',Inv X pins (σ.set i (some v)) H s'->Q () s')(c:X.fn x=true\/X.env.scope.names.lookup x=some .local:=by first|exact .inl rfl|exact .inr rfl|assumption):wpAny M A (storeName X.env x u) Q E s:=
 tT I d b a r (λs' e _=>h s' e) c
theorem Inv.EA(I:Inv X pins σ H s)(g:s'.os=s.os)(u:Un (frs X.stack) ch H H' s.heap s'.heap)(a:kR X.prog X.w H' s'.heap)(h:AllBare s'.gens)
 (d:∀b∈ch,(b∈X.ex\/X.s₀.heap.objs.size<=b)/\b≠X.env.locals/\(∀x c,X.env.cells.lookup x=some c->c≠b)/\∀p∈X.pn++pins,p.1≠b):Inv X pins σ H' s':=by
 obtain⟨h',g',d',t',f⟩:=s';have e:f=s.os:=g;subst e;exact I.call (g':=g') (t':=t') (d':=d') u a h d
end
abbrev XK:=Value->Option Addr->Hp->Prop
abbrev St:=List (Option V)
abbrev VK:=V->Hp->Prop
abbrev TE:=St->Hp->VK->Prop
abbrev TT:=St->Hp->(Bool->Hp->Prop)->Prop
abbrev TA:=St->Hp->(List V->Hp->Prop)->Prop
set_option genInjectivity false in
set_option genSizeOf false in
structure Ends where
 nx:St->Hp->Prop
 rt:VK
 bk:St->Hp->Prop:=λ_ _=>False
 ct:St->Hp->Prop:=λ_ _=>False
abbrev TS:=Ends->St->Hp->Prop
def EP(X:Cx)(a:List (Addr×Obj))(c:St)(Q:VK)(u:Value)(s':Shared):Prop:=∃v b,Inv X a c b s'/\RelV v u/\Q v b
def TP(X:Cx)(a:List (Addr×Obj))(d:St)(Q:Bool->Hp->Prop)(b:Bool)(s':Shared):Prop:=∃c,Inv X a d c s'/\Q b c
def AP(X:Cx)(a:List (Addr×Obj))(d:St)(Q:List V->Hp->Prop)(us:List Value)(s':Shared):Prop:=∃b c,Inv X a d c s'/\Vals b us/\Q b c
def SP(X:Cx)(b:List (Addr×Obj))(D:Ends)(f:Flow)(s':Shared):Prop:=
 match f with
 |.next=>∃a c,Inv X b a c s'/\D.nx a c
 |.brk=>∃a c,Inv X b a c s'/\D.bk a c
 |.cont=>∃a c,Inv X b a c s'/\D.ct a c
 |.ret u=>∃v a c,Inv X b a c s'/\RelV v u/\D.rt v c
def PE(X:Cx)(e:Expr)(t:TE):Prop:=
 ∀(a:List (Addr×Obj))(s:Shared)(b:St)(H:Hp)(Q:VK),Inv X a b H s->t b H Q->wpAny (model X.prog X.w) X.A (eval e X.env) (EP X a b Q) X.xe s
def PT(X:Cx)(e:Expr)(t:TT):Prop:=
 ∀(a:List (Addr×Obj))(s:Shared)(b:St)(H:Hp)(Q:Bool->Hp->Prop),Inv X a b H s->t b H Q->wpAny (model X.prog X.w) X.A (isTrue e X.env (eval e X.env)) (TP X a b Q) X.xe s
def PW(X:Cx)(e:Expr)(t:TT):Prop:=
 ∀(b:Sem Value)(a:List (Addr×Obj))(s:Shared)(c:St)(H:Hp)(Q:Bool->Hp->Prop),Inv X a c H s->t c H Q->wpAny (model X.prog X.w) X.A (isTrue e X.env b) (TP X a c Q) X.xe s
theorem PW.pt(h:PW X e t):PT X e t:=h _
def PA(X:Cx)(d:List Expr)(t:TA):Prop:=
 ∀(c:Pos)(a:List (Addr×Obj))(s:Shared)(b:St)(H:Hp)(Q:List V->Hp->Prop),Inv X a b H s->t b H Q->wpAny (model X.prog X.w) X.A (spliced (backTo c (starEach d X.env))) (AP X a b Q) X.xe s
def PS(X:Cx)(st:Stmt)(t:TS):Prop:=
 ∀(a:List (Addr×Obj))(s:Shared)(b:St)(H:Hp)(D:Ends),Inv X a b H s->t D b H->wpAny (model X.prog X.w) X.A (exec st X.env) (SP X a D) X.xe s
def wU(X:Cx)(st:List Stmt)(t:TS):Prop:=
 ∀(a:List (Addr×Obj))(s:Shared)(b:St)(H:Hp)(D:Ends),Inv X a b H s->t D b H->wpAny (model X.prog X.w) X.A (execs st X.env) (SP X a D) X.xe s
theorem cg(h:wpAny M A t Q E s)(c:∀a s,Q a s->b a s):wpAny M A t b E s:=eP h c λ_ _ x=>x
section
variable{X:Cx}
theorem bin(t:PE X a ta)(r:PE X b k){d:St}{R:V->V->Hp->Prop}(I:Inv X c d H s)(h:ta d H λx H1=>k d H1 λy e=>R x y e)
 {α:Type}{Q:α->Shared->Prop}{f:Value->Value->Sem α}
 (q:∀v u j x y e,Inv X c d e j->RelV x v->RelV y u->R x y e->wpAny (model X.prog X.w) X.A (f v u) Q X.xe j):
 wpAny (model X.prog X.w) X.A (eval a X.env) (λv i=>wpAny (model X.prog X.w) X.A (eval b X.env) (λu g=>wpAny (model X.prog X.w) X.A (f v u) Q X.xe g) X.xe i) X.xe s:=by
 refine cg (t c s d H _ I h) λv l ⟨x,H1,I1,n,p⟩=>?_;refine cg (r c l d H1 _ I1 p) λu j ⟨y,e,z,m,o⟩=>?_;exact q v u j x y e z n m o
def mW(i:Nat):TE:=λa H Q=>∃v,a[i]?=some (some v)/\Q v H
def tC(v:V):TE:=λ_ H Q=>Q v H
theorem yN{pos:Pos}(w:X.N[i]?=some x)(o:UQ X.env.scope x)(g:(x==("__debug__":Str))=false:=by decide)(j:(x==("__classdict__":Str))=false:=by decide):PE X (.Name x pos) (mW i):=by
 intro f s n H Q I h;obtain⟨v,e,h⟩:=h;obtain⟨m,p,t⟩:=I.loc;obtain⟨u,r,l⟩:=t i x v w e o;have d:EP X f n Q u s:=⟨v,H,I,r,h⟩;rcases l with⟨b,q⟩|⟨b,c,k,a⟩
 .exact wpAny_Name (wpAny_loadName_local I.ok.kind b p q d) g
 .rcases b with b|b
  .exact wpAny_Name (wpAny_loadName_cell I.ok.kind b k a d) g
  .exact wpAny_Name (wpAny_loadName_free I.ok.kind b k a d j) g
theorem mX:PE X (.Constant (.int i) j pos) (tC (.int i)):=λ_ _ _ H _ I h=>wpAny_Constant_int ⟨.int i,H,I.tok _,⟨_,rfl⟩,h⟩
theorem US:PE X (.Constant (.bool b) j pos) (tC (.bl b)):=λ_ _ _ H _ I h=>Constant_bool ⟨.bl b,H,I,rfl,h⟩
theorem OD:PE X (.Constant .none j pos) (tC .bV):=λ_ _ _ H _ I h=>Constant_none ⟨.bV,H,I,rfl,h⟩
theorem OE:PE X (.Constant (.str x) j pos) (tC (.str x)):=λ_ _ _ H _ I h=>Calls.Constant_str ⟨.str x,H,I.tok _,⟨_,rfl⟩,h⟩
def Gl(X:Cx)(x:Str):Prop:=X.env.kindOf x=some .globalImplicit
theorem gg{b:St}{u:Value}{pos:Pos}{Q:Value->Shared->Prop}(I:Inv X a b H s)(d:Gl X x)(c:X.mg x=some u)(h:Q u s)
 (e:(x==("__debug__":Str))=false:=by decide):wpAny (model X.prog X.w) X.A (eval (.Name x pos) X.env) Q E s:=
 Calls.Name_function_global I.ok.kind d (Calls.loadGlobal_global (by rw[I.ok.glob];exact I.mod.glob.keeps I.bk) c h) e
theorem jc{E:Value->Shared->Prop}{b:St}{u:Value}{pos:Pos}{Q:Value->Shared->Prop}(I:Inv X a b H s)(f:Gl X x)(e:X.mg x=none)(c:bootBuiltins x=some u)(h:Q u s)
 (d:x≠"__name__":=by decide)(g:(x==("__debug__":Str))=false:=by decide):wpAny (model X.prog X.w) X.A (eval (.Name x pos) X.env) Q E s:=by
 obtain⟨k,j,i⟩:=I.mod.blt;exact Calls.Name_function_global I.ok.kind f (Calls.loadGlobal_builtin (by rw[I.ok.glob];exact I.mod.glob.keeps I.bk) e (by rw[I.ok.blt];exact j.keeps I.bk) ((i x d).trans c) h) g
theorem Jv(b:Gl X x)(a:X.mg x=some u)(r:RelV v u)(c:(x==("__debug__":Str))=false:=by decide):PE X (.Name x pos) (tC v):=
 λ_ _ _ H _ I h=>gg I b a ⟨v,H,I,r,h⟩ c
theorem AM{pos:Pos}(d:Gl X x)(c:X.mg x=none)(a:bootBuiltins x=some u)(r:RelV v u)(b:x≠"__name__":=by decide)(e:(x==("__debug__":Str))=false:=by decide):PE X (.Name x pos) (tC v):=
 λ_ _ _ H _ I h=>jc I d c a ⟨v,H,I,r,h⟩ b e
variable{a b:Expr}{ta tb:TE}{pos:Pos}
def tB(t:TE):TT:=λd H Q=>t d H λx e=>∃c,x=.bl c/\Q c e
theorem EB(h:PE X e t)(l:∀c,isTrue e X.env c=(do let v<-c;standAt e.pos;holding [v] (truthy v)):=by intro _;rfl):PT X e (tB t):=by intro f s g H Q I k;refine isTrue_plain (cg (h f s g H _ I k) λv n ⟨x,m,I1,i,j⟩=>?_) (l _);obtain⟨d,rfl,q⟩:=j;cases i;exact kA ⟨m,I1,q⟩
variable{tA X5:TT}{rest:List Expr}
def YL(t u:TT):TT:=λd H Q=>t d H λc e=>if c=true then u d e Q else Q false e
def tOr(t u:TT):TT:=λd H Q=>t d H λc e=>if c=true then Q true e else u d e Q
def YM(t:TT):TT:=λd H Q=>t d H λc e=>Q (!c) e
theorem AN(g:PT X a tA):PW X (.BoolOp .And [a] pos) tA:=by
 intro i d s f H Q I h;refine isTrue_and (cg (g d s f H Q I h) λc j e=>?_);cases c with
 |true=>exact isTrue_and_nil e
 |false=>exact e
theorem EC(g:PT X a tA):PW X (.BoolOp .Or [a] pos) tA:=by
 intro i d s f H Q I h;refine isTrue_or (cg (g d s f H Q I h) λc j e=>?_);cases c with
 |false=>exact isTrue_or_nil e
 |true=>exact e
theorem ED(l:PT X a tA)(k:PW X (.BoolOp .And (b::rest) pos) X5):PW X (.BoolOp .And (a::b::rest) pos) (YL tA X5):=by
 intro i d s e H Q I h;refine isTrue_and (cg (l d s e H _ I h) λc j ⟨g,I1,f⟩=>?_);cases c with
 |true=>exact k i d j e g Q I1 f
 |false=>exact⟨g,I1,f⟩
theorem Ni(l:PT X a tA)(k:PW X (.BoolOp .Or (b::rest) pos) X5):PW X (.BoolOp .Or (a::b::rest) pos) (tOr tA X5):=by
 intro i d s e H Q I h;refine isTrue_or (cg (l d s e H _ I h) λc j ⟨g,I1,f⟩=>?_);cases c with
 |true=>exact⟨g,I1,f⟩
 |false=>exact k i d j e g Q I1 f
theorem OG(f:PT X a tA):PT X (.UnaryOp .Not a pos) (YM tA):=by intro d s e H Q I h;exact isTrue_not (f d s e H (λc g=>Q (!c) g) I h)
def UT(ta tb:TE):TE:=λd H Q=>ta d H λx e=>∃c,x=.bl c/\if c=true then tb d e Q else Q (.bl false) e
def YN(ta tb:TE):TE:=λd H Q=>ta d H λx e=>∃c,x=.bl c/\if c=true then Q (.bl true) e else tb d e Q
def UU(ta:TE):TE:=λd H Q=>ta d H λx e=>∃c,x=.bl c/\Q (.bl (!c)) e
theorem EF(h:PE X a t):PE X (.BoolOp op [a] pos) t:=λc s d H Q I e=>BoolOp_one (h c s d H Q I e)
theorem OH(l:PE X a ta)(k:PE X (.BoolOp .And (b::rest) pos) tb):PE X (.BoolOp .And (a::b::rest) pos) (UT ta tb):=by
 intro d s f H Q I h;refine BoolOp_and (cg (l d s f H _ I h) λv i ⟨x,g,I1,j,e⟩=>?_);obtain⟨c,rfl,e⟩:=e;cases j;refine kA ?_;cases c with
 |true=>exact k d i f g Q I1 e
 |false=>exact⟨.bl false,g,I1,rfl,e⟩
theorem UW(l:PE X a ta)(k:PE X (.BoolOp .Or (b::rest) pos) tb):PE X (.BoolOp .Or (a::b::rest) pos) (YN ta tb):=by
 intro d s f H Q I h;refine BoolOp_or (cg (l d s f H _ I h) λv i ⟨x,g,I1,j,e⟩=>?_);obtain⟨c,rfl,e⟩:=e;cases j;refine kA ?_;cases c with
 |false=>exact k d i f g Q I1 e
 |true=>exact⟨.bl true,g,I1,rfl,e⟩
theorem OI(i:PE X a ta):PE X (.UnaryOp .Not a pos) (UU ta):=by intro d s f H Q I h;refine UnaryOp_ (cg (i d s f H _ I h) λv k ⟨x,j,I1,g,e⟩=>?_);obtain⟨c,rfl,e⟩:=e;cases g;exact not_of (kA ⟨.bl (!c),j,I1,rfl,e⟩)
def tIf(t:TT)(ta tb:TE):TE:=λd H Q=>t d H λc e=>if c=true then ta d e Q else tb d e Q
theorem EG(k:PT X c tA)(m:PE X a ta)(l:PE X b tb):PE X (.IfExp c a b pos) (tIf tA ta tb):=by
 intro e s f H Q I h;refine wpAny_IfExp (cg (k e s f H _ I h) λd g ⟨j,I1,i⟩=>?_);cases d with
 |true=>exact m e g f j Q I1 i
 |false=>exact l e g f j Q I1 i
end
def jU(K:Frag)(H:Hp)(a:Addr)(c:List V):Prop:=
 Rd H a (.lst c)\/
  ∃(o:Obj)(b:Array Value)(n:Nat),K.lookup a=some o/\o.cls=.type "list"/\o.dict=none/\o.data=.seq b n/\b.size<=sizeLine/\Vals c b.toList
def mY(K:Frag)(H:Hp)(a:Addr)(c:List V):Prop:=
 Rd H a (.tup c)\/
  ∃(o:Obj)(b:Array Value)(n:Nat),K.lookup a=some o/\o.cls=.type "tuple"/\o.data=.seq b n/\b.size<=sizeLine/\Vals c b.toList
noncomputable def YO:Value->Option V
 |.none=>some .bV
 |.bool b=>some (.bl b)
 |.int i _=>some (.int i)
 |.str x _=>some (.str x)
 |.bytes b _=>some (.Ef b)
 |.float b _=>some (.OB b)
 |.ref a=>some (.ref a)
 |.type n=>some (.ty n)
 |_=>none
theorem RelV.abs(r:RelV x u):YO u=some x:=by
 cases x with
 |bV=>cases r;rfl
 |bl _=>cases r;rfl
 |int _=>obtain⟨t,rfl⟩:=r;rfl
 |str _=>obtain⟨t,rfl⟩:=r;rfl
 |Ef _=>obtain⟨t,rfl⟩:=r;rfl
 |OB _=>obtain⟨t,rfl⟩:=r;rfl
 |ref _=>cases r;rfl
 |ty _=>cases r;rfl
theorem RelV.inj(r:RelV x u)(q:RelV y u):x=y:=OK (r.abs.symm.trans q.abs)
theorem Vals.inj:∀{b a:List V}{us:List Value},Vals b us->Vals a us->b=a
 |_,_,_,.nil,.nil=>rfl
 |_,_,_,.cons r t,.cons c t'=>by rw[r.inj c,Vals.inj t t']
section
variable{X:Cx}{pins:List (Addr×Obj)}{σ:St}{H:Hp}{s:Shared}{a:Addr}{xs ys:List V}
theorem jU.of{K:Frag}(h:H a=some (.lst xs)):jU K H a xs:=.inl (.inl h)
theorem mY.of{K:Frag}(h:H a=some (.tup xs)):mY K H a xs:=.inl (.inl h)
theorem Inv.list(I:Inv X pins σ H s)(h:jU X.K H a xs):∃b:List Value,Vals xs b/\PlainL s.heap a b.toArray/\xs.length<=sizeLine:=by
 rcases h with h|⟨o,b,n,d,g,f,c,hz,r⟩
 .obtain⟨z,b,n,r,e⟩:=h.ok I.hok;exact⟨b,r,⟨_,n,e,rfl,rfl,rfl⟩,z⟩
 .refine⟨b.toList,r,⟨o,n,I.kX a o d,g,f,by simpa using c⟩,?_⟩;have e:=r.length;simp only[J9]at e;lia
theorem Inv.tuple(I:Inv X pins σ H s)(h:mY X.K H a xs):∃b:List Value,Vals xs b/\IsTup s.heap a b.toArray/\xs.length<=sizeLine:=by
 rcases h with h|⟨o,b,n,d,f,c,hz,r⟩
 .obtain⟨z,b,r,p⟩:=h.ok I.hok;exact⟨b,r,p,z⟩
 .refine⟨b.toList,r,⟨o,I.kX a o d,f,n,by simpa using c⟩,?_⟩;have e:=r.length;simp only[J9]at e;lia
theorem Inv.pM(I:Inv X pins σ H s)(h:jU X.K H a xs)(h':jU X.K H a ys):xs=ys:=by
 obtain⟨c,r,⟨o,n,e,_,_,d⟩,_⟩:=I.list h;obtain⟨b,i,⟨j,k,f,_,_,g⟩,_⟩:=I.list h';rw[e]at f;cases f;rw[d]at g;injection g with d1 _;have:c=b:=by simpa using Q1 hH d1
 subst this;exact r.inj i
theorem Inv.CK(I:Inv X pins σ H s)(h:mY X.K H a xs)(h':mY X.K H a ys):xs=ys:=by
 obtain⟨c,r,⟨o,e,_,n,d⟩,_⟩:=I.tuple h;obtain⟨b,i,⟨j,f,_,k,g⟩,_⟩:=I.tuple h';rw[e]at f;cases f;rw[d]at g;injection g with d1 _;have:c=b:=by simpa using Q1 hH d1
 subst this;exact r.inj i
end
abbrev Cx.kY(X:Cx)(E:Value->Shared->Prop):Cx:={X with xe:=E}
abbrev Cx.X6(X:Cx):Cx:=X.kY λ_ _=>False
theorem Cx.Ok.kY{X:Cx}(a:X.Ok)(E:Value->Shared->Prop):(X.kY E).Ok:=
 ⟨a.mod,a.kind,a.glob,a.blt,a.above,a.inj,a.has,a.T6,a.hd,a.frames,a.stk,a.X3,a.bs,a.Je,a.CH,a.CI,a.mV,a.Nf,a.tree,a.UR⟩
theorem Cx.Ok.pN{X:Cx}(a:(X.kY E).Ok):X.Ok:=
 ⟨a.mod,a.kind,a.glob,a.blt,a.above,a.inj,a.has,a.T6,a.hd,a.frames,a.stk,a.X3,a.bs,a.Je,a.CH,a.CI,a.mV,a.Nf,a.tree,a.UR⟩
section
variable{X:Cx}{pins:List (Addr×Obj)}{σ:St}{H:Hp}{s:Shared}{E:Value->Shared->Prop}
theorem Inv.kY(I:Inv X pins σ H s)(E:Value->Shared->Prop):Inv (X.kY E) pins σ H s:=⟨I.ok.kY E,I.os,I.bare,I.base,I.loc,I.cell,I.free,I.gf,I.pin,I.hok,I.len⟩
theorem Inv.pN(I:Inv (X.kY E) pins σ H s):Inv X pins σ H s:=⟨I.ok.pN,I.os,I.bare,I.base,I.loc,I.cell,I.free,I.gf,I.pin,I.hok,I.len⟩
end
section
variable{X:Cx}{st:Stmt}{rest:List Stmt}{t u:TS}{e:Expr}{te:TE}{pos:Pos}
def UX:TS:=λD a H=>D.nx a H
def YQ(t u:TS):TS:=λD a H=>t {D with nx:=u D} a H
theorem Jw:wU X [] UX:=λ_ _ a H _ I h=>oT ⟨a,H,I,h⟩
theorem dw(i:PS X st t)(g:wU X rest u):wU X (st::rest) (YQ t u):=by
 intro a s c H D I h;refine wpAny_execs_cons (cg (i a s c H {D with nx:=u D} I h) λf d q=>?_);cases f with
 |next=>obtain⟨b,k,j,q⟩:=q;exact g a d b k D j q
 |ret v=>exact q
 |brk=>exact q
 |cont=>exact q
theorem uO(c:PS X st t):wU X [st] t:=by
 intro a s b H D I h;refine wpAny_execs_cons (cg (c a s b H D I h) λf d q=>?_);cases f with
 |next=>exact oT q
 |ret v=>exact q
 |brk=>exact q
 |cont=>exact q
def OJ:TS:=λD a H=>D.bk a H
theorem EH:PS X (.Break pos) OJ:=λ_ _ a H _ I h=>wpAny_Break ⟨a,H,I,h⟩
theorem Inv.quiet{b:St}(I:Inv X a b H s):interactive X.env=false:=by simp[interactive,I.ok.kind]
def Nj(te:TE):TS:=λD a H=>te a H λ_ b=>D.nx a b
theorem Jx(f:PE X e te)(d:swapsWith e none pos.line X.env=pure false:=by rfl):PS X (.Expr e pos) (Nj te):=by intro a s b H D I h;exact wpAny_Expr_any (cg (f a s b H _ I h) λv i ⟨x,g,I1,j,c⟩=>⟨b,g,I1,c⟩) I.quiet d
def YR(te:TE):TS:=λD a H=>te a H D.rt
theorem mZ(f:PE X e te):PS X (.Return (some e) pos) (YR te):=by intro a s b H D I h;exact wpAny_Return_some (cg (f a s b H _ I h) λv i ⟨x,g,I1,c,d⟩=>⟨x,b,g,I1,c,d⟩)
def UY:TS:=λD _ H=>D.rt .bV H
theorem AO:PS X (.Return none pos) UY:=λ_ _ a H _ I h=>wpAny_Return_none ⟨.bV,a,H,I,rfl,h⟩
def YS(c:TT)(t u:TS):TS:=λD a H=>c a H λb d=>if b=true then t D a d else u D a d
theorem Nk(l:PT X c tc)(n:wU X a t)(m:wU X b u):PS X (.If c a b pos) (YS tc t u):=by
 intro f s g H D I h;refine wpAny_If (cg (l f s g H _ I h) λd i ⟨k,I1,j⟩=>?_);cases d with
 |true=>exact n f i g k D I1 j
 |false=>exact m f i g k D I1 j
end
abbrev TG:=V->St->Hp->(St->Hp->Prop)->Prop
abbrev Nl:=List V->St->Hp->(St->Hp->Prop)->Prop
def PG(X:Cx)(a:Expr)(t:TG):Prop:=
 ∀(b:List (Addr×Obj))(s:Shared)(d:St)(H:Hp)(v:V)(u:Value)(Q:St->Hp->Prop),Inv X b d H s->RelV v u->t v d H Q->
  wpAny (model X.prog X.w) X.A (assign a X.env u) (λ_ f=>∃c e,Inv X b c e f/\Q c e) X.xe s
def UZ(X:Cx)(g:List Expr)(t:Nl):Prop:=
 ∀(a:List (Addr×Obj))(s:Shared)(c:St)(H:Hp)(d:List V)(e:List Value)(Q:St->Hp->Prop),Inv X a c H s->Vals d e->t d c H Q->
  wpAny (model X.prog X.w) X.A (assignInOrder ((assignEach g X.env).map (·.2)) e) (λ_ h=>∃b f,Inv X a b f h/\Q b f) X.xe s
abbrev OL:=V->V->V->Hp->(Hp->Prop)->Prop
def U0(X:Cx)(t:OL):Prop:=
 ∀(a:List (Addr×Obj))(s:Shared)(b:St)(H:Hp)(o i v:V)(c d u:Value)(Q:Hp->Prop),Inv X a b H s->RelV o c->RelV i d->RelV v u->t o i v H Q->
  wpAny (model X.prog X.w) X.A (setItem c d u) (λ_ f=>∃e,Inv X a b e f/\Q e) X.xe s
section
variable{X:Cx}{pos:Pos}
def iU(i:Nat):TG:=λv a H Q=>Q (a.set i (some v)) H
theorem Jy(e:X.N.Nodup)(c:X.N[i]?=some x)(b:Loc X.env.scope x)(d:X.fn x=true\/X.env.scope.names.lookup x=some .local:=by first|exact .inl rfl|exact .inr rfl|assumption):PG X (.Name x pos) (iU i):=by intro a s g H v u Q I r h;exact wpAny_assign_Name (jb I e c b r (λj f=>⟨_,H,f,h⟩) d)
def U1:Nl:=λb a H Q=>b=[]/\Q a H
def Nm(t:TG)(u:Nl):Nl:=λc b H Q=>∃v r,c=v::r/\t v b H λa d=>u r a d Q
theorem Jz:UZ X [] U1:=by intro a s b H c d Q I r h;obtain⟨e,h⟩:=h;subst e;cases r;exact assignInOrder_nil ⟨b,H,I,h⟩
theorem EI(l:PG X e t)(k:UZ X b u)
 (j:(assignEach (e::b) X.env).map (·.2)=assign e X.env::(assignEach b X.env).map (·.2):=by rfl):UZ X (e::b) (Nm t u):=by
 intro a s d H o q Q I r h;obtain⟨v,p,m,h⟩:=h;subst m;cases r with
 |cons r g=>rw[j];refine assignInOrder_cons (cg (l a s d H _ _ _ I r h) λ_ f ⟨c,n,I1,i⟩=>?_);exact k a f c n _ _ Q I1 g i
def OM(K:Frag)(n:Nat)(t:Nl):TG:=λv c H Q=>∃a b,v=.ref a/\mY K H a b/\b.length=n/\t b c H Q
theorem ON{k:Nat}(y:X.calm=true)(h:UZ X d t)
 (w:(assignEach d X.env).length=n:=by rfl)(g:(assignEach d X.env).findIdx? (·.1)=none:=by rfl):PG X (.Tuple d k pos) (OM X.K n t):=by
 intro c s i H v u Q I r f;obtain⟨a,j,A,q,x,f⟩:=f;subst A;cases r;obtain⟨l,rv,p,hz⟩:=I.tuple q;refine assign_Tuple_tuple (I.ok.hd y) p (by simp[w,<-x,rv.length]) g λz m=>?_;have I1:Inv X c i H {s with heap:=z}:=I.kept (t':=s.toks) λb o e=>m b o (SC (KB e)) e;exact h c _ i H j _ Q I1 (by simpa using rv) f
def U3(b ti:TE)(t:OL):TG:=λv a H Q=>b a H λo e=>ti a e λi d=>t o i v d λc=>Q a c
theorem OO(q:PE X o e)(w:PE X i ti)(p:U0 X t)
 (z:∀v,assign (.Subscript o i pos) X.env v=(do
   let b<-holding [v] (eval o X.env)
   let c<-holding [v,b] (eval i X.env)
   standAt pos
   holding [v,b,c] (setItem b c v)
   release [v,b,c] []):=by intro _;rfl):PG X (.Subscript o i pos) (U3 e ti t):=by
 intro a s d H v u Q I r h;rw[z];refine GE (wpAny_holding (cg (q a s d H _ I h) λb g ⟨x,E,I1,k,n⟩=>?_));refine GE (wpAny_holding (cg (w a g d E _ I1 n) λc f ⟨y,D,B,j,m⟩=>?_));refine GE (wpAny_standAt (GE (wpAny_holding (cg (p a f d D x y v b c u _ B k j r m) λ_ F ⟨C,A,l⟩=>?_))));exact wpAny_release ⟨d,C,A,l⟩
def pO(te:TE)(g:TG):TS:=λD a H=>te a H λx b=>g x a b D.nx
theorem yO(l:PE X e te)(k:PG X tg g)(j:swapsWithSole [tg] e pos.line X.env=pure false:=by rfl)(i:swappedStores [tg] e X.env=pure none:=by rfl)
 (m:(assignEach [tg] X.env).map (·.2)=[assign tg X.env]:=by rfl):PS X (.Assign [tg] e pos) (pO te g):=by
 intro a s b H D I h;refine wpAny_Assign_stores (cg (l a s b H _ I h) λv c ⟨x,n,I1,d,f⟩=>?_) j i;rw[m];exact cg (k a c b n x v _ I1 d f) λ_ o q=>q
theorem uP(n:X.N.Nodup)(k:X.N[i]?=some x)(g:Loc X.env.scope x)(m:PE X e te)(j:swapsWith e (some (.Name x a)) pos.line X.env=pure false:=by rfl)(l:X.fn x=true\/X.env.scope.names.lookup x=some .local:=by first|exact .inl rfl|exact .inr rfl|assumption):
 PS X (.Assign [.Name x a] e pos) (pO te (iU i)):=by
 intro b s c H D I h;refine wpAny_Assign_Name (cg (m b s c H _ I h) λv r ⟨y,p,I1,d,f⟩=>?_) j;exact jb I1 n k g d (λq o=>⟨_,p,o,f⟩) l
def YT(i j:Nat)(ta:TA):TS:=λD a H=>ta a H λb c=>∃v w,b=[v,w]/\D.nx ((a.set i (some v)).set j (some w)) c
theorem OP(U:X.calm=true)(G:X.N.Nodup)(T:X.N[i]?=some x)(S:X.N[j]?=some y)(z:i≠j)
 (F:X.env.scope.names.lookup x=some .local)(E:X.env.scope.names.lookup y=some .local)(Y:PA X [a,b] ta)
 (Q:swappedStores [.Tuple [.Name x n,.Name y m] t r] (.Tuple [a,b] k2 B) X.env=pure (some [x,y]))
 (R:swapsWithSole [.Tuple [.Name x n,.Name y m] t r] (.Tuple [a,b] k2 B) pos.line X.env=pure false:=by rfl):
 PS X (.Assign [.Tuple [.Name x n,.Name y m] t r] (.Tuple [a,b] k2 B) pos) (YT i j ta):=by
 intro c s C H D I h;rw[exec_Assign_arm];refine GE (wpAny_standAt ?_);rw[R];refine GE (L9 ?_);rw[BM (by decide)];refine GE (Tuple_ (cg (Y _ c s C H _ I h) λL g ⟨vs,K,I1,M,l⟩=>?_));obtain⟨v,w,Z,l⟩:=l;subst Z;obtain⟨f,d,rfl,rv,k⟩:∃f d,L=[f,d]/\RelV v f/\RelV w d:=by
  cases M with
  |cons p q=>
   cases q with
   |cons P O=>
    cases O;exact⟨_,_,rfl,p,P⟩
 refine kS ?_ (by show 2<=sizeLine;decide);have I2:Inv X c C K {g with heap:=g.heap.push {cls:=.type "tuple",data:=.seq [f,d].toArray}}:=I1.kept (t':=g.toks) λb o e=>GT _ e;rw[Q];refine GE (L9 ?_);show wpAny (model X.prog X.w) X.A (do rule "assign.swapped-stores";let items<-unpackItems (.ref g.heap.objs.size) 2 none;assignInOrder [λv=>bindName X.env y v,λv=>bindName X.env x v] items.reverse;pure Flow.next) _ _ _;refine GE (wpAny_rule (GE (unpackItems_tuple (items:= #[f,d]) (I.ok.hd U) (IsTup.new g.heap _) λh' u=>?_)));have I3:=I2.kept (h':=h') (t':=g.toks) λb o e=>u b o (SC (KB e)) e;show wpAny _ _ (assignInOrder [λv=>bindName X.env y v,λv=>bindName X.env x v] [d,f]>>=λ_=>pure Flow.next) _ _ _;refine GE (assignInOrder_cons (wpAny_bindName (jb I3 G S (.inl E) k (λs2 I4=>?_) (.inr E))));refine assignInOrder_cons (wpAny_bindName (jb I4 G T (.inl F) rv (λs3 J=>assignInOrder_nil (L9 ?_)) (.inr F)));rw[g4 _ _ (dk z)]at J;exact⟨_,K,J,l⟩
def OQ(c:TT)(h:TS):TS:=λD a H=>∃W:Nat->St->Hp->Prop,(∃m,W m a H)/\∀m a H,W m a H->
 c a H λb f=>if b=true then∃N:St->Hp->Prop,(∀d g,N d g->∃e,e<m/\W e d g)/\h {D with nx:=N,ct:=N,bk:=D.nx} a f else D.nx a f
theorem w6(x:PassesOwn (model X.prog X.w) X.A X.env X.xe)(P:PT X c tc)(Q:wU X g u):PS X (.While c g [] pos) (OQ tc u):=by
 intro d s F H D I h;obtain⟨W,⟨O,J⟩,j⟩:=h;refine wpAny_While (codeAny_whileLoop (λn M=>∃i E,Inv X d i E M/\W n i E) ?_ O ⟨F,H,I,J⟩);rintro n L ⟨e,C,I1,G⟩;refine hZ x (cg (P d L e C _ I1 (j n e C G)) λb K ⟨B,z,m⟩=>?_);cases b with
 |true=>
  obtain⟨N,y,m⟩:=m;rw[Bi rfl];refine hZ x (cg (Q d K e B _ z m) λf R l=>?_);cases f with
  |next=>obtain⟨a,k,t,p⟩:=l;obtain⟨q,r,o⟩:=y a k p;exact⟨q,r,a,k,t,o⟩
  |cont=>obtain⟨a,k,t,p⟩:=l;obtain⟨q,r,o⟩:=y a k p;exact⟨q,r,a,k,t,o⟩
  |brk=>exact l
  |ret v=>exact l
 |false=>rw[BM Oy];exact oT ⟨e,B,z,m⟩
end
set_option genInjectivity false in
set_option genSizeOf false in
structure It where
 go:Nat->Hp->Prop
 U4:Nat->Hp->V->Hp->Prop
 stop:Nat->Hp->Prop
def pP(X:Cx)(a:List (Addr×Obj))(H:Hp)(b:Addr):Prop:=
 H b=none/\b≠X.env.locals/\b∉X.fs/\(b∈X.ex\/X.s₀.heap.objs.size<=b)/\(∀x c,X.env.cells.lookup x=some c->c≠b)/\∀p∈X.pn++a,p.1≠b
theorem Inv.yP{f:St}{b:Addr}(I:Inv X a f H s)(d:s.heap.objs.size<=b)(h:H' b=none):pP X a H' b:=by
 refine⟨h,Sz (Fu I.lt d),I.YI d,.inr (Do I.sz d),λx c e z=>?_,λp g z=>?_⟩
 .obtain⟨v,q⟩:=I.cell x c e;exact absurd (Fu q.lt (by rw[z];exact d)) (TC _)
 .exact absurd (Fu (KB (I.pin p g).1) (by rw[z];exact d)) (TC _)
structure Turn(P:Program)(w:World)(K:Frag)(tg:Expr)(J:It)(fp:List Addr)(it:Addr)(tn:Nat->Heap->Prop):Prop where
 mem:it∈fp
 obj:∀i h,tn i h->∀b∈fp,∃o,h.get? b=some o/\∀v,o.data≠.cell v
 keep:∀i h h',tn i h->(∀b∈fp,∀o,h.get? b=some o->h'.get? b=some o)->tn i h'
 item:∀(X:Cx),X.prog=P->X.w=w->X.K=K->X.calm=true->∀(i:Nat)(pins:List (Addr×Obj))(s:Shared)(σ:St)(H:Hp)(E:Value->Shared->Prop),Inv X pins σ H s->(∀b∈fp,pP X pins H b)->tn i s.heap->J.go i H->
  wpAny (model P w) X.A (pyNext (.ref it)) (λr s1=>∃u,r=some u/\
   wpAny (model P w) X.A (letOwnedTupleGo tg (.ref it) u) (λ_ s2=>∃x H',Inv X pins σ H' s2/\RelV x u/\J.U4 i H x H'/\tn (i+1) s2.heap/\∀b∈fp,H' b=none) E s1) E s
 done:∀(X:Cx),X.prog=P->X.w=w->X.K=K->X.calm=true->∀(i:Nat)(pins:List (Addr×Obj))(s:Shared)(σ:St)(H:Hp)(E:Value->Shared->Prop),Inv X pins σ H s->(∀b∈fp,pP X pins H b)->tn i s.heap->J.stop i H->
  wpAny (model P w) X.A (pyNext (.ref it)) (λr s1=>r=none/\Inv X pins σ H s1) E s
 self:∀(A:Around)(i:Nat)(s:Shared)(Q:Value->Shared->Prop)(E:Value->Shared->Prop),tn i s.heap->Q (.ref it) s->wpAny (model P w) A (pyIter (.ref it)) Q E s
abbrev TI:=St->Hp->(It->Hp->Prop)->Prop
def YV(X:Cx)(a:List (Addr×Obj))(i:St)(tg:Expr)(R:It->Hp->Prop)(c:Value)(f:Shared):Prop:=
 ∃(g:Addr)(h:List Addr)(e:Nat->Heap->Prop)(J:It)(d:Hp),c=.ref g/\Inv X a i d f/\Turn X.prog X.w X.K tg J h g e/\e 0 f.heap/\(∀b∈h,pP X a d b)/\R J d
def PI(X:Cx)(tg b:Expr)(d:TI):Prop:=
 ∀(a:List (Addr×Obj))(s:Shared)(c:St)(H:Hp)(R:It->Hp->Prop),Inv X a c H s->d c H R->
  wpAny (model X.prog X.w) X.A (eval b X.env) (λv e=>wpAny (model X.prog X.w) X.A (pyIter v) (YV X a c tg R) X.xe e) X.xe s
theorem xg(c:s.heap.get? b=some o)(f:o.cls=.type n)(e:o.data=.fields vs)
 (d:["enumerate","zip","dict_itemiterator","dict_reverseitemiterator","odict_iterator","itertools.zip_longest","itertools.pairwise"].contains n=false)(a:Q () s):wpAny M A (letOwnedTupleGo tg (.ref b) u) Q E s:=by
 unfold letOwnedTupleGo;cases tg<;>first
  |exact L9 a
  |(cases u<;>first
     |exact L9 a
     |(refine GE (wpAny_load c ?_)
       rw[f,e];show wpAny M A (if(["enumerate","zip","dict_itemiterator","dict_reverseitemiterator","odict_iterator","itertools.zip_longest","itertools.pairwise"].contains n&&vs[0]?==some (rawInt _))=true then _ else _) Q E s;rw[BM (by intro h;rw[d,Bool.false_and]at h;cases h)];exact L9 a))
noncomputable def YW(K:Frag)(a:Addr):It:=
 ⟨λi H=>∃b x,jU K H a b/\b[i]?=some x,λi H x c=>c=H/\∀b,jU K H a b->b[i]?=some x,λi H=>∃b,jU K H a b/\b.length<=i⟩
noncomputable def YX(K:Frag)(a:Addr):It:=
 ⟨λi H=>∃b x,mY K H a b/\b[i]?=some x,λi H x c=>c=H/\∀b,mY K H a b->b[i]?=some x,λi H=>∃b,mY K H a b/\b.length<=i⟩
noncomputable def U5(a:Int)(n:Nat):It:=⟨λi _=>i<n,λi H x b=>b=H/\x=.int (a+i),λi _=>n<=i⟩
theorem CL{K:Frag}(a j:Addr):Turn P w K tg (YW K a) [j] j (λi h=>h.IsListIter j a i)where
 mem:=by simp
 obj:=λi h f b l=>by
  have e:b=j:=by simpa using l
  subst e;obtain⟨o,e,c,d⟩:=f;exact⟨o,e,λv z=>by rw[d]at z;cases z⟩
 keep:=λi h r f k=>f.at λo e=>k j (by simp) o e
 item:=by intro X C A D O i g s N H E I q f B;subst C A D;obtain⟨Q,x,n,y⟩:=B;obtain⟨t,rv,p,hz⟩:=I.list n;obtain⟨u,U,S⟩:=rv.get y;obtain⟨M,L,Y,J,G,F⟩:=q j (by simp);refine wpAny_pyNext_list_item f p.isList (x:=u) (by simpa using U) λr m R=>?_;have I1:Inv X g N H {s with heap:=r}:=I.turned (t':=s.toks) (λb o l e=>(R.2 b l).trans e) M L J G F;obtain⟨o,e,c,d⟩:=id m;exact⟨u,rfl,xg (s:={s with heap:=r}) e c d (by decide) ⟨x,H,I1,S,⟨rfl,λys T=>by rw[I.pM T n];exact y⟩,m,λb l=>(q b l).1⟩⟩
 done:=by intro X C A D O i g s N H E I q f B;subst C A D;obtain⟨Q,n,y⟩:=B;obtain⟨t,rv,p,hz⟩:=I.list n;obtain⟨M,L,Y,J,G,F⟩:=q j (by simp);have hl:=rv.length;exact wpAny_pyNext_list_end (I.ok.hd O) f p.isList (by simp;lia) λr Z=>⟨rfl,I.turned (t':=s.toks) (λb o l e=>Z b o l e) M L J G F⟩
 self:=λ_ _ _ _ _ f h=>wpAny_pyIter_listiter f h
theorem yQ{K:Frag}(a l:Addr):Turn P w K tg (YX K a) [l] l (λi h=>h.IsTupleIter l a i)where
 mem:=by simp
 obj:=λi h f b m=>by
  have e:b=l:=by simpa using m
  subst e;obtain⟨o,e,c,d⟩:=f;exact⟨o,e,λv z=>by rw[d]at z;cases z⟩
 keep:=λi h t f k=>f.at λo e=>k l (by simp) o e
 item:=by intro X C A D O i g s N H E I r f B;subst C A D;obtain⟨Q,x,q,y⟩:=B;obtain⟨j,rv,p,hz⟩:=I.tuple q;obtain⟨u,U,S⟩:=rv.get y;obtain⟨M,L,Y,J,G,F⟩:=r l (by simp);refine wpAny_pyNext_tuple_item f (show s.heap.IsTuple a j.toArray from p) (x:=u) (by simpa using U) λt n R=>?_;have I1:Inv X g N H {s with heap:=t}:=I.turned (t':=s.toks) (λb o m e=>(R.2 b m).trans e) M L J G F;obtain⟨o,e,c,d⟩:=id n;exact⟨u,rfl,xg (s:={s with heap:=t}) e c d (by decide) ⟨x,H,I1,S,⟨rfl,λys T=>by rw[I.CK T q];exact y⟩,n,λb m=>(r b m).1⟩⟩
 done:=by intro X C A D O i g s N H E I r f B;subst C A D;obtain⟨Q,q,y⟩:=B;obtain⟨j,rv,p,hz⟩:=I.tuple q;obtain⟨M,L,Y,J,G,F⟩:=r l (by simp);have hl:=rv.length;exact wpAny_pyNext_tuple_end (I.ok.hd O) f (show s.heap.IsTuple a j.toArray from p) (by simp;lia) λt Z=>⟨rfl,I.turned (t':=s.toks) (λb o m e=>Z b o m e) M L J G F⟩
 self:=λ_ _ _ _ _ f h=>wpAny_pyIter_tupleiter f h
theorem yR{K:Frag}(d:Addr)(j:Int)(n:Nat):Turn P w K tg (U5 j n) [d] d (λi h=>IsRangeIter h d (j+(i:Nat)*1) ((n:Int) -(i:Nat)) 1)where
 mem:=by simp
 obj:=λi h a b f=>by
  have e:b=d:=by simpa using f
  subst e;exact⟨_,a,λv z=>by have J:Data.fields _=Data.cell v:=z;cases J⟩
 keep:=λi h m a k=>k d (by simp) _ a
 item:=by intro X u p x r i c s F H E I l a q;subst u p x;obtain⟨D,C,N,B,A,y⟩:=l d (by simp);have W:=Walks.range (prog:=X.prog) (w:=X.w) (I.ok.hd r) d j 1 n;refine W.item i s _ _ q a λv m G M g L=>?_;obtain⟨t,rfl⟩:=M;have I1:Inv X c F H {s with heap:=m,toks:=G}:=I.turned (λb o f e=>L b o (by simpa using f) e) D C B A y;refine⟨_,rfl,xg (s:={s with heap:=m,toks:=G}) (n:="range_iterator") g rfl rfl (by decide) ⟨.int (j+i),H,I1,⟨t,?_⟩,⟨rfl,rfl⟩,g,λb f=>(l b f).1⟩⟩;rw[d5]
 done:=by intro X u p x r i c s F H E I l a q;subst u p x;obtain⟨D,C,N,B,A,y⟩:=l d (by simp);exact wpAny_pyNext_range_end (I.ok.hd r) a (by have:n<=i:=q;lia) λm O=>⟨rfl,I.turned (t':=s.toks) (λb o f e=>O b o f e) D C B A y⟩
 self:=λ_ _ _ _ _ a h=>wpAny_pyIter_rangeiter a h
section
variable{X:Cx}{tg:Expr}
theorem xh{f:St}{a c:Int}{t u v:Tok}{g:Nat}(I:Inv X d f H s)(l: -(2^62)<=a)(k:a<2^62)(j: -(2^62)<=c)(i:c<2^62)
 (q:R (U5 a (c -a).toNat) H):wpAny (model X.prog X.w) X.A (pyIter (.ref s.heap.objs.size)) (YV X d f tg R) E {s with heap:=s.heap.push {cls:=.type "range",data:=.fields #[.int a t,.int c u,.int 1 v]},toks:=g}:=by
 refine wpAny_pyIter_range (IsRange.new ..) (small_one l k j i) ?_;have I1:Inv X d f H {s with heap:=s.heap.push {cls:=.type "range",data:=.fields #[.int a t,.int c u,.int 1 v]},toks:=g}:=I.kept λb o e=>GT _ e;refine⟨(s.heap.push {cls:=.type "range",data:=.fields #[.int a t,.int c u,.int 1 v]}).objs.size,[(s.heap.push {cls:=.type "range",data:=.fields #[.int a t,.int c u,.int 1 v]}).objs.size],_,_,H,rfl,
  I1.kept (t':=g) λb o e=>GT _ e,yR _ a (c -a).toNat,?_,λb h=>?_,q⟩
 .have n:a+((0:Nat):Int)*1=a:=by simp
  have m:(((c -a).toNat:Nat):Int) -((0:Nat):Int)=Builtin.Range.rangeSize a c 1:=by rw[rangeSize_one];split<;>lia
  show IsRangeIter _ _ (a+((0:Nat):Int)*1) ((((c -a).toNat:Nat):Int) -((0:Nat):Int)) 1;rw[n,m];exact QP _ rfl
 .have e:b=(s.heap.push {cls:=.type "range",data:=.fields #[.int a t,.int c u,.int 1 v]}).objs.size:=by simpa using h
  subst e;exact I1.yP (Ee _) (I1.hok.fresh (Ee _))
def U6(ta:TA):TI:=λa H R=>ta a H λb c=>∃j:Int,b=[.int j]/\-(2^62)<=j/\j<2^62/\R (U5 0 j.toNat) c
def U7(ta:TA):TI:=λa H R=>ta a H λb c=>∃i j:Int,b=[.int i,.int j]/\(-(2^62)<=i/\i<2^62/\-(2^62)<=j/\j<2^62)/\R (U5 i (j -i).toNat) c
theorem tU(m:Gl X "range")(l:X.mg "range"=none)(n:PA X [a] ta)(k:starEach [a] X.env=[(false,eval a X.env)]:=by rfl):PI X tg (.Call (.Name "range" p) [a] [] pos) (U6 ta):=by
 intro b s d H R I h;refine Call_ (jc I m l boot_range (ag (cg (n pos b s d H _ I h) λu v ⟨o,w,I1,g,c⟩=>?_) k rfl));obtain⟨j,e,c,i,q⟩:=c;subst e;cases g with
 |cons r f=>
  cases f;obtain⟨t,rfl⟩:=r;exact call_range_1 (xh I1 (by lia) (by lia) c i (by simpa using q))
theorem CM{p pos:Pos}(x:Gl X "range")(w:X.mg "range"=none)(y:PA X [a,b] ta)(v:starEach [a,b] X.env=[(false,eval a X.env),(false,eval b X.env)]:=by rfl)(d:starEach [b] X.env=[(false,eval b X.env)]:=by rfl):
 PI X tg (.Call (.Name "range" p) [a,b] [] pos) (U7 ta):=by
 intro c s k H R I h;refine Call_ (jc I x w boot_range (ag (cg (y pos c s k H _ I h) λA C ⟨z,D,I1,l,g⟩=>?_) (by rw[v,d]) (by rw[d];rfl)));obtain⟨i,j,e,⟨g,u,o,n⟩,q⟩:=g;subst e;cases l with
 |cons r f=>
  cases f with
  |cons m f=>
   cases f;obtain⟨t,rfl⟩:=r;obtain⟨B,rfl⟩:=m;exact call_range_2 (xh I1 g u o n q)
def YY(f:TI)(g:TG)(h:TS):TS:=λD a H=>f a H λJ k=>∃W:Nat->Nat->St->Hp->Prop,(∃m,W 0 m a k)/\∀i m a H,W i m a H->
 (J.stop i H/\D.nx a H)\/(J.go i H/\∃N:St->Hp->Prop,(∀b c,N b c->∃e,e<m/\W (i+1) e b c)/\∀x c,J.U4 i H x c->g x a c λd j=>h {D with nx:=N,ct:=N,bk:=D.nx} d j)
noncomputable def pQ(a:List Addr)(h:Heap):List (Addr×Obj):=a.filterMap λb=>(h.get? b).map λo=>(b,o)
theorem g9(c:b∈a)(e:h.get? b=some o):(b,o)∈pQ a h:=N8.mpr ⟨b,c,by rw[e];rfl⟩
theorem CN(c:p∈pQ a h):p.1∈a/\h.get? p.1=some p.2:=by
 obtain⟨b,d,e⟩:=N8.mp c;cases q:h.get? b with
 |none=>rw[q]at e;cases e
 |some o=>rw[q]at e;have f:(b,o)=p:=OK e;subst f;exact⟨d,q⟩
theorem Inv.pinned{f:St}(I:Inv X a f H s)(k:∀b∈c,pP X a H b)(j:∀b∈c,∃o,s.heap.get? b=some o/\∀v,o.data≠.cell v):Inv X (a++pQ c s.heap) f H s:=
 I.AL λp i=>(Re.mp i).elim (λz=>I.pin p (Mo _ z)) λz=>by obtain⟨g,e⟩:=CN z;obtain⟨n,m,l,_⟩:=k p.1 g;obtain⟨o,h,d⟩:=j p.1 g;rw[e]at h;cases h;exact⟨e,n,m,l,d⟩
theorem Inv.kZ{b:St}(I:Inv X (a++pl) b H s):Inv X a b H s:=I.AL λp c=>I.pin p (Mo _ (fe _ c))
theorem OR(M:PassesOwn (model X.prog X.w) X.A X.env X.xe)(hc:X.calm=true)(hi:PI X tg k wi)(hg:PG X tg g)(l:wU X C tb)
 (hs:∀x,foldedSetIterable k X.env x=pure x:=by intro _;rfl):PS X (.For tg k C [] pos) (YY wi g tb):=by
 intro a s σ H D I h;refine wpAny_For (cg (hi a s σ H _ I h) λv s1 h1=>cg h1 λitv s2 h2=>?_) hs;obtain⟨it,P,tn,J,H2,e,I2,T,S,f2,W,⟨m0,w0⟩,E⟩:=h2;subst e;have OS:∀{z:Hp},(∀b∈P,z b=none)->∀b∈P,pP X a z b:=λhn b l=>⟨hn b l,(f2 b l).2⟩;refine codeAny_forLoop_any (λn s'=>∃i j z,Inv X a j z s'/\tn i s'.heap/\(∀b∈P,z b=none)/\W i n j z) ?_ m0 ⟨0,σ,H2,I2,S,λb l=>(f2 b l).1,w0⟩;rintro n s3 ⟨i,c,Q,I3,K,O,w3⟩;rcases E i n c Q w3 with⟨F,qn⟩|⟨go,N,hN,G⟩
 .refine hZ M (cg (T.done X rfl rfl rfl hc i a s3 c Q X.xe I3 (OS O) K F) λr s4 ⟨Y,I4⟩=>?_);subst Y;exact oT ⟨c,Q,I4,qn⟩
 .refine hZ M (cg (T.item X rfl rfl rfl hc i a s3 c Q X.xe I3 (OS O) K go) λr s4 ⟨u,Y,h4⟩=>?_);subst Y;refine hZ M (cg h4 λ_ s5 ⟨x,H5,I5,r5,y5,Z,X7⟩=>?_);have I5':=I5.pinned (OS X7) (T.obj _ _ Z);refine hZ M (cg (hg _ s5 c H5 x u _ I5' r5 (G x H5 y5)) λ_ s6 ⟨R,H6,I6,q6⟩=>?_);refine hZ M (cg (l _ s6 R H6 _ I6 q6) λf U B=>?_);have p:∀{y:St}{t:Hp},Inv X (a++pQ P s5.heap) y t U->N y t->∃m,m<n/\∃i j z,Inv X a j z U/\tn i U.heap/\(∀b∈P,z b=none)/\W i m j z:=λ{y t} q L=>by obtain⟨m',hm,w7⟩:=hN y t L;refine⟨m',hm,i+1,y,t,q.kZ,T.keep _ _ _ Z λb l o e=>(q.pin (b,o) (Mo _ (Mo _ (g9 l e)))).1,λb l=>?_,w7⟩;obtain⟨o,e,d⟩:=T.obj _ _ Z b l;exact(q.pin (b,o) (Mo _ (Mo _ (g9 l e)))).2.1
  cases f with
  |next=>obtain⟨y,t,q,L⟩:=B;exact p q L
  |cont=>obtain⟨y,t,q,L⟩:=B;exact p q L
  |brk=>obtain⟨y,t,q,B⟩:=B;exact⟨y,t,q.kZ,B⟩
  |ret v=>obtain⟨x7,y,t,q,r7,B⟩:=B;exact⟨x7,y,t,q.kZ,r7,B⟩
end
abbrev R2:=V->V->Hp->VK->Prop
def sd(X:Cx)(f:Value->Value->Sem Value)(r:R2):Prop:=
 ∀(a:List (Addr×Obj))(s:Shared)(b:St)(H:Hp)(x y:V)(v u:Value)(Q:VK),Inv X a b H s->RelV x v->RelV y u->r x y H Q->
  wpAny (model X.prog X.w) X.A (f v u) (EP X a b Q) X.xe s
def YZ(X:Cx)(f:Value->Sem Value)(r:V->Hp->VK->Prop):Prop:=
 ∀(a:List (Addr×Obj))(s:Shared)(b:St)(H:Hp)(x:V)(v:Value)(Q:VK),Inv X a b H s->RelV x v->r x H Q->
  wpAny (model X.prog X.w) X.A (f v) (EP X a b Q) X.xe s
def dD(X:Cx)(f:Value)(r:List V->Hp->VK->Prop):Prop:=
 ∀(a:List (Addr×Obj))(s:Shared)(b:St)(H:Hp)(c:List V)(d:List Value)(Q:VK),Inv X a b H s->Vals c d->r c H Q->
  wpAny (model X.prog X.w) X.A (call f d) (EP X a b Q) X.xe s
def tOp(r:R2)(ta b:TE):TE:=λa H Q=>ta a H λx d=>b a d λy c=>r x y c Q
def tUn(r:V->Hp->VK->Prop)(ta:TE):TE:=λa H Q=>ta a H λx b=>r x b Q
def rI(C:Int->Int->Prop)(g:Int->Int->V):R2:=λx y H Q=>∃i j,x=.int i/\y=.int j/\C i j/\Q (g i j) H
def JA(g:Int->Int->V):R2:=λx y H Q=>∃i j,x=.int i/\y=.int j/\Q (g i j) H
def rU(g:Int->V):V->Hp->VK->Prop:=λx H Q=>∃i,x=.int i/\Q (g i) H
section
variable{X:Cx}{a b c:Expr}{ta tb tc:TE}{pos:Pos}
theorem Y0(t:PE X a ta)(r:PE X b tb){e:St}{R:V->V->Hp->Prop}(I:Inv X d e H s)
 (h:ta e H λx H1=>tb e H1 λy g=>R x y g){f:Value->Value->Sem Value}
 (q:∀v u k x y g,Inv X d e g k->RelV x v->RelV y u->R x y g->wpAny (model X.prog X.w) X.A (f v u) Q X.xe k):
 wpAny (model X.prog X.w) X.A (eval a X.env) (λv j=>wpAny (model X.prog X.w) X.A (eval b X.env) (λu i=>wpAny (model X.prog X.w) X.A (f v u) Q X.xe i) X.xe j) X.xe s:=by
 refine cg (t d s e H _ I h) λv l ⟨x,H1,I1,n,p⟩=>?_;refine cg (r d l e H1 _ I1 p) λu k ⟨y,g,z,m,o⟩=>?_;exact q v u k x y g z n m o
theorem U8(j:YZ X (unaryOp op) r)(k:PE X a ta):PE X (.UnaryOp op a pos) (tUn r ta):=by intro d s e H Q I h;exact UnaryOp_ (cg (k d s e H _ I h) λv f ⟨x,l,I1,g,i⟩=>j d f e l x v Q I1 g i)
theorem Y3{g:Int->Int->Int}
 (d:∀(i j:Int)(t u:Tok)(s:Shared)(Q:Value->Shared->Prop)(E:Value->Shared->Prop),C i j->Q (.int (g i j) s.toks) {s with toks:=s.toks+1}->wpAny (model X.prog X.w) X.A (f (.int i t) (.int j u)) Q E s):
 sd X f (rI C λi j=>.int (g i j)):=by
 intro e s o H x y v u Q I m l h;obtain⟨i,j,rfl,rfl,n,q⟩:=h;obtain⟨t,rfl⟩:=m;obtain⟨k,rfl⟩:=l;exact d i j t k s _ _ n ⟨.int (g i j),H,I.tok _,⟨_,rfl⟩,q⟩
theorem U9{g:Int->Int->Int}
 (d:∀(i j:Int)(t u:Tok)(s:Shared)(Q:Value->Shared->Prop)(E:Value->Shared->Prop),Q (.int (g i j) s.toks) {s with toks:=s.toks+1}->wpAny (model X.prog X.w) X.A (f (.int i t) (.int j u)) Q E s):
 sd X f (JA λi j=>.int (g i j)):=by
 intro e s n H x y v u Q I m l h;obtain⟨i,j,rfl,rfl,q⟩:=h;obtain⟨t,rfl⟩:=m;obtain⟨k,rfl⟩:=l;exact d i j t k s _ _ ⟨.int (g i j),H,I.tok _,⟨_,rfl⟩,q⟩
theorem JB{g:Int->Int->Bool}
 (d:∀(i j:Int)(t u:Tok)(s:Shared)(Q:Value->Shared->Prop)(E:Value->Shared->Prop),Q (.bool (g i j)) s->wpAny (model X.prog X.w) X.A (f (.int i t) (.int j u)) Q E s):
 sd X f (JA λi j=>.bl (g i j)):=by
 intro e s n H x y v u Q I m l h;obtain⟨i,j,rfl,rfl,q⟩:=h;obtain⟨t,rfl⟩:=m;obtain⟨k,rfl⟩:=l;exact d i j t k s _ _ ⟨.bl (g i j),H,I,rfl,q⟩
def Y4(i j:Int):Prop:=0<j/\j<1073741824
def JC(i j:Int):Prop:=0<=j/\j<=1000000/\i.natAbs<2^64
theorem OT:sd X (binaryOp .Add) (JA λi j=>.int (i+j)):=U9 λ_ _ _ _ _ _ _ q=>add_int q
theorem OU:sd X (binaryOp .Sub) (JA λi j=>.int (i -j)):=U9 λ_ _ _ _ _ _ _ q=>sub_int q
theorem JD:sd X (binaryOp .Mod) (rI (λ_ j=>j≠0) λi j=>.int (i.fmod j)):=Y3 λ_ _ _ _ _ _ _ d q=>mod_int' d q
theorem OV:sd X (binaryOp .Pow) (rI JC λi j=>.int (i^j.toNat)):=Y3 λ_ _ _ _ _ _ _ d q=>pow_int_small d.1 d.2.1 d.2.2 q
theorem unI{g:Int->Int}
 (d:∀(i:Int)(t:Tok)(s:Shared)(Q:Value->Shared->Prop)(E:Value->Shared->Prop),Q (.int (g i) s.toks) {s with toks:=s.toks+1}->wpAny (model X.prog X.w) X.A (f (.int i t)) Q E s):
 YZ X f (rU λi=>.int (g i)):=by
 intro e s k H x v Q I j h;obtain⟨i,rfl,q⟩:=h;obtain⟨t,rfl⟩:=j;exact d i t s _ _ ⟨.int (g i),H,I.tok _,⟨_,rfl⟩,q⟩
theorem OW:YZ X (unaryOp .USub) (rU λi=>.int (-i)):=unI λ_ _ _ _ _ q=>neg_int q
end
noncomputable def OX:V->V->Bool
 |.bV,.bV=>true|.bV,.int _=>true|.int _,.bV=>true|.bV,.bl _=>true|.bl _,.bV=>true|.bV,.str _=>true|.str _,.bV=>true
 |.int _,.int _=>true|.bl _,.bl _=>true|.str _,.str _=>true|.Ef _,.Ef _=>true
 |.int _,.str _=>true|.str _,.int _=>true|.bl _,.str _=>true|.str _,.bl _=>true
 |_,_=>false
def rEq:R2:=λx y H Q=>OX x y=true/\Q (.bl (decide (x=y))) H
def rNe:R2:=λx y H Q=>OX x y=true/\Q (.bl (!decide (x=y))) H
theorem AQ:decide (V.int i=V.int j)=(i==j):=by rw[xt];simp
theorem EK:decide (V.bl i=V.bl j)=(i==j):=by rw[xt];simp
theorem AR:decide (V.str i=V.str j)=(i==j):=by rw[xt];simp
theorem AS:decide (V.Ef i=V.Ef j)=(i.toList==j.toList):=by rw[xt];cases i;cases j;simp
section
variable{X:Cx}{a b c:Expr}{ta tb tc:TE}{pos:Pos}
theorem aS{f:St}(I:Inv X d f H s)(q:Q (.bl k) H)(e:k=g):EP X d f Q (.bool g) s:=by subst e;exact⟨.bl k,H,I,rfl,q⟩
theorem Va:sd X (compareOp .Eq) rEq:=by
 intro k s l H x y v u Q I g d h;obtain⟨f,q⟩:=h;cases x with
 |bV=>
  cases g;cases y with
  |bV=>cases d;exact PySem.EqNone.eq_none_none (aS I q (by simp))
  |bl j=>cases d;exact PySem.EqNone.eq_none_bool (aS I q (by simp))
  |int j=>obtain⟨e,rfl⟩:=d;exact PySem.EqNone.eq_none_int (aS I q (by simp))
  |str j=>obtain⟨e,rfl⟩:=d;exact PySem.EqNone.eq_none_str (aS I q (by simp))
  |_=>exact absurd (show false=true from f) Oy
 |bl i=>
  cases g;cases y with
  |bV=>cases d;exact PySem.EqNone.eq_bool_none (aS I q (by simp))
  |bl j=>cases d;exact eq_bool (aS I q EK)
  |str j=>obtain⟨e,rfl⟩:=d;exact PySem.EqMixed.eq_bool_str (aS I q (by simp))
  |_=>exact absurd (show false=true from f) Oy
 |int i=>
  obtain⟨t,rfl⟩:=g;cases y with
  |bV=>cases d;exact PySem.EqNone.eq_int_none (aS I q (by simp))
  |int j=>obtain⟨e,rfl⟩:=d;exact eq_int (aS I q AQ)
  |str j=>obtain⟨e,rfl⟩:=d;exact PySem.EqMixed.eq_int_str (aS I q (by simp))
  |_=>exact absurd (show false=true from f) Oy
 |str i=>
  obtain⟨t,rfl⟩:=g;cases y with
  |bV=>cases d;exact PySem.EqNone.eq_str_none (aS I q (by simp))
  |bl j=>cases d;exact PySem.EqMixed.eq_str_bool (aS I q (by simp))
  |int j=>obtain⟨e,rfl⟩:=d;exact PySem.EqMixed.eq_str_int (aS I q (by simp))
  |str j=>obtain⟨e,rfl⟩:=d;exact eq_str (aS I q AR)
  |_=>exact absurd (show false=true from f) Oy
 |Ef i=>
  obtain⟨t,rfl⟩:=g;cases y with
  |Ef j=>obtain⟨e,rfl⟩:=d;exact PySem.W.eq_bytes (aS I q AS)
  |_=>exact absurd (show false=true from f) Oy
 |_=>cases y<;>exact absurd (show false=true from f) Oy
theorem Vb:sd X (compareOp .NotEq) rNe:=by
 intro k s l H x y v u Q I g d h;obtain⟨f,q⟩:=h;cases x with
 |bV=>
  cases g;cases y with
  |bV=>cases d;exact PySem.EqNone.ne_none_none (aS I q (by simp))
  |bl j=>cases d;exact PySem.EqNone.ne_none_bool (aS I q (by simp))
  |int j=>obtain⟨e,rfl⟩:=d;exact PySem.EqNone.ne_none_int (aS I q (by simp))
  |str j=>obtain⟨e,rfl⟩:=d;exact PySem.EqNone.ne_none_str (aS I q (by simp))
  |_=>exact absurd (show false=true from f) Oy
 |bl i=>
  cases g;cases y with
  |bV=>cases d;exact PySem.EqNone.ne_bool_none (aS I q (by simp))
  |bl j=>cases d;exact ne_bool (aS I q (Q1 not EK))
  |str j=>obtain⟨e,rfl⟩:=d;exact PySem.EqMixed.ne_bool_str (aS I q (by simp))
  |_=>exact absurd (show false=true from f) Oy
 |int i=>
  obtain⟨t,rfl⟩:=g;cases y with
  |bV=>cases d;exact PySem.EqNone.ne_int_none (aS I q (by simp))
  |int j=>obtain⟨e,rfl⟩:=d;exact ne_int (aS I q (Q1 not AQ))
  |str j=>obtain⟨e,rfl⟩:=d;exact PySem.EqMixed.ne_int_str (aS I q (by simp))
  |_=>exact absurd (show false=true from f) Oy
 |str i=>
  obtain⟨t,rfl⟩:=g;cases y with
  |bV=>cases d;exact PySem.EqNone.ne_str_none (aS I q (by simp))
  |bl j=>cases d;exact PySem.EqMixed.ne_str_bool (aS I q (by simp))
  |int j=>obtain⟨e,rfl⟩:=d;exact PySem.EqMixed.ne_str_int (aS I q (by simp))
  |str j=>obtain⟨e,rfl⟩:=d;exact ne_str (aS I q (Q1 not AR))
  |_=>exact absurd (show false=true from f) Oy
 |Ef i=>
  obtain⟨t,rfl⟩:=g;cases y with
  |Ef j=>obtain⟨e,rfl⟩:=d;exact PySem.W.ne_bytes (aS I q (Q1 not AS))
  |_=>exact absurd (show false=true from f) Oy
 |_=>cases y<;>exact absurd (show false=true from f) Oy
theorem Vd:sd X (compareOp .Lt) (JA λi j=>.bl (decide (i<j))):=JB λ_ _ _ _ _ _ _ q=>lt_int q
theorem Ve:sd X (compareOp .LtE) (JA λi j=>.bl (decide (i<=j))):=JB λ_ _ _ _ _ _ _ q=>le_int q
theorem Vf:sd X (compareOp .Gt) (JA λi j=>.bl (decide (j<i))):=JB λ_ _ _ _ _ _ _ q=>gt_int q
theorem Vg:sd X (compareOp .GtE) (JA λi j=>.bl (decide (j<=i))):=JB λ_ _ _ _ _ _ _ q=>ge_int q
theorem EL(b:Expr)(h:op≠.In:=by decide)(d:op≠.NotIn:=by decide):behindInMarks op b=false:=by
 have f:(op==CmpOp.In)=false:=by cases op<;>first|rfl|exact absurd rfl h
 have e:(op==CmpOp.NotIn)=false:=by cases op<;>first|rfl|exact absurd rfl d
 cases b<;>simp[behindInMarks,f,e]
theorem pR:(sizeLine:Nat)<2^63:=by rw[sizeLine_eq];decide
theorem vals1(r:Vals [x] us):∃u,us=[u]/\RelV x u:=by
 cases r with
 |cons e d=>cases d;exact⟨_,rfl,e⟩
theorem vals2(r:Vals [x,y] us):∃u w',us=[u,w']/\RelV x u/\RelV y w':=by
 cases r with
 |cons g f=>
  cases f with
  |cons e d=>cases d;exact⟨_,_,rfl,g,e⟩
theorem EM:dD X (.builtin "abs") (λd H Q=>∃i,d=[.int i]/\Q (.int (if i<0 then-i else i)) H):=by intro e s f H d g Q I r h;obtain⟨i,rfl,q⟩:=h;obtain⟨u,rfl,t,rfl⟩:=vals1 r;exact call_abs_int λu j=>⟨.int (if i<0 then-i else i),H,I.tok _,⟨_,rfl⟩,q⟩
theorem CO(g:X.calm=true):dD X (.builtin "max") (λe H Q=>∃i j,e=[.int i,.int j]/\Q (.int (if j>i then j else i)) H):=by
 intro f s l H e n Q I r h;obtain⟨i,j,rfl,q⟩:=h;obtain⟨u,m,rfl,⟨t,rfl⟩,⟨p,rfl⟩⟩:=vals2 r;refine max_two_ints (I.ok.hd g) λv o k=>⟨_,H,I.kept k,?_,q⟩;by_cases d:j>i
 .rw[Bi d,Bi d];exact⟨_,rfl⟩
 .rw[BM d,BM d];exact⟨_,rfl⟩
theorem CP(g:X.calm=true):dD X (.builtin "min") (λe H Q=>∃i j,e=[.int i,.int j]/\Q (.int (if j<i then j else i)) H):=by
 intro f s l H e n Q I r h;obtain⟨i,j,rfl,q⟩:=h;obtain⟨u,m,rfl,⟨t,rfl⟩,⟨p,rfl⟩⟩:=vals2 r;refine min_two_ints (I.ok.hd g) λv o k=>⟨_,H,I.kept k,?_,q⟩;by_cases d:j<i
 .rw[Bi d,Bi d];exact⟨_,rfl⟩
 .rw[BM d,BM d];exact⟨_,rfl⟩
theorem CQ:dD X (.type "int") (λd H Q=>(∃i,d=[.int i]/\Q (.int i) H)\/∃k,d=[.bl k]/\Q (.int (if k then 1 else 0)) H):=by
 intro e s g H d j Q I r h;rcases h with⟨i,rfl,q⟩|⟨k,rfl,q⟩
 .obtain⟨u,rfl,t,rfl⟩:=vals1 r;exact call_int_int ⟨.int i,H,I,⟨_,rfl⟩,q⟩
 .obtain⟨u,rfl,f⟩:=vals1 r;cases f;exact call_int_bool ⟨.int (if k then 1 else 0),H,I.tok _,⟨_,rfl⟩,q⟩
theorem xj:dD X (.builtin "divmod") (λd H Q=>∃i j,d=[.int i,.int j]/\Y4 i j/\∀p,H p=none->Q (.ref p) (upd H p (.tup [.int (i/j),.int (i%j)]))):=by intro f s k H d m Q I r h;obtain⟨i,j,rfl,⟨w,v⟩,q⟩:=h;obtain⟨u,l,rfl,⟨t,rfl⟩,⟨n,rfl⟩⟩:=vals2 r;refine divmod_int (by lia) ?_ (.inl (YH (by lia)));rw[QQ i (by lia),i4 i (by lia)];have g:H s.heap.objs.size=none:=I.hok.fresh (Ee _);refine⟨.ref s.heap.objs.size,_,?_,rfl,q _ g⟩;refine I.laid (λb o e=>GT _ e) (Ee _) ⟨by simp only[BL,Wt];rw[sizeLine_eq];decide,[.int (i/j) s.toks,.int (i%j) (s.toks+1)],.cons ⟨_,rfl⟩ (.cons ⟨_,rfl⟩ .nil),?_⟩;exact⟨_,QP s.heap rfl,rfl,0,rfl⟩
end
structure yS(h:Heap)(x dx C:Addr)(mA:Str->Option Value):Prop where
 obj:h.get? x=some (instObj C dx)
 ns:h.Ns1 dx mA
 ne:dx≠x
theorem CT{h:Heap}(n:h.Ns1 g d):∃c,h.get? g=some c/\∀name,lookIn name c=some (d name):=by
 obtain⟨o,f,r,j,m,l,_,k⟩:=n;refine⟨o,j,λname=>?_⟩;have e:=k name;unfold nsFind findBy at e;rw[<-Array.find?_toList]at e;unfold lookIn;rw[m];dsimp only;split
 .rename_i y q
  rw[q]at e;exact Q1 some e
 .rename_i q
  rw[q]at e;have a:f.toList.any (·.refKey)=false:=by rw[ef];intro y i;obtain⟨z,t,b⟩:=l y (Array.mem_toList_iff.mp i);simp[DictEntry.refKey,b]
  have p:¬f.toList.any (·.refKey)=true:=by rw[a];exact Oy
  rw[BM p];exact Q1 some e
theorem yS.look(I:yS h x c C b):∃a,PySem.W.InstAt h x (instObj C c) C (some a)/\∀name,lookIn name a=some (b name):=
 let⟨a,ho,hl⟩:=CT I.ns
 ⟨a,⟨I.obj,rfl,rfl,ho⟩,hl⟩
section
variable{prog:Program}{w:World}{A:Around}{E:Value->Shared->Prop}{s:Shared}{K:Frag}{x dx C f:Addr}{mA:Str->Option Value}{name:Str}{v:Value}
theorem get_map(X:K.In s.heap)(I:yS s.heap x dx C mA)(g:plainGet K C name=true)(e:hasDictIn K C=true)
 (i:findIn K (.ref C) name=some none)(c:mA name=some v)(b:PySem.W.handedIn v=true)(h:Q v {s with toks:=s.toks+1}):
 wpAny (model prog w) A (getAttr (.ref x) name a) Q E s:=by
 obtain⟨j,J,d⟩:=I.look;exact PySem.W.get_value X J (plainGet_of g).1 (PySem.W.findObj_own e i rfl (by rw[d,c])) b h
theorem EN(X:K.In s.heap)(I:yS s.heap x dx C mA)(a:plainGet K C name=true)
 (g:findIn K (.ref C) name=some (some (.ref f)))(d:isFn K (.ref f)=true)(c:mA name=none)(h:Q (.ref f,[.ref x]) s):
 wpAny (model prog w) A (getMethod (.ref x) name pl) Q E s:=by
 obtain⟨b,J,e⟩:=I.look;exact PySem.W.method_fn X J (plainGet_of a).1 (plainGet_of a).2 g (Kt.mp d) (by show(lookIn name b).map (·.isSome)=some false;rw[e,c];rfl) h
theorem JE(X:K.In s.heap)(I:yS s.heap x dx C mA)
 (o:findIn K (.ref C) "__setattr__"=some (some (.builtin "object.__setattr__")))(p:plainOver K C=true)(m:takerIn K C name=some none)(q:hasDictIn K C=true)
 (l:PySem.Within mA ns)(n:ns.length<=sizeLine)
 (h:∀h',yS h' x dx C (λy=>if y=name then some v else mA y)->Heap.SameBut dx s.heap h'->Q () {s with heap:=h',toks:=s.toks+2}):
 wpAny (model prog w) A (setAttr (.ref x) name v) Q E s:=by
 obtain⟨B,J,F⟩:=I.look;refine PySem.W.set_plain X J o (PySem.W.osa_open (s:={s with toks:=s.toks+1}) (r:=none) X J p m λb=>?_);obtain⟨G,t,i⟩:=PySem.W.any_some q;have k:s.heap.get? x=some ⟨.ref C,some dx,.plain,#[]⟩:=I.obj;refine GE (L9 (GE (GE (wpAny_loadPart k (GE (PySem.W.Looks.here (s:={s with toks:=s.toks+1}) (PySem.W.looks_clsIn X t) ?_))))));rw[i];refine L9 (a:=some dx) (GE (L9 (GE ?_)));refine wpAny_nsSet1 (s:={s with toks:=s.toks+1}) I.ns λh' d c=>?_;obtain⟨D,u,z,e,g,j⟩:=d.count (PySem.Within.cons name v l);refine GE (wpAny_lookBehind e (by rw[g];exact pastItsLine_dict (Do j (by rw[BL];lia))) ?_);exact L9 (h _ ⟨(c.2 _ (dk I.ne)).trans I.obj,d,I.ne⟩ c)
theorem EO(X:K.In s.heap)(c:makesIn K C=true)
 (e:findIn K (.ref C) "__init__"=some (some (.ref f)))(i:PySem.W.typeIn K (.ref f)=some (.type "function"))
 (h:codeAny (model prog w) (A.under (.builtin "type.__call__" ⟨.ref C::vs,b⟩)) (.call (.ref f) ⟨.ref (s.heap.objs.size+1)::vs,b⟩) (PySem.W.InitBack (s.heap.objs.size+1) R)
   {s with heap:=(s.heap.push emptyDict).push (instObj C s.heap.objs.size)}):
 codeAny (model prog w) A (.call (.ref C) ⟨vs,b⟩) R s:=by
 obtain⟨k,g,d,t,j⟩:=s;exact PySem.W.make_core (PySem.W.makes_of X c) (rf X e) (λa=>PySem.W.bind_fn X a i) (.inl rfl) h
end
noncomputable def ia(f:Str)(v:V):List (Str×V)->List (Str×V)
 |[]=>[(f,v)]
 |(g,x)::r=>if g=f then(g,v)::r else(g,x)::ia f v r
theorem nX(f g:Str)(v:V):∀c:List (Str×V),(ia f v c).lookup g=if g=f then some v else c.lookup g
 |[]=>by
  show I0 g [(f,v)]=_;by_cases h:g=f
  .have a:(g==f)=true:=Kt.mpr h;simp only[I0,a,Bi h]
  .have a:(g==f)=false:=kb.mpr h;simp only[I0,a,BM h]
 |(k,x)::r=>by
  have d:=nX f g v r;rw[show ia f v ((k,x)::r)=(if k=f then(k,v)::r else(k,x)::ia f v r)from rfl];by_cases b:k=f
  .rw[Bi b];by_cases h:g=k
   .have a:(g==k)=true:=Kt.mpr h;simp only[I0,a,Bi (h.trans b)]
   .have a:(g==k)=false:=kb.mpr h;simp only[I0,a,BM (λe:g=f=>h (e.trans b.symm))]
  .rw[BM b];by_cases h:g=k
   .have a:(g==k)=true:=Kt.mpr h;simp only[I0,a,BM (λe:g=f=>b (h.symm.trans e))]
   .have a:(g==k)=false:=kb.mpr h;simp only[I0,a];exact d
theorem m5(f:Str)(v:V):∀b:List (Str×V),f∈(ia f v b).map (·.1)/\∀g,g∈b.map (·.1)->g∈(ia f v b).map (·.1)
 |[]=>⟨by simp[ia],λg h=>by simp at h⟩
 |(k,x)::r=>by
  obtain⟨d,c⟩:=m5 f v r;rw[show ia f v ((k,x)::r)=(if k=f then(k,v)::r else(k,x)::ia f v r)from rfl];by_cases a:k=f
  .rw[Bi a];subst a;exact⟨by simp,λg h=>by simpa using h⟩
  .rw[BM a];refine⟨?_,λg h=>?_⟩
   .rw[UV];exact FS _ d
   .rw[UV]at h⊢;rcases Hk.mp h with e|e
    .exact Hk.mpr (.inl e)
    .exact FS _ (c g e)
theorem nY(f:Str)(v:V):∀b:List (Str×V),(ia f v b).length<=b.length+1
 |[]=>by simp[ia]
 |(k,x)::r=>by
  have ih:=nY f v r;rw[show ia f v ((k,x)::r)=(if k=f then(k,v)::r else(k,x)::ia f v r)from rfl];by_cases a:k=f
  .rw[Bi a,BL,BL];lia
  .rw[BM a,BL,BL];lia
theorem sf.some_of(r:sf (some v) o):∃u,o=some u/\RelV v u:=by
 cases o with
 |none=>exact(show False from r).elim
 |some u=>exact⟨u,rfl,r⟩
theorem sf.none_of(r:sf none o):o=none:=by
 cases o with
 |none=>rfl
 |some u=>exact(show False from r).elim
theorem CU(r:RelV v u):PySem.W.handedIn u=true:=by
 cases v with
 |bV=>cases(show u=Value.none from r);rfl
 |bl b=>cases(show u=Value.bool b from r);rfl
 |int i=>obtain⟨t,e⟩:=(show∃t,u=Value.int i t from r);cases e;rfl
 |str x=>obtain⟨t,e⟩:=(show∃t,u=Value.str x t from r);cases e;rfl
 |Ef b=>obtain⟨t,e⟩:=(show∃t,u=Value.bytes b t from r);cases e;rfl
 |OB b=>obtain⟨t,e⟩:=(show∃t,u=Value.float b t from r);cases e;rfl
 |ref a=>cases(show u=Value.ref a from r);rfl
 |ty n=>cases(show u=Value.type n from r);rfl
section
variable{P:Program}{w:World}{H H':Hp}{h h':Heap}{a C dx:Addr}{fs fs':List (Str×V)}
theorem oR(c:kR P w H h)(e:H a=some (.ins C dx fs)):∃b,yS h a dx C b/\(∀f,sf (fs.lookup f) (b f))/\PySem.Within b (fs.map (·.1))/\fs.length<=1000/\H dx=some (.own a):=by obtain⟨d,z,i,g,b,n,r,q⟩:=(show cJ P w H h a (.ins C dx fs)from c a _ e);exact⟨b,⟨g,n,i⟩,r,q,z,d⟩
end
structure JF(K:Frag)(C:Addr):Prop where
 pg:plainGet K C Str.empty=true
 hd:hasDictIn K C=true
 po:plainOver K C=true
 sa:findIn K (.ref C) "__setattr__"=some (some (.builtin "object.__setattr__"))
theorem JF.get{K:Frag}(c:JF K C)(f:Str):plainGet K C f=true:=c.pg
def kh(K:Frag)(C:Addr)(f:Str):Prop:=findIn K (.ref C) f=some none
theorem kh.Vh{K:Frag}(n:kh K C f):takerIn K C f=some none:=by unfold takerIn;rw[show findIn K (.ref C) f=some none from n];rfl
structure Meth(K:Frag)(C:Addr)(m:Str)(f:Addr):Prop where
 at_:findIn K (.ref C) m=some (some (.ref f))
 fn:isFn K (.ref f)=true
 kp:keepIn K (.ref f)=true
section
variable{X:Cx}{pins:List (Addr×Obj)}{σ:St}{H:Hp}{s:Shared}{a C dx:Addr}{fs:List (Str×V)}{f:Str}{v:V}{A:Around}{E:Value->Shared->Prop}
theorem yT(I:Inv X pins σ H s)(e:H a=some (.ins C dx fs))(c:JF X.K C)(n:kh X.K C f)(l:fs.lookup f=some v)
 (h:∀u s',Inv X pins σ H s'->RelV v u->Q u s'):wpAny (model X.prog X.w) A (getAttr (.ref a) f b) Q E s:=by
 obtain⟨g,O,r,_,_,_⟩:=oR I.hok e;obtain⟨u,i,d⟩:=sf.some_of (v:=v) (o:=g f) (by rw[<-l];exact r f);exact get_map I.kX O (c.get f) c.hd n i (CU d) (h u _ (I.tok _) d)
theorem yU(I:Inv X pins σ H s)(e:H a=some (.ins C dx fs))(c:JF X.K C)(k:Meth X.K C m g)(l:fs.lookup m=none)
 (h:Q (.ref g,[.ref a]) s):wpAny (model X.prog X.w) A (getMethod (.ref a) m pl) Q E s:=by
 obtain⟨b,O,r,_,_,_⟩:=oR I.hok e;have d:b m=none:=sf.none_of (by rw[<-l];exact r m);exact EN I.kX O (c.get m) k.at_ k.fn d h
theorem yV(I:Inv X pins σ H s)(e:H a=some (.ins C dx fs))(c:JF X.K C)(n:kh X.K C f)(D:fs.length<1000)(m:RelV y u)
 (h:∀s',Inv X pins σ (upd H a (.ins C dx (ia f y fs))) s'->Q () s'):wpAny (model X.prog X.w) A (setAttr (.ref a) f u) Q E s:=by
 obtain⟨j,O,r,i,_,k⟩:=oR I.hok e;have hz:(fs.map (·.1)).length<=sizeLine:=by rw[Ap,sizeLine_eq];lia
 refine JE I.kX O c.sa c.po n.Vh c.hd i hz λB d l=>h _ ?_;have hd:∃o,B.get? dx=some o:=let⟨o,_,_,e',_⟩:=d.ns;⟨o,e'⟩
 refine I.write (x:=a) (e:=dx) (by rw[e];exact JU) (.inr k) (λb q t z=>(l.2 b t).trans z) hd ?_;refine⟨by rw[ao O.ne];exact k,?_,O.ne,d.obj,_,d.ns,λg=>?_,λg p=>?_⟩
 .have:=nY f y fs;lia
 .show sf ((ia f y fs).lookup g) (if g=f then some u else j g);rw[nX];by_cases q:g=f
  .rw[Bi q,Bi q];exact m
  .rw[BM q,BM q];exact r g
 .by_cases q:g=f
  .rw[q];exact(m5 f y fs).1
  .refine(m5 f y fs).2 g (i g λz=>p ?_);show(if g=f then some u else j g)=none;rw[BM q];exact z
theorem Inv.made(I:Inv X pins σ H s):Inv X pins σ (upd (upd H s.heap.objs.size (.own (s.heap.objs.size+1))) (s.heap.objs.size+1) (.ins C s.heap.objs.size []))
 {s with heap:=(s.heap.push emptyDict).push (instObj C s.heap.objs.size)}:=by
 have d:(s.heap.push emptyDict).get? s.heap.objs.size=some emptyDict:=QP s.heap rfl;have j:((s.heap.push emptyDict).push (instObj C s.heap.objs.size)).get? (s.heap.objs.size+1)=some (instObj C s.heap.objs.size):=by have:=QP (s.heap.push emptyDict) (o:=instObj C s.heap.objs.size) rfl;rwa [Heap.size_push]at this
 have i:(s.heap.push emptyDict).Ns s.heap.objs.size (λ_=>none):=⟨emptyDict,#[],_,d,rfl,(λe h=>absurd h (by simp)),λ_=>rfl⟩;have I1:=I.laid (a:=s.heap.objs.size) (o:=.own (s.heap.objs.size+1)) (h':=s.heap.push emptyDict) (t':=s.toks) (λb u q=>GT _ q) (Ee _) ⟨_,d⟩;refine I1.laid (a:=s.heap.objs.size+1) (o:=.ins C s.heap.objs.size []) (t':=s.toks) (λb u q=>GT _ q) (ip (Heap.size_push _ _)) ?_;have c:s.heap.objs.size≠s.heap.objs.size+1:=SC (RF _);refine⟨by rw[ao c,aG],PQ _,c,j,λ_=>none,(Heap.Ns1.of_empty i).at λo q=>GT _ q,λ_=>JU,λy g=>absurd rfl g⟩
theorem JG(c:attributeBase e f env (eval e env)=eval e env)
 (h:wpAny (model prog w) A (eval e env) (λo b=>wpAny (model prog w) A (getAttr o f true) Q E b) E s):wpAny (model prog w) A (eval (.Attribute e f pos) env) Q E s:=
 Attribute_any_ h (by rw[arm_eval_Attribute,c])
end
def Y5(K:Frag)(ta:TE)(f:Str):TE:=λd H Q=>ta d H λx c=>∃a C e b v,x=.ref a/\c a=some (.ins C e b)/\JF K C/\kh K C f/\b.lookup f=some v/\Q v c
def Vi(K:Frag)(ta g:TE)(f:Str):TS:=λD b H=>g b H λy h=>ta b h λx e=>∃a C d c,x=.ref a/\e a=some (.ins C d c)/\JF K C/\kh K C f/\c.length<1000/\
 D.nx b (upd e a (.ins C d (ia f y c)))
section
variable{X:Cx}{o e value:Expr}{f:Str}{pos pos' tpos:Pos}{ta tv:TE}
theorem OY(j:PE X e ta)(k:attributeBase e f X.env (eval e X.env)=eval e X.env):PE X (.Attribute e f pos) (Y5 X.K ta f):=by intro b s d H Q I h;refine JG k (cg (j b s d H _ I h) λu y hz=>?_);obtain⟨x,r,I1,g,a,C,A,z,v,ex,m,c,n,l,q⟩:=hz;subst ex;obtain rfl:u=Value.ref a:=g;exact yT I1 m c n l λt w p i=>⟨v,r,p,i,q⟩
theorem gq(t:PE X o ta)(p:PE X value tv)(r:swapsWith value (some (.Attribute o f pos')) pos.line X.env=pure false):PS X (.Assign [.Attribute o f pos'] value pos) (Vi X.K ta tv f):=by intro b s d H D I h;refine plainObj_wpAny_Assign_Attribute (cg (p b s d H _ I h) λu g ⟨y,A,I1,i,q⟩=>cg (t b g d A _ I1 q) λm E hz=>?_) r;obtain⟨x,J,z,j,a,C,G,F,ex,v,c,n,l,k⟩:=hz;subst ex;obtain rfl:m=Value.ref a:=j;exact yV z v c n l i λB w=>⟨d,_,w,k⟩
end
section
variable{X:Cx}{pins:List (Addr×Obj)}{σ:St}{H:Hp}{s:Shared}{A:Around}{E:Value->Shared->Prop}{Q:Value->Shared->Prop}{c:Value}{b:Bool}
inductive oB(K:Frag)(H:Hp):V->Value->Prop where
 |bV:oB K H .bV (.type "NoneType")
 |bl (x:Bool):oB K H (.bl x) (.type "bool")
 |int (i:Int):oB K H (.int i) (.type "int")
 |str (x:Str):oB K H (.str x) (.type "str")
 |OB (x:UInt64):oB K H (.OB x) (.type "float")
 |lst {a:Addr} {xs:List V} (e:H a=some (.lst xs)):oB K H (.ref a) (.type "list")
 |yK {a:Addr} {o:Obj} {xs:List V} (e:H a=some (.yK o (.lst xs))):oB K H (.ref a) (.type "list")
 |tup {a:Addr} {xs:List V} (e:H a=some (.tup xs)):oB K H (.ref a) (.type "tuple")
 |dK {a:Addr} {kvs:List (Key×V)} (e:H a=some (.dK kvs)):oB K H (.ref a) (.type "dict")
 |dT {a:Addr} {kvs:List (List Key×V)} (e:H a=some (.dT kvs)):oB K H (.ref a) (.type "dict")
 |ins {a C dx:Addr} {fs:List (Str×V)} (e:H a=some (.ins C dx fs)) (cl:JF K C) (ha:findIn K (.ref C) "__class__"=some (some (.builtin "object.__class__")))
   (hn:PySem.W.specialIn K (.builtin "object.__class__") "__get__"=some (some (.builtin "getset_descriptor.__get__"))) (htk:PySem.W.takesIn K (.builtin "object.__class__")=some true)
   (hm:mroIn K C (.type "object")=some true):oB K H (.ref a) (.ref C)
theorem CV(I:Inv X pins σ H s)(d:RelV x u)(v:oB X.K H x t)(e:kitOne X.K t c=some b)(h:∀B,Q (.bool b) {s with toks:=B}):
 wpAny (model X.prog X.w) A (call (.builtin "isinstance") [u,c]) Q E s:=by
 cases v with
 |bV=>cases(show u=Value.none from d);exact UF PySem.W.kitx_none I.kX JU e (λz=>nomatch z) h
 |bl y=>cases(show u=Value.bool y from d);exact UF PySem.W.kitx_bool I.kX JU e (λz=>nomatch z) h
 |int i=>obtain⟨t,q⟩:=(show∃t,u=Value.int i t from d);cases q;exact UF PySem.W.kitx_int I.kX JU e (λz=>nomatch z) h
 |str y=>obtain⟨t,q⟩:=(show∃t,u=Value.str y t from d);cases q;exact UF PySem.W.kitx_str I.kX JU e (λz=>nomatch z) h
 |OB y=>obtain⟨t,q⟩:=(show∃t,u=Value.float y t from d);cases q;exact UF PySem.W.kitx_float I.kX JU e (λz=>nomatch z) h
 |@lst a k f=>
  cases(show u=Value.ref a from d);obtain⟨_,_,n,_,g⟩:=(show cJ X.prog X.w H s.heap a (.lst k)from I.hok a _ f);exact UF PySem.W.kitx_list I.kX ⟨_,g,rfl⟩ e (λz=>nomatch z) h
 |@yK a D k f=>
  cases(show u=Value.ref a from d);obtain⟨_,_,_,n,_,g⟩:=(show cJ X.prog X.w H s.heap a (.yK D (.lst k))from I.hok a _ f);exact UF PySem.W.kitx_list I.kX ⟨_,g,rfl⟩ e (λz=>nomatch z) h
 |@tup a k f=>
  cases(show u=Value.ref a from d);obtain⟨_,_,_,p⟩:=(show cJ X.prog X.w H s.heap a (.tup k)from I.hok a _ f);obtain⟨o,g,l,_⟩:=p;exact UF PySem.W.kitx_tuple I.kX ⟨o,g,l⟩ e (λz=>nomatch z) h
 |@dK a j f=>
  cases(show u=Value.ref a from d);obtain⟨_,_,P,_,p⟩:=(show cJ X.prog X.w H s.heap a (.dK j)from I.hok a _ f);obtain⟨o,M,N,g,l,_⟩:=p;exact UF PySem.W.kitx_dict I.kX ⟨o,g,l.1⟩ e (λz=>nomatch z) h
 |@dT a j f=>
  cases(show u=Value.ref a from d);obtain⟨_,_,k,_,o,M,N,g,l,_⟩:=(show cJ X.prog X.w H s.heap a (.dT j)from I.hok a _ f);exact UF PySem.W.kitx_dict I.kX ⟨o,g,l.1⟩ e (λz=>nomatch z) h
 |@ins a C U T f r L F m G=>
  cases(show u=Value.ref a from d);obtain⟨S,O,_⟩:=oR I.hok f;obtain⟨R,J,_⟩:=O.look;exact UF (PySem.W.kitx_own (r.get _) r.hd L F m G) I.kX J e (λz=>nomatch z) h
end
structure cV(k:Nat)(A:Around):Prop where
 hd:A.handled=none
 dp:A.depth+k+120<recursionLimit
 un:A.units+8*k+200<cLine
theorem cV.mono(r:cV k A)(h:j<=k):cV j A:=⟨r.hd,by have:=r.dp;lia,by have:=r.un;lia⟩
theorem cV.deeper(r:cV (k+1) A)(env:Env):cV k (A.deeper env):=
 ⟨r.hd,by have:=r.dp;show A.depth+1+k+120<_;lia,by have:=r.un;show A.units+3+8*k+200<_;lia⟩
theorem yW{A:Around}:(A.under (.builtin "type.__call__" ⟨.ref C::us,a⟩)).depth=A.depth+1:=by first|rfl|simp[Around.under,Code.weight,Code.isCreation,Code.isGuard,Code.isCaller,Code.frames,Code.isFrame,guardIds]
theorem yX{A:Around}:(A.under (.builtin "type.__call__" ⟨.ref C::us,a⟩)).units=A.units+1:=by first|rfl|simp[Around.under,Code.cUnits,Code.frames,Code.isFrame]
theorem cV.make(r:cV (k+1) A)(C:Addr)(us:List Value)(a:List (Str×Value)):cV k (A.under (.builtin "type.__call__" ⟨.ref C::us,a⟩)):=
 ⟨r.hd,by have:=r.dp;rw[yW];lia,by have:=r.un;rw[yX];lia⟩
theorem cV.depth(r:cV k A):A.depth<recursionLimit:=by have:=r.dp;lia
theorem cV.units(r:cV k A):A.units+64<cLine:=by have:=r.un;lia
def Vj:TA:=λ_ H Q=>Q [] H
def Nn(ta:TE)(c:TA):TA:=λa H Q=>ta a H λx e=>c a e λb d=>Q (x::b) d
section
variable{X:Cx}{e:Expr}{es:List Expr}{te:TE}{t:TA}{pos:Pos}
theorem cW:PA X [] Vj:=λ_ _ _ _ H Q I h=>Calls.spliced_nil ⟨[],H,I,.nil,h⟩
theorem aZ(m:PE X e te)(l:PA X es t)(k:starEach (e::es) X.env=(false,eval e X.env)::starEach es X.env:=by rfl):PA X (e::es) (Nn te t):=by intro pos a s b H Q I h;rw[k];show wpAny _ _ (spliced ((false,eval e X.env)::backTo pos (starEach es X.env))) _ _ s;refine Calls.spliced_cons (cg (m a s b H _ I h) λu d ⟨x,p,I1,g,j⟩=>?_);exact cg (l pos a d b p _ I1 j) λq r ⟨c,o,n,f,i⟩=>⟨x::c,o,n,.cons g f,i⟩
def Y6(t:TA):TE:=λc H Q=>t c H λa b=>a.length<=sizeLine/\∀p,b p=none->Q (.ref p) (upd b p (.tup a))
def Y7(t:TA):TE:=λc H Q=>t c H λa b=>a.length<=sizeLine/\∀p,b p=none->Q (.ref p) (upd b p (.lst a))
theorem ES(h:PA X es t):PE X (.Tuple es i pos) (Y6 t):=by intro a s f H Q I k;refine wpAny_Tuple_spliced (cg (h pos a s f H _ I k) λj c ⟨g,d,I1,r,z,q⟩=>⟨by rw[<-r.length];exact z,?_⟩);have l:d c.heap.objs.size=none:=I1.hok.fresh (Ee _);refine⟨.ref c.heap.objs.size,upd d c.heap.objs.size (.tup g),I1.laid (t':=c.toks) (λb u e=>GT _ e) (Ee _) ?_,rfl,q _ l⟩;exact⟨z,j,r,⟨_,QP _ rfl,rfl,_,rfl⟩⟩
theorem yY(h:PA X es t):PE X (.List es pos) (Y7 t):=by intro a s f H Q I j;refine wpAny_List_spliced (cg (h pos a s f H _ I j) λi c ⟨g,d,I1,r,z,q⟩=>⟨by rw[<-r.length];exact z,?_⟩);have k:d c.heap.objs.size=none:=I1.hok.fresh (Ee _);refine⟨.ref c.heap.objs.size,upd d c.heap.objs.size (.lst g),I1.laid (t':=c.toks) (λb u e=>GT _ e) (Ee _) ?_,rfl,q _ k⟩;exact⟨z,i,0,r,QP _ rfl⟩
end
abbrev Sp:=List V->Hp->VK->XK->Prop
abbrev CW:=List Env->Hp->Shared->XK->Value->Shared->Prop
structure yZ(P:Program)(w:World)(K:Frag)(mg:Str->Option Value)(base:Heap)(A:Around)(outer:List Env)(s:Shared)(H:Hp):Prop where
 frames:A.frames=some outer
 mod:Mod K mg base
 bs:∀b o,base.get? b=some o->s.heap.get? b=some o/\H b=none
 Je:base.objs.size<=s.heap.objs.size
 mV:s.heap.FunFrames base outer
 Nf:∀b∈frs outer,H b=none
 hok:kR P w H s.heap
 bare:AllBare s.gens
 tree:P.given.tree=none
def CE(a:List Env)(P:Program)(w:World)(H:Hp)(s:Shared)(Q:VK)(u:Value)(s':Shared):Prop:=
 ∃v b,s'.os=s.os/\AllBare s'.gens/\Un (frs a) [] H b s.heap s'.heap/\kR P w b s'.heap/\RelV v u/\Q v b
def CR(CX:CW)(a:List Env)(P:Program)(w:World)(H:Hp)(s:Shared)(Q:VK)(E:XK)(r:Result)(s':Shared):Prop:=
 match r with
 |.ok (.ret u)=>CE a P w H s Q u s'
 |.ok _=>False
 |.error e=>CX a H s E e s'
structure b8(P:Program)(w:World)(K:Frag)(mg:Str->Option Value)(base:Heap)(CX:CW)(k:Nat)(f:Addr)(fd:FuncData)(ps:List Str)(sp:Sp):Prop where
 len:∀vs H Q E,sp vs H Q E->vs.length=ps.length
 run:∀(A:Around)(outer:List Env)(s:Shared)(H:Hp)(args:Args)(us:List Value)(vs:List V)(Q:VK)(E:XK),cV k A->yZ P w K mg base A outer s H->BindsTo s fd args (ps.zip us)->Vals vs us->sp vs H Q E->
  codeAny (model P w) A (.call (.ref f) args) (CR CX outer P w H s Q E) s
theorem b8.imp{K:Frag}{k:Nat}{f:Addr}{e:FuncData}{ps:List Str}{sp b:Sp}(F:b8 P w K d base CX k f e ps sp)
 (h:∀vs H Q E,b vs H Q E->sp vs H Q E):b8 P w K d base CX k f e ps b:=
 ⟨λvs H Q E q=>F.len vs H Q E (h _ _ _ _ q),λA a s H c g vs Q E l m n i j=>F.run A a s H c g vs Q E l m n i (h _ _ _ _ j)⟩
theorem yZ.make{K:Frag}{a:List Env}{s:Shared}{H:Hp}(e:yZ P w K b base A a s H)(C:Addr)(us:List Value)(c:List (Str×Value)):
 yZ P w K b base (A.under (.builtin "type.__call__" ⟨.ref C::us,c⟩)) a s H:=⟨by first|exact e.frames|(simpa[Around.under,Code.envs,Code.isFrame,pushEnvs]using e.frames),e.mod,e.bs,e.Je,e.mV,e.Nf,e.hok,e.bare,e.tree⟩
section
variable{X:Cx}{pins:List (Addr×Obj)}{σ:St}{H:Hp}{s s':Shared}
theorem Inv.Vk(I:Inv X pins σ H s):yZ X.prog X.w X.K X.mg X.base X.A X.stack s H:=
 ⟨I.ok.frames,I.ok.mod,I.bs,Do I.ok.Je I.sz,I.stack,I.jG,I.hok,I.bare,I.ok.tree⟩
theorem Inv.after(I:Inv X pins σ H s)(h:CE X.stack X.prog X.w H s Q u s'):EP X pins σ Q u s':=by obtain⟨v,j,os,a,f,e,r,q⟩:=h;obtain⟨i,g,d,t,c⟩:=s';obtain rfl:c=s.os:=os;exact⟨v,j,I.call (h':=i) (g':=g) (d':=d) (t':=t) (ch:=[]) f e a (λb z=>absurd z (by simp)),r,q⟩
end
def Binds(K:Frag)(b:FuncData)(ps:List Str)(ds:List Value):Prop:=
 ∀(s:Shared)(a:List Value),K.In s.heap->(a++ds).length=ps.length->BindsTo s b ⟨a,[]⟩ (ps.zip (a++ds))
theorem Binds.all{K:Frag}(h:∀us:List Value,us.length=ps.length->bindArgs b ⟨us,[]⟩=pure (ps.zip us)):Binds K b ps []:=λs us _ a=>by rw[eM]at a⊢;exact .of_eq (h us a)
def Passes(CX:CW)(X:Cx)(E:XK):Prop:=∀(a:List (Addr×Obj))(c:St)(H:Hp)(s:Shared)(e:Value)(b:Shared),Inv X a c H s->CX X.stack H s E e b->X.xe e b
section
variable{X:Cx}{CX:CW}{k:Nat}{f C:Addr}{fd:FuncData}{ps:List Str}{sp:Sp}{Jf:List V}{ds:List Value}{E:XK}{x m:Str}{p pos apos:Pos}{e o:Expr}{es:List Expr}{ta:TE}{t:TA}
theorem ET{c:St}{vs:List V}(F:b8 X.prog X.w X.K X.mg X.base CX k f fd ps sp)(i:cV k X.A)(n:Binds X.K fd ps ds)(l:Vals Jf ds)(g:∀H s e s',Inv X a c H s->CX X.stack H s E e s'->X.xe e s')
 (I:Inv X a c H s)(r:Vals vs us)(h:sp (vs++Jf) H Q E):wpAny (model X.prog X.w) X.A (call (.ref f) us) (EP X a c Q) X.xe s:=by
 have d:Vals (vs++Jf) (us++ds):=r.append l;have j:(us++ds).length=ps.length:=by rw[<-d.length];exact F.len _ _ _ _ h
 refine wpAny_call (codeAny_mono (F.run X.A X.stack s H ⟨us,[]⟩ (us++ds) (vs++Jf) Q E i I.Vk (n s us I.kX j) d h) λr s' b=>?_);cases r with
 |error e=>exact g H s e s' I b
 |ok fl=>
  cases fl with
  |ret u=>exact I.after b
  |next=>exact D5 b
  |brk=>exact D5 b
  |cont=>exact D5 b
structure Mk(K:Frag)(C f:Addr):Prop where
 makes:makesIn K C=true
 init:findIn K (.ref C) "__init__"=some (some (.ref f))
 fn:isFn K (.ref f)=true
 kp:keepIn K (.ref C)=true
theorem EU{g:St}{vs:List V}(M:Mk X.K C f)(F:b8 X.prog X.w X.K X.mg X.base CX k f fd ps sp)(q:cV (k+1) X.A)(B:Binds X.K fd ps ds)(z:Vals Jf ds)
 (n:∀H s e s',Inv X a g H s->CX X.stack H s E e s'->X.xe e s')(I:Inv X a g H s)(r:Vals vs us)
 (h:∀x c,H x=none->H c=none->c≠x->sp (.ref x::(vs++Jf)) (upd (upd H c (.own x)) x (.ins C c [])) (λv G=>v=.bV/\Q (.ref x) G) E):
 wpAny (model X.prog X.w) X.A (call (.ref C) us) (EP X a g Q) X.xe s:=by
 have j:=h (s.heap.objs.size+1) s.heap.objs.size (I.hok.fresh (va _)) (I.hok.fresh (Ee _)) (SC (RF _));have d:=Inv.made (C:=C) I;have i:Vals (V.ref (s.heap.objs.size+1)::(vs++Jf)) (Value.ref (s.heap.objs.size+1)::(us++ds)):=.cons rfl (r.append z);have y:(Value.ref (s.heap.objs.size+1)::us++ds).length=ps.length:=by have e:=i.length;rw[F.len _ _ _ _ j]at e;exact e.symm
 refine wpAny_call (EO (f:=f) I.kX M.makes M.init (Kt.mp M.fn) (codeAny_mono (F.run _ X.stack _ _ ⟨Value.ref (s.heap.objs.size+1)::us,[]⟩ (Value.ref (s.heap.objs.size+1)::(us++ds)) _ _ E (q.make C us [])
  (d.Vk.make C us []) (B _ (Value.ref (s.heap.objs.size+1)::us) d.kX y) i j) λr s' b=>?_))
 cases r with
 |error e=>exact n _ _ e s' d b
 |ok fl=>
  cases fl with
  |ret u=>obtain⟨v,J,D,rv,ev,l⟩:=d.after b;subst ev;exact⟨rv,⟨V.ref (s.heap.objs.size+1),J,D,rfl,l⟩⟩
  |next=>exact D5 b
  |brk=>exact D5 b
  |cont=>exact D5 b
end
section
variable{X:Cx}{CX:CW}{k:Nat}{f C:Addr}{fd:FuncData}{ps ks:List Str}{sp:Sp}{E:XK}{x m:Str}{p pos apos kpos:Pos}{e o:Expr}{es:List Expr}{kws:List Keyword}{te ta:TE}{t tk:TA}{nm:Option Str}
variable{g:List Value->List Value->List Value}{gV:List V->List V->List V}
end
structure cK(N P:List Str)(sc:Scope):Prop where
 kind:sc.kind=.function
 co:sc.isCoroutine=false
 gen:sc.isGenerator=false
 nd:N.Nodup
 pre:N.take P.length=P
 par:∀x∈P,sc.names.lookup x=some .local\/sc.names.lookup x=some .cell
 OZ:∀y∈sc.names,y.2≠.free
theorem tW:∀{a:List (Str×Value)}{m:Str->Option Value},(∀v,(x,v)∉a)->bindL b a m x=m x
 |[],_,_=>rfl
 |(n,v)::r,m,h=>by
  unfold bindL;rw[tW λw c=>h w (FS _ c)];split
  .have:x≠n:=by rintro rfl;exact h v FK
   simp[this]
  .rfl
theorem tY:∀{a:List (Str×Value)}{m:Str->Option Value},(∀v,(x,v)∉a)->bindC b a m x=m x
 |[],_,_=>rfl
 |(n,v)::r,m,h=>by
  unfold bindC;rw[tY λw c=>h w (FS _ c)];split
  .rfl
  .have:x≠n:=by rintro rfl;exact h v FK
   simp[this]
theorem tZ:∀{P:List Str}{vs:List Value}{i:Nat}{m:Str->Option Value},P.Nodup->P[i]?=some x->vs[i]?=some v->a x=some .local->
 bindL a (P.zip vs) m x=some v
 |[],_,_,_,_,h,_,_=>by simp at h
 |_::_,[],_,_,_,_,h,_=>by simp at h
 |p::P,w::vs,0,m,d,c,b,e=>by simp at c b;subst c;subst b;show bindL a ((p,w)::P.zip vs) m p=_;unfold bindL;rw[tW λv f=>(cw.mp d).1 (W3 f).1,Bi e];simp
 |p::P,w::vs,i+1,m,d,c,b,e=>by show bindL a ((p,w)::P.zip vs) m x=_;unfold bindL;exact tZ (i:=i) (cw.mp d).2 (by simpa using c) (by simpa using b) e
theorem t7:∀{P:List Str}{vs:List Value}{i:Nat}{m:Str->Option Value},P.Nodup->P[i]?=some x->vs[i]?=some v->a x≠some .local->
 bindC a (P.zip vs) m x=some v
 |[],_,_,_,_,h,_,_=>by simp at h
 |_::_,[],_,_,_,_,h,_=>by simp at h
 |p::P,w::vs,0,m,d,c,b,e=>by simp at c b;subst c;subst b;show bindC a ((p,w)::P.zip vs) m p=_;unfold bindC;rw[tY λv f=>(cw.mp d).1 (W3 f).1,BM e];simp
 |p::P,w::vs,i+1,m,d,c,b,e=>by show bindC a ((p,w)::P.zip vs) m x=_;unfold bindC;exact t7 (i:=i) (cw.mp d).2 (by simpa using c) (by simpa using b) e
noncomputable def start(N:List Str)(vs:List V):St:=vs.map some++AW (N.length -vs.length) none
noncomputable def CY(CX:CW)(P:Program)(w:World)(K:Frag)(mg:Str->Option Value)(base:Heap)(N:List Str)(b:Str)(a:Scope)(f:Addr)(d:Value)(A:Around)(outer:List Env)(s:Shared)(H:Hp)(E:XK):Cx where
 prog:=P
 w:=w
 K:=K
 mg:=mg
 base:=base
 A:=A.deeper (envOfC b a s.heap.objs.size f d)
 N:=N
 s₀:=s
 H₀:=H
 env:=envOfC b a s.heap.objs.size f d
 outer:=outer
 stack:=envOfC b a s.heap.objs.size f d::outer
 ex:=[]
 calm:=true
 fn:=λ_=>true
 pn:=[]
 xe:=λe g=>wpAny (model P w) (A.deeper (envOfC b a s.heap.objs.size f d)) (leaving (envOfC b a s.heap.objs.size f d) e) (λ_ c=>CX outer H s E e c) (λh c=>CX outer H s E h c) g
theorem xm{sc:Scope}(h:sc.names.lookup x=some .cell):∃c,(cellsFrom n sc.names []).lookup x=some c:=by have q:=PySem.W.cellsFrom_some sc.names n [] (.inl h);exact X1.mp q
theorem CZ{K:Frag}{N ps:List Str}{l:Str}{d:Scope}{f:Addr}{G:Value}{A:Around}{g:List Env}{s L:Shared}{H:Hp}{E:XK}{us:List Value}{vs:List V}
 (S:cK N ps d)(T:A.handled=none)(R:A.depth+110<recursionLimit)(j:yZ P w K I base A g s H)(hl:vs.length=ps.length)(r:Vals vs us)
 (x:InCallC s s.heap.objs.size (bindL (envOfC l d s.heap.objs.size f G).kindOf (ps.zip us) λ_=>none) (cellsFrom (s.heap.objs.size+1) d.names []) (bindC (envOfC l d s.heap.objs.size f G).kindOf (ps.zip us) λ_=>none) L):
 Inv (CY CX P w K I base N l d f G A g s H E) [] (start N vs) H L:=by
 have O:ps.length<=N.length:=by have:=Q1 Jp S.pre;rw[d6]at this;lia
 obtain⟨F,Y,rfl,C⟩:=x.done;have J:∀b:Addr,b∉(CY CX P w K I base N l d f G A g s H E).ex:=λb z=>absurd (show b∈([]:List Addr)from z) (by simp);refine⟨⟨j.mod,S.kind,rfl,rfl,Ee _,λy z c F m=>?_,λy o=>?_,λy c _ h=>?_,λ_=>T,Around.frames_deeper j.frames,.inr ⟨rfl,rfl⟩,λb z=>absurd z (J b),j.bs,j.Je,λb _ _=>J b,λb z=>absurd z (J b),j.mV,j.Nf,j.tree,λA' Z Q X C=>PylongRoom.of (j.mod.nolimit.keeps C) (by rw[X];show A.depth+1+100<_;lia) (SeerAt.of (j.mod.seer.keeps C) j.tree (Q.trans (Around.frames_deeper j.frames)) S.gen S.co rfl rfl)⟩,
  rfl,j.bare,Un.kept C,⟨_,x.toInCall.ns,λi y v F m h3=>?_⟩,λy c h=>⟨_,x.cell y c h⟩,j.hok.fresh (Ee _),λy c h=>?_,λp B=>absurd (show p∈([]:List (Addr×Obj))from B) (by simp),j.hok.kept C,?_⟩
 .exact name_of_addr x.apart (SZ F) (SZ m)
 .have o:d.names.lookup y=some .cell\/d.names.lookup y=some .free:=o;rcases o with o|o
  .exact xm o
  .exact absurd rfl (S.OZ _ (SZ o))
 .exact QR (x.above y c (SZ h))
 .have D:i<vs.length:=by
   unfold start at m;by_cases D:i<vs.length
   .exact D
   .rw[NA (by simpa using D)]at m;rw[mf]at m;split at m<;>cases m
  have U:vs[i]?=some v:=by
   unfold start at m;rw[PP (by simpa using D),FC]at m;cases e:vs[i]? with
   |none=>rw[e]at m;cases m
   |some a=>rw[e]at m;cases m;rfl
  obtain⟨u,M,rv⟩:=r.get U;have B:ps[i]?=some y:=by rw[<-S.pre,lh (by lia)];exact F
  have t:ps.Nodup:=by rw[<-S.pre];exact S.nd.sublist (List.take_sublist _ _)
  refine⟨u,rv,?_⟩;rcases S.par y (SL B)with k|k
  .exact .inl ⟨k,tZ t B M k⟩
  .obtain⟨c,e⟩:=xm (n:=s.heap.objs.size+1) k;refine .inr ⟨.inl k,c,e,?_⟩;have q:=x.cell y c e;rw[t7 t B M (by show d.names.lookup y≠_;rw[k];decide)]at q;exact q
 .exact j.hok.fresh (QR (x.above y c (SZ h)))
 .unfold start;show _=N.length;rw[KM,Ap,List.length_replicate];lia
theorem Vm{K:Frag}{k:Nat}{f:Addr}{name d:Str}{h:Arguments}{i:List Stmt}{a:Scope}{Y kV D X g Z oc:Value}{an od:Option Addr}
 {M:Array (Option Value)}{N ps:List Str}{sp:Sp}(lk:K.lookup f=some ⟨oc,od,.func (fnOf name d h i a Y kV D X an g Z),M⟩)(R:codeIn K g d=true)(S:cK N ps a)
 (z:∀vs H Q E,sp vs H Q E->vs.length=ps.length)
 (m:∀(A:Around)(c:List Env)(s:Shared)(H:Hp)(vs:List V)(Q:VK)(E:XK),cV k (A.deeper (envOfC d a s.heap.objs.size f g))->sp vs H Q E->
   ∃t,wU (CY CX P w K F base N d a f g A c s H E) i t/\t {nx:=λ_ H'=>Q .bV H',rt:=Q} (start N vs) H):
 b8 P w K F base CX (k+1) f (fnOf name d h i a Y kV D X an g Z) ps sp:=by
 refine⟨z,λA c s H args us vs Q E G C hb r T=>?_⟩;have hl:=z _ _ _ _ T;have KX:K.In s.heap:=C.mod.Nd.keeps λb o e=>(C.bs b o e).1;have O:s.heap.NoLimit:=C.mod.nolimit.keeps λb o e=>(C.bs b o e).1;have l:∀y∈ps.zip us,a.names.lookup y.1=some .local\/(a.names.lookup y.1=some .cell/\((cellsFrom (s.heap.objs.size+1) a.names []).lookup y.1).isSome=true):=λ⟨n,v⟩ hy=>by
  rcases S.par n (W3 hy).1 with q|q
  .exact .inl q
  .exact .inr ⟨q,PySem.W.cellsFrom_some _ _ _ (.inl q)⟩
 refine codeAny_call_function G.depth (KX _ _ lk) rfl S.co S.gen rfl (PySem.W.codeRec_of KX R) (hb _ _ _ _ ?_);refine wpAny_newFunctionEnv_cells S.kind l λenv he U x=>?_;subst he;refine⟨O.keeps x.toInCall.keep,codeAny_func ?_⟩;obtain⟨t,ht,hq⟩:=m A c s H vs Q E (G.deeper _) T;have I:Inv (CY CX P w K F base N d a f g A c s H E) [] (start N vs) H U:=CZ S G.hd (by have:=G.dp;lia) C hl r x;refine eP (ht [] U (start N vs) H _ I hq) (λfl L p=>?_) λe L p=>p;have B:∀{j:St}{H':Hp}{v:V}{u:Value},Inv (CY CX P w K F base N d a f g A c s H E) [] j H' L->RelV v u->Q v H'->CE c P w H s Q u L:=
  λ{j H' v u} J rv q=>⟨v,H',J.os,J.bare,J.base,J.hok,rv,q⟩
 cases fl with
 |ret u=>obtain⟨v,j,H',J,rv,q⟩:=p;exact B J rv q
 |next=>obtain⟨j,H',J,q⟩:=p;exact B (v:=V.bV) (u:=Value.none) J rfl q
 |brk=>obtain⟨_,_,_,q⟩:=p;exact D5 q
 |cont=>obtain⟨_,_,_,q⟩:=p;exact D5 q
section
variable{X:Cx}{x:Str}{p pos:Pos}{e:Expr}{es:List Expr}{t:TA}{id T:String}{r:List V->Hp->VK->Prop}
def tCB(r:List V->Hp->VK->Prop)(t:TA):TE:=λa H Q=>t a H λb c=>r b c Q
theorem jd(u:dD X (.builtin id) r)(o:Gl X x)(n:X.mg x=none)(l:bootBuiltins x=some (.builtin id))(v:PA X (e::es) t)(m:x≠"__name__":=by decide)(c:(x==("__debug__":Str))=false:=by decide)
 (q:starEach (e::es) X.env=(false,eval e X.env)::starEach es X.env:=by rfl)(b:(backTo pos (starEach es X.env)).any (·.1)=false:=by rfl):PE X (.Call (.Name x p) (e::es) [] pos) (tCB r t):=by
 intro a s d H Q I h;refine eQ (jc I o n l ?_ m c);exact ke (cg (v pos a s d H _ I h) λg i ⟨f,w,I1,j,k⟩=>u a i d w f g Q I1 j k) q b
theorem t8(u:dD X (.type T) r)(o:Gl X x)(n:X.mg x=none)(l:bootBuiltins x=some (.type T))(v:PA X (e::es) t)(m:x≠"__name__":=by decide)(c:(x==("__debug__":Str))=false:=by decide)
 (q:starEach (e::es) X.env=(false,eval e X.env)::starEach es X.env:=by rfl)(b:(backTo pos (starEach es X.env)).any (·.1)=false:=by rfl):PE X (.Call (.Name x p) (e::es) [] pos) (tCB r t):=by
 intro a s d H Q I h;refine eQ (jc I o n l ?_ m c);exact ag (cg (v pos a s d H _ I h) λg i ⟨f,w,I1,j,k⟩=>u a i d w f g Q I1 j k) q b
end
end L2
namespace HT
open PySem PyProof.Rows
section
open PySem.SeqAt
open PySem.AutoSeq1 (wpAny_loadPart')
open PySem.MeetsSeq PySem.MeetsSeq2 PySem.MeetsSeq3
end
section
variable{prog:Program}{w:World}{A:Around}{E:Value->Shared->Prop}{s:Shared}
theorem JH(v:IsTup s.heap t vs.toArray)(x:IsTup s.heap b a.toArray)(p:vs≠[])
 (z:a=[]->Q (.ref t) s)(y:a≠[]->Q (.ref s.heap.objs.size) {s with heap:=s.heap.push {cls:=.type "tuple",data:=.seq (vs++a).toArray}})
 (k:vs.length+a.length<=sizeLine):wpAny (model prog w) A (binaryOp .Add (.ref t) (.ref b)) Q E s:=by
 obtain⟨⟨cls,u,data,m⟩,j,r,n,q⟩:=id v;obtain⟨⟨B,h,l,d⟩,c,g,o,f⟩:=id x;simp only at r q g f;subst r q g f;have e:vs.toArray++a.toArray=(vs++a).toArray:=by simp
 by_cases i:a=[]
 .exact concat_meets ⟨_,j,rfl⟩ ⟨_,c,rfl⟩ noFill_tuple_add seq_tuple_add PySem.F.slot_tuple_add PySem.F.entry_tuple_add (PySem.F.args_tuple_add_2 _ _)
   (tuple_addW1 t b vs.toArray a.toArray n o u h m d (by simpa using p) (by simp[i])) ⟨j,c,z i⟩
 .refine concat_meets ⟨_,j,rfl⟩ ⟨_,c,rfl⟩ noFill_tuple_add seq_tuple_add PySem.F.slot_tuple_add PySem.F.entry_tuple_add (PySem.F.args_tuple_add_2 _ _)
   (tuple_addW2 t b vs.toArray a.toArray n o u h m d (by simpa using p) (by simpa using i) (by rw[He,He];exact k)) ⟨j,c,?_⟩
  rw[e];exact y i
noncomputable def dh(n d:Nat):Option Int->Nat
 |none=>d
 |some v=>if v<0 then(v+(n:Int)).toNat else min v.toNat n
theorem xo(n d:Nat):dh n d none=d:=rfl
theorem AU(n d k:Nat):dh n d (some (k:Int))=min k n:=by show(if(k:Int)<0 then((k:Int)+(n:Int)).toNat else min (k:Int).toNat n)=min k n;rw[BM (by lia),D7]
theorem O2(n d:Nat)(b:d<=n)(o:Option Int):dh n d o<=n:=by
 cases o with
 |none=>exact b
 |some v=>
  show(if v<0 then(v+(n:Int)).toNat else min v.toNat n)<=n;by_cases a:v<0
  .rw[Bi a];lia
  .rw[BM a];exact fc _ _
theorem AV(v:Int)(n d:Nat):(if v<0 then max (v+(n:Int)) 0 else min v (n:Int))=((dh n d (some v):Nat):Int):=by
 show(if v<0 then max (v+(n:Int)) 0 else min v (n:Int))=(((if v<0 then(v+(n:Int)).toNat else min v.toNat n):Nat):Int);by_cases a:v<0
 .simp only[Bi a];lia
 .simp only[BM a];lia
theorem y9(a b:Option Int)(n:Nat):Builtin.Slice.sliceAdjust a b 1 (n:Int)=(((dh n 0 a:Nat):Int),((dh n n b:Nat):Int)):=by
 have c:¬((1:Int)<0):=by lia
 unfold Builtin.Slice.sliceAdjust;simp only[c,y8];refine Prod.ext ?_ ?_
 .cases a with
  |none=>rfl
  |some v=>exact AV v n 0
 .cases b with
  |none=>rfl
  |some v=>exact AV v n n
theorem zh(i j:Nat):Builtin.Slice.slicePlaces (i:Int) (j:Int) 1=j -i:=by
 unfold Builtin.Slice.slicePlaces;have a:(1:Int)>0:=by lia
 simp only[a,wy,Int.ediv_one];split<;>lia
theorem pT(p:IsPart v o)(h:Q o s):wpAny (model prog w) A (Builtin.Slice.slicePartIndex v) Q E s:=by
 cases p with
 |none=>exact slicePart_none h
 |int i t=>exact slicePart_int h
theorem m6{Q:Int×Int×Nat->Shared->Prop}(j:s.heap.IsSliceOf g f e .none)(pl:IsPart f a)(i:IsPart e c)
 (h:Q (((dh n 0 a:Nat):Int),1,dh n n c -dh n 0 a) s):wpAny (model prog w) A (Builtin.Slice.sliceApplied (.ref g) (pure (n:Int))) Q E s:=by
 obtain⟨l,b,k,d⟩:=id j;unfold Builtin.Slice.sliceApplied Builtin.Slice.sliceFields;refine GE (GE (wpAny_field b d (x:=f) rfl (GE (wpAny_field b d (x:=e) rfl (GE (wpAny_field b d (x:=.none) rfl (L9 ?_)))))));refine GE (slicePart_none ?_);show wpAny _ _ (if((1:Int)==0)=true then _ else _) _ _ s;rw[BM (by decide)];refine GE (pT pl (GE (pT i (GE (L9 ?_)))));show wpAny _ _ (match Builtin.Slice.sliceAdjust a c 1 (n:Int)with|(a,c)=>pure (a,(1:Int),Builtin.Slice.slicePlaces a c 1)) _ _ s;rw[y9 a c n];show wpAny _ _ (pure (((dh n 0 a:Nat):Int),(1:Int),Builtin.Slice.slicePlaces ((dh n 0 a:Nat):Int) ((dh n n c:Nat):Int) 1)) _ _ s;rw[zh];exact L9 h
theorem EV(a:Array Value)(i k:Nat):((C0 k).filterMap λ(m:Nat)=>a[((i:Int)+(m:Int)*1).toNat]?).toArray=((a.toList.drop i).take k).toArray:=by
 have e:(λ(m:Nat)=>a[((i:Int)+(m:Int)*1).toNat]?)=λm=>a[i+m]?:=by
  funext m;have:((i:Int)+(m:Int)*1).toNat=i+m:=by lia
  rw[this]
 rw[e];have:=pick_run a i k;rw[List.filterMap_map]at this;have b:((λx=>a[x]?)∘λx=>i+x)=λm=>a[i+m]?:=rfl;rw[b]at this;rw[this]
theorem ly(c:IsTup s.heap t items)(n:s.heap.IsSliceOf e l k .none)(pl:IsPart l a)(o:IsPart k b)
 (r:¬(dh items.size 0 a=0/\dh items.size items.size b=items.size))
 (h:Q (.ref s.heap.objs.size) {s with heap:=s.heap.push {cls:=.type "tuple",data:=.seq ((items.toList.drop (dh items.size 0 a)).take (dh items.size items.size b -dh items.size 0 a)).toArray}})
 (u:items.size<=sizeLine):wpAny (model prog w) A (getItem (.ref t) (.ref e)) Q E s:=by
 have d:sizeOk (.seq ((items.toList.drop (dh items.size 0 a)).take (dh items.size items.size b -dh items.size 0 a)).toArray):=by show((items.toList.drop (dh items.size 0 a)).take (dh items.size items.size b -dh items.size 0 a)).toArray.size<=sizeLine;rw[He,d6,UP,J9];lia
 have z:dh items.size items.size b<=items.size:=O2 _ _ (Ee _) b;obtain⟨p,f,i,v⟩:=id n;have j:s.TypeIs (.ref e) "slice":=⟨p,f,i⟩;unfold getItem
 try with_reducible refine wpAny_holding ?_
 first|refine GE (L9 ?_)|skip
 refine GE (wpAny_sequenceKey c.typeIs (by decide) ?_);refine GE (wpAny_callSpecial?_slot (name:=Str.ofString "__getitem__") c.typeIs oo
  (wpAny_call_entry oo c.typeIs entry_tuple_getitem ?_ (args_tuple_getitem _ _)))
 show wpAny _ _ (Builtin.Tuple.tupleItemsOf (.ref t)>>=_) _ _ s;refine GE (tupleItemsOf_ c ?_);refine GE (wpAny_typeOf j ?_);rw[Bi (by decide)];refine GE (m6 n pl o ?_);have g:¬((((dh items.size 0 a:Nat):Int)==0&&(1:Int)==1&&(dh items.size items.size b -dh items.size 0 a)==items.size)=true):=by intro q;rw[Bz,Bz]at q;have y:((dh items.size 0 a:Nat):Int)=0:=eq_of_beq q.1.1;have x:dh items.size items.size b -dh items.size 0 a=items.size:=eq_of_beq q.2;exact r ⟨by lia,by lia⟩
 show wpAny _ _ (if(((dh items.size 0 a:Nat):Int)==0&&(1:Int)==1&&(dh items.size items.size b -dh items.size 0 a)==items.size)=true then _ else _) _ _ s;rw[BM g,EV]
 first
  |exact GE (m:=Builtin.Tuple.tupleExact _) (kS (L9 ⟨_,rfl,L9 h⟩) d)
  |exact GE (m:=Builtin.Tuple.tupleExact _) (kS (GE (L9 (L9 ⟨_,rfl,L9 h⟩))) d)
  |exact GE (GE (m:=Builtin.Tuple.tupleExact _) (kS (L9 (L9 ⟨_,rfl,L9 h⟩)) d))
  |exact GE (GE (m:=Builtin.Tuple.tupleExact _) (kS (L9 ⟨_,rfl,L9 h⟩) d))
end
end HT
namespace L2
open PySem PySem.Spec PyProof.Rows
abbrev TO:=St->Hp->(Option Int->Hp->Prop)->Prop
def PO(X:Cx)(e:Option Expr)(t:TO):Prop:=
 ∀(a:List (Addr×Obj))(s:Shared)(b:St)(H:Hp)(Q:Option Int->Hp->Prop),Inv X a b H s->t b H Q->
  wpAny (model X.prog X.w) X.A (evalPart e X.env) (λu d=>∃o c,Inv X a b c d/\IsPart u o/\Q o c) X.xe s
def JI:TO:=λ_ H Q=>Q none H
def Vn(t:TE):TO:=λa H Q=>t a H λx b=>∃i,x=.int i/\Q (some i) b
theorem intsAre_of:∀{us:List Value},Vals (ns.map V.int) us->IntsAre us ns:=by
 induction ns with
 |nil=>intro us r;rw[Qf]at r;cases r;exact .nil
 |cons n ns c=>
  intro us r;rw[UV]at r;cases r with
  |cons b a=>obtain⟨t,e⟩:=b;subst e;exact .cons n t (c a)
section
variable{X:Cx}{e:Expr}{te:TE}{lo hi:Option Expr}{tl th:TO}{pos p2:Pos}
theorem JJ:PO X none JI:=by intro a s b H Q I h;rw[evalPart_none];exact L9 ⟨none,H,I,.none,h⟩
theorem JK(h:PE X e te):PO X (some e) (Vn te):=by intro a s b H Q I f;rw[evalPart_some];refine cg (h a s b H _ I f) λu j ⟨x,g,I1,c,d⟩=>?_;obtain⟨i,rfl,q⟩:=d;obtain⟨t,rfl⟩:=c;exact⟨some i,g,I1,.int i t,q⟩
def O3(X:Cx)(r:V->Option Int->Option Int->Hp->VK->Prop):Prop:=
 ∀(a:List (Addr×Obj))(s:Shared)(b:St)(H:Hp)(x:V)(v d c:Value)(lo hi:Option Int)(f:Addr)(Q:VK),Inv X a b H s->RelV x v->s.heap.IsSliceOf f d c .none->IsPart d lo->IsPart c hi->r x lo hi H Q->
  ∃T g,typeLookup (.type T) "__getitem__"=pure (some (.builtin g))/\s.TypeIs v T/\wpAny (model X.prog X.w) X.A (getItem v (.ref f)) (EP X a b Q) X.xe s
theorem O3.or(h:O3 X r)(h':O3 X i):O3 X (λx lo hi H Q=>r x lo hi H Q\/i x lo hi H Q):=by
 intro a s b H x v d c lo hi f Q I g l k j q;rcases q with q|q
 .exact h a s b H x v d c lo hi f Q I g l k j q
 .exact h' a s b H x v d c lo hi f Q I g l k j q
def tSl(r:V->Option Int->Option Int->Hp->VK->Prop)(te:TE)(tl th:TO):TE:=λa H Q=>te a H λx d=>tl a d λl c=>th a c λu b=>r x l u b Q
theorem xq(C:O3 X r)(F:PE X e te)(D:PO X lo tl)(z:PO X hi th):PE X (.Subscript e (.Slice lo hi none p2) pos) (tSl r te tl th):=by intro a s d H Q I h;refine Subscript_ (cg (F a s d H _ I h) λv k ⟨x,N,I1,m,p⟩=>?_);refine wpAny_Slice (cg (D a k d N _ I1 p) λg j ⟨l,M,L,y,o⟩=>cg (z a j d M _ L o) λf c ⟨u,i,K,t,n⟩=>?_);rw[evalPart_none];refine L9 ?_;have J:Inv X a d i {c with heap:=c.heap.push {cls:=.type "slice",data:=.fields #[g,f,.none]}}:=K.kept (t':=c.toks) λb O q=>GT _ q;obtain⟨T,P,G,B,E⟩:=C a {c with heap:=c.heap.push {cls:=.type "slice",data:=.fields #[g,f,.none]}} d i x v g f l u c.heap.objs.size Q J m (Heap.IsSliceOf.new ..) y t n;show wpAny (model X.prog X.w) X.A (subscriptTail e (.Slice lo hi none p2) v (.ref c.heap.objs.size)) (EP X a d Q) X.xe {c with heap:=c.heap.push {cls:=.type "slice",data:=.fields #[g,f,.none]}};exact tail_any (ops:=[.ref c.heap.objs.size,v]) B G E (by with_unfolding_all rfl)
noncomputable def xr(a:List V)(lo hi:Option Int):List V:=(a.drop (HT.dh a.length 0 lo)).take (HT.dh a.length a.length hi -HT.dh a.length 0 lo)
theorem nZ(a:List V)(lo hi:Option Int):(xr a lo hi).length<=a.length:=by unfold xr;rw[d6,UP];lia
def Y9(K:Frag):V->Option Int->Option Int->Hp->VK->Prop:=λx lo hi H Q=>∃a b,x=.ref a/\mY K H a b/\
 ¬(HT.dh b.length 0 lo=0/\HT.dh b.length b.length hi=b.length)/\∀p,H p=none->Q (.ref p) (upd H p (.tup (xr b lo hi)))
theorem O4:O3 X (Y9 X.K):=by
 intro g s t H x v w u lo hi y Q I j p l k h;obtain⟨a,d,rfl,m,n,q⟩:=h;cases j;obtain⟨f,r,i,hz⟩:=I.tuple m;have c:f.toArray.size=d.length:=by rw[He];exact r.length.symm
 refine⟨"tuple",_,oo.lookup,i.typeIs,?_⟩;refine HT.ly i p l k (by rw[c];exact n) ?_ (by rw[c];exact hz);rw[c];refine⟨.ref s.heap.objs.size,_,I.laid (t':=s.toks) (o:=.tup (xr d lo hi)) (λb z q=>GT _ q) (Ee _) ?_,rfl,q _ (I.hok.fresh (Ee _))⟩;exact⟨Do (nZ d lo hi) hz,_,(r.drop (HT.dh d.length 0 lo)).take (HT.dh d.length d.length hi -HT.dh d.length 0 lo),IsTup.new _ _⟩
def Vo(K:Frag):R2:=λx y H Q=>∃a b d c,x=.ref a/\y=.ref b/\mY K H a d/\mY K H b c/\d≠[]/\d.length+c.length<=sizeLine/\
 (c=[]->Q (.ref a) H)/\(c≠[]->∀p,H p=none->Q (.ref p) (upd H p (.tup (d++c))))
theorem Vals.uQ(r:Vals a us):us=[]↔a=[]:=by
 cases r with
 |nil=>simp
 |cons _ _=>simp
theorem JL:sd X (binaryOp .Add) (Vo X.K):=by intro f s C H x y v u Q I l k h;obtain⟨a,b,j,i,rfl,rfl,B,A,t,hz,n,m⟩:=h;cases l;cases k;obtain⟨r,d,p,_⟩:=I.tuple B;obtain⟨g,c,p2,_⟩:=I.tuple A;refine HT.JH p p2 (λz=>t (d.uQ.mp z)) (λz=>⟨.ref a,H,I,rfl,n (c.uQ.mp z)⟩) (λz=>?_) (by rw[<-d.length,<-c.length];exact hz);refine⟨.ref s.heap.objs.size,_,I.laid (t':=s.toks) (o:=.tup (j++i)) (λb D q=>GT _ q) (Ee _) ?_,rfl,m (λw=>z (c.uQ.mpr w)) _ (I.hok.fresh (Ee _))⟩;exact⟨by rw[KM];exact hz,_,d.append c,IsTup.new _ _⟩
end
noncomputable def wV(n:Nat)(i:Int):Option Nat:=if 0<=i then(if i<n then some i.toNat else none)else if-(n:Int)<=i then some (i+n).toNat else none
noncomputable def lz{α:Type}(a:List α)(i:Int):Option α:=(wV a.length i).bind λj=>a[j]?
theorem AX(h:wV n i=some j):seqIndex? i n=some j/\j<n/\-(n:Int)<=i/\i<n:=by
 unfold wV at h;by_cases b:0<=i
 .rw[Bi b]at h;by_cases a:i<n
  .rw[Bi a]at h;have e:i.toNat=j:=OK h;exact⟨by rw[seqIndex_of b a,e],by lia,by lia,a⟩
  .rw[BM a]at h;cases h
 .rw[BM b]at h;by_cases a: -(n:Int)<=i
  .rw[Bi a]at h;have e:(i+n).toNat=j:=OK h;exact⟨by rw[seqIndex_neg (by lia) a,e],by lia,a,by lia⟩
  .rw[BM a]at h;cases h
theorem uR(h:lz a i=some v):∃j,seqIndex? i a.length=some j/\a[j]?=some v/\j<a.length/\-(a.length:Int)<=i/\i<a.length:=by
 unfold lz at h;cases e:wV a.length i with
 |none=>rw[e]at h;cases h
 |some j=>rw[e]at h;obtain⟨f,d,c,b⟩:=AX e;exact⟨j,f,h,d,c,b⟩
theorem cL{j:Nat}(h:a[j]?=some v):lz a (j:Int)=some v:=by
 have b:j<a.length:=(Gc.mp h).1;have e:wV a.length (j:Int)=some j:=by unfold wV;rw[Bi (by lia),Bi (by lia)];simp
 unfold lz;rw[e];exact h
def oS(b:Expr):Prop:=∀o i,subscripted b false o i=operate [o,i] (getItem o i)
def JM(X:Cx)(r:R2):Prop:=
 ∀(c a:Expr)(b:List (Addr×Obj))(s:Shared)(d:St)(H:Hp)(x y:V)(v u:Value)(Q:VK),Inv X b d H s->RelV x v->RelV y u->r x y H Q->
  subscripted a false v u=operate [v,u] (getItem v u)->wpAny (model X.prog X.w) X.A (subscriptTail c a v u) (EP X b d Q) X.xe s
def Za(X:Cx)(e:String)(r:V->List V->Hp->VK->Prop):Prop:=
 ∀(a:List (Addr×Obj))(s:Shared)(b:St)(H:Hp)(x:V)(c:List V)(v:Value)(d:List Value)(Q:VK),Inv X a b H s->RelV x v->Vals c d->r x c H Q->
  wpAny (model X.prog X.w) X.A (call (.builtin e) (v::d)) (EP X a b Q) X.xe s
section
variable{X:Cx}{a b:Expr}{ta tb:TE}{pos:Pos}
theorem JM.or(h:JM X r)(h':JM X j):JM X (λx y H Q=>r x y H Q\/j x y H Q):=by
 intro c d e s f H x y v u Q I i g q k;rcases q with q|q
 .exact h c d e s f H x y v u Q I i g q k
 .exact h' c d e s f H x y v u Q I i g q k
theorem Np(j:JM X r)(l:PE X a ta)(k:PE X b tb)(i:oS b):PE X (.Subscript a b pos) (tOp r ta tb):=by intro c s d H Q I h;exact Subscript_ (Y0 l k I h λv u e x y n m g f q=>j a b c e d n x y v u Q m g f q (i _ _))
def Vp(K:Frag):R2:=λx y H Q=>∃p c i v,x=.ref p/\y=.int i/\jU K H p c/\lz c i=some v/\Q v H
def Vq(K:Frag):R2:=λx y H Q=>∃p c i v,x=.ref p/\y=.int i/\mY K H p c/\lz c i=some v/\Q v H
def Vr:R2:=λx y H Q=>∃z i c,x=.str z/\y=.int i/\z.length<=sizeLine/\lz z.cps.toList i=some c/\Q (.str ⟨#[c]⟩) H
theorem JN:JM X (Vp X.K):=by
 intro f g c s o H x y v u Q I F E h A;obtain⟨p,P,i,z,rfl,rfl,G,L,q⟩:=h;cases F;obtain⟨t,rfl⟩:=E;obtain⟨m,r,l,hz⟩:=I.list G;obtain⟨j,e,O,S,N,M⟩:=uR L;obtain⟨w,C,k⟩:=r.get O;have J:=r.length;have R:=pR;have d:EP X c o Q w s:=⟨z,H,I,k,q⟩;by_cases B:0<=i
 .have n:i.toNat=j:=by rw[seqIndex_of B M]at e;exact OK e
  exact item_listR l.isList B (by lia) (by rw[n];simpa using C) d A
 .have n:(i+(m.toArray.size:Int)).toNat=j:=by rw[seqIndex_neg (by lia) N]at e;rw[He,<-J];exact OK e
  exact subscriptTail_builtinR (x:=w) l.isList.typeIs slot_list_getitem.lookup
   (wpAny_getItem_list_neg (Q:=λr D=>r=w/\EP X c o Q r D) l.isList (by lia) (by rw[He]<;>lia) (by lia) (by rw[n];simpa using C) ⟨rfl,d⟩) A
theorem O5:JM X (Vq X.K):=by
 intro d e c s k H x y v u Q I o n h B;obtain⟨p,L,i,z,rfl,rfl,C,E,q⟩:=h;cases o;obtain⟨t,rfl⟩:=n;obtain⟨A,r,l,hz⟩:=I.tuple C;obtain⟨j,G,F,P,O,N⟩:=uR E;obtain⟨w,J,f⟩:=r.get F;have D:=r.length;have M:=pR;have g:EP X c k Q w s:=⟨z,H,I,f,q⟩;exact subscriptTail_builtinR (x:=w) l.typeIs slot_tuple_getitem.lookup
  (getItem_tuple (j:=j) (Q:=λr m=>r=w/\EP X c k Q r m) l (by lia) (by lia) (by rw[He,<-D];exact G) (by simpa using J) ⟨rfl,g⟩) B
theorem O6:JM X Vr:=by
 intro d e f s C H x y v u Q I l k h m;obtain⟨z,i,c,rfl,rfl,hz,o,q⟩:=h;obtain⟨t,rfl⟩:=l;obtain⟨D,rfl⟩:=k;obtain⟨j,g,w,F,r,p⟩:=uR o;have n:z.cps.toList.length=z.length:=by simp[Str.length]
 rw[n]at g r p;have E:=pR;exact tail_any (typeIs_str s z t) slot_str_getitem.lookup (getItem_str (c:=c) (by have B:decide (i< -(2^63:Int))=false:=Hb (by lia);have A:decide (i>=2^63)=false:=Hb (by lia);rw[B,A,aw]) (by rw[g];simpa using w) ⟨.str ⟨#[c]⟩,H,I.tok _,⟨_,rfl⟩,q⟩) m
def rIx(K:Frag):R2:=λx y H Q=>Vp K x y H Q\/Vq K x y H Q\/Vr x y H Q
theorem EW:JM X (rIx X.K):=JN.or (O5.or O6)
theorem zj(c:List Value)(n j:Nat)(u:Value):Obj.mapSeq (·.setIfInBounds j u) {cls:=.type "list",data:=.seq c.toArray n}={cls:=.type "list",data:=.seq (c.set j u).toArray n}:=by simp[Obj.mapSeq]
theorem Inv.lst{d:List (Addr×Obj)}{g:St}{H:Hp}{s:Shared}{p:Addr}{f:List V}(I:Inv X d g H s)(h:H p=some (.lst f)):
 ∃(c:List Value)(n:Nat),Vals f c/\s.heap.get? p=some {cls:=.type "list",data:=.seq c.toArray n}/\f.length<=sizeLine:=by
 obtain⟨z,c,n,r,e⟩:=I.hok p _ h;exact⟨c,n,r,e,z⟩
theorem Inv.O7{j:St}{d its':List Value}{n i:Nat}{f:Obj->Obj}(I:Inv X c j H s)(h:H p=some (.lst l))
 (m:s.heap.get? p=some {cls:=.type "list",data:=.seq d.toArray n})(k:f {cls:=.type "list",data:=.seq d.toArray n}={cls:=.type "list",data:=.seq its'.toArray i})(r:Vals g its')(hz:g.length<=sizeLine)(t:Nat):
 Inv X c j (upd H p (.lst g)) {s with heap:=s.heap.update p f,toks:=t}:=by
 have e:(s.heap.update p f).get? p=some {cls:=.type "list",data:=.seq its'.toArray i}:=by rw[Heap.get?_update_self f m (by rw[k]<;>rfl),k]
 refine I.write (x:=p) (e:=p) (by rw[h];trivial) (.inl rfl) (λb u o q=>(Heap.get?_update_other _ _ (dk o)).trans q) ⟨_,e⟩ ?_;exact⟨hz,its',i,r,e⟩
def Nq:V->V->V->Hp->(Hp->Prop)->Prop:=λo i v H Q=>∃p c k j,o=.ref p/\i=.int k/\H p=some (.lst c)/\wV c.length k=some j/\Q (upd H p (.lst (c.set j v)))
theorem set_list:U0 X Nq:=by
 intro c s A H o i v F G u Q I C D rv h;obtain⟨p,B,k,j,rfl,rfl,m,E,q⟩:=h;cases C;obtain⟨t,rfl⟩:=D;obtain⟨d,n,r,f,hz⟩:=I.lst m;obtain⟨e,K,x,w⟩:=AX E;have g:=r.length;have J:=pR;have z:Inv X c A (upd H p (.lst (B.set j v))) {s with heap:=s.heap.update p (Obj.mapSeq (·.setIfInBounds j u))}:=
  I.O7 m f (zj d n j u) (r.set rv j) (by rw[SB];exact hz) s.toks
 by_cases y:0<=k
 .have l:k.toNat=j:=by rw[seqIndex_of y w]at e;exact OK e
  exact PySem.W.ki_setAt f y (by lia) (by rw[He,<-g];exact w) (by rw[l];exact⟨_,z,q⟩)
 .have l:(k+(d.toArray.size:Int)).toNat=j:=by rw[seqIndex_neg (by lia) x]at e;rw[He,<-g];exact OK e
  exact PySem.W.ki_setBack f (by lia) (by rw[He,<-g];exact x) (by lia) (by rw[l];exact⟨_,z,q⟩)
theorem uS(c d:Option Int)(n:Nat):(sliceBounds c d none n).1=((HT.dh n 0 c:Nat):Int)/\(sliceBounds c d none n).2.1=((HT.dh n n d:Nat):Int)/\(sliceBounds c d none n).2.2=1:=by
 refine⟨?_,?_,rfl⟩
 .cases c with
  |none=>simp[sliceBounds,HT.dh]
  |some i=>
   simp only[sliceBounds,HT.dh,e5,show(1:Int)>0 by decide,wy];by_cases h:i<0
   .simp only[h,wy]<;>lia
   .simp only[h,y8]<;>lia
 .cases d with
  |none=>simp[sliceBounds,HT.dh]
  |some i=>
   simp only[sliceBounds,HT.dh,e5,show(1:Int)>0 by decide,wy];by_cases h:i<0
   .simp only[h,wy]<;>lia
   .simp only[h,y8]<;>lia
theorem su(c:List Value)(d e:Option Int):slicePick c.toArray d e none=((c.drop (HT.dh c.length 0 d)).take (HT.dh c.length c.length e -HT.dh c.length 0 d)).toArray:=by obtain⟨h,g,f⟩:=uS d e c.toArray.size;unfold slicePick;rw[h,g,f];simp only[sliceRange_one,pick_run,He]<;>rfl
def Zb(K:Frag):V->Option Int->Option Int->Hp->VK->Prop:=λx d e H Q=>∃a c,x=.ref a/\jU K H a c/\∀p,H p=none->Q (.ref p) (upd H p (.lst (xr c d e)))
theorem JO:O3 X (Zb X.K):=by intro g s t H x v w u e f y Q I j p l k h;obtain⟨a,c,rfl,n,q⟩:=h;cases j;obtain⟨m,r,i,hz⟩:=I.list n;have d:=r.length;refine⟨"list",_,slot_list_getitem.lookup,i.isList.typeIs,?_⟩;refine wpAny_getItem_list_slice i.isList p l k .none (by simp) ?_ (by rw[He]<;>lia);rw[su,<-d];refine⟨.ref s.heap.objs.size,_,I.laid (t':=s.toks) (o:=.lst (xr c e f)) (λb z q=>GT _ q) (Ee _) ?_,rfl,q _ (I.hok.fresh (Ee _))⟩;exact⟨Do (nZ c e f) hz,_,0,(r.drop (HT.dh c.length 0 e)).take (HT.dh c.length c.length f -HT.dh c.length 0 e),QP _ rfl⟩
theorem ic:dD X (.builtin "len") (λj H Q=>∃p d,j=[.ref p]/\(jU X.K H p d\/mY X.K H p d)/\Q (.int d.length) H):=by
 intro k s m H j n Q I r h;obtain⟨p,d,rfl,e,q⟩:=h;obtain⟨u,rfl,l⟩:=vals1 r;cases l;have o:=pR;rcases e with e|e
 .obtain⟨i,f,g,hz⟩:=I.list e;have c:=f.length;exact Calls.call_len_list g.isList (by simp only[He]<;>lia) ⟨.int d.length,H,I.tok _,⟨s.toks+1,by rw[He,c]⟩,q⟩
 .obtain⟨i,f,g,hz⟩:=I.tuple e;have c:=f.length;exact len_tuple g (by simp only[He]<;>lia) ⟨.int d.length,H,I.tok _,⟨s.toks+1,by rw[He,c]⟩,q⟩
theorem lC:dD X (.type "list") (λB H Q=>∃p f,B=[.ref p]/\(jU X.K H p f\/mY X.K H p f)/\∀l,H l=none->Q (.ref l) (upd H l (.lst f))):=by
 intro j s D H B F Q I r h;obtain⟨p,f,rfl,m,q⟩:=h;obtain⟨u,rfl,E⟩:=vals1 r;cases E;have v:∀(c:List Value),Vals f c->f.length<=sizeLine->∀(d:Heap)(i:Nat),(∀b C,s.heap.get? b=some C->d.get? b=some C)->
  d.get? s.heap.objs.size=some {cls:=.type "list",dict:=none,data:=.seq c.toArray i,slots:= #[]}->EP X j D Q (.ref s.heap.objs.size) {s with heap:=d}:=λc g hz d i k e=>
  ⟨.ref s.heap.objs.size,_,I.laid (t':=s.toks) k (Ee _) (show cJ X.prog X.w _ d _ (.lst f)from⟨hz,c,i,g,e⟩),rfl,q _ (I.hok.fresh (Ee _))⟩
 rcases m with m|m
 .obtain⟨c,g,x,hz⟩:=I.list m;have t:=g.length;obtain⟨o,y,A,n,z⟩:=x.isList;exact call_list_seq p (.inl rfl) y A z (λd i k e=>v c g hz d i k e) (by simp only[He]<;>lia)
 .obtain⟨c,g,x,hz⟩:=I.tuple m;have t:=g.length;obtain⟨o,y,A,n,z⟩:=x;exact call_list_seq p (.inr rfl) y A z (λd i k e=>v c g hz d i k e) (by simp only[He]<;>lia)
def Zc(K:Frag)(T:String)(x:V)(H:Hp):Prop:=match x with
 |.str _=>T="str"
 |.int _=>T="int"
 |.ref p=>(T="list"/\∃d,jU K H p d)\/(T="tuple"/\∃o,K.lookup p=some o/\o.cls=.type "tuple"/\o.dict=none)\/
   (T="dict"/\((∃c,H p=some (.dK c))\/∃c,H p=some (.dT c)))\/(T="set"/\∃S n,H p=some (.set S n))
 |_=>False
theorem EX{q:St}{v:Value}(I:Inv X f q H s)(r:RelV x v)(g:Zc X.K T x H):
 s.TypeIs v T/\∀a,v=.ref a->∃m,s.heap.get? a=some m/\m.dict=none:=by
 cases x with
 |str z=>obtain⟨t,rfl⟩:=r;cases(show T="str"from g);exact⟨typeIs_str s z t,λ_ e=>nomatch e⟩
 |int i=>obtain⟨t,rfl⟩:=r;cases(show T="int"from g);exact⟨typeIs_int s i t,λ_ e=>nomatch e⟩
 |ref p=>
  cases r;rcases g with⟨rfl,A,w⟩|⟨rfl,o,d,y,j⟩|⟨rfl,d⟩|⟨rfl,S,n,d⟩
  .obtain⟨u,_,l,_⟩:=I.list w;refine⟨l.isList.typeIs,λa e=>?_⟩;cases e;obtain⟨o,n,e,c,j,_⟩:=l;exact⟨o,e,j⟩
  .refine⟨⟨o,I.kX p o d,y⟩,λa e=>?_⟩;cases e;exact⟨o,I.kX _ o d,j⟩
  .have z:∃o,s.heap.get? p=some o/\o.ExactDict:=by
    rcases d with⟨h,d⟩|⟨h,d⟩
    .obtain⟨_,_,_,_,o,_,_,e,ex,_⟩:=I.hok p _ d;exact⟨o,e,ex⟩
    .obtain⟨_,_,_,_,o,_,_,e,ex,_⟩:=I.hok p _ d;exact⟨o,e,ex⟩
   obtain⟨o,e,ex⟩:=z;refine⟨⟨o,e,ex.1⟩,λa k=>?_⟩;cases k;exact⟨o,e,ex.2.1⟩
  .obtain⟨o,_,_,_,e,ex,_⟩:=I.hok p _ d;refine⟨⟨o,e,ex.1⟩,λa k=>?_⟩;cases k;exact⟨o,e,ex.2.1⟩
 |_=>exact D5 g
def Zd(K:Frag)(T:String)(r:V->List V->Hp->VK->Prop)(e:TE):TE:=λd H Q=>e d H λx c=>Zc K T x c/\r x [] c Q
def tBM(K:Frag)(T:String)(r:V->List V->Hp->VK->Prop)(f:TE)(t:TA):TE:=λc H Q=>f c H λx d=>Zc K T x d/\t c d λe g=>r x e g Q
variable{o e:Expr}{es:List Expr}{to:TE}{t:TA}{name:Str}{apos cpos:Pos}{T id:String}{r:V->List V->Hp->VK->Prop}
theorem EY(p:PlainAttrs T)(g:Slot T name id)(i:typeOf (.builtin id)=pure (.type "method_descriptor"))(u:Za X id r)(q:PE X o to)
 (f:attributeBase o name X.env (eval o X.env)=eval o X.env:=by rfl)(d:(apos.endLine==cpos.line)=true:=by rfl):PE X (.Call (.Attribute o name apos) [] [] cpos) (Zd X.K T r to):=by
 intro c s j H Q I h;refine wpAny_Call_method0_late f d (cg (q c s j H _ I h) λv m ⟨x,z,I1,k,l,n⟩=>?_);obtain⟨y,w⟩:=EX I1 k l;exact⟨T,id,p,g,i,y,w,Calls.callWith_builtin rfl (PySem.evalArgs_none (u c m j z x [] v [] Q I1 k .nil n))⟩
theorem Vs(C:PlainAttrs T)(i:Slot T name id)(l:typeOf (.builtin id)=pure (.type "method_descriptor"))(F:Za X id r)(E:PE X o to)(G:PA X (e::es) t)
 (g:attributeBase o name X.env (eval o X.env)=eval o X.env:=by rfl)
 (j:((backTo cpos (starEach (e::es) X.env)).all (λx=>!x.1)&&(backToKw cpos (keywordEach [] X.env)).all (λx=>x.1.isSome)
   &&decide ((e::es).length+([]:List Keyword).length+(if([]:List Keyword).isEmpty then 0 else 1)<30))=true:=by rfl)
 (f:(apos.endLine==cpos.line)=true:=by rfl)(D:starEach (e::es) X.env=(false,eval e X.env)::starEach es X.env:=by rfl)(d:(backTo cpos (starEach es X.env)).any (·.1)=false:=by rfl):
 PE X (.Call (.Attribute o name apos) (e::es) [] cpos) (tBM X.K T r to t):=by
 intro c s k H Q I h;refine wpAny_Call_method_late g j f rfl (cg (E c s k H _ I h) λv y ⟨x,O,I1,m,u,B⟩=>?_);obtain⟨L,J⟩:=EX I1 m u;refine⟨T,id,C,i,l,L,J,?_⟩;have n:=G cpos c y k O _ I1 B;rw[D]at n⊢;refine Calls.callWith_builtin (by show(false||(backTo cpos (starEach es X.env)).any (·.1))=false;rw[d]<;>rfl) (Calls.evalArgs_plain ?_);exact cg n λq w ⟨p,N,M,z,A⟩=>F c w k N x p v q Q M m z A
end
def MtM(X:Cx)(e:String)(r:V->List V->Hp->VK->Prop):Prop:=
 ∀(a:List (Addr×Obj))(s:Shared)(b:St)(H:Hp)(x:V)(c:List V)(v:Value)(d:List Value)(Q:VK),Inv X a b H s->RelV x v->Vals c d->r x c H Q->
  wpAny (model X.prog X.w) X.A (call (.builtin e) (v::d)) (EP X a b Q) X.xe s
theorem Vals.one(h:Vals [x] us):∃u,us=[u]/\RelV x u:=by
 cases h with
 |cons r h=>
  cases h;exact⟨_,rfl,r⟩
theorem Vals.zero:∀{us:List Value},Vals [] us->us=[]
 |_,.nil=>rfl
theorem Vals.dropLast(h:Vals a us):Vals a.dropLast us.dropLast:=by
 induction h with
 |nil=>exact .nil
 |cons r t b=>
  cases t with
  |nil=>exact .nil
  |cons q c=>exact .cons r b
theorem Vals.rep(h:Vals a us):∀k:Nat,Vals (AW k a).flatten (AW k us).flatten
 |0=>.nil
 |k+1=>by rw[D6,D6,Ep,Ep];exact Vals.append h (Vals.rep h k)
theorem zk{α:Type}(l:List α):l.eraseIdx (l.length -1)=l.dropLast:=by
 induction l with
 |nil=>rfl
 |cons a r c=>
  cases r with
  |nil=>rfl
  |cons b r=>
   have e:(a::b::r).length -1=((b::r).length -1)+1:=by have f:(a::b::r).length=r.length+2:=rfl;have d:(b::r).length=r.length+1:=rfl;lia
   rw[e,List.eraseIdx_cons_succ,c]
   all_goals rfl
theorem foldl_rep(a:List Value):∀(k:Nat)(b:List Value),
 eW (λd c=>d++c) b.toArray (AW k a.toArray)=(b++(AW k a).flatten).toArray
 |0,b=>by simp
 |k+1,b=>by
  have e:b.toArray++a.toArray=(b++a).toArray:=by simp
  have f:(b++a)++(AW k a).flatten=b++(AW (k+1) a).flatten:=by rw[D6,Ep,Pv]
  rw[<-f,<-foldl_rep a k (b++a),<-e,D6,List.foldl_cons]
section
variable{X:Cx}{pins:List (Addr×Obj)}{σ:St}{H:Hp}{s:Shared}{l b:Addr}{xs ys zs:List V}
theorem Inv.Vt{a its':List Value}(I:Inv X pins σ H s)(i:H l=some (.lst xs))
 (e:s.heap.get? l=some {cls:=.type "list",data:=.seq a.toArray n})(g:f a.toArray=its'.toArray)(c:Vals ys its')(hz:ys.length<=sizeLine):
 Inv X pins σ (upd H l (.lst ys)) {s with heap:=s.heap.update l (Obj.mapSeq f),toks:=t'}:=by
 have q:=PySem.IsL.update e f;rw[g]at q;refine I.write (x:=l) (e:=l) (by rw[i];exact trivial) (.inl rfl) (λj u h d=>(Heap.get?_update_other s.heap (Obj.mapSeq f) (dk h)).trans d) ⟨_,q⟩ ?_;exact⟨hz,its',_,c,q⟩
theorem Inv.Vu(I:Inv X pins σ H s)(c:Vals ys a)(hz:ys.length<=sizeLine):
 Inv X pins σ (upd H s.heap.objs.size (.lst ys)) {s with heap:=s.heap.push {cls:=.type "list",data:=.seq a.toArray},toks:=t'}:=
 I.laid (λ_ _ q=>GT _ q) (Ee _) ⟨hz,a,0,c,QP _ rfl⟩
theorem Inv.fresh(I:Inv X pins σ H s):H s.heap.objs.size=none:=I.hok.fresh (Ee _)
theorem Inv.Vv(I:Inv X pins σ H s)(c:H l=some (.lst xs)):xs.length<=sizeLine/\∃(a:List Value)(n:Nat),Vals xs a/\xs.length=a.length/\s.heap.get? l=some {cls:=.type "list",data:=.seq a.toArray n}:=by obtain⟨z,a,n,r,e⟩:=I.hok l _ c;exact⟨z,a,n,r,r.length,e⟩
theorem EZ(h:n<=sizeLine):Builtin.List.listTooLong n=false:=by unfold Builtin.List.listTooLong;exact Hb (by lia)
end
section
variable{X:Cx}
def AY:V->List V->Hp->VK->Prop:=λx b H Q=>∃l a y,x=.ref l/\b=[y]/\H l=some (.lst a)/\a.length<sizeLine/\Q .bV (upd H l (.lst (a++[y])))
theorem t9:MtM X "list.append" AY:=by intro b s g H x j v k Q I d rv h;obtain⟨l,i,y,rfl,rfl,c,hz,q⟩:=h;cases d;obtain⟨u,rfl,f⟩:=rv.one;obtain⟨z,a,n,r,m,e⟩:=I.Vv c;refine call_meets F.slot_list_append ⟨_,e,rfl⟩ F.entry_list_append (F.args_list_append_2 _ _) (PySem.list_append l a.toArray n u (by rw[He];lia)) ⟨e,?_⟩;refine⟨.bV,_,I.Vt (its':=a++[u]) c e (by simp) (r.append (.cons f .nil)) ?_,rfl,q⟩;rw[KM,L0];lia
def Ze:V->List V->Hp->VK->Prop:=λx b H Q=>∃l a y,x=.ref l/\b=[]/\H l=some (.lst a)/\a[a.length -1]?=some y/\Q y (upd H l (.lst a.dropLast))
theorem O8:MtM X "list.pop" Ze:=by
 intro d s o H x t v w Q I g rv h;obtain⟨l,p,y,rfl,rfl,f,j,q⟩:=h;cases g;have c:=rv.zero;subst c;obtain⟨z,a,n,r,m,e⟩:=I.Vv f;obtain⟨u,k,i⟩:=r.get j;have b:a.toArray[a.toArray.size -1]?=some u:=by show a.toArray[a.length -1]?=some u;rw[<-Array.getElem?_toList,<-m];exact k
 refine call_meets F.slot_list_pop ⟨_,e,rfl⟩ F.entry_list_pop (F.args_list_pop_1 _) (MeetsSeq.list_pop_last l a.toArray n u b (by rw[He];lia)) ⟨e,?_⟩;refine⟨y,_,I.Vt (its':=a.dropLast) f e ?_ r.dropLast ?_,i,q⟩
 .show a.toArray.eraseIdxIfInBounds (a.toArray.size -1)=a.dropLast.toArray;rw[He,List.eraseIdxIfInBounds_toArray,zk]
 .rw[List.length_dropLast];lia
theorem len_rep{α:Type}(a:List α)(k:Nat):(AW k a).flatten.length=k*a.length:=by
 induction k with
 |zero=>simp
 |succ k b=>rw[D6,Ep,KM,b,Sx,xb]
end
section
variable{prog:Program}{w:World}{A:Around}{E:Value->Shared->Prop}{s:Shared}
end
section
variable{X:Cx}
end
end L2
namespace Att
open PySem PySem.W PySem.Calls PyProof.Rows
theorem oE:∀(ns:List Int)(vs:List Value),WellAll P h vs (ns.map WData.int)->IntsAre vs ns:=by
 intro ns
 induction ns with
 |nil=>intro vs w;rw[Qf]at w;cases w;exact .nil
 |cons n ns c=>
  intro vs w;rw[UV]at w;cases w with
  |cons a b=>
   cases a;exact .cons _ _ (c _ b)
theorem C1{l:OpenLaw}(u:l.most=some n)
 (c:l.row.toRowW.claim.pre args=true)(j:WellAll P h b args):
 ∃a vs ns,b=[Value.ref a]/\args=[WData.list (ns.map WData.int)]/\h.get? a=some {cls:=.type "list",data:=.seq vs.toArray}/\IntsAre vs ns/\ns.length<=n:=by
 have k:WShape.hasAll [] args [.list .int]=true:=(pre_splitW c).1;have m:l.pre.holds [] {args:=args}=true:=(pre_splitW c).2;obtain⟨d,r,rfl,x,w⟩:=hasAllW_cons k;obtain rfl:=hasAllW_nil w;obtain⟨y,rfl,v⟩:=hasW_list x;obtain⟨ns,rfl⟩:=items_int v;have e:ns.length<=n:=by
  unfold OpenLaw.pre at m;have i:(WTm.not (.lt (.lit (.int (n:Int))) (.len (.arg 0)))).holds [] {args:=[.list (ns.map .int)]}=true:=by have i:=(holds_andW m).1;rw[u]at i;exact i
  have g:=condW_of i (w_not (w_lt w_lit (w_len_list (w_arg rfl))));rw[Ap]at g;refine du λq=>?_;have s:(n:Int)<((ns.length:Nat):Int):=by lia
  first
   |(rw[Fh s]at g;exact absurd g (by decide))
   |(simp at g;lia)
 cases j with
 |cons p o=>
  cases o;cases p with
  |list t f=>exact⟨_,_,ns,rfl,rfl,t,oE ns _ f,e⟩
theorem C2(l:OpenLaw)(args:List WData):l.row.toRowW.claim.post args (.bool true) args=true:=
 postW_of (r:=l.row.toRowW) (X:=(true==true))
  (show WShape.has [] (.bool true) .bool=true by first|rfl|decide|simp[WShape.has,WShape.arms,WShape.armsAll])
  (show(WTm.eq .res (.lit (.bool true))).value [] {args:=args,res:=some (.bool true),after:=args}=some (.bool (true==true))from w_eq_bool (w_res rfl) w_lit) rfl
theorem xu{l:OpenLaw}{d:DefRec}
 (K:l.most=some n)(y:d.params.defaults=[])
 (call:∀(w:World)(c b:Shared)(p u:Str->Option Value)(m:Addr)(o:Obj)(t s h:Value)(a:Addr)(vs:List Value)(ns:List Int),
   Ground q e [] F w c p u b.heap->E w b.heap->
   b.heap.get? m=some o->o.data=.func (docDef d.name d.params d.body d.scope t s h)->b.heap.CodeRec s d.name->p d.name=some (.ref m)->
   b.heap.get? a=some {cls:=.type "list",data:=.seq vs.toArray}->IntsAre vs ns->ns.length<=n->b.gens= #[]->
   codeAny (model l.prog w) callerA (.call (.ref m) ⟨[.ref a],[]⟩) (λr s'=>r=.ok (.ret (.bool true))/\OldK b.heap s'.heap/\s'.os=b.os/\AllBare s'.gens) b):
 WalkO q e F E l.row.toRowW d [] (λf vs=>PySem.call f vs):=by
 intro w c b p u G Y m o t s h S kV J O z C x N D A T i B H v M;obtain rfl:S=.none:=Dflts.none C y;obtain rfl:kV=.none:=Dflts.noKw C;obtain⟨a,vs,ns,rfl,rfl,j,g,k⟩:=C1 K i v;refine enter_call (codeAny_mono (call w c b p u m o t s h a vs ns G Y J (fd_plain O) z x j g k N) λr s' I=>?_);obtain⟨rfl,R,Q,P⟩:=I;exact⟨.inl ⟨.bool true,.bool true,[],rfl,λ_=>rfl,.bool true,C2 l _,λ_=>⟨Y8,λ_ L=>(nomatch L)⟩⟩,R,Q,P⟩
section
variable{prog:Program}{w:World}{A:Around}{E:Value->Shared->Prop}{s:Shared}{K:Frag}
end
end Att
namespace L2
open PySem PySem.Spec PyProof.Rows
theorem ua:∀{vs:List Value}{ns:List Int},IntsAre vs ns->Vals (ns.map V.int) vs
 |_,_,.nil=>.nil
 |_,_,.cons n t h=>.cons ⟨t,rfl⟩ (ua h)
def E2(H:Hp):Prop:=∀b,H b=none\/∃o a,H b=some (.yK o (.lst a))
theorem E3{K:Frag}{T a:Addr}{fd:FuncData}{x:Str}{sp:Sp}{c:Shared}{vs:List Value}{ns:List Int}
 (KX:K.In c.heap)(y:c.heap.Ns mainGlobals p)(f:c.heap.Ns builtinsNs O)(R:∀x:Str,x≠"__name__"->O x=bootBuiltins x)(A:c.heap.NoLimit)(J:c.heap.NoSeer)(Vw:P.given.tree=none)(hg:c.gens= #[])
 (B:c.heap.get? a=some {cls:=.type "list",data:=.seq vs.toArray})(Z:IntsAre vs ns)(Y:ns.length<=sizeLine)(hr:cV k callerA)
 (F:∀base:Heap,K.In base->base.Ns mainGlobals p->b8 P w K p base CX k T fd [x] sp)(j:∀(s:Shared)(u:Value),BindsTo s fd ⟨[u],[]⟩ [(x,u)])
 (sj:∀H:Hp,E2 H->jU K H a (ns.map V.int)->sp [.ref a] H (λv _=>v=.bl true) λ_ _ _=>False)
 (Zf:∀H e s',CX [] H c (λ_ _ _=>False) e s'->False):
 codeAny (model P w) callerA (.call (.ref T) ⟨[.ref a],[]⟩) (λr s'=>r=.ok (.ret (.bool true))/\OldK c.heap s'.heap/\s'.os=c.os/\AllBare s'.gens) c:=by
 have rv:=ua Z;have Zg:=Z.length;have g:∀H:Hp,E2 H->jU K H a (ns.map V.int)->kR P w H c.heap->(∀b,H b≠none->b=a)->(H a≠none->K.lookup a=none)->
  codeAny (model P w) callerA (.call (.ref T) ⟨[.ref a],[]⟩) (λr s'=>r=.ok (.ret (.bool true))/\OldK c.heap s'.heap/\s'.os=c.os/\AllBare s'.gens) c:=by
  intro H hO hS t S hK;have L:∀{b:Addr}{o:Obj},c.heap.get? b=some o->H b=none->(uM c.heap H).get? b=some o:=λe n=>Ey e n;have Vl:∀{b:Addr}{o:Obj}{D:Array DictEntry}{E:Nat},c.heap.get? b=some o->o.data=.dict D E->H b=none:=λ{b o D E} e d=>by
   cases q:H b with
   |none=>rfl
   |some u=>have G:b=a:=S b (by rw[q];simp);subst G;rw[B]at e;cases e;have U:Data.seq vs.toArray _=Data.dict D E:=d;cases U
  have i:∀{b:Addr}{m:Str->Option Value},c.heap.Ns b m->(uM c.heap H).Ns b m:=λ{b m} ⟨o,D,E,e,d,r⟩=>⟨o,D,E,L e (Vl e d),d,r⟩;have C:K.In (uM c.heap H):=λb o e=>L (KX b o e) (by
   cases q:H b with
   |none=>rfl
   |some u=>have G:b=a:=S b (by rw[q];simp);subst G;rw[hK (by rw[q];simp)]at e;cases e)
  have N:∀{b:Addr}{o:Obj},c.heap.get? b=some o->o.cls=.type "module"->H b=none:=λ{b o} e d=>by
   cases q:H b with
   |none=>rfl
   |some u=>have G:b=a:=S b (by rw[q];simp);subst G;rw[B]at e;cases e;have U:Value.type "list"=Value.type "module":=d;exact absurd U (by decide)
  have hM:Mod K p (uM c.heap H):=⟨C,i y,⟨O,i f,R⟩,let⟨mc,h1,h2⟩:=A;⟨mc,i h1,h2⟩,⟨let⟨m,h1,h2⟩:=J.statics;⟨m,i h1,h2⟩,let⟨m,h1,h2⟩:=J.mods;⟨m,i h1,h2⟩,let⟨m,h1,h2⟩:=J.imp;⟨m,i h1,h2⟩,let⟨m,bm,M,h1,h2,h3,h4,h5⟩:=J.main;⟨m,bm,M,i h1,h2,L h3 (N h3 h4),h4,h5⟩⟩⟩;have e0:yZ P w K p (uM c.heap H) callerA [] c H:=⟨rfl,hM,λb o e=>Js e,ip (CG _ _),trivial,λb f=>absurd (show b∈([]:List Addr)from f) (by simp),t,.of_eq hg,Vw⟩;refine codeAny_mono ((F _ C (i y)).run callerA [] c H ⟨[.ref a],[]⟩ [.ref a] [.ref a] _ _ hr e0 (j c (.ref a)) (.cons rfl .nil) (sj H hO hS)) λr s' h=>?_;cases r with
  |error e=>exact(Zf H e s' h).elim
  |ok fl=>
   cases fl with
   |next=>exact D5 h
   |brk=>exact D5 h
   |cont=>exact D5 h
   |ret u=>
    obtain⟨v,H',os,I,X,Zh,r',q⟩:=h;have q':v=.bl true:=q;subst q';obtain rfl:u=Value.bool true:=r';refine⟨rfl,OldK.of_keep λb o e=>?_,os,I⟩;cases q:H b with
    |none=>exact X.keep b o e q (by intro z;exact absurd (show b∈([]:List Addr)from z) (by simp)) (by simp)
    |some u=>
     rcases hO b with z|⟨M,xs,z⟩
     .rw[q]at z;cases z
     .have z2:=X.kg b M _ z;obtain⟨e1,_⟩:=t b _ z;obtain⟨e2,_⟩:=Zh b _ z2;rw[e]at e1;cases e1;exact e2
 cases Q:K.lookup a with
 |some o=>have e:=KX a o Q;rw[B]at e;cases e;refine g (λ_=>none) (λ_=>.inl rfl) (.inr ⟨_,vs.toArray,_,Q,rfl,rfl,rfl,by rw[He,Zg];exact Y,by simpa using rv⟩) (λb u z=>by have l:(none:Option HO)=some u:=z;cases l) (λb z=>absurd rfl z) λz=>absurd rfl z
 |none=>
  refine g (λb=>if b=a then some (.yK {cls:=.type "list",data:=.seq vs.toArray} (.lst (ns.map V.int)))else none) (λb=>?_) (.inl (.inr ⟨{cls:=.type "list",data:=.seq vs.toArray},Bi rfl⟩)) (λb u z=>?_) (λb z=>?_) λ_=>Q
  .by_cases f:b=a
   .exact .inr ⟨_,_,Bi f⟩
   .exact .inl (BM f)
  .by_cases f:b=a
   .have l:=(Bi f).symm.trans z;cases l;subst f;exact⟨B,by rw[Ap];exact Y,vs,_,rv,B⟩
   .have l:=(BM f).symm.trans z;cases l
  .by_cases f:b=a
   .exact f
   .exact absurd (BM f) z
theorem JQ{l:PySem.W.OpenLaw}{d:DefRec}{K:Params->Frag}{CX:World->CW}{sp:World->Sp}{x:Str}
 (M:l.most=some n)(z:n<=sizeLine)(B:d.params.defaults=[])(L:cV k callerA)(Z:importsNone q=true)(y:l.prog.given.tree=none)
 (Q:∀(w:World)(h:Heap),E w h->(K w.params).In h)
 (F:∀(w:World)(m:Str->Option Value)(t:Addr)(h:Heap),(K w.params).In h->h.Ns mainGlobals m->m d.name=some (.ref t)->
   ∃C:FuncData,(∀(s:Shared)(u:Value),BindsTo s C ⟨[u],[]⟩ [(x,u)])/\
    ∀base:Heap,(K w.params).In base->base.Ns mainGlobals m->b8 l.prog w (K w.params) m base (CX w) k t C [x] (sp w))
 (J:∀(w:World)(H:Hp)(a:Addr)(ns:List Int),ns.length<=n->E2 H->jU (K w.params) H a (ns.map V.int)->sp w [.ref a] H (λv _=>v=.bl true) λ_ _ _=>False)
 (Zf:∀(w:World)(H:Hp)(s:Shared)(e:Value)(s':Shared),CX w [] H s (λ_ _ _=>False) e s'->False):
 PySem.W.WalkO q i XP E l.row.toRowW d [] (λf vs=>PySem.call f vs):=by
 refine Att.xu M B λw D p m mb t o pm cd X a vs ns G Y ho hd O A r j c N=>?_;have I:=Q w _ Y;obtain⟨C,P,U⟩:=F w m t _ I G.T.g A;exact E3 I G.T.g G.T.b G.T.builtins G.T.nolimit (G.T.seer Z) y N r j (Do c z) L U P (λH S R=>J w H a ns c S R) λH e s'=>Zf w H p e s'
noncomputable def inClass(s:Stmt)(j:Nat):Stmt:=match s with
 |.ClassDef _ _ _ body _ _ _ _ _ _ _=>body.getD j (.Pass ⟨0,0,0,0⟩)
 |_=>.Pass ⟨0,0,0,0⟩
noncomputable def cy(s:Stmt):Arguments:=match s with
 |.FunctionDef _ a _ _ _ _ _ _ _ _=>a
 |_=>{posonlyargs:=[],args:=[],vararg:=none,kwonlyargs:=[],kw_defaults:=[],kwarg:=none,defaults:=[]}
noncomputable def aN(s:Stmt):List Stmt:=match s with
 |.FunctionDef _ _ b _ _ _ _ _ _ _=>b
 |_=>[]
noncomputable def ai(s:Stmt):Scope:=match s with
 |.FunctionDef _ _ _ _ _ _ sc _ _ _=>sc
 |_=>{kind:=.function,names:=[],isGenerator:=false,isCoroutine:=false}
abbrev Vx:CW:=λ_ _ _ _ _ _=>False
abbrev E0:XK:=λ_ _ _=>False
structure E4(K:Frag)(x qual:Str)(st:Stmt)(f:Addr)(fd:FuncData):Prop where
 ex:∃(oc:Value)(od:Option Addr)(kV doc pm:Value)(an:Option Addr)(cdv ct:Value)(osl:Array (Option Value)),
  fd=fnOf x qual (cy st) (aN st) (ai st) .none kV doc pm an cdv ct/\K.lookup f=some ⟨oc,od,.func fd,osl⟩/\codeIn K cdv qual=true
 kp:keepIn K (.ref f)=true
section
variable{P:Program}{w:World}{K:Frag}{mg:Str->Option Value}{base:Heap}
theorem E4.binds{st:Stmt}(F:E4 K x a st f i)
 (h:∀(kV b d:Value)(g:Option Addr)(c e:Value)(us:List Value),us.length=ps.length->bindArgs (fnOf x a (cy st) (aN st) (ai st) .none kV b d g c e) ⟨us,[]⟩=pure (ps.zip us)):Binds K i ps []:=by
 obtain⟨m,l,kV,b,d,g,c,e,j,rfl,n,k⟩:=F.ex;exact .all (h kV b d g c e)
theorem E5{st:Stmt}{kV d g b h:Value}(l:K.lookup f=some ⟨m,j,.func (fnOf x a (cy st) (aN st) (ai st) .none kV d g i b h),e⟩)
 (c:codeIn K b a=true)(k:keepIn K (.ref f)=true):E4 K x a st f (fnOf x a (cy st) (aN st) (ai st) .none kV d g i b h):=⟨⟨m,j,kV,d,g,i,b,h,e,rfl,l,c⟩,k⟩
end
section
variable{X:Cx}
theorem pv(i:Nat){pos:Pos}(d:X.N[i]?=some x:=by rfl)(b:UQ X.env.scope x:=by first|exact bM rfl|exact b9 (bM rfl)|exact b9 (b9 rfl))(c:(x==("__debug__":Str))=false:=by decide)
 (a:(x==("__classdict__":Str))=false:=by decide):PE X (.Name x pos) (mW i):=yN d b c a
end
def ay(H H':Hp):Prop:=∀b o,H b=some o->H' b=some o
theorem ay.refl(H:Hp):ay H H:=λ_ _ h=>h
theorem ay.trans(a:ay H H1)(b:ay H1 d):ay H d:=λc o h=>b c o (a c o h)
theorem ay.free(e:ay H H')(h:H' l=fz):H l=fz:=by
 cases q:H l with
 |none=>rfl
 |some o=>rw[e l o q]at h;cases h
theorem bits_le(h:x.natAbs<2^n):Builtin.Int.intBits x<=n:=by
 unfold Builtin.Int.intBits;split
 .exact PQ _
 .rename_i hx
  have a:x.natAbs≠0:=λe=>hx (by simp[Int.natAbs_eq_zero.mp e]);have:=(Vz a).mpr h;lia
theorem zo(h:Builtin.Int.intBits i+Builtin.Int.intBits j<=134217728):IntMulOk i j:=by
 unfold IntMulOk Builtin.Int.intTooBig;have a:¬((Builtin.Int.intBits i:Int)+(Builtin.Int.intBits j:Int)>((bitsLine:Nat):Int)):=by rw[bitsLine_eq];lia
 intro z;rw[Bz]at z;exact a (Da z.2)
section
variable{X:Cx}
theorem JR:sd X (binaryOp .Mult) (rI IntMulOk λi j=>.int (i*j)):=Y3 λ_ _ _ _ _ _ _ a q=>mul_int q a
def xw(_ j:Int):Prop:=j≠0/\j.natAbs.log2<1000000000
theorem E6:sd X (binaryOp .FloorDiv) (rI xw λi j=>.int (i.fdiv j)):=λa s e H x y v u Q I c b h=>by obtain⟨i,j,rfl,rfl,d,q⟩:=h;obtain⟨t,rfl⟩:=c;obtain⟨f,rfl⟩:=b;exact floordiv_int d.1 ⟨.int (i.fdiv j),H,I.tok _,⟨_,rfl⟩,q⟩ (.inr (I.ok.UR X.A s rfl rfl I.bk))
end
theorem aQ(h:H p=none)(o:HO):ay H (upd H p o):=λb u q=>by rw[ao (aP q h)];exact q
theorem ay.tup{K:Frag}{H H':Hp}{a:Addr}{b:List V}(e:ay H H')(h:mY K H a b):mY K H' a b:=by
 rcases h with(h|⟨o,h⟩)|h
 .exact .inl (.inl (e _ _ h))
 .exact .inl (.inr ⟨o,e _ _ h⟩)
 .exact .inr h
theorem uc(h:n<=100000):n<=sizeLine:=Do h (by decide)
end L2
namespace L2
theorem ie(c:0<=j)(b:j<=1000000)(a:i.natAbs<2^64):JC i j:=⟨c,b,a⟩
end L2
namespace L2
open PySem PySem.Spec PyProof.Rows
theorem E7(a:H q=some u)(b:H p=none):upd H p o q=some u:=by rw[ao (aP a b)];exact a
theorem cJ.thing(x:cJ P w H h a o):∃b,h.get? a=some b:=by
 cases o with
 |lst d=>obtain⟨_,_,_,_,e⟩:=x;exact⟨_,e⟩
 |tup d=>obtain⟨_,_,_,b,e,_⟩:=x;exact⟨_,e⟩
 |dK c=>obtain⟨_,_,_,_,b,_,_,e,_⟩:=x;exact⟨_,e⟩
 |dT c=>obtain⟨_,_,_,_,b,_,_,e,_⟩:=x;exact⟨_,e⟩
 |set S n=>obtain⟨b,_,_,_,e,_⟩:=x;exact⟨_,e⟩
 |ins C l g=>obtain⟨_,_,_,e,_⟩:=x;exact⟨_,e⟩
 |own y=>exact x
 |xd g=>obtain⟨_,⟨_,_,_,e,_⟩,_⟩:=x;exact⟨_,e⟩
 |j3 j k=>obtain⟨_,_,_,e⟩:=x;exact⟨_,e⟩
 |yK b u=>obtain⟨e,_⟩:=x;exact⟨_,e⟩
 |Nc i=>exact⟨_,x⟩
 |met f y=>exact⟨_,x⟩
 |ext φ=>obtain⟨_,e,_⟩:=x;exact e
theorem kR.gone(x:kR P w H h)(e:h.get? a=none):H a=none:=by
 cases q:H a with
 |none=>rfl
 |some u=>obtain⟨b,z⟩:=(x a u q).thing;rw[e]at z;cases z
theorem kR.tracked(x:kR P w H h)(k:∀b u c,H b=some u->h.get? b=some c->h'.get? b=some c):kR P w H h':=λa o e=>
 (x a o e).stay (λb u z q=>by
   rcases z with rfl|z
   .exact k b o u e q
   .exact k b _ u z q) (λ_ q=>q) λ_ _ q=>q
structure Fly(P:Program)(w:World)(outer:List Env)(H:Hp)(s:Shared)(H':Hp)(a C:Addr)(s':Shared):Prop where
 os:s'.os=s.os
 bare:AllBare s'.gens
 un:Un (frs outer) [] H H' s.heap s'.heap
 hok:kR P w H' s'.heap
 new:H' a=none
 old:s.heap.get? a=none
 Vy:∃(B:Heap)(a0:Value),Heap.FlyingW B outer a (.ref C) a0 s'.heap/\∀b o,s'.heap.get? b=some o->b∉frs outer->((∃o',s.heap.get? b=some o')\/∃u,H' b=some u)->B.get? b=some o
def je(P:Program)(w:World):CW:=λb H s E e d=>∃a C c,e=.ref a/\Fly P w b H s c a C d/\E (.ref C) none c
section
variable{P:Program}{w:World}{K:Frag}{mg:Str->Option Value}{base:Heap}{N:List Str}{qual:Str}{scope:Scope}{f:Addr}{cd:Value}{A:Around}{outer:List Env}{s:Shared}{H:Hp}{E:XK}
abbrev kT(P:Program)(w:World)(K:Frag)(mg:Str->Option Value)(base:Heap)(N:List Str)(qual:Str)(scope:Scope)(f:Addr)(cd:Value)(A:Around)(outer:List Env)(s:Shared)(H:Hp)(E:XK):Cx:=
 CY (je P w) P w K mg base N qual scope f cd A outer s H E
theorem pU(a:e.frame=some L):b∈frs (e::l)↔b=L\/b∈frs l:=by unfold frs;rw[JP,a];exact Hk
theorem xx{x:St}(I:Inv (kT P w K mg base N qual scope f cd A outer s H E) g x H1 i)
 (u:Un (frs (kT P w K mg base N qual scope f cd A outer s H E).stack) [] H1 t i.heap r):Un (frs outer) [] H t s.heap r:=by
 have D:(kT P w K mg base N qual scope f cd A outer s H E).env.frame=some s.heap.objs.size:=rfl;have p:∀b,b∈frs (kT P w K mg base N qual scope f cd A outer s H E).stack↔b=s.heap.objs.size\/b∈frs outer:=λb=>pU D;have c:Un (frs outer) [] H H1 s.heap i.heap:=I.base;have k:∀b o,s.heap.get? b=some o->b∉frs outer->b∉frs (kT P w K mg base N qual scope f cd A outer s H E).stack:=λb o q d z=>by
  rcases(p b).mp z with z|z
  .exact absurd (KB q) (by rw[z];exact TC _)
  .exact d z
 refine⟨λb o q n d a=>?_,λb o q n d a=>?_,λb o q n a=>?_,λb o q a=>?_,λb m q=>u.tups b m (c.tups b m q),λb o v q=>u.kg b o v (c.kg b o v q),λb y q=>?_⟩
 .exact u.keep b o (c.keep b o q n d a) (c.free b o q n a) (k b o q d) a
 .obtain⟨F,e⟩:=c.slot b o q n d a;obtain⟨h,l⟩:=u.slot b _ e (c.free b o q n a) ((p b).mpr (.inr d)) a;exact⟨h,l⟩
 .obtain⟨j,e⟩:=c.there b o q a;exact u.free b j e (c.free b o q n a) a
 .obtain⟨j,e⟩:=c.there b o q a;exact u.there b j e a
 .obtain⟨C,e⟩:=c.kW b y q;obtain⟨B,l⟩:=u.kW b _ e;exact⟨C++B,by rw[l,dy]⟩
theorem zp(u:Un (frs l) [] H1 t p g)(k:∀b o,g.get? b=some o->b∉frs l->((∃c,p.get? b=some c)\/∃u,t b=some u)->h.get? b=some o)
 (ff:∀b,b∈frs l->∃o,g.get? b=some o/\∀vs,o.data≠.fields vs)(up:g.UpToSlots h):Un (frs l) [] H1 t p h:=by
 have v:∀b o,b∈frs l->g.get? b=some o->∃m,h.get? b=some {o with slots:=m}:=λb o a q=>by obtain⟨c,e,x⟩:=ff b a;rw[q]at e;cases e;exact up b o q x
 refine⟨λb o q n a d=>k b o (u.keep b o q n a d) a (.inl ⟨o,q⟩),λb o q n a d=>?_,u.free,λb o q d=>?_,u.tups,u.kg,u.kW⟩
 .obtain⟨m,i⟩:=u.slot b o q n a d;obtain⟨j,r⟩:=v b _ a i;exact⟨j,r⟩
 .obtain⟨c,i⟩:=u.there b o q d;by_cases a:b∈frs l
  .obtain⟨m,r⟩:=v b c a i;exact⟨_,r⟩
  .exact⟨c,k b c i a (.inl ⟨o,q⟩)⟩
theorem E8{d:St}(I:Inv (kT P w K mg base N qual scope f cd A outer s H E) b d H1 c)(e:c.heap.get? a=none):s.heap.get? a=none:=by
 have g:Un (frs outer) [] H H1 s.heap c.heap:=I.base;cases q:s.heap.get? a with
 |none=>rfl
 |some o=>obtain⟨h,z⟩:=g.there a o q (by simp);rw[e]at z;cases z
theorem zu{J:St}{k:List Value}(I:Inv (kT P w K mg base N qual scope f cd A outer s H E) d J H1 c)
 (l:Heap.MadeExcOf c.heap h' a (.ref C) k)(q:E (.ref C) none H1):(kT P w K mg base N qual scope f cd A outer s H E).xe (.ref a) {c with heap:=h'}:=by
 have D:(kT P w K mg base N qual scope f cd A outer s H E).env.frame=some s.heap.objs.size:=rfl;have R:∀b,b∈frs (kT P w K mg base N qual scope f cd A outer s H E).stack↔b=s.heap.objs.size\/b∈frs outer:=λb=>pU D;have ff:=I.stack;have p:∀env∈(kT P w K mg base N qual scope f cd A outer s H E).stack,∀b,env.frame=some b->b∈frs (kT P w K mg base N qual scope f cd A outer s H E).stack:=λenv T b r=>N8.mpr ⟨env,T,r⟩;have j:=PySem.W.funFrames_hide ff p;refine wpAny_leaves_madeW (base:=PySem.W.hideAll c.heap (frs (kT P w K mg base N qual scope f cd A outer s H E).stack)) (h:=c.heap) I.ok.frames D (λb o z=>PySem.W.of_hideAll _ z) j l λn t y Y X M=>?_;have v:∀b o,c.heap.get? b=some o->b∉frs (kT P w K mg base N qual scope f cd A outer s H E).stack->n.get? b=some o:=λb o z g=>y.1 b o (hideAll_get _ z g);have fm:∀b,b∈frs (kT P w K mg base N qual scope f cd A outer s H E).stack->∃o,c.heap.get? b=some o/\∀O,o.data≠.fields O:=λb r=>(j.mem r).2;have up:c.heap.UpToSlots n:=(Heap.UpToSlots.of_keeps l.keeps).trans M;have Q:Un (frs (kT P w K mg base N qual scope f cd A outer s H E).stack) [] H1 H1 c.heap n:=zp Un.refl (λb o z g _=>v b o z g) fm up;refine⟨a,C,H1,rfl,⟨I.os,I.bare,xx I Q,I.hok.tracked λb u S z L=>v b S L λm=>?_,I.hok.gone l.new,E8 I l.new,_,_,y,λb o z g i=>?_⟩,q⟩
 .have:=I.jG b m;rw[z]at this;cases this
 .have G:b∉frs (kT P w K mg base N qual scope f cd A outer s H E).stack:=λm=>by
   rcases i with⟨B,e⟩|⟨u,e⟩
   .rcases(R b).mp m with m|m
    .exact absurd (KB e) (by rw[m];exact TC _)
    .exact g m
   .have:=I.jG b m;rw[e]at this;cases this
  have:∃o1,c.heap.get? b=some o1:=by
   rcases i with⟨B,e⟩|⟨u,e⟩
   .exact Un.there (show Un (frs outer) [] H H1 s.heap c.heap from I.base) b B e (by simp)
   .exact(I.hok b u e).thing
  obtain⟨o1,F⟩:=this;have U:=v b o1 F G;have x:n.get? b=some o:=z;rw[U]at x;cases x;exact hideAll_get _ F G
theorem E9{G:St}(I:Inv (kT P w K mg base N qual scope f cd A outer s H E) g G H1 i)
 (S:je P w (kT P w K mg base N qual scope f cd A outer s H E).stack H1 i E e s'):(kT P w K mg base N qual scope f cd A outer s H E).xe e s':=by
 obtain⟨a,C,n,rfl,F,q⟩:=S;obtain⟨B,Y,x,k⟩:=F.Vy;have t:(kT P w K mg base N qual scope f cd A outer s H E).env.frame=some s.heap.objs.size:=rfl;have Q:∀b,b∈frs (kT P w K mg base N qual scope f cd A outer s H E).stack↔b=s.heap.objs.size\/b∈frs outer:=λb=>pU t;refine wpAny_leaves_onW I.ok.frames t x λU h L=>?_;have fm:∀b,b∈frs (kT P w K mg base N qual scope f cd A outer s H E).stack->∃o,s'.heap.get? b=some o/\∀M,o.data≠.fields M:=λb T=>(x.2.2.1.mem T).2;have D:∀b u,n b=some u->b∉frs (kT P w K mg base N qual scope f cd A outer s H E).stack:=λb u z m=>by have l:=I.jG b m;obtain⟨o,R,_⟩:=I.stack.mem m|>.2;rw[F.un.free b o R l (by simp)]at z;cases z
 have O:=zp F.un (λb o z j c=>h.1 b o (k b o z j c)) fm L;refine⟨a,C,n,rfl,⟨F.os.trans I.os,F.bare,xx I O,F.hok.tracked λb u r z J=>h.1 b r (k b r J (D b u z) (.inr ⟨u,z⟩)),F.new,E8 I F.old,B,Y,h,λb o z j c=>?_⟩,q⟩;have Z:b∉frs (kT P w K mg base N qual scope f cd A outer s H E).stack:=λm=>by
  rcases c with⟨d,e⟩|⟨u,e⟩
  .rcases(Q b).mp m with m|m
   .exact absurd (KB e) (by rw[m];exact TC _)
   .exact j m
  .exact D b u e m
 have y:(∃d,i.heap.get? b=some d)\/∃u,n b=some u:=by
  rcases c with⟨d,e⟩|z
  .exact .inl (Un.there (show Un (frs outer) [] H H1 s.heap i.heap from I.base) b d e (by simp))
  .exact .inr z
 have:∃o1,s'.heap.get? b=some o1:=by
  rcases y with⟨d,e⟩|⟨u,e⟩
  .exact F.un.there b d e (by simp)
  .exact(F.hok b u e).thing
 obtain⟨o1,l⟩:=this;have v:=k b o1 l Z y;have X:=h.1 b o1 v;have p:U.get? b=some o:=z;rw[X]at p;cases p;exact v
theorem Nt:Passes (je P w) (kT P w K mg base N qual scope f cd A outer s H E) E:=λ_ _ _ _ _ _ I h=>E9 I h
end
abbrev Zj:List Value:=[.type "ValueError",.type "Exception",.type "BaseException",.type "object"]
structure pV(K:Frag)(C:Addr):Prop where
 exc:excIn K C Zj "ValueError.__new__"=true
 ga:findIn K (.ref C) "__getattribute__"=some (some (.builtin "BaseException.__getattribute__"))
 gt:findIn K (.ref C) "__getattr__"=some none
 cl:findIn K (.ref C) "__class__"=some (some (.builtin "object.__class__"))
 ob:mroIn K C (.type "object")=some true
 bs:mroIn K C (.type "BaseException")=some true
theorem JS{p:Prop}(h:false=true):p:=nomatch h
theorem exA(q:PySem.W.excIn.match_6 (λ_=>Bool) o F (λ_=>false)=true):∃d c l,o=some ⟨.type "type",d,.cls c,l⟩/\F d c l=true:=by
 rcases o with _|⟨b,g,a,f⟩
 .exact JS q
 cases b with
 |type s=>
  by_cases e:s="type"
  .subst e;cases a with
   |cls h=>exact⟨_,_,_,rfl,q⟩
   |_=>exact JS q
  .delta PySem.W.excIn.match_6 at q
   exact JS ((dif_neg e).symm.trans q)
 |_=>exact JS q
theorem exB(q:PySem.W.excIn.match_1 (λ_ _=>Bool) m l F (λ_ _=>false)=true):∃a b k0 k1 k2 k3 n k5,m=.ref a::b/\l=[k0,k1,k2,k3,some (.builtin n),k5]/\F a b k0 k1 k2 k3 n k5=true:=by
 rcases m with _|⟨v,d⟩
 .exact JS q
 cases v with
 |ref e=>
  rcases l with _|⟨k0,_|⟨k1,_|⟨k2,_|⟨k3,_|⟨_|v,r⟩⟩⟩⟩⟩<;>try exact JS q
  cases v with
  |builtin n=>
   rcases r with _|⟨k5,_|⟨c,r⟩⟩<;>try exact JS q
   exact⟨_,_,_,_,_,_,_,_,rfl,rfl,q⟩
  |_=>exact JS q
 |_=>exact JS q
theorem oU{K:Frag}(X:K.In h)(q:excIn K C b a=true):
 ∃bm N nm c bs hdct sn sub ab col dd k0 k1 k2 k3 k5 mN,h.get? C=some (excClassObj nm c C N bs bm hdct sn sub ab col dd k0 k1 k2 k3 k5 a)/\h.Ns N mN/\mN "__init__"=none/\OwnTail h b bm:=by
 obtain⟨dd,v,d,i,q⟩:=exA q;have s:=X _ _ i;clear i;obtain⟨w,bm,k0,k1,k2,k3,n,k5,g,f,q⟩:=exB q;obtain⟨nm,bs,r,p,c,t,sn,sub,ab,col,u⟩:=v;obtain⟨d⟩:=d;dsimp only at g f q;subst g f;simp only[Bz,Kt,oP]at q;obtain⟨⟨⟨⟨⟨o,m⟩,l⟩,k⟩,e⟩,j⟩:=q;subst o m l;exact⟨bm,p,nm,c,bs,t,sn,sub,ab,col,dd,k0,k1,k2,k3,k5,_,s,Heap.Ns.of_isNs (PySem.W.isNs_of_in X e),PySem.W.nsMap_none_of_in X e j,PySem.W.tail_of_in X k⟩
def zv(X:Cx)(R:Addr->Hp->Prop):Prop:=∀(b:List (Addr×Obj))(e:St)(H:Hp)(s:Shared)(d:Heap)(a C:Addr)(c:List Value),Inv X b e H s->Heap.MadeExcOf s.heap d a (.ref C) c->R C H->X.xe (.ref a) {s with heap:=d}
theorem AZ{K:Frag}{c:Str}{a:Scope}{f:Addr}{g:Value}{A:Around}{b:List Env}{s:Shared}{H:Hp}{E:XK}:
 zv (kT P w K d base N c a f g A b s H E) (λC H'=>E (.ref C) none H'):=λ_ _ _ _ _ _ _ _ I e q=>zu I e q
def Pa(R:Addr->Hp->Prop)(C:Addr)(t:TA):TS:=λ_ a H=>t a H λb c=>b.length<=sizeLine/\R C c
section
variable{X:Cx}{x:Str}{C:Addr}{e:Expr}{t:TA}{np cpos pos:Pos}{R:Addr->Hp->Prop}
theorem Fb(v:zv X R)(p:X.calm=true)(o:Gl X x)(m:X.mg x=some (.ref C))(q:pV X.K C)(u:PA X [e] t)(f:starEach [e] X.env=[(false,eval e X.env)]:=by rfl)
 (hd:(x==("__debug__":Str))=false:=by decide):PS X (.Raise (some (.Call (.Name x np) [e] [] cpos)) none pos) (Pa R C t):=by
 intro b s d H D I h;obtain⟨bm,N,nm,j,bs,hdct,sn,sub,ab,col,dd,k0,k1,k2,k3,k5,mN,y,w,c,T⟩:=oU I.ok.mod.Nd q.exc;refine wpAny_Raise_call_subT (C:=C) (bm:=bm) (mN:=mN) (nm:=nm) (q:=j) (N:=N) (bs:=bs) (hdct:=hdct) (sn:=sn) (sub:=sub) (ab:=ab) (col:=col) (dd:=dd) (k0:=k0) (k1:=k1) (k2:=k2) (k3:=k3) (k5:=k5) (F:=PySem.F.excBase_ValueError) (T.hasType PySem.F.excBase_ValueError.hasBase) (I.ok.hd p) (by rw[f];rfl) c (gg I o m ⟨rfl,?_⟩ hd);have g:=u cpos b s d H _ I h;rw[f]at g⊢;refine Calls.evalArgs_plain (cg g λG i z=>?_);obtain⟨E,B,I1,r,n,k⟩:=z;refine⟨rfl,by rw[<-r.length];exact n,I1.bk _ _ y,w.keeps I1.bk,T.keeps I1.bk,λA a l=>v b d B i A a C _ I1 l k⟩
end
theorem E4.Zk{K:Frag}{st:Stmt}{f:Addr}{j:FuncData}{N ps:List Str}{k:Nat}{sp:Sp}(F:E4 K x b st f j)(S:cK N ps (ai st))
 (d:∀vs H Q E,sp vs H Q E->vs.length=ps.length)
 (o:∀(c:Value)(A:Around)(a:List Env)(s:Shared)(H:Hp)(vs:List V)(Q:VK)(E:XK),cV k (A.deeper (envOfC b (ai st) s.heap.objs.size f c))->sp vs H Q E->
   ∃t,wU (kT P w K i base N b (ai st) f c A a s H E) (aN st) t/\t {nx:=λ_ H'=>Q .bV H',rt:=Q} (start N vs) H):b8 P w K i base (je P w) (k+1) f j ps sp:=by
 obtain⟨u,r,kV,p,q,y,c,v,l,e,m,g⟩:=F.ex;subst e;exact Vm m g S d λA a s H vs Q E n h=>o c A a s H vs Q E n h
theorem b8.VC{K:Frag}{f:Addr}{d:FuncData}{ps:List Str}{sp:Sp}(F:b8 P w K c base (je P w) k f d ps sp):
 b8 P w K c base Vx k f d ps (λvs H Q _=>sp vs H Q E0):=
 ⟨λvs H Q E h=>F.len vs H Q E0 h,λA a s H b g vs Q E i l j r h=>codeAny_mono (F.run A a s H b g vs Q E0 i l j r h) λr m z=>by
   cases r with
   |error e=>obtain⟨_,_,_,_,_,q⟩:=z;exact q.elim
   |ok fl=>cases fl<;>exact z⟩
def FX(X:Cx)(a:List (Addr×Obj))(d:St)(E:XK)(e:Value)(s':Shared):Prop:=∃c b,Inv X a d c b/\je X.prog X.w X.stack c b E e s'
abbrev TX:=St->Hp->VK->XK->Prop
def PX(X:Cx)(e:Expr)(t:TX):Prop:=
 ∀(a:List (Addr×Obj))(s:Shared)(b:St)(H:Hp)(Q:VK)(E:XK),Inv X a b H s->t b H Q E->wpAny (model X.prog X.w) X.A (eval e X.env) (EP X a b Q) (FX X a b E) s
section
variable{X:Cx}{k:Nat}{f:Addr}{fd:FuncData}{ps:List Str}{sp:Sp}{x:Str}{p pos:Pos}{e:Expr}{es:List Expr}{t:TA}
end
def j4(a C:Addr)(h:Heap):Prop:=∃b c,h.get? a=some b/\b.cls=.ref C/\b.data=.fields c
noncomputable def Fc(a C:Addr):HO:=.ext (j4 a C)
section
variable{X:Cx}{pins:List (Addr×Obj)}{σ:St}{H:Hp}{s:Shared}
abbrev ir(X:Cx)(a:Addr):Cx:={X with A:=X.A.mark (some (.ref a)),calm:=false,xe:=λ_ _=>False}
theorem Inv.suite(I:Inv X pins σ H s)(a:Addr):Inv (ir X a) pins σ H s:=
 ⟨⟨I.ok.mod,I.ok.kind,I.ok.glob,I.ok.blt,I.ok.above,I.ok.inj,I.ok.has,I.ok.T6,(λz=>by cases z),I.ok.frames,I.ok.stk,I.ok.X3,I.ok.bs,I.ok.Je,I.ok.CH,I.ok.CI,I.ok.mV,I.ok.Nf,I.ok.tree,I.ok.UR⟩,I.os,I.bare,I.base,I.loc,I.cell,I.free,I.gf,I.pin,I.hok,I.len⟩
theorem Inv.oV(b:X.Ok)(I:Inv (ir X a) pins σ H s):Inv X pins σ H s:=
 ⟨b,I.os,I.bare,I.base,I.loc,I.cell,I.free,I.gf,I.pin,I.hok,I.len⟩
theorem Inv.adopt(h:Inv X pins σ H1 i)(K:i.heap.get? a=none)(I:Inv X pins σ H s)(n:H a=none)(p:φ s.heap)(G:∃o,s.heap.get? a=some o)
 (st:∀w t:Heap,φ w->(∀o,w.get? a=some o->t.get? a=some o)->φ t):Inv X pins σ (upd H a (.ext φ)) s:=by
 have g:∀b o,i.heap.get? b=some o->b≠a:=λb o z e=>by rw[e,K]at z;cases z
 have f:∀b u,H b=some u->upd H a (.ext φ) b=some u:=λb u z=>by rw[ao (aP z n)];exact z
 refine⟨I.ok,I.os,I.bare,⟨I.base.keep,I.base.slot,λb o q m k=>?_,I.base.there,λb j q=>f b _ (I.base.tups b j q),λb o v q=>f b _ (I.base.kg b o v q),λb D q=>?_⟩,I.loc,I.cell,?_,λx c e=>?_,λp l=>?_,λb u z=>?_,I.len⟩
 .obtain⟨E,d⟩:=h.base.there b o q k;rw[ao (g b E d)];exact I.base.free b o q m k
 .obtain⟨F,d⟩:=I.base.kW b D q;exact⟨F,f b _ d⟩
 .obtain⟨m,J,_⟩:=h.loc;obtain⟨o,_,_,d,_⟩:=J;rw[ao (g _ o d)];exact I.free
 .obtain⟨v,o,d,_⟩:=h.cell x c e;rw[ao (g _ o d)];exact I.gf x c e
 .obtain⟨C,B,A⟩:=I.pin p l;refine⟨C,?_,A⟩;obtain⟨y,_⟩:=h.pin p l;rw[ao (g _ _ y)];exact B
 .by_cases r:b=a
  .subst r;rw[aG]at z;cases z;exact⟨p,G,st⟩
  .rw[ao r]at z;exact(I.hok b u z).stay (λ_ _ _ q=>q) (λc q=>f c _ q) λc j q=>f c _ q
theorem name_goes(I:Inv X pins σ H s)(hN:X.N.Nodup)(J:X.N[i]?=some n)(hl:X.env.scope.names.lookup n=some .local)
 (h:∀s',Inv X pins (σ.set i none) H s'->Q () s'):wpAny M A (do bindName X.env n .none;unbindBehindTheSuite X.env n pos) Q E s:=by
 obtain⟨m,G,w⟩:=id I.loc;have l:(X.env.scope.kind==.class||(X.env.scope.kind==.module&&X.env.locals !=X.env.globals))=false:=by rw[I.ok.kind];rfl
 have Ju:i<σ.length:=by rw[I.len];exact(Gc.mp J).1
 have Ez:=I.Ez;refine wpAny_nameGoes_keeps hl G l λh' v t a=>?_;obtain⟨oL,_,_,Z,_⟩:=id G;have C:∀b o,X.s₀.heap.get? b=some o->b≠X.env.locals:=λb o e=>SC (Fu (KB e) I.ok.above);refine h _ ⟨I.ok,I.os,I.bare,⟨λb o e n B g=>?_,λb o e n B g=>?_,I.base.free,λb o e g=>?_,I.base.tups,I.base.kg,I.base.kW⟩,⟨_,t,λj y O f r e3=>?_⟩,λy c e=>?_,I.free,I.gf,λp Y=>?_,?_,by simpa using I.len⟩
 .exact(a.2 b (C b o e)).trans (I.base.keep b o e n B g)
 .obtain⟨P,f⟩:=I.base.slot b o e n B g;exact⟨P,(a.2 b (C b o e)).trans f⟩
 .obtain⟨S,f⟩:=I.base.there b o e g;exact⟨S,(a.2 b (C b o e)).trans f⟩
 .by_cases x:j=i
  .subst x;rw[W1 Ju]at r;cases r
  .rw[OF (dk x)]at r;obtain⟨D,R,q⟩:=w j y O f r e3;refine⟨D,R,?_⟩;rcases q with⟨k,e⟩|⟨k,c,e,z⟩
   .refine .inl ⟨k,?_⟩;have:y≠n:=λe=>x (pL hN f (e▸J));show(if y=n then v else m y)=some D;rw[BM this];exact e
   .exact .inr ⟨k,c,e,z.sameBut a (Ez y c e)⟩
 .obtain⟨L,z⟩:=I.cell y c e;exact⟨L,z.sameBut a (Ez y c e)⟩
 .obtain⟨e,U,F,T,d⟩:=I.pin p Y;exact⟨(a.2 p.1 F).trans e,U,F,T,d⟩
 .exact I.hok.tracked λb u ob z K=>(a.2 b λe=>by rw[e,I.free]at z;cases z).trans K
end
theorem zx{K:Frag}{i:Obj}{Q:Bool->Shared->Prop}(X:K.In s.heap)(w:pV K C)(e:pV K D)(n:s.heap.get? a=some i)(c:i.cls=.ref C)
 (b:mroIn K C (.ref D)=some true)(l:Q true s):wpAny M A (excMatches (.ref a) (.ref D)) Q E s:=by
 obtain⟨h,g,d,t,x⟩:=s;obtain⟨O,N,y,v,bs,j,u,k,ab,p,L,I,H,G,F,B,z,o,J,m,T⟩:=oU X e.exc;have r:=sk (M:=M) X b;have q:=sk (M:=M) X e.bs;have f:=tc_notTuple;unfold excMatches
 repeat (first|(with_reducible refine wpAny_loadPart_at n ?_;rw[c])|with_reducible refine wpAny_loadPart_at o ?_|exact l|with_reducible refine r.at ?_|with_reducible refine q.at ?_|wp_step)
abbrev Ends.past(D:Ends)(i:Nat):Ends:={nx:=λσ' H'=>D.nx (σ'.set i none) H',rt:=D.rt,bk:=λσ' H'=>D.bk (σ'.set i none) H',ct:=λσ' H'=>D.ct (σ'.set i none) H'}
def Zl(K:Frag)(i:Nat)(D:Addr)(te:TX)(e:TS):TS:=λW d H=>te d H (λ_ b=>W.nx d b) (λc _ b=>∃C,c=.ref C/\pV K C/\mroIn K C (.ref D)=some true/\
 ∀a,b a=none->e (W.past i) (d.set i (some (.ref a))) (upd b a (Fc a C)))
theorem Inv.Vy{k:St}{B:Heap}{A:Value}(I:Inv X c k H1 g)(F:Fly X.prog X.w X.stack H1 g f a C d)
 (p:∀b o,d.heap.get? b=some o->b∉frs X.stack->((∃s,g.heap.get? b=some s)\/∃u,f b=some u)->B.get? b=some o)(x:Heap.FlyingW B X.stack a (.ref C) A d.heap)(l:B.StaysIn e.heap)(up:d.heap.UpToSlots e.heap)
 (j:e.os=d.os)(y:e.gens=d.gens):Inv X c k f e:=by
 have fm:∀b,b∈frs X.stack->∃o,d.heap.get? b=some o/\∀r,o.data≠.fields r:=λb i=>(x.2.2.1.mem i).2;have D:∀b u,f b=some u->b∉frs X.stack:=λb u z m=>by have j:=I.jG b m;obtain⟨o,v,_⟩:=I.stack.mem m|>.2;rw[F.un.free b o v j (by simp)]at z;cases z
 refine I.EA (ch:=[]) (j.trans F.os) (zp F.un (λb o z t h=>l b o (p b o z t h)) fm up) (F.hok.tracked λb u n z q=>l b n (p b n q (D b u z) (.inr ⟨u,z⟩))) (by rw[y];exact F.bare) λb i=>absurd i (by simp)
theorem Pb{suite:List Stmt}{te:TX}{th:TS}{p1 p2 np pos:Pos}(g:X.stack=X.env::X.outer/\X.env.frame=some X.env.locals)(w:X.N.Nodup)(t:X.N[i]?=some n)
 (l:X.env.scope.names.lookup n=some .local)(hg:Gl X x)(hm:X.mg x=some (.ref D))(qD:pV X.K D)(he:PX X e te)(hs:∀a,wU (ir X a) (c::suite) th)(L:swapsWith e none p1.line X.env=pure false:=by rfl)
 (hd:(x==("__debug__":Str))=false:=by decide):PS X (.Try [.Expr e p1] [.ExceptHandler (some (.Name x np)) (some n) (c::suite) p2] [] [] pos) (Zl X.K i D te th):=by
 intro b s m H W I h;refine wpAny_Try_except (wpAny_execs_cons (wpAny_Expr_any (eP (he b s m H _ _ I h) (λv o z=>?_) λev o z=>?_) I.quiet L))
 .obtain⟨y,H1,I1,r1,q1⟩:=z;exact oT (oT ⟨m,H1,I1,q1⟩)
 obtain⟨H1,s0,R,a,C,S,rfl,F,C',O,qC,p,q⟩:=z;cases O;obtain⟨B,a0,Q,kB⟩:=F.Vy;have fr:X.A.frames=some (X.env::X.outer):=by rw[I.ok.frames,g.1]
 have P:Heap.FlyingW B (X.env::X.outer) a (.ref C) a0 o.heap:=by rw[<-g.1];exact Q
 refine wpAny_looks_onW fr g.2 P λh4 y4 Z=>wpAny_landsW y4 λh5 E Y=>?_;have I5:Inv X b m S {o with heap:=h5}:=R.Vy F kB Q E.1 (Z.trans Y) rfl rfl;obtain⟨ob,M,Zm⟩:=E.there;refine wpAny_handleBy_cons (codeAny_handlers_test (gg (X:=ir X a) (I5.suite a) hg hm ?_ hd)) (by intro z;cases z);refine zx (K:=X.K) I5.kX qC qD M Zm p (codeAny_handlers_suite_as ?_);refine lands_againW E λh6 U u6=>?_;have I6:Inv X b m S {o with heap:=h6}:=R.Vy F kB Q U.1 ((Z.trans Y).trans u6) rfl rfl;obtain⟨oe,vs,g1,g2,g3,_⟩:=U.first
 have I7:Inv X b m (upd S a (Fc a C)) {o with heap:=h6}:=Inv.adopt R F.old I6 F.new ⟨oe,vs,g1,g2,g3⟩ ⟨oe,g1⟩ λh1 h2 z k=>by obtain⟨o1,v1,z1,z2,z3⟩:=z;exact⟨o1,v1,k _ z1,z2,z3⟩
 refine jb (X:=ir X a) (v:=.ref a) (I7.suite a) w t (.inl l) rfl (λs7 I8=>?_) (.inr l);refine eP (hs a b s7 _ _ _ I8 (q a F.new)) (λf s8 z=>?_) λ_ _ z=>D5 z;cases f with
 |next=>obtain⟨d,T,J,z⟩:=z;exact name_goes (J.oV I.ok) w t l λG j=>⟨_,_,j,z⟩
 |brk=>obtain⟨d,T,J,z⟩:=z;exact name_goes (J.oV I.ok) w t l λG j=>⟨_,_,j,z⟩
 |cont=>obtain⟨d,T,J,z⟩:=z;exact name_goes (J.oV I.ok) w t l λG j=>⟨_,_,j,z⟩
 |ret u=>obtain⟨v,d,T,J,r,z⟩:=z;exact name_goes (J.oV I.ok) w t l λG j=>⟨_,_,_,j,r,z⟩
section
variable{prog:Program}{w:World}{A:Around}{E:Value->Shared->Prop}{s:Shared}{K:Frag}{a C:Addr}
theorem jf(p:j4 a C h):PySem.W.Looks M h (typeOf (.ref a)) (.ref C):=by obtain⟨o,d,c,b,e⟩:=p;exact b▸(PySem.W.Looks.ld c).andThen .now
theorem JT(X:K.In s.heap)(p:j4 a C s.heap)(q:pV K C)(h:R (.ok (.ret (.ref C))) s):
 codeAny (model prog w) A (.call (.builtin "getset_descriptor.__get__") ⟨[.builtin "object.__class__",.ref a,c],[]⟩) R s:=by
 obtain⟨e,g,f,t,d⟩:=s;have j:=jf (M:=model prog w) p;have i:=sk (M:=model prog w) X q.ob;have b:=PySem.W.KF.slot_gs;refine codeAny_call_builtin b.plain PySem.W.KF.entry_gs (b.check _ _ _ _ _ _ _ _ PySem.W.KF.type_class (PySem.W.KF.args_gs _ _ _) ?_);unfold Builtin.«getset_descriptor.__get__»;unfold Builtin.Getset_descriptor.descrGet;rw[PySem.W.dga_obj];apply GE;apply L9;unfold Builtin.Getset_descriptor.descrGetter;unfold Builtin.Getset_descriptor.descrCheckInstance;unfold Builtin.Getset_descriptor.descrNameAndClass;unfold isInstance;simp only[PySem.W.KF.owner_class]
 repeat lk
 refine⟨Code.quiet_builtin _ (by decide+kernel),codeAny_builtin PySem.W.KF.entry_class ?_⟩;unfold Builtin.«object.__class__»;unfold shownTypeOf
 repeat lk
 exact h
theorem C3(X:K.In s.heap)(p:j4 a C s.heap)(q:pV K C)(h:Q (.done (.ret (.ref C))) s):
 wpAny (model prog w) A (Builtin.«object.__getattribute__» ⟨[.ref a,.str "__class__" b],[]⟩) Q E s:=by
 obtain⟨d,g,f,t,c⟩:=s;have j:=jf (M:=model prog w) p;have i:=rf (M:=model prog w) X q.cl;have e:(⟨d,g,f,t,c⟩:Shared).TypeIs (.builtin "object.__class__") "getset_descriptor":=F.typeOf_object_class;have m:=F.typeOf_object_class;have l:=F.slot_gs_get.lookup;have k:=F.slot_gs_set.lookup
 repeat (any_goals (first|assumption|with_reducible refine j.at ?_|with_reducible refine i.at ?_|wp_step))
 refine JT X p q ?_
 repeat (any_goals (first|assumption|wp_step))
theorem C4(X:K.In s.heap)(p:j4 a C s.heap)(q:pV K C)(h:Q () s):wpAny M A (checkBuiltinCall "BaseException.__getattribute__" ⟨[.ref a,b],[]⟩) Q E s:=by
 obtain⟨k,g,l,t,i⟩:=s;have f:=jf (M:=M) p;have e:=sk (M:=M) X q.bs;have d:builtinKind "BaseException.__getattribute__"=some .slot:=by decide+kernel
 have c:splitId "BaseException.__getattribute__"=some ("BaseException","__getattribute__"):=by decide+kernel
 have j:=F.args_bexc_ga (.ref a) b;simp only[checkBuiltinCall,d,c];apply GE;unfold isInstance
 repeat (first|with_reducible refine f.at ?_|with_reducible refine e.at ?_|wp_step)
 exact h
theorem Fd(X:K.In s.heap)(p:j4 a C s.heap)(q:pV K C)(h:R (.ok (.ret (.ref C))) s):
 codeAny (model prog w) A (.call (.builtin "BaseException.__getattribute__") ⟨[.ref a,.str "__class__" b],[]⟩) R s:=
 codeAny_call_builtin PySem.F.excAttr_ValueError.ga.plain F.entry_bexc_ga (C4 X p q (C3 X p q h))
theorem Pc(X:K.In s.heap)(p:j4 a C s.heap)(q:pV K C)(h:Q (.ref C) s):wpAny (model prog w) A (getAttrBy (.ref a) (.str "__class__" e) c b) Q E s:=by
 obtain⟨n,g,r,t,m⟩:=s;have j:=jf (M:=model prog w) p;have i:=rf (M:=model prog w) X q.ga;have f:=rf (M:=model prog w) X q.gt;have o:=PySem.F.excAttr_ValueError.ga.bind (.ref a);have l:(b&&onTheHeap (Value.builtin "BaseException.__getattribute__"))=false:=by
  cases b<;>rfl
 have d:(Value.builtin "BaseException.__getattribute__"==Value.builtin "object.__getattribute__")=false:=by decide+kernel
 have k:(onTheHeap (Value.ref C)&&Value.builtin "BaseException.__getattribute__"==Value.builtin "object.__getattribute__")=false:=by rw[d];rfl
 repeat (any_goals (first|assumption|with_reducible refine j.at ?_|with_reducible refine i.at ?_|with_reducible refine f.at ?_|wp_step))
 refine Fd X p q ?_
 repeat (any_goals (first|assumption|wp_step))
theorem C5(X:K.In s.heap)(p:j4 a C s.heap)(q:pV K C)(h:Q (some (.ref C)) {s with toks:=s.toks+1}):wpAny (model prog w) A (getAttr? (.ref a) "__class__") Q E s:=by obtain⟨c,g,d,t,b⟩:=s;unfold getAttr?;unfold getAttrBy?;refine GE (wpAny_mkText (GE (wpAny_attempt (Pc (s:=⟨c,g,d,t+1,b⟩) X p q ?_))));exact L9 h
theorem Fe(q:pV K C):PySem.W.KitX K (.ref a) (.ref C) (j4 a C)where
 ty:=λM h X p=>jf p
 it:=λM h X p=>by obtain⟨H,N,o,m,G,c,l,d,ab,g,F,y,x,v,u,t,r,f,_⟩:=oU X q.exc;intro P L O J k z;unfold isType;unfold loadHead;exact GE (wpAny_loadPart (k _ _ f) (L9 z))
 ne:=λh j F B n I X b=>by obtain⟨H,N,o,m,G,c,l,d,ab,g,D,y,x,v,u,t,r,f,_⟩:=oU X q.exc;refine Bool.eq_false_iff.mpr λz=>?_;have e:C=j:=Value.ref.inj (Kt.mp z);subst e;rw[f]at b;have i:=Q1 Obj.data (OK b);exact nomatch i
 ca:=λX p h=>C5 X p q h
end
inductive Pd:V->Value->Prop where
 |own (D:Addr):Pd (.ref D) (.ref D)
 |ty (n:String):Pd (.ty n) (.type n)
theorem pW:dD X (.builtin "isinstance") (λf H Q=>∃a C c d b,f=[.ref a,c]/\H a=some (Fc a C)/\pV X.K C/\Pd c d/\kitOne X.K (.ref C) d=some b/\Q (.bl b) H):=by
 intro i s u H f v Q I r h;obtain⟨a,C,c,d,b,rfl,o,q,m,e,z⟩:=h;obtain⟨k,j,rfl,l,g⟩:=vals2 r;cases(show k=Value.ref a from l);have t:j=d:=by
  cases m with
  |own D=>exact g
  |ty n=>exact g
 subst t;obtain⟨p,_,_⟩:=(show cJ X.prog X.w H s.heap a (.ext (j4 a C))from I.hok a _ o);exact UF (Fe q) I.kX p e (λz=>nomatch z) λx=>⟨.bl b,H,I.tok _,rfl,z⟩
noncomputable def m7(cells:List (Str×Addr)):List (Str×NameKind)->List (Str×Addr)->List (Str×Addr)
 |[],acc=>acc
 |(n,k)::r,acc=>m7 cells r (if k=.free then(n,(cells.lookup n).getD 0)::acc else acc)
theorem pX:∀(l:List (Str×NameKind))(a:List (Str×Addr)),(∀p∈l,p.2=.free->∃c,env.cells.lookup p.1=some c)->
 (forIn l a λ(x:Str×NameKind)(cs:List (Str×Addr))=>if(x.2==NameKind.free)=true then(do let c<-cellOf env x.1;pure (G2 ((x.1,c)::cs)))else(pure (G2 cs):Sem _))=pure (m7 env.cells l a)
 |[],a,_=>rfl
 |(n,k)::r,a,h=>by
  have ih:=λa=>pX (env:=env) r a λp g=>h p (FS _ g);rw[List.forIn_cons];by_cases b:k=.free
  .obtain⟨c,i⟩:=h (n,k) FK b;have d:env.cells.lookup n=some c:=i;have e:cellOf env n=pure c:=by unfold cellOf;rw[d]
   have f:(k==NameKind.free)=true:=by simp[b]
   simp only[f,wy,e,pure_bind,ih];simp only[m7,b,wy,d,Option.getD_some]
  .have f:(k==NameKind.free)=false:=by simpa using b
   simp only[f,Nr,y8,pure_bind,ih];simp only[m7,b,y8]
theorem pY(h:∀p∈a.names,p.2=.free->∃c,env.cells.lookup p.1=some c):closureFor a env=pure (m7 env.cells a.names []):=by have:=pX (env:=env) a.names [] h;unfold closureFor;simp only[bind_pure];exact this
theorem xB:∀(l:List (Str×NameKind))(a:List (Str×Addr)),(∀p∈l,p.2=.free->∃c,cells.lookup p.1=some c)->(∀y c,a.lookup y=some c->cells.lookup y=some c)->
 ∀y c,(m7 cells l a).lookup y=some c->cells.lookup y=some c
 |[],_,_,ha,y,c,h=>ha y c h
 |(n,k)::r,a,hl,ha,y,c,h=>by
  refine xB r _ (λp i=>hl p (FS _ i)) (λz d hz=>?_) y c h;by_cases b:k=.free
  .rw[Bi b,D1]at hz;obtain⟨m,g⟩:=hl (n,k) FK b;have f:cells.lookup n=some m:=g;split at hz
   .rename_i e
    have j:z=n:=by simpa using e
    subst j;rw[f]at hz⊢;exact hz
   .exact ha z d hz
  .rw[BM b]at hz;exact ha z d hz
theorem pZ:∀(l:List (Str×NameKind))(a:List (Str×Addr))(y:Str),((a.lookup y).isSome=true\/(y,NameKind.free)∈l)->((m7 cells l a).lookup y).isSome=true
 |[],_,_,h=>h.elim id λz=>nomatch z
 |(n,k)::r,a,y,h=>by
  refine pZ r _ y ?_;by_cases b:k=.free
  .rw[Bi b,D1];by_cases e:(y==n)=true
   .left;rw[e];rfl
   .rw[h7]at e;rw[e];rcases h with h|h
    .exact .inl h
    .rcases Hk.mp h with h|h
     .have:y=n:=Q1 EJ h;subst this;simp at e
     .exact .inr h
  .rw[BM b];rcases h with h|h
   .exact .inl h
   .rcases Hk.mp h with h|h
    .have:NameKind.free=k:=Q1 Prod.snd h;exact absurd this.symm b
    .exact .inr h
theorem ud:∀(l:List (Str×NameKind))(a:List (Str×Addr))(y:Str)(c:Addr),(m7 cells l a).lookup y=some c->(∃b,a.lookup y=some b)\/(y,NameKind.free)∈l
 |[],_,y,c,h=>.inl ⟨c,h⟩
 |(n,k)::r,a,y,c,h=>by
  rcases ud r _ y c h with⟨b,h'⟩|h'
  .by_cases d:k=.free
   .rw[Bi d,D1]at h';split at h'
    .rename_i e
     have f:y=n:=by simpa using e
     subst f;subst d;exact .inr FK
    .exact .inl ⟨b,h'⟩
   .rw[BM d]at h';exact .inl ⟨b,h'⟩
  .exact .inr (FS _ h')
theorem jg{env:Env}(d:env.scope.kind=.function):∀(l:List (Str×NameKind))(y:Str),
 (l.map λ(n,k)=>if(k==NameKind.free&&env.scope.kind==.function&&env.kindOf n==some .cell)then(n,NameKind.cell)else(n,k)).lookup y=(l.lookup y).map λk=>if(k==NameKind.free&&env.kindOf y==some .cell)=true then NameKind.cell else k
 |[],_=>rfl
 |(n,k)::r,y=>by
  have ih:=jg d r y;have b:(env.scope.kind==ScopeKind.function)=true:=by rw[d];rfl
  rw[UV,D1];by_cases e:(y==n)=true
  .have f:y=n:=by simpa using e
   subst f;by_cases c:(k==NameKind.free&&env.kindOf y==some .cell)=true
   .have a:(k==NameKind.free&&env.scope.kind==.function&&env.kindOf y==some .cell)=true:=by rw[b,h9];exact c
    simp only[a,wy,D1,ox,GI,c]
   .have a:¬(k==NameKind.free&&env.scope.kind==.function&&env.kindOf y==some .cell)=true:=by rw[b,h9];exact c
    rw[BM a];simp only[D1,ox,GI];rw[BM c]
  .rw[h7]at e;by_cases a:(k==NameKind.free&&env.scope.kind==.function&&env.kindOf n==some .cell)=true
   .simp only[a,wy,e,D1];exact ih
   .rw[h7]at a;simp only[a,Nr,y8,e,D1];exact ih
noncomputable def dP(sc c:Scope)(N a b:List Str):Bool:=
 sc.kind==.function&&b.all (λx=>sc.names.lookup x==some .local&&!a.contains x)&&
 sc.names.all (λp=>p.2 !=.cell&&(p.2 !=.local||sc.names.lookup p.1==some .local)&&(p.2 !=.free||(c.names.lookup p.1==some .cell&&sc.names.lookup p.1==some .free)))&&
 a.all (λy=>sc.names.lookup y !=some .local)&&(N.length==a.length&&(N.zip a).all (λp=>p.1==p.2||sc.names.lookup p.2==none))
structure gr(sc T8:Scope)(N N' xs:List Str):Prop where
 kind:sc.kind=.function
 own:∀x∈xs,sc.names.lookup x=some .local/\x∉N'
 zy:∀p∈sc.names,p.2≠.cell
 loc:∀p∈sc.names,p.2=.local->sc.names.lookup p.1=some .local
 free:∀p∈sc.names,p.2=.free->T8.names.lookup p.1=some .cell/\sc.names.lookup p.1=some .free
 out:∀y∈N',sc.names.lookup y≠some .local
 len:N.length=N'.length
 pair:∀(i:Nat)(y:Str),N'[i]?=some y->sc.names.lookup y≠none->N[i]?=some y
theorem gr.of(h:dP sc l N b d=true):gr sc l N b d:=by
 unfold dP at h;simp only[Bz,T1,si,bne_iff_ne,Kt,oP,ne_eq]at h;obtain⟨⟨⟨⟨s,k⟩,c⟩,r⟩,q,o⟩:=h;refine⟨s,λx g=>⟨(k x g).1,λz=>?_⟩,λp a=>(c p a).1.1,λp a e=>?_,λp a e=>?_,r,q,λi y f m=>?_⟩
 .have:=(k x g).2;rw[List.contains_eq_mem]at this;simp[z]at this
 .rcases(c p a).1.2 with z|z
  .exact absurd e z
  .exact z
 .rcases(c p a).2 with z|z
  .exact absurd e z
  .exact z
 .have t:i<b.length:=(Gc.mp f).1;have j:N[i]?=some (N[i]'(by lia)):=DL (by lia);have n:(N[i]'(by lia),y)∈N.zip b:=by refine SL (i:=i) ?_;rw[List.getElem?_zip_eq_some];exact⟨j,f⟩
  rcases o _ n with z|z
  .rw[j];exact Q1 some z
  .exact absurd z m
noncomputable def aT(X:Cx)(a:Scope)(C:Addr)(b d:List Str)(s:Shared)(H:Hp)(c:List Addr):Cx:=
 {X with N:=b++d,s₀:=s,H₀:=H,env:=compEnvC a (m7 X.env.cells a.names []) C X.env,outer:=X.stack,stack:=X.stack,ex:=c,fn:=λy=>b.contains y,pn:=[],xe:=λ_ _=>False}
section
variable{X:Cx}{pins:List (Addr×Obj)}{σ:St}{H:Hp}{s:Shared}{scope:Scope}{xs N':List Str}{fp:List Addr}
theorem kj(I:Inv X pins σ H s)(O:gr scope X.env.scope X.N N' xs):∀p∈scope.names,p.2=.free->∃c,X.env.cells.lookup p.1=some c:=λp a e=>I.ok.has p.1 (.inl (O.free p a e).1)
theorem gH(I:Inv X pins σ H s)(O:gr scope X.env.scope X.N N' xs)(y:Str):(relabel scope X.env).names.lookup y=(scope.names.lookup y).map λk=>if k=.free then NameKind.cell else k:=by
 unfold relabel;show(List.map _ scope.names).lookup y=_;rw[jg I.ok.kind];cases e:scope.names.lookup y with
 |none=>rfl
 |some k=>
  rw[GI,GI];by_cases a:k=.free
  .subst a;have:=(O.free (y,.free) (SZ e) rfl).1;have b:X.env.kindOf y=some .cell:=this;rw[b];rfl
  .rw[BM a,BM (by simp[a])]
theorem Ff(I:Inv X pins σ H s)(O:gr scope X.env.scope X.N N' xs)(B:∀b∈fp,pP X pins H b)(F:∀b∈fp,b<s.heap.objs.size)
 (hn:n.Ns s.heap.objs.size Q)(g:∀b o,s.heap.get? b=some o->n.get? b=some o):
 Inv (aT X scope s.heap.objs.size xs N' s H fp) [] (xs.map (λ_=>none)++σ) H {s with heap:=n,toks:=T}:=by
 have f:=xB (cells:=X.env.cells) scope.names [] (kj I O) (λy c z=>nomatch z);refine⟨⟨I.ok.mod,?_,I.ok.glob,I.ok.blt,Ee _,λx y c n J=>I.ok.inj x y c (f x c n) (f y c J),λy D=>?_,λy c n J=>?_,I.ok.hd,I.ok.frames,.inl rfl,λb j=>⟨SC (F b j),λx c e=>(B b j).2.2.2.2.1 x c (f x c e)⟩,
  I.bs,Do I.ok.Je I.sz,λb o e j=>?_,λb j z=>?_,I.stack,I.jG,I.ok.tree,I.ok.UR⟩,rfl,I.bare,Un.kept g,⟨Q,hn,λi y v e1 h e3=>?_⟩,λy c e=>?_,I.hok.fresh (Ee _),λy c e=>I.gf y c (f y c e),λp Y=>absurd (show p∈([]:List (Addr×Obj))from Y) (by simp),I.hok.kept g,?_⟩
 .show scope.kind=_;exact O.kind
 .have d:(relabel scope X.env).names.lookup y=some .cell\/(relabel scope X.env).names.lookup y=some .free:=D;rw[gH I O]at d;have a:scope.names.lookup y=some .free:=by
   cases e:scope.names.lookup y with
   |none=>rw[e]at d;rcases d with z|z<;>cases z
   |some k=>
    rw[e]at d;by_cases g:k=.free
    .rw[g]
    .rw[GI,BM g]at d;rcases d with z|z
     .have:k=.cell:=OK z;exact absurd this (O.zy (y,k) (SZ e))
     .exact absurd (OK z) g
  exact X1.mp (pZ scope.names [] y (.inr (SZ a)))
 .have G:(m7 X.env.cells scope.names []).lookup y=some c:=J;have D:y∈xs:=by have K:xs.contains y=true:=n;simpa using K
  rcases ud scope.names [] y c G with⟨_,z⟩|z
  .cases z
  .have P:=(O.free (y,.free) z rfl).2;rw[(O.own y D).1]at P;cases P
 .have S:X.base.get? b=some o:=e;rcases(B b j).2.2.2.1 with z|z
  .exact I.ok.CH b o S z
  .exact absurd (Fu (KB S) (Do I.ok.Je z)) (TC _)
 .rcases Hk.mp (I.yM b z)with q|q
  .exact(B b j).2.1 q
  .exact(B b j).2.2.1 q
 .have M:(xs++N')[i]?=some y:=e1;by_cases R:i<xs.length
  .rw[PP (by simpa using R),FC]at h;cases q:xs[i]? with
   |none=>rw[q]at h;cases h
   |some z=>rw[q]at h;cases h
  .rw[NA (by simpa using R)]at h;rw[NA (by lia)]at M;rw[Ap]at h;have C:y∈N':=SL M;have t:UQ (relabel scope X.env) y:=e3;unfold UQ at t;rw[gH I O]at t;have a:scope.names.lookup y=some .free:=by
    cases e:scope.names.lookup y with
    |none=>rw[e]at t;rcases t with z|z|z<;>cases z
    |some k=>
     rw[e]at t;by_cases g:k=.free
     .rw[g]
     .rw[GI,BM g]at t;rcases t with z|z|z
      .have:k=.local:=OK z;subst this;exact absurd e (O.out y C)
      .have:k=.cell:=OK z;exact absurd this (O.zy (y,k) (SZ e))
      .exact absurd (OK z) g
   have A:=(O.free (y,.free) (SZ a) rfl).1;obtain⟨m,Z,hl⟩:=I.loc;have L:=O.pair _ y M (by rw[a];simp);obtain⟨u,r,l⟩:=hl _ y v L h (.inr (.inl A));refine⟨u,r,?_⟩;rcases l with⟨U,_⟩|⟨_,c,hc,o,E,hd⟩
   .have:X.env.scope.names.lookup y=some .local:=U;rw[A]at this;cases this
   .refine .inr ⟨.inl ?_,c,?_,o,g c o E,hd⟩
    .show(relabel scope X.env).names.lookup y=_;rw[gH I O,a];rfl
    .obtain⟨c',w⟩:=X1.mp (pZ (cells:=X.env.cells) scope.names [] y (.inr (SZ a)));have q:=f y c' w;rw[hc]at q;show(m7 X.env.cells scope.names []).lookup y=some c;rw[w,<-OK q]
 .obtain⟨v,o,E,hd⟩:=I.cell y c (f y c e);exact⟨v,o,g c o E,hd⟩
 .show(xs.map (λ_=>none)++σ).length=(xs++N').length;rw[KM,KM,Ap,I.len,O.len]
end
def PF(X:Cx)(d:List Expr)(t:TT):Prop:=
 ∀(a:List (Addr×Obj))(s:Shared)(b:St)(H:Hp)(Q:Bool->Hp->Prop),Inv X a b H s->t b H Q->
  wpAny (model X.prog X.w) X.A (forIn d true λc r=>if r=true then do let ok<-isTrue c X.env (eval c X.env);pure (G2 ok)else pure (G2 r)) (TP X a b Q) X.xe s
def Zn:TT:=λ_ H Q=>Q true H
theorem Pf:PF X [] Zn:=λ_ _ _ H _ I h=>wpAny_tests_nil ⟨H,I,h⟩
theorem Pg(h:PT X c t):PF X [c] t:=λa s b H Q I q=>wpAny_tests_one (h a s b H Q I q)
def Fg(k:Nat)(q:TI)(g:TG)(tc:TT)(te:TE):TE:=λe H Q=>q e H λJ p=>∀D,p D=none->∃W:Nat->Nat->Hp->Prop,(∃m,W 0 m (upd p D (.lst [])))/\∀i m d,W i m d->
 (J.stop i d/\Q (.ref D) d)\/(J.go i d/\∀x o,J.U4 i d x o->∀j:List (Option V),j.length=k->g x (j++e) o λa r=>∃h:List (Option V),h.length=k/\a=h++e/\
   tc a r λb n=>if b=true then te a n λy l=>∃f,l D=some (.lst f)/\f.length<sizeLine/\∃c,c<m/\W (i+1) c (upd l D (.lst (f++[y])))else∃c,c<m/\W (i+1) c n)
theorem uU(I:Nat->Shared->Prop)
 (z:∀n s,I n s->wpAny (model prog w) A (pyNext E) (λr e=>match r with
   |none=>R (.ok .next) e
   |some v=>wpAny (model prog w) A (letOwnedTupleGo a E v) (λ_ d=>wpAny (model prog w) A (assign a env v) (λ_ k=>
     wpAny (model prog w) A (forIn q true λc r=>if r=true then do let ok<-isTrue c env (eval c env);pure (G2 ok)else pure (G2 r)) (λok b=>
      if ok=true then wpAny (model prog w) A (eval u env) (λx j=>wpAny (model prog w) A (call (.builtin "list.append") [y,x]) (λ_ i=>∃m,m<n/\I m i) (λ_ _=>False) j) (λ_ _=>False) b
      else∃m,m<n/\I m b) (λ_ _=>False) k) (λ_ _=>False) d) (λ_ _=>False) e) (λ_ _=>False) s)
 (n:Nat)(h:I n s):
 codeAny (model prog w) A (.compLoop (.ListComp u [⟨a,l,q,0⟩] f pos) 0 E y env) R s:=by
 refine codeAny_loop rfl I (λn s F=>?_) n h;show wpAny _ A ((compTurn (.ListComp u [⟨a,l,q,0⟩] f pos) 0 E y env).onRaise (λx=>do noteFrame x env;theTreesLotGoes x)) _ _ s;refine wpAny_noted ?_;rw[compTurn_list];refine GE (wpAny_standAt (GE (eP (z n s F) (λr e p=>?_) λ_ _ g=>g.elim)));cases r with
 |none=>exact L9 p
 |some v=>
  refine GE (eP p (λ_ d t=>?_) λ_ _ g=>g.elim);refine GE (eP t (λ_ k D=>GE (eP D (λok b o=>?_) λ_ _ g=>g.elim)) λ_ _ g=>g.elim);cases ok with
  |false=>exact L9 ⟨rfl,o⟩
  |true=>exact GE (GE (eP o (λx j C=>GE (eP C (λ_ i B=>L9 (L9 ⟨rfl,B⟩)) λ_ _ g=>g.elim)) λ_ _ g=>g.elim))
section
variable{X:Cx}
theorem p6{tc:TT}{te:TE}(hc:X.calm=true)(O:gr scope X.env.scope X.N H t)
 (hg:∀C s0 H0 l,PG (aT X scope C t H s0 H0 l) tg g)(hf:∀C s0 H0 l,PF (aT X scope C t H s0 H0 l) U tc)(he:∀C s0 H0 l,PE (aT X scope C t H s0 H0 l) Z te)
 {v:List (Addr×Obj)}{B:St}{H1:Hp}{f:Shared}{it:Addr}{l:List Addr}{tn:Nat->Heap->Prop}{J:It}{Q:VK}{E:Value->Shared->Prop}{RR:Value->Addr->Result->Shared->Prop}
 (I2:Inv X v B H1 f)(T:Turn X.prog X.w X.K tg J l it tn)(st2:tn 0 f.heap)(f2:∀b∈l,pP X v H1 b)
 (h:∀D,H1 D=none->∃W:Nat->Nat->Hp->Prop,(∃m,W 0 m (upd H1 D (.lst [])))/\∀i m H2,W i m H2->
   (J.stop i H2/\Q (.ref D) H2)\/(J.go i H2/\∀x H3,J.U4 i H2 x H3->∀F:List (Option V),F.length=t.length->g x (F++B) H3 λS H4=>∃L:List (Option V),L.length=t.length/\S=L++B/\
     tc S H4 λb I=>if b=true then te S I λy H6=>∃ys,H6 D=some (.lst ys)/\ys.length<sizeLine/\∃G,G<m/\W (i+1) G (upd H6 D (.lst (ys++[y])))else∃G,G<m/\W (i+1) G I))
 (hRR:∀D C s' H',(∃m,s'.heap.Ns C m)->(∀h',Heap.SameBut C s'.heap h'->Inv X v B H' {s' with heap:=h'})->f.heap.objs.size<=D->f.heap.objs.size<=C->H' C=none->Q (.ref D) H'->RR (.ref D) C (.ok .next) s'):
 wpAny (model X.prog X.w) X.A (newList []) (λacc s₃=>wpAny (model X.prog X.w) X.A (newFunctionEnv scope X.env.globals (m7 X.env.cells scope.names []) [] X.env.qual none .none (some X.env)) (λR s₄=>codeAny (model X.prog X.w) X.A (.compStart (.ListComp Z [⟨tg,P,U,0⟩] scope pos) 0 (.ref it) acc {R with scope:=relabel scope X.env}) (RR acc R.locals) s₄) E s₃) E f:=by
 refine kS (wpAny_newFunctionEnv O.zy (by intro y hy;simp at hy) (λs Fi Fj=>?_) O.kind);dsimp only at Fi Fj⊢;have hD:H1 f.heap.objs.size=none:=I2.hok.fresh (Ee _);obtain⟨W,⟨m0,w0⟩,turn⟩:=h f.heap.objs.size hD;have I3:Inv X v B (upd H1 f.heap.objs.size (.lst [])) {f with heap:=f.heap.push {cls:=.type "list",dict:=none,data:=.seq ([]:List Value).toArray}}:=
  I2.laid (t':=f.toks) (λb u e=>GT _ e) (Ee _) ⟨PQ _,[],0,.nil,QP _ rfl⟩
 have Zo:∀b∈l,b<f.heap.objs.size:=λb j=>by obtain⟨o,e,_⟩:=T.obj _ _ st2 b j;exact KB e
 have f3:∀b∈l,pP X v (upd H1 f.heap.objs.size (.lst [])) b:=λb j=>by obtain⟨q0,q⟩:=f2 b j;exact⟨by rw[ao (SC (Zo b j))];exact q0,q⟩
 generalize T9:({f with heap:=f.heap.push {cls:=.type "list",dict:=none,data:=.seq ([]:List Value).toArray}}:Shared)=k at I3;have ue:k.heap=f.heap.push {cls:=.type "list",dict:=none,data:=.seq ([]:List Value).toArray}:=by rw[<-T9]
 have Y:k.heap.objs.size=f.heap.objs.size+1:=by rw[ue,Heap.size_push]
 have old:∀b o,k.heap.get? b=some o->s.get? b=some o:=λb o e=>Fj.extBut b o (by rw[<-ue];exact SC (KB e)) (GT _ (by rw[<-ue];exact e));have J4:Inv (aT X scope k.heap.objs.size t H k (upd H1 f.heap.objs.size (.lst [])) l) [] (t.map (λ_=>none)++B) (upd H1 f.heap.objs.size (.lst [])) {k with heap:=s,toks:=f.toks+([]:List (Str×Value)).length}:=
  Ff I3 O f3 (λb j=>by rw[Y];exact dt (Zo b j)) (by rw[ue];exact Fi) old
 have es4:({k with heap:=s,toks:=f.toks+([]:List (Str×Value)).length}:Shared)={f with heap:=s,toks:=f.toks+([]:List (Str×Value)).length}:=by rw[<-T9]
 rw[es4]at J4;have st4:tn 0 s:=T.keep _ _ _ st2 λb j o e=>old b o (by rw[ue];exact GT _ e);have hC:(f.heap.push {cls:=.type "list",dict:=none,data:=.seq ([]:List Value).toArray}).objs.size=k.heap.objs.size:=by rw[ue]
 have Zp:∀{H':Hp},(∀b∈l,H' b=none)->∀b∈l,pP (aT X scope k.heap.objs.size t H k (upd H1 f.heap.objs.size (.lst [])) l) [] H' b:=λhn b j=>⟨hn b j,SC (by rw[Y];exact dt (Zo b j)),J4.ok.CI b j,.inl j,λx c e=>((J4.ok.X3 b j).2 x c e),λp hp=>absurd (show p∈([]:List (Addr×Obj))from hp) (by simp)⟩;have M:codeAny (model X.prog X.w) X.A (.compLoop (.ListComp Z [⟨tg,P,U,0⟩] scope pos) 0 (.ref it) (.ref f.heap.objs.size) (compEnvC scope (m7 X.env.cells scope.names []) k.heap.objs.size X.env))
  (RR (.ref f.heap.objs.size) k.heap.objs.size) {f with heap:=s,toks:=f.toks+([]:List (Str×Value)).length}:=by
  refine uU (λn s'=>∃(i:Nat)(F:List (Option V))(H':Hp),F.length=t.length/\Inv (aT X scope k.heap.objs.size t H k (upd H1 f.heap.objs.size (.lst [])) l) [] (F++B) H' s'/\tn i s'.heap/\(∀b∈l,H' b=none)/\W i n H') ?_ m0
   ⟨0,t.map (λ_=>none),_,Ap _,J4,st4,λb j=>(f3 b j).1,w0⟩
  rintro n s5 ⟨i,F,I,hv0,I5,T7,X7,w5⟩;rcases turn i n I w5 with⟨stop,qn⟩|⟨go,step⟩
  .refine cg (T.done (aT X scope k.heap.objs.size t H k (upd H1 f.heap.objs.size (.lst [])) l) rfl rfl rfl hc i [] s5 (F++B) I _ I5 (Zp X7) T7 stop) ?_;rintro r s6 ⟨hr,I6⟩;subst hr;obtain⟨m,hnm,_⟩:=I6.loc;refine hRR _ _ s6 I ⟨m,hnm⟩ (λh' Nu=>?_) (Ee _) (by rw[Y];exact va _) I6.free qn;have Zq:∀b o,k.heap.get? b=some o->b≠k.heap.objs.size:=λb o e=>SC (KB e);have u:=I6.base;have I3':=I3.EA (s':={s6 with heap:=h'}) (H':=I) (ch:=l) I6.os ⟨λb o e n j hx=>Nu.extBut b _ (Zq b o e) (u.keep b o e n j hx),λb o e n j hx=>by
    obtain⟨sl,q⟩:=u.slot b o e n j hx;exact⟨sl,Nu.extBut b _ (Zq b o e) q⟩,u.free,λb o e hx=>by
    obtain⟨o',q⟩:=u.there b o e hx;exact⟨o',Nu.extBut b _ (Zq b o e) q⟩,u.tups,u.kg,u.kW⟩ (λa o e=>?_) I6.bare (λb j=>?_)
   .exact I3'
   .have hnC:∀b u,I b=some u->b≠k.heap.objs.size:=λb u e z=>by subst z;have:=I6.free;have e2:I k.heap.objs.size=none:=this;rw[e2]at e;cases e
    refine(I6.hok a o e).stay (λb u j q=>Nu.extBut b u ?_ q) (λ_ q=>q) λ_ _ q=>q;rcases j with rfl|j
    .exact hnC _ _ e
    .exact hnC _ _ j
   .obtain⟨q0,q1,q2,q3,q4,q5⟩:=f3 b j;exact⟨q3,q1,q4,q5⟩
  .refine cg (T.item (aT X scope k.heap.objs.size t H k (upd H1 f.heap.objs.size (.lst [])) l) rfl rfl rfl hc i [] s5 (F++B) I _ I5 (Zp X7) T7 go) ?_;rintro r s6 ⟨u,hr,h6⟩;subst hr;refine cg h6 ?_;rintro _ s7 ⟨x,H7,I7,r7,y7,Zr,fr7⟩;have I7':=I7.pinned (Zp fr7) (T.obj _ _ Zr);refine cg (hg _ _ _ _ _ s7 (F++B) H7 x u _ I7' r7 (step x H7 y7 F hv0)) ?_;rintro _ s8 ⟨σ8,H8,I8,L,hv1,e8,q8⟩;subst e8;have fin:∀{s9:Shared}{H9:Hp},Inv (aT X scope k.heap.objs.size t H k (upd H1 f.heap.objs.size (.lst [])) l) ([]++pQ l s7.heap) (L++B) H9 s9->(∃G,G<n/\W (i+1) G H9)->
    ∃m,m<n/\∃(i:Nat)(F:List (Option V))(H':Hp),F.length=t.length/\Inv (aT X scope k.heap.objs.size t H k (upd H1 f.heap.objs.size (.lst [])) l) [] (F++B) H' s9/\tn i s9.heap/\(∀b∈l,H' b=none)/\W i m H':=λ{s9 H9} I9 ⟨G,hm,w9⟩=>by
    refine⟨G,hm,i+1,L,H9,hv1,I9.kZ,T.keep _ _ _ Zr λb j o e=>(I9.pin (b,o) (Mo _ (Mo _ (g9 j e)))).1,λb j=>?_,w9⟩;obtain⟨o,e,d⟩:=T.obj _ _ Zr b j;exact(I9.pin (b,o) (Mo _ (Mo _ (g9 j e)))).2.1
   refine cg (hf _ _ _ _ _ s8 (L++B) H8 _ I8 q8) ?_;rintro ok s9 ⟨H9,I9,q9⟩;cases ok with
   |false=>exact fin I9 q9
   |true=>show wpAny _ _ _ _ _ _;refine cg (he _ _ _ _ _ s9 (L++B) H9 _ I9 q9) ?_;rintro y s10 ⟨vy,H10,I10,r10,ys,hys,hl,q10⟩;refine cg (t9 (X:=aT X scope k.heap.objs.size t H k (upd H1 f.heap.objs.size (.lst [])) l) _ s10 (L++B) H10 (.ref f.heap.objs.size) [vy] _ [y] (λ_ H'=>∃G,G<n/\W (i+1) G H') I10 rfl (.cons r10 .nil) ⟨_,ys,vy,rfl,rfl,hys,hl,q10⟩) ?_;rintro _ s11 ⟨_,H11,I11,_,q11⟩;exact fin I11 q11
 rw[hC];exact codeAny_compStart_list M (T.self X.A 0 _ _ _ st4 M)
theorem JV(d l:List Str)(L:X.calm=true)(y:dP scope X.env.scope X.N l d=true)(E:PI X tg a r)
 (F:∀C f k c,PG (aT X scope C d l f k c) tg g)(G:∀C f k c,PF (aT X scope C d l f k c) i tc)(K:∀C f k c,PE (aT X scope C d l f k c) j te)
 (u:∀z,foldedSetIterable a X.env z=pure z:=by intro _;rfl):PE X (.ListComp j [⟨tg,a,i,0⟩] scope pos) (Fg d.length r g tc te):=by
 intro b s p H Q I h;have O:=gr.of y;rw[eval_ListComp];refine wpAny_comprehension_free (use:=none) rfl u (pY (kj I O)) O.kind O.loc (cg (E b s p H _ I h) λv s1 R=>cg R λt s2 P=>?_);obtain⟨it,c,tn,J,H2,e,Z,T,n,U,x⟩:=P;subst e;refine p6 (RR:=λo C=>compPost (model X.prog X.w) X.A X.xe none (EP X b p Q) o C) L O F G K Z T n U x ?_;rintro D C s' H' ⟨m,B⟩ M _ _ _ q;exact⟨m,B,λS Y=>⟨.ref D,H',M S Y,rfl,q⟩⟩
theorem JW{d pos t:Pos}(F P:List Str){wi:TI}{g:TG}{tc:TT}{te:TE}(hN:X.N.Nodup)(hi:X.N[i]?=some x)(B:Loc X.env.scope x)(hc:X.calm=true)(ho:dP scope X.env.scope X.N P F=true)(VD:PI X tg f wi)
 (hg:∀C K M G,PG (aT X scope C F P K M G) tg g)(hf:∀C K M G,PF (aT X scope C F P K M G) k tc)(he:∀C K M G,PE (aT X scope C F P K M G) r te)
 (Z:swapsWith (.ListComp r [⟨tg,f,k,0⟩] scope pos) (some (.Name x d)) t.line X.env=pure true:=by rfl)
 (hs:∀z,foldedSetIterable f X.env z=pure z:=by intro _;rfl)(hfn:X.fn x=true\/X.env.scope.names.lookup x=some .local:=by first|exact .inl rfl|exact .inr rfl|assumption):
 PS X (.Assign [.Name x d] (.ListComp r [⟨tg,f,k,0⟩] scope pos) t) (pO (Fg F.length wi g tc te) (iU i)):=by
 intro j s R H W I h;have O:=gr.of ho;rw[exec_Assign_Name_used _ _ _ _ Z];refine GE (wpAny_standAt (GE ?_));show wpAny _ X.A (do let _<-comprehension (.ListComp r [⟨tg,f,k,0⟩] scope pos) scope X.env _ (newList []) false (eval f X.env) (some (assign (.Name x d) X.env))) _ _ s;refine GE (eP (wpAny_comprehension_free (use:=some (assign (.Name x d) X.env)) (Q:=λ_ s'=>SP X j W .next s') rfl hs (pY (kj I O)) O.kind O.loc (cg (VD j s R H _ I h) λv s1 h1=>cg h1 λitv s2 h2=>?_)) (λ_ s' hq=>L9 (L9 hq)) λ_ _ e=>e);obtain⟨it,G,tn,J,H2,e,L,T,S,f2,hq⟩:=h2;subst e;refine p6 (Q:=λx H1=>iU i x R H1 W.nx) (RR:=λacc C=>compPost (model X.prog X.w) X.A X.xe (some (assign (.Name x d) X.env)) (λ_ s'=>SP X j W .next s') acc C) hc O hg hf he L T S f2 hq ?_;rintro D C s' H' ⟨m,hm⟩ hI _ hC fC q;have I':Inv X j R H' s':=hI s'.heap ⟨rfl,λ_ _=>rfl⟩;have Y:∀b o,s2.heap.get? b=some o->b≠C:=λb o e=>SC (Fu (KB e) hC);have nL:C≠X.env.locals:=λe=>by obtain⟨m2,hn2,_⟩:=L.loc;obtain⟨o,_,_,ho2,_⟩:=hn2;exact Y _ o ho2 e.symm
 have nC:∀y c,X.env.cells.lookup y=some c->c≠C:=λy c e z=>by obtain⟨v,o,e1,_⟩:=L.cell y c e;exact Y _ o e1 z
 have nP:∀p∈X.pn++j,p.1≠C:=λp hp z=>Y _ _ (L.pin p hp).1 z;show wpAny _ X.A (assign (.Name x d) X.env (.ref D)) _ _ _;refine wpAny_assign_Name (tT I' hN hi B (v:=.ref D) rfl (λU Zs hsm=>?_) hfn);obtain⟨a,Nu,ha⟩:=hsm;have aC:a≠C:=by
  rcases ha with rfl|ha
  .exact dk nL
  .exact nC x a ha
 refine⟨m,hm.sameBut Nu (dk aC),λh' l=>⟨_,H',?_,q⟩⟩;refine Zs.EA (s':={U with heap:=h'}) (H':=H') (ch:=[C]) rfl ⟨λb o e n E B=>l.extBut b o (λz=>B (by rw[z];exact FR.mpr rfl)) e,λb o e n E B=>⟨o.slots,l.extBut b o (λz=>B (by rw[z];exact FR.mpr rfl)) e⟩,λb o e n B=>n,λb o e B=>⟨o,l.extBut b o (λz=>B (by rw[z];exact FR.mpr rfl)) e⟩,λb F q=>q,λb o u q=>q,λb ps q=>⟨#[],by rw[Array.append_empty];exact q⟩⟩ (λa o e=>?_) Zs.bare (λb E=>?_)
 .refine(Zs.hok a o e).stay (λb u E q=>l.extBut b u ?_ q) (λ_ q=>q) λ_ _ q=>q;rintro rfl;rcases E with rfl|E
  .rw[fC]at e;cases e
  .rw[fC]at E;cases E
 .rw[FR.mp E];exact⟨.inr (Do L.sz hC),nL,λy c e z=>nC y c e z,nP⟩
theorem JX:Za X "int.bit_length" (λx b H Q=>∃i:Int,x=.int i/\b=[]/\Q (.int (Builtin.Int.intBits i:Nat)) H):=by intro a s c H x b v e Q I d rv h;obtain⟨i,rfl,rfl,q⟩:=h;obtain⟨t,rfl⟩:=d;cases rv;exact call_gives F.slot_int_bit_length (typeIs_int s i t) F.entry_int_bit_length (F.args_int_bit_length_1 _) (PySem.AutoIntG2.int_bit_length_int_0 i t) (show EP X a c Q (.int _ _) _ from⟨.int _,H,I.tok _,⟨_,rfl⟩,q⟩)
noncomputable def Yb(a st:Int)(n:Nat):It:=⟨λi _=>i<n,λi H x b=>b=H/\x=.int (a+i*st),λi _=>n<=i⟩
theorem xC{K:Frag}(c:Addr)(g st:Int)(n:Nat):Turn P w K tg (Yb g st n) [c] c (λi h=>IsRangeIter h c (g+(i:Nat)*st) ((n:Int) -(i:Nat)) st)where
 mem:=by simp
 obj:=λi h st b d=>by
  have e:b=c:=by simpa using d
  subst e;exact⟨_,st,λv z=>by have J:Data.fields _=Data.cell v:=z;cases J⟩
 keep:=λi h l st k=>k c (by simp) _ st
 item:=by intro X r m u q i a s F H E I j D p;subst r m u;obtain⟨C,B,N,A,y,x⟩:=j c (by simp);have W:=Walks.range (prog:=X.prog) (w:=X.w) (I.ok.hd q) c g st n;refine W.item i s _ _ p D λv l G M f L=>?_;obtain⟨t,rfl⟩:=M;have I1:Inv X a F H {s with heap:=l,toks:=G}:=I.turned (λb o d e=>L b o (by simpa using d) e) C B A y x;exact⟨_,rfl,xg (s:={s with heap:=l,toks:=G}) (n:="range_iterator") f rfl rfl (by decide) ⟨.int (g+i*st),H,I1,⟨t,rfl⟩,⟨rfl,rfl⟩,f,λb d=>(j b d).1⟩⟩
 done:=by intro X r m u q i a s F H E I j D p;subst r m u;obtain⟨C,B,N,A,y,x⟩:=j c (by simp);exact wpAny_pyNext_range_end (I.ok.hd q) D (by have:n<=i:=p;lia) λl O=>⟨rfl,I.turned (t':=s.toks) (λb o d e=>O b o d e) C B A y x⟩
 self:=λ_ _ _ _ _ st h=>wpAny_pyIter_rangeiter st h
theorem C6{f:St}{E:Value->Shared->Prop}{a d st:Int}{n:Nat}{t u v:Tok}{g:Nat}(I:Inv X c f H s)(h:Builtin.Range.small a d st=true)(i:Builtin.Range.rangeSize a d st=(n:Int))
 (q:R (Yb a st n) H):wpAny (model X.prog X.w) X.A (pyIter (.ref s.heap.objs.size)) (YV X c f tg R) E {s with heap:=s.heap.push {cls:=.type "range",data:=.fields #[.int a t,.int d u,.int st v]},toks:=g}:=by
 refine wpAny_pyIter_range (IsRange.new ..) h ?_;have I1:Inv X c f H {s with heap:=s.heap.push {cls:=.type "range",data:=.fields #[.int a t,.int d u,.int st v]},toks:=g}:=I.kept λb o e=>GT _ e;refine⟨(s.heap.push {cls:=.type "range",data:=.fields #[.int a t,.int d u,.int st v]}).objs.size,[(s.heap.push {cls:=.type "range",data:=.fields #[.int a t,.int d u,.int st v]}).objs.size],_,_,H,rfl,
  I1.kept (t':=g) λb o e=>GT _ e,xC _ a st n,?_,λb j=>?_,q⟩
 .have l:a+((0:Nat):Int)*st=a:=by simp
  have k:(n:Int) -((0:Nat):Int)=Builtin.Range.rangeSize a d st:=by rw[i];simp
  show IsRangeIter _ _ (a+((0:Nat):Int)*st) ((n:Int) -((0:Nat):Int)) st;rw[l,k];exact QP _ rfl
 .have e:b=(s.heap.push {cls:=.type "range",data:=.fields #[.int a t,.int d u,.int st v]}).objs.size:=by simpa using j
  subst e;exact I1.yP (Ee _) (I1.hok.fresh (Ee _))
def VF(ta:TA):TI:=λa H R=>ta a H λb c=>∃(i j k:Int)(n:Nat),b=[.int i,.int j,.int k]/\(k≠0/\k.natAbs<1073741824/\Builtin.Range.small i j k=true/\Builtin.Range.rangeSize i j k=(n:Int))/\R (Yb i k n) c
theorem C7{tg a b c:Expr}{p pos:Pos}(C:Gl X "range")(B:X.mg "range"=none)(D:PA X [a,b,c] ta)(A:starEach [a,b,c] X.env=[(false,eval a X.env),(false,eval b X.env),(false,eval c X.env)]:=by rfl)(g:starEach [b,c] X.env=[(false,eval b X.env),(false,eval c X.env)]:=by rfl):
 PI X tg (.Call (.Name "range" p) [a,b,c] [] pos) (VF ta):=by
 intro f s o H R I h;refine Call_ (jc I C B boot_range (ag (cg (D pos f s o H _ I h) λF J ⟨E,K,I1,v,m⟩=>?_) (by rw[A,g]) (by rw[g];rfl)));obtain⟨i,j,k,n,e,⟨m,z,y,x⟩,q⟩:=m;subst e;cases v with
 |cons r d=>
  cases d with
  |cons w d=>
   cases d with
   |cons l d=>
    cases d;obtain⟨t,rfl⟩:=r;obtain⟨G,rfl⟩:=w;obtain⟨u,rfl⟩:=l;exact call_range_3 m (C6 I1 y x q) (.inl (YH z))
end
end L2
namespace L2
open PySem
end L2
namespace L2
open PySem PySem.Spec PyProof.Rows
def Dt(X:Cx)(H:Hp)(x:V)(d:PyData):Prop:=
 ∀(a:List (Addr×Obj))(b:St)(s:Shared)(u:Value),Inv X a b H s->RelV x u->∃c,Reads s.heap u d c
section
variable{X:Cx}{H:Hp}
theorem Ph(i:Int):Dt X H (.int i) (.int i):=λ_ _ s u _ r=>by obtain⟨t,rfl⟩:=r;exact⟨_,.int i t⟩
theorem VG(b:Bool):Dt X H (.bl b) (.bool b):=λ_ _ s u _ r=>by
 cases(show u=Value.bool b from r);exact⟨_,.bool b⟩
theorem Pj:Dt X H .bV .none:=λ_ _ s u _ r=>by
 cases(show u=Value.none from r);exact⟨_,.none⟩
theorem zA{d:St}(I:Inv X a d H s):∀{b:List V}{ds:List PyData}{us:List Value},Paired (Dt X H) b ds->Vals b us->∃c,ReadsAll s.heap us ds c
 |_,_,_,.nil,.nil=>⟨_,.nil⟩
 |_,_,_,.cons h t,.cons r e=>by obtain⟨c,q⟩:=h _ _ _ _ I r;obtain⟨g,f⟩:=zA I t e;exact⟨_,.cons q f⟩
theorem Fl(h:jU X.K H a c)(b:Paired (Dt X H) c ds):Dt X H (.ref a) (.list ds):=λ_ _ s u I r=>by
 cases(show u=Value.ref a from r);obtain⟨e,rv,d,_⟩:=I.list h;obtain⟨j,q⟩:=zA I b rv;obtain⟨o,f,i,n,g⟩:=d.isList;exact⟨_,.list f i g (by simpa using q)⟩
theorem Pk(h:mY X.K H a c)(b:Paired (Dt X H) c ds):Dt X H (.ref a) (.tuple ds):=λ_ _ s u I r=>by
 cases(show u=Value.ref a from r);obtain⟨d,rv,e,_⟩:=I.tuple h;obtain⟨j,q⟩:=zA I b rv;obtain⟨o,f,i,n,g⟩:=e;exact⟨_,.tuple f i g (by simpa using q)⟩
def Zu(X:Cx):R2:=λx y H Q=>∃b a,Dt X H x b/\Dt X H y a/\(SeqAt.shaped b=true/\SeqAt.shaped a=true/\SeqAt.noMix b a=true)/\Q (.bl (PySem.Spec.same b a)) H
def Zv(X:Cx):R2:=λx y H Q=>∃b a,Dt X H x b/\Dt X H y a/\(SeqAt.shaped b=true/\SeqAt.shaped a=true/\SeqAt.noMix b a=true)/\Q (.bl (!PySem.Spec.same b a)) H
theorem Pn(j:X.A.units+64<cLine):sd X (compareOp .Eq) (Zu X):=by intro a s m H x y v u Q I c b h;obtain⟨o,n,l,k,⟨i,g,f⟩,q⟩:=h;obtain⟨r,e⟩:=l _ _ _ _ I c;obtain⟨p,d⟩:=k _ _ _ _ I b;exact eq_dataH_same e d i g j f ⟨.bl _,H,I,rfl,q⟩
theorem Po(j:X.A.units+64<cLine):sd X (compareOp .NotEq) (Zv X):=by intro a s m H x y v u Q I c b h;obtain⟨o,n,l,k,⟨i,g,f⟩,q⟩:=h;obtain⟨r,e⟩:=l _ _ _ _ I c;obtain⟨p,d⟩:=k _ _ _ _ I b;exact ne_dataH_same e d i g j f ⟨.bl _,H,I,rfl,q⟩
end
noncomputable def Zw(K:Frag)(a:Addr):It:=⟨λi H=>∃b x,jU K H a b/\b[i]?=some x,λi H x c=>∃p y,H p=none/\x=.ref p/\c=upd H p (.tup [.int i,y])/\∀b,jU K H a b->b[i]?=some y,λi H=>∃b,jU K H a b/\b.length=i⟩
theorem Inv.VH{t:St}{t':Nat}{ch:List Addr}{p:Addr}{h:List V}(I:Inv X a t H s)(l:∀b∈ch,pP X a H b)
 (k:∀b o,b∉ch->s.heap.get? b=some o->h'.get? b=some o)(x:s.heap.objs.size<=p)(i:cJ X.prog X.w (upd H p (.tup h)) h' p (.tup h))(M:∀b∈ch,∃o,h'.get? b=some o):Inv X a t (upd H p (.tup h)) {s with heap:=h',toks:=t'}:=by
 have f:H p=none:=I.hok.fresh x;have y:∀b u,H b=some u->b∉ch:=λb u e z=>by rw[(l b z).1]at e;cases e
 have j:∀b o,s.heap.get? b=some o->b≠p:=λb o e z=>absurd (Fu (KB e) x) (by rw[z];exact TC _);refine I.step (g':=s.gens) (d':=s.drawn) (ch:=ch) (λb g=>?_) (λb o _ _ d e _=>k b o d e) (λb o _ _ d e _=>⟨o.slots,k b o d e⟩) (λb o _ e n=>by rw[ao (j b o e)];exact n)
  (λb o d e=>⟨o,k b o d e⟩) (λb A e=>by rw[ao (aP e f)];exact e) (λb o u e=>by rw[ao (aP e f)];exact e) (λb L e=>⟨#[],by rw[ao (aP e f),e];simp⟩) (λm C=>?_) (λb u e=>?_) I.bare
 .obtain⟨O,G,N,F,E,D⟩:=l b g;exact⟨F,G,E,D⟩
 .obtain⟨o,J,K,B,r⟩:=C;exact⟨o,J,K,k _ o (λz=>(l _ z).2.1 rfl) B,r⟩
 .by_cases g:b=p
  .subst g;rw[aG]at e;cases e;exact i
  .rw[ao g]at e;refine(I.hok b u e).stay (λc v d q=>k c v ?_ q) (λc q=>by rw[ao (aP q f)];exact q) λc A q=>by rw[ao (aP q f)];exact q
   rcases d with z|z
   .rw[z];exact y b u e
   .exact y c _ z
theorem C8{K:Frag}(a e l:Addr)(R:e≠l):
 Turn P w K (.Tuple C kk pos) (Zw K a) [e,l] e (λi h=>(∃f,IsEnum h e l i f)/\h.IsListIter l a i)where
 mem:=by simp
 obj:=λi h q b m=>by
  obtain⟨⟨f,n⟩,o,r,c,d⟩:=q;rcases Hk.mp m with z|z
  .subst z;exact⟨_,n,λv z=>by cases z⟩
  .rw[FR.mp z];exact⟨o,r,λv z=>by rw[d]at z;cases z⟩
 keep:=λi h h' q k=>by obtain⟨⟨f,n⟩,F⟩:=q;exact⟨⟨f,k e (by simp) _ n⟩,F.at λo x=>k l (by simp) o x⟩
 item:=by
  intro X hP hw hK hc i M s σ H E I L q hg;subst hP hw hK;obtain⟨xs,x,Z,Y⟩:=hg;obtain⟨j,rv,p,hz⟩:=I.list Z;obtain⟨u,hu,ru⟩:=rv.get Y;obtain⟨⟨f,n⟩,F⟩:=q;have hit:=L l (by simp);have hee:=L e (by simp);have G:a≠l:=λz=>by obtain⟨o,r,c,d⟩:=F;obtain⟨o',g,J,_⟩:=p.isList;rw[z,r]at g;cases g;rw[c]at J;exact absurd J (by decide)
  have hae:a≠e:=λz=>by obtain⟨o',g,J,_⟩:=p.isList;have B:s.heap.get? e=some _:=n;rw[z,B]at g;cases g;exact absurd (show Value.type "enumerate"=Value.type "list"from J) (by decide)
  have D:=Draws.list (prog:=X.prog) (w:=X.w) (A:=X.A.in1) (I.ok.hd hc) l a G j.toArray;have W:=WalksT.enumerateD D e R (by simp[R,hae.symm]) (by simp);have hlt:i<j.toArray.size:=by have:=(Gc.mp hu).1;simpa using this
  refine W.item i s _ _ hlt ⟨⟨f,n⟩,F,p.isList⟩ λT vals h' tk hPt hT Zx VI hk=>?_;obtain⟨t,y,hy,rfl⟩:=hPt;have hyu:y=u:=by
   have:j[i]?=some y:=by simpa using hy
   rw[hu]at this;exact(OK this).symm
  subst hyu;refine⟨.ref T,rfl,W.go C kk pos i T _ _ _ VI λU hst Q=>?_⟩;have S:T∉[e,l]:=W.apart i T h' VI;obtain⟨⟨N,B⟩,O,_⟩:=hst;have VJ:IsTup U T #[.int i t,y]:=by obtain⟨o,r,c⟩:=Zx;exact⟨o,Q T o S r,c⟩
  have obj:cJ X.prog X.w (upd H T (.tup [.int i,x])) U T (.tup [.int i,x]):=⟨uc (by show 2<=100000;decide),[.int i t,y],.cons ⟨t,rfl⟩ (.cons ru .nil),VJ⟩;have I2:=I.VH (t':=tk) (ch:=[e,l]) L (λb o m eo=>Q b o m (hk b o m eo)) hT obj (λb m=>by
   rcases Hk.mp m with z|z
   .rw[z];exact⟨_,B⟩
   .rw[FR.mp z];obtain⟨o,r,_⟩:=O;exact⟨o,r⟩)
  refine⟨.ref T,upd H T (.tup [.int i,x]),I2,rfl,⟨T,x,I.hok.fresh hT,rfl,rfl,λys hy=>by rw[I.pM hy Z];exact Y⟩,⟨⟨N,B⟩,O⟩,λb m=>?_⟩;rw[ao (show b≠T from λz=>S (by rw[<-z];exact m))];exact(L b m).1
 done:=by
  intro X hP hw hK hc i M s σ H E I L q hg;subst hP hw hK;obtain⟨xs,Z,Y⟩:=hg;obtain⟨j,rv,p,hz⟩:=I.list Z;obtain⟨⟨f,n⟩,F⟩:=q;obtain⟨f0,f1,f2,f3,f4,f5⟩:=L l (by simp);have G:a≠l:=λz=>by obtain⟨o,r,c,d⟩:=F;obtain⟨o',g,J,_⟩:=p.isList;rw[z,r]at g;cases g;rw[c]at J;exact absurd J (by decide)
  have D:=Draws.list (prog:=X.prog) (w:=X.w) (A:=X.A.in1) (I.ok.hd hc) l a G j.toArray;have hn:j.toArray.size=i:=by rw[He,<-rv.length];exact Y
  exact wpAny_pyNext_enum_endD D n ⟨by rw[hn];exact F,p.isList⟩ λh' eb=>⟨rfl,I.turned (t':=s.toks) (λb o m x=>eb b o m x) f0 f1 f3 f4 f5⟩
 self:=λ_ _ _ _ _ q h=>by obtain⟨⟨f,n⟩,_⟩:=q;exact wpAny_pyIter_enum n h
section
variable{X:Cx}
def VM(K:Frag)(ta:TA):TI:=λc H R=>ta c H λe b=>∃a,e=[.ref a]/\(∃d,jU K b a d)/\R (Zw K a) b
theorem JY{f:List Expr}{t:Nat}{k p pos:Pos}(E:Gl X "enumerate")(B:X.mg "enumerate"=none)(G:PA X [a] ta)(w:bootBuiltins "enumerate"=some (.type "enumerate"):=by rfl)(y:starEach [a] X.env=[(false,eval a X.env)]:=by rfl):
 PI X (.Tuple f t k) (.Call (.Name "enumerate" p) [a] [] pos) (VM X.K ta):=by
 intro c s g H R I h;refine Call_ (jc I E B w (ag (cg (G pos c s g H _ I h) λO d ⟨N,j,I1,n,o⟩=>?_) y rfl));obtain⟨l,e,⟨M,A⟩,q⟩:=o;subst e;obtain⟨u,rfl,m⟩:=Vals.one n;cases(show u=Value.ref l from m);obtain⟨v,rv,r,_⟩:=I1.list A;refine call_enumerate_list r.isList λJ i C x D=>?_;refine wpAny_pyIter_enum i ?_;have L:Inv X c g j {d with heap:=J}:=I1.kept (t':=d.toks) D;refine⟨d.heap.objs.size+1,[d.heap.objs.size+1,d.heap.objs.size],_,_,j,rfl,L,C8 l (d.heap.objs.size+1) d.heap.objs.size (Nat.succ_ne_self _),⟨⟨_,i⟩,C⟩,λb F=>?_,q⟩;rcases Hk.mp F with z|z
 .rw[z];exact I1.yP (by lia) (I1.hok.fresh (by lia))
 .rw[FR.mp z];exact I1.yP (Ee _) (I1.hok.fresh (Ee _))
end
noncomputable def Zy(K:Frag)(a:Addr)(n:Nat):It:=
 ⟨λi H=>∃b,jU K H a b/\b.length=n/\i<n,λi H x c=>c=H/\∀b,jU K H a b->b.length=n->b[n -1 -i]?=some x,λi _=>i=n⟩
theorem Fo{K:Frag}(a l:Addr)(n:Nat):Turn P w K tg (Zy K a n) [l] l (λi h=>h.IsRevIter l a ((n:Int) -1 -(i:Int)))where
 mem:=by simp
 obj:=λi h f b m=>by
  have e:b=l:=by simpa using m
  subst e;obtain⟨o,e,c,d⟩:=f;refine⟨o,e,λv z=>?_⟩;rw[d]at z;cases z
 keep:=λi h r f k=>f.at λo e=>k l (FR.mpr rfl) o e
 item:=by
  intro X B t C R i g s M H E I q f A;subst B t C;obtain⟨N,Q,hn,hi⟩:=A;obtain⟨U,rv,p,hz⟩:=I.list Q;have O:N[n -1 -i]?=some (N[n -1 -i]'(by omega)):=DL (by omega);obtain⟨u,Z,T⟩:=rv.get O;obtain⟨L,J,f2,G,F,D⟩:=q l (FR.mpr rfl);have e:(n:Int) -1 -(i:Int)=((n -1 -i:Nat):Int):=by omega
  rw[e]at f;refine wpAny_pyNext_rev_item f p.isList (x:=u) (by simpa using Z) λr j S=>?_;have e2:((n -1 -i:Nat):Int) -1=(n:Int) -1 -((i+1:Nat):Int):=by lia
  rw[e2]at j;have I1:Inv X g M H {s with heap:=r}:=I.turned (t':=s.toks) (λb o m z=>(S.2 b m).trans z) L J G F D;obtain⟨o,e3,c,d⟩:=id j;exact⟨u,rfl,xg (s:={s with heap:=r}) e3 c d (by decide) ⟨_,H,I1,T,⟨rfl,λys Y _=>by rw[I.pM Y Q];exact O⟩,j,λb m=>(q b m).1⟩⟩
 done:=by
  intro X B t C R i g s M H E I q f A;subst B t C;have y:i=n:=A;subst y;obtain⟨L,J,f2,G,F,D⟩:=q l (FR.mpr rfl);have e:(i:Int) -1 -(i:Int)= -1:=by lia
  rw[e]at f;exact wpAny_pyNext_rev_end (I.ok.hd R) f λr eb=>⟨rfl,I.turned (t':=s.toks) (λb o m z=>eb b o m z) L J G F D⟩
 self:=λ_ _ _ _ _ f h=>wpAny_pyIter_revIter f h
section
variable{X:Cx}{tg:Expr}
def Zz(K:Frag)(ta:TA):TI:=λd H R=>ta d H λe c=>∃a b,e=[.ref a]/\jU K c a b/\R (Zy K a b.length) c
theorem Pp{p pos:Pos}(y:Gl X "reversed")(x:X.mg "reversed"=none)(B:PA X [a] ta)(t:bootBuiltins "reversed"=some (.type "reversed"):=by rfl)(v:starEach [a] X.env=[(false,eval a X.env)]:=by rfl):
 PI X tg (.Call (.Name "reversed" p) [a] [] pos) (Zz X.K ta):=by
 intro d s j H R I h;refine Call_ (jc I y x t (ag (cg (B pos d s j H _ I h) λF c ⟨E,D,I1,m,n⟩=>?_) v rfl));obtain⟨l,f,e,w,q⟩:=n;subst e;obtain⟨u,rfl,k⟩:=Vals.one m;cases(show u=Value.ref l from k);obtain⟨g,rv,r,_⟩:=I1.list w;refine call_reversed_list r.isList ?_;have C:((g.toArray.size:Nat):Int) -1=(f.length:Int) -1 -((0:Nat):Int):=by have:=rv.length;simp;lia
 rw[C];have i:Heap.IsRevIter (c.heap.push (revObj l ((f.length:Int) -1 -((0:Nat):Int)))) c.heap.objs.size l ((f.length:Int) -1 -((0:Nat):Int)):=⟨_,QP _ rfl,rfl,rfl⟩;refine wpAny_pyIter_revIter i ?_;refine⟨c.heap.objs.size,[c.heap.objs.size],_,_,D,rfl,I1.kept (t':=c.toks) λb o z=>GT _ z,Fo l _ f.length,i,λb A=>?_,q⟩;have e:b=c.heap.objs.size:=by simpa using A
 subst e;exact I1.yP (Ee _) (I1.hok.fresh (Ee _))
end
section
variable{prog:Program}{w:World}{A:Around}{E:Value->Shared->Prop}
end
theorem C9(C:X.calm=true):dD X (.builtin "max") (λa H Q=>∃(p:Addr)(ns:List Int),a=[.ref p]/\jU X.K H p (ns.map V.int)/\ns≠[]/\∀m∈ns,(∀n∈ns,n<=m)->Q (.int m) H):=by
 intro f s G H a J Q I r h;obtain⟨p,ns,rfl,D,w,q⟩:=h;obtain⟨u,rfl,l⟩:=Vals.one r;cases(show u=Value.ref p from l);obtain⟨d,rv,o,_⟩:=I.list D;have i:=intsAre_of rv;obtain⟨a,g⟩:=i.allInts.items;have e:s.heap.IsList p (intItems a):=g▸o.isList;have k:ns=a.toList.map (·.1):=by rw[<-nums_intItems,<-g];exact(show numsOf d.toArray.toList=ns from i.numsOf).symm
 have A:ns.length=a.size:=by rw[k,Ap,J9]
 have y:0<a.size:=by rw[<-A];exact KE.mpr w
 refine max_intList (I.ok.hd C) e y λv M L x B=>?_;obtain⟨t,rfl⟩:=intItems_at x;obtain⟨N,F⟩:=argBest_gt (numAt a) (a.size -1);have c:∀j,j<ns.length->numAt a j=ns.getD j 0:=λj _=>by rw[numAt_eq,<-k]
 have E:∀j,j<ns.length->ns.getD j 0∈ns:=λj b=>by rw[AC,DL b];exact Yf b
 refine⟨.int _,H,I.kept B,⟨_,rfl⟩,q _ ?_ λn z=>?_⟩
 .rw[c _ (by lia)];exact E _ (by lia)
 .obtain⟨j,b,rfl⟩:=Ta z;have:=F j (by lia);rw[c j b,AC,DL b]at this;exact this
end L2
namespace L2
open PySem
variable{r:List Expr}{env:Env}{pos:Pos}
inductive Pr:List Expr->List (Int×Int)->Prop where
 |nil:Pr [] []
 |cons {a b:Int} {j1 j2 k:Nat} {p1 p2 pos:Pos} {es:List Expr} {qs:List (Int×Int)} (h:Pr es qs):Pr (.Tuple [.Constant (.int a) j1 p1,.Constant (.int b) j2 p2] k pos::es) ((a,b)::qs)
end L2
namespace L2
open PySem PySem.Spec PyProof.Rows
section
variable{X:Cx}{H:Hp}
end
mutual
noncomputable def aM:PyData->Bool
 |.int _=>true
 |.list a=>fD a
 |.tuple a=>fD a
 |.none=>false
 |.bool _=>false
 |.str _=>false
 |.dict _=>false
noncomputable def fD:List PyData->Bool
 |[]=>true
 |x::a=>aM x&&fD a
end
mutual
theorem Fq:∀d:PyData,aM d=true->d.canLay0=true
 |.int _,_=>by simp[PyData.canLay0]
 |.list a,h=>by rw[aM]at h;rw[PyData.canLay0];exact m8 a h
 |.tuple a,h=>by rw[aM]at h;rw[PyData.canLay0];exact m8 a h
 |.none,h=>by simp[aM]at h
 |.bool _,h=>by simp[aM]at h
 |.str _,h=>by simp[aM]at h
 |.dict _,h=>by simp[aM]at h
theorem m8:∀a:List PyData,fD a=true->PyData.canLayAll0 a=true
 |[],_=>by simp[PyData.canLayAll0]
 |x::a,h=>by rw[fD,Bz]at h;rw[PyData.canLayAll0,Fq x h.1,m8 a h.2];rfl
end
mutual
theorem Ft:∀d e:PyData,aM d=true->aM e=true->SeqAt.noMix d e=true
 |.int _,.int _,_,_=>by simp[SeqAt.noMix]
 |.int _,.list _,_,_=>by simp[SeqAt.noMix]
 |.int _,.tuple _,_,_=>by simp[SeqAt.noMix]
 |.list _,.int _,_,_=>by simp[SeqAt.noMix]
 |.list _,.tuple _,_,_=>by simp[SeqAt.noMix]
 |.tuple _,.int _,_,_=>by simp[SeqAt.noMix]
 |.tuple _,.list _,_,_=>by simp[SeqAt.noMix]
 |.list c,.list b,h,a=>by rw[aM]at h a;rw[SeqAt.noMix];exact m9 c b h a
 |.tuple c,.tuple b,h,a=>by rw[aM]at h a;rw[SeqAt.noMix];exact m9 c b h a
 |.none,_,h,_=>by simp[aM]at h
 |.bool _,_,h,_=>by simp[aM]at h
 |.str _,_,h,_=>by simp[aM]at h
 |.dict _,_,h,_=>by simp[aM]at h
 |.int _,.none,_,h=>by simp[aM]at h
 |.int _,.bool _,_,h=>by simp[aM]at h
 |.int _,.str _,_,h=>by simp[aM]at h
 |.int _,.dict _,_,h=>by simp[aM]at h
 |.list _,.none,_,h=>by simp[aM]at h
 |.list _,.bool _,_,h=>by simp[aM]at h
 |.list _,.str _,_,h=>by simp[aM]at h
 |.list _,.dict _,_,h=>by simp[aM]at h
 |.tuple _,.none,_,h=>by simp[aM]at h
 |.tuple _,.bool _,_,h=>by simp[aM]at h
 |.tuple _,.str _,_,h=>by simp[aM]at h
 |.tuple _,.dict _,_,h=>by simp[aM]at h
theorem m9:∀b a:List PyData,fD b=true->fD a=true->SeqAt.noMixAll b a=true
 |[],[],_,_=>by simp[SeqAt.noMixAll]
 |[],_::_,_,_=>by simp[SeqAt.noMixAll]
 |_::_,[],_,_=>by simp[SeqAt.noMixAll]
 |x::b,y::a,h,c=>by rw[fD,Bz]at h c;rw[SeqAt.noMixAll,Ft x y h.1 c.1,m9 b a h.2 c.2];rfl
end
mutual
theorem Dc:∀d e:PyData,aM d=true->aM e=true->(same d e=true↔d=e)
 |.int a,.int b,_,_=>by simp[same]
 |.int _,.list _,_,_=>by simp[same]
 |.int _,.tuple _,_,_=>by simp[same]
 |.list _,.int _,_,_=>by simp[same]
 |.list _,.tuple _,_,_=>by simp[same]
 |.tuple _,.int _,_,_=>by simp[same]
 |.tuple _,.list _,_,_=>by simp[same]
 |.list g,.list f,h,c=>by rw[aM]at h c;rw[same,ko g f h c,PyData.list.injEq]
 |.tuple g,.tuple f,h,c=>by rw[aM]at h c;rw[same,ko g f h c,PyData.tuple.injEq]
 |.none,_,h,_=>by simp[aM]at h
 |.bool _,_,h,_=>by simp[aM]at h
 |.str _,_,h,_=>by simp[aM]at h
 |.dict _,_,h,_=>by simp[aM]at h
 |.int _,.none,_,h=>by simp[aM]at h
 |.int _,.bool _,_,h=>by simp[aM]at h
 |.int _,.str _,_,h=>by simp[aM]at h
 |.int _,.dict _,_,h=>by simp[aM]at h
 |.list _,.none,_,h=>by simp[aM]at h
 |.list _,.bool _,_,h=>by simp[aM]at h
 |.list _,.str _,_,h=>by simp[aM]at h
 |.list _,.dict _,_,h=>by simp[aM]at h
 |.tuple _,.none,_,h=>by simp[aM]at h
 |.tuple _,.bool _,_,h=>by simp[aM]at h
 |.tuple _,.str _,_,h=>by simp[aM]at h
 |.tuple _,.dict _,_,h=>by simp[aM]at h
theorem ko:∀b a:List PyData,fD b=true->fD a=true->(sameAll b a=true↔b=a)
 |[],[],_,_=>by simp[sameAll]
 |[],_::_,_,_=>by simp[sameAll]
 |_::_,[],_,_=>by simp[sameAll]
 |x::b,y::a,h,c=>by rw[fD,Bz]at h c;rw[sameAll,Bz,Dc x y h.1 c.1,ko b a h.2 c.2,bN]
end
section
variable{X:Cx}
end
theorem xD(h:∀x∈a,x.depth<=n):PyData.depthAll a<=n:=by
 induction a with
 |nil=>simp[PyData.depthAll]
 |cons x a b=>rw[PyData.depthAll];have:=h x (FK ..);have:=b λy c=>h y (FS _ c);lia
section
variable{X:Cx}
end
end L2
set_option genSizeOf false
set_option genInjectivity false
namespace Num
theorem xE(a b q:Int):Bn b (a -q*b)=Bn a b:=by
 apply Nat.dvd_antisymm
 .apply lx
  .have f:((Bn b (a -q*b):Nat):Int)∣b:=dA ..;have d:((Bn b (a -q*b):Nat):Int)∣(a -q*b):=Ts ..;have c:=m1 d (w8 f:_∣q*b);have e:a -q*b+q*b=a:=by lia
   rw[e]at c;exact c
  .exact dA ..
 .apply lx
  .exact Ts ..
  .exact dr (dA ..) (w8 (Ts ..))
theorem fl(a b:Int)(c:b≠0):(0<b->0<=a -a.fdiv b*b/\a -a.fdiv b*b<b)/\(b<0->b<a -a.fdiv b*b/\a -a.fdiv b*b<=0):=by
 have e:=Int.mul_ediv_add_emod a b;have f:=XG a c;have d:a%b<(b.natAbs:Int):=by
  rcases tI 0 b with z|z
  .have:=ub a z;lia
  .have:=ub a (show 0< -b by lia);rw[Int.emod_neg]at this;lia
 rw[Int.fdiv_eq_ediv];have g:b*(a/b)=(a/b)*b:=dE _ _;constructor
 .intro h;rw[Bi (bM (by lia)),xk];lia
 .intro h;split
  .rename_i hd
   have hz:a%b=0:=wt (by lia);rw[xk];lia
  .rename_i hd
   have hz:a%b≠0:=λz=>hd (.inr (wx z));have:(a/b -1)*b=a/b*b -b:=by rw[Int.sub_mul];lia
   lia
theorem Fv(a b:Int)(c:b≠0):(a -a.fdiv b*b).natAbs<b.natAbs:=by have:=fl a b c;omega
theorem fmod_eq(a b:Int):a.fmod b=a -a.fdiv b*b:=by have:=Int.mul_fdiv_add_fmod a b;have:b*a.fdiv b=a.fdiv b*b:=dE _ _;omega
theorem dz(r:Rat):(r.den:Int)≠0:=by have:=r.den_nz;lia
theorem Pu{d:Nat}{r:Rat}(a:d≠0)(b:Nat.gcd n.natAbs d=1)(h:n*r.den=r.num*d):r.num=n/\(r.den:Int)=d:=by
 have e:r=⟨n,d,a,b⟩:=by rw[<-hJ r,Rat.mk_eq_divInt,vw (dz r) (by lia)];exact h.symm
 rw[e];exact⟨rfl,rfl⟩
theorem A3(x y:Int)(h:y≠0):∃b a:Int,x=(Bn x y:Nat)*b/\y=(Bn x y:Nat)*a/\Bn b a=1/\0<((Bn x y:Nat):Int):=by
 have f:0<Bn x y:=Int.gcd_pos_of_ne_zero_right _ h;obtain⟨b,d⟩:((Bn x y:Nat):Int)∣x:=dA ..;obtain⟨a,c⟩:((Bn x y:Nat):Int)∣y:=Ts ..;refine⟨b,a,d,c,?_,by lia⟩;have e:Bn ((Bn x y:Nat)*b) ((Bn x y:Nat)*a)=Bn x y*Bn b a:=by rw[fg];rfl
 rw[<-d,<-c]at e;have:Bn x y*1=Bn x y*Bn b a:=by lia
 exact(YP f this).symm
theorem JZ{g x a:Int}(h:x=g*a)(b:0<g):x/g=a:=by rw[h];exact gN _ (by lia)
theorem Pw{g y a:Int}(h:y=g*a)(b:0<g)(c:0<y):0<a:=by
 rcases tI 0 a with z|z
 .exact z
 .have:=Int.mul_nonpos_of_nonneg_of_nonpos (cb b) z;omega
theorem A4{r:Rat}(b:0<d)(a:Bn n d=1)(h:n*r.den=r.num*d):r.num=n/\(r.den:Int)=d:=by
 have e:((d.toNat:Nat):Int)=d:=by lia
 have:=Pu (n:=n) (d:=d.toNat) (r:=r) (by lia) (by unfold Bn at a;rw[show d.toNat=d.natAbs by lia];exact a) (by rw[e];exact h);rw[e]at this;exact this
def Bd(n:Nat)(r:Rat):Prop:=r.num.natAbs<2^n/\r.den<2^n
theorem lt_mul(b:x<2^n)(a:y<2^m):x*y<2^(n+m):=by
 rw[Y1];rcases eC y with z|z
 .subst z;have:=Nat.mul_pos (U2 (n:=n) (show 0<2 by decide)) (U2 (n:=m) (show 0<2 by decide));omega
 .exact Fu (t5 b z) (FV _ (QR a))
noncomputable def cf(a bs:List Int):Nat->Nat->Int
 |0,_=>0
 |i+1,k=>cf a bs i k+a.getD i 0*(if i<=k then bs.getD (k -i) 0 else 0)
noncomputable def xF(a bs:List Int)(i j k:Nat):Int:=cf a bs i k+(if i<=k/\k<i+j then a.getD i 0*bs.getD (k -i) 0 else 0)
theorem xG(a bs:List Int)(i k:Nat):xF a bs i 0 k=cf a bs i k:=by unfold xF;rw[BM (by lia)];lia
theorem xH(a bs:List Int)(i k:Nat):xF a bs i bs.length k=cf a bs (i+1) k:=by
 unfold xF;rw[cf];by_cases h:i<=k
 .by_cases b:k<i+bs.length
  .rw[Bi ⟨h,b⟩,Bi h]
  .have e:bs.getD (k -i) 0=0:=by rw[AC,Fs (by lia)];rfl
   rw[BM (by lia),Bi h,e,Qb]
 .rw[BM (by lia),BM h,Qb]
theorem lD(a bs:List Int)(i j k:Nat):xF a bs i (j+1) k=xF a bs i j k+(if k=i+j then a.getD i 0*bs.getD j 0 else 0):=by
 unfold xF;by_cases h:k=i+j
 .subst h;rw[Bi (by lia),BM (by lia),Bi rfl,Ya];lia
 .rw[BM h];by_cases b:i<=k/\k<i+j
  .rw[Bi (by lia),Bi b];lia
  .rw[BM (by lia),BM b];lia
theorem J0(h:a.getD i 0=0)(k:Nat):cf a bs (i+1) k=cf a bs i k:=by rw[cf,h,bo,fo]
theorem lE(a bs:List Int)(k:Nat):∀i,i+bs.length<=k+1->cf a bs i k=0
 |0,_=>rfl
 |i+1,h=>by
  rw[cf,lE a bs k i (by lia)];have e:bs.getD (k -i) 0=0:=by rw[AC,Fs (by lia)];rfl
  rw[Bi (by lia),e,Qb];rfl
theorem J1(a bs:List Int)(d:0<a.length)(c:0<bs.length):cf a bs a.length (a.length+bs.length -2)=a.getD (a.length -1) 0*bs.getD (bs.length -1) 0:=by obtain⟨m,b⟩:∃m,a.length=m+1:=⟨a.length -1,by lia⟩;rw[b,cf,lE a bs _ m (by clear b c d;omega),Bi (by lia),xi];congr 2<;>lia
def iu(ns ms:List Int):Prop:=∃k,k<=ns.length/\ms=ns.take k/\(∀j,k<=j->j<ns.length->ns.getD j 0=0)/\(k=0\/ns.getD (k -1) 0≠0)
theorem iu.last(h:iu ns ms):ms=[]\/ms.getD (ms.length -1) 0≠0:=by
 obtain⟨k,b,rfl,d,a⟩:=h;rcases a with q|q
 .left;rw[q];rfl
 .by_cases c:k=0
  .left;rw[c];rfl
  .right;rw[d6,fq b,AC,lh (by lia),<-AC];exact q
theorem iu.mem(h:iu ns ms):∀m∈ms,m∈ns:=by obtain⟨k,_,rfl,_⟩:=h;exact λm a=>List.mem_of_mem_take a
def p7(p:Int):Prop:=2<=p/\∀d:Int,2<=d->d*d<=p->p%d≠0
theorem sA(d:p7 p)(i:0<x)(m:x<p):Bn p x=1:=by
 obtain⟨l,b⟩:=d;have j:0<Bn p x:=tJ _ (by lia);obtain⟨q,a⟩:((Bn p x:Nat):Int)∣p:=dA ..;have f:((Bn p x:Nat):Int)<=x:=lj i (Ts ..);generalize k:((Bn p x:Nat):Int)=g at*;have n:1<=g:=by lia
 rcases tI 1 g with h|e
 .exfalso
  have c:2<=q:=by
   rcases tI q 2 with z|z
   .have:q<=1:=by lia
    have:=h8 this (show 0<=g by lia);lia
   .exact z
  rcases Int.le_total g q with z|z
  .have:g*g<=g*q:=h8 z (by lia);exact b g (by lia) (by lia) (wt ⟨q,a⟩)
  .have:q*q<=g*q:=Int.mul_le_mul_of_nonneg_right z (by lia);exact b q c (by lia) (wt ⟨g,by rw[a,dE]⟩)
 .lia
theorem Fw(t b:Int)(k:b≠0):((if b<0 then-((Bn t b:Nat):Int)else((Bn t b:Nat):Int))≠0)/\(B1 t b).num=t.fdiv (if b<0 then-((Bn t b:Nat):Int)else((Bn t b:Nat):Int))/\
 ((B1 t b).den:Int)=b.fdiv (if b<0 then-((Bn t b:Nat):Int)else((Bn t b:Nat):Int)):=by
 obtain⟨x,y,i,e,c,j⟩:=A3 t b k;have m:=(vw (dz (B1 t b)) k).mp (hJ (B1 t b));generalize((Bn t b:Nat):Int)=g at*;generalize B1 t b=r at*;have gz:g≠0:=by lia
 have l:x*r.den=r.num*y:=by
  rw[i,e]at m;have:g*(x*r.den)=g*(r.num*y):=by grind
  exact Qr gz this
 rcases tI b 0 with z|z
 .rw[Bi z];have f:0< -y:=by
   rcases tI 0 (-y)with q|q
   .exact q
   .have:=gd (cb j) (show 0<=y by lia);lia
  have a:=A4 (n:= -x) (d:= -y) (r:=r) f (by rw[Int.gcd_neg,Int.neg_gcd];exact c) (by grind);have h: -g≠0:=by lia
  refine⟨h,?_,?_⟩
  .rw[a.1,i,show g*x= -g* -x by grind,gL _ h]
  .rw[a.2,e,show g*y= -g* -y by grind,gL _ h]
 .rw[BM (by lia)];have f:=Pw e j (by lia);have a:=A4 (r:=r) f c l;refine⟨gz,?_,?_⟩
  .rw[a.1,i,gL _ gz]
  .rw[a.2,e,gL _ gz]
theorem zB(t b:Int)(a:b≠0):(B1 t b).num*b=t*(B1 t b).den:=(vw (dz _) a).mp (hJ _)
theorem A5(t b:Int)(f:b≠0):(B1 t b).num.natAbs<=t.natAbs/\(B1 t b).den<=b.natAbs:=by
 have c:=zB t b f;generalize B1 t b=r at*;have d:r.num.natAbs*b.natAbs=t.natAbs*r.den:=by have:=Q1 YJ c;rw[HI,HI,D3]at this;exact this
 have a:d3 r.num.natAbs r.den:=r.reduced;have e:0<b.natAbs:=by lia
 have h:r.den∣b.natAbs:=a.symm.dvd_of_dvd_mul_left ⟨t.natAbs,by rw[d,bb]⟩;have g:r.num.natAbs∣t.natAbs:=a.dvd_of_dvd_mul_right ⟨b.natAbs,d.symm⟩;refine⟨?_,hQ e h⟩;rcases eC t.natAbs with z|z
 .rw[z,ZW]at d;rcases Nat.mul_eq_zero.mp d with q|q
  .lia
  .lia
 .exact hQ z g
noncomputable def ev(x:Rat):List Rat->Rat
 |[]=>0
 |r::a=>r+x*ev x a
noncomputable def wv(t b:Int):List Int->Int
 |[]=>0
 |x::s=>wv t b s*t+x*b^s.length
theorem Nv{t b:Int}{x:Rat}(f:(b:Rat)≠0)(d:x*b=t)(g:B≠0):∀(ns:List Int)(a:List Rat),ns.length=a.length->(∀i,i<ns.length->(ns.getD i 0:Rat)=a.getD i 0*B)->((wv t b ns:Int):Rat)*b=(b:Rat)^ns.length*ev x a*B
 |[],[],_,_=>by show((0:Int):Rat)*b=_*0*B;grind
 |n::ns,r::a,c,h=>by
  have ih:=Nv f d g ns a (by simpa using c) λi e=>by have:=h (i+1) (by simpa using e);simpa using this
  have j:(n:Rat)=r*B:=by simpa using h 0 (by simp)
  show((wv t b ns*t+n*b^ns.length:Int):Rat)*b=(b:Rat)^(ns.length+1)*(r+x*ev x a)*B;rw[eI,FM,FM,Rat.intCast_pow,XB,j];have:(wv t b ns:Rat)*t*b=(wv t b ns:Rat)*b*(x*b):=by rw[d];grind
  grind
 |[],_::_,c,_=>by simp at c
 |_::_,[],c,_=>by simp at c
theorem eT(x:Rat):x*((x.den:Int):Rat)=((x.num:Int):Rat):=by
 have h:=hJ x;rw[n4]at h;have:((x.den:Int):Rat)≠0:=λz=>by have:=mB.mp (z.trans (show(0:Rat)=((0:Int):Rat)from rfl));have:=x.den_nz;lia
 grind
theorem gI(h:(x.den:Int)∣B):((x.num*(B/x.den):Int):Rat)=x*B:=by
 obtain⟨k,a⟩:=h;have e:B/(x.den:Int)=k:=by rw[a];exact gN _ (dz x)
 rw[e,a,FM,FM,<-eT x];grind
noncomputable def sm(f:Nat->Int):Nat->Int
 |0=>0
 |n+1=>sm f n+f n
theorem iy:∀n,(∀i,i<n->f i=g i)->sm f n=sm g n
 |0,_=>rfl
 |n+1,h=>by rw[sm,sm,iy n λi a=>h i (by lia),h n (by lia)]
theorem A6(f:Nat->Int):∀n,sm f (n+1)=f 0+sm (λi=>f (i+1)) n
 |0=>by rw[sm,sm,sm];lia
 |n+1=>by rw[sm,A6 f n,sm];lia
theorem Fy(f:Nat->Int):∀n,sm (λi=>f (n -i)) (n+1)=sm f (n+1)
 |0=>rfl
 |n+1=>by rw[A6,iy (g:=λi=>f (n -i)) (n+1) λi a=>by congr 1;lia,Fy f n];rw[sm,sm,sm];show f (n+1 -0)+(sm f n+f n)=_;rw[Km];lia
theorem uV:∀n,m<=n->(∀i,m<=i->i<n->f i=0)->sm f n=sm f m
 |0,h,_=>by
  have:m=0:=by lia
  rw[this]
 |n+1,h,z=>by
  by_cases e:m=n+1
  .rw[e]
  .rw[sm,uV n (by lia) (λi a b=>z i a (by lia)),z n (by lia) (by lia),fo]
theorem xJ(a bs:List Int)(k:Nat):∀n,cf a bs n k=sm (λi=>a.getD i 0*(if i<=k then bs.getD (k -i) 0 else 0)) n
 |0=>rfl
 |n+1=>by rw[cf,xJ a bs k n,sm]
theorem gh(a bs:List Int)(k:Nat):cf a bs a.length k=sm (λi=>a.getD i 0*bs.getD (k -i) 0) (k+1):=by
 rw[xJ];have b:∀i,a.length<=i->a.getD i 0=0:=λi h=>by rw[AC,Fs h];rfl
 rcases ib a.length (k+1)with h|h
 .rw[<-uV (k+1) h λi c _=>by rw[b i c,bo]];exact iy _ λi d=>by rw[Bi (by lia)]
 .rw[uV a.length h λi c _=>by rw[BM (by lia),Qb]];exact iy _ λi d=>by rw[Bi (by lia)]
theorem J2(a bs:List Int)(k:Nat):cf a bs a.length k=cf bs a bs.length k:=by rw[gh,gh,<-Fy];refine iy _ λi b=>?_;show a.getD (k -i) 0*bs.getD (k -(k -i)) 0=_;rw[show k -(k -i)=i by lia,dE]
noncomputable def sC(n:Nat)(f:Nat->Rat):List Rat:=(C0 n).map f
theorem p8(n:Nat)(f:Nat->Rat):(sC n f).length=n:=by unfold sC;simp
theorem J3(h:k<n):(sC n f)[k]?=some (f k):=by unfold sC;rw[FC,cm h];rfl
theorem jV{a:List Rat}(h:a.length<=k):a.getD k 0=0:=by rw[AC,Fs h];rfl
noncomputable def iV(l:List Rat):List Rat:=(l.reverse.dropWhile λx=>decide (x=0)).reverse
theorem p9(l:List Rat):iV (l++[0])=iV l:=by unfold iV;rw[dB,ZD,Zt,dc,Bi (by simp)]
theorem qa(l:List Rat)(h:x≠0):iV (l++[x])=l++[x]:=by unfold iV;rw[dB,ZD,Zt,dc,BM (by simpa using h)];simp
theorem uf(l:List Rat):∃k,k<=l.length/\iV l=l.take k/\(k=0\/l.getD (k -1) 0≠0):=by
 generalize d:l.length=n
 induction n generalizing l with
 |zero=>have:l=[]:=PH.mp d;subst this;exact⟨0,Ee _,rfl,.inl rfl⟩
 |succ n i=>
  have b:l≠[]:=λz=>by rw[z]at d;cases d
  obtain⟨c,x,rfl⟩:∃c x,l=c++[x]:=⟨l.dropLast,l.getLast b,(sT b).symm⟩;have a:c.length=n:=by simpa using d
  by_cases e:x=0
  .subst e;obtain⟨k,j,g,f⟩:=i c a;refine⟨k,by lia,by rw[p9,g,List.take_append_of_le_length (by lia)],?_⟩;rcases f with z|z
   .exact .inl z
   .by_cases h:k=0
    .exact .inl h
    .right;rw[AC,PP (by lia),<-AC];exact z
  .refine⟨n+1,Ee _,by rw[qa _ e,Yu (by simp[a])],.inr ?_⟩;rw[Nw,AC,NA (by lia),a,t4];exact e
theorem Dd(l:List Rat):(iV l).length<=l.length:=by obtain⟨k,a,e,_⟩:=uf l;rw[e,d6];lia
def au(l:List Rat):Prop:=∀x,l.getLast?=some x->x≠0
theorem lG(l:List Rat):au (iV l):=λx a=>by
 obtain⟨k,c,e,h⟩:=uf l;rw[e]at a;rcases h with z|z
 .rw[z]at a;simp at a
 .by_cases b:k=0
  .rw[b]at a;simp at a
  .have d:(l.take k).getLast?=some (l.getD (k -1) 0):=by rw[Ki,d6,fq c,lh (by lia),AC,DL (by lia)];rfl
   rw[d]at a;rw[<-OK a];exact z
noncomputable def jW(a:List Rat):List Rat:=a.map λx=> -x
theorem Nx(d:∀x∈a,x.natAbs<2^n)(c:∀x∈bs,x.natAbs<2^m)(k:Nat):∀i,(cf a bs i k).natAbs<=i*2^(n+m)
 |0=>by show 0<=_;lia
 |i+1=>by
  have g:∀{n:Nat}{a:List Int}(h:∀x∈a,x.natAbs<2^n)(j:Nat),(a.getD j 0).natAbs<2^n:=λ{n a} h j=>by
   by_cases b:j<a.length
   .rw[AC,DL b];exact h _ (Yf b)
   .rw[AC,Fs (by lia)];exact U2 (by decide)
  have f:=Nx d c k i;have e:(a.getD i 0*(if i<=k then bs.getD (k -i) 0 else 0)).natAbs<2^(n+m):=by
   rw[HI];refine lt_mul (g d i) ?_;split
   .exact g c _
   .exact U2 (by decide)
  rw[cf,vb];omega
theorem xK(l:List Rat)(k:Nat):(l++[0]).getD k 0=l.getD k 0:=by
 rw[AC,AC];by_cases h:k<l.length
 .rw[PP h]
 .rw[NA (by lia),Fs (l:=l) (by lia)];cases a:k -l.length with
  |zero=>rfl
  |succ n=>rfl
theorem A7(l:List Rat)(k:Nat):(iV l).getD k 0=l.getD k 0:=by
 generalize b:l.length=n
 induction n generalizing l with
 |zero=>have:l=[]:=PH.mp b;subst this;rfl
 |succ n e=>
  have a:l≠[]:=λz=>by rw[z]at b;cases b
  obtain⟨c,x,rfl⟩:∃c x,l=c++[x]:=⟨l.dropLast,l.getLast a,(sT a).symm⟩;by_cases d:x=0
  .subst d;rw[p9,e c (by simpa using b),xK]
  .rw[qa _ d]
theorem lI(h:au l)(a:0<l.length):l.getD (l.length -1) 0≠0:=by refine h _ ?_;rw[Ki,DL (by omega),AC,DL (by omega)];rfl
theorem FA(g:au a)(c:au b)(h:∀k,a.getD k 0=b.getD k 0):a=b:=by
 have d:∀{a b:List Rat},au b->(∀k,a.getD k 0=b.getD k 0)->b.length<=a.length:=λ{a b} c h=>by
  rcases Nat.lt_or_ge a.length b.length with z|z
  .exact absurd ((h _).symm.trans (jV (by lia))) (lI c (by lia))
  .exact z
 have e:a.length=b.length:=ft (d g λk=>(h k).symm) (d c h);apply hV;intro k;by_cases f:k<a.length
 .have:=h k;rw[AC,AC,DL f,DL (show k<b.length by lia)]at this;rw[DL f,DL (show k<b.length by lia)];exact Q1 some this
 .rw[Fs (by lia),Fs (by lia)]
theorem uW(k:Nat):(sC n f).getD k 0=if k<n then f k else 0:=by
 by_cases h:k<n
 .rw[Bi h,AC,J3 h];rfl
 .rw[BM h];exact jV (by rw[p8];lia)
noncomputable def d8(f:Nat->Rat):Nat->Rat
 |0=>0
 |n+1=>d8 f n+f n
theorem dG:∀n,(∀i,i<n->f i=g i)->d8 f n=d8 g n
 |0,_=>rfl
 |n+1,h=>by rw[d8,d8,dG n λi a=>h i (by lia),h n (by lia)]
theorem qe:∀n,m<=n->(∀i,m<=i->i<n->f i=0)->d8 f n=d8 f m
 |0,h,_=>by
  have:m=0:=by lia
  rw[this]
 |n+1,h,z=>by
  by_cases e:m=n+1
  .rw[e]
  .rw[d8,qe n (by lia) (λi a b=>z i a (by lia)),z n (by lia) (by lia),SY]
noncomputable def aH(f g:Nat->Rat)(k:Nat):Rat:=d8 (λi=>f i*g (k -i)) (k+1)
theorem uX(c:Int)(f:Nat->Int):∀n,sm (λi=>c*f i) n=c*sm f n
 |0=>by rw[sm,sm,Qb]
 |n+1=>by rw[sm,sm,uX c f n,l5]
theorem zC(f g:Nat->Int):∀n,sm (λi=>f i+g i) n=sm f n+sm g n
 |0=>rfl
 |n+1=>by rw[sm,sm,sm,zC f g n];lia
theorem uY(p:Nat)(v:Nat->Int):∀n,sm (λi=>if i=p then v i else 0) n=if p<n then v p else 0
 |0=>by rw[sm,BM (by lia)]
 |n+1=>by
  rw[sm,uY p v n];by_cases h:p<n
  .rw[Bi h,BM (by lia),Bi (by lia)];lia
  .rw[BM h];by_cases e:n=p
   .subst e;rw[Bi rfl,Bi (by lia)];lia
   .rw[BM e,BM (by lia)];lia
noncomputable def ku(f g:Nat->Int)(k:Nat):Int:=sm (λi=>f i*g (k -i)) (k+1)
theorem J5(c h:Int)(Q O:Nat->Int)(p k:Nat):ku (λi=>c*Q i+if i=p then h else 0) O k=c*ku Q O k+if p<=k then h*O (k -p)else 0:=by
 unfold ku;rw[iy (g:=λi=>c*(Q i*O (k -i))+if i=p then h*O (k -i)else 0) (k+1) λi _=>?_,zC,uX,uY p λi=>h*O (k -i)]
 .by_cases a:p<=k
  .rw[Bi a,Bi (show p<k+1 by lia)]
  .rw[BM a,BM (show¬p<k+1 by lia)]
 .split
  .grind
  .grind
theorem J6(O:Nat->Int)(k:Nat):ku (λ_=>0) O k=0:=by unfold ku;rw[iy (g:=λi=>0*0) (k+1) λi _=>by rw[bo,bo],uX,bo]
theorem J7{A C:Rat}(c:∀i,f i*A=F i)(b:∀i,g i*C=G i)(k:Nat):aH f g k*(A*C)=((ku F G k:Int):Rat):=by
 unfold aH ku;have:∀n,d8 (λi=>f i*g (k -i)) n*(A*C)=((sm (λi=>F i*G (k -i)) n:Int):Rat):=λn=>by
  induction n with
  |zero=>show 0*(A*C)=((0:Int):Rat);grind
  |succ n a=>rw[d8,sm,eI,FM,<-a,<-c n,<-b (k -n)];grind
 exact this _
def zD(ns ms:List Int)(l:Int)(s:Nat)(Q:Nat->Int)(R:List Int):Prop:=∀k,l^s*ns.getD k 0=ku Q (λi=>ms.getD i 0) k+R.getD k 0
theorem zD.start(ns ms:List Int)(l:Int):zD ns ms l 0 (λ_=>0) ns:=λk=>by rw[J6,Os];lia
theorem outI{ns:List Int}(h:ns.length<=k):ns.getD k 0=0:=by rw[AC,Fs h];rfl
theorem zD.step(h:zD ns ms l s Q R)(j:0<ms.length)(b:l=ms.getD (ms.length -1) 0)(m:R.length=p+ms.length)(c:R'.length=p+ms.length -1)
 (a:∀k,k<p+ms.length -1->R'.getD k 0=l*R.getD k 0 -if p<=k then R.getD (p+ms.length -1) 0*ms.getD (k -p) 0 else 0):
 zD ns ms l (s+1) (λi=>l*Q i+if i=p then R.getD (p+ms.length -1) 0 else 0) R':=λk=>by
 rw[J5,GM];have e:=h k;have g:l^s*l*ns.getD k 0=l*ku Q (λi=>ms.getD i 0) k+l*R.getD k 0:=by rw[<-l5,<-e];grind
 rw[g];by_cases f:k<p+ms.length -1
 .rw[a k f];lia
 .by_cases d:k=p+ms.length -1
  .subst d;rw[outI (ns:=R') (by lia),Bi (by lia),show p+ms.length -1 -p=ms.length -1 by lia,<-b];grind
  .rw[outI (ns:=R) (k:=k) (by lia),outI (ns:=R') (by lia)];split
   .rw[outI (ns:=ms) (by lia)];grind
   .grind
def Cd(D:Int)(n:Nat)(x:Rat):Prop:=∃z:Int,x*D=z/\z.natAbs<2^n
theorem Cd.dvd(h:Cd D n x):(x.den:Int)∣D/\(x.num*(D/x.den)).natAbs<2^n:=by
 obtain⟨z,a,f⟩:=h;have e:x.num*D=z*x.den:=by
  have e:=eT x;have:((x.num*D:Int):Rat)=((z*x.den:Int):Rat):=by rw[FM,FM,<-e,<-a];grind
  exact mB.mp this
 have d:(x.den:Int)∣D:=by have c:d3 x.den x.num.natAbs:=mi x.reduced;have b:x.den∣x.num.natAbs*D.natAbs:=⟨z.natAbs,by have:=Q1 YJ e;rw[HI,HI,D3]at this;rw[this,bb]⟩;have:=c.dvd_of_dvd_mul_left b;rw[<-D3 x.den]at this;exact Tb.mp this
 refine⟨d,?_⟩;have:((x.num*(D/x.den):Int):Rat)=(z:Rat):=by rw[gI d,a]
 rw[mB.mp this];exact f
theorem xM(h:Bn a b=1)(e:a∣b*c):a∣c:=by
 have d:a.natAbs∣b.natAbs*c.natAbs:=by rw[<-HI];exact Tb.mpr e
 exact Tb.mp (mm (show d3 a.natAbs b.natAbs from h) d)
theorem FD(k:d≠0)(m:B∣D)(l:d∣D):B/(Bn B d:Nat)*d∣D:=by
 obtain⟨x,y,b,c,a,j⟩:=A3 B d k;rw[show B/((Bn B d:Nat):Int)=x from Num.JZ b j];obtain⟨u,f⟩:=m;obtain⟨v,i⟩:=l;generalize((Bn B d:Nat):Int)=g at*;have e:x*u=y*v:=by
  have:g*(x*u)=g*(y*v):=by rw[<-X2,<-X2,<-b,<-c,<-f,<-i]
  exact Qr (by lia) this
 obtain⟨w,h⟩:y∣u:=xM (by rw[Int.gcd_comm];exact a) ⟨v,e⟩;refine⟨w,?_⟩;rw[f,b,h,c];grind
theorem J8(h:iu ns ms)(k:Nat):ms.getD k 0=ns.getD k 0:=by
 obtain⟨j,d,rfl,b,_⟩:=h;by_cases c:k<j
 .rw[AC,lh c,<-AC]
 .rw[outI (by rw[d6];lia)];by_cases a:k<ns.length
  .exact(b k (by lia) a).symm
  .exact(outI (by lia)).symm
theorem xN(h:iu ns ms):ms.length<=ns.length:=by obtain⟨j,a,rfl,_⟩:=h;rw[d6];lia
theorem FE{l:Int}(h:l.natAbs<2^M):(l^i).natAbs<=2^(M*i):=by rw[g6,i3];exact Wp (QR h) _
theorem Ka(b:x<2^n)(a:y<=2^m):x*y<2^(n+m):=by rw[Y1];exact IH (FV _ a) (t5 b (U2 (by decide)))
end Num
namespace Sub
abbrev Ix:=Bool×Nat
abbrev Vc:=Ix->Int
noncomputable def ex(D:List Vc->Int)(r:Ix):List Vc->List Vc->Int
 |_,[]=>0
 |pre,c::post=>c r*D (pre++post) -ex D r (pre++[c]) post
noncomputable def det:List Ix->List Vc->Int
 |[],[]=>1
 |[],_::_=>0
 |r::a,cs=>ex (det a) r [] cs
def Alt(D:List Vc->Int):Prop:=∀(p q:List Vc)(a b:Vc),D (p++a::b::q)= -D (p++b::a::q)
def Ua(D:List Vc->Int):Prop:=∀(p q:List Vc)(x y:Int)(a b:Vc),D (p++(λi=>x*a i+y*b i)::q)=x*D (p++a::q)+y*D (p++b::q)
theorem A8(h:Alt D)(r:Ix):∀(d p q:List Vc)(a b:Vc),ex D r (p++a::b::q) d= -ex D r (p++b::a::q) d
 |[],_,_,_,_=>rfl
 |c::d,p,q,a,b=>by have ih:=A8 h r d p (q++[c]) a b;have e:=h p (q++d) a b;simp only[ex,Pv,D4]at ih e⊢;rw[e,ih];grind
theorem A9(h:Alt D)(r:Ix):∀(p d q:List Vc)(a b:Vc),ex D r d (p++a::b::q)= -ex D r d (p++b::a::q)
 |[],d,q,a,b=>by have e:=A8 h r q d [] a b;simp only[ex,Cv,Pv,D4]at e⊢;rw[e];grind
 |c::p,d,q,a,b=>by have f:=A9 h r p (d++[c]) q a b;have e:=h (d++p) q a b;simp only[ex,D4,Pv]at f e⊢;rw[e,f];grind
theorem oW:∀c:List Ix,Alt (det c)
 |[]=>λp q a b=>by
  cases p<;>rfl
 |r::c=>λp q a b=>A9 (oW c) r p [] q a b
theorem Ba(h:Ua D)(r:Ix):∀(d p q:List Vc)(x y:Int)(a b:Vc),ex D r (p++(λi=>x*a i+y*b i)::q) d=x*ex D r (p++a::q) d+y*ex D r (p++b::q) d
 |[],_,_,_,_,_,_=>by simp[ex]
 |c::d,p,q,x,y,a,b=>by have ih:=Ba h r d p (q++[c]) x y a b;have e:=h p (q++d) x y a b;simp only[ex,Pv,D4]at ih e⊢;rw[e,ih];grind
theorem Bb(h:Ua D)(r:Ix):∀(p d q:List Vc)(x y:Int)(a b:Vc),ex D r d (p++(λi=>x*a i+y*b i)::q)=x*ex D r d (p++a::q)+y*ex D r d (p++b::q)
 |[],d,q,x,y,a,b=>by have e:=Ba h r q d [] x y a b;simp only[ex,Cv]at e⊢;rw[e];grind
 |c::p,d,q,x,y,a,b=>by have f:=Bb h r p (d++[c]) q x y a b;have e:=h (d++p) q x y a b;simp only[ex,D4,Pv]at f e⊢;rw[e,f];grind
theorem uZ:∀c:List Ix,Ua (det c)
 |[]=>λp q x y a b=>by
  cases p<;>simp[det]
 |r::c=>λp q x y a b=>Bb (uZ c) r p [] q x y a b
theorem Bc:∀(a b:List Vc),(∀c∈a,c r=0)->ex D r b a=0
 |[],_,_=>rfl
 |c::a,b,h=>by rw[ex,h c FK,Bc a _ λd e=>h d (FS _ e)];simp
theorem ug(h:∀d∈cs,d r=0):det (r::a) (c::cs)=c r*det a cs:=by rw[det,ex,Bc cs _ h,Cv,xk]
theorem xO(h:Alt D):∀(u p v:List Vc)(a:Vc),D (p++a::(u++a::v))=0
 |[],p,v,a=>by have:=h p v a a;simp only[Cv]at this⊢;lia
 |c::u,p,v,a=>by have e:=h p (u++a::v) a c;have b:=xO h u (p++[c]) v a;simp only[Pv,D4,Cv]at b e⊢;rw[e,b];rfl
theorem Kc(h:Alt D)(c:Ua D){p q:List Vc}(x y:Int)(d:b∈q):D (p++(λi=>x*a i+y*b i)::q)=x*D (p++a::q):=by obtain⟨u,v,rfl⟩:=List.append_of_mem d;rw[c,xO h u p v b,Qb,fo]
noncomputable def sg(n:Nat):Int:=(-1)^n
theorem xP(h:Alt D):∀(u p q:List Vc)(a:Vc),D (p++a::(u++q))=sg u.length*D (p++(u++a::q))
 |[],p,q,a=>by simp[sg]
 |c::u,p,q,a=>by have e:=h p (u++q) a c;have b:=xP h u (p++[c]) q a;simp only[Pv,D4,Cv,BL]at b e⊢;rw[e,b];unfold sg;rw[GM];grind
theorem xQ(h:Alt D):∀(w p u q:List Vc),D (p++(w++(u++q)))=sg (u.length*w.length)*D (p++(u++(w++q)))
 |[],p,u,q=>by simp[sg]
 |a::w,p,u,q=>by have ih:=xQ h w (p++[a]) u q;have e:=xP h u p (w++q) a;simp only[Pv,D4,Cv,BL]at ih e⊢;rw[ih,e];unfold sg;rw[T5,ml];grind
noncomputable def sh(j:Nat)(P:Vc):Vc:=λi=>if j<=i.2 then P (i.1,i.2 -j)else 0
noncomputable def oX(P:Vc):Nat->List Vc
 |0=>[]
 |n+1=>sh n P::oX P n
noncomputable def rws:Nat->Nat->List Ix
 |_,0=>[]
 |0,_+1=>[]
 |E+1,c+1=>(false,E)::rws E c
theorem xR(E:Nat):rws E 0=[]:=by cases E<;>rfl
theorem Kd(P:Vc):sh 0 P=P:=by funext i;unfold sh;rw[Bi (PQ _)];rfl
theorem VN(j s:Nat)(P:Vc):sh j (sh s P)=sh (s+j) P:=by
 funext i;unfold sh;by_cases h:j<=i.2
 .rw[Bi h];by_cases a:s+j<=i.2
  .rw[Bi a,Bi (by show s<=i.2 -j;lia)];show P (i.1,i.2 -j -s)=P (i.1,i.2 -(s+j));congr 2;lia
  .rw[BM a,BM (by show¬s<=i.2 -j;lia)]
 .rw[BM h,BM (by lia)]
theorem oY(P:Vc):∀n,(oX P n).length=n
 |0=>rfl
 |n+1=>by rw[oX,BL,oY P n]
theorem Be:∀{n i:Nat},i<n->sh i P∈oX P n
 |n+1,i,h=>by
  rw[oX];by_cases e:i=n
  .rw[e];exact FK
  .exact FS _ (Be (by lia))
theorem qf:∀{n:Nat}{d:Vc},d∈oX P n->∃i,i<n/\d=sh i P
 |n+1,d,h=>by
  rw[oX]at h;rcases Hk.mp h with h|h
  .exact⟨n,by lia,h⟩
  .obtain⟨i,a,e⟩:=qf h;exact⟨i,by lia,e⟩
theorem Px(a:B (false,n)=l)(hz:∀t,n<t->B (false,t)=0)(f:∀d∈cs,∀t,n+b<=t->d (false,t)=0):
 ∀s,det (rws (n+b+s) (c+s)++tl) (oX B (b+s)++cs)=l^s*det (rws (n+b) c++tl) (oX B b++cs)
 |0=>by simp
 |s+1=>by
  show det ((false,n+b+s)::(rws (n+b+s) (c+s)++tl)) (sh (b+s) B::(oX B (b+s)++cs))=_;rw[ug,Px a hz f s]
  .have e:sh (b+s) B (false,n+b+s)=l:=by unfold sh;rw[Bi (by show b+s<=n+b+s;lia),<-a];show B (false,n+b+s -(b+s))=_;congr 2;lia
   rw[e,GM];grind
  .intro d g;rcases Re.mp g with h|h
   .obtain⟨i,j,rfl⟩:=qf h;unfold sh;split
    .exact hz _ (by show n<n+b+s -i;lia)
    .rfl
   .exact f d h _ (by lia)
noncomputable def comb(c:Int)(a:Vc):List (Int×Vc)->Vc
 |[]=>λi=>c*a i+0*a i
 |z::L=>λi=>1*comb c a L i+z.1*z.2 i
theorem xS(h:Alt D)(b:Ua D):∀{L:List (Int×Vc)},(∀z∈L,z.2∈q)->D (p++comb c a L::q)=c*D (p++a::q)
 |[],_=>by rw[comb,b];grind
 |z::L,d=>by rw[comb,Kc h b _ _ (d z FK),xS h b λy e=>d y (FS _ e),cx]
theorem Bf(j:Nat)(c:Int)(a:Vc):∀L:List (Int×Vc),sh j (comb c a L)=comb c (sh j a) (L.map λz=>(z.1,sh j z.2))
 |[]=>by funext i;show sh j (comb c a []) i=c*sh j a i+0*sh j a i;unfold sh comb;split<;>simp
 |z::L=>by
  funext i;have ih:=tj (Bf j c a L) i;show sh j (comb c a (z::L)) i=1*comb c (sh j a) (L.map λz=>(z.1,sh j z.2)) i+z.1*sh j z.2 i;rw[<-ih];unfold sh;split
  .rfl
  .simp
theorem qg(h:Alt D)(d:Ua D):∀(a:Nat)(p:List Vc),(∀z∈L,∀j,j<a->sh j z.2∈q)->D (p++(oX (comb c A L) a++q))=c^a*D (p++(oX A a++q))
 |0,p,_=>by simp[oX]
 |a+1,p,b=>by
  have ih:=qg h d (c:=c) (A:=A) a (p++[sh a A]) λz hz j f=>b z hz j (by lia);rw[oX,oX,D4,Bf,xS h d (λz hz=>?_)]
  .simp only[Pv,D4,Cv]at ih⊢;rw[ih,GM];grind
  .obtain⟨y,e,rfl⟩:=Pm.mp hz;exact Mo _ (b y e a (by lia))
noncomputable def SS(E:Nat)(A B:Vc)(a b:Nat)(c:Ix):Int:=det (rws E (a+b -1)++[c]) (oX A a++oX B b)
noncomputable def less(c:Int)(A B:Vc)(L:List (Int×Nat)):Vc:=comb c A (L.map λz=>(z.1,sh z.2 B))
theorem Bg(h:∀z∈L,z.2+a<=b)(d:Ix):SS E (less c A B L) B a b d=c^a*SS E A B a b d:=by
 unfold SS less;have e:=qg (oW (rws E (a+b -1)++[d])) (uZ _) (q:=oX B b) (c:=c) (A:=A) (L:=L.map λz=>(z.1,sh z.2 B)) a [] λz hz j g=>by obtain⟨y,f,rfl⟩:=Pm.mp hz;rw[VN];have:=h y f;exact Be (by lia)
 simp only[Cv]at e;exact e
theorem FF(h:∀i,R i=c*P i)(b a:Nat)(d:Ix):SS E B R b a d=c^a*SS E B P b a d:=by
 have f:R=comb c P []:=funext λi=>by rw[h i];show _=c*P i+0*P i;simp
 unfold SS;have e:=qg (oW (rws E (b+a -1)++[d])) (uZ _) (q:=[]) (c:=c) (A:=P) (L:=[]) a (oX B b) λz hz=>nomatch hz;simp only[eM]at e;rw[f,e]
theorem Bh(f:B (false,n)=l)(hz:∀t,n<t->B (false,t)=0)(h:∀t,z<=t->R (false,t)=0)(o:1<=a)(m:z+a<=n+b+1)(c:Ix):
 SS (n+b+s) R B a (b+s) c=sg ((b+s)*a)*(l^s*SS (n+b) B R b a c):=by
 unfold SS;have e:=xQ (oW (rws (n+b+s) (a+(b+s) -1)++[c])) (oX R a) [] (oX B (b+s)) [];simp only[Cv,eM,oY]at e;rw[e];congr 1;rw[show a+(b+s) -1=b+a -1+s by lia];refine Px f hz (λd g t j=>?_) s;obtain⟨i,k,rfl⟩:=qf g;unfold sh;split
 .exact h _ (by show z<=t -i;lia)
 .rfl
theorem FG(E:Nat)(B R:Vc)(a:Ix):SS E B R 0 1 a=R a:=by unfold SS;show det (rws E 0++[a]) (sh 0 R::[])=_;rw[xR,Cv,Kd,ug (cs:=[]) (by intro d b;cases b)];show R a*1=R a;rw[d5]
theorem Ke(f:B (false,n)=l)(hz:∀t,n<t->B (false,t)=0)(s:Nat)(a:Ix):SS (n+1+s) A B 0 (1+s) a=l^s*B a:=by unfold SS;rw[show 0+(1+s) -1=0+s by lia];have e:=Px f hz (cs:=[]) (b:=1) (c:=0) (tl:=[a]) (λd g=>nomatch g) s;simp only[eM]at e;show det (rws (n+1+s) (0+s)++[a]) ([]++oX B (1+s))=_;rw[Cv,e];congr 1;exact FG (n+1) A B a
def FH(a:Int):Prop:=a=1\/a= -1
theorem FH.sq(h:FH a):a*a=1:=by rcases h with rfl|rfl<;>rfl
theorem FH.mul(h:FH a)(c:FH b):FH (a*b):=by rcases h with rfl|rfl<;>rcases c with rfl|rfl<;>first|exact .inl rfl|exact .inr rfl
theorem qh:∀n,FH (sg n)
 |0=>.inl rfl
 |n+1=>by have:=qh n;unfold sg at this⊢;rw[GM];exact this.mul (.inr rfl)
theorem dH{x:Int}(h:x≠0):∀n:Nat,x^n≠0
 |0=>by rw[Os];decide
 |n+1=>by rw[GM];exact Pi (dH h n) h
theorem FI(x y:Int):∀n:Nat,(x*y)^n=x^n*y^n
 |0=>by rw[Os,Os,Os];rfl
 |n+1=>by rw[GM,GM,GM,FI x y n];generalize x^n=a;generalize y^n=b;grind
theorem FJ(x:Int)(m:Nat):∀n:Nat,(x^m)^n=x^(m*n)
 |0=>by rw[Zi,Os,Os]
 |n+1=>by rw[GM,FJ x m n,T5,ml]
theorem FN{l h h':Int}(e:h'*h^b=l^b*h):∀a:Nat,(l^(b+1))^(a+1)*h^(b+a)=l^(b+(a+1))*h^(b*(a+1))*h'^a
 |0=>by rw[ik,dg,Os,d5,Ux];simp
 |a+1=>by
  have ih:=FN e a;have d:(l^(b+1))^(a+1+1)*h^(b+(a+1))=((l^(b+1))^(a+1)*h^(b+a))*(l*(l^b*h)):=by rw[GM (l^(b+1)) (a+1),<-kz b a 1,GM h (b+a),GM l b];generalize(l^b*l)^(a+1)=x;generalize h^(b+a)=y;generalize l^b=z;grind
  have c:l^(b+(a+1+1))*h^(b*(a+1+1))*h'^(a+1)=(l^(b+(a+1))*h^(b*(a+1))*h'^a)*(l*(h'*h^b)):=by rw[<-kz b (a+1) 1,GM l (b+(a+1)),T5 b (a+1),ml h (b*(a+1)) b,GM h' a];generalize l^(b+(a+1))=x;generalize h^(b*(a+1))=y;generalize h^b=z;generalize h'^a=u;grind
  rw[d,c,ih,e]
structure Ch(A B:Vc)(m n:Nat)(P Q:Vc)(p q:Nat)(lp lq h:Int):Prop where
 hpq:q<=p
 ZA:lp≠0
 h0:h≠0
 De:lq≠0
 lead:Q (false,q)=lq
 zero:∀t,q<t->Q (false,t)=0
 inv:∀k,k<=q->k<p->∃ε:Int,FH ε/\∀ρ,SS (p+q -k) P Q (q -k) (p -k) ρ=ε*(lp^(q -k)*h^(p -k -1))*SS (m+n -k) A B (n -k) (m -k) ρ
theorem Ch.start(h:n<=m)(b:B (false,n)=l)(a:l≠0)(hz:∀t,n<t->B (false,t)=0):Ch A B m n A B m n 1 l 1:=
 ⟨h,by decide,by decide,a,b,hz,λk _ _=>⟨1,.inl rfl,λc=>by rw[l0,l0];simp⟩⟩
theorem Ch.rest(H:Ch A B m n P Q p q g f h)(y:1<=q)(r:∀z∈L,z.2<=p -q)(o:∀t,q<=t->less (f^(p -q+1)) P Q L (false,t)=0):
 ∃e:Int,FH e/\∀d,less (f^(p -q+1)) P Q L d=e*(g*h^(p -q))*SS (m+n -(q -1)) A B (n -(q -1)) (m -(q -1)) d:=by
 have hpq:=H.hpq;obtain⟨e,x,inv⟩:=H.inv (q -1) (by lia) (by lia);refine⟨sg (p -q+1)*e,(qh _).mul x,λd=>?_⟩;have k:=inv d;rw[show p+q -(q -1)=q+0+(p -q+1) by lia,show q -(q -1)=1 by lia,show p -(q -1)=0+(p -q+1) by lia,show 0+(p -q+1) -1=p -q by lia,dg]at k;have v:=Bg (E:=q+0+(p -q+1)) (A:=P) (B:=Q) (c:=f^(p -q+1)) (L:=L) (a:=1) (b:=0+(p -q+1)) (λz hz=>by have:=r z hz;lia) d;have j:=Bh H.lead H.zero (z:=q) (a:=1) (b:=0) (s:=p -q+1) o (Ee _) (by lia) d;rw[v,FG,dg,show(0+(p -q+1))*1=p -q+1 by lia,k]at j;have w:=dH H.De (p -q+1);have l:=(qh (p -q+1)).sq;generalize f^(p -q+1)=c at*;generalize less c P Q L d=R at*;generalize sg (p -q+1)=s at*;generalize h^(p -q)=i at*;generalize SS (m+n -(q -1)) A B (n -(q -1)) (m -(q -1)) d=S at*;have u:c*R=c*(s*e*(g*i)*S):=by
  have:c*(s*e*(g*i)*S)=s*(c*(e*(g*i)*S)):=by grind
  rw[this,j];have:s*(s*(c*R))=s*s*(c*R):=by grind
  rw[this,l,cx]
 exact Qr w u
theorem Ch.step(H:Ch A B m n P Q p q g d h)(T:∀z∈L,z.2<=p -q)(I:∀e,less (d^(p -q+1)) P Q L e=(g*h^(p -q))*j e)(N:r<q)(O:j (false,r)=o)(M:o≠0)(hz:∀t,r<t->j (false,t)=0)
 (D:h'*h^(p -q)=d^(p -q)*h):Ch A B m n Q j q r d o h':=by
 have hpq:=H.hpq;have F:h'≠0:=λz=>by rw[z,bo]at D;exact Pi (dH H.De _) H.h0 D.symm
 refine⟨by lia,H.De,F,M,O,hz,λk C f=>?_⟩;obtain⟨l,Py,inv⟩:=H.inv k (by lia) (by lia);refine⟨sg ((p -k)*(q -k))*l,(qh _).mul Py,λe=>?_⟩;have e0:=inv e;have e1:=Bg (E:=p+q -k) (A:=P) (B:=Q) (c:=d^(p -q+1)) (L:=L) (a:=q -k) (b:=p -k) (λz hz=>by have:=T z hz;lia) e;have G:=Bh (R:=less (d^(p -q+1)) P Q L) H.lead H.zero (z:=r+1) (a:=q -k) (b:=r -k) (s:=p -r) (λt ht=>by rw[I,hz t (by lia),Qb]) (by lia) (by lia) e;rw[FF I,show q+(r -k)+(p -r)=p+q -k by lia,show r -k+(p -r)=p -k by lia,e1,e0,show q+(r -k)=q+r -k by lia]at G;have i:=FN D (q -k -1);have K:=(qh ((p -k)*(q -k))).sq;have ck:(g*h^(p -q))^(q -k)=g^(q -k)*h^((p -q)*(q -k)):=by rw[FI,FJ]
 have J:d^(p -r)*(g*h^(p -q))^(q -k)≠0:=Pi (dH H.De _) (dH (Pi H.ZA (dH H.h0 _)) _);refine Qr J ?_;rw[Nat.sub_add_cancel (uj f),show p -q+(q -k -1)=p -k -1 by rw[bg,xI hpq f,bg],show p -q+(q -k)=(p -r)+(r -k) by rw[xI hpq (QR f),xI (Do (QR N) hpq) C],ml d (p -r) (r -k)]at i;rw[ck]at G⊢;generalize SS (q+r -k) Q j (r -k) (q -k) e=X at*;generalize SS (m+n -k) A B (n -k) (m -k) e=S at*;generalize sg ((p -k)*(q -k))=s at*;generalize(d^(p -q+1))^(q -k)=c at*;generalize g^(q -k)=u at*;generalize h^(p -k -1)=v at*;generalize d^(p -r)=x at*;generalize h^((p -q)*(q -k))=y at*;generalize d^(r -k)=z at*;generalize h'^(q -k -1)=w at*;have Z:x*(u*y)*X=s*s*(x*(u*y)*X):=by rw[K,cx]
 have Y:s*s*(x*(u*y)*X)=s*(s*(x*(u*y*X))):=by grind
 rw[Z,Y,<-G];have U:s*(c*(l*(u*v)*S))=s*l*u*S*(c*v):=by grind
 rw[U,i];grind
end Sub
namespace Sub
open Num
theorem Ny:∀(a e:List Vc),(∀c∈a,(c r).natAbs<=M)->(∀u,(∀c∈u,c∈e\/c∈a)->u.length+1=e.length+a.length->(D u).natAbs<=b)->(ex D r e a).natAbs<=a.length*(M*b)
 |[],_,_,_=>by simp[ex]
 |c::a,e,h,g=>by
  rw[ex];have h1:=h c FK;have k:=g (e++a) (λd f=>by
   rcases Re.mp f with z|z
   .exact .inl z
   .exact .inr (FS _ z)) (by simp only[KM,BL];lia)
  have l:=Ny (D:=D) (r:=r) (M:=M) (b:=b) a (e++[c]) (λd f=>h d (FS _ f)) (λu i j=>g u (λd f=>by
   rcases i d f with z|z
   .rcases Re.mp z with y|y
    .exact .inl y
    .rw[FR]at y;rw[y];exact .inr FK
   .exact .inr (FS _ z)) (by simp only[KM,BL,Wt]at j⊢;lia))
  have o:(c r*D (e++a)).natAbs<=M*b:=by rw[HI];exact Pt h1 k
  have n:(c r*D (e++a) -ex D r (e++[c]) a).natAbs<=(c r*D (e++a)).natAbs+(ex D r (e++[c]) a).natAbs:=by omega
  have m:(c::a).length*(M*b)=a.length*(M*b)+M*b:=by rw[BL,Sx]
  omega
theorem FO:∀(a:List Ix)(cs:List Vc),cs.length<=N->(∀c∈cs,∀i,(c i).natAbs<=M)->(det a cs).natAbs<=(N*M)^a.length
 |[],[],_,_=>by simp[det]
 |[],_::_,_,_=>by simp[det]
 |r::a,cs,h,f=>by
  rw[det];have:=Ny (D:=det a) (r:=r) (M:=M) (b:=(N*M)^a.length) cs [] (λc e=>f c e r) (λu g d=>FO a u (by simp only[Wt]at d;lia) λc e=>by
   rcases g c e with z|z
   .cases z
   .exact f c z)
  refine Do this ?_;rw[BL,Gg];have k:cs.length*(M*(N*M)^a.length)<=N*(M*(N*M)^a.length):=SF _ h;have j:N*(M*(N*M)^a.length)=(N*M)^a.length*(N*M):=by generalize(N*M)^a.length=x;grind
  lia
theorem Bj:∀(c E:Nat),(rws E c).length<=c
 |0,E=>by rw[xR];exact Ee _
 |c+1,0=>PQ _
 |c+1,E+1=>by show(rws E c).length+1<=c+1;have:=Bj c E;lia
theorem Nz(h:∀i,(P i).natAbs<=M)(j:Nat)(i:Ix):(sh j P i).natAbs<=M:=by
 unfold sh;split
 .exact h _
 .exact PQ _
theorem VO(l:∀i,(A i).natAbs<=M)(k:∀i,(B i).natAbs<=M)(g:a+b<=N)(m:1<=a+b)(f:1<=N*M)(E:Nat)(d:Ix):(SS E A B a b d).natAbs<=(N*M)^(a+b):=by
 unfold SS;have:=FO (N:=N) (M:=M) (rws E (a+b -1)++[d]) (oX A a++oX B b) (by rw[KM,oY,oY];exact g) (λc e i=>by
  rcases Re.mp e with h|h
  .obtain⟨j,_,rfl⟩:=qf h;exact Nz l j i
  .obtain⟨j,_,rfl⟩:=qf h;exact Nz k j i)
 refine Do this (IR f ?_);have:=Bj (a+b -1) E;rw[KM];show _+1<=_;omega
theorem FH.abs(h:FH a):(a*x).natAbs=x.natAbs:=by rcases h with rfl|rfl<;>lia
theorem Ch.Kf(H:Ch A B m n P Q p q e a h)(f:q<p):∃S:Int,a^(p -q)=h^(p -q -1)*S/\S.natAbs=(SS (m+n -q) A B (n -q) (m -q) (false,q)).natAbs:=by
 obtain⟨c,j,inv⟩:=H.inv q (Ee _) f;obtain⟨d,k⟩:∃d,p=q+1+d:=⟨p -q -1,by lia⟩;have b:=inv (false,q);have i:=Ke (A:=P) H.lead H.zero d (false,q);rw[show p+q -q=q+1+d by lia,show q -q=0 by lia,show p -q=1+d by lia,i,H.lead,show 1+d -1=d by lia,Os,cx]at b;have g:a^(p -q)=a^d*a:=by rw[<-GM];congr 1;lia
 refine⟨c*SS (m+n -q) A B (n -q) (m -q) (false,q),?_,j.abs⟩;rw[g,b,show p -q -1=d by lia];generalize SS (m+n -q) A B (n -q) (m -q) (false,q)=S;generalize h^d=x;grind
noncomputable def vc(r f:List Int):Vc:=λi=>if i.1 then f.getD i.2 0 else r.getD i.2 0
noncomputable def sD(a:List Int):Nat->List (Int×Nat)
 |0=>[]
 |n+1=>(-(a.getD n 0),n)::sD a n
theorem Bk:∀{n:Nat}{z:Int×Nat},z∈sD a n->z.2<n
 |n+1,z,h=>by
  rcases Hk.mp h with rfl|h
  .exact RF n
  .exact dt (Bk h)
theorem Bm(c:Int)(A B:Vc)(a:List Int)(i:Ix):∀n,less c A B (sD a n) i=c*A i -sm (λj=>a.getD j 0*(if j<=i.2 then B (i.1,i.2 -j)else 0)) n
 |0=>by show c*A i+0*A i=c*A i -0;simp
 |n+1=>by
  have ih:=Bm c A B a i n;show 1*less c A B (sD a n) i+ -(a.getD n 0)*sh n B i=_;rw[ih,sm];have e:sh n B i=if n<=i.2 then B (i.1,i.2 -n)else 0:=rfl
  rw[e];generalize(if n<=i.2 then B (i.1,i.2 -n)else 0)=x;generalize sm _ n=y;generalize a.getD n 0=z;grind
theorem Kg(c:Int)(P e Q d a:List Int)(b:Bool)(t:Nat):less c (vc P e) (vc Q d) (sD a a.length) (b,t)=c*(if b then e else P).getD t 0 -cf a (if b then d else Q) a.length t:=by
 rw[Bm,xJ];cases b
 .rfl
 .rfl
end Sub
namespace Num
theorem Kh(h:∀i,1<=i->f i=0)(k:Nat):aH f g k=f 0*g k:=by unfold aH;rw[qe (m:=1) (k+1) (by lia) λi a _=>by rw[h i a,X9]];show 0+f 0*g (k -0)=_;rw[Km,i5]
end Num
namespace Sub
open Num
structure CS(ns ms f0 g0:List Int)(w E b1:Nat)(P Q fP fQ:List Int)(ld h:Int):Prop where
 ch:Ch (vc ns f0) (vc ms g0) (ns.length -1) (ms.length -1) (vc P fP) (vc Q fQ) (P.length -1) (Q.length -1) ld (Q.getD (Q.length -1) 0) h
 lq:0<Q.length
 Eh:Q.length<=P.length
 lp:P.length<=ns.length
 FP:Q.length<=ms.length
 lf:fP.length+Q.length<=b1
 ZC:fQ=[]\/fQ.length+P.length<=b1
 bP:∀i,(vc P fP i).natAbs<=2^(w*(ns.length -1+(ms.length -1)+1))
 bQ:∀i,(vc Q fQ i).natAbs<=2^(w*(ns.length -1+(ms.length -1)+1))
 bl:ld.natAbs<=2^(w*(ns.length -1+(ms.length -1)+1))
 bh:h.natAbs<=2^(w*(ns.length -1+(ms.length -1) -2*(P.length -1)))
structure FX(ns ms f0 g0:List Int)(w E:Nat):Prop where
 l1:ms.length<=ns.length
 l2:ns.length<=50
 M:∃M:Nat,(∀i,(vc ns f0 i).natAbs<=M)/\(∀i,(vc ms g0 i).natAbs<=M)/\1<=M/\(ns.length -1+(ms.length -1)+1)*M<=2^w
 E1:∀p,(ns.length -1+(ms.length -1) -2*p)*p+(ns.length -1+(ms.length -1)+1)<=E
theorem iA(x:Int):∀n:Nat,(x^n).natAbs=x.natAbs^n
 |0=>by simp
 |n+1=>by rw[GM,HI,iA x n,Gg]
theorem Kl(f:k<=b)(e:k<=a):b -k+(a -k)=a+b -2*k:=by obtain⟨c,rfl⟩:=Yk f;obtain⟨d,rfl⟩:=Yk e;rw[Ya,Ya,show k+d+(k+c)=c+d+2*k by lia,Nw]
theorem VQ(F:FX ns ms f d w E)(c:k<=ms.length -1)(n:1<=(ms.length -1 -k)+(ns.length -1 -k))(e:Nat)(a:Ix):
 (SS e (vc ns f) (vc ms d) (ms.length -1 -k) (ns.length -1 -k) a).natAbs<=2^(w*(ns.length -1+(ms.length -1) -2*k)):=by
 obtain⟨M,j,i,h,g⟩:=F.M;have l1:=F.l1;have m:1<=(ns.length -1+(ms.length -1)+1)*M:=Pt (show 1<=ns.length -1+(ms.length -1)+1 by lia) h;have l:=Do c (rg l1 1);have b:=VO (N:=ns.length -1+(ms.length -1)+1) j i (Td (by rw[xb];exact yA (x5 _ _) (x5 _ _))) n m e a;refine Do b ?_;rw[i3,Kl c l];exact Wp g _
theorem getD_mem'{ns:List Int}(h:k<ns.length):ns.getD k 0∈ns:=by rw[AC,DL h];exact Yf h
theorem mem_getD{ns:List Int}(h:x∈ns):∃k,k<ns.length/\ns.getD k 0=x:=by obtain⟨i,a,e⟩:=Ta h;exact⟨i,a,by rw[AC,DL a,<-e];rfl⟩
theorem map_getD{ns:List Int}{f:Int->Int}(a:f 0=0)(k:Nat):(ns.map f).getD k 0=f (ns.getD k 0):=by
 rw[AC,FC,AC];cases ns[k]? with
 |none=>exact a.symm
 |some z=>rfl
noncomputable def hnext(h l:Int)(a:Nat):Int:=if a=0 then h else(l^a).fdiv (h^(a -1))
theorem CS.step{ns ms B A P Q p n g R F:List Int}(X:FX ns ms B A w E)(C:CS ns ms B A w E b1 P Q p n d h)(D:2<=Q.length)(N:c=Q.getD (Q.length -1) 0^(P.length -Q.length+1))(Ub:g.length=P.length -Q.length+1)
 (hR:∀k,R.getD k 0=c*P.getD k 0 -cf g Q g.length k)(lR:R.length<Q.length)(zR:R=[]\/R.getD (R.length -1) 0≠0)(hF:∀k,F.getD k 0=c*p.getD k 0 -cf g n g.length k)(s:F.length<=max p.length (g.length+n.length -1))(J:n=[]->F.length<=p.length):
 d*h^(P.length -Q.length)≠0/\(d*h^(P.length -Q.length)).natAbs<=2^(w*E)/\(∀x∈R,d*h^(P.length -Q.length)∣x)/\(∀x∈F,d*h^(P.length -Q.length)∣x)/\(0<P.length -Q.length->h^(P.length -Q.length -1)≠0/\(h^(P.length -Q.length -1)).natAbs<=2^(w*E))/\
 (∀j,(vc (R.map λx=>x.fdiv (d*h^(P.length -Q.length))) (F.map λx=>x.fdiv (d*h^(P.length -Q.length))) j).natAbs<=2^(w*(ns.length -1+(ms.length -1)+1)))/\
 (R≠[]->CS ns ms B A w E b1 Q (R.map λx=>x.fdiv (d*h^(P.length -Q.length))) n (F.map λx=>x.fdiv (d*h^(P.length -Q.length))) (Q.getD (Q.length -1) 0) (hnext h (Q.getD (Q.length -1) 0) (P.length -Q.length))):=by
 have ch:=C.ch;have Eh:=C.Eh;have lp:=C.lp;have l1:=X.l1;have lf:=C.lf;have FP:=C.FP;obtain⟨a,q⟩:∃a,P.length -Q.length=a:=⟨_,rfl⟩;have i:P.length -1 -(Q.length -1)=a:=by rw[bg,Nat.add_sub_cancel' (QR D)];exact q
 have hL:∀z∈sD g g.length,z.2<=P.length -1 -(Q.length -1):=λz hz=>by have:=Bk hz;lia
 have O:∀(b:Bool)(t:Nat),less c (vc P p) (vc Q n) (sD g g.length) (b,t)=(if b then F else R).getD t 0:=λb t=>by
  rw[Kg];cases b
  .exact(hR t).symm
  .exact(hF t).symm
 have De:=ch.De;generalize U:Q.getD (Q.length -1) 0=H at*;have l:H^(P.length -1 -(Q.length -1)+1)=c:=by rw[N,i,q]
 have G:d*h^a≠0:=Pi ch.ZA (dH ch.h0 _);obtain⟨Y,Py,rest⟩:=ch.rest (L:=sD g g.length) (by lia) hL (λt ht=>by rw[l,O];exact outI (by show R.length<=t;lia));rw[l,i]at rest;have bk:(d*h^a).natAbs<=2^(w*E):=by
  rw[HI,iA];have m:=X.E1 (P.length -1);have v:h.natAbs^a<=2^(w*(ns.length -1+(ms.length -1) -2*(P.length -1))*a):=by rw[i3];exact Wp C.bh a
  refine Do (Pt C.bl v) ?_;rw[<-Y1];refine IR (by decide) ?_;rw[ph,<-rh];refine FV _ ?_;have:(ns.length -1+(ms.length -1) -2*(P.length -1))*a<=(ns.length -1+(ms.length -1) -2*(P.length -1))*(P.length -1):=FV _ (by clear v m G l De N U i;lia);lia
 have dv:∀(b:Bool)(t:Nat),(d*h^a)∣(if b then F else R).getD t 0:=λb t=>by rw[<-O,rest];exact⟨Y*SS (ns.length -1+(ms.length -1) -(Q.length -1 -1)) (vc ns B) (vc ms A) (ms.length -1 -(Q.length -1 -1)) (ns.length -1 -(Q.length -1 -1)) (b,t),by grind⟩
 have dR:∀x∈R,d*h^a∣x:=λx K=>by obtain⟨k,_,rfl⟩:=mem_getD K;exact dv false k
 have dF:∀x∈F,d*h^a∣x:=λx K=>by obtain⟨k,_,rfl⟩:=mem_getD K;exact dv true k
 have fd:∀(b:Bool)(t:Nat),((if b then F else R).map λx=>x.fdiv (d*h^a)).getD t 0*(d*h^a)=(if b then F else R).getD t 0:=λb t=>by rw[map_getD (f:=λx=>x.fdiv (d*h^a)) (hX _),mn (dv b t),sv (dv b t)]
 have Z:∀j,vc (R.map λx=>x.fdiv (d*h^a)) (F.map λx=>x.fdiv (d*h^a)) j*(d*h^a)=less c (vc P p) (vc Q n) (sD g g.length) j:=λj=>by obtain⟨b,t⟩:=j;rw[O,<-fd b t];cases b<;>rfl
 have vS:∀j,(vc (R.map λx=>x.fdiv (d*h^a)) (F.map λx=>x.fdiv (d*h^a)) j).natAbs<=2^(w*(ns.length -1+(ms.length -1)+1)):=λj=>by
  have m:=Z j;rw[rest]at m;have T:vc (R.map λx=>x.fdiv (d*h^a)) (F.map λx=>x.fdiv (d*h^a)) j=Y*SS (ns.length -1+(ms.length -1) -(Q.length -1 -1)) (vc ns B) (vc ms A) (ms.length -1 -(Q.length -1 -1)) (ns.length -1 -(Q.length -1 -1)) j:=by refine Int.eq_of_mul_eq_mul_right G ?_;rw[m];grind
  rw[T,Py.abs];refine Do (VQ X (Do (x5 _ _) (rg FP 1)) (Do (uj (Fu (mD (uj D) cZ) (rg FP 1))) (TK _ _)) _ _) (IR (by decide) (FV _ (Td (x5 _ _))))
 rw[q];refine⟨G,bk,dR,dF,λo=>⟨dH ch.h0 _,?_⟩,vS,λVR=>?_⟩
 .rw[iA];have m:=X.E1 (P.length -1);have v:h.natAbs^(a -1)<=2^(w*(ns.length -1+(ms.length -1) -2*(P.length -1))*(a -1)):=by rw[i3];exact Wp C.bh _
  refine Do v (IR (by decide) ?_);rw[ph];refine FV _ ?_;have:(ns.length -1+(ms.length -1) -2*(P.length -1))*(a -1)<=(ns.length -1+(ms.length -1) -2*(P.length -1))*(P.length -1):=FV _ (by clear v m o bk G l De N U i;lia);lia
 have Dg:0<R.length:=KE.mpr VR;have zl:=zR.resolve_left VR;have h2:∃S:Int,hnext h H a=S/\S*h^a=H^a*h/\S.natAbs<=2^(w*(ns.length -1+(ms.length -1) -2*(Q.length -1))):=by
  by_cases o:a=0
  .refine⟨h,by unfold hnext;rw[Bi o],by rw[o,Os,Os,d5,cx],?_⟩;have:=C.bh;rw[ft (Nat.le_of_sub_eq_zero (q.trans o)) Eh]at this;exact this
  .have u:Q.length<P.length:=Nat.lt_of_sub_ne_zero (by rw[q];exact o);obtain⟨S,m,T⟩:=ch.Kf (cR (QR D) u);rw[i]at m;have M:h^(a -1)≠0:=dH ch.h0 _;refine⟨S,?_,?_,?_⟩
   .unfold hnext;rw[BM o,m,mn ⟨S,rfl⟩,gN S M]
   .have e3:h^a=h^(a -1)*h:=by rw[<-GM];congr 1;lia
    rw[m,e3];generalize h^(a -1)=x;grind
   .rw[T];exact VQ X (rg FP 1) (Do (uj (cR (QR D) (Fu u lp))) (xp _ _)) _ _
 obtain⟨S,hS,hh,bS⟩:=h2;rw[hS];have r:(R.map λx=>x.fdiv (d*h^a)).length=R.length:=Ap _;have I:(F.map λx=>x.fdiv (d*h^a)).length=F.length:=Ap _;have ql:(R.map λx=>x.fdiv (d*h^a)).getD (R.length -1) 0≠0:=λz=>by have e:=fd false (R.length -1);simp only[Nr,y8]at e;rw[z,bo]at e;exact zl e.symm
 refine⟨?_,by rw[r];exact Dg,by rw[r];exact QR lR,Do FP l1,by rw[r];exact Do (QR lR) FP,?_,?_,C.bQ,vS,?_,bS⟩
 .rw[r];refine ch.step (L:=sD g g.length) hL (λj=>?_) (by lia) rfl ql (λt ht=>?_) (by rw[i];exact hh)
  .rw[l,i,<-Z j,dE]
  .exact outI (by show(R.map λx=>x.fdiv (d*h^a)).length<=t;rw[r];lia)
 .rw[r];rcases C.ZC with z|z
  .rw[z];show 0+_<=_;lia
  .lia
 .rw[I];rcases C.ZC with z|z
  .right;exact Do (rk (J z) _) lf
  .right;rw[Ub,q,tq,Nw]at s;rw[(Nat.sub_eq_iff_eq_add Eh).mp q]at z;rcases ib p.length (a+n.length)with y|y
   .rw[Nat.max_eq_right y]at s;refine Do (rk s _) (Do (ip ?_) z);rw[xb a,kz]
   .rw[Nat.max_eq_left y]at s;exact Do (rk s _) lf
 .have:=C.bQ (false,Q.length -1);rw[<-U];exact this
end Sub
namespace Num
theorem Dh(b:p7 p)(a:0<l/\l<p)(h:p∣x*l):p∣x:=by have c:=sA b a.1 a.2;exact xM c (by rw[dE]at h;exact h)
theorem FQ(f g:Nat->Int):∀n,sm f n -sm g n=sm (λi=>f i -g i) n
 |0=>rfl
 |n+1=>by rw[sm,sm,sm,<-FQ f g n];lia
theorem Ko(c:Int)(f h:Nat->Int)(k:Nat):ku (λi=>c*f i) h k=c*ku f h k:=by unfold ku;rw[<-uX];exact iy _ λi _=>X2 ..
abbrev co(a:List Int):Nat->Int:=λi=>a.getD i 0
end Num
namespace Sub
open Num
theorem CS.size(X:FX ns ms e d w E)(C:CS ns ms e d w E m P Q k i b h)(f:2<=Q.length):
 b*h^(P.length -Q.length)≠0/\(b*h^(P.length -Q.length)).natAbs<=2^(w*E)/\(0<P.length -Q.length->h^(P.length -Q.length -1)≠0/\(h^(P.length -Q.length -1)).natAbs<=2^(w*E)):=by
 have ch:=C.ch;have l:=X.E1 (P.length -1);have Eh:=C.Eh;generalize n:P.length -Q.length=a at*;have c:∀j,j<=a->(h^j).natAbs<=2^(w*((ns.length -1+(ms.length -1) -2*(P.length -1))*(P.length -1))):=λj o=>by
  rw[iA];have g:h.natAbs^j<=2^(w*(ns.length -1+(ms.length -1) -2*(P.length -1))*j):=by rw[i3];exact Wp C.bh j
  refine Do g (IR (by decide) ?_);rw[ph];exact FV _ (FV _ (by lia))
 refine⟨Pi ch.ZA (dH ch.h0 _),?_,λ_=>⟨dH ch.h0 _,?_⟩⟩
 .rw[HI];refine Do (Pt C.bl (c a (Ee _))) ?_;rw[<-Y1,<-rh];exact IR (by decide) (FV _ (by lia))
 .exact Do (c (a -1) (by clear n Eh l f;lia)) (IR (by decide) (FV _ (by lia)))
theorem CS.start(X:FX ns ms b a w E)(j:0<ms.length)(e:ms.getD (ms.length -1) 0≠0)(l:b.length+ms.length<=c)(k:a=[]\/a.length+ns.length<=c):CS ns ms b a w E c ns ms b a 1 1:=by
 obtain⟨M,h,g,m,f⟩:=X.M;have l1:=X.l1;have d:M<=2^(w*(ns.length -1+(ms.length -1)+1)):=by refine Do (Do (oC M (show 0<ns.length -1+(ms.length -1)+1 by omega)) f) (IR (by decide) ?_);exact Y2 w (by omega)
 refine⟨Ch.start (by omega) rfl e (λt n=>outI (by omega)),j,l1,Ee _,Ee _,l,k,λi=>Do (h i) d,λi=>Do (g i) d,U2 (by decide),U2 (by decide)⟩
theorem CS.bd(C:CS ns ms f e w E g P Q c b d h):(∀x∈P,x.natAbs<=2^(w*(ns.length -1+(ms.length -1)+1)))/\(∀x∈Q,x.natAbs<=2^(w*(ns.length -1+(ms.length -1)+1)))/\(∀x∈c,x.natAbs<=2^(w*(ns.length -1+(ms.length -1)+1)))/\∀x∈b,x.natAbs<=2^(w*(ns.length -1+(ms.length -1)+1)):=by
 refine⟨λx a=>?_,λx a=>?_,λx a=>?_,λx a=>?_⟩
 .obtain⟨k,_,rfl⟩:=mem_getD a;exact C.bP (false,k)
 .obtain⟨k,_,rfl⟩:=mem_getD a;exact C.bQ (false,k)
 .obtain⟨k,_,rfl⟩:=mem_getD a;exact C.bP (true,k)
 .obtain⟨k,_,rfl⟩:=mem_getD a;exact C.bQ (true,k)
end Sub
namespace Num
noncomputable def Yd(t:Rat):Rat->List Rat->List Rat
 |r,[]=>[r]
 |r,s::a=>(r+t*s)::Yd t s a
noncomputable def hz(t:Int):List Int->List Int
 |[]=>[]
 |r::a=>(r+t*(hz t a).headD 0)::hz t a
noncomputable def cs(l:List Int):List Rat:=l.map λx:Int=>((x:Int):Rat)
noncomputable def sc(u b:Rat):List Rat->List Rat
 |[]=>[]
 |r::a=>r*u*b^a.length::sc u b a
noncomputable def gz(t:Int)(M:List Int)(k:Nat):Int:=(hz t (M.drop k)).headD 0
end Num
namespace Num
open Sub
theorem FT(a:p7 p)(h:p∣x*y):p∣x\/p∣y:=by
 have b:0<p:=by have:=a.1;lia
 by_cases c:y%p=0
 .exact .inr (wx c)
 .refine .inl (Dh a (l:=y%p) ⟨?_,ub _ b⟩ ?_)
  .have:=XG y (show p≠0 by lia);lia
  .have e:=Int.emod_add_mul_ediv y p;have d:x*(y%p)=x*y -p*(x*(y/p)):=by
    have:y%p=y -p*(y/p):=by lia
    rw[this];grind
   rw[d];exact dr h ⟨_,rfl⟩
end Num
namespace Num
theorem lJ(f:Nat->Rat):∀n,d8 f (n+1)=f 0+d8 (λi=>f (i+1)) n
 |0=>by rw[d8,d8,d8];grind
 |n+1=>by rw[d8,lJ f n,d8];grind
theorem u7(c:Rat)(f:Nat->Rat):∀n,d8 (λi=>c*f i) n=c*d8 f n
 |0=>by rw[d8,d8];grind
 |n+1=>by rw[d8,u7 c f n,d8];grind
theorem u9(f g:Nat->Rat):∀n,d8 (λi=>f i+g i) n=d8 f n+d8 g n
 |0=>by rw[d8,d8,d8];grind
 |n+1=>by rw[d8,u9 f g n,d8,d8];grind
theorem Bo:∀(n:Nat)(f:Nat->Rat),d8 (λi=>f (n -i)) (n+1)=d8 f (n+1)
 |0,f=>rfl
 |n+1,f=>by
  rw[lJ,dG (g:=λi=>f (n -i)) (n+1) λi a=>by show f (n+1 -(i+1))=f (n -i);rw[show n+1 -(i+1)=n -i by lia],Bo n f,Km];have:d8 f (n+1+1)=d8 f (n+1)+f (n+1):=by rw[d8]
  rw[this];grind
theorem bE(f g:Nat->Rat)(k:Nat):aH f g k=aH g f k:=by unfold aH;rw[<-Bo];refine dG _ λi a=>?_;show f (k -i)*g (k -(k -i))=g i*f (k -i);rw[show k -(k -i)=i by lia,S0]
theorem bq(b:∀i,f i=f' i)(a:∀i,g i=g' i)(k:Nat):aH f g k=aH f' g' k:=by rw[show f=f' from funext b,show g=g' from funext a]
theorem fE(f g h:Nat->Rat)(k:Nat):aH (λi=>f i+g i) h k=aH f h k+aH g h k:=by unfold aH;rw[<-u9];exact dG _ λi _=>ba ..
theorem bU(c:Rat)(f h:Nat->Rat)(k:Nat):aH (λi=>c*f i) h k=c*aH f h k:=by unfold aH;rw[<-u7];exact dG _ λi _=>ar ..
theorem qi(f g h:Nat->Rat)(k:Nat):aH f (λi=>g i+h i) k=aH f g k+aH f h k:=by rw[bE,fE,bE g,bE h]
theorem iB(c:Rat)(f h:Nat->Rat)(k:Nat):aH f (λi=>c*h i) k=c*aH f h k:=by rw[bE,bU,bE h]
theorem di(f g:Nat->Rat):aH f g 0=f 0*g 0:=by unfold aH;rw[d8,d8];show 0+f 0*g (0 -0)=_;rw[i5]
theorem fF(f g:Nat->Rat)(k:Nat):aH f g (k+1)=f 0*g (k+1)+aH (λi=>f (i+1)) g k:=by unfold aH;rw[lJ];congr 1;exact dG _ λi a=>by show f (i+1)*g (k+1 -(i+1))=f (i+1)*g (k -i);rw[show k+1 -(i+1)=k -i by lia]
theorem gJ(g h:Nat->Rat):∀(k:Nat)(f:Nat->Rat),aH (aH f g) h k=aH f (aH g h) k
 |0,f=>by rw[di,di,di,di,ar]
 |k+1,f=>by rw[fF,fF f,di,fF g];have e:(λi=>aH f g (i+1))=λi=>f 0*g (i+1)+aH (λi=>f (i+1)) g i:=funext λi=>fF f g i;rw[e,fE,bU,gJ g h k];generalize aH (λi=>g (i+1)) h k=x;generalize aH (λi=>f (i+1)) (aH g h) k=y;generalize h (k+1)=z;grind
theorem vd(d:∀i,n<=i->f i=0)(c:∀i,m<=i->g i=0)(h:n+m<=k+1):aH f g k=0:=by
 unfold aH;rw[dG (g:=λ_=>0) _ λi e=>?_]
 .have:∀n,d8 (λ_=>0) n=0:=λn=>by
   induction n with
   |zero=>rfl
   |succ n b=>rw[d8,b];grind
  exact this _
 .show f i*g (k -i)=0;by_cases a:n<=i
  .rw[d i a,X9]
  .rw[c _ (by lia),Pl]
theorem oZ(c:∀i,n<i->f i=0)(b:∀i,m<i->g i=0):aH f g (n+m)=f n*g m:=by
 unfold aH;have e:d8 (λi=>f i*g (n+m -i)) (n+m+1)=d8 (λi=>f i*g (n+m -i)) (n+1):=qe _ (by lia) λi h _=>by show f i*g (n+m -i)=0;rw[c i (by lia),X9]
 rw[e,d8];have z:d8 (λi=>f i*g (n+m -i)) n=0:=by
  rw[dG (g:=λ_=>0) _ λi d=>by show f i*g (n+m -i)=0;rw[b _ (by lia),Pl]];have:∀n,d8 (λ_=>0) n=0:=λn=>by
   induction n with
   |zero=>rfl
   |succ n a=>rw[d8,a];grind
  exact this _
 rw[z,i5,show n+m -n=m by lia]
abbrev cQ(a:List Rat):Nat->Rat:=λi=>a.getD i 0
def Fin(f:Nat->Rat):Prop:=∃n,∀i,n<=i->f i=0
theorem aK(a:List Rat):Fin (cQ a):=⟨a.length,λi b=>jV b⟩
theorem Fin.add(d:Fin f)(c:Fin g):Fin λi=>f i+g i:=by obtain⟨n,a⟩:=d;obtain⟨m,b⟩:=c;exact⟨max n m,λi e=>by show f i+g i=0;rw[a i (by lia),b i (by lia)];grind⟩
theorem Fin.mul(d:Fin f)(c:Fin g):Fin (aH f g):=by obtain⟨n,a⟩:=d;obtain⟨m,b⟩:=c;exact⟨n+m,λi e=>vd a b (by lia)⟩
def DQ(g a:Nat->Rat):Prop:=∃s,Fin s/\∀k,a k=aH s g k
theorem DQ.trans(b:DQ f g)(a:DQ g h):DQ f h:=by obtain⟨s,d,i⟩:=b;obtain⟨t,c,e⟩:=a;refine⟨aH t s,c.mul d,λk=>?_⟩;rw[e k,gJ];exact bq (λ_=>rfl) i k
theorem DQ.add(d:DQ g a)(c:DQ g b):DQ g λk=>a k+b k:=by obtain⟨s,f,j⟩:=d;obtain⟨t,e,h⟩:=c;exact⟨λi=>s i+t i,f.add e,λk=>by show a k+b k=_;rw[j k,h k,fE]⟩
theorem DQ.mul(u:Nat->Rat)(b:Fin u)(h:DQ g a):DQ g (aH u a):=by obtain⟨s,c,d⟩:=h;refine⟨aH u s,b.mul c,λk=>?_⟩;rw[gJ];exact bq (λ_=>rfl) d k
theorem DQ.ext(h:DQ g a)(e:∀k,b k=a k):DQ g b:=by obtain⟨s,c,d⟩:=h;exact⟨s,c,λk=>by rw[e k,d k]⟩
theorem qj(g:Nat->Rat)(k:Nat):aH (λi=>if i=0 then 1 else 0) g k=g k:=by rw[Kh (λi a=>BM (by lia))];show(1:Rat)*_=_;rw[Xt]
theorem DQ.refl(g:Nat->Rat):DQ g g:=⟨λi=>if i=0 then 1 else 0,⟨1,λi a=>BM (by lia)⟩,λk=>(qj g k).symm⟩
theorem cP(g:Nat->Rat)(k:Nat):aH (λ_=>0) g k=0:=by
 unfold aH;have:∀n,d8 (λi=>(0:Rat)*g (k -i)) n=0:=λn=>by
  induction n with
  |zero=>rfl
  |succ n a=>rw[d8,a];grind
 exact this _
theorem DQ.zero(g:Nat->Rat):DQ g λ_=>0:=⟨λ_=>0,⟨0,λ_ _=>rfl⟩,λk=>(cP g k).symm⟩
structure Mon(g:List Rat):Prop where
 ne:g≠[]
 one:g.getD (g.length -1) 0=1
theorem kC(h:Fin f)(k:Nat)(c:f k≠0):∃n,f n≠0/\∀i,n<i->f i=0:=by
 obtain⟨n,a⟩:=h
 induction n with
 |zero=>exact absurd (a k (PQ _)) c
 |succ n b=>
  by_cases e:f n=0
  .refine b λi d=>?_;by_cases g:i=n
   .rw[g];exact e
   .exact a i (by lia)
  .exact⟨n,e,λi d=>a i (by lia)⟩
theorem DQ.sub(f:DQ g a)(e:DQ g b):DQ g λk=>a k -b k:=by obtain⟨t,h,j⟩:=e;have:DQ g λk=> -1*b k:=⟨λi=> -1*t i,by obtain⟨n,c⟩:=h;exact⟨n,λi d=>by show-1*t i=0;rw[c i d];grind⟩,λk=>by show-1*b k=_;rw[j k,bU]⟩;exact(f.add this).ext λk=>by show a k -b k=a k+ -1*b k;grind
theorem FU(u:au b)(A:b≠[])(o:au r)(C:r.length<b.length)(h:DQ (cQ b) (cQ r)):r=[]:=by
 rcases List.eq_nil_or_concat r with e|⟨t,y,e⟩
 .exact e
 .rw[List.concat_eq_append]at e;obtain⟨s,v,d⟩:=h;have B:=KE.mpr A;have l:r.getD t.length 0=y:=by rw[e,AC,NA (Ee _),t4];rfl
  have k:y≠0:=o y (by rw[e];exact List.getLast?_concat);have x:b.getD (b.length -1) 0≠0:=by refine u _ ?_;rw[Ki,AC,DL (by lia)];rfl
  have:∃j,s j≠0:=Fk λz=>k (by have z:∀j,s j=0:=λj=>Fk λw=>z ⟨j,w⟩;have:=d t.length;rw[bq (f':=λ_=>0) z (λ_=>rfl),cP]at this;exact l.symm.trans this);obtain⟨j,q⟩:=this;obtain⟨n,p,c⟩:=kC v j q;have a:=oZ (f:=s) (g:=cQ b) (n:=n) (m:=b.length -1) c (λi D=>jV (by lia));rw[<-d]at a;have z:cQ r (n+(b.length -1))=0:=jV (by lia);rw[z]at a;rcases Kk.mp a.symm with w|w
  .exact absurd w p
  .exact absurd w x
theorem uh(j:Fin s)(e:au b)(o:b≠[])(h:∀k,aH s (cQ b) k=0):∀i,s i=0:=λi=>Fk λc=>by
 have p:=KE.mpr o;have l:b.getD (b.length -1) 0≠0:=by refine e _ ?_;rw[Ki,AC,DL (by lia)];rfl
 obtain⟨n,d,a⟩:=kC j i c;have t:=oZ (f:=s) (g:=cQ b) (n:=n) (m:=b.length -1) a (λi c=>jV (by lia));rw[h]at t;rcases Kk.mp t.symm with w|w
 .exact d w
 .exact l w
end Num
namespace Num
open Sub
abbrev cz(a:List Int):Nat->Rat:=λi=>((a.getD i 0:Int):Rat)
theorem qm(f g:Nat->Int)(k:Nat):aH (λi=>(f i:Rat)) (λi=>(g i:Rat)) k=((ku f g k:Int):Rat):=by have:=J7 (f:=λi=>(f i:Rat)) (g:=λi=>(g i:Rat)) (F:=f) (G:=g) (A:=1) (C:=1) (λi=>pj _) (λi=>pj _) k;rw[pj,pj]at this;exact this
theorem DQ.sc(c:Rat)(h:DQ d f):DQ d λk=>c*f k:=by obtain⟨s,⟨n,a⟩,e⟩:=h;refine⟨λi=>c*s i,⟨n,λi b=>by dsimp only;rw[a i b,Pl]⟩,λk=>?_⟩;dsimp only;rw[bU,e k]
theorem DQ.ZE(a:c≠0)(h:DQ d λk=>c*f k):DQ d f:=
 (h.sc c⁻¹).ext λk=>by have:=On c a;grind
theorem pq(c:Rat)(p:Nat)(g:Nat->Rat)(k:Nat):aH (λi=>if i=p then c else 0) g k=if p<=k then c*g (k -p)else 0:=by
 have:∀(p:Nat)(k:Nat),aH (λi=>if i=p then c else 0) g k=if p<=k then c*g (k -p)else 0:=by
  intro p
  induction p with
  |zero=>
   intro k;have:=bU c (λi=>if i=0 then 1 else 0) g k;rw[qj]at this;rw[Bi (PQ _),Km,<-this];refine bq (λi=>?_) (λ_=>rfl) k;by_cases h:i=0
   .rw[Bi h,Bi h,pj]
   .rw[BM h,BM h,Pl]
  |succ p a=>
   intro k;cases k with
   |zero=>rw[di,BM (by lia),BM (by lia),X9]
   |succ k=>
    rw[fF,BM (by lia),X9,i5];have e:(λi=>if i+1=p+1 then c else 0)=λi=>if i=p then c else 0:=funext λi=>by
     by_cases h:i=p
     .rw[Bi h,Bi (by lia)]
     .rw[BM h,BM (by lia)]
    rw[e,a k];by_cases h:p<=k
    .rw[Bi h,Bi (by lia),show k+1 -(p+1)=k -p by lia]
    .rw[BM h,BM (by lia)]
 exact this p k
theorem Kp(z:au b)(C:b≠[]):∀(n:Nat)(a:List Rat),a.length<=n->∃(q:Nat->Rat)(r:List Rat),Fin q/\au r/\r.length<b.length/\∀k,cQ a k=aH q (cQ b) k+cQ r k:=by
 have t:=KE.mpr C;have s:b.getD (b.length -1) 0≠0:=by refine z _ ?_;rw[Ki,DL (by lia),AC,DL (by lia)];rfl
 intro n
 induction n with
 |zero=>intro a j;refine⟨λ_=>0,[],⟨0,λ_ _=>rfl⟩,λx v=>(by cases v),t,λk=>?_⟩;rw[PH.mp (vT.mp j),cP];show(0:Rat)=0+0;grind
 |succ n u=>
  intro a j;by_cases w:a.length<b.length
  .exact⟨λ_=>0,iV a,⟨0,λ_ _=>rfl⟩,lG a,IH (Dd a) w,λk=>by rw[cP,i5];exact(A7 a k).symm⟩
  .generalize E:a.length -b.length=d;generalize y:a.getD (a.length -1) 0*(b.getD (b.length -1) 0)⁻¹=c;obtain⟨q,r,B,o,p,e⟩:=u (sC (a.length -1) λk=>cQ a k -if d<=k then c*cQ b (k -d)else 0) (by rw[p8];lia);refine⟨λi=>q i+if i=d then c else 0,r,Fin.add B ⟨d+1,λi D=>BM (by lia)⟩,o,p,λk=>?_⟩;rw[fE,pq];have f:=e k;have f:(sC (a.length -1) λk=>cQ a k -if d<=k then c*cQ b (k -d)else 0).getD k 0=_:=f;rw[uW]at f;by_cases m:k<a.length -1
   .rw[Bi m]at f;grind
   .rw[BM m]at f;by_cases A:k=a.length -1
    .have h:cQ b (k -d)=b.getD (b.length -1) 0:=by rw[show k -d=b.length -1 by lia]
     have g:cQ a k=a.getD (a.length -1) 0:=by rw[A]
     rw[Bi (by lia),h,g,<-y];have:=On _ s;grind
    .have h:cQ a k=0:=jV (by lia);have g:(if d<=k then c*cQ b (k -d)else 0)=0:=by
      by_cases l:d<=k
      .rw[Bi l,show cQ b (k -d)=0 from jV (by lia),Pl]
      .rw[BM l]
     rw[h,g];grind
theorem PB:∀(n:Nat)(a b:List Rat),b.length<=n->au a->au b->∃(g:List Rat)(u v:Nat->Rat),au g/\Fin u/\Fin v/\DQ (cQ g) (cQ a)/\DQ (cQ g) (cQ b)/\∀k,cQ g k=aH u (cQ a) k+aH v (cQ b) k:=by
 have c:∀(a:List Rat),au a->∃(g:List Rat)(u v:Nat->Rat),au g/\Fin u/\Fin v/\DQ (cQ g) (cQ a)/\DQ (cQ g) (cQ [])/\∀k,cQ g k=aH u (cQ a) k+aH v (cQ []) k:=λa z=>⟨a,λi=>if i=0 then 1 else 0,λ_=>0,z,⟨1,λi y=>BM (by lia)⟩,⟨0,λ_ _=>rfl⟩,DQ.refl _,DQ.zero _,λk=>by rw[qj,cP,SY]⟩;intro n
 induction n with
 |zero=>intro a b h f d;rw[PH.mp (vT.mp h)];exact c a f
 |succ n x=>
  intro a b h f d;by_cases o:b=[]
  .rw[o];exact c a f
  .obtain⟨q,r,l,p,G,e⟩:=Kp d o a.length a (Ee _);obtain⟨g,u,v,s,C,j,m,F,E⟩:=x b r (by lia) d p;refine⟨g,v,λi=>u i+ -1*aH v q i,s,j,?_,?_,m,λk=>?_⟩
   .obtain⟨w,B⟩:=C;obtain⟨t,A⟩:=j.mul l;exact⟨w+t,λi y=>by dsimp only;rw[B i (by lia),A i (by lia)];grind⟩
   .exact(DQ.add (DQ.mul q l m) F).ext λk=>e k
   .rw[E k,fE,bU,gJ];have D:aH v (cQ r) k=aH v (cQ a) k -aH v (aH q (cQ b)) k:=by have:aH v (cQ a) k=aH v (λi=>aH q (cQ b) i+cQ r i) k:=bq (λ_=>rfl) e k;rw[qi]at this;grind
    rw[D];grind
end Num
namespace Num
theorem iC(h:au c)(a:c≠[]):c.getD (c.length -1) 0≠0:=by have l:=KE.mpr a;refine h _ ?_;rw[Ki,AC,DL (mD l cZ)];rfl
end Num
namespace Num
open Sub
def qo(a b r:List Rat):Prop:=au r/\r.length<b.length/\∃q:Nat->Rat,Fin q/\∀k,cQ a k=aH q (cQ b) k+cQ r k
theorem qo.one(c:x≠0):qo a [x] []:=by
 have e:∀i,cQ [x] i=if i=0 then x else 0:=λi=>by
  cases i with
  |zero=>rfl
  |succ i=>rfl
 have hz:au []:=λy b=>by cases b
 refine⟨hz,cZ,λi=>x⁻¹*cQ a i,⟨a.length,λi d=>by dsimp only;rw[show cQ a i=0 from jV d];grind⟩,λk=>?_⟩;rw[bU,bE,bq (g:=cQ a) e (λ_=>rfl),pq,Bi (PQ k)];have:=On x c;show _=x⁻¹*(x*cQ a k)+0;grind
theorem zE(r:List Rat)(k:Nat):cQ (jW r) k= -cQ r k:=by
 show(r.map λx=> -x).getD k 0= -(r.getD k 0);rw[AC,FC,AC];cases r[k]? with
 |none=>show(0:Rat)= -0;grind
 |some z=>rfl
theorem xT(h:au r):au (jW r):=λx a=>by unfold jW at a;rw[vi]at a;obtain⟨y,b,rfl⟩:=NM.mp a;have:=h y b;grind
theorem Kq(r:List Rat):(jW r).length=r.length:=Ap _
theorem PC(h:r≠[]):jW r≠[]:=λz=>h (L1.mp z)
inductive wX:List Rat->List Rat->List (List Rat)->Prop
 |nil {a b:List Rat} (h:qo a b []):wX a b []
 |cons {a b r:List Rat} {l:List (List Rat)} (h:qo a b r) (h0:r≠[]) (k:wX b (jW r) l):wX a b (jW r::l)
def Bl(N n:Nat)(x:Rat):Prop:=x.num.natAbs<=2^N/\x.den<=2^n
theorem Bl.up(h:Bl N n x)(d:N<=b)(c:n<=a):Bl b a x:=⟨Do h.1 (IR (by decide) d),Do h.2 (IR (by decide) c)⟩
theorem Bl.div(d:t.natAbs<=2^N)(c:b.natAbs<=2^n)(a:b≠0):Bl N n (B1 t b):=⟨Do (A5 t b a).1 d,Do (A5 t b a).2 c⟩
theorem Bl.mul(b:Bl N n x)(a:Bl M m y):Bl (N+M) (n+m) (x*y):=by
 have e:x*y=B1 (x.num*y.num) ((x.den:Int)*y.den):=by
  conv=>lhs;rw[<-hJ x,<-hJ y]
  exact Rat.divInt_mul_divInt ..
 rw[e];have d:=x.den_pos;have c:=y.den_pos;refine Bl.div ?_ ?_ (Pi (by lia) (by lia))
 .rw[HI,Y1];exact Pt b.1 a.1
 .rw[HI,D3,D3,Y1];exact Pt b.2 a.2
theorem Bl.neg(h:Bl N n x):Bl N n (-x):=⟨by rw[Rat.neg_num,Int.natAbs_neg];exact h.1,by rw[Rat.neg_den];exact h.2⟩
structure Sm(ns ms:List Int)(w E D0:Nat)(A B:List Int)(ld h:Int)(α β:Rat)(a b:List Rat):Prop where
 C:CS ns ms [] [] w E (ms.length+1) A B [] [] ld h
 ea:∀k,cQ a k=α*(A.getD k 0:Int)
 eb:∀k,cQ b k=β*(B.getD k 0:Int)
 Ks:α≠0
 Ye:β≠0
 la:a.length=A.length
 lb:b.length=B.length
 za:au a
 zb:au b
 Yg:Bl (D0+w*E*(2*ns.length -A.length -B.length)) (D0+w*(ns.length -1+(ms.length -1)+1)*(2*ns.length -A.length -B.length)) α
 bβ:Bl (D0+w*E*(2*ns.length -A.length -B.length)) (D0+w*(ns.length -1+(ms.length -1)+1)*(2*ns.length -A.length -B.length)) β
theorem zF(c:x≠0)(b:R=[]\/R.getD (R.length -1) 0≠0):au (R.map λy:Int=>x*(y:Rat)):=λz hz=>by
 rw[vi]at hz;obtain⟨y,a,rfl⟩:=NM.mp hz;rcases b with e|e
 .rw[e]at a;cases a
 .rw[Ki]at a;rw[AC,a]at e;intro z;rcases Kk.mp z with z|z
  .exact c z
  .exact e (Iy.mp z)
theorem FW(R:List Int)(x:Rat)(k:Nat):cQ (R.map λy:Int=>x*(y:Rat)) k=x*((R.getD k 0:Int):Rat):=by
 show(R.map λy:Int=>x*(y:Rat)).getD k 0=_;rw[AC,FC,AC];cases R[k]? with
 |none=>show(0:Rat)=x*((0:Int):Rat);grind
 |some z=>rfl
section
variable{ns ms A B Qs R:List Int}{w E D0:Nat}{ld h c:Int}{α β:Rat}{a b:List Rat}
theorem Sm.rem(S:Sm ns ms w E D0 A B ld h α β a b)(r:c≠0)(q:∀k,R.getD k 0=c*A.getD k 0 -cf Qs B Qs.length k)(m:R.length<B.length)(d:R=[]\/R.getD (R.length -1) 0≠0):qo a b (R.map λy:Int=>α/c*(y:Rat)):=by
 have l:(c:Rat)≠0:=λz=>r (Iy.mp z);have Ye:=S.Ye;have Ks:=S.Ks;have g:α/(c:Rat)≠0:=λz=>by
  have:α=α/(c:Rat)*c:=by grind
  rw[z]at this;exact Ks (by grind)
 refine⟨zF g d,by rw[Ap,S.lb];exact m,λi=>α/(c*β)*((Qs.getD i 0:Int):Rat),⟨Qs.length,λi n=>by dsimp only;rw[outI n];show _*((0:Int):Rat)=0;grind⟩,λk=>?_⟩;rw[FW,bU,bq (f:=λi=>((Qs.getD i 0:Int):Rat)) (g':=λi=>β*((B.getD i 0:Int):Rat)) (λ_=>rfl) S.eb,iB,qm,S.ea k];have e:=q k;rw[gh]at e;have e:((R.getD k 0:Int):Rat)=c*((A.getD k 0:Int):Rat) -((ku (λi=>Qs.getD i 0) (λi=>B.getD i 0) k:Int):Rat):=by rw[e,xn,FM];rfl
 rw[e];generalize((ku (λi=>Qs.getD i 0) (λi=>B.getD i 0) k:Int):Rat)=u;generalize((A.getD k 0:Int):Rat)=v;have j:(c:Rat)*β≠0:=λz=>by
  rcases Kk.mp z with z|z
  .exact l z
  .exact Ye z
 have p:α/(c*β)*(β*u)=α/c*u:=by grind
 have o:α/(c:Rat)*(c*v -u)=α*v -α/c*u:=by grind
 rw[p,o];grind
theorem Sm.next(X:FX ns ms [] [] w E)(S:Sm ns ms w E D0 A B ld h α β a b)(u:2<=B.length)(e:c=B.getD (B.length -1) 0^(A.length -B.length+1))(I:Qs.length=A.length -B.length+1)(p:∀k,R.getD k 0=c*A.getD k 0 -cf Qs B Qs.length k)(j:R.length<B.length)(i:R=[]\/R.getD (R.length -1) 0≠0)(v:R≠[]):
 jW (R.map λy:Int=>α/c*(y:Rat))=((R.map λy=>y.fdiv (ld*h^(A.length -B.length))).map λy:Int=> -(α*B1 (ld*h^(A.length -B.length)) c)*(y:Rat))/\
 Sm ns ms w E D0 B (R.map λy=>y.fdiv (ld*h^(A.length -B.length))) (B.getD (B.length -1) 0) (hnext h (B.getD (B.length -1) 0) (A.length -B.length)) β (-(α*B1 (ld*h^(A.length -B.length)) c)) b (jW (R.map λy:Int=>α/c*(y:Rat))):=by
 have De:B.getD (B.length -1) 0≠0:=S.C.ch.De;have f:c≠0:=by rw[e];exact dH De _
 have q:=S.C.step X u e I p j i (F:=[]) (λk=>by
  have:cf Qs [] Qs.length k=0:=by rw[J2];rfl
  rw[this];show(0:Int)=c*0 -0;lia) (PQ _) (λ_=>Ee _)
 obtain⟨l,r,D,_,_,_,g⟩:=q;have g:=g v;have Eh:=S.C.Eh;have lp:=S.C.lp;have FP:=S.C.FP;have l1:=X.l1;have G:=(S.C.bd).2.1 _ (getD_mem' (k:=B.length -1) (by lia));generalize s:ld*h^(A.length -B.length)=d at*;have K:(c:Rat)≠0:=λz=>f (Iy.mp z);have J:(d:Rat)≠0:=λz=>l (Iy.mp z);have Ks:=S.Ks;have m:B1 d c=(d:Rat)/c:=n4 ..;have o:jW (R.map λy:Int=>α/c*(y:Rat))=((R.map λy=>y.fdiv d).map λy:Int=> -(α*B1 d c)*(y:Rat)):=by unfold jW;rw[T2,T2];refine km λx t=>?_;obtain⟨y,rfl⟩:=D x t;show-(α/c*((d*y:Int):Rat))= -(α*B1 d c)*(((d*y).fdiv d:Int):Rat);rw[mn ⟨y,rfl⟩,gN y l,m,FM];grind
 have H: -(α*B1 d c)≠0:=λz=>by
  rw[m]at z;have:α= -(-(α*((d:Rat)/c)))*c/d:=by grind
  rw[z]at this;exact Ks (by grind)
 refine⟨o,g,S.eb,λk=>by rw[o,FW],S.Ye,H,S.lb,by rw[Kq,Ap,Ap],S.zb,xT (S.rem f p j i).1,S.bβ.up ?_ ?_,Bl.neg ((S.Yg.mul (Bl.div r (n:=w*(ns.length -1+(ms.length -1)+1)*(A.length -B.length+1)) ?_ f)).up ?_ ?_)⟩
 .rw[Ap];exact so (FV _ (by lia)) _
 .rw[Ap];exact so (FV _ (by lia)) _
 .rw[e,iA,i3];exact Wp G _
 .rw[Ap,kz,<-T5];exact so (FV _ (by lia)) _
 .rw[Ap,kz,<-rh];exact so (FV _ (by lia)) _
end
noncomputable def eE(ns:List Int):List Int:=(C0 (ns.length -1)).map λi=>((i+1:Nat):Int)*ns.getD (i+1) 0
noncomputable def bX(a:List Rat):List Rat:=sC (a.length -1) λi=>((i+1:Nat):Rat)*a.getD (i+1) 0
theorem fG(ns:List Int):(eE ns).length=ns.length -1:=by unfold eE;simp
theorem jh(a:List Rat):(bX a).length=a.length -1:=p8 _ _
theorem ve(ns:List Int)(k:Nat):(eE ns).getD k 0=((k+1:Nat):Int)*ns.getD (k+1) 0:=by
 unfold eE;rw[AC,FC];by_cases h:k<ns.length -1
 .rw[cm h];rfl
 .rw[Fs (by simpa using h),outI (ns:=ns) (by lia),Qb];rfl
theorem jH(a:List Rat)(k:Nat):cQ (bX a) k=((k+1:Nat):Rat)*cQ a (k+1):=by
 show(sC _ _).getD k 0=_;rw[uW];split
 .rfl
 .rw[show cQ a (k+1)=0 from jV (by lia)];grind
theorem VU(h:∀s,s<m+1->∀p,p<m+1->(s -2*p)*p+(s+1)<=E):∀s,s<=m->∀p,(s -2*p)*p+(s+1)<=E:=λs b p=>by
 by_cases a:p<m+1
 .exact h s (by lia) p a
 .have:=h s (by lia) 0 (by lia);rw[show s -2*p=0 by lia,ZW];lia
theorem VW(l:2<=ns.length)(j:2*ns.length<=m+3)(a:ns.length<=50)(b:∀x∈ns,x.natAbs<=M)(h:1<=M)(f:(2*ns.length -2)*((ns.length -1)*M)<=2^w)(g:∀s,s<m+1->∀p,p<m+1->(s -2*p)*p+(s+1)<=E):FX ns (eE ns) [] [] w E:=by
 have c:M<=(ns.length -1)*M:=oC M (by lia);have e:∀k,(ns.getD k 0).natAbs<=M:=λk=>by
  by_cases d:k<ns.length
  .exact b _ (getD_mem' d)
  .rw[outI (by lia)];exact PQ _
 refine⟨by rw[fG];lia,a,⟨(ns.length -1)*M,λi=>?_,λi=>?_,Do h c,?_⟩,λp=>?_⟩
 .obtain⟨z,k⟩:=i;cases z
  .exact Do (e k) c
  .exact PQ _
 .obtain⟨z,k⟩:=i;cases z
  .show((eE ns).getD k 0).natAbs<=_;rw[ve,HI,D3];by_cases d:k+1<ns.length
   .exact Pt (by lia) (e _)
   .rw[outI (by lia)];exact PQ _
  .exact PQ _
 .rw[fG,show ns.length -1+(ns.length -1 -1)+1=2*ns.length -2 by lia];exact f
 .rw[fG];exact VU g _ (by lia) p
theorem Sm.start(P:FX ns (eE ns) [] [] w E)(p:2<=ns.length)(m:ns.getD (ns.length -1) 0≠0)(e:∀k,cQ a k=α*((ns.getD k 0:Int):Rat))(l:a.length=ns.length)(z:au a)(i:α≠0)(g:Bl 26 26 α):Sm ns (eE ns) w E 26 ns (eE ns) 1 1 α α a (bX a):=by
 have c:=fG ns;have b:(eE ns).getD ((eE ns).length -1) 0≠0:=by rw[ve,c,show ns.length -1 -1+1=ns.length -1 by lia];exact Pi (by lia) m
 have j:au (bX a):=λx d=>by
  rw[Ki]at d;have f:cQ (bX a) ((bX a).length -1)=x:=by show(bX a).getD _ 0=x;rw[AC,d];rfl
  rw[jH,jh,show a.length -1 -1+1=a.length -1 by lia]at f;have o:=lI z (by lia);have n:((a.length -1:Nat):Rat)≠0:=λh=>by have:((a.length -1:Nat):Int)=0:=Iy.mp h;lia
  rw[<-f];intro h;rcases Kk.mp h with h|h
  .exact n h
  .exact o h
 refine⟨CS.start P (by rw[c];lia) b (by show 0+_<=_;lia) (.inl rfl),e,λk=>?_,i,i,l,by rw[jh,c,l],z,j,g.up (TK _ _) (TK _ _),g.up (TK _ _) (TK _ _)⟩;rw[jH,ve,e (k+1),FM];show((k+1:Nat):Rat)*_=α*(((k+1:Nat):Rat)*_);grind
end Num
namespace Num
def ab(u A:Rat):Prop:= -A<=u/\u<=A
theorem ji{a b:Rat}(d:0<=a)(c:0<=b):0<=a*b:=TB d c
theorem cX(b:ab u A)(a:ab v B):ab (u*v) (A*B):=by obtain⟨i,a2⟩:=b;obtain⟨h,g⟩:=a;have f:=ji (show 0<=A -u by grind) (show 0<=B -v by grind);have e:=ji (show 0<=A+u by grind) (show 0<=B+v by grind);have d:=ji (show 0<=A -u by grind) (show 0<=B+v by grind);have c:=ji (show 0<=A+u by grind) (show 0<=B -v by grind);constructor<;>grind
theorem vf(b:ab u A)(a:ab v B):ab (u+v) (A+B):=by unfold ab at*;grind
theorem iW(h:ab u A)(a:A<=B):ab u B:=by unfold ab at*;grind
def In(a b x:Rat):Prop:=a<=x/\x<=b
structure Smt(a b:Rat)(f g:Rat->Rat)(C:Rat):Prop where
 f0:∀x,In a b x->ab (f x) C
 g0:∀x,In a b x->ab (g x) C
 l:∀x y,In a b x->In a b y->x<=y->ab (f y -f x) (C*(y -x))
 d:∀x y,In a b x->In a b y->x<=y->ab (f y -f x -(y -x)*g x) (C*((y -x)*(y -x)))
noncomputable def dv(x:Rat):List Rat->Rat
 |[]=>0
 |_::a=>ev x a+x*dv x a
theorem In.ab(h:In a b x):∃M,0<=M/\∀x,In a b x->ab x M:=by
 by_cases e: -a<=b
 .by_cases d:0<=b
  .exact⟨b,d,λx c=>⟨by have:=c.1;grind,c.2⟩⟩
  .exact⟨-a,by unfold In at h;grind,λx c=>by unfold In at*;constructor<;>grind⟩
 .exact⟨-a,by unfold In at h;grind,λx c=>by unfold In at*;constructor<;>grind⟩
theorem cA(x r:Rat)(a:List Rat):ev x (r::a)=r+x*ev x a:=rfl
theorem qp(h:a<=b):∀c:List Rat,∃C,0<=C/\Smt a b (λx=>ev x c) (λx=>dv x c) C
 |[]=>⟨0,by grind,λx _=>by show Num.ab 0 0;unfold Num.ab;grind,λx _=>by show Num.ab 0 0;unfold Num.ab;grind,λx y _ _ _=>by show Num.ab (0 -0) _;unfold Num.ab;grind,λx y _ _ _=>by show Num.ab (0 -0 -_*0) _;unfold Num.ab;grind⟩
 |r::c=>by
  obtain⟨C,u,S⟩:=qp h c;obtain⟨M,t,j⟩:=In.ab (x:=a) (a:=a) (b:=b) ⟨by grind,h⟩;have R:∃R,0<=R/\Num.ab r R:=by
   by_cases o:0<=r
   .exact⟨r,o,by grind,by grind⟩
   .exact⟨-r,by grind,by grind,by grind⟩
  obtain⟨R,n,s⟩:=R;have p:=ji t u;refine⟨R+M*C+C,by grind,λx f=>?_,λx f=>?_,λx y f i g=>?_,λx y f i g=>?_⟩
  .exact iW (vf s (cX (j x f) (S.f0 x f))) (by grind)
  .show Num.ab (ev x c+x*dv x c) _;exact iW (vf (S.f0 x f) (cX (j x f) (S.g0 x f))) (by grind)
  .show Num.ab (r+y*ev y c -(r+x*ev x c)) _;have e:r+y*ev y c -(r+x*ev x c)=y*(ev y c -ev x c)+(y -x)*ev x c:=by grind
   rw[e];have m:0<=y -x:=by grind
   have k:Num.ab (y -x) (y -x):=⟨by grind,by grind⟩;have q:=ji n m;exact iW (vf (cX (j y i) (S.l x y f i g)) (cX k (S.f0 x f))) (by grind)
  .show Num.ab (r+y*ev y c -(r+x*ev x c) -(y -x)*(ev x c+x*dv x c)) _;have e:r+y*ev y c -(r+x*ev x c) -(y -x)*(ev x c+x*dv x c)=y*(ev y c -ev x c -(y -x)*dv x c)+(y -x)*(y -x)*dv x c:=by grind
   rw[e];have m:0<=y -x:=by grind
   have k:Num.ab (y -x) (y -x):=⟨by grind,by grind⟩;have q:=ji n (ji m m);exact iW (vf (cX (j y i) (S.d x y f i g)) (cX (cX k k) (S.g0 x f))) (by grind)
structure dQ(a b:Rat)where
 l:Nat->Rat
 r:Nat->Rat
 lt:∀n,l n<r n
 up:∀n,l n<=l (n+1)
 dn:∀n,r (n+1)<=r n
 a0:a<=l 0
 b0:r 0<=b
 sm:∀e:Rat,0<e->∃n,r n -l n<=e
def dQ.I{a b:Rat}(N:dQ a b)(n:Nat)(x:Rat):Prop:=In (N.l n) (N.r n) x
theorem dQ.mono(N:dQ a b):∀{m:Nat},n<=m->N.I m x->N.I n x
 |0,h,c=>by cases vT.mp h;exact c
 |m+1,h,c=>by
  by_cases e:n=m+1
  .rw[e];exact c
  .have:=N.up m;have:=N.dn m;refine N.mono (m:=m) (by lia) ?_;unfold dQ.I In at*;grind
theorem dQ.base(N:dQ a b)(h:N.I n x):In a b x:=by have h:=N.mono (PQ n) h;have:=N.a0;have:=N.b0;unfold dQ.I In at*;grind
def dQ.Z{a b:Rat}(N:dQ a b)(f:Rat->Rat):Prop:=∀e:Rat,0<e->∃n,∀x,N.I n x->ab (f x) e
def dQ.P{a b:Rat}(N:dQ a b)(s:Rat)(f:Rat->Rat):Prop:=(s=1\/s= -1)/\∃c,0<c/\∃n,∀x,N.I n x->c<=s*f x
def PD(a b:Rat)(f:Rat->Rat):Prop:=∃L,0<=L/\∀x y,In a b x->In a b y->x<=y->ab (f y -f x) (L*(y -x))
def Yh(a b:Rat)(f:Rat->Rat):Prop:=∃B,0<=B/\∀x,In a b x->ab (f x) B
theorem dQ.FY(N:dQ a b)(h:PD a b f):N.Z f\/∃s,N.P s f:=by
 by_cases z:N.Z f
 .exact .inl z
 .refine .inr ?_;obtain⟨L,K,q⟩:=h;have v:∃e:Rat,0<e/\∀n,∃x,N.I n x/\¬ab (f x) e:=Fk λB=>z λe j=>Fk λp=>B ⟨e,j,λn=>Fk λg=>p ⟨n,λx C=>Fk λm=>g ⟨x,C,m⟩⟩⟩;obtain⟨e,t,j⟩:=v;have E:(0:Rat)<2*(L+1):=by grind
  obtain⟨n,p⟩:=N.sm (e*(2*(L+1))⁻¹) (Ha t (SU.mpr E));obtain⟨x,g,m⟩:=j n;have d:∀y,N.I n y->ab (f y -f x) (e*2⁻¹):=λy c=>by
   have k:∀d:Rat,0<=d->d<=N.r n -N.l n->L*d<=e*2⁻¹:=λd J G=>by
    have D:d<=e*(2*(L+1))⁻¹:=by grind
    have o:=Dx D (show(0:Rat)<=L+1 by grind);have H:(L+1)*(e*(2*(L+1))⁻¹)=e*2⁻¹:=by
     have:(2*(L+1))*(2*(L+1))⁻¹=1:=Hn _ (by grind);have o:(2:Rat)*2⁻¹=1:=by grind
     grind
    grind
   have A:=g;have w:=c;unfold dQ.I In at A w;by_cases i:x<=y
   .exact iW (q x y (N.base g) (N.base c) i) (k _ (by grind) (by grind))
   .have h:=iW (q y x (N.base c) (N.base g) (by grind)) (k _ (by grind) (by grind));unfold ab at*;grind
  have u:(0:Rat)<e*2⁻¹:=Ha t (SU.mpr (by decide));have o:e*2⁻¹+e*2⁻¹=e:=by
   have o:(2:Rat)*2⁻¹=1:=by grind
   grind
  unfold ab at m;by_cases F:0<=f x
  .refine⟨1,.inl rfl,e*2⁻¹,u,n,λy c=>?_⟩;have:=d y c;unfold ab at this;grind
  .refine⟨-1,.inr rfl,e*2⁻¹,u,n,λy c=>?_⟩;have:=d y c;unfold ab at this;grind
noncomputable def df(a b:Rat):Nat:=if 0<a then(if 0<b then 0 else 1)else(if 0<b then 1 else 0)
noncomputable def yL(b:Rat):List Rat->Nat
 |[]=>0
 |x::l=>if x=0 then yL b l else(if b=0 then 0 else df b x)+yL x l
noncomputable def chg(l:List Rat):Nat:=yL 0 l
theorem xU(b:Rat)(l:List Rat):yL b (0::l)=yL b l:=Bi rfl
theorem qv(a:x≠0)(c:b≠0)(l:List Rat):yL b (x::l)=df b x+yL x l:=by show(if x=0 then _ else _)=_;rw[BM a,BM c]
theorem zG(a:x≠0)(l:List Rat):chg (x::l)=yL x l:=by show(if x=0 then _ else _)=_;rw[BM a,Bi rfl,ik]
theorem FZ(l:List Rat):chg (0::l)=chg l:=xU 0 l
theorem n5(d:s=1\/s= -1)(c:t=1\/t= -1)(f:0<s*a)(e:0<t*b):df a b=df s t:=by
 unfold df;rcases d with rfl|rfl<;>rcases c with rfl|rfl
 .rw[Bi (by grind),Bi (by grind),Bi (by decide),Bi (by decide)]
 .rw[Bi (by grind),BM (by grind),Bi (by decide),BM (by decide)]
 .rw[BM (by grind),Bi (by grind),BM (by decide),Bi (by decide)]
 .rw[BM (by grind),BM (by grind),BM (by decide),BM (by decide)]
theorem iD{s a:Rat}(h:0<s*a):a≠0:=λe=>by rw[e,Pl]at h;exact absurd h (by decide)
theorem Ku(e:s=1\/s= -1)(g:0<s*a)(f:0< -s*c)(l:List Rat):yL a (b::c::l)=1+yL c l:=by
 have m:=iD g;have k:=iD f;have d: -s=1\/-s= -1:=by rcases e with rfl|rfl<;>grind
 have j:df s (-s)=1:=by
  rcases e with rfl|rfl
  .decide+kernel
  .decide+kernel
 have n:∀t:Rat,t=1\/t= -1->df t t=0:=λt o=>by
  rcases o with rfl|rfl
  .decide+kernel
  .decide+kernel
 by_cases i:b=0
 .rw[i,xU,qv k m,n5 e d g f,j]
 .rw[qv i m,qv k i];have p:0<s*b\/0< -s*b:=by rcases e with rfl|rfl<;>grind
  rcases p with h|h
  .rw[n5 e e g h,n5 e d h f,j,n s e,ik]
  .rw[n5 e d g h,n5 d d h f,j,n _ d,ik]
inductive Ch(a b:Rat):List (Rat->Rat)->Prop
 |one {f:Rat->Rat} (c:Rat) (h0:c≠0) (h:∀x,In a b x->f x=c):Ch a b [f]
 |two {f g:Rat->Rat} (hf:PD a b f) (h:Ch a b [g]):Ch a b [f,g]
 |cons {f g h:Rat->Rat} {l:List (Rat->Rat)} (hf:PD a b f) (α β:Rat) (q:Rat->Rat) (a0:0<α) (b0:0<β) (hq:Yh a b q) (e:∀x,In a b x->α*f x+β*h x=q x*g x) (k:Ch a b (g::h::l)):Ch a b (f::g::h::l)
theorem Ch.Kv(h:Ch a b (f::l)):PD a b f:=by
 cases h with
 |one c i h=>exact⟨0,by grind,λx y g e _=>by rw[h x g,h y e];unfold ab;grind⟩
 |two d h=>exact d
 |cons d _ _ _ _ _ _ _ _=>exact d
theorem Ch.tail(h:Ch a b (f::g::l)):Ch a b (g::l):=by
 cases h with
 |two c h=>exact h
 |cons c _ _ _ _ _ _ _ k=>exact k
variable{a b:Rat}(N:dQ a b)
theorem dQ.P.VY{N:dQ a b}(h:N.P s f):∃n,∀m,n<=m->∀x,N.I m x->0<s*f x:=by obtain⟨_,c,g,n,h⟩:=h;exact⟨n,λm e x d=>by have:=h x (N.mono e d);grind⟩
theorem dQ.P.noZ{N:dQ a b}(h:N.P s f):¬N.Z f:=λz=>by
 obtain⟨d,c,j,n,h⟩:=h;have k:(2:Rat)*2⁻¹=1:=by grind
 obtain⟨m,e⟩:=z (c*2⁻¹) (Ha j (SU.mpr (by decide)));have i:N.I (max n m) (N.l (max n m)):=⟨by grind,Fm (N.lt _)⟩;have o:=h _ (N.mono (mI n m) i);have g:=e _ (N.mono (oy n m) i);unfold ab at g;rcases d with rfl|rfl<;>grind
theorem Ch.F3(h:Ch a b [f]):∃s,N.P s f:=by
 cases h with
 |one c g h=>
  by_cases e:0<c
  .exact⟨1,.inl rfl,c,e,0,λx d=>by rw[h x (N.base d)];grind⟩
  .exact⟨-1,.inr rfl,-c,by grind,0,λx d=>by rw[h x (N.base d)];grind⟩
theorem PJ(I:0<α)(o:0<c)(t:Yh a b q)(e:∀x,In a b x->α*f x+c*h x=q x*g x)(r:N.Z f)(p:N.Z g):N.Z h:=λd j=>by
 obtain⟨B,J,w⟩:=t;have s:0<α+B+1:=by grind
 have y:=SU.mpr s;have D:(α+B+1)*(α+B+1)⁻¹=1:=Hn _ (by grind);have l:0<c*d*(α+B+1)⁻¹:=Ha (Ha o j) y;generalize C:c*d*(α+B+1)⁻¹=k at l;obtain⟨n,u⟩:=r k l;obtain⟨m,v⟩:=p k l;refine⟨max n m,λx i=>?_⟩;have H:=e x (N.base i);have z:=u x (N.mono (mI n m) i);have G:=cX (w x (N.base i)) (v x (N.mono (oy n m) i));have F:=cX (show ab α α from⟨by grind,by grind⟩) z;have E:(α+B+1)*k=c*d:=by rw[<-C];grind
 unfold ab at*;have up:c*h x<=c*d:=by grind
 have A:c*(-d)<=c*h x:=by grind
 exact⟨js A o,js up o⟩
theorem Ch.xV:∀{f g:Rat->Rat}{l:List (Rat->Rat)},Ch a b (f::g::l)->¬(N.Z f/\N.Z g)
 |f,g,[],h,z=>by obtain⟨s,c⟩:=Ch.F3 N h.tail;exact c.noZ z.2
 |f,g,k::l,h,z=>by
  cases h with
  |cons o n m q j i d e t=>exact Ch.xV t ⟨z.2,PJ N j i d e z.1 z.2⟩
theorem VZ(o:0<α)(l:0<d)(u:Yh a b q)(e:∀x,In a b x->α*f x+d*h x=q x*g x)(r:N.P s f)(p:N.Z g):N.P (-s) h:=by
 obtain⟨j,c,K,n,v⟩:=r;obtain⟨B,S,y⟩:=u;have Q:(2:Rat)*2⁻¹=1:=by grind
 have t:0<B+1:=by grind
 have z:=SU.mpr t;have O:(B+1)*(B+1)⁻¹=1:=Hn _ (by grind);have L:=Ha o K;have k:0<α*c*2⁻¹:=Ha L (SU.mpr (by decide));have J:0<α*c*2⁻¹*(B+1)⁻¹:=Ha k z;obtain⟨m,w⟩:=p _ J;have M:d*d⁻¹=1:=Hn _ (by grind);refine⟨by rcases j with rfl|rfl<;>grind,α*c*2⁻¹*d⁻¹,Ha k (SU.mpr l),max n m,λx i=>?_⟩;have I:=e x (N.base i);have H:=v x (N.mono (mI n m) i);have G:=cX (y x (N.base i)) (w x (N.mono (oy n m) i));have R:=Dx H (Fm o);have F:B*(α*c*2⁻¹*(B+1)⁻¹)<=α*c*2⁻¹:=by
  have:(B+1)*(α*c*2⁻¹*(B+1)⁻¹)=α*c*2⁻¹:=by grind
  grind
 have E:ab (s*(q x*g x)) (α*c*2⁻¹):=by have:=iW G F;unfold ab at*;rcases j with rfl|rfl<;>grind
 have D:d*(α*c*2⁻¹*d⁻¹)<=d*(-s*h x):=by
  have C:d*(-s*h x)=α*(s*f x) -s*(q x*g x):=by rw[<-I];grind
  have A:d*(α*c*2⁻¹*d⁻¹)=α*c*2⁻¹:=by grind
  rw[C,A];unfold ab at E;grind
 exact js D l
theorem Ch.same:∀(M:Nat){f:Rat->Rat}{l:List (Rat->Rat)}{s:Rat},l.length<=M->Ch a b (f::l)->N.P s f->∃n K,∀m,n<=m->∀x,N.I m x->yL (f x) (l.map (· x))=K
 |M,f,[],s,_,h,p=>⟨0,0,λm _ x _=>rfl⟩
 |0,f,_::_,s,i,h,p=>by simp at i
 |M+1,f,g::l,s,i,h,p=>by
  obtain⟨v,w⟩:=p.VY;rcases N.FY h.tail.Kv with z|⟨t,d⟩
  .cases l with
   |nil=>obtain⟨t,d⟩:=Ch.F3 N h.tail;exact absurd z d.noZ
   |cons k l=>
    cases h with
    |cons H G F q E D B e A=>have pk:=VZ N E D B e p z;obtain⟨o,u⟩:=pk.VY;obtain⟨j,K,r⟩:=Ch.same M (by simp at i⊢;lia) A.tail pk;refine⟨max v (max o j),1+K,λm C x c=>?_⟩;show yL (f x) (g x::k x::l.map (· x))=_;rw[Ku p.1 (w m (by lia) x c) (u m (by lia) x c),r m (by lia) x c]
  .obtain⟨o,u⟩:=d.VY;obtain⟨j,K,r⟩:=Ch.same M (by simp at i⊢;lia) h.tail d;refine⟨max v (max o j),df s t+K,λm C x c=>?_⟩;have y:=w m (by lia) x c;have a2:=u m (by lia) x c;show yL (f x) (g x::l.map (· x))=_;rw[qv (iD a2) (iD y),n5 p.1 d.1 y a2,r m (by lia) x c]
def V0(a b:Rat)(f g:Rat->Rat):Prop:=∃C,0<=C/\∀x y,In a b x->In a b y->x<=y->ab (f y -f x -(y -x)*g x) (C*((y -x)*(y -x)))
noncomputable def Ej(l:List (Rat->Rat))(x:Rat):Nat:=chg (l.map (· x))
section
variable{a b:Rat}(N:dQ a b)
theorem V0.V1(h:V0 a b f g)(p:N.P s g):∃n,∀m,n<=m->∀x y,N.I m x->N.I m y->x<y->s*f x<s*f y:=by
 obtain⟨C,Q,v⟩:=h;obtain⟨r,c,G,n,t⟩:=p;have j:0<C+1:=by grind
 have w:=SU.mpr j;have K:(C+1)*(C+1)⁻¹=1:=Hn _ (by grind);obtain⟨e,u⟩:=N.sm (c*(C+1)⁻¹) (Ha G w);refine⟨max n e,λm H x y i k q=>?_⟩;have O:=t x (N.mono (by lia) i);have E:=v x y (N.base i) (N.base k) (by grind);have D:y -x<=c*(C+1)⁻¹:=by have o:=N.mono (show e<=m by lia) i;have l:=N.mono (show e<=m by lia) k;unfold dQ.I In at o l;grind
 generalize J:y -x=d at*;have F:0<d:=by grind
 have B:=Dx D (Fm j);have A:(C+1)*(c*(C+1)⁻¹)=c:=by grind
 have M:(C+1)*d<=c:=by rw[<-A];exact B
 have z:C*d<s*g x:=by grind
 have L:=YB z F;unfold ab at E;rcases r with rfl|rfl<;>grind
theorem Ch.Fx(h:Ch a b (f::g::l))(r:V0 a b f g)(z:N.Z f):∃s,(s=1\/s= -1)/\∃n K,∀m,n<=m->(∀x y,N.I m x->N.I m y->x<y->s*f x<s*f y)/\∀x,N.I m x->Ej (f::g::l) x=K+if s*f x<0 then 1 else 0:=by
 rcases N.FY h.tail.Kv with k|⟨s,d⟩
 .exact absurd ⟨z,k⟩ (h.xV N)
 .obtain⟨q,w⟩:=r.V1 N d;obtain⟨p,v⟩:=d.VY;obtain⟨o,K,u⟩:=Ch.same N _ (Ee _) h.tail d;refine⟨s,d.1,max q (max p o),K,λm A=>⟨w m (by lia),λx j=>?_⟩⟩;have a2:=v m (by lia) x j;have a3:=u m (by lia) x j;show chg (f x::g x::l.map (· x))=_;by_cases i:f x=0
  .rw[i,FZ,zG (iD a2),a3,BM (by rw[Pl];decide),ig]
  .rw[zG i,qv (iD a2) i,a3,xb];congr 1;have c:=d.1;have FY:0<s*f x\/0< -s*f x:=by rcases c with rfl|rfl<;>grind
   have e: -s=1\/-s= -1:=by rcases c with rfl|rfl<;>grind
   rcases FY with t|t
   .rw[n5 c c t a2,BM (by grind)];rcases c with rfl|rfl<;>decide+kernel
   .rw[n5 e c t a2,Bi (by grind)];rcases c with rfl|rfl<;>decide+kernel
theorem Ch.NB(h:Ch a b (f::l))(p:N.P s f):∃n K,∀m,n<=m->∀x,N.I m x->Ej (f::l) x=K:=by obtain⟨e,i⟩:=p.VY;obtain⟨d,K,g⟩:=Ch.same N _ (Ee _) h p;refine⟨max e d,K,λm j x c=>?_⟩;show chg (f x::l.map (· x))=_;rw[zG (iD (i m (by lia) x c)),g m (by lia) x c]
end
section
variable(dX:Rat->Rat->Prop)
def iX(p:Rat×Rat):Rat×Rat:=
 have:=n2 (dX p.1 ((p.1+p.2)*2⁻¹))
 if dX p.1 ((p.1+p.2)*2⁻¹)then(p.1,(p.1+p.2)*2⁻¹)else((p.1+p.2)*2⁻¹,p.2)
def cM(p:Rat×Rat):Nat->Rat×Rat
 |0=>p
 |n+1=>iX dX (cM p n)
variable{dX}
theorem qw(h:p.1<p.2)(e:∀l m r,l<m->m<r->m=(l+r)*2⁻¹->dX l r->dX l m\/dX m r)(d:dX p.1 p.2):dX (iX dX p).1 (iX dX p).2/\(iX dX p).1<(iX dX p).2/\p.1<=(iX dX p).1/\(iX dX p).2<=p.2/\(iX dX p).2 -(iX dX p).1=(p.2 -p.1)*2⁻¹:=by
 have f:(2:Rat)*2⁻¹=1:=by grind
 unfold iX;by_cases c:dX p.1 ((p.1+p.2)*2⁻¹)
 .simp only[Bi c];exact⟨c,by grind,by grind,by grind,by grind⟩
 .simp only[BM c];refine⟨?_,by grind,by grind,by grind,by grind⟩;rcases e p.1 ((p.1+p.2)*2⁻¹) p.2 (by grind) (by grind) rfl d with k|k
  .exact absurd k c
  .exact k
theorem eZ(h:p.1<p.2)(d:∀l m r,l<m->m<r->m=(l+r)*2⁻¹->dX l r->dX l m\/dX m r)(c:dX p.1 p.2):∀n,dX (cM dX p n).1 (cM dX p n).2/\(cM dX p n).1<(cM dX p n).2/\((cM dX p n).2 -(cM dX p n).1)*2^n=p.2 -p.1
 |0=>⟨c,h,by show(p.2 -p.1)*2^0=_;rw[ij];grind⟩
 |n+1=>by
  obtain⟨k,e,j⟩:=eZ h d c n;obtain⟨i,g,q,o,f⟩:=qw e d k;refine⟨i,g,?_⟩;show((iX dX (cM dX p n)).2 -(iX dX (cM dX p n)).1)*2^(n+1)=_;rw[f,<-j,XB];have e:(2:Rat)*2⁻¹=1:=by grind
  grind
theorem qx:∀n:Nat,((n:Nat):Rat)<=2^n
 |0=>by rw[ij];decide
 |n+1=>by
  have h:=qx n;have c:∀n:Nat,(1:Rat)<=2^n:=λn=>by
   induction n with
   |zero=>rw[ij];grind
   |succ n d=>rw[XB];grind
  have c:=c n;rw[XB];have e:((n+1:Nat):Rat)=((n:Nat):Rat)+1:=by show(((n+1:Nat):Int):Rat)=(((n:Nat):Int):Rat)+((1:Int):Rat);rw[<-eI];rfl
  grind
theorem ZF{x e:Rat}(g:0<x)(c:0<e):∃n:Nat,x<=e*2^n:=by
 have f:=SU.mpr c;have d:e*e⁻¹=1:=Hn _ (by grind);have p:=Ha g f;refine⟨(x*e⁻¹).num.natAbs,?_⟩;have k:=qx (x*e⁻¹).num.natAbs;have q:x*e⁻¹<=(((x*e⁻¹).num.natAbs:Nat):Rat):=by
  generalize x*e⁻¹=y at p;have l:0<=y.num:=Rat.num_nonneg.mpr (Fm p);have o:=eT y;have j:(1:Rat)<=((y.den:Int):Rat):=by
   have:(1:Int)<=y.den:=by have:=y.den_pos;lia
   exact Fn.mpr this
  have m:=Dx j (Fm p);have i:((y.num.natAbs:Nat):Rat)=((y.num:Int):Rat):=by show(((y.num.natAbs:Nat):Int):Rat)=_;rw[Int.natAbs_of_nonneg (by lia)]
  rw[i];grind
 have r:=Dx (ZS q k) (Fm c);have h:e*(x*e⁻¹)=x:=by rw[S0 x,<-ar,d,Xt]
 rw[h]at r;exact r
def Ky{a b:Rat}(h:a<b)(d:∀l m r,l<m->m<r->m=(l+r)*2⁻¹->dX l r->dX l m\/dX m r)(f:dX a b):dQ a b where
 l n:=(cM dX (a,b) n).1
 r n:=(cM dX (a,b) n).2
 lt n:=(eZ (p:=(a,b)) h d f n).2.1
 up n:=by obtain⟨j,i,_⟩:=eZ (p:=(a,b)) h d f n;exact(qw i d j).2.2.1
 dn n:=by obtain⟨j,i,_⟩:=eZ (p:=(a,b)) h d f n;exact(qw i d j).2.2.2.1
 a0:=by show a<=a;grind
 b0:=by show b<=b;grind
 sm e he:=by obtain⟨n,o⟩:=ZF (show 0<b -a by grind) he;obtain⟨_,_,g⟩:=eZ (p:=(a,b)) h d f n;have g:((cM dX (a,b) n).2 -(cM dX (a,b) n).1)*2^n=b -a:=g;have k:(0:Rat)<2^n:=Rat.pow_pos (by decide);refine⟨n,Rat.le_of_mul_le_mul_right (c:=2^n) ?_ k⟩;rw[g];exact o
theorem vg(h:a<b)(e:∀l m r,l<m->m<r->m=(l+r)*2⁻¹->dX l r->dX l m\/dX m r)(g:∀N:dQ a b,∃n,∀x y,N.I n x->N.I n y->x<y->¬dX x y):¬dX a b:=λd=>by obtain⟨n,f⟩:=g (Ky h e d);obtain⟨i,c,_⟩:=eZ (p:=(a,b)) h e d n;exact f _ _ ⟨by show(cM dX (a,b) n).1<=(cM dX (a,b) n).1;grind,Fm c⟩ ⟨Fm c,by show(cM dX (a,b) n).2<=(cM dX (a,b) n).2;grind⟩ c i
end
theorem Ch.stay(h:a<b)(e:Ch a b (f::l))(q:0<c)(o:∀x,In a b x->¬ab (f x) c):Ej (f::l) a=Ej (f::l) b:=by
 have k:=vg (dX:=λx y=>Ej (f::l) x≠Ej (f::l) y) h (λl m r _ _ _ t=>by lia) (λN=>by
  rcases N.FY e.Kv with z|⟨s,p⟩
  .obtain⟨n,d⟩:=z c q;have i:N.I n (N.l n):=⟨by grind,Fm (N.lt n)⟩;exact absurd (d _ i) (o _ (N.base i))
  .obtain⟨n,K,d⟩:=e.NB N p;exact⟨n,λx y j g _=>by rw[d n (Ee _) x j,d n (Ee _) y g];exact λh=>h rfl⟩)
 exact ZR.mp k
end Num
namespace Num
open Sub
theorem vh{P:Nat->Prop}(h:∃i,¬P i):∃i,¬P i/\∀j,j<i->P j:=by
 obtain⟨i,d⟩:=h
 induction i using Nat.strongRecOn with
 |ind i c=>
  by_cases z:∃j,j<i/\¬P j
  .obtain⟨j,b,a⟩:=z;exact c j b a
  .exact⟨i,d,λj b=>Fk λa=>z ⟨j,b,a⟩⟩
theorem F4:∀n,(∀i,i<n->p∣f i)->p∣sm f n
 |0,_=>xl _
 |n+1,h=>by rw[sm];exact m1 (F4 n λi a=>h i (by lia)) (h n (by lia))
theorem Di(m:p7 p)(o:∃i,¬p∣g i)(h:∀k,p∣ku f g k)(j:Nat):p∣f j:=by
 refine Fk λa=>?_;obtain⟨i,n,l⟩:=vh (P:=λi=>p∣g i) o;obtain⟨j,a,d⟩:=vh (P:=λj=>p∣f j) ⟨j,a⟩;have e:=h (j+i);unfold ku at e;have c:p∣sm (λt=>f t*g (j+i -t)) (j+i+1) -sm (λt=>if t=j then f j*g i else 0) (j+i+1):=by
  rw[FQ];refine F4 _ λt s=>?_;show p∣f t*g (j+i -t) -(if t=j then f j*g i else 0);by_cases b:t=j
  .rw[Bi b,b,show j+i -j=i by lia,Int.sub_self];exact xl _
  .rw[BM b,xk];by_cases q:t<j
   .exact Int.dvd_mul_of_dvd_left (d t q)
   .exact w8 (l _ (by lia))
 rw[uY j λ_=>f j*g i,Bi (by lia)]at c;have r:p∣f j*g i:=by have:=dr e c;rw[show sm (λt=>f t*g (j+i -t)) (j+i+1) -(sm (λt=>f t*g (j+i -t)) (j+i+1) -f j*g i)=f j*g i by lia]at this;exact this
 exact(FT m r).elim a n
theorem Dj(h:2<=d):∃p,p7 p/\p∣d:=by
 have g:∃i:Nat,¬(i<2\/¬(i:Int)∣d):=⟨d.toNat,λz=>z.elim (λz=>by lia) λz=>z (by rw[N0 (by lia)];exact Th _)⟩;obtain⟨i,b,c⟩:=vh g;have k:2<=i:=by refine du λz=>b (.inl z)
 have a:(i:Int)∣d:=Fk λz=>b (.inr z);refine⟨i,⟨by lia,λe n m z=>?_⟩,a⟩;have j:e∣(i:Int):=wx z;have f:e.toNat<i:=by have l:e*2<=e*e:=h8 (by lia) (by lia);lia
 rcases c e.toNat f with z|z
 .lia
 .exact z (by rw[N0 (by lia)];exact Nh j a)
theorem V2{f g n:Nat->Int}(u:∀e:Int,(∀i,e∣g i)->e∣1):∀(m:Nat)(d:Int)(f:Nat->Int),d.natAbs<=m->d≠0->(∀k,d*n k=ku f g k)->∀i,d∣f i:=by
 intro m
 induction m with
 |zero=>intro d f h c;exact absurd (by lia) c
 |succ m t=>
  intro d f h c e;by_cases v:d.natAbs=1
  .intro i;exact⟨d*f i,by rcases Int.natAbs_eq d with z|z<;>rw[v]at z<;>rw[z]<;>grind⟩
  .obtain⟨p,l,b⟩:=Dj (d:=(d.natAbs:Int)) (by lia);have b:p∣d:=g8.mp b;have w:=l.1;obtain⟨a,rfl⟩:=b;have r:∀i,p∣f i:=Di l (Fk λz=>by have:=lj (by decide) (u p λi=>Fk λy=>z ⟨i,y⟩);lia) λk=>⟨a*n k,by rw[<-e k,X2]⟩;have j:a≠0:=λz=>c (by rw[z,Qb]);have o:∀i,f i=p*(f i/p):=λi=>(zz0 (r i)).symm;have s:a.natAbs<=m:=by
    rw[HI]at h;have A:2*a.natAbs<=p.natAbs*a.natAbs:=SF _ (by lia);have x:0<a.natAbs:=by lia
    lia
   have:=t a (λi=>f i/p) s j λk=>by have q:=e k;rw[show f=λi=>p*(f i/p)from funext o,Ko,X2]at q;exact Qr (by lia) q
   intro i;rw[o i];exact zz1 _ (this i)
theorem Dk(h:Fin u):∃(D:Int)(f:Nat->Int),D≠0/\∀i,(D:Rat)*u i=f i:=by
 obtain⟨n,b⟩:=h;have:∃D:Int,0<D/\∀i,i<n->∃z:Int,(D:Rat)*u i=z:=by
  clear b
  induction n with
  |zero=>exact⟨1,by decide,λi h=>by lia⟩
  |succ n k=>
   obtain⟨D,j,a⟩:=k;have l:=(u n).den_pos;refine⟨D*(u n).den,rl j (by lia),λi c=>?_⟩;by_cases e:i=n
   .subst e;have g:=gI (x:=u i) (B:=(u i).den) (Th _);rw[hY (by lia),d5]at g;refine⟨D*(u i).num,?_⟩;rw[FM,FM,g,ar,S0 (u i)]
   .obtain⟨z,hz⟩:=a i (by lia);refine⟨z*(u n).den,?_⟩;rw[FM,FM,<-hz];grind
 obtain⟨D,j,a⟩:=this;have d:∀i,∃z:Int,(D:Rat)*u i=z:=λi=>if c:i<n then a i c else⟨0,by rw[b i (by lia),Pl];rfl⟩
 exact⟨D,λi=>nA (d i),by lia,λi=>n3 (d i)⟩
theorem Kz{g n:Nat->Int}(j:Fin u)(c:∀e:Int,(∀i,e∣g i)->e∣1)(h:∀k,((n k:Int):Rat)=aH u (λi=>(g i:Rat)) k):∃z:Nat->Int,∀i,u i=(z i:Rat):=by
 obtain⟨D,f,a,e⟩:=Dk j;have d:=V2 (f:=f) (n:=n) c D.natAbs D f (Ee _) a λk=>by
  have:((D*n k:Int):Rat)=((ku f g k:Int):Rat):=by rw[<-qm,FM,h k,<-bU];exact bq e (λ_=>rfl) k
  exact_mod_cast this
 refine⟨λi=>f i/D,λi=>?_⟩;have l:(D:Rat)≠0:=by exact_mod_cast a
 have:=e i;rw[<-zz0 (d i),FM]at this;have b:=On (D:Rat) l;have:=Q1 ((D:Rat)⁻¹*·) this;rw[<-ar,<-ar,b,Xt,Xt]at this;exact this
theorem KA(I:0<ns.length)(v:ns.getD (ns.length -1) 0≠0)(L:0<g.length)(A:g.getD (g.length -1) 0≠0)(one:∀d:Int,(∀x∈g,d∣x)->d∣1)(h:DQ (cz g) (cz ns)):
 ∃Z:List Int,0<Z.length/\ns.length+1=Z.length+g.length/\(∀k,ns.getD k 0=ku (co Z) (co g) k)/\ns.getD (ns.length -1) 0=Z.getD (Z.length -1) 0*g.getD (g.length -1) 0:=by
 obtain⟨u,r,e⟩:=h;obtain⟨z,hz⟩:=Kz (g:=co g) (n:=co ns) r (λd D=>one d λx B=>by obtain⟨i,c,e⟩:=Ta B;have:=D i;unfold co at this;rw[AC,DL c]at this;rw[<-e];exact this) e;have l:((g.getD (g.length -1) 0:Int):Rat)≠0:=by exact_mod_cast A
 have j:((ns.getD (ns.length -1) 0:Int):Rat)≠0:=by exact_mod_cast v
 have q:∀i,g.length -1<i->cz g i=0:=λi c=>by show((g.getD i 0:Int):Rat)=0;rw[outI (by lia)];rfl
 have p:∃k,u k≠0:=Fk λy=>j (by have b:=e (ns.length -1);have:=bq (f':=λ_=>0) (g:=cz g) (λi=>Fk λw=>y ⟨i,w⟩) (λ_=>rfl) (ns.length -1);rw[this,cP]at b;exact b);obtain⟨k,p⟩:=p;obtain⟨t,C,o⟩:=kC r k p;have a:=oZ (f:=u) (g:=cz g) (n:=t) (m:=g.length -1) o q;rw[<-e]at a;have K:t+(g.length -1)<ns.length:=by
  refine Uv λy=>?_;have b:cz ns (t+(g.length -1))=0:=by show((ns.getD _ 0:Int):Rat)=0;rw[outI y];rfl
  rw[b]at a;rcases Kk.mp a.symm with w|w
  .exact C w
  .exact l w
 have J:ns.length -1<=t+(g.length -1):=by refine du λy=>j ?_;exact(e (ns.length -1)).trans (vd (n:=t+1) (m:=g.length) (λi c=>o i (by lia)) (λi c=>q i (by lia)) (by lia))
 have E:ns.length -1=t+(g.length -1):=by lia
 have s:∀i,co ((C0 (t+1)).map z) i=z i:=λi=>by
  show((C0 (t+1)).map z).getD i 0=_;by_cases c:i<t+1
  .rw[AC,FC,cm c];rfl
  .rw[outI (by rw[Ap,bj];lia)];have:=o i (by lia);rw[hz i]at this;exact_mod_cast this.symm
 refine⟨(C0 (t+1)).map z,by rw[Ap,bj];lia,by rw[Ap,bj];lia,λk=>?_,?_⟩
 .rw[show co ((C0 (t+1)).map z)=z from funext s];have b:=e k;rw[bq hz (λ_=>rfl) k]at b;have G:=qm z (co g) k;have F:((ns.getD k 0:Int):Rat)=((ku z (co g) k:Int):Rat):=b.trans G;exact_mod_cast F
 .rw[Ap,bj,Nw];have H:((C0 (t+1)).map z).getD t 0=z t:=s t;rw[H];rw[<-E,hz t]at a;have a:((ns.getD (ns.length -1) 0:Int):Rat)=(z t:Rat)*((g.getD (g.length -1) 0:Int):Rat):=a;rw[<-FM]at a;exact_mod_cast a
theorem F5:∀n,(∀i,i<n->(f i).natAbs<=B)->(sm f n).natAbs<=n*B
 |0,_=>by rw[sm];simp
 |n+1,h=>by rw[sm];have h1:=F5 n λi a=>h i (by lia);have c:=h n (by lia);have b:=Int.natAbs_add_le (sm f n) (f n);rw[Sx];lia
instance:Std.Associative aH:=⟨λf g h=>funext λk=>gJ g h k f⟩
instance:Std.Commutative aH:=⟨λf g=>funext λk=>bE f g k⟩
theorem PK(ff:Fin f)(j:Fin h)(d:au b)(l:b≠[])(e:aH f (cQ b)=aH h (cQ b)):f=h:=funext λi=>by
 have g:Fin λi=> -1*h i:=by obtain⟨n,a⟩:=j;exact⟨n,λi c=>by show-1*h i=0;rw[a i c];grind⟩
 have:=uh (s:=λi=>f i+ -1*h i) (ff.add g) d l (λk=>by rw[fE,bU,e];grind) i;have this:f i+ -1*h i=0:=this;grind
theorem Bq(g:Nat->Rat):aH (cQ [1]) g=g:=funext λk=>by rw[bq (f':=λi=>if i=0 then 1 else 0) (g':=g) (λi=>?_) (λ_=>rfl) k,qj];cases i<;>rfl
abbrev Pq:=Nat->Rat
noncomputable def jj(f:Pq):Pq:=λk=>((k+1:Nat):Rat)*f (k+1)
noncomputable def I1:Pq:=cQ [1]
theorem V3:Fin I1:=aK [1]
theorem NC(g:Pq):aH I1 g=g:=Bq g
theorem V4(g:Pq):aH g I1=g:=(Rn (op:=aH) g I1).trans (Bq g)
theorem jI{f:Pq}(h:Fin f):Fin (jj f):=by obtain⟨n,a⟩:=h;exact⟨n,λi b=>by show _*f (i+1)=0;rw[a _ (by lia),Pl]⟩
theorem F6(f g:Pq):jj (aH f g)=λk=>aH (jj f) g k+aH f (jj g) k:=funext λk=>by
 have c:aH (jj f) g k=d8 (λi=>((i:Nat):Rat)*(f i*g (k+1 -i))) (k+2):=by rw[lJ];unfold aH jj;rw[show((0:Nat):Rat)*(f 0*g (k+1 -0))=0 from X9 _,i5];exact dG _ λi _=>by rw[show k+1 -(i+1)=k -i by lia,ar]
 have b:aH f (jj g) k=d8 (λi=>((k+1 -i:Nat):Rat)*(f i*g (k+1 -i))) (k+2):=by show _=d8 _ (k+1)+((k+1 -(k+1):Nat):Rat)*(f (k+1)*g (k+1 -(k+1)));rw[show k+1 -(k+1)=0 by lia];rw[show((0:Nat):Rat)*(f (k+1)*g 0)=0 from X9 _,SY];unfold aH jj;exact dG _ λi a=>by rw[show k+1 -i=k -i+1 by lia];grind
 rw[c,b,<-u9];show _*aH f g (k+1)=_;unfold aH;rw[<-u7];exact dG _ λi a=>by
  rw[<-ba];congr 1;have:k+1=i+(k+1 -i):=by lia
  exact_mod_cast this
theorem aU{f:Pq}(h:Fin f):∃a:List Rat,au a/\cQ a=f:=by
 obtain⟨n,b⟩:=h;refine⟨iV (sC n f),lG _,funext λi=>?_⟩;show(iV _).getD i 0=_;rw[A7,uW];split
 .rfl
 .exact(b _ (by lia)).symm
def Z0(f:Pq):Prop:=∀i,f i=0
theorem ZG{f g:Pq}(ff:Fin f)(d:Fin g)(h:Z0 (aH f g))(c:¬Z0 g):Z0 f:=by obtain⟨b,a,rfl⟩:=aU d;exact uh ff a (λe=>c λi=>by rw[e];rfl) h
theorem ND{f g:Pq}(ff:Fin f)(c:Fin g)(b:¬Z0 f)(a:¬Z0 g):¬Z0 (aH f g):=λh=>b (ZG ff c h a)
theorem KC{f h g:Pq}(ff:Fin f)(d:Fin h)(j:Fin g)(c:¬Z0 g)(e:aH f g=aH h g):f=h:=by obtain⟨b,a,rfl⟩:=aU j;exact PK ff d a (λe=>c λi=>by rw[e];rfl) e
theorem kD(h:¬Z0 (cQ a)):a≠[]:=λe=>h λi=>by rw[e];rfl
theorem eH(z:au a)(h:a≠[]):¬Z0 (cQ a):=λe=>iC z h (e _)
theorem jk(n:au a)(m:au b)(l:au c)(g:a≠[])(f:b≠[])(e:cQ c=aH (cQ a) (cQ b)):c.length+1=a.length+b.length:=by
 have q:=KE.mpr g;have p:=KE.mpr f;have t:cQ c (a.length -1+(b.length -1))≠0:=by
  rw[e,oZ (λi d=>jV (by lia)) λi d=>jV (by lia)];intro z;rcases Kk.mp z with z|z
  .exact iC n g z
  .exact iC m f z
 have k:a.length -1+(b.length -1)<c.length:=Uv λh=>t (jV h);have o:c≠[]:=λz=>by rw[z]at k;cases k
 have j:=iC l o;rw[show c.getD (c.length -1) 0=cQ c (c.length -1)from rfl,e]at j;have r:¬a.length+b.length<=c.length -1+1:=λh=>j (vd (λi d=>jV d) (λi d=>jV d) h);lia
def Un(f:Pq):Prop:=DQ f I1
theorem PL(h:x≠0):Un (cQ [x]):=⟨cQ [x⁻¹],aK _,λk=>by
 have:cQ [x⁻¹]=λi=>x⁻¹*I1 i:=funext λi=>by cases i<;>simp[I1,cQ]
 rw[this,bU,NC];cases k with
 |zero=>show(1:Rat)=x⁻¹*x;rw[On _ h]
 |succ k=>show(0:Rat)=x⁻¹*0;rw[Pl]⟩
theorem nh(z:au a)(n:a≠[])(l:a.length<2):Un (cQ a):=by
 match a,n,l with
 |[x],_,_=>exact PL (iC z (by simp))
noncomputable def pw(p:Pq):Nat->Pq
 |0=>I1
 |n+1=>aH p (pw p n)
theorem jl{p:Pq}(h:Fin p):∀n,Fin (pw p n)
 |0=>V3
 |n+1=>h.mul (jl h n)
theorem vj(p:Pq)(n:Nat):∀m,pw p (m+n)=aH (pw p m) (pw p n)
 |0=>by rw[ik];exact(NC _).symm
 |m+1=>by
  rw[show m+1+n=(m+n)+1 by lia];show aH p (pw p (m+n))=aH (aH p (pw p m)) (pw p n);rw[vj p n m]
  ac_rfl
theorem Yi:¬Z0 I1:=λh=>absurd (h 0) (by decide)
theorem F7{p:Pq}(a:Fin p)(h:¬Z0 p):∀n,¬Z0 (pw p n)
 |0=>Yi
 |n+1=>ND a (jl a n) h (F7 a h n)
structure mT(p:Pq):Prop where
 fin:Fin p
 nz:¬Z0 p
 un:¬Un p
 or:∀d,Fin d->DQ d p->Un d\/DQ p d
theorem bez{f g:Pq}(ff:Fin f)(l:Fin g):∃h u v:Pq,Fin h/\Fin u/\Fin v/\DQ h f/\DQ h g/\h=λk=>aH u f k+aH v g k:=by obtain⟨a,d,rfl⟩:=aU ff;obtain⟨b,c,rfl⟩:=aU l;obtain⟨h,u,v,_,j,i,n,m,e⟩:=PB _ a b (Ee _) d c;exact⟨cQ h,u,v,aK h,j,i,n,m,funext e⟩
theorem DQ.eq{g a:Pq}(h:DQ g a):∃s,Fin s/\a=aH s g:=by obtain⟨s,b,e⟩:=h;exact⟨s,b,funext e⟩
theorem DQ.cv{g s:Pq}(a:Fin s):DQ g (aH s g):=⟨s,a,λ_=>rfl⟩
theorem DQ.cvR{g s:Pq}(a:Fin s):DQ g (aH g s):=by rw[Rn (op:=aH) g s];exact DQ.cv a
theorem mT.cop{p f:Pq}(a:mT p)(ff:Fin f)(h:¬DQ p f):∃u v,Fin u/\Fin v/\I1=λk=>aH u p k+aH v f k:=by
 obtain⟨g,u,v,i,d,c,m,l,e⟩:=bez a.fin ff;rcases a.or g i m with x|x
 .obtain⟨w,b,j⟩:=DQ.eq x;refine⟨aH w u,aH w v,b.mul d,b.mul c,?_⟩;rw[j,e];funext k;rw[qi,y3 (op:=aH) w u p,y3 (op:=aH) w v f]
 .exact absurd (x.trans l) h
theorem mT.split{p f g:Pq}(a:mT p)(ff:Fin f)(i:Fin g)(h:DQ p (aH f g)):DQ p f\/DQ p g:=by
 by_cases c:DQ p f
 .exact bM c
 obtain⟨u,v,d,b,e⟩:=a.cop ff c;refine b9 ?_;have j:∀k,g k=aH (aH g u) p k+aH v (aH f g) k:=λk=>by
  have:aH I1 g k=g k:=by rw[NC]
  rw[<-this,e,fE,show aH (aH u p) g=aH (aH g u) p by ac_rfl,show aH (aH v f) g=aH v (aH f g) by ac_rfl]
 exact(((DQ.refl p).mul _ (i.mul d)).add (h.mul v b)).ext j
theorem fH(g:Pq)(k:Nat):aH (cQ []) g k=0:=(bq (λ_=>rfl) (λ_=>rfl) k).trans (cP g k)
theorem qy(n:au d)(b:au a)(m:a≠[])(h:DQ (cQ d) (cQ a)):d≠[]/\(d.length<a.length\/DQ (cQ a) (cQ d)):=by
 obtain⟨s,p,e⟩:=h.eq;obtain⟨s,g,rfl⟩:=aU p;have j:d≠[]:=λz=>by rw[z]at e;refine eH b m λi=>?_;rw[e,bE];exact fH _ i
 have f:s≠[]:=λz=>by rw[z]at e;refine eH b m λi=>?_;rw[e];exact fH _ i
 have l:=jk g n b f j e;have r:=KE.mpr f;refine⟨j,?_⟩;by_cases c:s.length<2
 .refine b9 ?_;obtain⟨w,o,q⟩:=(nh g f c).eq;refine⟨w,o,λk=>?_⟩;rw[e,show aH w (aH (cQ s) (cQ d))=aH (aH w (cQ s)) (cQ d) by ac_rfl,<-q,NC]
 .exact bM (by lia)
theorem F8:∀(n:Nat)(a:List Rat),a.length<=n->au a->2<=a.length->∃p,mT p/\DQ p (cQ a)
 |0,a,h,_,l=>absurd (Do l h) (by decide)
 |n+1,a,h,b,l=>by
  have j:a≠[]:=λz=>by rw[z]at l;cases l
  by_cases c:∃d:Pq,Fin d/\DQ d (cQ a)/\¬Un d/\¬DQ (cQ a) d
  .obtain⟨d,r,w,F,E⟩:=c;obtain⟨d,f,rfl⟩:=aU r;obtain⟨B,o⟩:=qy f b j w;rcases o with o|o
   .have C:2<=d.length:=du λl=>F (nh f B l);obtain⟨p,D,m⟩:=F8 n d (by lia) f C;exact⟨p,D,m.trans w⟩
   .exact absurd o E
  .refine⟨cQ a,⟨aK a,eH b j,λu=>?_,λd r m=>?_⟩,DQ.refl _⟩
   .have:=(qy (d:=a) (a:=[1]) b (λx k=>by cases k;decide) (by simp) u).2;rcases this with t|t
    .exact absurd t (by simp;lia)
    .obtain⟨s,y,e⟩:=DQ.eq (g:=I1) t;have:(([1]:List Rat)).length<a.length:=by simp;lia
     have G:Un (cQ a):=u;obtain⟨s,y,e⟩:=G.eq;obtain⟨s,A,rfl⟩:=aU y;have v:s≠[]:=λz=>by rw[z]at e;refine Yi λi=>?_;rw[e];exact fH _ i
     have l:=jk (c:=[1]) A b (λx k=>by cases k;decide) v j e;have H:=KE.mpr v;simp at l;lia
   .by_cases u:Un d
    .exact bM u
    .exact b9 (Fk λq=>c ⟨d,r,m,u,q⟩)
theorem PM{f:Pq}(ff:Fin f)(c:¬Z0 f)(u:¬Un f):∃p,mT p/\DQ p f:=by obtain⟨a,b,rfl⟩:=aU ff;have d:=kD c;exact F8 _ a (Ee _) b (du λl=>u (nh b d l))
theorem Br(h:au a)(u:Un (cQ a)):a.length=1:=by
 have d:a≠[]:=λz=>by obtain⟨s,f,e⟩:=u.eq;refine Yi λi=>?_;rw[e,bE,z];exact fH _ i
 obtain⟨s,f,e⟩:=u.eq;obtain⟨s,g,rfl⟩:=aU f;have b:s≠[]:=λz=>by rw[z]at e;refine Yi λi=>?_;rw[e];exact fH _ i
 have l:=jk (c:=[1]) g h (λx j=>by cases j;decide) b d e;have m:=KE.mpr b;have k:=KE.mpr d;simp at l;lia
def Val(p f:Pq)(e:Nat):Prop:=∃s,Fin s/\f=aH (pw p e) s/\¬DQ p s
theorem F9(d:mT p):∀(n:Nat)(a:List Rat),a.length<=n->au a->a≠[]->∃e,Val p (cQ a) e
 |0,a,h,_,l=>absurd (PH.mp (vT.mp h)) l
 |n+1,a,h,j,r=>by
  by_cases c:DQ p (cQ a)
  .obtain⟨s,v,e⟩:=c.eq;obtain⟨s,f,rfl⟩:=aU v;obtain⟨b,g,rfl⟩:=aU d.fin;have m:s≠[]:=λz=>by rw[z]at e;refine eH j r λi=>?_;rw[e];exact fH _ i
   have o:=kD d.nz;have l:=jk f g j m o e;have x:2<=b.length:=du λl=>d.un (nh g o l);obtain⟨k,t,u,w,q⟩:=F9 d n s (by lia) f m;refine⟨k+1,t,u,?_,q⟩;rw[e,w];show _=aH (aH _ _) _
   ac_rfl
  .exact⟨0,cQ a,aK a,(NC _).symm,c⟩
theorem mT.val{p f:Pq}(d:mT p)(ff:Fin f)(c:¬Z0 f):∃e,Val p f e:=by obtain⟨a,b,rfl⟩:=aU ff;exact F9 d _ a (Ee _) b (kD c)
theorem Val.mul(i:mT p)(l:Val p f e)(j:Val p g k):Val p (aH f g) (e+k):=by
 obtain⟨s,b,rfl,d⟩:=l;obtain⟨t,a,rfl,c⟩:=j;refine⟨aH s t,b.mul a,?_,λh=>(i.split b a h).elim d c⟩;rw[vj]
 ac_rfl
theorem Ga{p s t:Pq}(a:mT p)(d:Fin s)(c:Fin t)(h:e<k)(b:aH (pw p e) s=aH (pw p k) t):DQ p s:=by obtain⟨n,rfl⟩:∃n,k=e+(n+1):=⟨k -e -1,by lia⟩;rw[vj,show aH (aH (pw p e) (pw p (n+1))) t=aH (aH (pw p (n+1)) t) (pw p e) by ac_rfl,show aH (pw p e) s=aH s (pw p e) by ac_rfl]at b;have:=KC d ((jl a.fin _).mul c) (jl a.fin e) (F7 a.fin a.nz e) b;rw[this];show DQ p (aH (aH p (pw p n)) t);rw[show aH (aH p (pw p n)) t=aH (aH (pw p n) t) p by ac_rfl];exact DQ.cv ((jl a.fin n).mul c)
theorem Val.uniq(a:mT p)(m:Val p f e)(l:Val p f k):e=k:=by
 obtain⟨s,c,g,j⟩:=m;obtain⟨t,b,d,i⟩:=l;rcases Nat.lt_trichotomy e k with h|h|h
 .exact absurd (Ga a c b h (g.symm.trans d)) j
 .exact h
 .exact absurd (Ga a b c h (d.symm.trans g)) i
theorem Val.pos(b:mT p)(h:Val p f e):DQ p f↔e≠0:=by
 obtain⟨s,c,rfl,a⟩:=h;cases e with
 |zero=>exact⟨λd=>by rw[show pw p 0=I1 from rfl,NC]at d;exact absurd d a,λh=>absurd rfl h⟩
 |succ n=>exact⟨λ_=>Nat.succ_ne_zero n,λ_=>by show DQ p (aH (aH p (pw p n)) s);rw[show aH (aH p (pw p n)) s=aH (aH (pw p n) s) p by ac_rfl];exact DQ.cv ((jl b.fin n).mul c)⟩
theorem Fin.NF{f:Pq}(c:Rat)(h:Fin f):Fin λi=>c*f i:=by obtain⟨n,a⟩:=h;exact⟨n,λi b=>by show c*f i=0;rw[a i b,Pl]⟩
theorem Gb(p:Pq):∀n,jj (pw p (n+1))=λk=>((n+1:Nat):Rat)*aH (pw p n) (jj p) k
 |0=>by show jj (aH p I1)=_;rw[V4];funext k;show _=((1:Nat):Rat)*aH I1 (jj p) k;rw[NC];exact(Xt _).symm
 |n+1=>by
  show jj (aH p (pw p (n+1)))=_;rw[F6,Gb p n];funext k;show aH (jj p) (pw p (n+1)) k+aH p (λk=>((n+1:Nat):Rat)*aH (pw p n) (jj p) k) k=_;rw[iB,show aH p (aH (pw p n) (jj p))=aH (pw p (n+1)) (jj p)from(y3 (op:=aH) p (pw p n) (jj p)).symm,bE];have:((n+1+1:Nat):Rat)=1+((n+1:Nat):Rat):=by
   have:n+1+1=1+(n+1):=by lia
   exact_mod_cast this
  rw[this,ba,Xt]
theorem KD(f:mT p):¬DQ p (jj p):=λh=>by
 obtain⟨b,e,rfl⟩:=aU f.fin;obtain⟨a,g,d⟩:=aU (jI (aK b));have c:=kD f.nz;have k:2<=b.length:=du λl=>f.un (nh e c l);rw[<-d]at h;have j:a.length<b.length:=Uv λl=>by
  have i:a≠[]:=λz=>by rw[z]at l;simp at l;exact c l
  refine iC g i ?_;have:=tj d (a.length -1);rw[show a.getD (a.length -1) 0=cQ a (a.length -1)from rfl,this];show _*cQ b _=0;rw[show cQ b (a.length -1+1)=0 from jV (by lia),Pl]
 have:=FU e c g j h;rw[this]at d;have t:=tj d (b.length -2);have t:(0:Rat)=((b.length -2+1:Nat):Rat)*cQ b (b.length -2+1):=t;rcases Kk.mp t.symm with z|z
 .have:b.length -2+1=0:=by exact_mod_cast z
  lia
 .rw[show b.length -2+1=b.length -1 by lia]at z;exact iC e c z
theorem Val.jj(a:mT p)(h:Val p f (n+1)):Val p (jj f) n:=by
 obtain⟨s,c,rfl,e⟩:=h;refine⟨λk=>((n+1:Nat):Rat)*aH (Num.jj p) s k+aH p (Num.jj s) k,(Fin.NF _ ((jI a.fin).mul c)).add (a.fin.mul (jI c)),?_,λd=>?_⟩
 .rw[F6,Gb];funext k;show aH (λk=>((n+1:Nat):Rat)*aH (pw p n) (Num.jj p) k) s k+aH (aH p (pw p n)) (Num.jj s) k=_;rw[bU,qi,iB,show aH (aH (pw p n) (Num.jj p)) s=aH (pw p n) (aH (Num.jj p) s) by ac_rfl,show aH (aH p (pw p n)) (Num.jj s)=aH (pw p n) (aH p (Num.jj s)) by ac_rfl]
 .have j:=(d.sub (DQ.cvR (g:=p) (jI c))).ext (b:=λk=>((n+1:Nat):Rat)*aH (Num.jj p) s k) λk=>by grind
  have i:=DQ.ZE (λz=>by
   have:n+1=0:=by exact_mod_cast z
   lia) j
  exact(a.split (jI a.fin) c i).elim (KD a) e
theorem Val.nz(a:mT p)(h:Val p f e):¬Z0 f:=by obtain⟨s,c,rfl,b⟩:=h;exact ND (jl a.fin e) c (F7 a.fin a.nz e) λz=>b ((DQ.zero p).ext z)
theorem PN(a:mT p)(n:Nat):Val p (pw p n) n:=⟨I1,V3,(V4 _).symm,a.un⟩
theorem Val.quo{p f q g:Pq}(a:mT p)(h:Val p f e)(d:Val p g k)(i:Fin q)(c:¬Z0 q)(E:f=aH q g):Val p q (e -k)/\k<=e:=by obtain⟨j,b⟩:=a.val i c;have:=(E▸h).uniq a (b.mul a d);rw[this,Nw];exact⟨b,xp ..⟩
theorem Val.le(a:mT p)(h:Val p f e):DQ (pw p n) f↔n<=e:=by
 constructor
 .intro d;obtain⟨s,b,E⟩:=d.eq;refine(h.quo a (PN a n) b (λz=>h.nz a λi=>?_) E).2;rw[E,show s=λ_=>0 from funext z];exact cP _ i
 .intro l;obtain⟨s,b,rfl,c⟩:=h;obtain⟨m,rfl⟩:∃m,e=n+m:=⟨e -n,by lia⟩;rw[vj,show aH (aH (pw p n) (pw p m)) s=aH (aH (pw p m) s) (pw p n) by ac_rfl];exact DQ.cv ((jl a.fin m).mul b)
structure V5(f h g:Pq):Prop where
 fin:Fin g
 l:DQ g f
 r:DQ g h
 out:∀d,DQ d f->DQ d h->DQ d g
theorem V5.val(a:mT p)(G:V5 f h g)(c:Val p f e)(d:Val p h k):Val p g (min e k):=by
 have j:¬Z0 g:=λz=>c.nz a λi=>by obtain⟨s,o,E⟩:=G.l.eq;rw[E,bE,show g=λ_=>0 from funext z];exact cP _ i
 obtain⟨m,b⟩:=a.val G.fin j;have q:=(c.le a).mp (((b.le a).mpr (Ee m)).trans G.l);have a2:=(d.le a).mp (((b.le a).mpr (Ee m)).trans G.r);have a3:=(b.le a (n:=min e k)).mp (G.out _ ((c.le a).mpr (Nat.min_le_left ..)) ((d.le a).mpr (fc ..)));rw[show min e k=m by lia];exact b
theorem V5.n6(a:mT p)(G:V5 f (jj f) g)(b:Val p f e):Val p g (e -1):=by
 cases e with
 |succ n=>have:=G.val a b (b.jj a);rw[show min (n+1) n=n+1 -1 by lia]at this;exact this
 |zero=>
  have d:¬Z0 g:=λz=>b.nz a λi=>by obtain⟨s,j,E⟩:=G.l.eq;rw[E,bE,show g=λ_=>0 from funext z];exact cP _ i
  obtain⟨m,c⟩:=a.val G.fin d;have h:=(b.le a).mp (((c.le a).mpr (Ee m)).trans G.l);rw[vT.mp h]at c;exact c
theorem V6{g f:Pq}(h:DQ g f)(a:¬Z0 f):¬Z0 g:=λz=>a λi=>by obtain⟨s,b,E⟩:=h.eq;rw[E,bE,show g=λ_=>0 from funext z];exact cP _ i
theorem zH{q g f:Pq}(E:f=aH q g)(a:¬Z0 f):¬Z0 q:=λz=>a λi=>by rw[E,show q=λ_=>0 from funext z];exact cP _ i
theorem KG{f g:Pq}(ff:Fin f)(c:¬Z0 f)(j:Fin g)(H:∀p,mT p->DQ p f->¬DQ p g)(d:Pq)(i:Fin d)(b:DQ d f)(h:DQ d g):Un d:=
 Fk λu=>by obtain⟨p,e,a⟩:=PM i (V6 b c) u;exact H p e (a.trans b) (a.trans h)
theorem Gd{f:Pq}(ff:Fin f)(c:¬Z0 f)(H:∀p,mT p->∀e,Val p f e->e<=1)(d:Pq)(i:Fin d)(h:DQ d f)(g:DQ d (jj f)):Un d:=
 KG ff c (jI ff) (λp a x y=>by
  obtain⟨e,b⟩:=a.val ff c;have j:=H p a e b;have k:=(b.pos a).mp x;have:e=0+1:=by lia
  rw[this]at b;exact((b.jj a).pos a).mp y rfl) d i h g
theorem vm(r:Rat)(a:List Rat)(k:Nat):cQ (r::a) (k+1)=cQ a k:=rfl
theorem jJ(x:Rat):∀{a:List Rat},(∀k,cQ a k=0)->ev x a=0
 |[],_=>rfl
 |r::a,h=>by have b:r=0:=h 0;rw[cA,b,jJ x (a:=a) λk=>h (k+1)];grind
theorem zI(x:Rat):∀{a b:List Rat},(∀k,cQ a k=cQ b k)->ev x a=ev x b
 |[],b,h=>(jJ x λk=>(h k).symm).symm
 |r::a,[],h=>jJ x h
 |r::a,s::b,h=>by have c:r=s:=h 0;rw[cA,cA,c,zI x (a:=a) (b:=b) λk=>h (k+1)]
theorem um(x c:Rat):∀{a b:List Rat},(∀k,cQ b k=c*cQ a k)->ev x b=c*ev x a
 |[],b,h=>by rw[jJ x λk=>by rw[h k];show c*0=0;grind];show 0=c*0;grind
 |r::a,[],h=>by
  by_cases d:c=0
  .rw[d];show 0=0*_;grind
  .rw[jJ x (a:=r::a) λk=>by
    have e:0=c*cQ (r::a) k:=h k;rcases Kk.mp e.symm with z|z
    .exact absurd z d
    .exact z]
   show 0=c*0;grind
 |r::a,s::b,h=>by have f:s=c*r:=h 0;rw[cA,cA,f,um x c (a:=a) (b:=b) λk=>h (k+1)];grind
theorem kF(x:Rat):∀{a b c:List Rat},(∀k,cQ c k=cQ a k+cQ b k)->ev x c=ev x a+ev x b
 |[],b,c,h=>by rw[zI x (a:=c) (b:=b) λk=>by rw[h k];show 0+_=_;grind];show _=0+_;grind
 |r::a,[],c,h=>by rw[zI x (a:=c) (b:=r::a) λk=>by rw[h k];show _+0=_;grind];show _=_+0;grind
 |r::a,s::b,[],h=>by have e:=kF x (a:=a) (b:=b) (c:=[]) λk=>h (k+1);have d:0=r+s:=h 0;rw[cA,cA];have f:(0:Rat)=ev x a+ev x b:=e;show(0:Rat)=_;grind
 |r::a,s::b,t::c,h=>by have d:t=r+s:=h 0;rw[cA,cA,cA,d,kF x (a:=a) (b:=b) (c:=c) λk=>h (k+1)];grind
theorem qz(x:Rat):∀{q b c:List Rat},(∀k,cQ c k=aH (cQ q) (cQ b) k)->ev x c=ev x q*ev x b
 |[],b,c,h=>by rw[jJ x λk=>(h k).trans (fH _ k)];show 0=0*_;grind
 |r::q,b,c,h=>by
  obtain⟨d,l,f⟩:=aU ((aK q).mul (aK b));have e:=qz x (q:=q) (b:=b) (c:=d) λk=>by rw[f]
  have j:=um x r (a:=b) (b:=b.map (r*·)) λk=>by
   show(b.map _).getD k 0=r*b.getD k 0;rw[AC,FC,AC];cases b[k]? with
   |none=>show(0:Rat)=r*0;grind
   |some z=>rfl
  have i:=kF x (a:=b.map (r*·)) (b:=0::d) (c:=c) λk=>by
   have g:cQ (b.map (r*·)) k=r*cQ b k:=by
    show(b.map _).getD k 0=r*b.getD k 0;rw[AC,FC,AC];cases b[k]? with
    |none=>show(0:Rat)=r*0;grind
    |some z=>rfl
   rw[h k,g];cases k with
   |zero=>rw[di];show r*cQ b 0=r*cQ b 0+0;grind
   |succ k=>rw[fF,vm,f];rfl
  rw[i,j,cA,cA,e];grind
theorem NG(x:Rat):∀(d:List Rat),dv x d=ev x (bX d)
 |[]=>rfl
 |r::d=>by
  have e:=NG x d;show ev x d+x*dv x d=_;rw[e,kF x (a:=d) (b:=0::bX d) (c:=bX (r::d)) λk=>?_,cA]
  .grind
  .rw[jH,vm];cases k with
   |zero=>show((0+1:Nat):Rat)*_=_+0;have:((0+1:Nat):Rat)=1:=rfl;rw[this];grind
   |succ k=>
    rw[vm,jH];have:((k+1+1:Nat):Rat)=((k+1:Nat):Rat)+1:=by show(((k+1+1:Nat):Int):Rat)=(((k+1:Nat):Int):Rat)+((1:Int):Rat);rw[<-eI];rfl
    rw[this];grind
noncomputable def zJ(r:List Rat):Rat->Rat:=λx=>ev x r
theorem Bs(h:a<=b)(r:List Rat):PD a b (zJ r):=by obtain⟨C,c,S⟩:=qp h r;exact⟨C,c,S.l⟩
theorem pB(h:a<=b)(r:List Rat):Yh a b (zJ r):=by obtain⟨C,c,S⟩:=qp h r;exact⟨C,c,S.f0⟩
theorem KH(h:a<=b)(r:List Rat):V0 a b (zJ r) (zJ (bX r)):=by obtain⟨C,g,S⟩:=qp h r;refine⟨C,g,λx y f e c=>?_⟩;have:=S.d x y f e c;rw[NG]at this;exact this
theorem PR(x:Rat)(r:List Rat):ev x (jW r)= -1*ev x r:=um x (-1) λk=>by rw[zE];grind
theorem wX.ch(h:i<=j)(S:wX a b l):(∃c:Rat,c≠0/\(b::l).getLast?=some [c])->Ch i j ((a::b::l).map zJ):=by
 induction S with
 |@nil a b m=>rintro⟨c,g,e⟩;cases e;exact .two (Bs h a) (.one c g λx _=>by show c+x*0=c;grind)
 |@cons a b r l m B k o=>
  rintro⟨c,g,e⟩;have v:((jW r)::l).getLast?=some [c]:=by rw[me]at e;exact e
  obtain⟨z,A,q,p,s⟩:=m;obtain⟨f,w,rfl⟩:=aU p;obtain⟨d,y,n⟩:=aU ((aK f).mul (aK b));refine .cons (Bs h a) 1 1 (zJ f) (by decide) (by decide) (pB h f) (λx _=>?_) (o ⟨c,g,v⟩);show 1*ev x a+1*ev x (jW r)=ev x f*ev x b;have u:=qz x (q:=f) (b:=b) (c:=d) λk=>by rw[n]
  have t:=kF x (a:=d) (b:=r) (c:=a) λk=>by rw[s k,n]
  rw[PR,t,u];grind
noncomputable def oF(l:List (List Rat))(x:Rat):Nat:=chg (l.map (ev x))
theorem Bt(l:List (List Rat))(x:Rat):Ej (l.map zJ) x=oF l x:=by unfold Ej oF;rw[T2];rfl
theorem zK(m:0<=C)(h:∀x:Rat,0<x->x<=1->ab r (x*C)):r=0:=by
 apply Fk;intro o;have b:∀u:Rat,0<u->(∀x:Rat,0<x->x<=1->u<=x*C)->False:=λu d j=>by
  have g:0<C+u+1:=by grind
  have i:=SU.mpr g;have e:(C+u+1)*(C+u+1)⁻¹=1:=Hn _ (by grind);have a:=Ha d i;have l:(C+u+1)*(u*(C+u+1)⁻¹)=u:=by rw[S0 u,<-ar,e,Xt]
  generalize u*(C+u+1)⁻¹=x at a l;have p:=TB m (Fm a);have n:=Ha d a;have f:x<=1:=by apply Fk;intro f;have:=YB (show 1<x by grind) d;grind
  have:=j x a f;grind
 by_cases k:0<r
 .exact b r k λx a c=>(h x a c).2
 .exact b (-r) (by grind) λx a c=>by have:=(h x a c).1;grind
theorem uo:∀{a:List Rat},(∀x:Rat,0<x->x<=1->ev x a=0)->∀k,cQ a k=0
 |[],_,k=>rfl
 |r::a,h,k=>by
  obtain⟨C,g,S⟩:=qp (a:=0) (b:=1) (by decide) a;have f:r=0:=zK g λx d c=>by have e:=h x d c;rw[cA]at e;have b:=cX (show ab x x from⟨by grind,by grind⟩) (S.f0 x ⟨Fm d,c⟩);unfold ab at*;grind
  cases k with
  |zero=>exact f
  |succ k=>
   refine uo (a:=a) (λx d c=>?_) k;have e:=h x d c;rw[cA,f]at e;rcases Kk.mp (show x*ev x a=0 by grind)with z|z
   .grind
   .exact z
theorem V7(h:∀x,ev x a=ev x b)(k:Nat):cQ a k=cQ b k:=by obtain⟨d,l,g⟩:=aU (f:=λi=>cQ a i+(-1)*cQ b i) ((aK a).add ((aK b).NF (-1)));have e:=uo (a:=d) (λx _ _=>by obtain⟨c,m,j⟩:=aU (f:=λi=>(-1)*cQ b i) ((aK b).NF (-1));rw[kF x (a:=a) (b:=c) (c:=d) (λk=>by rw[g,j]),um x (-1) (a:=b) (b:=c) (λk=>by rw[j]),h x];grind) k;rw[g]at e;grind
noncomputable def Yj(t:Rat):Rat->List Rat->List Rat
 |c,[]=>[c]
 |c,y::u=>(c+t*y)::Yj t y u
theorem ni(h:au a):au (bX a):=λx c=>by
 have e:cQ (bX a) ((bX a).length -1)=x:=by show(bX a).getD _ 0=x;rw[AC,<-Ki,c];rfl
 have i:0<(bX a).length:=KE.mpr λz=>by rw[z]at c;cases c
 have f:=jh a;obtain⟨n,b⟩:∃n,a.length=n+2:=⟨a.length -2,by lia⟩;have g:a≠[]:=λz=>by rw[z]at b;cases b
 rw[f,b]at e;rw[jH]at e;have d:=lI h (by lia);rw[b]at d;rw[<-e];intro z;rcases Kk.mp z with z|z
 .have:((n+2 -1 -1+1:Nat):Int)=0:=Iy.mp z;lia
 .exact d z
noncomputable def Bu(c:Rat)(a:List Rat):List Rat:=a.map (c*·)
theorem qA(c:Rat)(a:List Rat)(k:Nat):cQ (Bu c a) k=c*cQ a k:=by
 show(a.map _).getD k 0=c*a.getD k 0;rw[AC,FC,AC];cases a[k]? with
 |none=>show(0:Rat)=c*0;grind
 |some z=>rfl
theorem Bv(c:Rat)(a:List Rat):(Bu c a).length=a.length:=Ap _
theorem Ge(e:c≠0)(h:au a):au (Bu c a):=λx b=>by
 unfold Bu at b;rw[vi]at b;obtain⟨y,d,rfl⟩:=NM.mp b;intro z;rcases Kk.mp z with z|z
 .exact e z
 .exact h y d z
theorem Gf(c x:Rat)(a:List Rat):ev x (Bu c a)=c*ev x a:=um x c (qA c a)
theorem xW(a:List Rat):cQ (bX a)=jj (cQ a):=funext λk=>jH a k
theorem wX.last(S:wX a b l)(p:au b)(t:b≠[]):∃g,(b::l).getLast?=some g/\au g/\g≠[]/\V5 (cQ a) (cQ b) (cQ g):=by
 induction S with
 |@nil a b h=>obtain⟨_,_,q,c,e⟩:=h;refine⟨b,rfl,p,t,aK b,⟨q,c,λk=>?_⟩,DQ.refl _,λd _ h=>h⟩;rw[e k];show _+0=_;grind
 |@cons a b r l h v k u=>
  obtain⟨g,e,o,s,G⟩:=u (xT h.1) (PC v);obtain⟨_,_,q,c,m⟩:=h;refine⟨g,by rw[me];exact e,o,s,G.fin,?_,G.l,λd w n=>G.out d n ?_⟩
  .have j:=(G.l.mul q c).add (G.r.mul (cQ [-1]) (aK _));refine j.ext λk=>?_;rw[m k,bq (f:=cQ [-1]) (g:=cQ (jW r)) (λi=>(by cases i<;>rfl:cQ [-1] i=if i=0 then-1 else 0)) (λi=>rfl),pq,Bi (PQ k),zE];show _=_+ -1* -cQ r k;grind
  .have j:=(n.mul q c).add (w.mul (cQ [-1]) (aK _));refine j.ext λk=>?_;rw[bq (f:=cQ [-1]) (g:=cQ a) (λi=>(by cases i<;>rfl:cQ [-1] i=if i=0 then-1 else 0)) (λi=>rfl),pq,Bi (PQ k),zE];show _=_+ -1*cQ a k;rw[m k];grind
def Bp(p s:List Rat):Prop:=au s/\s≠[]/\∃l g a,wX p (bX p) l/\(bX p::l).getLast?=some g/\a≠0/\∀k,cQ p k=a*aH (cQ s) (cQ g) k
def Cc(p:List Rat)(C:List (List Rat)):Prop:=∃s l,C=s::bX s::l/\Bp p s/\wX s (bX s) l
structure Rp(p:List Rat):Prop where
 z:au p
 l2:2<=p.length
theorem Rp.n6(h:Rp p):bX p≠[]:=λz=>by have e:=jh p;have:=h.l2;rw[z]at e;have e:0=p.length -1:=e;lia
theorem Rp.ne(h:Rp p):p≠[]:=λz=>by have:=h.l2;rw[z]at this;cases this
theorem PU(f:c≠0)(e:au a)(d:au b)(h:∀k,cQ b k=c*cQ a k):b=Bu c a:=FA d (Ge f e) λk=>by show cQ _ k=cQ _ k;rw[h,qA]
theorem vn(f:au g)(j:g≠[])(b:au a)(k:a≠[])(h:DQ (cQ g) (cQ a)):g.length<=a.length:=by obtain⟨s,l,e⟩:=h.eq;obtain⟨i,d,rfl⟩:=aU l;have c:i≠[]:=kD (zH e (eH b k));have:=jk d f b c j e;have:=KE.mpr c;lia
theorem Bp.len(P:Rp p)(h:Bp p s):Rp s/\s.length<=p.length:=by
 obtain⟨b,m,l,g,t,S,o,n,e⟩:=h;obtain⟨w,j,c,a,G⟩:=S.last (ni P.z) P.n6;rw[o]at j;cases j;obtain⟨d,f,i⟩:=aU ((aK s).mul (aK g));have u:=jk b c f m a i;have q:=PU n f P.z λk=>by rw[e k,i]
 have x:p.length=d.length:=by rw[q,Bv]
 have l2:=vn c a (ni P.z) P.n6 G.r;have:=jh p;have:=P.l2;have v:=KE.mpr a;exact⟨⟨b,by lia⟩,by lia⟩
theorem Bp.val(P:Rp p)(h:Bp p s)(f:mT π)(c:Val π (cQ p) m):Val π (cQ s) (m -(m -1)):=by
 obtain⟨j,o,l,g,a,S,D,b,e⟩:=h;obtain⟨I,d,F,H,G⟩:=S.last (ni P.z) P.n6;rw[D]at d;cases d;rw[xW]at G;have x:=G.n6 f c;have B:Fin λi=>a*cQ s i:=(aK s).NF a;have q:¬Z0 λi=>a*cQ s i:=λz=>eH j o λi=>(Kk.mp (z i)).resolve_left b;have E:cQ p=aH (λi=>a*cQ s i) (cQ g):=funext λk=>by rw[e k,bU]
 obtain⟨t,w⟩:=c.quo f x B q E;obtain⟨u,A,C,n⟩:=t;refine⟨λi=>a⁻¹*u i,A.NF _,funext λk=>?_,λz=>n ?_⟩
 .have:=tj C k;have r:a*a⁻¹=1:=Hn _ b;rw[iB,<-this];grind
 .obtain⟨v,y,ev⟩:=z;refine⟨λi=>a*v i,y.NF _,λk=>?_⟩;have:=ev k;have r:a*a⁻¹=1:=Hn _ b;rw[bU,<-this];grind
theorem Bp.bare(P:Rp p)(h:Bp p s)(d:Pq)(g:Fin d)(f:DQ d (cQ s))(b:DQ d (cQ (bX s))):Un d:=by rw[xW]at b;refine Gd (aK s) (eH h.1 h.2.1) (λi a j e=>?_) d g f b;obtain⟨m,c⟩:=a.val (aK p) (eH P.z P.ne);rw[e.uniq a (h.val P a c)];omega
theorem Bp.const(P:Rp p)(h:Bp p s)(S:wX s (bX s) l):∃c:Rat,c≠0/\(bX s::l).getLast?=some [c]:=by have R:=(h.len P).1;obtain⟨g,d,a,e,G⟩:=S.last (ni R.z) R.n6;have u:=h.bare P (cQ g) (aK g) G.l G.r;have b:=Br a u;obtain⟨c,rfl⟩:=oI.mp b;exact⟨c,a c rfl,d⟩
end Num
namespace Num
noncomputable def qI(ns:List Int):List Rat:=ns.map λz:Int=>(z:Rat)
theorem cC(ns:List Int):(qI ns).length=ns.length:=Ap _
theorem cT(ns:List Int)(k:Nat):cQ (qI ns) k=((ns.getD k 0:Int):Rat):=by show(ns.map _).getD k 0=_;rw[AC,AC,FC];cases ns[k]?<;>rfl
def vo(A:List Int)(a:List Rat):Prop:=∃b:Rat,0<b/\a.length=A.length/\∀k,cQ a k=b*((A.getD k 0:Int):Rat)
def Pz:List (List Int)->List (List Rat)->Prop
 |[],[]=>True
 |A::L,a::l=>vo A a/\Pz L l
 |_,_=>False
theorem Pz.app:∀{L:List (List Int)}{l:List (List Rat)}{A:List Int}{a:List Rat},Pz L l->vo A a->Pz (L++[A]) (l++[a])
 |[],[],_,_,_,h=>⟨h,trivial⟩
 |B::L,b::l,_,_,⟨d,c⟩,h=>⟨d,c.app h⟩
theorem Pz.last:∀{L:List (List Int)}{l:List (List Rat)}{a:List Rat},Pz L l->l.getLast?=some a->∃A,L.getLast?=some A/\vo A a
 |[],[],a,_,e=>by cases e
 |[A],[b],a,⟨h1,_⟩,e=>by
  cases e;exact⟨A,rfl,h1⟩
 |A::f::L,b::d::l,a,⟨_,c⟩,e=>by rw[me]at e⊢;exact Pz.last c e
def Jg(a:Int)(α:Rat):Prop:=(a=1/\0<α)\/(a= -1/\α<0)
theorem Jg.row{B:List Int}(h:Jg a c)(d:b.length=B.length)(e:∀k,cQ b k=c*((B.getD k 0:Int):Rat)):vo (B.map (a*·)) b:=by
 have g:∀k,(B.map (a*·)).getD k 0=a*B.getD k 0:=λk=>Sub.map_getD (f:=λy=>a*y) (Qb a) k;rcases h with⟨rfl,h⟩|⟨rfl,h⟩
 .refine⟨c,h,by rw[Ap];exact d,λk=>?_⟩;rw[g,cx];exact e k
 .refine⟨-c,by grind,by rw[Ap];exact d,λk=>?_⟩;rw[g,e k,FM];have:((-1:Int):Rat)= -1:=rfl;rw[this];grind
theorem Gh(f:c≠0):(0<B1 κ c↔0<κ*c)/\(B1 κ c<0↔κ*c<0):=by
 have g:(c:Rat)≠0:=λz=>f (Iy.mp z);have e:B1 κ c*((c:Rat)*(c:Rat))=((κ*c:Int):Rat):=by rw[n4,FM];grind
 have d:0<(c:Rat)*(c:Rat):=by
  rcases O9 f with h|h
  .have:(c:Rat)<0:=kf.mpr h;have:=Ha (a:= -(c:Rat)) (b:= -(c:Rat)) (by grind) (by grind);grind
  .have:0<(c:Rat):=cq.mpr h;exact Ha this this
 constructor
 .constructor
  .intro h;have:=Ha h d;rw[e]at this;exact cq.mp this
  .intro h;have h:(0:Rat)<((κ*c:Int):Rat):=cq.mpr h;rw[<-e]at h;exact(X8 d).mp h
 .constructor
  .intro h;have:=Ha (a:= -B1 κ c) (by grind) d;have:((κ*c:Int):Rat)<0:=by rw[<-e];grind
   exact kf.mp this
  .intro h;have h:((κ*c:Int):Rat)<0:=kf.mpr h;rw[<-e]at h;have:=(X8 (a:= -B1 κ c) d).mp (by grind);grind
theorem Jg.next(h:Jg f α)(k0:κ≠0)(k:c≠0):Jg (if decide (κ>0)=decide (c>0)then-f else f) (-(α*B1 κ c)):=by
 obtain⟨j,i⟩:=Gh (κ:=κ) k;have d:∀{x y:Rat},0<x->0<y->0<x*y:=λm l=>Ha m l;have g:(decide (κ>0)=decide (c>0)/\0<B1 κ c)\/(¬decide (κ>0)=decide (c>0)/\B1 κ c<0):=by
  rcases O9 k0 with a|a<;>rcases O9 k with b|b
  .refine .inl ⟨by rw[Hb (by lia),Hb (by lia)],j.mpr (Int.mul_pos_of_neg_of_neg a b)⟩
  .refine .inr ⟨by rw[Hb (by lia),Fh b];decide,i.mpr (Int.mul_neg_of_neg_of_pos a b)⟩
  .refine .inr ⟨by rw[Fh a,Hb (by lia)];decide,i.mpr (Int.mul_neg_of_pos_of_neg a b)⟩
  .refine .inl ⟨by rw[Fh a,Fh b],j.mpr (rl a b)⟩
 rcases g with⟨e,s⟩|⟨e,s⟩
 .rw[Bi e];rcases h with⟨rfl,h⟩|⟨rfl,h⟩
  .exact .inr ⟨rfl,by have:=d h s;grind⟩
  .exact .inl ⟨rfl,by have:=d (x:= -α) (by grind) s;grind⟩
 .rw[BM e];rcases h with⟨rfl,h⟩|⟨rfl,h⟩
  .exact .inl ⟨rfl,by have:=d h (y:= -B1 κ c) (by grind);grind⟩
  .exact .inr ⟨rfl,by have:=d (x:= -α) (y:= -B1 κ c) (by grind) (by grind);grind⟩
noncomputable def kG(b:Int):List Int->Nat
 |[]=>0
 |x::l=>if x=0 then kG b l else(if b≠0/\¬decide (x>0)=decide (b>0)then 1 else 0)+kG x l
def PV(z:Int)(r:Rat):Prop:=∃a:Rat,0<a/\r=a*(z:Rat)
theorem PV.pos(h:PV z r):0<r↔0<z:=by obtain⟨b,a,rfl⟩:=h;rw[Rat.mul_pos_iff_of_pos_left a];exact cq
theorem PV.zero(h:PV z r):r=0↔z=0:=by
 obtain⟨b,a,rfl⟩:=h;constructor
 .intro e;rcases Kk.mp e with e|e
  .rw[e]at a;exact absurd a (by decide)
  .exact Iy.mp e
 .rintro rfl;exact Pl b
theorem Bw:∀{L:List (List Int)}{l:List (List Rat)}{b:Int}{c:Rat},Pz L l->(∀A∈L,∀a,vo A a->PV (f A) (g a))->PV b c->yL c (l.map g)=kG b (L.map f)
 |[],[],_,_,_,_,_=>rfl
 |A::L,a::l,b,c,⟨r,q⟩,h,n=>by
  have s:=h A FK a r;have o:=λ{b c}=>Bw (b:=b) (c:=c) q λB p=>h B (FS _ p);show(if g a=0 then yL c (l.map g)else(if c=0 then 0 else df c (g a))+yL (g a) (l.map g))=if f A=0 then kG b (L.map f)else(if b≠0/\¬decide (f A>0)=decide (b>0)then 1 else 0)+kG (f A) (L.map f)
  rw[o n,o s];by_cases z:f A=0
  .rw[Bi z,Bi (s.zero.mpr z)]
  .rw[BM z,BM λe=>z (s.zero.mp e)];congr 1;by_cases j:b=0
   .rw[Bi (n.zero.mpr j),BM λe=>e.1 j]
   .rw[BM λe=>j (n.zero.mp e)];unfold df;have m:=s.pos;have k:=n.pos;by_cases i:0<f A<;>by_cases d:0<b
    .rw[Bi (k.mpr d),Bi (m.mpr i),BM];rintro⟨_,e⟩;exact e (by rw[Fh i,Fh d])
    .rw[BM λe=>d (k.mp e),Bi (m.mpr i),Bi];exact⟨j,by rw[Fh i,Hb d];decide⟩
    .rw[Bi (k.mpr d),BM λe=>i (m.mp e),Bi];exact⟨j,by rw[Hb i,Fh d];decide⟩
    .rw[BM λe=>d (k.mp e),BM λe=>i (m.mp e),BM];rintro⟨_,e⟩;exact e (by rw[Hb i,Hb d])
theorem V8{t b:Int}{x:Rat}(r:0<b)(j:x*b=t)(h:vo A a):PV (wv t b A) (ev x a):=by
 obtain⟨c,l,k,e⟩:=h;have d:(0:Rat)<(b:Rat):=cq.mpr r;have g:c⁻¹≠0:=λz=>by have:=On c (by grind);rw[z]at this;grind
 have w:=Nv (t:=t) (b:=b) (B:=c⁻¹) (x:=x) (by grind) j g A a k.symm λi _=>by have:=e i;have m:a.getD i 0=c*((A.getD i 0:Int):Rat):=this;rw[m];have:=On c (by grind);grind
 have pw:∀n:Nat,0<(b:Rat)^n:=λn=>by
  induction n with
  |zero=>rw[ij];decide
  |succ n f=>rw[XB];exact Ha f d
 have p:=pw A.length;refine⟨((b:Rat)^A.length)⁻¹*(c*b),?_,?_⟩
 .exact Ha (SU.mpr p) (Ha l d)
 .have q:=On ((b:Rat)^A.length) (by grind);have o:=On c (by grind);generalize(b:Rat)^A.length=P at*;generalize((wv t b A:Int):Rat)=V at*;have:P⁻¹*(c*b)*V=P⁻¹*c*(V*b):=by grind
  rw[this,w];have:P⁻¹*c*(P*ev x a*c⁻¹)=(P⁻¹*P)*(c⁻¹*c)*ev x a:=by grind
  rw[this,q,o];grind
theorem BA{t b:Int}{x:Rat}(e:0<b)(c:x*b=t)(h:Pz L l):oF l x=kG 0 (L.map (wv t b)):=
 Bw h (λA _ a d=>V8 e c d) ⟨1,by decide,by decide+kernel⟩
end Num
namespace Sub
end Sub
namespace Sub
open Num
noncomputable def one:Nat->Int:=λi=>if i=0 then 1 else 0
end Sub
namespace Num
open Sub
theorem Gi(g:Nat->Rat)(k:Nat):aH (cQ []) g k=0:=(bq (f:=cQ []) (f':=λ_=>0) (λi=>rfl) (λ_=>rfl) k).trans (cP g k)
noncomputable def Ud(t:Rat):List Rat->Rat
 |[]=>0
 |c::a=>c+t*Ud t a
theorem horner(t:Rat):∀a:List Rat,∃q:List Rat,q.length<=a.length -1/\∀k,cQ a k=aH (cQ q) (cQ [-t,1]) k+cQ [Ud t a] k
 |[]=>⟨[],Ee _,λk=>by rw[Gi,i5];cases k<;>rfl⟩
 |[c]=>⟨[],Ee _,λk=>by rw[Gi,i5];show cQ [c] k=cQ [c+t*0] k;rw[Pl,SY]⟩
 |c::d::a=>by
  obtain⟨q,b,e⟩:=horner t (d::a);refine⟨Ud t (d::a)::q,by simp at b⊢;omega,λk=>?_⟩;show _=_+cQ [c+t*Ud t (d::a)] k;generalize Ud t (d::a)=v at*;cases k with
  |zero=>rw[di];show c=v* -t+(c+t*v);grind
  |succ k=>
   rw[fF];have:=e k;show cQ (d::a) k=v*cQ [-t,1] (k+1)+aH (cQ q) (cQ [-t,1]) k+0;rw[this];cases k with
   |zero=>show _+v=v*1+_+0;grind
   |succ k=>show _+0=v*0+_+0;grind
end Num
namespace Sub
open Num
noncomputable def cut(c:Vc):Vc:=λi=>if i.1 then 0 else c i
end Sub
namespace Num
open Sub
theorem ZH{a b c:Int}(e:c=a+b)(j:c.natAbs<N)(i:N<=P)(g:b.natAbs<=K)(f:K<=31*P)(d:x<=a.natAbs):x<32*P:=by have h:=f7 c b;rw[e,Int.add_sub_cancel,<-e]at h;lia
theorem BB{Z g ns:List Int}(e:∀k,ns.getD k 0=ku (co Z) (co g) k)(l:ns.length+1=Z.length+g.length)(r:ns.length<=30)(u:0<g.length)(o:g.getD (g.length -1) 0≠0)(d:∀x∈ns,x.natAbs<2^n)(f:∀x∈g,x.natAbs<2^q):
 ∀s i,Z.length<=i+s->(Z.getD i 0).natAbs<2^(n+s*(q+5))
 |0,i,h=>by rw[outI (by lia)];exact U2 (by decide)
 |s+1,i,h=>by
  by_cases t:Z.length<=i
  .rw[outI t];exact U2 (by decide)
  have ih:=BB e l r u o d f s;have c:=e (i+(g.length -1));generalize F:i+(g.length -1)=k at c;have a:∀(l:List Int)(m:Nat),(∀x∈l,x.natAbs<2^m)->∀j,(l.getD j 0).natAbs<2^m:=λl m h j=>by
   by_cases b:j<l.length
   .exact h _ (getD_mem' b)
   .rw[outI (by lia)];exact U2 (by decide)
  have p:ku (co Z) (co g) k=Z.getD i 0*g.getD (g.length -1) 0+sm (λj=>if j=i then 0 else Z.getD j 0*g.getD (k -j) 0) (k+1):=by
   unfold ku co;have v:∀j,Z.getD j 0*g.getD (k -j) 0=(if j=i then Z.getD j 0*g.getD (k -j) 0 else 0)+(if j=i then 0 else Z.getD j 0*g.getD (k -j) 0):=λj=>by
    by_cases z:j=i
    .rw[Bi z,Bi z,fo]
    .rw[BM z,BM z,xi]
   rw[iy (k+1) λj _=>v j,zC,uY i (λj=>Z.getD j 0*g.getD (k -j) 0),Bi (by lia),show k -i=g.length -1 by lia]
  have w:(sm (λj=>if j=i then 0 else Z.getD j 0*g.getD (k -j) 0) (k+1)).natAbs<=(k+1)*2^(n+s*(q+5)+q):=by
   refine F5 _ λj b=>?_;by_cases z:j=i
   .rw[Bi z];exact PQ _
   .rw[BM z,HI,Y1 2 _ q];by_cases E:j<i
    .rw[outI (ns:=g) (k:=k -j) (by lia)];exact PQ _
    .exact Pt (QR (ih j (by lia))) (QR (a g q f _))
  have D:=a ns n d k;have C:(Z.getD i 0).natAbs<=(Z.getD i 0*g.getD (g.length -1) 0).natAbs:=by rw[HI];exact Y2 _ (by lia)
  have B:(2:Nat)^n<=2^(n+s*(q+5)+q):=IR (by decide) (by lia);have A:(k+1)*2^(n+s*(q+5)+q)<=31*2^(n+s*(q+5)+q):=SF _ (by lia);have y:(2:Nat)^(n+(s+1)*(q+5))=32*2^(n+s*(q+5)+q):=by rw[Sx,show n+(s*(q+5)+(q+5))=n+s*(q+5)+q+5 by lia,Y1 2 _ 5,bb]
  rw[y];exact ZH (c.trans p) D B w A C
theorem PY{g m f:Pq}(e:∀k,g k=κ*m k)(h:DQ g f):DQ m f:=by obtain⟨s,b,a⟩:=h;refine⟨λk=>κ*s k,b.NF κ,λk=>?_⟩;rw[a k,bU,bq (λ_=>rfl) e,iB]
theorem KJ(P:Rp p)(S:wX p (bX p) l)(h:(bX p::l).getLast?=some [c])(a:c≠0):Cc p (p::bX p::l):=by
 refine⟨p,l,rfl,⟨P.z,P.ne,l,[c],c⁻¹,S,h,λz=>?_,λk=>?_⟩,S⟩
 .have:=On c a;rw[z,X9]at this;exact absurd this (by decide+kernel)
 .have e:∀i,cQ [c] i=c*(if i=0 then 1 else 0):=λi=>by
   cases i with
   |zero=>show c=c*1;grind
   |succ i=>show(0:Rat)=c*0;grind
  rw[bq (λ_=>rfl) e,iB,bE,qj,<-ar,On c a,Xt]
theorem jm(h:ns.getD (ns.length -1) 0≠0):au (qI ns):=λx a=>by
 rw[Ki,cC]at a;have e:cQ (qI ns) (ns.length -1)=x:=by show(qI ns).getD _ 0=x;rw[AC,a];rfl
 rw[cT]at e;rw[<-e];exact λz=>h (Iy.mp z)
theorem vo.ne(h:vo A a)(z:au a)(n:a≠[]):A.getD (A.length -1) 0≠0:=λe=>by obtain⟨b,g,c,f⟩:=h;have:=lI z (KE.mpr n);have d:a.getD (a.length -1) 0=b*((A.getD (a.length -1) 0:Int):Rat):=f (a.length -1);rw[c,e]at d;rw[c]at this;refine this (d.trans ?_);exact Pl b
theorem PZ(K:2<=ns.length)(m:ns.getD (ns.length -1) 0≠0)(S:wX (qI ns) (bX (qI ns)) l)(v:(bX (qI ns)::l).getLast?=some g)(w:vo A g)(U:0<c)(O:∀x∈A,c∣x)(Q:∀d:Int,(∀x∈A,d∣x)->d∣c)(B:ms=A.map (·/c)):
 ∃Z:List Int,(0<ms.length/\ms.getD (ms.length -1) 0≠0)/\(0<Z.length/\ns.length+1=Z.length+ms.length/\(∀k,ns.getD k 0=ku (co Z) (co ms) k))/\Bp (qI ns) (qI Z)/\Z.getD (Z.length -1) 0≠0:=by
 have P:Rp (qI ns):=⟨jm m,by rw[cC];exact K⟩;obtain⟨Y,D,H,r,G⟩:=S.last (ni P.z) P.n6;rw[v]at D;cases D;have J:=w.ne H r;obtain⟨j,y,N,f⟩:=w;have s:0<A.length:=by rw[<-N];exact KE.mpr r
 have b:ms.length=A.length:=by rw[B,Ap]
 have n:∀k,A.getD k 0=c*ms.getD k 0:=λk=>by
  rw[B];by_cases h:k<A.length
  .rw[AC,AC,FC,DL h];show A[k]=c*(A[k]/c);rw[zz0 (O _ (Yf h))]
  .rw[outI (by lia),outI (by rw[Ap];lia),Qb]
 have p:ms.getD (ms.length -1) 0≠0:=λe=>J (by rw[n,<-b,e,Qb]);have one:∀d:Int,(∀x∈ms,d∣x)->d∣1:=λd X=>by
  have:c*d∣c:=Q _ λx L=>by
   obtain⟨k,f,rfl⟩:=Ta L;have e:=n k;rw[AC,DL f]at e;have e:A[k]=c*ms.getD k 0:=e;rw[e];have t:k<ms.length:=by rw[b];exact f
   refine zz1 _ (X _ ?_);rw[AC,DL t];exact Yf t
  rw[show c=c*1 by rw[d5]]at this;rw[d5]at this;obtain⟨u,M⟩:=this;exact⟨u,Qr (Int.ne_of_gt U) (by rw[d5,<-X2];exact M)⟩
 have C:∀k,cQ g k=(j*(c:Rat))*cz ms k:=λk=>by rw[f k,n k,FM,ar]
 have R:DQ (cz ms) (cz ns):=(PY C G.l).ext λk=>(cT ns k).symm;obtain⟨Z,I,F,q,E⟩:=KA (by lia) m (by rw[b];exact s) p one R;have o:Z.getD (Z.length -1) 0≠0:=λe=>m (by rw[E,e,bo]);have T:(c:Rat)≠0:=λz=>by have:=Iy.mp z;lia
 have a:j*(c:Rat)≠0:=λz=>by
  rcases Kk.mp z with z|z
  .rw[z]at y;exact absurd y (by decide)
  .exact T z
 refine⟨Z,⟨by rw[b];exact s,p⟩,⟨I,F,q⟩,⟨jm o,λe=>?_,l,g,(j*(c:Rat))⁻¹,S,v,λz=>?_,λk=>?_⟩,o⟩
 .have:=cC Z;rw[e]at this;have:0=Z.length:=this;lia
 .have:=On _ a;rw[z]at this;rw[X9]at this;exact absurd this (by decide+kernel)
 .rw[bq (λ_=>rfl) C,iB,<-ar,On _ a,Xt,cT,q k,<-qm];exact bq (λi=>(cT Z i).symm) (λ_=>rfl) k
structure lK(f:Rat->Bool):Prop where
 dn:∀x y,x<=y->f y=true->f x=true
 op:∀x,f x=true->∃y,x<y/\f y=true
def Rt(f:Rat->Bool)(φ:Rat->Rat):Prop:=∀x y,f x=true->f y=false->∀e:Rat,0<e->∃z,In x y z/\ab (φ z) e
theorem lK.lt(h:lK f)(b:f x=true)(a:f y=false):x<y:=by
 by_cases k:y<=x
 .rw[h.dn y x k b]at a;cases a
 .grind
noncomputable def i9(x y:Rat)(f:Rat->Bool):Bool:=f x&&!f y
theorem lN:i9 x y f=true↔f x=true/\f y=false:=by unfold i9;cases f x<;>cases f y<;>simp
theorem BC(b:l<=m)(a:m<=r):∀L:List (Rat->Bool),(∀f∈L,lK f)->L.countP (i9 l r)=L.countP (i9 l m)+L.countP (i9 m r)
 |[],_=>rfl
 |f::L,h=>by have ih:=BC b a L λg d=>h g (FS _ d);have c:=h f FK;rw[wd,wd,wd,ih];have k:=c.dn l m b;have a2:=c.dn m r a;unfold i9;cases j:f l<;>cases i:f m<;>cases e:f r<;>simp_all<;>lia
theorem BD{α:Type}{q:α->Bool}{R:α->α->Prop}(h:∀a b,R a b->q a=true->q b=true->False):∀{L:List α},L.Pairwise R->L.countP q<=1
 |[],_=>PQ _
 |a::L,c=>by
  rw[eF]at c;have ih:=BD h c.2;rw[wd];by_cases d:q a=true
  .have:L.countP q=0:=M0.mpr λb f e=>h a b (c.1 b f) d e;rw[this,Bi d];exact Ee _
  .rw[BM d];exact ih
def Sep(f g:Rat->Bool):Prop:=∃z,f z≠g z
theorem Dl{N:dQ a b}(E:s=1\/s= -1)(d:∀x y,N.I n x->N.I n y->x<y->s*φ x<s*φ y)(c:lK f)(r:Rt f φ){x y:Rat}(m:N.I n x)(i:N.I n y)(C:f x=true)(o:f y=false):s*φ x<0/\0<=s*φ y:=by
 have q:∀{u v z:Rat},N.I n u->N.I n v->In u v z->N.I n z:=λ{u v z} B A hz=>by unfold dQ.I In at*;grind
 have w:∀u v,N.I n u->N.I n v->u<=v->s*φ u<=s*φ v:=λu v B A D=>by
  by_cases e:u=v
  .rw[e];grind
  .have:=d u v B A (by grind);grind
 have sm:∀{e t:Rat},0<e->ab t e->-e<=s*t/\s*t<=e:=λ{e t} J h=>by unfold ab at h;rcases E with rfl|rfl<;>grind
 constructor
 .by_cases k:0<=s*φ x
  .exfalso
   obtain⟨g,F,j⟩:=c.op x C;have H:=c.lt j o;have l:N.I n g:=q m i ⟨by grind,by grind⟩;have G:=d x g m l F;obtain⟨z,hz,p⟩:=r g y j o (s*φ g*2⁻¹) (by grind);have:=sm (by grind) p;have:=w g z l (q l i hz) hz.1;have j:(2:Rat)*2⁻¹=1:=by grind
   grind
  .grind
 .by_cases k:s*φ y<0
  .exfalso
   obtain⟨z,hz,p⟩:=r x y C o (-(s*φ y)*2⁻¹) (by grind);have:=sm (by grind) p;have:=w z y (q m i hz) i hz.2;have j:(2:Rat)*2⁻¹=1:=by grind
   grind
  .grind
theorem vp(h:a<b)(Z:∀x y,a<=x->x<y->y<=b->Ch x y (φ::ψ::l))(hd:∀x y,a<=x->x<y->y<=b->V0 x y φ ψ){L:List (Rat->Bool)}(O:∀f∈L,lK f/\Rt f φ)(S:L.Pairwise Sep)
 (J:∀x y,a<=x->x<y->y<=b->φ x≠0->(∀f∈L,i9 x y f=false)->∃c:Rat,0<c/\∀z,In x y z->¬ab (φ z) c):Ej (φ::ψ::l) a=Ej (φ::ψ::l) b+L.countP (i9 a b):=by
 have cut:∀f∈L,lK f:=λf d=>(O f d).1;have k:=vg (dX:=λx y=>Ej (φ::ψ::l) x≠Ej (φ::ψ::l) y+L.countP (i9 x y)) h (λl m r hl hr _ hb=>by
  have:=BC (Fm hl) (Fm hr) L cut;lia) (λN=>by
  have H:=Z a b (by grind) h (by grind);have Ue:∀{n:Nat}{u v z:Rat},N.I n u->N.I n v->In u v z->N.I n z:=λ{n u v z} X U hz=>by unfold dQ.I In at*;grind
  rcases N.FY H.Kv with z|⟨s,p⟩
  .obtain⟨s,w,n,K,Q⟩:=H.Fx N (hd a b (by grind) h (by grind)) z;obtain⟨mono,t⟩:=Q n (Ee _);refine⟨n,λx y o j i=>?_⟩;have one:∀f∈L,∀u v,N.I n u->N.I n v->f u=true->f v=false->s*φ u<0/\0<=s*φ v:=λf d u v X U fu fv=>Dl w mono (O f d).1 (O f d).2 X U fu fv;have le1:L.countP (i9 x y)<=1:=by
    refine BD (R:=λf g=>Sep f g/\f∈L/\g∈L) (λf g ⟨⟨z,hz⟩,d,G⟩ D B=>?_) (Pe.mpr λ{f g} w=>⟨Pe.mp S w,w.subset (by simp),w.subset (by simp)⟩);have Y:∀f g,f∈L->g∈L->i9 x y f=true->i9 x y g=true->f z=true->g z=false->False:=λf g d G D B C a2=>by rw[lN]at D B;have l1:=(cut g G).lt B.1 a2;have l2:=(cut f d).lt C D.2;have P:N.I n z:=Ue o j ⟨by grind,by grind⟩;have b1:=one g G x z o P B.1 a2;have b2:=one f d z y P j C D.2;grind
    cases C:f z with
    |true=>exact Y f g d G D B C (by cases a2:g z with|true=>exact absurd (C.trans a2.symm) hz|false=>rfl)
    |false=>exact Y g f G d B D (by cases a2:g z with|true=>rfl|false=>exact absurd (C.trans a2.symm) hz) C
   by_cases E:L.countP (i9 x y)=0
   .rw[E,ig];refine λh=>h ?_;have F:∀f∈L,i9 x y f=false:=λf d=>by have:=M0.mp E f d;simpa using this
    have m:=mono x y o j i;by_cases q:s*φ x<0
    .have nz:φ x≠0:=λe=>by rw[e,Pl]at q;exact absurd q (by decide)
     have bx:=N.base o;have M:=N.base j;obtain⟨c,E,T⟩:=J x y bx.1 i M.2 nz F;exact Ch.stay i (Z x y bx.1 i M.2) E T
    .rw[t x o,t y j,BM q,BM (by grind)]
   .obtain⟨f,d,A⟩:=List.countP_pos_iff.mp (Nat.pos_of_ne_zero E);rw[lN]at A;have:=one f d x y o j A.1 A.2;rw[t x o,t y j,Bi this.1,BM (by grind),show L.countP (i9 x y)=1 by lia];lia
  .obtain⟨n,K,Q⟩:=H.NB N p;obtain⟨w,c,E,m,hm⟩:=p;refine⟨max n m,λx y o j i=>?_⟩;have:L.countP (i9 x y)=0:=M0.mpr λf d A=>by
    rw[lN]at A;obtain⟨z,hz,az⟩:=(O f d).2 x y A.1 A.2 (c*2⁻¹) (by grind);have P:N.I (max n m) z:=Ue o j hz;have:=hm z (N.mono (oy n m) P);unfold ab at az;have B:(2:Rat)*2⁻¹=1:=by grind
    rcases w with rfl|rfl<;>grind
   rw[Q _ (mI n m) x o,Q _ (mI n m) y j,this];exact λh=>h rfl)
 exact ZR.mp k
theorem Gj(x:Rat):∀a:List Rat,Ud x a=ev x a
 |[]=>rfl
 |c::a=>Q1 (λt=>c+x*t) (Gj x a)
theorem KL(x c:Rat):ev x [c]=c:=by show c+x*0=c;grind
theorem Gk(x c d:Rat):ev x [c,d]=c+x*d:=by show c+x*(d+x*0)=_;grind
theorem DQ.ZI(h:DQ (cQ a) (cQ b)):∃q:List Rat,∀x,ev x b=ev x q*ev x a:=by obtain⟨s,c,e⟩:=h;obtain⟨q,_,rfl⟩:=aU c;exact⟨q,λx=>qz x e⟩
theorem KN(h:ev x p=0):DQ (cQ [-x,1]) (cQ p):=by
 obtain⟨q,_,e⟩:=horner x p;refine⟨cQ q,aK q,λk=>?_⟩;rw[e k,Gj,h];have:cQ [(0:Rat)] k=0:=by cases k<;>rfl
 rw[this];grind
theorem uq(z:au g)(p:2<=g.length)(D:g.length<=4)(h:g.length=2\/∀x,ev x g≠0):mT (cQ g):=by
 have b:g≠[]:=λe=>by rw[e]at p;exact absurd p (by decide)
 have Yd:∀d:List Rat,au d->d.length=2->∃x,ev x d=0:=λd a o=>by
  match d,o with
  |[c,e],_=>have A:e≠0:=a e rfl;refine⟨-c*e⁻¹,?_⟩;rw[Gk,ar,On _ A];grind
 refine⟨aK g,eH z b,λu=>by have:=Br z u;omega,λd y l=>?_⟩;obtain⟨d,a,rfl⟩:=aU y;obtain⟨f,j⟩:=qy a z b l;rcases j with C|B
 .have o:=KE.mpr f;by_cases E:d.length=1
  .exact .inl (nh a f (by omega))
  exfalso
  have n:∀x,ev x g≠0:=by
   rcases h with h|h
   .omega
   .exact h
  obtain⟨q,v⟩:=l.ZI;by_cases t:d.length=2
  .obtain⟨x,i⟩:=Yd d a t;exact n x (by rw[v,i,Pl])
  .obtain⟨s,w,e⟩:=l.eq;obtain⟨s,m,rfl⟩:=aU w;have r:=kD (zH e (eH z b));have:=jk m a z r f e;obtain⟨x,i⟩:=Yd s m (by lia);refine n x ?_;rw[qz x (λk=>tj e k),i,X9]
 .exact .inr B
theorem Bp.part(P:Rp p)(h:Bp p s)(a:mT π)(d:DQ π (cQ p)):DQ π (cQ s):=by obtain⟨m,b⟩:=a.val (aK p) (eH P.z P.ne);have c:=(b.pos a).mp d;exact((h.val P a b).pos a).mpr (by lia)
theorem Bp.dq(h:Bp p s):DQ (cQ s) (cQ p):=by obtain⟨_,_,_,g,a,_,_,_,e⟩:=h;refine⟨λi=>a*cQ g i,(aK g).NF a,λk=>?_⟩;rw[e k,bU,bE]
theorem Bp.zero(P:Rp p)(h:Bp p s)(e:ev x p=0):ev x s=0:=by
 have b:au [-x,1]:=λy a=>by have a:some (1:Rat)=some y:=a;cases a;exact show(1:Rat)≠0 by decide
 obtain⟨q,c⟩:=(h.part P (uq b (show 2<=2 by decide) (show 2<=4 by decide) (.inl rfl)) (KN e)).ZI;rw[c,Gk];grind
theorem DQ.small(h:DQ (cQ a) (cQ b))(c:x<=y):∃B:Rat,0<B/\∀z,In x y z->∀e,ab (ev z a) e->ab (ev z b) (B*e):=by obtain⟨q,d⟩:=h.ZI;obtain⟨B,i,g⟩:=pB c q;refine⟨B+1,by grind,λz hz e f=>?_⟩;rw[d];exact cX (iW (g z hz) (by grind)) f
theorem Rt.dq(c:lK f)(r:Rt f (zJ a))(h:DQ (cQ a) (cQ b)):Rt f (zJ b):=λx y g d e j=>by obtain⟨B,l,i⟩:=h.small (Fm (c.lt g d));obtain⟨z,hz,k⟩:=r x y g d (e*B⁻¹) (Ha j (SU.mpr l));refine⟨z,hz,?_⟩;have:=i z hz _ k;have m:B*B⁻¹=1:=Hn _ (by grind);rw[show B*(e*B⁻¹)=e by grind]at this;exact this
theorem Cc.known(P:Rp p)(h:Cc p C)(q:j<k){L:List (Rat->Bool)}(m:∀f∈L,lK f/\∃g,mT (cQ g)/\DQ (cQ g) (cQ p)/\Rt f (zJ g))(i:L.Pairwise Sep)
 (d:∀x y,x<y->ev x p≠0->(∀f∈L,i9 x y f=false)->∃c:Rat,0<c/\∀z,In x y z->¬ab (ev z p) c):oF C j=oF C k+L.countP (i9 j k):=by
 obtain⟨s,l,rfl,B,S⟩:=h;have co:=B.const P S;rw[<-Bt,<-Bt];refine vp (φ:=zJ s) (ψ:=zJ (bX s)) (l:=l.map zJ) q (λx y _ a _=>S.ch (Fm a) co) (λx y _ a _=>KH (Fm a) s) (λf t=>?_) i λx y _ a _ n b=>?_
 .obtain⟨c,g,o,w,r⟩:=m f t;exact⟨c,r.dq c (B.part P o w)⟩
 .obtain⟨c,A,u⟩:=d x y a (λe=>n (B.zero P e)) b;obtain⟨D,F,v⟩:=B.dq.small (Fm a);refine⟨c*D⁻¹,Ha A (SU.mpr F),λz hz E=>u z hz ?_⟩;have:=v z hz _ E;have G:D*D⁻¹=1:=Hn _ (by grind);rw[show D*(c*D⁻¹)=c by grind]at this;exact this
noncomputable def pk(k:Int)(A:Rat):Rat:=if k=1 then A else if k=2 then(if A<0 then-(A*A)else A*A)else A*A*A
theorem gK(a:Rat):0<=a*a:=by
 by_cases h:0<=a
 .exact TB h h
 .have:=TB (show 0<=-a by grind) (show 0<=-a by grind);grind
theorem vt{a b c d:Rat}(g:0<=a)(f:a<=b)(h:0<=c)(e:c<=d):a*c<=b*d:=by have:=Dx e g;have:=Sr f (show 0<=d by grind);grind
theorem vv(k:Int)(h:A<=B)(l:1<=M)(n:ab A M)(m:ab B M):pk k A<=pk k B/\pk k B -pk k A<=3*(M*M)*(B -A):=by
 unfold ab at n m;have M2:M<=M*M:=by have:=Dx l (show 0<=M by grind);grind
 have d:0<=B -A:=by grind
 have D:=TB (show 0<=M*M by grind) d;have C:=Sr M2 d;have c:∀{x y:Rat},0<=x->0<=y->0<=x*y:=λp o=>TB p o;unfold pk;by_cases g:k=1
 .rw[Bi g,Bi g];have:=Sr (show(1:Rat)<=M*M by grind) d;exact⟨h,by grind⟩
 rw[BM g,BM g];by_cases f:k=2
 .rw[Bi f,Bi f];by_cases a:A<0
  .rw[Bi a];by_cases b:B<0
   .rw[Bi b];have j:=c d (show 0<=-A -B by grind);have i:=c d (show 0<=2*M+A+B by grind);exact⟨by grind,by grind⟩
   .rw[BM b];have j:=gK A;have i:=gK B;have z:=c (show 0<=B by grind) (show 0<=M -B by grind);have w:=c (show 0<=-A by grind) (show 0<=M+A by grind);exact⟨by grind,by grind⟩
  .rw[BM a,BM (show¬B<0 by grind)];have j:=c d (show 0<=A+B by grind);have i:=c d (show 0<=2*M -A -B by grind);exact⟨by grind,by grind⟩
 .rw[BM f,BM f];have e:B*B*B -A*A*A=(B -A)*(A*A+A*B+B*B):=by grind
  have v:=gK (A+B);have u:=gK A;have t:=gK B;have j:=c d (show 0<=A*A+A*B+B*B by grind);have s:=c (show 0<=M -A by grind) (show 0<=M+A by grind);have r:=c (show 0<=M -B by grind) (show 0<=M+B by grind);have q:=gK (A -B);have i:=c d (show 0<=3*(M*M) -(A*A+A*B+B*B) by grind);exact⟨by grind,by grind⟩
theorem Gm(x:Rat):∃M:Rat,1<=M/\ab x M:=by
 unfold ab;by_cases h:0<=x
 .exact⟨x+1,by grind,by grind,by grind⟩
 .exact⟨1 -x,by grind,by grind,by grind⟩
theorem Gp(x y:Rat):∃M:Rat,1<=M/\ab x M/\ab y M:=by obtain⟨M,d,b⟩:=Gm x;obtain⟨N,c,a⟩:=Gm y;exact⟨M+N,by grind,iW b (by grind),iW a (by grind)⟩
theorem BE(k:Int)(h:A<=B):pk k A<=pk k B:=by obtain⟨M,c,b,a⟩:=Gp A B;exact(vv k h c b a).1
theorem Gq(k:Int)(b:0<S):pk k (S*A)=pk k S*pk k A:=by
 have e:¬S<0:=by grind
 unfold pk;by_cases d:k=1
 .simp only[Bi d]
 simp only[BM d];by_cases c:k=2
 .simp only[Bi c,BM e];have a:S*A<0↔A<0:=by
   constructor
   .intro h;by_cases q:A<0
    .exact q
    .have:=TB (Fm b) (show 0<=A by grind);grind
   .intro h;have:=Ha b (show 0< -A by grind);grind
  by_cases q:A<0
  .rw[Bi (a.mpr q),Bi q];grind
  .rw[BM (λz=>q (a.mp z)),BM q];grind
 .simp only[BM c];grind
theorem zL(k:Int)(a:0<S):0<pk k S:=by
 have e:¬S<0:=by grind
 have b:=Ha a a;unfold pk;by_cases d:k=1
 .rw[Bi d];exact a
 rw[BM d];by_cases c:k=2
 .rw[Bi c,BM e];exact b
 .rw[BM c];exact Ha b a
theorem V9(k:Int)(h:A<B):pk k A<pk k B:=by
 have o:=BE k (Fm h);by_cases e:pk k A=pk k B
 .exfalso
  revert e
  have f:0<B -A:=by grind
  unfold pk;by_cases d:k=1
  .rw[Bi d,Bi d];grind
  rw[BM d,BM d];by_cases c:k=2
  .rw[Bi c,Bi c];by_cases a:A<0
   .have n:=Ha (show 0< -A by grind) (show 0< -A by grind);have m:=gK B;rw[Bi a];by_cases b:B<0
    .rw[Bi b];have:=Ha f (show 0< -A -B by grind);grind
    .rw[BM b];grind
   .rw[BM a,BM (show¬B<0 by grind)];have:=Ha f (show 0<A+B by grind);grind
  .rw[BM c,BM c];have l:=gK (A+B);have j:=gK A;have i:=gK B;have g:0<A*A+A*B+B*B:=by
    by_cases a:A=0
    .rw[a];have:0<B:=by grind
     have:=Ha this this;grind
    .have:0<A*A:=by
      by_cases q:A<0
      .have:=Ha (show 0< -A by grind) (show 0< -A by grind);grind
      .have:0<A:=by grind
       exact Ha this this
     grind
   have:=Ha f g;intro e;grind
 .grind
theorem ivt(w:∀a b,a<=b->PD a b φ)(k:φ x<0)(j:0<=φ y)(d:x<y)(A:0<e):∃z,In x y z/\ab (φ z) e:=by
 refine Fk λg=>?_;have g:∀z,In x y z->¬ab (φ z) e:=λz hz B=>g ⟨z,hz,B⟩;refine vg (dX:=λl r=>φ l<0/\0<=φ r) d (λl m r _ _ _ h=>?_) (λN=>?_) ⟨k,j⟩
 .by_cases q:φ m<0
  .exact .inr ⟨q,h.2⟩
  .exact .inl ⟨h.1,by grind⟩
 .rcases N.FY (w x y (Fm d))with z|⟨s,t,c,C,n,f⟩
  .obtain⟨n,f⟩:=z e A;have i:N.I n (N.l n):=⟨by grind,Fm (N.lt n)⟩;exact absurd (f _ i) (g _ (N.base i))
  .refine⟨n,λu v p o _ h=>?_⟩;have D:=f u p;have a2:=f v o;rcases t with rfl|rfl<;>grind
structure Kn where
 t:Int
 s:Int
 u:Int
 b:Int
 k:Int
structure aO(n:Kn):Prop where
 b0:0<n.b
 kd:n.k=1\/n.k=2\/n.k=3
 s0:n.k=1->n.s=0
 s1:n.k≠1->n.s=1\/n.s= -1
 u0:n.k≠1->0<n.u
 np:n.k≠1->∀r:Rat,pk n.k r≠(n.u:Rat)/\pk n.k r≠-(n.u:Rat)
noncomputable def Kn.A(n:Kn)(x:Rat):Rat:=(n.b:Rat)*x -n.t
noncomputable def Kn.c(n:Kn):Rat:=(n.s:Rat)*n.u
noncomputable def Kn.f(n:Kn)(x:Rat):Rat:=pk n.k (n.A x) -n.c
noncomputable def Kn.lo(n:Kn)(x:Rat):Bool:=decide (n.f x<0)
noncomputable def Kn.h(n:Kn)(x:Rat):Rat:=if n.k=2 then n.A x*n.A x -n.u else n.f x
section
variable{n:Kn}
theorem aO.qb(h:aO n):(0:Rat)<(n.b:Rat):=cq.mpr h.b0
theorem aO.Wa(h:aO n)(l:x<y):n.A x<n.A y:=by have:=Ha h.qb (show 0<y -x by grind);unfold Kn.A;grind
theorem aO.Wb(h:aO n)(l:x<y):n.f x<n.f y:=by have:=V9 n.k (h.Wa l);unfold Kn.f;grind
theorem aO.zM(h:aO n)(l:x<=y):n.f x<=n.f y:=by
 by_cases e:x=y
 .rw[e];grind
 .exact Fm (h.Wb (by grind))
theorem aO.Kv(h:aO n)(a b:Rat)(l:a<=b):PD a b n.f:=by
 obtain⟨M,m,w,v⟩:=Gp (n.A a) (n.A b);have c:∀{x y:Rat},x<=y->n.A x<=n.A y:=λ{x y} q=>by
  by_cases e:x=y
  .rw[e];grind
  .exact Fm (h.Wa (by grind))
 have s:=TB (show(0:Rat)<=M by grind) (show(0:Rat)<=M by grind);have g:=TB (show(0:Rat)<=3*(M*M) by grind) (Fm h.qb);refine⟨3*(M*M)*n.b,g,λx y p o d=>?_⟩;have i:∀{z:Rat},In a b z->ab (n.A z) M:=λ{z} hz=>by have u:=c hz.1;have t:=c hz.2;unfold ab at*;grind
 obtain⟨r,j⟩:=vv n.k (c d) m (i p) (i o);have e:n.A y -n.A x=n.b*(y -x):=by unfold Kn.A;grind
 rw[e]at j;have:=TB g (show 0<=y -x by grind);unfold ab Kn.f;grind
theorem aO.gu:n.lo x=true↔n.f x<0:=by unfold Kn.lo;exact decide_eq_true_iff
theorem aO.ur:n.lo x=false↔0<=n.f x:=by unfold Kn.lo;rw[decide_eq_false_iff_not];exact m3
theorem aO.cut(h:aO n):lK n.lo:=by
 refine⟨λx y l c=>?_,λx g=>?_⟩
 .rw[aO.gu]at c⊢;have:=h.zM l;grind
 .rw[aO.gu]at g;obtain⟨L,s,i⟩:=h.Kv x (x+1) (by grind);have a:=SU.mpr (show(0:Rat)<2*(L+1) by grind);have b:2*(L+1)*(2*(L+1))⁻¹=1:=Hn _ (by grind);have o:=Ha (show 0< -n.f x by grind) a;generalize(2*(L+1))⁻¹=j at*;obtain⟨d,r,p,k⟩:∃d:Rat,0<d/\d<=1/\d<=-n.f x*j:=by
   by_cases q: -n.f x*j<=1
   .exact⟨_,o,q,by grind⟩
   .exact⟨1,by decide,by grind,by grind⟩
  refine⟨x+d,by grind,aO.gu.mpr ?_⟩;have:=i x (x+d) ⟨by grind,by grind⟩ ⟨by grind,by grind⟩ (by grind);have m:=Dx k (show 0<=L+1 by grind);unfold ab at this;have e:(L+1)*(-n.f x*j)*2= -n.f x*(2*(L+1)*j):=by grind
  rw[b]at e;grind
theorem aO.rt(h:aO n):Rt n.lo n.f:=λx y b a e c=>ivt h.Kv (aO.gu.mp b) (aO.ur.mp a) (h.cut.lt b a) c
theorem aO.c2(h:aO n)(k2:n.k=2):n.c=n.u\/n.c= -n.u:=by
 unfold Kn.c;rcases h.s1 (by rw[k2];decide)with e|e
 .rw[e];left;exact Xt _
 .rw[e];right;show(-1:Rat)*_=_;grind
theorem aO.qu(h:aO n)(k1:n.k≠1):(0:Rat)<(n.u:Rat):=cq.mpr (h.u0 k1)
theorem NI(A:Rat):pk 2 A=if A<0 then-(A*A)else A*A:=rfl
theorem aO.Wc(h:aO n)(a:ab (n.f z) e):ab (n.h z) e:=by
 unfold Kn.h;by_cases b:n.k=2
 .rw[Bi b];have d:=h.qu (by rw[b];decide);have c:=h.c2 b;unfold Kn.f at a;rw[b,NI]at a;have s:=gK (n.A z);unfold ab at*;by_cases q:n.A z<0
  .rw[Bi q]at a;rcases c with c|c<;>rw[c]at a<;>grind
  .rw[BM q]at a;rcases c with c|c<;>rw[c]at a<;>grind
 .rw[BM b];exact a
theorem aO.P1(h:aO n)(k1:n.k≠1)(x:Rat):n.h x≠0:=by
 unfold Kn.h;have np:=h.np k1;by_cases b:n.k=2
 .rw[Bi b];rw[b]at np;intro e;have a:=np (n.A x);rw[NI]at a;by_cases q:n.A x<0
  .rw[Bi q]at a;exact a.2 (by grind)
  .rw[BM q]at a;exact a.1 (by grind)
 .rw[BM b];intro e;have a:=np (n.A x);unfold Kn.f at e;have c:n.c=n.u\/n.c= -n.u:=by
   unfold Kn.c;rcases h.s1 k1 with e|e
   .rw[e];left;exact Xt _
   .rw[e];right;show(-1:Rat)*_=_;grind
  rcases c with c|c
  .exact a.1 (by grind)
  .exact a.2 (by grind)
noncomputable def Kn.cj(n:Kn):Kn:={n with s:= -n.s}
theorem aO.cj(h:aO n)(k2:n.k=2):aO n.cj:=by
 have a:n.k≠1:=by rw[k2];decide
 refine⟨h.b0,h.kd,λe=>absurd e a,λe=>?_,h.u0,h.np⟩;show-n.s=1\/-n.s= -1;have:=h.s1 a;lia
theorem Kn.ZJ(n:Kn)(k2:n.k=2)(x:Rat):n.cj.h x=n.h x:=by unfold Kn.h;rw[Bi k2,Bi (show n.cj.k=2 from k2)];rfl
theorem aO.P4(h:aO n)(k2:n.k=2):Sep n.lo n.cj.lo:=by
 have e:n.k≠1:=by rw[k2];decide
 have j:=h.qu e;have qb:=h.qb;have l:(n.b:Rat)*(n.b:Rat)⁻¹=1:=Hn _ (by grind);have d:n.A (n.t*(n.b:Rat)⁻¹)=0:=by unfold Kn.A;grind
 have a:pk 2 0=0:=by decide+kernel
 have i:n.f (n.t*(n.b:Rat)⁻¹)= -n.c:=by unfold Kn.f;rw[k2,d,a];grind
 have g:n.cj.f (n.t*(n.b:Rat)⁻¹)=n.c:=by show pk n.k (n.A _) -((-n.s:Int):Rat)*n.u=_;rw[k2,d,a,Eg];unfold Kn.c;grind
 refine⟨n.t*(n.b:Rat)⁻¹,?_⟩;unfold Kn.lo;rw[i,g];rcases h.c2 k2 with c|c
 .rw[c,Fh (by grind),Hb (by grind)];decide
 .rw[c,Hb (by grind),Fh (by grind)];decide
theorem aO.stay(h:aO n)(g:n.h x≠0)(D:i9 x y n.lo=false)(E:n.k=2->i9 x y n.cj.lo=false):∃c:Rat,0<c/\∀z,In x y z->c<=n.h z\/n.h z<=-c:=by
 have o:∀{m:Kn},i9 x y m.lo=false->m.f x<0->m.f y<0:=λ{m} q a=>by
  have:m.lo y≠false:=λe=>by have:=lN.mpr ⟨aO.gu.mpr a,e⟩;rw[q]at this;cases this
  exact aO.gu.mp (by cases z:m.lo y with|true=>rfl|false=>exact absurd z this)
 have i:=o D;by_cases d:n.k=2
 .have p:=o (E d);have K:=h.qu (by rw[d];decide);have P:∀z,pk 2 (n.A z)=n.f z+n.c:=λz=>by unfold Kn.f;rw[d];grind
  have w:∀z,n.cj.f z=pk 2 (n.A z)+n.c:=λz=>by show pk n.k (n.A _) -((-n.s:Int):Rat)*n.u=_;rw[d,Eg];unfold Kn.c;grind
  have b:∀{u v:Rat},u<=v->pk 2 (n.A u)<=pk 2 (n.A v):=λ{u v} l=>by have:=h.zM l;rw[P,P];grind
  have H:∀z,n.h z=if n.A z<0 then-pk 2 (n.A z) -n.u else pk 2 (n.A z) -n.u:=λz=>by
   unfold Kn.h;rw[Bi d,NI];by_cases q:n.A z<0
   .rw[Bi q,Bi q];grind
   .rw[BM q,BM q]
  have S:∀z,(n.A z<0->pk 2 (n.A z)<=0)/\(¬n.A z<0->0<=pk 2 (n.A z)):=λz=>by
   have:=gK (n.A z);rw[NI];constructor
   .intro q;rw[Bi q];grind
   .intro q;rw[BM q];exact this
  have j:(pk 2 (n.A x)<n.u->pk 2 (n.A y)<n.u)/\(pk 2 (n.A x)< -n.u->pk 2 (n.A y)< -n.u):=by
   have r:=P x;have a2:=P y;have a3:=w x;have a4:=w y;rcases h.c2 d with c|c
   .exact⟨λq=>by have:=i (by grind);grind,λq=>by have:=p (by grind);grind⟩
   .exact⟨λq=>by have:=p (by grind);grind,λq=>by have:=i (by grind);grind⟩
  rw[H]at g;have t:=S x;by_cases C:pk 2 (n.A x)<n.u
  .have J:=j.1 C;by_cases B:pk 2 (n.A x)< -n.u
   .have I:=j.2 B;refine⟨-pk 2 (n.A y) -n.u,by grind,λz hz=>.inl ?_⟩;have m:=b hz.2;have G:=S z;have:n.A z<0:=by
     by_cases q:n.A z<0
     .exact q
     .have:=G.2 q;grind
    rw[H,Bi this];grind
   .have L: -(n.u:Rat)<pk 2 (n.A x):=by
     by_cases q:pk 2 (n.A x)= -n.u
     .exfalso
      have:n.A x<0:=by
       by_cases q:n.A x<0
       .exact q
       .have:=t.2 q;grind
      rw[Bi this]at g;exact g (by grind)
     .grind
    obtain⟨c,F,O,c2⟩:∃c:Rat,0<c/\c<=pk 2 (n.A x)+n.u/\c<=n.u -pk 2 (n.A y):=by
     by_cases q:pk 2 (n.A x)+n.u<=n.u -pk 2 (n.A y)
     .exact⟨_,by grind,by grind,q⟩
     .exact⟨_,by grind,by grind,k7⟩
    refine⟨c,F,λz hz=>.inr ?_⟩;have N:=b hz.1;have M:=b hz.2;rw[H];by_cases q:n.A z<0
    .rw[Bi q];grind
    .rw[BM q];grind
  .have r:¬n.A x<0:=λq=>by have:=t.1 q;grind
   rw[BM r]at g;refine⟨pk 2 (n.A x) -n.u,by grind,λz hz=>.inl ?_⟩;have m:=b hz.1;have:¬n.A z<0:=λq=>by have:=(S z).1 q;grind
   rw[H,BM this];grind
 .have e:∀z,n.h z=n.f z:=λz=>by unfold Kn.h;rw[BM d]
  rw[e]at g;by_cases q:n.f x<0
  .refine⟨-n.f y,by have:=i q;grind,λz hz=>.inr ?_⟩;rw[e];have:=h.zM hz.2;grind
  .refine⟨n.f x,by grind,λz hz=>.inl ?_⟩;rw[e];exact h.zM hz.1
end
noncomputable def pC(k A:Int):Int:=if k=1 then A else if k=2 then(if A<0 then-(A*A)else A*A)else A*A*A
theorem cU(k A:Int):((pC k A:Int):Rat)=pk k (A:Rat):=by
 unfold pC pk;by_cases c:k=1
 .rw[Bi c,Bi c]
 rw[BM c,BM c];by_cases b:k=2
 .rw[Bi b,Bi b];by_cases a:A<0
  .rw[Bi a,Bi (kf.mpr a),Eg,FM]
  .rw[BM a,BM (λz=>a (kf.mp z)),FM]
 .rw[BM b,BM b,FM,FM]
theorem vA(k:Int)(h:A<=B):pC k A<=pC k B:=by have:=BE k (Fn.mpr h);rw[<-cU,<-cU]at this;exact Fn.mp this
theorem BF(k A:Int):pC k (-A)= -pC k A:=by
 unfold pC;by_cases d:k=1
 .rw[Bi d,Bi d]
 rw[BM d,BM d];by_cases c:k=2
 .rw[Bi c,Bi c,fw];by_cases a:A<0
  .rw[Bi a,BM (by lia),Int.neg_neg]
  .rw[BM a];by_cases b: -A<0
   .rw[Bi b]
   .rw[BM b,show A=0 by lia];decide
 .rw[BM c,BM c,fw,zi]
theorem lO{e:Nat}(a:k=(e:Int))(h:e=1\/e=2\/e=3)(b:0<=r):pC k r=r^e:=by
 rcases h with rfl|rfl|rfl
 .subst a;show r=r^1;rw[GM,Os,cx]
 .subst a;show(if r<0 then _ else r*r)=r^2;rw[BM (by omega),GM,GM,Os,cx]
 .subst a;show r*r*r=r^3;rw[GM,GM,GM,Os,cx]
def FL(n:Kn)(S F:Int):Prop:=∀m:Int,m<=F↔n.f ((m:Rat)*(S:Rat)⁻¹)<=0
theorem Wd(i:0<S)(h:∀m:Int,m<=F↔pC n.k (n.b*m -n.t*S)<=n.s*n.u*pC n.k S):FL n S F:=λm=>by
 rw[h];have d:(0:Rat)<(S:Rat):=cq.mpr i;have j:(S:Rat)*(S:Rat)⁻¹=1:=Hn _ (by grind);have g:=zL n.k d;have e:pk n.k ((n.b*m -n.t*S:Int):Rat)=pk n.k S*pk n.k (n.A ((m:Rat)*(S:Rat)⁻¹)):=by rw[<-Gq n.k d,xn,FM,FM];congr 1;unfold Kn.A;grind
 rw[<-Fn,cU,FM,FM,cU,e];unfold Kn.f Kn.c;generalize pk n.k (n.A _)=y;generalize(n.s:Rat)*n.u=c;generalize pk n.k (S:Rat)=P at*;constructor
 .intro q;have:=js (a:=y) (b:=c) (c:=P) (by grind) g;grind
 .intro q;have:=Dx (show y<=c by grind) (Fm g);grind
noncomputable def kq(x:Rat):Kn:=⟨x.num,0,0,x.den,1⟩
theorem BG(x:Rat):aO (kq x):=by have:=x.den_pos;exact⟨by show(0:Int)<x.den;omega,.inl rfl,λ_=>rfl,λh=>absurd rfl h,λh=>absurd rfl h,λh=>absurd rfl h⟩
theorem ZK(x y:Rat):(kq x).f y=((x.den:Int):Rat)*(y -x):=by show(((x.den:Int):Rat)*y -x.num) -(((0:Int):Rat)*((0:Int):Rat))=_;have:=eT x;have z:((0:Int):Rat)=0:=rfl;rw[z];grind
theorem BH(x y:Rat):(kq x).f y<=0↔y<=x:=by
 rw[ZK];have d:(0:Rat)<((x.den:Int):Rat):=(BG x).qb;constructor
 .intro h;by_cases q:y<=x
  .exact q
  .have:=Ha d (show 0<y -x by grind);grind
 .intro h;have:=TB (Fm d) (show 0<=x -y by grind);grind
section
variable{n:Kn}{x:Rat}{S a c:Int}
theorem FL.lt(h:aO n)(e:0<S)(d:FL (kq x) S a)(b:FL n S c)(l:a<c):n.lo x=true:=by
 have g:¬((a+1:Int):Rat)*(S:Rat)⁻¹<=x:=λz=>by have:=(d (a+1)).mpr ((BH x _).mpr z);omega
 have f:=(b (a+1)).mp (by lia);have:=h.Wb (show x<((a+1:Int):Rat)*(S:Rat)⁻¹ by grind);exact aO.gu.mpr (by grind)
theorem FL.gt(h:aO n)(g:0<S)(d:FL (kq x) S a)(b:FL n S c)(l:c<a):n.lo x=false:=by
 have e:=(BH x _).mp ((d (c+1)).mp (by omega));have i:¬n.f (((c+1:Int):Rat)*(S:Rat)⁻¹)<=0:=λz=>by have:=(b (c+1)).mpr z;omega
 have:=h.zM e;exact aO.ur.mpr (by grind)
theorem FL.near(h:aO n)(o:1<=S)(l:FL (kq x) S a)(i:FL n S a)(q:1<=M)(v:ab (n.A x) (M -n.b))(L:0<e)(u:e<=n.f x\/n.f x<=-e):(S:Rat)*e<=3*(M*M)*n.b:=by
 have p:(1:Rat)<=(S:Rat):=Fn.mpr o;have t:(S:Rat)*(S:Rat)⁻¹=1:=Hn _ (by grind);have g:=SU.mpr (show(0:Rat)<(S:Rat) by grind);have s:(S:Rat)⁻¹<=1:=by have:=Sr p (Fm g);grind
 have qb:=h.qb;have F:=(BH x _).mp ((l a).mp (by omega));have E:¬((a+1:Int):Rat)*(S:Rat)⁻¹<=x:=λz=>by have:=(l (a+1)).mpr ((BH x _).mpr z);omega
 have K:=(i a).mp (by omega);have D:¬n.f (((a+1:Int):Rat)*(S:Rat)⁻¹)<=0:=λz=>by have:=(i (a+1)).mpr z;omega
 have w:((a+1:Int):Rat)=(a:Rat)+1:=by rw[eI];rfl
 rw[w]at E D;generalize(a:Rat)=A at*;have J:=h.zM F;have I:=h.zM (show x<=(A+1)*(S:Rat)⁻¹ by grind);have d:=vv n.k (A:=n.A (A*(S:Rat)⁻¹)) (B:=n.A ((A+1)*(S:Rat)⁻¹)) (M:=M);generalize(S:Rat)⁻¹=j at*;have N:(n.b:Rat)*j<=n.b:=by have:=Dx s (Fm qb);grind
 have H:=TB (Fm qb) (show 0<=x -A*j by grind);have G:=TB (Fm qb) (show 0<=(A+1)*j -x by grind);have y:n.A ((A+1)*j) -n.A (A*j)=n.b*j:=by unfold Kn.A;grind
 have O:n.A x -n.A (A*j)=n.b*(x -A*j):=by unfold Kn.A;grind
 have a2:n.A ((A+1)*j) -n.A x=n.b*((A+1)*j -x):=by unfold Kn.A;grind
 unfold ab at d v;obtain⟨_,m⟩:=d (by have:=Ha qb g;grind) q ⟨by grind,by grind⟩ ⟨by grind,by grind⟩;rw[y]at m;have ff:n.f ((A+1)*j) -n.f (A*j)<=3*(M*M)*(n.b*j):=by unfold Kn.f;grind
 have r:e<=3*(M*M)*(n.b*j):=by rcases u with z|z<;>grind
 have:=Dx r (show 0<=(S:Rat) by grind);have C:(S:Rat)*(3*(M*M)*(n.b*j))=3*(M*M)*n.b*((S:Rat)*j):=by grind
 rw[C,t,pj]at this;exact this
theorem P5(h:aO n)(p:n.f x≠0):∃e:Rat,0<e/\(e<=n.f x\/n.f x<=-e)/\1<=e*(((x.den:Int):Rat)*((x.den:Int):Rat)*((x.den:Int):Rat)):=by
 have d:(0:Rat)<((x.den:Int):Rat):=(BG x).qb;have v:(1:Int)<=(x.den:Int):=by have:=x.den_pos;omega
 have j:(1:Rat)<=((x.den:Int):Rat):=Fn.mpr v;have o:=zL n.k d;have i:n.f x*pk n.k ((x.den:Int):Rat)=((pC n.k (n.b*x.num -n.t*x.den) -n.s*n.u*pC n.k x.den:Int):Rat):=by
  rw[xn,FM,FM,cU,cU];have:((n.b*x.num -n.t*x.den:Int):Rat)=((x.den:Int):Rat)*n.A x:=by rw[xn,FM,FM];have:=eT x;unfold Kn.A;grind
  rw[this,Gq n.k d];unfold Kn.f Kn.c;grind
 generalize pC n.k (n.b*x.num -n.t*x.den) -n.s*n.u*pC n.k x.den=z at*;have w:z≠0:=λe=>by rw[e]at i;exact(Kk.mp i).elim p (by grind)
 have l:(1:Rat)<=(z:Rat)\/(z:Rat)<=-1:=by
  have:1<=z\/z<=-1:=by omega
  rcases this with q|q
  .exact .inl (Fn.mpr q)
  .exact .inr (Fn.mpr q)
 have m:pk n.k ((x.den:Int):Rat)<=((x.den:Int):Rat)*((x.den:Int):Rat)*((x.den:Int):Rat):=by
  generalize((x.den:Int):Rat)=q at*;have s:=Dx j (Fm d);have y:=Dx j (show 0<=q*q by grind);rcases h.kd with k|k|k
  .rw[k];show q<=_;grind
  .rw[k,NI,BM (by grind)];grind
  .rw[k];show q*q*q<=_;grind
 have B:pk n.k ((x.den:Int):Rat)*(pk n.k ((x.den:Int):Rat))⁻¹=1:=Hn _ (by grind);have g:=SU.mpr o;generalize pk n.k ((x.den:Int):Rat)=P at*;refine⟨P⁻¹,g,?_,?_⟩
 .have r:n.f x=(z:Rat)*P⁻¹:=by rw[<-i];grind
  rw[r];rcases l with q|q
  .have:=Sr q (Fm g);exact .inl (by grind)
  .have:=Sr q (Fm g);exact .inr (by grind)
 .have:=Dx m (Fm g);grind
end
end Num
namespace VL
open PySem PySem.Spec PyProof.Rows L2
theorem ff{C:Prop}(h:false=true):C:=Bool.noConfusion h
theorem nn{α:Type}{a:α}{C:Prop}(h:none=some a):C:=Option.noConfusion rfl (heq_of_eq h)
inductive W where
 |bV|bl (b:Bool)|int (i:Int)|str (x:Str)|ty (n:String)|cls (C:Addr)|err (C:Addr)|fn (f:Addr)
 |tup (l:List W)|lst (l:List W)|obj (C:Addr) (fs:List Str) (vs:List W)|jX (ns:List Int)
 |gi (D:Addr) (ys ns:List Addr)
theorem W.BJ(h:W.int a=.int b):a=b:=by cases h;rfl
theorem W.NJ(h:W.tup a=.tup b):a=b:=by cases h;rfl
theorem W.BK(h:W.lst a=.lst b):a=b:=by cases h;rfl
noncomputable def Ek:HO->Bool
 |.lst _|.ins _ _ _|.dK _|.dT _|.set _ _=>true
 |_=>false
def zN(K:Frag)(C:Addr)(a:List Str):Prop:=JF K C/\a.length<1000/\a.Nodup/\∀x∈a,kh K C x
def Rz(H:Hp)(a:Addr)(u:HO):Prop:=H a=some u\/False
theorem Rz.rd(h:Rz H a u):Rd H a u:=h.elim .inl D5
theorem Rz.at(h:Rz H a u):H a=some u:=h.elim id D5
def P6(K:Frag)(C:Addr):Prop:=pV K C/\kitOne K (.ref C) (.type "ValueError")=some true
def We(K:Frag)(D:Addr)(a ns:List Addr):Prop:=(a≠[]->pV K D)/\(∀C∈a,P6 K C/\kitOne K (.ref C) (.ref D)=some true/\mroIn K C (.ref D)=some true)/\∀C∈ns,kitOne K (.ref C) (.ref D)=some false
mutual
def Rep(K:Frag)(A:Addr->Prop)(H:Hp):W->V->Prop
 |.bV,v=>v=.bV
 |.bl b,v=>v=.bl b
 |.int i,v=>v=.int i
 |.str x,v=>v=.str x
 |.ty n,v=>v=.ty n
 |.cls C,v=>v=.ref C
 |.fn f,v=>v=.ref f
 |.err C,v=>∃a,v=.ref a/\H a=some (Fc a C)/\¬A a/\P6 K C
 |.tup l,v=>∃p vs,v=.ref p/\H p=some (.tup vs)/\aj K A H l vs
 |.lst l,v=>∃p vs,v=.ref p/\¬A p/\Rz H p (.lst vs)/\aj K A H l vs
 |.obj C c e,v=>∃p g vs,v=.ref p/\¬A p/\H p=some (.ins C g (c.zip vs))/\vs.length=c.length/\zN K C c/\aj K A H e vs
 |.gi D d ns,v=>v=.ref D/\We K D d ns
 |.jX ns,v=>∃p,v=.ref p/\((∃o,H p=some (.yK o (.lst (ns.map V.int))))\/jU K (λ_=>none) p (ns.map V.int))
def aj(K:Frag)(A:Addr->Prop)(H:Hp):List W->List V->Prop
 |[],vs=>vs=[]
 |w::a,vs=>∃v r,vs=v::r/\Rep K A H w v/\aj K A H a r
end
section
variable{K:Frag}{A B:Addr->Prop}{H H':Hp}
theorem ay.rz(s:ay H H')(h:Rz H p u):Rz H' p u:=.inl (s _ _ h.at)
theorem ay.rd(s:ay H H')(h:Rd H p u):Rd H' p u:=by
 rcases h with h|⟨o,h⟩
 .exact .inl (s _ _ h)
 .exact .inr ⟨o,s _ _ h⟩
def wY(B:Addr->Prop)(H H':Hp):Prop:=∀p o,H p=some o->(Ek o=true/\B p)\/H' p=some o
theorem wY.un(h:wY A H H')(e:H p=some o)(n:Ek o=true->¬A p):H' p=some o:=by
 rcases h p o e with⟨z,y⟩|z
 .exact(n z y).elim
 .exact z
mutual
theorem Rep.chg(h:wY A H H')(d:∀p o,H p=some o->B p->A p):∀(w:W){v:V},Rep K A H w v->Rep K B H' w v
 |.bV,_,r=>by dsimp only[Rep]at r⊢;exact r
 |.bl _,_,r=>by dsimp only[Rep]at r⊢;exact r
 |.int _,_,r=>by dsimp only[Rep]at r⊢;exact r
 |.str _,_,r=>by dsimp only[Rep]at r⊢;exact r
 |.ty _,_,r=>by dsimp only[Rep]at r⊢;exact r
 |.cls _,_,r=>by dsimp only[Rep]at r⊢;exact r
 |.fn _,_,r=>by dsimp only[Rep]at r⊢;exact r
 |.err C,v,r=>by obtain⟨a,e,b,c,g⟩:=r;exact⟨a,e,h.un b (λz=>by cases z),λz=>c (d a _ b z),g⟩
 |.gi _ _ _,_,r=>by dsimp only[Rep]at r⊢;exact r
 |.tup l,v,r=>by obtain⟨p,f,e,b,c⟩:=r;exact⟨p,f,e,h.un b (λz=>by cases z),aj.chg h d l c⟩
 |.lst l,v,r=>by
  dsimp only[Rep]at r⊢;obtain⟨p,f,e,n,b,c⟩:=r;refine⟨p,f,e,λz=>?_,?_,aj.chg h d l c⟩
  .exact n (d p _ b.at z)
  .exact .inl (h.un b.at λ_=>n)
 |.obj C q i,v,r=>by obtain⟨p,k,f,e,n,b,c,j,g⟩:=r;exact⟨p,k,f,e,λz=>n (d p _ b z),h.un b λ_=>n,c,j,aj.chg h d i g⟩
 |.jX m,v,r=>by obtain⟨p,e,b⟩:=r;exact⟨p,e,b.imp (by rintro⟨o,z⟩;exact⟨o,h.un z λz=>by cases z⟩) id⟩
theorem aj.chg(h:wY A H H')(a:∀p o,H p=some o->B p->A p):∀(l:List W){vs:List V},aj K A H l vs->aj K B H' l vs
 |[],_,r=>by dsimp only[aj]at r⊢;exact r
 |w::l,vs,r=>by obtain⟨v,b,e,d,c⟩:=r;exact⟨v,b,e,Rep.chg h a w d,aj.chg h a l c⟩
end
theorem wY.same(s:ay H H'):wY A H H':=λ_ _ e=>.inr (s _ _ e)
theorem wY.put(b:H p=some a)(c:Ek a=true)(d:A p):wY A H (upd H p o):=λq u e=>by
 by_cases n:q=p
 .subst n;rw[b]at e;cases e;exact .inl ⟨c,d⟩
 .exact .inr (by rw[ao n];exact e)
theorem Rep.mv(s:ay H H')(a:∀p o,H p=some o->B p->A p)(w:W)(h:Rep K A H w v):Rep K B H' w v:=Rep.chg (.same s) a w h
theorem aj.mv(s:ay H H')(a:∀p o,H p=some o->B p->A p)(l:List W)(h:aj K A H l vs):aj K B H' l vs:=aj.chg (.same s) a l h
theorem Rep.same(s:ay H H')(h:Rep K A H w v):Rep K A H' w v:=Rep.mv s (λ_ _ _ z=>z) w h
theorem aj.same(s:ay H H')(h:aj K A H l vs):aj K A H' l vs:=aj.mv s (λ_ _ _ z=>z) l h
theorem Rep.less(a:∀p,B p->A p)(h:Rep K A H w v):Rep K B H w v:=Rep.mv (ay.refl H) (λp _ _ z=>a p z) w h
theorem aj.less(a:∀p,B p->A p)(h:aj K A H l vs):aj K B H l vs:=aj.mv (ay.refl H) (λp _ _ z=>a p z) l h
theorem aj.put(b:H p=some (.lst a))(c:A p)(l:List W)(h:aj K A H l vs):aj K A (upd H p o) l vs:=aj.chg (.put b rfl c) (λ_ _ _ z=>z) l h
theorem aj.nil:aj K A H [] []:=by dsimp only[aj]
theorem aj.cons{w:W}{v:V}{l:List W}{vs:List V}(b:Rep K A H w v)(a:aj K A H l vs):aj K A H (w::l) (v::vs):=by dsimp only[aj];exact⟨v,vs,rfl,b,a⟩
theorem aj.nil_inv(h:aj K A H [] vs):vs=[]:=by dsimp only[aj]at h;exact h
theorem aj.cons_inv(h:aj K A H (w::l) vs):∃v r,vs=v::r/\Rep K A H w v/\aj K A H l r:=by dsimp only[aj]at h;exact h
theorem aj.len:∀{l:List W}{vs:List V},aj K A H l vs->vs.length=l.length
 |[],vs,h=>by rw[h.nil_inv];rfl
 |w::l,vs,h=>by obtain⟨v,r,rfl,_,a⟩:=h.cons_inv;rw[BL,BL,a.len]
theorem aj.app:∀{l m:List W}{vs us:List V},aj K A H l vs->aj K A H m us->aj K A H (l++m) (vs++us)
 |[],m,vs,us,h,k=>by rw[h.nil_inv];exact k
 |w::l,m,vs,us,h,k=>by obtain⟨v,r,rfl,b,a⟩:=h.cons_inv;exact .cons b (a.app k)
theorem aj.get:∀{l:List W}{vs:List V}{i:Nat}{w:W},aj K A H l vs->l[i]?=some w->∃v,vs[i]?=some v/\Rep K A H w v
 |[],_,_,_,_,e=>by simp at e
 |x::l,vs,0,w,h,e=>by obtain⟨v,r,rfl,b,a⟩:=h.cons_inv;simp at e;subst e;exact⟨v,rfl,b⟩
 |x::l,vs,i+1,w,h,e=>by obtain⟨v,r,rfl,b,a⟩:=h.cons_inv;obtain⟨u,d,c⟩:=a.get (i:=i) (by simpa using e);exact⟨u,by simpa using d,c⟩
theorem aj.set:∀{l:List W}{vs:List V}{i:Nat}{w:W}{v:V},aj K A H l vs->Rep K A H w v->aj K A H (l.set i w) (vs.set i v)
 |[],_,_,_,_,h,_=>by rw[h.nil_inv];exact .nil
 |x::l,vs,0,w,v,h,e=>by obtain⟨c,r,rfl,b,a⟩:=h.cons_inv;exact .cons e a
 |x::l,vs,i+1,w,v,h,e=>by obtain⟨c,r,rfl,b,a⟩:=h.cons_inv;exact .cons b (a.set e)
theorem aj.take:∀{l:List W}{vs:List V}(n:Nat),aj K A H l vs->aj K A H (l.take n) (vs.take n)
 |_,_,0,_=>.nil
 |[],vs,n+1,h=>by rw[h.nil_inv];exact .nil
 |x::l,vs,n+1,h=>by obtain⟨c,r,rfl,b,a⟩:=h.cons_inv;exact .cons b (a.take n)
theorem aj.drop:∀{l:List W}{vs:List V}(n:Nat),aj K A H l vs->aj K A H (l.drop n) (vs.drop n)
 |_,_,0,h=>h
 |[],vs,n+1,h=>by rw[h.nil_inv];exact .nil
 |x::l,vs,n+1,h=>by obtain⟨b,r,rfl,c,a⟩:=h.cons_inv;exact a.drop n
theorem aj.dropLast(h:aj K A H l vs):aj K A H l.dropLast vs.dropLast:=by rw[ax,ax,h.len];exact h.take _
theorem aj.rep(h:aj K A H l vs):∀n:Nat,aj K A H (AW n l).flatten (AW n vs).flatten
 |0=>.nil
 |n+1=>by rw[D6,D6,Ep,Ep];exact h.app (h.rep n)
theorem aj.ints{ns:List Int}:∀{vs:List V},aj K A H (ns.map W.int) vs->vs=ns.map V.int:=by
 induction ns with
 |nil=>intro vs h;exact h.nil_inv
 |cons n ns b=>intro vs h;obtain⟨v,r,rfl,a,c⟩:=h.cons_inv;dsimp only[Rep]at a;rw[a,b c];rfl
theorem aj.KO(ns:List Int):aj K A H (ns.map W.int) (ns.map V.int):=by
 induction ns with
 |nil=>exact .nil
 |cons n ns a=>exact .cons (by dsimp only[Rep]) a
end
end VL
set_option genSizeOf false
set_option genInjectivity false
namespace VL
open PySem PySem.Spec
open PyProof.Rows hiding St
open L2
inductive Md where
 |s|f|o (fs:List Str) (ms:List Md)
 |io (m:Md)
mutual
def Fp(K:Frag)(B:Addr->Prop)(H:Hp):Md->W->V->List Addr->Prop
 |.s,w,v,F=>F=[]/\Rep K B H w v
 |.f,w,v,F=>∃a p vs,w=.lst a/\v=.ref p/\F=[p]/\H p=some (.lst vs)/\aj K B H a vs
 |.o b ms,w,v,F=>∃C c a p vs F',w=.obj C b a/\v=.ref p/\F=p::F'/\H p=some (.ins C c (b.zip vs))/\vs.length=b.length/\zN K C b/\jK K B H ms a vs F'
 |.io _,_,_,_=>False
def jK(K:Frag)(B:Addr->Prop)(H:Hp):List Md->List W->List V->List Addr->Prop
 |[],b,vs,F=>b=[]/\vs=[]/\F=[]
 |m::ms,b,vs,F=>∃w c v a e d,b=w::c/\vs=v::a/\F=e++d/\Fp K B H m w v e/\jK K B H ms c a d
end
def sE(B G:Addr->Prop)(H H':Hp):Prop:=∀p o,H p=some o->(Ek o=true/\B p/\¬G p)\/H' p=some o
section
variable{K:Frag}{A B G:Addr->Prop}{H H':Hp}
theorem sE.c(h:sE A G H H'):wY A H H':=λp o e=>(h p o e).imp (λz=>⟨z.1,z.2.1⟩) id
theorem sE.un(h:sE A G H H')(e:H p=some o)(g:Ek o=true->G p):H' p=some o:=by
 rcases h p o e with⟨z,_,y⟩|z
 .exact(y (g z)).elim
 .exact z
mutual
theorem Fp.chg(h:sE A G H H')(e:∀p o,H p=some o->B p->A p):∀(m:Md){w:W}{v:V}{F:List Addr},(∀p∈F,G p)->Fp K A H m w v F->Fp K B H' m w v F
 |.s,w,v,F,a,r=>by dsimp only[Fp]at r⊢;exact⟨r.1,Rep.chg h.c e w r.2⟩
 |.f,w,v,F,a,r=>by obtain⟨d,p,vs,k,j,b,i,g⟩:=r;exact⟨d,p,vs,k,j,b,h.un i (λ_=>a p (by rw[b];exact FK)),aj.chg h.c e d g⟩
 |.o z l,w,v,F,a,r=>by obtain⟨C,x,d,p,vs,y,k,j,b,i,g,t,u⟩:=r;exact⟨C,x,d,p,vs,y,k,j,b,h.un i (λ_=>a p (by rw[b];exact FK)),g,t,jK.chg h e l (λq n=>a q (by rw[b];exact FS _ n)) u⟩
 |.io _,w,v,F,a,r=>D5 r
theorem jK.chg(h:sE A G H H')(e:∀p o,H p=some o->B p->A p):∀(ms:List Md){a:List W}{vs:List V}{F:List Addr},(∀p∈F,G p)->jK K A H ms a vs F->jK K B H' ms a vs F
 |[],_,_,_,_,r=>by dsimp only[jK]at r⊢;exact r
 |m::ms,a,vs,F,f,r=>by obtain⟨w,g,v,b,q,n,l,k,d,j,i⟩:=r;exact⟨w,g,v,b,q,n,l,k,d,Fp.chg h e m (λp c=>f p (by rw[d];exact fe _ c)) j,jK.chg h e ms (λp c=>f p (by rw[d];exact Mo _ c)) i⟩
end
theorem sE.same(s:ay H H'):sE A (λ_=>True) H H':=λ_ _ e=>.inr (s _ _ e)
theorem Fp.mv(s:ay H H')(a:∀p o,H p=some o->B p->A p)(m:Md)(h:Fp K A H m w v F):Fp K B H' m w v F:=Fp.chg (.same s) a m (λ_ _=>trivial) h
theorem jK.mv(s:ay H H')(a:∀p o,H p=some o->B p->A p)(ms:List Md)(h:jK K A H ms w v F):jK K B H' ms w v F:=jK.chg (.same s) a ms (λ_ _=>trivial) h
mutual
theorem Fp.rep(b:∀p,B p->A p):∀(m:Md){w:W}{v:V}{F:List Addr},(∀p∈F,¬B p)->Fp K A H m w v F->Rep K B H w v
 |.s,w,v,F,a,h=>by dsimp only[Fp]at h;exact h.2.less b
 |.f,w,v,F,a,h=>by obtain⟨e,p,vs,rfl,rfl,rfl,d,c⟩:=h;exact⟨p,vs,rfl,a p (FR.mpr rfl),.inl d,c.less b⟩
 |.o n g,w,v,F,a,h=>by obtain⟨C,l,e,p,vs,r,rfl,rfl,rfl,d,c,j,k⟩:=h;exact⟨p,l,vs,rfl,a p FK,d,c,j,jK.rep b g (λq i=>a q (FS _ i)) k⟩
 |.io _,w,v,F,a,h=>D5 h
theorem jK.rep(d:∀p,B p->A p):∀(ms:List Md){a:List W}{vs:List V}{F:List Addr},(∀p∈F,¬B p)->jK K A H ms a vs F->aj K B H a vs
 |[],_,_,_,_,h=>by obtain⟨rfl,rfl,_⟩:=h;exact .nil
 |m::ms,a,vs,F,c,h=>by obtain⟨w,i,v,e,k,j,rfl,rfl,rfl,g,f⟩:=h;exact .cons (Fp.rep d m (λp b=>c p (fe _ b)) g) (jK.rep d ms (λp b=>c p (Mo _ b)) f)
end
mutual
theorem Fp.mu:∀(m:Md){w:W}{v:V}{F:List Addr},Fp K A H m w v F->∀p∈F,∃o,H p=some o/\Ek o=true
 |.s,w,v,F,h,p,a=>by dsimp only[Fp]at h;rw[h.1]at a;cases a
 |.f,w,v,F,h,p,a=>by obtain⟨c,q,vs,_,_,rfl,b,_⟩:=h;rw[FR.mp a];exact⟨_,b,rfl⟩
 |.o g d,w,v,F,h,p,a=>by
  obtain⟨C,i,c,q,vs,j,_,_,rfl,b,_,_,e⟩:=h;rcases Hk.mp a with rfl|a
  .exact⟨_,b,rfl⟩
  .exact jK.mu d e p a
 |.io _,w,v,F,h,p,a=>D5 h
theorem jK.mu:∀(ms:List Md){b:List W}{vs:List V}{F:List Addr},jK K A H ms b vs F->∀p∈F,∃o,H p=some o/\Ek o=true
 |[],_,_,_,h,p,a=>by dsimp only[jK]at h;rw[h.2.2]at a;cases a
 |m::ms,b,vs,F,h,p,a=>by
  obtain⟨w,f,v,c,i,g,_,_,rfl,e,d⟩:=h;rcases Re.mp a with a|a
  .exact Fp.mu m e p a
  .exact jK.mu ms d p a
end
inductive mU where
 |fl (n:Nat) (x:Str)
noncomputable def dZ:W->List mU->Option W
 |w,[]=>some w
 |.obj _ _ l,.fl n _::π=>match l[n]? with
  |some u=>dZ u π
  |none=>none
 |_,_=>none
noncomputable def setAt:W->List mU->W->W
 |_,[],u=>u
 |.obj C a l,.fl n _::π,u=>match l[n]? with
  |some x=>.obj C a (l.set n (setAt x π u))
  |none=>.obj C a l
 |w,_,_=>w
noncomputable def oG:Md->List mU->Option Md
 |m,[]=>some m
 |.o a ms,.fl n x::π=>if a[n]?=some x then(match ms[n]? with
  |some m=>oG m π
  |none=>none)else none
 |_,_=>none
def Jh(K:Frag)(H:Hp):V->List mU->V->Prop
 |v,[],u=>u=v
 |v,.fl n f::π,u=>∃p vs x,v=.ref p/\(∃(C b:Addr)(a:List Str),H p=some (.ins C b (a.zip vs))/\vs.length=a.length/\zN K C a/\a[n]?=some f)/\vs[n]?=some x/\Jh K H x π u
theorem qE{α:Type}:∀{l:List α}{n:Nat}{x:α},l[n]?=some x->l.set n x=l
 |[],_,_,e=>by cases e
 |y::l,0,x,e=>by cases e;rfl
 |y::l,n+1,x,e=>by rw[eB,qE (by simpa using e)]
theorem jK.at:∀(ms:List Md){k:List W}{vs:List V}{F:List Addr}{n:Nat}{m:Md}{w:W},jK K A H ms k vs F->ms[n]?=some m->k[n]?=some w->
 ∃v d F' i,vs[n]?=some v/\F=d++F'++i/\Fp K A H m w v F'/\∀(H':Hp)(B:Addr->Prop) w' g j,Fp K B H' m w' g j->sE A (·∈d++i) H H'->(∀p o,H p=some o->B p->A p)->jK K B H' ms (k.set n w') (vs.set n g) (d++j++i)
 |[],_,_,_,n,m,w,_,e,_=>by cases e
 |m0::ms,k,vs,F,0,m,w,h,D,C=>by obtain⟨E,r,v,f,d,i,rfl,rfl,rfl,x,t⟩:=h;cases D;cases C;refine⟨v,[],d,i,rfl,by simp,x,λH' B w' g j y l q=>?_⟩;exact⟨w',r,g,f,j,i,rfl,rfl,by simp,y,jK.chg l q ms (λp s=>by simpa using s) t⟩
 |m0::ms,k,vs,F,n+1,m,w,h,D,C=>by obtain⟨E,r,v,f,d,i,rfl,rfl,rfl,x,t⟩:=h;obtain⟨u,J,O,I,N,rfl,M,L⟩:=jK.at ms t (n:=n) (by simpa using D) (by simpa using C);refine⟨u,d++J,O,I,by simpa using N,by simp,M,λH' B w' g j y l q=>?_⟩;refine⟨E,r.set n w',v,f.set n g,d,J++j++I,rfl,rfl,by simp,Fp.chg l q m0 (λp s=>by simp[s]) x,L H' B w' g j y (λp o e=>(l p o e).imp (λ⟨a,b,c⟩=>⟨a,b,λz=>c ?_⟩) id) q⟩;rcases Re.mp z with z|z<;>simp[z]
def Pth(K:Frag)(A:Addr->Prop)(H:Hp)(m:Md)(w:W)(v:V)(F:List Addr)(π:List mU)(e:Md)(w':W):Prop:=
 ∃b d f c,F=d++f++c/\Jh K H v π b/\Fp K A H e w' b f/\∀(H':Hp)(B:Addr->Prop) a g,Fp K B H' e a b g->sE A (·∈d++c) H H'->(∀p o,H p=some o->B p->A p)->Fp K B H' m (setAt w π a) v (d++g++c)
theorem Fp.path:∀(π:List mU)(m:Md){w:W}{v:V}{F:List Addr}{i:Md}{w':W},Fp K A H m w v F->oG m π=some i->dZ w π=some w'->Pth K A H m w v F π i w'
 |[],m,w,v,F,i,w',h,d,g=>by dsimp only[oG]at d;dsimp only[dZ]at g;cases d;cases g;refine⟨v,[],F,[],by simp,rfl,h,λH' B j u h' _ _=>?_⟩;dsimp only[setAt];simpa using h'
 |n::π,.s,w,v,F,i,w',h,d,g=>by cases n<;>exact nn d
 |n::π,.f,w,v,F,i,w',h,d,g=>by cases n<;>exact nn d
 |n::π,.io _,w,v,F,i,w',h,d,g=>by cases n<;>exact nn d
 |.fl n f::π,.o J ms,w,v,F,i,w',h,d,g=>by
  obtain⟨C,L,Q,p,vs,F0,rfl,rfl,rfl,I,D,k,h2⟩:=h;dsimp only[oG]at d;dsimp only[dZ]at g;by_cases q:J[n]?=some f;rotate_left
  .rw[BM q]at d;cases d
  rw[Bi q]at d;cases t:ms[n]? with
  |none=>rw[t]at d;exact nn d
  |some Z=>
   cases l:Q[n]? with
   |none=>rw[l]at g;exact nn g
   |some w1=>rw[t]at d;rw[l]at g;obtain⟨x,P,F',O,y,rfl,Y,X⟩:=jK.at ms h2 t l;obtain⟨R,N,G',M,rfl,U,T,S⟩:=Fp.path π Z Y d g;refine⟨R,p::P++N,G',M++O,by simp,⟨p,vs,x,rfl,⟨C,L,J,I,D,k,q⟩,y,U⟩,T,λH' B j u h' r E=>?_⟩;dsimp only[setAt];rw[l];dsimp only[Fp];have a:=X H' B _ x _ (S H' B j u h' (λp o e=>(r p o e).imp (by rintro⟨a,b,c⟩;exact⟨a,b,λz=>c (by rcases Re.mp z with z|z<;>simp[z])⟩) id) E) (λp o e=>(r p o e).imp (by rintro⟨a,b,c⟩;exact⟨a,b,λz=>c (by rcases Re.mp z with z|z<;>simp[z])⟩) id) E;rw[qE y]at a;refine⟨C,L,_,p,vs,P++(N++u++M)++O,rfl,rfl,by simp,r.un I (λ_=>by simp),D,k,a⟩
end
def dI(K:Frag)(A:Addr->Prop)(H H':Hp)(m:Md)(w:W)(v:V):Prop:=
 ∃F:List Addr,F.Nodup/\(∀p∈F,H p=none)/\Fp K (λq=>A q\/q∈F) H' m w v F
def Dom(A:Addr->Prop)(H:Hp):Prop:=∀p,A p->∃o,H p=some o
theorem Dom.no(d:Dom A H)(h:H p=none):¬A p:=λz=>by obtain⟨o,e⟩:=d p z;rw[h]at e;cases e
theorem Dom.same(d:Dom A H)(s:ay H H'):Dom A H':=λp z=>by obtain⟨o,e⟩:=d p z;exact⟨o,s _ _ e⟩
section
variable{K:Frag}{A B:Addr->Prop}{H H':Hp}{m:Md}{w:W}{v:V}
theorem dI.rep(d:Dom A H)(h:dI K A H H' m w v):Rep K A H' w v:=by obtain⟨F,c,a,h⟩:=h;exact Fp.rep (λp z=>.inl z) m (λp b=>d.no (a p b)) h
theorem dI.of(h:Rep K A H' w v):dI K A H H' .s w v:=⟨[],yB,by simp,by dsimp only[Fp];exact⟨rfl,h.less λp z=>by simpa using z⟩⟩
theorem dI.s(d:Dom A H)(h:dI K A H H' m w v):dI K A H H' .s w v:=.of (h.rep d)
theorem dI.new(b:H p=none)(d:H' p=some (.lst vs))(e:aj K A H' a vs)(c:aj K (λq=>A q\/q=p) H' a vs):dI K A H H' .f (.lst a) (.ref p):=
 ⟨[p],(by simp),(by simpa using b),by dsimp only[Fp];exact⟨a,p,vs,rfl,rfl,rfl,d,c.less λq z=>by simpa using z⟩⟩
theorem dI.fresh(s:ay H H1)(b:H1 p=none)(h:aj K A H1 a vs):dI K A H (upd H1 p (.lst vs)) .f (.lst a) (.ref p):=by
 have sm:=aQ b (.lst vs);refine .new (s.free b) aG (h.same sm) (aj.mv sm (λq o z y=>?_) a h);rcases y with y|y
 .exact y
 .rw[y,b]at z;cases z
theorem dI.Wf(h:dI K A H H' .f w v):∃a p vs,w=.lst a/\v=.ref p/\H p=none/\H' p=some (.lst vs)/\aj K (λq=>A q\/q=p) H' a vs:=by obtain⟨F,e,b,h⟩:=h;obtain⟨a,p,vs,rfl,rfl,rfl,d,c⟩:=h;exact⟨a,p,vs,rfl,rfl,b p (FR.mpr rfl),d,c.less λq z=>by simpa using z⟩
theorem dI.back(s:ay a H)(e:∀p,B p->A p)(h:dI K A H H' m w v):dI K B a H' m w v:=by obtain⟨F,c,b,h⟩:=h;exact⟨F,c,λp d=>s.free (b p d),Fp.mv (ay.refl _) (λp o _ z=>z.imp (e p) id) m h⟩
end
abbrev Ev:=List (Option W)
noncomputable def look:Ev->Nat->Option W
 |[],_=>none
 |x::_,0=>x
 |_::l,n+1=>look l n
theorem bI:∀{a:Ev}{i:Nat}{w:W},look a i=some w↔a[i]?=some (some w)
 |[],i,w=>by simp[look]
 |x::l,0,w=>by simp[look]
 |x::l,i+1,w=>by rw[look,bI];simp
abbrev Ms:=List (Nat×Md)
def aV(M:Ms)(i:Nat):Prop:=∃m,(i,m)∈M
structure Fz where
 ab:Addr->Prop
 B:Addr->Prop
 s0:Option V
abbrev FB(A:Fz)(M:Ms)(σ:St):Addr->Prop:=A.B
structure Ug(K:Frag)(M:Ms)(A:Fz)(H0:Hp)(σ:St)(H:Hp)(ε:Ev)(F:Nat->List Addr):Prop where
 un:∀i m m',(i,m)∈M->(i,m')∈M->m=m'
 val:∀i m w,(i,m)∈M->look ε i=some w->∃v,σ[i]?=some (some v)/\Fp K A.B H m w v (F i)
 emp:∀i,aV M i->look ε i=none->F i=[]
 nd:∀i,aV M i->(F i).Nodup
 ds:∀i j p,aV M i->aV M j->p∈F i->p∈F j->i=j
 nw:∀i p,aV M i->p∈F i->H0 p=none
 na:∀i p,aV M i->p∈F i->¬A.ab p
 all:∀p,A.B p↔A.ab p\/∃i,aV M i/\p∈F i
structure SR(K:Frag)(M:Ms)(A:Fz)(H0:Hp)(σ:St)(H:Hp)(ε:Ev):Prop where
 len:σ.length=ε.length
 sh:∀i w,¬aV M i->look ε i=some w->∃v,σ[i]?=some (some v)/\Rep K A.B H w v
 sm:ay H0 H
 dm:Dom A.ab H
 sl:∀v,A.s0=some v->σ[0]?=some (some v)/\aV M 0
 ow:∃F,Ug K M A H0 σ H ε F
theorem aX(h:i≠j):look (a.set i x) j=look a j:=by
 cases e:look a j with
 |none=>
  cases b:look (a.set i x) j with
  |none=>rfl
  |some w=>rw[bI,OF h,<-bI,e]at b;cases b
 |some w=>rw[bI,OF h,<-bI];exact e
theorem qF{a:Ev}(h:look (a.set i (some w)) i=some w'):w'=w:=by
 rw[bI,vk]at h;rw[Bi rfl]at h;split at h
 .cases h;rfl
 .cases h
theorem vB(h:look a i=some w):i<a.length:=by rw[bI]at h;exact(Gc.mp h).1
section
variable{K:Frag}{M M':Ms}{A:Fz}{H0 H H1:Hp}{σ:St}{ε:Ev}{F:Nat->List Addr}
theorem Ug.has(O:Ug K M A H0 σ H ε F)(c:aV M i)(a:p∈F i):∃o,H p=some o/\Ek o=true:=by
 cases b:look ε i with
 |none=>rw[O.emp i c b]at a;cases a
 |some w=>obtain⟨m,d⟩:=c;obtain⟨v,_,h⟩:=O.val i m w d b;exact Fp.mu m h p a
theorem SR.dom(S:SR K M A H0 σ H ε):Dom A.B H:=λp z=>by
 obtain⟨F,O⟩:=S.ow;rcases(O.all p).mp z with z|⟨i,b,a⟩
 .exact S.dm p z
 .obtain⟨o,e,_⟩:=O.has b a;exact⟨o,e⟩
theorem SR.sub'(S:SR K M A H0 σ H ε):∀p,A.ab p->A.B p:=λp z=>by obtain⟨F,O⟩:=S.ow;exact(O.all p).mpr (.inl z)
theorem SR.same(S:SR K M A H0 σ H ε)(s:ay H H1):SR K M A H0 σ H1 ε:=by
 obtain⟨F,O⟩:=S.ow;exact⟨S.len,λi w b e=>let⟨v,h1,h2⟩:=S.sh i w b e;⟨v,h1,h2.same s⟩,S.sm.trans s,S.dm.same s,S.sl,F,
  ⟨O.un,λi m w a e=>let⟨v,h1,h2⟩:=O.val i m w a e;⟨v,h1,Fp.mv s (λ_ _ _ z=>z) m h2⟩,O.emp,O.nd,O.ds,O.nw,O.na,O.all⟩⟩
theorem SR.sub(S:SR K M A H0 σ H ε)(h:∀x∈M',x∈M)(s:Option V)(hz:∀v,s=some v->A.s0=some v/\aV M' 0):∃r,r.ab=A.ab/\r.s0=s/\(∀p,r.B p->A.B p)/\SR K M' r H0 σ H ε:=by
 obtain⟨F,O⟩:=S.ow;have d:∀i,aV M' i->aV M i:=by rintro i ⟨m,f⟩;exact⟨m,h _ f⟩
 have q:∀p,(A.ab p\/∃i,aV M' i/\p∈F i)->A.B p:=λp z=>(O.all p).mpr (z.imp id<|by rintro⟨i,c,n⟩;exact⟨i,d i c,n⟩);refine⟨⟨A.ab,λp=>A.ab p\/∃i,aV M' i/\p∈F i,s⟩,rfl,rfl,q,S.len,λi w u e=>?_,S.sm,S.dm,λv e=>⟨(S.sl v (hz v e).1).1,(hz v e).2⟩,F,⟨λi m y a b=>O.un i m y (h _ a) (h _ b),λi m w f e=>?_,λi c=>O.emp i (d i c),λi c=>O.nd i (d i c),λi j p c o=>O.ds i j p (d i c) (d j o),λi p c=>O.nw i p (d i c),λi p c=>O.na i p (d i c),λp=>Iff.rfl⟩⟩
 .by_cases c:aV M i
  .have g:=c;obtain⟨m,f⟩:=c;obtain⟨v,l,k⟩:=O.val i m w f e;refine⟨v,l,Fp.rep q m (λp n z=>?_) k⟩;rcases z with z|⟨j,o,t⟩
   .exact O.na i p g n z
   .have:=O.ds i j p g (d j o) n t;subst this;exact u o
  .obtain⟨v,l,k⟩:=S.sh i w c e;exact⟨v,l,k.less q⟩
 .obtain⟨v,l,k⟩:=O.val i m w (h _ f) e;exact⟨v,l,Fp.mv (ay.refl _) (λp _ _ z=>q p z) m k⟩
theorem SR.go(S:SR K M A H0 σ H ε):SR K [] ⟨A.ab,A.ab,none⟩ H0 σ H ε:=by
 obtain⟨a,b,c,h,d⟩:=S.sub (M':=[]) (λx f=>by cases f) none (λv e=>by cases e);obtain⟨F,O⟩:=d.ow;have e:∀p,a.B p↔A.ab p:=λp=>by rw[O.all p,b];exact⟨λz=>z.elim id (by rintro⟨i,⟨m,g⟩,_⟩;cases g),.inl⟩
 have:a.B=A.ab:=funext λp=>propext (e p);have:a=⟨A.ab,A.ab,none⟩:=by
  cases a;simp only at b c this;rw[b,this,c]
 rw[<-this];exact d
theorem SR.set(S:SR K M A H0 σ H ε)(g:¬aV M i)(h:Rep K A.B H w v):SR K M A H0 (σ.set i (some v)) H (ε.set i (some w)):=by
 obtain⟨F,O⟩:=S.ow;refine⟨by rw[SB,SB];exact S.len,λj f d e=>?_,S.sm,S.dm,λu e=>?_,F,⟨O.un,λj m f k e=>?_,λj d e=>?_,O.nd,O.ds,O.nw,O.na,O.all⟩⟩
 .by_cases a:i=j
  .subst a;have l:i<σ.length:=by rw[S.len];have:=vB e;rwa [SB]at this
   have:=qF e;subst this;exact⟨v,W1 l,h⟩
  .rw[aX a]at e;obtain⟨u,c,b⟩:=S.sh j f d e;exact⟨u,by rw[OF a];exact c,b⟩
 .obtain⟨c,b⟩:=S.sl u e;exact⟨by rw[OF (by rintro rfl;exact g b)];exact c,b⟩
 .have a:i≠j:=by rintro rfl;exact g ⟨m,k⟩
  rw[aX a]at e;obtain⟨u,c,b⟩:=O.val j m f k e;exact⟨u,by rw[OF a];exact c,b⟩
 .have a:i≠j:=by rintro rfl;exact g d
  rw[aX a]at e;exact O.emp j d e
theorem SR.own(S:SR K M' A H0 σ H ε)(y:∀x,x∈M↔x=(i,m)\/x∈M')(Q:¬aV M' i)(s:ay H H1)(h:dI K A.B H H1 m w v):
 ∃N,N.ab=A.ab/\N.s0=A.s0/\(∀p o,H p=some o->N.B p->A.B p)/\SR K M N H0 (σ.set i (some v)) H1 (ε.set i (some w)):=by
 obtain⟨F,O⟩:=S.ow;obtain⟨G,nd,nw,L⟩:∃G:List Addr,G.Nodup/\(∀p∈G,H p=none)/\(i<ε.length->Fp K (λq=>A.B q\/q∈G) H1 m w v G)/\(ε.length<=i->G=[]):=by
  by_cases g:i<ε.length
  .obtain⟨G,nd,nw,L⟩:=h;exact⟨G,nd,nw,λ_=>L,λz=>by lia⟩
  .exact⟨[],yB,by simp,λz=>(g z).elim,λ_=>rfl⟩
 have f:∀j,aV M j↔j=i\/aV M' j:=λj=>by
  constructor
  .rintro⟨r,R⟩;rcases(y _).mp R with e|e
   .cases e;exact .inl rfl
   .exact .inr ⟨r,e⟩
  .rintro(rfl|⟨r,R⟩)
   .exact⟨m,(y _).mpr (.inl rfl)⟩
   .exact⟨r,(y _).mpr (.inr R)⟩
 have P:∀j,aV M' j->j≠i:=λj c e=>by subst e;exact Q c
 have E:∀j p,aV M' j->p∈F j->p∉G:=λj p c d z=>by obtain⟨o,e,_⟩:=O.has c d;rw[nw p z]at e;cases e
 have T:∀p o,H p=some o->(A.B p\/p∈G)->A.B p:=λp o e z=>by
  rcases z with z|z
  .exact z
  .rw[nw p z]at e;cases e
 refine⟨⟨A.ab,λp=>A.B p\/p∈G,A.s0⟩,rfl,rfl,T,by rw[SB,SB];exact S.len,λj J c e=>?_,S.sm.trans s,S.dm.same s,λu e=>?_,λj=>if j=i then G else F j,⟨λj Y X a b=>?_,λj r J c e=>?_,λj c e=>?_,λj c=>?_,λj k p c U a b=>?_,λj p c d=>?_,λj p c d=>?_,λp=>?_⟩⟩
 .have t:j≠i/\¬aV M' j:=⟨λz=>c ((f j).mpr (.inl z)),λz=>c ((f j).mpr (.inr z))⟩;rw[aX (dk t.1)]at e;obtain⟨u,I,D⟩:=S.sh j J t.2 e;exact⟨u,by rw[OF (dk t.1)];exact I,Rep.mv s T J D⟩
 .obtain⟨I,D⟩:=S.sl u e;exact⟨by rw[OF (dk (P 0 D))];exact I,(f 0).mpr (.inr D)⟩
 .rcases(y _).mp a with a|a
  .rcases(y _).mp b with b|b
   .cases a;cases b;rfl
   .cases a;exact(Q ⟨_,b⟩).elim
  .rcases(y _).mp b with b|b
   .cases b;exact(Q ⟨_,a⟩).elim
   .exact O.un j Y X a b
 .rcases(y _).mp c with a|a
  .cases a;have g:i<ε.length:=by have:=vB e;rwa [SB]at this
   have:=qF e;subst this;exact⟨v,W1 (by rw[S.len];exact g),by rw[Bi rfl];exact L.1 g⟩
  .have n:=P j ⟨r,a⟩;rw[aX (dk n)]at e;obtain⟨u,I,D⟩:=O.val j r J a e;exact⟨u,by rw[OF (dk n)];exact I,by rw[BM n];exact Fp.mv s T r D⟩
 .by_cases n:j=i
  .subst n;rw[Bi rfl];refine L.2 (du λg=>?_);have:look (ε.set j (some w)) j=some w:=by rw[bI];exact W1 g
   rw[this]at e;cases e
  .rw[aX (dk n)]at e;rw[BM n];exact O.emp j (((f j).mp c).resolve_left n) e
 .by_cases n:j=i
  .rw[Bi n];exact nd
  .rw[BM n];exact O.nd j (((f j).mp c).resolve_left n)
 .by_cases C:j=i
  .by_cases l:k=i
   .rw[C,l]
   .rw[Bi C]at a;rw[BM l]at b;exact(E k p (((f k).mp U).resolve_left l) b a).elim
  .by_cases l:k=i
   .rw[BM C]at a;rw[Bi l]at b;exact(E j p (((f j).mp c).resolve_left C) a b).elim
   .rw[BM C]at a;rw[BM l]at b;exact O.ds j k p (((f j).mp c).resolve_left C) (((f k).mp U).resolve_left l) a b
 .by_cases n:j=i
  .rw[Bi n]at d;exact S.sm.free (nw p d)
  .rw[BM n]at d;exact O.nw j p (((f j).mp c).resolve_left n) d
 .by_cases n:j=i
  .rw[Bi n]at d;exact S.dm.no (nw p d)
  .rw[BM n]at d;exact O.na j p (((f j).mp c).resolve_left n) d
 .constructor
  .rintro(z|z)
   .rcases(O.all p).mp z with z|⟨j,c,d⟩
    .exact .inl z
    .exact .inr ⟨j,(f j).mpr (.inr c),by rw[BM (P j c)];exact d⟩
   .exact .inr ⟨i,(f i).mpr (.inl rfl),by rw[Bi rfl];exact z⟩
  .rintro(z|⟨j,c,d⟩)
   .exact .inl ((O.all p).mpr (.inl z))
   .by_cases n:j=i
    .rw[Bi n]at d;exact .inr d
    .rw[BM n]at d;exact .inl ((O.all p).mpr (.inr ⟨j,((f j).mp c).resolve_left n,d⟩))
theorem Ug.chg(S:SR K M A H0 σ H ε)(O:Ug K M A H0 σ H ε F)(N:(i,m)∈M)(R:look ε i=some w)(Q:σ[i]?=some (some v))
 (x:∀p o,H p=some o->(Ek o=true/\p∈F i)\/H1 p=some o)(nd:F'.Nodup)(nw:∀p∈F',p∈F i\/H p=none)(h:Fp K (λp=>(A.B p/\p∉F i)\/p∈F') H1 m w' v F'):
 ∃s,s.ab=A.ab/\s.s0=A.s0/\(∀p,s.B p↔(A.B p/\p∉F i)\/p∈F')/\(∀p o,H p=some o->s.B p->A.B p)/\wY A.B H H1/\SR K M s H0 σ H1 (ε.set i (some w')):=by
 have f:aV M i:=⟨m,N⟩;have J:∀p,p∈F i->A.B p:=λp c=>(O.all p).mpr (.inr ⟨i,f,c⟩);have P:wY A.B H H1:=λp o e=>(x p o e).imp (λz=>⟨z.1,J p z.2⟩) id;have I:∀p o,H p=some o->((A.B p/\p∉F i)\/p∈F')->A.B p:=λp o e z=>by
  rcases z with z|z
  .exact z.1
  .rcases nw p z with z|z
   .exact J p z
   .rw[z]at e;cases e
 have C:∀j p,aV M j->j≠i->p∈F j->p∉F i/\p∉F':=λj p d n c=>by
  have a:p∉F i:=λz=>n (O.ds j i p d f c z);refine⟨a,λz=>?_⟩;rcases nw p z with z|z
  .exact a z
  .obtain⟨o,e,_⟩:=O.has d c;rw[z]at e;cases e
 refine⟨⟨A.ab,λp=>(A.B p/\p∉F i)\/p∈F',A.s0⟩,rfl,rfl,λ_=>Iff.rfl,I,P,by rw[SB];exact S.len,λj g d e=>?_,λp o e=>?_,λp z=>?_,S.sl,λj=>if j=i then F' else F j,⟨O.un,λj t g d e=>?_,λj d e=>?_,λj d=>?_,λj k p d L a b=>?_,λj p d c=>?_,λj p d c=>?_,λp=>?_⟩⟩
 .have n:i≠j:=by rintro rfl;exact d f
  rw[aX n]at e;obtain⟨u,E,D⟩:=S.sh j g d e;exact⟨u,E,Rep.chg P I g D⟩
 .rcases x p o (S.sm p o e)with⟨_,z⟩|z
  .rw[O.nw i p f z]at e;cases e
  .exact z
 .obtain⟨o,e⟩:=S.dm p z;rcases x p o e with⟨_,y⟩|y
  .exact(O.na i p f y z).elim
  .exact⟨o,y⟩
 .by_cases n:j=i
  .subst n;have T:=O.un j m t N d;subst T;have:=qF e;subst this;exact⟨v,Q,by rw[Bi rfl];exact h⟩
  .rw[aX (dk n)]at e;obtain⟨u,E,D⟩:=O.val j t g d e;refine⟨u,E,?_⟩;rw[BM n];refine Fp.chg (G:=λp=>p∈F j) (λp o e=>?_) I t (λp c=>c) D;rcases x p o e with⟨z,y⟩|z
   .exact .inl ⟨z,J p y,λq=>(C j p ⟨t,d⟩ n q).1 y⟩
   .exact .inr z
 .by_cases n:j=i
  .subst n;have:look (ε.set j (some w')) j=some w':=by rw[bI];exact W1 (vB R)
   rw[this]at e;cases e
  .rw[aX (dk n)]at e;rw[BM n];exact O.emp j d e
 .by_cases n:j=i
  .rw[Bi n];exact nd
  .rw[BM n];exact O.nd j d
 .by_cases r:j=i
  .by_cases l:k=i
   .rw[r,l]
   .rw[Bi r]at a;rw[BM l]at b;exact((C k p L l b).2 a).elim
  .by_cases l:k=i
   .rw[BM r]at a;rw[Bi l]at b;exact((C j p d r a).2 b).elim
   .rw[BM r]at a;rw[BM l]at b;exact O.ds j k p d L a b
 .by_cases n:j=i
  .rw[Bi n]at c;rcases nw p c with z|z
   .exact O.nw i p f z
   .exact S.sm.free z
  .rw[BM n]at c;exact O.nw j p d c
 .by_cases n:j=i
  .rw[Bi n]at c;rcases nw p c with z|z
   .exact O.na i p f z
   .exact S.dm.no z
  .rw[BM n]at c;exact O.na j p d c
 .constructor
  .rintro(⟨z,y⟩|z)
   .rcases(O.all p).mp z with z|⟨j,d,c⟩
    .exact .inl z
    .have n:j≠i:=by rintro rfl;exact y c
     exact .inr ⟨j,d,by rw[BM n];exact c⟩
   .exact .inr ⟨i,f,by rw[Bi rfl];exact z⟩
  .rintro(z|⟨j,d,c⟩)
   .exact .inl ⟨(O.all p).mpr (.inl z),λy=>O.na i p f y z⟩
   .by_cases n:j=i
    .rw[Bi n]at c;exact .inr c
    .rw[BM n]at c;exact .inl ⟨(O.all p).mpr (.inr ⟨j,d,c⟩),(C j p d n c).1⟩
end
end VL
namespace HT
open PySem PySem.Spec PyProof.Rows
section
open PySem.SeqAt
open PySem.AutoSeq1 (wpAny_loadPart')
open PySem.MeetsSeq PySem.MeetsSeq2 PySem.MeetsSeq3
end
section
variable{prog:Program}{w:World}{A:Around}{E:Value->Shared->Prop}{s:Shared}
end
end HT
namespace VL
open PySem PySem.Spec PySem.Calls PyProof.Rows
theorem ints_get:∀{vs:List Value}{ns:List Int},IntsAre vs ns->∀(j:Nat)(h:j<vs.length),∃t,vs[j]=.int (ns.getD j 0) t
 |_,_,.cons n t _,0,_=>⟨t,rfl⟩
 |_,_,.cons n t r,j+1,h=>by obtain⟨u,e⟩:=ints_get r j (by simpa using h);exact⟨u,by simpa using e⟩
theorem all_eq:∀(ns ms:List Int),ns.length=ms.length->(C0 ns.length).all (λj=>ns.getD j 0==ms.getD j 0)=decide (ns=ms)
 |[],[],_=>rfl
 |n::ns,m::ms,h=>by
  have ih:=all_eq ns ms (by simpa using h);rw[BL,xc,D2,List.all_map];have:((λj=>(n::ns).getD j 0==(m::ms).getD j 0)∘mz)=λj=>ns.getD j 0==ms.getD j 0:=by funext j;rfl
  rw[this,ih];show((n==m)&&decide (ns=ms))=_;by_cases e:n=m<;>by_cases a:ns=ms<;>simp[e,a]
 |[],_::_,h=>by simp at h
 |_::_,[],h=>by simp at h
theorem qG:∀{vs:List Value}{ns ms:List Int},IntsAre vs ns->IntsAre vs ms->ns=ms
 |_,_,_,.nil,.nil=>rfl
 |_,_,_,.cons n t r,.cons _ _ a=>by rw[qG r a]
section
variable{A:Around}{s:Shared}
theorem Gr(f:s.heap.IsList l items)(i:s.heap.IsList b a)(h:IntsAre items.toList ns)(g:IntsAre a.toList ms)(m:A.units<cLine):
 SeqAt.EqAt A s (.ref l) (.ref b) (decide (ns=ms)):=by
 have k:items.size=ns.length:=by rw[<-h.length];simp
 have v:a.size=ms.length:=by rw[<-g.length];simp
 by_cases e:l=b
 .subst e;obtain⟨o,w,_,n,x⟩:=f;obtain⟨B,c,_,C,d⟩:=i;rw[w]at c;cases c;rw[x]at d;cases d;rw[Fh (qG h g)];exact SeqAt.EqAt.same _
 .refine SeqAt.EqAt.of_refs e ?_;by_cases hz:items.size=a.size
  .have:=SeqAt.RcAt.lists (e:=λj=>ns.getD j 0==ms.getD j 0) f i hz m λj r p=>by obtain⟨t,z⟩:=ints_get h j (by simpa using r);obtain⟨u,y⟩:=ints_get g j (by simpa using p);rw[show items[j]=items.toList[j]'(by simpa using r) by simp,show a[j]=a.toList[j]'(by simpa using p) by simp,z,y];exact SeqAt.EqAt.int_int _ _ _ _
   rw[k,all_eq ns ms (by lia)]at this;exact this
  .rw[Hb (λq=>hz (by rw[k,v,q]))];exact SeqAt.RcAt.lists_lengths f i (by simpa using hz) m
end
end VL
namespace HT
open PySem PySem.Spec PyProof.Rows
def ZL(A:Around)(s:Shared)(x y:Value)(c:Bool):Prop:=∀(a:Program)(w:World)(E:Value->Shared->Prop)(Q:Value->Shared->Prop),Q (.bool c) s->wpAny (model a w) A (richCompare .Lt x y) Q E s
inductive Dp(A:Around)(s:Shared):List Value->List Value->Bool->Prop where
 |nn:Dp A s [] [] false
 |nc {y ys}:Dp A s [] (y::ys) true
 |cn {x xs}:Dp A s (x::xs) [] false
 |eq {x y xs ys c} (h:SeqAt.EqAt A s x y true) (r:Dp A s xs ys c):Dp A s (x::xs) (y::ys) c
 |ne {x y xs ys c} (h:SeqAt.EqAt A s x y false) (r:ZL A s x y c):Dp A s (x::xs) (y::ys) c
section
open PySem.SeqAt
open PySem.AutoSeq1 (wpAny_loadPart')
open PySem.MeetsSeq PySem.MeetsSeq2 PySem.MeetsSeq3
end
section
variable{prog:Program}{w:World}{A:Around}{E:Value->Shared->Prop}{s:Shared}
end
end HT
namespace L2
open PySem PySem.Spec PyProof.Rows
section
variable{κ:Type}[DecidableEq κ]
end
section
variable{P:Program}{w:World}{H:Hp}{h:Heap}{a:Addr}
end
section
variable{X:Cx}{pins:List (Addr×Obj)}{σ:St}{H:Hp}{s:Shared}{a:Addr}{y v:V}{u r:Value}{o:Option V}{A:Around}{E:Value->Shared->Prop}
end
section
variable{X:Cx}{pins:List (Addr×Obj)}{σ:St}{H:Hp}{s:Shared}{a:Addr}{kvs:List (Key×V)}{k:Key}{u:Value}{A:Around}{E:Value->Shared->Prop}
end
section
variable{X:Cx}{o i e value:Expr}{pos pos' tpos:Pos}{td ty tv:TE}
end
section
variable{X:Cx}{pos:Pos}
end
abbrev VV:List (V×V)->List (Value×Value)->Prop:=Paired λp q=>RelV p.1 q.1/\RelV p.2 q.2
structure M2(X:Cx)(o:Expr)(m:Str)(apos:Pos)(e f:Expr)(cpos:Pos):Prop where
 base:attributeBase o m X.env (eval o X.env)=eval o X.env
 few:((backTo cpos (starEach [e,f] X.env)).all (λx=>!x.1)&&(backToKw cpos (keywordEach [] X.env)).all (λx=>x.1.isSome)
  &&decide (([e,f]:List Expr).length+([]:List Keyword).length+(if([]:List Keyword).isEmpty then 0 else 1)<30))=true
 line:(apos.endLine==cpos.line)=true
 trees:backTo cpos (starEach [e,f] X.env)=[(false,eval e X.env),(false,eval f X.env)]
section
variable{X:Cx}{pins:List (Addr×Obj)}{σ:St}{H:Hp}{s:Shared}{a:Addr}{y d:V}{u r:Value}{o:Option V}{A:Around}{E:Value->Shared->Prop}
end
section
variable{X:Cx}{o e f:Expr}{apos cpos:Pos}{td ty tx:TE}
end
section
variable{X:Cx}{pins:List (Addr×Obj)}{σ:St}{H:Hp}{s:Shared}{a:Addr}{kvs:List (Key×V)}{A:Around}{E:Value->Shared->Prop}
end
section
variable{X:Cx}{pins:List (Addr×Obj)}{σ:St}{H:Hp}{s:Shared}{a:Addr}{y:V}{u:Value}{A:Around}{E:Value->Shared->Prop}
end
end L2
namespace L2
open PySem PySem.Spec PyProof.Rows PySem.W
variable{X:Cx}
noncomputable def tx(l:List Nat):Str:=⟨l.toArray⟩
section
variable{X:Cx}
end
end L2
set_option genSizeOf false
set_option genInjectivity false
namespace VL
open PySem PySem.Spec
open PyProof.Rows hiding St
open L2
inductive BI where
 |len|abs|max2|min2|list|El|int|Uh
 deriving DecidableEq
inductive CE where
 |var (i:Nat)|int (i:Int)|bl (b:Bool)|str (x:Str)|bV|Gu (n:String)|glob (g:Nat)
 |bin (op:Operator) (a b:CE)|neg (a:CE)|not (a:CE)
 |cmp (op:CmpOp) (a b:CE)
 |and (as:List CE)|or (as:List CE)|ite (c a b:CE)
 |tup (as:List CE)|lst (as:List CE)
 |ix (a i:CE)|sl (a lo hi:CE)
 |call (f:Nat) (as:List CE)|blt (b:BI) (as:List CE)|bits (a:CE)
 |comp (ts:List Nat) (one:Bool) (n:Nat) (it:CE) (c:CE) (e:CE)
 |j3 (as:List CE)|uu (a:CE)|rev (a:CE)
 |pop (i:Nat)
 |own (i:Nat) (π:List mU)|jL (i:Nat) (f:Nat) (as:List CE)|Em (i g f:Nat) (as:List CE)
 |BN (is:List Nat) (a:CE)|P7 (f:Nat) (a:CE) (as:List CE)
 |slt (a lo hi:CE)
 |Dq (a:CE) (g:Nat)|Ui (a:CE)
inductive CS where
 |set (i:Nat) (e:CE)|zO (ts:List Nat) (e:CE)|par (ts:List Nat) (es:List CE)
 |app (i:Nat) (e:CE)|put (i:Nat) (k e:CE)|iE (j:Nat) (e:CE)
 |ret (e:CE)|iff (c:CE) (a b:List CS)|Dr (c:CE) (b:List CS)
 |fr (ts:List Nat) (one:Bool) (it:CE) (b:List CS)
 |brk|raise (c:Nat) (e:CE)
 |Ds (i n:Nat) (e:CE)
 |Du (e:CE)|Wg (c:CE) (a b:List CS)|Uj (c:CE) (b:List CS)
 |NK (is:List Nat) (b:List CS)
 |Wh (ts:List Nat) (e:CE)
 |Uk (e:CE)|Ul (i:Nat) (e:CE) (b:List CS)
 |Wi (i g y:Nat) (e:CE)
def Wj:W->W->(W->Prop)->Prop
 |.int i,.int j,Q=>Q (.int (i+j))
 |.lst a,.lst b,Q=>a.length+b.length<=sizeLine/\Q (.lst (a++b))
 |.tup a,.tup b,Q=>a≠[]/\a.length+b.length<=sizeLine/\Q (.tup (a++b))
 |_,_,_=>False
def Wk:W->W->(W->Prop)->Prop
 |.int i,.int j,Q=>IntMulOk i j/\Q (.int (i*j))
 |.lst a,.int k,Q=> -(2^63)<=k/\k<2^63/\a.length*k.toNat<=sizeLine/\Q (.lst (AW k.toNat a).flatten)
 |_,_,_=>False
def Yl(C:Int->Int->Prop)(g:Int->Int->Int):W->W->(W->Prop)->Prop
 |.int i,.int j,Q=>C i j/\Q (.int (g i j))
 |_,_,_=>False
def Wm:W->W->(W->Prop)->Prop
 |.int i,.int j,Q=>Q (.int (i -j))
 |_,_,_=>False
def gM:Operator->W->W->(W->Prop)->Prop
 |.Add=>Wj
 |.Sub=>Wm
 |.Mult=>Wk
 |.FloorDiv=>Yl xw λi j=>i.fdiv j
 |.Mod=>Yl (λ_ j=>j≠0) λi j=>i.fmod j
 |.Pow=>Yl JC λi j=>i^j.toNat
 |_=>λ_ _ _=>False
noncomputable def oH:Nat->W->Bool
 |_,.int _=>true
 |_,.bV=>true
 |n+1,.lst l=>l.all (oH n)
 |n+1,.tup l=>l.all (oH n)
 |_,_=>false
noncomputable def Ji:Nat->W->Bool
 |_,.bl _=>true
 |_,.bV=>true
 |n+1,.lst l=>l.all (Ji n)
 |n+1,.tup l=>l.all (Ji n)
 |_,_=>false
def ZM(a:Bool):W->W->(W->Prop)->Prop
 |.int i,.int j,Q=>Q (.bl (if a then !decide (i=j)else decide (i=j)))
 |.bl i,.bl j,Q=>Q (.bl (if a then !decide (i=j)else decide (i=j)))
 |x,y,Q=>((oH 9 x=true/\oH 9 y=true)\/(Ji 9 x=true/\Ji 9 y=true)\/(oH 60 x=true/\oH 60 y=true))/\∀b:Bool,(b=true↔x=y)->Q (.bl (if a then !b else b))
def Gv(p:Int->Int->Bool):W->W->(W->Prop)->Prop
 |.int i,.int j,Q=>Q (.bl (p i j))
 |_,_,_=>False
def wLt:W->W->(W->Prop)->Prop
 |.int i,.int j,Q=>Q (.bl (decide (i<j)))
 |_,_,_=>False
def Wn:W->W->(W->Prop)->Prop
 |.lst a,.lst b,Q=>∃(ns:List Int)(l:List (List Int)),a=ns.map W.int/\b=l.map (λm=>W.lst (m.map W.int))/\Q (.bl (!decide (ns∈l)))
 |_,_,_=>False
def dS:CmpOp->W->W->(W->Prop)->Prop
 |.Eq=>ZM false
 |.NotEq=>ZM true
 |.Lt=>wLt
 |.LtE=>Gv λi j=>decide (i<=j)
 |.Gt=>Gv λi j=>decide (j<i)
 |.GtE=>Gv λi j=>decide (j<=i)
 |.NotIn=>Wn
 |_=>λ_ _ _=>False
def NL:CmpOp->W->W->(W->Prop)->Prop
 |.Lt=>Gv λi j=>decide (i<j)
 |o=>dS o
def NN:W->W->(W->Prop)->Prop
 |.lst l,.int i,Q=>∃w,lz l i=some w/\Q w
 |.tup l,.int i,Q=>∃w,lz l i=some w/\Q w
 |.jX ns,.int i,Q=>∃n,lz ns i=some n/\Q (.int n)
 |_,_,_=>False
noncomputable def kH(l:List W)(a b:Option Int):List W:=(l.drop (HT.dh l.length 0 a)).take (HT.dh l.length l.length b -HT.dh l.length 0 a)
noncomputable def iY:CE->Bool
 |.bV=>true
 |_=>false
def prI:W->(Option Int->Prop)->Prop
 |.int i,Q=>Q (some i)
 |_,_=>False
def En(c:CE)(y:W)(Q:Option Int->Prop):Prop:=cond (iY c) (Q none) (prI y Q)
def Ym:W->Option Int->Option Int->(W->Prop)->Prop
 |.lst l,a,b,Q=>Q (.lst (kH l a b))
 |.jX ns,a,b,Q=>Q (.lst (kH (ns.map W.int) a b))
 |_,_,_,_=>False
def P8:W->Option Int->Option Int->(W->Prop)->Prop
 |.tup l,a,b,Q=>¬(HT.dh l.length 0 a=0/\HT.dh l.length l.length b=l.length)/\Q (.tup (kH l a b))
 |_,_,_,_=>False
def KQ:W->W->(W->Prop)->Prop
 |.err C,.gi _ a ns,Q=>(C∈a/\Q (.bl true))\/(C∈ns/\Q (.bl false))
 |_,_,_=>False
def Wo:W->(W->Prop)->Prop
 |.err _,Q=>Q (.bl true)
 |_,_=>False
noncomputable def tyW:W->Option String
 |.int _=>some "int"
 |_=>none
noncomputable def Gw(a b:String):Bool:=a==b||(a=="bool"&&b=="int")
def sF:BI->List W->(W->Prop)->Prop
 |.len,[.lst l],Q=>Q (.int l.length)
 |.len,[.tup l],Q=>Q (.int l.length)
 |.len,[.jX ns],Q=>Q (.int ns.length)
 |.abs,[.int i],Q=>Q (.int (if i<0 then-i else i))
 |.max2,[.int i,.int j],Q=>Q (.int (if j>i then j else i))
 |.max2,[.lst l],Q=>∃ns:List Int,l=ns.map W.int/\ns≠[]/\∀m∈ns,(∀n∈ns,n<=m)->Q (.int m)
 |.min2,[.int i,.int j],Q=>Q (.int (if j<i then j else i))
 |.list,[.lst l],Q=>Q (.lst l)
 |.list,[.tup l],Q=>Q (.lst l)
 |.El,[w,.ty n],Q=>∃a,tyW w=some a/\Q (.bl (Gw a n))
 |.int,[.bl b],Q=>Q (.int (if b then 1 else 0))
 |.Uh,[.int i,.int j],Q=>(0<j/\j<1073741824)/\Q (.tup [.int (i/j),.int (i%j)])
 |_,_,_=>False
noncomputable def cI(a:Ev):List Nat->List W->Ev
 |i::c,w::b=>cI (a.set i (some w)) c b
 |_,_=>a
def wT(one:Bool)(a:List Nat)(w:W)(b:Ev)(Q:Ev->Prop):Prop:=
 match one,a,w with
 |true,[i],w=>Q (b.set i (some w))
 |false,a,.tup l=>l.length=a.length/\Q (cI b a l)
 |_,_,_=>False
noncomputable def iF(f:W->(Option W->Prop)->Prop):List W->List W->(List W->Prop)->Prop
 |[],acc,Q=>Q acc
 |w::a,acc,Q=>f w λr=>match r with
  |some y=>acc.length<sizeLine/\iF f a (acc++[y]) Q
  |none=>iF f a acc Q
def truth:W->(Bool->Prop)->Prop
 |.bl b,Q=>Q b
 |_,_=>False
def items:W->(List W->Prop)->Prop
 |.lst l,Q=>Q l
 |.tup l,Q=>Q l
 |_,_=>False
noncomputable def gO(a st:Int)(n:Nat):List W:=(C0 n).map λ(i:Nat)=>W.int (a+(i:Int)*st)
def vC:List W->(List W->Prop)->Prop
 |[.int j],Q=> -(2^62)<=j/\j<2^62/\Q (gO 0 1 j.toNat)
 |[.int i,.int j],Q=>(-(2^62)<=i/\i<2^62/\-(2^62)<=j/\j<2^62)/\Q (gO i 1 (j -i).toNat)
 |[.int i,.int j,.int k],Q=>∃n:Nat,(k≠0/\k.natAbs<1073741824/\Builtin.Range.small i j k=true/\Builtin.Range.rangeSize i j k=(n:Int))/\Q (gO i k n)
 |_,_=>False
noncomputable def gj(l:List W):List W:=List.zipWith (λ(i:Nat) w=>W.tup [.int i,w]) (C0 l.length) l
mutual
noncomputable def Jj:W->Bool
 |.bV=>true
 |.bl _=>true
 |.int _=>true
 |.str _=>true
 |.tup l=>Gx l
 |_=>false
noncomputable def Gx:List W->Bool
 |[]=>true
 |w::l=>Jj w&&Gx l
end
mutual
noncomputable def flat:Md->W->Bool
 |.s,w=>Jj w
 |.f,.lst l=>Gx l
 |_,_=>false
end
abbrev aY:=List W->(W->Prop)->(Addr->Prop)->Prop
noncomputable def P9:W->Bool
 |.bV|.bl _|.int _|.str _=>true
 |_=>false
section
variable(Φ:Nat->aY)(G:Nat->W)
mutual
def wE(R:Addr->Prop):CE->Ev->(W->Prop)->Prop
 |.var i,d,Q=>match look d i with
  |some w=>Q w
  |none=>False
 |.int i,_,Q=>Q (.int i)
 |.bl b,_,Q=>Q (.bl b)
 |.str x,_,Q=>Q (.str x)
 |.bV,_,Q=>Q .bV
 |.Gu n,_,Q=>Q (.ty n)
 |.glob g,_,Q=>Q (G g)
 |.bin op a b,d,Q=>wE R a d λx=>wE R b d λy=>gM op x y Q
 |.neg a,d,Q=>wE R a d λx=>match x with
  |.int i=>Q (.int (-i))
  |_=>False
 |.not a,d,Q=>wE R a d λx=>truth x λb=>Q (.bl (!b))
 |.cmp op a b,d,Q=>wE R a d λx=>wE R b d λy=>dS op x y Q
 |.and m,d,Q=>CF R m d Q
 |.or m,d,Q=>T4 R m d Q
 |.ite c a b,d,Q=>wE R c d λx=>truth x λk=>if k=true then wE R a d Q else wE R b d Q
 |.tup m,d,Q=>wA R m d λj=>j.length<=sizeLine/\Q (.tup j)
 |.lst m,d,Q=>wA R m d λj=>j.length<=sizeLine/\Q (.lst j)
 |.ix a i,d,Q=>wE R a d λx=>wE R i d λy=>NN x y Q
 |.sl a p q,d,Q=>wE R a d λx=>wE R p d λy=>En p y λl=>wE R q d λz=>En q z λh=>Ym x l h Q
 |.call f m,d,Q=>wA R m d λj=>Φ f j Q R
 |.blt b m,d,Q=>wA R m d λj=>sF b j Q
 |.bits a,d,Q=>wE R a d λx=>match x with
  |.int i=>Q (.int (Builtin.Int.intBits i:Nat))
  |_=>False
 |.comp s one n t c e,d,Q=>wE R t d λz=>items z λj=>iF (λw K=>wT one s w (AW n none++d) λo=>wE (λ_=>False) c o λx=>truth x λk=>if k=true then wE (λ_=>False) e o λy=>K (some y)else K none) j [] λl=>Q (.lst l)
 |.j3 m,d,Q=>wA R m d λj=>vC j λl=>Q (.lst l)
 |.uu a,d,Q=>wE R a d λx=>match x with
  |.lst l=>Q (.lst (gj l))
  |_=>False
 |.rev a,d,Q=>wE R a d λx=>match x with
  |.lst l=>Q (.lst l.reverse)
  |_=>False
 |.pop _,_,_=>False
 |.own i π,d,Q=>match look d i with
  |some w=>match dZ w π with
   |some u=>Q u
   |none=>False
  |none=>False
 |.jL _ _ _,_,_=>False
 |.BN _ a,d,Q=>wE R a d λw=>P9 w=true/\Q w
 |.Em _ _ _ _,_,_=>False
 |.P7 f a m,d,Q=>wE R a d λx=>wA R m d λj=>Φ f (x::j) (λr=>∃w y,r=.tup [w,y]/\Q w) R
 |.slt a p q,d,Q=>wE R a d λx=>wE R p d λy=>En p y λl=>wE R q d λz=>En q z λh=>P8 x l h Q
 |.Dq a g,d,Q=>wE R a d λx=>KQ x (G g) Q
 |.Ui a,d,Q=>wE R a d λx=>Wo x Q
def wA(R:Addr->Prop):List CE->Ev->(List W->Prop)->Prop
 |[],_,Q=>Q []
 |a::d,b,Q=>wE R a b λx=>wA R d b λc=>Q (x::c)
def CF(R:Addr->Prop):List CE->Ev->(W->Prop)->Prop
 |[],_,_=>False
 |a::d,c,Q=>match d with
  |[]=>wE R a c Q
  |b::bs=>wE R a c λx=>truth x λk=>if k=true then CF R (b::bs) c Q else Q (.bl false)
def T4(R:Addr->Prop):List CE->Ev->(W->Prop)->Prop
 |[],_,_=>False
 |a::d,c,Q=>match d with
  |[]=>wE R a c Q
  |b::bs=>wE R a c λx=>truth x λk=>if k=true then Q (.bl true)else T4 R (b::bs) c Q
end
def Wq(R:Addr->Prop):CE->Ev->(W->Prop)->Prop
 |.call f c,a,Q=>wA Φ G (λ_=>False) c a λb=>Φ f b Q R
 |_,_,_=>False
def wEc:W->(List Addr->Prop)->Prop
 |.gi _ a _,Q=>a≠[]/\Q a
 |_,_=>False
structure Dn where
 nx:Ev->Prop
 rt:W->Prop
 bk:Ev->Prop
 ct:Ev->Prop
 ex:Addr->Prop
mutual
def wP(R:Addr->Prop):CE->Ev->(W->Ev->Prop)->Prop
 |.pop i,c,Q=>match look c i with
  |some (.lst l)=>∃w,l[l.length -1]?=some w/\Q w (c.set i (some (.lst l.dropLast)))
  |_=>False
 |.jL i f h,c,Q=>match look c i with
  |some _=>Jq R h c λj d=>match look d i with
   |some n=>Φ f (n::j) (λr=>∃w y,r=.tup [w,y]/\Q w (d.set i (some y))) R
   |none=>False
  |none=>False
 |.Em i g f h,c,Q=>match look c i with
  |some (.obj C _ _)=>G g=.cls C/\Jq R h c λj d=>match look d i with
   |some n=>Φ f (n::j) (λr=>∃w y,r=.tup [w,y]/\Q w (d.set i (some y))) R
   |none=>False
  |_=>False
 |.bin op a b,c,Q=>wP R a c λx m=>wP R b m λy k=>gM op x y λz=>Q z k
 |.cmp op a b,c,Q=>wP R a c λx m=>wP R b m λy k=>dS op x y λz=>Q z k
 |.call f h,c,Q=>Jq R h c λj d=>Φ f j (λw=>Q w d) R
 |.blt b h,c,Q=>Jq R h c λj d=>sF b j λw=>Q w d
 |.ix a b,c,Q=>wP R a c λx m=>wP R b m λy k=>NN x y λz=>Q z k
 |.lst h,c,Q=>Jq R h c λj d=>j.length<=sizeLine/\Q (.lst j) d
 |.tup h,c,Q=>Jq R h c λj d=>j.length<=sizeLine/\Q (.tup j) d
 |.and h,c,Q=>AG R h c Q
 |.or h,c,Q=>Jr R h c Q
 |e,c,Q=>wE Φ G R e c λw=>Q w c
def Jq(R:Addr->Prop):List CE->Ev->(List W->Ev->Prop)->Prop
 |[],b,Q=>Q [] b
 |a::f,b,Q=>wP R a b λx e=>Jq R f e λc d=>Q (x::c) d
def AG(R:Addr->Prop):List CE->Ev->(W->Ev->Prop)->Prop
 |[],_,_=>False
 |a::e,d,Q=>match e with
  |[]=>wP R a d Q
  |b::bs=>wP R a d λx c=>truth x λk=>if k=true then AG R (b::bs) c Q else Q (.bl false) c
def Jr(R:Addr->Prop):List CE->Ev->(W->Ev->Prop)->Prop
 |[],_,_=>False
 |a::e,d,Q=>match e with
  |[]=>wP R a d Q
  |b::bs=>wP R a d λx c=>truth x λk=>if k=true then Q (.bl true) c else Jr R (b::bs) c Q
end
noncomputable def iG(b:W->Dn->Ev->Prop)(D:Dn):List W->Ev->Prop
 |[],a=>D.nx a
 |w::c,a=>b w {nx:=iG b D c,rt:=D.rt,bk:=D.nx,ct:=iG b D c,ex:=D.ex} a
def Wr(c:Ev->(Bool->Ev->Prop)->Prop)(b:Dn->Ev->Prop)(D:Dn)(d:Ev):Prop:=
 ∃J:Nat->Ev->Prop,(∃m,J m d)/\∀m d,J m d->c d λk f=>if k=true then∃N:Ev->Prop,(∀a,N a->∃e,e<m/\J e a)/\b {nx:=N,rt:=D.rt,bk:=D.nx,ct:=N,ex:=D.ex} f else D.nx f
def KR(c:Ev->(Bool->Prop)->Prop)(b:Dn->Ev->Prop)(D:Dn)(a:Ev):Prop:=
 ∃J:Nat->Ev->Prop,(∃m,J m a)/\∀m a,J m a->c a λk=>if k=true then∃N:Ev->Prop,(∀d,N d->∃e,e<m/\J e d)/\b {nx:=N,rt:=D.rt,bk:=D.nx,ct:=N,ex:=D.ex} a else D.nx a
mutual
def wS:CS->Dn->Ev->Prop
 |.set i e,D,d=>wE Φ G D.ex e d λw=>D.nx (d.set i (some w))
 |.zO h e,D,d=>wE Φ G D.ex e d λw=>match w with
  |.tup l=>l.length=h.length/\D.nx (cI d h l)
  |_=>False
 |.par h u,D,d=>wA Φ G D.ex u d λm=>m.length=h.length/\D.nx (cI d h m)
 |.app i e,D,d=>match look d i with
  |some (.lst l)=>wE Φ G D.ex e d λw=>l.length<sizeLine/\D.nx (d.set i (some (.lst (l++[w]))))
  |_=>False
 |.put i k e,D,d=>wE Φ G D.ex e d λw=>match look d i with
  |some (.lst l)=>wE Φ G D.ex k d λx=>match x with
   |.int j=>∃n,wV l.length j=some n/\D.nx (d.set i (some (.lst (l.set n w))))
   |_=>False
  |_=>False
 |.iE j e,D,d=>wP Φ G D.ex e d λw f=>D.nx (f.set j (some w))
 |.ret e,D,d=>wE Φ G D.ex e d D.rt
 |.iff c a b,D,d=>wE Φ G D.ex c d λx=>truth x λk=>if k=true then wSs a D d else wSs b D d
 |.Dr c b,D,d=>KR (λd Q=>wE Φ G D.ex c d λx=>truth x Q) (wSs b) D d
 |.fr h one s b,D,d=>wE Φ G D.ex s d λz=>items z λm=>iG (λw q f=>wT one h w f λp=>wSs b q p) D m d
 |.Ul i e b,D,d=>wP Φ G D.ex e d λx f=>vC [x] λm=>iG (λw q f=>wT true [i] w f λp=>wSs b q p) D m f
 |.brk,D,d=>D.bk d
 |.raise g e,D,d=>match G g with
  |.cls C=>wE Φ G D.ex e d λ_=>D.ex C
  |_=>False
 |.Ds i n e,D,d=>wE Φ G D.ex e d λw=>match look d i with
  |some (.obj C t m)=>n<m.length/\D.nx (d.set i (some (.obj C t (m.set n w))))
  |_=>False
 |.Du e,D,d=>wE Φ G D.ex e d λw=>match look d 0 with
  |some o=>D.rt (.tup [w,o])
  |none=>False
 |.Wg c a b,D,d=>wP Φ G D.ex c d λx f=>truth x λk=>if k=true then wSs a D f else wSs b D f
 |.Uj c b,D,d=>Wr (λd Q=>wP Φ G D.ex c d λx f=>truth x λk=>Q k f) (wSs b) D d
 |.Wh h e,D,d=>wP Φ G D.ex e d λw f=>match w with
  |.tup l=>l.length=h.length/\D.nx (cI f h l)
  |_=>False
 |.Uk e,D,d=>wP Φ G D.ex e d λw f=>match look f 0 with
  |some o=>D.rt (.tup [w,o])
  |none=>False
 |.Wi i g y e,D,d=>wEc (G g) λr=>Wq Φ G (λC=>C∈r/\D.nx ((d.set y (some (.err C))).set i none)) e d λ_=>D.nx d
 |.NK _ b,D,d=>wSs b {D with nx:=λ_=>False,bk:=λ_=>False,ct:=λ_=>False} d
def wSs:List CS->Dn->Ev->Prop
 |[],D,a=>D.nx a
 |s::c,D,a=>match c with
  |[]=>wS s D a
  |t::b=>wS s {D with nx:=wSs (t::b) D} a
end
end
def bw(K:Frag)(B:Addr->Prop)(H:Hp)(w:W)(v:V):Prop:=
 match w with
 |.lst l=>∃p a,v=.ref p/\Rz H p (.lst a)/\aj K B H l a
 |w=>Rep K B H w v
section
variable{K:Frag}{A B:Addr->Prop}{H H':Hp}{w:W}{v:V}
theorem Rep.b(h:Rep K B H w v):bw K B H w v:=by
 cases w with
 |lst l=>obtain⟨p,a,e,_,d,c⟩:=h;exact⟨p,a,e,d,c⟩
 |_=>exact h
theorem bw.same(s:ay H H')(h:bw K B H w v):bw K B H' w v:=by
 cases w with
 |lst l=>obtain⟨p,a,e,c,b⟩:=h;exact⟨p,a,e,VL.ay.rz s c,b.same s⟩
 |_=>exact Rep.same s h
theorem bw.lst{l:List W}(h:bw K B H (.lst l) v):∃p vs,v=.ref p/\Rz H p (.lst vs)/\aj K B H l vs:=h
theorem bw.ZN(h:bw K B H (.tup l) v):∃p vs,v=.ref p/\H p=some (.tup vs)/\aj K B H l vs:=by have h:Rep K B H (.tup l) v:=h;dsimp only[Rep]at h;exact h
theorem bw.tup{l:List W}(h:bw K B H (.tup l) v):∃p vs,v=.ref p/\mY K H p vs/\aj K B H l vs:=by have h:Rep K B H (.tup l) v:=h;obtain⟨p,vs,e,b,a⟩:=h;exact⟨p,vs,e,mY.of b,a⟩
theorem bw.int(h:bw K B H (.int i) v):v=.int i:=by have h:Rep K B H (.int i) v:=h;dsimp only[Rep]at h;exact h
theorem bw.bl(h:bw K B H (.bl i) v):v=.bl i:=by have h:Rep K B H (.bl i) v:=h;dsimp only[Rep]at h;exact h
theorem bw.str(h:bw K B H (.str i) v):v=.str i:=by have h:Rep K B H (.str i) v:=h;dsimp only[Rep]at h;exact h
theorem bw.bV(h:bw K B H .bV v):v=.bV:=by have h:Rep K B H .bV v:=h;dsimp only[Rep]at h;exact h
theorem bw.ty(h:bw K B H (.ty n) v):v=.ty n:=by have h:Rep K B H (.ty n) v:=h;dsimp only[Rep]at h;exact h
theorem gc(i:Int):Rep K B H (.int i) (.int i):=by dsimp only[Rep]
theorem BO(i:Bool):Rep K B H (.bl i) (.bl i):=by dsimp only[Rep]
theorem ZO(i:Str):Rep K B H (.str i) (.str i):=by dsimp only[Rep]
theorem Ws:Rep K B H .bV .bV:=by dsimp only[Rep]
theorem rTy(n:String):Rep K B H (.ty n) (.ty n):=by dsimp only[Rep]
theorem zP(b:H p=some (.tup vs))(a:aj K B H l vs):Rep K B H (.tup l) (.ref p):=by dsimp only[Rep];exact⟨p,vs,rfl,b,a⟩
end
abbrev KP:=W->Prop
def Cont(K:Frag)(B:Addr->Prop)(H:Hp)(m:Md)(P:KP)(Q:VK):Prop:=∀w v a,P w->ay H a->dI K B H a m w v->Q v a
theorem Cont.now{K:Frag}(c:Cont K B H .s P Q){v:V}(p:P w)(h:Rep K B H w v):Q v H:=c w v H p (ay.refl H) (.of h)
theorem Cont.s{K:Frag}(d:Dom B H)(c:Cont K B H .s P Q):Cont K B H m P Q:=λw v b p a h=>c w v b p a (h.s d)
def Jk(X:Cx)(f:Value->Value->Sem Value)(r:W->W->KP->Prop)(m:W->W->Md):Prop:=
 ∀(a:List (Addr×Obj))(s:Shared)(b:St)(H:Hp)(B:Addr->Prop)(x y:W)(d c:V)(v u:Value)(P:KP)(Q:VK),Inv X a b H s->Dom B H->RelV d v->RelV c u->bw X.K B H x d->bw X.K B H y c->r x y P->Cont X.K B H (m x y) P Q->
  wpAny (model X.prog X.w) X.A (f v u) (EP X a b Q) X.xe s
section
variable{X:Cx}
theorem KU:sd X (binaryOp .Add) (λx y H Q=>∃l b f d,x=.ref l/\y=.ref b/\Rd H l (.lst f)/\Rd H b (.lst d)/\f.length+d.length<=sizeLine/\∀p,H p=none->Q (.ref p) (upd H p (.lst (f++d)))):=by
 intro i s B H x y v u Q I k j h;obtain⟨l,b,f,d,rfl,rfl,o,t,hz,q⟩:=h;cases k;cases j;obtain⟨z,c,n,r,e⟩:=o.ok I.hok;obtain⟨C,a,D,g,A⟩:=t.ok I.hok;have E:=r.length;have m:=g.length;refine PySem.P.add_list e A ?_ (by rw[He,He];lia);have w:c.toArray++a.toArray=(c++a).toArray:=by simp
 rw[w];exact⟨.ref _,_,I.Vu (t':=s.toks) (r.append g) (by rw[KM];lia),rfl,q _ I.fresh⟩
theorem KW:sd X (binaryOp .Mult) (λx y H Q=>∃l k i,x=.ref l/\y=.int k/\Rd H l (.lst i)/\-(2^63)<=k/\k<2^63/\i.length*k.toNat<=sizeLine/\∀p,H p=none->Q (.ref p) (upd H p (.lst (AW k.toNat i).flatten))):=by
 intro w s M H x y v u Q I C B h;obtain⟨l,k,i,rfl,rfl,E,J,G,hz,q⟩:=h;cases C;obtain⟨t,rfl⟩:=B;obtain⟨z,b,n,r,e⟩:=E.ok I.hok;have D:=r.length;have d:b.toArray.size*k.toNat<=sizeLine:=by rw[He,<-D];exact hz
 have g:¬b.toArray.size*k.toNat>(2^63 -1)/8:=by
  have:(sizeLine:Nat)<=(2^63 -1)/8:=by decide
  lia
 have f:¬(!Builtin.List.listFitsIndex k)=true:=by rw[fitsIndex_both J G];exact Oy
 have L:¬Builtin.List.listTooLong (b.toArray.size*k.toNat)=true:=by rw[EZ d];exact Oy
 have c:eW (λo j=>o++j) #[] (AW (if b.toArray.isEmpty=true then 0 else k.toNat) b.toArray)=(AW k.toNat b).flatten.toArray:=by
  have K:∀m:Nat,eW (λo j=>o++j) #[] (AW m b.toArray)=(AW m b).flatten.toArray:=λm=>by have:=foldl_rep b m [];rw[Cv]at this;exact this
  rw[K];cases b with
  |nil=>simp
  |cons a N=>rw[BM (by simp)]
 refine wpAny_binaryOp_repeat_ref (T:="list") (U:="int") (by decide) ⟨_,e,rfl⟩ (λA=>typeIs_int A k t) noFill_list_mul F.fills_int_mul F.slot_int_rmul repeat_list F.slot_int_index.lookup
  (call_meets F.slot_int_rmul (typeIs_int s k t) F.entry_int_rmul (F.args_int_rmul_2 _ _) (int___rmul___int_list k t l b.toArray n)
    ⟨e,rfl,⟨_,e,rfl⟩,call_meets F.slot_list_mul ⟨_,e,rfl⟩ F.entry_list_mul (F.args_list_mul_2 _ _) (AutoListH.list___mul___list_int_3 l b.toArray n k t f g L) ⟨e,?_⟩⟩)
 rw[c];exact⟨.ref _,_,I.Vu (t':=s.toks) (r.rep k.toNat) (by rw[len_rep,bb];exact hz),rfl,q _ I.fresh⟩
noncomputable def KY:W->W->Md
 |.lst _,_=>.f
 |_,_=>.s
theorem Qa:Jk X (binaryOp .Add) Wj KY:=by
 intro f s o H B x y M L v u P Q I d A w E D h c;cases x with
 |int i=>
  cases y with
  |int j=>
   cases E.int;cases D.int;exact OT f s o H _ _ v u Q I A w ⟨i,j,rfl,rfl,c.now h (gc _)⟩
  |_=>exact h.elim
 |lst a=>
  cases y with
  |lst b=>obtain⟨p,n,rfl,J,g⟩:=E.lst;obtain⟨q,t,rfl,C,k⟩:=D.lst;obtain⟨G,h⟩:=h;refine KU f s o H _ _ v u Q I A w ⟨p,q,n,t,rfl,rfl,J.rd,C.rd,by rw[g.len,k.len];exact G,λr l=>?_⟩;exact c _ _ _ h (aQ l _) (.fresh (ay.refl H) l (g.app k))
  |_=>exact h.elim
 |tup a=>
  cases y with
  |tup b=>
   obtain⟨p,n,rfl,m,g⟩:=E.ZN;have J:mY X.K H p n:=mY.of m;obtain⟨q,t,rfl,C,k⟩:=D.tup;obtain⟨F,G,h⟩:=h;refine JL f s o H _ _ v u Q I A w ⟨p,q,n,t,rfl,rfl,J,C,λz=>F ?_,by rw[g.len,k.len];exact G,λz=>?_,λ_ r l=>?_⟩
   .have:=g.len;rw[z]at this;exact PH.mp this.symm
   .have:=k.len;rw[z]at this;have e:b=[]:=PH.mp this.symm;subst e;rw[eM]at h;exact c.now h (zP m g)
   .exact c _ _ _ h (aQ l _) (.of (zP aG ((g.app k).same (aQ l _))))
  |_=>exact h.elim
 |_=>exact h.elim
theorem Qc:Jk X (binaryOp .Mult) Wk KY:=by
 intro b s e H B x y D C v u P Q I d g f m l h c;cases x with
 |int i=>
  cases y with
  |int j=>
   cases m.int;cases l.int;exact JR b s e H _ _ v u Q I g f ⟨i,j,rfl,rfl,h.1,c.now h.2 (gc _)⟩
  |_=>exact h.elim
 |lst a=>
  cases y with
  |int k=>obtain⟨p,q,rfl,A,o⟩:=m.lst;cases l.int;obtain⟨w,t,z,h⟩:=h;refine KW b s e H _ _ v u Q I g f ⟨p,k,q,rfl,rfl,A.rd,w,t,by rw[o.len];exact z,λr n=>?_⟩;exact c _ _ _ h (aQ n _) (.fresh (ay.refl H) n (o.rep _))
  |_=>exact h.elim
 |_=>exact h.elim
noncomputable def mS:W->W->Md:=λ_ _=>.s
theorem Qd:Jk X (binaryOp .Sub) Wm mS:=by
 intro a s b H B x y m l v u P Q I d f e k g h c;cases x with
 |int i=>
  cases y with
  |int j=>
   cases k.int;cases g.int;exact OU a s b H _ _ v u Q I f e ⟨i,j,rfl,rfl,c.now h (gc _)⟩
  |_=>exact h.elim
 |_=>exact h.elim
theorem Gy(n:sd X f (rI C λi j=>.int (g i j))):Jk X f (Yl C g) mS:=by
 intro a s b H B x y p o v u P Q I d k e m l h c;cases x with
 |int i=>
  cases y with
  |int j=>
   cases m.int;cases l.int;exact n a s b H _ _ v u Q I k e ⟨i,j,rfl,rfl,h.1,c.now h.2 (gc _)⟩
  |_=>exact h.elim
 |_=>exact h.elim
noncomputable def KZ:Operator->W->W->Md
 |.Add=>KY
 |.Mult=>KY
 |_=>mS
theorem zQ(op:Operator):Jk X (binaryOp op) (gM op) (KZ op):=by
 cases op with
 |Add=>exact Qa
 |Sub=>exact Qd
 |Mult=>exact Qc
 |FloorDiv=>exact Gy E6
 |Mod=>exact Gy JD
 |Pow=>exact Gy OV
 |_=>exact λa s b H B x y f e v u P Q I d i g k j h c=>h.elim
theorem vD(m:sd X f (JA λi j=>.bl (p i j))):Jk X f (Gv p) mS:=by
 intro a s b H B x y o n v u P Q I d g e l k h c;cases x with
 |int i=>
  cases y with
  |int j=>
   cases l.int;cases k.int;exact m a s b H _ _ v u Q I g e ⟨i,j,rfl,rfl,c.now h (BO _)⟩
  |_=>exact h.elim
 |_=>exact h.elim
end
mutual
noncomputable def toD:W->PyData
 |.bV=>.none
 |.bl b=>.bool b
 |.int i=>.int i
 |.lst l=>.list (toDL l)
 |.tup l=>.tuple (toDL l)
 |_=>.none
noncomputable def toDL:List W->List PyData
 |[]=>[]
 |w::l=>toD w::toDL l
end
mutual
noncomputable def zS:W->Bool
 |.bV=>true
 |.bl _=>true
 |.int _=>true
 |.lst l=>sG l
 |.tup l=>sG l
 |_=>false
noncomputable def sG:List W->Bool
 |[]=>true
 |w::l=>zS w&&sG l
end
section
variable{X:Cx}{B:Addr->Prop}{H:Hp}
mutual
theorem Wu(w:W)(d:zS w=true)(h:Rep X.K B H w v):Dt X H v (toD w):=by
 cases w with
 |bV=>obtain rfl:=h;exact Pj
 |bl b=>obtain rfl:=h;exact VG b
 |int i=>obtain rfl:=h;exact Ph i
 |lst l=>obtain⟨p,e,rfl,_,c,a⟩:=h;exact Fl (.inl c.rd) (BP l d a)
 |tup l=>obtain⟨p,e,rfl,c,a⟩:=h;exact Pk (mY.of c) (BP l d a)
 |_=>exact ff d
theorem BP:∀(l:List W){vs:List V},sG l=true->aj X.K B H l vs->Paired (Dt X H) vs (toDL l)
 |[],vs,_,h=>by rw[h.nil_inv];exact .nil
 |w::l,vs,d,h=>by obtain⟨v,r,rfl,b,a⟩:=h.cons_inv;have d:=P3.mp d;exact .cons (Wu w d.1 b) (BP l d.2 a)
end
theorem K1(d:zS w=true)(h:bw X.K B H w v):Dt X H v (toD w):=by
 cases w with
 |lst l=>obtain⟨p,c,rfl,b,a⟩:=h.lst;exact Fl (.inl b.rd) (BP l d a)
 |_=>exact Wu (B:=B) _ d h
end
mutual
theorem toD_lay(w:W)(d:zS w=true):(toD w).canLay0=true:=by
 cases w with
 |lst l=>exact toDL_lay l d
 |tup l=>exact toDL_lay l d
 |_=>rfl
theorem toDL_lay:∀l:List W,sG l=true->PyData.canLayAll0 (toDL l)=true
 |[],_=>rfl
 |w::l,d=>by have d:=P3.mp d;exact P3.mpr ⟨toD_lay w d.1,toDL_lay l d.2⟩
end
mutual
theorem toD_inj(x y:W)(d:zS x=true)(e:zS y=true)(h:same (toD x) (toD y)=true):x=y:=by
 cases x<;>first|exact ff d|(cases y<;>first|rfl|exact ff e|exact ff h|exact Q1 _ (eq_of_beq h)|exact Q1 _ (toDL_inj _ _ d e h))
theorem toDL_inj:∀x y:List W,sG x=true->sG y=true->sameAll (toDL x) (toDL y)=true->x=y
 |[],[],_,_,_=>rfl
 |[],_::_,_,_,h=>ff h
 |_::_,[],_,_,h=>ff h
 |x::b,y::a,d,e,h=>by have d:=P3.mp d;have e:=P3.mp e;have h:=P3.mp h;rw[toD_inj x y d.1 e.1 h.1,toDL_inj b a d.2 e.2 h.2]
end
mutual
theorem toD_refl(x:W)(d:zS x=true):same (toD x) (toD x)=true:=by
 cases x<;>first|rfl|exact ff d|exact ox _|exact toDL_refl _ d
theorem toDL_refl:∀x:List W,sG x=true->sameAll (toDL x) (toDL x)=true
 |[],_=>rfl
 |x::a,d=>by have d:=P3.mp d;exact P3.mpr ⟨toD_refl x d.1,toDL_refl a d.2⟩
end
theorem toD_same(x y:W)(d:zS x=true)(e:zS y=true):same (toD x) (toD y)=true↔x=y:=⟨toD_inj x y d e,by rintro rfl;exact toD_refl x d⟩
theorem toDL_map:∀l:List W,toDL l=l.map toD
 |[]=>rfl
 |w::l=>Q1 (toD w::·) (toDL_map l)
theorem xX:∀l:List W,sG l=l.all zS
 |[]=>rfl
 |w::l=>Q1 (zS w&&·) (xX l)
theorem zT(n:Nat)(w:W)(h:oH n w=true\/Ji n w=true):zS w=true/\(toD w).depth<=n+1:=by
 have go:∀m l,n=m+1->(l.all (oH m)=true\/l.all (Ji m)=true)->sG l=true/\∀x∈toDL l,x.depth<=m+1:=λm l hm h=>by have h1:∀w∈l,zS w=true/\(toD w).depth<=m+1:=λw hw=>zT m w (h.imp (λh=>T1.mp h w hw) λh=>T1.mp h w hw);refine⟨(xX l).trans (T1.mpr λw hw=>(h1 w hw).1),λx hx=>?_⟩;rw[toDL_map]at hx;obtain⟨w,hw,rfl⟩:=Pm.mp hx;exact(h1 w hw).2
 cases w with
 |bV=>exact⟨rfl,PQ _⟩
 |bl b=>exact⟨rfl,PQ _⟩
 |int b=>exact⟨rfl,PQ _⟩
 |lst l=>
  cases n with
  |zero=>exact h.elim ff ff
  |succ m=>exact(go m l rfl h).imp id λz=>Uc (xD z)
 |tup l=>
  cases n with
  |zero=>exact h.elim ff ff
  |succ m=>exact(go m l rfl h).imp id λz=>Uc (xD z)
 |_=>cases n<;>exact h.elim ff ff
termination_by n
decreasing_by omega
inductive zU(b:Bool):PyData->Prop where
 |none:zU b .none
 |bool (x:Bool) (h:b=true):zU b (.bool x)
 |int (x:Int) (h:b=false):zU b (.int x)
 |list {l:List PyData} (h:∀x∈l,zU b x):zU b (.list l)
 |tuple {l:List PyData} (h:∀x∈l,zU b x):zU b (.tuple l)
mutual
theorem pD(d e:PyData)(h:zU b d)(k:zU b e):SeqAt.noMix d e=true:=by
 cases d<;>cases e<;>first
  |(simp[SeqAt.noMix];done)
  |(cases h;done)
  |(cases h with|list h=>cases k with|list k=>rw[SeqAt.noMix];exact qH _ _ h k)
  |(cases h with|tuple h=>cases k with|tuple k=>rw[SeqAt.noMix];exact qH _ _ h k)
  |(cases h with|bool _ h=>cases k with|int _ k=>rw[h]at k;cases k)
  |(cases h with|int _ h=>cases k with|bool _ k=>rw[h]at k;exact ff k)
theorem qH:∀c a:List PyData,(∀x∈c,zU b x)->(∀y∈a,zU b y)->SeqAt.noMixAll c a=true
 |[],[],_,_=>by simp[SeqAt.noMixAll]
 |[],_::_,_,_=>by simp[SeqAt.noMixAll]
 |_::_,[],_,_=>by simp[SeqAt.noMixAll]
 |x::c,y::a,h,k=>by rw[SeqAt.noMixAll,pD x y (h x FK) (k y FK),qH c a (λz hz=>h z (FS _ hz)) λz hz=>k z (FS _ hz)];rfl
end
theorem qJ(n:Nat)(w:W)(h:oH n w=true):zU false (toD w):=by
 have go:∀m l,n=m+1->l.all (oH m)=true->∀x∈toDL l,zU false x:=λm l hm h x hx=>by rw[toDL_map]at hx;obtain⟨w,hw,rfl⟩:=Pm.mp hx;exact qJ m w (T1.mp h w hw)
 cases w with
 |bV=>exact .none
 |int i=>exact .int i rfl
 |lst l=>
  cases n with
  |zero=>exact ff h
  |succ m=>exact .list (go m l rfl h)
 |tup l=>
  cases n with
  |zero=>exact ff h
  |succ m=>exact .tuple (go m l rfl h)
 |_=>cases n<;>exact ff h
termination_by n
decreasing_by omega
theorem zV(n:Nat)(w:W)(h:Ji n w=true):zU true (toD w):=by
 have go:∀m l,n=m+1->l.all (Ji m)=true->∀x∈toDL l,zU true x:=λm l hm h x hx=>by rw[toDL_map]at hx;obtain⟨w,hw,rfl⟩:=Pm.mp hx;exact zV m w (T1.mp h w hw)
 cases w with
 |bV=>exact .none
 |bl i=>exact .bool i rfl
 |lst l=>
  cases n with
  |zero=>exact ff h
  |succ m=>exact .list (go m l rfl h)
 |tup l=>
  cases n with
  |zero=>exact ff h
  |succ m=>exact .tuple (go m l rfl h)
 |_=>cases n<;>exact ff h
termination_by n
decreasing_by omega
section
variable{X:Cx}
theorem zW(E:X.A.units+64<cLine)(j:Bool){i:St}{m l:V}{v u:Value}{P:KP}{Q:VK}(I:Inv X a i H s)(r:RelV m v)(p:RelV l u)(D:bw X.K B H x m)(C:bw X.K B H y l)
 (h:((oH 9 x=true/\oH 9 y=true)\/(Ji 9 x=true/\Ji 9 y=true)\/(oH 60 x=true/\oH 60 y=true))/\∀b:Bool,(b=true↔x=y)->P (.bl (if j then !b else b)))(c:Cont X.K B H .s P Q):
 wpAny (model X.prog X.w) X.A (compareOp (if j then .NotEq else .Eq) v u) (EP X a i Q) X.xe s:=by
 obtain⟨k,h⟩:=h;have g:zS x=true/\(toD x).depth<=61:=by
  rcases k with h|h|h
  .exact(zT 9 x (.inl h.1)).imp id λz=>Do z (by decide)
  .exact(zT 9 x (.inr h.1)).imp id λz=>Do z (by decide)
  .exact zT 60 x (.inl h.1)
 have f:zS y=true/\(toD y).depth<=61:=by
  rcases k with h|h|h
  .exact(zT 9 y (.inl h.2)).imp id λz=>Do z (by decide)
  .exact(zT 9 y (.inr h.2)).imp id λz=>Do z (by decide)
  .exact zT 60 y (.inl h.2)
 have o:SeqAt.shaped (toD x)=true:=by unfold SeqAt.shaped;rw[toD_lay x g.1,Fh (Do g.2 (by decide))];rfl
 have n:SeqAt.shaped (toD y)=true:=by unfold SeqAt.shaped;rw[toD_lay y f.1,Fh (Do f.2 (by decide))];rfl
 have t:SeqAt.noMix (toD x) (toD y)=true:=by
  rcases k with⟨e,d⟩|⟨e,d⟩|⟨e,d⟩
  .exact pD _ _ (qJ 9 x e) (qJ 9 y d)
  .exact pD _ _ (zV 9 x e) (zV 9 y d)
  .exact pD _ _ (qJ 60 x e) (qJ 60 y d)
 have q:=h (same (toD x) (toD y)) (toD_same x y g.1 f.1);cases j with
 |true=>exact Po E a s i H _ _ v u Q I r p ⟨_,_,K1 g.1 D,K1 f.1 C,⟨o,n,t⟩,c.now q (BO _)⟩
 |false=>exact Pn E a s i H _ _ v u Q I r p ⟨_,_,K1 g.1 D,K1 f.1 C,⟨o,n,t⟩,c.now q (BO _)⟩
theorem NO(p:X.A.units+64<cLine)(f:Bool):Jk X (compareOp (if f then .NotEq else .Eq)) (ZM f) mS:=by
 intro e s o H B x y E D v u P Q I d l g n m h c;have sc:∀a b:V,OX a b=true->(∀k:Bool,k=decide (a=b)->Q (.bl (if f then !k else k)) H)->RelV a v->RelV b u->wpAny (model X.prog X.w) X.A (compareOp (if f then .NotEq else .Eq) v u) (EP X e o Q) X.xe s:=λa b C q z t=>by
  cases f with
  |true=>exact Vb e s o H _ _ v u Q I z t ⟨C,q _ rfl⟩
  |false=>exact Va e s o H _ _ v u Q I z t ⟨C,q _ rfl⟩
 cases x with
 |int i=>
  cases y with
  |int j=>
   cases n.int;cases m.int;refine sc _ _ rfl (λk r=>c.now (w:=.bl (if f then !k else k)) ?_ (BO _)) l g;rw[r,show decide (V.int i=V.int j)=decide (i=j)from by simp];exact h
  |_=>exact zW p f I l g n m h c
 |bl i=>
  cases y with
  |bl j=>
   cases n.bl;cases m.bl;refine sc _ _ rfl (λk r=>c.now (w:=.bl (if f then !k else k)) ?_ (BO _)) l g;rw[r,show decide (V.bl i=V.bl j)=decide (i=j)from by simp];exact h
  |_=>exact zW p f I l g n m h c
 |_=>exact zW p f I l g n m h c
theorem qK{K:Frag}:∀{l:List Int}{vs:List V},aj K A H (l.map W.int) vs->vs=l.map V.int
 |[],_,h=>h.nil_inv
 |i::l,vs,h=>by obtain⟨x,r,rfl,b,a⟩:=h.cons_inv;rw[qK a];have:x=.int i:=b;rw[this];rfl
theorem Wv(n:X.A.units+64<cLine):Jk X (compareOp .Lt) wLt mS:=by
 intro a s b H B x y f e v u P Q I d k g m l h c;cases x with
 |int i=>
  cases y with
  |int j=>exact vD (p:=λi j=>decide (i<j)) Vd a s b H B (.int i) (.int j) f e v u P Q I d k g m l h c
  |_=>exact h.elim
 |_=>exact h.elim
theorem xY{j:St}(I:Inv X a j H s):∀{l:List (List Int)}{vs:List V}{us:List Value},aj X.K B H (l.map λm=>W.lst (m.map W.int)) vs->Vals vs us->∃F:List Value->Prop,∀ns:List Int,∀e:Value->Bool,(∀(q:Addr)(items:Array Value)(ms:List Int),s.heap.IsList q items->IntsAre items.toList ms->e (.ref q)=decide (ms=ns))->(us.any e=decide (ns∈l))/\∀u∈us,∃q items ms,u=.ref q/\s.heap.IsList q items/\IntsAre items.toList ms
 |[],vs,us,h,r=>by obtain rfl:=h.nil_inv;cases r;exact⟨λ_=>True,λns e _=>⟨rfl,λu c=>by cases c⟩⟩
 |m::l,vs,us,h,r=>by
  obtain⟨v,J,rfl,E,D⟩:=h.cons_inv;cases r with
  |cons n o=>
  obtain⟨_,w⟩:=xY I D o;obtain⟨p,k,rfl,_,i,C⟩:=E;rw[qK C]at i;obtain⟨b,t,d,_⟩:=I.list (.inl i.rd);cases n;refine⟨λ_=>True,λns e g=>?_⟩;obtain⟨A,x⟩:=w ns e g;have f:=intsAre_of t;have G:=g p b.toArray m d.isList f;refine⟨?_,λu c=>?_⟩
  .rw[List.any_cons,G,A];by_cases q:m=ns
   .rw[Fh q,Fh (show ns∈m::l by rw[q];exact FK)];rfl
   .rw[Hb q,Bool.false_or];exact decide_eq_decide.mpr ⟨FS _,λz=>(Hk.mp z).resolve_left λy=>q y.symm⟩
  .rcases Hk.mp c with rfl|c
   .exact⟨p,b.toArray,m,rfl,d.isList,f⟩
   .exact x u c
open Classical in
theorem Qe(hu:X.A.units+64<cLine):Jk X (compareOp .NotIn) Wn mS:=by
 intro C s σ H B x y vx vy v u P Q I d N M Z Y h c;cases x<;>try exact h.elim
 cases y<;>try exact h.elim
 obtain⟨t,l,rfl,rfl,h⟩:=h;obtain⟨p,vs,rfl,E,h2⟩:=Z.lst;obtain⟨p',K,rfl,h3,h4⟩:=Y.lst;rw[qK h2]at E;obtain⟨U,r,R,_⟩:=I.list (.inl E.rd);obtain⟨a,O,Yn,_⟩:=I.list (.inl h3.rd);cases N;cases M;have hi:=intsAre_of r;have L:X.A.in1.units<cLine:=by show X.A.units+1<_;lia
 let e:Value->Bool:=λw=>decide (∃q items,w=.ref q/\s.heap.IsList q items/\IntsAre items.toList t)
 have D:∀(q:Addr)(items:Array Value)(b:List Int),s.heap.IsList q items->IntsAre items.toList b->e (.ref q)=decide (b=t):=λq items b j i=>by refine decide_eq_decide.mpr ⟨λ⟨q2,m,J,G,F⟩=>?_,λz=>⟨q,items,rfl,j,by rw[<-z];exact i⟩⟩;cases J;obtain⟨o,ho,_,n,hd⟩:=j;obtain⟨o',f,_,n',g⟩:=G;rw[ho]at f;cases f;rw[hd]at g;cases g;exact qG i F
 obtain⟨_,k⟩:=xY I h4 O;obtain⟨T,S⟩:=k t e D;refine SeqAt.notIn_listAt e Yn.isList (λw hw=>?_) ⟨.bl _,H,I,rfl,?_⟩
 .obtain⟨q,items,b,rfl,j,i⟩:=S w (by simpa using hw);rw[D q items b j i];exact Gr j R.isList i hi L
 .rw[show a.toArray.any e=a.any e by simp,T];exact c.now h (BO _)
theorem vE(a:X.A.units+64<cLine)(op:CmpOp):Jk X (compareOp op) (dS op) mS:=by
 cases op with
 |Eq=>exact NO a false
 |NotEq=>exact NO a true
 |Lt=>exact Wv a
 |LtE=>exact vD Ve
 |Gt=>exact vD Vf
 |GtE=>exact vD Vg
 |NotIn=>exact Qe a
 |_=>exact λb s e H B x y g f v u P Q I d j i l k h c=>h.elim
end
def ER(X:Cx)(b:Hp)(R:Addr->Prop):Prop:=∃E:XK,Passes (je X.prog X.w) X E/\(∀C a,R C->ay b a->E (.ref C) none a)/\zv X (λC a=>R C/\ay b a)
theorem Dv:Passes (je X.prog X.w) X E0:=λ_ _ _ _ _ _ _ h=>by obtain⟨_,_,_,_,_,q⟩:=h;exact q.elim
theorem ER.none:ER X a λ_=>False:=⟨E0,Dv,λ_ _ z=>z.elim,λ_ _ _ _ _ _ _ _ _ _ z=>z.1.elim⟩
theorem ER.up(s:ay d H1)(h:ER X d R):ER X H1 R:=by obtain⟨E,p,l,k⟩:=h;exact⟨E,p,λC n i g=>l C n i (s.trans g),λb e H f m a C c I j q=>k b e H f m a C c I j ⟨q.1,s.trans q.2⟩⟩
abbrev RL:=(Addr->Prop)->Hp->Hp->W->V->Prop
abbrev WT:=Ev->(W->Prop)->Prop
def Qg(K:Frag)(m:Md):RL:=λB H a w v=>dI K B H a m w v
def ρB(K:Frag):RL:=λB _ a w v=>bw K B a w v
def tV(X:Cx)(M:Ms)(R:Addr->Prop)(e:RL)(t:WT):TE:=λb H Q=>∃A d c P,SR X.K M A d b H c/\ER X d R/\t c P/\∀w v a,P w->ay H a->e (FB A M b) H a w v->Q v a
def tVT(X:Cx)(M:Ms)(R:Addr->Prop)(t:WT):TT:=λe H Q=>∃A c a P,SR X.K M A c e H a/\ER X c R/\t a P/\∀x d,P x->ay H d->∃b,x=.bl b/\Q b d
abbrev ZP:=(Addr->Prop)->Hp->List W->List V->Prop
def tVA(X:Cx)(M:Ms)(R:Addr->Prop)(g:ZP)(t:Ev->(List W->Prop)->Prop):TA:=λb H Q=>∃A f c P,SR X.K M A f b H c/\ER X f R/\t c P/\∀d e a,P d->ay H a->g (FB A M b) a d e->Q e a
abbrev VE(X:Cx)(M:Ms)(R:Addr->Prop)(m:Md)(e:Expr)(t:WT):Prop:=PE X e (tV X M R (Qg X.K m) t)
abbrev VB(X:Cx)(M:Ms)(R:Addr->Prop)(e:Expr)(t:WT):Prop:=PE X e (tV X M R (ρB X.K) t)
abbrev VT(X:Cx)(M:Ms)(R:Addr->Prop)(e:Expr)(t:WT):Prop:=PT X e (tVT X M R t)
def n9(K:Frag)(B:Addr->Prop)(H:Hp):List W->List V->Prop
 |[],vs=>vs=[]
 |w::a,vs=>∃v r,vs=v::r/\bw K B H w v/\n9 K B H a r
def ρL(K:Frag):ZP:=λB H a b=>aj K B H a b
def ZQ(K:Frag):ZP:=λB H a b=>n9 K B H a b
abbrev VA(X:Cx)(M:Ms)(R:Addr->Prop)(es:List Expr)(t:Ev->(List W->Prop)->Prop):Prop:=PA X es (tVA X M R (ρL X.K) t)
abbrev Um(X:Cx)(M:Ms)(R:Addr->Prop)(es:List Expr)(t:Ev->(List W->Prop)->Prop):Prop:=PA X es (tVA X M R (ZQ X.K) t)
theorem PE.imp(h:PE X e t)(k:∀a H Q,t' a H Q->t a H Q):PE X e t':=λb s a H Q I w=>h b s a H Q I (k a H Q w)
theorem PT.imp(h:PT X e t)(k:∀a H Q,t' a H Q->t a H Q):PT X e t':=λb s a H Q I w=>h b s a H Q I (k a H Q w)
theorem PW.imp(h:PW X e t)(k:∀a H Q,t' a H Q->t a H Q):PW X e t':=λc b s a H Q I w=>h c b s a H Q I (k a H Q w)
theorem PA.imp(h:PA X e t)(k:∀a H Q,t' a H Q->t a H Q):PA X e t':=λc b s a H Q I w=>h c b s a H Q I (k a H Q w)
section
variable{X:Cx}{M:Ms}{R:Addr->Prop}{e a b c:Expr}{t ta tb tc:WT}{m:Md}{pos:Pos}
theorem zX(h:VE X M R m e t):VE X M R .s e t:=PE.imp h<|by rintro j H Q ⟨A,g,d,P,S,f,p,k⟩;exact⟨A,g,d,P,S,f,p,λw v i pw s r=>k w v i pw s (r.s S.dom)⟩
theorem Ww(h:VE X M R m e t):VB X M R e t:=PE.imp h<|by rintro j H Q ⟨A,g,d,P,S,f,p,k⟩;exact⟨A,g,d,P,S,f,p,λw v i pw s r=>k w v i pw s (r.rep S.dom).b⟩
theorem Gz(h:PE X e (mW i))(r:aV M i->(i,.f)∈M):VB X M R e (λd Q=>match look d i with|some w=>Q w|none=>False):=PE.imp h<|by
 rintro x H Q ⟨A,B,d,P,S,z,p,k⟩
 revert p
 cases l:look d i with
 |none=>exact λp=>p.elim
 |some w=>
  intro p;by_cases n:aV M i
  .obtain⟨F,O⟩:=S.ow;obtain⟨v,j,g⟩:=O.val i .f w (r n) l;obtain⟨y,q,o,rfl,rfl,_,u,s⟩:=g;exact⟨_,j,k _ _ H p (ay.refl H) ⟨q,o,rfl,.inl u,s⟩⟩
  .obtain⟨v,j,g⟩:=S.sh i w n l;exact⟨v,j,k _ _ H p (ay.refl H) g.b⟩
theorem Qh(h:PE X e (mW i))(g:¬aV M i):VE X M R .s e (λd Q=>match look d i with|some w=>Q w|none=>False):=PE.imp h<|by
 rintro n H Q ⟨A,q,d,P,S,o,p,k⟩
 revert p
 cases f:look d i with
 |none=>exact λp=>p.elim
 |some w=>intro p;obtain⟨v,l,j⟩:=S.sh i w g f;exact⟨v,l,k _ _ H p (ay.refl H) (.of j)⟩
def zY(K:Frag)(i:Nat)(π:List mU):TE:=λd H Q=>∃v u,d[i]?=some (some v)/\Jh K H v π u/\Q u H
theorem GA{K:Frag}{f:St}{g:Ev}{w u:W}(S:SR K M A s f H g)(l:(i,m)∈M)(k:oG m π=some h)(n:look g i=some w)(j:dZ w π=some u):
 ∃v d F,f[i]?=some (some v)/\Jh K H v π d/\Fp K A.B H h u d F:=by
 obtain⟨F,O⟩:=S.ow;obtain⟨v,p,o⟩:=O.val i m w l n;obtain⟨d,z,x,y,_,r,q,_⟩:=Fp.path π m o k j;exact⟨v,d,x,p,r,q⟩
theorem xZ{Q:W->Prop}(h:match look d i with|some w=>(match dZ w π with|some u=>Q u|none=>False)|none=>False):∃w u,look d i=some w/\dZ w π=some u/\Q u:=by
 cases g:look d i with
 |none=>rw[g]at h;exact h.elim
 |some w=>
  rw[g]at h;dsimp only at h;cases f:dZ w π with
  |none=>rw[f]at h;exact h.elim
  |some u=>rw[f]at h;exact⟨w,u,rfl,f,h⟩
theorem Qi(h:PE X e (zY X.K i π))(r:(i,j)∈M)(o:oG j π=some .f):VB X M R e (λg Q=>match look g i with|some w=>(match dZ w π with|some u=>Q u|none=>False)|none=>False):=PE.imp h<|by rintro C H Q ⟨A,I,g,P,S,G,p,k⟩;obtain⟨w,u,B,z,q⟩:=xZ p;obtain⟨v,E,F,y,x,d⟩:=GA S r o B z;obtain⟨D,n,l,rfl,rfl,_,d,s⟩:=d;exact⟨v,_,y,x,k _ _ H q (ay.refl H) ⟨n,l,rfl,.inl d,s⟩⟩
theorem Qj(h:PE X e (zY X.K i π))(n:(i,f)∈M)(l:oG f π=some .s):VE X M R .s e (λd Q=>match look d i with|some w=>(match dZ w π with|some u=>Q u|none=>False)|none=>False):=PE.imp h<|by rintro z H Q ⟨A,C,d,P,S,B,p,k⟩;obtain⟨w,u,y,x,q⟩:=xZ p;obtain⟨v,j,F,r,o,g⟩:=GA S n l y x;dsimp only[Fp]at g;exact⟨v,j,r,o,k _ _ H q (ay.refl H) (.of g.2)⟩
theorem Dw(h:PE X e (tC v))(d:∀B H,Rep X.K B H w v):VE X M R .s e (λ_ Q=>Q w):=PE.imp h<|by rintro f H Q ⟨A,j,g,P,S,i,p,k⟩;exact k _ _ H p (ay.refl H) (.of (d _ _))
theorem GB(T:VB X M R a ta)(O:VB X M R b tb)(N:∀x y,KZ op x y=m\/m=.s):VE X M R m (.BinOp a op b pos) (λi Q=>ta i λx=>tb i λy=>gM op x y Q):=by
 rintro j s g H Q I ⟨A,E,i,P,S,D,p,k⟩;refine wpAny_BinOp (bin T O I (R:=λn l f=>∃x y,gM op x y P/\ay H f/\bw X.K (FB A M g) f x n/\bw X.K (FB A M g) f y l) ⟨A,E,i,_,S,D,p,λx n Z B C J=>⟨A,E,i,_,S.same C,D,B,λy l f q o G=>⟨x,y,q,C.trans o,bw.same o J,G⟩⟩⟩ ?_);rintro v u o n l f U rv L ⟨x,y,h,sm,B,q⟩;have d:=(S.same sm).dom;refine zQ op j o g f (FB A M g) x y n l v u P Q U d rv L B q h ?_;have c:Cont X.K (FB A M g) f m P Q:=λw z Y pw F r=>k w z Y pw (sm.trans F) (r.back sm λ_ z=>z);rcases N x y with e|e
 .rw[e];exact c
 .subst e;exact Cont.s d c
end
theorem bD(h:truth x Q):∃b,x=.bl b/\Q b:=by
 cases x with
 |bl b=>exact⟨b,rfl,h⟩
 |_=>exact h.elim
theorem Rep.kI{K:Frag}{b:Bool}(h:Rep K B H (.bl b) v):v=.bl b:=by dsimp only[Rep]at h;exact h
theorem Rep.int_inv{K:Frag}{b:Int}(h:Rep K B H (.int b) v):v=.int b:=by dsimp only[Rep]at h;exact h
theorem dI.bF{K:Frag}(h:dI K B H H' .s w v):Rep K B H' w v:=by obtain⟨F,_,_,h⟩:=h;obtain⟨rfl,h⟩:=h;exact h.less λp z=>.inl z
section
variable{X:Cx}{M:Ms}{R:Addr->Prop}{e a b c:Expr}{t ta tb tc:WT}{m:Md}{pos:Pos}{rest es:List Expr}
noncomputable def NP:W->Bool
 |.lst _=>true
 |_=>false
theorem vF(h:NP x=true):∃l,x=.lst l:=by cases x<;>first|exact⟨_,rfl⟩|exact ff h
theorem Qk(h:gM op x y P)(d:(op=.Add/\(NP x=true\/NP y=true))\/(op=.Mult/\NP x=true)):KZ op x y=.f:=by
 rcases d with⟨rfl,d|d⟩|⟨rfl,d⟩
 .obtain⟨l,rfl⟩:=vF d;rfl
 .obtain⟨l,rfl⟩:=vF d;cases x<;>first|rfl|exact h.elim
 .obtain⟨l,rfl⟩:=vF d;rfl
theorem zZ(ha:PE X a (tV X M R G ta))(hb:PE X b (tV X M R F tb))(h1:∀B H H' w v,Dom B H->G B H H' w v->bw X.K B H' w v)(h2:∀B H H' w v,Dom B H->F B H H' w v->bw X.K B H' w v)
 (ho:∀B H H' w v B2 g J L Y,G B H H' w v->F B2 g J L Y->(op=.Add/\(NP w=true\/NP L=true))\/(op=.Mult/\NP w=true)):VE X M R .f (.BinOp a op b pos) (λi Q=>ta i λx=>tb i λy=>gM op x y Q):=by
 rintro j s l H Q I ⟨A,U,i,P,S,T,p,k⟩;refine wpAny_BinOp (bin ha hb I (R:=λo n g=>∃x y,gM op x y P/\ay H g/\bw X.K (FB A M l) g x o/\bw X.K (FB A M l) g y n/\KZ op x y=.f) ⟨A,U,i,_,S,T,p,λx o H1 E D O=>⟨A,U,i,_,S.same D,T,E,λy n g C q N=>⟨x,y,C,D.trans q,bw.same q (h1 _ _ _ _ _ S.dom O),h2 _ _ _ _ _ (S.same D).dom N,Qk C (ho _ _ _ _ _ _ _ _ _ _ O N)⟩⟩⟩ ?_);rintro v u q o n g I2 rv ru ⟨x,y,h,sm,E,C,em⟩;have d:=(S.same sm).dom;refine zQ op j q l g (FB A M l) x y o n v u P Q I2 d rv ru E C h ?_;rw[em];exact λw z H' pw Z r=>k w z H' pw (sm.trans Z) (r.back sm λ_ z=>z)
theorem Ql(j:VE X M R .s a ta):VE X M R .s (.UnaryOp .USub a pos) (λd Q=>ta d λx=>match x with|.int i=>Q (.int (-i))|_=>False):=PE.imp (U8 OW j)<|by
 rintro q H Q ⟨A,o,d,P,S,l,p,k⟩;refine⟨A,o,d,_,S,l,p,λx r n f g h=>?_⟩;cases x with
 |int i=>exact⟨i,h.bF.int_inv,k _ _ n f g (.of (gc _))⟩
 |_=>exact f.elim
theorem Qm(i:VE X M R .s a ta):VE X M R .s (.UnaryOp .Not a pos) (λd Q=>ta d λx=>truth x λb=>Q (.bl (!b))):=PE.imp (OI i)<|by rintro o H Q ⟨A,n,d,P,S,j,p,k⟩;refine⟨A,n,d,_,S,j,p,λx q l f g h=>?_⟩;obtain⟨b,rfl,f⟩:=bD f;exact⟨b,h.bF.kI,k _ _ l f g (.of (BO _))⟩
theorem Qn(L:X.A.units+64<cLine)(N:behindInMarks op b=false)(T:VB X M R a ta)(O:VB X M R b tb):VE X M R .s (.Compare a [op] [b] pos) (λf Q=>ta f λx=>tb f λy=>dS op x y Q):=by rintro g s i H Q I ⟨A,D,f,P,S,C,p,k⟩;refine wpAny_Compare1 (bin T O I (R:=λl j d=>∃x y,dS op x y P/\ay H d/\bw X.K (FB A M i) d x l/\bw X.K (FB A M i) d y j) ⟨A,D,f,_,S,C,p,λx l Z q B G=>⟨A,D,f,_,S.same B,C,q,λy j d o n F=>⟨x,y,o,B.trans n,bw.same n G,F⟩⟩⟩ ?_) N;rintro v u n l j d U rv J ⟨x,y,h,sm,q,o⟩;exact vE L op g n i d (FB A M i) x y l j v u P Q U (S.same sm).dom rv J q o h λw z Y pw E r=>k w z Y pw (sm.trans E) (r.back sm λ_ z=>z)
theorem Qo(hu:X.A.units+64<cLine)(hm:behindInMarks op b=false)(ha:VB X M R a ta)(hb:VB X M R b tb):VT X M R (.Compare a [op] [b] pos) (λj Q=>ta j λx=>tb j λy=>dS op x y Q):=by
 rintro d s i H Q I ⟨A,G,j,P,S,F,p,k⟩;have q:=bin ha hb I (R:=λo n g=>∃x y,dS op x y P/\ay H g/\bw X.K (FB A M i) g x o/\bw X.K (FB A M i) g y n) ⟨A,G,j,_,S,F,p,λx o H1 D B N=>⟨A,G,j,_,S.same B,F,D,λy n g C l L=>⟨x,y,C,B.trans l,bw.same l N,L⟩⟩⟩
  (f:=compareOp op) (Q:=EP X d i λz E=>∃b,z=.bl b/\Q b E)<|by rintro v u l o n g I2 rv O ⟨x,y,h,sm,D,C⟩;refine vE hu op d l i g (FB A M i) x y o n v u _ _ I2 (S.same sm).dom rv O D C h λw z E pw J r=>?_;obtain⟨b,rfl,q⟩:=k w E pw (sm.trans J);exact⟨b,r.bF.kI,q⟩
 refine wpAny_isTrue_Compare1 (cg q λv B Z=>cg Z λu l Y=>cg Y λc s3 ⟨z,H3,I3,T,b,ez,U⟩=>?_) hm;subst ez;cases T;exact kA ⟨H3,I3,U⟩
theorem Qp(u:VE X M R .s a ta)(r:VE X M R .s (.BoolOp .And (b::rest) pos) tb):VE X M R .s (.BoolOp .And (a::b::rest) pos) (λd Q=>ta d λx=>truth x λk=>if k=true then tb d Q else Q (.bl false)):=
 PE.imp (OH u r)<|by
  rintro B H Q ⟨A,j,d,P,S,i,h,k⟩;refine⟨A,j,d,_,S,i,h,λx D w g f o=>?_⟩;obtain⟨q,rfl,g⟩:=bD g;refine⟨q,o.bF.kI,?_⟩;cases q with
  |true=>exact⟨A,j,d,_,S.same f,i,g,λy C v p l n=>k _ _ v p (f.trans l) (n.back f λ_ z=>z)⟩
  |false=>exact k _ _ w g f (.of (BO _))
theorem Wx(u:VE X M R .s a ta)(r:VE X M R .s (.BoolOp .Or (b::rest) pos) tb):VE X M R .s (.BoolOp .Or (a::b::rest) pos) (λd Q=>ta d λx=>truth x λk=>if k=true then Q (.bl true)else tb d Q):=
 PE.imp (UW u r)<|by
  rintro B H Q ⟨A,j,d,P,S,i,h,k⟩;refine⟨A,j,d,_,S,i,h,λx D w g f o=>?_⟩;obtain⟨q,rfl,g⟩:=bD g;refine⟨q,o.bF.kI,?_⟩;cases q with
  |false=>exact⟨A,j,d,_,S.same f,i,g,λy C v p l n=>k _ _ v p (f.trans l) (n.back f λ_ z=>z)⟩
  |true=>exact k _ _ w g f (.of (BO _))
abbrev NQ(X:Cx)(M:Ms)(R:Addr->Prop)(e:Expr)(t:WT):Prop:=PW X e (tVT X M R t)
theorem K3(d:VT X M R a ta):NQ X M R (.BoolOp .And [a] pos) ta:=AN d
theorem Qq(d:VT X M R a ta):NQ X M R (.BoolOp .Or [a] pos) ta:=EC d
theorem Qt(p:VT X M R a ta)(o:NQ X M R (.BoolOp .And (b::rest) pos) tb):NQ X M R (.BoolOp .And (a::b::rest) pos) (λd Q=>ta d λx=>truth x λk=>if k=true then tb d Q else Q (.bl false)):=
 PW.imp (ED p o)<|by
  rintro u H Q ⟨A,j,d,P,S,i,h,k⟩;refine⟨A,j,d,_,S,i,h,λx s f g=>?_⟩;obtain⟨q,rfl,f⟩:=bD f;refine⟨q,rfl,?_⟩;cases q with
  |true=>exact⟨A,j,d,P,S.same g,i,f,λy r n l=>k _ r n (g.trans l)⟩
  |false=>obtain⟨b,e,q⟩:=k _ s f g;cases e;exact q
theorem Wy(p:VT X M R a ta)(o:NQ X M R (.BoolOp .Or (b::rest) pos) tb):NQ X M R (.BoolOp .Or (a::b::rest) pos) (λd Q=>ta d λx=>truth x λk=>if k=true then Q (.bl true)else tb d Q):=
 PW.imp (Ni p o)<|by
  rintro u H Q ⟨A,j,d,P,S,i,h,k⟩;refine⟨A,j,d,_,S,i,h,λx s f g=>?_⟩;obtain⟨q,rfl,f⟩:=bD f;refine⟨q,rfl,?_⟩;cases q with
  |false=>exact⟨A,j,d,P,S.same g,i,f,λy r n l=>k _ r n (g.trans l)⟩
  |true=>obtain⟨b,e,q⟩:=k _ s f g;cases e;exact q
theorem Qu(i:VT X M R a ta):VT X M R (.UnaryOp .Not a pos) (λd Q=>ta d λx=>truth x λb=>Q (.bl (!b))):=PT.imp (OG i)<|by rintro o H Q ⟨A,n,d,P,S,j,h,k⟩;refine⟨A,n,d,_,S,j,h,λx l f g=>?_⟩;obtain⟨q,rfl,f⟩:=bD f;obtain⟨b,e,z⟩:=k _ l f g;cases e;exact⟨q,rfl,z⟩
theorem vG(l:∀d,isTrue e X.env d=(do let v<-d;standAt e.pos;holding [v] (truthy v)))(h:VE X M R .s e t):VT X M R e t:=PT.imp (EB h l)<|by rintro q H Q ⟨A,p,f,P,S,n,h,k⟩;refine⟨A,p,f,P,S,n,h,λx r o j g i=>?_⟩;obtain⟨b,rfl,z⟩:=k _ o j g;exact⟨b,i.bF.kI,z⟩
theorem GC(s:VT X M R c tc)(v:VE X M R m a ta)(u:VE X M R m b tb):VE X M R m (.IfExp c a b pos) (λd Q=>tc d λx=>truth x λk=>if k=true then ta d Q else tb d Q):=PE.imp (EG s v u)<|by
 rintro w H Q ⟨A,p,d,P,S,n,h,k⟩;refine⟨A,p,d,_,S,n,h,λx B g f=>?_⟩;obtain⟨q,rfl,g⟩:=bD g;refine⟨q,rfl,?_⟩;cases q with
 |true=>exact⟨A,p,d,_,S.same f,n,g,λy r o l i j=>k _ _ o l (f.trans i) (j.back f λ_ z=>z)⟩
 |false=>exact⟨A,p,d,_,S.same f,n,g,λy r o l i j=>k _ _ o l (f.trans i) (j.back f λ_ z=>z)⟩
theorem Qv:VA X M R [] (λ_ Q=>Q []):=PA.imp cW<|by rintro d H Q ⟨A,i,f,P,S,g,h,k⟩;exact k [] [] H h (ay.refl H) .nil
theorem K4(u:starEach (a::es) X.env=(false,eval a X.env)::starEach es X.env)(w:VE X M R .s a ta)(v:VA X M R es i):VA X M R (a::es) (λd Q=>ta d λx=>i d λg=>Q (x::g)):=
 PA.imp (aZ w v u)<|by rintro z H Q ⟨A,o,d,P,S,n,h,k⟩;refine⟨A,o,d,_,S,n,h,λx B D r l p=>⟨A,o,d,_,S.same l,n,r,λg C y f j q=>?_⟩⟩;exact k _ _ y f (l.trans j) (.cons (p.bF.same j) q)
theorem K5:Um X M R [] (λ_ Q=>Q []):=PA.imp cW<|by rintro d H Q ⟨A,i,f,P,S,g,h,k⟩;exact k [] [] H h (ay.refl H) rfl
theorem GD(v:starEach (a::es) X.env=(false,eval a X.env)::starEach es X.env)(y:VB X M R a ta)(w:Um X M R es i):Um X M R (a::es) (λd Q=>ta d λx=>i d λg=>Q (x::g)):=
 PA.imp (aZ y w v)<|by rintro B H Q ⟨A,o,d,P,S,n,h,k⟩;refine⟨A,o,d,_,S,n,h,λx p C u l r=>⟨A,o,d,_,S.same l,n,u,λg q z f j s=>?_⟩⟩;exact k _ _ z f (l.trans j) ⟨p,q,rfl,bw.same j r,s⟩
theorem Qw(h:VA X M R es i):VE X M R .f (.List es pos) (λd Q=>i d λg=>g.length<=sizeLine/\Q (.lst g)):=PE.imp (yY h)<|by rintro s H Q ⟨A,r,d,P,S,q,h,k⟩;refine⟨A,r,d,_,S,q,h,λg u v n j l=>?_⟩;refine⟨by rw[aj.len l];exact n.1,λp o=>?_⟩;exact k _ _ _ n.2 (j.trans (aQ o _)) (.fresh j o l)
theorem Qx(h:VA X M R es g):VE X M R .s (.Tuple es n pos) (λd Q=>g d λf=>f.length<=sizeLine/\Q (.tup f)):=PE.imp (ES h)<|by rintro u H Q ⟨A,r,d,P,S,q,h,k⟩;refine⟨A,r,d,_,S,q,h,λf v w j o i=>?_⟩;refine⟨by rw[aj.len i];exact j.1,λp l=>?_⟩;exact k _ _ _ j.2 (o.trans (aQ l _)) (.of (zP aG (aj.same (aQ l _) i)))
theorem BQ{K:Frag}{w:W}(h:aj K B H l vs)(e:lz l i=some w):∃v,lz vs i=some v/\Rep K B H w v:=by
 unfold lz at e⊢;rw[h.len];cases d:wV l.length i with
 |none=>rw[d]at e;exact nn e
 |some j=>rw[d]at e;exact h.get e
theorem bw.jX{K:Frag}(h:bw K B H (.jX ns) v):∃p,v=.ref p/\jU K H p (ns.map V.int):=by
 have h:Rep K B H (.jX ns) v:=h;obtain⟨p,e,h⟩:=h;refine⟨p,e,?_⟩;rcases h with⟨o,h⟩|h
 .exact .inl (.inr ⟨o,h⟩)
 .rcases h with(h|⟨o,h⟩)|h
  .cases h
  .cases h
  .exact .inr h
theorem BR(e:lz ns i=some n):lz (ns.map V.int) i=some (.int n):=by
 unfold lz at e⊢;rw[Ap];cases d:wV ns.length i with
 |none=>rw[d]at e;exact nn e
 |some j=>rw[d]at e;show(ns.map V.int)[j]?=_;have e:ns[j]?=some n:=e;rw[FC,e];rfl
theorem Wz(I:oS b)(K:VB X M R a ta)(J:VE X M R .s b tb):VE X M R .s (.Subscript a b pos) (λf Q=>ta f λx=>tb f λy=>NN x y Q):=PE.imp (Np EW K J I)<|by
 rintro L H Q ⟨A,F,f,P,S,E,h,k⟩;refine⟨A,F,f,_,S,E,h,λx O U G q g=>⟨A,F,f,_,S.same q,E,G,λy N D d o u=>?_⟩⟩;have g:=bw.same o g;cases x with
 |lst l=>
  cases y with
  |int i=>obtain⟨p,r,rfl,j,B⟩:=g.lst;obtain⟨w,e,d⟩:=d;obtain⟨v,C,z⟩:=BQ B e;exact .inl ⟨p,r,i,v,rfl,u.bF.int_inv,.inl j.rd,C,k _ _ D d (q.trans o) (.of z)⟩
  |_=>exact d.elim
 |tup l=>
  cases y with
  |int i=>obtain⟨p,r,rfl,j,B⟩:=g.tup;obtain⟨w,e,d⟩:=d;obtain⟨v,C,z⟩:=BQ B e;exact .inr (.inl ⟨p,r,i,v,rfl,u.bF.int_inv,j,C,k _ _ D d (q.trans o) (.of z)⟩)
  |_=>exact d.elim
 |jX T=>
  cases y with
  |int i=>obtain⟨p,rfl,j⟩:=g.jX;obtain⟨n,e,d⟩:=d;exact .inl ⟨p,_,i,_,rfl,u.bF.int_inv,j,BR e,k _ _ D d (q.trans o) (.of (gc _))⟩
  |_=>exact d.elim
 |_=>exact d.elim
theorem GF{K:Frag}(h:aj K B H l vs)(d f:Option Int):aj K B H (kH l d f) (xr vs d f):=by unfold kH xr;rw[h.len];exact(h.drop _).take _
def Qy(X:Cx)(M:Ms)(R:Addr->Prop)(t:Ev->(Option Int->Prop)->Prop):TO:=λh H Q=>∃A f d P,SR X.K M A f h H d/\ER X f R/\t d P/\∀o g,P o->ay H g->Q o g
theorem PO.imp{e:Option Expr}{t t':TO}(h:PO X e t)(k:∀d H Q,t' d H Q->t d H Q):PO X e t':=λf s d H Q I w=>h f s d H Q I (k d H Q w)
theorem K6:PO X none (Qy X M R λ_ Q=>Q none):=PO.imp JJ<|by rintro d H Q ⟨A,i,f,P,S,g,h,k⟩;exact k none H h (ay.refl H)
theorem K7(l:VE X M R .s a ta):PO X (some a) (Qy X M R λd Q=>ta d λy=>match y with|.int i=>Q (some i)|_=>False):=PO.imp (JK l)<|by
 rintro q H Q ⟨A,p,d,P,S,n,h,k⟩;refine⟨A,p,d,_,S,n,h,λx r o f g j=>?_⟩;cases x with
 |int i=>exact⟨i,j.bF.int_inv,k _ o f g⟩
 |_=>exact f.elim
theorem WA(F:VB X M R a ta)(s:PO X z (Qy X M R tl))(o:PO X B (Qy X M R y)):VE X M R .f (.Subscript a (.Slice z B none p2) pos) (λd Q=>ta d λx=>tl d λl=>y d λh=>Ym x l h Q):=
 PE.imp (xq JO F s o)<|by
  rintro I H Q ⟨A,w,d,P,S,v,h,k⟩;refine⟨A,w,d,_,S,v,h,λx K O E i r=>⟨A,w,d,_,S.same i,v,E,λl N s g=>⟨A,w,d,_,S.same (i.trans g),v,s,λh L o j=>?_⟩⟩⟩;have r:=bw.same (g.trans j) r;cases x with
  |lst J=>obtain⟨p,C,rfl,u,G⟩:=r.lst;refine⟨p,C,rfl,.inl u.rd,λq n=>?_⟩;exact k _ _ _ o (((i.trans g).trans j).trans (aQ n _)) (.fresh ((i.trans g).trans j) n (GF G l h))
  |jX D=>obtain⟨p,rfl,u⟩:=r.jX;refine⟨p,_,rfl,u,λq n=>?_⟩;exact k _ _ _ o (((i.trans g).trans j).trans (aQ n _)) (.fresh ((i.trans g).trans j) n (GF (aj.KO D) l h))
  |_=>exact o.elim
noncomputable def WB:BI->Md
 |.list=>.f
 |_=>.s
def lP(X:Cx)(f:Value)(b:BI):Prop:=
 ∀(d:List (Addr×Obj))(s:Shared)(g:St)(H:Hp)(B:Addr->Prop)(h:List W)(i:List V)(j:List Value)(P:KP)(Q:VK),Inv X d g H s->Dom B H->Vals i j->n9 X.K B H h i->sF b h P->Cont X.K B H (WB b) P Q->
  wpAny (model X.prog X.w) X.A (call f j) (EP X d g Q) X.xe s
def Qz(K:Frag)(b:BI):List V->Hp->VK->Prop:=λf H Q=>∃(B:Addr->Prop)(d:List W)(P:KP),Dom B H/\n9 K B H d f/\sF b d P/\Cont K B H (WB b) P Q
theorem lP.r{b:BI}(h:lP X f b):dD X f (Qz X.K b):=by rintro g s i H l n Q I r ⟨B,j,P,d,p,o,k⟩;exact h g s i H B j l n P Q I d r p o k
theorem lS{K:Frag}(h:n9 K B H [w] vs):∃v,vs=[v]/\bw K B H w v:=by obtain⟨v,r,rfl,f,d⟩:=h;cases(show r=[]from d);exact⟨v,rfl,f⟩
theorem BS{K:Frag}(h:n9 K B H [w,w'] vs):∃v d,vs=[v,d]/\bw K B H w v/\bw K B H w' d:=by obtain⟨v,r,rfl,i,g⟩:=h;obtain⟨d,rfl,f⟩:=lS g;exact⟨v,d,rfl,i,f⟩
theorem cw_len:lP X (.builtin "len") .len:=by
 intro f s k H B q u n P Q I d r o h c
 match q,h with
 |[.lst l],h=>obtain⟨v,rfl,g⟩:=lS o;obtain⟨p,i,rfl,g,j⟩:=g.lst;exact ic f s k H _ n Q I r ⟨p,i,rfl,.inl (.inl g.rd),c.now (w:=.int i.length) (by rw[j.len];exact h) (gc _)⟩
 |[.tup l],h=>obtain⟨v,rfl,g⟩:=lS o;obtain⟨p,i,rfl,g,j⟩:=g.tup;exact ic f s k H _ n Q I r ⟨p,i,rfl,.inr g,c.now (w:=.int i.length) (by rw[j.len];exact h) (gc _)⟩
 |[.jX ns],h=>obtain⟨v,rfl,g⟩:=lS o;obtain⟨p,rfl,j⟩:=g.jX;exact ic f s k H _ n Q I r ⟨p,_,rfl,.inl j,c.now (w:=.int ns.length) h (by rw[Ap];exact gc _)⟩
theorem cw_abs:lP X (.builtin "abs") .abs:=by
 intro f s g H B j o k P Q I d r l h c
 match j,h with
 |[.int i],h=>obtain⟨v,rfl,n⟩:=lS l;cases n.int;exact EM f s g H _ k Q I r ⟨i,rfl,c.now h (gc _)⟩
theorem cw_max(q:X.calm=true):lP X (.builtin "max") .max2:=by
 intro f s n H B w D o P Q I d r u h c
 match w,h with
 |[.int i,.int j],h=>obtain⟨v,E,rfl,g,k⟩:=BS u;cases g.int;cases k.int;exact CO q f s n H _ o Q I r ⟨i,j,rfl,c.now h (gc _)⟩
 |[.lst l],h=>obtain⟨x,rfl,y,h⟩:=h;obtain⟨v,rfl,g⟩:=lS u;obtain⟨p,C,rfl,g,k⟩:=g.lst;have e:=aj.ints k;subst e;exact C9 q f s n H _ o Q I r ⟨p,x,rfl,.inl g.rd,y,λm A z=>c.now (h m A z) (gc _)⟩
theorem cw_dvm:lP X (.builtin "divmod") .Uh:=by
 intro f s g H B k w l P Q I d r o h c
 match k,h with
 |[.int i,.int j],h=>obtain⟨v,x,rfl,u,p⟩:=BS o;cases u.int;cases p.int;exact xj f s g H _ l Q I r ⟨i,j,rfl,h.1,λq n=>c _ _ _ h.2 (aQ n _) (.of (zP aG (.cons (gc _) (.cons (gc _) .nil))))⟩
theorem cw_min(n:X.calm=true):lP X (.builtin "min") .min2:=by
 intro f s g H B k u l P Q I d r o h c
 match k,h with
 |[.int i,.int j],h=>obtain⟨v,w,rfl,q,p⟩:=BS o;cases q.int;cases p.int;exact CP n f s g H _ l Q I r ⟨i,j,rfl,c.now h (gc _)⟩
theorem cw_list:lP X (.type "list") .list:=by
 intro f s n H B w x o P Q I d r u h c
 match w,h with
 |[.lst l],h=>obtain⟨v,rfl,g⟩:=lS u;obtain⟨p,j,rfl,g,k⟩:=g.lst;exact lC f s n H _ o Q I r ⟨p,j,rfl,.inl (.inl g.rd),λq i=>c _ _ _ h (aQ i _) (.fresh (ay.refl H) i k)⟩
 |[.tup l],h=>obtain⟨v,rfl,g⟩:=lS u;obtain⟨p,j,rfl,g,k⟩:=g.tup;exact lC f s n H _ o Q I r ⟨p,j,rfl,.inr g,λq i=>c _ _ _ h (aQ i _) (.fresh (ay.refl H) i k)⟩
theorem cw_int:lP X (.type "int") .int:=by
 intro f s g H B j o k P Q I d r l h c
 match j,h with
 |[.bl i],h=>obtain⟨v,rfl,n⟩:=lS l;cases n.bl;exact CQ f s g H _ k Q I r (.inr ⟨i,rfl,c.now h (gc _)⟩)
def x6(K:Frag):Prop:=∀b∈["int","bool"],kitOne K (.type "int") (.type b)=some (Gw "int" b)
theorem cw_isi(o:x6 X.K):dD X (.builtin "isinstance") (λvs H Q=>∃(B:Addr->Prop)(w:W)(n:String)(P:KP),n∈["int","bool"]/\n9 X.K B H [w,.ty n] vs/\sF .El [w,.ty n] P/\Cont X.K B H .s P Q):=by
 rintro f s x H vs z Q I r ⟨B,w,n,P,l,p,h,c⟩;obtain⟨v,y,rfl,u,q⟩:=BS p;cases q.ty;obtain⟨a,g,h⟩:=h;have d:Q (.bl (Gw a n)) H:=c.now h (BO _);obtain⟨A,i,rfl,k,j⟩:=vals2 r;cases(show i=Value.type n from j);cases w with
 |int b=>
  cases u.int;cases g;exact CV I k (.int b) (o n l) λC=>⟨.bl _,H,I.tok _,rfl,d⟩
 |_=>exact nn g
end
def Jl(K:Frag)(n:Nat)(m:Md)(sp:aY):Sp:=λc H Q E=>∃A a P R,a.length=n/\aj K A H a c/\Dom A H/\sp a P R/\Cont K A H m P Q/\∀C b,R C->ay H b->E (.ref C) none b
def QA(K:Frag)(n:Nat)(g:Md)(sp:aY):Sp:=λh H Q E=>∃(ab:Addr->Prop)(F:List Addr)(f:W)(e:V)(d:List W)(b:List V)(P:W->Prop)(R:Addr->Prop),h=e::b/\d.length+1=n/\F.Nodup/\(∀p∈F,¬ab p)/\Dom ab H/\Fp K (λp=>ab p\/p∈F) H g f e F/\aj K (λp=>ab p\/p∈F) H d b/\sp (f::d) P R/\
 (∀w y v c a,P (.tup [w,y])->wY (·∈F) H a->c.Nodup->(∀p∈c,p∈F\/H p=none)->Fp K (λp=>ab p\/p∈c) a g y e c->Rep K (λp=>ab p\/p∈c) a w v->Q v a)/\(∀C a,R C->wY (·∈F) H a->E (.ref C) none a)
def nj(K:Frag)(n:Nat)(m:Md)(sp:aY):Sp:=
 match m with
 |.io a=>QA K n a sp
 |m=>Jl K n m sp
inductive cu(P:Program)(w:World)(K:Frag)(mg:Str->Option Value)(base:Heap):Nat->Value->Nat->Sp->Prop where
 |fn {k:Nat} {f:Addr} {fd:FuncData} {ps:List Str} {sp:Sp} (kp:keepIn K (.ref f)=true) (b:Binds K fd ps []) (F:b8 P w K mg base (je P w) k f fd ps sp):cu P w K mg base k (.ref f) ps.length sp
 |mk {k n:Nat} {C f:Addr} {fd:FuncData} {ps:List Str} {sp spi:Sp} (M:Mk K C f) (b:Binds K fd ps []) (F:b8 P w K mg base (je P w) k f fd ps spi)
  (h:∀vs H Q E,sp vs H Q E->∀x dx,H x=none->H dx=none->dx≠x->spi (.ref x::vs) (upd (upd H dx (.own x)) x (.ins C dx [])) (λv H2=>v=.bV/\Q (.ref x) H2) E):cu P w K mg base (k+1) (.ref C) n sp
theorem cu.keep{K:Frag}{a:Value}{sp:Sp}(c:cu P w K b base k a n sp):keepIn K a=true:=by
 cases c with
 |fn kp _ _=>exact kp
 |mk M _ _ _=>exact M.kp
theorem cu.run{d:St}{H:Hp}{s:Shared}{Q:VK}{E:XK}{us:List Value}{vs:List V}(c:cu X.prog X.w X.K X.mg X.base k i n sp)(g:cV k X.A)(f:∀H s e s',Inv X a d H s->je X.prog X.w X.stack H s E e s'->X.xe e s')(I:Inv X a d H s)(r:Vals vs us)(h:sp vs H Q E):
 wpAny (model X.prog X.w) X.A (call i us) (EP X a d Q) X.xe s:=by
 cases c with
 |fn q b F=>exact ET (ds:=[]) (Jf:=[]) F g b .nil f I r (by rw[eM];exact h)
 |mk M b F l=>exact EU (ds:=[]) (Jf:=[]) M F g b .nil f I r (λx p o m j=>by rw[eM];exact l vs H Q E h x p o m j)
section
variable{X:Cx}{M:Ms}{R:Addr->Prop}{e a b c:Expr}{t ta tb tc:WT}{m:Md}{pos p:Pos}{es:List Expr}{x:Str}
theorem BU(F:cu X.prog X.w X.K X.mg X.base k O n (Jl X.K n m sp))(hr:cV k X.A)(hg:Gl X x)(hm:X.mg x=some O)
 (hn:∀d P R,sp d P R->d.length=n)(ha:VA X M R (e::es) D)(y:(x==("__debug__":Str))=false)(he:starEach (e::es) X.env=(false,eval e X.env)::starEach es X.env)(u:(backTo pos (starEach es X.env)).any (·.1)=false):
 VE X M R m (.Call (.Name x p) (e::es) [] pos) (λj Q=>D j λd=>sp d Q R):=by
 rintro f s i H Q I ⟨A,H0,j,P,S,er,h,Y⟩;obtain⟨E,L,N,hR⟩:=er;refine eQ (gg I hg hm ?_ y);refine ma (h₀:=X.base) I.ok.mod.Nd F.keep (cg (ha pos f s i H (λl g=>∃d,ay H g/\aj X.K (FB A M i) g d l/\sp d P R) I ⟨A,H0,j,_,S,⟨E,L,N,hR⟩,h,λd l g Z J q=>⟨d,J,q,Z⟩⟩) λus J ⟨l,g,I1,r,d,sm,q,G⟩=>⟨I1.kX,?_⟩) he u;exact F.run hr (L _ _) I1 r ⟨FB A M i,d,P,R,hn _ _ _ G,q,(S.same sm).dom,G,λw v B pw o U=>Y w v B pw (sm.trans o) (U.back sm λ_ z=>z),λC B T o=>N C B T (S.sm.trans (sm.trans o))⟩
theorem QB(G:dD X (.builtin o) (Qz X.K l))(E:Gl X x)(D:X.mg x=none)(B:bootBuiltins x=some (.builtin o))(I:Um X M R (e::es) n)(C:x≠"__name__")(j:(x==("__debug__":Str))=false)
 (F:starEach (e::es) X.env=(false,eval e X.env)::starEach es X.env)(i:(backTo pos (starEach es X.env)).any (·.1)=false):VE X M R (WB l) (.Call (.Name x p) (e::es) [] pos) (λd Q=>n d λf=>sF l f Q):=
 PE.imp (jd G E D B I C j F i)<|by rintro q H Q ⟨A,L,d,P,S,J,h,k⟩;exact⟨A,L,d,_,S,J,h,λf O T y g u=>⟨FB A M q,f,P,(S.same g).dom,u,y,λw v N pw s r=>k w v N pw (g.trans s) (r.back g λ_ z=>z)⟩⟩
theorem QC(G:dD X (.type o) (Qz X.K l))(E:Gl X x)(D:X.mg x=none)(B:bootBuiltins x=some (.type o))(I:Um X M R (e::es) n)(C:x≠"__name__")(j:(x==("__debug__":Str))=false)
 (F:starEach (e::es) X.env=(false,eval e X.env)::starEach es X.env)(i:(backTo pos (starEach es X.env)).any (·.1)=false):VE X M R (WB l) (.Call (.Name x p) (e::es) [] pos) (λd Q=>n d λf=>sF l f Q):=
 PE.imp (t8 G E D B I C j F i)<|by rintro q H Q ⟨A,L,d,P,S,J,h,k⟩;exact⟨A,L,d,_,S,J,h,λf O T y g u=>⟨FB A M q,f,P,(S.same g).dom,u,y,λw v N pw s r=>k w v N pw (g.trans s) (r.back g λ_ z=>z)⟩⟩
theorem QD(U:x6 X.K)(j:n∈["int","bool"])(Y:Gl X x)(T:X.mg x=none)(N:bootBuiltins x=some (.builtin "isinstance"))(ha:VB X M R a ta)(Z:VB X M R b (λ_ Q=>Q (.ty n)))(O:x≠"__name__")(l:(x==("__debug__":Str))=false)
 (u:starEach [a,b] X.env=(false,eval a X.env)::starEach [b] X.env)(WC:starEach [b] X.env=(false,eval b X.env)::starEach [] X.env)(i:(backTo pos (starEach [b] X.env)).any (·.1)=false):
 VE X M R .s (.Call (.Name x p) [a,b] [] pos) (λd Q=>ta d λw=>sF .El [w,.ty n] Q):=
 PE.imp (jd (cw_isi U) Y T N (aZ ha (aZ Z cW WC) u) O l u i)<|by rintro C H Q ⟨A,B,d,P,S,y,h,k⟩;refine⟨A,B,d,_,S,y,h,λw v H1 L g I=>⟨A,B,d,λo=>o=.ty n,S.same g,y,rfl,λo q H2 J f G=>?_⟩⟩;subst J;exact⟨FB A M C,w,n,P,j,⟨v,[q],rfl,bw.same f I,q,[],rfl,G,rfl⟩,L,λD E H' pw F r=>k D E H' pw ((g.trans f).trans F) (r.back (g.trans f) λ_ z=>z)⟩
theorem K8(r:VE X M R .s a ta)(j:attributeBase a "bit_length" X.env (eval a X.env)=eval a X.env)(g:(f.endLine==d.line)=true):
 VE X M R .s (.Call (.Attribute a "bit_length" f) [] [] d) (λl Q=>ta l λx=>match x with|.int i=>Q (.int (Builtin.Int.intBits i:Nat))|_=>False):=
 PE.imp (EY PySem.F.plainAttrs_int PySem.F.slot_int_bit_length PySem.F.type_int_bit_length JX r j g)<|by
  rintro B H Q ⟨A,z,l,P,S,u,h,k⟩;refine⟨A,z,l,_,S,u,h,λw v y n o q=>?_⟩;cases w with
  |int i=>have e:=q.bF.int_inv;subst e;exact⟨rfl,i,rfl,rfl,k _ _ y n o (.of (gc _))⟩
  |_=>exact n.elim
end
inductive BV(K:Frag)(br:Bool)(B:Addr->Prop)(H:Hp):It->List W->Prop where
 |lst {a:Addr} {vs:List V} {ws:List W} (h:Rz H a (.lst vs)) (n:br=false->¬B a) (r:aj K B H ws vs):BV K br B H (YW K a) ws
 |tup {a:Addr} {vs:List V} {ws:List W} (h:mY K H a vs) (r:aj K B H ws vs):BV K br B H (YX K a) ws
 |j3 (lo:Int) (n:Nat):BV K br B H (U5 lo n) (gO lo 1 n)
 |K9 (lo st:Int) (n:Nat):BV K br B H (Yb lo st n) (gO lo st n)
 |uu {a:Addr} {vs:List V} {ws:List W} (h:Rz H a (.lst vs)) (n:br=false->¬B a) (r:aj K B H ws vs):BV K br B H (Zw K a) (gj ws)
 |rev {a:Addr} {vs:List V} {ws:List W} (h:Rz H a (.lst vs)) (n:br=false->¬B a) (r:aj K B H ws vs):BV K br B H (Zy K a vs.length) ws.reverse
structure IW(K:Frag)(B:Addr->Prop)(Hs:Hp)(J:It)(ws:List W):Prop where
 go:∀i H,ay Hs H->i<ws.length->J.go i H
 yl:∀i H x H' w,ay Hs H->ws[i]?=some w->J.U4 i H x H'->ay H H'/\∀B':Addr->Prop,(∀p o,Hs p=some o->B' p->B p)->Rep K B' H' w x
 st:∀i H,ay Hs H->i=ws.length->J.stop i H
theorem lT(a st:Int)(n:Nat):(gO a st n).length=n:=by unfold gO;simp
theorem x8{b st:Int}{n i:Nat}(h:(gO b st n)[i]?=some w):w=.int (b+i*st)/\i<n:=by
 unfold gO at h;rw[FC]at h;by_cases a:i<n
 .rw[cm a]at h;cases h;exact⟨rfl,a⟩
 .rw[Fs (by simpa using a)]at h;cases h
theorem uv(l:List W):(gj l).length=l.length:=by unfold gj;simp
theorem nB{i:Nat}(h:(gj l)[i]?=some w):∃x,l[i]?=some x/\w=.tup [.int i,x]:=by
 unfold gj at h;rw[ae]at h;by_cases a:i<l.length
 .rw[cm a,DL a]at h;cases h;exact⟨_,DL a,rfl⟩
 .rw[Fs (by simpa using a)]at h;cases h
theorem BV.iw{K:Frag}(h:BV K br B k J l):IW K B k J l:=by
 cases h with
 |@lst a c _ h n r=>
  have q:∀H,ay k H->jU K H a c:=λH s=>.inl (VL.ay.rd s h.rd);refine⟨λi H s b=>?_,λi H x m w s d y=>?_,λi H s b=>⟨c,q H s,by rw[r.len,b];exact Ee _⟩⟩
  .have f:i<c.length:=by rw[r.len];exact b
   exact⟨c,c[i],q H s,DL f⟩
  .obtain⟨rfl,y⟩:=y;obtain⟨v,e,g⟩:=r.get d;have:=y c (q _ s);rw[e]at this;cases this;exact⟨ay.refl _,λo j=>Rep.mv s j w g⟩
 |@tup a c _ h r=>
  have q:∀H,ay k H->mY K H a c:=λH s=>L2.ay.tup s h;refine⟨λi H s b=>?_,λi H x m w s d y=>?_,λi H s b=>⟨c,q H s,by rw[r.len,b];exact Ee _⟩⟩
  .have f:i<c.length:=by rw[r.len];exact b
   exact⟨c,c[i],q H s,DL f⟩
  .obtain⟨rfl,y⟩:=y;obtain⟨v,e,g⟩:=r.get d;have:=y c (q _ s);rw[e]at this;cases this;exact⟨ay.refl _,λo j=>Rep.mv s j w g⟩
 |j3 D n=>refine⟨λi H s b=>by rw[lT]at b;exact b,λi H x m w s d y=>?_,λi H s b=>by rw[lT]at b;exact ip b.symm⟩;obtain⟨rfl,rfl⟩:=y;obtain⟨rfl,_⟩:=x8 d;exact⟨ay.refl _,λo _=>by rw[d5];exact gc _⟩
 |K9 D G n=>refine⟨λi H s b=>by rw[lT]at b;exact b,λi H x m w s d y=>?_,λi H s b=>by rw[lT]at b;exact ip b.symm⟩;obtain⟨rfl,rfl⟩:=y;obtain⟨rfl,_⟩:=x8 d;exact⟨ay.refl _,λo _=>gc _⟩
 |@uu a c l h n r=>
  have q:∀H,ay k H->jU K H a c:=λH s=>.inl (VL.ay.rd s h.rd);refine⟨λi H s b=>?_,λi H x m w s d y=>?_,λi H s b=>⟨c,q H s,by rw[r.len,b,uv]⟩⟩
  .rw[uv]at b;have f:i<c.length:=by rw[r.len];exact b
   exact⟨c,c[i],q H s,DL f⟩
  .obtain⟨p,y,F,rfl,rfl,E⟩:=y;obtain⟨C,t,rfl⟩:=nB d;obtain⟨v,e,g⟩:=r.get t;have A:=E c (q _ s);rw[e]at A;obtain rfl:v=y:=OK A;have z:=aQ (H:=H) F (.tup [.int i,v]);exact⟨z,λo j=>zP aG (.cons (gc _) (.cons (Rep.mv (s.trans z) j C g) .nil))⟩
 |@rev a c l h n r=>
  have q:∀H,ay k H->jU K H a c:=λH s=>.inl (VL.ay.rd s h.rd);have u:=r.len;refine⟨λi H s b=>?_,λi H x m w s d y=>?_,λi H s b=>?_⟩
  .rw[ky]at b;exact⟨c,q H s,rfl,by rw[u];exact b⟩
  .obtain⟨rfl,y⟩:=y;have b:i<l.length:=by have:=(Gc.mp d).1;rwa [ky]at this
   rw[List.getElem?_reverse b]at d;obtain⟨v,e,g⟩:=r.get d;have:=y c (q _ s) rfl;rw[u,e]at this;cases this;exact⟨ay.refl _,λo j=>Rep.mv s j w g⟩
  .rw[ky]at b;show i=c.length;rw[u,b]
noncomputable def itemsOf:W->Option (List W)
 |.lst l=>some l
 |.tup l=>some l
 |_=>none
theorem uw:items z Q↔∃a,itemsOf z=some a/\Q a:=by
 cases z<;>simp[items,itemsOf]
def GG(X:Cx)(M:Ms)(R:Addr->Prop)(br:Bool)(t:WT):TI:=λb H Q=>∃A e c P,SR X.K M A e b H c/\ER X e R/\t c P/\∀z,P z->∃d,itemsOf z=some d/\∀J a,ay H a->BV X.K br (FB A M b) a J d->Q J a
theorem PI.imp(h:PI X tg e t)(k:∀a H Q,t' a H Q->t a H Q):PI X tg e t':=λb s a H Q I w=>h b s a H Q I (k a H Q w)
section
variable{X:Cx}{M:Ms}{R:Addr->Prop}{e a b c tg:Expr}{t ta tb tc:WT}{m:Md}{pos p:Pos}{es:List Expr}{x:Str}{br:Bool}
theorem QE(w:PE X l tl):PI X tg l (λj H Q=>tl j H λx H1=>∃a,x=.ref a/\(((∃f,jU X.K H1 a f)/\Q (YW X.K a) H1)\/((∃f,mY X.K H1 a f)/\Q (YX X.K a) H1))):=by
 intro g s j H Q I h;refine cg (w g s j H _ I h) ?_;rintro v d ⟨x,H1,I1,r,u⟩;obtain⟨a,e,q⟩:=u;subst e;cases r;rcases q with⟨⟨f,k⟩,q⟩|⟨⟨f,k⟩,q⟩
 .obtain⟨i,rv,p,hz⟩:=I1.list k;refine wpAny_pyIter_list p.isList ?_;refine⟨d.heap.objs.size,[d.heap.objs.size],_,_,H1,rfl,I1.kept (t':=d.toks) λb o e=>GT _ e,CL a _,⟨_,QP _ rfl,rfl,rfl⟩,λb n=>?_,q⟩;have e:b=d.heap.objs.size:=by simpa using n
  subst e;exact I1.yP (Ee _) (I1.hok.fresh (Ee _))
 .obtain⟨i,rv,p,hz⟩:=I1.tuple k;refine wpAny_pyIter_tuple (show d.heap.IsTuple a i.toArray from p) ?_;refine⟨d.heap.objs.size,[d.heap.objs.size],_,_,H1,rfl,I1.kept (t':=d.toks) λb o e=>GT _ e,yQ a _,⟨_,QP _ rfl,rfl,rfl⟩,λb n=>?_,q⟩;have e:b=d.heap.objs.size:=by simpa using n
  subst e;exact I1.yP (Ee _) (I1.hok.fresh (Ee _))
def QF(K:Frag)(br:Bool):RL:=λB _ d w v=>bw K B d w v/\(br=false->Rep K B d w v)
theorem jn(h:VE X M R m e t):PE X e (tV X M R (QF X.K br) t):=PE.imp h<|by rintro j H Q ⟨A,g,d,P,S,f,p,k⟩;exact⟨A,g,d,P,S,f,p,λw v i pw s r=>k w v i pw s ⟨(r.rep S.dom).b,λ_=>r.rep S.dom⟩⟩
theorem WD(h:VB X M R e t):PE X e (tV X M R (QF X.K true) t):=PE.imp h<|by rintro j H Q ⟨A,g,d,P,S,f,p,k⟩;exact⟨A,g,d,P,S,f,p,λw v i pw s r=>k w v i pw s ⟨r,λz=>by cases z⟩⟩
theorem QF.lst{K:Frag}{B:Addr->Prop}{H H':Hp}{l:List W}{v:V}(h:QF K br B H H' (.lst l) v):∃p vs,v=.ref p/\Rz H' p (.lst vs)/\(br=false->¬B p)/\aj K B H' l vs:=by obtain⟨p,vs,rfl,f,d⟩:=h.1.lst;refine⟨p,vs,rfl,f,λe=>?_,d⟩;have:=h.2 e;obtain⟨i,_,g,n,_⟩:=this;cases g;exact n
theorem fJ(r:PE X a (tV X M R (QF X.K br) ta)):PI X tg a (GG X M R br ta):=PI.imp (QE r)<|by
 rintro y H Q ⟨A,w,q,P,S,u,h,k⟩;refine⟨A,w,q,P,S,u,h,λz v o hz j n=>?_⟩;obtain⟨B,g,k⟩:=k z hz;cases z with
 |lst l=>
  cases g;obtain⟨p,f,rfl,d,i,s⟩:=n.lst;exact⟨p,rfl,.inl ⟨⟨f,.inl d.rd⟩,k _ o j (.lst d i s)⟩⟩
 |tup l=>
  cases g;obtain⟨p,f,rfl,d,i⟩:=n.1.tup;exact⟨p,rfl,.inr ⟨⟨f,d⟩,k _ o j (.tup d i)⟩⟩
 |_=>exact nn g
theorem QG(w:Gl X "enumerate")(s:X.mg "enumerate"=none)(y:PE X a (tV X M R (QF X.K br) ta))(g:starEach [a] X.env=(false,eval a X.env)::starEach [] X.env):
 PI X (.Tuple d r n) (.Call (.Name "enumerate" p) [a] [] pos) (GG X M R br (λf Q=>ta f λx=>match x with|.lst l=>Q (.lst (gj l))|_=>False)):=
 PI.imp (JY w s (aZ y cW g) rfl g)<|by
  rintro G H Q ⟨A,F,f,P,S,D,h,k⟩;refine⟨A,F,f,_,S,D,h,λz v E hz o q=>?_⟩;cases z with
  |lst l=>obtain⟨I,u,k⟩:=k _ hz;cases u;obtain⟨p,j,rfl,i,C,B⟩:=q.lst;exact⟨p,rfl,⟨j,.inl i.rd⟩,k _ E o (.uu i C B)⟩
  |_=>exact hz.elim
theorem QH(r:Gl X "reversed")(o:X.mg "reversed"=none)(s:PE X a (tV X M R (QF X.K br) ta))(f:starEach [a] X.env=(false,eval a X.env)::starEach [] X.env):
 PI X tg (.Call (.Name "reversed" p) [a] [] pos) (GG X M R br (λd Q=>ta d λx=>match x with|.lst l=>Q (.lst l.reverse)|_=>False)):=
 PI.imp (Pp r o (aZ s cW f) rfl f)<|by
  rintro D H Q ⟨A,C,d,P,S,y,h,k⟩;refine⟨A,C,d,_,S,y,h,λz v B hz j n=>?_⟩;cases z with
  |lst l=>obtain⟨E,q,k⟩:=k _ hz;cases q;obtain⟨p,i,rfl,g,w,u⟩:=n.lst;exact⟨p,i,rfl,.inl g.rd,k _ B j (.rev g w u)⟩
  |_=>exact hz.elim
theorem La(u:Gl X "range")(q:X.mg "range"=none)(v:VE X M R .s a ta)(f:starEach [a] X.env=(false,eval a X.env)::starEach [] X.env):
 PI X tg (.Call (.Name "range" p) [a] [] pos) (GG X M R br (λd Q=>ta d λx=>vC [x] λl=>Q (.lst l))):=
 PI.imp (tU u q (aZ v cW f) f)<|by
  rintro B H Q ⟨A,z,d,P,S,w,h,k⟩;refine⟨A,z,d,_,S,w,h,λx C y hz g i=>?_⟩;cases x with
  |int j=>obtain⟨o,n,hz⟩:=hz;obtain⟨D,r,k⟩:=k _ hz;cases r;cases i.bF.int_inv;exact⟨j,rfl,o,n,k _ y g (.j3 0 j.toNat)⟩
  |_=>exact hz.elim
theorem Lb(C:Gl X "range")(z:X.mg "range"=none)(E:VE X M R .s a ta)(D:VE X M R .s b tb)(n:starEach [a,b] X.env=(false,eval a X.env)::starEach [b] X.env)(d:starEach [b] X.env=(false,eval b X.env)::starEach [] X.env):
 PI X tg (.Call (.Name "range" p) [a,b] [] pos) (GG X M R br (λf Q=>ta f λx=>tb f λy=>vC [x,y] λl=>Q (.lst l))):=
 PI.imp (CM C z (aZ E (aZ D cW d) n) (by rw[n,d];rfl) d)<|by
  rintro G H Q ⟨A,q,f,P,S,o,h,k⟩;refine⟨A,q,f,_,S,o,h,λx J L hz g v=>⟨A,q,f,_,S.same g,o,hz,λy I F hz r u=>?_⟩⟩;cases x with
  |int i=>
   cases y with
   |int j=>obtain⟨w,hz⟩:=hz;obtain⟨K,B,k⟩:=k _ hz;cases B;cases v.bF.int_inv;cases u.bF.int_inv;exact⟨i,j,rfl,w,k _ F (g.trans r) (.j3 i (j -i).toNat)⟩
   |_=>exact hz.elim
  |_=>exact hz.elim
theorem Lc(I:Gl X "range")(F:X.mg "range"=none)(L:VE X M R .s a ta)(K:VE X M R .s b tb)(J:VE X M R .s c tc)(v:starEach [a,b,c] X.env=(false,eval a X.env)::starEach [b,c] X.env)(f:starEach [b,c] X.env=(false,eval b X.env)::starEach [c] X.env)(q:starEach [c] X.env=(false,eval c X.env)::starEach [] X.env):
 PI X tg (.Call (.Name "range" p) [a,b,c] [] pos) (GG X M R br (λd Q=>ta d λx=>tb d λy=>tc d λz=>vC [x,y,z] λl=>Q (.lst l))):=
 PI.imp (C7 I F (aZ L (aZ K (aZ J cW q) f) v) (by rw[v,f,q];rfl) (by rw[f,q];rfl))<|by
  rintro O H Q ⟨A,r,d,P,S,o,h,k⟩;refine⟨A,r,d,_,S,o,h,λx Y H1 hz g D=>⟨A,r,d,_,S.same g,o,hz,λy U H2 hz u C=>⟨A,r,d,_,S.same (g.trans u),o,hz,λz T N hz w B=>?_⟩⟩⟩;cases x with
  |int i=>
   cases y with
   |int j=>
    cases z with
    |int l=>obtain⟨n,E,hz⟩:=hz;obtain⟨Z,G,k⟩:=k _ hz;cases G;cases D.bF.int_inv;cases C.bF.int_inv;cases B.bF.int_inv;exact⟨i,j,l,n,rfl,E,k _ N ((g.trans u).trans w) (.K9 i l n)⟩
    |_=>exact hz.elim
   |_=>exact hz.elim
  |_=>exact hz.elim
end
noncomputable def up(M:Ms)(n:Nat):Ms:=M.map λx=>(x.1+n,x.2)
section
variable{K:Frag}{M:Ms}{A:Fz}{H0 H H1:Hp}{σ v0:St}{ε δ:Ev}
theorem nD:(i,m)∈up M n↔n<=i/\(i -n,m)∈M:=by
 unfold up;rw[Pm];constructor
 .rintro⟨⟨j,b⟩,a,e⟩;cases e;exact⟨xp _ _,by rw[Nw];exact a⟩
 .rintro⟨h,a⟩;exact⟨(i -n,m),a,by simp;omega⟩
theorem dU:aV (up M n) i↔n<=i/\aV M (i -n):=by
 constructor
 .rintro⟨m,h⟩;exact⟨(nD.mp h).1,m,(nD.mp h).2⟩
 .rintro⟨h,m,a⟩;exact⟨m,nD.mpr ⟨h,a⟩⟩
theorem qL(c:δ.length=n)(h:n<=i):look (δ++ε) i=look ε (i -n):=by
 have e:∀w,look (δ++ε) i=some w↔look ε (i -n)=some w:=λw=>by rw[bI,bI,NA (by lia),c]
 cases b:look ε (i -n)with
 |none=>
  cases a:look (δ++ε) i with
  |none=>rfl
  |some w=>rw[e]at a;rw[b]at a;cases a
 |some w=>exact(e w).mpr b
theorem SR.block(S:SR K M A H0 σ H ε)(u:v0.length=n)(s:ay H H1)(C:H D=none)(t:H1 D=some o):SR K (up M n) ⟨λq=>A.ab q\/q=D,λq=>A.B q\/q=D,none⟩ H0 (v0++σ) H1 (AW n none++ε):=by
 obtain⟨F,O⟩:=S.ow;have g:(AW n (none:Option W)).length=n:=by simp
 have E:∀{i:Nat},n<=i->(v0++σ)[i]?=σ[i -n]?:=λ{i} h=>by rw[NA (by lia),u]
 have y:∀p o,H p=some o->(A.B p\/p=D)->A.B p:=λp o e z=>by
  rcases z with z|rfl
  .exact z
  .rw[C]at e;cases e
 refine⟨by rw[KM,KM,u,g,S.len],λi w c e=>?_,S.sm.trans s,λp z=>?_,(λv e=>by cases e),λi=>F (i -n),⟨λi m G a b=>O.un _ m G (nD.mp a).2 (nD.mp b).2,λi m w I e=>?_,λi c e=>?_,λi c=>O.nd _ (dU.mp c).2,λi j p c x a b=>?_,λi p c d=>O.nw _ p (dU.mp c).2 d,λi p c d z=>?_,λp=>?_⟩⟩
 .by_cases f:n<=i
  .rw[qL g f]at e;rw[E f];obtain⟨v,l,k⟩:=S.sh (i -n) w (λz=>c (dU.mpr ⟨f,z⟩)) e;exact⟨v,l,Rep.mv s y w k⟩
  .rw[bI,PP (by rw[g];lia),mf,Bi (by lia)]at e;cases e
 .rcases z with z|rfl
  .exact(S.dm.same s) p z
  .exact⟨_,t⟩
 .obtain⟨f,r⟩:=nD.mp I;rw[qL g f]at e;rw[E f];obtain⟨v,l,k⟩:=O.val _ m w r e;exact⟨v,l,Fp.mv s y m k⟩
 .obtain⟨f,r⟩:=dU.mp c;rw[qL g f]at e;exact O.emp _ r e
 .have:=O.ds _ _ p (dU.mp c).2 (dU.mp x).2 a b;have:=(dU.mp c).1;have:=(dU.mp x).1;lia
 .rcases z with z|rfl
  .exact O.na _ p (dU.mp c).2 d z
  .obtain⟨o,e,_⟩:=O.has (dU.mp c).2 d;rw[C]at e;cases e
 .constructor
  .rintro(z|rfl)
   .rcases(O.all p).mp z with z|⟨i,c,d⟩
    .exact .inl (.inl z)
    .exact .inr ⟨i+n,dU.mpr ⟨by lia,by rw[Nw];exact c⟩,by rw[Nw];exact d⟩
   .exact .inl (.inr rfl)
  .rintro((z|rfl)|⟨i,c,d⟩)
   .exact .inl ((O.all p).mpr (.inl z))
   .exact .inr rfl
   .exact .inl ((O.all p).mpr (.inr ⟨i -n,(dU.mp c).2,d⟩))
end
def WE:List Nat->Nl
 |[]=>U1
 |i::a=>Nm (iU i) (WE a)
def gT(K:Frag)(one:Bool)(a:List Nat):TG:=
 match one,a with
 |true,[i]=>iU i
 |true,_=>λ_ _ _ _=>False
 |false,a=>OM K a.length (WE a)
noncomputable def dj(a:St):List Nat->List V->St
 |i::b,v::vs=>dj (a.set i (some v)) b vs
 |_,_=>a
theorem x9:∀(b:List Nat)(vs:List V)(a:St),(dj a b vs).length=a.length
 |[],vs,a=>by rw[dj];simp
 |i::b,[],a=>by rw[dj];simp
 |i::b,v::vs,a=>by rw[dj,x9 b vs,SB]
theorem ya:∀(c:List Nat)(vs:List V)(b a:St),b.length=n->(∀i∈c,i<n)->dj (b++a) c vs=dj b c vs++a
 |[],vs,b,a,_,_=>by rw[dj,dj]<;>simp
 |i::c,[],b,a,_,_=>by rw[dj,dj]<;>simp
 |i::c,v::vs,b,a,d,h=>by have hi:=h i FK;rw[dj,dj,List.set_append_left _ _ (by lia),ya c vs _ a (by rw[SB];exact d) λj e=>h j (FS _ e)]
section
variable{K:Frag}{M:Ms}{A:Fz}{H0 H:Hp}
theorem GH:∀(a:List Nat)(vs:List V)(b:St)(Q:St->Hp->Prop),vs.length=a.length->Q (dj b a vs) H->WE a vs b H Q
 |[],[],b,Q,_,q=>⟨rfl,q⟩
 |[],_::_,_,_,h,_=>by cases h
 |_::_,[],_,_,h,_=>by cases h
 |i::a,v::vs,b,Q,h,q=>⟨v,vs,rfl,GH a vs _ Q (by simpa using h) (by rw[dj]at q;exact q)⟩
theorem SR.cI:∀(a:List Nat)(c:List W)(vs:List V){b:St}{d:Ev},(∀i∈a,¬aV M i)->SR K M A H0 b H d->aj K (FB A M b) H c vs->c.length=a.length->SR K M A H0 (dj b a vs) H (cI d a c)
 |[],c,vs,b,d,_,S,_,_=>by rw[dj,VL.cI]<;>first|exact S|simp
 |i::a,[],vs,b,d,_,S,_,h=>by cases h
 |i::a,w::c,vs,b,d,e,S,r,h=>by obtain⟨v,f,rfl,m,l⟩:=r.cons_inv;rw[dj,VL.cI];have k:=e i FK;exact SR.cI a c f (λj g=>e j (FS _ g)) (S.set k m) l (by simpa using h)
theorem tgt(j:∀i∈a,¬aV M i)(S:SR K M A H0 b H d)(g:Rep K (FB A M b) H w v)(h:wT one a w d P)
 (k:∀vs c,P c->SR K M A H0 (dj b a vs) H c->Q (dj b a vs) H):gT K one a v b H Q:=by
 cases one with
 |true=>
  match a,h with
  |[i],h=>
   have:=k [v] (d.set i (some w)) h (by rw[dj,dj]<;>first|exact S.set (j i FK) g|simp);rw[dj,dj]at this
   .exact this
   .simp
 |false=>
  cases w with
  |tup l=>obtain⟨e,h⟩:=h;obtain⟨p,vs,rfl,m,f⟩:=g;exact⟨p,vs,rfl,mY.of m,by rw[f.len,e],GH a vs b Q (by rw[f.len,e]) (k vs _ h (SR.cI a l vs j S f e))⟩
  |_=>exact h.elim
end
theorem PF.imp(h:PF X e t)(k:∀a H Q,t' a H Q->t a H Q):PF X e t':=λb s a H Q I w=>h b s a H Q I (k a H Q w)
def ZT(K:Frag)(M:Ms)(t:WT):TE:=λb H Q=>∃A d c P,SR K M A d b H c/\t c P/\∀w v a,P w->ay H a->Rep K (FB A M b) a w v->Q v a
def ZU(K:Frag)(M:Ms)(t:WT):TT:=λd H Q=>∃A e a P,SR K M A e d H a/\t a P/\∀x c,P x->ay H c->∃b,x=.bl b/\Q b c
section
variable{X:Cx}{M:Ms}{R:Addr->Prop}{tg iter elt:Expr}{ifs:List Expr}{scope:Scope}{xs N':List Str}{pos:Pos}{ti tc te:WT}{one:Bool}{ts:List Nat}
theorem yb(I:∀i∈ts,i<xs.length)(n:St)(H:Hp)(Q:VK)
 (hh:tV X M R (Qg X.K .f) (λu Q=>ti u λz=>items z λc=>iF (λw K=>wT one ts w (AW xs.length none++u) λa=>tc a λx=>truth x λk=>if k=true then te a λy=>K (some y)else K none) c [] λl=>Q (.lst l)) n H Q):
 Fg xs.length (GG X M R true ti) (gT X.K one ts) (ZU X.K (up M xs.length) tc) (ZT X.K (up M xs.length) te) n H Q:=by
 obtain⟨A,H0,u,P,S,er,h,k⟩:=hh;refine⟨A,H0,u,_,S,er,h,λz hz=>?_⟩;obtain⟨c,ez,hw⟩:=uw.mp hz;refine⟨c,ez,λJ H1 s1 it D hD=>?_⟩;have iw:=it.iw;generalize N:(λ(w:W)(K:Option W->Prop)=>wT one ts w (AW xs.length none++u) λa=>tc a λx=>truth x λk=>if k=true then te a λy=>K (some y)else K none)=f at hw;have O:H D=none:=s1.free hD;refine⟨λi m g=>∃d r,m=c.length -i/\i<=c.length/\ay H1 g/\g D=some (.lst r)/\aj X.K (λq=>FB A M n q\/q=D) g d r/\iF f (c.drop i) d (λl=>P (.lst l)),
  ⟨c.length,[],[],rfl,PQ _,aQ hD _,aG,.nil,hw⟩,?_⟩
 rintro i m g ⟨d,r,rfl,hi,s,Yo,F,C⟩;by_cases Y:i<c.length
 .refine .inr ⟨iw.go i g s Y,λx U y v t=>?_⟩;have hwi:c[i]?=some c[i]:=DL Y;rw[eD Y]at C;generalize c[i]=w at*;obtain⟨s3,G⟩:=iw.yl i g x U w s hwi y;have s13:ay H U:=s1.trans (s.trans s3);have h3D:U D=some (.lst r):=s3 _ _ Yo;have S3:SR X.K (up M xs.length) ⟨λq=>A.ab q\/q=D,λq=>A.B q\/q=D,none⟩ H0 (v++n) U (AW xs.length none++u):=S.block t s13 O h3D;have hr3:Rep X.K (λq=>A.B q\/q=D) U w x:=by
   refine G _ λp o e z=>?_;rcases z with z|rfl
   .exact z
   .rw[hD]at e;cases e
  have hM:∀j∈ts,¬aV (up M xs.length) j:=λj hj z=>by have:=(dU.mp z).1;have:=I j hj;lia
  rw[iF,<-N]at C;rw[N]at C;refine tgt hM S3 hr3 C λE a hp S4=>?_;have e4:dj (v++n) ts E=dj v ts E++n:=ya ts E v n t I;rw[e4]at S4⊢;have hv1:(dj v ts E).length=xs.length:=by rw[x9];exact t
  refine⟨dj v ts E,hv1,rfl,⟨_,H0,a,_,S4,hp,λq H5 Z s5=>?_⟩⟩;obtain⟨b,rfl,Z⟩:=bD Z;refine⟨b,rfl,?_⟩;have Yp:ay g H5:=s3.trans s5;cases b with
  |false=>exact⟨c.length -(i+1),by lia,d,r,rfl,Y,s.trans Yp,Yp _ _ Yo,F.same Yp,Z⟩
  |true=>
   refine⟨_,H0,a,_,S4.same s5,Z,λy vy H6 hy s6 ry=>?_⟩;obtain⟨L,hy⟩:=hy;have ZV:=Yp.trans s6;have T:=ZV _ _ Yo;refine⟨r,T,by rw[F.len];exact L,c.length -(i+1),by lia,d++[y],r++[vy],rfl,Y,λb o e=>?_,aG,?_,hy⟩
   .rw[ao (aP e hD)];exact ZV _ _ (s _ _ e)
   .have ry2:Rep X.K (λq=>A.B q\/q=D) H6 y vy:=ry;exact aj.put T (.inr rfl) _ ((F.same ZV).app (.cons ry2 .nil))
 .have e:i=c.length:=by lia
  subst e;refine .inl ⟨iw.st _ g s rfl,?_⟩;rw[wb,iF]at C;exact k _ _ g C (s1.trans s) (.new O Yo (F.less λp z=>.inl z) F)
theorem Ld(t:X.calm=true)(o:dP scope X.env.scope X.N N' xs=true)(e:∀i∈ts,i<xs.length)(p:PI X tg iter (GG X M R true ti))(q:∀C b d c,PG (aT X scope C xs N' b d c) tg (gT X.K one ts))
 (r:∀C b d c,PF (aT X scope C xs N' b d c) ifs (ZU X.K (up M xs.length) tc))(s:∀C b d c,PE (aT X scope C xs N' b d c) elt (ZT X.K (up M xs.length) te))(n:∀z,foldedSetIterable iter X.env z=pure z):
 VE X M R .f (.ListComp elt [⟨tg,iter,ifs,0⟩] scope pos) (λg Q=>ti g λz=>items z λm=>iF (λw K=>wT one ts w (AW xs.length none++g) λa=>tc a λx=>truth x λk=>if k=true then te a λy=>K (some y)else K none) m [] λl=>Q (.lst l)):=
 PE.imp (JV xs N' t o p q r s n) λj H Q h=>yb e j H Q h
end
section
variable{K:Frag}{M M':Ms}{A:Fz}{H0 H H1:Hp}{σ:St}{ε:Ev}
theorem SR.rb(S:SR K M A H0 σ H ε):∃f,SR K M A f σ H ε/\ay H0 f/\ay f H/\(∀p o,H p=some o->(Ek o=true/\A.B p)\/f p=some o):=by
 classical
 obtain⟨F,O⟩:=S.ow;have d:∀p o,(if(∃i,aV M i/\p∈F i)then none else H p)=some o->H p=some o:=λp o z=>by
  split at z
  .cases z
  .exact z
 refine⟨λp=>if(∃i,aV M i/\p∈F i)then none else H p,⟨S.len,S.sh,d,S.dm,S.sl,F,⟨O.un,O.val,O.emp,O.nd,O.ds,λi p c a=>Bi ⟨i,c,a⟩,O.na,O.all⟩⟩,λb o z=>?_,d,λp o z=>?_⟩
 .try dsimp only
  rw[BM]
  .exact S.sm _ _ z
  .rintro⟨i,c,e⟩;rw[O.nw i b c e]at z;cases z
 .by_cases a:∃i,aV M i/\p∈F i
  .have g:=a;obtain⟨i,c,a⟩:=a;obtain⟨j,e,h⟩:=O.has c a;rw[z]at e;cases e;exact .inl ⟨h,(O.all p).mpr (.inr g)⟩
  .exact .inr ((BM a).trans z)
end
section
variable{K:Frag}{B A:Addr->Prop}{H Hs:Hp}
theorem BV.low(h:∀p o,H p=some o->(Ek o=true/\B p)\/Hs p=some o)(b:∀p,A p->B p)(i:BV K false B H J g):BV K false A Hs J g:=by
 have d:∀{a:Addr}{c:List V},Rz H a (.lst c)->¬B a->Rz Hs a (.lst c):=λ{a c} r n=>by
  rcases h a _ r.at with⟨_,z⟩|z
  .exact(n z).elim
  .exact .inl z
 cases i with
 |lst q n r=>exact .lst (d q (n rfl)) (λe z=>n e (b _ z)) (aj.chg h (λp _ _ z=>b p z) _ r)
 |@tup a c _ q r=>
  refine .tup ?_ (aj.chg h (λp _ _ z=>b p z) _ r);rcases q with(q|⟨o,q⟩)|q
  .rcases h a _ q with⟨z,_⟩|z
   .cases z
   .exact .inl (.inl z)
  .rcases h a _ q with⟨z,_⟩|z
   .cases z
   .exact .inl (.inr ⟨o,z⟩)
  .exact .inr q
 |j3 f n=>exact .j3 f n
 |K9 f j n=>exact .K9 f j n
 |uu q n r=>exact .uu (d q (n rfl)) (λe z=>n e (b _ z)) (aj.chg h (λp _ _ z=>b p z) _ r)
 |rev q n r=>exact .rev (d q (n rfl)) (λe z=>n e (b _ z)) (aj.chg h (λp _ _ z=>b p z) _ r)
end
abbrev WS:=Dn->Ev->Prop
noncomputable def gv:Md->Bool
 |.io _=>true
 |_=>false
def z4(K:Frag)(ab:Addr->Prop)(f:Option V)(e H':Hp)(m:Md)(w:W)(v:V):Prop:=
 match m with
 |.io g=>∃b c d a,w=.tup [b,c]/\f=some d/\a.Nodup/\(∀p∈a,e p=none/\¬ab p)/\Fp K (λp=>ab p\/p∈a) H' g c d a/\Rep K (λp=>ab p\/p∈a) H' b v
 |m=>dI K ab e H' m w v
theorem z4.of{K:Frag}{v:V}(c:gv m=false)(h:dI K ab a H' m w v):z4 K ab b a H' m w v:=by
 cases m with
 |io _=>cases c
 |_=>exact h
theorem z4.back{K:Frag}{v:V}(s:ay e d)(h:z4 K ab a d H' m w v):z4 K ab a e H' m w v:=by
 cases m with
 |io q=>obtain⟨f,g,i,o,n,l,k,c,j⟩:=h;exact⟨f,g,i,o,n,l,k,λp b=>⟨s.free (c p b).1,(c p b).2⟩,j⟩
 |_=>exact dI.back s (λ_ z=>z) h
structure KS(X:Cx)(M:Ms)(m:Md)(ab:Addr->Prop)(s0:Option V)(H0:Hp)(d:Dn)(D:Ends):Prop where
 nx:∀A ε σ H,A.ab=ab->A.s0=s0->d.nx ε->SR X.K M A H0 σ H ε->D.nx σ H
 rt:∀w v H',d.rt w->ay H0 H'->z4 X.K ab s0 H0 H' m w v->D.rt v H'
 bk:∀A ε σ H,A.ab=ab->A.s0=s0->d.bk ε->SR X.K M A H0 σ H ε->D.bk σ H
 ct:∀A ε σ H,A.ab=ab->A.s0=s0->d.ct ε->SR X.K M A H0 σ H ε->D.ct σ H
def sV(X:Cx)(M:Ms)(m:Md)(t:WS):TS:=λD c H=>∃A a b d,SR X.K M A a c H b/\ER X a d.ex/\A.s0.isSome=gv m/\t d b/\KS X M m A.ab A.s0 a d D
abbrev VS(X:Cx)(M:Ms)(m:Md)(st:Stmt)(t:WS):Prop:=PS X st (sV X M m t)
abbrev z5(X:Cx)(M:Ms)(m:Md)(st:List Stmt)(t:WS):Prop:=wU X st (sV X M m t)
theorem PS.imp(h:PS X e t)(k:∀D a H,t' D a H->t D a H):PS X e t':=λb s a H D I w=>h b s a H D I (k D a H w)
theorem wU.imp(h:wU X e t)(k:∀D a H,t' D a H->t D a H):wU X e t':=λb s a H D I w=>h b s a H D I (k D a H w)
section
variable{X:Cx}{M M':Ms}{R:Addr->Prop}{m mr m0:Md}{st:Stmt}{rest:List Stmt}{t u:WS}{e e1 e2 c:Expr}{te t1 t2 tc:(Addr->Prop)->WT}{pos pos':Pos}{x:Str}{i:Nat}{π:List mU}
theorem Le:z5 X M m [] (λd a=>d.nx a):=wU.imp Jw<|by rintro D b H ⟨A,g,a,d,S,f,hz,h,k⟩;exact k.nx A a b H rfl rfl h S
theorem Lf(h:VS X M m st t):z5 X M m [st] t:=uO h
theorem GJ(h:VS X M m st t)(k:z5 X M m rest u):z5 X M m (st::rest) (λd b=>t {d with nx:=u d} b):=
 wU.imp (dw h k)<|by rintro D r H ⟨A,j,b,d,S,f,hz,h,k⟩;exact⟨A,j,b,{d with nx:=u d},S,f,hz,h,λq a l s o g n p=>⟨q,j,a,d,p,f,(by rw[g];exact hz),n,by rw[o,g];exact k⟩,k.rt,k.bk,k.ct⟩
theorem Lg{st:List Stmt}(h:z5 X M' m st t)(j:∀x∈M',x∈M)(g:gv m=true->aV M 0->aV M' 0):z5 X M m st (λd a=>t {d with nx:=λ_=>False,bk:=λ_=>False,ct:=λ_=>False} a):=wU.imp h<|by rintro D B H ⟨A,p,a,d,S,l,hz,h,k⟩;obtain⟨y,n,b,_,o⟩:=S.sub (M':=M') j A.s0 (λv e=>⟨e,g (by rw[<-hz,e];rfl) (S.sl v e).2⟩);refine⟨y,p,a,{d with nx:=λ_=>False,bk:=λ_=>False,ct:=λ_=>False},o,l,by rw[b];exact hz,h,λ_ _ _ _ _ _ z=>z.elim,λw v q f s r=>k.rt w v q f s ?_,λ_ _ _ _ _ _ z=>z.elim,λ_ _ _ _ _ _ z=>z.elim⟩;rw[b,n]at r;exact r
theorem QI:VS X M m (.Break pos) (λd a=>d.bk a):=PS.imp EH<|by rintro D b H ⟨A,g,a,d,S,f,hz,h,k⟩;exact k.bk A a b H rfl rfl h S
theorem QJ(g:∀{j:TE},PE X e j->PS X st (pO j (gT X.K false f)))(z:∀i∈f,¬aV M i)(B:∀R,VE X M R .s e (te R)):
 VS X M m st (λd b=>te d.ex b λw=>match w with|.tup l=>l.length=f.length/\d.nx (cI b f l)|_=>False):=by
 rintro a s o H D I ⟨A,G,b,d,S,C,hz,h,k⟩;refine g (B d.ex) a s o H D I ⟨A,G,b,_,S,C,h,λw v F n q r=>?_⟩;cases w with
 |tup l=>exact tgt (P:=d.nx) z (S.same q) r.bF n λJ p y E=>k.nx A _ _ F rfl rfl y E
 |_=>exact n.elim
theorem QK{ta:(Addr->Prop)->Ev->(List W->Prop)->Prop}(n:∀{o:TA},PA X p o->PS X st (λD f H=>o f H λvs H1=>vs.length=a.length/\D.nx (dj f a vs) H1))(v:∀i∈a,¬aV M i)(w:∀R,VA X M R p (ta R)):
 VS X M m st (λd g=>ta d.ex g λj=>j.length=a.length/\d.nx (cI g a j)):=by
 rintro b s f H D I ⟨A,z,g,d,S,y,hz,h,k⟩;refine n (w d.ex) b s f H D I ⟨A,z,g,_,S,y,h,λj vs H1 l q r=>?_⟩;exact⟨by rw[aj.len r,l.1],k.nx A _ _ H1 rfl rfl l.2 (SR.cI a j vs v (S.same q) r l.1)⟩
theorem vH{K:Frag}{l:List W}(S:SR K M A N D H E)(d:(i,m0)∈M)(hp:oG m0 π=some .f)(P:look E i=some w)(hu:dZ w π=some (.lst l)):
 ∃v p vs,D[i]?=some (some v)/\Jh K H v π (.ref p)/\H p=some (.lst vs)/\aj K A.B H l vs/\A.B p/\∀H1,ay H H1->∀(b:List W)(a:List V),aj K A.B H1 b a->
  ∃h,h.ab=A.ab/\h.s0=A.s0/\(∀q o,H1 q=some o->h.B q->A.B q)/\wY A.B H1 (upd H1 p (.lst a))/\SR K M h N D (upd H1 p (.lst a)) (E.set i (some (setAt w π (.lst b)))):=by
 obtain⟨F,O⟩:=S.ow;obtain⟨v,g,k⟩:=O.val i m0 w d P;obtain⟨v',Z,F',Y,J,r,fp,C⟩:=Fp.path π m0 k hp hu;obtain⟨ws,p,vs,e1,rfl,rfl,G,h4⟩:=fp;cases e1;have T:p∈F i:=by rw[J];simp
 have L:A.B p:=(O.all p).mpr (.inr ⟨i,⟨m0,d⟩,T⟩);refine⟨v,p,vs,g,r,G,h4,L,λH1 s b a hr=>?_⟩;have U:=S.same s;obtain⟨F0,O0⟩:=U.ow;have O1:Ug K M A N D H1 E F:=⟨O.un,λi m w d e=>let⟨v,g,k⟩:=O.val i m w d e;⟨v,g,Fp.mv s (λ_ _ _ z=>z) m k⟩,O.emp,O.nd,O.ds,O.nw,O.na,O.all⟩;have j:=s _ _ G;have Q:wY A.B H1 (upd H1 p (.lst a)):=.put j rfl L;have ZX:p∉Z++Y:=by
  have:=O.nd i ⟨m0,d⟩;rw[J]at this;intro z;have g:=ee.mp this;rcases Re.mp z with z|z
  .have k:=ee.mp g.1;exact k.2.2 p z p (by simp) rfl
  .exact g.2.2 p (by simp) p z rfl
 have y:Fp K A.B (upd H1 p (.lst a)) m0 (setAt w π (.lst b)) v (Z++[p]++Y):=by
  refine C (upd H1 p (.lst a)) A.B (.lst b) [p] ?_ (λq o e=>?_) (λq _ _ z=>z)
  .exact⟨b,p,a,rfl,rfl,rfl,aG,aj.chg Q (λ_ _ _ z=>z) b hr⟩
  .by_cases n:q=p
   .subst n;rw[G]at e;cases e;exact .inl ⟨rfl,L,ZX⟩
   .exact .inr (by rw[ao n];exact s _ _ e)
 rw[<-J]at y;have hc:∀q o,H1 q=some o->(Ek o=true/\q∈F i)\/upd H1 p (.lst a) q=some o:=λq o e=>by
  by_cases n:q=p
  .subst n;rw[j]at e;cases e;exact .inl ⟨rfl,T⟩
  .exact .inr (by rw[ao n];exact e)
 have I:Fp K (λq=>(A.B q/\q∉F i)\/q∈F i) (upd H1 p (.lst a)) m0 (setAt w π (.lst b)) v (F i):=Fp.mv (ay.refl _) (λq _ _ z=>by
  rcases z with z|z
  .exact z.1
  .exact(O.all q).mpr (.inr ⟨i,⟨m0,d⟩,z⟩)) m0 y
 obtain⟨h,a1,a2,_,a3,a4,a5⟩:=O1.chg (F':=F i) U d P g hc (O.nd i ⟨m0,d⟩) (λq hq=>.inl hq) I;exact⟨h,a1,a2,a3,Q,a5⟩
theorem z6{P:List W->Prop}(h:match look a i with|some (.lst l)=>P l|_=>False):∃l,look a i=some (.lst l)/\P l:=by
 cases b:look a i with
 |none=>rw[b]at h;exact h.elim
 |some d=>
  rw[b]at h;cases d with
  |lst l=>exact⟨l,rfl,h⟩
  |_=>exact h.elim
theorem ZY:oG m0 []=some m0:=by cases m0<;>rfl
theorem QL:dZ w []=some w:=by cases w<;>rfl
theorem QM{w u:W}:setAt w [] u=u:=by cases w<;>rfl
theorem QN(o:∀{q:TE},PE X e q->PS X st (Nj (tBM X.K "list" AY (mW i) (Nn q Vj))))(F:(i,.f)∈M)(G:∀R,VE X M R .s e (te R)):
 VS X M m st (λd a=>match look a i with|some (.lst l)=>te d.ex a λw=>l.length<sizeLine/\d.nx (a.set i (some (.lst (l++[w]))))|_=>False):=by
 rintro g s E H D I ⟨A,Q,a,d,S,N,hz,h,k⟩;obtain⟨l,e1,h⟩:=z6 h;obtain⟨U,p,j,L,J,B,z,Y,b⟩:=vH (π:=[]) S F ZY e1 QL;cases J;refine o (G d.ex) g s E H D I ⟨_,L,.inl ⟨rfl,j,.inl (.inl B)⟩,A,Q,a,_,S,N,h,λw v P y n r=>?_⟩;obtain⟨T,O,a2,_,_,C⟩:=b P n (l++[w]) (j++[v]) ((z.same n).app (.cons r.bF .nil));rw[QM]at C;exact⟨p,j,v,rfl,rfl,n _ _ B,by rw[z.len];exact y.1,k.nx T _ _ _ O a2 y.2 C⟩
theorem QO(B:∀{E F:TE},PE X e E->PE X e1 F->PS X st (pO E (U3 (mW i) F Nq)))(U:(i,.f)∈M)(Y:∀R,VE X M R .s e (te R))(T:∀R,VE X M R .s e1 (t1 R)):
 VS X M m st (λd b=>te d.ex b λw=>match look b i with|some (.lst l)=>(t1 d.ex b λx=>(match x with|.int j=>∃n,wV l.length j=some n/\d.nx (b.set i (some (.lst (l.set n w))))|_=>False))|_=>False):=by
 rintro q s P H D I ⟨A,O,b,d,S,L,hz,h,k⟩;refine B (Y d.ex) (T d.ex) q s P H D I ⟨A,O,b,_,S,L,h,λw v H1 y J r=>?_⟩;obtain⟨l,e1,y⟩:=z6 y;obtain⟨v0,p,C,h1,h2,Z,K,hB,o⟩:=vH (π:=[]) S U ZY e1 QL;cases h2;refine⟨_,h1,A,O,b,_,S.same J,L,y,λz vz H2 a G Q=>?_⟩;cases z with
 |int j=>obtain⟨n,e,a⟩:=a;have g:=J.trans G;obtain⟨A',a1,a2,_,_,N⟩:=o H2 g (l.set n w) (C.set n v) ((K.same g).set (r.bF.same G));rw[QM]at N;exact⟨p,C,j,n,rfl,Q.bF.int_inv,g _ _ Z,by rw[K.len];exact e,k.nx A' _ _ _ a1 a2 a N⟩
 |_=>exact a.elim
theorem GK(p:∀R,VE X [] R mr e (te R))(o:mr=m\/m=.s)(j:gv m=false):VS X M m (.Return (some e) pos) (λd b=>te d.ex b d.rt):=by
 rintro a s n H D I ⟨A,y,b,d,S,q,hz,h,k⟩;refine mZ (p d.ex) a s n H D I ⟨_,y,b,_,S.go,q,h,λw v l g f r=>?_⟩;rcases o with rfl|rfl
 .exact k.rt w v l g (S.sm.trans f) (.of j (r.back S.sm λ_ z=>z))
 .exact k.rt w v l g (S.sm.trans f) (.of j ((r.s S.dm).back S.sm λ_ z=>z))
theorem Lh(l:∀R,VE X M R .s e (te R)):VS X M .s (.Return (some e) pos) (λd b=>te d.ex b d.rt):=by rintro a s f H D I ⟨A,p,b,d,S,n,hz,h,k⟩;refine mZ (l d.ex) a s f H D I ⟨A,p,b,_,S,n,h,λw v o j g r=>?_⟩;exact k.rt w v o j (S.sm.trans g) (.of rfl (dI.back S.sm S.sub' r))
theorem Li(n:∀R,VE X M R m e (te R))(l:gv m=false):VS X M m (.Return (some e) pos) (λd b=>te d.ex b d.rt):=by rintro a s f H D I ⟨A,q,b,d,S,o,hz,h,k⟩;refine mZ (n d.ex) a s f H D I ⟨A,q,b,_,S,o,h,λw v p j g r=>?_⟩;exact k.rt w v p j (S.sm.trans g) (.of l (dI.back S.sm S.sub' r))
theorem Lj(o:PE X e (mW i))(b:(i,m)∈M)(n:gv m=false):VS X M m (.Return (some e) pos) (λd f=>match look f i with|some w=>d.rt w|none=>False):=by
 rintro a s j H D I ⟨A,C,f,d,S,B,hz,h,k⟩
 try dsimp only at h
 cases g:look f i with
 |none=>rw[g]at h;exact h.elim
 |some w=>
  rw[g]at h;obtain⟨F,O⟩:=S.ow;obtain⟨v,y,r⟩:=O.val i m w b g;refine mZ o a s j H D I ⟨_,y,k.rt _ _ H h S.sm (.of n ⟨F i,O.nd i ⟨m,b⟩,λp l=>O.nw i p ⟨m,b⟩ l,Fp.mv (ay.refl _) (λq _ _ z=>?_) m r⟩)⟩;rcases z with z|z
  .exact(O.all q).mpr (.inl z)
  .exact(O.all q).mpr (.inr ⟨i,⟨m,b⟩,z⟩)
theorem pF{K:Frag}{v:V}(S:SR K M A n o H h)(a:(0,m0)∈M)(q:look h 0=some b)(f:∃d,A.s0=some d)(r:Rep K A.B H g v):z4 K A.ab A.s0 n H (.io m0) (.tup [g,b]) v:=by obtain⟨d,f⟩:=f;obtain⟨F,O⟩:=S.ow;obtain⟨u,l,s⟩:=O.val 0 m0 b a q;rw[(S.sl d f).1]at l;cases l;have k:∀p,(A.ab p\/p∈F 0)->A.B p:=λp z=>(O.all p).mpr (z.imp id λz=>⟨0,⟨m0,a⟩,z⟩);exact⟨g,b,d,F 0,rfl,f,O.nd 0 ⟨m0,a⟩,λp j=>⟨O.nw 0 p ⟨m0,a⟩ j,O.na 0 p ⟨m0,a⟩ j⟩,Fp.mv (ay.refl _) (λp _ _ z=>k p z) m0 s,r.less k⟩
theorem WG(r:∀R,VT X M R c (tc R))(w:z5 X M m a t)(v:z5 X M m b u):VS X M m (.If c a b pos) (λd f=>tc d.ex f λx=>truth x λk=>if k=true then t d f else u d f):=by
 rintro g s p H D I ⟨A,n,f,d,S,l,hz,h,k⟩;refine Nk (r d.ex) w v g s p H D I ⟨A,n,f,_,S,l,h,λx y j o=>?_⟩;obtain⟨q,rfl,j⟩:=bD j;refine⟨q,rfl,?_⟩;cases q with
 |true=>exact⟨A,n,f,d,S.same o,l,hz,j,k⟩
 |false=>exact⟨A,n,f,d,S.same o,l,hz,j,k⟩
end
section
variable{X:Cx}{M:Ms}{m:Md}{body:List Stmt}{tb:WS}{c iter tg:Expr}{tc:WT}{ti:(Addr->Prop)->WT}{pos:Pos}{one:Bool}{ts:List Nat}
theorem QS(Z:PassesOwn (model X.prog X.w) X.A X.env X.xe){tc:(Addr->Prop)->WT}(hc:∀R,VT X M R c (tc R))(hb:z5 X M m body tb):VS X M m (.While c body [] pos) (λd r=>KR (λr Q=>tc d.ex r λx=>truth x Q) tb d r):=by
 rintro u s L H D I ⟨A,y,r,d,S,F,hz,h,k⟩;refine w6 Z (hc d.ex) hb u s L H D I ?_;obtain⟨J,⟨O,U⟩,t⟩:=h;refine⟨λn b f=>∃e a,e.ab=A.ab/\e.s0=A.s0/\J n a/\SR X.K M e y b f a,⟨O,A,r,rfl,rfl,U,S⟩,?_⟩;rintro n G H1 ⟨C,z,v,p,T,B⟩;refine⟨C,y,z,_,B,F,t n z T,λx H2 o E=>?_⟩;obtain⟨q,rfl,o⟩:=bD o;refine⟨q,rfl,?_⟩;cases q with
 |true=>obtain⟨N,hN,o⟩:=o;refine⟨λb f=>∃e a,e.ab=A.ab/\e.s0=A.s0/\N a/\SR X.K M e y b f a,λb f ⟨e,a,j,a2,i,g⟩=>?_,C,y,z,⟨N,d.rt,d.nx,N,d.ex⟩,B.same E,F,(by rw[p];exact hz),o,⟨λe a b f j a2 i g=>⟨e,a,j.trans v,a2.trans p,i,g⟩,by rw[v,p];exact k.rt,λe a b f j a2 i g=>k.nx e a b f (j.trans v) (a2.trans p) i g,λe a b f j a2 i g=>⟨e,a,j.trans v,a2.trans p,i,g⟩⟩⟩;obtain⟨P,l,Y⟩:=hN a i;exact⟨P,l,e,a,j,a2,Y,g⟩
 |false=>exact k.nx C _ _ H2 v p o (B.same E)
end
structure Go(A:Fz)(H:Hp)(A':Fz)(H':Hp):Prop where
 ab:A'.ab=A.ab
 s0:A'.s0=A.s0
 B:∀p o,H p=some o->A'.B p->A.B p
 ch:wY A.B H H'
theorem Go.same(s:ay H H'):Go A H A H':=⟨rfl,rfl,λ_ _ _ z=>z,.same s⟩
theorem Go.trans(g:Go A H c H1)(k:Go c H1 b a):Go A H b a:=by
 refine⟨k.ab.trans g.ab,k.s0.trans g.s0,λp o e z=>?_,λp o e=>?_⟩
 .rcases g.ch p o e with⟨_,y⟩|y
  .exact y
  .exact g.B p o e (k.B p o y z)
 .rcases g.ch p o e with y|y
  .exact .inl y
  .rcases k.ch p o y with⟨f,d⟩|h
   .exact .inl ⟨f,g.B p o e d⟩
   .exact .inr h
theorem Go.rep{K:Frag}(g:Go A H a H1)(h:Rep K A.B H w v):Rep K a.B H1 w v:=Rep.chg g.ch g.B w h
abbrev yc:=Ev->(W->Ev->Prop)->Prop
abbrev NR:=Ev->(List W->Ev->Prop)->Prop
def tP(X:Cx)(M:Ms)(R:Addr->Prop)(t:yc):TE:=λe H Q=>∃A c f P,SR X.K M A c e H f/\ER X c R/\t f P/\∀d w v b a,P w a->Go A H d b->SR X.K M d c e b a->Rep X.K d.B b w v->Q v b
def tPT(X:Cx)(M:Ms)(R:Addr->Prop)(t:yc):TT:=λe H Q=>∃A c f P,SR X.K M A c e H f/\ER X c R/\t f P/\∀g x d a,P x a->Go A H g d->SR X.K M g c e d a->∃b,x=.bl b/\Q b d
def tPA(X:Cx)(M:Ms)(R:Addr->Prop)(t:NR):TA:=λe H Q=>∃A c f P,SR X.K M A c e H f/\ER X c R/\t f P/\∀d g h b a,P g a->Go A H d b->SR X.K M d c e b a->aj X.K d.B b g h->Q h b
abbrev VP(X:Cx)(M:Ms)(R:Addr->Prop)(e:Expr)(t:yc):Prop:=PE X e (tP X M R t)
abbrev Eo(X:Cx)(M:Ms)(R:Addr->Prop)(e:Expr)(t:yc):Prop:=PT X e (tPT X M R t)
abbrev NS(X:Cx)(M:Ms)(R:Addr->Prop)(e:Expr)(t:yc):Prop:=PW X e (tPT X M R t)
abbrev Jm(X:Cx)(M:Ms)(R:Addr->Prop)(es:List Expr)(t:NR):Prop:=PA X es (tPA X M R t)
section
variable{X:Cx}{M:Ms}{R:Addr->Prop}{m m0:Md}{e a b c:Expr}{es rest:List Expr}{t ta tb:yc}{tl:NR}{pos apos cpos p:Pos}{i j:Nat}{st:Stmt}{x:Str}{π:List mU}
theorem WH{t:WT}(h:VE X M R .s e t):VP X M R e (λd Q=>t d λw=>Q w d):=PE.imp h<|by rintro o H Q ⟨A,l,d,P,S,g,h,k⟩;exact⟨A,l,d,_,S,g,h,λw v n f s r=>k A w v n d f (.same s) (S.same s) r.bF⟩
theorem QT{t:WT}(h:VT X M R e t):Eo X M R e (λd Q=>t d λw=>Q w d):=PT.imp h<|by rintro o H Q ⟨A,l,d,P,S,g,h,k⟩;exact⟨A,l,d,_,S,g,h,λw n f s=>k A w n d f (.same s) (S.same s)⟩
theorem QU(E:(i,.f)∈M)(C:PE X e (mW i))(n:attributeBase e "pop" X.env (eval e X.env)=eval e X.env)(d:(apos.endLine==cpos.line)=true):
 VP X M R (.Call (.Attribute e "pop" apos) [] [] cpos) (λs Q=>match look s i with|some (.lst l)=>∃w,l[l.length -1]?=some w/\Q w (s.set i (some (.lst l.dropLast)))|_=>False):=
 PE.imp (EY PySem.F.plainAttrs_list PySem.F.slot_list_pop PySem.F.type_list_pop O8 C n d)<|by rintro O H Q ⟨A,Z,s,P,S,Y,h,k⟩;obtain⟨l,L,w,K,h⟩:=z6 h;obtain⟨T,q,r,I,G,y,u,U,o⟩:=vH (π:=[]) S E ZY L QL;cases G;obtain⟨v,J,D⟩:=u.get K;obtain⟨B,N,a2,a3,a4,z⟩:=o H (ay.refl H) l.dropLast r.dropLast u.dropLast;rw[QM]at z;have g:Go A H B (upd H q (.lst r.dropLast)):=⟨N,a2,a3,a4⟩;exact⟨_,I,.inl ⟨rfl,r,.inl (.inl y)⟩,q,r,v,rfl,rfl,y,by rw[u.len];exact J,k B w v _ _ h g z (g.rep D)⟩
theorem QV(ha:VP X M R a ta)(hb:VP X M R b tb):VP X M R (.BinOp a op b pos) (λD Q=>ta D λx G=>tb G λy f=>gM op x y λz=>Q z f):=by rintro n s L H Q I ⟨A,J,D,P,S,T,p,k⟩;refine wpAny_BinOp (bin ha hb I (R:=λC q l=>∃x y d f,gM op x y (λz=>P z f)/\Go A H d l/\SR X.K M d J L l f/\Rep X.K d.B l x C/\Rep X.K d.B l y q) ⟨A,J,D,_,S,T,p,λA1 x C H1 G F g1 S1 Z=>⟨A1,J,G,_,S1,T,F,λd y q l f E O o Y=>⟨x,y,d,f,E,g1.trans O,o,O.rep Z,Y⟩⟩⟩ ?_);rintro v u U C q l I2 rv ru ⟨x,y,d,f,h,g,o,F,E⟩;exact zQ op n U L l d.B x y C q v u _ Q I2 o.dom rv ru F.b E.b h λw z H' pw N r=>k d w z H' f pw (g.trans (.same N)) (o.same N) (r.rep o.dom)
theorem QW(hu:X.A.units+64<cLine)(hm:behindInMarks op b=false)(ha:VP X M R a ta)(hb:VP X M R b tb):VP X M R (.Compare a [op] [b] pos) (λD Q=>ta D λx G=>tb G λy f=>dS op x y λz=>Q z f):=by rintro n s L H Q I ⟨A,J,D,P,S,T,p,k⟩;refine wpAny_Compare1 (bin ha hb I (R:=λC q l=>∃x y d f,dS op x y (λz=>P z f)/\Go A H d l/\SR X.K M d J L l f/\Rep X.K d.B l x C/\Rep X.K d.B l y q) ⟨A,J,D,_,S,T,p,λA1 x C H1 G F g1 S1 Z=>⟨A1,J,G,_,S1,T,F,λd y q l f E O o Y=>⟨x,y,d,f,E,g1.trans O,o,O.rep Z,Y⟩⟩⟩ ?_) hm;rintro v u U C q l I2 rv ru ⟨x,y,d,f,h,g,o,F,E⟩;exact vE hu op n U L l d.B x y C q v u _ Q I2 o.dom rv ru F.b E.b h λw z H' pw N r=>k d w z H' f pw (g.trans (.same N)) (o.same N) (r.rep o.dom)
theorem Lk(hu:X.A.units+64<cLine)(hm:behindInMarks op b=false)(ha:VP X M R a ta)(hb:VP X M R b tb):Eo X M R (.Compare a [op] [b] pos) (λG Q=>ta G λx N=>tb N λy n=>dS op x y λz=>Q z n):=by
 rintro l s F H Q I ⟨A,O,G,P,S,er,p,k⟩;have q:=bin ha hb I (R:=λD C o=>∃x y d n,dS op x y (λz=>P z n)/\Go A H d o/\SR X.K M d O F o n/\Rep X.K d.B o x D/\Rep X.K d.B o y C) ⟨A,O,G,_,S,er,p,λA1 x D H1 N L g1 S1 rx=>⟨A1,O,N,_,S1,er,L,λd y C o n J Z E ry=>⟨x,y,d,n,J,g1.trans Z,E,Z.rep rx,ry⟩⟩⟩
  (f:=compareOp op) (Q:=EP X l F λz T=>∃b,z=.bl b/\Q b T)<|by rintro v u U D C o I2 rv ru ⟨x,y,d,n,h,g,E,L,J⟩;refine vE hu op l U F o d.B x y D C v u _ _ I2 E.dom rv ru L.b J.b h λw z T pw Y r=>?_;obtain⟨b,rfl,q⟩:=k d w T n pw (g.trans (.same Y)) (E.same Y);exact⟨b,r.bF.kI,q⟩
 refine wpAny_isTrue_Compare1 (cg q λv s1 q1=>cg q1 λu U q2=>cg q2 λc s3 ⟨z,H3,I3,r3,b,ez,q3⟩=>?_) hm;subst ez;cases r3;exact kA ⟨H3,I3,q3⟩
theorem vI(n:∀d,isTrue e X.env d=(do let v<-d;standAt e.pos;holding [v] (truthy v)))(h:VP X M R e t):Eo X M R e t:=PT.imp (EB h n)<|by rintro B H Q ⟨A,w,f,P,S,q,h,k⟩;refine⟨A,w,f,P,S,q,h,λy x C u r l o s g=>?_⟩;obtain⟨b,rfl,z⟩:=k y _ u r l o s;exact⟨b,g.kI,z⟩
theorem GL(d:Eo X M R a ta):NS X M R (.BoolOp .And [a] pos) ta:=AN d
theorem Ll(z:Eo X M R a ta)(w:NS X M R (.BoolOp .And (b::rest) pos) tb):NS X M R (.BoolOp .And (a::b::rest) pos) (λg Q=>ta g λx d=>truth x λk=>if k=true then tb d Q else Q (.bl false) d):=
 PW.imp (ED z w)<|by
  rintro I H Q ⟨A,s,g,P,S,n,h,k⟩;refine⟨A,s,g,_,S,n,h,λu x F o f l r=>?_⟩;obtain⟨q,rfl,f⟩:=bD f;refine⟨q,rfl,?_⟩;cases q with
  |true=>exact⟨u,s,o,P,r,n,f,λG y E C v B D=>k G _ E C v (l.trans B) D⟩
  |false=>obtain⟨b,e,q⟩:=k u _ F o f l r;cases e;exact q
theorem Lm(d:Eo X M R a ta):NS X M R (.BoolOp .Or [a] pos) ta:=EC d
theorem QX(z:Eo X M R a ta)(w:NS X M R (.BoolOp .Or (b::rest) pos) tb):NS X M R (.BoolOp .Or (a::b::rest) pos) (λg Q=>ta g λx d=>truth x λk=>if k=true then Q (.bl true) d else tb d Q):=
 PW.imp (Ni z w)<|by
  rintro I H Q ⟨A,s,g,P,S,n,h,k⟩;refine⟨A,s,g,_,S,n,h,λu x F o f l r=>?_⟩;obtain⟨q,rfl,f⟩:=bD f;refine⟨q,rfl,?_⟩;cases q with
  |false=>exact⟨u,s,o,P,r,n,f,λG y E C v B D=>k G _ E C v (l.trans B) D⟩
  |true=>obtain⟨b,e,q⟩:=k u _ F o f l r;cases e;exact q
theorem Lo:Jm X M R [] (λd Q=>Q [] d):=PA.imp cW<|by rintro f H Q ⟨A,l,d,P,S,g,h,k⟩;exact k A [] [] H d h (.same (ay.refl H)) S .nil
theorem GN(w:starEach (a::es) X.env=(false,eval a X.env)::starEach es X.env)(z:VP X M R a ta)(y:Jm X M R es tl):Jm X M R (a::es) (λd Q=>ta d λx l=>tl l λn g=>Q (x::n) g):=
 PA.imp (aZ z y w)<|by rintro I H Q ⟨A,r,d,P,S,q,h,k⟩;refine⟨A,r,d,_,S,q,h,λG x J L l v B D s=>⟨G,r,l,_,D,q,v,λF n K E g f o C u=>?_⟩⟩;exact k F _ _ E g f (B.trans o) C (.cons (o.rep s) u)
theorem WI(O:oS b)(U:VP X M R a ta)(T:VP X M R b tb):VP X M R (.Subscript a b pos) (λr Q=>ta r λx F=>tb F λy o=>NN x y λz=>Q z o):=PE.imp (Np EW U T O)<|by
 rintro σ H Q ⟨A,L,r,P,S,K,h,k⟩;refine⟨A,L,r,_,S,K,h,λZ x vx H1 F N D Y f=>⟨Z,L,F,_,Y,K,N,λJ y vy I o d q G u=>?_⟩⟩;have f:=(q.rep f).b;cases x with
 |lst l=>
  cases y with
  |int i=>obtain⟨p,s,rfl,g,C⟩:=f.lst;obtain⟨w,e,d⟩:=d;obtain⟨v,E,B⟩:=BQ C e;exact .inl ⟨p,s,i,v,rfl,u.int_inv,.inl g.rd,E,k J _ _ I o d (D.trans q) G B⟩
  |_=>exact d.elim
 |tup l=>
  cases y with
  |int i=>obtain⟨p,s,rfl,g,C⟩:=f.tup;obtain⟨w,e,d⟩:=d;obtain⟨v,E,B⟩:=BQ C e;exact .inr (.inl ⟨p,s,i,v,rfl,u.int_inv,g,E,k J _ _ I o d (D.trans q) G B⟩)
  |_=>exact d.elim
 |jX ns=>
  cases y with
  |int i=>obtain⟨p,rfl,g⟩:=f.jX;obtain⟨n,e,d⟩:=d;exact .inl ⟨p,_,i,_,rfl,u.int_inv,g,BR e,k J _ _ I o d (D.trans q) G (gc _)⟩
  |_=>exact d.elim
 |_=>exact d.elim
theorem aj.bl{K:Frag}:∀{d:List W}{vs:List V},aj K B H d vs->n9 K B H d vs
 |[],_,h=>h.nil_inv
 |w::d,_,h=>by obtain⟨v,r,rfl,g,f⟩:=h.cons_inv;exact⟨v,r,rfl,g.b,f.bl⟩
theorem QY(L:dD X (.builtin s) (Qz X.K y))(I:Gl X x)(G:X.mg x=none)(E:bootBuiltins x=some (.builtin s))(N:Jm X M R (e::es) tl)(F:x≠"__name__")(n:(x==("__debug__":Str))=false)
 (J:starEach (e::es) X.env=(false,eval e X.env)::starEach es X.env)(l:(backTo pos (starEach es X.env)).any (·.1)=false):VP X M R (.Call (.Name x p) (e::es) [] pos) (λf Q=>tl f λg d=>sF y g λw=>Q w d):=
 PE.imp (jd L I G E N F n J l)<|by rintro Z H Q ⟨A,U,f,P,S,T,h,k⟩;exact⟨A,U,f,_,S,T,h,λz g vs H1 u D O o C=>⟨z.B,g,λw=>P w u,o.dom,C.bl,D,λw v Y pw q r=>k z w v Y u pw (O.trans (.same q)) (o.same q) (r.rep o.dom)⟩⟩
theorem QZ(L:dD X (.type s) (Qz X.K y))(I:Gl X x)(G:X.mg x=none)(E:bootBuiltins x=some (.type s))(N:Jm X M R (e::es) tl)(F:x≠"__name__")(n:(x==("__debug__":Str))=false)
 (J:starEach (e::es) X.env=(false,eval e X.env)::starEach es X.env)(l:(backTo pos (starEach es X.env)).any (·.1)=false):VP X M R (.Call (.Name x p) (e::es) [] pos) (λf Q=>tl f λg d=>sF y g λw=>Q w d):=
 PE.imp (t8 L I G E N F n J l)<|by rintro Z H Q ⟨A,U,f,P,S,T,h,k⟩;exact⟨A,U,f,_,S,T,h,λz g vs H1 u D O o C=>⟨z.B,g,λw=>P w u,o.dom,C.bl,D,λw v Y pw q r=>k z w v Y u pw (O.trans (.same q)) (o.same q) (r.rep o.dom)⟩⟩
theorem Lq(o:∀{q:TE},PE X e q->PS X st (pO q (iU j)))(z:¬aV M j){tt:(Addr->Prop)->yc}(B:∀R,VP X M R e (tt R)):VS X M m st (λd n=>tt d.ex n λw f=>d.nx (f.set j (some w))):=by rintro l s u H D I ⟨A,G,n,d,S,C,hz,h,k⟩;exact o (B d.ex) l s u H D I ⟨A,G,n,_,S,C,h,λJ w v F f y g E r=>k.nx J _ _ F g.ab g.s0 y (E.set z r)⟩
theorem Q0(u:∀{y:TE},PE X e y->PS X st (pO y (gT X.K false o)))(E:∀i∈o,¬aV M i){tt:(Addr->Prop)->yc}(F:∀R,VP X M R e (tt R)):
 VS X M m st (λd q=>tt d.ex q λw f=>match w with|.tup l=>l.length=o.length/\d.nx (cI f o l)|_=>False):=by
 rintro n s B H D I ⟨A,O,q,d,S,G,hz,h,k⟩;refine u (F d.ex) n s B H D I ⟨A,O,q,_,S,G,h,λQ w v N f z g J r=>?_⟩;cases w with
 |tup l=>exact tgt (P:=d.nx) E J r z λT U C L=>k.nx Q _ _ N g.ab g.s0 C L
 |_=>exact z.elim
theorem Q2{x y:List Stmt}{tx v:WS}{tt:(Addr->Prop)->yc}(E:∀R,Eo X M R c (tt R))(G:z5 X M m x tx)(F:z5 X M m y v):VS X M m (.If c x y pos) (λd o=>tt d.ex o λx f=>truth x λk=>if k=true then tx d f else v d f):=by
 rintro l s C H D I ⟨A,u,o,d,S,r,hz,h,k⟩;refine Nk (E d.ex) G F l s C H D I ⟨A,u,o,_,S,r,h,λB x J w n g z=>?_⟩;obtain⟨q,rfl,n⟩:=bD n;refine⟨q,rfl,?_⟩;cases q with
 |true=>exact⟨B,u,w,d,z,r,(by rw[g.s0];exact hz),n,by rw[g.ab,g.s0];exact k⟩
 |false=>exact⟨B,u,w,d,z,r,(by rw[g.s0];exact hz),n,by rw[g.ab,g.s0];exact k⟩
theorem Q3{tb:WS}{tt:(Addr->Prop)->yc}(hp:PassesOwn (model X.prog X.w) X.A X.env X.xe)(hc:∀R,Eo X M R c (tt R))(hb:z5 X M m v tb):VS X M m (.While c v [] pos) (λd G=>Wr (λG Q=>tt d.ex G λx f=>truth x λk=>Q k f) tb d G):=by
 rintro O s σ H D I ⟨A,P,G,d,S,T,hz,h,k⟩;refine w6 hp (hc d.ex) hb O s σ H D I ?_;obtain⟨J,⟨m0,j0⟩,L⟩:=h;refine⟨λn o y=>∃r f,r.ab=A.ab/\r.s0=A.s0/\J n f/\SR X.K M r P o y f,⟨m0,A,G,rfl,rfl,j0,S⟩,?_⟩;rintro n σ1 H1 ⟨A1,U,C,u,j1,S1⟩;refine⟨A1,P,U,_,S1,T,L n U j1,λZ x H2 eK F g Y=>?_⟩;obtain⟨q,rfl,F⟩:=bD F;refine⟨q,rfl,?_⟩;have C:=g.ab.trans C;have u:=g.s0.trans u;cases q with
 |true=>obtain⟨N,hN,F⟩:=F;refine⟨λo y=>∃r f,r.ab=A.ab/\r.s0=A.s0/\N f/\SR X.K M r P o y f,λo y ⟨r,f,E,a2,B,z⟩=>?_,Z,P,eK,⟨N,d.rt,d.nx,N,d.ex⟩,Y,T,(by rw[u];exact hz),F,⟨λr f o y E a2 B z=>⟨r,f,E.trans C,a2.trans u,B,z⟩,by rw[C,u];exact k.rt,λr f o y E a2 B z=>k.nx r f o y (E.trans C) (a2.trans u) B z,λr f o y E a2 B z=>⟨r,f,E.trans C,a2.trans u,B,z⟩⟩⟩;obtain⟨m',l,j'⟩:=hN f B;exact⟨m',l,r,f,E,a2,j',z⟩
 |false=>exact k.nx Z _ _ H2 C u F Y
theorem Q4{te:(Addr->Prop)->WT}(y:∀R,VE X M R .s e (te R))(z:(0,m0)∈M):VS X M (.io m0) (.Return (some e) pos) (λd f=>te d.ex f λw=>match look f 0 with|some o=>(d.rt (.tup [w,o]))|none=>False):=by
 rintro g s u H D I ⟨A,E,f,d,S,B,hz,h,k⟩;refine mZ (y d.ex) g s u H D I ⟨A,E,f,_,S,B,h,λw v C l q r=>?_⟩;cases n:look f 0 with
 |none=>rw[n]at l;exact l.elim
 |some o=>rw[n]at l;exact k.rt _ v C l (S.sm.trans q) (pF (S.same q) z n (X1.mp hz) r.bF)
theorem Q5(q:(0,m0)∈M):VS X M (.io m0) (.Return none pos) (λd g=>match look g 0 with|some n=>(d.rt (.tup [.bV,n]))|none=>False):=by
 rintro f s o H D I ⟨A,u,g,d,S,r,hz,h,k⟩
 try dsimp only at h
 cases l:look g 0 with
 |none=>rw[l]at h;exact h.elim
 |some n=>rw[l]at h;exact AO f s o H D I (k.rt _ _ H h S.sm (pF S q l (X1.mp hz) Ws))
end
def WJ(X:Cx)(M:Ms)(R:Addr->Prop)(t:yc):TI:=λa H Q=>∃A d f P,SR X.K M A d a H f/\ER X d R/\t f P/\∀z e h c,P z h->Go A H e c->SR X.K M e d a c h->∃g,itemsOf z=some g/\∀J b,ay c b->BV X.K false (FB e M a) b J g->Q J b
section
variable{X:Cx}{M:Ms}{m:Md}{body:List Stmt}{tb:WS}{a iter tg:Expr}{pos p:Pos}{one:Bool}{ts:List Nat}
theorem GO{ti:(Addr->Prop)->yc}(hc:X.calm=true)(hM:∀i∈ts,¬aV M i)(hp:PassesOwn (model X.prog X.w) X.A X.env X.xe)(hi:∀R,PI X tg iter (WJ X M R (ti R)))(hg:PG X tg (gT X.K one ts))(hb:z5 X M m body tb)(hs:∀x,foldedSetIterable iter X.env x=pure x):
 VS X M m (.For tg iter body [] pos) (λd ε=>ti d.ex ε λz b=>items z λl=>iG (λw C b=>wT one ts w b λr=>tb C r) d l b):=by
 rintro Q s σ H D I ⟨A,H0,ε,d,S,er,hz,h,k⟩;refine OR hp hc (hi d.ex) hg hb hs Q s σ H D I ?_;refine⟨A,H0,ε,_,S,er,h,λz P cD H1 hz' g S1=>?_⟩;obtain⟨l,ez,hw⟩:=uw.mp hz';refine⟨l,ez,λJ H2 s2 it=>?_⟩;have S1:=S1.same s2;have ga:=g.ab;have gb:=g.s0;obtain⟨Y,Ss,U,b1,b2⟩:=S1.rb;have low:BV X.K false P.ab Y J l:=it.low (λp o e=>b2 p o e) λp z=>S1.sub' p z;have iw:=low.iw;refine⟨λi n f t=>n=l.length -i/\i<=l.length/\∃c b,c.ab=P.ab/\c.s0=P.s0/\SR X.K M c Y f t b/\iG (λw C b=>wT one ts w b λr=>tb C r) d (l.drop i) b,⟨l.length,rfl,PQ _,P,cD,rfl,rfl,Ss,hw⟩,?_⟩;have up:∀{c:Fz}{f:St}{t:Hp}{b:Ev},SR X.K M c Y f t b->SR X.K M c H0 f t b:=λ{c f t b} q=>by obtain⟨F,O⟩:=q.ow;exact⟨q.len,q.sh,U.trans q.sm,q.dm,q.sl,F,⟨O.un,O.val,O.emp,O.nd,O.ds,λi p hi e=>U.free (O.nw i p hi e),O.na,O.all⟩⟩
 rintro i n σ2 H2 ⟨rfl,hi2,A2,eK,L,G,N,kU⟩;by_cases B:i<l.length
 .refine .inr ⟨iw.go i H2 N.sm B,λf t=>∃c b,c.ab=P.ab/\c.s0=P.s0/\SR X.K M c Y f t b/\iG (λw C b=>wT one ts w b λr=>tb C r) d (l.drop (i+1)) b,by rintro f t ⟨c,b,E,a2,v,u⟩;exact⟨l.length -(i+1),by omega,rfl,B,c,b,E,a2,v,u⟩,λx H3 y=>?_⟩;have hwi:l[i]?=some l[i]:=DL B;rw[eD B,iG]at kU;generalize l[i]=w at*;obtain⟨s3,T⟩:=iw.yl i H2 x H3 w N.sm hwi y;have hr:Rep X.K (FB A2 M σ2) H3 w x:=T _ λp o e z=>by
   obtain⟨F,O⟩:=N.ow;rcases(O.all p).mp z with z|⟨j,hj,e2⟩
   .rw[L]at z;exact z
   .rw[O.nw j p hj e2]at e;cases e
  refine tgt hM (N.same s3) hr kU λvs b hp S4=>?_;exact⟨A2,Y,b,⟨iG (λw C b=>wT one ts w b λr=>tb C r) d (l.drop (i+1)),d.rt,d.nx,iG (λw C b=>wT one ts w b λr=>tb C r) d (l.drop (i+1)),d.ex⟩,S4,er.up U,(by rw[G,gb];exact hz),hp,⟨λc r WK Z E a2 v u=>⟨c,r,E.trans L,a2.trans G,u,v⟩,λw' v' t v u q3=>k.rt w' v' t v (U.trans u) (by rw[L,G,ga,gb]at q3;exact q3.back U),λc r WK Z E a2 v u=>k.nx c _ _ _ ((E.trans L).trans ga) ((a2.trans G).trans gb) v (up u),λc r WK Z E a2 v u=>⟨c,r,E.trans L,a2.trans G,u,v⟩⟩⟩
 .have e:i=l.length:=by lia
  subst e;refine .inl ⟨iw.st _ H2 N.sm rfl,?_⟩;rw[wb,iG]at kU;exact k.nx A2 _ _ _ (L.trans ga) (G.trans gb) kU (up N)
theorem Q6{ti:(Addr->Prop)->WT}(t:X.calm=true)(v:∀i∈ts,¬aV M i)(o:PassesOwn (model X.prog X.w) X.A X.env X.xe)(r:∀R,PI X tg iter (GG X M R false (ti R)))(s:PG X tg (gT X.K one ts))(u:z5 X M m body tb)(n:∀x,foldedSetIterable iter X.env x=pure x):
 VS X M m (.For tg iter body [] pos) (λd b=>ti d.ex b λz=>items z λf=>iG (λw E c=>wT one ts w c λB=>tb E B) d f b):=
 GO (ti:=λR b Q=>ti R b λz=>Q z b) t v o (λR=>PI.imp (r R)<|by rintro F H Q ⟨A,D,b,P,S,y,h,k⟩;refine⟨A,D,b,_,S,y,h,λz hz=>?_⟩;obtain⟨f,e,_⟩:=k z A b H hz (.same (ay.refl _)) S;refine⟨f,e,λJ C j l=>?_⟩;obtain⟨G,g,q⟩:=k z A b H hz (.same (ay.refl _)) S;rw[e]at g;cases g;exact q J C j l) s u n
theorem GP(s:Gl X "range")(q:X.mg "range"=none)(t:VP X M R a ta)(e:starEach [a] X.env=(false,eval a X.env)::starEach [] X.env):
 PI X tg (.Call (.Name "range" p) [a] [] pos) (WJ X M R (λc Q=>ta c λx b=>vC [x] λl=>Q (.lst l) b)):=
 PI.imp (tU s q (aZ t cW e) e)<|by
  rintro B H Q ⟨A,y,c,P,S,u,h,k⟩;refine⟨A,y,c,_,S,u,h,λz x i f v hz g w d=>?_⟩;cases x with
  |int j=>obtain⟨o,n,hz⟩:=hz;obtain⟨C,r,k⟩:=k _ z v f hz g w;cases r;have d:i=.int j:=d;subst d;exact⟨j,rfl,o,n,k _ f (ay.refl _) (.j3 0 j.toNat)⟩
  |_=>exact hz.elim
end
section
variable{X:Cx}{M:Ms}{R:Addr->Prop}{m m0:Md}{e o a b c:Expr}{es rest:List Expr}{t ta tb:yc}{tl:NR}{pos apos cpos p:Pos}{i j n:Nat}{st:Stmt}{x:Str}{π:List mU}
theorem Lr(F:cu X.prog X.w X.K X.mg X.base k fv n (Jl X.K n m sp))(hr:cV k X.A)(hg:Gl X x)(hm:X.mg x=some fv)
 (hn:∀d P R,sp d P R->d.length=n)(ha:Jm X M R (e::es) tl)(N:(x==("__debug__":Str))=false)(he:starEach (e::es) X.env=(false,eval e X.env)::starEach es X.env)(L:(backTo pos (starEach es X.env)).any (·.1)=false):
 VP X M R (.Call (.Name x p) (e::es) [] pos) (λD Q=>tl D λd z=>sp d (λw=>Q w z) R):=by
 rintro q s U H Q I ⟨A,H0,D,P,S,er,h,kk⟩;obtain⟨E,Z,hE,hR⟩:=er;refine eQ (gg I hg hm ?_ N);refine ma (h₀:=X.base) I.ok.mod.Nd F.keep (cg (ha pos q s U H (λG u=>∃d f g,Go A H f u/\SR X.K M f H0 U u g/\aj X.K f.B u d G/\sp d (λw=>P w g) R) I ⟨A,H0,D,_,S,⟨E,Z,hE,hR⟩,h,λf d G u g hw O l J=>⟨d,f,g,O,l,J,hw⟩⟩) λus s1 ⟨G,u,I1,r,d,f,g,O,l,J,Y⟩=>⟨I1.kX,?_⟩) he L;exact F.run hr (Z _ _) I1 r ⟨f.B,d,_,R,hn _ _ _ Y,J,l.dom,Y,λw v T pw y r'=>kk f w v T g pw (O.trans (.same y)) (l.same y) (r'.rep l.dom),λC T rc y=>hE C T rc (l.sm.trans y)⟩
theorem NT{K:Frag}{sp:aY}{g:List W}{vs:List V}{P:W->Ev->Prop}{Q:VK}{E:XK}{s:V}(S:SR K M A L l H q)(G:(i,m0)∈M)(T:look q i=some k)(N:l[i]?=some (some s))(Z:aj K A.B H g vs)(hn:g.length+1=n)
 (h:sp (k::g) (λr=>∃w y,r=.tup [w,y]/\P w (q.set i (some y))) R)(hE:∀C H',R C->ay L H'->E (.ref C) none H')(kk:∀f w v H' d,P w d->Go A H f H'->SR K M f L l H' d->Rep K f.B H' w v->Q v H'):QA K n m0 sp (s::vs) H Q E:=by
 obtain⟨F,O⟩:=S.ow;obtain⟨v,U,h2⟩:=O.val i m0 k G T;rw[N]at U;cases U;have I:aV M i:=⟨m0,G⟩;have Y:∀p,((A.B p/\p∉F i)\/p∈F i)->A.B p:=λp z=>by
  rcases z with z|z
  .exact z.1
  .exact(O.all p).mpr (.inr ⟨i,I,z⟩)
 refine⟨λp=>A.B p/\p∉F i,F i,k,s,g,vs,_,R,rfl,hn,O.nd i I,λp hp z=>z.2 hp,λp z=>S.dom p z.1,Fp.mv (ay.refl _) (λp _ _ z=>Y p z) m0 h2,Z.less Y,h,λw y v F' H' D J nd nw fp u=>?_,λC H' rc J=>hE C H' rc λp o e=>?_⟩
 .obtain⟨w',y',e,D⟩:=D;cases e;obtain⟨f,a1,a2,aB,a3,a4,S'⟩:=O.chg (F':=F') S G T N (λp o e=>(J p o e).imp (λz=>⟨z.1,z.2⟩) id) nd nw fp;exact kk f w v H' _ D ⟨a1,a2,a3,a4⟩ S' (u.less λp z=>(aB p).mp z)
 .rcases J p o (S.sm p o e)with⟨_,z⟩|z
  .rw[O.nw i p I z]at e;cases e
  .exact z
theorem Q7(F:cu X.prog X.w X.K X.mg X.base k fv n (QA X.K n m0 sp))(hr:cV k X.A)(hg:Gl X x)(hm:X.mg x=some fv)(hi:(i,m0)∈M)
 (hn:∀f P R,sp f P R->f.length=n)(hv:PE X e (mW i))(ha:Jm X M R es tl)(Z:(x==("__debug__":Str))=false)(he:starEach (e::es) X.env=(false,eval e X.env)::starEach es X.env)(U:(backTo pos (starEach es X.env)).any (·.1)=false):
 VP X M R (.Call (.Name x p) (e::es) [] pos) (λG Q=>match look G i with|some _=>(tl G λf l=>match look l i with|some q=>sp (q::f) (λr=>∃w y,r=.tup [w,y]/\Q w (l.set i (some y))) R|none=>False)|none=>False):=by
 rintro J s σ H Q I ⟨A,H0,G,P,S,er,h,kk⟩;obtain⟨E,pE,hE,hR⟩:=er
 try dsimp only at h
 cases Y:look G i with
 |none=>rw[Y]at h;exact h.elim
 |some w1=>
  rw[Y]at h;obtain⟨F0,O0⟩:=S.ow;obtain⟨v0,L,_⟩:=O0.val i m0 w1 hi Y;refine eQ (gg I hg hm ?_ Z);refine ma (h₀:=X.base) I.ok.mod.Nd F.keep (cg (aZ hv ha he pos J s σ H (λO N=>∃f u D C q,O=v0::u/\Go A H D N/\SR X.K M D H0 σ N C/\aj X.K D.B N f u/\look C i=some q/\sp (q::f) (λr=>∃w y,r=.tup [w,y]/\P w (C.set i (some y))) R) I ⟨v0,L,A,H0,G,_,S,⟨E,pE,hE,hR⟩,h,λD f O N C z g1 S1 T=>?_⟩) λus s1 ⟨O,N,I1,r,f,u,D,C,q,ev,g1,S1,T,d,sj⟩=>⟨I1.kX,?_⟩) he U
  .try dsimp only at z
   cases d:look C i with
   |none=>rw[d]at z;exact z.elim
   |some q=>rw[d]at z;exact⟨f,O,D,C,q,rfl,g1,S1,T,d,z⟩
  .subst ev;exact F.run hr (pE _ _) I1 r (NT S1 hi d L T (by have:=hn _ _ _ sj;simpa using this) sj hE λA' w v H' l z g S' rr=>kk A' w v H' l z (g1.trans g) S' rr)
end
theorem Q8:∀(l:List Str)(r:List V),l.contains x=false->(l.zip r).lookup x=none:=λl=>by
 induction l with
 |nil=>intro r _;rfl
 |cons y l b=>
  intro r a;cases r with
  |nil=>rfl
  |cons z r=>rw[List.contains_cons,Bool.or_eq_false_iff]at a;rw[G1,D1,a.1];exact b r a.2
theorem Q9{n:Nat}:∀(l:List Str)(r:List V)(n:Nat),l.Nodup->l[n]?=some x->r[n]?=some v->(l.zip r).lookup x=some v:=λl=>by
 induction l with
 |nil=>intro r n _ e _;exact nn e
 |cons y l g=>
  intro r n b c a;cases r with
  |nil=>exact nn a
  |cons z r=>
   rw[G1,D1];cases n with
   |zero=>
    cases c;cases a;rw[ox]
   |succ n=>
    have d:l[n]?=some x:=by simpa using c
    have f:(x==y)=false:=by rw[kb];rintro rfl;exact(cw.mp b).1 (SL d)
    rw[f];exact g r n (cw.mp b).2 d (by simpa using a)
theorem Ls:∀(l:List Str)(r:List V)(n:Nat),l.Nodup->l[n]?=some x->r.length=l.length->ia x v (l.zip r)=l.zip (r.set n v):=λl=>by
 induction l with
 |nil=>intro r n _ e _;exact nn e
 |cons y l g=>
  intro r n b d c;cases r with
  |nil=>cases c
  |cons z r=>
   cases n with
   |zero=>
    cases d;rw[List.set_cons_zero,G1,G1,ia];rw[Bi (by first|rfl|simp)]
   |succ n=>
    have f:l[n]?=some x:=by simpa using d
    have a:y≠x:=by rintro rfl;exact(cw.mp b).1 (SL f)
    rw[eB,G1,G1,ia];rw[BM (by first|exact a|simpa using a),g r n (cw.mp b).2 f (by simpa using c)]
section
variable{X:Cx}{M:Ms}{R:Addr->Prop}{m m0:Md}{e o a b c:Expr}{es rest:List Expr}{t ta tb:yc}{tl:NR}{pos apos cpos p:Pos}{i j n:Nat}{st:Stmt}{x:Str}{π:List mU}
theorem Lv{G:W}{ms:List Md}{sp:aY}(hG:∀C,G=.cls C->Meth X.K C x f)(F:b8 X.prog X.w X.K X.mg X.base (je X.prog X.w) k f Z ps (QA X.K n (.o D ms) sp))(hr:cV k X.A)(hb:Binds X.K Z ps [])(Y:(i,.o D ms)∈M)(hx:D.contains x=false)
 (hn:∀T P R,sp T P R->T.length=n)(hv:PE X o (mW i))
 (ht:eval (.Call (.Attribute o x apos) [] [] pos) X.env=(do
   let ov<-eval o X.env
   standAt apos.atName
   let(f,first)<-holding [ov] (getMethod ov x pl)
   callWith pos f first (backTo pos (starEach [] X.env)) (backToKw pos (keywordEach [] X.env)))):
 VP X M R (.Call (.Attribute o x apos) [] [] pos) (λd Q=>match look d i with|some (.obj C _ _)=>G=.cls C/\(match look d i with|some w0=>sp [w0] (λr=>∃w y,r=.tup [w,y]/\Q w (d.set i (some y))) R|none=>False)|_=>False):=by
 rintro l s σ H Q I ⟨A,H0,d,P,S,er,h,kk⟩;obtain⟨E,pE,hE,hR⟩:=er
 try dsimp only at h
 cases B:look d i with
 |none=>rw[B]at h;exact h.elim
 |some w1=>
  rw[B]at h;cases w1 with
  |obj C fs' ws1=>obtain⟨hg,h⟩:=h;obtain⟨F0,O0⟩:=S.ow;obtain⟨v0,z,N⟩:=O0.val i _ _ Y B;obtain⟨C',dx,n8,q,L,F',e1,rfl,e3,h1,h2,hc,_⟩:=N;cases e1;have U:=hG C hg;refine PySem.W.methodCall_KW (pl:=pl) (cg (hv l s σ H (λv' O=>v'=V.ref q/\O=H) I ⟨_,z,rfl,rfl⟩) λu s1 ⟨x1,H1,I1,rx,ex,eh⟩=>?_) ht;subst ex;subst eh;obtain rfl:u=Value.ref q:=rx;refine yU I1 h1 hc.1 U (Q8 D L hx) ?_;refine PySem.W.callWith_K0 (first:=[.ref q]) I1.kX U.kp (ET (us:=[.ref q]) (vs:=[.ref q]) (ds:=[]) (Jf:=[]) F hr hb .nil (pE _ _) I1 (.cons rfl .nil) ?_);exact NT S Y B z .nil (by have:=hn _ _ _ h;simpa using this) h hE λA' w v O J hw g S' rr=>kk A' w v O J hw g S' rr
  |_=>exact h.elim
theorem SR.more{K:Frag}{G:List Addr}(S:SR K M A u h H k)(s:ay H H1)(nw:∀q∈G,H q=none)(ex:∀q∈G,∃o,H1 q=some o):SR K M ⟨λq=>A.ab q\/q∈G,λq=>A.B q\/q∈G,A.s0⟩ u h H1 k:=by
 obtain⟨F,O⟩:=S.ow;have r:∀p o,H p=some o->(A.B p\/p∈G)->A.B p:=λp o e z=>by
  rcases z with z|z
  .exact z
  .rw[nw p z]at e;cases e
 refine⟨S.len,λi w d e=>?_,S.sm.trans s,λp z=>?_,S.sl,F,⟨O.un,λi m w y e=>?_,O.emp,O.nd,O.ds,O.nw,λi p d l z=>?_,λp=>?_⟩⟩
 .obtain⟨v,g,f⟩:=S.sh i w d e;exact⟨v,g,Rep.mv s r w f⟩
 .rcases z with z|z
  .exact S.dm.same s p z
  .exact ex p z
 .obtain⟨v,g,f⟩:=O.val i m w y e;exact⟨v,g,Fp.mv s r m f⟩
 .rcases z with z|z
  .exact O.na i p d l z
  .obtain⟨o,e,_⟩:=O.has d l;rw[nw p z]at e;cases e
 .show(A.B p\/p∈G)↔_;rw[O.all p];constructor
  .rintro((z|z)|z)
   .exact .inl (.inl z)
   .exact .inr z
   .exact .inl (.inr z)
  .rintro((z|z)|z)
   .exact .inl (.inl z)
   .exact .inr z
   .exact .inl (.inr z)
theorem Ra{ta:WT}(F:cu X.prog X.w X.K X.mg X.base k fv n (QA X.K n m0 sp))(hr:cV k X.A)(hg:Gl X x)(hm:X.mg x=some fv)
 (hn:∀f P R,sp f P R->f.length=n)(hv:VE X M R m0 e ta)(ha:VA X M R es ts)(hdb:(x==("__debug__":Str))=false)(he:starEach (e::es) X.env=(false,eval e X.env)::starEach es X.env)(hpl:(backTo pos (starEach es X.env)).any (·.1)=false):
 VE X M R .s (.Call (.Name x p) (e::es) [] pos) (λJ Q=>ta J λx=>ts J λf=>sp (x::f) (λr=>∃w y,r=.tup [w,y]/\Q w) R):=by
 rintro L s σ H Q I ⟨A,H0,J,P,S,er,h,kk⟩;obtain⟨E,pE,hE,hR⟩:=er;refine eQ (gg I hg hm ?_ hdb);refine ma (h₀:=X.base) I.ok.mod.Nd F.keep (cg (aZ hv ha he pos L s σ H (λvs O=>∃g l f d G,vs=l::d/\ay H O/\G.Nodup/\(∀q∈G,H q=none)/\Fp X.K (λq=>A.B q\/q∈G) O m0 g l G/\aj X.K (λq=>A.B q\/q∈G) O f d/\sp (g::f) (λr=>∃w y,r=.tup [w,y]/\P w) R) I ⟨A,H0,J,_,S,⟨E,pE,hE,hR⟩,h,λg l H1 N Z r0=>?_⟩) λus Z ⟨vs,O,I2,r,g,l,f,d,G,ev,sm,nd,D,U,rs,sj⟩=>⟨I2.kX,?_⟩) he hpl
 .obtain⟨G,nd,D,U⟩:=r0;have S1:=S.more Z D λq hq=>let⟨o,e,_⟩:=Fp.mu m0 U q hq;⟨o,e⟩
  exact⟨_,H0,J,_,S1,⟨E,pE,hE,hR⟩,N,λf d O hws T rs=>⟨g,l,f,d,G,rfl,Z.trans T,nd,D,Fp.mv T (λ_ _ _ z=>z) m0 U,rs,hws⟩⟩
 .subst ev;refine F.run hr (pE _ _) I2 r ⟨A.B,G,g,l,f,d,_,R,rfl,by have:=hn _ _ _ sj;simpa using this,nd,λq hq=>S.dom.no (D q hq),S.dom.same sm,U,rs,sj,λw y v F' Y N hc _ WL _ rw'=>?_,λC Y rc hc=>hE C Y rc λq u e=>?_⟩
  .obtain⟨w',y',e,N⟩:=N;cases e;have T:ay H Y:=λq u e=>by
    rcases hc q u (sm q u e)with⟨_,z⟩|z
    .rw[D q z]at e;cases e
    .exact z
   exact kk w v Y N T (.of (rw'.less λq z=>.inl z))
  .have e2:=S.sm q u e;rcases hc q u (sm q u e2)with⟨_,z⟩|z
   .rw[D q z]at e2;cases e2
   .exact z
theorem Rb(h:PE X e (mW i)):PE X e (zY X.K i []):=PE.imp h<|by rintro g H Q ⟨v,u,f,d,q⟩;cases d;exact⟨v,f,q⟩
theorem Jh.fl{K:Frag}:∀(π:List mU){v u:V},Jh K H v (π++[.fl n f]) u->∃p vs C g d,Jh K H v π (.ref p)/\H p=some (.ins C g (List.zip d vs))/\zN K C d/\d[n]?=some f/\vs[n]?=some u
 |[],v,u,h=>by obtain⟨p,vs,x,e,⟨C,g,d,s,_,y,w⟩,r,l⟩:=h;cases l;exact⟨p,vs,C,g,d,by rw[e];rfl,s,y,w,r⟩
 |.fl m _::π,v,u,h=>by obtain⟨p,vs,x,e,s,r,l⟩:=h;obtain⟨q,k,C,g,d,a,b,c⟩:=Jh.fl π l;exact⟨q,k,C,g,d,⟨p,vs,x,e,s,r,a⟩,b,c⟩
theorem Rc(h:PE X a (zY X.K i π))(s:attributeBase a f X.env (eval a X.env)=eval a X.env):PE X (.Attribute a f pos) (zY X.K i (π++[.fl n f])):=
 PE.imp (OY h s)<|by rintro E H Q ⟨v,u,A,z,l⟩;obtain⟨q,k,C,D,B,r,y,d,g,w⟩:=Jh.fl π z;exact⟨v,.ref q,A,r,q,C,D,_,u,rfl,y,d.1,d.2.2.2 f (SL g),Q9 (v:=u) (n:=n) B k n d.2.2.1 g w,l⟩
theorem Rf{te:(Addr->Prop)->WT}(hps:∀{tv:TE},PE X e tv->PS X st (Vi X.K (mW i) tv f))(J:(i,.o g ms)∈M)(hf:g[n]?=some f)(hm:ms[n]?=some .s)(he:∀R,VE X M R .s e (te R)):
 VS X M m st (λd y=>te d.ex y λw=>match look y i with|some (.obj C g u)=>n<u.length/\d.nx (y.set i (some (.obj C g (u.set n w))))|_=>False):=by
 rintro L s σ H D I ⟨A,H0,y,d,S,er,hz,h,k⟩;refine hps (he d.ex) L s σ H D I ⟨A,H0,y,_,S,er,h,λw v H1 l s1 r=>?_⟩
 try dsimp only at l
 cases U:look y i with
 |none=>rw[U]at l;exact l.elim
 |some w1=>
  rw[U]at l;cases w1 with
  |obj C fs' u=>
   obtain⟨hn,l⟩:=l;have S1:=S.same s1;obtain⟨F,O⟩:=S1.ow;obtain⟨v0,P,fp⟩:=O.val i _ _ J U;obtain⟨C',T,n8,q,E,F',e1,rfl,Z,Y,h2,Q,h3⟩:=fp;cases e1;have r:=r.bF;have hB:A.B q:=(O.all q).mpr (.inr ⟨i,⟨_,J⟩,by rw[Z];exact FK⟩);obtain⟨w0,hw0⟩:∃w0,u[n]?=some w0:=⟨_,DL hn⟩;obtain⟨v1,F1,G,F2,q1,e4,q3,q4⟩:=jK.at ms h3 hm hw0;obtain⟨rfl,_⟩:=q3;have cB:wY A.B H1 (upd H1 q (.ins C T (g.zip (E.set n v)))):=.put Y rfl hB;have ZX:q∉F':=by have:=O.nd i ⟨_,J⟩;rw[Z]at this;exact(cw.mp this).1
   have fp':jK X.K A.B (upd H1 q (.ins C T (g.zip (E.set n v)))) ms (u.set n w) (E.set n v) F':=by
    rw[e4];refine q4 _ A.B w v [] ?_ (λp o e=>?_) (λ_ _ _ z=>z)
    .exact⟨rfl,Rep.chg cB (λ_ _ _ z=>z) w r⟩
    .by_cases N:p=q
     .subst N;rw[Y]at e;cases e;refine .inl ⟨rfl,hB,λz=>ZX ?_⟩;rw[e4];rcases Re.mp z with z|z<;>simp[z]
     .exact .inr (by rw[ao N];exact e)
   refine⟨_,P,q,C,T,_,rfl,Y,Q.1,Q.2.2.2 f (SL hf),?_,?_⟩
   .rw[List.length_zip,h2,Nat.min_self];exact Q.2.1
   .rw[Ls g E n Q.2.2.1 hf h2];obtain⟨A',a1,a2,_,_,_,S'⟩:=O.chg (F':=F i) (H1:=upd H1 q (.ins C T (g.zip (E.set n v)))) (w':=.obj C g (u.set n w)) S1 J U P (λp o e=>by
     by_cases N:p=q
     .subst N;rw[Y]at e;cases e;exact .inl ⟨rfl,by rw[Z];exact FK⟩
     .exact .inr (by rw[ao N];exact e)) (O.nd i ⟨_,J⟩) (λp hp=>.inl hp) (Fp.mv (ay.refl _) (λp _ _ z=>by
      rcases z with z|z
      .exact z.1
      .exact(O.all p).mpr (.inr ⟨i,⟨_,J⟩,z⟩)) _ (by exact⟨C,T,u.set n w,q,E.set n v,F',rfl,rfl,Z,aG,by rw[SB];exact h2,Q,fp'⟩))
    exact k.nx A' _ _ _ a1 a2 l S'
  |_=>exact l.elim
end
end VL
namespace L2
open PySem PySem.Spec PyProof.Rows
section
variable{pr:Program}{wo:World}{B:Around}{EE:Value->Shared->Prop}
end
section
variable{X:Cx}{pos:Pos}
end
end L2
namespace VL
open PySem PySem.Spec
open PyProof.Rows hiding St
open L2
section
variable{K:Frag}{M M':Ms}{A:Fz}{H0 H H1:Hp}{σ:St}{ε:Ev}
end
section
variable{X:Cx}{M M':Ms}{m:Md}{st:Stmt}{te:(Addr->Prop)->WT}
end
section
variable{K:Frag}{B B':Addr->Prop}{H:Hp}
mutual
theorem Rep.Jj(w:W)(h:Jj w=true)(r:Rep K B H w v):Rep K B' H w v:=by
 cases w with
 |tup l=>obtain⟨p,a,e,c,b⟩:=r;exact⟨p,a,e,c,aj.Jj l h b⟩
 |_=>first|exact ff h|(dsimp only[Rep]at r⊢;exact r)
theorem aj.Jj:∀(l:List W){vs:List V},Gx l=true->aj K B H l vs->aj K B' H l vs
 |[],_,_,r=>by dsimp only[aj]at r⊢;exact r
 |w::l,vs,h,r=>by obtain⟨v,us,rfl,b,a⟩:=r.cons_inv;rw[Gx,Bz]at h;exact .cons (Rep.Jj w h.1 b) (aj.Jj l h.2 a)
end
mutual
theorem Fp.flat(m:Md)(h:Fp K B H m w v F)(f:flat m w=true)(n:∀p∈F,¬B' p):Rep K B' H w v:=by
 cases m with
 |s=>exact Rep.Jj w f h.2
 |f=>obtain⟨a,p,b,rfl,rfl,rfl,d,c⟩:=h;exact⟨p,b,rfl,n p (FR.mpr rfl),.inl d,aj.Jj a f c⟩
 |_=>exact ff f
end
end
section
variable{X:Cx}{M M':Ms}{m m0:Md}{st:Stmt}{ti:(Addr->Prop)->WT}{tc te:WT}{one:Bool}{ts:List Nat}{i n:Nat}
end
section
variable{K:Frag}{M:Ms}{A:Fz}{H0 H:Hp}{σ:St}{ε:Ev}
end
section
variable{X:Cx}{M:Ms}{m:Md}{st:Stmt}{tg it e o:Expr}{j a b:Nat}{pos q:Pos}{x0:W}{te:WT}
end
section
variable{K:Frag}{M M':Ms}{A:Fz}{H0 Hs H H1:Hp}{σ:St}{ε:Ev}
end
section
variable{X:Cx}{M M':Ms}{m:Md}{st:Stmt}{ti:(Addr->Prop)->WT}{te:yc}{i:Nat}
theorem Rg(o:Jm X M R j tl):VP X M R (.List j pos) (λb Q=>tl b λc a=>c.length<=sizeLine/\Q (.lst c) a):=PE.imp (yY o)<|by rintro t H Q ⟨A,r,b,P,S,q,h,k⟩;refine⟨A,r,b,_,S,q,h,λs c n u a e g l d=>⟨by rw[aj.len d];exact e.1,λp f=>?_⟩⟩;have sm:=aQ f (.lst n);exact k s _ _ _ a e.2 (g.trans (.same sm)) (l.same sm) ((dI.fresh (ay.refl _) f d).rep l.dom)
theorem Rh(o:Jm X M R f tl):VP X M R (.Tuple f j pos) (λb Q=>tl b λc a=>c.length<=sizeLine/\Q (.tup c) a):=PE.imp (ES o)<|by rintro u H Q ⟨A,s,b,P,S,q,h,k⟩;refine⟨A,s,b,_,S,q,h,λt c l v a e g r d=>⟨by rw[aj.len d];exact e.1,λp n=>?_⟩⟩;have sm:=aQ n (.tup l);exact k t _ _ _ a e.2 (g.trans (.same sm)) (r.same sm) (zP aG (aj.same sm d))
end
section
variable{K:Frag}{B:Addr->Prop}{H:Hp}{j:Int}
end
section
variable{X:Cx}{M:Ms}{R:Addr->Prop}{o e f:Expr}{te tf:WT}{i:Nat}{pos:Pos}
end
section
variable{X:Cx}{M M':Ms}{m:Md}{st:Stmt}{i:Nat}{e e1:Expr}{te t1:(Addr->Prop)->WT}
end
section
variable{K:Frag}{M:Ms}{A:Fz}{H0 H:Hp}{σ:St}{ε:Ev}
end
section
variable{X:Cx}{M M':Ms}{m:Md}{st:Stmt}{tg it tg2 it2 e:Expr}{j a b t y:Nat}{pos pos2:Pos}{te:WT}
end
end VL
namespace L2
open PySem PySem.Spec PyProof.Rows PySem.W
section
variable{prog:Program}{w:World}{A:Around}{E:Value->Shared->Prop}{s:Shared}
end
section
variable{prog:Program}{w:World}{A:Around}{E:Value->Shared->Prop}{s:Shared}{a I tp:Addr}{es:Array (Int×Value)}{ep i:Nat}{t:SetTable}{vs:List Value}
theorem qE:Slot "set_iterator" "__iter__" "set_iterator.__iter__":=.of (owner:="set_iterator") (n:="__iter__") (by rw[typeLookup_type,builtinLookup_eq_fast];kernel_rfl) (by decide+kernel) (by decide+kernel) (by decide+kernel) (by first|exact .inl (by decide+kernel)|exact .inr (by decide+kernel)) (by rw[isSubtype_type];kernel_rfl)
end
section
variable{X:Cx}
end
section
variable{prog:Program}{w:World}{A:Around}{E:Value->Shared->Prop}{s:Shared}{a:Addr}{es:Array (Int×Value)}{ep:Nat}{t:SetTable}
end
section
variable{X:Cx}
end
end L2
namespace VL
open PySem PySem.Spec
open PyProof.Rows hiding St
open L2
section
variable{X:Cx}{M:Ms}{R:Addr->Prop}{e a b c o:Expr}{ta tb tc:WT}{m:Md}{pos p:Pos}{x:Str}{i:Nat}
theorem Ri(F:VB X M R a ta)(r:PO X y (Qy X M R tl))(f:PO X B (Qy X M R v)):VE X M R .s (.Subscript a (.Slice y B none p2) pos) (λd Q=>ta d λx=>tl d λl=>v d λh=>P8 x l h Q):=
 PE.imp (xq O4 F r f)<|by
  rintro I H Q ⟨A,u,d,P,S,t,h,k⟩;refine⟨A,u,d,_,S,t,h,λx K O E j n=>⟨A,u,d,_,S.same j,t,E,λl N r g=>⟨A,u,d,_,S.same (j.trans g),t,r,λh L f w=>?_⟩⟩⟩;have n:=bw.same (g.trans w) n;cases x with
  |tup J=>obtain⟨p,D,rfl,G,C⟩:=n.tup;refine⟨p,D,rfl,G,by rw[C.len];exact f.1,λq z=>?_⟩;exact k _ _ _ f.2 (((j.trans g).trans w).trans (aQ z _)) (.of (zP aG (aj.same (aQ z _) (GF C l h))))
  |_=>exact f.elim
end
section
variable{X:Cx}{M M':Ms}{m m0:Md}{st:Stmt}{i n:Nat}{e e1:Expr}{te t1:(Addr->Prop)->WT}{π:List mU}
section
variable{K:Frag}{B:Addr->Prop}{H:Hp}{j:Str}
end
end
section
variable{X:Cx}{M:Ms}{R:Addr->Prop}{m:Md}{e:Expr}{es:List Expr}{tl:NR}{pos p:Pos}{i:Nat}{x:Str}
theorem Rj{tt:(Addr->Prop)->yc}(u:∀R,VP X M R e (tt R))(y:(0,n)∈M):VS X M (.io n) (.Return (some e) pos) (λd f=>tt d.ex f λw a=>match look a 0 with|some l=>d.rt (.tup [w,l])|none=>False):=by
 rintro b s t H D I ⟨A,C,f,d,S,z,hz,h,k⟩;refine mZ (u d.ex) b s t H D I ⟨A,C,f,_,S,z,h,λE w v B a c g o r=>?_⟩;cases j:look a 0 with
 |none=>rw[j]at c;exact c.elim
 |some l=>rw[j]at c;have q:=pF o y j (X1.mp (by rw[g.s0];exact hz)) r;rw[g.ab,g.s0]at q;exact k.rt _ v B c o.sm q
end
section
variable{K:Frag}{A B:Addr->Prop}{H H':Hp}
end
open Classical in
section
variable{K:Frag}{M:Ms}{A:Fz}{H0 H:Hp}{σ:St}{ε:Ev}{i n:Nat}{fs:List Str}{ms:List Md}{C:Addr}{ws l:List W}
end
section
variable{X:Cx}{M:Ms}{m:Md}{st:Stmt}{i n:Nat}{e:Expr}{fs:List Str}{ms:List Md}{x:Str}
end
theorem SR.unset{K:Frag}(S:SR K M A k d H b){i:Nat}(g:¬aV M i):SR K M A k (d.set i none) H (b.set i none):=by
 obtain⟨F,O⟩:=S.ow;have f:∀{j w},look (b.set i none) j=some w->i≠j:=λ{j w} e z=>by subst z;rw[bI,vk,Bi rfl]at e;split at e<;>cases e
 refine⟨by rw[SB,SB];exact S.len,λj c a e=>?_,S.sm,S.dm,λu e=>?_,F,⟨O.un,λj m c l e=>?_,λj a e=>?_,O.nd,O.ds,O.nw,O.na,O.all⟩⟩
 .have n:=f e;rw[aX n]at e;rw[OF n];exact S.sh j c a e
 .obtain⟨o,h⟩:=S.sl u e;exact⟨by rw[OF (by rintro rfl;exact g h)];exact o,h⟩
 .have n:=f e;rw[aX n]at e;rw[OF n];exact O.val j m c l e
 .have n:i≠j:=by rintro rfl;exact g a
  rw[aX n]at e;exact O.emp j a e
section
variable{X:Cx}{M:Ms}{R:Addr->Prop}{e a b o:Expr}{ta:WT}{m:Md}{pos p:Pos}{es:List Expr}{x:Str}
theorem Rk(Y:VE X M R .s a ta)(U:VE X M R .s b (λ_ Q=>Q g))(T:Gl X x)(O:X.mg x=none)(L:bootBuiltins x=some (.builtin "isinstance"))(N:x≠"__name__")(u:(x==("__debug__":Str))=false)
 (z:starEach [a,b] X.env=(false,eval a X.env)::starEach [b] X.env)(Z:starEach [b] X.env=(false,eval b X.env)::starEach [] X.env)(t:(backTo pos (starEach [b] X.env)).any (·.1)=false):
 VE X M R .s (.Call (.Name x p) [a,b] [] pos) (λf Q=>ta f λw=>KQ w g Q):=
 PE.imp (jd pW T O L (aZ Y (aZ U cW Z) z) N u z t)<|by
  rintro σ H Q ⟨A,I,f,P,S,E,h,k⟩;refine⟨A,I,f,_,S,E,h,λw v H1 d l J=>⟨A,I,f,λi=>i=g,S.same l,E,rfl,λi v2 G K j r=>?_⟩⟩;subst K;have r:=r.bF;cases w with
  |err C=>
   obtain⟨q,rfl,B,_,F,_⟩:=(J.bF).same j;cases i with
   |gi D ys ns=>
    obtain⟨rfl,_,y,n⟩:=r;rcases d with⟨c,d⟩|⟨c,d⟩
    .exact⟨q,C,_,_,true,rfl,B,F,.own D,(y C c).2.1,k _ _ G d (l.trans j) (.of (BO _))⟩
    .exact⟨q,C,_,_,false,rfl,B,F,.own D,n C c,k _ _ G d (l.trans j) (.of (BO _))⟩
   |_=>exact d.elim
  |_=>exact d.elim
theorem Rl(z:VE X M R .s a ta)(y:PE X b (tC (.ty "ValueError")))(u:Gl X x)(t:X.mg x=none)(n:bootBuiltins x=some (.builtin "isinstance"))(r:x≠"__name__")(f:(x==("__debug__":Str))=false)
 (i:starEach [a,b] X.env=(false,eval a X.env)::starEach [b] X.env)(G:starEach [b] X.env=(false,eval b X.env)::starEach [] X.env)(d:(backTo pos (starEach [b] X.env)).any (·.1)=false):
 VE X M R .s (.Call (.Name x p) [a,b] [] pos) (λc Q=>ta c λw=>Wo w Q):=
 PE.imp (jd pW u t n (aZ z (aZ y cW G) i) r f i d)<|by
  rintro K H Q ⟨A,J,c,P,S,D,h,k⟩;refine⟨A,J,c,_,S,D,h,λw v I g j l=>?_⟩;cases w with
  |err C=>obtain⟨q,rfl,B,_,F,E⟩:=l.bF;exact⟨q,C,_,_,true,rfl,B,F,.ty _,E,k _ _ I g j (.of (BO _))⟩
  |_=>exact g.elim
def tX(X:Cx)(M:Ms)(t:(Addr->Prop)->WT):TX:=λd H Q E=>∃A g f P R,SR X.K M A g d H f/\t R f P/\(∀w v c,P w->ay H c->Rep X.K (FB A M d) c w v->Q v c)/\∀C c,R C->ay H c->E (.ref C) none c
abbrev VX(X:Cx)(M:Ms)(e:Expr)(t:(Addr->Prop)->WT):Prop:=PX X e (tX X M t)
theorem WM{Y:Cx}{s:Shared}(h:wpAny (model X.prog X.w) X.A t (EP (X.kY (FX X c d E)) c d Q) (X.kY (FX X c d E)).xe s):wpAny (model X.prog X.w) X.A t (EP X c d Q) (FX X c d E) s:=
 eP h (λ_ _ ⟨v,g,f,r,q⟩=>⟨v,g,f.pN,r,q⟩) λ_ _ z=>z
theorem Rm:∀H s e s',Inv (X.kY (FX X c d E)) c d H s->je X.prog X.w X.stack H s E e s'->FX X c d E e s':=λH s e s' I h=>⟨H,s,I.pN,h⟩
theorem Lw(F:cu X.prog X.w X.K X.mg X.base k J n (Jl X.K n m sp))(Z:cV k X.A)(hg:Gl X x)(hm:X.mg x=some J)
 (hn:∀c P R,sp c P R->c.length=n)(ha:VA X.X6 M (λ_=>False) (e::es) D)(y:(x==("__debug__":Str))=false)(he:starEach (e::es) X.env=(false,eval e X.env)::starEach es X.env)(u:(backTo pos (starEach es X.env)).any (·.1)=false):
 VX X M (.Call (.Name x p) (e::es) [] pos) (λR i Q=>D i λc=>sp c Q R):=by
 rintro d s f H Q E I ⟨A,H0,i,P,R,S,h,O,T⟩;refine eQ (gg I hg hm ?_ y);refine ma (h₀:=X.base) I.ok.mod.Nd F.keep (eP (ha pos d s f H (λj g=>∃c,ay H g/\aj X.K (FB A M f) g c j/\sp c P R) (I.kY _) ⟨A,H0,i,_,S,.none,h,λc j g U l t=>⟨c,l,t,U⟩⟩) (λus l hz=>?_) λ_ _ z=>z.elim) he u;obtain⟨j,g,I1,r,c,sm,t,G⟩:=hz;have I1:Inv X d f g l:=I1.pN;exact⟨I1.kX,WM (Y:=X) (F.run (X:=X.kY (FX X d f E)) Z Rm (I1.kY _) r ⟨FB A M f,c,P,R,hn _ _ _ G,t,(S.same sm).dom,G,λw v B pw q N=>O w v B pw (sm.trans q) (N.rep (S.same sm).dom),λC B L q=>T C B L (sm.trans q)⟩)⟩
theorem Ro(G:X.stack=X.env::X.outer/\X.env.frame=some X.env.locals)(hN:X.N.Nodup)(O:X.N[i]?=some n)(hl:X.env.scope.names.lookup n=some .local)
 (hz:X.N[l]?=some z)(J:Loc X.env.scope z)(L:i≠l)(hg:Gl X x)(hm:X.mg x=some (.ref D))(u:We X.K D y ns)(ye:y≠[])(Rq:∀x,X.fn x=true)(oi:¬aV M i)(ol:¬aV M l)(he:VX X M e t)
 (F:swapsWith e none p1.line X.env=pure false)(q:swapsWith (.Name n Y) (some (.Name z Z)) U.line X.env=pure false)(P:(x==("__debug__":Str))=false)(Q:(n==("__debug__":Str))=false)(T:(n==("__classdict__":Str))=false):
 VS X M m (.Try [.Expr e p1] [.ExceptHandler (some (.Name x np)) (some n) [.Assign [.Name z Z] (.Name n Y) U] p2] [] [] pos) (λd g=>t (λC=>C∈y/\d.nx ((g.set l (some (.err C))).set i none)) g λ_=>d.nx g):=by
 rintro j s f H W I ⟨A,H0,g,d,S,er,hs,h,k⟩;refine Pb (X:=X) G hN O hl hg hm (u.1 ye) he (λa=>uO (uP (X:=ir X a) hN hz J (yN (X:=ir X a) O (.inl hl) Q T) q (.inl (Rq _)))) F P j s f H W I ?_;refine⟨A,H0,g,_,_,S,h,λw v H1 E r r1=>k.nx A _ _ H1 rfl rfl E (S.same r),λC H1 ⟨c,E⟩ r=>⟨C,rfl,(u.2.1 C c).1.1,(u.2.1 C c).2.2,λa ha=>?_⟩⟩;have il:i<f.length:=by rw[I.len];exact(Gc.mp O).1
 refine⟨.ref a,W1 il,?_⟩;have s2:=r.trans (aQ ha (Fc a C));have S2:=S.same s2;have na:¬A.B a:=λz=>by obtain⟨o,e⟩:=(S.same r).dom a z;rw[ha]at e;cases e
 have e:((f.set i (some (V.ref a))).set l (some (.ref a))).set i none=(f.set l (some (.ref a))).set i none:=by rw[g4 _ _ L,List.set_set]
 show W.nx (((f.set i (some (V.ref a))).set l (some (.ref a))).set i none) _;rw[e];exact k.nx A _ _ _ rfl rfl E ((S2.set ol (show Rep X.K A.B _ (.err C) (.ref a)from⟨a,rfl,aG,na,(u.2.1 C c).1⟩)).unset oi)
end
theorem a2(z:(a&&b)=true):a=true/\b=true:=by cases a<;>cases b<;>first|exact⟨rfl,rfl⟩|exact ff z
theorem a3(z:((a&&b)&&c)=true):(a=true/\b=true)/\c=true:=⟨a2 (a2 z).1,(a2 z).2⟩
theorem a4(z:(a&&b&&c&&d)=true):((a=true/\b=true)/\c=true)/\d=true:=⟨a3 (a2 z).1,(a2 z).2⟩
theorem a5(z:(a&&b&&c&&d&&e)=true):(((a=true/\b=true)/\c=true)/\d=true)/\e=true:=⟨a4 (a2 z).1,(a2 z).2⟩
theorem a6(z:(a&&b&&c&&d&&e&&f)=true):((((a=true/\b=true)/\c=true)/\d=true)/\e=true)/\f=true:=⟨a5 (a2 z).1,(a2 z).2⟩
theorem a7(z:(a&&b&&c&&d&&e&&f&&g)=true):(((((a=true/\b=true)/\c=true)/\d=true)/\e=true)/\f=true)/\g=true:=⟨a6 (a2 z).1,(a2 z).2⟩
theorem a8(z:(a&&b&&c&&d&&e&&f&&g&&h)=true):((((((a=true/\b=true)/\c=true)/\d=true)/\e=true)/\f=true)/\g=true)/\h=true:=⟨a7 (a2 z).1,(a2 z).2⟩
theorem a9(z:(a&&b&&c&&d&&e&&f&&g&&h&&i)=true):(((((((a=true/\b=true)/\c=true)/\d=true)/\e=true)/\f=true)/\g=true)/\h=true)/\i=true:=⟨a8 (a2 z).1,(a2 z).2⟩
theorem a10(z:(a&&b&&c&&d&&e&&f&&g&&h&&i&&j)=true):((((((((a=true/\b=true)/\c=true)/\d=true)/\e=true)/\f=true)/\g=true)/\h=true)/\i=true)/\j=true:=⟨a9 (a2 z).1,(a2 z).2⟩
structure SE where
 N:List Str
 nk:List (Str×NameKind)
 M:Ms
 fn:List Str
 gn:List Str
 zn:List Str
 md:List Md
 mt:List (Nat×Nat)
noncomputable def eO:List Md->Nat->Md
 |[],_=>.s
 |x::_,0=>x
 |_::l,n+1=>eO l n
noncomputable def Up:Md->Bool
 |.f=>true
 |_=>false
noncomputable def Ly:Md->Bool
 |.s=>true
 |_=>false
noncomputable def sH(M:Ms)(i:Nat):Bool:=(M.lookup i).isSome
theorem iH(h:sH M i=false):¬aV M i:=by
 rintro⟨m,d⟩;unfold sH at h;have:∀M:Ms,(i,m)∈M->(M.lookup i).isSome=true:=λM=>by
  induction M with
  |nil=>intro z;cases z
  |cons x M c=>
   intro z;obtain⟨a,b⟩:=x;rw[D1];cases e:i==a with
   |true=>rfl
   |false=>
    rcases Hk.mp z with z|z
    .cases z;rw[ox]at e;cases e
    .exact c z
 rw[this M d]at h;cases h
theorem jo{M:Ms}(h:M.lookup i=some m):(i,m)∈M:=by
 induction M with
 |nil=>exact nn h
 |cons x M c=>
  obtain⟨a,b⟩:=x;rw[D1]at h;cases e:i==a with
  |true=>rw[e]at h;cases h;cases Kt.mp e;exact FK
  |false=>rw[e]at h;exact FS _ (c h)
noncomputable def yd(M:Ms)(i:Nat):Bool:=match M.lookup i with
 |none=>true
 |some m=>Up m
theorem yf(h:yd M i=true):aV M i->(i,.f)∈M:=λa=>by
 unfold yd at h;cases e:M.lookup i with
 |none=>exact(iH (by unfold sH;rw[e];rfl) a).elim
 |some m=>rw[e]at h;cases m<;>first|exact jo e|exact ff h
noncomputable def Dy(M:Ms)(i:Nat):Bool:=match M.lookup i with
 |none=>false
 |some m=>Up m
theorem pG(h:Dy M i=true):(i,.f)∈M:=by
 unfold Dy at h;cases e:M.lookup i with
 |none=>rw[e]at h;exact ff h
 |some m=>rw[e]at h;cases m<;>first|exact jo e|exact ff h
noncomputable def SE.sc(S:SE):Scope:={kind:=.function,names:=S.nk,isGenerator:=false,isCoroutine:=false}
noncomputable def WO(S:SE)(x:Str):Bool:=S.nk.lookup x==some .local||(S.nk.lookup x==some .cell||S.nk.lookup x==some .free)
noncomputable def okN(x:Str):Bool:=!(x==("__debug__":Str))&&!(x==("__classdict__":Str))&&!(x==("__name__":Str))
noncomputable def gw(S:SE)(x:Str):Bool:=(S.nk.lookup x==some .globalImplicit)&&okN x
noncomputable def tys:List String:=["int","bool"]
noncomputable def vJ:Expr->Bool
 |.Call _ _ _ _=>false
 |_=>true
noncomputable def mC(f:Const->Bool):Expr->Bool
 |.Constant c _ _=>f c
 |_=>false
noncomputable def Z1(f:Str->Pos->Bool):Expr->Bool
 |.Name x p=>f x p
 |_=>false
noncomputable def j6(f:Str->Bool):Expr->Bool:=Z1 λx _=>f x
noncomputable def lU(S:SE)(i:Nat):Expr->Bool:=j6 λx=>S.N[i]?==some x&&WO S x&&okN x
noncomputable def o1{α:Type}(f:α->Bool):List α->Bool
 |[a]=>f a
 |_=>false
noncomputable def WQ(f:Expr->List CmpOp->List Expr->Bool):Expr->Bool
 |.Compare l b a _=>f l b a
 |_=>false
noncomputable def uy(f:Expr->List Expr->Bool->Pos->Bool):Expr->Bool
 |.Call g b a p=>f g b a.isEmpty p
 |_=>false
noncomputable def Dz(f:Expr->Str->Pos->Bool):Expr->Bool
 |.Attribute o m p=>f o m p
 |_=>false
noncomputable def oSl(f:Option Expr->Option Expr->Option Expr->Bool):Expr->Bool
 |.Slice l h t _=>f l h t
 |_=>false
noncomputable def oLC(f:Expr->List Comprehension->Scope->Bool):Expr->Bool
 |.ListComp x a s _=>f x a s
 |_=>false
noncomputable def GQ(f:Operator->Expr->Expr->Bool):Expr->Bool
 |.BinOp l o r _=>f o l r
 |_=>false
noncomputable def Z2(f:UnaryOp->Expr->Bool):Expr->Bool
 |.UnaryOp o x _=>f o x
 |_=>false
noncomputable def GR(f:CmpOp->Expr->Expr->Bool):Expr->Bool:=WQ λl b a=>o1 (λo=>o1 (λr=>f o l r) a) b
noncomputable def o2{α:Type}(f:α->α->Bool):List α->Bool
 |a::l=>o1 (f a) l
 |_=>false
noncomputable def o3{α:Type}(f:α->α->α->Bool):List α->Bool
 |a::l=>o2 (f a) l
 |_=>false
noncomputable def Rr(f:BoolOp->List Expr->Bool):Expr->Bool
 |.BoolOp o a _=>f o a
 |_=>false
noncomputable def mIf(f:Expr->Expr->Expr->Bool):Expr->Bool
 |.IfExp t x y _=>f t x y
 |_=>false
noncomputable def z7(f:List Expr->Bool):Expr->Bool
 |.Tuple a _ _=>f a
 |_=>false
noncomputable def Ru(f:List Expr->Bool):Expr->Bool
 |.List a _=>f a
 |_=>false
noncomputable def GS(f:Expr->Expr->Bool):Expr->Bool
 |.Subscript v s _=>f v s
 |_=>false
noncomputable def Z3(f:Expr->Option Expr->Option Expr->Bool):Expr->Bool:=GS λv s=>oSl (λl h t=>t.isNone&&f v l h) s
noncomputable def gP(f:Str->List Expr->Bool):Expr->Bool:=uy λg a k _=>k&&j6 (λx=>f x a) g
noncomputable def z8(f:Expr->Str->Pos->Pos->Bool):Expr->Bool:=uy λg b k c=>k&&b.isEmpty&&Dz (λo m a=>f o m a c) g
noncomputable def NU(f:Expr->Expr->Expr->List Expr->Scope->Bool):Expr->Bool:=oLC λx a s=>o1 (λg=>decide (g.is_async=0)&&f x g.target g.iter g.ifs s) a
theorem jq(h:mC f e=true):∃c k p,e=.Constant c k p/\f c=true:=by cases e<;>first|exact⟨_,_,_,rfl,h⟩|exact ff h
theorem BW(h:Z1 f e=true):∃x p,e=.Name x p/\f x p=true:=by cases e<;>first|exact⟨_,_,rfl,h⟩|exact ff h
theorem GU(h:WQ f e=true):∃l b a p,e=.Compare l b a p/\f l b a=true:=by cases e<;>first|exact⟨_,_,_,_,rfl,h⟩|exact ff h
theorem gQ(h:uy f e=true):∃g b a p,e=.Call g b a p/\f g b a.isEmpty p=true:=by cases e<;>first|exact⟨_,_,_,_,rfl,h⟩|exact ff h
theorem gR(h:Dz f e=true):∃o m p,e=.Attribute o m p/\f o m p=true:=by cases e<;>first|exact⟨_,_,_,rfl,h⟩|exact ff h
theorem Lz(h:oSl f e=true):∃l r t p,e=.Slice l r t p/\f l r t=true:=by cases e<;>first|exact⟨_,_,_,_,rfl,h⟩|exact ff h
theorem LA(h:oLC f e=true):∃x a s p,e=.ListComp x a s p/\f x a s=true:=by cases e<;>first|exact⟨_,_,_,_,rfl,h⟩|exact ff h
theorem cN(h:o1 f l=true):∃a,l=[a]/\f a=true:=by rcases l with _|⟨a,_|_⟩<;>first|exact⟨_,rfl,h⟩|exact ff h
theorem GV(h:o2 f l=true):∃a b,l=[a,b]/\f a b=true:=by
 cases l with
 |nil=>exact ff h
 |cons a l=>obtain⟨b,rfl,c⟩:=cN h;exact⟨_,_,rfl,c⟩
theorem bJ(h:j6 f e=true):∃x p,e=.Name x p/\f x=true:=BW h
theorem nE(h:GQ f e=true):∃l o r p,e=.BinOp l o r p/\f o l r=true:=by cases e<;>first|exact⟨_,_,_,_,rfl,h⟩|exact ff h
theorem pH(h:Z2 f e=true):∃o x p,e=.UnaryOp o x p/\f o x=true:=by cases e<;>first|exact⟨_,_,_,rfl,h⟩|exact ff h
theorem nF(h:GR f e=true):∃l o r p,e=.Compare l [o] [r] p/\f o l r=true:=by obtain⟨l,g,d,p,rfl,c⟩:=GU h;obtain⟨o,rfl,b⟩:=cN c;obtain⟨r,rfl,a⟩:=cN b;exact⟨_,_,_,_,rfl,a⟩
theorem jM(h:Rr f e=true):∃o a p,e=.BoolOp o a p/\f o a=true:=by cases e<;>first|exact⟨_,_,_,rfl,h⟩|exact ff h
theorem LB(h:mIf f e=true):∃t x y p,e=.IfExp t x y p/\f t x y=true:=by cases e<;>first|exact⟨_,_,_,_,rfl,h⟩|exact ff h
theorem fK(h:z7 f e=true):∃a k p,e=.Tuple a k p/\f a=true:=by cases e<;>first|exact⟨_,_,_,rfl,h⟩|exact ff h
theorem qM(h:Ru f e=true):∃a p,e=.List a p/\f a=true:=by cases e<;>first|exact⟨_,_,rfl,h⟩|exact ff h
theorem jr(h:GS f e=true):∃v s p,e=.Subscript v s p/\f v s=true:=by cases e<;>first|exact⟨_,_,_,rfl,h⟩|exact ff h
theorem pI(h:Z3 f e=true):∃v l r q p,e=.Subscript v (.Slice l r none q) p/\f v l r=true:=by obtain⟨v,s,p,rfl,c⟩:=jr h;obtain⟨l,r,t,q,rfl,b⟩:=Lz c;obtain⟨k,a⟩:=a2 b;rw[Option.isNone_iff_eq_none.mp k];exact⟨_,_,_,_,_,rfl,a⟩
theorem aE(h:gP f e=true):∃x q a p,e=.Call (.Name x q) a [] p/\f x a=true:=by obtain⟨g,a,i,p,rfl,d⟩:=gQ h;obtain⟨k,c⟩:=a2 d;obtain⟨x,q,rfl,b⟩:=bJ c;rw[Jn.mp k];exact⟨_,_,_,_,rfl,b⟩
theorem kJ(h:z8 f e=true):∃o m a c,e=.Call (.Attribute o m a) [] [] c/\f o m a c=true:=by obtain⟨g,n,j,p,rfl,i⟩:=gQ h;obtain⟨⟨k,l⟩,d⟩:=a3 i;obtain⟨o,m,a,rfl,b⟩:=gR d;rw[Jn.mp k,Jn.mp l];exact⟨_,_,_,_,rfl,b⟩
theorem uz(h:NU f e=true):∃d tg b c a p,e=.ListComp d [⟨tg,b,c,0⟩] a p/\f d tg b c a=true:=by obtain⟨x,m,s,p,rfl,j⟩:=LA h;obtain⟨⟨tg,l,n,z⟩,rfl,i⟩:=cN j;obtain⟨k,g⟩:=a2 i;cases Da k;exact⟨_,_,_,_,_,_,rfl,g⟩
noncomputable def BX(S:SE)(i:Nat):List mU->Expr->Bool
 |[],e=>lU S i e
 |.fl _ x::π,e=>Dz (λa f _=>decide (f=x)&&vJ a&&BX S i π a) e
noncomputable def oh(S:SE)(m:Md->Bool)(i:Nat)(π:List mU)(e:Expr):Bool:=!π.isEmpty&&BX S i π.reverse e&&(match S.M.lookup i with
 |some a=>(match oG a π with
  |some k=>m k
  |none=>false)
 |none=>false)
noncomputable def eU(S:SE):CE->Expr->Bool
 |.var i,e=>lU S i e&&yd S.M i
 |.own i π,e=>oh S Up i π e
 |_,_=>false
noncomputable def Yq:BI->Str
 |.len=>"len"
 |.abs=>"abs"
 |.max2=>"max"
 |.min2=>"min"
 |.list=>"list"
 |.El=>"isinstance"
 |.int=>"int"
 |.Uh=>"divmod"
noncomputable def biA:BI->Nat->Bool
 |_,n=>0<n
noncomputable def DA:CE->Bool
 |.ite _ _ _=>false
 |.not a=>DA a
 |.BN _ a=>DA a
 |.and b=>GW b
 |.or b=>GW b
 |_=>true
where GW:List CE->Bool
 |[]=>true
 |a::b=>DA a&&GW b
noncomputable def BY:Expr->Bool
 |.Slice _ _ _ _=>false
 |_=>true
noncomputable def vK:Expr->Bool
 |.Set _ _ _=>false
 |_=>true
noncomputable def GX:List Expr->Option (List Str)
 |[]=>some []
 |.Name x _::a=>(GX a).map λl=>x::l
 |_::_=>none
noncomputable def Uq:Expr->Option (Bool×List Str)
 |.Name x _=>some (true,[x])
 |.Tuple a _ _=>(GX a).map λl=>(false,l)
 |_=>none
noncomputable def mask(a:List Str)(N:List Str):List Str:=N.map λy=>if a.contains y then y++("!":Str)else y
noncomputable def SE.comp(S:SE)(a:Scope)(b:List Str):SE:=
 {S with N:=b++mask b S.N,nk:=a.names.map λp=>(p.1,if p.2=.free then .cell else p.2),M:=up S.M b.length}
noncomputable def SE.lend(S:SE)(a:List Nat):SE:={S with M:=S.M.filter (λx=>!a.contains x.1)}
noncomputable def brE:Expr->Bool
 |.Call (.Name _ _) (_::_) _ _=>true
 |.Compare _ _ _ _=>true
 |_=>false
noncomputable def WR:CE->Option String
 |.Gu n=>some n
 |_=>none
noncomputable def GY:CE->Bool
 |.uu _=>true
 |_=>false
noncomputable def GZ(n:Bool)(f:Expr->Bool):Option Expr->Bool
 |none=>n
 |some e=>!n&&f e
noncomputable def NV:CE->Bool
 |.bl b=>b
 |_=>false
noncomputable def WU:BI->List CE->Bool
 |.El,[_,c]=>(WR c).isSome
 |.El,_=>false
 |_,_=>true
noncomputable def Z4(y:Bool)(f:Expr->Bool):List Expr->Bool
 |[]=>y
 |[e]=>f e
 |_=>false
noncomputable def oj(f:Expr->Bool)(g:List Expr->Bool):List Expr->Bool
 |e::a=>f e&&g a
 |[]=>false
noncomputable def DB(f:Expr->Bool):List Expr->Bool:=o1 f
noncomputable def qN(S:SE)(g:List Nat)(one:Bool)(n:Nat)(f:Bool)(i:Expr->Bool)(j:SE->List Expr->Bool)(h:SE->Expr->Bool)(e tg b:Expr)(d:List Expr)(a:Scope):Bool:=
 match Uq tg with
 |some (o,c)=>(one==o)&&(n==c.length)&&(g==C0 n)&&dP a S.sc S.N (mask c S.N) c&&decide (c++mask c S.N).Nodup&&vK b&&(!f||!one)&&i b&&j (S.comp a c) d&&h (S.comp a c) e
 |none=>false
noncomputable def iZ(c:Nat->Md):CE->Bool
 |.lst _=>true
 |.comp _ _ _ _ _ _=>true
 |.blt .list _=>true
 |.rev _=>true
 |.sl _ _ _=>true
 |.bin .Add a b=>iZ c a||iZ c b
 |.bin .Mult a _=>iZ c a
 |.call f _=>match c f with
  |.f=>true
  |_=>false
 |.ite _ a b=>iZ c a&&iZ c b
 |_=>false
noncomputable def mo(a:Nat->Md)(c:CE):Md:=if iZ a c=true then .f else .s
mutual
noncomputable def aL(S:SE)(B:Bool):CE->Expr->Bool
 |.var i,e=>lU S i e&&!sH S.M i
 |.int i,e=>mC (λc=>decide (c=.int i)) e
 |.bl b,e=>mC (λc=>decide (c=.bool b)) e
 |.str x,e=>mC (λc=>decide (c=.str x)) e
 |.bV,e=>mC (λc=>decide (c=.none)) e
 |.Gu n,e=>j6 (λx=>decide (x=Str.ofString n)&&gw S x&&S.zn.contains x&&tys.contains n) e
 |.glob g,e=>j6 (λx=>S.gn[g]?==some x&&gw S x) e
 |.bin op a b,e=>GQ (λo l r=>decide (op=o)&&(aL S false a l||eU S a l)&&(aL S false b r||eU S b r)) e
 |.neg a,e=>Z2 (λo x=>decide (o=.USub)&&aL S false a x) e
 |.not a,e=>Z2 (λo x=>decide (o=.Not)&&aL S false a x) e
 |.cmp op a b,e=>GR (λo l r=>decide (op=o)&&vK r&&(aL S false a l||eU S a l)&&(aL S false b r||eU S b r)) e
 |.and j,e=>Rr (λo d=>decide (o=.And)&&!d.isEmpty&&gx S j d) e
 |.or j,e=>Rr (λo d=>decide (o=.Or)&&!d.isEmpty&&gx S j d) e
 |.ite c a b,e=>mIf (λt x y=>aL S false c t&&DA c&&aL S false a x&&aL S false b y) e
 |.tup j,e=>z7 (λd=>gx S j d) e
 |.lst j,e=>Ru (λd=>gx S j d) e
 |.ix a i,e=>GS (λv s=>BY s&&(aL S false a v||eU S a v)&&aL S false i s) e
 |.sl a z A,e=>Z3 (λv l h=>(aL S false a v||eU S a v)&&GZ (iY z) (λx=>aL S false z x) l&&GZ (iY A) (λx=>aL S false A x) h) e
 |.call f j,e=>gP (λx d=>S.fn[f]?==some x&&gw S x&&!d.isEmpty&&!gv (eO S.md f)&&!S.mt.any (·.1==f)&&gx S j d) e
 |.blt b j,e=>gP (λx d=>decide (x=Yq b)&&gw S x&&S.zn.contains x&&biA b d.length&&WU b j&&om S j d) e
 |.bits a,e=>z8 (λo m G F=>decide (m=("bit_length":Str))&&(G.endLine==F.line)&&vJ o&&aL S false a o) e
 |.comp D one n i c x,e=>NU (λw tg k q p=>qN S D one n (GY i) (λk=>aL S true i k||eU S i k) (λC q=>Z4 (NV c) (λf=>aL C false c f&&DA c) q) (λC w=>aL C false x w) w tg k q p) e
 |.j3 j,e=>gP (λx d=>B&&decide (x=("range":Str))&&gw S x&&S.zn.contains x&&(j.length==1||j.length==2||j.length==3)&&gx S j d) e
 |.uu a,e=>gP (λx d=>B&&decide (x=("enumerate":Str))&&gw S x&&S.zn.contains x&&DB (λv=>aL S false a v) d) e
 |.rev a,e=>gP (λx d=>cond B (decide (x=("reversed":Str))&&gw S x&&S.zn.contains x&&DB (λv=>aL S false a v) d) false) e
 |.pop _,_=>false
 |.own i π,e=>oh S Ly i π e
 |.jL _ _ _,_=>false
 |.BN E a,e=>brE e&&aL (S.lend E) false a e
 |.Em _ _ _ _,_=>false
 |.P7 f a j,e=>gP (λx d=>S.fn[f]?==some x&&gw S x&&(match eO S.md f with
  |.io m=>Up m
  |_=>false)&&!S.mt.any (·.1==f)&&iZ (eO S.md) a&&oj (λv=>aL S false a v) (λd=>gx S j d) d) e
 |.slt a z A,e=>Z3 (λv l h=>(aL S false a v||eU S a v)&&GZ (iY z) (λx=>aL S false z x) l&&GZ (iY A) (λx=>aL S false A x) h) e
 |.Dq a g,e=>gP (λx d=>decide (x=("isinstance":Str))&&gw S x&&S.zn.contains x&&o2 (λu v=>aL S false a u&&j6 (λy=>S.gn[g]?==some y&&gw S y) v) d) e
 |.Ui a,e=>gP (λx d=>decide (x=("isinstance":Str))&&gw S x&&S.zn.contains x&&o2 (λu v=>aL S false a u&&j6 (λy=>decide (y=("ValueError":Str))&&gw S y&&S.zn.contains y) v) d) e
noncomputable def gx(S:SE):List CE->List Expr->Bool
 |[],b=>b.isEmpty
 |a::c,b=>oj (λe=>aL S false a e) (λb=>gx S c b) b
noncomputable def om(S:SE):List CE->List Expr->Bool
 |[],b=>b.isEmpty
 |a::c,b=>oj (λe=>aL S false a e||eU S a e) (λb=>om S c b) b
end
structure XOk(S:SE)(Φ:Nat->aY)(Ψ:Nat->Md)(G:Nat->W)(X:Cx):Prop where
 hN:X.N=S.N
 nd:X.N.Nodup
 calm:X.calm=true
 un:X.A.units+64<cLine
 nk:∀x,X.env.scope.names.lookup x=S.nk.lookup x
 fns:∀(j:Nat)(x:Str),S.fn[j]?=some x->S.mt.any (·.1==j)=false->∃fv n k,X.mg x=some fv/\cu X.prog X.w X.K X.mg X.base k fv n (nj X.K n (Ψ j) (Φ j))/\cV k X.A/\∀ws P R,Φ j ws P R->ws.length=n
 LC:∀(j g:Nat)(x:Str),S.fn[j]?=some x->(j,g)∈S.mt->∃f fd ps n k,(∀C,G g=.cls C->Meth X.K C x f)/\Binds X.K fd ps []/\b8 X.prog X.w X.K X.mg X.base (je X.prog X.w) k f fd ps (nj X.K n (Ψ j) (Φ j))/\cV k X.A/\∀ws P R,Φ j ws P R->ws.length=n
 BZ:Ψ=eO S.md
 G0:∀(j:Nat)(x:Str),S.gn[j]?=some x->∃u v,X.mg x=some u/\RelV v u/\∀B H,Rep X.K B H (G j) v
 wZ:∀x∈S.zn,X.mg x=none
 kit:x6 X.K
section
variable{S:SE}{Φ:Nat->aY}{Ψ:Nat->Md}{G:Nat->W}{X:Cx}
theorem XOk.X6(h:XOk S Φ Ψ G X):XOk S Φ Ψ G X.X6:=⟨h.hN,h.nd,h.calm,h.un,h.nk,h.fns,h.LC,h.BZ,h.G0,h.wZ,h.kit⟩
theorem vL(h:okN x=true):(x==("__debug__":Str))=false/\(x==("__classdict__":Str))=false/\x≠"__name__":=by unfold okN at h;simp only[Bz,oP]at h;exact⟨h.1.1,h.1.2,λz=>by rw[z]at h;exact absurd h.2 (by simp)⟩
theorem aW(a:XOk S Φ Ψ G X)(h:gw S x=true):Gl X x/\(x==("__debug__":Str))=false/\x≠"__name__":=by unfold gw at h;rw[Bz]at h;obtain⟨c,d,b⟩:=vL h.2;refine⟨?_,c,b⟩;show X.env.scope.names.lookup x=_;rw[a.nk];exact Kt.mp h.1
theorem fL(b:XOk S Φ Ψ G X)(h:lU S i e=true):PE X e (mW i):=by obtain⟨x,c,rfl,h⟩:=bJ h;obtain⟨h,d⟩:=P3.mp h;obtain⟨f,a⟩:=P3.mp h;obtain⟨j,g,_⟩:=vL d;refine yN (by rw[b.hN];exact Kt.mp f) ?_ j g;simp only[WO,si,Kt]at a;rw[<-b.nk]at a;exact a
noncomputable def noStar:Expr->Bool
 |.Starred _ _=>false
 |_=>true
theorem aI(h:noStar e=true)(a:List Expr)(env:Env):starEach (e::a) env=(false,eval e env)::starEach a env:=by
 cases e<;>first|rfl|exact ff h
theorem cF:∀{a:List Expr}(h:a.all noStar=true)(pos:Pos)(env:Env),(backTo pos (starEach a env)).any (·.1)=false
 |[],_,_,_=>rfl
 |e::a,h,pos,env=>by rw[D2,Bz]at h;rw[aI h.1];show(false||(backTo pos (starEach a env)).any (·.1))=false;rw[cF h.2];rfl
theorem fj(h:oh S m i π e=true):
 (∃c k,π≠[]/\BX S i π.reverse e=true/\S.M.lookup i=some c/\oG c π=some k/\m k=true)/\(∃a f q,e=.Attribute a f q):=by
 unfold oh at h;rw[Bz,Bz]at h;obtain⟨⟨l,d⟩,b⟩:=h;have j:π≠[]:=λz=>by rw[z]at l;exact ff l
 constructor
 .split at b
  .rename_i c hl
   split at b
   .rename_i k hk
    exact⟨c,k,j,d,hl,hk,b⟩
   .cases b
  .cases b
 .cases g:π.reverse with
  |nil=>exact(j (by simpa using g)).elim
  |cons s r=>
   rw[g]at d;cases s with
   |fl n x=>obtain⟨o,m,p,rfl,t⟩:=gR d;exact⟨_,_,_,rfl⟩
theorem qO(h:oh S m i π (.Starred v p)=true):False:=by (obtain⟨_,_,_,e⟩:=(fj h).2;cases e)
theorem bu(h:aL S b c e=true\/eU S c e=true):noStar e=true:=by
 cases e with
 |Starred v p=>
  rcases h with h|h
  .cases c with
   |own i d=>exact(qO h).elim
   |BN f a=>exact ff h
   |_=>exact ff h
  .cases c<;>first|exact ff h|exact(qO h).elim
 |_=>rfl
theorem gk(h:(a||b)=true):a=true\/b=true:=by
 cases a
 .exact .inr h
 .exact .inl rfl
theorem gS:∀{cs:List CE}{a:List Expr},gx S cs a=true->a.all noStar=true
 |[],a,h=>by
  cases a with
  |nil=>rfl
  |cons _ _=>exact ff h
 |c::cs,[],h=>by cases h
 |c::cs,e::a,h=>by have h:=a2 h;rw[D2,bu (.inl h.1),gS h.2];rfl
theorem qP:∀{cs:List CE}{a:List Expr},om S cs a=true->a.all noStar=true
 |[],a,h=>by
  cases a with
  |nil=>rfl
  |cons _ _=>exact ff h
 |c::cs,[],h=>by cases h
 |c::cs,e::a,h=>by have h:=a2 h;rw[D2,bu (gk h.1),qP h.2];rfl
theorem B3(h:BY b=true):oS b:=λo i=>by cases b<;>first|rfl|exact ff h
theorem uA(h:vJ a=true)(f:Str)(env:Env)(b:Sem Value):attributeBase a f env b=b:=by cases a<;>first|rfl|exact ff h
theorem yg(b:XOk S Φ Ψ G X):∀(π:List mU)(e:Expr),BX S i π e=true->PE X e (zY X.K i π.reverse)
 |[],e,h=>Rb (fL b h)
 |.fl n x::π,e,h=>by obtain⟨o,m,p,rfl,f⟩:=gR h;obtain⟨⟨a,d⟩,c⟩:=a3 f;have a:=Da a;subst a;rw[List.reverse_cons];exact Rc (yg b π _ c) (uA d _ _ _)
theorem G3(b:XOk S Φ Ψ G X)(h:oh S m i π e=true):∃a k,(i,a)∈S.M/\oG a π=some k/\m k=true/\PE X e (zY X.K i π):=by obtain⟨⟨a,k,_,g,f,d,c⟩,_⟩:=fj h;have:=yg b π.reverse e g;rw[List.reverse_reverse]at this;exact⟨a,k,jo f,d,c,this⟩
theorem WV(g:XOk S Φ Ψ G X)(h:oh S Ly i π e=true)(R:Addr->Prop):VE X S.M R .s e (λa Q=>match look a i with|some w=>(match dZ w π with|some u=>Q u|none=>False)|none=>False):=by
 obtain⟨j,k,d,c,f,b⟩:=G3 g h;cases k<;>first|(cases f;done)|skip
 exact Qj b d c
theorem NW(g:XOk S Φ Ψ G X)(h:oh S Up i π e=true)(R:Addr->Prop):VB X S.M R e (λa Q=>match look a i with|some w=>(match dZ w π with|some u=>Q u|none=>False)|none=>False):=by
 obtain⟨j,k,d,c,f,b⟩:=G3 g h;cases k<;>first|(cases f;done)|skip
 exact Qi b d c
end
structure cH(Φ:Nat->aY)(Ψ:Nat->Md)(G:Nat->W)(c:CE):Prop where
 e:∀{S:SE}{X:Cx},XOk S Φ Ψ G X->∀ex,aL S false c ex=true->∀R,VE X S.M R (mo Ψ c) ex (wE Φ G R c)
 t:∀{S:SE}{X:Cx},XOk S Φ Ψ G X->∀ex,aL S false c ex=true->DA c=true->∀R,VT X S.M R ex (wE Φ G R c)
 i:∀{S:SE}{X:Cx},XOk S Φ Ψ G X->∀tg br ex,(aL S true c ex||(br&&eU S c ex))=true->(GY c=true->∃elts kk tp,tg=Expr.Tuple elts kk tp)->∀R,PI X tg ex (GG X S.M R br (wE Φ G R c))
structure oJ(Φ:Nat->aY)(Ψ:Nat->Md)(G:Nat->W)(cs:List CE):Prop where
 a:∀{S:SE}{X:Cx},XOk S Φ Ψ G X->∀es,gx S cs es=true->∀R,VA X S.M R es (wA Φ G R cs)
 b:∀{S:SE}{X:Cx},XOk S Φ Ψ G X->∀es,om S cs es=true->∀R,Um X S.M R es (wA Φ G R cs)
 av:∀{S:SE}{X:Cx},XOk S Φ Ψ G X->∀es pos,es≠[]->gx S cs es=true->∀R,VE X S.M R .s (.BoolOp .And es pos) (CF Φ G R cs)
 ov:∀{S:SE}{X:Cx},XOk S Φ Ψ G X->∀es pos,es≠[]->gx S cs es=true->∀R,VE X S.M R .s (.BoolOp .Or es pos) (T4 Φ G R cs)
 «at»:∀{S:SE}{X:Cx},XOk S Φ Ψ G X->∀es pos,es≠[]->gx S cs es=true->DA.GW cs=true->∀R,NQ X S.M R (.BoolOp .And es pos) (CF Φ G R cs)
 ot:∀{S:SE}{X:Cx},XOk S Φ Ψ G X->∀es pos,es≠[]->gx S cs es=true->DA.GW cs=true->∀R,NQ X S.M R (.BoolOp .Or es pos) (T4 Φ G R cs)
section
variable{Φ:Nat->aY}{Ψ:Nat->Md}{G:Nat->W}
theorem dN(h:iZ Ψ c=false):mo Ψ c=.s:=by unfold mo;rw[h];rfl
theorem jY(h:iZ Ψ c=true):mo Ψ c=.f:=by unfold mo;rw[h];rfl
theorem cH.s(h:cH Φ Ψ G c)(a:XOk S Φ Ψ G X)(k:aL S false c ex=true)(R:Addr->Prop):VE X S.M R .s ex (wE Φ G R c):=zX (h.e a ex k R)
theorem cH.b(h:cH Φ Ψ G c)(a:XOk S Φ Ψ G X)(k:(aL S false c ex||eU S c ex)=true)(R:Addr->Prop):VB X S.M R ex (wE Φ G R c):=by
 rcases gk k with k|k
 .exact Ww (h.e a ex k R)
 .cases c with
  |var i=>have k:(lU S i ex&&yd S.M i)=true:=k;rw[Bz]at k;exact Gz (fL a k.1) (yf k.2)
  |own i d=>exact NW a k R
  |_=>exact ff k
theorem cH.mk1(b:∀{S:SE}{X:Cx},XOk S Φ Ψ G X->∀ex,aL S false c ex=true->∀R,VE X S.M R (mo Ψ c) ex (wE Φ G R c))
 (f:∀{S:SE}{ex:Expr}(env:Env),aL S false c ex=true->∀a,isTrue ex env a=(do let v<-a;standAt ex.pos;holding [v] (truthy v)))
 (g:∀(S:SE)(ex:Expr),aL S true c ex=true->aL S false c ex=true)(e:∀(S:SE)(ex:Expr),eU S c ex=false):cH Φ Ψ G c:=
 ⟨b,λd ex k _ R=>vG (f _ k) (zX (b d ex k R)),λ{S X} d h i ex k _ R=>by rw[e,de,aw]at k;exact fJ (jn (b d ex (g _ _ k) R))⟩
theorem Rv(i:Nat):cH Φ Ψ G (.var i):=by
 have d:∀{S:SE}{X:Cx},XOk S Φ Ψ G X->∀ex,aL S false (.var i) ex=true->∀R,VE X S.M R (mo Ψ (.var i)) ex (wE Φ G R (.var i)):=λ{S X} a ex k R=>by have k:=a2 k;have e:¬aV S.M i:=iH (by simpa using k.2);rw[dN rfl];exact Qh (fL a k.1) e
 refine⟨d,λ{S X} a ex k _ R=>vG (λc=>?_) (zX (d a ex k R)),λ{S X} a f g ex k _ R=>?_⟩
 .have k:=a2 k;cases ex<;>first|rfl|(have:=k.1;exact ff this)
 .rcases gk k with k|k
  .exact fJ (jn (d a ex (by exact k) R))
  .rw[Bz]at k;obtain⟨rfl,b⟩:=k;have b:(lU S i ex&&yd S.M i)=true:=b;rw[Bz]at b;exact fJ (WD (Gz (fL a b.1) (yf b.2)))
theorem Rw(i:Nat)(π:List mU):cH Φ Ψ G (.own i π):=by
 have d:∀R,wE Φ G R (.own i π)=λe Q=>match look e i with|some w=>(match dZ w π with|some u=>Q u|none=>False)|none=>False:=λR=>rfl
 have c:∀{S:SE}{X:Cx},XOk S Φ Ψ G X->∀ex,aL S false (.own i π) ex=true->∀R,VE X S.M R (mo Ψ (.own i π)) ex (wE Φ G R (.own i π)):=λ{S X} a ex k R=>by rw[dN rfl,d];exact WV a k R
 refine⟨c,λ{S X} a ex k _ R=>vG (λb=>?_) (zX (c a ex k R)),λ{S X} a g h ex k _ R=>?_⟩
 .obtain⟨_,_,_,rfl⟩:=(fj k).2;rfl
 .rcases gk k with k|k
  .exact fJ (jn (c a ex (by exact k) R))
  .rw[Bz]at k;obtain⟨rfl,f⟩:=k;rw[d];exact fJ (WD (NW a f R))
theorem Rx(i:Int):cH Φ Ψ G (.int i):=by
 refine .mk1 (λ{S X} d ex k R=>?_) (λ{S ex} b k a=>?_) (λS ex k=>by exact k) (λ_ _=>rfl)
 .obtain⟨c,q,p,rfl,k⟩:=jq k;cases Da k;rw[dN rfl];exact Dw mX λ_ _=>gc _
 .obtain⟨c,q,p,rfl,k⟩:=jq k;rfl
theorem WW(i:Bool):cH Φ Ψ G (.bl i):=by
 refine .mk1 (λ{S X} d ex k R=>?_) (λ{S ex} b k a=>?_) (λS ex k=>by exact k) (λ_ _=>rfl)
 .obtain⟨c,q,p,rfl,k⟩:=jq k;cases Da k;rw[dN rfl];exact Dw US λ_ _=>BO _
 .obtain⟨c,q,p,rfl,k⟩:=jq k;rfl
theorem Ry(i:Str):cH Φ Ψ G (.str i):=by
 refine .mk1 (λ{S X} d ex k R=>?_) (λ{S ex} b k a=>?_) (λS ex k=>by exact k) (λ_ _=>rfl)
 .obtain⟨c,q,p,rfl,k⟩:=jq k;cases Da k;rw[dN rfl];exact Dw OE λ_ _=>ZO _
 .obtain⟨c,q,p,rfl,k⟩:=jq k;rfl
theorem RA:cH Φ Ψ G .bV:=by
 refine .mk1 (λ{S X} d ex k R=>?_) (λ{S ex} b k a=>?_) (λS ex k=>by exact k) (λ_ _=>rfl)
 .obtain⟨c,q,p,rfl,k⟩:=jq k;cases Da k;rw[dN rfl];exact Dw OD λ_ _=>Ws
 .obtain⟨c,q,p,rfl,k⟩:=jq k;rfl
theorem LD(h:tys.contains n=true):bootBuiltins (Str.ofString n)=some (.type n):=by
 have:n∈tys:=by simpa using h
 unfold tys at this;simp only[Hk,iq,or_false]at this;rcases this with rfl|rfl<;>rfl
theorem RB(n:String):cH Φ Ψ G (.Gu n):=by
 refine .mk1 (λ{S X} d ex k R=>?_) (λ{S ex} l k a=>?_) (λS ex k=>by exact k) (λ_ _=>rfl)
 .obtain⟨x,q,rfl,b⟩:=bJ k
  replace k:=b
  obtain⟨⟨⟨c,g⟩,f⟩,e⟩:=a4 k;obtain⟨j,i,h⟩:=aW d g;have c:=Da c;subst c;rw[dN rfl];exact Dw (v:=.ty n) (AM j (d.wZ _ (by simpa using f)) (LD e) rfl h i) λ_ _=>rTy _
 .obtain⟨x,q,rfl,b⟩:=bJ k
  replace k:=b
  rfl
theorem B4(g:Nat):cH Φ Ψ G (.glob g):=by
 refine .mk1 (λ{S X} c ex k R=>?_) (λ{S ex} m k a=>?_) (λS ex k=>by exact k) (λ_ _=>rfl)
 .obtain⟨x,q,rfl,b⟩:=bJ k
  replace k:=b
  obtain⟨e,d⟩:=a2 k;obtain⟨l,j,n⟩:=aW c d;obtain⟨u,v,i,h,f⟩:=c.G0 g _ (Kt.mp e);rw[dN rfl];exact Dw (Jv l i h j) f
 .obtain⟨x,q,rfl,b⟩:=bJ k
  replace k:=b
  rfl
theorem z9{K:Frag}(h:dI K B H H' .f w v):NP w=true:=by obtain⟨a,p,b,rfl,_⟩:=h.Wf;rfl
theorem G4(k:eU S a l=true)(z:iZ Ψ a=true):False:=by cases a<;>first|exact ff k|exact ff z
theorem RC(op:Operator)(J:cH Φ Ψ G a)(I:cH Φ Ψ G b):cH Φ Ψ G (.bin op a b):=by
 refine .mk1 (λ{S X} n ex k R=>?_) (λ{S ex} P k s=>?_) (λS ex k=>by exact k) (λ_ _=>rfl)
 .obtain⟨l,o,r,t,rfl,u⟩:=nE k
  replace k:=u
  obtain⟨⟨A,i⟩,g⟩:=a3 k;have A:=Da A;subst A;show VE X S.M R _ _ λF Q=>wE Φ G R a F λx=>wE Φ G R b F λy=>gM op x y Q;have E:∀B H m w v,Dom B H->ρB X.K B H m w v->bw X.K B m w v:=λ_ _ _ _ _ _ h=>h;have D:∀B H m w v,Dom B H->Qg X.K .f B H m w v->bw X.K B m w v:=λ_ _ _ _ _ d h=>(dI.rep d h).b;have p:=J.b n i R;have j:=I.b n g R;have L:iZ Ψ a=true->VE X S.M R .f l (wE Φ G R a):=λz=>by
   rcases gk i with i|i
   .have:=J.e n l i R;rw[jY z]at this;exact this
   .exact(G4 i z).elim
  have O:iZ Ψ b=true->VE X S.M R .f r (wE Φ G R b):=λz=>by
   rcases gk g with g|g
   .have:=I.e n r g R;rw[jY z]at this;exact this
   .exact(G4 g z).elim
  cases op with
  |Add=>
   by_cases c:iZ Ψ a=true
   .rw[jY (show iZ Ψ (.bin .Add a b)=true by show(iZ Ψ a||iZ Ψ b)=true;rw[c];rfl)];exact zZ (L c) j D E λ_ _ _ _ _ _ _ _ _ _ C _=>.inl ⟨rfl,.inl (z9 C)⟩
   .by_cases q:iZ Ψ b=true
    .rw[jY (show iZ Ψ (.bin .Add a b)=true by show(iZ Ψ a||iZ Ψ b)=true;rw[q,Bool.or_true])];exact zZ p (O q) E D λ_ _ _ _ _ _ _ _ _ _ _ N=>.inl ⟨rfl,.inr (z9 N)⟩
    .rw[dN (show iZ Ψ (.bin .Add a b)=false by show(iZ Ψ a||iZ Ψ b)=false;rw[h7 _|>.mp c,h7 _|>.mp q];rfl)];exact GB p j λ_ _=>.inr rfl
  |Mult=>
   by_cases c:iZ Ψ a=true
   .rw[jY (show iZ Ψ (.bin .Mult a b)=true from c)];exact zZ (L c) j D E λ_ _ _ _ _ _ _ _ _ _ C _=>.inr ⟨rfl,z9 C⟩
   .rw[dN (show iZ Ψ (.bin .Mult a b)=false from h7 _|>.mp c)];exact GB p j λ_ _=>.inr rfl
  |_=>rw[dN rfl];exact GB p j λ_ _=>.inr rfl
 .obtain⟨l,o,r,t,rfl,u⟩:=nE k
  replace k:=u
  rfl
theorem RD(e:cH Φ Ψ G a):cH Φ Ψ G (.neg a):=by
 refine .mk1 (λ{S X} f ex k R=>?_) (λ{S ex} g k b=>?_) (λS ex k=>by exact k) (λ_ _=>rfl)
 .obtain⟨o,x,c,rfl,d⟩:=pH k
  replace k:=d
  rw[Bz]at k;cases Da k.1;rw[dN rfl];exact Ql (e.s f k.2 R)
 .obtain⟨o,x,c,rfl,d⟩:=pH k
  replace k:=d
  rw[Bz]at k;cases Da k.1;rfl
theorem RE(h:cH Φ Ψ G a):cH Φ Ψ G (.not a):=by
 have e:∀R,wE Φ G R (.not a)=λi Q=>wE Φ G R a i λx=>truth x λb=>Q (.bl (!b)):=λR=>rfl;have g:∀{S:SE}{X:Cx},XOk S Φ Ψ G X->∀ex,aL S false (.not a) ex=true->∀R,VE X S.M R (mo Ψ (.not a)) ex (wE Φ G R (.not a)):=λ{S X} c ex k R=>by
  obtain⟨o,x,d,rfl,f⟩:=pH k
  replace k:=f
  rw[Bz]at k;cases Da k.1;rw[dN rfl,e];exact Qm (h.s c k.2 R)
 refine⟨g,λ{S X} c ex k j R=>?_,λ{S X} c m n ex k _ R=>?_⟩
 .obtain⟨o,x,d,rfl,f⟩:=pH k
  replace k:=f
  rw[Bz]at k;cases Da k.1;rw[e];exact Qu (h.t c _ k.2 (by exact j) R)
 .have l:eU S (.not a) ex=false:=rfl;rw[l,de,aw]at k;exact fJ (jn (g c ex (by exact k) R))
theorem RG(op:CmpOp)(n:cH Φ Ψ G a)(m:cH Φ Ψ G b):cH Φ Ψ G (.cmp op a b):=by
 have e:∀R,wE Φ G R (.cmp op a b)=λg Q=>wE Φ G R a g λx=>wE Φ G R b g λy=>dS op x y Q:=λR=>rfl;have f:∀{S:SE}{X:Cx},XOk S Φ Ψ G X->∀ex,aL S false (.cmp op a b) ex=true->∀R,VE X S.M R .s ex (wE Φ G R (.cmp op a b))/\VT X S.M R ex (wE Φ G R (.cmp op a b)):=λ{S X} c ex k R=>by
  obtain⟨l,o,r,p,rfl,q⟩:=nF k
  replace k:=q
  simp only[Bz,oP]at k;obtain⟨⟨⟨d,t⟩,i⟩,h⟩:=k;have d:=Da d;subst d;have j:behindInMarks op r=false:=by cases r<;>first|rfl|exact ff t
  rw[e];exact⟨Qn c.un j (n.b c i R) (m.b c h R),Qo c.un j (n.b c i R) (m.b c h R)⟩
 refine⟨λc ex k R=>by rw[dN rfl];exact(f c ex k R).1,λc ex k _ R=>(f c ex k R).2,λ{S X} c v w ex k _ R=>?_⟩;have u:eU S (.cmp op a b) ex=false:=rfl;rw[u,de,aw]at k;exact fJ (jn (f c ex (by exact k) R).1)
theorem jN{a:List Expr}(h:(!a.isEmpty)=true):a≠[]:=by rintro rfl;cases h
theorem RH(g:oJ Φ Ψ G b):cH Φ Ψ G (.and b):=by
 have e:∀R,wE Φ G R (.and b)=CF Φ G R b:=λR=>rfl;have f:∀{S:SE}{X:Cx},XOk S Φ Ψ G X->∀ex,aL S false (.and b) ex=true->∀R,VE X S.M R .s ex (wE Φ G R (.and b)):=λ{S X} a ex k R=>by
  obtain⟨o,j,c,rfl,d⟩:=jM k
  replace k:=d
  rw[Bz,Bz]at k;cases Da k.1.1;rw[e];exact g.av a _ _ (jN k.1.2) k.2 R
 refine⟨λa ex k R=>by rw[dN rfl];exact f a ex k R,λ{S X} a ex k h R=>?_,λ{S X} a l m ex k _ R=>?_⟩
 .obtain⟨o,j,c,rfl,d⟩:=jM k
  replace k:=d
  rw[Bz,Bz]at k;cases Da k.1.1;rw[e];exact(g.at a _ _ (jN k.1.2) k.2 (by exact h) R).pt
 .have i:eU S (.and b) ex=false:=rfl;rw[i,de,aw]at k;exact fJ (jn (f a ex (by exact k) R))
theorem WY(g:oJ Φ Ψ G b):cH Φ Ψ G (.or b):=by
 have e:∀R,wE Φ G R (.or b)=T4 Φ G R b:=λR=>rfl;have f:∀{S:SE}{X:Cx},XOk S Φ Ψ G X->∀ex,aL S false (.or b) ex=true->∀R,VE X S.M R .s ex (wE Φ G R (.or b)):=λ{S X} a ex k R=>by
  obtain⟨o,j,c,rfl,d⟩:=jM k
  replace k:=d
  rw[Bz,Bz]at k;cases Da k.1.1;rw[e];exact g.ov a _ _ (jN k.1.2) k.2 R
 refine⟨λa ex k R=>by rw[dN rfl];exact f a ex k R,λ{S X} a ex k h R=>?_,λ{S X} a l m ex k _ R=>?_⟩
 .obtain⟨o,j,c,rfl,d⟩:=jM k
  replace k:=d
  rw[Bz,Bz]at k;cases Da k.1.1;rw[e];exact(g.ot a _ _ (jN k.1.2) k.2 (by exact h) R).pt
 .have i:eU S (.or b) ex=false:=rfl;rw[i,de,aw]at k;exact fJ (jn (f a ex (by exact k) R))
theorem WZ(h:VE X M R m e t)(a:mo Ψ c=m\/mo Ψ c=.s):VE X M R (mo Ψ c) e t:=by
 rcases a with z|z
 .rw[z];exact h
 .rw[z];exact zX h
theorem RI(o:cH Φ Ψ G c)(r:cH Φ Ψ G a)(q:cH Φ Ψ G b):cH Φ Ψ G (.ite c a b):=by
 have e:∀R,wE Φ G R (.ite c a b)=λh Q=>wE Φ G R c h λx=>truth x λk=>if k=true then wE Φ G R a h Q else wE Φ G R b h Q:=λR=>rfl
 have n:∀{S:SE}{X:Cx},XOk S Φ Ψ G X->∀ex,aL S false (.ite c a b) ex=true->∀R,VE X S.M R (mo Ψ (.ite c a b)) ex (wE Φ G R (.ite c a b)):=λ{S X} d ex k R=>by
  obtain⟨t,x,y,p,rfl,v⟩:=LB k;obtain⟨⟨⟨m,l⟩,j⟩,i⟩:=a4 v;rw[e];by_cases z:iZ Ψ a=true/\iZ Ψ b=true
  .rw[jY (show iZ Ψ (.ite c a b)=true by show(iZ Ψ a&&iZ Ψ b)=true;rw[z.1,z.2];rfl)];have g:=r.e d x j R;have f:=q.e d y i R;rw[jY z.1]at g;rw[jY z.2]at f;exact GC (o.t d t m l R) g f
  .rw[dN (show iZ Ψ (.ite c a b)=false by
    show(iZ Ψ a&&iZ Ψ b)=false;cases g:iZ Ψ a
    .rfl
    .cases f:iZ Ψ b
     .rfl
     .exact absurd ⟨g,f⟩ z)]
   exact GC (o.t d t m l R) (r.s d j R) (q.s d i R)
 refine⟨n,(λd ex k u R=>by exact ff u),λ{S X} d A B ex k _ R=>?_⟩;have w:eU S (.ite c a b) ex=false:=rfl;rw[w,de,aw]at k;exact fJ (jn (n d ex (by exact k) R))
theorem RJ(f:oJ Φ Ψ G e):cH Φ Ψ G (.tup e):=by
 refine .mk1 (λ{S X} g ex k R=>?_) (λ{S ex} h k b=>?_) (λS ex k=>by exact k) (λ_ _=>rfl)
 .obtain⟨d,q,p,rfl,c⟩:=fK k;rw[dN rfl];exact Qx (f.a g d c R)
 .obtain⟨d,q,p,rfl,c⟩:=fK k;rfl
theorem RK(f:oJ Φ Ψ G e):cH Φ Ψ G (.lst e):=by
 refine .mk1 (λ{S X} g ex k R=>?_) (λ{S ex} h k b=>?_) (λS ex k=>by exact k) (λ_ _=>rfl)
 .obtain⟨d,p,rfl,c⟩:=qM k;rw[jY rfl];exact Qw (f.a g d c R)
 .obtain⟨d,p,rfl,c⟩:=qM k;rfl
theorem W0(g:cH Φ Ψ G a)(f:cH Φ Ψ G i):cH Φ Ψ G (.ix a i):=by
 refine .mk1 (λ{S X} e ex k R=>?_) (λ{S ex} h k d=>?_) (λS ex k=>by exact k) (λ_ _=>rfl)
 .obtain⟨v,s,p,rfl,c⟩:=jr k;simp only[Bz]at c;rw[dN rfl];exact Wz (B3 c.1.1) (g.b e c.1.2 R) (f.s e c.2 R)
 .obtain⟨v,s,p,rfl,c⟩:=jr k;rfl
theorem B5(d:cH Φ Ψ G a)(f:XOk S Φ Ψ G X)(k:GZ (iY a) (λx=>aL S false a x) l=true)(R:Addr->Prop):PO X l (Qy X S.M R λb Q=>wE Φ G R a b λy=>En a y Q):=by
 cases l with
 |none=>
  have z:iY a=true:=k;cases a with
  |bV=>exact K6
  |_=>exact ff z
 |some x=>
  have k:(!iY a&&aL S false a x)=true:=k;rw[Bz]at k;have e:(λ(b:Ev)(Q:Option Int->Prop)=>wE Φ G R a b λy=>En a y Q)=λb Q=>wE Φ G R a b λy=>match y with|.int i=>Q (some i)|_=>False:=by
   have c:iY a=false:=by simpa using k.1
   unfold En;rw[c];funext b Q;congr 1;funext y;cases y<;>rfl
  rw[e];exact K7 (d.s f k.2 R)
theorem W2(j:cH Φ Ψ G a)(h:cH Φ Ψ G f)(i:cH Φ Ψ G g):cH Φ Ψ G (.sl a f g):=by
 refine .mk1 (λ{S X} e ex k R=>?_) (λ{S ex} m k d=>?_) (λS ex k=>by exact k) (λ_ _=>rfl)
 .obtain⟨v,l,r,q,p,rfl,c⟩:=pI k;simp only[Bz]at c;rw[jY rfl];exact WA (j.b e c.1.1 R) (B5 h e c.1.2 R) (B5 i e c.2 R)
 .obtain⟨v,l,r,q,p,rfl,c⟩:=pI k;rfl
theorem LF(f:Nat)(C:oJ Φ Ψ G l):cH Φ Ψ G (.call f l):=by
 refine .mk1 (λ{S X} b ex k R=>?_) (λ{S ex} I k c=>?_) (λS ex k=>by exact k) (λ_ _=>rfl)
 .obtain⟨x,q,j,p,rfl,m⟩:=aE k;obtain⟨⟨⟨⟨⟨v,u⟩,t⟩,g⟩,s⟩,o⟩:=a6 m;obtain⟨E,D,J⟩:=aW b u;obtain⟨H,n,r,B,F,y,A⟩:=b.fns f x (Kt.mp v) (by simpa using s);have F:cu X.prog X.w X.K X.mg X.base r H n (Jl X.K n (Ψ f) (Φ f)):=by rw[<-b.BZ]at g;cases i:Ψ f<;>rw[i]at g F<;>first|exact F|exact ff g
  have d:=gS o;cases j with
  |nil=>exact ff t
  |cons e j=>
   rw[D2,Bz]at d;have h:=BU (M:=S.M) (R:=R) (p:=q) (pos:=p) F y E B A (C.a b _ o R) D (aI d.1 _ _) (cF d.2 _ _);refine WZ h ?_;by_cases z:iZ Ψ (.call f l)=true
   .rw[jY z];left;have z:(match Ψ f with|.f=>true|_=>false)=true:=z;cases i:Ψ f<;>rw[i]at z<;>first|rfl|exact ff z
   .exact .inr (dN (by simpa using z))
 .obtain⟨x,q,j,p,rfl,m⟩:=aE k;rfl
theorem yh(c:X.calm=true):∀b:BI,b≠.El->(∃a,bootBuiltins (Yq b)=some (.builtin a)/\dD X (.builtin a) (Qz X.K b))\/(∃a,bootBuiltins (Yq b)=some (.type a)/\dD X (.type a) (Qz X.K b))
 |.len,_=>.inl ⟨"len",rfl,cw_len.r⟩
 |.abs,_=>.inl ⟨"abs",rfl,cw_abs.r⟩
 |.max2,_=>.inl ⟨"max",rfl,(cw_max c).r⟩
 |.min2,_=>.inl ⟨"min",rfl,(cw_min c).r⟩
 |.list,_=>.inr ⟨"list",rfl,cw_list.r⟩
 |.int,_=>.inr ⟨"int",rfl,cw_int.r⟩
 |.Uh,_=>.inl ⟨"divmod",rfl,cw_dvm.r⟩
 |.El,h=>absurd rfl h
theorem fk(k:gx S (a::c) b=true):∃e r,b=e::r/\aL S false a e=true/\gx S c r=true:=by
 cases b with
 |nil=>exact ff k
 |cons e r=>exact⟨e,r,rfl,a2 k⟩
theorem qQ(k:gx S [] a=true):a=[]:=Jn.mp k
theorem Aa(k:om S (a::c) b=true):∃e r,b=e::r/\(aL S false a e||eU S a e)=true/\om S c r=true:=by
 cases b with
 |nil=>exact ff k
 |cons e r=>exact⟨e,r,rfl,a2 k⟩
theorem DC(k:om S [] a=true):a=[]:=Jn.mp k
theorem RM(b:BI)(I:oJ Φ Ψ G i)(g:∀c∈i,cH Φ Ψ G c):cH Φ Ψ G (.blt b i):=by
 refine .mk1 (λ{S X} h ex k R=>?_) (λ{S ex} Z k t=>?_) (λS ex k=>by exact k) (λ_ _=>rfl)
 .obtain⟨x,q,C,p,rfl,l⟩:=aE k;simp only[Bz]at l;obtain⟨⟨⟨⟨⟨m,P⟩,O⟩,N⟩,E⟩,s⟩:=l;have m:=Da m;obtain⟨B,A,w⟩:=aW h P;have hz:=h.wZ x (by simpa using O);have f:=qP s;cases C with
  |nil=>cases b<;>exact ff N
  |cons e C=>
   rw[D2,Bz]at f;by_cases H:b=.El
   .subst H;rw[dN rfl];rcases i with _|⟨a,_|⟨c,_|⟨d,i⟩⟩⟩<;>try exact ff E
    obtain⟨n,F⟩:=X1.mp E;have ec:c=.Gu n:=by cases c<;>first|(cases F;rfl)|exact nn F
    subst ec;obtain⟨L,K⟩:=a2 s;obtain⟨e2,r,rfl,D,LG⟩:=Aa K;cases DC LG;have j:=f.2;rw[D2,Bz]at j;have J:aL S false (.Gu n) e2=true:=by
     rcases gk D with z|z
     .exact z
     .exact ff z
    have u:n∈["int","bool"]:=by obtain⟨y,q2,rfl,l⟩:=bJ J;have:=(a2 l).2;unfold tys at this;exact b5.mp this
    have Y:=(g a FK).b h L R;have U:=(g (.Gu n) (FS _ FK)).b h D R;have o:bootBuiltins x=some (.builtin "isinstance"):=by rw[m];rfl
    exact QD (M:=S.M) (R:=R) (p:=q) (pos:=p) h.kit u B hz o Y U w A (aI f.1 _ _) (aI j.1 _ _) (cF f.2 _ _)
   .have T:mo Ψ (.blt b i)=WB b:=by
     cases b<;>first|rfl|exact dN rfl|exact jY rfl
    rw[T];rcases yh h.calm b H with⟨Q,o,v⟩|⟨Q,o,v⟩
    .exact QB v B hz (by rw[m];exact o) (I.b h _ s R) w A (aI f.1 _ _) (cF f.2 _ _)
    .exact QC v B hz (by rw[m];exact o) (I.b h _ s R) w A (aI f.1 _ _) (cF f.2 _ _)
 .obtain⟨x,q,C,p,rfl,l⟩:=aE k;rfl
theorem LH(h:cH Φ Ψ G a):cH Φ Ψ G (.bits a):=by
 refine .mk1 (λ{S X} i ex k R=>?_) (λ{S ex} j k b=>?_) (λS ex k=>by exact k) (λ_ _=>rfl)
 .obtain⟨o,m,n,l,rfl,d⟩:=kJ k;obtain⟨⟨⟨c,g⟩,e⟩,f⟩:=a4 d;have c:=Da c;subst c;rw[dN rfl];exact K8 (h.s i f R) (uA e _ _ _) g
 .obtain⟨o,m,n,l,rfl,d⟩:=kJ k;rfl
theorem RN{K:Frag}(a:P9 w=true)(r:Rep K B H w v):Rep K b H w v:=by
 cases w<;>first|(dsimp only[Rep]at r⊢;exact r)|exact ff a
theorem jt{S:SE}:∀x∈(S.lend a).M,x∈S.M:=λx b=>(eJ.mp b).1
theorem RO(c:List Nat)(u:cH Φ Ψ G a):cH Φ Ψ G (.BN c a):=by
 have x:∀R,wE Φ G R (.BN c a)=λd Q=>wE Φ G R a d λw=>P9 w=true/\Q w:=λR=>rfl;have q:∀{S:SE}{X:Cx},XOk S Φ Ψ G X->∀ex,aL S false (.BN c a) ex=true->∀R,VE X S.M R .s ex (wE Φ G R (.BN c a)):=λ{S X} b ex k R=>by have k:=a2 k;have o:XOk (S.lend c) Φ Ψ G X:=⟨b.hN,b.nd,b.calm,b.un,b.nk,b.fns,b.LC,b.BZ,b.G0,b.wZ,b.kit⟩;rw[x];refine PE.imp (u.s o k.2 R) ?_;rintro y H Q ⟨A,m,d,P,l,i,h,g⟩;obtain⟨p,D,E,C,j⟩:=l.sub (M':=(S.lend c).M) jt none (λv e=>by cases e);exact⟨p,m,d,_,j,i,h,λw v n f s r=>g w v n f.2 s (.of (RN f.1 r.bF))⟩
 refine⟨λ{S X} b ex k R=>by rw[dN rfl];exact q b ex k R,λ{S X} b ex k z R=>?_,λ{S X} b F I ex k _ R=>?_⟩
 .have k:=a2 k;have o:XOk (S.lend c) Φ Ψ G X:=⟨b.hN,b.nd,b.calm,b.un,b.nk,b.fns,b.LC,b.BZ,b.G0,b.wZ,b.kit⟩;rw[x];refine PT.imp (u.t o ex k.2 z R) ?_;rintro y H Q ⟨A,m,d,P,l,i,h,g⟩;obtain⟨p,D,E,C,j⟩:=l.sub (M':=(S.lend c).M) jt none (λv e=>by cases e);exact⟨p,m,d,_,j,i,h,λw n f s=>g w n f.2 s⟩
 .have B:eU S (.BN c a) ex=false:=rfl;rw[B,de,aw]at k;exact fJ (jn (q b ex (by exact k) R))
theorem RP(i f:Nat)(c:List CE):cH Φ Ψ G (.jL i f c):=.mk1 (λd ex k R=>by cases k) (λb k a=>by cases k) (λS ex k=>by cases k) (λ_ _=>rfl)
theorem RQ(i g f:Nat)(c:List CE):cH Φ Ψ G (.Em i g f c):=.mk1 (λd ex k R=>by cases k) (λb k a=>by cases k) (λS ex k=>by cases k) (λ_ _=>rfl)
theorem RS(f:Nat)(J:cH Φ Ψ G a)(C:oJ Φ Ψ G g):cH Φ Ψ G (.P7 f a g):=by
 refine .mk1 (λ{S X} c ex k R=>?_) (λ{S ex} P k h=>?_) (λS ex k=>by exact k) (λ_ _=>rfl)
 .obtain⟨x,q,i,p,rfl,l⟩:=aE k;obtain⟨⟨⟨⟨⟨B,A⟩,d⟩,z⟩,v⟩,b⟩:=a6 l;obtain⟨N,L,T⟩:=aW c A;obtain⟨O,n,u,I,F,D,H⟩:=c.fns f x (Kt.mp B) (by simpa using z);have F:cu X.prog X.w X.K X.mg X.base u O n (QA X.K n .f (Φ f)):=by
   rw[<-c.BZ]at d;cases E:Ψ f<;>rw[E]at d F<;>first|(cases d;done)|skip
   rename_i m
   cases m<;>first|exact F|exact ff d
  cases i with
  |nil=>exact ff b
  |cons e i=>rw[oj,Bz]at b;have t:=gS b.2;have o:=J.e c e b.1 R;rw[c.BZ,jY v]at o;rw[dN rfl,show wE Φ G R (.P7 f a g)=λj Q=>wE Φ G R a j λx=>wA Φ G R g j λs=>Φ f (x::s) (λr=>∃w y,r=.tup [w,y]/\Q w) R from rfl];exact Ra (M:=S.M) (R:=R) (p:=q) (pos:=p) F D N I H o (C.a c _ b.2 R) L (aI (bu (.inl b.1)) _ _) (cF t _ _)
 .obtain⟨x,q,i,p,rfl,l⟩:=aE k;rfl
theorem RT(i:Nat):cH Φ Ψ G (.pop i):=.mk1 (λc ex k R=>by cases k) (λb k a=>by cases k) (λS ex k=>by cases k) (λ_ _=>rfl)
theorem RU(h:∀c∈o,cH Φ Ψ G c):cH Φ Ψ G (.j3 o):=by
 refine⟨λ{S X} i ex k R=>?_,λ{S X} i ex k _ R=>?_,λ{S X} i tg br ex k _ R=>?_⟩
 .obtain⟨x,q,A,p,rfl,l⟩:=aE k;simp at l
 .obtain⟨x,q,A,p,rfl,l⟩:=aE k;simp at l
 .have E:eU S (.j3 o) ex=false:=rfl;rw[E,de,aw]at k;obtain⟨x,q,A,p,rfl,l⟩:=aE k;obtain⟨⟨⟨⟨⟨_,w⟩,D⟩,C⟩,z⟩,u⟩:=a6 l;have w:=Da w;subst w;obtain⟨y,H,F⟩:=aW i D;have hz:=i.wZ _ (by simpa using C);rcases o with _|⟨a,_|⟨b,_|⟨c,_|⟨d,o⟩⟩⟩⟩
  .simp at z
  .obtain⟨e,r,rfl,j,n⟩:=fk u;cases qQ n;exact La (M:=S.M) (R:=R) (br:=br) (tg:=tg) (p:=q) (pos:=p) y hz ((h a FK).s i j R) (aI (bu (.inl j)) _ _)
  .obtain⟨e,r,rfl,j,n⟩:=fk u;obtain⟨f,r,rfl,m,t⟩:=fk n;cases qQ t;exact Lb (M:=S.M) (R:=R) (br:=br) (tg:=tg) (p:=q) (pos:=p) y hz ((h a (by simp)).s i j R) ((h b (by simp)).s i m R) (aI (bu (.inl j)) _ _) (aI (bu (.inl m)) _ _)
  .obtain⟨e,r,rfl,j,n⟩:=fk u;obtain⟨f,r,rfl,m,t⟩:=fk n;obtain⟨g,r,rfl,B,v⟩:=fk t;cases qQ v;exact Lc (M:=S.M) (R:=R) (br:=br) (tg:=tg) (p:=q) (pos:=p) y hz ((h a (by simp)).s i j R) ((h b (by simp)).s i m R) ((h c (by simp)).s i B R) (aI (bu (.inl j)) _ _) (aI (bu (.inl m)) _ _) (aI (bu (.inl B)) _ _)
  .simp at z
theorem qR(h:DB f a=true):∃e,a=[e]/\f e=true:=cN h
theorem RV(n:cH Φ Ψ G a):cH Φ Ψ G (.uu a):=by
 refine⟨λ{S X} c ex k R=>?_,λ{S X} c ex k _ R=>?_,λ{S X} c s v ex k m R=>?_⟩
 .obtain⟨x,q,g,p,rfl,b⟩:=aE k;simp at b
 .obtain⟨x,q,g,p,rfl,b⟩:=aE k;simp at b
 .have l:eU S (.uu a) ex=false:=rfl;rw[l,de,aw]at k;obtain⟨x,q,g,p,rfl,b⟩:=aE k;obtain⟨⟨⟨⟨_,f⟩,j⟩,i⟩,d⟩:=a5 b;have f:=Da f;subst f;obtain⟨e,rfl,d⟩:=qR d;obtain⟨o,u,t⟩:=aW c j;obtain⟨h,b,r,rfl⟩:=m rfl;exact QG o (c.wZ _ (by simpa using i)) (jn (n.e c e d R)) (aI (bu (.inl d)) _ _)
theorem RW(n:cH Φ Ψ G a):cH Φ Ψ G (.rev a):=by
 have i:∀{S:SE}{X:Cx},XOk S Φ Ψ G X->∀ex,aL S false (.rev a) ex=true->∀R,VE X S.M R (mo Ψ (.rev a)) ex (wE Φ G R (.rev a)):=λ{S X} c ex k R=>by obtain⟨x,q,h,p,rfl,b⟩:=aE k;exact ff b
 refine⟨i,λ{S X} c ex k _ R=>vG (λf=>?_) (zX (i c ex k R)),λ{S X} c r w ex k s R=>?_⟩
 .obtain⟨x,q,h,p,rfl,b⟩:=aE k;rfl
 .have m:eU S (.rev a) ex=false:=rfl;rw[m,de,aw]at k;obtain⟨x,q,h,p,rfl,b⟩:=aE k;have b:(decide (x=("reversed":Str))&&gw S x&&S.zn.contains x&&DB (λv=>aL S false a v) h)=true:=b;obtain⟨⟨⟨g,l⟩,j⟩,d⟩:=a4 b;have g:=Da g;subst g;obtain⟨e,rfl,d⟩:=qR d;obtain⟨o,u,t⟩:=aW c l;exact QH o (c.wZ _ (by simpa using j)) (jn (n.e c e d R)) (aI (bu (.inl d)) _ _)
theorem RX(j:cH Φ Ψ G a)(h:cH Φ Ψ G f)(i:cH Φ Ψ G g):cH Φ Ψ G (.slt a f g):=by
 refine .mk1 (λ{S X} e ex k R=>?_) (λ{S ex} m k d=>?_) (λS ex k=>by exact k) (λ_ _=>rfl)
 .obtain⟨v,l,r,q,p,rfl,c⟩:=pI k;simp only[Bz]at c;rw[dN rfl];exact Ri (j.b e c.1.1 R) (B5 h e c.1.2 R) (B5 i e c.2 R)
 .obtain⟨v,l,r,q,p,rfl,c⟩:=pI k;rfl
theorem DE(h:attributeBase o x env (eval o env)=eval o env)(d:(backTo pos (starEach b env)).any (·.1)=false)(g:b.length<30)(c:(a.endLine==pos.line)=true):
 eval (.Call (.Attribute o x a) b [] pos) env=(do
  let ov<-eval o env
  standAt a.atName
  let(f,first)<-holding [ov] (getMethod ov x (do return (<-importBound o env).getD true))
  callWith pos f first (backTo pos (starEach b env)) (backToKw pos (keywordEach [] env))):=by
 have j:methodCallForm (b.length+([]:List Keyword).length) (backTo pos (starEach b env)) (backToKw pos (keywordEach [] env))=true:=by
  unfold methodCallForm;have i:(backTo pos (starEach b env)).all (λx=>!x.1)=true:=by rw[T1];intro z hz;rw[ef]at d;simpa using d z hz
  rw[i];show(true&&true&&decide (b.length+0+0<30))=true;simpa using g
 have e:methodCallPos true o env a pos=pure pos:=by unfold methodCallPos;simp[c]
 rw[arm_eval_Call,h];unfold methodCall;rw[j,e];rfl
theorem RY{c:List (Nat×Nat)}(h:c.any (λy=>y.1==f&&y.2==g)=true):(f,g)∈c:=by obtain⟨⟨a,b⟩,d,e⟩:=List.any_eq_true.mp h;rw[Bz]at e;cases Kt.mp e.1;cases Kt.mp e.2;exact d
theorem W4(c:XOk S Φ Ψ G X)(k5:(!gv (eO S.md f))=true)(F:cu X.prog X.w X.K X.mg X.base k a n (nj X.K n (Ψ f) (Φ f))):cu X.prog X.w X.K X.mg X.base k a n (Jl X.K n (Ψ f) (Φ f)):=by rw[<-c.BZ]at k5;cases b:Ψ f<;>rw[b]at k5 F<;>first|exact F|exact ff k5
theorem RZ(g:Nat)(m:cH Φ Ψ G a):cH Φ Ψ G (.Dq a g):=by
 refine .mk1 (λ{S X} c ex k R=>?_) (λ{S ex} w k d=>?_) (λS ex k=>by exact k) (λ_ _=>rfl)
 .obtain⟨x,q,t,p,rfl,f⟩:=aE k;obtain⟨⟨⟨l,j⟩,i⟩,b⟩:=a4 f;obtain⟨u,v,rfl,b⟩:=GV b;have b:=a2 b;obtain⟨y,q,rfl,z⟩:=bJ b.2;cases Da l;obtain⟨r,o,n⟩:=aW c j;rw[dN rfl];have h:=bu (.inl b.1);exact Rk (m.s c b.1 R) (zX ((B4 g).e c _ b.2 R)) r (c.wZ _ (by simpa using i)) rfl n o (aI h _ _) rfl rfl
 .obtain⟨x,q,t,p,rfl,f⟩:=aE k;rfl
theorem R3(l:cH Φ Ψ G a):cH Φ Ψ G (.Ui a):=by
 refine .mk1 (λ{S X} d ex k R=>?_) (λ{S ex} A k e=>?_) (λS ex k=>by exact k) (λ_ _=>rfl)
 .obtain⟨x,q,z,p,rfl,f⟩:=aE k;obtain⟨⟨⟨j,i⟩,h⟩,b⟩:=a4 f;obtain⟨u,v,rfl,b⟩:=GV b;have b:=a2 b;obtain⟨y,q,rfl,c⟩:=bJ b.2;have c:=a3 c;cases Da j;cases Da c.1.1;obtain⟨w,t,r⟩:=aW d i;obtain⟨o,n,m⟩:=aW d c.1.2;rw[dN rfl];have g:=bu (.inl b.1);exact Rl (l.s d b.1 R) (AM o (d.wZ _ (by simpa using c.2)) rfl rfl m n) w (d.wZ _ (by simpa using h)) rfl r t (aI g _ _) rfl rfl
 .obtain⟨x,q,z,p,rfl,f⟩:=aE k;rfl
theorem LI(b:XOk S Φ Ψ G X)(f:Nat)(u:oJ Φ Ψ G d)(k:aL S false (.call f d) ex=true):VX X S.M ex (λR i Q=>wA Φ G (λ_=>False) d i λj=>Φ f j Q R):=by
 obtain⟨x,q,h,p,rfl,l⟩:=aE k;obtain⟨⟨⟨⟨⟨t,s⟩,r⟩,o⟩,m⟩,g⟩:=a6 l;obtain⟨A,z,C⟩:=aW b s;obtain⟨D,n,B,y,F,v,w⟩:=b.fns f x (Kt.mp t) (by simpa using m);have c:=gS g;cases h with
 |nil=>exact ff r
 |cons e h=>rw[D2,Bz]at c;exact Lw (W4 b o F) v A y w (u.a b.X6 _ g _) z (aI c.1 _ _) (cF c.2 _ _)
theorem qS{f:NameKind->NameKind}:∀(l:List (Str×NameKind))(y:Str),(l.map λp=>(p.1,f p.2)).lookup y=(l.lookup y).map f
 |[],_=>rfl
 |(n,k)::r,y=>by
  rw[UV,D1,D1];by_cases e:(y==n)=true
  .rw[e];rfl
  .rw[h7]at e;rw[e];exact qS r y
theorem vM(h:∀x,a.names.lookup x=b.names.lookup x):dP sc a N d c=dP sc b N d c:=by unfold dP;simp only[h]
theorem LJ(a:XOk S Φ Ψ G X)(g:dP scope X.env.scope X.N (mask b S.N) b=true)(h:(b++mask b S.N).Nodup){d:St}{H:Hp}{s:Shared}(I:Inv X c d H s)(C:Addr)(e:Shared)(j:Hp)(i:List Addr):
 XOk (S.comp scope b) Φ Ψ G (aT X scope C b (mask b S.N) e j i):=by
 refine⟨rfl,h,a.calm,a.un,λx=>?_,a.fns,a.LC,a.BZ,a.G0,a.wZ,a.kit⟩;show(relabel scope X.env).names.lookup x=_;rw[gH I (gr.of g)];show _=(scope.names.map λp=>(p.1,if p.2=.free then NameKind.cell else p.2)).lookup x;rw[qS (f:=λk=>if k=.free then NameKind.cell else k)]
def kK(X:Cx)(i:Nat)(x:Str):Prop:=X.N[i]?=some x/\Loc X.env.scope x/\(X.fn x=true\/X.env.scope.names.lookup x=some .local)
noncomputable def eV(X:Cx):List Nat->List Str->Prop
 |[],a=>a=[]
 |i::b,a=>∃x r,a=x::r/\kK X i x/\eV X b r
theorem NX(a:X.N.Nodup)(h:kK X i x):PG X (.Name x p) (iU i):=Jy a h.1 h.2.1 h.2.2
theorem G5(f:X.N.Nodup):∀(a:List Expr)(c:List Str)(b:List Nat),GX a=some c->eV X b c->UZ X a (WE b)/\(assignEach a X.env).length=b.length/\(assignEach a X.env).findIdx? (·.1)=none
 |[],c,b,h,k=>by
  cases h;cases b with
  |nil=>exact⟨Jz,rfl,rfl⟩
  |cons i d=>obtain⟨x,r,e,_⟩:=k;cases e
 |e::a,c,b,h,k=>by
  cases e with
  |Name x p=>
   obtain⟨l,n,rfl⟩:=NM.mp h;cases b with
   |nil=>cases k
   |cons i d=>obtain⟨s,r,e,q,o⟩:=k;cases e;obtain⟨m,j,g⟩:=G5 f a l d n o;have e:assignEach (.Name x p::a) X.env=(false,assign (.Name x p) X.env)::assignEach a X.env:=rfl;refine⟨EI (NX f q) m rfl,by rw[e,BL,j,BL],?_⟩;rw[e,List.findIdx?_cons,g];rfl
  |_=>exact nn h
theorem G6(q:X.calm=true)(c:X.N.Nodup)(h:Uq tg=some (one,b))(k:eV X a b):PG X tg (gT X.K one a):=by
 cases tg with
 |Name x p=>
  cases h
  match a,k with
  |[i],k=>obtain⟨g,r,e,f,d⟩:=k;cases e;exact NX c f
  |[],k=>cases k
  |_::_::_,k=>obtain⟨g,r,e,f,d⟩:=k;cases e;obtain⟨u,v,t,_⟩:=d;cases t
 |Tuple s w p=>
  dsimp only[Uq]at h;obtain⟨l,o,e⟩:=NM.mp h;cases e;obtain⟨n,m,j⟩:=G5 c s b a o k;have:gT X.K false a=OM X.K a.length (WE a):=by cases a<;>rfl
  rw[this];exact ON q n m j
 |_=>exact nn h
theorem oq:∀(a:List Str)(n:Nat),(∀k x,a[k]?=some x->kK X (n+k) x)->eV X ((C0 a.length).map (n+·)) a
 |[],n,_=>rfl
 |x::a,n,h=>by
  rw[BL,xc,UV];refine⟨x,a,rfl,h 0 x rfl,?_⟩;have:=oq a (n+1) λk y b=>by have:=h (k+1) y (by simpa using b);rw[show n+1+k=n+(k+1) by lia];exact this
  rw[T2];have e:(C0 a.length).map (n+1+·)=(C0 a.length).map ((n+·)∘mz):=km λk _=>by show n+1+k=n+(k+1);lia
  rw[<-e];exact this
theorem qT(h:vK a=true)(env:Env)(x:Value):foldedSetIterable a env x=pure x:=by
 cases a<;>first|rfl|exact ff h
theorem B6:wE Φ G R (.comp d one n i c x)=λb Q=>wE Φ G R i b λz=>items z λf=>iF (λw K=>wT one d w (AW n none++b) λa=>wE Φ G (λ_=>False) c a λe=>truth e λk=>if k=true then wE Φ G (λ_=>False) x a λy=>K (some y)else K none) f [] λl=>Q (.lst l):=rfl
theorem DF(x:XOk S Φ Ψ G X)(h:qN S m one n en J L F l tg c i scope=true):
 ∃a,n=a.length/\(∀j∈m,j<a.length)/\dP scope X.env.scope X.N (mask a S.N) a=true/\(∀z,foldedSetIterable c X.env z=pure z)/\(en=true->∃M k p,tg=Expr.Tuple M k p)/\J c=true/\L (S.comp scope a) i=true/\F (S.comp scope a) l=true/\
  ∀d s B H,Inv X d B H s->∀C e g f,PG (aT X scope C a (mask a S.N) e g f) tg (gT X.K one m)/\XOk (S.comp scope a) Φ Ψ G (aT X scope C a (mask a S.N) e g f):=by
 unfold qN at h;split at h;rotate_left
 .cases h
 rename_i o a LK
 obtain⟨⟨⟨⟨⟨⟨⟨⟨⟨t,r⟩,q⟩,U⟩,T⟩,R⟩,E⟩,Q⟩,P⟩,LG⟩:=a10 h;have t:=Kt.mp t;have r:=Kt.mp r;have q:=Kt.mp q;subst t r q;have w:=Da T;have v:dP scope X.env.scope X.N (mask a S.N) a=true:=by rw[x.hN,vM (b:=S.sc) λy=>x.nk y];exact U
 have O:=gr.of v;refine⟨a,rfl,λj Z=>u3.mp Z,v,qT R _,λz=>?_,Q,P,LG,λd s B H I C e g f=>?_⟩
 .have:one=false:=by rw[z]at E;simpa using E
  subst this;cases tg with
  |Tuple M h p=>exact⟨_,_,_,rfl⟩
  |Name y p=>cases LK
  |_=>exact nn LK
 .have A:=LJ x v w I C e g f;refine⟨G6 A.calm A.nd LK ?_,A⟩;have:=oq (X:=aT X scope C a (mask a S.N) e g f) a 0 λk y u=>?_
  .simpa using this
  .have Y:y∈a:=SL u;have D:(aT X scope C a (mask a S.N) e g f).env.scope.names.lookup y=some .local:=by show(relabel scope X.env).names.lookup y=_;rw[gH I O,(O.own y Y).1];rfl
   refine⟨?_,.inl D,.inr D⟩;show(a++mask a S.N)[0+k]?=some y;rw[ik,PP (Gc.mp u).1];exact u
theorem qU(hi:cH Φ Ψ G i)(hc:cH Φ Ψ G c)(hx:cH Φ Ψ G x)(Z:XOk S Φ Ψ G X)(k:aL S false (.comp L one n i c x) ex=true)(R:Addr->Prop):
 ∃B tg a y scope p d,ex=.ListComp B [⟨tg,a,y,0⟩] scope p/\n=d.length/\(∀j∈L,j<d.length)/\dP scope X.env.scope X.N (mask d S.N) d=true/\(∀z,foldedSetIterable a X.env z=pure z)/\PI X tg a (GG X S.M R true (wE Φ G R i))/\
  ∀g s D H,Inv X g D H s->(∀C o l u,PG (aT X scope C d (mask d S.N) o l u) tg (gT X.K one L))/\(∀C o l u,PF (aT X scope C d (mask d S.N) o l u) y (ZU X.K (up S.M d.length) (wE Φ G (λ_=>False) c)))/\
   ∀C o l u,(XOk (S.comp scope d) Φ Ψ G (aT X scope C d (mask d S.N) o l u)/\aL (S.comp scope d) false x B=true)/\PE (aT X scope C d (mask d S.N) o l u) B (ZT X.K (up S.M d.length) (wE Φ G (λ_=>False) x)):=by
 obtain⟨B,tg,a,y,scope,p,rfl,kk⟩:=uz k;obtain⟨d,rfl,T,ho,U,Y,k8,m,LG,O⟩:=DF Z kk;refine⟨B,tg,a,y,scope,p,d,rfl,rfl,T,ho,U,hi.i Z tg true a (by rw[gm];exact k8) Y R,λg s D H I=>⟨λC o l u=>(O g s D H I C o l u).1,λC o l u=>?_,λC o l u=>?_⟩⟩
 .have J:=(O g s D H I C o l u).2
  match y,m with
  |[],m=>
   have m:NV c=true:=m;cases c with
   |bl b=>have:b=true:=m;subst this;refine PF.imp Pf ?_;rintro D H Q ⟨A,l,E,P,F,h,k⟩;obtain⟨b,e,q⟩:=k _ H h (ay.refl H);cases e;exact q
   |_=>exact ff m
  |[f],m=>have m:(aL (S.comp scope d) false c f&&DA c)=true:=m;rw[Bz]at m;exact PF.imp (Pg (hc.t J f m.1 m.2 λ_=>False))<|by rintro D H Q ⟨A,l,E,P,F,h,k⟩;exact⟨A,l,E,P,F,.none,h,k⟩
  |_::_::_,m=>exact ff m
 .have J:=(O g s D H I C o l u).2;refine⟨⟨J,LG⟩,?_⟩;exact PE.imp (hx.s J LG λ_=>False)<|by rintro D H Q ⟨A,l,E,P,F,h,k⟩;exact⟨A,l,E,P,F,.none,h,λw v H' pw s r=>k w v H' pw s r.bF⟩
theorem LL(o:List Nat)(one:Bool)(n:Nat)(B:cH Φ Ψ G i)(D:cH Φ Ψ G c)(w:cH Φ Ψ G x):cH Φ Ψ G (.comp o one n i c x):=by
 refine .mk1 (λ{S X} m ex k R=>?_) (λ{S ex} F k e=>?_) (λS ex k=>by exact k) (λ_ _=>rfl)
 .obtain⟨j,q,d,f,b,p,L,rfl,rfl,g,A,h,J,z⟩:=qU B D w m k R;rw[jY rfl];rw[B6];intro a s l H Q I y;obtain⟨v,u,t⟩:=z a s l H I;exact Ld m.calm A g J v u (λC r K E=>(t C r K E).2) h a s l H Q I y
 .obtain⟨j,q,d,f,b,p,rfl,M⟩:=uz k;rfl
theorem R4:oJ Φ Ψ G []:=by
 have en:∀{S:SE}{a:List Expr},gx S [] a=true->a=[]:=λ{S a} h=>by exact Jn.mp h
 have e:∀{S:SE}{a:List Expr},om S [] a=true->a=[]:=λ{S a} h=>by exact Jn.mp h
 refine⟨λd a k R=>?_,λd a k R=>?_,λd a b c k R=>absurd (en k) c,λd a b c k R=>absurd (en k) c,λd a b c k _ R=>absurd (en k) c,λd a b c k _ R=>absurd (en k) c⟩
 .rw[en k];exact Qv
 .rw[e k];exact K5
theorem LM(l:cH Φ Ψ G a)(o:oJ Φ Ψ G m):oJ Φ Ψ G (a::m):=by
 have p:∀{S:SE}{j:List Expr},gx S (a::m) j=true->∃e r,j=e::r/\aL S false a e=true/\gx S m r=true:=λ{S j} h=>by
  cases j with
  |nil=>exact ff h
  |cons e r=>have h:=P3.mp h;exact⟨e,r,rfl,h.1,h.2⟩
 have w:∀R,wA Φ G R (a::m)=λv Q=>wE Φ G R a v λx=>wA Φ G R m v λy=>Q (x::y):=λR=>rfl;refine⟨λc j k R=>?_,λ{S X} c j k R=>?_,λ{S X} c j f q k R=>?_,λ{S X} c j f q k R=>?_,λ{S X} c j f q k i R=>?_,λ{S X} c j f q k i R=>?_⟩
 .obtain⟨e,r,rfl,g,d⟩:=p k;rw[w];exact K4 (aI (bu (.inl g)) _ _) (l.s c g R) (o.a c r d R)
 .cases j with
  |nil=>exact ff k
  |cons e r=>have k:=P3.mp k;rw[w];exact GD (aI (bu (gk k.1)) _ _) (l.b c k.1 R) (o.b c r k.2 R)
 .obtain⟨e,r,rfl,g,d⟩:=p k;cases m with
  |nil=>
   have:r=[]:=by exact Jn.mp d
   subst this;exact EF (l.s c g R)
  |cons b u=>
   cases r with
   |nil=>exact ff d
   |cons n r=>exact Qp (l.s c g R) (o.av c (n::r) f (by simp) d R)
 .obtain⟨e,r,rfl,g,d⟩:=p k;cases m with
  |nil=>
   have:r=[]:=by exact Jn.mp d
   subst this;exact EF (l.s c g R)
  |cons b u=>
   cases r with
   |nil=>exact ff d
   |cons n r=>exact Wx (l.s c g R) (o.ov c (n::r) f (by simp) d R)
 .obtain⟨e,r,rfl,g,d⟩:=p k;have i:=a2 i;cases m with
  |nil=>
   have:r=[]:=by exact Jn.mp d
   subst this;exact K3 (l.t c e g i.1 R)
  |cons b u=>
   cases r with
   |nil=>exact ff d
   |cons n r=>exact Qt (l.t c e g i.1 R) (o.at c (n::r) f (by simp) d i.2 R)
 .obtain⟨e,r,rfl,g,d⟩:=p k;have i:=a2 i;cases m with
  |nil=>
   have:r=[]:=by exact Jn.mp d
   subst this;exact Qq (l.t c e g i.1 R)
  |cons b u=>
   cases r with
   |nil=>exact ff d
   |cons n r=>exact Wy (l.t c e g i.1 R) (o.ot c (n::r) f (by simp) d i.2 R)
variable(Φ Ψ G)
mutual
theorem snd:∀c:CE,cH Φ Ψ G c
 |.var i=>Rv i
 |.int i=>Rx i
 |.bl b=>WW b
 |.str x=>Ry x
 |.bV=>RA
 |.Gu n=>RB n
 |.glob g=>B4 g
 |.bin op a b=>RC op (snd a) (snd b)
 |.neg a=>RD (snd a)
 |.not a=>RE (snd a)
 |.cmp op a b=>RG op (snd a) (snd b)
 |.and d=>RH (lV d).1
 |.or d=>WY (lV d).1
 |.ite c a b=>RI (snd c) (snd a) (snd b)
 |.tup d=>RJ (lV d).1
 |.lst d=>RK (lV d).1
 |.ix a i=>W0 (snd a) (snd i)
 |.sl a e h=>W2 (snd a) (snd e) (snd h)
 |.call f d=>LF f (lV d).1
 |.blt b d=>RM b (lV d).1 (lV d).2
 |.bits a=>LH (snd a)
 |.comp j one n i c x=>LL j one n (snd i) (snd c) (snd x)
 |.j3 d=>RU (lV d).2
 |.uu a=>RV (snd a)
 |.rev a=>RW (snd a)
 |.pop i=>RT i
 |.own i π=>Rw i π
 |.jL i f d=>RP i f d
 |.BN k a=>RO k (snd a)
 |.Em i g f d=>RQ i g f d
 |.P7 f a d=>RS f (snd a) (lV d).1
 |.slt a e h=>RX (snd a) (snd e) (snd h)
 |.Dq a g=>RZ g (snd a)
 |.Ui a=>R3 (snd a)
theorem lV:∀cs:List CE,oJ Φ Ψ G cs/\∀c∈cs,cH Φ Ψ G c
 |[]=>⟨R4,by simp⟩
 |c::cs=>⟨LM (snd c) (lV cs).1,λd a=>by
  rcases Hk.mp a with e|h
  .rw[e];exact snd c
  .exact(lV cs).2 d h⟩
end
end
noncomputable def NY(S:SE)(i:Nat)(x:Str):Bool:=S.N[i]?==some x&&(S.nk.lookup x==some .local||S.nk.lookup x==some .cell)
noncomputable def Ab(S:SE):List Nat->List Str->Bool
 |[],a=>a.isEmpty
 |i::b,a=>match a with
  |x::r=>NY S i x&&Ab S b r
  |[]=>false
noncomputable def G7(S:SE)(a:List Nat):Bool:=a.all λi=>!sH S.M i
noncomputable def SE.less(S:SE)(i:Nat):SE:={S with M:=S.M.filter (·.1 !=i)}
noncomputable def SE.bare(S:SE):SE:={S with M:=[]}
noncomputable def Ac:Expr->Bool
 |.Tuple _ _ _=>false
 |_=>true
noncomputable def NZ:Expr->Bool
 |.ListComp _ _ _ _=>false
 |_=>true
noncomputable def Ur(S:SE)(b vs:List Expr):Option (Option (List Str)):=
 if !(b.length==2||b.length==3)||vs.length !=b.length then some none
 else if vs.any λ|.Starred ..=>true|_=>false then some none
 else
  let line:=(b.head?.map (·.pos.line)).getD 0
  let a:=b.filterMap λ
   |.Name c pos=>if S.nk.lookup c==some .local&&pos.line==line then some c else none
   |_=>none
  if a.length !=b.length||a.eraseDups.length !=a.length then some none
  else if vs.all (foldedForSure 8)then some none
  else if vs.all (constantsAlone 8)then none
  else some (some a)
noncomputable def DG(f:List Expr->Expr->Bool):Stmt->Bool
 |.Assign a v _=>f a v
 |_=>false
noncomputable def oWh(f:Expr->List Stmt->List Stmt->Bool):Stmt->Bool
 |.While c a b _=>f c a b
 |_=>false
noncomputable def oFr(f:Expr->Expr->List Stmt->List Stmt->Bool):Stmt->Bool
 |.For t i a b _=>f t i a b
 |_=>false
noncomputable def oRs(f:Expr->Bool):Stmt->Bool
 |.Raise (some x) none _=>f x
 |_=>false
noncomputable def R5(f:Expr->Bool):Stmt->Bool
 |.Expr v _=>f v
 |_=>false
noncomputable def oTr(f:List Stmt->List ExceptHandler->Bool):Stmt->Bool
 |.Try b h o z _=>o.isEmpty&&z.isEmpty&&f b h
 |_=>false
noncomputable def oHd(f:Option Expr->Option Str->List Stmt->Bool):ExceptHandler->Bool
 |.ExceptHandler c n b _=>f c n b
noncomputable def oSm{α:Type}(f:α->Bool):Option α->Bool
 |some a=>f a
 |none=>false
noncomputable def B7(f:Str->Pos->Expr->Bool):Stmt->Bool:=DG λa v=>o1 (Z1 λx p=>f x p v) a
noncomputable def G8(f:List Expr->Expr->Bool):Stmt->Bool:=DG λa v=>o1 (z7 λb=>f b v) a
noncomputable def N3(f:List Expr->List Expr->Bool):Stmt->Bool:=DG λb v=>o1 (z7 λc=>z7 (λa=>f c a) v) b
noncomputable def N4(f:Expr->Expr->Expr->Bool):Stmt->Bool:=DG λa v=>o1 (GS λo k=>f o k v) a
noncomputable def W5(f:Expr->Str->Pos->Pos->Expr->Bool):Stmt->Bool:=R5 (uy λg b k c=>k&&o1 (λv=>Dz (λo m a=>f o m a c v) g) b)
noncomputable def LN(n:Bool)(f:Expr->Bool):Stmt->Bool
 |.Return (some v) _=>f v
 |.Return none _=>n
 |_=>false
noncomputable def R6(f:Expr->List Stmt->List Stmt->Bool):Stmt->Bool
 |.If c a b _=>f c a b
 |_=>false
noncomputable def R7(f:Expr->List Stmt->Bool):Stmt->Bool:=oWh λc a b=>b.isEmpty&&f c a
noncomputable def R8(f:Expr->Expr->List Stmt->Bool):Stmt->Bool:=oFr λt i a b=>b.isEmpty&&f t i a
noncomputable def Z5:Stmt->Bool
 |.Break _=>true
 |_=>false
noncomputable def G9(f:Str->Expr->Bool):Stmt->Bool:=oRs (uy λg a k _=>k&&o1 (λe=>j6 (λx=>f x e) g) a)
noncomputable def Hf(f:Stmt->Bool)(g:List Stmt->Bool):List Stmt->Bool
 |e::a=>f e&&g a
 |[]=>false
mutual
noncomputable def W6:Md->Md->Bool
 |.s,m=>Ly m
 |.f,m=>Up m
 |.o d a,m=>match m with
  |.o c b=>decide (d=c)&&R9 a b
  |_=>false
 |.io a,m=>match m with
  |.io b=>W6 a b
  |_=>false
noncomputable def R9:List Md->List Md->Bool
 |[],l=>l.isEmpty
 |a::c,l=>match l with
  |b::bs=>W6 a b&&R9 c bs
  |[]=>false
end
mutual
theorem qV:∀{a b:Md},W6 a b=true->a=b
 |.s,m,h=>by cases m<;>first|rfl|exact ff h
 |.f,m,h=>by cases m<;>first|rfl|exact ff h
 |.o d a,m,h=>by
  cases m with
  |o c b=>have h:=P3.mp h;rw[Da h.1,B8 h.2]
  |_=>exact ff h
 |.io a,m,h=>by
  cases m with
  |io b=>exact Q1 _ (qV h)
  |_=>exact ff h
theorem B8:∀{a b:List Md},R9 a b=true->a=b
 |[],l,h=>by
  cases l with
  |nil=>rfl
  |cons b bs=>exact ff h
 |a::c,l,h=>by
  cases l with
  |nil=>exact ff h
  |cons b bs=>have h:=P3.mp h;rw[qV h.1,B8 h.2]
end
noncomputable def hasB(M:Ms)(i:Nat)(m:Md):Bool:=match M.lookup i with
 |some k=>W6 k m
 |none=>false
theorem jO(h:hasB M i m=true):(i,m)∈M:=by
 unfold hasB at h;cases e:M.lookup i with
 |none=>rw[e]at h;exact ff h
 |some k=>rw[e]at h;rw[<-qV h];exact jo e
noncomputable def N5(f:Expr->Str->List Expr->Bool):Expr->Bool:=uy λg b k c=>k&&Dz (λo m a=>(a.endLine==c.line)&&decide (b.length<30)&&f o m b) g
mutual
noncomputable def fM(S:SE):CE->Expr->Bool
 |.pop i,e=>z8 (λo m n k=>decide (m=("pop":Str))&&(n.endLine==k.line)&&Dy S.M i&&lU S i o) e
 |.jL i f h,e=>gP (λx d=>S.fn[f]?==some x&&gw S x&&!S.mt.any (·.1==f)&&(match eO S.md f with
  |.io m=>hasB S.M i m
  |_=>false)&&oj (λv=>lU S i v) (λd=>ou S h d) d) e
 |.Em i g f h,e=>N5 (λo x d=>S.fn[f]?==some x&&S.mt.any (λy=>y.1==f&&y.2==g)&&(match eO S.md f with
  |.io (.o j ms)=>hasB S.M i (.o j ms)&&!j.contains x
  |_=>false)&&lU S i o&&(h.isEmpty&&d.isEmpty)) e
 |.bin op a b,e=>GQ (λo l r=>decide (op=o)&&fM S a l&&fM S b r) e
 |.cmp op a b,e=>GR (λo l r=>decide (op=o)&&!decide (op=.In)&&!decide (op=.NotIn)&&fM S a l&&fM S b r) e
 |.call f h,e=>gP (λx d=>S.fn[f]?==some x&&gw S x&&!d.isEmpty&&!gv (eO S.md f)&&!S.mt.any (·.1==f)&&ou S h d) e
 |.blt b h,e=>gP (λx d=>decide (x=Yq b)&&gw S x&&S.zn.contains x&&biA b d.length&&!decide (b=.El)&&!d.isEmpty&&ou S h d) e
 |.ix a b,e=>GS (λv s=>BY s&&fM S a v&&fM S b s) e
 |.lst h,e=>Ru (λd=>ou S h d) e
 |.tup h,e=>z7 (λd=>ou S h d) e
 |.and _,_=>false
 |.or _,_=>false
 |c,e=>aL S false c e
noncomputable def ou(S:SE):List CE->List Expr->Bool
 |[],b=>b.isEmpty
 |a::c,b=>oj (λe=>fM S a e) (λb=>ou S c b) b
end
noncomputable def oz(S:SE):CE->Expr->Bool
 |.cmp op a b,e=>fM S (.cmp op a b) e
 |.jL i f d,e=>fM S (.jL i f d) e
 |.Em i g f d,e=>fM S (.Em i g f d) e
 |.call f d,e=>fM S (.call f d) e
 |.pop _,_=>false
 |.bin _ _ _,_=>false
 |.blt _ _,_=>false
 |.ix _ _,_=>false
 |.lst _,_=>false
 |.tup _,_=>false
 |.and _,_=>false
 |.or _,_=>false
 |c,e=>aL S false c e&&DA c
noncomputable def lW(S:SE):List CE->List Expr->Bool
 |[],_=>false
 |a::d,c=>match d with
  |[]=>DB (λe=>oz S a e) c
  |b::bs=>oj (λe=>oz S a e) (λc=>lW S (b::bs) c) c
noncomputable def Hg(S:SE):CE->Expr->Bool
 |.and b,e=>Rr (λo a=>decide (o=.And)&&lW S b a) e
 |.or b,e=>Rr (λo a=>decide (o=.Or)&&lW S b a) e
 |c,e=>oz S c e
noncomputable def isS:Md->Bool
 |.s=>true
 |_=>false
noncomputable def Z6(a:Nat->Md):CE->Md
 |.call f _=>a f
 |c=>mo a c
noncomputable def isVar:CE->Option Nat
 |.var i=>some i
 |_=>none
noncomputable def W7(S:SE)(m:Md)(e:CE)(v:Expr):Bool:=match isVar e with
 |some i=>hasB S.M i m&&lU S i v
 |none=>false
noncomputable def W8(S:SE)(a:Nat->Md)(m:Md)(e:CE)(v:Expr):Bool:=
 !gv m&&((isS m&&(aL S.bare false e v||aL S false e v))||(W6 (Z6 a e) m&&(aL S.bare false e v||aL S false e v))||W7 S m e v)
noncomputable def LO(S:SE)(m:Md):Bool:=match m with
 |.io k=>hasB S.M 0 k
 |_=>false
noncomputable def N6(f:Expr->Str->Expr->Bool):Stmt->Bool:=DG λa v=>o1 (Dz λo x _=>f o x v) a
noncomputable def isCall:CE->Bool
 |.call _ _=>true
 |_=>false
noncomputable def Sa(S:SE)(i n:Nat)(x:Str):Bool:=match S.M.lookup i with
 |some (.o b a)=>b[n]?==some x&&(match a[n]? with
  |some k=>Ly k
  |none=>false)
 |_=>false
noncomputable def Yr(S:SE)(a:List Nat)(one e:Bool)(f:Expr->Bool)(g:List Stmt->Bool)(tg c:Expr)(b:List Stmt):Bool:=
 match Uq tg with
 |some (o,d)=>(one==o)&&Ab S a d&&G7 S a&&vK c&&(!e||!one)&&f c&&g b
 |none=>false
noncomputable def Hh:Expr->Bool
 |.SetComp _ _ _ _=>false
 |.DictComp _ _ _ _ _=>false
 |_=>true
noncomputable def Sb(S:SE):CE->Expr->Bool
 |.call f a,e=>aL S false (.call f a) e
 |_,_=>false
noncomputable def W9(S:SE)(i g y:Nat)(n z:Str):Bool:=NY S i n&&NY S y z&&(S.nk.lookup n==some .local)&&okN n&&!(i==y)&&!sH S.M i&&!sH S.M y
def trZ(S:SE)(i g y:Nat)(e:CE)(ex:Expr)(n z:Str)(v:Expr):Bool:=W9 S i g y n z&&Sb S e ex&&j6 (λa=>decide (a=n)) v
def trC(S:SE)(i g y:Nat)(e:CE)(ex:Expr)(b:List Stmt)(c:Expr)(n:Str):Bool:=o1 (B7 λz _ v=>trZ S i g y e ex n z v) b&&j6 (λx=>S.gn[g]?==some x&&gw S x) c
def trA(S:SE)(i g y:Nat)(e:CE)(ex:Expr)(c:Option Expr)(n:Option Str)(b:List Stmt):Bool:=oSm (λc=>oSm (λn=>trC S i g y e ex b c n) n) c
def trX(S:SE)(i g y:Nat)(e:CE)(h:List ExceptHandler)(ex:Expr):Bool:=o1 (oHd λc n b=>trA S i g y e ex c n b) h
mutual
noncomputable def LP(S:SE)(d:Nat->Md)(m:Md):CS->Stmt->Bool
 |.set i e,st=>B7 (λx _ v=>NY S i x&&(if sH S.M i=true then(!gv m||!(i==0))&&((Dy S.M i&&iZ d e)||(isCall e&&hasB S.M i (Z6 d e)))&&aL (S.less i) false e v else aL S false e v)) st
 |.zO f e,st=>G8 (λp v=>(match GX p with|some l=>Ab S f l|none=>false)&&G7 S f&&aL S false e v&&(Ac v||z7 (λvs=>decide (Ur S p vs=some none)) v)) st
 |.par f p,st=>N3 (λtg vs=>(match GX tg with|some l=>Ab S f l&&decide (Ur S tg vs=some (some l))&&decide l.Nodup&&l.all (λx=>S.nk.lookup x==some .local)|none=>false)&&G7 S f&&gx S p vs&&decide (vs.length=2)) st
 |.app i e,st=>W5 (λo r u s v=>decide (r=("append":Str))&&(u.endLine==s.line)&&Dy S.M i&&lU S i o&&aL S false e v) st
 |.put i k e,st=>N4 (λo j v=>Dy S.M i&&lU S i o&&BY j&&aL S false k j&&aL S false e v) st
 |.iE j e,st=>B7 (λx _ v=>NY S j x&&!sH S.M j&&NZ v&&Hh v&&fM S e v) st
 |.Wh f e,st=>G8 (λp v=>(match GX p with|some l=>Ab S f l|none=>false)&&G7 S f&&Ac v&&fM S e v) st
 |.ret e,st=>LN (iY e&&isS m) (λv=>W8 S d m e v) st
 |.iff c a b,st=>R6 (λt x y=>aL S false c t&&DA c&&cG S d m a x&&cG S d m b y) st
 |.Dr c b,st=>R7 (λt x=>aL S false c t&&DA c&&cG S d m b x) st
 |.fr f one q b,st=>R8 (λtg i x=>Yr S f one (GY q) (λi=>aL S true q i) (λx=>cG S d m b x) tg i x) st
 |.brk,st=>Z5 st
 |.raise g e,st=>G9 (λx v=>S.gn[g]?==some x&&gw S x&&aL S false e v) st
 |.Ds i n e,st=>N6 (λo x v=>Sa S i n x&&lU S i o&&aL S false e v) st
 |.Du e,st=>LN (iY e&&LO S m) (λv=>LO S m&&aL S false e v) st
 |.Ul j c b,st=>R8 (λtg i x=>Yr S [j] true false (λi=>gP (λy p=>decide (y=("range":Str))&&gw S y&&S.zn.contains y&&DB (λe=>fM S c e) p) i) (λx=>cG S d m b x) tg i x) st
 |.Wg c a b,st=>R6 (λt x y=>Hg S c t&&cG S d m a x&&cG S d m b y) st
 |.Uj c b,st=>R7 (λt x=>Hg S c t&&cG S d m b x) st
 |.Wi i g y e,st=>oTr (λb h=>o1 (R5 λex=>trX S i g y e h ex) b) st
 |.Uk e,st=>LN false (λv=>LO S m&&fM S e v) st
 |.NK _ _,_=>false
noncomputable def cG(S:SE)(d:Nat->Md)(m:Md):List CS->List Stmt->Bool
 |[],c=>c.isEmpty
 |a::g,c=>match a with
  |.NK f b=>g.isEmpty&&(!gv m||!f.contains 0)&&cG (S.lend f) d m b c
  |a=>Hf (λe=>LP S d m a e) (λc=>cG S d m g c) c
end
structure Er(S:SE)(Φ:Nat->aY)(Ψ:Nat->Md)(G:Nat->W)(X:Cx):Prop extends XOk S Φ Ψ G X where
 bk:X.env.blockKind=.function
 Rq:∀x,X.fn x=true
 Jo:∀j x C,S.gn[j]?=some x->G j=.cls C->pV X.K C
 own:PassesOwn (model X.prog X.w) X.A X.env X.xe
 stk:X.stack=X.env::X.outer/\X.env.frame=some X.env.locals
 Xa:∀i m m',(i,m)∈S.M->(i,m')∈S.M->m=m'
section
variable{S:SE}{Φ:Nat->aY}{Ψ:Nat->Md}{G:Nat->W}{X:Cx}
theorem XOk.qW(h:XOk S Φ Ψ G X)(M:Ms):XOk {S with M:=M} Φ Ψ G X:=⟨h.hN,h.nd,h.calm,h.un,h.nk,h.fns,h.LC,h.BZ,h.G0,h.wZ,h.kit⟩
theorem nG(h:Er S Φ Ψ G X)(k:NY S i x=true):kK X i x:=by unfold NY at k;simp only[Bz,si,Kt]at k;refine⟨by rw[h.hN];exact k.1,?_,.inl (h.Rq x)⟩;unfold L2.Loc;rw[h.nk];exact k.2
theorem jP(h:Er S Φ Ψ G X):∀{b:List Nat}{a:List Str},Ab S b a=true->eV X b a
 |[],a,k=>Jn.mp k
 |i::c,[],k=>by cases k
 |i::c,x::r,k=>by rw[Ab,Bz]at k;exact⟨x,r,rfl,nG h k.1,jP h k.2⟩
theorem lX(h:G7 S a=true):∀i∈a,¬aV S.M i:=λi b=>iH (by simpa using T1.mp h i b)
theorem Hi(f:(i,m)∈S.M)(d:∀c,(i,c)∈S.M->c=m):x∈S.M↔x=(i,m)\/x∈(S.less i).M:=by
 show _↔_\/x∈S.M.filter (·.1 !=i);rw[eJ,bne_iff_ne];obtain⟨a,b⟩:=x;constructor
 .intro h;by_cases e:a=i
  .subst e;rw[d b h];exact .inl rfl
  .exact .inr ⟨h,e⟩
 .rintro(e|h)
  .cases e;exact f
  .exact h.1
theorem Hj:¬aV (S.less i).M i:=by rintro⟨m,h⟩;have h:(i,m)∈S.M.filter (·.1 !=i):=h;rw[eJ,bne_iff_ne]at h;exact h.2 rfl
noncomputable def B9:Expr->Bool
 |.SetComp _ _ _ _=>false
 |.DictComp _ _ _ _ _=>false
 |_=>true
theorem Sd(h:aL S d c e=true):B9 e=true:=by
 cases e with
 |SetComp _ _ _ _=>
  cases c with
  |own i b=>(obtain⟨_,_,_,e⟩:=(fj h).2;cases e)
  |BN f a=>exact ff h
  |_=>exact ff h
 |DictComp _ _ _ _ _=>
  cases c with
  |own i b=>(obtain⟨_,_,_,e⟩:=(fj h).2;cases e)
  |BN f a=>exact ff h
  |_=>exact ff h
 |_=>rfl
noncomputable def Z7(S:SE)(x:Str)(p:Pos):Expr->Bool
 |.ListComp _ _ scope q=>(S.nk.lookup x==some .local)&&(p.line==q.line)&&!(scope.names.any λ(n,k)=>n==x&&(k==.local||k==.cell))
 |_=>false
theorem Xb(h:Er S Φ Ψ G X)(c:B9 e=true)(x:Str)(p:Pos)(l:Nat):swapsWith e (some (.Name x p)) l X.env=pure (Z7 S x p e):=by
 cases e with
 |ListComp a b scope q=>show(pure _:Sem Bool)=pure _;rw[h.bk];show(pure (true&&(X.env.scope.names.lookup x==some .local)&&(p.line==q.line)&&_):Sem Bool)=_;rw[h.nk,gm];rfl
 |SetComp _ _ _ _=>exact ff c
 |DictComp _ _ _ _ _=>exact ff c
 |_=>rfl
theorem Ca(l:Nat)(env:Env):swapsWithSole [.Tuple a k p] e l env=pure false:=by
 cases e<;>rfl
theorem Hl(l:Nat)(env:Env):swapsWithSole [.Subscript o i p] e l env=pure false:=by
 cases e<;>rfl
theorem Cb(a:Ac e=true)(b:List Expr)(k:Nat)(p:Pos)(env:Env):swappedStores [.Tuple b k p] e env=pure none:=by
 cases e<;>first|rfl|exact ff a
theorem Ho(env:Env):swappedStores [.Subscript o i p] e env=pure none:=by
 cases e<;>rfl
theorem Hq(h:Er S Φ Ψ G X)(e:Ur S a vs=some o):swappedStores [.Tuple a k p] (.Tuple vs k2 p2) X.env=pure o:=by
 delta swappedStores
 unfold Ur at e;have b:∀x,X.env.kindOf x=S.nk.lookup x:=λx=>h.nk x;simp only[b,h.bk,bne_self_eq_false,aw];dsimp only at e;split at e
 .rename_i c
  cases e;exact Bi c
 rename_i c1
 refine(BM c1).trans ?_;split at e
 .rename_i c
  cases e;exact Bi c
 rename_i c2
 refine(BM c2).trans ?_;split at e
 .rename_i c
  cases e;exact Bi c
 rename_i c3
 refine(BM c3).trans ?_;split at e
 .rename_i c
  cases e;exact Bi c
 rename_i c4
 refine(BM c4).trans ?_;split at e
 .cases e
 rename_i c5
 cases e;exact BM c5
end
theorem ju(h:DG f e=true):∃a v q,e=.Assign a v q/\f a v=true:=by cases e<;>first|exact⟨_,_,_,rfl,h⟩|exact ff h
theorem LQ(h:oWh f e=true):∃c a b q,e=.While c a b q/\f c a b=true:=by cases e<;>first|exact⟨_,_,_,_,rfl,h⟩|exact ff h
theorem LR(h:oFr f e=true):∃t i a b q,e=.For t i a b q/\f t i a b=true:=by cases e<;>first|exact⟨_,_,_,_,_,rfl,h⟩|exact ff h
theorem LS(h:oRs f e=true):∃x q,e=.Raise (some x) none q/\f x=true:=by
 cases e<;>try exact ff h
 rename_i x y q
 cases x<;>cases y<;>first|exact⟨_,_,rfl,h⟩|exact ff h
theorem yi{st:Stmt}(h:R5 f st=true):∃v q,st=.Expr v q/\f v=true:=by cases st<;>first|exact⟨_,_,rfl,h⟩|exact ff h
theorem nH{st:Stmt}(h:B7 f st=true):∃x p v q,st=.Assign [.Name x p] v q/\f x p v=true:=by obtain⟨d,v,q,rfl,c⟩:=ju h;obtain⟨t,rfl,b⟩:=cN c;obtain⟨x,p,rfl,a⟩:=BW b;exact⟨_,_,_,_,rfl,a⟩
theorem uB{st:Stmt}(h:G8 f st=true):∃a k p v q,st=.Assign [.Tuple a k p] v q/\f a v=true:=by obtain⟨e,v,q,rfl,d⟩:=ju h;obtain⟨t,rfl,c⟩:=cN d;obtain⟨a,k,p,rfl,b⟩:=fK c;exact⟨_,_,_,_,_,rfl,b⟩
theorem DH{st:Stmt}(h:N3 f st=true):∃a k p vs c b q,st=.Assign [.Tuple a k p] (.Tuple vs c b) q/\f a vs=true:=by obtain⟨j,v,q,rfl,i⟩:=ju h;obtain⟨t,rfl,g⟩:=cN i;obtain⟨a,k,p,rfl,e⟩:=fK g;obtain⟨vs,c,b,rfl,d⟩:=fK e;exact⟨_,_,_,_,_,_,_,rfl,d⟩
theorem DI{st:Stmt}(h:N4 f st=true):∃o k p v q,st=.Assign [.Subscript o k p] v q/\f o k v=true:=by obtain⟨d,v,q,rfl,c⟩:=ju h;obtain⟨t,rfl,b⟩:=cN c;obtain⟨o,k,p,rfl,a⟩:=jr b;exact⟨_,_,_,_,_,rfl,a⟩
theorem Hr{st:Stmt}(h:W5 f st=true):∃o m c v b q,st=.Expr (.Call (.Attribute o m c) [v] [] b) q/\f o m c b v=true:=by obtain⟨v,q,rfl,n⟩:=yi h;obtain⟨g,s,r,p,rfl,l⟩:=gQ n;obtain⟨k,j⟩:=a2 l;obtain⟨e,rfl,i⟩:=cN j;obtain⟨o,m,a,rfl,d⟩:=gR i;rw[Jn.mp k];exact⟨_,_,_,_,_,_,rfl,d⟩
theorem qX{st:Stmt}(h:LN n f st=true):(∃v q,st=.Return (some v) q/\f v=true)\/∃q,st=.Return none q/\n=true:=by
 cases st<;>try exact ff h
 rename_i v q
 cases v
 .exact .inr ⟨_,rfl,h⟩
 .exact .inl ⟨_,_,rfl,h⟩
theorem yj{st:Stmt}(h:R6 f st=true):∃c a b q,st=.If c a b q/\f c a b=true:=by
 cases st<;>try exact ff h
 exact⟨_,_,_,_,rfl,h⟩
theorem yk{st:Stmt}(h:R7 f st=true):∃c a q,st=.While c a [] q/\f c a=true:=by obtain⟨c,a,b,q,rfl,e⟩:=LQ h;obtain⟨k,d⟩:=a2 e;rw[Jn.mp k];exact⟨_,_,_,rfl,d⟩
theorem ym{st:Stmt}(h:R8 f st=true):∃tg c a q,st=.For tg c a [] q/\f tg c a=true:=by obtain⟨t,i,a,b,q,rfl,e⟩:=LR h;obtain⟨k,d⟩:=a2 e;rw[Jn.mp k];exact⟨_,_,_,_,rfl,d⟩
theorem Ad{st:Stmt}(h:G9 f st=true):∃x a e l q,st=.Raise (some (.Call (.Name x a) [e] [] l)) none q/\f x e=true:=by obtain⟨x,q,rfl,j⟩:=LS h;obtain⟨g,n,m,p,rfl,i⟩:=gQ j;obtain⟨k,d⟩:=a2 i;obtain⟨e,rfl,c⟩:=cN d;obtain⟨y,a,rfl,b⟩:=bJ c;rw[Jn.mp k];exact⟨_,_,_,_,_,rfl,b⟩
section
variable{X:Cx}{M:Ms}{m:Md}{st:Stmt}{i j k:Nat}{e:Expr}{te:(Addr->Prop)->WT}{M':Ms}{m0:Md}
theorem LU(c:∀R,PS X st (pO (tV X M R (Qg X.K .s) (te R)) (iU i)))(n:¬aV M i):VS X M m st (λd b=>te d.ex b λw=>d.nx (b.set i (some w))):=by rintro a s f H D I ⟨A,q,b,d,S,o,hz,h,k⟩;refine c d.ex a s f H D I ⟨A,q,b,_,S,o,h,λw v p l g r=>?_⟩;exact k.nx A _ _ p rfl rfl l ((S.same g).set n r.bF)
theorem Ht(c:∀R,PS X st (pO (tV X M' R (Qg X.K m0) (te R)) (iU i)))(g:∀x,x∈M↔x=(i,m0)\/x∈M')(C:¬aV M' i)(f:gv m=true->i≠0):VS X M m st (λd b=>te d.ex b λw=>d.nx (b.set i (some w))):=by
 rintro a s p H D I ⟨A,P,b,d,S,G,hz,h,k⟩;have F:∀v,A.s0=some v->A.s0=some v/\aV M' 0:=λv e=>by
  refine⟨e,?_⟩;have B:gv m=true:=by rw[<-hz,e];rfl
  obtain⟨t,E⟩:=(S.sl v e).2;rcases(g _).mp E with z|z
  .cases z;exact(f B rfl).elim
  .exact⟨t,z⟩
 obtain⟨T,L,J,U,o⟩:=S.sub (M':=M') (λx u=>(g x).mpr (.inr u)) A.s0 F;refine c d.ex a s p H D I ⟨T,P,b,_,o,G,h,λw v O y q r=>?_⟩;obtain⟨Q,n,l,_,N⟩:=o.own g C q r;exact k.nx Q _ _ O (n.trans L) (l.trans J) y N
theorem LV:VS X M .s (.Return none pos) (λd c=>d.rt .bV):=by rintro a s b H D I ⟨A,g,c,d,S,f,hz,h,k⟩;exact AO a s b H D I (k.rt _ _ H h S.sm (.of rfl (.of (by dsimp only[Rep]))))
theorem Hu(F:X.calm=true)(y:Gl X x)(u:X.mg x=some (.ref C))(q:pV X.K C)(z:∀R,VE X M R .s e (te R))(f:starEach [e] X.env=[(false,eval e X.env)])(B:(x==("__debug__":Str))=false):
 VS X M m (.Raise (some (.Call (.Name x p) [e] [] b)) none pos) (λd c=>te d.ex c λ_=>d.ex C):=by
 rintro a s l H D I ⟨A,J,c,d,S,⟨E,o,G,g⟩,hz,h,k⟩;exact Fb g F y u q (aZ (z d.ex) cW f) f B a s l H D I ⟨A,J,c,_,S,⟨E,o,G,g⟩,h,λw v L t n r=>⟨by show 1<=sizeLine;decide,t,S.sm.trans n⟩⟩
end
theorem uC(h:N5 f e=true):∃o m a b c,e=.Call (.Attribute o m a) b [] c/\f o m b=true/\(a.endLine==c.line)=true/\b.length<30:=by obtain⟨g,b,n,p,rfl,l⟩:=gQ h;obtain⟨k,j⟩:=a2 l;obtain⟨o,m,a,rfl,i⟩:=gR j;rw[Jn.mp k];have d:=a3 i;exact⟨_,_,_,_,_,rfl,d.2,d.1.1,Da d.1.2⟩
theorem DJ{st:Stmt}(h:N6 f st=true):∃o x p v q,st=.Assign [.Attribute o x p] v q/\f o x v=true:=by obtain⟨d,v,q,rfl,c⟩:=ju h;obtain⟨t,rfl,b⟩:=cN c;obtain⟨o,x,p,rfl,a⟩:=gR b;exact⟨_,_,_,_,_,rfl,a⟩
section
variable{X:Cx}{M:Ms}{R:Addr->Prop}{a:Expr}{es:List Expr}{ta:WT}{m:Md}{ms:List Md}{pos:Pos}
end
def fN(b:Nat->aY)(a:Nat->Md)(G:Nat->W)(s:CS):Prop:=∀{S:SE}{X:Cx}{m:Md},Er S b a G X->∀c,LP S a m s c=true->VS X S.M m c (wS b G s)
def gp(b:Nat->aY)(a:Nat->Md)(G:Nat->W)(s:List CS):Prop:=∀{S:SE}{X:Cx}{m:Md},Er S b a G X->∀c,cG S a m s c=true->z5 X S.M m c (wSs b G s)
section
variable{Φ:Nat->aY}{Ψ:Nat->Md}{G:Nat->W}
theorem Er.qW(h:Er S Φ Ψ G X)(M:Ms)(b:∀i m a,(i,m)∈M->(i,a)∈M->m=a):Er {S with M:=M} Φ Ψ G X:={toXOk:=h.toXOk.qW M,bk:=h.bk,Rq:=h.Rq,Jo:=h.Jo,own:=h.own,stk:=h.stk,Xa:=b}
theorem Hv(b:XOk S Φ Ψ G X)(k:aL S false (.call f i) v=true)(R:Addr->Prop):VE X S.M R (Ψ f) v (wE Φ G R (.call f i))/\∃g c p,v=.Call g c [] p:=by
 obtain⟨x,q,c,p,rfl,m⟩:=aE k;obtain⟨⟨⟨⟨⟨t,s⟩,r⟩,h⟩,o⟩,j⟩:=a6 m;obtain⟨C,B,E⟩:=aW b s;obtain⟨D,n,l,A,F,u,z⟩:=b.fns f x (Kt.mp t) (by simpa using o);have F:cu X.prog X.w X.K X.mg X.base l D n (Jl X.K n (Ψ f) (Φ f)):=by rw[<-b.BZ]at h;cases y:Ψ f<;>rw[y]at h F<;>first|exact F|exact ff h
 have d:=gS j;cases c with
 |nil=>exact ff r
 |cons e c=>rw[D2,Bz]at d;refine⟨?_,_,_,_,rfl⟩;exact BU (M:=S.M) (R:=R) (p:=q) (pos:=p) F u C A z ((lV Φ Ψ G i).1.a b _ j R) B (aI d.1 _ _) (cF d.2 _ _)
theorem Hw(a:XOk S Φ Ψ G X)(k:aL S false e v=true)(R:Addr->Prop):VE X S.M R (Z6 Ψ e) v (wE Φ G R e):=by
 cases e with
 |call f b=>exact(Hv a k R).1
 |_=>exact(snd Φ Ψ G _).e a v k R
theorem Ae(h:isCall e=true):∃f a,e=.call f a:=by cases e<;>first|exact⟨_,_,rfl⟩|exact ff h
theorem uD(h:iY e=true):e=.bV:=by cases e<;>first|rfl|exact ff h
theorem DK(h:isVar e=some i):e=.var i:=by cases e<;>first|(cases h;rfl)|exact nn h
theorem LW(h:Z7 S x p v=true):∃a b c d,v=.ListComp a b c d:=by cases v<;>first|exact⟨_,_,_,_,rfl⟩|exact ff h
theorem Se(k:aL S false e (.ListComp a b c d)=true):∃f one n i c x,e=.comp f one n i c x:=by
 cases e with
 |comp f one n i c x=>exact⟨_,_,_,_,_,_,rfl⟩
 |own i g=>(obtain⟨_,_,_,e⟩:=(fj k).2;cases e)
 |_=>exact ff k
theorem Ce(d:Er S Φ Ψ G X)(O:NY S i x=true)(k:aL S false e v=true)(R:Addr->Prop):
 PS X (.Assign [.Name x p] v q) (pO (tV X S.M R (Qg X.K (mo Ψ e)) (wE Φ G R e)) (iU i)):=by
 have n:=nG d O;have a:=Xb d (Sd k) x p q.line;cases m:Z7 S x p v with
 |false=>rw[m]at a;exact uP d.nd n.1 n.2.1 ((snd Φ Ψ G e).e d.toXOk v k R) a n.2.2
 |true=>rw[m]at a;obtain⟨Q,gs,h,pp,rfl⟩:=LW m;obtain⟨Z,one,n',B,c,y,rfl⟩:=Se k;obtain⟨t,tg,r,E,f,p',o,T,rfl,j,L,l,U,J⟩:=qU (snd Φ Ψ G B) (snd Φ Ψ G c) (snd Φ Ψ G y) d.toXOk k R;cases T;rw[jY rfl,B6];intro b s g H D I F;obtain⟨A,z,w⟩:=J b s g H I;exact JW o (mask o S.N) d.nd n.1 n.2.1 d.calm L U A z (λC u Y P=>(w C u Y P).2) a l n.2.2 b s g H D I (yb j g H _ F)
theorem Sg(i:Nat)(e:CE):fN Φ Ψ G (.set i e):=by
 intro S X m l st k;obtain⟨x,p,v,q,rfl,h⟩:=nH k;rw[Bz]at h;by_cases y:sH S.M i=true
 .rw[Bi y]at h;simp only[Bz]at h;obtain⟨F,⟨E,d⟩,C⟩:=h;have u:gv m=true->i≠0:=λz e=>by rw[z,e]at E;cases E
  have L:∀{t:Md},(i,t)∈S.M->(∀R,PS X (.Assign [.Name x p] v q) (pO (tV X (S.less i).M R (Qg X.K t) (wE Φ G R e)) (iU i)))->VS X S.M m (.Assign [.Name x p] v q) (λD o=>wE Φ G D.ex e o λw=>D.nx (o.set i (some w))):=λ{t} I N=>Ht (M':=(S.less i).M) (te:=λR=>wE Φ G R e) N (λj=>Hi I (λm' Q=>l.Xa i _ _ Q I)) Hj u;have J:Er (S.less i) Φ Ψ G X:=l.qW (S.less i).M λa b c B O=>l.Xa a b c (eJ.mp B).1 (eJ.mp O).1;rcases gk d with d|d
  .rw[Bz]at d;refine L (pG d.1) λR=>?_;have:=Ce J (p:=p) (q:=q) F C R;rw[jY d.2]at this;exact this
  .rw[Bz]at d;refine L (jO d.2) λR=>?_;obtain⟨f,as,rfl⟩:=Ae d.1;obtain⟨B,g,es,pp,rfl⟩:=Hv J.toXOk C R;have n:=nG l F;exact uP l.nd n.1 n.2.1 B rfl n.2.2
 .rw[BM y]at h;refine LU (te:=λR=>wE Φ G R e) (λR=>?_) (iH (by simpa using y));refine PS.imp (Ce l (p:=p) (q:=q) h.1 h.2 R)<|by rintro D Z H ⟨A,U,o,P,S,T,p,k⟩;exact⟨A,U,o,P,S,T,p,λw v Y pw s r=>k w v Y pw s (r.s S.dom)⟩
theorem Sh(f:List Nat)(e:CE):fN Φ Ψ G (.zO f e):=by
 intro S X m b w k;obtain⟨i,g,p,v,q,rfl,j⟩:=uB k;obtain⟨⟨⟨c,h⟩,n⟩,a⟩:=a4 j;split at c;rotate_left
 .cases c
 rename_i xs hxs
 have r:PG X (.Tuple i g p) (gT X.K false f):=G6 b.calm b.nd (by dsimp only[Uq];rw[hxs];rfl) (jP b c);have d:swappedStores [.Tuple i g p] v X.env=pure none:=by
  rcases gk a with a|a
  .exact Cb a _ _ _ _
  .obtain⟨t,h,x,rfl,l⟩:=fK a;exact Hq b (Da l)
 exact QJ (te:=λR=>wE Φ G R e) (λ{u} o=>yO o r (Ca _ _) d rfl) (lX h) λR=>(snd Φ Ψ G e).s b.toXOk n R
theorem yo(h:eV X a (x::b)):∃i r,a=i::r/\kK X i x/\eV X r b:=by
 cases a with
 |nil=>cases h
 |cons i r=>obtain⟨_,_,e,d,c⟩:=h;cases e;exact⟨i,r,rfl,d,c⟩
theorem LX(h:eV X a []):a=[]:=by
 cases a with
 |nil=>rfl
 |cons i r=>obtain⟨_,_,e,_⟩:=h;cases e
theorem LY(h:eV X a [x,y]):∃i j,a=[i,j]/\kK X i x/\kK X j y:=by obtain⟨i,r,rfl,e,d⟩:=yo h;obtain⟨j,r,rfl,c,b⟩:=yo d;cases LX b;exact⟨i,j,rfl,e,c⟩
theorem Si{α:Type}{l:List α}(h:l.length=2):∃a b,l=[a,b]:=by rcases l with _|⟨a,_|⟨b,_|_⟩⟩<;>first|exact⟨_,_,rfl⟩|(simp at h;done)
theorem qY(h:GX b=some (x::c)):∃p r,b=.Name x p::r/\GX r=some c:=by
 cases b with
 |nil=>cases h
 |cons e b=>
  cases e with
  |Name a p=>obtain⟨l,d,e⟩:=NM.mp h;cases e;exact⟨_,_,rfl,d⟩
  |_=>exact nn h
theorem Cf(h:GX b=some []):b=[]:=by
 cases b with
 |nil=>rfl
 |cons e b=>
  cases e with
  |Name a p=>obtain⟨l,c,e⟩:=NM.mp h;cases e
  |_=>exact nn h
theorem LZ(h:GX a=some [x,y]):∃p q,a=[.Name x p,.Name y q]:=by obtain⟨p,r,rfl,c⟩:=qY h;obtain⟨q,r,rfl,b⟩:=qY c;rw[Cf b];exact⟨_,_,rfl⟩
theorem L3(h:Ur S a vs=some (some b)):(a.length=2\/a.length=3)/\vs.length=a.length:=by
 unfold Ur at h;split at h
 .cases h
 .rename_i c
  simp only[si,oP,bne_iff_ne,not_or,Bool.not_eq_false,Kt,ne_eq,n1]at c;exact c
theorem L4(h:GX b=some a):b.length=a.length:=by
 induction a generalizing b with
 |nil=>rw[Cf h];rfl
 |cons x a c=>obtain⟨p,r,rfl,d⟩:=qY h;rw[BL,BL,c d]
theorem Sj(I:List Nat)(A:List CE):fN Φ Ψ G (.par I A):=by
 intro S X m g st k;obtain⟨tg,L,p,d,u,J,q,rfl,K⟩:=DH k;obtain⟨⟨⟨l,k2⟩,P⟩,M⟩:=a4 K;split at l;rotate_left
 .cases l
 rename_i xs hxs
 obtain⟨⟨⟨l,r⟩,z⟩,O⟩:=a4 l;have r:=Da r;have z:=Da z;obtain⟨f,F⟩:=L3 r;have T:=Hq g (k:=L) (k2:=u) (p:=p) (p2:=J) r;have c:∀x∈xs,X.env.scope.names.lookup x=some .local:=λx Q=>by rw[g.nk];exact Kt.mp (T1.mp O x Q)
 have U:=jP g l;refine QK (ta:=λR=>wA Φ G R A) (λ{tv} Z=>?_) (lX k2) λR=>(lV Φ Ψ G A).1.a g.toXOk d P R;have Y:∀{a b:Nat}{x y:Str},x≠y->X.N[a]?=some x->X.N[b]?=some y->a≠b:=λn s o e=>by rw[e,o]at s;exact n (OK s).symm
 rcases f with f|f
 .obtain⟨x,y,rfl⟩:=Si ((L4 hxs).symm.trans f);obtain⟨p1,p2,rfl⟩:=LZ hxs;obtain⟨i,j,rfl,E,C⟩:=LY U;obtain⟨a,b,rfl⟩:=Si (F.trans f);refine PS.imp (OP g.calm g.nd E.1 C.1 (Y (by simpa using z) E.1 C.1) (c x (by simp)) (c y (by simp)) Z T) λD B H h=>?_;have e:(λ(d:List V) t=>d.length=[i,j].length/\D.nx (dj B [i,j] d) t)=λd t=>∃v w,d=[v,w]/\D.nx ((B.set i (some v)).set j (some w)) t:=by
   funext d t;refine propext ⟨?_,?_⟩
   .rintro⟨s,o⟩;obtain⟨v,w,rfl⟩:=Si s;exact⟨v,w,rfl,o⟩
   .rintro⟨v,w,rfl,o⟩;exact⟨rfl,o⟩
  rw[e]at h;exact h
 .exact absurd ((Da M).symm.trans (F.trans f)) (by decide)
theorem yp(h:lU S i o=true)(nm:Str)(env:Env):attributeBase o nm env (eval o env)=eval o env:=by
 cases o with
 |Name x p=>rfl
 |_=>exact ff h
theorem Sk(i:Nat)(e:CE):fN Φ Ψ G (.app i e):=by intro S X m f p k;obtain⟨o,r,u,v,t,q,rfl,g⟩:=Hr k;obtain⟨⟨⟨⟨a,j⟩,h⟩,d⟩,c⟩:=a5 g;have a:=Da a;subst a;have b:=aI (bu (.inl c)) [] X.env;refine QN (te:=λR=>wE Φ G R e) (λ{n} l=>?_) (pG h) λR=>(snd Φ Ψ G e).s f.toXOk c R;exact Jx (Vs PySem.F.plainAttrs_list PySem.F.slot_list_append PySem.F.type_list_append t9 (fL f.toXOk d) (aZ l cW b) (yp d _ _) (by rw[b];rfl) j b rfl) rfl
theorem Sl(i:Nat)(a e:CE):fN Φ Ψ G (.put i a e):=by
 intro S X m b y k;obtain⟨o,j,p,v,q,rfl,c⟩:=DI k;obtain⟨⟨⟨⟨l,h⟩,g⟩,f⟩,d⟩:=a5 c;have t:∀u,assign (.Subscript o j p) X.env u=(do
  let ov<-holding [u] (eval o X.env)
  let iv<-holding [u,ov] (eval j X.env)
  standAt p
  holding [u,ov,iv] (setItem ov iv u)
  release [u,ov,iv] []):=by
  intro u;cases j with
  |Slice _ _ _ _=>exact ff g
  |_=>rfl
 refine QO (te:=λR=>wE Φ G R e) (t1:=λR=>wE Φ G R a) (λ{w x} n r=>?_) (pG l) (λR=>(snd Φ Ψ G e).s b.toXOk d R) λR=>(snd Φ Ψ G a).s b.toXOk f R;exact yO (pos:=q) n (OO (fL b.toXOk h) r set_list t) (Hl _ _) (Ho _) rfl
theorem Hx:∀{S:SE}{c:CE}{e:Expr},fM S c e=true->noStar e=true:=λ{S c e} h=>by
 cases e with
 |Starred v p=>
  have f:aL S false c (.Starred v p)=true->False:=λz=>by have:=bu (.inl z);exact ff this
  cases c<;>first|exact ff h;done|exact(f h).elim
 |_=>rfl
theorem vN:∀{c:List CE}{b:List Expr},ou S c b=true->b.all noStar=true
 |[],b,h=>by rw[Jn.mp h];rfl
 |a::c,[],h=>by cases h
 |a::c,e::b,h=>by have h:=a2 h;rw[D2,Hx h.1,vN h.2];rfl
theorem cS(b:XOk S Φ Ψ G X)(R:Addr->Prop)(e:fM S c v=aL S false c v)(d:wP Φ G R c=λa Q=>wE Φ G R c a λw=>Q w a)(k:fM S c v=true):VP X S.M R v (wP Φ G R c):=by rw[e]at k;rw[d];exact WH ((snd Φ Ψ G c).s b k R)
mutual
theorem b6(d:XOk S Φ Ψ G X)(R:Addr->Prop):∀(e:CE)(v:Expr),fM S e v=true->VP X S.M R v (wP Φ G R e)
 |.pop i,v,k=>by obtain⟨o,mt,ap,cp,rfl,m⟩:=kJ k;obtain⟨⟨⟨j,u⟩,h⟩,s⟩:=a4 m;have j:=Da j;subst j;exact QU (pG h) (fL d s) (yp s _ _) u
 |.jL i f A,v,k=>by
  obtain⟨x,q,z,p,rfl,m⟩:=aE k;obtain⟨⟨⟨⟨j,u⟩,h⟩,s⟩,t⟩:=a5 m;obtain⟨E,D,L⟩:=aW d u;obtain⟨Z,n,P,T,F,I,J⟩:=d.fns f x (Kt.mp j) (by simpa using h);rw[<-d.BZ]at s;cases z with
  |nil=>exact ff t
  |cons e z=>
   rw[oj,Bz]at t;have e0:noStar e=true:=by
    cases e with
    |Name _ _=>rfl
    |_=>exact ff t.1
   cases C:Ψ f with
   |io Y=>rw[C]at s F;exact Q7 (p:=q) (pos:=p) F I E T (jO s) J (fL d t.1) (fO d R A z t.2) D (aI e0 _ _) (cF (vN t.2) _ _)
   |_=>rw[C]at s;exact ff s
 |.Em i g f A,v,k=>by
  obtain⟨o,x,ap,z,p,rfl,m,O,N⟩:=uC k;obtain⟨⟨⟨⟨j,u⟩,h⟩,s⟩,t⟩:=a5 m;obtain⟨fa,fd,ps,n,P,hG,hb,F,I,J⟩:=d.LC f g x (Kt.mp j) (RY u);rw[<-d.BZ]at h;cases o with
  |Name y py=>
   cases C:Ψ f with
   |io Y=>
    rw[C]at h F;cases Y with
    |o fs ms=>have h:(hasB S.M i (.o fs ms)&&!fs.contains x)=true:=h;rw[Bz]at h;obtain⟨q1,q2⟩:=a2 t;obtain rfl:=Jn.mp q1;obtain rfl:=Jn.mp q2;exact Lv (G:=G g) hG F I hb (jO h.1) (by simpa using h.2) J (fL d s) (DE rfl rfl N O)
    |_=>exact ff h
   |_=>rw[C]at h;exact ff h
  |_=>exact ff s
 |.bin op a b,v,k=>by obtain⟨l,o,r,p,rfl,m⟩:=nE k;obtain⟨⟨j,u⟩,h⟩:=a3 m;have j:=Da j;subst j;exact QV (b6 d R a l u) (b6 d R b r h)
 |.cmp op a b,v,k=>by obtain⟨l,o,r,p,rfl,m⟩:=nF k;obtain⟨⟨⟨⟨j,s⟩,t⟩,u⟩,h⟩:=a5 m;have j:=Da j;subst j;exact QW d.un (EL r (op:=op) (by simpa using s) (by simpa using t)) (b6 d R a l u) (b6 d R b r h)
 |.call f A,v,k=>by
  obtain⟨x,q,z,p,rfl,m⟩:=aE k;obtain⟨⟨⟨⟨⟨j,u⟩,h⟩,t⟩,H⟩,s⟩:=a6 m;obtain⟨E,D,L⟩:=aW d u;obtain⟨Z,n,P,T,F,I,J⟩:=d.fns f x (Kt.mp j) (by simpa using H);have F:cu X.prog X.w X.K X.mg X.base P Z n (Jl X.K n (Ψ f) (Φ f)):=by rw[<-d.BZ]at t;cases C:Ψ f<;>rw[C]at t F<;>first|exact F|exact ff t
  have B:=vN s;cases z with
  |nil=>exact ff h
  |cons e z=>rw[D2,Bz]at B;exact Lr (p:=q) (pos:=p) F I E T J (fO d R A _ s) D (aI B.1 _ _) (cF B.2 _ _)
 |.blt b A,v,k=>by
  obtain⟨x,q,z,p,rfl,m⟩:=aE k;obtain⟨⟨⟨⟨⟨⟨j,u⟩,h⟩,s⟩,t⟩,k9⟩,H⟩:=a7 m;have j:=Da j;obtain⟨E,D,L⟩:=aW d u;have hz:=d.wZ x (b5.mp h);have B:=vN H;cases z with
  |nil=>exact ff k9
  |cons e z=>
   rw[D2,Bz]at B;rcases yh d.calm b (by simpa using t)with⟨id,Q,U⟩|⟨id,Q,U⟩
   .exact QY U E hz (by rw[j];exact Q) (fO d R A _ H) L D (aI B.1 _ _) (cF B.2 _ _)
   .exact QZ U E hz (by rw[j];exact Q) (fO d R A _ H) L D (aI B.1 _ _) (cF B.2 _ _)
 |.ix a b,v,k=>by obtain⟨l,r,p,rfl,m⟩:=jr k;obtain⟨⟨j,u⟩,h⟩:=a3 m;exact WI (B3 j) (b6 d R a l u) (b6 d R b r h)
 |.lst A,v,k=>by obtain⟨z,p,rfl,m⟩:=qM k;exact Rg (fO d R A z m)
 |.tup A,v,k=>by obtain⟨z,kd,p,rfl,m⟩:=fK k;exact Rh (fO d R A z m)
 |.and _,v,k=>by cases k
 |.or _,v,k=>by cases k
 |.var i,v,k=>cS d R rfl rfl k
 |.int i,v,k=>cS d R rfl rfl k
 |.bl i,v,k=>cS d R rfl rfl k
 |.str i,v,k=>cS d R rfl rfl k
 |.bV,v,k=>cS d R rfl rfl k
 |.Gu n,v,k=>cS d R rfl rfl k
 |.glob g,v,k=>cS d R rfl rfl k
 |.neg a,v,k=>cS d R rfl rfl k
 |.not a,v,k=>cS d R rfl rfl k
 |.ite c a b,v,k=>cS d R rfl rfl k
 |.sl a b c,v,k=>cS d R rfl rfl k
 |.bits a,v,k=>cS d R rfl rfl k
 |.comp ts one n i c x,v,k=>cS d R rfl rfl k
 |.j3 A,v,k=>cS d R rfl rfl k
 |.uu a,v,k=>cS d R rfl rfl k
 |.rev a,v,k=>cS d R rfl rfl k
 |.own i π,v,k=>cS d R rfl rfl k
 |.BN is a,v,k=>cS d R rfl rfl k
 |.P7 f a A,v,k=>cS d R rfl rfl k
 |.slt a b c,v,k=>cS d R rfl rfl k
 |.Dq a g,v,k=>cS d R rfl rfl k
 |.Ui a,v,k=>cS d R rfl rfl k
theorem fO(d:XOk S Φ Ψ G X)(R:Addr->Prop):∀(c:List CE)(b:List Expr),ou S c b=true->Jm X S.M R b (Jq Φ G R c)
 |[],b,k=>by rw[Jn.mp k];exact Lo
 |a::c,[],k=>by cases k
 |a::c,e::b,k=>by have k:=a2 k;exact GN (aI (Hx k.1) _ _) (b6 d R a e k.1) (fO d R c b k.2)
end
theorem L5(a:B9 v=true)(b:NZ v=true)(t:Option Expr)(l:Nat)(env:Env):swapsWith v t l env=pure false:=by
 cases v with
 |ListComp _ _ _ _=>exact ff b
 |SetComp _ _ _ _=>exact ff a
 |DictComp _ _ _ _ _=>exact ff a
 |_=>rfl
theorem nsc(h:Hh v=true):B9 v=true:=by cases v<;>first|rfl|exact ff h
theorem L6(j:Nat)(e:CE):fN Φ Ψ G (.iE j e):=by intro S X m a o k;obtain⟨x,p,v,q,rfl,b⟩:=nH k;obtain⟨⟨⟨⟨h,g⟩,d⟩,c⟩,f⟩:=a5 b;have n:=nG a h;exact Lq (tt:=λR=>wP Φ G R e) (λ{l} i=>uP a.nd n.1 n.2.1 i (L5 (nsc c) d _ _ _) n.2.2) (iH (by simpa using g)) λR=>b6 a.toXOk R _ v f
theorem Sn(c:List Nat)(e:CE):fN Φ Ψ G (.Wh c e):=by
 intro S X m a r k;obtain⟨n,f,p,v,q,rfl,d⟩:=uB k;obtain⟨⟨⟨b,i⟩,g⟩,h⟩:=a4 d;split at b;rotate_left
 .cases b
 rename_i xs hxs
 have l:PG X (.Tuple n f p) (gT X.K false c):=G6 a.calm a.nd (by dsimp only[Uq];rw[hxs];rfl) (jP a b);exact Q0 (tt:=λR=>wP Φ G R e) (λ{o} j=>yO j l (Ca _ _) (Cb g _ _ _ _) rfl) (lX i) λR=>b6 a.toXOk R _ v h
theorem So(e:CE):fN Φ Ψ G (.ret e):=by
 intro S X m d h k;rcases qX k with⟨v,q,rfl,a⟩|⟨q,rfl,a⟩
 .unfold W8 at a;rw[Bz]at a;obtain⟨c,a⟩:=a;have c:gv m=false:=by simpa using c
  rcases gk a with a|f
  .rcases gk a with a|a
   .rw[Bz]at a;have g:m=.s:=by cases m<;>first|rfl|exact ff a.1
    rcases gk a.2 with b|b
    .exact GK (te:=λR=>wE Φ G R e) (λR=>(snd Φ Ψ G e).e (d.toXOk.qW []) v b R) (.inr g) c
    .subst g;exact Lh (te:=λR=>wE Φ G R e) λR=>(snd Φ Ψ G e).s d.toXOk b R
   .rw[Bz]at a;rcases gk a.2 with b|b
    .exact GK (te:=λR=>wE Φ G R e) (λR=>Hw (d.toXOk.qW []) b R) (.inl (qV a.1)) c
    .exact Li (te:=λR=>wE Φ G R e) (λR=>by rw[<-qV a.1];exact Hw d.toXOk b R) c
  .unfold W7 at f;split at f
   .rename_i i hv
    obtain rfl:=DK hv;have b:=a2 f;exact Lj (fL d.toXOk b.2) (jO b.1) c
   .exact ff f
 .rw[Bz]at a;obtain rfl:=uD a.1;cases m<;>try exact ff a.2
  exact LV
theorem vO(h:LO S m=true):∃k,m=.io k/\(0,k)∈S.M:=by
 cases m with
 |io k=>exact⟨k,rfl,jO h⟩
 |_=>exact ff h
theorem Sq(e:CE):fN Φ Ψ G (.Du e):=by
 intro S X m d f k;rcases qX k with⟨v,q,rfl,a⟩|⟨q,rfl,a⟩
 .rw[Bz]at a;obtain⟨c,rfl,b⟩:=vO a.1;exact Q4 (te:=λR=>wE Φ G R e) (λR=>(snd Φ Ψ G e).s d.toXOk a.2 R) b
 .rw[Bz]at a;obtain⟨c,rfl,b⟩:=vO a.2;obtain rfl:=uD a.1;exact Q5 b
theorem jv(e:XOk S Φ Ψ G X)(R:Addr->Prop)(c:CE)(v:Expr)(k:oz S c v=true):Eo X S.M R v (wP Φ G R c):=by
 have se:∀{c:CE},oz S c v=(aL S false c v&&DA c)->(wP Φ G R c=λm Q=>wE Φ G R c m λw=>Q w m)->oz S c v=true->Eo X S.M R v (wP Φ G R c):=λ{c} C B k=>by rw[C,Bz]at k;rw[B];exact QT ((snd Φ Ψ G c).t e v k.1 k.2 R)
 cases c with
 |cmp op a b=>have k:fM S (.cmp op a b) v=true:=k;obtain⟨l,o,r,p,rfl,s⟩:=nF k;obtain⟨⟨⟨⟨j,y⟩,u⟩,A⟩,z⟩:=a5 s;have j:=Da j;subst j;exact Lk e.un (EL r (op:=op) (by simpa using y) (by simpa using u)) (b6 e R a l A) (b6 e R b r z)
 |jL i f d=>have k:fM S (.jL i f d) v=true:=k;have h:=b6 e R _ v k;obtain⟨x,q,n,p,rfl,_⟩:=aE k;exact vI (λ_=>rfl) h
 |Em i g f d=>have k:fM S (.Em i g f d) v=true:=k;have h:=b6 e R _ v k;obtain⟨o,x,D,n,p,rfl,_⟩:=uC k;exact vI (λ_=>rfl) h
 |call f d=>have k:fM S (.call f d) v=true:=k;have h:=b6 e R _ v k;obtain⟨x,q,n,p,rfl,_⟩:=aE k;exact vI (λ_=>rfl) h
 |pop i=>exact ff k
 |bin op a b=>exact ff k
 |blt b d=>exact ff k
 |ix a b=>exact ff k
 |lst d=>exact ff k
 |tup d=>exact ff k
 |and d=>exact ff k
 |or d=>exact ff k
 |_=>exact se rfl rfl k
theorem yq(d:XOk S Φ Ψ G X)(R:Addr->Prop):∀(g:List CE)(c:List Expr),lW S g c=true->NS X S.M R (.BoolOp .And c pos) (AG Φ G R g)
 |[],c,k=>by cases k
 |[a],c,k=>by obtain⟨e,rfl,k⟩:=cN k;exact GL (jv d R a e k)
 |a::b::f,c,k=>by
  cases c with
  |nil=>exact ff k
  |cons e c=>
   have k:oz S a e=true/\lW S (b::f) c=true:=a2 k;have h:=yq d R (pos:=pos) (b::f) c k.2;cases c with
   |nil=>cases f<;>exact ff k.2
   |cons i c=>exact Ll (jv d R a e k.1) h
theorem yr(d:XOk S Φ Ψ G X)(R:Addr->Prop):∀(g:List CE)(c:List Expr),lW S g c=true->NS X S.M R (.BoolOp .Or c pos) (Jr Φ G R g)
 |[],c,k=>by cases k
 |[a],c,k=>by obtain⟨e,rfl,k⟩:=cN k;exact Lm (jv d R a e k)
 |a::b::f,c,k=>by
  cases c with
  |nil=>exact ff k
  |cons e c=>
   have k:oz S a e=true/\lW S (b::f) c=true:=a2 k;have h:=yr d R (pos:=pos) (b::f) c k.2;cases c with
   |nil=>cases f<;>exact ff k.2
   |cons i c=>exact QX (jv d R a e k.1) h
theorem yt(f:XOk S Φ Ψ G X)(R:Addr->Prop)(c:CE)(v:Expr)(k:Hg S c v=true):Eo X S.M R v (wP Φ G R c):=by
 cases c with
 |and d=>have k:Rr (λo b=>decide (o=.And)&&lW S d b) v=true:=k;obtain⟨o,b,p,rfl,a⟩:=jM k;rw[Bz]at a;have e:=Da a.1;subst e;exact PW.pt (yq f R d b a.2)
 |or d=>have k:Rr (λo b=>decide (o=.Or)&&lW S d b) v=true:=k;obtain⟨o,b,p,rfl,a⟩:=jM k;rw[Bz]at a;have e:=Da a.1;subst e;exact PW.pt (yr f R d b a.2)
 |_=>exact jv f R _ v k
theorem Su(c:CE)(j:gp Φ Ψ G a)(i:gp Φ Ψ G b):fN Φ Ψ G (.Wg c a b):=by intro S X m d l k;obtain⟨t,x,y,q,rfl,e⟩:=yj k;obtain⟨⟨h,g⟩,f⟩:=a3 e;exact Q2 (tt:=λR=>wP Φ G R c) (λR=>yt d.toXOk R c t h) (j d x g) (i d y f)
theorem Sv(c:CE)(e:gp Φ Ψ G b):fN Φ Ψ G (.Uj c b):=by intro S X m d f k;obtain⟨t,x,q,rfl,a⟩:=yk k;simp only[Bz]at a;exact Q3 d.own (λR=>yt d.toXOk R c t a.1) (e d x a.2)
theorem L7(h:Sa S i n x=true):∃a ms,(i,.o a ms)∈S.M/\a[n]?=some x/\ms[n]?=some .s:=by
 unfold Sa at h;split at h
 .rename_i a ms hl
  rw[Bz]at h;obtain⟨c,b⟩:=h;split at b
  .rename_i k hk
   have:k=.s:=by cases k<;>first|rfl|exact ff b
   subst this;exact⟨a,ms,jo hl,Kt.mp c,hk⟩
  .cases b
 .cases h
theorem Sw(i n:Nat)(e:CE):fN Φ Ψ G (.Ds i n e):=by intro S X m a t k;obtain⟨o,x,p,v,q,rfl,b⟩:=DJ k;obtain⟨⟨f,d⟩,c⟩:=a3 b;obtain⟨w,u,l,j,h⟩:=L7 f;exact Rf (te:=λR=>wE Φ G R e) (λ{r} g=>gq (fL a.toXOk d) g (by cases v<;>rfl)) l j h λR=>(snd Φ Ψ G e).s a.toXOk c R
theorem Sy(e:CE):fN Φ Ψ G (.Uk e):=by
 intro S X m b d k;rcases qX k with⟨v,q,rfl,a⟩|⟨q,rfl,a⟩
 .rw[Bz]at a;obtain⟨f,rfl,c⟩:=vO a.1;exact Rj (tt:=λR=>wP Φ G R e) (λR=>b6 b.toXOk R e v a.2) c
 .exact ff a
theorem SA:fN Φ Ψ G .brk:=by
 intro S X m b a k;cases a with
 |Break _=>exact QI
 |_=>exact ff k
theorem Hy(g:Nat)(e:CE):fN Φ Ψ G (.raise g e):=by
 intro S X m b E k;obtain⟨x,F,v,L,q,rfl,o⟩:=Ad k;obtain⟨⟨f,p⟩,l⟩:=a3 o;have f:=Kt.mp f;show VS X S.M m _ (λD i=>match G g with|.cls C=>wE Φ G D.ex e i λ_=>D.ex C|_=>False);obtain⟨u,z,t,r,a⟩:=b.G0 g x f;obtain⟨y,w,J⟩:=aW b.toXOk p;by_cases n:∃C,G g=.cls C
 .obtain⟨C,c⟩:=n;rw[c]at a⊢;have hz:=a (λ_=>False) (λ_=>none);dsimp only[Rep]at hz;subst hz;cases r;exact Hu (te:=λR=>wE Φ G R e) b.calm y t (b.Jo g x C f c) (λR=>(snd Φ Ψ G e).s b.toXOk l R) (aI (bu (.inl l)) [] X.env) w
 .rintro j s B H D I ⟨A,N,i,d,S,K,hz,h,_⟩;cases c:G g<;>rw[c]at h<;>first|exact h.elim|exact(n ⟨_,c⟩).elim
theorem Hz(k:Sb S e ex=true):∃f a,e=.call f a:=by
 cases e with
 |call f a=>exact⟨_,_,rfl⟩
 |_=>exact ff k
theorem L8(b:XOk S Φ Ψ G X)(e:CE)(ex:Expr)(k:Sb S e ex=true):VX X S.M ex (λR=>Wq Φ G R e)/\∃g a p,ex=.Call g a [] p:=by
 obtain⟨f,c,rfl⟩:=Hz k
 .exact⟨LI b f (lV Φ Ψ G c).1 k,by obtain⟨x,q,a,p,rfl,_⟩:=aE k;exact⟨_,_,_,rfl⟩⟩
theorem SD(i g y:Nat)(e:CE):fN Φ Ψ G (.Wi i g y e):=by
 intro S X m f st k;cases st<;>try exact ff k
 rename_i b h o z p
 obtain⟨⟨Z,Y⟩,k0⟩:=a3 k;rw[Jn.mp Z,Jn.mp Y];clear k Z Y;obtain⟨b1,rfl,T⟩:=cN k0;obtain⟨ex,q1,rfl,Q⟩:=yi T;clear k0 T;obtain⟨⟨c,n,b2,p2⟩,rfl,E⟩:=cN Q;clear Q;cases c with
 |none=>exact ff E
 |some c=>
  cases n with
  |none=>exact ff E
  |some n=>
   obtain⟨r,q⟩:=a2 (show trC S i g y e ex b2 c n=true from E);obtain⟨b3,rfl,r⟩:=cN r;obtain⟨zz,pz,v,q3,rfl,r⟩:=nH r;obtain⟨⟨U,k6⟩,F⟩:=a3 r;obtain⟨P,pn,rfl,F⟩:=bJ F;cases Da F;obtain⟨x,px,rfl,q⟩:=bJ q;obtain⟨g0,q⟩:=a2 q;obtain⟨g1,g2,g3⟩:=aW f.toXOk q;unfold W9 at U;obtain⟨⟨⟨⟨⟨⟨c2,c3⟩,c4⟩,c5⟩,c6⟩,c8⟩,c9⟩:=a7 U;obtain⟨d1,d2,_⟩:=vL c5;obtain⟨u,w,hm,hr,j⟩:=f.G0 g x (Kt.mp g0);show VS X S.M m _ (λD a=>wEc (G g) λB=>Wq Φ G (λC=>C∈B/\D.nx ((a.set y (some (.err C))).set i none)) e a λ_=>D.nx a);cases hG:G g with
   |gi D B ns=>
    rw[hG]at j;obtain⟨rfl,hD⟩:=j (λ_=>False) (λ_=>none);cases hr;obtain⟨vx,_,_,_,rfl⟩:=L8 f.toXOk e ex k6;by_cases N:B=[]
    .exact(by rintro l s L H D I ⟨A,K,a,d,S,J,hz,h,_⟩;exact(h.1 N).elim)
    have P:=nG f c2;have O:=nG f c3;refine PS.imp (t:=sV X S.M m λD a=>Wq Φ G (λC=>C∈B/\D.nx ((a.set y (some (.err C))).set i none)) e a λ_=>D.nx a) (Ro (m:=m) (t:=λR=>Wq Φ G R e) f.stk f.nd P.1 (by rw[f.nk];exact Kt.mp c4) O.1 O.2.1 (by simpa using c6) g1 hm hD N f.Rq (iH (by simpa using c8)) (iH (by simpa using c9)) vx rfl rfl g2 d1 d2) ?_;rintro D L H ⟨A,K,a,d,S,J,hz,h,k⟩;exact⟨A,K,a,d,S,J,hz,h.2,k⟩
   |_=>rintro l s L H D I ⟨A,K,a,d,S,J,hz,h,_⟩;exact h.elim
theorem Xc(c:CE)(l:gp Φ Ψ G a)(j:gp Φ Ψ G b):fN Φ Ψ G (.iff c a b):=by intro S X m d n k;obtain⟨t,x,y,q,rfl,e⟩:=yj k;obtain⟨⟨⟨i,h⟩,g⟩,f⟩:=a4 e;exact WG (tc:=λR=>wE Φ G R c) (λR=>(snd Φ Ψ G c).t d.toXOk t i h R) (l d x g) (j d y f)
theorem SG(c:CE)(h:gp Φ Ψ G b):fN Φ Ψ G (.Dr c b):=by intro S X m a i k;obtain⟨t,x,q,rfl,d⟩:=yk k;obtain⟨⟨g,f⟩,e⟩:=a3 d;exact QS a.own (λR=>(snd Φ Ψ G c).t a.toXOk t g f R) (h a x e)
theorem SH(h:List Nat)(one:Bool)(e:CE)(t:gp Φ Ψ G b):fN Φ Ψ G (.fr h one e b):=by
 intro S X m a u k;obtain⟨f,i,x,q,rfl,c⟩:=ym k;unfold Yr at c;split at c;rotate_left
 .cases c
 rename_i o xs LK
 simp only[Bz]at c;obtain⟨⟨⟨⟨⟨⟨d,s⟩,r⟩,n⟩,g⟩,l⟩,j⟩:=c;have d:=Kt.mp d;subst d;refine Q6 (ti:=λR=>wE Φ G R e) a.calm (lX r) a.own (λR=>(snd Φ Ψ G e).i a.toXOk f false i (by rw[l];rfl) (λz=>?_) R) (G6 (X:=X) a.calm a.nd LK (jP a s)) (t a x j) (qT n _);have:one=false:=by rw[z]at g;simpa using g
 subst this;cases f with
 |Tuple v c p=>exact⟨_,_,_,rfl⟩
 |Name y p=>cases LK
 |_=>exact nn LK
theorem SI(j:Nat)(c:CE)(D:gp Φ Ψ G b):fN Φ Ψ G (.Ul j c b):=by
 intro S X m a H k;obtain⟨F,i,x,q,rfl,d⟩:=ym k;unfold Yr at d;split at d;rotate_left
 .cases d
 rename_i o xs LK
 simp only[Bz]at d;obtain⟨⟨⟨⟨⟨⟨C,B⟩,A⟩,z⟩,_⟩,w⟩,v⟩:=d;obtain rfl:=Kt.mp C;obtain⟨y,p,I,r,rfl,d⟩:=aE w;simp only[Bz]at d;obtain⟨⟨⟨u,t⟩,s⟩,n⟩:=d;obtain rfl:=Da u;obtain⟨e,rfl,g⟩:=qR n;obtain⟨E,_,_⟩:=aW a.toXOk t;exact GO (ti:=λR h Q=>wP Φ G R c h λx f=>vC [x] λl=>Q (.lst l) f) a.calm (lX A) a.own (λR=>GP E (a.toXOk.wZ _ (by simpa using s)) (b6 a.toXOk R c e g) (aI (Hx g) _ _)) (G6 (X:=X) a.calm a.nd LK (jP a B)) (D a x v) (qT z _)
theorem Ma:gp Φ Ψ G []:=by intro S X m b a k;rw[Jn.mp k];exact Le
def N7(Φ:Nat->aY)(Ψ:Nat->Md)(G:Nat->W):CS->Prop
 |.NK _ b=>gp Φ Ψ G b
 |_=>True
theorem Mb{st:List Stmt}(k:cG S Ψ m (s::a) st=true):(∃c b,s=.NK c b/\(a.isEmpty&&(!gv m||!c.contains 0)&&cG (S.lend c) Ψ m b st)=true)\/Hf (λe=>LP S Ψ m s e) (λd=>cG S Ψ m a d) st=true:=by
 cases s<;>first|exact .inr k|exact .inl ⟨_,_,rfl,k⟩
theorem HA(h:fN Φ Ψ G s/\N7 Φ Ψ G s)(v:gp Φ Ψ G c):gp Φ Ψ G (s::c):=by
 intro S X m a d k;rcases Mb k with⟨u,b,rfl,o⟩|k
 .obtain⟨n,p⟩:=a2 o;obtain⟨l,f⟩:=a2 n;cases Jn.mp l;have q:gv m=true->aV S.M 0->aV (S.lend u).M 0:=by rintro e ⟨g,A⟩;rw[e]at f;exact⟨g,eJ.mpr ⟨A,f⟩⟩
  have w:gp Φ Ψ G b:=h.2;exact Lg (w (a.qW _ λi m j y x=>a.Xa i m j (jt _ y) (jt _ x)) d p) jt q
 have h:fN Φ Ψ G s:=h.1;cases d with
 |nil=>exact ff k
 |cons e r=>
  have k:LP S Ψ m s e=true/\cG S Ψ m c r=true:=a2 k;cases c with
  |nil=>
   have:r=[]:=by have:=k.2;exact Jn.mp this
   subst this;exact Lf (h a e k.1)
  |cons t B=>have z:=GJ (h a e k.1) (v a r k.2);exact z
variable(Φ Ψ G)
mutual
theorem Z8:∀s:CS,fN Φ Ψ G s/\N7 Φ Ψ G s
 |.set i e=>⟨Sg i e,trivial⟩
 |.zO d e=>⟨Sh d e,trivial⟩
 |.par d h=>⟨Sj d h,trivial⟩
 |.app i e=>⟨Sk i e,trivial⟩
 |.put i k e=>⟨Sl i k e,trivial⟩
 |.iE j e=>⟨L6 j e,trivial⟩
 |.ret e=>⟨So e,trivial⟩
 |.iff c a b=>⟨Xc c (i6 a) (i6 b),trivial⟩
 |.Dr c b=>⟨SG c (i6 b),trivial⟩
 |.fr d one f b=>⟨SH d one f (i6 b),trivial⟩
 |.Ul j c b=>⟨SI j c (i6 b),trivial⟩
 |.brk=>⟨SA,trivial⟩
 |.raise g e=>⟨Hy g e,trivial⟩
 |.Ds i n e=>⟨Sw i n e,trivial⟩
 |.Du e=>⟨Sq e,trivial⟩
 |.Wg c a b=>⟨Su c (i6 a) (i6 b),trivial⟩
 |.Uj c b=>⟨Sv c (i6 b),trivial⟩
 |.Wh d e=>⟨Sn d e,trivial⟩
 |.Wi i g y e=>⟨SD i g y e,trivial⟩
 |.Uk e=>⟨Sy e,trivial⟩
 |.NK l b=>⟨λ_ _ k=>(by cases k),i6 b⟩
theorem i6:∀a:List CS,gp Φ Ψ G a
 |[]=>Ma
 |s::a=>HA (Z8 s) (i6 a)
end
end
structure Tab(P:Program)(w:World)(K:Frag)(mg:Str->Option Value)(base:Heap)(fn gn zn:List Str)(md:List Md)(mt:List (Nat×Nat))(Φ:Nat->aY)(G:Nat->W)(k:Nat):Prop where
 fns:∀(j:Nat)(x:Str),fn[j]?=some x->mt.any (·.1==j)=false->∃fv n k',mg x=some fv/\cu P w K mg base k' fv n (nj K n (eO md j) (Φ j))/\k'<=k/\∀ws P R,Φ j ws P R->ws.length=n
 LC:∀(j g:Nat)(x:Str),fn[j]?=some x->(j,g)∈mt->∃f fd ps n k',(∀C,G g=.cls C->Meth K C x f)/\Binds K fd ps []/\b8 P w K mg base (je P w) k' f fd ps (nj K n (eO md j) (Φ j))/\k'<=k/\∀ws P R,Φ j ws P R->ws.length=n
 G0:∀(j:Nat)(x:Str),gn[j]?=some x->∃u v,mg x=some u/\RelV v u/\∀B H,Rep K B H (G j) v
 wZ:∀x∈zn,mg x=none
 kit:x6 K
 Jo:∀j x C,gn[j]?=some x->G j=.cls C->pV K C
noncomputable def ak(n:Nat)(a:List W):Ev:=a.map some++AW (n -a.length) none
def se:Md->(W->Prop)->Ev->Prop
 |.s,P,_=>P .bV
 |.io _,P,a=>match look a 0 with
  |some b=>P (.tup [.bV,b])
  |none=>False
 |_,_,_=>False
section
variable{K:Frag}{A:Addr->Prop}{H:Hp}{N:List Str}{ws:List W}{vs:List V}{M:Ms}
theorem kL(a:ws.length<=i)(e:look (ak N.length ws) i=some w):False:=by
 rw[bI]at e;unfold ak at e;rw[NA (by simp;omega),mf]at e;split at e
 .cases e
 .cases e
theorem uE(h:aj K A H ws vs)(e:look (ak N.length ws) i=some w):∃v,(start N vs)[i]?=some (some v)/\Rep K A H w v:=by
 have f:=h.len;by_cases a:i<ws.length
 .rw[bI]at e;unfold ak at e;rw[PP (by simpa using a),FC]at e;obtain⟨d,c,b⟩:=NM.mp e;cases b;obtain⟨v,b,r⟩:=h.get c;refine⟨v,?_,r⟩;unfold L2.start;rw[PP (by simp;lia),FC,b];rfl
 .exact(kL (by lia) e).elim
theorem HB(h:aj K A H ws vs)(d:Dom A H)(g:∀i m,(i,m)∈M->ws.length<=i)(b:∀i m a,(i,m)∈M->(i,a)∈M->m=a):SR K M ⟨A,A,none⟩ H (start N vs) H (ak N.length ws):=by have f:=h.len;refine⟨by simp[L2.start,ak,f],λi w k e=>uE h e,ay.refl _,d,(λv e=>by cases e),λ_=>[],⟨b,λi m w c e=>(kL (g i m c) e).elim,λ_ _ _=>rfl,λ_ _=>yB,(λi j p _ _ z=>by cases z),(λi p _ z=>by cases z),(λi p _ z=>by cases z),λp=>⟨.inl,λz=>z.elim id<|by rintro⟨_,_,z⟩;cases z⟩⟩⟩
open Classical in
noncomputable def era(F:List Addr)(H:Hp):Hp:=λp=>if p∈F then none else H p
theorem HC(h:era F H p=some o):p∉F/\H p=some o:=by
 unfold era at h;split at h
 .cases h
 .exact⟨by assumption,h⟩
theorem HD(h:era F H p=none):p∈F\/H p=none:=by
 unfold era at h;split at h
 .exact .inl (by assumption)
 .exact .inr h
theorem SJ(h:p∈F):era F H p=none:=by unfold era;rw[Bi h]
theorem Mc(h:p∉F):era F H p=H p:=by unfold era;rw[BM h]
theorem HE(E:F.Nodup)(G:∀p∈F,¬A p)(d:Dom A H)(P:Fp K (λp=>A p\/p∈F) H q k l F)(h:aj K (λp=>A p\/p∈F) H ws vs)
 (t:(0,q)∈M)(O:∀i m,(i,m)∈M->i=0\/ws.length+1<=i)(B:∀i m C,(i,m)∈M->(i,C)∈M->m=C)(L:0<N.length):
 SR K M ⟨A,λp=>A p\/p∈F,some l⟩ (era F H) (start N (l::vs)) H (ak N.length (k::ws)):=by
 have I:=h.len;have D:look (ak N.length (k::ws)) 0=some k:=rfl;have r:(start N (l::vs))[0]?=some (some l):=rfl;have y:∀i,aV M i->i≠0->∀w,look (ak N.length (k::ws)) i=some w->False:=λi ⟨m,s⟩ n w e=>kL (by rcases O i m s with z|z;exact(n z).elim;simpa using z) e;refine⟨by simp[L2.start,ak,I],λi w g e=>?_,λp o e=>(HC e).2,d,λv e=>?_,λi=>if i=0 then F else[],⟨B,λi m w s e=>?_,λi g e=>?_,λi g=>?_,λi j p g R a b=>?_,λi p g c=>?_,λi p g c=>?_,λp=>?_⟩⟩
 .cases i with
  |zero=>exact(g ⟨q,t⟩).elim
  |succ i=>
   have Q:look (ws.map some++AW (N.length -(k::ws).length) none) i=some w:=e;have:look (ak (N.length -1) ws) i=some w:=by unfold ak;rw[show N.length -1 -ws.length=N.length -(k::ws).length by simp;lia];exact Q
   cases N with
   |nil=>cases L
   |cons x N=>obtain⟨v,f,u⟩:=uE (N:=N) h this;refine⟨v,?_,u⟩;unfold L2.start at f⊢;rw[UV,D4,List.getElem?_cons_succ,show(x::N).length -(l::vs).length=N.length -vs.length by simp];exact f
 .cases e;exact⟨r,q,t⟩
 .rcases eC i with rfl|g
  .have:=B 0 m q s t;subst this;rw[D]at e;cases e;exact⟨l,r,by rw[Bi rfl];exact P⟩
  .exact(y i ⟨m,s⟩ (by lia) w e).elim
 .rcases eC i with rfl|J
  .rw[D]at e;cases e
  .rw[BM (by lia)]
 .split
  .exact E
  .exact yB
 .by_cases f:i=0
  .by_cases u:j=0
   .rw[f,u]
   .rw[BM u]at b;cases b
  .rw[BM f]at a;cases a
 .by_cases f:i=0
  .rw[Bi f]at c;exact SJ c
  .rw[BM f]at c;cases c
 .by_cases f:i=0
  .rw[Bi f]at c;exact G p c
  .rw[BM f]at c;cases c
 .constructor
  .rintro(z|z)
   .exact .inl z
   .exact .inr ⟨0,⟨q,t⟩,by rw[Bi rfl];exact z⟩
  .rintro(z|⟨i,g,c⟩)
   .exact .inl z
   .by_cases f:i=0
    .rw[Bi f]at c;exact .inr c
    .rw[BM f]at c;cases c
end
theorem N9{M:Ms}(h:(M.map (·.1)).Nodup):∀i m c,(i,m)∈M->(i,c)∈M->m=c:=by
 induction M with
 |nil=>intro i m c a;cases a
 |cons x M d=>
  obtain⟨j,k⟩:=x;rw[UV,cw]at h;intro i m c a b;rcases Hk.mp a with a|a
  .rcases Hk.mp b with b|b
   .cases a;cases b;rfl
   .cases a;exact(h.1 (Pm.mpr ⟨_,b,rfl⟩)).elim
  .rcases Hk.mp b with b|b
   .cases b;exact(h.1 (Pm.mpr ⟨_,a,rfl⟩)).elim
   .exact d h.2 i m c a b
section
variable{P:Program}{w:World}{K:Frag}{mg:Str->Option Value}{base:Heap}{x qual:Str}{st:Stmt}{f:Addr}{fd:FuncData}{N ps:List Str}{k:Nat}{fn gn zn:List Str}{md:List Md}{mt:List (Nat×Nat)}{Φ:Nat->aY}{G:Nat->W}
theorem HF(t:cK N ps (ai st))(T:Tab P w K mg base fn gn zn md mt Φ G k)(q:cV k (kT P w K mg base N qual (ai st) f b A a s H E).A)(un:∀i m r,(i,m)∈M->(i,r)∈M->m=r):
 Er ⟨N,(ai st).names,M,fn,gn,zn,md,mt⟩ Φ (eO md) G (kT P w K mg base N qual (ai st) f b A a s H E):=
 {hN:=rfl,nd:=t.nd,calm:=rfl,un:=q.units,nk:=λ_=>rfl,
  fns:=λj x e h=>by obtain⟨v,n,p,o,l,d,c⟩:=T.fns j x e h;exact⟨v,n,p,o,l,q.mono d,c⟩
  LC:=λj g x e h=>by obtain⟨f,fd,ps,n,p,o,l,d,c,u⟩:=T.LC j g x e h;exact⟨f,fd,ps,n,p,o,l,d,q.mono c,u⟩
  BZ:=rfl,G0:=T.G0,wZ:=T.wZ,kit:=T.kit,
  bk:=by show(if(ai st).kind.isAnnotationScope then ScopeKind.function else(ai st).kind)=_;rw[t.kind];rfl
  Rq:=λ_=>rfl,Jo:=T.Jo,own:=.leaving,stk:=⟨rfl,rfl⟩,Xa:=un}
theorem HG(F:E4 K x qual st f fd)(O:cK N ps (ai st))(T:Tab P w K mg base fn gn zn md mt Φ G k)(b:List CS)(M:Ms)(m:Md)(t:aY)(hM:M.all (λi=>decide (ps.length<=i.1))=true)(hu:(M.map (·.1)).Nodup)(d:gv m=false)
 (g:cG ⟨N,(ai st).names,M,fn,gn,zn,md,mt⟩ (eO md) m b (aN st)=true)(B:∀c P R,t c P R->c.length=ps.length)
 (hp:∀c P R,t c P R->wSs Φ G b ⟨se m P,P,λ_=>False,λ_=>False,R⟩ (ak N.length c)):b8 P w K mg base (je P w) (k+1) f fd ps (Jl K ps.length m t):=by
 refine E4.Zk F O (by rintro vs H Q E ⟨A,c,P,R,p,o,_⟩;rw[o.len,p]) λcdv A n s H vs Q E hr hz=>?_;obtain⟨U,c,u,R,p,o,h3,h4,L,J⟩:=hz;have y:=N9 hu;refine⟨_,i6 Φ (eO md) G b (HF O T hr y) (aN st) g,⟨U,U,none⟩,H,ak N.length c,⟨se m u,u,λ_=>False,λ_=>False,R⟩,HB o h3 (λi m hi=>?_) y,⟨E,Nt,λC j rc l=>J C j rc l,λe Y S s1 h' a C h I hx q=>AZ e Y S s1 h' a C h I hx (J C S q.1 q.2)⟩,(by rw[d];rfl),hp c u R h4,⟨λA' Z X j ea eb D S'=>?_,λw v j hw l r=>?_,λ_ _ _ _ _ _ z=>z.elim,λ_ _ _ _ _ _ z=>z.elim⟩⟩
 .rw[p];exact Da (T1.mp hM (i,m) hi)
 .cases m with
  |s=>exact L .bV .bV j D S'.sm (.of (by dsimp only[Rep]))
  |io _=>cases d
  |_=>exact D.elim
 .cases m with
  |io _=>cases d
  |_=>exact L w v j hw l r
theorem jQ(F:E4 K x qual st f fd)(Sc:cK N ps (ai st))(T:Tab P w K mg base fn gn zn md mt Φ G k)(b:List CS)(M:Ms)(j:Md)(Sf:aY)(hM:M.all (λi=>i.1==0||decide (ps.length<=i.1))=true)(hu:(M.map (·.1)).Nodup)(U:hasB M 0 j=true)(hN:0<N.length)
 (J:cG ⟨N,(ai st).names,M,fn,gn,zn,md,mt⟩ (eO md) (.io j) b (aN st)=true)(hlen:∀h P R,Sf h P R->h.length=ps.length)
 (D:∀h P R,Sf h P R->wSs Φ G b ⟨se (.io j) P,P,λ_=>False,λ_=>False,R⟩ (ak N.length h)):b8 P w K mg base (je P w) (k+1) f fd ps (QA K ps.length j Sf):=by
 refine E4.Zk F Sc (by rintro vs H Q E ⟨ab,F,O,v0,h,vs',P,R,e,h1,_,_,_,_,h2,_⟩;rw[e,BL,h2.len,h1]) λcdv A outer s H vs Q E hr hz=>?_;obtain⟨ab,F,O,v0,h,vs',P0,R,e,h1,nd,na,d,fp,h2,h4,h5,h6⟩:=hz;subst e;have un:=N9 hu;have U:=jO U;have Y:∀{c},ay (era F H) c->wY (·∈F) H c:=λ{c} t p o e=>by
  by_cases Uo:p∈F
  .obtain⟨o',e',hm⟩:=Fp.mu j fp p Uo;rw[e]at e';cases e';exact .inl ⟨hm,Uo⟩
  .exact .inr (t p o (by rw[Mc Uo];exact e))
 refine⟨_,i6 Φ (eO md) G b (HF Sc T hr un) (aN st) J,⟨ab,λp=>ab p\/p∈F,some v0⟩,era F H,ak N.length (O::h),⟨se (.io j) P0,P0,λ_=>False,λ_=>False,R⟩,HE nd na d fp h2 U (λi m hi=>?_) un hN,⟨E,Nt,λC c rc t=>h6 C c rc (Y t),λu σ H1 s1 h' a C L I hx q=>AZ u σ H1 s1 h' a C L I hx (h6 C H1 q.1 (Y q.2))⟩,rfl,D _ P0 R h4,⟨λA' n σ' c ea eb l S'=>?_,λw v c hw t r=>?_,λ_ _ _ _ _ _ z=>z.elim,λ_ _ _ _ _ _ z=>z.elim⟩⟩
 .have:=T1.mp hM (i,m) hi;rw[si]at this;rcases this with z|z
  .exact .inl (Kt.mp z)
  .exact .inr (by rw[h1];exact Da z)
 .have l:(match look n 0 with|some O=>P0 (.tup [.bV,O])|none=>False):=l;cases hl:look n 0 with
  |none=>rw[hl]at l;exact l.elim
  |some y=>rw[hl]at l;obtain⟨wr,y',v0',F',e1,X,Z9,Z,g,S⟩:=pF (v:=.bV) S' U hl ⟨v0,eb⟩ (by dsimp only[Rep]:Rep K A'.B c .bV .bV);cases e1;rw[eb]at X;cases X;rw[ea]at g S Z;exact h5 .bV y .bV F' c l (Y S'.sm) Z9 (λp D=>HD (Z p D).1) g S
 .obtain⟨wr,y,v0',F',rfl,X,Z9,Z,g,S⟩:=r;cases X;exact h5 wr y v F' c hw (Y t) Z9 (λp D=>HD (Z p D).1) g S
end
end VL
namespace L2
open PySem PySem.Spec PyProof.Rows
abbrev rv(as:List (Addr×Rat)):List V:=as.map λx=>V.ref x.1
section
variable{X:Cx}{H:Hp}
end
theorem nI(h:a.getLast?=some x):lz a (-1)=some x:=by
 have c:a≠[]:=by intro z;rw[z]at h;cases h
 have b:0<a.length:=KE.mpr c;unfold lz;have e:wV a.length (-1)=some (a.length -1):=by unfold wV;rw[BM (by decide),Bi (by lia)];congr 1;lia
 rw[e];show a[a.length -1]?=_;rw[<-h,Ki]
end L2
namespace VL
open PySem PySem.Spec
open PyProof.Rows hiding St
open L2
noncomputable def wq(r:Rat):W:=.tup [.int r.num,.int r.den]
noncomputable def bG(a:List Rat):W:=.lst (a.map wq)
section
variable{K:Frag}{A:Addr->Prop}{H H':Hp}{v:V}{p:Addr}{r:Rat}{rs:List Rat}
end
def b7:List aY->Nat->aY
 |[],_=>λ_ _ _=>False
 |x::_,0=>x
 |_::l,n+1=>b7 l n
noncomputable def ja:List W->Nat->W
 |[],_=>.bV
 |x::_,0=>x
 |_::l,n+1=>ja l n
section
variable{Q:W->Prop}{l a b:List W}{i j:Int}{x y:Str}{p q:Bool}
theorem x_len:sF .len [.lst l] Q=Q (.int l.length):=rfl
theorem Et:sF .len [.jX ns] Q=Q (.int ns.length):=rfl
theorem Es:sF .len [.tup l] Q=Q (.int l.length):=rfl
theorem ML:sF .abs [.int i] Q=Q (.int (if i<0 then-i else i)):=rfl
theorem MM:sF .max2 [.int i,.int j] Q=Q (.int (if j>i then j else i)):=rfl
theorem MN:sF .min2 [.int i,.int j] Q=Q (.int (if j<i then j else i)):=rfl
theorem Eu:sF .list [.lst l] Q=Q (.lst l):=rfl
theorem AH:sF .list [.tup l] Q=Q (.lst l):=rfl
theorem Xd:sF .Uh [.int i,.int j] Q=((0<j/\j<1073741824)/\Q (.tup [.int (i/j),.int (i%j)])):=rfl
theorem MO:sF .int [.bl p] Q=Q (.int (if p then 1 else 0)):=rfl
theorem MP:gM .Add (.int i) (.int j) Q=Q (.int (i+j)):=rfl
theorem MQ:gM .Add (.lst a) (.lst b) Q=(a.length+b.length<=sizeLine/\Q (.lst (a++b))):=rfl
theorem MR:gM .Sub (.int i) (.int j) Q=Q (.int (i -j)):=rfl
theorem MS:gM .Mult (.int i) (.int j) Q=(IntMulOk i j/\Q (.int (i*j))):=rfl
theorem MT:gM .Mult (.lst a) (.int j) Q=(-(2^63)<=j/\j<2^63/\a.length*j.toNat<=sizeLine/\Q (.lst (AW j.toNat a).flatten)):=rfl
theorem Ew:gM .FloorDiv (.int i) (.int j) Q=(xw i j/\Q (.int (i.fdiv j))):=rfl
theorem MU:gM .Mod (.int i) (.int j) Q=(j≠0/\Q (.int (i.fmod j))):=rfl
theorem MV:gM .Pow (.int i) (.int j) Q=(JC i j/\Q (.int (i^j.toNat))):=rfl
theorem UA:dS .Eq (.int i) (.int j) Q=Q (.bl (decide (i=j))):=rfl
theorem UB:dS .NotEq (.int i) (.int j) Q=Q (.bl (!decide (i=j))):=rfl
theorem x_lt:dS .Lt (.int i) (.int j) Q=Q (.bl (decide (i<j))):=rfl
theorem UC:dS .LtE (.int i) (.int j) Q=Q (.bl (decide (i<=j))):=rfl
theorem UD:dS .Gt (.int i) (.int j) Q=Q (.bl (decide (j<i))):=rfl
theorem UE:dS .GtE (.int i) (.int j) Q=Q (.bl (decide (j<=i))):=rfl
theorem MW:NL .Lt (.int i) (.int j) Q=Q (.bl (decide (i<j))):=rfl
theorem MX:NL .LtE (.int i) (.int j) Q=Q (.bl (decide (i<=j))):=rfl
theorem uL{Q:Bool->Prop}:truth (.bl p) Q=Q p:=rfl
theorem UG:NN (.lst l) (.int i) Q=∃w,lz l i=some w/\Q w:=rfl
theorem MZ:NN (.jX ns) (.int i) Q=∃n,lz ns i=some n/\Q (.int n):=rfl
theorem M1:Ym (.jX ns) c d Q=Q (.lst (kH (ns.map W.int) c d)):=rfl
theorem MY:NN (.tup l) (.int i) Q=∃w,lz l i=some w/\Q w:=rfl
theorem UH:Ym (.lst l) c d Q=Q (.lst (kH l c d)):=rfl
theorem M3{Q:Option Int->Prop}:En .bV w Q=Q none:=rfl
theorem M4{Q:Option Int->Prop}:En (.int n) (.int i) Q=Q (some i):=rfl
theorem M5{Q:Option Int->Prop}:En (.var n) (.int i) Q=Q (some i):=rfl
theorem M6{Q:Option Int->Prop}:En (.bin o c d) (.int i) Q=Q (some i):=rfl
theorem AI{Q:List W->Prop}:items (.lst l) Q=Q l:=rfl
theorem w4{Q:List W->Prop}:items (.tup l) Q=Q l:=rfl
theorem UI{Q:Ev->Prop}:wT true [n] w c Q=Q (c.set n (some w)):=rfl
theorem UJ{Q:Ev->Prop}:wT false c (.tup l) d Q=(l.length=c.length/\Q (cI d c l)):=by
 cases c<;>rfl
theorem M7{i j:Nat}{Q:Ev->Prop}:wT false [i,j] (.tup l) c Q=(l.length=2/\Q (cI c [i,j] l)):=rfl
theorem M8:P8 (.tup l) c d Q=(¬(HT.dh l.length 0 c=0/\HT.dh l.length l.length d=l.length)/\Q (.tup (kH l c d))):=rfl
theorem M9{Q:Option Int->Prop}:En (.own k π) (.int i) Q=Q (some i):=rfl
theorem Ex{A B:Prop}:(if true=true then A else B)=A:=rfl
theorem AJ{A B:Prop}:(if false=true then A else B)=B:=rfl
end
def wFb(c:Nat->aY)(G:Nat->W)(one:Bool)(d:List Nat)(b:List CS):W->Dn->Ev->Prop:=λw f a=>wT one d w a λe=>wSs c G b f e
theorem Uy:wS c G (.fr d one e b) D a=wE c G D.ex e a λz=>items z λf=>iG (wFb c G one d b) D f a:=rfl
theorem Ov:wS c G (.Ul i e b) D d=wP c G D.ex e d λx a=>vC [x] λf=>iG (wFb c G true [i] b) D f a:=rfl
theorem Uz:wFb c G one d b w D a=wT one d w a λe=>wSs c G b D e:=rfl
def WN{α:Type}(S:α->Ev)(J:α->Prop)(c:α->Nat)(s:α):Ev->Prop:=λa=>∃b,a=S b/\J b/\c b<c s
def Ys{α:Type}(S:α->Ev)(J:α->Prop)(d:α->Nat)(b:Dn->Ev->Prop)(D:Dn)(s:α)(k:Bool):Prop:=
 if k=true then∃N:Ev->Prop,(∀a,N a->∃e,e<d s/\∃c,a=S c/\e=d c/\J c)/\b {nx:=N,rt:=D.rt,bk:=D.nx,ct:=N,ex:=D.ex} (S s)else D.nx (S s)
theorem iI(g:k=true->b {nx:=WN S J a s,rt:=D.rt,bk:=D.nx,ct:=WN S J a s,ex:=D.ex} (S s))(f:k=false->D.nx (S s)):Ys S J a b D s k:=by
 unfold Ys;cases k with
 |true=>exact⟨_,by rintro c ⟨d,e,j,l⟩;exact⟨_,l,d,e,rfl,j⟩,g rfl⟩
 |false=>exact f rfl
theorem nJ(S:α->Ev)(J:α->Prop)(e:α->Nat)(d:α)(h:a=S d)(g:J d)(f:∀s,J s->c (S s) (Ys S J e b D s)):KR c b D a:=by refine⟨λm a=>∃s,a=S s/\m=e s/\J s,⟨_,d,h,rfl,g⟩,?_⟩;rintro m _ ⟨s,rfl,rfl,j⟩;exact f s j
theorem cO{α:Type}{h g:α->W}:∀(b:List α)(a:List W)(Q:List W->Prop),(∀x∈b,∀K:Option W->Prop,K (some (g x))->f (h x) K)->a.length+b.length<=sizeLine->Q (a++b.map g)->iF f (b.map h) a Q
 |[],a,Q,_,_,q=>by rw[Qf,iF];simpa using q
 |w::b,a,Q,c,l,q=>by
  rw[UV,iF];refine c w (FK ..) _ ⟨?_,cO b _ Q (λx d=>c x (FS _ d)) ?_ ?_⟩
  .rw[BL]at l;lia
  .rw[KM,L0];rw[BL]at l;lia
  .rw[Pv];exact q
theorem gU{α:Type}(x:α):∀n,(AW n [x]).flatten=AW n x
 |0=>rfl
 |n+1=>by rw[D6,Ep,gU x n];rfl
theorem af(h:n<=1000):n<=sizeLine:=Do h (by decide)
theorem Af(K:Frag):x6 K:=by intro b a;simp only[Hk,iq,or_false]at a;rcases a with rfl|rfl<;>rfl
theorem qZ(h:n<=1000):n<sizeLine:=IH h (by decide)
theorem vP(i:Int)(n:Nat):oH n (.int i)=true:=by
 cases n<;>rfl
theorem Ag(r:Rat)(n:Nat):oH (n+1) (wq r)=true:=by unfold wq;dsimp only[oH];rw[D2,D2,vP,vP];rfl
theorem pJ(a:List Rat)(n:Nat):oH (n+2) (.lst (a.map wq))=true:=by dsimp only[oH];rw[T1];intro x b;obtain⟨r,_,rfl⟩:=Pm.mp b;exact Ag r n
theorem SK(h:wq r=wq s):r=s:=by have h:=W.NJ h;simp only[bN,and_true]at h;exact Rat.ext (W.BJ h.1) (by have:=W.BJ h.2;lia)
theorem Cg{d c:List Rat}(h:W.lst (d.map wq)=.lst (c.map wq)):d=c:=by exact(Ng (λa b e=>SK e)).mp (W.BK h)
theorem HH(h:∀k:Bool,(k=true↔x=y)->Q (.bl k)):dS .Eq (bG x) (bG y) Q:=
 ⟨.inl ⟨pJ x 7,pJ y 7⟩,λk a=>h k (a.trans ⟨λe=>Cg e,λe=>by rw[e]⟩)⟩
theorem SM(h:∀k:Bool,(k=true↔x=y)->Q (.bl (!k))):dS .NotEq (bG x) (bG y) Q:=
 ⟨.inl ⟨pJ x 7,pJ y 7⟩,λk a=>h k (a.trans ⟨λe=>Cg e,λe=>by rw[e]⟩)⟩
theorem vQ(h:k=true↔p)(q:p):k=true:=h.mpr q
theorem lY(h:k=true↔p)(q:¬p):k=false:=by
 cases k with
 |false=>rfl
 |true=>exact absurd (h.mp rfl) q
def Hd(K:Frag)(x:Str)(st:Stmt):Prop:=∃(f:Addr)(d i:Option Addr)(b:Array (Option Value))(e kV g c a h:Value),
 nsIn K mainGlobals x=some (some (.ref f))/\K.lookup f=some ⟨e,d,.func (fnOf x x (cy st) (aN st) (ai st) .none kV g c i a h),b⟩/\codeIn K a x=true/\keepIn K (.ref f)=true
def Hm(K:Frag)(C:Addr)(x q:Str)(st:Stmt):Prop:=∃(f:Addr)(d i:Option Addr)(b:Array (Option Value))(e kV g c a h:Value),
 findIn K (.ref C) x=some (some (.ref f))/\isFn K (.ref f)=true/\K.lookup f=some ⟨e,d,.func (fnOf x q (cy st) (aN st) (ai st) .none kV g c i a h),b⟩/\codeIn K a q=true/\keepIn K (.ref f)=true
structure Df(K:Frag)(mg:Str->Option Value)(x:Str)(st:Stmt)(ps:List Str)(f:Addr)(fd:FuncData):Prop where
 F:E4 K x x st f fd
 m:mg x=some (.ref f)
 b:Binds K fd ps []
 bt:∀(s:Shared)(us:List Value),us.length=ps.length->BindsTo s fd ⟨us,[]⟩ (ps.zip us)
structure Dm(K:Frag)(C:Addr)(x q:Str)(st:Stmt)(ps:List Str)(f:Addr)(fd:FuncData):Prop where
 F:E4 K x q st f fd
 M:Meth K C x f
 b:Binds K fd ps []
abbrev iJ(x q:Str)(st:Stmt)(ps:List Str):Prop:=∀(kV doc pm:Value)(an:Option Addr)(cdv ct:Value)(us:List Value),us.length=ps.length->bindArgs (fnOf x q (cy st) (aN st) (ai st) .none kV doc pm an cdv ct) ⟨us,[]⟩=pure (ps.zip us)
theorem sI{α:Type}{l:List α}(h:l.length=n+1):∃a r,l=a::r/\r.length=n:=by
 cases l with
 |nil=>cases h
 |cons a r=>exact⟨a,r,rfl,Xq h⟩
theorem Xe{K:Frag}{st:Stmt}(X:K.In h)(G:h.Ns mainGlobals d)(j:Hd K x st)(b:iJ x x st ps):∃f m,Df K d x st ps f m:=by obtain⟨f,t,q,r,u,kV,n,g,p,o,a,l,c,k⟩:=j;have F:=E5 (st:=st) l c k;exact⟨f,_,F,dC X G a,F.binds b,λs e i=>.of_eq (b kV n g q p o e i)⟩
theorem Oa{K:Frag}{st:Stmt}(d:Hm K C x q st)(b:iJ x q st ps):∃f e,Dm K C x q st ps f e:=by obtain⟨f,j,r,g,m,kV,n,h,p,o,a,i,l,c,k⟩:=d;have F:=E5 (st:=st) l c k;exact⟨f,_,F,⟨a,i,k⟩,F.binds b⟩
structure Hc(K:Frag)(mg:Str->Option Value)(x:Str)(C:Addr)(fs:List Str):Prop where
 c:mg x=some (.ref C)
 ok:zN K C fs
 mks:makesIn K C=true
 kp:keepIn K (.ref C)=true
theorem Ah{K:Frag}(c:E2 H)(b:jU K H a (ns.map V.int)):Rep K (λ_=>False) H (.jX ns) (.ref a):=by
 refine⟨a,rfl,?_⟩;rcases b with(h|⟨o,h⟩)|h
 .rcases c a with z|⟨o,d,z⟩
  .rw[z]at h;cases h
  .rw[z]at h;cases h
 .exact .inl ⟨o,h⟩
 .exact .inr (.inr h)
def SN:aY:=λb Q _=>∃a:List Int,b=[.jX a]/\a.length<=63/\Q (.bl true)
def Ci(K:Frag):Sp:=λc H Q _=>∃(a:Addr)(b:List Int),c=[.ref a]/\E2 H/\jU K H a (b.map V.int)/\b.length<=63/\∀d,Q (.bl true) d
theorem SO{K:Frag}{f:Addr}{d:FuncData}{x:Str}(F:b8 P w K c base (je P w) k f d [x] (Jl K 1 .s SN)):b8 P w K c base Vx k f d [x] (Ci K):=by refine(b8.VC F).imp λm H Q E ⟨a,b,e,j,i,h,q⟩=>?_;subst e;refine⟨λ_=>False,[.jX b],λw=>w=.bl true,λ_=>False,rfl,.cons (Ah j i) .nil,λ_ z=>z.elim,⟨b,rfl,h,rfl⟩,λw v l g _ r=>?_,λ_ _ z=>z.elim⟩;subst g;have r:=r.bF;dsimp only[Rep]at r;subst r;exact q l
theorem walk{l:PySem.W.OpenLaw}{K:Params->Frag}{k:Nat}(r:l.most=some 63)(g:d.params.defaults=[])(p:cV k callerA)(B:importsNone q=true)(e:l.prog.given.tree=none)
 (v:∀(w:World)(h:Heap),m w h->(K w.params).In h)
 (F:∀(w:World)(c:Str->Option Value)(j:Addr)(h:Heap),(K w.params).In h->h.Ns mainGlobals c->c d.name=some (.ref j)->
   ∃i:FuncData,(∀(s:Shared)(u:Value),BindsTo s i ⟨[u],[]⟩ [("_law_script",u)])/\∀base:Heap,(K w.params).In base->base.Ns mainGlobals c->b8 l.prog w (K w.params) c base Vx k j i ["_law_script"] (Ci (K w.params))):
 PySem.W.WalkO q b C m l.row.toRowW d [] (λf us=>PySem.call f us):=
 L2.JQ (n:=63) (k:=k) (x:="_law_script") (CX:=λ_=>Vx) (sp:=λw=>Ci (K w.params)) r (by decide) g p B e v F (λ_ _ a o t A y=>⟨a,o,rfl,A,y,t,λ_=>rfl⟩) λ_ _ _ _ _ z=>z
def Yt:aY:=λ_ _ _=>False
theorem Xf{K:Frag}{f:Addr}{e:FuncData}{ps:List Str}:b8 P w K d base (je P w) k f e ps (nj K n .s Yt):=
 ⟨by rintro c H Q E ⟨_,_,_,_,_,_,_,z,_⟩;exact z.elim,by rintro A a s H b g c Q E h j i r ⟨_,_,_,_,_,_,_,z,_⟩;exact z.elim⟩
theorem Df.g7{K:Frag}{st:Stmt}{ps:List Str}{f:Addr}{h:FuncData}{k n:Nat}{m:Md}{sp:aY}(D:Df K d x st ps f h)(F:b8 P w K d base (je P w) k f h ps (nj K n m sp))(j:n=ps.length)(i:∀a P R,sp a P R->a.length=n){e:Nat}(l:k<=e):
 ∃g n c,d x=some g/\cu P w K d base c g n (nj K n m sp)/\c<=e/\∀a P R,sp a P R->a.length=n:=by
 subst j;exact⟨_,_,k,D.m,.fn D.F.kp D.b F,l,i⟩
theorem Dm.g7{K:Frag}{st:Stmt}{ps:List Str}{C f:Addr}{a:FuncData}{k n:Nat}{m:Md}{sp:aY}(D:Dm K C x q st ps f a)(F:b8 P w K g base (je P w) k f a ps (nj K n m sp))(i:∀c P R,sp c P R->c.length=n){h:Nat}(j:k<=h){G:W}(l:G=.cls C):
 ∃f a ps n d,(∀C,G=.cls C->Meth K C x f)/\Binds K a ps []/\b8 P w K g base (je P w) d f a ps (nj K n m sp)/\d<=h/\∀c P R,sp c P R->c.length=n:=
 ⟨f,a,ps,n,k,λo e=>by rw[l]at e;cases e;exact D.M,D.b,F,j,i⟩
end VL
namespace VL
open PySem PySem.Spec
open PyProof.Rows hiding St
open L2 Num
abbrev bH(m:Md)(P:W->Prop)(R:Addr->Prop):Dn:=⟨se m P,P,λ_=>False,λ_=>False,R⟩
noncomputable def wI(ns:List Int):W:=.lst (ns.map W.int)
theorem aR(J:Nat->Ev->Prop)(n:J 0 a)(l:∀i w a N,d[i]?=some w->J i a->(∀c,J (i+1) c->N c)->b w ⟨N,D.rt,D.nx,N,D.ex⟩ a)(m:∀a,J d.length a->D.nx a):iG b D d a:=by
 have:∀k i a,i+k=d.length->J i a->iG b D (d.drop i) a:=by
  intro k
  induction k with
  |zero=>intro i a e j;rw[List.drop_of_length_le (by lia),iG];exact m a (by rw[<-e];exact j)
  |succ k h=>
   intro i a e j;have f:i<d.length:=by lia
   rw[eD f,iG];exact l i _ a _ (DL f) j λc g=>h (i+1) c (by lia) g
 exact this d.length 0 a (by lia) n
theorem aF(h:x.natAbs<2^n)(b:y.natAbs<2^m)(a:n+m<=134217728):IntMulOk x y:=zo (Do (yA (bits_le h) (bits_le b)) a)
theorem kM{y:Int}(h:y.natAbs<2^n)(a:n<=8000):y.natAbs.log2<1000000000:=by
 rcases eC y.natAbs with e|e
 .rw[e];decide
 .have:=(Vz (Sz e)).mpr h;lia
theorem rj{y:Int}(h:y.natAbs<2^n)(a:n<=999999999):y.natAbs.log2<1000000000:=by
 rcases eC y.natAbs with e|e
 .rw[e];decide
 .have:=(Vz (Sz e)).mpr h;lia
theorem HJ(r:Rat):(r.den:Int)≠0:=by have:=r.den_pos;lia
noncomputable def rq:List CS:=[.ret (.comp [0] true 1 (.var 0) (.bl true) (.bin .Mult (.var 2) (.var 0)))]
def iK:aY:=λc Q _=>∃(a:List Int)(b:Int),c=[wI a,.int b]/\a.length<=1000/\(∀x∈a,IntMulOk b x)/\Q (wI (a.map (b*·)))
theorem HK(c:List W)(Q:W->Prop)(R:Addr->Prop)(h:iK c Q R):wSs e G rq (bH m Q R) (ak 2 c):=by obtain⟨d,b,rfl,i,j,a⟩:=h;show wSs _ _ rq _ [some (wI d),some (.int b)];unfold rq wI;fin2;refine cO (g:=λx=>.int (b*x)) d [] _ (λx f K k=>⟨j x f,k⟩) (af (by simpa using i)) ?_;rw[Cv];unfold wI at a;rw[T2]at a;exact a
noncomputable def vR:List CS:=[.Dr (.cmp .NotEq (.var 1) (.int 0)) [.par [0,1] [(.var 1),(.bin .Mod (.var 0) (.var 1))]],.ret (.blt .abs [(.var 0)])]
def Cj:aY:=λc Q _=>∃a b:Int,c=[.int a,.int b]/\Q (.int (Bn a b:Nat))
theorem Me(f:List W)(Q:W->Prop)(R:Addr->Prop)(h:Cj f Q R):wSs k G vR (bH m Q R) (ak 2 f):=by
 obtain⟨a,b,rfl,l⟩:=h;show wSs _ _ vR _ [some (.int a),some (.int b)];unfold vR;fin2;refine nJ (α:=Int×Int) (λx=>[some (.int x.1),some (.int x.2)]) (λx=>Bn x.1 x.2=Bn a b) (λx=>x.2.natAbs) (a,b) rfl rfl ?_;rintro⟨x,y⟩ g;fin2;refine iI (λd=>?_) (λd=>?_)
 .have c:y≠0:=by simpa using d
  have j:=xE x y (x.fdiv y);have i:=Fv x y c;rw[<-Num.fmod_eq]at j i;fin2;exact⟨c,rfl,(y,x.fmod y),rfl,j.trans g,i⟩
 .have c:y=0:=by simpa using d
  subst c;fin2;have e:(if x<0 then-x else x)=((Bn a b:Nat):Int):=by rw[<-g,OC];split<;>lia
  rw[e];exact l
noncomputable def rA:List CS:=[.set 2 (.call 0 [(.var 0),(.var 1)]),.iff (.cmp .Lt (.var 1) (.int 0)) [.set 2 (.bin .Sub (.int 0) (.var 2))] [],.ret (.tup [(.bin .FloorDiv (.var 0) (.var 2)),(.bin .FloorDiv (.var 1) (.var 2))])]
theorem fR(h:(gO 0 1 n)[i]?=some w):i<n/\w=.int i:=by unfold gO at h;rw[FC]at h;obtain⟨j,e,rfl⟩:=NM.mp h;obtain⟨b,a⟩:=Gc.mp e;rw[eN]at a;rw[bj]at b;refine⟨b,?_⟩;rw[<-a];simp
theorem cL{k:Nat}{w:W}(h:l[k]?=some w):lz l (k:Int)=some w:=by unfold lz wV;have:=(Gc.mp h).1;rw[Bi (by lia),Bi (by lia)];simpa using h
theorem jw(h:k<n):wV n (k:Int)=some k:=by unfold wV;rw[Bi (by lia),Bi (by lia)];simp
theorem fm{x:Int}(a:0<n):0<=x.fmod n/\x.fmod n<n:=⟨Int.fmod_nonneg_of_pos x a,Int.fmod_lt_of_pos x a⟩
theorem aA(J:Ev->Prop)(f:∀N:Ev->Prop,(∀a,J a->N a)->wS b G s {D with nx:=N} c)(e:∀a,J a->wSs b G (t::d) D a):wSs b G (s::t::d) D c:=f _ e
theorem int_at{ns:List Int}(h:k<ns.length):(ns.map W.int)[k]?=some (.int (ns.getD k 0)):=by rw[FC,AC,DL h];rfl
theorem vU{ns:List Int}{P:Int->Prop}(h:∀n∈ns,P n)(a:k<ns.length):P (ns.getD k 0):=by rw[AC,DL a];exact h _ (Yf _)
theorem HL(ns:List Int)(k:Nat)(h:k<=ns.length):kH (ns.map W.int) none (some (k:Int))=(ns.take k).map W.int:=by unfold kH;rw[HT.AU,HT.xo,Ap,Xy,show min k ns.length -0=k by lia,g5]
noncomputable def nK:List CS:=[.set 1 (.blt .len [(.var 0)]),.Dr (.and [(.cmp .Gt (.var 1) (.int 0)),(.cmp .Eq (.ix (.var 0) (.bin .Sub (.var 1) (.int 1))) (.int 0))]) [.set 1 (.bin .Sub (.var 1) (.int 1))],.ret (.sl (.var 0) .bV (.var 1))]
def lZ:aY:=λc Q _=>∃a:List Int,c=[wI a]/\∀b,iu a b->Q (wI b)
theorem DM(i:List W)(Q:W->Prop)(R:Addr->Prop)(h:lZ i Q R):wSs l G nK (bH m Q R) (ak 2 i):=by
 obtain⟨c,rfl,n⟩:=h;show wSs _ _ nK _ [some (wI c),none];unfold nK wI;fin2;refine nJ (α:=Nat) (λk=>[some (.lst (c.map W.int)),some (.int k)]) (λk=>k<=c.length/\∀j,k<=j->j<c.length->c.getD j 0=0) (λk=>k) c.length (by rw[Ap]) ⟨Ee _,λj g f=>by lia⟩ ?_;rintro k ⟨g,f⟩;fin2;have d:(k=0\/c.getD (k -1) 0≠0)->Q (.lst (kH (c.map W.int) none (some (k:Int)))):=λh=>by rw[HL c k g];exact n _ ⟨k,g,rfl,f,h⟩
 by_cases o:0<k
 .rw[Bi (Fh (by lia))];rw[show(k:Int) -1=((k -1:Nat):Int) by lia];refine⟨_,cL (int_at (by lia)),?_⟩;fin2;refine iI (λz=>?_) (λz=>?_)
  .have z:=Da z;fin2;refine⟨k -1,by rw[show(k:Int) -1=((k -1:Nat):Int) by lia],⟨by lia,λj a b=>?_⟩,by show k -1<k;lia⟩;by_cases e:j=k -1
   .rw[e];exact z
   .exact f j (by lia) b
  .have z:=mM z;fin2;exact d (.inr z)
 .rw[BM (by rw[Kb];lia)];refine iI (λz=>by cases z) (λ_=>?_);fin2;exact d (.inl (by lia))
noncomputable def iL:List CS:=[.set 2 (.blt .max2 [(.blt .len [(.var 0)]),(.blt .len [(.var 1)])]),.set 3 (.bin .Add (.blt .list [(.var 0)]) (.bin .Mult (.lst [(.int 0)]) (.bin .Sub (.var 2) (.blt .len [(.var 0)])))),.fr [4,5] false (.uu (.var 1)) [.put 3 (.var 4) (.bin .Add (.ix (.var 3) (.var 4)) (.var 5))],.ret (.call 0 [(.var 3)])]
def jx:aY:=λd Q _=>∃a b:List Int,d=[wI a,wI b]/\a.length<=200/\b.length<=200/\∀c,iu ((C0 (max a.length b.length)).map λk=>a.getD k 0+b.getD k 0) c->Q (wI c)
theorem vV(t:List W)(Q:W->Prop)(R:Addr->Prop)(h:jx t Q R):wSs (b7 [lZ]) G iL (bH m Q R) (ak 6 t):=by
 obtain⟨b,a,rfl,u,v,E⟩:=h;show wSs _ _ iL _ [some (wI b),some (wI a),none,none,none,none];unfold iL wI;fin2;have c:(if((a.map W.int).length:Int)>((b.map W.int).length:Int)then((a.map W.int).length:Int)else((b.map W.int).length:Int))=((max b.length a.length:Nat):Int):=by rw[Ap,Ap];split<;>lia
 rw[c];have d:((max b.length a.length:Nat):Int) -((b.map W.int).length:Int)=((max b.length a.length -b.length:Nat):Int):=by rw[Ap];clear c v u;lia
 rw[d,D7,gU];generalize J:max b.length a.length=L at*;refine⟨af (by simp),by clear d c J v u;lia,by clear d c;lia,af (by simp;clear d c;lia),af (by simp;clear d c;lia),?_⟩;have g:∀(f:Nat->Int)(k:Nat),k<L->((C0 L).map f)[k]?=some (f k):=λf k F=>by rw[FC,cm F];rfl
 refine aR (λi z=>∃o n,z=[some (.lst (b.map W.int)),some (.lst (a.map W.int)),some (.int L),some (.lst (((C0 L).map λk=>b.getD k 0+if k<i then a.getD k 0 else 0).map W.int)),o,n]) ⟨none,none,?_⟩ ?_ ?_
 .have:b.map W.int++AW (L -b.length) (W.int 0)=((C0 L).map λk=>b.getD k 0+if k<0 then a.getD k 0 else 0).map W.int:=by
   refine hV λq=>?_;by_cases s:q<b.length
   .rw[PP (by simpa using s),int_at s,FC,g _ q (by lia),BM (by lia),fo];rfl
   .by_cases j:q<L
    .rw[NA (by simpa using s),mf,Bi (by rw[Ap];omega),FC,g _ q j,BM (by lia),AC,Fs (by lia)];rfl
    .rw[Fs (by simp;omega),Fs (by simp;lia)]
  rw[this]
 .rintro i w _ N C ⟨o,n,rfl⟩ I;obtain⟨x,p,rfl⟩:=nB C;have H:i<a.length:=by have:=(Gc.mp p).1;simpa using this
  rw[int_at H]at p;cases p;fin2;have r:i<L:=by omega
  refine⟨rfl,_,cL (by rw[FC,g _ i r];rfl),?_⟩;fin2;refine⟨i,jw (by simpa using r),I _ ⟨some (.int i),some (.int (a.getD i 0)),?_⟩⟩;have:((C0 L).map λk=>b.getD k 0+if k<i then a.getD k 0 else 0).set i (b.getD i 0+(if i<i then a.getD i 0 else 0)+a.getD i 0)=(C0 L).map λk=>b.getD k 0+if k<i+1 then a.getD k 0 else 0:=by
   refine hV λq=>?_;rw[vk];by_cases j:q<L
   .rw[g _ q j,g _ q j];by_cases e:i=q
    .subst e;rw[Bi rfl,Bi (by simpa using r),BM (by lia),Bi (by lia)];congr 1;lia
    .rw[BM e];by_cases y:q<i
     .rw[Bi y,Bi (by lia)]
     .rw[BM y,BM (by lia)]
   .rw[BM (by lia),Fs (by simp;lia),Fs (by simp;lia)]
  rw[<-this,hU]
 .rintro _ ⟨o,n,rfl⟩;have B:(gj (a.map W.int)).length=a.length:=by unfold gj;simp
  rw[B];fin2;refine⟨_,rfl,λA D=>E A ?_⟩;have:((C0 L).map λk=>b.getD k 0+if k<a.length then a.getD k 0 else 0)=(C0 L).map λk=>b.getD k 0+a.getD k 0:=by
   refine km λk _=>?_;by_cases h:k<a.length
   .rw[Bi h]
   .rw[BM h,AC (l:=a),Fs (by lia)];rfl
  rw[<-this];exact D
noncomputable def gy:List CS:=[.ret (.call 0 [(.var 0),(.call 1 [(.var 1),(.neg (.int 1))])])]
def iM:aY:=λe Q _=>∃(c a:List Int)(b:Nat),e=[wI c,wI a]/\c.length<=200/\a.length<=200/\b<=100000000/\(∀x∈a,x.natAbs<2^b)/\∀d,iu ((C0 (max c.length a.length)).map λk=>c.getD k 0 -a.getD k 0) d->Q (wI d)
theorem sJ(e:List W)(Q:W->Prop)(R:Addr->Prop)(h:iM e Q R):wSs (b7 [jx,iK]) G gy (bH m Q R) (ak 2 e):=by
 obtain⟨c,a,b,rfl,i,j,q,d,p⟩:=h;show wSs _ _ gy _ [some (wI c),some (wI a)];unfold gy;fin2;refine⟨a,-1,rfl,by lia,λx o=>aF (n:=1) (m:=b) (by decide) (d x o) (by lia),?_⟩;refine⟨c,a.map (-1*·),rfl,i,by rw[Ap];exact j,λg f=>p g ?_⟩;rw[Ap]at f;have:((C0 (max c.length a.length)).map λk=>c.getD k 0+(a.map (-1*·)).getD k 0)=(C0 (max c.length a.length)).map λk=>c.getD k 0 -a.getD k 0:=by
  refine km λk _=>?_;rw[AC (l:=a.map _),FC,AC (l:=a)];cases a[k]? with
  |none=>show _+(0:Int)=_ -(0:Int);lia
  |some z=>show _+ -1*z=_ -z;lia
 rw[<-this];exact f
noncomputable def rB:List CS:=[.set 2 (.int 1),.Dr (.cmp .Gt (.var 1) (.int 0)) [.iff (.cmp .Eq (.bin .Mod (.var 1) (.int 2)) (.int 1)) [.set 2 (.bin .Mult (.var 2) (.var 0))] [],.set 1 (.bin .FloorDiv (.var 1) (.int 2)),.iff (.cmp .Gt (.var 1) (.int 0)) [.set 0 (.bin .Mult (.var 0) (.var 0))] []],.ret (.var 2)]
def pK:aY:=λa Q _=>∃(x:Int)(e n:Nat),a=[.int x,.int e]/\x.natAbs<2^n/\n*(e+1)<=130000000/\Q (.int (x^e))
theorem Xg{x:Int}(h:x.natAbs<2^n)(e:Nat):(x^e).natAbs<2^(n*e+1):=by rw[g6];have:x.natAbs^e<=(2^n)^e:=Wp (QR h) e;rw[<-i3]at this;rw[Gg];have:=U2 (n:=n*e) (show 0<2 by decide);lia
theorem HM(i:List W)(Q:W->Prop)(R:Addr->Prop)(h:pK i Q R):wSs t G rB (bH m Q R) (ak 3 i):=by
 obtain⟨x,e,n,rfl,j,F,w⟩:=h;show wSs _ _ rB _ [some (.int x),some (.int e),none];unfold rB;fin2;refine nJ (α:=Nat×Nat×Nat) (λs=>[some (.int (x^s.1)),some (.int s.2.1),some (.int (x^s.2.2))]) (λs=>s.1*s.2.1+s.2.2=e/\(0<s.2.1->0<s.1)) (λs=>s.2.1) (1,e,0) (by show _=[some (W.int (x^1)),some (W.int (e:Int)),some (W.int (x^0))];rw[GM,Os,cx]) ⟨by show 1*e+0=e;lia,λ_=>by show 0<1;decide⟩ ?_;rintro⟨a,d,p⟩ ⟨v,k⟩;dsimp only at v k;fin2;refine iI (λz=>?_) (λz=>?_)
 .have c:0<d:=by have:=Da z;lia
  have E:=k c;have H:a<=e:=by have:a*1<=a*d:=FV a c;lia
  have D:p+a<=e:=by have:a*1<=a*d:=FV a c;lia
  have a2:2<=d->a+a<=e:=λh=>by have:a*2<=a*d:=FV a h;lia
  have mo:∀q r,q+r<=e->IntMulOk (x^q) (x^r):=λq r h=>aF (Xg j q) (Xg j r) (by have y:=FV n h;rw[rh]at y;have f:n*e<=n*(e+1):=FV n (va e);lia);have C:(d:Int).fmod 2=((d%2:Nat):Int):=by rw[i4 _ (by decide)];lia
  have B:(d:Int).fdiv 2=((d/2:Nat):Int):=by rw[QQ _ (by decide)];lia
  have l:xw (d:Int) 2:=⟨by decide,by decide⟩;fin2;rw[C,B];refine⟨by decide,?_⟩;have g:a*d=a*(2*(d/2))+a*(d%2):=by rw[<-rh,Nat.div_add_mod]
  have A:a*(2*(d/2))=2*a*(d/2):=by rw[bb 2 a,ph]
  split
  .rename_i h
   have h:=Da h;have o:d%2=1:=by lia
   rw[o,Ux]at g;refine⟨mo p a D,l,?_⟩;split
   .rename_i b
    have b:=Da b;refine⟨mo a a (a2 (by lia)),(2*a,d/2,p+a),?_,⟨?_,λ_=>?_⟩,?_⟩
    .show[some (W.int (x^a*x^a)),some (W.int ((d/2:Nat):Int)),some (W.int (x^p*x^a))]=[some (W.int (x^(2*a))),some (W.int ((d/2:Nat):Int)),some (W.int (x^(p+a)))];rw[ml,kv,ml]
    .show 2*a*(d/2)+(p+a)=e;lia
    .show 0<2*a;lia
    .show d/2<d;lia
   .rename_i f
    rw[Kb]at f;refine⟨(a,d/2,p+a),?_,⟨?_,λz=>?_⟩,?_⟩
    .show[some (W.int (x^a)),some (W.int ((d/2:Nat):Int)),some (W.int (x^p*x^a))]=[some (W.int (x^a)),some (W.int ((d/2:Nat):Int)),some (W.int (x^(p+a)))];rw[ml]
    .show a*(d/2)+(p+a)=e;have u:d/2=0:=by lia
     rw[u]at g A⊢;lia
    .exact E
    .show d/2<d;lia
  .rename_i h
   rw[Kb]at h;have o:d%2=0:=by lia
   rw[o,Zi]at g;refine⟨l,?_⟩;split
   .rename_i b
    have b:=Da b;refine⟨mo a a (a2 (by lia)),(2*a,d/2,p),?_,⟨?_,λ_=>?_⟩,?_⟩
    .show[some (W.int (x^a*x^a)),some (W.int ((d/2:Nat):Int)),some (W.int (x^p))]=[some (W.int (x^(2*a))),some (W.int ((d/2:Nat):Int)),some (W.int (x^p))];rw[kv,ml]
    .show 2*a*(d/2)+p=e;lia
    .show 0<2*a;lia
    .show d/2<d;lia
   .rename_i f
    rw[Kb]at f;lia
 .have c:d=0:=by have:=mM z;lia
  subst c;fin2;have:p=e:=by lia
  rw[this];exact w
noncomputable def tabI(n:Nat)(f:Nat->Int):List Int:=(C0 n).map f
theorem eX(h:k<n):(tabI n f)[k]?=some (f k):=by unfold tabI;rw[FC,cm h];rfl
theorem bC(n:Nat)(f:Nat->Int):(tabI n f).length=n:=by unfold tabI;simp
theorem fS(h:k<n)(b:∀j,j<n->j≠k->g j=f j):(tabI n f).set k (g k)=tabI n g:=by
 refine hV λq=>?_;rw[vk];by_cases a:q<n
 .rw[eX a,eX a];by_cases e:k=q
  .subst e;rw[Bi rfl,Bi (by rw[bC];exact h)]
  .rw[BM e,b q a (dk e)]
 .rw[BM (by lia),Fs (by rw[bC];lia),Fs (by rw[bC];lia)]
theorem SV(h:∀k:Bool,(k=true↔x=y)->Q (.bl k)):dS .Eq (wI x) (wI y) Q:=by
 have c:∀z:List Int,oH 9 (.lst (z.map W.int))=true:=λz=>by dsimp only[oH];rw[T1];intro w d;obtain⟨i,_,rfl⟩:=Pm.mp d;exact vP i 8
 refine⟨.inl ⟨c x,c y⟩,λk f=>h k (f.trans ⟨λe=>?_,λe=>by rw[e]⟩)⟩;exact(Ng (λa b e=>W.BJ e)).mp (W.BK e)
theorem Ck{ms:List Int}(h:(gj (ms.map W.int))[i]?=some w):i<ms.length/\w=.tup [.int i,.int (ms.getD i 0)]:=by
 obtain⟨x,a,rfl⟩:=nB h;have b:i<ms.length:=by have:=(Gc.mp a).1;simpa using this
 rw[int_at b]at a;cases a;exact⟨b,rfl⟩
theorem yu(ms:List Int):(gj (ms.map W.int)).length=ms.length:=by unfold gj;simp
noncomputable def gA:List CS:=[.iff (.or [(.cmp .Eq (.var 0) (.lst [])),(.cmp .Eq (.var 1) (.lst []))]) [.ret (.lst [])] [],.set 2 (.bin .Mult (.lst [(.int 0)]) (.bin .Sub (.bin .Add (.blt .len [(.var 0)]) (.blt .len [(.var 1)])) (.int 1))),.fr [3,4] false (.uu (.var 0)) [.iff (.cmp .NotEq (.var 4) (.int 0)) [.fr [5,6] false (.uu (.var 1)) [.put 2 (.bin .Add (.var 3) (.var 5)) (.bin .Add (.ix (.var 2) (.bin .Add (.var 3) (.var 5))) (.bin .Mult (.var 4) (.var 6)))]] []],.ret (.var 2)]
def iN:aY:=λc Q _=>∃a b:List Int,c=[wI a,wI b]/\a.length<=200/\b.length<=200/\(∀x∈a,∀y∈b,IntMulOk x y)/\Q (wI (if a=[]\/b=[]then[]else tabI (a.length+b.length -1) (cf a b a.length)))
theorem sL(A:List W)(Q:W->Prop)(R:Addr->Prop)(h:iN A Q R):wSs D G gA (bH m Q R) (ak 7 A):=by
 obtain⟨a,b,rfl,S,O,J,l⟩:=h;show wSs _ _ gA _ [some (wI a),some (wI b),none,none,none,none,none];unfold gA;refine aA (λs=>(a≠[]/\b≠[])/\s=[some (wI a),some (wI b),none,none,none,none,none]) (λN r=>?_) ?_
 .fin2;refine⟨af (by simp),SV (y:=[]) λU C=>?_⟩;fin2;by_cases o:a=[]
  .cases vQ C o;rw[Bi rfl];rw[Bi (.inl o)]at l;exact⟨af (by simp),l⟩
  .cases lY C o;rw[BM (by decide)];refine⟨af (by simp),SV (y:=[]) λT B=>?_⟩;fin2;by_cases p:b=[]
   .cases vQ B p;rw[Bi rfl];rw[Bi (.inr p)]at l;exact⟨af (by simp),l⟩
   .cases lY B p;rw[BM (by decide)];exact r _ ⟨⟨o,p⟩,rfl⟩
 rintro _ ⟨⟨o,p⟩,rfl⟩;rw[BM (λz=>z.elim o p)]at l;have X:=KE.mpr o;unfold wI at*;fin2;have M:((a.map W.int).length:Int)+((b.map W.int).length:Int) -1=((a.length+b.length -1:Nat):Int):=by rw[Ap,Ap];lia
 rw[M,D7,gU];refine⟨af (by simp),by lia,by lia,af (by simp;lia),?_⟩;refine aR (λi t=>∃o3 u d c,t=[some (.lst (a.map W.int)),some (.lst (b.map W.int)),some (.lst ((tabI (a.length+b.length -1) (cf a b i)).map W.int)),o3,u,d,c]) ⟨none,none,none,none,?_⟩ ?_ ?_
 .have:tabI (a.length+b.length -1) (cf a b 0)=AW (a.length+b.length -1) 0:=by unfold tabI;have:cf a b 0=λ_=>0:=rfl;rw[this,WX,bj]
  rw[this,NH]
 .rintro i w _ N I ⟨o3,u,d,c,rfl⟩ r;obtain⟨L,rfl⟩:=Ck I;fin2;refine⟨rfl,?_⟩;by_cases z:a.getD i 0=0
  .rw[Fh z];fin2;refine r _ ⟨some (.int i),some (.int (a.getD i 0)),d,c,?_⟩;rw[show cf a b (i+1)=cf a b i from funext λk=>J0 z k]
  .rw[Hb z];fin2;refine aR (λj t=>∃d c,t=[some (.lst (a.map W.int)),some (.lst (b.map W.int)),some (.lst ((tabI (a.length+b.length -1) (xF a b i j)).map W.int)),some (.int i),some (.int (a.getD i 0)),d,c]) ⟨d,c,?_⟩ ?_ ?_
   .rw[show xF a b i 0=cf a b i from funext λk=>xG a b i k]
   .rintro j w _ Y F ⟨d,c,rfl⟩ E;obtain⟨K,rfl⟩:=Ck F;have v:i+j<a.length+b.length -1:=by lia
    fin2;rw[show(i:Int)+(j:Int)=((i+j:Nat):Int) by lia];refine⟨rfl,_,cL (by rw[FC,eX v];rfl),?_⟩;fin2;refine⟨vU (P:=λx=>IntMulOk x (b.getD j 0)) (λx H=>vU (P:=λy=>IntMulOk x y) (J x H) K) L,i+j,jw (by rw[Ap,bC];exact v),E _ ⟨some (.int j),some (.int (b.getD j 0)),?_⟩⟩;have e:=fS (n:=a.length+b.length -1) (f:=xF a b i j) (g:=xF a b i (j+1)) (k:=i+j) v (λq _ l=>by rw[lD,BM l,fo]);rw[lD,Bi rfl]at e;rw[<-e,hU]
   .rintro _ ⟨d,c,rfl⟩;refine r _ ⟨some (.int i),some (.int (a.getD i 0)),d,c,?_⟩;rw[yu,show xF a b i b.length=cf a b (i+1)from funext λk=>xH a b i k]
 .rintro _ ⟨o3,u,d,c,rfl⟩;rw[yu];fin2;exact l
noncomputable def HN:List CS:=[.par [0,1] [(.blt .abs [(.var 0)]),(.blt .abs [(.var 1)])],.Dr (.cmp .Gt (.bits (.var 1)) (.glob 0)) [.par [0,1] [(.var 1),(.bin .Mod (.var 0) (.var 1))],.zO [0,1] (.call 0 [(.call 1 [(.var 0),(.var 1)]),(.var 0),(.var 1)]),.par [0,1] [(.blt .abs [(.var 0)]),(.blt .abs [(.var 1)])]],.Dr (.cmp .NotEq (.var 1) (.int 0)) [.par [0,1] [(.var 1),(.bin .Mod (.var 0) (.var 1))]],.ret (.var 0)]
def Mf:aY:=λc Q _=>∃(a b:Int)(n:Nat),c=[.int a,.int b]/\b.natAbs<2^n/\n<=6000/\Q (.int (Bn a b:Nat))
theorem Xh(p:List W)(Q:W->Prop)(R:Addr->Prop)(h:Mf p Q R):wSs r (ja [.int 6000]) HN (bH m Q R) (ak 2 p):=by
 obtain⟨a,b,n,rfl,v,B,t⟩:=h;show wSs _ _ HN _ [some (.int a),some (.int b)];unfold HN;have A:(if a<0 then-a else a)=(a.natAbs:Int):=by split<;>lia
 have w:(if b<0 then-b else b)=(b.natAbs:Int):=by split<;>lia
 have u:Bn (a.natAbs:Int) (b.natAbs:Int)=Bn a b:=rfl;refine aA (λc=>c=[some (.int (a.natAbs:Int)),some (.int (b.natAbs:Int))]) (λN k=>?_) ?_
 .fin2;rw[A,w];exact⟨rfl,k _ rfl⟩
 rintro _ rfl;have q:Builtin.Int.intBits (b.natAbs:Int)<=n:=bits_le (by rw[D3];exact v);refine aA (λc=>c=[some (.int (a.natAbs:Int)),some (.int (b.natAbs:Int))]) (λN k=>?_) ?_
 .dsimp only[wS];refine nJ (α:=Unit) (λ_=>[some (.int (a.natAbs:Int)),some (.int (b.natAbs:Int))]) (λ_=>True) (λ_=>0) () rfl trivial ?_;rintro _ _;fin2;refine iI (λz=>?_) (λ_=>k _ rfl);have:=Da z;lia
 rintro _ rfl;fin2;refine nJ (α:=Int×Int) (λx=>[some (.int x.1),some (.int x.2)]) (λx=>Bn x.1 x.2=Bn a b/\0<=x.1/\0<=x.2) (λx=>x.2.natAbs) (a.natAbs,b.natAbs) rfl ⟨u,ei _,ei _⟩ ?_;rintro⟨x,y⟩ ⟨i,s,d⟩;dsimp only at i s d;fin2;refine iI (λj=>?_) (λj=>?_)
 .have g:y≠0:=by simpa using j
  have o:=xE x y (x.fdiv y);have l:=Fv x y g;have f:=fm (x:=x) (n:=y) (by clear l o g;lia);rw[<-Num.fmod_eq]at o l;fin2;exact⟨g,rfl,(y,x.fmod y),rfl,⟨o.trans i,d,f.1⟩,l⟩
 .have g:y=0:=by simpa using j
  subst g;fin2;have e:x=((Bn a b:Nat):Int):=by rw[<-i,OC];lia
  rw[e];exact t
end VL
namespace L2
open PySem
theorem uF{r:Nat}:Builtin.Range.rangeSize ((r:Int) -1) (-1) (-1)=(r:Int):=by
 unfold Builtin.Range.rangeSize;rw[BM (by decide)];split
 .show((r:Int) -1 - -1 -1)/1+1=_;lia
 .lia
theorem Ai{r:Nat}(h:r<=1000):Builtin.Range.small ((r:Int) -1) (-1) (-1)=true:=by
 unfold Builtin.Range.small;rw[uF];have f:∀x:Int,-2000<=x->x<=2000->Builtin.Range.rangeFitsLong x=true:=λx b a=>by unfold Builtin.Range.rangeFitsLong;simp;lia
 rw[f _ (by lia) (by lia),f _ (by lia) (by lia),f _ (by lia) (by lia),BM (by decide),f (-1+(-1+1)) (by decide) (by decide)];simp
end L2
namespace VL
open PySem PySem.Spec
open PyProof.Rows hiding St
open L2 Num
theorem SW{a:List Rat}{i:Nat}(h:(a.map wq)[i]?=some w):∃x,a[i]?=some x/\w=wq x:=by
 rw[FC]at h;cases e:a[i]? with
 |none=>rw[e]at h;cases h
 |some x=>rw[e]at h;cases h;exact⟨x,rfl,rfl⟩
structure Clr(rs:List Rat)(ns:List Int)(B:Int):Prop where
 pos:0<B
 eq:ns=rs.map λx=>x.num*(B/x.den)
 dv:∀x∈rs,(x.den:Int)∣B
noncomputable def nM:List CS:=[.set 1 (.int 1),.fr [2] true (.var 0) [.set 3 (.ix (.var 2) (.int 1)),.iff (.cmp .NotEq (.bin .Mod (.var 1) (.var 3)) (.int 0)) [.set 1 (.bin .Mult (.bin .FloorDiv (.var 1) (.call 0 [(.var 1),(.var 3)])) (.var 3))] []],.ret (.tup [(.comp [0] true 1 (.var 0) (.bl true) (.bin .Mult (.ix (.var 0) (.int 0)) (.bin .FloorDiv (.var 2) (.ix (.var 0) (.int 1))))),(.var 1)])]
def rC:aY:=λc Q _=>∃(a:List Rat)(D:Int)(n k:Nat),c=[bG a]/\((∀x∈a,Cd D n x)/\0<D/\D.natAbs<2^k/\k<=6000/\n<=100000/\a.length<=100)/\∀(b:List Int)(B:Int),Clr a b B->B∣D->B.natAbs<2^k->(∀x∈b,x.natAbs<2^n)->Q (.tup [wI b,.int B])
theorem DN(T:List W)(Q:W->Prop)(R:Addr->Prop)(h:rC T Q R):wSs (b7 [Mf]) G nM (bH m Q R) (ak 4 T):=by
 obtain⟨o,D,n,k,rfl,⟨H,hD,hDk,hk,hn,hl⟩,hq⟩:=h;have a:∀y:Int,0<y->y∣D->y.natAbs<2^k:=λy J I=>by have:=lj hD I;lia
 show wSs _ _ nM _ [some (bG o),none,none,none];unfold nM;dsimp only[wSs,wS,wE,look,mx];unfold bG;fin2;refine aR (λi Z=>∃B o2 o3,(0<B/\B∣D/\∀j x,j<i->o[j]?=some x->(x.den:Int)∣B)/\Z=[some (.lst (o.map wq)),some (.int B),o2,o3]) ⟨1,none,none,⟨by decide,l3 _,λj x h=>by lia⟩,rfl⟩ ?_ ?_
 .rintro i w _ N hw ⟨B,o2,o3,⟨d,b,v⟩,rfl⟩ hN;obtain⟨x,c,rfl⟩:=SW hw;have u:=SL c;have X:=(H x u).dvd.1;have q:0<(x.den:Int):=by have:=x.den_pos;lia
  have A:=a _ q X;have Y:=a _ d b;have f:∀r:Int,0<r->r∣D->B∣r->(x.den:Int)∣r->N [some (.lst (o.map wq)),some (.int r),some (wq x),some (.int x.den)]:=λr J I h3 h4=>
   hN _ ⟨r,_,_,⟨J,I,λj z l hz=>by
    by_cases E:j=i
    .subst E;rw[c]at hz;cases hz;exact h4
    .exact Nh (v j z (by lia) hz) h3⟩,rfl⟩
  fin2;refine⟨_,rfl,?_⟩;fin2;refine⟨HJ x,?_⟩;by_cases hz:B.fmod x.den=0
  .rw[Fh hz];fin2;refine f B d b (Th _) (Int.dvd_of_fmod_eq_zero hz)
  .rw[Hb hz];fin2;have hg:((Bn B x.den:Nat):Int)<=x.den:=lj q (Ts ..);have s:0<((Bn B x.den:Nat):Int):=by have:0<Bn B x.den:=tJ _ (by lia);lia
   have t:((Bn B x.den:Nat):Int)∣B:=dA ..;have S:((Bn B x.den:Nat):Int)∣(x.den:Int):=Ts ..;have P:=FD (HJ x) b X;refine⟨B,x.den,k,rfl,A,hk,?_⟩;generalize((Bn B x.den:Nat):Int)=g at*;have lg:g.natAbs<2^k:=by lia
   have C:0<B/g:=ui d (cb s) t;have hqB:B/g<=B:=fh _ (cb d);have p:(B/g).natAbs<2^k:=by lia
   fin2;rw[QQ _ (cb s)];refine⟨⟨by lia,kM lg (by lia)⟩,aF p A (by lia),f _ (rl C q) P ?_ ⟨B/g,dE _ _⟩⟩;obtain⟨j,l⟩:=S;refine⟨j,?_⟩;rw[l,<-X2,sv t]
 .rintro _ ⟨B,o2,o3,⟨d,b,v⟩,rfl⟩;rw[Ap]at v;have L:∀x∈o,(x.den:Int)∣B:=λx c=>by obtain⟨j,l,e⟩:=Ta c;exact v j x l (by rw[<-e];exact DL l)
  have Y:=a _ d b;have U:∀x∈o,(x.num*(B/x.den)).natAbs<2^n:=λx u=>by
   have F:=L x u;have e:=(H x u).dvd;obtain⟨j,l⟩:=b;have e2:D/x.den=B/x.den*j:=by rw[l];exact Int.mul_ediv_assoc' _ F|>λh=>by rw[<-h]
   have j0:j≠0:=λz=>by rw[z,Qb]at l;lia
   refine IH ?_ e.2;rw[e2,<-X2,HI (x.num*(B/x.den)) j];exact Y2 _ (by lia)
  fin2;refine cO (h:=wq) (g:=λx=>.int (x.num*(B/x.den))) o [] _ (λx c K hK=>?_) (af (by simpa using Do hl (by decide))) ?_
  .have q:0<(x.den:Int):=by have:=x.den_pos;lia
   have A:=a _ q (H x c).dvd.1;have M:=U x c;have q0:0<B/x.den:=ui d (cb q) (L x c);have p:(B/x.den).natAbs<2^k:=by have J:=fh (x.den:Int) (cb d);lia
   have O:x.num.natAbs<2^n:=by refine IH ?_ M;rw[HI];exact Y2 _ (by lia)
   refine⟨_,rfl,_,rfl,⟨HJ x,kM A (by lia)⟩,?_⟩;fin2;rw[QQ _ (cb q)];exact⟨aF O p (by lia),hK⟩
  .refine⟨af (by simp),?_⟩;have:=hq _ B ⟨d,rfl,L⟩ b Y (λz hz=>by obtain⟨x,c,rfl⟩:=Pm.mp hz;exact U x c);unfold wI at this;rw[T2]at this;exact this
noncomputable def jy:List CS:=[.set 1 (.int 0),.fr [2] true (.var 0) [.set 1 (.call 0 [(.var 2),(.var 1)]),.iff (.cmp .Eq (.var 1) (.int 1)) [.ret (.tup [(.int 1),(.blt .list [(.var 0)])])] []],.ret (.tup [(.var 1),(.comp [0] true 1 (.var 0) (.bl true) (.bin .FloorDiv (.var 0) (.var 2)))])]
structure Srt(ns:List Int)(c:Int)(ms:List Int):Prop where
 pos:0<c
 dv:∀x∈ns,c∣x
 all:∀d:Int,(∀x∈ns,d∣x)->d∣c
 eq:ms=ns.map (·/c)
def iO:aY:=λd Q _=>∃(a:List Int)(n:Nat),d=[wI a]/\((∃x∈a,x≠0)/\a.length<=500/\n<=6000/\∀x∈a,x.natAbs<2^n)/\∀c b,Srt a c b->c.natAbs<2^n->Q (.tup [.int c,wI b])
theorem yv(s:List W)(Q:W->Prop)(R:Addr->Prop)(h:iO s Q R):wSs (b7 [Mf]) G jy (bH m Q R) (ak 3 s):=by
 obtain⟨a,n,rfl,⟨⟨F,S,H⟩,o,I,J⟩,u⟩:=h;show wSs _ _ jy _ [some (wI a),none,none];unfold jy;dsimp only[wSs,wS,wE,look,mx];unfold wI at*;fin2;refine aR (λi E=>∃(c:Int)(o2:Option W),(0<=c/\(∀j,j<i->j<a.length->c∣a.getD j 0)/\(∀d:Int,(∀x∈a,d∣x)->d∣c)/\c.natAbs<2^n)/\E=[some (.lst (a.map W.int)),some (.int c),o2]) ⟨0,none,⟨by decide,λj h=>by lia,λd _=>xl d,U2 (by decide)⟩,rfl⟩ ?_ ?_
 .rintro i w _ N l ⟨c,o2,⟨r,f,p,k⟩,rfl⟩ L;have y:i<a.length:=by have:=(Gc.mp l).1;simpa using this
  rw[int_at y]at l;cases l;have v:a.getD i 0∈a:=Sub.getD_mem' y;fin2;refine⟨a.getD i 0,c,n,rfl,k,I,?_⟩;have O:((Bn (a.getD i 0) c:Nat):Int)∣a.getD i 0:=dA ..;have C:((Bn (a.getD i 0) c:Nat):Int)∣c:=Ts ..;have B:∀d:Int,(∀x∈a,d∣x)->d∣((Bn (a.getD i 0) c:Nat):Int):=λd h=>fy (h _ v) (p d h);have A:((Bn (a.getD i 0) c:Nat):Int).natAbs<2^n:=by
   rcases ej r with q|q
   .have:=lj q C;lia
   .rw[<-q,OC];have:=J _ v;lia
  have P:0<=((Bn (a.getD i 0) c:Nat):Int):=by lia
  generalize((Bn (a.getD i 0) c:Nat):Int)=g at*;have dv:∀j,j<i+1->j<a.length->g∣a.getD j 0:=λj b o=>by
   by_cases e:j=i
   .subst e;exact O
   .exact Nh C (f j (by lia) o)
  fin2;by_cases e:g=1
  .rw[Fh e];fin2;subst e;have:=u 1 a ⟨by decide,λx _=>l3 x,B,by simp⟩ A;exact⟨af (by simp),this⟩
  .rw[Hb e];fin2;exact L _ ⟨g,_,⟨P,dv,B,A⟩,rfl⟩
 .rintro _ ⟨c,o2,⟨r,f,p,k⟩,rfl⟩;rw[Ap]at f;have dv:∀x∈a,c∣x:=λx t=>by obtain⟨j,b,e⟩:=Ta t;have:=f j b b;rw[AC,DL b]at this;rw[<-e];exact this
  have D:0<c:=by
   rcases ej r with z|z
   .exact z
   .have:=dv F S;rw[<-z,j7]at this;exact absurd this H
  fin2;refine cO (h:=W.int) (g:=λx=>.int (x/c)) a [] _ (λx t K M=>?_) (af (by simpa using Do o (by decide))) ?_
  .fin2;rw[QQ _ (cb D)];exact⟨⟨by lia,kM k (by lia)⟩,M⟩
  .refine⟨af (by simp),?_⟩;have:=u c _ ⟨D,dv,p,rfl⟩ k;rw[T2]at this;exact this
noncomputable def jz:List CS:=[.zO [1,2] (.call 0 [(.var 0)]),.zO [3,1] (.call 1 [(.var 1)]),.ret (.tup [(.var 1),(.var 2),(.var 3)])]
structure Prim(rs:List Rat)(ms:List Int)(B c:Int):Prop where
 bpos:0<B
 cpos:0<c
 len:ms.length=rs.length
 at_:∀i,(ms.getD i 0:Rat)*c=rs.getD i 0*B
 one:∀d:Int,(∀x∈ms,d∣x)->d∣1
def fT:aY:=λd Q _=>∃(a:List Rat)(D:Int)(n k:Nat),d=[bG a]/\((∃x∈a,x≠0)/\(∀x∈a,Cd D n x)/\0<D/\D.natAbs<2^k/\k<=6000/\n<=6000/\a.length<=100)/\∀(b:List Int)(B c:Int),Prim a b B c->B.natAbs<2^k->c.natAbs<2^n->(∀x∈b,x.natAbs<2^n)->Q (.tup [wI b,.int B,.int c])
theorem uG{α:Type}{l:List α}{f:α->Int}{x:α}(h:l[i]?=some x):(l.map f).getD i 0=f x:=by rw[AC,FC,h];rfl
theorem Mg(f:Clr a ns B)(b:Srt ns c ms):Prim a ms B c:=by
 have n:ns.length=a.length:=by rw[f.eq,Ap]
 have m:ms.length=a.length:=by rw[b.eq,Ap,n]
 refine⟨f.pos,b.pos,m,λi=>?_,λd p=>?_⟩
 .by_cases o:i<a.length
  .have j:=DL o;have t:ns.getD i 0=a[i].num*(B/a[i].den):=by rw[f.eq];exact uG j
   have en:ns[i]?=some (ns.getD i 0):=by rw[AC,DL (by lia)];rfl
   have s:ms.getD i 0=ns.getD i 0/c:=by rw[b.eq];exact uG en
   have u:=b.dv _ (SL en);have:ms.getD i 0*c=ns.getD i 0:=by rw[s];exact sv u
   have r:((ms.getD i 0:Int):Rat)*(c:Rat)=((ns.getD i 0:Int):Rat):=by rw[<-this,FM]
   rw[r,t];have q:a.getD i 0=a[i]:=by rw[AC,j];rfl
   rw[q];exact gI (f.dv _ (Yf _))
  .have l:ms.getD i 0=0:=by rw[AC,Fs (by lia)];rfl
   have k:a.getD i 0=0:=by rw[AC,Fs (by lia)];rfl
   rw[l,k];show((0:Int):Rat)*_=0*_;grind
 .have:=b.all (d*c) λx h=>by have e:=p (x/c) (by rw[b.eq];exact Pm.mpr ⟨x,h,rfl⟩);obtain⟨y,g⟩:=e;refine⟨y,?_⟩;rw[<-sv (b.dv x h),g];grind
  obtain⟨y,g⟩:=this;refine⟨y,?_⟩;have v:=b.pos;have:c*1=c*(d*y):=by rw[d5];rw[dE c,X2,dE y c,<-X2];exact g
  exact Qr (by lia) this
theorem yw(g:List W)(Q:W->Prop)(R:Addr->Prop)(h:fT g Q R):wSs (b7 [rC,iO]) G jz (bH m Q R) (ak 4 g):=by
 obtain⟨e,D,n,k,rfl,⟨⟨a,p,q⟩,A,C,f,w,u,v⟩,t⟩:=h;show wSs _ _ jz _ [some (bG e),none,none,none];unfold jz;fin2;refine⟨e,D,n,k,rfl,⟨A,C,f,w,by lia,v⟩,λi B b J H o=>?_⟩;refine⟨rfl,?_⟩;fin2;have I:i.length=e.length:=by rw[b.eq,Ap]
 refine⟨i,n,rfl,⟨⟨a.num*(B/a.den),by rw[b.eq];exact Pm.mpr ⟨a,p,rfl⟩,?_⟩,by lia,u,o⟩,λc r l F=>?_⟩
 .have d:=b.dv a p;have E:0<(a.den:Int):=by have:=a.den_pos;lia
  have:0<B/a.den:=ui b.pos (cb E) d;exact Pi (λz=>q (fi.mp z)) (by lia)
 .refine⟨rfl,?_⟩;fin2;refine⟨af (by simp),t r B c (Mg b l) H F λx j=>?_⟩;rw[l.eq]at j;obtain⟨y,s,rfl⟩:=Pm.mp j;have:=YU y c;have:=o y s;lia
noncomputable def gB:List CS:=[.iff (.cmp .Eq (.var 2) (.int 0)) [.ret (.var 0)] [],.ret (.bin .FloorDiv (.call 0 [(.var 1),(.var 2)]) (.call 0 [(.var 0),(.bin .Sub (.var 2) (.int 1))]))]
def iP:aY:=λb Q _=>∃(h l:Int)(a n:Nat),b=[.int h,.int l,.int a]/\(h.natAbs<2^n/\l.natAbs<2^n/\n*(a+1)<=130000000/\(0<a->h^(a -1)≠0/\(h^(a -1)).natAbs.log2<1000000000))/\Q (.int (Sub.hnext h l a))
theorem sM(c:List W)(Q:W->Prop)(R:Addr->Prop)(h:iP c Q R):wSs (b7 [pK]) G gB (bH m Q R) (ak 3 c):=by
 obtain⟨h,l,a,n,rfl,⟨k,j,d,f⟩,b⟩:=h;show wSs _ _ gB _ [some (.int h),some (.int l),some (.int a)];unfold gB;fin2;by_cases z:(a:Int)=0
 .rw[Fh z];fin2;have e:Sub.hnext h l a=h:=by unfold Sub.hnext;rw[Bi (by lia)]
  rw[e]at b;exact b
 .rw[Hb z];fin2;obtain⟨i,g⟩:=f (by lia);have e:Sub.hnext h l a=(l^a).fdiv (h^(a -1)):=by unfold Sub.hnext;rw[BM (by lia)]
  rw[e]at b;refine⟨l,a,n,rfl,j,d,?_⟩;rw[show(a:Int) -1=((a -1:Nat):Int) by lia];refine⟨h,a -1,n,rfl,k,Do (FV _ (by lia)) d,?_⟩;fin2;exact⟨⟨i,g⟩,b⟩
theorem Aj(h:x<2^n)(a:n<=m):x<2^m:=Fu h (IR (by decide) a)
theorem HP{a b:Int}(d:a.natAbs<n)(c:b.natAbs<n):(a -b).natAbs<2*n:=by have:=f7 a b;lia
theorem aaf(h:p<i):i -p=(i -(p+1))+1:=by lia
theorem iQ{ns:List Int}(h:∀x∈ns,x.natAbs<2^n)(k:Nat):(ns.getD k 0).natAbs<2^n:=by
 by_cases a:k<ns.length
 .rw[AC,DL a];exact h _ (Yf a)
 .rw[outI (by lia)];exact U2 (by decide)
theorem Cm{ns:List Int}(h:0<ns.length):lz (ns.map W.int) (-1)=some (.int (ns.getD (ns.length -1) 0)):=by refine nI ?_;rw[Ki,Ap,int_at (by omega)]
theorem rD(h:k<n):(tabI n f).getD k 0=f k:=by rw[AC,eX h];rfl
theorem Cn(n:Nat)(f:Nat->Int)(k:Nat):(tabI n f).getD k 0=if k<n then f k else 0:=by
 by_cases h:k<n
 .rw[Bi h,rD h]
 .rw[BM h];exact outI (by rw[bC];lia)
theorem rE(h:x∈tabI n f):∃k,k<n/\x=f k:=by unfold tabI at h;obtain⟨k,a,rfl⟩:=Pm.mp h;exact⟨k,u3.mp a,rfl⟩
theorem jA(h:∀k,k<n->f k=g k):tabI n f=tabI n g:=by unfold tabI;exact km λk a=>h k (u3.mp a)
theorem yx(n:Nat)(x:Int):AW n (W.int x)=(tabI n λ_=>x).map W.int:=by unfold tabI;rw[WX,bj,NH]
theorem nN(ns:List Int)(h:ns.length=n):ns=tabI n λk=>ns.getD k 0:=by
 refine hV λj=>?_;by_cases a:j<n
 .rw[eX a,AC,DL (by lia)];rfl
 .rw[Fs (by lia),Fs (by rw[bC];lia)]
theorem Co{r n s:Nat}(h:(gO ((r:Int) -1) (-1) n)[s]?=some w):s<n/\w=.int ((r:Int) -1 -s):=by unfold gO at h;rw[FC]at h;obtain⟨j,e,rfl⟩:=NM.mp h;obtain⟨b,a⟩:=Gc.mp e;rw[eN]at a;rw[bj]at b;refine⟨b,?_⟩;rw[<-a];congr 1;lia
theorem rF(a st:Int)(n:Nat):(gO a st n).length=n:=by unfold gO;simp
theorem uH{r:Nat}(h:r<=1000)(q:Q (gO ((r:Int) -1) (-1) r)):vC [.int ((r:Int) -1),.int (-1),.int (-1)] Q:=
 ⟨r,⟨by decide,by decide,Ai h,uF⟩,q⟩
theorem Cp{R:List Int}(h:0<R.length):∃a x,R=a++[x]:=
 ⟨R.dropLast,R.getLast (λz=>by rw[z]at h;cases h),(sT _).symm⟩
theorem pop_at:((a++[x]).map W.int)[((a++[x]).map W.int).length -1]?=some (.int x):=by simp
theorem HQ:((a++[x]).map W.int).dropLast=a.map W.int:=by simp
noncomputable def eS:List CS:=[.set 2 (.blt .max2 [(.bin .Add (.bin .Sub (.blt .len [(.var 0)]) (.blt .len [(.var 1)])) (.int 1)),(.int 0)]),.set 3 (.ix (.var 1) (.neg (.int 1))),.set 4 (.blt .list [(.var 0)]),.set 5 (.bin .Mult (.lst [(.int 0)]) (.var 2)),.fr [6] true (.j3 [(.bin .Sub (.var 2) (.int 1)),(.neg (.int 1)),(.neg (.int 1))]) [.iE 7 (.pop 4),.put 5 (.var 6) (.var 7),.set 4 (.call 0 [(.var 4),(.var 3)]),.fr [8] true (.j3 [(.bin .Sub (.blt .len [(.var 1)]) (.int 1))]) [.put 4 (.bin .Add (.var 6) (.var 8)) (.bin .Sub (.ix (.var 4) (.bin .Add (.var 6) (.var 8))) (.bin .Mult (.var 7) (.ix (.var 1) (.var 8))))]],.set 9 (.int 1),.fr [6] true (.j3 [(.var 2)]) [.put 5 (.var 6) (.bin .Mult (.ix (.var 5) (.var 6)) (.var 9)),.set 9 (.bin .Mult (.var 9) (.var 3))],.ret (.tup [(.var 5),(.call 1 [(.var 4)]),(.var 9)])]
structure SX(ns ms:List Int)(N M:Nat)(Qs R:List Int):Prop where
 Xi:Qs.length=ns.length+1 -ms.length
 Xj:R.length<ms.length
 eq:∀k,(ms.getD (ms.length -1) 0)^(ns.length+1 -ms.length)*ns.getD k 0=ku (λi=>Qs.getD i 0) (λi=>ms.getD i 0) k+R.getD k 0
 bQ:∀x∈Qs,x.natAbs<2^(N+(ns.length+1 -ms.length)*(M+1))
 bR:∀x∈R,x.natAbs<2^(N+(ns.length+1 -ms.length)*(M+1))
 last:R=[]\/R.getD (R.length -1) 0≠0
def fU:aY:=λd Q _=>∃(b a:List Int)(N M:Nat),d=[wI b,wI a]/\(0<a.length/\b.length<=100/\a.length<=100/\(∀x∈b,x.natAbs<2^N)/\(∀x∈a,x.natAbs<2^M)/\∃K,b.length<K/\N+K*(M+1)<=100000000)/\
 ∀c R:List Int,SX b a N M c R->Q (.tup [wI c,wI R,.int ((a.getD (a.length -1) 0)^(b.length+1 -a.length))])
theorem oK(ws:List W)(Q:W->Prop)(R:Addr->Prop)(h:fU ws Q R):wSs (b7 [iK,lZ]) G eS (bH m Q R) (ak 10 ws):=by
 obtain⟨A,b,N,M,rfl,⟨lm,la,lb,bn,bm,K,hK,hNM⟩,q⟩:=h;show wSs _ _ eS _ [some (wI A),some (wI b),none,none,none,none,none,none,none,none];unfold eS wI;fin2;have eR:(if(0:Int)>((A.map W.int).length:Int) -((b.map W.int).length:Int)+1 then(0:Int)else((A.map W.int).length:Int) -((b.map W.int).length:Int)+1)=((A.length+1 -b.length:Nat):Int):=by rw[Ap,Ap];split<;>lia
 have bL:=iQ bm (b.length -1);have eL:=Cm lm;have c:∀s,s<=A.length+1 -b.length->s*(M+1)<=K*(M+1):=λs r=>SF _ (by lia);rw[eR];have Yv:(b.map W.int).length=b.length:=Ap _;generalize hl:b.getD (b.length -1) 0=l at*;generalize kN:A.length+1 -b.length=a at*;refine⟨_,eL,?_⟩;fin2;rw[D7,gU,yx];refine⟨af (by simp),by lia,by lia,af (by simp;lia),?_⟩;refine uH (by lia) ?_;fin2;refine aR (λs Y=>∃(R:List Int)(r J:Nat->Int)(L v7 E:Option W),(zD A b l s J R/\R.length=A.length -s/\(∀x∈R,x.natAbs<2^(N+s*(M+1)))/\(∀i,i<a->a -s<=i->J i=r i*l^(i -(a -s))/\(r i).natAbs<2^(N+(a -1 -i)*(M+1)))/\(∀i,(i<a -s\/a<=i)->J i=0))/\Y=[some (.lst (A.map W.int)),some (.lst (b.map W.int)),some (.int a),some (.int l),some (.lst (R.map W.int)),some (.lst ((tabI a r).map W.int)),L,v7,E,none]) ⟨A,λ_=>0,λ_=>0,none,none,none,⟨zD.start A b l,by lia,λx hx=>by rw[ZW];exact bn x hx,λi h1 h2=>by lia,λ_ _=>rfl⟩,rfl⟩ ?_ ?_
 .rintro s w _ N1 hw ⟨R,S,J,L,v7,E,⟨dv,Z,bR,H,hz⟩,rfl⟩ eG;obtain⟨r,rfl⟩:=Co hw;have hp:((a:Nat):Int) -1 -(s:Int)=((a -1 -s:Nat):Int):=by lia
  rw[hp];generalize hpp:a -1 -s=p at*;have O:a=p+s+1:=by lia
  obtain⟨d,C⟩:∃d,b.length=d+1:=⟨_,(Yc lm).symm⟩;have hn:A.length=p+d+(s+1):=by lia
  have bs:=c s (QR r);have bs1:=c (s+1) r;clear hpp hp kN;have r2:a -s=p+1:=by rw[O,tq,Nw]
  have r1:a -(s+1)=p:=by rw[O];exact Nw p (s+1)
  have T:p+b.length -1=p+d:=by rw[C];rfl
  have U:R.length=p+b.length:=by rw[Z,hn,C,<-kz,tq,Nw];rfl
  obtain⟨o,x,rfl⟩:=Cp (R:=R) (by rw[U,C];exact i0 _);have X:o.length=p+d:=by rw[KM,C]at U;exact Xq U
  have ex:(o++[x]).getD (p+d) 0=x:=by rw[AC,NA (ip X),X,t4];rfl
  have eg:∀k,k<p+d->(o++[x]).getD k 0=o.getD k 0:=λk B=>by rw[AC,PP (by rw[X];exact B),<-AC]
  have bx:x.natAbs<2^(N+s*(M+1)):=bR x (Mo _ (FR.mpr rfl));have bR0:∀y∈o,y.natAbs<2^(N+s*(M+1)):=λy F=>bR y (fe _ F);fin2;refine⟨_,pop_at,?_⟩;rw[HQ];fin2;refine⟨p,jw (by rw[Ap,bC,O];exact uk (TK _ _)),?_⟩;have et:=fS (n:=a) (f:=S) (g:=λk=>if k=p then x else S k) (k:=p) (by rw[O];exact uk (TK _ _)) (λj _ hj=>BM hj);rw[Bi rfl]at et;rw[<-hU,et];refine⟨o,l,rfl,by lia,λy F=>aF bL (bR0 y F) (by clear et bx ex X U Z T r1 r2;lia),?_⟩;have em:(o.map λy=>l*y)=tabI (p+d) λk=>l*o.getD k 0:=by
   conv=>lhs;rw[nN o X]
   unfold tabI;rw[T2];rfl
  rw[em];unfold wI;fin2;rw[Yv];refine⟨by lia,by lia,?_⟩;rw[show((b.length:Int) -1).toNat=d by rw[C];lia];refine aR (λj Y=>∃(E:Option W),Y=[some (.lst (A.map W.int)),some (.lst (b.map W.int)),some (.int a),some (.int l),some (.lst ((tabI (p+d) λk=>if p<=k/\k<p+j then l*o.getD k 0 -x*b.getD (k -p) 0 else l*o.getD k 0).map W.int)),some (.lst ((tabI a λk=>if k=p then x else S k).map W.int)),some (.int p),some (.int x),E,none]) ⟨E,?_⟩ ?_ ?_
  .rw[jA (n:=p+d) (f:=λk=>if p<=k/\k<p+0 then l*o.getD k 0 -x*b.getD (k -p) 0 else l*o.getD k 0) λk _=>BM (show¬(p<=k/\k<p+0)from λz=>TC _ (Fu z.2 z.1))]
  .rintro j w _ N2 kU ⟨E,rfl⟩ vW;obtain⟨hj,rfl⟩:=fR kU;have ix:p+j<p+d:=e9 hj p;fin2;rw[show(p:Int)+(j:Int)=((p+j:Nat):Int) by lia];refine⟨_,cL (by rw[FC,eX ix];rfl),?_⟩;rw[BM (show¬(p<=p+j/\p+j<p+j)from λz=>TC _ z.2)];refine⟨_,cL (int_at (by rw[C];exact dt hj)),?_⟩;fin2;refine⟨aF bx (iQ bm j) (by clear ix kU hj em et bx ex X U Z T r1 r2;lia),p+j,jw (by rw[Ap,bC];exact ix),vW _ ⟨some (.int j),?_⟩⟩;have e:=fS (n:=p+d) (f:=λk=>if p<=k/\k<p+j then l*o.getD k 0 -x*b.getD (k -p) 0 else l*o.getD k 0) (g:=λk=>if p<=k/\k<p+(j+1)then l*o.getD k 0 -x*b.getD (k -p) 0 else l*o.getD k 0) ix (λk _ B=>by
    by_cases t:p<=k/\k<p+j
    .rw[Bi t,Bi ⟨t.1,dt t.2⟩]
    .rw[BM t,BM λz=>t ⟨z.1,tm (ek z.2) B⟩])
   rw[Bi ⟨TK _ _,RF _⟩,Ya]at e;rw[<-e,hU]
  .rintro _ ⟨E,rfl⟩;rw[rF];refine eG _ ⟨_,λk=>if k=p then x else S k,λi=>l*J i+if i=p then(o++[x]).getD (p+b.length -1) 0 else 0,_,_,_,⟨dv.step lm hl.symm U (R':=tabI (p+d) λk=>if p<=k/\k<p+d then l*o.getD k 0 -x*b.getD (k -p) 0 else l*o.getD k 0) (by rw[bC,T]) (λk B=>?_),by rw[bC,hn,Nw],λy F=>?_,λi h1 h2=>?_,λi h=>?_⟩,rfl⟩
   .rw[T]at B;rw[rD B,T,ex,eg k B];by_cases I:p<=k
    .rw[Bi ⟨I,B⟩,Bi I]
    .rw[BM λz=>I z.1,BM I,xk]
   .obtain⟨k,B,rfl⟩:=rE F;have c1:(l*o.getD k 0).natAbs<2^(M+(N+s*(M+1))):=by rw[HI];exact lt_mul bL (iQ bR0 k)
    have c2:(x*b.getD (k -p) 0).natAbs<2^(M+(N+s*(M+1))):=by rw[HI,bb];exact lt_mul (iQ bm _) bx
    have c3:2^(N+(s+1)*(M+1))=2*2^(M+(N+s*(M+1))):=by rw[vb,cc,show N+(s*(M+1)+(M+1))=(M+(N+s*(M+1)))+1 by lia,Gg];lia
    rw[c3];split
    .exact HP c1 c2
    .exact Fu c1 (oC _ (by decide))
   .show l*J i+(if i=p then _ else 0)=(if i=p then x else S i)*l^(i -(a -(s+1)))/\(if i=p then x else S i).natAbs<_;rw[r1]at h2⊢;rw[r2]at H hz;by_cases P:i=p
    .rw[Bi P,Bi P,hz i (.inl (by rw[P];exact RF p)),T,ex,P,t4,Os];refine⟨by rw[Qb,xi,d5],?_⟩;rw[show a -1 -p=s by rw[O];exact Ya p s];exact bx
    .have pi:=tm h2 (dk P);have hh:=H i h1 pi;rw[BM P,BM P,hh.1,aaf pi,GM];exact⟨by grind,hh.2⟩
   .show l*J i+(if i=p then _ else 0)=0;rw[r1,O]at h;rw[BM (by clear dv H hz bs bs1;lia),hz i (by rw[r2,O];clear dv H hz bs bs1;lia),Qb];rfl
 .rintro _ ⟨R,r,J,L,v7,E,⟨dv,Z,bR,H,hz⟩,rfl⟩;rw[rF]at dv Z bR H hz;have brr:=c a (by lia);fin2;refine⟨by lia,by lia,?_⟩;rw[D7];refine aR (λj Y=>∃(L:Option W),Y=[some (.lst (A.map W.int)),some (.lst (b.map W.int)),some (.int a),some (.int l),some (.lst (R.map W.int)),some (.lst ((tabI a λk=>if k<j then r k*l^k else r k).map W.int)),L,v7,E,some (.int (l^j))]) ⟨L,?_⟩ ?_ ?_
  .rw[Os,jA (n:=a) (f:=λk=>if k<0 then r k*l^k else r k) λk _=>BM (Nat.not_lt_zero k)]
  .rintro j w _ N2 kU ⟨L,rfl⟩ vW;obtain⟨D,rfl⟩:=fR kU;have bh:=(H j D (by lia)).2;have bp:=FE (i:=j) bL;have bp2:(l^j).natAbs<2^(M*j+1):=by
    have:2^(M*j+1)=2*2^(M*j):=by rw[Gg];lia
    have:0<2^(M*j):=U2 (by decide);lia
   have k1:=c (a -1 -j+j) (by lia);rw[vb]at k1;have k2:M*j<=j*(M+1):=by rw[bb];exact FV _ (va M)
   have k4:=c (j+1) D;rw[vb,cc]at k4;fin2;refine⟨_,cL (by rw[FC,eX D];rfl),?_⟩;rw[BM (TC j)];fin2;refine⟨aF bh bp2 (by clear k4;generalize j*(M+1)=u at*;generalize(a -1 -j)*(M+1)=v at*;generalize K*(M+1)=z at*;lia),j,jw (by rw[Ap,bC];exact D),aF bp2 bL (by clear k1;generalize j*(M+1)=u at*;generalize K*(M+1)=z at*;lia),?_⟩;have e:=fS (n:=a) (f:=λk=>if k<j then r k*l^k else r k) (g:=λk=>if k<j+1 then r k*l^k else r k) D (λk _ B=>by
    by_cases t:k<j
    .rw[Bi t,Bi (by lia)]
    .rw[BM t,BM (by lia)])
   rw[Bi (RF j)]at e;rw[<-hU,e];refine vW _ ⟨some (.int j),?_⟩;rw[GM]
  .rintro _ ⟨L,rfl⟩;rw[rF];fin2;refine⟨R,rfl,λts tr=>?_⟩;refine⟨af (by simp),?_⟩;have tl:=xN tr;have eqf:∀i,J i=(tabI a λk=>if k<a then r k*l^k else r k).getD i 0:=λi=>by
    rw[Cn];by_cases hi:i<a
    .rw[Bi hi,Bi hi,(H i hi (by lia)).1,show i -(a -a)=i by lia]
    .rw[BM hi,hz i (by lia)]
   refine q _ ts ⟨?_,by lia,λk=>?_,λy F=>?_,λy F=>?_,tr.last⟩
   .rw[bC,kN]
   .rw[kN,hl,dv k,J8 tr];congr 2;exact funext eqf
   .obtain⟨k,B,rfl⟩:=rE F;rw[Bi B,HI,kN];refine Aj (Ka (H k B (by lia)).2 (FE (i:=k) bL)) ?_;have e:a*(M+1)=(a -1 -k)*(M+1)+(k+1)*(M+1):=by rw[<-vb,show a -1 -k+(k+1)=a by lia]
    have e2:M*k<=(k+1)*(M+1):=by rw[bb];exact Pt (by lia) (by lia)
    lia
   .rw[kN];exact bR y (tr.mem y F)
end VL
namespace L2
open PySem
end L2
namespace VL
open PySem PySem.Spec
open PyProof.Rows hiding St
open L2 Num
theorem HR(a bs:List Int)(i k:Nat):cf a bs (i+1) k=cf a bs i k+a.getD i 0*(if i<=k then bs.getD (k -i) 0 else 0):=by rw[xJ,xJ,sm]
noncomputable def iR:List CS:=[.set 2 (.bin .Add (.bin .Sub (.blt .len [(.var 0)]) (.blt .len [(.var 1)])) (.int 1)),.set 3 (.blt .list [(.var 0)]),.set 4 (.bin .Mult (.lst [(.int 0)]) (.var 2)),.fr [5] true (.j3 [(.bin .Sub (.var 2) (.int 1)),(.neg (.int 1)),(.neg (.int 1))]) [.iE 6 (.bin .FloorDiv (.pop 3) (.ix (.var 1) (.neg (.int 1)))),.put 4 (.var 5) (.var 6),.fr [7] true (.j3 [(.bin .Sub (.blt .len [(.var 1)]) (.int 1))]) [.put 3 (.bin .Add (.var 5) (.var 7)) (.bin .Sub (.ix (.var 3) (.bin .Add (.var 5) (.var 7))) (.bin .Mult (.var 6) (.ix (.var 1) (.var 7))))]],.ret (.var 4)]
def jB:aY:=λc Q _=>∃(b a Z:List Int)(N:Nat),c=[wI b,wI a]/\(0<a.length/\0<Z.length/\b.length<=100/\b.length+1=Z.length+a.length/\(∀k,b.getD k 0=cf Z a Z.length k)/\a.getD (a.length -1) 0≠0/\N<=60000000/\(∀x∈a,x.natAbs<2^N)/\∀x∈Z,x.natAbs<2^N)/\Q (wI Z)
theorem vX(X:List W)(Q:W->Prop)(R:Addr->Prop)(h:jB X Q R):wSs Φ G iR (bH m Q R) (ak 8 X):=by
 obtain⟨r,b,Z,N,rfl,⟨Y,lw,ln,lnm,hW,Xk,hN,bm,bW⟩,q⟩:=h;show wSs _ _ iR _ [some (wI r),some (wI b),none,none,none,none,none,none];unfold iR wI;unfold wI at q;have eL:=Cm Y;have bL:=iQ bm (b.length -1);have Yv:(b.map W.int).length=b.length:=Ap _;fin2;rw[Ap,Yv,show(r.length:Int) -(b.length:Int)+1=((Z.length:Nat):Int) by lia];generalize kN:Z.length=a at*;rw[D7,gU,yx];refine⟨af (by simp),by lia,by lia,af (by simp;lia),?_⟩;refine uH (by lia) ?_;fin2;refine aR (λs I=>∃(R:List Int)(K J y:Option W),(R.length=r.length -s/\(∀k,k<r.length -s->R.getD k 0=cf Z b (a -s) k))/\I=[some (.lst (r.map W.int)),some (.lst (b.map W.int)),some (.int a),some (.lst (R.map W.int)),some (.lst ((tabI a λk=>if a -s<=k then Z.getD k 0 else 0).map W.int)),K,J,y]) ⟨r,none,none,none,⟨rfl,λk _=>by rw[hW k];rfl⟩,?_⟩ ?_ ?_
 .rw[jA (n:=a) (f:=λk=>if a -0<=k then Z.getD k 0 else 0) (g:=λ_=>0) λk u=>(BM (show¬a -0<=k by lia))]
 .rintro s w _ N1 hw ⟨R,K,J,y,⟨lR,P⟩,rfl⟩ eG;obtain⟨hs,rfl⟩:=Co hw;have C:((a:Nat):Int) -1 -(s:Int)=((a -1 -s:Nat):Int):=by lia
  rw[C];generalize M:a -1 -s=p at*;have E:a=p+s+1:=by lia
  obtain⟨d,i⟩:∃d,b.length=d+1:=⟨_,(Yc Y).symm⟩;have O:r.length=p+d+(s+1):=by lia
  clear M C;have A:r.length -s=p+d+1:=by rw[O,xb s 1,<-kz,Nw]
  have T:R.length=p+b.length:=by rw[lR,A,i];rfl
  have U:a -s=p+1:=by rw[E,tq,Nw]
  have B:a -(s+1)=p:=by rw[E];exact Nw p (s+1)
  obtain⟨l,x,rfl⟩:=Cp (R:=R) (by rw[T,i];exact i0 _);have H:l.length=p+d:=by rw[KM,i]at T;exact Xq T
  have ex:(l++[x]).getD (p+d) 0=x:=by rw[AC,NA (ip H),H,t4];rfl
  have eg:∀k,k<p+d->(l++[x]).getD k 0=l.getD k 0:=λk u=>by rw[AC,PP (by rw[H];exact u),<-AC]
  have xv:x=Z.getD p 0*b.getD (b.length -1) 0:=by have:=P (p+d) (by rw[A];exact RF _);rw[ex,U,HR,lE Z b _ p (by rw[i];exact Ee _),Bi (TK _ _),show p+d -p=b.length -1 by rw[i];exact Ya p d,xi]at this;exact this
  have S:=iQ bW p;have hv:x.fdiv (b.getD (b.length -1) 0)=Z.getD p 0:=by rw[xv,mn ⟨Z.getD p 0,dE _ _⟩,Int.mul_ediv_cancel _ Xk]
  fin2;refine⟨_,pop_at,?_⟩;rw[HQ];fin2;refine⟨_,eL,?_⟩;fin2;refine⟨⟨Xk,rj bL (Do hN (by decide))⟩,?_⟩;rw[hv];refine⟨p,jw (by rw[Ap,bC,E];exact uk (TK _ _)),?_⟩;have et:=fS (n:=a) (f:=λk=>if a -s<=k then Z.getD k 0 else 0) (g:=λk=>if a -(s+1)<=k then Z.getD k 0 else 0) (k:=p) (by rw[E];exact uk (TK _ _)) (λj _ F=>by
   rw[U,B];by_cases v:p+1<=j
   .rw[Bi v,Bi (QR v)]
   .rw[BM v,BM λz=>v (tm z (dk F))])
  rw[Bi (ip B)]at et;rw[<-hU,et,Yv];refine⟨by lia,by lia,?_⟩;rw[show((b.length:Int) -1).toNat=d by rw[i];lia];refine aR (λj I=>∃(y:Option W),I=[some (.lst (r.map W.int)),some (.lst (b.map W.int)),some (.int a),some (.lst ((tabI (p+d) λk=>if p<=k/\k<p+j then l.getD k 0 -Z.getD p 0*b.getD (k -p) 0 else l.getD k 0).map W.int)),some (.lst ((tabI a λk=>if a -(s+1)<=k then Z.getD k 0 else 0).map W.int)),some (.int p),some (.int (Z.getD p 0)),y]) ⟨y,?_⟩ ?_ ?_
  .rw[jA (n:=p+d) (f:=λk=>if p<=k/\k<p+0 then l.getD k 0 -Z.getD p 0*b.getD (k -p) 0 else l.getD k 0) λk _=>BM (show¬(p<=k/\k<p+0)from λz=>TC _ (Fu z.2 z.1)),<-nN l H]
  .rintro j w _ N2 kU ⟨y,rfl⟩ vW;obtain⟨F,rfl⟩:=fR kU;have L:p+j<p+d:=e9 F p;fin2;rw[show(p:Int)+(j:Int)=((p+j:Nat):Int) by lia];refine⟨_,cL (by rw[FC,eX L];rfl),?_⟩;rw[BM (show¬(p<=p+j/\p+j<p+j)from λz=>TC _ z.2)];refine⟨_,cL (int_at (by rw[i];exact dt F)),?_⟩;fin2;refine⟨aF S (iQ bm j) (by lia),p+j,jw (by rw[Ap,bC];exact L),vW _ ⟨some (.int j),?_⟩⟩;have e:=fS (n:=p+d) (f:=λk=>if p<=k/\k<p+j then l.getD k 0 -Z.getD p 0*b.getD (k -p) 0 else l.getD k 0) (g:=λk=>if p<=k/\k<p+(j+1)then l.getD k 0 -Z.getD p 0*b.getD (k -p) 0 else l.getD k 0) L (λk _ u=>by
    by_cases o:p<=k/\k<p+j
    .rw[Bi o,Bi ⟨o.1,dt o.2⟩]
    .rw[BM o,BM λz=>o ⟨z.1,tm (ek z.2) u⟩])
   rw[Bi ⟨TK _ _,RF _⟩,Ya]at e;rw[<-e,hU]
  .rintro _ ⟨y,rfl⟩;rw[rF];refine eG _ ⟨_,_,_,_,⟨by rw[bC,O,Nw],λk u=>?_⟩,rfl⟩;rw[O,Nw]at u;have D:=u;rw[rD D,B];have c:=P k (by rw[A];exact dt u);rw[eg k D,U,HR]at c;by_cases t:p<=k
   .rw[Bi ⟨t,u⟩];rw[Bi t]at c;lia
   .rw[BM λz=>t z.1];rw[BM t,Qb,fo]at c;exact c
 .rintro _ ⟨R,K,J,y,⟨lR,P⟩,rfl⟩;rw[rF];fin2;have e:(tabI a λk=>if a -a<=k then Z.getD k 0 else 0)=Z:=by rw[jA (g:=λk=>Z.getD k 0) λk _=>Bi (by lia),<-nN Z kN]
  rw[e];exact q
abbrev Yw:List Str:=["ahead","last","factor_ahead","factor_last","lead","height","sign","scale","known"]
abbrev qW:Md:=.o Yw [.s,.s,.s,.s,.s,.s,.s,.s,.s]
noncomputable def sN(C:Addr)(A B d c:List Int)(a h sg sc b:Int):W:=.obj C Yw [wI A,wI B,wI d,wI c,.int a,.int h,.int sg,.int sc,.int b]
theorem HS{y:Int}(h:y.natAbs<2^n)(a:n<=100000000):y.natAbs.log2<1000000000:=by
 rcases eC y.natAbs with e|e
 .rw[e];decide
 .have:=(Vz (Sz e)).mpr h;exact Fu this (Do a (by decide))
structure ab7(A B fA fB:List Int)(ld h:Int)(N E:Nat):Prop where
 l2:2<=B.length
 Yx:B.length<=A.length
 l15:A.length<=15
 lf:fA.length<=40
 ZC:fB.length<=40
 bA:∀x∈A,x.natAbs<2^N
 bB:∀x∈B,x.natAbs<2^N
 bfA:∀x∈fA,x.natAbs<2^N
 bfB:∀x∈fB,x.natAbs<2^N
 bl:ld.natAbs<2^N
 bh:h.natAbs<2^N
 hN:N<=5000
 hE:E<=12000
 k0:ld*h^(A.length -B.length)≠0
 kE:(ld*h^(A.length -B.length)).natAbs<=2^E
 h0:0<A.length -B.length->h^(A.length -B.length -1)≠0/\(h^(A.length -B.length -1)).natAbs<=2^E
def S5(A B a R:List Int)(c:Int):Prop:=c=B.getD (B.length -1) 0^(A.length -B.length+1)/\a.length=A.length -B.length+1/\(∀k,R.getD k 0=c*A.getD k 0 -cf a B a.length k)/\R.length<B.length/\(R=[]\/R.getD (R.length -1) 0≠0)
theorem yy(h:Nat.blt n m=true):n<m:=Nat.le_of_ble_eq_true h
theorem aah{y:Int}(h:y.natAbs<2^n)(e:Nat):(y^e).natAbs<2^(n*e+1):=by rw[Sub.iA];refine IH (Wp (QR h) e) ?_;rw[<-i3];exact fI (by decide) (RF _)
theorem S6(h:SX A B N M a R)(b:B.length<=A.length):S5 A B a R (B.getD (B.length -1) 0^(A.length+1 -B.length)):=by
 have e:A.length+1 -B.length=A.length -B.length+1:=by lia
 refine⟨by rw[e],by rw[h.Xi,e],λk=>?_,h.Xj,h.last⟩;rw[h.eq k,gh];show _=ku (λi=>a.getD i 0) (λi=>B.getD i 0) k+_ -ku (λi=>a.getD i 0) (λi=>B.getD i 0) k;lia
noncomputable def dJ:List CS:=[.zO [1,2,3] (.call 0 [(.own 0 [.fl 0 "ahead"]),(.own 0 [.fl 1 "last"])]),.iff (.cmp .Eq (.var 2) (.lst [])) [.Du (.bl false)] [],.set 4 (.call 1 [(.call 2 [(.own 0 [.fl 2 "factor_ahead"]),(.var 3)]),(.call 3 [(.var 1),(.own 0 [.fl 3 "factor_last"])])]),.iff (.and [(.cmp .Eq (.bin .Mod (.blt .len [(.own 0 [.fl 0 "ahead"])]) (.int 2)) (.int 0)),(.cmp .Eq (.bin .Mod (.blt .len [(.own 0 [.fl 1 "last"])]) (.int 2)) (.int 0))]) [.Ds 0 6 (.neg (.own 0 [.fl 6 "sign"]))] [],.set 5 (.bin .Sub (.blt .len [(.own 0 [.fl 0 "ahead"])]) (.blt .len [(.own 0 [.fl 1 "last"])])),.set 6 (.bin .Mult (.own 0 [.fl 4 "lead"]) (.call 4 [(.own 0 [.fl 5 "height"]),(.var 5)])),.Ds 0 7 (.var 3),.Ds 0 8 (.var 6),.Ds 0 0 (.own 0 [.fl 1 "last"]),.Ds 0 2 (.own 0 [.fl 3 "factor_last"]),.Ds 0 1 (.comp [0] true 1 (.var 2) (.bl true) (.bin .FloorDiv (.var 0) (.var 7))),.Ds 0 3 (.comp [0] true 1 (.var 4) (.bl true) (.bin .FloorDiv (.var 0) (.var 7))),.Ds 0 4 (.ix (.own 0 [.fl 0 "ahead"]) (.neg (.int 1))),.Ds 0 5 (.call 5 [(.own 0 [.fl 5 "height"]),(.own 0 [.fl 4 "lead"]),(.var 5)]),.Du (.bl true)]
theorem bK(h:x<=2^n):x<2^(n+1):=IH h (fI (by decide) (RF _))
noncomputable def Us(a:List Rat):Nat->Rat:=λi=>a.getD i 0
def DvQ(b p2:Nat)(g a:List Rat):Prop:=∃(s:List Rat)(D:Int),(∀k,a.getD k 0=aH (Us s) (Us g) k)/\D≠0/\D.natAbs<2^b/\∀x∈s,Cd D p2 x
structure adX(p1 p2:Nat)(a b g u v:List Rat):Prop where
 ng:au g
 nu:au u
 nv:au v
 bez:∀k,g.getD k 0=aH (Us u) (Us a) k+aH (Us v) (Us b) k
 da:DvQ p1 p2 g a
 db:DvQ p1 p2 g b
 ne:g≠[]
 one:g.getD (g.length -1) 0=1
def Xl(x:Addr)(H H':Hp):Prop:=∀b o,b≠x->H b=some o->H' b=some o
def HU(C:Addr):Sp:=λg H Q _=>∃(x f:Addr)(e d c:V),g=[.ref x,e,d,c]/\H x=some (.ins C f [])/\∀(b:Addr)(a:Hp),Xl x H a->H b=none->a b=some (.lst [])->a x=some (.ins C f (Yw.zip [e,d,c,.ref b,.int 1,.int 1,.int 1,.int 1,.int 1]))->Q .bV a
def vY(C:Addr):aY:=λa Q _=>∃A B f:List Int,a=[wI A,wI B,wI f]/\Q (sN C A B f [] 1 1 1 1 1)
theorem l6{K:Frag}(i:Int):Rep K A H (.int i) (.int i):=by dsimp only[Rep]
theorem Ob{K:Frag}:∀{n:Nat}{a:List W}{vs:List V},aj K B H a vs->a.length=n->jK K B H (AW n .s) a vs []
 |0,[],vs,r,_=>by
  cases r;show jK K B H [] _ _ _;dsimp only[jK];exact⟨rfl,rfl,rfl⟩
 |n+1,w::a,vs,r,e=>by obtain⟨v,b,rfl,d,c⟩:=r.cons_inv;show jK K B H (.s::AW n .s) _ _ _;dsimp only[jK];refine⟨w,a,v,b,[],[],rfl,rfl,rfl,?_,Ob c (by simpa using e)⟩;dsimp only[Fp];exact⟨rfl,d⟩
 |0,_::_,_,_,e=>by cases e
 |n+1,[],_,_,e=>by cases e
theorem Ak{K:Frag}{C f:Addr}{I:FuncData}{ps:List Str}(Y:zN K C Yw)(M:Mk K C f)(b:Binds K I ps [])(F:b8 P w K G base (je P w) k f I ps (HU C)):
 cu P w K G base (k+1) (.ref C) 3 (nj K 3 qW (vY C)):=by
 refine .mk M b F λvs H Q E hz x m q s S=>?_;obtain⟨A,ws,P,R,l,r,d,⟨a,b',f',e,Z⟩,c,er⟩:=hz;subst e;obtain⟨B,_,rfl,O,r⟩:=r.cons_inv;obtain⟨y,_,rfl,N,r⟩:=r.cons_inv;obtain⟨v,_,rfl,L,r⟩:=r.cons_inv;cases r;refine⟨x,m,B,y,v,rfl,aG,λg J U h e4 ex=>⟨rfl,?_⟩⟩;have i:g≠x:=λe=>by rw[e,aG]at h;cases h
 have t:g≠m:=λe=>by rw[e,ao S,aG]at h;cases h
 have h4:H g=none:=by rw[ao i,ao t]at h;exact h
 have sm:ay H J:=λb o j=>by
  have D:b≠x:=λe=>by rw[e,q]at j;cases j
  have T:b≠m:=λe=>by rw[e,s]at j;cases j
  exact U b o D (by rw[ao D,ao T];exact j)
 have u:∀p o,H p=some o->(A p\/p∈[x])->A p:=λp o e z=>by
  rcases z with z|z
  .exact z
  .rw[FR.mp z,q]at e;cases e
 refine c _ (.ref x) J Z sm ⟨[x],by simp,λp X=>by rw[FR.mp X];exact q,?_⟩;unfold sN;dsimp only[Fp];refine⟨C,m,_,x,[B,y,v,.ref g,.int 1,.int 1,.int 1,.int 1,.int 1],[],rfl,rfl,rfl,ex,rfl,Y,?_⟩;refine Ob (n:=9) ?_ rfl;refine .cons (Rep.mv sm u _ O) (.cons (Rep.mv sm u _ N) (.cons (Rep.mv sm u _ L) (.cons ?_ (.cons (l6 1) (.cons (l6 1) (.cons (l6 1) (.cons (l6 1) (.cons (l6 1) .nil))))))));show Rep _ _ _ (.lst []) _;dsimp only[Rep];refine⟨g,[],rfl,λz=>?_,.inl e4,.nil⟩;rcases z with z|z
 .obtain⟨o,e⟩:=d g z;rw[h4]at e;cases e
 .exact i (FR.mp z)
theorem Mh(ns:List Int)(a b:Option Int):∃ms:List Int,kH (ns.map W.int) a b=ms.map W.int:=by unfold kH;exact⟨_,by rw[<-List.map_drop,<-g5]⟩
end VL
namespace VL
open PySem PySem.Spec
open PyProof.Rows hiding St
open L2
def Yy(P:Program)(w:World)(K:Frag)(a:Str->Option Value)(base:Heap)(k:Nat):List Str->List Md->List aY->Prop
 |x::fn,m::e,S::Ss=>(∃d n c,a x=some d/\cu P w K a base c d n (nj K n m S)/\c<=k/\∀b P R,S b P R->b.length=n)/\Yy P w K a base k fn e Ss
 |[],_,_=>True
 |_,_,_=>False
def Zns(a:Str->Option Value):List Str->Prop
 |[]=>True
 |x::b=>a x=none/\Zns a b
theorem HV:∀{a:List Str},Zns c a->∀x∈a,c x=none
 |y::a,h,x,b=>by
  rcases Hk.mp b with e|b
  .rw[e];exact h.1
  .exact HV h.2 x b
theorem Al{K:Frag}:∀{fn:List Str}{a:List Md}{Ss:List aY},Yy P w K b base k fn a Ss->∀(j:Nat)(x:Str),fn[j]?=some x->∃f n d,b x=some f/\cu P w K b base d f n (nj K n (eO a j) (b7 Ss j))/\d<=k/\∀c P R,b7 Ss j c P R->c.length=n
 |y::fn,m::a,S::Ss,h,0,x,e=>by
  cases e;exact h.1
 |y::fn,m::a,S::Ss,h,j+1,x,e=>Al (fn:=fn) h.2 j x e
 |[],_,_,_,j,x,e=>by cases e
 |_::_,[],_,h,_,_,_=>h.elim
 |_::_,_::_,[],h,_,_,_=>h.elim
theorem tab_of{K:Frag}{fn b:List Str}{c:List Md}{Ss:List aY}(h:Yy P w K a base k fn c Ss)(z:Zns a b):Tab P w K a base fn [] b c [] (b7 Ss) (ja []) k:=
 ⟨λj x e _=>Al h j x e,λ_ _ _ _ h=>(by cases h),λ_ _ e=>(by simp at e),HV z,Af K,λ_ _ _ e=>(by simp at e)⟩
end VL
namespace VL
open PySem PySem.Spec
open PyProof.Rows hiding St
open L2 Num
theorem HW(S:α->Ev)(J:α->Prop)(f:α->Nat)(e:α)(i:a=S e)(h:J e)(g:∀s,J s->wE d G D.ex c (S s) λx=>truth x (Ys S J f (wSs d G b) D s)):wS d G (.Dr c b) D a:=by show KR (λa Q=>wE d G D.ex c a λx=>truth x Q) (wSs d G b) D a;exact nJ S J f e i h g
theorem yz(f:∀Q:W->Prop,Q (.lst l)->wE d G D.ex e c Q)(h:iG (λw g a=>wSs d G b g (a.set i (some w))) D l c):wS d G (.fr [i] true e b) D c:=f _ h
def Am:aY:=λa Q _=>∃(t b:Int)(n:Nat),a=[.int t,.int b]/\n<=999999999/\b≠0/\b.natAbs<2^n/\Q (wq (B1 t b))
theorem Xm(i:List W)(Q:W->Prop)(R:Addr->Prop)(h:Am i Q R):wSs (b7 [Cj]) G rA (bH m Q R) (ak 3 i):=by
 obtain⟨t,b,n,rfl,j,p,f,c⟩:=h;show wSs _ _ rA _ [some (.int t),some (.int b),none];unfold rA;fin2;refine⟨t,b,rfl,?_⟩;obtain⟨a,l,k⟩:=Fw t b p;have o:((Bn t b:Nat):Int).natAbs<2^n:=by have:((Bn t b:Nat):Int)<=b.natAbs:=lj (by clear k l a f;lia) (by rw[g8];exact Ts ..);omega
 unfold wq at c;generalize((Bn t b:Nat):Int)=g at*;rw[l,k]at c;by_cases e:b<0
 .rw[Bi e]at a c;rw[Bi (Fh e)];fin2;rw[xf];have d:=rj (y:= -g) (by omega) j;exact⟨⟨a,d⟩,⟨a,d⟩,af (by simp),c⟩
 .rw[BM e]at a c;rw[BM (by rw[Kb];exact e)];have d:=rj (y:=g) o j;exact⟨⟨a,d⟩,⟨a,d⟩,af (by simp),c⟩
def Wl(a b:Int):Prop:=(a=0/\0<=b)\/(a=1/\0<=b/\b<1000000000)
noncomputable def wW(a b:Int):W:=.lst [.int a,.int b]
noncomputable def An:List CS:=[.set 2 (.int 0),.fr [3] true (.sl (.var 0) (.var 1) (.bin .Add (.var 1) (.int 1))) [.set 2 (.var 3)],.iff (.or [(.cmp .Lt (.var 2) (.int 0)),(.cmp .GtE (.var 2) (.bin .Pow (.int 10) (.int 18)))]) [.ret (.lst [(.int 0),(.blt .abs [(.var 2)])])] [],.ret (.lst [(.int 1),(.bin .Add (.bin .Mod (.bin .Add (.bin .Mod (.var 2) (.int 998244341)) (.bin .Mult (.int 7919) (.var 1))) (.int 998244353)) (.int 3))])]
def HX:aY:=λc Q _=>∃(d:List Int)(k:Nat),c=[.jX d,.int k]/\k<=100/\∀a b,Wl a b->Q (wW a b)
theorem S7(p:List W)(Q:W->Prop)(R:Addr->Prop)(h:HX p Q R):wSs l G An (bH m Q R) (ak 4 p):=by
 obtain⟨b,k,rfl,r,d⟩:=h;show wSs _ _ An _ [some (.jX b),some (.int k),none,none];unfold An;refine aA (λa=>a=[some (.jX b),some (.int k),some (.int 0),none]) (λN g=>?_) ?_
 .fin2;exact g _ rfl
 rintro _ rfl;refine aA (λa=>∃(c:Int)(o:Option W),a=[some (.jX b),some (.int k),some (.int c),o]) (λN g=>?_) ?_
 .fin2;obtain⟨u,e⟩:=Mh b (some (k:Int)) (some ((k:Int)+1));rw[e];refine aR (λi s=>∃(c:Int)(o:Option W),s=[some (.jX b),some (.int k),some (.int c),o]) ⟨0,none,rfl⟩ ?_ ?_
  .rintro i w _ v q ⟨c,o,rfl⟩ t;rw[FC]at q;obtain⟨z,_,rfl⟩:=NM.mp q;fin2;exact t _ ⟨z,_,rfl⟩
  .rintro _ ⟨c,o,rfl⟩;exact g _ ⟨c,o,rfl⟩
 rintro _ ⟨c,o,rfl⟩;have j:wS l G (.ret (.lst [(.int 1),(.bin .Add (.bin .Mod (.bin .Add (.bin .Mod (.var 2) (.int 998244341)) (.bin .Mult (.int 7919) (.var 1))) (.int 998244353)) (.int 3))])) (bH m Q R) [some (.jX b),some (.int k),some (.int c),o]:=by fin2;have f:=fm (x:=c.fmod 998244341+7919*(k:Int)) (n:=998244353) (by decide);refine⟨by decide,aF (n:=13) (m:=7) (by decide) (by lia) (by decide),by decide,af (by simp),d _ _ (.inr ⟨rfl,by clear f r;lia,by clear f r;lia⟩)⟩
 fin2;by_cases h:c<0
 .rw[Bi (Fh h)];exact⟨af (by simp),d _ _ (.inl ⟨rfl,by split<;>lia⟩)⟩
 .rw[BM (by rw[Kb];exact h)];refine⟨ie (by decide) (by decide) (by decide),?_⟩;split
  .exact⟨af (by simp),d _ _ (.inl ⟨rfl,by first|lia|(split<;>lia)⟩)⟩
  .exact j
noncomputable def rG:List CS:=[.iff (.cmp .Eq (.ix (.var 0) (.int 0)) (.int 0)) [.set 2 (.bin .Mod (.ix (.var 0) (.int 1)) (.var 1)),.put 0 (.int 1) (.bin .FloorDiv (.ix (.var 0) (.int 1)) (.var 1)),.Du (.var 2)] [],.fr [3] true (.j3 [(.int 2)]) [.zO [4,5] (.blt .Uh [(.ix (.var 0) (.int 1)),(.int 4099)]),.put 0 (.int 1) (.bin .Mod (.bin .Add (.bin .Add (.bin .Mult (.var 5) (.int 240007)) (.bin .Mult (.var 4) (.int 89))) (.int 1201)) (.int 998244353))],.Du (.bin .Mod (.bin .FloorDiv (.ix (.var 0) (.int 1)) (.int 5)) (.var 1))]
def jC:aY:=λe Q _=>∃(a b n:Int),e=[wW a b,.int n]/\Wl a b/\0<n/\n<2^30/\∀x d c,0<=x->x<n->Wl d c->Q (.tup [.int x,wW d c])
theorem aaj{x y:W}:lz [x,y] 0=some x:=rfl
theorem Mi{x y:W}:lz [x,y] 1=some y:=rfl
theorem Mj{b n:Int}(h:0<=b)(a:0<n):0<=b.fdiv n:=by rw[QQ _ (by lia)];exact fx h (by lia)
theorem S8(q:List W)(Q:W->Prop)(R:Addr->Prop)(h:jC q Q R):wSs u G rG (bH (.io m) Q R) (ak 6 q):=by
 obtain⟨a,b,n,rfl,p,k,v,l⟩:=h;show wSs _ _ rG _ [some (wW a b),some (.int n),none,none,none,none];unfold rG;have r:n.natAbs.log2<1000000000:=kM (n:=31) (by lia) (by decide);refine aA (λd=>(a=1/\0<=b/\b<1000000000)/\d=[some (wW a b),some (.int n),none,none,none,none]) (λN o=>?_) ?_
 .unfold wW at o l⊢;fin2;refine⟨_,aaj,?_⟩;fin2;rcases p with⟨rfl,c⟩|⟨rfl,c,j⟩
  .rw[Bi (Fh rfl)];have f:=fm (x:=b) (n:=n) k;refine⟨_,Mi,by lia,?_⟩;refine⟨_,Mi,⟨by lia,r⟩,1,rfl,?_⟩;exact l _ _ _ f.1 f.2 (.inl ⟨rfl,Mj c k⟩)
  .rw[BM (by decide)];exact o _ ⟨⟨rfl,c,j⟩,rfl⟩
 rintro _ ⟨⟨rfl,c,j⟩,rfl⟩;refine aA (λd=>∃(b:Int)(o3 g e:Option W),(0<=b/\b<1000000000)/\d=[some (wW 1 b),some (.int n),none,o3,g,e]) (λN o=>?_) ?_
 .fin2;refine⟨by decide,by decide,?_⟩;refine aR (λi t=>∃(b:Int)(o3 g e:Option W),(0<=b/\b<1000000000)/\t=[some (wW 1 b),some (.int n),none,o3,g,e]) ⟨b,none,none,none,⟨c,j⟩,rfl⟩ ?_ ?_
  .rintro i w _ D p ⟨b,o3,g,e,⟨c,j⟩,rfl⟩ s;unfold wW at s⊢;fin2;refine⟨_,Mi,?_⟩;rw[Xd];refine⟨⟨by decide,by decide⟩,rfl,?_⟩;fin2;have z:=XG b (show(4099:Int)≠0 by decide);have y:=ub b (show(0:Int)<4099 by decide);have C:0<=b/4099:=fx c (by decide);have B:b/4099<=b:=by lia
   have f:=fm (x:=b%4099*240007+b/4099*89+1201) (n:=998244353) (by decide);refine⟨aF (n:=31) (m:=31) (by lia) (by decide) (by decide),aF (n:=31) (m:=31) (by lia) (by decide) (by decide),by decide,1,rfl,s _ ⟨_,_,_,_,⟨f.1,by clear f B C y z j c p r v k;lia⟩,rfl⟩⟩
  .rintro _ ⟨b,o3,g,e,A,rfl⟩;exact o _ ⟨b,o3,g,e,A,rfl⟩
 rintro _ ⟨b,o3,g,e,⟨c,j⟩,rfl⟩;unfold wW at l⊢;fin2;have f:=fm (x:=b.fdiv 5) (n:=n) k;refine⟨_,Mi,⟨by decide,kM (n:=3) (by decide) (by decide)⟩,by lia,?_⟩;exact l _ _ _ f.1 f.2 (.inr ⟨rfl,c,j⟩)
noncomputable def bt(X:Nat):Nat->Nat
 |0=>X
 |s+1=>2*bt X s+2*X+2
end VL
namespace Num
open Sub VL
end Num
namespace VL
open PySem PySem.Spec
open PyProof.Rows hiding St
open L2 Num
theorem HY{α:Type}(f:α->W)(d:α)(l:List α):gj (l.map f)=(C0 l.length).map λi:Nat=>W.tup [.int i,f (l.getD i d)]:=by
 unfold gj;refine hV λi=>?_;rw[ae,FC,FC,Ap];by_cases h:i<l.length
 .have e:l.getD i d=l[i]:=by rw[AC,DL h];rfl
  rw[cm h,DL h];show some (W.tup [W.int i,f l[i]])=some (W.tup [W.int i,f (l.getD i d)]);rw[e]
 .rw[Fs (show(C0 l.length).length<=i by simpa using h)];rfl
theorem Xn(l:List W):kH l (some 1) none=l.drop 1:=by
 unfold kH;rw[HT.xo,show(1:Int)=((1:Nat):Int)from rfl,HT.AU];cases l with
 |nil=>rfl
 |cons x l=>rw[show min 1 (x::l).length=1 by simp];exact Yu (by simp)
theorem Ao(n:Nat)(g:Nat->W):((C0 n).map g).drop 1=(C0 (n -1)).map λi=>g (i+1):=by
 cases n with
 |zero=>rfl
 |succ n=>rw[xc];simp
noncomputable def gC:List CS:=[.ret (.sl (.comp [0,1] false 2 (.uu (.var 0)) (.bl true) (.bin .Mult (.var 0) (.var 1))) (.int 1) .bV)]
def eY:aY:=λb Q _=>∃(a:List Int)(n:Nat),b=[wI a]/\a.length<=100/\(∀x∈a,x.natAbs<2^n)/\n<=100000000/\Q (wI (eE a))
theorem sO(c:List W)(Q:W->Prop)(R:Addr->Prop)(h:eY c Q R):wSs e G gC (bH m Q R) (ak 1 c):=by
 obtain⟨a,n,rfl,l,f,k,b⟩:=h;show wSs _ _ gC _ [some (wI a)];unfold gC wI;fin2;rw[HY W.int 0 a];refine cO (h:=λi:Nat=>W.tup [.int i,W.int (a.getD i 0)]) (g:=λi:Nat=>W.int ((i:Int)*a.getD i 0)) _ [] _ (λi d K j=>?_) (af (by simp;lia)) ?_
 .have d:=u3.mp d;fin2;exact⟨rfl,aF (n:=7) (m:=n) (by lia) (iQ f i) (by lia),j⟩
 .rw[Cv,Xn,Ao];unfold wI eE at b;rw[T2]at b;exact b
theorem Xo(J:Nat->Ev->Prop)(f:Nat)(j:J f d)(i:∀m d,J m d->wP e G D.ex c d λx h=>truth x λk=>if k=true then∃N:Ev->Prop,(∀a,N a->∃g,g<m/\J g a)/\wSs e G b {nx:=N,rt:=D.rt,bk:=D.nx,ct:=N,ex:=D.ex} h else D.nx h):wS e G (.Uj c b) D d:=⟨J,⟨f,j⟩,i⟩
structure HZ(A B:List Int)(ld h:Int)(N E:Nat):Prop where
 l2:2<=B.length
 Yx:B.length<=A.length
 Xp:A.length<=30
 bA:∀x∈A,x.natAbs<2^N
 bB:∀x∈B,x.natAbs<2^N
 bl:ld.natAbs<2^N
 bh:h.natAbs<2^N
 hN:(A.length+1)*(N+1)<=85000000
 vW:N<=10000000
 hE:E<=90000000
 k0:ld*h^(A.length -B.length)≠0
 kE:(ld*h^(A.length -B.length)).natAbs<=2^E
 h0:0<A.length -B.length->h^(A.length -B.length -1)≠0/\(h^(A.length -B.length -1)).natAbs<=2^E
def l7(C:Addr):aY:=λe Q _=>∃(A B:List Int)(a h sg sc d:Int)(N E:Nat),e=[sN C A B [] [] a h sg sc d]/\HZ A B a h N E/\
 (∀(b:List Int)(c:Int),S5 A B b [] c->Q (.tup [.bl false,sN C A B [] [] a h sg sc d]))/\
 (∀(b R:List Int)(c f:Int),R≠[]->S5 A B b R c->Q (.tup [.bl true,sN C B (R.map λy=>y.fdiv (a*h^(A.length -B.length))) [] [] (B.getD (B.length -1) 0) (Sub.hnext h (B.getD (B.length -1) 0) (A.length -B.length)) f c (a*h^(A.length -B.length))]))
theorem Ia(w:List W)(Q:W->Prop)(R:Addr->Prop)(h:l7 C w Q R):wSs (b7 [fU,iM,iK,iN,pK,iP]) G dJ (bH m Q R) (ak 7 w):=by
 obtain⟨A,B,f,h,sg,sc,l,N,E,rfl,⟨l2,Yx,Xp,bA,U,bl,t,q,Y,hE,J,kE,O⟩,D,x⟩:=h;show wSs _ _ dJ _ [some (sN C A B [] [] f h sg sc l),none,none,none,none,none,none];have lB:=iQ U (B.length -1);have s:=Cm (ns:=B) (by lia);unfold dJ;have I:(A.length+1 -B.length)*(N+1)<=85000000:=Do (SF _ (x5 _ _)) q;have p:N*(A.length+1 -B.length)<=85000000:=by rw[bb];exact Do (FV _ (va N)) I
 refine aA (λa=>∃d e,SX A B N N d e/\a=[some (sN C A B [] [] f h sg sc l),some (wI d),some (wI e),some (.int (B.getD (B.length -1) 0^(A.length+1 -B.length))),none,none,none]) (λv b=>?_) ?_
 .unfold sN at b⊢;fin2;exact⟨A,B,N,N,rfl,⟨by lia,by lia,by lia,bA,U,A.length+1,RF _,Do (yA Y q) (by decide)⟩,λd R dv=>⟨rfl,b _ ⟨d,R,dv,rfl⟩⟩⟩
 rintro _ ⟨d,e,dv,rfl⟩;have T:=S6 dv Yx;have lQ:=dv.Xi;have lR:=dv.Xj;generalize hc:B.getD (B.length -1) 0^(A.length+1 -B.length)=c at*;refine aA (λa=>e≠[]/\a=[some (sN C A B [] [] f h sg sc l),some (wI d),some (wI e),some (.int c),none,none,none]) (λv b=>?_) ?_
 .fin2;refine⟨af (by simp),SV (y:=[]) λk L=>?_⟩;fin2;by_cases i:e=[]
  .cases vQ L i;fin2;subst i;exact D d c T
  .cases lY L i;fin2;exact b _ ⟨i,rfl⟩
 rintro _ ⟨i,rfl⟩;refine aA (λa=>a=[some (sN C A B [] [] f h sg sc l),some (wI d),some (wI e),some (.int c),some (wI []),none,none]) (λv b=>?_) ?_
 .unfold sN at b⊢;fin2;refine⟨[],c,rfl,by decide,by simp,?_⟩;refine⟨d,[],rfl,by lia,by decide,by simp,?_⟩;rw[Bi (.inr rfl)];refine⟨_,[],0,rfl,by simp,by decide,by decide,by simp,λF Z=>?_⟩;have lF:=xN Z;have:F=[]:=PH.mp (vT.mp lF);subst this;exact b _ rfl
 rintro _ rfl;refine aA (λa=>∃u,a=[some (sN C A B [] [] f h u sc l),some (wI d),some (wI e),some (.int c),some (wI []),none,none]) (λv b=>?_) ?_
 .have y:=b _ ⟨sg,rfl⟩;have z:=b _ ⟨-sg,rfl⟩;clear b;unfold sN wI at y z⊢;fin2;refine⟨by decide,?_⟩;by_cases S:((A.map W.int).length:Int).fmod 2=0
  .rw[Bi (Fh S)];refine⟨by decide,?_⟩;by_cases P:((B.map W.int).length:Int).fmod 2=0
   .rw[Bi (Fh P)];exact⟨by simp,z⟩
   .rw[BM (by rw[Kb];exact P)];exact y
  .rw[BM (by rw[Kb];exact S)];exact y
 rintro _ ⟨u,rfl⟩;have o:=x d e c u i T;have X:(f*h^(A.length -B.length)).natAbs.log2<1000000000:=HS (n:=E+1) (IH kE (fI (by decide) (RF _))) (by lia);have H:N*(A.length -B.length+1)<=85000000:=Do (FV _ (by lia)) p;have m4:N*(A.length -B.length)<=85000000:=Do (FV _ (by lia)) p;clear D x p I q;unfold sN wI at o⊢;fin2;rw[Ap,Ap,show(A.length:Int) -(B.length:Int)=((A.length -B.length:Nat):Int) by lia];generalize Ei:A.length -B.length=j at*;refine⟨h,j,N,rfl,t,Do H (by decide),?_⟩;fin2;refine⟨aF bl (aah t j) (by lia),yy rfl,yy rfl,yy rfl,yy rfl,?_⟩;refine cO (h:=W.int) (g:=λy=>.int (y.fdiv (f*h^j))) e [] _ (λy hy K r=>⟨⟨J,X⟩,r⟩) (af (by simp;lia)) ⟨yy rfl,?_⟩;refine cO (h:=W.int) (g:=λy=>.int (y.fdiv (f*h^j))) [] [] _ (λy hy K r=>⟨⟨J,X⟩,r⟩) (af (by simp)) ⟨yy rfl,_,s,yy rfl,?_⟩;refine⟨h,B.getD (B.length -1) 0,j,N,rfl,⟨t,lB,Do H (by decide),λM=>⟨(O M).1,HS (n:=E+1) (IH (O M).2 (fI (by decide) (RF _))) (by lia)⟩⟩,yy rfl,?_⟩;rw[T2]at o;exact o
abbrev i7(ns:List Int)(w:Nat):Nat:=w*(ns.length -1+((eE ns).length -1)+1)
structure Ut(ns:List Int)(w E:Nat):Prop where
 X:Sub.FX ns (eE ns) [] [] w E
 hL:(ns.length+1)*(i7 ns w+2)<=85000000
 Yz:i7 ns w+1<=10000000
 hE:w*E<=90000000
 Xp:ns.length<=30
 l2:2<=ns.length
 nz:ns.getD (ns.length -1) 0≠0
theorem S9(P:Ut ns w E)(S:Sm ns (eE ns) w E 26 A B d h α f a b)(e:2<=B.length):HZ A B d h (i7 ns w+1) (w*E):=by have C:=S.C;have Eh:=C.Eh;have lp:=C.lp;have:=P.Xp;obtain⟨i,g,j⟩:=C.size P.X e;obtain⟨l,k,_,_⟩:=C.bd;exact⟨e,Eh,by lia,λx c=>bK (l x c),λx c=>bK (k x c),bK C.bl,bK (Do C.bh (IR (by decide) (FV _ (Td (x5 _ _))))),Do (SF _ (by lia)) P.hL,P.Yz,P.hE,i,g,j⟩
theorem Ut.sm(P:Ut ns w E):Sm ns (eE ns) w E 26 ns (eE ns) 1 1 1 1 (qI ns) (bX (qI ns)):=by
 refine Sm.start P.X P.l2 P.nz (λk=>by rw[cT,Xt]) (cC ns) (λx a=>?_) (by decide) ⟨by decide,by decide⟩;rw[Ki,cC]at a;have e:cQ (qI ns) (ns.length -1)=x:=by show(qI ns).getD _ 0=x;rw[AC,a];rfl
 rw[cT]at e;rw[<-e];exact λz=>P.nz (Iy.mp z)
noncomputable def rH:List CS:=[.par [1,2] [(.var 2),(.ite (.cmp .Eq (.cmp .Gt (.own 4 [.fl 8 "known"]) (.int 0)) (.cmp .Gt (.own 4 [.fl 7 "scale"]) (.int 0))) (.neg (.var 1)) (.var 1))],.app 3 (.call 3 [(.own 4 [.fl 1 "last"]),(.var 2)])]
noncomputable def gW:List CS:=[.zO [1,2] (.tup [(.int 1),(.int 1)]),.set 3 (.lst [(.blt .list [(.var 0)]),(.call 0 [(.var 0)])]),.set 4 (.call 1 [(.ix (.var 3) (.int 0)),(.ix (.var 3) (.int 1)),(.lst [])]),.Uj (.and [(.cmp .Gt (.blt .len [(.own 4 [.fl 1 "last"])]) (.int 1)),(.Em 4 0 2 [])]) rH,.ret (.var 3)]
def yC(n m:Nat)(L:List (List Int)):Prop:=L.length<=40/\∀A∈L,A.length<=n/\∀x∈A,x.natAbs<=2^m
theorem yC.app(h:yC n m L)(b:L.length<40)(d:A.length<=n)(c:∀x∈A,x.natAbs<=2^m):yC n m (L++[A]):=
 ⟨by rw[KM];exact b,λB a=>(Re.mp a).elim (h.2 B) λa=>by rw[FR.mp a];exact⟨d,c⟩⟩
def l9:aY:=λb Q _=>∃(a:List Int)(w E:Nat),b=[wI a]/\Ut a w E/\∀L l,wX (qI a) (bX (qI a)) l->Pz L (qI a::bX (qI a)::l)->yC a.length (i7 a w) L->Q (.lst (L.map wI))
theorem Xr(h:Q (.bl (decide (a=b)))):dS .Eq (.bl a) (.bl b) Q:=h
theorem Xs(h:Q (.bl (!decide (a=b)))):dS .NotEq (.bl a) (.bl b) Q:=h
theorem Jg.one(h:Jg a α):a.natAbs=1:=by rcases h with⟨rfl,_⟩|⟨rfl,_⟩<;>rfl
theorem DO(ws:List W)(Q:W->Prop)(R:Addr->Prop)(h:l9 ws Q R):wSs (b7 [eY,vY C,l7 C,iK]) (ja [.cls C]) gW (bH m Q R) (ak 5 ws):=by
 obtain⟨c,w,E,rfl,P,hq⟩:=h;show wSs _ _ gW _ [some (wI c),none,none,none,none];unfold gW;have l2:=P.l2;have Xp:=P.Xp;have Yz:=P.Yz;have s:=P.sm;have YA:=s.C.bd.1;have bsl:=s.C.bd.2.1;have lsl:=fG c;refine aA (λf=>f=[some (wI c),some (.int 1),some (.int 1),none,none]) (λN g=>?_) ?_
 .fin2;exact⟨af (by simp),rfl,g _ rfl⟩
 rintro _ rfl;refine aA (λf=>f=[some (wI c),some (.int 1),some (.int 1),some (.lst ([c,eE c].map wI)),none]) (λN g=>?_) ?_
 .have g:=g _ rfl;unfold wI at g⊢;fin2;refine⟨c,i7 c w+1,rfl,by lia,λx J=>bK (YA x J),by lia,af (by simp),g⟩
 rintro _ rfl;refine aA (λf=>f=[some (wI c),some (.int 1),some (.int 1),some (.lst ([c,eE c].map wI)),some (sN C c (eE c) [] [] 1 1 1 1 1)]) (λN g=>?_) ?_
 .fin2;refine⟨_,rfl,_,rfl,af (by simp),c,eE c,[],rfl,g _ rfl⟩
 rintro _ rfl;refine aA (λf=>∃(L:List (List Int))(d:List (List Rat))(o1 o2 o4:Option W),(wX (qI c) (bX (qI c)) d/\Pz L (qI c::bX (qI c)::d)/\yC c.length (i7 c w) L)/\f=[some (wI c),o1,o2,some (.lst (L.map wI)),o4]) (λN g=>?_) ?_
 .refine Xo (λm ε=>∃(L:List (List Int))(d:List (List Rat))(A B:List Int)(G h sg sc kn D t:Int)(v O:Rat)(a b:List Rat),(Sm c (eE c) w E 26 A B G h v O a b/\Jg D v/\Jg t O/\Pz L (qI c::bX (qI c)::d)/\yC c.length (i7 c w) L/\L.length+B.length<=38/\∀l,wX a b l->wX (qI c) (bX (qI c)) (d++l))/\m=B.length/\ε=[some (wI c),some (.int D),some (.int t),some (.lst (L.map wI)),some (sN C A B [] [] G h sg sc kn)]) _ ⟨[c,eE c],[],c,eE c,1,1,1,1,1,1,1,1,1,qI c,bX (qI c),⟨s,.inl ⟨rfl,by decide⟩,.inl ⟨rfl,by decide⟩,⟨⟨1,by decide,s.la,s.ea⟩,⟨1,by decide,s.lb,s.eb⟩,trivial⟩,⟨by show 2<=40;decide,λA hA=>?_⟩,by show 2+_<=38;lia,λl h=>h⟩,rfl,rfl⟩ ?_
  .rcases Hk.mp hA with rfl|hA
   .exact⟨Ee _,YA⟩
   .rw[FR.mp hA];exact⟨by lia,bsl⟩
  rintro m _ ⟨L,d,A,B,G,h,sg,sc,kn,D,t,v,O,a,b,⟨S,sa,sb,F,bd,lL,p⟩,rfl,rfl⟩;have k:qo a b []->wX (qI c) (bX (qI c)) d:=λTc=>by have q:=p [] (.nil Tc);rw[eM]at q;exact q
  unfold sN wI;fin2;rw[Ap];by_cases hl:1<B.length;rotate_left
  .rw[BM (by rw[Kb];lia)];have lq:=S.C.lq;have l1:b.length=1:=by rw[S.lb];lia
   obtain⟨x,rfl⟩:=oI.mp l1;exact g _ ⟨L,d,_,_,_,⟨k (qo.one (S.zb x rfl)),F,bd⟩,rfl⟩
  rw[Bi (Fh (by lia))];refine⟨rfl,A,B,G,h,sg,sc,kn,_,_,rfl,S9 P S hl,λQs i dv=>?_,λQs R i Oc hR dv=>?_⟩
  .obtain⟨U,Ub,Y,H,T⟩:=dv;have Z:i≠0:=by rw[U];exact Sub.dH S.C.ch.De _
   refine⟨_,_,rfl,?_⟩;exact g _ ⟨L,d,_,_,_,⟨k (S.rem Z Y H T),F,bd⟩,rfl⟩
  .obtain⟨U,Ub,Y,H,T⟩:=dv;have Z:i≠0:=by rw[U];exact Sub.dH S.C.ch.De _
   obtain⟨en,S'⟩:=S.next P.X hl U Ub Y H T hR;have Tc:=S.rem Z Y H T;have aak:(R.map λy:Int=>v/i*(y:Rat))≠[]:=λz=>hR (L1.mp z);have k0:=(S.C.size P.X hl).1;have M:=S'.C.bd.2.1;have FP:=S.C.FP;refine⟨_,_,rfl,?_⟩;rw[uL,Bi rfl];generalize hκ:G*h^(A.length -B.length)=u at*;have sn:=sa.next k0 Z;generalize hβ: -(v*B1 u i)=β' at*;generalize hBn:(R.map λy=>y.fdiv u)=j at*;generalize hr':jW (R.map λy:Int=>v/i*(y:Rat))=r' at*;have lBn:j.length<B.length:=by rw[<-hBn,Ap];exact H
   generalize I:(if decide (u>0)=decide (i>0)then-D else D)=r at*;have K:=Jg.one sn;have bT:∀x∈j.map (r*·),x.natAbs<=2^i7 c w:=λx J=>by obtain⟨y,hy,rfl⟩:=Pm.mp J;rw[HI,K,cc];exact M y hy
   refine⟨λf=>f=[some (.lst (c.map W.int)),some (.int t),some (.int r),some (.lst ((L++[j.map (r*·)]).map wI)),some (sN C B j [] [] (B.getD (B.length -1) 0) (Sub.hnext h (B.getD (B.length -1) 0) (A.length -B.length)) Oc i u)],?_,?_⟩
   .rintro _ rfl;refine⟨j.length,lBn,L++[j.map (r*·)],d++[r'],B,j,_,_,_,_,_,t,r,O,β',b,r',⟨S',sb,sn,?_,bd.app (by lia) (by rw[Ap];clear K I;lia) bT,?_,λl q=>?_⟩,rfl,rfl⟩
    .exact F.app (sn.row S'.lb S'.eb)
    .rw[KM];show L.length+1+_<=38;lia
    .rw[Pv];rw[<-hr']at q⊢;exact p _ (.cons Tc aak q)
   .unfold rH;refine aA (λf=>f=[some (.lst (c.map W.int)),some (.int t),some (.int r),some (.lst (L.map wI)),some (sN C B j [] [] (B.getD (B.length -1) 0) (Sub.hnext h (B.getD (B.length -1) 0) (A.length -B.length)) Oc i u)]) (λN1 o=>?_) ?_
    .have o:=o _ rfl;rw[<-I]at o;unfold sN wI at o⊢;fin2;refine Xr ?_;fin2;by_cases e:decide (u>0)=decide (i>0)
     .rw[Bi e]at o;rw[Bi (Fh e)];exact⟨rfl,o⟩
     .rw[BM e]at o;rw[BM (by rw[Kb];exact e)];exact⟨rfl,o⟩
    rintro _ rfl;unfold sN wI;fin2;refine⟨j,r,rfl,by lia,λx J=>?_,?_⟩
    .exact aF (n:=1) (m:=i7 c w+1) (by lia) (bK (M x J)) (by lia)
    .refine⟨qZ (by rw[Ap];have:=bd.1;lia),?_⟩;rw[rp];rfl
 rintro _ ⟨L,d,o1,o2,o4,⟨q,F,bd⟩,rfl⟩;fin2;exact hq L d q F bd
structure GIn(a:List Rat):Prop where
 l8:a.length<=8
 z:au a
 cd:∃D:Int,0<D/\D.natAbs<2^101/\∀x∈a,Cd D 117 x
 bd:∀x∈a,Bd 200 x
theorem Od{x:Int}(h:x.natAbs<2^n)(e:Nat):(x^e).natAbs<=2^(n*e):=by rw[Sub.iA,i3];exact Wp (QR h) e
noncomputable def wv(t p:Int):List Int->Int
 |[]=>0
 |c::l=>wv t p l*t+c*p^l.length
theorem Oe(a:t.natAbs<2^m)(b:p.natAbs<2^m):∀{l:List Int},(∀x∈l,x.natAbs<2^n)->(wv t p l).natAbs<2^(n+l.length*(m+1)+1)
 |[],_=>U2 (by decide)
 |c::l,h=>by
  have ih:=Oe a b (l:=l) λx d=>h x (FS _ d);have g:(wv t p l*t).natAbs<2^(n+l.length*(m+1)+1+m):=by rw[HI];exact lt_mul ih a
  have f:(c*p^l.length).natAbs<2^(n+l.length*(m+1)+1+m):=by
   rw[HI];have e:m*l.length<=l.length*(m+1):=by rw[bb,rh];lia
   refine Aj (n:=n+(m*l.length+1)) (lt_mul (h c FK) (bK (Od b l.length))) ?_;lia
  show(wv t p l*t+c*p^l.length).natAbs<_;rw[BL,show n+(l.length+1)*(m+1)+1=(n+l.length*(m+1)+1+m)+1 by rw[vb];lia,Gg];lia
noncomputable def gD:List CS:=[.set 3 (.int 0),.set 4 (.int 1),.fr [5] true (.rev (.var 0)) [.set 3 (.bin .Add (.bin .Mult (.var 3) (.var 1)) (.bin .Mult (.var 5) (.var 4))),.set 4 (.bin .Mult (.var 4) (.var 2))],.ret (.var 3)]
def iS:aY:=λb Q _=>∃(a:List Int)(t p:Int)(n m:Nat),b=[wI a,.int t,.int p]/\(a.length<=50/\(∀x∈a,x.natAbs<2^n)/\t.natAbs<2^m/\p.natAbs<2^m/\n<=60000000/\m<=3000)/\Q (.int (wv t p a))
theorem sP(k:List W)(Q:W->Prop)(R:Addr->Prop)(h:iS k Q R):wSs z G gD (bH A Q R) (ak 6 k):=by
 obtain⟨a,t,p,n,m,rfl,⟨B,u,bt,g,I,J⟩,q⟩:=h;show wSs _ _ gD _ [some (wI a),some (.int t),some (.int p),none,none,none];unfold gD wI;fin2;refine aR (λi v=>∃c,v=[some (.lst (a.map W.int)),some (.int t),some (.int p),some (.int (wv t p (a.drop (a.length -i)))),some (.int (p^i)),c]) ⟨none,?_⟩ ?_ ?_
 .rw[Km,wb,Os];rfl
 .rintro i w _ N r ⟨c,rfl⟩ E;obtain⟨D,e⟩:=Gc.mp r;rw[ky,Ap]at D;have f:a.length -1 -i<a.length:=by lia
  obtain⟨y,d,rfl⟩:∃y,y=a[a.length -1 -i]/\w=.int y:=by refine⟨_,rfl,?_⟩;rw[<-e,List.getElem_reverse,List.getElem_map];simp only[Ap]
  fin2;have j:=Oe (n:=n) bt g (l:=a.drop (a.length -i)) λx C=>u x (List.mem_of_mem_drop C);have o:(a.drop (a.length -i)).length=i:=by rw[UP];clear j e r d f;lia
  rw[o]at j;have K:i*(m+1)<=50*3001:=Pt (by lia) (by lia);have H:m*i<=3000*50:=Pt (by lia) (by lia);have s:y.natAbs<2^n:=by rw[d];exact u _ (Yf f)
  have b:=bK (Od g i);refine⟨aF j bt (by clear b s H;lia),aF s b (by lia),aF b g (by lia),E _ ⟨some (.int y),?_⟩⟩;have F:a.drop (a.length -(i+1))=y::a.drop (a.length -i):=by rw[show a.length -(i+1)=a.length -1 -i by lia,eD f,show a.length -1 -i+1=a.length -i by lia,d]
  rw[F,GM];show _=[some (W.lst (a.map W.int)),some (W.int t),some (W.int p),some (W.int (wv t p (a.drop (a.length -i))*t+y*p^(a.drop (a.length -i)).length)),some (W.int (p^i*p)),some (W.int y)];rw[o]
 .rintro _ ⟨c,rfl⟩;fin2;rw[ky,Ap,t4,Xy];exact q
theorem Cq(x:Rat):x*((x.den:Int):Rat)=x.num:=by have:=gI (x:=x) (B:=x.den) (Th _);rw[hY (by have:=x.den_nz;lia),d5]at this;exact this.symm
noncomputable def rJ:List CS:=[.set 5 (.call 0 [(.var 4),(.ix (.var 1) (.int 0)),(.ix (.var 1) (.int 1))]),.iff (.cmp .NotEq (.var 5) (.int 0)) [.iff (.and [(.cmp .NotEq (.var 3) (.int 0)),(.cmp .NotEq (.cmp .Gt (.var 5) (.int 0)) (.cmp .Gt (.var 3) (.int 0)))]) [.set 2 (.bin .Add (.var 2) (.int 1))] [],.set 3 (.var 5)] []]
noncomputable def nO:List CS:=[.set 2 (.int 0),.set 3 (.int 0),.fr [4] true (.var 0) rJ,.ret (.var 2)]
structure Te(L:List (List Int)):Prop where
 ex:∃n m,yC n m L/\n<=30/\m<=10000000
def Bx(x:Rat):Prop:=∃m,m<=3000/\x.num.natAbs<2^m/\x.den<2^m
def rK:aY:=λa Q _=>∃(L:List (List Int))(x:Rat),a=[.lst (L.map wI),wq x]/\(Te L/\Bx x)/\Q (.int (kG 0 (L.map (wv x.num x.den)):Nat))
theorem DP(r:List W)(Q:W->Prop)(R:Addr->Prop)(h:rK r Q R):wSs (b7 [iS]) G nO (bH m Q R) (ak 6 r):=by
 obtain⟨L,x,rfl,⟨⟨n,k,⟨S,O⟩,U,X⟩,M⟩,H⟩:=h;show wSs _ _ nO _ [some (.lst (L.map wI)),some (wq x),none,none,none,none];unfold nO;fin2;generalize J:wv x.num x.den=f at*;refine aR (λi D=>∃(t b:Int)(j g:Option W),t+(kG b ((L.drop i).map f):Nat)=(kG 0 (L.map f):Nat)/\D=[some (.lst (L.map wI)),some (wq x),some (.int t),some (.int b),j,g]) ⟨0,0,none,none,by rw[Xy,xi],rfl⟩ ?_ ?_
 .rintro i w _ N u ⟨t,b,j,g,e,rfl⟩ c;rw[FC]at u;obtain⟨A,B,rfl⟩:=NM.mp u;obtain⟨I,o⟩:=Gc.mp B;obtain⟨T,P⟩:=O A (SL B);have K:L.drop i=A::L.drop (i+1):=by rw[eD I,o]
  rw[K,UV]at e;have e:t+((if f A=0 then kG b ((L.drop (i+1)).map f)else(if b≠0/\¬decide (f A>0)=decide (b>0)then 1 else 0)+kG (f A) ((L.drop (i+1)).map f):Nat):Int)=(kG 0 (L.map f):Nat):=e;unfold rJ;refine aA (λd=>d=[some (.lst (L.map wI)),some (wq x),some (.int t),some (.int b),some (wI A),some (.int (f A))]) (λY C=>?_) ?_
  .unfold wq at C⊢;fin2;refine⟨_,rfl,_,rfl,?_⟩;obtain⟨E,l,q,p⟩:=M;refine⟨A,x.num,x.den,k+1,E,rfl,⟨by lia,λy F=>bK (P y F),q,by rw[D3];exact p,by lia,l⟩,?_⟩;rw[J];exact C _ rfl
  rintro _ rfl;generalize f A=v at*;fin2;by_cases z:v=0
  .rw[Bi z]at e;rw[z,BM (by decide)];exact c _ ⟨t,b,_,_,e,rfl⟩
  .rw[BM z]at e;rw[Bi (by simpa using z)];by_cases a:b=0
   .rw[BM λh=>h.1 a,ik]at e;rw[BM (by simpa using a)];fin2;exact c _ ⟨t,v,_,_,e,rfl⟩
   .rw[Bi (by simpa using a)];refine Xs ?_;fin2;by_cases s:decide (v>0)=decide (b>0)
    .rw[BM λh=>h.2 s,ik]at e;rw[BM (by simpa using s)];exact c _ ⟨t,v,_,_,e,rfl⟩
    .rw[Bi ⟨a,s⟩]at e;rw[Bi (by simpa using s)];exact c _ ⟨t+1,v,_,_,by rw[<-e];lia,rfl⟩
 .rintro _ ⟨t,b,j,g,e,rfl⟩;fin2;rw[Ap,wb]at e;have e:t+0=(kG 0 (L.map f):Nat):=e;rw[fo]at e;rw[e];exact H
noncomputable def nQ:List CS:=[.ret (.bin .Sub (.call 0 [(.var 0),(.var 1)]) (.call 0 [(.var 0),(.var 2)]))]
def mh:aY:=λa Q _=>∃(L:List (List Int))(x y:Rat),a=[.lst (L.map wI),wq x,wq y]/\(Te L/\Bx x/\Bx y)/\Q (.int ((kG 0 (L.map (wv x.num x.den)):Nat) -(kG 0 (L.map (wv y.num y.den)):Nat)))
theorem DR(a:List W)(Q:W->Prop)(R:Addr->Prop)(h:mh a Q R):wSs (b7 [rK]) G nQ (bH m Q R) (ak 3 a):=by obtain⟨L,x,y,rfl,⟨b,d,e⟩,c⟩:=h;show wSs _ _ nQ _ [some (.lst (L.map wI)),some (wq x),some (wq y)];unfold nQ;fin2;exact⟨L,x,rfl,⟨b,d⟩,L,y,rfl,⟨b,e⟩,c⟩
theorem Xu(i:b<=101000)(a:2<=Z.length)(g:Z.length<=20)(d:Z.getD (Z.length -1) 0≠0)(h:∀x∈Z,x.natAbs<=2^b):Ut Z (b+10) 230:=by
 have f:=fG Z;have c:i7 Z (b+10)<=101010*38:=Pt (by lia) (by rw[f];lia);refine⟨VW (m:=37) (M:=2^b) a (by lia) (by lia) h (ed) ?_ (by decide+kernel),?_,Do (Uc c) (by decide),Do (SF _ (by lia:b+10<=101010)) (by decide),by lia,a,d⟩
 .have e:(2*Z.length -2)*(Z.length -1)<=38*19:=Pt (by lia) (by lia);rw[<-ph,Y1,bb (2^b)];exact SF _ (Do e (by decide))
 .exact Do (Pt (by lia:Z.length+1<=21) (rk c 2)) (by decide)
structure Q43(ns:List Int):Prop where
 ex:∃w E,Ut ns w E/\ns.length<=21/\i7 ns w+1<=4800
noncomputable def kO:List CS:=[.set 1 (.call 0 [(.var 0)]),.iff (.cmp .Eq (.blt .len [(.ix (.var 1) (.neg (.int 1)))]) (.int 1)) [.ret (.var 1)] [],.ret (.call 0 [(.call 1 [(.var 0),(.ix (.call 2 [(.ix (.var 1) (.neg (.int 1)))]) (.int 1))])])]
def jR:aY:=λb Q _=>∃a:List Int,b=[wI a]/\Q43 a/\∀L C,Cc (qI a) C->Pz L C->Te L->Q (.lst (L.map wI))
theorem Aq(M:List W)(Q:W->Prop)(R:Addr->Prop)(h:jR M Q R):wSs (b7 [l9,jB,iO]) G kO (bH m Q R) (ak 2 M):=by
 obtain⟨a,rfl,⟨w,E,P,Ml,hl⟩,X⟩:=h;show wSs _ _ kO _ [some (wI a),none];unfold kO;have l2:=P.l2;refine aA (λe=>∃(L:List (List Int))(l:List (List Rat)),(wX (qI a) (bX (qI a)) l/\Pz L (qI a::bX (qI a)::l)/\yC a.length (i7 a w) L)/\e=[some (wI a),some (.lst (L.map wI))]) (λN B=>?_) ?_
 .fin2;exact⟨a,w,E,rfl,P,λL l j o bd=>B _ ⟨L,l,⟨j,o,bd⟩,rfl⟩⟩
 rintro _ ⟨L,l,⟨j,o,bd⟩,rfl⟩;have p:Rp (qI a):=⟨jm P.nz,by rw[cC];exact l2⟩;obtain⟨g,F,J,O,_⟩:=j.last (ni p.z) p.n6;have D:(qI a::bX (qI a)::l).getLast?=some g:=by rw[me];exact F
 obtain⟨A,eA,s⟩:=o.last D;have mA:A∈L:=List.mem_of_getLast? eA;obtain⟨lA,bA⟩:=bd.2 A mA;have Y:(L.map wI).getLast?=some (wI A):=by rw[vi,eA];rfl
 have U:g.length=A.length:=s.choose_spec.2.1;have t:=s.ne J O;have A0:0<A.length:=by rw[<-U];exact KE.mpr O
 refine aA (λe=>A.length≠1/\e=[some (wI a),some (.lst (L.map wI))]) (λN B=>?_) ?_
 .fin2;refine⟨_,nI Y,?_⟩;have v:=B [some (wI a),some (.lst (L.map wI))];by_cases one:A.length=1
  .obtain⟨c,rfl⟩:=oI.mp (U.trans one);have:=X L _ (KJ p j F (J c rfl)) o ⟨_,_,bd,by lia,by lia⟩;unfold wI at this⊢;fin2;rw[Ap,Bi (Fh (by lia))];exact this
  .have:=v ⟨one,rfl⟩;unfold wI at this⊢;fin2;rw[Ap,BM (by rw[Kb];lia)];exact this
 rintro _ ⟨one,rfl⟩;fin2;have mg:A.getD (A.length -1) 0∈A:=Sub.getD_mem' (by lia);refine⟨_,nI Y,A,i7 a w+1,rfl,⟨⟨_,mg,t⟩,by lia,by lia,λx d=>bK (bA x d)⟩,λc u f bc=>⟨_,rfl,?_⟩⟩;obtain⟨Z,⟨T,S⟩,⟨z0,I,K⟩,bp,zz⟩:=PZ l2 P.nz j F s f.pos f.dv f.all f.eq;have lm:u.length=A.length:=by rw[f.eq,Ap]
 have n:∀x∈u,x.natAbs<2^(i7 a w+1):=λx d=>by rw[f.eq]at d;obtain⟨y,hy,rfl⟩:=Pm.mp d;refine IH (YU y c) (bK (bA y hy))
 have YA:∀x∈a,x.natAbs<2^(i7 a w+1):=λx d=>bK (P.sm.C.bd.1 x d);have bZ:=BB K I (by lia) T S YA n Z.length;have Xv:Z.length<=20:=by lia
 have Rz:Rp (qI Z)/\_:=bp.len p;have z2:2<=Z.length:=by rw[<-cC Z];exact Rz.1.l2
 obtain⟨b,hb⟩:∃b,b=4800+20*4805:=⟨_,rfl⟩;have bz:∀x∈Z,x.natAbs<2^b:=λx d=>by obtain⟨i,hi,rfl⟩:=Ta d;have:=bZ i (xp _ _);rw[AC,DL hi]at this;refine Fu this (IR (by decide) ?_);rw[hb];exact yA (by lia) (Pt Xv (by lia))
 refine⟨a,u,Z,b,rfl,⟨T,z0,by lia,I,λk=>?_,S,by lia,λx d=>Aj (n x d) (by lia),bz⟩,?_⟩
 .rw[K k,gh];rfl
 have P2:=Xu (by lia:b<=101000) z2 Xv zz λx d=>QR (bz x d);refine⟨Z,_,_,rfl,P2,λL2 l2 q r H=>X L2 _ ⟨qI Z,l2,rfl,bp,q⟩ r ⟨_,_,H,by lia,Nat.le_of_succ_le P2.Yz⟩⟩
structure Uu(ns:List Int)(b:Nat):Prop where
 l2:2<=ns.length
 Ml:ns.length<=21
 nz:ns.getD (ns.length -1) 0≠0
 bd:∀x∈ns,x.natAbs<=2^b
 hb:(b+10)*(2*ns.length -2)+1<=4800
theorem Tf(h:Uu ns b):Q43 ns:=by
 have l2:=h.l2;have Ml:=h.Ml;have c:=fG ns;have a:i7 ns (b+10)=(b+10)*(2*ns.length -2):=by unfold i7;rw[c];congr 1;lia
 have hb:=h.hb;have d:b+10<=4800:=by have:(b+10)*1<=(b+10)*(2*ns.length -2):=FV _ (by clear hb a c Ml;lia);lia
 refine⟨b+10,230,⟨VW (m:=39) (M:=2^b) l2 (by lia) (by lia) h.bd ed ?_ (by decide+kernel),?_,by rw[a];lia,Do (SF _ d) (by decide),by lia,l2,h.nz⟩,Ml,by rw[a];exact hb⟩
 .have e:(2*ns.length -2)*(ns.length -1)<=40*20:=Pt (by lia) (by lia);rw[<-ph,Y1,bb (2^b)];exact SF _ (Do e (by decide))
 .refine Do (Pt (by lia:ns.length+1<=22) (show i7 ns (b+10)+2<=4802 by rw[a];lia)) (by decide)
noncomputable def bY(ns:List Int)(t d:Int):List Rat:=ns.map λx=>B1 (x*t) d
theorem Mm(ns:List Int)(t d:Int)(i:Nat):(bY ns t d).getD i 0=B1 (ns.getD i 0*t) d:=by
 unfold bY;rw[AC,AC,FC];cases ns[i]? with
 |none=>show(0:Rat)=B1 (0*t) d;rw[bo,Rat.zero_divInt]
 |some x=>rfl
theorem Ar{ns ms:List Int}{U V:Int}(j:U≠0)(s:V≠0)(h:∀i,ms.getD i 0*U=ns.getD i 0*V)(one:∀d:Int,(∀x∈ms,d∣x)->d∣1)(i:Nat):(ms.getD i 0).natAbs<=(ns.getD i 0).natAbs:=by
 have p:0<Bn U V:=tJ _ j;obtain⟨u,f⟩:=dA (a:=U) (b:=V);obtain⟨v,l⟩:=Ts (a:=U) (b:=V);have g:Bn u v=1:=by have:=fg (Bn U V:Int) u v;rw[<-f,<-l,D3]at this;exact YP p (by rw[Ux];exact this.symm)
 have e:∀i,ms.getD i 0*u=ns.getD i 0*v:=λi=>by have r:ms.getD i 0*U=ms.getD i 0*((Bn U V:Int)*u):=Q1 (ms.getD i 0*·) f;have q:ns.getD i 0*V=ns.getD i 0*((Bn U V:Int)*v):=Q1 (ns.getD i 0*·) l;refine Qr (a:=(Bn U V:Int)) (by lia) ?_;rw[fb,<-r,h i,q,fb]
 have dv:v∣1:=one v λx n=>by obtain⟨k,o,rfl⟩:=Ta n;have c:=e k;rw[AC,DL o]at c;have c:ms[k]*u=ns.getD k 0*v:=c;have:v∣ms[k]*u:=⟨ns.getD k 0,by rw[c,dE]⟩;have this:=Tb.mpr this;rw[HI]at this;exact Tb.mp (mj (by rw[Nat.coprime_iff_gcd_eq_one,Nat.gcd_comm];exact g) this)
 have m:v.natAbs=1:=Nat.dvd_one.mp (Tb.mpr dv);have t:u≠0:=λz=>j (by rw[f,z,Qb]);have:=Q1 YJ (e i);rw[HI,HI,m,Ux]at this;rw[<-this];exact Y2 _ (by lia)
theorem Ib(t b:Int):∀l:List Int,wv t b l=Num.wv t b l
 |[]=>rfl
 |x::l=>by show wv t b l*t+x*b^l.length=Num.wv t b l*t+x*b^l.length;rw[Ib t b l]
def Ctn(ns:List Int)(a b:Rat)(v:Int):Prop:=∃(c:Rat)(C:List (List Rat)),c≠0/\Cc (Bu c (qI ns)) C/\v=(oF C a:Nat) -(oF C b:Nat)
theorem Tg(K:Uu ns b)(g:t≠0)(C:t.natAbs<=7)(S:0<d)(X:d.natAbs<2^100)
 (h:∀(ms:List Int)(κ:Rat)(U V:Int)(E D:W),κ≠0->Uu ms b->ms.length=ns.length->qI ms=Bu κ (qI ns)->U≠0->V≠0->(∀i,ms.getD i 0*U=ns.getD i 0*V)->Q (.tup [wI ms,E,D])):fT [bG (bY ns t d)] Q R:=by
 have I:(bY ns t d).length=ns.length:=Ap _;have l2:=K.l2;have Ml:=K.Ml;have hb:=K.hb;have O:b<=4800:=by have:(b+10)*1<=(b+10)*(2*ns.length -2):=FV _ (by lia);lia
 have r:(d:Rat)≠0:=λz=>by have:=Iy.mp z;lia
 have q:∀x:Int,B1 (x*t) d*d=((x*t:Int):Rat):=λx=>by rw[n4];grind
 have T:∀x∈bY ns t d,Cd d (b+3) x:=λx p=>by
  obtain⟨y,M,rfl⟩:=Pm.mp p;refine⟨y*t,q y,?_⟩;rw[HI,Y1];have:=K.bd y M;have Z:0<2^b:=U2 (by decide)
  calc y.natAbs*t.natAbs<=2^b*7:=Pt this C
   _<2^b*2^3:=by lia
 have n:∃x∈bY ns t d,x≠0:=by have H:ns.getD (ns.length -1) 0∈ns:=Sub.getD_mem' (by lia);refine⟨_,Pm.mpr ⟨_,H,rfl⟩,λz=>?_⟩;have:=q (ns.getD (ns.length -1) 0);rw[z,X9]at this;have:=Iy.mp this.symm;exact Pi K.nz g this
 refine⟨bY ns t d,d,b+3,100,rfl,⟨n,T,S,X,by decide,by lia,by lia⟩,λms B c l _ _ _=>?_⟩;have B0:=l.bpos;have c0:=l.cpos;have G:(B:Rat)≠0:=λz=>by have:=Iy.mp z;lia
 have s:(c:Rat)≠0:=λz=>by have:=Iy.mp z;lia
 have F:(t:Rat)≠0:=λz=>g (Iy.mp z);have m:∀i,((ms.getD i 0:Int):Rat)*c*d=((ns.getD i 0:Int):Rat)*t*B:=λi=>by have v:=l.at_ i;rw[Mm]at v;have u:=q (ns.getD i 0);rw[FM]at u;rw[v,<-u];grind
 have f:∀i,ms.getD i 0*(c*d)=ns.getD i 0*(t*B):=λi=>by have:=m i;rw[<-FM,<-FM,<-FM,<-FM]at this;have:=mB.mp this;rw[X2,X2]at this;exact this
 have o:ms.length=ns.length:=l.len.trans I;have J:=Ar (Pi (by lia:c≠0) (by lia:d≠0)) (Pi g (by lia:B≠0)) f l.one;have A:ms.getD (ms.length -1) 0≠0:=λz=>by have:=f (ms.length -1);rw[z,bo,o]at this;exact Pi K.nz (Pi g (by lia:B≠0)) this.symm
 have Y:Uu ms b:=⟨by lia,by lia,A,λx p=>by obtain⟨k,N,rfl⟩:=Ta p;have:=J k;rw[AC,DL N]at this;exact Do this (K.bd _ (Sub.getD_mem' (by lia))),by rw[o];exact hb⟩;have w:(t:Rat)*B*((c:Rat)*d)⁻¹≠0:=λz=>by
  have a:(c:Rat)*d≠0:=λz=>(Kk.mp z).elim s r;have:=On _ a;rcases Kk.mp z with z|z
  .exact(Kk.mp z).elim F G
  .rw[z,X9]at this;exact absurd this (by decide+kernel)
 have P:qI ms=Bu ((t:Rat)*B*((c:Rat)*d)⁻¹) (qI ns):=FA (jm A) (Ge w (jm K.nz)) λk=>by
  show cQ (qI ms) k=cQ (Bu _ (qI ns)) k;rw[qA,cT,cT];have a:(c:Rat)*d≠0:=λz=>(Kk.mp z).elim s r;have L:=On _ a;have:=m k;generalize((ms.getD k 0:Int):Rat)=x at*;generalize((ns.getD k 0:Int):Rat)=y at*;generalize((c:Rat)*d)⁻¹=j at*;have e:x=x*(j*(c*d)):=by rw[L,pj]
  rw[e,show x*(j*(c*d))=j*(x*c*d) by grind,this];grind
 exact h ms _ _ _ _ _ w Y o P (Pi (by lia:c≠0) (by lia:d≠0)) (Pi g (by lia:B≠0)) f
noncomputable def jD:List CS:=[.iff (.cmp .Eq (.blt .len [(.var 0)]) (.int 1)) [.ret (.int 0)] [],.ret (.call 0 [(.call 1 [(.ix (.call 2 [(.var 0)]) (.int 0))]),(.var 1),(.var 2)])]
def Ti:aY:=λf Q _=>∃(a:List Int)(t d:Int)(c e:Rat),f=[bG (bY a t d),wq c,wq e]/\((a.length=1/\Q (.int 0))\/
 ((∃b,Uu a b)/\t≠0/\t.natAbs<=7/\0<d/\d.natAbs<2^100/\Bx c/\Bx e)/\∀v,Ctn a c e v->Q (.int v))
def Xw(ns:List Int)(t d:Int)(a c:Rat)(Q:W->Prop):Prop:=(ns.length=1/\Q (.int 0))\/
 ((∃b,Uu ns b)/\t≠0/\t.natAbs<=7/\0<d/\d.natAbs<2^100/\Bx a/\Bx c)/\∀v,Ctn ns a c v->Q (.int v)
theorem Xw.pos(h:Xw ns t d a c Q):1<=ns.length:=by
 rcases h with h|⟨⟨⟨b,h⟩,_⟩,_⟩
 .lia
 .have:=h.l2;lia
theorem Ic(h:Xw ns t d a c Q):wSs (b7 [mh,jR,fT]) G jD (bH m Q R) [some (bG (bY ns t d)),some (wq a),some (wq c)]:=by
 unfold jD;have j:(bY ns t d).length=ns.length:=Ap _;rcases h with⟨r,g⟩|⟨⟨⟨b,K⟩,n,l,u,B,w,y⟩,g⟩
 .unfold bG;fin2;rw[Ap,j,r,Bi (by decide)];exact g
 have l2:=K.l2;have Ml:=K.Ml;have hb:=K.hb;have q:b<=4800:=by have:(b+10)*1<=(b+10)*(2*ns.length -2):=FV _ (by lia);lia
 refine aA (λf=>f=[some (bG (bY ns t d)),some (wq a),some (wq c)]) (λN e=>?_) ?_
 .have e:=e _ rfl;unfold bG at e⊢;fin2;rw[Ap,j,BM (by rw[Kb];lia)];exact e
 rintro _ rfl;fin2;refine Tg K n l u B λp E U V J I A D M s H F z=>⟨_,rfl,?_⟩;refine⟨p,rfl,Tf D,λL C v i o=>?_⟩;refine⟨L,a,c,rfl,⟨o,w,y⟩,?_⟩;refine g _ ⟨_,C,A,by rw[<-s];exact v,?_⟩;have k:∀x:Rat,x*((x.den:Int):Rat)=x.num:=Cq;rw[show wv a.num a.den=Num.wv a.num a.den from funext (Ib _ _),show wv c.num c.den=Num.wv c.num c.den from funext (Ib _ _),BA (x:=a) (t:=a.num) (b:=a.den) (by have:=a.den_pos;lia) (k a) i,BA (x:=c) (t:=c.num) (b:=c.den) (by have:=c.den_pos;lia) (k c) i]
noncomputable def yD(a bs:List Int):List Int:=tabI (a.length+bs.length -1) (cf a bs a.length)
noncomputable def Cr:List CS:=[.fr [4] true (.j3 [(.blt .len [(.var 1)])]) [.put 2 (.bin .Add (.var 3) (.var 4)) (.bin .Add (.ix (.var 2) (.bin .Add (.var 3) (.var 4))) (.bin .Mult (.ix (.var 0) (.var 3)) (.ix (.var 1) (.var 4))))]]
noncomputable def As:List CS:=[.set 2 (.bin .Mult (.lst [(.int 0)]) (.bin .Sub (.bin .Add (.blt .len [(.var 0)]) (.blt .len [(.var 1)])) (.int 1))),.fr [3] true (.j3 [(.blt .len [(.var 0)])]) Cr,.ret (.var 2)]
def uI:aY:=λc Q _=>∃b a:List Int,c=[wI b,wI a]/\(0<b.length/\0<a.length/\b.length<=200/\a.length<=200/\∀x∈b,∀y∈a,IntMulOk x y)/\Q (wI (yD b a))
theorem Tj(r:List W)(Q:W->Prop)(R:Addr->Prop)(h:uI r Q R):wSs v G As (bH m Q R) (ak 5 r):=by
 obtain⟨b,a,rfl,⟨I,H,B,A,E⟩,l⟩:=h;show wSs _ _ As _ [some (wI b),some (wI a),none,none,none];unfold As;unfold wI yD at*;fin2;have u:((b.map W.int).length:Int)+((a.map W.int).length:Int) -1=((b.length+a.length -1:Nat):Int):=by rw[Ap,Ap];lia
 rw[u,D7,gU];refine⟨af (by simp),by lia,by lia,af (by simp;lia),by lia,by lia,?_⟩;rw[Ap,D7];refine aR (λi d=>∃o3 c,d=[some (.lst (b.map W.int)),some (.lst (a.map W.int)),some (.lst ((tabI (b.length+a.length -1) (cf b a i)).map W.int)),o3,c]) ⟨none,none,?_⟩ ?_ ?_
 .have:tabI (b.length+a.length -1) (cf b a 0)=AW (b.length+a.length -1) 0:=by unfold tabI;have:cf b a 0=λ_=>0:=rfl;rw[this,WX,bj]
  rw[this,NH]
 .rintro i w _ N s ⟨o3,c,rfl⟩ F;obtain⟨p,rfl⟩:=fR s;unfold Cr;fin2;refine⟨by clear s p u A B H I;lia,by lia,?_⟩;rw[Ap,D7];refine aR (λj d=>∃c,d=[some (.lst (b.map W.int)),some (.lst (a.map W.int)),some (.lst ((tabI (b.length+a.length -1) (xF b a i j)).map W.int)),some (.int i),c]) ⟨c,?_⟩ ?_ ?_
  .rw[show xF b a i 0=cf b a i from funext λk=>xG b a i k]
  .rintro j w _ J C ⟨c,rfl⟩ z;obtain⟨t,rfl⟩:=fR C;have o:i+j<b.length+a.length -1:=by lia
   fin2;rw[show(i:Int)+(j:Int)=((i+j:Nat):Int) by lia];refine⟨_,cL (by rw[FC,eX o];rfl),_,cL (int_at p),_,cL (int_at t),?_⟩;fin2;refine⟨vU (P:=λx=>IntMulOk x (a.getD j 0)) (λx D=>vU (P:=λy=>IntMulOk x y) (E x D) t) p,i+j,jw (by rw[Ap,bC];exact o),z _ ⟨some (.int j),?_⟩⟩;have e:=fS (n:=b.length+a.length -1) (f:=xF b a i j) (g:=xF b a i (j+1)) (k:=i+j) o (λq _ l=>by rw[lD,BM l,fo]);rw[lD,Bi rfl]at e;rw[<-e,hU]
  .rintro _ ⟨c,rfl⟩;refine F _ ⟨some (.int i),c,?_⟩;rw[rF,show xF b a i a.length=cf b a (i+1)from funext λk=>xH b a i k]
 .rintro _ ⟨o3,c,rfl⟩;rw[rF];fin2;exact l
noncomputable def vZ:List CS:=[.set 1 (.int 0),.fr [2] true (.var 0) [.set 1 (.call 0 [(.var 1),(.var 2)])],.iff (.cmp .Lt (.ix (.var 0) (.neg (.int 1))) (.int 0)) [.set 1 (.bin .Sub (.int 0) (.var 1))] [],.ret (.comp [0] true 1 (.var 0) (.bl true) (.bin .FloorDiv (.var 0) (.var 2)))]
structure Lp(ns ms:List Int)(c:Int):Prop where
 c0:c≠0
 len:ms.length=ns.length
 eq:∀k,ns.getD k 0=c*ms.getD k 0
 one:∀d:Int,(∀x∈ms,d∣x)->d∣1
 sg:0<=ns.getD (ns.length -1) 0*c
def Au:aY:=λd Q _=>∃(a:List Int)(n:Nat),d=[wI a]/\(0<a.length/\a.length<=100/\a.getD (a.length -1) 0≠0/\(∀x∈a,x.natAbs<2^n)/\n<=100000000)/\∀b c,Lp a b c->Q (wI b)
theorem Xx(o:0<=ns.getD (ns.length -1) 0*c)(i:c=g\/c= -g)(s:0<ns.length)(n:ns.getD (ns.length -1) 0≠0)(dv:∀j,j<ns.length->g∣ns.getD j 0)(r:∀d:Int,(∀j,j<ns.length->d∣ns.getD j 0)->d∣g):Lp ns (ns.map (·.fdiv c)) c:=by
 have m:∀j,c∣ns.getD j 0:=λj=>by
  by_cases a:j<ns.length
  .rcases i with rfl|rfl
   .exact dv j a
   .exact Int.neg_dvd.mpr (dv j a)
  .rw[outI (by lia)];exact xl c
 have e:c≠0:=λz=>n (by have:=m (ns.length -1);rw[z]at this;exact j7.mp this);have q:∀k,(ns.map (·.fdiv c)).getD k 0=(ns.getD k 0).fdiv c:=λk=>Sub.map_getD (f:=λy=>y.fdiv c) (hX c) k;have l:∀k,ns.getD k 0=c*(ns.map (·.fdiv c)).getD k 0:=λk=>by rw[q];obtain⟨u,b⟩:=m k;rw[b,gL _ e]
 refine⟨e,Ap _,l,λd p=>?_,o⟩;have h:c*d∣g:=r _ λj a=>by rw[l j];refine zz1 _ (p _ ?_);exact Sub.getD_mem' (by rw[Ap];exact a)
 have h:c*d∣c:=by
  rcases i with rfl|rfl
  .exact h
  .exact lr.mpr h
 obtain⟨u,b⟩:=h;exact⟨u,Qr e (by rw[d5,<-X2];exact b)⟩
theorem Mn(u:List W)(Q:W->Prop)(R:Addr->Prop)(h:Au u Q R):wSs (b7 [Cj]) G vZ (bH m Q R) (ak 3 u):=by
 obtain⟨a,n,rfl,⟨x,U,v,S,I⟩,H⟩:=h;show wSs _ _ vZ _ [some (wI a),none,none];unfold vZ;refine aA (λb=>b=[some (wI a),some (.int 0),none]) (λN f=>?_) ?_
 .fin2;exact f _ rfl
 rintro _ rfl;refine aA (λb=>∃(g:Nat)(o2:Option W),((∀j,j<a.length->(g:Int)∣a.getD j 0)/\∀d:Int,(∀j,j<a.length->d∣a.getD j 0)->d∣(g:Int))/\b=[some (wI a),some (.int g),o2]) (λN f=>?_) ?_
 .unfold wI at f⊢;fin2;refine aR (λi E=>∃(g:Nat)(o2:Option W),((∀j,j<i->(g:Int)∣a.getD j 0)/\∀d:Int,(∀j,j<i->d∣a.getD j 0)->d∣(g:Int))/\E=[some (.lst (a.map W.int)),some (.int g),o2]) ⟨0,none,⟨λj l=>by lia,λd _=>xl d⟩,rfl⟩ ?_ ?_
  .rintro i w _ X B ⟨g,o2,⟨p,o⟩,rfl⟩ P;rw[FC]at B;obtain⟨y,A,rfl⟩:=NM.mp B;have D:a.getD i 0=y:=by rw[AC,A];rfl
   fin2;refine⟨g,y,rfl,P _ ⟨Bn g y,_,⟨λj l=>?_,λd C=>?_⟩,rfl⟩⟩
   .rcases Nat.lt_succ_iff_lt_or_eq.mp l with l|rfl
    .exact Nh (dA ..) (p j l)
    .rw[D];exact Ts ..
   .refine fy (o d λj l=>C j (by lia)) ?_;rw[<-D];exact C i (by lia)
  .rintro _ ⟨g,o2,h,rfl⟩;rw[Ap]at h;exact f _ ⟨g,o2,h,rfl⟩
 rintro _ ⟨g,o2,⟨p,o⟩,rfl⟩;have O:=Cm x;refine aA (λb=>∃(c:Int)(o2:Option W),((c=g\/c= -(g:Int))/\0<=a.getD (a.length -1) 0*c)/\b=[some (wI a),some (.int c),o2]) (λN f=>?_) ?_
 .have t:=λq=>f [some (wI a),some (.int g),o2] ⟨_,_,⟨.inl rfl,q⟩,rfl⟩;have s:=λq=>f [some (wI a),some (.int (0 -g)),o2] ⟨_,_,⟨.inr (by lia),q⟩,rfl⟩;unfold wI at t s⊢;fin2;refine⟨_,O,?_⟩;fin2;by_cases q:a.getD (a.length -1) 0<0
  .rw[Bi (Fh q)];refine s ?_;rw[xf,zi,<-yn];exact gd (by lia) (by lia)
  .rw[BM (by rw[Kb];exact q)];exact t (gd (by lia) (by lia))
 rintro _ ⟨c,o2,⟨J,F⟩,rfl⟩;have L:=Xx F J x v p o;have T:c.natAbs<2^n:=by have e:=L.eq (a.length -1);have r:=S _ (Sub.getD_mem' (k:=a.length -1) (by lia));rw[e,HI]at r;refine IH (Y2 _ ?_) r;have:(a.map (·.fdiv c)).getD (a.length -1) 0≠0:=λz=>v (by rw[e,z,Qb]);clear this r;lia
 have q:=H _ c L;unfold wI at q⊢;fin2;refine cO (h:=W.int) (g:=λy=>.int (y.fdiv c)) a [] _ (λy A K M=>?_) (af (by simp;lia)) ?_
 .fin2;exact⟨⟨L.c0,rj T (Do I (by decide))⟩,M⟩
 .rw[T2]at q;exact q
theorem nR(F G:List Int):(yD F G).length=F.length+G.length -1:=bC ..
theorem Cs(a:0<F.length)(k:Nat):(yD F G).getD k 0=cf F G F.length k:=by
 unfold yD;rw[Cn];split
 .rfl
 .rw[lE F G k F.length (by lia)]
theorem Ie(a:0<F.length)(x:Rat):ev x (qI (yD F G))=ev x (qI F)*ev x (qI G):=qz x λk=>by rw[cT,Cs a,gh];show((ku (co F) (co G) k:Int):Rat)=_;rw[<-qm];exact bq (λi=>(cT F i).symm) (λi=>(cT G i).symm) k
theorem Mp(a:0<F.length)(z:Int)(x:Rat):ev x (qI (F.set 0 (F.getD 0 0+z)))=ev x (qI F)+z:=by
 cases F with
 |nil=>exact absurd a (by decide)
 |cons y F=>show((y+z:Int):Rat)+x*ev x (qI F)=(y:Rat)+x*ev x (qI F)+z;rw[eI];grind
theorem Xz{x y:W}(b:0<=i)(a:i<2):∃w,lz [x,y] i=some w/\(w=x\/w=y):=by
 have:i=0\/i=1:=by lia
 rcases this with rfl|rfl
 .exact⟨x,rfl,.inl rfl⟩
 .exact⟨y,rfl,.inr rfl⟩
theorem v9(a:0<F.length)(b:0<G.length):(yD F G).getD ((yD F G).length -1) 0=F.getD (F.length -1) 0*G.getD (G.length -1) 0:=by rw[nR,Cs a,<-J1 F G a b];congr 1
theorem Of(d:∀y∈F,y.natAbs<2^n)(c:∀y∈G,y.natAbs<2^m)(b:F.length<=2^k):∀x∈yD F G,x.natAbs<=2^(n+m+k):=λx a=>by obtain⟨j,_,rfl⟩:=rE a;refine Do (Nx d c j F.length) ?_;rw[Y1 2 (n+m) k,bb];exact FV _ b
structure Kr(n:Kn)(ms:List Int):Prop where
 l2:2<=ms.length
 l4:ms.length<=4
 k1:n.k=1->ms.length=2
 one:∀d:Int,(∀x∈ms,d∣x)->d∣1
 pos:0<ms.getD (ms.length -1) 0
 ev:∃c:Rat,0<c/\∀x,n.h x=c*Num.ev x (qI ms)
theorem Kr.nz(h:Kr n ms):ms.getD (ms.length -1) 0≠0:=λz=>by have:=h.pos;rw[z]at this;exact absurd this (by decide)
theorem Kr.cj(h:Kr n ms)(k2:n.k=2):Kr n.cj ms:=by obtain⟨c,a,e⟩:=h.ev;exact⟨h.l2,h.l4,h.k1,h.one,h.pos,c,a,λx=>by rw[n.ZJ k2,e]⟩
theorem Kr.YC(h:Kr n ms)(k:aO n):mT (cQ (qI ms)):=by
 refine uq (jm h.nz) (by rw[cC];exact h.l2) (by rw[cC];exact h.l4) ?_;by_cases k1:n.k=1
 .exact .inl (by rw[cC];exact h.k1 k1)
 .refine .inr λx e=>k.P1 k1 x ?_;obtain⟨c,b,a⟩:=h.ev;rw[a,e,Pl]
theorem Kr.small(h:Kr n ms)(k:aO n):∃c:Rat,0<c/\∀z e,ab (n.f z) (c*e)->ab (Num.ev z (qI ms)) e:=by
 obtain⟨c,j,l⟩:=h.ev;refine⟨c,j,λz e a=>?_⟩;have a:=k.Wc a;rw[l]at a;unfold ab at*;have p:c*c⁻¹=1:=Hn _ (by grind);have g:=SU.mpr j;have d:=Dx a.1 (Fm g);have b:=Dx a.2 (Fm g);generalize Num.ev z (qI ms)=y at*;have i:c⁻¹*(c*y)=y:=by grind
 have o:c⁻¹*(c*e)=e:=by grind
 have m:c⁻¹* -(c*e)= -e:=by grind
 rw[i,o]at b;rw[i,m]at d;exact⟨d,b⟩
theorem Kr.rt(h:Kr n ms)(k:aO n):Rt n.lo (zJ (qI ms)):=λx y b a e f=>by obtain⟨c,g,d⟩:=h.small k;obtain⟨z,hz,i⟩:=k.rt x y b a (c*e) (Ha g f);exact⟨z,hz,d z e i⟩
theorem Ct(M:2<=a.length)(L:2<=bs.length)(u:0<a.getD (a.length -1) 0)(t:0<bs.getD (bs.length -1) 0)(y:∀d:Int,(∀x∈a,d∣x)->d∣1)(w:∀d:Int,(∀x∈bs,d∣x)->d∣1)(n:DQ (cQ (qI a)) (cQ (qI bs)))(K:DQ (cQ (qI bs)) (cQ (qI a))):a=bs:=by
 have h:au (qI a):=jm (by lia);have f:au (qI bs):=jm (by lia);have l:qI a≠[]:=λz=>by have:=Q1 Jp z;rw[cC]at this;have this:a.length=0:=this;lia
 have j:qI bs≠[]:=λz=>by have:=Q1 Jp z;rw[cC]at this;have this:bs.length=0:=this;lia
 have C:=vn h l f j n;have B:=vn f j h l K;obtain⟨q,H,e⟩:=n.eq;obtain⟨q,r,rfl⟩:=aU H;have A:=kD (zH e (eH f j));have N:=jk r h f A l e;obtain⟨b,rfl⟩:=oI.mp (show q.length=1 by lia);have I:∀k,((bs.getD k 0:Int):Rat)=b*((a.getD k 0:Int):Rat):=λk=>by have:=tj e k;rw[show cQ [b]=λi=>b*I1 i from funext λi=>by cases i<;>simp[I1,cQ],bU,NC]at this;rw[cT,cT]at this;exact this
 have c:a.length=bs.length:=by rw[cC,cC]at C B;lia
 have J:b*((b.den:Int):Rat)=b.num:=Cq b;have O:=b.den_pos;have g:∀k,bs.getD k 0*b.den=a.getD k 0*b.num:=λk=>by
  have:((bs.getD k 0:Int):Rat)*((b.den:Int):Rat)=((a.getD k 0:Int):Rat)*((b.num:Int):Rat):=by rw[I,<-J];grind
  rw[<-FM,<-FM]at this;exact mB.mp this
 have m:0<b.num:=by have:=g (bs.length -1);rw[show a.getD (bs.length -1) 0=a.getD (a.length -1) 0 by rw[c]]at this;have v:=rl t (show(0:Int)<b.den by lia);rw[this]at v;refine Fk λq=>?_;have:=gd (cb u) (show 0<=-b.num by lia);rw[zi]at this;lia
 have p:=λk=>Ar (ns:=a) (ms:=bs) (U:=b.den) (V:=b.num) (by lia) (by lia) g w k;have o:=λk=>Ar (ns:=bs) (ms:=a) (U:=b.num) (V:=b.den) (by lia) (by lia) (λi=>(g i).symm) y k;refine List.ext_getElem c λk E D=>?_;have G:a.getD k 0=a[k]:=by rw[AC,DL E];rfl
 have F:bs.getD k 0=bs[k]:=by rw[AC,DL D];rfl
 have p:=p k;have o:=o k;have e:=g k;rw[G,F]at*;have s:(0<=a[k]/\0<=bs[k])\/(a[k]<=0/\bs[k]<=0):=by
  by_cases q:0<=a[k]
  .left;refine⟨q,?_⟩;have:=gd q (cb m);rw[<-e]at this;exact X4 this (by lia)
  .right;refine⟨by lia,?_⟩;have:=gd (show 0<=-a[k] by lia) (cb m);rw[yn,<-e,<-yn]at this;have:=X4 this (show(0:Int)<b.den by lia);lia
 lia
theorem Tn(h:aO n):∃x y,n.lo x=true/\n.lo y=false/\x<y:=by
 have qb:=h.qb;have r:(n.b:Rat)*(n.b:Rat)⁻¹=1:=Hn _ (by grind);obtain⟨M,q,i⟩:=Gm n.c;have a:∀v:Rat,n.A ((v+n.t)*(n.b:Rat)⁻¹)=v:=λv=>by unfold Kn.A;grind
 have m:M+1<=pk n.k (M+1)/\pk n.k (-(M+1))<=-(M+1):=by
  have p:(0:Rat)<=M+1:=by grind
  have g:(1:Rat)<=M+1:=by grind
  have s:=Dx g p;have o:=Dx s p;have l:¬M+1<0:=by grind
  have j: -(M+1)<0:=by grind
  rcases h.kd with k|k|k
  .rw[k];exact⟨by show M+1<=M+1;grind,by show-(M+1)<=-(M+1);grind⟩
  .rw[k,NI,NI,BM l,Bi j];exact⟨by grind,by grind⟩
  .rw[k];show M+1<=(M+1)*(M+1)*(M+1)/\-(M+1)* -(M+1)* -(M+1)<=-(M+1);exact⟨by grind,by grind⟩
 unfold ab at i;have e:n.lo ((-(M+1)+n.t)*(n.b:Rat)⁻¹)=true:=aO.gu.mpr (by unfold Kn.f;rw[a];grind);have d:n.lo ((M+1+n.t)*(n.b:Rat)⁻¹)=false:=aO.ur.mpr (by unfold Kn.f;rw[a];grind);exact⟨_,_,e,d,h.cut.lt e d⟩
theorem To(A:aO n)(G:aO m)(g:Kr n B)(j:Kr m bs)(ne:B≠bs):Sep n.lo m.lo:=by
 have nd:¬DQ (cQ (qI B)) (cQ (qI bs)):=λd=>by
  rcases(j.YC G).or _ (aK _) d with u|d'
  .exact(g.YC A).un u
  .exact ne (Ct g.l2 j.l2 g.pos j.pos g.one j.one d d')
 obtain⟨u,v,fu,fv,e⟩:=(g.YC A).cop (aK _) nd;obtain⟨u,_,rfl⟩:=aU fu;obtain⟨v,_,rfl⟩:=aU fv;obtain⟨r1,_,T⟩:=aU ((aK u).mul (aK (qI B)));obtain⟨r2,_,S⟩:=aU ((aK v).mul (aK (qI bs)));have one:∀x,Num.ev x u*Num.ev x (qI B)+Num.ev x v*Num.ev x (qI bs)=1:=λx=>by rw[<-qz x (c:=r1) (λk=>tj T k),<-qz x (c:=r2) (λk=>tj S k),<-kF x (c:=[1]) λk=>by rw[T,S];exact tj e k,KL]
 refine Fk λno=>?_;have a:∀z,n.lo z=m.lo z:=λz=>Fk λq=>no ⟨z,q⟩;obtain⟨x,y,F,E,b⟩:=Tn A;obtain⟨D,b10,L⟩:=pB (Fm b) u;obtain⟨C,b20,K⟩:=pB (Fm b) v;obtain⟨c1,O,J⟩:=g.small A;obtain⟨c2,M,H⟩:=j.small G;refine vg (dX:=λl r=>n.lo l=true/\n.lo r=false) b (λl m' r _ _ _ h=>?_) (λN=>?_) ⟨F,E⟩
 .cases q:n.lo m' with
  |true=>exact .inr ⟨rfl,h.2⟩
  |false=>exact .inl ⟨h.1,rfl⟩
 .have p:∀{k:Kn},(∀z,n.lo z=k.lo z)->(∃s,N.P s k.f)->∃Q,∀x y,N.I Q x->N.I Q y->x<y->¬(n.lo x=true/\n.lo y=false):=λ{k} a ⟨s,hs,c,c0,i,R⟩=>by refine⟨i,λx y F E _ h=>?_⟩;rw[a,a]at h;have Y:=R x F;have a2:=R y E;have a3:=aO.gu.mp h.1;have a4:=aO.ur.mp h.2;rcases hs with rfl|rfl<;>grind
  rcases N.FY (A.Kv x y (Fm b))with z1|p1
  .rcases N.FY (G.Kv x y (Fm b))with Z|p2
   .exfalso
    have q1:=SU.mpr (show(0:Rat)<4*(D+1) by grind);have q2:=SU.mpr (show(0:Rat)<4*(C+1) by grind);have i1:4*(D+1)*(4*(D+1))⁻¹=1:=Hn _ (by grind);have i2:4*(C+1)*(4*(C+1))⁻¹=1:=Hn _ (by grind);obtain⟨w,h1⟩:=z1 _ (Ha O q1);obtain⟨t,h2⟩:=Z _ (Ha M q2);have i:N.I (max w t) (N.l (max w t)):=⟨by grind,Fm (N.lt _)⟩;have Y:=J _ _ (h1 _ (N.mono (mI w t) i));have a2:=H _ _ (h2 _ (N.mono (oy w t) i));have X:=cX (iW (L _ (N.base i)) (show D<=D+1 by grind)) Y;have U:=cX (iW (K _ (N.base i)) (show C<=C+1 by grind)) a2;have o:=one (N.l (max w t));unfold zJ at X U;unfold ab at X U;grind
   .exact p a p2
  .exact p (λ_=>rfl) p1
noncomputable def nums(l:List (Kn×List Int)):List Kn:=l.flatMap λx=>if x.1.k=2 then[x.1,x.1.cj]else[x.1]
noncomputable def cuts(l:List (Kn×List Int)):List (Rat->Bool):=(nums l).map Kn.lo
def sQ(F:List (Rat->Bool))(w:List Int):Prop:=∀x y:Rat,Num.ev x (qI w)≠0->(∀f∈F,i9 x y f=false)->∃c:Rat,0<c/\∀z,In x y z->c<=Num.ev z (qI w)\/Num.ev z (qI w)<=-c
theorem sQ.up(h:sQ F w)(s:∀f∈F,f∈G):sQ G w:=λx y a b=>h x y a λf c=>b f (s f c)
theorem sQ.mul(f:0<v.length)(k:sQ F v)(j:sQ F w):sQ F (yD v w):=λx y e g=>by
 rw[Ie f]at e;obtain⟨c,i,n⟩:=k x y (λz=>e (by rw[z,X9])) g;obtain⟨d,h,l⟩:=j x y (λz=>e (by rw[z,Pl])) g;refine⟨c*d,Ha i h,λz hz=>?_⟩;rw[Ie f];have a:=n z hz;have b:=l z hz;generalize Num.ev z (qI v)=p at*;generalize Num.ev z (qI w)=q at*;have m:∀{p q:Rat},c<=p->d<=q->c*d<=p*q:=λr o=>vt (Fm i) r (Fm h) o;rcases a with a|a<;>rcases b with b|b
 .exact .inl (m a b)
 .have:=m a (show d<=-q by grind);exact .inr (by grind)
 .have:=m (show c<=-p by grind) b;exact .inr (by grind)
 .have:=m (show c<=-p by grind) (show d<=-q by grind);exact .inl (by grind)
theorem Kr.off(h:Kr n ms)(k:aO n):sQ (cuts [(n,ms)]) ms:=λx y j g=>by
 obtain⟨c,o,i⟩:=h.ev;have b:n.lo∈cuts [(n,ms)]/\(n.k=2->n.cj.lo∈cuts [(n,ms)]):=by
  unfold cuts nums;by_cases e:n.k=2
  .simp[e]
  .simp[e]
 obtain⟨d,m,l⟩:=k.stay (λz=>j (by rw[i]at z;exact(Kk.mp z).resolve_left (by grind))) (g _ b.1) λe=>g _ (b.2 e);have q:c*c⁻¹=1:=Hn _ (by grind);have f:=SU.mpr o;refine⟨c⁻¹*d,Ha f m,λz hz=>?_⟩;have a:=l z hz;rw[i]at a;generalize Num.ev z (qI ms)=p at*;have r:c⁻¹*(c*p)=p:=by grind
 rcases a with a|a
 .have:=Dx a (Fm f);exact .inl (by grind)
 .have:=Dx a (Fm f);exact .inr (by grind)
structure Kw(l:List (Kn×List Int))(w:List Int):Prop where
 ok:∀x∈l,aO x.1/\Kr x.1 x.2/\DQ (cQ (qI x.2)) (cQ (qI w))
 df:l.Pairwise λx y=>x.2≠y.2
 off:sQ (cuts l) w
 w0:0<w.length
 nz:w.getD (w.length -1) 0≠0
theorem Og{d:Pq}(a:0<v.length)(h:DQ d (cQ (qI v))):DQ d (cQ (qI (yD v w))):=by refine(h.mul (cQ (qI w)) (aK _)).ext λk=>?_;rw[cT,Cs a,gh];show((ku (co v) (co w) k:Int):Rat)=_;rw[<-qm,bE];exact bq (λi=>(cT w i).symm) (λi=>(cT v i).symm) k
theorem Tp{d:Pq}(a:0<v.length)(h:DQ d (cQ (qI w))):DQ d (cQ (qI (yD v w))):=by refine(h.mul (cQ (qI v)) (aK _)).ext λk=>?_;rw[cT,Cs a,gh];show((ku (co v) (co w) k:Int):Rat)=_;rw[<-qm];exact bq (λi=>(cT v i).symm) (λi=>(cT w i).symm) k
theorem Tq:Kw [] [1]:=by refine⟨λx h=>(by cases h),Y8,λx y _ _=>⟨1,by decide,λz _=>.inl ?_⟩,by decide,by decide⟩;show(1:Rat)<=((1:Int):Rat)+z*0;rw[Pl];decide+kernel
theorem yE(l m:List (Kn×List Int)):cuts (l++m)=cuts l++cuts m:=by unfold cuts nums;rw[dV,rp]
structure Kx(l:List (Kn×List Int))(n:Kn)(ms:List Int)(w:List Int):Prop where
 ok:∀x∈l,aO x.1/\Kr x.1 x.2/\DQ (cQ (qI x.2)) (cQ (qI w))
 off:sQ (cuts (l++[(n,ms)])) w
 w0:0<w.length
 nz:w.getD (w.length -1) 0≠0
theorem Kw.start(h:Kw l w)(n:Kn)(ms:List Int):Kx l n ms w:=⟨h.ok,h.off.up λf a=>by rw[yE];exact fe _ a,h.w0,h.nz⟩
theorem Kx.mul(h:Kx l n ms w)(k:aO n)(r:Kr n ms):Kx l n ms (yD w ms)/\DQ (cQ (qI ms)) (cQ (qI (yD w ms))):=by
 have g:=r.l2;refine⟨⟨λx a=>?_,h.off.mul h.w0 ((r.off k).up λf b=>by rw[yE];exact Mo _ b),by rw[nR];have:=h.w0;lia,?_⟩,Tp h.w0 (DQ.refl _)⟩
 .obtain⟨e,d,c⟩:=h.ok x a;exact⟨e,d,Og h.w0 c⟩
 .rw[v9 h.w0 (by lia)];exact Pi h.nz r.nz
theorem Kx.more(h:Kx l n ms w)(k:aO n)(r:Kr n ms)(d:DQ (cQ (qI ms)) (cQ (qI w)))(df:l.Pairwise λx y=>x.2≠y.2)(b:∀x∈l,x.2≠ms):Kw (l++[(n,ms)]) w:=by
 refine⟨λx a=>?_,List.pairwise_append.mpr ⟨df,wa _ _,λx a y c=>?_⟩,h.off,h.w0,h.nz⟩
 .rcases Re.mp a with a|a
  .exact h.ok x a
  .rw[FR.mp a];exact⟨k,r,d⟩
 .rw[FR.mp c];exact b x a
theorem Kw.rest(h:Kw l w)(a:0<q.length)(b:q.getD (q.length -1) 0≠0)(d:∀x,1<=Num.ev x (qI q)):Kw l (yD w q):=by
 refine⟨λx c=>?_,h.df,h.off.mul h.w0 λx y _ _=>⟨1,by decide,λz _=>.inl (d z)⟩,by rw[nR];have:=h.w0;lia,?_⟩
 .obtain⟨g,f,e⟩:=h.ok x c;exact⟨g,f,Og h.w0 e⟩
 .rw[v9 h.w0 a];exact Pi h.nz b
theorem Kw.count(h:Kw l w)(J:2<=w.length)(U:c≠0)(S:Cc (Bu c (qI w)) C){lo t:Rat}(O:lo<t):oF C lo=oF C t+(nums l).countP λn=>i9 lo t n.lo:=by
 have D:=jm h.nz;have P:Rp (Bu c (qI w)):=⟨Ge U D,by rw[Bv,cC];exact J⟩;have g:∀x∈l,∀n∈(if x.1.k=2 then[x.1,x.1.cj]else[x.1]),aO n/\Kr n x.2:=λx e n b=>by
  obtain⟨u,o,_⟩:=h.ok x e;by_cases j:x.1.k=2
  .rw[Bi j]at b;rcases Hk.mp b with rfl|b
   .exact⟨u,o⟩
   .rw[FR.mp b];exact⟨u.cj j,o.cj j⟩
  .rw[BM j,FR]at b;rw[b];exact⟨u,o⟩
 have:=S.known P O (L:=cuts l) (λf Q=>?_) ?_ λx y M e b=>?_
 .rw[this,cuts,List.countP_map];rfl
 .obtain⟨n,b,rfl⟩:=Pm.mp Q;obtain⟨x,e,b⟩:=ew.mp b;obtain⟨k,r⟩:=g x e n b;refine⟨k.cut,qI x.2,r.YC k,?_,r.rt k⟩;exact(DQ.sc c (h.ok x e).2.2).ext λi=>qA c _ i
 .unfold cuts nums;rw[List.pairwise_map,List.pairwise_flatMap];refine⟨λx e=>?_,iz (λ{x y} e s G n b m N=>?_) h.df⟩
  .by_cases j:x.1.k=2
   .rw[Bi j];exact eF.mpr ⟨λy s=>by rw[FR.mp s];exact(h.ok x e).1.P4 j,wa _ _⟩
   .rw[BM j];exact wa _ _
  .obtain⟨K,F⟩:=g x e n b;obtain⟨j,E⟩:=g y s m N;exact To K j F E G
 .rw[Gf]at e;obtain⟨d,T,R⟩:=h.off x y (λz=>e (by rw[z,Pl])) b;have p:0<c\/0< -c:=by grind
  obtain⟨a,v,A⟩:∃a:Rat,0<a/\(c=a\/c= -a):=by
   rcases p with p|p
   .exact⟨c,p,.inl rfl⟩
   .exact⟨-c,p,.inr (by grind)⟩
  have X:=Ha v T;refine⟨a*d*2⁻¹,by grind,λz hz B=>?_⟩;rw[Gf]at B;have:=R z hz;unfold ab at B;have I:d<=Num.ev z (qI w)->a*d<=a*Num.ev z (qI w):=λq=>Dx q (Fm v);have H:Num.ev z (qI w)<=-d->a*Num.ev z (qI w)<=a* -d:=λq=>Dx q (Fm v);have o:(2:Rat)*2⁻¹=1:=by grind
  generalize Num.ev z (qI w)=p at*;rcases this with q|q
  .have:=I q;rcases A with rfl|rfl<;>grind
  .have:=H q;rcases A with rfl|rfl<;>grind
noncomputable def rL:List CS:=[.set 2 (.int 1),.fr [3] true (.j3 [(.var 1)]) [.set 2 (.bin .Mult (.var 2) (.var 0))],.ret (.var 2)]
def jS:aY:=λb Q _=>∃(a:Int)(k n:Nat),b=[.int a,.int k]/\(k<=3/\a.natAbs<2^n/\n<=1000000)/\Q (.int (a^k))
theorem Av{a:Int}(h:a.natAbs<2^n):∀i:Nat,(a^i).natAbs<2^(n*i+1)
 |0=>by rw[Os,Zi];decide
 |i+1=>by
  rw[GM,HI];have p:0<2^n:=U2 (by decide)
  calc (a^i).natAbs*a.natAbs<=(a^i).natAbs*2^n:=FV _ (by lia)
   _<2^(n*i+1)*2^n:=t5 (Av h i) p
   _=2^(n*(i+1)+1):=by rw[<-Y1];congr 1;rw[rh];lia
theorem Ig(b:List W)(Q:W->Prop)(R:Addr->Prop)(h:jS b Q R):wSs e G rL (bH m Q R) (ak 4 b):=by
 obtain⟨a,k,n,rfl,⟨p,c,j⟩,g⟩:=h;show wSs _ _ rL _ [some _,some _,none,none];unfold rL;fin2;refine⟨by lia,by lia,?_⟩;rw[show((k:Nat):Int).toNat=k from rfl];refine aR (λi d=>∃o,d=[some (.int a),some (.int k),some (.int (a^i)),o]) ⟨none,by rw[Os]⟩ ?_ ?_
 .rintro i w _ N f ⟨o,rfl⟩ l;obtain⟨q,rfl⟩:=fR f;fin2;refine⟨aF (Av c i) c ?_,l _ ⟨_,by rw[GM]⟩⟩;have:n*i<=1000000*3:=Pt j (by lia);lia
 .rintro _ ⟨o,rfl⟩;rw[rF];fin2;exact g
noncomputable def iT:List CS:=[.set 2 (.int 0),.set 3 (.int 1),.Dr (.cmp .LtE (.call 0 [(.var 3),(.var 1)]) (.var 0)) [.set 3 (.bin .Mult (.int 2) (.var 3))],.Dr (.cmp .Gt (.bin .Sub (.var 3) (.var 2)) (.int 1)) [.set 4 (.bin .FloorDiv (.bin .Add (.var 2) (.var 3)) (.int 2)),.iff (.cmp .LtE (.call 0 [(.var 4),(.var 1)]) (.var 0)) [.set 2 (.var 4)] [.set 3 (.var 4)]],.ret (.var 2)]
def rM:aY:=λa Q _=>∃(N:Int)(k n:Nat),a=[.int N,.int k]/\(0<=N/\2<=k/\k<=3/\N.natAbs<2^n/\n<=100000)/\∀r:Int,0<=r->r^k<=N->N<(r+1)^k->r<=N->Q (.int r)
theorem Aw{h:Int}(a:1<=h):∀k:Nat,h<=h^(k+1)
 |0=>by rw[GM,Os,cx];exact lM _
 |k+1=>by rw[GM];have:=Aw a k;have:=h8 a (show 0<=h^(k+1) by lia);lia
theorem wc(x:List W)(Q:W->Prop)(R:Addr->Prop)(h:rM x Q R):wSs (b7 [jS]) G iT (bH m Q R) (ak 5 x):=by
 obtain⟨N,k,n,rfl,⟨C,I,A,K,J⟩,B⟩:=h;obtain⟨k,rfl⟩:∃d,k=d+1:=⟨k -1,by lia⟩;have l:∀{h:Int},0<=h->h<=2*N+2->h.natAbs<2^(n+2):=λ{h} v f=>by rw[Y1];lia
 show wSs _ _ iT _ [some (.int N),some (.int ((k+1:Nat):Int)),none,none,none];unfold iT;refine aA (λa=>a=[some (.int N),some (.int ((k+1:Nat):Int)),some (.int 0),none,none]) (λw f=>?_) ?_
 .fin2;exact f _ rfl
 rintro _ rfl;refine aA (λa=>a=[some (.int N),some (.int ((k+1:Nat):Int)),some (.int 0),some (.int 1),none]) (λw f=>?_) ?_
 .fin2;exact f _ rfl
 rintro _ rfl;refine aA (λa=>∃h:Int,(1<=h/\h<=2*N+2/\N<h^(k+1))/\a=[some (.int N),some (.int ((k+1:Nat):Int)),some (.int 0),some (.int h),none]) (λw f=>?_) ?_
 .refine HW (α:=Int) (λh=>[some (.int N),some (.int ((k+1:Nat):Int)),some (.int 0),some (.int h),none]) (λh=>1<=h/\h<=2*N+2) (λh=>(N+1 -h).toNat) 1 rfl ⟨by omega,by lia⟩ ?_;rintro h ⟨j,i⟩;fin2;refine⟨h,k+1,n+2,rfl,⟨A,l (by lia) i,by lia⟩,?_⟩;fin2;refine iI (λg=>?_) (λg=>?_)
  .have:=Da g;have:=Aw j k;fin2;exact⟨aF (n:=2) (by decide) (l (h:=h) (by omega) i) (by lia),⟨2*h,rfl,⟨by lia,by lia⟩,by show(N+1 -2*h).toNat<(N+1 -h).toNat;lia⟩⟩
  .have:=mM g;exact f _ ⟨h,⟨j,i,by lia⟩,rfl⟩
 rintro _ ⟨v,⟨L,a2,a3⟩,rfl⟩;refine aA (λa=>∃(r:Int)(o3 y:Option W),(0<=r/\r^(k+1)<=N/\N<(r+1)^(k+1))/\a=[some (.int N),some (.int ((k+1:Nat):Int)),some (.int r),o3,y]) (λw f=>?_) ?_
 .refine HW (α:=Int×Int×Option W) (λs=>[some (.int N),some (.int ((k+1:Nat):Int)),some (.int s.1),some (.int s.2.1),s.2.2]) (λs=>0<=s.1/\s.1<s.2.1/\s.2.1<=2*N+2/\s.1^(k+1)<=N/\N<s.2.1^(k+1)) (λs=>(s.2.1 -s.1).toNat) (0,v,none) rfl ⟨lM _,by show 0<v;lia,a2,by show(0:Int)^(k+1)<=N;rw[GM,Qb];exact C,a3⟩ ?_;rintro⟨c,e,o⟩ ⟨u,j,i,t,p⟩
  try dsimp only at u j i t p
  fin2;refine iI (λg=>?_) (λg=>?_)
  .have:=Da g;fin2;refine⟨⟨by decide,kM (n:=2) (by decide) (by decide)⟩,?_⟩;have z:c<(c+e).fdiv 2/\(c+e).fdiv 2<e:=by rw[QQ _ (by decide)];lia
   generalize(c+e).fdiv 2=b at*;refine⟨b,k+1,n+2,rfl,⟨A,l (by lia) (by lia),by lia⟩,?_⟩;fin2;by_cases q:b^(k+1)<=N
   .rw[Bi (Fh q)];exact⟨(b,e,some (.int b)),rfl,⟨by show 0<=b;omega,z.2,i,q,p⟩,by show(e -b).toNat<(e -c).toNat;lia⟩
   .rw[BM (by rw[Kb];exact q)];exact⟨(c,b,some (.int b)),rfl,⟨u,z.1,by show b<=_;omega,t,by show N<b^(k+1);lia⟩,by show(b -c).toNat<(e -c).toNat;lia⟩
  .have:=mM g;obtain rfl:e=c+1:=by lia
   exact f _ ⟨c,_,_,⟨u,t,p⟩,rfl⟩
 rintro _ ⟨r,o3,y,⟨F,E,D⟩,rfl⟩;fin2;refine B r F E D ?_;by_cases H:r=0
 .lia
 .have:=Aw (show 1<=r by lia) k;lia
noncomputable def wK(n:Kn):W:=.tup [.int n.t,.int n.s,.int n.u,.int n.b,.int n.k]
structure Tr(n:Kn):Prop where
 ok:aO n
 fr:n.k=1->n.u=0/\∃y:Rat,n.t=y.num/\n.b=y.den
 t2:n.t.natAbs<2^40
 b2:n.b.natAbs<2^40
 u2:n.u.natAbs<2^40
noncomputable def jE:List CS:=[.ret (.tup [(.ix (.var 0) (.int 0)),(.int 0),(.int 0),(.ix (.var 0) (.int 1)),(.int 1)])]
def Tt:aY:=λa Q _=>∃x:Rat,a=[wq x]/\Q (wK (kq x))
theorem yF(a:List W)(Q:W->Prop)(R:Addr->Prop)(h:Tt a Q R):wSs b G jE (bH m Q R) (ak 1 a):=by obtain⟨x,rfl,c⟩:=h;show wSs _ _ jE _ [some (wq x)];unfold jE wq;fin2;exact⟨_,rfl,_,rfl,af (by simp),c⟩
theorem Mq{F:List Int}(h:0<F.length):lz (F.map W.int) 0=some (.int (F.getD 0 0)):=by
 cases F with
 |nil=>cases h
 |cons y r=>exact L2.cL (j:=0) rfl
theorem XA(b:x.num.natAbs<2^40)(a:x.den<2^40):Tr (kq x):=⟨BG x,λ_=>⟨rfl,x,rfl,rfl⟩,b,a,by show(0:Int).natAbs<_;decide⟩
noncomputable def we:List CS:=[.zO [1,2,3,4,5] (.var 0),.iff (.cmp .Eq (.var 5) (.int 1)) [.ret (.tup [(.lst [(.bin .Sub (.int 0) (.var 1)),(.var 4)]),(.int 0)])] [],.set 6 (.lst [(.int 1)]),.fr [7] true (.j3 [(.var 5)]) [.set 6 (.call 0 [(.var 6),(.lst [(.bin .Sub (.int 0) (.var 1)),(.var 4)])])],.put 6 (.int 0) (.bin .Sub (.ix (.var 6) (.int 0)) (.bin .Mult (.var 3) (.ix (.lst [(.int 1),(.var 2)]) (.bin .Mod (.var 5) (.int 2))))),.ret (.tup [(.call 1 [(.var 6)]),(.blt .int [(.and [(.cmp .Eq (.bin .Mod (.var 5) (.int 2)) (.int 0)),(.cmp .Gt (.var 2) (.int 0))])])])]
def nS:aY:=λd Q _=>∃n:Kn,d=[wK n]/\Tr n/\∀(a:List Int)(c:Int),Kr n a->(∀x∈a,x.natAbs<2^200)->(n.k=1->a=[-n.t,n.b]/\c=0)->Q (.tup [wI a,.int c])
theorem Tu(h:Tr n)(k1:n.k=1):Kr n [-n.t,n.b]:=by
 obtain⟨m,y,g,e⟩:=h.fr k1;refine⟨Ee _,(by show 2<=4;decide),λ_=>rfl,λd a=>?_,h.ok.b0,1,by decide,λx=>?_⟩
 .have j:d∣y.num:=by rw[<-g];exact lr.mp (a _ FK)
  have i:d∣(y.den:Int):=by rw[<-e];exact a _ (by simp)
  have:=Tb.mpr j;have q:=Nat.dvd_gcd this (Tb.mpr i);rw[D3,y.reduced]at q;exact Tb.mp (by simpa using q)
 .have l:n.c=0:=by unfold Kn.c;rw[h.ok.s0 k1];show(0:Rat)*_=0;grind
  unfold Kn.h Kn.f;rw[BM (by rw[k1];decide),l,k1];show n.A x -0=1*(((-n.t:Int):Rat)+x*(((n.b:Int):Rat)+x*0));rw[Eg];unfold Kn.A;grind
theorem Ih{a:Int}(h:a.natAbs<2^n):(0 -a).natAbs<2^n:=by omega
structure XC(n:Kn)(i:Nat)(F:List Int):Prop where
 len:F.length=i+1
 ev:∀x,Num.ev x (qI F)=n.A x^i
 pos:0<F.getD (F.length -1) 0
 bd:∀y∈F,y.natAbs<2^(43*i+1)
theorem XC.step(h:XC n i F)(k:Tr n)(d:i<3):XC n (i+1) (yD F [0 -n.t,n.b]):=by
 have c:0<F.length:=by rw[h.len];lia
 refine⟨by rw[nR,h.len];rfl,λx=>?_,?_,λy a=>?_⟩
 .rw[Ie c,h.ev,XB];congr 1;show((0 -n.t:Int):Rat)+x*(((n.b:Int):Rat)+x*0)=_;rw[xf,Eg];unfold Kn.A;grind
 .rw[v9 (G:=[0 -n.t,n.b]) c (show 0<2 by decide)];exact rl h.pos k.ok.b0
 .have:=Of (n:=43*i+1) (m:=40) (k:=2) h.bd (λy a=>?_) (by rw[h.len];show _<=4;lia) y a
  .exact IH this (fI (by decide) (by lia))
  .rcases Hk.mp a with rfl|a
   .exact Ih k.t2
   .rw[FR.mp a];exact k.b2
theorem Ii{F:List Int}(a:2<=F.length)(v:Int):(F.set 0 v).getD ((F.set 0 v).length -1) 0=F.getD (F.length -1) 0:=by rw[SB,AC,AC,OF (by omega)]
theorem XD(n:Kn)(x:Rat):n.A x^2=n.A x*n.A x:=by rw[XB,XB,ij,Xt]
theorem Mr(O:List W)(Q:W->Prop)(R:Addr->Prop)(h:nS O Q R):wSs (b7 [uI,Au]) G we (bH m Q R) (ak 8 O):=by
 obtain⟨n,rfl,k,I⟩:=h;show wSs _ _ we _ [some (wK n),none,none,none,none,none,none,none];unfold we;refine aA (λa=>a=[some (wK n),some (.int n.t),some (.int n.s),some (.int n.u),some (.int n.b),some (.int n.k),none,none]) (λN d=>?_) ?_
 .have d:=d _ rfl;unfold wK at d⊢;fin2;exact⟨rfl,d⟩
 rintro _ rfl;by_cases v:n.k=1
 .fin2;rw[Bi (Fh v)];refine⟨af (by simp),?_⟩;have:=I [-n.t,n.b] 0 (Tu k v) (λx r=>?_) (λ_=>⟨rfl,rfl⟩)
  .rw[xf];exact⟨af (by simp),this⟩
  .have g:(2:Nat)^40<=2^200:=IR (by decide) (by decide);have:=k.t2;have:=k.b2;rcases Hk.mp r with rfl|r
   .omega
   .rw[FR.mp r];lia
 obtain⟨e,C,e2,e3⟩:∃e:Nat,n.k=(e:Int)/\2<=e/\e<=3:=by
  rcases k.ok.kd with z|z|z
  .exact absurd z v
  .exact⟨2,z,by decide,by decide⟩
  .exact⟨3,z,by decide,by decide⟩
 refine aA (λa=>a=[some (wK n),some (.int n.t),some (.int n.s),some (.int n.u),some (.int n.b),some (.int n.k),none,none]) (λN d=>?_) ?_
 .fin2;rw[BM (by rw[Kb];exact v)];exact d _ rfl
 rintro _ rfl;refine aA (λa=>a=[some (wK n),some (.int n.t),some (.int n.s),some (.int n.u),some (.int n.b),some (.int n.k),some (wI [1]),none]) (λN d=>?_) ?_
 .fin2;exact⟨af (by simp),d _ rfl⟩
 rintro _ rfl;refine aA (λa=>∃(F:List Int)(o:Option W),XC n e F/\a=[some (wK n),some (.int n.t),some (.int n.s),some (.int n.u),some (.int n.b),some (.int n.k),some (wI F),o]) (λN d=>?_) ?_
 .refine yz (l:=gO 0 1 e) (λQ I=>?_) ?_
  .fin2;rw[C];exact⟨by lia,by lia,I⟩
  refine aR (λi Z=>∃(F:List Int)(o:Option W),XC n i F/\Z=[some (wK n),some (.int n.t),some (.int n.s),some (.int n.u),some (.int n.b),some (.int n.k),some (wI F),o]) ⟨[1],none,⟨rfl,λx=>by rw[ij];show((1:Int):Rat)+x*0=1;rw[Pl];decide+kernel,by decide,λy B=>by rw[FR.mp B];decide⟩,rfl⟩ ?_ ?_
  .rintro i w _ N1 hw ⟨F,o,J,rfl⟩ eG;obtain⟨hi,rfl⟩:=fR hw;have K:=J.len;fin2;refine⟨af (by simp),F,[0 -n.t,n.b],rfl,⟨by lia,show 0<2 by decide,by lia,show 2<=200 by decide,λx r y B=>?_⟩,eG _ ⟨_,_,J.step k (by lia),rfl⟩⟩;have bx:=J.bd x r;have M:y.natAbs<2^40:=by
    rcases Hk.mp B with rfl|B
    .exact Ih k.t2
    .rw[FR.mp B];exact k.b2
   exact aF bx M (by lia)
  .rintro _ ⟨F,o,J,rfl⟩;rw[rF]at J;exact d _ ⟨F,o,J,rfl⟩
 rintro _ ⟨F,o,J,rfl⟩;have K:=J.len;have g0:F.getD 0 0∈F:=Sub.getD_mem' (by lia);have b0:(F.getD 0 0).natAbs<2^130:=Fu (J.bd _ g0) (IR (by decide) (by lia));have kk:n.k≠1:=v;have s1:=k.ok.s1 kk;have u2:=k.u2;obtain⟨z,hz,E⟩:∃z:Int,z.natAbs<2^41/\(∀x,n.h x=n.A x^e+z)/\z= -(n.u*(if e=2 then 1 else n.s)):=by
  refine⟨-(n.u*(if e=2 then 1 else n.s)),?_,λx=>?_,rfl⟩
  .split
   .omega
   .rcases s1 with q|q<;>rw[q]<;>lia
  .unfold Kn.h Kn.f Kn.c;by_cases q:e=2
   .rw[Bi (by rw[C,q];rfl),Bi q,q,XD,d5,Eg];grind
   .obtain rfl:e=3:=by lia
    rw[BM (by rw[C];decide),BM (by decide),C,Eg,FM,XB,XD];show n.A x*n.A x*n.A x -_=_;grind
 refine aA (λa=>a=[some (wK n),some (.int n.t),some (.int n.s),some (.int n.u),some (.int n.b),some (.int n.k),some (wI (F.set 0 (F.getD 0 0+z))),o]) (λN d=>?_) ?_
 .have d:=d _ rfl;have SQ:=Mq (F:=F) (by lia);unfold wI at d⊢;have P:wV (F.map W.int).length 0=some 0:=by rw[Ap,K];unfold wV;simp
  rw[hU,C]at d;fin2;refine⟨_,SQ,af (by simp),by decide,?_⟩;rw[C,i4 _ (by decide)];have T:∀y:Int,z= -(n.u*y)->F.getD 0 0+z=F.getD 0 0 -n.u*y:=λy B=>by rw[B];lia
  by_cases q:e=2
  .subst q;rw[Bi rfl]at E;rw[T 1 E.2]at d;exact⟨_,rfl,aF u2 (show(1:Int).natAbs<2^1 by decide) (by decide),0,P,d⟩
  .obtain rfl:e=3:=by lia
   rw[BM (by decide)]at E;rw[T n.s E.2]at d;exact⟨_,rfl,aF u2 (show n.s.natAbs<2^1 by rcases s1 with q|q<;>rw[q]<;>decide) (by decide),0,P,d⟩
 rintro _ rfl;have l2:2<=F.length:=by lia
 have el:=Ii l2 (F.getD 0 0+z);have pos:=J.pos;rw[<-el]at pos;have Y:∀x∈F.set 0 (F.getD 0 0+z),x.natAbs<2^200:=λx r=>by
  have U:(2:Nat)^130<=2^199:=IR (by decide) (by decide);have g2:(2:Nat)^41<=2^199:=IR (by decide) (by decide);have g3:(2:Nat)^200=2^199*2:=Gg ..;rcases List.mem_or_eq_of_mem_set r with r|rfl
  .have:=J.bd x r;have:(2:Nat)^(43*e+1)<=2^130:=IR (by decide) (by lia);lia
  .omega
 generalize S:F.set 0 (F.getD 0 0+z)=H at*;have lH:H.length=e+1:=by rw[<-S,SB,K]
 fin2;refine⟨H,200,rfl,⟨by lia,by lia,by lia,Y,by decide⟩,λp c L=>?_⟩;have c0:0<c:=by
  have h1:=L.sg;have h2:=L.c0;by_cases q:0<c
  .exact q
  .have:=rl pos (show 0< -c by lia);rw[zi]at this;lia
 have lm:p.length=e+1:=by rw[L.len,lH]
 have em:∀x,Num.ev x (qI H)=(c:Rat)*Num.ev x (qI p):=λx=>Num.um x c λj=>by rw[cT,cT,L.eq,FM]
 have kr:Kr n p:=by
  refine⟨by lia,by lia,λq=>absurd q v,L.one,?_,(c:Rat),cq.mpr c0,λx=>?_⟩
  .rw[L.eq,show H.length=p.length by lia]at pos;by_cases q:0<p.getD (p.length -1) 0
   .exact q
   .have:=gd (show 0<=c by lia) (show 0<=-p.getD (p.length -1) 0 by lia);rw[zi]at this;lia
  .rw[E.1,<-em,<-S,Mp (by lia),J.ev]
 have bm:∀x∈p,x.natAbs<2^200:=λx r=>by
  obtain⟨j,hj,rfl⟩:=Ta r;have X:=L.eq j;have U:p.getD j 0=p[j]:=by rw[AC,DL hj];rfl
  rw[U]at X;have:=Y (H.getD j 0) (Sub.getD_mem' (by lia));rw[X,HI]at this;exact IH (oC _ (by lia)) this
 have D:=λpl=>I p pl kr bm λq=>absurd q v;fin2;refine⟨by decide,?_⟩;split
 .fin2;exact⟨af (by simp),D _⟩
 .fin2;exact⟨af (by simp),D _⟩
noncomputable def rN:List CS:=[.zO [2,3,4,5,6] (.var 0),.set 7 (.bin .Mult (.var 2) (.var 1)),.iff (.cmp .Gt (.var 3) (.int 0)) [.set 7 (.bin .Add (.var 7) (.call 0 [(.bin .Mult (.var 4) (.call 1 [(.var 1),(.var 6)])),(.var 6)]))] [],.iff (.cmp .Lt (.var 3) (.int 0)) [.set 7 (.bin .Sub (.bin .Sub (.var 7) (.int 1)) (.call 0 [(.bin .Mult (.var 4) (.call 1 [(.var 1),(.var 6)])),(.var 6)]))] [],.ret (.bin .FloorDiv (.var 7) (.var 5))]
def wg:aY:=λa Q _=>∃(n:Kn)(S:Int),a=[wK n,.int S]/\Tr n/\0<S/\S.natAbs<2^60/\∀F,FL n S F->Q (.int F)
theorem Ij(D:List W)(Q:W->Prop)(R:Addr->Prop)(h:wg D Q R):wSs (b7 [rM,jS]) G rN (bH m Q R) (ak 8 D):=by
 obtain⟨n,S,rfl,k,s0,f,H⟩:=h;show wSs _ _ rN _ [some (wK n),some (.int S),none,none,none,none,none,none];unfold rN;have b0:=k.ok.b0;have t2:=k.t2;have u2:=k.u2;have i:∀g:Int,(∀J:Int,J<=g↔pC n.k J<=n.s*n.u*pC n.k S)->Q (.int ((n.t*S+g).fdiv n.b)):=λg l=>H _ (Wd s0 λm=>by rw[QQ _ (by lia),Int.le_ediv_iff_mul_le b0,<-l,dE];lia);have dv:xw 0 n.b:=⟨by lia,rj k.b2 (by decide)⟩;refine aA (λa=>∃o,a=[some (wK n),some (.int S),some (.int n.t),some (.int n.s),some (.int n.u),some (.int n.b),some (.int n.k),o]) (λN c=>?_) ?_
 .have c:=c _ ⟨none,rfl⟩;unfold wK at c⊢;fin2;exact⟨rfl,c⟩
 rintro _ ⟨o,rfl⟩;refine aA (λa=>a=[some (wK n),some (.int S),some (.int n.t),some (.int n.s),some (.int n.u),some (.int n.b),some (.int n.k),some (.int (n.t*S))]) (λN c=>?_) ?_
 .fin2;exact⟨aF t2 f (by decide),c _ rfl⟩
 rintro _ rfl;by_cases j:n.k=1
 .have s1:=k.ok.s0 j;fin2;rw[s1,BM (by decide),BM (by decide)];refine⟨dv,?_⟩;have:=i 0 λJ=>by rw[s1,j];show J<=0↔J<=0*n.u*_;rw[bo,bo]
  rw[fo]at this;exact this
 obtain⟨e,p,K,F⟩:∃e:Nat,n.k=(e:Int)/\2<=e/\e<=3:=by
  rcases k.ok.kd with z|z|z
  .exact absurd z j
  .exact⟨2,z,by decide,by decide⟩
  .exact⟨3,z,by decide,by decide⟩
 have u0:=k.ok.u0 j;have C:e=1\/e=2\/e=3:=by lia
 have B:pC n.k S=S^e:=lO p C (by lia);have L:(S^e).natAbs<2^181:=Fu (Av f e) (IR (by decide) (by lia));have M:0<S^e:=Int.pow_pos s0;have O:0<n.u*S^e:=rl u0 M;have d:∀{Q:W->Prop}{R:Addr->Prop},(∀r:Int,0<=r->pC n.k r<=n.u*S^e->n.u*S^e<pC n.k (r+1)->Q (.int r))->jS [.int S,.int n.k] (λx=>gM .Mult (.int n.u) x λy=>rM [y,.int n.k] Q R) R:=λ{Q R} q=>by
  refine⟨S,e,60,by rw[p],⟨F,f,by decide⟩,aF u2 L (by decide),n.u*S^e,e,222,by rw[p],⟨by lia,K,F,?_,by decide⟩,λr v A w _=>q r v (by rw[lO p C v];exact A) (by rw[lO p C (by lia)];exact w)⟩;rw[HI,show 222=40+182 by decide,Y1];have T:(2:Nat)^181<=2^182:=IR (by decide) (by decide)
  calc n.u.natAbs*(S^e).natAbs<=2^40*(S^e).natAbs:=SF _ (by lia)
   _<2^40*2^182:=Nat.mul_lt_mul_of_pos_left (by lia) (by decide)
 rcases k.ok.s1 j with s1|s1
 .refine aA (λa=>∃g:Int,(∀J:Int,J<=g↔pC n.k J<=n.s*n.u*pC n.k S)/\a=[some (wK n),some (.int S),some (.int n.t),some (.int n.s),some (.int n.u),some (.int n.b),some (.int n.k),some (.int (n.t*S+g))]) (λN c=>?_) ?_
  .fin2;rw[Bi (by rw[s1];decide)];fin2;refine d λr v A w=>c _ ⟨r,λJ=>?_,rfl⟩;rw[s1,cx,B];constructor
   .intro q;have:=vA n.k q;lia
   .intro q;by_cases z:J<=r
    .exact z
    .have:=vA n.k (show r+1<=J by lia);lia
  rintro _ ⟨g,l,rfl⟩;fin2;rw[BM (by rw[s1];decide)];exact⟨dv,i g l⟩
 .refine aA (λa=>a=[some (wK n),some (.int S),some (.int n.t),some (.int n.s),some (.int n.u),some (.int n.b),some (.int n.k),some (.int (n.t*S))]) (λN c=>?_) ?_
  .fin2;rw[BM (by rw[s1];decide)];exact c _ rfl
  rintro _ rfl;refine aA (λa=>∃g:Int,(∀J:Int,J<=g↔pC n.k J<=n.s*n.u*pC n.k S)/\a=[some (wK n),some (.int S),some (.int n.t),some (.int n.s),some (.int n.u),some (.int n.b),some (.int n.k),some (.int (n.t*S+g))]) (λN c=>?_) ?_
  .fin2;rw[Bi (by rw[s1];decide)];fin2;refine d λr v A w=>c _ ⟨-1 -r,λJ=>?_,by rw[show n.t*S -1 -r=n.t*S+(-1 -r) by lia]⟩;have E:(0:Rat)<(S:Rat):=cq.mpr s0;have Z:(S:Rat)*(S:Rat)⁻¹=1:=Hn _ (by grind);have X:pC n.k r≠n.u*S^e:=λz=>by have np:=(k.ok.np j ((r:Rat)*(S:Rat)⁻¹)).1;have I:pk n.k ((S:Rat)*((r:Rat)*(S:Rat)⁻¹))=pk n.k S*pk n.k ((r:Rat)*(S:Rat)⁻¹):=Gq n.k E;rw[show(S:Rat)*((r:Rat)*(S:Rat)⁻¹)=r by grind,<-cU,z,<-B,FM,cU]at I;have U:=zL n.k E;generalize pk n.k ((r:Rat)*(S:Rat)⁻¹)=y at*;generalize pk n.k (S:Rat)=P at*;have Y:P*P⁻¹=1:=Hn _ (by grind);exact np (by grind)
   rw[s1,B,show(-1:Int)*n.u*S^e= -(n.u*S^e) by rw[yn,yn,cx]];constructor
   .intro q;have:=vA n.k (show J<=-(r+1) by lia);rw[BF]at this;lia
   .intro q;by_cases z:J<=-1 -r
    .exact z
    .have:=vA n.k (show-r<=J by lia);rw[BF]at this;omega
  rintro _ ⟨g,l,rfl⟩;fin2;exact⟨dv,i g l⟩
structure Ln(n:Kn):Prop where
 nm:Tr n
 t6:n.t.natAbs<=6
 b4:n.b<=4
structure Lx(x:Rat):Prop where
 Oh:x.num.natAbs<=80
 d9:x.den<=9
noncomputable def wj:List CS:=[.iff (.cmp .Eq (.call 0 [(.var 0)]) (.call 0 [(.var 1)])) [.ret (.bl false)] [],.set 2 (.int 1),.Dr (.cmp .Eq (.call 1 [(.var 0),(.var 2)]) (.call 1 [(.var 1),(.var 2)])) [.set 2 (.bin .Mult (.var 2) (.int 64))],.ret (.cmp .Lt (.call 1 [(.var 0),(.var 2)]) (.call 1 [(.var 1),(.var 2)]))]
def Ax:aY:=λa Q _=>∃(x:Rat)(n:Kn),a=[wK (kq x),wK n]/\Lx x/\Ln n/\Q (.bl (n.lo x))
theorem wk(l:List Int)(p:Int):oH 9 (.tup [wI l,.int p])=true:=by unfold wI;simp[oH]
theorem wIj(h:wI a=wI b):a=b:=(Ng λ_ _=>W.BJ).mp (W.BK h)
theorem Lx.nm(h:Lx x):Tr (kq x):=XA (IH h.Oh (by decide)) (IH h.d9 (by decide))
theorem Ik(i:Lx x)(d:Ln n)(o:1<=S)(E:FL (kq x) S a)(D:FL n S a)(w:n.f x≠0):S<64^5:=by
 obtain⟨e,j,C,G⟩:=P5 d.nm.ok w;have b0:=d.nm.ok.b0;have b4:=d.b4;have t6:=d.t6;have Oh:=i.Oh;have h:(n.b:Rat)<=4:=Fn.mpr b4;have s:(1:Rat)<=n.b:=Fn.mpr (show(1:Int)<=n.b by lia);have m: -80<=x/\x<=80:=by
  have l:(1:Rat)<=((x.den:Int):Rat):=Fn.mpr (show(1:Int)<=x.den by have:=x.den_pos;lia);have e:=eT x;have u:((x.num:Int):Rat)<=((80:Int):Rat):=Fn.mpr (by omega);have v:((-80:Int):Rat)<=((x.num:Int):Rat):=Fn.mpr (by omega);have u:((x.num:Int):Rat)<=80:=u;have v:(-80:Rat)<=((x.num:Int):Rat):=v;generalize((x.num:Int):Rat)=p at*;generalize((x.den:Int):Rat)=q at*;constructor
  .by_cases z: -80<=x
   .exact z
   .have:=Dx l (show 0<=-x by grind);grind
  .by_cases z:x<=80
   .exact z
   .have:=Dx l (show 0<=x by grind);grind
 have I:(-6:Rat)<=n.t/\(n.t:Rat)<=6:=⟨Fn.mpr (show(-6:Int)<=n.t by omega),Fn.mpr (show n.t<=(6:Int) by omega)⟩;have M:ab (n.A x) (330 -n.b):=by have:=cX (u:=(n.b:Rat)) (v:=x) (A:=4) (B:=80) ⟨by grind,h⟩ m;unfold ab Kn.A at*;grind
 have k:=FL.near d.nm.ok o E D (M:=330) (by decide) M j C;have d9:((x.den:Int):Rat)<=9:=Fn.mpr (show(x.den:Int)<=9 by have:=i.d9;lia);have g:(0:Rat)<=((x.den:Int):Rat):=Fn.mpr (show(0:Int)<=x.den by lia);have H:((x.den:Int):Rat)*((x.den:Int):Rat)*((x.den:Int):Rat)<=9*9*9:=vt (TB g g) (vt g d9 g d9) g d9;generalize((x.den:Int):Rat)*((x.den:Int):Rat)*((x.den:Int):Rat)=q at*;have y:(S:Rat)*e<=3*(330*330)*4:=ZS k (Dx h (by decide+kernel));have F:1<=e*(9*9*9):=ZS G (Dx H (Fm j));have r:(0:Rat)<=(S:Rat):=Fn.mpr (show(0:Int)<=S by lia);have K:=Dx F r;have J:=Sr y (show(0:Rat)<=9*9*9 by decide+kernel);have c:(S:Rat)<=952657200:=by grind
 have c:S<=952657200:=Fn.mp c;exact Int.lt_of_le_of_lt c (by decide)
theorem Mt(P:List W)(Q:W->Prop)(R:Addr->Prop)(h:Ax P Q R):wSs (b7 [nS,wg]) G wj (bH m Q R) (ak 3 P):=by
 obtain⟨x,n,rfl,U,X,F⟩:=h;have E:=U.nm;have i:=X.nm;show wSs _ _ wj _ [some (wK (kq x)),some (wK n),none];unfold wj;by_cases o:n.f x=0
 .have lf:n.lo x=false:=aO.ur.mpr (by rw[o];exact k7);rw[lf]at F;have q:n.k=1:=Fk λz=>by have a:=i.ok.Wc (z:=x) (e:=0) (by rw[o];exact⟨by decide,by decide⟩);unfold ab at a;exact i.ok.P1 z x (by grind)
  obtain⟨_,y,Z,Y⟩:=i.fr q;have xy:x=y:=by
   have c0:n.c=0:=by unfold Kn.c;rw[i.ok.s0 q];show(0:Rat)*_=0;grind
   have:n.A x=0:=by unfold Kn.f at o;rw[q,c0]at o;have o:n.A x -0=0:=o;grind
   unfold Kn.A at this;rw[Z,Y,<-eT y]at this;have d:(0:Rat)<((y.den:Int):Rat):=(BG y).qb;have:((y.den:Int):Rat)*(x -y)=0:=by grind
   have:=(Kk.mp this).resolve_left (by grind);grind
  subst xy;fin2;refine⟨kq x,rfl,E,λms pl _ _ w=>⟨n,rfl,i,λI Yn _ _ D=>⟨.inl ⟨wk ..,wk ..⟩,λb M=>?_⟩⟩⟩;obtain⟨rfl,rfl⟩:=w rfl;obtain⟨rfl,rfl⟩:=D q;rw[M.mpr (by rw[Z,Y];rfl)];exact F
 refine aA (λg=>g=[some (wK (kq x)),some (wK n),none]) (λN C=>?_) ?_
 .fin2;refine⟨kq x,rfl,E,λms pl r1 _ w=>⟨n,rfl,i,λI Yn r2 _ D=>⟨.inl ⟨wk ..,wk ..⟩,λb M=>?_⟩⟩⟩;obtain⟨rfl,rfl⟩:=w rfl;have bf:b=false:=by
   cases b with
   |false=>rfl
   |true=>
    exfalso
    have e:=W.NJ (M.mp rfl);have e:=(n0 e).1;have e:=wIj e;subst e;obtain⟨c,c0,ec⟩:=r2.ev;have H:n.h x=0:=by
     rw[ec];have:Num.ev x (qI [-(kq x).t,(kq x).b])=0:=by show((-x.num:Int):Rat)+x*(((x.den:Int):Rat)+x*0)=0;have:=eT x;rw[Eg];grind
     rw[this,Pl]
    by_cases q:n.k=1
    .unfold Kn.h at H;rw[BM (by rw[q];decide)]at H;exact o H
    .exact i.ok.P1 q x H
  rw[bf];fin2;exact C _ rfl
 rintro _ rfl;refine aA (λg=>g=[some (wK (kq x)),some (wK n),some (.int (64^0))]) (λN C=>?_) ?_
 .fin2;exact C _ rfl
 rintro _ rfl;have bs:∀{j:Nat},j<=5->0<(64:Int)^j/\((64:Int)^j).natAbs<2^60:=λ{j} r=>by
  match j,r with
  |0,_|1,_|2,_|3,_|4,_|5,_=>decide+kernel
 refine aA (λg=>∃j:Nat,(j<=5/\∀a c,FL (kq x) (64^j) a->FL n (64^j) c->a≠c)/\g=[some (wK (kq x)),some (wK n),some (.int (64^j))]) (λN C=>?_) ?_
 .refine HW (α:=Nat) (λj=>[some (wK (kq x)),some (wK n),some (.int (64^j))]) (λj=>j<=5) (λj=>6 -j) 0 rfl (by decide) ?_;rintro j r;obtain⟨p,B⟩:=bs r;fin2;refine⟨kq x,_,rfl,E,p,B,λa v=>⟨n,_,rfl,i,p,B,λc s=>?_⟩⟩;fin2;refine iI (λK=>?_) (λK=>?_)
  .have:=Da K;subst this;have lt:=Ik U X (by lia) v s o;have j5:j<5:=by
    by_cases z:j<5
    .exact z
    .obtain rfl:j=5:=by lia
     exact absurd lt (by decide+kernel)
   fin2;exact⟨aF B (show(64:Int).natAbs<2^7 by decide) (by decide),j+1,(by show _=[some (wK (kq x)),some (wK n),some (W.int (64^(j+1)))];rw[GM]),by show j+1<=5;lia,by show 6 -(j+1)<6 -j;lia⟩
  .have T:=mM K;refine C _ ⟨j,⟨r,λa' c' O L e=>T ?_⟩,rfl⟩;have u:∀{n:Kn}{S a b:Int},FL n S a->FL n S b->a=b:=λ{n S a b} w D=>by have:=(D a).mpr ((w a).mp (by lia));have:=(w b).mpr ((D b).mp (by lia));lia
   rw[u v O,u s L,e]
 rintro _ ⟨j,⟨r,J⟩,rfl⟩;obtain⟨p,B⟩:=bs r;fin2;refine⟨kq x,_,rfl,E,p,B,λa v=>⟨n,_,rfl,i,p,B,λc s=>?_⟩⟩;fin2;have T:=J a c v s;by_cases l:a<c
 .rw[Fh l,<-FL.lt i.ok p v s l];exact F
 .rw[Hb l,<-FL.gt i.ok p v s (by lia)];exact F
noncomputable def Il:List CS:=[.ret (.and [(.call 0 [(.call 1 [(.var 1)]),(.var 0)]),(.not (.call 0 [(.call 1 [(.var 2)]),(.var 0)]))])]
def Mu:aY:=λa Q _=>∃(n:Kn)(x y:Rat),a=[wK n,wq x,wq y]/\Ln n/\Lx x/\Lx y/\Q (.bl (i9 x y n.lo))
theorem XE(b:List W)(Q:W->Prop)(R:Addr->Prop)(h:Mu b Q R):wSs (b7 [Ax,Tt]) G Il (bH m Q R) (ak 3 b):=by
 obtain⟨n,x,y,rfl,c,f,d,a⟩:=h;show wSs _ _ Il _ [some (wK n),some (wq x),some (wq y)];unfold Il;fin2;refine⟨x,rfl,x,n,rfl,f,c,?_⟩;fin2;unfold i9 at a;cases e:n.lo x with
 |false=>rw[e]at a;exact a
 |true=>rw[e]at a;fin2;exact⟨y,rfl,y,n,rfl,d,c,a⟩
structure VV(ns:List Int)(V:Rat->Nat):Prop where
 one:ns.length=1->∀x,V x=0
 cn:∀lo hi v,2<=ns.length->Ctn ns lo hi v->v=(V lo:Int) -V hi
 se:∀lo hi,lo<hi->V hi<=V lo
 few:∀x,V x+1<=ns.length
 odd:(2<=ns.length->∀d,Num.Fin d->DQ d (cz ns)->DQ d (cz (eE ns))->Un d)->∀lo hi,Num.ev lo (qI ns)*Num.ev hi (qI ns)≠0->(Num.ev lo (qI ns)*Num.ev hi (qI ns)<0↔(V lo+V hi)%2=1)
 ex:2<=ns.length->∃c C,c≠0/\Cc (Bu c (qI ns)) C/\V=oF C
theorem Ay(t:Int)(a:0<b):B1 t b*(b:Rat)=t:=by
 have:(b:Rat)≠0:=λz=>by have:=Iy.mp z;lia
 rw[n4];grind
theorem wm(c:0<b):((B1 t b).den:Int)<=b/\(B1 t b).num.natAbs<=t.natAbs:=by
 have h:Cd b (t.natAbs+1) (B1 t b):=⟨t,Ay t c,Nat.lt_trans (RF _) Nat.lt_two_pow_self⟩;obtain⟨a,_⟩:=h.dvd;have e:=gI a;rw[Ay t c]at e;have e:=mB.mp e;have g:=(B1 t b).den_pos;refine⟨lj c a,?_⟩;obtain⟨u,d⟩:=a;have q:b/((B1 t b).den:Int)=u:=by have:b/((B1 t b).den:Int)=((B1 t b).den:Int)*u/((B1 t b).den:Int):=Q1 (·/((B1 t b).den:Int)) d;rw[this,gN _ (by lia)]
 have f:u≠0:=λz=>by rw[z,Qb]at d;lia
 rw[q]at e;have:=Q1 YJ e;rw[HI]at this;rw[<-this];exact Y2 _ (by lia)
theorem Im(k:Int)(y:Rat):pk k (-y)= -pk k y:=by
 unfold pk;by_cases d:k=1
 .rw[Bi d,Bi d]
 rw[BM d,BM d];by_cases c:k=2
 .rw[Bi c,Bi c];by_cases a:y<0
  .rw[Bi a,BM (by grind)];grind
  .rw[BM a];by_cases b: -y<0
   .rw[Bi b];grind
   .rw[BM b,show y=0 by grind];grind
 .rw[BM c,BM c];grind
theorem Tv{e:Nat}(h:e=2\/e=3)(a:0<=y):pk (e:Int) y=y^e:=by
 rcases h with rfl|rfl
 .show pk 2 y=_;rw[NI,BM (by grind),XB,XB,ij,Xt]
 .show y*y*y=_;rw[XB,XB,XB,ij,Xt]
theorem Oi{k u r:Int}{e:Nat}(c:k=(e:Int))(h:e=2\/e=3)(f:0<=r)(l:r^e<u)(j:u<(r+1)^e)(y:Rat):pk k y≠(u:Rat)/\pk k y≠-(u:Rat):=by
 have m:e=1\/e=2\/e=3:=.inr h;have l:pk k (r:Rat)<(u:Rat):=by rw[<-cU,lO c m f];exact my.mpr l
 have j:(u:Rat)<pk k ((r+1:Int):Rat):=by rw[<-cU,lO c m (by lia)];exact my.mpr j
 have p:(0:Rat)<=(r:Rat):=Fn.mpr f;have a:∀y:Rat,pk k y≠(u:Rat):=λy b=>by
  have i:(r:Rat)<y:=by
   by_cases z:y<=(r:Rat)
   .have:=BE k z;grind
   .grind
  have g:y<((r+1:Int):Rat):=by
   by_cases z:((r+1:Int):Rat)<=y
   .have:=BE k z;grind
   .grind
  rw[c,Tv h (by grind)]at b;have d:=Q1 Rat.den b;rw[Rat.den_pow]at d;have d:y.den^e=1:=d;have o:y.den=1:=by
   rcases Nat.pow_eq_one.mp d with z|z
   .exact z
   .rcases h with rfl|rfl<;>cases z
  have n:y=(y.num:Rat):=by have:=eT y;rw[o]at this;have this:y*1=y.num:=this;grind
  rw[n]at i g;have:=my.mp i;have:=my.mp g;lia
 refine⟨a y,λb=>a (-y) ?_⟩;rw[Im,b];grind
noncomputable def gX:List CS:=[.iE 2 (.ix (.var 1) (.jL 0 0 [(.blt .len [(.var 1)])])),.iE 3 (.bin .Add (.int 1) (.bin .Mult (.jL 0 0 [(.int 4)]) (.jL 0 0 [(.int 2)]))),.iE 4 (.bin .Sub (.jL 0 0 [(.int 13)]) (.int 6)),.iff (.cmp .Eq (.var 2) (.int 1)) [.zO [4,3] (.call 1 [(.var 4),(.var 3)]),.Du (.tup [(.var 4),(.int 0),(.int 0),(.var 3),(.int 1)])] [],.iE 5 (.bin .Add (.int 2) (.jL 0 0 [(.int 40)])),.set 6 (.ix (.lst [(.int 2),(.var 2)]) (.bin .Mod (.var 2) (.int 2))),.iff (.cmp .Eq (.call 2 [(.call 3 [(.var 5),(.var 6)]),(.var 6)]) (.var 5)) [.set 5 (.bin .Add (.var 5) (.int 1))] [],.Uk (.tup [(.var 4),(.bin .Sub (.int 1) (.bin .Mult (.int 2) (.jL 0 0 [(.int 2)]))),(.var 5),(.var 3),(.var 2)])]
theorem Lx.small{x:Rat}(d:0<b)(f:b<=9)(a:t.natAbs<=80):Lx (B1 t b):=by obtain⟨e,c⟩:=wm (t:=t) d;exact⟨Do c a,by lia⟩
def Lu(n:Kn):Prop:=Ln n/\n.u<=42/\(n.k=1->∀y:Rat,n.t=y.num->n.b=y.den->Lx y)
def gY:aY:=λe Q _=>∃(a b:Int),e=[wW a b,.lst [.int 1,.int 1,.int 2,.int 3]]/\Wl a b/\∀n d c,Lu n->Wl d c->Q (.tup [wK n,wW d c])
theorem XF{x y z:W}(b:0<=i)(a:i<4):∃w,lz [x,x,y,z] i=some w/\(w=x\/w=y\/w=z):=by
 have:i=0\/i=1\/i=2\/i=3:=by lia
 rcases this with rfl|rfl|rfl|rfl
 .exact⟨x,rfl,.inl rfl⟩
 .exact⟨x,rfl,.inl rfl⟩
 .exact⟨y,rfl,.inr (.inl rfl)⟩
 .exact⟨z,rfl,.inr (.inr rfl)⟩
theorem DS(M:List W)(Q:W->Prop)(R:Addr->Prop)(h:gY M Q R):wSs (b7 [jC,Am,jS,rM]) G gX (bH (.io m) Q R) (ak 7 M):=by
 obtain⟨a,b,rfl,j,T⟩:=h;show wSs _ _ gX _ [some (wW a b),some (.lst [.int 1,.int 1,.int 2,.int 3]),none,none,none,none,none];unfold gX;refine aA (λc=>∃a b k,(Wl a b/\(k=1\/k=2\/k=3))/\c=[some (wW a b),some (.lst [.int 1,.int 1,.int 2,.int 3]),some (.int k),none,none,none,none]) (λN i=>?_) ?_
 .fin2;refine⟨a,b,4,rfl,j,by decide,by decide,λx o l D C f=>⟨_,_,rfl,?_⟩⟩;fin2;obtain⟨w,e,I⟩:=XF (x:=.int 1) (y:=.int 2) (z:=.int 3) D C;refine⟨w,e,?_⟩;rcases I with rfl|rfl|rfl
  .exact i _ ⟨o,l,1,⟨f,.inl rfl⟩,rfl⟩
  .exact i _ ⟨o,l,2,⟨f,.inr (.inl rfl)⟩,rfl⟩
  .exact i _ ⟨o,l,3,⟨f,.inr (.inr rfl)⟩,rfl⟩
 clear j a b;rintro _ ⟨a,b,k,⟨j,U⟩,rfl⟩;refine aA (λc=>∃a b d,(Wl a b/\1<=d/\d<=4)/\c=[some (wW a b),some (.lst [.int 1,.int 1,.int 2,.int 3]),some (.int k),some (.int d),none,none,none]) (λN i=>?_) ?_
 .fin2;refine⟨a,b,4,rfl,j,by decide,by decide,λx o l D C f=>⟨_,_,rfl,?_⟩⟩;fin2;refine⟨o,l,2,rfl,f,by decide,by decide,λy a2 L Z Y H=>⟨_,_,rfl,?_⟩⟩;fin2;have:y=0\/y=1:=by lia
  refine⟨aF (n:=3) (m:=3) (by lia) (by lia) (by decide),i _ ⟨a2,L,_,⟨H,?_⟩,rfl⟩⟩;rcases this with rfl|rfl<;>lia
 clear j a b;rintro _ ⟨a,b,d,⟨j,d0,d4⟩,rfl⟩;refine aA (λc=>∃a b t,(Wl a b/\-6<=t/\t<=6)/\c=[some (wW a b),some (.lst [.int 1,.int 1,.int 2,.int 3]),some (.int k),some (.int d),some (.int t),none,none]) (λN i=>?_) ?_
 .fin2;exact⟨a,b,13,rfl,j,by decide,by decide,λx o l D C f=>⟨_,_,rfl,i _ ⟨o,l,_,⟨f,by lia,by lia⟩,rfl⟩⟩⟩
 clear j a b;rintro _ ⟨a,b,t,⟨j,t0,t1⟩,rfl⟩;by_cases A:k=1
 .subst A;fin2;rw[Bi (by decide)];refine⟨t,d,4,rfl,by decide,by lia,by omega,rfl,af (by simp),?_⟩;have F:=Lx.small (x:=0) (t:=t) (b:=d) (by lia) (by lia) (by lia);obtain⟨s1,s2⟩:=wm (t:=t) (b:=d) (by omega);refine T (kq (B1 t d)) a b ⟨⟨F.nm,by show _<=6;exact Do s2 (by lia),by show((B1 t d).den:Int)<=4;lia⟩,(by show(0:Int)<=42;decide),λ_ y K X=>?_⟩ j;have K:(B1 t d).num=y.num:=K;have X:((B1 t d).den:Int)=y.den:=X;exact⟨by rw[<-K];exact F.Oh,by have:=F.d9;lia⟩
 obtain⟨e,p,B⟩:∃e:Nat,k=(e:Int)/\(e=2\/e=3):=by
  rcases U with z|z|z
  .exact absurd z A
  .exact⟨2,z,.inl rfl⟩
  .exact⟨3,z,.inr rfl⟩
 refine aA (λc=>c=[some (wW a b),some (.lst [.int 1,.int 1,.int 2,.int 3]),some (.int k),some (.int d),some (.int t),none,none]) (λN i=>?_) ?_
 .fin2;rw[BM (by rw[Kb];exact A)];exact i _ rfl
 rintro _ rfl;refine aA (λc=>∃a b u,(Wl a b/\2<=u/\u<=41)/\c=[some (wW a b),some (.lst [.int 1,.int 1,.int 2,.int 3]),some (.int k),some (.int d),some (.int t),some (.int u),none]) (λN i=>?_) ?_
 .fin2;exact⟨a,b,40,rfl,j,by decide,by decide,λx o l D C f=>⟨_,_,rfl,i _ ⟨o,l,_,⟨f,by lia,by lia⟩,rfl⟩⟩⟩
 clear j a b;rintro _ ⟨a,b,u,⟨j,u0,O⟩,rfl⟩;refine aA (λc=>c=[some (wW a b),some (.lst [.int 1,.int 1,.int 2,.int 3]),some (.int k),some (.int d),some (.int t),some (.int u),some (.int k)]) (λN i=>?_) ?_
 .have i:=i _ rfl;fin2;rw[i4 _ (by decide)];rcases B with rfl|rfl
  .subst p;exact⟨af (by simp),by decide,_,rfl,i⟩
  .subst p;exact⟨af (by simp),by decide,_,rfl,i⟩
 rintro _ rfl;refine aA (λc=>∃v:Int,(2<=v/\v<=42/\∀y:Rat,pk k y≠(v:Rat)/\pk k y≠-(v:Rat))/\c=[some (wW a b),some (.lst [.int 1,.int 1,.int 2,.int 3]),some (.int k),some (.int d),some (.int t),some (.int v),some (.int k)]) (λN i=>?_) ?_
 .fin2;refine⟨u,e,6,by rw[p],⟨by lia,by lia,by lia,by omega,by decide⟩,λr s S E P=>?_⟩;refine⟨r,e,6,by rw[p],⟨by lia,by lia,by decide⟩,?_⟩;fin2;have J:r^e+2<(r+1)^e\/r=0:=by
   by_cases z:r=0
   .exact .inr z
   .left;rcases B with rfl|rfl
    .have:(r+1)^2=r^2+2*r+1:=by rw[GM,GM,Os,GM,GM,Os];grind
     lia
    .have:(r+1)^3=r^3+3*(r*r)+3*r+1:=by rw[GM,GM,GM,Os,GM,GM,GM,Os];grind
     have:=gd s s;lia
  by_cases q:r^e=u
  .rw[Bi (Fh q)];refine i _ ⟨u+1,⟨by lia,by lia,Oi p B s (by lia) ?_⟩,rfl⟩;rcases J with g|g
   .lia
   .exfalso
    rw[g]at q;rcases B with rfl|rfl
    .have q:(0:Int)=u:=q;clear q E S p g P s O;lia
    .have q:(0:Int)=u:=q;clear q E S p g P s O;lia
  .rw[BM (by rw[Kb];exact q)];exact i _ ⟨u,⟨u0,by lia,Oi p B s (by lia) E⟩,rfl⟩
 rintro _ ⟨v,⟨v0,v1,np⟩,rfl⟩;fin2;refine⟨a,b,2,rfl,j,by decide,by decide,λy a2 L Z Y H=>⟨_,_,rfl,?_⟩⟩;fin2;have:y=0\/y=1:=by lia
 refine⟨aF (n:=3) (m:=3) (by decide) (by lia) (by decide),af (by simp),?_⟩;refine T ⟨t,1 -2*y,v,d,k⟩ a2 L ⟨⟨⟨⟨by show 0<d;lia,U,λz=>absurd z A,λ_=>?_,λ_=>by show 0<v;lia,λ_=>np⟩,λz=>absurd z A,?_,?_,?_⟩,by show t.natAbs<=6;lia,d4⟩,v1,λz=>absurd z A⟩ H
 .show 1 -2*y=1\/1 -2*y= -1;lia
 .show t.natAbs<2^40;omega
 .show d.natAbs<2^40;omega
 .show v.natAbs<2^40;omega
noncomputable def wKs(l:List Kn):W:=.lst (l.map wK)
noncomputable def rO:List CS:=[.iE 2 (.jL 0 0 [(.int 3)]),.iff (.and [(.cmp .Eq (.var 2) (.int 0)),(.cmp .NotEq (.var 1) (.lst []))]) [.iE 3 (.ix (.var 1) (.jL 0 0 [(.blt .len [(.var 1)])])),.iff (.cmp .Eq (.ix (.var 3) (.int 4)) (.int 1)) [.Du (.tup [(.ix (.var 3) (.int 0)),(.ix (.var 3) (.int 3))])] []] [],.Uk (.call 1 [(.bin .Sub (.jL 0 0 [(.int 161)]) (.int 80)),(.bin .Add (.int 1) (.bin .Mult (.bin .Mult (.jL 0 0 [(.int 9)]) (.bin .Sub (.var 2) (.int 1))) (.bin .Sub (.var 2) (.int 1))))])]
def yG:aY:=λe Q _=>∃(a b:Int)(l:List Kn),e=[wW a b,wKs l]/\Wl a b/\l.length<=100/\(∀n∈l,Lu n)/\∀x d c,Lx x->Wl d c->Q (.tup [wq x,wW d c])
theorem XH:∀l:List Kn,oH 9 (wKs l)=true:=λl=>by unfold wKs wK;simp[oH]
theorem Tw(v:List W)(Q:W->Prop)(R:Addr->Prop)(h:yG v Q R):wSs (b7 [jC,Am]) G rO (bH (.io m) Q R) (ak 4 v):=by
 obtain⟨a,b,l,rfl,e,P,K,B⟩:=h;show wSs _ _ rO _ [some (wW a b),some (wKs l),none,none];unfold rO;refine aA (λf=>∃a b p,(Wl a b/\0<=p/\p<3)/\f=[some (wW a b),some (wKs l),some (.int p),none]) (λN u=>?_) ?_
 .fin2;exact⟨a,b,3,rfl,e,by decide,by decide,λx q i s r c=>⟨_,_,rfl,u _ ⟨q,i,_,⟨c,s,r⟩,rfl⟩⟩⟩
 clear e a b;rintro _ ⟨a,b,p,⟨e,X,U⟩,rfl⟩;refine aA (λf=>∃a b o,Wl a b/\f=[some (wW a b),some (wKs l),some (.int p),o]) (λN u=>?_) ?_
 .have d:=u _ ⟨a,b,none,e,rfl⟩;fin2;by_cases w:p=0
  .rw[Fh w];fin2;refine⟨af (by simp),?_⟩;unfold wKs at d⊢;refine⟨.inl ⟨XH l,by decide⟩,λk D=>?_⟩;cases l with
   |nil=>rw[D.mpr rfl];fin2;exact d
   |cons g l=>
    have:k=false:=by
     cases k with
     |false=>rfl
     |true=>exact nomatch (W.BK (D.mp rfl))
    rw[this];fin2;rw[Bi (show(if true=true then !false else false)=true from rfl)];show jC [_,.int (((g::l).map wK).length:Nat)] _ _;refine⟨a,b,_,rfl,e,by simp,by simp at P⊢;lia,λx q i s r c=>⟨_,_,rfl,?_⟩⟩;rw[Ap]at r;obtain⟨j,rfl⟩:=Int.eq_ofNat_of_zero_le s;have E:j<(g::l).length:=by lia
    have L:((g::l).map wK)[j]?=some (wK (g::l)[j]):=by rw[FC,DL E];rfl
    have C:=K _ (Yf E);generalize(g::l)[j]=n at*;show NN (.lst ((g::l).map wK)) _ _;refine⟨_,L2.cL L,?_⟩;unfold wK;fin2;refine⟨_,rfl,?_⟩;fin2;by_cases t:n.k=1
    .rw[Bi (Fh t)];obtain⟨_,y,H,F⟩:=C.1.nm.fr t;refine⟨_,rfl,_,rfl,af (by simp),?_⟩;rw[H,F];exact B y q i (C.2.2 t y H F) c
    .rw[BM (by rw[Kb];exact t)];exact u _ ⟨q,i,_,c,rfl⟩
  .rw[Hb w];exact d
 clear e a b;rintro _ ⟨a,b,o,e,rfl⟩;fin2;refine⟨a,b,161,rfl,e,by decide,by decide,λx q i s r c=>⟨_,_,rfl,?_⟩⟩;fin2;refine⟨q,i,9,rfl,c,by decide,by decide,λy a2 O T S J=>⟨_,_,rfl,?_⟩⟩;fin2;have A:p -1= -1\/p -1=0\/p -1=1:=by lia
 have M:1<=1+y*(p -1)*(p -1)/\1+y*(p -1)*(p -1)<=9:=by rcases A with z|z|z<;>rw[z]<;>lia
 have I:(y*(p -1)).natAbs<2^4:=by rcases A with z|z|z<;>rw[z]<;>lia
 refine⟨aF (n:=4) (m:=1) (by lia) (by omega) (by decide),aF (n:=4) (m:=1) I (by omega) (by decide),?_⟩;exact⟨x -80,_,4,rfl,by decide,by omega,by omega,B _ a2 O (Lx.small (x:=0) (by omega) M.2 (by lia)) J⟩
noncomputable def wu:List CS:=[.ret (.comp [0] true 1 (.var 0) (.bl true) (.call 0 [(.bin .Mult (.var 0) (.ix (.var 2) (.int 0))),(.ix (.var 2) (.int 1))]))]
def wz:aY:=λb Q _=>∃(a:List Int)(y:Rat),b=[wI a,wq y]/\(a.length<=100/\(∀z∈a,z.natAbs<2^40)/\y.num.natAbs<2^40/\y.den<2^40)/\Q (bG (bY a y.num y.den))
theorem Mv(a:List W)(Q:W->Prop)(R:Addr->Prop)(h:wz a Q R):wSs (b7 [Am]) G wu (bH m Q R) (ak 2 a):=by
 obtain⟨b,y,rfl,⟨l,d,bt,e⟩,q⟩:=h;show wSs _ _ wu _ [some (wI b),some (wq y)];unfold wu wI wq;fin2;refine cO (h:=W.int) (g:=λz=>wq (B1 (z*y.num) y.den)) b [] _ (λz hz K c=>?_) (af (by simp;lia)) ?_
 .fin2;have:=y.den_pos;exact⟨_,rfl,aF (d z hz) bt (by decide),_,rfl,z*y.num,y.den,40,rfl,by decide,by lia,e,c⟩
 .unfold bY bG at q;rw[T2]at q;exact q
theorem Kr.uniq(g:Kr n e)(f:Kr n bs):e=bs:=by
 obtain⟨c,m,j⟩:=g.ev;obtain⟨d,l,i⟩:=f.ev;have o:∀{e bs:List Int}{c d:Rat},0<c->0<d->(∀x,n.h x=c*Num.ev x (qI e))->(∀x,n.h x=d*Num.ev x (qI bs))->DQ (cQ (qI e)) (cQ (qI bs)):=λ{e bs c d} m l j i=>by have p:d*d⁻¹=1:=Hn _ (by grind);refine(DQ.sc (c*d⁻¹) (DQ.refl (cQ (qI e)))).ext λk=>?_;have:=V7 (a:=qI bs) (b:=Bu (c*d⁻¹) (qI e)) (λx=>by rw[Gf];have:=j x;rw[i]at this;grind) k;exact this.trans (qA _ _ k)
 exact Ct g.l2 f.l2 g.pos f.pos g.one f.one (o m l j i) (o l m i j)
noncomputable def Mw:CE:=.cmp .LtE (.blt .max2 [(.comp [0] true 1 (.var 9) (.bl true) (.blt .abs [(.var 0)]))]) (.bin .Pow (.int 10) (.int 5))
theorem Oj(r:look a 9=some (wI v))(n:v≠[])(m:v.length<=1000)(q:∀k:Bool,(k=true↔∀y∈v,y.natAbs<=100000)->Q (.bl k)):wE b G R Mw a Q:=by
 unfold Mw;show wE b G R (.blt .max2 [(.comp [0] true 1 (.var 9) (.bl true) (.blt .abs [(.var 0)]))]) a λx=>wE b G R (.bin .Pow (.int 10) (.int 5)) a λy=>dS .LtE x y Q;have s:iF (λw K=>wT true [0] w (AW 1 none++a) λc=>wE b G (λ_=>False) (.bl true) c λx=>truth x λk=>if k=true then wE b G (λ_=>False) (.blt .abs [(.var 0)]) c λy=>K (some y)else K none) (v.map W.int) [] λl=>sF .max2 [.lst l] λx=>wE b G R (.bin .Pow (.int 10) (.int 5)) a λy=>dS .LtE x y Q:=by
  refine cO (h:=W.int) (g:=λy=>.int y.natAbs) v [] _ (λy i K p=>?_) (af (by simpa using m)) ?_
  .fin2;rw[show(if y<0 then-y else y)=(y.natAbs:Int) by split<;>lia];exact p
  .refine⟨v.map λy=>(y.natAbs:Int),by rw[T2];rfl,λz=>n (L1.mp z),λt o f=>?_⟩;fin2;refine⟨ie (by decide) (by decide) (by decide),q _ ?_⟩;rw[Kb];obtain⟨d,e,rfl⟩:=Pm.mp o;constructor
   .intro h y i;have u:=f _ (Pm.mpr ⟨y,i,rfl⟩);have h:(d.natAbs:Int)<=100000:=h;lia
   .intro h;have:=h d e;show(d.natAbs:Int)<=100000;lia
 show(match look a 9 with|some w=>items w λj=>iF _ j [] _|none=>False);rw[r];exact s
noncomputable def Ol:List CS:=[.set 9 (.call 3 [(.var 9),(.var 6)])]
noncomputable def Cu:List CS:=[.iE 5 (.jL 0 1 [(.lst [(.int 1),(.int 1),(.int 2),(.int 3)])]),.zO [6,7] (.call 2 [(.var 5)]),.iE 8 (.bin .Add (.int 1) (.bin .Mult (.bin .FloorDiv (.jL 0 0 [(.int 3)]) (.int 2)) (.bin .Add (.int 1) (.jL 0 0 [(.int 2)])))),.set 9 (.blt .list [(.var 3)]),.fr [10] true (.j3 [(.var 8)]) Ol,.set 11 (.and [(.cmp .LtE (.blt .len [(.var 9)]) (.bin .Add (.var 1) (.int 1))),Mw]),.iff (.and [(.var 11),(.BN [2] (.cmp .NotIn (.var 6) (.comp [0] true 1 (.var 2) (.bl true) (.ix (.call 2 [(.var 0)]) (.int 0)))))]) [.set 3 (.var 9),.app 2 (.var 5)] []]
noncomputable def Io:List CS:=[.iE 12 (.bin .Sub (.jL 0 0 [(.int 9)]) (.int 4)),.iE 9 (.call 3 [(.var 3),(.lst [(.bin .Add (.bin .Add (.bin .Mult (.var 12) (.var 12)) (.int 1)) (.jL 0 0 [(.int 5)])),(.bin .Mult (.int 2) (.var 12)),(.int 1)])]),.iff Mw [.set 3 (.var 9)] []]
noncomputable def Om:List CS:=[.app 13 (.var 5),.iff (.cmp .Eq (.ix (.var 5) (.int 4)) (.int 2)) [.app 13 (.bin .Add (.tup [(.ix (.var 5) (.int 0)),(.bin .Sub (.int 0) (.ix (.var 5) (.int 1)))]) (.slt (.var 5) (.int 2) .bV))] []]
noncomputable def Ip:List CS:=[.set 13 (.lst []),.fr [5] true (.var 2) Om,.NK [13] [.Du (.tup [(.var 3),(.var 13)])]]
noncomputable def mq:List CS:=[.set 2 (.lst []),.set 3 (.lst [(.int 1)]),.Ul 4 (.bin .Add (.int 1) (.jL 0 0 [(.int 4)])) Cu,.Wg (.and [(.cmp .Eq (.jL 0 0 [(.int 3)]) (.int 1)),(.cmp .LtE (.bin .Add (.blt .len [(.var 3)]) (.int 2)) (.bin .Add (.var 1) (.int 1)))]) Io [],.NK [2] Ip]
structure KI(l:List (Kn×List Int))(w:List Int):Prop where
 kw:Kw l w
 lu:∀x∈l,Lu x.1
 XI:w.length<=10
 bd:∀y∈w,y.natAbs<=100000
def mw:aY:=λe Q _=>∃(a b:Int),e=[wW a b,.int 9]/\Wl a b/\∀l w d c,KI l w->l.length<=4->Wl d c->Q (.tup [.tup [wI w,wKs (nums l)],wW d c])
structure Kj(l:List (Kn×List Int))(n:Kn)(ms v:List Int)(j:Nat):Prop where
 kx:Kx l n ms v
 dq:j≠0->DQ (cQ (qI ms)) (cQ (qI v))
 len:v.length<=10+3*j
 bd:∀y∈v,y.natAbs<2^(17+206*j)
theorem Kj.step(h:Kj l n ms v j)(f:j<3)(k:aO n)(r:Kr n ms)(bm:∀y∈ms,y.natAbs<2^200):Kj l n ms (yD v ms) (j+1):=by obtain⟨c,b⟩:=h.kx.mul k r;have l4:=r.l4;have e:=h.len;have d:=h.kx.w0;refine⟨c,λ_=>b,by rw[nR];lia,λy a=>?_⟩;have:=Of (k:=5) h.bd bm (by show _<=32;lia) y a;exact IH this (fI (by decide) (by lia))
theorem XJ(E:Wl a b)(K:KI l w)(U:l.length<=50)(h:∀a b X w' T O M I H j A,Wl a b->KI X w'->X.length<=l.length+1->D.nx [some (wW a b),some (.int 9),some (wKs (X.map EJ)),some (wI w'),u,T,O,M,I,H,j,A,B,C]):wSs (b7 [jC,gY,nS,uI]) G Cu D [some (wW a b),some (.int 9),some (wKs (l.map EJ)),some (wI w),u,T,O,M,I,H,j,A,B,C]:=by
 unfold Cu;refine aA (λc=>∃a b n,(Wl a b/\Lu n)/\c=[some (wW a b),some (.int 9),some (wKs (l.map EJ)),some (wI w),u,some (wK n),O,M,I,H,j,A,B,C]) (λN f=>?_) ?_
 .fin2;exact⟨af (by simp),a,b,rfl,E,λn a1 b1 P F=>⟨_,_,rfl,f _ ⟨a1,b1,n,⟨F,P⟩,rfl⟩⟩⟩
 clear E a b;rintro _ ⟨a,b,n,⟨E,P⟩,rfl⟩;have Y:=P.1.nm;refine aA (λc=>∃(d:List Int)(t:Int),(Kr n d/\∀x∈d,x.natAbs<2^200)/\c=[some (wW a b),some (.int 9),some (wKs (l.map EJ)),some (wI w),u,some (wK n),some (wI d),some (.int t),I,H,j,A,B,C]) (λN f=>?_) ?_
 .fin2;exact⟨n,rfl,Y,λd t r R _=>⟨rfl,f _ ⟨d,t,⟨r,R⟩,rfl⟩⟩⟩
 rintro _ ⟨d,t,⟨r,R⟩,rfl⟩;refine aA (λc=>∃(a b:Int)(e:Nat),(Wl a b/\1<=e/\e<=3)/\c=[some (wW a b),some (.int 9),some (wKs (l.map EJ)),some (wI w),u,some (wK n),some (wI d),some (.int t),some (.int e),H,j,A,B,C]) (λN f=>?_) ?_
 .fin2;refine⟨a,b,3,rfl,E,by decide,by decide,λx a1 b1 x0 x1 F=>⟨_,_,rfl,?_⟩⟩;fin2;refine⟨⟨by decide,kM (n:=2) (by decide) (by decide)⟩,a1,b1,2,rfl,F,by decide,by decide,λy a2 b2 y0 y1 kU=>⟨_,_,rfl,?_⟩⟩;fin2;have q:x.fdiv 2=0\/x.fdiv 2=1:=by rw[QQ _ (by decide)];lia
  refine⟨aF (n:=2) (m:=2) (by omega) (by omega) (by decide),?_⟩;rcases q with q|q
  .rw[q];exact f _ ⟨a2,b2,1,⟨kU,by decide,by decide⟩,by rw[bo];rfl⟩
  .rw[q,cx];exact f _ ⟨a2,b2,(1+(1+y)).toNat,⟨kU,by lia,by lia⟩,by rw[N0 (by lia)]⟩
 clear E a b;rintro _ ⟨a,b,e,⟨E,e1,e3⟩,rfl⟩;refine aA (λc=>c=[some (wW a b),some (.int 9),some (wKs (l.map EJ)),some (wI w),u,some (wK n),some (wI d),some (.int t),some (.int e),some (wI w),j,A,B,C]) (λN f=>?_) ?_
 .have f:=f _ rfl;unfold wI at f⊢;fin2;exact f
 rintro _ rfl;refine aA (λc=>∃v j,Kj l n d v e/\c=[some (wW a b),some (.int 9),some (wKs (l.map EJ)),some (wI w),u,some (wK n),some (wI d),some (.int t),some (.int e),some (wI v),j,A,B,C]) (λN f=>?_) ?_
 .refine yz (l:=gO 0 1 e) (λQ hq=>?_) ?_
  .fin2;exact⟨by lia,by lia,hq⟩
  refine aR (λi ε=>∃v j,Kj l n d v i/\ε=[some (wW a b),some (.int 9),some (wKs (l.map EJ)),some (wI w),u,some (wK n),some (wI d),some (.int t),some (.int e),some (wI v),j,A,B,C]) ⟨w,_,⟨K.kw.start n d,λz=>absurd rfl z,by have:=K.XI;omega,λy Z=>IH (K.bd y Z) (by decide)⟩,rfl⟩ ?_ ?_
  .rintro i z _ N1 hz ⟨v,o,J,rfl⟩ eG;obtain⟨hi,rfl⟩:=fR hz;have l4:=r.l4;have l2:=r.l2;have hl:=J.len;unfold Ol;fin2;exact⟨v,d,rfl,⟨J.kx.w0,by lia,by lia,by lia,λx p y Z=>aF (J.bd x p) (R y Z) (by lia)⟩,eG _ ⟨_,_,J.step (by lia) Y.ok r R,rfl⟩⟩
  .rintro _ ⟨v,o,J,rfl⟩;rw[rF]at J;exact f _ ⟨v,o,J,rfl⟩
 rintro _ ⟨v,j,J,rfl⟩;have hl:=J.len;have v0:=J.kx.w0;refine aA (λc=>∃k:Bool,(k=true->v.length<=10/\∀y∈v,y.natAbs<=100000)/\c=[some (wW a b),some (.int 9),some (wKs (l.map EJ)),some (wI w),u,some (wK n),some (wI d),some (.int t),some (.int e),some (wI v),j,some (.bl k),B,C]) (λN f=>?_) ?_
 .show wE _ _ _ _ _ _;rw[show wI v=.lst (v.map W.int)from rfl]at f⊢;fin2;rw[Ap];by_cases q:((v.length:Nat):Int)<=9+1
  .rw[Fh q];exact Oj rfl (λz=>by rw[z]at v0;exact absurd v0 (by decide)) (by lia) λk hk=>f _ ⟨k,λz=>⟨by lia,hk.mp z⟩,rfl⟩
  .rw[Hb q];exact f _ ⟨false,λz=>(by cases z),rfl⟩
 rintro _ ⟨k,hk,rfl⟩;have s:=h a b l w (some (wK n)) (some (wI d)) (some (.int t)) (some (.int e)) (some (wI v)) j (some (.bl k)) E K (va _);fin2;cases k with
 |false=>exact s
 |true=>
  obtain⟨S,bv⟩:=hk rfl;have e0:wKs (l.map EJ)=.lst (l.map λx=>wK x.1):=by unfold wKs;rw[T2];rfl
  rw[e0]at s⊢;fin2;refine cO (h:=λx:Kn×List Int=>wK x.1) (g:=λx=>wI x.2) l [] _ (λx p K' hK=>?_) (af (by simpa using Do U (by decide))) ?_
  .fin2;refine⟨x.1,rfl,(K.lu x p).1.nm,λms' Yn r' _ _=>⟨_,rfl,?_⟩⟩;rw[r'.uniq (K.kw.ok x p).2.1];exact hK
  .refine⟨d,l.map (·.2),rfl,by rw[T2,Cv];rfl,rfl,?_⟩;fin2;by_cases q:d∈l.map (·.2)
   .rw[Fh q];exact s
   .rw[Hb q];have nw:∀x∈l,x.2≠d:=λx p z=>q (Pm.mpr ⟨x,p,z⟩);have K2:KI (l++[(n,d)]) v:=⟨J.kx.more Y.ok r (J.dq (by lia)) K.kw.df nw,λx p=>by
     rcases Re.mp p with p|p
     .exact K.lu x p
     .rw[FR.mp p];exact P,S,bv⟩
    have L:=h a b _ v (some (wK n)) (some (wI d)) (some (.int t)) (some (.int e)) (some (wI v)) j (some (.bl true)) E K2 (by rw[KM];exact Ee _);have e1:wKs ((l++[(n,d)]).map EJ)=.lst ((l.map λx=>wK x.1)++[wK n]):=by unfold wKs;rw[T2,rp];rfl
    rw[e1]at L;fin2;exact⟨qZ (by rw[Ap];lia),L⟩
theorem XM(c:Wl a b)(K:KI l w)(Y:w.length<=8)(h:∀a b w' g C,Wl a b->KI l w'->D.nx [some (wW a b),some (.int 9),some f,some (wI w'),r,p,o,j,i,g,u,t,C,A]):wSs (b7 [jC,gY,nS,uI]) G Io D [some (wW a b),some (.int 9),some f,some (wI w),r,p,o,j,i,g,u,t,C,A]:=by
 unfold Io;have w0:=K.kw.w0;refine aA (λd=>∃a b m,(Wl a b/\-4<=m/\m<=4)/\d=[some (wW a b),some (.int 9),some f,some (wI w),r,p,o,j,i,g,u,t,some (.int m),A]) (λN E=>?_) ?_
 .fin2;exact⟨a,b,9,rfl,c,by decide,by decide,λx H F I M e=>⟨_,_,rfl,E _ ⟨H,F,_,⟨e,by lia,by lia⟩,rfl⟩⟩⟩
 clear c a b;rintro _ ⟨a,b,m,⟨c,U,T⟩,rfl⟩;refine aA (λd=>∃a b v,(Wl a b/\Kw l v/\v.length<=10)/\d=[some (wW a b),some (.int 9),some f,some (wI w),r,p,o,j,i,some (wI v),u,t,some (.int m),A]) (λN E=>?_) ?_
 .fin2;have S:m*m<=16/\0<=m*m:=by
   have:m= -4\/m= -3\/m= -2\/m= -1\/m=0\/m=1\/m=2\/m=3\/m=4:=by lia
   rcases this with rfl|rfl|rfl|rfl|rfl|rfl|rfl|rfl|rfl<;>decide
  refine⟨aF (n:=3) (m:=3) (by omega) (by omega) (by decide),a,b,5,rfl,c,by decide,by decide,λx H F I M e=>⟨_,_,rfl,?_⟩⟩;fin2;refine⟨aF (n:=2) (m:=3) (by decide) (by omega) (by decide),af (by simp),?_⟩;have X:[m*m+1+x,2*m,1].length=3:=rfl;refine⟨w,[m*m+1+x,2*m,1],rfl,⟨w0,by omega,by lia,by omega,λy O z hz=>aF (n:=17) (m:=6) (IH (K.bd y O) (by decide)) ?_ (by decide)⟩,E _ ⟨H,F,_,⟨e,K.kw.rest (q:=[m*m+1+x,2*m,1]) (by omega) (show(1:Int)≠0 by decide) (λy=>?_),by rw[nR];omega⟩,rfl⟩⟩
  .simp only[Hk,iq,or_false]at hz;rcases hz with rfl|rfl|rfl<;>lia
  .show(1:Rat)<=((m*m+1+x:Int):Rat)+y*(((2*m:Int):Rat)+y*(((1:Int):Rat)+y*0));have s:=gK (y+m);have Z:(0:Rat)<=(x:Rat):=Fn.mpr I;rw[eI,eI,FM,FM];have R:((1:Int):Rat)=1:=rfl;have Q:((2:Int):Rat)=2:=rfl;rw[R,Q];grind
 clear c a b;rintro _ ⟨a,b,v,⟨c,L,B⟩,rfl⟩;have J:=L.w0;fin2;refine Oj rfl (λz=>by rw[z]at J;exact absurd J (by decide)) (by lia) λk P=>?_;cases k with
 |false=>fin2;exact h a b w _ _ c K
 |true=>fin2;exact h a b v _ _ c ⟨L,K.lu,B,P.mp rfl⟩
theorem DU{l:List (Kn×List Int)}(h:l[i]?=some x):nums (l.take (i+1))=nums (l.take i)++(if x.1.k=2 then[x.1,x.1.cj]else[x.1]):=by unfold nums;rw[List.take_add_one,h,dV];simp
theorem mE:∀l:List (Kn×List Int),(nums l).length<=2*l.length
 |[]=>Ee _
 |x::l=>by
  have ih:=mE l;show((if x.1.k=2 then[x.1,x.1.cj]else[x.1])++nums l).length<=_;rw[KM,BL];have:(if x.1.k=2 then[x.1,x.1.cj]else[x.1]).length<=2:=by split<;>simp
  lia
theorem Mx(J:List W)(Q:W->Prop)(R:Addr->Prop)(h:mw J Q R):wSs (b7 [jC,gY,nS,uI]) G mq (bH (.io m) Q R) (ak 14 J):=by
 obtain⟨a,b,rfl,g,H⟩:=h;show wSs _ _ mq _ [some (wW a b),some (.int 9),none,none,none,none,none,none,none,none,none,none,none,none];unfold mq;refine aA (λc=>c=[some (wW a b),some (.int 9),some (wKs []),none,none,none,none,none,none,none,none,none,none,none]) (λN s=>?_) ?_
 .fin2;exact⟨af (by simp),s _ rfl⟩
 rintro _ rfl;refine aA (λc=>c=[some (wW a b),some (.int 9),some (wKs []),some (wI [1]),none,none,none,none,none,none,none,none,none,none]) (λN s=>?_) ?_
 .fin2;exact⟨af (by simp),s _ rfl⟩
 rintro _ rfl;have K0:KI [] [1]:=⟨Tq,λx F=>(by cases F),by decide,λy Z=>by rw[FR.mp Z];decide⟩;refine aA (λc=>∃a b l w u d o n j e q p f,(Wl a b/\KI l w/\l.length<=4)/\c=[some (wW a b),some (.int 9),some (wKs (l.map EJ)),some (wI w),u,d,o,n,j,e,q,p,f,none]) (λN s=>?_) ?_
 .fin2;refine⟨a,b,4,rfl,g,by decide,by decide,λx B A S P r=>⟨_,_,rfl,?_⟩⟩;fin2;refine⟨by lia,by lia,?_⟩;refine aR (λi D=>∃a b l w u d o n j e q p f,(Wl a b/\KI l w/\l.length<=i)/\D=[some (wW a b),some (.int 9),some (wKs (l.map EJ)),some (wI w),u,d,o,n,j,e,q,p,f,none]) ⟨B,A,[],[1],none,none,none,none,none,none,none,none,none,⟨r,K0,Ee _⟩,rfl⟩ ?_ ?_
  .clear g r a b B A;rintro i z _ N1 hz ⟨a,b,l,w,u,d,o,n,j,e,q,p,f,⟨g,K,O⟩,rfl⟩ v;obtain⟨hi,rfl⟩:=fR hz;show wSs _ _ Cu _ [some (wW a b),some (.int 9),some (wKs (l.map EJ)),some (wI w),some (.int i),d,o,n,j,e,q,p,f,none];exact XJ g K (by lia) λa b Y E d o n j e q p g I hl'=>v _ ⟨a,b,Y,E,_,d,o,n,j,e,q,p,_,⟨g,I,by lia⟩,rfl⟩
  .rintro _ ⟨a,b,l,w,u,d,o,n,j,e,q,p,f,⟨g,K,O⟩,rfl⟩;rw[rF]at O;exact s _ ⟨a,b,l,w,u,d,o,n,j,e,q,p,f,⟨g,K,by lia⟩,rfl⟩
 clear g a b;rintro _ ⟨a,b,l,w,u,d,o,n,j,e,q,p,f,⟨g,K,X⟩,rfl⟩;refine aA (λc=>∃a b w e f,(Wl a b/\KI l w)/\c=[some (wW a b),some (.int 9),some (wKs (l.map EJ)),some (wI w),u,d,o,n,j,e,q,p,f,none]) (λN s=>?_) ?_
 .have t:=λa b (g:Wl a b)=>s _ ⟨a,b,w,e,f,⟨g,K⟩,rfl⟩;rw[show wI w=.lst (w.map W.int)from rfl]at t⊢;fin2;refine⟨a,b,3,rfl,g,by decide,by decide,λx B A S P r=>⟨_,_,rfl,?_⟩⟩;fin2;by_cases M:x=1
  .rw[Fh M];fin2;rw[Ap];by_cases L:((w.length:Nat):Int)+2<=9+1
   .rw[Fh L];exact XM r K (by lia) λa b E e f g I=>s _ ⟨a,b,E,e,f,⟨g,I⟩,rfl⟩
   .rw[Hb L];exact t B A r
  .rw[Hb M];exact t B A r
 clear g K w a b e f;rintro _ ⟨a,b,w,e,f,⟨g,K⟩,rfl⟩;show wSs _ _ Ip {bH (.io m) Q R with nx:=λ_=>False,bk:=λ_=>False,ct:=λ_=>False} _;unfold Ip;refine aA (λc=>c=[some (wW a b),some (.int 9),some (wKs (l.map EJ)),some (wI w),u,d,o,n,j,e,q,p,f,some (wKs [])]) (λN s=>?_) ?_
 .fin2;exact⟨af (by simp),s _ rfl⟩
 rintro _ rfl;refine aA (λc=>∃d,c=[some (wW a b),some (.int 9),some (wKs (l.map EJ)),some (wI w),u,d,o,n,j,e,q,p,f,some (wKs (nums l))]) (λN s=>?_) ?_
 .have e0:wKs (l.map EJ)=.lst (l.map λx=>wK x.1):=by unfold wKs;rw[T2];rfl
  rw[e0]at s⊢;refine yz (l:=l.map λx=>wK x.1) (λQ H=>?_) ?_
  .fin2;exact H
  refine aR (λi D=>∃d,D=[some (wW a b),some (.int 9),some (.lst (l.map λx=>wK x.1)),some (wI w),u,d,o,n,j,e,q,p,f,some (wKs (nums (l.take i)))]) ⟨d,rfl⟩ ?_ ?_
  .rintro i z _ N1 hz ⟨d,rfl⟩ v;rw[FC]at hz;obtain⟨x,F,rfl⟩:=NM.mp hz;have T:=DU F;have v:=v _ ⟨some (wK x.1),rfl⟩;rw[T]at v;have U:=mE (l.take i);rw[d6]at U;unfold wKs wK at v⊢;unfold Om;fin2;refine⟨qZ (by rw[Ap];lia),_,rfl,?_⟩;fin2;by_cases C:x.1.k=2
   .rw[Bi (Fh C)];rw[Bi C,rp]at v;refine⟨_,rfl,_,rfl,af (by simp),?_⟩;fin2;refine⟨show¬(HT.dh 5 0 (some 2)=0/\HT.dh 5 5 none=5) by decide,f6 _ _,af (by show 2+3<=1000;decide),qZ (by simp;lia),?_⟩;rw[xf,Pv];exact v
   .rw[BM (by rw[Kb];exact C)];rw[BM C,rp]at v;exact v
  .rintro _ ⟨d,rfl⟩;rw[Ap,List.take_length];exact s _ ⟨d,rfl⟩
 rintro _ ⟨d,rfl⟩;fin2;exact⟨af (by simp),H l w a b K X g⟩
noncomputable def DV:List CS:=.iff (.cmp .Eq (.var 0) (.lst [])) [.raise 0 (.str "a count of the roots of the row 0")] []::jD
def fV(C:Addr):aY:=λa Q R=>(∃b c:Rat,a=[bG [],wq b,wq c]/\R C)\/Ti a Q R
theorem DW(i:List W)(Q:W->Prop)(R:Addr->Prop)(h:fV C i Q R):wSs (b7 [mh,jR,fT]) (ja [.cls C]) DV (bH m Q R) (ak 3 i):=by
 rcases h with⟨b,c,rfl,h⟩|⟨a,t,d,b,c,rfl,h⟩
 .show wSs _ _ (.iff (.cmp .Eq (.var 0) (.lst [])) [.raise 0 (.str "a count of the roots of the row 0")] []::jD) _ [some (bG []),some (wq b),some (wq c)];show wS _ _ (.iff (.cmp .Eq (.var 0) (.lst [])) [.raise 0 (.str "a count of the roots of the row 0")] []) _ _;fin2;refine⟨af (by simp),HH (y:=[]) λk g=>?_⟩;rw[g.mpr rfl];fin2;exact h
 .have l:=Xw.pos h;show wSs _ _ (.iff (.cmp .Eq (.var 0) (.lst [])) [.raise 0 (.str "a count of the roots of the row 0")] []::jD) _ [some (bG (bY a t d)),some (wq b),some (wq c)];have f:(bY a t d).length=a.length:=Ap _;refine aA (λe=>e=[some (bG (bY a t d)),some (wq b),some (wq c)]) (λN j=>?_) ?_
  .fin2;refine⟨af (by simp),HH (y:=[]) λk g=>?_⟩;cases lY g (λz=>by rw[z]at f;have f:0=a.length:=f;lia);fin2;exact j _ rfl
  rintro _ rfl;exact Ic h
noncomputable def Az:List CS:=[.set 2 (.lst [(.Dq (.var 0) 0),(.Dq (.var 0) 1),(.Dq (.var 0) 2),(.Dq (.var 0) 3)]),.set 2 (.bin .Add (.var 2) (.lst [(.Dq (.var 0) 4),(.Dq (.var 0) 5),(.Dq (.var 0) 6)])),.iff (.or [(.not (.Dq (.var 0) 7)),(.not (.Ui (.var 0)))]) [.ret (.bl false)] [],.ret (.cmp .Eq (.var 2) (.comp [0] true 1 (.j3 [(.int 7)]) (.bl true) (.cmp .Eq (.var 0) (.var 2))))]
def Iq(E:Addr):aY:=λa Q _=>a=[.err E,.int 4]/\Q (.bl true)
theorem DX(h:Q (.bl false)):KQ (.err E) (.gi D [] [E]) Q:=.inr ⟨FK,h⟩
theorem Oo(h:Q (.bl true)):KQ (.err E) (.gi D [E] []) Q:=.inl ⟨FK,h⟩
theorem Tz(t:List W)(Q:W->Prop)(R:Addr->Prop)(h:Iq E t Q R):wSs e (ja [.gi s [] [E],.gi r [] [E],.gi q [] [E],.gi p [] [E],.gi o [E] [],.gi i [] [E],.gi g [] [E],.gi f [E] []]) Az (bH m Q R) (ak 3 t):=by
 obtain⟨rfl,z⟩:=h;show wSs _ _ Az _ [some (.err E),some (.int 4),none];unfold Az;fin2;refine DX (DX (DX (DX ⟨af (by simp),?_⟩)));fin2;refine Oo (DX (DX ⟨af (by simp),af (by simp),?_⟩));fin2;refine Oo ?_;fin2;refine⟨by decide,by decide,?_⟩;have D:∀(n k:Nat)(a:List W),k+n=7->a++((Uw k n).map λj=>W.bl (decide (((j:Nat):Int)=4)))=(Uw 0 7).map (λj=>W.bl (decide (((j:Nat):Int)=4)))->a.length<=7->
  iF (λw K=>wT true [0] w (AW 1 none++[some (W.err E),some (.int 4),some (.lst [.bl false,.bl false,.bl false,.bl false,.bl true,.bl false,.bl false])]) λc=>wE e (ja [.gi s [] [E],.gi r [] [E],.gi q [] [E],.gi p [] [E],.gi o [E] [],.gi i [] [E],.gi g [] [E],.gi f [E] []]) (λ_=>False) (.bl true) c λx=>truth x λk=>if k=true then wE e (ja [.gi s [] [E],.gi r [] [E],.gi q [] [E],.gi p [] [E],.gi o [E] [],.gi i [] [E],.gi g [] [E],.gi f [E] []]) (λ_=>False) (.cmp .Eq (.var 0) (.var 2)) c λy=>K (some y)else K none) ((Uw k n).map λj=>W.int ((j:Nat):Int)) a λl=>dS .Eq (.lst [.bl false,.bl false,.bl false,.bl false,.bl true,.bl false,.bl false]) (.lst l) Q:=by
  intro n
  induction n with
  |zero=>intro k a C d B;rw[show a=(Uw 0 7).map (λj=>W.bl (decide (((j:Nat):Int)=4))) by simpa using d];refine⟨.inr (.inl ⟨by decide,by decide⟩),λb A=>?_⟩;rw[A.mpr rfl];exact z
  |succ n v=>
   intro k a C d B;rw[eu,UV,iF];fin2;have u:a.length<7:=by have:=Q1 Jp d;simp at this;lia
   exact⟨qZ (by clear u;lia),v (k+1) _ (by lia) (by rw[<-d,eu,UV,Pv];rfl) (by rw[KM];exact u)⟩
 exact D 7 0 [] rfl rfl (PQ _)
theorem TF(h:Kw l w)(c:w.length=1):l=[]:=by
 cases l with
 |nil=>rfl
 |cons x l=>
  exfalso
  obtain⟨_,r,d⟩:=h.ok x FK;have l2:=r.l2;have b:qI x.2≠[]:=λz=>by have:=Q1 Jp z;rw[cC]at this;have this:x.2.length=0:=this;lia
  have a:qI w≠[]:=λz=>by have:=Q1 Jp z;rw[cC]at this;have this:w.length=0:=this;lia
  have:=vn (jm r.nz) b (jm h.nz) a d;rw[cC,cC]at this;lia
structure By(y:Rat):Prop where
 nz:y.num≠0
 n7:y.num.natAbs<=7
 d7:y.den<=7
theorem XN(K:KI l w)(b:By y){lo a:Rat}(k:Bx lo)(m:Bx a)(f:lo<a)(q:Q (.int ((nums l).countP λn=>i9 lo a n.lo:Nat))):Xw w y.num y.den lo a Q:=by
 have o:=y.den_pos;have d7:=b.d7;have w0:=K.kw.w0;have XI:=K.XI;by_cases d:w.length=1
 .rw[TF K.kw d]at q;exact .inl ⟨d,q⟩
 .refine .inr ⟨⟨⟨17,by lia,by lia,K.kw.nz,λx g=>Do (K.bd x g) (by decide),?_⟩,b.nz,b.n7,by lia,IH (show(y.den:Int).natAbs<=7 by omega) (by decide),k,m⟩,λv h=>?_⟩
  .have:(17+10)*(2*w.length -2)<=27*18:=FV _ (by lia);lia
  .obtain⟨c,C,j,i,e⟩:=h;rw[e,K.kw.count (by lia) j i f];rw[show((oF C a+(nums l).countP (λn=>i9 lo a n.lo):Nat):Int) -(oF C a:Nat)=((nums l).countP λn=>i9 lo a n.lo:Nat) by lia];exact q
theorem XO(K:KI l w)(c:By y){lo a:Rat}(d:Bx lo)(e:Bx a)(b:lo<a){R:Addr->Prop}(q:Q (.int ((nums l).countP λn=>i9 lo a n.lo:Nat))):fV C [bG (bY w y.num y.den),wq lo,wq a] Q R:=.inr ⟨w,y.num,y.den,lo,a,rfl,XN (Q:=Q) K c d e b q⟩
theorem Lx.bx(h:Lx x):Bx x:=⟨7,by decide,IH h.Oh (by decide),IH h.d9 (by decide)⟩
theorem Ir(k:Int)(h:1<=A):A<=pk k A:=by
 have s:=Dx h (show 0<=A by grind);have c:=Dx h (show 0<=A*A by grind);unfold pk;by_cases b:k=1
 .rw[Bi b];grind
 rw[BM b];by_cases a:k=2
 .rw[Bi a,BM (by grind)];grind
 .rw[BM a];grind
theorem TH(h:Lu n):i9 (-1000000) 1000000 n.lo=true:=by
 have ok:=h.1.nm.ok;have b0:=ok.b0;have t6:=h.1.t6;have l:(1:Rat)<=n.b:=Fn.mpr (show(1:Int)<=n.b by lia);have j:(-6:Rat)<=n.t/\(n.t:Rat)<=6:=⟨Fn.mpr (show(-6:Int)<=n.t by omega),Fn.mpr (show n.t<=(6:Int) by omega)⟩;have g:(-42:Rat)<=n.c/\n.c<=42:=by
  unfold Kn.c;by_cases a:n.k=1
  .rw[ok.s0 a];have z:((0:Int):Rat)=0:=rfl;rw[z];grind
  .have i:=ok.qu a;have d:(n.u:Rat)<=42:=Fn.mpr h.2.1;rcases ok.s1 a with q|q
   .rw[q];have z:((1:Int):Rat)=1:=rfl;rw[z];grind
   .rw[q];have z:((-1:Int):Rat)= -1:=rfl;rw[z];grind
 rw[lN,aO.gu,aO.ur];unfold Kn.f;constructor
 .have e:n.A (-1000000)= -(1000000*n.b+n.t):=by unfold Kn.A;grind
  have:=Ir n.k (A:=1000000*n.b+n.t) (by grind);rw[e,Im];grind
 .have e:n.A 1000000=1000000*n.b -n.t:=by unfold Kn.A;grind
  have:=Ir n.k (A:=1000000*n.b -n.t) (by grind);rw[e];grind
theorem rP{α:Type}{h:α->W}{p:α->Bool}:∀(b:List α)(a:List W)(Q:List W->Prop),(∀x∈b,∀K:Option W->Prop,(p x=true->K (some (h x)))->(p x=false->K none)->f (h x) K)->a.length+b.length<=sizeLine->Q (a++(b.filter p).map h)->iF f (b.map h) a Q
 |[],a,Q,_,_,q=>by rw[Qf,iF];simpa using q
 |x::b,a,Q,e,l,q=>by
  rw[BL]at l;rw[UV,iF];refine e x FK _ (λc=>⟨by lia,?_⟩) λc=>?_
  .refine rP b _ Q (λy d=>e y (FS _ d)) (by rw[KM,L0];lia) ?_;rw[ey,Bi c]at q;rw[Pv];exact q
  .refine rP b _ Q (λy d=>e y (FS _ d)) (by lia) ?_;rw[ey,BM (by rw[c];decide)]at q;exact q
noncomputable def Iu:List CS:=[.set 8 (.blt .len [(.comp [0] true 1 (.var 2) (.call 5 [(.var 0),(.var 7),(.var 8)]) (.var 0))]),.set 9 (.call 6 [(.var 4),(.var 6),(.var 7)]),.iff (.or [(.not (.blt .El [(.var 9),(.Gu "int")])),(.blt .El [(.var 9),(.Gu "bool")]),(.cmp .NotEq (.var 9) (.var 8)),(.cmp .NotEq (.var 4) (.var 3))]) [.Du (.bl false)] []]
noncomputable def Iv:List CS:=[.iE 6 (.jL 0 4 [(.var 2)]),.iE 7 (.jL 0 4 [(.var 2)]),.iff (.cmp .Gt (.bin .Mult (.ix (.var 6) (.int 0)) (.ix (.var 7) (.int 1))) (.bin .Mult (.ix (.var 7) (.int 0)) (.ix (.var 6) (.int 1)))) [.zO [6,7] (.tup [(.var 7),(.var 6)])] [],.iff (.cmp .NotEq (.var 6) (.var 7)) Iu []]
noncomputable def gZ:List CS:=[.Wh [1,2] (.jL 0 0 [(.int 9)]),.iE 3 (.call 1 [(.var 1),(.call 2 [(.bin .Mult (.ix (.lst [(.int 1),(.neg (.int 1))]) (.jL 0 3 [(.int 2)])) (.bin .Add (.int 1) (.jL 0 3 [(.int 7)]))),(.bin .Add (.int 1) (.jL 0 3 [(.int 7)]))])]),.set 4 (.blt .list [(.var 3)]),.fr [5] true (.j3 [(.int 8)]) Iv,.set 10 (.tup [(.bin .Pow (.int 10) (.int 6)),(.int 1)]),.Du (.cmp .Eq (.call 6 [(.var 4),(.tup [(.bin .Sub (.int 0) (.bin .Pow (.int 10) (.int 6))),(.int 1)]),(.var 10)]) (.blt .len [(.var 2)]))]
def mF:aY:=λe Q _=>∃(a b:Int),e=[wW a b]/\Wl a b/\∀d c,Wl d c->Q (.tup [.bl true,wW d c])
theorem XQ{j o1 i o g m:Option W}{y lo a:Rat}(K:KI l w)(E:l.length<=4)(s:By y)(d:Lx lo)(f:Lx a)(r:lo<a)(q:∀n∈nums l,Lu n)(h:∀o g,D.nx [j,o1,some (wKs (nums l)),some (bG (bY w y.num y.den)),some (bG (bY w y.num y.den)),i,some (wq lo),some (wq a),o,g,m]):
 wSs (b7 [mw,wz,Am,jC,yG,Mu,fV C]) G Iu D [j,o1,some (wKs (nums l)),some (bG (bY w y.num y.den)),some (bG (bY w y.num y.den)),i,some (wq lo),some (wq a),o,g,m]:=by
 unfold Iu;have B:=mE l;refine aA (λb=>b=[j,o1,some (wKs (nums l)),some (bG (bY w y.num y.den)),some (bG (bY w y.num y.den)),i,some (wq lo),some (wq a),some (.int ((nums l).countP λn=>i9 lo a n.lo:Nat)),g,m]) (λN c=>?_) ?_
 .have c:=c _ rfl;unfold wKs at c⊢;fin2;refine rP (h:=wK) (p:=λn=>i9 lo a n.lo) (nums l) [] _ (λn t F x v=>?_) (af (by simp;lia)) ?_
  .fin2;refine⟨n,lo,a,rfl,(q n t).1,d,f,?_⟩;fin2;cases e:i9 lo a n.lo with
   |true=>exact x e
   |false=>exact v e
  .rw[Cv];fin2;rw[Ap,<-List.countP_eq_length_filter];exact c
 rintro _ rfl;refine aA (λb=>b=[j,o1,some (wKs (nums l)),some (bG (bY w y.num y.den)),some (bG (bY w y.num y.den)),i,some (wq lo),some (wq a),some (.int ((nums l).countP λn=>i9 lo a n.lo:Nat)),some (.int ((nums l).countP λn=>i9 lo a n.lo:Nat)),m]) (λN c=>?_) ?_
 .fin2;exact XO K s d.bx f.bx r (c _ rfl)
 rintro _ rfl;fin2;refine⟨_,rfl,?_⟩;have A:Gw "int" "int"=true:=by decide
 rw[A];fin2;refine⟨_,rfl,?_⟩;have z:Gw "int" "bool"=false:=by decide
 rw[z];fin2;rw[Fh rfl];fin2;refine SM λk u=>?_;rw[u.mpr rfl];fin2;exact h _ _
theorem DY(ws:List W)(Q:W->Prop)(R:Addr->Prop)(h:mF ws Q R):wSs (b7 [mw,wz,Am,jC,yG,Mu,fV C]) G gZ (bH (.io m) Q R) (ak 11 ws):=by
 obtain⟨a,b,rfl,d,Y⟩:=h;show wSs _ _ gZ _ [some (wW a b),none,none,none,none,none,none,none,none,none,none];unfold gZ;refine aA (λc=>∃a b l w,(Wl a b/\KI l w/\l.length<=4)/\c=[some (wW a b),some (wI w),some (wKs (nums l)),none,none,none,none,none,none,none,none]) (λN g=>?_) ?_
 .fin2;refine⟨a,b,rfl,d,λl w J I K U f=>⟨_,_,rfl,?_⟩⟩;fin2;exact⟨rfl,g _ ⟨J,I,l,w,⟨f,K,U⟩,rfl⟩⟩
 clear d a b;rintro _ ⟨a,b,l,w,⟨d,K,U⟩,rfl⟩;have S:∀n∈nums l,Lu n:=λn B=>by
  obtain⟨x,A,B⟩:=ew.mp B;have u:=K.lu x A;by_cases T:x.1.k=2
  .rw[Bi T]at B;rcases Hk.mp B with rfl|B
   .exact u
   .rw[FR.mp B];have k1:x.1.k≠1:=by rw[T];decide
    exact⟨⟨⟨u.1.nm.ok.cj T,λz=>absurd z k1,u.1.nm.t2,u.1.nm.b2,u.1.nm.u2⟩,u.1.t6,u.1.b4⟩,u.2.1,λz=>absurd z k1⟩
  .rw[BM T,FR]at B;rw[B];exact u
 have ll:=mE l;refine aA (λc=>∃a b y,(Wl a b/\By y)/\c=[some (wW a b),some (wI w),some (wKs (nums l)),some (bG (bY w y.num y.den)),none,none,none,none,none,none,none]) (λN g=>?_) ?_
 .fin2;refine⟨af (by simp),a,b,2,rfl,d,by decide,by decide,λx J I x0 x1 f=>⟨_,_,rfl,?_⟩⟩;fin2;obtain⟨z,e,hz⟩:=Xz (x:=.int 1) (y:=.int (-1)) x0 x1;refine⟨z,e,?_⟩;obtain⟨s,rfl,hs⟩:∃s:Int,z=.int s/\(s=1\/s= -1):=by
   rcases hz with rfl|rfl
   .exact⟨1,rfl,.inl rfl⟩
   .exact⟨-1,rfl,.inr rfl⟩
  refine⟨J,I,7,rfl,f,by decide,by decide,λp a2 b2 p0 p1 kU=>⟨_,_,rfl,?_⟩⟩;fin2;have hp:(s*(1+p)).natAbs=(1+p).natAbs:=by rcases hs with rfl|rfl<;>lia
  refine⟨aF (n:=1) (m:=4) (by rcases hs with rfl|rfl<;>decide) (by omega) (by decide),a2,b2,7,rfl,kU,by decide,by decide,λq a3 b3 q0 q1 X=>⟨_,_,rfl,?_⟩⟩;fin2;refine⟨s*(1+p),1+q,4,rfl,by decide,by lia,by omega,?_⟩;obtain⟨s1,s2⟩:=wm (t:=s*(1+p)) (b:=1+q) (by lia);have M:By (B1 (s*(1+p)) (1+q)):=⟨λz=>by have z:=fi.mp z;have:=Ay (s*(1+p)) (show 0<1+q by omega);rw[z,X9]at this;have:=Iy.mp this.symm;lia,by lia,by lia⟩;have XI:=K.XI;exact⟨w,_,rfl,⟨by lia,λz hz=>IH (K.bd z hz) (by decide),IH M.n7 (by decide),IH M.d7 (by decide)⟩,g _ ⟨a3,b3,_,⟨X,M⟩,rfl⟩⟩
 clear d a b;rintro _ ⟨a,b,y,⟨d,M⟩,rfl⟩;refine aA (λc=>c=[some (wW a b),some (wI w),some (wKs (nums l)),some (bG (bY w y.num y.den)),some (bG (bY w y.num y.den)),none,none,none,none,none,none]) (λN g=>?_) ?_
 .have g:=g _ rfl;unfold bG at g⊢;fin2;exact g
 rintro _ rfl;refine aA (λc=>∃a b H D r o j,Wl a b/\c=[some (wW a b),some (wI w),some (wKs (nums l)),some (bG (bY w y.num y.den)),some (bG (bY w y.num y.den)),H,D,r,o,j,none]) (λN g=>?_) ?_
 .refine yz (l:=gO 0 1 8) (λQ Y=>?_) ?_
  .fin2;exact⟨by decide,by decide,Y⟩
  refine aR (λi ε=>∃a b H D r o j,Wl a b/\ε=[some (wW a b),some (wI w),some (wKs (nums l)),some (bG (bY w y.num y.den)),some (bG (bY w y.num y.den)),H,D,r,o,j,none]) ⟨a,b,none,none,none,none,none,d,rfl⟩ ?_ ?_
  .clear d a b;rintro i z _ N1 hz ⟨a,b,H,D,r,o,j,d,rfl⟩ eG;obtain⟨hi,rfl⟩:=fR hz;show wSs _ _ Iv _ [some (wW a b),some (wI w),some (wKs (nums l)),some (bG (bY w y.num y.den)),some (bG (bY w y.num y.den)),some (.int i),D,r,o,j,none];unfold Iv;refine aA (λc=>∃a b x,(Wl a b/\Lx x)/\c=[some (wW a b),some (wI w),some (wKs (nums l)),some (bG (bY w y.num y.den)),some (bG (bY w y.num y.den)),some (.int i),some (wq x),r,o,j,none]) (λN2 L=>?_) ?_
   .fin2;exact⟨a,b,nums l,rfl,d,by lia,S,λx J I A f=>⟨_,_,rfl,L _ ⟨J,I,x,⟨f,A⟩,rfl⟩⟩⟩
   clear d a b;rintro _ ⟨a,b,x,⟨d,A⟩,rfl⟩;refine aA (λc=>∃a b F,(Wl a b/\Lx F)/\c=[some (wW a b),some (wI w),some (wKs (nums l)),some (bG (bY w y.num y.den)),some (bG (bY w y.num y.den)),some (.int i),some (wq x),some (wq F),o,j,none]) (λN2 L=>?_) ?_
   .fin2;exact⟨a,b,nums l,rfl,d,by omega,S,λx J I A f=>⟨_,_,rfl,L _ ⟨J,I,x,⟨f,A⟩,rfl⟩⟩⟩
   clear d a b;rintro _ ⟨a,b,F,⟨d,E⟩,rfl⟩;refine aA (λc=>∃u v,(u<=v/\Lx u/\Lx v)/\c=[some (wW a b),some (wI w),some (wKs (nums l)),some (bG (bY w y.num y.den)),some (bG (bY w y.num y.den)),some (.int i),some (wq u),some (wq v),o,j,none]) (λN2 L=>?_) ?_
   .have Oh:=A.Oh;have d9:=A.d9;have aek:=E.Oh;have d9':=E.d9;have Yj:=λq=>L _ ⟨x,F,⟨q,A,E⟩,rfl⟩;have O:=λq=>L _ ⟨F,x,⟨q,E,A⟩,rfl⟩;have lt:=Rat.lt_iff F x;unfold wq at Yj O⊢;fin2;refine⟨_,rfl,_,rfl,aF (n:=7) (m:=4) (by lia) (by omega) (by decide),_,rfl,_,rfl,aF (n:=7) (m:=4) (by lia) (by omega) (by decide),?_⟩;fin2;by_cases q:F.num*(x.den:Int)<x.num*(F.den:Int)
    .rw[Bi (Fh q)];fin2;exact⟨af (by simp),rfl,O (Fm (lt.mpr q))⟩
    .rw[BM (by rw[Kb];exact q)];exact Yj (m3.mp λz=>q (lt.mp z))
   rintro _ ⟨u,v,⟨le,hu,hv⟩,rfl⟩;have P:=λo j=>eG _ ⟨a,b,some (.int i),some (wq u),some (wq v),o,j,d,rfl⟩;fin2;refine⟨.inl ⟨Ag u 8,Ag v 8⟩,λk hk=>?_⟩;cases k with
   |true=>fin2;exact P _ _
   |false=>
    have ne:u≠v:=λz=>by have:=hk.mpr (by rw[z]);cases this
    fin2;rw[Bi (show(if true=true then !false else false)=true from rfl)];exact XQ K U M hu hv (by grind) S P
  .rintro _ ⟨a,b,H,D,r,o,j,d,rfl⟩;exact g _ ⟨a,b,H,D,r,o,j,d,rfl⟩
 clear d a b;rintro _ ⟨a,b,H,D,r,o,j,d,rfl⟩;have e6:(W.tup [.int 1000000,.int 1])=wq 1000000:=rfl;have e7:(W.tup [.int (-1000000),.int 1])=wq (-1000000):=rfl;refine aA (λc=>c=[some (wW a b),some (wI w),some (wKs (nums l)),some (bG (bY w y.num y.den)),some (bG (bY w y.num y.den)),H,D,r,o,j,some (wq 1000000)]) (λN g=>?_) ?_
 .have g:=g _ rfl;fin2;refine⟨ie (by decide) (by decide) (by decide),af (by simp),?_⟩;rw[<-e6]at g;exact g
 rintro _ rfl;fin2;refine⟨ie (by decide) (by decide) (by decide),af (by simp),?_⟩;show fV C [bG (bY w y.num y.den),.tup [.int (-1000000),.int 1],wq 1000000] _ _;rw[e7];refine XO K M ⟨21,by decide,by decide+kernel,by decide+kernel⟩ ⟨21,by decide,by decide+kernel,by decide+kernel⟩ (by decide+kernel) ?_;have Z:(nums l).countP (λn=>i9 (-1000000) 1000000 n.lo)=(nums l).length:=List.countP_eq_length.mpr λn B=>TH (S n B);rw[Z];unfold wKs;fin2;rw[Ap,Fh rfl];exact Y a b d
noncomputable def wB:List CS:=[.fr [1] true (.j3 [(.blt .max2 [(.int 1),(.blt .min2 [(.blt .len [(.var 0)]),(.int 5)])])]) [.iff (.not (.P7 0 (.call 1 [(.var 0),(.var 1)]) [])) [.ret (.bl false)] []],.set 2 .bV,.Wi 3 0 2 (.call 2 [(.lst []),(.tup [(.int 0),(.int 1)]),(.tup [(.int 1),(.int 1)])]),.ret (.and [(.call 3 [(.var 2),(.int 4)]),(.cmp .Eq (.call 2 [(.lst [(.tup [(.int 3),(.int 1)])]),(.tup [(.int 0),(.int 1)]),(.tup [(.int 1),(.int 1)])]) (.int 0))])]
theorem My(n:List W)(Q:W->Prop)(R:Addr->Prop)(h:SN n Q R):wSs (b7 [mF,HX,fV E,Iq E]) (ja [.gi H [E] []]) wB (bH m Q R) (ak 4 n):=by
 obtain⟨d,rfl,_,k⟩:=h;show wSs _ _ wB _ [some (.jX d),none,none,none];unfold wB;obtain⟨c,y,e⟩:∃c:Nat,c<=5/\(if(if(5:Int)<(d.length:Int)then(5:Int)else(d.length:Int))>1 then(if(5:Int)<(d.length:Int)then(5:Int)else(d.length:Int))else 1)=(c:Int):=by
  by_cases q:(5:Int)<(d.length:Int)
  .exact⟨5,by decide,by rw[Bi q,Bi (by decide)];rfl⟩
  .rw[BM q];by_cases p:(d.length:Int)>1
   .exact⟨d.length,by lia,by rw[Bi p]⟩
   .exact⟨1,by decide,by rw[BM p];rfl⟩
 refine aA (λf=>∃o,f=[some (.jX d),o,none,none]) (λN g=>?_) ?_
 .refine yz (l:=gO 0 1 c) (λQ k=>?_) ?_
  .fin2;rw[e];exact⟨by lia,by lia,k⟩
  refine aR (λi t=>∃o,t=[some (.jX d),o,none,none]) ⟨none,rfl⟩ ?_ ?_
  .rintro i w _ N j ⟨o,rfl⟩ v;obtain⟨x,rfl⟩:=fR j;fin2;refine⟨d,i,rfl,by lia,λa b j=>?_⟩;refine⟨a,b,rfl,j,λA z u=>⟨_,_,rfl,?_⟩⟩;fin2;exact v _ ⟨_,rfl⟩
  .rintro _ ⟨o,rfl⟩;exact g _ ⟨o,rfl⟩
 rintro _ ⟨o,rfl⟩;refine aA (λf=>f=[some (.jX d),o,some .bV,none]) (λN g=>?_) ?_
 .fin2;exact g _ rfl
 rintro _ rfl;have s:(W.tup [.int 0,.int 1])=wq 0:=rfl;have r:(W.tup [.int 1,.int 1])=wq 1:=rfl;refine aA (λf=>f=[some (.jX d),o,some (.err E),none]) (λN g=>?_) ?_
 .refine⟨f6 _ _,?_⟩;show wA _ _ _ _ _ _;fin2;refine⟨af (by simp),af (by simp),af (by simp),.inl ⟨0,1,by rw[s,r];rfl,FK,g _ rfl⟩⟩
 rintro _ rfl;fin2;refine⟨rfl,?_⟩;fin2;refine⟨af (by simp),af (by simp),af (by simp),af (by simp),.inr ⟨[3],1,1,0,1,?_,.inl ⟨rfl,?_⟩⟩⟩
 .rw[s,r];have:(3:Rat)=B1 (3*1) 1:=by decide+kernel
  show _=[bG [B1 (3*1) 1],wq 0,wq 1];rw[<-this];rfl
 .fin2;exact k
end VL
namespace VL
open PySem PySem.Spec
open PyProof.Rows hiding St
open L2
noncomputable def Cw(st:Stmt):List Str:=(cy st).args.map (·.arg)
noncomputable def aaq:NameKind->Bool
 |.local=>true
 |.cell=>true
 |_=>false
noncomputable def YD(st:Stmt):List Str:=((ai st).names.filter λy=>aaq y.2).map (·.1)
abbrev DT:=List (Str×Nat)
noncomputable def Mz(DD:DT)(j:Nat):Str:=match DD[j]? with
 |some y=>y.1
 |none=>""
def MA(K:Frag)(a:Nat->Stmt):DT->Prop
 |[]=>True
 |(x,i)::l=>(Hd K x (a i)/\iJ x x (a i) (Cw (a i)))/\MA K a l
def MB(K:Frag):List Str->Prop
 |[]=>True
 |x::l=>nsIn K mainGlobals x=some none/\MB K l
structure TT(K:Frag)(mg:Str->Option Value)(tp:Nat->Stmt)(DD:DT)(ZZ:List Str)where
 f:Nat->Addr
 d:Nat->FuncData
 D:∀{j:Nat}{x:Str}{i:Nat},DD[j]?=some (x,i)->Df K mg x (tp i) (Cw (tp i)) (f j) (d j)
 Z:∀x∈ZZ,mg x=none
section
variable{P:Program}{w:World}{K:Frag}{mg:Str->Option Value}{base:Heap}{tp:Nat->Stmt}{DD:DT}{ZZ:List Str}
theorem Cy(X:K.In h)(G:h.Ns mainGlobals mg):∀{DD:DT}{j:Nat}{x:Str}{i:Nat},MA K tp DD->DD[j]?=some (x,i)->∃f a,Df K mg x (tp i) (Cw (tp i)) f a
 |(y,n)::DD,0,x,i,h,e=>by
  cases e;exact Xe X G h.1.1 h.1.2
 |(y,n)::DD,j+1,x,i,h,e=>Cy X G (DD:=DD) h.2 e
theorem Cz(X:K.In h)(G:h.Ns mainGlobals mg):∀{ZZ:List Str},MB K ZZ->∀x∈ZZ,mg x=none
 |y::ZZ,h,x,a=>by
  rcases Hk.mp a with e|a
  .rw[e];exact PySem.W.mg_none_of X G h.1
  .exact Cz X G h.2 x a
open Classical in
theorem XR(X:K.In h)(G:h.Ns mainGlobals mg)(a:MA K tp DD)(z:MB K ZZ):Nonempty (TT K mg tp DD ZZ):=by
 have H:∀j:Nat,∃f b,∀x i,DD[j]?=some (x,i)->Df K mg x (tp i) (Cw (tp i)) f b:=λj=>by
  cases e:DD[j]? with
  |none=>exact⟨0,fnOf "" "" (cy (tp 0)) (aN (tp 0)) (ai (tp 0)) .none .none .none .none none .none .none,λx i q=>nn q⟩
  |some y=>obtain⟨f,b,D⟩:=Cy X G a e;exact⟨f,b,λx i q=>by cases q;exact D⟩
 exact⟨⟨λj=>choose (H j),λj=>choose (choose_spec (H j)),λ{j x i} e=>choose_spec (choose_spec (H j)) x i e,Cz X G z⟩⟩
def Cl(P:Program)(w:World)(K:Frag)(mg:Str->Option Value)(base:Heap)(DD:DT)(k j:Nat)(m:Md)(S:aY):Prop:=∃c n b,mg (Mz DD j)=some c/\cu P w K mg base b c n (nj K n m S)/\b<=k/\∀a P R,S a P R->a.length=n
def DZ(P:Program)(w:World)(K:Frag)(mg:Str->Option Value)(base:Heap)(DD:DT):List (Nat×Md×Nat)->List aY->Prop
 |(j,m,k)::g7,S::Ss=>Cl P w K mg base DD k j m S/\DZ P w K mg base DD g7 Ss
 |[],_=>True
 |_::_,[]=>False
theorem CA:∀{a:List (Nat×Md×Nat)}{Ss:List aY},DZ P w K mg base DD a Ss->a.all (λy=>decide (y.2.2<=k))=true->Yy P w K mg base k (a.map λy=>Mz DD y.1) (a.map (·.2.1)) Ss
 |(j,m,k')::a,S::Ss,h,hk=>by rw[D2,Bz]at hk;obtain⟨f,n,k2,e,d,c,b⟩:=h.1;exact⟨⟨f,n,k2,e,d,Do c (Da hk.1),b⟩,CA h.2 hk.2⟩
 |[],_,_,_=>trivial
 |_::_,[],h,_=>h.elim
def Gn(K:Frag)(mg:Str->Option Value)(x:Str)(u:W):Prop:=(∃v z,mg x=some v/\RelV z v/\∀B H,Rep K B H u z)/\∀C,u=.cls C->pV K C
def XS(K:Frag)(mg:Str->Option Value):List Str->List W->Prop
 |x::gn,u::Gs=>Gn K mg x u/\XS K mg gn Gs
 |[],_=>True
 |_::_,[]=>False
theorem TJ(h:∃u,mg x=some u/\RelV (.int i) u):Gn K mg x (.int i):=by obtain⟨u,b,a⟩:=h;exact⟨⟨u,_,b,a,λ_ _=>by dsimp only[Rep]⟩,λC e=>by cases e⟩
theorem TL(h:mg x=some (.ref C))(e:pV K C):Gn K mg x (.cls C):=
 ⟨⟨_,.ref C,h,rfl,λ_ _=>by dsimp only[Rep]⟩,λa q=>by cases q;exact e⟩
theorem AA:∀{gn:List Str}{Gs:List W},XS K mg gn Gs->∀(j:Nat)(x:Str),gn[j]?=some x->Gn K mg x (ja Gs j)
 |y::gn,u::Gs,h,0,x,e=>by
  cases e;exact h.1
 |y::gn,u::Gs,h,j+1,x,e=>AA (gn:=gn) h.2 j x e
 |_::_,[],h,_,_,_=>h.elim
 |[],_,_,_,_,e=>by cases e
theorem XT(T:TT K mg tp DD ZZ)(h:DZ P w K mg base DD a Ss)(b:a.all (λy=>decide (y.2.2<=k))=true)(g:XS K mg gn Gs):Tab P w K mg base (a.map λy=>Mz DD y.1) gn ZZ (a.map (·.2.1)) [] (b7 Ss) (ja Gs) k:=
 ⟨λj x e _=>Al (CA h b) j x e,λ_ _ _ _ h=>(by cases h),λj x e=>(AA g j x e).1,T.Z,Af K,λj x C e q=>(AA g j x e).2 C q⟩
noncomputable def Oq(ZZ:List Str)(st:Stmt)(a n:Nat)(M:Ms)(fn gn:List Str)(b:List Md)(d:List (Nat×Nat))(m:Md)(c:List CS):Bool:=
 decide (((ai st).kind=.function/\(ai st).isCoroutine=false/\(ai st).isGenerator=false/\(YD st).Nodup/\(YD st).take (Cw st).length=Cw st)/\(∀x∈Cw st,(ai st).names.lookup x=some .local\/(ai st).names.lookup x=some .cell)/\(∀y∈(ai st).names,y.2≠.free)/\(Cw st).length=a/\(YD st).length=n/\(M.map (·.1)).Nodup)&&(M.all (λi=>decide (a<=i.1))&&!gv m&&cG ⟨YD st,(ai st).names,M,fn,gn,ZZ,b,d⟩ (eO b) m c (aN st))
theorem aar(T:TT K mg tp DD ZZ)(s:DD[j]?=some (x,i))(g:Oq ZZ (tp i) e n M fn gn o l m c=true)(q:Tab P w K mg base fn gn ZZ o l h G k)(r:∀a P R,S a P R->a.length=e)(p:∀a Q R,S a Q R->wSs h G c (bH m Q R) (ak n a)):
 b8 P w K mg base (je P w) (k+1) (T.f j) (T.d j) (Cw (tp i)) (nj K e m S):=by
 unfold Oq at g;rw[Bz,Bz,Bz]at g;obtain⟨y,⟨v,u⟩,t⟩:=g;obtain⟨⟨B,a2,a3,a4,a5⟩,a6,a7,A,z,a8⟩:=Da y;have b:gv m=false:=by simpa using u
 subst A z;have:=HG (T.D s).F ⟨B,a2,a3,a4,a5,a6,a7⟩ q c M m S v a8 b t r p;cases m<;>first|exact this|cases b
theorem CB(T:TT K mg tp DD ZZ)(c:DD[j]?=some (x,i))(g:a=(Cw (tp i)).length)(F:b8 P w K mg base (je P w) k (T.f j) (T.d j) (Cw (tp i)) (nj K a m S))(h:∀b P R,S b P R->b.length=a):Cl P w K mg base DD k j m S:=by
 have e:Mz DD j=x:=by unfold Mz;rw[c]
 unfold Cl;rw[e];exact(T.D c).g7 F g h (Ee k)
theorem TM{st:Stmt}{m:Md}{c:List CS}(h:Oq ZZ st a n M fn gn d b m c=true):a=(Cw st).length:=by unfold Oq at h;rw[Bz]at h;exact(Da h.1).2.2.2.1.symm
theorem XU(T:TT K mg tp DD ZZ)(q:DD[j]?=some (x,i))(e:Nat)(M:Ms)(b:List (Nat×Md×Nat))(gn:List Str)(p:∀a Q R,S a Q R->wSs (b7 Ss) (ja Gs) c (bH m Q R) (ak n a))(h:DZ P w K mg base DD b Ss)(g:XS K mg gn Gs)(l:(b.all (λy=>decide (y.2.2<=k))&&Oq ZZ (tp i) e n M (b.map λy=>Mz DD y.1) gn (b.map (·.2.1)) [] m c)=true)(o:∀a P R,S a P R->a.length=e):b8 P w K mg base (je P w) (k+1) (T.f j) (T.d j) (Cw (tp i)) (nj K e m S):=by rw[Bz]at l;exact aar T q l.2 (XT T h l.1 g) o p
theorem Iw(T:TT K mg tp DD ZZ)(l:DD[j]?=some (x,i))(d:Nat)(M:Ms)(b:List (Nat×Md×Nat))(gn:List Str)(p:∀a Q R,S a Q R->wSs (b7 Ss) (ja Gs) c (bH m Q R) (ak n a))(h:DZ P w K mg base DD b Ss)(g:XS K mg gn Gs)(e:(b.all (λy=>decide (y.2.2<=k))&&Oq ZZ (tp i) d n M (b.map λy=>Mz DD y.1) gn (b.map (·.2.1)) [] m c)=true)(f:∀a P R,S a P R->a.length=d):Cl P w K mg base DD (k+1) j m S:=by have F:=XU T l d M b gn p h g e f;rw[Bz]at e;exact CB T l (TM e.2) F f
theorem i8(T:TT K mg tp DD ZZ)(g:DD[j]?=some (x,i))(d:Nat)(M:Ms)(b:List (Nat×Md×Nat))(p:∀a Q R,S a Q R->wSs (b7 Ss) (ja []) c (bH m Q R) (ak n a))(h:DZ P w K mg base DD b Ss)(f:(b.all (λy=>decide (y.2.2<=k))&&Oq ZZ (tp i) d n M (b.map λy=>Mz DD y.1) [] (b.map (·.2.1)) [] m c)=true)(e:∀a P R,S a P R->a.length=d):Cl P w K mg base DD (k+1) j m S:=Iw T g d M b [] p h trivial f e
theorem oM(T:TT K mg tp DD ZZ)(f:DD[j]?=some (x,i))(b:Nat)(M:Ms)(p:∀a Q R,S a Q R->wSs (b7 []) (ja []) c (bH m Q R) (ak n a))(e:Oq ZZ (tp i) b n M [] [] [] [] m c=true)(d:∀a P R,S a P R->a.length=b):Cl P w K mg base DD 1 j m S:=Iw (k:=0) T f b M [] [] p trivial trivial e d
theorem Ot(T:TT K mg tp DD ZZ)(c:DD[j]?=some (x,i))(b:a=(Cw (tp i)).length):Cl P w K mg base DD k j .s Yt:=CB T c b Xf λ_ _ _ z=>z.elim
theorem dO(h:Cl P w K mg base DD k j m S)(f:k<=d):∃b n a,mg (Mz DD j)=some b/\cu P w K mg base a b n (nj K n m S)/\a<=d/\∀c P R,S c P R->c.length=n:=by obtain⟨b,n,e,o,l,i,g⟩:=h;exact⟨b,n,e,o,l,Do i f,g⟩
theorem nT(h:mg x=some (.ref D))(n:kitOne K (.ref E) (.ref D)=some false):Gn K mg x (.gi D [] [E]):=
 ⟨⟨.ref D,.ref D,h,rfl,λ_ _=>⟨rfl,λz=>absurd rfl z,λ_ z=>(by cases z),λC z=>by rw[FR.mp z];exact n⟩⟩,λ_ e=>by cases e⟩
theorem AB(h:mg x=some (.ref D))(e:pV K D)(a:P6 K E)(y:kitOne K (.ref E) (.ref D)=some true)(u:mroIn K E (.ref D)=some true):Gn K mg x (.gi D [E] []):=
 ⟨⟨.ref D,.ref D,h,rfl,λ_ _=>⟨rfl,λ_=>e,λC z=>by rw[FR.mp z];exact⟨a,y,u⟩,λ_ z=>(by cases z)⟩⟩,λ_ e=>by cases e⟩
end
end VL
namespace Na
open PySem PySem.Spec
open PyProof.Rows hiding St
open L2 VL Num
set_option genInjectivity false
set_option genSizeOf false
noncomputable def top(i:Nat):Stmt:=PySem.Challenge.pw_paperwright_k42_roots_counted.main.body.getD i (.Pass ⟨0,0,0,0⟩)
abbrev en(x:Str)(i:Nat):Str×Nat:=(x,i)
abbrev DD:DT:=[en "gcd" 4,en "turn" 5,en "turned" 7,en "raised" 10,en "cleared" 21,en "trimmed" 22,en "scaled" 23,en "whole_plus" 24,en "whole_minus" 25,en "whole_times" 26,en "whole_value" 27,en "whole_slope" 28,en "whole_divided" 29,en "whole_over" 30,en "shortened" 31,en "next_height" 34,en "sturm_chain" 35,en "counting_chain" 37,en "changes" 38,en "counted" 39,en "primitive" 41,en "count" 43,en "_law_well" 45,en "_law_draw" 46,en "_law_share" 47,en "_law_lowest" 48,en "_law_primitive" 49,en "_law_product" 50,en "_law_power" 51,en "_law_root_below" 52,en "_law_number" 53,en "_law_root" 54,en "_law_floor" 55,en "_law_less" 56,en "_law_as_number" 57,en "_law_row" 58,en "_law_known" 59,en "_law_only" 60,en "_law_end" 61,en "_law_in" 62,en "_law_right" 63,en "law" 64]
abbrev ZZ:List Str:=["ValueError","abs","bool","divmod","enumerate","int","isinstance","len","list","max","min","range","reversed"]
abbrev gE:Stmt:=inClass (top 33) 0
abbrev dM:Stmt:=inClass (top 33) 2
abbrev gF:Stmt:=top 35
abbrev AD:Stmt:=top 46
abbrev rQ:Stmt:=top 53
abbrev wC:Stmt:=top 59
abbrev s_end:Stmt:=top 61
abbrev wD:Stmt:=top 63
theorem rR:cK ["self","one","other","factor"] ["self","one","other","factor"] (ai gE):=⟨rfl,rfl,rfl,by decide+kernel,rfl,by decide+kernel,by decide+kernel⟩
theorem sR:cK ["self","quotient","rest","scale","factor","drop","known"] ["self"] (ai dM):=⟨rfl,rfl,rfl,by decide+kernel,rfl,by decide+kernel,by decide+kernel⟩
theorem rS:cK ["numbers","ahead","last","told","chain"] ["numbers"] (ai gF):=⟨rfl,rfl,rfl,by decide+kernel,rfl,by decide+kernel,by decide+kernel⟩
theorem MC:cK ["_law_well_here","_law_many","_law_found","_law_turn","_law_upper","_law_lower"] ["_law_well_here","_law_many"] (ai AD):=⟨rfl,rfl,rfl,by decide+kernel,rfl,by decide+kernel,by decide+kernel⟩
theorem D8:cK ["_law_well_here","_law_kinds","_law_kind","_law_bottom","_law_top","_law_under_root","_law_plain"] ["_law_well_here","_law_kinds"] (ai rQ):=⟨rfl,rfl,rfl,by decide+kernel,rfl,by decide+kernel,by decide+kernel⟩
theorem Iz:cK ["_law_well_here","_law_most","_law_numbers","_law_whole","_law_turn","_law_number_here","_law_part","_law_place","_law_often","_law_longer","_law_time","_law_small","_law_middle","_law_found"] ["_law_well_here","_law_most"] (ai wC):=⟨rfl,rfl,rfl,by decide+kernel,rfl,by decide+kernel,by decide+kernel⟩
theorem TN:cK ["_law_well_here","_law_numbers","_law_pick","_law_number_here"] ["_law_well_here","_law_numbers"] (ai s_end):=⟨rfl,rfl,rfl,by decide+kernel,rfl,by decide+kernel,by decide+kernel⟩
theorem IA:cK ["_law_well_here","_law_whole","_law_numbers","_law_row_here","_law_handed","_law_turn","_law_low","_law_high","_law_due","_law_told","_law_far"] ["_law_well_here"] (ai wD):=⟨rfl,rfl,rfl,by decide+kernel,rfl,by decide+kernel,by decide+kernel⟩
structure Tx(K:Frag)(mg:Str->Option Value) extends TT K mg top DD ZZ where
 aD:Addr
 jT:Hc K mg "Chain" aD ["ahead","last","factor_ahead","factor_last","lead","height","sign","scale","known"]
 j8:Addr
 j9:FuncData
 dY:Dm K aD "__init__" "Chain.__init__" gE ["self","one","other","factor"] j8 j9
 mG:Addr
 mH:FuncData
 mJ:Dm K aD "step" "Chain.step" dM ["self"] mG mH
 TQ:∃u,mg "LONG"=some u/\RelV (.int 6000) u
 aJ:Addr
 mK:mg "HouseError"=some (.ref aJ)
 mL:pV K aJ
 cY:Addr
 AE:mg "NoNumber"=some (.ref cY)
 dW:Addr
 D9:mg "NoValue"=some (.ref dW)
 fW:Addr
 IB:mg "NoText"=some (.ref fW)
 fX:Addr
 IC:mg "NoRoot"=some (.ref fX)
 aq:Addr
 CC:mg "NoRow"=some (.ref aq)
 mO:pV K aq
 fY:Addr
 ID:mg "TooFar"=some (.ref fY)
 fZ:Addr
 IE:mg "NoLine"=some (.ref fZ)
 nU:kitOne K (.ref aq) (.ref cY)=some false
 oN:kitOne K (.ref aq) (.ref dW)=some false
 rT:kitOne K (.ref aq) (.ref fW)=some false
 rV:kitOne K (.ref aq) (.ref fX)=some false
 sS:kitOne K (.ref aq) (.ref aq)=some true
 rW:kitOne K (.ref aq) (.ref fY)=some false
 rX:kitOne K (.ref aq) (.ref fZ)=some false
 f9:kitOne K (.ref aq) (.ref aJ)=some true
 c7:kitOne K (.ref aq) (.type "ValueError")=some true
 cE:mroIn K aq (.ref aJ)=some true
 gG:mroIn K aq (.ref aq)=some true
section
variable{P:Program}{w:World}{K:Frag}{mg:Str->Option Value}{base:Heap}
theorem Ou(T:Tx K mg):Cl P w K mg base DD 2 0 .s Mf:=
 Iw (Ss:=[Yt,Yt]) T.toTT rfl 2 [] [(2,.s,1),(1,.s,1)] ["LONG"] Xh ⟨Ot T.toTT rfl rfl,Ot T.toTT rfl rfl,trivial⟩ ⟨TJ T.TQ,trivial⟩ (by decide+kernel) (by walk_at "l")
theorem yH(T:Tx K mg):Cl P w K mg base DD 1 3 .s pK:=
 oM T.toTT rfl 2 [] HM (by decide+kernel) (by walk_at "l")
theorem Ea(T:Tx K mg):Cl P w K mg base DD 3 4 .s rC:=
 i8 T.toTT rfl 1 [] [(0,.s,2)] DN ⟨Ou T,trivial⟩ (by decide+kernel) (by walk_at "l")
theorem uJ(T:Tx K mg):Cl P w K mg base DD 1 5 .f lZ:=
 oM T.toTT rfl 1 [] DM (by decide+kernel) (by walk_at "l")
theorem mP(T:Tx K mg):Cl P w K mg base DD 1 6 .f iK:=
 oM T.toTT rfl 2 [] HK (by decide+kernel) (by walk_at "l")
theorem wF(T:Tx K mg):Cl P w K mg base DD 2 7 .f jx:=
 i8 T.toTT rfl 2 [(3,.f)] [(5,.f,1)] vV ⟨uJ T,trivial⟩ (by decide+kernel) (by walk_at "l")
theorem sU(T:Tx K mg):Cl P w K mg base DD 3 8 .f iM:=
 i8 T.toTT rfl 2 [] [(7,.f,2),(6,.f,1)] sJ ⟨wF T,mP T,trivial⟩ (by decide+kernel) (by walk_at "l")
theorem sW(T:Tx K mg):Cl P w K mg base DD 1 9 .f iN:=
 oM T.toTT rfl 2 [(2,.f)] sL (by decide+kernel) (by walk_at "l")
theorem sX(T:Tx K mg):Cl P w K mg base DD 1 10 .s iS:=
 oM T.toTT rfl 3 [] sP (by decide+kernel) (by walk_at "l")
theorem sY(T:Tx K mg):Cl P w K mg base DD 1 11 .f eY:=
 oM T.toTT rfl 1 [] sO (by decide+kernel) (by walk_at "l")
theorem oO(T:Tx K mg):Cl P w K mg base DD 2 12 .s fU:=
 i8 T.toTT rfl 2 [(4,.f),(5,.f)] [(6,.f,1),(5,.f,1)] oK ⟨mP T,uJ T,trivial⟩ (by decide+kernel) (by walk_at "l")
theorem wG(T:Tx K mg):Cl P w K mg base DD 1 13 .f jB:=
 oM T.toTT rfl 2 [(3,.f),(4,.f)] vX (by decide+kernel) (by walk_at "l")
theorem oA(T:Tx K mg):Cl P w K mg base DD 3 14 .s iO:=
 i8 T.toTT rfl 1 [] [(0,.s,2)] yv ⟨Ou T,trivial⟩ (by decide+kernel) (by walk_at "l")
theorem sZ(T:Tx K mg):Cl P w K mg base DD 2 15 .s iP:=
 i8 T.toTT rfl 3 [] [(3,.s,1)] sM ⟨yH T,trivial⟩ (by decide+kernel) (by walk_at "l")
theorem tu(T:Tx K mg):b8 P w K mg base (je P w) 1 T.j8 T.j9 ["self","one","other","factor"] (HU T.aD):=by
 have g:=T.jT.ok.1;have d:=T.jT.ok.2.2.2;refine T.dY.F.Zk rR (λn H Q E h=>?_) (λv A k s H n Q E y h=>?_)
 .obtain⟨x,a,t,r,p,rfl,_⟩:=h;rfl
 obtain⟨x,a,t,r,p,rfl,u,q⟩:=h;refine⟨_,(@dw _ _ _ _ _ (gq (pv 0) (pv 1) rfl)
  (@dw _ _ _ _ _ (gq (pv 0) (pv 2) rfl)
  (@dw _ _ _ _ _ (gq (pv 0) (pv 3) rfl)
  (@dw _ _ _ _ _ (gq (pv 0) (yY cW) rfl)
  (@dw _ _ _ _ _ (gq (pv 0) mX rfl)
  (@dw _ _ _ _ _ (gq (pv 0) mX rfl)
  (@dw _ _ _ _ _ (gq (pv 0) mX rfl)
  (@dw _ _ _ _ _ (gq (pv 0) mX rfl)
  (uO (gq (pv 0) mX rfl)))))))))),?_⟩
 refine⟨_,rfl,_,rfl,x,T.aD,a,_,rfl,u,g,d "ahead" (by decide),by show 0<1000;decide,?_⟩;refine⟨_,rfl,_,rfl,x,T.aD,a,_,rfl,aG,g,d "last" (by decide),by show 1<1000;decide,?_⟩;refine⟨_,rfl,_,rfl,x,T.aD,a,_,rfl,aG,g,d "factor_ahead" (by decide),by show 2<1000;decide,?_⟩;refine⟨uc (by simp),λj i=>?_⟩;have c:j≠x:=λe=>by rw[e,aG]at i;cases i
 refine⟨_,rfl,x,T.aD,a,_,rfl,E7 aG i,g,d "factor_last" (by decide),by show 3<1000;decide,?_⟩;refine⟨_,rfl,x,T.aD,a,_,rfl,aG,g,d "lead" (by decide),by show 4<1000;decide,?_⟩;refine⟨_,rfl,x,T.aD,a,_,rfl,aG,g,d "height" (by decide),by show 5<1000;decide,?_⟩;refine⟨_,rfl,x,T.aD,a,_,rfl,aG,g,d "sign" (by decide),by show 6<1000;decide,?_⟩;refine⟨_,rfl,x,T.aD,a,_,rfl,aG,g,d "scale" (by decide),by show 7<1000;decide,?_⟩;refine⟨_,rfl,x,T.aD,a,_,rfl,aG,g,d "known" (by decide),by show 8<1000;decide,?_⟩;rw[ao c,ao c,ao c]at i;refine q j _ (λb o f m=>?_) i ?_ aG
 .have l:b≠j:=aP m i;rw[ao f,ao f,ao f,ao f,ao f,ao f,ao l,ao f,ao f,ao f];exact m
 .rw[ao c,ao c,ao c,ao c,ao c,ao c,aG]
theorem MD(T:Tx K mg):cu P w K mg base 2 (.ref T.aD) 3 (nj K 3 qW (vY T.aD)):=
 Ak T.jT.ok ⟨T.jT.mks,T.dY.M.1,T.dY.M.fn,T.jT.kp⟩ T.dY.b (tu T)
theorem wH:cG ⟨["self","quotient","rest","scale","factor","drop","known"],(ai dM).names,[(0,qW)],["whole_divided","whole_minus","scaled","whole_times","raised","next_height"],[],["len"],[.s,.f,.f,.f,.s,.s],[]⟩ (eO [.s,.f,.f,.f,.s,.s]) (.io qW) dJ (aN dM)=true:=by decide+kernel
theorem wJ(T:Tx K mg):b8 P w K mg base (je P w) 4 T.mG T.mH ["self"] (nj K 1 (.io qW) (l7 T.aD)):=
 jQ T.mJ.F sR (tab_of (k:=3) (by exact⟨dO (oO T) (by decide),dO (sU T) (by decide),dO (mP T) (by decide),dO (sW T) (by decide),dO (yH T) (by decide),dO (sZ T) (by decide),trivial⟩) (by exact⟨T.Z "len" (by decide),trivial⟩)) dJ [(0,qW)] qW (l7 T.aD) (by decide) (by decide) (by decide) (by decide) wH (by walk_at "l") Ia
theorem tw:cG ⟨["numbers","ahead","last","told","chain"],(ai gF).names,[(3,.f),(4,qW)],["whole_slope","Chain","step","scaled"],[],["list","len"],[.f,qW,(.io qW),.f],[(2,0)]⟩ (eO [.f,qW,(.io qW),.f]) .f gW (aN gF)=true:=by decide+kernel
theorem tD(T:Tx K mg):Tab P w K mg base ["whole_slope","Chain","step","scaled"] [] ["list","len"] [.f,qW,(.io qW),.f] [(2,0)] (b7 [eY,(vY T.aD),(l7 T.aD),iK]) (ja [(.cls T.aD)]) 4:=by
 refine⟨λj x e h=>?_,λj g x e h=>?_,λj x e=>?_,?_,Af K,λj x C e h=>?_⟩
 .match j,e with
  |0,e=>cases e;exact dO (sY T) (by decide)
  |1,e=>cases e;exact⟨_,_,2,T.jT.c,MD T,by decide,by walk_at "l"⟩
  |2,e=>cases h
  |3,e=>cases e;exact dO (mP T) (by decide)
  |_+4,e=>simp at e
 .simp only[Hk,iq,or_false,Prod.mk.injEq]at h;rcases h with⟨rfl,rfl⟩
  .cases e;exact T.mJ.g7 (m:=(.io qW)) (wJ T) (by walk_at "l") (by decide) rfl
 .match j,e with
  |_+0,e=>simp at e
 .intro x h;simp only[Hk,iq,or_false]at h;rcases h with rfl|rfl
  .exact T.Z "list" (by decide)
  .exact T.Z "len" (by decide)
 .match j,e with
  |_+0,e=>simp at e
theorem tE(T:Tx K mg):b8 P w K mg base (je P w) 5 (T.f 16) (T.d 16) ["numbers"] (nj K 1 .f l9):=
 HG (T.D (j:=16) rfl).F rS (tD T) gW [(3,.f),(4,qW)] .f l9 (by decide) (by decide) rfl tw (by walk_at "l") DO
theorem nV(T:Tx K mg):Cl P w K mg base DD 6 17 .s jR:=
 i8 T.toTT rfl 1 [] [(16,.f,5),(13,.f,1),(14,.s,3)] Aq ⟨(CB T.toTT rfl rfl (tE T) (by walk_at "l")),wG T,oA T,trivial⟩ (by decide+kernel) (by walk_at "l")
theorem Eb(T:Tx K mg):Cl P w K mg base DD 2 18 .s rK:=
 i8 T.toTT rfl 2 [] [(10,.s,1)] DP ⟨sX T,trivial⟩ (by decide+kernel) (by walk_at "l")
theorem Ec(T:Tx K mg):Cl P w K mg base DD 3 19 .s mh:=
 i8 T.toTT rfl 3 [] [(18,.s,2)] DR ⟨Eb T,trivial⟩ (by decide+kernel) (by walk_at "l")
theorem yI(T:Tx K mg):Cl P w K mg base DD 4 20 .s fT:=
 i8 T.toTT rfl 1 [] [(4,.s,3),(14,.s,3)] yw ⟨Ea T,oA T,trivial⟩ (by decide+kernel) (by walk_at "l")
theorem v_count(T:Tx K mg):Cl P w K mg base DD 7 21 .s (fV T.aq):=
 Iw T.toTT rfl 3 [] [(19,.s,3),(17,.s,6),(20,.s,4)] ["NoRow"] DW ⟨Ec T,nV T,yI T,trivial⟩ ⟨TL T.CC T.mO,trivial⟩ (by decide+kernel) (λa P R h=>by rcases h with⟨_,_,rfl,_⟩|⟨_,_,_,_,_,rfl,_⟩<;>rfl)
theorem TR(T:Tx K mg):Cl P w K mg base DD 1 22 .f HX:=
 oM T.toTT rfl 2 [] S7 (by decide+kernel) (by walk_at "l")
theorem TU:cG ⟨["_law_well_here","_law_many","_law_found","_law_turn","_law_upper","_law_lower"],(ai AD).names,[(0,.f)],[],[],["range","divmod"],[],[]⟩ (eO []) (.io .f) rG (aN AD)=true:=by decide+kernel
theorem wL(T:Tx K mg):b8 P w K mg base (je P w) 1 (T.f 23) (T.d 23) ["_law_well_here","_law_many"] (nj K 2 (.io .f) jC):=
 jQ (T.D (j:=23) rfl).F MC (tab_of (k:=0) (Ss:=[]) (by exact trivial) (by exact⟨T.Z "range" (by decide),T.Z "divmod" (by decide),trivial⟩)) rG [(0,.f)] .f jC (by decide) (by decide) (by decide) (by decide) TU (by walk_at "l") S8
theorem CD(T:Tx K mg):Cl P w K mg base DD 1 24 .s Cj:=
 oM T.toTT rfl 2 [] Me (by decide+kernel) (by walk_at "l")
theorem mQ(T:Tx K mg):Cl P w K mg base DD 2 25 .s Am:=
 i8 T.toTT rfl 2 [] [(24,.s,1)] Xm ⟨CD T,trivial⟩ (by decide+kernel) (by walk_at "l")
theorem tF(T:Tx K mg):Cl P w K mg base DD 2 26 .f Au:=
 i8 T.toTT rfl 1 [] [(24,.s,1)] Mn ⟨CD T,trivial⟩ (by decide+kernel) (by walk_at "l")
theorem uK(T:Tx K mg):Cl P w K mg base DD 1 27 .f uI:=
 oM T.toTT rfl 2 [(2,.f)] Tj (by decide+kernel) (by walk_at "l")
theorem wM(T:Tx K mg):Cl P w K mg base DD 1 28 .s jS:=
 oM T.toTT rfl 2 [] Ig (by decide+kernel) (by walk_at "l")
theorem mR(T:Tx K mg):Cl P w K mg base DD 2 29 .s rM:=
 i8 T.toTT rfl 2 [] [(28,.s,1)] wc ⟨wM T,trivial⟩ (by decide+kernel) (by walk_at "l")
theorem IF:cG ⟨["_law_well_here","_law_kinds","_law_kind","_law_bottom","_law_top","_law_under_root","_law_plain"],(ai rQ).names,[(0,.f)],["_law_draw","_law_lowest","_law_power","_law_root_below"],[],["len"],[(.io .f),.s,.s,.s],[]⟩ (eO [(.io .f),.s,.s,.s]) (.io .f) gX (aN rQ)=true:=by decide+kernel
theorem IG(T:Tx K mg):b8 P w K mg base (je P w) 3 (T.f 30) (T.d 30) ["_law_well_here","_law_kinds"] (nj K 2 (.io .f) gY):=
 jQ (T.D (j:=30) rfl).F D8 (tab_of (k:=2) (by exact⟨(T.D (j:=23) rfl).g7 (m:=(.io .f)) (wL T) rfl (by walk_at "l") (by decide),dO (mQ T) (by decide),dO (wM T) (by decide),dO (mR T) (by decide),trivial⟩) (by exact⟨T.Z "len" (by decide),trivial⟩)) gX [(0,.f)] .f gY (by decide) (by decide) (by decide) (by decide) IF (by walk_at "l") DS
theorem II(T:Tx K mg):Cl P w K mg base DD 3 31 .s nS:=
 i8 T.toTT rfl 1 [(6,.f)] [(27,.f,1),(26,.f,2)] Mr ⟨uK T,tF T,trivial⟩ (by decide+kernel) (by walk_at "l")
theorem ME(T:Tx K mg):Cl P w K mg base DD 3 32 .s wg:=
 i8 T.toTT rfl 2 [] [(29,.s,2),(28,.s,1)] Ij ⟨mR T,wM T,trivial⟩ (by decide+kernel) (by walk_at "l")
theorem TV(T:Tx K mg):Cl P w K mg base DD 4 33 .s Ax:=
 i8 T.toTT rfl 2 [] [(31,.s,3),(32,.s,3)] Mt ⟨II T,ME T,trivial⟩ (by decide+kernel) (by walk_at "l")
theorem yJ(T:Tx K mg):Cl P w K mg base DD 1 34 .s Tt:=
 oM T.toTT rfl 1 [] yF (by decide+kernel) (by walk_at "l")
theorem XW(T:Tx K mg):Cl P w K mg base DD 3 35 .s wz:=
 i8 T.toTT rfl 2 [] [(25,.s,2)] Mv ⟨mQ T,trivial⟩ (by decide+kernel) (by walk_at "l")
theorem MF:cG ⟨["_law_well_here","_law_most","_law_numbers","_law_whole","_law_turn","_law_number_here","_law_part","_law_place","_law_often","_law_longer","_law_time","_law_small","_law_middle","_law_found"],(ai wC).names,[(0,.f),(2,.f),(13,.f)],["_law_draw","_law_number","_law_root","_law_product"],[],["range","list","len","max","abs"],[(.io .f),(.io .f),.s,.f],[]⟩ (eO [(.io .f),(.io .f),.s,.f]) (.io .f) mq (aN wC)=true:=by decide+kernel
theorem MG(T:Tx K mg):b8 P w K mg base (je P w) 4 (T.f 36) (T.d 36) ["_law_well_here","_law_most"] (nj K 2 (.io .f) mw):=
 jQ (T.D (j:=36) rfl).F Iz (tab_of (k:=3) (by exact⟨(T.D (j:=23) rfl).g7 (m:=(.io .f)) (wL T) rfl (by walk_at "l") (by decide),(T.D (j:=30) rfl).g7 (m:=(.io .f)) (IG T) rfl (by walk_at "l") (by decide),dO (II T) (by decide),dO (uK T) (by decide),trivial⟩) (by exact⟨T.Z "range" (by decide),T.Z "list" (by decide),T.Z "len" (by decide),T.Z "max" (by decide),T.Z "abs" (by decide),trivial⟩)) mq [(0,.f),(2,.f),(13,.f)] .f mw (by decide) (by decide) (by decide) (by decide) MF (by walk_at "l") Mx
theorem TY(T:Tx K mg):Cl P w K mg base DD 1 37 .s (Iq T.aq):=
 Iw (Ss:=[]) (Gs:=[.gi T.cY [] [T.aq],.gi T.dW [] [T.aq],.gi T.fW [] [T.aq],.gi T.fX [] [T.aq],.gi T.aq [T.aq] [],.gi T.fY [] [T.aq],.gi T.fZ [] [T.aq],.gi T.aJ [T.aq] []]) T.toTT rfl 2 [] [] ["NoNumber","NoValue","NoText","NoRoot","NoRow","TooFar","NoLine","HouseError"] Tz trivial ⟨(nT T.AE T.nU),(nT T.D9 T.oN),(nT T.IB T.rT),(nT T.IC T.rV),(AB T.CC T.mO ⟨T.mO,T.c7⟩ T.sS T.gG),(nT T.ID T.rW),(nT T.IE T.rX),(AB T.mK T.mL ⟨T.mO,T.c7⟩ T.f9 T.cE),trivial⟩ (by decide+kernel) (by walk_at "l")
theorem k_end:cG ⟨["_law_well_here","_law_numbers","_law_pick","_law_number_here"],(ai s_end).names,[(0,.f)],["_law_draw","_law_lowest"],[],["len"],[(.io .f),.s],[]⟩ (eO [(.io .f),.s]) (.io .f) rO (aN s_end)=true:=by decide+kernel
theorem XX(T:Tx K mg):b8 P w K mg base (je P w) 3 (T.f 38) (T.d 38) ["_law_well_here","_law_numbers"] (nj K 2 (.io .f) yG):=
 jQ (T.D (j:=38) rfl).F TN (tab_of (k:=2) (by exact⟨(T.D (j:=23) rfl).g7 (m:=(.io .f)) (wL T) rfl (by walk_at "l") (by decide),dO (mQ T) (by decide),trivial⟩) (by exact⟨T.Z "len" (by decide),trivial⟩)) rO [(0,.f)] .f yG (by decide) (by decide) (by decide) (by decide) k_end (by walk_at "l") Tw
theorem aas(T:Tx K mg):Cl P w K mg base DD 5 39 .s Mu:=
 i8 T.toTT rfl 3 [] [(33,.s,4),(34,.s,1)] XE ⟨TV T,yJ T,trivial⟩ (by decide+kernel) (by walk_at "l")
theorem MH:cG ⟨["_law_well_here","_law_whole","_law_numbers","_law_row_here","_law_handed","_law_turn","_law_low","_law_high","_law_due","_law_told","_law_far"],(ai wD).names,[(0,.f)],["_law_known","_law_row","_law_lowest","_law_draw","_law_end","_law_in","count"],[],["list","range","len","isinstance","int","bool"],[(.io .f),.s,.s,(.io .f),(.io .f),.s,.s],[]⟩ (eO [(.io .f),.s,.s,(.io .f),(.io .f),.s,.s]) (.io .f) gZ (aN wD)=true:=by decide+kernel
theorem MI(T:Tx K mg):b8 P w K mg base (je P w) 8 (T.f 40) (T.d 40) ["_law_well_here"] (nj K 1 (.io .f) mF):=
 jQ (T.D (j:=40) rfl).F IA (tab_of (k:=7) (by exact⟨(T.D (j:=36) rfl).g7 (m:=(.io .f)) (MG T) rfl (by walk_at "l") (by decide),dO (XW T) (by decide),dO (mQ T) (by decide),(T.D (j:=23) rfl).g7 (m:=(.io .f)) (wL T) rfl (by walk_at "l") (by decide),(T.D (j:=38) rfl).g7 (m:=(.io .f)) (XX T) rfl (by walk_at "l") (by decide),dO (aas T) (by decide),dO (v_count T) (by decide),trivial⟩) (by exact⟨T.Z "list" (by decide),T.Z "range" (by decide),T.Z "len" (by decide),T.Z "isinstance" (by decide),T.Z "int" (by decide),T.Z "bool" (by decide),trivial⟩)) gZ [(0,.f)] .f mF (by decide) (by decide) (by decide) (by decide) MH (by walk_at "l") DY
theorem XY(T:Tx K mg):b8 P w K mg base (je P w) 9 (T.f 41) (T.d 41) ["_law_script"] (nj K 1 .s SN):=
 XU (j:=41) (k:=8) (m:=.s) (Gs:=[.gi T.aJ [T.aq] []]) T.toTT rfl 1 [] [(40,(.io .f),8),(22,.f,1),(21,.s,7),(37,.s,1)] ["HouseError"] My ⟨(CB T.toTT rfl rfl (MI T) (by walk_at "l")),TR T,v_count T,TY T,trivial⟩ ⟨(AB T.mK T.mL ⟨T.mO,T.c7⟩ T.f9 T.cE),trivial⟩ (by decide+kernel) (by walk_at "l")
end
theorem UK{K:Frag}{st:Stmt}{h kV i e b j:Value}(a:nsIn K mainGlobals x=some (some (.ref f)))(l:K.lookup f=some ⟨h,g,.func (fnOf x x (cy st) (aN st) (ai st) .none kV i e m b j),d⟩)(c:codeIn K b x=true)(k:keepIn K (.ref f)=true):Hd K x st:=⟨f,g,m,d,h,kV,i,e,b,j,a,l,c,k⟩
theorem UL{K:Frag}{st:Stmt}{d:Array (Option Value)}{h kV j e b m:Value}(a:findIn K (.ref C) x=some (some (.ref f)))(i:isFn K (.ref f)=true)(l:K.lookup f=some ⟨h,g,.func (fnOf x q (cy st) (aN st) (ai st) .none kV j e n b m),d⟩)(c:codeIn K b q=true)(k:keepIn K (.ref f)=true):Hm K C x q st:=⟨f,g,n,d,h,kV,j,e,b,m,a,i,l,c,k⟩
theorem UM{st:Stmt}(h:∀(kV a d:Value)(g:Option Addr)(b f c:Value),bindArgs (fnOf x q (cy st) (aN st) (ai st) .none kV a d g b f) ⟨[c],[]⟩=pure ([i].zip [c])):iJ x q st [i]:=λkV a d g b f l k=>by obtain⟨c,j,rfl,e⟩:=sI k;cases PH.mp e;exact h kV a d g b f c
theorem YE{st:Stmt}(h:∀(kV a e:Value)(j:Option Addr)(b i d c:Value),bindArgs (fnOf x q (cy st) (aN st) (ai st) .none kV a e j b i) ⟨[d,c],[]⟩=pure ([l,k].zip [d,c])):iJ x q st [l,k]:=λkV a e j b i p o=>by obtain⟨d,n,rfl,g⟩:=sI o;obtain⟨c,m,rfl,f⟩:=sI g;cases PH.mp f;exact h kV a e j b i d c
theorem YF{st:Stmt}(h:∀(kV a e:Value)(k:Option Addr)(b j d c a2:Value),bindArgs (fnOf x q (cy st) (aN st) (ai st) .none kV a e k b j) ⟨[d,c,a2],[]⟩=pure ([m,l,p2].zip [d,c,a2])):iJ x q st [m,l,p2]:=λkV a e k b j s r=>by obtain⟨d,p,rfl,i⟩:=sI r;obtain⟨c,o,rfl,g⟩:=sI i;obtain⟨a2,n,rfl,f⟩:=sI g;cases PH.mp f;exact h kV a e k b j d c a2
theorem UN{st:Stmt}(h:∀(kV a e:Value)(l:Option Addr)(b k d c a2 a3:Value),bindArgs (fnOf x q (cy st) (aN st) (ai st) .none kV a e l b k) ⟨[d,c,a2,a3],[]⟩=pure ([o,n,p2,m].zip [d,c,a2,a3])):iJ x q st [o,n,p2,m]:=λkV a e l b k v u=>by obtain⟨d,t,rfl,j⟩:=sI u;obtain⟨c,s,rfl,i⟩:=sI j;obtain⟨a2,r,rfl,g⟩:=sI i;obtain⟨a3,p,rfl,f⟩:=sI g;cases PH.mp f;exact h kV a e l b k d c a2 a3
theorem all_mk{l:PySem.W.OpenLaw}{K:Frag}(X:K.In h)(G:h.Ns mainGlobals f)(g:f "law"=some (.ref I))
 {b:Addr}(IJ:nsIn K mainGlobals "Chain"=some (some (.ref b)))(IK:plainGet K b Str.empty=true)(IL:hasDictIn K b=true)(IM:plainOver K b=true)(IP:findIn K (.ref b) "__setattr__"=some (some (.builtin "object.__setattr__")))(IQ:makesIn K b=true)(IS:keepIn K (.ref b)=true)
 (tG:findIn K (.ref b) "ahead"=some none)
 (O:findIn K (.ref b) "last"=some none)
 (jF:findIn K (.ref b) "factor_ahead"=some none)
 (jZ:findIn K (.ref b) "factor_last"=some none)
 (N:findIn K (.ref b) "lead"=some none)
 (rY:findIn K (.ref b) "height"=some none)
 (M:findIn K (.ref b) "sign"=some none)
 (tH:findIn K (.ref b) "scale"=some none)
 (tK:findIn K (.ref b) "known"=some none)
 (A:Hm K b "__init__" "Chain.__init__" gE)
 (z:Hm K b "step" "Chain.step" dM)
 (aa:MA K top DD)(J:MB K ZZ)
 {TZ:Tok}(T3:nsIn K mainGlobals "LONG"=some (some (.int 6000 TZ)))
 {c:Addr}(L:nsIn K mainGlobals "HouseError"=some (some (.ref c)))(Z:excIn K c Zj "ValueError.__new__"=true)(Y:findIn K (.ref c) "__getattribute__"=some (some (.builtin "BaseException.__getattribute__")))(U:findIn K (.ref c) "__getattr__"=some none)(S:findIn K (.ref c) "__class__"=some (some (.builtin "object.__class__")))(R:mroIn K c (.type "object")=some true)(Q:mroIn K c (.type "BaseException")=some true)
 {y:Addr}(AF:nsIn K mainGlobals "NoNumber"=some (some (.ref y)))
 {r:Addr}(Ed:nsIn K mainGlobals "NoValue"=some (some (.ref r)))
 {o:Addr}(IT:nsIn K mainGlobals "NoText"=some (some (.ref o)))
 {n:Addr}(IU:nsIn K mainGlobals "NoRoot"=some (some (.ref n)))
 {a:Addr}(MJ:nsIn K mainGlobals "NoRow"=some (some (.ref a)))(IV:excIn K a Zj "ValueError.__new__"=true)(IX:findIn K (.ref a) "__getattribute__"=some (some (.builtin "BaseException.__getattribute__")))(IY:findIn K (.ref a) "__getattr__"=some none)(IZ:findIn K (.ref a) "__class__"=some (some (.builtin "object.__class__")))(Ja:mroIn K a (.type "object")=some true)(Jb:mroIn K a (.type "BaseException")=some true)
 {k:Addr}(Jc:nsIn K mainGlobals "TooFar"=some (some (.ref k)))
 {i:Addr}(Jd:nsIn K mainGlobals "NoLine"=some (some (.ref i)))
 (nW:kitOne K (.ref a) (.ref y)=some false)
 (oQ:kitOne K (.ref a) (.ref r)=some false)
 (rZ:kitOne K (.ref a) (.ref o)=some false)
 (r6:kitOne K (.ref a) (.ref n)=some false)
 (P:kitOne K (.ref a) (.ref a)=some true)
 (r8:kitOne K (.ref a) (.ref k)=some false)
 (r9:kitOne K (.ref a) (.ref i)=some false)
 (kP:kitOne K (.ref a) (.ref c)=some true)
 (kQ:kitOne K (.ref a) (.type "ValueError")=some true)
 (cE:mroIn K a (.ref c)=some true)
 (gG:mroIn K a (.ref a)=some true)
 :∃H:FuncData,(∀(s:Shared)(v:Value),BindsTo s H ⟨[v],[]⟩ [("_law_script",v)])/\∀base:Heap,K.In base->base.Ns mainGlobals f->b8 l.prog w K f base Vx 9 I H ["_law_script"] (Ci K):=by
 obtain⟨B⟩:=XR X G aa J;have MK:zN K b ["ahead","last","factor_ahead","factor_last","lead","height","sign","scale","known"]:=⟨⟨IK,IL,IM,IP⟩,by decide,by decide+kernel,λx F=>by
  simp only[Hk,iq,or_false]at F;rcases F with rfl|rfl|rfl|rfl|rfl|rfl|rfl|rfl|rfl
  .exact tG
  .exact O
  .exact jF
  .exact jZ
  .exact N
  .exact rY
  .exact M
  .exact tH
  .exact tK⟩
 obtain⟨q,u,E⟩:=Oa (ps:=["self","one","other","factor"]) A (UN λ_ _ _ _ _ _ _ _ _ _=>rfl);obtain⟨p,t,C⟩:=Oa (ps:=["self"]) z (UM λ_ _ _ _ _ _ _=>rfl);have D:=B.D (j:=41) rfl;have e:=g.symm.trans D.m;cases e
 let T:Tx K f:=⟨B,b,⟨dC X G IJ,MK,IQ,IS⟩,q,u,E,p,t,C,⟨_,dC X G T3,_,rfl⟩,c,dC X G L,⟨Z,Y,U,S,R,Q⟩,y,dC X G AF,r,dC X G Ed,o,dC X G IT,n,dC X G IU,a,dC X G MJ,⟨IV,IX,IY,IZ,Ja,Jb⟩,k,dC X G Jc,i,dC X G Jd,nW,oQ,rZ,r6,P,r8,r9,kP,kQ,cE,gG⟩
 exact⟨B.d 41,λs v=>D.bt s [v] rfl,λbase _ _=>SO (XY T)⟩
end Na
structure PySem.W.Fast:Prop where(tw9934969275813942754 tw10400746180420550630 tw5518341819927392290 tw14792718690462977466 tw4630508609119647006 tw12642929257803537311 tw8583383840088424752 tw9295389914379663138 tw9715643166316676597 tw4330205577983812744 tw17269341612245955024 tw7105092731603625234 tw3393707367567405428 tw3276837375150780457 tw3964238943114188941 tw2184440500927053882 tw13174927867061268005 tw3342635080818834050 tw6266116823599930452 tw1890910504316476811 tw15677226313874355875 tw15895920727181072167 tw16942027949678759017 tw15624675751182130606 tw17580072153606480550 tw5021151560319177985 tw7563507690988915621 tw3873226544813064200 tw9180200162222295036 tw5233501247229984635 tw14552795947086492655 tw13328687464208432617 tw3194168028858481710 tw13888821483951190298 tw601870599605930127 tw4564672380515852094 tw10878388324540696035 tw9574381973330163254 tw5868610459691030362 tw4456284389776111695 tw9795869012427906403 tw1507388903571544387 tw17842284098267848700 tw10333673991869488523 tw15059063451934000794 tw6881540933232593746 tw17932217647829644151 tw8933264329409981246 tw5737039406576820799 tw5145112451453378182 tw10538647919028311101 tw9915641884013771162 tw6499449384027052440 tw7073568833294813524 tw626375993740256792 tw239383389477240483 tw12305246826843514839 tw15210323503847259419 tw5998328748921058878 tw2334073542566519183 tw3425764235390519554 tw14052202756689093808 tw140873429292047556 tw7414616162386529994 tw18027750049417233743 tw2239607008523522618 tw11515347816150765970 tw12311981402137423304 tw4014463344203781433 tw7165979137933701715 tw1478394606800070071 tw4382751076535803731 tw90265552973422439 tw2579672805443878396 tw3404096036747438374 tw11098112373147659375 tw15204721588644275178 tw11638850739471045481 tw572764221930427612 tw18186869834618098840 tw2731286326286152367 tw1947155148263000104 tw7044895308297700360 tw4579025110183571103 tw15302171907772689400 tw18078637628972627102 tw15193646109518357309 tw11961787557068643976 tw8308052421308286585 tw11853433410973242158 tw11668954544887158724 tw11359777391382256483 tw14036605992134513949 tw3420144232454864522 tw237457501667356276 tw8099049672834506562 tw4788737798016530513 tw17446377004183454006 tw12299119030481278400 tw12896064064839518626 tw4103295453638484763 tw9014626998022196206 tw8838347272831973526 tw691343178275775606 tw9428275503007358678 tw6900269837561193767 tw2726684610800728330 tw9614635808371602202 tw6256190980332211535 tw9422328512298776928 tw11795599156423161195 tw16672813776526704543 tw9796146601961773377 tw4515209739170689891 tw681936149236303619 tw2771272080257155369 tw14588516387219704113 tw6402200211919212548 tw18054280489134555573 tw2759094278512319880 tw16915565904689445204 tw16185889685953242757 tw8502080068588563031 tw10194966072628699614 tw12631277412203066831 tw8294657168685996696 tw14790062255233041670 tw11870288200298487786 tw12204657012040967938 tw15588872285845472588 tw7301120728594234526 tw13177697628502964071 tw697926626446394410 tw17161246230861514310 tw6894962622122258528 tw4149849632923524156 tw4460828633854752905 tw15178159569635198215 tw11115865117472487275 tw5269155896722017303 tw11929420046639388949 tw2032514800081994916 tw10793703086325080335 tw6805543462926166715 tw1721875016472465432 tw12164664114797726048 tw16714528178739853859 tw370586491578680621 tw4496904476138131694 tw14764800639459503036 tw17053810401854324135 tw7252903121707331842 tw483606746599052819 tw12028903564933668598 tw11051291940473101772 tw2682151164295810442 tw9206011263633098632 tw4081311302493188858 tw9930505145054867533 tw11601353569808481753 tw7841568985701874936 tw3325910597222635517 tw16605658257642755224 tw10526567582243359426 tw7866866971259415081 tw7840614891401404561 tw11513728001974400332 tw11532097874079167084 tw10618252285070445207 tw2591959942006893487 tw4168911852554511394 tw2842102560639884057 tw8570061033716015721 tw6567719406488354719 tw4854380264662891999 tw1715860282932522941 tw9323209079156146185 tw11755772756462796162 tw16748698154646912090 tw3084428354482251406 tw3038940204341884155 tw3513074528085996349 tw3435591565346122789 tw17510707606255416111 tw16889011810097842500 tw13806521691312159634 tw17578172932339632591 tw17304692626239412606 tw3851147295896952269 tw6134966049984737500 tw10143774792259898248 tw66555137897347047 tw332696293937190963 tw6786377078435717955 tw8052840498069779055 tw6732584569937200152 tw16223890996795882142 tw4727297470253375572 tw4625670413740056835 tw8568103237288189313 tw14317342943159234607 tw3766409539802270162 tw13364941030617447743 tw2868225610907449222 tw6988259006131238044 tw6653562518894404175 tw10270403102909367111 tw17192577565818640541 tw16116645447340391717 tw142729098057650020 tw9584154052883185110 tw7564779937890082978 tw6650582208727548986 tw3529505661585069447 tw2535264307383416385 tw13310388814675960197 tw17390707835953510126 tw7392811735750315236 tw7501205001214013594 tw6139356972009538082 tw9240562994139220830 tw9013117952802816618 tw7902479882644909887 tw7488225997646901178 tw5698923595648051019 tw14935196413840713356 tw14037098447074338743 tw7427578602555752236 tw17790631219234100893 tw4039087167689743168 tw9815660230508681588 tw9237999446071891101 tw921998069786173738 tw8286045505554430 tw8015557465822998621 tw7613197715221693932 tw7542071246204681091 tw7054345496824057526 tw6878277330036493993 tw4866027527911858810 tw4201877596198449166 tw4154319502055222400 tw4061811445759271200 tw3794703569004777315 tw3466266164613598649 tw2919217722589148949 tw2745768782286163119 tw2589875411320216906 tw2412874861421185313 tw2232310057820608284 tw1943937059933200986 tw18406684750481263652 tw18030476888840139319 tw17985824186607953638 tw16665698398712956902 tw16657910590354596262 tw16016011139831014614 tw15941344654514826780 tw15840300971257440246 tw14846666063449214114 tw14833357330359797159 tw14095012790619068770 tw14002239946512712086 tw13725809934888679631 tw13723463882189294314 tw11964097507791310676 tw10869305817823565594 tw10534019585363066153 tw10073982385312545902 tw9215045917305691430 tw3741644951658983024 tw18080958237270937657 tw11502641639103469312 tw681797334006244647 tw1761659369659212612 tw1546598723360396252 tw15401099175882838263 tw1303664818973863831 tw9785906049565024814 tw8052651003063048408 tw17693089815470946142 tw6812035234251867483 tw14454879841832769635:True)
open PySem PySem.W PyProof.Rows
set_option maxRecDepth 100000 in
set_option maxHeartbeats 0 in
theorem PySem.Challenge.cw_paperwright_k42_roots_counted_holds : PySem.Challenge.rw_paperwright_k42_roots_counted.Holds := by
 w_on;o_law;k_head;(case hw=>w_witness2)
 k_fill
 refine VL.walk (l:=PySem.Challenge.rw_paperwright_k42_roots_counted) (k:=9) rfl rfl ⟨rfl,by decide,by decide⟩ (by decide+kernel) rfl (fun w h Y=>PySem.W.kIn_of Y) ?F
 case F=>
  intro w mg fa h KX G hmg
  refine' Na.all_mk KX G hmg ?yy0 ?yy1 ?yy2 ?yy3 ?yy4 ?yy5 ?yy6 ?yy7 ?yy8 ?yy9 ?aau ?aav ?aaw ?aax ?aay ?aaz ?aaA ?aaB ?aaC ?aaD ?aaE ?aaF ?aaG ?aaH ?aaI ?aaJ ?aaK ?aaL ?aaM ?aaN ?aaO ?aaP ?aaQ ?aaR ?aaS ?aaT ?aaU ?aaV ?aaW ?aaX ?aaY ?aaZ ?aa0 ?aa1 ?aa2 ?aa3 ?aa4 ?aa5 ?aa6 ?aa7 ?aa8 ?aa9
  (case yy0|yy1|yy2|yy3|yy4|yy5|yy6|yy7|yy8|yy9|aau|aav|aaw|aax|aay|aaz=>k_is)
  (case aaA|aaB=>walk_at "hm")
  (case aaC=>(iterate 42 walk_at "ah");exact trivial)
  (case aaD=>(iterate 13 walk_at "az");exact trivial)
  (case aaE|aaF=>k_is)
  (case aaG=>k_exc)
  (case aaH|aaI|aaJ|aaK|aaL|aaM|aaN|aaO|aaP|aaQ=>k_is)
  (case aaR=>k_exc)
  (case aaS|aaT|aaU|aaV|aaW|aaX|aaY=>k_is)
  (case aaZ|aa0|aa1|aa2|aa3|aa4|aa5|aa6|aa7=>kit_is)
  (case aa8|aa9=>k_is)
