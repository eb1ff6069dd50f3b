import PyProof.Rows.All
import Wide.All
import OpenK.AllK
import Wide.FinOn
import Lean
import PyProof.EqAt
import PyProof.EqKinds
import PyProof.TupleCall
import PySem.Challenge.RW_paperwright_k43_whole_counts_add_up
set_option Elab.async false
set_option linter.all false
set_option maxRecDepth 100000
set_option maxHeartbeats 4000000
set_option hygiene false in
local macro_rules | `(tactic| walk_at "lo") => `(tactic| first | exact False.elim h | (obtain ⟨rfl, _⟩ := h; rfl) | (obtain ⟨_, h⟩ := h; walk_at "lo"))
set_option hygiene false in
local macro_rules | `(tactic| walk_at "l") => `(tactic| (intro _ _ _ h; walk_at "lo"))
set_option hygiene false in
local macro_rules | `(tactic| fin2) => `(tactic| first | dsimp only [↓QY, QZ, wSs, wS, wE, wA, Bf, Qv, wP, Gw, yR, cP, setAt, List.getElem?_cons_zero, List.getElem?_cons_succ, look, List.set, cg, nO, cF, au, List.map_cons, List.map_nil, List.nil_append, List.cons_append, x_len, CI, CJ, Kn, Ko, Kp, CK, yS, yT, vg, Kq, Kr, Ku, Kv, Kw, Ky, CL, Kz, KA, KC, Q0, Q2, x_lt, Q3, Q4, Q5, sU, Q6, KD, KG, KH, Q7, KI, KJ, KL, KN, yU, vh, Q8, KO, KQ, Q9, CM, yV, fall, List.replicate, if_true, Bool.not_true, Bool.not_false] | simp only [List.getElem?_cons_zero, List.getElem?_cons_succ, List.map_cons, List.map_nil, List.nil_append, List.cons_append, x_len, CI, CJ, Kn, Ko, Kp, CK, yS, yT, vg, Kq, Kr, Ku, Kv, Kw, Ky, CL, Kz, KA, KC, Q0, Q2, x_lt, Q3, Q4, Q5, sU, Q6, KD, KG, KH, Q7, KI, KJ, KL, KN, yU, vh, Q8, KO, KQ, Q9, CM, yV, fall, List.replicate, if_true, Bool.not_true, Bool.not_false] | skip)
set_option hygiene false in
local macro_rules | `(tactic| walk_at "hd") => `(tactic| (refine' KR.Ra ?ka ?kl ?kc ?kk; (case ka => k_is); (case kl => k_is); (case kc => k_is); (case kk => k_is)))
set_option hygiene false in
local macro_rules | `(tactic| walk_at "hm") => `(tactic| (refine' KR.Rb ?ka ?ki ?kl ?kc ?kk; (case ka => k_is); (case ki => k_is); (case kl => k_is); (case kc => k_is); (case kk => k_is)))
set_option hygiene false in
local macro_rules | `(tactic| walk_at "bn") => `(tactic| first | exact KR.Rc fun _ _ _ _ _ _ _ => rfl | exact KR.Vw fun _ _ _ _ _ _ _ _ => rfl | exact KR.Vx fun _ _ _ _ _ _ _ _ _ => rfl | exact KR.Rf fun _ _ _ _ _ _ _ _ _ _ => rfl)
set_option hygiene false in
local macro_rules | `(tactic| walk_at "ah") => `(tactic| (refine' And.intro (And.intro ?h1 ?h2) ?_; (case h1 => walk_at "hd"); (case h2 => walk_at "bn")))
set_option hygiene false in
local macro_rules | `(tactic| walk_at "az") => `(tactic| (refine' And.intro ?h1 ?_; (case h1 => k_is)))
open List renaming getD_eq_getElem?_getD->AC,length_map->Ap,getElem?_eq_getElem->B1,getElem?_map->DL,getElem?_eq_none->Do,mem_cons_of_mem->Ee,mem_singleton->FK,mem_cons_self->FR,length_append->FS,size_toArray->Fs,getElem?_eq_some_iff->Fu,mem_cons->GE,getElem?_append_right->Gc,length_pos_iff->HI,mem_append_right->Hn,isEmpty_iff->IH,mem_append->KE,getElem?_append_left->KF,length_eq_zero_iff->KM,getElem?_set_ne->Kb,all_eq_true->Kj,getLast?_eq_getElem?->Kk,map_cons->L9,getElem_of_mem->NA,mem_map->Nw,length_set->OK,getElem?_set_self->Os,length_reverse->Pi,mem_of_getElem?->Qb,map_map->Qr,append_assoc->RF,getLast?_cons_cons->SZ,getElem_mem->Sr,drop_eq_getElem_cons->T2,mem_range->TK,mem_append_left->Ta,mem_filter->U2,not_mem_nil->UF,getElem?_range->UV,length_range->W1,nodup_cons->X9,getLast?_map->Ya,map_congr_left->Yf,ext_getElem?->cw,map_append->cx,append_nil->d4,length_eq_one_iff->d5,length_take->eP,getElem?_replicate->eQ,drop_length->ei,map_set->gd,dropLast_concat_getLast->h8,length_replicate->h9,reverse_cons->hV,getElem?_take_of_lt->kb,nodup_nil->mN,length_dropLast->mn,map_eq_nil_iff->oP,map_nil->oe,map_replicate->ph,drop_zero->pj,length_drop->tJ,take_of_length_le->vT,getElem?_reverse->wa,getLast?_concat->wd,getElem_reverse->wt,replicate->A2,length_cons->A6,range->Bn,lookup_cons->C2,nil_append->C4,cons_append->EF,all_cons->G1,replicate_succ->G9,zip_cons_cons->GF,flatten_cons->Gm,lookup->Hh,filterMap_cons->K6,length_nil->KZ,set_comm->L5,mem_filterMap->LH,map_inj_right->LZ,nodup_append->QC,getElem?_set->QX,getElem_map->Rn,any_eq_true->S0,of_mem_zip->Tp,map_const'->U3,exists_cons_of_ne_nil->UO,reverse_singleton->Vf,range_succ_eq_map->Vi,singleton_append->Vp,length_singleton->Vz,getElem?_zipWith->WB,dropLast_eq_take->WK,contains_iff_mem->WR,mem_of_mem_drop->Wq,reverse_append->XT,dropWhile_cons->Xd,set_cons_succ->Xz,getElem_range->Y4,getElem?_drop->Y5,foldl->Y6,contains_cons->YK,any_eq_false->YQ,map_take->Zr,set->dB
open Bool renaming and_eq_true->AN,false_ne_true->N0,and_eq_true_iff->NM,or_false->bj,and_false->dE,not_eq_true->ej,eq_iff_iff->kv,or_eq_true->oI,not_eq_true'->so,false_eq_true->MJ,or_eq_false_iff->X3,not_false->ZX,true_and->Zu,and_true->Zx
open Nat renaming le_trans->Bz,le_refl->D2,lt_of_lt_of_le->FM,mul_le_mul_left->FV,add_sub_cancel->Fn,mul_le_mul->GT,pow_le_pow_right->Hk,lt_of_le_of_lt->IR,zero_le->KB,ne_of_lt->On,lt_succ_self->PH,mul_le_mul_right->Pl,le_of_lt->Q1,lt_irrefl->QP,pow_le_pow_left->SL,le_add_right->SU,pow_pos->T1,mul_comm->X2,pow_add->XB,le_mul_of_pos_right->Xt,add_sub_cancel_left->Y1,sub_self->ar,lt_succ_of_lt->cq,le_of_not_lt->dA,eq_zero_or_pos->dC,pow_mul->du,pow_lt_pow_right->eC,zero_add->gL,le_of_eq->gN,add_le_add->i5,add_le_add_left->iq,add_assoc->kS,ne_of_gt->mI,add_comm->mM,mul_assoc->ma,sub_le_sub_right->me,add_mul->mf,add_le_add_right->ml,lt_of_le_of_ne->pb,add_right_comm->pd,sub_pos_of_lt->rn,mul_add->rp,lt_succ_of_le->sT,le_zero->si,lt_of_not_le->tI,sub_le->ui,sub_add_sub_cancel->uj,le_mul_of_pos_left->uk,le_add_left->vk,le_succ->wb,sub_zero->Gu,pow_succ->Gv,zero_mul->Qu,succ_mul->Qw,mul_succ->Qx,le_succ_of_le->R0,succ_le_succ->S8,le_max_right->SW,one_mul->Sd,mul_one->T9,log2_lt->To,le_max_left->U6,mul_lt_mul_of_pos_right->UM,eq_of_mul_eq_mul_left->V6,succ_pred_eq_of_pos->Vd,exists_eq_add_of_le->Ve,sub_sub->XO,sub_lt_sub_right->XP,one_pos->XQ,Coprime->XS,add_lt_add_left->Xu,one_le_two_pow->YP,le_of_succ_le->YY,le_of_lt_succ->Ye,min_eq_left->Z7,le_antisymm->Z8,le_of_dvd->a7,succ_pos->aa,mul_zero->ae,le_total->ax,add_zero->b5,two_mul->bM,sub_lt->c9
open PySem.Heap renaming get?_push_of_some->Da,lt_size->Fm,get?_push_size->Iy
open Rat renaming intCast_eq_zero_iff->Dx,intCast_mul->FC,mul_eq_zero->GM,inv_mul_cancel->Ha,mul_pos->Jn,mul_assoc->PP,mul_zero->Pv,one_mul->QR,mul_inv_cancel->Re,zero_mul->X1,le_of_lt->Y2,mul_le_mul_of_nonneg_left->cb,inv_pos->dk,mul_one->fI,num_divInt_den->fo,divInt_eq_div->hU,pow_succ->ik,intCast_pos->kf,intCast_inj->km,mul_pos_iff_of_pos_right->nr,intCast_add->oC,zero_add->oa,le_of_mul_le_mul_left->rk,divInt_eq_divInt_iff->sv,pow_zero->tq,mul_comm->u4,add_zero->ub,intCast_sub->vi,divInt->A3,intCast_neg_iff->L1,mul_pos_iff_of_pos_left->UE,mul_lt_mul_of_pos_left->Uj,add_mul->X4,num_eq_zero->Yv,intCast_pow->Z3,mul_nonneg->Zf
open Int renaming natAbs_mul->Fh,pow_succ->OF,mul_zero->Oy,mul_ne_zero->PQ,eq_of_mul_eq_mul_left->QQ,pow_zero->TB,gcd_dvd_right->TC,fdiv_eq_ediv_of_nonneg->Tb,mul_assoc->Wp,gcd_dvd_left->a9,mul_fdiv_cancel_left->aw,mul_comm->bb,mul_one->cm,natAbs_dvd_natAbs->de,zero_mul->eD,le_of_lt->eI,mul_ediv_cancel_left->eJ,add_zero->h7,le_of_dvd->ke,pow_add->kz,fdiv_eq_ediv_of_dvd->lh,one_mul->my,mul_le_mul_of_nonneg_left->n4,ediv_mul_cancel->oT,zero_add->oo,lt_or_le->ox,gcd_pos_of_ne_zero_left->oy,fmod_eq_emod_of_nonneg->rf,emod_lt_of_pos->rg,ediv_pos_of_pos_of_dvd->rh,natAbs_sub_le->sk,dvd_mul_of_dvd_right->t4,emod_eq_zero_of_dvd->tf,dvd_of_emod_eq_zero->tj,sub_zero->va,dvd_zero->vb,mul_pos->wx,mul_ediv_cancel'->wy,mul_dvd_mul_left->x5,gcd->Aa,natAbs_natCast->C0,toNat_natCast->CB,zero_fdiv->Lh,dvd_trans->MI,natCast_nonneg->Mq,lt_or_gt_of_ne->P5,gcd_zero_right->Pc,natAbs_add_le->R1,dvd_refl->Rh,emod_nonneg->UC,natAbs->V0,natAbs_ediv_le_natAbs->VF,pow_one->Xi,dvd_sub->Xl,toNat_of_nonneg->YM,lt_or_eq_of_le->YR,mul_left_comm->Yg,gcd_mul_left->Yk,ediv_le_self->Yr,ediv_nonneg->ZD,dvd_coe_gcd->ZT,natAbs_pow->Zs,dvd_natAbs->Zt,ediv_self->a8,zero_dvd->b7,one_pow->ba,one_dvd->bg,mul_add->bo,dvd_gcd->bw,dvd_add->c8,fdiv->dc
open Classical renaming byContradiction->Fk,propDecidable->dq,choose_spec->dr,choose->dy
open PySem renaming wpAny_bind->Hb,wpAny_pure->Pm,mem_of_lookup->SF,wpAny_truthy_bool->d6,wpAny_Call_Name_kw->dt,wpAny_passesOwn->hZ,wpAny_mono->kA,wpAny_bindName->t5,wpAny_standAt->w8
open Option.some renaming inj->Kt
open Option renaming map_eq_some_iff->Mo,isSome_iff_exists->ag,getD_some->Gp,map_some->Gq,getD_none->Xs,none->Zg
open PyProof.Rows renaming callWith_type1->SB,assignInOrder_cons->js,callWith_builtin1->bF
open Ne renaming symm->SC
open PySem.W renaming kia_one->Ts,callWith_K->ky
open Std.Associative renaming assoc->vw
open False renaming elim->G2
open ForInStep renaming yield->Gr
open True renaming intro->KY
open Array renaming length_toList->Kl,getElem?_toList->Vn,append_assoc->Xp,toList->a6
open Nat.succ renaming inj->L0
open Sum renaming inr->Qd,inl->Qf
open Std.Commutative renaming comm->Qt
open List.Pairwise renaming nil->UP
open PyProof renaming noPylong_small->Up
open Or renaming inr->WU,inl->WY
open List.cons renaming injEq->X0
open Iff renaming rfl->Yj
open Nat.Coprime renaming symm->cC,dvd_of_dvd_mul_right->cZ,dvd_of_dvd_mul_left->d3
open And renaming right->dV,left->e7
open Decidable renaming not_not->dd
noncomputable def BM:=@if_neg
noncomputable def Bi:=@if_pos
noncomputable def D1:=@of_decide_eq_true
noncomputable def He:=@decide_eq_true
noncomputable def Ki:=@decide_eq_false
noncomputable def Kx:=@decide_eq_true_eq
noncomputable def P3:=@beq_iff_eq
noncomputable def Pt:=@congrArg
noncomputable def eM:=@beq_self_eq_true
noncomputable def fe:=@of_decide_eq_false
noncomputable def ip:=@beq_eq_false_iff_ne
noncomputable def lx:=@or_false
open PySem.W(instObj methodObj hideAll_get Frag lookIn plainGet hasDictIn findIn plainGet_of isFn plainOver takerIn makesIn emptyDict keepIn mroIn kitOne fnOf codeIn nsIn mg_of)
noncomputable section
set_option bootstrap.genMatcherCode false
namespace L2
open PySem PySem.Spec PyProof.Rows
abbrev Key:=Sum Int Str
noncomputable def KU:Key->Value->Bool
 |.inl k,v=>Value.isInt k v
 |.inr x,v=>Value.isStrOf x v
noncomputable def Vy(w:World):Key->Int
 |.inl k=>hashInt k
 |.inr x=>hashStr w x
theorem bJ:∀{k:Key}{v:Value},KU k v=true->(∃i t,k=Qf i/\v=Value.int i t)\/(∃x t,k=Qd x/\v=Value.str x t)
 |.inl i,v,h=>by obtain⟨t,e⟩:=Value.isInt_shape (k:=i) (v:=v) h;exact .inl ⟨i,t,rfl,e⟩
 |.inr x,v,h=>by obtain⟨t,e⟩:=Value.isStrOf_shape (x:=x) (v:=v) h;exact .inr ⟨x,t,rfl,e⟩
theorem LU(a b:Int):decide ((Qf a:Key)=Qf b)=(a==b):=by
 by_cases e:a=b
 .subst e;simp
 .have h:¬(Qf a:Key)=Qf b:=λq=>e (Sum.inl.inj q);rw[Ki h];exact(ip.mpr e).symm
theorem LV(a b:Str):decide ((Qd a:Key)=Qd b)=decide (a=b):=by
 by_cases e:a=b
 .subst e;simp
 .have h:¬(Qd a:Key)=Qd b:=λq=>e (Sum.inr.inj q);rw[Ki h,Ki e]
theorem LW(a:Int)(b:Str):decide ((Qf a:Key)=Qd b)=false:=Ki (λq=>nomatch q)
theorem LX(a:Str)(b:Int):decide ((Qd a:Key)=Qf b)=false:=Ki (λq=>nomatch q)
noncomputable def yW(prog:Program)(w:World):PySem.KeyKind prog w Key where
 is:=KU
 hash:=Vy w
 inj:=λv a b g d=>by
  rcases bJ g with⟨i,t,rfl,rfl⟩|⟨x,t,rfl,rfl⟩
  .rcases bJ d with⟨j,u,rfl,e⟩|⟨y,u,rfl,e⟩
   .injection e with e1 _;rw[e1]
   .exact nomatch e
  .rcases bJ d with⟨j,u,rfl,e⟩|⟨y,u,rfl,e⟩
   .exact nomatch e
   .injection e with e1 _;rw[e1]
 byValue:=λk v h=>by rcases bJ h with⟨i,t,rfl,rfl⟩|⟨x,t,rfl,rfl⟩<;>rfl
 pyHash:=λc h=>by
  rcases bJ c with⟨i,t,rfl,rfl⟩|⟨x,t,rfl,rfl⟩
  .exact wpAny_pyHash_int h
  .exact wpAny_pyHash_str h
 eqBool:=λf c h=>by
  rcases bJ f with⟨i,t,rfl,rfl⟩|⟨x,t,rfl,rfl⟩
  .rcases bJ c with⟨j,u,rfl,rfl⟩|⟨y,u,rfl,rfl⟩
   .rw[LU]at h;exact wpAny_eqBool_int h
   .rw[LW]at h;exact SeqAt.EqAt.int_str i t y u _ _ _ _ h
  .rcases bJ c with⟨j,u,rfl,rfl⟩|⟨y,u,rfl,rfl⟩
   .rw[LX]at h;exact SeqAt.EqAt.str_int x t j u _ _ _ _ h
   .rw[LV]at h;exact wpAny_eqBool_str h
 «strs»:=λk x t v h=>by
  rcases bJ h with⟨i,u,rfl,e⟩|⟨y,u,rfl,e⟩
  .exact nomatch e
  .injection e with e1 _;subst e1;cases v<;>rfl
inductive V where
 |aV|bl (b:Bool)|int (i:Int)|str (x:Str)|CA (b:Array UInt8)|LY (b:UInt64)|ref (a:Addr)|ty (n:String)
 deriving DecidableEq
noncomputable def RelV:V->Value->Prop
 |.aV,u=>u=Value.none
 |.bl b,u=>u=Value.bool b
 |.int i,u=>∃t,u=Value.int i t
 |.str x,u=>∃t,u=Value.str x t
 |.CA b,u=>∃t,u=Value.bytes b t
 |.LY b,u=>∃t,u=Value.float b t
 |.ref a,u=>u=Value.ref a
 |.ty n,u=>u=Value.type n
abbrev Vals:List V->List Value->Prop:=Paired RelV
theorem Vals.length{a:List V}{us:List Value}(r:Vals a us):a.length=us.length:=Paired.length r
theorem Vals.get:∀{a:List V}{us:List Value}{i:Nat}{x:V},Vals a us->a[i]?=some x->∃u,us[i]?=some u/\RelV x u
 |_,_,_,_,.nil,e=>by simp at e
 |_,_,0,_,.cons r _,e=>by simp at e;subst e;exact⟨_,rfl,r⟩
 |_,_,i+1,x,.cons _ t,e=>by obtain⟨u,c,b⟩:=Vals.get (i:=i) (x:=x) t (by simpa using e);exact⟨u,by simpa using c,b⟩
theorem Vals.set{x:V}{u:Value}(r:RelV x u):∀{a:List V}{us:List Value}(i:Nat),Vals a us->Vals (a.set i x) (us.set i u)
 |_,_,_,.nil=>.nil
 |_,_,0,.cons _ t=>.cons r t
 |_,_,i+1,.cons q t=>.cons q (Vals.set r i t)
theorem Vals.append:∀{b a:List V}{us c:List Value},Vals b us->Vals a c->Vals (b++a) (us++c)
 |_,_,_,_,.nil,s=>s
 |_,_,_,_,.cons r t,s=>.cons r (Vals.append t s)
theorem Vals.take:∀{a:List V}{us:List Value}(n:Nat),Vals a us->Vals (a.take n) (us.take n)
 |_,_,0,_=>.nil
 |_,_,_+1,.nil=>.nil
 |_,_,n+1,.cons r t=>.cons r (Vals.take n t)
theorem Vals.drop:∀{a:List V}{us:List Value}(n:Nat),Vals a us->Vals (a.drop n) (us.drop n)
 |_,_,0,r=>r
 |_,_,_+1,.nil=>.nil
 |_,_,n+1,.cons _ t=>Vals.drop n t
noncomputable def qK:Option V->Option Value->Prop
 |some v,some u=>RelV v u
 |none,none=>True
 |_,_=>False
noncomputable def KV{κ:Type}:List (κ×V)->List (κ×Value)->Prop:=Paired λ(p:κ×V)(q:κ×Value)=>p.1=q.1/\RelV p.2 q.2
noncomputable def kV:Key->V
 |.inl i=>.int i
 |.inr x=>.str x
inductive HO where
 |lst (xs:List V)
 |tup (xs:List V)
 |dK (kvs:List (Key×V))|dT (kvs:List (List Key×V))
 |set (S:Int->Bool) (n:Nat)
 |ins (C dx:Addr) (fs:List (Str×V))
 |own (x:Addr)
 |xd (fs:List (Str×V))
 |met (f x:Addr)
 |jA (lo hi:Int)
 |vj (o:Obj) (u:HO)
 |KW (ps:Array Value)
 |ext (φ:Heap->Prop)
abbrev Hp:=Addr->Option HO
noncomputable def upd(H:Hp)(a:Addr)(o:HO):Hp:=λb=>if b=a then some o else H b
theorem aF{H:Hp}{a:Addr}{o:HO}:upd H a o a=some o:=by unfold upd;rw[Bi rfl]
theorem ak{H:Hp}{a b:Addr}{o:HO}(h:b≠a):upd H a o b=H b:=by unfold upd;rw[BM h]
theorem aW{H:Hp}{a b:Addr}{o:HO}(h:H a=some o)(h':H b=none):a≠b:=by intro e;subst e;rw[h]at h';cases h'
section
variable(P:Program)(w:World)
noncomputable def cE(H:Hp)(h:Heap)(a:Addr):HO->Prop
 |.lst d=>d.length<=sizeLine/\∃(c:List Value)(n:Nat),Vals d c/\h.get? a=some {cls:=.type "list",data:=.seq c.toArray n}
 |.tup d=>d.length<=sizeLine/\∃c:List Value,Vals d c/\IsTup h a c.toArray
 |.dK b=>b.length<=sizeLine/\(a==sysModules)=false/\∃vs,KV b vs/\h.DictOf (yW P w) a vs
 |.dT b=>b.length<=sizeLine/\(a==sysModules)=false/\∃d:List (List Key×Addr×Value),
   Paired (λ(p:List Key×V)(q:List Key×Addr×Value)=>p.1=q.1/\H q.2.1=some (.tup (p.1.map kV))/\RelV p.2 q.2.2) b d/\
   ∃o m r,h.get? a=some o/\o.ExactDict/\o.data=.dict m r/\m.toList=d.map (entryOfKey (tupleKind (yW P w)))/\(d.map (·.1)).Nodup
 |.set S n=>h.SetOf (intKind P w) a S n
 |.ins C i g=>H i=some (.own a)/\g.length<=1000/\i≠a/\h.get? a=some (instObj C i)/\
   ∃e,h.Ns1 i e/\(∀f,qK (g.lookup f) (e f))/\PySem.Within e (g.map (·.1))
 |.own _=>∃o,h.get? a=some o
 |.xd g=>∃e,h.Ns1 a e/\∀f,qK (g.lookup f) (e f)
 |.jA lo hi=>∃t u v,h.get? a=some {cls:=.type "range",data:=.fields #[.int lo t,.int hi u,.int 1 v]}
 |.vj o u=>h.get? a=some o/\cE H h a u
 |.KW ps=>h.get? a=some {cls:=.none,data:=.fields ps}
 |.met f x=>h.get? a=some (methodObj (.ref f) (.ref x))
 |.ext j=>j h/\(∃o,h.get? a=some o)/\∀l k:Heap,j l->(∀o,l.get? a=some o->k.get? a=some o)->j k
noncomputable def ku(H:Hp)(h:Heap):Prop:=∀a o,H a=some o->cE P w H h a o
end
section
variable{P:Program}{w:World}{H H':Hp}{h h':Heap}{a:Addr}{o:HO}
theorem cE.lt(x:cE P w H h a o):a<h.objs.size:=by
 cases o with
 |lst c=>obtain⟨_,_,_,_,e⟩:=x;exact Fm e
 |tup c=>obtain⟨_,_,_,p⟩:=x;exact p.lt
 |dK b=>obtain⟨_,_,_,_,o,_,_,e,_⟩:=x;exact Fm e
 |dT b=>obtain⟨_,_,_,_,o,_,_,e,_⟩:=x;exact Fm e
 |set S n=>obtain⟨o,_,_,_,e,_⟩:=x;exact Fm e
 |ins C l d=>obtain⟨_,_,_,e,_⟩:=x;exact Fm e
 |own y=>obtain⟨_,e⟩:=x;exact Fm e
 |xd d=>obtain⟨_,⟨_,_,_,e,_⟩,_⟩:=x;exact Fm e
 |jA j k=>obtain⟨_,_,_,e⟩:=x;exact Fm e
 |vj i u=>obtain⟨e,_⟩:=x;exact Fm e
 |KW g=>exact Fm (show h.get? a=some _ from x)
 |met f y=>exact Fm (show h.get? a=some _ from x)
 |ext φ=>obtain⟨_,⟨_,e⟩,_⟩:=x;exact Fm e
theorem Paired.Rg{α e:Type}{F G:α->e->Prop}:∀{d:List α}{c:List e},Paired F d c->(∀a b,F a b->G a b)->Paired G d c
 |_,_,.nil,_=>.nil
 |_,_,.cons r t,f=>.cons (f _ _ r) (Paired.Rg t f)
theorem cE.stay(x:cE P w H h a o)(k:∀b u,(b=a\/H b=some (.own a))->h.get? b=some u->h'.get? b=some u)
 (K:∀b,H b=some (.own a)->H' b=some (.own a))(J:∀b m,H b=some (.tup m)->H' b=some (.tup m)):cE P w H' h' a o:=by
 induction o with
 |lst m=>obtain⟨z,l,n,r,e⟩:=x;exact⟨z,l,n,r,k _ _ (.inl rfl) e⟩
 |tup m=>obtain⟨z,l,r,g,e,c⟩:=x;exact⟨z,l,r,g,k _ _ (.inl rfl) e,c⟩
 |dK B=>obtain⟨z,y,F,r,g,i,j,e,c⟩:=x;exact⟨z,y,F,r,g,i,j,k _ _ (.inl rfl) e,c⟩
 |dT B=>obtain⟨z,y,m,r,g,i,j,e,c⟩:=x;exact⟨z,y,m,Paired.Rg r λp q z=>⟨z.1,J _ _ z.2.1,z.2.2⟩,g,i,j,k _ _ (.inl rfl) e,c⟩
 |set S n=>obtain⟨g,i,j,t,e,c⟩:=x;exact⟨g,i,j,t,k _ _ (.inl rfl) e,c⟩
 |ins C Q L=>obtain⟨d,z,G,e,A,⟨s,i,j,M,c⟩,r⟩:=x;exact⟨K _ d,z,G,k _ _ (.inl rfl) e,A,⟨s,i,j,k _ _ (.inr d) M,c⟩,r⟩
 |own y=>obtain⟨g,e⟩:=x;exact⟨g,k _ _ (.inl rfl) e⟩
 |xd L=>obtain⟨A,⟨s,i,j,e,c⟩,r⟩:=x;exact⟨A,⟨s,i,j,k _ _ (.inl rfl) e,c⟩,r⟩
 |jA N O=>obtain⟨t,u,v,e⟩:=x;exact⟨t,u,v,k _ _ (.inl rfl) e⟩
 |vj g u I=>obtain⟨e,q⟩:=x;exact⟨k _ _ (.inl rfl) e,I q⟩
 |KW E=>have e:h.get? a=some {cls:=.none,data:=.fields E}:=x;show h'.get? a=some {cls:=.none,data:=.fields E};exact k a _ (.inl rfl) e
 |met f y=>have e:h.get? a=some (methodObj (.ref f) (.ref y)):=x;show h'.get? a=some (methodObj (.ref f) (.ref y));exact k a _ (.inl rfl) e
 |ext φ=>obtain⟨p,⟨o,e⟩,D⟩:=x;exact⟨D _ _ p λo q=>k _ _ (.inl rfl) q,⟨o,k _ _ (.inl rfl) e⟩,D⟩
theorem ku.lt(x:ku P w H h)(e:H a=some o):a<h.objs.size:=(x a o e).lt
theorem ku.fresh(x:ku P w H h)(e:h.objs.size<=a):H a=none:=by
 cases q:H a with
 |none=>rfl
 |some u=>exact absurd (FM (x.lt q) e) (QP _)
theorem ku.kept(x:ku P w H h)(k:∀b u,h.get? b=some u->h'.get? b=some u):ku P w H h':=λa o e=>(x a o e).stay (λb u _ q=>k b u q) (λ_ q=>q) λ_ _ q=>q
theorem ku.laid(x:ku P w H h)(k:∀b u,h.get? b=some u->h'.get? b=some u)(i:h.objs.size<=a)(d:cE P w (upd H a o) h' a o):ku P w (upd H a o) h':=λb u e=>by
 have f:=x.fresh i;by_cases g:b=a
 .subst g;rw[aF]at e;cases e;exact d
 .rw[ak g]at e;exact(x b u e).stay (λc v _ q=>k c v q) (λc q=>by rw[ak (aW q f)];exact q) λc j q=>by rw[ak (aW q f)];exact q
end
noncomputable def Rd(H:Hp)(a:Addr)(u:HO):Prop:=H a=some u\/∃o,H a=some (.vj o u)
theorem Rd.ok{P:Program}{w:World}{H:Hp}{h:Heap}{a:Addr}{u:HO}(r:Rd H a u)(x:ku P w H h):cE P w H h a u:=by
 rcases r with r|⟨o,r⟩
 .exact x a u r
 .obtain⟨_,q⟩:=x a _ r;exact q
noncomputable def UZ:Option HO->Prop
 |some (.lst _)=>True
 |some (.dK _)=>True
 |some (.dT _)=>True
 |some (.set _ _)=>True
 |some (.ins _ _ _)=>True
 |some (.ext _)=>True
 |_=>False
section
variable{P:Program}{w:World}{H:Hp}{h h':Heap}{x e:Addr}{o':HO}
theorem ku.write(o:ku P w H h)(d:UZ (H x))(m:e=x\/H e=some (.own x))(k:∀b u,b≠e->h.get? b=some u->h'.get? b=some u)(t:∃u,h'.get? e=some u)
 (j:cE P w (upd H x o') h' x o'):ku P w (upd H x o') h':=λb u q=>by
 have n:∀c y,H c=some (.own y)->c≠x:=λc y r z=>by subst z;rw[r]at d;exact d
 have s:∀c a,H c=some (.tup a)->c≠x:=λc a r z=>by subst z;rw[r]at d;exact d
 by_cases g:b=x
 .subst g;rw[aF]at q;cases q;exact j
 .rw[ak g]at q;by_cases i:b=e
  .have l:H b=some (.own x):=by
    rcases m with z|z
    .exact absurd (i.trans z) g
    .rw[i];exact z
   rw[q]at l;cases l;obtain⟨v,p⟩:=t;exact⟨v,by rw[i];exact p⟩
  .refine(o b u q).stay (λc v f r=>k c v ?_ r) (λc r=>by rw[ak (n c b r)];exact r) λc a r=>by rw[ak (s c a r)];exact r
   rcases f with rfl|f
   .exact i
   .rintro rfl;rcases m with z|z
    .exact n c b f z
    .rw[f]at z;cases z;exact g rfl
end
structure Un(fs ex:List Addr)(H H':Hp)(h h':Heap):Prop where
 keep:∀b o,h.get? b=some o->H b=none->b∉fs->b∉ex->h'.get? b=some o
 slot:∀b o,h.get? b=some o->H b=none->b∈fs->b∉ex->∃sl,h'.get? b=some {o with slots:=sl}
 free:∀b o,h.get? b=some o->H b=none->b∉ex->H' b=none
 there:∀b o,h.get? b=some o->b∉ex->∃o',h'.get? b=some o'
 tups:∀b xs,H b=some (.tup xs)->H' b=some (.tup xs)
 lX:∀b o u,H b=some (.vj o u)->H' b=some (.vj o u)
 nQ:∀b ps,H b=some (.KW ps)->∃more,H' b=some (.KW (ps++more))
section
variable{fs fs' ex ex':List Addr}{H H1 H2:Hp}{h h1 h2 h':Heap}{a x e:Addr}{o:HO}
theorem Un.any(u:Un fs ex H H1 h h1){b:Addr}{c:Obj}(q:h.get? b=some c)(n:H b=none)(d:b∉ex):∃g,h1.get? b=some {c with slots:=g}:=by
 by_cases f:b∈fs
 .exact u.slot b c q n f d
 .exact⟨c.slots,u.keep b c q n f d⟩
theorem Un.kept(k:∀b u,h.get? b=some u->h'.get? b=some u):Un fs ex H H h h':=
 ⟨λb c q _ _ _=>k b c q,λb c q _ _ _=>⟨c.slots,k b c q⟩,λ_ _ _ n _=>n,λb c q _=>⟨c,k b c q⟩,λ_ _ q=>q,λ_ _ _ q=>q,λ_ d q=>⟨#[],by rw[q];simp⟩⟩
theorem Un.refl:Un fs ex H H h h:=Un.kept λ_ _ q=>q
theorem Un.laid(k:∀b u,h.get? b=some u->h'.get? b=some u)(f:h.objs.size<=a)(c:H a=none):Un fs ex H (upd H a o) h h' where
 keep:=λb u q _ _ _=>k b u q
 slot:=λb u q _ _ _=>⟨u.slots,k b u q⟩
 free:=λb u q n _=>by rw[ak (On (FM (Fm q) f))];exact n
 there:=λb u q _=>⟨u,k b u q⟩
 tups:=λb d q=>by rw[ak (aW q c)];exact q
 lX:=λb u d q=>by rw[ak (aW q c)];exact q
 nQ:=λb g q=>⟨#[],by rw[ak (aW q c),q];simp⟩
theorem Un.write(c:UZ (H x))(m:e=x\/H e=some (.own x))(k:∀b u,b≠e->h.get? b=some u->h'.get? b=some u)(p:∃u,h'.get? e=some u):Un fs ex H (upd H x o) h h':=by
 have f:∀b,H b=none->b≠x:=λb n z=>by subst z;rw[n]at c;exact c
 have g:∀b,H b=none->b≠e:=λb n z=>by
  subst z;rcases m with r|r
  .exact f b n r
  .rw[n]at r;cases r
 have d:∀b u,H b=some u->¬UZ (some u)->b≠x:=λb u q l z=>by subst z;rw[q]at c;exact l c
 refine⟨λb u q n _ _=>k b u (g b n) q,λb u q n _ _=>⟨u.slots,k b u (g b n) q⟩,λb u q n _=>by rw[ak (f b n)];exact n,λb u q _=>?_,
  λb j q=>by rw[ak (d b _ q λz=>z)];exact q,λb u j q=>by rw[ak (d b _ q λz=>z)];exact q,λb s q=>⟨#[],by rw[ak (d b _ q λz=>z),q];simp⟩⟩
 by_cases i:b=e
 .subst i;exact p
 .exact⟨u,k b u i q⟩
end
noncomputable def U0(h:Heap)(H:Hp):List Addr:=(Bn h.objs.size).filter λa=>(H a).isSome
noncomputable def sW(h:Heap)(H:Hp):Heap:=PySem.W.hideAll h (U0 h H)
theorem Bg(h:Heap)(H:Hp):(sW h H).objs.size=h.objs.size:=PySem.W.hideAll_size _ _
theorem CN{h:Heap}{H:Hp}{b:Addr}{o:Obj}(e:h.get? b=some o)(n:H b=none):(sW h H).get? b=some o:=
 hideAll_get _ e λa=>by have q:(H b).isSome=true:=(U2.mp a).2;rw[n]at q;simp at q
theorem GI{h:Heap}{H:Hp}{b:Addr}{o:Obj}(e:(sW h H).get? b=some o):h.get? b=some o/\H b=none:=by
 have a:h.get? b=some o:=PySem.W.of_hideAll (U0 h H) e;refine⟨a,?_⟩;cases q:H b with
 |none=>rfl
 |some x=>have c:b∈U0 h H:=U2.mpr ⟨TK.mpr (Fm a),by simp[q]⟩;have z:(sW h H).get? b=none:=PySem.W.hideAll_none (U0 h H) c;rw[z]at e;cases e
noncomputable def GJ(g h:Heap)(L:Addr):List (Addr×Obj):=(Bn h.objs.size).filterMap λa=>if a=L\/(g.get? a).isSome=true then none else(h.get? a).map λo=>(a,o)
noncomputable def rest(g h:Heap)(L d:Addr):List (Addr×Obj):=(GJ g h L).filter λp=>decide (p.1≠d)
structure Mod(K:Frag)(mg:Str->Option Value)(base:Heap):Prop where
 L3:K.In base
 glob:base.Ns mainGlobals mg
 blt:∃mb,base.Ns builtinsNs mb/\∀x:Str,x≠"__name__"->mb x=bootBuiltins x
 nolimit:base.NoLimit
 seer:base.NoSeer
set_option genInjectivity false in
set_option genSizeOf false in
structure Cx where
 prog:Program
 w:World
 K:Frag
 mg:Str->Option Value
 base:Heap
 A:Around
 N:List Str
 s₀:Shared
 H₀:Hp
 env:Env
 outer:List Env
 stack:List Env
 ex:List Addr
 fn:Str->Bool
 calm:Bool
 pn:List (Addr×Obj)
 xe:Value->Shared->Prop
noncomputable def frs(l:List Env):List Addr:=l.filterMap (·.frame)
abbrev Cx.fs(X:Cx):List Addr:=frs X.outer
noncomputable def Ri(sc:Scope)(x:Str):Prop:=sc.names.lookup x=some .local\/sc.names.lookup x=some .cell\/sc.names.lookup x=some .free
noncomputable def Loc(sc:Scope)(x:Str):Prop:=sc.names.lookup x=some .local\/sc.names.lookup x=some .cell
noncomputable def Look(env:Env)(h:Heap)(m:Str->Option Value)(x:Str)(u:Value):Prop:=
 (env.kindOf x=some .local/\m x=some u)\/((env.kindOf x=some .cell\/env.kindOf x=some .free)/\∃c,env.cells.lookup x=some c/\h.IsCell c (some u))
structure Cx.Ok(X:Cx):Prop where
 mod:Mod X.K X.mg X.base
 kind:X.env.scope.kind=.function
 glob:X.env.globals=mainGlobals
 blt:X.env.builtins=builtinsNs
 above:X.s₀.heap.objs.size<=X.env.locals
 inj:∀x y c,X.env.cells.lookup x=some c->X.env.cells.lookup y=some c->x=y
 has:∀x,(X.env.kindOf x=some .cell\/X.env.kindOf x=some .free)->∃c,X.env.cells.lookup x=some c
 Rk:∀x c,X.fn x=true->X.env.cells.lookup x=some c->X.s₀.heap.objs.size<=c
 hd:X.calm=true->X.A.handled=none
 frames:X.A.frames=some X.stack
 stk:X.stack=X.outer\/(X.stack=X.env::X.outer/\X.env.frame=some X.env.locals)
 VC:∀b∈X.ex,b≠X.env.locals/\∀x c,X.env.cells.lookup x=some c->c≠b
 bs:∀b o,X.base.get? b=some o->X.s₀.heap.get? b=some o/\X.H₀ b=none
 GK:X.base.objs.size<=X.s₀.heap.objs.size
 CO:∀b o,X.base.get? b=some o->b∉X.ex
 CP:∀b∈X.ex,b∉X.fs
 nR:X.s₀.heap.FunFrames X.base X.outer
 L4:∀b∈X.fs,X.H₀ b=none
 tree:X.prog.given.tree=none
 U1:∀(A:Around)(s:Shared),A.frames=X.A.frames->A.depth=X.A.depth->(∀b o,X.base.get? b=some o->s.heap.get? b=some o)->PylongRoom (model X.prog X.w) A s
structure Inv(X:Cx)(pins:List (Addr×Obj))(σ:List (Option V))(H:Hp)(s:Shared):Prop where
 ok:X.Ok
 os:s.os=X.s₀.os
 bare:AllBare s.gens
 base:Un X.fs X.ex X.H₀ H X.s₀.heap s.heap
 loc:∃m,s.heap.Ns X.env.locals m/\∀(i:Nat)(x:Str)(v:V),X.N[i]?=some x->σ[i]?=some (some v)->Ri X.env.scope x->∃u,RelV v u/\Look X.env s.heap m x u
 cell:∀x c,X.env.cells.lookup x=some c->∃v,s.heap.IsCell c v
 free:H X.env.locals=none
 jG:∀x c,X.env.cells.lookup x=some c->H c=none
 pin:∀p∈X.pn++pins,s.heap.get? p.1=some p.2/\H p.1=none/\p.1≠X.env.locals/\p.1∉X.fs/\∀v,p.2.data≠.cell v
 hok:ku X.prog X.w H s.heap
 len:σ.length=X.N.length
section
variable{X:Cx}{pins:List (Addr×Obj)}{σ:List (Option V)}{H H':Hp}{s:Shared}{h':Heap}
theorem Cx.Ok.GL(a:X.Ok){b:Addr}{o:Obj}(e:X.base.get? b=some o):b∉X.fs:=λc=>by have:=(a.nR.mem c).1;rw[e]at this;cases this
theorem Inv.bs(I:Inv X pins σ H s):∀b o,X.base.get? b=some o->s.heap.get? b=some o/\H b=none:=λb o e=>⟨I.base.keep b o (I.ok.bs b o e).1 (I.ok.bs b o e).2 (I.ok.GL e) (I.ok.CO b o e),I.base.free b o (I.ok.bs b o e).1 (I.ok.bs b o e).2 (I.ok.CO b o e)⟩
theorem Inv.bk(I:Inv X pins σ H s):∀b o,X.base.get? b=some o->s.heap.get? b=some o:=λb o e=>(I.bs b o e).1
theorem Inv.mod(I:Inv X pins σ H s):Mod X.K X.mg X.base:=I.ok.mod
theorem Inv.lW(I:Inv X pins σ H s):X.K.In s.heap:=I.ok.mod.L3.keeps I.bk
theorem Inv.lt(I:Inv X pins σ H s):X.env.locals<s.heap.objs.size:=let⟨_,hn,_⟩:=I.loc;hn.lt
theorem Inv.sz(I:Inv X pins σ H s):X.s₀.heap.objs.size<=s.heap.objs.size:=Bz I.ok.above (Q1 I.lt)
theorem Inv.VD(I:Inv X pins σ H s){a:Addr}(h:s.heap.objs.size<=a):a∉X.fs:=λc=>by obtain⟨_,o,b,_⟩:=I.ok.nR.mem c;exact absurd (FM (Fm b) (Bz I.sz h)) (QP _)
theorem Inv.L6(I:Inv X pins σ H s):∀x c,X.env.cells.lookup x=some c->c≠X.env.locals:=λx c e z=>by obtain⟨v,o,d,f⟩:=I.cell x c e;obtain⟨m,⟨g,h,i,a,b,_⟩,_⟩:=I.loc;rw[z,a]at d;cases d;rw[b]at f;cases f
theorem Inv.nR(I:Inv X pins σ H s):s.heap.FunFrames X.base X.outer:=by
 have f:∀(l:List Env),(∀b∈frs l,b∈X.fs)->X.s₀.heap.FunFrames X.base l->s.heap.FunFrames X.base l:=by
  intro l
  induction l with
  |nil=>intro _ _;trivial
  |cons env r h=>intro g m;obtain⟨n,⟨L,o,a,k,j,p⟩,i⟩:=m;have d:L∈X.fs:=g L (by unfold frs;rw[K6,a];exact FR);obtain⟨q,e⟩:=I.base.slot L o j (I.ok.L4 L d) d λz=>I.ok.CP L z d;exact⟨n,⟨L,_,a,k,e,p⟩,h (λb c=>g b (by unfold frs;rw[K6,a];exact Ee _ c)) i⟩
 exact f X.outer (λ_ c=>c) I.ok.nR
theorem Inv.stack(I:Inv X pins σ H s):s.heap.FunFrames X.base X.stack:=by
 rcases I.ok.stk with e|⟨e,b⟩
 .rw[e];exact I.nR
 .rw[e];obtain⟨m,a,_⟩:=I.loc;refine .cons (by rw[I.ok.kind];decide) b a ?_ I.nR;exact Heap.get?_none_of_le (Bz I.ok.GK I.ok.above)
theorem Inv.xE(I:Inv X pins σ H s):∀b∈frs X.stack,b∈X.env.locals::X.fs:=λb a=>by
 rcases I.ok.stk with e|⟨e,c⟩
 .rw[e]at a;exact Ee _ a
 .rw[e]at a;unfold frs at a;rw[K6,c]at a;exact a
theorem Inv.kF(I:Inv X pins σ H s):∀b∈frs X.stack,H b=none:=λb a=>by
 rcases GE.mp (I.xE b a)with e|a
 .rw[e];exact I.free
 .obtain⟨_,o,c,_⟩:=I.ok.nR.mem a;exact I.base.free b o c (I.ok.L4 b a) λz=>I.ok.CP b z a
theorem Inv.step{g':Array GenState}{t':Nat}{d':Drawn}{ch:List Addr}(I:Inv X pins σ H s)
 (f:∀b∈ch,(b∈X.ex\/X.s₀.heap.objs.size<=b)/\b≠X.env.locals/\(∀x c,X.env.cells.lookup x=some c->c≠b)/\∀p∈X.pn++pins,p.1≠b)
 (keep:∀b o,b≠X.env.locals->b∉X.fs->b∉ch->s.heap.get? b=some o->H b=none->h'.get? b=some o)
 (slot:∀b o,b≠X.env.locals->b∈X.fs->b∉ch->s.heap.get? b=some o->H b=none->∃F,h'.get? b=some {o with slots:=F})(free:∀b o,b∉ch->s.heap.get? b=some o->H b=none->H' b=none)
 (there:∀b o,b∉ch->s.heap.get? b=some o->∃A,h'.get? b=some A)
 (tups:∀b j,H b=some (.tup j)->H' b=some (.tup j))(lX:∀b o u,H b=some (.vj o u)->H' b=some (.vj o u))(nQ:∀b ps,H b=some (.KW ps)->∃B,H' b=some (.KW (ps++B)))
 (ns:∀m,s.heap.Ns X.env.locals m->h'.Ns X.env.locals m)(G:ku X.prog X.w H' h')(T:AllBare g'):
 Inv X pins σ H' {s with heap:=h',gens:=g',drawn:=d',toks:=t'}:=by
 have O:∀b o,X.s₀.heap.get? b=some o->b≠X.env.locals:=λb o e=>On (FM (Fm e) I.ok.above);have E:∀b o,X.s₀.heap.get? b=some o->b∉X.ex->b∉ch:=λb o e a t=>by
  rcases(f b t).1 with z|z
  .exact a z
  .exact absurd (FM (Fm e) z) (QP _)
 have g:∀x c,X.env.cells.lookup x=some c->∀v,s.heap.IsCell c v->h'.IsCell c v:=λx c e v ⟨o,y,J⟩=>by
  have D:c∉ch:=λz=>(f c z).2.2.1 x c e rfl;by_cases N:c∈X.fs
  .obtain⟨F,q⟩:=slot c o (I.L6 x c e) N D y (I.jG x c e);exact⟨_,q,J⟩
  .exact⟨o,keep c o (I.L6 x c e) N D y (I.jG x c e),J⟩
 refine⟨I.ok,I.os,T,⟨λb o e n t a=>?_,λb o e n t a=>?_,λb o e n a=>?_,λb o e a=>?_,λb j e=>tups b j (I.base.tups b j e),λb o j e=>lX b o j (I.base.lX b o j e),λb ps e=>?_⟩,?_,λx c e=>?_,?_,λx c e=>?_,λp M=>?_,G,I.len⟩
 .exact keep b o (O b o e) t (E b o e a) (I.base.keep b o e n t a) (I.base.free b o e n a)
 .obtain⟨F,h⟩:=I.base.slot b o e n t a;obtain⟨Y,C⟩:=slot b _ (O b o e) t (E b o e a) h (I.base.free b o e n a);exact⟨Y,C⟩
 .obtain⟨A,h⟩:=I.base.there b o e a;exact free b A (E b o e a) h (I.base.free b o e n a)
 .obtain⟨A,h⟩:=I.base.there b o e a;exact there b A (E b o e a) h
 .obtain⟨Q,h⟩:=I.base.nQ b ps e;obtain⟨P,C⟩:=nQ b _ h;exact⟨Q++P,by rw[C,Xp]⟩
 .obtain⟨m,R,S⟩:=I.loc;refine⟨m,ns m R,λi x v h C U=>?_⟩;obtain⟨u,r,l⟩:=S i x v h C U;refine⟨u,r,?_⟩;rcases l with l|⟨k,c,e,z⟩
  .exact .inl l
  .exact .inr ⟨k,c,e,g x c e _ z⟩
 .obtain⟨v,z⟩:=I.cell x c e;exact⟨v,g x c e v z⟩
 .obtain⟨m,⟨o,_,_,y,_⟩,_⟩:=I.loc;exact free _ o (λz=>(f _ z).2.1 rfl) y I.free
 .obtain⟨v,o,y,J⟩:=I.cell x c e;exact free c o (λz=>(f c z).2.2.1 x c e rfl) y (I.jG x c e)
 .obtain⟨e,n,L,K,d⟩:=I.pin p M;have D:p.1∉ch:=λz=>(f p.1 z).2.2.2 p M rfl;exact⟨keep p.1 p.2 L K D e n,free p.1 p.2 D e n,L,K,d⟩
theorem Inv.un{t':Nat}(I:Inv X pins σ H s)(u:Un X.fs [] H H' s.heap h')(c:ku X.prog X.w H' h'):Inv X pins σ H' {s with heap:=h',toks:=t'}:=by obtain⟨m,⟨o,t,v,g,r⟩,_⟩:=id I.loc;obtain⟨l,j⟩:=u.any g I.free (by simp);exact I.step (g':=s.gens) (d':=s.drawn) (ch:=[]) (λ_ z=>nomatch z) (λb o _ d _ e n=>u.keep b o e n d (by simp)) (λb o _ d _ e n=>u.slot b o e n d (by simp)) (λb o _ e n=>u.free b o e n (by simp)) (λb o _ e=>u.there b o e (by simp)) u.tups u.lX u.nQ (λq i=>by obtain⟨p,f,k,a,h⟩:=i;rw[g]at a;cases a;exact⟨_,f,k,j,h⟩) c I.bare
theorem Inv.call{g':Array GenState}{t':Nat}{d':Drawn}{ch:List Addr}(I:Inv X pins σ H s)(u:Un (frs X.stack) ch H H' s.heap h')(g:ku X.prog X.w H' h')(q:AllBare g')
 (f:∀b∈ch,(b∈X.ex\/X.s₀.heap.objs.size<=b)/\b≠X.env.locals/\(∀x c,X.env.cells.lookup x=some c->c≠b)/\∀p∈X.pn++pins,p.1≠b):
 Inv X pins σ H' {s with heap:=h',gens:=g',drawn:=d',toks:=t'}:=by
 obtain⟨m,⟨o,C,D,j,r⟩,_⟩:=id I.loc;obtain⟨y,h⟩:=u.any j I.free λz=>(f _ z).2.1 rfl;exact I.step (ch:=ch) f (λb o h t a e n=>u.keep b o e n (λz=>(GE.mp (I.xE b z)).elim h t) a) (λb o _ _ a e n=>u.any e n a) (λb o a e n=>u.free b o e n a) (λb o a e=>u.there b o e a) u.tups u.lX u.nQ (λB l=>by obtain⟨A,i,v,d,k⟩:=l;rw[j]at d;cases d;exact⟨_,i,v,h,k⟩) g q
theorem Inv.turned{t':Nat}{a:Addr}(I:Inv X pins σ H s)(k:∀b o,b≠a->s.heap.get? b=some o->h'.get? b=some o)(i:H a=none)(f:a≠X.env.locals)
 (y:a∈X.ex\/X.s₀.heap.objs.size<=a)(w:∀x c,X.env.cells.lookup x=some c->c≠a)(t:∀p∈X.pn++pins,p.1≠a):Inv X pins σ H {s with heap:=h',toks:=t'}:=by
 have g:∀b u,H b=some u->b≠a:=λb u e z=>by rw[z,i]at e;cases e
 refine I.step (g':=s.gens) (d':=s.drawn) (ch:=[a]) (λb l=>?_) (λb o _ _ d e _=>k b o (λz=>d (by simp[z])) e) (λb o _ _ d e _=>⟨o.slots,k b o (λz=>d (by simp[z])) e⟩) (λ_ _ _ _ n=>n)
  (λb o d e=>⟨o,k b o (λz=>d (by simp[z])) e⟩) (λ_ _ e=>e) (λ_ _ _ e=>e) (λb C e=>⟨#[],by rw[e];simp⟩) (λm j=>?_) (λb u e=>?_) I.bare
 .have e:b=a:=by simpa using l
  subst e;exact⟨y,f,w,t⟩
 .obtain⟨o,A,B,h,r⟩:=j;exact⟨o,A,B,k _ o (SC f) h,r⟩
 .refine(I.hok b u e).stay (λc v d q=>k c v ?_ q) (λ_ q=>q) λ_ _ q=>q;rcases d with z|z
  .rw[z];exact g b u e
  .exact g c _ z
theorem Inv.tok(I:Inv X pins σ H s)(t:Nat):Inv X pins σ H {s with toks:=t}:=I.un (h':=s.heap) (t':=t) Un.refl I.hok
theorem Inv.kept{t':Nat}(I:Inv X pins σ H s)(k:∀b u,s.heap.get? b=some u->h'.get? b=some u):Inv X pins σ H {s with heap:=h',toks:=t'}:=I.un (Un.kept k) (I.hok.kept k)
theorem Inv.laid{a:Addr}{o:HO}{t':Nat}(I:Inv X pins σ H s)(k:∀b u,s.heap.get? b=some u->h'.get? b=some u)(d:s.heap.objs.size<=a)(c:cE X.prog X.w (upd H a o) h' a o):
 Inv X pins σ (upd H a o) {s with heap:=h',toks:=t'}:=I.un (Un.laid k d (I.hok.fresh d)) (I.hok.laid k d c)
theorem Inv.write{x e:Addr}{o:HO}{t':Nat}(I:Inv X pins σ H s)(c:UZ (H x))(d:e=x\/H e=some (.own x))(k:∀b u,b≠e->s.heap.get? b=some u->h'.get? b=some u)(f:∃u,h'.get? e=some u)
 (a:cE X.prog X.w (upd H x o) h' x o):Inv X pins σ (upd H x o) {s with heap:=h',toks:=t'}:=I.un (Un.write c d k f) (I.hok.write c d k f a)
theorem Inv.yX{a:List (Addr×Obj)}(I:Inv X pins σ H s)(h:∀p∈a,s.heap.get? p.1=some p.2/\H p.1=none/\p.1≠X.env.locals/\p.1∉X.fs/\∀v,p.2.data≠.cell v):Inv X a σ H s:=
 ⟨I.ok,I.os,I.bare,I.base,I.loc,I.cell,I.free,I.jG,λp b=>(KE.mp b).elim (λz=>I.pin p (Ta _ z)) (h p),I.hok,I.len⟩
theorem vm{N:List Str}(c:N.Nodup){i j:Nat}{x:Str}(a:N[i]?=some x)(b:N[j]?=some x):i=j:=by obtain⟨g,e⟩:=Fu.mp a;obtain⟨f,d⟩:=Fu.mp b;exact(List.getElem_inj c).mp (e.trans d.symm)
theorem rO{M:Model}{A:Around}{E:Value->Shared->Prop}{i:Nat}{x:Str}{v:V}{u:Value}{Q:Unit->Shared->Prop}(I:Inv X pins σ H s)(hN:X.N.Nodup)(hi:X.N[i]?=some x)(B:Loc X.env.scope x)(r:RelV v u)
 (h:∀s',Inv X pins (σ.set i (some v)) H s'->(∃a,Heap.SameBut a s.heap s'.heap/\(a=X.env.locals\/X.env.cells.lookup x=some a))->Q () s')(hf:X.fn x=true\/X.env.scope.names.lookup x=some .local:=by first|exact .inl rfl|exact .inr rfl|assumption):wpAny M A (storeName X.env x u) Q E s:=by
 obtain⟨m,hn,hl⟩:=id I.loc;have O:(X.env.scope.kind==.class||(X.env.scope.kind==.module&&X.env.locals !=X.env.globals))=false:=by rw[I.ok.kind];rfl
 have Rl:i<σ.length:=by rw[I.len];exact(Fu.mp hi).1
 have L6:=I.L6;have g:∀{a:Addr}{h':Heap},(∃o,s.heap.get? a=some o/\H a=none)->Heap.SameBut a s.heap h'->ku X.prog X.w H h':=λ{a h'} ha f b ob e=>by
  obtain⟨_,_,C⟩:=ha;refine(I.hok b ob e).stay (λc S t q=>(f.2 c ?_).trans q) (λ_ q=>q) λ_ _ q=>q;rintro rfl;rcases t with rfl|t
  .rw[C]at e;cases e
  .rw[C]at t;cases t
 rcases B with F|F
 .refine wpAny_storeName_local F hn (λh' hn' f=>?_) O;obtain⟨oL,_,_,Zh,_⟩:=id hn;refine h _ ⟨I.ok,I.os,I.bare,⟨λb o e n K B=>?_,λb o e n K B=>?_,I.base.free,λb o e B=>?_,I.base.tups,I.base.lX,I.base.nQ⟩,⟨_,hn',λj y Y l D e3=>?_⟩,λy c e=>?_,I.free,I.jG,λp hp=>?_,g ⟨oL,Zh,I.free⟩ f,by simpa using I.len⟩ ⟨_,f,.inl rfl⟩
  .exact(f.2 b (On (FM (Fm e) I.ok.above))).trans (I.base.keep b o e n K B)
  .obtain⟨sl,l⟩:=I.base.slot b o e n K B;exact⟨sl,(f.2 b (On (FM (Fm e) I.ok.above))).trans l⟩
  .obtain⟨o',l⟩:=I.base.there b o e B;exact⟨o',(f.2 b (On (FM (Fm e) I.ok.above))).trans l⟩
  .by_cases G:j=i
   .subst G;rw[hi]at l;cases l;rw[Os Rl]at D;cases D;exact⟨u,r,.inl ⟨F,by simp⟩⟩
   .rw[Kb (SC G)]at D;obtain⟨Z,r',q⟩:=hl j y Y l D e3;refine⟨Z,r',?_⟩;rcases q with⟨k,e⟩|⟨k,c,e,z⟩
    .refine .inl ⟨k,?_⟩;have:y≠x:=λe=>G (vm hN l (e▸hi));simp[this,e]
    .exact .inr ⟨k,c,e,z.sameBut f (L6 y c e)⟩
  .obtain⟨S,z⟩:=I.cell y c e;exact⟨S,z.sameBut f (L6 y c e)⟩
  .obtain⟨e,n,T,nf,d⟩:=I.pin p hp;exact⟨(f.2 p.1 T).trans e,n,T,nf,d⟩
 .have J:X.fn x=true:=by
   rcases hf with z|z
   .exact z
   .rw[z]at F;cases F
  obtain⟨c,t⟩:=I.ok.has x (.inl F);obtain⟨S,z⟩:=I.cell x c t;refine wpAny_storeName_cell I.ok.kind F t z (λh' R f=>?_);obtain⟨oc,L,VG⟩:=id z;refine h {s with heap:=h'} ⟨I.ok,I.os,I.bare,⟨λb o e n K B=>?_,λb o e n K B=>?_,I.base.free,λb o e B=>?_,I.base.tups,I.base.lX,I.base.nQ⟩,⟨m,hn.sameBut f (SC (L6 x c t)),λj y Y l D e3=>?_⟩,λy U e=>?_,I.free,I.jG,λp hp=>?_,g ⟨oc,L,I.jG x c t⟩ f,by simpa using I.len⟩ ⟨c,f,.inr t⟩
  .exact(f.2 b (On (FM (Fm e) (I.ok.Rk x c J t)))).trans (I.base.keep b o e n K B)
  .obtain⟨sl,l⟩:=I.base.slot b o e n K B;exact⟨sl,(f.2 b (On (FM (Fm e) (I.ok.Rk x c J t)))).trans l⟩
  .obtain⟨o',l⟩:=I.base.there b o e B;exact⟨o',(f.2 b (On (FM (Fm e) (I.ok.Rk x c J t)))).trans l⟩
  .by_cases G:j=i
   .subst G;rw[hi]at l;cases l;rw[Os Rl]at D;cases D;exact⟨u,r,.inr ⟨.inl F,c,t,R⟩⟩
   .rw[Kb (SC G)]at D;obtain⟨Z,r',q⟩:=hl j y Y l D e3;refine⟨Z,r',?_⟩;rcases q with q|⟨k,U,e,z'⟩
    .exact .inl q
    .refine .inr ⟨k,U,e,z'.sameBut f ?_⟩;rintro rfl;exact G (vm hN l (I.ok.inj _ _ _ e t▸hi))
  .by_cases P:U=c
   .subst P;exact⟨_,R⟩
   .obtain⟨w2,z2⟩:=I.cell y U e;exact⟨w2,z2.sameBut f P⟩
  .obtain⟨e,n,T,nf,d⟩:=I.pin p hp;refine⟨(f.2 p.1 ?_).trans e,n,T,nf,d⟩;intro q;rw[q,L]at e;have q':oc=p.2:=Kt e;exact d S (by rw[<-q'];exact VG)
theorem fJ{M:Model}{A:Around}{E:Value->Shared->Prop}{i:Nat}{x:Str}{v:V}{u:Value}{Q:Unit->Shared->Prop}(I:Inv X pins σ H s)(c:X.N.Nodup)(hi:X.N[i]?=some x)(a:Loc X.env.scope x)(r:RelV v u)
 (h:∀s',Inv X pins (σ.set i (some v)) H s'->Q () s')(b:X.fn x=true\/X.env.scope.names.lookup x=some .local:=by first|exact .inl rfl|exact .inr rfl|assumption):wpAny M A (storeName X.env x u) Q E s:=
 rO I c hi a r (λs' d _=>h s' d) b
theorem Inv.K0{s':Shared}{ch:List Addr}(I:Inv X pins σ H s)(g:s'.os=s.os)(u:Un (frs X.stack) ch H H' s.heap s'.heap)(a:ku X.prog X.w H' s'.heap)(h:AllBare s'.gens)
 (d:∀b∈ch,(b∈X.ex\/X.s₀.heap.objs.size<=b)/\b≠X.env.locals/\(∀x c,X.env.cells.lookup x=some c->c≠b)/\∀p∈X.pn++pins,p.1≠b):Inv X pins σ H' s':=by
 obtain⟨h',g',d',t',f⟩:=s';have e:f=s.os:=g;subst e;exact I.call (g':=g') (t':=t') (d':=d') u a h d
end
abbrev XK:=Value->Option Addr->Hp->Prop
abbrev St:=List (Option V)
abbrev VK:=V->Hp->Prop
abbrev TE:=St->Hp->VK->Prop
abbrev TT:=St->Hp->(Bool->Hp->Prop)->Prop
abbrev TA:=St->Hp->(List V->Hp->Prop)->Prop
set_option genInjectivity false in
set_option genSizeOf false in
structure Ends where
 nx:St->Hp->Prop
 rt:VK
 bk:St->Hp->Prop:=λ_ _=>False
 ct:St->Hp->Prop:=λ_ _=>False
abbrev TS:=Ends->St->Hp->Prop
noncomputable def EP(X:Cx)(a:List (Addr×Obj))(c:St)(Q:VK)(u:Value)(s':Shared):Prop:=∃v b,Inv X a c b s'/\RelV v u/\Q v b
noncomputable def TP(X:Cx)(a:List (Addr×Obj))(d:St)(Q:Bool->Hp->Prop)(b:Bool)(s':Shared):Prop:=∃c,Inv X a d c s'/\Q b c
noncomputable def AP(X:Cx)(a:List (Addr×Obj))(d:St)(Q:List V->Hp->Prop)(us:List Value)(s':Shared):Prop:=∃b c,Inv X a d c s'/\Vals b us/\Q b c
noncomputable def SP(X:Cx)(b:List (Addr×Obj))(D:Ends)(f:Flow)(s':Shared):Prop:=
 match f with
 |.next=>∃a c,Inv X b a c s'/\D.nx a c
 |.brk=>∃a c,Inv X b a c s'/\D.bk a c
 |.cont=>∃a c,Inv X b a c s'/\D.ct a c
 |.ret u=>∃v a c,Inv X b a c s'/\RelV v u/\D.rt v c
noncomputable def PE(X:Cx)(e:Expr)(t:TE):Prop:=
 ∀(a:List (Addr×Obj))(s:Shared)(b:St)(H:Hp)(Q:VK),Inv X a b H s->t b H Q->wpAny (model X.prog X.w) X.A (eval e X.env) (EP X a b Q) X.xe s
noncomputable def PT(X:Cx)(e:Expr)(t:TT):Prop:=
 ∀(a:List (Addr×Obj))(s:Shared)(b:St)(H:Hp)(Q:Bool->Hp->Prop),Inv X a b H s->t b H Q->wpAny (model X.prog X.w) X.A (isTrue e X.env (eval e X.env)) (TP X a b Q) X.xe s
noncomputable def PW(X:Cx)(e:Expr)(t:TT):Prop:=
 ∀(b:Sem Value)(a:List (Addr×Obj))(s:Shared)(c:St)(H:Hp)(Q:Bool->Hp->Prop),Inv X a c H s->t c H Q->wpAny (model X.prog X.w) X.A (isTrue e X.env b) (TP X a c Q) X.xe s
theorem PW.pt{X:Cx}{e:Expr}{t:TT}(h:PW X e t):PT X e t:=h _
noncomputable def PA(X:Cx)(d:List Expr)(t:TA):Prop:=
 ∀(c:Pos)(a:List (Addr×Obj))(s:Shared)(b:St)(H:Hp)(Q:List V->Hp->Prop),Inv X a b H s->t b H Q->wpAny (model X.prog X.w) X.A (spliced (backTo c (starEach d X.env))) (AP X a b Q) X.xe s
noncomputable def PS(X:Cx)(st:Stmt)(t:TS):Prop:=
 ∀(a:List (Addr×Obj))(s:Shared)(b:St)(H:Hp)(D:Ends),Inv X a b H s->t D b H->wpAny (model X.prog X.w) X.A (exec st X.env) (SP X a D) X.xe s
noncomputable def vn(X:Cx)(st:List Stmt)(t:TS):Prop:=
 ∀(a:List (Addr×Obj))(s:Shared)(b:St)(H:Hp)(D:Ends),Inv X a b H s->t D b H->wpAny (model X.prog X.w) X.A (execs st X.env) (SP X a D) X.xe s
theorem bV{α:Type}{t:Sem α}{Q b:α->Shared->Prop}{M:Model}{A:Around}{E:Value->Shared->Prop}{s:Shared}(h:wpAny M A t Q E s)(c:∀a s,Q a s->b a s):wpAny M A t b E s:=kA h c λ_ _ x=>x
section
variable{X:Cx}
theorem bin{a b:Expr}{ta k:TE}(t:PE X a ta)(r:PE X b k){c:List (Addr×Obj)}{s:Shared}{d:St}{H:Hp}{R:V->V->Hp->Prop}(I:Inv X c d H s)(h:ta d H λx H1=>k d H1 λy e=>R x y e)
 {α:Type}{Q:α->Shared->Prop}{f:Value->Value->Sem α}
 (q:∀v u j x y e,Inv X c d e j->RelV x v->RelV y u->R x y e->wpAny (model X.prog X.w) X.A (f v u) Q X.xe j):
 wpAny (model X.prog X.w) X.A (eval a X.env) (λv i=>wpAny (model X.prog X.w) X.A (eval b X.env) (λu g=>wpAny (model X.prog X.w) X.A (f v u) Q X.xe g) X.xe i) X.xe s:=by
 refine bV (t c s d H _ I h) λv l ⟨x,H1,I1,n,p⟩=>?_;refine bV (r c l d H1 _ I1 p) λu j ⟨y,e,z,m,o⟩=>?_;exact q v u j x y e z n m o
noncomputable def jO(i:Nat):TE:=λa H Q=>∃v,a[i]?=some (some v)/\Q v H
noncomputable def tC(v:V):TE:=λ_ H Q=>Q v H
theorem CQ{i:Nat}{x:Str}{pos:Pos}(w:X.N[i]?=some x)(o:Ri X.env.scope x)(g:(x==("__debug__":Str))=false:=by decide)(j:(x==("__classdict__":Str))=false:=by decide):PE X (.Name x pos) (jO i):=by
 intro f s n H Q I h;obtain⟨v,e,h⟩:=h;obtain⟨m,p,t⟩:=I.loc;obtain⟨u,r,l⟩:=t i x v w e o;have d:EP X f n Q u s:=⟨v,H,I,r,h⟩;rcases l with⟨b,q⟩|⟨b,c,k,a⟩
 .exact wpAny_Name (wpAny_loadName_local I.ok.kind b p q d) g
 .rcases b with b|b
  .exact wpAny_Name (wpAny_loadName_cell I.ok.kind b k a d) g
  .exact wpAny_Name (wpAny_loadName_free I.ok.kind b k a d j) g
theorem jP{i j pos}:PE X (.Constant (.int i) j pos) (tC (.int i)):=λ_ _ _ H _ I h=>wpAny_Constant_int ⟨.int i,H,I.tok _,⟨_,rfl⟩,h⟩
theorem Rm{b j pos}:PE X (.Constant (.bool b) j pos) (tC (.bl b)):=λ_ _ _ H _ I h=>Constant_bool ⟨.bl b,H,I,rfl,h⟩
theorem L7{j pos}:PE X (.Constant .none j pos) (tC .aV):=λ_ _ _ H _ I h=>Constant_none ⟨.aV,H,I,rfl,h⟩
theorem L8{x j pos}:PE X (.Constant (.str x) j pos) (tC (.str x)):=λ_ _ _ H _ I h=>Calls.Constant_str ⟨.str x,H,I.tok _,⟨_,rfl⟩,h⟩
noncomputable def Gl(X:Cx)(x:Str):Prop:=X.env.kindOf x=some .globalImplicit
theorem kG{E:Value->Shared->Prop}{a:List (Addr×Obj)}{s:Shared}{b:St}{H:Hp}{x:Str}{u:Value}{pos:Pos}{Q:Value->Shared->Prop}(I:Inv X a b H s)(d:Gl X x)(c:X.mg x=some u)(h:Q u s)
 (e:(x==("__debug__":Str))=false:=by decide):wpAny (model X.prog X.w) X.A (eval (.Name x pos) X.env) Q E s:=
 Calls.Name_function_global I.ok.kind d (Calls.loadGlobal_global (by rw[I.ok.glob];exact I.mod.glob.keeps I.bk) c h) e
theorem gq{E:Value->Shared->Prop}{a:List (Addr×Obj)}{s:Shared}{b:St}{H:Hp}{x:Str}{u:Value}{pos:Pos}{Q:Value->Shared->Prop}(I:Inv X a b H s)(f:Gl X x)(e:X.mg x=none)(c:bootBuiltins x=some u)(h:Q u s)
 (d:x≠"__name__":=by decide)(g:(x==("__debug__":Str))=false:=by decide):wpAny (model X.prog X.w) X.A (eval (.Name x pos) X.env) Q E s:=by
 obtain⟨k,j,i⟩:=I.mod.blt;exact Calls.Name_function_global I.ok.kind f (Calls.loadGlobal_builtin (by rw[I.ok.glob];exact I.mod.glob.keeps I.bk) e (by rw[I.ok.blt];exact j.keeps I.bk) ((i x d).trans c) h) g
theorem GN{x:Str}{v:V}{u:Value}{pos:Pos}(b:Gl X x)(a:X.mg x=some u)(r:RelV v u)(c:(x==("__debug__":Str))=false:=by decide):PE X (.Name x pos) (tC v):=
 λ_ _ _ H _ I h=>kG I b a ⟨v,H,I,r,h⟩ c
theorem GO{x:Str}{v:V}{u:Value}{pos:Pos}(d:Gl X x)(c:X.mg x=none)(a:bootBuiltins x=some u)(r:RelV v u)(b:x≠"__name__":=by decide)(e:(x==("__debug__":Str))=false:=by decide):PE X (.Name x pos) (tC v):=
 λ_ _ _ H _ I h=>gq I d c a ⟨v,H,I,r,h⟩ b e
variable{a b:Expr}{ta tb:TE}{pos:Pos}
noncomputable def tB(t:TE):TT:=λd H Q=>t d H λx e=>∃c,x=.bl c/\Q c e
theorem CT{e:Expr}{t:TE}(h:PE X e t)(l:∀c,isTrue e X.env c=(do let v<-c;standAt e.pos;holding [v] (truthy v)):=by intro _;rfl):PT X e (tB t):=by intro f s g H Q I k;refine isTrue_plain (bV (h f s g H _ I k) λv n ⟨x,m,I1,i,j⟩=>?_) (l _);obtain⟨d,rfl,q⟩:=j;cases i;exact d6 ⟨m,I1,q⟩
variable{tA U4:TT}{rest:List Expr}
noncomputable def VH(t u:TT):TT:=λd H Q=>t d H λc e=>if c=true then u d e Q else Q false e
noncomputable def Zi(t u:TT):TT:=λd H Q=>t d H λc e=>if c=true then Q true e else u d e Q
noncomputable def VI(t:TT):TT:=λd H Q=>t d H λc e=>Q (!c) e
theorem yY(g:PT X a tA):PW X (.BoolOp .And [a] pos) tA:=by
 intro i d s f H Q I h;refine isTrue_and (bV (g d s f H Q I h) λc j e=>?_);cases c with
 |true=>exact isTrue_and_nil e
 |false=>exact e
theorem Ma(g:PT X a tA):PW X (.BoolOp .Or [a] pos) tA:=by
 intro i d s f H Q I h;refine isTrue_or (bV (g d s f H Q I h) λc j e=>?_);cases c with
 |false=>exact isTrue_or_nil e
 |true=>exact e
theorem CU(l:PT X a tA)(k:PW X (.BoolOp .And (b::rest) pos) U4):PW X (.BoolOp .And (a::b::rest) pos) (VH tA U4):=by
 intro i d s e H Q I h;refine isTrue_and (bV (l d s e H _ I h) λc j ⟨g,I1,f⟩=>?_);cases c with
 |true=>exact k i d j e g Q I1 f
 |false=>exact⟨g,I1,f⟩
theorem Ro(l:PT X a tA)(k:PW X (.BoolOp .Or (b::rest) pos) U4):PW X (.BoolOp .Or (a::b::rest) pos) (Zi tA U4):=by
 intro i d s e H Q I h;refine isTrue_or (bV (l d s e H _ I h) λc j ⟨g,I1,f⟩=>?_);cases c with
 |true=>exact⟨g,I1,f⟩
 |false=>exact k i d j e g Q I1 f
theorem Mb(f:PT X a tA):PT X (.UnaryOp .Not a pos) (VI tA):=by intro d s e H Q I h;exact isTrue_not (f d s e H (λc g=>Q (!c) g) I h)
noncomputable def Rq(ta tb:TE):TE:=λd H Q=>ta d H λx e=>∃c,x=.bl c/\if c=true then tb d e Q else Q (.bl false) e
noncomputable def VJ(ta tb:TE):TE:=λd H Q=>ta d H λx e=>∃c,x=.bl c/\if c=true then Q (.bl true) e else tb d e Q
noncomputable def Rr(ta:TE):TE:=λd H Q=>ta d H λx e=>∃c,x=.bl c/\Q (.bl (!c)) e
theorem CV{op}{t:TE}(h:PE X a t):PE X (.BoolOp op [a] pos) t:=λc s d H Q I e=>BoolOp_one (h c s d H Q I e)
theorem Mc(l:PE X a ta)(k:PE X (.BoolOp .And (b::rest) pos) tb):PE X (.BoolOp .And (a::b::rest) pos) (Rq ta tb):=by
 intro d s f H Q I h;refine BoolOp_and (bV (l d s f H _ I h) λv i ⟨x,g,I1,j,e⟩=>?_);obtain⟨c,rfl,e⟩:=e;cases j;refine d6 ?_;cases c with
 |true=>exact k d i f g Q I1 e
 |false=>exact⟨.bl false,g,I1,rfl,e⟩
theorem Rt(l:PE X a ta)(k:PE X (.BoolOp .Or (b::rest) pos) tb):PE X (.BoolOp .Or (a::b::rest) pos) (VJ ta tb):=by
 intro d s f H Q I h;refine BoolOp_or (bV (l d s f H _ I h) λv i ⟨x,g,I1,j,e⟩=>?_);obtain⟨c,rfl,e⟩:=e;cases j;refine d6 ?_;cases c with
 |false=>exact k d i f g Q I1 e
 |true=>exact⟨.bl true,g,I1,rfl,e⟩
theorem Me(i:PE X a ta):PE X (.UnaryOp .Not a pos) (Rr ta):=by intro d s f H Q I h;refine UnaryOp_ (bV (i d s f H _ I h) λv k ⟨x,j,I1,g,e⟩=>?_);obtain⟨c,rfl,e⟩:=e;cases g;exact not_of (d6 ⟨.bl (!c),j,I1,rfl,e⟩)
noncomputable def Zj(t:TT)(ta tb:TE):TE:=λd H Q=>t d H λc e=>if c=true then ta d e Q else tb d e Q
theorem CW{c:Expr}(k:PT X c tA)(m:PE X a ta)(l:PE X b tb):PE X (.IfExp c a b pos) (Zj tA ta tb):=by
 intro e s f H Q I h;refine wpAny_IfExp (bV (k e s f H _ I h) λd g ⟨j,I1,i⟩=>?_);cases d with
 |true=>exact m e g f j Q I1 i
 |false=>exact l e g f j Q I1 i
end
noncomputable def ie(K:Frag)(H:Hp)(a:Addr)(c:List V):Prop:=
 Rd H a (.lst c)\/
  ∃(o:Obj)(b:Array Value)(n:Nat),K.lookup a=some o/\o.cls=.type "list"/\o.dict=none/\o.data=.seq b n/\b.size<=sizeLine/\Vals c b.toList
noncomputable def kC(K:Frag)(H:Hp)(a:Addr)(c:List V):Prop:=
 Rd H a (.tup c)\/
  ∃(o:Obj)(b:Array Value)(n:Nat),K.lookup a=some o/\o.cls=.type "tuple"/\o.data=.seq b n/\b.size<=sizeLine/\Vals c b.toList
noncomputable def VM:Value->Option V
 |.none=>some .aV
 |.bool b=>some (.bl b)
 |.int i _=>some (.int i)
 |.str x _=>some (.str x)
 |.bytes b _=>some (.CA b)
 |.float b _=>some (.LY b)
 |.ref a=>some (.ref a)
 |.type n=>some (.ty n)
 |_=>none
theorem RelV.abs{x:V}{u:Value}(r:RelV x u):VM u=some x:=by
 cases x with
 |aV=>cases r;rfl
 |bl _=>cases r;rfl
 |int _=>obtain⟨t,rfl⟩:=r;rfl
 |str _=>obtain⟨t,rfl⟩:=r;rfl
 |CA _=>obtain⟨t,rfl⟩:=r;rfl
 |LY _=>obtain⟨t,rfl⟩:=r;rfl
 |ref _=>cases r;rfl
 |ty _=>cases r;rfl
theorem RelV.inj{x y:V}{u:Value}(r:RelV x u)(q:RelV y u):x=y:=Kt (r.abs.symm.trans q.abs)
theorem Vals.inj:∀{b a:List V}{us:List Value},Vals b us->Vals a us->b=a
 |_,_,_,.nil,.nil=>rfl
 |_,_,_,.cons r t,.cons c t'=>by rw[r.inj c,Vals.inj t t']
section
variable{X:Cx}{pins:List (Addr×Obj)}{σ:St}{H:Hp}{s:Shared}{a:Addr}{xs ys:List V}
theorem ie.of{K:Frag}(h:H a=some (.lst xs)):ie K H a xs:=.inl (.inl h)
theorem kC.of{K:Frag}(h:H a=some (.tup xs)):kC K H a xs:=.inl (.inl h)
theorem Inv.list(I:Inv X pins σ H s)(h:ie X.K H a xs):∃b:List Value,Vals xs b/\PlainL s.heap a b.toArray/\xs.length<=sizeLine:=by
 rcases h with h|⟨o,b,n,d,g,f,c,hz,r⟩
 .obtain⟨z,b,n,r,e⟩:=h.ok I.hok;exact⟨b,r,⟨_,n,e,rfl,rfl,rfl⟩,z⟩
 .refine⟨b.toList,r,⟨o,n,I.lW a o d,g,f,by simpa using c⟩,?_⟩;have e:=r.length;simp only[Kl]at e;lia
theorem Inv.tuple(I:Inv X pins σ H s)(h:kC X.K H a xs):∃b:List Value,Vals xs b/\IsTup s.heap a b.toArray/\xs.length<=sizeLine:=by
 rcases h with h|⟨o,b,n,d,f,c,hz,r⟩
 .obtain⟨z,b,r,p⟩:=h.ok I.hok;exact⟨b,r,p,z⟩
 .refine⟨b.toList,r,⟨o,I.lW a o d,f,n,by simpa using c⟩,?_⟩;have e:=r.length;simp only[Kl]at e;lia
theorem Inv.oG(I:Inv X pins σ H s)(h:ie X.K H a xs)(h':ie X.K H a ys):xs=ys:=by
 obtain⟨c,r,⟨o,n,e,_,_,d⟩,_⟩:=I.list h;obtain⟨b,i,⟨j,k,f,_,_,g⟩,_⟩:=I.list h';rw[e]at f;cases f;rw[d]at g;injection g with d1 _;have:c=b:=by simpa using Pt a6 d1
 subst this;exact r.inj i
theorem Inv.Bh(I:Inv X pins σ H s)(h:kC X.K H a xs)(h':kC X.K H a ys):xs=ys:=by
 obtain⟨c,r,⟨o,e,_,n,d⟩,_⟩:=I.tuple h;obtain⟨b,i,⟨j,f,_,k,g⟩,_⟩:=I.tuple h';rw[e]at f;cases f;rw[d]at g;injection g with d1 _;have:c=b:=by simpa using Pt a6 d1
 subst this;exact r.inj i
end
abbrev Cx.qL(X:Cx)(E:Value->Shared->Prop):Cx:={X with xe:=E}
abbrev Cx.m9(X:Cx):Cx:=X.qL λ_ _=>False
theorem Cx.Ok.qL{X:Cx}(a:X.Ok)(E:Value->Shared->Prop):(X.qL E).Ok:=
 ⟨a.mod,a.kind,a.glob,a.blt,a.above,a.inj,a.has,a.Rk,a.hd,a.frames,a.stk,a.VC,a.bs,a.GK,a.CO,a.CP,a.nR,a.L4,a.tree,a.U1⟩
theorem Cx.Ok.i8{X:Cx}{E:Value->Shared->Prop}(a:(X.qL E).Ok):X.Ok:=
 ⟨a.mod,a.kind,a.glob,a.blt,a.above,a.inj,a.has,a.Rk,a.hd,a.frames,a.stk,a.VC,a.bs,a.GK,a.CO,a.CP,a.nR,a.L4,a.tree,a.U1⟩
section
variable{X:Cx}{pins:List (Addr×Obj)}{σ:St}{H:Hp}{s:Shared}{E:Value->Shared->Prop}
theorem Inv.qL(I:Inv X pins σ H s)(E:Value->Shared->Prop):Inv (X.qL E) pins σ H s:=⟨I.ok.qL E,I.os,I.bare,I.base,I.loc,I.cell,I.free,I.jG,I.pin,I.hok,I.len⟩
theorem Inv.i8(I:Inv (X.qL E) pins σ H s):Inv X pins σ H s:=⟨I.ok.i8,I.os,I.bare,I.base,I.loc,I.cell,I.free,I.jG,I.pin,I.hok,I.len⟩
theorem SP.i8{D:Ends}{f:Flow}{s':Shared}(h:SP (X.qL E) pins D f s'):SP X pins D f s':=by
 cases f with
 |next=>obtain⟨a,b,I,q⟩:=h;exact⟨a,b,I.i8,q⟩
 |brk=>obtain⟨a,b,I,q⟩:=h;exact⟨a,b,I.i8,q⟩
 |cont=>obtain⟨a,b,I,q⟩:=h;exact⟨a,b,I.i8,q⟩
 |ret u=>obtain⟨v,a,b,I,r,q⟩:=h;exact⟨v,a,b,I.i8,r,q⟩
end
section
variable{X:Cx}{st:Stmt}{rest:List Stmt}{t u:TS}{e:Expr}{te:TE}{pos:Pos}
noncomputable def Ru:TS:=λD a H=>D.nx a H
noncomputable def VN(t u:TS):TS:=λD a H=>t {D with nx:=u D} a H
theorem GP:vn X [] Ru:=λ_ _ a H _ I h=>wpAny_execs_nil ⟨a,H,I,h⟩
theorem c6(i:PS X st t)(g:vn X rest u):vn X (st::rest) (VN t u):=by
 intro a s c H D I h;refine wpAny_execs_cons (bV (i a s c H {D with nx:=u D} I h) λf d q=>?_);cases f with
 |next=>obtain⟨b,k,j,q⟩:=q;exact g a d b k D j q
 |ret v=>exact q
 |brk=>exact q
 |cont=>exact q
theorem yZ(c:PS X st t):vn X [st] t:=by
 intro a s b H D I h;refine wpAny_execs_cons (bV (c a s b H D I h) λf d q=>?_);cases f with
 |next=>exact wpAny_execs_nil q
 |ret v=>exact q
 |brk=>exact q
 |cont=>exact q
noncomputable def Mf:TS:=λD a H=>D.bk a H
theorem CY:PS X (.Break pos) Mf:=λ_ _ a H _ I h=>wpAny_Break ⟨a,H,I,h⟩
theorem Inv.quiet{a:List (Addr×Obj)}{b:St}{H:Hp}{s:Shared}(I:Inv X a b H s):interactive X.env=false:=by simp[interactive,I.ok.kind]
noncomputable def CZ(te:TE):TS:=λD a H=>te a H λ_ b=>D.nx a b
theorem y9(f:PE X e te)(d:swapsWith e none pos.line X.env=pure false:=by rfl):PS X (.Expr e pos) (CZ te):=by intro a s b H D I h;exact wpAny_Expr_any (bV (f a s b H _ I h) λv i ⟨x,g,I1,j,c⟩=>⟨b,g,I1,c⟩) I.quiet d
noncomputable def VO(te:TE):TS:=λD a H=>te a H D.rt
theorem sX(f:PE X e te):PS X (.Return (some e) pos) (VO te):=by intro a s b H D I h;exact wpAny_Return_some (bV (f a s b H _ I h) λv i ⟨x,g,I1,c,d⟩=>⟨x,b,g,I1,c,d⟩)
noncomputable def Rv:TS:=λD _ H=>D.rt .aV H
theorem zh:PS X (.Return none pos) Rv:=λ_ _ a H _ I h=>wpAny_Return_none ⟨.aV,a,H,I,rfl,h⟩
noncomputable def VQ(c:TT)(t u:TS):TS:=λD a H=>c a H λb d=>if b=true then t D a d else u D a d
theorem K1{c:Expr}{a b:List Stmt}{tc:TT}(l:PT X c tc)(n:vn X a t)(m:vn X b u):PS X (.If c a b pos) (VQ tc t u):=by
 intro f s g H D I h;refine wpAny_If (bV (l f s g H _ I h) λd i ⟨k,I1,j⟩=>?_);cases d with
 |true=>exact n f i g k D I1 j
 |false=>exact m f i g k D I1 j
end
abbrev TG:=V->St->Hp->(St->Hp->Prop)->Prop
abbrev K2:=List V->St->Hp->(St->Hp->Prop)->Prop
noncomputable def PG(X:Cx)(a:Expr)(t:TG):Prop:=
 ∀(b:List (Addr×Obj))(s:Shared)(d:St)(H:Hp)(v:V)(u:Value)(Q:St->Hp->Prop),Inv X b d H s->RelV v u->t v d H Q->
  wpAny (model X.prog X.w) X.A (assign a X.env u) (λ_ f=>∃c e,Inv X b c e f/\Q c e) X.xe s
noncomputable def Rw(X:Cx)(g:List Expr)(t:K2):Prop:=
 ∀(a:List (Addr×Obj))(s:Shared)(c:St)(H:Hp)(d:List V)(e:List Value)(Q:St->Hp->Prop),Inv X a c H s->Vals d e->t d c H Q->
  wpAny (model X.prog X.w) X.A (assignInOrder ((assignEach g X.env).map (·.2)) e) (λ_ h=>∃b f,Inv X a b f h/\Q b f) X.xe s
abbrev Mg:=V->V->V->Hp->(Hp->Prop)->Prop
noncomputable def Rx(X:Cx)(t:Mg):Prop:=
 ∀(a:List (Addr×Obj))(s:Shared)(b:St)(H:Hp)(o i v:V)(c d u:Value)(Q:Hp->Prop),Inv X a b H s->RelV o c->RelV i d->RelV v u->t o i v H Q->
  wpAny (model X.prog X.w) X.A (setItem c d u) (λ_ f=>∃e,Inv X a b e f/\Q e) X.xe s
section
variable{X:Cx}{pos:Pos}
noncomputable def fK(i:Nat):TG:=λv a H Q=>Q (a.set i (some v)) H
theorem GQ{i:Nat}{x:Str}(d:X.N.Nodup)(hi:X.N[i]?=some x)(b:Loc X.env.scope x)(c:X.fn x=true\/X.env.scope.names.lookup x=some .local:=by first|exact .inl rfl|exact .inr rfl|assumption):PG X (.Name x pos) (fK i):=by intro a s f H v u Q I r h;exact wpAny_assign_Name (fJ I d hi b r (λg e=>⟨_,H,e,h⟩) c)
noncomputable def Ry:K2:=λb a H Q=>b=[]/\Q a H
noncomputable def K3(t:TG)(u:K2):K2:=λc b H Q=>∃v r,c=v::r/\t v b H λa d=>u r a d Q
theorem GR:Rw X [] Ry:=by intro a s b H c d Q I r h;obtain⟨e,h⟩:=h;subst e;cases r;exact assignInOrder_nil ⟨b,H,I,h⟩
theorem C1{e:Expr}{b:List Expr}{t:TG}{u:K2}(l:PG X e t)(k:Rw X b u)
 (j:(assignEach (e::b) X.env).map (·.2)=assign e X.env::(assignEach b X.env).map (·.2):=by rfl):Rw X (e::b) (K3 t u):=by
 intro a s d H o q Q I r h;obtain⟨v,p,m,h⟩:=h;subst m;cases r with
 |cons r g=>rw[j];refine js (bV (l a s d H _ _ _ I r h) λ_ f ⟨c,n,I1,i⟩=>?_);exact k a f c n _ _ Q I1 g i
noncomputable def Mh(K:Frag)(n:Nat)(t:K2):TG:=λv c H Q=>∃a b,v=.ref a/\kC K H a b/\b.length=n/\t b c H Q
theorem Mi{d:List Expr}{k:Nat}{t:K2}{n:Nat}(y:X.calm=true)(h:Rw X d t)
 (w:(assignEach d X.env).length=n:=by rfl)(g:(assignEach d X.env).findIdx? (·.1)=none:=by rfl):PG X (.Tuple d k pos) (Mh X.K n t):=by
 intro c s i H v u Q I r f;obtain⟨a,j,A,q,x,f⟩:=f;subst A;cases r;obtain⟨l,rv,p,hz⟩:=I.tuple q;refine assign_Tuple_tuple (I.ok.hd y) p (by simp[w,<-x,rv.length]) g λz m=>?_;have I1:Inv X c i H {s with heap:=z}:=I.kept (t':=s.toks) λb o e=>m b o (On (Fm e)) e;exact h c _ i H j _ Q I1 (by simpa using rv) f
noncomputable def RA(b ti:TE)(t:Mg):TG:=λv a H Q=>b a H λo e=>ti a e λi d=>t o i v d λc=>Q a c
theorem Ml{o i:Expr}{e ti:TE}{t:Mg}(q:PE X o e)(hi:PE X i ti)(p:Rx X t)
 (w:∀v,assign (.Subscript o i pos) X.env v=(do
   let b<-holding [v] (eval o X.env)
   let c<-holding [v,b] (eval i X.env)
   standAt pos
   holding [v,b,c] (setItem b c v)
   release [v,b,c] []):=by intro _;rfl):PG X (.Subscript o i pos) (RA e ti t):=by
 intro a s d H v u Q I r h;rw[w];refine Hb (wpAny_holding (bV (q a s d H _ I h) λb g ⟨x,D,I1,k,n⟩=>?_));refine Hb (wpAny_holding (bV (hi a g d D _ I1 n) λc f ⟨y,C,A,j,m⟩=>?_));refine Hb (w8 (Hb (wpAny_holding (bV (p a f d C x y v b c u _ A k j r m) λ_ E ⟨B,z,l⟩=>?_))));exact wpAny_release ⟨d,B,z,l⟩
noncomputable def lY(te:TE)(g:TG):TS:=λD a H=>te a H λx b=>g x a b D.nx
theorem C3{tg e:Expr}{te:TE}{g:TG}(l:PE X e te)(k:PG X tg g)(j:swapsWithSole [tg] e pos.line X.env=pure false:=by rfl)(i:swappedStores [tg] e X.env=pure none:=by rfl)
 (m:(assignEach [tg] X.env).map (·.2)=[assign tg X.env]:=by rfl):PS X (.Assign [tg] e pos) (lY te g):=by
 intro a s b H D I h;refine wpAny_Assign_stores (bV (l a s b H _ I h) λv c ⟨x,n,I1,d,f⟩=>?_) j i;rw[m];exact bV (k a c b n x v _ I1 d f) λ_ o q=>q
theorem lZ{i:Nat}{x:Str}{e:Expr}{te:TE}{a:Pos}(m:X.N.Nodup)(hi:X.N[i]?=some x)(g:Loc X.env.scope x)(l:PE X e te)(j:swapsWith e (some (.Name x a)) pos.line X.env=pure false:=by rfl)(k:X.fn x=true\/X.env.scope.names.lookup x=some .local:=by first|exact .inl rfl|exact .inr rfl|assumption):
 PS X (.Assign [.Name x a] e pos) (lY te (fK i)):=by
 intro b s c H D I h;refine wpAny_Assign_Name (bV (l b s c H _ I h) λv q ⟨y,o,I1,d,f⟩=>?_) j;exact fJ I1 m hi g d (λp n=>⟨_,o,n,f⟩) k
noncomputable def VR(i j:Nat)(ta:TA):TS:=λD a H=>ta a H λb c=>∃v w,b=[v,w]/\D.nx ((a.set i (some v)).set j (some w)) c
theorem Mm{i j:Nat}{x y:Str}{a b:Expr}{ta:TA}{n m r:Pos}{t k2 B}(T:X.calm=true)(G:X.N.Nodup)(hi:X.N[i]?=some x)(S:X.N[j]?=some y)(z:i≠j)
 (F:X.env.scope.names.lookup x=some .local)(E:X.env.scope.names.lookup y=some .local)(U:PA X [a,b] ta)
 (Q:swappedStores [.Tuple [.Name x n,.Name y m] t r] (.Tuple [a,b] k2 B) X.env=pure (some [x,y]))
 (R:swapsWithSole [.Tuple [.Name x n,.Name y m] t r] (.Tuple [a,b] k2 B) pos.line X.env=pure false:=by rfl):
 PS X (.Assign [.Tuple [.Name x n,.Name y m] t r] (.Tuple [a,b] k2 B) pos) (VR i j ta):=by
 intro c s C H D I h;rw[exec_Assign_arm];refine Hb (w8 ?_);rw[R];refine Hb (Pm ?_);rw[BM (by decide)];refine Hb (Tuple_ (bV (U _ c s C H _ I h) λL g ⟨vs,K,I1,M,l⟩=>?_));obtain⟨v,w,Y,l⟩:=l;subst Y;obtain⟨f,d,rfl,rv,k⟩:∃f d,L=[f,d]/\RelV v f/\RelV w d:=by
  cases M with
  |cons p q=>
   cases q with
   |cons P O=>
    cases O;exact⟨_,_,rfl,p,P⟩
 refine wpAny_newObj_type ?_ (by show 2<=sizeLine;decide);have I2:Inv X c C K {g with heap:=g.heap.push {cls:=.type "tuple",data:=.seq [f,d].toArray}}:=I1.kept (t':=g.toks) λb o e=>Da _ e;rw[Q];refine Hb (Pm ?_);show wpAny (model X.prog X.w) X.A (do rule "assign.swapped-stores";let items<-unpackItems (.ref g.heap.objs.size) 2 none;assignInOrder [λv=>bindName X.env y v,λv=>bindName X.env x v] items.reverse;pure Flow.next) _ _ _;refine Hb (wpAny_rule (Hb (unpackItems_tuple (items:= #[f,d]) (I.ok.hd T) (IsTup.new g.heap _) λh' u=>?_)));have I3:=I2.kept (h':=h') (t':=g.toks) λb o e=>u b o (On (Fm e)) e;show wpAny _ _ (assignInOrder [λv=>bindName X.env y v,λv=>bindName X.env x v] [d,f]>>=λ_=>pure Flow.next) _ _ _;refine Hb (js (t5 (fJ I3 G S (.inl E) k (λs2 Z=>?_) (.inr E))));refine js (t5 (fJ Z G hi (.inl F) rv (λs3 J=>assignInOrder_nil (Pm ?_)) (.inr F)));rw[L5 _ _ (SC z)]at J;exact⟨_,K,J,l⟩
noncomputable def Mn(c:TT)(h:TS):TS:=λD a H=>∃W:Nat->St->Hp->Prop,(∃m,W m a H)/\∀m a H,W m a H->
 c a H λb f=>if b=true then∃N:St->Hp->Prop,(∀d g,N d g->∃e,e<m/\W e d g)/\h {D with nx:=N,ct:=N,bk:=D.nx} a f else D.nx a f
theorem vo{c:Expr}{g:List Stmt}{tc:TT}{u:TS}(x:PassesOwn (model X.prog X.w) X.A X.env X.xe)(P:PT X c tc)(Q:vn X g u):PS X (.While c g [] pos) (Mn tc u):=by
 intro d s F H D I h;obtain⟨W,⟨O,J⟩,j⟩:=h;refine wpAny_While (codeAny_whileLoop (λn M=>∃i E,Inv X d i E M/\W n i E) ?_ O ⟨F,H,I,J⟩);rintro n L ⟨e,C,I1,G⟩;refine hZ x (bV (P d L e C _ I1 (j n e C G)) λb K ⟨B,z,m⟩=>?_);cases b with
 |true=>
  obtain⟨N,y,m⟩:=m;rw[Bi rfl];refine hZ x (bV (Q d K e B _ z m) λf R l=>?_);cases f with
  |next=>obtain⟨a,k,t,p⟩:=l;obtain⟨q,r,o⟩:=y a k p;exact⟨q,r,a,k,t,o⟩
  |cont=>obtain⟨a,k,t,p⟩:=l;obtain⟨q,r,o⟩:=y a k p;exact⟨q,r,a,k,t,o⟩
  |brk=>exact l
  |ret v=>exact l
 |false=>rw[BM N0];exact wpAny_execs_nil ⟨e,B,z,m⟩
end
set_option genInjectivity false in
set_option genSizeOf false in
structure It where
 go:Nat->Hp->Prop
 RB:Nat->Hp->V->Hp->Prop
 stop:Nat->Hp->Prop
noncomputable def oH(X:Cx)(a:List (Addr×Obj))(H:Hp)(b:Addr):Prop:=
 H b=none/\b≠X.env.locals/\b∉X.fs/\(b∈X.ex\/X.s₀.heap.objs.size<=b)/\(∀x c,X.env.cells.lookup x=some c->c≠b)/\∀p∈X.pn++a,p.1≠b
theorem Inv.vp{X:Cx}{a:List (Addr×Obj)}{f:St}{H H':Hp}{s:Shared}{b:Addr}(I:Inv X a f H s)(d:s.heap.objs.size<=b)(h:H' b=none):oH X a H' b:=by
 refine⟨h,mI (FM I.lt d),I.VD d,.inr (Bz I.sz d),λx c e z=>?_,λp g z=>?_⟩
 .obtain⟨v,q⟩:=I.cell x c e;exact absurd (FM q.lt (by rw[z];exact d)) (QP _)
 .exact absurd (FM (Fm (I.pin p g).1) (by rw[z];exact d)) (QP _)
structure Turn(P:Program)(w:World)(K:Frag)(tg:Expr)(J:It)(fp:List Addr)(it:Addr)(tn:Nat->Heap->Prop):Prop where
 mem:it∈fp
 obj:∀i h,tn i h->∀b∈fp,∃o,h.get? b=some o/\∀v,o.data≠.cell v
 keep:∀i h h',tn i h->(∀b∈fp,∀o,h.get? b=some o->h'.get? b=some o)->tn i h'
 item:∀(X:Cx),X.prog=P->X.w=w->X.K=K->X.calm=true->∀(i:Nat)(pins:List (Addr×Obj))(s:Shared)(σ:St)(H:Hp)(E:Value->Shared->Prop),Inv X pins σ H s->(∀b∈fp,oH X pins H b)->tn i s.heap->J.go i H->
  wpAny (model P w) X.A (pyNext (.ref it)) (λr s1=>∃u,r=some u/\
   wpAny (model P w) X.A (letOwnedTupleGo tg (.ref it) u) (λ_ s2=>∃x H',Inv X pins σ H' s2/\RelV x u/\J.RB i H x H'/\tn (i+1) s2.heap/\∀b∈fp,H' b=none) E s1) E s
 done:∀(X:Cx),X.prog=P->X.w=w->X.K=K->X.calm=true->∀(i:Nat)(pins:List (Addr×Obj))(s:Shared)(σ:St)(H:Hp)(E:Value->Shared->Prop),Inv X pins σ H s->(∀b∈fp,oH X pins H b)->tn i s.heap->J.stop i H->
  wpAny (model P w) X.A (pyNext (.ref it)) (λr s1=>r=none/\Inv X pins σ H s1) E s
 self:∀(A:Around)(i:Nat)(s:Shared)(Q:Value->Shared->Prop)(E:Value->Shared->Prop),tn i s.heap->Q (.ref it) s->wpAny (model P w) A (pyIter (.ref it)) Q E s
abbrev TI:=St->Hp->(It->Hp->Prop)->Prop
noncomputable def VU(X:Cx)(a:List (Addr×Obj))(i:St)(tg:Expr)(R:It->Hp->Prop)(c:Value)(f:Shared):Prop:=
 ∃(g:Addr)(h:List Addr)(e:Nat->Heap->Prop)(J:It)(d:Hp),c=.ref g/\Inv X a i d f/\Turn X.prog X.w X.K tg J h g e/\e 0 f.heap/\(∀b∈h,oH X a d b)/\R J d
noncomputable def PI(X:Cx)(tg b:Expr)(d:TI):Prop:=
 ∀(a:List (Addr×Obj))(s:Shared)(c:St)(H:Hp)(R:It->Hp->Prop),Inv X a c H s->d c H R->
  wpAny (model X.prog X.w) X.A (eval b X.env) (λv e=>wpAny (model X.prog X.w) X.A (pyIter v) (VU X a c tg R) X.xe e) X.xe s
theorem vt{M:Model}{A:Around}{E:Value->Shared->Prop}{s:Shared}{tg:Expr}{b:Addr}{u:Value}{o:Obj}{n:String}{vs:Array Value}{Q:Unit->Shared->Prop}(c:s.heap.get? b=some o)(f:o.cls=.type n)(e:o.data=.fields vs)
 (d:["enumerate","zip","dict_itemiterator","dict_reverseitemiterator","odict_iterator","itertools.zip_longest","itertools.pairwise"].contains n=false)(a:Q () s):wpAny M A (letOwnedTupleGo tg (.ref b) u) Q E s:=by
 unfold letOwnedTupleGo;cases tg<;>first
  |exact Pm a
  |(cases u<;>first
     |exact Pm a
     |(refine Hb (wpAny_load c ?_)
       rw[f,e];show wpAny M A (if(["enumerate","zip","dict_itemiterator","dict_reverseitemiterator","odict_iterator","itertools.zip_longest","itertools.pairwise"].contains n&&vs[0]?==some (rawInt _))=true then _ else _) Q E s;rw[BM (by intro h;rw[d,Bool.false_and]at h;cases h)];exact Pm a))
noncomputable def VW(K:Frag)(a:Addr):It:=
 ⟨λi H=>∃b x,ie K H a b/\b[i]?=some x,λi H x c=>c=H/\∀b,ie K H a b->b[i]?=some x,λi H=>∃b,ie K H a b/\b.length<=i⟩
noncomputable def VX(K:Frag)(a:Addr):It:=
 ⟨λi H=>∃b x,kC K H a b/\b[i]?=some x,λi H x c=>c=H/\∀b,kC K H a b->b[i]?=some x,λi H=>∃b,kC K H a b/\b.length<=i⟩
noncomputable def RC(lo:Int)(n:Nat):It:=⟨λi _=>i<n,λi H x a=>a=H/\x=.int (lo+i),λi _=>n<=i⟩
theorem Bk{P:Program}{w:World}{K:Frag}{tg:Expr}(a j:Addr):Turn P w K tg (VW K a) [j] j (λi h=>h.IsListIter j a i)where
 mem:=by simp
 obj:=λi h f b l=>by
  have e:b=j:=by simpa using l
  subst e;obtain⟨o,e,c,d⟩:=f;exact⟨o,e,λv z=>by rw[d]at z;cases z⟩
 keep:=λi h r f k=>f.at λo e=>k j (by simp) o e
 item:=by intro X C A D O i g s N H E I q f B;subst C A D;obtain⟨Q,x,n,y⟩:=B;obtain⟨t,rv,p,hz⟩:=I.list n;obtain⟨u,U,S⟩:=rv.get y;obtain⟨M,L,Y,J,G,F⟩:=q j (by simp);refine wpAny_pyNext_list_item f p.isList (x:=u) (by simpa using U) λr m R=>?_;have I1:Inv X g N H {s with heap:=r}:=I.turned (t':=s.toks) (λb o l e=>(R.2 b l).trans e) M L J G F;obtain⟨o,e,c,d⟩:=id m;exact⟨u,rfl,vt (s:={s with heap:=r}) e c d (by decide) ⟨x,H,I1,S,⟨rfl,λys T=>by rw[I.oG T n];exact y⟩,m,λb l=>(q b l).1⟩⟩
 done:=by intro X C A D O i g s N H E I q f B;subst C A D;obtain⟨Q,n,y⟩:=B;obtain⟨t,rv,p,hz⟩:=I.list n;obtain⟨M,L,Y,J,G,F⟩:=q j (by simp);have hl:=rv.length;exact wpAny_pyNext_list_end (I.ok.hd O) f p.isList (by simp;lia) λr Z=>⟨rfl,I.turned (t':=s.toks) (λb o l e=>Z b o l e) M L J G F⟩
 self:=λ_ _ _ _ _ f h=>wpAny_pyIter_listiter f h
theorem xF{P:Program}{w:World}{K:Frag}{tg:Expr}(a l:Addr):Turn P w K tg (VX K a) [l] l (λi h=>h.IsTupleIter l a i)where
 mem:=by simp
 obj:=λi h f b m=>by
  have e:b=l:=by simpa using m
  subst e;obtain⟨o,e,c,d⟩:=f;exact⟨o,e,λv z=>by rw[d]at z;cases z⟩
 keep:=λi h t f k=>f.at λo e=>k l (by simp) o e
 item:=by intro X C A D O i g s N H E I r f B;subst C A D;obtain⟨Q,x,q,y⟩:=B;obtain⟨j,rv,p,hz⟩:=I.tuple q;obtain⟨u,U,S⟩:=rv.get y;obtain⟨M,L,Y,J,G,F⟩:=r l (by simp);refine wpAny_pyNext_tuple_item f (show s.heap.IsTuple a j.toArray from p) (x:=u) (by simpa using U) λt n R=>?_;have I1:Inv X g N H {s with heap:=t}:=I.turned (t':=s.toks) (λb o m e=>(R.2 b m).trans e) M L J G F;obtain⟨o,e,c,d⟩:=id n;exact⟨u,rfl,vt (s:={s with heap:=t}) e c d (by decide) ⟨x,H,I1,S,⟨rfl,λys T=>by rw[I.Bh T q];exact y⟩,n,λb m=>(r b m).1⟩⟩
 done:=by intro X C A D O i g s N H E I r f B;subst C A D;obtain⟨Q,q,y⟩:=B;obtain⟨j,rv,p,hz⟩:=I.tuple q;obtain⟨M,L,Y,J,G,F⟩:=r l (by simp);have hl:=rv.length;exact wpAny_pyNext_tuple_end (I.ok.hd O) f (show s.heap.IsTuple a j.toArray from p) (by simp;lia) λt Z=>⟨rfl,I.turned (t':=s.toks) (λb o m e=>Z b o m e) M L J G F⟩
 self:=λ_ _ _ _ _ f h=>wpAny_pyIter_tupleiter f h
theorem xG{P:Program}{w:World}{K:Frag}{tg:Expr}(d:Addr)(lo:Int)(n:Nat):Turn P w K tg (RC lo n) [d] d (λi h=>IsRangeIter h d (lo+(i:Nat)*1) ((n:Int) -(i:Nat)) 1)where
 mem:=by simp
 obj:=λi h a b f=>by
  have e:b=d:=by simpa using f
  subst e;exact⟨_,a,λv z=>by have G:Data.fields _=Data.cell v:=z;cases G⟩
 keep:=λi h l a k=>k d (by simp) _ a
 item:=by intro X r m u q i c s D H E I j a p;subst r m u;obtain⟨C,B,M,A,y,x⟩:=j d (by simp);have W:=Walks.range (prog:=X.prog) (w:=X.w) (I.ok.hd q) d lo 1 n;refine W.item i s _ _ p a λv l F L g J=>?_;obtain⟨t,rfl⟩:=L;have I1:Inv X c D H {s with heap:=l,toks:=F}:=I.turned (λb o f e=>J b o (by simpa using f) e) C B A y x;refine⟨_,rfl,vt (s:={s with heap:=l,toks:=F}) (n:="range_iterator") g rfl rfl (by decide) ⟨.int (lo+i),H,I1,⟨t,?_⟩,⟨rfl,rfl⟩,g,λb f=>(j b f).1⟩⟩;rw[cm]
 done:=by intro X r m u q i c s D H E I j a p;subst r m u;obtain⟨C,B,M,A,y,x⟩:=j d (by simp);exact wpAny_pyNext_range_end (I.ok.hd q) a (by have:n<=i:=p;lia) λl N=>⟨rfl,I.turned (t':=s.toks) (λb o f e=>N b o f e) C B A y x⟩
 self:=λ_ _ _ _ _ a h=>wpAny_pyIter_rangeiter a h
section
variable{X:Cx}{tg:Expr}
theorem vv{a:List (Addr×Obj)}{c:St}{H:Hp}{s:Shared}{R:It->Hp->Prop}{E:Value->Shared->Prop}{lo hi:Int}{t u v:Tok}{d:Nat}(I:Inv X a c H s)(j: -(2^62)<=lo)(i:lo<2^62)(h: -(2^62)<=hi)(g:hi<2^62)
 (q:R (RC lo (hi -lo).toNat) H):wpAny (model X.prog X.w) X.A (pyIter (.ref s.heap.objs.size)) (VU X a c tg R) E {s with heap:=s.heap.push {cls:=.type "range",data:=.fields #[.int lo t,.int hi u,.int 1 v]},toks:=d}:=by
 refine wpAny_pyIter_range (IsRange.new ..) (small_one j i h g) ?_;have I1:Inv X a c H {s with heap:=s.heap.push {cls:=.type "range",data:=.fields #[.int lo t,.int hi u,.int 1 v]},toks:=d}:=I.kept λb o e=>Da _ e;refine⟨(s.heap.push {cls:=.type "range",data:=.fields #[.int lo t,.int hi u,.int 1 v]}).objs.size,[(s.heap.push {cls:=.type "range",data:=.fields #[.int lo t,.int hi u,.int 1 v]}).objs.size],_,_,H,rfl,
  I1.kept (t':=d) λb o e=>Da _ e,xG _ lo (hi -lo).toNat,?_,λb f=>?_,q⟩
 .have l:lo+((0:Nat):Int)*1=lo:=by simp
  have k:(((hi -lo).toNat:Nat):Int) -((0:Nat):Int)=Builtin.Range.rangeSize lo hi 1:=by rw[rangeSize_one];split<;>lia
  show IsRangeIter _ _ (lo+((0:Nat):Int)*1) ((((hi -lo).toNat:Nat):Int) -((0:Nat):Int)) 1;rw[l,k];exact Iy _ rfl
 .have e:b=(s.heap.push {cls:=.type "range",data:=.fields #[.int lo t,.int hi u,.int 1 v]}).objs.size:=by simpa using f
  subst e;exact I1.vp (D2 _) (I1.hok.fresh (D2 _))
noncomputable def RD(ta:TA):TI:=λa H R=>ta a H λb c=>∃j:Int,b=[.int j]/\-(2^62)<=j/\j<2^62/\R (RC 0 j.toNat) c
noncomputable def RE(ta:TA):TI:=λa H R=>ta a H λb c=>∃i j:Int,b=[.int i,.int j]/\(-(2^62)<=i/\i<2^62/\-(2^62)<=j/\j<2^62)/\R (RC i (j -i).toNat) c
theorem Bm{a:Expr}{ta:TA}{p pos:Pos}(m:Gl X "range")(l:X.mg "range"=none)(n:PA X [a] ta)(k:starEach [a] X.env=[(false,eval a X.env)]:=by rfl):PI X tg (.Call (.Name "range" p) [a] [] pos) (RD ta):=by
 intro b s d H R I h;refine Call_ (gq I m l boot_range (SB (bV (n pos b s d H _ I h) λu v ⟨o,w,I1,g,c⟩=>?_) k rfl));obtain⟨j,e,c,i,q⟩:=c;subst e;cases g with
 |cons r f=>
  cases f;obtain⟨t,rfl⟩:=r;exact call_range_1 (vv I1 (by lia) (by lia) c i (by simpa using q))
theorem Bo{a b:Expr}{ta:TA}{p pos:Pos}(x:Gl X "range")(w:X.mg "range"=none)(y:PA X [a,b] ta)(v:starEach [a,b] X.env=[(false,eval a X.env),(false,eval b X.env)]:=by rfl)(d:starEach [b] X.env=[(false,eval b X.env)]:=by rfl):
 PI X tg (.Call (.Name "range" p) [a,b] [] pos) (RE ta):=by
 intro c s k H R I h;refine Call_ (gq I x w boot_range (SB (bV (y pos c s k H _ I h) λA C ⟨z,D,I1,l,g⟩=>?_) (by rw[v,d]) (by rw[d];rfl)));obtain⟨i,j,e,⟨g,u,o,n⟩,q⟩:=g;subst e;cases l with
 |cons r f=>
  cases f with
  |cons m f=>
   cases f;obtain⟨t,rfl⟩:=r;obtain⟨B,rfl⟩:=m;exact call_range_2 (vv I1 g u o n q)
noncomputable def VY(f:TI)(g:TG)(h:TS):TS:=λD a H=>f a H λJ k=>∃W:Nat->Nat->St->Hp->Prop,(∃m,W 0 m a k)/\∀i m a H,W i m a H->
 (J.stop i H/\D.nx a H)\/(J.go i H/\∃N:St->Hp->Prop,(∀b c,N b c->∃e,e<m/\W (i+1) e b c)/\∀x c,J.RB i H x c->g x a c λd j=>h {D with nx:=N,ct:=N,bk:=D.nx} d j)
noncomputable def oJ(a:List Addr)(h:Heap):List (Addr×Obj):=a.filterMap λb=>(h.get? b).map λo=>(b,o)
theorem ig{a:List Addr}{h:Heap}{b:Addr}{o:Obj}(c:b∈a)(e:h.get? b=some o):(b,o)∈oJ a h:=LH.mpr ⟨b,c,by rw[e];rfl⟩
theorem Bq{a:List Addr}{h:Heap}{p:Addr×Obj}(c:p∈oJ a h):p.1∈a/\h.get? p.1=some p.2:=by
 obtain⟨b,d,e⟩:=LH.mp c;cases q:h.get? b with
 |none=>rw[q]at e;cases e
 |some o=>rw[q]at e;have f:(b,o)=p:=Kt e;subst f;exact⟨d,q⟩
theorem Inv.pinned{a:List (Addr×Obj)}{f:St}{H:Hp}{s:Shared}{c:List Addr}(I:Inv X a f H s)(k:∀b∈c,oH X a H b)(j:∀b∈c,∃o,s.heap.get? b=some o/\∀v,o.data≠.cell v):Inv X (a++oJ c s.heap) f H s:=
 I.yX λp i=>(KE.mp i).elim (λz=>I.pin p (Hn _ z)) λz=>by obtain⟨g,e⟩:=Bq z;obtain⟨n,m,l,_⟩:=k p.1 g;obtain⟨o,h,d⟩:=j p.1 g;rw[e]at h;cases h;exact⟨e,n,m,l,d⟩
theorem Inv.kH{a pl:List (Addr×Obj)}{b:St}{H:Hp}{s:Shared}(I:Inv X (a++pl) b H s):Inv X a b H s:=I.yX λp c=>I.pin p (Hn _ (Ta _ c))
theorem Mp{k:Expr}{C:List Stmt}{wi:TI}{g:TG}{tb:TS}{pos:Pos}(M:PassesOwn (model X.prog X.w) X.A X.env X.xe)(hc:X.calm=true)(hi:PI X tg k wi)(hg:PG X tg g)(l:vn X C tb)
 (hs:∀x,foldedSetIterable k X.env x=pure x:=by intro _;rfl):PS X (.For tg k C [] pos) (VY wi g tb):=by
 intro a s Z H D I h;refine wpAny_For (bV (hi a s Z H _ I h) λv s1 h1=>bV h1 λitv s2 h2=>?_) hs;obtain⟨it,O,tn,J,H2,e,I2,T,Q,f2,W,⟨m0,w0⟩,E⟩:=h2;subst e;have Y:∀{z:Hp},(∀b∈O,z b=none)->∀b∈O,oH X a z b:=λhn b l=>⟨hn b l,(f2 b l).2⟩;refine codeAny_forLoop_any (λn s'=>∃i j z,Inv X a j z s'/\tn i s'.heap/\(∀b∈O,z b=none)/\W i n j z) ?_ m0 ⟨0,Z,H2,I2,Q,λb l=>(f2 b l).1,w0⟩;rintro n s3 ⟨i,c,P,I3,K,XR,w3⟩;rcases E i n c P w3 with⟨F,qn⟩|⟨go,N,hN,G⟩
 .refine hZ M (bV (T.done X rfl rfl rfl hc i a s3 c P X.xe I3 (Y XR) K F) λr s4 ⟨S,I4⟩=>?_);subst S;exact wpAny_execs_nil ⟨c,P,I4,qn⟩
 .refine hZ M (bV (T.item X rfl rfl rfl hc i a s3 c P X.xe I3 (Y XR) K go) λr s4 ⟨u,S,h4⟩=>?_);subst S;refine hZ M (bV h4 λ_ s5 ⟨x,H5,I5,r5,y5,U,U5⟩=>?_);have Zk:=I5.pinned (Y U5) (T.obj _ _ U);refine hZ M (bV (hg _ s5 c H5 x u _ Zk r5 (G x H5 y5)) λ_ s6 ⟨Zl,H6,I6,q6⟩=>?_);refine hZ M (bV (l _ s6 Zl H6 _ I6 q6) λf R B=>?_);have p:∀{y:St}{t:Hp},Inv X (a++oJ O s5.heap) y t R->N y t->∃m,m<n/\∃i j z,Inv X a j z R/\tn i R.heap/\(∀b∈O,z b=none)/\W i m j z:=λ{y t} q L=>by obtain⟨m',hm,w7⟩:=hN y t L;refine⟨m',hm,i+1,y,t,q.kH,T.keep _ _ _ U λb l o e=>(q.pin (b,o) (Hn _ (Hn _ (ig l e)))).1,λb l=>?_,w7⟩;obtain⟨o,e,d⟩:=T.obj _ _ U b l;exact(q.pin (b,o) (Hn _ (Hn _ (ig l e)))).2.1
  cases f with
  |next=>obtain⟨y,t,q,L⟩:=B;exact p q L
  |cont=>obtain⟨y,t,q,L⟩:=B;exact p q L
  |brk=>obtain⟨y,t,q,B⟩:=B;exact⟨y,t,q.kH,B⟩
  |ret v=>obtain⟨x7,y,t,q,r7,B⟩:=B;exact⟨x7,y,t,q.kH,r7,B⟩
end
abbrev R2:=V->V->Hp->VK->Prop
noncomputable def l6(X:Cx)(f:Value->Value->Sem Value)(r:R2):Prop:=
 ∀(a:List (Addr×Obj))(s:Shared)(b:St)(H:Hp)(x y:V)(v u:Value)(Q:VK),Inv X a b H s->RelV x v->RelV y u->r x y H Q->
  wpAny (model X.prog X.w) X.A (f v u) (EP X a b Q) X.xe s
noncomputable def VZ(X:Cx)(f:Value->Sem Value)(r:V->Hp->VK->Prop):Prop:=
 ∀(a:List (Addr×Obj))(s:Shared)(b:St)(H:Hp)(x:V)(v:Value)(Q:VK),Inv X a b H s->RelV x v->r x H Q->
  wpAny (model X.prog X.w) X.A (f v) (EP X a b Q) X.xe s
noncomputable def cL(X:Cx)(f:Value)(r:List V->Hp->VK->Prop):Prop:=
 ∀(a:List (Addr×Obj))(s:Shared)(b:St)(H:Hp)(c:List V)(d:List Value)(Q:VK),Inv X a b H s->Vals c d->r c H Q->
  wpAny (model X.prog X.w) X.A (call f d) (EP X a b Q) X.xe s
noncomputable def Zm(r:R2)(ta b:TE):TE:=λa H Q=>ta a H λx d=>b a d λy c=>r x y c Q
noncomputable def Zn(r:V->Hp->VK->Prop)(ta:TE):TE:=λa H Q=>ta a H λx b=>r x b Q
noncomputable def rI(C:Int->Int->Prop)(g:Int->Int->V):R2:=λx y H Q=>∃i j,x=.int i/\y=.int j/\C i j/\Q (g i j) H
noncomputable def GS(g:Int->Int->V):R2:=λx y H Q=>∃i j,x=.int i/\y=.int j/\Q (g i j) H
noncomputable def rU(g:Int->V):V->Hp->VK->Prop:=λx H Q=>∃i,x=.int i/\Q (g i) H
section
variable{X:Cx}{a b c:Expr}{ta tb tc:TE}{pos:Pos}
theorem V1(t:PE X a ta)(r:PE X b tb){d:List (Addr×Obj)}{s:Shared}{e:St}{H:Hp}{R:V->V->Hp->Prop}(I:Inv X d e H s)
 (h:ta e H λx H1=>tb e H1 λy g=>R x y g){Q:Value->Shared->Prop}{f:Value->Value->Sem Value}
 (q:∀v u k x y g,Inv X d e g k->RelV x v->RelV y u->R x y g->wpAny (model X.prog X.w) X.A (f v u) Q X.xe k):
 wpAny (model X.prog X.w) X.A (eval a X.env) (λv j=>wpAny (model X.prog X.w) X.A (eval b X.env) (λu i=>wpAny (model X.prog X.w) X.A (f v u) Q X.xe i) X.xe j) X.xe s:=by
 refine bV (t d s e H _ I h) λv l ⟨x,H1,I1,n,p⟩=>?_;refine bV (r d l e H1 _ I1 p) λu k ⟨y,g,z,m,o⟩=>?_;exact q v u k x y g z n m o
theorem RG{op:UnaryOp}{r:V->Hp->VK->Prop}(j:VZ X (unaryOp op) r)(k:PE X a ta):PE X (.UnaryOp op a pos) (Zn r ta):=by intro d s e H Q I h;exact UnaryOp_ (bV (k d s e H _ I h) λv f ⟨x,l,I1,g,i⟩=>j d f e l x v Q I1 g i)
theorem RH{f:Value->Value->Sem Value}{C:Int->Int->Prop}{g:Int->Int->Int}
 (d:∀(i j:Int)(t u:Tok)(s:Shared)(Q:Value->Shared->Prop)(E:Value->Shared->Prop),C i j->Q (.int (g i j) s.toks) {s with toks:=s.toks+1}->wpAny (model X.prog X.w) X.A (f (.int i t) (.int j u)) Q E s):
 l6 X f (rI C λi j=>.int (g i j)):=by
 intro e s o H x y v u Q I m l h;obtain⟨i,j,rfl,rfl,n,q⟩:=h;obtain⟨t,rfl⟩:=m;obtain⟨k,rfl⟩:=l;exact d i j t k s _ _ n ⟨.int (g i j),H,I.tok _,⟨_,rfl⟩,q⟩
theorem RI{f:Value->Value->Sem Value}{g:Int->Int->Int}
 (d:∀(i j:Int)(t u:Tok)(s:Shared)(Q:Value->Shared->Prop)(E:Value->Shared->Prop),Q (.int (g i j) s.toks) {s with toks:=s.toks+1}->wpAny (model X.prog X.w) X.A (f (.int i t) (.int j u)) Q E s):
 l6 X f (GS λi j=>.int (g i j)):=by
 intro e s n H x y v u Q I m l h;obtain⟨i,j,rfl,rfl,q⟩:=h;obtain⟨t,rfl⟩:=m;obtain⟨k,rfl⟩:=l;exact d i j t k s _ _ ⟨.int (g i j),H,I.tok _,⟨_,rfl⟩,q⟩
theorem GU{f:Value->Value->Sem Value}{g:Int->Int->Bool}
 (d:∀(i j:Int)(t u:Tok)(s:Shared)(Q:Value->Shared->Prop)(E:Value->Shared->Prop),Q (.bool (g i j)) s->wpAny (model X.prog X.w) X.A (f (.int i t) (.int j u)) Q E s):
 l6 X f (GS λi j=>.bl (g i j)):=by
 intro e s n H x y v u Q I m l h;obtain⟨i,j,rfl,rfl,q⟩:=h;obtain⟨t,rfl⟩:=m;obtain⟨k,rfl⟩:=l;exact d i j t k s _ _ ⟨.bl (g i j),H,I,rfl,q⟩
noncomputable def V3(i j:Int):Prop:=0<j/\j<1073741824
noncomputable def Br(i j:Int):Prop:=0<=j/\j<=1000000/\i.natAbs<2^64
theorem xH(k:Nat):(0:Int)<=2^k:=by rw[two_pow_cast];exact Mq _
theorem Mr:l6 X (binaryOp .Add) (GS λi j=>.int (i+j)):=RI λ_ _ _ _ _ _ _ q=>add_int q
theorem Mt:l6 X (binaryOp .Sub) (GS λi j=>.int (i -j)):=RI λ_ _ _ _ _ _ _ q=>sub_int q
theorem GV:l6 X (binaryOp .Mod) (rI (λ_ j=>j≠0) λi j=>.int (i.fmod j)):=RH λ_ _ _ _ _ _ _ d q=>mod_int' d q
theorem Mu:l6 X (binaryOp .Pow) (rI Br λi j=>.int (i^j.toNat)):=RH λ_ _ _ _ _ _ _ d q=>pow_int_small d.1 d.2.1 d.2.2 q
theorem Mw:l6 X (binaryOp .LShift) (rI Br λi j=>.int (i*2^j.toNat)):=RH λ_ _ _ _ _ _ _ d q=>lshift_int_small d.1 d.2.1 d.2.2 q
theorem Mx:l6 X (binaryOp .RShift) (rI (λ_ j=>0<=j) λi j=>.int (i/2^j.toNat)):=RH λi j _ _ _ _ _ d q=>rshift_int d (by rw[Tb i (xH _)];exact q)
theorem Zo{f:Value->Sem Value}{g:Int->Int}
 (d:∀(i:Int)(t:Tok)(s:Shared)(Q:Value->Shared->Prop)(E:Value->Shared->Prop),Q (.int (g i) s.toks) {s with toks:=s.toks+1}->wpAny (model X.prog X.w) X.A (f (.int i t)) Q E s):
 VZ X f (rU λi=>.int (g i)):=by
 intro e s k H x v Q I j h;obtain⟨i,rfl,q⟩:=h;obtain⟨t,rfl⟩:=j;exact d i t s _ _ ⟨.int (g i),H,I.tok _,⟨_,rfl⟩,q⟩
theorem My:VZ X (unaryOp .USub) (rU λi=>.int (-i)):=Zo λ_ _ _ _ _ q=>neg_int q
end
noncomputable def MA:V->V->Bool
 |.aV,.aV=>true|.aV,.int _=>true|.int _,.aV=>true|.aV,.bl _=>true|.bl _,.aV=>true|.aV,.str _=>true|.str _,.aV=>true
 |.int _,.int _=>true|.bl _,.bl _=>true|.str _,.str _=>true|.CA _,.CA _=>true
 |.int _,.str _=>true|.str _,.int _=>true|.bl _,.str _=>true|.str _,.bl _=>true
 |_,_=>false
noncomputable def Zp:R2:=λx y H Q=>MA x y=true/\Q (.bl (decide (x=y))) H
noncomputable def Zq:R2:=λx y H Q=>MA x y=true/\Q (.bl (!decide (x=y))) H
theorem zj{i j:Int}:decide (V.int i=V.int j)=(i==j):=by rw[kv];simp
theorem C5{i j:Bool}:decide (V.bl i=V.bl j)=(i==j):=by rw[kv];simp
theorem zk{i j:Str}:decide (V.str i=V.str j)=(i==j):=by rw[kv];simp
theorem zo{i j:Array UInt8}:decide (V.CA i=V.CA j)=(i.toList==j.toList):=by rw[kv];cases i;cases j;simp
section
variable{X:Cx}{a b c:Expr}{ta tb tc:TE}{pos:Pos}
theorem aR{d:List (Addr×Obj)}{f:St}{H:Hp}{s:Shared}{Q:VK}{k g:Bool}(I:Inv X d f H s)(q:Q (.bl k) H)(e:k=g):EP X d f Q (.bool g) s:=by subst e;exact⟨.bl k,H,I,rfl,q⟩
theorem RJ:l6 X (compareOp .Eq) Zp:=by
 intro k s l H x y v u Q I g d h;obtain⟨f,q⟩:=h;cases x with
 |aV=>
  cases g;cases y with
  |aV=>cases d;exact PySem.EqNone.eq_none_none (aR I q (by simp))
  |bl j=>cases d;exact PySem.EqNone.eq_none_bool (aR I q (by simp))
  |int j=>obtain⟨e,rfl⟩:=d;exact PySem.EqNone.eq_none_int (aR I q (by simp))
  |str j=>obtain⟨e,rfl⟩:=d;exact PySem.EqNone.eq_none_str (aR I q (by simp))
  |_=>exact absurd (show false=true from f) N0
 |bl i=>
  cases g;cases y with
  |aV=>cases d;exact PySem.EqNone.eq_bool_none (aR I q (by simp))
  |bl j=>cases d;exact eq_bool (aR I q C5)
  |str j=>obtain⟨e,rfl⟩:=d;exact PySem.EqMixed.eq_bool_str (aR I q (by simp))
  |_=>exact absurd (show false=true from f) N0
 |int i=>
  obtain⟨t,rfl⟩:=g;cases y with
  |aV=>cases d;exact PySem.EqNone.eq_int_none (aR I q (by simp))
  |int j=>obtain⟨e,rfl⟩:=d;exact eq_int (aR I q zj)
  |str j=>obtain⟨e,rfl⟩:=d;exact PySem.EqMixed.eq_int_str (aR I q (by simp))
  |_=>exact absurd (show false=true from f) N0
 |str i=>
  obtain⟨t,rfl⟩:=g;cases y with
  |aV=>cases d;exact PySem.EqNone.eq_str_none (aR I q (by simp))
  |bl j=>cases d;exact PySem.EqMixed.eq_str_bool (aR I q (by simp))
  |int j=>obtain⟨e,rfl⟩:=d;exact PySem.EqMixed.eq_str_int (aR I q (by simp))
  |str j=>obtain⟨e,rfl⟩:=d;exact eq_str (aR I q zk)
  |_=>exact absurd (show false=true from f) N0
 |CA i=>
  obtain⟨t,rfl⟩:=g;cases y with
  |CA j=>obtain⟨e,rfl⟩:=d;exact PySem.W.eq_bytes (aR I q zo)
  |_=>exact absurd (show false=true from f) N0
 |_=>cases y<;>exact absurd (show false=true from f) N0
theorem RK:l6 X (compareOp .NotEq) Zq:=by
 intro k s l H x y v u Q I g d h;obtain⟨f,q⟩:=h;cases x with
 |aV=>
  cases g;cases y with
  |aV=>cases d;exact PySem.EqNone.ne_none_none (aR I q (by simp))
  |bl j=>cases d;exact PySem.EqNone.ne_none_bool (aR I q (by simp))
  |int j=>obtain⟨e,rfl⟩:=d;exact PySem.EqNone.ne_none_int (aR I q (by simp))
  |str j=>obtain⟨e,rfl⟩:=d;exact PySem.EqNone.ne_none_str (aR I q (by simp))
  |_=>exact absurd (show false=true from f) N0
 |bl i=>
  cases g;cases y with
  |aV=>cases d;exact PySem.EqNone.ne_bool_none (aR I q (by simp))
  |bl j=>cases d;exact ne_bool (aR I q (Pt not C5))
  |str j=>obtain⟨e,rfl⟩:=d;exact PySem.EqMixed.ne_bool_str (aR I q (by simp))
  |_=>exact absurd (show false=true from f) N0
 |int i=>
  obtain⟨t,rfl⟩:=g;cases y with
  |aV=>cases d;exact PySem.EqNone.ne_int_none (aR I q (by simp))
  |int j=>obtain⟨e,rfl⟩:=d;exact ne_int (aR I q (Pt not zj))
  |str j=>obtain⟨e,rfl⟩:=d;exact PySem.EqMixed.ne_int_str (aR I q (by simp))
  |_=>exact absurd (show false=true from f) N0
 |str i=>
  obtain⟨t,rfl⟩:=g;cases y with
  |aV=>cases d;exact PySem.EqNone.ne_str_none (aR I q (by simp))
  |bl j=>cases d;exact PySem.EqMixed.ne_str_bool (aR I q (by simp))
  |int j=>obtain⟨e,rfl⟩:=d;exact PySem.EqMixed.ne_str_int (aR I q (by simp))
  |str j=>obtain⟨e,rfl⟩:=d;exact ne_str (aR I q (Pt not zk))
  |_=>exact absurd (show false=true from f) N0
 |CA i=>
  obtain⟨t,rfl⟩:=g;cases y with
  |CA j=>obtain⟨e,rfl⟩:=d;exact PySem.W.ne_bytes (aR I q (Pt not zo))
  |_=>exact absurd (show false=true from f) N0
 |_=>cases y<;>exact absurd (show false=true from f) N0
theorem RM:l6 X (compareOp .Lt) (GS λi j=>.bl (decide (i<j))):=GU λ_ _ _ _ _ _ _ q=>lt_int q
theorem RN:l6 X (compareOp .LtE) (GS λi j=>.bl (decide (i<=j))):=GU λ_ _ _ _ _ _ _ q=>le_int q
theorem RO:l6 X (compareOp .Gt) (GS λi j=>.bl (decide (j<i))):=GU λ_ _ _ _ _ _ _ q=>gt_int q
theorem RP:l6 X (compareOp .GtE) (GS λi j=>.bl (decide (j<=i))):=GU λ_ _ _ _ _ _ _ q=>ge_int q
theorem MB:l6 X (compareOp .Is) (λx y H Q=>y=.aV/\Q (.bl (decide (x=.aV))) H):=by
 intro e s g H x y v u Q I d f h;obtain⟨rfl,q⟩:=h;cases f;refine is_none_gen (aR I q ?_);cases x<;>first
  |(cases d;rfl)
  |(obtain⟨t,rfl⟩:=d;rfl)
theorem GW:l6 X (compareOp .IsNot) (λx y H Q=>y=.aV/\Q (.bl (!decide (x=.aV))) H):=by
 intro e s g H x y v u Q I d f h;obtain⟨rfl,q⟩:=h;cases f;refine isnot_none_gen (aR I q ?_);cases x<;>first
  |(cases d;rfl)
  |(obtain⟨t,rfl⟩:=d;rfl)
theorem xJ(b:Expr){op:CmpOp}(h:op≠.In:=by decide)(d:op≠.NotIn:=by decide):behindInMarks op b=false:=by
 have f:(op==CmpOp.In)=false:=by cases op<;>first|rfl|exact absurd rfl h
 have e:(op==CmpOp.NotIn)=false:=by cases op<;>first|rfl|exact absurd rfl d
 cases b<;>simp[behindInMarks,f,e]
theorem oK:(sizeLine:Nat)<2^63:=by rw[sizeLine_eq];decide
theorem xK:l6 X (binaryOp .Add) (λx y H Q=>∃i j,x=.str i/\y=.str j/\i.length+j.length<=sizeLine/\Q (.str (i++j)) H):=by intro d s k H x y v u Q I g f h;obtain⟨i,j,rfl,rfl,hz,q⟩:=h;obtain⟨t,rfl⟩:=g;obtain⟨e,rfl⟩:=f;exact add_str (λe l=>⟨.str (i++j),H,I.tok _,⟨_,rfl⟩,q⟩) hz
theorem vals1{x:V}{us:List Value}(r:Vals [x] us):∃u,us=[u]/\RelV x u:=by
 cases r with
 |cons e d=>cases d;exact⟨_,rfl,e⟩
theorem vals2{x y:V}{us:List Value}(r:Vals [x,y] us):∃u w',us=[u,w']/\RelV x u/\RelV y w':=by
 cases r with
 |cons g f=>
  cases f with
  |cons e d=>cases d;exact⟨_,_,rfl,g,e⟩
theorem C6:cL X (.builtin "abs") (λd H Q=>∃i,d=[.int i]/\Q (.int (if i<0 then-i else i)) H):=by intro e s f H d g Q I r h;obtain⟨i,rfl,q⟩:=h;obtain⟨u,rfl,t,rfl⟩:=vals1 r;exact call_abs_int λu j=>⟨.int (if i<0 then-i else i),H,I.tok _,⟨_,rfl⟩,q⟩
theorem Bs(g:X.calm=true):cL X (.builtin "max") (λe H Q=>∃i j,e=[.int i,.int j]/\Q (.int (if j>i then j else i)) H):=by
 intro f s l H e n Q I r h;obtain⟨i,j,rfl,q⟩:=h;obtain⟨u,m,rfl,⟨t,rfl⟩,⟨p,rfl⟩⟩:=vals2 r;refine max_two_ints (I.ok.hd g) λv o k=>⟨_,H,I.kept k,?_,q⟩;by_cases d:j>i
 .rw[Bi d,Bi d];exact⟨_,rfl⟩
 .rw[BM d,BM d];exact⟨_,rfl⟩
theorem Bt(g:X.calm=true):cL X (.builtin "min") (λe H Q=>∃i j,e=[.int i,.int j]/\Q (.int (if j<i then j else i)) H):=by
 intro f s l H e n Q I r h;obtain⟨i,j,rfl,q⟩:=h;obtain⟨u,m,rfl,⟨t,rfl⟩,⟨p,rfl⟩⟩:=vals2 r;refine min_two_ints (I.ok.hd g) λv o k=>⟨_,H,I.kept k,?_,q⟩;by_cases d:j<i
 .rw[Bi d,Bi d];exact⟨_,rfl⟩
 .rw[BM d,BM d];exact⟨_,rfl⟩
theorem Bu:cL X (.type "int") (λd H Q=>(∃i,d=[.int i]/\Q (.int i) H)\/∃k,d=[.bl k]/\Q (.int (if k then 1 else 0)) H):=by
 intro e s g H d j Q I r h;rcases h with⟨i,rfl,q⟩|⟨k,rfl,q⟩
 .obtain⟨u,rfl,t,rfl⟩:=vals1 r;exact call_int_int ⟨.int i,H,I,⟨_,rfl⟩,q⟩
 .obtain⟨u,rfl,f⟩:=vals1 r;cases f;exact call_int_bool ⟨.int (if k then 1 else 0),H,I.tok _,⟨_,rfl⟩,q⟩
theorem vA:cL X (.builtin "divmod") (λd H Q=>∃i j,d=[.int i,.int j]/\V3 i j/\∀p,H p=none->Q (.ref p) (upd H p (.tup [.int (i/j),.int (i%j)]))):=by intro f s k H d m Q I r h;obtain⟨i,j,rfl,⟨w,v⟩,q⟩:=h;obtain⟨u,l,rfl,⟨t,rfl⟩,⟨n,rfl⟩⟩:=vals2 r;refine divmod_int (by lia) ?_ (.inl (Up (by lia)));rw[Tb i (by lia),rf i (by lia)];have g:H s.heap.objs.size=none:=I.hok.fresh (D2 _);refine⟨.ref s.heap.objs.size,_,?_,rfl,q _ g⟩;refine I.laid (λb o e=>Da _ e) (D2 _) ⟨by simp only[A6,KZ];rw[sizeLine_eq];decide,[.int (i/j) s.toks,.int (i%j) (s.toks+1)],.cons ⟨_,rfl⟩ (.cons ⟨_,rfl⟩ .nil),?_⟩;exact⟨_,Iy s.heap rfl,rfl,0,rfl⟩
end
structure xM(h:Heap)(x dx C:Addr)(mA:Str->Option Value):Prop where
 obj:h.get? x=some (instObj C dx)
 ns:h.Ns1 dx mA
 ne:dx≠x
theorem Bv{h:Heap}{i:Addr}{f:Str->Option Value}(n:h.Ns1 i f):∃d,h.get? i=some d/\∀b,lookIn b d=some (f b):=by
 obtain⟨o,g,s,k,p,m,_,l⟩:=n;refine⟨o,k,λb=>?_⟩;have e:=l b;unfold nsFind findBy at e;rw[<-Array.find?_toList]at e;unfold lookIn;rw[p];dsimp only;split
 .rename_i y q
  rw[q]at e;exact Pt some e
 .rename_i q
  rw[q]at e;have a:g.toList.any (·.refKey)=false:=by rw[YQ];intro y j;obtain⟨z,t,c⟩:=m y (Array.mem_toList_iff.mp j);simp[DictEntry.refKey,c]
  have r:¬g.toList.any (·.refKey)=true:=by rw[a];exact N0
  rw[BM r];exact Pt some e
theorem xM.look{h:Heap}{x d C:Addr}{c:Str->Option Value}(I:xM h x d C c):∃b,PySem.W.InstAt h x (instObj C d) C (some b)/\∀a,lookIn a b=some (c a):=
 let⟨b,ho,hl⟩:=Bv I.ns
 ⟨b,⟨I.obj,rfl,rfl,ho⟩,hl⟩
section
variable{prog:Program}{w:World}{A:Around}{E:Value->Shared->Prop}{s:Shared}{K:Frag}{x dx C f:Addr}{mA:Str->Option Value}{name:Str}{v:Value}
theorem get_map{a:Bool}{Q:Value->Shared->Prop}(X:K.In s.heap)(I:xM s.heap x dx C mA)(g:plainGet K C name=true)(e:hasDictIn K C=true)
 (i:findIn K (.ref C) name=some none)(c:mA name=some v)(b:PySem.W.handedIn v=true)(h:Q v {s with toks:=s.toks+1}):
 wpAny (model prog w) A (getAttr (.ref x) name a) Q E s:=by
 obtain⟨j,J,d⟩:=I.look;exact PySem.W.get_value X J (plainGet_of g).1 (PySem.W.findObj_own e i rfl (by rw[d,c])) b h
theorem C7{pl:Sem Bool}{Q:Value×List Value->Shared->Prop}(X:K.In s.heap)(I:xM s.heap x dx C mA)(a:plainGet K C name=true)
 (g:findIn K (.ref C) name=some (some (.ref f)))(d:isFn K (.ref f)=true)(c:mA name=none)(h:Q (.ref f,[.ref x]) s):
 wpAny (model prog w) A (getMethod (.ref x) name pl) Q E s:=by
 obtain⟨b,J,e⟩:=I.look;exact PySem.W.method_fn X J (plainGet_of a).1 (plainGet_of a).2 g (P3.mp d) (by show(lookIn name b).map (·.isSome)=some false;rw[e,c];rfl) h
theorem GX{ns:List Str}{Q:Unit->Shared->Prop}(X:K.In s.heap)(I:xM s.heap x dx C mA)
 (l:findIn K (.ref C) "__setattr__"=some (some (.builtin "object.__setattr__")))(m:plainOver K C=true)(j:takerIn K C name=some none)(n:hasDictIn K C=true)
 (i:PySem.Within mA ns)(k:ns.length<=sizeLine)
 (h:∀h',xM h' x dx C (λy=>if y=name then some v else mA y)->Heap.SameBut dx s.heap h'->Q () {s with heap:=h',toks:=s.toks+2}):
 wpAny (model prog w) A (setAttr (.ref x) name v) Q E s:=by
 obtain⟨B,J,F⟩:=I.look;refine PySem.W.set_plain X J l (PySem.W.osa_open (s:={s with toks:=s.toks+1}) (r:=none) X J m j λb=>?_);obtain⟨G,o,e⟩:=PySem.W.any_some n;have g:s.heap.get? x=some ⟨.ref C,some dx,.plain,#[]⟩:=I.obj;refine Hb (Pm (Hb (Hb (wpAny_loadPart g (Hb (PySem.W.Looks.here (s:={s with toks:=s.toks+1}) (PySem.W.looks_clsIn X o) ?_))))));rw[e];refine Pm (a:=some dx) (Hb (Pm (Hb ?_)));refine wpAny_nsSet1 (s:={s with toks:=s.toks+1}) I.ns λh' d c=>?_;obtain⟨D,p,q,z,u,t⟩:=d.count (PySem.Within.cons name v i);refine Hb (wpAny_lookBehind z (by rw[u];exact pastItsLine_dict (Bz t (by rw[A6];lia))) ?_);exact Pm (h _ ⟨(c.2 _ (SC I.ne)).trans I.obj,d,I.ne⟩ c)
theorem C8{R:Result->Shared->Prop}{vs:List Value}{b:List (Str×Value)}(X:K.In s.heap)(c:makesIn K C=true)
 (hi:findIn K (.ref C) "__init__"=some (some (.ref f)))(e:PySem.W.typeIn K (.ref f)=some (.type "function"))
 (h:codeAny (model prog w) (A.under (.builtin "type.__call__" ⟨.ref C::vs,b⟩)) (.call (.ref f) ⟨.ref (s.heap.objs.size+1)::vs,b⟩) (PySem.W.InitBack (s.heap.objs.size+1) R)
   {s with heap:=(s.heap.push emptyDict).push (instObj C s.heap.objs.size)}):
 codeAny (model prog w) A (.call (.ref C) ⟨vs,b⟩) R s:=by
 obtain⟨j,g,d,t,i⟩:=s;exact PySem.W.make_core (PySem.W.makes_of X c) (PySem.W.looks_findIn X hi) (λa=>PySem.W.bind_fn X a e) (.inl rfl) h
end
noncomputable def ir(f:Str)(v:V):List (Str×V)->List (Str×V)
 |[]=>[(f,v)]
 |(g,x)::r=>if g=f then(g,v)::r else(g,x)::ir f v r
theorem nh(f g:Str)(v:V):∀c:List (Str×V),(ir f v c).lookup g=if g=f then some v else c.lookup g
 |[]=>by
  show Hh g [(f,v)]=_;by_cases h:g=f
  .have a:(g==f)=true:=P3.mpr h;simp only[Hh,a,Bi h]
  .have a:(g==f)=false:=ip.mpr h;simp only[Hh,a,BM h]
 |(k,x)::r=>by
  have d:=nh f g v r;rw[show ir f v ((k,x)::r)=(if k=f then(k,v)::r else(k,x)::ir f v r)from rfl];by_cases b:k=f
  .rw[Bi b];by_cases h:g=k
   .have a:(g==k)=true:=P3.mpr h;simp only[Hh,a,Bi (h.trans b)]
   .have a:(g==k)=false:=ip.mpr h;simp only[Hh,a,BM (λe:g=f=>h (e.trans b.symm))]
  .rw[BM b];by_cases h:g=k
   .have a:(g==k)=true:=P3.mpr h;simp only[Hh,a,BM (λe:g=f=>b (h.symm.trans e))]
   .have a:(g==k)=false:=ip.mpr h;simp only[Hh,a];exact d
theorem l7(f:Str)(v:V):∀b:List (Str×V),f∈(ir f v b).map (·.1)/\∀g,g∈b.map (·.1)->g∈(ir f v b).map (·.1)
 |[]=>⟨by simp[ir],λg h=>by simp at h⟩
 |(k,x)::r=>by
  obtain⟨d,c⟩:=l7 f v r;rw[show ir f v ((k,x)::r)=(if k=f then(k,v)::r else(k,x)::ir f v r)from rfl];by_cases a:k=f
  .rw[Bi a];subst a;exact⟨by simp,λg h=>by simpa using h⟩
  .rw[BM a];refine⟨?_,λg h=>?_⟩
   .rw[L9];exact Ee _ d
   .rw[L9]at h⊢;rcases GE.mp h with e|e
    .exact GE.mpr (.inl e)
    .exact Ee _ (c g e)
theorem ni(f:Str)(v:V):∀b:List (Str×V),(ir f v b).length<=b.length+1
 |[]=>by simp[ir]
 |(k,x)::r=>by
  have ih:=ni f v r;rw[show ir f v ((k,x)::r)=(if k=f then(k,v)::r else(k,x)::ir f v r)from rfl];by_cases a:k=f
  .rw[Bi a,A6,A6];lia
  .rw[BM a,A6,A6];lia
theorem qK.some_of{v:V}{o:Option Value}(r:qK (some v) o):∃u,o=some u/\RelV v u:=by
 cases o with
 |none=>exact(show False from r).elim
 |some u=>exact⟨u,rfl,r⟩
theorem qK.none_of{o:Option Value}(r:qK none o):o=none:=by
 cases o with
 |none=>rfl
 |some u=>exact(show False from r).elim
theorem Bw{v:V}{u:Value}(r:RelV v u):PySem.W.handedIn u=true:=by
 cases v with
 |aV=>cases(show u=Value.none from r);rfl
 |bl b=>cases(show u=Value.bool b from r);rfl
 |int i=>obtain⟨t,e⟩:=(show∃t,u=Value.int i t from r);cases e;rfl
 |str x=>obtain⟨t,e⟩:=(show∃t,u=Value.str x t from r);cases e;rfl
 |CA b=>obtain⟨t,e⟩:=(show∃t,u=Value.bytes b t from r);cases e;rfl
 |LY b=>obtain⟨t,e⟩:=(show∃t,u=Value.float b t from r);cases e;rfl
 |ref a=>cases(show u=Value.ref a from r);rfl
 |ty n=>cases(show u=Value.type n from r);rfl
section
variable{P:Program}{w:World}{H H':Hp}{h h':Heap}{a C dx:Addr}{fs fs':List (Str×V)}
theorem nY(c:ku P w H h)(e:H a=some (.ins C dx fs)):∃b,xM h a dx C b/\(∀f,qK (fs.lookup f) (b f))/\PySem.Within b (fs.map (·.1))/\fs.length<=1000/\H dx=some (.own a):=by obtain⟨d,z,i,g,b,n,r,q⟩:=(show cE P w H h a (.ins C dx fs)from c a _ e);exact⟨b,⟨g,n,i⟩,r,q,z,d⟩
end
structure GY(K:Frag)(C:Addr):Prop where
 pg:plainGet K C Str.empty=true
 hd:hasDictIn K C=true
 po:plainOver K C=true
 sa:findIn K (.ref C) "__setattr__"=some (some (.builtin "object.__setattr__"))
theorem GY.get{K:Frag}{C:Addr}(c:GY K C)(f:Str):plainGet K C f=true:=c.pg
noncomputable def jQ(K:Frag)(C:Addr)(f:Str):Prop:=findIn K (.ref C) f=some none
theorem jQ.RQ{K:Frag}{C:Addr}{f:Str}(n:jQ K C f):takerIn K C f=some none:=by unfold takerIn;rw[show findIn K (.ref C) f=some none from n];rfl
structure Meth(K:Frag)(C:Addr)(m:Str)(f:Addr):Prop where
 at_:findIn K (.ref C) m=some (some (.ref f))
 fn:isFn K (.ref f)=true
 kp:keepIn K (.ref f)=true
section
variable{X:Cx}{pins:List (Addr×Obj)}{σ:St}{H:Hp}{s:Shared}{a C dx:Addr}{fs:List (Str×V)}{f:Str}{v:V}{A:Around}{E:Value->Shared->Prop}
theorem xN{b:Bool}{Q:Value->Shared->Prop}(I:Inv X pins σ H s)(e:H a=some (.ins C dx fs))(c:GY X.K C)(n:jQ X.K C f)(l:fs.lookup f=some v)
 (h:∀u s',Inv X pins σ H s'->RelV v u->Q u s'):wpAny (model X.prog X.w) A (getAttr (.ref a) f b) Q E s:=by
 obtain⟨g,O,r,_,_,_⟩:=nY I.hok e;obtain⟨u,i,d⟩:=qK.some_of (v:=v) (o:=g f) (by rw[<-l];exact r f);exact get_map I.lW O (c.get f) c.hd n i (Bw d) (h u _ (I.tok _) d)
theorem oM{m:Str}{g:Addr}{pl:Sem Bool}{Q:Value×List Value->Shared->Prop}(I:Inv X pins σ H s)(e:H a=some (.ins C dx fs))(c:GY X.K C)(k:Meth X.K C m g)(l:fs.lookup m=none)
 (h:Q (.ref g,[.ref a]) s):wpAny (model X.prog X.w) A (getMethod (.ref a) m pl) Q E s:=by
 obtain⟨b,O,r,_,_,_⟩:=nY I.hok e;have d:b m=none:=qK.none_of (by rw[<-l];exact r m);exact C7 I.lW O (c.get m) k.at_ k.fn d h
theorem xO{y:V}{u:Value}{Q:Unit->Shared->Prop}(I:Inv X pins σ H s)(e:H a=some (.ins C dx fs))(c:GY X.K C)(n:jQ X.K C f)(D:fs.length<1000)(m:RelV y u)
 (h:∀s',Inv X pins σ (upd H a (.ins C dx (ir f y fs))) s'->Q () s'):wpAny (model X.prog X.w) A (setAttr (.ref a) f u) Q E s:=by
 obtain⟨j,O,r,i,_,k⟩:=nY I.hok e;have hz:(fs.map (·.1)).length<=sizeLine:=by rw[Ap,sizeLine_eq];lia
 refine GX I.lW O c.sa c.po n.RQ c.hd i hz λB d l=>h _ ?_;have hd:∃o,B.get? dx=some o:=let⟨o,_,_,e',_⟩:=d.ns;⟨o,e'⟩
 refine I.write (x:=a) (e:=dx) (by rw[e];exact KY) (.inr k) (λb q t z=>(l.2 b t).trans z) hd ?_;refine⟨by rw[ak O.ne];exact k,?_,O.ne,d.obj,_,d.ns,λg=>?_,λg p=>?_⟩
 .have:=ni f y fs;lia
 .show qK ((ir f y fs).lookup g) (if g=f then some u else j g);rw[nh];by_cases q:g=f
  .rw[Bi q,Bi q];exact m
  .rw[BM q,BM q];exact r g
 .by_cases q:g=f
  .rw[q];exact(l7 f y fs).1
  .refine(l7 f y fs).2 g (i g λz=>p ?_);show(if g=f then some u else j g)=none;rw[BM q];exact z
theorem Inv.made(I:Inv X pins σ H s):Inv X pins σ (upd (upd H s.heap.objs.size (.own (s.heap.objs.size+1))) (s.heap.objs.size+1) (.ins C s.heap.objs.size []))
 {s with heap:=(s.heap.push emptyDict).push (instObj C s.heap.objs.size)}:=by
 have d:(s.heap.push emptyDict).get? s.heap.objs.size=some emptyDict:=Iy s.heap rfl;have j:((s.heap.push emptyDict).push (instObj C s.heap.objs.size)).get? (s.heap.objs.size+1)=some (instObj C s.heap.objs.size):=by have:=Iy (s.heap.push emptyDict) (o:=instObj C s.heap.objs.size) rfl;rwa [Heap.size_push]at this
 have i:(s.heap.push emptyDict).Ns s.heap.objs.size (λ_=>none):=⟨emptyDict,#[],_,d,rfl,(λe h=>absurd h (by simp)),λ_=>rfl⟩;have I1:=I.laid (a:=s.heap.objs.size) (o:=.own (s.heap.objs.size+1)) (h':=s.heap.push emptyDict) (t':=s.toks) (λb u q=>Da _ q) (D2 _) ⟨_,d⟩;refine I1.laid (a:=s.heap.objs.size+1) (o:=.ins C s.heap.objs.size []) (t':=s.toks) (λb u q=>Da _ q) (gN (Heap.size_push _ _)) ?_;have c:s.heap.objs.size≠s.heap.objs.size+1:=On (PH _);refine⟨by rw[ak c,aF],KB _,c,j,λ_=>none,(Heap.Ns1.of_empty i).at λo q=>Da _ q,λ_=>KY,λy g=>absurd rfl g⟩
theorem GZ{prog:Program}{w:World}{env:Env}{e:Expr}{f:Str}{pos:Pos}{s:Shared}{Q:Value->Shared->Prop}(c:attributeBase e f env (eval e env)=eval e env)
 (h:wpAny (model prog w) A (eval e env) (λo b=>wpAny (model prog w) A (getAttr o f true) Q E b) E s):wpAny (model prog w) A (eval (.Attribute e f pos) env) Q E s:=
 Attribute_any_ h (by rw[arm_eval_Attribute,c])
end
noncomputable def V4(K:Frag)(ta:TE)(f:Str):TE:=λd H Q=>ta d H λx c=>∃a C e b v,x=.ref a/\c a=some (.ins C e b)/\GY K C/\jQ K C f/\b.lookup f=some v/\Q v c
noncomputable def RS(K:Frag)(ta g:TE)(f:Str):TS:=λD b H=>g b H λy h=>ta b h λx e=>∃a C d c,x=.ref a/\e a=some (.ins C d c)/\GY K C/\jQ K C f/\c.length<1000/\
 D.nx b (upd e a (.ins C d (ir f y c)))
section
variable{X:Cx}{o e value:Expr}{f:Str}{pos pos' tpos:Pos}{ta tv:TE}
theorem MC(j:PE X e ta)(k:attributeBase e f X.env (eval e X.env)=eval e X.env):PE X (.Attribute e f pos) (V4 X.K ta f):=by intro b s d H Q I h;refine GZ k (bV (j b s d H _ I h) λu y hz=>?_);obtain⟨x,r,I1,g,a,C,A,z,v,ex,m,c,n,l,q⟩:=hz;subst ex;obtain rfl:u=Value.ref a:=g;exact xN I1 m c n l λt w p i=>⟨v,r,p,i,q⟩
theorem gr(t:PE X o ta)(p:PE X value tv)(r:swapsWith value (some (.Attribute o f pos')) pos.line X.env=pure false):PS X (.Assign [.Attribute o f pos'] value pos) (RS X.K ta tv f):=by intro b s d H D I h;refine plainObj_wpAny_Assign_Attribute (bV (p b s d H _ I h) λu g ⟨y,A,I1,i,q⟩=>bV (t b g d A _ I1 q) λm E hz=>?_) r;obtain⟨x,J,z,j,a,C,G,F,ex,v,c,n,l,k⟩:=hz;subst ex;obtain rfl:m=Value.ref a:=j;exact xO z v c n l i λB w=>⟨d,_,w,k⟩
end
section
variable{X:Cx}{pins:List (Addr×Obj)}{σ:St}{H:Hp}{s:Shared}{A:Around}{E:Value->Shared->Prop}{Q:Value->Shared->Prop}{c:Value}{b:Bool}
inductive nT(K:Frag)(H:Hp):V->Value->Prop where
 |aV:nT K H .aV (.type "NoneType")
 |bl (x:Bool):nT K H (.bl x) (.type "bool")
 |int (i:Int):nT K H (.int i) (.type "int")
 |str (x:Str):nT K H (.str x) (.type "str")
 |LY (x:UInt64):nT K H (.LY x) (.type "float")
 |lst {a:Addr} {xs:List V} (e:H a=some (.lst xs)):nT K H (.ref a) (.type "list")
 |vj {a:Addr} {o:Obj} {xs:List V} (e:H a=some (.vj o (.lst xs))):nT K H (.ref a) (.type "list")
 |tup {a:Addr} {xs:List V} (e:H a=some (.tup xs)):nT K H (.ref a) (.type "tuple")
 |dK {a:Addr} {kvs:List (Key×V)} (e:H a=some (.dK kvs)):nT K H (.ref a) (.type "dict")
 |dT {a:Addr} {kvs:List (List Key×V)} (e:H a=some (.dT kvs)):nT K H (.ref a) (.type "dict")
 |ins {a C dx:Addr} {fs:List (Str×V)} (e:H a=some (.ins C dx fs)) (cl:GY K C) (ha:findIn K (.ref C) "__class__"=some (some (.builtin "object.__class__")))
   (hn:PySem.W.specialIn K (.builtin "object.__class__") "__get__"=some (some (.builtin "getset_descriptor.__get__"))) (htk:PySem.W.takesIn K (.builtin "object.__class__")=some true)
   (hm:mroIn K C (.type "object")=some true):nT K H (.ref a) (.ref C)
theorem fE{x:V}{u t:Value}(I:Inv X pins σ H s)(d:RelV x u)(v:nT X.K H x t)(e:kitOne X.K t c=some b)(h:∀B,Q (.bool b) {s with toks:=B}):
 wpAny (model X.prog X.w) A (call (.builtin "isinstance") [u,c]) Q E s:=by
 cases v with
 |aV=>cases(show u=Value.none from d);exact Ts PySem.W.kitx_none I.lW KY e (λz=>nomatch z) h
 |bl y=>cases(show u=Value.bool y from d);exact Ts PySem.W.kitx_bool I.lW KY e (λz=>nomatch z) h
 |int i=>obtain⟨t,q⟩:=(show∃t,u=Value.int i t from d);cases q;exact Ts PySem.W.kitx_int I.lW KY e (λz=>nomatch z) h
 |str y=>obtain⟨t,q⟩:=(show∃t,u=Value.str y t from d);cases q;exact Ts PySem.W.kitx_str I.lW KY e (λz=>nomatch z) h
 |LY y=>obtain⟨t,q⟩:=(show∃t,u=Value.float y t from d);cases q;exact Ts PySem.W.kitx_float I.lW KY e (λz=>nomatch z) h
 |@lst a k f=>
  cases(show u=Value.ref a from d);obtain⟨_,_,n,_,g⟩:=(show cE X.prog X.w H s.heap a (.lst k)from I.hok a _ f);exact Ts PySem.W.kitx_list I.lW ⟨_,g,rfl⟩ e (λz=>nomatch z) h
 |@vj a D k f=>
  cases(show u=Value.ref a from d);obtain⟨_,_,_,n,_,g⟩:=(show cE X.prog X.w H s.heap a (.vj D (.lst k))from I.hok a _ f);exact Ts PySem.W.kitx_list I.lW ⟨_,g,rfl⟩ e (λz=>nomatch z) h
 |@tup a k f=>
  cases(show u=Value.ref a from d);obtain⟨_,_,_,p⟩:=(show cE X.prog X.w H s.heap a (.tup k)from I.hok a _ f);obtain⟨o,g,l,_⟩:=p;exact Ts PySem.W.kitx_tuple I.lW ⟨o,g,l⟩ e (λz=>nomatch z) h
 |@dK a j f=>
  cases(show u=Value.ref a from d);obtain⟨_,_,P,_,p⟩:=(show cE X.prog X.w H s.heap a (.dK j)from I.hok a _ f);obtain⟨o,M,N,g,l,_⟩:=p;exact Ts PySem.W.kitx_dict I.lW ⟨o,g,l.1⟩ e (λz=>nomatch z) h
 |@dT a j f=>
  cases(show u=Value.ref a from d);obtain⟨_,_,k,_,o,M,N,g,l,_⟩:=(show cE X.prog X.w H s.heap a (.dT j)from I.hok a _ f);exact Ts PySem.W.kitx_dict I.lW ⟨o,g,l.1⟩ e (λz=>nomatch z) h
 |@ins a C U T f r L F m G=>
  cases(show u=Value.ref a from d);obtain⟨S,O,_⟩:=nY I.hok f;obtain⟨R,J,_⟩:=O.look;exact Ts (PySem.W.kitx_own (r.get _) r.hd L F m G) I.lW J e (λz=>nomatch z) h
end
structure cU(k:Nat)(A:Around):Prop where
 hd:A.handled=none
 dp:A.depth+3*k+120<recursionLimit
 un:A.units+16*k+200<cLine
theorem cU.mono{j k:Nat}{A:Around}(r:cU k A)(h:j<=k):cU j A:=⟨r.hd,by have:=r.dp;lia,by have:=r.un;lia⟩
theorem cU.deeper{k:Nat}{A:Around}(r:cU (k+1) A)(env:Env):cU k (A.deeper env):=
 ⟨r.hd,by have:=r.dp;show A.depth+1+3*k+120<_;lia,by have:=r.un;show A.units+3+16*k+200<_;lia⟩
theorem xP{A:Around}{C:Addr}{us:List Value}{a:List (Str×Value)}:(A.under (.builtin "type.__call__" ⟨.ref C::us,a⟩)).depth=A.depth+1:=by first|rfl|simp[Around.under,Code.weight,Code.isCreation,Code.isGuard,Code.isCaller,Code.frames,Code.isFrame,guardIds]
theorem xQ{A:Around}{C:Addr}{us:List Value}{a:List (Str×Value)}:(A.under (.builtin "type.__call__" ⟨.ref C::us,a⟩)).units=A.units+1:=by first|rfl|simp[Around.under,Code.cUnits,Code.frames,Code.isFrame]
theorem cU.make{k:Nat}{A:Around}(r:cU (k+1) A)(C:Addr)(us:List Value)(a:List (Str×Value)):cU k (A.under (.builtin "type.__call__" ⟨.ref C::us,a⟩)):=
 ⟨r.hd,by have:=r.dp;rw[xP];lia,by have:=r.un;rw[xQ];lia⟩
theorem cU.depth{k:Nat}{A:Around}(r:cU k A):A.depth<recursionLimit:=by have:=r.dp;lia
theorem cU.units{k:Nat}{A:Around}(r:cU k A):A.units+64<cLine:=by have:=r.un;lia
noncomputable def RT:TA:=λ_ H Q=>Q [] H
noncomputable def K4(ta:TE)(c:TA):TA:=λa H Q=>ta a H λx e=>c a e λb d=>Q (x::b) d
section
variable{X:Cx}{e:Expr}{es:List Expr}{te:TE}{t:TA}{pos:Pos}
theorem dJ:PA X [] RT:=λ_ _ _ _ H Q I h=>Calls.spliced_nil ⟨[],H,I,.nil,h⟩
theorem bG(m:PE X e te)(l:PA X es t)(k:starEach (e::es) X.env=(false,eval e X.env)::starEach es X.env:=by rfl):PA X (e::es) (K4 te t):=by intro pos a s b H Q I h;rw[k];show wpAny _ _ (spliced ((false,eval e X.env)::backTo pos (starEach es X.env))) _ _ s;refine Calls.spliced_cons (bV (m a s b H _ I h) λu d ⟨x,p,I1,g,j⟩=>?_);exact bV (l pos a d b p _ I1 j) λq r ⟨c,o,n,f,i⟩=>⟨x::c,o,n,.cons g f,i⟩
noncomputable def V5(t:TA):TE:=λc H Q=>t c H λa b=>a.length<=sizeLine/\∀p,b p=none->Q (.ref p) (upd b p (.tup a))
noncomputable def RU(t:TA):TE:=λc H Q=>t c H λa b=>a.length<=sizeLine/\∀p,b p=none->Q (.ref p) (upd b p (.lst a))
theorem C9{i}(h:PA X es t):PE X (.Tuple es i pos) (V5 t):=by intro a s f H Q I k;refine wpAny_Tuple_spliced (bV (h pos a s f H _ I k) λj c ⟨g,d,I1,r,z,q⟩=>⟨by rw[<-r.length];exact z,?_⟩);have l:d c.heap.objs.size=none:=I1.hok.fresh (D2 _);refine⟨.ref c.heap.objs.size,upd d c.heap.objs.size (.tup g),I1.laid (t':=c.toks) (λb u e=>Da _ e) (D2 _) ?_,rfl,q _ l⟩;exact⟨z,j,r,⟨_,Iy _ rfl,rfl,_,rfl⟩⟩
theorem sY(h:PA X es t):PE X (.List es pos) (RU t):=by intro a s f H Q I j;refine wpAny_List_spliced (bV (h pos a s f H _ I j) λi c ⟨g,d,I1,r,z,q⟩=>⟨by rw[<-r.length];exact z,?_⟩);have k:d c.heap.objs.size=none:=I1.hok.fresh (D2 _);refine⟨.ref c.heap.objs.size,upd d c.heap.objs.size (.lst g),I1.laid (t':=c.toks) (λb u e=>Da _ e) (D2 _) ?_,rfl,q _ k⟩;exact⟨z,i,0,r,Iy _ rfl⟩
end
abbrev Sp:=List V->Hp->VK->XK->Prop
abbrev By:=List Env->Hp->Shared->XK->Value->Shared->Prop
structure xR(P:Program)(w:World)(K:Frag)(mg:Str->Option Value)(base:Heap)(A:Around)(outer:List Env)(s:Shared)(H:Hp):Prop where
 frames:A.frames=some outer
 mod:Mod K mg base
 bs:∀b o,base.get? b=some o->s.heap.get? b=some o/\H b=none
 GK:base.objs.size<=s.heap.objs.size
 nR:s.heap.FunFrames base outer
 L4:∀b∈frs outer,H b=none
 hok:ku P w H s.heap
 bare:AllBare s.gens
 tree:P.given.tree=none
noncomputable def CE(a:List Env)(P:Program)(w:World)(H:Hp)(s:Shared)(Q:VK)(u:Value)(s':Shared):Prop:=
 ∃v b,s'.os=s.os/\AllBare s'.gens/\Un (frs a) [] H b s.heap s'.heap/\ku P w b s'.heap/\RelV v u/\Q v b
noncomputable def CR(CX:By)(a:List Env)(P:Program)(w:World)(H:Hp)(s:Shared)(Q:VK)(E:XK)(r:Result)(s':Shared):Prop:=
 match r with
 |.ok (.ret u)=>CE a P w H s Q u s'
 |.ok _=>False
 |.error e=>CX a H s E e s'
structure b9(P:Program)(w:World)(K:Frag)(mg:Str->Option Value)(base:Heap)(CX:By)(k:Nat)(f:Addr)(fd:FuncData)(ps:List Str)(sp:Sp):Prop where
 len:∀vs H Q E,sp vs H Q E->vs.length=ps.length
 run:∀(A:Around)(outer:List Env)(s:Shared)(H:Hp)(args:Args)(us:List Value)(vs:List V)(Q:VK)(E:XK),cU k A->xR P w K mg base A outer s H->BindsTo s fd args (ps.zip us)->Vals vs us->sp vs H Q E->
  codeAny (model P w) A (.call (.ref f) args) (CR CX outer P w H s Q E) s
theorem b9.imp{P:Program}{w:World}{K:Frag}{c:Str->Option Value}{base:Heap}{CX:By}{k:Nat}{f:Addr}{d:FuncData}{ps:List Str}{sp e:Sp}(F:b9 P w K c base CX k f d ps sp)
 (h:∀vs H Q E,e vs H Q E->sp vs H Q E):b9 P w K c base CX k f d ps e:=
 ⟨λvs H Q E q=>F.len vs H Q E (h _ _ _ _ q),λA a s H b g vs Q E l m n i j=>F.run A a s H b g vs Q E l m n i (h _ _ _ _ j)⟩
theorem xR.make{P:Program}{w:World}{K:Frag}{b:Str->Option Value}{base:Heap}{A:Around}{a:List Env}{s:Shared}{H:Hp}(e:xR P w K b base A a s H)(C:Addr)(us:List Value)(c:List (Str×Value)):
 xR P w K b base (A.under (.builtin "type.__call__" ⟨.ref C::us,c⟩)) a s H:=⟨by first|exact e.frames|(simpa[Around.under,Code.envs,Code.isFrame,pushEnvs]using e.frames),e.mod,e.bs,e.GK,e.nR,e.L4,e.hok,e.bare,e.tree⟩
section
variable{X:Cx}{pins:List (Addr×Obj)}{σ:St}{H:Hp}{s s':Shared}
theorem Inv.RV(I:Inv X pins σ H s):xR X.prog X.w X.K X.mg X.base X.A X.stack s H:=
 ⟨I.ok.frames,I.ok.mod,I.bs,Bz I.ok.GK I.sz,I.stack,I.kF,I.hok,I.bare,I.ok.tree⟩
theorem Inv.after{Q:VK}{u:Value}(I:Inv X pins σ H s)(h:CE X.stack X.prog X.w H s Q u s'):EP X pins σ Q u s':=by obtain⟨v,j,os,a,f,e,r,q⟩:=h;obtain⟨i,g,d,t,c⟩:=s';obtain rfl:c=s.os:=os;exact⟨v,j,I.call (h':=i) (g':=g) (d':=d) (t':=t) (ch:=[]) f e a (λb z=>absurd z (by simp)),r,q⟩
end
noncomputable def Binds(K:Frag)(b:FuncData)(ps:List Str)(ds:List Value):Prop:=
 ∀(s:Shared)(a:List Value),K.In s.heap->(a++ds).length=ps.length->BindsTo s b ⟨a,[]⟩ (ps.zip (a++ds))
theorem Binds.all{K:Frag}{b:FuncData}{ps:List Str}(h:∀us:List Value,us.length=ps.length->bindArgs b ⟨us,[]⟩=pure (ps.zip us)):Binds K b ps []:=λs us _ a=>by rw[d4]at a⊢;exact .of_eq (h us a)
noncomputable def Passes(CX:By)(X:Cx)(E:XK):Prop:=∀(a:List (Addr×Obj))(c:St)(H:Hp)(s:Shared)(e:Value)(b:Shared),Inv X a c H s->CX X.stack H s E e b->X.xe e b
section
variable{X:Cx}{CX:By}{k:Nat}{f C:Addr}{fd:FuncData}{ps:List Str}{sp:Sp}{Dc:List V}{ds:List Value}{E:XK}{x m:Str}{p pos apos:Pos}{e o:Expr}{es:List Expr}{ta:TE}{t:TA}
theorem xS{a:List (Addr×Obj)}{c:St}{H:Hp}{s:Shared}{Q:VK}{us:List Value}{vs:List V}(F:b9 X.prog X.w X.K X.mg X.base CX k f fd ps sp)(j:cU k X.A)(q:Binds X.K fd ps ds)(n:Vals Dc ds)(i:Passes CX X E)
 (I:Inv X a c H s)(r:Vals vs us)(h:sp (vs++Dc) H Q E):wpAny (model X.prog X.w) X.A (call (.ref f) us) (EP X a c Q) X.xe s:=by
 have d:Vals (vs++Dc) (us++ds):=r.append n;have l:(us++ds).length=ps.length:=by rw[<-d.length];exact F.len _ _ _ _ h
 refine wpAny_call (codeAny_mono (F.run X.A X.stack s H ⟨us,[]⟩ (us++ds) (vs++Dc) Q E j I.RV (q s us I.lW l) d h) λr g b=>?_);cases r with
 |error e=>exact i a c H s e g I b
 |ok fl=>
  cases fl with
  |ret u=>exact I.after b
  |next=>exact G2 b
  |brk=>exact G2 b
  |cont=>exact G2 b
structure Mk(K:Frag)(C f:Addr):Prop where
 makes:makesIn K C=true
 init:findIn K (.ref C) "__init__"=some (some (.ref f))
 fn:isFn K (.ref f)=true
 kp:keepIn K (.ref C)=true
theorem Dd{a:List (Addr×Obj)}{g:St}{H:Hp}{s:Shared}{Q:VK}{us:List Value}{vs:List V}(M:Mk X.K C f)(F:b9 X.prog X.w X.K X.mg X.base CX k f fd ps sp)(y:cU (k+1) X.A)(D:Binds X.K fd ps ds)(B:Vals Dc ds)
 (q:Passes CX X E)(I:Inv X a g H s)(r:Vals vs us)
 (h:∀x c,H x=none->H c=none->c≠x->sp (.ref x::(vs++Dc)) (upd (upd H c (.own x)) x (.ins C c [])) (λv J=>v=.aV/\Q (.ref x) J) E):
 wpAny (model X.prog X.w) X.A (call (.ref C) us) (EP X a g Q) X.xe s:=by
 have j:=h (s.heap.objs.size+1) s.heap.objs.size (I.hok.fresh (wb _)) (I.hok.fresh (D2 _)) (On (PH _));have d:=Inv.made (C:=C) I;have i:Vals (V.ref (s.heap.objs.size+1)::(vs++Dc)) (Value.ref (s.heap.objs.size+1)::(us++ds)):=.cons rfl (r.append B);have z:(Value.ref (s.heap.objs.size+1)::us++ds).length=ps.length:=by have e:=i.length;rw[F.len _ _ _ _ j]at e;exact e.symm
 refine wpAny_call (C8 (f:=f) I.lW M.makes M.init (P3.mp M.fn) (codeAny_mono (F.run _ X.stack _ _ ⟨Value.ref (s.heap.objs.size+1)::us,[]⟩ (Value.ref (s.heap.objs.size+1)::(us++ds)) _ _ E (y.make C us [])
  (d.RV.make C us []) (D _ (Value.ref (s.heap.objs.size+1)::us) d.lW z) i j) λr l b=>?_))
 cases r with
 |error e=>exact q a g _ _ e l d b
 |ok fl=>
  cases fl with
  |ret u=>obtain⟨v,L,G,rv,ev,n⟩:=d.after b;subst ev;exact⟨rv,⟨V.ref (s.heap.objs.size+1),L,G,rfl,n⟩⟩
  |next=>exact G2 b
  |brk=>exact G2 b
  |cont=>exact G2 b
end
section
variable{X:Cx}{CX:By}{k:Nat}{f C:Addr}{fd:FuncData}{ps ks:List Str}{sp:Sp}{E:XK}{x m:Str}{p pos apos kpos:Pos}{e o:Expr}{es:List Expr}{kws:List Keyword}{te ta:TE}{t tk:TA}{nm:Option Str}
variable{g:List Value->List Value->List Value}{gV:List V->List V->List V}
end
structure cS(N P:List Str)(sc:Scope):Prop where
 kind:sc.kind=.function
 co:sc.isCoroutine=false
 gen:sc.isGenerator=false
 nd:N.Nodup
 pre:N.take P.length=P
 par:∀x∈P,sc.names.lookup x=some .local\/sc.names.lookup x=some .cell
 MD:∀y∈sc.names,y.2≠.free
theorem rP{b:Str->Option NameKind}{x:Str}:∀{a:List (Str×Value)}{m:Str->Option Value},(∀v,(x,v)∉a)->bindL b a m x=m x
 |[],_,_=>rfl
 |(n,v)::r,m,h=>by
  unfold bindL;rw[rP λw c=>h w (Ee _ c)];split
  .have:x≠n:=by rintro rfl;exact h v FR
   simp[this]
  .rfl
theorem rQ{b:Str->Option NameKind}{x:Str}:∀{a:List (Str×Value)}{m:Str->Option Value},(∀v,(x,v)∉a)->bindC b a m x=m x
 |[],_,_=>rfl
 |(n,v)::r,m,h=>by
  unfold bindC;rw[rQ λw c=>h w (Ee _ c)];split
  .rfl
  .have:x≠n:=by rintro rfl;exact h v FR
   simp[this]
theorem rR{a:Str->Option NameKind}{x:Str}{v:Value}:∀{P:List Str}{vs:List Value}{i:Nat}{m:Str->Option Value},P.Nodup->P[i]?=some x->vs[i]?=some v->a x=some .local->
 bindL a (P.zip vs) m x=some v
 |[],_,_,_,_,h,_,_=>by simp at h
 |_::_,[],_,_,_,_,h,_=>by simp at h
 |p::P,w::vs,0,m,d,c,b,e=>by simp at c b;subst c;subst b;show bindL a ((p,w)::P.zip vs) m p=_;unfold bindL;rw[rP λv f=>(X9.mp d).1 (Tp f).1,Bi e];simp
 |p::P,w::vs,i+1,m,d,c,b,e=>by show bindL a ((p,w)::P.zip vs) m x=_;unfold bindL;exact rR (i:=i) (X9.mp d).2 (by simpa using c) (by simpa using b) e
theorem rS{a:Str->Option NameKind}{x:Str}{v:Value}:∀{P:List Str}{vs:List Value}{i:Nat}{m:Str->Option Value},P.Nodup->P[i]?=some x->vs[i]?=some v->a x≠some .local->
 bindC a (P.zip vs) m x=some v
 |[],_,_,_,_,h,_,_=>by simp at h
 |_::_,[],_,_,_,_,h,_=>by simp at h
 |p::P,w::vs,0,m,d,c,b,e=>by simp at c b;subst c;subst b;show bindC a ((p,w)::P.zip vs) m p=_;unfold bindC;rw[rQ λv f=>(X9.mp d).1 (Tp f).1,BM e];simp
 |p::P,w::vs,i+1,m,d,c,b,e=>by show bindC a ((p,w)::P.zip vs) m x=_;unfold bindC;exact rS (i:=i) (X9.mp d).2 (by simpa using c) (by simpa using b) e
noncomputable def start(N:List Str)(vs:List V):St:=vs.map some++A2 (N.length -vs.length) none
noncomputable def BA(CX:By)(P:Program)(w:World)(K:Frag)(mg:Str->Option Value)(base:Heap)(N:List Str)(b:Str)(a:Scope)(f:Addr)(d:Value)(A:Around)(outer:List Env)(s:Shared)(H:Hp)(E:XK):Cx where
 prog:=P
 w:=w
 K:=K
 mg:=mg
 base:=base
 A:=A.deeper (envOfC b a s.heap.objs.size f d)
 N:=N
 s₀:=s
 H₀:=H
 env:=envOfC b a s.heap.objs.size f d
 outer:=outer
 stack:=envOfC b a s.heap.objs.size f d::outer
 ex:=[]
 calm:=true
 fn:=λ_=>true
 pn:=[]
 xe:=λe g=>wpAny (model P w) (A.deeper (envOfC b a s.heap.objs.size f d)) (leaving (envOfC b a s.heap.objs.size f d) e) (λ_ c=>CX outer H s E e c) (λh c=>CX outer H s E h c) g
theorem vB{sc:Scope}{n:Nat}{x:Str}(h:sc.names.lookup x=some .cell):∃c,(cellsFrom n sc.names []).lookup x=some c:=by have q:=PySem.W.cellsFrom_some sc.names n [] (.inl h);exact ag.mp q
theorem BB{CX:By}{P:Program}{w:World}{K:Frag}{G:Str->Option Value}{base:Heap}{N ps:List Str}{l:Str}{d:Scope}{f:Addr}{F:Value}{A:Around}{g:List Env}{s J:Shared}{H:Hp}{E:XK}{us:List Value}{vs:List V}
 (S:cS N ps d)(T:A.handled=none)(R:A.depth+110<recursionLimit)(j:xR P w K G base A g s H)(hl:vs.length=ps.length)(r:Vals vs us)
 (x:InCallC s s.heap.objs.size (bindL (envOfC l d s.heap.objs.size f F).kindOf (ps.zip us) λ_=>none) (cellsFrom (s.heap.objs.size+1) d.names []) (bindC (envOfC l d s.heap.objs.size f F).kindOf (ps.zip us) λ_=>none) J):
 Inv (BA CX P w K G base N l d f F A g s H E) [] (start N vs) H J:=by
 have O:ps.length<=N.length:=by have:=Pt List.length S.pre;rw[eP]at this;lia
 obtain⟨D,Y,rfl,B⟩:=x.done;have I:∀b:Addr,b∉(BA CX P w K G base N l d f F A g s H E).ex:=λb z=>absurd (show b∈([]:List Addr)from z) (by simp);refine⟨⟨j.mod,S.kind,rfl,rfl,D2 _,λy z c D m=>?_,λy o=>?_,λy c _ h=>?_,λ_=>T,Around.frames_deeper j.frames,.inr ⟨rfl,rfl⟩,λb z=>absurd z (I b),j.bs,j.GK,λb _ _=>I b,λb z=>absurd z (I b),j.nR,j.L4,j.tree,λA' Z Q X B=>PylongRoom.of (j.mod.nolimit.keeps B) (by rw[X];show A.depth+1+100<_;lia) (SeerAt.of (j.mod.seer.keeps B) j.tree (Q.trans (Around.frames_deeper j.frames)) S.gen S.co rfl rfl)⟩,
  rfl,j.bare,Un.kept B,⟨_,x.toInCall.ns,λi y v D m h3=>?_⟩,λy c h=>⟨_,x.cell y c h⟩,j.hok.fresh (D2 _),λy c h=>?_,λp t=>absurd (show p∈([]:List (Addr×Obj))from t) (by simp),j.hok.kept B,?_⟩
 .exact name_of_addr x.apart (SF D) (SF m)
 .have o:d.names.lookup y=some .cell\/d.names.lookup y=some .free:=o;rcases o with o|o
  .exact vB o
  .exact absurd rfl (S.MD _ (SF o))
 .exact Q1 (x.above y c (SF h))
 .have C:i<vs.length:=by
   unfold start at m;by_cases C:i<vs.length
   .exact C
   .rw[Gc (by simpa using C)]at m;rw[eQ]at m;split at m<;>cases m
  have U:vs[i]?=some v:=by
   unfold start at m;rw[KF (by simpa using C),DL]at m;cases e:vs[i]? with
   |none=>rw[e]at m;cases m
   |some a=>rw[e]at m;cases m;rfl
  obtain⟨u,L,rv⟩:=r.get U;have t:ps[i]?=some y:=by rw[<-S.pre,kb (by lia)];exact D
  have M:ps.Nodup:=by rw[<-S.pre];exact S.nd.sublist (List.take_sublist _ _)
  refine⟨u,rv,?_⟩;rcases S.par y (Qb t)with k|k
  .exact .inl ⟨k,rR M t L k⟩
  .obtain⟨c,e⟩:=vB (n:=s.heap.objs.size+1) k;refine .inr ⟨.inl k,c,e,?_⟩;have q:=x.cell y c e;rw[rS M t L (by show d.names.lookup y≠_;rw[k];decide)]at q;exact q
 .exact j.hok.fresh (Q1 (x.above y c (SF h)))
 .unfold start;show _=N.length;rw[FS,Ap,h9];lia
theorem RX{CX:By}{P:Program}{w:World}{K:Frag}{G:Str->Option Value}{base:Heap}{k:Nat}{f:Addr}{l d:Str}{h:Arguments}{i:List Stmt}{a:Scope}{Z kV F Y g ct oc:Value}{an od:Option Addr}
 {O:Array (Option Value)}{N ps:List Str}{sp:Sp}(lk:K.lookup f=some ⟨oc,od,.func (fnOf l d h i a Z kV F Y an g ct),O⟩)(T:codeIn K g d=true)(S:cS N ps a)
 (B:∀vs H Q E,sp vs H Q E->vs.length=ps.length)
 (p:∀(A:Around)(c:List Env)(s:Shared)(H:Hp)(vs:List V)(Q:VK)(E:XK),cU k (A.deeper (envOfC d a s.heap.objs.size f g))->sp vs H Q E->
   ∃t,vn (BA CX P w K G base N d a f g A c s H E) i t/\t {nx:=λ_ H'=>Q .aV H',rt:=Q} (start N vs) H):
 b9 P w K G base CX (k+1) f (fnOf l d h i a Z kV F Y an g ct) ps sp:=by
 refine⟨B,λA c s H args us vs Q E L D hb r X=>?_⟩;have hl:=B _ _ _ _ X;have KX:K.In s.heap:=D.mod.L3.keeps λb o e=>(D.bs b o e).1;have R:s.heap.NoLimit:=D.mod.nolimit.keeps λb o e=>(D.bs b o e).1;have m:∀y∈ps.zip us,a.names.lookup y.1=some .local\/(a.names.lookup y.1=some .cell/\((cellsFrom (s.heap.objs.size+1) a.names []).lookup y.1).isSome=true):=λ⟨n,v⟩ hy=>by
  rcases S.par n (Tp hy).1 with q|q
  .exact .inl q
  .exact .inr ⟨q,PySem.W.cellsFrom_some _ _ _ (.inl q)⟩
 refine codeAny_call_function L.depth (KX _ _ lk) rfl S.co S.gen rfl (PySem.W.codeRec_of KX T) (hb _ _ _ _ ?_);refine wpAny_newFunctionEnv_cells S.kind m λenv he U x=>?_;subst he;refine⟨R.keeps x.toInCall.keep,codeAny_func ?_⟩;obtain⟨t,ht,hq⟩:=p A c s H vs Q E (L.deeper _) X;have I:Inv (BA CX P w K G base N d a f g A c s H E) [] (start N vs) H U:=BB S L.hd (by have:=L.dp;lia) D hl r x;refine kA (ht [] U (start N vs) H _ I hq) (λfl M z=>?_) λe M z=>z;have C:∀{j:St}{H':Hp}{v:V}{u:Value},Inv (BA CX P w K G base N d a f g A c s H E) [] j H' M->RelV v u->Q v H'->CE c P w H s Q u M:=
  λ{j H' v u} J rv q=>⟨v,H',J.os,J.bare,J.base,J.hok,rv,q⟩
 cases fl with
 |ret u=>obtain⟨v,j,H',J,rv,q⟩:=z;exact C J rv q
 |next=>obtain⟨j,H',J,q⟩:=z;exact C (v:=V.aV) (u:=Value.none) J rfl q
 |brk=>obtain⟨_,_,_,q⟩:=z;exact G2 q
 |cont=>obtain⟨_,_,_,q⟩:=z;exact G2 q
section
variable{X:Cx}{x:Str}{p pos:Pos}{e:Expr}{es:List Expr}{t:TA}{id T:String}{r:List V->Hp->VK->Prop}
noncomputable def XU(r:List V->Hp->VK->Prop)(t:TA):TE:=λa H Q=>t a H λb c=>r b c Q
theorem oN(u:cL X (.builtin id) r)(o:Gl X x)(n:X.mg x=none)(l:bootBuiltins x=some (.builtin id))(v:PA X (e::es) t)(m:x≠"__name__":=by decide)(c:(x==("__debug__":Str))=false:=by decide)
 (q:starEach (e::es) X.env=(false,eval e X.env)::starEach es X.env:=by rfl)(b:(backTo pos (starEach es X.env)).any (·.1)=false:=by rfl):PE X (.Call (.Name x p) (e::es) [] pos) (XU r t):=by
 intro a s d H Q I h;refine dt (gq I o n l ?_ m c);exact bF (bV (v pos a s d H _ I h) λg i ⟨f,w,I1,j,k⟩=>u a i d w f g Q I1 j k) q b
theorem rT(u:cL X (.type T) r)(o:Gl X x)(n:X.mg x=none)(l:bootBuiltins x=some (.type T))(v:PA X (e::es) t)(m:x≠"__name__":=by decide)(c:(x==("__debug__":Str))=false:=by decide)
 (q:starEach (e::es) X.env=(false,eval e X.env)::starEach es X.env:=by rfl)(b:(backTo pos (starEach es X.env)).any (·.1)=false:=by rfl):PE X (.Call (.Name x p) (e::es) [] pos) (XU r t):=by
 intro a s d H Q I h;refine dt (gq I o n l ?_ m c);exact SB (bV (v pos a s d H _ I h) λg i ⟨f,w,I1,j,k⟩=>u a i d w f g Q I1 j k) q b
end
end L2
namespace HT
open PySem PyProof.Rows
section
open PySem.SeqAt
open PySem.AutoSeq1 (wpAny_loadPart')
open PySem.MeetsSeq PySem.MeetsSeq2 PySem.MeetsSeq3
end
section
variable{prog:Program}{w:World}{A:Around}{E:Value->Shared->Prop}{s:Shared}
theorem G0{t b:Addr}{vs a:List Value}{Q:Value->Shared->Prop}(v:IsTup s.heap t vs.toArray)(x:IsTup s.heap b a.toArray)(p:vs≠[])
 (z:a=[]->Q (.ref t) s)(y:a≠[]->Q (.ref s.heap.objs.size) {s with heap:=s.heap.push {cls:=.type "tuple",data:=.seq (vs++a).toArray}})
 (k:vs.length+a.length<=sizeLine):wpAny (model prog w) A (binaryOp .Add (.ref t) (.ref b)) Q E s:=by
 obtain⟨⟨cls,u,data,m⟩,j,r,n,q⟩:=id v;obtain⟨⟨B,h,l,d⟩,c,g,o,f⟩:=id x;simp only at r q g f;subst r q g f;have e:vs.toArray++a.toArray=(vs++a).toArray:=by simp
 by_cases i:a=[]
 .exact concat_meets ⟨_,j,rfl⟩ ⟨_,c,rfl⟩ noFill_tuple_add seq_tuple_add PySem.F.slot_tuple_add PySem.F.entry_tuple_add (PySem.F.args_tuple_add_2 _ _)
   (tuple_addW1 t b vs.toArray a.toArray n o u h m d (by simpa using p) (by simp[i])) ⟨j,c,z i⟩
 .refine concat_meets ⟨_,j,rfl⟩ ⟨_,c,rfl⟩ noFill_tuple_add seq_tuple_add PySem.F.slot_tuple_add PySem.F.entry_tuple_add (PySem.F.args_tuple_add_2 _ _)
   (tuple_addW2 t b vs.toArray a.toArray n o u h m d (by simpa using p) (by simpa using i) (by rw[Fs,Fs];exact k)) ⟨j,c,?_⟩
  rw[e];exact y i
noncomputable def rV(n d:Nat):Option Int->Nat
 |none=>d
 |some v=>if v<0 then(v+(n:Int)).toNat else min v.toNat n
theorem vC(n d:Nat):rV n d none=d:=rfl
theorem zp(n d k:Nat):rV n d (some (k:Int))=min k n:=by show(if(k:Int)<0 then((k:Int)+(n:Int)).toNat else min (k:Int).toNat n)=min k n;rw[BM (by lia),CB]
end
end HT
namespace L2
open PySem PySem.Spec PyProof.Rows
abbrev TO:=St->Hp->(Option Int->Hp->Prop)->Prop
noncomputable def PO(X:Cx)(e:Option Expr)(t:TO):Prop:=
 ∀(a:List (Addr×Obj))(s:Shared)(b:St)(H:Hp)(Q:Option Int->Hp->Prop),Inv X a b H s->t b H Q->
  wpAny (model X.prog X.w) X.A (evalPart e X.env) (λu d=>∃o c,Inv X a b c d/\IsPart u o/\Q o c) X.xe s
noncomputable def G3:TO:=λ_ H Q=>Q none H
noncomputable def RY(t:TE):TO:=λa H Q=>t a H λx b=>∃i,x=.int i/\Q (some i) b
theorem intsAre_of{ns:List Int}:∀{us:List Value},Vals (ns.map V.int) us->IntsAre us ns:=by
 induction ns with
 |nil=>intro us r;rw[oe]at r;cases r;exact .nil
 |cons n ns c=>
  intro us r;rw[L9]at r;cases r with
  |cons b a=>obtain⟨t,e⟩:=b;subst e;exact .cons n t (c a)
section
variable{X:Cx}{e:Expr}{te:TE}{lo hi:Option Expr}{tl th:TO}{pos p2:Pos}
theorem G4:PO X none G3:=by intro a s b H Q I h;rw[evalPart_none];exact Pm ⟨none,H,I,.none,h⟩
theorem zu(h:PE X e te):PO X (some e) (RY te):=by intro a s b H Q I f;rw[evalPart_some];refine bV (h a s b H _ I f) λu j ⟨x,g,I1,c,d⟩=>?_;obtain⟨i,rfl,q⟩:=d;obtain⟨t,rfl⟩:=c;exact⟨some i,g,I1,.int i t,q⟩
noncomputable def XW(X:Cx)(r:V->Option Int->Option Int->Hp->VK->Prop):Prop:=
 ∀(a:List (Addr×Obj))(s:Shared)(b:St)(H:Hp)(x:V)(v d c:Value)(lo hi:Option Int)(f:Addr)(Q:VK),Inv X a b H s->RelV x v->s.heap.IsSliceOf f d c .none->IsPart d lo->IsPart c hi->r x lo hi H Q->
  ∃T g,typeLookup (.type T) "__getitem__"=pure (some (.builtin g))/\s.TypeIs v T/\wpAny (model X.prog X.w) X.A (getItem v (.ref f)) (EP X a b Q) X.xe s
noncomputable def Zv(r:V->Option Int->Option Int->Hp->VK->Prop)(te:TE)(tl th:TO):TE:=λa H Q=>te a H λx d=>tl a d λl c=>th a c λu b=>r x l u b Q
theorem De{r:V->Option Int->Option Int->Hp->VK->Prop}(C:XW X r)(F:PE X e te)(D:PO X lo tl)(z:PO X hi th):PE X (.Subscript e (.Slice lo hi none p2) pos) (Zv r te tl th):=by intro a s d H Q I h;refine Subscript_ (bV (F a s d H _ I h) λv k ⟨x,N,I1,m,p⟩=>?_);refine wpAny_Slice (bV (D a k d N _ I1 p) λg j ⟨l,M,L,y,o⟩=>bV (z a j d M _ L o) λf c ⟨u,i,K,t,n⟩=>?_);rw[evalPart_none];refine Pm ?_;have J:Inv X a d i {c with heap:=c.heap.push {cls:=.type "slice",data:=.fields #[g,f,.none]}}:=K.kept (t':=c.toks) λb O q=>Da _ q;obtain⟨T,P,G,B,E⟩:=C a {c with heap:=c.heap.push {cls:=.type "slice",data:=.fields #[g,f,.none]}} d i x v g f l u c.heap.objs.size Q J m (Heap.IsSliceOf.new ..) y t n;show wpAny (model X.prog X.w) X.A (subscriptTail e (.Slice lo hi none p2) v (.ref c.heap.objs.size)) (EP X a d Q) X.xe {c with heap:=c.heap.push {cls:=.type "slice",data:=.fields #[g,f,.none]}};exact tail_any (ops:=[.ref c.heap.objs.size,v]) B G E (by with_unfolding_all rfl)
noncomputable def BC(a:List V)(lo hi:Option Int):List V:=(a.drop (HT.rV a.length 0 lo)).take (HT.rV a.length a.length hi -HT.rV a.length 0 lo)
theorem vD(a:List V)(lo hi:Option Int):(BC a lo hi).length<=a.length:=by unfold BC;rw[eP,tJ];lia
noncomputable def RZ(K:Frag):R2:=λx y H Q=>∃a b d c,x=.ref a/\y=.ref b/\kC K H a d/\kC K H b c/\d≠[]/\d.length+c.length<=sizeLine/\
 (c=[]->Q (.ref a) H)/\(c≠[]->∀p,H p=none->Q (.ref p) (upd H p (.tup (d++c))))
theorem Vals.sZ{a:List V}{us:List Value}(r:Vals a us):us=[]↔a=[]:=by
 cases r with
 |nil=>simp
 |cons _ _=>simp
theorem G5:l6 X (binaryOp .Add) (RZ X.K):=by intro f s C H x y v u Q I l k h;obtain⟨a,b,j,i,rfl,rfl,B,A,t,hz,n,m⟩:=h;cases l;cases k;obtain⟨r,d,p,_⟩:=I.tuple B;obtain⟨g,c,p2,_⟩:=I.tuple A;refine HT.G0 p p2 (λz=>t (d.sZ.mp z)) (λz=>⟨.ref a,H,I,rfl,n (c.sZ.mp z)⟩) (λz=>?_) (by rw[<-d.length,<-c.length];exact hz);refine⟨.ref s.heap.objs.size,_,I.laid (t':=s.toks) (o:=.tup (j++i)) (λb D q=>Da _ q) (D2 _) ?_,rfl,m (λw=>z (c.sZ.mpr w)) _ (I.hok.fresh (D2 _))⟩;exact⟨by rw[FS];exact hz,_,d.append c,IsTup.new _ _⟩
end
noncomputable def vE(n:Nat)(i:Int):Option Nat:=if 0<=i then(if i<n then some i.toNat else none)else if-(n:Int)<=i then some (i+n).toNat else none
noncomputable def jt{α:Type}(a:List α)(i:Int):Option α:=(vE a.length i).bind λj=>a[j]?
theorem zv{n:Nat}{i:Int}{j:Nat}(h:vE n i=some j):seqIndex? i n=some j/\j<n/\-(n:Int)<=i/\i<n:=by
 unfold vE at h;by_cases b:0<=i
 .rw[Bi b]at h;by_cases a:i<n
  .rw[Bi a]at h;have e:i.toNat=j:=Kt h;exact⟨by rw[seqIndex_of b a,e],by lia,by lia,a⟩
  .rw[BM a]at h;cases h
 .rw[BM b]at h;by_cases a: -(n:Int)<=i
  .rw[Bi a]at h;have e:(i+n).toNat=j:=Kt h;exact⟨by rw[seqIndex_neg (by lia) a,e],by lia,a,by lia⟩
  .rw[BM a]at h;cases h
theorem tu{α:Type}{a:List α}{i:Int}{v:α}(h:jt a i=some v):∃j,seqIndex? i a.length=some j/\a[j]?=some v/\j<a.length/\-(a.length:Int)<=i/\i<a.length:=by
 unfold jt at h;cases e:vE a.length i with
 |none=>rw[e]at h;cases h
 |some j=>rw[e]at h;obtain⟨f,d,c,b⟩:=zv e;exact⟨j,f,h,d,c,b⟩
theorem bH{α:Type}{a:List α}{j:Nat}{v:α}(h:a[j]?=some v):jt a (j:Int)=some v:=by
 have b:j<a.length:=(Fu.mp h).1;have e:vE a.length (j:Int)=some j:=by unfold vE;rw[Bi (by lia),Bi (by lia)];simp
 unfold jt;rw[e];exact h
noncomputable def kI(b:Expr):Prop:=∀o i,subscripted b false o i=operate [o,i] (getItem o i)
noncomputable def G6(X:Cx)(r:R2):Prop:=
 ∀(c a:Expr)(b:List (Addr×Obj))(s:Shared)(d:St)(H:Hp)(x y:V)(v u:Value)(Q:VK),Inv X b d H s->RelV x v->RelV y u->r x y H Q->
  subscripted a false v u=operate [v,u] (getItem v u)->wpAny (model X.prog X.w) X.A (subscriptTail c a v u) (EP X b d Q) X.xe s
noncomputable def V7(X:Cx)(e:String)(r:V->List V->Hp->VK->Prop):Prop:=
 ∀(a:List (Addr×Obj))(s:Shared)(b:St)(H:Hp)(x:V)(c:List V)(v:Value)(d:List Value)(Q:VK),Inv X a b H s->RelV x v->Vals c d->r x c H Q->
  wpAny (model X.prog X.w) X.A (call (.builtin e) (v::d)) (EP X a b Q) X.xe s
section
variable{X:Cx}{a b:Expr}{ta tb:TE}{pos:Pos}
theorem G6.or{r j:R2}(h:G6 X r)(h':G6 X j):G6 X (λx y H Q=>r x y H Q\/j x y H Q):=by
 intro c d e s f H x y v u Q I i g q k;rcases q with q|q
 .exact h c d e s f H x y v u Q I i g q k
 .exact h' c d e s f H x y v u Q I i g q k
theorem Dg{r:R2}(j:G6 X r)(l:PE X a ta)(k:PE X b tb)(i:kI b):PE X (.Subscript a b pos) (Zm r ta tb):=by intro c s d H Q I h;exact Subscript_ (V1 l k I h λv u e x y n m g f q=>j a b c e d n x y v u Q m g f q (i _ _))
noncomputable def R3(K:Frag):R2:=λx y H Q=>∃p c i v,x=.ref p/\y=.int i/\ie K H p c/\jt c i=some v/\Q v H
noncomputable def R4(K:Frag):R2:=λx y H Q=>∃p c i v,x=.ref p/\y=.int i/\kC K H p c/\jt c i=some v/\Q v H
noncomputable def R5:R2:=λx y H Q=>∃z i c,x=.str z/\y=.int i/\z.length<=sizeLine/\jt z.cps.toList i=some c/\Q (.str ⟨#[c]⟩) H
theorem G7:G6 X (R3 X.K):=by
 intro f g c s o H x y v u Q I F E h A;obtain⟨p,P,i,z,rfl,rfl,G,L,q⟩:=h;cases F;obtain⟨t,rfl⟩:=E;obtain⟨m,r,l,hz⟩:=I.list G;obtain⟨j,e,O,S,N,M⟩:=tu L;obtain⟨w,C,k⟩:=r.get O;have J:=r.length;have R:=oK;have d:EP X c o Q w s:=⟨z,H,I,k,q⟩;by_cases B:0<=i
 .have n:i.toNat=j:=by rw[seqIndex_of B M]at e;exact Kt e
  exact item_listR l.isList B (by lia) (by rw[n];simpa using C) d A
 .have n:(i+(m.toArray.size:Int)).toNat=j:=by rw[seqIndex_neg (by lia) N]at e;rw[Fs,<-J];exact Kt e
  exact subscriptTail_builtinR (x:=w) l.isList.typeIs slot_list_getitem.lookup
   (wpAny_getItem_list_neg (Q:=λr D=>r=w/\EP X c o Q r D) l.isList (by lia) (by rw[Fs]<;>lia) (by lia) (by rw[n];simpa using C) ⟨rfl,d⟩) A
theorem ME:G6 X (R4 X.K):=by
 intro d e c s k H x y v u Q I o n h B;obtain⟨p,L,i,z,rfl,rfl,C,E,q⟩:=h;cases o;obtain⟨t,rfl⟩:=n;obtain⟨A,r,l,hz⟩:=I.tuple C;obtain⟨j,G,F,P,O,N⟩:=tu E;obtain⟨w,J,f⟩:=r.get F;have D:=r.length;have M:=oK;have g:EP X c k Q w s:=⟨z,H,I,f,q⟩;exact subscriptTail_builtinR (x:=w) l.typeIs slot_tuple_getitem.lookup
  (getItem_tuple (j:=j) (Q:=λr m=>r=w/\EP X c k Q r m) l (by lia) (by lia) (by rw[Fs,<-D];exact G) (by simpa using J) ⟨rfl,g⟩) B
theorem MF:G6 X R5:=by
 intro d e f s C H x y v u Q I l k h m;obtain⟨z,i,c,rfl,rfl,hz,o,q⟩:=h;obtain⟨t,rfl⟩:=l;obtain⟨D,rfl⟩:=k;obtain⟨j,g,w,F,r,p⟩:=tu o;have n:z.cps.toList.length=z.length:=by simp[Str.length]
 rw[n]at g r p;have E:=oK;exact tail_any (typeIs_str s z t) slot_str_getitem.lookup (getItem_str (c:=c) (by have B:decide (i< -(2^63:Int))=false:=Ki (by lia);have A:decide (i>=2^63)=false:=Ki (by lia);rw[B,A,bj]) (by rw[g];simpa using w) ⟨.str ⟨#[c]⟩,H,I.tok _,⟨_,rfl⟩,q⟩) m
noncomputable def Zw(K:Frag):R2:=λx y H Q=>R3 K x y H Q\/R4 K x y H Q\/R5 x y H Q
theorem xT:G6 X (Zw X.K):=G7.or (ME.or MF)
theorem xU(c:List Value)(n j:Nat)(u:Value):Obj.mapSeq (·.setIfInBounds j u) {cls:=.type "list",data:=.seq c.toArray n}={cls:=.type "list",data:=.seq (c.set j u).toArray n}:=by simp[Obj.mapSeq]
theorem Inv.lst{d:List (Addr×Obj)}{g:St}{H:Hp}{s:Shared}{p:Addr}{f:List V}(I:Inv X d g H s)(h:H p=some (.lst f)):
 ∃(c:List Value)(n:Nat),Vals f c/\s.heap.get? p=some {cls:=.type "list",data:=.seq c.toArray n}/\f.length<=sizeLine:=by
 obtain⟨z,c,n,r,e⟩:=I.hok p _ h;exact⟨c,n,r,e,z⟩
theorem Inv.MG{c:List (Addr×Obj)}{j:St}{H:Hp}{s:Shared}{p:Addr}{l g:List V}{d its':List Value}{n i:Nat}{f:Obj->Obj}(I:Inv X c j H s)(h:H p=some (.lst l))
 (m:s.heap.get? p=some {cls:=.type "list",data:=.seq d.toArray n})(k:f {cls:=.type "list",data:=.seq d.toArray n}={cls:=.type "list",data:=.seq its'.toArray i})(r:Vals g its')(hz:g.length<=sizeLine)(t:Nat):
 Inv X c j (upd H p (.lst g)) {s with heap:=s.heap.update p f,toks:=t}:=by
 have e:(s.heap.update p f).get? p=some {cls:=.type "list",data:=.seq its'.toArray i}:=by rw[Heap.get?_update_self f m (by rw[k]<;>rfl),k]
 refine I.write (x:=p) (e:=p) (by rw[h];trivial) (.inl rfl) (λb u o q=>(Heap.get?_update_other _ _ (SC o)).trans q) ⟨_,e⟩ ?_;exact⟨hz,its',i,r,e⟩
noncomputable def K5:V->V->V->Hp->(Hp->Prop)->Prop:=λo i v H Q=>∃p c k j,o=.ref p/\i=.int k/\H p=some (.lst c)/\vE c.length k=some j/\Q (upd H p (.lst (c.set j v)))
theorem set_list:Rx X K5:=by
 intro c s A H o i v F G u Q I C D rv h;obtain⟨p,B,k,j,rfl,rfl,m,E,q⟩:=h;cases C;obtain⟨t,rfl⟩:=D;obtain⟨d,n,r,f,hz⟩:=I.lst m;obtain⟨e,K,x,w⟩:=zv E;have g:=r.length;have J:=oK;have z:Inv X c A (upd H p (.lst (B.set j v))) {s with heap:=s.heap.update p (Obj.mapSeq (·.setIfInBounds j u))}:=
  I.MG m f (xU d n j u) (r.set rv j) (by rw[OK];exact hz) s.toks
 by_cases y:0<=k
 .have l:k.toNat=j:=by rw[seqIndex_of y w]at e;exact Kt e
  exact PySem.W.ki_setAt f y (by lia) (by rw[Fs,<-g];exact w) (by rw[l];exact⟨_,z,q⟩)
 .have l:(k+(d.toArray.size:Int)).toNat=j:=by rw[seqIndex_neg (by lia) x]at e;rw[Fs,<-g];exact Kt e
  exact PySem.W.ki_setBack f (by lia) (by rw[Fs,<-g];exact x) (by lia) (by rw[l];exact⟨_,z,q⟩)
theorem tw(lo hi:Option Int)(n:Nat):(sliceBounds lo hi none n).1=((HT.rV n 0 lo:Nat):Int)/\(sliceBounds lo hi none n).2.1=((HT.rV n n hi:Nat):Int)/\(sliceBounds lo hi none n).2.2=1:=by
 refine⟨?_,?_,rfl⟩
 .cases lo with
  |none=>simp[sliceBounds,HT.rV]
  |some i=>
   simp only[sliceBounds,HT.rV,Xs,show(1:Int)>0 by decide,if_true];by_cases h:i<0
   .simp only[h,if_true]<;>lia
   .simp only[h,if_false]<;>lia
 .cases hi with
  |none=>simp[sliceBounds,HT.rV]
  |some i=>
   simp only[sliceBounds,HT.rV,Xs,show(1:Int)>0 by decide,if_true];by_cases h:i<0
   .simp only[h,if_true]<;>lia
   .simp only[h,if_false]<;>lia
theorem qO(c:List Value)(lo hi:Option Int):slicePick c.toArray lo hi none=((c.drop (HT.rV c.length 0 lo)).take (HT.rV c.length c.length hi -HT.rV c.length 0 lo)).toArray:=by obtain⟨f,e,d⟩:=tw lo hi c.toArray.size;unfold slicePick;rw[f,e,d];simp only[sliceRange_one,pick_run,Fs]<;>rfl
noncomputable def V8(K:Frag):V->Option Int->Option Int->Hp->VK->Prop:=λx d e H Q=>∃a c,x=.ref a/\ie K H a c/\∀p,H p=none->Q (.ref p) (upd H p (.lst (BC c d e)))
theorem G8:XW X (V8 X.K):=by intro g s t H x v w u e f y Q I j p l k h;obtain⟨a,c,rfl,n,q⟩:=h;cases j;obtain⟨m,r,i,hz⟩:=I.list n;have d:=r.length;refine⟨"list",_,slot_list_getitem.lookup,i.isList.typeIs,?_⟩;refine wpAny_getItem_list_slice i.isList p l k .none (by simp) ?_ (by rw[Fs]<;>lia);rw[qO,<-d];refine⟨.ref s.heap.objs.size,_,I.laid (t':=s.toks) (o:=.lst (BC c e f)) (λb z q=>Da _ q) (D2 _) ?_,rfl,q _ (I.hok.fresh (D2 _))⟩;exact⟨Bz (vD c e f) hz,_,0,(r.drop (HT.rV c.length 0 e)).take (HT.rV c.length c.length f -HT.rV c.length 0 e),Iy _ rfl⟩
theorem iu:cL X (.builtin "len") (λj H Q=>∃p d,j=[.ref p]/\(ie X.K H p d\/kC X.K H p d)/\Q (.int d.length) H):=by
 intro k s m H j n Q I r h;obtain⟨p,d,rfl,e,q⟩:=h;obtain⟨u,rfl,l⟩:=vals1 r;cases l;have o:=oK;rcases e with e|e
 .obtain⟨i,f,g,hz⟩:=I.list e;have c:=f.length;exact Calls.call_len_list g.isList (by simp only[Fs]<;>lia) ⟨.int d.length,H,I.tok _,⟨s.toks+1,by rw[Fs,c]⟩,q⟩
 .obtain⟨i,f,g,hz⟩:=I.tuple e;have c:=f.length;exact len_tuple g (by simp only[Fs]<;>lia) ⟨.int d.length,H,I.tok _,⟨s.toks+1,by rw[Fs,c]⟩,q⟩
theorem kJ:cL X (.type "list") (λB H Q=>∃p f,B=[.ref p]/\(ie X.K H p f\/kC X.K H p f)/\∀l,H l=none->Q (.ref l) (upd H l (.lst f))):=by
 intro j s D H B F Q I r h;obtain⟨p,f,rfl,m,q⟩:=h;obtain⟨u,rfl,E⟩:=vals1 r;cases E;have v:∀(c:List Value),Vals f c->f.length<=sizeLine->∀(d:Heap)(i:Nat),(∀b C,s.heap.get? b=some C->d.get? b=some C)->
  d.get? s.heap.objs.size=some {cls:=.type "list",dict:=none,data:=.seq c.toArray i,slots:= #[]}->EP X j D Q (.ref s.heap.objs.size) {s with heap:=d}:=λc g hz d i k e=>
  ⟨.ref s.heap.objs.size,_,I.laid (t':=s.toks) k (D2 _) (show cE X.prog X.w _ d _ (.lst f)from⟨hz,c,i,g,e⟩),rfl,q _ (I.hok.fresh (D2 _))⟩
 rcases m with m|m
 .obtain⟨c,g,x,hz⟩:=I.list m;have t:=g.length;obtain⟨o,y,A,n,z⟩:=x.isList;exact call_list_seq p (.inl rfl) y A z (λd i k e=>v c g hz d i k e) (by simp only[Fs]<;>lia)
 .obtain⟨c,g,x,hz⟩:=I.tuple m;have t:=g.length;obtain⟨o,y,A,n,z⟩:=x;exact call_list_seq p (.inr rfl) y A z (λd i k e=>v c g hz d i k e) (by simp only[Fs]<;>lia)
theorem jH:cL X (.type "tuple") (λn H Q=>∃p f,n=[.ref p]/\((ie X.K H p f/\∀l,H l=none->Q (.ref l) (upd H l (.tup f)))\/(kC X.K H p f/\Q (.ref p) H))):=by
 intro c s m H n z Q I r h;obtain⟨p,f,rfl,h⟩:=h;obtain⟨u,rfl,v⟩:=vals1 r;cases v;rcases h with⟨k,q⟩|⟨k,q⟩
 .obtain⟨d,i,j,hz⟩:=I.list k;have t:=i.length;refine call_tuple_list j.isList (λg x=>?_) (by simp only[Fs]<;>lia);have I1:Inv X c m H {s with heap:=g}:=I.kept (t':=s.toks) x;have y:Inv X c m (upd H g.objs.size (.tup f)) {s with heap:=g.push {cls:=.type "tuple",data:=.seq d.toArray}}:=
   I1.laid (t':=s.toks) (λb o e=>Da _ e) (D2 _) (show cE X.prog X.w _ _ _ (.tup f)from⟨hz,d,i,IsTup.new _ _⟩)
  exact⟨.ref g.objs.size,_,y,rfl,q _ (I1.hok.fresh (D2 _))⟩
 .obtain⟨d,i,j,hz⟩:=I.tuple k;exact call_tuple_same j ⟨.ref p,H,I,rfl,q⟩
noncomputable def V9(K:Frag)(T:String)(x:V)(H:Hp):Prop:=match x with
 |.str _=>T="str"
 |.int _=>T="int"
 |.ref p=>(T="list"/\∃d,ie K H p d)\/(T="tuple"/\∃o,K.lookup p=some o/\o.cls=.type "tuple"/\o.dict=none)\/
   (T="dict"/\((∃c,H p=some (.dK c))\/∃c,H p=some (.dT c)))\/(T="set"/\∃S n,H p=some (.set S n))
 |_=>False
theorem Dh{f:List (Addr×Obj)}{q:St}{H:Hp}{s:Shared}{T:String}{x:V}{v:Value}(I:Inv X f q H s)(r:RelV x v)(g:V9 X.K T x H):
 s.TypeIs v T/\∀a,v=.ref a->∃m,s.heap.get? a=some m/\m.dict=none:=by
 cases x with
 |str z=>obtain⟨t,rfl⟩:=r;cases(show T="str"from g);exact⟨typeIs_str s z t,λ_ e=>nomatch e⟩
 |int i=>obtain⟨t,rfl⟩:=r;cases(show T="int"from g);exact⟨typeIs_int s i t,λ_ e=>nomatch e⟩
 |ref p=>
  cases r;rcases g with⟨rfl,A,w⟩|⟨rfl,o,d,y,j⟩|⟨rfl,d⟩|⟨rfl,S,n,d⟩
  .obtain⟨u,_,l,_⟩:=I.list w;refine⟨l.isList.typeIs,λa e=>?_⟩;cases e;obtain⟨o,n,e,c,j,_⟩:=l;exact⟨o,e,j⟩
  .refine⟨⟨o,I.lW p o d,y⟩,λa e=>?_⟩;cases e;exact⟨o,I.lW _ o d,j⟩
  .have z:∃o,s.heap.get? p=some o/\o.ExactDict:=by
    rcases d with⟨h,d⟩|⟨h,d⟩
    .obtain⟨_,_,_,_,o,_,_,e,ex,_⟩:=I.hok p _ d;exact⟨o,e,ex⟩
    .obtain⟨_,_,_,_,o,_,_,e,ex,_⟩:=I.hok p _ d;exact⟨o,e,ex⟩
   obtain⟨o,e,ex⟩:=z;refine⟨⟨o,e,ex.1⟩,λa k=>?_⟩;cases k;exact⟨o,e,ex.2.1⟩
  .obtain⟨o,_,_,_,e,ex,_⟩:=I.hok p _ d;refine⟨⟨o,e,ex.1⟩,λa k=>?_⟩;cases k;exact⟨o,e,ex.2.1⟩
 |_=>exact G2 g
noncomputable def Wa(K:Frag)(T:String)(r:V->List V->Hp->VK->Prop)(e:TE):TE:=λd H Q=>e d H λx c=>V9 K T x c/\r x [] c Q
noncomputable def XX(K:Frag)(T:String)(r:V->List V->Hp->VK->Prop)(f:TE)(t:TA):TE:=λc H Q=>f c H λx d=>V9 K T x d/\t c d λe g=>r x e g Q
variable{o e:Expr}{es:List Expr}{to:TE}{t:TA}{name:Str}{apos cpos:Pos}{T id:String}{r:V->List V->Hp->VK->Prop}
theorem Di(p:PlainAttrs T)(g:Slot T name id)(i:typeOf (.builtin id)=pure (.type "method_descriptor"))(u:V7 X id r)(q:PE X o to)
 (f:attributeBase o name X.env (eval o X.env)=eval o X.env:=by rfl)(d:(apos.endLine==cpos.line)=true:=by rfl):PE X (.Call (.Attribute o name apos) [] [] cpos) (Wa X.K T r to):=by
 intro c s j H Q I h;refine wpAny_Call_method0_late f d (bV (q c s j H _ I h) λv m ⟨x,z,I1,k,l,n⟩=>?_);obtain⟨y,w⟩:=Dh I1 k l;exact⟨T,id,p,g,i,y,w,Calls.callWith_builtin rfl (PySem.evalArgs_none (u c m j z x [] v [] Q I1 k .nil n))⟩
theorem R6(C:PlainAttrs T)(i:Slot T name id)(l:typeOf (.builtin id)=pure (.type "method_descriptor"))(F:V7 X id r)(E:PE X o to)(G:PA X (e::es) t)
 (g:attributeBase o name X.env (eval o X.env)=eval o X.env:=by rfl)
 (j:((backTo cpos (starEach (e::es) X.env)).all (λx=>!x.1)&&(backToKw cpos (keywordEach [] X.env)).all (λx=>x.1.isSome)
   &&decide ((e::es).length+([]:List Keyword).length+(if([]:List Keyword).isEmpty then 0 else 1)<30))=true:=by rfl)
 (f:(apos.endLine==cpos.line)=true:=by rfl)(D:starEach (e::es) X.env=(false,eval e X.env)::starEach es X.env:=by rfl)(d:(backTo cpos (starEach es X.env)).any (·.1)=false:=by rfl):
 PE X (.Call (.Attribute o name apos) (e::es) [] cpos) (XX X.K T r to t):=by
 intro c s k H Q I h;refine wpAny_Call_method_late g j f rfl (bV (E c s k H _ I h) λv y ⟨x,O,I1,m,u,B⟩=>?_);obtain⟨L,J⟩:=Dh I1 m u;refine⟨T,id,C,i,l,L,J,?_⟩;have n:=G cpos c y k O _ I1 B;rw[D]at n⊢;refine Calls.callWith_builtin (by show(false||(backTo cpos (starEach es X.env)).any (·.1))=false;rw[d]<;>rfl) (Calls.evalArgs_plain ?_);exact bV n λq w ⟨p,N,M,z,A⟩=>F c w k N x p v q Q M m z A
end
noncomputable def XY(X:Cx)(e:String)(r:V->List V->Hp->VK->Prop):Prop:=
 ∀(a:List (Addr×Obj))(s:Shared)(b:St)(H:Hp)(x:V)(c:List V)(v:Value)(d:List Value)(Q:VK),Inv X a b H s->RelV x v->Vals c d->r x c H Q->
  wpAny (model X.prog X.w) X.A (call (.builtin e) (v::d)) (EP X a b Q) X.xe s
theorem Vals.one{x:V}{us:List Value}(h:Vals [x] us):∃u,us=[u]/\RelV x u:=by
 cases h with
 |cons r h=>
  cases h;exact⟨_,rfl,r⟩
theorem Vals.zero:∀{us:List Value},Vals [] us->us=[]
 |_,.nil=>rfl
theorem Vals.dropLast{a:List V}{us:List Value}(h:Vals a us):Vals a.dropLast us.dropLast:=by
 induction h with
 |nil=>exact .nil
 |cons r t b=>
  cases t with
  |nil=>exact .nil
  |cons q c=>exact .cons r b
theorem Vals.reverse{a:List V}{us:List Value}(h:Vals a us):Vals a.reverse us.reverse:=by
 induction h with
 |nil=>exact .nil
 |cons r t b=>rw[hV,hV];exact Vals.append b (.cons r .nil)
theorem Vals.rep{a:List V}{us:List Value}(h:Vals a us):∀k:Nat,Vals (A2 k a).flatten (A2 k us).flatten
 |0=>.nil
 |k+1=>by rw[G9,G9,Gm,Gm];exact Vals.append h (Vals.rep h k)
theorem xV{α:Type}(l:List α):l.eraseIdx (l.length -1)=l.dropLast:=by
 induction l with
 |nil=>rfl
 |cons a r c=>
  cases r with
  |nil=>rfl
  |cons b r=>
   have e:(a::b::r).length -1=((b::r).length -1)+1:=by have f:(a::b::r).length=r.length+2:=rfl;have d:(b::r).length=r.length+1:=rfl;lia
   rw[e,List.eraseIdx_cons_succ,c]
   all_goals rfl
theorem foldl_rep(a:List Value):∀(k:Nat)(b:List Value),
 Y6 (λd c=>d++c) b.toArray (A2 k a.toArray)=(b++(A2 k a).flatten).toArray
 |0,b=>by simp
 |k+1,b=>by
  have e:b.toArray++a.toArray=(b++a).toArray:=by simp
  have f:(b++a)++(A2 k a).flatten=b++(A2 (k+1) a).flatten:=by rw[G9,Gm,RF]
  rw[<-f,<-foldl_rep a k (b++a),<-e,G9,List.foldl_cons]
section
variable{X:Cx}{pins:List (Addr×Obj)}{σ:St}{H:Hp}{s:Shared}{l b:Addr}{xs ys zs:List V}
theorem Inv.R7{a its':List Value}{n:Nat}{f:Array Value->Array Value}{t':Nat}(I:Inv X pins σ H s)(i:H l=some (.lst xs))
 (e:s.heap.get? l=some {cls:=.type "list",data:=.seq a.toArray n})(g:f a.toArray=its'.toArray)(c:Vals ys its')(hz:ys.length<=sizeLine):
 Inv X pins σ (upd H l (.lst ys)) {s with heap:=s.heap.update l (Obj.mapSeq f),toks:=t'}:=by
 have q:=PySem.IsL.update e f;rw[g]at q;refine I.write (x:=l) (e:=l) (by rw[i];exact trivial) (.inl rfl) (λj u h d=>(Heap.get?_update_other s.heap (Obj.mapSeq f) (SC h)).trans d) ⟨_,q⟩ ?_;exact⟨hz,its',_,c,q⟩
theorem Inv.R8{a:List Value}{t':Nat}(I:Inv X pins σ H s)(c:Vals ys a)(hz:ys.length<=sizeLine):
 Inv X pins σ (upd H s.heap.objs.size (.lst ys)) {s with heap:=s.heap.push {cls:=.type "list",data:=.seq a.toArray},toks:=t'}:=
 I.laid (λ_ _ q=>Da _ q) (D2 _) ⟨hz,a,0,c,Iy _ rfl⟩
theorem Inv.fresh(I:Inv X pins σ H s):H s.heap.objs.size=none:=I.hok.fresh (D2 _)
theorem Inv.R9(I:Inv X pins σ H s)(c:H l=some (.lst xs)):xs.length<=sizeLine/\∃(a:List Value)(n:Nat),Vals xs a/\xs.length=a.length/\s.heap.get? l=some {cls:=.type "list",data:=.seq a.toArray n}:=by obtain⟨z,a,n,r,e⟩:=I.hok l _ c;exact⟨z,a,n,r,r.length,e⟩
theorem Dj{n:Nat}(h:n<=sizeLine):Builtin.List.listTooLong n=false:=by unfold Builtin.List.listTooLong;exact Ki (by lia)
end
section
variable{X:Cx}
noncomputable def zw:V->List V->Hp->VK->Prop:=λx b H Q=>∃l a y,x=.ref l/\b=[y]/\H l=some (.lst a)/\a.length<sizeLine/\Q .aV (upd H l (.lst (a++[y])))
theorem rW:XY X "list.append" zw:=by intro b s g H x j v k Q I d rv h;obtain⟨l,i,y,rfl,rfl,c,hz,q⟩:=h;cases d;obtain⟨u,rfl,f⟩:=rv.one;obtain⟨z,a,n,r,m,e⟩:=I.R9 c;refine call_meets F.slot_list_append ⟨_,e,rfl⟩ F.entry_list_append (F.args_list_append_2 _ _) (PySem.list_append l a.toArray n u (by rw[Fs];lia)) ⟨e,?_⟩;refine⟨.aV,_,I.R7 (its':=a++[u]) c e (by simp) (r.append (.cons f .nil)) ?_,rfl,q⟩;rw[FS,Vz];lia
noncomputable def Wb:V->List V->Hp->VK->Prop:=λx b H Q=>∃l a y,x=.ref l/\b=[]/\H l=some (.lst a)/\a[a.length -1]?=some y/\Q y (upd H l (.lst a.dropLast))
theorem MH:XY X "list.pop" Wb:=by
 intro c s o H x t v w Q I f rv h;obtain⟨l,p,y,rfl,rfl,d,i,q⟩:=h;cases f;have m:=rv.zero;subst m;obtain⟨z,a,n,r,k,e⟩:=I.R9 d;obtain⟨u,j,g⟩:=r.get i;have b:a.toArray[a.toArray.size -1]?=some u:=by show a.toArray[a.length -1]?=some u;rw[<-Vn,<-k];exact j
 refine call_meets F.slot_list_pop ⟨_,e,rfl⟩ F.entry_list_pop (F.args_list_pop_1 _) (MeetsSeq.list_pop_last l a.toArray n u b (by rw[Fs];lia)) ⟨e,?_⟩;refine⟨y,_,I.R7 (its':=a.dropLast) d e ?_ r.dropLast ?_,g,q⟩
 .show a.toArray.eraseIdxIfInBounds (a.toArray.size -1)=a.dropLast.toArray;rw[Fs,List.eraseIdxIfInBounds_toArray,xV]
 .rw[mn];lia
theorem len_rep{α:Type}(a:List α)(k:Nat):(A2 k a).flatten.length=k*a.length:=by
 induction k with
 |zero=>simp
 |succ k b=>rw[G9,Gm,FS,b,Qw,mM]
end
section
variable{prog:Program}{w:World}{A:Around}{E:Value->Shared->Prop}{s:Shared}
end
section
variable{X:Cx}
end
end L2
namespace XZ
open PySem PySem.W PySem.Calls PyProof.Rows
theorem nU{P:Params}{h:Heap}:∀(ns:List Int)(vs:List Value),WellAll P h vs (ns.map WData.int)->IntsAre vs ns:=by
 intro ns
 induction ns with
 |nil=>intro vs w;rw[oe]at w;cases w;exact .nil
 |cons n ns c=>
  intro vs w;rw[L9]at w;cases w with
  |cons a b=>
   cases a;exact .cons _ _ (c _ b)
theorem BD{l:OpenLaw}{n:Nat}(u:l.most=some n){P:Params}{h:Heap}{args:List WData}{b:List Value}
 (c:l.row.toRowW.claim.pre args=true)(j:WellAll P h b args):
 ∃a vs ns,b=[Value.ref a]/\args=[WData.list (ns.map WData.int)]/\h.get? a=some {cls:=.type "list",data:=.seq vs.toArray}/\IntsAre vs ns/\ns.length<=n:=by
 have k:WShape.hasAll [] args [.list .int]=true:=(pre_splitW c).1;have m:l.pre.holds [] {args:=args}=true:=(pre_splitW c).2;obtain⟨d,r,rfl,x,w⟩:=hasAllW_cons k;obtain rfl:=hasAllW_nil w;obtain⟨y,rfl,v⟩:=hasW_list x;obtain⟨ns,rfl⟩:=items_int v;have e:ns.length<=n:=by
  unfold OpenLaw.pre at m;have i:(WTm.not (.lt (.lit (.int (n:Int))) (.len (.arg 0)))).holds [] {args:=[.list (ns.map .int)]}=true:=by have i:=(holds_andW m).1;rw[u]at i;exact i
  have g:=condW_of i (w_not (w_lt w_lit (w_len_list (w_arg rfl))));rw[Ap]at g;refine dA λq=>?_;have s:(n:Int)<((ns.length:Nat):Int):=by lia
  first
   |(rw[He s]at g;exact absurd g (by decide))
   |(simp at g;lia)
 cases j with
 |cons p o=>
  cases o;cases p with
  |list t f=>exact⟨_,_,ns,rfl,rfl,t,nU ns _ f,e⟩
theorem BE(l:OpenLaw)(args:List WData):l.row.toRowW.claim.post args (.bool true) args=true:=
 postW_of (r:=l.row.toRowW) (X:=(true==true))
  (show WShape.has [] (.bool true) .bool=true by first|rfl|decide|simp[WShape.has,WShape.arms,WShape.armsAll])
  (show(WTm.eq .res (.lit (.bool true))).value [] {args:=args,res:=some (.bool true),after:=args}=some (.bool (true==true))from w_eq_bool (w_res rfl) w_lit) rfl
theorem vF{l:OpenLaw}{n:Nat}{q:Program}{e:List Str}{F:(Str->Option Value)->Heap->Prop}{E:World->Heap->Prop}{d:DefRec}
 (K:l.most=some n)(y:d.params.defaults=[])
 (call:∀(w:World)(c b:Shared)(p u:Str->Option Value)(m:Addr)(o:Obj)(t s h:Value)(a:Addr)(vs:List Value)(ns:List Int),
   Ground q e [] F w c p u b.heap->E w b.heap->
   b.heap.get? m=some o->o.data=.func (docDef d.name d.params d.body d.scope t s h)->b.heap.CodeRec s d.name->p d.name=some (.ref m)->
   b.heap.get? a=some {cls:=.type "list",data:=.seq vs.toArray}->IntsAre vs ns->ns.length<=n->b.gens= #[]->
   codeAny (model l.prog w) callerA (.call (.ref m) ⟨[.ref a],[]⟩) (λr s'=>r=.ok (.ret (.bool true))/\OldK b.heap s'.heap/\s'.os=b.os/\AllBare s'.gens) b):
 WalkO q e F E l.row.toRowW d [] (λf vs=>PySem.call f vs):=by
 intro w c b p u G Y m o t s h S kV J O z C x N D A T i B H v M;obtain rfl:S=.none:=Dflts.none C y;obtain rfl:kV=.none:=Dflts.noKw C;obtain⟨a,vs,ns,rfl,rfl,j,g,k⟩:=BD K i v;refine enter_call (codeAny_mono (call w c b p u m o t s h a vs ns G Y J (fd_plain O) z x j g k N) λr s' I=>?_);obtain⟨rfl,R,Q,P⟩:=I;exact⟨.inl ⟨.bool true,.bool true,[],rfl,λ_=>rfl,.bool true,BE l _,λ_=>⟨UP,λ_ L=>(nomatch L)⟩⟩,R,Q,P⟩
section
variable{prog:Program}{w:World}{A:Around}{E:Value->Shared->Prop}{s:Shared}{K:Frag}
end
end XZ
namespace L2
open PySem PySem.Spec PyProof.Rows
theorem rX:∀{vs:List Value}{ns:List Int},IntsAre vs ns->Vals (ns.map V.int) vs
 |_,_,.nil=>.nil
 |_,_,.cons n t h=>.cons ⟨t,rfl⟩ (rX h)
noncomputable def Dk(H:Hp):Prop:=∀b,H b=none\/∃o a,H b=some (.vj o (.lst a))
theorem Dl{P:Program}{w:World}{K:Frag}{p M:Str->Option Value}{CX:By}{k:Nat}{Q a:Addr}{X:FuncData}{x:Str}{sp:Sp}{c:Shared}{vs:List Value}{ns:List Int}
 (KX:K.In c.heap)(y:c.heap.Ns mainGlobals p)(f:c.heap.Ns builtinsNs M)(Zy:∀x:Str,x≠"__name__"->M x=bootBuiltins x)(A:c.heap.NoLimit)(I:c.heap.NoSeer)(Sa:P.given.tree=none)(hg:c.gens= #[])
 (B:c.heap.get? a=some {cls:=.type "list",data:=.seq vs.toArray})(hi:IntsAre vs ns)(T:ns.length<=sizeLine)(hr:cU k callerA)
 (F:∀base:Heap,K.In base->base.Ns mainGlobals p->b9 P w K p base CX k Q X [x] sp)(j:∀(s:Shared)(u:Value),BindsTo s X ⟨[u],[]⟩ [(x,u)])
 (qN:∀H:Hp,Dk H->ie K H a (ns.map V.int)->sp [.ref a] H (λv _=>v=.bl true) λ_ _ _=>False)
 (Wc:∀H e s',CX [] H c (λ_ _ _=>False) e s'->False):
 codeAny (model P w) callerA (.call (.ref Q) ⟨[.ref a],[]⟩) (λr s'=>r=.ok (.ret (.bool true))/\OldK c.heap s'.heap/\s'.os=c.os/\AllBare s'.gens) c:=by
 have rv:=rX hi;have Wd:=hi.length;have g:∀H:Hp,Dk H->ie K H a (ns.map V.int)->ku P w H c.heap->(∀b,H b≠none->b=a)->(H a≠none->K.lookup a=none)->
  codeAny (model P w) callerA (.call (.ref Q) ⟨[.ref a],[]⟩) (λr s'=>r=.ok (.ret (.bool true))/\OldK c.heap s'.heap/\s'.os=c.os/\AllBare s'.gens) c:=by
  intro H U hS t O hK;have J:∀{b:Addr}{o:Obj},c.heap.get? b=some o->H b=none->(sW c.heap H).get? b=some o:=λe n=>CN e n;have RW:∀{b:Addr}{o:Obj}{C:Array DictEntry}{D:Nat},c.heap.get? b=some o->o.data=.dict C D->H b=none:=λ{b o C D} e d=>by
   cases q:H b with
   |none=>rfl
   |some u=>have E:b=a:=O b (by rw[q];simp);subst E;rw[B]at e;cases e;have R:Data.seq vs.toArray _=Data.dict C D:=d;cases R
  have i:∀{b:Addr}{m:Str->Option Value},c.heap.Ns b m->(sW c.heap H).Ns b m:=λ{b m} ⟨o,C,D,e,d,r⟩=>⟨o,C,D,J e (RW e d),d,r⟩;have Z:K.In (sW c.heap H):=λb o e=>J (KX b o e) (by
   cases q:H b with
   |none=>rfl
   |some u=>have E:b=a:=O b (by rw[q];simp);subst E;rw[hK (by rw[q];simp)]at e;cases e)
  have Zz:∀{b:Addr}{o:Obj},c.heap.get? b=some o->o.cls=.type "module"->H b=none:=λ{b o} e d=>by
   cases q:H b with
   |none=>rfl
   |some u=>have E:b=a:=O b (by rw[q];simp);subst E;rw[B]at e;cases e;have R:Value.type "list"=Value.type "module":=d;exact absurd R (by decide)
  have hM:Mod K p (sW c.heap H):=⟨Z,i y,⟨M,i f,Zy⟩,let⟨mc,h1,h2⟩:=A;⟨mc,i h1,h2⟩,⟨let⟨m,h1,h2⟩:=I.statics;⟨m,i h1,h2⟩,let⟨m,h1,h2⟩:=I.mods;⟨m,i h1,h2⟩,let⟨m,h1,h2⟩:=I.imp;⟨m,i h1,h2⟩,let⟨m,bm,L,h1,h2,h3,h4,h5⟩:=I.main;⟨m,bm,L,i h1,h2,J h3 (Zz h3 h4),h4,h5⟩⟩⟩;have e0:xR P w K p (sW c.heap H) callerA [] c H:=⟨rfl,hM,λb o e=>GI e,gN (Bg _ _),trivial,λb f=>absurd (show b∈([]:List Addr)from f) (by simp),t,.of_eq hg,Sa⟩;refine codeAny_mono ((F _ Z (i y)).run callerA [] c H ⟨[.ref a],[]⟩ [.ref a] [.ref a] _ _ hr e0 (j c (.ref a)) (.cons rfl .nil) (qN H U hS)) λr s' h=>?_;cases r with
  |error e=>exact(Wc H e s' h).elim
  |ok fl=>
   cases fl with
   |next=>exact G2 h
   |brk=>exact G2 h
   |cont=>exact G2 h
   |ret u=>
    obtain⟨v,H',os,G,S,We,r',q⟩:=h;have q':v=.bl true:=q;subst q';obtain rfl:u=Value.bool true:=r';refine⟨rfl,OldK.of_keep λb o e=>?_,os,G⟩;cases q:H b with
    |none=>exact S.keep b o e q (by intro z;exact absurd (show b∈([]:List Addr)from z) (by simp)) (by simp)
    |some u=>
     rcases U b with z|⟨L,xs,z⟩
     .rw[q]at z;cases z
     .have z2:=S.lX b L _ z;obtain⟨Y,_⟩:=t b _ z;obtain⟨e2,_⟩:=We b _ z2;rw[e]at Y;cases Y;exact e2
 cases N:K.lookup a with
 |some o=>have e:=KX a o N;rw[B]at e;cases e;refine g (λ_=>none) (λ_=>.inl rfl) (.inr ⟨_,vs.toArray,_,N,rfl,rfl,rfl,by rw[Fs,Wd];exact T,by simpa using rv⟩) (λb u z=>by have l:(none:Option HO)=some u:=z;cases l) (λb z=>absurd rfl z) λz=>absurd rfl z
 |none=>
  refine g (λb=>if b=a then some (.vj {cls:=.type "list",data:=.seq vs.toArray} (.lst (ns.map V.int)))else none) (λb=>?_) (.inl (.inr ⟨{cls:=.type "list",data:=.seq vs.toArray},Bi rfl⟩)) (λb u z=>?_) (λb z=>?_) λ_=>N
  .by_cases f:b=a
   .exact .inr ⟨_,_,Bi f⟩
   .exact .inl (BM f)
  .by_cases f:b=a
   .have l:=(Bi f).symm.trans z;cases l;subst f;exact⟨B,by rw[Ap];exact T,vs,_,rv,B⟩
   .have l:=(BM f).symm.trans z;cases l
  .by_cases f:b=a
   .exact f
   .exact absurd (BM f) z
theorem Hf{l:PySem.W.OpenLaw}{n k:Nat}{q:Program}{i:List Str}{Z:(Str->Option Value)->Heap->Prop}{E:World->Heap->Prop}{d:DefRec}{K:Params->Frag}{CX:World->By}{sp:World->Sp}{x:Str}
 (M:l.most=some n)(z:n<=sizeLine)(B:d.params.defaults=[])(L:cU k callerA)(Wf:importsNone q=true)(y:l.prog.given.tree=none)
 (Q:∀(w:World)(h:Heap),E w h->(K w.params).In h)
 (F:∀(w:World)(m:Str->Option Value)(t:Addr)(h:Heap),(K w.params).In h->h.Ns mainGlobals m->m d.name=some (.ref t)->
   ∃C:FuncData,(∀(s:Shared)(u:Value),BindsTo s C ⟨[u],[]⟩ [(x,u)])/\
    ∀base:Heap,(K w.params).In base->base.Ns mainGlobals m->b9 l.prog w (K w.params) m base (CX w) k t C [x] (sp w))
 (J:∀(w:World)(H:Hp)(a:Addr)(ns:List Int),ns.length<=n->Dk H->ie (K w.params) H a (ns.map V.int)->sp w [.ref a] H (λv _=>v=.bl true) λ_ _ _=>False)
 (Wc:∀(w:World)(H:Hp)(s:Shared)(e:Value)(s':Shared),CX w [] H s (λ_ _ _=>False) e s'->False):
 PySem.W.WalkO q i Z E l.row.toRowW d [] (λf vs=>PySem.call f vs):=by
 refine XZ.vF M B λw D p m mb t o pm cd X a vs ns G Y ho hd O A r j c N=>?_;have I:=Q w _ Y;obtain⟨C,P,U⟩:=F w m t _ I G.T.g A;exact Dl I G.T.g G.T.b G.T.builtins G.T.nolimit (G.T.seer Wf) y N r j (Bz c z) L U P (λH S R=>J w H a ns c S R) λH e s'=>Wc w H p e s'
noncomputable def inClass(s:Stmt)(j:Nat):Stmt:=match s with
 |.ClassDef _ _ _ body _ _ _ _ _ _ _=>body.getD j (.Pass ⟨0,0,0,0⟩)
 |_=>.Pass ⟨0,0,0,0⟩
noncomputable def cj(s:Stmt):Arguments:=match s with
 |.FunctionDef _ a _ _ _ _ _ _ _ _=>a
 |_=>{posonlyargs:=[],args:=[],vararg:=none,kwonlyargs:=[],kw_defaults:=[],kwarg:=none,defaults:=[]}
noncomputable def aT(s:Stmt):List Stmt:=match s with
 |.FunctionDef _ _ b _ _ _ _ _ _ _=>b
 |_=>[]
noncomputable def ai(s:Stmt):Scope:=match s with
 |.FunctionDef _ _ _ _ _ _ sc _ _ _=>sc
 |_=>{kind:=.function,names:=[],isGenerator:=false,isCoroutine:=false}
abbrev Sb:By:=λ_ _ _ _ _ _=>False
abbrev E0:XK:=λ_ _ _=>False
structure Dp(K:Frag)(x qual:Str)(st:Stmt)(f:Addr)(fd:FuncData):Prop where
 ex:∃(oc:Value)(od:Option Addr)(kV doc pm:Value)(an:Option Addr)(cdv ct:Value)(osl:Array (Option Value)),
  fd=fnOf x qual (cj st) (aT st) (ai st) .none kV doc pm an cdv ct/\K.lookup f=some ⟨oc,od,.func fd,osl⟩/\codeIn K cdv qual=true
 kp:keepIn K (.ref f)=true
section
variable{P:Program}{w:World}{K:Frag}{mg:Str->Option Value}{base:Heap}
theorem Dp.binds{x a:Str}{st:Stmt}{f:Addr}{i:FuncData}{ps:List Str}(F:Dp K x a st f i)
 (h:∀(kV b d:Value)(g:Option Addr)(c e:Value)(us:List Value),us.length=ps.length->bindArgs (fnOf x a (cj st) (aT st) (ai st) .none kV b d g c e) ⟨us,[]⟩=pure (ps.zip us)):Binds K i ps []:=by
 obtain⟨m,l,kV,b,d,g,c,e,j,rfl,n,k⟩:=F.ex;exact .all (h kV b d g c e)
theorem Dq{x a:Str}{st:Stmt}{f:Addr}{m:Value}{j i:Option Addr}{e:Array (Option Value)}{kV d g b h:Value}(l:K.lookup f=some ⟨m,j,.func (fnOf x a (cj st) (aT st) (ai st) .none kV d g i b h),e⟩)
 (c:codeIn K b a=true)(k:keepIn K (.ref f)=true):Dp K x a st f (fnOf x a (cj st) (aT st) (ai st) .none kV d g i b h):=⟨⟨m,j,kV,d,g,i,b,h,e,rfl,l,c⟩,k⟩
end
section
variable{X:Cx}
theorem pv(i:Nat){x:Str}{pos:Pos}(d:X.N[i]?=some x:=by rfl)(b:Ri X.env.scope x:=by first|exact WY rfl|exact WU (WY rfl)|exact WU (WU rfl))(c:(x==("__debug__":Str))=false:=by decide)
 (a:(x==("__classdict__":Str))=false:=by decide):PE X (.Name x pos) (jO i):=CQ d b c a
end
noncomputable def aq(H H':Hp):Prop:=∀b o,H b=some o->H' b=some o
theorem aq.refl(H:Hp):aq H H:=λ_ _ h=>h
theorem aq.trans{H H1 d:Hp}(a:aq H H1)(b:aq H1 d):aq H d:=λc o h=>b c o (a c o h)
theorem aq.free{H H':Hp}(e:aq H H'){l:Addr}(h:H' l=Zg):H l=Zg:=by
 cases q:H l with
 |none=>rfl
 |some o=>rw[e l o q]at h;cases h
theorem bits_le{x:Int}{n:Nat}(h:x.natAbs<2^n):Builtin.Int.intBits x<=n:=by
 unfold Builtin.Int.intBits;split
 .exact KB _
 .rename_i hx
  have a:x.natAbs≠0:=λe=>hx (by simp[Int.natAbs_eq_zero.mp e]);have:=(To a).mpr h;omega
theorem xW{i j:Int}(h:Builtin.Int.intBits i+Builtin.Int.intBits j<=134217728):IntMulOk i j:=by
 unfold IntMulOk Builtin.Int.intTooBig;have a:¬((Builtin.Int.intBits i:Int)+(Builtin.Int.intBits j:Int)>((bitsLine:Nat):Int)):=by rw[bitsLine_eq];omega
 intro z;rw[AN]at z;exact a (D1 z.2)
section
variable{X:Cx}
theorem Hg:l6 X (binaryOp .Mult) (rI IntMulOk λi j=>.int (i*j)):=RH λ_ _ _ _ _ _ _ a q=>mul_int q a
noncomputable def zx(_ j:Int):Prop:=j≠0/\j.natAbs.log2<1000000000
theorem Dr:l6 X (binaryOp .FloorDiv) (rI zx λi j=>.int (i.fdiv j)):=λa s e H x y v u Q I c b h=>by obtain⟨i,j,rfl,rfl,d,q⟩:=h;obtain⟨t,rfl⟩:=c;obtain⟨f,rfl⟩:=b;exact floordiv_int d.1 ⟨.int (i.fdiv j),H,I.tok _,⟨_,rfl⟩,q⟩ (.inr (I.ok.U1 X.A s rfl rfl I.bk))
end
theorem aP{H:Hp}{p:Addr}(h:H p=none)(o:HO):aq H (upd H p o):=λb u q=>by rw[ak (aW q h)];exact q
theorem aq.tup{K:Frag}{H H':Hp}{a:Addr}{b:List V}(e:aq H H')(h:kC K H a b):kC K H' a b:=by
 rcases h with(h|⟨o,h⟩)|h
 .exact .inl (.inl (e _ _ h))
 .exact .inl (.inr ⟨o,e _ _ h⟩)
 .exact .inr h
theorem rY{n:Nat}(h:n<=100000):n<=sizeLine:=Bz h (by decide)
end L2
namespace L2
theorem jR{i j:Int}(c:0<=j)(b:j<=1000000)(a:i.natAbs<2^64):Br i j:=⟨c,b,a⟩
end L2
namespace L2
open PySem PySem.Spec PyProof.Rows
theorem Ds{H:Hp}{p q:Addr}{o u:HO}(a:H q=some u)(b:H p=none):upd H p o q=some u:=by rw[ak (aW a b)];exact a
theorem cE.thing{P:Program}{w:World}{H:Hp}{h:Heap}{a:Addr}{o:HO}(x:cE P w H h a o):∃b,h.get? a=some b:=by
 cases o with
 |lst d=>obtain⟨_,_,_,_,e⟩:=x;exact⟨_,e⟩
 |tup d=>obtain⟨_,_,_,b,e,_⟩:=x;exact⟨_,e⟩
 |dK c=>obtain⟨_,_,_,_,b,_,_,e,_⟩:=x;exact⟨_,e⟩
 |dT c=>obtain⟨_,_,_,_,b,_,_,e,_⟩:=x;exact⟨_,e⟩
 |set S n=>obtain⟨b,_,_,_,e,_⟩:=x;exact⟨_,e⟩
 |ins C l g=>obtain⟨_,_,_,e,_⟩:=x;exact⟨_,e⟩
 |own y=>exact x
 |xd g=>obtain⟨_,⟨_,_,_,e,_⟩,_⟩:=x;exact⟨_,e⟩
 |jA j k=>obtain⟨_,_,_,e⟩:=x;exact⟨_,e⟩
 |vj b u=>obtain⟨e,_⟩:=x;exact⟨_,e⟩
 |KW i=>exact⟨_,x⟩
 |met f y=>exact⟨_,x⟩
 |ext φ=>obtain⟨_,e,_⟩:=x;exact e
theorem ku.gone{P:Program}{w:World}{H:Hp}{h:Heap}{a:Addr}(x:ku P w H h)(e:h.get? a=none):H a=none:=by
 cases q:H a with
 |none=>rfl
 |some u=>obtain⟨b,z⟩:=(x a u q).thing;rw[e]at z;cases z
theorem ku.tracked{P:Program}{w:World}{H:Hp}{h h':Heap}(x:ku P w H h)(k:∀b u c,H b=some u->h.get? b=some c->h'.get? b=some c):ku P w H h':=λa o e=>
 (x a o e).stay (λb u z q=>by
   rcases z with rfl|z
   .exact k b o u e q
   .exact k b _ u z q) (λ_ q=>q) λ_ _ q=>q
structure ZA(P:Program)(w:World)(outer:List Env)(H:Hp)(s:Shared)(H':Hp)(a C:Addr)(s':Shared):Prop where
 os:s'.os=s.os
 bare:AllBare s'.gens
 un:Un (frs outer) [] H H' s.heap s'.heap
 hok:ku P w H' s'.heap
 new:H' a=none
 old:s.heap.get? a=none
 ZC:∃(B:Heap)(a0:Value),Heap.FlyingW B outer a (.ref C) a0 s'.heap/\∀b o,s'.heap.get? b=some o->b∉frs outer->((∃o',s.heap.get? b=some o')\/∃u,H' b=some u)->B.get? b=some o
noncomputable def jB(P:Program)(w:World):By:=λb H s E e d=>∃a C c,e=.ref a/\ZA P w b H s c a C d/\E (.ref C) none c
section
variable{P:Program}{w:World}{K:Frag}{mg:Str->Option Value}{base:Heap}{N:List Str}{qual:Str}{scope:Scope}{f:Addr}{cd:Value}{A:Around}{outer:List Env}{s:Shared}{H:Hp}{E:XK}
abbrev kD(P:Program)(w:World)(K:Frag)(mg:Str->Option Value)(base:Heap)(N:List Str)(qual:Str)(scope:Scope)(f:Addr)(cd:Value)(A:Around)(outer:List Env)(s:Shared)(H:Hp)(E:XK):Cx:=
 BA (jB P w) P w K mg base N qual scope f cd A outer s H E
theorem oO{e:Env}{l:List Env}{L b:Addr}(a:e.frame=some L):b∈frs (e::l)↔b=L\/b∈frs l:=by unfold frs;rw[K6,a];exact GE
theorem vG{g:List (Addr×Obj)}{t:St}{H1 r:Hp}{i:Shared}{p:Heap}(I:Inv (kD P w K mg base N qual scope f cd A outer s H E) g t H1 i)
 (u:Un (frs (kD P w K mg base N qual scope f cd A outer s H E).stack) [] H1 r i.heap p):Un (frs outer) [] H r s.heap p:=by
 have C:(kD P w K mg base N qual scope f cd A outer s H E).env.frame=some s.heap.objs.size:=rfl;have m:∀b,b∈frs (kD P w K mg base N qual scope f cd A outer s H E).stack↔b=s.heap.objs.size\/b∈frs outer:=λb=>oO C;have c:Un (frs outer) [] H H1 s.heap i.heap:=I.base;have D:∀b o,s.heap.get? b=some o->b∉frs outer->b∉frs (kD P w K mg base N qual scope f cd A outer s H E).stack:=λb o q d z=>by
  rcases(m b).mp z with z|z
  .exact absurd (Fm q) (by rw[z];exact QP _)
  .exact d z
 refine⟨λb o q n d a=>?_,λb o q n d a=>?_,λb o q n a=>?_,λb o q a=>?_,λb l q=>u.tups b l (c.tups b l q),λb o v q=>u.lX b o v (c.lX b o v q),λb x q=>?_⟩
 .exact u.keep b o (c.keep b o q n d a) (c.free b o q n a) (D b o q d) a
 .obtain⟨F,e⟩:=c.slot b o q n d a;obtain⟨h,k⟩:=u.slot b _ e (c.free b o q n a) ((m b).mpr (.inr d)) a;exact⟨h,k⟩
 .obtain⟨j,e⟩:=c.there b o q a;exact u.free b j e (c.free b o q n a) a
 .obtain⟨j,e⟩:=c.there b o q a;exact u.there b j e a
 .obtain⟨B,e⟩:=c.nQ b x q;obtain⟨y,k⟩:=u.nQ b _ e;exact⟨B++y,by rw[k,Xp]⟩
theorem Du{l:List Env}{H1 t:Hp}{p g h:Heap}(u:Un (frs l) [] H1 t p g)(k:∀b o,g.get? b=some o->b∉frs l->((∃c,p.get? b=some c)\/∃u,t b=some u)->h.get? b=some o)
 (ff:∀b,b∈frs l->∃o,g.get? b=some o/\∀vs,o.data≠.fields vs)(up:g.UpToSlots h):Un (frs l) [] H1 t p h:=by
 have v:∀b o,b∈frs l->g.get? b=some o->∃m,h.get? b=some {o with slots:=m}:=λb o a q=>by obtain⟨c,e,x⟩:=ff b a;rw[q]at e;cases e;exact up b o q x
 refine⟨λb o q n a d=>k b o (u.keep b o q n a d) a (.inl ⟨o,q⟩),λb o q n a d=>?_,u.free,λb o q d=>?_,u.tups,u.lX,u.nQ⟩
 .obtain⟨m,i⟩:=u.slot b o q n a d;obtain⟨j,r⟩:=v b _ a i;exact⟨j,r⟩
 .obtain⟨c,i⟩:=u.there b o q d;by_cases a:b∈frs l
  .obtain⟨m,r⟩:=v b c a i;exact⟨_,r⟩
  .exact⟨c,k b c i a (.inl ⟨o,q⟩)⟩
theorem Dv{b:List (Addr×Obj)}{d:St}{H1:Hp}{c:Shared}{a:Addr}(I:Inv (kD P w K mg base N qual scope f cd A outer s H E) b d H1 c)(e:c.heap.get? a=none):s.heap.get? a=none:=by
 have g:Un (frs outer) [] H H1 s.heap c.heap:=I.base;cases q:s.heap.get? a with
 |none=>rfl
 |some o=>obtain⟨h,z⟩:=g.there a o q (by simp);rw[e]at z;cases z
theorem xX{d:List (Addr×Obj)}{J:St}{H1:Hp}{c:Shared}{h':Heap}{a C:Addr}{j:List Value}(I:Inv (kD P w K mg base N qual scope f cd A outer s H E) d J H1 c)
 (k:Heap.MadeExcOf c.heap h' a (.ref C) j)(q:E (.ref C) none H1):(kD P w K mg base N qual scope f cd A outer s H E).xe (.ref a) {c with heap:=h'}:=by
 have B:(kD P w K mg base N qual scope f cd A outer s H E).env.frame=some s.heap.objs.size:=rfl;have R:∀b,b∈frs (kD P w K mg base N qual scope f cd A outer s H E).stack↔b=s.heap.objs.size\/b∈frs outer:=λb=>oO B;have ff:=I.stack;have n:∀env∈(kD P w K mg base N qual scope f cd A outer s H E).stack,∀b,env.frame=some b->b∈frs (kD P w K mg base N qual scope f cd A outer s H E).stack:=λenv T b p=>LH.mpr ⟨env,T,p⟩;have F:=PySem.W.funFrames_hide ff n;refine wpAny_leaves_madeW (base:=PySem.W.hideAll c.heap (frs (kD P w K mg base N qual scope f cd A outer s H E).stack)) (h:=c.heap) I.ok.frames B (λb o z=>PySem.W.of_hideAll _ z) F k λl t x Y X M=>?_;have r:∀b o,c.heap.get? b=some o->b∉frs (kD P w K mg base N qual scope f cd A outer s H E).stack->l.get? b=some o:=λb o z g=>x.1 b o (hideAll_get _ z g);have fm:∀b,b∈frs (kD P w K mg base N qual scope f cd A outer s H E).stack->∃o,c.heap.get? b=some o/\∀O,o.data≠.fields O:=λb p=>(F.mem p).2;have up:c.heap.UpToSlots l:=(Heap.UpToSlots.of_keeps k.keeps).trans M;have Q:Un (frs (kD P w K mg base N qual scope f cd A outer s H E).stack) [] H1 H1 c.heap l:=Du Un.refl (λb o z g _=>r b o z g) fm up;refine⟨a,C,H1,rfl,⟨I.os,I.bare,vG I Q,I.hok.tracked λb u S z L=>r b S L λm=>?_,I.hok.gone k.new,Dv I k.new,_,_,x,λb o z g i=>?_⟩,q⟩
 .have:=I.kF b m;rw[z]at this;cases this
 .have G:b∉frs (kD P w K mg base N qual scope f cd A outer s H E).stack:=λm=>by
   rcases i with⟨y,e⟩|⟨u,e⟩
   .rcases(R b).mp m with m|m
    .exact absurd (Fm e) (by rw[m];exact QP _)
    .exact g m
   .have:=I.kF b m;rw[e]at this;cases this
  have:∃o1,c.heap.get? b=some o1:=by
   rcases i with⟨y,e⟩|⟨u,e⟩
   .exact Un.there (show Un (frs outer) [] H H1 s.heap c.heap from I.base) b y e (by simp)
   .exact(I.hok b u e).thing
  obtain⟨o1,D⟩:=this;have U:=r b o1 D G;have v:l.get? b=some o:=z;rw[U]at v;cases v;exact hideAll_get _ D G
theorem Dw{g:List (Addr×Obj)}{G:St}{H1:Hp}{i s':Shared}{e:Value}(I:Inv (kD P w K mg base N qual scope f cd A outer s H E) g G H1 i)
 (S:jB P w (kD P w K mg base N qual scope f cd A outer s H E).stack H1 i E e s'):(kD P w K mg base N qual scope f cd A outer s H E).xe e s':=by
 obtain⟨a,C,n,rfl,F,q⟩:=S;obtain⟨B,Y,x,k⟩:=F.ZC;have t:(kD P w K mg base N qual scope f cd A outer s H E).env.frame=some s.heap.objs.size:=rfl;have Q:∀b,b∈frs (kD P w K mg base N qual scope f cd A outer s H E).stack↔b=s.heap.objs.size\/b∈frs outer:=λb=>oO t;refine wpAny_leaves_onW I.ok.frames t x λU h L=>?_;have fm:∀b,b∈frs (kD P w K mg base N qual scope f cd A outer s H E).stack->∃o,s'.heap.get? b=some o/\∀M,o.data≠.fields M:=λb T=>(x.2.2.1.mem T).2;have D:∀b u,n b=some u->b∉frs (kD P w K mg base N qual scope f cd A outer s H E).stack:=λb u z m=>by have l:=I.kF b m;obtain⟨o,R,_⟩:=I.stack.mem m|>.2;rw[F.un.free b o R l (by simp)]at z;cases z
 have O:=Du F.un (λb o z j c=>h.1 b o (k b o z j c)) fm L;refine⟨a,C,n,rfl,⟨F.os.trans I.os,F.bare,vG I O,F.hok.tracked λb u r z J=>h.1 b r (k b r J (D b u z) (.inr ⟨u,z⟩)),F.new,Dv I F.old,B,Y,h,λb o z j c=>?_⟩,q⟩;have Z:b∉frs (kD P w K mg base N qual scope f cd A outer s H E).stack:=λm=>by
  rcases c with⟨d,e⟩|⟨u,e⟩
  .rcases(Q b).mp m with m|m
   .exact absurd (Fm e) (by rw[m];exact QP _)
   .exact j m
  .exact D b u e m
 have y:(∃d,i.heap.get? b=some d)\/∃u,n b=some u:=by
  rcases c with⟨d,e⟩|z
  .exact .inl (Un.there (show Un (frs outer) [] H H1 s.heap i.heap from I.base) b d e (by simp))
  .exact .inr z
 have:∃o1,s'.heap.get? b=some o1:=by
  rcases y with⟨d,e⟩|⟨u,e⟩
  .exact F.un.there b d e (by simp)
  .exact(F.hok b u e).thing
 obtain⟨o1,l⟩:=this;have v:=k b o1 l Z y;have X:=h.1 b o1 v;have p:U.get? b=some o:=z;rw[X]at p;cases p;exact v
theorem K7:Passes (jB P w) (kD P w K mg base N qual scope f cd A outer s H E) E:=λ_ _ _ _ _ _ I h=>Dw I h
end
abbrev ZE:List Value:=[.type "ValueError",.type "Exception",.type "BaseException",.type "object"]
structure Wg(K:Frag)(C:Addr):Prop where
 exc:PySem.W.excIn K C ZE "ValueError.__new__"=true
 ga:findIn K (.ref C) "__getattribute__"=some (some (.builtin "BaseException.__getattribute__"))
 gt:findIn K (.ref C) "__getattr__"=some none
 cl:findIn K (.ref C) "__class__"=some (some (.builtin "object.__class__"))
 ob:mroIn K C (.type "object")=some true
 bs:mroIn K C (.type "BaseException")=some true
noncomputable def Dy(X:Cx)(R:Addr->Hp->Prop):Prop:=∀(b:List (Addr×Obj))(e:St)(H:Hp)(s:Shared)(d:Heap)(a C:Addr)(c:List Value),Inv X b e H s->Heap.MadeExcOf s.heap d a (.ref C) c->R C H->X.xe (.ref a) {s with heap:=d}
theorem zy{P:Program}{w:World}{K:Frag}{d:Str->Option Value}{base:Heap}{N:List Str}{c:Str}{a:Scope}{f:Addr}{g:Value}{A:Around}{b:List Env}{s:Shared}{H:Hp}{E:XK}:
 Dy (kD P w K d base N c a f g A b s H E) (λC H'=>E (.ref C) none H'):=λ_ _ _ _ _ _ _ _ I e q=>xX I e q
section
variable{X:Cx}{x:Str}{C:Addr}{e:Expr}{t:TA}{np cpos pos:Pos}{R:Addr->Hp->Prop}
end
theorem PS.m9{X:Cx}{st:Stmt}{t:TS}(h:PS X.m9 st t):PS X st t:=λa s b H D I c=>kA (h a s b H D (I.qL _) c) (λ_ _ q=>q.i8) λ_ _ z=>G2 z
theorem Dp.Wh{P:Program}{w:World}{K:Frag}{i:Str->Option Value}{base:Heap}{x b:Str}{st:Stmt}{f:Addr}{j:FuncData}{N ps:List Str}{k:Nat}{sp:Sp}(F:Dp K x b st f j)(S:cS N ps (ai st))
 (d:∀vs H Q E,sp vs H Q E->vs.length=ps.length)
 (o:∀(c:Value)(A:Around)(a:List Env)(s:Shared)(H:Hp)(vs:List V)(Q:VK)(E:XK),cU k (A.deeper (envOfC b (ai st) s.heap.objs.size f c))->sp vs H Q E->
   ∃t,vn (kD P w K i base N b (ai st) f c A a s H E) (aT st) t/\t {nx:=λ_ H'=>Q .aV H',rt:=Q} (start N vs) H):b9 P w K i base (jB P w) (k+1) f j ps sp:=by
 obtain⟨u,r,kV,p,q,y,c,v,l,e,m,g⟩:=F.ex;subst e;exact RX m g S d λA a s H vs Q E n h=>o c A a s H vs Q E n h
theorem b9.Se{P:Program}{w:World}{K:Frag}{c:Str->Option Value}{base:Heap}{k:Nat}{f:Addr}{d:FuncData}{ps:List Str}{sp:Sp}(F:b9 P w K c base (jB P w) k f d ps sp):
 b9 P w K c base Sb k f d ps (λvs H Q _=>sp vs H Q E0):=
 ⟨λvs H Q E h=>F.len vs H Q E0 h,λA a s H b g vs Q E i l j r h=>codeAny_mono (F.run A a s H b g vs Q E0 i l j r h) λr m z=>by
   cases r with
   |error e=>obtain⟨_,_,_,_,_,q⟩:=z;exact q.elim
   |ok fl=>cases fl<;>exact z⟩
noncomputable def FX(X:Cx)(a:List (Addr×Obj))(d:St)(E:XK)(e:Value)(s':Shared):Prop:=∃c b,Inv X a d c b/\jB X.prog X.w X.stack c b E e s'
section
variable{X:Cx}{k:Nat}{f:Addr}{fd:FuncData}{ps:List Str}{sp:Sp}{x:Str}{p pos:Pos}{e:Expr}{es:List Expr}{t:TA}
end
noncomputable def Sg(a C:Addr)(h:Heap):Prop:=∃b c,h.get? a=some b/\b.cls=.ref C/\b.data=.fields c
noncomputable def Wi(a C:Addr):HO:=.ext (Sg a C)
section
variable{X:Cx}{pins:List (Addr×Obj)}{σ:St}{H:Hp}{s:Shared}
end
section
variable{prog:Program}{w:World}{A:Around}{E:Value->Shared->Prop}{s:Shared}{K:Frag}{a C:Addr}
end
inductive Sh:V->Value->Prop where
 |own (D:Addr):Sh (.ref D) (.ref D)
 |ty (n:String):Sh (.ty n) (.type n)
noncomputable def l9(cells:List (Str×Addr)):List (Str×NameKind)->List (Str×Addr)->List (Str×Addr)
 |[],acc=>acc
 |(n,k)::r,acc=>l9 cells r (if k=.free then(n,(cells.lookup n).getD 0)::acc else acc)
theorem oQ{env:Env}:∀(l:List (Str×NameKind))(a:List (Str×Addr)),(∀p∈l,p.2=.free->∃c,env.cells.lookup p.1=some c)->
 (forIn l a λ(x:Str×NameKind)(cs:List (Str×Addr))=>if(x.2==NameKind.free)=true then(do let c<-cellOf env x.1;pure (Gr ((x.1,c)::cs)))else(pure (Gr cs):Sem _))=pure (l9 env.cells l a)
 |[],a,_=>rfl
 |(n,k)::r,a,h=>by
  have ih:=λa=>oQ (env:=env) r a λp g=>h p (Ee _ g);rw[List.forIn_cons];by_cases b:k=.free
  .obtain⟨c,i⟩:=h (n,k) FR b;have d:env.cells.lookup n=some c:=i;have e:cellOf env n=pure c:=by unfold cellOf;rw[d]
   have f:(k==NameKind.free)=true:=by simp[b]
   simp only[f,if_true,e,pure_bind,ih];simp only[l9,b,if_true,d,Gp]
  .have f:(k==NameKind.free)=false:=by simpa using b
   simp only[f,MJ,if_false,pure_bind,ih];simp only[l9,b,if_false]
theorem oR{a:Scope}{env:Env}(h:∀p∈a.names,p.2=.free->∃c,env.cells.lookup p.1=some c):closureFor a env=pure (l9 env.cells a.names []):=by have:=oQ (env:=env) a.names [] h;unfold closureFor;simp only[bind_pure];exact this
theorem vH{cells:List (Str×Addr)}:∀(l:List (Str×NameKind))(a:List (Str×Addr)),(∀p∈l,p.2=.free->∃c,cells.lookup p.1=some c)->(∀y c,a.lookup y=some c->cells.lookup y=some c)->
 ∀y c,(l9 cells l a).lookup y=some c->cells.lookup y=some c
 |[],_,_,ha,y,c,h=>ha y c h
 |(n,k)::r,a,hl,ha,y,c,h=>by
  refine vH r _ (λp i=>hl p (Ee _ i)) (λz d hz=>?_) y c h;by_cases b:k=.free
  .rw[Bi b,C2]at hz;obtain⟨m,g⟩:=hl (n,k) FR b;have f:cells.lookup n=some m:=g;split at hz
   .rename_i e
    have j:z=n:=by simpa using e
    subst j;rw[f]at hz⊢;exact hz
   .exact ha z d hz
  .rw[BM b]at hz;exact ha z d hz
theorem oS{cells:List (Str×Addr)}:∀(l:List (Str×NameKind))(a:List (Str×Addr))(y:Str),((a.lookup y).isSome=true\/(y,NameKind.free)∈l)->((l9 cells l a).lookup y).isSome=true
 |[],_,_,h=>h.elim id λz=>nomatch z
 |(n,k)::r,a,y,h=>by
  refine oS r _ y ?_;by_cases b:k=.free
  .rw[Bi b,C2];by_cases e:(y==n)=true
   .left;rw[e];rfl
   .rw[ej]at e;rw[e];rcases h with h|h
    .exact .inl h
    .rcases GE.mp h with h|h
     .have:y=n:=Pt Prod.fst h;subst this;simp at e
     .exact .inr h
  .rw[BM b];rcases h with h|h
   .exact .inl h
   .rcases GE.mp h with h|h
    .have:NameKind.free=k:=Pt Prod.snd h;exact absurd this.symm b
    .exact .inr h
theorem rZ{cells:List (Str×Addr)}:∀(l:List (Str×NameKind))(a:List (Str×Addr))(y:Str)(c:Addr),(l9 cells l a).lookup y=some c->(∃b,a.lookup y=some b)\/(y,NameKind.free)∈l
 |[],_,y,c,h=>.inl ⟨c,h⟩
 |(n,k)::r,a,y,c,h=>by
  rcases rZ r _ y c h with⟨b,h'⟩|h'
  .by_cases d:k=.free
   .rw[Bi d,C2]at h';split at h'
    .rename_i e
     have f:y=n:=by simpa using e
     subst f;subst d;exact .inr FR
    .exact .inl ⟨b,h'⟩
   .rw[BM d]at h';exact .inl ⟨b,h'⟩
  .exact .inr (Ee _ h')
theorem i9{env:Env}(d:env.scope.kind=.function):∀(l:List (Str×NameKind))(y:Str),
 (l.map λ(n,k)=>if(k==NameKind.free&&env.scope.kind==.function&&env.kindOf n==some .cell)then(n,NameKind.cell)else(n,k)).lookup y=(l.lookup y).map λk=>if(k==NameKind.free&&env.kindOf y==some .cell)=true then NameKind.cell else k
 |[],_=>rfl
 |(n,k)::r,y=>by
  have ih:=i9 d r y;have b:(env.scope.kind==ScopeKind.function)=true:=by rw[d];rfl
  rw[L9,C2];by_cases e:(y==n)=true
  .have f:y=n:=by simpa using e
   subst f;by_cases c:(k==NameKind.free&&env.kindOf y==some .cell)=true
   .have a:(k==NameKind.free&&env.scope.kind==.function&&env.kindOf y==some .cell)=true:=by rw[b,Zx];exact c
    simp only[a,if_true,C2,eM,Gq,c]
   .have a:¬(k==NameKind.free&&env.scope.kind==.function&&env.kindOf y==some .cell)=true:=by rw[b,Zx];exact c
    rw[BM a];simp only[C2,eM,Gq];rw[BM c]
  .rw[ej]at e;by_cases a:(k==NameKind.free&&env.scope.kind==.function&&env.kindOf n==some .cell)=true
   .simp only[a,if_true,e,C2];exact ih
   .rw[ej]at a;simp only[a,MJ,if_false,e,C2];exact ih
noncomputable def dM(sc c:Scope)(N a b:List Str):Bool:=
 sc.kind==.function&&b.all (λx=>sc.names.lookup x==some .local&&!a.contains x)&&
 sc.names.all (λp=>p.2 !=.cell&&(p.2 !=.local||sc.names.lookup p.1==some .local)&&(p.2 !=.free||(c.names.lookup p.1==some .cell&&sc.names.lookup p.1==some .free)))&&
 a.all (λy=>sc.names.lookup y !=some .local)&&(N.length==a.length&&(N.zip a).all (λp=>p.1==p.2||sc.names.lookup p.2==none))
structure gu(sc Qz:Scope)(N N' xs:List Str):Prop where
 kind:sc.kind=.function
 own:∀x∈xs,sc.names.lookup x=some .local/\x∉N'
 xY:∀p∈sc.names,p.2≠.cell
 loc:∀p∈sc.names,p.2=.local->sc.names.lookup p.1=some .local
 free:∀p∈sc.names,p.2=.free->Qz.names.lookup p.1=some .cell/\sc.names.lookup p.1=some .free
 out:∀y∈N',sc.names.lookup y≠some .local
 len:N.length=N'.length
 pair:∀(i:Nat)(y:Str),N'[i]?=some y->sc.names.lookup y≠none->N[i]?=some y
theorem gu.of{sc l:Scope}{N b d:List Str}(h:dM sc l N b d=true):gu sc l N b d:=by
 unfold dM at h;simp only[AN,Kj,oI,bne_iff_ne,P3,so,ne_eq]at h;obtain⟨⟨⟨⟨s,k⟩,c⟩,r⟩,q,o⟩:=h;refine⟨s,λx g=>⟨(k x g).1,λz=>?_⟩,λp a=>(c p a).1.1,λp a e=>?_,λp a e=>?_,r,q,λi y f m=>?_⟩
 .have:=(k x g).2;rw[List.contains_eq_mem]at this;simp[z]at this
 .rcases(c p a).1.2 with z|z
  .exact absurd e z
  .exact z
 .rcases(c p a).2 with z|z
  .exact absurd e z
  .exact z
 .have t:i<b.length:=(Fu.mp f).1;have j:N[i]?=some (N[i]'(by lia)):=B1 (by lia);have n:(N[i]'(by lia),y)∈N.zip b:=by refine Qb (i:=i) ?_;rw[List.getElem?_zip_eq_some];exact⟨j,f⟩
  rcases o _ n with z|z
  .rw[j];exact Pt some z
  .exact absurd z m
noncomputable def aU(X:Cx)(a:Scope)(C:Addr)(b d:List Str)(s:Shared)(H:Hp)(c:List Addr):Cx:=
 {X with N:=b++d,s₀:=s,H₀:=H,env:=compEnvC a (l9 X.env.cells a.names []) C X.env,outer:=X.stack,stack:=X.stack,ex:=c,fn:=λy=>b.contains y,pn:=[],xe:=λ_ _=>False}
section
variable{X:Cx}{pins:List (Addr×Obj)}{σ:St}{H:Hp}{s:Shared}{scope:Scope}{xs N':List Str}{fp:List Addr}
theorem jS(I:Inv X pins σ H s)(O:gu scope X.env.scope X.N N' xs):∀p∈scope.names,p.2=.free->∃c,X.env.cells.lookup p.1=some c:=λp a e=>I.ok.has p.1 (.inl (O.free p a e).1)
theorem gH(I:Inv X pins σ H s)(O:gu scope X.env.scope X.N N' xs)(y:Str):(relabel scope X.env).names.lookup y=(scope.names.lookup y).map λk=>if k=.free then NameKind.cell else k:=by
 unfold relabel;show(List.map _ scope.names).lookup y=_;rw[i9 I.ok.kind];cases e:scope.names.lookup y with
 |none=>rfl
 |some k=>
  rw[Gq,Gq];by_cases a:k=.free
  .subst a;have:=(O.free (y,.free) (SF e) rfl).1;have b:X.env.kindOf y=some .cell:=this;rw[b];rfl
  .rw[BM a,BM (by simp[a])]
theorem Dz{n:Heap}{Q:Nat}(I:Inv X pins σ H s)(O:gu scope X.env.scope X.N N' xs)(A:∀b∈fp,oH X pins H b)(D:∀b∈fp,b<s.heap.objs.size){K:Str->Option Value}
 (U:n.Ns s.heap.objs.size K)(g:∀b o,s.heap.get? b=some o->n.get? b=some o):
 Inv (aU X scope s.heap.objs.size xs N' s H fp) [] (xs.map (λ_=>none)++σ) H {s with heap:=n,toks:=Q}:=by
 have f:=vH (cells:=X.env.cells) scope.names [] (jS I O) (λy c z=>nomatch z);refine⟨⟨I.ok.mod,?_,I.ok.glob,I.ok.blt,D2 _,λx y c n F=>I.ok.inj x y c (f x c n) (f y c F),λy B=>?_,λy c n F=>?_,I.ok.hd,I.ok.frames,.inl rfl,λb j=>⟨On (D b j),λx c e=>(A b j).2.2.2.2.1 x c (f x c e)⟩,
  I.bs,Bz I.ok.GK I.sz,λb o e j=>?_,λb j z=>?_,I.stack,I.kF,I.ok.tree,I.ok.U1⟩,rfl,I.bare,Un.kept g,⟨K,U,λi y v e1 h e3=>?_⟩,λy c e=>?_,I.hok.fresh (D2 _),λy c e=>I.jG y c (f y c e),λp S=>absurd (show p∈([]:List (Addr×Obj))from S) (by simp),I.hok.kept g,?_⟩
 .show scope.kind=_;exact O.kind
 .have d:(relabel scope X.env).names.lookup y=some .cell\/(relabel scope X.env).names.lookup y=some .free:=B;rw[gH I O]at d;have a:scope.names.lookup y=some .free:=by
   cases e:scope.names.lookup y with
   |none=>rw[e]at d;rcases d with z|z<;>cases z
   |some k=>
    rw[e]at d;by_cases g:k=.free
    .rw[g]
    .rw[Gq,BM g]at d;rcases d with z|z
     .have:k=.cell:=Kt z;exact absurd this (O.xY (y,k) (SF e))
     .exact absurd (Kt z) g
  exact ag.mp (oS scope.names [] y (.inr (SF a)))
 .have E:(l9 X.env.cells scope.names []).lookup y=some c:=F;have B:y∈xs:=by have ZF:xs.contains y=true:=n;simpa using ZF
  rcases rZ scope.names [] y c E with⟨_,z⟩|z
  .cases z
  .have J:=(O.free (y,.free) z rfl).2;rw[(O.own y B).1]at J;cases J
 .have M:X.base.get? b=some o:=e;rcases(A b j).2.2.2.1 with z|z
  .exact I.ok.CO b o M z
  .exact absurd (FM (Fm M) (Bz I.ok.GK z)) (QP _)
 .rcases GE.mp (I.xE b z)with q|q
  .exact(A b j).2.1 q
  .exact(A b j).2.2.1 q
 .have G:(xs++N')[i]?=some y:=e1;by_cases L:i<xs.length
  .rw[KF (by simpa using L),DL]at h;cases q:xs[i]? with
   |none=>rw[q]at h;cases h
   |some z=>rw[q]at h;cases h
  .rw[Gc (by simpa using L)]at h;rw[Gc (by lia)]at G;rw[Ap]at h;have ZG:y∈N':=Qb G;have t:Ri (relabel scope X.env) y:=e3;unfold Ri at t;rw[gH I O]at t;have a:scope.names.lookup y=some .free:=by
    cases e:scope.names.lookup y with
    |none=>rw[e]at t;rcases t with z|z|z<;>cases z
    |some k=>
     rw[e]at t;by_cases g:k=.free
     .rw[g]
     .rw[Gq,BM g]at t;rcases t with z|z|z
      .have:k=.local:=Kt z;subst this;exact absurd e (O.out y ZG)
      .have:k=.cell:=Kt z;exact absurd this (O.xY (y,k) (SF e))
      .exact absurd (Kt z) g
   have P:=(O.free (y,.free) (SF a) rfl).1;obtain⟨m,T,Y⟩:=I.loc;have ZH:=O.pair _ y G (by rw[a];simp);obtain⟨u,r,l⟩:=Y _ y v ZH h (.inr (.inl P));refine⟨u,r,?_⟩;rcases l with⟨R,_⟩|⟨_,c,Z,o,C,hd⟩
   .have:X.env.scope.names.lookup y=some .local:=R;rw[P]at this;cases this
   .refine .inr ⟨.inl ?_,c,?_,o,g c o C,hd⟩
    .show(relabel scope X.env).names.lookup y=_;rw[gH I O,a];rfl
    .obtain⟨c',w⟩:=ag.mp (oS (cells:=X.env.cells) scope.names [] y (.inr (SF a)));have q:=f y c' w;rw[Z]at q;show(l9 X.env.cells scope.names []).lookup y=some c;rw[w,<-Kt q]
 .obtain⟨v,o,C,hd⟩:=I.cell y c (f y c e);exact⟨v,o,g c o C,hd⟩
 .show(xs.map (λ_=>none)++σ).length=(xs++N').length;rw[FS,FS,Ap,I.len,O.len]
end
noncomputable def PF(X:Cx)(d:List Expr)(t:TT):Prop:=
 ∀(a:List (Addr×Obj))(s:Shared)(b:St)(H:Hp)(Q:Bool->Hp->Prop),Inv X a b H s->t b H Q->
  wpAny (model X.prog X.w) X.A (forIn d true λc r=>if r=true then do let ok<-isTrue c X.env (eval c X.env);pure (Gr ok)else pure (Gr r)) (TP X a b Q) X.xe s
noncomputable def MK:TT:=λ_ H Q=>Q true H
theorem xZ{X:Cx}:PF X [] MK:=λ_ _ _ H _ I h=>wpAny_tests_nil ⟨H,I,h⟩
theorem ML{X:Cx}{c:Expr}{t:TT}(h:PT X c t):PF X [c] t:=λa s b H Q I q=>wpAny_tests_one (h a s b H Q I q)
noncomputable def zA(k:Nat)(q:TI)(g:TG)(tc:TT)(te:TE):TE:=λe H Q=>q e H λJ p=>∀D,p D=none->∃W:Nat->Nat->Hp->Prop,(∃m,W 0 m (upd p D (.lst [])))/\∀i m d,W i m d->
 (J.stop i d/\Q (.ref D) d)\/(J.go i d/\∀x o,J.RB i d x o->∀j:List (Option V),j.length=k->g x (j++e) o λa r=>∃h:List (Option V),h.length=k/\a=h++e/\
   tc a r λb n=>if b=true then te a n λy l=>∃f,l D=some (.lst f)/\f.length<sizeLine/\∃c,c<m/\W (i+1) c (upd l D (.lst (f++[y])))else∃c,c<m/\W (i+1) c n)
theorem tE{prog:Program}{w:World}{A:Around}{R:Result->Shared->Prop}{s:Shared}{u a l:Expr}{q:List Expr}{f:Scope}{pos:Pos}{E y:Value}{env:Env}(I:Nat->Shared->Prop)
 (z:∀n s,I n s->wpAny (model prog w) A (pyNext E) (λr e=>match r with
   |none=>R (.ok .next) e
   |some v=>wpAny (model prog w) A (letOwnedTupleGo a E v) (λ_ d=>wpAny (model prog w) A (assign a env v) (λ_ k=>
     wpAny (model prog w) A (forIn q true λc r=>if r=true then do let ok<-isTrue c env (eval c env);pure (Gr ok)else pure (Gr r)) (λok b=>
      if ok=true then wpAny (model prog w) A (eval u env) (λx j=>wpAny (model prog w) A (call (.builtin "list.append") [y,x]) (λ_ i=>∃m,m<n/\I m i) (λ_ _=>False) j) (λ_ _=>False) b
      else∃m,m<n/\I m b) (λ_ _=>False) k) (λ_ _=>False) d) (λ_ _=>False) e) (λ_ _=>False) s)
 (n:Nat)(h:I n s):
 codeAny (model prog w) A (.compLoop (.ListComp u [⟨a,l,q,0⟩] f pos) 0 E y env) R s:=by
 refine codeAny_loop rfl I (λn s F=>?_) n h;show wpAny _ A ((compTurn (.ListComp u [⟨a,l,q,0⟩] f pos) 0 E y env).onRaise (λx=>do noteFrame x env;theTreesLotGoes x)) _ _ s;refine wpAny_noted ?_;rw[compTurn_list];refine Hb (w8 (Hb (kA (z n s F) (λr e p=>?_) λ_ _ g=>g.elim)));cases r with
 |none=>exact Pm p
 |some v=>
  refine Hb (kA p (λ_ d t=>?_) λ_ _ g=>g.elim);refine Hb (kA t (λ_ k D=>Hb (kA D (λok b o=>?_) λ_ _ g=>g.elim)) λ_ _ g=>g.elim);cases ok with
  |false=>exact Pm ⟨rfl,o⟩
  |true=>exact Hb (Hb (kA o (λx j C=>Hb (kA C (λ_ i B=>Pm (Pm ⟨rfl,B⟩)) λ_ _ g=>g.elim)) λ_ _ g=>g.elim))
section
variable{X:Cx}
theorem oU{tg P Z:Expr}{U:List Expr}{scope:Scope}{t H:List Str}{pos:Pos}{g:TG}{tc:TT}{te:TE}(hc:X.calm=true)(O:gu scope X.env.scope X.N H t)
 (hg:∀C s0 H0 l,PG (aU X scope C t H s0 H0 l) tg g)(hf:∀C s0 H0 l,PF (aU X scope C t H s0 H0 l) U tc)(he:∀C s0 H0 l,PE (aU X scope C t H s0 H0 l) Z te)
 {v:List (Addr×Obj)}{B:St}{H1:Hp}{f:Shared}{it:Addr}{l:List Addr}{tn:Nat->Heap->Prop}{J:It}{Q:VK}{E:Value->Shared->Prop}{RR:Value->Addr->Result->Shared->Prop}
 (I2:Inv X v B H1 f)(T:Turn X.prog X.w X.K tg J l it tn)(st2:tn 0 f.heap)(f2:∀b∈l,oH X v H1 b)
 (h:∀D,H1 D=none->∃W:Nat->Nat->Hp->Prop,(∃m,W 0 m (upd H1 D (.lst [])))/\∀i m H2,W i m H2->
   (J.stop i H2/\Q (.ref D) H2)\/(J.go i H2/\∀x H3,J.RB i H2 x H3->∀F:List (Option V),F.length=t.length->g x (F++B) H3 λS H4=>∃L:List (Option V),L.length=t.length/\S=L++B/\
     tc S H4 λb I=>if b=true then te S I λy H6=>∃ys,H6 D=some (.lst ys)/\ys.length<sizeLine/\∃G,G<m/\W (i+1) G (upd H6 D (.lst (ys++[y])))else∃G,G<m/\W (i+1) G I))
 (hRR:∀D C s' H',(∃m,s'.heap.Ns C m)->(∀h',Heap.SameBut C s'.heap h'->Inv X v B H' {s' with heap:=h'})->f.heap.objs.size<=D->f.heap.objs.size<=C->H' C=none->Q (.ref D) H'->RR (.ref D) C (.ok .next) s'):
 wpAny (model X.prog X.w) X.A (newList []) (λacc s₃=>wpAny (model X.prog X.w) X.A (newFunctionEnv scope X.env.globals (l9 X.env.cells scope.names []) [] X.env.qual none .none (some X.env)) (λR s₄=>codeAny (model X.prog X.w) X.A (.compStart (.ListComp Z [⟨tg,P,U,0⟩] scope pos) 0 (.ref it) acc {R with scope:=relabel scope X.env}) (RR acc R.locals) s₄) E s₃) E f:=by
 refine wpAny_newObj_type (wpAny_newFunctionEnv O.xY (by intro y hy;simp at hy) (λs DA DB=>?_) O.kind);dsimp only at DA DB⊢;have hD:H1 f.heap.objs.size=none:=I2.hok.fresh (D2 _);obtain⟨W,⟨m0,w0⟩,turn⟩:=h f.heap.objs.size hD;have I3:Inv X v B (upd H1 f.heap.objs.size (.lst [])) {f with heap:=f.heap.push {cls:=.type "list",dict:=none,data:=.seq ([]:List Value).toArray}}:=
  I2.laid (t':=f.toks) (λb u e=>Da _ e) (D2 _) ⟨KB _,[],0,.nil,Iy _ rfl⟩
 have Wj:∀b∈l,b<f.heap.objs.size:=λb j=>by obtain⟨o,e,_⟩:=T.obj _ _ st2 b j;exact Fm e
 have f3:∀b∈l,oH X v (upd H1 f.heap.objs.size (.lst [])) b:=λb j=>by obtain⟨q0,q⟩:=f2 b j;exact⟨by rw[ak (On (Wj b j))];exact q0,q⟩
 generalize QA:({f with heap:=f.heap.push {cls:=.type "list",dict:=none,data:=.seq ([]:List Value).toArray}}:Shared)=k at I3;have r6:k.heap=f.heap.push {cls:=.type "list",dict:=none,data:=.seq ([]:List Value).toArray}:=by rw[<-QA]
 have Y:k.heap.objs.size=f.heap.objs.size+1:=by rw[r6,Heap.size_push]
 have old:∀b o,k.heap.get? b=some o->s.get? b=some o:=λb o e=>DB.extBut b o (by rw[<-r6];exact On (Fm e)) (Da _ (by rw[<-r6];exact e));have J4:Inv (aU X scope k.heap.objs.size t H k (upd H1 f.heap.objs.size (.lst [])) l) [] (t.map (λ_=>none)++B) (upd H1 f.heap.objs.size (.lst [])) {k with heap:=s,toks:=f.toks+([]:List (Str×Value)).length}:=
  Dz I3 O f3 (λb j=>by rw[Y];exact cq (Wj b j)) (by rw[r6];exact DA) old
 have ZI:({k with heap:=s,toks:=f.toks+([]:List (Str×Value)).length}:Shared)={f with heap:=s,toks:=f.toks+([]:List (Str×Value)).length}:=by rw[<-QA]
 rw[ZI]at J4;have X5:tn 0 s:=T.keep _ _ _ st2 λb j o e=>old b o (by rw[r6];exact Da _ e);have hC:(f.heap.push {cls:=.type "list",dict:=none,data:=.seq ([]:List Value).toArray}).objs.size=k.heap.objs.size:=by rw[r6]
 have Wk:∀{H':Hp},(∀b∈l,H' b=none)->∀b∈l,oH (aU X scope k.heap.objs.size t H k (upd H1 f.heap.objs.size (.lst [])) l) [] H' b:=λhn b j=>⟨hn b j,On (by rw[Y];exact cq (Wj b j)),J4.ok.CP b j,.inl j,λx c e=>((J4.ok.VC b j).2 x c e),λp hp=>absurd (show p∈([]:List (Addr×Obj))from hp) (by simp)⟩;have M:codeAny (model X.prog X.w) X.A (.compLoop (.ListComp Z [⟨tg,P,U,0⟩] scope pos) 0 (.ref it) (.ref f.heap.objs.size) (compEnvC scope (l9 X.env.cells scope.names []) k.heap.objs.size X.env))
  (RR (.ref f.heap.objs.size) k.heap.objs.size) {f with heap:=s,toks:=f.toks+([]:List (Str×Value)).length}:=by
  refine tE (λn s'=>∃(i:Nat)(F:List (Option V))(H':Hp),F.length=t.length/\Inv (aU X scope k.heap.objs.size t H k (upd H1 f.heap.objs.size (.lst [])) l) [] (F++B) H' s'/\tn i s'.heap/\(∀b∈l,H' b=none)/\W i n H') ?_ m0
   ⟨0,t.map (λ_=>none),_,Ap _,J4,X5,λb j=>(f3 b j).1,w0⟩
  rintro n s5 ⟨i,F,I,hv0,I5,Qy,U5,w5⟩;rcases turn i n I w5 with⟨stop,qn⟩|⟨go,step⟩
  .refine bV (T.done (aU X scope k.heap.objs.size t H k (upd H1 f.heap.objs.size (.lst [])) l) rfl rfl rfl hc i [] s5 (F++B) I _ I5 (Wk U5) Qy stop) ?_;rintro r s6 ⟨hr,I6⟩;subst hr;obtain⟨m,hnm,_⟩:=I6.loc;refine hRR _ _ s6 I ⟨m,hnm⟩ (λh' K8=>?_) (D2 _) (by rw[Y];exact wb _) I6.free qn;have Wm:∀b o,k.heap.get? b=some o->b≠k.heap.objs.size:=λb o e=>On (Fm e);have u:=I6.base;have ZJ:=I3.K0 (s':={s6 with heap:=h'}) (H':=I) (ch:=l) I6.os ⟨λb o e n j hx=>K8.extBut b _ (Wm b o e) (u.keep b o e n j hx),λb o e n j hx=>by
    obtain⟨sl,q⟩:=u.slot b o e n j hx;exact⟨sl,K8.extBut b _ (Wm b o e) q⟩,u.free,λb o e hx=>by
    obtain⟨o',q⟩:=u.there b o e hx;exact⟨o',K8.extBut b _ (Wm b o e) q⟩,u.tups,u.lX,u.nQ⟩ (λa o e=>?_) I6.bare (λb j=>?_)
   .exact ZJ
   .have X6:∀b u,I b=some u->b≠k.heap.objs.size:=λb u e z=>by subst z;have:=I6.free;have e2:I k.heap.objs.size=none:=this;rw[e2]at e;cases e
    refine(I6.hok a o e).stay (λb u j q=>K8.extBut b u ?_ q) (λ_ q=>q) λ_ _ q=>q;rcases j with rfl|j
    .exact X6 _ _ e
    .exact X6 _ _ j
   .obtain⟨q0,q1,q2,q3,q4,q5⟩:=f3 b j;exact⟨q3,q1,q4,q5⟩
  .refine bV (T.item (aU X scope k.heap.objs.size t H k (upd H1 f.heap.objs.size (.lst [])) l) rfl rfl rfl hc i [] s5 (F++B) I _ I5 (Wk U5) Qy go) ?_;rintro r s6 ⟨u,hr,h6⟩;subst hr;refine bV h6 ?_;rintro _ s7 ⟨x,H7,I7,r7,y7,Wn,ZK⟩;have ZL:=I7.pinned (Wk ZK) (T.obj _ _ Wn);refine bV (hg _ _ _ _ _ s7 (F++B) H7 x u _ ZL r7 (step x H7 y7 F hv0)) ?_;rintro _ s8 ⟨σ8,H8,I8,L,hv1,e8,q8⟩;subst e8;have fin:∀{s9:Shared}{H9:Hp},Inv (aU X scope k.heap.objs.size t H k (upd H1 f.heap.objs.size (.lst [])) l) ([]++oJ l s7.heap) (L++B) H9 s9->(∃G,G<n/\W (i+1) G H9)->
    ∃m,m<n/\∃(i:Nat)(F:List (Option V))(H':Hp),F.length=t.length/\Inv (aU X scope k.heap.objs.size t H k (upd H1 f.heap.objs.size (.lst [])) l) [] (F++B) H' s9/\tn i s9.heap/\(∀b∈l,H' b=none)/\W i m H':=λ{s9 H9} I9 ⟨G,hm,w9⟩=>by
    refine⟨G,hm,i+1,L,H9,hv1,I9.kH,T.keep _ _ _ Wn λb j o e=>(I9.pin (b,o) (Hn _ (Hn _ (ig j e)))).1,λb j=>?_,w9⟩;obtain⟨o,e,d⟩:=T.obj _ _ Wn b j;exact(I9.pin (b,o) (Hn _ (Hn _ (ig j e)))).2.1
   refine bV (hf _ _ _ _ _ s8 (L++B) H8 _ I8 q8) ?_;rintro ok s9 ⟨H9,I9,q9⟩;cases ok with
   |false=>exact fin I9 q9
   |true=>show wpAny _ _ _ _ _ _;refine bV (he _ _ _ _ _ s9 (L++B) H9 _ I9 q9) ?_;rintro y ZM ⟨vy,ZN,ZO,ZP,ys,hys,hl,ZQ⟩;refine bV (rW (X:=aU X scope k.heap.objs.size t H k (upd H1 f.heap.objs.size (.lst [])) l) _ ZM (L++B) ZN (.ref f.heap.objs.size) [vy] _ [y] (λ_ H'=>∃G,G<n/\W (i+1) G H') ZO rfl (.cons ZP .nil) ⟨_,ys,vy,rfl,rfl,hys,hl,ZQ⟩) ?_;rintro _ s11 ⟨_,H11,ZR,_,ZS⟩;exact fin ZR ZS
 rw[hC];exact codeAny_compStart_list M (T.self X.A 0 _ _ _ X5 M)
theorem zC{tg a i:Expr}{f:List Expr}{scope:Scope}(d k:List Str){pos:Pos}{p:TI}{g:TG}{tc:TT}{te:TE}(G:X.calm=true)(x:dM scope X.env.scope X.N k d=true)(hi:PI X tg a p)
 (B:∀C s0 j c,PG (aU X scope C d k s0 j c) tg g)(E:∀C s0 j c,PF (aU X scope C d k s0 j c) f tc)(F:∀C s0 j c,PE (aU X scope C d k s0 j c) i te)
 (t:∀z,foldedSetIterable a X.env z=pure z:=by intro _;rfl):PE X (.ListComp i [⟨tg,a,f,0⟩] scope pos) (zA d.length p g tc te):=by
 intro b s o H Q I h;have O:=gu.of x;rw[eval_ListComp];refine wpAny_comprehension_free (use:=none) rfl t (oR (jS I O)) O.kind O.loc (bV (hi b s o H _ I h) λv s1 M=>bV M λr s2 L=>?_);obtain⟨it,c,Z,J,H2,e,U,T,l,R,u⟩:=L;subst e;refine oU (RR:=λn C=>compPost (model X.prog X.w) X.A X.xe none (EP X b o Q) n C) G O B E F U T l R u ?_;rintro D C s' Y ⟨m,y⟩ K _ _ _ q;exact⟨m,y,λP S=>⟨.ref D,Y,K P S,rfl,q⟩⟩
end
theorem r8{a:List Bool}:∀{us:List Value},Vals (a.map V.bl) us->us=a.map Value.bool:=by
 induction a with
 |nil=>intro us r;rw[oe]at r;cases r;rfl
 |cons b a f=>
  intro us r;rw[L9]at r;cases r with
  |cons d c=>have e:_=Value.bool b:=d;rw[e,f c];rfl
theorem x6(d:List Bool):((Bn d.length).all λi=>(d[i]?).getD true)=d.all id:=by
 rw[kv,Kj,Kj];constructor
 .intro h b e;obtain⟨i,c,rfl⟩:=NA e;have:=h i (TK.mpr c);simp only[B1 c,Gp]at this;exact this
 .intro h i c;have a:=TK.mp c;simp only[B1 a,Gp];exact h _ (Sr a)
section
variable{X:Cx}
theorem BF(k:X.calm=true):cL X (.builtin "sum") (λa H Q=>∃(p:Addr)(ns:List Int),a=[.ref p]/\ie X.K H p (ns.map V.int)/\Q (.int ns.sum) H):=by
 intro d s o H a t Q I r h;obtain⟨p,ns,rfl,l,q⟩:=h;obtain⟨u,rfl,g⟩:=Vals.one r;cases(show u=Value.ref p from g);obtain⟨b,rv,i,_⟩:=I.list l;have f:=intsAre_of rv;obtain⟨a,e⟩:=f.allInts.items;have c:s.heap.IsList p (intItems a):=e▸i.isList;refine sum_intListG (I.ok.hd k) c λx v w j=>?_;have n:ns=a.toList.map (·.1):=by rw[<-nums_intItems,<-e];exact(show numsOf b.toArray.toList=ns from f.numsOf).symm
 have m:preSum (numAt a) a.size=ns.sum:=by rw[preSum_eq,vT (by simp),n]
 rw[m];exact⟨.int ns.sum,H,I.kept j,⟨_,rfl⟩,q⟩
theorem BG(y:X.calm=true):cL X (.builtin "all") (λj H Q=>∃(p:Addr)(c:List Bool),j=[.ref p]/\ie X.K H p (c.map V.bl)/\Q (.bl (c.all id)) H):=by
 intro k s E H j F Q I r h;obtain⟨p,c,rfl,B,q⟩:=h;obtain⟨u,rfl,n⟩:=Vals.one r;cases(show u=Value.ref p from n);obtain⟨a,rv,t,_⟩:=I.list B;have l:=r8 rv;have g:=t.isList;have f:p<s.heap.objs.size:=by obtain⟨_,e,_⟩:=g;exact Fm e
 refine call_all_walk (wpAny_pyIter_list g ?_);refine⟨s.heap.objs.size,[s.heap.objs.size,p],[s.heap.objs.size],a.toArray.size,_,_,λi=>(c[i]?).getD true,rfl,Walks.list (A:=X.A.in1) (I.ok.hd y) _ p (On f) a.toArray,
  ⟨⟨_,Iy _ rfl,rfl,rfl⟩,g.push _⟩,λi v J M N C m=>?_,λL G x=>?_⟩
 .have d:a[i]?=some v:=by simpa using C
  rw[l,DL]at d;cases e:c[i]? with
  |none=>rw[e]at d;cases d
  |some b=>rw[e]at d;simp only[e,Gp]at m;have:v=Value.bool b:=(Kt d).symm;subst this;exact d6 m
 .have e:((Bn a.toArray.size).all λi=>(c[i]?).getD true)=c.all id:=by
   have D:a.toArray.size=c.length:=by rw[Fs,l,Ap]
   rw[D];exact x6 c
  rw[e];exact⟨.bl _,H,I.kept λb o z=>x b o (λw=>by rw[FK.mp w]at z;exact QP _ (Fm z)) (Da _ z),rfl,q⟩
theorem zD{i:Nat}{x:Str}{tg f r:Expr}{k:List Expr}{scope:Scope}{d pos t:Pos}(F M:List Str){wi:TI}{g:TG}{tc:TT}{te:TE}(hN:X.N.Nodup)(hi:X.N[i]?=some x)(B:Loc X.env.scope x)(hc:X.calm=true)(ho:dM scope X.env.scope X.N M F=true)(K9:PI X tg f wi)
 (hg:∀C s0 L G,PG (aU X scope C F M s0 L G) tg g)(hf:∀C s0 L G,PF (aU X scope C F M s0 L G) k tc)(he:∀C s0 L G,PE (aU X scope C F M s0 L G) r te)
 (Y:swapsWith (.ListComp r [⟨tg,f,k,0⟩] scope pos) (some (.Name x d)) t.line X.env=pure true:=by rfl)
 (hs:∀z,foldedSetIterable f X.env z=pure z:=by intro _;rfl)(hfn:X.fn x=true\/X.env.scope.names.lookup x=some .local:=by first|exact .inl rfl|exact .inr rfl|assumption):
 PS X (.Assign [.Name x d] (.ListComp r [⟨tg,f,k,0⟩] scope pos) t) (lY (zA F.length wi g tc te) (fK i)):=by
 intro j s P H W I h;have O:=gu.of ho;rw[exec_Assign_Name_used _ _ _ _ Y];refine Hb (w8 (Hb ?_));show wpAny _ X.A (do let _<-comprehension (.ListComp r [⟨tg,f,k,0⟩] scope pos) scope X.env _ (newList []) false (eval f X.env) (some (assign (.Name x d) X.env))) _ _ s;refine Hb (kA (wpAny_comprehension_free (use:=some (assign (.Name x d) X.env)) (Q:=λ_ s'=>SP X j W .next s') rfl hs (oR (jS I O)) O.kind O.loc (bV (K9 j s P H _ I h) λv s1 h1=>bV h1 λitv s2 h2=>?_)) (λ_ s' hq=>Pm (Pm hq)) λ_ _ e=>e);obtain⟨it,G,tn,J,H2,e,K,T,R,f2,hq⟩:=h2;subst e;refine oU (Q:=λx H1=>fK i x P H1 W.nx) (RR:=λacc C=>compPost (model X.prog X.w) X.A X.xe (some (assign (.Name x d) X.env)) (λ_ s'=>SP X j W .next s') acc C) hc O hg hf he K T R f2 hq ?_;rintro D C s' H' ⟨m,hm⟩ hI _ hC fC q;have I':Inv X j P H' s':=hI s'.heap ⟨rfl,λ_ _=>rfl⟩;have U:∀b o,s2.heap.get? b=some o->b≠C:=λb o e=>On (FM (Fm e) hC);have nL:C≠X.env.locals:=λe=>by obtain⟨m2,hn2,_⟩:=K.loc;obtain⟨o,_,_,ho2,_⟩:=hn2;exact U _ o ho2 e.symm
 have nC:∀y c,X.env.cells.lookup y=some c->c≠C:=λy c e z=>by obtain⟨v,o,e1,_⟩:=K.cell y c e;exact U _ o e1 z
 have nP:∀p∈X.pn++j,p.1≠C:=λp hp z=>U _ _ (K.pin p hp).1 z;show wpAny _ X.A (assign (.Name x d) X.env (.ref D)) _ _ _;refine wpAny_assign_Name (rO I' hN hi B (v:=.ref D) rfl (λS Wo Z=>?_) hfn);obtain⟨a,K8,ha⟩:=Z;have aC:a≠C:=by
  rcases ha with rfl|ha
  .exact SC nL
  .exact nC x a ha
 refine⟨m,hm.sameBut K8 (SC aC),λh' l=>⟨_,H',?_,q⟩⟩;refine Wo.K0 (s':={S with heap:=h'}) (H':=H') (ch:=[C]) rfl ⟨λb o e n E B=>l.extBut b o (λz=>B (by rw[z];exact FK.mpr rfl)) e,λb o e n E B=>⟨o.slots,l.extBut b o (λz=>B (by rw[z];exact FK.mpr rfl)) e⟩,λb o e n B=>n,λb o e B=>⟨o,l.extBut b o (λz=>B (by rw[z];exact FK.mpr rfl)) e⟩,λb F q=>q,λb o u q=>q,λb ps q=>⟨#[],by rw[Array.append_empty];exact q⟩⟩ (λa o e=>?_) Wo.bare (λb E=>?_)
 .refine(Wo.hok a o e).stay (λb u E q=>l.extBut b u ?_ q) (λ_ q=>q) λ_ _ q=>q;rintro rfl;rcases E with rfl|E
  .rw[fC]at e;cases e
  .rw[fC]at E;cases E
 .rw[FK.mp E];exact⟨.inr (Bz K.sz hC),nL,λy c e z=>nC y c e z,nP⟩
theorem Hi:V7 X "int.bit_length" (λx b H Q=>∃i:Int,x=.int i/\b=[]/\Q (.int (Builtin.Int.intBits i:Nat)) H):=by intro a s c H x b v e Q I d rv h;obtain⟨i,rfl,rfl,q⟩:=h;obtain⟨t,rfl⟩:=d;cases rv;exact call_gives F.slot_int_bit_length (typeIs_int s i t) F.entry_int_bit_length (F.args_int_bit_length_1 _) (PySem.AutoIntG2.int_bit_length_int_0 i t) (show EP X a c Q (.int _ _) _ from⟨.int _,H,I.tok _,⟨_,rfl⟩,q⟩)
noncomputable def U7(lo st:Int)(n:Nat):It:=⟨λi _=>i<n,λi H x a=>a=H/\x=.int (lo+i*st),λi _=>n<=i⟩
theorem vI{P:Program}{w:World}{K:Frag}{tg:Expr}(c:Addr)(lo st:Int)(n:Nat):Turn P w K tg (U7 lo st n) [c] c (λi h=>IsRangeIter h c (lo+(i:Nat)*st) ((n:Int) -(i:Nat)) st)where
 mem:=by simp
 obj:=λi h st b d=>by
  have e:b=c:=by simpa using d
  subst e;exact⟨_,st,λv z=>by have G:Data.fields _=Data.cell v:=z;cases G⟩
 keep:=λi h j st k=>k c (by simp) _ st
 item:=by intro X q l r p i a s D H E I g C m;subst q l r;obtain⟨B,A,M,y,x,u⟩:=g c (by simp);have W:=Walks.range (prog:=X.prog) (w:=X.w) (I.ok.hd p) c lo st n;refine W.item i s _ _ m C λv j F L f J=>?_;obtain⟨t,rfl⟩:=L;have I1:Inv X a D H {s with heap:=j,toks:=F}:=I.turned (λb o d e=>J b o (by simpa using d) e) B A y x u;exact⟨_,rfl,vt (s:={s with heap:=j,toks:=F}) (n:="range_iterator") f rfl rfl (by decide) ⟨.int (lo+i*st),H,I1,⟨t,rfl⟩,⟨rfl,rfl⟩,f,λb d=>(g b d).1⟩⟩
 done:=by intro X q l r p i a s D H E I g C m;subst q l r;obtain⟨B,A,M,y,x,u⟩:=g c (by simp);exact wpAny_pyNext_range_end (I.ok.hd p) C (by have:n<=i:=m;omega) λj N=>⟨rfl,I.turned (t':=s.toks) (λb o d e=>N b o d e) B A y x u⟩
 self:=λ_ _ _ _ _ st h=>wpAny_pyIter_rangeiter st h
theorem BH{tg:Expr}{a:List (Addr×Obj)}{c:St}{H:Hp}{s:Shared}{R:It->Hp->Prop}{E:Value->Shared->Prop}{lo hi st:Int}{n:Nat}{t u v:Tok}{d:Nat}(I:Inv X a c H s)(f:Builtin.Range.small lo hi st=true)(g:Builtin.Range.rangeSize lo hi st=(n:Int))
 (q:R (U7 lo st n) H):wpAny (model X.prog X.w) X.A (pyIter (.ref s.heap.objs.size)) (VU X a c tg R) E {s with heap:=s.heap.push {cls:=.type "range",data:=.fields #[.int lo t,.int hi u,.int st v]},toks:=d}:=by
 refine wpAny_pyIter_range (IsRange.new ..) f ?_;have I1:Inv X a c H {s with heap:=s.heap.push {cls:=.type "range",data:=.fields #[.int lo t,.int hi u,.int st v]},toks:=d}:=I.kept λb o e=>Da _ e;refine⟨(s.heap.push {cls:=.type "range",data:=.fields #[.int lo t,.int hi u,.int st v]}).objs.size,[(s.heap.push {cls:=.type "range",data:=.fields #[.int lo t,.int hi u,.int st v]}).objs.size],_,_,H,rfl,
  I1.kept (t':=d) λb o e=>Da _ e,vI _ lo st n,?_,λb h=>?_,q⟩
 .have j:lo+((0:Nat):Int)*st=lo:=by simp
  have i:(n:Int) -((0:Nat):Int)=Builtin.Range.rangeSize lo hi st:=by rw[g];simp
  show IsRangeIter _ _ (lo+((0:Nat):Int)*st) ((n:Int) -((0:Nat):Int)) st;rw[j,i];exact Iy _ rfl
 .have e:b=(s.heap.push {cls:=.type "range",data:=.fields #[.int lo t,.int hi u,.int st v]}).objs.size:=by simpa using h
  subst e;exact I1.vp (D2 _) (I1.hok.fresh (D2 _))
noncomputable def Si(ta:TA):TI:=λa H R=>ta a H λb c=>∃(i j k:Int)(n:Nat),b=[.int i,.int j,.int k]/\(k≠0/\k.natAbs<1073741824/\Builtin.Range.small i j k=true/\Builtin.Range.rangeSize i j k=(n:Int))/\R (U7 i k n) c
theorem BJ{tg a b c:Expr}{ta:TA}{p pos:Pos}(C:Gl X "range")(B:X.mg "range"=none)(D:PA X [a,b,c] ta)(A:starEach [a,b,c] X.env=[(false,eval a X.env),(false,eval b X.env),(false,eval c X.env)]:=by rfl)(g:starEach [b,c] X.env=[(false,eval b X.env),(false,eval c X.env)]:=by rfl):
 PI X tg (.Call (.Name "range" p) [a,b,c] [] pos) (Si ta):=by
 intro f s o H R I h;refine Call_ (gq I C B boot_range (SB (bV (D pos f s o H _ I h) λF J ⟨E,K,I1,v,m⟩=>?_) (by rw[A,g]) (by rw[g];rfl)));obtain⟨i,j,k,n,e,⟨m,z,y,x⟩,q⟩:=m;subst e;cases v with
 |cons r d=>
  cases d with
  |cons w d=>
   cases d with
   |cons l d=>
    cases d;obtain⟨t,rfl⟩:=r;obtain⟨G,rfl⟩:=w;obtain⟨u,rfl⟩:=l;exact call_range_3 m (BH I1 y x q) (.inl (Up z))
end
end L2
namespace L2
open PySem
end L2
namespace L2
open PySem PySem.Spec PyProof.Rows
noncomputable def Dt(X:Cx)(H:Hp)(x:V)(d:PyData):Prop:=
 ∀(a:List (Addr×Obj))(b:St)(s:Shared)(u:Value),Inv X a b H s->RelV x u->∃c,Reads s.heap u d c
section
variable{X:Cx}{H:Hp}
theorem MM(i:Int):Dt X H (.int i) (.int i):=λ_ _ s u _ r=>by obtain⟨t,rfl⟩:=r;exact⟨_,.int i t⟩
theorem Sj(b:Bool):Dt X H (.bl b) (.bool b):=λ_ _ s u _ r=>by
 cases(show u=Value.bool b from r);exact⟨_,.bool b⟩
theorem MN(x:Str):Dt X H (.str x) (.str x):=λ_ _ s u _ r=>by obtain⟨t,rfl⟩:=r;exact⟨_,.str x t⟩
theorem MO:Dt X H .aV .none:=λ_ _ s u _ r=>by
 cases(show u=Value.none from r);exact⟨_,.none⟩
theorem x8{a:List (Addr×Obj)}{d:St}{s:Shared}(I:Inv X a d H s):∀{b:List V}{ds:List PyData}{us:List Value},Paired (Dt X H) b ds->Vals b us->∃c,ReadsAll s.heap us ds c
 |_,_,_,.nil,.nil=>⟨_,.nil⟩
 |_,_,_,.cons h t,.cons r e=>by obtain⟨c,q⟩:=h _ _ _ _ I r;obtain⟨g,f⟩:=x8 I t e;exact⟨_,.cons q f⟩
theorem DC{a:Addr}{c:List V}{ds:List PyData}(h:ie X.K H a c)(b:Paired (Dt X H) c ds):Dt X H (.ref a) (.list ds):=λ_ _ s u I r=>by
 cases(show u=Value.ref a from r);obtain⟨e,rv,d,_⟩:=I.list h;obtain⟨j,q⟩:=x8 I b rv;obtain⟨o,f,i,n,g⟩:=d.isList;exact⟨_,.list f i g (by simpa using q)⟩
theorem MP{a:Addr}{c:List V}{ds:List PyData}(h:kC X.K H a c)(b:Paired (Dt X H) c ds):Dt X H (.ref a) (.tuple ds):=λ_ _ s u I r=>by
 cases(show u=Value.ref a from r);obtain⟨d,rv,e,_⟩:=I.tuple h;obtain⟨j,q⟩:=x8 I b rv;obtain⟨o,f,i,n,g⟩:=e;exact⟨_,.tuple f i g (by simpa using q)⟩
noncomputable def Wr(X:Cx):R2:=λx y H Q=>∃b a,Dt X H x b/\Dt X H y a/\(SeqAt.shaped b=true/\SeqAt.shaped a=true/\SeqAt.noMix b a=true)/\Q (.bl (PySem.Spec.same b a)) H
noncomputable def Ws(X:Cx):R2:=λx y H Q=>∃b a,Dt X H x b/\Dt X H y a/\(SeqAt.shaped b=true/\SeqAt.shaped a=true/\SeqAt.noMix b a=true)/\Q (.bl (!PySem.Spec.same b a)) H
theorem MQ(j:X.A.units+64<cLine):l6 X (compareOp .Eq) (Wr X):=by intro a s m H x y v u Q I c b h;obtain⟨o,n,l,k,⟨i,g,f⟩,q⟩:=h;obtain⟨r,e⟩:=l _ _ _ _ I c;obtain⟨p,d⟩:=k _ _ _ _ I b;exact eq_dataH_same e d i g j f ⟨.bl _,H,I,rfl,q⟩
theorem MR(j:X.A.units+64<cLine):l6 X (compareOp .NotEq) (Ws X):=by intro a s m H x y v u Q I c b h;obtain⟨o,n,l,k,⟨i,g,f⟩,q⟩:=h;obtain⟨r,e⟩:=l _ _ _ _ I c;obtain⟨p,d⟩:=k _ _ _ _ I b;exact ne_dataH_same e d i g j f ⟨.bl _,H,I,rfl,q⟩
end
noncomputable def Wt(K:Frag)(a:Addr):It:=⟨λi H=>∃b x,ie K H a b/\b[i]?=some x,λi H x c=>∃p y,H p=none/\x=.ref p/\c=upd H p (.tup [.int i,y])/\∀b,ie K H a b->b[i]?=some y,λi H=>∃b,ie K H a b/\b.length=i⟩
theorem Inv.Sk{X:Cx}{a:List (Addr×Obj)}{l:St}{H:Hp}{s:Shared}{h':Heap}{t':Nat}{ch:List Addr}{p:Addr}{h:List V}(I:Inv X a l H s)(j:∀b∈ch,oH X a H b)
 (k:∀b o,b∉ch->s.heap.get? b=some o->h'.get? b=some o)(t:s.heap.objs.size<=p)(i:cE X.prog X.w (upd H p (.tup h)) h' p (.tup h))(M:∀b∈ch,∃o,h'.get? b=some o):Inv X a l (upd H p (.tup h)) {s with heap:=h',toks:=t'}:=by
 have f:H p=none:=I.hok.fresh t;have x:∀b u,H b=some u->b∉ch:=λb u e z=>by rw[(j b z).1]at e;cases e
 have K:∀b o,s.heap.get? b=some o->b≠p:=λb o e z=>absurd (FM (Fm e) t) (by rw[z];exact QP _);refine I.step (g':=s.gens) (d':=s.drawn) (ch:=ch) (λb g=>?_) (λb o _ _ d e _=>k b o d e) (λb o _ _ d e _=>⟨o.slots,k b o d e⟩) (λb o _ e n=>by rw[ak (K b o e)];exact n)
  (λb o d e=>⟨o,k b o d e⟩) (λb y e=>by rw[ak (aW e f)];exact e) (λb o u e=>by rw[ak (aW e f)];exact e) (λb L e=>⟨#[],by rw[ak (aW e f),e];simp⟩) (λm B=>?_) (λb u e=>?_) I.bare
 .obtain⟨O,F,N,E,D,C⟩:=j b g;exact⟨E,F,D,C⟩
 .obtain⟨o,G,J,A,r⟩:=B;exact⟨o,G,J,k _ o (λz=>(j _ z).2.1 rfl) A,r⟩
 .by_cases g:b=p
  .subst g;rw[aF]at e;cases e;exact i
  .rw[ak g]at e;refine(I.hok b u e).stay (λc v d q=>k c v ?_ q) (λc q=>by rw[ak (aW q f)];exact q) λc y q=>by rw[ak (aW q f)];exact q
   rcases d with z|z
   .rw[z];exact x b u e
   .exact x c _ z
theorem BK{P:Program}{w:World}{K:Frag}{C:List Expr}{kk:Nat}{pos:Pos}(a e l:Addr)(R:e≠l):
 Turn P w K (.Tuple C kk pos) (Wt K a) [e,l] e (λi h=>(∃f,IsEnum h e l i f)/\h.IsListIter l a i)where
 mem:=by simp
 obj:=λi h q b m=>by
  obtain⟨⟨f,n⟩,o,r,c,d⟩:=q;rcases GE.mp m with z|z
  .subst z;exact⟨_,n,λv z=>by cases z⟩
  .rw[FK.mp z];exact⟨o,r,λv z=>by rw[d]at z;cases z⟩
 keep:=λi h h' q k=>by obtain⟨⟨f,n⟩,F⟩:=q;exact⟨⟨f,k e (by simp) _ n⟩,F.at λo x=>k l (by simp) o x⟩
 item:=by
  intro X hP hw hK hc i M s σ H E I L q hg;subst hP hw hK;obtain⟨xs,x,Y,U⟩:=hg;obtain⟨j,rv,p,hz⟩:=I.list Y;obtain⟨u,hu,ru⟩:=rv.get U;obtain⟨⟨f,n⟩,F⟩:=q;have hit:=L l (by simp);have hee:=L e (by simp);have G:a≠l:=λz=>by obtain⟨o,r,c,d⟩:=F;obtain⟨o',g,J,_⟩:=p.isList;rw[z,r]at g;cases g;rw[c]at J;exact absurd J (by decide)
  have ZU:a≠e:=λz=>by obtain⟨o',g,J,_⟩:=p.isList;have B:s.heap.get? e=some _:=n;rw[z,B]at g;cases g;exact absurd (show Value.type "enumerate"=Value.type "list"from J) (by decide)
  have D:=Draws.list (prog:=X.prog) (w:=X.w) (A:=X.A.in1) (I.ok.hd hc) l a G j.toArray;have W:=WalksT.enumerateD D e R (by simp[R,ZU.symm]) (by simp);have hlt:i<j.toArray.size:=by have:=(Fu.mp hu).1;simpa using this
  refine W.item i s _ _ hlt ⟨⟨f,n⟩,F,p.isList⟩ λT vals h' tk ZV hT Wu Sl hk=>?_;obtain⟨t,y,Z,rfl⟩:=ZV;have ZW:y=u:=by
   have:j[i]?=some y:=by simpa using Z
   rw[hu]at this;exact(Kt this).symm
  subst ZW;refine⟨.ref T,rfl,W.go C kk pos i T _ _ _ Sl λS hst Q=>?_⟩;have X7:T∉[e,l]:=W.apart i T h' Sl;obtain⟨⟨N,B⟩,O,_⟩:=hst;have Sn:IsTup S T #[.int i t,y]:=by obtain⟨o,r,c⟩:=Wu;exact⟨o,Q T o X7 r,c⟩
  have obj:cE X.prog X.w (upd H T (.tup [.int i,x])) S T (.tup [.int i,x]):=⟨rY (by show 2<=100000;decide),[.int i t,y],.cons ⟨t,rfl⟩ (.cons ru .nil),Sn⟩;have I2:=I.Sk (t':=tk) (ch:=[e,l]) L (λb o m eo=>Q b o m (hk b o m eo)) hT obj (λb m=>by
   rcases GE.mp m with z|z
   .rw[z];exact⟨_,B⟩
   .rw[FK.mp z];obtain⟨o,r,_⟩:=O;exact⟨o,r⟩)
  refine⟨.ref T,upd H T (.tup [.int i,x]),I2,rfl,⟨T,x,I.hok.fresh hT,rfl,rfl,λys Z=>by rw[I.oG Z Y];exact U⟩,⟨⟨N,B⟩,O⟩,λb m=>?_⟩;rw[ak (show b≠T from λz=>X7 (by rw[<-z];exact m))];exact(L b m).1
 done:=by
  intro X hP hw hK hc i M s σ H E I L q hg;subst hP hw hK;obtain⟨xs,Y,U⟩:=hg;obtain⟨j,rv,p,hz⟩:=I.list Y;obtain⟨⟨f,n⟩,F⟩:=q;obtain⟨f0,f1,f2,f3,f4,f5⟩:=L l (by simp);have G:a≠l:=λz=>by obtain⟨o,r,c,d⟩:=F;obtain⟨o',g,J,_⟩:=p.isList;rw[z,r]at g;cases g;rw[c]at J;exact absurd J (by decide)
  have D:=Draws.list (prog:=X.prog) (w:=X.w) (A:=X.A.in1) (I.ok.hd hc) l a G j.toArray;have hn:j.toArray.size=i:=by rw[Fs,<-rv.length];exact U
  exact wpAny_pyNext_enum_endD D n ⟨by rw[hn];exact F,p.isList⟩ λh' eb=>⟨rfl,I.turned (t':=s.toks) (λb o m x=>eb b o m x) f0 f1 f3 f4 f5⟩
 self:=λ_ _ _ _ _ q h=>by obtain⟨⟨f,n⟩,_⟩:=q;exact wpAny_pyIter_enum n h
section
variable{X:Cx}
noncomputable def So(K:Frag)(ta:TA):TI:=λc H R=>ta c H λe b=>∃a,e=[.ref a]/\(∃d,ie K b a d)/\R (Wt K a) b
theorem Hj{a:Expr}{ta:TA}{f:List Expr}{t:Nat}{k p pos:Pos}(E:Gl X "enumerate")(B:X.mg "enumerate"=none)(G:PA X [a] ta)(w:bootBuiltins "enumerate"=some (.type "enumerate"):=by rfl)(y:starEach [a] X.env=[(false,eval a X.env)]:=by rfl):
 PI X (.Tuple f t k) (.Call (.Name "enumerate" p) [a] [] pos) (So X.K ta):=by
 intro c s g H R I h;refine Call_ (gq I E B w (SB (bV (G pos c s g H _ I h) λO d ⟨N,j,I1,n,o⟩=>?_) y rfl));obtain⟨l,e,⟨M,A⟩,q⟩:=o;subst e;obtain⟨u,rfl,m⟩:=Vals.one n;cases(show u=Value.ref l from m);obtain⟨v,rv,r,_⟩:=I1.list A;refine call_enumerate_list r.isList λJ i C x D=>?_;refine wpAny_pyIter_enum i ?_;have L:Inv X c g j {d with heap:=J}:=I1.kept (t':=d.toks) D;refine⟨d.heap.objs.size+1,[d.heap.objs.size+1,d.heap.objs.size],_,_,j,rfl,L,BK l (d.heap.objs.size+1) d.heap.objs.size (Nat.succ_ne_self _),⟨⟨_,i⟩,C⟩,λb F=>?_,q⟩;rcases GE.mp F with z|z
 .rw[z];exact I1.vp (by lia) (I1.hok.fresh (by lia))
 .rw[FK.mp z];exact I1.vp (D2 _) (I1.hok.fresh (D2 _))
end
noncomputable def Wv(K:Frag)(a:Addr)(n:Nat):It:=
 ⟨λi H=>∃b,ie K H a b/\b.length=n/\i<n,λi H x c=>c=H/\∀b,ie K H a b->b.length=n->b[n -1 -i]?=some x,λi _=>i=n⟩
theorem DE{P:Program}{w:World}{K:Frag}{tg:Expr}(a l:Addr)(n:Nat):Turn P w K tg (Wv K a n) [l] l (λi h=>h.IsRevIter l a ((n:Int) -1 -(i:Int)))where
 mem:=by simp
 obj:=λi h f b m=>by
  have e:b=l:=by simpa using m
  subst e;obtain⟨o,e,c,d⟩:=f;refine⟨o,e,λv z=>?_⟩;rw[d]at z;cases z
 keep:=λi h r f k=>f.at λo e=>k l (FK.mpr rfl) o e
 item:=by
  intro X B t C R i g s M H E I q f A;subst B t C;obtain⟨N,Q,hn,hi⟩:=A;obtain⟨U,rv,p,hz⟩:=I.list Q;have O:N[n -1 -i]?=some (N[n -1 -i]'(by omega)):=B1 (by omega);obtain⟨u,Z,T⟩:=rv.get O;obtain⟨L,J,f2,G,F,D⟩:=q l (FK.mpr rfl);have e:(n:Int) -1 -(i:Int)=((n -1 -i:Nat):Int):=by omega
  rw[e]at f;refine wpAny_pyNext_rev_item f p.isList (x:=u) (by simpa using Z) λr j S=>?_;have e2:((n -1 -i:Nat):Int) -1=(n:Int) -1 -((i+1:Nat):Int):=by omega
  rw[e2]at j;have I1:Inv X g M H {s with heap:=r}:=I.turned (t':=s.toks) (λb o m z=>(S.2 b m).trans z) L J G F D;obtain⟨o,e3,c,d⟩:=id j;exact⟨u,rfl,vt (s:={s with heap:=r}) e3 c d (by decide) ⟨_,H,I1,T,⟨rfl,λys Y _=>by rw[I.oG Y Q];exact O⟩,j,λb m=>(q b m).1⟩⟩
 done:=by
  intro X B t C R i g s M H E I q f A;subst B t C;have y:i=n:=A;subst y;obtain⟨L,J,f2,G,F,D⟩:=q l (FK.mpr rfl);have e:(i:Int) -1 -(i:Int)= -1:=by omega
  rw[e]at f;exact wpAny_pyNext_rev_end (I.ok.hd R) f λr eb=>⟨rfl,I.turned (t':=s.toks) (λb o m z=>eb b o m z) L J G F D⟩
 self:=λ_ _ _ _ _ f h=>wpAny_pyIter_revIter f h
section
variable{X:Cx}{tg:Expr}
noncomputable def Ww(K:Frag)(ta:TA):TI:=λd H R=>ta d H λe c=>∃a b,e=[.ref a]/\ie K c a b/\R (Wv K a b.length) c
theorem MS{a:Expr}{ta:TA}{p pos:Pos}(y:Gl X "reversed")(x:X.mg "reversed"=none)(B:PA X [a] ta)(t:bootBuiltins "reversed"=some (.type "reversed"):=by rfl)(v:starEach [a] X.env=[(false,eval a X.env)]:=by rfl):
 PI X tg (.Call (.Name "reversed" p) [a] [] pos) (Ww X.K ta):=by
 intro d s j H R I h;refine Call_ (gq I y x t (SB (bV (B pos d s j H _ I h) λF c ⟨E,D,I1,m,n⟩=>?_) v rfl));obtain⟨l,f,e,w,q⟩:=n;subst e;obtain⟨u,rfl,k⟩:=Vals.one m;cases(show u=Value.ref l from k);obtain⟨g,rv,r,_⟩:=I1.list w;refine call_reversed_list r.isList ?_;have C:((g.toArray.size:Nat):Int) -1=(f.length:Int) -1 -((0:Nat):Int):=by have:=rv.length;simp;omega
 rw[C];have i:Heap.IsRevIter (c.heap.push (revObj l ((f.length:Int) -1 -((0:Nat):Int)))) c.heap.objs.size l ((f.length:Int) -1 -((0:Nat):Int)):=⟨_,Iy _ rfl,rfl,rfl⟩;refine wpAny_pyIter_revIter i ?_;refine⟨c.heap.objs.size,[c.heap.objs.size],_,_,D,rfl,I1.kept (t':=c.toks) λb o z=>Da _ z,DE l _ f.length,i,λb A=>?_,q⟩;have e:b=c.heap.objs.size:=by simpa using A
 subst e;exact I1.vp (D2 _) (I1.hok.fresh (D2 _))
end
theorem BL:typeLookup (.type "list_reverseiterator") "__len__"=pure none:=by
 rw[typeLookup_type,builtinLookup_eq_fast]
 kernel_rfl
theorem DF:typeLookup (.type "list_reverseiterator") "__length_hint__"=pure (some (.builtin "list_reverseiterator.__length_hint__")):=by
 rw[typeLookup_type,builtinLookup_eq_fast]
 kernel_rfl
section
variable{prog:Program}{w:World}{A:Around}{E:Value->Shared->Prop}
abbrev Hl(xs:Array Value)(c:Nat):Obj:={cls:=.type "list",dict:=none,data:=.seq xs c,slots:= #[]}
theorem Ho{s:Shared}{R:Result->Shared->Prop}{J l S:Addr}{vs:Array Value}{g:Value}{C:Nat}(u:A.handled=none)(t:s.heap.IsList l vs)(d:s.heap.IsRevIter J l ((vs.size:Int) -1))(r:l≠J)(n:S≠J)(p:S≠l)(x:s.heap.get? S=some (Hl #[] C))(hz:vs.size<=sizeLine)
 (y:∀(s':Shared)(j:Array Value)(c:Nat),Moved [S,J] (λa b=>b=a) s s'->s'.heap.get? S=some (Hl j c)->ItemsOf (λi v=>vs[vs.size -1 -i]?=some v) j vs.size->R (.ok (.ret g)) s'):
 wpAny (model prog w) A.in1 (Builtin.List.listExtendWith (.ref S) (.ref J) g) (λk s'=>match k with
  |.done f=>R (.ok f) s'
  |.again o=>o.quiet=true/\codeAny (model prog w) A o R s') (λe s'=>R (.error e) s') s:=by
 have V:=(Walks.listRev (prog:=prog) (w:=w) (A:=A.in1) u J l r vs).toS;have q:S∉[J,l]:=λm=>by simp only[GE,UF,lx]at m;exact m.elim n p
 have z:0<=vs.size/\s.heap.IsRevIter J l ((vs.size:Int) -1 -((0:Nat):Int))/\s.heap.IsList l vs:=⟨KB _,by rw[show(vs.size:Int) -1 -((0:Nat):Int)=(vs.size:Int) -1 by lia];exact d,t⟩;have B:Builtin.List.listSameRef (.ref S) (.ref J)=false:=by simp[Builtin.List.listSameRef,n]
 unfold Builtin.List.listExtendWith;refine Hb (wpAny_typeOf d.typeIs ?_);rw[BM (by rw[B];decide)];refine Hb (wpAny_pyIter_revIter d ?_);refine Hb (wpAny_holding ?_);unfold Builtin.List.listLengthHint;refine Hb (wpAny_specialOf d.typeIs BL ?_);show wpAny _ A.in1 (specialOf (Value.ref J) (Str.ofString "__length_hint__")>>=_) _ _ _;refine Hb (wpAny_specialOf d.typeIs DF ?_);generalize h:("list_reverseiterator.__length_hint__":String)=D
 wp_delta
 rw[show splitId D=some ("list_reverseiterator","__length_hint__")from by subst h;decide+kernel];subst h;refine Hb (wpAny_isInstance (b:=true) d.typeIs (by rw[isSubtype_type];kernel_rfl) ?_);refine Pm ?_;rw[BM (by decide)];refine Pm ⟨plainId_quiet F.plain_extend_loop _,codeAny_extend_loopS V hz _ q _ vs.size 0 _ _ _ rfl (KB _) z x (ItemsOf.nil _) ?_⟩;exact y
theorem qP{s:Shared}{Q:Value->Shared->Prop}{J l:Addr}{vs:Array Value}(D:A.handled=none)(q:s.heap.IsList l vs)(r:s.heap.IsRevIter J l ((vs.size:Int) -1))(y:l≠J)(hz:vs.size<=sizeLine)
 (G:∀(h':Heap)(t:Nat)(a:Array Value)(c:Nat),(∀b o,b≠J->s.heap.get? b=some o->h'.get? b=some o)->h'.get? s.heap.objs.size=some (Hl a c)->ItemsOf (λi v=>vs[vs.size -1 -i]?=some v) a vs.size->Q (.ref s.heap.objs.size) {s with heap:=h',toks:=t}):
 wpAny (model prog w) A (call (.type "list") [.ref J]) Q E s:=by
 have I:J<s.heap.objs.size:=let⟨o,h,_⟩:=r;Fm h
 have B:l<s.heap.objs.size:=let⟨o,h,_⟩:=q;Fm h
 refine callType_codes (Q₁:=λu k=>u=.ref s.heap.objs.size/\k={s with heap:=s.heap.push (Hl #[] 0)}) F.called_list (F.typeCall_list_1 _) F.entry_list_init (code_list_new _ ⟨rfl,rfl⟩) ?_;rintro u k ⟨rfl,rfl⟩;have d:(s.heap.push (Hl #[] 0)).get? s.heap.objs.size=some (Hl #[] 0):=Iy _ rfl;refine⟨⟨_,d,rfl⟩,F.args_list_init_2 _ _,?_⟩;show wpAny _ _ (Builtin.List.listItems (.ref s.heap.objs.size)>>=λj=>Builtin.List.listUpdate (.ref s.heap.objs.size) (λ_=> #[])>>=λ_=>letGo j.toList.reverse>>=λ_=>Builtin.List.listExtendWith (.ref s.heap.objs.size) (.ref J) .none) _ _ _;refine Hb ?_;unfold Builtin.List.listItems;refine Hb (wpAny_seqItems d rfl (Pm ?_));show wpAny _ _ (updateSeq s.heap.objs.size (λ_=> #[])>>=λ_=>letGo (#[]:Array Value).toList.reverse>>=λ_=>Builtin.List.listExtendWith (.ref s.heap.objs.size) (.ref J) .none) _ _ _;refine Hb (wpAny_updateSeq d rfl ?_);have H:=Heap.get?_update_self (Obj.mapSeq λ_=>(#[]:Array Value)) d rfl;have f:∀b o,s.heap.get? b=some o->((s.heap.push (Hl #[] 0)).update s.heap.objs.size (Obj.mapSeq λ_=>(#[]:Array Value))).get? b=some o:=λb o z=>(Heap.get?_update_other _ _ (mI (Fm z))).trans (Da _ z);refine Hb (wpAny_letGo ?_);refine Ho (A:=A.in1) (s:={s with heap:=_}) D (q.at λo z=>f _ o z) (r.at λo z=>f _ o z) y (mI I) (mI B) H hz λn a c m g C=>⟨rfl,?_⟩;rw[Moved.eq_with m];refine G n.heap n.toks a c (λb o x z=>m.heap b o (λp=>?_) (f b o z)) g C;simp only[GE,UF,lx]at p;rcases p with e|e
 .exact QP _ (e▸Fm z)
 .exact x e
end
theorem vJ{h:Heap}{a:Addr}{o b:Obj}(n:a≠h.objs.size)(e:(h.push o).get? a=some b):h.get? a=some b:=by obtain⟨d,c⟩:=Heap.get?_some_iff.mp e;refine Heap.get?_some_iff.mpr ⟨?_,c⟩;cases h;simpa[Heap.push,Array.getElem?_push,n]using d
noncomputable def Sq(K:Frag)(ta:TA):TE:=λd H Q=>ta d H λe b=>∃a c,e=[.ref a]/\ie K b a c/\∀l,b l=none->Q (.ref l) (upd b l (.lst c.reverse))
theorem Hq{X:Cx}{a:Expr}{ta:TA}{p p2 pos k:Pos}(Y:X.calm=true)(U:Gl X "list")(S:X.mg "list"=none)(Wx:Gl X "reversed")(w:X.mg "reversed"=none)(Z:PA X [a] ta)(P:starEach [a] X.env=[(false,eval a X.env)]:=by rfl):
 PE X (.Call (.Name "list" p) [.Call (.Name "reversed" p2) [a] [] k] [] pos) (Sq X.K ta):=by
 intro n s y H Q I h;refine dt (gq I U S (by rfl) ?_ (by decide) (by decide));refine SB ?_ rfl rfl;show wpAny _ _ (spliced ((false,eval (.Call (.Name "reversed" p2) [a] [] k) X.env)::backTo pos (starEach [] X.env))) _ _ s;refine Calls.spliced_cons ?_;refine Call_ (gq I Wx w (by rfl) (SB (bV (Z k n s y H _ I h) λus m ⟨vs,x,I1,J,L⟩=>?_) P rfl));obtain⟨l,r,e,R,q⟩:=L;subst e;obtain⟨u,rfl,F⟩:=Vals.one J;cases(show u=Value.ref l from F);obtain⟨d,rv,t,hz⟩:=I1.list R;have C:=rv.length;obtain⟨ol,ZY,_⟩:=id t.isList;refine call_reversed_list t.isList (Calls.spliced_nil ?_);have N:=Fm ZY;have E:Inv X n y x {m with heap:=m.heap.push (revObj l ((d.toArray.size:Int) -1))}:=I1.kept (t':=m.toks) λb o z=>Da _ z;have f:=I1.vp (H':=x) (D2 _) (I1.hok.fresh (D2 _));obtain⟨f0,f1,f2,f3,f4,f5⟩:=f;refine qP (vs:=d.toArray) (I1.ok.hd Y) (t.isList.at λo z=>Da _ z) ⟨_,Iy _ rfl,rfl,rfl⟩ (On N) (by simp only[Fs]<;>lia) λh' A j c O g v=>?_;have ac:j.toList.toArray=j:=rfl;have G:Vals r.reverse j.toList:=by
  have e:j.toList=d.reverse:=by
   refine cw λi=>?_;by_cases T:i<d.length
   .have h1:=v.2 i;have B:i<j.toList.length:=by have:=v.1;simp at this⊢;lia
    rw[B1 B];have h2:=h1 _ (by rw[<-Vn];exact B1 B);rw[wa T];simpa using h2.symm
   .rw[Do (by have:=v.1;simp at this⊢;lia),Do (by rw[Pi];lia)]
  rw[e];exact Vals.reverse rv
 have J1:=E.laid (a:=(m.heap.push (revObj l ((d.toArray.size:Int) -1))).objs.size) (o:=.lst r.reverse) (h':=(m.heap.push (revObj l ((d.toArray.size:Int) -1))).push (Hl j c)) (t':=A) (λb o z=>Da _ z) (D2 _) ⟨by rw[Pi];exact hz,j.toList,c,G,Iy _ rfl⟩;have Z1:upd x (m.heap.push (revObj l ((d.toArray.size:Int) -1))).objs.size (.lst r.reverse) m.heap.objs.size=none:=by rw[ak (On (by simp[Heap.push]))];exact f0
 have J2:=J1.turned (t':=A) (h':=h') (λb o M z=>?_) Z1 f1 f3 f4 f5
 .exact⟨.ref _,_,J2,rfl,q _ (E.hok.fresh (D2 _))⟩
 .by_cases D:b=(m.heap.push (revObj l ((d.toArray.size:Int) -1))).objs.size
  .subst D;have e:=Iy (m.heap.push (revObj l ((d.toArray.size:Int) -1))) (o:=Hl j c) rfl;have e2:=e.symm.trans z;cases e2;exact g
  .refine O b o M ?_;exact vJ D z
theorem BN(a:List Value):slicePick a.toArray none none (some (-1))=a.reverse.toArray:=by
 have e:sliceBounds none none (some (-1)) a.toArray.size=((a.length:Int) -1,-1,-1):=rfl;unfold slicePick;rw[e];congr 1;have f:sliceRange ((a.length:Int) -1) (-1) (-1)=(Bn a.length).map (a.length -1 -·):=by
  unfold sliceRange;rw[BM (by decide)];have m:(if(a.length:Int) -1> -1 then((a.length:Int) -1 - -1 - -1 -1)/(- -1)else 0)=(a.length:Int):=by
   split
   .rw[show(- -1:Int)=1 by decide,Int.ediv_one];lia
   .lia
  rw[m];dsimp only;rw[CB];exact Yf λk b=>by have:=TK.mp b;lia
 rw[f];refine cw λi=>?_;have g:∀l:List Nat,(∀k∈l,k<a.length)->l.filterMap (a.toArray[·]?)=l.map (a.getD · .none):=λl=>by
  induction l with
  |nil=>intro _;rfl
  |cons k l d=>
   intro h;have b:=h k FR;have:a.toArray[k]?=some (a.getD k .none):=by rw[List.getElem?_toArray,AC,B1 b];rfl
   rw[List.filterMap_cons_some this,L9,d λj c=>h j (Ee _ c)]
 rw[g _ λk b=>by obtain⟨j,c,rfl⟩:=Nw.mp b;have:=TK.mp c;lia];rw[Qr,DL];by_cases h:i<a.length
 .rw[UV h,wa h,Gq];show some (a.getD (a.length -1 -i) .none)=_;rw[AC,B1 (show a.length -1 -i<a.length by lia)];rfl
 .rw[Do (by rw[W1];lia),Do (by rw[Pi];lia)];rfl
noncomputable def Wy(K:Frag)(te:TE)(e:TO):TE:=λc H Q=>te c H λx f=>e c f λo b=>o=some (-1)/\∃a d,x=.ref a/\ie K b a d/\∀p,b p=none->Q (.ref p) (upd b p (.lst d.reverse))
theorem MT{X:Cx}{e:Expr}{te:TE}{st:Expr}{j:TO}{pos p2:Pos}(E:PE X e te)(D:PO X (some st) j):PE X (.Subscript e (.Slice none none (some st) p2) pos) (Wy X.K te j):=by intro c s f H Q I h;refine Subscript_ (bV (E c s f H _ I h) λv n ⟨x,J,I1,p,t⟩=>?_);refine wpAny_Slice ?_;rw[evalPart_none];refine Pm ?_;refine Pm ?_;refine bV (D c n f J _ I1 t) λi d z=>?_;obtain⟨o,G,F,u,rfl,a,m,rfl,C,q⟩:=z;cases p;have g:Inv X c f G {d with heap:=d.heap.push {cls:=.type "slice",data:=.fields #[.none,.none,i]}}:=F.kept (t':=d.toks) λb y q=>Da _ q;obtain⟨B,r,k,hz⟩:=g.list C;have l:=r.length;show wpAny (model X.prog X.w) X.A (subscriptTail e (.Slice none none (some st) p2) (.ref a) (.ref d.heap.objs.size)) (EP X c f Q) X.xe {d with heap:=d.heap.push {cls:=.type "slice",data:=.fields #[.none,.none,i]}};refine tail_any (ops:=[.ref a,.ref d.heap.objs.size]) k.isList.typeIs slot_list_getitem.lookup ?_ (by with_unfolding_all rfl);refine wpAny_getItem_list_slice k.isList (Heap.IsSliceOf.new ..) .none .none u (by decide) ?_ (by rw[Fs]<;>omega);rw[BN];refine⟨.ref _,_,g.laid (o:=.lst m.reverse) (λb y q=>Da _ q) (D2 _) ?_,rfl,q _ (g.hok.fresh (D2 _))⟩;exact⟨by rw[Pi];exact hz,_,0,r.reverse,Iy _ rfl⟩
theorem BO{X:Cx}(C:X.calm=true):cL X (.builtin "min") (λa H Q=>∃(p:Addr)(ns:List Int),a=[.ref p]/\ie X.K H p (ns.map V.int)/\ns≠[]/\∀m∈ns,(∀n∈ns,m<=n)->Q (.int m) H):=by
 intro f s G H a J Q I r h;obtain⟨p,ns,rfl,D,w,q⟩:=h;obtain⟨u,rfl,l⟩:=Vals.one r;cases(show u=Value.ref p from l);obtain⟨d,rv,o,_⟩:=I.list D;have i:=intsAre_of rv;obtain⟨a,g⟩:=i.allInts.items;have e:s.heap.IsList p (intItems a):=g▸o.isList;have k:ns=a.toList.map (·.1):=by rw[<-nums_intItems,<-g];exact(show numsOf d.toArray.toList=ns from i.numsOf).symm
 have A:ns.length=a.size:=by rw[k,Ap,Kl]
 have y:0<a.size:=by rw[<-A];exact HI.mpr w
 refine min_intList (I.ok.hd C) e y λv M L x B=>?_;obtain⟨t,rfl⟩:=intItems_at x;obtain⟨N,F⟩:=argBest_lt (numAt a) (a.size -1);have c:∀j,j<ns.length->numAt a j=ns.getD j 0:=λj _=>by rw[numAt_eq,<-k]
 have E:∀j,j<ns.length->ns.getD j 0∈ns:=λj b=>by rw[AC,B1 b];exact Sr b
 refine⟨.int _,H,I.kept B,⟨_,rfl⟩,q _ ?_ λn z=>?_⟩
 .rw[c _ (by lia)];exact E _ (by lia)
 .obtain⟨j,b,rfl⟩:=NA z;have:=F j (by lia);rw[c j b,AC,B1 b]at this;exact this
end L2
namespace L2
open PySem
variable{r:List Expr}{env:Env}{pos:Pos}
inductive MU:List Expr->List (Int×Int)->Prop where
 |nil:MU [] []
 |cons {a b:Int} {j1 j2 k:Nat} {p1 p2 pos:Pos} {es:List Expr} {qs:List (Int×Int)} (h:MU es qs):MU (.Tuple [.Constant (.int a) j1 p1,.Constant (.int b) j2 p2] k pos::es) ((a,b)::qs)
end L2
namespace L2
open PySem PySem.Spec PyProof.Rows
section
variable{X:Cx}{H:Hp}
end
mutual
noncomputable def aN:PyData->Bool
 |.int _=>true
 |.list a=>fL a
 |.tuple a=>fL a
 |.none=>false
 |.bool _=>false
 |.str _=>false
 |.dict _=>false
noncomputable def fL:List PyData->Bool
 |[]=>true
 |x::a=>aN x&&fL a
end
mutual
theorem DG:∀d:PyData,aN d=true->d.canLay0=true
 |.int _,_=>by simp[PyData.canLay0]
 |.list a,h=>by rw[aN]at h;rw[PyData.canLay0];exact mh a h
 |.tuple a,h=>by rw[aN]at h;rw[PyData.canLay0];exact mh a h
 |.none,h=>by simp[aN]at h
 |.bool _,h=>by simp[aN]at h
 |.str _,h=>by simp[aN]at h
 |.dict _,h=>by simp[aN]at h
theorem mh:∀a:List PyData,fL a=true->PyData.canLayAll0 a=true
 |[],_=>by simp[PyData.canLayAll0]
 |x::a,h=>by rw[fL,AN]at h;rw[PyData.canLayAll0,DG x h.1,mh a h.2];rfl
end
mutual
theorem DH:∀d e:PyData,aN d=true->aN e=true->SeqAt.noMix d e=true
 |.int _,.int _,_,_=>by simp[SeqAt.noMix]
 |.int _,.list _,_,_=>by simp[SeqAt.noMix]
 |.int _,.tuple _,_,_=>by simp[SeqAt.noMix]
 |.list _,.int _,_,_=>by simp[SeqAt.noMix]
 |.list _,.tuple _,_,_=>by simp[SeqAt.noMix]
 |.tuple _,.int _,_,_=>by simp[SeqAt.noMix]
 |.tuple _,.list _,_,_=>by simp[SeqAt.noMix]
 |.list c,.list b,h,a=>by rw[aN]at h a;rw[SeqAt.noMix];exact mq c b h a
 |.tuple c,.tuple b,h,a=>by rw[aN]at h a;rw[SeqAt.noMix];exact mq c b h a
 |.none,_,h,_=>by simp[aN]at h
 |.bool _,_,h,_=>by simp[aN]at h
 |.str _,_,h,_=>by simp[aN]at h
 |.dict _,_,h,_=>by simp[aN]at h
 |.int _,.none,_,h=>by simp[aN]at h
 |.int _,.bool _,_,h=>by simp[aN]at h
 |.int _,.str _,_,h=>by simp[aN]at h
 |.int _,.dict _,_,h=>by simp[aN]at h
 |.list _,.none,_,h=>by simp[aN]at h
 |.list _,.bool _,_,h=>by simp[aN]at h
 |.list _,.str _,_,h=>by simp[aN]at h
 |.list _,.dict _,_,h=>by simp[aN]at h
 |.tuple _,.none,_,h=>by simp[aN]at h
 |.tuple _,.bool _,_,h=>by simp[aN]at h
 |.tuple _,.str _,_,h=>by simp[aN]at h
 |.tuple _,.dict _,_,h=>by simp[aN]at h
theorem mq:∀b a:List PyData,fL b=true->fL a=true->SeqAt.noMixAll b a=true
 |[],[],_,_=>by simp[SeqAt.noMixAll]
 |[],_::_,_,_=>by simp[SeqAt.noMixAll]
 |_::_,[],_,_=>by simp[SeqAt.noMixAll]
 |x::b,y::a,h,c=>by rw[fL,AN]at h c;rw[SeqAt.noMixAll,DH x y h.1 c.1,mq b a h.2 c.2];rfl
end
mutual
theorem BP:∀d e:PyData,aN d=true->aN e=true->(same d e=true↔d=e)
 |.int a,.int b,_,_=>by simp[same]
 |.int _,.list _,_,_=>by simp[same]
 |.int _,.tuple _,_,_=>by simp[same]
 |.list _,.int _,_,_=>by simp[same]
 |.list _,.tuple _,_,_=>by simp[same]
 |.tuple _,.int _,_,_=>by simp[same]
 |.tuple _,.list _,_,_=>by simp[same]
 |.list g,.list f,h,c=>by rw[aN]at h c;rw[same,jT g f h c,PyData.list.injEq]
 |.tuple g,.tuple f,h,c=>by rw[aN]at h c;rw[same,jT g f h c,PyData.tuple.injEq]
 |.none,_,h,_=>by simp[aN]at h
 |.bool _,_,h,_=>by simp[aN]at h
 |.str _,_,h,_=>by simp[aN]at h
 |.dict _,_,h,_=>by simp[aN]at h
 |.int _,.none,_,h=>by simp[aN]at h
 |.int _,.bool _,_,h=>by simp[aN]at h
 |.int _,.str _,_,h=>by simp[aN]at h
 |.int _,.dict _,_,h=>by simp[aN]at h
 |.list _,.none,_,h=>by simp[aN]at h
 |.list _,.bool _,_,h=>by simp[aN]at h
 |.list _,.str _,_,h=>by simp[aN]at h
 |.list _,.dict _,_,h=>by simp[aN]at h
 |.tuple _,.none,_,h=>by simp[aN]at h
 |.tuple _,.bool _,_,h=>by simp[aN]at h
 |.tuple _,.str _,_,h=>by simp[aN]at h
 |.tuple _,.dict _,_,h=>by simp[aN]at h
theorem jT:∀b a:List PyData,fL b=true->fL a=true->(sameAll b a=true↔b=a)
 |[],[],_,_=>by simp[sameAll]
 |[],_::_,_,_=>by simp[sameAll]
 |_::_,[],_,_=>by simp[sameAll]
 |x::b,y::a,h,c=>by rw[fL,AN]at h c;rw[sameAll,AN,BP x y h.1 c.1,jT b a h.2 c.2,X0]
end
section
variable{X:Cx}
end
theorem vK{a:List PyData}{n:Nat}(h:∀x∈a,x.depth<=n):PyData.depthAll a<=n:=by
 induction a with
 |nil=>simp[PyData.depthAll]
 |cons x a b=>rw[PyData.depthAll];have:=h x (FR ..);have:=b λy c=>h y (Ee _ c);lia
theorem x9(d:List Bool):((Bn d.length).any λi=>(d[i]?).getD false)=d.any id:=by
 rw[kv,S0,S0];constructor
 .rintro⟨i,c,h⟩;have a:=TK.mp c;simp only[B1 a,Gp]at h;exact⟨_,Sr a,h⟩
 .rintro⟨b,e,h⟩;obtain⟨i,c,rfl⟩:=NA e;refine⟨i,TK.mpr c,?_⟩;simp only[B1 c,Gp];exact h
section
variable{X:Cx}
theorem BQ(y:X.calm=true):cL X (.builtin "any") (λj H Q=>∃(p:Addr)(c:List Bool),j=[.ref p]/\ie X.K H p (c.map V.bl)/\Q (.bl (c.any id)) H):=by
 intro k s E H j F Q I r h;obtain⟨p,c,rfl,B,q⟩:=h;obtain⟨u,rfl,n⟩:=Vals.one r;cases(show u=Value.ref p from n);obtain⟨a,rv,t,_⟩:=I.list B;have l:=r8 rv;have g:=t.isList;have f:p<s.heap.objs.size:=by obtain⟨_,e,_⟩:=g;exact Fm e
 refine call_any_walk (wpAny_pyIter_list g ?_);refine⟨s.heap.objs.size,[s.heap.objs.size,p],[s.heap.objs.size],a.toArray.size,_,_,λi=>(c[i]?).getD false,rfl,Walks.list (A:=X.A.in1) (I.ok.hd y) _ p (On f) a.toArray,
  ⟨⟨_,Iy _ rfl,rfl,rfl⟩,g.push _⟩,λi v J M N C m=>?_,λL G x=>?_⟩
 .have d:a[i]?=some v:=by simpa using C
  rw[l,DL]at d;cases e:c[i]? with
  |none=>rw[e]at d;cases d
  |some b=>rw[e]at d;simp only[e,Gp]at m;have:v=Value.bool b:=(Kt d).symm;subst this;exact d6 m
 .have e:((Bn a.toArray.size).any λi=>(c[i]?).getD false)=c.any id:=by
   have D:a.toArray.size=c.length:=by rw[Fs,l,Ap]
   rw[D];exact x9 c
  rw[e];exact⟨.bl _,H,I.kept λb o z=>x b o (λw=>by rw[FK.mp w]at z;exact QP _ (Fm z)) (Da _ z),rfl,q⟩
end
end L2
set_option genSizeOf false
set_option genInjectivity false
namespace Num
theorem vL(a b q:Int):Aa b (a -q*b)=Aa a b:=by
 apply Nat.dvd_antisymm
 .apply bw
  .have f:((Aa b (a -q*b):Nat):Int)∣b:=a9 ..;have d:((Aa b (a -q*b):Nat):Int)∣(a -q*b):=TC ..;have c:=c8 d (t4 f:_∣q*b);have e:a -q*b+q*b=a:=by lia
   rw[e]at c;exact c
  .exact a9 ..
 .apply bw
  .exact TC ..
  .exact Xl (a9 ..) (t4 (TC ..))
theorem fl(a b:Int)(c:b≠0):(0<b->0<=a -a.fdiv b*b/\a -a.fdiv b*b<b)/\(b<0->b<a -a.fdiv b*b/\a -a.fdiv b*b<=0):=by
 have e:=Int.mul_ediv_add_emod a b;have f:=UC a c;have d:a%b<(b.natAbs:Int):=by
  rcases ox 0 b with z|z
  .have:=rg a z;lia
  .have:=rg a (show 0< -b by lia);rw[Int.emod_neg]at this;lia
 rw[Int.fdiv_eq_ediv];have g:b*(a/b)=(a/b)*b:=bb _ _;constructor
 .intro h;rw[Bi (WY (by lia)),va];lia
 .intro h;split
  .rename_i hd
   have hz:a%b=0:=tf (by lia);rw[va];lia
  .rename_i hd
   have hz:a%b≠0:=λz=>hd (.inr (tj z));have:(a/b -1)*b=a/b*b -b:=by rw[Int.sub_mul];lia
   lia
theorem DI(a b:Int)(c:b≠0):(a -a.fdiv b*b).natAbs<b.natAbs:=by have:=fl a b c;omega
theorem fmod_eq(a b:Int):a.fmod b=a -a.fdiv b*b:=by have:=Int.mul_fdiv_add_fmod a b;have:b*a.fdiv b=a.fdiv b*b:=bb _ _;omega
theorem dz(r:Rat):(r.den:Int)≠0:=by have:=r.den_nz;lia
theorem MV{n:Int}{d:Nat}{r:Rat}(a:d≠0)(b:Nat.gcd n.natAbs d=1)(h:n*r.den=r.num*d):r.num=n/\(r.den:Int)=d:=by
 have e:r=⟨n,d,a,b⟩:=by rw[<-fo r,Rat.mk_eq_divInt,sv (dz r) (by lia)];exact h.symm
 rw[e];exact⟨rfl,rfl⟩
theorem zE(x y:Int)(h:y≠0):∃b a:Int,x=(Aa x y:Nat)*b/\y=(Aa x y:Nat)*a/\Aa b a=1/\0<((Aa x y:Nat):Int):=by
 have f:0<Aa x y:=Int.gcd_pos_of_ne_zero_right _ h;obtain⟨b,d⟩:((Aa x y:Nat):Int)∣x:=a9 ..;obtain⟨a,c⟩:((Aa x y:Nat):Int)∣y:=TC ..;refine⟨b,a,d,c,?_,by lia⟩;have e:Aa ((Aa x y:Nat)*b) ((Aa x y:Nat)*a)=Aa x y*Aa b a:=by rw[Yk];rfl
 rw[<-d,<-c]at e;have:Aa x y*1=Aa x y*Aa b a:=by lia
 exact(V6 f this).symm
theorem Hr{g x a:Int}(h:x=g*a)(b:0<g):x/g=a:=by rw[h];exact eJ _ (by lia)
theorem MW{g y a:Int}(h:y=g*a)(b:0<g)(c:0<y):0<a:=by
 rcases ox 0 a with z|z
 .exact z
 .have:=Int.mul_nonpos_of_nonneg_of_nonpos (eI b) z;omega
theorem zF{n d:Int}{r:Rat}(b:0<d)(a:Aa n d=1)(h:n*r.den=r.num*d):r.num=n/\(r.den:Int)=d:=by
 have e:((d.toNat:Nat):Int)=d:=by lia
 have:=MV (n:=n) (d:=d.toNat) (r:=r) (by lia) (by unfold Aa at a;rw[show d.toNat=d.natAbs by lia];exact a) (by rw[e];exact h);rw[e]at this;exact this
noncomputable def Bd(n:Nat)(r:Rat):Prop:=r.num.natAbs<2^n/\r.den<2^n
theorem lt_mul{x y n m:Nat}(b:x<2^n)(a:y<2^m):x*y<2^(n+m):=by
 rw[XB];rcases dC y with z|z
 .subst z;have:=Nat.mul_pos (T1 (n:=n) (show 0<2 by decide)) (T1 (n:=m) (show 0<2 by decide));omega
 .exact FM (UM b z) (FV _ (Q1 a))
noncomputable def cf(b a:List Int):Nat->Nat->Int
 |0,_=>0
 |i+1,k=>cf b a i k+b.getD i 0*(if i<=k then a.getD (k -i) 0 else 0)
noncomputable def vM(b a:List Int)(i j k:Nat):Int:=cf b a i k+(if i<=k/\k<i+j then b.getD i 0*a.getD (k -i) 0 else 0)
theorem vN(b a:List Int)(i k:Nat):vM b a i 0 k=cf b a i k:=by unfold vM;rw[BM (by lia)];lia
theorem vO(b a:List Int)(i k:Nat):vM b a i a.length k=cf b a (i+1) k:=by
 unfold vM;rw[cf];by_cases h:i<=k
 .by_cases c:k<i+a.length
  .rw[Bi ⟨h,c⟩,Bi h]
  .have e:a.getD (k -i) 0=0:=by rw[AC,Do (by lia)];rfl
   rw[BM (by lia),Bi h,e,Oy]
 .rw[BM (by lia),BM h,Oy]
theorem kK(b a:List Int)(i j k:Nat):vM b a i (j+1) k=vM b a i j k+(if k=i+j then b.getD i 0*a.getD j 0 else 0):=by
 unfold vM;by_cases h:k=i+j
 .subst h;rw[Bi (by lia),BM (by lia),Bi rfl,Y1];lia
 .rw[BM h];by_cases c:i<=k/\k<i+j
  .rw[Bi (by lia),Bi c];lia
  .rw[BM (by lia),BM c];lia
theorem Ht{a b:List Int}{i:Nat}(h:a.getD i 0=0)(k:Nat):cf a b (i+1) k=cf a b i k:=by rw[cf,h,eD,h7]
theorem kL(b a:List Int)(k:Nat):∀i,i+a.length<=k+1->cf b a i k=0
 |0,_=>rfl
 |i+1,h=>by
  rw[cf,kL b a k i (by lia)];have e:a.getD (k -i) 0=0:=by rw[AC,Do (by lia)];rfl
  rw[Bi (by lia),e,Oy];rfl
theorem Hu(a b:List Int)(e:0<a.length)(d:0<b.length):cf a b a.length (a.length+b.length -2)=a.getD (a.length -1) 0*b.getD (b.length -1) 0:=by obtain⟨m,c⟩:∃m,a.length=m+1:=⟨a.length -1,by lia⟩;rw[c,cf,kL a b _ m (by clear c d e;lia),Bi (by lia),oo];congr 2<;>lia
noncomputable def iy(ns ms:List Int):Prop:=∃k,k<=ns.length/\ms=ns.take k/\(∀j,k<=j->j<ns.length->ns.getD j 0=0)/\(k=0\/ns.getD (k -1) 0≠0)
theorem iy.last{ns ms:List Int}(h:iy ns ms):ms=[]\/ms.getD (ms.length -1) 0≠0:=by
 obtain⟨k,b,rfl,d,a⟩:=h;rcases a with q|q
 .left;rw[q];rfl
 .by_cases c:k=0
  .left;rw[c];rfl
  .right;rw[eP,Z7 b,AC,kb (by lia),<-AC];exact q
theorem iy.mem{ns ms:List Int}(h:iy ns ms):∀m∈ms,m∈ns:=by obtain⟨k,_,rfl,_⟩:=h;exact λm a=>List.mem_of_mem_take a
noncomputable def oV(p:Int):Prop:=2<=p/\∀d:Int,2<=d->d*d<=p->p%d≠0
theorem qQ{p x:Int}(d:oV p)(i:0<x)(m:x<p):Aa p x=1:=by
 obtain⟨l,b⟩:=d;have j:0<Aa p x:=oy _ (by lia);obtain⟨q,a⟩:((Aa p x:Nat):Int)∣p:=a9 ..;have f:((Aa p x:Nat):Int)<=x:=ke i (TC ..);generalize k:((Aa p x:Nat):Int)=g at*;have n:1<=g:=by lia
 rcases ox 1 g with h|e
 .exfalso
  have c:2<=q:=by
   rcases ox q 2 with z|z
   .have:q<=1:=by lia
    have:=n4 this (show 0<=g by lia);lia
   .exact z
  rcases Int.le_total g q with z|z
  .have:g*g<=g*q:=n4 z (by lia);exact b g (by lia) (by lia) (tf ⟨q,a⟩)
  .have:q*q<=g*q:=Int.mul_le_mul_of_nonneg_right z (by lia);exact b q c (by lia) (tf ⟨g,by rw[a,bb]⟩)
 .lia
theorem DJ(t b:Int)(k:b≠0):((if b<0 then-((Aa t b:Nat):Int)else((Aa t b:Nat):Int))≠0)/\(A3 t b).num=t.fdiv (if b<0 then-((Aa t b:Nat):Int)else((Aa t b:Nat):Int))/\
 ((A3 t b).den:Int)=b.fdiv (if b<0 then-((Aa t b:Nat):Int)else((Aa t b:Nat):Int)):=by
 obtain⟨x,y,i,e,c,j⟩:=zE t b k;have m:=(sv (dz (A3 t b)) k).mp (fo (A3 t b));generalize((Aa t b:Nat):Int)=g at*;generalize A3 t b=r at*;have gz:g≠0:=by lia
 have l:x*r.den=r.num*y:=by
  rw[i,e]at m;have:g*(x*r.den)=g*(r.num*y):=by grind
  exact QQ gz this
 rcases ox b 0 with z|z
 .rw[Bi z];have f:0< -y:=by
   rcases ox 0 (-y)with q|q
   .exact q
   .have:=Int.mul_nonneg (eI j) (show 0<=y by lia);lia
  have a:=zF (n:= -x) (d:= -y) (r:=r) f (by rw[Int.gcd_neg,Int.neg_gcd];exact c) (by grind);have h: -g≠0:=by lia
  refine⟨h,?_,?_⟩
  .rw[a.1,i,show g*x= -g* -x by grind,aw _ h]
  .rw[a.2,e,show g*y= -g* -y by grind,aw _ h]
 .rw[BM (by lia)];have f:=MW e j (by lia);have a:=zF (r:=r) f c l;refine⟨gz,?_,?_⟩
  .rw[a.1,i,aw _ gz]
  .rw[a.2,e,aw _ gz]
theorem ya(t b:Int)(a:b≠0):(A3 t b).num*b=t*(A3 t b).den:=(sv (dz _) a).mp (fo _)
theorem zG(t b:Int)(f:b≠0):(A3 t b).num.natAbs<=t.natAbs/\(A3 t b).den<=b.natAbs:=by
 have c:=ya t b f;generalize A3 t b=r at*;have d:r.num.natAbs*b.natAbs=t.natAbs*r.den:=by have:=Pt V0 c;rw[Fh,Fh,C0]at this;exact this
 have a:XS r.num.natAbs r.den:=r.reduced;have e:0<b.natAbs:=by lia
 have h:r.den∣b.natAbs:=a.symm.dvd_of_dvd_mul_left ⟨t.natAbs,by rw[d,X2]⟩;have g:r.num.natAbs∣t.natAbs:=a.dvd_of_dvd_mul_right ⟨b.natAbs,d.symm⟩;refine⟨?_,a7 e h⟩;rcases dC t.natAbs with z|z
 .rw[z,Qu]at d;rcases Nat.mul_eq_zero.mp d with q|q
  .lia
  .lia
 .exact a7 z g
noncomputable def ev(x:Rat):List Rat->Rat
 |[]=>0
 |r::a=>r+x*ev x a
noncomputable def wv(t b:Int):List Int->Int
 |[]=>0
 |x::s=>wv t b s*t+x*b^s.length
theorem La{t b:Int}{B:Rat}{x:Rat}(f:(b:Rat)≠0)(d:x*b=t)(g:B≠0):∀(ns:List Int)(a:List Rat),ns.length=a.length->(∀i,i<ns.length->(ns.getD i 0:Rat)=a.getD i 0*B)->((wv t b ns:Int):Rat)*b=(b:Rat)^ns.length*ev x a*B
 |[],[],_,_=>by show((0:Int):Rat)*b=_*0*B;grind
 |n::ns,r::a,c,h=>by
  have ih:=La f d g ns a (by simpa using c) λi e=>by have:=h (i+1) (by simpa using e);simpa using this
  have j:(n:Rat)=r*B:=by simpa using h 0 (by simp)
  show((wv t b ns*t+n*b^ns.length:Int):Rat)*b=(b:Rat)^(ns.length+1)*(r+x*ev x a)*B;rw[oC,FC,FC,Z3,ik,j];have:(wv t b ns:Rat)*t*b=(wv t b ns:Rat)*b*(x*b):=by rw[d];grind
  grind
 |[],_::_,c,_=>by simp at c
 |_::_,[],c,_=>by simp at c
theorem tF(x:Rat):x*((x.den:Int):Rat)=((x.num:Int):Rat):=by
 have h:=fo x;rw[hU]at h;have:((x.den:Int):Rat)≠0:=λz=>by have:=km.mp (z.trans (show(0:Rat)=((0:Int):Rat)from rfl));have:=x.den_nz;lia
 grind
theorem gI{x:Rat}{B:Int}(h:(x.den:Int)∣B):((x.num*(B/x.den):Int):Rat)=x*B:=by
 obtain⟨k,a⟩:=h;have e:B/(x.den:Int)=k:=by rw[a];exact eJ _ (dz x)
 rw[e,a,FC,FC,<-tF x];grind
noncomputable def sm(f:Nat->Int):Nat->Int
 |0=>0
 |n+1=>sm f n+f n
theorem iz{f g:Nat->Int}:∀n,(∀i,i<n->f i=g i)->sm f n=sm g n
 |0,_=>rfl
 |n+1,h=>by rw[sm,sm,iz n λi hi=>h i (by lia),h n (by lia)]
theorem zH(f:Nat->Int):∀n,sm f (n+1)=f 0+sm (λi=>f (i+1)) n
 |0=>by rw[sm,sm,sm];lia
 |n+1=>by rw[sm,zH f n,sm];lia
theorem DM(f:Nat->Int):∀n,sm (λi=>f (n -i)) (n+1)=sm f (n+1)
 |0=>rfl
 |n+1=>by rw[zH,iz (g:=λi=>f (n -i)) (n+1) λi hi=>by congr 1;lia,DM f n];rw[sm,sm,sm];show f (n+1 -0)+(sm f n+f n)=_;rw[Gu];lia
theorem tG{f:Nat->Int}{m:Nat}:∀n,m<=n->(∀i,m<=i->i<n->f i=0)->sm f n=sm f m
 |0,h,_=>by
  have:m=0:=by lia
  rw[this]
 |n+1,h,z=>by
  by_cases e:m=n+1
  .rw[e]
  .rw[sm,tG n (by lia) (λi a b=>z i a (by lia)),z n (by lia) (by lia),h7]
theorem vP(b a:List Int)(k:Nat):∀n,cf b a n k=sm (λi=>b.getD i 0*(if i<=k then a.getD (k -i) 0 else 0)) n
 |0=>rfl
 |n+1=>by rw[cf,vP b a k n,sm]
theorem gc(a d:List Int)(k:Nat):cf a d a.length k=sm (λi=>a.getD i 0*d.getD (k -i) 0) (k+1):=by
 rw[vP];have b:∀i,a.length<=i->a.getD i 0=0:=λi h=>by rw[AC,Do h];rfl
 rcases ax a.length (k+1)with h|h
 .rw[<-tG (k+1) h λi c _=>by rw[b i c,eD]];exact iz _ λi e=>by rw[Bi (by lia)]
 .rw[tG a.length h λi c _=>by rw[BM (by lia),Oy]];exact iz _ λi e=>by rw[Bi (by lia)]
theorem tH(b a:List Int)(k:Nat):cf b a b.length k=cf a b a.length k:=by rw[gc,gc,<-DM];refine iz _ λi c=>?_;show b.getD (k -i) 0*a.getD (k -(k -i)) 0=_;rw[show k -(k -i)=i by omega,bb]
noncomputable def mw(n:Nat)(f:Nat->Rat):List Rat:=(Bn n).map f
theorem kM(n:Nat)(f:Nat->Rat):(mw n f).length=n:=by unfold mw;simp
theorem Hv{n:Nat}{f:Nat->Rat}{k:Nat}(h:k<n):(mw n f)[k]?=some (f k):=by unfold mw;rw[DL,UV h];rfl
theorem iY{a:List Rat}{k:Nat}(h:a.length<=k):a.getD k 0=0:=by rw[AC,Do h];rfl
noncomputable def gf(l:List Rat):List Rat:=(l.reverse.dropWhile λx=>decide (x=0)).reverse
theorem oW(l:List Rat):gf (l++[0])=gf l:=by unfold gf;rw[XT,Vf,Vp,Xd,Bi (by simp)]
theorem oX(l:List Rat){x:Rat}(h:x≠0):gf (l++[x])=l++[x]:=by unfold gf;rw[XT,Vf,Vp,Xd,BM (by simpa using h)];simp
theorem r9(l:List Rat):∃k,k<=l.length/\gf l=l.take k/\(k=0\/l.getD (k -1) 0≠0):=by
 generalize d:l.length=n
 induction n generalizing l with
 |zero=>have:l=[]:=KM.mp d;subst this;exact⟨0,D2 _,rfl,.inl rfl⟩
 |succ n i=>
  have b:l≠[]:=λz=>by rw[z]at d;cases d
  obtain⟨c,x,rfl⟩:∃c x,l=c++[x]:=⟨l.dropLast,l.getLast b,(h8 b).symm⟩;have a:c.length=n:=by simpa using d
  by_cases e:x=0
  .subst e;obtain⟨k,j,g,f⟩:=i c a;refine⟨k,by lia,by rw[oW,g,List.take_append_of_le_length (by lia)],?_⟩;rcases f with z|z
   .exact .inl z
   .by_cases h:k=0
    .exact .inl h
    .right;rw[AC,KF (by lia),<-AC];exact z
  .refine⟨n+1,D2 _,by rw[oX _ e,vT (by simp[a])],.inr ?_⟩;rw[Fn,AC,Gc (by lia),a,ar];exact e
theorem sd(l:List Rat):(gf l).length<=l.length:=by obtain⟨k,a,e,_⟩:=r9 l;rw[e,eP];lia
noncomputable def aj(l:List Rat):Prop:=∀x,l.getLast?=some x->x≠0
theorem iA(l:List Rat):aj (gf l):=λx a=>by
 obtain⟨k,c,e,h⟩:=r9 l;rw[e]at a;rcases h with z|z
 .rw[z]at a;simp at a
 .by_cases b:k=0
  .rw[b]at a;simp at a
  .have d:(l.take k).getLast?=some (l.getD (k -1) 0):=by rw[Kk,eP,Z7 c,kb (by lia),AC,B1 (by lia)];rfl
   rw[d]at a;rw[<-Kt a];exact z
noncomputable def gJ(a:List Rat):List Rat:=a.map λx=> -x
theorem Lb{n m:Nat}{a b:List Int}(f:∀x∈a,x.natAbs<2^n)(d:∀x∈b,x.natAbs<2^m)(k:Nat):∀i,(cf a b i k).natAbs<=i*2^(n+m)
 |0=>by show 0<=_;lia
 |i+1=>by
  have g:∀{n:Nat}{a:List Int}(h:∀x∈a,x.natAbs<2^n)(j:Nat),(a.getD j 0).natAbs<2^n:=λ{n a} h j=>by
   by_cases c:j<a.length
   .rw[AC,B1 c];exact h _ (Sr c)
   .rw[AC,Do (by omega)];exact T1 (by decide)
  have l:=Lb f d k i;have e:(a.getD i 0*(if i<=k then b.getD (k -i) 0 else 0)).natAbs<2^(n+m):=by
   rw[Fh];refine lt_mul (g f i) ?_;split
   .exact g d _
   .exact T1 (by decide)
  rw[cf,mf];omega
theorem vQ(l:List Rat)(k:Nat):(l++[0]).getD k 0=l.getD k 0:=by
 rw[AC,AC];by_cases h:k<l.length
 .rw[KF h]
 .rw[Gc (by lia),Do (l:=l) (by lia)];cases a:k -l.length with
  |zero=>rfl
  |succ n=>rfl
theorem tK(l:List Rat)(k:Nat):(gf l).getD k 0=l.getD k 0:=by
 generalize b:l.length=n
 induction n generalizing l with
 |zero=>have:l=[]:=KM.mp b;subst this;rfl
 |succ n e=>
  have a:l≠[]:=λz=>by rw[z]at b;cases b
  obtain⟨c,x,rfl⟩:∃c x,l=c++[x]:=⟨l.dropLast,l.getLast a,(h8 a).symm⟩;by_cases d:x=0
  .subst d;rw[oW,e c (by simpa using b),vQ]
  .rw[oX _ d]
theorem ja{l:List Rat}(h:aj l)(a:0<l.length):l.getD (l.length -1) 0≠0:=by refine h _ ?_;rw[Kk,B1 (by omega),AC,B1 (by omega)];rfl
theorem jU{a b:List Rat}(g:aj a)(c:aj b)(h:∀k,a.getD k 0=b.getD k 0):a=b:=by
 have d:∀{a b:List Rat},aj b->(∀k,a.getD k 0=b.getD k 0)->b.length<=a.length:=λ{a b} c h=>by
  rcases Nat.lt_or_ge a.length b.length with z|z
  .exact absurd ((h _).symm.trans (iY (by lia))) (ja c (by lia))
  .exact z
 have e:a.length=b.length:=Z8 (d g λk=>(h k).symm) (d c h);apply cw;intro k;by_cases f:k<a.length
 .have:=h k;rw[AC,AC,B1 f,B1 (show k<b.length by lia)]at this;rw[B1 f,B1 (show k<b.length by lia)];exact Pt some this
 .rw[Do (by lia),Do (by lia)]
theorem nZ{n:Nat}{f:Nat->Rat}(k:Nat):(mw n f).getD k 0=if k<n then f k else 0:=by
 by_cases h:k<n
 .rw[Bi h,AC,Hv h];rfl
 .rw[BM h];exact iY (by rw[kM];lia)
noncomputable def dW(f:Nat->Rat):Nat->Rat
 |0=>0
 |n+1=>dW f n+f n
theorem c7{f g:Nat->Rat}:∀n,(∀i,i<n->f i=g i)->dW f n=dW g n
 |0,_=>rfl
 |n+1,h=>by rw[dW,dW,c7 n λi hi=>h i (by lia),h n (by lia)]
theorem oY{f:Nat->Rat}{m:Nat}:∀n,m<=n->(∀i,m<=i->i<n->f i=0)->dW f n=dW f m
 |0,h,_=>by
  have:m=0:=by lia
  rw[this]
 |n+1,h,z=>by
  by_cases e:m=n+1
  .rw[e]
  .rw[dW,oY n (by lia) (λi a b=>z i a (by lia)),z n (by lia) (by lia),ub]
noncomputable def aA(f g:Nat->Rat)(k:Nat):Rat:=dW (λi=>f i*g (k -i)) (k+1)
theorem tL(c:Int)(f:Nat->Int):∀n,sm (λi=>c*f i) n=c*sm f n
 |0=>by rw[sm,sm,Oy]
 |n+1=>by rw[sm,sm,tL c f n,bo]
theorem yb(f g:Nat->Int):∀n,sm (λi=>f i+g i) n=sm f n+sm g n
 |0=>rfl
 |n+1=>by rw[sm,sm,sm,yb f g n];lia
theorem tM(p:Nat)(v:Nat->Int):∀n,sm (λi=>if i=p then v i else 0) n=if p<n then v p else 0
 |0=>by rw[sm,BM (by lia)]
 |n+1=>by
  rw[sm,tM p v n];by_cases h:p<n
  .rw[Bi h,BM (by lia),Bi (by lia)];lia
  .rw[BM h];by_cases e:n=p
   .subst e;rw[Bi rfl,Bi (by lia)];lia
   .rw[BM e,BM (by lia)];lia
noncomputable def jb(f g:Nat->Int)(k:Nat):Int:=sm (λi=>f i*g (k -i)) (k+1)
theorem Hw(c h:Int)(Q O:Nat->Int)(p k:Nat):jb (λi=>c*Q i+if i=p then h else 0) O k=c*jb Q O k+if p<=k then h*O (k -p)else 0:=by
 unfold jb;rw[iz (g:=λi=>c*(Q i*O (k -i))+if i=p then h*O (k -i)else 0) (k+1) λi _=>?_,yb,tL,tM p λi=>h*O (k -i)]
 .by_cases a:p<=k
  .rw[Bi a,Bi (show p<k+1 by lia)]
  .rw[BM a,BM (show¬p<k+1 by lia)]
 .split
  .grind
  .grind
theorem Hx(O:Nat->Int)(k:Nat):jb (λ_=>0) O k=0:=by unfold jb;rw[iz (g:=λi=>0*0) (k+1) λi _=>by rw[eD,eD],tL,eD]
theorem Hy{f g:Nat->Rat}{F G:Nat->Int}{A C:Rat}(c:∀i,f i*A=F i)(b:∀i,g i*C=G i)(k:Nat):aA f g k*(A*C)=((jb F G k:Int):Rat):=by
 unfold aA jb;have:∀n,dW (λi=>f i*g (k -i)) n*(A*C)=((sm (λi=>F i*G (k -i)) n:Int):Rat):=λn=>by
  induction n with
  |zero=>show 0*(A*C)=((0:Int):Rat);grind
  |succ n a=>rw[dW,sm,oC,FC,<-a,<-c n,<-b (k -n)];grind
 exact this _
noncomputable def tN(ns ms:List Int)(l:Int)(s:Nat)(Q:Nat->Int)(R:List Int):Prop:=∀k,l^s*ns.getD k 0=jb Q (λi=>ms.getD i 0) k+R.getD k 0
theorem tN.start(ns ms:List Int)(l:Int):tN ns ms l 0 (λ_=>0) ns:=λk=>by rw[Hx,TB];lia
theorem outI{ns:List Int}{k:Nat}(h:ns.length<=k):ns.getD k 0=0:=by rw[AC,Do h];rfl
theorem tN.step{ns ms:List Int}{l:Int}{s p:Nat}{Q:Nat->Int}{R R':List Int}(h:tN ns ms l s Q R)(j:0<ms.length)(b:l=ms.getD (ms.length -1) 0)(m:R.length=p+ms.length)(c:R'.length=p+ms.length -1)
 (a:∀k,k<p+ms.length -1->R'.getD k 0=l*R.getD k 0 -if p<=k then R.getD (p+ms.length -1) 0*ms.getD (k -p) 0 else 0):
 tN ns ms l (s+1) (λi=>l*Q i+if i=p then R.getD (p+ms.length -1) 0 else 0) R':=λk=>by
 rw[Hw,OF];have e:=h k;have g:l^s*l*ns.getD k 0=l*jb Q (λi=>ms.getD i 0) k+l*R.getD k 0:=by rw[<-bo,<-e];grind
 rw[g];by_cases f:k<p+ms.length -1
 .rw[a k f];lia
 .by_cases d:k=p+ms.length -1
  .subst d;rw[outI (ns:=R') (by lia),Bi (by lia),show p+ms.length -1 -p=ms.length -1 by lia,<-b];grind
  .rw[outI (ns:=R) (k:=k) (by lia),outI (ns:=R') (by lia)];split
   .rw[outI (ns:=ms) (by lia)];grind
   .grind
noncomputable def Cd(D:Int)(n:Nat)(x:Rat):Prop:=∃z:Int,x*D=z/\z.natAbs<2^n
theorem Cd.dvd{D:Int}{n:Nat}{x:Rat}(h:Cd D n x):(x.den:Int)∣D/\(x.num*(D/x.den)).natAbs<2^n:=by
 obtain⟨z,a,f⟩:=h;have e:x.num*D=z*x.den:=by
  have e:=tF x;have:((x.num*D:Int):Rat)=((z*x.den:Int):Rat):=by rw[FC,FC,<-e,<-a];grind
  exact km.mp this
 have d:(x.den:Int)∣D:=by have c:XS x.den x.num.natAbs:=cC x.reduced;have b:x.den∣x.num.natAbs*D.natAbs:=⟨z.natAbs,by have:=Pt V0 e;rw[Fh,Fh,C0]at this;rw[this,X2]⟩;have:=c.dvd_of_dvd_mul_left b;rw[<-C0 x.den]at this;exact de.mp this
 refine⟨d,?_⟩;have:((x.num*(D/x.den):Int):Rat)=(z:Rat):=by rw[gI d,a]
 rw[km.mp this];exact f
theorem vR{a b c:Int}(h:Aa a b=1)(e:a∣b*c):a∣c:=by
 have d:a.natAbs∣b.natAbs*c.natAbs:=by rw[<-Fh];exact de.mpr e
 exact de.mp (d3 (show XS a.natAbs b.natAbs from h) d)
theorem DN{B d D:Int}(k:d≠0)(m:B∣D)(l:d∣D):B/(Aa B d:Nat)*d∣D:=by
 obtain⟨x,y,b,c,a,j⟩:=zE B d k;rw[show B/((Aa B d:Nat):Int)=x from Num.Hr b j];obtain⟨u,f⟩:=m;obtain⟨v,i⟩:=l;generalize((Aa B d:Nat):Int)=g at*;have e:x*u=y*v:=by
  have:g*(x*u)=g*(y*v):=by rw[<-Wp,<-Wp,<-b,<-c,<-f,<-i]
  exact QQ (by lia) this
 obtain⟨w,h⟩:y∣u:=vR (by rw[Int.gcd_comm];exact a) ⟨v,e⟩;refine⟨w,?_⟩;rw[f,b,h,c];grind
theorem Hz{ns ms:List Int}(h:iy ns ms)(k:Nat):ms.getD k 0=ns.getD k 0:=by
 obtain⟨j,d,rfl,b,_⟩:=h;by_cases c:k<j
 .rw[AC,kb c,<-AC]
 .rw[outI (by rw[eP];lia)];by_cases a:k<ns.length
  .exact(b k (by lia) a).symm
  .exact(outI (by lia)).symm
theorem vU{ns ms:List Int}(h:iy ns ms):ms.length<=ns.length:=by obtain⟨j,a,rfl,_⟩:=h;rw[eP];lia
theorem DO{l:Int}{M i:Nat}(h:l.natAbs<2^M):(l^i).natAbs<=2^(M*i):=by rw[Zs,du];exact SL (Q1 h) _
theorem HA{x y n m:Nat}(b:x<2^n)(a:y<=2^m):x*y<2^(n+m):=by rw[XB];exact IR (FV _ a) (UM b (T1 (by decide)))
end Num
namespace Sub
abbrev Ix:=Bool×Nat
abbrev Vc:=Ix->Int
noncomputable def ex(D:List Vc->Int)(r:Ix):List Vc->List Vc->Int
 |_,[]=>0
 |pre,c::post=>c r*D (pre++post) -ex D r (pre++[c]) post
noncomputable def det:List Ix->List Vc->Int
 |[],[]=>1
 |[],_::_=>0
 |r::a,cs=>ex (det a) r [] cs
noncomputable def Alt(D:List Vc->Int):Prop:=∀(p q:List Vc)(a b:Vc),D (p++a::b::q)= -D (p++b::a::q)
noncomputable def QB(D:List Vc->Int):Prop:=∀(p q:List Vc)(x y:Int)(a b:Vc),D (p++(λi=>x*a i+y*b i)::q)=x*D (p++a::q)+y*D (p++b::q)
theorem zI{D:List Vc->Int}(h:Alt D)(r:Ix):∀(d p q:List Vc)(a b:Vc),ex D r (p++a::b::q) d= -ex D r (p++b::a::q) d
 |[],_,_,_,_=>rfl
 |c::d,p,q,a,b=>by have ih:=zI h r d p (q++[c]) a b;have e:=h p (q++d) a b;simp only[ex,RF,EF]at ih e⊢;rw[e,ih];grind
theorem zJ{D:List Vc->Int}(h:Alt D)(r:Ix):∀(p d q:List Vc)(a b:Vc),ex D r d (p++a::b::q)= -ex D r d (p++b::a::q)
 |[],d,q,a,b=>by have e:=zI h r q d [] a b;simp only[ex,C4,RF,EF]at e⊢;rw[e];grind
 |c::p,d,q,a,b=>by have f:=zJ h r p (d++[c]) q a b;have e:=h (d++p) q a b;simp only[ex,EF,RF]at f e⊢;rw[e,f];grind
theorem n5:∀c:List Ix,Alt (det c)
 |[]=>λp q a b=>by
  cases p<;>rfl
 |r::c=>λp q a b=>zJ (n5 c) r p [] q a b
theorem zK{D:List Vc->Int}(h:QB D)(r:Ix):∀(d p q:List Vc)(x y:Int)(a b:Vc),ex D r (p++(λi=>x*a i+y*b i)::q) d=x*ex D r (p++a::q) d+y*ex D r (p++b::q) d
 |[],_,_,_,_,_,_=>by simp[ex]
 |c::d,p,q,x,y,a,b=>by have ih:=zK h r d p (q++[c]) x y a b;have e:=h p (q++d) x y a b;simp only[ex,RF,EF]at ih e⊢;rw[e,ih];grind
theorem zL{D:List Vc->Int}(h:QB D)(r:Ix):∀(p d q:List Vc)(x y:Int)(a b:Vc),ex D r d (p++(λi=>x*a i+y*b i)::q)=x*ex D r d (p++a::q)+y*ex D r d (p++b::q)
 |[],d,q,x,y,a,b=>by have e:=zK h r q d [] x y a b;simp only[ex,C4]at e⊢;rw[e];grind
 |c::p,d,q,x,y,a,b=>by have f:=zL h r p (d++[c]) q x y a b;have e:=h (d++p) q x y a b;simp only[ex,EF,RF]at f e⊢;rw[e,f];grind
theorem tO:∀c:List Ix,QB (det c)
 |[]=>λp q x y a b=>by
  cases p<;>simp[det]
 |r::c=>λp q x y a b=>zL (tO c) r p [] q x y a b
theorem zM{D:List Vc->Int}{r:Ix}:∀(a b:List Vc),(∀c∈a,c r=0)->ex D r b a=0
 |[],_,_=>rfl
 |c::a,b,h=>by rw[ex,h c FR,zM a _ λd e=>h d (Ee _ e)];simp
theorem se{r:Ix}{a:List Ix}{c:Vc}{cs:List Vc}(h:∀d∈cs,d r=0):det (r::a) (c::cs)=c r*det a cs:=by rw[det,ex,zM cs _ h,C4,va]
theorem vV{D:List Vc->Int}(h:Alt D):∀(u p v:List Vc)(a:Vc),D (p++a::(u++a::v))=0
 |[],p,v,a=>by have:=h p v a a;simp only[C4]at this⊢;lia
 |c::u,p,v,a=>by have e:=h p (u++a::v) a c;have b:=vV h u (p++[c]) v a;simp only[RF,EF,C4]at b e⊢;rw[e,b];rfl
theorem HB{D:List Vc->Int}(h:Alt D)(c:QB D){p q:List Vc}{a b:Vc}(x y:Int)(d:b∈q):D (p++(λi=>x*a i+y*b i)::q)=x*D (p++a::q):=by obtain⟨u,v,rfl⟩:=List.append_of_mem d;rw[c,vV h u p v b,Oy,h7]
noncomputable def sg(n:Nat):Int:=(-1)^n
theorem vW{D:List Vc->Int}(h:Alt D):∀(u p q:List Vc)(a:Vc),D (p++a::(u++q))=sg u.length*D (p++(u++a::q))
 |[],p,q,a=>by simp[sg]
 |c::u,p,q,a=>by have e:=h p (u++q) a c;have b:=vW h u (p++[c]) q a;simp only[RF,EF,C4,A6]at b e⊢;rw[e,b];unfold sg;rw[OF];grind
theorem vX{D:List Vc->Int}(h:Alt D):∀(w p u q:List Vc),D (p++(w++(u++q)))=sg (u.length*w.length)*D (p++(u++(w++q)))
 |[],p,u,q=>by simp[sg]
 |a::w,p,u,q=>by have ih:=vX h w (p++[a]) u q;have e:=vW h u p (w++q) a;simp only[RF,EF,C4,A6]at ih e⊢;rw[ih,e];unfold sg;rw[Qx,kz];grind
noncomputable def sh(j:Nat)(P:Vc):Vc:=λi=>if j<=i.2 then P (i.1,i.2 -j)else 0
noncomputable def n6(P:Vc):Nat->List Vc
 |0=>[]
 |n+1=>sh n P::n6 P n
noncomputable def rws:Nat->Nat->List Ix
 |_,0=>[]
 |0,_+1=>[]
 |E+1,c+1=>(false,E)::rws E c
theorem vY(E:Nat):rws E 0=[]:=by cases E<;>rfl
theorem HC(P:Vc):sh 0 P=P:=by funext i;unfold sh;rw[Bi (KB _)];rfl
theorem Su(j s:Nat)(P:Vc):sh j (sh s P)=sh (s+j) P:=by
 funext i;unfold sh;by_cases h:j<=i.2
 .rw[Bi h];by_cases a:s+j<=i.2
  .rw[Bi a,Bi (by show s<=i.2 -j;lia)];show P (i.1,i.2 -j -s)=P (i.1,i.2 -(s+j));congr 2;lia
  .rw[BM a,BM (by show¬s<=i.2 -j;lia)]
 .rw[BM h,BM (by lia)]
theorem n8(P:Vc):∀n,(n6 P n).length=n
 |0=>rfl
 |n+1=>by rw[n6,A6,n8 P n]
theorem zN{P:Vc}:∀{n i:Nat},i<n->sh i P∈n6 P n
 |n+1,i,h=>by
  rw[n6];by_cases e:i=n
  .rw[e];exact FR
  .exact Ee _ (zN (by lia))
theorem oZ{P:Vc}:∀{n:Nat}{d:Vc},d∈n6 P n->∃i,i<n/\d=sh i P
 |n+1,d,h=>by
  rw[n6]at h;rcases GE.mp h with h|h
  .exact⟨n,by lia,h⟩
  .obtain⟨i,hi,e⟩:=oZ h;exact⟨i,by lia,e⟩
theorem MX{B:Vc}{n:Nat}{l:Int}(a:B (false,n)=l)(hz:∀t,n<t->B (false,t)=0){cs:List Vc}{b c:Nat}{tl:List Ix}(f:∀d∈cs,∀t,n+b<=t->d (false,t)=0):
 ∀s,det (rws (n+b+s) (c+s)++tl) (n6 B (b+s)++cs)=l^s*det (rws (n+b) c++tl) (n6 B b++cs)
 |0=>by simp
 |s+1=>by
  show det ((false,n+b+s)::(rws (n+b+s) (c+s)++tl)) (sh (b+s) B::(n6 B (b+s)++cs))=_;rw[se,MX a hz f s]
  .have e:sh (b+s) B (false,n+b+s)=l:=by unfold sh;rw[Bi (by show b+s<=n+b+s;lia),<-a];show B (false,n+b+s -(b+s))=_;congr 2;lia
   rw[e,OF];grind
  .intro d g;rcases KE.mp g with h|h
   .obtain⟨i,j,rfl⟩:=oZ h;unfold sh;split
    .exact hz _ (by show n<n+b+s -i;lia)
    .rfl
   .exact f d h _ (by lia)
noncomputable def comb(c:Int)(a:Vc):List (Int×Vc)->Vc
 |[]=>λi=>c*a i+0*a i
 |z::L=>λi=>1*comb c a L i+z.1*z.2 i
theorem vZ{D:List Vc->Int}(h:Alt D)(b:QB D){p q:List Vc}{c:Int}{a:Vc}:∀{L:List (Int×Vc)},(∀z∈L,z.2∈q)->D (p++comb c a L::q)=c*D (p++a::q)
 |[],_=>by rw[comb,b];grind
 |z::L,d=>by rw[comb,HB h b _ _ (d z FR),vZ h b λy e=>d y (Ee _ e),my]
theorem zO(j:Nat)(c:Int)(a:Vc):∀L:List (Int×Vc),sh j (comb c a L)=comb c (sh j a) (L.map λz=>(z.1,sh j z.2))
 |[]=>by funext i;show sh j (comb c a []) i=c*sh j a i+0*sh j a i;unfold sh comb;split<;>simp
 |z::L=>by
  funext i;have ih:=congrFun (zO j c a L) i;show sh j (comb c a (z::L)) i=1*comb c (sh j a) (L.map λz=>(z.1,sh j z.2)) i+z.1*sh j z.2 i;rw[<-ih];unfold sh;split
  .rfl
  .simp
theorem o7{D:List Vc->Int}(h:Alt D)(d:QB D){q:List Vc}{c:Int}{A:Vc}{L:List (Int×Vc)}:∀(a:Nat)(p:List Vc),(∀z∈L,∀j,j<a->sh j z.2∈q)->D (p++(n6 (comb c A L) a++q))=c^a*D (p++(n6 A a++q))
 |0,p,_=>by simp[n6]
 |a+1,p,b=>by
  have ih:=o7 h d (c:=c) (A:=A) a (p++[sh a A]) λz hz j f=>b z hz j (by lia);rw[n6,n6,EF,zO,vZ h d (λz hz=>?_)]
  .simp only[RF,EF,C4]at ih⊢;rw[ih,OF];grind
  .obtain⟨y,e,rfl⟩:=Nw.mp hz;exact Hn _ (b y e a (by lia))
noncomputable def SS(E:Nat)(A B:Vc)(a b:Nat)(c:Ix):Int:=det (rws E (a+b -1)++[c]) (n6 A a++n6 B b)
noncomputable def less(c:Int)(A B:Vc)(L:List (Int×Nat)):Vc:=comb c A (L.map λz=>(z.1,sh z.2 B))
theorem zP{E:Nat}{A B:Vc}{c:Int}{L:List (Int×Nat)}{a b:Nat}(h:∀z∈L,z.2+a<=b)(d:Ix):SS E (less c A B L) B a b d=c^a*SS E A B a b d:=by
 unfold SS less;have e:=o7 (n5 (rws E (a+b -1)++[d])) (tO _) (q:=n6 B b) (c:=c) (A:=A) (L:=L.map λz=>(z.1,sh z.2 B)) a [] λz hz j g=>by obtain⟨y,f,rfl⟩:=Nw.mp hz;rw[Su];have:=h y f;exact zN (by lia)
 simp only[C4]at e;exact e
theorem DP{E:Nat}{B R P:Vc}{c:Int}(h:∀i,R i=c*P i)(b a:Nat)(d:Ix):SS E B R b a d=c^a*SS E B P b a d:=by
 have f:R=comb c P []:=funext λi=>by rw[h i];show _=c*P i+0*P i;simp
 unfold SS;have e:=o7 (n5 (rws E (b+a -1)++[d])) (tO _) (q:=[]) (c:=c) (A:=P) (L:=[]) a (n6 B b) λz hz=>nomatch hz;simp only[d4]at e;rw[f,e]
theorem zQ{B R:Vc}{n:Nat}{l:Int}(f:B (false,n)=l)(hz:∀t,n<t->B (false,t)=0){z a b s:Nat}(h:∀t,z<=t->R (false,t)=0)(o:1<=a)(m:z+a<=n+b+1)(c:Ix):
 SS (n+b+s) R B a (b+s) c=sg ((b+s)*a)*(l^s*SS (n+b) B R b a c):=by
 unfold SS;have e:=vX (n5 (rws (n+b+s) (a+(b+s) -1)++[c])) (n6 R a) [] (n6 B (b+s)) [];simp only[C4,d4,n8]at e;rw[e];congr 1;rw[show a+(b+s) -1=b+a -1+s by lia];refine MX f hz (λd g t j=>?_) s;obtain⟨i,k,rfl⟩:=oZ g;unfold sh;split
 .exact h _ (by show z<=t -i;lia)
 .rfl
theorem DR(E:Nat)(B R:Vc)(a:Ix):SS E B R 0 1 a=R a:=by unfold SS;show det (rws E 0++[a]) (sh 0 R::[])=_;rw[vY,C4,HC,se (cs:=[]) (by intro d b;cases b)];show R a*1=R a;rw[cm]
theorem HD{A B:Vc}{n:Nat}{l:Int}(f:B (false,n)=l)(hz:∀t,n<t->B (false,t)=0)(s:Nat)(a:Ix):SS (n+1+s) A B 0 (1+s) a=l^s*B a:=by unfold SS;rw[show 0+(1+s) -1=0+s by lia];have e:=MX f hz (cs:=[]) (b:=1) (c:=0) (tl:=[a]) (λd g=>nomatch g) s;simp only[d4]at e;show det (rws (n+1+s) (0+s)++[a]) ([]++n6 B (1+s))=_;rw[C4,e];congr 1;exact DR (n+1) A B a
noncomputable def DS(a:Int):Prop:=a=1\/a= -1
theorem DS.sq{a:Int}(h:DS a):a*a=1:=by rcases h with rfl|rfl<;>rfl
theorem DS.mul{a b:Int}(h:DS a)(c:DS b):DS (a*b):=by rcases h with rfl|rfl<;>rcases c with rfl|rfl<;>first|exact .inl rfl|exact .inr rfl
theorem o8:∀n,DS (sg n)
 |0=>.inl rfl
 |n+1=>by have:=o8 n;unfold sg at this⊢;rw[OF];exact this.mul (.inr rfl)
theorem cV{x:Int}(h:x≠0):∀n:Nat,x^n≠0
 |0=>by rw[TB];decide
 |n+1=>by rw[OF];exact PQ (cV h n) h
theorem DU(x y:Int):∀n:Nat,(x*y)^n=x^n*y^n
 |0=>by rw[TB,TB,TB];rfl
 |n+1=>by rw[OF,OF,OF,DU x y n];generalize x^n=a;generalize y^n=b;grind
theorem DV(x:Int)(m:Nat):∀n:Nat,(x^m)^n=x^(m*n)
 |0=>by rw[ae,TB,TB]
 |n+1=>by rw[OF,DV x m n,Qx,kz]
theorem DW{l h h':Int}{b:Nat}(e:h'*h^b=l^b*h):∀a:Nat,(l^(b+1))^(a+1)*h^(b+a)=l^(b+(a+1))*h^(b*(a+1))*h'^a
 |0=>by rw[gL,Xi,TB,cm,T9];simp
 |a+1=>by
  have ih:=DW e a;have d:(l^(b+1))^(a+1+1)*h^(b+(a+1))=((l^(b+1))^(a+1)*h^(b+a))*(l*(l^b*h)):=by rw[OF (l^(b+1)) (a+1),<-kS b a 1,OF h (b+a),OF l b];generalize(l^b*l)^(a+1)=x;generalize h^(b+a)=y;generalize l^b=z;grind
  have c:l^(b+(a+1+1))*h^(b*(a+1+1))*h'^(a+1)=(l^(b+(a+1))*h^(b*(a+1))*h'^a)*(l*(h'*h^b)):=by rw[<-kS b (a+1) 1,OF l (b+(a+1)),Qx b (a+1),kz h (b*(a+1)) b,OF h' a];generalize l^(b+(a+1))=x;generalize h^(b*(a+1))=y;generalize h^b=z;generalize h'^a=u;grind
  rw[d,c,ih,e]
structure Ch(A B:Vc)(m n:Nat)(P Q:Vc)(p q:Nat)(lp lq h:Int):Prop where
 hpq:q<=p
 Wz:lp≠0
 h0:h≠0
 ve:lq≠0
 lead:Q (false,q)=lq
 zero:∀t,q<t->Q (false,t)=0
 inv:∀k,k<=q->k<p->∃ε:Int,DS ε/\∀ρ,SS (p+q -k) P Q (q -k) (p -k) ρ=ε*(lp^(q -k)*h^(p -k -1))*SS (m+n -k) A B (n -k) (m -k) ρ
theorem Ch.start{A B:Vc}{m n:Nat}{l:Int}(h:n<=m)(b:B (false,n)=l)(a:l≠0)(hz:∀t,n<t->B (false,t)=0):Ch A B m n A B m n 1 l 1:=
 ⟨h,by decide,by decide,a,b,hz,λk _ _=>⟨1,.inl rfl,λc=>by rw[ba,ba];simp⟩⟩
theorem Ch.rest{A B P Q:Vc}{m n p q:Nat}{g f h:Int}(H:Ch A B m n P Q p q g f h)(y:1<=q){L:List (Int×Nat)}(r:∀z∈L,z.2<=p -q)(o:∀t,q<=t->less (f^(p -q+1)) P Q L (false,t)=0):
 ∃e:Int,DS e/\∀d,less (f^(p -q+1)) P Q L d=e*(g*h^(p -q))*SS (m+n -(q -1)) A B (n -(q -1)) (m -(q -1)) d:=by
 have hpq:=H.hpq;obtain⟨e,x,inv⟩:=H.inv (q -1) (by lia) (by lia);refine⟨sg (p -q+1)*e,(o8 _).mul x,λd=>?_⟩;have k:=inv d;rw[show p+q -(q -1)=q+0+(p -q+1) by lia,show q -(q -1)=1 by lia,show p -(q -1)=0+(p -q+1) by lia,show 0+(p -q+1) -1=p -q by lia,Xi]at k;have v:=zP (E:=q+0+(p -q+1)) (A:=P) (B:=Q) (c:=f^(p -q+1)) (L:=L) (a:=1) (b:=0+(p -q+1)) (λz hz=>by have:=r z hz;lia) d;have j:=zQ H.lead H.zero (z:=q) (a:=1) (b:=0) (s:=p -q+1) o (D2 _) (by lia) d;rw[v,DR,Xi,show(0+(p -q+1))*1=p -q+1 by lia,k]at j;have w:=cV H.ve (p -q+1);have l:=(o8 (p -q+1)).sq;generalize f^(p -q+1)=c at*;generalize less c P Q L d=R at*;generalize sg (p -q+1)=s at*;generalize h^(p -q)=i at*;generalize SS (m+n -(q -1)) A B (n -(q -1)) (m -(q -1)) d=S at*;have u:c*R=c*(s*e*(g*i)*S):=by
  have:c*(s*e*(g*i)*S)=s*(c*(e*(g*i)*S)):=by grind
  rw[this,j];have:s*(s*(c*R))=s*s*(c*R):=by grind
  rw[this,l,my]
 exact QQ w u
theorem Ch.step{A B P Q j:Vc}{m n p q r:Nat}{g d o h h':Int}(H:Ch A B m n P Q p q g d h){L:List (Int×Nat)}(O:∀z∈L,z.2<=p -q)(G:∀e,less (d^(p -q+1)) P Q L e=(g*h^(p -q))*j e)(M:r<q)(N:j (false,r)=o)(K:o≠0)(hz:∀t,r<t->j (false,t)=0)
 (D:h'*h^(p -q)=d^(p -q)*h):Ch A B m n Q j q r d o h':=by
 have hpq:=H.hpq;have Z2:h'≠0:=λz=>by rw[z,eD]at D;exact PQ (cV H.ve _) H.h0 D.symm
 refine⟨by lia,H.ve,Z2,K,N,hz,λk C f=>?_⟩;obtain⟨l,MY,inv⟩:=H.inv k (by lia) (by lia);refine⟨sg ((p -k)*(q -k))*l,(o8 _).mul MY,λe=>?_⟩;have e0:=inv e;have Z:=zP (E:=p+q -k) (A:=P) (B:=Q) (c:=d^(p -q+1)) (L:=L) (a:=q -k) (b:=p -k) (λz hz=>by have:=O z hz;lia) e;have F:=zQ (R:=less (d^(p -q+1)) P Q L) H.lead H.zero (z:=r+1) (a:=q -k) (b:=r -k) (s:=p -r) (λt ht=>by rw[G,hz t (by lia),Oy]) (by lia) (by lia) e;rw[DP G,show q+(r -k)+(p -r)=p+q -k by lia,show r -k+(p -r)=p -k by lia,Z,e0,show q+(r -k)=q+r -k by lia]at F;have i:=DW D (q -k -1);have J:=(o8 ((p -k)*(q -k))).sq;have ck:(g*h^(p -q))^(q -k)=g^(q -k)*h^((p -q)*(q -k)):=by rw[DU,DV]
 have I:d^(p -r)*(g*h^(p -q))^(q -k)≠0:=PQ (cV H.ve _) (cV (PQ H.Wz (cV H.h0 _)) _);refine QQ I ?_;rw[Nat.sub_add_cancel (rn f),show p -q+(q -k -1)=p -k -1 by rw[XO,uj hpq f,XO],show p -q+(q -k)=(p -r)+(r -k) by rw[uj hpq (Q1 f),uj (Bz (Q1 M) hpq) C],kz d (p -r) (r -k)]at i;rw[ck]at F⊢;generalize SS (q+r -k) Q j (r -k) (q -k) e=X at*;generalize SS (m+n -k) A B (n -k) (m -k) e=S at*;generalize sg ((p -k)*(q -k))=s at*;generalize(d^(p -q+1))^(q -k)=c at*;generalize g^(q -k)=u at*;generalize h^(p -k -1)=v at*;generalize d^(p -r)=x at*;generalize h^((p -q)*(q -k))=y at*;generalize d^(r -k)=z at*;generalize h'^(q -k -1)=w at*;have Y:x*(u*y)*X=s*s*(x*(u*y)*X):=by rw[J,my]
 have U:s*s*(x*(u*y)*X)=s*(s*(x*(u*y*X))):=by grind
 rw[Y,U,<-F];have T:s*(c*(l*(u*v)*S))=s*l*u*S*(c*v):=by grind
 rw[T,i];grind
end Sub
namespace Sub
open Num
theorem Lc{D:List Vc->Int}{r:Ix}{M b:Nat}:∀(a e:List Vc),(∀c∈a,(c r).natAbs<=M)->(∀u,(∀c∈u,c∈e\/c∈a)->u.length+1=e.length+a.length->(D u).natAbs<=b)->(ex D r e a).natAbs<=a.length*(M*b)
 |[],_,_,_=>by simp[ex]
 |c::a,e,h,g=>by
  rw[ex];have h1:=h c FR;have k:=g (e++a) (λd f=>by
   rcases KE.mp f with z|z
   .exact .inl z
   .exact .inr (Ee _ z)) (by simp only[FS,A6];lia)
  have l:=Lc (D:=D) (r:=r) (M:=M) (b:=b) a (e++[c]) (λd f=>h d (Ee _ f)) (λu i j=>g u (λd f=>by
   rcases i d f with z|z
   .rcases KE.mp z with y|y
    .exact .inl y
    .rw[FK]at y;rw[y];exact .inr FR
   .exact .inr (Ee _ z)) (by simp only[FS,A6,KZ]at j⊢;lia))
  have o:(c r*D (e++a)).natAbs<=M*b:=by rw[Fh];exact GT h1 k
  have n:(c r*D (e++a) -ex D r (e++[c]) a).natAbs<=(c r*D (e++a)).natAbs+(ex D r (e++[c]) a).natAbs:=by omega
  have m:(c::a).length*(M*b)=a.length*(M*b)+M*b:=by rw[A6,Qw]
  omega
theorem DX{N M:Nat}:∀(a:List Ix)(cs:List Vc),cs.length<=N->(∀c∈cs,∀i,(c i).natAbs<=M)->(det a cs).natAbs<=(N*M)^a.length
 |[],[],_,_=>by simp[det]
 |[],_::_,_,_=>by simp[det]
 |r::a,cs,g,e=>by
  rw[det];have:=Lc (D:=det a) (r:=r) (M:=M) (b:=(N*M)^a.length) cs [] (λc d=>e c d r) (λu f h=>DX a u (by simp only[KZ]at h;lia) λc d=>by
   rcases f c d with z|z
   .cases z
   .exact e c z)
  refine Bz this ?_;rw[A6,Gv];have k:cs.length*(M*(N*M)^a.length)<=N*(M*(N*M)^a.length):=Pl _ g;have j:N*(M*(N*M)^a.length)=(N*M)^a.length*(N*M):=by generalize(N*M)^a.length=x;grind
  lia
theorem zS:∀(c E:Nat),(rws E c).length<=c
 |0,E=>by rw[vY];exact D2 _
 |c+1,0=>KB _
 |c+1,E+1=>by show(rws E c).length+1<=c+1;have:=zS c E;lia
theorem Ld{P:Vc}{M:Nat}(h:∀i,(P i).natAbs<=M)(j:Nat)(i:Ix):(sh j P i).natAbs<=M:=by
 unfold sh;split
 .exact h _
 .exact KB _
theorem Sv{A B:Vc}{N M a b:Nat}(l:∀i,(A i).natAbs<=M)(k:∀i,(B i).natAbs<=M)(g:a+b<=N)(m:1<=a+b)(f:1<=N*M)(E:Nat)(d:Ix):(SS E A B a b d).natAbs<=(N*M)^(a+b):=by
 unfold SS;have:=DX (N:=N) (M:=M) (rws E (a+b -1)++[d]) (n6 A a++n6 B b) (by rw[FS,n8,n8];exact g) (λc e i=>by
  rcases KE.mp e with h|h
  .obtain⟨j,_,rfl⟩:=oZ h;exact Ld l j i
  .obtain⟨j,_,rfl⟩:=oZ h;exact Ld k j i)
 refine Bz this (Hk f ?_);have:=zS (a+b -1) E;rw[FS];show _+1<=_;omega
theorem DS.abs{a x:Int}(h:DS a):(a*x).natAbs=x.natAbs:=by rcases h with rfl|rfl<;>lia
theorem Ch.HE{A B P Q:Vc}{m n p q:Nat}{e a h:Int}(H:Ch A B m n P Q p q e a h)(f:q<p):∃S:Int,a^(p -q)=h^(p -q -1)*S/\S.natAbs=(SS (m+n -q) A B (n -q) (m -q) (false,q)).natAbs:=by
 obtain⟨c,j,inv⟩:=H.inv q (D2 _) f;obtain⟨d,k⟩:∃d,p=q+1+d:=⟨p -q -1,by lia⟩;have b:=inv (false,q);have i:=HD (A:=P) H.lead H.zero d (false,q);rw[show p+q -q=q+1+d by lia,show q -q=0 by lia,show p -q=1+d by lia,i,H.lead,show 1+d -1=d by lia,TB,my]at b;have g:a^(p -q)=a^d*a:=by rw[<-OF];congr 1;lia
 refine⟨c*SS (m+n -q) A B (n -q) (m -q) (false,q),?_,j.abs⟩;rw[g,b,show p -q -1=d by lia];generalize SS (m+n -q) A B (n -q) (m -q) (false,q)=S;generalize h^d=x;grind
noncomputable def vc(r f:List Int):Vc:=λi=>if i.1 then f.getD i.2 0 else r.getD i.2 0
noncomputable def qR(a:List Int):Nat->List (Int×Nat)
 |0=>[]
 |n+1=>(-(a.getD n 0),n)::qR a n
theorem zT{a:List Int}:∀{n:Nat}{z:Int×Nat},z∈qR a n->z.2<n
 |n+1,z,h=>by
  rcases GE.mp h with rfl|h
  .exact PH n
  .exact cq (zT h)
theorem zU(c:Int)(A B:Vc)(a:List Int)(i:Ix):∀n,less c A B (qR a n) i=c*A i -sm (λj=>a.getD j 0*(if j<=i.2 then B (i.1,i.2 -j)else 0)) n
 |0=>by show c*A i+0*A i=c*A i -0;simp
 |n+1=>by
  have ih:=zU c A B a i n;show 1*less c A B (qR a n) i+ -(a.getD n 0)*sh n B i=_;rw[ih,sm];have e:sh n B i=if n<=i.2 then B (i.1,i.2 -n)else 0:=rfl
  rw[e];generalize(if n<=i.2 then B (i.1,i.2 -n)else 0)=x;generalize sm _ n=y;generalize a.getD n 0=z;grind
theorem HF(c:Int)(P e Q d a:List Int)(b:Bool)(t:Nat):less c (vc P e) (vc Q d) (qR a a.length) (b,t)=c*(if b then e else P).getD t 0 -cf a (if b then d else Q) a.length t:=by
 rw[zU,vP];cases b
 .rfl
 .rfl
end Sub
namespace Num
theorem HG{f g:Nat->Rat}(h:∀i,1<=i->f i=0)(k:Nat):aA f g k=f 0*g k:=by unfold aA;rw[oY (m:=1) (k+1) (by lia) λi a _=>by rw[h i a,X1]];show 0+f 0*g (k -0)=_;rw[Gu,oa]
end Num
namespace Sub
open Num
structure CS(ns ms f0 g0:List Int)(w E b1:Nat)(P Q fP fQ:List Int)(ld h:Int):Prop where
 ch:Ch (vc ns f0) (vc ms g0) (ns.length -1) (ms.length -1) (vc P fP) (vc Q fQ) (P.length -1) (Q.length -1) ld (Q.getD (Q.length -1) 0) h
 lq:0<Q.length
 zV:Q.length<=P.length
 lp:P.length<=ns.length
 DY:Q.length<=ms.length
 lf:fP.length+Q.length<=b1
 WA:fQ=[]\/fQ.length+P.length<=b1
 bP:∀i,(vc P fP i).natAbs<=2^(w*(ns.length -1+(ms.length -1)+1))
 bQ:∀i,(vc Q fQ i).natAbs<=2^(w*(ns.length -1+(ms.length -1)+1))
 bl:ld.natAbs<=2^(w*(ns.length -1+(ms.length -1)+1))
 bh:h.natAbs<=2^(w*(ns.length -1+(ms.length -1) -2*(P.length -1)))
structure FX(ns ms f0 g0:List Int)(w E:Nat):Prop where
 l1:ms.length<=ns.length
 l2:ns.length<=50
 M:∃M:Nat,(∀i,(vc ns f0 i).natAbs<=M)/\(∀i,(vc ms g0 i).natAbs<=M)/\1<=M/\(ns.length -1+(ms.length -1)+1)*M<=2^w
 E1:∀p,(ns.length -1+(ms.length -1) -2*p)*p+(ns.length -1+(ms.length -1)+1)<=E
theorem eT(x:Int):∀n:Nat,(x^n).natAbs=x.natAbs^n
 |0=>by simp
 |n+1=>by rw[OF,Fh,eT x n,Gv]
theorem HH{a b k:Nat}(f:k<=b)(e:k<=a):b -k+(a -k)=a+b -2*k:=by obtain⟨c,rfl⟩:=Ve f;obtain⟨d,rfl⟩:=Ve e;rw[Y1,Y1,show k+d+(k+c)=c+d+2*k by lia,Fn]
theorem Sw{ns ms f d:List Int}{w E:Nat}(F:FX ns ms f d w E){k:Nat}(c:k<=ms.length -1)(n:1<=(ms.length -1 -k)+(ns.length -1 -k))(e:Nat)(a:Ix):
 (SS e (vc ns f) (vc ms d) (ms.length -1 -k) (ns.length -1 -k) a).natAbs<=2^(w*(ns.length -1+(ms.length -1) -2*k)):=by
 obtain⟨M,j,i,h,g⟩:=F.M;have l1:=F.l1;have m:1<=(ns.length -1+(ms.length -1)+1)*M:=GT (show 1<=ns.length -1+(ms.length -1)+1 by lia) h;have l:=Bz c (me l1 1);have b:=Sv (N:=ns.length -1+(ms.length -1)+1) j i (R0 (by rw[mM];exact i5 (ui _ _) (ui _ _))) n m e a;refine Bz b ?_;rw[du,HH c l];exact SL g _
theorem getD_mem'{ns:List Int}{k:Nat}(h:k<ns.length):ns.getD k 0∈ns:=by rw[AC,B1 h];exact Sr h
theorem mem_getD{ns:List Int}{x:Int}(h:x∈ns):∃k,k<ns.length/\ns.getD k 0=x:=by obtain⟨i,a,e⟩:=NA h;exact⟨i,a,by rw[AC,B1 a,<-e];rfl⟩
theorem map_getD{ns:List Int}{f:Int->Int}(a:f 0=0)(k:Nat):(ns.map f).getD k 0=f (ns.getD k 0):=by
 rw[AC,DL,AC];cases ns[k]? with
 |none=>exact a.symm
 |some z=>rfl
noncomputable def hnext(h l:Int)(a:Nat):Int:=if a=0 then h else(l^a).fdiv (h^(a -1))
theorem CS.step{ns ms v u P Q p n g R F:List Int}{w E b1:Nat}{d h c:Int}(X:FX ns ms v u w E)(C:CS ns ms v u w E b1 P Q p n d h)(A:2<=Q.length)(U:c=Q.getD (Q.length -1) 0^(P.length -Q.length+1))(Le:g.length=P.length -Q.length+1)
 (hR:∀k,R.getD k 0=c*P.getD k 0 -cf g Q g.length k)(T:R.length<Q.length)(zR:R=[]\/R.getD (R.length -1) 0≠0)(hF:∀k,F.getD k 0=c*p.getD k 0 -cf g n g.length k)(s:F.length<=max p.length (g.length+n.length -1))(Z4:n=[]->F.length<=p.length):
 d*h^(P.length -Q.length)≠0/\(d*h^(P.length -Q.length)).natAbs<=2^(w*E)/\(∀x∈R,d*h^(P.length -Q.length)∣x)/\(∀x∈F,d*h^(P.length -Q.length)∣x)/\(0<P.length -Q.length->h^(P.length -Q.length -1)≠0/\(h^(P.length -Q.length -1)).natAbs<=2^(w*E))/\
 (∀i,(vc (R.map λx=>x.fdiv (d*h^(P.length -Q.length))) (F.map λx=>x.fdiv (d*h^(P.length -Q.length))) i).natAbs<=2^(w*(ns.length -1+(ms.length -1)+1)))/\
 (R≠[]->CS ns ms v u w E b1 Q (R.map λx=>x.fdiv (d*h^(P.length -Q.length))) n (F.map λx=>x.fdiv (d*h^(P.length -Q.length))) (Q.getD (Q.length -1) 0) (hnext h (Q.getD (Q.length -1) 0) (P.length -Q.length))):=by
 have ch:=C.ch;have zV:=C.zV;have lp:=C.lp;have l1:=X.l1;have lf:=C.lf;have DY:=C.DY;obtain⟨a,q⟩:∃a,P.length -Q.length=a:=⟨_,rfl⟩;have j:P.length -1 -(Q.length -1)=a:=by rw[XO,Nat.add_sub_cancel' (Q1 A)];exact q
 have Y:∀z∈qR g g.length,z.2<=P.length -1 -(Q.length -1):=λz hz=>by have:=zT hz;lia
 have I:∀(b:Bool)(t:Nat),less c (vc P p) (vc Q n) (qR g g.length) (b,t)=(if b then F else R).getD t 0:=λb t=>by
  rw[HF];cases b
  .exact(hR t).symm
  .exact(hF t).symm
 have ve:=ch.ve;generalize X8:Q.getD (Q.length -1) 0=D at*;have l:D^(P.length -1 -(Q.length -1)+1)=c:=by rw[U,j,q]
 have K:d*h^a≠0:=PQ ch.Wz (cV ch.h0 _);obtain⟨M,MY,rest⟩:=ch.rest (L:=qR g g.length) (by lia) Y (λt ht=>by rw[l,I];exact outI (by show R.length<=t;lia));rw[l,j]at rest;have bk:(d*h^a).natAbs<=2^(w*E):=by
  rw[Fh,eT];have m:=X.E1 (P.length -1);have B:h.natAbs^a<=2^(w*(ns.length -1+(ms.length -1) -2*(P.length -1))*a):=by rw[du];exact SL C.bh a
  refine Bz (GT C.bl B) ?_;rw[<-XB];refine Hk (by decide) ?_;rw[ma,<-rp];refine FV _ ?_;have:(ns.length -1+(ms.length -1) -2*(P.length -1))*a<=(ns.length -1+(ms.length -1) -2*(P.length -1))*(P.length -1):=FV _ (by lia);lia
 have dv:∀(b:Bool)(t:Nat),(d*h^a)∣(if b then F else R).getD t 0:=λb t=>by rw[<-I,rest];exact⟨M*SS (ns.length -1+(ms.length -1) -(Q.length -1 -1)) (vc ns v) (vc ms u) (ms.length -1 -(Q.length -1 -1)) (ns.length -1 -(Q.length -1 -1)) (b,t),by grind⟩
 have dR:∀x∈R,d*h^a∣x:=λx G=>by obtain⟨k,_,rfl⟩:=mem_getD G;exact dv false k
 have dF:∀x∈F,d*h^a∣x:=λx G=>by obtain⟨k,_,rfl⟩:=mem_getD G;exact dv true k
 have Z:∀(b:Bool)(t:Nat),((if b then F else R).map λx=>x.fdiv (d*h^a)).getD t 0*(d*h^a)=(if b then F else R).getD t 0:=λb t=>by rw[map_getD (f:=λx=>x.fdiv (d*h^a)) (Lh _),lh (dv b t),oT (dv b t)]
 have N:∀i,vc (R.map λx=>x.fdiv (d*h^a)) (F.map λx=>x.fdiv (d*h^a)) i*(d*h^a)=less c (vc P p) (vc Q n) (qR g g.length) i:=λi=>by obtain⟨b,t⟩:=i;rw[I,<-Z b t];cases b<;>rfl
 have O:∀i,(vc (R.map λx=>x.fdiv (d*h^a)) (F.map λx=>x.fdiv (d*h^a)) i).natAbs<=2^(w*(ns.length -1+(ms.length -1)+1)):=λi=>by
  have m:=N i;rw[rest]at m;have J:vc (R.map λx=>x.fdiv (d*h^a)) (F.map λx=>x.fdiv (d*h^a)) i=M*SS (ns.length -1+(ms.length -1) -(Q.length -1 -1)) (vc ns v) (vc ms u) (ms.length -1 -(Q.length -1 -1)) (ns.length -1 -(Q.length -1 -1)) i:=by refine Int.eq_of_mul_eq_mul_right K ?_;rw[m];grind
  rw[J,MY.abs];refine Bz (Sw X (Bz (ui _ _) (me DY 1)) (Bz (rn (FM (c9 (rn A) XQ) (me DY 1))) (SU _ _)) _ _) (Hk (by decide) (FV _ (R0 (ui _ _))))
 rw[q];refine⟨K,bk,dR,dF,λo=>⟨cV ch.h0 _,?_⟩,O,λSx=>?_⟩
 .rw[eT];have m:=X.E1 (P.length -1);have B:h.natAbs^(a -1)<=2^(w*(ns.length -1+(ms.length -1) -2*(P.length -1))*(a -1)):=by rw[du];exact SL C.bh _
  refine Bz B (Hk (by decide) ?_);rw[ma];refine FV _ ?_;have:(ns.length -1+(ms.length -1) -2*(P.length -1))*(a -1)<=(ns.length -1+(ms.length -1) -2*(P.length -1))*(P.length -1):=FV _ (by clear B m o bk K l ve U X8 j;lia);lia
 have DZ:0<R.length:=HI.mpr Sx;have zl:=zR.resolve_left Sx;have h2:∃S:Int,hnext h D a=S/\S*h^a=D^a*h/\S.natAbs<=2^(w*(ns.length -1+(ms.length -1) -2*(Q.length -1))):=by
  by_cases o:a=0
  .refine⟨h,by unfold hnext;rw[Bi o],by rw[o,TB,TB,cm,my],?_⟩;have:=C.bh;rw[Z8 (Nat.le_of_sub_eq_zero (q.trans o)) zV]at this;exact this
  .have Yb:Q.length<P.length:=Nat.lt_of_sub_ne_zero (by rw[q];exact o);obtain⟨S,m,J⟩:=ch.HE (XP (Q1 A) Yb);rw[j]at m;have H:h^(a -1)≠0:=cV ch.h0 _;refine⟨S,?_,?_,?_⟩
   .unfold hnext;rw[BM o,m,lh ⟨S,rfl⟩,eJ S H]
   .have e3:h^a=h^(a -1)*h:=by rw[<-OF];congr 1;lia
    rw[m,e3];generalize h^(a -1)=x;grind
   .rw[J];exact Sw X (me DY 1) (Bz (rn (XP (Q1 A) (FM Yb lp))) (vk _ _)) _ _
 obtain⟨S,hS,hh,bS⟩:=h2;rw[hS];have r:(R.map λx=>x.fdiv (d*h^a)).length=R.length:=Ap _;have Z5:(F.map λx=>x.fdiv (d*h^a)).length=F.length:=Ap _;have ql:(R.map λx=>x.fdiv (d*h^a)).getD (R.length -1) 0≠0:=λz=>by have e:=Z false (R.length -1);simp only[MJ,if_false]at e;rw[z,eD]at e;exact zl e.symm
 refine⟨?_,by rw[r];exact DZ,by rw[r];exact Q1 T,Bz DY l1,by rw[r];exact Bz (Q1 T) DY,?_,?_,C.bQ,O,?_,bS⟩
 .rw[r];refine ch.step (L:=qR g g.length) Y (λi=>?_) (by lia) rfl ql (λt ht=>?_) (by rw[j];exact hh)
  .rw[l,j,<-N i,bb]
  .exact outI (by show(R.map λx=>x.fdiv (d*h^a)).length<=t;rw[r];lia)
 .rw[r];rcases C.WA with z|z
  .rw[z];show 0+_<=_;lia
  .lia
 .rw[Z5];rcases C.WA with z|z
  .right;exact Bz (ml (Z4 z) _) lf
  .right;rw[Le,q,pd,Fn]at s;rw[(Nat.sub_eq_iff_eq_add zV).mp q]at z;rcases ax p.length (a+n.length)with y|y
   .rw[Nat.max_eq_right y]at s;refine Bz (ml s _) (Bz (gN ?_) z);rw[mM a,kS]
   .rw[Nat.max_eq_left y]at s;exact Bz (ml s _) lf
 .have:=C.bQ (false,Q.length -1);rw[<-X8];exact this
end Sub
namespace Num
theorem BR{p x l:Int}(b:oV p)(a:0<l/\l<p)(h:p∣x*l):p∣x:=by have c:=qQ b a.1 a.2;exact vR c (by rw[bb]at h;exact h)
theorem D3(f g:Nat->Int):∀n,sm f n -sm g n=sm (λi=>f i -g i) n
 |0=>rfl
 |n+1=>by rw[sm,sm,sm,<-D3 f g n];lia
theorem HJ{f f' g g':Nat->Int}(b:∀i,f i=f' i)(a:∀i,g i=g' i)(k:Nat):jb f g k=jb f' g' k:=by rw[show f=f' from funext b,show g=g' from funext a]
theorem HK(c:Int)(f h:Nat->Int)(k:Nat):jb (λi=>c*f i) h k=c*jb f h k:=by unfold jb;rw[<-tL];exact iz _ λi _=>Wp ..
abbrev co(a:List Int):Nat->Int:=λi=>a.getD i 0
end Num
namespace Sub
open Num
theorem CS.size{ns ms e d P Q k i:List Int}{w E m:Nat}{b h:Int}(X:FX ns ms e d w E)(C:CS ns ms e d w E m P Q k i b h)(f:2<=Q.length):
 b*h^(P.length -Q.length)≠0/\(b*h^(P.length -Q.length)).natAbs<=2^(w*E)/\(0<P.length -Q.length->h^(P.length -Q.length -1)≠0/\(h^(P.length -Q.length -1)).natAbs<=2^(w*E)):=by
 have ch:=C.ch;have l:=X.E1 (P.length -1);have zV:=C.zV;generalize n:P.length -Q.length=a at*;have c:∀j,j<=a->(h^j).natAbs<=2^(w*((ns.length -1+(ms.length -1) -2*(P.length -1))*(P.length -1))):=λj o=>by
  rw[eT];have g:h.natAbs^j<=2^(w*(ns.length -1+(ms.length -1) -2*(P.length -1))*j):=by rw[du];exact SL C.bh j
  refine Bz g (Hk (by decide) ?_);rw[ma];exact FV _ (FV _ (by lia))
 refine⟨PQ ch.Wz (cV ch.h0 _),?_,λ_=>⟨cV ch.h0 _,?_⟩⟩
 .rw[Fh];refine Bz (GT C.bl (c a (D2 _))) ?_;rw[<-XB,<-rp];exact Hk (by decide) (FV _ (by lia))
 .exact Bz (c (a -1) (by clear n zV l f;lia)) (Hk (by decide) (FV _ (by lia)))
theorem CS.start{ns ms b a:List Int}{w E c:Nat}(X:FX ns ms b a w E)(j:0<ms.length)(e:ms.getD (ms.length -1) 0≠0)(l:b.length+ms.length<=c)(k:a=[]\/a.length+ns.length<=c):CS ns ms b a w E c ns ms b a 1 1:=by
 obtain⟨M,h,g,m,f⟩:=X.M;have l1:=X.l1;have d:M<=2^(w*(ns.length -1+(ms.length -1)+1)):=by refine Bz (Bz (uk M (show 0<ns.length -1+(ms.length -1)+1 by omega)) f) (Hk (by decide) ?_);exact Xt w (by omega)
 refine⟨Ch.start (by omega) rfl e (λt n=>outI (by omega)),j,l1,D2 _,D2 _,l,k,λi=>Bz (h i) d,λi=>Bz (g i) d,T1 (by decide),T1 (by decide)⟩
theorem CS.bd{ns ms f e P Q c b:List Int}{w E g:Nat}{d h:Int}(C:CS ns ms f e w E g P Q c b d h):(∀x∈P,x.natAbs<=2^(w*(ns.length -1+(ms.length -1)+1)))/\(∀x∈Q,x.natAbs<=2^(w*(ns.length -1+(ms.length -1)+1)))/\(∀x∈c,x.natAbs<=2^(w*(ns.length -1+(ms.length -1)+1)))/\∀x∈b,x.natAbs<=2^(w*(ns.length -1+(ms.length -1)+1)):=by
 refine⟨λx a=>?_,λx a=>?_,λx a=>?_,λx a=>?_⟩
 .obtain⟨k,_,rfl⟩:=mem_getD a;exact C.bP (false,k)
 .obtain⟨k,_,rfl⟩:=mem_getD a;exact C.bQ (false,k)
 .obtain⟨k,_,rfl⟩:=mem_getD a;exact C.bP (true,k)
 .obtain⟨k,_,rfl⟩:=mem_getD a;exact C.bQ (true,k)
end Sub
namespace Num
noncomputable def hz(t:Int):List Int->List Int
 |[]=>[]
 |r::a=>(r+t*(hz t a).headD 0)::hz t a
noncomputable def cs(l:List Int):List Rat:=l.map λx:Int=>((x:Int):Rat)
noncomputable def sc(u b:Rat):List Rat->List Rat
 |[]=>[]
 |r::a=>r*u*b^a.length::sc u b a
noncomputable def gz(t:Int)(M:List Int)(k:Nat):Int:=(hz t (M.drop k)).headD 0
end Num
namespace Num
open Sub
theorem D4{p x y:Int}(a:oV p)(h:p∣x*y):p∣x\/p∣y:=by
 have b:0<p:=by have:=a.1;lia
 by_cases c:y%p=0
 .exact .inr (tj c)
 .refine .inl (BR a (l:=y%p) ⟨?_,rg _ b⟩ ?_)
  .have:=UC y (show p≠0 by lia);lia
  .have e:=Int.emod_add_mul_ediv y p;have d:x*(y%p)=x*y -p*(x*(y/p)):=by
    have:y%p=y -p*(y/p):=by lia
    rw[this];grind
   rw[d];exact Xl h ⟨_,rfl⟩
end Num
namespace Num
theorem kN(f:Nat->Rat):∀n,dW f (n+1)=f 0+dW (λi=>f (i+1)) n
 |0=>by rw[dW,dW,dW];grind
 |n+1=>by rw[dW,kN f n,dW];grind
theorem tQ(c:Rat)(f:Nat->Rat):∀n,dW (λi=>c*f i) n=c*dW f n
 |0=>by rw[dW,dW];grind
 |n+1=>by rw[dW,tQ c f n,dW];grind
theorem tR(f g:Nat->Rat):∀n,dW (λi=>f i+g i) n=dW f n+dW g n
 |0=>by rw[dW,dW,dW];grind
 |n+1=>by rw[dW,tR f g n,dW,dW];grind
theorem zW:∀(n:Nat)(f:Nat->Rat),dW (λi=>f (n -i)) (n+1)=dW f (n+1)
 |0,f=>rfl
 |n+1,f=>by
  rw[kN,c7 (g:=λi=>f (n -i)) (n+1) λi hi=>by show f (n+1 -(i+1))=f (n -i);rw[show n+1 -(i+1)=n -i by lia],zW n f,Gu];have:dW f (n+1+1)=dW f (n+1)+f (n+1):=by rw[dW]
  rw[this];grind
theorem bK(f g:Nat->Rat)(k:Nat):aA f g k=aA g f k:=by unfold aA;rw[<-zW];refine c7 _ λi a=>?_;show f (k -i)*g (k -(k -i))=g i*f (k -i);rw[show k -(k -i)=i by omega,u4]
theorem aZ{f f' g g':Nat->Rat}(b:∀i,f i=f' i)(a:∀i,g i=g' i)(k:Nat):aA f g k=aA f' g' k:=by rw[show f=f' from funext b,show g=g' from funext a]
theorem dg(f g h:Nat->Rat)(k:Nat):aA (λi=>f i+g i) h k=aA f h k+aA g h k:=by unfold aA;rw[<-tR];exact c7 _ λi _=>X4 ..
theorem bq(c:Rat)(f h:Nat->Rat)(k:Nat):aA (λi=>c*f i) h k=c*aA f h k:=by unfold aA;rw[<-tQ];exact c7 _ λi _=>PP ..
theorem o9(f g h:Nat->Rat)(k:Nat):aA f (λi=>g i+h i) k=aA f g k+aA f h k:=by rw[bK,dg,bK g,bK h]
theorem dP(c:Rat)(f h:Nat->Rat)(k:Nat):aA f (λi=>c*h i) k=c*aA f h k:=by rw[bK,bq,bK h]
theorem dN(f g:Nat->Rat):aA f g 0=f 0*g 0:=by unfold aA;rw[dW,dW];show 0+f 0*g (0 -0)=_;rw[oa]
theorem gK(f g:Nat->Rat)(k:Nat):aA f g (k+1)=f 0*g (k+1)+aA (λi=>f (i+1)) g k:=by unfold aA;rw[kN];congr 1;exact c7 _ λi a=>by show f (i+1)*g (k+1 -(i+1))=f (i+1)*g (k -i);rw[show k+1 -(i+1)=k -i by lia]
theorem gM(g h:Nat->Rat):∀(k:Nat)(f:Nat->Rat),aA (aA f g) h k=aA f (aA g h) k
 |0,f=>by rw[dN,dN,dN,dN,PP]
 |k+1,f=>by rw[gK,gK f,dN,gK g];have e:(λi=>aA f g (i+1))=λi=>f 0*g (i+1)+aA (λi=>f (i+1)) g i:=funext λi=>gK f g i;rw[e,dg,bq,gM g h k];generalize aA (λi=>g (i+1)) h k=x;generalize aA (λi=>f (i+1)) (aA g h) k=y;generalize h (k+1)=z;grind
theorem tS{f g:Nat->Rat}{n m:Nat}(d:∀i,n<=i->f i=0)(c:∀i,m<=i->g i=0){k:Nat}(h:n+m<=k+1):aA f g k=0:=by
 unfold aA;rw[c7 (g:=λ_=>0) _ λi e=>?_]
 .have:∀n,dW (λ_=>0) n=0:=λn=>by
   induction n with
   |zero=>rfl
   |succ n b=>rw[dW,b];grind
  exact this _
 .show f i*g (k -i)=0;by_cases a:n<=i
  .rw[d i a,X1]
  .rw[c _ (by lia),Pv]
theorem n9{f g:Nat->Rat}{n m:Nat}(c:∀i,n<i->f i=0)(b:∀i,m<i->g i=0):aA f g (n+m)=f n*g m:=by
 unfold aA;have e:dW (λi=>f i*g (n+m -i)) (n+m+1)=dW (λi=>f i*g (n+m -i)) (n+1):=oY _ (by lia) λi h _=>by show f i*g (n+m -i)=0;rw[c i (by lia),X1]
 rw[e,dW];have z:dW (λi=>f i*g (n+m -i)) n=0:=by
  rw[c7 (g:=λ_=>0) _ λi d=>by show f i*g (n+m -i)=0;rw[b _ (by lia),Pv]];have:∀n,dW (λ_=>0) n=0:=λn=>by
   induction n with
   |zero=>rfl
   |succ n a=>rw[dW,a];grind
  exact this _
 rw[z,oa,show n+m -n=m by lia]
abbrev cQ(a:List Rat):Nat->Rat:=λi=>a.getD i 0
noncomputable def Fin(f:Nat->Rat):Prop:=∃n,∀i,n<=i->f i=0
theorem aD(a:List Rat):Fin (cQ a):=⟨a.length,λi b=>iY b⟩
theorem Fin.add{f g:Nat->Rat}(d:Fin f)(c:Fin g):Fin λi=>f i+g i:=by obtain⟨n,a⟩:=d;obtain⟨m,b⟩:=c;exact⟨max n m,λi e=>by show f i+g i=0;rw[a i (by lia),b i (by lia)];grind⟩
theorem Fin.mul{f g:Nat->Rat}(d:Fin f)(c:Fin g):Fin (aA f g):=by obtain⟨n,a⟩:=d;obtain⟨m,b⟩:=c;exact⟨n+m,λi e=>tS a b (by lia)⟩
noncomputable def DQ(g a:Nat->Rat):Prop:=∃s,Fin s/\∀k,a k=aA s g k
theorem DQ.trans{f g h:Nat->Rat}(b:DQ f g)(a:DQ g h):DQ f h:=by obtain⟨s,d,i⟩:=b;obtain⟨t,c,e⟩:=a;refine⟨aA t s,c.mul d,λk=>?_⟩;rw[e k,gM];exact aZ (λ_=>rfl) i k
theorem DQ.add{g a b:Nat->Rat}(d:DQ g a)(c:DQ g b):DQ g λk=>a k+b k:=by obtain⟨s,f,j⟩:=d;obtain⟨t,e,h⟩:=c;exact⟨λi=>s i+t i,f.add e,λk=>by show a k+b k=_;rw[j k,h k,dg]⟩
theorem DQ.mul{g a:Nat->Rat}(u:Nat->Rat)(b:Fin u)(h:DQ g a):DQ g (aA u a):=by obtain⟨s,c,d⟩:=h;refine⟨aA u s,b.mul c,λk=>?_⟩;rw[gM];exact aZ (λ_=>rfl) d k
theorem DQ.ext{g a b:Nat->Rat}(h:DQ g a)(e:∀k,b k=a k):DQ g b:=by obtain⟨s,c,d⟩:=h;exact⟨s,c,λk=>by rw[e k,d k]⟩
theorem pq(g:Nat->Rat)(k:Nat):aA (λi=>if i=0 then 1 else 0) g k=g k:=by rw[HG (λi a=>BM (by lia))];show(1:Rat)*_=_;rw[QR]
theorem DQ.refl(g:Nat->Rat):DQ g g:=⟨λi=>if i=0 then 1 else 0,⟨1,λi a=>BM (by lia)⟩,λk=>(pq g k).symm⟩
theorem cK(g:Nat->Rat)(k:Nat):aA (λ_=>0) g k=0:=by
 unfold aA;have:∀n,dW (λi=>(0:Rat)*g (k -i)) n=0:=λn=>by
  induction n with
  |zero=>rfl
  |succ n a=>rw[dW,a];grind
 exact this _
theorem DQ.zero(g:Nat->Rat):DQ g λ_=>0:=⟨λ_=>0,⟨0,λ_ _=>rfl⟩,λk=>(cK g k).symm⟩
structure Mon(g:List Rat):Prop where
 ne:g≠[]
 one:g.getD (g.length -1) 0=1
theorem jV{f:Nat->Rat}(h:Fin f)(k:Nat)(c:f k≠0):∃n,f n≠0/\∀i,n<i->f i=0:=by
 obtain⟨n,a⟩:=h
 induction n with
 |zero=>exact absurd (a k (KB _)) c
 |succ n b=>
  by_cases e:f n=0
  .refine b λi d=>?_;by_cases g:i=n
   .rw[g];exact e
   .exact a i (by lia)
  .exact⟨n,e,λi d=>a i (by lia)⟩
theorem DQ.sub{g a b:Nat->Rat}(f:DQ g a)(e:DQ g b):DQ g λk=>a k -b k:=by obtain⟨t,h,j⟩:=e;have:DQ g λk=> -1*b k:=⟨λi=> -1*t i,by obtain⟨n,c⟩:=h;exact⟨n,λi d=>by show-1*t i=0;rw[c i d];grind⟩,λk=>by show-1*b k=_;rw[j k,bq]⟩;exact(f.add this).ext λk=>by show a k -b k=a k+ -1*b k;grind
theorem v9{b r:List Rat}(u:aj b)(A:b≠[])(o:aj r)(C:r.length<b.length)(h:DQ (cQ b) (cQ r)):r=[]:=by
 rcases List.eq_nil_or_concat r with e|⟨t,y,e⟩
 .exact e
 .rw[List.concat_eq_append]at e;obtain⟨s,v,d⟩:=h;have B:=HI.mpr A;have l:r.getD t.length 0=y:=by rw[e,AC,Gc (D2 _),ar];rfl
  have k:y≠0:=o y (by rw[e];exact wd);have x:b.getD (b.length -1) 0≠0:=by refine u _ ?_;rw[Kk,AC,B1 (by lia)];rfl
  have:∃j,s j≠0:=Fk λz=>k (by have z:∀j,s j=0:=λj=>Fk λw=>z ⟨j,w⟩;have:=d t.length;rw[aZ (f':=λ_=>0) z (λ_=>rfl),cK]at this;exact l.symm.trans this);obtain⟨j,q⟩:=this;obtain⟨n,p,c⟩:=jV v j q;have a:=n9 (f:=s) (g:=cQ b) (n:=n) (m:=b.length -1) c (λi D=>iY (by lia));rw[<-d]at a;have z:cQ r (n+(b.length -1))=0:=iY (by lia);rw[z]at a;rcases GM.mp a.symm with w|w
  .exact absurd w p
  .exact absurd w x
theorem sf{s:Nat->Rat}{b:List Rat}(j:Fin s)(e:aj b)(o:b≠[])(h:∀k,aA s (cQ b) k=0):∀i,s i=0:=λi=>Fk λc=>by
 have p:=HI.mpr o;have l:b.getD (b.length -1) 0≠0:=by refine e _ ?_;rw[Kk,AC,B1 (by lia)];rfl
 obtain⟨n,d,a⟩:=jV j i c;have t:=n9 (f:=s) (g:=cQ b) (n:=n) (m:=b.length -1) a (λi c=>iY (by lia));rw[h]at t;rcases GM.mp t.symm with w|w
 .exact d w
 .exact l w
end Num
namespace Num
open Sub
abbrev cz(a:List Int):Nat->Rat:=λi=>((a.getD i 0:Int):Rat)
theorem sj(f g:Nat->Int)(k:Nat):aA (λi=>(f i:Rat)) (λi=>(g i:Rat)) k=((jb f g k:Int):Rat):=by have:=Hy (f:=λi=>(f i:Rat)) (g:=λi=>(g i:Rat)) (F:=f) (G:=g) (A:=1) (C:=1) (λi=>fI _) (λi=>fI _) k;rw[fI,fI]at this;exact this
theorem DQ.sc{d f:Nat->Rat}(c:Rat)(h:DQ d f):DQ d λk=>c*f k:=by obtain⟨s,⟨n,a⟩,e⟩:=h;refine⟨λi=>c*s i,⟨n,λi b=>by dsimp only;rw[a i b,Pv]⟩,λk=>?_⟩;dsimp only;rw[bq,e k]
theorem DQ.WC{d f:Nat->Rat}{c:Rat}(a:c≠0)(h:DQ d λk=>c*f k):DQ d f:=
 (h.sc c⁻¹).ext λk=>by have:=Ha c a;grind
theorem Sy(a:List Int):Fin (cz a):=⟨a.length,λi b=>by show((a.getD i 0:Int):Rat)=0;rw[outI b];rfl⟩
theorem kO(c:Rat)(p:Nat)(g:Nat->Rat)(k:Nat):aA (λi=>if i=p then c else 0) g k=if p<=k then c*g (k -p)else 0:=by
 have:∀(p:Nat)(k:Nat),aA (λi=>if i=p then c else 0) g k=if p<=k then c*g (k -p)else 0:=by
  intro p
  induction p with
  |zero=>
   intro k;have:=bq c (λi=>if i=0 then 1 else 0) g k;rw[pq]at this;rw[Bi (KB _),Gu,<-this];refine aZ (λi=>?_) (λ_=>rfl) k;by_cases h:i=0
   .rw[Bi h,Bi h,fI]
   .rw[BM h,BM h,Pv]
  |succ p a=>
   intro k;cases k with
   |zero=>rw[dN,BM (by lia),BM (by lia),X1]
   |succ k=>
    rw[gK,BM (by lia),X1,oa];have e:(λi=>if i+1=p+1 then c else 0)=λi=>if i=p then c else 0:=funext λi=>by
     by_cases h:i=p
     .rw[Bi h,Bi (by lia)]
     .rw[BM h,BM (by lia)]
    rw[e,a k];by_cases h:p<=k
    .rw[Bi h,Bi (by lia),show k+1 -(p+1)=k -p by lia]
    .rw[BM h,BM (by lia)]
 exact this p k
theorem HL{b:List Rat}(z:aj b)(C:b≠[]):∀(n:Nat)(a:List Rat),a.length<=n->∃(q:Nat->Rat)(r:List Rat),Fin q/\aj r/\r.length<b.length/\∀k,cQ a k=aA q (cQ b) k+cQ r k:=by
 have t:=HI.mpr C;have s:b.getD (b.length -1) 0≠0:=by refine z _ ?_;rw[Kk,B1 (by lia),AC,B1 (by lia)];rfl
 intro n
 induction n with
 |zero=>intro a j;refine⟨λ_=>0,[],⟨0,λ_ _=>rfl⟩,λx v=>(by cases v),t,λk=>?_⟩;rw[KM.mp (si.mp j),cK];show(0:Rat)=0+0;grind
 |succ n u=>
  intro a j;by_cases w:a.length<b.length
  .exact⟨λ_=>0,gf a,⟨0,λ_ _=>rfl⟩,iA a,IR (sd a) w,λk=>by rw[cK,oa];exact(tK a k).symm⟩
  .generalize E:a.length -b.length=d;generalize y:a.getD (a.length -1) 0*(b.getD (b.length -1) 0)⁻¹=c;obtain⟨q,r,B,o,p,e⟩:=u (mw (a.length -1) λk=>cQ a k -if d<=k then c*cQ b (k -d)else 0) (by rw[kM];lia);refine⟨λi=>q i+if i=d then c else 0,r,Fin.add B ⟨d+1,λi D=>BM (by lia)⟩,o,p,λk=>?_⟩;rw[dg,kO];have f:=e k;have f:(mw (a.length -1) λk=>cQ a k -if d<=k then c*cQ b (k -d)else 0).getD k 0=_:=f;rw[nZ]at f;by_cases m:k<a.length -1
   .rw[Bi m]at f;grind
   .rw[BM m]at f;by_cases A:k=a.length -1
    .have h:cQ b (k -d)=b.getD (b.length -1) 0:=by rw[show k -d=b.length -1 by lia]
     have g:cQ a k=a.getD (a.length -1) 0:=by rw[A]
     rw[Bi (by lia),h,g,<-y];have:=Ha _ s;grind
    .have h:cQ a k=0:=iY (by lia);have g:(if d<=k then c*cQ b (k -d)else 0)=0:=by
      by_cases l:d<=k
      .rw[Bi l,show cQ b (k -d)=0 from iY (by lia),Pv]
      .rw[BM l]
     rw[h,g];grind
theorem MZ:∀(n:Nat)(a b:List Rat),b.length<=n->aj a->aj b->∃(g:List Rat)(u v:Nat->Rat),aj g/\Fin u/\Fin v/\DQ (cQ g) (cQ a)/\DQ (cQ g) (cQ b)/\∀k,cQ g k=aA u (cQ a) k+aA v (cQ b) k:=by
 have c:∀(a:List Rat),aj a->∃(g:List Rat)(u v:Nat->Rat),aj g/\Fin u/\Fin v/\DQ (cQ g) (cQ a)/\DQ (cQ g) (cQ [])/\∀k,cQ g k=aA u (cQ a) k+aA v (cQ []) k:=λa z=>⟨a,λi=>if i=0 then 1 else 0,λ_=>0,z,⟨1,λi y=>BM (by lia)⟩,⟨0,λ_ _=>rfl⟩,DQ.refl _,DQ.zero _,λk=>by rw[pq,cK,ub]⟩;intro n
 induction n with
 |zero=>intro a b h f d;rw[KM.mp (si.mp h)];exact c a f
 |succ n x=>
  intro a b h f d;by_cases o:b=[]
  .rw[o];exact c a f
  .obtain⟨q,r,l,p,G,e⟩:=HL d o a.length a (D2 _);obtain⟨g,u,v,s,C,j,m,F,E⟩:=x b r (by lia) d p;refine⟨g,v,λi=>u i+ -1*aA v q i,s,j,?_,?_,m,λk=>?_⟩
   .obtain⟨w,B⟩:=C;obtain⟨t,A⟩:=j.mul l;exact⟨w+t,λi y=>by dsimp only;rw[B i (by lia),A i (by lia)];grind⟩
   .exact(DQ.add (DQ.mul q l m) F).ext λk=>e k
   .rw[E k,dg,bq,gM];have D:aA v (cQ r) k=aA v (cQ a) k -aA v (aA q (cQ b)) k:=by have:aA v (cQ a) k=aA v (λi=>aA q (cQ b) i+cQ r i) k:=aZ (λ_=>rfl) e k;rw[o9]at this;grind
    rw[D];grind
end Num
namespace Num
theorem iB{c:List Rat}(h:aj c)(a:c≠[]):c.getD (c.length -1) 0≠0:=by have l:=HI.mpr a;refine h _ ?_;rw[Kk,AC,B1 (c9 l XQ)];rfl
end Num
namespace Num
open Sub
noncomputable def dH(a b r:List Rat):Prop:=aj r/\r.length<b.length/\∃q:Nat->Rat,Fin q/\∀k,cQ a k=aA q (cQ b) k+cQ r k
theorem dH.uniq{a b r s:List Rat}(m:aj b)(w:b≠[])(o:dH a b r)(n:dH a b s):r=s:=by
 obtain⟨e,y,g,⟨l,q⟩,u⟩:=o;obtain⟨d,x,f,⟨j,p⟩,t⟩:=n;have c:∀k,cQ (gf (mw (max r.length s.length) λi=>cQ r i+(-1)*cQ s i)) k=cQ r k+(-1)*cQ s k:=λk=>by
  show(gf _).getD k 0=_;rw[tK,nZ];split
  .rfl
  .rw[show cQ r k=0 from iY (by lia),show cQ s k=0 from iY (by lia)];grind
 have h:=v9 m w (iA (mw (max r.length s.length) λi=>cQ r i+(-1)*cQ s i)) (by
  have:=sd (mw (max r.length s.length) λi=>cQ r i+(-1)*cQ s i);rw[kM]at this;lia) ⟨λi=>f i+(-1)*g i,⟨max l j,λi z=>by dsimp only;rw[q i (by lia),p i (by lia)];grind⟩,λk=>by
  rw[c,dg,bq];have A:=u k;have a2:=t k;grind⟩
 refine jU e d λk=>?_;have:=c k;rw[h]at this;have v:cQ [] k=0:=rfl;rw[v]at this;show cQ r k=cQ s k;grind
theorem dH.one{a:List Rat}{x:Rat}(c:x≠0):dH a [x] []:=by
 have e:∀i,cQ [x] i=if i=0 then x else 0:=λi=>by
  cases i with
  |zero=>rfl
  |succ i=>rfl
 have hz:aj []:=λy b=>by cases b
 refine⟨hz,XQ,λi=>x⁻¹*cQ a i,⟨a.length,λi d=>by dsimp only;rw[show cQ a i=0 from iY d];grind⟩,λk=>?_⟩;rw[bq,bK,aZ (g:=cQ a) e (λ_=>rfl),kO,Bi (KB k)];have:=Ha x c;show _=x⁻¹*(x*cQ a k)+0;grind
theorem pB(r:List Rat)(k:Nat):cQ (gJ r) k= -cQ r k:=by
 show(r.map λx=> -x).getD k 0= -(r.getD k 0);rw[AC,DL,AC];cases r[k]? with
 |none=>show(0:Rat)= -0;grind
 |some z=>rfl
theorem fM{r:List Rat}(h:aj r):aj (gJ r):=λx a=>by unfold gJ at a;rw[Ya]at a;obtain⟨y,b,rfl⟩:=Mo.mp a;have:=h y b;grind
theorem zX(r:List Rat):(gJ r).length=r.length:=Ap _
theorem yc{r:List Rat}(h:r≠[]):gJ r≠[]:=λz=>h (oP.mp z)
inductive jW:List Rat->List Rat->List (List Rat)->Prop
 |nil {a b:List Rat} (h:dH a b []):jW a b []
 |cons {a b r:List Rat} {l:List (List Rat)} (h:dH a b r) (h0:r≠[]) (k:jW b (gJ r) l):jW a b (gJ r::l)
theorem jW.uniq{a b:List Rat}{l m:List (List Rat)}(e:aj b)(f:b≠[])(o:jW a b l)(g:jW a b m):l=m:=by
 induction o generalizing m with
 |nil h=>
  cases g with
  |nil _=>rfl
  |cons d c _=>exact absurd (h.uniq e f d).symm c
 |cons h i k n=>
  cases g with
  |nil d=>exact absurd (h.uniq e f d) i
  |cons d c j=>
   cases h.uniq e f d;rw[n (fM h.1) (yc i) j]
noncomputable def Bl(N n:Nat)(x:Rat):Prop:=x.num.natAbs<=2^N/\x.den<=2^n
theorem Bl.up{N n b a:Nat}{x:Rat}(h:Bl N n x)(d:N<=b)(c:n<=a):Bl b a x:=⟨Bz h.1 (Hk (by decide) d),Bz h.2 (Hk (by decide) c)⟩
theorem Bl.div{t b:Int}{N n:Nat}(d:t.natAbs<=2^N)(c:b.natAbs<=2^n)(a:b≠0):Bl N n (A3 t b):=⟨Bz (zG t b a).1 d,Bz (zG t b a).2 c⟩
theorem Bl.mul{N n M m:Nat}{x y:Rat}(b:Bl N n x)(a:Bl M m y):Bl (N+M) (n+m) (x*y):=by
 have e:x*y=A3 (x.num*y.num) ((x.den:Int)*y.den):=by
  conv=>lhs;rw[<-fo x,<-fo y]
  exact Rat.divInt_mul_divInt ..
 rw[e];have d:=x.den_pos;have c:=y.den_pos;refine Bl.div ?_ ?_ (PQ (by lia) (by lia))
 .rw[Fh,XB];exact GT b.1 a.1
 .rw[Fh,C0,C0,XB];exact GT b.2 a.2
theorem Bl.neg{N n:Nat}{x:Rat}(h:Bl N n x):Bl N n (-x):=⟨by rw[Rat.neg_num,Int.natAbs_neg];exact h.1,by rw[Rat.neg_den];exact h.2⟩
structure Sm(ns ms:List Int)(w E D0:Nat)(A B:List Int)(ld h:Int)(α β:Rat)(a b:List Rat):Prop where
 C:CS ns ms [] [] w E (ms.length+1) A B [] [] ld h
 ea:∀k,cQ a k=α*(A.getD k 0:Int)
 eb:∀k,cQ b k=β*(B.getD k 0:Int)
 HM:α≠0
 U8:β≠0
 la:a.length=A.length
 lb:b.length=B.length
 za:aj a
 zb:aj b
 U9:Bl (D0+w*E*(2*ns.length -A.length -B.length)) (D0+w*(ns.length -1+(ms.length -1)+1)*(2*ns.length -A.length -B.length)) α
 Z6:Bl (D0+w*E*(2*ns.length -A.length -B.length)) (D0+w*(ns.length -1+(ms.length -1)+1)*(2*ns.length -A.length -B.length)) β
theorem yd{R:List Int}{x:Rat}(c:x≠0)(b:R=[]\/R.getD (R.length -1) 0≠0):aj (R.map λy:Int=>x*(y:Rat)):=λz hz=>by
 rw[Ya]at hz;obtain⟨y,a,rfl⟩:=Mo.mp hz;rcases b with e|e
 .rw[e]at a;cases a
 .rw[Kk]at a;rw[AC,a]at e;intro z;rcases GM.mp z with z|z
  .exact c z
  .exact e (Dx.mp z)
theorem D5(R:List Int)(x:Rat)(k:Nat):cQ (R.map λy:Int=>x*(y:Rat)) k=x*((R.getD k 0:Int):Rat):=by
 show(R.map λy:Int=>x*(y:Rat)).getD k 0=_;rw[AC,DL,AC];cases R[k]? with
 |none=>show(0:Rat)=x*((0:Int):Rat);grind
 |some z=>rfl
section
variable{ns ms A B Qs R:List Int}{w E D0:Nat}{ld h c:Int}{α β:Rat}{a b:List Rat}
theorem Sm.rem(S:Sm ns ms w E D0 A B ld h α β a b)(r:c≠0)(q:∀k,R.getD k 0=c*A.getD k 0 -cf Qs B Qs.length k)(m:R.length<B.length)(d:R=[]\/R.getD (R.length -1) 0≠0):dH a b (R.map λy:Int=>α/c*(y:Rat)):=by
 have l:(c:Rat)≠0:=λz=>r (Dx.mp z);have U8:=S.U8;have HM:=S.HM;have g:α/(c:Rat)≠0:=λz=>by
  have:α=α/(c:Rat)*c:=by grind
  rw[z]at this;exact HM (by grind)
 refine⟨yd g d,by rw[Ap,S.lb];exact m,λi=>α/(c*β)*((Qs.getD i 0:Int):Rat),⟨Qs.length,λi n=>by dsimp only;rw[outI n];show _*((0:Int):Rat)=0;grind⟩,λk=>?_⟩;rw[D5,bq,aZ (f:=λi=>((Qs.getD i 0:Int):Rat)) (g':=λi=>β*((B.getD i 0:Int):Rat)) (λ_=>rfl) S.eb,dP,sj,S.ea k];have e:=q k;rw[gc]at e;have e:((R.getD k 0:Int):Rat)=c*((A.getD k 0:Int):Rat) -((jb (λi=>Qs.getD i 0) (λi=>B.getD i 0) k:Int):Rat):=by rw[e,vi,FC];rfl
 rw[e];generalize((jb (λi=>Qs.getD i 0) (λi=>B.getD i 0) k:Int):Rat)=u;generalize((A.getD k 0:Int):Rat)=v;have j:(c:Rat)*β≠0:=λz=>by
  rcases GM.mp z with z|z
  .exact l z
  .exact U8 z
 have p:α/(c*β)*(β*u)=α/c*u:=by grind
 have o:α/(c:Rat)*(c*v -u)=α*v -α/c*u:=by grind
 rw[p,o];grind
theorem Sm.next(X:FX ns ms [] [] w E)(S:Sm ns ms w E D0 A B ld h α β a b)(t:2<=B.length)(e:c=B.getD (B.length -1) 0^(A.length -B.length+1))(H:Qs.length=A.length -B.length+1)(p:∀k,R.getD k 0=c*A.getD k 0 -cf Qs B Qs.length k)(j:R.length<B.length)(i:R=[]\/R.getD (R.length -1) 0≠0)(u:R≠[]):
 gJ (R.map λy:Int=>α/c*(y:Rat))=((R.map λy=>y.fdiv (ld*h^(A.length -B.length))).map λy:Int=> -(α*A3 (ld*h^(A.length -B.length)) c)*(y:Rat))/\
 Sm ns ms w E D0 B (R.map λy=>y.fdiv (ld*h^(A.length -B.length))) (B.getD (B.length -1) 0) (hnext h (B.getD (B.length -1) 0) (A.length -B.length)) β (-(α*A3 (ld*h^(A.length -B.length)) c)) b (gJ (R.map λy:Int=>α/c*(y:Rat))):=by
 have ve:B.getD (B.length -1) 0≠0:=S.C.ch.ve;have f:c≠0:=by rw[e];exact cV ve _
 have q:=S.C.step X t e H p j i (F:=[]) (λk=>by
  have:cf Qs [] Qs.length k=0:=by rw[tH];rfl
  rw[this];show(0:Int)=c*0 -0;lia) (KB _) (λ_=>D2 _)
 obtain⟨l,r,v,_,_,_,g⟩:=q;have g:=g u;have zV:=S.C.zV;have lp:=S.C.lp;have DY:=S.C.DY;have l1:=X.l1;have D:=(S.C.bd).2.1 _ (getD_mem' (k:=B.length -1) (by lia));generalize K:ld*h^(A.length -B.length)=d at*;have J:(c:Rat)≠0:=λz=>f (Dx.mp z);have I:(d:Rat)≠0:=λz=>l (Dx.mp z);have HM:=S.HM;have m:A3 d c=(d:Rat)/c:=hU ..;have o:gJ (R.map λy:Int=>α/c*(y:Rat))=((R.map λy=>y.fdiv d).map λy:Int=> -(α*A3 d c)*(y:Rat)):=by unfold gJ;rw[Qr,Qr];refine Yf λx s=>?_;obtain⟨y,rfl⟩:=v x s;show-(α/c*((d*y:Int):Rat))= -(α*A3 d c)*(((d*y).fdiv d:Int):Rat);rw[lh ⟨y,rfl⟩,eJ y l,m,FC];grind
 have G: -(α*A3 d c)≠0:=λz=>by
  rw[m]at z;have:α= -(-(α*((d:Rat)/c)))*c/d:=by grind
  rw[z]at this;exact HM (by grind)
 refine⟨o,g,S.eb,λk=>by rw[o,D5],S.U8,G,S.lb,by rw[zX,Ap,Ap],S.zb,fM (S.rem f p j i).1,S.Z6.up ?_ ?_,Bl.neg ((S.U9.mul (Bl.div r (n:=w*(ns.length -1+(ms.length -1)+1)*(A.length -B.length+1)) ?_ f)).up ?_ ?_)⟩
 .rw[Ap];exact iq (FV _ (by lia)) _
 .rw[Ap];exact iq (FV _ (by lia)) _
 .rw[e,eT,du];exact SL D _
 .rw[Ap,kS,<-Qx];exact iq (FV _ (by lia)) _
 .rw[Ap,kS,<-rp];exact iq (FV _ (by lia)) _
end
noncomputable def bY(ns:List Int):List Int:=(Bn (ns.length -1)).map λi=>((i+1:Nat):Int)*ns.getD (i+1) 0
noncomputable def aX(a:List Rat):List Rat:=mw (a.length -1) λi=>((i+1:Nat):Rat)*a.getD (i+1) 0
theorem dX(ns:List Int):(bY ns).length=ns.length -1:=by unfold bY;simp
theorem gO(a:List Rat):(aX a).length=a.length -1:=kM _ _
theorem oh(ns:List Int)(k:Nat):(bY ns).getD k 0=((k+1:Nat):Int)*ns.getD (k+1) 0:=by
 unfold bY;rw[AC,DL];by_cases h:k<ns.length -1
 .rw[UV h];rfl
 .rw[Do (by simpa using h),outI (ns:=ns) (by lia),Oy];rfl
theorem eU(a:List Rat)(k:Nat):cQ (aX a) k=((k+1:Nat):Rat)*cQ a (k+1):=by
 show(mw _ _).getD k 0=_;rw[nZ];split
 .rfl
 .rw[show cQ a (k+1)=0 from iY (by lia)];grind
theorem Sz{m E:Nat}(h:∀s,s<m+1->∀p,p<m+1->(s -2*p)*p+(s+1)<=E):∀s,s<=m->∀p,(s -2*p)*p+(s+1)<=E:=λs b p=>by
 by_cases a:p<m+1
 .exact h s (by lia) p a
 .have:=h s (by lia) 0 (by lia);rw[show s -2*p=0 by lia,Qu];lia
theorem SA{ns:List Int}{M w E m:Nat}(l:2<=ns.length)(j:2*ns.length<=m+3)(g:ns.length<=50)(b:∀x∈ns,x.natAbs<=M)(h:1<=M)(e:(2*ns.length -2)*((ns.length -1)*M)<=2^w)(f:∀s,s<m+1->∀p,p<m+1->(s -2*p)*p+(s+1)<=E):FX ns (bY ns) [] [] w E:=by
 have a:M<=(ns.length -1)*M:=uk M (by lia);have d:∀k,(ns.getD k 0).natAbs<=M:=λk=>by
  by_cases c:k<ns.length
  .exact b _ (getD_mem' c)
  .rw[outI (by lia)];exact KB _
 refine⟨by rw[dX];lia,g,⟨(ns.length -1)*M,λi=>?_,λi=>?_,Bz h a,?_⟩,λp=>?_⟩
 .obtain⟨z,k⟩:=i;cases z
  .exact Bz (d k) a
  .exact KB _
 .obtain⟨z,k⟩:=i;cases z
  .show((bY ns).getD k 0).natAbs<=_;rw[oh,Fh,C0];by_cases c:k+1<ns.length
   .exact GT (by lia) (d _)
   .rw[outI (by lia)];exact KB _
  .exact KB _
 .rw[dX,show ns.length -1+(ns.length -1 -1)+1=2*ns.length -2 by lia];exact e
 .rw[dX];exact Sz f _ (by lia) p
theorem Sm.start{ns:List Int}{w E:Nat}{a:List Rat}{α:Rat}(P:FX ns (bY ns) [] [] w E)(p:2<=ns.length)(j:ns.getD (ns.length -1) 0≠0)(e:∀k,cQ a k=α*((ns.getD k 0:Int):Rat))(l:a.length=ns.length)(z:aj a)(g:α≠0)(f:Bl 26 26 α):Sm ns (bY ns) w E 26 ns (bY ns) 1 1 α α a (aX a):=by
 have b:=dX ns;have o:(bY ns).getD ((bY ns).length -1) 0≠0:=by rw[oh,b,show ns.length -1 -1+1=ns.length -1 by lia];exact PQ (by lia) j
 have i:aj (aX a):=λx c=>by
  rw[Kk]at c;have d:cQ (aX a) ((aX a).length -1)=x:=by show(aX a).getD _ 0=x;rw[AC,c];rfl
  rw[eU,gO,show a.length -1 -1+1=a.length -1 by lia]at d;have n:=ja z (by lia);have m:((a.length -1:Nat):Rat)≠0:=λh=>by have:((a.length -1:Nat):Int)=0:=Dx.mp h;lia
  rw[<-d];intro h;rcases GM.mp h with h|h
  .exact m h
  .exact n h
 refine⟨CS.start P (by rw[b];lia) o (by show 0+_<=_;lia) (.inl rfl),e,λk=>?_,g,g,l,by rw[gO,b,l],z,i,f.up (SU _ _) (SU _ _),f.up (SU _ _) (SU _ _)⟩;rw[eU,oh,e (k+1),FC];show((k+1:Nat):Rat)*_=α*(((k+1:Nat):Rat)*_);grind
end Num
namespace Num
noncomputable def ab(u A:Rat):Prop:= -A<=u/\u<=A
theorem iC{a b:Rat}(d:0<=a)(c:0<=b):0<=a*b:=Zf d c
theorem fN{u v A B:Rat}(b:ab u A)(a:ab v B):ab (u*v) (A*B):=by obtain⟨i,a2⟩:=b;obtain⟨h,g⟩:=a;have f:=iC (show 0<=A -u by grind) (show 0<=B -v by grind);have e:=iC (show 0<=A+u by grind) (show 0<=B+v by grind);have d:=iC (show 0<=A -u by grind) (show 0<=B+v by grind);have c:=iC (show 0<=A+u by grind) (show 0<=B -v by grind);constructor<;>grind
theorem tT{u v A B:Rat}(b:ab u A)(a:ab v B):ab (u+v) (A+B):=by unfold ab at*;grind
theorem pC{u A B:Rat}(h:ab u A)(a:A<=B):ab u B:=by unfold ab at*;grind
noncomputable def In(a b x:Rat):Prop:=a<=x/\x<=b
structure Z9(a b:Rat)(f g:Rat->Rat)(C:Rat):Prop where
 f0:∀x,In a b x->ab (f x) C
 g0:∀x,In a b x->ab (g x) C
 l:∀x y,In a b x->In a b y->x<=y->ab (f y -f x) (C*(y -x))
 d:∀x y,In a b x->In a b y->x<=y->ab (f y -f x -(y -x)*g x) (C*((y -x)*(y -x)))
noncomputable def dv(x:Rat):List Rat->Rat
 |[]=>0
 |_::a=>ev x a+x*dv x a
theorem In.ab{a b x:Rat}(h:In a b x):∃M,0<=M/\∀x,In a b x->ab x M:=by
 by_cases e: -a<=b
 .by_cases d:0<=b
  .exact⟨b,d,λx c=>⟨by have:=c.1;grind,c.2⟩⟩
  .exact⟨-a,by unfold In at h;grind,λx c=>by unfold In at*;constructor<;>grind⟩
 .exact⟨-a,by unfold In at h;grind,λx c=>by unfold In at*;constructor<;>grind⟩
theorem cu(x r:Rat)(a:List Rat):ev x (r::a)=r+x*ev x a:=rfl
theorem pD{a b:Rat}(h:a<=b):∀c:List Rat,∃C,0<=C/\Z9 a b (λx=>ev x c) (λx=>dv x c) C
 |[]=>⟨0,by grind,λx _=>by show Num.ab 0 0;unfold Num.ab;grind,λx _=>by show Num.ab 0 0;unfold Num.ab;grind,λx y _ _ _=>by show Num.ab (0 -0) _;unfold Num.ab;grind,λx y _ _ _=>by show Num.ab (0 -0 -_*0) _;unfold Num.ab;grind⟩
 |r::c=>by
  obtain⟨C,u,S⟩:=pD h c;obtain⟨M,t,j⟩:=In.ab (x:=a) (a:=a) (b:=b) ⟨by grind,h⟩;have R:∃R,0<=R/\Num.ab r R:=by
   by_cases o:0<=r
   .exact⟨r,o,by grind,by grind⟩
   .exact⟨-r,by grind,by grind,by grind⟩
  obtain⟨R,n,s⟩:=R;have p:=iC t u;refine⟨R+M*C+C,by grind,λx f=>?_,λx f=>?_,λx y f i g=>?_,λx y f i g=>?_⟩
  .exact pC (tT s (fN (j x f) (S.f0 x f))) (by grind)
  .show Num.ab (ev x c+x*dv x c) _;exact pC (tT (S.f0 x f) (fN (j x f) (S.g0 x f))) (by grind)
  .show Num.ab (r+y*ev y c -(r+x*ev x c)) _;have e:r+y*ev y c -(r+x*ev x c)=y*(ev y c -ev x c)+(y -x)*ev x c:=by grind
   rw[e];have m:0<=y -x:=by grind
   have k:Num.ab (y -x) (y -x):=⟨by grind,by grind⟩;have q:=iC n m;exact pC (tT (fN (j y i) (S.l x y f i g)) (fN k (S.f0 x f))) (by grind)
  .show Num.ab (r+y*ev y c -(r+x*ev x c) -(y -x)*(ev x c+x*dv x c)) _;have e:r+y*ev y c -(r+x*ev x c) -(y -x)*(ev x c+x*dv x c)=y*(ev y c -ev x c -(y -x)*dv x c)+(y -x)*(y -x)*dv x c:=by grind
   rw[e];have m:0<=y -x:=by grind
   have k:Num.ab (y -x) (y -x):=⟨by grind,by grind⟩;have q:=iC n (iC m m);exact pC (tT (fN (j y i) (S.d x y f i g)) (fN (fN k k) (S.g0 x f))) (by grind)
structure eV(a b:Rat)where
 l:Nat->Rat
 r:Nat->Rat
 lt:∀n,l n<r n
 up:∀n,l n<=l (n+1)
 dn:∀n,r (n+1)<=r n
 a0:a<=l 0
 b0:r 0<=b
 sm:∀e:Rat,0<e->∃n,r n -l n<=e
noncomputable def eV.I{a b:Rat}(N:eV a b)(n:Nat)(x:Rat):Prop:=In (N.l n) (N.r n) x
theorem eV.mono{a b:Rat}(N:eV a b){n:Nat}{x:Rat}:∀{m:Nat},n<=m->N.I m x->N.I n x
 |0,h,c=>by cases si.mp h;exact c
 |m+1,h,c=>by
  by_cases e:n=m+1
  .rw[e];exact c
  .have:=N.up m;have:=N.dn m;refine N.mono (m:=m) (by lia) ?_;unfold eV.I In at*;grind
theorem eV.base{a b:Rat}(N:eV a b){n:Nat}{x:Rat}(h:N.I n x):In a b x:=by have h:=N.mono (KB n) h;have:=N.a0;have:=N.b0;unfold eV.I In at*;grind
noncomputable def eV.Z{a b:Rat}(N:eV a b)(f:Rat->Rat):Prop:=∀e:Rat,0<e->∃n,∀x,N.I n x->ab (f x) e
noncomputable def eV.P{a b:Rat}(N:eV a b)(s:Rat)(f:Rat->Rat):Prop:=(s=1\/s= -1)/\∃c,0<c/\∃n,∀x,N.I n x->c<=s*f x
noncomputable def SD(a b:Rat)(f:Rat->Rat):Prop:=∃L,0<=L/\∀x y,In a b x->In a b y->x<=y->ab (f y -f x) (L*(y -x))
noncomputable def Va(a b:Rat)(f:Rat->Rat):Prop:=∃B,0<=B/\∀x,In a b x->ab (f x) B
theorem eV.M1{a b:Rat}(N:eV a b){f:Rat->Rat}(h:SD a b f):N.Z f\/∃s,N.P s f:=by
 by_cases z:N.Z f
 .exact .inl z
 .refine .inr ?_;obtain⟨L,K,q⟩:=h;have v:∃e:Rat,0<e/\∀n,∃x,N.I n x/\¬ab (f x) e:=Fk λB=>z λe j=>Fk λp=>B ⟨e,j,λn=>Fk λg=>p ⟨n,λx C=>Fk λm=>g ⟨x,C,m⟩⟩⟩;obtain⟨e,t,j⟩:=v;have E:(0:Rat)<2*(L+1):=by grind
  obtain⟨n,p⟩:=N.sm (e*(2*(L+1))⁻¹) (Jn t (dk.mpr E));obtain⟨x,g,m⟩:=j n;have d:∀y,N.I n y->ab (f y -f x) (e*2⁻¹):=λy c=>by
   have k:∀d:Rat,0<=d->d<=N.r n -N.l n->L*d<=e*2⁻¹:=λd J G=>by
    have D:d<=e*(2*(L+1))⁻¹:=by grind
    have o:=cb D (show(0:Rat)<=L+1 by grind);have H:(L+1)*(e*(2*(L+1))⁻¹)=e*2⁻¹:=by
     have:(2*(L+1))*(2*(L+1))⁻¹=1:=Re _ (by grind);have o:(2:Rat)*2⁻¹=1:=by grind
     grind
    grind
   have A:=g;have w:=c;unfold eV.I In at A w;by_cases i:x<=y
   .exact pC (q x y (N.base g) (N.base c) i) (k _ (by grind) (by grind))
   .have h:=pC (q y x (N.base c) (N.base g) (by grind)) (k _ (by grind) (by grind));unfold ab at*;grind
  have u:(0:Rat)<e*2⁻¹:=Jn t (dk.mpr (by decide));have o:e*2⁻¹+e*2⁻¹=e:=by
   have o:(2:Rat)*2⁻¹=1:=by grind
   grind
  unfold ab at m;by_cases F:0<=f x
  .refine⟨1,.inl rfl,e*2⁻¹,u,n,λy c=>?_⟩;have:=d y c;unfold ab at this;grind
  .refine⟨-1,.inr rfl,e*2⁻¹,u,n,λy c=>?_⟩;have:=d y c;unfold ab at this;grind
noncomputable def df(a b:Rat):Nat:=if 0<a then(if 0<b then 0 else 1)else(if 0<b then 1 else 0)
noncomputable def nj(b:Rat):List Rat->Nat
 |[]=>0
 |x::l=>if x=0 then nj b l else(if b=0 then 0 else df b x)+nj x l
noncomputable def chg(l:List Rat):Nat:=nj 0 l
theorem pF(b:Rat)(l:List Rat):nj b (0::l)=nj b l:=Bi rfl
theorem jX{b x:Rat}(a:x≠0)(c:b≠0)(l:List Rat):nj b (x::l)=df b x+nj x l:=by show(if x=0 then _ else _)=_;rw[BM a,BM c]
theorem pG{x:Rat}(a:x≠0)(l:List Rat):chg (x::l)=nj x l:=by show(if x=0 then _ else _)=_;rw[BM a,Bi rfl,gL]
theorem wc(l:List Rat):chg (0::l)=chg l:=pF 0 l
theorem ny{s t a b:Rat}(d:s=1\/s= -1)(c:t=1\/t= -1)(f:0<s*a)(e:0<t*b):df a b=df s t:=by
 unfold df;rcases d with rfl|rfl<;>rcases c with rfl|rfl
 .rw[Bi (by grind),Bi (by grind),Bi (by decide),Bi (by decide)]
 .rw[Bi (by grind),BM (by grind),Bi (by decide),BM (by decide)]
 .rw[BM (by grind),Bi (by grind),BM (by decide),Bi (by decide)]
 .rw[BM (by grind),BM (by grind),BM (by decide),BM (by decide)]
theorem iD{s a:Rat}(h:0<s*a):a≠0:=λe=>by rw[e,Pv]at h;exact absurd h (by decide)
theorem HN{s a b c:Rat}(e:s=1\/s= -1)(g:0<s*a)(f:0< -s*c)(l:List Rat):nj a (b::c::l)=1+nj c l:=by
 have m:=iD g;have k:=iD f;have d: -s=1\/-s= -1:=by rcases e with rfl|rfl<;>grind
 have j:df s (-s)=1:=by
  rcases e with rfl|rfl
  .decide+kernel
  .decide+kernel
 have n:∀t:Rat,t=1\/t= -1->df t t=0:=λt o=>by
  rcases o with rfl|rfl
  .decide+kernel
  .decide+kernel
 by_cases i:b=0
 .rw[i,pF,jX k m,ny e d g f,j]
 .rw[jX i m,jX k i];have p:0<s*b\/0< -s*b:=by rcases e with rfl|rfl<;>grind
  rcases p with h|h
  .rw[ny e e g h,ny e d h f,j,n s e,gL]
  .rw[ny e d g h,ny d d h f,j,n _ d,gL]
inductive Ch(a b:Rat):List (Rat->Rat)->Prop
 |one {f:Rat->Rat} (c:Rat) (h0:c≠0) (h:∀x,In a b x->f x=c):Ch a b [f]
 |two {f g:Rat->Rat} (hf:SD a b f) (h:Ch a b [g]):Ch a b [f,g]
 |cons {f g h:Rat->Rat} {l:List (Rat->Rat)} (hf:SD a b f) (α β:Rat) (q:Rat->Rat) (a0:0<α) (b0:0<β) (hq:Va a b q) (e:∀x,In a b x->α*f x+β*h x=q x*g x) (k:Ch a b (g::h::l)):Ch a b (f::g::h::l)
theorem Ch.WD{a b:Rat}{f:Rat->Rat}{l:List (Rat->Rat)}(h:Ch a b (f::l)):SD a b f:=by
 cases h with
 |one c i h=>exact⟨0,by grind,λx y g e _=>by rw[h x g,h y e];unfold ab;grind⟩
 |two d h=>exact d
 |cons d _ _ _ _ _ _ _ _=>exact d
theorem Ch.tail{a b:Rat}{f g:Rat->Rat}{l:List (Rat->Rat)}(h:Ch a b (f::g::l)):Ch a b (g::l):=by
 cases h with
 |two c h=>exact h
 |cons c _ _ _ _ _ _ _ k=>exact k
variable{a b:Rat}(N:eV a b)
theorem eV.P.SG{N:eV a b}{s:Rat}{f:Rat->Rat}(h:N.P s f):∃n,∀m,n<=m->∀x,N.I m x->0<s*f x:=by obtain⟨_,c,g,n,h⟩:=h;exact⟨n,λm e x d=>by have:=h x (N.mono e d);grind⟩
theorem eV.P.Yd{N:eV a b}{s:Rat}{f:Rat->Rat}(h:N.P s f):¬N.Z f:=λz=>by
 obtain⟨d,c,j,n,h⟩:=h;have k:(2:Rat)*2⁻¹=1:=by grind
 obtain⟨m,e⟩:=z (c*2⁻¹) (Jn j (dk.mpr (by decide)));have i:N.I (max n m) (N.l (max n m)):=⟨by grind,Y2 (N.lt _)⟩;have o:=h _ (N.mono (U6 n m) i);have g:=e _ (N.mono (SW n m) i);unfold ab at g;rcases d with rfl|rfl<;>grind
theorem Ch.D6{f:Rat->Rat}(h:Ch a b [f]):∃s,N.P s f:=by
 cases h with
 |one c g h=>
  by_cases e:0<c
  .exact⟨1,.inl rfl,c,e,0,λx d=>by rw[h x (N.base d)];grind⟩
  .exact⟨-1,.inr rfl,-c,by grind,0,λx d=>by rw[h x (N.base d)];grind⟩
theorem M3{f g h q:Rat->Rat}{α c:Rat}(I:0<α)(o:0<c)(t:Va a b q)(e:∀x,In a b x->α*f x+c*h x=q x*g x)(r:N.Z f)(p:N.Z g):N.Z h:=λd j=>by
 obtain⟨B,J,w⟩:=t;have s:0<α+B+1:=by grind
 have y:=dk.mpr s;have D:(α+B+1)*(α+B+1)⁻¹=1:=Re _ (by grind);have l:0<c*d*(α+B+1)⁻¹:=Jn (Jn o j) y;generalize C:c*d*(α+B+1)⁻¹=k at l;obtain⟨n,u⟩:=r k l;obtain⟨m,v⟩:=p k l;refine⟨max n m,λx i=>?_⟩;have H:=e x (N.base i);have z:=u x (N.mono (U6 n m) i);have G:=fN (w x (N.base i)) (v x (N.mono (SW n m) i));have F:=fN (show ab α α from⟨by grind,by grind⟩) z;have E:(α+B+1)*k=c*d:=by rw[<-C];grind
 unfold ab at*;have up:c*h x<=c*d:=by grind
 have A:c*(-d)<=c*h x:=by grind
 exact⟨rk A o,rk up o⟩
theorem Ch.we:∀{f g:Rat->Rat}{l:List (Rat->Rat)},Ch a b (f::g::l)->¬(N.Z f/\N.Z g)
 |f,g,[],h,z=>by obtain⟨s,c⟩:=Ch.D6 N h.tail;exact c.Yd z.2
 |f,g,k::l,h,z=>by
  cases h with
  |cons o n m q j i d e t=>exact Ch.we t ⟨z.2,M3 N j i d e z.1 z.2⟩
theorem SH{f g h q:Rat->Rat}{α d s:Rat}(o:0<α)(l:0<d)(u:Va a b q)(e:∀x,In a b x->α*f x+d*h x=q x*g x)(r:N.P s f)(p:N.Z g):N.P (-s) h:=by
 obtain⟨j,c,K,n,v⟩:=r;obtain⟨B,S,y⟩:=u;have Q:(2:Rat)*2⁻¹=1:=by grind
 have t:0<B+1:=by grind
 have z:=dk.mpr t;have O:(B+1)*(B+1)⁻¹=1:=Re _ (by grind);have L:=Jn o K;have k:0<α*c*2⁻¹:=Jn L (dk.mpr (by decide));have J:0<α*c*2⁻¹*(B+1)⁻¹:=Jn k z;obtain⟨m,w⟩:=p _ J;have M:d*d⁻¹=1:=Re _ (by grind);refine⟨by rcases j with rfl|rfl<;>grind,α*c*2⁻¹*d⁻¹,Jn k (dk.mpr l),max n m,λx i=>?_⟩;have I:=e x (N.base i);have H:=v x (N.mono (U6 n m) i);have G:=fN (y x (N.base i)) (w x (N.mono (SW n m) i));have R:=cb H (Y2 o);have F:B*(α*c*2⁻¹*(B+1)⁻¹)<=α*c*2⁻¹:=by
  have:(B+1)*(α*c*2⁻¹*(B+1)⁻¹)=α*c*2⁻¹:=by grind
  grind
 have E:ab (s*(q x*g x)) (α*c*2⁻¹):=by have:=pC G F;unfold ab at*;rcases j with rfl|rfl<;>grind
 have D:d*(α*c*2⁻¹*d⁻¹)<=d*(-s*h x):=by
  have C:d*(-s*h x)=α*(s*f x) -s*(q x*g x):=by rw[<-I];grind
  have A:d*(α*c*2⁻¹*d⁻¹)=α*c*2⁻¹:=by grind
  rw[C,A];unfold ab at E;grind
 exact rk D l
theorem Ch.same:∀(M:Nat){f:Rat->Rat}{l:List (Rat->Rat)}{s:Rat},l.length<=M->Ch a b (f::l)->N.P s f->∃n K,∀m,n<=m->∀x,N.I m x->nj (f x) (l.map (· x))=K
 |M,f,[],s,_,h,p=>⟨0,0,λm _ x _=>rfl⟩
 |0,f,_::_,s,i,h,p=>by simp at i
 |M+1,f,g::l,s,i,h,p=>by
  obtain⟨w,y⟩:=p.SG;rcases N.M1 h.tail.WD with z|⟨t,d⟩
  .cases l with
   |nil=>obtain⟨t,d⟩:=Ch.D6 N h.tail;exact absurd z d.Yd
   |cons k l=>
    cases h with
    |cons J H G q F E C e B=>have v:=SH N F E C e p z;obtain⟨o,u⟩:=v.SG;obtain⟨j,K,r⟩:=Ch.same M (by simp at i⊢;lia) B.tail v;refine⟨max w (max o j),1+K,λm D x c=>?_⟩;show nj (f x) (g x::k x::l.map (· x))=_;rw[HN p.1 (y m (by lia) x c) (u m (by lia) x c),r m (by lia) x c]
  .obtain⟨o,u⟩:=d.SG;obtain⟨j,K,r⟩:=Ch.same M (by simp at i⊢;lia) h.tail d;refine⟨max w (max o j),df s t+K,λm D x c=>?_⟩;have A:=y m (by lia) x c;have a2:=u m (by lia) x c;show nj (f x) (g x::l.map (· x))=_;rw[jX (iD a2) (iD A),ny p.1 d.1 A a2,r m (by lia) x c]
noncomputable def QD(a b:Rat)(f g:Rat->Rat):Prop:=∃C,0<=C/\∀x y,In a b x->In a b y->x<=y->ab (f y -f x -(y -x)*g x) (C*((y -x)*(y -x)))
noncomputable def Gx(l:List (Rat->Rat))(x:Rat):Nat:=chg (l.map (· x))
section
variable{a b:Rat}(N:eV a b)
theorem QD.SI{f g:Rat->Rat}{s:Rat}(h:QD a b f g)(p:N.P s g):∃n,∀m,n<=m->∀x y,N.I m x->N.I m y->x<y->s*f x<s*f y:=by
 obtain⟨C,Q,v⟩:=h;obtain⟨r,c,G,n,t⟩:=p;have j:0<C+1:=by grind
 have w:=dk.mpr j;have K:(C+1)*(C+1)⁻¹=1:=Re _ (by grind);obtain⟨e,u⟩:=N.sm (c*(C+1)⁻¹) (Jn G w);refine⟨max n e,λm H x y i k q=>?_⟩;have O:=t x (N.mono (by lia) i);have E:=v x y (N.base i) (N.base k) (by grind);have D:y -x<=c*(C+1)⁻¹:=by have o:=N.mono (show e<=m by lia) i;have l:=N.mono (show e<=m by lia) k;unfold eV.I In at o l;grind
 generalize J:y -x=d at*;have F:0<d:=by grind
 have B:=cb D (Y2 j);have A:(C+1)*(c*(C+1)⁻¹)=c:=by grind
 have M:(C+1)*d<=c:=by rw[<-A];exact B
 have z:C*d<s*g x:=by grind
 have L:=Uj z F;unfold ab at E;rcases r with rfl|rfl<;>grind
theorem Ch.DK{f g:Rat->Rat}{l:List (Rat->Rat)}(h:Ch a b (f::g::l))(r:QD a b f g)(z:N.Z f):∃s,(s=1\/s= -1)/\∃n K,∀m,n<=m->(∀x y,N.I m x->N.I m y->x<y->s*f x<s*f y)/\∀x,N.I m x->Gx (f::g::l) x=K+if s*f x<0 then 1 else 0:=by
 rcases N.M1 h.tail.WD with k|⟨s,d⟩
 .exact absurd ⟨z,k⟩ (h.we N)
 .obtain⟨q,w⟩:=r.SI N d;obtain⟨p,v⟩:=d.SG;obtain⟨o,K,u⟩:=Ch.same N _ (D2 _) h.tail d;refine⟨s,d.1,max q (max p o),K,λm A=>⟨w m (by lia),λx j=>?_⟩⟩;have a2:=v m (by lia) x j;have a3:=u m (by lia) x j;show chg (f x::g x::l.map (· x))=_;by_cases i:f x=0
  .rw[i,wc,pG (iD a2),a3,BM (by rw[Pv];decide),b5]
  .rw[pG i,jX (iD a2) i,a3,mM];congr 1;have c:=d.1;have M1:0<s*f x\/0< -s*f x:=by rcases c with rfl|rfl<;>grind
   have e: -s=1\/-s= -1:=by rcases c with rfl|rfl<;>grind
   rcases M1 with t|t
   .rw[ny c c t a2,BM (by grind)];rcases c with rfl|rfl<;>decide+kernel
   .rw[ny e c t a2,Bi (by grind)];rcases c with rfl|rfl<;>decide+kernel
theorem Ch.SJ{f:Rat->Rat}{l:List (Rat->Rat)}{s:Rat}(h:Ch a b (f::l))(p:N.P s f):∃n K,∀m,n<=m->∀x,N.I m x->Gx (f::l) x=K:=by obtain⟨e,i⟩:=p.SG;obtain⟨d,K,g⟩:=Ch.same N _ (D2 _) h p;refine⟨max e d,K,λm j x c=>?_⟩;show chg (f x::l.map (· x))=_;rw[pG (iD (i m (by lia) x c)),g m (by lia) x c]
theorem Ch.SK{f g:Rat->Rat}{l:List (Rat->Rat)}(h:Ch a b (f::g::l))(m:QD a b f g):∃n,∀x y,N.I n x->N.I n y->x<y->Gx (f::g::l) y<=Gx (f::g::l) x:=by
 rcases N.M1 h.WD with z|⟨s,p⟩
 .obtain⟨s,q,n,K,e⟩:=h.DK N m z;obtain⟨o,j⟩:=e n (D2 _);refine⟨n,λx y d c i=>?_⟩;rw[j x d,j y c];have:=o x y d c i;by_cases k:s*f y<0
  .rw[Bi k,Bi (by grind)];exact D2 _
  .rw[BM k];exact SU _ _
 .obtain⟨n,K,e⟩:=h.SJ N p;exact⟨n,λx y d c _=>by rw[e n (D2 _) x d,e n (D2 _) y c];exact D2 _⟩
end
section
variable(d9:Rat->Rat->Prop)
noncomputable def iW(p:Rat×Rat):Rat×Rat:=
 have:=dq (d9 p.1 ((p.1+p.2)*2⁻¹))
 if d9 p.1 ((p.1+p.2)*2⁻¹)then(p.1,(p.1+p.2)*2⁻¹)else((p.1+p.2)*2⁻¹,p.2)
noncomputable def cG(p:Rat×Rat):Nat->Rat×Rat
 |0=>p
 |n+1=>iW d9 (cG p n)
variable{d9}
theorem pH{p:Rat×Rat}(h:p.1<p.2)(e:∀l m r,l<m->m<r->d9 l r->d9 l m\/d9 m r)(d:d9 p.1 p.2):d9 (iW d9 p).1 (iW d9 p).2/\(iW d9 p).1<(iW d9 p).2/\p.1<=(iW d9 p).1/\(iW d9 p).2<=p.2/\(iW d9 p).2 -(iW d9 p).1=(p.2 -p.1)*2⁻¹:=by
 have f:(2:Rat)*2⁻¹=1:=by grind
 unfold iW;by_cases c:d9 p.1 ((p.1+p.2)*2⁻¹)
 .simp only[Bi c];exact⟨c,by grind,by grind,by grind,by grind⟩
 .simp only[BM c];refine⟨?_,by grind,by grind,by grind,by grind⟩;rcases e p.1 ((p.1+p.2)*2⁻¹) p.2 (by grind) (by grind) d with k|k
  .exact absurd k c
  .exact k
theorem fF{p:Rat×Rat}(h:p.1<p.2)(d:∀l m r,l<m->m<r->d9 l r->d9 l m\/d9 m r)(c:d9 p.1 p.2):∀n,d9 (cG d9 p n).1 (cG d9 p n).2/\(cG d9 p n).1<(cG d9 p n).2/\((cG d9 p n).2 -(cG d9 p n).1)*2^n=p.2 -p.1
 |0=>⟨c,h,by show(p.2 -p.1)*2^0=_;rw[tq];grind⟩
 |n+1=>by
  obtain⟨k,e,j⟩:=fF h d c n;obtain⟨i,g,q,o,f⟩:=pH e d k;refine⟨i,g,?_⟩;show((iW d9 (cG d9 p n)).2 -(iW d9 (cG d9 p n)).1)*2^(n+1)=_;rw[f,<-j,ik];have e:(2:Rat)*2⁻¹=1:=by grind
  grind
theorem pI:∀n:Nat,((n:Nat):Rat)<=2^n
 |0=>by rw[tq];decide
 |n+1=>by
  have h:=pI n;have c:∀n:Nat,(1:Rat)<=2^n:=λn=>by
   induction n with
   |zero=>rw[tq];grind
   |succ n d=>rw[ik];grind
  have c:=c n;rw[ik];have e:((n+1:Nat):Rat)=((n:Nat):Rat)+1:=by show(((n+1:Nat):Int):Rat)=(((n:Nat):Int):Rat)+((1:Int):Rat);rw[<-oC];rfl
  grind
theorem WE{x e:Rat}(g:0<x)(c:0<e):∃n:Nat,x<=e*2^n:=by
 have f:=dk.mpr c;have d:e*e⁻¹=1:=Re _ (by grind);have p:=Jn g f;refine⟨(x*e⁻¹).num.natAbs,?_⟩;have k:=pI (x*e⁻¹).num.natAbs;have q:x*e⁻¹<=(((x*e⁻¹).num.natAbs:Nat):Rat):=by
  generalize x*e⁻¹=y at p;have l:0<=y.num:=Rat.num_nonneg.mpr (Y2 p);have o:=tF y;have j:(1:Rat)<=((y.den:Int):Rat):=by
   have:(1:Int)<=y.den:=by have:=y.den_pos;lia
   exact Rat.intCast_le_intCast.mpr this
  have m:=cb j (Y2 p);have i:((y.num.natAbs:Nat):Rat)=((y.num:Int):Rat):=by show(((y.num.natAbs:Nat):Int):Rat)=_;rw[Int.natAbs_of_nonneg (by lia)]
  rw[i];grind
 have r:=cb (Rat.le_trans q k) (Y2 c);have h:e*(x*e⁻¹)=x:=by rw[u4 x,<-PP,d,QR]
 rw[h]at r;exact r
noncomputable def HP{a b:Rat}(h:a<b)(d:∀l m r,l<m->m<r->d9 l r->d9 l m\/d9 m r)(f:d9 a b):eV a b where
 l n:=(cG d9 (a,b) n).1
 r n:=(cG d9 (a,b) n).2
 lt n:=(fF (p:=(a,b)) h d f n).2.1
 up n:=by obtain⟨j,i,_⟩:=fF (p:=(a,b)) h d f n;exact(pH i d j).2.2.1
 dn n:=by obtain⟨j,i,_⟩:=fF (p:=(a,b)) h d f n;exact(pH i d j).2.2.2.1
 a0:=by show a<=a;grind
 b0:=by show b<=b;grind
 sm e he:=by obtain⟨n,o⟩:=WE (show 0<b -a by grind) he;obtain⟨_,_,g⟩:=fF (p:=(a,b)) h d f n;have g:((cG d9 (a,b) n).2 -(cG d9 (a,b) n).1)*2^n=b -a:=g;have k:(0:Rat)<2^n:=Rat.pow_pos (by decide);refine⟨n,Rat.le_of_mul_le_mul_right (c:=2^n) ?_ k⟩;rw[g];exact o
theorem M4{a b:Rat}(h:a<b)(e:∀l m r,l<m->m<r->d9 l r->d9 l m\/d9 m r)(g:∀N:eV a b,∃n,∀x y,N.I n x->N.I n y->x<y->¬d9 x y):¬d9 a b:=λd=>by obtain⟨n,f⟩:=g (HP h e d);obtain⟨i,c,_⟩:=fF (p:=(a,b)) h e d n;exact f _ _ ⟨by show(cG d9 (a,b) n).1<=(cG d9 (a,b) n).1;grind,Y2 c⟩ ⟨Y2 c,by show(cG d9 (a,b) n).2<=(cG d9 (a,b) n).2;grind⟩ c i
end
theorem Ch.fall{a b:Rat}(h:a<b){f g:Rat->Rat}{l:List (Rat->Rat)}(o:Ch a b (f::g::l))(j:QD a b f g):Gx (f::g::l) b<=Gx (f::g::l) a:=by have k:=M4 (d9:=λx y=>Gx (f::g::l) x<Gx (f::g::l) y) h (λl m r _ _ p=>by lia) (λN=>by obtain⟨n,i⟩:=o.SK N j;exact⟨n,λx y e d c=>by have:=i x y e d c;lia⟩);lia
end Num
namespace Num
open Sub
theorem tU{P:Nat->Prop}(h:∃i,¬P i):∃i,¬P i/\∀j,j<i->P j:=by
 obtain⟨i,d⟩:=h
 induction i using Nat.strongRecOn with
 |ind i c=>
  by_cases z:∃j,j<i/\¬P j
  .obtain⟨j,b,a⟩:=z;exact c j b a
  .exact⟨i,d,λj b=>Fk λa=>z ⟨j,b,a⟩⟩
theorem D7{p:Int}{f:Nat->Int}:∀n,(∀i,i<n->p∣f i)->p∣sm f n
 |0,_=>vb _
 |n+1,h=>by rw[sm];exact c8 (D7 n λi hi=>h i (by lia)) (h n (by lia))
theorem BS{p:Int}{f g:Nat->Int}(m:oV p)(o:∃i,¬p∣g i)(h:∀k,p∣jb f g k)(j:Nat):p∣f j:=by
 refine Fk λa=>?_;obtain⟨i,n,l⟩:=tU (P:=λi=>p∣g i) o;obtain⟨j,a,d⟩:=tU (P:=λj=>p∣f j) ⟨j,a⟩;have e:=h (j+i);unfold jb at e;have c:p∣sm (λt=>f t*g (j+i -t)) (j+i+1) -sm (λt=>if t=j then f j*g i else 0) (j+i+1):=by
  rw[D3];refine D7 _ λt s=>?_;show p∣f t*g (j+i -t) -(if t=j then f j*g i else 0);by_cases b:t=j
  .rw[Bi b,b,show j+i -j=i by lia,Int.sub_self];exact vb _
  .rw[BM b,va];by_cases q:t<j
   .exact Int.dvd_mul_of_dvd_left (d t q)
   .exact t4 (l _ (by lia))
 rw[tM j λ_=>f j*g i,Bi (by lia)]at c;have r:p∣f j*g i:=by have:=Xl e c;rw[show sm (λt=>f t*g (j+i -t)) (j+i+1) -(sm (λt=>f t*g (j+i -t)) (j+i+1) -f j*g i)=f j*g i by lia]at this;exact this
 exact(D4 m r).elim a n
theorem BU{d:Int}(h:2<=d):∃p,oV p/\p∣d:=by
 have g:∃i:Nat,¬(i<2\/¬(i:Int)∣d):=⟨d.toNat,λz=>z.elim (λz=>by lia) λz=>z (by rw[YM (by lia)];exact Rh _)⟩;obtain⟨i,b,c⟩:=tU g;have k:2<=i:=by refine dA λz=>b (.inl z)
 have a:(i:Int)∣d:=Fk λz=>b (.inr z);refine⟨i,⟨by lia,λe n m z=>?_⟩,a⟩;have j:e∣(i:Int):=tj z;have f:e.toNat<i:=by have l:e*2<=e*e:=n4 (by lia) (by lia);lia
 rcases c e.toNat f with z|z
 .lia
 .exact z (by rw[YM (by lia)];exact MI j a)
theorem SM{f g n:Nat->Int}(u:∀e:Int,(∀i,e∣g i)->e∣1):∀(m:Nat)(d:Int)(f:Nat->Int),d.natAbs<=m->d≠0->(∀k,d*n k=jb f g k)->∀i,d∣f i:=by
 intro m
 induction m with
 |zero=>intro d f h c;exact absurd (by lia) c
 |succ m t=>
  intro d f h c e;by_cases v:d.natAbs=1
  .intro i;exact⟨d*f i,by rcases Int.natAbs_eq d with z|z<;>rw[v]at z<;>rw[z]<;>grind⟩
  .obtain⟨p,l,b⟩:=BU (d:=(d.natAbs:Int)) (by lia);have b:p∣d:=Zt.mp b;have w:=l.1;obtain⟨a,rfl⟩:=b;have r:∀i,p∣f i:=BS l (Fk λz=>by have:=ke (by decide) (u p λi=>Fk λy=>z ⟨i,y⟩);lia) λk=>⟨a*n k,by rw[<-e k,Wp]⟩;have j:a≠0:=λz=>c (by rw[z,Oy]);have o:∀i,f i=p*(f i/p):=λi=>(wy (r i)).symm;have s:a.natAbs<=m:=by
    rw[Fh]at h;have A:2*a.natAbs<=p.natAbs*a.natAbs:=Pl _ (by lia);have x:0<a.natAbs:=by lia
    lia
   have:=t a (λi=>f i/p) s j λk=>by have q:=e k;rw[show f=λi=>p*(f i/p)from funext o,HK,Wp]at q;exact QQ (by lia) q
   intro i;rw[o i];exact x5 _ (this i)
theorem BV{u:Nat->Rat}(h:Fin u):∃(D:Int)(f:Nat->Int),D≠0/\∀i,(D:Rat)*u i=f i:=by
 obtain⟨n,b⟩:=h;have:∃D:Int,0<D/\∀i,i<n->∃z:Int,(D:Rat)*u i=z:=by
  clear b
  induction n with
  |zero=>exact⟨1,by decide,λi h=>by lia⟩
  |succ n k=>
   obtain⟨D,j,a⟩:=k;have l:=(u n).den_pos;refine⟨D*(u n).den,wx j (by lia),λi c=>?_⟩;by_cases e:i=n
   .subst e;have g:=gI (x:=u i) (B:=(u i).den) (Rh _);rw[a8 (by lia),cm]at g;refine⟨D*(u i).num,?_⟩;rw[FC,FC,g,PP,u4 (u i)]
   .obtain⟨z,hz⟩:=a i (by lia);refine⟨z*(u n).den,?_⟩;rw[FC,FC,<-hz];grind
 obtain⟨D,j,a⟩:=this;have d:∀i,∃z:Int,(D:Rat)*u i=z:=λi=>if c:i<n then a i c else⟨0,by rw[b i (by lia),Pv];rfl⟩
 exact⟨D,λi=>dy (d i),by lia,λi=>dr (d i)⟩
theorem HQ{u:Nat->Rat}{g n:Nat->Int}(j:Fin u)(c:∀e:Int,(∀i,e∣g i)->e∣1)(h:∀k,((n k:Int):Rat)=aA u (λi=>(g i:Rat)) k):∃z:Nat->Int,∀i,u i=(z i:Rat):=by
 obtain⟨D,f,a,e⟩:=BV j;have d:=SM (f:=f) (n:=n) c D.natAbs D f (D2 _) a λk=>by
  have:((D*n k:Int):Rat)=((jb f g k:Int):Rat):=by rw[<-sj,FC,h k,<-bq];exact aZ e (λ_=>rfl) k
  exact_mod_cast this
 refine⟨λi=>f i/D,λi=>?_⟩;have l:(D:Rat)≠0:=by exact_mod_cast a
 have:=e i;rw[<-wy (d i),FC]at this;have b:=Ha (D:Rat) l;have:=Pt ((D:Rat)⁻¹*·) this;rw[<-PP,<-PP,b,QR,QR]at this;exact this
theorem HR{ns g:List Int}(I:0<ns.length)(v:ns.getD (ns.length -1) 0≠0)(L:0<g.length)(A:g.getD (g.length -1) 0≠0)(one:∀d:Int,(∀x∈g,d∣x)->d∣1)(h:DQ (cz g) (cz ns)):
 ∃Z:List Int,0<Z.length/\ns.length+1=Z.length+g.length/\(∀k,ns.getD k 0=jb (co Z) (co g) k)/\ns.getD (ns.length -1) 0=Z.getD (Z.length -1) 0*g.getD (g.length -1) 0:=by
 obtain⟨u,q,e⟩:=h;obtain⟨z,hz⟩:=HQ (g:=co g) (n:=co ns) q (λd D=>one d λx B=>by obtain⟨i,c,e⟩:=NA B;have:=D i;unfold co at this;rw[AC,B1 c]at this;rw[<-e];exact this) e;have j:((g.getD (g.length -1) 0:Int):Rat)≠0:=by exact_mod_cast A
 have s:((ns.getD (ns.length -1) 0:Int):Rat)≠0:=by exact_mod_cast v
 have p:∀i,g.length -1<i->cz g i=0:=λi c=>by show((g.getD i 0:Int):Rat)=0;rw[outI (by lia)];rfl
 have o:∃k,u k≠0:=Fk λy=>s (by have b:=e (ns.length -1);have:=aZ (f':=λ_=>0) (g:=cz g) (λi=>Fk λw=>y ⟨i,w⟩) (λ_=>rfl) (ns.length -1);rw[this,cK]at b;exact b);obtain⟨k,o⟩:=o;obtain⟨t,C,l⟩:=jV q k o;have a:=n9 (f:=u) (g:=cz g) (n:=t) (m:=g.length -1) l p;rw[<-e]at a;have K:t+(g.length -1)<ns.length:=by
  refine tI λy=>?_;have b:cz ns (t+(g.length -1))=0:=by show((ns.getD _ 0:Int):Rat)=0;rw[outI y];rfl
  rw[b]at a;rcases GM.mp a.symm with w|w
  .exact C w
  .exact j w
 have J:ns.length -1<=t+(g.length -1):=by refine dA λy=>s ?_;exact(e (ns.length -1)).trans (tS (n:=t+1) (m:=g.length) (λi c=>l i (by lia)) (λi c=>p i (by lia)) (by lia))
 have E:ns.length -1=t+(g.length -1):=by lia
 have r:∀i,co ((Bn (t+1)).map z) i=z i:=λi=>by
  show((Bn (t+1)).map z).getD i 0=_;by_cases c:i<t+1
  .rw[AC,DL,UV c];rfl
  .rw[outI (by rw[Ap,W1];lia)];have:=l i (by lia);rw[hz i]at this;exact_mod_cast this.symm
 refine⟨(Bn (t+1)).map z,by rw[Ap,W1];lia,by rw[Ap,W1];lia,λk=>?_,?_⟩
 .rw[show co ((Bn (t+1)).map z)=z from funext r];have b:=e k;rw[aZ hz (λ_=>rfl) k]at b;have G:=sj z (co g) k;have F:((ns.getD k 0:Int):Rat)=((jb z (co g) k:Int):Rat):=b.trans G;exact_mod_cast F
 .rw[Ap,W1,Fn];have H:((Bn (t+1)).map z).getD t 0=z t:=r t;rw[H];rw[<-E,hz t]at a;have a:((ns.getD (ns.length -1) 0:Int):Rat)=(z t:Rat)*((g.getD (g.length -1) 0:Int):Rat):=a;rw[<-FC]at a;exact_mod_cast a
theorem D8{f:Nat->Int}{B:Nat}:∀n,(∀i,i<n->(f i).natAbs<=B)->(sm f n).natAbs<=n*B
 |0,_=>by rw[sm];simp
 |n+1,h=>by rw[sm];have h1:=D8 n λi a=>h i (by lia);have c:=h n (by lia);have b:=R1 (sm f n) (f n);rw[Qw];lia
instance:Std.Associative aA:=⟨λf g h=>funext λk=>gM g h k f⟩
instance:Std.Commutative aA:=⟨λf g=>funext λk=>bK f g k⟩
theorem M5{f h:Nat->Rat}{b:List Rat}(ff:Fin f)(j:Fin h)(d:aj b)(l:b≠[])(e:aA f (cQ b)=aA h (cQ b)):f=h:=funext λi=>by
 have g:Fin λi=> -1*h i:=by obtain⟨n,a⟩:=j;exact⟨n,λi c=>by show-1*h i=0;rw[a i c];grind⟩
 have:=sf (s:=λi=>f i+ -1*h i) (ff.add g) d l (λk=>by rw[dg,bq,e];grind) i;have this:f i+ -1*h i=0:=this;grind
theorem zY(g:Nat->Rat):aA (cQ [1]) g=g:=funext λk=>by rw[aZ (f':=λi=>if i=0 then 1 else 0) (g':=g) (λi=>?_) (λ_=>rfl) k,pq];cases i<;>rfl
abbrev Pq:=Nat->Rat
noncomputable def jc(f:Pq):Pq:=λk=>((k+1:Nat):Rat)*f (k+1)
noncomputable def I1:Pq:=cQ [1]
theorem SN:Fin I1:=aD [1]
theorem M6(g:Pq):aA I1 g=g:=zY g
theorem SO(g:Pq):aA g I1=g:=(Qt (op:=aA) g I1).trans (zY g)
theorem ju{f:Pq}(h:Fin f):Fin (jc f):=by obtain⟨n,a⟩:=h;exact⟨n,λi b=>by show _*f (i+1)=0;rw[a _ (by lia),Pv]⟩
theorem D9(f g:Pq):jc (aA f g)=λk=>aA (jc f) g k+aA f (jc g) k:=funext λk=>by
 have c:aA (jc f) g k=dW (λi=>((i:Nat):Rat)*(f i*g (k+1 -i))) (k+2):=by rw[kN];unfold aA jc;rw[show((0:Nat):Rat)*(f 0*g (k+1 -0))=0 from X1 _,oa];exact c7 _ λi _=>by rw[show k+1 -(i+1)=k -i by lia,PP]
 have b:aA f (jc g) k=dW (λi=>((k+1 -i:Nat):Rat)*(f i*g (k+1 -i))) (k+2):=by show _=dW _ (k+1)+((k+1 -(k+1):Nat):Rat)*(f (k+1)*g (k+1 -(k+1)));rw[show k+1 -(k+1)=0 by lia];rw[show((0:Nat):Rat)*(f (k+1)*g 0)=0 from X1 _,ub];unfold aA jc;exact c7 _ λi a=>by rw[show k+1 -i=k -i+1 by lia];grind
 rw[c,b,<-tR];show _*aA f g (k+1)=_;unfold aA;rw[<-tQ];exact c7 _ λi a=>by
  rw[<-X4];congr 1;have:k+1=i+(k+1 -i):=by lia
  exact_mod_cast this
theorem aY{f:Pq}(h:Fin f):∃a:List Rat,aj a/\cQ a=f:=by
 obtain⟨n,b⟩:=h;refine⟨gf (mw n f),iA _,funext λi=>?_⟩;show(gf _).getD i 0=_;rw[tK,nZ];split
 .rfl
 .exact(b _ (by lia)).symm
noncomputable def Z0(f:Pq):Prop:=∀i,f i=0
theorem WG{f g:Pq}(ff:Fin f)(d:Fin g)(h:Z0 (aA f g))(c:¬Z0 g):Z0 f:=by obtain⟨b,a,rfl⟩:=aY d;exact sf ff a (λe=>c λi=>by rw[e];rfl) h
theorem Lf{f g:Pq}(ff:Fin f)(c:Fin g)(b:¬Z0 f)(a:¬Z0 g):¬Z0 (aA f g):=λh=>b (WG ff c h a)
theorem zZ{f h g:Pq}(ff:Fin f)(d:Fin h)(j:Fin g)(c:¬Z0 g)(e:aA f g=aA h g):f=h:=by obtain⟨b,a,rfl⟩:=aY j;exact M5 ff d a (λe=>c λi=>by rw[e];rfl) e
theorem pJ{a:List Rat}(h:¬Z0 (cQ a)):a≠[]:=λe=>h λi=>by rw[e];rfl
theorem iE{a:List Rat}(z:aj a)(h:a≠[]):¬Z0 (cQ a):=λe=>iB z h (e _)
theorem mD{a b c:List Rat}(n:aj a)(m:aj b)(l:aj c)(g:a≠[])(f:b≠[])(e:cQ c=aA (cQ a) (cQ b)):c.length+1=a.length+b.length:=by
 have q:=HI.mpr g;have p:=HI.mpr f;have t:cQ c (a.length -1+(b.length -1))≠0:=by
  rw[e,n9 (λi d=>iY (by lia)) λi d=>iY (by lia)];intro z;rcases GM.mp z with z|z
  .exact iB n g z
  .exact iB m f z
 have k:a.length -1+(b.length -1)<c.length:=tI λh=>t (iY h);have o:c≠[]:=λz=>by rw[z]at k;cases k
 have j:=iB l o;rw[show c.getD (c.length -1) 0=cQ c (c.length -1)from rfl,e]at j;have r:¬a.length+b.length<=c.length -1+1:=λh=>j (tS (λi d=>iY d) (λi d=>iY d) h);lia
noncomputable def Un(f:Pq):Prop:=DQ f I1
theorem Ea{x:Rat}(h:x≠0):Un (cQ [x]):=⟨cQ [x⁻¹],aD _,λk=>by
 have:cQ [x⁻¹]=λi=>x⁻¹*I1 i:=funext λi=>by cases i<;>simp[I1,cQ]
 rw[this,bq,M6];cases k with
 |zero=>show(1:Rat)=x⁻¹*x;rw[Ha _ h]
 |succ k=>show(0:Rat)=x⁻¹*0;rw[Pv]⟩
theorem pK{a:List Rat}(z:aj a)(n:a≠[])(l:a.length<2):Un (cQ a):=by
 match a,n,l with
 |[x],_,_=>exact Ea (iB z (by simp))
noncomputable def pw(p:Pq):Nat->Pq
 |0=>I1
 |n+1=>aA p (pw p n)
theorem jd{p:Pq}(h:Fin p):∀n,Fin (pw p n)
 |0=>SN
 |n+1=>h.mul (jd h n)
theorem tW(p:Pq)(n:Nat):∀m,pw p (m+n)=aA (pw p m) (pw p n)
 |0=>by rw[gL];exact(M6 _).symm
 |m+1=>by
  rw[show m+1+n=(m+n)+1 by lia];show aA p (pw p (m+n))=aA (aA p (pw p m)) (pw p n);rw[tW p n m]
  ac_rfl
theorem QE:¬Z0 I1:=λh=>absurd (h 0) (by decide)
theorem Eb{p:Pq}(a:Fin p)(h:¬Z0 p):∀n,¬Z0 (pw p n)
 |0=>QE
 |n+1=>Lf a (jd a n) h (Eb a h n)
structure pL(p:Pq):Prop where
 fin:Fin p
 nz:¬Z0 p
 un:¬Un p
 or:∀d,Fin d->DQ d p->Un d\/DQ p d
theorem Yh{f g:Pq}(ff:Fin f)(l:Fin g):∃h u v:Pq,Fin h/\Fin u/\Fin v/\DQ h f/\DQ h g/\h=λk=>aA u f k+aA v g k:=by obtain⟨a,d,rfl⟩:=aY ff;obtain⟨b,c,rfl⟩:=aY l;obtain⟨h,u,v,_,j,i,n,m,e⟩:=MZ _ a b (D2 _) d c;exact⟨cQ h,u,v,aD h,j,i,n,m,funext e⟩
theorem DQ.eq{g a:Pq}(h:DQ g a):∃s,Fin s/\a=aA s g:=by obtain⟨s,b,e⟩:=h;exact⟨s,b,funext e⟩
theorem DQ.cv{g s:Pq}(a:Fin s):DQ g (aA s g):=⟨s,a,λ_=>rfl⟩
theorem DQ.cvR{g s:Pq}(a:Fin s):DQ g (aA g s):=by rw[Qt (op:=aA) g s];exact DQ.cv a
theorem pL.cop{p f:Pq}(a:pL p)(ff:Fin f)(h:¬DQ p f):∃u v,Fin u/\Fin v/\I1=λk=>aA u p k+aA v f k:=by
 obtain⟨g,u,v,i,d,c,m,l,e⟩:=Yh a.fin ff;rcases a.or g i m with x|x
 .obtain⟨w,b,j⟩:=DQ.eq x;refine⟨aA w u,aA w v,b.mul d,b.mul c,?_⟩;rw[j,e];funext k;rw[o9,vw (op:=aA) w u p,vw (op:=aA) w v f]
 .exact absurd (x.trans l) h
theorem pL.split{p f g:Pq}(a:pL p)(ff:Fin f)(i:Fin g)(h:DQ p (aA f g)):DQ p f\/DQ p g:=by
 by_cases c:DQ p f
 .exact WY c
 obtain⟨u,v,d,b,e⟩:=a.cop ff c;refine WU ?_;have j:∀k,g k=aA (aA g u) p k+aA v (aA f g) k:=λk=>by
  have:aA I1 g k=g k:=by rw[M6]
  rw[<-this,e,dg,show aA (aA u p) g=aA (aA g u) p by ac_rfl,show aA (aA v f) g=aA v (aA f g) by ac_rfl]
 exact(((DQ.refl p).mul _ (i.mul d)).add (h.mul v b)).ext j
theorem fO(g:Pq)(k:Nat):aA (cQ []) g k=0:=(aZ (λ_=>rfl) (λ_=>rfl) k).trans (cK g k)
theorem wg{d a:List Rat}(n:aj d)(b:aj a)(m:a≠[])(h:DQ (cQ d) (cQ a)):d≠[]/\(d.length<a.length\/DQ (cQ a) (cQ d)):=by
 obtain⟨s,p,e⟩:=h.eq;obtain⟨s,g,rfl⟩:=aY p;have j:d≠[]:=λz=>by rw[z]at e;refine iE b m λi=>?_;rw[e,bK];exact fO _ i
 have f:s≠[]:=λz=>by rw[z]at e;refine iE b m λi=>?_;rw[e];exact fO _ i
 have l:=mD g n b f j e;have r:=HI.mpr f;refine⟨j,?_⟩;by_cases c:s.length<2
 .refine WU ?_;obtain⟨w,o,q⟩:=(pK g f c).eq;refine⟨w,o,λk=>?_⟩;rw[e,show aA w (aA (cQ s) (cQ d))=aA (aA w (cQ s)) (cQ d) by ac_rfl,<-q,M6]
 .exact WY (by lia)
theorem Ec:∀(n:Nat)(a:List Rat),a.length<=n->aj a->2<=a.length->∃p,pL p/\DQ p (cQ a)
 |0,a,h,_,l=>absurd (Bz l h) (by decide)
 |n+1,a,h,b,l=>by
  have j:a≠[]:=λz=>by rw[z]at l;cases l
  by_cases c:∃d:Pq,Fin d/\DQ d (cQ a)/\¬Un d/\¬DQ (cQ a) d
  .obtain⟨d,r,w,F,E⟩:=c;obtain⟨d,f,rfl⟩:=aY r;obtain⟨B,o⟩:=wg f b j w;rcases o with o|o
   .have C:2<=d.length:=dA λl=>F (pK f B l);obtain⟨p,D,m⟩:=Ec n d (by lia) f C;exact⟨p,D,m.trans w⟩
   .exact absurd o E
  .refine⟨cQ a,⟨aD a,iE b j,λu=>?_,λd r m=>?_⟩,DQ.refl _⟩
   .have:=(wg (d:=a) (a:=[1]) b (λx k=>by cases k;decide) (by simp) u).2;rcases this with t|t
    .exact absurd t (by simp;lia)
    .obtain⟨s,y,e⟩:=DQ.eq (g:=I1) t;have:(([1]:List Rat)).length<a.length:=by simp;lia
     have G:Un (cQ a):=u;obtain⟨s,y,e⟩:=G.eq;obtain⟨s,A,rfl⟩:=aY y;have v:s≠[]:=λz=>by rw[z]at e;refine QE λi=>?_;rw[e];exact fO _ i
     have l:=mD (c:=[1]) A b (λx k=>by cases k;decide) v j e;have H:=HI.mpr v;simp at l;lia
   .by_cases u:Un d
    .exact WY u
    .exact WU (Fk λq=>c ⟨d,r,m,u,q⟩)
theorem M7{f:Pq}(ff:Fin f)(c:¬Z0 f)(u:¬Un f):∃p,pL p/\DQ p f:=by obtain⟨a,b,rfl⟩:=aY ff;have d:=pJ c;exact Ec _ a (D2 _) b (dA λl=>u (pK b d l))
theorem z3{a:List Rat}(h:aj a)(u:Un (cQ a)):a.length=1:=by
 have d:a≠[]:=λz=>by obtain⟨s,f,e⟩:=u.eq;refine QE λi=>?_;rw[e,bK,z];exact fO _ i
 obtain⟨s,f,e⟩:=u.eq;obtain⟨s,g,rfl⟩:=aY f;have b:s≠[]:=λz=>by rw[z]at e;refine QE λi=>?_;rw[e];exact fO _ i
 have l:=mD (c:=[1]) g h (λx j=>by cases j;decide) b d e;have m:=HI.mpr b;have k:=HI.mpr d;simp at l;lia
noncomputable def Val(p f:Pq)(e:Nat):Prop:=∃s,Fin s/\f=aA (pw p e) s/\¬DQ p s
theorem Ef{p:Pq}(d:pL p):∀(n:Nat)(a:List Rat),a.length<=n->aj a->a≠[]->∃e,Val p (cQ a) e
 |0,a,h,_,l=>absurd (KM.mp (si.mp h)) l
 |n+1,a,h,j,r=>by
  by_cases c:DQ p (cQ a)
  .obtain⟨s,v,e⟩:=c.eq;obtain⟨s,f,rfl⟩:=aY v;obtain⟨b,g,rfl⟩:=aY d.fin;have m:s≠[]:=λz=>by rw[z]at e;refine iE j r λi=>?_;rw[e];exact fO _ i
   have o:=pJ d.nz;have l:=mD f g j m o e;have x:2<=b.length:=dA λl=>d.un (pK g o l);obtain⟨k,t,u,w,q⟩:=Ef d n s (by lia) f m;refine⟨k+1,t,u,?_,q⟩;rw[e,w];show _=aA (aA _ _) _
   ac_rfl
  .exact⟨0,cQ a,aD a,(M6 _).symm,c⟩
theorem pL.val{p f:Pq}(d:pL p)(ff:Fin f)(c:¬Z0 f):∃e,Val p f e:=by obtain⟨a,b,rfl⟩:=aY ff;exact Ef d _ a (D2 _) b (pJ c)
theorem Val.mul{p f g:Pq}{e k:Nat}(i:pL p)(l:Val p f e)(j:Val p g k):Val p (aA f g) (e+k):=by
 obtain⟨s,b,rfl,d⟩:=l;obtain⟨t,a,rfl,c⟩:=j;refine⟨aA s t,b.mul a,?_,λh=>(i.split b a h).elim d c⟩;rw[tW]
 ac_rfl
theorem Eg{p s t:Pq}{e k:Nat}(a:pL p)(d:Fin s)(c:Fin t)(h:e<k)(b:aA (pw p e) s=aA (pw p k) t):DQ p s:=by obtain⟨n,rfl⟩:∃n,k=e+(n+1):=⟨k -e -1,by lia⟩;rw[tW,show aA (aA (pw p e) (pw p (n+1))) t=aA (aA (pw p (n+1)) t) (pw p e) by ac_rfl,show aA (pw p e) s=aA s (pw p e) by ac_rfl]at b;have:=zZ d ((jd a.fin _).mul c) (jd a.fin e) (Eb a.fin a.nz e) b;rw[this];show DQ p (aA (aA p (pw p n)) t);rw[show aA (aA p (pw p n)) t=aA (aA (pw p n) t) p by ac_rfl];exact DQ.cv ((jd a.fin n).mul c)
theorem Val.uniq{p f:Pq}{e k:Nat}(a:pL p)(m:Val p f e)(l:Val p f k):e=k:=by
 obtain⟨s,c,g,j⟩:=m;obtain⟨t,b,d,i⟩:=l;rcases Nat.lt_trichotomy e k with h|h|h
 .exact absurd (Eg a c b h (g.symm.trans d)) j
 .exact h
 .exact absurd (Eg a b c h (d.symm.trans g)) i
theorem Val.pos{p f:Pq}{e:Nat}(b:pL p)(h:Val p f e):DQ p f↔e≠0:=by
 obtain⟨s,c,rfl,a⟩:=h;cases e with
 |zero=>exact⟨λd=>by rw[show pw p 0=I1 from rfl,M6]at d;exact absurd d a,λh=>absurd rfl h⟩
 |succ n=>exact⟨λ_=>Nat.succ_ne_zero n,λ_=>by show DQ p (aA (aA p (pw p n)) s);rw[show aA (aA p (pw p n)) s=aA (aA (pw p n) s) p by ac_rfl];exact DQ.cv ((jd b.fin n).mul c)⟩
theorem Fin.CD{f:Pq}(c:Rat)(h:Fin f):Fin λi=>c*f i:=by obtain⟨n,a⟩:=h;exact⟨n,λi b=>by show c*f i=0;rw[a i b,Pv]⟩
theorem Eh(p:Pq):∀n,jc (pw p (n+1))=λk=>((n+1:Nat):Rat)*aA (pw p n) (jc p) k
 |0=>by show jc (aA p I1)=_;rw[SO];funext k;show _=((1:Nat):Rat)*aA I1 (jc p) k;rw[M6];exact(QR _).symm
 |n+1=>by
  show jc (aA p (pw p (n+1)))=_;rw[D9,Eh p n];funext k;show aA (jc p) (pw p (n+1)) k+aA p (λk=>((n+1:Nat):Rat)*aA (pw p n) (jc p) k) k=_;rw[dP,show aA p (aA (pw p n) (jc p))=aA (pw p (n+1)) (jc p)from(vw (op:=aA) p (pw p n) (jc p)).symm,bK];have:((n+1+1:Nat):Rat)=1+((n+1:Nat):Rat):=by
   have:n+1+1=1+(n+1):=by lia
   exact_mod_cast this
  rw[this,X4,QR]
theorem HS{p:Pq}(f:pL p):¬DQ p (jc p):=λh=>by
 obtain⟨b,e,rfl⟩:=aY f.fin;obtain⟨a,g,d⟩:=aY (ju (aD b));have c:=pJ f.nz;have k:2<=b.length:=dA λl=>f.un (pK e c l);rw[<-d]at h;have j:a.length<b.length:=tI λl=>by
  have i:a≠[]:=λz=>by rw[z]at l;simp at l;exact c l
  refine iB g i ?_;have:=congrFun d (a.length -1);rw[show a.getD (a.length -1) 0=cQ a (a.length -1)from rfl,this];show _*cQ b _=0;rw[show cQ b (a.length -1+1)=0 from iY (by lia),Pv]
 have:=v9 e c g j h;rw[this]at d;have t:=congrFun d (b.length -2);have t:(0:Rat)=((b.length -2+1:Nat):Rat)*cQ b (b.length -2+1):=t;rcases GM.mp t.symm with z|z
 .have:b.length -2+1=0:=by exact_mod_cast z
  lia
 .rw[show b.length -2+1=b.length -1 by lia]at z;exact iB e c z
theorem Val.jc{p f:Pq}{n:Nat}(a:pL p)(h:Val p f (n+1)):Val p (jc f) n:=by
 obtain⟨s,c,rfl,e⟩:=h;refine⟨λk=>((n+1:Nat):Rat)*aA (Num.jc p) s k+aA p (Num.jc s) k,(Fin.CD _ ((ju a.fin).mul c)).add (a.fin.mul (ju c)),?_,λd=>?_⟩
 .rw[D9,Eh];funext k;show aA (λk=>((n+1:Nat):Rat)*aA (pw p n) (Num.jc p) k) s k+aA (aA p (pw p n)) (Num.jc s) k=_;rw[bq,o9,dP,show aA (aA (pw p n) (Num.jc p)) s=aA (pw p n) (aA (Num.jc p) s) by ac_rfl,show aA (aA p (pw p n)) (Num.jc s)=aA (pw p n) (aA p (Num.jc s)) by ac_rfl]
 .have j:=(d.sub (DQ.cvR (g:=p) (ju c))).ext (b:=λk=>((n+1:Nat):Rat)*aA (Num.jc p) s k) λk=>by grind
  have i:=DQ.WC (λz=>by
   have:n+1=0:=by exact_mod_cast z
   lia) j
  exact(a.split (ju a.fin) c i).elim (HS a) e
theorem Val.nz{p f:Pq}{e:Nat}(a:pL p)(h:Val p f e):¬Z0 f:=by obtain⟨s,c,rfl,b⟩:=h;exact Lf (jd a.fin e) c (Eb a.fin a.nz e) λz=>b ((DQ.zero p).ext z)
theorem M8{p:Pq}(a:pL p)(n:Nat):Val p (pw p n) n:=⟨I1,SN,(SO _).symm,a.un⟩
theorem Val.Yi{p f q g:Pq}{e k:Nat}(a:pL p)(h:Val p f e)(d:Val p g k)(i:Fin q)(c:¬Z0 q)(E:f=aA q g):Val p q (e -k)/\k<=e:=by obtain⟨j,b⟩:=a.val i c;have:=(E▸h).uniq a (b.mul a d);rw[this,Fn];exact⟨b,vk ..⟩
theorem Val.le{p f:Pq}{e n:Nat}(a:pL p)(h:Val p f e):DQ (pw p n) f↔n<=e:=by
 constructor
 .intro d;obtain⟨s,b,E⟩:=d.eq;refine(h.Yi a (M8 a n) b (λz=>h.nz a λi=>?_) E).2;rw[E,show s=λ_=>0 from funext z];exact cK _ i
 .intro l;obtain⟨s,b,rfl,c⟩:=h;obtain⟨m,rfl⟩:∃m,e=n+m:=⟨e -n,by lia⟩;rw[tW,show aA (aA (pw p n) (pw p m)) s=aA (aA (pw p m) s) (pw p n) by ac_rfl];exact DQ.cv ((jd a.fin m).mul b)
structure SQ(f h g:Pq):Prop where
 fin:Fin g
 l:DQ g f
 r:DQ g h
 out:∀d,DQ d f->DQ d h->DQ d g
theorem SQ.val{p f h g:Pq}{e k:Nat}(a:pL p)(G:SQ f h g)(c:Val p f e)(d:Val p h k):Val p g (min e k):=by
 have j:¬Z0 g:=λz=>c.nz a λi=>by obtain⟨s,o,E⟩:=G.l.eq;rw[E,bK,show g=λ_=>0 from funext z];exact cK _ i
 obtain⟨m,b⟩:=a.val G.fin j;have q:=(c.le a).mp (((b.le a).mpr (D2 m)).trans G.l);have a2:=(d.le a).mp (((b.le a).mpr (D2 m)).trans G.r);have a3:=(b.le a (n:=min e k)).mp (G.out _ ((c.le a).mpr (Nat.min_le_left ..)) ((d.le a).mpr (Nat.min_le_right ..)));rw[show min e k=m by lia];exact b
theorem SQ.gP{p f g:Pq}{e:Nat}(a:pL p)(G:SQ f (jc f) g)(b:Val p f e):Val p g (e -1):=by
 cases e with
 |succ n=>have:=G.val a b (b.jc a);rw[show min (n+1) n=n+1 -1 by lia]at this;exact this
 |zero=>
  have d:¬Z0 g:=λz=>b.nz a λi=>by obtain⟨s,j,E⟩:=G.l.eq;rw[E,bK,show g=λ_=>0 from funext z];exact cK _ i
  obtain⟨m,c⟩:=a.val G.fin d;have h:=(b.le a).mp (((c.le a).mpr (D2 m)).trans G.l);rw[si.mp h]at c;exact c
theorem SV{g f:Pq}(h:DQ g f)(a:¬Z0 f):¬Z0 g:=λz=>a λi=>by obtain⟨s,b,E⟩:=h.eq;rw[E,bK,show g=λ_=>0 from funext z];exact cK _ i
theorem M9{q g f:Pq}(E:f=aA q g)(a:¬Z0 f):¬Z0 q:=λz=>a λi=>by rw[E,show q=λ_=>0 from funext z];exact cK _ i
theorem HU{f g:Pq}(ff:Fin f)(c:¬Z0 f)(j:Fin g)(H:∀p,pL p->DQ p f->¬DQ p g)(d:Pq)(i:Fin d)(b:DQ d f)(h:DQ d g):Un d:=
 Fk λu=>by obtain⟨p,e,a⟩:=M7 i (SV b c) u;exact H p e (a.trans b) (a.trans h)
theorem Ei{f:Pq}(ff:Fin f)(c:¬Z0 f)(H:∀p,pL p->∀e,Val p f e->e<=1)(d:Pq)(i:Fin d)(h:DQ d f)(g:DQ d (jc f)):Un d:=
 HU ff c (ju ff) (λp a x y=>by
  obtain⟨e,b⟩:=a.val ff c;have j:=H p a e b;have k:=(b.pos a).mp x;have:e=0+1:=by lia
  rw[this]at b;exact((b.jc a).pos a).mp y rfl) d i h g
theorem tX(r:Rat)(a:List Rat)(k:Nat):cQ (r::a) (k+1)=cQ a k:=rfl
theorem jv(x:Rat):∀{a:List Rat},(∀k,cQ a k=0)->ev x a=0
 |[],_=>rfl
 |r::a,h=>by have b:r=0:=h 0;rw[cu,b,jv x (a:=a) λk=>h (k+1)];grind
theorem tY(x:Rat):∀{a b:List Rat},(∀k,cQ a k=cQ b k)->ev x a=ev x b
 |[],b,h=>(jv x λk=>(h k).symm).symm
 |r::a,[],h=>jv x h
 |r::a,s::b,h=>by have c:r=s:=h 0;rw[cu,cu,c,tY x (a:=a) (b:=b) λk=>h (k+1)]
theorem pM(x c:Rat):∀{a b:List Rat},(∀k,cQ b k=c*cQ a k)->ev x b=c*ev x a
 |[],b,h=>by rw[jv x λk=>by rw[h k];show c*0=0;grind];show 0=c*0;grind
 |r::a,[],h=>by
  by_cases d:c=0
  .rw[d];show 0=0*_;grind
  .rw[jv x (a:=r::a) λk=>by
    have e:0=c*cQ (r::a) k:=h k;rcases GM.mp e.symm with z|z
    .exact absurd z d
    .exact z]
   show 0=c*0;grind
 |r::a,s::b,h=>by have f:s=c*r:=h 0;rw[cu,cu,f,pM x c (a:=a) (b:=b) λk=>h (k+1)];grind
theorem je(x:Rat):∀{a b c:List Rat},(∀k,cQ c k=cQ a k+cQ b k)->ev x c=ev x a+ev x b
 |[],b,c,h=>by rw[tY x (a:=c) (b:=b) λk=>by rw[h k];show 0+_=_;grind];show _=0+_;grind
 |r::a,[],c,h=>by rw[tY x (a:=c) (b:=r::a) λk=>by rw[h k];show _+0=_;grind];show _=_+0;grind
 |r::a,s::b,[],h=>by have e:=je x (a:=a) (b:=b) (c:=[]) λk=>h (k+1);have d:0=r+s:=h 0;rw[cu,cu];have f:(0:Rat)=ev x a+ev x b:=e;show(0:Rat)=_;grind
 |r::a,s::b,t::c,h=>by have d:t=r+s:=h 0;rw[cu,cu,cu,d,je x (a:=a) (b:=b) (c:=c) λk=>h (k+1)];grind
theorem nE(x:Rat):∀{q b c:List Rat},(∀k,cQ c k=aA (cQ q) (cQ b) k)->ev x c=ev x q*ev x b
 |[],b,c,h=>by rw[jv x λk=>(h k).trans (fO _ k)];show 0=0*_;grind
 |r::q,b,c,h=>by
  obtain⟨d,l,f⟩:=aY ((aD q).mul (aD b));have e:=nE x (q:=q) (b:=b) (c:=d) λk=>by rw[f]
  have j:=pM x r (a:=b) (b:=b.map (r*·)) λk=>by
   show(b.map _).getD k 0=r*b.getD k 0;rw[AC,DL,AC];cases b[k]? with
   |none=>show(0:Rat)=r*0;grind
   |some z=>rfl
  have i:=je x (a:=b.map (r*·)) (b:=0::d) (c:=c) λk=>by
   have g:cQ (b.map (r*·)) k=r*cQ b k:=by
    show(b.map _).getD k 0=r*b.getD k 0;rw[AC,DL,AC];cases b[k]? with
    |none=>show(0:Rat)=r*0;grind
    |some z=>rfl
   rw[h k,g];cases k with
   |zero=>rw[dN];show r*cQ b 0=r*cQ b 0+0;grind
   |succ k=>rw[gK,tX,f];rfl
  rw[i,j,cu,cu,e];grind
theorem z4(x:Rat):∀(d:List Rat),dv x d=ev x (aX d)
 |[]=>rfl
 |r::d=>by
  have e:=z4 x d;show ev x d+x*dv x d=_;rw[e,je x (a:=d) (b:=0::aX d) (c:=aX (r::d)) λk=>?_,cu]
  .grind
  .rw[eU,tX];cases k with
   |zero=>show((0+1:Nat):Rat)*_=_+0;have:((0+1:Nat):Rat)=1:=rfl;rw[this];grind
   |succ k=>
    rw[tX,eU];have:((k+1+1:Nat):Rat)=((k+1:Nat):Rat)+1:=by show(((k+1+1:Nat):Int):Rat)=(((k+1:Nat):Int):Rat)+((1:Int):Rat);rw[<-oC];rfl
    rw[this];grind
noncomputable def Na(r:List Rat):Rat->Rat:=λx=>ev x r
theorem z5{a b:Rat}(h:a<=b)(r:List Rat):SD a b (Na r):=by obtain⟨C,c,S⟩:=pD h r;exact⟨C,c,S.l⟩
theorem HV{a b:Rat}(h:a<=b)(r:List Rat):Va a b (Na r):=by obtain⟨C,c,S⟩:=pD h r;exact⟨C,c,S.f0⟩
theorem HW{a b:Rat}(h:a<=b)(r:List Rat):QD a b (Na r) (Na (aX r)):=by obtain⟨C,g,S⟩:=pD h r;refine⟨C,g,λx y f e c=>?_⟩;have:=S.d x y f e c;rw[z4]at this;exact this
theorem ye(x:Rat)(r:List Rat):ev x (gJ r)= -1*ev x r:=pM x (-1) λk=>by rw[pB];grind
theorem jW.ch{lo hi:Rat}(h:lo<=hi){a b:List Rat}{l:List (List Rat)}(S:jW a b l):(∃c:Rat,c≠0/\(b::l).getLast?=some [c])->Ch lo hi ((a::b::l).map Na):=by
 induction S with
 |@nil a b i=>rintro⟨c,g,e⟩;cases e;exact .two (z5 h a) (.one c g λx _=>by show c+x*0=c;grind)
 |@cons a b r l i y k m=>
  rintro⟨c,g,e⟩;have t:((gJ r)::l).getLast?=some [c]:=by rw[SZ]at e;exact e
  obtain⟨z,w,q,n,o⟩:=i;obtain⟨f,u,rfl⟩:=aY n;obtain⟨d,v,j⟩:=aY ((aD f).mul (aD b));refine .cons (z5 h a) 1 1 (Na f) (by decide) (by decide) (HV h f) (λx _=>?_) (m ⟨c,g,t⟩);show 1*ev x a+1*ev x (gJ r)=ev x f*ev x b;have s:=nE x (q:=f) (b:=b) (c:=d) λk=>by rw[j]
  have p:=je x (a:=d) (b:=r) (c:=a) λk=>by rw[o k,j]
  rw[ye,p,s];grind
noncomputable def eE(l:List (List Rat))(x:Rat):Nat:=chg (l.map (ev x))
theorem z6(l:List (List Rat))(x:Rat):Gx (l.map Na) x=eE l x:=by unfold Gx eE;rw[Qr];rfl
theorem jW.fall{lo hi:Rat}(h:lo<hi){a:List Rat}{l:List (List Rat)}(S:jW a (aX a) l)(b:∃c:Rat,c≠0/\(aX a::l).getLast?=some [c]):eE (a::aX a::l) hi<=eE (a::aX a::l) lo:=by rw[<-z6,<-z6];exact Ch.fall h (S.ch (Y2 h) b) (HW (Y2 h) a)
theorem yf{r C:Rat}(m:0<=C)(h:∀x:Rat,0<x->x<=1->ab r (x*C)):r=0:=by
 apply Fk;intro o;have b:∀u:Rat,0<u->(∀x:Rat,0<x->x<=1->u<=x*C)->False:=λu d j=>by
  have g:0<C+u+1:=by grind
  have i:=dk.mpr g;have e:(C+u+1)*(C+u+1)⁻¹=1:=Re _ (by grind);have a:=Jn d i;have l:(C+u+1)*(u*(C+u+1)⁻¹)=u:=by rw[u4 u,<-PP,e,QR]
  generalize u*(C+u+1)⁻¹=x at a l;have p:=Zf m (Y2 a);have n:=Jn d a;have f:x<=1:=by apply Fk;intro f;have:=Uj (show 1<x by grind) d;grind
  have:=j x a f;grind
 by_cases k:0<r
 .exact b r k λx a c=>(h x a c).2
 .exact b (-r) (by grind) λx a c=>by have:=(h x a c).1;grind
theorem su:∀{a:List Rat},(∀x:Rat,0<x->x<=1->ev x a=0)->∀k,cQ a k=0
 |[],_,k=>rfl
 |r::a,h,k=>by
  obtain⟨C,g,S⟩:=pD (a:=0) (b:=1) (by decide) a;have f:r=0:=yf g λx d c=>by have e:=h x d c;rw[cu]at e;have b:=fN (show ab x x from⟨by grind,by grind⟩) (S.f0 x ⟨Y2 d,c⟩);unfold ab at*;grind
  cases k with
  |zero=>exact f
  |succ k=>
   refine su (a:=a) (λx d c=>?_) k;have e:=h x d c;rw[cu,f]at e;rcases GM.mp (show x*ev x a=0 by grind)with z|z
   .grind
   .exact z
theorem z7{a b:List Rat}(h:∀x,ev x a=ev x b)(k:Nat):cQ a k=cQ b k:=by obtain⟨d,l,g⟩:=aY (f:=λi=>cQ a i+(-1)*cQ b i) ((aD a).add ((aD b).CD (-1)));have e:=su (a:=d) (λx _ _=>by obtain⟨c,m,j⟩:=aY (f:=λi=>(-1)*cQ b i) ((aD b).CD (-1));rw[je x (a:=a) (b:=c) (c:=d) (λk=>by rw[g,j]),pM x (-1) (a:=b) (b:=c) (λk=>by rw[j]),h x];grind) k;rw[g]at e;grind
theorem tZ{a b:List Rat}(d:aj a)(c:aj b)(h:∀x,ev x a=ev x b):a=b:=jU d c (z7 h)
noncomputable def xD(t:Rat):Rat->List Rat->List Rat
 |c,[]=>[c]
 |c,y::u=>(c+t*y)::xD t y u
noncomputable def cT(t:Rat):List Rat->List Rat
 |[]=>[]
 |r::a=>xD t r (cT t a)
theorem t6(t:Rat):∀(u:List Rat)(c:Rat),(xD t c u).length=u.length+1
 |[],c=>rfl
 |y::u,c=>by show(xD t y u).length+1=_;rw[t6 t u y];rfl
theorem mE(t:Rat):∀a:List Rat,(cT t a).length=a.length
 |[]=>rfl
 |r::a=>by show(xD t r (cT t a)).length=_;rw[t6,mE t a];rfl
theorem yg(t x:Rat):∀(u:List Rat)(c:Rat),ev x (xD t c u)=c+(x+t)*ev x u
 |[],c=>by show c+x*0=c+(x+t)*0;grind
 |y::u,c=>by show c+t*y+x*ev x (xD t y u)=c+(x+t)*(y+x*ev x u);rw[yg t x u y];grind
theorem dY(t x:Rat):∀a:List Rat,ev x (cT t a)=ev (x+t) a
 |[]=>rfl
 |r::a=>by show ev x (xD t r (cT t a))=r+(x+t)*ev (x+t) a;rw[yg,dY t x a]
theorem wj(t:Rat):∀(u:List Rat)(c:Rat),(xD t c u).getLast?=(c::u).getLast?
 |[],c=>rfl
 |y::u,c=>by
  show((c+t*y)::xD t y u).getLast?=_;have n:xD t y u≠[]:=λz=>by have:=t6 t u y;rw[z]at this;cases this
  obtain⟨p,a,e⟩:=UO n;rw[e,SZ,<-e,wj t u y,SZ]
theorem z8(t:Rat):∀a:List Rat,(cT t a).getLast?=a.getLast?
 |[]=>rfl
 |r::a=>by
  show(xD t r (cT t a)).getLast?=_;rw[wj];cases a with
  |nil=>rfl
  |cons y a=>
   have n:cT t (y::a)≠[]:=λz=>by have:=mE t (y::a);rw[z]at this;cases this
   obtain⟨p,b,e⟩:=UO n;rw[e,SZ,<-e,z8 t (y::a),SZ]
theorem dh{t:Rat}{a:List Rat}(h:aj a):aj (cT t a):=λx b=>h x (by rw[<-z8 t];exact b)
theorem z9{t:Rat}{a:List Rat}(h:a≠[]):cT t a≠[]:=λz=>h (KM.mp (by rw[<-mE t,z];rfl))
theorem Ej(t x:Rat):∀(u:List Rat)(c:Rat),dv x (xD t c u)=ev x u+(x+t)*dv x u
 |[],c=>by show 0+x*0=0+(x+t)*0;grind
 |y::u,c=>by show ev x (xD t y u)+x*dv x (xD t y u)=y+x*ev x u+(x+t)*(ev x u+x*dv x u);rw[yg,Ej t x u y];grind
theorem Lg(t x:Rat):∀a:List Rat,dv x (cT t a)=dv (x+t) a
 |[]=>rfl
 |r::a=>by show dv x (xD t r (cT t a))=ev (x+t) a+(x+t)*dv (x+t) a;rw[Ej,Lg t x a,dY]
theorem di{a:List Rat}(h:aj a):aj (aX a):=λx c=>by
 have e:cQ (aX a) ((aX a).length -1)=x:=by show(aX a).getD _ 0=x;rw[AC,<-Kk,c];rfl
 have i:0<(aX a).length:=HI.mpr λz=>by rw[z]at c;cases c
 have f:=gO a;obtain⟨n,b⟩:∃n,a.length=n+2:=⟨a.length -2,by lia⟩;have g:a≠[]:=λz=>by rw[z]at b;cases b
 rw[f,b]at e;rw[eU]at e;have d:=ja h (by lia);rw[b]at d;rw[<-e];intro z;rcases GM.mp z with z|z
 .have:((n+2 -1 -1+1:Nat):Int)=0:=Dx.mp z;lia
 .exact d z
theorem mF{t:Rat}{a:List Rat}(h:aj a):aX (cT t a)=cT t (aX a):=tZ (di (dh h)) (dh (di h)) λx=>by rw[<-z4,Lg,dY,z4]
theorem Nb{t:Rat}{a:List Rat}(h:aj a):gJ (cT t a)=cT t (gJ a):=tZ (fM (dh h)) (dh (fM h)) λx=>by rw[ye,dY,dY,ye]
theorem dH.sh{t:Rat}{a b r:List Rat}(h:dH a b r):dH (cT t a) (cT t b) (cT t r):=by obtain⟨z,l,q,p,e⟩:=h;obtain⟨g,s,rfl⟩:=aY p;refine⟨dh z,by rw[mE,mE];exact l,cQ (cT t g),aD _,λk=>?_⟩;obtain⟨d,u,j⟩:=aY ((aD (cT t g)).mul (aD (cT t b)));obtain⟨n,_,o⟩:=aY ((aD g).mul (aD b));obtain⟨c,v,m⟩:=aY (f:=λi=>cQ d i+cQ (cT t r) i) ((aD d).add (aD _));have:=z7 (a:=cT t a) (b:=c) (λx=>by rw[je x (a:=d) (b:=cT t r) (c:=c) (λk=>by rw[m]),nE x (q:=cT t g) (b:=cT t b) (c:=d) (λk=>by rw[j]),dY,dY,dY,dY,je (x+t) (a:=n) (b:=r) (c:=a) (λk=>by rw[e k,o]),nE (x+t) (q:=g) (b:=b) (c:=n) (λk=>by rw[o])]) k;rw[this,m,j]
theorem jW.sh{t:Rat}{a b:List Rat}{l:List (List Rat)}(h:jW a b l):jW (cT t a) (cT t b) (l.map (cT t)):=by
 induction h with
 |nil h=>exact .nil h.sh
 |@cons a b r l h d k c=>have e:=Nb (t:=t) h.1;rw[L9,<-e];rw[<-e]at c;exact .cons h.sh (z9 d) c
noncomputable def dG(c:Rat)(a:List Rat):List Rat:=a.map (c*·)
theorem cy(c:Rat)(a:List Rat)(k:Nat):cQ (dG c a) k=c*cQ a k:=by
 show(a.map _).getD k 0=c*a.getD k 0;rw[AC,DL,AC];cases a[k]? with
 |none=>show(0:Rat)=c*0;grind
 |some z=>rfl
theorem eX(c:Rat)(a:List Rat):(dG c a).length=a.length:=Ap _
theorem gg{c:Rat}(e:c≠0){a:List Rat}(h:aj a):aj (dG c a):=λx b=>by
 unfold dG at b;rw[Ya]at b;obtain⟨y,d,rfl⟩:=Mo.mp b;intro z;rcases GM.mp z with z|z
 .exact e z
 .exact h y d z
theorem Ek{c:Rat}{a:List Rat}(h:a≠[]):dG c a≠[]:=λz=>h (oP.mp z)
theorem kP(c x:Rat)(a:List Rat):ev x (dG c a)=c*ev x a:=pM x c (cy c a)
theorem jY{c:Rat}(b:c≠0){a:List Rat}(h:aj a):aX (dG c a)=dG c (aX a):=jU (di (gg b h)) (gg b (di h)) λk=>by show cQ _ k=cQ _ k;rw[eU,cy,cy,eU];grind
theorem Nc{c:Rat}(b:c≠0){a:List Rat}(h:aj a):gJ (dG c a)=dG c (gJ a):=jU (fM (gg b h)) (gg b (fM h)) λk=>by show cQ _ k=cQ _ k;rw[pB,cy,cy,pB];grind
theorem dH.sc{c:Rat}(f:c≠0){a b r:List Rat}(h:dH a b r):dH (dG c a) (dG c b) (dG c r):=by obtain⟨z,l,q,d,e⟩:=h;refine⟨gg f z,by rw[eX,eX];exact l,q,d,λk=>?_⟩;rw[cy,cy,e k,aZ (λ_=>rfl) (cy c b),dP];grind
theorem jW.sc{c:Rat}(d:c≠0){a b:List Rat}{l:List (List Rat)}(h:jW a b l):jW (dG c a) (dG c b) (l.map (dG c)):=by
 induction h with
 |nil h=>exact .nil (h.sc d)
 |@cons a b r l h g k f=>have e:=Nc d h.1;rw[L9,<-e];rw[<-e]at f;exact .cons (h.sc d) (Ek g) f
theorem SX{c a b:Rat}(q:c≠0)(j:a≠0)(i:b≠0):df (c*a) (c*b)=df a b:=by
 have s:∀y:Rat,y≠0->(0<c*y↔(0<c↔0<y)):=λy l=>by
  by_cases d:0<c
  .have f:0<y->0<c*y:=λh=>Jn d h;have e:¬0<y->¬0<c*y:=λh k=>by have:=Jn d (show 0< -y by grind);grind
   constructor
   .exact λh=>⟨λ_=>Fk λk=>e k h,λ_=>d⟩
   .exact λh=>f (h.mp d)
  .have g:0< -c:=by grind
   have f:¬0<y->0<c*y:=λh=>by have:=Jn g (show 0< -y by grind);grind
   have e:0<y->¬0<c*y:=λh k=>by have:=Jn g h;grind
   constructor
   .exact λh=>⟨λk=>absurd k d,λk=>absurd h (e k)⟩
   .exact λh=>f λk=>d (h.mpr k)
 unfold df;have p:=s a j;have o:=s b i;by_cases d:0<c<;>by_cases n:0<a<;>by_cases m:0<b<;>simp_all
theorem yh{c:Rat}(e:c≠0):∀(l:List Rat)(b:Rat),nj (c*b) (l.map (c*·))=nj b l
 |[],b=>rfl
 |x::l,b=>by
  show(if c*x=0 then nj (c*b) (l.map (c*·))else(if c*b=0 then 0 else df (c*b) (c*x))+nj (c*x) (l.map (c*·)))=if x=0 then nj b l else(if b=0 then 0 else df b x)+nj x l
  have i:∀y:Rat,c*y=0↔y=0:=λy=>⟨λz=>(GM.mp z).resolve_left e,λz=>by rw[z,Pv]⟩;rw[yh e l b,yh e l x];by_cases a:x=0
  .rw[Bi a,Bi ((i x).mpr a)]
  .rw[BM a,BM λz=>a ((i x).mp z)];by_cases d:b=0
   .rw[Bi d,Bi ((i b).mpr d)]
   .rw[BM d,BM λz=>d ((i b).mp z),SX e d a]
theorem HX{c:Rat}(b:c≠0)(l:List (List Rat))(x:Rat):eE (l.map (dG c)) x=eE l x:=by
 unfold eE chg;have e:(l.map (dG c)).map (ev x)=(l.map (ev x)).map (c*·):=by rw[Qr,Qr];exact Yf λa _=>kP c x a
 rw[e];have:=yh b (l.map (ev x)) 0;rw[Pv]at this;exact this
theorem HY(t:Rat)(l:List (List Rat))(x:Rat):eE (l.map (cT t)) x=eE l (x+t):=by unfold eE;rw[Qr,show(ev x∘cT t)=ev (x+t)from funext λa=>dY t x a]
theorem El(a:List Rat):cQ (aX a)=jc (cQ a):=funext λk=>eU a k
theorem jW.last{a b:List Rat}{l:List (List Rat)}(S:jW a b l)(p:aj b)(t:b≠[]):∃g,(b::l).getLast?=some g/\aj g/\g≠[]/\SQ (cQ a) (cQ b) (cQ g):=by
 induction S with
 |@nil a b h=>obtain⟨_,_,q,c,e⟩:=h;refine⟨b,rfl,p,t,aD b,⟨q,c,λk=>?_⟩,DQ.refl _,λd _ h=>h⟩;rw[e k];show _+0=_;grind
 |@cons a b r l h v k u=>
  obtain⟨g,e,o,s,G⟩:=u (fM h.1) (yc v);obtain⟨_,_,q,c,m⟩:=h;refine⟨g,by rw[SZ];exact e,o,s,G.fin,?_,G.l,λd w n=>G.out d n ?_⟩
  .have j:=(G.l.mul q c).add (G.r.mul (cQ [-1]) (aD _));refine j.ext λk=>?_;rw[m k,aZ (f:=cQ [-1]) (g:=cQ (gJ r)) (λi=>(by cases i<;>rfl:cQ [-1] i=if i=0 then-1 else 0)) (λi=>rfl),kO,Bi (KB k),pB];show _=_+ -1* -cQ r k;grind
  .have j:=(n.mul q c).add (w.mul (cQ [-1]) (aD _));refine j.ext λk=>?_;rw[aZ (f:=cQ [-1]) (g:=cQ a) (λi=>(by cases i<;>rfl:cQ [-1] i=if i=0 then-1 else 0)) (λi=>rfl),kO,Bi (KB k),pB];show _=_+ -1*cQ a k;rw[m k];grind
theorem jW.len{a b:List Rat}{l:List (List Rat)}(S:jW a b l)(c:b≠[]):l.length+1<=b.length:=by
 induction S with
 |nil h=>exact HI.mpr c
 |@cons a b r l h e k d=>have:=d (yc e);rw[zX]at this;have:=h.2.1;rw[A6];lia
theorem t7:∀(l:List Rat)(b:Rat),nj b l<=l.length
 |[],b=>D2 _
 |x::l,b=>by
  show(if x=0 then nj b l else(if b=0 then 0 else df b x)+nj x l)<=l.length+1;have h1:=t7 l b;have c:=t7 l x;have a:df b x<=1:=by unfold df;split<;>split<;>decide
  split
  .lia
  .split<;>lia
theorem Nd(x:Rat)(l:List Rat):chg (x::l)<=l.length:=by
 by_cases h:x=0
 .rw[h,wc];exact t7 l 0
 .rw[pG h];exact t7 l x
noncomputable def Bp(p s:List Rat):Prop:=aj s/\s≠[]/\∃l g a,jW p (aX p) l/\(aX p::l).getLast?=some g/\a≠0/\∀k,cQ p k=a*aA (cQ s) (cQ g) k
noncomputable def Cc(p:List Rat)(C:List (List Rat)):Prop:=∃s l,C=s::aX s::l/\Bp p s/\jW s (aX s) l
structure Rp(p:List Rat):Prop where
 z:aj p
 l2:2<=p.length
theorem Rp.gP{p:List Rat}(h:Rp p):aX p≠[]:=λz=>by have e:=gO p;have:=h.l2;rw[z]at e;have e:0=p.length -1:=e;lia
theorem Rp.ne{p:List Rat}(h:Rp p):p≠[]:=λz=>by have:=h.l2;rw[z]at this;cases this
theorem Em{c:Rat}{a b:List Rat}(f:c≠0)(e:aj a)(d:aj b)(h:∀k,cQ b k=c*cQ a k):b=dG c a:=jU d (gg f e) λk=>by show cQ _ k=cQ _ k;rw[h,cy]
theorem SY{t:Rat}{s g p:List Rat}{κ:Rat}(h:∀k,cQ p k=κ*aA (cQ s) (cQ g) k)(k:Nat):cQ (cT t p) k=κ*aA (cQ (cT t s)) (cQ (cT t g)) k:=by obtain⟨d,l,f⟩:=aY ((aD (cT t s)).mul (aD (cT t g)));obtain⟨i,_,j⟩:=aY ((aD s).mul (aD g));have e:=z7 (a:=cT t p) (b:=dG κ d) (λx=>by rw[dY,kP,nE x (q:=cT t s) (b:=cT t g) (c:=d) (λk=>by rw[f]),dY,dY,pM (x+t) κ (a:=i) (b:=p) (λk=>by rw[h,j]),nE (x+t) (q:=s) (b:=g) (c:=i) (λk=>by rw[j])]) k;rw[e,cy,f]
theorem Bp.moved{p s d:List Rat}{c t:Rat}(P:Rp p)(b:c≠0)(h:Bp p s)(I:Bp (dG c (cT t p)) d):∃κ,κ≠0/\d=dG κ (cT t s):=by
 obtain⟨A,M,l,g,κ,S,u,F,e⟩:=h;obtain⟨j,D,N,Q,a,L,w,v,J⟩:=I;have Sm:=(S.sh (t:=t)).sc b;rw[<-mF P.z,<-jY b (dh P.z)]at Sm;have y:=di (gg b (dh (t:=t) P.z));have nn:aX (dG c (cT t p))≠[]:=by rw[jY b (dh P.z),mF P.z];exact Ek (z9 P.gP)
 cases L.uniq y nn Sm;have q:(aX (dG c (cT t p))::(l.map (cT t)).map (dG c)).getLast?=some (dG c (cT t g)):=by rw[jY b (dh P.z),mF P.z,<-L9,<-L9,Ya,Ya,u];rfl
 rw[q]at w;cases w;obtain⟨R,x,B,E,G⟩:=S.last (di P.z) P.gP;rw[u]at x;cases x;have C:¬Z0 (cQ (cT t g)):=iE (dh B) (z9 E);have m:aA (cQ d) (cQ (cT t g))=aA (λi=>a⁻¹*κ*cQ (cT t s) i) (cQ (cT t g)):=funext λk=>by have K:=J k;have a2:=SY (t:=t) e k;rw[cy,a2,aZ (f:=cQ d) (g:=cQ (dG c (cT t g))) (λ_=>rfl) (cy c (cT t g)),dP]at K;rw[bq];have n:a*a⁻¹=1:=Re _ v;have O:c*c⁻¹=1:=Re _ b;grind
 have o:=zZ (aD d) ((aD (cT t s)).CD (a⁻¹*κ)) (aD _) C m;have H:a⁻¹≠0:=λz=>by have n:a*a⁻¹=1:=Re _ v;rw[z,Pv]at n;exact absurd n (by decide)
 have r:a⁻¹*κ≠0:=λz=>by
  rcases GM.mp z with z|z
  .exact H z
  .exact F z
 exact⟨_,r,Em r (dh A) j λk=>congrFun o k⟩
theorem Nf{g a:List Rat}(f:aj g)(j:g≠[])(b:aj a)(k:a≠[])(h:DQ (cQ g) (cQ a)):g.length<=a.length:=by obtain⟨s,l,e⟩:=h.eq;obtain⟨i,d,rfl⟩:=aY l;have c:i≠[]:=pJ (M9 e (iE b k));have:=mD d f b c j e;have:=HI.mpr c;lia
theorem Bp.len{p s:List Rat}(P:Rp p)(h:Bp p s):Rp s/\s.length<=p.length:=by
 obtain⟨b,m,l,g,t,S,o,n,e⟩:=h;obtain⟨w,j,c,a,G⟩:=S.last (di P.z) P.gP;rw[o]at j;cases j;obtain⟨d,f,i⟩:=aY ((aD s).mul (aD g));have u:=mD b c f m a i;have q:=Em n f P.z λk=>by rw[e k,i]
 have x:p.length=d.length:=by rw[q,eX]
 have l2:=Nf c a (di P.z) P.gP G.r;have:=gO p;have:=P.l2;have v:=HI.mpr a;exact⟨⟨b,by lia⟩,by lia⟩
theorem Bp.bare{p s:List Rat}(P:Rp p)(h:Bp p s)(d:Pq)(L:Fin d)(H:DQ d (cQ s))(o:DQ d (cQ (aX s))):Un d:=by
 obtain⟨f,j,l,g,a,S,N,c,e⟩:=h;obtain⟨R,q,O,Q,G⟩:=S.last (di P.z) P.gP;rw[N]at q;cases q;rw[El]at G o;have x:=iE P.z P.ne;refine Ei (aD s) (iE f j) (λr b T F=>?_) d L H o;obtain⟨m,n⟩:=b.val (aD p) x;have D:=G.gP b n;have K:Fin λi=>a*cQ s i:=(aD s).CD a;have w:¬Z0 λi=>a*cQ s i:=λz=>iE f j λi=>(GM.mp (z i)).resolve_left c;have E:cQ p=aA (λi=>a*cQ s i) (cQ g):=funext λk=>by rw[e k,bq]
 obtain⟨B,C⟩:=n.Yi b D K w E;have A:Val r (cQ s) (m -(m -1)):=by
  obtain⟨u,J,M,t⟩:=B;refine⟨λi=>a⁻¹*u i,J.CD _,funext λk=>?_,λz=>t ?_⟩
  .have:=congrFun M k;have y:a*a⁻¹=1:=Re _ c;rw[dP,<-this];grind
  .obtain⟨v,I,ev⟩:=z;refine⟨λi=>a*v i,I.CD _,λk=>?_⟩;have:=ev k;have y:a*a⁻¹=1:=Re _ c;rw[bq,<-this];grind
 rw[F.uniq b A];lia
theorem Bp.const{p s:List Rat}{l:List (List Rat)}(P:Rp p)(h:Bp p s)(S:jW s (aX s) l):∃c:Rat,c≠0/\(aX s::l).getLast?=some [c]:=by have R:=(h.len P).1;obtain⟨g,d,a,e,G⟩:=S.last (di R.z) R.gP;have u:=h.bare P (cQ g) (aD g) G.l G.r;have b:=z3 a u;obtain⟨c,rfl⟩:=d5.mp b;exact⟨c,a c rfl,d⟩
theorem Cc.moved{p:List Rat}{C b:List (List Rat)}{c t:Rat}(P:Rp p)(f:c≠0)(h:Cc p C)(e:Cc (dG c (cT t p)) b)(x:Rat):eE b x=eE C (x+t):=by
 obtain⟨s,l,rfl,B,S⟩:=h;obtain⟨j,k,rfl,i,g⟩:=e;obtain⟨d,a,rfl⟩:=B.moved P f i;have R:=(B.len P).1;have Sm:=(S.sh (t:=t)).sc a;rw[<-mF R.z,<-jY a (dh R.z)]at Sm;have nn:aX (dG d (cT t s))≠[]:=by rw[jY a (dh R.z),mF R.z];exact Ek (z9 R.gP)
 rw[g.uniq (di (gg a (dh R.z))) nn Sm,jY a (dh R.z),mF R.z,<-L9,<-L9,<-L9,<-L9,HX a,HY]
theorem WH{p:List Rat}(z:aj p):cT 0 p=p:=tZ (dh z) z λx=>by rw[dY];grind
theorem Cc.fall{p:List Rat}{C:List (List Rat)}{lo hi:Rat}(P:Rp p)(h:Cc p C)(a:lo<hi):eE C hi<=eE C lo:=by obtain⟨s,l,rfl,B,S⟩:=h;exact S.fall a (B.const P S)
theorem Cc.few{p:List Rat}{C:List (List Rat)}(P:Rp p)(h:Cc p C)(x:Rat):eE C x+1<=p.length:=by obtain⟨s,l,rfl,B,S⟩:=h;obtain⟨R,b⟩:=B.len P;have c:=S.len R.gP;have a:eE (s::aX s::l) x<=_:=Nd (ev x s) ((aX s::l).map (ev x));rw[Ap,A6]at a;have:=gO s;have:=R.l2;lia
theorem t8:∀(l:List Rat)(b c:Rat),b≠0->c≠0->l.getLast?=some c->(nj b l+df b c)%2=0
 |[],b,c,_,_,h=>by cases h
 |[x],b,c,d,a,h=>by have h:x=c:=Kt h;rw[h,jX a d];show(df b c+0+df b c)%2=0;lia
 |x::y::l,b,c,d,a,h=>by
  rw[SZ]at h;by_cases f:x=0
  .rw[f,pF];exact t8 (y::l) b c d a h
  .rw[jX f d];have:=t8 (y::l) x c f a h;have e:(df b x+df x c+df b c)%2=0:=by unfold df;by_cases j:0<b<;>by_cases i:0<x<;>by_cases g:0<c<;>simp[j,i,g]
   lia
theorem Cc.odd{p:List Rat}{C:List (List Rat)}{lo hi:Rat}(P:Rp p)(h:Cc p C)(K:∀d,Fin d->DQ d (cQ p)->DQ d (cQ (aX p))->Un d)(o:ev lo p*ev hi p≠0):ev lo p*ev hi p<0↔(eE C lo+eE C hi)%2=1:=by
 obtain⟨s,l,rfl,B,S⟩:=h;obtain⟨c,Q,N⟩:=B.const P S;obtain⟨X,ns,l',g,j,U,M,H,e⟩:=B;obtain⟨g',D,t,ng,G⟩:=U.last (di P.z) P.gP;rw[M]at D;cases D;have F:=z3 t (K _ G.fin G.l G.r);obtain⟨y,rfl⟩:=d5.mp F;have E:y≠0:=t y rfl;have w:∀x,ev x p=j*y*ev x s:=λx=>by obtain⟨d,Y,A⟩:=aY ((aD s).mul (aD [y]));rw[pM x j (a:=d) (b:=p) (λk=>by rw[e k,A]),nE x (q:=s) (b:=[y]) (c:=d) (λk=>by rw[A])];show j*(ev x s*(y+x*0))=_;grind
 have n:∀x,ev x s≠0->(eE (s::aX s::l) x+df (ev x s) c)%2=0:=λx v=>by unfold eE;rw[L9,pG v];refine t8 _ _ c v Q ?_;rw[Ya,N];show some (c+x*0)=_;congr 1;grind
 have m0:j*y≠0:=λz=>by
  rcases GM.mp z with z|z
  .exact H z
  .exact E z
 rw[w lo,w hi]at o⊢;generalize j*y=m at*;have T:ev lo s≠0:=λz=>o (by rw[z];grind);have R:ev hi s≠0:=λz=>o (by rw[z];grind);have p1:=n lo T;have Z:=n hi R;generalize ev lo s=a at*;generalize ev hi s=b at*;have u:0<m*m:=by
  by_cases h:0<m
  .exact Jn h h
  .have:=Jn (show 0< -m by grind) (show 0< -m by grind);grind
 have O:m*a*(m*b)=m*m*(a*b):=by grind
 have J:m*a*(m*b)<0↔a*b<0:=by
  rw[O];constructor
  .intro h;apply Fk;intro k;have:=iC (Y2 u) (show 0<=a*b by grind);grind
  .intro h;have:=Jn u (show 0< -(a*b) by grind);grind
 have I:a*b<0↔df a b=1:=by
  unfold df;by_cases i:0<a<;>by_cases f:0<b
  .have:=Jn i f;simp[i,f];grind
  .have:=Jn i (show 0< -b by grind);simp[i,f];grind
  .have:=Jn (show 0< -a by grind) f;simp[i,f];grind
  .have:=Jn (show 0< -a by grind) (show 0< -b by grind);simp[i,f];grind
 have i3:(df a c+df b c+df a b)%2=0:=by unfold df;by_cases i:0<a<;>by_cases f:0<b<;>by_cases L:0<c<;>simp[i,f,L]
 have i4:df a b<=1:=by unfold df;split<;>split<;>decide
 rw[J,I];lia
end Num
namespace Num
noncomputable def qI(ns:List Int):List Rat:=ns.map λz:Int=>(z:Rat)
theorem b8(ns:List Int):(qI ns).length=ns.length:=Ap _
theorem dI(ns:List Int)(k:Nat):cQ (qI ns) k=((ns.getD k 0:Int):Rat):=by show(ns.map _).getD k 0=_;rw[AC,AC,DL];cases ns[k]?<;>rfl
noncomputable def t9(A:List Int)(a:List Rat):Prop:=∃b:Rat,0<b/\a.length=A.length/\∀k,cQ a k=b*((A.getD k 0:Int):Rat)
noncomputable def Pz:List (List Int)->List (List Rat)->Prop
 |[],[]=>True
 |A::L,a::l=>t9 A a/\Pz L l
 |_,_=>False
theorem Pz.app:∀{L:List (List Int)}{l:List (List Rat)}{A:List Int}{a:List Rat},Pz L l->t9 A a->Pz (L++[A]) (l++[a])
 |[],[],_,_,_,h=>⟨h,trivial⟩
 |B::L,b::l,_,_,⟨d,c⟩,h=>⟨d,c.app h⟩
theorem Pz.last:∀{L:List (List Int)}{l:List (List Rat)}{a:List Rat},Pz L l->l.getLast?=some a->∃A,L.getLast?=some A/\t9 A a
 |[],[],a,_,e=>by cases e
 |[A],[b],a,⟨h1,_⟩,e=>by
  cases e;exact⟨A,rfl,h1⟩
 |A::f::L,b::d::l,a,⟨_,c⟩,e=>by rw[SZ]at e⊢;exact Pz.last c e
noncomputable def Gy(a:Int)(α:Rat):Prop:=(a=1/\0<α)\/(a= -1/\α<0)
theorem Gy.row{a:Int}{c:Rat}{B:List Int}{b:List Rat}(h:Gy a c)(d:b.length=B.length)(e:∀k,cQ b k=c*((B.getD k 0:Int):Rat)):t9 (B.map (a*·)) b:=by
 have g:∀k,(B.map (a*·)).getD k 0=a*B.getD k 0:=λk=>Sub.map_getD (f:=λy=>a*y) (Oy a) k;rcases h with⟨rfl,h⟩|⟨rfl,h⟩
 .refine⟨c,h,by rw[Ap];exact d,λk=>?_⟩;rw[g,my];exact e k
 .refine⟨-c,by grind,by rw[Ap];exact d,λk=>?_⟩;rw[g,e k,FC];have:((-1:Int):Rat)= -1:=rfl;rw[this];grind
theorem En{κ c:Int}(f:c≠0):(0<A3 κ c↔0<κ*c)/\(A3 κ c<0↔κ*c<0):=by
 have g:(c:Rat)≠0:=λz=>f (Dx.mp z);have e:A3 κ c*((c:Rat)*(c:Rat))=((κ*c:Int):Rat):=by rw[hU,FC];grind
 have d:0<(c:Rat)*(c:Rat):=by
  rcases P5 f with h|h
  .have:(c:Rat)<0:=L1.mpr h;have:=Jn (a:= -(c:Rat)) (b:= -(c:Rat)) (by grind) (by grind);grind
  .have:0<(c:Rat):=kf.mpr h;exact Jn this this
 constructor
 .constructor
  .intro h;have:=Jn h d;rw[e]at this;exact kf.mp this
  .intro h;have h:(0:Rat)<((κ*c:Int):Rat):=kf.mpr h;rw[<-e]at h;exact(nr d).mp h
 .constructor
  .intro h;have:=Jn (a:= -A3 κ c) (by grind) d;have:((κ*c:Int):Rat)<0:=by rw[<-e];grind
   exact L1.mp this
  .intro h;have h:((κ*c:Int):Rat)<0:=L1.mpr h;rw[<-e]at h;have:=(nr (a:= -A3 κ c) d).mp (by grind);grind
theorem Gy.next{f κ c:Int}{α:Rat}(h:Gy f α)(l:κ≠0)(k:c≠0):Gy (if decide (κ>0)=decide (c>0)then-f else f) (-(α*A3 κ c)):=by
 obtain⟨j,i⟩:=En (κ:=κ) k;have d:∀{x y:Rat},0<x->0<y->0<x*y:=λn m=>Jn n m;have g:(decide (κ>0)=decide (c>0)/\0<A3 κ c)\/(¬decide (κ>0)=decide (c>0)/\A3 κ c<0):=by
  rcases P5 l with a|a<;>rcases P5 k with b|b
  .refine .inl ⟨by rw[Ki (by lia),Ki (by lia)],j.mpr (Int.mul_pos_of_neg_of_neg a b)⟩
  .refine .inr ⟨by rw[Ki (by lia),He b];decide,i.mpr (Int.mul_neg_of_neg_of_pos a b)⟩
  .refine .inr ⟨by rw[He a,Ki (by lia)];decide,i.mpr (Int.mul_neg_of_pos_of_neg a b)⟩
  .refine .inl ⟨by rw[He a,He b],j.mpr (wx a b)⟩
 rcases g with⟨e,s⟩|⟨e,s⟩
 .rw[Bi e];rcases h with⟨rfl,h⟩|⟨rfl,h⟩
  .exact .inr ⟨rfl,by have:=d h s;grind⟩
  .exact .inl ⟨rfl,by have:=d (x:= -α) (by grind) s;grind⟩
 .rw[BM e];rcases h with⟨rfl,h⟩|⟨rfl,h⟩
  .exact .inl ⟨rfl,by have:=d h (y:= -A3 κ c) (by grind);grind⟩
  .exact .inr ⟨rfl,by have:=d (x:= -α) (y:= -A3 κ c) (by grind) (by grind);grind⟩
noncomputable def jZ(b:Int):List Int->Nat
 |[]=>0
 |x::l=>if x=0 then jZ b l else(if b≠0/\¬decide (x>0)=decide (b>0)then 1 else 0)+jZ x l
noncomputable def Gz(z:Int)(r:Rat):Prop:=∃a:Rat,0<a/\r=a*(z:Rat)
theorem Gz.pos{z:Int}{r:Rat}(h:Gz z r):0<r↔0<z:=by obtain⟨b,a,rfl⟩:=h;rw[UE a];exact kf
theorem Gz.zero{z:Int}{r:Rat}(h:Gz z r):r=0↔z=0:=by
 obtain⟨b,a,rfl⟩:=h;constructor
 .intro e;rcases GM.mp e with e|e
  .rw[e]at a;exact absurd a (by decide)
  .exact Dx.mp e
 .rintro rfl;exact Pv b
theorem Ab{f:List Int->Int}{g:List Rat->Rat}:∀{L:List (List Int)}{l:List (List Rat)}{b:Int}{c:Rat},Pz L l->(∀A∈L,∀a,t9 A a->Gz (f A) (g a))->Gz b c->nj c (l.map g)=jZ b (L.map f)
 |[],[],_,_,_,_,_=>rfl
 |A::L,a::l,b,c,⟨r,q⟩,h,n=>by
  have s:=h A FR a r;have o:=λ{b c}=>Ab (b:=b) (c:=c) q λB p=>h B (Ee _ p);show(if g a=0 then nj c (l.map g)else(if c=0 then 0 else df c (g a))+nj (g a) (l.map g))=if f A=0 then jZ b (L.map f)else(if b≠0/\¬decide (f A>0)=decide (b>0)then 1 else 0)+jZ (f A) (L.map f)
  rw[o n,o s];by_cases z:f A=0
  .rw[Bi z,Bi (s.zero.mpr z)]
  .rw[BM z,BM λe=>z (s.zero.mp e)];congr 1;by_cases j:b=0
   .rw[Bi (n.zero.mpr j),BM λe=>e.1 j]
   .rw[BM λe=>j (n.zero.mp e)];unfold df;have m:=s.pos;have k:=n.pos;by_cases i:0<f A<;>by_cases d:0<b
    .rw[Bi (k.mpr d),Bi (m.mpr i),BM];rintro⟨_,e⟩;exact e (by rw[He i,He d])
    .rw[BM λe=>d (k.mp e),Bi (m.mpr i),Bi];exact⟨j,by rw[He i,Ki d];decide⟩
    .rw[Bi (k.mpr d),BM λe=>i (m.mp e),Bi];exact⟨j,by rw[Ki i,He d];decide⟩
    .rw[BM λe=>d (k.mp e),BM λe=>i (m.mp e),BM];rintro⟨_,e⟩;exact e (by rw[Ki i,Ki d])
theorem Eo{t b:Int}{x:Rat}(r:0<b)(j:x*b=t){A:List Int}{a:List Rat}(h:t9 A a):Gz (wv t b A) (ev x a):=by
 obtain⟨c,l,k,e⟩:=h;have d:(0:Rat)<(b:Rat):=kf.mpr r;have g:c⁻¹≠0:=λz=>by have:=Ha c (by grind);rw[z]at this;grind
 have w:=La (t:=t) (b:=b) (B:=c⁻¹) (x:=x) (by grind) j g A a k.symm λi _=>by have:=e i;have m:a.getD i 0=c*((A.getD i 0:Int):Rat):=this;rw[m];have:=Ha c (by grind);grind
 have pw:∀n:Nat,0<(b:Rat)^n:=λn=>by
  induction n with
  |zero=>rw[tq];decide
  |succ n f=>rw[ik];exact Jn f d
 have p:=pw A.length;refine⟨((b:Rat)^A.length)⁻¹*(c*b),?_,?_⟩
 .exact Jn (dk.mpr p) (Jn l d)
 .have q:=Ha ((b:Rat)^A.length) (by grind);have o:=Ha c (by grind);generalize(b:Rat)^A.length=P at*;generalize((wv t b A:Int):Rat)=V at*;have:P⁻¹*(c*b)*V=P⁻¹*c*(V*b):=by grind
  rw[this,w];have:P⁻¹*c*(P*ev x a*c⁻¹)=(P⁻¹*P)*(c⁻¹*c)*ev x a:=by grind
  rw[this,q,o];grind
theorem Ac{t b:Int}{x:Rat}(e:0<b)(c:x*b=t){L:List (List Int)}{l:List (List Rat)}(h:Pz L l):eE l x=jZ 0 (L.map (wv t b)):=
 Ab h (λA _ a d=>Eo e c d) ⟨1,by decide,by decide+kernel⟩
end Num
namespace Sub
end Sub
namespace Sub
open Num
noncomputable def one:Nat->Int:=λi=>if i=0 then 1 else 0
end Sub
namespace Num
open Sub
end Num
namespace Sub
open Num
end Sub
namespace Num
open Sub
theorem WI{a b c:Int}{x P N K:Nat}(e:c=a+b)(j:c.natAbs<N)(i:N<=P)(g:b.natAbs<=K)(f:K<=31*P)(d:x<=a.natAbs):x<32*P:=by have h:=sk c b;rw[e,Int.add_sub_cancel,<-e]at h;lia
theorem Ad{Z g ns:List Int}{n q:Nat}(e:∀k,ns.getD k 0=jb (co Z) (co g) k)(l:ns.length+1=Z.length+g.length)(r:ns.length<=30)(t:0<g.length)(o:g.getD (g.length -1) 0≠0)(c:∀x∈ns,x.natAbs<2^n)(d:∀x∈g,x.natAbs<2^q):
 ∀s i,Z.length<=i+s->(Z.getD i 0).natAbs<2^(n+s*(q+5))
 |0,i,h=>by rw[outI (by lia)];exact T1 (by decide)
 |s+1,i,h=>by
  by_cases hi:Z.length<=i
  .rw[outI hi];exact T1 (by decide)
  have ih:=Ad e l r t o c d s;have b:=e (i+(g.length -1));generalize E:i+(g.length -1)=k at b;have f:∀(l:List Int)(m:Nat),(∀x∈l,x.natAbs<2^m)->∀j,(l.getD j 0).natAbs<2^m:=λl m h j=>by
   by_cases a:j<l.length
   .exact h _ (getD_mem' a)
   .rw[outI (by lia)];exact T1 (by decide)
  have p:jb (co Z) (co g) k=Z.getD i 0*g.getD (g.length -1) 0+sm (λj=>if j=i then 0 else Z.getD j 0*g.getD (k -j) 0) (k+1):=by
   unfold jb co;have u:∀j,Z.getD j 0*g.getD (k -j) 0=(if j=i then Z.getD j 0*g.getD (k -j) 0 else 0)+(if j=i then 0 else Z.getD j 0*g.getD (k -j) 0):=λj=>by
    by_cases z:j=i
    .rw[Bi z,Bi z,h7]
    .rw[BM z,BM z,oo]
   rw[iz (k+1) λj _=>u j,yb,tM i (λj=>Z.getD j 0*g.getD (k -j) 0),Bi (by lia),show k -i=g.length -1 by lia]
  have v:(sm (λj=>if j=i then 0 else Z.getD j 0*g.getD (k -j) 0) (k+1)).natAbs<=(k+1)*2^(n+s*(q+5)+q):=by
   refine D8 _ λj a=>?_;by_cases z:j=i
   .rw[Bi z];exact KB _
   .rw[BM z,Fh,XB 2 _ q];by_cases D:j<i
    .rw[outI (ns:=g) (k:=k -j) (by lia)];exact KB _
    .exact GT (Q1 (ih j (by lia))) (Q1 (f g q d _))
  have C:=f ns n c k;have B:(Z.getD i 0).natAbs<=(Z.getD i 0*g.getD (g.length -1) 0).natAbs:=by rw[Fh];exact Xt _ (by lia)
  have A:(2:Nat)^n<=2^(n+s*(q+5)+q):=Hk (by decide) (by lia);have y:(k+1)*2^(n+s*(q+5)+q)<=31*2^(n+s*(q+5)+q):=Pl _ (by lia);have w:(2:Nat)^(n+(s+1)*(q+5))=32*2^(n+s*(q+5)+q):=by rw[Qw,show n+(s*(q+5)+(q+5))=n+s*(q+5)+q+5 by lia,XB 2 _ 5,X2]
  rw[w];exact WI (b.trans p) C A v y B
theorem Ng{g m f:Pq}{κ:Rat}(e:∀k,g k=κ*m k)(h:DQ g f):DQ m f:=by obtain⟨s,b,a⟩:=h;refine⟨λk=>κ*s k,b.CD κ,λk=>?_⟩;rw[a k,bq,aZ (λ_=>rfl) e,dP]
theorem HZ{p:List Rat}{l:List (List Rat)}{c:Rat}(P:Rp p)(S:jW p (aX p) l)(h:(aX p::l).getLast?=some [c])(a:c≠0):Cc p (p::aX p::l):=by
 refine⟨p,l,rfl,⟨P.z,P.ne,l,[c],c⁻¹,S,h,λz=>?_,λk=>?_⟩,S⟩
 .have:=Ha c a;rw[z,X1]at this;exact absurd this (by decide+kernel)
 .have e:∀i,cQ [c] i=c*(if i=0 then 1 else 0):=λi=>by
   cases i with
   |zero=>show c=c*1;grind
   |succ i=>show(0:Rat)=c*0;grind
  rw[aZ (λ_=>rfl) e,dP,bK,pq,<-PP,Ha c a,QR]
theorem iX{ns:List Int}(h:ns.getD (ns.length -1) 0≠0):aj (qI ns):=λx a=>by
 rw[Kk,b8]at a;have e:cQ (qI ns) (ns.length -1)=x:=by show(qI ns).getD _ 0=x;rw[AC,a];rfl
 rw[dI]at e;rw[<-e];exact λz=>h (Dx.mp z)
theorem t9.ne{A:List Int}{a:List Rat}(h:t9 A a)(z:aj a)(n:a≠[]):A.getD (A.length -1) 0≠0:=λe=>by obtain⟨b,g,c,f⟩:=h;have:=ja z (HI.mpr n);have d:a.getD (a.length -1) 0=b*((A.getD (a.length -1) 0:Int):Rat):=f (a.length -1);rw[c,e]at d;rw[c]at this;refine this (d.trans ?_);exact Pv b
theorem Nh{ns A ms:List Int}{c:Int}{l:List (List Rat)}{g:List Rat}(K:2<=ns.length)(j:ns.getD (ns.length -1) 0≠0)(S:jW (qI ns) (aX (qI ns)) l)(t:(aX (qI ns)::l).getLast?=some g)(v:t9 A g)(U:0<c)(O:∀x∈A,c∣x)(Q:∀d:Int,(∀x∈A,d∣x)->d∣c)(y:ms=A.map (·/c)):
 ∃Z:List Int,(0<ms.length/\ms.getD (ms.length -1) 0≠0)/\(0<Z.length/\ns.length+1=Z.length+ms.length/\(∀k,ns.getD k 0=jb (co Z) (co ms) k))/\Bp (qI ns) (qI Z)/\Z.getD (Z.length -1) 0≠0:=by
 have P:Rp (qI ns):=⟨iX j,by rw[b8];exact K⟩;obtain⟨Y,D,H,q,G⟩:=S.last (di P.z) P.gP;rw[t]at D;cases D;have J:=v.ne H q;obtain⟨f,w,N,b⟩:=v;have r:0<A.length:=by rw[<-N];exact HI.mpr q
 have a:ms.length=A.length:=by rw[y,Ap]
 have m:∀k,A.getD k 0=c*ms.getD k 0:=λk=>by
  rw[y];by_cases h:k<A.length
  .rw[AC,AC,DL,B1 h];show A[k]=c*(A[k]/c);rw[wy (O _ (Sr h))]
  .rw[outI (by lia),outI (by rw[Ap];lia),Oy]
 have o:ms.getD (ms.length -1) 0≠0:=λe=>J (by rw[m,<-a,e,Oy]);have one:∀d:Int,(∀x∈ms,d∣x)->d∣1:=λd X=>by
  have:c*d∣c:=Q _ λx L=>by
   obtain⟨k,b,rfl⟩:=NA L;have e:=m k;rw[AC,B1 b]at e;have e:A[k]=c*ms.getD k 0:=e;rw[e];have s:k<ms.length:=by rw[a];exact b
   refine x5 _ (X _ ?_);rw[AC,B1 s];exact Sr s
  rw[show c=c*1 by rw[cm]]at this;rw[cm]at this;obtain⟨u,M⟩:=this;exact⟨u,QQ (Int.ne_of_gt U) (by rw[cm,<-Wp];exact M)⟩
 have B:∀k,cQ g k=(f*(c:Rat))*cz ms k:=λk=>by rw[b k,m k,FC,PP]
 have R:DQ (cz ms) (cz ns):=(Ng B G.l).ext λk=>(dI ns k).symm;obtain⟨Z,I,F,p,E⟩:=HR (by lia) j (by rw[a];exact r) o one R;have n:Z.getD (Z.length -1) 0≠0:=λe=>j (by rw[E,e,eD]);have T:(c:Rat)≠0:=λz=>by have:=Dx.mp z;lia
 have C:f*(c:Rat)≠0:=λz=>by
  rcases GM.mp z with z|z
  .rw[z]at w;exact absurd w (by decide)
  .exact T z
 refine⟨Z,⟨by rw[a];exact r,o⟩,⟨I,F,p⟩,⟨iX n,λe=>?_,l,g,(f*(c:Rat))⁻¹,S,t,λz=>?_,λk=>?_⟩,n⟩
 .have:=b8 Z;rw[e]at this;have:0=Z.length:=this;lia
 .have:=Ha _ C;rw[z]at this;rw[X1]at this;exact absurd this (by decide+kernel)
 .rw[aZ (λ_=>rfl) B,dP,<-PP,Ha _ C,QR,dI,p k,<-sj];exact aZ (λi=>(dI Z i).symm) (λ_=>rfl) k
end Num
namespace VL
open PySem PySem.Spec PyProof.Rows L2
theorem ff{C:Prop}(h:false=true):C:=Bool.noConfusion h
theorem nn{α:Type}{a:α}{C:Prop}(h:none=some a):C:=Option.noConfusion rfl (heq_of_eq h)
inductive W where
 |aV|bl (b:Bool)|int (i:Int)|str (x:Str)|ty (n:String)|cls (C:Addr)|err (C:Addr)
 |tup (l:List W)|lst (l:List W)|dct (ks vs:List W)|obj (C:Addr) (fs:List Str) (vs:List W)|gQ (ns:List Int)
theorem W.Ae{a b:Int}(h:W.int a=.int b):a=b:=by cases h;rfl
theorem W.S5{a b:List W}(h:W.tup a=.tup b):a=b:=by cases h;rfl
theorem W.Ep{a b:List W}(h:W.lst a=.lst b):a=b:=by cases h;rfl
noncomputable def Af:HO->Bool
 |.lst _|.ins _ _ _|.dK _|.dT _|.set _ _=>true
 |_=>false
noncomputable def WJ:Key->W
 |.inl i=>.int i
 |.inr x=>.str x
noncomputable def yi(K:Frag)(C:Addr)(a:List Str):Prop:=GY K C/\a.length<1000/\a.Nodup/\∀x∈a,jQ K C x
mutual
noncomputable def Rep(K:Frag)(A:Addr->Prop)(H:Hp):W->V->Prop
 |.aV,v=>v=.aV
 |.bl b,v=>v=.bl b
 |.int i,v=>v=.int i
 |.str x,v=>v=.str x
 |.ty n,v=>v=.ty n
 |.cls C,v=>v=.ref C
 |.err C,v=>∃a,v=.ref a/\H a=some (Wi a C)/\¬A a
 |.tup l,v=>∃p vs,v=.ref p/\H p=some (.tup vs)/\af K A H l vs
 |.lst l,v=>∃p vs,v=.ref p/\¬A p/\Rd H p (.lst vs)/\af K A H l vs
 |.dct f d,v=>∃p c,v=.ref p/\¬A p/\H p=some (.dK c)/\f=c.map (λx=>WJ x.1)/\af K A H d (c.map (·.2))
 |.obj C e d,v=>∃p g vs,v=.ref p/\¬A p/\H p=some (.ins C g (e.zip vs))/\vs.length=e.length/\yi K C e/\af K A H d vs
 |.gQ ns,v=>∃p,v=.ref p/\((∃o,H p=some (.vj o (.lst (ns.map V.int))))\/ie K (λ_=>none) p (ns.map V.int))
noncomputable def af(K:Frag)(A:Addr->Prop)(H:Hp):List W->List V->Prop
 |[],vs=>vs=[]
 |w::a,vs=>∃v r,vs=v::r/\Rep K A H w v/\af K A H a r
end
section
variable{K:Frag}{A B:Addr->Prop}{H H':Hp}
theorem aq.rd{p:Addr}{u:HO}(s:aq H H')(h:Rd H p u):Rd H' p u:=by
 rcases h with h|⟨o,h⟩
 .exact .inl (s _ _ h)
 .exact .inr ⟨o,s _ _ h⟩
noncomputable def ua(B:Addr->Prop)(H H':Hp):Prop:=∀p o,H p=some o->(Af o=true/\B p)\/H' p=some o
theorem ua.un{p:Addr}{o:HO}(h:ua A H H')(e:H p=some o)(n:Af o=true->¬A p):H' p=some o:=by
 rcases h p o e with⟨z,y⟩|z
 .exact(n z y).elim
 .exact z
mutual
theorem Rep.chg(h:ua A H H')(d:∀p o,H p=some o->B p->A p):∀(w:W){v:V},Rep K A H w v->Rep K B H' w v
 |.aV,_,r=>by dsimp only[Rep]at r⊢;exact r
 |.bl _,_,r=>by dsimp only[Rep]at r⊢;exact r
 |.int _,_,r=>by dsimp only[Rep]at r⊢;exact r
 |.str _,_,r=>by dsimp only[Rep]at r⊢;exact r
 |.ty _,_,r=>by dsimp only[Rep]at r⊢;exact r
 |.cls _,_,r=>by dsimp only[Rep]at r⊢;exact r
 |.err C,v,r=>by obtain⟨a,e,b,c⟩:=r;exact⟨a,e,h.un b (λz=>by cases z),λz=>c (d a _ b z)⟩
 |.tup l,v,r=>by obtain⟨p,f,e,b,c⟩:=r;exact⟨p,f,e,h.un b (λz=>by cases z),af.chg h d l c⟩
 |.lst l,v,r=>by
  dsimp only[Rep]at r⊢;obtain⟨p,f,e,n,b,c⟩:=r;refine⟨p,f,e,λz=>?_,?_,af.chg h d l c⟩
  .rcases b with b|⟨o,b⟩<;>exact n (d p _ b z)
  .rcases b with b|⟨o,b⟩
   .exact .inl (h.un b λ_=>n)
   .exact .inr ⟨o,h.un b λz=>by cases z⟩
 |.dct s g,v,r=>by obtain⟨p,i,e,n,b,c,j⟩:=r;exact⟨p,i,e,λz=>n (d p _ b z),h.un b λ_=>n,c,af.chg h d g j⟩
 |.obj C t g,v,r=>by obtain⟨p,m,f,e,n,b,c,k,j⟩:=r;exact⟨p,m,f,e,λz=>n (d p _ b z),h.un b λ_=>n,c,k,af.chg h d g j⟩
 |.gQ q,v,r=>by obtain⟨p,e,b⟩:=r;exact⟨p,e,b.imp (by rintro⟨o,z⟩;exact⟨o,h.un z λz=>by cases z⟩) id⟩
theorem af.chg(h:ua A H H')(a:∀p o,H p=some o->B p->A p):∀(l:List W){vs:List V},af K A H l vs->af K B H' l vs
 |[],_,r=>by dsimp only[af]at r⊢;exact r
 |w::l,vs,r=>by obtain⟨v,b,e,d,c⟩:=r;exact⟨v,b,e,Rep.chg h a w d,af.chg h a l c⟩
end
theorem ua.same(s:aq H H'):ua A H H':=λ_ _ e=>.inr (s _ _ e)
theorem ua.put{p:Addr}{a o:HO}(b:H p=some a)(c:Af a=true)(d:A p):ua A H (upd H p o):=λq u e=>by
 by_cases n:q=p
 .subst n;rw[b]at e;cases e;exact .inl ⟨c,d⟩
 .exact .inr (by rw[ak n];exact e)
theorem Rep.mv(s:aq H H')(a:∀p o,H p=some o->B p->A p)(w:W){v:V}(h:Rep K A H w v):Rep K B H' w v:=Rep.chg (.same s) a w h
theorem af.mv(s:aq H H')(a:∀p o,H p=some o->B p->A p)(l:List W){vs:List V}(h:af K A H l vs):af K B H' l vs:=af.chg (.same s) a l h
theorem Rep.same{w:W}{v:V}(s:aq H H')(h:Rep K A H w v):Rep K A H' w v:=Rep.mv s (λ_ _ _ z=>z) w h
theorem af.same{l:List W}{vs:List V}(s:aq H H')(h:af K A H l vs):af K A H' l vs:=af.mv s (λ_ _ _ z=>z) l h
theorem Rep.less{w:W}{v:V}(a:∀p,B p->A p)(h:Rep K A H w v):Rep K B H w v:=Rep.mv (aq.refl H) (λp _ _ z=>a p z) w h
theorem af.less{l:List W}{vs:List V}(a:∀p,B p->A p)(h:af K A H l vs):af K B H l vs:=af.mv (aq.refl H) (λp _ _ z=>a p z) l h
theorem af.put{p:Addr}{a:List V}{o:HO}(b:H p=some (.lst a))(c:A p)(l:List W){vs:List V}(h:af K A H l vs):af K A (upd H p o) l vs:=af.chg (.put b rfl c) (λ_ _ _ z=>z) l h
theorem af.nil:af K A H [] []:=by dsimp only[af]
theorem af.cons{w:W}{v:V}{l:List W}{vs:List V}(b:Rep K A H w v)(a:af K A H l vs):af K A H (w::l) (v::vs):=by dsimp only[af];exact⟨v,vs,rfl,b,a⟩
theorem af.nil_inv{vs:List V}(h:af K A H [] vs):vs=[]:=by dsimp only[af]at h;exact h
theorem af.cons_inv{w:W}{l:List W}{vs:List V}(h:af K A H (w::l) vs):∃v r,vs=v::r/\Rep K A H w v/\af K A H l r:=by dsimp only[af]at h;exact h
theorem af.len:∀{l:List W}{vs:List V},af K A H l vs->vs.length=l.length
 |[],vs,h=>by rw[h.nil_inv];rfl
 |w::l,vs,h=>by obtain⟨v,r,rfl,_,a⟩:=h.cons_inv;rw[A6,A6,a.len]
theorem af.app:∀{l m:List W}{vs us:List V},af K A H l vs->af K A H m us->af K A H (l++m) (vs++us)
 |[],m,vs,us,h,k=>by rw[h.nil_inv];exact k
 |w::l,m,vs,us,h,k=>by obtain⟨v,r,rfl,b,a⟩:=h.cons_inv;exact .cons b (a.app k)
theorem af.get:∀{l:List W}{vs:List V}{i:Nat}{w:W},af K A H l vs->l[i]?=some w->∃v,vs[i]?=some v/\Rep K A H w v
 |[],_,_,_,_,e=>by simp at e
 |x::l,vs,0,w,h,e=>by obtain⟨v,r,rfl,b,a⟩:=h.cons_inv;simp at e;subst e;exact⟨v,rfl,b⟩
 |x::l,vs,i+1,w,h,e=>by obtain⟨v,r,rfl,b,a⟩:=h.cons_inv;obtain⟨u,d,c⟩:=a.get (i:=i) (by simpa using e);exact⟨u,by simpa using d,c⟩
theorem af.set:∀{l:List W}{vs:List V}{i:Nat}{w:W}{v:V},af K A H l vs->Rep K A H w v->af K A H (l.set i w) (vs.set i v)
 |[],_,_,_,_,h,_=>by rw[h.nil_inv];exact .nil
 |x::l,vs,0,w,v,h,e=>by obtain⟨c,r,rfl,b,a⟩:=h.cons_inv;exact .cons e a
 |x::l,vs,i+1,w,v,h,e=>by obtain⟨c,r,rfl,b,a⟩:=h.cons_inv;exact .cons b (a.set e)
theorem af.take:∀{l:List W}{vs:List V}(n:Nat),af K A H l vs->af K A H (l.take n) (vs.take n)
 |_,_,0,_=>.nil
 |[],vs,n+1,h=>by rw[h.nil_inv];exact .nil
 |x::l,vs,n+1,h=>by obtain⟨c,r,rfl,b,a⟩:=h.cons_inv;exact .cons b (a.take n)
theorem af.drop:∀{l:List W}{vs:List V}(n:Nat),af K A H l vs->af K A H (l.drop n) (vs.drop n)
 |_,_,0,h=>h
 |[],vs,n+1,h=>by rw[h.nil_inv];exact .nil
 |x::l,vs,n+1,h=>by obtain⟨b,r,rfl,c,a⟩:=h.cons_inv;exact a.drop n
theorem af.dropLast{l:List W}{vs:List V}(h:af K A H l vs):af K A H l.dropLast vs.dropLast:=by rw[WK,WK,h.len];exact h.take _
theorem af.rev:∀{l:List W}{vs:List V},af K A H l vs->af K A H l.reverse vs.reverse
 |[],vs,h=>by rw[h.nil_inv];exact .nil
 |x::l,vs,h=>by obtain⟨c,r,rfl,b,a⟩:=h.cons_inv;rw[hV,hV];exact a.rev.app (.cons b .nil)
theorem af.rep{l:List W}{vs:List V}(h:af K A H l vs):∀n:Nat,af K A H (A2 n l).flatten (A2 n vs).flatten
 |0=>.nil
 |n+1=>by rw[G9,G9,Gm,Gm];exact h.app (h.rep n)
theorem af.ints{ns:List Int}:∀{vs:List V},af K A H (ns.map W.int) vs->vs=ns.map V.int:=by
 induction ns with
 |nil=>intro vs h;exact h.nil_inv
 |cons n ns b=>intro vs h;obtain⟨v,r,rfl,a,c⟩:=h.cons_inv;dsimp only[Rep]at a;rw[a,b c];rfl
theorem af.Ia(ns:List Int):af K A H (ns.map W.int) (ns.map V.int):=by
 induction ns with
 |nil=>exact .nil
 |cons n ns a=>exact .cons (by dsimp only[Rep]) a
theorem af.Yl{a:List Bool}:∀{vs:List V},af K A H (a.map W.bl) vs->vs=a.map V.bl:=by
 induction a with
 |nil=>intro vs h;exact h.nil_inv
 |cons n e c=>intro vs h;obtain⟨v,r,rfl,b,d⟩:=h.cons_inv;dsimp only[Rep]at b;rw[b,c d];rfl
end
end VL
set_option genSizeOf false
set_option genInjectivity false
namespace VL
open PySem PySem.Spec
open PyProof.Rows hiding St
open L2
inductive Md where
 |s|f|t (ms:List Md)|o (fs:List Str) (ms:List Md)
 |io (m:Md)
 |ls (m:Md)
noncomputable def gv(P:W->V->List Addr->Prop):List W->List V->List Addr->Prop
 |[],vs,F=>vs=[]/\F=[]
 |w::d,vs,F=>∃v a c b,vs=v::a/\F=c++b/\P w v c/\gv P d a b
mutual
noncomputable def Fp(K:Frag)(B:Addr->Prop)(H:Hp):Md->W->V->List Addr->Prop
 |.s,w,v,F=>F=[]/\Rep K B H w v
 |.f,w,v,F=>∃a p vs,w=.lst a/\v=.ref p/\F=[p]/\H p=some (.lst vs)/\af K B H a vs
 |.t ms,w,v,F=>∃a p vs,w=.tup a/\v=.ref p/\H p=some (.tup vs)/\eY K B H ms a vs F
 |.o b ms,w,v,F=>∃C c a p vs F',w=.obj C b a/\v=.ref p/\F=p::F'/\H p=some (.ins C c (b.zip vs))/\vs.length=b.length/\yi K C b/\eY K B H ms a vs F'
 |.io _,_,_,_=>False
 |.ls m,w,v,F=>∃a p vs F',w=.lst a/\v=.ref p/\F=p::F'/\H p=some (.lst vs)/\gv (Fp K B H m) a vs F'
noncomputable def eY(K:Frag)(B:Addr->Prop)(H:Hp):List Md->List W->List V->List Addr->Prop
 |[],b,vs,F=>b=[]/\vs=[]/\F=[]
 |m::ms,b,vs,F=>∃w c v a e d,b=w::c/\vs=v::a/\F=e++d/\Fp K B H m w v e/\eY K B H ms c a d
end
theorem gv.mono{P Q:W->V->List Addr->Prop}:∀{a:List W}{vs:List V}{F:List Addr},(∀w v F',(∀p∈F',p∈F)->P w v F'->Q w v F')->gv P a vs F->gv Q a vs F
 |[],_,_,_,h=>h
 |w::a,vs,F,k,⟨v,b,e,j,i,d,g,f⟩=>⟨v,b,e,j,i,d,k w v e (λp c=>by rw[d];exact Ta _ c) g,gv.mono (λw v F' h=>k w v F' λp c=>by rw[d];exact Hn _ (h p c)) f⟩
theorem gv.len{P:W->V->List Addr->Prop}:∀{a:List W}{vs:List V}{F:List Addr},gv P a vs F->vs.length=a.length
 |[],_,_,h=>by rw[h.1];rfl
 |w::a,vs,F,⟨v,b,i,g,d,f,e,c⟩=>by rw[d,A6,A6,gv.len c]
theorem gv.app{P:W->V->List Addr->Prop}:∀{b us:List W}{vs a:List V}{F G:List Addr},gv P b vs F->gv P us a G->gv P (b++us) (vs++a) (F++G)
 |[],us,vs,a,F,G,⟨e,d⟩,k=>by rw[e,d];exact k
 |w::b,us,vs,a,F,G,⟨v,c,i,h,e,d,g,f⟩,k=>⟨v,c++a,i,h++G,by rw[e];rfl,by rw[d,RF],g,gv.app f k⟩
noncomputable def pN(B G:Addr->Prop)(H H':Hp):Prop:=∀p o,H p=some o->(Af o=true/\B p/\¬G p)\/H' p=some o
section
variable{K:Frag}{A B G:Addr->Prop}{H H':Hp}
theorem pN.c(h:pN A G H H'):ua A H H':=λp o e=>(h p o e).imp (λz=>⟨z.1,z.2.1⟩) id
theorem pN.un{p:Addr}{o:HO}(h:pN A G H H')(e:H p=some o)(g:Af o=true->G p):H' p=some o:=by
 rcases h p o e with⟨z,_,y⟩|z
 .exact(y (g z)).elim
 .exact z
mutual
theorem Fp.chg(h:pN A G H H')(k:∀p o,H p=some o->B p->A p):∀(m:Md){w:W}{v:V}{F:List Addr},(∀p∈F,G p)->Fp K A H m w v F->Fp K B H' m w v F
 |.s,w,v,F,a,r=>by dsimp only[Fp]at r⊢;exact⟨r.1,Rep.chg h.c k w r.2⟩
 |.f,w,v,F,a,r=>by obtain⟨d,p,vs,j,i,b,g,e⟩:=r;exact⟨d,p,vs,j,i,b,h.un g (λ_=>a p (by rw[b];exact FR)),af.chg h.c k d e⟩
 |.t l,w,v,F,a,r=>by obtain⟨d,p,vs,j,i,g,e⟩:=r;exact⟨d,p,vs,j,i,h.un g (λz=>by cases z),eY.chg h k l a e⟩
 |.o I l,w,v,F,a,r=>by obtain⟨C,E,d,p,vs,u,j,i,b,g,e,x,D⟩:=r;exact⟨C,E,d,p,vs,u,j,i,b,h.un g (λ_=>a p (by rw[b];exact FR)),e,x,eY.chg h k l (λq n=>a q (by rw[b];exact Ee _ n)) D⟩
 |.io _,w,v,F,a,r=>G2 r
 |.ls m,w,v,F,a,r=>by obtain⟨d,p,vs,u,j,i,b,g,e⟩:=r;exact⟨d,p,vs,u,j,i,b,h.un g (λ_=>a p (by rw[b];exact FR)),e.mono λw v G y z=>Fp.chg h k m (λq n=>a q (by rw[b];exact Ee _ (y q n))) z⟩
theorem eY.chg(h:pN A G H H')(e:∀p o,H p=some o->B p->A p):∀(ms:List Md){a:List W}{vs:List V}{F:List Addr},(∀p∈F,G p)->eY K A H ms a vs F->eY K B H' ms a vs F
 |[],_,_,_,_,r=>by dsimp only[eY]at r⊢;exact r
 |m::ms,a,vs,F,f,r=>by obtain⟨w,g,v,b,q,n,l,k,d,j,i⟩:=r;exact⟨w,g,v,b,q,n,l,k,d,Fp.chg h e m (λp c=>f p (by rw[d];exact Ta _ c)) j,eY.chg h e ms (λp c=>f p (by rw[d];exact Hn _ c)) i⟩
end
theorem pN.same(s:aq H H'):pN A (λ_=>True) H H':=λ_ _ e=>.inr (s _ _ e)
theorem Fp.mv(s:aq H H')(a:∀p o,H p=some o->B p->A p)(m:Md){w:W}{v:V}{F:List Addr}(h:Fp K A H m w v F):Fp K B H' m w v F:=Fp.chg (.same s) a m (λ_ _=>trivial) h
theorem eY.mv(s:aq H H')(a:∀p o,H p=some o->B p->A p)(ms:List Md){w:List W}{v:List V}{F:List Addr}(h:eY K A H ms w v F):eY K B H' ms w v F:=eY.chg (.same s) a ms (λ_ _=>trivial) h
mutual
theorem Fp.rep(i:∀p,B p->A p):∀(m:Md){w:W}{v:V}{F:List Addr},(∀p∈F,¬B p)->Fp K A H m w v F->Rep K B H w v
 |.s,w,v,F,a,h=>by dsimp only[Fp]at h;exact h.2.less i
 |.f,w,v,F,a,h=>by obtain⟨b,p,vs,rfl,rfl,rfl,d,c⟩:=h;exact⟨p,vs,rfl,a p (FK.mpr rfl),.inl d,c.less i⟩
 |.t k,w,v,F,a,h=>by obtain⟨b,p,vs,rfl,rfl,d,c⟩:=h;exact⟨p,vs,rfl,d,eY.rep i k a c⟩
 |.o z k,w,v,F,a,h=>by obtain⟨C,x,b,p,vs,g,rfl,rfl,rfl,d,c,n,r⟩:=h;exact⟨p,x,vs,rfl,a p FR,d,c,n,eY.rep i k (λq e=>a q (Ee _ e)) r⟩
 |.io _,w,v,F,a,h=>G2 h
 |.ls m,w,v,F,a,h=>by
  obtain⟨b,p,vs,g,rfl,rfl,rfl,d,c⟩:=h;dsimp only[Rep];have u:∀(b:List W)(vs:List V)(g:List Addr),(∀q∈g,¬B q)->gv (Fp K A H m) b vs g->af K B H b vs:=λb=>by
   induction b with
   |nil=>rintro vs g _ ⟨rfl,_⟩;exact .nil
   |cons w b l=>rintro vs g a ⟨v,j,D,y,rfl,rfl,d,c⟩;exact .cons (Fp.rep i m (λq e=>a q (Ta _ e)) d) (l j y (λq e=>a q (Hn _ e)) c)
  exact⟨p,vs,rfl,a p FR,.inl d,u b vs g (λq e=>a q (Ee _ e)) c⟩
theorem eY.rep(d:∀p,B p->A p):∀(ms:List Md){a:List W}{vs:List V}{F:List Addr},(∀p∈F,¬B p)->eY K A H ms a vs F->af K B H a vs
 |[],_,_,_,_,h=>by obtain⟨rfl,rfl,_⟩:=h;exact .nil
 |m::ms,a,vs,F,c,h=>by obtain⟨w,i,v,e,k,j,rfl,rfl,rfl,g,f⟩:=h;exact .cons (Fp.rep d m (λp b=>c p (Ta _ b)) g) (eY.rep d ms (λp b=>c p (Hn _ b)) f)
end
mutual
theorem Fp.mu:∀(m:Md){w:W}{v:V}{F:List Addr},Fp K A H m w v F->∀p∈F,∃o,H p=some o/\Af o=true
 |.s,w,v,F,h,p,a=>by dsimp only[Fp]at h;rw[h.1]at a;cases a
 |.f,w,v,F,h,p,a=>by obtain⟨b,q,vs,_,_,rfl,c,_⟩:=h;rw[FK.mp a];exact⟨_,c,rfl⟩
 |.t g,w,v,F,h,p,a=>by obtain⟨b,q,vs,_,_,c,j⟩:=h;exact eY.mu g j p a
 |.o r g,w,v,F,h,p,a=>by
  obtain⟨C,u,b,q,vs,d,_,_,rfl,c,_,_,i⟩:=h;rcases GE.mp a with rfl|a
  .exact⟨_,c,rfl⟩
  .exact eY.mu g i p a
 |.io _,w,v,F,h,p,a=>G2 h
 |.ls m,w,v,F,h,p,a=>by
  obtain⟨b,q,vs,d,_,_,rfl,c,i⟩:=h;have l:∀(b:List W)(vs:List V)(d:List Addr),gv (Fp K A H m) b vs d->∀p∈d,∃o,H p=some o/\Af o=true:=λb=>by
   induction b with
   |nil=>rintro vs d ⟨_,rfl⟩ p a;cases a
   |cons w b k=>
    rintro vs d ⟨v,e,x,n,rfl,rfl,c,j⟩ p a;rcases KE.mp a with a|a
    .exact Fp.mu m c p a
    .exact k e n j p a
  rcases GE.mp a with rfl|a
  .exact⟨_,c,rfl⟩
  .exact l b vs d i p a
theorem eY.mu:∀(ms:List Md){b:List W}{vs:List V}{F:List Addr},eY K A H ms b vs F->∀p∈F,∃o,H p=some o/\Af o=true
 |[],_,_,_,h,p,a=>by dsimp only[eY]at h;rw[h.2.2]at a;cases a
 |m::ms,b,vs,F,h,p,a=>by
  obtain⟨w,f,v,c,i,g,_,_,rfl,e,d⟩:=h;rcases KE.mp a with a|a
  .exact Fp.mu m e p a
  .exact eY.mu ms d p a
end
inductive mG where
 |ix (n:Nat)|fl (n:Nat) (x:Str)
noncomputable def cP:W->List mG->Option W
 |w,[]=>some w
 |.tup l,.ix n::π=>match l[n]? with
  |some u=>cP u π
  |none=>none
 |.lst l,.ix n::π=>match l[n]? with
  |some u=>cP u π
  |none=>none
 |.obj _ _ l,.fl n _::π=>match l[n]? with
  |some u=>cP u π
  |none=>none
 |_,_=>none
noncomputable def setAt:W->List mG->W->W
 |_,[],u=>u
 |.tup l,.ix n::π,u=>match l[n]? with
  |some x=>.tup (l.set n (setAt x π u))
  |none=>.tup l
 |.lst l,.ix n::π,u=>match l[n]? with
  |some x=>.lst (l.set n (setAt x π u))
  |none=>.lst l
 |.obj C a l,.fl n _::π,u=>match l[n]? with
  |some x=>.obj C a (l.set n (setAt x π u))
  |none=>.obj C a l
 |w,_,_=>w
noncomputable def jC:Md->List mG->Option Md
 |m,[]=>some m
 |.t ms,.ix n::π=>match ms[n]? with
  |some m=>jC m π
  |none=>none
 |.o a ms,.fl n x::π=>if a[n]?=some x then(match ms[n]? with
  |some m=>jC m π
  |none=>none)else none
 |.ls m,.ix _::π=>jC m π
 |_,_=>none
noncomputable def vf(K:Frag)(H:Hp):V->List mG->V->Prop
 |v,[],u=>u=v
 |v,.ix n::π,u=>∃p vs x,v=.ref p/\(H p=some (.tup vs)\/H p=some (.lst vs))/\vs[n]?=some x/\vf K H x π u
 |v,.fl n f::π,u=>∃p vs x,v=.ref p/\(∃(C b:Addr)(a:List Str),H p=some (.ins C b (a.zip vs))/\vs.length=a.length/\yi K C a/\a[n]?=some f)/\vs[n]?=some x/\vf K H x π u
theorem kR{α:Type}:∀{l:List α}{n:Nat}{x:α},l[n]?=some x->l.set n x=l
 |[],_,_,e=>by cases e
 |y::l,0,x,e=>by cases e;rfl
 |y::l,n+1,x,e=>by rw[Xz,kR (by simpa using e)]
theorem eY.at:∀(ms:List Md){k:List W}{vs:List V}{F:List Addr}{n:Nat}{m:Md}{w:W},eY K A H ms k vs F->ms[n]?=some m->k[n]?=some w->
 ∃v d F' j,vs[n]?=some v/\F=d++F'++j/\Fp K A H m w v F'/\∀(H':Hp)(B:Addr->Prop) w' g i,Fp K B H' m w' g i->pN A (·∈d++j) H H'->(∀p o,H p=some o->B p->A p)->eY K B H' ms (k.set n w') (vs.set n g) (d++i++j)
 |[],_,_,_,n,m,w,_,e,_=>by cases e
 |m0::ms,k,vs,F,0,m,w,h,D,C=>by obtain⟨E,r,v,f,d,j,rfl,rfl,rfl,x,t⟩:=h;cases D;cases C;refine⟨v,[],d,j,rfl,by simp,x,λH' B w' g i y l q=>?_⟩;exact⟨w',r,g,f,i,j,rfl,rfl,by simp,y,eY.chg l q ms (λp s=>by simpa using s) t⟩
 |m0::ms,k,vs,F,n+1,m,w,h,D,C=>by obtain⟨E,r,v,f,d,j,rfl,rfl,rfl,x,t⟩:=h;obtain⟨u,J,O,I,N,rfl,M,L⟩:=eY.at ms t (n:=n) (by simpa using D) (by simpa using C);refine⟨u,d++J,O,I,by simpa using N,by simp,M,λH' B w' g i y l q=>?_⟩;refine⟨E,r.set n w',v,f.set n g,d,J++i++I,rfl,rfl,by simp,Fp.chg l q m0 (λp s=>by simp[s]) x,L H' B w' g i y (λp o e=>(l p o e).imp (λ⟨a,b,c⟩=>⟨a,b,λz=>c ?_⟩) id) q⟩;rcases KE.mp z with z|z<;>simp[z]
theorem gv.at{m:Md}:∀{q:List W}{vs:List V}{F:List Addr}{n:Nat}{w:W},gv (Fp K A H m) q vs F->q[n]?=some w->
 ∃v d F' j,vs[n]?=some v/\F=d++F'++j/\Fp K A H m w v F'/\∀(H':Hp)(B:Addr->Prop) w' g i,Fp K B H' m w' g i->pN A (·∈d++j) H H'->(∀p o,H p=some o->B p->A p)->gv (Fp K B H' m) (q.set n w') (vs.set n g) (d++i++j)
 |[],_,_,n,w,_,e=>by cases e
 |w0::L,vs,F,0,w,h,y=>by obtain⟨v,f,d,j,rfl,rfl,t,s⟩:=h;cases y;refine⟨v,[],d,j,rfl,by simp,t,λH' B w' g i x k l=>?_⟩;exact⟨g,f,i,j,rfl,by simp,x,s.mono λw v G M z=>Fp.chg k l m (λp r=>by simpa using M p r) z⟩
 |w0::L,vs,F,n+1,w,h,y=>by obtain⟨v,f,d,j,rfl,rfl,t,s⟩:=h;obtain⟨u,D,N,C,J,rfl,I,E⟩:=gv.at s (n:=n) (by simpa using y);refine⟨u,d++D,N,C,by simpa using J,by simp,I,λH' B w' g i x k l=>?_⟩;refine⟨v,f.set n g,d,D++i++C,rfl,by simp,Fp.chg k l m (λp r=>by simp[r]) t,E H' B w' g i x (λp o e=>(k p o e).imp (λ⟨a,b,c⟩=>⟨a,b,λz=>c ?_⟩) id) l⟩;rcases KE.mp z with z|z<;>simp[z]
noncomputable def Pth(K:Frag)(A:Addr->Prop)(H:Hp)(m:Md)(w:W)(v:V)(F:List Addr)(π:List mG)(f:Md)(w':W):Prop:=
 ∃b d g c,F=d++g++c/\vf K H v π b/\Fp K A H f w' b g/\∀(H':Hp)(B:Addr->Prop) a e,Fp K B H' f a b e->pN A (·∈d++c) H H'->(∀p o,H p=some o->B p->A p)->Fp K B H' m (setAt w π a) v (d++e++c)
theorem Fp.path:∀(π:List mG)(m:Md){w:W}{v:V}{F:List Addr}{k:Md}{w':W},Fp K A H m w v F->jC m π=some k->cP w π=some w'->Pth K A H m w v F π k w'
 |[],m,w,v,F,k,w',h,d,g=>by dsimp only[jC]at d;dsimp only[cP]at g;cases d;cases g;refine⟨v,[],F,[],by simp,rfl,h,λH' B j u h' _ _=>?_⟩;dsimp only[setAt];simpa using h'
 |n::π,.s,w,v,F,k,w',h,d,g=>by cases n<;>exact nn d
 |n::π,.f,w,v,F,k,w',h,d,g=>by cases n<;>exact nn d
 |n::π,.io _,w,v,F,k,w',h,d,g=>by cases n<;>exact nn d
 |.fl n _::π,.t ms,w,v,F,k,w',h,d,g=>by cases d
 |.fl n _::π,.ls ms,w,v,F,k,w',h,d,g=>by cases d
 |.ix n::π,.ls T,w,v,F,k,w',h,d,g=>by
  obtain⟨M,p,vs,F0,rfl,rfl,rfl,y,X⟩:=h;dsimp only[jC]at d;dsimp only[cP]at g;cases i:M[n]? with
  |none=>rw[i]at g;exact nn g
  |some w1=>rw[i]at g;obtain⟨q,L,F',J,r,rfl,S,R⟩:=gv.at X i;obtain⟨N,I,Y,E,rfl,Q,P,O⟩:=Fp.path π T S d g;refine⟨N,p::L++I,Y,E++J,by simp,⟨p,vs,q,rfl,.inr y,r,Q⟩,P,λH' B j u h' l x=>?_⟩;dsimp only[setAt];rw[i];dsimp only[Fp];have a:=R H' B _ q _ (O H' B j u h' (λp o e=>(l p o e).imp (by rintro⟨a,b,c⟩;exact⟨a,b,λz=>c (by rcases KE.mp z with z|z<;>simp[z])⟩) id) x) (λp o e=>(l p o e).imp (by rintro⟨a,b,c⟩;exact⟨a,b,λz=>c (by rcases KE.mp z with z|z<;>simp[z])⟩) id) x;rw[kR r]at a;exact⟨_,p,vs,L++(I++u++E)++J,rfl,rfl,by simp,l.un y (λ_=>by simp),a⟩
 |.ix n::π,.o fs ms,w,v,F,k,w',h,d,g=>by cases d
 |.ix n::π,.t ms,w,v,F,k,w',h,d,g=>by
  obtain⟨M,p,vs,rfl,rfl,y,X⟩:=h;dsimp only[jC]at d;dsimp only[cP]at g;cases D:ms[n]? with
  |none=>rw[D]at d;exact nn d
  |some T=>
   cases i:M[n]? with
   |none=>rw[i]at g;exact nn g
   |some w1=>rw[D]at d;rw[i]at g;obtain⟨q,L,F',J,r,rfl,S,R⟩:=eY.at ms X D i;obtain⟨N,I,Y,E,rfl,Q,P,O⟩:=Fp.path π T S d g;refine⟨N,L++I,Y,E++J,by simp,⟨p,vs,q,rfl,.inl y,r,Q⟩,P,λH' B j u h' l x=>?_⟩;dsimp only[setAt];rw[i];dsimp only[Fp];have a:=R H' B _ q _ (O H' B j u h' (λp o e=>(l p o e).imp (by rintro⟨a,b,c⟩;exact⟨a,b,λz=>c (by rcases KE.mp z with z|z<;>simp[z])⟩) id) x) (λp o e=>(l p o e).imp (by rintro⟨a,b,c⟩;exact⟨a,b,λz=>c (by rcases KE.mp z with z|z<;>simp[z])⟩) id) x;rw[kR r]at a;refine⟨_,p,vs,rfl,rfl,l.un y (λz=>by cases z),?_⟩;simpa using a
 |.fl n f::π,.o fs ms,w,v,F,k,w',h,d,g=>by
  obtain⟨C,dx,M,p,vs,F0,rfl,rfl,rfl,y,hl,U,X⟩:=h;dsimp only[jC]at d;dsimp only[cP]at g;by_cases Z:fs[n]?=some f;rotate_left
  .rw[BM Z]at d;cases d
  rw[Bi Z]at d;cases D:ms[n]? with
  |none=>rw[D]at d;exact nn d
  |some T=>
   cases i:M[n]? with
   |none=>rw[i]at g;exact nn g
   |some w1=>rw[D]at d;rw[i]at g;obtain⟨q,L,F',J,r,rfl,S,R⟩:=eY.at ms X D i;obtain⟨N,I,Y,E,rfl,Q,P,O⟩:=Fp.path π T S d g;refine⟨N,p::L++I,Y,E++J,by simp,⟨p,vs,q,rfl,⟨C,dx,fs,y,hl,U,Z⟩,r,Q⟩,P,λH' B j u h' l x=>?_⟩;dsimp only[setAt];rw[i];dsimp only[Fp];have a:=R H' B _ q _ (O H' B j u h' (λp o e=>(l p o e).imp (by rintro⟨a,b,c⟩;exact⟨a,b,λz=>c (by rcases KE.mp z with z|z<;>simp[z])⟩) id) x) (λp o e=>(l p o e).imp (by rintro⟨a,b,c⟩;exact⟨a,b,λz=>c (by rcases KE.mp z with z|z<;>simp[z])⟩) id) x;rw[kR r]at a;refine⟨C,dx,_,p,vs,L++(I++u++E)++J,rfl,rfl,by simp,l.un y (λ_=>by simp),hl,U,a⟩
end
noncomputable def cY(K:Frag)(A:Addr->Prop)(H H':Hp)(m:Md)(w:W)(v:V):Prop:=
 ∃F:List Addr,F.Nodup/\(∀p∈F,H p=none)/\Fp K (λq=>A q\/q∈F) H' m w v F
noncomputable def Dom(A:Addr->Prop)(H:Hp):Prop:=∀p,A p->∃o,H p=some o
theorem Dom.no{A:Addr->Prop}{H:Hp}(d:Dom A H){p:Addr}(h:H p=none):¬A p:=λz=>by obtain⟨o,e⟩:=d p z;rw[h]at e;cases e
theorem Dom.same{A:Addr->Prop}{H H':Hp}(d:Dom A H)(s:aq H H'):Dom A H':=λp z=>by obtain⟨o,e⟩:=d p z;exact⟨o,s _ _ e⟩
section
variable{K:Frag}{A B:Addr->Prop}{H H':Hp}{m:Md}{w:W}{v:V}
theorem cY.rep(d:Dom A H)(h:cY K A H H' m w v):Rep K A H' w v:=by obtain⟨F,c,a,h⟩:=h;exact Fp.rep (λp z=>.inl z) m (λp b=>d.no (a p b)) h
theorem cY.of(h:Rep K A H' w v):cY K A H H' .s w v:=⟨[],mN,by simp,by dsimp only[Fp];exact⟨rfl,h.less λp z=>by simpa using z⟩⟩
theorem cY.s(d:Dom A H)(h:cY K A H H' m w v):cY K A H H' .s w v:=.of (h.rep d)
theorem cY.new{a:List W}{p:Addr}{vs:List V}(b:H p=none)(d:H' p=some (.lst vs))(e:af K A H' a vs)(c:af K (λq=>A q\/q=p) H' a vs):cY K A H H' .f (.lst a) (.ref p):=
 ⟨[p],(by simp),(by simpa using b),by dsimp only[Fp];exact⟨a,p,vs,rfl,rfl,rfl,d,c.less λq z=>by simpa using z⟩⟩
theorem cY.fresh{a:List W}{p:Addr}{vs:List V}{H1:Hp}(s:aq H H1)(b:H1 p=none)(h:af K A H1 a vs):cY K A H (upd H1 p (.lst vs)) .f (.lst a) (.ref p):=by
 have sm:=aP b (.lst vs);refine .new (s.free b) aF (h.same sm) (af.mv sm (λq o z y=>?_) a h);rcases y with y|y
 .exact y
 .rw[y,b]at z;cases z
theorem cY.Li(h:cY K A H H' .f w v):∃a p vs,w=.lst a/\v=.ref p/\H p=none/\H' p=some (.lst vs)/\af K (λq=>A q\/q=p) H' a vs:=by obtain⟨F,e,b,h⟩:=h;obtain⟨a,p,vs,rfl,rfl,rfl,d,c⟩:=h;exact⟨a,p,vs,rfl,rfl,b p (FK.mpr rfl),d,c.less λq z=>by simpa using z⟩
theorem cY.back{a:Hp}(s:aq a H)(e:∀p,B p->A p)(h:cY K A H H' m w v):cY K B a H' m w v:=by obtain⟨F,c,b,h⟩:=h;exact⟨F,c,λp d=>s.free (b p d),Fp.mv (aq.refl _) (λp o _ z=>z.imp (e p) id) m h⟩
end
abbrev Ev:=List (Option W)
noncomputable def look:Ev->Nat->Option W
 |[],_=>none
 |x::_,0=>x
 |_::l,n+1=>look l n
theorem aS:∀{a:Ev}{i:Nat}{w:W},look a i=some w↔a[i]?=some (some w)
 |[],i,w=>by simp[look]
 |x::l,0,w=>by simp[look]
 |x::l,i+1,w=>by rw[look,aS];simp
abbrev Ms:=List (Nat×Md)
noncomputable def aL(M:Ms)(i:Nat):Prop:=∃m,(i,m)∈M
structure Fz where
 ab:Addr->Prop
 B:Addr->Prop
 s0:Option V
abbrev FB(A:Fz)(M:Ms)(σ:St):Addr->Prop:=A.B
structure QF(K:Frag)(M:Ms)(A:Fz)(H0:Hp)(σ:St)(H:Hp)(ε:Ev)(F:Nat->List Addr):Prop where
 un:∀i m m',(i,m)∈M->(i,m')∈M->m=m'
 val:∀i m w,(i,m)∈M->look ε i=some w->∃v,σ[i]?=some (some v)/\Fp K A.B H m w v (F i)
 emp:∀i,aL M i->look ε i=none->F i=[]
 nd:∀i,aL M i->(F i).Nodup
 ds:∀i j p,aL M i->aL M j->p∈F i->p∈F j->i=j
 nw:∀i p,aL M i->p∈F i->H0 p=none
 na:∀i p,aL M i->p∈F i->¬A.ab p
 all:∀p,A.B p↔A.ab p\/∃i,aL M i/\p∈F i
structure SR(K:Frag)(M:Ms)(A:Fz)(H0:Hp)(σ:St)(H:Hp)(ε:Ev):Prop where
 len:σ.length=ε.length
 sh:∀i w,¬aL M i->look ε i=some w->∃v,σ[i]?=some (some v)/\Rep K A.B H w v
 sm:aq H0 H
 dm:Dom A.ab H
 sl:∀v,A.s0=some v->σ[0]?=some (some v)/\aL M 0
 ow:∃F,QF K M A H0 σ H ε F
theorem aO{a:Ev}{i j:Nat}{x:Option W}(h:i≠j):look (a.set i x) j=look a j:=by
 cases e:look a j with
 |none=>
  cases b:look (a.set i x) j with
  |none=>rfl
  |some w=>rw[aS,Kb h,<-aS,e]at b;cases b
 |some w=>rw[aS,Kb h,<-aS];exact e
theorem kT{a:Ev}{i:Nat}{w w':W}(h:look (a.set i (some w)) i=some w'):w'=w:=by
 rw[aS,QX]at h;rw[Bi rfl]at h;split at h
 .cases h;rfl
 .cases h
theorem oi{a:Ev}{i:Nat}{w:W}(h:look a i=some w):i<a.length:=by rw[aS]at h;exact(Fu.mp h).1
section
variable{K:Frag}{M M':Ms}{A:Fz}{H0 H H1:Hp}{σ:St}{ε:Ev}{F:Nat->List Addr}
theorem QF.has(O:QF K M A H0 σ H ε F){i:Nat}{p:Addr}(hi:aL M i)(a:p∈F i):∃o,H p=some o/\Af o=true:=by
 cases b:look ε i with
 |none=>rw[O.emp i hi b]at a;cases a
 |some w=>obtain⟨m,c⟩:=hi;obtain⟨v,_,h⟩:=O.val i m w c b;exact Fp.mu m h p a
theorem SR.dom(S:SR K M A H0 σ H ε):Dom A.B H:=λp z=>by
 obtain⟨F,O⟩:=S.ow;rcases(O.all p).mp z with z|⟨i,b,a⟩
 .exact S.dm p z
 .obtain⟨o,e,_⟩:=O.has b a;exact⟨o,e⟩
theorem SR.sub'(S:SR K M A H0 σ H ε):∀p,A.ab p->A.B p:=λp z=>by obtain⟨F,O⟩:=S.ow;exact(O.all p).mpr (.inl z)
theorem SR.same(S:SR K M A H0 σ H ε)(s:aq H H1):SR K M A H0 σ H1 ε:=by
 obtain⟨F,O⟩:=S.ow;exact⟨S.len,λi w b e=>let⟨v,h1,h2⟩:=S.sh i w b e;⟨v,h1,h2.same s⟩,S.sm.trans s,S.dm.same s,S.sl,F,
  ⟨O.un,λi m w a e=>let⟨v,h1,h2⟩:=O.val i m w a e;⟨v,h1,Fp.mv s (λ_ _ _ z=>z) m h2⟩,O.emp,O.nd,O.ds,O.nw,O.na,O.all⟩⟩
theorem SR.sub(S:SR K M A H0 σ H ε)(h:∀x∈M',x∈M)(s:Option V)(hz:∀v,s=some v->A.s0=some v/\aL M' 0):∃r,r.ab=A.ab/\r.s0=s/\(∀p,r.B p->A.B p)/\SR K M' r H0 σ H ε:=by
 obtain⟨F,O⟩:=S.ow;have d:∀i,aL M' i->aL M i:=by rintro i ⟨m,f⟩;exact⟨m,h _ f⟩
 have q:∀p,(A.ab p\/∃i,aL M' i/\p∈F i)->A.B p:=λp z=>(O.all p).mpr (z.imp id<|by rintro⟨i,c,n⟩;exact⟨i,d i c,n⟩);refine⟨⟨A.ab,λp=>A.ab p\/∃i,aL M' i/\p∈F i,s⟩,rfl,rfl,q,S.len,λi w t e=>?_,S.sm,S.dm,λv e=>⟨(S.sl v (hz v e).1).1,(hz v e).2⟩,F,⟨λi m u a b=>O.un i m u (h _ a) (h _ b),λi m w f e=>?_,λi c=>O.emp i (d i c),λi c=>O.nd i (d i c),λi j p c o=>O.ds i j p (d i c) (d j o),λi p c=>O.nw i p (d i c),λi p c=>O.na i p (d i c),λp=>Yj⟩⟩
 .by_cases c:aL M i
  .have g:=c;obtain⟨m,f⟩:=c;obtain⟨v,l,k⟩:=O.val i m w f e;refine⟨v,l,Fp.rep q m (λp n z=>?_) k⟩;rcases z with z|⟨j,o,y⟩
   .exact O.na i p g n z
   .have:=O.ds i j p g (d j o) n y;subst this;exact t o
  .obtain⟨v,l,k⟩:=S.sh i w c e;exact⟨v,l,k.less q⟩
 .obtain⟨v,l,k⟩:=O.val i m w (h _ f) e;exact⟨v,l,Fp.mv (aq.refl _) (λp _ _ z=>q p z) m k⟩
theorem SR.go(S:SR K M A H0 σ H ε):SR K [] ⟨A.ab,A.ab,none⟩ H0 σ H ε:=by
 obtain⟨a,b,c,h,d⟩:=S.sub (M':=[]) (λx f=>by cases f) none (λv e=>by cases e);obtain⟨F,O⟩:=d.ow;have e:∀p,a.B p↔A.ab p:=λp=>by rw[O.all p,b];exact⟨λz=>z.elim id (by rintro⟨i,⟨m,g⟩,_⟩;cases g),.inl⟩
 have:a.B=A.ab:=funext λp=>propext (e p);have:a=⟨A.ab,A.ab,none⟩:=by
  cases a;simp only at b c this;rw[b,this,c]
 rw[<-this];exact d
theorem SR.set(S:SR K M A H0 σ H ε){i:Nat}{w:W}{v:V}(hi:¬aL M i)(h:Rep K A.B H w v):SR K M A H0 (σ.set i (some v)) H (ε.set i (some w)):=by
 obtain⟨F,O⟩:=S.ow;refine⟨by rw[OK,OK];exact S.len,λj f d e=>?_,S.sm,S.dm,λu e=>?_,F,⟨O.un,λj m f g e=>?_,λj d e=>?_,O.nd,O.ds,O.nw,O.na,O.all⟩⟩
 .by_cases a:i=j
  .subst a;have k:i<σ.length:=by rw[S.len];have:=oi e;rwa [OK]at this
   have:=kT e;subst this;exact⟨v,Os k,h⟩
  .rw[aO a]at e;obtain⟨u,c,b⟩:=S.sh j f d e;exact⟨u,by rw[Kb a];exact c,b⟩
 .obtain⟨c,b⟩:=S.sl u e;exact⟨by rw[Kb (by rintro rfl;exact hi b)];exact c,b⟩
 .have a:i≠j:=by rintro rfl;exact hi ⟨m,g⟩
  rw[aO a]at e;obtain⟨u,c,b⟩:=O.val j m f g e;exact⟨u,by rw[Kb a];exact c,b⟩
 .have a:i≠j:=by rintro rfl;exact hi d
  rw[aO a]at e;exact O.emp j d e
theorem SR.own(S:SR K M' A H0 σ H ε){i:Nat}{m:Md}{w:W}{v:V}(y:∀x,x∈M↔x=(i,m)\/x∈M')(hi:¬aL M' i)(s:aq H H1)(h:cY K A.B H H1 m w v):
 ∃N,N.ab=A.ab/\N.s0=A.s0/\(∀p o,H p=some o->N.B p->A.B p)/\SR K M N H0 (σ.set i (some v)) H1 (ε.set i (some w)):=by
 obtain⟨F,O⟩:=S.ow;obtain⟨G,nd,nw,L⟩:∃G:List Addr,G.Nodup/\(∀p∈G,H p=none)/\(i<ε.length->Fp K (λq=>A.B q\/q∈G) H1 m w v G)/\(ε.length<=i->G=[]):=by
  by_cases g:i<ε.length
  .obtain⟨G,nd,nw,L⟩:=h;exact⟨G,nd,nw,λ_=>L,λz=>by lia⟩
  .exact⟨[],mN,by simp,λz=>(g z).elim,λ_=>rfl⟩
 have f:∀j,aL M j↔j=i\/aL M' j:=λj=>by
  constructor
  .rintro⟨r,Q⟩;rcases(y _).mp Q with e|e
   .cases e;exact .inl rfl
   .exact .inr ⟨r,e⟩
  .rintro(rfl|⟨r,Q⟩)
   .exact⟨m,(y _).mpr (.inl rfl)⟩
   .exact⟨r,(y _).mpr (.inr Q)⟩
 have P:∀j,aL M' j->j≠i:=λj c e=>by subst e;exact hi c
 have E:∀j p,aL M' j->p∈F j->p∉G:=λj p c d z=>by obtain⟨o,e,_⟩:=O.has c d;rw[nw p z]at e;cases e
 have R:∀p o,H p=some o->(A.B p\/p∈G)->A.B p:=λp o e z=>by
  rcases z with z|z
  .exact z
  .rw[nw p z]at e;cases e
 refine⟨⟨A.ab,λp=>A.B p\/p∈G,A.s0⟩,rfl,rfl,R,by rw[OK,OK];exact S.len,λj J c e=>?_,S.sm.trans s,S.dm.same s,λu e=>?_,λj=>if j=i then G else F j,⟨λj X U a b=>?_,λj r J c e=>?_,λj c e=>?_,λj c=>?_,λj k p c T a b=>?_,λj p c d=>?_,λj p c d=>?_,λp=>?_⟩⟩
 .have t:j≠i/\¬aL M' j:=⟨λz=>c ((f j).mpr (.inl z)),λz=>c ((f j).mpr (.inr z))⟩;rw[aO (SC t.1)]at e;obtain⟨u,I,D⟩:=S.sh j J t.2 e;exact⟨u,by rw[Kb (SC t.1)];exact I,Rep.mv s R J D⟩
 .obtain⟨I,D⟩:=S.sl u e;exact⟨by rw[Kb (SC (P 0 D))];exact I,(f 0).mpr (.inr D)⟩
 .rcases(y _).mp a with a|a
  .rcases(y _).mp b with b|b
   .cases a;cases b;rfl
   .cases a;exact(hi ⟨_,b⟩).elim
  .rcases(y _).mp b with b|b
   .cases b;exact(hi ⟨_,a⟩).elim
   .exact O.un j X U a b
 .rcases(y _).mp c with a|a
  .cases a;have g:i<ε.length:=by have:=oi e;rwa [OK]at this
   have:=kT e;subst this;exact⟨v,Os (by rw[S.len];exact g),by rw[Bi rfl];exact L.1 g⟩
  .have n:=P j ⟨r,a⟩;rw[aO (SC n)]at e;obtain⟨u,I,D⟩:=O.val j r J a e;exact⟨u,by rw[Kb (SC n)];exact I,by rw[BM n];exact Fp.mv s R r D⟩
 .by_cases n:j=i
  .subst n;rw[Bi rfl];refine L.2 (dA λg=>?_);have:look (ε.set j (some w)) j=some w:=by rw[aS];exact Os g
   rw[this]at e;cases e
  .rw[aO (SC n)]at e;rw[BM n];exact O.emp j (((f j).mp c).resolve_left n) e
 .by_cases n:j=i
  .rw[Bi n];exact nd
  .rw[BM n];exact O.nd j (((f j).mp c).resolve_left n)
 .by_cases C:j=i
  .by_cases l:k=i
   .rw[C,l]
   .rw[Bi C]at a;rw[BM l]at b;exact(E k p (((f k).mp T).resolve_left l) b a).elim
  .by_cases l:k=i
   .rw[BM C]at a;rw[Bi l]at b;exact(E j p (((f j).mp c).resolve_left C) a b).elim
   .rw[BM C]at a;rw[BM l]at b;exact O.ds j k p (((f j).mp c).resolve_left C) (((f k).mp T).resolve_left l) a b
 .by_cases n:j=i
  .rw[Bi n]at d;exact S.sm.free (nw p d)
  .rw[BM n]at d;exact O.nw j p (((f j).mp c).resolve_left n) d
 .by_cases n:j=i
  .rw[Bi n]at d;exact S.dm.no (nw p d)
  .rw[BM n]at d;exact O.na j p (((f j).mp c).resolve_left n) d
 .constructor
  .rintro(z|z)
   .rcases(O.all p).mp z with z|⟨j,c,d⟩
    .exact .inl z
    .exact .inr ⟨j,(f j).mpr (.inr c),by rw[BM (P j c)];exact d⟩
   .exact .inr ⟨i,(f i).mpr (.inl rfl),by rw[Bi rfl];exact z⟩
  .rintro(z|⟨j,c,d⟩)
   .exact .inl ((O.all p).mpr (.inl z))
   .by_cases n:j=i
    .rw[Bi n]at d;exact .inr d
    .rw[BM n]at d;exact .inl ((O.all p).mpr (.inr ⟨j,((f j).mp c).resolve_left n,d⟩))
theorem QF.chg(S:SR K M A H0 σ H ε)(O:QF K M A H0 σ H ε F){i:Nat}{m:Md}{w w':W}{v:V}{F':List Addr}(hi:(i,m)∈M)(Q:look ε i=some w)(P:σ[i]?=some (some v))
 (x:∀p o,H p=some o->(Af o=true/\p∈F i)\/H1 p=some o)(nd:F'.Nodup)(nw:∀p∈F',p∈F i\/H p=none)(h:Fp K (λp=>(A.B p/\p∉F i)\/p∈F') H1 m w' v F'):
 ∃s,s.ab=A.ab/\s.s0=A.s0/\(∀p,s.B p↔(A.B p/\p∉F i)\/p∈F')/\(∀p o,H p=some o->s.B p->A.B p)/\ua A.B H H1/\SR K M s H0 σ H1 (ε.set i (some w')):=by
 have f:aL M i:=⟨m,hi⟩;have J:∀p,p∈F i->A.B p:=λp c=>(O.all p).mpr (.inr ⟨i,f,c⟩);have N:ua A.B H H1:=λp o e=>(x p o e).imp (λz=>⟨z.1,J p z.2⟩) id;have I:∀p o,H p=some o->((A.B p/\p∉F i)\/p∈F')->A.B p:=λp o e z=>by
  rcases z with z|z
  .exact z.1
  .rcases nw p z with z|z
   .exact J p z
   .rw[z]at e;cases e
 have C:∀j p,aL M j->j≠i->p∈F j->p∉F i/\p∉F':=λj p d n c=>by
  have a:p∉F i:=λz=>n (O.ds j i p d f c z);refine⟨a,λz=>?_⟩;rcases nw p z with z|z
  .exact a z
  .obtain⟨o,e,_⟩:=O.has d c;rw[z]at e;cases e
 refine⟨⟨A.ab,λp=>(A.B p/\p∉F i)\/p∈F',A.s0⟩,rfl,rfl,λ_=>Yj,I,N,by rw[OK];exact S.len,λj g d e=>?_,λp o e=>?_,λp z=>?_,S.sl,λj=>if j=i then F' else F j,⟨O.un,λj t g d e=>?_,λj d e=>?_,λj d=>?_,λj k p d L a b=>?_,λj p d c=>?_,λj p d c=>?_,λp=>?_⟩⟩
 .have n:i≠j:=by rintro rfl;exact d f
  rw[aO n]at e;obtain⟨u,E,D⟩:=S.sh j g d e;exact⟨u,E,Rep.chg N I g D⟩
 .rcases x p o (S.sm p o e)with⟨_,z⟩|z
  .rw[O.nw i p f z]at e;cases e
  .exact z
 .obtain⟨o,e⟩:=S.dm p z;rcases x p o e with⟨_,y⟩|y
  .exact(O.na i p f y z).elim
  .exact⟨o,y⟩
 .by_cases n:j=i
  .subst n;have R:=O.un j m t hi d;subst R;have:=kT e;subst this;exact⟨v,P,by rw[Bi rfl];exact h⟩
  .rw[aO (SC n)]at e;obtain⟨u,E,D⟩:=O.val j t g d e;refine⟨u,E,?_⟩;rw[BM n];refine Fp.chg (G:=λp=>p∈F j) (λp o e=>?_) I t (λp c=>c) D;rcases x p o e with⟨z,y⟩|z
   .exact .inl ⟨z,J p y,λq=>(C j p ⟨t,d⟩ n q).1 y⟩
   .exact .inr z
 .by_cases n:j=i
  .subst n;have:look (ε.set j (some w')) j=some w':=by rw[aS];exact Os (oi Q)
   rw[this]at e;cases e
  .rw[aO (SC n)]at e;rw[BM n];exact O.emp j d e
 .by_cases n:j=i
  .rw[Bi n];exact nd
  .rw[BM n];exact O.nd j d
 .by_cases r:j=i
  .by_cases l:k=i
   .rw[r,l]
   .rw[Bi r]at a;rw[BM l]at b;exact((C k p L l b).2 a).elim
  .by_cases l:k=i
   .rw[BM r]at a;rw[Bi l]at b;exact((C j p d r a).2 b).elim
   .rw[BM r]at a;rw[BM l]at b;exact O.ds j k p d L a b
 .by_cases n:j=i
  .rw[Bi n]at c;rcases nw p c with z|z
   .exact O.nw i p f z
   .exact S.sm.free z
  .rw[BM n]at c;exact O.nw j p d c
 .by_cases n:j=i
  .rw[Bi n]at c;rcases nw p c with z|z
   .exact O.na i p f z
   .exact S.dm.no z
  .rw[BM n]at c;exact O.na j p d c
 .constructor
  .rintro(⟨z,y⟩|z)
   .rcases(O.all p).mp z with z|⟨j,d,c⟩
    .exact .inl z
    .have n:j≠i:=by rintro rfl;exact y c
     exact .inr ⟨j,d,by rw[BM n];exact c⟩
   .exact .inr ⟨i,f,by rw[Bi rfl];exact z⟩
  .rintro(z|⟨j,d,c⟩)
   .exact .inl ⟨(O.all p).mpr (.inl z),λy=>O.na i p f y z⟩
   .by_cases n:j=i
    .rw[Bi n]at c;exact .inr c
    .rw[BM n]at c;exact .inl ⟨(O.all p).mpr (.inr ⟨j,d,c⟩),(C j p d n c).1⟩
end
end VL
set_option genSizeOf false
set_option genInjectivity false
namespace VL
open PySem PySem.Spec
open PyProof.Rows hiding St
open L2
inductive BI where
 |len|abs|max2|min2|sum|all|any|list|tuple|GA|int|QG
 deriving DecidableEq
inductive CE where
 |var (i:Nat)|int (i:Int)|bl (b:Bool)|str (x:Str)|aV|Ib (n:String)|glob (g:Nat)
 |bin (op:Operator) (a b:CE)|neg (a:CE)|not (a:CE)
 |cmp (op:CmpOp) (a b:CE)
 |and (as:List CE)|or (as:List CE)|ite (c a b:CE)
 |tup (as:List CE)|lst (as:List CE)
 |ix (a i:CE)|sl (a lo hi:CE)
 |call (f:Nat) (as:List CE)|blt (b:BI) (as:List CE)|bits (a:CE)
 |comp (ts:List Nat) (one:Bool) (n:Nat) (it:CE) (c:CE) (e:CE)
 |jA (as:List CE)|sA (a:CE)|rev (a:CE)|Lj (a st:CE)
 |pop (i:Nat)
 |own (i:Nat) (π:List mG)|j3 (i:Nat) (f:Nat) (as:List CE)|CF (i g f:Nat) (as:List CE)
 |Ic (is:List Nat) (a:CE)|Ni (f:Nat) (a:CE) (as:List CE)
inductive CS where
 |set (i:Nat) (e:CE)|Er (ts:List Nat) (e:CE)|par (ts:List Nat) (es:List CE)
 |app (i:Nat) (e:CE)|put (i:Nat) (k e:CE)|drop (i:Nat)|j4 (j:Nat) (e:CE)
 |ret (e:CE)|iff (c:CE) (a b:List CS)|Ag (c:CE) (b:List CS)
 |fr (ts:List Nat) (one:Bool) (it:CE) (b:List CS)
 |brk
 |BW (i n:Nat) (e:CE)
 |Ah (e:CE)|QH (c:CE) (a b:List CS)|QI (c:CE) (b:List CS)
 |S9
 |GB (is:List Nat) (b:List CS)
 |Tc (i:Nat) (it e:CE)|Td (i:Nat) (as:List CE)
 |Nj (i j:Nat)
noncomputable def Te:W->W->(W->Prop)->Prop
 |.int i,.int j,Q=>Q (.int (i+j))
 |.lst a,.lst b,Q=>a.length+b.length<=sizeLine/\Q (.lst (a++b))
 |.tup a,.tup b,Q=>a≠[]/\a.length+b.length<=sizeLine/\Q (.tup (a++b))
 |.str a,.str b,Q=>a.length+b.length<=sizeLine/\Q (.str (a++b))
 |_,_,_=>False
noncomputable def Tf:W->W->(W->Prop)->Prop
 |.int i,.int j,Q=>IntMulOk i j/\Q (.int (i*j))
 |.lst a,.int k,Q=> -(2^63)<=k/\k<2^63/\a.length*k.toNat<=sizeLine/\Q (.lst (A2 k.toNat a).flatten)
 |_,_,_=>False
noncomputable def QJ(C:Int->Int->Prop)(g:Int->Int->Int):W->W->(W->Prop)->Prop
 |.int i,.int j,Q=>C i j/\Q (.int (g i j))
 |_,_,_=>False
noncomputable def Tg:W->W->(W->Prop)->Prop
 |.int i,.int j,Q=>Q (.int (i -j))
 |_,_,_=>False
noncomputable def gR:Operator->W->W->(W->Prop)->Prop
 |.Add=>Te
 |.Sub=>Tg
 |.Mult=>Tf
 |.FloorDiv=>QJ zx λi j=>i.fdiv j
 |.Mod=>QJ (λ_ j=>j≠0) λi j=>i.fmod j
 |.Pow=>QJ Br λi j=>i^j.toNat
 |.LShift=>QJ Br λi j=>i*2^j.toNat
 |.RShift=>QJ (λ_ j=>0<=j) λi j=>i/2^j.toNat
 |_=>λ_ _ _=>False
noncomputable def wk:Nat->W->Bool
 |_,.int _=>true
 |_,.str x=>PyData.strOk x
 |_,.aV=>true
 |n+1,.lst l=>l.all (wk n)
 |n+1,.tup l=>l.all (wk n)
 |_,_=>false
noncomputable def Lk:Nat->W->Bool
 |_,.bl _=>true
 |_,.str x=>PyData.strOk x
 |_,.aV=>true
 |n+1,.lst l=>l.all (Lk n)
 |n+1,.tup l=>l.all (Lk n)
 |_,_=>false
noncomputable def WL(a:Bool):W->W->(W->Prop)->Prop
 |.int i,.int j,Q=>Q (.bl (if a then !decide (i=j)else decide (i=j)))
 |.str i,.str j,Q=>Q (.bl (if a then !decide (i=j)else decide (i=j)))
 |.bl i,.bl j,Q=>Q (.bl (if a then !decide (i=j)else decide (i=j)))
 |x,y,Q=>((wk 9 x=true/\wk 9 y=true)\/(Lk 9 x=true/\Lk 9 y=true))/\∀b:Bool,(b=true↔x=y)->Q (.bl (if a then !b else b))
noncomputable def Es(p:Int->Int->Bool):W->W->(W->Prop)->Prop
 |.int i,.int j,Q=>Q (.bl (p i j))
 |_,_,_=>False
noncomputable def WM(a:Bool):W->W->(W->Prop)->Prop
 |.aV,.aV,Q=>Q (.bl (!a))
 |.bl _,.aV,Q=>Q (.bl a)
 |.int _,.aV,Q=>Q (.bl a)
 |.str _,.aV,Q=>Q (.bl a)
 |.lst _,.aV,Q=>Q (.bl a)
 |.tup _,.aV,Q=>Q (.bl a)
 |.err _,.aV,Q=>Q (.bl a)
 |_,_,_=>False
noncomputable def eZ:CmpOp->W->W->(W->Prop)->Prop
 |.Eq=>WL false
 |.NotEq=>WL true
 |.Lt=>Es λi j=>decide (i<j)
 |.LtE=>Es λi j=>decide (i<=j)
 |.Gt=>Es λi j=>decide (j<i)
 |.GtE=>Es λi j=>decide (j<=i)
 |.Is=>WM false
 |.IsNot=>WM true
 |_=>λ_ _ _=>False
noncomputable def Nk:W->W->(W->Prop)->Prop
 |.lst l,.int i,Q=>∃w,jt l i=some w/\Q w
 |.tup l,.int i,Q=>∃w,jt l i=some w/\Q w
 |.gQ ns,.int i,Q=>∃n,jt ns i=some n/\Q (.int n)
 |_,_,_=>False
noncomputable def mJ(l:List W)(lo hi:Option Int):List W:=(l.drop (HT.rV l.length 0 lo)).take (HT.rV l.length l.length hi -HT.rV l.length 0 lo)
noncomputable def jI:CE->Bool
 |.aV=>true
 |_=>false
noncomputable def prI:W->(Option Int->Prop)->Prop
 |.int i,Q=>Q (some i)
 |_,_=>False
noncomputable def Ie(c:CE)(y:W)(Q:Option Int->Prop):Prop:=cond (jI c) (Q none) (prI y Q)
noncomputable def Vg:W->Option Int->Option Int->(W->Prop)->Prop
 |.lst l,lo,hi,Q=>Q (.lst (mJ l lo hi))
 |.gQ ns,lo,hi,Q=>Q (.lst (mJ (ns.map W.int) lo hi))
 |_,_,_,_=>False
noncomputable def tyW:W->Option String
 |.aV=>some "NoneType"
 |.bl _=>some "bool"
 |.int _=>some "int"
 |.str _=>some "str"
 |.lst _=>some "list"
 |.tup _=>some "tuple"
 |_=>none
noncomputable def Et(a b:String):Bool:=a==b||(a=="bool"&&b=="int")
noncomputable def qJ:BI->List W->(W->Prop)->Prop
 |.len,[.lst l],Q=>Q (.int l.length)
 |.len,[.tup l],Q=>Q (.int l.length)
 |.len,[.gQ ns],Q=>Q (.int ns.length)
 |.abs,[.int i],Q=>Q (.int (if i<0 then-i else i))
 |.max2,[.int i,.int j],Q=>Q (.int (if j>i then j else i))
 |.min2,[.int i,.int j],Q=>Q (.int (if j<i then j else i))
 |.min2,[.lst l],Q=>∃ns:List Int,l=ns.map W.int/\ns≠[]/\∀m∈ns,(∀n∈ns,m<=n)->Q (.int m)
 |.sum,[.lst l],Q=>∃ns:List Int,l=ns.map W.int/\Q (.int ns.sum)
 |.all,[.lst l],Q=>∃c:List Bool,l=c.map W.bl/\Q (.bl (c.all id))
 |.any,[.lst l],Q=>∃c:List Bool,l=c.map W.bl/\Q (.bl (c.any id))
 |.list,[.lst l],Q=>Q (.lst l)
 |.list,[.tup l],Q=>Q (.lst l)
 |.tuple,[.lst l],Q=>Q (.tup l)
 |.tuple,[.tup l],Q=>Q (.tup l)
 |.GA,[w,.ty n],Q=>∃a,tyW w=some a/\Q (.bl (Et a n))
 |.int,[.bl b],Q=>Q (.int (if b then 1 else 0))
 |.QG,[.int i,.int j],Q=>(0<j/\j<1073741824)/\Q (.tup [.int (i/j),.int (i%j)])
 |_,_,_=>False
noncomputable def cF(a:Ev):List Nat->List W->Ev
 |i::c,w::b=>cF (a.set i (some w)) c b
 |_,_=>a
noncomputable def wT(one:Bool)(a:List Nat)(w:W)(b:Ev)(Q:Ev->Prop):Prop:=
 match one,a,w with
 |true,[i],w=>Q (b.set i (some w))
 |false,a,.tup l=>l.length=a.length/\Q (cF b a l)
 |_,_,_=>False
noncomputable def mK(f:W->(Option W->Prop)->Prop):List W->List W->(List W->Prop)->Prop
 |[],acc,Q=>Q acc
 |w::a,acc,Q=>f w λr=>match r with
  |some y=>acc.length<sizeLine/\mK f a (acc++[y]) Q
  |none=>mK f a acc Q
noncomputable def nF(f:W->Ev->(W->Ev->Prop)->Prop):List W->List W->Ev->(List W->Ev->Prop)->Prop
 |[],acc,b,Q=>Q acc b
 |w::c,acc,b,Q=>f w b λy a=>acc.length<sizeLine/\nF f c (acc++[y]) a Q
noncomputable def truth:W->(Bool->Prop)->Prop
 |.bl b,Q=>Q b
 |_,_=>False
noncomputable def items:W->(List W->Prop)->Prop
 |.lst l,Q=>Q l
 |.tup l,Q=>Q l
 |_,_=>False
noncomputable def fj(lo st:Int)(n:Nat):List W:=(Bn n).map λ(i:Nat)=>W.int (lo+(i:Int)*st)
noncomputable def Eu:List W->(List W->Prop)->Prop
 |[.int j],Q=> -(2^62)<=j/\j<2^62/\Q (fj 0 1 j.toNat)
 |[.int i,.int j],Q=>(-(2^62)<=i/\i<2^62/\-(2^62)<=j/\j<2^62)/\Q (fj i 1 (j -i).toNat)
 |[.int i,.int j,.int k],Q=>∃n:Nat,(k≠0/\k.natAbs<1073741824/\Builtin.Range.small i j k=true/\Builtin.Range.rangeSize i j k=(n:Int))/\Q (fj i k n)
 |_,_=>False
noncomputable def gh(l:List W):List W:=List.zipWith (λ(i:Nat) w=>W.tup [.int i,w]) (Bn l.length) l
mutual
noncomputable def Ew:W->Bool
 |.aV=>true
 |.bl _=>true
 |.int _=>true
 |.str _=>true
 |.tup l=>BX l
 |_=>false
noncomputable def BX:List W->Bool
 |[]=>true
 |w::l=>Ew w&&BX l
end
mutual
noncomputable def flat:Md->W->Bool
 |.s,w=>Ew w
 |.f,w=>match w with
  |.lst l=>BX l
  |_=>false
 |.t ms,w=>match w with
  |.tup l=>Ai ms l
  |_=>false
 |.o _ _,_=>false
 |.io _,_=>false
 |.ls _,_=>false
noncomputable def Ai:List Md->List W->Bool
 |[],l=>l.isEmpty
 |m::ms,l=>match l with
  |w::l=>flat m w&&Ai ms l
  |[]=>false
end
abbrev bD:=List W->(W->Prop)->(Addr->Prop)->Prop
noncomputable def Ex:W->Bool
 |.aV|.bl _|.int _|.str _=>true
 |_=>false
section
variable(Φ:Nat->bD)(G:Nat->W)
mutual
noncomputable def wE(R:Addr->Prop):CE->Ev->(W->Prop)->Prop
 |.var i,d,Q=>match look d i with
  |some w=>Q w
  |none=>False
 |.int i,_,Q=>Q (.int i)
 |.bl b,_,Q=>Q (.bl b)
 |.str x,_,Q=>Q (.str x)
 |.aV,_,Q=>Q .aV
 |.Ib n,_,Q=>Q (.ty n)
 |.glob g,_,Q=>Q (G g)
 |.bin op a b,d,Q=>wE R a d λx=>wE R b d λy=>gR op x y Q
 |.neg a,d,Q=>wE R a d λx=>match x with
  |.int i=>Q (.int (-i))
  |_=>False
 |.not a,d,Q=>wE R a d λx=>truth x λb=>Q (.bl (!b))
 |.cmp op a b,d,Q=>wE R a d λx=>wE R b d λy=>eZ op x y Q
 |.and m,d,Q=>Bf R m d Q
 |.or m,d,Q=>Qv R m d Q
 |.ite c a b,d,Q=>wE R c d λx=>truth x λk=>if k=true then wE R a d Q else wE R b d Q
 |.tup m,d,Q=>wA R m d λj=>j.length<=sizeLine/\Q (.tup j)
 |.lst m,d,Q=>wA R m d λj=>j.length<=sizeLine/\Q (.lst j)
 |.ix a i,d,Q=>wE R a d λx=>wE R i d λy=>Nk x y Q
 |.sl a lo hi,d,Q=>wE R a d λx=>wE R lo d λy=>Ie lo y λl=>wE R hi d λz=>Ie hi z λh=>Vg x l h Q
 |.call f m,d,Q=>wA R m d λj=>Φ f j Q R
 |.blt b m,d,Q=>wA R m d λj=>qJ b j Q
 |.bits a,d,Q=>wE R a d λx=>match x with
  |.int i=>Q (.int (Builtin.Int.intBits i:Nat))
  |_=>False
 |.comp p one n q c e,d,Q=>wE R q d λz=>items z λj=>mK (λw K=>wT one p w (A2 n none++d) λo=>wE (λ_=>False) c o λx=>truth x λk=>if k=true then wE (λ_=>False) e o λy=>K (some y)else K none) j [] λl=>Q (.lst l)
 |.jA m,d,Q=>wA R m d λj=>Eu j λl=>Q (.lst l)
 |.sA a,d,Q=>wE R a d λx=>match x with
  |.lst l=>Q (.lst (gh l))
  |_=>False
 |.rev a,d,Q=>wE R a d λx=>match x with
  |.lst l=>Q (.lst l.reverse)
  |_=>False
 |.Lj a st,d,Q=>wE R a d λx=>wE R st d λy=>y=.int (-1)/\match x with
  |.lst l=>Q (.lst l.reverse)
  |_=>False
 |.pop _,_,_=>False
 |.own i π,d,Q=>match look d i with
  |some w=>match cP w π with
   |some u=>Q u
   |none=>False
  |none=>False
 |.j3 _ _ _,_,_=>False
 |.Ic _ a,d,Q=>wE R a d λw=>flat .f w=true/\Q w
 |.CF _ _ _ _,_,_=>False
 |.Ni f a m,d,Q=>wE R a d λx=>wA R m d λj=>Φ f (x::j) (λr=>∃w y,r=.tup [w,y]/\Q w) R
noncomputable def wA(R:Addr->Prop):List CE->Ev->(List W->Prop)->Prop
 |[],_,Q=>Q []
 |a::d,b,Q=>wE R a b λx=>wA R d b λc=>Q (x::c)
noncomputable def Bf(R:Addr->Prop):List CE->Ev->(W->Prop)->Prop
 |[],_,_=>False
 |a::e,c,Q=>match e with
  |[]=>wE R a c Q
  |b::d=>wE R a c λx=>truth x λk=>if k=true then Bf R (b::d) c Q else Q (.bl false)
noncomputable def Qv(R:Addr->Prop):List CE->Ev->(W->Prop)->Prop
 |[],_,_=>False
 |a::e,c,Q=>match e with
  |[]=>wE R a c Q
  |b::d=>wE R a c λx=>truth x λk=>if k=true then Q (.bl true)else Qv R (b::d) c Q
end
structure Dn where
 nx:Ev->Prop
 rt:W->Prop
 bk:Ev->Prop
 ct:Ev->Prop
 ex:Addr->Prop
mutual
noncomputable def wP(R:Addr->Prop):CE->Ev->(W->Ev->Prop)->Prop
 |.pop i,c,Q=>match look c i with
  |some (.lst l)=>∃w,l[l.length -1]?=some w/\Q w (c.set i (some (.lst l.dropLast)))
  |_=>False
 |.j3 i f h,c,Q=>match look c i with
  |some _=>Gw R h c λj d=>match look d i with
   |some n=>Φ f (n::j) (λr=>∃w y,r=.tup [w,y]/\Q w (d.set i (some y))) R
   |none=>False
  |none=>False
 |.CF i g f h,c,Q=>match look c i with
  |some (.obj C _ _)=>G g=.cls C/\Gw R h c λj d=>match look d i with
   |some n=>Φ f (n::j) (λr=>∃w y,r=.tup [w,y]/\Q w (d.set i (some y))) R
   |none=>False
  |_=>False
 |.bin op a b,c,Q=>wP R a c λx m=>wP R b m λy k=>gR op x y λz=>Q z k
 |.cmp op a b,c,Q=>wP R a c λx m=>wP R b m λy k=>eZ op x y λz=>Q z k
 |.call f h,c,Q=>Gw R h c λj d=>Φ f j (λw=>Q w d) R
 |.blt b h,c,Q=>Gw R h c λj d=>qJ b j λw=>Q w d
 |.ix a b,c,Q=>wP R a c λx m=>wP R b m λy k=>Nk x y λz=>Q z k
 |.lst h,c,Q=>Gw R h c λj d=>j.length<=sizeLine/\Q (.lst j) d
 |.and h,c,Q=>yR R h c Q
 |e,c,Q=>wE Φ G R e c λw=>Q w c
noncomputable def Gw(R:Addr->Prop):List CE->Ev->(List W->Ev->Prop)->Prop
 |[],b,Q=>Q [] b
 |a::f,b,Q=>wP R a b λx e=>Gw R f e λc d=>Q (x::c) d
noncomputable def yR(R:Addr->Prop):List CE->Ev->(W->Ev->Prop)->Prop
 |[],_,_=>False
 |a::f,d,Q=>match f with
  |[]=>wP R a d Q
  |b::e=>wP R a d λx c=>truth x λk=>if k=true then yR R (b::e) c Q else Q (.bl false) c
end
noncomputable def kU(b:W->Dn->Ev->Prop)(D:Dn):List W->Ev->Prop
 |[],a=>D.nx a
 |w::c,a=>b w {nx:=kU b D c,rt:=D.rt,bk:=D.nx,ct:=kU b D c,ex:=λ_=>False} a
noncomputable def Th(c:Ev->(Bool->Ev->Prop)->Prop)(b:Dn->Ev->Prop)(D:Dn)(d:Ev):Prop:=
 ∃J:Nat->Ev->Prop,(∃m,J m d)/\∀m d,J m d->c d λk f=>if k=true then∃N:Ev->Prop,(∀a,N a->∃e,e<m/\J e a)/\b {nx:=N,rt:=D.rt,bk:=D.nx,ct:=N,ex:=λ_=>False} f else D.nx f
noncomputable def Ig(c:Ev->(Bool->Prop)->Prop)(b:Dn->Ev->Prop)(D:Dn)(a:Ev):Prop:=
 ∃J:Nat->Ev->Prop,(∃m,J m a)/\∀m a,J m a->c a λk=>if k=true then∃N:Ev->Prop,(∀d,N d->∃e,e<m/\J e d)/\b {nx:=N,rt:=D.rt,bk:=D.nx,ct:=N,ex:=λ_=>False} a else D.nx a
mutual
noncomputable def wS:CS->Dn->Ev->Prop
 |.set i e,D,d=>wE Φ G D.ex e d λw=>D.nx (d.set i (some w))
 |.Er h e,D,d=>wE Φ G D.ex e d λw=>match w with
  |.tup l=>l.length=h.length/\D.nx (cF d h l)
  |_=>False
 |.par h r,D,d=>wA Φ G D.ex r d λg=>g.length=h.length/\D.nx (cF d h g)
 |.app i e,D,d=>match look d i with
  |some (.lst l)=>wE Φ G D.ex e d λw=>l.length<sizeLine/\D.nx (d.set i (some (.lst (l++[w]))))
  |_=>False
 |.put i k e,D,d=>wE Φ G D.ex e d λw=>match look d i with
  |some (.lst l)=>wE Φ G D.ex k d λx=>match x with
   |.int j=>∃n,vE l.length j=some n/\D.nx (d.set i (some (.lst (l.set n w))))
   |_=>False
  |_=>False
 |.drop i,D,d=>wP Φ G D.ex (.pop i) d λ_ f=>D.nx f
 |.j4 j e,D,d=>wP Φ G D.ex e d λw f=>D.nx (f.set j (some w))
 |.ret e,D,d=>wE Φ G D.ex e d D.rt
 |.iff c a b,D,d=>wE Φ G D.ex c d λx=>truth x λk=>if k=true then wSs a D d else wSs b D d
 |.Ag c b,D,d=>Ig (λd Q=>wE Φ G (λ_=>False) c d λx=>truth x Q) (wSs b) D d
 |.fr h one m b,D,d=>wE Φ G (λ_=>False) m d λz=>items z λg=>kU (λw t f=>wT one h w f λp=>wSs b t p) D g d
 |.brk,D,d=>D.bk d
 |.BW i n e,D,d=>wE Φ G D.ex e d λw=>match look d i with
  |some (.obj C q g)=>n<g.length/\D.nx (d.set i (some (.obj C q (g.set n w))))
  |_=>False
 |.Ah e,D,d=>wE Φ G D.ex e d λw=>match look d 0 with
  |some o=>D.rt (.tup [w,o])
  |none=>False
 |.QH c a b,D,d=>wP Φ G D.ex c d λx f=>truth x λk=>if k=true then wSs a D f else wSs b D f
 |.QI c b,D,d=>Th (λd Q=>wP Φ G (λ_=>False) c d λx f=>truth x λk=>Q k f) (wSs b) D d
 |.S9,_,_=>False
 |.Tc i m e,D,d=>wE Φ G D.ex m d λz=>items z λg=>nF (λw d K=>wP Φ G (λ_=>False) e (some w::d) λy f=>Ex y=true/\K y (f.drop 1)) g [] d λl f=>D.nx (f.set i (some (.lst l)))
 |.Td i s,D,d=>Gw Φ G D.ex s d λg f=>g.length<=sizeLine/\D.nx (f.set i (some (.lst g)))
 |.Nj i j,D,d=>match look d j with
  |some w=>i<d.length/\D.nx ((d.set i (some w)).set j none)
  |none=>False
 |.GB _ b,D,d=>wSs b {D with nx:=λ_=>False,bk:=λ_=>False,ct:=λ_=>False} d
noncomputable def wSs:List CS->Dn->Ev->Prop
 |[],D,a=>D.nx a
 |s::c,D,a=>match c with
  |[]=>wS s D a
  |t::b=>wS s {D with nx:=wSs (t::b) D} a
end
end
noncomputable def bf(K:Frag)(B:Addr->Prop)(H:Hp)(w:W)(v:V):Prop:=
 match w with
 |.lst l=>∃p a,v=.ref p/\Rd H p (.lst a)/\af K B H l a
 |w=>Rep K B H w v
section
variable{K:Frag}{A B:Addr->Prop}{H H':Hp}{w:W}{v:V}
theorem Rep.b(h:Rep K B H w v):bf K B H w v:=by
 cases w with
 |lst l=>obtain⟨p,a,e,_,d,c⟩:=h;exact⟨p,a,e,d,c⟩
 |_=>exact h
theorem bf.same(s:aq H H')(h:bf K B H w v):bf K B H' w v:=by
 cases w with
 |lst l=>obtain⟨p,a,e,c,b⟩:=h;exact⟨p,a,e,VL.aq.rd s c,b.same s⟩
 |_=>exact Rep.same s h
theorem bf.lst{l:List W}(h:bf K B H (.lst l) v):∃p vs,v=.ref p/\Rd H p (.lst vs)/\af K B H l vs:=h
theorem bf.Ti{l:List W}(h:bf K B H (.tup l) v):∃p vs,v=.ref p/\H p=some (.tup vs)/\af K B H l vs:=by have h:Rep K B H (.tup l) v:=h;dsimp only[Rep]at h;exact h
theorem bf.tup{l:List W}(h:bf K B H (.tup l) v):∃p vs,v=.ref p/\kC K H p vs/\af K B H l vs:=by have h:Rep K B H (.tup l) v:=h;obtain⟨p,vs,e,b,a⟩:=h;exact⟨p,vs,e,kC.of b,a⟩
theorem bf.int{i:Int}(h:bf K B H (.int i) v):v=.int i:=by have h:Rep K B H (.int i) v:=h;dsimp only[Rep]at h;exact h
theorem bf.bl{i:Bool}(h:bf K B H (.bl i) v):v=.bl i:=by have h:Rep K B H (.bl i) v:=h;dsimp only[Rep]at h;exact h
theorem bf.str{i:Str}(h:bf K B H (.str i) v):v=.str i:=by have h:Rep K B H (.str i) v:=h;dsimp only[Rep]at h;exact h
theorem bf.aV(h:bf K B H .aV v):v=.aV:=by have h:Rep K B H .aV v:=h;dsimp only[Rep]at h;exact h
theorem bf.ty{n:String}(h:bf K B H (.ty n) v):v=.ty n:=by have h:Rep K B H (.ty n) v:=h;dsimp only[Rep]at h;exact h
theorem fR(i:Int):Rep K B H (.int i) (.int i):=by dsimp only[Rep]
theorem yj(i:Bool):Rep K B H (.bl i) (.bl i):=by dsimp only[Rep]
theorem Tj(i:Str):Rep K B H (.str i) (.str i):=by dsimp only[Rep]
theorem Tn:Rep K B H .aV .aV:=by dsimp only[Rep]
theorem rTy(n:String):Rep K B H (.ty n) (.ty n):=by dsimp only[Rep]
theorem yk{l:List W}{p:Addr}{vs:List V}(b:H p=some (.tup vs))(a:af K B H l vs):Rep K B H (.tup l) (.ref p):=by dsimp only[Rep];exact⟨p,vs,rfl,b,a⟩
end
abbrev KP:=W->Prop
noncomputable def Cont(K:Frag)(B:Addr->Prop)(H:Hp)(m:Md)(P:KP)(Q:VK):Prop:=∀w v a,P w->aq H a->cY K B H a m w v->Q v a
theorem Cont.now{K:Frag}{B:Addr->Prop}{H:Hp}{P:KP}{Q:VK}(c:Cont K B H .s P Q){w:W}{v:V}(p:P w)(h:Rep K B H w v):Q v H:=c w v H p (aq.refl H) (.of h)
theorem Cont.s{K:Frag}{B:Addr->Prop}{H:Hp}{m:Md}{P:KP}{Q:VK}(d:Dom B H)(c:Cont K B H .s P Q):Cont K B H m P Q:=λw v b p a h=>c w v b p a (h.s d)
noncomputable def Ih(X:Cx)(f:Value->Value->Sem Value)(r:W->W->KP->Prop)(m:W->W->Md):Prop:=
 ∀(a:List (Addr×Obj))(s:Shared)(b:St)(H:Hp)(B:Addr->Prop)(x y:W)(d c:V)(v u:Value)(P:KP)(Q:VK),Inv X a b H s->Dom B H->RelV d v->RelV c u->bf X.K B H x d->bf X.K B H y c->r x y P->Cont X.K B H (m x y) P Q->
  wpAny (model X.prog X.w) X.A (f v u) (EP X a b Q) X.xe s
section
variable{X:Cx}
theorem Ii:l6 X (binaryOp .Add) (λx y H Q=>∃l b f d,x=.ref l/\y=.ref b/\Rd H l (.lst f)/\Rd H b (.lst d)/\f.length+d.length<=sizeLine/\∀p,H p=none->Q (.ref p) (upd H p (.lst (f++d)))):=by
 intro i s B H x y v u Q I k j h;obtain⟨l,b,f,d,rfl,rfl,o,t,hz,q⟩:=h;cases k;cases j;obtain⟨z,c,n,r,e⟩:=o.ok I.hok;obtain⟨C,a,D,g,A⟩:=t.ok I.hok;have E:=r.length;have m:=g.length;refine PySem.P.add_list e A ?_ (by rw[Fs,Fs];lia);have w:c.toArray++a.toArray=(c++a).toArray:=by simp
 rw[w];exact⟨.ref _,_,I.R8 (t':=s.toks) (r.append g) (by rw[FS];lia),rfl,q _ I.fresh⟩
theorem Ij:l6 X (binaryOp .Mult) (λx y H Q=>∃l k i,x=.ref l/\y=.int k/\Rd H l (.lst i)/\-(2^63)<=k/\k<2^63/\i.length*k.toNat<=sizeLine/\∀p,H p=none->Q (.ref p) (upd H p (.lst (A2 k.toNat i).flatten))):=by
 intro w s M H x y v u Q I C B h;obtain⟨l,k,i,rfl,rfl,E,J,G,hz,q⟩:=h;cases C;obtain⟨t,rfl⟩:=B;obtain⟨z,b,n,r,e⟩:=E.ok I.hok;have D:=r.length;have d:b.toArray.size*k.toNat<=sizeLine:=by rw[Fs,<-D];exact hz
 have g:¬b.toArray.size*k.toNat>(2^63 -1)/8:=by
  have:(sizeLine:Nat)<=(2^63 -1)/8:=by decide
  lia
 have f:¬(!Builtin.List.listFitsIndex k)=true:=by rw[fitsIndex_both J G];exact N0
 have L:¬Builtin.List.listTooLong (b.toArray.size*k.toNat)=true:=by rw[Dj d];exact N0
 have c:Y6 (λo j=>o++j) #[] (A2 (if b.toArray.isEmpty=true then 0 else k.toNat) b.toArray)=(A2 k.toNat b).flatten.toArray:=by
  have K:∀m:Nat,Y6 (λo j=>o++j) #[] (A2 m b.toArray)=(A2 m b).flatten.toArray:=λm=>by have:=foldl_rep b m [];rw[C4]at this;exact this
  rw[K];cases b with
  |nil=>simp
  |cons a N=>rw[BM (by simp)]
 refine wpAny_binaryOp_repeat_ref (T:="list") (U:="int") (by decide) ⟨_,e,rfl⟩ (λA=>typeIs_int A k t) noFill_list_mul F.fills_int_mul F.slot_int_rmul repeat_list F.slot_int_index.lookup
  (call_meets F.slot_int_rmul (typeIs_int s k t) F.entry_int_rmul (F.args_int_rmul_2 _ _) (int___rmul___int_list k t l b.toArray n)
    ⟨e,rfl,⟨_,e,rfl⟩,call_meets F.slot_list_mul ⟨_,e,rfl⟩ F.entry_list_mul (F.args_list_mul_2 _ _) (AutoListH.list___mul___list_int_3 l b.toArray n k t f g L) ⟨e,?_⟩⟩)
 rw[c];exact⟨.ref _,_,I.R8 (t':=s.toks) (r.rep k.toNat) (by rw[len_rep,X2];exact hz),rfl,q _ I.fresh⟩
noncomputable def Ik:W->W->Md
 |.lst _,_=>.f
 |_,_=>.s
theorem Nl:Ih X (binaryOp .Add) Te Ik:=by
 intro f s m H B x y M L v u P Q I d t o A w h c;cases x with
 |int i=>
  cases y with
  |int j=>
   cases A.int;cases w.int;exact Mr f s m H _ _ v u Q I t o ⟨i,j,rfl,rfl,c.now h (fR _)⟩
  |_=>exact h.elim
 |str i=>
  cases y with
  |str j=>
   cases A.str;cases w.str;exact xK f s m H _ _ v u Q I t o ⟨i,j,rfl,rfl,h.1,c.now h.2 (Tj _)⟩
  |_=>exact h.elim
 |lst a=>
  cases y with
  |lst b=>obtain⟨p,n,rfl,G,g⟩:=A.lst;obtain⟨q,C,rfl,D,k⟩:=w.lst;obtain⟨F,h⟩:=h;refine Ii f s m H _ _ v u Q I t o ⟨p,q,n,C,rfl,rfl,G,D,by rw[g.len,k.len];exact F,λr l=>?_⟩;exact c _ _ _ h (aP l _) (.fresh (aq.refl H) l (g.app k))
  |_=>exact h.elim
 |tup a=>
  cases y with
  |tup b=>
   obtain⟨p,n,rfl,J,g⟩:=A.Ti;have G:kC X.K H p n:=kC.of J;obtain⟨q,C,rfl,D,k⟩:=w.tup;obtain⟨E,F,h⟩:=h;refine G5 f s m H _ _ v u Q I t o ⟨p,q,n,C,rfl,rfl,G,D,λz=>E ?_,by rw[g.len,k.len];exact F,λz=>?_,λ_ r l=>?_⟩
   .have:=g.len;rw[z]at this;exact KM.mp this.symm
   .have:=k.len;rw[z]at this;have e:b=[]:=KM.mp this.symm;subst e;rw[d4]at h;exact c.now h (yk J g)
   .exact c _ _ _ h (aP l _) (.of (yk aF ((g.app k).same (aP l _))))
  |_=>exact h.elim
 |_=>exact h.elim
theorem Nm:Ih X (binaryOp .Mult) Tf Ik:=by
 intro b s e H B x y D C v u P Q I d g f m l h c;cases x with
 |int i=>
  cases y with
  |int j=>
   cases m.int;cases l.int;exact Hg b s e H _ _ v u Q I g f ⟨i,j,rfl,rfl,h.1,c.now h.2 (fR _)⟩
  |_=>exact h.elim
 |lst a=>
  cases y with
  |int k=>obtain⟨p,q,rfl,A,o⟩:=m.lst;cases l.int;obtain⟨w,t,z,h⟩:=h;refine Ij b s e H _ _ v u Q I g f ⟨p,k,q,rfl,rfl,A,w,t,by rw[o.len];exact z,λr n=>?_⟩;exact c _ _ _ h (aP n _) (.fresh (aq.refl H) n (o.rep _))
  |_=>exact h.elim
 |_=>exact h.elim
noncomputable def mS:W->W->Md:=λ_ _=>.s
theorem Nn:Ih X (binaryOp .Sub) Tg mS:=by
 intro a s b H B x y m l v u P Q I d f e k g h c;cases x with
 |int i=>
  cases y with
  |int j=>
   cases k.int;cases g.int;exact Mt a s b H _ _ v u Q I f e ⟨i,j,rfl,rfl,c.now h (fR _)⟩
  |_=>exact h.elim
 |_=>exact h.elim
theorem wm{f:Value->Value->Sem Value}{C:Int->Int->Prop}{g:Int->Int->Int}(n:l6 X f (rI C λi j=>.int (g i j))):Ih X f (QJ C g) mS:=by
 intro a s b H B x y p o v u P Q I d k e m l h c;cases x with
 |int i=>
  cases y with
  |int j=>
   cases m.int;cases l.int;exact n a s b H _ _ v u Q I k e ⟨i,j,rfl,rfl,h.1,c.now h.2 (fR _)⟩
  |_=>exact h.elim
 |_=>exact h.elim
noncomputable def Il:Operator->W->W->Md
 |.Add=>Ik
 |.Mult=>Ik
 |_=>mS
theorem ym(op:Operator):Ih X (binaryOp op) (gR op) (Il op):=by
 cases op with
 |Add=>exact Nl
 |Sub=>exact Nn
 |Mult=>exact Nm
 |FloorDiv=>exact wm Dr
 |Mod=>exact wm GV
 |Pow=>exact wm Mu
 |LShift=>exact wm Mw
 |RShift=>exact wm Mx
 |_=>exact λa s b H B x y f e v u P Q I d i g k j h c=>h.elim
theorem uc{f:Value->Value->Sem Value}{p:Int->Int->Bool}(m:l6 X f (GS λi j=>.bl (p i j))):Ih X f (Es p) mS:=by
 intro a s b H B x y o n v u P Q I d g e l k h c;cases x with
 |int i=>
  cases y with
  |int j=>
   cases l.int;cases k.int;exact m a s b H _ _ v u Q I g e ⟨i,j,rfl,rfl,c.now h (yj _)⟩
  |_=>exact h.elim
 |_=>exact h.elim
end
mutual
noncomputable def toD:W->PyData
 |.aV=>.none
 |.bl b=>.bool b
 |.int i=>.int i
 |.str x=>.str x
 |.lst l=>.list (toDL l)
 |.tup l=>.tuple (toDL l)
 |_=>.none
noncomputable def toDL:List W->List PyData
 |[]=>[]
 |w::l=>toD w::toDL l
end
mutual
noncomputable def Aj:W->Bool
 |.aV=>true
 |.bl _=>true
 |.int _=>true
 |.str x=>PyData.strOk x
 |.lst l=>ud l
 |.tup l=>ud l
 |_=>false
noncomputable def ud:List W->Bool
 |[]=>true
 |w::l=>Aj w&&ud l
end
section
variable{X:Cx}{B:Addr->Prop}{H:Hp}
mutual
theorem Tq:∀(w:W){v:V},Aj w=true->Rep X.K B H w v->Dt X H v (toD w)
 |.aV,v,_,h=>by obtain rfl:=h;exact MO
 |.bl b,v,_,h=>by obtain rfl:=h;exact Sj b
 |.int i,v,_,h=>by obtain rfl:=h;exact MM i
 |.str x,v,_,h=>by obtain rfl:=h;exact MN x
 |.lst l,v,d,h=>by obtain⟨p,e,rfl,_,c,a⟩:=h;exact DC (.inl c) (Ak l d a)
 |.tup l,v,d,h=>by obtain⟨p,e,rfl,c,a⟩:=h;exact MP (kC.of c) (Ak l d a)
 |.ty _,_,d,_=>ff d
 |.cls _,_,d,_=>ff d
 |.err _,_,d,_=>ff d
 |.dct _ _,_,d,_=>ff d
 |.obj _ _ _,_,d,_=>ff d
 |.gQ _,_,d,_=>ff d
theorem Ak:∀(l:List W){vs:List V},ud l=true->af X.K B H l vs->Paired (Dt X H) vs (toDL l)
 |[],vs,_,h=>by rw[h.nil_inv];exact .nil
 |w::l,vs,d,h=>by obtain⟨v,r,rfl,b,a⟩:=h.cons_inv;have d:=NM.mp d;exact .cons (Tq w d.1 b) (Ak l d.2 a)
end
theorem Im{w:W}{v:V}(d:Aj w=true)(h:bf X.K B H w v):Dt X H v (toD w):=by
 cases w with
 |lst l=>obtain⟨p,c,rfl,b,a⟩:=h.lst;exact DC (.inl b) (Ak l d a)
 |_=>exact Tq (B:=B) _ d h
end
mutual
theorem toD_lay:∀w:W,Aj w=true->(toD w).canLay0=true
 |.aV,_=>rfl
 |.bl _,_=>rfl
 |.int _,_=>rfl
 |.str x,d=>d
 |.lst l,d=>toDL_lay l d
 |.tup l,d=>toDL_lay l d
 |.ty _,d=>ff d
 |.cls _,d=>ff d
 |.err _,d=>ff d
 |.dct _ _,d=>ff d
 |.obj _ _ _,d=>ff d
 |.gQ _,d=>ff d
theorem toDL_lay:∀l:List W,ud l=true->PyData.canLayAll0 (toDL l)=true
 |[],_=>rfl
 |w::l,d=>by have d:=NM.mp d;exact NM.mpr ⟨toD_lay w d.1,toDL_lay l d.2⟩
end
mutual
theorem toD_inj:∀x y:W,Aj x=true->Aj y=true->same (toD x) (toD y)=true->x=y
 |.aV,.aV,_,_,_=>rfl
 |.aV,.bl _,_,_,h=>ff h
 |.aV,.int _,_,_,h=>ff h
 |.aV,.str _,_,_,h=>ff h
 |.aV,.lst _,_,_,h=>ff h
 |.aV,.tup _,_,_,h=>ff h
 |.bl _,.aV,_,_,h=>ff h
 |.bl _,.int _,_,_,h=>ff h
 |.bl _,.str _,_,_,h=>ff h
 |.bl _,.lst _,_,_,h=>ff h
 |.bl _,.tup _,_,_,h=>ff h
 |.int _,.aV,_,_,h=>ff h
 |.int _,.bl _,_,_,h=>ff h
 |.int _,.str _,_,_,h=>ff h
 |.int _,.lst _,_,_,h=>ff h
 |.int _,.tup _,_,_,h=>ff h
 |.str _,.aV,_,_,h=>ff h
 |.str _,.bl _,_,_,h=>ff h
 |.str _,.int _,_,_,h=>ff h
 |.str _,.lst _,_,_,h=>ff h
 |.str _,.tup _,_,_,h=>ff h
 |.lst _,.aV,_,_,h=>ff h
 |.lst _,.bl _,_,_,h=>ff h
 |.lst _,.int _,_,_,h=>ff h
 |.lst _,.str _,_,_,h=>ff h
 |.lst _,.tup _,_,_,h=>ff h
 |.tup _,.aV,_,_,h=>ff h
 |.tup _,.bl _,_,_,h=>ff h
 |.tup _,.int _,_,_,h=>ff h
 |.tup _,.str _,_,_,h=>ff h
 |.tup _,.lst _,_,_,h=>ff h
 |.bl a,.bl b,_,_,h=>Pt _ (eq_of_beq h)
 |.int a,.int b,_,_,h=>Pt _ (eq_of_beq h)
 |.str a,.str b,_,_,h=>Pt _ (eq_of_beq h)
 |.lst a,.lst b,d,e,h=>Pt _ (toDL_inj a b d e h)
 |.tup a,.tup b,d,e,h=>Pt _ (toDL_inj a b d e h)
 |.ty _,_,d,_,_=>ff d
 |.cls _,_,d,_,_=>ff d
 |.err _,_,d,_,_=>ff d
 |.dct _ _,_,d,_,_=>ff d
 |.obj _ _ _,_,d,_,_=>ff d
 |.gQ _,_,d,_,_=>ff d
 |_,.ty _,_,d,_=>ff d
 |_,.cls _,_,d,_=>ff d
 |_,.err _,_,d,_=>ff d
 |_,.dct _ _,_,d,_=>ff d
 |_,.obj _ _ _,_,d,_=>ff d
 |_,.gQ _,_,d,_=>ff d
theorem toDL_inj:∀x y:List W,ud x=true->ud y=true->sameAll (toDL x) (toDL y)=true->x=y
 |[],[],_,_,_=>rfl
 |[],_::_,_,_,h=>ff h
 |_::_,[],_,_,h=>ff h
 |x::b,y::a,d,e,h=>by have d:=NM.mp d;have e:=NM.mp e;have h:=NM.mp h;rw[toD_inj x y d.1 e.1 h.1,toDL_inj b a d.2 e.2 h.2]
end
mutual
theorem toD_refl:∀x:W,Aj x=true->same (toD x) (toD x)=true
 |.aV,_=>rfl
 |.bl a,_=>eM a
 |.int a,_=>eM a
 |.str a,_=>eM a
 |.lst a,d=>toDL_refl a d
 |.tup a,d=>toDL_refl a d
 |.ty _,d=>ff d
 |.cls _,d=>ff d
 |.err _,d=>ff d
 |.dct _ _,d=>ff d
 |.obj _ _ _,d=>ff d
 |.gQ _,d=>ff d
theorem toDL_refl:∀x:List W,ud x=true->sameAll (toDL x) (toDL x)=true
 |[],_=>rfl
 |x::a,d=>by have d:=NM.mp d;exact NM.mpr ⟨toD_refl x d.1,toDL_refl a d.2⟩
end
theorem toD_same(x y:W)(d:Aj x=true)(e:Aj y=true):same (toD x) (toD y)=true↔x=y:=⟨toD_inj x y d e,by rintro rfl;exact toD_refl x d⟩
theorem toDL_map:∀l:List W,toDL l=l.map toD
 |[]=>rfl
 |w::l=>Pt (toD w::·) (toDL_map l)
theorem pO:∀l:List W,ud l=l.all Aj
 |[]=>rfl
 |w::l=>Pt (Aj w&&·) (pO l)
theorem Io:∀(n:Nat)(w:W),(wk n w=true\/Lk n w=true)->Aj w=true/\(toD w).depth<=n+1
 |n,.aV,_=>⟨rfl,KB _⟩
 |n,.bl _,_=>⟨rfl,KB _⟩
 |n,.int _,_=>⟨rfl,KB _⟩
 |n,.str x,h=>by
  have:PyData.strOk x=true:=by
   rcases h with h|h
   .cases n<;>exact h
   .cases n<;>exact h
  exact⟨this,KB _⟩
 |0,.lst l,h=>h.elim ff ff
 |0,.tup l,h=>h.elim ff ff
 |n+1,.lst l,h=>by
  have b:∀w∈l,Aj w=true/\(toD w).depth<=n+1:=λw a=>by
   refine Io n w ?_;rcases h with h|h
   .exact .inl (Kj.mp h w a)
   .exact .inr (Kj.mp h w a)
  refine⟨(pO l).trans (Kj.mpr λw a=>(b w a).1),?_⟩;dsimp only[toD];rw[toDL_map];exact S8 (vK λx c=>by obtain⟨w,a,rfl⟩:=Nw.mp c;exact(b w a).2)
 |n+1,.tup l,h=>by
  have b:∀w∈l,Aj w=true/\(toD w).depth<=n+1:=λw a=>by
   refine Io n w ?_;rcases h with h|h
   .exact .inl (Kj.mp h w a)
   .exact .inr (Kj.mp h w a)
  refine⟨(pO l).trans (Kj.mpr λw a=>(b w a).1),?_⟩;dsimp only[toD];rw[toDL_map];exact S8 (vK λx c=>by obtain⟨w,a,rfl⟩:=Nw.mp c;exact(b w a).2)
 |0,.ty _,h=>h.elim ff ff
 |0,.cls _,h=>h.elim ff ff
 |0,.err _,h=>h.elim ff ff
 |0,.dct _ _,h=>h.elim ff ff
 |0,.obj _ _ _,h=>h.elim ff ff
 |0,.gQ _,h=>h.elim ff ff
 |n+1,.ty _,h=>h.elim ff ff
 |n+1,.cls _,h=>h.elim ff ff
 |n+1,.err _,h=>h.elim ff ff
 |n+1,.dct _ _,h=>h.elim ff ff
 |n+1,.obj _ _ _,h=>h.elim ff ff
 |n+1,.gQ _,h=>h.elim ff ff
inductive Al(b:Bool):PyData->Prop where
 |none:Al b .none
 |str (x:Str):Al b (.str x)
 |bool (x:Bool) (h:b=true):Al b (.bool x)
 |int (x:Int) (h:b=false):Al b (.int x)
 |list {l:List PyData} (h:∀x∈l,Al b x):Al b (.list l)
 |tuple {l:List PyData} (h:∀x∈l,Al b x):Al b (.tuple l)
mutual
theorem ue{b:Bool}:∀d e:PyData,Al b d->Al b e->SeqAt.noMix d e=true
 |.list c,.list a,h,k=>by
  cases h with
  |list h=>
   cases k with
   |list k=>rw[SeqAt.noMix];exact pP c a h k
 |.tuple c,.tuple a,h,k=>by
  cases h with
  |tuple h=>
   cases k with
   |tuple k=>rw[SeqAt.noMix];exact pP c a h k
 |.bool _,.int _,h,k=>by
  cases h with
  |bool _ h=>
   cases k with
   |int _ k=>rw[h]at k;cases k
 |.int _,.bool _,h,k=>by
  cases h with
  |int _ h=>
   cases k with
   |bool _ k=>rw[h]at k;exact ff k
 |.dict _,_,h,_=>by cases h
 |.none,.none,_,_=>by simp[SeqAt.noMix]
 |.none,.bool _,_,_=>by simp[SeqAt.noMix]
 |.none,.int _,_,_=>by simp[SeqAt.noMix]
 |.none,.str _,_,_=>by simp[SeqAt.noMix]
 |.none,.list _,_,_=>by simp[SeqAt.noMix]
 |.none,.tuple _,_,_=>by simp[SeqAt.noMix]
 |.none,.dict _,_,_=>by simp[SeqAt.noMix]
 |.bool _,.none,_,_=>by simp[SeqAt.noMix]
 |.bool _,.bool _,_,_=>by simp[SeqAt.noMix]
 |.bool _,.str _,_,_=>by simp[SeqAt.noMix]
 |.bool _,.list _,_,_=>by simp[SeqAt.noMix]
 |.bool _,.tuple _,_,_=>by simp[SeqAt.noMix]
 |.bool _,.dict _,_,_=>by simp[SeqAt.noMix]
 |.int _,.none,_,_=>by simp[SeqAt.noMix]
 |.int _,.int _,_,_=>by simp[SeqAt.noMix]
 |.int _,.str _,_,_=>by simp[SeqAt.noMix]
 |.int _,.list _,_,_=>by simp[SeqAt.noMix]
 |.int _,.tuple _,_,_=>by simp[SeqAt.noMix]
 |.int _,.dict _,_,_=>by simp[SeqAt.noMix]
 |.str _,.none,_,_=>by simp[SeqAt.noMix]
 |.str _,.bool _,_,_=>by simp[SeqAt.noMix]
 |.str _,.int _,_,_=>by simp[SeqAt.noMix]
 |.str _,.str _,_,_=>by simp[SeqAt.noMix]
 |.str _,.list _,_,_=>by simp[SeqAt.noMix]
 |.str _,.tuple _,_,_=>by simp[SeqAt.noMix]
 |.str _,.dict _,_,_=>by simp[SeqAt.noMix]
 |.list _,.none,_,_=>by simp[SeqAt.noMix]
 |.list _,.bool _,_,_=>by simp[SeqAt.noMix]
 |.list _,.int _,_,_=>by simp[SeqAt.noMix]
 |.list _,.str _,_,_=>by simp[SeqAt.noMix]
 |.list _,.tuple _,_,_=>by simp[SeqAt.noMix]
 |.list _,.dict _,_,_=>by simp[SeqAt.noMix]
 |.tuple _,.none,_,_=>by simp[SeqAt.noMix]
 |.tuple _,.bool _,_,_=>by simp[SeqAt.noMix]
 |.tuple _,.int _,_,_=>by simp[SeqAt.noMix]
 |.tuple _,.str _,_,_=>by simp[SeqAt.noMix]
 |.tuple _,.list _,_,_=>by simp[SeqAt.noMix]
 |.tuple _,.dict _,_,_=>by simp[SeqAt.noMix]
theorem pP{b:Bool}:∀c a:List PyData,(∀x∈c,Al b x)->(∀y∈a,Al b y)->SeqAt.noMixAll c a=true
 |[],[],_,_=>by simp[SeqAt.noMixAll]
 |[],_::_,_,_=>by simp[SeqAt.noMixAll]
 |_::_,[],_,_=>by simp[SeqAt.noMixAll]
 |x::c,y::a,h,k=>by rw[SeqAt.noMixAll,ue x y (h x FR) (k y FR),pP c a (λz hz=>h z (Ee _ hz)) λz hz=>k z (Ee _ hz)];rfl
end
theorem uf:∀(n:Nat)(w:W),wk n w=true->Al false (toD w)
 |n,.aV,_=>.none
 |n,.int i,_=>.int i rfl
 |n,.str x,_=>.str x
 |n,.bl _,h=>by cases n<;>exact ff h
 |n+1,.lst l,h=>by dsimp only[toD];rw[toDL_map];exact .list λx a=>by obtain⟨w,b,rfl⟩:=Nw.mp a;exact uf n w (Kj.mp h w b)
 |n+1,.tup l,h=>by dsimp only[toD];rw[toDL_map];exact .tuple λx a=>by obtain⟨w,b,rfl⟩:=Nw.mp a;exact uf n w (Kj.mp h w b)
 |0,.lst l,h=>ff h
 |0,.tup l,h=>ff h
 |n,.ty _,h=>by cases n<;>exact ff h
 |n,.cls _,h=>by cases n<;>exact ff h
 |n,.err _,h=>by cases n<;>exact ff h
 |n,.dct _ _,h=>by cases n<;>exact ff h
 |n,.obj _ _ _,h=>by cases n<;>exact ff h
 |n,.gQ _,h=>by cases n<;>exact ff h
theorem ug:∀(n:Nat)(w:W),Lk n w=true->Al true (toD w)
 |n,.aV,_=>.none
 |n,.bl i,_=>.bool i rfl
 |n,.str x,_=>.str x
 |n,.int _,h=>by cases n<;>exact ff h
 |n+1,.lst l,h=>by dsimp only[toD];rw[toDL_map];exact .list λx a=>by obtain⟨w,b,rfl⟩:=Nw.mp a;exact ug n w (Kj.mp h w b)
 |n+1,.tup l,h=>by dsimp only[toD];rw[toDL_map];exact .tuple λx a=>by obtain⟨w,b,rfl⟩:=Nw.mp a;exact ug n w (Kj.mp h w b)
 |0,.lst l,h=>ff h
 |0,.tup l,h=>ff h
 |n,.ty _,h=>by cases n<;>exact ff h
 |n,.cls _,h=>by cases n<;>exact ff h
 |n,.err _,h=>by cases n<;>exact ff h
 |n,.dct _ _,h=>by cases n<;>exact ff h
 |n,.obj _ _ _,h=>by cases n<;>exact ff h
 |n,.gQ _,h=>by cases n<;>exact ff h
section
variable{X:Cx}
theorem uh(D:X.A.units+64<cLine)(g:Bool){a:List (Addr×Obj)}{s:Shared}{f:St}{H:Hp}{B:Addr->Prop}{x y:W}{m l:V}{v u:Value}{P:KP}{Q:VK}(I:Inv X a f H s)(r:RelV m v)(p:RelV l u)(C:bf X.K B H x m)(z:bf X.K B H y l)
 (h:((wk 9 x=true/\wk 9 y=true)\/(Lk 9 x=true/\Lk 9 y=true))/\∀b:Bool,(b=true↔x=y)->P (.bl (if g then !b else b)))(c:Cont X.K B H .s P Q):
 wpAny (model X.prog X.w) X.A (compareOp (if g then .NotEq else .Eq) v u) (EP X a f Q) X.xe s:=by
 obtain⟨i,h⟩:=h;have e:=Io 9 x (i.imp e7 e7);have d:=Io 9 y (i.imp dV dV);have o:SeqAt.shaped (toD x)=true:=by unfold SeqAt.shaped;rw[toD_lay x e.1,He (Bz e.2 (by decide))];rfl
 have n:SeqAt.shaped (toD y)=true:=by unfold SeqAt.shaped;rw[toD_lay y d.1,He (Bz d.2 (by decide))];rfl
 have t:SeqAt.noMix (toD x) (toD y)=true:=by
  rcases i with⟨k,j⟩|⟨k,j⟩
  .exact ue _ _ (uf 9 x k) (uf 9 y j)
  .exact ue _ _ (ug 9 x k) (ug 9 y j)
 have q:=h (same (toD x) (toD y)) (toD_same x y e.1 d.1);cases g with
 |true=>exact MR D a s f H _ _ v u Q I r p ⟨_,_,Im e.1 C,Im d.1 z,⟨o,n,t⟩,c.now q (yj _)⟩
 |false=>exact MQ D a s f H _ _ v u Q I r p ⟨_,_,Im e.1 C,Im d.1 z,⟨o,n,t⟩,c.now q (yj _)⟩
theorem Ll(p:X.A.units+64<cLine)(e:Bool):Ih X (compareOp (if e then .NotEq else .Eq)) (WL e) mS:=by
 intro f s r H B x y E D v u P Q I d l g n m h c;have sc:∀a b:V,MA a b=true->(∀k:Bool,k=decide (a=b)->Q (.bl (if e then !k else k)) H)->RelV a v->RelV b u->wpAny (model X.prog X.w) X.A (compareOp (if e then .NotEq else .Eq) v u) (EP X f r Q) X.xe s:=λa b C q z t=>by
  cases e with
  |true=>exact RK f s r H _ _ v u Q I z t ⟨C,q _ rfl⟩
  |false=>exact RJ f s r H _ _ v u Q I z t ⟨C,q _ rfl⟩
 cases x with
 |int i=>
  cases y with
  |int j=>
   cases n.int;cases m.int;refine sc _ _ rfl (λk o=>c.now (w:=.bl (if e then !k else k)) ?_ (yj _)) l g;rw[o,show decide (V.int i=V.int j)=decide (i=j)from by simp];exact h
  |_=>exact uh p e I l g n m h c
 |str i=>
  cases y with
  |str j=>
   cases n.str;cases m.str;refine sc _ _ rfl (λk o=>c.now (w:=.bl (if e then !k else k)) ?_ (yj _)) l g;rw[o,show decide (V.str i=V.str j)=decide (i=j)from by simp];exact h
  |_=>exact uh p e I l g n m h c
 |bl i=>
  cases y with
  |bl j=>
   cases n.bl;cases m.bl;refine sc _ _ rfl (λk o=>c.now (w:=.bl (if e then !k else k)) ?_ (yj _)) l g;rw[o,show decide (V.bl i=V.bl j)=decide (i=j)from by simp];exact h
  |_=>exact uh p e I l g n m h c
 |_=>exact uh p e I l g n m h c
theorem Lm(i:Bool):Ih X (compareOp (if i then .IsNot else .Is)) (WM i) mS:=by
 intro j s m H B x y n t v u P Q I d r o l C h c;have a:t=.aV->(∀k:Bool,k=decide (n=.aV)->P (.bl (if i then !k else k)))->wpAny (model X.prog X.w) X.A (compareOp (if i then .IsNot else .Is) v u) (EP X j m Q) X.xe s:=λe q=>by
  cases i with
  |true=>exact GW j s m H _ _ v u Q I r o ⟨e,c.now (q _ rfl) (yj _)⟩
  |false=>exact MB j s m H _ _ v u Q I r o ⟨e,c.now (q _ rfl) (yj _)⟩
 cases y with
 |aV=>
  have e:=C.aV;cases x with
  |aV=>have g:=l.aV;refine a e λk f=>?_;rw[f,g];cases i<;>exact h
  |bl b=>have g:=l.bl;refine a e λk f=>?_;rw[f,g];cases i<;>exact h
  |int b=>have g:=l.int;refine a e λk f=>?_;rw[f,g];cases i<;>exact h
  |str b=>have g:=l.str;refine a e λk f=>?_;rw[f,g];cases i<;>exact h
  |lst b=>obtain⟨p,z,g,_⟩:=l.lst;refine a e λk f=>?_;rw[f,g];cases i<;>exact h
  |tup b=>obtain⟨p,z,g,_⟩:=l.tup;refine a e λk f=>?_;rw[f,g];cases i<;>exact h
  |err b=>have l:Rep X.K B H (.err b) n:=l;obtain⟨p,g,_⟩:=l;refine a e λk f=>?_;rw[f,g];cases i<;>exact h
  |_=>exact h.elim
 |_=>
  exfalso
  cases x<;>exact h
theorem um(b:X.A.units+64<cLine)(op:CmpOp):Ih X (compareOp op) (eZ op) mS:=by
 cases op with
 |Eq=>exact Ll b false
 |NotEq=>exact Ll b true
 |Lt=>exact uc RM
 |LtE=>exact uc RN
 |Gt=>exact uc RO
 |GtE=>exact uc RP
 |Is=>exact Lm false
 |IsNot=>exact Lm true
 |_=>exact λa s e H B x y g f v u P Q I d j i l k h c=>h.elim
end
noncomputable def ER(X:Cx)(b:Hp)(R:Addr->Prop):Prop:=∃E:XK,Passes (jB X.prog X.w) X E/\(∀C a,R C->aq b a->E (.ref C) none a)/\Dy X (λC a=>R C/\aq b a)
theorem BY{X:Cx}:Passes (jB X.prog X.w) X E0:=λ_ _ _ _ _ _ _ h=>by obtain⟨_,_,_,_,_,q⟩:=h;exact q.elim
theorem ER.none{X:Cx}{a:Hp}:ER X a λ_=>False:=⟨E0,BY,λ_ _ z=>z.elim,λ_ _ _ _ _ _ _ _ _ _ z=>z.1.elim⟩
abbrev RL:=(Addr->Prop)->Hp->Hp->W->V->Prop
abbrev WT:=Ev->(W->Prop)->Prop
noncomputable def Np(K:Frag)(m:Md):RL:=λB H a w v=>cY K B H a m w v
noncomputable def Ym(K:Frag):RL:=λB _ a w v=>bf K B a w v
noncomputable def tV(X:Cx)(M:Ms)(R:Addr->Prop)(e:RL)(t:WT):TE:=λb H Q=>∃A d c P,SR X.K M A d b H c/\ER X d R/\t c P/\∀w v a,P w->aq H a->e (FB A M b) H a w v->Q v a
noncomputable def Yn(X:Cx)(M:Ms)(R:Addr->Prop)(t:WT):TT:=λe H Q=>∃A c a P,SR X.K M A c e H a/\ER X c R/\t a P/\∀x d,P x->aq H d->∃b,x=.bl b/\Q b d
abbrev WO:=(Addr->Prop)->Hp->List W->List V->Prop
noncomputable def Yo(X:Cx)(M:Ms)(R:Addr->Prop)(g:WO)(t:Ev->(List W->Prop)->Prop):TA:=λb H Q=>∃A f c P,SR X.K M A f b H c/\ER X f R/\t c P/\∀d e a,P d->aq H a->g (FB A M b) a d e->Q e a
abbrev VE(X:Cx)(M:Ms)(R:Addr->Prop)(m:Md)(e:Expr)(t:WT):Prop:=PE X e (tV X M R (Np X.K m) t)
abbrev VB(X:Cx)(M:Ms)(R:Addr->Prop)(e:Expr)(t:WT):Prop:=PE X e (tV X M R (Ym X.K) t)
abbrev VT(X:Cx)(M:Ms)(R:Addr->Prop)(e:Expr)(t:WT):Prop:=PT X e (Yn X M R t)
noncomputable def nG(K:Frag)(B:Addr->Prop)(H:Hp):List W->List V->Prop
 |[],vs=>vs=[]
 |w::a,vs=>∃v r,vs=v::r/\bf K B H w v/\nG K B H a r
noncomputable def ρL(K:Frag):WO:=λB H a b=>af K B H a b
noncomputable def WQ(K:Frag):WO:=λB H a b=>nG K B H a b
abbrev VA(X:Cx)(M:Ms)(R:Addr->Prop)(es:List Expr)(t:Ev->(List W->Prop)->Prop):Prop:=PA X es (Yo X M R (ρL X.K) t)
abbrev QK(X:Cx)(M:Ms)(R:Addr->Prop)(es:List Expr)(t:Ev->(List W->Prop)->Prop):Prop:=PA X es (Yo X M R (WQ X.K) t)
theorem PE.imp{X:Cx}{e:Expr}{t t':TE}(h:PE X e t)(k:∀a H Q,t' a H Q->t a H Q):PE X e t':=λb s a H Q I w=>h b s a H Q I (k a H Q w)
theorem PT.imp{X:Cx}{e:Expr}{t t':TT}(h:PT X e t)(k:∀a H Q,t' a H Q->t a H Q):PT X e t':=λb s a H Q I w=>h b s a H Q I (k a H Q w)
theorem PW.imp{X:Cx}{e:Expr}{t t':TT}(h:PW X e t)(k:∀a H Q,t' a H Q->t a H Q):PW X e t':=λc b s a H Q I w=>h c b s a H Q I (k a H Q w)
theorem PA.imp{X:Cx}{e:List Expr}{t t':TA}(h:PA X e t)(k:∀a H Q,t' a H Q->t a H Q):PA X e t':=λc b s a H Q I w=>h c b s a H Q I (k a H Q w)
section
variable{X:Cx}{M:Ms}{R:Addr->Prop}{e a b c:Expr}{t ta tb tc:WT}{m:Md}{pos:Pos}
theorem BZ(h:VE X M R m e t):VE X M R .s e t:=PE.imp h<|by rintro j H Q ⟨A,g,d,P,S,f,p,k⟩;exact⟨A,g,d,P,S,f,p,λw v i pw s r=>k w v i pw s (r.s S.dom)⟩
theorem Tr(h:VE X M R m e t):VB X M R e t:=PE.imp h<|by rintro j H Q ⟨A,g,d,P,S,f,p,k⟩;exact⟨A,g,d,P,S,f,p,λw v i pw s r=>k w v i pw s (r.rep S.dom).b⟩
theorem Ey{i:Nat}(h:PE X e (jO i))(r:aL M i->(i,.f)∈M):VB X M R e (λd Q=>match look d i with|some w=>Q w|none=>False):=PE.imp h<|by
 rintro x H Q ⟨A,B,d,P,S,z,p,k⟩
 revert p
 cases l:look d i with
 |none=>exact λp=>p.elim
 |some w=>
  intro p;by_cases n:aL M i
  .obtain⟨F,O⟩:=S.ow;obtain⟨v,j,g⟩:=O.val i .f w (r n) l;obtain⟨y,q,o,rfl,rfl,_,u,s⟩:=g;exact⟨_,j,k _ _ H p (aq.refl H) ⟨q,o,rfl,.inl u,s⟩⟩
  .obtain⟨v,j,g⟩:=S.sh i w n l;exact⟨v,j,k _ _ H p (aq.refl H) g.b⟩
theorem Nq{i:Nat}(h:PE X e (jO i))(hi:¬aL M i):VE X M R .s e (λd Q=>match look d i with|some w=>Q w|none=>False):=PE.imp h<|by
 rintro l H Q ⟨A,o,d,P,S,n,p,k⟩
 revert p
 cases f:look d i with
 |none=>exact λp=>p.elim
 |some w=>intro p;obtain⟨v,j,g⟩:=S.sh i w hi f;exact⟨v,j,k _ _ H p (aq.refl H) (.of g)⟩
noncomputable def uo(K:Frag)(i:Nat)(π:List mG):TE:=λd H Q=>∃v u,d[i]?=some (some v)/\vf K H v π u/\Q u H
theorem Ez{i:Nat}{π:List mG}{m h:Md}{K:Frag}{A:Fz}{s H:Hp}{f:St}{g:Ev}{w u:W}(S:SR K M A s f H g)(l:(i,m)∈M)(k:jC m π=some h)(n:look g i=some w)(j:cP w π=some u):
 ∃v d F,f[i]?=some (some v)/\vf K H v π d/\Fp K A.B H h u d F:=by
 obtain⟨F,O⟩:=S.ow;obtain⟨v,p,o⟩:=O.val i m w l n;obtain⟨d,z,x,y,_,r,q,_⟩:=Fp.path π m o k j;exact⟨v,d,x,p,r,q⟩
theorem wu{d:Ev}{i:Nat}{π:List mG}{Q:W->Prop}(h:match look d i with|some w=>(match cP w π with|some u=>Q u|none=>False)|none=>False):∃w u,look d i=some w/\cP w π=some u/\Q u:=by
 cases g:look d i with
 |none=>rw[g]at h;exact h.elim
 |some w=>
  rw[g]at h;dsimp only at h;cases f:cP w π with
  |none=>rw[f]at h;exact h.elim
  |some u=>rw[f]at h;exact⟨w,u,rfl,f,h⟩
theorem Nr{i:Nat}{π:List mG}{j:Md}(h:PE X e (uo X.K i π))(r:(i,j)∈M)(o:jC j π=some .f):VB X M R e (λg Q=>match look g i with|some w=>(match cP w π with|some u=>Q u|none=>False)|none=>False):=PE.imp h<|by rintro C H Q ⟨A,I,g,P,S,G,p,k⟩;obtain⟨w,u,B,z,q⟩:=wu p;obtain⟨v,E,F,y,x,d⟩:=Ez S r o B z;obtain⟨D,n,l,rfl,rfl,_,d,s⟩:=d;exact⟨v,_,y,x,k _ _ H q (aq.refl H) ⟨n,l,rfl,.inl d,s⟩⟩
theorem Nt{i:Nat}{π:List mG}{f:Md}(h:PE X e (uo X.K i π))(n:(i,f)∈M)(l:jC f π=some .s):VE X M R .s e (λd Q=>match look d i with|some w=>(match cP w π with|some u=>Q u|none=>False)|none=>False):=PE.imp h<|by rintro z H Q ⟨A,C,d,P,S,B,p,k⟩;obtain⟨w,u,y,x,q⟩:=wu p;obtain⟨v,j,F,r,o,g⟩:=Ez S n l y x;dsimp only[Fp]at g;exact⟨v,j,r,o,k _ _ H q (aq.refl H) (.of g.2)⟩
theorem B3{v:V}{w:W}(h:PE X e (tC v))(d:∀B H,Rep X.K B H w v):VE X M R .s e (λ_ Q=>Q w):=PE.imp h<|by rintro f H Q ⟨A,j,g,P,S,i,p,k⟩;exact k _ _ H p (aq.refl H) (.of (d _ _))
theorem EA{op:Operator}(T:VB X M R a ta)(O:VB X M R b tb)(N:∀x y,Il op x y=m\/m=.s):VE X M R m (.BinOp a op b pos) (λi Q=>ta i λx=>tb i λy=>gR op x y Q):=by
 rintro j s g H Q I ⟨A,E,i,P,S,D,p,k⟩;refine wpAny_BinOp (bin T O I (R:=λn l f=>∃x y,gR op x y P/\aq H f/\bf X.K (FB A M g) f x n/\bf X.K (FB A M g) f y l) ⟨A,E,i,_,S,D,p,λx n Z B C J=>⟨A,E,i,_,S.same C,D,B,λy l f q o G=>⟨x,y,q,C.trans o,bf.same o J,G⟩⟩⟩ ?_);rintro v u o n l f U rv L ⟨x,y,h,sm,B,q⟩;have d:=(S.same sm).dom;refine ym op j o g f (FB A M g) x y n l v u P Q U d rv L B q h ?_;have c:Cont X.K (FB A M g) f m P Q:=λw z Y pw F r=>k w z Y pw (sm.trans F) (r.back sm λ_ z=>z);rcases N x y with e|e
 .rw[e];exact c
 .subst e;exact Cont.s d c
end
theorem bE{x:W}{Q:Bool->Prop}(h:truth x Q):∃b,x=.bl b/\Q b:=by
 cases x with
 |bl b=>exact⟨b,rfl,h⟩
 |_=>exact h.elim
theorem Rep.j5{K:Frag}{B:Addr->Prop}{H:Hp}{b:Bool}{v:V}(h:Rep K B H (.bl b) v):v=.bl b:=by dsimp only[Rep]at h;exact h
theorem Rep.int_inv{K:Frag}{B:Addr->Prop}{H:Hp}{b:Int}{v:V}(h:Rep K B H (.int b) v):v=.int b:=by dsimp only[Rep]at h;exact h
theorem cY.bI{K:Frag}{B:Addr->Prop}{H H':Hp}{w:W}{v:V}(h:cY K B H H' .s w v):Rep K B H' w v:=by obtain⟨F,_,_,h⟩:=h;obtain⟨rfl,h⟩:=h;exact h.less λp z=>.inl z
section
variable{X:Cx}{M:Ms}{R:Addr->Prop}{e a b c:Expr}{t ta tb tc:WT}{m:Md}{pos:Pos}{rest es:List Expr}
noncomputable def Nu:W->Bool
 |.lst _=>true
 |_=>false
theorem Nv{op:Operator}{x y:W}{P:W->Prop}(h:gR op x y P)(d:(op=.Add/\(Nu x=true\/Nu y=true))\/(op=.Mult/\Nu x=true)):Il op x y=.f:=by
 rcases d with⟨rfl,d⟩|⟨rfl,d⟩
 .cases x with
  |lst l=>rfl
  |_=>
   rcases d with d|d
   .cases d
   .cases y<;>first|exact h.elim|exact ff d
 .cases x<;>first|rfl|exact ff d
theorem yo{op:Operator}{G F:RL}(ha:PE X a (tV X M R G ta))(hb:PE X b (tV X M R F tb))(h1:∀B H H' w v,Dom B H->G B H H' w v->bf X.K B H' w v)(h2:∀B H H' w v,Dom B H->F B H H' w v->bf X.K B H' w v)
 (ho:∀B H H' w v B2 g J L Y,G B H H' w v->F B2 g J L Y->(op=.Add/\(Nu w=true\/Nu L=true))\/(op=.Mult/\Nu w=true)):VE X M R .f (.BinOp a op b pos) (λi Q=>ta i λx=>tb i λy=>gR op x y Q):=by
 rintro j s l H Q I ⟨A,U,i,P,S,T,p,k⟩;refine wpAny_BinOp (bin ha hb I (R:=λo n g=>∃x y,gR op x y P/\aq H g/\bf X.K (FB A M l) g x o/\bf X.K (FB A M l) g y n/\Il op x y=.f) ⟨A,U,i,_,S,T,p,λx o H1 E D O=>⟨A,U,i,_,S.same D,T,E,λy n g C q N=>⟨x,y,C,D.trans q,bf.same q (h1 _ _ _ _ _ S.dom O),h2 _ _ _ _ _ (S.same D).dom N,Nv C (ho _ _ _ _ _ _ _ _ _ _ O N)⟩⟩⟩ ?_);rintro v u q o n g I2 rv ru ⟨x,y,h,sm,E,C,em⟩;have d:=(S.same sm).dom;refine ym op j q l g (FB A M l) x y o n v u P Q I2 d rv ru E C h ?_;rw[em];exact λw z H' pw Z r=>k w z H' pw (sm.trans Z) (r.back sm λ_ z=>z)
theorem Nx(j:VE X M R .s a ta):VE X M R .s (.UnaryOp .USub a pos) (λd Q=>ta d λx=>match x with|.int i=>Q (.int (-i))|_=>False):=PE.imp (RG My j)<|by
 rintro q H Q ⟨A,o,d,P,S,l,p,k⟩;refine⟨A,o,d,_,S,l,p,λx r n f g h=>?_⟩;cases x with
 |int i=>exact⟨i,h.bI.int_inv,k _ _ n f g (.of (fR _))⟩
 |_=>exact f.elim
theorem Ny(i:VE X M R .s a ta):VE X M R .s (.UnaryOp .Not a pos) (λd Q=>ta d λx=>truth x λb=>Q (.bl (!b))):=PE.imp (Me i)<|by rintro o H Q ⟨A,n,d,P,S,j,p,k⟩;refine⟨A,n,d,_,S,j,p,λx q l f g h=>?_⟩;obtain⟨b,rfl,f⟩:=bE f;exact⟨b,h.bI.j5,k _ _ l f g (.of (yj _))⟩
theorem Nz{op:CmpOp}(L:X.A.units+64<cLine)(N:behindInMarks op b=false)(T:VB X M R a ta)(O:VB X M R b tb):VE X M R .s (.Compare a [op] [b] pos) (λf Q=>ta f λx=>tb f λy=>eZ op x y Q):=by rintro g s i H Q I ⟨A,D,f,P,S,C,p,k⟩;refine wpAny_Compare1 (bin T O I (R:=λl j d=>∃x y,eZ op x y P/\aq H d/\bf X.K (FB A M i) d x l/\bf X.K (FB A M i) d y j) ⟨A,D,f,_,S,C,p,λx l Z q B G=>⟨A,D,f,_,S.same B,C,q,λy j d o n F=>⟨x,y,o,B.trans n,bf.same n G,F⟩⟩⟩ ?_) N;rintro v u n l j d U rv J ⟨x,y,h,sm,q,o⟩;exact um L op g n i d (FB A M i) x y l j v u P Q U (S.same sm).dom rv J q o h λw z Y pw E r=>k w z Y pw (sm.trans E) (r.back sm λ_ z=>z)
theorem NB{op:CmpOp}(hu:X.A.units+64<cLine)(hm:behindInMarks op b=false)(ha:VB X M R a ta)(hb:VB X M R b tb):VT X M R (.Compare a [op] [b] pos) (λj Q=>ta j λx=>tb j λy=>eZ op x y Q):=by
 rintro d s i H Q I ⟨A,G,j,P,S,F,p,k⟩;have q:=bin ha hb I (R:=λo n g=>∃x y,eZ op x y P/\aq H g/\bf X.K (FB A M i) g x o/\bf X.K (FB A M i) g y n) ⟨A,G,j,_,S,F,p,λx o H1 D B N=>⟨A,G,j,_,S.same B,F,D,λy n g C l L=>⟨x,y,C,B.trans l,bf.same l N,L⟩⟩⟩
  (f:=compareOp op) (Q:=EP X d i λz E=>∃b,z=.bl b/\Q b E)<|by rintro v u l o n g I2 rv O ⟨x,y,h,sm,D,C⟩;refine um hu op d l i g (FB A M i) x y o n v u _ _ I2 (S.same sm).dom rv O D C h λw z E pw J r=>?_;obtain⟨b,rfl,q⟩:=k w E pw (sm.trans J);exact⟨b,r.bI.j5,q⟩
 refine wpAny_isTrue_Compare1 (bV q λv B Z=>bV Z λu l Y=>bV Y λc s3 ⟨z,H3,I3,T,b,ez,U⟩=>?_) hm;subst ez;cases T;exact d6 ⟨H3,I3,U⟩
theorem NC(u:VE X M R .s a ta)(r:VE X M R .s (.BoolOp .And (b::rest) pos) tb):VE X M R .s (.BoolOp .And (a::b::rest) pos) (λd Q=>ta d λx=>truth x λk=>if k=true then tb d Q else Q (.bl false)):=
 PE.imp (Mc u r)<|by
  rintro B H Q ⟨A,j,d,P,S,i,h,k⟩;refine⟨A,j,d,_,S,i,h,λx D w g f o=>?_⟩;obtain⟨q,rfl,g⟩:=bE g;refine⟨q,o.bI.j5,?_⟩;cases q with
  |true=>exact⟨A,j,d,_,S.same f,i,g,λy C v p l n=>k _ _ v p (f.trans l) (n.back f λ_ z=>z)⟩
  |false=>exact k _ _ w g f (.of (yj _))
theorem Tt(u:VE X M R .s a ta)(r:VE X M R .s (.BoolOp .Or (b::rest) pos) tb):VE X M R .s (.BoolOp .Or (a::b::rest) pos) (λd Q=>ta d λx=>truth x λk=>if k=true then Q (.bl true)else tb d Q):=
 PE.imp (Rt u r)<|by
  rintro B H Q ⟨A,j,d,P,S,i,h,k⟩;refine⟨A,j,d,_,S,i,h,λx D w g f o=>?_⟩;obtain⟨q,rfl,g⟩:=bE g;refine⟨q,o.bI.j5,?_⟩;cases q with
  |false=>exact⟨A,j,d,_,S.same f,i,g,λy C v p l n=>k _ _ v p (f.trans l) (n.back f λ_ z=>z)⟩
  |true=>exact k _ _ w g f (.of (yj _))
abbrev Ln(X:Cx)(M:Ms)(R:Addr->Prop)(e:Expr)(t:WT):Prop:=PW X e (Yn X M R t)
theorem Ip(d:VT X M R a ta):Ln X M R (.BoolOp .And [a] pos) ta:=yY d
theorem ND(d:VT X M R a ta):Ln X M R (.BoolOp .Or [a] pos) ta:=Ma d
theorem NF(p:VT X M R a ta)(o:Ln X M R (.BoolOp .And (b::rest) pos) tb):Ln X M R (.BoolOp .And (a::b::rest) pos) (λd Q=>ta d λx=>truth x λk=>if k=true then tb d Q else Q (.bl false)):=
 PW.imp (CU p o)<|by
  rintro u H Q ⟨A,j,d,P,S,i,h,k⟩;refine⟨A,j,d,_,S,i,h,λx s f g=>?_⟩;obtain⟨q,rfl,f⟩:=bE f;refine⟨q,rfl,?_⟩;cases q with
  |true=>exact⟨A,j,d,P,S.same g,i,f,λy r n l=>k _ r n (g.trans l)⟩
  |false=>obtain⟨b,e,q⟩:=k _ s f g;cases e;exact q
theorem Tu(p:VT X M R a ta)(o:Ln X M R (.BoolOp .Or (b::rest) pos) tb):Ln X M R (.BoolOp .Or (a::b::rest) pos) (λd Q=>ta d λx=>truth x λk=>if k=true then Q (.bl true)else tb d Q):=
 PW.imp (Ro p o)<|by
  rintro u H Q ⟨A,j,d,P,S,i,h,k⟩;refine⟨A,j,d,_,S,i,h,λx s f g=>?_⟩;obtain⟨q,rfl,f⟩:=bE f;refine⟨q,rfl,?_⟩;cases q with
  |false=>exact⟨A,j,d,P,S.same g,i,f,λy r n l=>k _ r n (g.trans l)⟩
  |true=>obtain⟨b,e,q⟩:=k _ s f g;cases e;exact q
theorem NG(i:VT X M R a ta):VT X M R (.UnaryOp .Not a pos) (λd Q=>ta d λx=>truth x λb=>Q (.bl (!b))):=PT.imp (Mb i)<|by rintro o H Q ⟨A,n,d,P,S,j,h,k⟩;refine⟨A,n,d,_,S,j,h,λx l f g=>?_⟩;obtain⟨q,rfl,f⟩:=bE f;obtain⟨b,e,z⟩:=k _ l f g;cases e;exact⟨q,rfl,z⟩
theorem uq(l:∀d,isTrue e X.env d=(do let v<-d;standAt e.pos;holding [v] (truthy v)))(h:VE X M R .s e t):VT X M R e t:=PT.imp (CT h l)<|by rintro q H Q ⟨A,p,f,P,S,n,h,k⟩;refine⟨A,p,f,P,S,n,h,λx r o j g i=>?_⟩;obtain⟨b,rfl,z⟩:=k _ o j g;exact⟨b,i.bI.j5,z⟩
theorem EB(s:VT X M R c tc)(v:VE X M R m a ta)(u:VE X M R m b tb):VE X M R m (.IfExp c a b pos) (λd Q=>tc d λx=>truth x λk=>if k=true then ta d Q else tb d Q):=PE.imp (CW s v u)<|by
 rintro w H Q ⟨A,p,d,P,S,n,h,k⟩;refine⟨A,p,d,_,S,n,h,λx B g f=>?_⟩;obtain⟨q,rfl,g⟩:=bE g;refine⟨q,rfl,?_⟩;cases q with
 |true=>exact⟨A,p,d,_,S.same f,n,g,λy r o l i j=>k _ _ o l (f.trans i) (j.back f λ_ z=>z)⟩
 |false=>exact⟨A,p,d,_,S.same f,n,g,λy r o l i j=>k _ _ o l (f.trans i) (j.back f λ_ z=>z)⟩
theorem NH:VA X M R [] (λ_ Q=>Q []):=PA.imp dJ<|by rintro d H Q ⟨A,i,f,P,S,g,h,k⟩;exact k [] [] H h (aq.refl H) .nil
theorem Iq{i:Ev->(List W->Prop)->Prop}(u:starEach (a::es) X.env=(false,eval a X.env)::starEach es X.env)(w:VE X M R .s a ta)(v:VA X M R es i):VA X M R (a::es) (λd Q=>ta d λx=>i d λg=>Q (x::g)):=
 PA.imp (bG w v u)<|by rintro z H Q ⟨A,o,d,P,S,n,h,k⟩;refine⟨A,o,d,_,S,n,h,λx B D r l p=>⟨A,o,d,_,S.same l,n,r,λg C y f j q=>?_⟩⟩;exact k _ _ y f (l.trans j) (.cons (p.bI.same j) q)
theorem Ir:QK X M R [] (λ_ Q=>Q []):=PA.imp dJ<|by rintro d H Q ⟨A,i,f,P,S,g,h,k⟩;exact k [] [] H h (aq.refl H) rfl
theorem EC{i:Ev->(List W->Prop)->Prop}(v:starEach (a::es) X.env=(false,eval a X.env)::starEach es X.env)(y:VB X M R a ta)(w:QK X M R es i):QK X M R (a::es) (λd Q=>ta d λx=>i d λg=>Q (x::g)):=
 PA.imp (bG y w v)<|by rintro B H Q ⟨A,o,d,P,S,n,h,k⟩;refine⟨A,o,d,_,S,n,h,λx p C u l r=>⟨A,o,d,_,S.same l,n,u,λg q z f j s=>?_⟩⟩;exact k _ _ z f (l.trans j) ⟨p,q,rfl,bf.same j r,s⟩
theorem NI{i:Ev->(List W->Prop)->Prop}(h:VA X M R es i):VE X M R .f (.List es pos) (λd Q=>i d λg=>g.length<=sizeLine/\Q (.lst g)):=PE.imp (sY h)<|by rintro s H Q ⟨A,r,d,P,S,q,h,k⟩;refine⟨A,r,d,_,S,q,h,λg u v n j l=>?_⟩;refine⟨by rw[af.len l];exact n.1,λp o=>?_⟩;exact k _ _ _ n.2 (j.trans (aP o _)) (.fresh j o l)
theorem NJ{g:Ev->(List W->Prop)->Prop}{n:Nat}(h:VA X M R es g):VE X M R .s (.Tuple es n pos) (λd Q=>g d λf=>f.length<=sizeLine/\Q (.tup f)):=PE.imp (C9 h)<|by rintro u H Q ⟨A,r,d,P,S,q,h,k⟩;refine⟨A,r,d,_,S,q,h,λf v w j o i=>?_⟩;refine⟨by rw[af.len i];exact j.1,λp l=>?_⟩;exact k _ _ _ j.2 (o.trans (aP l _)) (.of (yk aF (af.same (aP l _) i)))
theorem Am{K:Frag}{B:Addr->Prop}{H:Hp}{l:List W}{vs:List V}{i:Int}{w:W}(h:af K B H l vs)(e:jt l i=some w):∃v,jt vs i=some v/\Rep K B H w v:=by
 unfold jt at e⊢;rw[h.len];cases d:vE l.length i with
 |none=>rw[d]at e;exact nn e
 |some j=>rw[d]at e;exact h.get e
theorem bf.gQ{K:Frag}{B:Addr->Prop}{H:Hp}{ns:List Int}{v:V}(h:bf K B H (.gQ ns) v):∃p,v=.ref p/\ie K H p (ns.map V.int):=by
 have h:Rep K B H (.gQ ns) v:=h;obtain⟨p,e,h⟩:=h;refine⟨p,e,?_⟩;rcases h with⟨o,h⟩|h
 .exact .inl (.inr ⟨o,h⟩)
 .rcases h with(h|⟨o,h⟩)|h
  .cases h
  .cases h
  .exact .inr h
theorem An{ns:List Int}{i n:Int}(e:jt ns i=some n):jt (ns.map V.int) i=some (.int n):=by
 unfold jt at e⊢;rw[Ap];cases d:vE ns.length i with
 |none=>rw[d]at e;exact nn e
 |some j=>rw[d]at e;show(ns.map V.int)[j]?=_;have e:ns[j]?=some n:=e;rw[DL,e];rfl
theorem Tv(I:kI b)(K:VB X M R a ta)(J:VE X M R .s b tb):VE X M R .s (.Subscript a b pos) (λf Q=>ta f λx=>tb f λy=>Nk x y Q):=PE.imp (Dg xT K J I)<|by
 rintro L H Q ⟨A,F,f,P,S,E,h,k⟩;refine⟨A,F,f,_,S,E,h,λx O U G q g=>⟨A,F,f,_,S.same q,E,G,λy N D d o u=>?_⟩⟩;have g:=bf.same o g;cases x with
 |lst l=>
  cases y with
  |int i=>obtain⟨p,r,rfl,j,B⟩:=g.lst;obtain⟨w,e,d⟩:=d;obtain⟨v,C,z⟩:=Am B e;exact .inl ⟨p,r,i,v,rfl,u.bI.int_inv,.inl j,C,k _ _ D d (q.trans o) (.of z)⟩
  |_=>exact d.elim
 |tup l=>
  cases y with
  |int i=>obtain⟨p,r,rfl,j,B⟩:=g.tup;obtain⟨w,e,d⟩:=d;obtain⟨v,C,z⟩:=Am B e;exact .inr (.inl ⟨p,r,i,v,rfl,u.bI.int_inv,j,C,k _ _ D d (q.trans o) (.of z)⟩)
  |_=>exact d.elim
 |gQ T=>
  cases y with
  |int i=>obtain⟨p,rfl,j⟩:=g.gQ;obtain⟨n,e,d⟩:=d;exact .inl ⟨p,_,i,_,rfl,u.bI.int_inv,j,An e,k _ _ D d (q.trans o) (.of (fR _))⟩
  |_=>exact d.elim
 |_=>exact d.elim
theorem Lo{K:Frag}{B:Addr->Prop}{H:Hp}{l:List W}{vs:List V}(h:af K B H l vs)(lo hi:Option Int):af K B H (mJ l lo hi) (BC vs lo hi):=by unfold mJ BC;rw[h.len];exact(h.drop _).take _
noncomputable def Tw(X:Cx)(M:Ms)(R:Addr->Prop)(t:Ev->(Option Int->Prop)->Prop):TO:=λh H Q=>∃A f d P,SR X.K M A f h H d/\ER X f R/\t d P/\∀o g,P o->aq H g->Q o g
theorem PO.imp{e:Option Expr}{t t':TO}(h:PO X e t)(k:∀d H Q,t' d H Q->t d H Q):PO X e t':=λf s d H Q I w=>h f s d H Q I (k d H Q w)
theorem Iu:PO X none (Tw X M R λ_ Q=>Q none):=PO.imp G4<|by rintro d H Q ⟨A,i,f,P,S,g,h,k⟩;exact k none H h (aq.refl H)
theorem Iv(l:VE X M R .s a ta):PO X (some a) (Tw X M R λd Q=>ta d λy=>match y with|.int i=>Q (some i)|_=>False):=PO.imp (zu l)<|by
 rintro q H Q ⟨A,p,d,P,S,n,h,k⟩;refine⟨A,p,d,_,S,n,h,λx r o f g j=>?_⟩;cases x with
 |int i=>exact⟨i,j.bI.int_inv,k _ o f g⟩
 |_=>exact f.elim
theorem Tz{lo hi:Option Expr}{p2:Pos}{tl y:Ev->(Option Int->Prop)->Prop}(D:VB X M R a ta)(s:PO X lo (Tw X M R tl))(o:PO X hi (Tw X M R y)):VE X M R .f (.Subscript a (.Slice lo hi none p2) pos) (λd Q=>ta d λx=>tl d λl=>y d λh=>Vg x l h Q):=
 PE.imp (De G8 D s o)<|by
  rintro F H Q ⟨A,w,d,P,S,v,h,k⟩;refine⟨A,w,d,_,S,v,h,λx I L C i r=>⟨A,w,d,_,S.same i,v,C,λl K s g=>⟨A,w,d,_,S.same (i.trans g),v,s,λh J o j=>?_⟩⟩⟩;have r:=bf.same (g.trans j) r;cases x with
  |lst G=>obtain⟨p,z,rfl,u,E⟩:=r.lst;refine⟨p,z,rfl,.inl u,λq n=>?_⟩;exact k _ _ _ o (((i.trans g).trans j).trans (aP n _)) (.fresh ((i.trans g).trans j) n (Lo E l h))
  |gQ B=>obtain⟨p,rfl,u⟩:=r.gQ;refine⟨p,_,rfl,u,λq n=>?_⟩;exact k _ _ _ o (((i.trans g).trans j).trans (aP n _)) (.fresh ((i.trans g).trans j) n (Lo (af.Ia B) l h))
  |_=>exact o.elim
theorem NK{st:Expr}{o:WT}{p2:Pos}(D:VB X M R a ta)(C:VE X M R .s st o):VE X M R .f (.Subscript a (.Slice none none (some st) p2) pos) (λd Q=>ta d λx=>o d λy=>y=.int (-1)/\match x with|.lst l=>Q (.lst l.reverse)|_=>False):=
 PE.imp (MT D (zu C))<|by
  rintro G H Q ⟨A,v,d,P,S,u,h,k⟩;refine⟨A,v,d,_,S,u,h,λx K N B j n=>⟨A,v,d,_,S.same j,u,B,λy J L g i z=>?_⟩⟩;obtain⟨rfl,g⟩:=g;refine⟨-1,z.bI,rfl,?_⟩;have n:=bf.same i n;cases x with
  |lst I=>obtain⟨p,w,rfl,F,E⟩:=n.lst;exact⟨p,w,rfl,.inl F,λq r=>k _ _ _ g ((j.trans i).trans (aP r _)) (.fresh (j.trans i) r E.rev)⟩
  |_=>exact g.elim
noncomputable def TF:BI->Md
 |.list=>.f
 |_=>.s
noncomputable def gS(X:Cx)(f:Value)(b:BI):Prop:=
 ∀(d:List (Addr×Obj))(s:Shared)(g:St)(H:Hp)(B:Addr->Prop)(h:List W)(i:List V)(j:List Value)(P:KP)(Q:VK),Inv X d g H s->Dom B H->Vals i j->nG X.K B H h i->qJ b h P->Cont X.K B H (TF b) P Q->
  wpAny (model X.prog X.w) X.A (call f j) (EP X d g Q) X.xe s
noncomputable def NL(K:Frag)(b:BI):List V->Hp->VK->Prop:=λf H Q=>∃(B:Addr->Prop)(d:List W)(P:KP),Dom B H/\nG K B H d f/\qJ b d P/\Cont K B H (TF b) P Q
theorem gS.r{f:Value}{b:BI}(h:gS X f b):cL X f (NL X.K b):=by rintro g s i H l n Q I r ⟨B,j,P,d,p,o,k⟩;exact h g s i H B j l n P Q I d r p o k
theorem gi{K:Frag}{B:Addr->Prop}{H:Hp}{w:W}{vs:List V}(h:nG K B H [w] vs):∃v,vs=[v]/\bf K B H w v:=by obtain⟨v,r,rfl,f,d⟩:=h;cases(show r=[]from d);exact⟨v,rfl,f⟩
theorem Ao{K:Frag}{B:Addr->Prop}{H:Hp}{w w':W}{vs:List V}(h:nG K B H [w,w'] vs):∃v d,vs=[v,d]/\bf K B H w v/\bf K B H w' d:=by obtain⟨v,r,rfl,i,g⟩:=h;obtain⟨d,rfl,f⟩:=gi g;exact⟨v,d,rfl,i,f⟩
theorem cw_len:gS X (.builtin "len") .len:=by
 intro f s k H B q u n P Q I d r o h c
 match q,h with
 |[.lst l],h=>obtain⟨v,rfl,g⟩:=gi o;obtain⟨p,i,rfl,g,j⟩:=g.lst;exact iu f s k H _ n Q I r ⟨p,i,rfl,.inl (.inl g),c.now (w:=.int i.length) (by rw[j.len];exact h) (fR _)⟩
 |[.tup l],h=>obtain⟨v,rfl,g⟩:=gi o;obtain⟨p,i,rfl,g,j⟩:=g.tup;exact iu f s k H _ n Q I r ⟨p,i,rfl,.inr g,c.now (w:=.int i.length) (by rw[j.len];exact h) (fR _)⟩
 |[.gQ ns],h=>obtain⟨v,rfl,g⟩:=gi o;obtain⟨p,rfl,j⟩:=g.gQ;exact iu f s k H _ n Q I r ⟨p,_,rfl,.inl j,c.now (w:=.int ns.length) h (by rw[Ap];exact fR _)⟩
theorem cw_abs:gS X (.builtin "abs") .abs:=by
 intro f s g H B j o k P Q I d r l h c
 match j,h with
 |[.int i],h=>obtain⟨v,rfl,n⟩:=gi l;cases n.int;exact C6 f s g H _ k Q I r ⟨i,rfl,c.now h (fR _)⟩
theorem cw_max(n:X.calm=true):gS X (.builtin "max") .max2:=by
 intro f s g H B k u l P Q I d r o h c
 match k,h with
 |[.int i,.int j],h=>obtain⟨v,w,rfl,q,p⟩:=Ao o;cases q.int;cases p.int;exact Bs n f s g H _ l Q I r ⟨i,j,rfl,c.now h (fR _)⟩
theorem cw_dvm:gS X (.builtin "divmod") .QG:=by
 intro f s g H B k w l P Q I d r o h c
 match k,h with
 |[.int i,.int j],h=>obtain⟨v,x,rfl,u,p⟩:=Ao o;cases u.int;cases p.int;exact vA f s g H _ l Q I r ⟨i,j,rfl,h.1,λq n=>c _ _ _ h.2 (aP n _) (.of (yk aF (.cons (fR _) (.cons (fR _) .nil))))⟩
theorem cw_min(q:X.calm=true):gS X (.builtin "min") .min2:=by
 intro f s n H B w D o P Q I d r u h c
 match w,h with
 |[.int i,.int j],h=>obtain⟨v,E,rfl,g,k⟩:=Ao u;cases g.int;cases k.int;exact Bt q f s n H _ o Q I r ⟨i,j,rfl,c.now h (fR _)⟩
 |[.lst l],h=>obtain⟨x,rfl,y,h⟩:=h;obtain⟨v,rfl,g⟩:=gi u;obtain⟨p,C,rfl,g,k⟩:=g.lst;have e:=af.ints k;subst e;exact BO q f s n H _ o Q I r ⟨p,x,rfl,.inl g,y,λm A z=>c.now (h m A z) (fR _)⟩
theorem cw_sum(o:X.calm=true):gS X (.builtin "sum") .sum:=by
 intro f s i H B j x k P Q I d r q h c
 match j,h with
 |[.lst l],h=>obtain⟨n,rfl,h⟩:=h;obtain⟨v,rfl,g⟩:=gi q;obtain⟨p,w,rfl,g,u⟩:=g.lst;have e:=af.ints u;subst e;exact BF o f s i H _ k Q I r ⟨p,n,rfl,.inl g,c.now h (fR _)⟩
theorem cw_all(n:X.calm=true):gS X (.builtin "all") .all:=by
 intro f s i H B j x k P Q I d r o h c
 match j,h with
 |[.lst l],h=>obtain⟨u,rfl,h⟩:=h;obtain⟨v,rfl,g⟩:=gi o;obtain⟨p,w,rfl,g,q⟩:=g.lst;have e:=af.Yl q;subst e;exact BG n f s i H _ k Q I r ⟨p,u,rfl,.inl g,c.now h (yj _)⟩
theorem cw_any(n:X.calm=true):gS X (.builtin "any") .any:=by
 intro f s i H B j x k P Q I d r o h c
 match j,h with
 |[.lst l],h=>obtain⟨u,rfl,h⟩:=h;obtain⟨v,rfl,g⟩:=gi o;obtain⟨p,w,rfl,g,q⟩:=g.lst;have e:=af.Yl q;subst e;exact BQ n f s i H _ k Q I r ⟨p,u,rfl,.inl g,c.now h (yj _)⟩
theorem cw_list:gS X (.type "list") .list:=by
 intro f s n H B w x o P Q I d r u h c
 match w,h with
 |[.lst l],h=>obtain⟨v,rfl,g⟩:=gi u;obtain⟨p,j,rfl,g,k⟩:=g.lst;exact kJ f s n H _ o Q I r ⟨p,j,rfl,.inl (.inl g),λq i=>c _ _ _ h (aP i _) (.fresh (aq.refl H) i k)⟩
 |[.tup l],h=>obtain⟨v,rfl,g⟩:=gi u;obtain⟨p,j,rfl,g,k⟩:=g.tup;exact kJ f s n H _ o Q I r ⟨p,j,rfl,.inr g,λq i=>c _ _ _ h (aP i _) (.fresh (aq.refl H) i k)⟩
theorem cw_int:gS X (.type "int") .int:=by
 intro f s g H B j o k P Q I d r l h c
 match j,h with
 |[.bl i],h=>obtain⟨v,rfl,n⟩:=gi l;cases n.bl;exact Bu f s g H _ k Q I r (.inr ⟨i,rfl,c.now h (fR _)⟩)
theorem cw_tuple:gS X (.type "tuple") .tuple:=by
 intro f s k H B x y n P Q I d r u h c
 match x,h with
 |[.lst l],h=>obtain⟨v,rfl,g⟩:=gi u;obtain⟨p,i,rfl,g,j⟩:=g.lst;exact jH f s k H _ n Q I r ⟨p,i,rfl,.inl ⟨.inl g,λq o=>c _ _ _ h (aP o _) (.of (yk aF (af.same (aP o _) j)))⟩⟩
 |[.tup l],h=>obtain⟨v,rfl,g⟩:=gi u;obtain⟨p,i,rfl,w,j⟩:=g.Ti;have g:kC X.K H p i:=kC.of w;exact jH f s k H _ n Q I r ⟨p,i,rfl,.inr ⟨g,c.now h (yk w j)⟩⟩
noncomputable def wz(K:Frag):Prop:=∀a∈["NoneType","bool","int","str","list","tuple"],∀b∈["int","bool","tuple","list","str","dict"],kitOne K (.type a) (.type b)=some (Et a b)
theorem cw_isi(N:wz X.K):cL X (.builtin "isinstance") (λvs H Q=>∃(B:Addr->Prop)(w:W)(n:String)(P:KP),n∈["int","bool","tuple","list","str","dict"]/\nG X.K B H [w,.ty n] vs/\qJ .GA [w,.ty n] P/\Cont X.K B H .s P Q):=by
 rintro q s A H vs Z Q I r ⟨B,w,n,P,L,O,h,c⟩;obtain⟨v,Y,rfl,k,S⟩:=Ao O;cases S.ty;obtain⟨a,i,h⟩:=h;have x:Q (.bl (Et a n)) H:=c.now h (yj _);obtain⟨E,D,rfl,d,F⟩:=vals2 r;cases(show D=Value.type n from F);have g:∀u,u∈["NoneType","bool","int","str","list","tuple"]->a=u->kitOne X.K (.type u) (.type n)=some (Et a n):=λu m e=>by rw[e];exact N u m n L
 have j:∀y:Tok,EP X q A Q (.bool (Et a n)) {s with toks:=y}:=λy=>⟨.bl _,H,I.tok _,rfl,x⟩;cases w with
 |aV=>
  cases k.aV;cases i;exact fE I d .aV (g _ (by simp) rfl) j
 |bl b=>
  cases k.bl;cases i;exact fE I d (.bl b) (g _ (by simp) rfl) j
 |int b=>
  cases k.int;cases i;exact fE I d (.int b) (g _ (by simp) rfl) j
 |str b=>
  cases k.str;cases i;exact fE I d (.str b) (g _ (by simp) rfl) j
 |lst l=>
  obtain⟨p,C,rfl,f,G⟩:=k.lst;cases i;rcases f with f|⟨o,f⟩
  .exact fE I d (.lst f) (g _ (by simp) rfl) j
  .exact fE I d (.vj f) (g _ (by simp) rfl) j
 |tup l=>obtain⟨p,C,rfl,f,G⟩:=k.tup;cases i;cases(show E=Value.ref p from d);obtain⟨J,r',⟨o,U,T,_⟩,_⟩:=I.tuple f;exact Ts PySem.W.kitx_tuple I.lW ⟨o,U,T⟩ (g _ (by simp) rfl) (λz=>nomatch z) j
 |_=>exact nn i
end
noncomputable def Lq(K:Frag)(n:Nat)(m:Md)(sp:bD):Sp:=λc H Q E=>∃A a P R,a.length=n/\af K A H a c/\Dom A H/\sp a P R/\Cont K A H m P Q/\∀C b,R C->aq H b->E (.ref C) none b
noncomputable def Lr(K:Frag)(n:Nat)(g:Md)(sp:bD):Sp:=λh H Q E=>∃(ab:Addr->Prop)(F:List Addr)(f:W)(e:V)(d:List W)(b:List V)(P:W->Prop)(R:Addr->Prop),h=e::b/\d.length+1=n/\F.Nodup/\(∀p∈F,¬ab p)/\Dom ab H/\Fp K (λp=>ab p\/p∈F) H g f e F/\af K (λp=>ab p\/p∈F) H d b/\sp (f::d) P R/\
 (∀w y v c a,P (.tup [w,y])->ua (·∈F) H a->c.Nodup->(∀p∈c,p∈F\/H p=none)->Fp K (λp=>ab p\/p∈c) a g y e c->Rep K (λp=>ab p\/p∈c) a w v->Q v a)/\(∀C a,R C->ua (·∈F) H a->E (.ref C) none a)
noncomputable def oj(K:Frag)(n:Nat)(m:Md)(sp:bD):Sp:=
 match m with
 |.io a=>Lr K n a sp
 |m=>Lq K n m sp
inductive cH(P:Program)(w:World)(K:Frag)(mg:Str->Option Value)(base:Heap):Nat->Value->Nat->Sp->Prop where
 |fn {k:Nat} {f:Addr} {fd:FuncData} {ps:List Str} {sp:Sp} (kp:keepIn K (.ref f)=true) (b:Binds K fd ps []) (F:b9 P w K mg base (jB P w) k f fd ps sp):cH P w K mg base k (.ref f) ps.length sp
 |mk {k n:Nat} {C f:Addr} {fd:FuncData} {ps:List Str} {sp Yp:Sp} (M:Mk K C f) (b:Binds K fd ps []) (F:b9 P w K mg base (jB P w) k f fd ps Yp)
  (h:∀vs H Q E,sp vs H Q E->∀x dx,H x=none->H dx=none->dx≠x->Yp (.ref x::vs) (upd (upd H dx (.own x)) x (.ins C dx [])) (λv H2=>v=.aV/\Q (.ref x) H2) E):cH P w K mg base (k+1) (.ref C) n sp
theorem cH.keep{P:Program}{w:World}{K:Frag}{b:Str->Option Value}{base:Heap}{k n:Nat}{a:Value}{sp:Sp}(c:cH P w K b base k a n sp):keepIn K a=true:=by
 cases c with
 |fn kp _ _=>exact kp
 |mk M _ _ _=>exact M.kp
theorem cH.run{X:Cx}{k n:Nat}{g:Value}{sp:Sp}{a:List (Addr×Obj)}{d:St}{H:Hp}{s:Shared}{Q:VK}{E:XK}{us:List Value}{vs:List V}(c:cH X.prog X.w X.K X.mg X.base k g n sp)(f:cU k X.A)(e:Passes (jB X.prog X.w) X E)(I:Inv X a d H s)(r:Vals vs us)(h:sp vs H Q E):
 wpAny (model X.prog X.w) X.A (call g us) (EP X a d Q) X.xe s:=by
 cases c with
 |fn p b F=>exact xS (ds:=[]) (Dc:=[]) F f b .nil e I r (by rw[d4];exact h)
 |mk M b F l=>exact Dd (ds:=[]) (Dc:=[]) M F f b .nil e I r (λx o m j i=>by rw[d4];exact l vs H Q E h x o m j i)
section
variable{X:Cx}{M:Ms}{R:Addr->Prop}{e a b c:Expr}{t ta tb tc:WT}{m:Md}{pos p:Pos}{es:List Expr}{x:Str}
theorem Aq{D:Ev->(List W->Prop)->Prop}{k n:Nat}{O:Value}{sp:bD}(F:cH X.prog X.w X.K X.mg X.base k O n (Lq X.K n m sp))(hr:cU k X.A)(hg:Gl X x)(hm:X.mg x=some O)
 (hn:∀d P R,sp d P R->d.length=n)(ha:VA X M R (e::es) D)(y:(x==("__debug__":Str))=false)(he:starEach (e::es) X.env=(false,eval e X.env)::starEach es X.env)(u:(backTo pos (starEach es X.env)).any (·.1)=false):
 VE X M R m (.Call (.Name x p) (e::es) [] pos) (λj Q=>D j λd=>sp d Q R):=by
 rintro f s i H Q I ⟨A,H0,j,P,S,er,h,Y⟩;obtain⟨E,L,N,hR⟩:=er;refine dt (kG I hg hm ?_ y);refine ky (h₀:=X.base) I.ok.mod.L3 F.keep (bV (ha pos f s i H (λl g=>∃d,aq H g/\af X.K (FB A M i) g d l/\sp d P R) I ⟨A,H0,j,_,S,⟨E,L,N,hR⟩,h,λd l g Z G q=>⟨d,G,q,Z⟩⟩) λus G ⟨l,g,I1,r,d,sm,q,J⟩=>⟨I1.lW,?_⟩) he u;exact F.run hr L I1 r ⟨FB A M i,d,P,R,hn _ _ _ J,q,(S.same sm).dom,J,λw v B pw o U=>Y w v B pw (sm.trans o) (U.back sm λ_ z=>z),λC B T o=>N C B T (S.sm.trans (sm.trans o))⟩
theorem NN{n:Ev->(List W->Prop)->Prop}{l:BI}{o:String}(G:cL X (.builtin o) (NL X.K l))(E:Gl X x)(D:X.mg x=none)(B:bootBuiltins x=some (.builtin o))(I:QK X M R (e::es) n)(C:x≠"__name__")(j:(x==("__debug__":Str))=false)
 (F:starEach (e::es) X.env=(false,eval e X.env)::starEach es X.env)(i:(backTo pos (starEach es X.env)).any (·.1)=false):VE X M R (TF l) (.Call (.Name x p) (e::es) [] pos) (λd Q=>n d λf=>qJ l f Q):=
 PE.imp (oN G E D B I C j F i)<|by rintro q H Q ⟨A,L,d,P,S,J,h,k⟩;exact⟨A,L,d,_,S,J,h,λf O T y g u=>⟨FB A M q,f,P,(S.same g).dom,u,y,λw v N pw s r=>k w v N pw (g.trans s) (r.back g λ_ z=>z)⟩⟩
theorem NO{n:Ev->(List W->Prop)->Prop}{l:BI}{o:String}(G:cL X (.type o) (NL X.K l))(E:Gl X x)(D:X.mg x=none)(B:bootBuiltins x=some (.type o))(I:QK X M R (e::es) n)(C:x≠"__name__")(j:(x==("__debug__":Str))=false)
 (F:starEach (e::es) X.env=(false,eval e X.env)::starEach es X.env)(i:(backTo pos (starEach es X.env)).any (·.1)=false):VE X M R (TF l) (.Call (.Name x p) (e::es) [] pos) (λd Q=>n d λf=>qJ l f Q):=
 PE.imp (rT G E D B I C j F i)<|by rintro q H Q ⟨A,L,d,P,S,J,h,k⟩;exact⟨A,L,d,_,S,J,h,λf O T y g u=>⟨FB A M q,f,P,(S.same g).dom,u,y,λw v N pw s r=>k w v N pw (g.trans s) (r.back g λ_ z=>z)⟩⟩
theorem NP{n:String}(Y:wz X.K)(j:n∈["int","bool","tuple","list","str","dict"])(Z:Gl X x)(U:X.mg x=none)(O:bootBuiltins x=some (.builtin "isinstance"))(ha:VB X M R a ta)(hb:VB X M R b (λ_ Q=>Q (.ty n)))(T:x≠"__name__")(o:(x==("__debug__":Str))=false)
 (y:starEach [a,b] X.env=(false,eval a X.env)::starEach [b] X.env)(l:starEach [b] X.env=(false,eval b X.env)::starEach [] X.env)(i:(backTo pos (starEach [b] X.env)).any (·.1)=false):
 VE X M R .s (.Call (.Name x p) [a,b] [] pos) (λd Q=>ta d λw=>qJ .GA [w,.ty n] Q):=
 PE.imp (oN (cw_isi Y) Z U O (bG ha (bG hb dJ l) y) T o y i)<|by rintro D H Q ⟨A,C,d,P,S,B,h,k⟩;refine⟨A,C,d,_,S,B,h,λw v H1 N g J=>⟨A,C,d,λq=>q=.ty n,S.same g,B,rfl,λq u H2 L f I=>?_⟩⟩;subst L;exact⟨FB A M D,w,n,P,j,⟨v,[u],rfl,bf.same f J,u,[],rfl,I,rfl⟩,N,λE F H' pw G r=>k E F H' pw ((g.trans f).trans G) (r.back (g.trans f) λ_ z=>z)⟩
theorem Iw{d f:Pos}(r:VE X M R .s a ta)(j:attributeBase a "bit_length" X.env (eval a X.env)=eval a X.env)(g:(f.endLine==d.line)=true):
 VE X M R .s (.Call (.Attribute a "bit_length" f) [] [] d) (λl Q=>ta l λx=>match x with|.int i=>Q (.int (Builtin.Int.intBits i:Nat))|_=>False):=
 PE.imp (Di PySem.F.plainAttrs_int PySem.F.slot_int_bit_length PySem.F.type_int_bit_length Hi r j g)<|by
  rintro B H Q ⟨A,z,l,P,S,u,h,k⟩;refine⟨A,z,l,_,S,u,h,λw v y n o q=>?_⟩;cases w with
  |int i=>have e:=q.bI.int_inv;subst e;exact⟨rfl,i,rfl,rfl,k _ _ y n o (.of (fR _))⟩
  |_=>exact n.elim
end
inductive Ar(K:Frag)(br:Bool)(B:Addr->Prop)(H:Hp):It->List W->Prop where
 |lst {a:Addr} {vs:List V} {ws:List W} (h:Rd H a (.lst vs)) (n:br=false->¬B a) (r:af K B H ws vs):Ar K br B H (VW K a) ws
 |tup {a:Addr} {vs:List V} {ws:List W} (h:kC K H a vs) (r:af K B H ws vs):Ar K br B H (VX K a) ws
 |jA (lo:Int) (n:Nat):Ar K br B H (RC lo n) (fj lo 1 n)
 |Iz (lo st:Int) (n:Nat):Ar K br B H (U7 lo st n) (fj lo st n)
 |sA {a:Addr} {vs:List V} {ws:List W} (h:Rd H a (.lst vs)) (n:br=false->¬B a) (r:af K B H ws vs):Ar K br B H (Wt K a) (gh ws)
 |rev {a:Addr} {vs:List V} {ws:List W} (h:Rd H a (.lst vs)) (n:br=false->¬B a) (r:af K B H ws vs):Ar K br B H (Wv K a vs.length) ws.reverse
structure IW(K:Frag)(B:Addr->Prop)(Hs:Hp)(J:It)(ws:List W):Prop where
 go:∀i H,aq Hs H->i<ws.length->J.go i H
 yl:∀i H x H' w,aq Hs H->ws[i]?=some w->J.RB i H x H'->aq H H'/\∀B':Addr->Prop,(∀p o,Hs p=some o->B' p->B p)->Rep K B' H' w x
 st:∀i H,aq Hs H->i=ws.length->J.stop i H
theorem kX(lo st:Int)(n:Nat):(fj lo st n).length=n:=by unfold fj;simp
theorem wB{lo st:Int}{n i:Nat}{w:W}(h:(fj lo st n)[i]?=some w):w=.int (lo+i*st)/\i<n:=by
 unfold fj at h;rw[DL]at h;by_cases a:i<n
 .rw[UV a]at h;cases h;exact⟨rfl,a⟩
 .rw[Do (by simpa using a)]at h;cases h
theorem sC(l:List W):(gh l).length=l.length:=by unfold gh;simp
theorem mL{l:List W}{i:Nat}{w:W}(h:(gh l)[i]?=some w):∃x,l[i]?=some x/\w=.tup [.int i,x]:=by
 unfold gh at h;rw[WB]at h;by_cases a:i<l.length
 .rw[UV a,B1 a]at h;cases h;exact⟨_,B1 a,rfl⟩
 .rw[Do (by simpa using a)]at h;cases h
theorem Ar.iw{K:Frag}{br:Bool}{B:Addr->Prop}{k:Hp}{J:It}{l:List W}(h:Ar K br B k J l):IW K B k J l:=by
 cases h with
 |@lst a c _ h n r=>
  have q:∀H,aq k H->ie K H a c:=λH s=>.inl (VL.aq.rd s h);refine⟨λi H s b=>?_,λi H x m w s d y=>?_,λi H s b=>⟨c,q H s,by rw[r.len,b];exact D2 _⟩⟩
  .have f:i<c.length:=by rw[r.len];exact b
   exact⟨c,c[i],q H s,B1 f⟩
  .obtain⟨rfl,y⟩:=y;obtain⟨v,e,g⟩:=r.get d;have:=y c (q _ s);rw[e]at this;cases this;exact⟨aq.refl _,λo j=>Rep.mv s j w g⟩
 |@tup a c _ h r=>
  have q:∀H,aq k H->kC K H a c:=λH s=>L2.aq.tup s h;refine⟨λi H s b=>?_,λi H x m w s d y=>?_,λi H s b=>⟨c,q H s,by rw[r.len,b];exact D2 _⟩⟩
  .have f:i<c.length:=by rw[r.len];exact b
   exact⟨c,c[i],q H s,B1 f⟩
  .obtain⟨rfl,y⟩:=y;obtain⟨v,e,g⟩:=r.get d;have:=y c (q _ s);rw[e]at this;cases this;exact⟨aq.refl _,λo j=>Rep.mv s j w g⟩
 |jA D n=>refine⟨λi H s b=>by rw[kX]at b;exact b,λi H x m w s d y=>?_,λi H s b=>by rw[kX]at b;exact gN b.symm⟩;obtain⟨rfl,rfl⟩:=y;obtain⟨rfl,_⟩:=wB d;exact⟨aq.refl _,λo _=>by rw[cm];exact fR _⟩
 |Iz D G n=>refine⟨λi H s b=>by rw[kX]at b;exact b,λi H x m w s d y=>?_,λi H s b=>by rw[kX]at b;exact gN b.symm⟩;obtain⟨rfl,rfl⟩:=y;obtain⟨rfl,_⟩:=wB d;exact⟨aq.refl _,λo _=>fR _⟩
 |@sA a c l h n r=>
  have q:∀H,aq k H->ie K H a c:=λH s=>.inl (VL.aq.rd s h);refine⟨λi H s b=>?_,λi H x m w s d y=>?_,λi H s b=>⟨c,q H s,by rw[r.len,b,sC]⟩⟩
  .rw[sC]at b;have f:i<c.length:=by rw[r.len];exact b
   exact⟨c,c[i],q H s,B1 f⟩
  .obtain⟨p,y,F,rfl,rfl,E⟩:=y;obtain⟨A,C,rfl⟩:=mL d;obtain⟨v,e,g⟩:=r.get C;have z:=E c (q _ s);rw[e]at z;obtain rfl:v=y:=Kt z;have u:=aP (H:=H) F (.tup [.int i,v]);exact⟨u,λo j=>yk aF (.cons (fR _) (.cons (Rep.mv (s.trans u) j A g) .nil))⟩
 |@rev a c l h n r=>
  have q:∀H,aq k H->ie K H a c:=λH s=>.inl (VL.aq.rd s h);have t:=r.len;refine⟨λi H s b=>?_,λi H x m w s d y=>?_,λi H s b=>?_⟩
  .rw[Pi]at b;exact⟨c,q H s,rfl,by rw[t];exact b⟩
  .obtain⟨rfl,y⟩:=y;have b:i<l.length:=by have:=(Fu.mp d).1;rwa [Pi]at this
   rw[wa b]at d;obtain⟨v,e,g⟩:=r.get d;have:=y c (q _ s) rfl;rw[t,e]at this;cases this;exact⟨aq.refl _,λo j=>Rep.mv s j w g⟩
  .rw[Pi]at b;show i=c.length;rw[t,b]
noncomputable def itemsOf:W->Option (List W)
 |.lst l=>some l
 |.tup l=>some l
 |_=>none
theorem mO{z:W}{Q:List W->Prop}:items z Q↔∃a,itemsOf z=some a/\Q a:=by
 cases z<;>simp[items,itemsOf]
noncomputable def CG(X:Cx)(M:Ms)(R:Addr->Prop)(br:Bool)(t:WT):TI:=λb H Q=>∃A e c P,SR X.K M A e b H c/\ER X e R/\t c P/\∀z,P z->∃d,itemsOf z=some d/\∀J a,aq H a->Ar X.K br (FB A M b) a J d->Q J a
theorem PI.imp{X:Cx}{tg e:Expr}{t t':TI}(h:PI X tg e t)(k:∀a H Q,t' a H Q->t a H Q):PI X tg e t':=λb s a H Q I w=>h b s a H Q I (k a H Q w)
section
variable{X:Cx}{M:Ms}{R:Addr->Prop}{e a b c tg:Expr}{t ta tb tc:WT}{m:Md}{pos p:Pos}{es:List Expr}{x:Str}{br:Bool}
theorem NQ{l:Expr}{tl:TE}(w:PE X l tl):PI X tg l (λj H Q=>tl j H λx H1=>∃a,x=.ref a/\(((∃f,ie X.K H1 a f)/\Q (VW X.K a) H1)\/((∃f,kC X.K H1 a f)/\Q (VX X.K a) H1))):=by
 intro g s j H Q I h;refine bV (w g s j H _ I h) ?_;rintro v d ⟨x,H1,I1,r,u⟩;obtain⟨a,e,q⟩:=u;subst e;cases r;rcases q with⟨⟨f,k⟩,q⟩|⟨⟨f,k⟩,q⟩
 .obtain⟨i,rv,p,hz⟩:=I1.list k;refine wpAny_pyIter_list p.isList ?_;refine⟨d.heap.objs.size,[d.heap.objs.size],_,_,H1,rfl,I1.kept (t':=d.toks) λb o e=>Da _ e,Bk a _,⟨_,Iy _ rfl,rfl,rfl⟩,λb n=>?_,q⟩;have e:b=d.heap.objs.size:=by simpa using n
  subst e;exact I1.vp (D2 _) (I1.hok.fresh (D2 _))
 .obtain⟨i,rv,p,hz⟩:=I1.tuple k;refine wpAny_pyIter_tuple (show d.heap.IsTuple a i.toArray from p) ?_;refine⟨d.heap.objs.size,[d.heap.objs.size],_,_,H1,rfl,I1.kept (t':=d.toks) λb o e=>Da _ e,xF a _,⟨_,Iy _ rfl,rfl,rfl⟩,λb n=>?_,q⟩;have e:b=d.heap.objs.size:=by simpa using n
  subst e;exact I1.vp (D2 _) (I1.hok.fresh (D2 _))
noncomputable def NR(K:Frag)(br:Bool):RL:=λB _ d w v=>bf K B d w v/\(br=false->Rep K B d w v)
theorem jJ(h:VE X M R m e t):PE X e (tV X M R (NR X.K br) t):=PE.imp h<|by rintro j H Q ⟨A,g,d,P,S,f,p,k⟩;exact⟨A,g,d,P,S,f,p,λw v i pw s r=>k w v i pw s ⟨(r.rep S.dom).b,λ_=>r.rep S.dom⟩⟩
theorem TH(h:VB X M R e t):PE X e (tV X M R (NR X.K true) t):=PE.imp h<|by rintro j H Q ⟨A,g,d,P,S,f,p,k⟩;exact⟨A,g,d,P,S,f,p,λw v i pw s r=>k w v i pw s ⟨r,λz=>by cases z⟩⟩
theorem NR.lst{K:Frag}{B:Addr->Prop}{H H':Hp}{l:List W}{v:V}(h:NR K br B H H' (.lst l) v):∃p vs,v=.ref p/\Rd H' p (.lst vs)/\(br=false->¬B p)/\af K B H' l vs:=by obtain⟨p,vs,rfl,f,d⟩:=h.1.lst;refine⟨p,vs,rfl,f,λe=>?_,d⟩;have:=h.2 e;obtain⟨i,_,g,n,_⟩:=this;cases g;exact n
theorem gw(r:PE X a (tV X M R (NR X.K br) ta)):PI X tg a (CG X M R br ta):=PI.imp (NQ r)<|by
 rintro y H Q ⟨A,w,q,P,S,u,h,k⟩;refine⟨A,w,q,P,S,u,h,λz v o hz j n=>?_⟩;obtain⟨B,g,k⟩:=k z hz;cases z with
 |lst l=>
  cases g;obtain⟨p,f,rfl,d,i,s⟩:=n.lst;exact⟨p,rfl,.inl ⟨⟨f,.inl d⟩,k _ o j (.lst d i s)⟩⟩
 |tup l=>
  cases g;obtain⟨p,f,rfl,d,i⟩:=n.1.tup;exact⟨p,rfl,.inr ⟨⟨f,d⟩,k _ o j (.tup d i)⟩⟩
 |_=>exact nn g
theorem NS{d:List Expr}{r:Nat}{n:Pos}(w:Gl X "enumerate")(s:X.mg "enumerate"=none)(y:PE X a (tV X M R (NR X.K br) ta))(g:starEach [a] X.env=(false,eval a X.env)::starEach [] X.env):
 PI X (.Tuple d r n) (.Call (.Name "enumerate" p) [a] [] pos) (CG X M R br (λf Q=>ta f λx=>match x with|.lst l=>Q (.lst (gh l))|_=>False)):=
 PI.imp (Hj w s (bG y dJ g) rfl g)<|by
  rintro G H Q ⟨A,F,f,P,S,D,h,k⟩;refine⟨A,F,f,_,S,D,h,λz v E hz o q=>?_⟩;cases z with
  |lst l=>obtain⟨I,u,k⟩:=k _ hz;cases u;obtain⟨p,j,rfl,i,C,B⟩:=q.lst;exact⟨p,rfl,⟨j,.inl i⟩,k _ E o (.sA i C B)⟩
  |_=>exact hz.elim
theorem NT(r:Gl X "reversed")(o:X.mg "reversed"=none)(s:PE X a (tV X M R (NR X.K br) ta))(f:starEach [a] X.env=(false,eval a X.env)::starEach [] X.env):
 PI X tg (.Call (.Name "reversed" p) [a] [] pos) (CG X M R br (λd Q=>ta d λx=>match x with|.lst l=>Q (.lst l.reverse)|_=>False)):=
 PI.imp (MS r o (bG s dJ f) rfl f)<|by
  rintro D H Q ⟨A,C,d,P,S,y,h,k⟩;refine⟨A,C,d,_,S,y,h,λz v B hz j n=>?_⟩;cases z with
  |lst l=>obtain⟨E,q,k⟩:=k _ hz;cases q;obtain⟨p,i,rfl,g,w,u⟩:=n.lst;exact⟨p,i,rfl,.inl g,k _ B j (.rev g w u)⟩
  |_=>exact hz.elim
theorem IA{p2 d:Pos}(y:X.calm=true)(w:Gl X "list")(u:X.mg "list"=none)(F:Gl X "reversed")(i:X.mg "reversed"=none)(B:VB X M R a ta)(n:starEach [a] X.env=(false,eval a X.env)::starEach [] X.env):
 VE X M R .f (.Call (.Name "list" p) [.Call (.Name "reversed" p2) [a] [] d] [] pos) (λg Q=>ta g λx=>match x with|.lst l=>Q (.lst l.reverse)|_=>False):=
 PE.imp (Hq y w u F i (bG B dJ n) n)<|by
  rintro I H Q ⟨A,G,g,P,S,E,h,k⟩;refine⟨A,G,g,_,S,E,h,λz v J hz j s=>?_⟩;cases z with
  |lst l=>obtain⟨p,r,rfl,D,C⟩:=bf.lst s;exact⟨p,r,rfl,.inl D,λq o=>k _ _ _ hz (j.trans (aP o _)) (.fresh j o C.rev)⟩
  |_=>exact hz.elim
theorem IB(u:Gl X "range")(q:X.mg "range"=none)(v:VE X M R .s a ta)(f:starEach [a] X.env=(false,eval a X.env)::starEach [] X.env):
 PI X tg (.Call (.Name "range" p) [a] [] pos) (CG X M R br (λd Q=>ta d λx=>Eu [x] λl=>Q (.lst l))):=
 PI.imp (Bm u q (bG v dJ f) f)<|by
  rintro B H Q ⟨A,z,d,P,S,w,h,k⟩;refine⟨A,z,d,_,S,w,h,λx C y hz g i=>?_⟩;cases x with
  |int j=>obtain⟨o,n,hz⟩:=hz;obtain⟨D,r,k⟩:=k _ hz;cases r;cases i.bI.int_inv;exact⟨j,rfl,o,n,k _ y g (.jA 0 j.toNat)⟩
  |_=>exact hz.elim
theorem IC(C:Gl X "range")(z:X.mg "range"=none)(E:VE X M R .s a ta)(D:VE X M R .s b tb)(n:starEach [a,b] X.env=(false,eval a X.env)::starEach [b] X.env)(d:starEach [b] X.env=(false,eval b X.env)::starEach [] X.env):
 PI X tg (.Call (.Name "range" p) [a,b] [] pos) (CG X M R br (λf Q=>ta f λx=>tb f λy=>Eu [x,y] λl=>Q (.lst l))):=
 PI.imp (Bo C z (bG E (bG D dJ d) n) (by rw[n,d];rfl) d)<|by
  rintro G H Q ⟨A,q,f,P,S,o,h,k⟩;refine⟨A,q,f,_,S,o,h,λx J L hz g v=>⟨A,q,f,_,S.same g,o,hz,λy I F hz r u=>?_⟩⟩;cases x with
  |int i=>
   cases y with
   |int j=>obtain⟨w,hz⟩:=hz;obtain⟨K,B,k⟩:=k _ hz;cases B;cases v.bI.int_inv;cases u.bI.int_inv;exact⟨i,j,rfl,w,k _ F (g.trans r) (.jA i (j -i).toNat)⟩
   |_=>exact hz.elim
  |_=>exact hz.elim
theorem ID(I:Gl X "range")(F:X.mg "range"=none)(L:VE X M R .s a ta)(K:VE X M R .s b tb)(J:VE X M R .s c tc)(v:starEach [a,b,c] X.env=(false,eval a X.env)::starEach [b,c] X.env)(f:starEach [b,c] X.env=(false,eval b X.env)::starEach [c] X.env)(q:starEach [c] X.env=(false,eval c X.env)::starEach [] X.env):
 PI X tg (.Call (.Name "range" p) [a,b,c] [] pos) (CG X M R br (λd Q=>ta d λx=>tb d λy=>tc d λz=>Eu [x,y,z] λl=>Q (.lst l))):=
 PI.imp (BJ I F (bG L (bG K (bG J dJ q) f) v) (by rw[v,f,q];rfl) (by rw[f,q];rfl))<|by
  rintro O H Q ⟨A,r,d,P,S,o,h,k⟩;refine⟨A,r,d,_,S,o,h,λx Y H1 hz g D=>⟨A,r,d,_,S.same g,o,hz,λy U H2 hz u C=>⟨A,r,d,_,S.same (g.trans u),o,hz,λz T N hz w B=>?_⟩⟩⟩;cases x with
  |int i=>
   cases y with
   |int j=>
    cases z with
    |int l=>obtain⟨n,E,hz⟩:=hz;obtain⟨Z,G,k⟩:=k _ hz;cases G;cases D.bI.int_inv;cases C.bI.int_inv;cases B.bI.int_inv;exact⟨i,j,l,n,rfl,E,k _ N ((g.trans u).trans w) (.Iz i l n)⟩
    |_=>exact hz.elim
   |_=>exact hz.elim
  |_=>exact hz.elim
end
noncomputable def up(M:Ms)(n:Nat):Ms:=M.map λx=>(x.1+n,x.2)
section
variable{K:Frag}{M:Ms}{A:Fz}{H0 H H1:Hp}{σ v0:St}{ε δ:Ev}
theorem iF{n i:Nat}{m:Md}:(i,m)∈up M n↔n<=i/\(i -n,m)∈M:=by
 unfold up;rw[Nw];constructor
 .rintro⟨⟨j,b⟩,a,e⟩;cases e;exact⟨vk _ _,by rw[Fn];exact a⟩
 .rintro⟨h,a⟩;exact⟨(i -n,m),a,by simp;omega⟩
theorem cO{n i:Nat}:aL (up M n) i↔n<=i/\aL M (i -n):=by
 constructor
 .rintro⟨m,h⟩;exact⟨(iF.mp h).1,m,(iF.mp h).2⟩
 .rintro⟨h,m,a⟩;exact⟨m,iF.mpr ⟨h,a⟩⟩
theorem pQ{n i:Nat}(c:δ.length=n)(h:n<=i):look (δ++ε) i=look ε (i -n):=by
 have e:∀w,look (δ++ε) i=some w↔look ε (i -n)=some w:=λw=>by rw[aS,aS,Gc (by lia),c]
 cases b:look ε (i -n)with
 |none=>
  cases a:look (δ++ε) i with
  |none=>rfl
  |some w=>rw[e]at a;rw[b]at a;cases a
 |some w=>exact(e w).mpr b
theorem SR.block(S:SR K M A H0 σ H ε){n:Nat}(u:v0.length=n)(s:aq H H1){D:Addr}{o:HO}(C:H D=none)(t:H1 D=some o):SR K (up M n) ⟨λq=>A.ab q\/q=D,λq=>A.B q\/q=D,none⟩ H0 (v0++σ) H1 (A2 n none++ε):=by
 obtain⟨F,O⟩:=S.ow;have g:(A2 n (none:Option W)).length=n:=by simp
 have E:∀{i:Nat},n<=i->(v0++σ)[i]?=σ[i -n]?:=λ{i} h=>by rw[Gc (by lia),u]
 have y:∀p o,H p=some o->(A.B p\/p=D)->A.B p:=λp o e z=>by
  rcases z with z|rfl
  .exact z
  .rw[C]at e;cases e
 refine⟨by rw[FS,FS,u,g,S.len],λi w c e=>?_,S.sm.trans s,λp z=>?_,(λv e=>by cases e),λi=>F (i -n),⟨λi m G a b=>O.un _ m G (iF.mp a).2 (iF.mp b).2,λi m w I e=>?_,λi c e=>?_,λi c=>O.nd _ (cO.mp c).2,λi j p c x a b=>?_,λi p c d=>O.nw _ p (cO.mp c).2 d,λi p c d z=>?_,λp=>?_⟩⟩
 .by_cases f:n<=i
  .rw[pQ g f]at e;rw[E f];obtain⟨v,l,k⟩:=S.sh (i -n) w (λz=>c (cO.mpr ⟨f,z⟩)) e;exact⟨v,l,Rep.mv s y w k⟩
  .rw[aS,KF (by rw[g];lia),eQ,Bi (by lia)]at e;cases e
 .rcases z with z|rfl
  .exact(S.dm.same s) p z
  .exact⟨_,t⟩
 .obtain⟨f,r⟩:=iF.mp I;rw[pQ g f]at e;rw[E f];obtain⟨v,l,k⟩:=O.val _ m w r e;exact⟨v,l,Fp.mv s y m k⟩
 .obtain⟨f,r⟩:=cO.mp c;rw[pQ g f]at e;exact O.emp _ r e
 .have:=O.ds _ _ p (cO.mp c).2 (cO.mp x).2 a b;have:=(cO.mp c).1;have:=(cO.mp x).1;lia
 .rcases z with z|rfl
  .exact O.na _ p (cO.mp c).2 d z
  .obtain⟨o,e,_⟩:=O.has (cO.mp c).2 d;rw[C]at e;cases e
 .constructor
  .rintro(z|rfl)
   .rcases(O.all p).mp z with z|⟨i,c,d⟩
    .exact .inl (.inl z)
    .exact .inr ⟨i+n,cO.mpr ⟨by lia,by rw[Fn];exact c⟩,by rw[Fn];exact d⟩
   .exact .inl (.inr rfl)
  .rintro((z|rfl)|⟨i,c,d⟩)
   .exact .inl ((O.all p).mpr (.inl z))
   .exact .inr rfl
   .exact .inl ((O.all p).mpr (.inr ⟨i -n,(cO.mp c).2,d⟩))
end
noncomputable def TJ:List Nat->K2
 |[]=>Ry
 |i::a=>K3 (fK i) (TJ a)
noncomputable def gT(K:Frag)(one:Bool)(a:List Nat):TG:=
 match one,a with
 |true,[i]=>fK i
 |true,_=>λ_ _ _ _=>False
 |false,a=>Mh K a.length (TJ a)
noncomputable def cI(a:St):List Nat->List V->St
 |i::b,v::vs=>cI (a.set i (some v)) b vs
 |_,_=>a
theorem pR:∀(b:List Nat)(vs:List V)(a:St),(cI a b vs).length=a.length
 |[],vs,a=>by rw[cI];simp
 |i::b,[],a=>by rw[cI];simp
 |i::b,v::vs,a=>by rw[cI,pR b vs,OK]
theorem pS{n:Nat}:∀(c:List Nat)(vs:List V)(b a:St),b.length=n->(∀i∈c,i<n)->cI (b++a) c vs=cI b c vs++a
 |[],vs,b,a,_,_=>by rw[cI,cI]<;>simp
 |i::c,[],b,a,_,_=>by rw[cI,cI]<;>simp
 |i::c,v::vs,b,a,d,h=>by have hi:=h i FR;rw[cI,cI,List.set_append_left _ _ (by lia),pS c vs _ a (by rw[OK];exact d) λj e=>h j (Ee _ e)]
section
variable{K:Frag}{M:Ms}{A:Fz}{H0 H:Hp}
theorem ED:∀(a:List Nat)(vs:List V)(b:St)(Q:St->Hp->Prop),vs.length=a.length->Q (cI b a vs) H->TJ a vs b H Q
 |[],[],b,Q,_,q=>⟨rfl,q⟩
 |[],_::_,_,_,h,_=>by cases h
 |_::_,[],_,_,h,_=>by cases h
 |i::a,v::vs,b,Q,h,q=>⟨v,vs,rfl,ED a vs _ Q (by simpa using h) (by rw[cI]at q;exact q)⟩
theorem SR.cF:∀(a:List Nat)(c:List W)(vs:List V){b:St}{d:Ev},(∀i∈a,¬aL M i)->SR K M A H0 b H d->af K (FB A M b) H c vs->c.length=a.length->SR K M A H0 (cI b a vs) H (cF d a c)
 |[],c,vs,b,d,_,S,_,_=>by rw[cI,VL.cF]<;>first|exact S|simp
 |i::a,[],vs,b,d,_,S,_,h=>by cases h
 |i::a,w::c,vs,b,d,e,S,r,h=>by obtain⟨v,f,rfl,m,l⟩:=r.cons_inv;rw[cI,VL.cF];have k:=e i FR;exact SR.cF a c f (λj g=>e j (Ee _ g)) (S.set k m) l (by simpa using h)
theorem tgt{b:St}{d:Ev}{one:Bool}{a:List Nat}{w:W}{v:V}{P:Ev->Prop}{Q:St->Hp->Prop}(j:∀i∈a,¬aL M i)(S:SR K M A H0 b H d)(g:Rep K (FB A M b) H w v)(h:wT one a w d P)
 (k:∀vs c,P c->SR K M A H0 (cI b a vs) H c->Q (cI b a vs) H):gT K one a v b H Q:=by
 cases one with
 |true=>
  match a,h with
  |[i],h=>
   have:=k [v] (d.set i (some w)) h (by rw[cI,cI]<;>first|exact S.set (j i FR) g|simp);rw[cI,cI]at this
   .exact this
   .simp
 |false=>
  cases w with
  |tup l=>obtain⟨e,h⟩:=h;obtain⟨p,vs,rfl,m,f⟩:=g;exact⟨p,vs,rfl,kC.of m,by rw[f.len,e],ED a vs b Q (by rw[f.len,e]) (k vs _ h (SR.cF a l vs j S f e))⟩
  |_=>exact h.elim
end
theorem PF.imp{X:Cx}{e:List Expr}{t t':TT}(h:PF X e t)(k:∀a H Q,t' a H Q->t a H Q):PF X e t':=λb s a H Q I w=>h b s a H Q I (k a H Q w)
noncomputable def WV(K:Frag)(M:Ms)(t:WT):TE:=λb H Q=>∃A d c P,SR K M A d b H c/\t c P/\∀w v a,P w->aq H a->Rep K (FB A M b) a w v->Q v a
noncomputable def WW(K:Frag)(M:Ms)(t:WT):TT:=λd H Q=>∃A e a P,SR K M A e d H a/\t a P/\∀x c,P x->aq H c->∃b,x=.bl b/\Q b c
section
variable{X:Cx}{M:Ms}{R:Addr->Prop}{tg iter elt:Expr}{ifs:List Expr}{scope:Scope}{xs N':List Str}{pos:Pos}{ti tc te:WT}{one:Bool}{ts:List Nat}
theorem wC(I:∀i∈ts,i<xs.length)(n:St)(H:Hp)(Q:VK)
 (hh:tV X M R (Np X.K .f) (λu Q=>ti u λz=>items z λc=>mK (λw K=>wT one ts w (A2 xs.length none++u) λa=>tc a λx=>truth x λk=>if k=true then te a λy=>K (some y)else K none) c [] λl=>Q (.lst l)) n H Q):
 zA xs.length (CG X M R true ti) (gT X.K one ts) (WW X.K (up M xs.length) tc) (WV X.K (up M xs.length) te) n H Q:=by
 obtain⟨A,H0,u,P,S,er,h,k⟩:=hh;refine⟨A,H0,u,_,S,er,h,λz hz=>?_⟩;obtain⟨c,ez,hw⟩:=mO.mp hz;refine⟨c,ez,λJ H1 s1 it D Y=>?_⟩;have iw:=it.iw;generalize N:(λ(w:W)(K:Option W->Prop)=>wT one ts w (A2 xs.length none++u) λa=>tc a λx=>truth x λk=>if k=true then te a λy=>K (some y)else K none)=f at hw;have Yq:H D=none:=s1.free Y;refine⟨λi m g=>∃d r,m=c.length -i/\i<=c.length/\aq H1 g/\g D=some (.lst r)/\af X.K (λq=>FB A M n q\/q=D) g d r/\mK f (c.drop i) d (λl=>P (.lst l)),
  ⟨c.length,[],[],rfl,KB _,aP Y _,aF,.nil,hw⟩,?_⟩
 rintro i m g ⟨d,r,rfl,hi,s,NU,F,C⟩;by_cases T:i<c.length
 .refine .inr ⟨iw.go i g s T,λx O y v t=>?_⟩;have hwi:c[i]?=some c[i]:=B1 T;rw[T2 T]at C;generalize c[i]=w at*;obtain⟨s3,G⟩:=iw.yl i g x O w s hwi y;have s13:aq H O:=s1.trans (s.trans s3);have Vh:O D=some (.lst r):=s3 _ _ NU;have S3:SR X.K (up M xs.length) ⟨λq=>A.ab q\/q=D,λq=>A.B q\/q=D,none⟩ H0 (v++n) O (A2 xs.length none++u):=S.block t s13 Yq Vh;have hr3:Rep X.K (λq=>A.B q\/q=D) O w x:=by
   refine G _ λp o e z=>?_;rcases z with z|rfl
   .exact z
   .rw[Y]at e;cases e
  have hM:∀j∈ts,¬aL (up M xs.length) j:=λj hj z=>by have:=(cO.mp z).1;have:=I j hj;lia
  rw[mK,<-N]at C;rw[N]at C;refine tgt hM S3 hr3 C λE a hp S4=>?_;have e4:cI (v++n) ts E=cI v ts E++n:=pS ts E v n t I;rw[e4]at S4⊢;have hv1:(cI v ts E).length=xs.length:=by rw[pR];exact t
  refine⟨cI v ts E,hv1,rfl,⟨_,H0,a,_,S4,hp,λq H5 U s5=>?_⟩⟩;obtain⟨b,rfl,U⟩:=bE U;refine⟨b,rfl,?_⟩;have Z:aq g H5:=s3.trans s5;cases b with
  |false=>exact⟨c.length -(i+1),by lia,d,r,rfl,T,s.trans Z,Z _ _ NU,F.same Z,U⟩
  |true=>
   refine⟨_,H0,a,_,S4.same s5,U,λy vy H6 hy s6 ry=>?_⟩;obtain⟨L,hy⟩:=hy;have WX:=Z.trans s6;have TL:=WX _ _ NU;refine⟨r,TL,by rw[F.len];exact L,c.length -(i+1),by lia,d++[y],r++[vy],rfl,T,λb o e=>?_,aF,?_,hy⟩
   .rw[ak (aW e Y)];exact WX _ _ (s _ _ e)
   .have ry2:Rep X.K (λq=>A.B q\/q=D) H6 y vy:=ry;exact af.put TL (.inr rfl) _ ((F.same WX).app (.cons ry2 .nil))
 .have e:i=c.length:=by lia
  subst e;refine .inl ⟨iw.st _ g s rfl,?_⟩;rw[ei,mK]at C;exact k _ _ g C (s1.trans s) (.new Yq NU (F.less λp z=>.inl z) F)
theorem IE(r:X.calm=true)(n:dM scope X.env.scope X.N N' xs=true)(d:∀i∈ts,i<xs.length)(hi:PI X tg iter (CG X M R true ti))(o:∀C s0 c b,PG (aU X scope C xs N' s0 c b) tg (gT X.K one ts))
 (p:∀C s0 c b,PF (aU X scope C xs N' s0 c b) ifs (WW X.K (up M xs.length) tc))(q:∀C s0 c b,PE (aU X scope C xs N' s0 c b) elt (WV X.K (up M xs.length) te))(m:∀z,foldedSetIterable iter X.env z=pure z):
 VE X M R .f (.ListComp elt [⟨tg,iter,ifs,0⟩] scope pos) (λe Q=>ti e λz=>items z λj=>mK (λw K=>wT one ts w (A2 xs.length none++e) λa=>tc a λx=>truth x λk=>if k=true then te a λy=>K (some y)else K none) j [] λl=>Q (.lst l)):=
 PE.imp (zC xs N' r n hi o p q m) λg H Q h=>wC d g H Q h
end
section
variable{K:Frag}{M M':Ms}{A:Fz}{H0 H H1:Hp}{σ:St}{ε:Ev}
theorem SR.rb(S:SR K M A H0 σ H ε):∃f,SR K M A f σ H ε/\aq H0 f/\aq f H/\(∀p o,H p=some o->(Af o=true/\A.B p)\/f p=some o):=by
 classical
 obtain⟨F,O⟩:=S.ow;have d:∀p o,(if(∃i,aL M i/\p∈F i)then none else H p)=some o->H p=some o:=λp o z=>by
  split at z
  .cases z
  .exact z
 refine⟨λp=>if(∃i,aL M i/\p∈F i)then none else H p,⟨S.len,S.sh,d,S.dm,S.sl,F,⟨O.un,O.val,O.emp,O.nd,O.ds,λi p c a=>Bi ⟨i,c,a⟩,O.na,O.all⟩⟩,λb o z=>?_,d,λp o z=>?_⟩
 .try dsimp only
  rw[BM]
  .exact S.sm _ _ z
  .rintro⟨i,c,e⟩;rw[O.nw i b c e]at z;cases z
 .by_cases a:∃i,aL M i/\p∈F i
  .have g:=a;obtain⟨i,c,a⟩:=a;obtain⟨j,e,h⟩:=O.has c a;rw[z]at e;cases e;exact .inl ⟨h,(O.all p).mpr (.inr g)⟩
  .exact .inr ((BM a).trans z)
end
section
variable{K:Frag}{B A:Addr->Prop}{H Hs:Hp}
theorem Ar.low{J:It}{g:List W}(h:∀p o,H p=some o->(Af o=true/\B p)\/Hs p=some o)(b:∀p,A p->B p)(i:Ar K false B H J g):Ar K false A Hs J g:=by
 have d:∀{a:Addr}{c:List V},Rd H a (.lst c)->¬B a->Rd Hs a (.lst c):=λ{a c} r n=>by
  rcases r with r|⟨o,r⟩
  .rcases h a _ r with⟨_,z⟩|z
   .exact(n z).elim
   .exact .inl z
  .rcases h a _ r with⟨_,z⟩|z
   .exact(n z).elim
   .exact .inr ⟨o,z⟩
 cases i with
 |lst q n r=>exact .lst (d q (n rfl)) (λe z=>n e (b _ z)) (af.chg h (λp _ _ z=>b p z) _ r)
 |@tup a c _ q r=>
  refine .tup ?_ (af.chg h (λp _ _ z=>b p z) _ r);rcases q with(q|⟨o,q⟩)|q
  .rcases h a _ q with⟨z,_⟩|z
   .cases z
   .exact .inl (.inl z)
  .rcases h a _ q with⟨z,_⟩|z
   .cases z
   .exact .inl (.inr ⟨o,z⟩)
  .exact .inr q
 |jA f n=>exact .jA f n
 |Iz f j n=>exact .Iz f j n
 |sA q n r=>exact .sA (d q (n rfl)) (λe z=>n e (b _ z)) (af.chg h (λp _ _ z=>b p z) _ r)
 |rev q n r=>exact .rev (d q (n rfl)) (λe z=>n e (b _ z)) (af.chg h (λp _ _ z=>b p z) _ r)
end
abbrev WS:=Dn->Ev->Prop
noncomputable def cW:Md->Bool
 |.io _=>true
 |_=>false
noncomputable def yp(K:Frag)(ab:Addr->Prop)(s0:Option V)(e H':Hp)(m:Md)(w:W)(v:V):Prop:=
 match m with
 |.io f=>∃b c d a,w=.tup [b,c]/\s0=some d/\a.Nodup/\(∀p∈a,e p=none/\¬ab p)/\Fp K (λp=>ab p\/p∈a) H' f c d a/\Rep K (λp=>ab p\/p∈a) H' b v
 |m=>cY K ab e H' m w v
theorem yp.of{K:Frag}{ab:Addr->Prop}{s0:Option V}{a H':Hp}{m:Md}{w:W}{v:V}(b:cW m=false)(h:cY K ab a H' m w v):yp K ab s0 a H' m w v:=by
 cases m with
 |io _=>cases b
 |_=>exact h
theorem yp.back{K:Frag}{ab:Addr->Prop}{s0:Option V}{d c H':Hp}{m:Md}{w:W}{v:V}(s:aq d c)(h:yp K ab s0 c H' m w v):yp K ab s0 d H' m w v:=by
 cases m with
 |io o=>obtain⟨e,f,g,n,l,k,j,b,i⟩:=h;exact⟨e,f,g,n,l,k,j,λp a=>⟨s.free (b p a).1,(b p a).2⟩,i⟩
 |_=>exact cY.back s (λ_ z=>z) h
structure KS(X:Cx)(M:Ms)(m:Md)(ab:Addr->Prop)(s0:Option V)(H0:Hp)(d:Dn)(D:Ends):Prop where
 nx:∀A ε σ H,A.ab=ab->A.s0=s0->d.nx ε->SR X.K M A H0 σ H ε->D.nx σ H
 rt:∀w v H',d.rt w->aq H0 H'->yp X.K ab s0 H0 H' m w v->D.rt v H'
 bk:∀A ε σ H,A.ab=ab->A.s0=s0->d.bk ε->SR X.K M A H0 σ H ε->D.bk σ H
 ct:∀A ε σ H,A.ab=ab->A.s0=s0->d.ct ε->SR X.K M A H0 σ H ε->D.ct σ H
noncomputable def sV(X:Cx)(M:Ms)(m:Md)(t:WS):TS:=λD c H=>∃A a b d,SR X.K M A a c H b/\ER X a d.ex/\A.s0.isSome=cW m/\t d b/\KS X M m A.ab A.s0 a d D
abbrev VS(X:Cx)(M:Ms)(m:Md)(st:Stmt)(t:WS):Prop:=PS X st (sV X M m t)
abbrev As(X:Cx)(M:Ms)(m:Md)(st:List Stmt)(t:WS):Prop:=vn X st (sV X M m t)
theorem PS.imp{X:Cx}{e:Stmt}{t t':TS}(h:PS X e t)(k:∀D a H,t' D a H->t D a H):PS X e t':=λb s a H D I w=>h b s a H D I (k D a H w)
theorem vn.imp{X:Cx}{e:List Stmt}{t t':TS}(h:vn X e t)(k:∀D a H,t' D a H->t D a H):vn X e t':=λb s a H D I w=>h b s a H D I (k D a H w)
section
variable{X:Cx}{M M':Ms}{R:Addr->Prop}{m mr m0:Md}{st:Stmt}{rest:List Stmt}{t u:WS}{e e1 e2 c:Expr}{te t1 t2 tc:(Addr->Prop)->WT}{pos pos':Pos}{x:Str}{i:Nat}{π:List mG}
theorem IF:As X M m [] (λd a=>d.nx a):=vn.imp GP<|by rintro D b H ⟨A,g,a,d,S,f,hz,h,k⟩;exact k.nx A a b H rfl rfl h S
theorem IG(h:VS X M m st t):As X M m [st] t:=yZ h
theorem EG(h:VS X M m st t)(k:As X M m rest u):As X M m (st::rest) (λd b=>t {d with nx:=u d} b):=
 vn.imp (c6 h k)<|by rintro D r H ⟨A,j,b,d,S,f,hz,h,k⟩;exact⟨A,j,b,{d with nx:=u d},S,f,hz,h,λq a l s o g n p=>⟨q,j,a,d,p,f,(by rw[g];exact hz),n,by rw[o,g];exact k⟩,k.rt,k.bk,k.ct⟩
theorem II{st:List Stmt}(h:As X M' m st t)(j:∀x∈M',x∈M)(g:cW m=true->aL M 0->aL M' 0):As X M m st (λd a=>t {d with nx:=λ_=>False,bk:=λ_=>False,ct:=λ_=>False} a):=vn.imp h<|by rintro D B H ⟨A,p,a,d,S,l,hz,h,k⟩;obtain⟨y,n,b,_,o⟩:=S.sub (M':=M') j A.s0 (λv e=>⟨e,g (by rw[<-hz,e];rfl) (S.sl v e).2⟩);refine⟨y,p,a,{d with nx:=λ_=>False,bk:=λ_=>False,ct:=λ_=>False},o,l,by rw[b];exact hz,h,λ_ _ _ _ _ _ z=>z.elim,λw v q f s r=>k.rt w v q f s ?_,λ_ _ _ _ _ _ z=>z.elim,λ_ _ _ _ _ _ z=>z.elim⟩;rw[b,n]at r;exact r
theorem NV:VS X M m (.Break pos) (λd a=>d.bk a):=PS.imp CY<|by rintro D b H ⟨A,g,a,d,S,f,hz,h,k⟩;exact k.bk A a b H rfl rfl h S
theorem NW{f:List Nat}(g:∀{j:TE},PE X e j->PS X st (lY j (gT X.K false f)))(hi:∀i∈f,¬aL M i)(z:∀R,VE X M R .s e (te R)):
 VS X M m st (λd b=>te d.ex b λw=>match w with|.tup l=>l.length=f.length/\d.nx (cF b f l)|_=>False):=by
 rintro a s o H D I ⟨A,F,b,d,S,B,hz,h,k⟩;refine g (z d.ex) a s o H D I ⟨A,F,b,_,S,B,h,λw v E n q r=>?_⟩;cases w with
 |tup l=>exact tgt (P:=d.nx) hi (S.same q) r.bI n λG p y C=>k.nx A _ _ E rfl rfl y C
 |_=>exact n.elim
theorem NX{a:List Nat}{p:List Expr}{ta:(Addr->Prop)->Ev->(List W->Prop)->Prop}(n:∀{o:TA},PA X p o->PS X st (λD f H=>o f H λvs H1=>vs.length=a.length/\D.nx (cI f a vs) H1))(hi:∀i∈a,¬aL M i)(v:∀R,VA X M R p (ta R)):
 VS X M m st (λd g=>ta d.ex g λj=>j.length=a.length/\d.nx (cF g a j)):=by
 rintro b s f H D I ⟨A,y,g,d,S,w,hz,h,k⟩;refine n (v d.ex) b s f H D I ⟨A,y,g,_,S,w,h,λj vs H1 l q r=>?_⟩;exact⟨by rw[af.len r,l.1],k.nx A _ _ H1 rfl rfl l.2 (SR.cF a j vs hi (S.same q) r l.1)⟩
theorem uu{K:Frag}{A:Fz}{J H:Hp}{C:St}{D:Ev}{w:W}{l:List W}(S:SR K M A J C H D)(d:(i,m0)∈M)(hp:jC m0 π=some .f)(L:look D i=some w)(Z:cP w π=some (.lst l)):
 ∃v p vs,C[i]?=some (some v)/\vf K H v π (.ref p)/\H p=some (.lst vs)/\af K A.B H l vs/\A.B p/\∀H1,aq H H1->∀(b:List W)(a:List V),af K A.B H1 b a->
  ∃h,h.ab=A.ab/\h.s0=A.s0/\(∀q o,H1 q=some o->h.B q->A.B q)/\ua A.B H1 (upd H1 p (.lst a))/\SR K M h J C (upd H1 p (.lst a)) (D.set i (some (setAt w π (.lst b)))):=by
 obtain⟨F,O⟩:=S.ow;obtain⟨v,g,j⟩:=O.val i m0 w d L;obtain⟨v',Y,F',U,G,r,fp,y⟩:=Fp.path π m0 j hp Z;obtain⟨ws,p,vs,e1,rfl,rfl,E,h4⟩:=fp;cases e1;have T:p∈F i:=by rw[G];simp
 have I:A.B p:=(O.all p).mpr (.inr ⟨i,⟨m0,d⟩,T⟩);refine⟨v,p,vs,g,r,E,h4,I,λH1 s b a hr=>?_⟩;have Q:=S.same s;obtain⟨F0,O0⟩:=Q.ow;have O1:QF K M A J C H1 D F:=⟨O.un,λi m w d e=>let⟨v,g,j⟩:=O.val i m w d e;⟨v,g,Fp.mv s (λ_ _ _ z=>z) m j⟩,O.emp,O.nd,O.ds,O.nw,O.na,O.all⟩;have P:=s _ _ E;have N:ua A.B H1 (upd H1 p (.lst a)):=.put P rfl I;have WZ:p∉Y++U:=by
  have:=O.nd i ⟨m0,d⟩;rw[G]at this;intro z;have g:=QC.mp this;rcases KE.mp z with z|z
  .have j:=QC.mp g.1;exact j.2.2 p z p (by simp) rfl
  .exact g.2.2 p (by simp) p z rfl
 have k:Fp K A.B (upd H1 p (.lst a)) m0 (setAt w π (.lst b)) v (Y++[p]++U):=by
  refine y (upd H1 p (.lst a)) A.B (.lst b) [p] ?_ (λq o e=>?_) (λq _ _ z=>z)
  .exact⟨b,p,a,rfl,rfl,rfl,aF,af.chg N (λ_ _ _ z=>z) b hr⟩
  .by_cases n:q=p
   .subst n;rw[E]at e;cases e;exact .inl ⟨rfl,I,WZ⟩
   .exact .inr (by rw[ak n];exact s _ _ e)
 rw[<-G]at k;have hc:∀q o,H1 q=some o->(Af o=true/\q∈F i)\/upd H1 p (.lst a) q=some o:=λq o e=>by
  by_cases n:q=p
  .subst n;rw[P]at e;cases e;exact .inl ⟨rfl,T⟩
  .exact .inr (by rw[ak n];exact e)
 have W0:Fp K (λq=>(A.B q/\q∉F i)\/q∈F i) (upd H1 p (.lst a)) m0 (setAt w π (.lst b)) v (F i):=Fp.mv (aq.refl _) (λq _ _ z=>by
  rcases z with z|z
  .exact z.1
  .exact(O.all q).mpr (.inr ⟨i,⟨m0,d⟩,z⟩)) m0 k
 obtain⟨h,a1,a2,_,a3,a4,a5⟩:=O1.chg (F':=F i) Q d L g hc (O.nd i ⟨m0,d⟩) (λq hq=>.inl hq) W0;exact⟨h,a1,a2,a3,N,a5⟩
theorem yq{a:Ev}{P:List W->Prop}(h:match look a i with|some (.lst l)=>P l|_=>False):∃l,look a i=some (.lst l)/\P l:=by
 cases b:look a i with
 |none=>rw[b]at h;exact h.elim
 |some d=>
  rw[b]at h;cases d with
  |lst l=>exact⟨l,rfl,h⟩
  |_=>exact h.elim
theorem W2:jC m0 []=some m0:=by cases m0<;>rfl
theorem NY{w:W}:cP w []=some w:=by cases w<;>rfl
theorem NZ{w u:W}:setAt w [] u=u:=by cases w<;>rfl
theorem N3(o:∀{q:TE},PE X e q->PS X st (CZ (XX X.K "list" zw (jO i) (K4 q RT))))(hi:(i,.f)∈M)(F:∀R,VE X M R .s e (te R)):
 VS X M m st (λd a=>match look a i with|some (.lst l)=>te d.ex a λw=>l.length<sizeLine/\d.nx (a.set i (some (.lst (l++[w]))))|_=>False):=by
 rintro g s E H D I ⟨A,P,a,d,S,L,hz,h,k⟩;obtain⟨l,e1,h⟩:=yq h;obtain⟨T,p,j,J,G,B,z,U,b⟩:=uu (π:=[]) S hi W2 e1 NY;cases G;refine o (F d.ex) g s E H D I ⟨_,J,.inl ⟨rfl,j,.inl (.inl B)⟩,A,P,a,_,S,L,h,λw v O y n r=>?_⟩;obtain⟨Q,N,a2,_,_,C⟩:=b O n (l++[w]) (j++[v]) ((z.same n).app (.cons r.bI .nil));rw[NZ]at C;exact⟨p,j,v,rfl,rfl,n _ _ B,by rw[z.len];exact y.1,k.nx Q _ _ _ N a2 y.2 C⟩
theorem N4(B:∀{E F:TE},PE X e E->PE X e1 F->PS X st (lY E (RA (jO i) F K5)))(hi:(i,.f)∈M)(U:∀R,VE X M R .s e (te R))(T:∀R,VE X M R .s e1 (t1 R)):
 VS X M m st (λd b=>te d.ex b λw=>match look b i with|some (.lst l)=>(t1 d.ex b λx=>(match x with|.int j=>∃n,vE l.length j=some n/\d.nx (b.set i (some (.lst (l.set n w))))|_=>False))|_=>False):=by
 rintro q s P H D I ⟨A,O,b,d,S,L,hz,h,k⟩;refine B (U d.ex) (T d.ex) q s P H D I ⟨A,O,b,_,S,L,h,λw v H1 y J r=>?_⟩;obtain⟨l,e1,y⟩:=yq y;obtain⟨v0,p,C,h1,Z,Y,K,hB,o⟩:=uu (π:=[]) S hi W2 e1 NY;cases Z;refine⟨_,h1,A,O,b,_,S.same J,L,y,λz vz H2 a G Q=>?_⟩;cases z with
 |int j=>obtain⟨n,e,a⟩:=a;have g:=J.trans G;obtain⟨A',a1,a2,_,_,N⟩:=o H2 g (l.set n w) (C.set n v) ((K.same g).set (r.bI.same G));rw[NZ]at N;exact⟨p,C,j,n,rfl,Q.bI.int_inv,g _ _ Y,by rw[K.len];exact e,k.nx A' _ _ _ a1 a2 a N⟩
 |_=>exact a.elim
theorem EH(p:∀R,VE X [] R mr e (te R))(o:mr=m\/m=.s)(j:cW m=false):VS X M m (.Return (some e) pos) (λd b=>te d.ex b d.rt):=by
 rintro a s n H D I ⟨A,y,b,d,S,q,hz,h,k⟩;refine sX (p d.ex) a s n H D I ⟨_,y,b,_,S.go,q,h,λw v l g f r=>?_⟩;rcases o with rfl|rfl
 .exact k.rt w v l g (S.sm.trans f) (.of j (r.back S.sm λ_ z=>z))
 .exact k.rt w v l g (S.sm.trans f) (.of j ((r.s S.dm).back S.sm λ_ z=>z))
theorem IJ(l:∀R,VE X M R .s e (te R)):VS X M .s (.Return (some e) pos) (λd b=>te d.ex b d.rt):=by rintro a s f H D I ⟨A,p,b,d,S,n,hz,h,k⟩;refine sX (l d.ex) a s f H D I ⟨A,p,b,_,S,n,h,λw v o j g r=>?_⟩;exact k.rt w v o j (S.sm.trans g) (.of rfl (cY.back S.sm S.sub' r))
theorem IK(n:PE X e (jO i))(hi:(i,m)∈M)(l:cW m=false):VS X M m (.Return (some e) pos) (λd b=>match look b i with|some w=>d.rt w|none=>False):=by
 rintro a s g H D I ⟨A,B,b,d,S,y,hz,h,k⟩
 try dsimp only at h
 cases f:look b i with
 |none=>rw[f]at h;exact h.elim
 |some w=>
  rw[f]at h;obtain⟨F,O⟩:=S.ow;obtain⟨v,r,o⟩:=O.val i m w hi f;refine sX n a s g H D I ⟨_,r,k.rt _ _ H h S.sm (.of l ⟨F i,O.nd i ⟨m,hi⟩,λp j=>O.nw i p ⟨m,hi⟩ j,Fp.mv (aq.refl _) (λq _ _ z=>?_) m o⟩)⟩;rcases z with z|z
  .exact(O.all q).mpr (.inl z)
  .exact(O.all q).mpr (.inr ⟨i,⟨m,hi⟩,z⟩)
theorem uv{K:Frag}{A:Fz}{n H:Hp}{o:St}{h:Ev}{g b:W}{v:V}(S:SR K M A n o H h)(a:(0,m0)∈M)(q:look h 0=some b)(f:∃d,A.s0=some d)(r:Rep K A.B H g v):yp K A.ab A.s0 n H (.io m0) (.tup [g,b]) v:=by obtain⟨d,f⟩:=f;obtain⟨F,O⟩:=S.ow;obtain⟨u,l,s⟩:=O.val 0 m0 b a q;rw[(S.sl d f).1]at l;cases l;have k:∀p,(A.ab p\/p∈F 0)->A.B p:=λp z=>(O.all p).mpr (z.imp id λz=>⟨0,⟨m0,a⟩,z⟩);exact⟨g,b,d,F 0,rfl,f,O.nd 0 ⟨m0,a⟩,λp j=>⟨O.nw 0 p ⟨m0,a⟩ j,O.na 0 p ⟨m0,a⟩ j⟩,Fp.mv (aq.refl _) (λp _ _ z=>k p z) m0 s,r.less k⟩
theorem TM{a b:List Stmt}(r:∀R,VT X M R c (tc R))(w:As X M m a t)(v:As X M m b u):VS X M m (.If c a b pos) (λd f=>tc d.ex f λx=>truth x λk=>if k=true then t d f else u d f):=by
 rintro g s p H D I ⟨A,n,f,d,S,l,hz,h,k⟩;refine K1 (r d.ex) w v g s p H D I ⟨A,n,f,_,S,l,h,λx y j o=>?_⟩;obtain⟨q,rfl,j⟩:=bE j;refine⟨q,rfl,?_⟩;cases q with
 |true=>exact⟨A,n,f,d,S.same o,l,hz,j,k⟩
 |false=>exact⟨A,n,f,d,S.same o,l,hz,j,k⟩
end
theorem yr{X:Cx}{st:Stmt}{t:TS}(h:PS X.m9 st t):PS X st t:=PS.m9 h
section
variable{X:Cx}{M:Ms}{m:Md}{body:List Stmt}{tb:WS}{c iter tg:Expr}{tc:WT}{ti:(Addr->Prop)->WT}{pos:Pos}{one:Bool}{ts:List Nat}
theorem N5(L:VT X.m9 M (λ_=>False) c tc)(O:As X.m9 M m body tb):VS X M m (.While c body [] pos) (λd r=>Ig (λr Q=>tc r λx=>truth x Q) tb d r):=by
 refine PS.imp (yr (vo PassesOwn.never L O)) ?_;rintro D T H ⟨A,u,r,d,S,U,hz,h,k⟩;obtain⟨J,⟨C,G⟩,s⟩:=h;refine⟨λn b f=>∃e a,e.ab=A.ab/\e.s0=A.s0/\J n a/\SR X.K M e u b f a,⟨C,A,r,rfl,rfl,G,S⟩,?_⟩;rintro n B Y ⟨y,v,t,p,F,w⟩;refine⟨y,u,v,_,w,.none,s n v F,λx R o z=>?_⟩;obtain⟨q,rfl,o⟩:=bE o;refine⟨q,rfl,?_⟩;cases q with
 |true=>obtain⟨N,P,o⟩:=o;refine⟨λb f=>∃e a,e.ab=A.ab/\e.s0=A.s0/\N a/\SR X.K M e u b f a,λb f ⟨e,a,j,a2,i,g⟩=>?_,y,u,v,_,w.same z,.none,(by rw[p];exact hz),o,⟨λe a b f j a2 i g=>⟨e,a,j.trans t,a2.trans p,i,g⟩,by rw[t,p];exact k.rt,λe a b f j a2 i g=>k.nx e a b f (j.trans t) (a2.trans p) i g,λe a b f j a2 i g=>⟨e,a,j.trans t,a2.trans p,i,g⟩⟩⟩;obtain⟨E,l,I⟩:=P a i;exact⟨E,l,e,a,j,a2,I,g⟩
 |false=>exact k.nx y _ _ R t p o (w.same z)
theorem N6(hc:X.calm=true)(hM:∀i∈ts,¬aL M i)(hi:PI X.m9 tg iter (CG X.m9 M (λ_=>False) false (ti λ_=>False)))(hg:PG X.m9 tg (gT X.K one ts))(hb:As X.m9 M m body tb)(hs:∀x,foldedSetIterable iter X.env x=pure x):
 VS X M m (.For tg iter body [] pos) (λd G=>ti (λ_=>False) G λz=>items z λg=>kU (λw N a=>wT one ts w a λl=>tb N l) d g G):=by
 refine PS.imp (yr (Mp PassesOwn.never hc hi hg hb hs)) ?_;rintro D σ H ⟨A,H0,G,d,S,er,hz,h,k⟩;refine⟨A,H0,G,_,S,.none,h,λz T=>?_⟩;obtain⟨g,ez,hw⟩:=mO.mp T;refine⟨g,ez,λJ H1 s1 it=>?_⟩;have S1:=S.same s1;obtain⟨L,Ss,Q,b1,b2⟩:=S1.rb;have low:Ar X.K false A.ab L J g:=it.low (λp o e=>b2 p o e) λp z=>S.sub' p z;have iw:=low.iw;refine⟨λi n f r=>n=g.length -i/\i<=g.length/\∃b a,b.ab=A.ab/\b.s0=A.s0/\SR X.K M b L f r a/\kU (λw N a=>wT one ts w a λl=>tb N l) d (g.drop i) a,⟨g.length,rfl,KB _,A,G,rfl,rfl,Ss,hw⟩,?_⟩;have up:∀{b:Fz}{f:St}{r:Hp}{a:Ev},SR X.K M b L f r a->SR X.K M b H0 f r a:=λ{b f r a} q=>by obtain⟨F,O⟩:=q.ow;exact⟨q.len,q.sh,Q.trans q.sm,q.dm,q.sl,F,⟨O.un,O.val,O.emp,O.nd,O.ds,λi p hi e=>Q.free (O.nw i p hi e),O.na,O.all⟩⟩
 rintro i n R Y ⟨rfl,hi2,Z,dQ,C,B,E,P⟩;by_cases u:i<g.length
 .refine .inr ⟨iw.go i Y E.sm u,λf r=>∃b a,b.ab=A.ab/\b.s0=A.s0/\SR X.K M b L f r a/\kU (λw N a=>wT one ts w a λl=>tb N l) d (g.drop (i+1)) a,by rintro f r ⟨b,a,v,a2,t,s⟩;exact⟨g.length -(i+1),by omega,rfl,u,b,a,v,a2,t,s⟩,λx H3 y=>?_⟩;have U:g[i]?=some g[i]:=B1 u;rw[T2 u,kU]at P;generalize g[i]=w at*;obtain⟨s3,I⟩:=iw.yl i Y x H3 w E.sm U y;have hr:Rep X.K (FB Z M R) H3 w x:=I _ λp o e z=>by
   obtain⟨F,O⟩:=E.ow;rcases(O.all p).mp z with z|⟨j,hj,e2⟩
   .rw[C]at z;exact z
   .rw[O.nw j p hj e2]at e;cases e
  refine tgt hM (E.same s3) hr P λvs a hp S4=>?_;exact⟨Z,L,a,_,S4,.none,(by rw[B];exact hz),hp,⟨λb l TN Ys v a2 t s=>⟨b,l,v.trans C,a2.trans B,s,t⟩,λw' v' r t s q3=>k.rt w' v' r t (Q.trans s) (by rw[C,B]at q3;exact q3.back Q),λb l TN Ys v a2 t s=>k.nx b _ _ _ (v.trans C) (a2.trans B) t (up s),λb l TN Ys v a2 t s=>⟨b,l,v.trans C,a2.trans B,s,t⟩⟩⟩
 .have e:i=g.length:=by omega
  subst e;refine .inl ⟨iw.st _ Y E.sm rfl,?_⟩;rw[ei,kU]at P;exact k.nx Z _ _ _ C B P (up E)
end
structure Go(A:Fz)(H:Hp)(A':Fz)(H':Hp):Prop where
 ab:A'.ab=A.ab
 s0:A'.s0=A.s0
 B:∀p o,H p=some o->A'.B p->A.B p
 ch:ua A.B H H'
theorem Go.same{A:Fz}{H H':Hp}(s:aq H H'):Go A H A H':=⟨rfl,rfl,λ_ _ _ z=>z,.same s⟩
theorem Go.trans{A c b:Fz}{H H1 a:Hp}(g:Go A H c H1)(k:Go c H1 b a):Go A H b a:=by
 refine⟨k.ab.trans g.ab,k.s0.trans g.s0,λp o e z=>?_,λp o e=>?_⟩
 .rcases g.ch p o e with⟨_,y⟩|y
  .exact y
  .exact g.B p o e (k.B p o y z)
 .rcases g.ch p o e with y|y
  .exact .inl y
  .rcases k.ch p o y with⟨f,d⟩|h
   .exact .inl ⟨f,g.B p o e d⟩
   .exact .inr h
theorem Go.rep{K:Frag}{A a:Fz}{H H1:Hp}{w:W}{v:V}(g:Go A H a H1)(h:Rep K A.B H w v):Rep K a.B H1 w v:=Rep.chg g.ch g.B w h
abbrev Au:=Ev->(W->Ev->Prop)->Prop
abbrev N7:=Ev->(List W->Ev->Prop)->Prop
noncomputable def tP(X:Cx)(M:Ms)(R:Addr->Prop)(t:Au):TE:=λe H Q=>∃A c f P,SR X.K M A c e H f/\ER X c R/\t f P/\∀d w v b a,P w a->Go A H d b->SR X.K M d c e b a->Rep X.K d.B b w v->Q v b
noncomputable def Yt(X:Cx)(M:Ms)(R:Addr->Prop)(t:Au):TT:=λe H Q=>∃A c f P,SR X.K M A c e H f/\ER X c R/\t f P/\∀g x d a,P x a->Go A H g d->SR X.K M g c e d a->∃b,x=.bl b/\Q b d
noncomputable def Yu(X:Cx)(M:Ms)(R:Addr->Prop)(t:N7):TA:=λe H Q=>∃A c f P,SR X.K M A c e H f/\ER X c R/\t f P/\∀d g h b a,P g a->Go A H d b->SR X.K M d c e b a->af X.K d.B b g h->Q h b
abbrev VP(X:Cx)(M:Ms)(R:Addr->Prop)(e:Expr)(t:Au):Prop:=PE X e (tP X M R t)
abbrev GC(X:Cx)(M:Ms)(R:Addr->Prop)(e:Expr)(t:Au):Prop:=PT X e (Yt X M R t)
abbrev Vj(X:Cx)(M:Ms)(R:Addr->Prop)(e:Expr)(t:Au):Prop:=PW X e (Yt X M R t)
abbrev GD(X:Cx)(M:Ms)(R:Addr->Prop)(es:List Expr)(t:N7):Prop:=PA X es (Yu X M R t)
section
variable{X:Cx}{M:Ms}{R:Addr->Prop}{m m0:Md}{e a b c:Expr}{es rest:List Expr}{t ta tb:Au}{tl:N7}{pos apos cpos p:Pos}{i j:Nat}{st:Stmt}{x:Str}{π:List mG}
theorem TQ{t:WT}(h:VE X M R .s e t):VP X M R e (λd Q=>t d λw=>Q w d):=PE.imp h<|by rintro o H Q ⟨A,l,d,P,S,g,h,k⟩;exact⟨A,l,d,_,S,g,h,λw v n f s r=>k A w v n d f (.same s) (S.same s) r.bI⟩
theorem N8{t:WT}(h:VT X M R e t):GC X M R e (λd Q=>t d λw=>Q w d):=PT.imp h<|by rintro o H Q ⟨A,l,d,P,S,g,h,k⟩;exact⟨A,l,d,_,S,g,h,λw n f s=>k A w n d f (.same s) (S.same s)⟩
theorem N9(hi:(i,.f)∈M)(C:PE X e (jO i))(n:attributeBase e "pop" X.env (eval e X.env)=eval e X.env)(d:(apos.endLine==cpos.line)=true):
 VP X M R (.Call (.Attribute e "pop" apos) [] [] cpos) (λs Q=>match look s i with|some (.lst l)=>∃w,l[l.length -1]?=some w/\Q w (s.set i (some (.lst l.dropLast)))|_=>False):=
 PE.imp (Di PySem.F.plainAttrs_list PySem.F.slot_list_pop PySem.F.type_list_pop MH C n d)<|by rintro O H Q ⟨A,Z,s,P,S,Y,h,k⟩;obtain⟨l,K,w,J,h⟩:=yq h;obtain⟨T,q,r,G,E,y,u,U,o⟩:=uu (π:=[]) S hi W2 K NY;cases E;obtain⟨v,I,D⟩:=u.get J;obtain⟨B,N,a2,a3,L,z⟩:=o H (aq.refl H) l.dropLast r.dropLast u.dropLast;rw[NZ]at z;have g:Go A H B (upd H q (.lst r.dropLast)):=⟨N,a2,a3,L⟩;exact⟨_,G,.inl ⟨rfl,r,.inl (.inl y)⟩,q,r,v,rfl,rfl,y,by rw[u.len];exact I,k B w v _ _ h g z (g.rep D)⟩
theorem Oa{op:Operator}(ha:VP X M R a ta)(hb:VP X M R b tb):VP X M R (.BinOp a op b pos) (λD Q=>ta D λx G=>tb G λy f=>gR op x y λz=>Q z f):=by rintro n s L H Q I ⟨A,J,D,P,S,T,p,k⟩;refine wpAny_BinOp (bin ha hb I (R:=λC q l=>∃x y d f,gR op x y (λz=>P z f)/\Go A H d l/\SR X.K M d J L l f/\Rep X.K d.B l x C/\Rep X.K d.B l y q) ⟨A,J,D,_,S,T,p,λA1 x C H1 G F g1 S1 Z=>⟨A1,J,G,_,S1,T,F,λd y q l f E O o Y=>⟨x,y,d,f,E,g1.trans O,o,O.rep Z,Y⟩⟩⟩ ?_);rintro v u U C q l I2 rv ru ⟨x,y,d,f,h,g,o,F,E⟩;exact ym op n U L l d.B x y C q v u _ Q I2 o.dom rv ru F.b E.b h λw z H' pw N r=>k d w z H' f pw (g.trans (.same N)) (o.same N) (r.rep o.dom)
theorem Ob{op:CmpOp}(hu:X.A.units+64<cLine)(hm:behindInMarks op b=false)(ha:VP X M R a ta)(hb:VP X M R b tb):VP X M R (.Compare a [op] [b] pos) (λD Q=>ta D λx G=>tb G λy f=>eZ op x y λz=>Q z f):=by rintro n s L H Q I ⟨A,J,D,P,S,T,p,k⟩;refine wpAny_Compare1 (bin ha hb I (R:=λC q l=>∃x y d f,eZ op x y (λz=>P z f)/\Go A H d l/\SR X.K M d J L l f/\Rep X.K d.B l x C/\Rep X.K d.B l y q) ⟨A,J,D,_,S,T,p,λA1 x C H1 G F g1 S1 Z=>⟨A1,J,G,_,S1,T,F,λd y q l f E O o Y=>⟨x,y,d,f,E,g1.trans O,o,O.rep Z,Y⟩⟩⟩ ?_) hm;rintro v u U C q l I2 rv ru ⟨x,y,d,f,h,g,o,F,E⟩;exact um hu op n U L l d.B x y C q v u _ Q I2 o.dom rv ru F.b E.b h λw z H' pw N r=>k d w z H' f pw (g.trans (.same N)) (o.same N) (r.rep o.dom)
theorem IL{op:CmpOp}(hu:X.A.units+64<cLine)(hm:behindInMarks op b=false)(ha:VP X M R a ta)(hb:VP X M R b tb):GC X M R (.Compare a [op] [b] pos) (λG Q=>ta G λx N=>tb N λy n=>eZ op x y λz=>Q z n):=by
 rintro l s F H Q I ⟨A,O,G,P,S,er,p,k⟩;have q:=bin ha hb I (R:=λD C o=>∃x y d n,eZ op x y (λz=>P z n)/\Go A H d o/\SR X.K M d O F o n/\Rep X.K d.B o x D/\Rep X.K d.B o y C) ⟨A,O,G,_,S,er,p,λA1 x D H1 N L g1 S1 rx=>⟨A1,O,N,_,S1,er,L,λd y C o n J Z E ry=>⟨x,y,d,n,J,g1.trans Z,E,Z.rep rx,ry⟩⟩⟩
  (f:=compareOp op) (Q:=EP X l F λz T=>∃b,z=.bl b/\Q b T)<|by rintro v u U D C o I2 rv ru ⟨x,y,d,n,h,g,E,L,J⟩;refine um hu op l U F o d.B x y D C v u _ _ I2 E.dom rv ru L.b J.b h λw z T pw Y r=>?_;obtain⟨b,rfl,q⟩:=k d w T n pw (g.trans (.same Y)) (E.same Y);exact⟨b,r.bI.j5,q⟩
 refine wpAny_isTrue_Compare1 (bV q λv s1 q1=>bV q1 λu U q2=>bV q2 λc s3 ⟨z,H3,I3,r3,b,ez,q3⟩=>?_) hm;subst ez;cases r3;exact d6 ⟨H3,I3,q3⟩
theorem uw(n:∀d,isTrue e X.env d=(do let v<-d;standAt e.pos;holding [v] (truthy v)))(h:VP X M R e t):GC X M R e t:=PT.imp (CT h n)<|by rintro B H Q ⟨A,w,f,P,S,q,h,k⟩;refine⟨A,w,f,P,S,q,h,λy x C u r l o s g=>?_⟩;obtain⟨b,rfl,z⟩:=k y _ u r l o s;exact⟨b,g.j5,z⟩
theorem EI(d:GC X M R a ta):Vj X M R (.BoolOp .And [a] pos) ta:=yY d
theorem IM(z:GC X M R a ta)(w:Vj X M R (.BoolOp .And (b::rest) pos) tb):Vj X M R (.BoolOp .And (a::b::rest) pos) (λg Q=>ta g λx d=>truth x λk=>if k=true then tb d Q else Q (.bl false) d):=
 PW.imp (CU z w)<|by
  rintro I H Q ⟨A,s,g,P,S,n,h,k⟩;refine⟨A,s,g,_,S,n,h,λu x F o f l r=>?_⟩;obtain⟨q,rfl,f⟩:=bE f;refine⟨q,rfl,?_⟩;cases q with
  |true=>exact⟨u,s,o,P,r,n,f,λG y E C v B D=>k G _ E C v (l.trans B) D⟩
  |false=>obtain⟨b,e,q⟩:=k u _ F o f l r;cases e;exact q
theorem IP:GD X M R [] (λd Q=>Q [] d):=PA.imp dJ<|by rintro f H Q ⟨A,l,d,P,S,g,h,k⟩;exact k A [] [] H d h (.same (aq.refl H)) S .nil
theorem EJ(w:starEach (a::es) X.env=(false,eval a X.env)::starEach es X.env)(z:VP X M R a ta)(y:GD X M R es tl):GD X M R (a::es) (λd Q=>ta d λx l=>tl l λn g=>Q (x::n) g):=
 PA.imp (bG z y w)<|by rintro I H Q ⟨A,r,d,P,S,q,h,k⟩;refine⟨A,r,d,_,S,q,h,λG x J L l v B D s=>⟨G,r,l,_,D,q,v,λF n K E g f o C u=>?_⟩⟩;exact k F _ _ E g f (B.trans o) C (.cons (o.rep s) u)
theorem TR(O:kI b)(U:VP X M R a ta)(T:VP X M R b tb):VP X M R (.Subscript a b pos) (λr Q=>ta r λx F=>tb F λy o=>Nk x y λz=>Q z o):=PE.imp (Dg xT U T O)<|by
 rintro σ H Q ⟨A,L,r,P,S,K,h,k⟩;refine⟨A,L,r,_,S,K,h,λZ x vx H1 F N D Y f=>⟨Z,L,F,_,Y,K,N,λJ y vy I o d q G u=>?_⟩⟩;have f:=(q.rep f).b;cases x with
 |lst l=>
  cases y with
  |int i=>obtain⟨p,s,rfl,g,C⟩:=f.lst;obtain⟨w,e,d⟩:=d;obtain⟨v,E,B⟩:=Am C e;exact .inl ⟨p,s,i,v,rfl,u.int_inv,.inl g,E,k J _ _ I o d (D.trans q) G B⟩
  |_=>exact d.elim
 |tup l=>
  cases y with
  |int i=>obtain⟨p,s,rfl,g,C⟩:=f.tup;obtain⟨w,e,d⟩:=d;obtain⟨v,E,B⟩:=Am C e;exact .inr (.inl ⟨p,s,i,v,rfl,u.int_inv,g,E,k J _ _ I o d (D.trans q) G B⟩)
  |_=>exact d.elim
 |gQ ns=>
  cases y with
  |int i=>obtain⟨p,rfl,g⟩:=f.gQ;obtain⟨n,e,d⟩:=d;exact .inl ⟨p,_,i,_,rfl,u.int_inv,g,An e,k J _ _ I o d (D.trans q) G (fR _)⟩
  |_=>exact d.elim
 |_=>exact d.elim
theorem af.bl{K:Frag}{B:Addr->Prop}{H:Hp}:∀{d:List W}{vs:List V},af K B H d vs->nG K B H d vs
 |[],_,h=>h.nil_inv
 |w::d,_,h=>by obtain⟨v,r,rfl,g,f⟩:=h.cons_inv;exact⟨v,r,rfl,g.b,f.bl⟩
theorem Oc{y:BI}{s:String}(L:cL X (.builtin s) (NL X.K y))(I:Gl X x)(G:X.mg x=none)(E:bootBuiltins x=some (.builtin s))(N:GD X M R (e::es) tl)(F:x≠"__name__")(n:(x==("__debug__":Str))=false)
 (J:starEach (e::es) X.env=(false,eval e X.env)::starEach es X.env)(l:(backTo pos (starEach es X.env)).any (·.1)=false):VP X M R (.Call (.Name x p) (e::es) [] pos) (λf Q=>tl f λg d=>qJ y g λw=>Q w d):=
 PE.imp (oN L I G E N F n J l)<|by rintro Z H Q ⟨A,U,f,P,S,T,h,k⟩;exact⟨A,U,f,_,S,T,h,λz g vs H1 u D O o C=>⟨z.B,g,λw=>P w u,o.dom,C.bl,D,λw v Y pw q r=>k z w v Y u pw (O.trans (.same q)) (o.same q) (r.rep o.dom)⟩⟩
theorem Od{y:BI}{s:String}(L:cL X (.type s) (NL X.K y))(I:Gl X x)(G:X.mg x=none)(E:bootBuiltins x=some (.type s))(N:GD X M R (e::es) tl)(F:x≠"__name__")(n:(x==("__debug__":Str))=false)
 (J:starEach (e::es) X.env=(false,eval e X.env)::starEach es X.env)(l:(backTo pos (starEach es X.env)).any (·.1)=false):VP X M R (.Call (.Name x p) (e::es) [] pos) (λf Q=>tl f λg d=>qJ y g λw=>Q w d):=
 PE.imp (rT L I G E N F n J l)<|by rintro Z H Q ⟨A,U,f,P,S,T,h,k⟩;exact⟨A,U,f,_,S,T,h,λz g vs H1 u D O o C=>⟨z.B,g,λw=>P w u,o.dom,C.bl,D,λw v Y pw q r=>k z w v Y u pw (O.trans (.same q)) (o.same q) (r.rep o.dom)⟩⟩
theorem IQ(o:∀{q:TE},PE X e q->PS X st (lY q (fK j)))(z:¬aL M j){tt:(Addr->Prop)->Au}(B:∀R,VP X M R e (tt R)):VS X M m st (λd n=>tt d.ex n λw f=>d.nx (f.set j (some w))):=by rintro l s u H D I ⟨A,G,n,d,S,C,hz,h,k⟩;exact o (B d.ex) l s u H D I ⟨A,G,n,_,S,C,h,λJ w v F f y g E r=>k.nx J _ _ F g.ab g.s0 y (E.set z r)⟩
theorem IS{tt:(Addr->Prop)->Au}(o:∀R,PS X st (CZ (tP X M R (tt R)))):VS X M m st (λd n=>tt d.ex n λw f=>d.nx f):=by rintro l s q H D I ⟨A,C,n,d,S,y,hz,h,k⟩;exact o d.ex l s q H D I ⟨A,C,n,_,S,y,h,λE w v B f u g z r=>k.nx E _ _ B g.ab g.s0 u z⟩
theorem Oe{x y:List Stmt}{w v:WS}{tt:(Addr->Prop)->Au}(F:∀R,GC X M R c (tt R))(J:As X M m x w)(G:As X M m y v):VS X M m (.If c x y pos) (λd o=>tt d.ex o λx f=>truth x λk=>if k=true then w d f else v d f):=by
 rintro l s E H D I ⟨A,u,o,d,S,r,hz,h,k⟩;refine K1 (F d.ex) J G l s E H D I ⟨A,u,o,_,S,r,h,λC x K z n g B=>?_⟩;obtain⟨q,rfl,n⟩:=bE n;refine⟨q,rfl,?_⟩;cases q with
 |true=>exact⟨C,u,z,d,B,r,(by rw[g.s0];exact hz),n,by rw[g.ab,g.s0];exact k⟩
 |false=>exact⟨C,u,z,d,B,r,(by rw[g.s0];exact hz),n,by rw[g.ab,g.s0];exact k⟩
theorem Of{u:List Stmt}{tb:WS}{tt:Au}(hc:GC X.m9 M (λ_=>False) c tt)(hb:As X.m9 M m u tb):VS X M m (.While c u [] pos) (λd E=>Th (λE Q=>tt E λx f=>truth x λk=>Q k f) tb d E):=by
 refine PS.imp (yr (vo PassesOwn.never hc hb)) ?_;rintro D σ H ⟨A,G,E,d,S,er,hz,h,k⟩;obtain⟨J,⟨m0,Y⟩,F⟩:=h;refine⟨λn o v=>∃r f,r.ab=A.ab/\r.s0=A.s0/\J n f/\SR X.K M r G o v f,⟨m0,A,E,rfl,rfl,Y,S⟩,?_⟩;rintro n P H1 ⟨A1,I,z,s,U,S1⟩;refine⟨A1,G,I,_,S1,.none,F n I U,λO x H2 dQ C g L=>?_⟩;obtain⟨q,rfl,C⟩:=bE C;refine⟨q,rfl,?_⟩;have z:=g.ab.trans z;have s:=g.s0.trans s;cases q with
 |true=>obtain⟨N,hN,C⟩:=C;refine⟨λo v=>∃r f,r.ab=A.ab/\r.s0=A.s0/\N f/\SR X.K M r G o v f,λo v ⟨r,f,B,a2,y,w⟩=>?_,O,G,dQ,_,L,.none,(by rw[s];exact hz),C,⟨λr f o v B a2 y w=>⟨r,f,B.trans z,a2.trans s,y,w⟩,by rw[z,s];exact k.rt,λr f o v B a2 y w=>k.nx r f o v (B.trans z) (a2.trans s) y w,λr f o v B a2 y w=>⟨r,f,B.trans z,a2.trans s,y,w⟩⟩⟩;obtain⟨T,l,Z⟩:=hN f y;exact⟨T,l,r,f,B,a2,Z,w⟩
 |false=>exact k.nx O _ _ H2 z s C L
theorem Og{te:(Addr->Prop)->WT}(y:∀R,VE X M R .s e (te R))(z:(0,m0)∈M):VS X M (.io m0) (.Return (some e) pos) (λd f=>te d.ex f λw=>match look f 0 with|some o=>(d.rt (.tup [w,o]))|none=>False):=by
 rintro g s u H D I ⟨A,E,f,d,S,B,hz,h,k⟩;refine sX (y d.ex) g s u H D I ⟨A,E,f,_,S,B,h,λw v C l q r=>?_⟩;cases n:look f 0 with
 |none=>rw[n]at l;exact l.elim
 |some o=>rw[n]at l;exact k.rt _ v C l (S.sm.trans q) (uv (S.same q) z n (ag.mp hz) r.bI)
theorem Oh(q:(0,m0)∈M):VS X M (.io m0) (.Return none pos) (λd g=>match look g 0 with|some n=>(d.rt (.tup [.aV,n]))|none=>False):=by
 rintro f s o H D I ⟨A,u,g,d,S,r,hz,h,k⟩
 try dsimp only at h
 cases l:look g 0 with
 |none=>rw[l]at h;exact h.elim
 |some n=>rw[l]at h;exact zh f s o H D I (k.rt _ _ H h S.sm (uv S q l (ag.mp hz) Tn))
end
section
variable{X:Cx}{M:Ms}{R:Addr->Prop}{m m0:Md}{e o a b c:Expr}{es rest:List Expr}{t ta tb:Au}{tl:N7}{pos apos cpos p:Pos}{i j n:Nat}{st:Stmt}{x:Str}{π:List mG}
theorem IT{k n:Nat}{fv:Value}{sp:bD}(F:cH X.prog X.w X.K X.mg X.base k fv n (Lq X.K n m sp))(hr:cU k X.A)(hg:Gl X x)(hm:X.mg x=some fv)
 (hn:∀d P R,sp d P R->d.length=n)(ha:GD X M R (e::es) tl)(N:(x==("__debug__":Str))=false)(he:starEach (e::es) X.env=(false,eval e X.env)::starEach es X.env)(L:(backTo pos (starEach es X.env)).any (·.1)=false):
 VP X M R (.Call (.Name x p) (e::es) [] pos) (λD Q=>tl D λd z=>sp d (λw=>Q w z) R):=by
 rintro q s U H Q I ⟨A,H0,D,P,S,er,h,kk⟩;obtain⟨E,Z,hE,hR⟩:=er;refine dt (kG I hg hm ?_ N);refine ky (h₀:=X.base) I.ok.mod.L3 F.keep (bV (ha pos q s U H (λG u=>∃d f g,Go A H f u/\SR X.K M f H0 U u g/\af X.K f.B u d G/\sp d (λw=>P w g) R) I ⟨A,H0,D,_,S,⟨E,Z,hE,hR⟩,h,λf d G u g hw O l J=>⟨d,f,g,O,l,J,hw⟩⟩) λus s1 hz=>?_) he L;obtain⟨G,u,I1,r,d,f,g,O,l,J,Y⟩:=hz;exact⟨I1.lW,F.run hr Z I1 r ⟨f.B,d,_,R,hn _ _ _ Y,J,l.dom,Y,λw v T pw y r'=>kk f w v T g pw (O.trans (.same y)) (l.same y) (r'.rep l.dom),λC T rc y=>hE C T rc (l.sm.trans y)⟩⟩
theorem EK{K:Frag}{A:Fz}{J H:Hp}{l:St}{q:Ev}{k:W}{sp:bD}{g:List W}{vs:List V}{P:W->Ev->Prop}{Q:VK}{E:XK}{s:V}(S:SR K M A J l H q)(hi:(i,m0)∈M)(N:look q i=some k)(L:l[i]?=some (some s))(Y:af K A.B H g vs)(hn:g.length+1=n)
 (h:sp (k::g) (λr=>∃w y,r=.tup [w,y]/\P w (q.set i (some y))) R)(hE:∀C H',R C->aq J H'->E (.ref C) none H')(kk:∀f w v H' d,P w d->Go A H f H'->SR K M f J l H' d->Rep K f.B H' w v->Q v H'):Lr K n m0 sp (s::vs) H Q E:=by
 obtain⟨F,O⟩:=S.ow;obtain⟨v,T,h2⟩:=O.val i m0 k hi N;rw[L]at T;cases T;have G:aL M i:=⟨m0,hi⟩;have U:∀p,((A.B p/\p∉F i)\/p∈F i)->A.B p:=λp z=>by
  rcases z with z|z
  .exact z.1
  .exact(O.all p).mpr (.inr ⟨i,G,z⟩)
 refine⟨λp=>A.B p/\p∉F i,F i,k,s,g,vs,_,R,rfl,hn,O.nd i G,λp hp z=>z.2 hp,λp z=>S.dom p z.1,Fp.mv (aq.refl _) (λp _ _ z=>U p z) m0 h2,Y.less U,h,λw y v F' H' D I nd nw fp u=>?_,λC H' Z I=>hE C H' Z λp o e=>?_⟩
 .obtain⟨w',y',e,D⟩:=D;cases e;obtain⟨f,a1,a2,aB,a3,a4,S'⟩:=O.chg (F':=F') S hi N L (λp o e=>(I p o e).imp (λz=>⟨z.1,z.2⟩) id) nd nw fp;exact kk f w v H' _ D ⟨a1,a2,a3,a4⟩ S' (u.less λp z=>(aB p).mp z)
 .rcases I p o (S.sm p o e)with⟨_,z⟩|z
  .rw[O.nw i p G z]at e;cases e
  .exact z
theorem Oi{k n:Nat}{fv:Value}{sp:bD}(F:cH X.prog X.w X.K X.mg X.base k fv n (Lr X.K n m0 sp))(hr:cU k X.A)(hg:Gl X x)(hm:X.mg x=some fv)(hi:(i,m0)∈M)
 (hn:∀f P R,sp f P R->f.length=n)(hv:PE X e (jO i))(ha:GD X M R es tl)(Z:(x==("__debug__":Str))=false)(he:starEach (e::es) X.env=(false,eval e X.env)::starEach es X.env)(U:(backTo pos (starEach es X.env)).any (·.1)=false):
 VP X M R (.Call (.Name x p) (e::es) [] pos) (λG Q=>match look G i with|some _=>(tl G λf l=>match look l i with|some q=>sp (q::f) (λr=>∃w y,r=.tup [w,y]/\Q w (l.set i (some y))) R|none=>False)|none=>False):=by
 rintro J s σ H Q I ⟨A,H0,G,P,S,er,h,kk⟩;obtain⟨E,pE,hE,hR⟩:=er
 try dsimp only at h
 cases Y:look G i with
 |none=>rw[Y]at h;exact h.elim
 |some w1=>
  rw[Y]at h;obtain⟨F0,O0⟩:=S.ow;obtain⟨v0,L,_⟩:=O0.val i m0 w1 hi Y;refine dt (kG I hg hm ?_ Z);refine ky (h₀:=X.base) I.ok.mod.L3 F.keep (bV (bG hv ha he pos J s σ H (λO N=>∃f u D C q,O=v0::u/\Go A H D N/\SR X.K M D H0 σ N C/\af X.K D.B N f u/\look C i=some q/\sp (q::f) (λr=>∃w y,r=.tup [w,y]/\P w (C.set i (some y))) R) I ⟨v0,L,A,H0,G,_,S,⟨E,pE,hE,hR⟩,h,λD f O N C z g1 S1 T=>?_⟩) λus s1 ⟨O,N,I1,r,f,u,D,C,q,ev,g1,S1,T,d,qN⟩=>⟨I1.lW,?_⟩) he U
  .try dsimp only at z
   cases d:look C i with
   |none=>rw[d]at z;exact z.elim
   |some q=>rw[d]at z;exact⟨f,O,D,C,q,rfl,g1,S1,T,d,z⟩
  .subst ev;exact F.run hr pE I1 r (EK S1 hi d L T (by have:=hn _ _ _ qN;simpa using this) qN hE λA' w v H' l z g S' rr=>kk A' w v H' l z (g1.trans g) S' rr)
theorem Oj{pl:Sem Bool}{G:W}{k n:Nat}{f:Addr}{fd:FuncData}{ps fs:List Str}{ms:List Md}{sp:bD}(hG:∀C,G=.cls C->Meth X.K C x f)(F:b9 X.prog X.w X.K X.mg X.base (jB X.prog X.w) k f fd ps (Lr X.K n (.o fs ms) sp))(hr:cU k X.A)(hb:Binds X.K fd ps [])(hi:(i,.o fs ms)∈M)(Z:fs.contains x=false)
 (hn:∀D P R,sp D P R->D.length=n)(hv:PE X o (jO i))(ha:GD X M R (e::es) tl)(hst:starEach (e::es) X.env=(false,eval e X.env)::starEach es X.env)(hpl:(backTo pos (starEach es X.env)).any (·.1)=false)
 (ht:eval (.Call (.Attribute o x apos) (e::es) [] pos) X.env=(do
   let ov<-eval o X.env
   standAt apos.atName
   let(f,first)<-holding [ov] (getMethod ov x pl)
   callWith pos f first (backTo pos (starEach (e::es) X.env)) (backToKw pos (keywordEach [] X.env)))):
 VP X M R (.Call (.Attribute o x apos) (e::es) [] pos) (λY Q=>match look Y i with|some (.obj C _ _)=>G=.cls C/\(tl Y λD J=>match look J i with|some N=>sp (N::D) (λr=>∃w y,r=.tup [w,y]/\Q w (J.set i (some y))) R|none=>False)|_=>False):=by
 rintro L s σ H Q I ⟨A,H0,Y,P,S,er,h,kk⟩;obtain⟨E,pE,hE,hR⟩:=er
 try dsimp only at h
 cases hl:look Y i with
 |none=>rw[hl]at h;exact h.elim
 |some w1=>
  rw[hl]at h;cases w1 with
  |obj C fs' ws1=>
   obtain⟨hg,h⟩:=h;obtain⟨F0,O0⟩:=S.ow;obtain⟨v0,hv0,W3⟩:=O0.val i _ _ hi hl;obtain⟨C',dx,kQ,q,Vk,F',e1,rfl,e3,h1,h2,hc,_⟩:=W3;cases e1;have lk:(fs.zip Vk).lookup x=none:=by
    have:∀(l:List Str)(r:List V),l.contains x=false->(l.zip r).lookup x=none:=λl=>by
     induction l with
     |nil=>intro r _;rfl
     |cons y l ih=>
      intro r Z;cases r with
      |nil=>rfl
      |cons z r=>rw[YK,X3]at Z;rw[GF,C2,Z.1];exact ih r Z.2
    exact this fs Vk Z
   have mt:=hG C hg;refine PySem.W.methodCall_KW (pl:=pl) (bV (hv L s σ H (λv' H'=>v'=V.ref q/\H'=H) I ⟨_,hv0,rfl,rfl⟩) λu s1 ⟨x1,H1,I1,rx,ex,eh⟩=>?_) ht;subst ex;subst eh;obtain rfl:u=Value.ref q:=rx;refine oM I1 h1 hc.1 mt lk ?_;refine ky (first:=[.ref q]) (h₀:=X.base) I.ok.mod.L3 mt.kp (bV (ha pos L s1 σ H1 (λvs' W4=>∃D U T N,Go A H1 U W4/\SR X.K M U H0 σ W4 T/\af X.K U.B W4 D vs'/\look T i=some N/\sp (N::D) (λr=>∃w y,r=.tup [w,y]/\P w (T.set i (some y))) R) I1 ⟨A,H0,Y,_,S,⟨E,pE,hE,hR⟩,h,λU D vs H1 T O g1 S1 rs=>?_⟩) λus s2 hz=>?_) hst hpl
   .try dsimp only at O
    cases d:look T i with
    |none=>rw[d]at O;exact O.elim
    |some N=>rw[d]at O;exact⟨D,U,T,N,g1,S1,rs,d,O⟩
   .obtain⟨vs,H2,I2,r,D,U,T,N,g1,S1,rs,d,qN⟩:=hz;refine⟨I2.lW,xS (us:=.ref q::us) (vs:=.ref q::vs) (ds:=[]) (Dc:=[]) F hr hb .nil pE I2 (.cons rfl r) ?_⟩;rw[d4];exact EK S1 hi d hv0 rs (by have:=hn _ _ _ qN;simpa using this) qN hE λA' w v H' J O g S' rr=>kk A' w v H' J O (g1.trans g) S' rr
  |_=>exact h.elim
end
theorem Ol{x:Str}:∀(l:List Str)(r:List V),l.contains x=false->(l.zip r).lookup x=none:=λl=>by
 induction l with
 |nil=>intro r _;rfl
 |cons y l b=>
  intro r a;cases r with
  |nil=>rfl
  |cons z r=>rw[YK,X3]at a;rw[GF,C2,a.1];exact b r a.2
theorem Om{x:Str}{n:Nat}{v:V}:∀(l:List Str)(r:List V)(n:Nat),l.Nodup->l[n]?=some x->r[n]?=some v->(l.zip r).lookup x=some v:=λl=>by
 induction l with
 |nil=>intro r n _ e _;exact nn e
 |cons y l g=>
  intro r n b c a;cases r with
  |nil=>exact nn a
  |cons z r=>
   rw[GF,C2];cases n with
   |zero=>
    cases c;cases a;rw[eM]
   |succ n=>
    have d:l[n]?=some x:=by simpa using c
    have f:(x==y)=false:=by rw[ip];rintro rfl;exact(X9.mp b).1 (Qb d)
    rw[f];exact g r n (X9.mp b).2 d (by simpa using a)
theorem IU{x:Str}{v:V}:∀(l:List Str)(r:List V)(n:Nat),l.Nodup->l[n]?=some x->r.length=l.length->ir x v (l.zip r)=l.zip (r.set n v):=λl=>by
 induction l with
 |nil=>intro r n _ e _;exact nn e
 |cons y l g=>
  intro r n b d c;cases r with
  |nil=>cases c
  |cons z r=>
   cases n with
   |zero=>
    cases d;rw[List.set_cons_zero,GF,GF,ir];rw[Bi (by first|rfl|simp)]
   |succ n=>
    have f:l[n]?=some x:=by simpa using d
    have a:y≠x:=by rintro rfl;exact(X9.mp b).1 (Qb f)
    rw[Xz,GF,GF,ir];rw[BM (by first|exact a|simpa using a),g r n (X9.mp b).2 f (by simpa using c)]
section
variable{X:Cx}{M:Ms}{R:Addr->Prop}{m m0:Md}{e o a b c:Expr}{es rest:List Expr}{t ta tb:Au}{tl:N7}{pos apos cpos p:Pos}{i j n:Nat}{st:Stmt}{x:Str}{π:List mG}
theorem IV{pl:Sem Bool}{G:W}{k n:Nat}{f:Addr}{T:FuncData}{ps D:List Str}{ms:List Md}{sp:bD}(hG:∀C,G=.cls C->Meth X.K C x f)(F:b9 X.prog X.w X.K X.mg X.base (jB X.prog X.w) k f T ps (Lr X.K n (.o D ms) sp))(hr:cU k X.A)(hb:Binds X.K T ps [])(hi:(i,.o D ms)∈M)(hx:D.contains x=false)
 (hn:∀N P R,sp N P R->N.length=n)(hv:PE X o (jO i))
 (ht:eval (.Call (.Attribute o x apos) [] [] pos) X.env=(do
   let ov<-eval o X.env
   standAt apos.atName
   let(f,first)<-holding [ov] (getMethod ov x pl)
   callWith pos f first (backTo pos (starEach [] X.env)) (backToKw pos (keywordEach [] X.env)))):
 VP X M R (.Call (.Attribute o x apos) [] [] pos) (λd Q=>match look d i with|some (.obj C _ _)=>G=.cls C/\(match look d i with|some w0=>sp [w0] (λr=>∃w y,r=.tup [w,y]/\Q w (d.set i (some y))) R|none=>False)|_=>False):=by
 rintro l s U H Q I ⟨A,H0,d,P,S,er,h,kk⟩;obtain⟨E,pE,hE,hR⟩:=er
 try dsimp only at h
 cases B:look d i with
 |none=>rw[B]at h;exact h.elim
 |some Z=>
  rw[B]at h;cases Z with
  |obj C fs' Y=>obtain⟨hg,h⟩:=h;obtain⟨F0,O0⟩:=S.ow;obtain⟨v0,z,W3⟩:=O0.val i _ _ hi B;obtain⟨C',dx,kQ,q,Vk,F',e1,rfl,e3,h1,h2,hc,_⟩:=W3;cases e1;have O:=hG C hg;refine PySem.W.methodCall_KW (pl:=pl) (bV (hv l s U H (λv' L=>v'=V.ref q/\L=H) I ⟨_,z,rfl,rfl⟩) λu s1 ⟨x1,H1,I1,rx,ex,eh⟩=>?_) ht;subst ex;subst eh;obtain rfl:u=Value.ref q:=rx;refine oM I1 h1 hc.1 O (Ol D Vk hx) ?_;refine PySem.W.callWith_K0 (first:=[.ref q]) I1.lW O.kp (xS (us:=[.ref q]) (vs:=[.ref q]) (ds:=[]) (Dc:=[]) F hr hb .nil pE I1 (.cons rfl .nil) ?_);exact EK S hi B z .nil (by have:=hn _ _ _ h;simpa using this) h hE λA' w v L J hw g S' rr=>kk A' w v L J hw g S' rr
  |_=>exact h.elim
theorem SR.more{K:Frag}{A:Fz}{u H H1:Hp}{h:St}{k:Ev}{G:List Addr}(S:SR K M A u h H k)(s:aq H H1)(nw:∀q∈G,H q=none)(ex:∀q∈G,∃o,H1 q=some o):SR K M ⟨λq=>A.ab q\/q∈G,λq=>A.B q\/q∈G,A.s0⟩ u h H1 k:=by
 obtain⟨F,O⟩:=S.ow;have r:∀p o,H p=some o->(A.B p\/p∈G)->A.B p:=λp o e z=>by
  rcases z with z|z
  .exact z
  .rw[nw p z]at e;cases e
 refine⟨S.len,λi w d e=>?_,S.sm.trans s,λp z=>?_,S.sl,F,⟨O.un,λi m w y e=>?_,O.emp,O.nd,O.ds,O.nw,λi p d l z=>?_,λp=>?_⟩⟩
 .obtain⟨v,g,f⟩:=S.sh i w d e;exact⟨v,g,Rep.mv s r w f⟩
 .rcases z with z|z
  .exact S.dm.same s p z
  .exact ex p z
 .obtain⟨v,g,f⟩:=O.val i m w y e;exact⟨v,g,Fp.mv s r m f⟩
 .rcases z with z|z
  .exact O.na i p d l z
  .obtain⟨o,e,_⟩:=O.has d l;rw[nw p z]at e;cases e
 .show(A.B p\/p∈G)↔_;rw[O.all p];constructor
  .rintro((z|z)|z)
   .exact .inl (.inl z)
   .exact .inr z
   .exact .inl (.inr z)
  .rintro((z|z)|z)
   .exact .inl (.inl z)
   .exact .inr z
   .exact .inl (.inr z)
theorem Oo{ta:WT}{ts:Ev->(List W->Prop)->Prop}{k n:Nat}{fv:Value}{sp:bD}(F:cH X.prog X.w X.K X.mg X.base k fv n (Lr X.K n m0 sp))(hr:cU k X.A)(hg:Gl X x)(hm:X.mg x=some fv)
 (hn:∀f P R,sp f P R->f.length=n)(hv:VE X M R m0 e ta)(ha:VA X M R es ts)(hdb:(x==("__debug__":Str))=false)(he:starEach (e::es) X.env=(false,eval e X.env)::starEach es X.env)(hpl:(backTo pos (starEach es X.env)).any (·.1)=false):
 VE X M R .s (.Call (.Name x p) (e::es) [] pos) (λJ Q=>ta J λx=>ts J λf=>sp (x::f) (λr=>∃w y,r=.tup [w,y]/\Q w) R):=by
 rintro L s σ H Q I ⟨A,H0,J,P,S,er,h,kk⟩;obtain⟨E,pE,hE,hR⟩:=er;refine dt (kG I hg hm ?_ hdb);refine ky (h₀:=X.base) I.ok.mod.L3 F.keep (bV (bG hv ha he pos L s σ H (λvs O=>∃g l f d G,vs=l::d/\aq H O/\G.Nodup/\(∀q∈G,H q=none)/\Fp X.K (λq=>A.B q\/q∈G) O m0 g l G/\af X.K (λq=>A.B q\/q∈G) O f d/\sp (g::f) (λr=>∃w y,r=.tup [w,y]/\P w) R) I ⟨A,H0,J,_,S,⟨E,pE,hE,hR⟩,h,λg l H1 N Z r0=>?_⟩) λus Z ⟨vs,O,I2,r,g,l,f,d,G,ev,sm,nd,D,U,rs,qN⟩=>⟨I2.lW,?_⟩) he hpl
 .obtain⟨G,nd,D,U⟩:=r0;have S1:=S.more Z D λq hq=>let⟨o,e,_⟩:=Fp.mu m0 U q hq;⟨o,e⟩
  exact⟨_,H0,J,_,S1,⟨E,pE,hE,hR⟩,N,λf d O hws T rs=>⟨g,l,f,d,G,rfl,Z.trans T,nd,D,Fp.mv T (λ_ _ _ z=>z) m0 U,rs,hws⟩⟩
 .subst ev;refine F.run hr pE I2 r ⟨A.B,G,g,l,f,d,_,R,rfl,by have:=hn _ _ _ qN;simpa using this,nd,λq hq=>S.dom.no (D q hq),S.dom.same sm,U,rs,qN,λw y v F' Y N hc _ TU _ rw'=>?_,λC Y rc hc=>hE C Y rc λq u e=>?_⟩
  .obtain⟨w',y',e,N⟩:=N;cases e;have T:aq H Y:=λq u e=>by
    rcases hc q u (sm q u e)with⟨_,z⟩|z
    .rw[D q z]at e;cases e
    .exact z
   exact kk w v Y N T (.of (rw'.less λq z=>.inl z))
  .have e2:=S.sm q u e;rcases hc q u (sm q u e2)with⟨_,z⟩|z
   .rw[D q z]at e2;cases e2
   .exact z
theorem Oq(h:PE X e (jO i)):PE X e (uo X.K i []):=PE.imp h<|by rintro g H Q ⟨v,u,f,d,q⟩;cases d;exact⟨v,f,q⟩
theorem vf.ix{K:Frag}{H:Hp}{n:Nat}:∀(π:List mG){v u:V},vf K H v (π++[.ix n]) u->∃p vs,vf K H v π (.ref p)/\(H p=some (.tup vs)\/H p=some (.lst vs))/\vs[n]?=some u
 |[],v,u,h=>by obtain⟨p,vs,x,e,k,g,f⟩:=h;cases f;exact⟨p,vs,by rw[e];rfl,k,g⟩
 |.ix m::π,v,u,h=>by obtain⟨p,vs,x,e,k,g,f⟩:=h;obtain⟨q,d,a,b,c⟩:=vf.ix π f;exact⟨q,d,⟨p,vs,x,e,k,g,a⟩,b,c⟩
 |.fl m _::π,v,u,h=>by obtain⟨p,vs,x,e,k,g,f⟩:=h;obtain⟨q,d,a,b,c⟩:=vf.ix π f;exact⟨q,d,⟨p,vs,x,e,k,g,a⟩,b,c⟩
theorem TV(h:PE X a (uo X.K i π))(s:PE X b (tC (.int n)))(l:kI b):PE X (.Subscript a b pos) (uo X.K i (π++[.ix n])):=
 PE.imp (Dg xT h s l)<|by rintro z H Q ⟨v,u,y,w,g⟩;obtain⟨q,f,r,d,k⟩:=vf.ix π w;exact⟨v,.ref q,y,r,d.elim (λd=>.inr (.inl ⟨q,f,n,u,rfl,rfl,kC.of d,bH k,g⟩)) λd=>.inl ⟨q,f,n,u,rfl,rfl,ie.of d,bH k,g⟩⟩
theorem vf.fl{K:Frag}{H:Hp}{n:Nat}{f:Str}:∀(π:List mG){v u:V},vf K H v (π++[.fl n f]) u->∃p vs C k d,vf K H v π (.ref p)/\H p=some (.ins C k (List.zip d vs))/\yi K C d/\d[n]?=some f/\vs[n]?=some u
 |[],v,u,h=>by obtain⟨p,vs,x,e,⟨C,k,d,s,_,y,w⟩,r,l⟩:=h;cases l;exact⟨p,vs,C,k,d,by rw[e];rfl,s,y,w,r⟩
 |.ix m::π,v,u,h=>by obtain⟨p,vs,x,e,s,r,l⟩:=h;obtain⟨q,g,C,k,d,a,b,c⟩:=vf.fl π l;exact⟨q,g,C,k,d,⟨p,vs,x,e,s,r,a⟩,b,c⟩
 |.fl m _::π,v,u,h=>by obtain⟨p,vs,x,e,s,r,l⟩:=h;obtain⟨q,g,C,k,d,a,b,c⟩:=vf.fl π l;exact⟨q,g,C,k,d,⟨p,vs,x,e,s,r,a⟩,b,c⟩
theorem Ot{f:Str}(h:PE X a (uo X.K i π))(s:attributeBase a f X.env (eval a X.env)=eval a X.env):PE X (.Attribute a f pos) (uo X.K i (π++[.fl n f])):=
 PE.imp (MC h s)<|by rintro E H Q ⟨v,u,A,z,l⟩;obtain⟨q,k,C,D,B,r,y,d,g,w⟩:=vf.fl π z;exact⟨v,.ref q,A,r,q,C,D,_,u,rfl,y,d.1,d.2.2.2 f (Qb g),Om (v:=u) (n:=n) B k n d.2.2.1 g w,l⟩
theorem Ou{f:Str}{g:List Str}{ms:List Md}{te:(Addr->Prop)->WT}(hps:∀{tv:TE},PE X e tv->PS X st (RS X.K (jO i) tv f))(hi:(i,.o g ms)∈M)(hf:g[n]?=some f)(hm:ms[n]?=some .s)(he:∀R,VE X M R .s e (te R)):
 VS X M m st (λd y=>te d.ex y λw=>match look y i with|some (.obj C g u)=>n<u.length/\d.nx (y.set i (some (.obj C g (u.set n w))))|_=>False):=by
 rintro J s σ H D I ⟨A,H0,y,d,S,er,hz,h,k⟩;refine hps (he d.ex) J s σ H D I ⟨A,H0,y,_,S,er,h,λw v H1 l s1 r=>?_⟩
 try dsimp only at l
 cases T:look y i with
 |none=>rw[T]at l;exact l.elim
 |some w1=>
  rw[T]at l;cases w1 with
  |obj C fs' u=>
   obtain⟨hn,l⟩:=l;have S1:=S.same s1;obtain⟨F,O⟩:=S1.ow;obtain⟨v0,N,fp⟩:=O.val i _ _ hi T;obtain⟨C',Q,kQ,q,E,F',e1,rfl,Y,U,h2,P,h3⟩:=fp;cases e1;have r:=r.bI;have hB:A.B q:=(O.all q).mpr (.inr ⟨i,⟨_,hi⟩,by rw[Y];exact FR⟩);obtain⟨w0,Z⟩:∃w0,u[n]?=some w0:=⟨_,B1 hn⟩;obtain⟨v1,F1,G,F2,q1,e4,q3,q4⟩:=eY.at ms h3 hm Z;obtain⟨rfl,_⟩:=q3;have cB:ua A.B H1 (upd H1 q (.ins C Q (g.zip (E.set n v)))):=.put U rfl hB;have WZ:q∉F':=by have:=O.nd i ⟨_,hi⟩;rw[Y]at this;exact(X9.mp this).1
   have fp':eY X.K A.B (upd H1 q (.ins C Q (g.zip (E.set n v)))) ms (u.set n w) (E.set n v) F':=by
    rw[e4];refine q4 _ A.B w v [] ?_ (λp o e=>?_) (λ_ _ _ z=>z)
    .exact⟨rfl,Rep.chg cB (λ_ _ _ z=>z) w r⟩
    .by_cases L:p=q
     .subst L;rw[U]at e;cases e;refine .inl ⟨rfl,hB,λz=>WZ ?_⟩;rw[e4];rcases KE.mp z with z|z<;>simp[z]
     .exact .inr (by rw[ak L];exact e)
   refine⟨_,N,q,C,Q,_,rfl,U,P.1,P.2.2.2 f (Qb hf),?_,?_⟩
   .rw[List.length_zip,h2,Nat.min_self];exact P.2.1
   .rw[IU g E n P.2.2.1 hf h2];obtain⟨A',a1,a2,_,_,_,S'⟩:=O.chg (F':=F i) (H1:=upd H1 q (.ins C Q (g.zip (E.set n v)))) (w':=.obj C g (u.set n w)) S1 hi T N (λp o e=>by
     by_cases L:p=q
     .subst L;rw[U]at e;cases e;exact .inl ⟨rfl,by rw[Y];exact FR⟩
     .exact .inr (by rw[ak L];exact e)) (O.nd i ⟨_,hi⟩) (λp hp=>.inl hp) (Fp.mv (aq.refl _) (λp _ _ z=>by
      rcases z with z|z
      .exact z.1
      .exact(O.all p).mpr (.inr ⟨i,⟨_,hi⟩,z⟩)) _ (by exact⟨C,Q,u.set n w,q,E.set n v,F',rfl,rfl,Y,aF,by rw[OK];exact h2,P,fp'⟩))
    exact k.nx A' _ _ _ a1 a2 l S'
  |_=>exact l.elim
end
end VL
namespace L2
open PySem PySem.Spec PyProof.Rows
section
variable{pr:Program}{wo:World}{B:Around}{EE:Value->Shared->Prop}
end
section
variable{X:Cx}{pos:Pos}
end
end L2
namespace VL
open PySem PySem.Spec
open PyProof.Rows hiding St
open L2
section
variable{K:Frag}{M M':Ms}{A:Fz}{H0 H H1:Hp}{σ:St}{ε:Ev}
theorem SR.take(S:SR K M' A H0 σ H ε){i:Nat}{m:Md}{w:W}{v:V}{F:List Addr}(l:∀x,x∈M↔x=(i,m)\/x∈M')(hi:¬aL M' i)(s:i<ε.length)(nd:F.Nodup)(D:∀p∈F,A.ab p)(nw:∀p∈F,H0 p=none)(N:Fp K A.B H m w v F):
 SR K M ⟨λp=>A.ab p/\p∉F,A.B,A.s0⟩ H0 (σ.set i (some v)) H (ε.set i (some w)):=by
 obtain⟨G,O⟩:=S.ow;have f:∀j,aL M j↔j=i\/aL M' j:=λj=>by
  constructor
  .rintro⟨q,E⟩;rcases(l _).mp E with e|e
   .cases e;exact .inl rfl
   .exact .inr ⟨q,e⟩
  .rintro(rfl|⟨q,E⟩)
   .exact⟨m,(l _).mpr (.inl rfl)⟩
   .exact⟨q,(l _).mpr (.inr E)⟩
 have C:∀j,aL M' j->j≠i:=λj c e=>by subst e;exact hi c
 refine⟨by rw[OK,OK];exact S.len,λj y c e=>?_,S.sm,λp z=>S.dm p z.1,λu e=>?_,λj=>if j=i then F else G j,⟨λj L J a b=>?_,λj q y c e=>?_,λj c e=>?_,λj c=>?_,λj k p c I a b=>?_,λj p c d=>?_,λj p c d=>?_,λp=>?_⟩⟩
 .have h:j≠i/\¬aL M' j:=⟨λz=>c ((f j).mpr (.inl z)),λz=>c ((f j).mpr (.inr z))⟩;rw[aO (SC h.1)]at e;obtain⟨u,t,r⟩:=S.sh j y h.2 e;exact⟨u,by rw[Kb (SC h.1)];exact t,r⟩
 .obtain⟨t,r⟩:=S.sl u e;exact⟨by rw[Kb (SC (C 0 r))];exact t,(f 0).mpr (.inr r)⟩
 .rcases(l _).mp a with a|a
  .rcases(l _).mp b with b|b
   .cases a;cases b;rfl
   .cases a;exact(hi ⟨_,b⟩).elim
  .rcases(l _).mp b with b|b
   .cases b;exact(hi ⟨_,a⟩).elim
   .exact O.un j L J a b
 .rcases(l _).mp c with a|a
  .cases a;have:=kT e;subst this;exact⟨v,Os (by rw[S.len];exact s),by rw[Bi rfl];exact N⟩
  .have n:=C j ⟨q,a⟩;rw[aO (SC n)]at e;obtain⟨u,t,r⟩:=O.val j q y a e;exact⟨u,by rw[Kb (SC n)];exact t,by rw[BM n];exact r⟩
 .by_cases n:j=i
  .subst n;have:look (ε.set j (some w)) j=some w:=by rw[aS];exact Os s
   rw[this]at e;cases e
  .rw[aO (SC n)]at e;rw[BM n];exact O.emp j (((f j).mp c).resolve_left n) e
 .by_cases n:j=i
  .rw[Bi n];exact nd
  .rw[BM n];exact O.nd j (((f j).mp c).resolve_left n)
 .by_cases o:j=i
  .by_cases g:k=i
   .rw[o,g]
   .rw[Bi o]at a;rw[BM g]at b;exact(O.na k p (((f k).mp I).resolve_left g) b (D p a)).elim
  .by_cases g:k=i
   .rw[BM o]at a;rw[Bi g]at b;exact(O.na j p (((f j).mp c).resolve_left o) a (D p b)).elim
   .rw[BM o]at a;rw[BM g]at b;exact O.ds j k p (((f j).mp c).resolve_left o) (((f k).mp I).resolve_left g) a b
 .by_cases n:j=i
  .rw[Bi n]at d;exact nw p d
  .rw[BM n]at d;exact O.nw j p (((f j).mp c).resolve_left n) d
 .by_cases n:j=i
  .rw[Bi n]at d;exact λz=>z.2 d
  .rw[BM n]at d;exact λz=>O.na j p (((f j).mp c).resolve_left n) d z.1
 .constructor
  .intro z;by_cases d:p∈F
   .exact .inr ⟨i,(f i).mpr (.inl rfl),by rw[Bi rfl];exact d⟩
   .rcases(O.all p).mp z with z|⟨j,c,P⟩
    .exact .inl ⟨z,d⟩
    .exact .inr ⟨j,(f j).mpr (.inr c),by rw[BM (C j c)];exact P⟩
  .rintro(z|⟨j,c,d⟩)
   .exact(O.all p).mpr (.inl z.1)
   .by_cases n:j=i
    .rw[Bi n]at d;exact(O.all p).mpr (.inl (D p d))
    .rw[BM n]at d;exact(O.all p).mpr (.inr ⟨j,((f j).mp c).resolve_left n,d⟩)
end
section
variable{X:Cx}{M M':Ms}{m:Md}{st:Stmt}{te:(Addr->Prop)->WT}
end
section
variable{K:Frag}{B B':Addr->Prop}{H:Hp}
mutual
theorem Rep.Ew:∀(w:W){v:V},Ew w=true->Rep K B H w v->Rep K B' H w v
 |.aV,_,_,r=>by dsimp only[Rep]at r⊢;exact r
 |.bl _,_,_,r=>by dsimp only[Rep]at r⊢;exact r
 |.int _,_,_,r=>by dsimp only[Rep]at r⊢;exact r
 |.str _,_,_,r=>by dsimp only[Rep]at r⊢;exact r
 |.tup l,v,h,r=>by obtain⟨p,vs,e,b,a⟩:=r;exact⟨p,vs,e,b,af.Ew l h a⟩
 |.ty _,_,h,_=>ff h
 |.cls _,_,h,_=>ff h
 |.err _,_,h,_=>ff h
 |.lst _,_,h,_=>ff h
 |.dct _ _,_,h,_=>ff h
 |.obj _ _ _,_,h,_=>ff h
 |.gQ _,_,h,_=>ff h
theorem af.Ew:∀(l:List W){vs:List V},BX l=true->af K B H l vs->af K B' H l vs
 |[],_,_,r=>by dsimp only[af]at r⊢;exact r
 |w::l,vs,h,r=>by obtain⟨v,us,rfl,b,a⟩:=r.cons_inv;rw[BX,AN]at h;exact .cons (Rep.Ew w h.1 b) (af.Ew l h.2 a)
end
mutual
theorem Fp.flat:∀(m:Md){w:W}{v:V}{F:List Addr},Fp K B H m w v F->flat m w=true->(∀p∈F,¬B' p)->Rep K B' H w v
 |.s,w,v,F,h,f,_=>by dsimp only[Fp]at h;dsimp only[VL.flat]at f;exact Rep.Ew w f h.2
 |.f,w,v,F,h,f,n=>by obtain⟨c,p,vs,rfl,rfl,rfl,b,a⟩:=h;dsimp only[VL.flat]at f;exact⟨p,vs,rfl,n p (FK.mpr rfl),.inl b,af.Ew c f a⟩
 |.t d,w,v,F,h,f,n=>by obtain⟨c,p,vs,rfl,rfl,b,a⟩:=h;dsimp only[VL.flat]at f;exact⟨p,vs,rfl,b,eY.flat d a f n⟩
 |.o _ _,w,v,F,h,f,n=>ff f
 |.io _,w,v,F,h,f,n=>ff f
 |.ls _,w,v,F,h,f,n=>ff f
theorem eY.flat:∀(ms:List Md){a:List W}{vs:List V}{F:List Addr},eY K B H ms a vs F->Ai ms a=true->(∀p∈F,¬B' p)->af K B' H a vs
 |[],a,vs,F,h,f,_=>by obtain⟨rfl,rfl,_⟩:=h;exact .nil
 |m::ms,a,vs,F,h,f,n=>by obtain⟨w,g,v,c,j,i,rfl,rfl,rfl,e,d⟩:=h;rw[Ai,AN]at f;exact .cons (Fp.flat m e f.1 λp b=>n p (Ta _ b)) (eY.flat ms d f.2 λp b=>n p (Hn _ b))
end
end
section
variable{X:Cx}{M M':Ms}{m m0:Md}{st:Stmt}{ti:(Addr->Prop)->WT}{tc te:WT}{one:Bool}{ts:List Nat}{i n:Nat}
end
section
variable{K:Frag}{M:Ms}{A:Fz}{H0 H:Hp}{σ:St}{ε:Ev}
end
section
variable{X:Cx}{M:Ms}{m:Md}{st:Stmt}{tg it e o:Expr}{j a b:Nat}{pos q:Pos}{x0:W}{te:WT}
end
noncomputable def IX(H:Hp)(D:Addr):Hp:=λp=>if p=D then none else H p
theorem sD(H:Hp)(D:Addr):IX H D D=none:=Bi rfl
theorem jf{H:Hp}{D p:Addr}(h:p≠D):IX H D p=H p:=BM h
theorem EL(H:Hp)(D:Addr):aq (IX H D) H:=λp o e=>by
 by_cases h:p=D
 .subst h;rw[sD]at e;cases e
 .rw[jf h]at e;exact e
theorem IY(H:Hp)(D:Addr)(o:HO):IX (upd H D o) D=IX H D:=funext λp=>by
 by_cases h:p=D
 .subst h;rw[sD,sD]
 .rw[jf h,jf h,ak h]
theorem IZ{H:Hp}{D:Addr}(h:H D=none)(o:HO):IX (upd H D o) D=H:=funext λp=>by
 by_cases e:p=D
 .subst e;rw[sD,h]
 .rw[jf e,ak e]
section
variable{K:Frag}{M M':Ms}{A:Fz}{H0 Hs H H1:Hp}{σ:St}{ε:Ev}
theorem SR.rb2(S:SR K M A H0 σ H ε):∃Hs,SR K M A Hs σ H ε/\aq H0 Hs/\∀p,A.ab p->Hs p=H p:=by
 classical
 obtain⟨F,O⟩:=S.ow;refine⟨λp=>if(∃i,aL M i/\p∈F i)then none else H p,⟨S.len,S.sh,λp o z=>?_,S.dm,S.sl,F,⟨O.un,O.val,O.emp,O.nd,O.ds,λi p a c=>Bi ⟨i,a,c⟩,O.na,O.all⟩⟩,λb o z=>?_,λp c=>?_⟩
 .split at z
  .cases z
  .exact z
 .refine(BM ?_).trans (S.sm _ _ z);rintro⟨i,a,e⟩;rw[O.nw i b a e]at z;cases z
 .refine BM ?_;rintro⟨i,a,e⟩;exact O.na i p a e c
theorem SR.I0{q:St}{n:Nat}{D:Addr}{o:HO}{ab:Addr->Prop}{s0:Option V}(S:SR K (up M n) A Hs (q++σ) H ε)(P:q.length=n)(d:∀p,A.ab p↔ab p\/p=D)(L:¬ab D)(C:H D=some o)(mo:Af o=true)(E:aq H0 Hs)(R:H0 D=none)(hz:∀v,s0=some v->σ[0]?=some (some v)/\aL M 0):
 ∃t,t.ab=ab/\t.s0=s0/\SR K M t H0 σ (IX H D) (ε.drop n):=by
 obtain⟨F,O⟩:=S.ow;have u:∀{i:Nat}{w:W},look (ε.drop n) i=some w->look ε (i+n)=some w:=λ{i w} e=>by rw[aS,Y5]at e;rw[aS,mM];exact e
 have s:∀{i:Nat},look (ε.drop n) i=none->look ε (i+n)=none:=λ{i} e=>by
  cases h:look ε (i+n)with
  |none=>rfl
  |some w=>
   have:look (ε.drop n) i=some w:=by rw[aS,Y5,mM,<-aS];exact h
   rw[e]at this;cases this
 have I:∀i:Nat,(q++σ)[i+n]?=σ[i]?:=λi=>by rw[Gc (by lia),P,Fn]
 have f:∀{i:Nat},aL M i->aL (up M n) (i+n):=λ{i} h=>cO.mpr ⟨by lia,by rw[Fn];exact h⟩;have J:A.B D:=(O.all D).mpr (.inl ((d D).mpr (.inr rfl)));have y:∀p o,H p=some o->(ab p\/∃i,aL M i/\p∈F (i+n))->A.B p:=λp _ _ z=>(O.all p).mpr (z.imp (λz=>(d p).mpr (.inl z)) (by rintro⟨i,c,g⟩;exact⟨i+n,f c,g⟩));have T:ua A.B H (IX H D):=λp l e=>by
  by_cases h:p=D
  .subst h;rw[C]at e;cases e;exact .inl ⟨mo,J⟩
  .exact .inr ((jf h).trans e)
 refine⟨⟨ab,λp=>ab p\/∃i,aL M i/\p∈F (i+n),s0⟩,rfl,rfl,?_,λi w c e=>?_,λb l e=>?_,λp z=>?_,hz,λi=>F (i+n),⟨λi m N a b=>?_,λi m w x e=>?_,λi c e=>O.emp _ (f c) (s e),λi c=>O.nd _ (f c),λi j p c Q a b=>?_,λi p c g=>E.free (O.nw _ p (f c) g),λi p c g z=>O.na _ p (f c) g ((d p).mpr (.inl z)),λp=>Yj⟩⟩
 .have:=S.len;rw[FS]at this;rw[tJ];lia
 .obtain⟨v,k,r⟩:=S.sh (i+n) w (λz=>c (by have:=(cO.mp z).2;rw[Fn]at this;exact this)) (u e);rw[I]at k;exact⟨v,k,Rep.chg T y w r⟩
 .have:b≠D:=by rintro rfl;rw[R]at e;cases e
  exact(jf this).trans (S.sm _ _ (E _ _ e))
 .obtain⟨l,e⟩:=S.dm p ((d p).mpr (.inl z));exact⟨l,(jf (by rintro rfl;exact L z)).trans e⟩
 .exact O.un (i+n) m N (iF.mpr ⟨by lia,by rw[Fn];exact a⟩) (iF.mpr ⟨by lia,by rw[Fn];exact b⟩)
 .obtain⟨v,k,r⟩:=O.val (i+n) m w (iF.mpr ⟨by lia,by rw[Fn];exact x⟩) (u e);rw[I]at k;refine⟨v,k,Fp.chg (G:=(·∈F (i+n))) (λp l e=>?_) y m (λp g=>g) r⟩;by_cases h:p=D
  .subst h;rw[C]at e;cases e;exact .inl ⟨mo,J,λz=>O.na (i+n) p (f ⟨m,x⟩) z ((d p).mpr (.inr rfl))⟩
  .exact .inr ((jf h).trans e)
 .have:=O.ds (i+n) (j+n) p (f c) (f Q) a b;lia
theorem Ja{B b:Addr->Prop}{H H':Hp}{w:W}{v:V}(a:Ex w=true)(r:Rep K B H w v):Rep K b H' w v:=by
 cases w with
 |aV=>exact r
 |bl _=>exact r
 |int _=>exact r
 |str _=>exact r
 |_=>exact ff a
end
noncomputable def Yw(K:Frag)(M:Ms)(t:Au):TE:=λd H Q=>∃A f e P,SR K M A f d H e/\t e P/\∀c w v b a,P w a->c.ab=A.ab->SR K M c f d b a->Rep K c.B b w v->Q v b
section
variable{X:Cx}{M M':Ms}{m:Md}{st:Stmt}{ti:(Addr->Prop)->WT}{te:Au}{i:Nat}
theorem Ov(hps:∀R,PS X st (lY (zA 1 (CG X M' R false (ti R)) (gT X.K true [0]) MK (Yw X.K (up M' 1) te)) (fK i)))(hM:∀x,x∈M↔x=(i,.f)\/x∈M')(hi:¬aL M' i)(hio:cW m=true->i≠0):
 VS X M m st (λd C=>ti d.ex C λz=>items z λc=>nF (λw C K=>te (some w::C) λy a=>Ex y=true/\K y (a.drop 1)) c [] C λl a=>d.nx (a.set i (some (.lst l)))):=by
 rintro pins s Q H D I ⟨A,H0,C,d,S,er,hz,h,k⟩;have h0:∀v,A.s0=some v->A.s0=some v/\aL M' 0:=λv e=>by
  refine⟨e,?_⟩;have ho:cW m=true:=by rw[<-hz,e];rfl
  obtain⟨m1,h1⟩:=(S.sl v e).2;rcases(hM _).mp h1 with z|z
  .cases z;exact(hio ho rfl).elim
  .exact⟨m1,z⟩
 obtain⟨A1,ea,eb,hb,S'⟩:=S.sub (M':=M') (λx hx=>(hM x).mpr (.inr hx)) A.s0 h0;refine hps d.ex pins s Q H D I ⟨A1,H0,C,_,S',er,h,λz hz'=>?_⟩;obtain⟨c,ez,hw⟩:=mO.mp hz';refine⟨c,ez,λJ H1 s1 it t hD=>?_⟩;have S1:=S'.same s1;obtain⟨Hs,Ss,b0,b1,b2⟩:=S1.rb;have low:Ar X.K false A1.ab Hs J c:=it.low (λp o e=>b2 p o e) λp z=>S'.sub' p z;have iw:=low.iw;have hsD:Hs t=none:=b1.free hD;generalize hf':(λ(w:W)(C:Ev)(K:W->Ev->Prop)=>te (some w::C) λy a=>Ex y=true/\K y (a.drop 1))=f at hw;refine⟨λj n u=>∃b G U dQ,n=c.length -j/\j<=c.length/\U.ab=A.ab/\U.s0=A.s0/\SR X.K M' U Hs Q (IX u t) dQ/\u t=some (.lst G)/\(∀B H,af X.K B H b G)/\nF f (c.drop j) b dQ λl a=>d.nx (a.set i (some (.lst l))),
  ⟨c.length,[],[],A1,C,rfl,KB _,ea,eb,by rw[IZ hD];exact Ss,aF,λ_ _=>.nil,hw⟩,?_⟩
 rintro j n u ⟨b,G,U,dQ,rfl,hj,TX,W5,S2,NU,ra,hm⟩;have sr:=EL u t;have L:aq Hs u:=S2.sm.trans sr;by_cases E:j<c.length
 .refine .inr ⟨iw.go j u L E,λx H3 y Y N=>?_⟩;have hwi:c[j]?=some c[j]:=B1 E;rw[T2 E,nF,<-hf']at hm;rw[hf']at hm;generalize c[j]=w at*;obtain⟨s3,hrep⟩:=iw.yl j u x H3 w L hwi y;have Vh:=s3 _ _ NU;have S3:=S2.block N (sr.trans s3) (sD u t) Vh;obtain⟨Yx,S3',b3,b4⟩:=S3.rb2;have W6:Yx t=some (.lst G):=(b4 t (.inr rfl)).trans Vh;have hr:Rep X.K (λq=>U.B q\/q=t) H3 w x:=hrep _ λp o e z=>by
   rcases z with z|rfl
   .obtain⟨F,O⟩:=S2.ow;rcases(O.all p).mp z with z|⟨q,hq,e2⟩
    .rw[TX,<-ea]at z;exact z
    .rw[O.nw q p hq e2]at e;cases e
   .rw[hsD]at e;cases e
  have hM0:∀q∈[0],¬aL (up M' 1) q:=λq hq z=>by have:=(cO.mp z).1;rw[FK.mp hq]at this;lia
  refine tgt (P:=λa=>te a λy a=>Ex y=true/\b.length<sizeLine/\nF f (c.drop (j+1)) (b++[y]) (a.drop 1) λl a=>d.nx (a.set i (some (.lst l)))) hM0 S3' hr hm λZ a hp S4=>?_;have e4:cI (Y++Q) [0] Z=cI Y [0] Z++Q:=pS [0] Z Y Q N (λq hq=>by rw[FK.mp hq];decide);rw[e4]at S4⊢;have hv1:(cI Y [0] Z).length=1:=by rw[pR];exact N
  refine⟨cI Y [0] Z,hv1,rfl,?_⟩;dsimp only[MK];rw[Bi rfl];refine⟨_,Yx,a,_,S4,hp,λA6 y' vy H6 ε6 hy g S6 r=>?_⟩;obtain⟨hsc,hlen,hy⟩:=hy;have TL:=S6.sm _ _ W6;obtain⟨A7,ea7,eb7,S7⟩:=S6.I0 (ab:=A.ab) (s0:=A.s0) hv1 (λp=>by rw[g];show(U.ab p\/p=t)↔_;rw[TX]) (λz=>by obtain⟨o,e⟩:=S.dm t z;rw[s1.free hD]at e;cases e) TL rfl b3 hsD (λv e=>⟨(S.sl v e).1,(h0 v e).2⟩);have rl:=ra (λ_=>False) H6;refine⟨G,TL,by rw[rl.len];exact hlen,c.length -(j+1),by lia,b++[y'],G++[vy],A7,ε6.drop 1,rfl,E,ea7,eb7,by rw[IY];exact S7,aF,λB H=>(ra B H).app (.cons (Ja hsc r) .nil),hy⟩
 .have e:j=c.length:=by lia
  subst e;refine .inl ⟨iw.st _ u L rfl,?_⟩;rw[ei,nF]at hm;obtain⟨A8,ea8,eb8,_,T⟩:=S2.own (v:=.ref t) (w:=.lst b) hM hi sr ⟨[t],by simp,by simpa using sD u t,b,t,G,rfl,rfl,rfl,NU,ra _ _⟩;have up:SR X.K M A8 H0 (Q.set i (some (.ref t))) u (dQ.set i (some (.lst b))):=by obtain⟨F,O⟩:=T.ow;exact⟨T.len,T.sh,b0.trans T.sm,T.dm,T.sl,F,⟨O.un,O.val,O.emp,O.nd,O.ds,λi p hi e=>b0.free (O.nw i p hi e),O.na,O.all⟩⟩
  exact k.nx A8 _ _ u (ea8.trans TX) (eb8.trans W5) hm up
theorem Ow{R:Addr->Prop}{j:List Expr}{pos:Pos}{tl:N7}(o:GD X M R j tl):VP X M R (.List j pos) (λb Q=>tl b λc a=>c.length<=sizeLine/\Q (.lst c) a):=PE.imp (sY o)<|by rintro t H Q ⟨A,r,b,P,S,q,h,k⟩;refine⟨A,r,b,_,S,q,h,λs c n u a e g l d=>⟨by rw[af.len d];exact e.1,λp f=>?_⟩⟩;have sm:=aP f (.lst n);exact k s _ _ _ a e.2 (g.trans (.same sm)) (l.same sm) ((cY.fresh (aq.refl _) f d).rep l.dom)
theorem Ox{A:Fz}{k H:Hp}{b:St}{c:Ev}{f:Md}(S:SR X.K M A k b H c)(hz:A.s0.isSome=cW m)(h:∀x,x∈M↔x=(i,f)\/x∈M')(a:cW m=true->i≠0):∀v,A.s0=some v->A.s0=some v/\aL M' 0:=λv e=>by
 refine⟨e,?_⟩;have g:cW m=true:=by rw[<-hz,e];rfl
 obtain⟨d,j⟩:=(S.sl v e).2;rcases(h _).mp j with z|z
 .cases z;exact(a g rfl).elim
 .exact⟨d,z⟩
theorem Oz{e:Expr}{tl:(Addr->Prop)->N7}(l:∀{t:TE},PE X e t->PS X st (lY t (fK i)))(o:∀x,x∈M↔x=(i,.f)\/x∈M')(hi:¬aL M' i)(n:cW m=true->i≠0)(B:∀R,PE X e (RU (Yu X M' R (tl R)))):
 VS X M m st (λd c=>tl d.ex c λj a=>j.length<=sizeLine/\d.nx (a.set i (some (.lst j)))):=by
 rintro b s y H D I ⟨A,L,c,d,S,C,hz,h,k⟩;obtain⟨O,F,E,Q,K⟩:=S.sub (M':=M') (λx z=>(o x).mpr (.inr z)) A.s0 (Ox S hz o n);refine l (B d.ex) b s y H D I ⟨O,L,c,_,K,C,h,λU j P T a v g J u=>⟨by rw[af.len u];exact v.1,λp w=>?_⟩⟩;obtain⟨N,r,q,_,G⟩:=J.own o hi (aP w _) (cY.fresh (aq.refl _) w u);exact k.nx N _ _ _ (r.trans (g.ab.trans F)) (q.trans (g.s0.trans E)) v.2 G
theorem SR.Nj{K:Frag}{A:Fz}{U H:Hp}{C:St}{o:Ev}{j:Nat}{y:Md}{w:W}(S:SR K M A U C H o)(hi:(i,y)∈M)(J:(j,y)∈M)(ij:i≠j)(Q:i<o.length)(T:look o j=some w)(Y:∀v,A.s0=some v->i≠0):
 ∃v N,C[j]?=some (some v)/\N.ab=A.ab/\N.s0=A.s0/\SR K M N U (C.set i (some v)) H ((o.set i (some w)).set j none):=by
 obtain⟨F,O⟩:=S.ow;obtain⟨v,hv,fp⟩:=O.val j y w J T;have r:∀k,aL M k->aL M (if k=i then j else k):=λk h=>by
  split
  .exact⟨_,J⟩
  .exact h
 have L:∀p,(A.ab p\/∃k,aL M k/\k≠j/\p∈F (if k=i then j else k))->A.B p:=λp z=>(O.all p).mpr (z.imp id (by rintro⟨k,n,_,g⟩;exact⟨_,r k n,g⟩));have Z:look ((o.set i (some w)).set j none) j=none:=by
  cases e:look ((o.set i (some w)).set j none) j with
  |none=>rfl
  |some u=>rw[aS,Os (by rw[OK];exact oi T)]at e;cases e
 have P:look ((o.set i (some w)).set j none) i=some w:=by rw[aO (SC ij),aS,Os Q]
 have E:∀{k},k≠i->k≠j->look ((o.set i (some w)).set j none) k=look o k:=λ{k} a b=>by rw[aO (SC b),aO (SC a)]
 refine⟨v,⟨A.ab,λp=>A.ab p\/∃k,aL M k/\k≠j/\p∈F (if k=i then j else k),A.s0⟩,hv,rfl,rfl,by rw[OK,OK,OK];exact S.len,λk u f e=>?_,S.sm,S.dm,λu e=>?_,λk=>if k=j then[]else F (if k=i then j else k),⟨O.un,λk D u R e=>?_,λk f e=>?_,λk f=>?_,λk l p f I a b=>?_,λk p f q=>?_,λk p f q=>?_,λp=>?_⟩⟩
 .have c:k≠i:=by rintro rfl;exact f ⟨_,hi⟩
  have d:k≠j:=by rintro rfl;exact f ⟨_,J⟩
  rw[E c d]at e;obtain⟨x,n,g⟩:=S.sh k u f e;exact⟨x,by rw[Kb (SC c)];exact n,g.less L⟩
 .obtain⟨n,g⟩:=S.sl u e;exact⟨by rw[Kb (Y u e)];exact n,g⟩
 .by_cases d:k=j
  .rw[d,Z]at e;cases e
  .by_cases c:k=i
   .subst c;rw[P]at e;cases e;have em:=O.un k D y R hi;subst em;refine⟨v,Os (by rw[S.len];exact Q),?_⟩;rw[BM d,Bi rfl];exact Fp.mv (aq.refl _) (λp _ _ z=>L p z) _ fp
   .rw[E c d]at e;obtain⟨x,n,g⟩:=O.val k D u R e;refine⟨x,by rw[Kb (SC c)];exact n,?_⟩;rw[BM d,BM c];exact Fp.mv (aq.refl _) (λp _ _ z=>L p z) D g
 .by_cases d:k=j
  .exact Bi d
  .by_cases c:k=i
   .subst c;rw[P]at e;cases e
   .rw[E c d]at e;rw[BM d,BM c];exact O.emp k f e
 .split
  .exact mN
  .exact O.nd _ (r k f)
 .by_cases d:k=j
  .rw[Bi d]at a;cases a
  .by_cases G:l=j
   .rw[Bi G]at b;cases b
   .rw[BM d]at a;rw[BM G]at b;have:=O.ds _ _ p (r k f) (r l I) a b;by_cases c:k=i
    .by_cases s:l=i
     .rw[c,s]
     .rw[Bi c,BM s]at this;exact(G this.symm).elim
    .by_cases s:l=i
     .rw[BM c,Bi s]at this;exact(d this).elim
     .rw[BM c,BM s]at this;exact this
 .split at q
  .cases q
  .exact O.nw _ p (r k f) q
 .split at q
  .cases q
  .exact O.na _ p (r k f) q
 .refine or_congr Yj ⟨?_,?_⟩
  .rintro⟨k,n,g,t⟩;exact⟨k,n,by rw[BM g];exact t⟩
  .rintro⟨k,n,t⟩;split at t
   .cases t
   .rename_i g
    exact⟨k,n,g,t⟩
theorem OA{j:Nat}{g:Md}(c:PS X st (lY (jO j) (fK i)))(hi:(i,g)∈M)(p:(j,g)∈M)(n:i≠j)(f:cW m=true->i≠0):
 VS X M m st (λd a=>match look a j with|some w=>i<a.length/\d.nx ((a.set i (some w)).set j none)|none=>False):=by
 rintro b s l H D I ⟨A,y,a,d,S,x,hz,h,k⟩;cases e:look a j with
 |none=>rw[e]at h;exact h.elim
 |some w=>rw[e]at h;obtain⟨v,u,o,r,q,t⟩:=S.Nj hi p n h.1 e λv z=>f (by rw[<-hz,z];rfl);exact c b s l H D I ⟨v,o,k.nx u _ _ _ r q h.2 t⟩
end
theorem a2{a b:Bool}(z:(a&&b)=true):a=true/\b=true:=by cases a<;>cases b<;>first|exact⟨rfl,rfl⟩|exact ff z
theorem a3{a b c:Bool}(z:((a&&b)&&c)=true):(a=true/\b=true)/\c=true:=⟨a2 (a2 z).1,(a2 z).2⟩
structure SE where
 N:List Str
 nk:List (Str×NameKind)
 M:Ms
 fn:List Str
 gn:List Str
 zn:List Str
 md:List Md
 mt:List (Nat×Nat)
noncomputable def fS:List Md->Nat->Md
 |[],_=>.s
 |x::_,0=>x
 |_::l,n+1=>fS l n
noncomputable def QM:Md->Bool
 |.f=>true
 |_=>false
noncomputable def Jb:Md->Bool
 |.s=>true
 |_=>false
noncomputable def wD(M:Ms)(i:Nat):Bool:=(M.lookup i).isSome
theorem kY{M:Ms}{i:Nat}(h:wD M i=false):¬aL M i:=by
 rintro⟨m,d⟩;unfold wD at h;have:∀M:Ms,(i,m)∈M->(M.lookup i).isSome=true:=λM=>by
  induction M with
  |nil=>intro z;cases z
  |cons x M c=>
   intro z;obtain⟨a,b⟩:=x;rw[C2];cases e:i==a with
   |true=>rfl
   |false=>
    rcases GE.mp z with z|z
    .cases z;rw[eM]at e;cases e
    .exact c z
 rw[this M d]at h;cases h
theorem jg{M:Ms}{i:Nat}{m:Md}(h:M.lookup i=some m):(i,m)∈M:=by
 induction M with
 |nil=>exact nn h
 |cons x M c=>
  obtain⟨a,b⟩:=x;rw[C2]at h;cases e:i==a with
  |true=>rw[e]at h;cases h;cases P3.mp e;exact FR
  |false=>rw[e]at h;exact Ee _ (c h)
noncomputable def wF(M:Ms)(i:Nat):Bool:=match M.lookup i with
 |none=>true
 |some m=>QM m
theorem wG{M:Ms}{i:Nat}(h:wF M i=true):aL M i->(i,.f)∈M:=λa=>by
 unfold wF at h;cases e:M.lookup i with
 |none=>exact(kY (by unfold wD;rw[e];rfl) a).elim
 |some m=>rw[e]at h;cases m<;>first|exact jg e|exact ff h
noncomputable def qS(M:Ms)(i:Nat):Bool:=match M.lookup i with
 |none=>false
 |some m=>QM m
theorem gj{M:Ms}{i:Nat}(h:qS M i=true):(i,.f)∈M:=by
 unfold qS at h;cases e:M.lookup i with
 |none=>rw[e]at h;exact ff h
 |some m=>rw[e]at h;cases m<;>first|exact jg e|exact ff h
noncomputable def SE.sc(S:SE):Scope:={kind:=.function,names:=S.nk,isGenerator:=false,isCoroutine:=false}
noncomputable def TY(S:SE)(x:Str):Bool:=S.nk.lookup x==some .local||(S.nk.lookup x==some .cell||S.nk.lookup x==some .free)
noncomputable def okN(x:Str):Bool:=!(x==("__debug__":Str))&&!(x==("__classdict__":Str))&&!(x==("__name__":Str))
noncomputable def iZ(S:SE)(x:Str):Bool:=(S.nk.lookup x==some .globalImplicit)&&okN x
noncomputable def tys:List String:=["int","bool","tuple","list","str","dict"]
noncomputable def uy:Expr->Bool
 |.Call _ _ _ _=>false
 |_=>true
noncomputable def mC(f:Const->Bool):Expr->Bool
 |.Constant c _ _=>f c
 |_=>false
noncomputable def W7(f:Str->Pos->Bool):Expr->Bool
 |.Name x p=>f x p
 |_=>false
noncomputable def wH(f:Str->Bool):Expr->Bool:=W7 λx _=>f x
noncomputable def j6(S:SE)(i:Nat):Expr->Bool:=wH λx=>S.N[i]?==some x&&TY S x&&okN x
noncomputable def o1{α:Type}(f:α->Bool):List α->Bool
 |[a]=>f a
 |_=>false
noncomputable def TZ(f:Expr->List CmpOp->List Expr->Bool):Expr->Bool
 |.Compare l b a _=>f l b a
 |_=>false
noncomputable def wJ(f:Expr->List Expr->Bool->Pos->Bool):Expr->Bool
 |.Call g b a p=>f g b a.isEmpty p
 |_=>false
noncomputable def B4(f:Expr->Str->Pos->Bool):Expr->Bool
 |.Attribute o m p=>f o m p
 |_=>false
noncomputable def W8(f:Option Expr->Option Expr->Option Expr->Bool):Expr->Bool
 |.Slice l h t _=>f l h t
 |_=>false
noncomputable def Yy(f:Expr->List Comprehension->Scope->Bool):Expr->Bool
 |.ListComp x a s _=>f x a s
 |_=>false
noncomputable def EM(f:Operator->Expr->Expr->Bool):Expr->Bool
 |.BinOp l o r _=>f o l r
 |_=>false
noncomputable def W9(f:UnaryOp->Expr->Bool):Expr->Bool
 |.UnaryOp o x _=>f o x
 |_=>false
noncomputable def EN(f:CmpOp->Expr->Expr->Bool):Expr->Bool:=TZ λl b a=>o1 (λo=>o1 (λr=>f o l r) a) b
noncomputable def o2{α:Type}(f:α->α->Bool):List α->Bool
 |a::l=>o1 (f a) l
 |_=>false
noncomputable def o3{α:Type}(f:α->α->α->Bool):List α->Bool
 |a::l=>o2 (f a) l
 |_=>false
noncomputable def T3(f:BoolOp->List Expr->Bool):Expr->Bool
 |.BoolOp o a _=>f o a
 |_=>false
noncomputable def Yz(f:Expr->Expr->Expr->Bool):Expr->Bool
 |.IfExp t x y _=>f t x y
 |_=>false
noncomputable def B5(f:List Expr->Bool):Expr->Bool
 |.Tuple a _ _=>f a
 |_=>false
noncomputable def Jc(f:List Expr->Bool):Expr->Bool
 |.List a _=>f a
 |_=>false
noncomputable def yt(f:Expr->Expr->Bool):Expr->Bool
 |.Subscript v s _=>f v s
 |_=>false
noncomputable def YA(f:Expr->Option Expr->Option Expr->Bool):Expr->Bool:=yt λv s=>W8 (λl h t=>t.isNone&&f v l h) s
noncomputable def gU(f:Str->List Expr->Bool):Expr->Bool:=wJ λg a k _=>k&&wH (λx=>f x a) g
noncomputable def yu(f:Expr->Str->Pos->Pos->Bool):Expr->Bool:=wJ λg b k c=>k&&b.isEmpty&&B4 (λo m a=>f o m a c) g
noncomputable def EO(f:Expr->Expr->Expr->List Expr->Scope->Bool):Expr->Bool:=Yy λx a s=>o1 (λg=>decide (g.is_async=0)&&f x g.target g.iter g.ifs s) a
theorem gx{f:Const->Bool}{e:Expr}(h:mC f e=true):∃c k p,e=.Constant c k p/\f c=true:=by cases e<;>first|exact⟨_,_,_,rfl,h⟩|exact ff h
theorem Av{f:Str->Pos->Bool}{e:Expr}(h:W7 f e=true):∃x p,e=.Name x p/\f x p=true:=by cases e<;>first|exact⟨_,_,rfl,h⟩|exact ff h
theorem ES{f:Expr->List CmpOp->List Expr->Bool}{e:Expr}(h:TZ f e=true):∃l b a p,e=.Compare l b a p/\f l b a=true:=by cases e<;>first|exact⟨_,_,_,_,rfl,h⟩|exact ff h
theorem jw{f:Expr->List Expr->Bool->Pos->Bool}{e:Expr}(h:wJ f e=true):∃g b a p,e=.Call g b a p/\f g b a.isEmpty p=true:=by cases e<;>first|exact⟨_,_,_,_,rfl,h⟩|exact ff h
theorem gW{f:Expr->Str->Pos->Bool}{e:Expr}(h:B4 f e=true):∃o m p,e=.Attribute o m p/\f o m p=true:=by cases e<;>first|exact⟨_,_,_,rfl,h⟩|exact ff h
theorem Aw{f:Option Expr->Option Expr->Option Expr->Bool}{e:Expr}(h:W8 f e=true):∃l r t p,e=.Slice l r t p/\f l r t=true:=by cases e<;>first|exact⟨_,_,_,_,rfl,h⟩|exact ff h
theorem Jd{f:Expr->List Comprehension->Scope->Bool}{e:Expr}(h:Yy f e=true):∃x a s p,e=.ListComp x a s p/\f x a s=true:=by cases e<;>first|exact⟨_,_,_,_,rfl,h⟩|exact ff h
theorem fT{α:Type}{f:α->Bool}{l:List α}(h:o1 f l=true):∃a,l=[a]/\f a=true:=by rcases l with _|⟨a,_|_⟩<;>first|exact⟨_,rfl,h⟩|exact ff h
theorem cX{f:Str->Bool}{e:Expr}(h:wH f e=true):∃x p,e=.Name x p/\f x=true:=Av h
theorem mP{f:Operator->Expr->Expr->Bool}{e:Expr}(h:EM f e=true):∃l o r p,e=.BinOp l o r p/\f o l r=true:=by cases e<;>first|exact⟨_,_,_,_,rfl,h⟩|exact ff h
theorem om{f:UnaryOp->Expr->Bool}{e:Expr}(h:W9 f e=true):∃o x p,e=.UnaryOp o x p/\f o x=true:=by cases e<;>first|exact⟨_,_,_,rfl,h⟩|exact ff h
theorem mQ{f:CmpOp->Expr->Expr->Bool}{e:Expr}(h:EN f e=true):∃l o r p,e=.Compare l [o] [r] p/\f o l r=true:=by obtain⟨l,g,d,p,rfl,c⟩:=ES h;obtain⟨o,rfl,b⟩:=fT c;obtain⟨r,rfl,a⟩:=fT b;exact⟨_,_,_,_,rfl,a⟩
theorem kZ{f:BoolOp->List Expr->Bool}{e:Expr}(h:T3 f e=true):∃o a p,e=.BoolOp o a p/\f o a=true:=by cases e<;>first|exact⟨_,_,_,rfl,h⟩|exact ff h
theorem Je{f:Expr->Expr->Expr->Bool}{e:Expr}(h:Yz f e=true):∃t x y p,e=.IfExp t x y p/\f t x y=true:=by cases e<;>first|exact⟨_,_,_,_,rfl,h⟩|exact ff h
theorem fU{f:List Expr->Bool}{e:Expr}(h:B5 f e=true):∃a k p,e=.Tuple a k p/\f a=true:=by cases e<;>first|exact⟨_,_,_,rfl,h⟩|exact ff h
theorem lu{f:List Expr->Bool}{e:Expr}(h:Jc f e=true):∃a p,e=.List a p/\f a=true:=by cases e<;>first|exact⟨_,_,rfl,h⟩|exact ff h
theorem dZ{f:Expr->Expr->Bool}{e:Expr}(h:yt f e=true):∃v s p,e=.Subscript v s p/\f v s=true:=by cases e<;>first|exact⟨_,_,_,rfl,h⟩|exact ff h
theorem Ax{f:Expr->Option Expr->Option Expr->Bool}{e:Expr}(h:YA f e=true):∃v l r q p,e=.Subscript v (.Slice l r none q) p/\f v l r=true:=by obtain⟨v,s,p,rfl,c⟩:=dZ h;obtain⟨l,r,t,q,rfl,b⟩:=Aw c;obtain⟨k,a⟩:=a2 b;rw[Option.isNone_iff_eq_none.mp k];exact⟨_,_,_,_,_,rfl,a⟩
theorem aH{f:Str->List Expr->Bool}{e:Expr}(h:gU f e=true):∃x q a p,e=.Call (.Name x q) a [] p/\f x a=true:=by obtain⟨g,a,i,p,rfl,d⟩:=jw h;obtain⟨k,c⟩:=a2 d;obtain⟨x,q,rfl,b⟩:=cX c;rw[IH.mp k];exact⟨_,_,_,_,rfl,b⟩
theorem j7{f:Expr->Str->Pos->Pos->Bool}{e:Expr}(h:yu f e=true):∃o m a c,e=.Call (.Attribute o m a) [] [] c/\f o m a c=true:=by obtain⟨g,n,j,p,rfl,i⟩:=jw h;obtain⟨⟨k,l⟩,d⟩:=a3 i;obtain⟨o,m,a,rfl,b⟩:=gW d;rw[IH.mp k,IH.mp l];exact⟨_,_,_,_,rfl,b⟩
theorem mR{f:Expr->Expr->Expr->List Expr->Scope->Bool}{e:Expr}(h:EO f e=true):∃d tg b c a p,e=.ListComp d [⟨tg,b,c,0⟩] a p/\f d tg b c a=true:=by obtain⟨x,m,s,p,rfl,j⟩:=Jd h;obtain⟨⟨tg,l,n,z⟩,rfl,i⟩:=fT j;obtain⟨k,g⟩:=a2 i;cases D1 k;exact⟨_,_,_,_,_,_,rfl,g⟩
noncomputable def isI(n:Int):Const->Bool
 |.int j=>decide (j=n)
 |_=>false
noncomputable def wK(S:SE)(i:Nat):List mG->Expr->Bool
 |[],e=>j6 S i e
 |.fl _ x::π,e=>B4 (λa f _=>decide (f=x)&&uy a&&wK S i π a) e
 |.ix n::π,e=>yt (λa k=>mC (isI n) k&&wK S i π a) e
noncomputable def nH(S:SE)(m:Md->Bool)(i:Nat)(π:List mG)(e:Expr):Bool:=!π.isEmpty&&wK S i π.reverse e&&(match S.M.lookup i with
 |some a=>(match jC a π with
  |some k=>m k
  |none=>false)
 |none=>false)
noncomputable def eG(S:SE):CE->Expr->Bool
 |.var i,e=>j6 S i e&&wF S.M i
 |.own i π,e=>nH S QM i π e
 |_,_=>false
noncomputable def Vl:BI->Str
 |.len=>"len"
 |.abs=>"abs"
 |.max2=>"max"
 |.min2=>"min"
 |.sum=>"sum"
 |.all=>"all"
 |.any=>"any"
 |.list=>"list"
 |.tuple=>"tuple"
 |.GA=>"isinstance"
 |.int=>"int"
 |.QG=>"divmod"
noncomputable def YB:BI->Nat->Bool
 |_,n=>0<n
noncomputable def CH:CE->Bool
 |.ite _ _ _=>false
 |.not a=>CH a
 |.and b=>ET b
 |.or b=>ET b
 |_=>true
where ET:List CE->Bool
 |[]=>true
 |a::b=>CH a&&ET b
noncomputable def Ay:Expr->Bool
 |.Slice _ _ _ _=>false
 |_=>true
noncomputable def yv:Expr->Bool
 |.Set _ _ _=>false
 |_=>true
noncomputable def EU:List Expr->Option (List Str)
 |[]=>some []
 |.Name x _::a=>(EU a).map λl=>x::l
 |_::_=>none
noncomputable def T4:Expr->Option (Bool×List Str)
 |.Name x _=>some (true,[x])
 |.Tuple a _ _=>(EU a).map λl=>(false,l)
 |_=>none
noncomputable def mask(a:List Str)(N:List Str):List Str:=N.map λy=>if a.contains y then y++("!":Str)else y
noncomputable def SE.comp(S:SE)(a:Scope)(b:List Str):SE:=
 {S with N:=b++mask b S.N,nk:=a.names.map λp=>(p.1,if p.2=.free then .cell else p.2),M:=up S.M b.length}
noncomputable def SE.lend(S:SE)(a:List Nat):SE:={S with M:=S.M.filter (λx=>!a.contains x.1)}
noncomputable def T5:CE->Option String
 |.Ib n=>some n
 |_=>none
noncomputable def wL:CE->Bool
 |.sA _=>true
 |_=>false
noncomputable def OB(n:Bool)(f:Expr->Bool):Option Expr->Bool
 |none=>n
 |some e=>!n&&f e
noncomputable def Ls:CE->Bool
 |.bl b=>b
 |_=>false
noncomputable def T6:BI->List CE->Bool
 |.GA,[_,c]=>(T5 c).isSome
 |.GA,_=>false
 |_,_=>true
noncomputable def Xa(y:Bool)(f:Expr->Bool):List Expr->Bool
 |[]=>y
 |[e]=>f e
 |_=>false
noncomputable def nI(f:Expr->Bool)(g:List Expr->Bool):List Expr->Bool
 |e::a=>f e&&g a
 |[]=>false
noncomputable def uz(f:Expr->Bool):List Expr->Bool:=o1 f
noncomputable def ly(S:SE)(f:List Nat)(one:Bool)(n:Nat)(g:Bool)(i:Expr->Bool)(j:SE->List Expr->Bool)(h:SE->Expr->Bool)(e tg b:Expr)(d:List Expr)(a:Scope):Bool:=
 match T4 tg with
 |some (o,c)=>(one==o)&&(n==c.length)&&(f==Bn n)&&dM a S.sc S.N (mask c S.N) c&&decide (c++mask c S.N).Nodup&&yv b&&(!g||!one)&&i b&&j (S.comp a c) d&&h (S.comp a c) e
 |none=>false
noncomputable def iG(c:Nat->Md):CE->Bool
 |.lst _=>true
 |.comp _ _ _ _ _ _=>true
 |.blt .list _=>true
 |.rev _=>true
 |.Lj _ _=>true
 |.Ic _ _=>true
 |.sl _ _ _=>true
 |.bin .Add a b=>iG c a||iG c b
 |.bin .Mult a _=>iG c a
 |.call f _=>match c f with
  |.f=>true
  |_=>false
 |.ite _ a b=>iG c a&&iG c b
 |_=>false
noncomputable def oS1(f:Expr->Bool):Option Expr->Option Expr->Option Expr->Bool
 |none,none,some t=>f t
 |_,_,_=>false
noncomputable def YC(f:Expr->Expr->Bool):Expr->Bool:=yt λv s=>W8 (oS1 (f v)) s
theorem Az{f:Expr->Expr->Bool}{e:Expr}(h:YC f e=true):∃v t q p,e=.Subscript v (.Slice none none (some t) q) p/\f v t=true:=by
 obtain⟨v,s,p,rfl,h⟩:=dZ h;obtain⟨l,r,t,q,rfl,h⟩:=Aw h;cases l with
 |some _=>exact ff h
 |none=>
  cases r with
  |some _=>exact ff h
  |none=>
   cases t with
   |none=>exact ff h
   |some t=>exact⟨v,t,q,p,rfl,h⟩
noncomputable def mo(a:Nat->Md)(c:CE):Md:=if iG a c=true then .f else .s
mutual
noncomputable def aK(S:SE)(z:Bool):CE->Expr->Bool
 |.var i,e=>j6 S i e&&!wD S.M i
 |.int i,e=>mC (λc=>decide (c=.int i)) e
 |.bl b,e=>mC (λc=>decide (c=.bool b)) e
 |.str x,e=>mC (λc=>decide (c=.str x)) e
 |.aV,e=>mC (λc=>decide (c=.none)) e
 |.Ib n,e=>wH (λx=>decide (x=Str.ofString n)&&iZ S x&&S.zn.contains x&&tys.contains n) e
 |.glob g,e=>wH (λx=>S.gn[g]?==some x&&iZ S x) e
 |.bin op a b,e=>EM (λo l r=>decide (op=o)&&(aK S false a l||eG S a l)&&(aK S false b r||eG S b r)) e
 |.neg a,e=>W9 (λo x=>decide (o=.USub)&&aK S false a x) e
 |.not a,e=>W9 (λo x=>decide (o=.Not)&&aK S false a x) e
 |.cmp op a b,e=>EN (λo l r=>decide (op=o)&&!decide (op=.In)&&!decide (op=.NotIn)&&(aK S false a l||eG S a l)&&(aK S false b r||eG S b r)) e
 |.and j,e=>T3 (λo d=>decide (o=.And)&&!d.isEmpty&&f9 S j d) e
 |.or j,e=>T3 (λo d=>decide (o=.Or)&&!d.isEmpty&&f9 S j d) e
 |.ite c a b,e=>Yz (λt x y=>aK S false c t&&CH c&&aK S false a x&&aK S false b y) e
 |.tup j,e=>B5 (λd=>f9 S j d) e
 |.lst j,e=>Jc (λd=>f9 S j d) e
 |.ix a i,e=>yt (λv s=>Ay s&&(aK S false a v||eG S a v)&&aK S false i s) e
 |.Lj a st,e=>YC (λv t=>(aK S false a v||eG S a v)&&aK S false st t) e
 |.sl a lo hi,e=>YA (λv l h=>(aK S false a v||eG S a v)&&OB (jI lo) (λx=>aK S false lo x) l&&OB (jI hi) (λx=>aK S false hi x) h) e
 |.call f j,e=>gU (λx d=>S.fn[f]?==some x&&iZ S x&&!d.isEmpty&&!cW (fS S.md f)&&!S.mt.any (·.1==f)&&f9 S j d) e
 |.blt b j,e=>gU (λx d=>decide (x=Vl b)&&iZ S x&&S.zn.contains x&&YB b d.length&&T6 b j&&nK S j d) e
 |.bits a,e=>yu (λo m E D=>decide (m=("bit_length":Str))&&(E.endLine==D.line)&&uy o&&aK S false a o) e
 |.comp B one n i c x,e=>EO (λw tg k q p=>ly S B one n (wL i) (λk=>aK S true i k||eG S i k) (λA q=>Xa (Ls c) (λf=>aK A false c f&&CH c) q) (λA w=>aK A false x w) w tg k q p) e
 |.jA j,e=>gU (λx d=>z&&decide (x=("range":Str))&&iZ S x&&S.zn.contains x&&(j.length==1||j.length==2||j.length==3)&&f9 S j d) e
 |.sA a,e=>gU (λx d=>z&&decide (x=("enumerate":Str))&&iZ S x&&S.zn.contains x&&uz (λv=>aK S false a v) d) e
 |.rev a,e=>gU (λx d=>cond z (decide (x=("reversed":Str))&&iZ S x&&S.zn.contains x&&uz (λv=>aK S false a v) d)
  (decide (x=("list":Str))&&iZ S x&&S.zn.contains x&&uz (λv=>gU (λy d=>decide (y=("reversed":Str))&&iZ S y&&S.zn.contains y&&uz (λu=>aK S false a u||eG S a u) d) v) d)) e
 |.pop _,_=>false
 |.own i π,e=>nH S Jb i π e
 |.j3 _ _ _,_=>false
 |.Ic C a,e=>gU (λ_ _=>true) e&&iG (fS S.md) a&&aK (S.lend C) false a e
 |.CF _ _ _ _,_=>false
 |.Ni f a j,e=>gU (λx d=>S.fn[f]?==some x&&iZ S x&&(match fS S.md f with
  |.io m=>QM m
  |_=>false)&&!S.mt.any (·.1==f)&&iG (fS S.md) a&&nI (λv=>aK S false a v) (λd=>f9 S j d) d) e
noncomputable def f9(S:SE):List CE->List Expr->Bool
 |[],b=>b.isEmpty
 |a::c,b=>nI (λe=>aK S false a e) (λb=>f9 S c b) b
noncomputable def nK(S:SE):List CE->List Expr->Bool
 |[],b=>b.isEmpty
 |a::c,b=>nI (λe=>aK S false a e||eG S a e) (λb=>nK S c b) b
end
structure XOk(S:SE)(Φ:Nat->bD)(Ψ:Nat->Md)(G:Nat->W)(X:Cx):Prop where
 hN:X.N=S.N
 nd:X.N.Nodup
 calm:X.calm=true
 un:X.A.units+64<cLine
 nk:∀x,X.env.scope.names.lookup x=S.nk.lookup x
 fns:∀(j:Nat)(x:Str),S.fn[j]?=some x->S.mt.any (·.1==j)=false->∃fv n k,X.mg x=some fv/\cH X.prog X.w X.K X.mg X.base k fv n (oj X.K n (Ψ j) (Φ j))/\cU k X.A/\∀ws P R,Φ j ws P R->ws.length=n
 Lu:∀(j g:Nat)(x:Str),S.fn[j]?=some x->(j,g)∈S.mt->∃f fd ps n k,(∀C,G g=.cls C->Meth X.K C x f)/\Binds X.K fd ps []/\b9 X.prog X.w X.K X.mg X.base (jB X.prog X.w) k f fd ps (oj X.K n (Ψ j) (Φ j))/\cU k X.A/\∀ws P R,Φ j ws P R->ws.length=n
 B6:Ψ=fS S.md
 Lv:∀(j:Nat)(x:Str),S.gn[j]?=some x->∃u v,X.mg x=some u/\RelV v u/\∀B H,Rep X.K B H (G j) v
 yw:∀x∈S.zn,X.mg x=none
 kit:wz X.K
section
variable{S:SE}{Φ:Nat->bD}{Ψ:Nat->Md}{G:Nat->W}{X:Cx}
theorem XOk.m9(h:XOk S Φ Ψ G X):XOk S Φ Ψ G X.m9:=⟨h.hN,h.nd,h.calm,h.un,h.nk,h.fns,h.Lu,h.B6,h.Lv,h.yw,h.kit⟩
theorem AA{x:Str}(h:okN x=true):(x==("__debug__":Str))=false/\(x==("__classdict__":Str))=false/\x≠"__name__":=by unfold okN at h;simp only[AN,so]at h;exact⟨h.1.1,h.1.2,λz=>by rw[z]at h;exact absurd h.2 (by simp)⟩
theorem bN{x:Str}(a:XOk S Φ Ψ G X)(h:iZ S x=true):Gl X x/\(x==("__debug__":Str))=false/\x≠"__name__":=by unfold iZ at h;rw[AN]at h;obtain⟨c,d,b⟩:=AA h.2;refine⟨?_,c,b⟩;show X.env.scope.names.lookup x=_;rw[a.nk];exact P3.mp h.1
theorem dO(b:XOk S Φ Ψ G X){i:Nat}{e:Expr}(h:j6 S i e=true):PE X e (jO i):=by obtain⟨x,c,rfl,h⟩:=cX h;obtain⟨h,d⟩:=NM.mp h;obtain⟨f,a⟩:=NM.mp h;obtain⟨j,g,_⟩:=AA d;refine CQ (by rw[b.hN];exact P3.mp f) ?_ j g;simp only[TY,oI,P3]at a;rw[<-b.nk]at a;exact a
noncomputable def noStar:Expr->Bool
 |.Starred _ _=>false
 |_=>true
theorem aI{e:Expr}(h:noStar e=true)(a:List Expr)(env:Env):starEach (e::a) env=(false,eval e env)::starEach a env:=by
 cases e<;>first|rfl|exact ff h
theorem bO:∀{a:List Expr}(h:a.all noStar=true)(pos:Pos)(env:Env),(backTo pos (starEach a env)).any (·.1)=false
 |[],_,_,_=>rfl
 |e::a,h,pos,env=>by rw[G1,AN]at h;rw[aI h.1];show(false||(backTo pos (starEach a env)).any (·.1))=false;rw[bO h.2];rfl
theorem fG{m:Md->Bool}{i:Nat}{π:List mG}{e:Expr}(h:nH S m i π e=true):
 (∃g k,π≠[]/\wK S i π.reverse e=true/\S.M.lookup i=some g/\jC g π=some k/\m k=true)/\((∃a f q,e=.Attribute a f q)\/∃a j c d q,e=.Subscript a (.Constant (.int j) c d) q):=by
 unfold nH at h;rw[AN,AN]at h;obtain⟨⟨y,l⟩,b⟩:=h;have u:π≠[]:=λz=>by rw[z]at y;exact ff y
 constructor
 .split at b
  .rename_i g hl
   split at b
   .rename_i k hk
    exact⟨g,k,u,l,hl,hk,b⟩
   .cases b
  .cases b
 .cases t:π.reverse with
  |nil=>exact(u (by simpa using t)).elim
  |cons s r=>
   rw[t]at l;cases s with
   |ix n=>obtain⟨v,s,p,rfl,w⟩:=dZ l;obtain⟨c,k,q,rfl,A⟩:=gx (a2 w).1;cases c<;>first|exact .inr ⟨_,_,_,_,_,rfl⟩|exact ff A
   |fl n x=>obtain⟨o,m,p,rfl,w⟩:=gW l;exact .inl ⟨_,_,_,rfl⟩
theorem pT{m:Md->Bool}{i:Nat}{π:List mG}{v:Expr}{p:Pos}(h:nH S m i π (.Starred v p)=true):False:=by rcases(fG h).2 with⟨_,_,_,e⟩|⟨_,_,_,_,_,e⟩<;>cases e
theorem bC{a:Bool}{c:CE}{e:Expr}(h:aK S a c e=true\/eG S c e=true):noStar e=true:=by
 cases e with
 |Starred v p=>
  rcases h with h|h
  .cases c with
   |own i b=>exact(pT h).elim
   |_=>exact ff h
  .cases c<;>first|exact ff h|exact(pT h).elim
 |_=>rfl
theorem gk{a b:Bool}(h:(a||b)=true):a=true\/b=true:=by
 cases a
 .exact .inr h
 .exact .inl rfl
theorem jx:∀{cs:List CE}{a:List Expr},f9 S cs a=true->a.all noStar=true
 |[],a,h=>by
  cases a with
  |nil=>rfl
  |cons _ _=>exact ff h
 |c::cs,[],h=>by cases h
 |c::cs,e::a,h=>by have h:=a2 h;rw[G1,bC (.inl h.1),jx h.2];rfl
theorem pU:∀{cs:List CE}{a:List Expr},nK S cs a=true->a.all noStar=true
 |[],a,h=>by
  cases a with
  |nil=>rfl
  |cons _ _=>exact ff h
 |c::cs,[],h=>by cases h
 |c::cs,e::a,h=>by have h:=a2 h;rw[G1,bC (gk h.1),pU h.2];rfl
theorem uA{b:Expr}(h:Ay b=true):kI b:=λo i=>by cases b<;>first|rfl|exact ff h
theorem sE{a:Expr}(h:uy a=true)(f:Str)(env:Env)(b:Sem Value):attributeBase a f env b=b:=by cases a<;>first|rfl|exact ff h
theorem pV(b:XOk S Φ Ψ G X){i:Nat}:∀(π:List mG)(e:Expr),wK S i π e=true->PE X e (uo X.K i π.reverse)
 |[],e,h=>Oq (dO b h)
 |.fl n x::π,e,h=>by obtain⟨o,m,p,rfl,g⟩:=gW h;obtain⟨⟨a,f⟩,d⟩:=a3 g;have a:=D1 a;subst a;rw[hV];exact Ot (pV b π _ d) (sE f _ _ _)
 |.ix n::π,e,h=>by
  obtain⟨v,s,p,rfl,g⟩:=dZ h;obtain⟨f,d⟩:=a2 g;obtain⟨c,k,q,rfl,j⟩:=gx f;cases c<;>try exact ff j
  have a:=D1 j;subst a;rw[hV];exact TV (pV b π _ d) jP (uA rfl)
theorem EV(b:XOk S Φ Ψ G X){m:Md->Bool}{i:Nat}{π:List mG}{e:Expr}(h:nH S m i π e=true):∃a k,(i,a)∈S.M/\jC a π=some k/\m k=true/\PE X e (uo X.K i π):=by obtain⟨⟨a,k,_,g,f,d,c⟩,_⟩:=fG h;have:=pV b π.reverse e g;rw[List.reverse_reverse]at this;exact⟨a,k,jg f,d,c,this⟩
theorem T7(g:XOk S Φ Ψ G X){i:Nat}{π:List mG}{e:Expr}(h:nH S Jb i π e=true)(R:Addr->Prop):VE X S.M R .s e (λa Q=>match look a i with|some w=>(match cP w π with|some u=>Q u|none=>False)|none=>False):=by
 obtain⟨j,k,d,c,f,b⟩:=EV g h;cases k<;>first|(cases f;done)|skip
 exact Nt b d c
theorem Lw(g:XOk S Φ Ψ G X){i:Nat}{π:List mG}{e:Expr}(h:nH S QM i π e=true)(R:Addr->Prop):VB X S.M R e (λa Q=>match look a i with|some w=>(match cP w π with|some u=>Q u|none=>False)|none=>False):=by
 obtain⟨j,k,d,c,f,b⟩:=EV g h;cases k<;>first|(cases f;done)|skip
 exact Nr b d c
end
structure cJ(Φ:Nat->bD)(Ψ:Nat->Md)(G:Nat->W)(c:CE):Prop where
 e:∀{S:SE}{X:Cx},XOk S Φ Ψ G X->∀ex,aK S false c ex=true->∀R,VE X S.M R (mo Ψ c) ex (wE Φ G R c)
 t:∀{S:SE}{X:Cx},XOk S Φ Ψ G X->∀ex,aK S false c ex=true->CH c=true->∀R,VT X S.M R ex (wE Φ G R c)
 i:∀{S:SE}{X:Cx},XOk S Φ Ψ G X->∀tg br ex,(aK S true c ex||(br&&eG S c ex))=true->(wL c=true->∃elts kk tp,tg=Expr.Tuple elts kk tp)->∀R,PI X tg ex (CG X S.M R br (wE Φ G R c))
structure pW(Φ:Nat->bD)(Ψ:Nat->Md)(G:Nat->W)(cs:List CE):Prop where
 a:∀{S:SE}{X:Cx},XOk S Φ Ψ G X->∀es,f9 S cs es=true->∀R,VA X S.M R es (wA Φ G R cs)
 b:∀{S:SE}{X:Cx},XOk S Φ Ψ G X->∀es,nK S cs es=true->∀R,QK X S.M R es (wA Φ G R cs)
 av:∀{S:SE}{X:Cx},XOk S Φ Ψ G X->∀es pos,es≠[]->f9 S cs es=true->∀R,VE X S.M R .s (.BoolOp .And es pos) (Bf Φ G R cs)
 ov:∀{S:SE}{X:Cx},XOk S Φ Ψ G X->∀es pos,es≠[]->f9 S cs es=true->∀R,VE X S.M R .s (.BoolOp .Or es pos) (Qv Φ G R cs)
 «at»:∀{S:SE}{X:Cx},XOk S Φ Ψ G X->∀es pos,es≠[]->f9 S cs es=true->CH.ET cs=true->∀R,Ln X S.M R (.BoolOp .And es pos) (Bf Φ G R cs)
 ot:∀{S:SE}{X:Cx},XOk S Φ Ψ G X->∀es pos,es≠[]->f9 S cs es=true->CH.ET cs=true->∀R,Ln X S.M R (.BoolOp .Or es pos) (Qv Φ G R cs)
section
variable{Φ:Nat->bD}{Ψ:Nat->Md}{G:Nat->W}
theorem fk{c:CE}(h:iG Ψ c=false):mo Ψ c=.s:=by unfold mo;rw[h];rfl
theorem gX{c:CE}(h:iG Ψ c=true):mo Ψ c=.f:=by unfold mo;rw[h];rfl
theorem cJ.s{c:CE}(h:cJ Φ Ψ G c){S:SE}{X:Cx}(a:XOk S Φ Ψ G X){ex:Expr}(k:aK S false c ex=true)(R:Addr->Prop):VE X S.M R .s ex (wE Φ G R c):=BZ (h.e a ex k R)
theorem cJ.b{c:CE}(h:cJ Φ Ψ G c){S:SE}{X:Cx}(a:XOk S Φ Ψ G X){ex:Expr}(k:(aK S false c ex||eG S c ex)=true)(R:Addr->Prop):VB X S.M R ex (wE Φ G R c):=by
 rcases gk k with k|k
 .exact Tr (h.e a ex k R)
 .cases c with
  |var i=>have k:(j6 S i ex&&wF S.M i)=true:=k;rw[AN]at k;exact Ey (dO a k.1) (wG k.2)
  |own i d=>exact Lw a k R
  |_=>exact ff k
theorem cJ.mk1{c:CE}(b:∀{S:SE}{X:Cx},XOk S Φ Ψ G X->∀ex,aK S false c ex=true->∀R,VE X S.M R (mo Ψ c) ex (wE Φ G R c))
 (f:∀{S:SE}{ex:Expr}(env:Env),aK S false c ex=true->∀a,isTrue ex env a=(do let v<-a;standAt ex.pos;holding [v] (truthy v)))
 (hi:∀(S:SE)(ex:Expr),aK S true c ex=true->aK S false c ex=true)(e:∀(S:SE)(ex:Expr),eG S c ex=false):cJ Φ Ψ G c:=
 ⟨b,λd ex k _ R=>uq (f _ k) (BZ (b d ex k R)),λ{S X} d g h ex k _ R=>by rw[e,dE,bj]at k;exact gw (jJ (b d ex (hi _ _ k) R))⟩
theorem OC(i:Nat):cJ Φ Ψ G (.var i):=by
 have d:∀{S:SE}{X:Cx},XOk S Φ Ψ G X->∀ex,aK S false (.var i) ex=true->∀R,VE X S.M R (mo Ψ (.var i)) ex (wE Φ G R (.var i)):=λ{S X} a ex k R=>by have k:=a2 k;have e:¬aL S.M i:=kY (by simpa using k.2);rw[fk rfl];exact Nq (dO a k.1) e
 refine⟨d,λ{S X} a ex k _ R=>uq (λc=>?_) (BZ (d a ex k R)),λ{S X} a f g ex k _ R=>?_⟩
 .have k:=a2 k;cases ex<;>first|rfl|(have:=k.1;exact ff this)
 .rcases gk k with k|k
  .exact gw (jJ (d a ex (by exact k) R))
  .rw[AN]at k;obtain⟨rfl,b⟩:=k;have b:(j6 S i ex&&wF S.M i)=true:=b;rw[AN]at b;exact gw (TH (Ey (dO a b.1) (wG b.2)))
theorem OD(i:Nat)(π:List mG):cJ Φ Ψ G (.own i π):=by
 have d:∀R,wE Φ G R (.own i π)=λe Q=>match look e i with|some w=>(match cP w π with|some u=>Q u|none=>False)|none=>False:=λR=>rfl
 have c:∀{S:SE}{X:Cx},XOk S Φ Ψ G X->∀ex,aK S false (.own i π) ex=true->∀R,VE X S.M R (mo Ψ (.own i π)) ex (wE Φ G R (.own i π)):=λ{S X} a ex k R=>by rw[fk rfl,d];exact T7 a k R
 refine⟨c,λ{S X} a ex k _ R=>uq (λb=>?_) (BZ (c a ex k R)),λ{S X} a g h ex k _ R=>?_⟩
 .rcases(fG k).2 with⟨_,_,_,rfl⟩|⟨_,_,_,_,_,rfl⟩<;>rfl
 .rcases gk k with k|k
  .exact gw (jJ (c a ex (by exact k) R))
  .rw[AN]at k;obtain⟨rfl,f⟩:=k;rw[d];exact gw (TH (Lw a f R))
theorem OE(i:Int):cJ Φ Ψ G (.int i):=by
 refine .mk1 (λ{S X} d ex k R=>?_) (λ{S ex} b k a=>?_) (λS ex k=>by exact k) (λ_ _=>rfl)
 .obtain⟨c,q,p,rfl,k⟩:=gx k;cases D1 k;rw[fk rfl];exact B3 jP λ_ _=>fR _
 .obtain⟨c,q,p,rfl,k⟩:=gx k;rfl
theorem T8(i:Bool):cJ Φ Ψ G (.bl i):=by
 refine .mk1 (λ{S X} d ex k R=>?_) (λ{S ex} b k a=>?_) (λS ex k=>by exact k) (λ_ _=>rfl)
 .obtain⟨c,q,p,rfl,k⟩:=gx k;cases D1 k;rw[fk rfl];exact B3 Rm λ_ _=>yj _
 .obtain⟨c,q,p,rfl,k⟩:=gx k;rfl
theorem OG(i:Str):cJ Φ Ψ G (.str i):=by
 refine .mk1 (λ{S X} d ex k R=>?_) (λ{S ex} b k a=>?_) (λS ex k=>by exact k) (λ_ _=>rfl)
 .obtain⟨c,q,p,rfl,k⟩:=gx k;cases D1 k;rw[fk rfl];exact B3 L8 λ_ _=>Tj _
 .obtain⟨c,q,p,rfl,k⟩:=gx k;rfl
theorem OH:cJ Φ Ψ G .aV:=by
 refine .mk1 (λ{S X} d ex k R=>?_) (λ{S ex} b k a=>?_) (λS ex k=>by exact k) (λ_ _=>rfl)
 .obtain⟨c,q,p,rfl,k⟩:=gx k;cases D1 k;rw[fk rfl];exact B3 L7 λ_ _=>Tn
 .obtain⟨c,q,p,rfl,k⟩:=gx k;rfl
theorem Jf{n:String}(h:tys.contains n=true):bootBuiltins (Str.ofString n)=some (.type n):=by
 have:n∈tys:=by simpa using h
 unfold tys at this;simp only[GE,UF,lx]at this;rcases this with rfl|rfl|rfl|rfl|rfl|rfl<;>rfl
theorem OI(n:String):cJ Φ Ψ G (.Ib n):=by
 refine .mk1 (λ{S X} d ex k R=>?_) (λ{S ex} l k a=>?_) (λS ex k=>by exact k) (λ_ _=>rfl)
 .obtain⟨x,q,rfl,b⟩:=cX k
  replace k:=b
  simp only[AN]at k;obtain⟨⟨⟨c,g⟩,f⟩,e⟩:=k;obtain⟨j,i,h⟩:=bN d g;have c:=D1 c;subst c;rw[fk rfl];exact B3 (v:=.ty n) (GO j (d.yw _ (by simpa using f)) (Jf e) rfl h i) λ_ _=>rTy _
 .obtain⟨x,q,rfl,b⟩:=cX k
  replace k:=b
  rfl
theorem Jg(g:Nat):cJ Φ Ψ G (.glob g):=by
 refine .mk1 (λ{S X} c ex k R=>?_) (λ{S ex} m k a=>?_) (λS ex k=>by exact k) (λ_ _=>rfl)
 .obtain⟨x,q,rfl,b⟩:=cX k
  replace k:=b
  simp only[AN]at k;obtain⟨e,d⟩:=k;obtain⟨l,j,n⟩:=bN c d;obtain⟨u,v,i,h,f⟩:=c.Lv g _ (P3.mp e);rw[fk rfl];exact B3 (GN l i h j) f
 .obtain⟨x,q,rfl,b⟩:=cX k
  replace k:=b
  rfl
theorem yx{K:Frag}{B:Addr->Prop}{H H':Hp}{w:W}{v:V}(h:cY K B H H' .f w v):Nu w=true:=by obtain⟨a,p,b,rfl,_⟩:=h.Li;rfl
theorem EW{S:SE}{a:CE}{l:Expr}(k:eG S a l=true)(z:iG Ψ a=true):False:=by cases a<;>first|exact ff k|exact ff z
theorem OJ(op:Operator){a b:CE}(J:cJ Φ Ψ G a)(I:cJ Φ Ψ G b):cJ Φ Ψ G (.bin op a b):=by
 refine .mk1 (λ{S X} n ex k R=>?_) (λ{S ex} P k s=>?_) (λS ex k=>by exact k) (λ_ _=>rfl)
 .obtain⟨l,o,r,t,rfl,u⟩:=mP k
  replace k:=u
  simp only[AN]at k;obtain⟨⟨A,i⟩,g⟩:=k;have A:=D1 A;subst A;show VE X S.M R _ _ λF Q=>wE Φ G R a F λx=>wE Φ G R b F λy=>gR op x y Q;have E:∀B H m w v,Dom B H->Ym X.K B H m w v->bf X.K B m w v:=λ_ _ _ _ _ _ h=>h;have D:∀B H m w v,Dom B H->Np X.K .f B H m w v->bf X.K B m w v:=λ_ _ _ _ _ d h=>(cY.rep d h).b;have p:=J.b n i R;have j:=I.b n g R;have L:iG Ψ a=true->VE X S.M R .f l (wE Φ G R a):=λz=>by
   rcases gk i with i|i
   .have:=J.e n l i R;rw[gX z]at this;exact this
   .exact(EW i z).elim
  have O:iG Ψ b=true->VE X S.M R .f r (wE Φ G R b):=λz=>by
   rcases gk g with g|g
   .have:=I.e n r g R;rw[gX z]at this;exact this
   .exact(EW g z).elim
  cases op with
  |Add=>
   by_cases c:iG Ψ a=true
   .rw[gX (show iG Ψ (.bin .Add a b)=true by show(iG Ψ a||iG Ψ b)=true;rw[c];rfl)];exact yo (L c) j D E λ_ _ _ _ _ _ _ _ _ _ C _=>.inl ⟨rfl,.inl (yx C)⟩
   .by_cases q:iG Ψ b=true
    .rw[gX (show iG Ψ (.bin .Add a b)=true by show(iG Ψ a||iG Ψ b)=true;rw[q,Bool.or_true])];exact yo p (O q) E D λ_ _ _ _ _ _ _ _ _ _ _ N=>.inl ⟨rfl,.inr (yx N)⟩
    .rw[fk (show iG Ψ (.bin .Add a b)=false by show(iG Ψ a||iG Ψ b)=false;rw[ej _|>.mp c,ej _|>.mp q];rfl)];exact EA p j λ_ _=>.inr rfl
  |Mult=>
   by_cases c:iG Ψ a=true
   .rw[gX (show iG Ψ (.bin .Mult a b)=true from c)];exact yo (L c) j D E λ_ _ _ _ _ _ _ _ _ _ C _=>.inr ⟨rfl,yx C⟩
   .rw[fk (show iG Ψ (.bin .Mult a b)=false from ej _|>.mp c)];exact EA p j λ_ _=>.inr rfl
  |_=>rw[fk rfl];exact EA p j λ_ _=>.inr rfl
 .obtain⟨l,o,r,t,rfl,u⟩:=mP k
  replace k:=u
  rfl
theorem OL{a:CE}(e:cJ Φ Ψ G a):cJ Φ Ψ G (.neg a):=by
 refine .mk1 (λ{S X} f ex k R=>?_) (λ{S ex} g k b=>?_) (λS ex k=>by exact k) (λ_ _=>rfl)
 .obtain⟨o,x,c,rfl,d⟩:=om k
  replace k:=d
  rw[AN]at k;cases D1 k.1;rw[fk rfl];exact Nx (e.s f k.2 R)
 .obtain⟨o,x,c,rfl,d⟩:=om k
  replace k:=d
  rw[AN]at k;cases D1 k.1;rfl
theorem OM{a:CE}(h:cJ Φ Ψ G a):cJ Φ Ψ G (.not a):=by
 have e:∀R,wE Φ G R (.not a)=λi Q=>wE Φ G R a i λx=>truth x λb=>Q (.bl (!b)):=λR=>rfl;have g:∀{S:SE}{X:Cx},XOk S Φ Ψ G X->∀ex,aK S false (.not a) ex=true->∀R,VE X S.M R (mo Ψ (.not a)) ex (wE Φ G R (.not a)):=λ{S X} c ex k R=>by
  obtain⟨o,x,d,rfl,f⟩:=om k
  replace k:=f
  rw[AN]at k;cases D1 k.1;rw[fk rfl,e];exact Ny (h.s c k.2 R)
 refine⟨g,λ{S X} c ex k j R=>?_,λ{S X} c m n ex k _ R=>?_⟩
 .obtain⟨o,x,d,rfl,f⟩:=om k
  replace k:=f
  rw[AN]at k;cases D1 k.1;rw[e];exact NG (h.t c _ k.2 (by exact j) R)
 .have l:eG S (.not a) ex=false:=rfl;rw[l,dE,bj]at k;exact gw (jJ (g c ex (by exact k) R))
theorem ON(op:CmpOp){a b:CE}(n:cJ Φ Ψ G a)(m:cJ Φ Ψ G b):cJ Φ Ψ G (.cmp op a b):=by
 have e:∀R,wE Φ G R (.cmp op a b)=λg Q=>wE Φ G R a g λx=>wE Φ G R b g λy=>eZ op x y Q:=λR=>rfl;have f:∀{S:SE}{X:Cx},XOk S Φ Ψ G X->∀ex,aK S false (.cmp op a b) ex=true->∀R,VE X S.M R .s ex (wE Φ G R (.cmp op a b))/\VT X S.M R ex (wE Φ G R (.cmp op a b)):=λ{S X} c ex k R=>by
  obtain⟨l,o,r,p,rfl,q⟩:=mQ k
  replace k:=q
  simp only[AN,so]at k;obtain⟨⟨⟨⟨d,u⟩,t⟩,i⟩,h⟩:=k;have d:=D1 d;subst d;have j:=xJ r (op:=op) (fe u) (fe t);rw[e];exact⟨Nz c.un j (n.b c i R) (m.b c h R),NB c.un j (n.b c i R) (m.b c h R)⟩
 refine⟨λc ex k R=>by rw[fk rfl];exact(f c ex k R).1,λc ex k _ R=>(f c ex k R).2,λ{S X} c w z ex k _ R=>?_⟩;have v:eG S (.cmp op a b) ex=false:=rfl;rw[v,dE,bj]at k;exact gw (jJ (f c ex (by exact k) R).1)
theorem jy{a:List Expr}(h:(!a.isEmpty)=true):a≠[]:=by rintro rfl;cases h
theorem OO{b:List CE}(g:pW Φ Ψ G b):cJ Φ Ψ G (.and b):=by
 have e:∀R,wE Φ G R (.and b)=Bf Φ G R b:=λR=>rfl;have f:∀{S:SE}{X:Cx},XOk S Φ Ψ G X->∀ex,aK S false (.and b) ex=true->∀R,VE X S.M R .s ex (wE Φ G R (.and b)):=λ{S X} a ex k R=>by
  obtain⟨o,j,c,rfl,d⟩:=kZ k
  replace k:=d
  rw[AN,AN]at k;cases D1 k.1.1;rw[e];exact g.av a _ _ (jy k.1.2) k.2 R
 refine⟨λa ex k R=>by rw[fk rfl];exact f a ex k R,λ{S X} a ex k h R=>?_,λ{S X} a l m ex k _ R=>?_⟩
 .obtain⟨o,j,c,rfl,d⟩:=kZ k
  replace k:=d
  rw[AN,AN]at k;cases D1 k.1.1;rw[e];exact(g.at a _ _ (jy k.1.2) k.2 (by exact h) R).pt
 .have i:eG S (.and b) ex=false:=rfl;rw[i,dE,bj]at k;exact gw (jJ (f a ex (by exact k) R))
theorem Ua{b:List CE}(g:pW Φ Ψ G b):cJ Φ Ψ G (.or b):=by
 have e:∀R,wE Φ G R (.or b)=Qv Φ G R b:=λR=>rfl;have f:∀{S:SE}{X:Cx},XOk S Φ Ψ G X->∀ex,aK S false (.or b) ex=true->∀R,VE X S.M R .s ex (wE Φ G R (.or b)):=λ{S X} a ex k R=>by
  obtain⟨o,j,c,rfl,d⟩:=kZ k
  replace k:=d
  rw[AN,AN]at k;cases D1 k.1.1;rw[e];exact g.ov a _ _ (jy k.1.2) k.2 R
 refine⟨λa ex k R=>by rw[fk rfl];exact f a ex k R,λ{S X} a ex k h R=>?_,λ{S X} a l m ex k _ R=>?_⟩
 .obtain⟨o,j,c,rfl,d⟩:=kZ k
  replace k:=d
  rw[AN,AN]at k;cases D1 k.1.1;rw[e];exact(g.ot a _ _ (jy k.1.2) k.2 (by exact h) R).pt
 .have i:eG S (.or b) ex=false:=rfl;rw[i,dE,bj]at k;exact gw (jJ (f a ex (by exact k) R))
theorem Ub{X:Cx}{M:Ms}{R:Addr->Prop}{m:Md}{e:Expr}{t:WT}{c:CE}(h:VE X M R m e t)(a:mo Ψ c=m\/mo Ψ c=.s):VE X M R (mo Ψ c) e t:=by
 rcases a with z|z
 .rw[z];exact h
 .rw[z];exact BZ h
theorem OP{c a b:CE}(q:cJ Φ Ψ G c)(u:cJ Φ Ψ G a)(r:cJ Φ Ψ G b):cJ Φ Ψ G (.ite c a b):=by
 have e:∀R,wE Φ G R (.ite c a b)=λh Q=>wE Φ G R c h λx=>truth x λk=>if k=true then wE Φ G R a h Q else wE Φ G R b h Q:=λR=>rfl
 have o:∀{S:SE}{X:Cx},XOk S Φ Ψ G X->∀ex,aK S false (.ite c a b) ex=true->∀R,VE X S.M R (mo Ψ (.ite c a b)) ex (wE Φ G R (.ite c a b)):=λ{S X} d ex k R=>by
  obtain⟨t,x,y,p,rfl,i⟩:=Je k;simp only[AN]at i;obtain⟨⟨⟨n,m⟩,l⟩,j⟩:=i;rw[e];by_cases z:iG Ψ a=true/\iG Ψ b=true
  .rw[gX (show iG Ψ (.ite c a b)=true by show(iG Ψ a&&iG Ψ b)=true;rw[z.1,z.2];rfl)];have g:=u.e d x l R;have f:=r.e d y j R;rw[gX z.1]at g;rw[gX z.2]at f;exact EB (q.t d t n m R) g f
  .rw[fk (show iG Ψ (.ite c a b)=false by
    show(iG Ψ a&&iG Ψ b)=false;cases g:iG Ψ a
    .rfl
    .cases f:iG Ψ b
     .rfl
     .exact absurd ⟨g,f⟩ z)]
   exact EB (q.t d t n m R) (u.s d l R) (r.s d j R)
 refine⟨o,(λd ex k v R=>by exact ff v),λ{S X} d A B ex k _ R=>?_⟩;have w:eG S (.ite c a b) ex=false:=rfl;rw[w,dE,bj]at k;exact gw (jJ (o d ex (by exact k) R))
theorem OQ{e:List CE}(f:pW Φ Ψ G e):cJ Φ Ψ G (.tup e):=by
 refine .mk1 (λ{S X} g ex k R=>?_) (λ{S ex} h k b=>?_) (λS ex k=>by exact k) (λ_ _=>rfl)
 .obtain⟨d,q,p,rfl,c⟩:=fU k;rw[fk rfl];exact NJ (f.a g d c R)
 .obtain⟨d,q,p,rfl,c⟩:=fU k;rfl
theorem OR{e:List CE}(f:pW Φ Ψ G e):cJ Φ Ψ G (.lst e):=by
 refine .mk1 (λ{S X} g ex k R=>?_) (λ{S ex} h k b=>?_) (λS ex k=>by exact k) (λ_ _=>rfl)
 .obtain⟨d,p,rfl,c⟩:=lu k;rw[gX rfl];exact NI (f.a g d c R)
 .obtain⟨d,p,rfl,c⟩:=lu k;rfl
theorem Uc{a i:CE}(f:cJ Φ Ψ G a)(hi:cJ Φ Ψ G i):cJ Φ Ψ G (.ix a i):=by
 refine .mk1 (λ{S X} e ex k R=>?_) (λ{S ex} g k d=>?_) (λS ex k=>by exact k) (λ_ _=>rfl)
 .obtain⟨v,s,p,rfl,c⟩:=dZ k;simp only[AN]at c;rw[fk rfl];exact Tv (uA c.1.1) (f.b e c.1.2 R) (hi.s e c.2 R)
 .obtain⟨v,s,p,rfl,c⟩:=dZ k;rfl
theorem Lx{lo:CE}(c:cJ Φ Ψ G lo){S:SE}{X:Cx}(d:XOk S Φ Ψ G X){l:Option Expr}(k:OB (jI lo) (λx=>aK S false lo x) l=true)(R:Addr->Prop):PO X l (Tw X S.M R λa Q=>wE Φ G R lo a λy=>Ie lo y Q):=by
 cases l with
 |none=>
  have z:jI lo=true:=k;cases lo with
  |aV=>exact Iu
  |_=>exact ff z
 |some x=>
  have k:(!jI lo&&aK S false lo x)=true:=k;rw[AN]at k;have e:(λ(a:Ev)(Q:Option Int->Prop)=>wE Φ G R lo a λy=>Ie lo y Q)=λa Q=>wE Φ G R lo a λy=>match y with|.int i=>Q (some i)|_=>False:=by
   have b:jI lo=false:=by simpa using k.1
   unfold Ie;rw[b];funext a Q;congr 1;funext y;cases y<;>rfl
  rw[e];exact Iv (c.s d k.2 R)
theorem Ud{a lo hi:CE}(h:cJ Φ Ψ G a)(f:cJ Φ Ψ G lo)(g:cJ Φ Ψ G hi):cJ Φ Ψ G (.sl a lo hi):=by
 refine .mk1 (λ{S X} e ex k R=>?_) (λ{S ex} i k d=>?_) (λS ex k=>by exact k) (λ_ _=>rfl)
 .obtain⟨v,l,r,q,p,rfl,c⟩:=Ax k;simp only[AN]at c;rw[gX rfl];exact Tz (h.b e c.1.1 R) (Lx f e c.1.2 R) (Lx g e c.2 R)
 .obtain⟨v,l,r,q,p,rfl,c⟩:=Ax k;rfl
theorem OS{a st:CE}(g:cJ Φ Ψ G a)(f:cJ Φ Ψ G st):cJ Φ Ψ G (.Lj a st):=by
 refine .mk1 (λ{S X} e ex k R=>?_) (λ{S ex} h k d=>?_) (λS ex k=>by exact k) (λ_ _=>rfl)
 .obtain⟨v,t,q,p,rfl,c⟩:=Az k;rw[AN]at c;rw[gX rfl];exact NK (g.b e c.1 R) (f.s e c.2 R)
 .obtain⟨v,t,q,p,rfl,c⟩:=Az k;rfl
theorem Jh(f:Nat){m:List CE}(C:pW Φ Ψ G m):cJ Φ Ψ G (.call f m):=by
 refine .mk1 (λ{S X} b ex k R=>?_) (λ{S ex} I k c=>?_) (λS ex k=>by exact k) (λ_ _=>rfl)
 .obtain⟨x,q,l,p,rfl,g⟩:=aH k;simp only[AN]at g;obtain⟨⟨⟨⟨⟨v,u⟩,t⟩,i⟩,s⟩,o⟩:=g;obtain⟨E,D,J⟩:=bN b u;obtain⟨H,n,r,B,F,y,A⟩:=b.fns f x (P3.mp v) (by simpa using s);have F:cH X.prog X.w X.K X.mg X.base r H n (Lq X.K n (Ψ f) (Φ f)):=by rw[<-b.B6]at i;cases j:Ψ f<;>rw[j]at i F<;>first|exact F|exact ff i
  have d:=jx o;cases l with
  |nil=>exact ff t
  |cons e l=>
   rw[G1,AN]at d;have h:=Aq (M:=S.M) (R:=R) (p:=q) (pos:=p) F y E B A (C.a b _ o R) D (aI d.1 _ _) (bO d.2 _ _);refine Ub h ?_;by_cases z:iG Ψ (.call f m)=true
   .rw[gX z];left;have z:(match Ψ f with|.f=>true|_=>false)=true:=z;cases j:Ψ f<;>rw[j]at z<;>first|rfl|exact ff z
   .exact .inr (fk (by simpa using z))
 .obtain⟨x,q,l,p,rfl,g⟩:=aH k;rfl
theorem wM{X:Cx}(c:X.calm=true):∀b:BI,b≠.GA->(∃a,bootBuiltins (Vl b)=some (.builtin a)/\cL X (.builtin a) (NL X.K b))\/(∃a,bootBuiltins (Vl b)=some (.type a)/\cL X (.type a) (NL X.K b))
 |.len,_=>.inl ⟨"len",rfl,cw_len.r⟩
 |.abs,_=>.inl ⟨"abs",rfl,cw_abs.r⟩
 |.max2,_=>.inl ⟨"max",rfl,(cw_max c).r⟩
 |.min2,_=>.inl ⟨"min",rfl,(cw_min c).r⟩
 |.sum,_=>.inl ⟨"sum",rfl,(cw_sum c).r⟩
 |.all,_=>.inl ⟨"all",rfl,(cw_all c).r⟩
 |.list,_=>.inr ⟨"list",rfl,cw_list.r⟩
 |.tuple,_=>.inr ⟨"tuple",rfl,cw_tuple.r⟩
 |.int,_=>.inr ⟨"int",rfl,cw_int.r⟩
 |.QG,_=>.inl ⟨"divmod",rfl,cw_dvm.r⟩
 |.any,_=>.inl ⟨"any",rfl,(cw_any c).r⟩
 |.GA,h=>absurd rfl h
theorem fH{S:SE}{a:CE}{c:List CE}{b:List Expr}(k:f9 S (a::c) b=true):∃e r,b=e::r/\aK S false a e=true/\f9 S c r=true:=by
 cases b with
 |nil=>exact ff k
 |cons e r=>exact⟨e,r,rfl,a2 k⟩
theorem pX{S:SE}{a:List Expr}(k:f9 S [] a=true):a=[]:=IH.mp k
theorem yy{S:SE}{a:CE}{c:List CE}{b:List Expr}(k:nK S (a::c) b=true):∃e r,b=e::r/\(aK S false a e||eG S a e)=true/\nK S c r=true:=by
 cases b with
 |nil=>exact ff k
 |cons e r=>exact⟨e,r,rfl,a2 k⟩
theorem B8{S:SE}{a:List Expr}(k:nK S [] a=true):a=[]:=IH.mp k
theorem OT(b:BI){i:List CE}(I:pW Φ Ψ G i)(g:∀c∈i,cJ Φ Ψ G c):cJ Φ Ψ G (.blt b i):=by
 refine .mk1 (λ{S X} h ex k R=>?_) (λ{S ex} Z k t=>?_) (λS ex k=>by exact k) (λ_ _=>rfl)
 .obtain⟨x,q,C,p,rfl,l⟩:=aH k;simp only[AN]at l;obtain⟨⟨⟨⟨⟨m,P⟩,O⟩,N⟩,E⟩,s⟩:=l;have m:=D1 m;obtain⟨B,A,w⟩:=bN h P;have hz:=h.yw x (by simpa using O);have f:=pU s;cases C with
  |nil=>cases b<;>exact ff N
  |cons e C=>
   rw[G1,AN]at f;by_cases H:b=.GA
   .subst H;rw[fk rfl];rcases i with _|⟨a,_|⟨c,_|⟨d,i⟩⟩⟩<;>try exact ff E
    obtain⟨n,F⟩:=ag.mp E;have ec:c=.Ib n:=by cases c<;>first|(cases F;rfl)|exact nn F
    subst ec;obtain⟨L,K⟩:=a2 s;obtain⟨e2,r,rfl,D,EX⟩:=yy K;cases B8 EX;have j:=f.2;rw[G1,AN]at j;have J:aK S false (.Ib n) e2=true:=by
     rcases gk D with z|z
     .exact z
     .exact ff z
    have u:n∈["int","bool","tuple","list","str","dict"]:=by obtain⟨y,q2,rfl,l⟩:=cX J;have:=(a2 l).2;unfold tys at this;exact WR.mp this
    have Y:=(g a FR).b h L R;have U:=(g (.Ib n) (Ee _ FR)).b h D R;have o:bootBuiltins x=some (.builtin "isinstance"):=by rw[m];rfl
    exact NP (M:=S.M) (R:=R) (p:=q) (pos:=p) h.kit u B hz o Y U w A (aI f.1 _ _) (aI j.1 _ _) (bO f.2 _ _)
   .have T:mo Ψ (.blt b i)=TF b:=by
     cases b<;>first|rfl|exact fk rfl|exact gX rfl
    rw[T];rcases wM h.calm b H with⟨Q,o,v⟩|⟨Q,o,v⟩
    .exact NN v B hz (by rw[m];exact o) (I.b h _ s R) w A (aI f.1 _ _) (bO f.2 _ _)
    .exact NO v B hz (by rw[m];exact o) (I.b h _ s R) w A (aI f.1 _ _) (bO f.2 _ _)
 .obtain⟨x,q,C,p,rfl,l⟩:=aH k;rfl
theorem Ji{a:CE}(h:cJ Φ Ψ G a):cJ Φ Ψ G (.bits a):=by
 refine .mk1 (λ{S X} i ex k R=>?_) (λ{S ex} j k b=>?_) (λS ex k=>by exact k) (λ_ _=>rfl)
 .obtain⟨o,m,n,l,rfl,c⟩:=j7 k;simp only[AN]at c;obtain⟨⟨⟨d,g⟩,e⟩,f⟩:=c;have d:=D1 d;subst d;rw[fk rfl];exact Iw (h.s i f R) (sE e _ _ _) g
 .obtain⟨o,m,n,l,rfl,c⟩:=j7 k;rfl
theorem lz{S:SE}{a:List Nat}:∀x∈(S.lend a).M,x∈S.M:=λx b=>(U2.mp b).1
theorem OU(d:List Nat){a:CE}(t:cJ Φ Ψ G a):cJ Φ Ψ G (.Ic d a):=by
 refine .mk1 (λ{S X} b ex k R=>?_) (λ{S ex} B k c=>?_) (λS ex k=>by exact k) (λ_ _=>rfl)
 .have k:=a2 k;have i:=a2 k.1;have I:XOk (S.lend d) Φ Ψ G X:=⟨b.hN,b.nd,b.calm,b.un,b.nk,b.fns,b.Lu,b.B6,b.Lv,b.yw,b.kit⟩;have h:=t.e I ex k.2 R;rw[<-b.B6]at i;rw[gX i.2]at h;rw[gX rfl];refine PE.imp h ?_;rintro K H Q ⟨A,E,j,P,D,z,h,m⟩;obtain⟨J,O,T,L,C⟩:=D.sub (M':=(S.lend d).M) lz none (λv e=>by cases e);refine⟨J,E,j,_,C,z,h,λw v F f s r=>?_⟩;obtain⟨o,f⟩:=f;obtain⟨g,p,l,rfl,rfl,n,y,u⟩:=cY.Li r;exact m _ _ F f s ⟨[p],by simp,by simpa using n,g,p,l,rfl,rfl,rfl,y,af.Ew g o u⟩
 .obtain⟨x,q,N,p,rfl,_⟩:=aH (a2 (a2 k).1).1;rfl
theorem OV(i f:Nat)(c:List CE):cJ Φ Ψ G (.j3 i f c):=.mk1 (λd ex k R=>by cases k) (λb k a=>by cases k) (λS ex k=>by cases k) (λ_ _=>rfl)
theorem OW(i g f:Nat)(c:List CE):cJ Φ Ψ G (.CF i g f c):=.mk1 (λd ex k R=>by cases k) (λb k a=>by cases k) (λS ex k=>by cases k) (λ_ _=>rfl)
theorem OX(f:Nat){a:CE}{g:List CE}(J:cJ Φ Ψ G a)(C:pW Φ Ψ G g):cJ Φ Ψ G (.Ni f a g):=by
 refine .mk1 (λ{S X} c ex k R=>?_) (λ{S ex} P k h=>?_) (λS ex k=>by exact k) (λ_ _=>rfl)
 .obtain⟨x,q,j,p,rfl,i⟩:=aH k;simp only[AN]at i;obtain⟨⟨⟨⟨⟨B,A⟩,d⟩,z⟩,v⟩,b⟩:=i;obtain⟨N,L,T⟩:=bN c A;obtain⟨O,n,u,I,F,D,H⟩:=c.fns f x (P3.mp B) (by simpa using z);have F:cH X.prog X.w X.K X.mg X.base u O n (Lr X.K n .f (Φ f)):=by
   rw[<-c.B6]at d;cases E:Ψ f<;>rw[E]at d F<;>first|(cases d;done)|skip
   rename_i m
   cases m<;>first|exact F|exact ff d
  cases j with
  |nil=>exact ff b
  |cons e j=>rw[nI,AN]at b;have t:=jx b.2;have o:=J.e c e b.1 R;rw[c.B6,gX v]at o;rw[fk rfl,show wE Φ G R (.Ni f a g)=λl Q=>wE Φ G R a l λx=>wA Φ G R g l λs=>Φ f (x::s) (λr=>∃w y,r=.tup [w,y]/\Q w) R from rfl];exact Oo (M:=S.M) (R:=R) (p:=q) (pos:=p) F D N I H o (C.a c _ b.2 R) L (aI (bC (.inl b.1)) _ _) (bO t _ _)
 .obtain⟨x,q,j,p,rfl,i⟩:=aH k;rfl
theorem OY(i:Nat):cJ Φ Ψ G (.pop i):=.mk1 (λc ex k R=>by cases k) (λb k a=>by cases k) (λS ex k=>by cases k) (λ_ _=>rfl)
theorem OZ{o:List CE}(h:∀c∈o,cJ Φ Ψ G c):cJ Φ Ψ G (.jA o):=by
 refine⟨λ{S X} i ex k R=>?_,λ{S X} i ex k _ R=>?_,λ{S X} i tg br ex k _ R=>?_⟩
 .obtain⟨x,q,A,p,rfl,l⟩:=aH k;simp at l
 .obtain⟨x,q,A,p,rfl,l⟩:=aH k;simp at l
 .have E:eG S (.jA o) ex=false:=rfl;rw[E,dE,bj]at k;obtain⟨x,q,A,p,rfl,l⟩:=aH k;simp only[AN]at l;obtain⟨⟨⟨⟨⟨_,w⟩,D⟩,C⟩,z⟩,u⟩:=l;have w:=D1 w;subst w;obtain⟨y,H,F⟩:=bN i D;have hz:=i.yw _ (by simpa using C);rcases o with _|⟨a,_|⟨b,_|⟨c,_|⟨d,o⟩⟩⟩⟩
  .simp at z
  .obtain⟨e,r,rfl,j,n⟩:=fH u;cases pX n;exact IB (M:=S.M) (R:=R) (br:=br) (tg:=tg) (p:=q) (pos:=p) y hz ((h a FR).s i j R) (aI (bC (.inl j)) _ _)
  .obtain⟨e,r,rfl,j,n⟩:=fH u;obtain⟨f,r,rfl,m,t⟩:=fH n;cases pX t;exact IC (M:=S.M) (R:=R) (br:=br) (tg:=tg) (p:=q) (pos:=p) y hz ((h a (by simp)).s i j R) ((h b (by simp)).s i m R) (aI (bC (.inl j)) _ _) (aI (bC (.inl m)) _ _)
  .obtain⟨e,r,rfl,j,n⟩:=fH u;obtain⟨f,r,rfl,m,t⟩:=fH n;obtain⟨g,r,rfl,B,v⟩:=fH t;cases pX v;exact ID (M:=S.M) (R:=R) (br:=br) (tg:=tg) (p:=q) (pos:=p) y hz ((h a (by simp)).s i j R) ((h b (by simp)).s i m R) ((h c (by simp)).s i B R) (aI (bC (.inl j)) _ _) (aI (bC (.inl m)) _ _) (aI (bC (.inl B)) _ _)
  .simp at z
theorem lC{f:Expr->Bool}{a:List Expr}(h:uz f a=true):∃e,a=[e]/\f e=true:=fT h
theorem O2{a:CE}(n:cJ Φ Ψ G a):cJ Φ Ψ G (.sA a):=by
 refine⟨λ{S X} c ex k R=>?_,λ{S X} c ex k _ R=>?_,λ{S X} c s v ex k m R=>?_⟩
 .obtain⟨x,q,g,p,rfl,b⟩:=aH k;simp at b
 .obtain⟨x,q,g,p,rfl,b⟩:=aH k;simp at b
 .have l:eG S (.sA a) ex=false:=rfl;rw[l,dE,bj]at k;obtain⟨x,q,g,p,rfl,b⟩:=aH k;simp only[AN]at b;obtain⟨⟨⟨⟨_,f⟩,j⟩,i⟩,d⟩:=b;have f:=D1 f;subst f;obtain⟨e,rfl,d⟩:=lC d;obtain⟨o,u,t⟩:=bN c j;obtain⟨h,b,r,rfl⟩:=m rfl;exact NS o (c.yw _ (by simpa using i)) (jJ (n.e c e d R)) (aI (bC (.inl d)) _ _)
theorem O3{a:CE}(s:cJ Φ Ψ G a):cJ Φ Ψ G (.rev a):=by
 have r:∀{S:SE}{X:Cx},XOk S Φ Ψ G X->∀ex,aK S false (.rev a) ex=true->∀R,VE X S.M R (mo Ψ (.rev a)) ex (wE Φ G R (.rev a)):=λ{S X} d ex k R=>by obtain⟨x,q,h,p,rfl,c⟩:=aH k;have c:(decide (x=("list":Str))&&iZ S x&&S.zn.contains x&&uz (λv=>gU (λy h=>decide (y=("reversed":Str))&&iZ S y&&S.zn.contains y&&uz (λu=>aK S false a u||eG S a u) h) v) h)=true:=c;simp only[AN]at c;obtain⟨⟨⟨g,n⟩,m⟩,l⟩:=c;clear k c;have g:=D1 g;subst g;obtain⟨e,rfl,l⟩:=lC l;obtain⟨y,E,h,F,rfl,c⟩:=aH l;simp only[AN]at c;obtain⟨⟨⟨f,w⟩,t⟩,i⟩:=c;have f:=D1 f;subst f;obtain⟨u,rfl,i⟩:=lC i;obtain⟨o,C,B⟩:=bN d n;obtain⟨A,J,I⟩:=bN d w;rw[gX rfl];exact IA d.calm o (d.yw _ (by simpa using m)) A (d.yw _ (by simpa using t)) (s.b d i R) (aI (bC (gk i)) _ _)
 refine⟨r,λ{S X} d ex k _ R=>uq (λj=>?_) (BZ (r d ex k R)),λ{S X} d D K ex k H R=>?_⟩
 .obtain⟨x,q,h,p,rfl,c⟩:=aH k;rfl
 .have z:eG S (.rev a) ex=false:=rfl;rw[z,dE,bj]at k;obtain⟨x,q,h,p,rfl,c⟩:=aH k;have c:(decide (x=("reversed":Str))&&iZ S x&&S.zn.contains x&&uz (λv=>aK S false a v) h)=true:=c;simp only[AN]at c;obtain⟨⟨⟨g,n⟩,m⟩,f⟩:=c;have g:=D1 g;subst g;obtain⟨e,rfl,f⟩:=lC f;obtain⟨o,C,B⟩:=bN d n;exact NT o (d.yw _ (by simpa using m)) (jJ (s.e d e f R)) (aI (bC (.inl f)) _ _)
theorem pY{f:NameKind->NameKind}:∀(l:List (Str×NameKind))(y:Str),(l.map λp=>(p.1,f p.2)).lookup y=(l.lookup y).map f
 |[],_=>rfl
 |(n,k)::r,y=>by
  rw[L9,C2,C2];by_cases e:(y==n)=true
  .rw[e];rfl
  .rw[ej]at e;rw[e];exact pY r y
theorem uB{sc a b:Scope}{N d c:List Str}(h:∀x,a.names.lookup x=b.names.lookup x):dM sc a N d c=dM sc b N d c:=by unfold dM;simp only[h]
theorem Jj{S:SE}{X:Cx}(a:XOk S Φ Ψ G X){scope:Scope}{b:List Str}(e:dM scope X.env.scope X.N (mask b S.N) b=true)(g:(b++mask b S.N).Nodup){c:List (Addr×Obj)}{d:St}{H:Hp}{s:Shared}(I:Inv X c d H s)(C:Addr)(s0:Shared)(i:Hp)(h:List Addr):
 XOk (S.comp scope b) Φ Ψ G (aU X scope C b (mask b S.N) s0 i h):=by
 refine⟨rfl,g,a.calm,a.un,λx=>?_,a.fns,a.Lu,a.B6,a.Lv,a.yw,a.kit⟩;show(relabel scope X.env).names.lookup x=_;rw[gH I (gu.of e)];show _=(scope.names.map λp=>(p.1,if p.2=.free then NameKind.cell else p.2)).lookup x;rw[pY (f:=λk=>if k=.free then NameKind.cell else k)]
noncomputable def gy(X:Cx)(i:Nat)(x:Str):Prop:=X.N[i]?=some x/\Loc X.env.scope x/\(X.fn x=true\/X.env.scope.names.lookup x=some .local)
noncomputable def dS(X:Cx):List Nat->List Str->Prop
 |[],a=>a=[]
 |i::b,a=>∃x r,a=x::r/\gy X i x/\dS X b r
theorem Ly{X:Cx}(a:X.N.Nodup){i:Nat}{x:Str}{p:Pos}(h:gy X i x):PG X (.Name x p) (fK i):=GQ a h.1 h.2.1 h.2.2
theorem EY{X:Cx}(f:X.N.Nodup):∀(a:List Expr)(c:List Str)(b:List Nat),EU a=some c->dS X b c->Rw X a (TJ b)/\(assignEach a X.env).length=b.length/\(assignEach a X.env).findIdx? (·.1)=none
 |[],c,b,h,k=>by
  cases h;cases b with
  |nil=>exact⟨GR,rfl,rfl⟩
  |cons i d=>obtain⟨x,r,e,_⟩:=k;cases e
 |e::a,c,b,h,k=>by
  cases e with
  |Name x p=>
   obtain⟨l,n,rfl⟩:=Mo.mp h;cases b with
   |nil=>cases k
   |cons i d=>obtain⟨s,r,e,q,o⟩:=k;cases e;obtain⟨m,j,g⟩:=EY f a l d n o;have e:assignEach (.Name x p::a) X.env=(false,assign (.Name x p) X.env)::assignEach a X.env:=rfl;refine⟨C1 (Ly f q) m rfl,by rw[e,A6,j,A6],?_⟩;rw[e,List.findIdx?_cons,g];rfl
  |_=>exact nn h
theorem O4{X:Cx}(q:X.calm=true)(c:X.N.Nodup){tg:Expr}{one:Bool}{b:List Str}{a:List Nat}(h:T4 tg=some (one,b))(k:dS X a b):PG X tg (gT X.K one a):=by
 cases tg with
 |Name x p=>
  cases h
  match a,k with
  |[i],k=>obtain⟨g,r,e,f,d⟩:=k;cases e;exact Ly c f
  |[],k=>cases k
  |_::_::_,k=>obtain⟨g,r,e,f,d⟩:=k;cases e;obtain⟨u,v,t,_⟩:=d;cases t
 |Tuple s w p=>
  dsimp only[T4]at h;obtain⟨l,o,e⟩:=Mo.mp h;cases e;obtain⟨n,m,j⟩:=EY c s b a o k;have:gT X.K false a=Mh X.K a.length (TJ a):=by cases a<;>rfl
  rw[this];exact Mi q n m j
 |_=>exact nn h
theorem nM{X:Cx}:∀(a:List Str)(n:Nat),(∀k x,a[k]?=some x->gy X (n+k) x)->dS X ((Bn a.length).map (n+·)) a
 |[],n,_=>rfl
 |x::a,n,h=>by
  rw[A6,Vi,L9];refine⟨x,a,rfl,h 0 x rfl,?_⟩;have:=nM a (n+1) λk y b=>by have:=h (k+1) y (by simpa using b);rw[show n+1+k=n+(k+1) by lia];exact this
  rw[Qr];have e:(Bn a.length).map (n+1+·)=(Bn a.length).map ((n+·)∘Nat.succ):=Yf λk _=>by show n+1+k=n+(k+1);lia
  rw[<-e];exact this
theorem wN{a:Expr}(h:yv a=true)(env:Env)(x:Value):foldedSetIterable a env x=pure x:=by
 cases a<;>first|rfl|exact ff h
theorem AB{d:List Nat}{one:Bool}{n:Nat}{i c x:CE}{R:Addr->Prop}:wE Φ G R (.comp d one n i c x)=λb Q=>wE Φ G R i b λz=>items z λf=>mK (λw K=>wT one d w (A2 n none++b) λa=>wE Φ G (λ_=>False) c a λe=>truth e λk=>if k=true then wE Φ G (λ_=>False) x a λy=>K (some y)else K none) f [] λl=>Q (.lst l):=rfl
theorem sF{S:SE}{X:Cx}(w:XOk S Φ Ψ G X){l:List Nat}{one:Bool}{n:Nat}{en:Bool}{F:Expr->Bool}{J:SE->List Expr->Bool}{E:SE->Expr->Bool}{i tg c:Expr}{h:List Expr}{scope:Scope}(e:ly S l one n en F J E i tg c h scope=true):
 ∃a,n=a.length/\(∀j∈l,j<a.length)/\dM scope X.env.scope X.N (mask a S.N) a=true/\(∀z,foldedSetIterable c X.env z=pure z)/\(en=true->∃L k p,tg=Expr.Tuple L k p)/\F c=true/\J (S.comp scope a) h=true/\E (S.comp scope a) i=true/\
  ∀d s A H,Inv X d A H s->∀C s0 g f,PG (aU X scope C a (mask a S.N) s0 g f) tg (gT X.K one l)/\XOk (S.comp scope a) Φ Ψ G (aU X scope C a (mask a S.N) s0 g f):=by
 unfold ly at e;split at e;rotate_left
 .cases e
 rename_i o a O5
 simp only[AN]at e;obtain⟨⟨⟨⟨⟨⟨⟨⟨⟨r,q⟩,m⟩,T⟩,R⟩,Q⟩,D⟩,P⟩,M⟩,Z⟩:=e;have r:=P3.mp r;have q:=P3.mp q;have m:=P3.mp m;subst r q m;have v:=D1 R;have u:dM scope X.env.scope X.N (mask a S.N) a=true:=by rw[w.hN,uB (b:=S.sc) λy=>w.nk y];exact T
 have O:=gu.of u;refine⟨a,rfl,λj Y=>TK.mp Y,u,wN Q _,λz=>?_,P,M,Z,λd s A H I C s0 g f=>?_⟩
 .have:one=false:=by rw[z]at D;simpa using D
  subst this;cases tg with
  |Tuple L e p=>exact⟨_,_,_,rfl⟩
  |Name y p=>cases O5
  |_=>exact nn O5
 .have x:=Jj w u v I C s0 g f;refine⟨O4 x.calm x.nd O5 ?_,x⟩;have:=nM (X:=aU X scope C a (mask a S.N) s0 g f) a 0 λk y t=>?_
  .simpa using this
  .have U:y∈a:=Qb t;have B:(aU X scope C a (mask a S.N) s0 g f).env.scope.names.lookup y=some .local:=by show(relabel scope X.env).names.lookup y=_;rw[gH I O,(O.own y U).1];rfl
   refine⟨?_,.inl B,.inr B⟩;show(a++mask a S.N)[0+k]?=some y;rw[gL,KF (Fu.mp t).1];exact t
theorem pZ{J:List Nat}{one:Bool}{n:Nat}{i c x:CE}(hi:cJ Φ Ψ G i)(hc:cJ Φ Ψ G c)(hx:cJ Φ Ψ G x){S:SE}{X:Cx}(Y:XOk S Φ Ψ G X){ex:Expr}(k:aK S false (.comp J one n i c x) ex=true)(R:Addr->Prop):
 ∃y tg a u scope p d,ex=.ListComp y [⟨tg,a,u,0⟩] scope p/\n=d.length/\(∀j∈J,j<d.length)/\dM scope X.env.scope X.N (mask d S.N) d=true/\(∀z,foldedSetIterable a X.env z=pure z)/\PI X tg a (CG X S.M R true (wE Φ G R i))/\
  ∀g s B H,Inv X g B H s->(∀C s0 l o,PG (aU X scope C d (mask d S.N) s0 l o) tg (gT X.K one J))/\(∀C s0 l o,PF (aU X scope C d (mask d S.N) s0 l o) u (WW X.K (up S.M d.length) (wE Φ G (λ_=>False) c)))/\
   ∀C s0 l o,(XOk (S.comp scope d) Φ Ψ G (aU X scope C d (mask d S.N) s0 l o)/\aK (S.comp scope d) false x y=true)/\PE (aU X scope C d (mask d S.N) s0 l o) y (WV X.K (up S.M d.length) (wE Φ G (λ_=>False) x)):=by
 obtain⟨y,tg,a,u,scope,p,rfl,kk⟩:=mR k;obtain⟨d,rfl,O,ho,T,U,k8,m,Z,L⟩:=sF Y kk;refine⟨y,tg,a,u,scope,p,d,rfl,rfl,O,ho,T,hi.i Y tg true a (by rw[Zu];exact k8) U R,λg s B H I=>⟨λC s0 l o=>(L g s B H I C s0 l o).1,λC s0 l o=>?_,λC s0 l o=>?_⟩⟩
 .have F:=(L g s B H I C s0 l o).2
  match u,m with
  |[],m=>
   have m:Ls c=true:=m;cases c with
   |bl b=>have:b=true:=m;subst this;refine PF.imp xZ ?_;rintro B H Q ⟨A,l,D,P,E,h,k⟩;obtain⟨b,e,q⟩:=k _ H h (aq.refl H);cases e;exact q
   |_=>exact ff m
  |[f],m=>have m:(aK (S.comp scope d) false c f&&CH c)=true:=m;rw[AN]at m;exact PF.imp (ML (hc.t F f m.1 m.2 λ_=>False))<|by rintro B H Q ⟨A,l,D,P,E,h,k⟩;exact⟨A,l,D,P,E,.none,h,k⟩
  |_::_::_,m=>exact ff m
 .have F:=(L g s B H I C s0 l o).2;refine⟨⟨F,Z⟩,?_⟩;exact PE.imp (hx.s F Z λ_=>False)<|by rintro B H Q ⟨A,l,D,P,E,h,k⟩;exact⟨A,l,D,P,E,.none,h,λw v H' pw s r=>k w v H' pw s r.bI⟩
theorem Jk(o:List Nat)(one:Bool)(n:Nat){i c x:CE}(hi:cJ Φ Ψ G i)(B:cJ Φ Ψ G c)(w:cJ Φ Ψ G x):cJ Φ Ψ G (.comp o one n i c x):=by
 refine .mk1 (λ{S X} m ex k R=>?_) (λ{S ex} E k e=>?_) (λS ex k=>by exact k) (λ_ _=>rfl)
 .obtain⟨j,q,d,f,b,p,K,rfl,rfl,g,A,h,F,z⟩:=pZ hi B w m k R;rw[gX rfl];rw[AB];intro a s l H Q I y;obtain⟨v,u,t⟩:=z a s l H I;exact IE m.calm A g F v u (λC r J D=>(t C r J D).2) h a s l H Q I y
 .obtain⟨j,q,d,f,b,p,rfl,L⟩:=mR k;rfl
theorem O6:pW Φ Ψ G []:=by
 have en:∀{S:SE}{a:List Expr},f9 S [] a=true->a=[]:=λ{S a} h=>by exact IH.mp h
 have e:∀{S:SE}{a:List Expr},nK S [] a=true->a=[]:=λ{S a} h=>by exact IH.mp h
 refine⟨λd a k R=>?_,λd a k R=>?_,λd a b c k R=>absurd (en k) c,λd a b c k R=>absurd (en k) c,λd a b c k _ R=>absurd (en k) c,λd a b c k _ R=>absurd (en k) c⟩
 .rw[en k];exact NH
 .rw[e k];exact Ir
theorem Jl{a:CE}{m:List CE}(l:cJ Φ Ψ G a)(o:pW Φ Ψ G m):pW Φ Ψ G (a::m):=by
 have p:∀{S:SE}{j:List Expr},f9 S (a::m) j=true->∃e r,j=e::r/\aK S false a e=true/\f9 S m r=true:=λ{S j} h=>by
  cases j with
  |nil=>exact ff h
  |cons e r=>have h:=NM.mp h;exact⟨e,r,rfl,h.1,h.2⟩
 have w:∀R,wA Φ G R (a::m)=λv Q=>wE Φ G R a v λx=>wA Φ G R m v λy=>Q (x::y):=λR=>rfl;refine⟨λc j k R=>?_,λ{S X} c j k R=>?_,λ{S X} c j f q k R=>?_,λ{S X} c j f q k R=>?_,λ{S X} c j f q k i R=>?_,λ{S X} c j f q k i R=>?_⟩
 .obtain⟨e,r,rfl,g,d⟩:=p k;rw[w];exact Iq (aI (bC (.inl g)) _ _) (l.s c g R) (o.a c r d R)
 .cases j with
  |nil=>exact ff k
  |cons e r=>have k:=NM.mp k;rw[w];exact EC (aI (bC (gk k.1)) _ _) (l.b c k.1 R) (o.b c r k.2 R)
 .obtain⟨e,r,rfl,g,d⟩:=p k;cases m with
  |nil=>
   have:r=[]:=by exact IH.mp d
   subst this;exact CV (l.s c g R)
  |cons b u=>
   cases r with
   |nil=>exact ff d
   |cons n r=>exact NC (l.s c g R) (o.av c (n::r) f (by simp) d R)
 .obtain⟨e,r,rfl,g,d⟩:=p k;cases m with
  |nil=>
   have:r=[]:=by exact IH.mp d
   subst this;exact CV (l.s c g R)
  |cons b u=>
   cases r with
   |nil=>exact ff d
   |cons n r=>exact Tt (l.s c g R) (o.ov c (n::r) f (by simp) d R)
 .obtain⟨e,r,rfl,g,d⟩:=p k;have i:=a2 i;cases m with
  |nil=>
   have:r=[]:=by exact IH.mp d
   subst this;exact Ip (l.t c e g i.1 R)
  |cons b u=>
   cases r with
   |nil=>exact ff d
   |cons n r=>exact NF (l.t c e g i.1 R) (o.at c (n::r) f (by simp) d i.2 R)
 .obtain⟨e,r,rfl,g,d⟩:=p k;have i:=a2 i;cases m with
  |nil=>
   have:r=[]:=by exact IH.mp d
   subst this;exact ND (l.t c e g i.1 R)
  |cons b u=>
   cases r with
   |nil=>exact ff d
   |cons n r=>exact Tu (l.t c e g i.1 R) (o.ot c (n::r) f (by simp) d i.2 R)
variable(Φ Ψ G)
mutual
theorem snd:∀c:CE,cJ Φ Ψ G c
 |.var i=>OC i
 |.int i=>OE i
 |.bl b=>T8 b
 |.str x=>OG x
 |.aV=>OH
 |.Ib n=>OI n
 |.glob g=>Jg g
 |.bin op a b=>OJ op (snd a) (snd b)
 |.neg a=>OL (snd a)
 |.not a=>OM (snd a)
 |.cmp op a b=>ON op (snd a) (snd b)
 |.and d=>OO (mT d).1
 |.or d=>Ua (mT d).1
 |.ite c a b=>OP (snd c) (snd a) (snd b)
 |.tup d=>OQ (mT d).1
 |.lst d=>OR (mT d).1
 |.ix a i=>Uc (snd a) (snd i)
 |.sl a lo hi=>Ud (snd a) (snd lo) (snd hi)
 |.call f d=>Jh f (mT d).1
 |.blt b d=>OT b (mT d).1 (mT d).2
 |.bits a=>Ji (snd a)
 |.comp e one n i c x=>Jk e one n (snd i) (snd c) (snd x)
 |.jA d=>OZ (mT d).2
 |.sA a=>O2 (snd a)
 |.rev a=>O3 (snd a)
 |.Lj a st=>OS (snd a) (snd st)
 |.pop i=>OY i
 |.own i π=>OD i π
 |.j3 i f d=>OV i f d
 |.Ic h a=>OU h (snd a)
 |.CF i g f d=>OW i g f d
 |.Ni f a d=>OX f (snd a) (mT d).1
theorem mT:∀cs:List CE,pW Φ Ψ G cs/\∀c∈cs,cJ Φ Ψ G c
 |[]=>⟨O6,by simp⟩
 |c::cs=>⟨Jl (snd c) (mT cs).1,λd a=>by
  rcases GE.mp a with e|h
  .rw[e];exact snd c
  .exact(mT cs).2 d h⟩
end
end
noncomputable def Jm(S:SE)(i:Nat)(x:Str):Bool:=S.N[i]?==some x&&(S.nk.lookup x==some .local||S.nk.lookup x==some .cell)
noncomputable def B9(S:SE):List Nat->List Str->Bool
 |[],a=>a.isEmpty
 |i::b,a=>match a with
  |x::r=>Jm S i x&&B9 S b r
  |[]=>false
noncomputable def Jo(S:SE)(a:List Nat):Bool:=a.all λi=>!wD S.M i
noncomputable def SE.less(S:SE)(i:Nat):SE:={S with M:=S.M.filter (·.1 !=i)}
noncomputable def SE.bare(S:SE):SE:={S with M:=[]}
noncomputable def EZ:Expr->Bool
 |.Tuple _ _ _=>false
 |_=>true
noncomputable def E2:Expr->Bool
 |.ListComp _ _ _ _=>false
 |_=>true
noncomputable def QN(S:SE)(b vs:List Expr):Option (Option (List Str)):=
 if !(b.length==2||b.length==3)||vs.length !=b.length then some none
 else if vs.any λ|.Starred ..=>true|_=>false then some none
 else
  let line:=(b.head?.map (·.pos.line)).getD 0
  let a:=b.filterMap λ
   |.Name c pos=>if S.nk.lookup c==some .local&&pos.line==line then some c else none
   |_=>none
  if a.length !=b.length||a.eraseDups.length !=a.length then some none
  else if vs.all (foldedForSure 8)then some none
  else if vs.all (constantsAlone 8)then none
  else some (some a)
noncomputable def Ca(f:List Expr->Expr->Bool):Stmt->Bool
 |.Assign a v _=>f a v
 |_=>false
noncomputable def YD(f:Expr->List Stmt->List Stmt->Bool):Stmt->Bool
 |.While c a b _=>f c a b
 |_=>false
noncomputable def YE(f:Expr->Expr->List Stmt->List Stmt->Bool):Stmt->Bool
 |.For t i a b _=>f t i a b
 |_=>false
noncomputable def O7(f:Expr->Bool):Stmt->Bool
 |.Expr v _=>f v
 |_=>false
noncomputable def sG(f:Str->Pos->Expr->Bool):Stmt->Bool:=Ca λa v=>o1 (W7 λx p=>f x p v) a
noncomputable def Lz(f:List Expr->Expr->Bool):Stmt->Bool:=Ca λa v=>o1 (B5 λb=>f b v) a
noncomputable def LA(f:List Expr->List Expr->Bool):Stmt->Bool:=Ca λb v=>o1 (B5 λc=>B5 (λa=>f c a) v) b
noncomputable def LB(f:Expr->Expr->Expr->Bool):Stmt->Bool:=Ca λa v=>o1 (yt λo k=>f o k v) a
noncomputable def Ue(f:Expr->Str->Pos->Pos->Expr->Bool):Stmt->Bool:=O7 (wJ λg b k c=>k&&o1 (λv=>B4 (λo m a=>f o m a c v) g) b)
noncomputable def O8(n:Bool)(f:Expr->Bool):Stmt->Bool
 |.Return (some v) _=>f v
 |.Return none _=>n
 |_=>false
noncomputable def O9(f:Expr->List Stmt->List Stmt->Bool):Stmt->Bool
 |.If c a b _=>f c a b
 |_=>false
noncomputable def Pa(f:Expr->List Stmt->Bool):Stmt->Bool:=YD λc a b=>b.isEmpty&&f c a
noncomputable def Ug(f:Expr->Expr->List Stmt->Bool):Stmt->Bool:=YE λt i a b=>b.isEmpty&&f t i a
noncomputable def Xb:Stmt->Bool
 |.Break _=>true
 |_=>false
noncomputable def E3(f:Stmt->Bool)(g:List Stmt->Bool):List Stmt->Bool
 |e::a=>f e&&g a
 |[]=>false
mutual
noncomputable def QO:Md->Md->Bool
 |.s,m=>Jb m
 |.f,m=>QM m
 |.t a,m=>match m with
  |.t b=>Jp a b
  |_=>false
 |.o d a,m=>match m with
  |.o c b=>decide (d=c)&&Jp a b
  |_=>false
 |.io a,m=>match m with
  |.io b=>QO a b
  |_=>false
 |.ls a,m=>match m with
  |.ls b=>QO a b
  |_=>false
noncomputable def Jp:List Md->List Md->Bool
 |[],l=>l.isEmpty
 |a::d,l=>match l with
  |b::c=>QO a b&&Jp d c
  |[]=>false
end
mutual
theorem p6:∀{a b:Md},QO a b=true->a=b
 |.s,m,h=>by cases m<;>first|rfl|exact ff h
 |.f,m,h=>by cases m<;>first|rfl|exact ff h
 |.t a,m,h=>by
  cases m with
  |t b=>exact Pt _ (uC h)
  |_=>exact ff h
 |.o d a,m,h=>by
  cases m with
  |o c b=>have h:=NM.mp h;rw[D1 h.1,uC h.2]
  |_=>exact ff h
 |.io a,m,h=>by
  cases m with
  |io b=>exact Pt _ (p6 h)
  |_=>exact ff h
 |.ls a,m,h=>by
  cases m with
  |ls b=>exact Pt _ (p6 h)
  |_=>exact ff h
theorem uC:∀{a b:List Md},Jp a b=true->a=b
 |[],l,h=>by
  cases l with
  |nil=>rfl
  |cons b c=>exact ff h
 |a::d,l,h=>by
  cases l with
  |nil=>exact ff h
  |cons b c=>have h:=NM.mp h;rw[p6 h.1,uC h.2]
end
noncomputable def hasB(M:Ms)(i:Nat)(m:Md):Bool:=match M.lookup i with
 |some k=>QO k m
 |none=>false
theorem iH{M:Ms}{i:Nat}{m:Md}(h:hasB M i m=true):(i,m)∈M:=by
 unfold hasB at h;cases e:M.lookup i with
 |none=>rw[e]at h;exact ff h
 |some k=>rw[e]at h;rw[<-p6 h];exact jg e
noncomputable def LC(f:Expr->Str->List Expr->Bool):Expr->Bool:=wJ λg b k c=>k&&B4 (λo m a=>(a.endLine==c.line)&&decide (b.length<30)&&f o m b) g
mutual
noncomputable def gb(S:SE):CE->Expr->Bool
 |.pop i,e=>yu (λo m n k=>decide (m=("pop":Str))&&(n.endLine==k.line)&&qS S.M i&&j6 S i o) e
 |.j3 i f h,e=>gU (λx d=>S.fn[f]?==some x&&iZ S x&&!S.mt.any (·.1==f)&&(match fS S.md f with
  |.io m=>hasB S.M i m
  |_=>false)&&nI (λv=>j6 S i v) (λd=>lD S h d) d) e
 |.CF i g f h,e=>LC (λo x d=>S.fn[f]?==some x&&S.mt.any (λy=>y.1==f&&y.2==g)&&(match fS S.md f with
  |.io (.o j ms)=>hasB S.M i (.o j ms)&&!j.contains x
  |_=>false)&&j6 S i o&&lD S h d) e
 |.bin op a b,e=>EM (λo l r=>decide (op=o)&&gb S a l&&gb S b r) e
 |.cmp op a b,e=>EN (λo l r=>decide (op=o)&&!decide (op=.In)&&!decide (op=.NotIn)&&gb S a l&&gb S b r) e
 |.call f h,e=>gU (λx d=>S.fn[f]?==some x&&iZ S x&&!d.isEmpty&&!cW (fS S.md f)&&!S.mt.any (·.1==f)&&lD S h d) e
 |.blt b h,e=>gU (λx d=>decide (x=Vl b)&&iZ S x&&S.zn.contains x&&YB b d.length&&!decide (b=.GA)&&!d.isEmpty&&lD S h d) e
 |.ix a b,e=>yt (λv s=>Ay s&&gb S a v&&gb S b s) e
 |.lst h,e=>Jc (λd=>lD S h d) e
 |.and _,_=>false
 |c,e=>aK S false c e
noncomputable def lD(S:SE):List CE->List Expr->Bool
 |[],b=>b.isEmpty
 |a::c,b=>nI (λe=>gb S a e) (λb=>lD S c b) b
end
noncomputable def p7(S:SE):CE->Expr->Bool
 |.cmp op a b,e=>gb S (.cmp op a b) e
 |.j3 i f d,e=>gb S (.j3 i f d) e
 |.CF i g f d,e=>gb S (.CF i g f d) e
 |.call f d,e=>gb S (.call f d) e
 |.pop _,_=>false
 |.bin _ _ _,_=>false
 |.blt _ _,_=>false
 |.ix _ _,_=>false
 |.lst _,_=>false
 |.and _,_=>false
 |c,e=>aK S false c e&&CH c
noncomputable def wO(S:SE):List CE->List Expr->Bool
 |[],_=>false
 |a::f,c=>match f with
  |[]=>uz (λe=>p7 S a e) c
  |b::d=>nI (λe=>p7 S a e) (λc=>wO S (b::d) c) c
noncomputable def E4(S:SE):CE->Expr->Bool
 |.and b,e=>T3 (λo a=>decide (o=.And)&&wO S b a) e
 |c,e=>p7 S c e
noncomputable def YF:Md->Bool
 |.s=>true
 |_=>false
noncomputable def Xc(a:Nat->Md):CE->Md
 |.tup b=>.t (b.map (mo a))
 |.call f _=>a f
 |c=>mo a c
noncomputable def isVar:CE->Option Nat
 |.var i=>some i
 |_=>none
noncomputable def Uh(S:SE)(m:Md)(e:CE)(v:Expr):Bool:=match isVar e with
 |some i=>hasB S.M i m&&j6 S i v
 |none=>false
noncomputable def Ui(S:SE)(a:Nat->Md)(m:Md)(e:CE)(v:Expr):Bool:=
 !cW m&&((YF m&&(aK S.bare false e v||aK S false e v))||(QO (Xc a e) m&&aK S.bare false e v)||Uh S m e v)
noncomputable def Pb(S:SE)(m:Md):Bool:=match m with
 |.io k=>hasB S.M 0 k
 |_=>false
noncomputable def LD(f:Expr->Str->Expr->Bool):Stmt->Bool:=Ca λa v=>o1 (B4 λo x _=>f o x v) a
noncomputable def isCall:CE->Bool
 |.call _ _=>true
 |_=>false
noncomputable def Pd(S:SE)(i n:Nat)(x:Str):Bool:=match S.M.lookup i with
 |some (.o b a)=>b[n]?==some x&&(match a[n]? with
  |some k=>Jb k
  |none=>false)
 |_=>false
noncomputable def YG(S:SE)(a:List Nat)(one e:Bool)(f:Expr->Bool)(g:List Stmt->Bool)(tg c:Expr)(b:List Stmt):Bool:=
 match T4 tg with
 |some (o,d)=>(one==o)&&B9 S a d&&Jo S a&&yv c&&(!e||!one)&&f c&&g b
 |none=>false
noncomputable def yz:Expr->Bool
 |.SetComp _ _ _ _=>false
 |.DictComp _ _ _ _ _=>false
 |_=>true
mutual
noncomputable def Jq(S:SE)(f:Nat->Md)(m:Md):CS->Stmt->Bool
 |.set i e,st=>sG (λx _ v=>Jm S i x&&(if wD S.M i=true then(!cW m||!(i==0))&&((qS S.M i&&iG f e)||(isCall e&&hasB S.M i (Xc f e)))&&aK (S.less i) false e v else aK S false e v)) st
 |.Er g e,st=>Lz (λr v=>(match EU r with|some q=>B9 S g q|none=>false)&&Jo S g&&aK S false e v&&(EZ v||B5 (λvs=>decide (QN S r vs=some none)) v)) st
 |.par g r,st=>LA (λtg vs=>(match EU tg with|some q=>B9 S g q&&decide (QN S tg vs=some (some q))&&decide q.Nodup&&q.all (λx=>S.nk.lookup x==some .local)|none=>false)&&Jo S g&&f9 S r vs) st
 |.app i e,st=>Ue (λo u A w v=>decide (u=("append":Str))&&(A.endLine==w.line)&&qS S.M i&&j6 S i o&&aK S false e v) st
 |.put i k e,st=>LB (λo j v=>qS S.M i&&j6 S i o&&Ay j&&aK S false k j&&aK S false e v) st
 |.drop i,st=>O7 (λv=>E2 v&&yz v&&gb S (.pop i) v) st
 |.j4 j e,st=>sG (λx _ v=>Jm S j x&&!wD S.M j&&E2 v&&yz v&&gb S e v) st
 |.ret e,st=>O8 (jI e&&YF m) (λv=>Ui S f m e v) st
 |.iff c a b,st=>O9 (λt x y=>aK S false c t&&CH c&&cM S f m a x&&cM S f m b y) st
 |.Ag c b,st=>Pa (λt x=>aK S false c t&&CH c&&cM S f m b x) st
 |.fr g one s b,st=>Ug (λtg i x=>YG S g one (wL s) (λi=>aK S true s i) (λx=>cM S f m b x) tg i x) st
 |.brk,st=>Xb st
 |.BW i n e,st=>LD (λo x v=>Pd S i n x&&j6 S i o&&aK S false e v) st
 |.Ah e,st=>O8 (jI e&&Pb S m) (λv=>Pb S m&&aK S false e v) st
 |.QH c a b,st=>O9 (λt x y=>E4 S c t&&cM S f m a x&&cM S f m b y) st
 |.QI c b,st=>Pa (λt x=>E4 S c t&&cM S f m b x) st
 |.S9,_=>true
 |.Tc i s e,st=>sG (λx _ v=>Jm S i x&&qS S.M i&&(!cW m||!(i==0))&&!wL s&&EO (λp tg d l h=>ly (S.less i) [0] true 1 false (λd=>aK (S.less i) true s d) (λ_ l=>l.isEmpty) (λB p=>gb B e p) p tg d l h) v) st
 |.Td i z,st=>sG (λx _ v=>Jm S i x&&qS S.M i&&(!cW m||!(i==0))&&Jc (λr=>lD (S.less i) z r) v) st
 |.Nj i j,st=>sG (λx _ v=>Jm S i x&&j6 S j v&&qS S.M i&&qS S.M j&&(!cW m||!(i==0))&&decide (i≠j)) st
 |.GB _ _,_=>false
noncomputable def cM(S:SE)(d:Nat->Md)(m:Md):List CS->List Stmt->Bool
 |[],c=>c.isEmpty
 |a::g,c=>match a with
  |.GB f b=>g.isEmpty&&(!cW m||!f.contains 0)&&cM (S.lend f) d m b c
  |a=>E3 (λe=>Jq S d m a e) (λc=>cM S d m g c) c
end
structure wQ(S:SE)(Φ:Nat->bD)(Ψ:Nat->Md)(G:Nat->W)(X:Cx):Prop extends XOk S Φ Ψ G X where
 bk:X.env.blockKind=.function
 QS:∀x,X.fn x=true
 E5:∀j x C,S.gn[j]?=some x->G j=.cls C->Wg X.K C
 E6:∀i m m',(i,m)∈S.M->(i,m')∈S.M->m=m'
section
variable{S:SE}{Φ:Nat->bD}{Ψ:Nat->Md}{G:Nat->W}{X:Cx}
theorem wQ.m9(h:wQ S Φ Ψ G X):wQ S Φ Ψ G X.m9:={toXOk:=h.toXOk.m9,bk:=h.bk,QS:=h.QS,E5:=h.E5,E6:=h.E6}
theorem XOk.nV(h:XOk S Φ Ψ G X)(M:Ms):XOk {S with M:=M} Φ Ψ G X:=⟨h.hN,h.nd,h.calm,h.un,h.nk,h.fns,h.Lu,h.B6,h.Lv,h.yw,h.kit⟩
theorem j8(h:wQ S Φ Ψ G X){i:Nat}{x:Str}(k:Jm S i x=true):gy X i x:=by unfold Jm at k;simp only[AN,oI,P3]at k;refine⟨by rw[h.hN];exact k.1,?_,.inl (h.QS x)⟩;unfold L2.Loc;rw[h.nk];exact k.2
theorem oq(h:wQ S Φ Ψ G X):∀{b:List Nat}{a:List Str},B9 S b a=true->dS X b a
 |[],a,k=>IH.mp k
 |i::c,[],k=>by cases k
 |i::c,x::r,k=>by rw[B9,AN]at k;exact⟨x,r,rfl,j8 h k.1,oq h k.2⟩
theorem uD{a:List Nat}(h:Jo S a=true):∀i∈a,¬aL S.M i:=λi b=>kY (by simpa using Kj.mp h i b)
theorem p8{i:Nat}{m:Md}(hi:(i,m)∈S.M)(d:∀c,(i,c)∈S.M->c=m){x:Nat×Md}:x∈S.M↔x=(i,m)\/x∈(S.less i).M:=by
 show _↔_\/x∈S.M.filter (·.1 !=i);rw[U2,bne_iff_ne];obtain⟨a,b⟩:=x;constructor
 .intro h;by_cases e:a=i
  .subst e;rw[d b h];exact .inl rfl
  .exact .inr ⟨h,e⟩
 .rintro(e|h)
  .cases e;exact hi
  .exact h.1
theorem p9{i:Nat}:¬aL (S.less i).M i:=by rintro⟨m,h⟩;have h:(i,m)∈S.M.filter (·.1 !=i):=h;rw[U2,bne_iff_ne]at h;exact h.2 rfl
noncomputable def AD:Expr->Bool
 |.SetComp _ _ _ _=>false
 |.DictComp _ _ _ _ _=>false
 |_=>true
theorem Pe{b:Bool}{c:CE}{e:Expr}(h:aK S b c e=true):AD e=true:=by
 cases e with
 |SetComp _ _ _ _=>
  cases c with
  |own i a=>rcases(fG h).2 with⟨_,_,_,e⟩|⟨_,_,_,_,_,e⟩<;>cases e
  |_=>exact ff h
 |DictComp _ _ _ _ _=>
  cases c with
  |own i a=>rcases(fG h).2 with⟨_,_,_,e⟩|⟨_,_,_,_,_,e⟩<;>cases e
  |_=>exact ff h
 |_=>rfl
noncomputable def Vm(S:SE)(x:Str)(p:Pos):Expr->Bool
 |.ListComp _ _ scope q=>(S.nk.lookup x==some .local)&&(p.line==q.line)&&!(scope.names.any λ(n,k)=>n==x&&(k==.local||k==.cell))
 |_=>false
theorem LF(h:wQ S Φ Ψ G X){e:Expr}(c:AD e=true)(x:Str)(p:Pos)(l:Nat):swapsWith e (some (.Name x p)) l X.env=pure (Vm S x p e):=by
 cases e with
 |ListComp a b scope q=>show(pure _:Sem Bool)=pure _;rw[h.bk];show(pure (true&&(X.env.scope.names.lookup x==some .local)&&(p.line==q.line)&&_):Sem Bool)=_;rw[h.nk,Zu];rfl
 |SetComp _ _ _ _=>exact ff c
 |DictComp _ _ _ _ _=>exact ff c
 |_=>rfl
theorem Jr{e:Expr}{a:List Expr}{k:Nat}{p:Pos}(l:Nat)(env:Env):swapsWithSole [.Tuple a k p] e l env=pure false:=by
 cases e<;>rfl
theorem E7{e o i:Expr}{p:Pos}(l:Nat)(env:Env):swapsWithSole [.Subscript o i p] e l env=pure false:=by
 cases e<;>rfl
theorem Js{e:Expr}(a:EZ e=true)(b:List Expr)(k:Nat)(p:Pos)(env:Env):swappedStores [.Tuple b k p] e env=pure none:=by
 cases e<;>first|rfl|exact ff a
theorem E8{e o i:Expr}{p:Pos}(env:Env):swappedStores [.Subscript o i p] e env=pure none:=by
 cases e<;>rfl
theorem E9(h:wQ S Φ Ψ G X){a vs:List Expr}{k k2:Nat}{p p2:Pos}{o:Option (List Str)}(e:QN S a vs=some o):swappedStores [.Tuple a k p] (.Tuple vs k2 p2) X.env=pure o:=by
 delta swappedStores
 unfold QN at e;have b:∀x,X.env.kindOf x=S.nk.lookup x:=λx=>h.nk x;simp only[b,h.bk,bne_self_eq_false,bj];dsimp only at e;split at e
 .rename_i c
  cases e;exact Bi c
 rename_i c1
 refine(BM c1).trans ?_;split at e
 .rename_i c
  cases e;exact Bi c
 rename_i c2
 refine(BM c2).trans ?_;split at e
 .rename_i c
  cases e;exact Bi c
 rename_i c3
 refine(BM c3).trans ?_;split at e
 .rename_i c
  cases e;exact Bi c
 rename_i c4
 refine(BM c4).trans ?_;split at e
 .cases e
 rename_i c5
 cases e;exact BM c5
end
theorem jh{f:List Expr->Expr->Bool}{e:Stmt}(h:Ca f e=true):∃a v q,e=.Assign a v q/\f a v=true:=by cases e<;>first|exact⟨_,_,_,rfl,h⟩|exact ff h
theorem Jt{f:Expr->List Stmt->List Stmt->Bool}{e:Stmt}(h:YD f e=true):∃c a b q,e=.While c a b q/\f c a b=true:=by cases e<;>first|exact⟨_,_,_,_,rfl,h⟩|exact ff h
theorem Ju{f:Expr->Expr->List Stmt->List Stmt->Bool}{e:Stmt}(h:YE f e=true):∃t i a b q,e=.For t i a b q/\f t i a b=true:=by cases e<;>first|exact⟨_,_,_,_,_,rfl,h⟩|exact ff h
theorem wR{f:Expr->Bool}{st:Stmt}(h:O7 f st=true):∃v q,st=.Expr v q/\f v=true:=by cases st<;>first|exact⟨_,_,rfl,h⟩|exact ff h
theorem gY{f:Str->Pos->Expr->Bool}{st:Stmt}(h:sG f st=true):∃x p v q,st=.Assign [.Name x p] v q/\f x p v=true:=by obtain⟨d,v,q,rfl,c⟩:=jh h;obtain⟨t,rfl,b⟩:=fT c;obtain⟨x,p,rfl,a⟩:=Av b;exact⟨_,_,_,_,rfl,a⟩
theorem Cb{f:List Expr->Expr->Bool}{st:Stmt}(h:Lz f st=true):∃a k p v q,st=.Assign [.Tuple a k p] v q/\f a v=true:=by obtain⟨e,v,q,rfl,d⟩:=jh h;obtain⟨t,rfl,c⟩:=fT d;obtain⟨a,k,p,rfl,b⟩:=fU c;exact⟨_,_,_,_,_,rfl,b⟩
theorem Ce{f:List Expr->List Expr->Bool}{st:Stmt}(h:LA f st=true):∃a k p vs c b q,st=.Assign [.Tuple a k p] (.Tuple vs c b) q/\f a vs=true:=by obtain⟨j,v,q,rfl,i⟩:=jh h;obtain⟨t,rfl,g⟩:=fT i;obtain⟨a,k,p,rfl,e⟩:=fU g;obtain⟨vs,c,b,rfl,d⟩:=fU e;exact⟨_,_,_,_,_,_,_,rfl,d⟩
theorem Cf{f:Expr->Expr->Expr->Bool}{st:Stmt}(h:LB f st=true):∃o k p v q,st=.Assign [.Subscript o k p] v q/\f o k v=true:=by obtain⟨d,v,q,rfl,c⟩:=jh h;obtain⟨t,rfl,b⟩:=fT c;obtain⟨o,k,p,rfl,a⟩:=dZ b;exact⟨_,_,_,_,_,rfl,a⟩
theorem Fb{f:Expr->Str->Pos->Pos->Expr->Bool}{st:Stmt}(h:Ue f st=true):∃o m c v b q,st=.Expr (.Call (.Attribute o m c) [v] [] b) q/\f o m c b v=true:=by obtain⟨v,q,rfl,n⟩:=wR h;obtain⟨g,s,r,p,rfl,l⟩:=jw n;obtain⟨k,j⟩:=a2 l;obtain⟨e,rfl,i⟩:=fT j;obtain⟨o,m,a,rfl,d⟩:=gW i;rw[IH.mp k];exact⟨_,_,_,_,_,_,rfl,d⟩
theorem wU{n:Bool}{f:Expr->Bool}{st:Stmt}(h:O8 n f st=true):(∃v q,st=.Return (some v) q/\f v=true)\/∃q,st=.Return none q/\n=true:=by
 cases st<;>try exact ff h
 rename_i v q
 cases v
 .exact .inr ⟨_,rfl,h⟩
 .exact .inl ⟨_,_,rfl,h⟩
theorem wV{f:Expr->List Stmt->List Stmt->Bool}{st:Stmt}(h:O9 f st=true):∃c a b q,st=.If c a b q/\f c a b=true:=by
 cases st<;>try exact ff h
 exact⟨_,_,_,_,rfl,h⟩
theorem wX{f:Expr->List Stmt->Bool}{st:Stmt}(h:Pa f st=true):∃c a q,st=.While c a [] q/\f c a=true:=by obtain⟨c,a,b,q,rfl,e⟩:=Jt h;obtain⟨k,d⟩:=a2 e;rw[IH.mp k];exact⟨_,_,_,rfl,d⟩
theorem Fc{f:Expr->Expr->List Stmt->Bool}{st:Stmt}(h:Ug f st=true):∃tg c a q,st=.For tg c a [] q/\f tg c a=true:=by obtain⟨t,i,a,b,q,rfl,e⟩:=Ju h;obtain⟨k,d⟩:=a2 e;rw[IH.mp k];exact⟨_,_,_,_,rfl,d⟩
section
variable{X:Cx}{M:Ms}{m:Md}{st:Stmt}{i j k:Nat}{e:Expr}{te:(Addr->Prop)->WT}{M':Ms}{m0:Md}
theorem Jv{x y z:Str}{a b c:Expr}{ta:TA}{Q P O R pos:Pos}{S k2 Y}(hc:X.calm=true)(L:X.N.Nodup)(hi:X.N[i]?=some x)(hj:X.N[j]?=some y)(hk:X.N[k]?=some z)(K:i≠j)(J:i≠k)(G:j≠k)
 (U:X.env.scope.names.lookup x=some .local)(T:X.env.scope.names.lookup y=some .local)(hz:X.env.scope.names.lookup z=some .local)(ha:PA X [a,b,c] ta)
 (hw:swappedStores [.Tuple [.Name x Q,.Name y P,.Name z O] S R] (.Tuple [a,b,c] k2 Y) X.env=pure (some [x,y,z])):
 PS X (.Assign [.Tuple [.Name x Q,.Name y P,.Name z O] S R] (.Tuple [a,b,c] k2 Y) pos) (λD f H=>ta f H λvs H1=>∃v w u,vs=[v,w,u]/\D.nx (((f.set i (some v)).set j (some w)).set k (some u)) H1):=by
 intro d s f H D I h;rw[exec_Assign_arm];refine Hb (w8 ?_);refine Hb (Pm ?_);rw[BM (by decide)];refine Hb (Tuple_ (bV (ha _ d s f H _ I h) λus r ⟨vs,H1,I1,r1,B⟩=>?_));obtain⟨v,w,u,e1,B⟩:=B;subst e1;obtain⟨n,l,g,rfl,rv,t,ru⟩:∃n l g,us=[n,l,g]/\RelV v n/\RelV w l/\RelV u g:=by
  cases r1 with
  |cons p q=>
   cases q with
   |cons p' q'=>
    cases q' with
    |cons E C=>
     cases C;exact⟨_,_,_,rfl,p,p',E⟩
 refine wpAny_newObj_type ?_ (by show 3<=sizeLine;decide);have I2:Inv X d f H1 {r with heap:=r.heap.push {cls:=.type "tuple",data:=.seq [n,l,g].toArray}}:=I1.kept (t':=r.toks) λb o e=>Da _ e;rw[hw];refine Hb (Pm ?_);show wpAny (model X.prog X.w) X.A (do rule "assign.swapped-stores";let items<-unpackItems (.ref r.heap.objs.size) 3 none;assignInOrder [λv=>bindName X.env z v,λv=>bindName X.env y v,λv=>bindName X.env x v] items.reverse;pure Flow.next) _ _ _;refine Hb (wpAny_rule (Hb (unpackItems_tuple (items:= #[n,l,g]) (I.ok.hd hc) (IsTup.new r.heap _) λh' F=>?_)));have I3:=I2.kept (h':=h') (t':=r.toks) λb o e=>F b o (On (Fm e)) e;show wpAny _ _ (assignInOrder [λv=>bindName X.env z v,λv=>bindName X.env y v,λv=>bindName X.env x v] [g,l,n]>>=λ_=>pure Flow.next) _ _ _;refine Hb (js (t5 (fJ I3 L hk (.inl hz) ru (λs2 I4=>?_) (.inr hz))));refine js (t5 (fJ I4 L hj (.inl T) t (λs3 I5=>?_) (.inr T)));refine js (t5 (fJ I5 L hi (.inl U) rv (λs4 Z=>assignInOrder_nil (Pm ?_)) (.inr U)));have e6:((f.set k (some u)).set j (some w)).set i (some v)=((f.set i (some v)).set j (some w)).set k (some u):=by rw[L5 _ _ (SC G),L5 _ _ (SC J),L5 _ _ (SC K)]
 rw[e6]at Z;exact⟨_,H1,Z,B⟩
theorem Jw(c:∀R,PS X st (lY (tV X M R (Np X.K .s) (te R)) (fK i)))(hi:¬aL M i):VS X M m st (λd b=>te d.ex b λw=>d.nx (b.set i (some w))):=by rintro a s f H D I ⟨A,p,b,d,S,n,hz,h,k⟩;refine c d.ex a s f H D I ⟨A,p,b,_,S,n,h,λw v o l g r=>?_⟩;exact k.nx A _ _ o rfl rfl l ((S.same g).set hi r.bI)
theorem Fd(c:∀R,PS X st (lY (tV X M' R (Np X.K m0) (te R)) (fK i)))(g:∀x,x∈M↔x=(i,m0)\/x∈M')(hi:¬aL M' i)(f:cW m=true->i≠0):VS X M m st (λd b=>te d.ex b λw=>d.nx (b.set i (some w))):=by
 rintro a s n H D I ⟨A,O,b,d,S,C,hz,h,k⟩;have B:∀v,A.s0=some v->A.s0=some v/\aL M' 0:=λv e=>by
  refine⟨e,?_⟩;have u:cW m=true:=by rw[<-hz,e];rfl
  obtain⟨p,y⟩:=(S.sl v e).2;rcases(g _).mp y with z|z
  .cases z;exact(f u rfl).elim
  .exact⟨p,z⟩
 obtain⟨Q,F,E,T,l⟩:=S.sub (M':=M') (λx q=>(g x).mpr (.inr q)) A.s0 B;refine c d.ex a s n H D I ⟨Q,O,b,_,l,C,h,λw v N t o r=>?_⟩;obtain⟨P,J,G,_,L⟩:=l.own g hi o r;exact k.nx P _ _ N (J.trans F) (G.trans E) t L
theorem Jx{pos:Pos}:VS X M .s (.Return none pos) (λd c=>d.rt .aV):=by rintro a s b H D I ⟨A,g,c,d,S,f,hz,h,k⟩;exact zh a s b H D I (k.rt _ _ H h S.sm (.of rfl (.of (by dsimp only[Rep]))))
end
theorem sH{f:Expr->Str->List Expr->Bool}{e:Expr}(h:LC f e=true):∃o m a b c,e=.Call (.Attribute o m a) b [] c/\f o m b=true/\(a.endLine==c.line)=true/\b.length<30:=by obtain⟨g,b,n,p,rfl,l⟩:=jw h;obtain⟨k,j⟩:=a2 l;obtain⟨o,m,a,rfl,i⟩:=gW j;rw[IH.mp k];have d:=a3 i;exact⟨_,_,_,_,_,rfl,d.2,d.1.1,D1 d.1.2⟩
theorem sI{y x:Str}{c a pos:Pos}{b:List Expr}{env:Env}(e:(backTo pos (starEach b env)).any (·.1)=false)(h:b.length<30)(d:(a.endLine==pos.line)=true):
 eval (.Call (.Attribute (.Name y c) x a) b [] pos) env=(do
  let ov<-eval (.Name y c) env
  standAt a.atName
  let(f,first)<-holding [ov] (getMethod ov x (do return (<-importBound (.Name y c) env).getD true))
  callWith pos f first (backTo pos (starEach b env)) (backToKw pos (keywordEach [] env))):=by
 have j:methodCallForm (b.length+([]:List Keyword).length) (backTo pos (starEach b env)) (backToKw pos (keywordEach [] env))=true:=by
  unfold methodCallForm;have i:(backTo pos (starEach b env)).all (λx=>!x.1)=true:=by rw[Kj];intro z hz;rw[YQ]at e;simpa using e z hz
  rw[i];show(true&&true&&decide (b.length+0+0<30))=true;simpa using h
 have g:methodCallPos true (.Name y c) env a pos=pure pos:=by unfold methodCallPos;simp[d]
 rw[arm_eval_Call,show attributeBase (.Name y c) x env (eval (.Name y c) env)=eval (.Name y c) env from rfl];unfold methodCall;rw[j,g];rfl
theorem Cg{f:Expr->Str->Expr->Bool}{st:Stmt}(h:LD f st=true):∃o x p v q,st=.Assign [.Attribute o x p] v q/\f o x v=true:=by obtain⟨d,v,q,rfl,c⟩:=jh h;obtain⟨t,rfl,b⟩:=fT c;obtain⟨o,x,p,rfl,a⟩:=gW b;exact⟨_,_,_,_,_,rfl,a⟩
noncomputable def Fe(X:Cx)(M:Ms)(R:Addr->Prop)(ms:List Md)(t:Ev->(List W->Prop)->Prop):TA:=λf H Q=>∃A e b P,SR X.K M A e f H b/\ER X e R/\t b P/\∀c d a F,P c->aq H a->F.Nodup->(∀p∈F,H p=none)->eY X.K (λq=>A.B q\/q∈F) a ms c d F->Q d a
section
variable{X:Cx}{M:Ms}{R:Addr->Prop}{a:Expr}{es:List Expr}{ta:WT}{m:Md}{ms:List Md}{pos:Pos}
theorem Jy:PA X [] (Fe X M R [] λ_ Q=>Q []):=PA.imp dJ<|by rintro b H Q ⟨A,e,c,P,S,d,h,k⟩;exact k [] [] H [] h (aq.refl H) mN (by simp) (by dsimp only[eY];exact⟨rfl,rfl,rfl⟩)
theorem Ff{r:Ev->(List W->Prop)->Prop}(I:starEach (a::es) X.env=(false,eval a X.env)::starEach es X.env)(K:VE X M R m a ta)(J:PA X es (Fe X M R ms r)):PA X (a::es) (Fe X M R (m::ms) λc Q=>ta c λx=>r c λf=>Q (x::f)):=
 PA.imp (bG K J I)<|by
  rintro T H Q ⟨A,w,c,P,S,v,h,k⟩;refine⟨A,w,c,_,S,v,h,λx y O E g C=>?_⟩;obtain⟨G,D,t,u⟩:=C;have d:∀q∈G,∃o,O q=some o:=λq l=>let⟨o,e,_⟩:=Fp.mu m u q l;⟨o,e⟩
  refine⟨_,w,c,_,S.more g t d,v,E,λf B N F j s i n L=>?_⟩;refine k _ _ N (G++F) j (g.trans s) ?_ (λp b=>?_) ?_
  .refine QC.mpr ⟨D,i,λp b q l e=>?_⟩;subst e;obtain⟨o,e⟩:=d p b;rw[n p l]at e;cases e
  .rcases KE.mp b with b|b
   .exact t p b
   .exact g.free (n p b)
  .refine⟨x,f,y,B,G,F,rfl,rfl,rfl,Fp.mv s (λp o e z=>?_) m u,eY.mv (aq.refl _) (λp o e z=>?_) ms L⟩
   .rcases z with z|z
    .exact .inl z
    .rcases KE.mp z with z|z
     .exact .inr z
     .rw[n p z]at e;cases e
   .rcases z with z|z
    .exact .inl (.inl z)
    .rcases KE.mp z with z|z
     .exact .inl (.inr z)
     .exact .inr z
theorem Jz{e:Ev->(List W->Prop)->Prop}{j:Nat}(h:PA X es (Fe X M R ms e)):VE X M R (.t ms) (.Tuple es j pos) (λd Q=>e d λb=>b.length<=sizeLine/\Q (.tup b)):=PE.imp (C9 h)<|by
 rintro E H Q ⟨A,D,d,P,S,y,h,k⟩;refine⟨A,D,d,_,S,y,h,λb c C F g n q o i=>?_⟩;have u:∀(ms:List Md){b:List W}{c:List V}{F:List Addr}{B:Addr->Prop},eY X.K B C ms b c F->c.length=b.length:=λms=>by
  induction ms with
  |nil=>intro b c F B h;dsimp only[eY]at h;rw[h.1,h.2.1];rfl
  |cons m ms r=>intro b c F B h;obtain⟨w,G,v,l,J,I,rfl,rfl,_,_,x⟩:=h;rw[A6,A6,r x]
 refine⟨by rw[u ms i];exact g.1,λp s=>?_⟩;have f:=aP s (.tup c);refine k _ _ _ g.2 (n.trans f) ⟨F,q,o,?_⟩;exact⟨b,p,c,rfl,rfl,aF,eY.mv f (λ_ _ _ z=>z) ms i⟩
end
noncomputable def fV(b:Nat->bD)(a:Nat->Md)(G:Nat->W)(s:CS):Prop:=∀{S:SE}{X:Cx}{m:Md},wQ S b a G X->∀c,Jq S a m s c=true->VS X S.M m c (wS b G s)
noncomputable def gZ(b:Nat->bD)(a:Nat->Md)(G:Nat->W)(s:List CS):Prop:=∀{S:SE}{X:Cx}{m:Md},wQ S b a G X->∀c,cM S a m s c=true->As X S.M m c (wSs b G s)
section
variable{Φ:Nat->bD}{Ψ:Nat->Md}{G:Nat->W}
theorem wQ.nV{S:SE}{X:Cx}(h:wQ S Φ Ψ G X)(M:Ms)(b:∀i m a,(i,m)∈M->(i,a)∈M->m=a):wQ {S with M:=M} Φ Ψ G X:={toXOk:=h.toXOk.nV M,bk:=h.bk,QS:=h.QS,E5:=h.E5,E6:=b}
theorem Fg{S:SE}{X:Cx}(b:XOk S Φ Ψ G X){f:Nat}{i:List CE}{v:Expr}(k:aK S false (.call f i) v=true)(R:Addr->Prop):VE X S.M R (Ψ f) v (wE Φ G R (.call f i))/\∃g c p,v=.Call g c [] p:=by
 obtain⟨x,q,c,p,rfl,j⟩:=aH k;simp only[AN]at j;obtain⟨⟨⟨⟨⟨t,s⟩,r⟩,h⟩,o⟩,l⟩:=j;obtain⟨C,B,E⟩:=bN b s;obtain⟨D,n,m,A,F,u,z⟩:=b.fns f x (P3.mp t) (by simpa using o);have F:cH X.prog X.w X.K X.mg X.base m D n (Lq X.K n (Ψ f) (Φ f)):=by rw[<-b.B6]at h;cases y:Ψ f<;>rw[y]at h F<;>first|exact F|exact ff h
 have d:=jx l;cases c with
 |nil=>exact ff r
 |cons e c=>rw[G1,AN]at d;refine⟨?_,_,_,_,rfl⟩;exact Aq (M:=S.M) (R:=R) (p:=q) (pos:=p) F u C A z ((mT Φ Ψ G i).1.a b _ l R) B (aI d.1 _ _) (bO d.2 _ _)
theorem Fi{S:SE}{X:Cx}(d:XOk S Φ Ψ G X):∀(b:List CE)(c:List Expr),f9 S b c=true->∀R,PA X c (Fe X S.M R (b.map (mo Ψ)) (wA Φ G R b))
 |[],c,k,R=>by rw[IH.mp k];exact Jy
 |a::b,[],k,R=>by cases k
 |a::b,e::c,k,R=>by have k:=a2 k;exact Ff (aI (bC (.inl k.1)) _ _) ((snd Φ Ψ G a).e d e k.1 R) (Fi d b c k.2 R)
theorem Pf{S:SE}{X:Cx}(a:XOk S Φ Ψ G X){e:CE}{v:Expr}(k:aK S false e v=true)(R:Addr->Prop):VE X S.M R (Xc Ψ e) v (wE Φ G R e):=by
 cases e with
 |tup b=>obtain⟨c,d,p,rfl,k⟩:=fU k;exact Jz (Fi a b c k R)
 |call f b=>exact(Fg a k R).1
 |_=>exact(snd Φ Ψ G _).e a v k R
theorem yC{e:CE}(h:isCall e=true):∃f a,e=.call f a:=by cases e<;>first|exact⟨_,_,rfl⟩|exact ff h
theorem sJ{e:CE}(h:jI e=true):e=.aV:=by cases e<;>first|rfl|exact ff h
theorem Ci{e:CE}{i:Nat}(h:isVar e=some i):e=.var i:=by cases e<;>first|(cases h;rfl)|exact nn h
theorem JA{S:SE}{x:Str}{p:Pos}{v:Expr}(h:Vm S x p v=true):∃a b c d,v=.ListComp a b c d:=by cases v<;>first|exact⟨_,_,_,_,rfl⟩|exact ff h
theorem Pg{S:SE}{e:CE}{a:Expr}{b:List Comprehension}{c:Scope}{d:Pos}(k:aK S false e (.ListComp a b c d)=true):∃f one n i c x,e=.comp f one n i c x:=by
 cases e with
 |comp f one n i c x=>exact⟨_,_,_,_,_,_,rfl⟩
 |own i g=>rcases(fG k).2 with⟨_,_,_,e⟩|⟨_,_,_,_,_,e⟩<;>cases e
 |_=>exact ff k
theorem AE{S:SE}{X:Cx}(d:wQ S Φ Ψ G X){i:Nat}{x:Str}{p q:Pos}{e:CE}{v:Expr}(O:Jm S i x=true)(k:aK S false e v=true)(R:Addr->Prop):
 PS X (.Assign [.Name x p] v q) (lY (tV X S.M R (Np X.K (mo Ψ e)) (wE Φ G R e)) (fK i)):=by
 have n:=j8 d O;have a:=LF d (Pe k) x p q.line;cases m:Vm S x p v with
 |false=>rw[m]at a;exact lZ d.nd n.1 n.2.1 ((snd Φ Ψ G e).e d.toXOk v k R) a n.2.2
 |true=>rw[m]at a;obtain⟨Q,gs,h,pp,rfl⟩:=JA m;obtain⟨Z,one,n',B,c,y,rfl⟩:=Pg k;obtain⟨t,tg,r,E,f,p',o,T,rfl,j,L,l,U,J⟩:=pZ (snd Φ Ψ G B) (snd Φ Ψ G c) (snd Φ Ψ G y) d.toXOk k R;cases T;rw[gX rfl,AB];intro b s g H D I F;obtain⟨A,z,w⟩:=J b s g H I;exact zD o (mask o S.N) d.nd n.1 n.2.1 d.calm L U A z (λC u Y P=>(w C u Y P).2) a l n.2.2 b s g H D I (wC j g H _ F)
theorem Ph(i:Nat)(e:CE):fV Φ Ψ G (.set i e):=by
 intro S X m l st k;obtain⟨x,p,v,q,rfl,h⟩:=gY k;rw[AN]at h;by_cases y:wD S.M i=true
 .rw[Bi y]at h;simp only[AN]at h;obtain⟨F,⟨E,d⟩,C⟩:=h;have u:cW m=true->i≠0:=λz e=>by rw[z,e]at E;cases E
  have L:∀{t:Md},(i,t)∈S.M->(∀R,PS X (.Assign [.Name x p] v q) (lY (tV X (S.less i).M R (Np X.K t) (wE Φ G R e)) (fK i)))->VS X S.M m (.Assign [.Name x p] v q) (λD o=>wE Φ G D.ex e o λw=>D.nx (o.set i (some w))):=λ{t} I N=>Fd (M':=(S.less i).M) (te:=λR=>wE Φ G R e) N (λj=>p8 I (λm' Q=>l.E6 i _ _ Q I)) p9 u;have J:wQ (S.less i) Φ Ψ G X:=l.nV (S.less i).M λa b c B O=>l.E6 a b c (U2.mp B).1 (U2.mp O).1;rcases gk d with d|d
  .rw[AN]at d;refine L (gj d.1) λR=>?_;have:=AE J (p:=p) (q:=q) F C R;rw[gX d.2]at this;exact this
  .rw[AN]at d;refine L (iH d.2) λR=>?_;obtain⟨f,as,rfl⟩:=yC d.1;obtain⟨B,g,es,pp,rfl⟩:=Fg J.toXOk C R;have n:=j8 l F;exact lZ l.nd n.1 n.2.1 B rfl n.2.2
 .rw[BM y]at h;refine Jw (te:=λR=>wE Φ G R e) (λR=>?_) (kY (by simpa using y));refine PS.imp (AE l (p:=p) (q:=q) h.1 h.2 R)<|by rintro D Z H ⟨A,U,o,P,S,T,p,k⟩;exact⟨A,U,o,P,S,T,p,λw v Y pw s r=>k w v Y pw s (r.s S.dom)⟩
theorem Pj(f:List Nat)(e:CE):fV Φ Ψ G (.Er f e):=by
 intro S X m b w k;obtain⟨j,h,p,v,q,rfl,g⟩:=Cb k;simp only[AN]at g;obtain⟨⟨⟨c,i⟩,n⟩,a⟩:=g;split at c;rotate_left
 .cases c
 rename_i xs hxs
 have r:PG X (.Tuple j h p) (gT X.K false f):=O4 b.calm b.nd (by dsimp only[T4];rw[hxs];rfl) (oq b c);have d:swappedStores [.Tuple j h p] v X.env=pure none:=by
  rcases gk a with a|a
  .exact Js a _ _ _ _
  .obtain⟨t,i,x,rfl,l⟩:=fU a;exact E9 b (D1 l)
 exact NW (te:=λR=>wE Φ G R e) (λ{u} o=>C3 o r (Jr _ _) d rfl) (uD i) λR=>(snd Φ Ψ G e).s b.toXOk n R
theorem qa{X:Cx}{a:List Nat}{x:Str}{b:List Str}(h:dS X a (x::b)):∃i r,a=i::r/\gy X i x/\dS X r b:=by
 cases a with
 |nil=>cases h
 |cons i r=>obtain⟨_,_,e,d,c⟩:=h;cases e;exact⟨i,r,rfl,d,c⟩
theorem JB{X:Cx}{a:List Nat}(h:dS X a []):a=[]:=by
 cases a with
 |nil=>rfl
 |cons i r=>obtain⟨_,_,e,_⟩:=h;cases e
theorem AF{X:Cx}{a:List Nat}{x y:Str}(h:dS X a [x,y]):∃i j,a=[i,j]/\gy X i x/\gy X j y:=by obtain⟨i,r,rfl,e,d⟩:=qa h;obtain⟨j,r,rfl,c,b⟩:=qa d;cases JB b;exact⟨i,j,rfl,e,c⟩
theorem Cj{X:Cx}{a:List Nat}{x y z:Str}(h:dS X a [x,y,z]):∃i j k,a=[i,j,k]/\gy X i x/\gy X j y/\gy X k z:=by obtain⟨i,r,rfl,e,d⟩:=qa h;obtain⟨j,k,rfl,c,b⟩:=AF d;exact⟨i,j,k,rfl,e,c,b⟩
theorem JC{α:Type}{l:List α}(h:l.length=2):∃a b,l=[a,b]:=by rcases l with _|⟨a,_|⟨b,_|_⟩⟩<;>first|exact⟨_,_,rfl⟩|(simp at h;done)
theorem Pk{α:Type}{l:List α}(h:l.length=3):∃a b c,l=[a,b,c]:=by
 cases l with
 |nil=>cases h
 |cons a l=>obtain⟨b,c,rfl⟩:=JC (L0 h);exact⟨_,_,_,rfl⟩
theorem lE{b:List Expr}{x:Str}{c:List Str}(h:EU b=some (x::c)):∃p r,b=.Name x p::r/\EU r=some c:=by
 cases b with
 |nil=>cases h
 |cons e b=>
  cases e with
  |Name a p=>obtain⟨l,d,e⟩:=Mo.mp h;cases e;exact⟨_,_,rfl,d⟩
  |_=>exact nn h
theorem AG{b:List Expr}(h:EU b=some []):b=[]:=by
 cases b with
 |nil=>rfl
 |cons e b=>
  cases e with
  |Name a p=>obtain⟨l,c,e⟩:=Mo.mp h;cases e
  |_=>exact nn h
theorem AH{a:List Expr}{x y:Str}(h:EU a=some [x,y]):∃p q,a=[.Name x p,.Name y q]:=by obtain⟨p,r,rfl,c⟩:=lE h;obtain⟨q,r,rfl,b⟩:=lE c;rw[AG b];exact⟨_,_,rfl⟩
theorem Ck{a:List Expr}{x y z:Str}(h:EU a=some [x,y,z]):∃p q r,a=[.Name x p,.Name y q,.Name z r]:=by obtain⟨p,r,rfl,b⟩:=lE h;obtain⟨q,s,rfl⟩:=AH b;exact⟨_,_,_,rfl⟩
theorem JD{S:SE}{a vs:List Expr}{b:List Str}(h:QN S a vs=some (some b)):(a.length=2\/a.length=3)/\vs.length=a.length:=by
 unfold QN at h;split at h
 .cases h
 .rename_i c
  simp only[oI,so,bne_iff_ne,not_or,Bool.not_eq_false,P3,ne_eq,dd]at c;exact c
theorem AI{b:List Expr}{a:List Str}(h:EU b=some a):b.length=a.length:=by
 induction a generalizing b with
 |nil=>rw[AG h];rfl
 |cons x a c=>obtain⟨p,r,rfl,d⟩:=lE h;rw[A6,A6,c d]
theorem Pn(Y:List Nat)(O:List CE):fV Φ Ψ G (.par Y O):=by
 intro S X m o st k;obtain⟨tg,kd,p,f,L,p',q,rfl,A⟩:=Ce k;simp only[AN]at A;obtain⟨⟨C,k2⟩,k3⟩:=A;split at C;rotate_left
 .cases C
 rename_i xs hxs
 simp only[AN]at C;obtain⟨⟨⟨C,I⟩,B⟩,k6⟩:=C;have I:=D1 I;have B:=D1 B;obtain⟨r,Q⟩:=JD I;have P:=E9 o (k:=kd) (k2:=L) (p:=p) (p2:=p') I;have d:∀x∈xs,X.env.scope.names.lookup x=some .local:=λx hx=>by rw[o.nk];exact P3.mp (Kj.mp k6 x hx)
 have T:=oq o C;refine NX (ta:=λR=>wA Φ G R O) (λ{tv} U=>?_) (uD k2) λR=>(mT Φ Ψ G O).1.a o.toXOk f k3 R;have J:∀{a b:Nat}{x y:Str},x≠y->X.N[a]?=some x->X.N[b]?=some y->a≠b:=λn E g e=>by rw[e,g]at E;exact n (Kt E).symm
 rcases r with r|r
 .obtain⟨x,y,rfl⟩:=JC ((AI hxs).symm.trans r);obtain⟨Z,p2,rfl⟩:=AH hxs;obtain⟨i,j,rfl,t,s⟩:=AF T;obtain⟨a,b,rfl⟩:=JC (Q.trans r);refine PS.imp (Mm o.calm o.nd t.1 s.1 (J (by simpa using B) t.1 s.1) (d x (by simp)) (d y (by simp)) U P) λD F H h=>?_;have e:(λ(f:List V) l=>f.length=[i,j].length/\D.nx (cI F [i,j] f) l)=λf l=>∃v w,f=[v,w]/\D.nx ((F.set i (some v)).set j (some w)) l:=by
   funext f l;refine propext ⟨?_,?_⟩
   .rintro⟨E,g⟩;obtain⟨v,w,rfl⟩:=JC E;exact⟨v,w,rfl,g⟩
   .rintro⟨v,w,rfl,g⟩;exact⟨rfl,g⟩
  rw[e]at h;exact h
 .obtain⟨x,y,z,rfl⟩:=Pk ((AI hxs).symm.trans r);obtain⟨Z,p2,p3,rfl⟩:=Ck hxs;obtain⟨i,j,A,rfl,t,s,K⟩:=Cj T;obtain⟨a,b,c,rfl⟩:=Pk (Q.trans r);have M:(x≠y/\x≠z)/\y≠z:=by simp only[X9,GE,UF,lx,not_or]at B;exact⟨B.1,B.2.1⟩
  refine PS.imp (Jv o.calm o.nd t.1 s.1 K.1 (J M.1.1 t.1 s.1) (J M.1.2 t.1 K.1) (J M.2 s.1 K.1) (d x (by simp)) (d y (by simp)) (d z (by simp)) U P) λD F H h=>?_;have e:(λ(f:List V) l=>f.length=[i,j,A].length/\D.nx (cI F [i,j,A] f) l)=λf l=>∃v w u,f=[v,w,u]/\D.nx (((F.set i (some v)).set j (some w)).set A (some u)) l:=by
   funext f l;refine propext ⟨?_,?_⟩
   .rintro⟨E,g⟩;obtain⟨v,w,u,rfl⟩:=Pk E;exact⟨v,w,u,rfl,g⟩
   .rintro⟨v,w,u,rfl,g⟩;exact⟨rfl,g⟩
  rw[e]at h;exact h
theorem wY{S:SE}{i:Nat}{o:Expr}(h:j6 S i o=true)(a:Str)(env:Env):attributeBase o a env (eval o env)=eval o env:=by
 cases o with
 |Name x p=>rfl
 |_=>exact ff h
theorem Po(i:Nat)(e:CE):fV Φ Ψ G (.app i e):=by intro S X m g p k;obtain⟨o,r,u,v,t,q,rfl,c⟩:=Fb k;simp only[AN]at c;obtain⟨⟨⟨⟨a,j⟩,h⟩,f⟩,d⟩:=c;have a:=D1 a;subst a;have b:=aI (bC (.inl d)) [] X.env;refine N3 (te:=λR=>wE Φ G R e) (λ{n} l=>?_) (gj h) λR=>(snd Φ Ψ G e).s g.toXOk d R;exact y9 (R6 PySem.F.plainAttrs_list PySem.F.slot_list_append PySem.F.type_list_append rW (dO g.toXOk f) (bG l dJ b) (wY f _ _) (by rw[b];rfl) j b rfl) rfl
theorem Pp(i:Nat)(a e:CE):fV Φ Ψ G (.put i a e):=by
 intro S X m b y k;obtain⟨o,j,p,v,q,rfl,c⟩:=Cf k;simp only[AN]at c;obtain⟨⟨⟨⟨l,h⟩,g⟩,f⟩,d⟩:=c;have t:∀u,assign (.Subscript o j p) X.env u=(do
  let ov<-holding [u] (eval o X.env)
  let iv<-holding [u,ov] (eval j X.env)
  standAt p
  holding [u,ov,iv] (setItem ov iv u)
  release [u,ov,iv] []):=by
  intro u;cases j with
  |Slice _ _ _ _=>exact ff g
  |_=>rfl
 refine N4 (te:=λR=>wE Φ G R e) (t1:=λR=>wE Φ G R a) (λ{w x} n r=>?_) (gj l) (λR=>(snd Φ Ψ G e).s b.toXOk d R) λR=>(snd Φ Ψ G a).s b.toXOk f R;exact C3 (pos:=q) n (Ml (dO b.toXOk h) r set_list t) (E7 _ _) (E8 _) rfl
theorem Pr{c:List (Nat×Nat)}{f g:Nat}(h:c.any (λy=>y.1==f&&y.2==g)=true):(f,g)∈c:=by obtain⟨⟨a,b⟩,d,e⟩:=S0.mp h;rw[AN]at e;cases P3.mp e.1;cases P3.mp e.2;exact d
theorem Fj:∀{S:SE}{c:CE}{e:Expr},gb S c e=true->noStar e=true:=λ{S c e} h=>by
 cases e with
 |Starred v p=>
  have f:aK S false c (.Starred v p)=true->False:=λz=>by have:=bC (.inl z);exact ff this
  cases c<;>first|exact ff h;done|exact(f h).elim
 |_=>rfl
theorem j9{S:SE}:∀{c:List CE}{b:List Expr},lD S c b=true->b.all noStar=true
 |[],b,h=>by rw[IH.mp h];rfl
 |a::c,[],h=>by cases h
 |a::c,e::b,h=>by have h:=a2 h;rw[G1,Fj h.1,j9 h.2];rfl
theorem cN{S:SE}{X:Cx}(b:XOk S Φ Ψ G X)(R:Addr->Prop){c:CE}{v:Expr}(e:gb S c v=aK S false c v)(d:wP Φ G R c=λa Q=>wE Φ G R c a λw=>Q w a)(k:gb S c v=true):VP X S.M R v (wP Φ G R c):=by rw[e]at k;rw[d];exact TQ ((snd Φ Ψ G c).s b k R)
mutual
theorem cA{S:SE}{X:Cx}(d:XOk S Φ Ψ G X)(R:Addr->Prop):∀(e:CE)(v:Expr),gb S e v=true->VP X S.M R v (wP Φ G R e)
 |.pop i,v,k=>by obtain⟨o,mt,ap,cp,rfl,j⟩:=j7 k;simp only[AN]at j;obtain⟨⟨⟨m,A⟩,h⟩,t⟩:=j;have m:=D1 m;subst m;exact N9 (gj h) (dO d t) (wY t _ _) A
 |.j3 i f z,v,k=>by
  obtain⟨x,q,u,p,rfl,j⟩:=aH k;simp only[AN]at j;obtain⟨⟨⟨⟨m,A⟩,h⟩,t⟩,s⟩:=j;obtain⟨I,H,L⟩:=bN d A;obtain⟨fv,n,O,Q,F,D,E⟩:=d.fns f x (P3.mp m) (by simpa using h);rw[<-d.B6]at t;cases u with
  |nil=>exact ff s
  |cons e u=>
   rw[nI,AN]at s;have e0:noStar e=true:=by
    cases e with
    |Name _ _=>rfl
    |_=>exact ff s.1
   cases C:Ψ f with
   |io U=>rw[C]at t F;exact Oi (p:=q) (pos:=p) F D I Q (iH t) E (dO d s.1) (d7 d R z u s.2) H (aI e0 _ _) (bO (j9 s.2) _ _)
   |_=>rw[C]at t;exact ff t
 |.CF i g f z,v,k=>by
  obtain⟨o,x,ap,u,p,rfl,j,YH,YI⟩:=sH k;simp only[AN]at j;obtain⟨⟨⟨⟨m,A⟩,h⟩,t⟩,s⟩:=j;obtain⟨fa,fd,ps,n,O,Z,Y,F,D,E⟩:=d.Lu f g x (P3.mp m) (Pr A);rw[<-d.B6]at h;cases o with
  |Name y py=>
   cases C:Ψ f with
   |io U=>
    rw[C]at h F;cases U with
    |o fs ms=>
     have h:(hasB S.M i (.o fs ms)&&!fs.contains x)=true:=h;rw[AN]at h;cases z with
     |nil=>
      have:u=[]:=by exact IH.mp s
      subst this;exact IV (G:=G g) Z F D Y (iH h.1) (by simpa using h.2) E (dO d t) (sI (bO (j9 s) _ _) YI YH)
     |cons a z=>
      cases u with
      |nil=>exact ff s
      |cons e u=>have N:=s;have N:=a2 N;exact Oj (G:=G g) Z F D Y (iH h.1) (by simpa using h.2) E (dO d t) (d7 d R (a::z) (e::u) s) (aI (Fj N.1) _ _) (bO (j9 N.2) _ _) (sI (bO (j9 s) _ _) YI YH)
    |_=>exact ff h
   |_=>rw[C]at h;exact ff h
  |_=>exact ff t
 |.bin op a b,v,k=>by obtain⟨l,o,r,p,rfl,j⟩:=mP k;simp only[AN]at j;obtain⟨⟨m,A⟩,h⟩:=j;have m:=D1 m;subst m;exact Oa (cA d R a l A) (cA d R b r h)
 |.cmp op a b,v,k=>by obtain⟨l,o,r,p,rfl,j⟩:=mQ k;simp only[AN]at j;obtain⟨⟨⟨⟨m,t⟩,s⟩,A⟩,h⟩:=j;have m:=D1 m;subst m;exact Ob d.un (xJ r (op:=op) (by simpa using t) (by simpa using s)) (cA d R a l A) (cA d R b r h)
 |.call f z,v,k=>by
  obtain⟨x,q,u,p,rfl,j⟩:=aH k;simp only[AN]at j;obtain⟨⟨⟨⟨⟨m,A⟩,h⟩,s⟩,J⟩,t⟩:=j;obtain⟨I,H,L⟩:=bN d A;obtain⟨fv,n,O,Q,F,D,E⟩:=d.fns f x (P3.mp m) (by simpa using J);have F:cH X.prog X.w X.K X.mg X.base O fv n (Lq X.K n (Ψ f) (Φ f)):=by rw[<-d.B6]at s;cases C:Ψ f<;>rw[C]at s F<;>first|exact F|exact ff s
  have B:=j9 t;cases u with
  |nil=>exact ff h
  |cons e u=>rw[G1,AN]at B;exact IT (p:=q) (pos:=p) F D I Q E (d7 d R z _ t) H (aI B.1 _ _) (bO B.2 _ _)
 |.blt b z,v,k=>by
  obtain⟨x,q,u,p,rfl,j⟩:=aH k;simp only[AN]at j;obtain⟨⟨⟨⟨⟨⟨m,A⟩,h⟩,t⟩,s⟩,k9⟩,J⟩:=j;have m:=D1 m;obtain⟨I,H,L⟩:=bN d A;have hz:=d.yw x (WR.mp h);have B:=j9 J;cases u with
  |nil=>exact ff k9
  |cons e u=>
   rw[G1,AN]at B;rcases wM d.calm b (by simpa using s)with⟨id,P,T⟩|⟨id,P,T⟩
   .exact Oc T I hz (by rw[m];exact P) (d7 d R z _ J) L H (aI B.1 _ _) (bO B.2 _ _)
   .exact Od T I hz (by rw[m];exact P) (d7 d R z _ J) L H (aI B.1 _ _) (bO B.2 _ _)
 |.ix a b,v,k=>by obtain⟨l,r,p,rfl,j⟩:=dZ k;simp only[AN]at j;obtain⟨⟨m,A⟩,h⟩:=j;exact TR (uA m) (cA d R a l A) (cA d R b r h)
 |.lst z,v,k=>by obtain⟨u,p,rfl,j⟩:=lu k;exact Ow (d7 d R z u j)
 |.and _,v,k=>by cases k
 |.var i,v,k=>cN d R rfl rfl k
 |.int i,v,k=>cN d R rfl rfl k
 |.bl i,v,k=>cN d R rfl rfl k
 |.str i,v,k=>cN d R rfl rfl k
 |.aV,v,k=>cN d R rfl rfl k
 |.Ib n,v,k=>cN d R rfl rfl k
 |.glob g,v,k=>cN d R rfl rfl k
 |.neg a,v,k=>cN d R rfl rfl k
 |.not a,v,k=>cN d R rfl rfl k
 |.or z,v,k=>cN d R rfl rfl k
 |.ite c a b,v,k=>cN d R rfl rfl k
 |.tup z,v,k=>cN d R rfl rfl k
 |.sl a b c,v,k=>cN d R rfl rfl k
 |.bits a,v,k=>cN d R rfl rfl k
 |.comp ts one n i c x,v,k=>cN d R rfl rfl k
 |.jA z,v,k=>cN d R rfl rfl k
 |.sA a,v,k=>cN d R rfl rfl k
 |.rev a,v,k=>cN d R rfl rfl k
 |.Lj a b,v,k=>cN d R rfl rfl k
 |.own i π,v,k=>cN d R rfl rfl k
 |.Ic is a,v,k=>cN d R rfl rfl k
 |.Ni f a z,v,k=>cN d R rfl rfl k
theorem d7{S:SE}{X:Cx}(d:XOk S Φ Ψ G X)(R:Addr->Prop):∀(c:List CE)(b:List Expr),lD S c b=true->GD X S.M R b (Gw Φ G R c)
 |[],b,k=>by rw[IH.mp k];exact IP
 |a::c,[],k=>by cases k
 |a::c,e::b,k=>by have k:=a2 k;exact EJ (aI (Fj k.1) _ _) (cA d R a e k.1) (d7 d R c b k.2)
end
theorem AJ{v:Expr}(a:AD v=true)(b:E2 v=true)(t:Option Expr)(l:Nat)(env:Env):swapsWith v t l env=pure false:=by
 cases v with
 |ListComp _ _ _ _=>exact ff b
 |SetComp _ _ _ _=>exact ff a
 |DictComp _ _ _ _ _=>exact ff a
 |_=>rfl
theorem YJ{v:Expr}(h:yz v=true):AD v=true:=by cases v<;>first|rfl|exact ff h
theorem JE(i:Nat):fV Φ Ψ G (.drop i):=by intro S X m e f k;obtain⟨v,q,rfl,a⟩:=wR k;simp only[AN]at a;obtain⟨⟨d,c⟩,b⟩:=a;exact IS (tt:=λR=>wP Φ G R (.pop i)) λR=>y9 (cA e.toXOk R _ v b) (AJ (YJ c) d _ _ _)
theorem JF(j:Nat)(e:CE):fV Φ Ψ G (.j4 j e):=by intro S X m a o k;obtain⟨x,p,v,q,rfl,b⟩:=gY k;simp only[AN]at b;obtain⟨⟨⟨⟨h,g⟩,d⟩,c⟩,f⟩:=b;have n:=j8 a h;exact IQ (tt:=λR=>wP Φ G R e) (λ{l} i=>lZ a.nd n.1 n.2.1 i (AJ (YJ c) d _ _ _) n.2.2) (kY (by simpa using g)) λR=>cA a.toXOk R _ v f
theorem Pu(e:CE):fV Φ Ψ G (.ret e):=by
 intro S X m f h k;rcases wU k with⟨v,q,rfl,a⟩|⟨q,rfl,a⟩
 .unfold Ui at a;rw[AN]at a;obtain⟨c,a⟩:=a;have c:cW m=false:=by simpa using c
  rcases gk a with a|d
  .rcases gk a with a|a
   .rw[AN]at a;have g:m=.s:=by cases m<;>first|rfl|exact ff a.1
    rcases gk a.2 with b|b
    .exact EH (te:=λR=>wE Φ G R e) (λR=>(snd Φ Ψ G e).e (f.toXOk.nV []) v b R) (.inr g) c
    .subst g;exact IJ (te:=λR=>wE Φ G R e) λR=>(snd Φ Ψ G e).s f.toXOk b R
   .rw[AN]at a;exact EH (te:=λR=>wE Φ G R e) (λR=>Pf (f.toXOk.nV []) a.2 R) (.inl (p6 a.1)) c
  .unfold Uh at d;split at d
   .rename_i i hv
    obtain rfl:=Ci hv;have b:=a2 d;exact IK (dO f.toXOk b.2) (iH b.1) c
   .exact ff d
 .rw[AN]at a;obtain rfl:=sJ a.1;cases m<;>try exact ff a.2
  exact Jx
theorem AK{S:SE}{m:Md}(h:Pb S m=true):∃k,m=.io k/\(0,k)∈S.M:=by
 cases m with
 |io k=>exact⟨k,rfl,iH h⟩
 |_=>exact ff h
theorem Pw(e:CE):fV Φ Ψ G (.Ah e):=by
 intro S X m d f k;rcases wU k with⟨v,q,rfl,a⟩|⟨q,rfl,a⟩
 .rw[AN]at a;obtain⟨c,rfl,b⟩:=AK a.1;exact Og (te:=λR=>wE Φ G R e) (λR=>(snd Φ Ψ G e).s d.toXOk a.2 R) b
 .rw[AN]at a;obtain⟨c,rfl,b⟩:=AK a.2;obtain rfl:=sJ a.1;exact Oh b
theorem qe{S:SE}{X:Cx}(e:XOk S Φ Ψ G X)(R:Addr->Prop)(c:CE)(v:Expr)(k:p7 S c v=true):GC X S.M R v (wP Φ G R c):=by
 have fall:∀{c:CE},p7 S c v=(aK S false c v&&CH c)->(wP Φ G R c=λm Q=>wE Φ G R c m λw=>Q w m)->p7 S c v=true->GC X S.M R v (wP Φ G R c):=λ{c} C B k=>by rw[C,AN]at k;rw[B];exact N8 ((snd Φ Ψ G c).t e v k.1 k.2 R)
 cases c with
 |cmp op a b=>have k:gb S (.cmp op a b) v=true:=k;obtain⟨l,o,r,p,rfl,n⟩:=mQ k;simp only[AN]at n;obtain⟨⟨⟨⟨j,y⟩,u⟩,A⟩,z⟩:=n;have j:=D1 j;subst j;exact IL e.un (xJ r (op:=op) (by simpa using y) (by simpa using u)) (cA e R a l A) (cA e R b r z)
 |j3 i f d=>have k:gb S (.j3 i f d) v=true:=k;have h:=cA e R _ v k;obtain⟨x,q,s,p,rfl,_⟩:=aH k;exact uw (λ_=>rfl) h
 |CF i g f d=>have k:gb S (.CF i g f d) v=true:=k;have h:=cA e R _ v k;obtain⟨o,x,D,s,p,rfl,_⟩:=sH k;exact uw (λ_=>rfl) h
 |call f d=>have k:gb S (.call f d) v=true:=k;have h:=cA e R _ v k;obtain⟨x,q,s,p,rfl,_⟩:=aH k;exact uw (λ_=>rfl) h
 |pop i=>exact ff k
 |bin op a b=>exact ff k
 |blt b d=>exact ff k
 |ix a b=>exact ff k
 |lst d=>exact ff k
 |and d=>exact ff k
 |_=>exact fall rfl rfl k
theorem wZ{S:SE}{X:Cx}(d:XOk S Φ Ψ G X)(R:Addr->Prop){pos:Pos}:∀(g:List CE)(c:List Expr),wO S g c=true->Vj X S.M R (.BoolOp .And c pos) (yR Φ G R g)
 |[],c,k=>by cases k
 |[a],c,k=>by obtain⟨e,rfl,k⟩:=fT k;exact EI (qe d R a e k)
 |a::b::f,c,k=>by
  cases c with
  |nil=>exact ff k
  |cons e c=>
   have k:p7 S a e=true/\wO S (b::f) c=true:=a2 k;have h:=wZ d R (pos:=pos) (b::f) c k.2;cases c with
   |nil=>cases f<;>exact ff k.2
   |cons i c=>exact IM (qe d R a e k.1) h
theorem w4{S:SE}{X:Cx}(d:XOk S Φ Ψ G X)(R:Addr->Prop)(c:CE)(v:Expr)(k:E4 S c v=true):GC X S.M R v (wP Φ G R c):=by
 cases c with
 |and e=>have k:T3 (λo b=>decide (o=.And)&&wO S e b) v=true:=k;obtain⟨o,b,p,rfl,a⟩:=kZ k;rw[AN]at a;have f:=D1 a.1;subst f;exact PW.pt (wZ d R e b a.2)
 |_=>exact qe d R _ v k
theorem Px(c:CE){a b:List CS}(j:gZ Φ Ψ G a)(i:gZ Φ Ψ G b):fV Φ Ψ G (.QH c a b):=by intro S X m d l k;obtain⟨t,x,y,q,rfl,e⟩:=wV k;simp only[AN]at e;obtain⟨⟨h,g⟩,f⟩:=e;exact Oe (tt:=λR=>wP Φ G R c) (λR=>w4 d.toXOk R c t h) (j d x g) (i d y f)
theorem Py(c:CE){b:List CS}(e:gZ Φ Ψ G b):fV Φ Ψ G (.QI c b):=by intro S X m d f k;obtain⟨t,x,q,rfl,a⟩:=wX k;simp only[AN]at a;exact Of (w4 d.m9.toXOk _ c t a.1) (e d.m9 x a.2)
theorem JG{S:SE}{i n:Nat}{x:Str}(h:Pd S i n x=true):∃a ms,(i,.o a ms)∈S.M/\a[n]?=some x/\ms[n]?=some .s:=by
 unfold Pd at h;split at h
 .rename_i a ms hl
  rw[AN]at h;obtain⟨c,b⟩:=h;split at b
  .rename_i k hk
   have:k=.s:=by cases k<;>first|rfl|exact ff b
   subst this;exact⟨a,ms,jg hl,P3.mp c,hk⟩
  .cases b
 .cases h
theorem PB(i n:Nat)(e:CE):fV Φ Ψ G (.BW i n e):=by intro S X m b t k;obtain⟨o,x,p,v,q,rfl,a⟩:=Cg k;simp only[AN]at a;obtain⟨⟨f,d⟩,c⟩:=a;obtain⟨w,u,l,j,h⟩:=JG f;exact Ou (te:=λR=>wE Φ G R e) (λ{r} g=>gr (dO b.toXOk d) g (by cases v<;>rfl)) l j h λR=>(snd Φ Ψ G e).s b.toXOk c R
theorem PC:fV Φ Ψ G .brk:=by
 intro S X m b a k;cases a with
 |Break _=>exact NV
 |_=>exact ff k
theorem Uk(c:CE){a b:List CS}(l:gZ Φ Ψ G a)(j:gZ Φ Ψ G b):fV Φ Ψ G (.iff c a b):=by intro S X m d n k;obtain⟨t,x,y,q,rfl,e⟩:=wV k;simp only[AN]at e;obtain⟨⟨⟨i,h⟩,g⟩,f⟩:=e;exact TM (tc:=λR=>wE Φ G R c) (λR=>(snd Φ Ψ G c).t d.toXOk t i h R) (l d x g) (j d y f)
theorem PD(c:CE){b:List CS}(h:gZ Φ Ψ G b):fV Φ Ψ G (.Ag c b):=by intro S X m d i k;obtain⟨t,x,q,rfl,a⟩:=wX k;simp only[AN]at a;obtain⟨⟨g,f⟩,e⟩:=a;exact N5 ((snd Φ Ψ G c).t d.m9.toXOk t g f _) (h d.m9 x e)
theorem PJ(h:List Nat)(one:Bool)(e:CE){b:List CS}(t:gZ Φ Ψ G b):fV Φ Ψ G (.fr h one e b):=by
 intro S X m c u k;obtain⟨f,i,x,q,rfl,a⟩:=Fc k;unfold YG at a;split at a;rotate_left
 .cases a
 rename_i o xs O5
 simp only[AN]at a;obtain⟨⟨⟨⟨⟨⟨d,s⟩,r⟩,n⟩,g⟩,l⟩,j⟩:=a;have d:=P3.mp d;subst d;refine N6 (ti:=λR=>wE Φ G R e) c.calm (uD r) ((snd Φ Ψ G e).i c.m9.toXOk f false i (by rw[l];rfl) (λz=>?_) _) (O4 (X:=X.m9) c.calm c.m9.nd O5 (oq c.m9 s)) (t c.m9 x j) (wN n _);have:one=false:=by rw[z]at g;simpa using g
 subst this;cases f with
 |Tuple v a p=>exact⟨_,_,_,rfl⟩
 |Name y p=>cases O5
 |_=>exact nn O5
theorem JH:gZ Φ Ψ G []:=by intro S X m b a k;rw[IH.mp k];exact IF
noncomputable def LG(Φ:Nat->bD)(Ψ:Nat->Md)(G:Nat->W):CS->Prop
 |.GB _ b=>gZ Φ Ψ G b
 |_=>True
theorem JI{S:SE}{m:Md}{s:CS}{a:List CS}{st:List Stmt}(k:cM S Ψ m (s::a) st=true):(∃c b,s=.GB c b/\(a.isEmpty&&(!cW m||!c.contains 0)&&cM (S.lend c) Ψ m b st)=true)\/E3 (λe=>Jq S Ψ m s e) (λd=>cM S Ψ m a d) st=true:=by
 cases s<;>first|exact .inr k|exact .inl ⟨_,_,rfl,k⟩
theorem Fl{s:CS}{c:List CS}(h:fV Φ Ψ G s/\LG Φ Ψ G s)(v:gZ Φ Ψ G c):gZ Φ Ψ G (s::c):=by
 intro S X m a d k;rcases JI k with⟨u,b,rfl,o⟩|k
 .obtain⟨n,p⟩:=a2 o;obtain⟨l,f⟩:=a2 n;cases IH.mp l;have q:cW m=true->aL S.M 0->aL (S.lend u).M 0:=by rintro e ⟨g,A⟩;rw[e]at f;exact⟨g,U2.mpr ⟨A,f⟩⟩
  have w:gZ Φ Ψ G b:=h.2;exact II (w (a.nV _ λi m j y x=>a.E6 i m j (lz _ y) (lz _ x)) d p) lz q
 have h:fV Φ Ψ G s:=h.1;cases d with
 |nil=>exact ff k
 |cons e r=>
  have k:Jq S Ψ m s e=true/\cM S Ψ m c r=true:=a2 k;cases c with
  |nil=>
   have:r=[]:=by have:=k.2;exact IH.mp this
   subst this;exact IG (h a e k.1)
  |cons t B=>have z:=EG (h a e k.1) (v a r k.2);exact z
theorem Fo{m:Md}{i:Nat}(h:(!cW m||!(i==0))=true):cW m=true->i≠0:=λz y=>by rw[z,y]at h;cases h
theorem PK(i:Nat)(U e:CE):fV Φ Ψ G (.Tc i U e):=by
 intro S X m t st k;obtain⟨x,p,v,q,rfl,T⟩:=gY k;simp only[AN]at T;obtain⟨⟨⟨⟨k0,k1⟩,k2⟩,k3⟩,k4⟩:=T;have hm:=gj k1;have hL:wQ (S.less i) Φ Ψ G X:=t.nV (S.less i).M λa b c h1 h2=>t.E6 a b c (U2.mp h1).1 (U2.mp h2).1;have B:=j8 t k0;obtain⟨o,Z,l,J,d,pp,rfl,T⟩:=mR k4;have n:=LF hL (e:=.ListComp o [⟨Z,l,J,0⟩] d pp) rfl x p q.line;obtain⟨u,hn,hlt,ho,L,_,k8,k9,EX,hr⟩:=sF hL.toXOk T;have en:wL U=false:=by simpa using k3
 refine Ov (M':=(S.less i).M) (ti:=λR=>wE Φ G R U) (te:=wP Φ G (λ_=>False) e) (λR=>?_) (λj=>p8 hm λm' h'=>t.E6 i _ _ h' hm) p9 (Fo k2);have K9:=(snd Φ Ψ G U).i hL.toXOk Z false l (by rw[k8];rfl) (λz=>by rw[en]at z;cases z) R;have:J=[]:=IH.mp k9;subst this;rw[hn];intro f s E H D I hw;have q4:∀C F y O,PE (aU X d C u (mask u (S.less i).N) F y O) o (Yw X.K (up (S.less i).M u.length) (wP Φ G (λ_=>False) e)):=λC F y O=>PE.imp (cA (hr f s E H I C F y O).2 (λ_=>False) e o EX)<|by rintro E H Q ⟨A,y,ε,P,S',h,k⟩;exact⟨A,y,ε,P,S',.none,h,λA' w v H' Y pw g s r=>k A' w v H' Y pw g.ab s r⟩
 have q1:=λC F y O=>(hr f s E H I C F y O).1;cases hb:Vm (S.less i) x p (.ListComp o [⟨Z,l,[],0⟩] d pp)with
 |false=>rw[hb]at n;exact lZ t.nd B.1 B.2.1 (zC u (mask u (S.less i).N) t.calm ho K9 q1 (λ_ _ _ _=>xZ) q4 L) n B.2.2 f s E H D I hw
 |true=>rw[hb]at n;exact zD u (mask u (S.less i).N) t.nd B.1 B.2.1 t.calm ho K9 q1 (λ_ _ _ _=>xZ) q4 n L B.2.2 f s E H D I hw
theorem PL(i:Nat)(e:List CE):fV Φ Ψ G (.Td i e):=by intro S X m d C k;obtain⟨x,p,v,q,rfl,f⟩:=gY k;simp only[AN]at f;obtain⟨⟨⟨s,r⟩,o⟩,l⟩:=f;have g:=gj r;have u:wQ (S.less i) Φ Ψ G X:=d.nV (S.less i).M λa b c y w=>d.E6 a b c (U2.mp y).1 (U2.mp w).1;have n:=j8 d s;obtain⟨A,D,rfl,h⟩:=lu l;exact Oz (M':=(S.less i).M) (tl:=λR=>Gw Φ G R e) (λ{B} t=>lZ d.nd n.1 n.2.1 t rfl n.2.2) (λj=>p8 g λE z=>d.E6 i _ _ z g) p9 (Fo o) λR=>sY (d7 u.toXOk R e A h)
theorem PM(i j:Nat):fV Φ Ψ G (.Nj i j):=by intro S X m a o k;obtain⟨x,p,v,q,rfl,b⟩:=gY k;simp only[AN]at b;obtain⟨⟨⟨⟨⟨h,c⟩,g⟩,f⟩,e⟩,d⟩:=b;have n:=j8 a h;have l:=dO a.toXOk c;obtain⟨y,r,rfl,_⟩:=cX c;exact OA (lZ a.nd n.1 n.2.1 l rfl n.2.2) (gj g) (gj f) (D1 d) (Fo e)
theorem PN:fV Φ Ψ G .S9:=by rintro S X m g e k a s b H D I ⟨A,j,c,d,S,i,hz,h,f⟩;exact G2 h
variable(Φ Ψ G)
mutual
theorem Xe:∀s:CS,fV Φ Ψ G s/\LG Φ Ψ G s
 |.set i e=>⟨Ph i e,trivial⟩
 |.Er d e=>⟨Pj d e,trivial⟩
 |.par d g=>⟨Pn d g,trivial⟩
 |.app i e=>⟨Po i e,trivial⟩
 |.put i k e=>⟨Pp i k e,trivial⟩
 |.drop i=>⟨JE i,trivial⟩
 |.j4 j e=>⟨JF j e,trivial⟩
 |.ret e=>⟨Pu e,trivial⟩
 |.iff c a b=>⟨Uk c (ji a) (ji b),trivial⟩
 |.Ag c b=>⟨PD c (ji b),trivial⟩
 |.fr d one f b=>⟨PJ d one f (ji b),trivial⟩
 |.brk=>⟨PC,trivial⟩
 |.BW i n e=>⟨PB i n e,trivial⟩
 |.Ah e=>⟨Pw e,trivial⟩
 |.QH c a b=>⟨Px c (ji a) (ji b),trivial⟩
 |.QI c b=>⟨Py c (ji b),trivial⟩
 |.S9=>⟨PN,trivial⟩
 |.Tc i f e=>⟨PK i f e,trivial⟩
 |.Td i h=>⟨PL i h,trivial⟩
 |.Nj i j=>⟨PM i j,trivial⟩
 |.GB l b=>⟨λ_ _ k=>(by cases k),ji b⟩
theorem ji:∀a:List CS,gZ Φ Ψ G a
 |[]=>JH
 |s::a=>Fl (Xe s) (ji a)
end
end
structure Tab(P:Program)(w:World)(K:Frag)(mg:Str->Option Value)(base:Heap)(fn gn zn:List Str)(md:List Md)(mt:List (Nat×Nat))(Φ:Nat->bD)(G:Nat->W)(k:Nat):Prop where
 fns:∀(j:Nat)(x:Str),fn[j]?=some x->mt.any (·.1==j)=false->∃fv n k',mg x=some fv/\cH P w K mg base k' fv n (oj K n (fS md j) (Φ j))/\k'<=k/\∀ws P R,Φ j ws P R->ws.length=n
 Lu:∀(j g:Nat)(x:Str),fn[j]?=some x->(j,g)∈mt->∃f fd ps n k',(∀C,G g=.cls C->Meth K C x f)/\Binds K fd ps []/\b9 P w K mg base (jB P w) k' f fd ps (oj K n (fS md j) (Φ j))/\k'<=k/\∀ws P R,Φ j ws P R->ws.length=n
 Lv:∀(j:Nat)(x:Str),gn[j]?=some x->∃u v,mg x=some u/\RelV v u/\∀B H,Rep K B H (G j) v
 yw:∀x∈zn,mg x=none
 kit:wz K
 E5:∀j x C,gn[j]?=some x->G j=.cls C->Wg K C
noncomputable def au(n:Nat)(a:List W):Ev:=a.map some++A2 (n -a.length) none
noncomputable def fall:Md->(W->Prop)->Ev->Prop
 |.s,P,_=>P .aV
 |.io _,P,a=>match look a 0 with
  |some b=>P (.tup [.aV,b])
  |none=>False
 |_,_,_=>False
section
variable{K:Frag}{A:Addr->Prop}{H:Hp}{N:List Str}{ws:List W}{vs:List V}{M:Ms}
theorem kg{i:Nat}{w:W}(hi:ws.length<=i)(e:look (au N.length ws) i=some w):False:=by
 rw[aS]at e;unfold au at e;rw[Gc (by simp;omega),eQ]at e;split at e
 .cases e
 .cases e
theorem sL{i:Nat}{w:W}(h:af K A H ws vs)(e:look (au N.length ws) i=some w):∃v,(start N vs)[i]?=some (some v)/\Rep K A H w v:=by
 have f:=h.len;by_cases a:i<ws.length
 .rw[aS]at e;unfold au at e;rw[KF (by simpa using a),DL]at e;obtain⟨d,c,b⟩:=Mo.mp e;cases b;obtain⟨v,b,r⟩:=h.get c;refine⟨v,?_,r⟩;unfold L2.start;rw[KF (by simp;lia),DL,b];rfl
 .exact(kg (by lia) e).elim
theorem Fq(h:af K A H ws vs)(d:Dom A H)(g:∀i m,(i,m)∈M->ws.length<=i)(b:∀i m a,(i,m)∈M->(i,a)∈M->m=a):SR K M ⟨A,A,none⟩ H (start N vs) H (au N.length ws):=by have f:=h.len;refine⟨by simp[L2.start,au,f],λi w k e=>sL h e,aq.refl _,d,(λv e=>by cases e),λ_=>[],⟨b,λi m w c e=>(kg (g i m c) e).elim,λ_ _ _=>rfl,λ_ _=>mN,(λi j p _ _ z=>by cases z),(λi p _ z=>by cases z),(λi p _ z=>by cases z),λp=>⟨.inl,λz=>z.elim id<|by rintro⟨_,_,z⟩;cases z⟩⟩⟩
open Classical in
noncomputable def era(F:List Addr)(H:Hp):Hp:=λp=>if p∈F then none else H p
theorem Ft{F:List Addr}{p:Addr}{o:HO}(h:era F H p=some o):p∉F/\H p=some o:=by
 unfold era at h;split at h
 .cases h
 .exact⟨by assumption,h⟩
theorem Fv{F:List Addr}{p:Addr}(h:era F H p=none):p∈F\/H p=none:=by
 unfold era at h;split at h
 .exact .inl (by assumption)
 .exact .inr h
theorem PR{F:List Addr}{p:Addr}(h:p∈F):era F H p=none:=by unfold era;rw[Bi h]
theorem JJ{F:List Addr}{p:Addr}(h:p∉F):era F H p=H p:=by unfold era;rw[BM h]
theorem Fw{F:List Addr}{k:W}{l:V}{q:Md}(E:F.Nodup)(G:∀p∈F,¬A p)(d:Dom A H)(P:Fp K (λp=>A p\/p∈F) H q k l F)(h:af K (λp=>A p\/p∈F) H ws vs)
 (s:(0,q)∈M)(O:∀i m,(i,m)∈M->i=0\/ws.length+1<=i)(y:∀i m B,(i,m)∈M->(i,B)∈M->m=B)(L:0<N.length):
 SR K M ⟨A,λp=>A p\/p∈F,some l⟩ (era F H) (start N (l::vs)) H (au N.length (k::ws)):=by
 have I:=h.len;have D:look (au N.length (k::ws)) 0=some k:=rfl;have C:(start N (l::vs))[0]?=some (some l):=rfl;have u:∀i,aL M i->i≠0->∀w,look (au N.length (k::ws)) i=some w->False:=λi ⟨m,r⟩ n w e=>kg (by rcases O i m r with z|z;exact(n z).elim;simpa using z) e;refine⟨by simp[L2.start,au,I],λi w g e=>?_,λp o e=>(Ft e).2,d,λv e=>?_,λi=>if i=0 then F else[],⟨y,λi m w r e=>?_,λi g e=>?_,λi g=>?_,λi j p g R a b=>?_,λi p g c=>?_,λi p g c=>?_,λp=>?_⟩⟩
 .cases i with
  |zero=>exact(g ⟨q,s⟩).elim
  |succ i=>
   have Q:look (ws.map some++A2 (N.length -(k::ws).length) none) i=some w:=e;have:look (au (N.length -1) ws) i=some w:=by unfold au;rw[show N.length -1 -ws.length=N.length -(k::ws).length by simp;lia];exact Q
   cases N with
   |nil=>cases L
   |cons x N=>obtain⟨v,f,t⟩:=sL (N:=N) h this;refine⟨v,?_,t⟩;unfold L2.start at f⊢;rw[L9,EF,List.getElem?_cons_succ,show(x::N).length -(l::vs).length=N.length -vs.length by simp];exact f
 .cases e;exact⟨C,q,s⟩
 .rcases dC i with rfl|g
  .have:=y 0 m q r s;subst this;rw[D]at e;cases e;exact⟨l,C,by rw[Bi rfl];exact P⟩
  .exact(u i ⟨m,r⟩ (by lia) w e).elim
 .rcases dC i with rfl|J
  .rw[D]at e;cases e
  .rw[BM (by lia)]
 .split
  .exact E
  .exact mN
 .by_cases f:i=0
  .by_cases t:j=0
   .rw[f,t]
   .rw[BM t]at b;cases b
  .rw[BM f]at a;cases a
 .by_cases f:i=0
  .rw[Bi f]at c;exact PR c
  .rw[BM f]at c;cases c
 .by_cases f:i=0
  .rw[Bi f]at c;exact G p c
  .rw[BM f]at c;cases c
 .constructor
  .rintro(z|z)
   .exact .inl z
   .exact .inr ⟨0,⟨q,s⟩,by rw[Bi rfl];exact z⟩
  .rintro(z|⟨i,g,c⟩)
   .exact .inl z
   .by_cases f:i=0
    .rw[Bi f]at c;exact .inr c
    .rw[BM f]at c;cases c
end
theorem LI{M:Ms}(h:(M.map (·.1)).Nodup):∀i m c,(i,m)∈M->(i,c)∈M->m=c:=by
 induction M with
 |nil=>intro i m c a;cases a
 |cons x M d=>
  obtain⟨j,k⟩:=x;rw[L9,X9]at h;intro i m c a b;rcases GE.mp a with a|a
  .rcases GE.mp b with b|b
   .cases a;cases b;rfl
   .cases a;exact(h.1 (Nw.mpr ⟨_,b,rfl⟩)).elim
  .rcases GE.mp b with b|b
   .cases b;exact(h.1 (Nw.mpr ⟨_,a,rfl⟩)).elim
   .exact d h.2 i m c a b
section
variable{P:Program}{w:World}{K:Frag}{mg:Str->Option Value}{base:Heap}{x qual:Str}{st:Stmt}{f:Addr}{fd:FuncData}{N ps:List Str}{k:Nat}{fn gn zn:List Str}{md:List Md}{mt:List (Nat×Nat)}{Φ:Nat->bD}{G:Nat->W}
theorem Fx{M:Ms}{b:Value}{A:Around}{a:List Env}{s:Shared}{H:Hp}{E:XK}(t:cS N ps (ai st))(T:Tab P w K mg base fn gn zn md mt Φ G k)(q:cU k (kD P w K mg base N qual (ai st) f b A a s H E).A)(un:∀i m r,(i,m)∈M->(i,r)∈M->m=r):
 wQ ⟨N,(ai st).names,M,fn,gn,zn,md,mt⟩ Φ (fS md) G (kD P w K mg base N qual (ai st) f b A a s H E):=
 {hN:=rfl,nd:=t.nd,calm:=rfl,un:=q.units,nk:=λ_=>rfl,
  fns:=λj x e h=>by obtain⟨v,n,p,o,l,d,c⟩:=T.fns j x e h;exact⟨v,n,p,o,l,q.mono d,c⟩
  Lu:=λj g x e h=>by obtain⟨f,fd,ps,n,p,o,l,d,c,u⟩:=T.Lu j g x e h;exact⟨f,fd,ps,n,p,o,l,d,q.mono c,u⟩
  B6:=rfl,Lv:=T.Lv,yw:=T.yw,kit:=T.kit,
  bk:=by show(if(ai st).kind.isAnnotationScope then ScopeKind.function else(ai st).kind)=_;rw[t.kind];rfl
  QS:=λ_=>rfl,E5:=T.E5,E6:=un}
theorem Fy(F:Dp K x qual st f fd)(O:cS N ps (ai st))(T:Tab P w K mg base fn gn zn md mt Φ G k)(b:List CS)(M:Ms)(m:Md)(t:bD)(hM:M.all (λi=>decide (ps.length<=i.1))=true)(hu:(M.map (·.1)).Nodup)(d:cW m=false)
 (g:cM ⟨N,(ai st).names,M,fn,gn,zn,md,mt⟩ (fS md) m b (aT st)=true)(B:∀c P R,t c P R->c.length=ps.length)
 (hp:∀c P R,t c P R->wSs Φ G b ⟨fall m P,P,λ_=>False,λ_=>False,R⟩ (au N.length c)):b9 P w K mg base (jB P w) (k+1) f fd ps (Lq K ps.length m t):=by
 refine Dp.Wh F O (by rintro vs H Q E ⟨A,c,P,R,p,o,_⟩;rw[o.len,p]) λcdv A n s H vs Q E hr hz=>?_;obtain⟨U,c,u,R,p,o,h3,h4,L,J⟩:=hz;have y:=LI hu;refine⟨_,ji Φ (fS md) G b (Fx O T hr y) (aT st) g,⟨U,U,none⟩,H,au N.length c,⟨fall m u,u,λ_=>False,λ_=>False,R⟩,Fq o h3 (λi m hi=>?_) y,⟨E,K7,λC j rc l=>J C j rc l,λe Y S s1 h' a C h I hx q=>zy e Y S s1 h' a C h I hx (J C S q.1 q.2)⟩,(by rw[d];rfl),hp c u R h4,⟨λA' Z X j ea eb D S'=>?_,λw v j hw l r=>?_,λ_ _ _ _ _ _ z=>z.elim,λ_ _ _ _ _ _ z=>z.elim⟩⟩
 .rw[p];exact D1 (Kj.mp hM (i,m) hi)
 .cases m with
  |s=>exact L .aV .aV j D S'.sm (.of (by dsimp only[Rep]))
  |io _=>cases d
  |_=>exact D.elim
 .cases m with
  |io _=>cases d
  |_=>exact L w v j hw l r
theorem ou(F:Dp K x qual st f fd)(Sc:cS N ps (ai st))(T:Tab P w K mg base fn gn zn md mt Φ G k)(b:List CS)(M:Ms)(j:Md)(Sf:bD)(hM:M.all (λi=>i.1==0||decide (ps.length<=i.1))=true)(hu:(M.map (·.1)).Nodup)(U:hasB M 0 j=true)(hN:0<N.length)
 (J:cM ⟨N,(ai st).names,M,fn,gn,zn,md,mt⟩ (fS md) (.io j) b (aT st)=true)(hlen:∀h P R,Sf h P R->h.length=ps.length)
 (D:∀h P R,Sf h P R->wSs Φ G b ⟨fall (.io j) P,P,λ_=>False,λ_=>False,R⟩ (au N.length h)):b9 P w K mg base (jB P w) (k+1) f fd ps (Lr K ps.length j Sf):=by
 refine Dp.Wh F Sc (by rintro vs H Q E ⟨ab,F,O,v0,h,vs',P,R,e,h1,_,_,_,_,h2,_⟩;rw[e,A6,h2.len,h1]) λcdv A outer s H vs Q E hr hz=>?_;obtain⟨ab,F,O,v0,h,vs',P0,R,e,h1,nd,na,d,fp,h2,h4,h5,h6⟩:=hz;subst e;have un:=LI hu;have U:=iH U;have Y:∀{c},aq (era F H) c->ua (·∈F) H c:=λ{c} t p o e=>by
  by_cases QL:p∈F
  .obtain⟨o',e',hm⟩:=Fp.mu j fp p QL;rw[e]at e';cases e';exact .inl ⟨hm,QL⟩
  .exact .inr (t p o (by rw[JJ QL];exact e))
 refine⟨_,ji Φ (fS md) G b (Fx Sc T hr un) (aT st) J,⟨ab,λp=>ab p\/p∈F,some v0⟩,era F H,au N.length (O::h),⟨fall (.io j) P0,P0,λ_=>False,λ_=>False,R⟩,Fw nd na d fp h2 U (λi m hi=>?_) un hN,⟨E,K7,λC c rc t=>h6 C c rc (Y t),λu σ H1 s1 h' a C L I hx q=>zy u σ H1 s1 h' a C L I hx (h6 C H1 q.1 (Y q.2))⟩,rfl,D _ P0 R h4,⟨λA' n σ' c ea eb l S'=>?_,λw v c hw t r=>?_,λ_ _ _ _ _ _ z=>z.elim,λ_ _ _ _ _ _ z=>z.elim⟩⟩
 .have:=Kj.mp hM (i,m) hi;rw[oI]at this;rcases this with z|z
  .exact .inl (P3.mp z)
  .exact .inr (by rw[h1];exact D1 z)
 .have l:(match look n 0 with|some O=>P0 (.tup [.aV,O])|none=>False):=l;cases hl:look n 0 with
  |none=>rw[hl]at l;exact l.elim
  |some y=>rw[hl]at l;obtain⟨wr,y',v0',F',e1,X,Xf,Z,g,S⟩:=uv (v:=.aV) S' U hl ⟨v0,eb⟩ (by dsimp only[Rep]:Rep K A'.B c .aV .aV);cases e1;rw[eb]at X;cases X;rw[ea]at g S Z;exact h5 .aV y .aV F' c l (Y S'.sm) Xf (λp D=>Fv (Z p D).1) g S
 .obtain⟨wr,y,v0',F',rfl,X,Xf,Z,g,S⟩:=r;cases X;exact h5 wr y v F' c hw (Y t) Xf (λp D=>Fv (Z p D).1) g S
end
end VL
namespace L2
open PySem PySem.Spec PyProof.Rows
abbrev rv(as:List (Addr×Rat)):List V:=as.map λx=>V.ref x.1
section
variable{X:Cx}{H:Hp}
end
theorem g7{α:Type}{a:List α}{x:α}(h:a.getLast?=some x):jt a (-1)=some x:=by
 have c:a≠[]:=by intro z;rw[z]at h;cases h
 have b:0<a.length:=HI.mpr c;unfold jt;have e:vE a.length (-1)=some (a.length -1):=by unfold vE;rw[BM (by decide),Bi (by lia)];congr 1;lia
 rw[e];show a[a.length -1]?=_;rw[<-h,Kk]
end L2
namespace VL
open PySem PySem.Spec
open PyProof.Rows hiding St
open L2
noncomputable def wq(r:Rat):W:=.tup [.int r.num,.int r.den]
noncomputable def aM(a:List Rat):W:=.lst (a.map wq)
section
variable{K:Frag}{A:Addr->Prop}{H H':Hp}{v:V}{p:Addr}{r:Rat}{rs:List Rat}
end
noncomputable def cg:List bD->Nat->bD
 |[],_=>λ_ _ _=>False
 |x::_,0=>x
 |_::l,n+1=>cg l n
noncomputable def nO:List W->Nat->W
 |[],_=>.aV
 |x::_,0=>x
 |_::l,n+1=>nO l n
section
variable{Q:W->Prop}{l a b:List W}{i j:Int}{x y:Str}{p q:Bool}
theorem x_len:qJ .len [.lst l] Q=Q (.int l.length):=rfl
theorem CJ{ns:List Int}:qJ .len [.gQ ns] Q=Q (.int ns.length):=rfl
theorem CI:qJ .len [.tup l] Q=Q (.int l.length):=rfl
theorem Kn:qJ .abs [.int i] Q=Q (.int (if i<0 then-i else i)):=rfl
theorem Ko:qJ .max2 [.int i,.int j] Q=Q (.int (if j>i then j else i)):=rfl
theorem Kp:qJ .min2 [.int i,.int j] Q=Q (.int (if j<i then j else i)):=rfl
theorem CK:qJ .list [.lst l] Q=Q (.lst l):=rfl
theorem yS:qJ .list [.tup l] Q=Q (.lst l):=rfl
theorem yT:qJ .tuple [.lst l] Q=Q (.tup l):=rfl
theorem vg:qJ .tuple [.tup l] Q=Q (.tup l):=rfl
theorem Ul:qJ .QG [.int i,.int j] Q=((0<j/\j<1073741824)/\Q (.tup [.int (i/j),.int (i%j)])):=rfl
theorem Kq:qJ .int [.bl p] Q=Q (.int (if p then 1 else 0)):=rfl
theorem Kr:gR .Add (.int i) (.int j) Q=Q (.int (i+j)):=rfl
theorem Ku:gR .Add (.lst a) (.lst b) Q=(a.length+b.length<=sizeLine/\Q (.lst (a++b))):=rfl
theorem Kv:gR .Sub (.int i) (.int j) Q=Q (.int (i -j)):=rfl
theorem Kw:gR .Mult (.int i) (.int j) Q=(IntMulOk i j/\Q (.int (i*j))):=rfl
theorem Ky:gR .Mult (.lst a) (.int j) Q=(-(2^63)<=j/\j<2^63/\a.length*j.toNat<=sizeLine/\Q (.lst (A2 j.toNat a).flatten)):=rfl
theorem CL:gR .FloorDiv (.int i) (.int j) Q=(zx i j/\Q (.int (i.fdiv j))):=rfl
theorem Kz:gR .Mod (.int i) (.int j) Q=(j≠0/\Q (.int (i.fmod j))):=rfl
theorem KA:gR .Pow (.int i) (.int j) Q=(Br i j/\Q (.int (i^j.toNat))):=rfl
theorem KC:gR .RShift (.int i) (.int j) Q=(0<=j/\Q (.int (i/2^j.toNat))):=rfl
theorem Q0:eZ .Eq (.int i) (.int j) Q=Q (.bl (decide (i=j))):=rfl
theorem Q2:eZ .NotEq (.int i) (.int j) Q=Q (.bl (!decide (i=j))):=rfl
theorem x_lt:eZ .Lt (.int i) (.int j) Q=Q (.bl (decide (i<j))):=rfl
theorem Q3:eZ .LtE (.int i) (.int j) Q=Q (.bl (decide (i<=j))):=rfl
theorem Q4:eZ .Gt (.int i) (.int j) Q=Q (.bl (decide (j<i))):=rfl
theorem Q5:eZ .GtE (.int i) (.int j) Q=Q (.bl (decide (j<=i))):=rfl
theorem sU{Q:Bool->Prop}:truth (.bl p) Q=Q p:=rfl
theorem Q6:Nk (.lst l) (.int i) Q=∃w,jt l i=some w/\Q w:=rfl
theorem KG{ns:List Int}:Nk (.gQ ns) (.int i) Q=∃n,jt ns i=some n/\Q (.int n):=rfl
theorem KH{ns:List Int}{lo hi:Option Int}:Vg (.gQ ns) lo hi Q=Q (.lst (mJ (ns.map W.int) lo hi)):=rfl
theorem KD:Nk (.tup l) (.int i) Q=∃w,jt l i=some w/\Q w:=rfl
theorem Q7{lo hi:Option Int}:Vg (.lst l) lo hi Q=Q (.lst (mJ l lo hi)):=rfl
theorem KI{w:W}{Q:Option Int->Prop}:Ie .aV w Q=Q none:=rfl
theorem KJ{n:Int}{Q:Option Int->Prop}:Ie (.int n) (.int i) Q=Q (some i):=rfl
theorem KL{n:Nat}{Q:Option Int->Prop}:Ie (.var n) (.int i) Q=Q (some i):=rfl
theorem KN{o:Operator}{c d:CE}{Q:Option Int->Prop}:Ie (.bin o c d) (.int i) Q=Q (some i):=rfl
theorem yU{Q:List W->Prop}:items (.lst l) Q=Q l:=rfl
theorem vh{Q:List W->Prop}:items (.tup l) Q=Q l:=rfl
theorem Q8{n:Nat}{w:W}{c:Ev}{Q:Ev->Prop}:wT true [n] w c Q=Q (c.set n (some w)):=rfl
theorem Q9{c:List Nat}{d:Ev}{Q:Ev->Prop}:wT false c (.tup l) d Q=(l.length=c.length/\Q (cF d c l)):=by
 cases c<;>rfl
theorem KO{i j:Nat}{c:Ev}{Q:Ev->Prop}:wT false [i,j] (.tup l) c Q=(l.length=2/\Q (cF c [i,j] l)):=rfl
theorem KQ{i j k:Nat}{c:Ev}{Q:Ev->Prop}:wT false [i,j,k] (.tup l) c Q=(l.length=3/\Q (cF c [i,j,k] l)):=rfl
theorem CM{A B:Prop}:(if true=true then A else B)=A:=rfl
theorem yV{A B:Prop}:(if false=true then A else B)=B:=rfl
end
noncomputable def YL(c:Nat->bD)(G:Nat->W)(one:Bool)(d:List Nat)(b:List CS):W->Dn->Ev->Prop:=λw f a=>wT one d w a λe=>wSs c G b f e
theorem QY{c:Nat->bD}{G:Nat->W}{d:List Nat}{one:Bool}{e:CE}{b:List CS}{D:Dn}{a:Ev}:wS c G (.fr d one e b) D a=wE c G (λ_=>False) e a λz=>items z λf=>kU (YL c G one d b) D f a:=rfl
theorem QZ{c:Nat->bD}{G:Nat->W}{d:List Nat}{one:Bool}{b:List CS}{w:W}{D:Dn}{a:Ev}:YL c G one d b w D a=wT one d w a λe=>wSs c G b D e:=rfl
noncomputable def WN{α:Type}(S:α->Ev)(J:α->Prop)(c:α->Nat)(s:α):Ev->Prop:=λa=>∃b,a=S b/\J b/\c b<c s
noncomputable def QT{α:Type}(S:α->Ev)(J:α->Prop)(d:α->Nat)(b:Dn->Ev->Prop)(D:Dn)(s:α)(k:Bool):Prop:=
 if k=true then∃N:Ev->Prop,(∀a,N a->∃e,e<d s/\∃c,a=S c/\e=d c/\J c)/\b {nx:=N,rt:=D.rt,bk:=D.nx,ct:=N,ex:=λ_=>False} (S s)else D.nx (S s)
theorem eH{α:Type}{S:α->Ev}{J:α->Prop}{a:α->Nat}{b:Dn->Ev->Prop}{D:Dn}{s:α}{k:Bool}(g:k=true->b {nx:=WN S J a s,rt:=D.rt,bk:=D.nx,ct:=WN S J a s,ex:=λ_=>False} (S s))(f:k=false->D.nx (S s)):QT S J a b D s k:=by
 unfold QT;cases k with
 |true=>exact⟨_,by rintro c ⟨d,e,j,l⟩;exact⟨_,l,d,e,rfl,j⟩,g rfl⟩
 |false=>exact f rfl
theorem kh{c:Ev->(Bool->Prop)->Prop}{b:Dn->Ev->Prop}{D:Dn}{a:Ev}{α:Type}(S:α->Ev)(J:α->Prop)(d:α->Nat)(s0:α)(g:a=S s0)(f:J s0)(e:∀s,J s->c (S s) (QT S J d b D s)):Ig c b D a:=by refine⟨λm a=>∃s,a=S s/\m=d s/\J s,⟨_,s0,g,rfl,f⟩,?_⟩;rintro m _ ⟨s,rfl,rfl,j⟩;exact e s j
theorem cD{α:Type}{f:W->(Option W->Prop)->Prop}{h g:α->W}:∀(b:List α)(a:List W)(Q:List W->Prop),(∀x∈b,∀K:Option W->Prop,K (some (g x))->f (h x) K)->a.length+b.length<=sizeLine->Q (a++b.map g)->mK f (b.map h) a Q
 |[],a,Q,_,_,q=>by rw[oe,mK];simpa using q
 |w::b,a,Q,c,l,q=>by
  rw[L9,mK];refine c w (FR ..) _ ⟨?_,cD b _ Q (λx d=>c x (Ee _ d)) ?_ ?_⟩
  .rw[A6]at l;lia
  .rw[FS,Vz];rw[A6]at l;lia
  .rw[RF];exact q
theorem fW{α:Type}(x:α):∀n,(A2 n [x]).flatten=A2 n x
 |0=>rfl
 |n+1=>by rw[G9,Gm,fW x n];rfl
theorem ao{n:Nat}(h:n<=1000):n<=sizeLine:=Bz h (by decide)
theorem yD(K:Frag):wz K:=by intro a d b c;simp only[GE,UF,lx]at d c;rcases d with rfl|rfl|rfl|rfl|rfl|rfl<;>rcases c with rfl|rfl|rfl|rfl|rfl|rfl<;>rfl
theorem fX{n:Nat}(h:n<=1000):n<sizeLine:=IR h (by decide)
theorem oA(i:Int)(n:Nat):wk n (.int i)=true:=by
 cases n<;>rfl
theorem PU(r:Rat)(n:Nat):wk (n+1) (wq r)=true:=by unfold wq;dsimp only[wk];rw[G1,G1,oA,oA];rfl
theorem AL(a:List Rat)(n:Nat):wk (n+2) (.lst (a.map wq))=true:=by dsimp only[wk];rw[Kj];intro x b;obtain⟨r,_,rfl⟩:=Nw.mp b;exact PU r n
theorem PV{r s:Rat}(h:wq r=wq s):r=s:=by have h:=W.S5 h;simp only[X0,and_true]at h;exact Rat.ext (W.Ae h.1) (by have:=W.Ae h.2;lia)
theorem JK{d c:List Rat}(h:W.lst (d.map wq)=.lst (c.map wq)):d=c:=by exact(LZ (λa b e=>PV e)).mp (W.Ep h)
theorem PX{x y:List Rat}{Q:W->Prop}(h:∀k:Bool,(k=true↔x=y)->Q (.bl k)):eZ .Eq (aM x) (aM y) Q:=
 ⟨.inl ⟨AL x 7,AL y 7⟩,λk a=>h k (a.trans ⟨λe=>JK e,λe=>by rw[e]⟩)⟩
theorem iI{k:Bool}{p:Prop}(h:k=true↔p)(q:p):k=true:=h.mpr q
theorem fY{k:Bool}{p:Prop}(h:k=true↔p)(q:¬p):k=false:=by
 cases k with
 |false=>rfl
 |true=>exact absurd (h.mp rfl) q
noncomputable def Hd(K:Frag)(x:Str)(st:Stmt):Prop:=∃(f:Addr)(d i:Option Addr)(b:Array (Option Value))(e kV g c a h:Value),
 nsIn K mainGlobals x=some (some (.ref f))/\K.lookup f=some ⟨e,d,.func (fnOf x x (cj st) (aT st) (ai st) .none kV g c i a h),b⟩/\codeIn K a x=true/\keepIn K (.ref f)=true
noncomputable def Hm(K:Frag)(C:Addr)(x q:Str)(st:Stmt):Prop:=∃(f:Addr)(d i:Option Addr)(b:Array (Option Value))(e kV g c a h:Value),
 findIn K (.ref C) x=some (some (.ref f))/\isFn K (.ref f)=true/\K.lookup f=some ⟨e,d,.func (fnOf x q (cj st) (aT st) (ai st) .none kV g c i a h),b⟩/\codeIn K a q=true/\keepIn K (.ref f)=true
structure Df(K:Frag)(mg:Str->Option Value)(x:Str)(st:Stmt)(ps:List Str)(f:Addr)(fd:FuncData):Prop where
 F:Dp K x x st f fd
 m:mg x=some (.ref f)
 b:Binds K fd ps []
 bt:∀(s:Shared)(us:List Value),us.length=ps.length->BindsTo s fd ⟨us,[]⟩ (ps.zip us)
structure Dm(K:Frag)(C:Addr)(x q:Str)(st:Stmt)(ps:List Str)(f:Addr)(fd:FuncData):Prop where
 F:Dp K x q st f fd
 M:Meth K C x f
 b:Binds K fd ps []
abbrev iJ(x q:Str)(st:Stmt)(ps:List Str):Prop:=∀(kV doc pm:Value)(an:Option Addr)(cdv ct:Value)(us:List Value),us.length=ps.length->bindArgs (fnOf x q (cj st) (aT st) (ai st) .none kV doc pm an cdv ct) ⟨us,[]⟩=pure (ps.zip us)
theorem qT{α:Type}{l:List α}{n:Nat}(h:l.length=n+1):∃a r,l=a::r/\r.length=n:=by
 cases l with
 |nil=>cases h
 |cons a r=>exact⟨a,r,rfl,L0 h⟩
theorem Um{K:Frag}{h:Heap}{d:Str->Option Value}{x:Str}{st:Stmt}{ps:List Str}(X:K.In h)(G:h.Ns mainGlobals d)(j:Hd K x st)(b:iJ x x st ps):∃f m,Df K d x st ps f m:=by obtain⟨f,t,q,r,u,kV,n,g,p,o,a,l,c,k⟩:=j;have F:=Dq (st:=st) l c k;exact⟨f,_,F,mg_of X G a,F.binds b,λs e i=>.of_eq (b kV n g q p o e i)⟩
theorem LJ{K:Frag}{C:Addr}{x q:Str}{st:Stmt}{ps:List Str}(d:Hm K C x q st)(b:iJ x q st ps):∃f e,Dm K C x q st ps f e:=by obtain⟨f,j,r,g,m,kV,n,h,p,o,a,i,l,c,k⟩:=d;have F:=Dq (st:=st) l c k;exact⟨f,_,F,⟨a,i,k⟩,F.binds b⟩
structure Hc(K:Frag)(mg:Str->Option Value)(x:Str)(C:Addr)(fs:List Str):Prop where
 c:mg x=some (.ref C)
 ok:yi K C fs
 mks:makesIn K C=true
 kp:keepIn K (.ref C)=true
theorem yE{K:Frag}{H:Hp}{a:Addr}{ns:List Int}(c:Dk H)(b:ie K H a (ns.map V.int)):Rep K (λ_=>False) H (.gQ ns) (.ref a):=by
 refine⟨a,rfl,?_⟩;rcases b with(h|⟨o,h⟩)|h
 .rcases c a with z|⟨o,d,z⟩
  .rw[z]at h;cases h
  .rw[z]at h;cases h
 .exact .inl ⟨o,h⟩
 .exact .inr (.inr h)
noncomputable def PY:bD:=λb Q _=>∃a:List Int,b=[.gQ a]/\a.length<=63/\Q (.bl true)
noncomputable def AM(K:Frag):Sp:=λc H Q _=>∃(a:Addr)(b:List Int),c=[.ref a]/\Dk H/\ie K H a (b.map V.int)/\b.length<=63/\∀d,Q (.bl true) d
theorem PZ{P:Program}{w:World}{K:Frag}{c:Str->Option Value}{base:Heap}{k:Nat}{f:Addr}{d:FuncData}{x:Str}(F:b9 P w K c base (jB P w) k f d [x] (Lq K 1 .s PY)):b9 P w K c base Sb k f d [x] (AM K):=by refine(b9.Se F).imp λm H Q E ⟨a,b,e,j,i,h,q⟩=>?_;subst e;refine⟨λ_=>False,[.gQ b],λw=>w=.bl true,λ_=>False,rfl,.cons (yE j i) .nil,λ_ z=>z.elim,⟨b,rfl,h,rfl⟩,λw v l g _ r=>?_,λ_ _ z=>z.elim⟩;subst g;have r:=r.bI;dsimp only[Rep]at r;subst r;exact q l
theorem walk{l:PySem.W.OpenLaw}{q:Program}{b:List Str}{B:(Str->Option Value)->Heap->Prop}{m:World->Heap->Prop}{d:DefRec}{K:Params->Frag}{k:Nat}(r:l.most=some 63)(g:d.params.defaults=[])(p:cU k callerA)(C:importsNone q=true)(e:l.prog.given.tree=none)
 (v:∀(w:World)(h:Heap),m w h->(K w.params).In h)
 (F:∀(w:World)(c:Str->Option Value)(j:Addr)(h:Heap),(K w.params).In h->h.Ns mainGlobals c->c d.name=some (.ref j)->
   ∃i:FuncData,(∀(s:Shared)(u:Value),BindsTo s i ⟨[u],[]⟩ [("_law_script",u)])/\∀base:Heap,(K w.params).In base->base.Ns mainGlobals c->b9 l.prog w (K w.params) c base Sb k j i ["_law_script"] (AM (K w.params))):
 PySem.W.WalkO q b B m l.row.toRowW d [] (λf us=>PySem.call f us):=
 L2.Hf (n:=63) (k:=k) (x:="_law_script") (CX:=λ_=>Sb) (sp:=λw=>AM (K w.params)) r (by decide) g p C e v F (λ_ _ a o t A y=>⟨a,o,rfl,A,y,t,λ_=>rfl⟩) λ_ _ _ _ _ z=>z
noncomputable def Vo:bD:=λ_ _ _=>False
theorem Uo{P:Program}{w:World}{K:Frag}{d:Str->Option Value}{base:Heap}{k n:Nat}{f:Addr}{e:FuncData}{ps:List Str}:b9 P w K d base (jB P w) k f e ps (oj K n .s Vo):=
 ⟨by rintro c H Q E ⟨_,_,_,_,_,_,_,z,_⟩;exact z.elim,by rintro A a s H b g c Q E h j i r ⟨_,_,_,_,_,_,_,z,_⟩;exact z.elim⟩
theorem Df.i7{P:Program}{w:World}{K:Frag}{d:Str->Option Value}{base:Heap}{x:Str}{st:Stmt}{ps:List Str}{f:Addr}{h:FuncData}{k n:Nat}{m:Md}{sp:bD}(D:Df K d x st ps f h)(F:b9 P w K d base (jB P w) k f h ps (oj K n m sp))(j:n=ps.length)(i:∀a P R,sp a P R->a.length=n){e:Nat}(l:k<=e):
 ∃g n c,d x=some g/\cH P w K d base c g n (oj K n m sp)/\c<=e/\∀a P R,sp a P R->a.length=n:=by
 subst j;exact⟨_,_,k,D.m,.fn D.F.kp D.b F,l,i⟩
theorem Dm.i7{P:Program}{w:World}{K:Frag}{g:Str->Option Value}{base:Heap}{x q:Str}{st:Stmt}{ps:List Str}{C f:Addr}{a:FuncData}{k n:Nat}{m:Md}{sp:bD}(D:Dm K C x q st ps f a)(F:b9 P w K g base (jB P w) k f a ps (oj K n m sp))(i:∀c P R,sp c P R->c.length=n){h:Nat}(j:k<=h){G:W}(l:G=.cls C):
 ∃f a ps n d,(∀C,G=.cls C->Meth K C x f)/\Binds K a ps []/\b9 P w K g base (jB P w) d f a ps (oj K n m sp)/\d<=h/\∀c P R,sp c P R->c.length=n:=
 ⟨f,a,ps,n,k,λo e=>by rw[l]at e;cases e;exact D.M,D.b,F,j,i⟩
end VL
namespace VL
open PySem PySem.Spec
open PyProof.Rows hiding St
open L2 Num
abbrev bU(m:Md)(P:W->Prop)(R:Addr->Prop):Dn:=⟨fall m P,P,λ_=>False,λ_=>False,R⟩
noncomputable def wI(ns:List Int):W:=.lst (ns.map W.int)
theorem bu{b:W->Dn->Ev->Prop}{D:Dn}{d:List W}{a:Ev}(J:Nat->Ev->Prop)(n:J 0 a)(l:∀i w a N,d[i]?=some w->J i a->(∀c,J (i+1) c->N c)->b w ⟨N,D.rt,D.nx,N,λ_=>False⟩ a)(m:∀a,J d.length a->D.nx a):kU b D d a:=by
 have:∀k i a,i+k=d.length->J i a->kU b D (d.drop i) a:=by
  intro k
  induction k with
  |zero=>intro i a e j;rw[List.drop_of_length_le (by lia),kU];exact m a (by rw[<-e];exact j)
  |succ k h=>
   intro i a e j;have f:i<d.length:=by lia
   rw[T2 f,kU];exact l i _ a _ (B1 f) j λc g=>h (i+1) c (by lia) g
 exact this d.length 0 a (by lia) n
theorem aG{x y:Int}{n m:Nat}(h:x.natAbs<2^n)(b:y.natAbs<2^m)(a:n+m<=134217728):IntMulOk x y:=xW (Bz (i5 (bits_le h) (bits_le b)) a)
theorem qg{y:Int}{n:Nat}(h:y.natAbs<2^n)(a:n<=8000):y.natAbs.log2<1000000000:=by
 rcases dC y.natAbs with e|e
 .rw[e];decide
 .have:=(To (mI e)).mpr h;lia
theorem uE{y:Int}{n:Nat}(h:y.natAbs<2^n)(a:n<=999999999):y.natAbs.log2<1000000000:=by
 rcases dC y.natAbs with e|e
 .rw[e];decide
 .have:=(To (mI e)).mpr h;lia
theorem FA(r:Rat):(r.den:Int)≠0:=by have:=r.den_pos;lia
noncomputable def qh:List CS:=[.ret (.comp [0] true 1 (.var 0) (.bl true) (.bin .Mult (.var 2) (.var 0)))]
noncomputable def iK:bD:=λc Q _=>∃(a:List Int)(b:Int),c=[wI a,.int b]/\a.length<=1000/\(∀x∈a,IntMulOk b x)/\Q (wI (a.map (b*·)))
theorem FD{e:Nat->bD}{G:Nat->W}{m:Md}(c:List W)(Q:W->Prop)(R:Addr->Prop)(h:iK c Q R):wSs e G qh (bU m Q R) (au 2 c):=by obtain⟨d,b,rfl,i,j,a⟩:=h;show wSs _ _ qh _ [some (wI d),some (.int b)];unfold qh wI;fin2;refine cD (g:=λx=>.int (b*x)) d [] _ (λx f K k=>⟨j x f,k⟩) (ao (by simpa using i)) ?_;rw[C4];unfold wI at a;rw[Qr]at a;exact a
noncomputable def uF:List CS:=[.Ag (.cmp .NotEq (.var 1) (.int 0)) [.par [0,1] [(.var 1),(.bin .Mod (.var 0) (.var 1))]],.ret (.blt .abs [(.var 0)])]
noncomputable def AO:bD:=λc Q _=>∃a b:Int,c=[.int a,.int b]/\Q (.int (Aa a b:Nat))
theorem JL{k:Nat->bD}{G:Nat->W}{m:Md}(f:List W)(Q:W->Prop)(R:Addr->Prop)(h:AO f Q R):wSs k G uF (bU m Q R) (au 2 f):=by
 obtain⟨a,b,rfl,l⟩:=h;show wSs _ _ uF _ [some (.int a),some (.int b)];unfold uF;fin2;refine kh (α:=Int×Int) (λx=>[some (.int x.1),some (.int x.2)]) (λx=>Aa x.1 x.2=Aa a b) (λx=>x.2.natAbs) (a,b) rfl rfl ?_;rintro⟨x,y⟩ g;fin2;refine eH (λd=>?_) (λd=>?_)
 .have c:y≠0:=by simpa using d
  have j:=vL x y (x.fdiv y);have i:=DI x y c;rw[<-Num.fmod_eq]at j i;fin2;exact⟨c,rfl,(y,x.fmod y),rfl,j.trans g,i⟩
 .have c:y=0:=by simpa using d
  subst c;fin2;have e:(if x<0 then-x else x)=((Aa a b:Nat):Int):=by rw[<-g,Pc];split<;>lia
  rw[e];exact l
noncomputable def qi:List CS:=[.set 2 (.call 0 [(.var 0),(.var 1)]),.iff (.cmp .Lt (.var 1) (.int 0)) [.set 2 (.bin .Sub (.int 0) (.var 2))] [],.ret (.tup [(.bin .FloorDiv (.var 0) (.var 2)),(.bin .FloorDiv (.var 1) (.var 2))])]
theorem kj{n i:Nat}{w:W}(h:(fj 0 1 n)[i]?=some w):i<n/\w=.int i:=by unfold fj at h;rw[DL]at h;obtain⟨j,e,rfl⟩:=Mo.mp h;obtain⟨b,a⟩:=Fu.mp e;rw[Y4]at a;rw[W1]at b;refine⟨b,?_⟩;rw[<-a];simp
theorem bH{l:List W}{k:Nat}{w:W}(h:l[k]?=some w):jt l (k:Int)=some w:=by unfold jt vE;have:=(Fu.mp h).1;rw[Bi (by lia),Bi (by lia)];simpa using h
theorem iL{n k:Nat}(h:k<n):vE n (k:Int)=some k:=by unfold vE;rw[Bi (by lia),Bi (by lia)];simp
theorem fm{x:Int}{n:Int}(a:0<n):0<=x.fmod n/\x.fmod n<n:=⟨Int.fmod_nonneg_of_pos x a,Int.fmod_lt_of_pos x a⟩
theorem aE{b:Nat->bD}{G:Nat->W}{s t:CS}{d:List CS}{D:Dn}{c:Ev}(J:Ev->Prop)(f:∀N:Ev->Prop,(∀a,J a->N a)->wS b G s {D with nx:=N} c)(e:∀a,J a->wSs b G (t::d) D a):wSs b G (s::t::d) D c:=f _ e
theorem int_at{ns:List Int}{k:Nat}(h:k<ns.length):(ns.map W.int)[k]?=some (.int (ns.getD k 0)):=by rw[DL,AC,B1 h];rfl
theorem uG{ns:List Int}{P:Int->Prop}(h:∀n∈ns,P n){k:Nat}(a:k<ns.length):P (ns.getD k 0):=by rw[AC,B1 a];exact h _ (Sr _)
theorem FE(ns:List Int)(k:Nat)(h:k<=ns.length):mJ (ns.map W.int) none (some (k:Int))=(ns.take k).map W.int:=by unfold mJ;rw[HT.zp,HT.vC,Ap,pj,show min k ns.length -0=k by lia,Zr]
noncomputable def mU:List CS:=[.set 1 (.blt .len [(.var 0)]),.Ag (.and [(.cmp .Gt (.var 1) (.int 0)),(.cmp .Eq (.ix (.var 0) (.bin .Sub (.var 1) (.int 1))) (.int 0))]) [.set 1 (.bin .Sub (.var 1) (.int 1))],.ret (.sl (.var 0) .aV (.var 1))]
noncomputable def lG:bD:=λc Q _=>∃a:List Int,c=[wI a]/\∀b,iy a b->Q (wI b)
theorem Cm{l:Nat->bD}{G:Nat->W}{m:Md}(i:List W)(Q:W->Prop)(R:Addr->Prop)(h:lG i Q R):wSs l G mU (bU m Q R) (au 2 i):=by
 obtain⟨c,rfl,n⟩:=h;show wSs _ _ mU _ [some (wI c),none];unfold mU wI;fin2;refine kh (α:=Nat) (λk=>[some (.lst (c.map W.int)),some (.int k)]) (λk=>k<=c.length/\∀j,k<=j->j<c.length->c.getD j 0=0) (λk=>k) c.length (by rw[Ap]) ⟨D2 _,λj g f=>by lia⟩ ?_;rintro k ⟨g,f⟩;fin2;have d:(k=0\/c.getD (k -1) 0≠0)->Q (.lst (mJ (c.map W.int) none (some (k:Int)))):=λh=>by rw[FE c k g];exact n _ ⟨k,g,rfl,f,h⟩
 by_cases o:0<k
 .rw[Bi (He (by lia))];rw[show(k:Int) -1=((k -1:Nat):Int) by lia];refine⟨_,bH (int_at (by lia)),?_⟩;fin2;refine eH (λz=>?_) (λz=>?_)
  .have z:=D1 z;fin2;refine⟨k -1,by rw[show(k:Int) -1=((k -1:Nat):Int) by lia],⟨by lia,λj a b=>?_⟩,by show k -1<k;lia⟩;by_cases e:j=k -1
   .rw[e];exact z
   .exact f j (by lia) b
  .have z:=fe z;fin2;exact d (.inr z)
 .rw[BM (by rw[Kx];lia)];refine eH (λz=>by cases z) (λ_=>?_);fin2;exact d (.inl (by lia))
noncomputable def iM:List CS:=[.set 2 (.blt .max2 [(.blt .len [(.var 0)]),(.blt .len [(.var 1)])]),.set 3 (.bin .Add (.blt .list [(.var 0)]) (.bin .Mult (.lst [(.int 0)]) (.bin .Sub (.var 2) (.blt .len [(.var 0)])))),.fr [4,5] false (.sA (.var 1)) [.put 3 (.var 4) (.bin .Add (.ix (.var 3) (.var 4)) (.var 5))],.ret (.call 0 [(.var 3)])]
noncomputable def jj:bD:=λd Q _=>∃a b:List Int,d=[wI a,wI b]/\a.length<=200/\b.length<=200/\∀c,iy ((Bn (max a.length b.length)).map λk=>a.getD k 0+b.getD k 0) c->Q (wI c)
theorem uH{G:Nat->W}{m:Md}(t:List W)(Q:W->Prop)(R:Addr->Prop)(h:jj t Q R):wSs (cg [lG]) G iM (bU m Q R) (au 6 t):=by
 obtain⟨b,a,rfl,u,v,E⟩:=h;show wSs _ _ iM _ [some (wI b),some (wI a),none,none,none,none];unfold iM wI;fin2;have c:(if((a.map W.int).length:Int)>((b.map W.int).length:Int)then((a.map W.int).length:Int)else((b.map W.int).length:Int))=((max b.length a.length:Nat):Int):=by rw[Ap,Ap];split<;>lia
 rw[c];have d:((max b.length a.length:Nat):Int) -((b.map W.int).length:Int)=((max b.length a.length -b.length:Nat):Int):=by rw[Ap];clear c v u;lia
 rw[d,CB,fW];generalize J:max b.length a.length=L at*;refine⟨ao (by simp),by clear d c J v u;lia,by clear d c;lia,ao (by simp;clear d c;lia),ao (by simp;clear d c;lia),?_⟩;have g:∀(f:Nat->Int)(k:Nat),k<L->((Bn L).map f)[k]?=some (f k):=λf k F=>by rw[DL,UV F];rfl
 refine bu (λi z=>∃o n,z=[some (.lst (b.map W.int)),some (.lst (a.map W.int)),some (.int L),some (.lst (((Bn L).map λk=>b.getD k 0+if k<i then a.getD k 0 else 0).map W.int)),o,n]) ⟨none,none,?_⟩ ?_ ?_
 .have:b.map W.int++A2 (L -b.length) (W.int 0)=((Bn L).map λk=>b.getD k 0+if k<0 then a.getD k 0 else 0).map W.int:=by
   refine cw λq=>?_;by_cases s:q<b.length
   .rw[KF (by simpa using s),int_at s,DL,g _ q (by lia),BM (by lia),h7];rfl
   .by_cases j:q<L
    .rw[Gc (by simpa using s),eQ,Bi (by rw[Ap];omega),DL,g _ q j,BM (by lia),AC,Do (by lia)];rfl
    .rw[Do (by simp;omega),Do (by simp;lia)]
  rw[this]
 .rintro i w _ N C ⟨o,n,rfl⟩ I;obtain⟨x,p,rfl⟩:=mL C;have H:i<a.length:=by have:=(Fu.mp p).1;simpa using this
  rw[int_at H]at p;cases p;fin2;have r:i<L:=by omega
  refine⟨rfl,_,bH (by rw[DL,g _ i r];rfl),?_⟩;fin2;refine⟨i,iL (by simpa using r),I _ ⟨some (.int i),some (.int (a.getD i 0)),?_⟩⟩;have:((Bn L).map λk=>b.getD k 0+if k<i then a.getD k 0 else 0).set i (b.getD i 0+(if i<i then a.getD i 0 else 0)+a.getD i 0)=(Bn L).map λk=>b.getD k 0+if k<i+1 then a.getD k 0 else 0:=by
   refine cw λq=>?_;rw[QX];by_cases j:q<L
   .rw[g _ q j,g _ q j];by_cases e:i=q
    .subst e;rw[Bi rfl,Bi (by simpa using r),BM (by lia),Bi (by lia)];congr 1;lia
    .rw[BM e];by_cases y:q<i
     .rw[Bi y,Bi (by lia)]
     .rw[BM y,BM (by lia)]
   .rw[BM (by lia),Do (by simp;lia),Do (by simp;lia)]
  rw[<-this,gd]
 .rintro _ ⟨o,n,rfl⟩;have B:(gh (a.map W.int)).length=a.length:=by unfold gh;simp
  rw[B];fin2;refine⟨_,rfl,λA D=>E A ?_⟩;have:((Bn L).map λk=>b.getD k 0+if k<a.length then a.getD k 0 else 0)=(Bn L).map λk=>b.getD k 0+a.getD k 0:=by
   refine Yf λk _=>?_;by_cases h:k<a.length
   .rw[Bi h]
   .rw[BM h,AC (l:=a),Do (by lia)];rfl
  rw[<-this];exact D
noncomputable def gA:List CS:=[.ret (.call 0 [(.var 0),(.call 1 [(.var 1),(.neg (.int 1))])])]
noncomputable def iN:bD:=λe Q _=>∃(c a:List Int)(b:Nat),e=[wI c,wI a]/\c.length<=200/\a.length<=200/\b<=100000000/\(∀x∈a,x.natAbs<2^b)/\∀d,iy ((Bn (max c.length a.length)).map λk=>c.getD k 0 -a.getD k 0) d->Q (wI d)
theorem qU{G:Nat->W}{m:Md}(e:List W)(Q:W->Prop)(R:Addr->Prop)(h:iN e Q R):wSs (cg [jj,iK]) G gA (bU m Q R) (au 2 e):=by
 obtain⟨c,a,b,rfl,i,j,q,d,p⟩:=h;show wSs _ _ gA _ [some (wI c),some (wI a)];unfold gA;fin2;refine⟨a,-1,rfl,by lia,λx o=>aG (n:=1) (m:=b) (by decide) (d x o) (by lia),?_⟩;refine⟨c,a.map (-1*·),rfl,i,by rw[Ap];exact j,λg f=>p g ?_⟩;rw[Ap]at f;have:((Bn (max c.length a.length)).map λk=>c.getD k 0+(a.map (-1*·)).getD k 0)=(Bn (max c.length a.length)).map λk=>c.getD k 0 -a.getD k 0:=by
  refine Yf λk _=>?_;rw[AC (l:=a.map _),DL,AC (l:=a)];cases a[k]? with
  |none=>show _+(0:Int)=_ -(0:Int);lia
  |some z=>show _+ -1*z=_ -z;lia
 rw[<-this];exact f
noncomputable def qj:List CS:=[.set 2 (.int 1),.Ag (.cmp .Gt (.var 1) (.int 0)) [.iff (.cmp .Eq (.bin .Mod (.var 1) (.int 2)) (.int 1)) [.set 2 (.bin .Mult (.var 2) (.var 0))] [],.set 1 (.bin .FloorDiv (.var 1) (.int 2)),.iff (.cmp .Gt (.var 1) (.int 0)) [.set 0 (.bin .Mult (.var 0) (.var 0))] []],.ret (.var 2)]
noncomputable def oB:bD:=λa Q _=>∃(x:Int)(e n:Nat),a=[.int x,.int e]/\x.natAbs<2^n/\n*(e+1)<=130000000/\Q (.int (x^e))
theorem Uq{x:Int}{n:Nat}(h:x.natAbs<2^n)(e:Nat):(x^e).natAbs<2^(n*e+1):=by rw[Zs];have:x.natAbs^e<=(2^n)^e:=SL (Q1 h) e;rw[<-du]at this;rw[Gv];have:=T1 (n:=n*e) (show 0<2 by decide);lia
theorem FF{t:Nat->bD}{G:Nat->W}{m:Md}(i:List W)(Q:W->Prop)(R:Addr->Prop)(h:oB i Q R):wSs t G qj (bU m Q R) (au 3 i):=by
 obtain⟨x,e,n,rfl,j,F,w⟩:=h;show wSs _ _ qj _ [some (.int x),some (.int e),none];unfold qj;fin2;refine kh (α:=Nat×Nat×Nat) (λs=>[some (.int (x^s.1)),some (.int s.2.1),some (.int (x^s.2.2))]) (λs=>s.1*s.2.1+s.2.2=e/\(0<s.2.1->0<s.1)) (λs=>s.2.1) (1,e,0) (by show _=[some (W.int (x^1)),some (W.int (e:Int)),some (W.int (x^0))];rw[OF,TB,my]) ⟨by show 1*e+0=e;lia,λ_=>by show 0<1;decide⟩ ?_;rintro⟨a,d,p⟩ ⟨v,k⟩;dsimp only at v k;fin2;refine eH (λz=>?_) (λz=>?_)
 .have c:0<d:=by have:=D1 z;lia
  have E:=k c;have H:a<=e:=by have:a*1<=a*d:=FV a c;lia
  have D:p+a<=e:=by have:a*1<=a*d:=FV a c;lia
  have a2:2<=d->a+a<=e:=λh=>by have:a*2<=a*d:=FV a h;lia
  have mo:∀q r,q+r<=e->IntMulOk (x^q) (x^r):=λq r h=>aG (Uq j q) (Uq j r) (by have y:=FV n h;rw[rp]at y;have f:n*e<=n*(e+1):=FV n (wb e);lia);have C:(d:Int).fmod 2=((d%2:Nat):Int):=by rw[rf _ (by decide)];lia
  have B:(d:Int).fdiv 2=((d/2:Nat):Int):=by rw[Tb _ (by decide)];lia
  have l:zx (d:Int) 2:=⟨by decide,by decide⟩;fin2;rw[C,B];refine⟨by decide,?_⟩;have g:a*d=a*(2*(d/2))+a*(d%2):=by rw[<-rp,Nat.div_add_mod]
  have A:a*(2*(d/2))=2*a*(d/2):=by rw[X2 2 a,ma]
  split
  .rename_i h
   have h:=D1 h;have o:d%2=1:=by lia
   rw[o,T9]at g;refine⟨mo p a D,l,?_⟩;split
   .rename_i b
    have b:=D1 b;refine⟨mo a a (a2 (by lia)),(2*a,d/2,p+a),?_,⟨?_,λ_=>?_⟩,?_⟩
    .show[some (W.int (x^a*x^a)),some (W.int ((d/2:Nat):Int)),some (W.int (x^p*x^a))]=[some (W.int (x^(2*a))),some (W.int ((d/2:Nat):Int)),some (W.int (x^(p+a)))];rw[kz,bM,kz]
    .show 2*a*(d/2)+(p+a)=e;lia
    .show 0<2*a;lia
    .show d/2<d;lia
   .rename_i f
    rw[Kx]at f;refine⟨(a,d/2,p+a),?_,⟨?_,λz=>?_⟩,?_⟩
    .show[some (W.int (x^a)),some (W.int ((d/2:Nat):Int)),some (W.int (x^p*x^a))]=[some (W.int (x^a)),some (W.int ((d/2:Nat):Int)),some (W.int (x^(p+a)))];rw[kz]
    .show a*(d/2)+(p+a)=e;have u:d/2=0:=by lia
     rw[u]at g A⊢;lia
    .exact E
    .show d/2<d;lia
  .rename_i h
   rw[Kx]at h;have o:d%2=0:=by lia
   rw[o,ae]at g;refine⟨l,?_⟩;split
   .rename_i b
    have b:=D1 b;refine⟨mo a a (a2 (by lia)),(2*a,d/2,p),?_,⟨?_,λ_=>?_⟩,?_⟩
    .show[some (W.int (x^a*x^a)),some (W.int ((d/2:Nat):Int)),some (W.int (x^p))]=[some (W.int (x^(2*a))),some (W.int ((d/2:Nat):Int)),some (W.int (x^p))];rw[bM,kz]
    .show 2*a*(d/2)+p=e;lia
    .show 0<2*a;lia
    .show d/2<d;lia
   .rename_i f
    rw[Kx]at f;lia
 .have c:d=0:=by have:=fe z;lia
  subst c;fin2;have:p=e:=by lia
  rw[this];exact w
noncomputable def tabI(n:Nat)(f:Nat->Int):List Int:=(Bn n).map f
theorem fy{n k:Nat}{f:Nat->Int}(h:k<n):(tabI n f)[k]?=some (f k):=by unfold tabI;rw[DL,UV h];rfl
theorem aQ(n:Nat)(f:Nat->Int):(tabI n f).length=n:=by unfold tabI;simp
theorem fZ{n k:Nat}{f g:Nat->Int}(h:k<n)(b:∀j,j<n->j≠k->g j=f j):(tabI n f).set k (g k)=tabI n g:=by
 refine cw λq=>?_;rw[QX];by_cases a:q<n
 .rw[fy a,fy a];by_cases e:k=q
  .subst e;rw[Bi rfl,Bi (by rw[aQ];exact h)]
  .rw[BM e,b q a (SC e)]
 .rw[BM (by lia),Do (by rw[aQ];lia),Do (by rw[aQ];lia)]
theorem FG{x y:List Int}{Q:W->Prop}(h:∀k:Bool,(k=true↔x=y)->Q (.bl k)):eZ .Eq (wI x) (wI y) Q:=by
 have c:∀z:List Int,wk 9 (.lst (z.map W.int))=true:=λz=>by dsimp only[wk];rw[Kj];intro w d;obtain⟨i,_,rfl⟩:=Nw.mp d;exact oA i 8
 refine⟨.inl ⟨c x,c y⟩,λk f=>h k (f.trans ⟨λe=>?_,λe=>by rw[e]⟩)⟩;exact(LZ (λa b e=>W.Ae e)).mp (W.Ep e)
theorem AQ{ms:List Int}{i:Nat}{w:W}(h:(gh (ms.map W.int))[i]?=some w):i<ms.length/\w=.tup [.int i,.int (ms.getD i 0)]:=by
 obtain⟨x,a,rfl⟩:=mL h;have b:i<ms.length:=by have:=(Fu.mp a).1;simpa using this
 rw[int_at b]at a;cases a;exact⟨b,rfl⟩
theorem w6(ms:List Int):(gh (ms.map W.int)).length=ms.length:=by unfold gh;simp
noncomputable def gB:List CS:=[.iff (.or [(.cmp .Eq (.var 0) (.lst [])),(.cmp .Eq (.var 1) (.lst []))]) [.ret (.lst [])] [],.set 2 (.bin .Mult (.lst [(.int 0)]) (.bin .Sub (.bin .Add (.blt .len [(.var 0)]) (.blt .len [(.var 1)])) (.int 1))),.fr [3,4] false (.sA (.var 0)) [.iff (.cmp .NotEq (.var 4) (.int 0)) [.fr [5,6] false (.sA (.var 1)) [.put 2 (.bin .Add (.var 3) (.var 5)) (.bin .Add (.ix (.var 2) (.bin .Add (.var 3) (.var 5))) (.bin .Mult (.var 4) (.var 6)))]] []],.ret (.var 2)]
noncomputable def iO:bD:=λc Q _=>∃a b:List Int,c=[wI a,wI b]/\a.length<=200/\b.length<=200/\(∀x∈a,∀y∈b,IntMulOk x y)/\Q (wI (if a=[]\/b=[]then[]else tabI (a.length+b.length -1) (cf a b a.length)))
theorem qV{D:Nat->bD}{G:Nat->W}{m:Md}(A:List W)(Q:W->Prop)(R:Addr->Prop)(h:iO A Q R):wSs D G gB (bU m Q R) (au 7 A):=by
 obtain⟨a,b,rfl,S,O,J,l⟩:=h;show wSs _ _ gB _ [some (wI a),some (wI b),none,none,none,none,none];unfold gB;refine aE (λs=>(a≠[]/\b≠[])/\s=[some (wI a),some (wI b),none,none,none,none,none]) (λN r=>?_) ?_
 .fin2;refine⟨ao (by simp),FG (y:=[]) λU C=>?_⟩;fin2;by_cases o:a=[]
  .cases iI C o;rw[Bi rfl];rw[Bi (.inl o)]at l;exact⟨ao (by simp),l⟩
  .cases fY C o;rw[BM (by decide)];refine⟨ao (by simp),FG (y:=[]) λT B=>?_⟩;fin2;by_cases p:b=[]
   .cases iI B p;rw[Bi rfl];rw[Bi (.inr p)]at l;exact⟨ao (by simp),l⟩
   .cases fY B p;rw[BM (by decide)];exact r _ ⟨⟨o,p⟩,rfl⟩
 rintro _ ⟨⟨o,p⟩,rfl⟩;rw[BM (λz=>z.elim o p)]at l;have X:=HI.mpr o;unfold wI at*;fin2;have M:((a.map W.int).length:Int)+((b.map W.int).length:Int) -1=((a.length+b.length -1:Nat):Int):=by rw[Ap,Ap];lia
 rw[M,CB,fW];refine⟨ao (by simp),by lia,by lia,ao (by simp;lia),?_⟩;refine bu (λi t=>∃o3 u d c,t=[some (.lst (a.map W.int)),some (.lst (b.map W.int)),some (.lst ((tabI (a.length+b.length -1) (cf a b i)).map W.int)),o3,u,d,c]) ⟨none,none,none,none,?_⟩ ?_ ?_
 .have:tabI (a.length+b.length -1) (cf a b 0)=A2 (a.length+b.length -1) 0:=by unfold tabI;have:cf a b 0=λ_=>0:=rfl;rw[this,U3,W1]
  rw[this,ph]
 .rintro i w _ N I ⟨o3,u,d,c,rfl⟩ r;obtain⟨L,rfl⟩:=AQ I;fin2;refine⟨rfl,?_⟩;by_cases z:a.getD i 0=0
  .rw[He z];fin2;refine r _ ⟨some (.int i),some (.int (a.getD i 0)),d,c,?_⟩;rw[show cf a b (i+1)=cf a b i from funext λk=>Ht z k]
  .rw[Ki z];fin2;refine bu (λj t=>∃d c,t=[some (.lst (a.map W.int)),some (.lst (b.map W.int)),some (.lst ((tabI (a.length+b.length -1) (vM a b i j)).map W.int)),some (.int i),some (.int (a.getD i 0)),d,c]) ⟨d,c,?_⟩ ?_ ?_
   .rw[show vM a b i 0=cf a b i from funext λk=>vN a b i k]
   .rintro j w _ Y F ⟨d,c,rfl⟩ E;obtain⟨K,rfl⟩:=AQ F;have v:i+j<a.length+b.length -1:=by lia
    fin2;rw[show(i:Int)+(j:Int)=((i+j:Nat):Int) by lia];refine⟨rfl,_,bH (by rw[DL,fy v];rfl),?_⟩;fin2;refine⟨uG (P:=λx=>IntMulOk x (b.getD j 0)) (λx H=>uG (P:=λy=>IntMulOk x y) (J x H) K) L,i+j,iL (by rw[Ap,aQ];exact v),E _ ⟨some (.int j),some (.int (b.getD j 0)),?_⟩⟩;have e:=fZ (n:=a.length+b.length -1) (f:=vM a b i j) (g:=vM a b i (j+1)) (k:=i+j) v (λq _ l=>by rw[kK,BM l,h7]);rw[kK,Bi rfl]at e;rw[<-e,gd]
   .rintro _ ⟨d,c,rfl⟩;refine r _ ⟨some (.int i),some (.int (a.getD i 0)),d,c,?_⟩;rw[w6,show vM a b i b.length=cf a b (i+1)from funext λk=>vO a b i k]
 .rintro _ ⟨o3,u,d,c,rfl⟩;rw[w6];fin2;exact l
noncomputable def FH:List CS:=[.par [0,1] [(.blt .abs [(.var 0)]),(.blt .abs [(.var 1)])],.Ag (.cmp .Gt (.bits (.var 1)) (.glob 0)) [.par [0,1] [(.var 1),(.bin .Mod (.var 0) (.var 1))],.Er [0,1] (.call 0 [(.call 1 [(.var 0),(.var 1)]),(.var 0),(.var 1)]),.par [0,1] [(.blt .abs [(.var 0)]),(.blt .abs [(.var 1)])]],.Ag (.cmp .NotEq (.var 1) (.int 0)) [.par [0,1] [(.var 1),(.bin .Mod (.var 0) (.var 1))]],.ret (.var 0)]
noncomputable def JM:bD:=λc Q _=>∃(a b:Int)(n:Nat),c=[.int a,.int b]/\b.natAbs<2^n/\n<=6000/\Q (.int (Aa a b:Nat))
theorem Ur{r:Nat->bD}{m:Md}(o:List W)(Q:W->Prop)(R:Addr->Prop)(h:JM o Q R):wSs r (nO [.int 6000]) FH (bU m Q R) (au 2 o):=by
 obtain⟨a,b,n,rfl,v,B,t⟩:=h;show wSs _ _ FH _ [some (.int a),some (.int b)];unfold FH;have A:(if a<0 then-a else a)=(a.natAbs:Int):=by split<;>lia
 have w:(if b<0 then-b else b)=(b.natAbs:Int):=by split<;>lia
 have u:Aa (a.natAbs:Int) (b.natAbs:Int)=Aa a b:=rfl;refine aE (λc=>c=[some (.int (a.natAbs:Int)),some (.int (b.natAbs:Int))]) (λN j=>?_) ?_
 .fin2;rw[A,w];exact⟨rfl,j _ rfl⟩
 rintro _ rfl;have p:Builtin.Int.intBits (b.natAbs:Int)<=n:=bits_le (by rw[C0];exact v);refine aE (λc=>c=[some (.int (a.natAbs:Int)),some (.int (b.natAbs:Int))]) (λN j=>?_) ?_
 .dsimp only[wS];refine kh (α:=Unit) (λ_=>[some (.int (a.natAbs:Int)),some (.int (b.natAbs:Int))]) (λ_=>True) (λ_=>0) () rfl trivial ?_;rintro _ _;fin2;refine eH (λz=>?_) (λ_=>j _ rfl);have:=D1 z;lia
 rintro _ rfl;fin2;refine kh (α:=Int×Int) (λx=>[some (.int x.1),some (.int x.2)]) (λx=>Aa x.1 x.2=Aa a b/\0<=x.1/\0<=x.2) (λx=>x.2.natAbs) (a.natAbs,b.natAbs) rfl ⟨u,Mq _,Mq _⟩ ?_;rintro⟨x,y⟩ ⟨g,s,q⟩;dsimp only at g s q;fin2;refine eH (λi=>?_) (λi=>?_)
 .have d:y≠0:=by simpa using i
  have l:=vL x y (x.fdiv y);have k:=DI x y d;have f:=fm (x:=x) (n:=y) (by clear k l d;lia);rw[<-Num.fmod_eq]at l k;fin2;exact⟨d,rfl,(y,x.fmod y),rfl,⟨l.trans g,q,f.1⟩,k⟩
 .have d:y=0:=by simpa using i
  subst d;fin2;have e:x=((Aa a b:Nat):Int):=by rw[<-g,Pc];lia
  rw[e];exact t
end VL
namespace L2
open PySem
theorem sM{r:Nat}:Builtin.Range.rangeSize ((r:Int) -1) (-1) (-1)=(r:Int):=by
 unfold Builtin.Range.rangeSize;rw[BM (by decide)];split
 .show((r:Int) -1 - -1 -1)/1+1=_;lia
 .lia
theorem yF{r:Nat}(h:r<=1000):Builtin.Range.small ((r:Int) -1) (-1) (-1)=true:=by
 unfold Builtin.Range.small;rw[sM];have f:∀x:Int,-2000<=x->x<=2000->Builtin.Range.rangeFitsLong x=true:=λx b a=>by unfold Builtin.Range.rangeFitsLong;simp;lia
 rw[f _ (by lia) (by lia),f _ (by lia) (by lia),f _ (by lia) (by lia),BM (by decide),f (-1+(-1+1)) (by decide) (by decide)];simp
end L2
namespace VL
open PySem PySem.Spec
open PyProof.Rows hiding St
open L2 Num
theorem P1{a:List Rat}{i:Nat}{w:W}(h:(a.map wq)[i]?=some w):∃x,a[i]?=some x/\w=wq x:=by
 rw[DL]at h;cases e:a[i]? with
 |none=>rw[e]at h;cases h
 |some x=>rw[e]at h;cases h;exact⟨x,rfl,rfl⟩
structure YN(rs:List Rat)(ns:List Int)(B:Int):Prop where
 pos:0<B
 eq:ns=rs.map λx=>x.num*(B/x.den)
 dv:∀x∈rs,(x.den:Int)∣B
noncomputable def mV:List CS:=[.set 1 (.int 1),.fr [2] true (.var 0) [.set 3 (.ix (.var 2) (.int 1)),.iff (.cmp .NotEq (.bin .Mod (.var 1) (.var 3)) (.int 0)) [.set 1 (.bin .Mult (.bin .FloorDiv (.var 1) (.call 0 [(.var 1),(.var 3)])) (.var 3))] []],.ret (.tup [(.comp [0] true 1 (.var 0) (.bl true) (.bin .Mult (.ix (.var 0) (.int 0)) (.bin .FloorDiv (.var 2) (.ix (.var 0) (.int 1))))),(.var 1)])]
noncomputable def qo:bD:=λc Q _=>∃(a:List Rat)(D:Int)(n k:Nat),c=[aM a]/\((∀x∈a,Cd D n x)/\0<D/\D.natAbs<2^k/\k<=6000/\n<=100000/\a.length<=100)/\∀(b:List Int)(B:Int),YN a b B->B∣D->B.natAbs<2^k->(∀x∈b,x.natAbs<2^n)->Q (.tup [wI b,.int B])
theorem Co{G:Nat->W}{m:Md}(L:List W)(Q:W->Prop)(R:Addr->Prop)(h:qo L Q R):wSs (cg [JM]) G mV (bU m Q R) (au 4 L):=by
 obtain⟨o,D,n,k,rfl,⟨C,hD,YO,hk,hn,hl⟩,hq⟩:=h;have a:∀y:Int,0<y->y∣D->y.natAbs<2^k:=λy F E=>by have:=ke hD E;lia
 show wSs _ _ mV _ [some (aM o),none,none,none];unfold mV;dsimp only[wSs,wS,wE,look,dB];unfold aM;fin2;refine bu (λi U=>∃B o2 o3,(0<B/\B∣D/\∀j x,j<i->o[j]?=some x->(x.den:Int)∣B)/\U=[some (.lst (o.map wq)),some (.int B),o2,o3]) ⟨1,none,none,⟨by decide,bg _,λj x h=>by lia⟩,rfl⟩ ?_ ?_
 .rintro i w _ N Y ⟨B,o2,o3,⟨d,b,s⟩,rfl⟩ hN;obtain⟨x,c,rfl⟩:=P1 Y;have r:=Qb c;have O:=(C x r).dvd.1;have p:0<(x.den:Int):=by have:=x.den_pos;lia
  have t:=a _ p O;have P:=a _ d b;have f:∀q:Int,0<q->q∣D->B∣q->(x.den:Int)∣q->N [some (.lst (o.map wq)),some (.int q),some (wq x),some (.int x.den)]:=λq F E h3 h4=>
   hN _ ⟨q,_,_,⟨F,E,λj z l hz=>by
    by_cases v:j=i
    .subst v;rw[c]at hz;cases hz;exact h4
    .exact MI (s j z (by lia) hz) h3⟩,rfl⟩
  fin2;refine⟨_,rfl,?_⟩;fin2;refine⟨FA x,?_⟩;by_cases hz:B.fmod x.den=0
  .rw[He hz];fin2;refine f B d b (Rh _) (Int.dvd_of_fmod_eq_zero hz)
  .rw[Ki hz];fin2;have hg:((Aa B x.den:Nat):Int)<=x.den:=ke p (TC ..);have T:0<((Aa B x.den:Nat):Int):=by have:0<Aa B x.den:=oy _ (by lia);lia
   have S:((Aa B x.den:Nat):Int)∣B:=a9 ..;have Xg:((Aa B x.den:Nat):Int)∣(x.den:Int):=TC ..;have Xh:=DN (FA x) b O;refine⟨B,x.den,k,rfl,t,hk,?_⟩;generalize((Aa B x.den:Nat):Int)=g at*;have X:g.natAbs<2^k:=by lia
   have u:0<B/g:=rh d (eI T) S;have Z:B/g<=B:=Yr _ (eI d);have J:(B/g).natAbs<2^k:=by lia
   fin2;rw[Tb _ (eI T)];refine⟨⟨by lia,qg X (by lia)⟩,aG J t (by lia),f _ (wx u p) Xh ?_ ⟨B/g,bb _ _⟩⟩;obtain⟨j,l⟩:=Xg;refine⟨j,?_⟩;rw[l,<-Wp,oT S]
 .rintro _ ⟨B,o2,o3,⟨d,b,s⟩,rfl⟩;rw[Ap]at s;have H:∀x∈o,(x.den:Int)∣B:=λx c=>by obtain⟨j,l,e⟩:=NA c;exact s j x l (by rw[<-e];exact B1 l)
  have P:=a _ d b;have M:∀x∈o,(x.num*(B/x.den)).natAbs<2^n:=λx r=>by
   have A:=H x r;have e:=(C x r).dvd;obtain⟨j,l⟩:=b;have e2:D/x.den=B/x.den*j:=by rw[l];exact Int.mul_ediv_assoc' _ A|>λh=>by rw[<-h]
   have j0:j≠0:=λz=>by rw[z,Oy]at l;lia
   refine IR ?_ e.2;rw[e2,<-Wp,Fh (x.num*(B/x.den)) j];exact Xt _ (by lia)
  fin2;refine cD (h:=wq) (g:=λx=>.int (x.num*(B/x.den))) o [] _ (λx c K hK=>?_) (ao (by simpa using Bz hl (by decide))) ?_
  .have p:0<(x.den:Int):=by have:=x.den_pos;lia
   have t:=a _ p (C x c).dvd.1;have I:=M x c;have q0:0<B/x.den:=rh d (eI p) (H x c);have J:(B/x.den).natAbs<2^k:=by have F:=Yr (x.den:Int) (eI d);lia
   have Xj:x.num.natAbs<2^n:=by refine IR ?_ I;rw[Fh];exact Xt _ (by lia)
   refine⟨_,rfl,_,rfl,⟨FA x,qg t (by lia)⟩,?_⟩;fin2;rw[Tb _ (eI p)];exact⟨aG Xj J (by lia),hK⟩
  .refine⟨ao (by simp),?_⟩;have:=hq _ B ⟨d,rfl,H⟩ b P (λz hz=>by obtain⟨x,c,rfl⟩:=Nw.mp hz;exact M x c);unfold wI at this;rw[Qr]at this;exact this
noncomputable def jk:List CS:=[.set 1 (.int 0),.fr [2] true (.var 0) [.set 1 (.call 0 [(.var 2),(.var 1)]),.iff (.cmp .Eq (.var 1) (.int 1)) [.ret (.tup [(.int 1),(.blt .list [(.var 0)])])] []],.ret (.tup [(.var 1),(.comp [0] true 1 (.var 0) (.bl true) (.bin .FloorDiv (.var 0) (.var 2)))])]
structure YS(ns:List Int)(c:Int)(ms:List Int):Prop where
 pos:0<c
 dv:∀x∈ns,c∣x
 all:∀d:Int,(∀x∈ns,d∣x)->d∣c
 eq:ms=ns.map (·/c)
noncomputable def iP:bD:=λd Q _=>∃(a:List Int)(n:Nat),d=[wI a]/\((∃x∈a,x≠0)/\a.length<=500/\n<=6000/\∀x∈a,x.natAbs<2^n)/\∀c b,YS a c b->c.natAbs<2^n->Q (.tup [.int c,wI b])
theorem xg{G:Nat->W}{m:Md}(s:List W)(Q:W->Prop)(R:Addr->Prop)(h:iP s Q R):wSs (cg [JM]) G jk (bU m Q R) (au 3 s):=by
 obtain⟨a,n,rfl,⟨⟨F,S,H⟩,o,I,J⟩,u⟩:=h;show wSs _ _ jk _ [some (wI a),none,none];unfold jk;dsimp only[wSs,wS,wE,look,dB];unfold wI at*;fin2;refine bu (λi E=>∃(c:Int)(o2:Option W),(0<=c/\(∀j,j<i->j<a.length->c∣a.getD j 0)/\(∀d:Int,(∀x∈a,d∣x)->d∣c)/\c.natAbs<2^n)/\E=[some (.lst (a.map W.int)),some (.int c),o2]) ⟨0,none,⟨by decide,λj h=>by lia,λd _=>vb d,T1 (by decide)⟩,rfl⟩ ?_ ?_
 .rintro i w _ N l ⟨c,o2,⟨r,f,p,k⟩,rfl⟩ L;have y:i<a.length:=by have:=(Fu.mp l).1;simpa using this
  rw[int_at y]at l;cases l;have v:a.getD i 0∈a:=Sub.getD_mem' y;fin2;refine⟨a.getD i 0,c,n,rfl,k,I,?_⟩;have O:((Aa (a.getD i 0) c:Nat):Int)∣a.getD i 0:=a9 ..;have C:((Aa (a.getD i 0) c:Nat):Int)∣c:=TC ..;have B:∀d:Int,(∀x∈a,d∣x)->d∣((Aa (a.getD i 0) c:Nat):Int):=λd h=>ZT (h _ v) (p d h);have A:((Aa (a.getD i 0) c:Nat):Int).natAbs<2^n:=by
   rcases YR r with q|q
   .have:=ke q C;lia
   .rw[<-q,Pc];have:=J _ v;lia
  have P:0<=((Aa (a.getD i 0) c:Nat):Int):=by lia
  generalize((Aa (a.getD i 0) c:Nat):Int)=g at*;have dv:∀j,j<i+1->j<a.length->g∣a.getD j 0:=λj b o=>by
   by_cases e:j=i
   .subst e;exact O
   .exact MI C (f j (by lia) o)
  fin2;by_cases e:g=1
  .rw[He e];fin2;subst e;have:=u 1 a ⟨by decide,λx _=>bg x,B,by simp⟩ A;exact⟨ao (by simp),this⟩
  .rw[Ki e];fin2;exact L _ ⟨g,_,⟨P,dv,B,A⟩,rfl⟩
 .rintro _ ⟨c,o2,⟨r,f,p,k⟩,rfl⟩;rw[Ap]at f;have dv:∀x∈a,c∣x:=λx t=>by obtain⟨j,b,e⟩:=NA t;have:=f j b b;rw[AC,B1 b]at this;rw[<-e];exact this
  have D:0<c:=by
   rcases YR r with z|z
   .exact z
   .have:=dv F S;rw[<-z,b7]at this;exact absurd this H
  fin2;refine cD (h:=W.int) (g:=λx=>.int (x/c)) a [] _ (λx t K M=>?_) (ao (by simpa using Bz o (by decide))) ?_
  .fin2;rw[Tb _ (eI D)];exact⟨⟨by lia,qg k (by lia)⟩,M⟩
  .refine⟨ao (by simp),?_⟩;have:=u c _ ⟨D,dv,p,rfl⟩ k;rw[Qr]at this;exact this
noncomputable def jl:List CS:=[.Er [1,2] (.call 0 [(.var 0)]),.Er [3,1] (.call 1 [(.var 1)]),.ret (.tup [(.var 1),(.var 2),(.var 3)])]
structure Prim(rs:List Rat)(ms:List Int)(B c:Int):Prop where
 bpos:0<B
 cpos:0<c
 len:ms.length=rs.length
 at_:∀i,(ms.getD i 0:Rat)*c=rs.getD i 0*B
 one:∀d:Int,(∀x∈ms,d∣x)->d∣1
noncomputable def ko:bD:=λd Q _=>∃(a:List Rat)(D:Int)(n k:Nat),d=[aM a]/\((∃x∈a,x≠0)/\(∀x∈a,Cd D n x)/\0<D/\D.natAbs<2^k/\k<=6000/\n<=6000/\a.length<=100)/\∀(b:List Int)(B c:Int),Prim a b B c->B.natAbs<2^k->c.natAbs<2^n->(∀x∈b,x.natAbs<2^n)->Q (.tup [wI b,.int B,.int c])
theorem sN{α:Type}{l:List α}{f:α->Int}{i:Nat}{x:α}(h:l[i]?=some x):(l.map f).getD i 0=f x:=by rw[AC,DL,h];rfl
theorem JN{a:List Rat}{ns ms:List Int}{B c:Int}(f:YN a ns B)(b:YS ns c ms):Prim a ms B c:=by
 have n:ns.length=a.length:=by rw[f.eq,Ap]
 have m:ms.length=a.length:=by rw[b.eq,Ap,n]
 refine⟨f.pos,b.pos,m,λi=>?_,λd p=>?_⟩
 .by_cases o:i<a.length
  .have j:=B1 o;have t:ns.getD i 0=a[i].num*(B/a[i].den):=by rw[f.eq];exact sN j
   have en:ns[i]?=some (ns.getD i 0):=by rw[AC,B1 (by lia)];rfl
   have s:ms.getD i 0=ns.getD i 0/c:=by rw[b.eq];exact sN en
   have u:=b.dv _ (Qb en);have:ms.getD i 0*c=ns.getD i 0:=by rw[s];exact oT u
   have r:((ms.getD i 0:Int):Rat)*(c:Rat)=((ns.getD i 0:Int):Rat):=by rw[<-this,FC]
   rw[r,t];have q:a.getD i 0=a[i]:=by rw[AC,j];rfl
   rw[q];exact gI (f.dv _ (Sr _))
  .have l:ms.getD i 0=0:=by rw[AC,Do (by lia)];rfl
   have k:a.getD i 0=0:=by rw[AC,Do (by lia)];rfl
   rw[l,k];show((0:Int):Rat)*_=0*_;grind
 .have:=b.all (d*c) λx h=>by have e:=p (x/c) (by rw[b.eq];exact Nw.mpr ⟨x,h,rfl⟩);obtain⟨y,g⟩:=e;refine⟨y,?_⟩;rw[<-oT (b.dv x h),g];grind
  obtain⟨y,g⟩:=this;refine⟨y,?_⟩;have v:=b.pos;have:c*1=c*(d*y):=by rw[cm];rw[bb c,Wp,bb y c,<-Wp];exact g
  exact QQ (by lia) this
theorem xh{G:Nat->W}{m:Md}(f:List W)(Q:W->Prop)(R:Addr->Prop)(h:ko f Q R):wSs (cg [qo,iP]) G jl (bU m Q R) (au 4 f):=by
 obtain⟨e,D,n,k,rfl,⟨⟨a,o,p⟩,w,A,H,v,t,u⟩,s⟩:=h;show wSs _ _ jl _ [some (aM e),none,none,none];unfold jl;fin2;refine⟨e,D,n,k,rfl,⟨w,A,H,v,by lia,u⟩,λg B b J F l=>?_⟩;refine⟨rfl,?_⟩;fin2;have I:g.length=e.length:=by rw[b.eq,Ap]
 refine⟨g,n,rfl,⟨⟨a.num*(B/a.den),by rw[b.eq];exact Nw.mpr ⟨a,o,rfl⟩,?_⟩,by lia,t,l⟩,λc q j E=>?_⟩
 .have d:=b.dv a o;have C:0<(a.den:Int):=by have:=a.den_pos;lia
  have:0<B/a.den:=rh b.pos (eI C) d;exact PQ (λz=>p (Yv.mp z)) (by lia)
 .refine⟨rfl,?_⟩;fin2;refine⟨ao (by simp),s q B c (JN b j) F E λx i=>?_⟩;rw[j.eq]at i;obtain⟨y,r,rfl⟩:=Nw.mp i;have:=VF y c;have:=l y r;lia
noncomputable def gC:List CS:=[.iff (.cmp .Eq (.var 2) (.int 0)) [.ret (.var 0)] [],.ret (.bin .FloorDiv (.call 0 [(.var 1),(.var 2)]) (.call 0 [(.var 0),(.bin .Sub (.var 2) (.int 1))]))]
noncomputable def iQ:bD:=λb Q _=>∃(h l:Int)(a n:Nat),b=[.int h,.int l,.int a]/\(h.natAbs<2^n/\l.natAbs<2^n/\n*(a+1)<=130000000/\(0<a->h^(a -1)≠0/\(h^(a -1)).natAbs.log2<1000000000))/\Q (.int (Sub.hnext h l a))
theorem qW{G:Nat->W}{m:Md}(c:List W)(Q:W->Prop)(R:Addr->Prop)(h:iQ c Q R):wSs (cg [oB]) G gC (bU m Q R) (au 3 c):=by
 obtain⟨h,l,a,n,rfl,⟨k,j,d,f⟩,b⟩:=h;show wSs _ _ gC _ [some (.int h),some (.int l),some (.int a)];unfold gC;fin2;by_cases z:(a:Int)=0
 .rw[He z];fin2;have e:Sub.hnext h l a=h:=by unfold Sub.hnext;rw[Bi (by lia)]
  rw[e]at b;exact b
 .rw[Ki z];fin2;obtain⟨i,g⟩:=f (by lia);have e:Sub.hnext h l a=(l^a).fdiv (h^(a -1)):=by unfold Sub.hnext;rw[BM (by lia)]
  rw[e]at b;refine⟨l,a,n,rfl,j,d,?_⟩;rw[show(a:Int) -1=((a -1:Nat):Int) by lia];refine⟨h,a -1,n,rfl,k,Bz (FV _ (by lia)) d,?_⟩;fin2;exact⟨⟨i,g⟩,b⟩
theorem yG{x:Nat}{n m:Nat}(h:x<2^n)(a:n<=m):x<2^m:=FM h (Hk (by decide) a)
theorem FI{a b:Int}{n:Nat}(d:a.natAbs<n)(c:b.natAbs<n):(a -b).natAbs<2*n:=by have:=sk a b;lia
theorem Xk{p i:Nat}(h:p<i):i -p=(i -(p+1))+1:=by lia
theorem iR{ns:List Int}{n:Nat}(h:∀x∈ns,x.natAbs<2^n)(k:Nat):(ns.getD k 0).natAbs<2^n:=by
 by_cases a:k<ns.length
 .rw[AC,B1 a];exact h _ (Sr a)
 .rw[outI (by lia)];exact T1 (by decide)
theorem sO{ns:List Int}(h:0<ns.length):jt (ns.map W.int) (-1)=some (.int (ns.getD (ns.length -1) 0)):=by refine g7 ?_;rw[Kk,Ap,int_at (by omega)]
theorem lH{n k:Nat}{f:Nat->Int}(h:k<n):(tabI n f).getD k 0=f k:=by rw[AC,fy h];rfl
theorem oE(n:Nat)(f:Nat->Int)(k:Nat):(tabI n f).getD k 0=if k<n then f k else 0:=by
 by_cases h:k<n
 .rw[Bi h,lH h]
 .rw[BM h];exact outI (by rw[aQ];lia)
theorem qp{n:Nat}{f:Nat->Int}{x:Int}(h:x∈tabI n f):∃k,k<n/\x=f k:=by unfold tabI at h;obtain⟨k,a,rfl⟩:=Nw.mp h;exact⟨k,TK.mp a,rfl⟩
theorem jm{n:Nat}{f g:Nat->Int}(h:∀k,k<n->f k=g k):tabI n f=tabI n g:=by unfold tabI;exact Yf λk a=>h k (TK.mp a)
theorem xj(n:Nat)(x:Int):A2 n (W.int x)=(tabI n λ_=>x).map W.int:=by unfold tabI;rw[U3,W1,ph]
theorem mW{n:Nat}(ns:List Int)(h:ns.length=n):ns=tabI n λk=>ns.getD k 0:=by
 refine cw λj=>?_;by_cases a:j<n
 .rw[fy a,AC,B1 (by lia)];rfl
 .rw[Do (by lia),Do (by rw[aQ];lia)]
theorem AR{r n s:Nat}{w:W}(h:(fj ((r:Int) -1) (-1) n)[s]?=some w):s<n/\w=.int ((r:Int) -1 -s):=by unfold fj at h;rw[DL]at h;obtain⟨j,e,rfl⟩:=Mo.mp h;obtain⟨b,a⟩:=Fu.mp e;rw[Y4]at a;rw[W1]at b;refine⟨b,?_⟩;rw[<-a];congr 1;lia
theorem qX(lo st:Int)(n:Nat):(fj lo st n).length=n:=by unfold fj;simp
theorem sP{r:Nat}{Q:List W->Prop}(h:r<=1000)(q:Q (fj ((r:Int) -1) (-1) r)):Eu [.int ((r:Int) -1),.int (-1),.int (-1)] Q:=
 ⟨r,⟨by decide,by decide,yF h,sM⟩,q⟩
theorem lI{R:List Int}(h:0<R.length):∃a x,R=a++[x]:=
 ⟨R.dropLast,R.getLast (λz=>by rw[z]at h;cases h),(h8 _).symm⟩
theorem pop_at{a:List Int}{x:Int}:((a++[x]).map W.int)[((a++[x]).map W.int).length -1]?=some (.int x):=by simp
theorem uI{a:List Int}{x:Int}:((a++[x]).map W.int).dropLast=a.map W.int:=by simp
noncomputable def eK:List CS:=[.set 2 (.blt .max2 [(.bin .Add (.bin .Sub (.blt .len [(.var 0)]) (.blt .len [(.var 1)])) (.int 1)),(.int 0)]),.set 3 (.ix (.var 1) (.neg (.int 1))),.set 4 (.blt .list [(.var 0)]),.set 5 (.bin .Mult (.lst [(.int 0)]) (.var 2)),.fr [6] true (.jA [(.bin .Sub (.var 2) (.int 1)),(.neg (.int 1)),(.neg (.int 1))]) [.j4 7 (.pop 4),.put 5 (.var 6) (.var 7),.set 4 (.call 0 [(.var 4),(.var 3)]),.fr [8] true (.jA [(.bin .Sub (.blt .len [(.var 1)]) (.int 1))]) [.put 4 (.bin .Add (.var 6) (.var 8)) (.bin .Sub (.ix (.var 4) (.bin .Add (.var 6) (.var 8))) (.bin .Mult (.var 7) (.ix (.var 1) (.var 8))))]],.set 9 (.int 1),.fr [6] true (.jA [(.var 2)]) [.put 5 (.var 6) (.bin .Mult (.ix (.var 5) (.var 6)) (.var 9)),.set 9 (.bin .Mult (.var 9) (.var 3))],.ret (.tup [(.var 5),(.call 1 [(.var 4)]),(.var 9)])]
structure P4(ns ms:List Int)(N M:Nat)(Qs R:List Int):Prop where
 Us:Qs.length=ns.length+1 -ms.length
 Ut:R.length<ms.length
 eq:∀k,(ms.getD (ms.length -1) 0)^(ns.length+1 -ms.length)*ns.getD k 0=jb (λi=>Qs.getD i 0) (λi=>ms.getD i 0) k+R.getD k 0
 bQ:∀x∈Qs,x.natAbs<2^(N+(ns.length+1 -ms.length)*(M+1))
 bR:∀x∈R,x.natAbs<2^(N+(ns.length+1 -ms.length)*(M+1))
 last:R=[]\/R.getD (R.length -1) 0≠0
noncomputable def f6:bD:=λd Q _=>∃(b a:List Int)(N M:Nat),d=[wI b,wI a]/\(0<a.length/\b.length<=100/\a.length<=100/\(∀x∈b,x.natAbs<2^N)/\(∀x∈a,x.natAbs<2^M)/\∃K,b.length<K/\N+K*(M+1)<=100000000)/\
 ∀c R:List Int,P4 b a N M c R->Q (.tup [wI c,wI R,.int ((a.getD (a.length -1) 0)^(b.length+1 -a.length))])
theorem nW{G:Nat->W}{m:Md}(ws:List W)(Q:W->Prop)(R:Addr->Prop)(h:f6 ws Q R):wSs (cg [iK,lG]) G eK (bU m Q R) (au 10 ws):=by
 obtain⟨A,b,N,M,rfl,⟨lm,la,lb,bn,bm,K,hK,hNM⟩,q⟩:=h;show wSs _ _ eK _ [some (wI A),some (wI b),none,none,none,none,none,none,none,none];unfold eK wI;fin2;have eR:(if(0:Int)>((A.map W.int).length:Int) -((b.map W.int).length:Int)+1 then(0:Int)else((A.map W.int).length:Int) -((b.map W.int).length:Int)+1)=((A.length+1 -b.length:Nat):Int):=by rw[Ap,Ap];split<;>lia
 have Y:=iR bm (b.length -1);have eL:=sO lm;have c:∀s,s<=A.length+1 -b.length->s*(M+1)<=K*(M+1):=λs r=>Pl _ (by lia);rw[eR];have QU:(b.map W.int).length=b.length:=Ap _;generalize hl:b.getD (b.length -1) 0=l at*;generalize U:A.length+1 -b.length=a at*;refine⟨_,eL,?_⟩;fin2;rw[CB,fW,xj];refine⟨ao (by simp),by lia,by lia,ao (by simp;lia),?_⟩;refine sP (by lia) ?_;fin2;refine bu (λs T=>∃(R:List Int)(r J:Nat->Int)(L Z E:Option W),(tN A b l s J R/\R.length=A.length -s/\(∀x∈R,x.natAbs<2^(N+s*(M+1)))/\(∀i,i<a->a -s<=i->J i=r i*l^(i -(a -s))/\(r i).natAbs<2^(N+(a -1 -i)*(M+1)))/\(∀i,(i<a -s\/a<=i)->J i=0))/\T=[some (.lst (A.map W.int)),some (.lst (b.map W.int)),some (.int a),some (.int l),some (.lst (R.map W.int)),some (.lst ((tabI a r).map W.int)),L,Z,E,none]) ⟨A,λ_=>0,λ_=>0,none,none,none,⟨tN.start A b l,by lia,λx hx=>by rw[Qu];exact bn x hx,λi h1 h2=>by lia,λ_ _=>rfl⟩,rfl⟩ ?_ ?_
 .rintro s w _ N1 hw ⟨R,S,J,L,Z,E,⟨dv,lR,X,H,hz⟩,rfl⟩ fz;obtain⟨r,rfl⟩:=AR hw;have hp:((a:Nat):Int) -1 -(s:Int)=((a -1 -s:Nat):Int):=by lia
  rw[hp];generalize hpp:a -1 -s=p at*;have O:a=p+s+1:=by lia
  obtain⟨d,C⟩:∃d,b.length=d+1:=⟨_,(Vd lm).symm⟩;have hn:A.length=p+d+(s+1):=by lia
  have bs:=c s (Q1 r);have YT:=c (s+1) r;clear hpp hp U;have r2:a -s=p+1:=by rw[O,pd,Fn]
  have r1:a -(s+1)=p:=by rw[O];exact Fn p (s+1)
  have e1:p+b.length -1=p+d:=by rw[C];rfl
  have GG:R.length=p+b.length:=by rw[lR,hn,C,<-kS,pd,Fn];rfl
  obtain⟨o,x,rfl⟩:=lI (R:=R) (by rw[GG,C];exact aa _);have DZ:o.length=p+d:=by rw[FS,C]at GG;exact L0 GG
  have ex:(o++[x]).getD (p+d) 0=x:=by rw[AC,Gc (gN DZ),DZ,ar];rfl
  have eg:∀k,k<p+d->(o++[x]).getD k 0=o.getD k 0:=λk B=>by rw[AC,KF (by rw[DZ];exact B),<-AC]
  have bx:x.natAbs<2^(N+s*(M+1)):=X x (Hn _ (FK.mpr rfl));have YU:∀y∈o,y.natAbs<2^(N+s*(M+1)):=λy F=>X y (Ta _ F);fin2;refine⟨_,pop_at,?_⟩;rw[uI];fin2;refine⟨p,iL (by rw[Ap,aQ,O];exact sT (SU _ _)),?_⟩;have et:=fZ (n:=a) (f:=S) (g:=λk=>if k=p then x else S k) (k:=p) (by rw[O];exact sT (SU _ _)) (λj _ hj=>BM hj);rw[Bi rfl]at et;rw[<-gd,et];refine⟨o,l,rfl,by lia,λy F=>aG Y (YU y F) (by lia),?_⟩;have em:(o.map λy=>l*y)=tabI (p+d) λk=>l*o.getD k 0:=by
   conv=>lhs;rw[mW o DZ]
   unfold tabI;rw[Qr];rfl
  rw[em];unfold wI;fin2;rw[QU];refine⟨by lia,by lia,?_⟩;rw[show((b.length:Int) -1).toNat=d by rw[C];lia];refine bu (λj T=>∃(E:Option W),T=[some (.lst (A.map W.int)),some (.lst (b.map W.int)),some (.int a),some (.int l),some (.lst ((tabI (p+d) λk=>if p<=k/\k<p+j then l*o.getD k 0 -x*b.getD (k -p) 0 else l*o.getD k 0).map W.int)),some (.lst ((tabI a λk=>if k=p then x else S k).map W.int)),some (.int p),some (.int x),E,none]) ⟨E,?_⟩ ?_ ?_
  .rw[jm (n:=p+d) (f:=λk=>if p<=k/\k<p+0 then l*o.getD k 0 -x*b.getD (k -p) 0 else l*o.getD k 0) λk _=>BM (show¬(p<=k/\k<p+0)from λz=>QP _ (FM z.2 z.1))]
  .rintro j w _ N2 kW ⟨E,rfl⟩ qm;obtain⟨hj,rfl⟩:=kj kW;have ix:p+j<p+d:=Xu hj p;fin2;rw[show(p:Int)+(j:Int)=((p+j:Nat):Int) by lia];refine⟨_,bH (by rw[DL,fy ix];rfl),?_⟩;rw[BM (show¬(p<=p+j/\p+j<p+j)from λz=>QP _ z.2)];refine⟨_,bH (int_at (by rw[C];exact cq hj)),?_⟩;fin2;refine⟨aG bx (iR bm j) (by lia),p+j,iL (by rw[Ap,aQ];exact ix),qm _ ⟨some (.int j),?_⟩⟩;have e:=fZ (n:=p+d) (f:=λk=>if p<=k/\k<p+j then l*o.getD k 0 -x*b.getD (k -p) 0 else l*o.getD k 0) (g:=λk=>if p<=k/\k<p+(j+1)then l*o.getD k 0 -x*b.getD (k -p) 0 else l*o.getD k 0) ix (λk _ B=>by
    by_cases t:p<=k/\k<p+j
    .rw[Bi t,Bi ⟨t.1,cq t.2⟩]
    .rw[BM t,BM λz=>t ⟨z.1,pb (Ye z.2) B⟩])
   rw[Bi ⟨SU _ _,PH _⟩,Y1]at e;rw[<-e,gd]
  .rintro _ ⟨E,rfl⟩;rw[qX];refine fz _ ⟨_,λk=>if k=p then x else S k,λi=>l*J i+if i=p then(o++[x]).getD (p+b.length -1) 0 else 0,_,_,_,⟨dv.step lm hl.symm GG (R':=tabI (p+d) λk=>if p<=k/\k<p+d then l*o.getD k 0 -x*b.getD (k -p) 0 else l*o.getD k 0) (by rw[aQ,e1]) (λk B=>?_),by rw[aQ,hn,Fn],λy F=>?_,λi h1 h2=>?_,λi h=>?_⟩,rfl⟩
   .rw[e1]at B;rw[lH B,e1,ex,eg k B];by_cases I:p<=k
    .rw[Bi ⟨I,B⟩,Bi I]
    .rw[BM λz=>I z.1,BM I,va]
   .obtain⟨k,B,rfl⟩:=qp F;have c1:(l*o.getD k 0).natAbs<2^(M+(N+s*(M+1))):=by rw[Fh];exact lt_mul Y (iR YU k)
    have c2:(x*b.getD (k -p) 0).natAbs<2^(M+(N+s*(M+1))):=by rw[Fh,X2];exact lt_mul (iR bm _) bx
    have c3:2^(N+(s+1)*(M+1))=2*2^(M+(N+s*(M+1))):=by rw[mf,Sd,show N+(s*(M+1)+(M+1))=(M+(N+s*(M+1)))+1 by lia,Gv];lia
    rw[c3];split
    .exact FI c1 c2
    .exact FM c1 (uk _ (by decide))
   .show l*J i+(if i=p then _ else 0)=(if i=p then x else S i)*l^(i -(a -(s+1)))/\(if i=p then x else S i).natAbs<_;rw[r1]at h2⊢;rw[r2]at H hz;by_cases P:i=p
    .rw[Bi P,Bi P,hz i (.inl (by rw[P];exact PH p)),e1,ex,P,ar,TB];refine⟨by rw[Oy,oo,cm],?_⟩;rw[show a -1 -p=s by rw[O];exact Y1 p s];exact bx
    .have pi:=pb h2 (SC P);have hh:=H i h1 pi;rw[BM P,BM P,hh.1,Xk pi,OF];exact⟨by grind,hh.2⟩
   .show l*J i+(if i=p then _ else 0)=0;rw[r1,O]at h;rw[BM (by clear dv H hz bs YT;lia),hz i (by rw[r2,O];clear dv H hz bs YT;lia),Oy];rfl
 .rintro _ ⟨R,r,J,L,Z,E,⟨dv,lR,X,H,hz⟩,rfl⟩;rw[qX]at dv lR X H hz;have brr:=c a (by lia);fin2;refine⟨by lia,by lia,?_⟩;rw[CB];refine bu (λj T=>∃(L:Option W),T=[some (.lst (A.map W.int)),some (.lst (b.map W.int)),some (.int a),some (.int l),some (.lst (R.map W.int)),some (.lst ((tabI a λk=>if k<j then r k*l^k else r k).map W.int)),L,Z,E,some (.int (l^j))]) ⟨L,?_⟩ ?_ ?_
  .rw[TB,jm (n:=a) (f:=λk=>if k<0 then r k*l^k else r k) λk _=>BM (Nat.not_lt_zero k)]
  .rintro j w _ N2 kW ⟨L,rfl⟩ qm;obtain⟨D,rfl⟩:=kj kW;have bh:=(H j D (by lia)).2;have bp:=DO (i:=j) Y;have YV:(l^j).natAbs<2^(M*j+1):=by
    have:2^(M*j+1)=2*2^(M*j):=by rw[Gv];lia
    have:0<2^(M*j):=T1 (by decide);lia
   have k1:=c (a -1 -j+j) (by lia);rw[mf]at k1;have k2:M*j<=j*(M+1):=by rw[X2];exact FV _ (wb M)
   have k4:=c (j+1) D;rw[mf,Sd]at k4;fin2;refine⟨_,bH (by rw[DL,fy D];rfl),?_⟩;rw[BM (QP j)];fin2;refine⟨aG bh YV (by clear k4;generalize j*(M+1)=u at*;generalize(a -1 -j)*(M+1)=v at*;generalize K*(M+1)=z at*;lia),j,iL (by rw[Ap,aQ];exact D),aG YV Y (by clear k1;generalize j*(M+1)=u at*;generalize K*(M+1)=z at*;lia),?_⟩;have e:=fZ (n:=a) (f:=λk=>if k<j then r k*l^k else r k) (g:=λk=>if k<j+1 then r k*l^k else r k) D (λk _ B=>by
    by_cases t:k<j
    .rw[Bi t,Bi (by lia)]
    .rw[BM t,BM (by lia)])
   rw[Bi (PH j)]at e;rw[<-gd,e];refine qm _ ⟨some (.int j),?_⟩;rw[OF]
  .rintro _ ⟨L,rfl⟩;rw[qX];fin2;refine⟨R,rfl,λts tr=>?_⟩;refine⟨ao (by simp),?_⟩;have tl:=vU tr;have eqf:∀i,J i=(tabI a λk=>if k<a then r k*l^k else r k).getD i 0:=λi=>by
    rw[oE];by_cases hi:i<a
    .rw[Bi hi,Bi hi,(H i hi (by lia)).1,show i -(a -a)=i by lia]
    .rw[BM hi,hz i (by lia)]
   refine q _ ts ⟨?_,by lia,λk=>?_,λy F=>?_,λy F=>?_,tr.last⟩
   .rw[aQ,U]
   .rw[U,hl,dv k,Hz tr];congr 2;exact funext eqf
   .obtain⟨k,B,rfl⟩:=qp F;rw[Bi B,Fh,U];refine yG (HA (H k B (by lia)).2 (DO (i:=k) Y)) ?_;have e:a*(M+1)=(a -1 -k)*(M+1)+(k+1)*(M+1):=by rw[<-mf,show a -1 -k+(k+1)=a by lia]
    have e2:M*k<=(k+1)*(M+1):=by rw[X2];exact GT (by lia) (by lia)
    lia
   .rw[U];exact X y (tr.mem y F)
end VL
namespace L2
open PySem
end L2
namespace VL
open PySem PySem.Spec
open PyProof.Rows hiding St
open L2 Num
theorem FJ(b a:List Int)(i k:Nat):cf b a (i+1) k=cf b a i k+b.getD i 0*(if i<=k then a.getD (k -i) 0 else 0):=by rw[vP,vP,sm]
noncomputable def iS:List CS:=[.set 2 (.bin .Add (.bin .Sub (.blt .len [(.var 0)]) (.blt .len [(.var 1)])) (.int 1)),.set 3 (.blt .list [(.var 0)]),.set 4 (.bin .Mult (.lst [(.int 0)]) (.var 2)),.fr [5] true (.jA [(.bin .Sub (.var 2) (.int 1)),(.neg (.int 1)),(.neg (.int 1))]) [.j4 6 (.bin .FloorDiv (.pop 3) (.ix (.var 1) (.neg (.int 1)))),.put 4 (.var 5) (.var 6),.fr [7] true (.jA [(.bin .Sub (.blt .len [(.var 1)]) (.int 1))]) [.put 3 (.bin .Add (.var 5) (.var 7)) (.bin .Sub (.ix (.var 3) (.bin .Add (.var 5) (.var 7))) (.bin .Mult (.var 6) (.ix (.var 1) (.var 7))))]],.ret (.var 4)]
noncomputable def jn:bD:=λc Q _=>∃(b a Z:List Int)(N:Nat),c=[wI b,wI a]/\(0<a.length/\0<Z.length/\b.length<=100/\b.length+1=Z.length+a.length/\(∀k,b.getD k 0=cf Z a Z.length k)/\a.getD (a.length -1) 0≠0/\N<=60000000/\(∀x∈a,x.natAbs<2^N)/\∀x∈Z,x.natAbs<2^N)/\Q (wI Z)
theorem uJ{Φ:Nat->bD}{G:Nat->W}{m:Md}(X:List W)(Q:W->Prop)(R:Addr->Prop)(h:jn X Q R):wSs Φ G iS (bU m Q R) (au 8 X):=by
 obtain⟨r,b,Z,N,rfl,⟨Y,lw,ln,lnm,hW,Uu,hN,bm,bW⟩,q⟩:=h;show wSs _ _ iS _ [some (wI r),some (wI b),none,none,none,none,none,none];unfold iS wI;unfold wI at q;have eL:=sO Y;have bL:=iR bm (b.length -1);have QU:(b.map W.int).length=b.length:=Ap _;fin2;rw[Ap,QU,show(r.length:Int) -(b.length:Int)+1=((Z.length:Nat):Int) by lia];generalize kq:Z.length=a at*;rw[CB,fW,xj];refine⟨ao (by simp),by lia,by lia,ao (by simp;lia),?_⟩;refine sP (by lia) ?_;fin2;refine bu (λs H=>∃(R:List Int)(J I y:Option W),(R.length=r.length -s/\(∀k,k<r.length -s->R.getD k 0=cf Z b (a -s) k))/\H=[some (.lst (r.map W.int)),some (.lst (b.map W.int)),some (.int a),some (.lst (R.map W.int)),some (.lst ((tabI a λk=>if a -s<=k then Z.getD k 0 else 0).map W.int)),J,I,y]) ⟨r,none,none,none,⟨rfl,λk _=>by rw[hW k];rfl⟩,?_⟩ ?_ ?_
 .rw[jm (n:=a) (f:=λk=>if a -0<=k then Z.getD k 0 else 0) (g:=λ_=>0) λk u=>(BM (show¬a -0<=k by lia))]
 .rintro s w _ N1 hw ⟨R,J,I,y,⟨lR,O⟩,rfl⟩ fz;obtain⟨hs,rfl⟩:=AR hw;have B:((a:Nat):Int) -1 -(s:Int)=((a -1 -s:Nat):Int):=by lia
  rw[B];generalize L:a -1 -s=p at*;have D:a=p+s+1:=by lia
  obtain⟨d,i⟩:∃d,b.length=d+1:=⟨_,(Vd Y).symm⟩;have M:r.length=p+d+(s+1):=by lia
  clear L B;have A:r.length -s=p+d+1:=by rw[M,mM s 1,<-kS,Fn]
  have T:R.length=p+b.length:=by rw[lR,A,i];rfl
  have U:a -s=p+1:=by rw[D,pd,Fn]
  have S:a -(s+1)=p:=by rw[D];exact Fn p (s+1)
  obtain⟨l,x,rfl⟩:=lI (R:=R) (by rw[T,i];exact aa _);have F:l.length=p+d:=by rw[FS,i]at T;exact L0 T
  have ex:(l++[x]).getD (p+d) 0=x:=by rw[AC,Gc (gN F),F,ar];rfl
  have eg:∀k,k<p+d->(l++[x]).getD k 0=l.getD k 0:=λk u=>by rw[AC,KF (by rw[F];exact u),<-AC]
  have xv:x=Z.getD p 0*b.getD (b.length -1) 0:=by have:=O (p+d) (by rw[A];exact PH _);rw[ex,U,FJ,kL Z b _ p (by rw[i];exact D2 _),Bi (SU _ _),show p+d -p=b.length -1 by rw[i];exact Y1 p d,oo]at this;exact this
  have P:=iR bW p;have hv:x.fdiv (b.getD (b.length -1) 0)=Z.getD p 0:=by rw[xv,lh ⟨Z.getD p 0,bb _ _⟩,Int.mul_ediv_cancel _ Uu]
  fin2;refine⟨_,pop_at,?_⟩;rw[uI];fin2;refine⟨_,eL,?_⟩;fin2;refine⟨⟨Uu,uE bL (Bz hN (by decide))⟩,?_⟩;rw[hv];refine⟨p,iL (by rw[Ap,aQ,D];exact sT (SU _ _)),?_⟩;have et:=fZ (n:=a) (f:=λk=>if a -s<=k then Z.getD k 0 else 0) (g:=λk=>if a -(s+1)<=k then Z.getD k 0 else 0) (k:=p) (by rw[D];exact sT (SU _ _)) (λj _ E=>by
   rw[U,S];by_cases v:p+1<=j
   .rw[Bi v,Bi (Q1 v)]
   .rw[BM v,BM λz=>v (pb z (SC E))])
  rw[Bi (gN S)]at et;rw[<-gd,et,QU];refine⟨by lia,by lia,?_⟩;rw[show((b.length:Int) -1).toNat=d by rw[i];lia];refine bu (λj H=>∃(y:Option W),H=[some (.lst (r.map W.int)),some (.lst (b.map W.int)),some (.int a),some (.lst ((tabI (p+d) λk=>if p<=k/\k<p+j then l.getD k 0 -Z.getD p 0*b.getD (k -p) 0 else l.getD k 0).map W.int)),some (.lst ((tabI a λk=>if a -(s+1)<=k then Z.getD k 0 else 0).map W.int)),some (.int p),some (.int (Z.getD p 0)),y]) ⟨y,?_⟩ ?_ ?_
  .rw[jm (n:=p+d) (f:=λk=>if p<=k/\k<p+0 then l.getD k 0 -Z.getD p 0*b.getD (k -p) 0 else l.getD k 0) λk _=>BM (show¬(p<=k/\k<p+0)from λz=>QP _ (FM z.2 z.1)),<-mW l F]
  .rintro j w _ N2 kW ⟨y,rfl⟩ qm;obtain⟨E,rfl⟩:=kj kW;have K:p+j<p+d:=Xu E p;fin2;rw[show(p:Int)+(j:Int)=((p+j:Nat):Int) by lia];refine⟨_,bH (by rw[DL,fy K];rfl),?_⟩;rw[BM (show¬(p<=p+j/\p+j<p+j)from λz=>QP _ z.2)];refine⟨_,bH (int_at (by rw[i];exact cq E)),?_⟩;fin2;refine⟨aG P (iR bm j) (by lia),p+j,iL (by rw[Ap,aQ];exact K),qm _ ⟨some (.int j),?_⟩⟩;have e:=fZ (n:=p+d) (f:=λk=>if p<=k/\k<p+j then l.getD k 0 -Z.getD p 0*b.getD (k -p) 0 else l.getD k 0) (g:=λk=>if p<=k/\k<p+(j+1)then l.getD k 0 -Z.getD p 0*b.getD (k -p) 0 else l.getD k 0) K (λk _ u=>by
    by_cases o:p<=k/\k<p+j
    .rw[Bi o,Bi ⟨o.1,cq o.2⟩]
    .rw[BM o,BM λz=>o ⟨z.1,pb (Ye z.2) u⟩])
   rw[Bi ⟨SU _ _,PH _⟩,Y1]at e;rw[<-e,gd]
  .rintro _ ⟨y,rfl⟩;rw[qX];refine fz _ ⟨_,_,_,_,⟨by rw[aQ,M,Fn],λk u=>?_⟩,rfl⟩;rw[M,Fn]at u;have C:=u;rw[lH C,S];have c:=O k (by rw[A];exact cq u);rw[eg k C,U,FJ]at c;by_cases t:p<=k
   .rw[Bi ⟨t,u⟩];rw[Bi t]at c;lia
   .rw[BM λz=>t z.1];rw[BM t,Oy,h7]at c;exact c
 .rintro _ ⟨R,J,I,y,⟨lR,O⟩,rfl⟩;rw[qX];fin2;have e:(tabI a λk=>if a -a<=k then Z.getD k 0 else 0)=Z:=by rw[jm (g:=λk=>Z.getD k 0) λk _=>Bi (by lia),<-mW Z kq]
  rw[e];exact q
abbrev Vq:List Str:=["ahead","last","factor_ahead","factor_last","lead","height","sign","scale","known"]
abbrev nV:Md:=.o Vq [.s,.s,.s,.s,.s,.s,.s,.s,.s]
noncomputable def qY(C:Addr)(A B d c:List Int)(a h sg sc b:Int):W:=.obj C Vq [wI A,wI B,wI d,wI c,.int a,.int h,.int sg,.int sc,.int b]
theorem FL{y:Int}{n:Nat}(h:y.natAbs<2^n)(a:n<=100000000):y.natAbs.log2<1000000000:=by
 rcases dC y.natAbs with e|e
 .rw[e];decide
 .have:=(To (mI e)).mpr h;exact FM this (Bz a (by decide))
structure YW(A B fA fB:List Int)(ld h:Int)(N E:Nat):Prop where
 l2:2<=B.length
 Uv:B.length<=A.length
 l15:A.length<=15
 lf:fA.length<=40
 WA:fB.length<=40
 bA:∀x∈A,x.natAbs<2^N
 bB:∀x∈B,x.natAbs<2^N
 bfA:∀x∈fA,x.natAbs<2^N
 bfB:∀x∈fB,x.natAbs<2^N
 bl:ld.natAbs<2^N
 bh:h.natAbs<2^N
 hN:N<=5000
 hE:E<=12000
 k0:ld*h^(A.length -B.length)≠0
 kE:(ld*h^(A.length -B.length)).natAbs<=2^E
 h0:0<A.length -B.length->h^(A.length -B.length -1)≠0/\(h^(A.length -B.length -1)).natAbs<=2^E
noncomputable def P6(A B a R:List Int)(c:Int):Prop:=c=B.getD (B.length -1) 0^(A.length -B.length+1)/\a.length=A.length -B.length+1/\(∀k,R.getD k 0=c*A.getD k 0 -cf a B a.length k)/\R.length<B.length/\(R=[]\/R.getD (R.length -1) 0≠0)
theorem xm{n m:Nat}(h:Nat.blt n m=true):n<m:=Nat.le_of_ble_eq_true h
theorem Xm{y:Int}{n:Nat}(h:y.natAbs<2^n)(e:Nat):(y^e).natAbs<2^(n*e+1):=by rw[Sub.eT];refine IR (SL (Q1 h) e) ?_;rw[<-du];exact eC (by decide) (PH _)
theorem P7{A B a R:List Int}{N M:Nat}(h:P4 A B N M a R)(b:B.length<=A.length):P6 A B a R (B.getD (B.length -1) 0^(A.length+1 -B.length)):=by
 have e:A.length+1 -B.length=A.length -B.length+1:=by lia
 refine⟨by rw[e],by rw[h.Us,e],λk=>?_,h.Ut,h.last⟩;rw[h.eq k,gc];show _=jb (λi=>a.getD i 0) (λi=>B.getD i 0) k+_ -jb (λi=>a.getD i 0) (λi=>B.getD i 0) k;lia
noncomputable def dj:List CS:=[.Er [1,2,3] (.call 0 [(.own 0 [.fl 0 "ahead"]),(.own 0 [.fl 1 "last"])]),.iff (.cmp .Eq (.var 2) (.lst [])) [.Ah (.bl false)] [],.set 4 (.call 1 [(.call 2 [(.own 0 [.fl 2 "factor_ahead"]),(.var 3)]),(.call 3 [(.var 1),(.own 0 [.fl 3 "factor_last"])])]),.iff (.and [(.cmp .Eq (.bin .Mod (.blt .len [(.own 0 [.fl 0 "ahead"])]) (.int 2)) (.int 0)),(.cmp .Eq (.bin .Mod (.blt .len [(.own 0 [.fl 1 "last"])]) (.int 2)) (.int 0))]) [.BW 0 6 (.neg (.own 0 [.fl 6 "sign"]))] [],.set 5 (.bin .Sub (.blt .len [(.own 0 [.fl 0 "ahead"])]) (.blt .len [(.own 0 [.fl 1 "last"])])),.set 6 (.bin .Mult (.own 0 [.fl 4 "lead"]) (.call 4 [(.own 0 [.fl 5 "height"]),(.var 5)])),.BW 0 7 (.var 3),.BW 0 8 (.var 6),.BW 0 0 (.own 0 [.fl 1 "last"]),.BW 0 2 (.own 0 [.fl 3 "factor_last"]),.BW 0 1 (.comp [0] true 1 (.var 2) (.bl true) (.bin .FloorDiv (.var 0) (.var 7))),.BW 0 3 (.comp [0] true 1 (.var 4) (.bl true) (.bin .FloorDiv (.var 0) (.var 7))),.BW 0 4 (.ix (.own 0 [.fl 0 "ahead"]) (.neg (.int 1))),.BW 0 5 (.call 5 [(.own 0 [.fl 5 "height"]),(.own 0 [.fl 4 "lead"]),(.var 5)]),.Ah (.bl true)]
theorem aJ{x n:Nat}(h:x<=2^n):x<2^(n+1):=IR h (eC (by decide) (PH _))
theorem AS:∀(n:Nat)(V:List Int),V.length=n->∃W:List Int,(∀k,W.getD k 0=V.getD k 0)/\(W=[]\/W.getD (W.length -1) 0≠0)/\W.length<=V.length
 |0,V,h=>⟨V,λ_=>rfl,.inl (KM.mp h),D2 _⟩
 |n+1,V,h=>by
  have b:V≠[]:=λz=>by rw[z]at h;cases h
  obtain⟨a,x,rfl⟩:∃a x,V=a++[x]:=⟨V.dropLast,V.getLast b,(h8 b).symm⟩;have d:a.length=n:=by rw[FS]at h;simp only[A6,KZ]at h;lia
  have ex:(a++[x]).getD n 0=x:=by rw[AC,Gc (by lia),d,ar];rfl
  by_cases f:x=0
  .obtain⟨W,e,z,l⟩:=AS n a d;refine⟨W,λk=>?_,z,by rw[FS];lia⟩;rw[e k];by_cases g:k<a.length
   .rw[AC,AC,KF g]
   .rw[outI (by lia)];by_cases c:k=n
    .rw[c,ex,f]
    .rw[outI (by rw[FS];show a.length+1<=k;lia)]
  .refine⟨a++[x],λ_=>rfl,.inr ?_,D2 _⟩;rw[h,Fn,ex];exact f
noncomputable def QV(a:List Rat):Nat->Rat:=λi=>a.getD i 0
noncomputable def YX(b p2:Nat)(g a:List Rat):Prop:=∃(s:List Rat)(D:Int),(∀k,a.getD k 0=aA (QV s) (QV g) k)/\D≠0/\D.natAbs<2^b/\∀x∈s,Cd D p2 x
structure aaO(p1 p2:Nat)(a b g u v:List Rat):Prop where
 ng:aj g
 nu:aj u
 nv:aj v
 Yh:∀k,g.getD k 0=aA (QV u) (QV a) k+aA (QV v) (QV b) k
 da:YX p1 p2 g a
 db:YX p1 p2 g b
 ne:g≠[]
 one:g.getD (g.length -1) 0=1
noncomputable def Uw(x:Addr)(H H':Hp):Prop:=∀b o,b≠x->H b=some o->H' b=some o
noncomputable def FN(C:Addr):Sp:=λg H Q _=>∃(x f:Addr)(e d c:V),g=[.ref x,e,d,c]/\H x=some (.ins C f [])/\∀(b:Addr)(a:Hp),Uw x H a->H b=none->a b=some (.lst [])->a x=some (.ins C f (Vq.zip [e,d,c,.ref b,.int 1,.int 1,.int 1,.int 1,.int 1]))->Q .aV a
noncomputable def uK(C:Addr):bD:=λa Q _=>∃A B f:List Int,a=[wI A,wI B,wI f]/\Q (qY C A B f [] 1 1 1 1 1)
theorem lJ{K:Frag}{A:Addr->Prop}{H:Hp}(i:Int):Rep K A H (.int i) (.int i):=by dsimp only[Rep]
theorem LK{K:Frag}{B:Addr->Prop}{H:Hp}:∀{n:Nat}{a:List W}{vs:List V},af K B H a vs->a.length=n->eY K B H (A2 n .s) a vs []
 |0,[],vs,r,_=>by
  cases r;show eY K B H [] _ _ _;dsimp only[eY];exact⟨rfl,rfl,rfl⟩
 |n+1,w::a,vs,r,e=>by obtain⟨v,b,rfl,d,c⟩:=r.cons_inv;show eY K B H (.s::A2 n .s) _ _ _;dsimp only[eY];refine⟨w,a,v,b,[],[],rfl,rfl,rfl,?_,LK c (by simpa using e)⟩;dsimp only[Fp];exact⟨rfl,d⟩
 |0,_::_,_,_,e=>by cases e
 |n+1,[],_,_,e=>by cases e
theorem yH{P:Program}{w:World}{K:Frag}{D:Str->Option Value}{base:Heap}{k:Nat}{C f:Addr}{G:FuncData}{ps:List Str}(Y:yi K C Vq)(M:Mk K C f)(b:Binds K G ps [])(F:b9 P w K D base (jB P w) k f G ps (FN C)):
 cH P w K D base (k+1) (.ref C) 3 (oj K 3 nV (uK C)):=by
 refine .mk M b F λvs H Q E hz x j m q S=>?_;obtain⟨A,ws,P,R,l,r,d,⟨a,b',f',e,Z⟩,c,er⟩:=hz;subst e;obtain⟨y,_,rfl,O,r⟩:=r.cons_inv;obtain⟨v,_,rfl,N,r⟩:=r.cons_inv;obtain⟨u,_,rfl,L,r⟩:=r.cons_inv;cases r;refine⟨x,j,y,v,u,rfl,aF,λg J U h e4 ex=>⟨rfl,?_⟩⟩;have I:g≠x:=λe=>by rw[e,aF]at h;cases h
 have s:g≠j:=λe=>by rw[e,ak S,aF]at h;cases h
 have h4:H g=none:=by rw[ak I,ak s]at h;exact h
 have sm:aq H J:=λb o i=>by
  have B:b≠x:=λe=>by rw[e,m]at i;cases i
  have T:b≠j:=λe=>by rw[e,q]at i;cases i
  exact U b o B (by rw[ak B,ak T];exact i)
 have t:∀p o,H p=some o->(A p\/p∈[x])->A p:=λp o e z=>by
  rcases z with z|z
  .exact z
  .rw[FK.mp z,m]at e;cases e
 refine c _ (.ref x) J Z sm ⟨[x],by simp,λp X=>by rw[FK.mp X];exact m,?_⟩;unfold qY;dsimp only[Fp];refine⟨C,j,_,x,[y,v,u,.ref g,.int 1,.int 1,.int 1,.int 1,.int 1],[],rfl,rfl,rfl,ex,rfl,Y,?_⟩;refine LK (n:=9) ?_ rfl;refine .cons (Rep.mv sm t _ O) (.cons (Rep.mv sm t _ N) (.cons (Rep.mv sm t _ L) (.cons ?_ (.cons (lJ 1) (.cons (lJ 1) (.cons (lJ 1) (.cons (lJ 1) (.cons (lJ 1) .nil))))))));show Rep _ _ _ (.lst []) _;dsimp only[Rep];refine⟨g,[],rfl,λz=>?_,.inl e4,.nil⟩;rcases z with z|z
 .obtain⟨o,e⟩:=d g z;rw[h4]at e;cases e
 .exact I (FK.mp z)
theorem JO(ns:List Int)(a b:Option Int):∃ms:List Int,mJ (ns.map W.int) a b=ms.map W.int:=by unfold mJ;exact⟨_,by rw[<-List.map_drop,<-Zr]⟩
end VL
namespace VL
open PySem PySem.Spec
open PyProof.Rows hiding St
open L2
noncomputable def Vr(P:Program)(w:World)(K:Frag)(a:Str->Option Value)(base:Heap)(k:Nat):List Str->List Md->List bD->Prop
 |x::fn,m::e,S::Ss=>(∃d n c,a x=some d/\cH P w K a base c d n (oj K n m S)/\c<=k/\∀b P R,S b P R->b.length=n)/\Vr P w K a base k fn e Ss
 |[],_,_=>True
 |_,_,_=>False
noncomputable def Xn(a:Str->Option Value):List Str->Prop
 |[]=>True
 |x::b=>a x=none/\Xn a b
theorem FO{c:Str->Option Value}:∀{a:List Str},Xn c a->∀x∈a,c x=none
 |y::a,h,x,b=>by
  rcases GE.mp b with e|b
  .rw[e];exact h.1
  .exact FO h.2 x b
theorem yI{P:Program}{w:World}{K:Frag}{b:Str->Option Value}{base:Heap}{k:Nat}:∀{fn:List Str}{a:List Md}{Ss:List bD},Vr P w K b base k fn a Ss->∀(j:Nat)(x:Str),fn[j]?=some x->∃f n d,b x=some f/\cH P w K b base d f n (oj K n (fS a j) (cg Ss j))/\d<=k/\∀c P R,cg Ss j c P R->c.length=n
 |y::fn,m::a,S::Ss,h,0,x,e=>by
  cases e;exact h.1
 |y::fn,m::a,S::Ss,h,j+1,x,e=>yI (fn:=fn) h.2 j x e
 |[],_,_,_,j,x,e=>by cases e
 |_::_,[],_,h,_,_,_=>h.elim
 |_::_,_::_,[],h,_,_,_=>h.elim
theorem tab_of{P:Program}{w:World}{K:Frag}{a:Str->Option Value}{base:Heap}{k:Nat}{fn b:List Str}{c:List Md}{Ss:List bD}(h:Vr P w K a base k fn c Ss)(z:Xn a b):Tab P w K a base fn [] b c [] (cg Ss) (nO []) k:=
 ⟨λj x e _=>yI h j x e,λ_ _ _ _ h=>(by cases h),λ_ _ e=>(by simp at e),FO z,yD K,λ_ _ _ e=>(by simp at e)⟩
end VL
namespace VL
open PySem PySem.Spec
open PyProof.Rows hiding St
open L2 Num
theorem AU{d:Nat->bD}{G:Nat->W}{c:CE}{b:List CS}{D:Dn}{a:Ev}{α:Type}(S:α->Ev)(J:α->Prop)(e:α->Nat)(s0:α)(h:a=S s0)(g:J s0)(f:∀s,J s->wE d G (λ_=>False) c (S s) λx=>truth x (QT S J e (wSs d G b) D s)):wS d G (.Ag c b) D a:=by show Ig (λa Q=>wE d G (λ_=>False) c a λx=>truth x Q) (wSs d G b) D a;exact kh S J e s0 h g f
theorem FP{d:Nat->bD}{G:Nat->W}{D:Dn}{c:Ev}{i:Nat}{e:CE}{b:List CS}{l:List W}(f:∀Q:W->Prop,Q (.lst l)->wE d G (λ_=>False) e c Q)(h:kU (λw g a=>wSs d G b g (a.set i (some w))) D l c):wS d G (.fr [i] true e b) D c:=f _ h
noncomputable def uL:bD:=λa Q _=>∃(t b:Int)(n:Nat),a=[.int t,.int b]/\n<=999999999/\b≠0/\b.natAbs<2^n/\Q (wq (A3 t b))
theorem Ux{G:Nat->W}{m:Md}(i:List W)(Q:W->Prop)(R:Addr->Prop)(h:uL i Q R):wSs (cg [AO]) G qi (bU m Q R) (au 3 i):=by
 obtain⟨t,b,n,rfl,j,p,f,c⟩:=h;show wSs _ _ qi _ [some (.int t),some (.int b),none];unfold qi;fin2;refine⟨t,b,rfl,?_⟩;obtain⟨a,l,k⟩:=DJ t b p;have o:((Aa t b:Nat):Int).natAbs<2^n:=by have:((Aa t b:Nat):Int)<=b.natAbs:=ke (by clear k l a f;lia) (by rw[Zt];exact TC ..);omega
 unfold wq at c;generalize((Aa t b:Nat):Int)=g at*;rw[l,k]at c;by_cases e:b<0
 .rw[Bi e]at a c;rw[Bi (He e)];fin2;rw[Int.zero_sub];have d:=uE (y:= -g) (by omega) j;exact⟨⟨a,d⟩,⟨a,d⟩,ao (by simp),c⟩
 .rw[BM e]at a c;rw[BM (by rw[Kx];exact e)];have d:=uE (y:=g) o j;exact⟨⟨a,d⟩,⟨a,d⟩,ao (by simp),c⟩
noncomputable def Wl(a b:Int):Prop:=(a=0/\0<=b)\/(a=1/\0<=b/\b<1000000000)
noncomputable def wW(a b:Int):W:=.lst [.int a,.int b]
noncomputable def yJ:List CS:=[.set 2 (.int 0),.fr [3] true (.sl (.var 0) (.var 1) (.bin .Add (.var 1) (.int 1))) [.set 2 (.var 3)],.iff (.or [(.cmp .Lt (.var 2) (.int 0)),(.cmp .GtE (.var 2) (.bin .Pow (.int 10) (.int 18)))]) [.ret (.lst [(.int 0),(.blt .abs [(.var 2)])])] [],.ret (.lst [(.int 1),(.bin .Add (.bin .Mod (.bin .Add (.bin .Mod (.var 2) (.int 998244341)) (.bin .Mult (.int 7919) (.var 1))) (.int 998244353)) (.int 3))])]
noncomputable def FQ:bD:=λc Q _=>∃(d:List Int)(k:Nat),c=[.gQ d,.int k]/\k<=100/\∀a b,Wl a b->Q (wW a b)
theorem P8{l:Nat->bD}{G:Nat->W}{m:Md}(p:List W)(Q:W->Prop)(R:Addr->Prop)(h:FQ p Q R):wSs l G yJ (bU m Q R) (au 4 p):=by
 obtain⟨b,k,rfl,u,d⟩:=h;show wSs _ _ yJ _ [some (.gQ b),some (.int k),none,none];unfold yJ;refine aE (λa=>a=[some (.gQ b),some (.int k),some (.int 0),none]) (λN g=>?_) ?_
 .fin2;exact g _ rfl
 rintro _ rfl;refine aE (λa=>∃(c:Int)(o:Option W),a=[some (.gQ b),some (.int k),some (.int c),o]) (λN g=>?_) ?_
 .fin2;obtain⟨t,e⟩:=JO b (some (k:Int)) (some ((k:Int)+1));rw[e];refine bu (λi r=>∃(c:Int)(o:Option W),r=[some (.gQ b),some (.int k),some (.int c),o]) ⟨0,none,rfl⟩ ?_ ?_
  .rintro i w _ v q ⟨c,o,rfl⟩ s;rw[DL]at q;obtain⟨z,_,rfl⟩:=Mo.mp q;fin2;exact s _ ⟨z,_,rfl⟩
  .rintro _ ⟨c,o,rfl⟩;exact g _ ⟨c,o,rfl⟩
 rintro _ ⟨c,o,rfl⟩;have j:wS l G (.ret (.lst [(.int 1),(.bin .Add (.bin .Mod (.bin .Add (.bin .Mod (.var 2) (.int 998244341)) (.bin .Mult (.int 7919) (.var 1))) (.int 998244353)) (.int 3))])) (bU m Q R) [some (.gQ b),some (.int k),some (.int c),o]:=by fin2;have f:=fm (x:=c.fmod 998244341+7919*(k:Int)) (n:=998244353) (by decide);refine⟨by decide,aG (n:=13) (m:=7) (by decide) (by lia) (by decide),by decide,ao (by simp),d _ _ (.inr ⟨rfl,by lia,by lia⟩)⟩
 fin2;by_cases h:c<0
 .rw[Bi (He h)];exact⟨ao (by simp),d _ _ (.inl ⟨rfl,by split<;>lia⟩)⟩
 .rw[BM (by rw[Kx];exact h)];refine⟨jR (by decide) (by decide) (by decide),?_⟩;split
  .exact⟨ao (by simp),d _ _ (.inl ⟨rfl,by first|lia|(split<;>lia)⟩)⟩
  .exact j
noncomputable def qu:List CS:=[.iff (.cmp .Eq (.ix (.var 0) (.int 0)) (.int 0)) [.set 2 (.bin .Mod (.ix (.var 0) (.int 1)) (.var 1)),.put 0 (.int 1) (.bin .FloorDiv (.ix (.var 0) (.int 1)) (.var 1)),.Ah (.var 2)] [],.fr [3] true (.jA [(.int 2)]) [.Er [4,5] (.blt .QG [(.ix (.var 0) (.int 1)),(.int 4099)]),.put 0 (.int 1) (.bin .Mod (.bin .Add (.bin .Add (.bin .Mult (.var 5) (.int 240007)) (.bin .Mult (.var 4) (.int 89))) (.int 1201)) (.int 998244353))],.Ah (.bin .Mod (.bin .FloorDiv (.ix (.var 0) (.int 1)) (.int 5)) (.var 1))]
noncomputable def jK:bD:=λe Q _=>∃(a b n:Int),e=[wW a b,.int n]/\Wl a b/\0<n/\n<2^30/\∀x d c,0<=x->x<n->Wl d c->Q (.tup [.int x,wW d c])
theorem Uy{x y:W}:jt [x,y] 0=some x:=rfl
theorem FT{x y:W}:jt [x,y] 1=some y:=rfl
theorem JP{b n:Int}(h:0<=b)(a:0<n):0<=b.fdiv n:=by rw[Tb _ (by lia)];exact ZD h (by lia)
theorem P9{t:Nat->bD}{G:Nat->W}{m:Md}(p:List W)(Q:W->Prop)(R:Addr->Prop)(h:jK p Q R):wSs t G qu (bU (.io m) Q R) (au 6 p):=by
 obtain⟨a,b,n,rfl,q,o,y,k⟩:=h;show wSs _ _ qu _ [some (wW a b),some (.int n),none,none,none,none];unfold qu;have u:n.natAbs.log2<1000000000:=qg (n:=31) (by lia) (by decide);refine aE (λd=>(a=1/\0<=b/\b<1000000000)/\d=[some (wW a b),some (.int n),none,none,none,none]) (λN l=>?_) ?_
 .unfold wW at l k⊢;fin2;refine⟨_,Uy,?_⟩;fin2;rcases q with⟨rfl,c⟩|⟨rfl,c,j⟩
  .rw[Bi (He rfl)];have f:=fm (x:=b) (n:=n) o;refine⟨_,FT,by lia,?_⟩;refine⟨_,FT,⟨by lia,u⟩,1,rfl,?_⟩;exact k _ _ _ f.1 f.2 (.inl ⟨rfl,JP c o⟩)
  .rw[BM (by decide)];exact l _ ⟨⟨rfl,c,j⟩,rfl⟩
 rintro _ ⟨⟨rfl,c,j⟩,rfl⟩;refine aE (λd=>∃(b:Int)(o3 g e:Option W),(0<=b/\b<1000000000)/\d=[some (wW 1 b),some (.int n),none,o3,g,e]) (λN l=>?_) ?_
 .fin2;refine⟨by decide,by decide,?_⟩;refine bu (λi s=>∃(b:Int)(o3 g e:Option W),(0<=b/\b<1000000000)/\s=[some (wW 1 b),some (.int n),none,o3,g,e]) ⟨b,none,none,none,⟨c,j⟩,rfl⟩ ?_ ?_
  .rintro i w _ D q ⟨b,o3,g,e,⟨c,j⟩,rfl⟩ r;unfold wW at r⊢;fin2;refine⟨_,FT,?_⟩;rw[Ul];refine⟨⟨by decide,by decide⟩,rfl,?_⟩;fin2;have A:=UC b (show(4099:Int)≠0 by decide);have z:=rg b (show(0:Int)<4099 by decide);have C:0<=b/4099:=ZD c (by decide);have B:b/4099<=b:=by lia
   have f:=fm (x:=b%4099*240007+b/4099*89+1201) (n:=998244353) (by decide);refine⟨aG (n:=31) (m:=31) (by lia) (by decide) (by decide),aG (n:=31) (m:=31) (by lia) (by decide) (by decide),by decide,1,rfl,r _ ⟨_,_,_,_,⟨f.1,by lia⟩,rfl⟩⟩
  .rintro _ ⟨b,o3,g,e,v,rfl⟩;exact l _ ⟨b,o3,g,e,v,rfl⟩
 rintro _ ⟨b,o3,g,e,⟨c,j⟩,rfl⟩;unfold wW at k⊢;fin2;have f:=fm (x:=b.fdiv 5) (n:=n) o;refine⟨_,FT,⟨by decide,qg (n:=3) (by decide) (by decide)⟩,by lia,?_⟩;exact k _ _ _ f.1 f.2 (.inr ⟨rfl,c,j⟩)
noncomputable def bt(X:Nat):Nat->Nat
 |0=>X
 |s+1=>2*bt X s+2*X+2
end VL
namespace Num
open Sub VL
theorem AV{A B:List Int}{d:Nat}(a:0<B.length)(e:A.length=d+B.length):∀s,s<=d+1->∃(Q:Nat->Int)(R:List Int),tN A B (B.getD (B.length -1) 0) s Q R/\R.length=A.length -s/\∀i,d+1<=i->Q i=0
 |0,_=>⟨λ_=>0,A,tN.start A B _,rfl,λ_ _=>rfl⟩
 |s+1,j=>by
  obtain⟨Q,R,dv,h,f⟩:=AV a e s (by lia);obtain⟨p,l⟩:∃p,d=p+s:=⟨d -s,by lia⟩;have g:R.length=p+B.length:=by lia
  refine⟨_,tabI (p+B.length -1) λk=>(B.getD (B.length -1) 0)*R.getD k 0 -(if p<=k then R.getD (p+B.length -1) 0*B.getD (k -p) 0 else 0),dv.step a rfl g (aQ _ _) (λk b=>?_),by rw[aQ];lia,λi c=>?_⟩
  .rw[lH b]
  .rw[f i c,BM (by lia)];lia
theorem JQ{A B:List Int}(f:0<B.length)(j:B.length<=A.length):∃a R:List Int,a.length=A.length -B.length+1/\(∀k,R.getD k 0=(B.getD (B.length -1) 0)^(A.length -B.length+1)*A.getD k 0 -cf a B a.length k)/\R.length<B.length/\(R=[]\/R.getD (R.length -1) 0≠0):=by
 obtain⟨Q,R,dv,h,b⟩:=AV (A:=A) (B:=B) (d:=A.length -B.length) f (by lia) (A.length -B.length+1) (D2 _);obtain⟨g,e,z,l⟩:=AS _ R rfl;refine⟨tabI (A.length -B.length+1) Q,g,aQ _ _,λk=>?_,by lia,z⟩;rw[e k,gc];have:=dv k;have c:jb (λi=>(tabI (A.length -B.length+1) Q).getD i 0) (λi=>B.getD i 0) k=jb Q (λi=>B.getD i 0) k:=by
  refine HJ (λi=>?_) (λ_=>rfl) k;rw[oE];split
  .rfl
  .exact(b i (by lia)).symm
 show _=_ -jb (λi=>(tabI (A.length -B.length+1) Q).getD i 0) (λi=>B.getD i 0) k;rw[c];lia
end Num
namespace VL
open PySem PySem.Spec
open PyProof.Rows hiding St
open L2 Num
theorem FU{α:Type}(f:α->W)(d:α)(l:List α):gh (l.map f)=(Bn l.length).map λi:Nat=>W.tup [.int i,f (l.getD i d)]:=by
 unfold gh;refine cw λi=>?_;rw[WB,DL,DL,Ap];by_cases h:i<l.length
 .have e:l.getD i d=l[i]:=by rw[AC,B1 h];rfl
  rw[UV h,B1 h];show some (W.tup [W.int i,f l[i]])=some (W.tup [W.int i,f (l.getD i d)]);rw[e]
 .rw[Do (show(Bn l.length).length<=i by simpa using h)];rfl
theorem Uz(l:List W):mJ l (some 1) none=l.drop 1:=by
 unfold mJ;rw[HT.vC,show(1:Int)=((1:Nat):Int)from rfl,HT.zp];cases l with
 |nil=>rfl
 |cons x l=>rw[show min 1 (x::l).length=1 by simp];exact vT (by simp)
theorem yK(n:Nat)(g:Nat->W):((Bn n).map g).drop 1=(Bn (n -1)).map λi=>g (i+1):=by
 cases n with
 |zero=>rfl
 |succ n=>rw[Vi];simp
noncomputable def gD:List CS:=[.ret (.sl (.comp [0,1] false 2 (.sA (.var 0)) (.bl true) (.bin .Mult (.var 0) (.var 1))) (.int 1) .aV)]
noncomputable def fD:bD:=λb Q _=>∃(a:List Int)(n:Nat),b=[wI a]/\a.length<=100/\(∀x∈a,x.natAbs<2^n)/\n<=100000000/\Q (wI (bY a))
theorem qZ{e:Nat->bD}{G:Nat->W}{m:Md}(c:List W)(Q:W->Prop)(R:Addr->Prop)(h:fD c Q R):wSs e G gD (bU m Q R) (au 1 c):=by
 obtain⟨a,n,rfl,l,f,k,b⟩:=h;show wSs _ _ gD _ [some (wI a)];unfold gD wI;fin2;rw[FU W.int 0 a];refine cD (h:=λi:Nat=>W.tup [.int i,W.int (a.getD i 0)]) (g:=λi:Nat=>W.int ((i:Int)*a.getD i 0)) _ [] _ (λi d K j=>?_) (ao (by simp;lia)) ?_
 .have d:=TK.mp d;fin2;exact⟨rfl,aG (n:=7) (m:=n) (by lia) (iR f i) (by lia),j⟩
 .rw[C4,Uz,yK];unfold wI bY at b;rw[Qr]at b;exact b
theorem UA{e:Nat->bD}{G:Nat->W}{c:CE}{b:List CS}{D:Dn}{d:Ev}(J:Nat->Ev->Prop)(f:Nat)(j:J f d)(i:∀m d,J m d->wP e G (λ_=>False) c d λx h=>truth x λk=>if k=true then∃N:Ev->Prop,(∀a,N a->∃g,g<m/\J g a)/\wSs e G b {nx:=N,rt:=D.rt,bk:=D.nx,ct:=N,ex:=λ_=>False} h else D.nx h):wS e G (.QI c b) D d:=⟨J,⟨f,j⟩,i⟩
structure FW(A B:List Int)(ld h:Int)(N E:Nat):Prop where
 l2:2<=B.length
 Uv:B.length<=A.length
 UB:A.length<=30
 bA:∀x∈A,x.natAbs<2^N
 bB:∀x∈B,x.natAbs<2^N
 bl:ld.natAbs<2^N
 bh:h.natAbs<2^N
 hN:(A.length+1)*(N+1)<=85000000
 qm:N<=10000000
 hE:E<=90000000
 k0:ld*h^(A.length -B.length)≠0
 kE:(ld*h^(A.length -B.length)).natAbs<=2^E
 h0:0<A.length -B.length->h^(A.length -B.length -1)≠0/\(h^(A.length -B.length -1)).natAbs<=2^E
noncomputable def lK(C:Addr):bD:=λe Q _=>∃(A B:List Int)(a h sg sc d:Int)(N E:Nat),e=[qY C A B [] [] a h sg sc d]/\FW A B a h N E/\
 (∀(b:List Int)(c:Int),P6 A B b [] c->Q (.tup [.bl false,qY C A B [] [] a h sg sc d]))/\
 (∀(b R:List Int)(c f:Int),R≠[]->P6 A B b R c->Q (.tup [.bl true,qY C B (R.map λy=>y.fdiv (a*h^(A.length -B.length))) [] [] (B.getD (B.length -1) 0) (Sub.hnext h (B.getD (B.length -1) 0) (A.length -B.length)) f c (a*h^(A.length -B.length))]))
theorem FY{G:Nat->W}{m:Md}{C:Addr}(w:List W)(Q:W->Prop)(R:Addr->Prop)(h:lK C w Q R):wSs (cg [f6,iN,iK,iO,oB,iQ]) G dj (bU m Q R) (au 7 w):=by
 obtain⟨A,B,f,h,sg,sc,l,N,E,rfl,⟨l2,Uv,UB,bA,U,bl,t,q,Z,hE,J,kE,O⟩,D,x⟩:=h;show wSs _ _ dj _ [some (qY C A B [] [] f h sg sc l),none,none,none,none,none,none];have lB:=iR U (B.length -1);have s:=sO (ns:=B) (by lia);unfold dj;have I:(A.length+1 -B.length)*(N+1)<=85000000:=Bz (Pl _ (ui _ _)) q;have p:N*(A.length+1 -B.length)<=85000000:=by rw[X2];exact Bz (FV _ (wb N)) I
 refine aE (λa=>∃d e,P4 A B N N d e/\a=[some (qY C A B [] [] f h sg sc l),some (wI d),some (wI e),some (.int (B.getD (B.length -1) 0^(A.length+1 -B.length))),none,none,none]) (λu b=>?_) ?_
 .unfold qY at b⊢;fin2;exact⟨A,B,N,N,rfl,⟨by lia,by lia,by lia,bA,U,A.length+1,PH _,Bz (i5 Z q) (by decide)⟩,λd R dv=>⟨rfl,b _ ⟨d,R,dv,rfl⟩⟩⟩
 rintro _ ⟨d,e,dv,rfl⟩;have T:=P7 dv Uv;have lQ:=dv.Us;have lR:=dv.Ut;generalize hc:B.getD (B.length -1) 0^(A.length+1 -B.length)=c at*;refine aE (λa=>e≠[]/\a=[some (qY C A B [] [] f h sg sc l),some (wI d),some (wI e),some (.int c),none,none,none]) (λu b=>?_) ?_
 .fin2;refine⟨ao (by simp),FG (y:=[]) λk L=>?_⟩;fin2;by_cases i:e=[]
  .cases iI L i;fin2;subst i;exact D d c T
  .cases fY L i;fin2;exact b _ ⟨i,rfl⟩
 rintro _ ⟨i,rfl⟩;refine aE (λa=>a=[some (qY C A B [] [] f h sg sc l),some (wI d),some (wI e),some (.int c),some (wI []),none,none]) (λu b=>?_) ?_
 .unfold qY at b⊢;fin2;refine⟨[],c,rfl,by decide,by simp,?_⟩;refine⟨d,[],rfl,by lia,by decide,by simp,?_⟩;rw[Bi (.inr rfl)];refine⟨_,[],0,rfl,by simp,by decide,by decide,by simp,λF Y=>?_⟩;have lF:=vU Y;have:F=[]:=KM.mp (si.mp lF);subst this;exact b _ rfl
 rintro _ rfl;refine aE (λa=>∃v,a=[some (qY C A B [] [] f h v sc l),some (wI d),some (wI e),some (.int c),some (wI []),none,none]) (λu b=>?_) ?_
 .have y:=b _ ⟨sg,rfl⟩;have z:=b _ ⟨-sg,rfl⟩;clear b;unfold qY wI at y z⊢;fin2;refine⟨by decide,?_⟩;by_cases S:((A.map W.int).length:Int).fmod 2=0
  .rw[Bi (He S)];refine⟨by decide,?_⟩;by_cases P:((B.map W.int).length:Int).fmod 2=0
   .rw[Bi (He P)];exact⟨by simp,z⟩
   .rw[BM (by rw[Kx];exact P)];exact y
  .rw[BM (by rw[Kx];exact S)];exact y
 rintro _ ⟨v,rfl⟩;have o:=x d e c v i T;have X:(f*h^(A.length -B.length)).natAbs.log2<1000000000:=FL (n:=E+1) (IR kE (eC (by decide) (PH _))) (by lia);have H:N*(A.length -B.length+1)<=85000000:=Bz (FV _ (by lia)) p;have m4:N*(A.length -B.length)<=85000000:=Bz (FV _ (by lia)) p;clear D x p I q;unfold qY wI at o⊢;fin2;rw[Ap,Ap,show(A.length:Int) -(B.length:Int)=((A.length -B.length:Nat):Int) by lia];generalize CC:A.length -B.length=j at*;refine⟨h,j,N,rfl,t,Bz H (by decide),?_⟩;fin2;refine⟨aG bl (Xm t j) (by lia),xm rfl,xm rfl,xm rfl,xm rfl,?_⟩;refine cD (h:=W.int) (g:=λy=>.int (y.fdiv (f*h^j))) e [] _ (λy hy K r=>⟨⟨J,X⟩,r⟩) (ao (by simp;lia)) ⟨xm rfl,?_⟩;refine cD (h:=W.int) (g:=λy=>.int (y.fdiv (f*h^j))) [] [] _ (λy hy K r=>⟨⟨J,X⟩,r⟩) (ao (by simp)) ⟨xm rfl,_,s,xm rfl,?_⟩;refine⟨h,B.getD (B.length -1) 0,j,N,rfl,⟨t,lB,Bz H (by decide),λM=>⟨(O M).1,FL (n:=E+1) (IR (O M).2 (eC (by decide) (PH _))) (by lia)⟩⟩,xm rfl,?_⟩;rw[Qr]at o;exact o
abbrev eN(ns:List Int)(w:Nat):Nat:=w*(ns.length -1+((bY ns).length -1)+1)
structure QW(ns:List Int)(w E:Nat):Prop where
 X:Sub.FX ns (bY ns) [] [] w E
 hL:(ns.length+1)*(eN ns w+2)<=85000000
 Vs:eN ns w+1<=10000000
 hE:w*E<=90000000
 UB:ns.length<=30
 l2:2<=ns.length
 nz:ns.getD (ns.length -1) 0≠0
theorem Qa{ns A B:List Int}{w E:Nat}{d h:Int}{α f:Rat}{a b:List Rat}(P:QW ns w E)(S:Sm ns (bY ns) w E 26 A B d h α f a b)(e:2<=B.length):FW A B d h (eN ns w+1) (w*E):=by have C:=S.C;have zV:=C.zV;have lp:=C.lp;have:=P.UB;obtain⟨i,g,j⟩:=C.size P.X e;obtain⟨l,k,_,_⟩:=C.bd;exact⟨e,zV,by lia,λx c=>aJ (l x c),λx c=>aJ (k x c),aJ C.bl,aJ (Bz C.bh (Hk (by decide) (FV _ (R0 (ui _ _))))),Bz (Pl _ (by lia)) P.hL,P.Vs,P.hE,i,g,j⟩
theorem QW.sm{ns:List Int}{w E:Nat}(P:QW ns w E):Sm ns (bY ns) w E 26 ns (bY ns) 1 1 1 1 (qI ns) (aX (qI ns)):=by
 refine Sm.start P.X P.l2 P.nz (λk=>by rw[dI,QR]) (b8 ns) (λx a=>?_) (by decide) ⟨by decide,by decide⟩;rw[Kk,b8]at a;have e:cQ (qI ns) (ns.length -1)=x:=by show(qI ns).getD _ 0=x;rw[AC,a];rfl
 rw[dI]at e;rw[<-e];exact λz=>P.nz (Dx.mp z)
noncomputable def qv:List CS:=[.par [1,2] [(.var 2),(.ite (.cmp .Eq (.cmp .Gt (.own 4 [.fl 8 "known"]) (.int 0)) (.cmp .Gt (.own 4 [.fl 7 "scale"]) (.int 0))) (.neg (.var 1)) (.var 1))],.app 3 (.call 3 [(.own 4 [.fl 1 "last"]),(.var 2)])]
noncomputable def g8:List CS:=[.Er [1,2] (.tup [(.int 1),(.int 1)]),.set 3 (.lst [(.blt .list [(.var 0)]),(.call 0 [(.var 0)])]),.set 4 (.call 1 [(.ix (.var 3) (.int 0)),(.ix (.var 3) (.int 1)),(.lst [])]),.QI (.and [(.cmp .Gt (.blt .len [(.own 4 [.fl 1 "last"])]) (.int 1)),(.CF 4 0 2 [])]) qv,.ret (.var 3)]
noncomputable def xo(n m:Nat)(L:List (List Int)):Prop:=L.length<=40/\∀A∈L,A.length<=n/\∀x∈A,x.natAbs<=2^m
theorem xo.app{n m:Nat}{L:List (List Int)}{A:List Int}(h:xo n m L)(b:L.length<40)(d:A.length<=n)(c:∀x∈A,x.natAbs<=2^m):xo n m (L++[A]):=
 ⟨by rw[FS];exact b,λB a=>(KE.mp a).elim (h.2 B) λa=>by rw[FK.mp a];exact⟨d,c⟩⟩
noncomputable def lN:bD:=λb Q _=>∃(a:List Int)(w E:Nat),b=[wI a]/\QW a w E/\∀L l,jW (qI a) (aX (qI a)) l->Pz L (qI a::aX (qI a)::l)->xo a.length (eN a w) L->Q (.lst (L.map wI))
theorem UD{a b:Bool}{Q:W->Prop}(h:Q (.bl (decide (a=b)))):eZ .Eq (.bl a) (.bl b) Q:=h
theorem LM{a b:Bool}{Q:W->Prop}(h:Q (.bl (!decide (a=b)))):eZ .NotEq (.bl a) (.bl b) Q:=h
theorem Gy.one{α:Rat}{a:Int}(h:Gy a α):a.natAbs=1:=by rcases h with⟨rfl,_⟩|⟨rfl,_⟩<;>rfl
theorem Cp{C:Addr}{m:Md}(ws:List W)(Q:W->Prop)(R:Addr->Prop)(h:lN ws Q R):wSs (cg [fD,uK C,lK C,iK]) (nO [.cls C]) g8 (bU m Q R) (au 5 ws):=by
 obtain⟨c,w,E,rfl,P,hq⟩:=h;show wSs _ _ g8 _ [some (wI c),none,none,none,none];unfold g8;have l2:=P.l2;have UB:=P.UB;have Vs:=P.Vs;have r:=P.sm;have GH:=r.C.bd.1;have bsl:=r.C.bd.2.1;have lsl:=dX c;refine aE (λf=>f=[some (wI c),some (.int 1),some (.int 1),none,none]) (λN g=>?_) ?_
 .fin2;exact⟨ao (by simp),rfl,g _ rfl⟩
 rintro _ rfl;refine aE (λf=>f=[some (wI c),some (.int 1),some (.int 1),some (.lst ([c,bY c].map wI)),none]) (λN g=>?_) ?_
 .have g:=g _ rfl;unfold wI at g⊢;fin2;refine⟨c,eN c w+1,rfl,by lia,λx I=>aJ (GH x I),by lia,ao (by simp),g⟩
 rintro _ rfl;refine aE (λf=>f=[some (wI c),some (.int 1),some (.int 1),some (.lst ([c,bY c].map wI)),some (qY C c (bY c) [] [] 1 1 1 1 1)]) (λN g=>?_) ?_
 .fin2;refine⟨_,rfl,_,rfl,ao (by simp),c,bY c,[],rfl,g _ rfl⟩
 rintro _ rfl;refine aE (λf=>∃(L:List (List Int))(d:List (List Rat))(o1 o2 o4:Option W),(jW (qI c) (aX (qI c)) d/\Pz L (qI c::aX (qI c)::d)/\xo c.length (eN c w) L)/\f=[some (wI c),o1,o2,some (.lst (L.map wI)),o4]) (λN g=>?_) ?_
 .refine UA (λm ε=>∃(L:List (List Int))(d:List (List Rat))(A B:List Int)(G h sg sc kn D t:Int)(v J:Rat)(a b:List Rat),(Sm c (bY c) w E 26 A B G h v J a b/\Gy D v/\Gy t J/\Pz L (qI c::aX (qI c)::d)/\xo c.length (eN c w) L/\L.length+B.length<=38/\∀l,jW a b l->jW (qI c) (aX (qI c)) (d++l))/\m=B.length/\ε=[some (wI c),some (.int D),some (.int t),some (.lst (L.map wI)),some (qY C A B [] [] G h sg sc kn)]) _ ⟨[c,bY c],[],c,bY c,1,1,1,1,1,1,1,1,1,qI c,aX (qI c),⟨r,.inl ⟨rfl,by decide⟩,.inl ⟨rfl,by decide⟩,⟨⟨1,by decide,r.la,r.ea⟩,⟨1,by decide,r.lb,r.eb⟩,trivial⟩,⟨by show 2<=40;decide,λA hA=>?_⟩,by show 2+_<=38;lia,λl h=>h⟩,rfl,rfl⟩ ?_
  .rcases GE.mp hA with rfl|hA
   .exact⟨D2 _,GH⟩
   .rw[FK.mp hA];exact⟨by lia,bsl⟩
  rintro m _ ⟨L,d,A,B,G,h,sg,sc,kn,D,t,v,J,a,b,⟨S,sa,sb,F,bd,lL,p⟩,rfl,rfl⟩;have k:dH a b []->jW (qI c) (aX (qI c)) d:=λQc=>by have q:=p [] (.nil Qc);rw[d4]at q;exact q
  unfold qY wI;fin2;rw[Ap];by_cases hl:1<B.length;rotate_left
  .rw[BM (by rw[Kx];lia)];have lq:=S.C.lq;have l1:b.length=1:=by rw[S.lb];lia
   obtain⟨x,rfl⟩:=d5.mp l1;exact g _ ⟨L,d,_,_,_,⟨k (dH.one (S.zb x rfl)),F,bd⟩,rfl⟩
  rw[Bi (He (by lia))];refine⟨rfl,A,B,G,h,sg,sc,kn,_,_,rfl,Qa P S hl,λQs i dv=>?_,λQs R i LL hR dv=>?_⟩
  .obtain⟨M,Le,O,H,K⟩:=dv;have T:i≠0:=by rw[M];exact Sub.cV S.C.ch.ve _
   refine⟨_,_,rfl,?_⟩;exact g _ ⟨L,d,_,_,_,⟨k (S.rem T O H K),F,bd⟩,rfl⟩
  .obtain⟨M,Le,O,H,K⟩:=dv;have T:i≠0:=by rw[M];exact Sub.cV S.C.ch.ve _
   obtain⟨en,U⟩:=S.next P.X hl M Le O H K hR;have Qc:=S.rem T O H K;have Xo:(R.map λy:Int=>v/i*(y:Rat))≠[]:=λz=>hR (oP.mp z);have k0:=(S.C.size P.X hl).1;have YZ:=U.C.bd.2.1;have DY:=S.C.DY;refine⟨_,_,rfl,?_⟩;rw[sU,Bi rfl];generalize Yc:G*h^(A.length -B.length)=u at*;have Z:=sa.next k0 T;generalize hβ: -(v*A3 u i)=Y at*;generalize hBn:(R.map λy=>y.fdiv u)=j at*;generalize hr':gJ (R.map λy:Int=>v/i*(y:Rat))=r' at*;have lBn:j.length<B.length:=by rw[<-hBn,Ap];exact H
   generalize hτ:(if decide (u>0)=decide (i>0)then-D else D)=s at*;have eτ:=Gy.one Z;have bT:∀x∈j.map (s*·),x.natAbs<=2^eN c w:=λx I=>by obtain⟨y,hy,rfl⟩:=Nw.mp I;rw[Fh,eτ,Sd];exact YZ y hy
   refine⟨λf=>f=[some (.lst (c.map W.int)),some (.int t),some (.int s),some (.lst ((L++[j.map (s*·)]).map wI)),some (qY C B j [] [] (B.getD (B.length -1) 0) (Sub.hnext h (B.getD (B.length -1) 0) (A.length -B.length)) LL i u)],?_,?_⟩
   .rintro _ rfl;refine⟨j.length,lBn,L++[j.map (s*·)],d++[r'],B,j,_,_,_,_,_,t,s,J,Y,b,r',⟨U,sb,Z,?_,bd.app (by lia) (by rw[Ap];lia) bT,?_,λl q=>?_⟩,rfl,rfl⟩
    .exact F.app (Z.row U.lb U.eb)
    .rw[FS];show L.length+1+_<=38;lia
    .rw[RF];rw[<-hr']at q⊢;exact p _ (.cons Qc Xo q)
   .unfold qv;refine aE (λf=>f=[some (.lst (c.map W.int)),some (.int t),some (.int s),some (.lst (L.map wI)),some (qY C B j [] [] (B.getD (B.length -1) 0) (Sub.hnext h (B.getD (B.length -1) 0) (A.length -B.length)) LL i u)]) (λN1 o=>?_) ?_
    .have o:=o _ rfl;rw[<-hτ]at o;unfold qY wI at o⊢;fin2;refine UD ?_;fin2;by_cases e:decide (u>0)=decide (i>0)
     .rw[Bi e]at o;rw[Bi (He e)];exact⟨rfl,o⟩
     .rw[BM e]at o;rw[BM (by rw[Kx];exact e)];exact⟨rfl,o⟩
    rintro _ rfl;unfold qY wI;fin2;refine⟨j,s,rfl,by lia,λx I=>?_,?_⟩
    .exact aG (n:=1) (m:=eN c w+1) (by lia) (aJ (YZ x I)) (by lia)
    .refine⟨fX (by rw[Ap];have:=bd.1;lia),?_⟩;rw[cx];rfl
 rintro _ ⟨L,d,o1,o2,o4,⟨q,F,bd⟩,rfl⟩;fin2;exact hq L d q F bd
structure GIn(a:List Rat):Prop where
 l8:a.length<=8
 z:aj a
 cd:∃D:Int,0<D/\D.natAbs<2^101/\∀x∈a,Cd D 117 x
 bd:∀x∈a,Bd 200 x
theorem FZ{x:Int}{n:Nat}(h:x.natAbs<2^n)(e:Nat):(x^e).natAbs<=2^(n*e):=by rw[Sub.eT,du];exact SL (Q1 h) e
noncomputable def wv(t p:Int):List Int->Int
 |[]=>0
 |c::l=>wv t p l*t+c*p^l.length
theorem AW{t p:Int}{n m:Nat}(a:t.natAbs<2^m)(b:p.natAbs<2^m):∀{l:List Int},(∀x∈l,x.natAbs<2^n)->(wv t p l).natAbs<2^(n+l.length*(m+1)+1)
 |[],_=>T1 (by decide)
 |c::l,h=>by
  have ih:=AW a b (l:=l) λx d=>h x (Ee _ d);have g:(wv t p l*t).natAbs<2^(n+l.length*(m+1)+1+m):=by rw[Fh];exact lt_mul ih a
  have f:(c*p^l.length).natAbs<2^(n+l.length*(m+1)+1+m):=by
   rw[Fh];have e:m*l.length<=l.length*(m+1):=by rw[X2,rp];lia
   refine yG (n:=n+(m*l.length+1)) (lt_mul (h c FR) (aJ (FZ b l.length))) ?_;lia
  show(wv t p l*t+c*p^l.length).natAbs<_;rw[A6,show n+(l.length+1)*(m+1)+1=(n+l.length*(m+1)+1+m)+1 by rw[mf];lia,Gv];lia
noncomputable def gE:List CS:=[.set 3 (.int 0),.set 4 (.int 1),.fr [5] true (.rev (.var 0)) [.set 3 (.bin .Add (.bin .Mult (.var 3) (.var 1)) (.bin .Mult (.var 5) (.var 4))),.set 4 (.bin .Mult (.var 4) (.var 2))],.ret (.var 3)]
noncomputable def iT:bD:=λb Q _=>∃(a:List Int)(t p:Int)(n m:Nat),b=[wI a,.int t,.int p]/\(a.length<=50/\(∀x∈a,x.natAbs<2^n)/\t.natAbs<2^m/\p.natAbs<2^m/\n<=60000000/\m<=1000)/\Q (.int (wv t p a))
theorem rj{u:Nat->bD}{G:Nat->W}{v:Md}(d:List W)(Q:W->Prop)(R:Addr->Prop)(h:iT d Q R):wSs u G gE (bU v Q R) (au 6 d):=by
 obtain⟨a,t,p,n,m,rfl,⟨z,k,bt,c,H,I⟩,q⟩:=h;show wSs _ _ gE _ [some (wI a),some (.int t),some (.int p),none,none,none];unfold gE wI;fin2;refine bu (λi s=>∃b,s=[some (.lst (a.map W.int)),some (.int t),some (.int p),some (.int (wv t p (a.drop (a.length -i)))),some (.int (p^i)),b]) ⟨none,?_⟩ ?_ ?_
 .rw[Gu,ei,TB];rfl
 .rintro i w _ N B ⟨b,rfl⟩ D;obtain⟨C,e⟩:=Fu.mp B;rw[Pi,Ap]at C;have j:a.length -1 -i<a.length:=by lia
  obtain⟨y,g,rfl⟩:∃y,y=a[a.length -1 -i]/\w=.int y:=by refine⟨_,rfl,?_⟩;rw[<-e,wt,Rn];simp only[Ap]
  fin2;have o:=AW (n:=n) bt c (l:=a.drop (a.length -i)) λx A=>k x (Wq A);have f:(a.drop (a.length -i)).length=i:=by rw[tJ];lia
  rw[f]at o;have K:i*(m+1)<=50*1001:=GT (by lia) (by lia);have J:m*i<=1000*50:=GT (by lia) (by lia);have F:y.natAbs<2^n:=by rw[g];exact k _ (Sr j)
  have r:=aJ (FZ c i);refine⟨aG o bt (by lia),aG F r (by lia),aG r c (by lia),D _ ⟨some (.int y),?_⟩⟩;have E:a.drop (a.length -(i+1))=y::a.drop (a.length -i):=by rw[show a.length -(i+1)=a.length -1 -i by lia,T2 j,show a.length -1 -i+1=a.length -i by lia,g]
  rw[E,OF];show _=[some (W.lst (a.map W.int)),some (W.int t),some (W.int p),some (W.int (wv t p (a.drop (a.length -i))*t+y*p^(a.drop (a.length -i)).length)),some (W.int (p^i*p)),some (W.int y)];rw[f]
 .rintro _ ⟨b,rfl⟩;fin2;rw[Pi,Ap,ar,pj];exact q
theorem iU(x:Rat):x*((x.den:Int):Rat)=x.num:=by have:=gI (x:=x) (B:=x.den) (Rh _);rw[a8 (by have:=x.den_nz;lia),cm]at this;exact this.symm
noncomputable def qw:List CS:=[.set 5 (.call 0 [(.var 4),(.ix (.var 1) (.int 0)),(.ix (.var 1) (.int 1))]),.iff (.cmp .NotEq (.var 5) (.int 0)) [.iff (.and [(.cmp .NotEq (.var 3) (.int 0)),(.cmp .NotEq (.cmp .Gt (.var 5) (.int 0)) (.cmp .Gt (.var 3) (.int 0)))]) [.set 2 (.bin .Add (.var 2) (.int 1))] [],.set 3 (.var 5)] []]
noncomputable def mX:List CS:=[.set 2 (.int 0),.set 3 (.int 0),.fr [4] true (.var 0) qw,.ret (.var 2)]
structure Qe(L:List (List Int)):Prop where
 ex:∃n m,xo n m L/\n<=30/\m<=10000000
noncomputable def Bx(x:Rat):Prop:=x.num.natAbs<2^200/\x.den<2^200
noncomputable def qx:bD:=λa Q _=>∃(L:List (List Int))(x:Rat),a=[.lst (L.map wI),wq x]/\(Qe L/\Bx x)/\Q (.int (jZ 0 (L.map (wv x.num x.den)):Nat))
theorem Cq{G:Nat->W}{m:Md}(o:List W)(Q:W->Prop)(R:Addr->Prop)(h:qx o Q R):wSs (cg [iT]) G mX (bU m Q R) (au 6 o):=by
 obtain⟨L,x,rfl,⟨⟨n,k,⟨K,I⟩,O,P⟩,u⟩,D⟩:=h;show wSs _ _ mX _ [some (.lst (L.map wI)),some (wq x),none,none,none,none];unfold mX;fin2;generalize F:wv x.num x.den=f at*;refine bu (λi B=>∃(t b:Int)(j g:Option W),t+(jZ b ((L.drop i).map f):Nat)=(jZ 0 (L.map f):Nat)/\B=[some (.lst (L.map wI)),some (wq x),some (.int t),some (.int b),j,g]) ⟨0,0,none,none,by rw[pj,oo],rfl⟩ ?_ ?_
 .rintro i w _ N p ⟨t,b,j,g,e,rfl⟩ c;rw[DL]at p;obtain⟨A,q,rfl⟩:=Mo.mp p;obtain⟨E,l⟩:=Fu.mp q;obtain⟨M,J⟩:=I A (Qb q);have H:L.drop i=A::L.drop (i+1):=by rw[T2 E,l]
  rw[H,L9]at e;have e:t+((if f A=0 then jZ b ((L.drop (i+1)).map f)else(if b≠0/\¬decide (f A>0)=decide (b>0)then 1 else 0)+jZ (f A) ((L.drop (i+1)).map f):Nat):Int)=(jZ 0 (L.map f):Nat):=e;unfold qw;refine aE (λd=>d=[some (.lst (L.map wI)),some (wq x),some (.int t),some (.int b),some (wI A),some (.int (f A))]) (λS r=>?_) ?_
  .unfold wq at r⊢;fin2;refine⟨_,rfl,_,rfl,?_⟩;refine⟨A,x.num,x.den,k+1,200,rfl,⟨by lia,λy C=>aJ (J y C),u.1,by have:=u.2;simpa using this,by lia,by decide⟩,?_⟩;rw[F];exact r _ rfl
  rintro _ rfl;generalize f A=v at*;fin2;by_cases z:v=0
  .rw[Bi z]at e;rw[z,BM (by decide)];exact c _ ⟨t,b,_,_,e,rfl⟩
  .rw[BM z]at e;rw[Bi (by simpa using z)];by_cases a:b=0
   .rw[BM λh=>h.1 a,gL]at e;rw[BM (by simpa using a)];fin2;exact c _ ⟨t,v,_,_,e,rfl⟩
   .rw[Bi (by simpa using a)];refine LM ?_;fin2;by_cases s:decide (v>0)=decide (b>0)
    .rw[BM λh=>h.2 s,gL]at e;rw[BM (by simpa using s)];exact c _ ⟨t,v,_,_,e,rfl⟩
    .rw[Bi ⟨a,s⟩]at e;rw[Bi (by simpa using s)];exact c _ ⟨t+1,v,_,_,by rw[<-e];lia,rfl⟩
 .rintro _ ⟨t,b,j,g,e,rfl⟩;fin2;rw[Ap,ei]at e;have e:t+0=(jZ 0 (L.map f):Nat):=e;rw[h7]at e;rw[e];exact D
noncomputable def mY:List CS:=[.ret (.bin .Sub (.call 0 [(.var 0),(.var 1)]) (.call 0 [(.var 0),(.var 2)]))]
noncomputable def qy:bD:=λa Q _=>∃(L:List (List Int))(x y:Rat),a=[.lst (L.map wI),wq x,wq y]/\(Qe L/\Bx x/\Bx y)/\Q (.int ((jZ 0 (L.map (wv x.num x.den)):Nat) -(jZ 0 (L.map (wv y.num y.den)):Nat)))
theorem Cr{G:Nat->W}{m:Md}(a:List W)(Q:W->Prop)(R:Addr->Prop)(h:qy a Q R):wSs (cg [qx]) G mY (bU m Q R) (au 3 a):=by obtain⟨L,x,y,rfl,⟨b,d,e⟩,c⟩:=h;show wSs _ _ mY _ [some (.lst (L.map wI)),some (wq x),some (wq y)];unfold mY;fin2;exact⟨L,x,rfl,⟨b,d⟩,L,y,rfl,⟨b,e⟩,c⟩
theorem UG{Z:List Int}{b:Nat}(i:b<=101000)(a:2<=Z.length)(g:Z.length<=20)(d:Z.getD (Z.length -1) 0≠0)(h:∀x∈Z,x.natAbs<=2^b):QW Z (b+10) 230:=by
 have f:=dX Z;have c:eN Z (b+10)<=101010*38:=GT (by lia) (by rw[f];lia);refine⟨SA (m:=37) (M:=2^b) a (by lia) (by lia) h (YP) ?_ (by decide+kernel),?_,Bz (S8 c) (by decide),Bz (Pl _ (by lia:b+10<=101010)) (by decide),by lia,a,d⟩
 .have e:(2*Z.length -2)*(Z.length -1)<=38*19:=GT (by lia) (by lia);rw[<-ma,XB,X2 (2^b)];exact Pl _ (Bz e (by decide))
 .exact Bz (GT (by lia:Z.length+1<=21) (ml c 2)) (by decide)
structure Y0(ns:List Int):Prop where
 ex:∃w E,QW ns w E/\ns.length<=21/\eN ns w+1<=4800
noncomputable def kr:List CS:=[.set 1 (.call 0 [(.var 0)]),.iff (.cmp .Eq (.blt .len [(.ix (.var 1) (.neg (.int 1)))]) (.int 1)) [.ret (.var 1)] [],.ret (.call 0 [(.call 1 [(.var 0),(.ix (.call 2 [(.ix (.var 1) (.neg (.int 1)))]) (.int 1))])])]
noncomputable def mZ:bD:=λb Q _=>∃a:List Int,b=[wI a]/\Y0 a/\∀L C,Cc (qI a) C->Pz L C->Qe L->Q (.lst (L.map wI))
theorem yL{G:Nat->W}{m:Md}(I:List W)(Q:W->Prop)(R:Addr->Prop)(h:mZ I Q R):wSs (cg [lN,jn,iP]) G kr (bU m Q R) (au 2 I):=by
 obtain⟨a,rfl,⟨w,E,P,xq,hl⟩,S⟩:=h;show wSs _ _ kr _ [some (wI a),none];unfold kr;have l2:=P.l2;refine aE (λe=>∃(L:List (List Int))(l:List (List Rat)),(jW (qI a) (aX (qI a)) l/\Pz L (qI a::aX (qI a)::l)/\xo a.length (eN a w) L)/\e=[some (wI a),some (.lst (L.map wI))]) (λN v=>?_) ?_
 .fin2;exact⟨a,w,E,rfl,P,λL l j n bd=>v _ ⟨L,l,⟨j,n,bd⟩,rfl⟩⟩
 rintro _ ⟨L,l,⟨j,n,bd⟩,rfl⟩;have o:Rp (qI a):=⟨iX P.nz,by rw[b8];exact l2⟩;obtain⟨g,B,F,J,_⟩:=j.last (di o.z) o.gP;have Vb:(qI a::aX (qI a)::l).getLast?=some g:=by rw[SZ];exact B
 obtain⟨A,U,r⟩:=n.last Vb;have mA:A∈L:=List.mem_of_getLast? U;obtain⟨lA,bA⟩:=bd.2 A mA;have T:(L.map wI).getLast?=some (wI A):=by rw[Ya,U];rfl
 have O:g.length=A.length:=r.choose_spec.2.1;have s:=r.ne F J;have A0:0<A.length:=by rw[<-O];exact HI.mpr J
 refine aE (λe=>A.length≠1/\e=[some (wI a),some (.lst (L.map wI))]) (λN v=>?_) ?_
 .fin2;refine⟨_,g7 T,?_⟩;have u:=v [some (wI a),some (.lst (L.map wI))];by_cases one:A.length=1
  .obtain⟨c,rfl⟩:=d5.mp (O.trans one);have:=S L _ (HZ o j B (F c rfl)) n ⟨_,_,bd,by lia,by lia⟩;unfold wI at this⊢;fin2;rw[Ap,Bi (He (by lia))];exact this
  .have:=u ⟨one,rfl⟩;unfold wI at this⊢;fin2;rw[Ap,BM (by rw[Kx];lia)];exact this
 rintro _ ⟨one,rfl⟩;fin2;have mg:A.getD (A.length -1) 0∈A:=Sub.getD_mem' (by lia);refine⟨_,g7 T,A,eN a w+1,rfl,⟨⟨_,mg,s⟩,by lia,by lia,λx d=>aJ (bA x d)⟩,λc t f bc=>⟨_,rfl,?_⟩⟩;obtain⟨Z,⟨M,K⟩,⟨z0,D,H⟩,Y,zz⟩:=Nh l2 P.nz j B r f.pos f.dv f.all f.eq;have lm:t.length=A.length:=by rw[f.eq,Ap]
 have Y3:∀x∈t,x.natAbs<2^(eN a w+1):=λx d=>by rw[f.eq]at d;obtain⟨y,hy,rfl⟩:=Nw.mp d;refine IR (VF y c) (aJ (bA y hy))
 have GH:∀x∈a,x.natAbs<2^(eN a w+1):=λx d=>aJ (P.sm.C.bd.1 x d);have bZ:=Ad H D (by lia) M K GH Y3 Z.length;have UH:Z.length<=20:=by lia
 have Rz:Rp (qI Z)/\_:=Y.len o;have z2:2<=Z.length:=by rw[<-b8 Z];exact Rz.1.l2
 obtain⟨b,hb⟩:∃b,b=4800+20*4805:=⟨_,rfl⟩;have X:∀x∈Z,x.natAbs<2^b:=λx d=>by obtain⟨i,hi,rfl⟩:=NA d;have:=bZ i (vk _ _);rw[AC,B1 hi]at this;refine FM this (Hk (by decide) ?_);rw[hb];exact i5 (by lia) (GT UH (by lia))
 refine⟨a,t,Z,b,rfl,⟨M,z0,by lia,D,λk=>?_,K,by lia,λx d=>yG (Y3 x d) (by lia),X⟩,?_⟩
 .rw[H k,gc];rfl
 have P2:=UG (by lia:b<=101000) z2 UH zz λx d=>Q1 (X x d);refine⟨Z,_,_,rfl,P2,λL2 l2 p q Vt=>S L2 _ ⟨qI Z,l2,rfl,Y,p⟩ q ⟨_,_,Vt,by lia,YY P2.Vs⟩⟩
structure Qg(ns:List Int)(b:Nat):Prop where
 l2:2<=ns.length
 xq:ns.length<=21
 nz:ns.getD (ns.length -1) 0≠0
 bd:∀x∈ns,x.natAbs<=2^b
 hb:(b+10)*(2*ns.length -2)+1<=4800
theorem F3{ns:List Int}{b:Nat}(h:Qg ns b):Y0 ns:=by
 have l2:=h.l2;have xq:=h.xq;have c:=dX ns;have a:eN ns (b+10)=(b+10)*(2*ns.length -2):=by unfold eN;rw[c];congr 1;lia
 have hb:=h.hb;have d:b+10<=4800:=by have:(b+10)*1<=(b+10)*(2*ns.length -2):=FV _ (by lia);lia
 refine⟨b+10,230,⟨SA (m:=39) (M:=2^b) l2 (by lia) (by lia) h.bd YP ?_ (by decide+kernel),?_,by rw[a];lia,Bz (Pl _ d) (by decide),by lia,l2,h.nz⟩,xq,by rw[a];exact hb⟩
 .have e:(2*ns.length -2)*(ns.length -1)<=40*20:=GT (by lia) (by lia);rw[<-ma,XB,X2 (2^b)];exact Pl _ (Bz e (by decide))
 .refine Bz (GT (by lia:ns.length+1<=22) (show eN ns (b+10)+2<=4802 by rw[a];lia)) (by decide)
noncomputable def b6(ns:List Int)(t d:Int):List Rat:=ns.map λx=>A3 (x*t) d
theorem JR(ns:List Int)(t d:Int)(i:Nat):(b6 ns t d).getD i 0=A3 (ns.getD i 0*t) d:=by
 unfold b6;rw[AC,AC,DL];cases ns[i]? with
 |none=>show(0:Rat)=A3 (0*t) d;rw[eD,Rat.zero_divInt]
 |some x=>rfl
theorem F4{ns ms:List Int}{U V:Int}(j:U≠0)(s:V≠0)(h:∀i,ms.getD i 0*U=ns.getD i 0*V)(one:∀d:Int,(∀x∈ms,d∣x)->d∣1)(i:Nat):(ms.getD i 0).natAbs<=(ns.getD i 0).natAbs:=by
 have p:0<Aa U V:=oy _ j;obtain⟨u,f⟩:=a9 (a:=U) (b:=V);obtain⟨v,l⟩:=TC (a:=U) (b:=V);have g:Aa u v=1:=by have:=Yk (Aa U V:Int) u v;rw[<-f,<-l,C0]at this;exact V6 p (by rw[T9];exact this.symm)
 have e:∀i,ms.getD i 0*u=ns.getD i 0*v:=λi=>by have r:ms.getD i 0*U=ms.getD i 0*((Aa U V:Int)*u):=Pt (ms.getD i 0*·) f;have q:ns.getD i 0*V=ns.getD i 0*((Aa U V:Int)*v):=Pt (ns.getD i 0*·) l;refine QQ (a:=(Aa U V:Int)) (by lia) ?_;rw[Yg,<-r,h i,q,Yg]
 have dv:v∣1:=one v λx n=>by obtain⟨k,o,rfl⟩:=NA n;have c:=e k;rw[AC,B1 o]at c;have c:ms[k]*u=ns.getD k 0*v:=c;have:v∣ms[k]*u:=⟨ns.getD k 0,by rw[c,bb]⟩;have this:=de.mpr this;rw[Fh]at this;exact de.mp (cZ (by rw[Nat.coprime_iff_gcd_eq_one,Nat.gcd_comm];exact g) this)
 have m:v.natAbs=1:=Nat.dvd_one.mp (de.mpr dv);have t:u≠0:=λz=>j (by rw[f,z,Oy]);have:=Pt V0 (e i);rw[Fh,Fh,m,T9]at this;rw[<-this];exact Xt _ (by lia)
theorem xr(t b:Int):∀l:List Int,wv t b l=Num.wv t b l
 |[]=>rfl
 |x::l=>by show wv t b l*t+x*b^l.length=Num.wv t b l*t+x*b^l.length;rw[xr t b l]
noncomputable def Cn(ns:List Int)(lo hi:Rat)(v:Int):Prop:=∃(c:Rat)(C:List (List Rat)),c≠0/\Cc (dG c (qI ns)) C/\v=(eE C lo:Nat) -(eE C hi:Nat)
noncomputable def uM:List CS:=[.iff (.cmp .Eq (.var 0) (.lst [])) [.S9] [],.iff (.cmp .Eq (.blt .len [(.var 0)]) (.int 1)) [.ret (.int 0)] [],.ret (.call 0 [(.call 1 [(.ix (.call 2 [(.var 0)]) (.int 0))]),(.var 1),(.var 2)])]
noncomputable def eS:bD:=λf Q _=>∃(a:List Int)(t d:Int)(c e:Rat),f=[aM (b6 a t d),wq c,wq e]/\((a.length=1/\Q (.int 0))\/
 ((∃b,Qg a b)/\t≠0/\t.natAbs<=3/\0<d/\d.natAbs<2^100/\Bx c/\Bx e)/\∀v,Cn a c e v->Q (.int v))
theorem JS{G:Nat->W}{m:Md}(F:List W)(Q:W->Prop)(R:Addr->Prop)(h:eS F Q R):wSs (cg [qy,mZ,ko]) G uM (bU m Q R) (au 3 F):=by
 obtain⟨a,t,d,f,g,rfl,h⟩:=h;show wSs _ _ uM _ [some (aM (b6 a t d)),some (wq f),some (wq g)];unfold uM;have o:(b6 a t d).length=a.length:=Ap _;have n0:1<=a.length:=by
  rcases h with h|⟨⟨⟨b,h⟩,_⟩,_⟩
  .lia
  .have:=h.l2;lia
 refine aE (λn=>n=[some (aM (b6 a t d)),some (wq f),some (wq g)]) (λN p=>?_) ?_
 .fin2;refine⟨ao (by simp),PX (y:=[]) λk A=>?_⟩;cases fY A (λz=>by rw[z]at o;have o:0=a.length:=o;lia);fin2;exact p _ rfl
 rintro _ rfl;rcases h with⟨h1,w⟩|⟨⟨⟨b,K⟩,s,Y,d0,F5,bl,bh⟩,w⟩
 .unfold aM;fin2;rw[Ap,o,h1,Bi (by decide)];exact w
 have l2:=K.l2;have xq:=K.xq;have hb:=K.hb;have hb2:b<=4800:=by have:(b+10)*1<=(b+10)*(2*a.length -2):=FV _ (by lia);lia
 refine aE (λn=>n=[some (aM (b6 a t d)),some (wq f),some (wq g)]) (λN p=>?_) ?_
 .have p:=p _ rfl;unfold aM at p⊢;fin2;rw[Ap,o,BM (by rw[Kx];lia)];exact p
 rintro _ rfl;fin2;have H:(d:Rat)≠0:=λz=>by have:=Dx.mp z;lia
 have D:∀x:Int,A3 (x*t) d*d=((x*t:Int):Rat):=λx=>by rw[hU];grind
 have cd:∀x∈b6 a t d,Cd d (b+3) x:=λx v=>by
  obtain⟨y,hy,rfl⟩:=Nw.mp v;refine⟨y*t,D y,?_⟩;rw[Fh,XB];have:=K.bd y hy;have p0:0<2^b:=T1 (by decide)
  calc y.natAbs*t.natAbs<=2^b*3:=GT this Y
   _<2^b*2^3:=by lia
 have u:∃x∈b6 a t d,x≠0:=by have mg:a.getD (a.length -1) 0∈a:=Sub.getD_mem' (by lia);refine⟨_,Nw.mpr ⟨_,mg,rfl⟩,λz=>?_⟩;have:=D (a.getD (a.length -1) 0);rw[z,X1]at this;have:=Dx.mp this.symm;exact PQ K.nz s this
 refine⟨b6 a t d,d,b+3,100,rfl,⟨u,cd,d0,F5,by decide,by lia,by lia⟩,λl B c q _ _ _=>⟨_,rfl,?_⟩⟩;have B0:=q.bpos;have c0:=q.cpos;have qB:(B:Rat)≠0:=λz=>by have:=Dx.mp z;lia
 have I:(c:Rat)≠0:=λz=>by have:=Dx.mp z;lia
 have qt:(t:Rat)≠0:=λz=>s (Dx.mp z);have U:∀i,((l.getD i 0:Int):Rat)*c*d=((a.getD i 0:Int):Rat)*t*B:=λi=>by have P:=q.at_ i;rw[JR]at P;have O:=D (a.getD i 0);rw[FC]at O;rw[P,<-O];grind
 have r:∀i,l.getD i 0*(c*d)=a.getD i 0*(t*B):=λi=>by have:=U i;rw[<-FC,<-FC,<-FC,<-FC]at this;have:=km.mp this;rw[Wp,Wp]at this;exact this
 have M:l.length=a.length:=q.len.trans o;have le:=F4 (PQ (by lia:c≠0) (by lia:d≠0)) (PQ s (by lia:B≠0)) r q.one;have X:l.getD (l.length -1) 0≠0:=λz=>by have:=r (l.length -1);rw[z,eD,M]at this;exact PQ K.nz (PQ s (by lia:B≠0)) this.symm
 have Km:Qg l b:=⟨by lia,by lia,X,λx v=>by obtain⟨k,A,rfl⟩:=NA v;have:=le k;rw[AC,B1 A]at this;exact Bz this (K.bd _ (Sub.getD_mem' (by lia))),by rw[M];exact hb⟩;have T:(t:Rat)*B*((c:Rat)*d)⁻¹≠0:=λz=>by
  have E:(c:Rat)*d≠0:=λz=>(GM.mp z).elim I H;have:=Ha _ E;rcases GM.mp z with z|z
  .exact(GM.mp z).elim qt qB
  .rw[z,X1]at this;exact absurd this (by decide+kernel)
 have eq:qI l=dG ((t:Rat)*B*((c:Rat)*d)⁻¹) (qI a):=jU (iX X) (gg T (iX K.nz)) λk=>by
  show cQ (qI l) k=cQ (dG _ (qI a)) k;rw[cy,dI,dI];have E:(c:Rat)*d≠0:=λz=>(GM.mp z).elim I H;have i1:=Ha _ E;have:=U k;generalize((l.getD k 0:Int):Rat)=x at*;generalize((a.getD k 0:Int):Rat)=y at*;generalize((c:Rat)*d)⁻¹=j at*;have e:x=x*(j*(c*d)):=by rw[i1,fI]
  rw[e,show x*(j*(c*d))=j*(x*c*d) by grind,this];grind
 refine⟨l,rfl,F3 Km,λL C cc J Z=>?_⟩;refine⟨L,f,g,rfl,⟨Z,bl,bh⟩,?_⟩;refine w _ ⟨_,C,T,by rw[<-eq];exact cc,?_⟩;have S:∀x:Rat,x*((x.den:Int):Rat)=x.num:=iU;rw[show wv f.num f.den=Num.wv f.num f.den from funext (xr _ _),show wv g.num g.den=Num.wv g.num g.den from funext (xr _ _),Ac (x:=f) (t:=f.num) (b:=f.den) (by have:=f.den_pos;lia) (S f) J,Ac (x:=g) (t:=g.num) (b:=g.den) (by have:=g.den_pos;lia) (S g) J]
noncomputable def i6(a b:List Int):List Int:=tabI (a.length+b.length -1) (cf a b a.length)
noncomputable def AX:List CS:=[.fr [4] true (.jA [(.blt .len [(.var 1)])]) [.put 2 (.bin .Add (.var 3) (.var 4)) (.bin .Add (.ix (.var 2) (.bin .Add (.var 3) (.var 4))) (.bin .Mult (.ix (.var 0) (.var 3)) (.ix (.var 1) (.var 4))))]]
noncomputable def yM:List CS:=[.set 2 (.bin .Mult (.lst [(.int 0)]) (.bin .Sub (.bin .Add (.blt .len [(.var 0)]) (.blt .len [(.var 1)])) (.int 1))),.fr [3] true (.jA [(.blt .len [(.var 0)])]) AX,.ret (.var 2)]
noncomputable def sQ:bD:=λc Q _=>∃b a:List Int,c=[wI b,wI a]/\(0<b.length/\0<a.length/\b.length<=200/\a.length<=200/\∀x∈b,∀y∈a,IntMulOk x y)/\Q (wI (i6 b a))
theorem Qh{t:Nat->bD}{G:Nat->W}{m:Md}(p:List W)(Q:W->Prop)(R:Addr->Prop)(h:sQ p Q R):wSs t G yM (bU m Q R) (au 5 p):=by
 obtain⟨b,a,rfl,⟨I,H,F,E,B⟩,l⟩:=h;show wSs _ _ yM _ [some (wI b),some (wI a),none,none,none];unfold yM;unfold wI i6 at*;fin2;have D:((b.map W.int).length:Int)+((a.map W.int).length:Int) -1=((b.length+a.length -1:Nat):Int):=by rw[Ap,Ap];lia
 rw[D,CB,fW];refine⟨ao (by simp),by lia,by lia,ao (by simp;lia),by lia,by lia,?_⟩;rw[Ap,CB];refine bu (λi d=>∃o3 c,d=[some (.lst (b.map W.int)),some (.lst (a.map W.int)),some (.lst ((tabI (b.length+a.length -1) (cf b a i)).map W.int)),o3,c]) ⟨none,none,?_⟩ ?_ ?_
 .have:tabI (b.length+a.length -1) (cf b a 0)=A2 (b.length+a.length -1) 0:=by unfold tabI;have:cf b a 0=λ_=>0:=rfl;rw[this,U3,W1]
  rw[this,ph]
 .rintro i w _ N A ⟨o3,c,rfl⟩ C;obtain⟨s,rfl⟩:=kj A;unfold AX;fin2;refine⟨by lia,by lia,?_⟩;rw[Ap,CB];refine bu (λj d=>∃c,d=[some (.lst (b.map W.int)),some (.lst (a.map W.int)),some (.lst ((tabI (b.length+a.length -1) (vM b a i j)).map W.int)),some (.int i),c]) ⟨c,?_⟩ ?_ ?_
  .rw[show vM b a i 0=cf b a i from funext λk=>vN b a i k]
  .rintro j w _ J v ⟨c,rfl⟩ u;obtain⟨r,rfl⟩:=kj v;have o:i+j<b.length+a.length -1:=by lia
   fin2;rw[show(i:Int)+(j:Int)=((i+j:Nat):Int) by lia];refine⟨_,bH (by rw[DL,fy o];rfl),_,bH (int_at s),_,bH (int_at r),?_⟩;fin2;refine⟨uG (P:=λx=>IntMulOk x (a.getD j 0)) (λx z=>uG (P:=λy=>IntMulOk x y) (B x z) r) s,i+j,iL (by rw[Ap,aQ];exact o),u _ ⟨some (.int j),?_⟩⟩;have e:=fZ (n:=b.length+a.length -1) (f:=vM b a i j) (g:=vM b a i (j+1)) (k:=i+j) o (λq _ l=>by rw[kK,BM l,h7]);rw[kK,Bi rfl]at e;rw[<-e,gd]
  .rintro _ ⟨c,rfl⟩;refine C _ ⟨some (.int i),c,?_⟩;rw[qX,show vM b a i a.length=cf b a (i+1)from funext λk=>vO b a i k]
 .rintro _ ⟨o3,c,rfl⟩;rw[qX];fin2;exact l
noncomputable def xu:List CS:=[.set 2 (.bin .Add (.bin .Mult (.var 2) (.ix (.var 1) (.int 0))) (.bin .Mult (.var 4) (.var 3))),.set 3 (.bin .Mult (.var 3) (.ix (.var 1) (.int 1)))]
noncomputable def m5:List CS:=[.set 2 (.int 0),.set 3 (.int 1),.fr [4] true (.Lj (.var 0) (.neg (.int 1))) xu,.ret (.var 2)]
noncomputable def d8:bD:=λb Q _=>∃(a:List Int)(x:Rat)(n:Nat),b=[wI a,wq x]/\(a.length<=50/\(∀y∈a,y.natAbs<2^n)/\Bx x/\n<=60000000)/\Q (.int (wv x.num x.den a))
theorem Cs{s:Nat->bD}{G:Nat->W}{u:Md}(d:List W)(Q:W->Prop)(R:Addr->Prop)(h:d8 d Q R):wSs s G m5 (bU u Q R) (au 5 d):=by
 obtain⟨a,x,n,rfl,⟨v,k,⟨bt,b⟩,F⟩,q⟩:=h;show wSs _ _ m5 _ [some (wI a),some (wq x),none,none,none];unfold m5 wI wq;fin2;refine⟨rfl,?_⟩;have b:((x.den:Nat):Int).natAbs<2^200:=by simpa using b
 generalize((x.den:Nat):Int)=p at*;generalize x.num=t at*;refine bu (λi r=>∃c,r=[some (.lst (a.map W.int)),some (.tup [.int t,.int p]),some (.int (wv t p (a.drop (a.length -i)))),some (.int (p^i)),c]) ⟨none,?_⟩ ?_ ?_
 .rw[Gu,ei,TB];rfl
 .rintro i w _ N A ⟨c,rfl⟩ C;obtain⟨B,e⟩:=Fu.mp A;rw[Pi,Ap]at B;have j:a.length -1 -i<a.length:=by lia
  obtain⟨y,g,rfl⟩:∃y,y=a[a.length -1 -i]/\w=.int y:=by refine⟨_,rfl,?_⟩;rw[<-e,wt,Rn];simp only[Ap]
  unfold xu;fin2;have m:=AW (n:=n) bt b (l:=a.drop (a.length -i)) λx z=>k x (Wq z);have f:(a.drop (a.length -i)).length=i:=by rw[tJ];lia
  rw[f]at m;have I:i*(200+1)<=50*201:=GT (by lia) (by decide);have H:200*i<=200*50:=FV _ (by lia);have E:y.natAbs<2^n:=by rw[g];exact k _ (Sr j)
  have o:=aJ (FZ b i);refine⟨_,rfl,aG m bt (by lia),aG E o (by lia),_,rfl,aG o b (by lia),C _ ⟨some (.int y),?_⟩⟩;have D:a.drop (a.length -(i+1))=y::a.drop (a.length -i):=by rw[show a.length -(i+1)=a.length -1 -i by lia,T2 j,show a.length -1 -i+1=a.length -i by lia,g]
  rw[D,OF];show _=[some (W.lst (a.map W.int)),some (W.tup [.int t,.int p]),some (W.int (wv t p (a.drop (a.length -i))*t+y*p^(a.drop (a.length -i)).length)),some (W.int (p^i*p)),some (W.int y)];rw[f]
 .rintro _ ⟨c,rfl⟩;fin2;rw[Pi,Ap,ar,pj];exact q
noncomputable def uN:List CS:=[.ret (.comp [0] true 1 (.var 0) (.bl true) (.call 0 [(.bin .Mult (.var 0) (.var 2)),(.var 3)]))]
noncomputable def iV:bD:=λb Q _=>∃(a:List Int)(t d:Int)(n k:Nat),b=[wI a,.int t,.int d]/\(a.length<=100/\(∀y∈a,y.natAbs<2^n)/\t.natAbs<2^k/\d.natAbs<2^k/\d≠0/\n<=60000000/\k<=1000)/\Q (aM (b6 a t d))
theorem JT{G:Nat->W}{m:Md}(a:List W)(Q:W->Prop)(R:Addr->Prop)(h:iV a Q R):wSs (cg [uL]) G uN (bU m Q R) (au 3 a):=by
 obtain⟨b,t,d,n,k,rfl,⟨l,i,bt,j,f,o,p⟩,q⟩:=h;show wSs _ _ uN _ [some (wI b),some (.int t),some (.int d)];unfold uN wI;fin2;refine cD (h:=W.int) (g:=λy=>wq (A3 (y*t) d)) b [] _ (λy c K e=>?_) (ao (by simp;lia)) ?_
 .fin2;exact⟨aG (i y c) bt (by lia),y*t,d,k,rfl,by lia,f,j,e⟩
 .unfold b6 aM at q;rw[Qr]at q;exact q
noncomputable def uO:List CS:=[.set 1 (.int 0),.fr [2] true (.var 0) [.set 1 (.call 0 [(.var 1),(.var 2)])],.iff (.cmp .Lt (.ix (.var 0) (.neg (.int 1))) (.int 0)) [.set 1 (.bin .Sub (.int 0) (.var 1))] [],.ret (.comp [0] true 1 (.var 0) (.bl true) (.bin .FloorDiv (.var 0) (.var 2)))]
structure Lp(ns ms:List Int)(c:Int):Prop where
 c0:c≠0
 len:ms.length=ns.length
 eq:∀k,ns.getD k 0=c*ms.getD k 0
 one:∀d:Int,(∀x∈ms,d∣x)->d∣1
noncomputable def qz:bD:=λd Q _=>∃(a:List Int)(n:Nat),d=[wI a]/\(0<a.length/\a.length<=100/\a.getD (a.length -1) 0≠0/\(∀x∈a,x.natAbs<2^n)/\n<=100000000)/\∀b c,Lp a b c->Q (wI b)
theorem UI{ns:List Int}{g c:Int}(i:c=g\/c= -g)(r:0<ns.length)(n:ns.getD (ns.length -1) 0≠0)(dv:∀j,j<ns.length->g∣ns.getD j 0)(q:∀d:Int,(∀j,j<ns.length->d∣ns.getD j 0)->d∣g):Lp ns (ns.map (·.fdiv c)) c:=by
 have m:∀j,c∣ns.getD j 0:=λj=>by
  by_cases a:j<ns.length
  .rcases i with rfl|rfl
   .exact dv j a
   .exact Int.neg_dvd.mpr (dv j a)
  .rw[outI (by lia)];exact vb c
 have e:c≠0:=λz=>n (by have:=m (ns.length -1);rw[z]at this;exact b7.mp this);have p:∀k,(ns.map (·.fdiv c)).getD k 0=(ns.getD k 0).fdiv c:=λk=>Sub.map_getD (f:=λy=>y.fdiv c) (Lh c) k;have l:∀k,ns.getD k 0=c*(ns.map (·.fdiv c)).getD k 0:=λk=>by rw[p];obtain⟨u,b⟩:=m k;rw[b,aw _ e]
 refine⟨e,Ap _,l,λd o=>?_⟩;have h:c*d∣g:=q _ λj a=>by rw[l j];refine x5 _ (o _ ?_);exact Sub.getD_mem' (by rw[Ap];exact a)
 have h:c*d∣c:=by
  rcases i with rfl|rfl
  .exact h
  .exact Int.dvd_neg.mpr h
 obtain⟨u,b⟩:=h;exact⟨u,QQ e (by rw[cm,<-Wp];exact b)⟩
theorem JU{G:Nat->W}{m:Md}(t:List W)(Q:W->Prop)(R:Addr->Prop)(h:qz t Q R):wSs (cg [AO]) G uO (bU m Q R) (au 3 t):=by
 obtain⟨a,n,rfl,⟨v,T,u,P,H⟩,F⟩:=h;show wSs _ _ uO _ [some (wI a),none,none];unfold uO;refine aE (λb=>b=[some (wI a),some (.int 0),none]) (λN f=>?_) ?_
 .fin2;exact f _ rfl
 rintro _ rfl;refine aE (λb=>∃(g:Nat)(o2:Option W),((∀j,j<a.length->(g:Int)∣a.getD j 0)/\∀d:Int,(∀j,j<a.length->d∣a.getD j 0)->d∣(g:Int))/\b=[some (wI a),some (.int g),o2]) (λN f=>?_) ?_
 .unfold wI at f⊢;fin2;refine bu (λi E=>∃(g:Nat)(o2:Option W),((∀j,j<i->(g:Int)∣a.getD j 0)/\∀d:Int,(∀j,j<i->d∣a.getD j 0)->d∣(g:Int))/\E=[some (.lst (a.map W.int)),some (.int g),o2]) ⟨0,none,⟨λj l=>by lia,λd _=>vb d⟩,rfl⟩ ?_ ?_
  .rintro i w _ U A ⟨g,o2,⟨p,o⟩,rfl⟩ M;rw[DL]at A;obtain⟨y,x,rfl⟩:=Mo.mp A;have C:a.getD i 0=y:=by rw[AC,x];rfl
   fin2;refine⟨g,y,rfl,M _ ⟨Aa g y,_,⟨λj l=>?_,λd B=>?_⟩,rfl⟩⟩
   .rcases Nat.lt_succ_iff_lt_or_eq.mp l with l|rfl
    .exact MI (a9 ..) (p j l)
    .rw[C];exact TC ..
   .refine ZT (o d λj l=>B j (by lia)) ?_;rw[<-C];exact B i (by lia)
  .rintro _ ⟨g,o2,h,rfl⟩;rw[Ap]at h;exact f _ ⟨g,o2,h,rfl⟩
 rintro _ ⟨g,o2,⟨p,o⟩,rfl⟩;have O:=sO v;refine aE (λb=>∃(c:Int)(o2:Option W),(c=g\/c= -(g:Int))/\b=[some (wI a),some (.int c),o2]) (λN f=>?_) ?_
 .have s:=f [some (wI a),some (.int g),o2] ⟨_,_,.inl rfl,rfl⟩;have r:=f [some (wI a),some (.int (0 -g)),o2] ⟨_,_,.inr (by lia),rfl⟩;unfold wI at s r⊢;fin2;refine⟨_,O,?_⟩;fin2;split
  .exact r
  .exact s
 rintro _ ⟨c,o2,I,rfl⟩;have L:=UI I v u p o;have S:c.natAbs<2^n:=by have e:=L.eq (a.length -1);have D:=P _ (Sub.getD_mem' (k:=a.length -1) (by lia));rw[e,Fh]at D;refine IR (Xt _ ?_) D;have:(a.map (·.fdiv c)).getD (a.length -1) 0≠0:=λz=>u (by rw[e,z,Oy]);lia
 have q:=F _ c L;unfold wI at q⊢;fin2;refine cD (h:=W.int) (g:=λy=>.int (y.fdiv c)) a [] _ (λy x K J=>?_) (ao (by simp;lia)) ?_
 .fin2;exact⟨⟨L.c0,uE S (Bz H (by decide))⟩,J⟩
 .rw[Qr]at q;exact q
noncomputable def xw:List CS:=[.set 5 (.Ic [2] (.call 0 [(.var 2),(.lst [(.ix (.var 1) (.int 0)),(.ix (.var 1) (.int 1))])])),.put 5 (.int 0) (.bin .Add (.ix (.var 5) (.int 0)) (.bin .Mult (.var 4) (.var 3))),.Nj 2 5,.set 3 (.bin .Mult (.var 3) (.ix (.var 1) (.int 1)))]
noncomputable def uP:List CS:=[.set 2 (.lst [(.int 0)]),.set 3 (.int 1),.fr [4] true (.Lj (.var 0) (.neg (.int 1))) xw,.Ag (.cmp .Gt (.blt .len [(.var 2)]) (.blt .len [(.var 0)])) [.drop 2],.ret (.var 2)]
theorem F6(F:List Int)(a b:Int)(k:Nat):cf F [a,b] F.length k=a*F.getD k 0+(if 1<=k then b*F.getD (k -1) 0 else 0):=by
 rw[tH];show 0+a*(if 0<=k then F.getD (k -0) 0 else 0)+b*(if 1<=k then F.getD (k -1) 0 else 0)=_;rw[Bi (KB _),Gu,oo];split
 .rfl
 .rw[Oy]
theorem m6(F G:List Int):(i6 F G).length=F.length+G.length -1:=aQ ..
theorem AY{F G:List Int}(a:0<F.length)(k:Nat):(i6 F G).getD k 0=cf F G F.length k:=by
 unfold i6;rw[oE];split
 .rfl
 .rw[kL F G k F.length (by lia)]
theorem UJ{F G:List Int}(a:0<F.length)(x:Rat):ev x (qI (i6 F G))=ev x (qI F)*ev x (qI G):=nE x λk=>by rw[dI,AY a,gc];show((jb (co F) (co G) k:Int):Rat)=_;rw[<-sj];exact aZ (λi=>(dI F i).symm) (λi=>(dI G i).symm) k
theorem JV{F:List Int}(a:0<F.length)(z:Int)(x:Rat):ev x (qI (F.set 0 (F.getD 0 0+z)))=ev x (qI F)+z:=by
 cases F with
 |nil=>exact absurd a (by decide)
 |cons y F=>show((y+z:Int):Rat)+x*ev x (qI F)=(y:Rat)+x*ev x (qI F)+z;rw[oC];grind
structure Mj(ns:List Int)(t:Rat)(b i:Nat)(F:List Int):Prop where
 len:F.length=i+1
 top:F.getD i 0=0
 bd:∀k,(F.getD k 0).natAbs<=2^(b+5*i)
 ev:∀x:Rat,ev x (qI F)*(t.den:Rat)=(t.den:Rat)^i*Num.ev (x+t) (qI (ns.drop (ns.length -i)))
theorem Mj.step{ns F:List Int}{t:Rat}{b i:Nat}{c:Int}(h:Mj ns t b i F)(n:t.num.natAbs<=20)(f:t.den<=4)(hi:i<ns.length)(o:c=ns.getD (ns.length -1 -i) 0)(A:c.natAbs<=2^b):Mj ns t b (i+1) ((i6 F [t.num,t.den]).set 0 ((i6 F [t.num,t.den]).getD 0 0+c*(t.den:Int)^i)):=by
 have d:0<F.length:=by rw[h.len];lia
 have m:(i6 F [t.num,(t.den:Int)]).length=i+2:=by rw[m6,h.len];rfl
 have e:0<(i6 F [t.num,(t.den:Int)]).length:=by lia
 have g:∀k,k≠0->((i6 F [t.num,(t.den:Int)]).set 0 ((i6 F [t.num,(t.den:Int)]).getD 0 0+c*(t.den:Int)^i)).getD k 0=(i6 F [t.num,(t.den:Int)]).getD k 0:=λk a=>by rw[AC,Kb (SC a),<-AC]
 have y:((i6 F [t.num,(t.den:Int)]).set 0 ((i6 F [t.num,(t.den:Int)]).getD 0 0+c*(t.den:Int)^i)).getD 0 0=(i6 F [t.num,(t.den:Int)]).getD 0 0+c*(t.den:Int)^i:=by rw[AC,Os e];rfl
 have l:2^(b+5*(i+1))=32*2^(b+5*i):=by rw[show b+5*(i+1)=b+5*i+5 by lia,XB 2 _ 5,X2]
 have j:∀k,((i6 F [t.num,(t.den:Int)]).getD k 0).natAbs<=24*2^(b+5*i):=λk=>by
  rw[AY d,F6];have q:(t.num*F.getD k 0).natAbs<=20*2^(b+5*i):=by rw[Fh];exact GT n (h.bd k)
  have p:(if 1<=k then(t.den:Int)*F.getD (k -1) 0 else 0).natAbs<=4*2^(b+5*i):=by
   split
   .rw[Fh,C0];exact GT f (h.bd _)
   .exact KB _
  have:=R1 (t.num*F.getD k 0) (if 1<=k then(t.den:Int)*F.getD (k -1) 0 else 0);lia
 refine⟨by rw[OK,m],?_,λk=>?_,λx=>?_⟩
 .rw[g _ (by lia),AY d,F6,outI (ns:=F) (by rw[h.len];lia),Bi (by lia),Fn,h.top,Oy,Oy];rfl
 .rw[l];by_cases a:k=0
  .subst a;rw[y];have q:=j 0;have p:(c*(t.den:Int)^i).natAbs<=2^(b+5*i):=by rw[Fh,XB];refine GT A ?_;rw[Sub.eT,C0,du];exact SL (Bz f (by decide)) i
   have:=R1 ((i6 F [t.num,(t.den:Int)]).getD 0 0) (c*(t.den:Int)^i);lia
  .rw[g k a];have:=j k;lia
 .have a:ns.length -1 -i<ns.length:=by lia
  have z:ns.drop (ns.length -(i+1))=c::ns.drop (ns.length -i):=by rw[show ns.length -(i+1)=ns.length -1 -i by lia,T2 a,show ns.length -1 -i+1=ns.length -i by lia,o,AC,B1 a];rfl
  rw[JV e,UJ d,z];have w:Num.ev x (qI [t.num,(t.den:Int)])=(t.num:Rat)+x*(t.den:Rat):=by show(t.num:Rat)+x*(((t.den:Int):Rat)+x*0)=_;have:(((t.den:Int):Rat))=(t.den:Rat):=rfl;rw[this];grind
  have v:Num.ev (x+t) (qI (c::ns.drop (ns.length -i)))=(c:Rat)+(x+t)*Num.ev (x+t) (qI (ns.drop (ns.length -i))):=rfl;have u:t*(t.den:Rat)=t.num:=iU t;have s:=h.ev x;have r:((c*(t.den:Int)^i:Int):Rat)=(c:Rat)*(t.den:Rat)^i:=by rw[FC,Z3];rfl
  rw[w,v,r,ik,<-u];generalize Num.ev (x+t) (qI (ns.drop (ns.length -i)))=E at*;generalize Num.ev x (qI F)=V at*;generalize(t.den:Rat)^i=P at*;generalize(t.den:Rat)=D at*;have:(V*(t*D+x*D)+c*P)*D=(V*D)*(t+x)*D+c*P*D:=by grind
  rw[this,s];grind
structure Mv(ns:List Int)(t:Rat)(ms:List Int):Prop where
 len:ms.length=ns.length
 ev:∀x:Rat,Num.ev x (qI ms)*(t.den:Rat)=(t.den:Rat)^ns.length*Num.ev (x+t) (qI ns)
theorem JW{F:List Int}{i:Nat}(l:F.length=i+1)(z:F.getD i 0=0)(x:Rat):Num.ev x (qI F.dropLast)=Num.ev x (qI F):=tY x λk=>by
 rw[dI,dI];by_cases a:k<i
 .rw[AC,List.getElem?_dropLast,Bi (by lia),<-AC]
 .rw[outI (by rw[mn];lia)];by_cases e:k=i
  .rw[e,z]
  .rw[outI (by lia)]
noncomputable def jo:bD:=λd Q _=>∃(a:List Int)(t:Rat)(b:Nat),d=[wI a,wq t]/\(0<a.length/\a.length<=50/\(∀x∈a,x.natAbs<=2^b)/\t.num.natAbs<=20/\t.den<=4/\b<=1000)/\∀c,Mv a t c->(∀x∈c,x.natAbs<=2^(b+5*a.length))->Q (wI c)
theorem Qi(ns:List Int):BX (ns.map W.int)=true:=by
 induction ns with
 |nil=>rfl
 |cons x l a=>exact a
theorem JX{G:Nat->W}{m:Md}(u:List W)(Q:W->Prop)(R:Addr->Prop)(h:jo u Q R):wSs (cg [sQ]) G uP (bU m Q R) (au 6 u):=by
 obtain⟨c,t,b,rfl,⟨Z,J,U,A,p,hb⟩,O⟩:=h;show wSs _ _ uP _ [some (wI c),some (wq t),none,none,none,none];unfold uP;have d0:=t.den_pos;refine aE (λa=>a=[some (wI c),some (wq t),some (wI [0]),none,none,none]) (λN f=>?_) ?_
 .fin2;exact⟨ao (by simp),f _ rfl⟩
 rintro _ rfl;refine aE (λa=>a=[some (wI c),some (wq t),some (wI [0]),some (.int 1),none,none]) (λN f=>?_) ?_
 .fin2;exact f _ rfl
 rintro _ rfl;refine aE (λa=>∃(F:List Int)(o3 j g:Option W),Mj c t b c.length F/\a=[some (wI c),some (wq t),some (wI F),o3,j,g]) (λN f=>?_) ?_
 .unfold wI wq at f⊢;fin2;refine⟨rfl,?_⟩;refine bu (λi H=>∃(F:List Int)(j g:Option W),Mj c t b i F/\H=[some (.lst (c.map W.int)),some (.tup [.int t.num,.int t.den]),some (.lst (F.map W.int)),some (.int ((t.den:Int)^i)),j,g]) ⟨[0],none,none,⟨rfl,rfl,λk=>?_,λx=>?_⟩,?_⟩ ?_ ?_
  .have:([0]:List Int).getD k 0=0:=by
    cases k<;>rfl
   rw[this];exact KB _
  .rw[Gu,ei];show((0:Int)+x*0:Rat)*_=_*0;grind
  .rw[TB]
  .rintro i w _ N1 L ⟨F,j,g,M,rfl⟩ P;obtain⟨C,e⟩:=Fu.mp L;rw[Pi,Ap]at C;have l:c.length -1 -i<c.length:=by lia
   obtain⟨y,v,rfl⟩:∃y,y=c[c.length -1 -i]/\w=.int y:=by refine⟨_,rfl,?_⟩;rw[<-e,wt,Rn];simp only[Ap]
   have n:y.natAbs<=2^b:=by rw[v];exact U _ (Sr l)
   have T:y=c.getD (c.length -1 -i) 0:=by rw[v,AC,B1 l];rfl
   have I:=M.step A p C T n;have S:0<F.length:=by rw[M.len];lia
   have K:(i6 F [t.num,(t.den:Int)]).length=i+2:=by rw[m6,M.len];rfl
   have X:∀x∈F,x.natAbs<2^(b+5*i+1):=λx d=>by obtain⟨k,l,rfl⟩:=NA d;have:=M.bd k;rw[AC,B1 l]at this;exact aJ this
   have E:∀x∈[t.num,(t.den:Int)],x.natAbs<2^5:=λx d=>by
    rcases GE.mp d with rfl|d
    .exact IR A (by decide)
    .rw[FK.mp d,C0];exact IR p (by decide)
   have D:((t.den:Int)^i).natAbs<2^(5*i+1):=by rw[Sub.eT,C0];refine aJ ?_;rw[du];exact SL (Bz p (by decide)) i
   unfold xw;refine aE (λa=>a=[some (.lst (c.map W.int)),some (.tup [.int t.num,.int t.den]),some (.lst (F.map W.int)),some (.int ((t.den:Int)^i)),some (.int y),some (wI (i6 F [t.num,(t.den:Int)]))]) (λY o=>?_) ?_
   .fin2;refine⟨_,rfl,_,rfl,ao (by simp),F,[t.num,(t.den:Int)],rfl,⟨S,by simp,by rw[M.len];lia,by simp,λx d z hz=>aG (X x d) (E z hz) (by lia)⟩,?_⟩;exact⟨Qi _,o _ rfl⟩
   rintro _ rfl;refine aE (λa=>a=[some (.lst (c.map W.int)),some (.tup [.int t.num,.int t.den]),some (.lst (F.map W.int)),some (.int ((t.den:Int)^i)),some (.int y),some (wI ((i6 F [t.num,(t.den:Int)]).set 0 ((i6 F [t.num,(t.den:Int)]).getD 0 0+y*(t.den:Int)^i)))]) (λY o=>?_) ?_
   .unfold wI at o⊢;fin2;refine⟨_,bH (k:=0) (int_at (by lia)),?_⟩;fin2;refine⟨aG (aJ n) D (by lia),0,iL (k:=0) (by rw[Ap,K];lia),o _ ?_⟩;rw[gd]
   rintro _ rfl;unfold wI;fin2;refine⟨by show 2<6;decide,_,rfl,aG D (E _ (by simp)) (by lia),P _ ⟨_,some (.int y),none,I,?_⟩⟩;rw[OF]
  .rintro _ ⟨F,j,g,M,rfl⟩;rw[Pi,Ap]at M⊢;exact f _ ⟨F,_,_,_,M,rfl⟩
 rintro _ ⟨F,o3,j,g,M,rfl⟩;have q:=O F.dropLast ⟨by rw[mn,M.len];rfl,λx=>by rw[JW M.len M.top];have:=M.ev x;rw[ar,pj]at this;exact this⟩ λx d=>by have d:=List.dropLast_subset _ d;obtain⟨k,l,rfl⟩:=NA d;have:=M.bd k;rw[AC,B1 l]at this;exact this
 refine aE (λa=>a=[some (wI c),some (wq t),some (wI F.dropLast),o3,j,g]) (λN f=>?_) ?_
 .have f:=f _ rfl;unfold wI at f⊢;fin2;refine kh (λs:List Int=>[some (.lst (c.map W.int)),some (wq t),some (.lst (s.map W.int)),o3,j,g]) (λs=>s=F\/s=F.dropLast) (λs=>s.length) F rfl (.inl rfl) ?_;rintro s B;fin2;rw[Ap,Ap];refine eH (λz=>?_) (λz=>?_)
  .have z:=D1 z;rcases B with rfl|rfl
   .obtain⟨r,x,rfl⟩:=lI (R:=s) (by lia);fin2;refine⟨_,pop_at,?_⟩;rw[uI];exact⟨r,rfl,.inr (by simp),by show r.length<(r++[x]).length;rw[FS];exact PH _⟩
   .rw[mn,M.len]at z;lia
  .have z:=fe z;rcases B with rfl|rfl
   .rw[M.len]at z;lia
   .exact f
 rintro _ rfl;fin2;exact q
theorem xx{f:W->Ev->(W->Ev->Prop)->Prop}{Q:List W->Ev->Prop}(J:Nat->List W->Ev->Prop)(k:∀j a b,J j a b->a.length=j):∀(d:List W)(i:Nat)(a:List W)(b:Ev),i+d.length<=1000->J i a b->
 (∀j w a b K,d[j]?=some w->J (i+j) a b->(∀y c,J (i+j+1) (a++[y]) c->K y c)->f w b K)->(∀a b,J (i+d.length) a b->Q a b)->nF f d a b Q
 |[],i,a,b,_,h,_,q=>q a b h
 |w::d,i,a,b,g,h,e,q=>by have g:i+(d.length+1)<=1000:=g;refine e 0 w a b _ rfl h λy c l=>⟨fX (by rw[k _ _ _ h];lia),?_⟩;refine xx J k d (i+1) (a++[y]) c (by lia) l (λj w a b K m o n=>e (j+1) w a b K m (by rw[show i+(j+1)=i+1+j by lia];exact o) λy c h=>n y c (by rw[show i+1+j+1=i+(j+1)+1 by lia];exact h)) λa b h=>q a b ?_;rw[show i+(w::d).length=i+1+d.length by rw[A6];lia];exact h
structure m7(ns:List Int)(b:Nat):Prop where
 n0:0<ns.length
 xq:ns.length<=21
 nz:ns.getD (ns.length -1) 0≠0
 bd:∀x∈ns,x.natAbs<=2^b
 LN:b<=40
 hb:(b+5*ns.length+10)*(2*ns.length -2)+1<=4800
noncomputable def dw:bD:=λf Q _=>∃(a b:Int),f=[wW a b]/\Wl a b/\∀c k e d,m7 c k->Wl e d->Q (.tup [wI c,wW e d])
noncomputable def g9:List CS:=[.j4 1 (.bin .Add (.int 1) (.j3 0 0 [(.int 7)])),.j4 2 (.ix (.lst [(.int 25),(.int 25),(.bin .Add (.bin .Mult (.int 2) (.bin .Pow (.int 10) (.int 6))) (.int 1))]) (.j3 0 0 [(.int 3)])),.QH (.cmp .Eq (.j3 0 0 [(.int 8)]) (.int 5)) [.j4 1 (.ix (.lst [(.bin .Add (.int 8) (.j3 0 0 [(.int 3)])),(.bin .Add (.int 15) (.j3 0 0 [(.int 7)]))]) (.j3 0 0 [(.int 2)])),.set 2 (.int 25)] [],.Tc 3 (.jA [(.var 1)]) (.bin .Sub (.j3 1 0 [(.var 3)]) (.bin .FloorDiv (.var 3) (.int 2))),.iff (.cmp .Eq (.ix (.var 3) (.neg (.int 1))) (.int 0)) [.put 3 (.neg (.int 1)) (.int 1)] [],.QH (.and [(.cmp .Eq (.j3 0 0 [(.int 3)]) (.int 1)),(.cmp .Lt (.var 1) (.int 6))]) [.Td 4 [(.bin .Sub (.j3 0 0 [(.int 13)]) (.int 6)),(.bin .Add (.int 1) (.j3 0 0 [(.int 4)])),(.j3 0 0 [(.int 3)])],.iff (.cmp .Eq (.ix (.var 4) (.int 2)) (.int 0)) [.drop 4] [],.set 3 (.Ic [4] (.call 1 [(.var 3),(.call 1 [(.var 4),(.var 4)])]))] [],.GB [3,4] [.Ah (.var 3)]]
noncomputable def F7(s q:Int):Prop:=(q=25/\1<=s/\s<=21)\/(q=2000001/\1<=s/\s<=7)
theorem Xq{x y z:W}:jt [x,y,z] 2=some z:=rfl
theorem UK{x y z:W}{i:Int}(b:0<=i)(a:i<3):∃w,jt [x,y,z] i=some w/\(w=x\/w=y\/w=z):=by
 have:i=0\/i=1\/i=2:=by lia
 rcases this with rfl|rfl|rfl
 .exact⟨x,rfl,.inl rfl⟩
 .exact⟨y,rfl,.inr (.inl rfl)⟩
 .exact⟨z,rfl,.inr (.inr rfl)⟩
theorem LO{x y:W}{i:Int}(b:0<=i)(a:i<2):∃w,jt [x,y] i=some w/\(w=x\/w=y):=by
 have:i=0\/i=1:=by lia
 rcases this with rfl|rfl
 .exact⟨x,rfl,.inl rfl⟩
 .exact⟨y,rfl,.inr rfl⟩
theorem UL{ns:List Int}{s q:Int}(d:F7 s q)(g:(ns.length:Int)=s)(c:∀x∈ns,x.natAbs<=(q.fdiv 2).natAbs)(a:ns.getD (ns.length -1) 0≠0):∃b,b<=20/\m7 ns b:=by
 rcases d with⟨rfl,f,e⟩|⟨rfl,f,e⟩
 .refine⟨4,by decide,by lia,by lia,a,λx h=>Bz (c x h) (by decide),by decide,?_⟩;have:(4+5*ns.length+10)*(2*ns.length -2)<=119*40:=GT (by lia) (by lia);lia
 .refine⟨20,by decide,by lia,by lia,a,λx h=>Bz (c x h) (by decide),by decide,?_⟩;have:(20+5*ns.length+10)*(2*ns.length -2)<=65*12:=GT (by lia) (by lia);lia
theorem AZ{F G:List Int}(a:0<F.length)(b:0<G.length):(i6 F G).getD ((i6 F G).length -1) 0=F.getD (F.length -1) 0*G.getD (G.length -1) 0:=by rw[m6,AY a,<-Hu F G a b];congr 1
theorem F8{F G:List Int}{n m k:Nat}(d:∀y∈F,y.natAbs<2^n)(c:∀y∈G,y.natAbs<2^m)(b:F.length<=2^k):∀x∈i6 F G,x.natAbs<=2^(n+m+k):=λx a=>by obtain⟨j,_,rfl⟩:=qp a;refine Bz (Lb d c j F.length) ?_;rw[XB 2 (n+m) k,X2];exact FV _ b
theorem Qj{ns ps:List Int}{b:Nat}(D:m7 ns b)(l:b<=20)(j:ns.length<=5)(p2:2<=ps.length)(h:ps.length<=3)(d:∀x∈ps,x.natAbs<2^3)(c:ps.getD (ps.length -1) 0≠0):m7 (i6 ns (i6 ps ps)) 33:=by
 have n0:=D.n0;have e:(i6 ps ps).length=ps.length+ps.length -1:=m6 ..;have i:(i6 ns (i6 ps ps)).length=ns.length+(ps.length+ps.length -1) -1:=by rw[m6,e]
 refine⟨by lia,by lia,?_,?_,by decide,?_⟩
 .rw[AZ n0 (by lia),AZ (by lia) (by lia)];exact PQ D.nz (PQ c c)
 .have g:=F8 (k:=2) d d (by lia);have:=F8 (n:=21) (m:=8+1) (k:=2+1) (F:=ns) (G:=i6 ps ps) (λy a=>IR (D.bd y a) (eC (by decide) (by lia))) (λy a=>IR (g y a) (by decide)) (by lia);exact λx f=>Bz (this x f) (Hk (by decide) (by decide))
 .have:(33+5*(i6 ns (i6 ps ps)).length+10)*(2*(i6 ns (i6 ps ps)).length -2)<=88*16:=GT (by lia) (by lia);lia
theorem Ct{G:Nat->W}{m:Md}(ws:List W)(Q:W->Prop)(R:Addr->Prop)(h:dw ws Q R):wSs (cg [jK,sQ]) G g9 (bU (.io m) Q R) (au 5 ws):=by
 obtain⟨a,b,rfl,g,hq⟩:=h;show wSs _ _ g9 _ [some (wW a b),none,none,none,none];unfold g9;refine aE (λd=>∃a b s:Int,(Wl a b/\1<=s/\s<=7)/\d=[some (wW a b),some (.int s),none,none,none]) (λN l=>?_) ?_
 .fin2;exact⟨a,b,7,rfl,g,by decide,by decide,λx r p I H o=>⟨_,_,rfl,l _ ⟨r,p,_,⟨o,by lia,by lia⟩,rfl⟩⟩⟩
 clear g a b;rintro _ ⟨a,b,s,⟨g,X,s1⟩,rfl⟩;refine aE (λd=>∃(a b q:Int),(Wl a b/\F7 s q)/\d=[some (wW a b),some (.int s),some (.int q),none,none]) (λN l=>?_) ?_
 .fin2;refine⟨jR (by decide) (by decide) (by decide),aG (n:=2) (m:=20) (by decide) (by decide) (by decide),ao (by simp),?_⟩;refine⟨a,b,3,rfl,g,by decide,by decide,λx r p I H o=>⟨_,_,rfl,?_⟩⟩;fin2;obtain⟨w,e,S⟩:=UK (x:=.int 25) (y:=.int 25) (z:=.int (2*10^6+1)) I H;refine⟨w,e,?_⟩;rcases S with rfl|rfl|rfl
  .exact l _ ⟨r,p,25,⟨o,.inl ⟨rfl,by lia,by lia⟩⟩,rfl⟩
  .exact l _ ⟨r,p,25,⟨o,.inl ⟨rfl,by lia,by lia⟩⟩,rfl⟩
  .exact l _ ⟨r,p,2000001,⟨o,.inr ⟨rfl,X,s1⟩⟩,rfl⟩
 clear g a b X s1;rintro _ ⟨a,b,q,⟨g,F⟩,rfl⟩;refine aE (λd=>∃(a b s q:Int),(Wl a b/\F7 s q)/\d=[some (wW a b),some (.int s),some (.int q),none,none]) (λN l=>?_) ?_
 .fin2;refine⟨a,b,8,rfl,g,by decide,by decide,λx r p I H o=>⟨_,_,rfl,?_⟩⟩;fin2;split
  .refine⟨r,p,3,rfl,o,by decide,by decide,λy a2 P y0 y1 Z=>⟨_,_,rfl,?_⟩⟩;fin2;refine⟨a2,P,7,rfl,Z,by decide,by decide,λz a3 T U z1 S=>⟨_,_,rfl,?_⟩⟩;fin2;refine⟨ao (by simp),a3,T,2,rfl,S,by decide,by decide,λv a4 b4 v0 v1 Y7=>⟨_,_,rfl,?_⟩⟩;fin2;obtain⟨w,e,hw5⟩:=LO (x:=.int (8+y)) (y:=.int (15+z)) v0 v1;refine⟨w,e,?_⟩;rcases hw5 with rfl|rfl
   .exact l _ ⟨a4,b4,_,25,⟨Y7,.inl ⟨rfl,by lia,by lia⟩⟩,rfl⟩
   .exact l _ ⟨a4,b4,_,25,⟨Y7,.inl ⟨rfl,by lia,by lia⟩⟩,rfl⟩
  .exact l _ ⟨r,p,s,q,⟨o,F⟩,rfl⟩
 clear g a b F s q;rintro _ ⟨a,b,s,q,⟨g,F⟩,rfl⟩;obtain⟨X,s21,q0,q1⟩:1<=s/\s<=21/\0<q/\q<2^30:=by
  rcases F with⟨rfl,h1,h2⟩|⟨rfl,h1,h2⟩
  .exact⟨h1,h2,by decide,by decide⟩
  .exact⟨h1,by lia,by decide,by decide⟩
 refine aE (λd=>∃(a b:Int)(c:List Int),(Wl a b/\(c.length:Int)=s/\∀x∈c,x.natAbs<=(q.fdiv 2).natAbs)/\d=[some (wW a b),some (.int s),some (.int q),some (wI c),none]) (λN l=>?_) ?_
 .fin2;refine⟨by lia,by lia,?_⟩;refine xx (λj C ε=>∃(a b:Int)(c:List Int),(Wl a b/\c.length=j/\∀x∈c,x.natAbs<=(q.fdiv 2).natAbs)/\C=c.map W.int/\ε=[some (wW a b),some (.int s),some (.int q),none,none]) ?_ _ 0 [] _ ?_ ⟨a,b,[],⟨g,rfl,by simp⟩,rfl,rfl⟩ ?_ ?_
  .rintro j C ε ⟨a,b,c,⟨_,B,_⟩,rfl,_⟩;rw[Ap,B]
  .rw[qX];lia
  .clear g a b;rintro j w C _ K hj ⟨a,b,c,⟨g,B,E⟩,rfl,rfl⟩ hK;fin2;refine⟨a,b,q,rfl,g,q0,q1,λx r p I H o=>⟨_,_,rfl,?_⟩⟩;fin2;refine⟨⟨by decide,by decide⟩,rfl,hK _ _ ⟨r,p,c++[x -q.fdiv 2],⟨o,by rw[FS,B];rfl,λy hy=>?_⟩,by rw[cx];rfl,rfl⟩⟩;rcases KE.mp hy with h|h
   .exact E y h
   .rw[FK.mp h];rcases F with⟨rfl,_⟩|⟨rfl,_⟩
    .rw[show dc 25 2=12 from rfl];lia
    .rw[show dc 2000001 2=1000000 from rfl];lia
  .rintro C _ ⟨a,b,c,⟨g,B,E⟩,rfl,rfl⟩;rw[qX,gL]at B;exact l _ ⟨a,b,c,⟨g,by lia,E⟩,rfl⟩
 clear g a b;rintro _ ⟨a,b,c,⟨g,B,E⟩,rfl⟩;obtain⟨t,y,rfl⟩:=lI (R:=c) (by lia);have Y:∀z:Int,(t++[z]).length=t.length+1:=λz=>FS;refine aE (λd=>∃(c:List Int)(k:Nat),((c.length:Int)=s/\k<=20/\m7 c k)/\d=[some (wW a b),some (.int s),some (.int q),some (wI c),none]) (λN l=>?_) ?_
 .have L:∀z:Int,z≠0->z.natAbs<=(q.fdiv 2).natAbs->N [some (wW a b),some (.int s),some (.int q),some (wI (t++[z])),none]:=λz U bz=>by
   have J:((t++[z]).length:Int)=s:=by rw[Y]at B⊢;exact B
   obtain⟨k,hk,D⟩:=UL F J (λx hx'=>by
    rcases KE.mp hx' with h|h
    .exact E x (Ta _ h)
    .rw[FK.mp h];exact bz) (by
    rw[Y,Fn,AC,Gc (D2 _),ar];exact U)
   exact l _ ⟨_,k,⟨J,hk,D⟩,rfl⟩
  have eL:jt ((t++[y]).map W.int) (-1)=some (.int y):=g7 (by rw[Ya,wd];rfl);by_cases z:y=0
  .have M:=L 1 (by decide) (by rcases F with⟨rfl,_⟩|⟨rfl,_⟩<;>decide);unfold wI at M⊢;fin2;refine⟨_,eL,?_⟩;fin2;rw[Bi (He z)];refine⟨t.length,?_,?_⟩
   .rw[Ap,Y];unfold vE;rw[BM (by decide),Bi (by show-((t.length+1:Nat):Int)<=-1;lia)];show some ((-1:Int)+((t.length+1:Nat):Int)).toNat=some t.length;congr 1;lia
   .have e:((t++[y]).map W.int).set t.length (.int 1)=(t++[1]).map W.int:=by rw[cx,cx,List.set_append_right _ _ (by simp)];simp
    rw[e];exact M
  .have M:=L y z (E y (Hn _ (FK.mpr rfl)));unfold wI at M⊢;fin2;refine⟨_,eL,?_⟩;fin2;rw[BM (by rw[Kx];exact z)];exact M
 clear B E;rintro _ ⟨c,k,⟨B,hk,D⟩,rfl⟩;refine aE (λd=>∃(a b:Int)(c:List Int)(k:Nat)(o4:Option W),(Wl a b/\m7 c k)/\d=[some (wW a b),some (.int s),some (.int q),some (wI c),o4]) (λN l=>?_) ?_
 .fin2;refine⟨a,b,3,rfl,g,by decide,by decide,λx r p I H o=>⟨_,_,rfl,?_⟩⟩;fin2;split;rotate_left
  .exact l _ ⟨r,p,c,k,none,⟨o,D⟩,rfl⟩
  split;rotate_left
  .exact l _ ⟨r,p,c,k,none,⟨o,D⟩,rfl⟩
  rename_i h6
  have h6:=D1 h6;refine⟨r,p,13,rfl,o,by decide,by decide,λx a1 b1 I H hw1=>⟨_,_,rfl,?_⟩⟩;fin2;refine⟨a1,b1,4,rfl,hw1,by decide,by decide,λy a2 P y0 y1 Z=>⟨_,_,rfl,?_⟩⟩;fin2;refine⟨a2,P,3,rfl,Z,by decide,by decide,λz a3 T U z1 S=>⟨_,_,rfl,ao (by simp),?_⟩⟩;fin2;have n0:=D.n0;have L:∀(i:List Int),2<=i.length->i.length<=3->(∀x∈i,x.natAbs<2^3)->i.getD (i.length -1) 0≠0->sQ [wI i,wI i] (λw=>sQ [wI c,w] (λw=>VL.flat .f w=true/\N [some (wW a3 T),some (.int s),some (.int q),some w,some (wI i)]) λ_=>False) λ_=>False:=λi p2 p3 O pz=>by have lp:(i6 i i).length=i.length+i.length -1:=m6 ..;have P:=F8 (k:=2) O O (by lia);refine⟨i,i,rfl,⟨by lia,by lia,by lia,by lia,λu hu v A=>aG (O u hu) (O v A) (by decide)⟩,?_⟩;refine⟨c,i6 i i,rfl,⟨n0,by lia,by lia,by lia,λu hu v A=>aG (n:=21) (m:=9) (IR (D.bd u hu) (eC (by decide) (by lia))) (IR (P v A) (by decide)) (by decide)⟩,?_⟩;exact⟨Qi _,l _ ⟨a3,T,_,33,some (wI i),⟨S,Qj D hk (by lia) p2 p3 O pz⟩,rfl⟩⟩
  refine⟨_,Xq,?_⟩;fin2;by_cases hz:z=0
  .rw[Bi (He hz)];refine⟨_,rfl,?_⟩;have:=L [x -6,1+y] (by simp) (by simp) (λv A=>by
    rcases GE.mp A with rfl|A
    .lia
    .rw[FK.mp A];lia) (by show 1+y≠0;lia)
   exact this
  .rw[BM (by rw[Kx];exact hz)];have:=L [x -6,1+y,z] (by simp) (by simp) (λv A=>by
    rcases GE.mp A with rfl|A
    .lia
    rcases GE.mp A with rfl|A
    .lia
    .rw[FK.mp A];lia) hz
   exact this
 rintro _ ⟨a,b,c,k,o4,⟨g,D⟩,rfl⟩;fin2;exact hq c k a b D g
theorem DQ.Vu{d f:Pq}(c:Rat)(h:DQ d f):DQ d λk=>c*f k:=by obtain⟨s,a,e⟩:=h;exact⟨λk=>c*s k,a.CD c,λk=>by show c*f k=_;rw[e k,bq]⟩
noncomputable def Mz(A a:List Int):Prop:=a.length=A.length/\∃b:Rat,b≠0/\∀k,cz a k=b*cz A k
theorem Mz.last{A a:List Int}(h:Mz A a)(c:A.getD (A.length -1) 0≠0):a.getD (a.length -1) 0≠0:=λz=>by
 obtain⟨l,b,d,e⟩:=h;have:=e (A.length -1);have this:((a.getD (A.length -1) 0:Int):Rat)=b*((A.getD (A.length -1) 0:Int):Rat):=this;rw[<-l,z]at this;have:=this.symm;rcases GM.mp this with h|h
 .exact d h
 .rw[l]at h;exact c (Dx.mp h)
structure Bj(ns:List Int)(w E:Nat)(one other:List Int):Prop where
 C:∃A B ld h,Sub.CS ns (bY ns) [] [] w E ((bY ns).length+1) A B [] [] ld h/\Mz A one/\Mz B other
 b1:∀x∈one,x.natAbs<=2^eN ns w
 b2:∀x∈other,x.natAbs<=2^eN ns w
 dv:∀d,DQ d (cz ns)->DQ d (cz (bY ns))->DQ d (cz one)/\DQ d (cz other)
 n1:one.getD (one.length -1) 0≠0
noncomputable def Y8(one a rest:List Int):Prop:=∃(M:Int)(q:Nat->Rat),M≠0/\Fin q/\∀k,(M:Rat)*cz one k=aA q (cz a) k+cz rest k
theorem jL(a:List Int):cQ (qI a)=cz a:=funext λk=>dI a k
theorem Bj.step{ns one a rest ms:List Int}{w E:Nat}{c:Int}(X:Sub.FX ns (bY ns) [] [] w E)(J:Bj ns w E one a)(l2:2<=a.length)(r0:rest≠[])(nz:rest.getD (rest.length -1) 0≠0)(lr:rest.length<a.length)(hr:Y8 one a rest)(L:Lp rest ms c):Bj ns w E a ms:=by
 obtain⟨A,B,ld,h,C,⟨lA,g,Xr,eA⟩,⟨T,s,Y9,N⟩⟩:=J.C;obtain⟨M,q,M0,fq,e⟩:=hr;have hq:2<=B.length:=by lia
 have lq:=C.lq;have ve:B.getD (B.length -1) 0≠0:=C.ch.ve;obtain⟨o,R,Le,cR,S,Q⟩:=JQ lq C.zV;generalize r:B.getD (B.length -1) 0^(A.length -B.length+1)=b at*;have UN:b≠0:=by rw[<-r];exact Sub.cV ve _
 have st:=C.step X hq r.symm Le cR S Q (F:=[]) (λk=>by
  have:cf o [] o.length k=0:=by rw[tH];rfl
  rw[this];show(0:Int)=b*0 -0;lia) (KB _) (λ_=>D2 _)
 obtain⟨Y,_,dR,_,_,_,D⟩:=st;have Za:(b:Rat)≠0:=λz=>UN (Dx.mp z);have qM:(M:Rat)≠0:=λz=>M0 (Dx.mp z);have Zb:(M:Rat)*g*(b:Rat)⁻¹≠0:=λz=>by
  rcases GM.mp z with z|z
  .exact(GM.mp z).elim qM Xr
  .have:=Ha _ Za;rw[z,X1]at this;exact absurd this (by decide+kernel)
 have eR:∀k,(b:Rat)*cz A k=aA (cz o) (cz B) k+cz R k:=λk=>by have:=cR k;rw[gc]at this;have y:cz R k=((b*A.getD k 0 -jb (co o) (co B) k:Int):Rat):=Pt (λz:Int=>(z:Rat)) this;rw[y,vi,FC,<-sj];show(b:Rat)*((A.getD k 0:Int):Rat)=aA (cz o) (cz B) k+((b:Rat)*((A.getD k 0:Int):Rat) -aA (cz o) (cz B) k);grind
 have zB:aj (qI B):=iX ve;have nB:qI B≠[]:=λz=>by have:=b8 B;rw[z]at this;have:0=B.length:=this;lia
 have i1:dH (dG ((M:Rat)*g) (qI A)) (qI B) (qI rest):=by refine⟨iX nz,by rw[b8,b8];lia,λk=>s*q k,fq.CD s,λk=>?_⟩;rw[cy,jL,jL,jL,bq];have:=e k;rw[eA,aZ (λ_=>rfl) N,dP]at this;rw[PP];exact this
 have G:aj (dG ((M:Rat)*g*(b:Rat)⁻¹) (qI R)):=by
  rcases Q with z|z
  .rw[z];intro x H;cases H
  .exact gg Zb (iX z)
 have i2:dH (dG ((M:Rat)*g) (qI A)) (qI B) (dG ((M:Rat)*g*(b:Rat)⁻¹) (qI R)):=by
  refine⟨G,by rw[eX,b8,b8];exact S,λk=>((M:Rat)*g*(b:Rat)⁻¹)*cz o k,(Sy o).CD _,λk=>?_⟩;rw[cy,cy,jL,jL,jL,bq];have:=eR k;have j:=Ha _ Za;generalize aA (cz o) (cz B) k=v at*;generalize(b:Rat)⁻¹=u at*;have O:(M:Rat)*g*cz A k=(M:Rat)*g*(u*(b*cz A k)):=by rw[<-PP u,j,QR]
  rw[O,this];grind
 have eq:=i1.uniq zB nB i2;have er:∀k,cz rest k=((M:Rat)*g*(b:Rat)⁻¹)*cz R k:=λk=>by have:=Pt (λl=>cQ l k) eq;have this:cQ (qI rest) k=cQ (dG ((M:Rat)*g*(b:Rat)⁻¹) (qI R)) k:=this;rw[cy,jL,jL]at this;exact this
 have hR:R≠[]:=λz=>r0 (by rw[z]at eq;have:qI rest=[]:=eq;exact oP.mp this);have D:=D hR;generalize Yc:ld*h^(A.length -B.length)=n at*;generalize Zc:(R.map λx=>x.fdiv n)=p at*;have K:∀k,cz R k=(n:Rat)*cz p k:=λk=>by
  rw[<-Zc];show((R.getD k 0:Int):Rat)=(n:Rat)*(((R.map λx=>x.fdiv n).getD k 0:Int):Rat);rw[Sub.map_getD (f:=λx=>x.fdiv n) (Lh n),<-FC];congr 1;by_cases I:k<R.length
  .obtain⟨u,hu⟩:=dR _ (Sub.getD_mem' I);rw[hu,aw _ Y]
  .rw[outI (by lia),Lh,Oy]
 have qk:(n:Rat)≠0:=λz=>Y (Dx.mp z);have qc:(c:Rat)≠0:=λz=>L.c0 (Dx.mp z);have t:=Ha _ qc;have em:∀k,cz ms k=((c:Rat)⁻¹*((M:Rat)*g*(b:Rat)⁻¹*n))*cz p k:=λk=>by
  have P:cz rest k=(c:Rat)*cz ms k:=by show((rest.getD k 0:Int):Rat)=_;rw[L.eq k,FC]
  have y:=er k;rw[P,K]at y;generalize(c:Rat)⁻¹=u at*;have:cz ms k=u*(c*cz ms k):=by rw[<-PP,t,QR]
  rw[this,y];grind
 have Zd:(c:Rat)⁻¹*((M:Rat)*g*(b:Rat)⁻¹*n)≠0:=λz=>by
  rcases GM.mp z with z|z
  .rw[z,X1]at t;exact absurd t (by decide+kernel)
  .exact(GM.mp z).elim Zb qk
 have QU:ms.length=p.length:=by rw[L.len,<-Zc,Ap,<-b8 rest,eq,eX,b8]
 generalize(c:Rat)⁻¹*((M:Rat)*g*(b:Rat)⁻¹*n)=m at*;refine⟨⟨B,p,_,_,D,⟨T,s,Y9,N⟩,⟨QU,m,Zd,em⟩⟩,J.b2,λx H=>?_,λd d1 d2=>?_,Mz.last ⟨T,s,Y9,N⟩ ve⟩
 .have le:=F4 (ms:=ms) (ns:=p) (U:=m.den) (V:=m.num) (by have:=m.den_pos;lia) (λz=>Zd (Yv.mp z)) (λi=>by
   have:=em i;have O:m*((m.den:Int):Rat)=m.num:=iU m;have e4:cz ms i*((m.den:Int):Rat)=cz p i*(m.num:Rat):=by rw[this,<-O];grind
   have e5:(((ms.getD i 0*(m.den:Int):Int)):Rat)=((p.getD i 0*m.num:Int):Rat):=by rw[FC,FC];exact e4
   exact km.mp e5) L.one
  obtain⟨k,I,rfl⟩:=NA H;have:=le k;rw[AC,B1 I]at this;exact Bz this (D.bd.2.1 _ (Sub.getD_mem' (by lia)))
 .obtain⟨h1,Z⟩:=J.dv d d1 d2;refine⟨Z,?_⟩;have h3:DQ d (cz rest):=((DQ.Vu (M:Rat) h1).sub (Z.mul q fq)).ext λk=>by have:=e k;grind
  refine(DQ.Vu (c:Rat)⁻¹ h3).ext λk=>?_;have P:cz rest k=(c:Rat)*cz ms k:=by show((rest.getD k 0:Int):Rat)=_;rw[L.eq k,FC]
  rw[P,<-PP,t,QR]
structure Rj(one other:List Int)(L:Nat)(r:List Int):Prop where
 len:r.length<=one.length
 nz:r=[]\/r.getD (r.length -1) 0≠0
 bd:∀k,(r.getD k 0).natAbs<=2^(L+(one.length -r.length)*(L+1))
 rm:Y8 one other r
theorem Rj.step{one a r s:List Int}{L:Nat}(h:Rj one a L r)(D:0<a.length)(lo:a.length<=r.length)(B:∀x∈a,x.natAbs<=2^L)(n:a.getD (a.length -1) 0≠0)(E:s.length<r.length)(m:s=[]\/s.getD (s.length -1) 0≠0)
 (e:∀k,s.getD k 0=if k<r.length -1 then r.getD k 0*a.getD (a.length -1) 0 -r.getD (r.length -1) 0*(if r.length -a.length<=k then a.getD (k -(r.length -a.length)) 0 else 0)else 0):Rj one a L s:=by
 have F:=h.len;have f:∀k,(a.getD k 0).natAbs<=2^L:=λk=>by
  by_cases b:k<a.length
  .exact B _ (Sub.getD_mem' b)
  .rw[outI (by lia)];exact KB _
 refine⟨by lia,m,λk=>?_,?_⟩
 .rw[e k];split
  .have t:(r.getD k 0*a.getD (a.length -1) 0).natAbs<=2^(L+(one.length -r.length)*(L+1))*2^L:=by rw[Fh];exact GT (h.bd k) (f _)
   have p:(r.getD (r.length -1) 0*(if r.length -a.length<=k then a.getD (k -(r.length -a.length)) 0 else 0)).natAbs<=2^(L+(one.length -r.length)*(L+1))*2^L:=by
    rw[Fh];refine GT (h.bd _) ?_;split
    .exact f _
    .exact KB _
   have o:=sk (r.getD k 0*a.getD (a.length -1) 0) (r.getD (r.length -1) 0*(if r.length -a.length<=k then a.getD (k -(r.length -a.length)) 0 else 0));have d:2^(L+(one.length -r.length+1)*(L+1))=2^(L+(one.length -r.length)*(L+1))*2^L+2^(L+(one.length -r.length)*(L+1))*2^L:=by rw[mf,Sd,show L+((one.length -r.length)*(L+1)+(L+1))=(L+(one.length -r.length)*(L+1))+L+1 by lia,Gv,XB,Nat.mul_two]
   refine Bz (Bz o (i5 t p)) (Bz (gN d.symm) (Hk (by decide) (iq (Pl _ (by lia)) _)))
  .exact KB _
 .obtain⟨M,q,C,u,y⟩:=h.rm;refine⟨M*a.getD (a.length -1) 0,λi=>(a.getD (a.length -1) 0:Int)*q i+(if i=r.length -a.length then((r.getD (r.length -1) 0:Int):Rat)else 0),PQ C n,(u.CD _).add ⟨r.length -a.length+1,λi G=>BM (by lia)⟩,λk=>?_⟩;rw[dg,bq,kO];have z:=y k;have w:cz s k=cz r k*((a.getD (a.length -1) 0:Int):Rat) -((r.getD (r.length -1) 0:Int):Rat)*(if r.length -a.length<=k then cz a (k -(r.length -a.length))else 0):=by
   show((s.getD k 0:Int):Rat)=_;rw[e k];by_cases b:k<r.length -1
   .rw[Bi b,vi,FC,FC];congr 2;split<;>rfl
   .rw[BM b];by_cases c:k=r.length -1
    .have d:k -(r.length -a.length)=a.length -1:=by lia
     rw[Bi (by lia),d,c];show((0:Int):Rat)=((r.getD (r.length -1) 0:Int):Rat)*((a.getD (a.length -1) 0:Int):Rat) -((r.getD (r.length -1) 0:Int):Rat)*((a.getD (a.length -1) 0:Int):Rat);have:((0:Int):Rat)=0:=rfl;rw[this];grind
    .have j:cz r k=0:=by show((r.getD k 0:Int):Rat)=0;rw[outI (by lia)];rfl
     have g:(if r.length -a.length<=k then cz a (k -(r.length -a.length))else 0)=0:=by rw[Bi (by lia)];show((a.getD (k -(r.length -a.length)) 0:Int):Rat)=0;rw[outI (by lia)];rfl
     rw[j,g];show(0:Rat)=0*_ -_*0;grind
  have A:(if r.length -a.length<=k then((r.getD (r.length -1) 0:Int):Rat)*cz a (k -(r.length -a.length))else 0)=((r.getD (r.length -1) 0:Int):Rat)*(if r.length -a.length<=k then cz a (k -(r.length -a.length))else 0):=by
   split
   .rfl
   .rw[Pv]
  rw[w,A,FC];generalize aA q (cz a) k=v at*;generalize((a.getD (a.length -1) 0:Int):Rat)=l at*;have:(M:Rat)*l*cz one k=l*(M*cz one k):=by grind
  rw[this,z];grind
theorem uQ{x y:List Int}{Q:W->Prop}(h:∀k:Bool,(k=true↔x=y)->Q (.bl (!k))):eZ .NotEq (wI x) (wI y) Q:=by
 have c:∀z:List Int,wk 9 (wI z)=true:=λz=>by show(z.map W.int).all (wk 8)=true;rw[Kj];intro w d;obtain⟨i,_,rfl⟩:=Nw.mp d;exact oA i 8
 exact⟨.inl ⟨c x,c y⟩,λk f=>h k (f.trans ⟨λe=>(LZ (λa b e=>W.Ae e)).mp (W.Ep e),λe=>by rw[e]⟩)⟩
noncomputable def uR:CS:=.Ag (.and [(.cmp .NotEq (.var 3) (.lst [])),(.cmp .Eq (.ix (.var 3) (.neg (.int 1))) (.int 0))]) [.drop 3]
theorem JY{n:Nat->bD}{G:Nat->W}{D:Dn}{g f e d c:Option W}{r:List Int}(h:∀s:List Int,s.length<=r.length->(∀k,s.getD k 0=r.getD k 0)->(s=[]\/s.getD (s.length -1) 0≠0)->D.nx [g,f,e,some (wI s),d,c]):wS n G uR D [g,f,e,some (wI r),d,c]:=by
 unfold uR;refine AU (λs:List Int=>[g,f,e,some (wI s),d,c]) (λs=>s.length<=r.length/\∀k,s.getD k 0=r.getD k 0) (λs=>s.length) r rfl ⟨D2 _,λ_=>rfl⟩ ?_;rintro s ⟨a,i⟩;fin2;refine⟨ao (by simp),uQ (y:=[]) λk b=>?_⟩;fin2;by_cases z:s=[]
 .cases iI b z;rw[BM (by decide)];exact eH (S:=λs:List Int=>[g,f,e,some (wI s),d,c]) (λz=>by cases z) (λ_=>h s a i (.inl z))
 cases fY b z;have o:=HI.mpr z;obtain⟨t,y,rfl⟩:=lI (R:=s) o;have p:jt ((t++[y]).map W.int) (-1)=some (.int y):=g7 (by rw[Ya,wd];rfl);have l:(t++[y]).getD ((t++[y]).length -1) 0=y:=by rw[FS,show t.length+[y].length -1=t.length from rfl,AC,Gc (D2 _),ar];rfl
 rw[ZX,Bi rfl];have m:=h _ a i;unfold wI at m⊢;fin2;refine⟨_,p,?_⟩;fin2;refine eH (λz=>?_) (λz=>?_)
 .have z:=D1 z;fin2;refine⟨_,pop_at,?_⟩;rw[uI];refine⟨t,rfl,⟨by rw[FS]at a;exact YY a,λk=>?_⟩,by show t.length<(t++[y]).length;rw[FS];exact PH _⟩;rw[<-i k];by_cases b:k<t.length
  .rw[AC,AC,KF b]
  .rw[outI (by lia)];by_cases j:k=t.length
   .rw[j];rw[FS,show t.length+[y].length -1=t.length from rfl]at l;rw[l,z]
   .rw[outI (by rw[FS];show t.length+1<=k;lia)]
 .exact m (.inr (by rw[l];exact fe z))
noncomputable def oF:List CS:=[.set 4 (.ix (.var 3) (.neg (.int 1))),.set 5 (.bin .Add (.bin .Mult (.lst [(.int 0)]) (.bin .Sub (.blt .len [(.var 3)]) (.blt .len [(.var 2)]))) (.var 2)),.set 3 (.comp [0] true 1 (.jA [(.blt .len [(.var 3)])]) (.bl true) (.bin .Sub (.bin .Mult (.ix (.var 4) (.var 0)) (.ix (.var 3) (.neg (.int 1)))) (.bin .Mult (.var 5) (.ix (.var 6) (.var 0))))),.drop 3,uR]
noncomputable def uS:List CS:=[.set 3 (.blt .list [(.var 1)]),.Ag (.cmp .GtE (.blt .len [(.var 3)]) (.blt .len [(.var 2)])) oF,.iff (.cmp .Eq (.var 3) (.lst [])) [.ret (.bl false)] [],.Er [1,2] (.tup [(.var 2),(.Ic [3] (.call 0 [(.var 3)]))])]
noncomputable def qA:List CS:=[.set 1 (.var 0),.set 2 (.comp [0] true 1 (.jA [(.int 1),(.blt .len [(.var 0)])]) (.bl true) (.bin .Mult (.ix (.var 1) (.var 0)) (.var 0))),.Ag (.and [(.cmp .NotEq (.var 2) (.lst [])),(.cmp .Gt (.blt .len [(.var 2)]) (.int 1))]) uS,.ret (.bl true)]
theorem JZ{B:Nat->bD}{G:Nat->W}{D:Dn}{j t m:Option W}{one a r:List Int}{L:Nat}(J:Rj one a L r)(R:L<=5000)(T:one.length<=30)(u:0<a.length)(lo:a.length<=r.length)(z:∀x∈a,x.natAbs<=2^L)(F:a.getD (a.length -1) 0≠0)(h:∀s t m,Rj one a L s->s.length<r.length->D.nx [j,some (wI one),some (wI a),some (wI s),t,m]):wSs B G oF D [j,some (wI one),some (wI a),some (wI r),t,m]:=by
 have E:0<r.length:=by lia
 have U:=J.len;obtain⟨X,v⟩:∃X,X=L+(one.length -r.length)*(L+1):=⟨_,rfl⟩;have Y:X<=5000+30*5001:=by rw[v];exact i5 R (GT (by lia) (by lia))
 have y:∀k,(r.getD k 0).natAbs<2^(X+1):=λk=>by rw[v];exact aJ (J.bd k)
 have A:∀k,(a.getD k 0).natAbs<2^(L+1):=λk=>by
  by_cases l:k<a.length
  .exact aJ (z _ (Sub.getD_mem' l))
  .rw[outI (by lia)];exact T1 (by decide)
 have O:=sO E;have P:=sO u;unfold oF;refine aE (λc=>c=[j,some (wI one),some (wI a),some (wI r),some (.int (r.getD (r.length -1) 0)),m]) (λN b=>?_) ?_
 .have b:=b _ rfl;unfold wI at b⊢;fin2;exact⟨_,O,b⟩
 rintro _ rfl;refine aE (λc=>c=[j,some (wI one),some (wI a),some (wI r),some (.int (r.getD (r.length -1) 0)),some (wI (A2 (r.length -a.length) 0++a))]) (λN b=>?_) ?_
 .have b:=b _ rfl;unfold wI at b⊢;fin2;rw[Ap,Ap,show((r.length:Int) -(a.length:Int))=((r.length -a.length:Nat):Int) by lia,CB];have e:(A2 (r.length -a.length) [W.int 0]).flatten=(A2 (r.length -a.length) (0:Int)).map W.int:=by rw[fW,ph]
  rw[e];refine⟨ao (by simp),by lia,by lia,ao (by simp;lia),?_⟩;refine⟨ao (by simp;lia),?_⟩;rw[cx]at b;exact b
 rintro _ rfl;have w:∀k,(A2 (r.length -a.length) (0:Int)++a).getD k 0=if r.length -a.length<=k then a.getD (k -(r.length -a.length)) 0 else 0:=λk=>by
  by_cases l:r.length -a.length<=k
  .rw[Bi l,AC,Gc (by rw[h9];exact l),h9,<-AC]
  .rw[BM l,AC,KF (by rw[h9];lia),eQ,Bi (by lia)];rfl
 have S:(A2 (r.length -a.length) (0:Int)++a).length=r.length:=by rw[FS,h9];lia
 have Q:∀k,((A2 (r.length -a.length) (0:Int)++a).getD k 0).natAbs<2^(L+1):=λk=>by
  rw[w];split
  .exact A _
  .exact T1 (by decide)
 generalize A2 (r.length -a.length) (0:Int)++a=d at*;refine aE (λc=>c=[j,some (wI one),some (wI a),some (wI (tabI r.length λk=>r.getD k 0*a.getD (a.length -1) 0 -r.getD (r.length -1) 0*d.getD k 0)),some (.int (r.getD (r.length -1) 0)),some (wI d)]) (λN b=>?_) ?_
 .have b:=b _ rfl;unfold wI at b⊢;fin2;rw[Ap];refine⟨by lia,by lia,?_⟩;rw[CB];unfold fj;refine cD (h:=λi:Nat=>W.int (0+(i:Int)*1)) (g:=λi:Nat=>W.int (r.getD i 0*a.getD (a.length -1) 0 -r.getD (r.length -1) 0*d.getD i 0)) _ [] _ (λi o K I=>?_) (ao (by simp;lia)) ?_
  .have o:=TK.mp o;rw[show(0+(i:Int)*1)=((i:Nat):Int) by lia];fin2;refine⟨_,bH (int_at o),_,P,aG (y i) (A _) (by lia),_,bH (int_at (by lia)),aG (y _) (Q i) (by lia),I⟩
  .unfold tabI at b;rw[Qr]at b;exact b
 rintro _ rfl;obtain⟨p,n⟩:∃p,r.length=p+1:=⟨r.length -1,by lia⟩;have q:((tabI r.length λk=>r.getD k 0*a.getD (a.length -1) 0 -r.getD (r.length -1) 0*d.getD k 0).map W.int).dropLast=(tabI p λk=>r.getD k 0*a.getD (a.length -1) 0 -r.getD (r.length -1) 0*d.getD k 0).map W.int:=by generalize(λk=>r.getD k 0*a.getD (a.length -1) 0 -r.getD (r.length -1) 0*d.getD k 0)=f;rw[n];unfold tabI;rw[List.range_succ,cx,cx,L9,oe,L9,oe,List.dropLast_concat]
 refine aE (λc=>c=[j,some (wI one),some (wI a),some (wI (tabI p λk=>r.getD k 0*a.getD (a.length -1) 0 -r.getD (r.length -1) 0*d.getD k 0)),some (.int (r.getD (r.length -1) 0)),some (wI d)]) (λN b=>?_) ?_
 .have b:=b _ rfl;unfold wI at b⊢;fin2;refine⟨_,B1 (by rw[Ap,aQ];lia),?_⟩;rw[q];exact b
 rintro _ rfl;refine JY λs H M C=>?_;rw[aQ]at H;refine h s _ _ (J.step u lo z F (by lia) C λk=>?_) (by lia);rw[M k,oE,n,Fn,w,n]
noncomputable def gp:bD:=λc Q _=>∃(a:List Int)(b:Nat),c=[wI a]/\m7 a b/\Q (.bl false)/\((2<=a.length->∀d,Num.Fin d->DQ d (cz a)->DQ d (cz (bY a))->Un d)->Q (.bl true))
theorem m7.k{ns:List Int}{b:Nat}(D:m7 ns b)(a:2<=ns.length):Qg ns b:=by refine⟨a,D.xq,D.nz,D.bd,?_⟩;have:=D.hb;have:(b+10)*(2*ns.length -2)<=(b+5*ns.length+10)*(2*ns.length -2):=Pl _ (by lia);lia
theorem Rj.start{one a:List Int}{L:Nat}(d:∀x∈one,x.natAbs<=2^L)(b:one=[]\/one.getD (one.length -1) 0≠0):Rj one a L one:=by
 refine⟨D2 _,b,λk=>?_,1,λ_=>0,by decide,⟨0,λ_ _=>rfl⟩,λk=>?_⟩
 .rw[ar,Qu,b5];by_cases c:k<one.length
  .exact d _ (Sub.getD_mem' c)
  .rw[outI (by lia)];exact KB _
 .rw[cK];show((1:Int):Rat)*_=0+_;have:((1:Int):Rat)=1:=rfl;rw[this];grind
theorem Bj.facts{ns one a:List Int}{w E:Nat}(J:Bj ns w E one a):0<a.length/\a.length<=one.length/\one.length<=ns.length/\a.getD (a.length -1) 0≠0/\one.getD (one.length -1) 0≠0:=by obtain⟨A,B,d,h,C,c,b⟩:=J.C;have f:=c.1;have e:=b.1;have:=C.lq;have:=C.zV;have:=C.lp;exact⟨by lia,by lia,by lia,b.last C.ch.ve,J.n1⟩
theorem F9{G:Nat->W}{m:Md}(U:List W)(Q:W->Prop)(R:Addr->Prop)(h:gp U Q R):wSs (cg [qz]) G qA (bU m Q R) (au 6 U):=by
 obtain⟨f,b,rfl,D,qf,qt⟩:=h;show wSs _ _ qA _ [some (wI f),none,none,none,none,none];unfold qA;have n0:=D.n0;have xq:=D.xq;have LN:=D.LN;have bn:∀k,(f.getD k 0).natAbs<2^(b+1):=λk=>by
  by_cases l:k<f.length
  .exact aJ (D.bd _ (Sub.getD_mem' l))
  .rw[outI (by lia)];exact T1 (by decide)
 refine aE (λj=>j=[some (wI f),some (wI f),none,none,none,none]) (λN n=>?_) ?_
 .fin2;exact n _ rfl
 rintro _ rfl;refine aE (λj=>j=[some (wI f),some (wI f),some (wI (bY f)),none,none,none]) (λN n=>?_) ?_
 .have n:=n _ rfl;unfold wI at n⊢;fin2;rw[Ap];refine⟨⟨by decide,by decide,by lia,by lia⟩,?_⟩;rw[show((f.length:Int) -1).toNat=f.length -1 by lia];unfold fj;refine cD (h:=λi:Nat=>W.int (1+(i:Int)*1)) (g:=λi:Nat=>W.int (((i+1:Nat):Int)*f.getD (i+1) 0)) _ [] _ (λi hi K hK=>?_) (ao (by simp;lia)) ?_
  .have hi:=TK.mp hi;rw[show(1+(i:Int)*1)=((i+1:Nat):Int) by lia];fin2;refine⟨_,bH (int_at (by lia)),aG (bn _) (m:=5) (by lia) (by lia),?_⟩;rw[bb];exact hK
  .unfold bY at n;rw[Qr]at n;exact n
 rintro _ rfl;have ls:=dX f;refine aE (λj=>(2<=f.length->∀d,Num.Fin d->DQ d (cz f)->DQ d (cz (bY f))->Un d)) (λN n=>?_) ?_;rotate_left
 .intro j hb;show wSs _ _ [.ret (.bl true)] _ j;fin2;exact qt hb
 by_cases l2:2<=f.length;rotate_left
 .have e:bY f=[]:=KM.mp (by lia);rw[e];refine AU (λ_:Unit=>[some (wI f),some (wI f),some (wI []),none,none,none]) (λ_=>True) (λ_=>0) () rfl trivial ?_;rintro _ _;fin2;refine⟨ao (by simp),uQ (y:=[]) λk l=>?_⟩;fin2;cases iI l rfl;rw[BM (by decide)];exact eH (S:=λ_:Unit=>[some (wI f),some (wI f),some (wI []),none,none,none]) (λz=>by cases z) (λ_=>n _ λz=>absurd z l2)
 obtain⟨w,E,P,_,hL⟩:=(F3 (D.k l2)).ex;have T:=P.sm;have J0:Bj f w E f (bY f):=⟨⟨f,bY f,1,1,T.C,⟨rfl,1,by decide,λk=>by rw[QR]⟩,⟨rfl,1,by decide,λk=>by rw[QR]⟩⟩,T.C.bd.1,T.C.bd.2.1,λd O M=>⟨O,M⟩,D.nz⟩;refine AU (λs:List Int×List Int×Option W×Option W×Option W=>[some (wI f),some (wI s.1),some (wI s.2.1),s.2.2.1,s.2.2.2.1,s.2.2.2.2]) (λs=>Bj f w E s.1 s.2.1) (λs=>s.2.1.length) (f,bY f,none,none,none) rfl J0 ?_;rintro⟨one,a,o3,v,u⟩ J;dsimp only at J⊢;obtain⟨H,loo,l1,Z,QE⟩:=J.facts;fin2;refine⟨ao (by simp),uQ (y:=[]) λk l=>?_⟩;fin2;cases fY l (λz=>by rw[z]at H;exact absurd H (by decide));rw[ZX,Bi rfl];have B:∀k:Bool,(k=true↔1<a.length)->QT (λs:List Int×List Int×Option W×Option W×Option W=>[some (wI f),some (wI s.1),some (wI s.2.1),s.2.2.1,s.2.2.2.1,s.2.2.2.2]) (λs=>Bj f w E s.1 s.2.1) (λs=>s.2.1.length) (wSs (cg [qz]) G uS) {bU m Q R with nx:=N} (one,a,o3,v,u) k:=λk A=>?_
 .have g:=B (decide ((a.length:Int)>1)) (by rw[Kx];lia);unfold wI at g⊢;fin2;rw[Ap];exact g
 refine eH (λz=>?_) (λz=>?_);rotate_left
 .refine n _ λ_ d fd O M=>?_;have o1:a.length=1:=by
   have:¬1<a.length:=λy=>by rw[A.mpr y]at z;cases z
   lia
  obtain⟨c,rfl⟩:=d5.mp o1;have hc:(c:Rat)≠0:=λy=>Z (Dx.mp y);have h3:=(J.dv d O M).2;rw[<-jL]at h3;exact DQ.trans h3 (Ea hc)
 have o2:2<=a.length:=A.mp z;unfold uS;refine aE (λj=>j=[some (wI f),some (wI one),some (wI a),some (wI one),v,u]) (λF o=>?_) ?_
 .have o:=o _ rfl;unfold wI at o⊢;fin2;exact o
 rintro _ rfl;refine aE (λj=>∃r v u,(Rj one a (eN f w) r/\r.length<a.length)/\j=[some (wI f),some (wI one),some (wI a),some (wI r),v,u]) (λF o=>?_) ?_
 .refine AU (λs:List Int×Option W×Option W=>[some (wI f),some (wI one),some (wI a),some (wI s.1),s.2.1,s.2.2]) (λs=>Rj one a (eN f w) s.1) (λs=>s.1.length) (one,v,u) rfl (Rj.start J.b1 (.inr QE)) ?_;rintro⟨r,t,q⟩ K;dsimp only at K⊢;have go:∀k:Bool,(k=true↔a.length<=r.length)->QT (λs:List Int×Option W×Option W=>[some (wI f),some (wI one),some (wI a),some (wI s.1),s.2.1,s.2.2]) (λs=>Rj one a (eN f w) s.1) (λs=>s.1.length) (wSs (cg [qz]) G oF) {nx:=F,rt:=(bU m Q R).rt,bk:=F,ct:=F,ex:=λ_=>False} (r,t,q) k:=λk l=>?_
  .have g:=go (decide ((r.length:Int)>=(a.length:Int))) (by rw[Kx];lia);unfold wI at g⊢;fin2;rw[Ap,Ap];exact g
  refine eH (λz=>?_) (λz=>?_)
  .exact JZ K (by lia) (by lia) H (l.mp z) J.b2 Z λs e4 e5 Ks ls=>⟨(s,e4,e5),rfl,Ks,ls⟩
  .refine o _ ⟨r,t,q,⟨K,tI λy=>?_⟩,rfl⟩;rw[l.mpr y]at z;cases z
 rintro _ ⟨r,t,q,⟨K,lr⟩,rfl⟩;by_cases p:r=[]
 .fin2;refine⟨ao (by simp),FG (y:=[]) λk l=>?_⟩;cases iI l p;fin2;exact qf
 have Y:=K.nz.resolve_left p;refine aE (λj=>j=[some (wI f),some (wI one),some (wI a),some (wI r),t,q]) (λF o=>?_) ?_
 .fin2;refine⟨ao (by simp),FG (y:=[]) λk l=>?_⟩;cases fY l p;fin2;exact o _ rfl
 rintro _ rfl;fin2;have I:=HI.mpr p;have lon:=K.len;obtain⟨X,hX⟩:∃X,X=eN f w+(one.length -r.length)*(eN f w+1):=⟨_,rfl⟩;have bX:X<=5000+30*5001:=by rw[hX];exact i5 (by lia) (GT (by lia) (by lia))
 refine⟨r,X+1,rfl,⟨I,by lia,Y,λx hx=>?_,by lia⟩,λms c L=>⟨Qi _,ao (by simp),rfl,(a,ms,some (wI r),t,q),rfl,J.step P.X o2 p Y lr K.rm L,by show ms.length<a.length;rw[L.len];exact lr⟩⟩;obtain⟨k,l,rfl⟩:=NA hx;have:=K.bd k;rw[AC,B1 l,<-hX]at this;exact aJ this
structure VV(ns:List Int)(V:Rat->Nat):Prop where
 one:ns.length=1->∀x,V x=0
 cn:∀lo hi v,2<=ns.length->Cn ns lo hi v->v=(V lo:Int) -V hi
 fall:∀lo hi,lo<hi->V hi<=V lo
 few:∀x,V x+1<=ns.length
 odd:(2<=ns.length->∀d,Num.Fin d->DQ d (cz ns)->DQ d (cz (bY ns))->Un d)->∀lo hi,Num.ev lo (qI ns)*Num.ev hi (qI ns)≠0->(Num.ev lo (qI ns)*Num.ev hi (qI ns)<0↔(V lo+V hi)%2=1)
 ex:2<=ns.length->∃c C,c≠0/\Cc (dG c (qI ns)) C/\V=eE C
theorem Ga{a b:Rat}(p:List Rat):dG a (dG b p)=dG (a*b) p:=by unfold dG;rw[Qr];refine Yf λx _=>?_;show a*(b*x)=a*b*x;grind
theorem Gb{c:Rat}(h:c≠0):c⁻¹≠0:=λz=>by have:=Ha c h;rw[z,X1]at this;exact absurd this (by decide+kernel)
theorem sgn_mul{c u v:Rat}(h:c≠0):((c*u)*(c*v)≠0↔u*v≠0)/\((c*u)*(c*v)<0↔u*v<0):=by
 have p:0<c*c:=by
  by_cases l:0<c
  .exact Jn l l
  .have:=Jn (a:= -c) (b:= -c) (by grind) (by grind);grind
 have e:(c*u)*(c*v)=c*c*(u*v):=by grind
 rw[e];refine⟨⟨λf d=>f (by rw[d,Pv]),λf d=>?_⟩,⟨λf=>?_,λf=>?_⟩⟩
 .rcases GM.mp d with d|d
  .rw[d]at p;exact absurd p (by decide)
  .exact f d
 .have:=(UE (b:= -(u*v)) p).mp (by grind);grind
 .have:=Jn p (b:= -(u*v)) (by grind);grind
theorem J3(ns:List Int):cQ (aX (qI ns))=cz (bY ns):=funext λk=>by rw[eU,dI];show _=(((bY ns).getD k 0:Int):Rat);rw[oh,FC];rfl
theorem LP{ns:List Int}(A:0<ns.length)(j:ns.getD (ns.length -1) 0≠0):(∃V,VV ns V)\/(2<=ns.length/\∀lo hi v,¬Cn ns lo hi v):=by
 by_cases l2:2<=ns.length;rotate_left
 .left;have l:ns.length=1:=by lia
  obtain⟨c,rfl⟩:=d5.mp l;refine⟨λ_=>0,λ_ _=>rfl,λ_ _ _ h=>absurd h l2,λ_ _ _=>D2 _,λ_=>D2 _,λ_ lo hi _=>?_,λh=>absurd h l2⟩;have e:∀x,Num.ev x (qI [c])=(c:Rat):=λx=>by show(c:Rat)+x*0=c;grind
  rw[e,e];constructor
  .intro h;have a:(c:Rat)≠0:=λz=>by rw[z,Pv]at h;exact absurd h (by decide)
   have:=(sgn_mul (u:=1) (v:=1) a).2;rw[fI,fI]at this;exact absurd (this.mp h) (by decide+kernel)
  .intro h;cases h
 have P:Rp (qI ns):=⟨iX j,by rw[b8];exact l2⟩;by_cases h:∃c C,c≠0/\Cc (dG c (qI ns)) C;rotate_left
 .refine .inr ⟨l2,?_⟩;rintro lo hi v ⟨c,C,a,b,_⟩;exact h ⟨c,C,a,b⟩
 obtain⟨c,C,a,b⟩:=h;have f:Rp (dG c (qI ns)):=⟨gg a P.z,by rw[eX];exact P.l2⟩;refine .inl ⟨eE C,λh=>by lia,λlo hi v _ n=>?_,λlo hi h=>b.fall f h,λx=>?_,λo lo hi r=>?_,λ_=>⟨c,C,a,b,rfl⟩⟩
 .obtain⟨g,B,y,i,e⟩:=n;have w:dG g (qI ns)=dG (g*c⁻¹) (cT 0 (dG c (qI ns))):=by rw[WH f.z,Ga,PP,Ha c a,fI]
  rw[w]at i;have m:=λx=>Cc.moved f (λz=>(GM.mp z).elim y (Gb a)) b i x;rw[e,m,m,ub,ub]
 .have:=b.few f x;rw[eX,b8]at this;exact this
 .have s:=sgn_mul (u:=Num.ev lo (qI ns)) (v:=Num.ev hi (qI ns)) a;have:=b.odd f (lo:=lo) (hi:=hi) (λd t q p=>?_) (by rw[kP,kP];exact s.1.mpr r)
  .rw[kP,kP,s.2]at this;exact this
  .refine o l2 d t ?_ ?_
   .refine(DQ.Vu c⁻¹ q).ext λk=>?_;rw[cy,jL,<-PP,Ha c a,QR]
   .refine(DQ.Vu c⁻¹ p).ext λk=>?_;rw[jY a P.z,cy,J3,<-PP,Ha c a,QR]
theorem Gd{ns ms:List Int}{t:Rat}(m:0<ns.length)(l:ns.getD (ns.length -1) 0≠0)(h:Mv ns t ms):∃κ:Rat,κ≠0/\qI ms=dG κ (cT t (qI ns))/\ms.getD (ms.length -1) 0≠0:=by
 have k:(t.den:Rat)≠0:=λz=>by have:((t.den:Int):Rat)=0:=z;have:=Dx.mp this;have:=t.den_pos;lia
 have pw:∀n:Nat,(t.den:Rat)^n≠0:=λn=>by
  induction n with
  |zero=>rw[tq];decide
  |succ n o=>rw[ik];exact λz=>(GM.mp z).elim o k
 have z:=iX l;have e:∀x,Num.ev x (qI ms)=Num.ev x (dG ((t.den:Rat)^(ns.length -1)) (cT t (qI ns))):=λx=>by
  rw[kP,dY];have j:=h.ev x;obtain⟨p,i⟩:∃p,ns.length=p+1:=⟨ns.length -1,by lia⟩;rw[i,ik]at j;rw[i,Fn];generalize(t.den:Rat)=D at*;have f:=Ha D k;generalize Num.ev (x+t) (qI ns)=V at*;generalize Num.ev x (qI ms)=U at*;generalize D^p=P at*;have:U=D⁻¹*(U*D):=by rw[u4 U D,<-PP,f,QR]
  rw[this,j,show D⁻¹*(P*D*V)=(D⁻¹*D)*(P*V) by grind,f,QR]
 have co:=z7 e;have a:aj (dG ((t.den:Rat)^(ns.length -1)) (cT t (qI ns))):=gg (pw _) (dh z);have d:(dG ((t.den:Rat)^(ns.length -1)) (cT t (qI ns))).length=ms.length:=by rw[eX,mE,b8,h.len]
 have b:ms.getD (ms.length -1) 0≠0:=λy=>by have c:=co (ms.length -1);rw[dI,y]at c;have g:=ja a (by rw[d,h.len];exact m);rw[d]at g;exact g c.symm
 exact⟨_,pw _,jU (iX b) a co,b⟩
theorem Ge{ns ms:List Int}{t:Rat}{V i:Rat->Nat}(m:0<ns.length)(b:ns.getD (ns.length -1) 0≠0)(h:Mv ns t ms)(f:VV ns V)(e:VV ms i)(x:Rat):i x=V (x+t):=by
 by_cases l2:2<=ns.length;rotate_left
 .have d:ns.length=1:=by lia
  rw[f.one d,e.one (by rw[h.len];exact d)]
 have P:Rp (qI ns):=⟨iX b,by rw[b8];exact l2⟩;obtain⟨l,s,n,u⟩:=Gd m b h;obtain⟨c,C,a,q,rfl⟩:=f.ex l2;obtain⟨g,v,r,j,rfl⟩:=e.ex (by rw[h.len];exact l2);have k:Rp (dG c (qI ns)):=⟨gg a P.z,by rw[eX];exact P.l2⟩;have o:dG g (qI ms)=dG (g*l*c⁻¹) (cT t (dG c (qI ns))):=by
  have p:cT t (dG c (qI ns))=dG c (cT t (qI ns)):=tZ (dh k.z) (gg a (dh P.z)) λx=>by rw[dY,kP,kP,dY]
  rw[p,Ga,n,Ga,PP _ c⁻¹,Ha c a,fI]
 rw[o]at j;exact Cc.moved k (λz=>(GM.mp z).elim (λz=>(GM.mp z).elim r s) (Gb a)) q j x
theorem Gf{ns:List Int}{b:Nat}{t d:Int}{lo hi:Rat}{V:Rat->Nat}{Q:W->Prop}{R:Addr->Prop}(n:0<ns.length)(h:2<=ns.length->Qg ns b)(c:VV ns V)(g:t≠0)(f:t.natAbs<=3)(j:0<d)(m:d.natAbs<2^100)(k:Bx lo)(l:Bx hi)(q:Q (.int ((V lo:Int) -V hi))):eS [aM (b6 ns t d),wq lo,wq hi] Q R:=by
 refine⟨ns,t,d,lo,hi,rfl,?_⟩;by_cases e:2<=ns.length
 .exact .inr ⟨⟨⟨b,h e⟩,g,f,j,m,k,l⟩,λv i=>by rw[c.cn lo hi v e i];exact q⟩
 .have a:ns.length=1:=by lia
  refine .inl ⟨a,?_⟩;rw[c.one a,c.one a]at q;exact q
theorem Gg{ns:List Int}{b:Nat}{t d:Int}{lo hi:Rat}{Q:W->Prop}{R:Addr->Prop}(f:2<=ns.length->Qg ns b)(a:2<=ns.length/\∀lo hi v,¬Cn ns lo hi v)(e:t≠0)(c:t.natAbs<=3)(h:0<d)(k:d.natAbs<2^100)(i:Bx lo)(j:Bx hi):eS [aM (b6 ns t d),wq lo,wq hi] Q R:=
 ⟨ns,t,d,lo,hi,rfl,.inr ⟨⟨⟨b,f a.1⟩,e,c,h,k,i,j⟩,λv g=>absurd g (a.2 lo hi v)⟩⟩
noncomputable def qC:List CS:=[.app 3 (.call 3 [(.var 4),(.var 5)]),.j4 4 (.bin .Add (.bin .Add (.var 4) (.int 1)) (.j3 0 2 [(.ix (.lst [(.int 40),(.int 3)]) (.j3 0 2 [(.int 2)]))]))]
noncomputable def qD:List CS:=[.set 12 (.bin .Mult (.call 7 [(.var 1),(.ix (.var 3) (.var 6))]) (.call 7 [(.var 1),(.ix (.var 3) (.bin .Add (.var 6) (.int 1)))])),.iff (.and [(.cmp .NotEq (.var 12) (.int 0)),(.cmp .NotEq (.cmp .Lt (.var 12) (.int 0)) (.cmp .Eq (.bin .Mod (.ix (.var 7) (.var 6)) (.int 2)) (.int 1)))]) [.Ah (.bl false)] []]
noncomputable def jq:List CS:=[.set 7 (.comp [0] true 1 (.jA [(.int 4)]) (.bl true) (.call 4 [(.var 3),(.ix (.var 4) (.var 0)),(.ix (.var 4) (.bin .Add (.var 0) (.int 1)))])),.set 8 (.call 4 [(.var 2),(.ix (.var 3) (.int 0)),(.ix (.var 3) (.int 4))]),.iff (.or [(.cmp .Lt (.blt .min2 [(.var 7)]) (.int 0)),(.cmp .NotEq (.blt .sum [(.var 7)]) (.var 8)),(.cmp .GtE (.var 8) (.blt .len [(.var 2)]))]) [.Ah (.bl false)] [],.j4 9 (.call 3 [(.bin .Sub (.j3 0 2 [(.int 41)]) (.int 20)),(.bin .Add (.int 1) (.j3 0 2 [(.int 4)]))]),.set 10 (.call 1 [(.call 5 [(.var 1),(.var 9)]),(.bin .Sub (.int 0) (.int 3)),(.int 7)]),.set 11 (.comp [0] true 1 (.var 3) (.bl true) (.call 3 [(.bin .Sub (.bin .Mult (.ix (.var 0) (.int 0)) (.ix (.var 10) (.int 1))) (.bin .Mult (.ix (.var 10) (.int 0)) (.ix (.var 0) (.int 1)))),(.bin .Mult (.ix (.var 0) (.int 1)) (.ix (.var 10) (.int 1)))])),.iff (.cmp .NotEq (.comp [0] true 1 (.jA [(.int 4)]) (.bl true) (.call 4 [(.var 11),(.ix (.var 12) (.var 0)),(.ix (.var 12) (.bin .Add (.var 0) (.int 1)))])) (.var 7)) [.Ah (.bl false)] [],.iff (.not (.call 6 [(.var 1)])) [.Ah (.bl true)] [],.fr [6] true (.jA [(.int 4)]) qD,.Ah (.bl true)]
noncomputable def ia:List CS:=[.j4 1 (.j3 0 0 []),.j4 2 (.call 1 [(.var 1),(.int 1),(.ix (.lst [(.bin .Add (.int 1) (.j3 0 2 [(.int 5)])),(.bin .Pow (.int 10) (.int 30))]) (.blt .int [(.cmp .Eq (.j3 0 2 [(.int 8)]) (.int 3))]))]),.set 3 (.lst []),.j4 4 (.bin .Sub (.int 0) (.j3 0 2 [(.int 120)])),.j4 5 (.bin .Add (.int 1) (.j3 0 2 [(.int 7)])),.fr [6] true (.jA [(.int 5)]) qC,.GB [3] jq]
noncomputable def lO:bD:=λe Q _=>∃(a b:Int),e=[wW a b]/\Wl a b/\∀d c,Wl d c->Q (.tup [.bl true,wW d c])
structure Ed(x:Rat):Prop where
 n:x.num.natAbs<=1000
 d:x.den<=7
theorem uT(t:Int){b:Int}(a:0<b):A3 t b*(b:Rat)=t:=by
 have:(b:Rat)≠0:=λz=>by have:=Dx.mp z;lia
 rw[hU];grind
theorem uU{t b:Int}(c:0<b):((A3 t b).den:Int)<=b/\(A3 t b).num.natAbs<=t.natAbs:=by
 have h:Cd b (t.natAbs+1) (A3 t b):=⟨t,uT t c,Nat.lt_trans (PH _) Nat.lt_two_pow_self⟩;obtain⟨a,_⟩:=h.dvd;have e:=gI a;rw[uT t c]at e;have e:=km.mp e;have g:=(A3 t b).den_pos;refine⟨ke c a,?_⟩;obtain⟨u,d⟩:=a;have q:b/((A3 t b).den:Int)=u:=by have:b/((A3 t b).den:Int)=((A3 t b).den:Int)*u/((A3 t b).den:Int):=Pt (·/((A3 t b).den:Int)) d;rw[this,eJ _ (by lia)]
 have f:u≠0:=λz=>by rw[z,Oy]at d;lia
 rw[q]at e;have:=Pt V0 e;rw[Fh]at this;rw[<-this];exact Xt _ (by lia)
theorem UQ{t b:Int}(d:0<b)(f:b<=7)(a:t.natAbs<=1000):Ed (A3 t b):=by obtain⟨e,c⟩:=uU (t:=t) d;exact⟨Bz c a,by lia⟩
theorem UR{x y b:Int}(a:0<b)(h:x<y):A3 x b<A3 y b:=by
 have c:(0:Rat)<(b:Rat):=kf.mpr a;have h:(x:Rat)<(y:Rat):=Rat.intCast_lt_intCast.mpr h;have e:=uT x a;have d:=uT y a;rw[Rat.lt_iff_sub_pos];refine(nr (b:=(b:Rat)) c).mp ?_;have:(A3 y b -A3 x b)*(b:Rat)=y -x:=by rw[<-e,<-d];grind
 rw[this];grind
theorem yN{G:Nat->W}{D:Dn}{a b:Int}(f:Wl a b)(h:∀a b ns k d r p P O U I o5 o,Wl a b->m7 ns k->0<d/\d.natAbs<2^100->(Ed r/\Ed p/\Ed P/\Ed O/\Ed U)->(r<p/\p<P/\P<O/\O<U)->wSs (cg [dw,iV,jK,uL,eS,jo,gp,d8]) G [.GB [3] jq] D [some (wW a b),some (wI ns),some (aM (b6 ns 1 d)),some (aM [r,p,P,O,U]),I,o5,o,none,none,none,none,none,none]):wSs (cg [dw,iV,jK,uL,eS,jo,gp,d8]) G ia D [some (wW a b),none,none,none,none,none,none,none,none,none,none,none,none]:=by
 unfold ia;refine aE (λc=>∃a b ns k,(Wl a b/\m7 ns k)/\c=[some (wW a b),some (wI ns),none,none,none,none,none,none,none,none,none,none,none]) (λN n=>?_) ?_
 .fin2;exact⟨a,b,rfl,f,λns k a' b' D ur=>⟨_,_,rfl,n _ ⟨a',b',ns,k,⟨ur,D⟩,rfl⟩⟩⟩
 clear f a b;rintro _ ⟨a,b,ns,k,⟨f,Dn⟩,rfl⟩;have xq:=Dn.xq;have LN:=Dn.LN;have GH:∀y∈ns,y.natAbs<2^(k+1):=λy A=>aJ (Dn.bd y A);refine aE (λc=>∃a b d,(Wl a b/\0<d/\d.natAbs<2^100)/\c=[some (wW a b),some (wI ns),some (aM (b6 ns 1 d)),none,none,none,none,none,none,none,none,none,none]) (λN n=>?_) ?_
 .have go:∀(a b d:Int),Wl a b->0<d->d.natAbs<2^100->iV [wI ns,.int 1,.int d] (λw=>N [some (wW a b),some (wI ns),some w,none,none,none,none,none,none,none,none,none,none]) D.ex:=λa b d f Z S=>⟨ns,1,d,k+1,100,rfl,⟨by lia,GH,by decide,S,by lia,by lia,by decide⟩,n _ ⟨a,b,d,⟨f,Z,S⟩,rfl⟩⟩;fin2;refine⟨a,b,5,rfl,f,by decide,by decide,λx m s r p j=>⟨_,_,rfl,?_⟩⟩;fin2;refine⟨jR (by decide) (by decide) (by decide),ao (by simp),?_⟩;refine⟨m,s,8,rfl,j,by decide,by decide,λy a2 F M T v=>⟨_,_,rfl,?_⟩⟩;fin2;by_cases A:y=3
  .rw[He A];exact⟨_,FT,go a2 F _ v (by decide) (by decide)⟩
  .rw[Ki A];exact⟨_,Uy,go a2 F _ v (by lia) (FM (show(1+x).natAbs<2^4 by lia) (by decide))⟩
 clear f a b;rintro _ ⟨a,b,d,⟨f,Z,S⟩,rfl⟩;refine aE (λc=>c=[some (wW a b),some (wI ns),some (aM (b6 ns 1 d)),some (aM []),none,none,none,none,none,none,none,none,none]) (λN n=>?_) ?_
 .fin2;exact⟨ao (by simp),n _ rfl⟩
 rintro _ rfl;refine aE (λc=>∃a b t,(Wl a b/\-120<=t/\t<=0)/\c=[some (wW a b),some (wI ns),some (aM (b6 ns 1 d)),some (aM []),some (.int t),none,none,none,none,none,none,none,none]) (λN n=>?_) ?_
 .fin2;exact⟨a,b,120,rfl,f,by decide,by decide,λx m s r p j=>⟨_,_,rfl,n _ ⟨m,s,_,⟨j,by lia,by lia⟩,rfl⟩⟩⟩
 clear f a b;rintro _ ⟨a,b,t,⟨f,t0,t1⟩,rfl⟩;refine aE (λc=>∃a b B,(Wl a b/\0<B/\B<=7)/\c=[some (wW a b),some (wI ns),some (aM (b6 ns 1 d)),some (aM []),some (.int t),some (.int B),none,none,none,none,none,none,none]) (λN n=>?_) ?_
 .fin2;exact⟨a,b,7,rfl,f,by decide,by decide,λx m s r p j=>⟨_,_,rfl,n _ ⟨m,s,_,⟨j,by lia,by lia⟩,rfl⟩⟩⟩
 clear f a b;rintro _ ⟨a,b,B,⟨f,B0,B7⟩,rfl⟩;refine aE (λc=>∃(a b:Int)(g:List Int)(I o:Option W),(Wl a b/\g.length=5/\(∀x∈g,x.natAbs<=1000)/\g.Pairwise (·<·))/\c=[some (wW a b),some (wI ns),some (aM (b6 ns 1 d)),some (aM (g.map (A3 · B))),I,some (.int B),o,none,none,none,none,none,none]) (λN n=>?_) ?_
 .refine FP (l:=fj 0 1 5) (λQ hq=>?_) ?_
  .fin2;exact⟨by decide,by decide,hq⟩
  refine bu (λi ε=>∃(a b u:Int)(g:List Int)(o:Option W),(Wl a b/\g.length=i/\(∀x∈g,-120<=x/\x<u)/\g.Pairwise (·<·)/\-120<=u/\u<=41*(i:Int))/\ε=[some (wW a b),some (wI ns),some (aM (b6 ns 1 d)),some (aM (g.map (A3 · B))),some (.int u),some (.int B),o,none,none,none,none,none,none]) ⟨a,b,t,[],none,⟨f,rfl,by simp,UP,t0,by lia⟩,rfl⟩ ?_ ?_
  .clear f a b;rintro i w _ N1 hi ⟨a,b,u,g,o,⟨f,E,C,q,u0,u1⟩,rfl⟩ fz;obtain⟨hi,rfl⟩:=kj hi;show wSs _ _ qC _ [some (wW a b),some (wI ns),some (aM (b6 ns 1 d)),some (aM (g.map (A3 · B))),some (.int u),some (.int B),some (.int i),none,none,none,none,none,none];unfold qC;refine aE (λc=>c=[some (wW a b),some (wI ns),some (aM (b6 ns 1 d)),some (aM ((g++[u]).map (A3 · B))),some (.int u),some (.int B),some (.int i),none,none,none,none,none,none]) (λN2 H=>?_) ?_
   .have H:=H _ rfl;unfold aM at H⊢;fin2;refine⟨u,B,4,rfl,by decide,by lia,by lia,fX (by rw[Ap,Ap];lia),?_⟩;rw[cx,cx]at H;exact H
   rintro _ rfl;have st:∀(a b z:Int),Wl a b->0<=z->z<40->N1 [some (wW a b),some (wI ns),some (aM (b6 ns 1 d)),some (aM ((g++[u]).map (A3 · B))),some (.int (u+1+z)),some (.int B),some (.int i),none,none,none,none,none,none]:=λa b z f z0 z1=>by
    refine fz _ ⟨a,b,u+1+z,g++[u],_,⟨f,by rw[FS,E];rfl,λx h=>?_,?_,by lia,by lia⟩,rfl⟩
    .rcases KE.mp h with h|h
     .have:=C x h;lia
     .rw[FK.mp h];lia
    .refine List.pairwise_append.mpr ⟨q,List.pairwise_singleton _ _,λx Y y A=>?_⟩;rw[FK.mp A];exact(C x Y).2
   fin2;refine⟨ao (by simp),a,b,2,rfl,f,by decide,by decide,λx m s r p j=>⟨_,_,rfl,?_⟩⟩;fin2;obtain⟨w,e,h2⟩:=LO (x:=.int 40) (y:=.int 3) r p;refine⟨w,e,?_⟩;rcases h2 with rfl|rfl
   .exact⟨m,s,40,rfl,j,by decide,by decide,λy a2 F M T v=>⟨_,_,rfl,st a2 F y v M T⟩⟩
   .exact⟨m,s,3,rfl,j,by decide,by decide,λy a2 F M T v=>⟨_,_,rfl,st a2 F y v M (by lia)⟩⟩
  .rintro _ ⟨a,b,u,g,o,⟨f,E,C,q,u0,u1⟩,rfl⟩;rw[qX]at E u1;refine n _ ⟨a,b,g,_,o,⟨f,E,λx h=>?_,q⟩,rfl⟩;have:=C x h;lia
 clear f a b;rintro _ ⟨a,b,g,I,o,⟨f,E,C,q⟩,rfl⟩;obtain⟨L,m,a2,a3,K,rfl⟩:∃L m a2 a3 K,g=[L,m,a2,a3,K]:=by
  match g,E with
  |[L,m,a2,a3,K],_=>exact⟨_,_,_,_,_,rfl⟩
 have R:∀{x y:Int},x<y->A3 x B<A3 y B:=λ{x y} X=>UR B0 X;have J:∀x,x∈[L,m,a2,a3,K]->Ed (A3 x B):=λx h=>UQ B0 B7 (C x h);simp only[List.pairwise_cons,GE,UF,lx,forall_eq_or_imp,forall_eq]at q;exact h a b ns k d _ _ _ _ _ I _ o f Dn ⟨Z,S⟩ ⟨J L (by simp),J m (by simp),J a2 (by simp),J a3 (by simp),J K (by simp)⟩ ⟨R q.1.1,R q.2.1.1,R q.2.2.1.1,R q.2.2.2.1⟩
theorem Ed.bx{x:Rat}(h:Ed x):Bx x:=⟨IR h.n (FM (by decide:(1000:Nat)<2^10) (Hk (by decide) (by decide))),IR h.d (FM (by decide:(7:Nat)<2^10) (Hk (by decide) (by decide)))⟩
theorem A4(a b:Rat):A3 (a.num*b.den -b.num*a.den) (a.den*b.den)=a -b:=by
 have f:(a.den:Rat)≠0:=λz=>by have:((a.den:Int):Rat)=0:=z;have:=Dx.mp this;have:=a.den_pos;lia
 have e:(b.den:Rat)≠0:=λz=>by have:((b.den:Int):Rat)=0:=z;have:=Dx.mp this;have:=b.den_pos;lia
 have d:a*(a.den:Rat)=a.num:=iU a;have c:b*(b.den:Rat)=b.num:=iU b;rw[hU,vi,FC,FC,FC,<-d,<-c];show(a*(a.den:Rat)*(b.den:Rat) -b*(b.den:Rat)*(a.den:Rat))/((a.den:Rat)*(b.den:Rat))=a -b;generalize(a.den:Rat)=x at*;generalize(b.den:Rat)=y at*;grind
structure Tm(t:Rat):Prop where
 n:t.num.natAbs<=20
 d:t.den<=4
theorem xy{x t:Rat}(h:Ed x)(k:Tm t):Bx (x -t):=by
 have q:=x.den_pos;have p:=t.den_pos;have g:=h.n;have c:=h.d;have f:=k.n;have b:=k.d;rw[<-A4];have e:0<(x.den:Int)*(t.den:Int):=wx (by lia) (by lia);obtain⟨j,i⟩:=uU (t:=x.num*t.den -t.num*x.den) e;have a:x.den*t.den<=7*4:=GT c b;have a:(x.den:Int)*(t.den:Int)<=28:=by exact_mod_cast a
 have o:(x.num*(t.den:Int)).natAbs<=1000*4:=by rw[Fh,C0];exact GT g b
 have m:(t.num*(x.den:Int)).natAbs<=20*7:=by rw[Fh,C0];exact GT f c
 have l:=sk (x.num*(t.den:Int)) (t.num*(x.den:Int));refine⟨IR (show _<=8191 by lia) (FM (by decide:(8191:Nat)<2^13) (Hk (by decide) (by decide))),IR (show _<=28 by lia) (FM (by decide:(28:Nat)<2^13) (Hk (by decide) (by decide)))⟩
theorem lP{G:Nat->W}{D:Dn}{ns:List Int}{k:Nat}{V:Rat->Nat}{lo hi:Rat}{i:Int}{b ps:List W}{v u o n s r A w a:Option W}(Dn:m7 ns k)(Q:VV ns V)(c:2<=ns.length->∀d,Num.Fin d->DQ d (cz ns)->DQ d (cz (bY ns))->Un d)(F:Ed lo)(H:Ed hi)(U:jt b i=some (wq lo))(T:jt b (i+1)=some (wq hi))(S:jt ps i=some (.int ((V lo:Int) -V hi)))
 (h:∀a,D.nx [v,some (wI ns),u,some (.lst b),o,n,some (.int i),some (.lst ps),s,r,A,w,a]):wSs (cg [dw,iV,jK,uL,eS,jo,gp,d8]) G qD D [v,some (wI ns),u,some (.lst b),o,n,some (.int i),some (.lst ps),s,r,A,w,a]:=by
 have xq:=Dn.xq;have LN:=Dn.LN;have B:∀y∈ns,y.natAbs<2^(k+1):=λy P=>aJ (Dn.bd y P);have I:∀{x:Rat},Ed x->(wv x.num x.den ns).natAbs<2^5000:=λ{x} ex=>by have:=AW (t:=x.num) (p:=x.den) (m:=200) ex.bx.1 (by simpa using ex.bx.2) B;refine FM this (Hk (by decide) ?_);have:ns.length*(200+1)<=21*201:=GT xq (by decide);lia
 unfold qD;refine aE (λe=>e=[v,some (wI ns),u,some (.lst b),o,n,some (.int i),some (.lst ps),s,r,A,w,some (.int (wv lo.num lo.den ns*wv hi.num hi.den ns))]) (λN R=>?_) ?_
 .fin2;exact⟨_,U,ns,lo,k+1,rfl,⟨by lia,B,F.bx,by lia⟩,_,T,ns,hi,k+1,rfl,⟨by lia,B,H.bx,by lia⟩,aG (I F) (I H) (by decide),R _ rfl⟩
 rintro _ rfl;have L:Gz (wv lo.num lo.den ns) (Num.ev lo (qI ns)):=by rw[xr];exact Eo (by have:=lo.den_pos;lia) (iU lo) ⟨1,by decide,b8 ns,λj=>by rw[dI,QR]⟩
 have K:Gz (wv hi.num hi.den ns) (Num.ev hi (qI ns)):=by rw[xr];exact Eo (by have:=hi.den_pos;lia) (iU hi) ⟨1,by decide,b8 ns,λj=>by rw[dI,QR]⟩
 have g:Gz (wv lo.num lo.den ns*wv hi.num hi.den ns) (Num.ev lo (qI ns)*Num.ev hi (qI ns)):=by obtain⟨Y,O,e1⟩:=L;obtain⟨X,M,e2⟩:=K;refine⟨Y*X,Jn O M,?_⟩;rw[e1,e2,FC];grind
 generalize wv lo.num lo.den ns*wv hi.num hi.den ns=z at*;have J:Num.ev lo (qI ns)*Num.ev hi (qI ns)<0↔z<0:=by
  have C:=g.pos;have hz:=g.zero;generalize Num.ev lo (qI ns)*Num.ev hi (qI ns)=y at*;constructor
  .intro h;have a1:¬0<z:=λq=>by have:=C.mpr q;grind
   have a2:z≠0:=λq=>by have:=hz.mpr q;grind
   lia
  .intro h;have a1:¬0<y:=λq=>by have:=C.mp q;lia
   have a2:y≠0:=λq=>by have:=hz.mp q;lia
   grind
 fin2;by_cases f:z=0
 .rw[f,BM (by decide)];exact h _
 .rw[Bi (by simpa using f)];refine⟨_,S,?_⟩;fin2;refine⟨by decide,LM ?_⟩;have l:=Q.odd c lo hi (λq=>f (g.zero.mp q));rw[J]at l;have E:((V lo:Int) -V hi).fmod 2=1↔(V lo+V hi)%2=1:=by rw[rf _ (by decide)];lia
  have Z:decide (z<0)=decide (((V lo:Int) -V hi).fmod 2=1):=by
   by_cases q:z<0
   .rw[He q,He (E.mpr (l.mp q))]
   .rw[Ki q,Ki λy=>q (l.mpr (E.mp y))]
  fin2;rw[Z,He rfl];fin2;exact h _
theorem yO{G:Nat->W}{m:Md}{Q:W->Prop}{R:Addr->Prop}{a b:Int}{ns:List Int}{k:Nat}{d:Int}{o j i f p:Rat}{C B z:Option W}(O:Wl a b)(Dn:m7 ns k)(hd:0<d/\d.natAbs<2^100)(e:Ed o/\Ed j/\Ed i/\Ed f/\Ed p)(lt:o<j/\j<i/\i<f/\f<p)(hq:∀a' b',Wl a' b'->Q (.tup [.bl true,wW a' b'])):
 wSs (cg [dw,iV,jK,uL,eS,jo,gp,d8]) G [.GB [3] jq] (bU (.io m) Q R) [some (wW a b),some (wI ns),some (aM (b6 ns 1 d)),some (aM [o,j,i,f,p]),C,B,z,none,none,none,none,none,none]:=by
 obtain⟨Y,L,X,U,e4⟩:=e;obtain⟨l1,l2,l3,l4⟩:=lt;have n0:=Dn.n0;have xq:=Dn.xq;have LN:=Dn.LN;have hb:=Dn.hb;show wSs (cg [dw,iV,jK,uL,eS,jo,gp,d8]) G jq {bU (.io m) Q R with nx:=λ_=>False,bk:=λ_=>False,ct:=λ_=>False} _;unfold jq;rcases LP n0 Dn.nz with⟨V,A⟩|I;rotate_left
 .unfold aM;fin2;refine⟨by decide,by decide,?_⟩;rw[show fj 0 1 (4:Int).toNat=[.int 0,.int 1,.int 2,.int 3]from rfl];refine⟨_,rfl,_,rfl,?_⟩;exact Gg (t:=1) Dn.k I (by decide) (by decide) hd.1 hd.2 Y.bx L.bx
 have T:∀{E F:Rat}{Q:W->Prop}{R:Addr->Prop},Ed E->Ed F->Q (.int ((V E:Int) -V F))->eS [.lst ((b6 ns 1 d).map wq),wq E,wq F] Q R:=λ{E F Q R} el eh q=>Gf (t:=1) n0 Dn.k A (by decide) (by decide) hd.1 hd.2 el.bx eh.bx q;refine aE (λr=>r=[some (wW a b),some (wI ns),some (aM (b6 ns 1 d)),some (aM [o,j,i,f,p]),C,B,z,some (wI [(V o:Int) -V j,(V j:Int) -V i,(V i:Int) -V f,(V f:Int) -V p]),none,none,none,none,none]) (λN s=>?_) ?_
 .have s:=s _ rfl;unfold aM at s⊢;fin2;refine⟨by decide,by decide,?_⟩;rw[show fj 0 1 (4:Int).toNat=[.int 0,.int 1,.int 2,.int 3]from rfl];refine⟨_,rfl,_,rfl,T Y L ⟨fX (by simp),?_⟩⟩;refine⟨_,rfl,_,rfl,T L X ⟨fX (by simp),?_⟩⟩;refine⟨_,rfl,_,rfl,T X U ⟨fX (by simp),?_⟩⟩;refine⟨_,rfl,_,rfl,T U e4 ⟨fX (by simp),?_⟩⟩;exact s
 rintro _ rfl;refine aE (λr=>r=[some (wW a b),some (wI ns),some (aM (b6 ns 1 d)),some (aM [o,j,i,f,p]),C,B,z,some (wI [(V o:Int) -V j,(V j:Int) -V i,(V i:Int) -V f,(V f:Int) -V p]),some (.int ((V o:Int) -V p)),none,none,none,none]) (λN s=>?_) ?_
 .have s:=s _ rfl;unfold aM at s⊢;fin2;exact⟨_,rfl,_,rfl,T Y e4 s⟩
 rintro _ rfl;have f1:=A.fall _ _ l1;have f2:=A.fall _ _ l2;have f3:=A.fall _ _ l3;have f4:=A.fall _ _ l4;have fw:=A.few o;have lr:(b6 ns 1 d).length=ns.length:=Ap _;refine aE (λr=>r=[some (wW a b),some (wI ns),some (aM (b6 ns 1 d)),some (aM [o,j,i,f,p]),C,B,z,some (wI [(V o:Int) -V j,(V j:Int) -V i,(V i:Int) -V f,(V f:Int) -V p]),some (.int ((V o:Int) -V p)),none,none,none,none]) (λN s=>?_) ?_
 .have s:=s _ rfl;unfold aM at s⊢;fin2;refine⟨[(V o:Int) -V j,(V j:Int) -V i,(V i:Int) -V f,(V f:Int) -V p],rfl,by simp,λu hu _=>?_⟩;have u0:0<=u:=by simp only[GE,UF,lx]at hu;rcases hu with rfl|rfl|rfl|rfl<;>lia
  fin2;rw[BM (by rw[Kx];lia)];refine⟨[(V o:Int) -V j,(V j:Int) -V i,(V i:Int) -V f,(V f:Int) -V p],rfl,?_⟩;have es:[(V o:Int) -V j,(V j:Int) -V i,(V i:Int) -V f,(V f:Int) -V p].sum=(V o:Int) -V p:=by simp only[List.sum_cons,List.sum_nil];lia
  rw[es];fin2;rw[He rfl];fin2;rw[Ap,lr,BM (by rw[Kx];lia)];exact s
 rintro _ rfl;refine aE (λr=>∃a b t,(Wl a b/\Tm t)/\r=[some (wW a b),some (wI ns),some (aM (b6 ns 1 d)),some (aM [o,j,i,f,p]),C,B,z,some (wI [(V o:Int) -V j,(V j:Int) -V i,(V i:Int) -V f,(V f:Int) -V p]),some (.int ((V o:Int) -V p)),some (wq t),none,none,none]) (λN s=>?_) ?_
 .fin2;refine⟨a,b,41,rfl,O,by decide,by decide,λx a1 Z y0 y1 hw1=>⟨_,_,rfl,?_⟩⟩;fin2;refine⟨a1,Z,4,rfl,hw1,by decide,by decide,λy a2 b2 z0 z1 kW=>⟨_,_,rfl,?_⟩⟩;fin2;obtain⟨s1,s2⟩:=uU (t:=x -20) (b:=1+y) (by lia);exact⟨x -20,1+y,3,rfl,by decide,by lia,by lia,s _ ⟨a2,b2,_,⟨kW,by lia,by lia⟩,rfl⟩⟩
 clear O a b;rintro _ ⟨a,b,t,⟨O,D⟩,rfl⟩;refine aE (λr=>∃w,(Mv ns t w/\∀x∈w,x.natAbs<=2^(k+5*ns.length))/\r=[some (wW a b),some (wI ns),some (aM (b6 ns 1 d)),some (aM [o,j,i,f,p]),C,B,z,some (wI [(V o:Int) -V j,(V j:Int) -V i,(V i:Int) -V f,(V f:Int) -V p]),some (.int ((V o:Int) -V p)),some (wq t),some (aM (b6 w (-3) 7)),none,none]) (λN s=>?_) ?_
 .fin2;refine⟨ns,t,k,rfl,⟨n0,by lia,Dn.bd,D.n,D.d,by lia⟩,λw J bm=>?_⟩;have lm:=J.len;exact⟨w,-3,7,k+5*ns.length+1,3,rfl,⟨by lia,λy hy=>aJ (bm y hy),by decide,by decide,by decide,by lia,by decide⟩,s _ ⟨w,⟨J,bm⟩,rfl⟩⟩
 rintro _ ⟨w,⟨J,bm⟩,rfl⟩;obtain⟨_,_,_,mz⟩:=Gd n0 Dn.nz J;have lm:=J.len;have Km:2<=w.length->Qg w (k+5*ns.length):=λl2=>⟨l2,by lia,mz,bm,by rw[lm];exact hb⟩;have tn:=D.n;have td:=D.d;have tp:=t.den_pos;refine aE (λr=>r=[some (wW a b),some (wI ns),some (aM (b6 ns 1 d)),some (aM [o,j,i,f,p]),C,B,z,some (wI [(V o:Int) -V j,(V j:Int) -V i,(V i:Int) -V f,(V f:Int) -V p]),some (.int ((V o:Int) -V p)),some (wq t),some (aM (b6 w (-3) 7)),some (aM [o -t,j -t,i -t,f -t,p -t]),none]) (λN s=>?_) ?_
 .have s:=s _ rfl;unfold aM at s⊢;fin2;refine cD (h:=wq) (g:=λx=>wq (x -t)) [o,j,i,f,p] [] _ (λx hx K hK=>?_) (ao (by simp)) s;have ex:Ed x:=by simp only[GE,UF,lx]at hx;rcases hx with rfl|rfl|rfl|rfl|rfl<;>assumption
  have xn:=ex.n;have xd:=ex.d;have xp:=x.den_pos;have bxn:x.num.natAbs<2^10:=by lia
  have Xv:((x.den:Nat):Int).natAbs<2^10:=by lia
  have btn:t.num.natAbs<2^10:=by lia
  have Xw:((t.den:Nat):Int).natAbs<2^10:=by lia
  unfold wq at hK⊢;fin2;refine⟨_,rfl,_,rfl,aG bxn Xw (by decide),_,rfl,_,rfl,aG btn Xv (by decide),_,rfl,_,rfl,aG Xv Xw (by decide),?_⟩;have p0:0<(x.den:Int)*(t.den:Int):=wx (by lia) (by lia);refine⟨_,_,20,rfl,by decide,by lia,by rw[Fh];exact lt_mul Xv Xw,?_⟩;rw[A4];exact hK
 rintro _ rfl;have b0:=xy Y D;have Z:=xy L D;have b2:=xy X D;have b3:=xy U D;have b4:=xy e4 D;rcases LP (ns:=w) (by lia) mz with⟨V2,S⟩|I;rotate_left
 .unfold aM;fin2;refine⟨by decide,by decide,?_⟩;rw[show fj 0 1 (4:Int).toNat=[.int 0,.int 1,.int 2,.int 3]from rfl];refine⟨_,rfl,_,rfl,?_⟩;exact Gg (t:= -3) Km I (by decide) (by decide) (by decide) (by decide) b0 Z
 have H:∀{E F:Rat}{Q:W->Prop}{R:Addr->Prop},Bx E->Bx F->Q (.int ((V2 E:Int) -V2 F))->eS [.lst ((b6 w (-3) 7).map wq),wq E,wq F] Q R:=λ{E F Q R} el eh q=>Gf (t:= -3) (by lia) Km S (by decide) (by decide) (by decide) (by decide) el eh q;have M:∀x,V2 (x -t)=V x:=λx=>by rw[Ge n0 Dn.nz J A S];congr 1;grind
 refine aE (λr=>r=[some (wW a b),some (wI ns),some (aM (b6 ns 1 d)),some (aM [o,j,i,f,p]),C,B,z,some (wI [(V o:Int) -V j,(V j:Int) -V i,(V i:Int) -V f,(V f:Int) -V p]),some (.int ((V o:Int) -V p)),some (wq t),some (aM (b6 w (-3) 7)),some (aM [o -t,j -t,i -t,f -t,p -t]),none]) (λN s=>?_) ?_
 .have s:=s _ rfl;unfold aM at s⊢;fin2;refine⟨by decide,by decide,?_⟩;rw[show fj 0 1 (4:Int).toNat=[.int 0,.int 1,.int 2,.int 3]from rfl];refine⟨_,rfl,_,rfl,H b0 Z ⟨fX (by simp),?_⟩⟩;refine⟨_,rfl,_,rfl,H Z b2 ⟨fX (by simp),?_⟩⟩;refine⟨_,rfl,_,rfl,H b2 b3 ⟨fX (by simp),?_⟩⟩;refine⟨_,rfl,_,rfl,H b3 b4 ⟨fX (by simp),?_⟩⟩;rw[M,M,M,M,M];have key:∀{ps:List Int}{P:W->Prop},P (.bl false)->eZ .NotEq (wI ps) (wI ps) P:=λ{ps P} hP=>uQ λkk hk=>by
   cases iI hk rfl;exact hP
  dsimp only[mK,C4,EF];refine key (ps:=[(V o:Int) -V j,(V j:Int) -V i,(V i:Int) -V f,(V f:Int) -V p]) ?_;fin2;exact s
 rintro _ rfl;refine aE (λr=>(2<=ns.length->∀d,Num.Fin d->DQ d (cz ns)->DQ d (cz (bY ns))->Un d)/\r=[some (wW a b),some (wI ns),some (aM (b6 ns 1 d)),some (aM [o,j,i,f,p]),C,B,z,some (wI [(V o:Int) -V j,(V j:Int) -V i,(V i:Int) -V f,(V f:Int) -V p]),some (.int ((V o:Int) -V p)),some (wq t),some (aM (b6 w (-3) 7)),some (aM [o -t,j -t,i -t,f -t,p -t]),none]) (λN s=>?_) ?_
 .fin2;refine⟨ns,k,rfl,Dn,?_,λv=>?_⟩
  .fin2;exact hq a b O
  .fin2;exact s _ ⟨v,rfl⟩
 rintro _ ⟨v,rfl⟩;refine aE (λr=>∃z Ze,r=[some (wW a b),some (wI ns),some (aM (b6 ns 1 d)),some (aM [o,j,i,f,p]),C,B,z,some (wI [(V o:Int) -V j,(V j:Int) -V i,(V i:Int) -V f,(V f:Int) -V p]),some (.int ((V o:Int) -V p)),some (wq t),some (aM (b6 w (-3) 7)),some (aM [o -t,j -t,i -t,f -t,p -t]),Ze]) (λN s=>?_) ?_
 .refine FP (l:=[.int 0,.int 1,.int 2,.int 3]) (λQ hq=>?_) ?_
  .fin2;exact⟨by decide,by decide,hq⟩
  refine lP Dn A v Y L rfl rfl rfl λc=>?_;refine lP Dn A v L X rfl rfl rfl λc=>?_;refine lP Dn A v X U rfl rfl rfl λc=>?_;refine lP Dn A v U e4 rfl rfl rfl λc=>?_;exact s _ ⟨_,c,rfl⟩
 rintro _ ⟨z,Ze,rfl⟩;fin2;exact hq a b O
theorem Cu{G:Nat->W}{m:Md}(f:List W)(Q:W->Prop)(R:Addr->Prop)(h:lO f Q R):wSs (cg [dw,iV,jK,uL,eS,jo,gp,d8]) G ia (bU (.io m) Q R) (au 13 f):=by obtain⟨a,b,rfl,c,i⟩:=h;exact yN c λa b u k d q p o n l t s r c D j e g=>yO c D j e g i
noncomputable def uV:List CS:=[.fr [1] true (.jA [(.blt .max2 [(.int 1),(.blt .min2 [(.blt .len [(.var 0)]),(.int 8)])])]) [.iff (.not (.Ni 0 (.call 1 [(.var 0),(.var 1)]) [])) [.ret (.bl false)] []],.ret (.bl true)]
theorem J5{G:Nat->W}{m:Md}(k:List W)(Q:W->Prop)(R:Addr->Prop)(h:PY k Q R):wSs (cg [lO,FQ]) G uV (bU m Q R) (au 2 k):=by
 obtain⟨d,rfl,_,j⟩:=h;show wSs _ _ uV _ [some (.gQ d),none];unfold uV;obtain⟨c,v,e⟩:∃c:Nat,c<=8/\(if(if(8:Int)<(d.length:Int)then(8:Int)else(d.length:Int))>1 then(if(8:Int)<(d.length:Int)then(8:Int)else(d.length:Int))else 1)=(c:Int):=by
  by_cases p:(8:Int)<(d.length:Int)
  .exact⟨8,by decide,by rw[Bi p,Bi (by decide)];rfl⟩
  .rw[BM p];by_cases n:(d.length:Int)>1
   .exact⟨d.length,by lia,by rw[Bi n]⟩
   .exact⟨1,by decide,by rw[BM n];rfl⟩
 refine aE (λf=>∃o,f=[some (.gQ d),o]) (λN r=>?_) ?_
 .refine FP (l:=fj 0 1 c) (λQ j=>?_) ?_
  .fin2;rw[e];exact⟨by lia,by lia,j⟩
  refine bu (λi q=>∃o,q=[some (.gQ d),o]) ⟨none,rfl⟩ ?_ ?_
  .rintro i w _ N g ⟨o,rfl⟩ s;obtain⟨u,rfl⟩:=kj g;fin2;refine⟨d,i,rfl,by lia,λa b g=>?_⟩;refine⟨a,b,rfl,g,λy x t=>⟨_,_,rfl,?_⟩⟩;fin2;exact s _ ⟨_,rfl⟩
  .rintro _ ⟨o,rfl⟩;exact r _ ⟨o,rfl⟩
 rintro _ ⟨o,rfl⟩;fin2;exact j
end VL
namespace VL
open PySem PySem.Spec
open PyProof.Rows hiding St
open L2
noncomputable def A5(st:Stmt):List Str:=(cj st).args.map (·.arg)
noncomputable def Xx:NameKind->Bool
 |.local=>true
 |.cell=>true
 |_=>false
noncomputable def Vv(st:Stmt):List Str:=((ai st).names.filter λy=>Xx y.2).map (·.1)
abbrev DT:=List (Str×Nat)
noncomputable def J6(DD:DT)(j:Nat):Str:=match DD[j]? with
 |some y=>y.1
 |none=>""
noncomputable def J7(K:Frag)(a:Nat->Stmt):DT->Prop
 |[]=>True
 |(x,i)::l=>(Hd K x (a i)/\iJ x x (a i) (A5 (a i)))/\J7 K a l
noncomputable def J8(K:Frag):List Str->Prop
 |[]=>True
 |x::l=>nsIn K mainGlobals x=some none/\J8 K l
structure TT(K:Frag)(mg:Str->Option Value)(tp:Nat->Stmt)(DD:DT)(ZZ:List Str)where
 f:Nat->Addr
 d:Nat->FuncData
 D:∀{j:Nat}{x:Str}{i:Nat},DD[j]?=some (x,i)->Df K mg x (tp i) (A5 (tp i)) (f j) (d j)
 Z:∀x∈ZZ,mg x=none
section
variable{P:Program}{w:World}{K:Frag}{mg:Str->Option Value}{base:Heap}{tp:Nat->Stmt}{DD:DT}{ZZ:List Str}
theorem A9{h:Heap}(X:K.In h)(G:h.Ns mainGlobals mg):∀{DD:DT}{j:Nat}{x:Str}{i:Nat},J7 K tp DD->DD[j]?=some (x,i)->∃f a,Df K mg x (tp i) (A5 (tp i)) f a
 |(y,n)::DD,0,x,i,h,e=>by
  cases e;exact Um X G h.1.1 h.1.2
 |(y,n)::DD,j+1,x,i,h,e=>A9 X G (DD:=DD) h.2 e
theorem Ba{h:Heap}(X:K.In h)(G:h.Ns mainGlobals mg):∀{ZZ:List Str},J8 K ZZ->∀x∈ZZ,mg x=none
 |y::ZZ,h,x,a=>by
  rcases GE.mp a with e|a
  .rw[e];exact PySem.W.mg_none_of X G h.1
  .exact Ba X G h.2 x a
open Classical in
theorem US{h:Heap}(X:K.In h)(G:h.Ns mainGlobals mg)(a:J7 K tp DD)(z:J8 K ZZ):Nonempty (TT K mg tp DD ZZ):=by
 have H:∀j:Nat,∃f b,∀x i,DD[j]?=some (x,i)->Df K mg x (tp i) (A5 (tp i)) f b:=λj=>by
  cases e:DD[j]? with
  |none=>exact⟨0,fnOf "" "" (cj (tp 0)) (aT (tp 0)) (ai (tp 0)) .none .none .none .none none .none .none,λx i q=>nn q⟩
  |some y=>obtain⟨f,b,D⟩:=A9 X G a e;exact⟨f,b,λx i q=>by cases q;exact D⟩
 exact⟨⟨λj=>choose (H j),λj=>choose (choose_spec (H j)),λ{j x i} e=>choose_spec (choose_spec (H j)) x i e,Ba X G z⟩⟩
noncomputable def Cl(P:Program)(w:World)(K:Frag)(mg:Str->Option Value)(base:Heap)(DD:DT)(k j:Nat)(m:Md)(S:bD):Prop:=∃c n b,mg (J6 DD j)=some c/\cH P w K mg base b c n (oj K n m S)/\b<=k/\∀a P R,S a P R->a.length=n
noncomputable def Cv(P:Program)(w:World)(K:Frag)(mg:Str->Option Value)(base:Heap)(DD:DT):List (Nat×Md×Nat)->List bD->Prop
 |(j,m,k)::i7,S::Ss=>Cl P w K mg base DD k j m S/\Cv P w K mg base DD i7 Ss
 |[],_=>True
 |_::_,[]=>False
theorem Bb{k:Nat}:∀{a:List (Nat×Md×Nat)}{Ss:List bD},Cv P w K mg base DD a Ss->a.all (λy=>decide (y.2.2<=k))=true->Vr P w K mg base k (a.map λy=>J6 DD y.1) (a.map (·.2.1)) Ss
 |(j,m,k')::a,S::Ss,h,hk=>by rw[G1,AN]at hk;obtain⟨f,n,k2,e,d,c,b⟩:=h.1;exact⟨⟨f,n,k2,e,d,Bz c (D1 hk.1),b⟩,Bb h.2 hk.2⟩
 |[],_,_,_=>trivial
 |_::_,[],h,_=>h.elim
noncomputable def Gn(K:Frag)(mg:Str->Option Value)(x:Str)(u:W):Prop:=(∃v z,mg x=some v/\RelV z v/\∀B H,Rep K B H u z)/\∀C,u=.cls C->Wg K C
noncomputable def UT(K:Frag)(mg:Str->Option Value):List Str->List W->Prop
 |x::gn,u::Gs=>Gn K mg x u/\UT K mg gn Gs
 |[],_=>True
 |_::_,[]=>False
theorem Qk{x:Str}{i:Int}(h:∃u,mg x=some u/\RelV (.int i) u):Gn K mg x (.int i):=by obtain⟨u,b,a⟩:=h;exact⟨⟨u,_,b,a,λ_ _=>by dsimp only[Rep]⟩,λC e=>by cases e⟩
theorem yP:∀{gn:List Str}{Gs:List W},UT K mg gn Gs->∀(j:Nat)(x:Str),gn[j]?=some x->Gn K mg x (nO Gs j)
 |y::gn,u::Gs,h,0,x,e=>by
  cases e;exact h.1
 |y::gn,u::Gs,h,j+1,x,e=>yP (gn:=gn) h.2 j x e
 |_::_,[],h,_,_,_=>h.elim
 |[],_,_,_,_,e=>by cases e
theorem UU{k:Nat}{a:List (Nat×Md×Nat)}{Ss:List bD}{gn:List Str}{Gs:List W}(T:TT K mg tp DD ZZ)(h:Cv P w K mg base DD a Ss)(b:a.all (λy=>decide (y.2.2<=k))=true)(g:UT K mg gn Gs):Tab P w K mg base (a.map λy=>J6 DD y.1) gn ZZ (a.map (·.2.1)) [] (cg Ss) (nO Gs) k:=
 ⟨λj x e _=>yI (Bb h b) j x e,λ_ _ _ _ h=>(by cases h),λj x e=>(yP g j x e).1,T.Z,yD K,λj x C e q=>(yP g j x e).2 C q⟩
noncomputable def LQ(ZZ:List Str)(st:Stmt)(a n:Nat)(M:Ms)(fn gn:List Str)(b:List Md)(d:List (Nat×Nat))(m:Md)(c:List CS):Bool:=
 decide (((ai st).kind=.function/\(ai st).isCoroutine=false/\(ai st).isGenerator=false/\(Vv st).Nodup/\(Vv st).take (A5 st).length=A5 st)/\(∀x∈A5 st,(ai st).names.lookup x=some .local\/(ai st).names.lookup x=some .cell)/\(∀y∈(ai st).names,y.2≠.free)/\(A5 st).length=a/\(Vv st).length=n/\(M.map (·.1)).Nodup)&&(M.all (λi=>decide (a<=i.1))&&!cW m&&cM ⟨Vv st,(ai st).names,M,fn,gn,ZZ,b,d⟩ (fS b) m c (aT st))
theorem Xy{e n j i:Nat}{x:Str}{M:Ms}{fn gn:List Str}{o:List Md}{l:List (Nat×Nat)}{m:Md}{c:List CS}{h:Nat->bD}{G:Nat->W}{k:Nat}{S:bD}(T:TT K mg tp DD ZZ)(s:DD[j]?=some (x,i))(g:LQ ZZ (tp i) e n M fn gn o l m c=true)(q:Tab P w K mg base fn gn ZZ o l h G k)(r:∀a P R,S a P R->a.length=e)(p:∀a Q R,S a Q R->wSs h G c (bU m Q R) (au n a)):
 b9 P w K mg base (jB P w) (k+1) (T.f j) (T.d j) (A5 (tp i)) (oj K e m S):=by
 unfold LQ at g;rw[AN,AN,AN]at g;obtain⟨y,⟨v,u⟩,t⟩:=g;obtain⟨⟨J,a2,a3,I,H⟩,E,C,A,z,B⟩:=D1 y;have b:cW m=false:=by simpa using u
 subst A z;have:=Fy (T.D s).F ⟨J,a2,a3,I,H,E,C⟩ q c M m S v B b t r p;cases m<;>first|exact this|cases b
theorem Bc{a j i k:Nat}{x:Str}{m:Md}{S:bD}(T:TT K mg tp DD ZZ)(c:DD[j]?=some (x,i))(g:a=(A5 (tp i)).length)(F:b9 P w K mg base (jB P w) k (T.f j) (T.d j) (A5 (tp i)) (oj K a m S))(h:∀b P R,S b P R->b.length=a):Cl P w K mg base DD k j m S:=by
 have e:J6 DD j=x:=by unfold J6;rw[c]
 unfold Cl;rw[e];exact(T.D c).i7 F g h (D2 k)
theorem Ql{a n:Nat}{st:Stmt}{M:Ms}{fn gn:List Str}{d:List Md}{b:List (Nat×Nat)}{m:Md}{c:List CS}(h:LQ ZZ st a n M fn gn d b m c=true):a=(A5 st).length:=by unfold LQ at h;rw[AN]at h;exact(D1 h.1).2.2.2.1.symm
theorem UW{n j i:Nat}{x:Str}{Gs:List W}{m:Md}{c:List CS}{Ss:List bD}{k:Nat}{S:bD}(T:TT K mg tp DD ZZ)(q:DD[j]?=some (x,i))(e:Nat)(M:Ms)(b:List (Nat×Md×Nat))(gn:List Str)(p:∀a Q R,S a Q R->wSs (cg Ss) (nO Gs) c (bU m Q R) (au n a))(h:Cv P w K mg base DD b Ss)(g:UT K mg gn Gs)(l:(b.all (λy=>decide (y.2.2<=k))&&LQ ZZ (tp i) e n M (b.map λy=>J6 DD y.1) gn (b.map (·.2.1)) [] m c)=true)(o:∀a P R,S a P R->a.length=e):b9 P w K mg base (jB P w) (k+1) (T.f j) (T.d j) (A5 (tp i)) (oj K e m S):=by rw[AN]at l;exact Xy T q l.2 (UU T h l.1 g) o p
theorem Qm{n j i:Nat}{x:Str}{Gs:List W}{m:Md}{c:List CS}{Ss:List bD}{k:Nat}{S:bD}(T:TT K mg tp DD ZZ)(l:DD[j]?=some (x,i))(d:Nat)(M:Ms)(b:List (Nat×Md×Nat))(gn:List Str)(p:∀a Q R,S a Q R->wSs (cg Ss) (nO Gs) c (bU m Q R) (au n a))(h:Cv P w K mg base DD b Ss)(g:UT K mg gn Gs)(e:(b.all (λy=>decide (y.2.2<=k))&&LQ ZZ (tp i) d n M (b.map λy=>J6 DD y.1) gn (b.map (·.2.1)) [] m c)=true)(f:∀a P R,S a P R->a.length=d):Cl P w K mg base DD (k+1) j m S:=by have F:=UW T l d M b gn p h g e f;rw[AN]at e;exact Bc T l (Ql e.2) F f
theorem jE{n j i:Nat}{x:Str}{m:Md}{c:List CS}{Ss:List bD}{k:Nat}{S:bD}(T:TT K mg tp DD ZZ)(g:DD[j]?=some (x,i))(d:Nat)(M:Ms)(b:List (Nat×Md×Nat))(p:∀a Q R,S a Q R->wSs (cg Ss) (nO []) c (bU m Q R) (au n a))(h:Cv P w K mg base DD b Ss)(f:(b.all (λy=>decide (y.2.2<=k))&&LQ ZZ (tp i) d n M (b.map λy=>J6 DD y.1) [] (b.map (·.2.1)) [] m c)=true)(e:∀a P R,S a P R->a.length=d):Cl P w K mg base DD (k+1) j m S:=Qm T g d M b [] p h trivial f e
theorem qE{n j i:Nat}{x:Str}{m:Md}{c:List CS}{S:bD}(T:TT K mg tp DD ZZ)(f:DD[j]?=some (x,i))(b:Nat)(M:Ms)(p:∀a Q R,S a Q R->wSs (cg []) (nO []) c (bU m Q R) (au n a))(e:LQ ZZ (tp i) b n M [] [] [] [] m c=true)(d:∀a P R,S a P R->a.length=b):Cl P w K mg base DD 1 j m S:=Qm (k:=0) T f b M [] [] p trivial trivial e d
theorem LR{k j i a:Nat}{x:Str}(T:TT K mg tp DD ZZ)(c:DD[j]?=some (x,i))(b:a=(A5 (tp i)).length):Cl P w K mg base DD k j .s Vo:=Bc T c b Uo λ_ _ _ z=>z.elim
theorem f7{k j d:Nat}{m:Md}{S:bD}(h:Cl P w K mg base DD k j m S)(f:k<=d):∃b n a,mg (J6 DD j)=some b/\cH P w K mg base a b n (oj K n m S)/\a<=d/\∀c P R,S c P R->c.length=n:=by obtain⟨b,n,e,o,l,i,g⟩:=h;exact⟨b,n,e,o,l,Bz i f,g⟩
end
end VL
namespace KR
open PySem PySem.Spec
open PyProof.Rows hiding St
open L2 VL Num
set_option genInjectivity false
set_option genSizeOf false
noncomputable def top(i:Nat):Stmt:=PySem.Challenge.pw_paperwright_k43_whole_counts_add_up.main.body.getD i (.Pass ⟨0,0,0,0⟩)
abbrev en(x:Str)(i:Nat):Str×Nat:=(x,i)
abbrev DD:DT:=[en "gcd" 4,en "turn" 5,en "turned" 7,en "raised" 10,en "cleared" 15,en "trimmed" 16,en "scaled" 17,en "whole_plus" 18,en "whole_minus" 19,en "whole_times" 20,en "whole_value" 21,en "whole_slope" 22,en "whole_divided" 23,en "whole_over" 24,en "shortened" 25,en "next_height" 28,en "sturm_chain" 29,en "counting_chain" 31,en "changes" 32,en "counted" 33,en "primitive" 35,en "count" 37,en "_law_well" 39,en "_law_draw" 40,en "_law_share" 41,en "_law_lowest" 42,en "_law_primitive" 43,en "_law_product" 44,en "_law_drawn" 45,en "_law_value" 46,en "_law_moved" 47,en "_law_bare" 48,en "_law_row" 49,en "_law_right" 50,en "law" 51]
abbrev ZZ:List Str:=["abs","divmod","enumerate","int","len","list","max","min","range","reversed","sum"]
abbrev gF:Stmt:=inClass (top 27) 0
abbrev dD:Stmt:=inClass (top 27) 2
abbrev gG:Stmt:=top 29
abbrev yQ:Stmt:=top 40
abbrev uW:Stmt:=top 45
abbrev uX:Stmt:=top 50
theorem qF:cS ["self","one","other","factor"] ["self","one","other","factor"] (ai gF):=⟨rfl,rfl,rfl,by decide+kernel,rfl,by decide+kernel,by decide+kernel⟩
theorem rq:cS ["self","quotient","rest","scale","factor","drop","known"] ["self"] (ai dD):=⟨rfl,rfl,rfl,by decide+kernel,rfl,by decide+kernel,by decide+kernel⟩
theorem qG:cS ["numbers","ahead","last","told","chain"] ["numbers"] (ai gG):=⟨rfl,rfl,rfl,by decide+kernel,rfl,by decide+kernel,by decide+kernel⟩
theorem J9:cS ["_law_well_here","_law_many","_law_found","_law_turn","_law_upper","_law_lower"] ["_law_well_here","_law_many"] (ai yQ):=⟨rfl,rfl,rfl,by decide+kernel,rfl,by decide+kernel,by decide+kernel⟩
theorem Gh:cS ["_law_well_here","_law_size","_law_most","_law_whole","_law_part"] ["_law_well_here"] (ai uW):=⟨rfl,rfl,rfl,by decide+kernel,rfl,by decide+kernel,by decide+kernel⟩
theorem Gi:cS ["_law_well_here","_law_whole","_law_row_here","_law_ends","_law_at","_law_bottom","_law_k","_law_parts","_law_far","_law_by","_law_moved_here","_law_back","_law_signs"] ["_law_well_here"] (ai uX):=⟨rfl,rfl,rfl,by decide+kernel,rfl,by decide+kernel,by decide+kernel⟩
structure Tx(K:Frag)(mg:Str->Option Value) extends TT K mg top DD ZZ where
 ay:Addr
 jz:Hc K mg "Chain" ay ["ahead","last","factor_ahead","factor_last","lead","height","sign","scale","known"]
 jM:Addr
 jN:FuncData
 dU:Dm K ay "__init__" "Chain.__init__" gF ["self","one","other","factor"] jM jN
 lS:Addr
 lT:FuncData
 lU:Dm K ay "step" "Chain.step" dD ["self"] lS lT
 Qn:∃u,mg "LONG"=some u/\RelV (.int 6000) u
section
variable{P:Program}{w:World}{K:Frag}{mg:Str->Option Value}{base:Heap}
theorem LS(T:Tx K mg):Cl P w K mg base DD 2 0 .s JM:=
 Qm (Ss:=[Vo,Vo]) T.toTT rfl 2 [] [(2,.s,1),(1,.s,1)] ["LONG"] Ur ⟨LR T.toTT rfl rfl,LR T.toTT rfl rfl,trivial⟩ ⟨Qk T.Qn,trivial⟩ (by decide+kernel) (by walk_at "l")
theorem xA(T:Tx K mg):Cl P w K mg base DD 1 3 .s oB:=
 qE T.toTT rfl 2 [] FF (by decide+kernel) (by walk_at "l")
theorem Cw(T:Tx K mg):Cl P w K mg base DD 3 4 .s qo:=
 jE T.toTT rfl 1 [] [(0,.s,2)] Co ⟨LS T,trivial⟩ (by decide+kernel) (by walk_at "l")
theorem sR(T:Tx K mg):Cl P w K mg base DD 1 5 .f lG:=
 qE T.toTT rfl 1 [] Cm (by decide+kernel) (by walk_at "l")
theorem lV(T:Tx K mg):Cl P w K mg base DD 1 6 .f iK:=
 qE T.toTT rfl 2 [] FD (by decide+kernel) (by walk_at "l")
theorem uY(T:Tx K mg):Cl P w K mg base DD 2 7 .f jj:=
 jE T.toTT rfl 2 [(3,.f)] [(5,.f,1)] uH ⟨sR T,trivial⟩ (by decide+kernel) (by walk_at "l")
theorem rA(T:Tx K mg):Cl P w K mg base DD 3 8 .f iN:=
 jE T.toTT rfl 2 [] [(7,.f,2),(6,.f,1)] qU ⟨uY T,lV T,trivial⟩ (by decide+kernel) (by walk_at "l")
theorem rB(T:Tx K mg):Cl P w K mg base DD 1 9 .f iO:=
 qE T.toTT rfl 2 [(2,.f)] qV (by decide+kernel) (by walk_at "l")
theorem rC(T:Tx K mg):Cl P w K mg base DD 1 10 .s iT:=
 qE T.toTT rfl 3 [] rj (by decide+kernel) (by walk_at "l")
theorem rD(T:Tx K mg):Cl P w K mg base DD 1 11 .f fD:=
 qE T.toTT rfl 1 [] qZ (by decide+kernel) (by walk_at "l")
theorem nX(T:Tx K mg):Cl P w K mg base DD 2 12 .s f6:=
 jE T.toTT rfl 2 [(4,.f),(5,.f)] [(6,.f,1),(5,.f,1)] nW ⟨lV T,sR T,trivial⟩ (by decide+kernel) (by walk_at "l")
theorem uZ(T:Tx K mg):Cl P w K mg base DD 1 13 .f jn:=
 qE T.toTT rfl 2 [(3,.f),(4,.f)] uJ (by decide+kernel) (by walk_at "l")
theorem nN(T:Tx K mg):Cl P w K mg base DD 3 14 .s iP:=
 jE T.toTT rfl 1 [] [(0,.s,2)] xg ⟨LS T,trivial⟩ (by decide+kernel) (by walk_at "l")
theorem rE(T:Tx K mg):Cl P w K mg base DD 2 15 .s iQ:=
 jE T.toTT rfl 3 [] [(3,.s,1)] qW ⟨xA T,trivial⟩ (by decide+kernel) (by walk_at "l")
theorem rF(T:Tx K mg):b9 P w K mg base (jB P w) 1 T.jM T.jN ["self","one","other","factor"] (FN T.ay):=by
 have g:=T.jz.ok.1;have d:=T.jz.ok.2.2.2;refine T.dU.F.Wh qF (λn H Q E h=>?_) (λv A k s H n Q E y h=>?_)
 .obtain⟨x,a,t,r,p,rfl,_⟩:=h;rfl
 obtain⟨x,a,t,r,p,rfl,u,q⟩:=h;refine⟨_,(@c6 _ _ _ _ _ (gr (pv 0) (pv 1) rfl)
  (@c6 _ _ _ _ _ (gr (pv 0) (pv 2) rfl)
  (@c6 _ _ _ _ _ (gr (pv 0) (pv 3) rfl)
  (@c6 _ _ _ _ _ (gr (pv 0) (sY dJ) rfl)
  (@c6 _ _ _ _ _ (gr (pv 0) jP rfl)
  (@c6 _ _ _ _ _ (gr (pv 0) jP rfl)
  (@c6 _ _ _ _ _ (gr (pv 0) jP rfl)
  (@c6 _ _ _ _ _ (gr (pv 0) jP rfl)
  (yZ (gr (pv 0) jP rfl)))))))))),?_⟩
 refine⟨_,rfl,_,rfl,x,T.ay,a,_,rfl,u,g,d "ahead" (by decide),by show 0<1000;decide,?_⟩;refine⟨_,rfl,_,rfl,x,T.ay,a,_,rfl,aF,g,d "last" (by decide),by show 1<1000;decide,?_⟩;refine⟨_,rfl,_,rfl,x,T.ay,a,_,rfl,aF,g,d "factor_ahead" (by decide),by show 2<1000;decide,?_⟩;refine⟨rY (by simp),λj i=>?_⟩;have c:j≠x:=λe=>by rw[e,aF]at i;cases i
 refine⟨_,rfl,x,T.ay,a,_,rfl,Ds aF i,g,d "factor_last" (by decide),by show 3<1000;decide,?_⟩;refine⟨_,rfl,x,T.ay,a,_,rfl,aF,g,d "lead" (by decide),by show 4<1000;decide,?_⟩;refine⟨_,rfl,x,T.ay,a,_,rfl,aF,g,d "height" (by decide),by show 5<1000;decide,?_⟩;refine⟨_,rfl,x,T.ay,a,_,rfl,aF,g,d "sign" (by decide),by show 6<1000;decide,?_⟩;refine⟨_,rfl,x,T.ay,a,_,rfl,aF,g,d "scale" (by decide),by show 7<1000;decide,?_⟩;refine⟨_,rfl,x,T.ay,a,_,rfl,aF,g,d "known" (by decide),by show 8<1000;decide,?_⟩;rw[ak c,ak c,ak c]at i;refine q j _ (λb o f m=>?_) i ?_ aF
 .have l:b≠j:=aW m i;rw[ak f,ak f,ak f,ak f,ak f,ak f,ak l,ak f,ak f,ak f];exact m
 .rw[ak c,ak c,ak c,ak c,ak c,ak c,aF]
theorem Ka(T:Tx K mg):cH P w K mg base 2 (.ref T.ay) 3 (oj K 3 nV (uK T.ay)):=
 yH T.jz.ok ⟨T.jz.mks,T.dU.M.1,T.dU.M.fn,T.jz.kp⟩ T.dU.b (rF T)
theorem u5:cM ⟨["self","quotient","rest","scale","factor","drop","known"],(ai dD).names,[(0,nV)],["whole_divided","whole_minus","scaled","whole_times","raised","next_height"],[],["len"],[.s,.f,.f,.f,.s,.s],[]⟩ (fS [.s,.f,.f,.f,.s,.s]) (.io nV) dj (aT dD)=true:=by decide+kernel
theorem u6(T:Tx K mg):b9 P w K mg base (jB P w) 4 T.lS T.lT ["self"] (oj K 1 (.io nV) (lK T.ay)):=
 ou T.lU.F rq (tab_of (k:=3) (by exact⟨f7 (nX T) (by decide),f7 (rA T) (by decide),f7 (lV T) (by decide),f7 (rB T) (by decide),f7 (xA T) (by decide),f7 (rE T) (by decide),trivial⟩) (by exact⟨T.Z "len" (by decide),trivial⟩)) dj [(0,nV)] nV (lK T.ay) (by decide) (by decide) (by decide) (by decide) u5 (by walk_at "l") FY
theorem rG:cM ⟨["numbers","ahead","last","told","chain"],(ai gG).names,[(3,.f),(4,nV)],["whole_slope","Chain","step","scaled"],[],["list","len"],[.f,nV,(.io nV),.f],[(2,0)]⟩ (fS [.f,nV,(.io nV),.f]) .f g8 (aT gG)=true:=by decide+kernel
theorem rH(T:Tx K mg):Tab P w K mg base ["whole_slope","Chain","step","scaled"] [] ["list","len"] [.f,nV,(.io nV),.f] [(2,0)] (cg [fD,(uK T.ay),(lK T.ay),iK]) (nO [(.cls T.ay)]) 4:=by
 refine⟨λj x e h=>?_,λj g x e h=>?_,λj x e=>?_,?_,yD K,λj x C e h=>?_⟩
 .match j,e with
  |0,e=>cases e;exact f7 (rD T) (by decide)
  |1,e=>cases e;exact⟨_,_,2,T.jz.c,Ka T,by decide,by walk_at "l"⟩
  |2,e=>cases h
  |3,e=>cases e;exact f7 (lV T) (by decide)
  |_+4,e=>simp at e
 .simp only[GE,UF,lx,Prod.mk.injEq]at h;rcases h with⟨rfl,rfl⟩
  .cases e;exact T.lU.i7 (m:=(.io nV)) (u6 T) (by walk_at "l") (by decide) rfl
 .match j,e with
  |_+0,e=>simp at e
 .intro x h;simp only[GE,UF,lx]at h;rcases h with rfl|rfl
  .exact T.Z "list" (by decide)
  .exact T.Z "len" (by decide)
 .match j,e with
  |_+0,e=>simp at e
theorem rJ(T:Tx K mg):b9 P w K mg base (jB P w) 5 (T.f 16) (T.d 16) ["numbers"] (oj K 1 .f lN):=
 Fy (T.D (j:=16) rfl).F qG (rH T) g8 [(3,.f),(4,nV)] .f lN (by decide) (by decide) rfl rG (by walk_at "l") Cp
theorem m8(T:Tx K mg):Cl P w K mg base DD 6 17 .s mZ:=
 jE T.toTT rfl 1 [] [(16,.f,5),(13,.f,1),(14,.s,3)] yL ⟨(Bc T.toTT rfl rfl (rJ T) (by walk_at "l")),uZ T,nN T,trivial⟩ (by decide+kernel) (by walk_at "l")
theorem Cy(T:Tx K mg):Cl P w K mg base DD 2 18 .s qx:=
 jE T.toTT rfl 2 [] [(10,.s,1)] Cq ⟨rC T,trivial⟩ (by decide+kernel) (by walk_at "l")
theorem Cz(T:Tx K mg):Cl P w K mg base DD 3 19 .s qy:=
 jE T.toTT rfl 3 [] [(18,.s,2)] Cr ⟨Cy T,trivial⟩ (by decide+kernel) (by walk_at "l")
theorem xB(T:Tx K mg):Cl P w K mg base DD 4 20 .s ko:=
 jE T.toTT rfl 1 [] [(4,.s,3),(14,.s,3)] xh ⟨Cw T,nN T,trivial⟩ (by decide+kernel) (by walk_at "l")
theorem v_count(T:Tx K mg):Cl P w K mg base DD 7 21 .s eS:=
 jE T.toTT rfl 3 [] [(19,.s,3),(17,.s,6),(20,.s,4)] JS ⟨Cz T,m8 T,xB T,trivial⟩ (by decide+kernel) (by walk_at "l")
theorem Qo(T:Tx K mg):Cl P w K mg base DD 1 22 .f FQ:=
 qE T.toTT rfl 2 [] P8 (by decide+kernel) (by walk_at "l")
theorem Qp:cM ⟨["_law_well_here","_law_many","_law_found","_law_turn","_law_upper","_law_lower"],(ai yQ).names,[(0,.f)],[],[],["range","divmod"],[],[]⟩ (fS []) (.io .f) qu (aT yQ)=true:=by decide+kernel
theorem Gj(T:Tx K mg):b9 P w K mg base (jB P w) 1 (T.f 23) (T.d 23) ["_law_well_here","_law_many"] (oj K 2 (.io .f) jK):=
 ou (T.D (j:=23) rfl).F J9 (tab_of (k:=0) (Ss:=[]) (by exact trivial) (by exact⟨T.Z "range" (by decide),T.Z "divmod" (by decide),trivial⟩)) qu [(0,.f)] .f jK (by decide) (by decide) (by decide) (by decide) Qp (by walk_at "l") P9
theorem Be(T:Tx K mg):Cl P w K mg base DD 1 24 .s AO:=
 qE T.toTT rfl 2 [] JL (by decide+kernel) (by walk_at "l")
theorem xC(T:Tx K mg):Cl P w K mg base DD 2 25 .s uL:=
 jE T.toTT rfl 2 [] [(24,.s,1)] Ux ⟨Be T,trivial⟩ (by decide+kernel) (by walk_at "l")
theorem rK(T:Tx K mg):Cl P w K mg base DD 2 26 .f qz:=
 jE T.toTT rfl 1 [] [(24,.s,1)] JU ⟨Be T,trivial⟩ (by decide+kernel) (by walk_at "l")
theorem sS(T:Tx K mg):Cl P w K mg base DD 1 27 .f sQ:=
 qE T.toTT rfl 2 [(2,.f)] Qh (by decide+kernel) (by walk_at "l")
theorem Kc:cM ⟨["_law_well_here","_law_size","_law_most","_law_whole","_law_part"],(ai uW).names,[(0,.f),(3,.f),(4,.f)],["_law_draw","_law_product"],[],["range"],[(.io .f),.f],[]⟩ (fS [(.io .f),.f]) (.io .f) g9 (aT uW)=true:=by decide+kernel
theorem Kd(T:Tx K mg):b9 P w K mg base (jB P w) 2 (T.f 28) (T.d 28) ["_law_well_here"] (oj K 1 (.io .f) dw):=
 ou (T.D (j:=28) rfl).F Gh (tab_of (k:=1) (by exact⟨(T.D (j:=23) rfl).i7 (m:=(.io .f)) (Gj T) rfl (by walk_at "l") (by decide),f7 (sS T) (by decide),trivial⟩) (by exact⟨T.Z "range" (by decide),trivial⟩)) g9 [(0,.f),(3,.f),(4,.f)] .f dw (by decide) (by decide) (by decide) (by decide) Kc (by walk_at "l") Ct
theorem Ke(T:Tx K mg):Cl P w K mg base DD 1 29 .s d8:=
 qE T.toTT rfl 2 [] Cs (by decide+kernel) (by walk_at "l")
theorem Kf(T:Tx K mg):Cl P w K mg base DD 2 30 .f jo:=
 jE T.toTT rfl 2 [(2,.f),(5,.f)] [(27,.f,1)] JX ⟨sS T,trivial⟩ (by decide+kernel) (by walk_at "l")
theorem Qq(T:Tx K mg):Cl P w K mg base DD 3 31 .s gp:=
 jE T.toTT rfl 1 [(3,.f)] [(26,.f,2)] F9 ⟨rK T,trivial⟩ (by decide+kernel) (by walk_at "l")
theorem UX(T:Tx K mg):Cl P w K mg base DD 3 32 .f iV:=
 jE T.toTT rfl 3 [] [(25,.s,2)] JT ⟨xC T,trivial⟩ (by decide+kernel) (by walk_at "l")
theorem Kg:cM ⟨["_law_well_here","_law_whole","_law_row_here","_law_ends","_law_at","_law_bottom","_law_k","_law_parts","_law_far","_law_by","_law_moved_here","_law_back","_law_signs"],(ai uX).names,[(0,.f),(3,.f)],["_law_drawn","_law_row","_law_draw","_law_lowest","count","_law_moved","_law_bare","_law_value"],[],["int","range","min","sum","len"],[(.io .f),.f,(.io .f),.s,.s,.f,.s,.s],[]⟩ (fS [(.io .f),.f,(.io .f),.s,.s,.f,.s,.s]) (.io .f) ia (aT uX)=true:=by decide+kernel
theorem Kh(T:Tx K mg):b9 P w K mg base (jB P w) 8 (T.f 33) (T.d 33) ["_law_well_here"] (oj K 1 (.io .f) lO):=
 ou (T.D (j:=33) rfl).F Gi (tab_of (k:=7) (by exact⟨(T.D (j:=28) rfl).i7 (m:=(.io .f)) (Kd T) rfl (by walk_at "l") (by decide),f7 (UX T) (by decide),(T.D (j:=23) rfl).i7 (m:=(.io .f)) (Gj T) rfl (by walk_at "l") (by decide),f7 (xC T) (by decide),f7 (v_count T) (by decide),f7 (Kf T) (by decide),f7 (Qq T) (by decide),f7 (Ke T) (by decide),trivial⟩) (by exact⟨T.Z "int" (by decide),T.Z "range" (by decide),T.Z "min" (by decide),T.Z "sum" (by decide),T.Z "len" (by decide),trivial⟩)) ia [(0,.f),(3,.f)] .f lO (by decide) (by decide) (by decide) (by decide) Kg (by walk_at "l") Cu
theorem UY(T:Tx K mg):b9 P w K mg base (jB P w) 9 (T.f 34) (T.d 34) ["_law_script"] (oj K 1 .s PY):=
 UW (j:=34) (k:=8) (m:=.s) (Gs:=[]) T.toTT rfl 1 [] [(33,(.io .f),8),(22,.f,1)] [] J5 ⟨(Bc T.toTT rfl rfl (Kh T) (by walk_at "l")),Qo T,trivial⟩ trivial (by decide+kernel) (by walk_at "l")
end
theorem Ra{K:Frag}{x:Str}{st:Stmt}{f:Addr}{g m:Option Addr}{d:Array (Option Value)}{h kV i e b j:Value}(a:nsIn K mainGlobals x=some (some (.ref f)))(l:K.lookup f=some ⟨h,g,.func (fnOf x x (cj st) (aT st) (ai st) .none kV i e m b j),d⟩)(c:codeIn K b x=true)(k:keepIn K (.ref f)=true):Hd K x st:=⟨f,g,m,d,h,kV,i,e,b,j,a,l,c,k⟩
theorem Rb{K:Frag}{C:Addr}{x q:Str}{st:Stmt}{f:Addr}{g n:Option Addr}{d:Array (Option Value)}{h kV j e b m:Value}(a:findIn K (.ref C) x=some (some (.ref f)))(i:isFn K (.ref f)=true)(l:K.lookup f=some ⟨h,g,.func (fnOf x q (cj st) (aT st) (ai st) .none kV j e n b m),d⟩)(c:codeIn K b q=true)(k:keepIn K (.ref f)=true):Hm K C x q st:=⟨f,g,n,d,h,kV,j,e,b,m,a,i,l,c,k⟩
theorem Rc{x q:Str}{st:Stmt}{i:Str}(h:∀(kV a d:Value)(g:Option Addr)(b f c:Value),bindArgs (fnOf x q (cj st) (aT st) (ai st) .none kV a d g b f) ⟨[c],[]⟩=pure ([i].zip [c])):iJ x q st [i]:=λkV a d g b f k j=>by obtain⟨c,l,rfl,e⟩:=qT j;cases KM.mp e;exact h kV a d g b f c
theorem Vw{x q:Str}{st:Stmt}{l k:Str}(h:∀(kV a e:Value)(j:Option Addr)(b i d c:Value),bindArgs (fnOf x q (cj st) (aT st) (ai st) .none kV a e j b i) ⟨[d,c],[]⟩=pure ([l,k].zip [d,c])):iJ x q st [l,k]:=λkV a e j b i n m=>by obtain⟨d,p,rfl,g⟩:=qT m;obtain⟨c,o,rfl,f⟩:=qT g;cases KM.mp f;exact h kV a e j b i d c
theorem Vx{x q:Str}{st:Stmt}{m l p2:Str}(h:∀(kV a e:Value)(k:Option Addr)(b j d c a2:Value),bindArgs (fnOf x q (cj st) (aT st) (ai st) .none kV a e k b j) ⟨[d,c,a2],[]⟩=pure ([m,l,p2].zip [d,c,a2])):iJ x q st [m,l,p2]:=λkV a e k b j p o=>by obtain⟨d,s,rfl,i⟩:=qT o;obtain⟨c,r,rfl,g⟩:=qT i;obtain⟨a2,n,rfl,f⟩:=qT g;cases KM.mp f;exact h kV a e k b j d c a2
theorem Rf{x q:Str}{st:Stmt}{o n p2 m:Str}(h:∀(kV a e:Value)(l:Option Addr)(b k d c a2 a3:Value),bindArgs (fnOf x q (cj st) (aT st) (ai st) .none kV a e l b k) ⟨[d,c,a2,a3],[]⟩=pure ([o,n,p2,m].zip [d,c,a2,a3])):iJ x q st [o,n,p2,m]:=λkV a e l b k t s=>by obtain⟨d,v,rfl,j⟩:=qT s;obtain⟨c,u,rfl,i⟩:=qT j;obtain⟨a2,r,rfl,g⟩:=qT i;obtain⟨a3,p,rfl,f⟩:=qT g;cases KM.mp f;exact h kV a e l b k d c a2 a3
theorem all_mk{l:PySem.W.OpenLaw}{w:World}{K:Frag}{h:Heap}{b:Str->Option Value}{y:Addr}(X:K.In h)(G:h.Ns mainGlobals b)(c:b "law"=some (.ref y))
 {a:Addr}(Gk:nsIn K mainGlobals "Chain"=some (some (.ref a)))(Z:plainGet K a Str.empty=true)(Y:hasDictIn K a=true)(U:plainOver K a=true)(S:findIn K (.ref a) "__setattr__"=some (some (.builtin "object.__setattr__")))(R:makesIn K a=true)(Q:keepIn K (.ref a)=true)
 (H:findIn K (.ref a) "ahead"=some none)
 (C:findIn K (.ref a) "last"=some none)
 (J:findIn K (.ref a) "factor_ahead"=some none)
 (L:findIn K (.ref a) "factor_last"=some none)
 (B:findIn K (.ref a) "lead"=some none)
 (I:findIn K (.ref a) "height"=some none)
 (A:findIn K (.ref a) "sign"=some none)
 (F:findIn K (.ref a) "scale"=some none)
 (E:findIn K (.ref a) "known"=some none)
 (o:Hm K a "__init__" "Chain.__init__" gF)
 (n:Hm K a "step" "Chain.step" dD)
 (M:J7 K top DD)(z:J8 K ZZ)
 {O:Tok}(N:nsIn K mainGlobals "LONG"=some (some (.int 6000 O)))
 :∃u:FuncData,(∀(s:Shared)(v:Value),BindsTo s u ⟨[v],[]⟩ [("_law_script",v)])/\∀base:Heap,K.In base->base.Ns mainGlobals b->b9 l.prog w K b base Sb 9 y u ["_law_script"] (AM K):=by
 obtain⟨p⟩:=US X G M z;have P:yi K a ["ahead","last","factor_ahead","factor_last","lead","height","sign","scale","known"]:=⟨⟨Z,Y,U,S⟩,by decide,by decide+kernel,λx t=>by
  simp only[GE,UF,lx]at t;rcases t with rfl|rfl|rfl|rfl|rfl|rfl|rfl|rfl|rfl
  .exact H
  .exact C
  .exact J
  .exact L
  .exact B
  .exact I
  .exact A
  .exact F
  .exact E⟩
 obtain⟨g,k,r⟩:=LJ (ps:=["self","one","other","factor"]) o (Rf λ_ _ _ _ _ _ _ _ _ _=>rfl);obtain⟨f,i,q⟩:=LJ (ps:=["self"]) n (Rc λ_ _ _ _ _ _ _=>rfl);have D:=p.D (j:=34) rfl;have e:=c.symm.trans D.m;cases e
 let T:Tx K b:=⟨p,a,⟨mg_of X G Gk,P,R,Q⟩,g,k,r,f,i,q,⟨_,mg_of X G N,_,rfl⟩⟩
 exact⟨p.d 34,λs v=>D.bt s [v] rfl,λbase _ _=>PZ (UY T)⟩
end KR
namespace PySem.W.Fast
noncomputable def tw7726200957105971496:=0
noncomputable def tw8180997750524365409:=0
noncomputable def tw18015232183569292477:=0
noncomputable def tw15101511453782696592:=0
noncomputable def tw8931518280438645075:=0
noncomputable def tw17748604162432145692:=0
noncomputable def tw6534901380536365418:=0
noncomputable def tw15849821418546242036:=0
noncomputable def tw11727247999860817111:=0
noncomputable def tw12728156118305632332:=0
noncomputable def tw1195863368959463264:=0
noncomputable def tw18252342691115858576:=0
noncomputable def tw7501866233946007067:=0
noncomputable def tw15122450943121806887:=0
noncomputable def tw14082173876424018808:=0
noncomputable def tw11928793675299295468:=0
noncomputable def tw2778805132298161781:=0
noncomputable def tw5274490122921917700:=0
noncomputable def tw8292651794924319923:=0
noncomputable def tw12519044026418082621:=0
noncomputable def tw18222067813242961431:=0
noncomputable def tw1243378204761010481:=0
noncomputable def tw8743976267497631396:=0
noncomputable def tw11697933970420861942:=0
noncomputable def tw12696735775117308919:=0
noncomputable def tw1242268885141751405:=0
noncomputable def tw2138365679587559884:=0
noncomputable def tw9882983454351934120:=0
noncomputable def tw9025117932720983935:=0
noncomputable def tw14739945754917921399:=0
noncomputable def tw3670714294844212318:=0
noncomputable def tw632782501577591861:=0
noncomputable def tw14738372936567756412:=0
noncomputable def tw10499382495393750732:=0
noncomputable def tw2687680772889549977:=0
noncomputable def tw10610405938542456495:=0
noncomputable def tw17627998556302588221:=0
noncomputable def tw411753237816663785:=0
noncomputable def tw17623616679899241534:=0
noncomputable def tw12829228337979467249:=0
noncomputable def tw10226595177628673505:=0
noncomputable def tw11382690007745549788:=0
noncomputable def tw2569127021581027636:=0
noncomputable def tw8103136867526419370:=0
noncomputable def tw1502022363807828817:=0
noncomputable def tw189372437108297768:=0
noncomputable def tw3957132963361072660:=0
noncomputable def tw14833183568985012944:=0
noncomputable def tw17860908982328721186:=0
noncomputable def tw3721834078488685292:=0
noncomputable def tw3417896640642998679:=0
noncomputable def tw11396920071328801523:=0
noncomputable def tw11276687532696001554:=0
noncomputable def tw13015704765889944348:=0
noncomputable def tw18270170738095666918:=0
noncomputable def tw8421458843274144800:=0
noncomputable def tw11354057251179178179:=0
noncomputable def tw5461288945876787891:=0
noncomputable def tw3022104380330069911:=0
noncomputable def tw12210657938419655864:=0
noncomputable def tw9759427595385016736:=0
noncomputable def tw3259310676759320182:=0
noncomputable def tw3056857915170643844:=0
noncomputable def tw9097665115196776396:=0
noncomputable def tw6708933745779009267:=0
noncomputable def tw2961575372467273550:=0
noncomputable def tw10974407908742998062:=0
noncomputable def tw10420094897930639077:=0
noncomputable def tw15315185354275265371:=0
noncomputable def tw10664010897414353704:=0
noncomputable def tw4853372313343582680:=0
noncomputable def tw3331703130093895614:=0
noncomputable def tw4766114877574250954:=0
noncomputable def tw1000377968302190037:=0
noncomputable def tw13091060983782155847:=0
noncomputable def tw613388006642233762:=0
noncomputable def tw7787933084966636807:=0
noncomputable def tw9430323118524335582:=0
noncomputable def tw3109523111132270261:=0
noncomputable def tw8623437904761546612:=0
noncomputable def tw15667934993202022413:=0
noncomputable def tw15989529716556716306:=0
noncomputable def tw8322778072926471624:=0
noncomputable def tw15364252752547575665:=0
noncomputable def tw10675369842755826927:=0
noncomputable def tw3128449656217447989:=0
noncomputable def tw2513255553915682173:=0
noncomputable def tw3972425416410399826:=0
noncomputable def tw11230734355940998697:=0
noncomputable def tw6005538091954594582:=0
noncomputable def tw12606845821574687735:=0
noncomputable def tw11678417813690142546:=0
noncomputable def tw6886296150132980741:=0
noncomputable def tw3899385970031617597:=0
noncomputable def tw8507514514427752372:=0
noncomputable def tw9351341432955327148:=0
noncomputable def tw18118045740854862557:=0
noncomputable def tw17153880272890688053:=0
noncomputable def tw11303530863437232784:=0
noncomputable def tw9791821214774701969:=0
noncomputable def tw8287057980159159516:=0
noncomputable def tw5970720754367863441:=0
noncomputable def tw13103873722938488627:=0
noncomputable def tw12859958466622801111:=0
noncomputable def tw10441723547970441865:=0
noncomputable def tw16818903976518084915:=0
noncomputable def tw7096118847528564678:=0
noncomputable def tw962196307579488730:=0
noncomputable def tw10450266351748406577:=0
noncomputable def tw14790991364823875065:=0
noncomputable def tw11244736940137459821:=0
noncomputable def tw4828662424488043712:=0
noncomputable def tw17263189095876152702:=0
noncomputable def tw1190545766501728524:=0
noncomputable def tw12436597840846010470:=0
noncomputable def tw5301362101070021166:=0
noncomputable def tw1844586450524254676:=0
noncomputable def tw10459027812333457580:=0
noncomputable def tw13612553484402923959:=0
noncomputable def tw9541668369524078952:=0
noncomputable def tw82748494704635851:=0
noncomputable def tw1679443194874778677:=0
noncomputable def tw12675849974345791085:=0
noncomputable def tw12382131191110047822:=0
noncomputable def tw11962215412054560087:=0
noncomputable def tw14216862585385609535:=0
noncomputable def tw12666329812630733227:=0
noncomputable def tw10228703146522429996:=0
noncomputable def tw12488229617572018984:=0
noncomputable def tw4618349896653247410:=0
noncomputable def tw3648687003568713784:=0
noncomputable def tw1859054871371118380:=0
noncomputable def tw12693885522093558347:=0
noncomputable def tw18280978677574746700:=0
noncomputable def tw1383843746958609598:=0
noncomputable def tw6495525280832633499:=0
noncomputable def tw11819360390342781006:=0
noncomputable def tw3060978763556408724:=0
noncomputable def tw15932546863459463710:=0
noncomputable def tw17797658344451627945:=0
noncomputable def tw7033163148616725298:=0
noncomputable def tw2734337253964480389:=0
noncomputable def tw8488547845946610126:=0
noncomputable def tw6429720638081725986:=0
noncomputable def tw1682546983880950807:=0
noncomputable def tw16619263465295636152:=0
noncomputable def tw5434089645406185667:=0
noncomputable def tw9668787340301596190:=0
noncomputable def tw18157625110030977381:=0
noncomputable def tw14439131251880649115:=0
noncomputable def tw12908171134614311309:=0
noncomputable def tw12324752091080285589:=0
noncomputable def tw15236325145669392635:=0
noncomputable def tw11336251079438099393:=0
noncomputable def tw17984677408746608859:=0
noncomputable def tw17817191204918692953:=0
noncomputable def tw10704650557672285119:=0
noncomputable def tw17155342282111254521:=0
noncomputable def tw7862422355977910884:=0
noncomputable def tw5366605809012711261:=0
noncomputable def tw3118414602798532096:=0
noncomputable def tw9297205174910114946:=0
noncomputable def tw7504980340338985429:=0
noncomputable def tw12062799329464226861:=0
noncomputable def tw9119523050302705595:=0
noncomputable def tw4967412985150992309:=0
noncomputable def tw3504969225271432106:=0
noncomputable def tw3222214230842312764:=0
noncomputable def tw2384857495455090821:=0
noncomputable def tw2147531591495253048:=0
noncomputable def tw19400206073629421:=0
noncomputable def tw1852796174298932513:=0
noncomputable def tw18346396528394629157:=0
noncomputable def tw17696913148688539858:=0
noncomputable def tw16941929361426220234:=0
noncomputable def tw16841010061070581351:=0
noncomputable def tw16839575045005813909:=0
noncomputable def tw16335745472988376600:=0
noncomputable def tw15942696459072082636:=0
noncomputable def tw15503934667121302837:=0
noncomputable def tw15208745535384608119:=0
noncomputable def tw15143123373288350382:=0
noncomputable def tw14583414105442900879:=0
noncomputable def tw14485208685477139740:=0
noncomputable def tw13657017360962321829:=0
noncomputable def tw13574907621416465785:=0
noncomputable def tw13158168385950187000:=0
noncomputable def tw11543199770090944323:=0
noncomputable def tw11212919309380611286:=0
noncomputable def tw11177553050618593208:=0
noncomputable def tw11047343722628981994:=0
noncomputable def tw1098081382225158098:=0
noncomputable def tw10488662697181780541:=0
noncomputable def tw10281636618241823047:=0
noncomputable def tw13545912168642701359:=0
noncomputable def tw2521925664542993996:=0
noncomputable def tw7679479442063139864:=0
noncomputable def tw3960481074281346732:=0
noncomputable def tw14624425988370280930:=0
noncomputable def tw14405408766315589638:=0
noncomputable def tw14134397876395681602:=0
noncomputable def tw9751715078793768683:=0
noncomputable def tw6270714117487129350:=0
noncomputable def tw2628193365871245252:=0
noncomputable def tw12235048342018453955:=0
noncomputable def tw9986223289320616077:=0
end PySem.W.Fast
open PySem PySem.W PyProof.Rows
set_option maxRecDepth 100000 in
set_option maxHeartbeats 0 in
theorem PySem.Challenge.cw_paperwright_k43_whole_counts_add_up_holds : PySem.Challenge.rw_paperwright_k43_whole_counts_add_up.Holds := by
 w_on;o_law;k_head;(case hw=>w_witness2)
 k_fill
 refine VL.walk (l:=PySem.Challenge.rw_paperwright_k43_whole_counts_add_up) (k:=9) rfl rfl ⟨rfl,by decide,by decide⟩ (by decide+kernel) rfl (fun w h Y=>PySem.W.kIn_of Y) ?F
 case F=>
  intro w mg fa h KX G hmg
  refine' KR.all_mk KX G hmg ?yy0 ?yy1 ?yy2 ?yy3 ?yy4 ?yy5 ?yy6 ?yy7 ?yy8 ?yy9 ?XA ?XC ?XD ?XE ?XF ?XG ?XH ?XI ?XJ ?XM ?XN
  (case yy0|yy1|yy2|yy3|yy4|yy5|yy6|yy7|yy8|yy9|XA|XC|XD|XE|XF|XG=>k_is)
  (case XH|XI=>walk_at "hm")
  (case XJ=>(iterate 35 walk_at "ah");exact trivial)
  (case XM=>(iterate 11 walk_at "az");exact trivial)
  (case XN=>k_is)
