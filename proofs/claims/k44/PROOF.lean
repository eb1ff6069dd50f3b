import PyProof.Rows.All
import Wide.All
import OpenK.AllK
import Wide.FinOn
import Lean
import PyProof.EqAt
import PyProof.EqKinds
import PyProof.TupleCall
import PySem.Challenge.RW_paperwright_k44_stretches_told
set_option Elab.async false
set_option linter.all false
set_option maxRecDepth 100000
set_option maxHeartbeats 4000000
set_option hygiene false in
local macro_rules | `(tactic| walk_at "lo") => `(tactic| first | exact False.elim h | (obtain ⟨rfl, _⟩ := h; rfl) | (obtain ⟨_, h⟩ := h; walk_at "lo"))
set_option hygiene false in
local macro_rules | `(tactic| walk_at "l") => `(tactic| (intro _ _ _ h; walk_at "lo"))
set_option hygiene false in
local macro_rules | `(tactic| fin2) => `(tactic| first | dsimp only [↓Uk, Ul, wSs, wS, wE, wA, C3, Tw, wP, Jo, AY, Ju, di, setAt, List.getElem?_cons_zero, List.getElem?_cons_succ, look, List.set, cG, nF, cH, ao, List.map_cons, List.map_nil, List.nil_append, List.cons_append, x_len, EC, ED, MF, MG, MH, EF, AZ, MI, MJ, MK, ML, MM, EG, MN, MO, Um, Uo, x_lt, Up, Uq, Ur, ve, Us, MP, MQ, MR, Ut, MS, MT, MU, MV, A4, xG, Uu, MW, MX, Uv, EH, A5, fall, List.replicate, if_true, Bool.not_true, Bool.not_false] | simp only [List.getElem?_cons_zero, List.getElem?_cons_succ, List.map_cons, List.map_nil, List.nil_append, List.cons_append, x_len, EC, ED, MF, MG, MH, EF, AZ, MI, MJ, MK, ML, MM, EG, MN, MO, Um, Uo, x_lt, Up, Uq, Ur, ve, Us, MP, MQ, MR, Ut, MS, MT, MU, MV, A4, xG, Uu, MW, MX, Uv, EH, A5, fall, List.replicate, if_true, Bool.not_true, Bool.not_false] | skip)
set_option hygiene false in
local macro_rules | `(tactic| walk_at "hd") => `(tactic| (refine' MY.Uw ?ka ?kl ?kc ?kk; (case ka => k_is); (case kl => k_is); (case kc => k_is); (case kk => k_is)))
set_option hygiene false in
local macro_rules | `(tactic| walk_at "hm") => `(tactic| (refine' MY.Ux ?ka ?ki ?kl ?kc ?kk; (case ka => k_is); (case ki => k_is); (case kl => k_is); (case kc => k_is); (case kk => k_is)))
set_option hygiene false in
local macro_rules | `(tactic| walk_at "bn") => `(tactic| first | exact MY.Uy fun _ _ _ _ _ _ _ => rfl | exact MY.X5 fun _ _ _ _ _ _ _ _ => rfl | exact MY.X6 fun _ _ _ _ _ _ _ _ _ => rfl | exact MY.Uz fun _ _ _ _ _ _ _ _ _ _ => rfl)
set_option hygiene false in
local macro_rules | `(tactic| walk_at "ah") => `(tactic| (refine' And.intro (And.intro ?h1 ?h2) ?_; (case h1 => walk_at "hd"); (case h2 => walk_at "bn")))
set_option hygiene false in
local macro_rules | `(tactic| walk_at "az") => `(tactic| (refine' And.intro ?h1 ?_; (case h1 => k_is)))
open List renaming getD_eq_getElem?_getD->AC,length_map->Ap,getElem?_eq_getElem->B1,mem_cons_of_mem->DL,getElem?_map->Da,mem_singleton->Do,mem_cons_self->Dx,getElem?_eq_none->FC,mem_cons->Fh,size_toArray->Fk,getElem?_eq_some_iff->Fn,length_append->GM,mem_append->Ha,mem_map->Hb,length_pos_iff->He,isEmpty_iff->Hn,mem_append_right->IH,getLast?_eq_getElem?->IR,getElem?_append_right->Jn,all_eq_true->KB,length_eq_zero_iff->KE,map_cons->N0,getElem?_set_ne->Oy,getElem?_append_left->PP,mem_of_getElem?->PQ,append_assoc->Pm,map_map->SL,getElem_of_mem->Sr,mem_filter->T1,getElem_mem->T2,getElem?_set_self->Tb,length_set->U2,mem_append_left->X2,append_nil->X9,length_range->Ya,reverse_cons->cn,map_congr_left->cq,getElem?_range->cw,nodup_cons->cx,drop_eq_getElem_cons->d4,length_take->dA,mem_range->du,length_reverse->eM,getLast?_map->ij,getLast?_cons_cons->js,map_append->l4,ext_getElem?->lj,map_set->ma,map_eq_nil_iff->ml,getElem?_take_of_lt->mm,getElem?_replicate->oC,not_mem_nil->pb,drop_length->pd,mem_of_mem_take->rk,getLast?_concat->rn,dropLast_concat_getLast->so,nodup_nil->ub,take_of_length_le->xc,length_eq_one_iff->xf,length_cons->A3,replicate->A6,range->Bn,nil_append->EY,lookup_cons->Eu,cons_append->G2,all_cons->Gu,replicate_succ->I0,zip_cons_cons->J9,flatten_cons->JQ,lookup->L0,filterMap_cons->L1,length_nil->M5,mem_filterMap->Oq,map_replicate->PY,take_sublist->R1,nodup_append->Rn,map_nil->S0,getElem?_set->S8,any_eq_false->SA,length_drop->Vh,any_eq_true->W4,of_mem_zip->XG,map_const'->XJ,drop_zero->Y0,reverse_singleton->Yy,range_succ_eq_map->ZD,singleton_append->ZN,length_singleton->ZO,getElem?_zipWith->ZP,dropLast_eq_take->ZX,reverse_append->ax,dropWhile_cons->b5,set_cons_succ->bf,map_inj_right->bg,getElem_range->c8,getElem?_drop->c9,foldl->cP,contains_cons->cR,map_take->e6,length->el,set->hY
open Bool renaming and_eq_true->AN,false_ne_true->OK,and_eq_true_iff->P3,or_false->cb,and_false->eD,not_eq_true->kS,eq_iff_iff->n4,not_eq_true'->ox,or_eq_true->sv,false_eq_true->Pv,or_eq_false_iff->Zk,true_and->eC,and_true->eF
open Nat renaming le_trans->Bz,le_refl->D2,mul_le_mul_left->Ee,pow_le_pow_right->FM,lt_of_lt_of_le->FS,lt_of_le_of_lt->GE,add_sub_cancel->HI,zero_le->Iy,mul_le_mul->Kx,pow_add->On,mul_le_mul_right->Os,lt_succ_self->Pl,ne_of_lt->Qr,le_of_lt->SC,pow_pos->SF,lt_irrefl->SU,pow_lt_pow_right->TB,mul_comm->Ta,le_mul_of_pos_right->Wp,le_add_right->XB,pow_le_pow_left->Y1,add_sub_cancel_left->bj,lt_succ_of_lt->eJ,le_of_not_lt->gL,one_le_two_pow->h7,eq_zero_or_pos->i3,zero_add->i5,mul_assoc->ik,pow_mul->ke,le_of_eq->km,add_comm->mM,lt_of_le_of_ne->nr,sub_self->oT,sub_le_sub_right->rf,le_zero->rg,add_le_add_right->rh,le_add_left->sk,succ_mul->tf,add_right_comm->tq,add_le_add->u3,sub_pos_of_lt->vT,lt_succ_of_le->va,le_succ_of_le->vi,le_succ->vk,add_mul->vw,add_assoc->wb,sub_le->xI,sub_add_sub_cancel->xa,le_mul_of_pos_left->xb,mul_add->xn,pow_succ->GS,sub_zero->M1,pow_zero->UB,ne_of_gt->Uh,mul_succ->Uj,le_of_lt_succ->V3,succ_le_succ->WG,lt_of_not_le->WO,le_max_right->WX,one_mul->X1,mul_one->X8,log2_lt->XC,le_max_left->XS,mul_lt_mul_of_pos_right->Xz,eq_of_mul_eq_mul_left->YP,succ_pred_eq_of_pos->Yc,exists_eq_add_of_le->Yn,zero_mul->ZG,succ_pos->ZL,mul_zero->ZM,sub_sub->a6,sub_lt_sub_right->a7,one_pos->a8,Coprime->ae,add_lt_add_left->bb,lt_trichotomy->d3,min_eq_left->dq,le_antisymm->dr,le_of_dvd->ee,lt_or_ge->ei,le_total->ek,two_mul->fg,mul_pos->fh,sub_lt->gm
open Int renaming natAbs_mul->FK,mul_ne_zero->Hk,fdiv_eq_ediv_of_nonneg->Kb,pow_succ->Pt,mul_zero->Q1,eq_of_mul_eq_mul_left->QR,gcd_dvd_right->RF,pow_zero->UV,le_of_lt->W1,natAbs_ediv_le_natAbs->Xt,mul_assoc->a9,mul_comm->ar,natAbs_dvd_natAbs->d5,zero_mul->dt,mul_one->fI,le_of_dvd->fe,gcd_dvd_left->gN,mul_le_mul_of_nonneg_right->kA,mul_le_mul_of_nonneg_left->kf,add_zero->ky,gcd_comm->me,mul_fdiv_cancel_left->mn,mul_ediv_cancel_left->my,pow_add->oI,fdiv_eq_ediv_of_dvd->oP,zero_add->oa,lt_or_le->oo,one_mul->rp,mul_pos->sT,ediv_mul_cancel->tI,gcd_pos_of_ne_zero_left->tj,lt_or_gt_of_ne->ui,emod_lt_of_pos->uj,ediv_pos_of_pos_of_dvd->uk,mul_add->w8,dvd_mul_of_dvd_right->wt,emod_eq_zero_of_dvd->wx,dvd_of_emod_eq_zero->wy,sub_zero->xi,mul_ediv_cancel'->xt,gcd->A2,natAbs_natCast->C2,toNat_natCast->Io,natAbs->M6,gcd_zero_right->Qf,natAbs_add_le->VD,dvd_refl->VO,ediv_le_self->Ww,emod_nonneg->XZ,ediv_nonneg->Xo,fmod_eq_emod_of_nonneg->YI,dvd_trans->YS,dvd_zero->ZY,pow_one->b6,mul_dvd_mul_left->b8,dvd_sub->bM,toNat_of_nonneg->cZ,natCast_nonneg->cc,lt_or_eq_of_le->cg,natAbs_sub_le->d9,mul_left_comm->dB,gcd_mul_left->dV,natCast_pow->dy,natAbs_pow->e7,fdiv->e9,dvd_natAbs->eB,ediv_self->ef,zero_sub->eu,add_comm->ew,one_pow->fi,one_dvd->fq,neg_gcd->ft,gcd_neg->fu,dvd_gcd->fw,dvd_add->g4
open PySem.Heap renaming get?_push_of_some->FR,lt_size->Fu,get?_push_size->PH
open Rat renaming intCast_mul->Fm,mul_le_mul_of_nonneg_left->GT,intCast_eq_zero_iff->Gc,mul_pos->KM,mul_eq_zero->L9,le_of_lt->Mo,inv_mul_cancel->Nw,num_divInt_den->QP,natCast_mul->QQ,mul_zero->Qb,natCast_nonneg->Re,mul_inv_cancel->SB,le_of_mul_le_mul_left->TC,intCast_le_intCast->TK,divInt_eq_divInt_iff->Yf,pow_succ->ag,inv_pos->aw,natCast_le_natCast->cm,mul_le_mul_of_nonneg_right->d6,zero_mul->dC,le_trans->dE,pow_zero->eP,one_mul->eQ,mul_assoc->ej,intCast_add->i4,mul_one->kb,natCast_pos->kz,divInt_eq_div->lh,le_refl->lx,intCast_pos->si,zero_add->tJ,add_zero->x5,intCast_inj->xk,divInt->C0,intCast_neg->N3,intCast_neg_iff->OX,mul_comm->Tz,num_eq_zero->XO,mul_pos_iff_of_pos_right->XR,divInt_mul_divInt->Zf,add_mul->Zy,intCast_sub->dc,inv_def->fb
open Classical renaming byContradiction->Fs,propDecidable->i2,not_not->ib,choose_spec->ic,choose->il
open Option.some renaming inj->Kk
open PySem renaming wpAny_bind->Kt,mem_of_lookup->SZ,wpAny_pure->UF,wpAny_Call_Name_kw->eI,wpAny_truthy_bool->ey,wpAny_mono->fo,wpAny_passesOwn->mI,wpAny_execs_nil->oy,codeAny_mono->wa
open Option renaming map_eq_some_iff->OF,isSome_iff_exists->dk,getD_some->JX,map_some->Km,getD_none->ba,none->e5
open PySem.W renaming kia_one->Ts,mg_of->de,callWith_K->gd,looks_findIn->pj,looks_mroIn->t5
open Ne renaming symm->Y2
open PyProof.Rows renaming callWith_type1->bo,callWith_builtin1->fc
open Std.Associative renaming assoc->xl
open False renaming elim->G1
open ForInStep renaming yield->K0
open True renaming intro->M0
open Or renaming inr->NM,inl->Ng
open Array renaming length_toList->O5,append_assoc->bX,toList->ed
open Sum renaming inr->SO,inl->Sz
open Std.Commutative renaming comm->TR
open Nat.succ renaming inj->Xr
open PyProof renaming noPylong_small->Y4
open List.cons renaming injEq->Zg
open List.Pairwise renaming nil->ep
open Iff renaming rfl->f6
open Nat.Coprime renaming symm->hH,mul_left->hJ,dvd_of_dvd_mul_right->hO,dvd_of_dvd_mul_left->hQ,coprime_dvd_right->hX
open And renaming right->i0,left->ip
open Decidable renaming not_not->i1
def BM:=@if_neg
def Bi:=@if_pos
def D1:=@of_decide_eq_true
def FV:=@decide_eq_true
def Ki:=@decide_eq_false
def Kj:=@decide_eq_true_eq
def NA:=@beq_iff_eq
def Pi:=@congrArg
def iq:=@beq_self_eq_true
def mf:=@beq_eq_false_iff_ne
def tm:=@of_decide_eq_false
open PySem.W(instObj methodObj hideAll_get Frag lookIn plainGet hasDictIn findIn plainGet_of isFn plainOver takerIn makesIn emptyDict keepIn mroIn kitOne fnOf codeIn excIn nsIn)
noncomputable section
set_option bootstrap.genMatcherCode false
namespace L2
open PySem PySem.Spec PyProof.Rows
abbrev Key:=Sum Int Str
noncomputable def MZ:Key->Value->Bool
 |.inl k,v=>Value.isInt k v
 |.inr x,v=>Value.isStrOf x v
def X7(w:World):Key->Int
 |.inl k=>hashInt k
 |.inr x=>hashStr w x
theorem b7:∀{k:Key}{v:Value},MZ k v=true->(∃i t,k=Sz i/\v=Value.int i t)\/(∃x t,k=SO x/\v=Value.str x t)
 |.inl i,v,h=>by obtain⟨t,e⟩:=Value.isInt_shape (k:=i) (v:=v) h;exact .inl ⟨i,t,rfl,e⟩
 |.inr x,v,h=>by obtain⟨t,e⟩:=Value.isStrOf_shape (x:=x) (v:=v) h;exact .inr ⟨x,t,rfl,e⟩
theorem Oi(a b:Int):decide ((Sz a:Key)=Sz b)=(a==b):=by
 by_cases e:a=b
 .subst e;simp
 .have h:¬(Sz a:Key)=Sz b:=λq=>e (Sum.inl.inj q);rw[Ki h];exact(mf.mpr e).symm
theorem Oj(a b:Str):decide ((SO a:Key)=SO b)=decide (a=b):=by
 by_cases e:a=b
 .subst e;simp
 .have h:¬(SO a:Key)=SO b:=λq=>e (Sum.inr.inj q);rw[Ki h,Ki e]
theorem Ol(a:Int)(b:Str):decide ((Sz a:Key)=SO b)=false:=Ki (λq=>nomatch q)
theorem Om(a:Str)(b:Int):decide ((SO a:Key)=Sz b)=false:=Ki (λq=>nomatch q)
noncomputable def A9(prog:Program)(w:World):PySem.KeyKind prog w Key where
 is:=MZ
 hash:=X7 w
 inj:=λv a b g d=>by
  rcases b7 g with⟨i,t,rfl,rfl⟩|⟨x,t,rfl,rfl⟩
  .rcases b7 d with⟨j,u,rfl,e⟩|⟨y,u,rfl,e⟩
   .injection e with e1 _;rw[e1]
   .exact nomatch e
  .rcases b7 d with⟨j,u,rfl,e⟩|⟨y,u,rfl,e⟩
   .exact nomatch e
   .injection e with e1 _;rw[e1]
 byValue:=λk v h=>by rcases b7 h with⟨i,t,rfl,rfl⟩|⟨x,t,rfl,rfl⟩<;>rfl
 pyHash:=λc h=>by
  rcases b7 c with⟨i,t,rfl,rfl⟩|⟨x,t,rfl,rfl⟩
  .exact wpAny_pyHash_int h
  .exact wpAny_pyHash_str h
 eqBool:=λf c h=>by
  rcases b7 f with⟨i,t,rfl,rfl⟩|⟨x,t,rfl,rfl⟩
  .rcases b7 c with⟨j,u,rfl,rfl⟩|⟨y,u,rfl,rfl⟩
   .rw[Oi]at h;exact wpAny_eqBool_int h
   .rw[Ol]at h;exact SeqAt.EqAt.int_str i t y u _ _ _ _ h
  .rcases b7 c with⟨j,u,rfl,rfl⟩|⟨y,u,rfl,rfl⟩
   .rw[Om]at h;exact SeqAt.EqAt.str_int x t j u _ _ _ _ h
   .rw[Oj]at h;exact wpAny_eqBool_str h
 «strs»:=λk x t v h=>by
  rcases b7 h with⟨i,u,rfl,e⟩|⟨y,u,rfl,e⟩
  .exact nomatch e
  .injection e with e1 _;subst e1;cases v<;>rfl
inductive V where
 |bu|bl (b:Bool)|int (i:Int)|str (x:Str)|Et (b:Array UInt8)|Oo (b:UInt64)|ref (a:Addr)|ty (n:String)
 deriving DecidableEq
noncomputable def RelV:V->Value->Prop
 |.bu,u=>u=Value.none
 |.bl b,u=>u=Value.bool b
 |.int i,u=>∃t,u=Value.int i t
 |.str x,u=>∃t,u=Value.str x t
 |.Et b,u=>∃t,u=Value.bytes b t
 |.Oo b,u=>∃t,u=Value.float b t
 |.ref a,u=>u=Value.ref a
 |.ty n,u=>u=Value.type n
abbrev Vals:List V->List Value->Prop:=Paired RelV
theorem Vals.length{a:List V}{us:List Value}(r:Vals a us):a.length=us.length:=Paired.length r
theorem Vals.get:∀{a:List V}{us:List Value}{i:Nat}{x:V},Vals a us->a[i]?=some x->∃u,us[i]?=some u/\RelV x u
 |_,_,_,_,.nil,e=>by simp at e
 |_,_,0,_,.cons r _,e=>by simp at e;subst e;exact⟨_,rfl,r⟩
 |_,_,i+1,x,.cons _ t,e=>by obtain⟨u,c,b⟩:=Vals.get (i:=i) (x:=x) t (by simpa using e);exact⟨u,by simpa using c,b⟩
theorem Vals.set{x:V}{u:Value}(r:RelV x u):∀{a:List V}{us:List Value}(i:Nat),Vals a us->Vals (a.set i x) (us.set i u)
 |_,_,_,.nil=>.nil
 |_,_,0,.cons _ t=>.cons r t
 |_,_,i+1,.cons q t=>.cons q (Vals.set r i t)
theorem Vals.append:∀{b a:List V}{us c:List Value},Vals b us->Vals a c->Vals (b++a) (us++c)
 |_,_,_,_,.nil,s=>s
 |_,_,_,_,.cons r t,s=>.cons r (Vals.append t s)
theorem Vals.take:∀{a:List V}{us:List Value}(n:Nat),Vals a us->Vals (a.take n) (us.take n)
 |_,_,0,_=>.nil
 |_,_,_+1,.nil=>.nil
 |_,_,n+1,.cons r t=>.cons r (Vals.take n t)
theorem Vals.drop:∀{a:List V}{us:List Value}(n:Nat),Vals a us->Vals (a.drop n) (us.drop n)
 |_,_,0,r=>r
 |_,_,_+1,.nil=>.nil
 |_,_,n+1,.cons _ t=>Vals.drop n t
noncomputable def tu:Option V->Option Value->Prop
 |some v,some u=>RelV v u
 |none,none=>True
 |_,_=>False
noncomputable def KV{κ:Type}:List (κ×V)->List (κ×Value)->Prop:=Paired λ(p:κ×V)(q:κ×Value)=>p.1=q.1/\RelV p.2 q.2
def kV:Key->V
 |.inl i=>.int i
 |.inr x=>.str x
inductive HO where
 |lst (xs:List V)
 |tup (xs:List V)
 |dK (kvs:List (Key×V))|dT (kvs:List (List Key×V))
 |set (S:Int->Bool) (n:Nat)
 |ins (C dx:Addr) (fs:List (Str×V))
 |own (x:Addr)
 |xd (fs:List (Str×V))
 |met (f x:Addr)
 |ny (lo hi:Int)
 |xH (o:Obj) (u:HO)
 |M3 (ps:Array Value)
 |ext (φ:Heap->Prop)
abbrev Hp:=Addr->Option HO
def upd(H:Hp)(a:Addr)(o:HO):Hp:=λb=>if b=a then some o else H b
theorem au{H:Hp}{a:Addr}{o:HO}:upd H a o a=some o:=by unfold upd;rw[Bi rfl]
theorem ak{H:Hp}{a b:Addr}{o:HO}(h:b≠a):upd H a o b=H b:=by unfold upd;rw[BM h]
theorem aR{H:Hp}{a b:Addr}{o:HO}(h:H a=some o)(h':H b=none):a≠b:=by intro e;subst e;rw[h]at h';cases h'
section
variable(P:Program)(w:World)
noncomputable def cN(H:Hp)(h:Heap)(a:Addr):HO->Prop
 |.lst d=>d.length<=sizeLine/\∃(c:List Value)(n:Nat),Vals d c/\h.get? a=some {cls:=.type "list",data:=.seq c.toArray n}
 |.tup d=>d.length<=sizeLine/\∃c:List Value,Vals d c/\IsTup h a c.toArray
 |.dK b=>b.length<=sizeLine/\(a==sysModules)=false/\∃vs,KV b vs/\h.DictOf (A9 P w) a vs
 |.dT b=>b.length<=sizeLine/\(a==sysModules)=false/\∃d:List (List Key×Addr×Value),
   Paired (λ(p:List Key×V)(q:List Key×Addr×Value)=>p.1=q.1/\H q.2.1=some (.tup (p.1.map kV))/\RelV p.2 q.2.2) b d/\
   ∃o m r,h.get? a=some o/\o.ExactDict/\o.data=.dict m r/\m.toList=d.map (entryOfKey (tupleKind (A9 P w)))/\(d.map (·.1)).Nodup
 |.set S n=>h.SetOf (intKind P w) a S n
 |.ins C i g=>H i=some (.own a)/\g.length<=1000/\i≠a/\h.get? a=some (instObj C i)/\
   ∃e,h.Ns1 i e/\(∀f,tu (g.lookup f) (e f))/\PySem.Within e (g.map (·.1))
 |.own _=>∃o,h.get? a=some o
 |.xd g=>∃e,h.Ns1 a e/\∀f,tu (g.lookup f) (e f)
 |.ny lo hi=>∃t u v,h.get? a=some {cls:=.type "range",data:=.fields #[.int lo t,.int hi u,.int 1 v]}
 |.xH o u=>h.get? a=some o/\cN H h a u
 |.M3 ps=>h.get? a=some {cls:=.none,data:=.fields ps}
 |.met f x=>h.get? a=some (methodObj (.ref f) (.ref x))
 |.ext j=>j h/\(∃o,h.get? a=some o)/\∀l k:Heap,j l->(∀o,l.get? a=some o->k.get? a=some o)->j k
def lz(H:Hp)(h:Heap):Prop:=∀a o,H a=some o->cN P w H h a o
end
section
variable{P:Program}{w:World}{H H':Hp}{h h':Heap}{a:Addr}{o:HO}
theorem cN.lt(x:cN P w H h a o):a<h.objs.size:=by
 cases o with
 |lst c=>obtain⟨_,_,_,_,e⟩:=x;exact Fu e
 |tup c=>obtain⟨_,_,_,p⟩:=x;exact p.lt
 |dK b=>obtain⟨_,_,_,_,o,_,_,e,_⟩:=x;exact Fu e
 |dT b=>obtain⟨_,_,_,_,o,_,_,e,_⟩:=x;exact Fu e
 |set S n=>obtain⟨o,_,_,_,e,_⟩:=x;exact Fu e
 |ins C l d=>obtain⟨_,_,_,e,_⟩:=x;exact Fu e
 |own y=>obtain⟨_,e⟩:=x;exact Fu e
 |xd d=>obtain⟨_,⟨_,_,_,e,_⟩,_⟩:=x;exact Fu e
 |ny j k=>obtain⟨_,_,_,e⟩:=x;exact Fu e
 |xH i u=>obtain⟨e,_⟩:=x;exact Fu e
 |M3 g=>exact Fu (show h.get? a=some _ from x)
 |met f y=>exact Fu (show h.get? a=some _ from x)
 |ext φ=>obtain⟨_,⟨_,e⟩,_⟩:=x;exact Fu e
theorem Paired.UA{α β:Type}{F G:α->β->Prop}:∀{d:List α}{c:List β},Paired F d c->(∀a b,F a b->G a b)->Paired G d c
 |_,_,.nil,_=>.nil
 |_,_,.cons r t,f=>.cons (f _ _ r) (Paired.UA t f)
theorem cN.stay(x:cN P w H h a o)(k:∀b u,(b=a\/H b=some (.own a))->h.get? b=some u->h'.get? b=some u)
 (K:∀b,H b=some (.own a)->H' b=some (.own a))(J:∀b m,H b=some (.tup m)->H' b=some (.tup m)):cN P w H' h' a o:=by
 induction o with
 |lst m=>obtain⟨z,l,n,r,e⟩:=x;exact⟨z,l,n,r,k _ _ (.inl rfl) e⟩
 |tup m=>obtain⟨z,l,r,g,e,c⟩:=x;exact⟨z,l,r,g,k _ _ (.inl rfl) e,c⟩
 |dK B=>obtain⟨z,y,F,r,g,i,j,e,c⟩:=x;exact⟨z,y,F,r,g,i,j,k _ _ (.inl rfl) e,c⟩
 |dT B=>obtain⟨z,y,m,r,g,i,j,e,c⟩:=x;exact⟨z,y,m,Paired.UA r λp q z=>⟨z.1,J _ _ z.2.1,z.2.2⟩,g,i,j,k _ _ (.inl rfl) e,c⟩
 |set S n=>obtain⟨g,i,j,t,e,c⟩:=x;exact⟨g,i,j,t,k _ _ (.inl rfl) e,c⟩
 |ins C Q L=>obtain⟨d,z,G,e,A,⟨s,i,j,M,c⟩,r⟩:=x;exact⟨K _ d,z,G,k _ _ (.inl rfl) e,A,⟨s,i,j,k _ _ (.inr d) M,c⟩,r⟩
 |own y=>obtain⟨g,e⟩:=x;exact⟨g,k _ _ (.inl rfl) e⟩
 |xd L=>obtain⟨A,⟨s,i,j,e,c⟩,r⟩:=x;exact⟨A,⟨s,i,j,k _ _ (.inl rfl) e,c⟩,r⟩
 |ny N O=>obtain⟨t,u,v,e⟩:=x;exact⟨t,u,v,k _ _ (.inl rfl) e⟩
 |xH g u I=>obtain⟨e,q⟩:=x;exact⟨k _ _ (.inl rfl) e,I q⟩
 |M3 E=>have e:h.get? a=some {cls:=.none,data:=.fields E}:=x;show h'.get? a=some {cls:=.none,data:=.fields E};exact k a _ (.inl rfl) e
 |met f y=>have e:h.get? a=some (methodObj (.ref f) (.ref y)):=x;show h'.get? a=some (methodObj (.ref f) (.ref y));exact k a _ (.inl rfl) e
 |ext φ=>obtain⟨p,⟨o,e⟩,D⟩:=x;exact⟨D _ _ p λo q=>k _ _ (.inl rfl) q,⟨o,k _ _ (.inl rfl) e⟩,D⟩
theorem lz.lt(x:lz P w H h)(e:H a=some o):a<h.objs.size:=(x a o e).lt
theorem lz.fresh(x:lz P w H h)(e:h.objs.size<=a):H a=none:=by
 cases q:H a with
 |none=>rfl
 |some u=>exact absurd (FS (x.lt q) e) (SU _)
theorem lz.kept(x:lz P w H h)(k:∀b u,h.get? b=some u->h'.get? b=some u):lz P w H h':=λa o e=>(x a o e).stay (λb u _ q=>k b u q) (λ_ q=>q) λ_ _ q=>q
theorem lz.laid(x:lz P w H h)(k:∀b u,h.get? b=some u->h'.get? b=some u)(i:h.objs.size<=a)(d:cN P w (upd H a o) h' a o):lz P w (upd H a o) h':=λb u e=>by
 have f:=x.fresh i;by_cases g:b=a
 .subst g;rw[au]at e;cases e;exact d
 .rw[ak g]at e;exact(x b u e).stay (λc v _ q=>k c v q) (λc q=>by rw[ak (aR q f)];exact q) λc j q=>by rw[ak (aR q f)];exact q
end
def Rd(H:Hp)(a:Addr)(u:HO):Prop:=H a=some u\/∃o,H a=some (.xH o u)
theorem Rd.ok{P:Program}{w:World}{H:Hp}{h:Heap}{a:Addr}{u:HO}(r:Rd H a u)(x:lz P w H h):cN P w H h a u:=by
 rcases r with r|⟨o,r⟩
 .exact x a u r
 .obtain⟨_,q⟩:=x a _ r;exact q
noncomputable def Xl:Option HO->Prop
 |some (.lst _)=>True
 |some (.dK _)=>True
 |some (.dT _)=>True
 |some (.set _ _)=>True
 |some (.ins _ _ _)=>True
 |some (.ext _)=>True
 |_=>False
section
variable{P:Program}{w:World}{H:Hp}{h h':Heap}{x e:Addr}{o':HO}
theorem lz.write(n:lz P w H h)(mu:Xl (H x))(l:e=x\/H e=some (.own x))(k:∀b u,b≠e->h.get? b=some u->h'.get? b=some u)(s:∃u,h'.get? e=some u)
 (i:cN P w (upd H x o') h' x o'):lz P w (upd H x o') h':=λb u q=>by
 have m:∀c y,H c=some (.own y)->c≠x:=λc y r z=>by subst z;rw[r]at mu;exact mu
 have p:∀c a,H c=some (.tup a)->c≠x:=λc a r z=>by subst z;rw[r]at mu;exact mu
 by_cases f:b=x
 .subst f;rw[au]at q;cases q;exact i
 .rw[ak f]at q;by_cases g:b=e
  .have j:H b=some (.own x):=by
    rcases l with z|z
    .exact absurd (g.trans z) f
    .rw[g];exact z
   rw[q]at j;cases j;obtain⟨v,o⟩:=s;exact⟨v,by rw[g];exact o⟩
  .refine(n b u q).stay (λc v d r=>k c v ?_ r) (λc r=>by rw[ak (m c b r)];exact r) λc a r=>by rw[ak (p c a r)];exact r
   rcases d with rfl|d
   .exact g
   .rintro rfl;rcases l with z|z
    .exact m c b d z
    .rw[d]at z;cases z;exact f rfl
end
structure Un(fs ex:List Addr)(H H':Hp)(h h':Heap):Prop where
 keep:∀b o,h.get? b=some o->H b=none->b∉fs->b∉ex->h'.get? b=some o
 slot:∀b o,h.get? b=some o->H b=none->b∈fs->b∉ex->∃sl,h'.get? b=some {o with slots:=sl}
 free:∀b o,h.get? b=some o->H b=none->b∉ex->H' b=none
 there:∀b o,h.get? b=some o->b∉ex->∃o',h'.get? b=some o'
 tups:∀b xs,H b=some (.tup xs)->H' b=some (.tup xs)
 kG:∀b o u,H b=some (.xH o u)->H' b=some (.xH o u)
 lE:∀b ps,H b=some (.M3 ps)->∃more,H' b=some (.M3 (ps++more))
section
variable{fs fs' ex ex':List Addr}{H H1 H2:Hp}{h h1 h2 h':Heap}{a x e:Addr}{o:HO}
theorem Un.any(u:Un fs ex H H1 h h1){b:Addr}{c:Obj}(q:h.get? b=some c)(n:H b=none)(d:b∉ex):∃g,h1.get? b=some {c with slots:=g}:=by
 by_cases f:b∈fs
 .exact u.slot b c q n f d
 .exact⟨c.slots,u.keep b c q n f d⟩
theorem Un.kept(k:∀b u,h.get? b=some u->h'.get? b=some u):Un fs ex H H h h':=
 ⟨λb c q _ _ _=>k b c q,λb c q _ _ _=>⟨c.slots,k b c q⟩,λ_ _ _ n _=>n,λb c q _=>⟨c,k b c q⟩,λ_ _ q=>q,λ_ _ _ q=>q,λ_ d q=>⟨#[],by rw[q];simp⟩⟩
theorem Un.refl:Un fs ex H H h h:=Un.kept λ_ _ q=>q
theorem Un.laid(k:∀b u,h.get? b=some u->h'.get? b=some u)(f:h.objs.size<=a)(c:H a=none):Un fs ex H (upd H a o) h h' where
 keep:=λb u q _ _ _=>k b u q
 slot:=λb u q _ _ _=>⟨u.slots,k b u q⟩
 free:=λb u q n _=>by rw[ak (Qr (FS (Fu q) f))];exact n
 there:=λb u q _=>⟨u,k b u q⟩
 tups:=λb d q=>by rw[ak (aR q c)];exact q
 kG:=λb u d q=>by rw[ak (aR q c)];exact q
 lE:=λb g q=>⟨#[],by rw[ak (aR q c),q];simp⟩
theorem Un.write(mu:Xl (H x))(l:e=x\/H e=some (.own x))(k:∀b u,b≠e->h.get? b=some u->h'.get? b=some u)(m:∃u,h'.get? e=some u):Un fs ex H (upd H x o) h h':=by
 have d:∀b,H b=none->b≠x:=λb n z=>by subst z;rw[n]at mu;exact mu
 have f:∀b,H b=none->b≠e:=λb n z=>by
  subst z;rcases l with r|r
  .exact d b n r
  .rw[n]at r;cases r
 have c:∀b u,H b=some u->¬Xl (some u)->b≠x:=λb u q j z=>by subst z;rw[q]at mu;exact j mu
 refine⟨λb u q n _ _=>k b u (f b n) q,λb u q n _ _=>⟨u.slots,k b u (f b n) q⟩,λb u q n _=>by rw[ak (d b n)];exact n,λb u q _=>?_,
  λb i q=>by rw[ak (c b _ q λz=>z)];exact q,λb u i q=>by rw[ak (c b _ q λz=>z)];exact q,λb p q=>⟨#[],by rw[ak (c b _ q λz=>z),q];simp⟩⟩
 by_cases g:b=e
 .subst g;exact m
 .exact⟨u,k b u g q⟩
end
def Xm(h:Heap)(H:Hp):List Addr:=(Bn h.objs.size).filter λa=>(H a).isSome
def vf(h:Heap)(H:Hp):Heap:=PySem.W.hideAll h (Xm h H)
theorem C4(h:Heap)(H:Hp):(vf h H).objs.size=h.objs.size:=PySem.W.hideAll_size _ _
theorem EI{h:Heap}{H:Hp}{b:Addr}{o:Obj}(e:h.get? b=some o)(n:H b=none):(vf h H).get? b=some o:=
 hideAll_get _ e λa=>by have q:(H b).isSome=true:=(T1.mp a).2;rw[n]at q;simp at q
theorem Jv{h:Heap}{H:Hp}{b:Addr}{o:Obj}(e:(vf h H).get? b=some o):h.get? b=some o/\H b=none:=by
 have a:h.get? b=some o:=PySem.W.of_hideAll (Xm h H) e;refine⟨a,?_⟩;cases q:H b with
 |none=>rfl
 |some x=>have c:b∈Xm h H:=T1.mpr ⟨du.mpr (Fu a),by simp[q]⟩;have z:(vf h H).get? b=none:=PySem.W.hideAll_none (Xm h H) c;rw[z]at e;cases e
noncomputable def Jw(g h:Heap)(L:Addr):List (Addr×Obj):=(Bn h.objs.size).filterMap λa=>if a=L\/(g.get? a).isSome=true then none else(h.get? a).map λo=>(a,o)
noncomputable def rest(g h:Heap)(L d:Addr):List (Addr×Obj):=(Jw g h L).filter λp=>decide (p.1≠d)
structure Mod(K:Frag)(mg:Str->Option Value)(base:Heap):Prop where
 Jp:K.In base
 glob:base.Ns mainGlobals mg
 blt:∃mb,base.Ns builtinsNs mb/\∀x:Str,x≠"__name__"->mb x=bootBuiltins x
 nolimit:base.NoLimit
 seer:base.NoSeer
set_option genInjectivity false in
set_option genSizeOf false in
structure Cx where
 prog:Program
 w:World
 K:Frag
 mg:Str->Option Value
 base:Heap
 A:Around
 N:List Str
 s₀:Shared
 H₀:Hp
 env:Env
 outer:List Env
 stack:List Env
 ex:List Addr
 fn:Str->Bool
 calm:Bool
 pn:List (Addr×Obj)
 xe:Value->Shared->Prop
def frs(l:List Env):List Addr:=l.filterMap (·.frame)
abbrev Cx.fs(X:Cx):List Addr:=frs X.outer
noncomputable def UC(sc:Scope)(x:Str):Prop:=sc.names.lookup x=some .local\/sc.names.lookup x=some .cell\/sc.names.lookup x=some .free
noncomputable def Loc(sc:Scope)(x:Str):Prop:=sc.names.lookup x=some .local\/sc.names.lookup x=some .cell
noncomputable def Look(env:Env)(h:Heap)(m:Str->Option Value)(x:Str)(u:Value):Prop:=
 (env.kindOf x=some .local/\m x=some u)\/((env.kindOf x=some .cell\/env.kindOf x=some .free)/\∃c,env.cells.lookup x=some c/\h.IsCell c (some u))
structure Cx.Ok(X:Cx):Prop where
 mod:Mod X.K X.mg X.base
 kind:X.env.scope.kind=.function
 glob:X.env.globals=mainGlobals
 blt:X.env.builtins=builtinsNs
 above:X.s₀.heap.objs.size<=X.env.locals
 inj:∀x y c,X.env.cells.lookup x=some c->X.env.cells.lookup y=some c->x=y
 has:∀x,(X.env.kindOf x=some .cell\/X.env.kindOf x=some .free)->∃c,X.env.cells.lookup x=some c
 TF:∀x c,X.fn x=true->X.env.cells.lookup x=some c->X.s₀.heap.objs.size<=c
 hd:X.calm=true->X.A.handled=none
 frames:X.A.frames=some X.stack
 stk:X.stack=X.outer\/(X.stack=X.env::X.outer/\X.env.frame=some X.env.locals)
 Xn:∀b∈X.ex,b≠X.env.locals/\∀x c,X.env.cells.lookup x=some c->c≠b
 bs:∀b o,X.base.get? b=some o->X.s₀.heap.get? b=some o/\X.H₀ b=none
 Jq:X.base.objs.size<=X.s₀.heap.objs.size
 C5:∀b o,X.base.get? b=some o->b∉X.ex
 C6:∀b∈X.ex,b∉X.fs
 nG:X.s₀.heap.FunFrames X.base X.outer
 M4:∀b∈X.fs,X.H₀ b=none
 tree:X.prog.given.tree=none
 UD:∀(A:Around)(s:Shared),A.frames=X.A.frames->A.depth=X.A.depth->(∀b o,X.base.get? b=some o->s.heap.get? b=some o)->PylongRoom (model X.prog X.w) A s
structure Inv(X:Cx)(pins:List (Addr×Obj))(σ:List (Option V))(H:Hp)(s:Shared):Prop where
 ok:X.Ok
 os:s.os=X.s₀.os
 bare:AllBare s.gens
 base:Un X.fs X.ex X.H₀ H X.s₀.heap s.heap
 loc:∃m,s.heap.Ns X.env.locals m/\∀(i:Nat)(x:Str)(v:V),X.N[i]?=some x->σ[i]?=some (some v)->UC X.env.scope x->∃u,RelV v u/\Look X.env s.heap m x u
 cell:∀x c,X.env.cells.lookup x=some c->∃v,s.heap.IsCell c v
 free:H X.env.locals=none
 gq:∀x c,X.env.cells.lookup x=some c->H c=none
 pin:∀p∈X.pn++pins,s.heap.get? p.1=some p.2/\H p.1=none/\p.1≠X.env.locals/\p.1∉X.fs/\∀v,p.2.data≠.cell v
 hok:lz X.prog X.w H s.heap
 len:σ.length=X.N.length
section
variable{X:Cx}{pins:List (Addr×Obj)}{σ:List (Option V)}{H H':Hp}{s:Shared}{h':Heap}
theorem Cx.Ok.C7(a:X.Ok){b:Addr}{o:Obj}(e:X.base.get? b=some o):b∉X.fs:=λc=>by have:=(a.nG.mem c).1;rw[e]at this;cases this
theorem Inv.bs(I:Inv X pins σ H s):∀b o,X.base.get? b=some o->s.heap.get? b=some o/\H b=none:=λb o e=>⟨I.base.keep b o (I.ok.bs b o e).1 (I.ok.bs b o e).2 (I.ok.C7 e) (I.ok.C5 b o e),I.base.free b o (I.ok.bs b o e).1 (I.ok.bs b o e).2 (I.ok.C5 b o e)⟩
theorem Inv.bk(I:Inv X pins σ H s):∀b o,X.base.get? b=some o->s.heap.get? b=some o:=λb o e=>(I.bs b o e).1
theorem Inv.mod(I:Inv X pins σ H s):Mod X.K X.mg X.base:=I.ok.mod
theorem Inv.j8(I:Inv X pins σ H s):X.K.In s.heap:=I.ok.mod.Jp.keeps I.bk
theorem Inv.lt(I:Inv X pins σ H s):X.env.locals<s.heap.objs.size:=let⟨_,hn,_⟩:=I.loc;hn.lt
theorem Inv.sz(I:Inv X pins σ H s):X.s₀.heap.objs.size<=s.heap.objs.size:=Bz I.ok.above (SC I.lt)
theorem Inv.Yb(I:Inv X pins σ H s){a:Addr}(h:s.heap.objs.size<=a):a∉X.fs:=λc=>by obtain⟨_,o,b,_⟩:=I.ok.nG.mem c;exact absurd (FS (Fu b) (Bz I.sz h)) (SU _)
theorem Inv.EJ(I:Inv X pins σ H s):∀x c,X.env.cells.lookup x=some c->c≠X.env.locals:=λx c e z=>by obtain⟨v,o,d,f⟩:=I.cell x c e;obtain⟨m,⟨g,h,i,a,b,_⟩,_⟩:=I.loc;rw[z,a]at d;cases d;rw[b]at f;cases f
theorem Inv.nG(I:Inv X pins σ H s):s.heap.FunFrames X.base X.outer:=by
 have f:∀(l:List Env),(∀b∈frs l,b∈X.fs)->X.s₀.heap.FunFrames X.base l->s.heap.FunFrames X.base l:=by
  intro l
  induction l with
  |nil=>intro _ _;trivial
  |cons env r h=>intro g m;obtain⟨n,⟨L,o,a,k,j,p⟩,i⟩:=m;have d:L∈X.fs:=g L (by unfold frs;rw[L1,a];exact Dx);obtain⟨q,e⟩:=I.base.slot L o j (I.ok.M4 L d) d λz=>I.ok.C6 L z d;exact⟨n,⟨L,_,a,k,e,p⟩,h (λb c=>g b (by unfold frs;rw[L1,a];exact DL _ c)) i⟩
 exact f X.outer (λ_ c=>c) I.ok.nG
theorem Inv.stack(I:Inv X pins σ H s):s.heap.FunFrames X.base X.stack:=by
 rcases I.ok.stk with e|⟨e,b⟩
 .rw[e];exact I.nG
 .rw[e];obtain⟨m,a,_⟩:=I.loc;refine .cons (by rw[I.ok.kind];decide) b a ?_ I.nG;exact Heap.get?_none_of_le (Bz I.ok.Jq I.ok.above)
theorem Inv.zv(I:Inv X pins σ H s):∀b∈frs X.stack,b∈X.env.locals::X.fs:=λb a=>by
 rcases I.ok.stk with e|⟨e,c⟩
 .rw[e]at a;exact DL _ a
 .rw[e]at a;unfold frs at a;rw[L1,c]at a;exact a
theorem Inv.jP(I:Inv X pins σ H s):∀b∈frs X.stack,H b=none:=λb a=>by
 rcases Fh.mp (I.zv b a)with e|a
 .rw[e];exact I.free
 .obtain⟨_,o,c,_⟩:=I.ok.nG.mem a;exact I.base.free b o c (I.ok.M4 b a) λz=>I.ok.C6 b z a
theorem Inv.step{g':Array GenState}{t':Nat}{d':Drawn}{ch:List Addr}(I:Inv X pins σ H s)
 (f:∀b∈ch,(b∈X.ex\/X.s₀.heap.objs.size<=b)/\b≠X.env.locals/\(∀x c,X.env.cells.lookup x=some c->c≠b)/\∀p∈X.pn++pins,p.1≠b)
 (keep:∀b o,b≠X.env.locals->b∉X.fs->b∉ch->s.heap.get? b=some o->H b=none->h'.get? b=some o)
 (slot:∀b o,b≠X.env.locals->b∈X.fs->b∉ch->s.heap.get? b=some o->H b=none->∃J,h'.get? b=some {o with slots:=J})(free:∀b o,b∉ch->s.heap.get? b=some o->H b=none->H' b=none)
 (there:∀b o,b∉ch->s.heap.get? b=some o->∃A,h'.get? b=some A)
 (tups:∀b j,H b=some (.tup j)->H' b=some (.tup j))(kG:∀b o u,H b=some (.xH o u)->H' b=some (.xH o u))(lE:∀b ps,H b=some (.M3 ps)->∃C,H' b=some (.M3 (ps++C)))
 (ns:∀m,s.heap.Ns X.env.locals m->h'.Ns X.env.locals m)(K:lz X.prog X.w H' h')(U:AllBare g'):
 Inv X pins σ H' {s with heap:=h',gens:=g',drawn:=d',toks:=t'}:=by
 have B:∀b o,X.s₀.heap.get? b=some o->b≠X.env.locals:=λb o e=>Qr (FS (Fu e) I.ok.above);have F:∀b o,X.s₀.heap.get? b=some o->b∉X.ex->b∉ch:=λb o e a t=>by
  rcases(f b t).1 with z|z
  .exact a z
  .exact absurd (FS (Fu e) z) (SU _)
 have g:∀x c,X.env.cells.lookup x=some c->∀v,s.heap.IsCell c v->h'.IsCell c v:=λx c e v ⟨o,y,L⟩=>by
  have E:c∉ch:=λz=>(f c z).2.2.1 x c e rfl;by_cases P:c∈X.fs
  .obtain⟨J,q⟩:=slot c o (I.EJ x c e) P E y (I.gq x c e);exact⟨_,q,L⟩
  .exact⟨o,keep c o (I.EJ x c e) P E y (I.gq x c e),L⟩
 refine⟨I.ok,I.os,U,⟨λb o e n t a=>?_,λb o e n t a=>?_,λb o e n a=>?_,λb o e a=>?_,λb j e=>tups b j (I.base.tups b j e),λb o j e=>kG b o j (I.base.kG b o j e),λb ps e=>?_⟩,?_,λx c e=>?_,?_,λx c e=>?_,λp O=>?_,K,I.len⟩
 .exact keep b o (B b o e) t (F b o e a) (I.base.keep b o e n t a) (I.base.free b o e n a)
 .obtain⟨J,h⟩:=I.base.slot b o e n t a;obtain⟨G,D⟩:=slot b _ (B b o e) t (F b o e a) h (I.base.free b o e n a);exact⟨G,D⟩
 .obtain⟨A,h⟩:=I.base.there b o e a;exact free b A (F b o e a) h (I.base.free b o e n a)
 .obtain⟨A,h⟩:=I.base.there b o e a;exact there b A (F b o e a) h
 .obtain⟨R,h⟩:=I.base.lE b ps e;obtain⟨Q,D⟩:=lE b _ h;exact⟨R++Q,by rw[D,bX]⟩
 .obtain⟨m,S,T⟩:=I.loc;refine⟨m,ns m S,λi x v h D Y=>?_⟩;obtain⟨u,r,l⟩:=T i x v h D Y;refine⟨u,r,?_⟩;rcases l with l|⟨k,c,e,z⟩
  .exact .inl l
  .exact .inr ⟨k,c,e,g x c e _ z⟩
 .obtain⟨v,z⟩:=I.cell x c e;exact⟨v,g x c e v z⟩
 .obtain⟨m,⟨o,_,_,y,_⟩,_⟩:=I.loc;exact free _ o (λz=>(f _ z).2.1 rfl) y I.free
 .obtain⟨v,o,y,L⟩:=I.cell x c e;exact free c o (λz=>(f c z).2.2.1 x c e rfl) y (I.gq x c e)
 .obtain⟨e,n,N,M,d⟩:=I.pin p O;have E:p.1∉ch:=λz=>(f p.1 z).2.2.2 p O rfl;exact⟨keep p.1 p.2 N M E e n,free p.1 p.2 E e n,N,M,d⟩
theorem Inv.un{t':Nat}(I:Inv X pins σ H s)(u:Un X.fs [] H H' s.heap h')(c:lz X.prog X.w H' h'):Inv X pins σ H' {s with heap:=h',toks:=t'}:=by obtain⟨m,⟨o,t,v,g,r⟩,_⟩:=id I.loc;obtain⟨l,j⟩:=u.any g I.free (by simp);exact I.step (g':=s.gens) (d':=s.drawn) (ch:=[]) (λ_ z=>nomatch z) (λb o _ d _ e n=>u.keep b o e n d (by simp)) (λb o _ d _ e n=>u.slot b o e n d (by simp)) (λb o _ e n=>u.free b o e n (by simp)) (λb o _ e=>u.there b o e (by simp)) u.tups u.kG u.lE (λq i=>by obtain⟨p,f,k,a,h⟩:=i;rw[g]at a;cases a;exact⟨_,f,k,j,h⟩) c I.bare
theorem Inv.call{g':Array GenState}{t':Nat}{d':Drawn}{ch:List Addr}(I:Inv X pins σ H s)(u:Un (frs X.stack) ch H H' s.heap h')(g:lz X.prog X.w H' h')(q:AllBare g')
 (f:∀b∈ch,(b∈X.ex\/X.s₀.heap.objs.size<=b)/\b≠X.env.locals/\(∀x c,X.env.cells.lookup x=some c->c≠b)/\∀p∈X.pn++pins,p.1≠b):
 Inv X pins σ H' {s with heap:=h',gens:=g',drawn:=d',toks:=t'}:=by
 obtain⟨m,⟨o,C,D,j,r⟩,_⟩:=id I.loc;obtain⟨y,h⟩:=u.any j I.free λz=>(f _ z).2.1 rfl;exact I.step (ch:=ch) f (λb o h t a e n=>u.keep b o e n (λz=>(Fh.mp (I.zv b z)).elim h t) a) (λb o _ _ a e n=>u.any e n a) (λb o a e n=>u.free b o e n a) (λb o a e=>u.there b o e a) u.tups u.kG u.lE (λB l=>by obtain⟨A,i,v,d,k⟩:=l;rw[j]at d;cases d;exact⟨_,i,v,h,k⟩) g q
theorem Inv.turned{t':Nat}{a:Addr}(I:Inv X pins σ H s)(k:∀b o,b≠a->s.heap.get? b=some o->h'.get? b=some o)(i:H a=none)(g:a≠X.env.locals)
 (y:a∈X.ex\/X.s₀.heap.objs.size<=a)(w:∀x c,X.env.cells.lookup x=some c->c≠a)(t:∀p∈X.pn++pins,p.1≠a):Inv X pins σ H {s with heap:=h',toks:=t'}:=by
 have f:∀b u,H b=some u->b≠a:=λb u e z=>by rw[z,i]at e;cases e
 refine I.step (g':=s.gens) (d':=s.drawn) (ch:=[a]) (λb l=>?_) (λb o _ _ d e _=>k b o (λz=>d (by simp[z])) e) (λb o _ _ d e _=>⟨o.slots,k b o (λz=>d (by simp[z])) e⟩) (λ_ _ _ _ n=>n)
  (λb o d e=>⟨o,k b o (λz=>d (by simp[z])) e⟩) (λ_ _ e=>e) (λ_ _ _ e=>e) (λb C e=>⟨#[],by rw[e];simp⟩) (λm j=>?_) (λb u e=>?_) I.bare
 .have e:b=a:=by simpa using l
  subst e;exact⟨y,g,w,t⟩
 .obtain⟨o,A,B,h,r⟩:=j;exact⟨o,A,B,k _ o (Y2 g) h,r⟩
 .refine(I.hok b u e).stay (λc v d q=>k c v ?_ q) (λ_ q=>q) λ_ _ q=>q;rcases d with z|z
  .rw[z];exact f b u e
  .exact f c _ z
theorem Inv.tok(I:Inv X pins σ H s)(t:Nat):Inv X pins σ H {s with toks:=t}:=I.un (h':=s.heap) (t':=t) Un.refl I.hok
theorem Inv.kept{t':Nat}(I:Inv X pins σ H s)(k:∀b u,s.heap.get? b=some u->h'.get? b=some u):Inv X pins σ H {s with heap:=h',toks:=t'}:=I.un (Un.kept k) (I.hok.kept k)
theorem Inv.laid{a:Addr}{o:HO}{t':Nat}(I:Inv X pins σ H s)(k:∀b u,s.heap.get? b=some u->h'.get? b=some u)(d:s.heap.objs.size<=a)(c:cN X.prog X.w (upd H a o) h' a o):
 Inv X pins σ (upd H a o) {s with heap:=h',toks:=t'}:=I.un (Un.laid k d (I.hok.fresh d)) (I.hok.laid k d c)
theorem Inv.write{x e:Addr}{o:HO}{t':Nat}(I:Inv X pins σ H s)(mu:Xl (H x))(c:e=x\/H e=some (.own x))(k:∀b u,b≠e->s.heap.get? b=some u->h'.get? b=some u)(d:∃u,h'.get? e=some u)
 (a:cN X.prog X.w (upd H x o) h' x o):Inv X pins σ (upd H x o) {s with heap:=h',toks:=t'}:=I.un (Un.write mu c k d) (I.hok.write mu c k d a)
theorem Inv.Ba{a:List (Addr×Obj)}(I:Inv X pins σ H s)(h:∀p∈a,s.heap.get? p.1=some p.2/\H p.1=none/\p.1≠X.env.locals/\p.1∉X.fs/\∀v,p.2.data≠.cell v):Inv X a σ H s:=
 ⟨I.ok,I.os,I.bare,I.base,I.loc,I.cell,I.free,I.gq,λp b=>(Ha.mp b).elim (λz=>I.pin p (X2 _ z)) (h p),I.hok,I.len⟩
theorem qj{N:List Str}(c:N.Nodup){i j:Nat}{x:Str}(a:N[i]?=some x)(b:N[j]?=some x):i=j:=by obtain⟨g,e⟩:=Fn.mp a;obtain⟨f,d⟩:=Fn.mp b;exact(List.getElem_inj c).mp (e.trans d.symm)
theorem ur{M:Model}{A:Around}{E:Value->Shared->Prop}{i:Nat}{x:Str}{v:V}{u:Value}{Q:Unit->Shared->Prop}(I:Inv X pins σ H s)(hN:X.N.Nodup)(hi:X.N[i]?=some x)(B:Loc X.env.scope x)(r:RelV v u)
 (h:∀s',Inv X pins (σ.set i (some v)) H s'->(∃a,Heap.SameBut a s.heap s'.heap/\(a=X.env.locals\/X.env.cells.lookup x=some a))->Q () s')(hf:X.fn x=true\/X.env.scope.names.lookup x=some .local:=by first|exact .inl rfl|exact .inr rfl|assumption):wpAny M A (storeName X.env x u) Q E s:=by
 obtain⟨m,hn,hl⟩:=id I.loc;have O:(X.env.scope.kind==.class||(X.env.scope.kind==.module&&X.env.locals !=X.env.globals))=false:=by rw[I.ok.kind];rfl
 have Jx:i<σ.length:=by rw[I.len];exact(Fn.mp hi).1
 have EJ:=I.EJ;have g:∀{a:Addr}{h':Heap},(∃o,s.heap.get? a=some o/\H a=none)->Heap.SameBut a s.heap h'->lz X.prog X.w H h':=λ{a h'} ha f b ob e=>by
  obtain⟨_,_,C⟩:=ha;refine(I.hok b ob e).stay (λc S t q=>(f.2 c ?_).trans q) (λ_ q=>q) λ_ _ q=>q;rintro rfl;rcases t with rfl|t
  .rw[C]at e;cases e
  .rw[C]at t;cases t
 rcases B with F|F
 .refine wpAny_storeName_local F hn (λh' hn' f=>?_) O;obtain⟨oL,_,_,hoL,_⟩:=id hn;refine h _ ⟨I.ok,I.os,I.bare,⟨λb o e n K B=>?_,λb o e n K B=>?_,I.base.free,λb o e B=>?_,I.base.tups,I.base.kG,I.base.lE⟩,⟨_,hn',λj y Y l D e3=>?_⟩,λy c e=>?_,I.free,I.gq,λp hp=>?_,g ⟨oL,hoL,I.free⟩ f,by simpa using I.len⟩ ⟨_,f,.inl rfl⟩
  .exact(f.2 b (Qr (FS (Fu e) I.ok.above))).trans (I.base.keep b o e n K B)
  .obtain⟨sl,l⟩:=I.base.slot b o e n K B;exact⟨sl,(f.2 b (Qr (FS (Fu e) I.ok.above))).trans l⟩
  .obtain⟨o',l⟩:=I.base.there b o e B;exact⟨o',(f.2 b (Qr (FS (Fu e) I.ok.above))).trans l⟩
  .by_cases G:j=i
   .subst G;rw[hi]at l;cases l;rw[Tb Jx]at D;cases D;exact⟨u,r,.inl ⟨F,by simp⟩⟩
   .rw[Oy (Y2 G)]at D;obtain⟨Z,r',q⟩:=hl j y Y l D e3;refine⟨Z,r',?_⟩;rcases q with⟨k,e⟩|⟨k,c,e,z⟩
    .refine .inl ⟨k,?_⟩;have:y≠x:=λe=>G (qj hN l (e▸hi));simp[this,e]
    .exact .inr ⟨k,c,e,z.sameBut f (EJ y c e)⟩
  .obtain⟨S,z⟩:=I.cell y c e;exact⟨S,z.sameBut f (EJ y c e)⟩
  .obtain⟨e,n,T,nf,d⟩:=I.pin p hp;exact⟨(f.2 p.1 T).trans e,n,T,nf,d⟩
 .have J:X.fn x=true:=by
   rcases hf with z|z
   .exact z
   .rw[z]at F;cases F
  obtain⟨c,t⟩:=I.ok.has x (.inl F);obtain⟨S,z⟩:=I.cell x c t;refine wpAny_storeName_cell I.ok.kind F t z (λh' R f=>?_);obtain⟨oc,L,Yd⟩:=id z;refine h {s with heap:=h'} ⟨I.ok,I.os,I.bare,⟨λb o e n K B=>?_,λb o e n K B=>?_,I.base.free,λb o e B=>?_,I.base.tups,I.base.kG,I.base.lE⟩,⟨m,hn.sameBut f (Y2 (EJ x c t)),λj y Y l D e3=>?_⟩,λy U e=>?_,I.free,I.gq,λp hp=>?_,g ⟨oc,L,I.gq x c t⟩ f,by simpa using I.len⟩ ⟨c,f,.inr t⟩
  .exact(f.2 b (Qr (FS (Fu e) (I.ok.TF x c J t)))).trans (I.base.keep b o e n K B)
  .obtain⟨sl,l⟩:=I.base.slot b o e n K B;exact⟨sl,(f.2 b (Qr (FS (Fu e) (I.ok.TF x c J t)))).trans l⟩
  .obtain⟨o',l⟩:=I.base.there b o e B;exact⟨o',(f.2 b (Qr (FS (Fu e) (I.ok.TF x c J t)))).trans l⟩
  .by_cases G:j=i
   .subst G;rw[hi]at l;cases l;rw[Tb Jx]at D;cases D;exact⟨u,r,.inr ⟨.inl F,c,t,R⟩⟩
   .rw[Oy (Y2 G)]at D;obtain⟨Z,r',q⟩:=hl j y Y l D e3;refine⟨Z,r',?_⟩;rcases q with q|⟨k,U,e,z'⟩
    .exact .inl q
    .refine .inr ⟨k,U,e,z'.sameBut f ?_⟩;rintro rfl;exact G (qj hN l (I.ok.inj _ _ _ e t▸hi))
  .by_cases P:U=c
   .subst P;exact⟨_,R⟩
   .obtain⟨w2,z2⟩:=I.cell y U e;exact⟨w2,z2.sameBut f P⟩
  .obtain⟨e,n,T,nf,d⟩:=I.pin p hp;refine⟨(f.2 p.1 ?_).trans e,n,T,nf,d⟩;intro q;rw[q,L]at e;have q':oc=p.2:=Kk e;exact d S (by rw[<-q'];exact Yd)
theorem jj{M:Model}{A:Around}{E:Value->Shared->Prop}{i:Nat}{x:Str}{v:V}{u:Value}{Q:Unit->Shared->Prop}(I:Inv X pins σ H s)(c:X.N.Nodup)(hi:X.N[i]?=some x)(a:Loc X.env.scope x)(r:RelV v u)
 (h:∀s',Inv X pins (σ.set i (some v)) H s'->Q () s')(b:X.fn x=true\/X.env.scope.names.lookup x=some .local:=by first|exact .inl rfl|exact .inr rfl|assumption):wpAny M A (storeName X.env x u) Q E s:=
 ur I c hi a r (λs' d _=>h s' d) b
theorem Inv.EK{s':Shared}{ch:List Addr}(I:Inv X pins σ H s)(g:s'.os=s.os)(u:Un (frs X.stack) ch H H' s.heap s'.heap)(a:lz X.prog X.w H' s'.heap)(h:AllBare s'.gens)
 (d:∀b∈ch,(b∈X.ex\/X.s₀.heap.objs.size<=b)/\b≠X.env.locals/\(∀x c,X.env.cells.lookup x=some c->c≠b)/\∀p∈X.pn++pins,p.1≠b):Inv X pins σ H' s':=by
 obtain⟨h',g',d',t',f⟩:=s';have e:f=s.os:=g;subst e;exact I.call (g':=g') (t':=t') (d':=d') u a h d
end
abbrev XK:=Value->Option Addr->Hp->Prop
abbrev St:=List (Option V)
abbrev VK:=V->Hp->Prop
abbrev TE:=St->Hp->VK->Prop
abbrev TT:=St->Hp->(Bool->Hp->Prop)->Prop
abbrev TA:=St->Hp->(List V->Hp->Prop)->Prop
set_option genInjectivity false in
set_option genSizeOf false in
structure Ends where
 nx:St->Hp->Prop
 rt:VK
 bk:St->Hp->Prop:=λ_ _=>False
 ct:St->Hp->Prop:=λ_ _=>False
abbrev TS:=Ends->St->Hp->Prop
noncomputable def EP(X:Cx)(a:List (Addr×Obj))(c:St)(Q:VK)(u:Value)(s':Shared):Prop:=∃v b,Inv X a c b s'/\RelV v u/\Q v b
noncomputable def TP(X:Cx)(a:List (Addr×Obj))(d:St)(Q:Bool->Hp->Prop)(b:Bool)(s':Shared):Prop:=∃c,Inv X a d c s'/\Q b c
noncomputable def AP(X:Cx)(a:List (Addr×Obj))(d:St)(Q:List V->Hp->Prop)(us:List Value)(s':Shared):Prop:=∃b c,Inv X a d c s'/\Vals b us/\Q b c
noncomputable def SP(X:Cx)(b:List (Addr×Obj))(D:Ends)(f:Flow)(s':Shared):Prop:=
 match f with
 |.next=>∃a c,Inv X b a c s'/\D.nx a c
 |.brk=>∃a c,Inv X b a c s'/\D.bk a c
 |.cont=>∃a c,Inv X b a c s'/\D.ct a c
 |.ret u=>∃v a c,Inv X b a c s'/\RelV v u/\D.rt v c
noncomputable def PE(X:Cx)(e:Expr)(t:TE):Prop:=
 ∀(a:List (Addr×Obj))(s:Shared)(b:St)(H:Hp)(Q:VK),Inv X a b H s->t b H Q->wpAny (model X.prog X.w) X.A (eval e X.env) (EP X a b Q) X.xe s
noncomputable def PT(X:Cx)(e:Expr)(t:TT):Prop:=
 ∀(a:List (Addr×Obj))(s:Shared)(b:St)(H:Hp)(Q:Bool->Hp->Prop),Inv X a b H s->t b H Q->wpAny (model X.prog X.w) X.A (isTrue e X.env (eval e X.env)) (TP X a b Q) X.xe s
noncomputable def PW(X:Cx)(e:Expr)(t:TT):Prop:=
 ∀(b:Sem Value)(a:List (Addr×Obj))(s:Shared)(c:St)(H:Hp)(Q:Bool->Hp->Prop),Inv X a c H s->t c H Q->wpAny (model X.prog X.w) X.A (isTrue e X.env b) (TP X a c Q) X.xe s
theorem PW.pt{X:Cx}{e:Expr}{t:TT}(h:PW X e t):PT X e t:=h _
noncomputable def PA(X:Cx)(d:List Expr)(t:TA):Prop:=
 ∀(c:Pos)(a:List (Addr×Obj))(s:Shared)(b:St)(H:Hp)(Q:List V->Hp->Prop),Inv X a b H s->t b H Q->wpAny (model X.prog X.w) X.A (spliced (backTo c (starEach d X.env))) (AP X a b Q) X.xe s
noncomputable def PS(X:Cx)(st:Stmt)(t:TS):Prop:=
 ∀(a:List (Addr×Obj))(s:Shared)(b:St)(H:Hp)(D:Ends),Inv X a b H s->t D b H->wpAny (model X.prog X.w) X.A (exec st X.env) (SP X a D) X.xe s
noncomputable def sX(X:Cx)(st:List Stmt)(t:TS):Prop:=
 ∀(a:List (Addr×Obj))(s:Shared)(b:St)(H:Hp)(D:Ends),Inv X a b H s->t D b H->wpAny (model X.prog X.w) X.A (execs st X.env) (SP X a D) X.xe s
theorem cy{α:Type}{t:Sem α}{Q b:α->Shared->Prop}{M:Model}{A:Around}{E:Value->Shared->Prop}{s:Shared}(h:wpAny M A t Q E s)(c:∀a s,Q a s->b a s):wpAny M A t b E s:=fo h c λ_ _ x=>x
section
variable{X:Cx}
theorem bin{a b:Expr}{ta k:TE}(t:PE X a ta)(r:PE X b k){c:List (Addr×Obj)}{s:Shared}{d:St}{H:Hp}{R:V->V->Hp->Prop}(I:Inv X c d H s)(h:ta d H λx H1=>k d H1 λy e=>R x y e)
 {α:Type}{Q:α->Shared->Prop}{f:Value->Value->Sem α}
 (q:∀v u j x y e,Inv X c d e j->RelV x v->RelV y u->R x y e->wpAny (model X.prog X.w) X.A (f v u) Q X.xe j):
 wpAny (model X.prog X.w) X.A (eval a X.env) (λv i=>wpAny (model X.prog X.w) X.A (eval b X.env) (λu g=>wpAny (model X.prog X.w) X.A (f v u) Q X.xe g) X.xe i) X.xe s:=by
 refine cy (t c s d H _ I h) λv l ⟨x,H1,I1,n,p⟩=>?_;refine cy (r c l d H1 _ I1 p) λu j ⟨y,e,z,m,o⟩=>?_;exact q v u j x y e z n m o
def lG(i:Nat):TE:=λa H Q=>∃v,a[i]?=some (some v)/\Q v H
def tC(v:V):TE:=λ_ H Q=>Q v H
theorem EL{i:Nat}{x:Str}{pos:Pos}(w:X.N[i]?=some x)(o:UC X.env.scope x)(g:(x==("__debug__":Str))=false:=by decide)(j:(x==("__classdict__":Str))=false:=by decide):PE X (.Name x pos) (lG i):=by
 intro f s n H Q I h;obtain⟨v,e,h⟩:=h;obtain⟨m,p,t⟩:=I.loc;obtain⟨u,r,l⟩:=t i x v w e o;have d:EP X f n Q u s:=⟨v,H,I,r,h⟩;rcases l with⟨b,q⟩|⟨b,c,k,a⟩
 .exact wpAny_Name (wpAny_loadName_local I.ok.kind b p q d) g
 .rcases b with b|b
  .exact wpAny_Name (wpAny_loadName_cell I.ok.kind b k a d) g
  .exact wpAny_Name (wpAny_loadName_free I.ok.kind b k a d j) g
theorem iA{i j pos}:PE X (.Constant (.int i) j pos) (tC (.int i)):=λ_ _ _ H _ I h=>wpAny_Constant_int ⟨.int i,H,I.tok _,⟨_,rfl⟩,h⟩
theorem M7{b j pos}:PE X (.Constant (.bool b) j pos) (tC (.bl b)):=λ_ _ _ H _ I h=>Constant_bool ⟨.bl b,H,I,rfl,h⟩
theorem EM{j pos}:PE X (.Constant .none j pos) (tC .bu):=λ_ _ _ H _ I h=>Constant_none ⟨.bu,H,I,rfl,h⟩
theorem Ot{x j pos}:PE X (.Constant (.str x) j pos) (tC (.str x)):=λ_ _ _ H _ I h=>Calls.Constant_str ⟨.str x,H,I.tok _,⟨_,rfl⟩,h⟩
def Gl(X:Cx)(x:Str):Prop:=X.env.kindOf x=some .globalImplicit
theorem eY{E:Value->Shared->Prop}{a:List (Addr×Obj)}{s:Shared}{b:St}{H:Hp}{x:Str}{u:Value}{pos:Pos}{Q:Value->Shared->Prop}(I:Inv X a b H s)(d:Gl X x)(c:X.mg x=some u)(h:Q u s)
 (e:(x==("__debug__":Str))=false:=by decide):wpAny (model X.prog X.w) X.A (eval (.Name x pos) X.env) Q E s:=
 Calls.Name_function_global I.ok.kind d (Calls.loadGlobal_global (by rw[I.ok.glob];exact I.mod.glob.keeps I.bk) c h) e
theorem jk{E:Value->Shared->Prop}{a:List (Addr×Obj)}{s:Shared}{b:St}{H:Hp}{x:Str}{u:Value}{pos:Pos}{Q:Value->Shared->Prop}(I:Inv X a b H s)(f:Gl X x)(e:X.mg x=none)(c:bootBuiltins x=some u)(h:Q u s)
 (d:x≠"__name__":=by decide)(g:(x==("__debug__":Str))=false:=by decide):wpAny (model X.prog X.w) X.A (eval (.Name x pos) X.env) Q E s:=by
 obtain⟨k,j,i⟩:=I.mod.blt;exact Calls.Name_function_global I.ok.kind f (Calls.loadGlobal_builtin (by rw[I.ok.glob];exact I.mod.glob.keeps I.bk) e (by rw[I.ok.blt];exact j.keeps I.bk) ((i x d).trans c) h) g
theorem eZ{x:Str}{v:V}{u:Value}{pos:Pos}(b:Gl X x)(a:X.mg x=some u)(r:RelV v u)(c:(x==("__debug__":Str))=false:=by decide):PE X (.Name x pos) (tC v):=
 λ_ _ _ H _ I h=>eY I b a ⟨v,H,I,r,h⟩ c
theorem Bb{x:Str}{v:V}{u:Value}{pos:Pos}(d:Gl X x)(c:X.mg x=none)(a:bootBuiltins x=some u)(r:RelV v u)(b:x≠"__name__":=by decide)(e:(x==("__debug__":Str))=false:=by decide):PE X (.Name x pos) (tC v):=
 λ_ _ _ H _ I h=>jk I d c a ⟨v,H,I,r,h⟩ b e
variable{a b:Expr}{ta tb:TE}{pos:Pos}
def tB(t:TE):TT:=λd H Q=>t d H λx e=>∃c,x=.bl c/\Q c e
theorem vg{e:Expr}{t:TE}(h:PE X e t)(l:∀c,isTrue e X.env c=(do let v<-c;standAt e.pos;holding [v] (truthy v)):=by intro _;rfl):PT X e (tB t):=by intro f s g H Q I k;refine isTrue_plain (cy (h f s g H _ I k) λv n ⟨x,m,I1,i,j⟩=>?_) (l _);obtain⟨d,rfl,q⟩:=j;cases i;exact ey ⟨m,I1,q⟩
variable{tA Xp:TT}{rest:List Expr}
def Ye(t u:TT):TT:=λd H Q=>t d H λc e=>if c=true then u d e Q else Q false e
def tOr(t u:TT):TT:=λd H Q=>t d H λc e=>if c=true then Q true e else u d e Q
def Yg(t:TT):TT:=λd H Q=>t d H λc e=>Q (!c) e
theorem Bc(g:PT X a tA):PW X (.BoolOp .And [a] pos) tA:=by
 intro i d s f H Q I h;refine isTrue_and (cy (g d s f H Q I h) λc j e=>?_);cases c with
 |true=>exact isTrue_and_nil e
 |false=>exact e
theorem zw(g:PT X a tA):PW X (.BoolOp .Or [a] pos) tA:=by
 intro i d s f H Q I h;refine isTrue_or (cy (g d s f H Q I h) λc j e=>?_);cases c with
 |false=>exact isTrue_or_nil e
 |true=>exact e
theorem EN(l:PT X a tA)(k:PW X (.BoolOp .And (b::rest) pos) Xp):PW X (.BoolOp .And (a::b::rest) pos) (Ye tA Xp):=by
 intro i d s e H Q I h;refine isTrue_and (cy (l d s e H _ I h) λc j ⟨g,I1,f⟩=>?_);cases c with
 |true=>exact k i d j e g Q I1 f
 |false=>exact⟨g,I1,f⟩
theorem EO(l:PT X a tA)(k:PW X (.BoolOp .Or (b::rest) pos) Xp):PW X (.BoolOp .Or (a::b::rest) pos) (tOr tA Xp):=by
 intro i d s e H Q I h;refine isTrue_or (cy (l d s e H _ I h) λc j ⟨g,I1,f⟩=>?_);cases c with
 |true=>exact⟨g,I1,f⟩
 |false=>exact k i d j e g Q I1 f
theorem zx(f:PT X a tA):PT X (.UnaryOp .Not a pos) (Yg tA):=by intro d s e H Q I h;exact isTrue_not (f d s e H (λc g=>Q (!c) g) I h)
noncomputable def UE(ta tb:TE):TE:=λd H Q=>ta d H λx e=>∃c,x=.bl c/\if c=true then tb d e Q else Q (.bl false) e
noncomputable def Yh(ta tb:TE):TE:=λd H Q=>ta d H λx e=>∃c,x=.bl c/\if c=true then Q (.bl true) e else tb d e Q
def UG(ta:TE):TE:=λd H Q=>ta d H λx e=>∃c,x=.bl c/\Q (.bl (!c)) e
theorem ES{op}{t:TE}(h:PE X a t):PE X (.BoolOp op [a] pos) t:=λc s d H Q I e=>BoolOp_one (h c s d H Q I e)
theorem Ou(l:PE X a ta)(k:PE X (.BoolOp .And (b::rest) pos) tb):PE X (.BoolOp .And (a::b::rest) pos) (UE ta tb):=by
 intro d s f H Q I h;refine BoolOp_and (cy (l d s f H _ I h) λv i ⟨x,g,I1,j,e⟩=>?_);obtain⟨c,rfl,e⟩:=e;cases j;refine ey ?_;cases c with
 |true=>exact k d i f g Q I1 e
 |false=>exact⟨.bl false,g,I1,rfl,e⟩
theorem UH(l:PE X a ta)(k:PE X (.BoolOp .Or (b::rest) pos) tb):PE X (.BoolOp .Or (a::b::rest) pos) (Yh ta tb):=by
 intro d s f H Q I h;refine BoolOp_or (cy (l d s f H _ I h) λv i ⟨x,g,I1,j,e⟩=>?_);obtain⟨c,rfl,e⟩:=e;cases j;refine ey ?_;cases c with
 |false=>exact k d i f g Q I1 e
 |true=>exact⟨.bl true,g,I1,rfl,e⟩
theorem Ov(i:PE X a ta):PE X (.UnaryOp .Not a pos) (UG ta):=by intro d s f H Q I h;refine UnaryOp_ (cy (i d s f H _ I h) λv k ⟨x,j,I1,g,e⟩=>?_);obtain⟨c,rfl,e⟩:=e;cases g;exact not_of (ey ⟨.bl (!c),j,I1,rfl,e⟩)
noncomputable def tIf(t:TT)(ta tb:TE):TE:=λd H Q=>t d H λc e=>if c=true then ta d e Q else tb d e Q
theorem ET{c:Expr}(k:PT X c tA)(m:PE X a ta)(l:PE X b tb):PE X (.IfExp c a b pos) (tIf tA ta tb):=by
 intro e s f H Q I h;refine wpAny_IfExp (cy (k e s f H _ I h) λd g ⟨j,I1,i⟩=>?_);cases d with
 |true=>exact m e g f j Q I1 i
 |false=>exact l e g f j Q I1 i
end
noncomputable def gP(K:Frag)(H:Hp)(a:Addr)(c:List V):Prop:=
 Rd H a (.lst c)\/
  ∃(o:Obj)(b:Array Value)(n:Nat),K.lookup a=some o/\o.cls=.type "list"/\o.dict=none/\o.data=.seq b n/\b.size<=sizeLine/\Vals c b.toList
noncomputable def nH(K:Frag)(H:Hp)(a:Addr)(c:List V):Prop:=
 Rd H a (.tup c)\/
  ∃(o:Obj)(b:Array Value)(n:Nat),K.lookup a=some o/\o.cls=.type "tuple"/\o.data=.seq b n/\b.size<=sizeLine/\Vals c b.toList
noncomputable def Yi:Value->Option V
 |.none=>some .bu
 |.bool b=>some (.bl b)
 |.int i _=>some (.int i)
 |.str x _=>some (.str x)
 |.bytes b _=>some (.Et b)
 |.float b _=>some (.Oo b)
 |.ref a=>some (.ref a)
 |.type n=>some (.ty n)
 |_=>none
theorem RelV.abs{x:V}{u:Value}(r:RelV x u):Yi u=some x:=by
 cases x with
 |bu=>cases r;rfl
 |bl _=>cases r;rfl
 |int _=>obtain⟨t,rfl⟩:=r;rfl
 |str _=>obtain⟨t,rfl⟩:=r;rfl
 |Et _=>obtain⟨t,rfl⟩:=r;rfl
 |Oo _=>obtain⟨t,rfl⟩:=r;rfl
 |ref _=>cases r;rfl
 |ty _=>cases r;rfl
theorem RelV.inj{x y:V}{u:Value}(r:RelV x u)(q:RelV y u):x=y:=Kk (r.abs.symm.trans q.abs)
theorem Vals.inj:∀{b a:List V}{us:List Value},Vals b us->Vals a us->b=a
 |_,_,_,.nil,.nil=>rfl
 |_,_,_,.cons r t,.cons c t'=>by rw[r.inj c,Vals.inj t t']
section
variable{X:Cx}{pins:List (Addr×Obj)}{σ:St}{H:Hp}{s:Shared}{a:Addr}{xs ys:List V}
theorem gP.of{K:Frag}(h:H a=some (.lst xs)):gP K H a xs:=.inl (.inl h)
theorem nH.of{K:Frag}(h:H a=some (.tup xs)):nH K H a xs:=.inl (.inl h)
theorem Inv.list(I:Inv X pins σ H s)(h:gP X.K H a xs):∃b:List Value,Vals xs b/\PlainL s.heap a b.toArray/\xs.length<=sizeLine:=by
 rcases h with h|⟨o,b,n,d,g,f,c,hz,r⟩
 .obtain⟨z,b,n,r,e⟩:=h.ok I.hok;exact⟨b,r,⟨_,n,e,rfl,rfl,rfl⟩,z⟩
 .refine⟨b.toList,r,⟨o,n,I.j8 a o d,g,f,by simpa using c⟩,?_⟩;have e:=r.length;simp only[O5]at e;lia
theorem Inv.tuple(I:Inv X pins σ H s)(h:nH X.K H a xs):∃b:List Value,Vals xs b/\IsTup s.heap a b.toArray/\xs.length<=sizeLine:=by
 rcases h with h|⟨o,b,n,d,f,c,hz,r⟩
 .obtain⟨z,b,r,p⟩:=h.ok I.hok;exact⟨b,r,p,z⟩
 .refine⟨b.toList,r,⟨o,I.j8 a o d,f,n,by simpa using c⟩,?_⟩;have e:=r.length;simp only[O5]at e;lia
theorem Inv.qm(I:Inv X pins σ H s)(h:gP X.K H a xs)(h':gP X.K H a ys):xs=ys:=by
 obtain⟨c,r,⟨o,n,e,_,_,d⟩,_⟩:=I.list h;obtain⟨b,i,⟨j,k,f,_,_,g⟩,_⟩:=I.list h';rw[e]at f;cases f;rw[d]at g;injection g with d1 _;have:c=b:=by simpa using Pi ed d1
 subst this;exact r.inj i
theorem Inv.C8(I:Inv X pins σ H s)(h:nH X.K H a xs)(h':nH X.K H a ys):xs=ys:=by
 obtain⟨c,r,⟨o,e,_,n,d⟩,_⟩:=I.tuple h;obtain⟨b,i,⟨j,f,_,k,g⟩,_⟩:=I.tuple h';rw[e]at f;cases f;rw[d]at g;injection g with d1 _;have:c=b:=by simpa using Pi ed d1
 subst this;exact r.inj i
end
abbrev Cx.pC(X:Cx)(E:Value->Shared->Prop):Cx:={X with xe:=E}
abbrev Cx.kH(X:Cx):Cx:=X.pC λ_ _=>False
theorem Cx.Ok.pC{X:Cx}(a:X.Ok)(E:Value->Shared->Prop):(X.pC E).Ok:=
 ⟨a.mod,a.kind,a.glob,a.blt,a.above,a.inj,a.has,a.TF,a.hd,a.frames,a.stk,a.Xn,a.bs,a.Jq,a.C5,a.C6,a.nG,a.M4,a.tree,a.UD⟩
theorem Cx.Ok.gx{X:Cx}{E:Value->Shared->Prop}(a:(X.pC E).Ok):X.Ok:=
 ⟨a.mod,a.kind,a.glob,a.blt,a.above,a.inj,a.has,a.TF,a.hd,a.frames,a.stk,a.Xn,a.bs,a.Jq,a.C5,a.C6,a.nG,a.M4,a.tree,a.UD⟩
section
variable{X:Cx}{pins:List (Addr×Obj)}{σ:St}{H:Hp}{s:Shared}{E:Value->Shared->Prop}
theorem Inv.pC(I:Inv X pins σ H s)(E:Value->Shared->Prop):Inv (X.pC E) pins σ H s:=⟨I.ok.pC E,I.os,I.bare,I.base,I.loc,I.cell,I.free,I.gq,I.pin,I.hok,I.len⟩
theorem Inv.gx(I:Inv (X.pC E) pins σ H s):Inv X pins σ H s:=⟨I.ok.gx,I.os,I.bare,I.base,I.loc,I.cell,I.free,I.gq,I.pin,I.hok,I.len⟩
theorem SP.gx{D:Ends}{f:Flow}{s':Shared}(h:SP (X.pC E) pins D f s'):SP X pins D f s':=by
 cases f with
 |next=>obtain⟨a,b,I,q⟩:=h;exact⟨a,b,I.gx,q⟩
 |brk=>obtain⟨a,b,I,q⟩:=h;exact⟨a,b,I.gx,q⟩
 |cont=>obtain⟨a,b,I,q⟩:=h;exact⟨a,b,I.gx,q⟩
 |ret u=>obtain⟨v,a,b,I,r,q⟩:=h;exact⟨v,a,b,I.gx,r,q⟩
theorem sX.kH{st:List Stmt}{t:TS}(h:sX X.kH st t):sX X st t:=λpins s σ H D I a=>fo (h pins s σ H D (I.pC _) a) (λ_ _ q=>q.gx) λ_ _ z=>G1 z
end
section
variable{X:Cx}{st:Stmt}{rest:List Stmt}{t u:TS}{e:Expr}{te:TE}{pos:Pos}
def UI:TS:=λD a H=>D.nx a H
def Yj(t u:TS):TS:=λD a H=>t {D with nx:=u D} a H
theorem Be:sX X [] UI:=λ_ _ a H _ I h=>oy ⟨a,H,I,h⟩
theorem bH(i:PS X st t)(g:sX X rest u):sX X (st::rest) (Yj t u):=by
 intro a s c H D I h;refine wpAny_execs_cons (cy (i a s c H {D with nx:=u D} I h) λf d q=>?_);cases f with
 |next=>obtain⟨b,k,j,q⟩:=q;exact g a d b k D j q
 |ret v=>exact q
 |brk=>exact q
 |cont=>exact q
theorem jQ(c:PS X st t):sX X [st] t:=by
 intro a s b H D I h;refine wpAny_execs_cons (cy (c a s b H D I h) λf d q=>?_);cases f with
 |next=>exact oy q
 |ret v=>exact q
 |brk=>exact q
 |cont=>exact q
def Ow:TS:=λD a H=>D.bk a H
theorem EU:PS X (.Break pos) Ow:=λ_ _ a H _ I h=>wpAny_Break ⟨a,H,I,h⟩
theorem Inv.quiet{a:List (Addr×Obj)}{b:St}{H:Hp}{s:Shared}(I:Inv X a b H s):interactive X.env=false:=by simp[interactive,I.ok.kind]
def EV(te:TE):TS:=λD a H=>te a H λ_ b=>D.nx a b
theorem Bf(f:PE X e te)(d:swapsWith e none pos.line X.env=pure false:=by rfl):PS X (.Expr e pos) (EV te):=by intro a s b H D I h;exact wpAny_Expr_any (cy (f a s b H _ I h) λv i ⟨x,g,I1,j,c⟩=>⟨b,g,I1,c⟩) I.quiet d
def Yk(te:TE):TS:=λD a H=>te a H D.rt
theorem kI(f:PE X e te):PS X (.Return (some e) pos) (Yk te):=by intro a s b H D I h;exact wpAny_Return_some (cy (f a s b H _ I h) λv i ⟨x,g,I1,c,d⟩=>⟨x,b,g,I1,c,d⟩)
def UJ:TS:=λD _ H=>D.rt .bu H
theorem Bg:PS X (.Return none pos) UJ:=λ_ _ a H _ I h=>wpAny_Return_none ⟨.bu,a,H,I,rfl,h⟩
noncomputable def Yl(c:TT)(t u:TS):TS:=λD a H=>c a H λb d=>if b=true then t D a d else u D a d
theorem EW{c:Expr}{a b:List Stmt}{tc:TT}(l:PT X c tc)(n:sX X a t)(m:sX X b u):PS X (.If c a b pos) (Yl tc t u):=by
 intro f s g H D I h;refine wpAny_If (cy (l f s g H _ I h) λd i ⟨k,I1,j⟩=>?_);cases d with
 |true=>exact n f i g k D I1 j
 |false=>exact m f i g k D I1 j
end
abbrev TG:=V->St->Hp->(St->Hp->Prop)->Prop
abbrev M8:=List V->St->Hp->(St->Hp->Prop)->Prop
noncomputable def PG(X:Cx)(a:Expr)(t:TG):Prop:=
 ∀(b:List (Addr×Obj))(s:Shared)(d:St)(H:Hp)(v:V)(u:Value)(Q:St->Hp->Prop),Inv X b d H s->RelV v u->t v d H Q->
  wpAny (model X.prog X.w) X.A (assign a X.env u) (λ_ f=>∃c e,Inv X b c e f/\Q c e) X.xe s
noncomputable def UK(X:Cx)(g:List Expr)(t:M8):Prop:=
 ∀(a:List (Addr×Obj))(s:Shared)(c:St)(H:Hp)(d:List V)(e:List Value)(Q:St->Hp->Prop),Inv X a c H s->Vals d e->t d c H Q->
  wpAny (model X.prog X.w) X.A (assignInOrder ((assignEach g X.env).map (·.2)) e) (λ_ h=>∃b f,Inv X a b f h/\Q b f) X.xe s
abbrev Ox:=V->V->V->Hp->(Hp->Prop)->Prop
noncomputable def UL(X:Cx)(t:Ox):Prop:=
 ∀(a:List (Addr×Obj))(s:Shared)(b:St)(H:Hp)(o i v:V)(c d u:Value)(Q:Hp->Prop),Inv X a b H s->RelV o c->RelV i d->RelV v u->t o i v H Q->
  wpAny (model X.prog X.w) X.A (setItem c d u) (λ_ f=>∃e,Inv X a b e f/\Q e) X.xe s
section
variable{X:Cx}{pos:Pos}
def fS(i:Nat):TG:=λv a H Q=>Q (a.set i (some v)) H
theorem Bh{i:Nat}{x:Str}(d:X.N.Nodup)(hi:X.N[i]?=some x)(b:Loc X.env.scope x)(c:X.fn x=true\/X.env.scope.names.lookup x=some .local:=by first|exact .inl rfl|exact .inr rfl|assumption):PG X (.Name x pos) (fS i):=by intro a s f H v u Q I r h;exact wpAny_assign_Name (jj I d hi b r (λg e=>⟨_,H,e,h⟩) c)
def UM:M8:=λb a H Q=>b=[]/\Q a H
def M9(t:TG)(u:M8):M8:=λc b H Q=>∃v r,c=v::r/\t v b H λa d=>u r a d Q
theorem Jy:UK X [] UM:=by intro a s b H c d Q I r h;obtain⟨e,h⟩:=h;subst e;cases r;exact assignInOrder_nil ⟨b,H,I,h⟩
theorem EX{e:Expr}{b:List Expr}{t:TG}{u:M8}(l:PG X e t)(k:UK X b u)
 (j:(assignEach (e::b) X.env).map (·.2)=assign e X.env::(assignEach b X.env).map (·.2):=by rfl):UK X (e::b) (M9 t u):=by
 intro a s d H o q Q I r h;obtain⟨v,p,m,h⟩:=h;subst m;cases r with
 |cons r g=>rw[j];refine assignInOrder_cons (cy (l a s d H _ _ _ I r h) λ_ f ⟨c,n,I1,i⟩=>?_);exact k a f c n _ _ Q I1 g i
noncomputable def Oz(K:Frag)(n:Nat)(t:M8):TG:=λv c H Q=>∃a b,v=.ref a/\nH K H a b/\b.length=n/\t b c H Q
theorem OA{d:List Expr}{k:Nat}{t:M8}{n:Nat}(y:X.calm=true)(h:UK X d t)
 (w:(assignEach d X.env).length=n:=by rfl)(g:(assignEach d X.env).findIdx? (·.1)=none:=by rfl):PG X (.Tuple d k pos) (Oz X.K n t):=by
 intro c s i H v u Q I r f;obtain⟨a,j,A,q,x,f⟩:=f;subst A;cases r;obtain⟨l,rv,p,hz⟩:=I.tuple q;refine assign_Tuple_tuple (I.ok.hd y) p (by simp[w,<-x,rv.length]) g λz m=>?_;have I1:Inv X c i H {s with heap:=z}:=I.kept (t':=s.toks) λb o e=>m b o (Qr (Fu e)) e;exact h c _ i H j _ Q I1 (by simpa using rv) f
noncomputable def UN(b ti:TE)(t:Ox):TG:=λv a H Q=>b a H λo e=>ti a e λi d=>t o i v d λc=>Q a c
theorem OB{o i:Expr}{e ti:TE}{t:Ox}(q:PE X o e)(hi:PE X i ti)(p:UL X t)
 (w:∀v,assign (.Subscript o i pos) X.env v=(do
   let b<-holding [v] (eval o X.env)
   let c<-holding [v,b] (eval i X.env)
   standAt pos
   holding [v,b,c] (setItem b c v)
   release [v,b,c] []):=by intro _;rfl):PG X (.Subscript o i pos) (UN e ti t):=by
 intro a s d H v u Q I r h;rw[w];refine Kt (wpAny_holding (cy (q a s d H _ I h) λb g ⟨x,D,I1,k,n⟩=>?_));refine Kt (wpAny_holding (cy (hi a g d D _ I1 n) λc f ⟨y,C,A,j,m⟩=>?_));refine Kt (wpAny_standAt (Kt (wpAny_holding (cy (p a f d C x y v b c u _ A k j r m) λ_ E ⟨B,z,l⟩=>?_))));exact wpAny_release ⟨d,B,z,l⟩
def nJ(te:TE)(g:TG):TS:=λD a H=>te a H λx b=>g x a b D.nx
theorem zy{tg e:Expr}{te:TE}{g:TG}(l:PE X e te)(k:PG X tg g)(j:swapsWithSole [tg] e pos.line X.env=pure false:=by rfl)(i:swappedStores [tg] e X.env=pure none:=by rfl)
 (m:(assignEach [tg] X.env).map (·.2)=[assign tg X.env]:=by rfl):PS X (.Assign [tg] e pos) (nJ te g):=by
 intro a s b H D I h;refine wpAny_Assign_stores (cy (l a s b H _ I h) λv c ⟨x,n,I1,d,f⟩=>?_) j i;rw[m];exact cy (k a c b n x v _ I1 d f) λ_ o q=>q
theorem iB{i:Nat}{x:Str}{e:Expr}{te:TE}{a:Pos}(m:X.N.Nodup)(hi:X.N[i]?=some x)(g:Loc X.env.scope x)(l:PE X e te)(j:swapsWith e (some (.Name x a)) pos.line X.env=pure false:=by rfl)(k:X.fn x=true\/X.env.scope.names.lookup x=some .local:=by first|exact .inl rfl|exact .inr rfl|assumption):
 PS X (.Assign [.Name x a] e pos) (nJ te (fS i)):=by
 intro b s c H D I h;refine wpAny_Assign_Name (cy (l b s c H _ I h) λv q ⟨y,o,I1,d,f⟩=>?_) j;exact jj I1 m hi g d (λp n=>⟨_,o,n,f⟩) k
noncomputable def Ym(i j:Nat)(ta:TA):TS:=λD a H=>ta a H λb c=>∃v w,b=[v,w]/\D.nx ((a.set i (some v)).set j (some w)) c
theorem OC{i j:Nat}{x y:Str}{a b:Expr}{ta:TA}{n m r:Pos}{t k2 B}(T:X.calm=true)(G:X.N.Nodup)(hi:X.N[i]?=some x)(S:X.N[j]?=some y)(z:i≠j)
 (F:X.env.scope.names.lookup x=some .local)(E:X.env.scope.names.lookup y=some .local)(U:PA X [a,b] ta)
 (Q:swappedStores [.Tuple [.Name x n,.Name y m] t r] (.Tuple [a,b] k2 B) X.env=pure (some [x,y]))
 (R:swapsWithSole [.Tuple [.Name x n,.Name y m] t r] (.Tuple [a,b] k2 B) pos.line X.env=pure false:=by rfl):
 PS X (.Assign [.Tuple [.Name x n,.Name y m] t r] (.Tuple [a,b] k2 B) pos) (Ym i j ta):=by
 intro c s C H D I h;rw[exec_Assign_arm];refine Kt (wpAny_standAt ?_);rw[R];refine Kt (UF ?_);rw[BM (by decide)];refine Kt (Tuple_ (cy (U _ c s C H _ I h) λL g ⟨vs,K,I1,M,l⟩=>?_));obtain⟨v,w,Y,l⟩:=l;subst Y;obtain⟨f,d,rfl,rv,k⟩:∃f d,L=[f,d]/\RelV v f/\RelV w d:=by
  cases M with
  |cons p q=>
   cases q with
   |cons P O=>
    cases O;exact⟨_,_,rfl,p,P⟩
 refine wpAny_newObj_type ?_ (by show 2<=sizeLine;decide);have I2:Inv X c C K {g with heap:=g.heap.push {cls:=.type "tuple",data:=.seq [f,d].toArray}}:=I1.kept (t':=g.toks) λb o e=>FR _ e;rw[Q];refine Kt (UF ?_);show wpAny (model X.prog X.w) X.A (do rule "assign.swapped-stores";let items<-unpackItems (.ref g.heap.objs.size) 2 none;assignInOrder [λv=>bindName X.env y v,λv=>bindName X.env x v] items.reverse;pure Flow.next) _ _ _;refine Kt (wpAny_rule (Kt (unpackItems_tuple (items:= #[f,d]) (I.ok.hd T) (IsTup.new g.heap _) λh' u=>?_)));have I3:=I2.kept (h':=h') (t':=g.toks) λb o e=>u b o (Qr (Fu e)) e;show wpAny _ _ (assignInOrder [λv=>bindName X.env y v,λv=>bindName X.env x v] [d,f]>>=λ_=>pure Flow.next) _ _ _;refine Kt (assignInOrder_cons (wpAny_bindName (jj I3 G S (.inl E) k (λs2 Z=>?_) (.inr E))));refine assignInOrder_cons (wpAny_bindName (jj Z G hi (.inl F) rv (λs3 J=>assignInOrder_nil (UF ?_)) (.inr F)));rw[List.set_comm _ _ (Y2 z)]at J;exact⟨_,K,J,l⟩
noncomputable def OD(c:TT)(h:TS):TS:=λD a H=>∃W:Nat->St->Hp->Prop,(∃m,W m a H)/\∀m a H,W m a H->
 c a H λb f=>if b=true then∃N:St->Hp->Prop,(∀d g,N d g->∃e,e<m/\W e d g)/\h {D with nx:=N,ct:=N,bk:=D.nx} a f else D.nx a f
theorem xJ{c:Expr}{g:List Stmt}{tc:TT}{u:TS}(x:PassesOwn (model X.prog X.w) X.A X.env X.xe)(P:PT X c tc)(Q:sX X g u):PS X (.While c g [] pos) (OD tc u):=by
 intro d s F H D I h;obtain⟨W,⟨O,J⟩,j⟩:=h;refine wpAny_While (codeAny_whileLoop (λn M=>∃i E,Inv X d i E M/\W n i E) ?_ O ⟨F,H,I,J⟩);rintro n L ⟨e,C,I1,G⟩;refine mI x (cy (P d L e C _ I1 (j n e C G)) λb K ⟨B,z,m⟩=>?_);cases b with
 |true=>
  obtain⟨N,y,m⟩:=m;rw[Bi rfl];refine mI x (cy (Q d K e B _ z m) λf R l=>?_);cases f with
  |next=>obtain⟨a,k,t,p⟩:=l;obtain⟨q,r,o⟩:=y a k p;exact⟨q,r,a,k,t,o⟩
  |cont=>obtain⟨a,k,t,p⟩:=l;obtain⟨q,r,o⟩:=y a k p;exact⟨q,r,a,k,t,o⟩
  |brk=>exact l
  |ret v=>exact l
 |false=>rw[BM OK];exact oy ⟨e,B,z,m⟩
end
set_option genInjectivity false in
set_option genSizeOf false in
structure It where
 go:Nat->Hp->Prop
 TH:Nat->Hp->V->Hp->Prop
 stop:Nat->Hp->Prop
noncomputable def qo(X:Cx)(a:List (Addr×Obj))(H:Hp)(b:Addr):Prop:=
 H b=none/\b≠X.env.locals/\b∉X.fs/\(b∈X.ex\/X.s₀.heap.objs.size<=b)/\(∀x c,X.env.cells.lookup x=some c->c≠b)/\∀p∈X.pn++a,p.1≠b
theorem Inv.zA{X:Cx}{a:List (Addr×Obj)}{f:St}{H H':Hp}{s:Shared}{b:Addr}(I:Inv X a f H s)(d:s.heap.objs.size<=b)(h:H' b=none):qo X a H' b:=by
 refine⟨h,Uh (FS I.lt d),I.Yb d,.inr (Bz I.sz d),λx c e z=>?_,λp g z=>?_⟩
 .obtain⟨v,q⟩:=I.cell x c e;exact absurd (FS q.lt (by rw[z];exact d)) (SU _)
 .exact absurd (FS (Fu (I.pin p g).1) (by rw[z];exact d)) (SU _)
structure Turn(P:Program)(w:World)(K:Frag)(tg:Expr)(J:It)(fp:List Addr)(it:Addr)(tn:Nat->Heap->Prop):Prop where
 mem:it∈fp
 obj:∀i h,tn i h->∀b∈fp,∃o,h.get? b=some o/\∀v,o.data≠.cell v
 keep:∀i h h',tn i h->(∀b∈fp,∀o,h.get? b=some o->h'.get? b=some o)->tn i h'
 item:∀(X:Cx),X.prog=P->X.w=w->X.K=K->X.calm=true->∀(i:Nat)(pins:List (Addr×Obj))(s:Shared)(σ:St)(H:Hp)(E:Value->Shared->Prop),Inv X pins σ H s->(∀b∈fp,qo X pins H b)->tn i s.heap->J.go i H->
  wpAny (model P w) X.A (pyNext (.ref it)) (λr s1=>∃u,r=some u/\
   wpAny (model P w) X.A (letOwnedTupleGo tg (.ref it) u) (λ_ s2=>∃x H',Inv X pins σ H' s2/\RelV x u/\J.TH i H x H'/\tn (i+1) s2.heap/\∀b∈fp,H' b=none) E s1) E s
 done:∀(X:Cx),X.prog=P->X.w=w->X.K=K->X.calm=true->∀(i:Nat)(pins:List (Addr×Obj))(s:Shared)(σ:St)(H:Hp)(E:Value->Shared->Prop),Inv X pins σ H s->(∀b∈fp,qo X pins H b)->tn i s.heap->J.stop i H->
  wpAny (model P w) X.A (pyNext (.ref it)) (λr s1=>r=none/\Inv X pins σ H s1) E s
 self:∀(A:Around)(i:Nat)(s:Shared)(Q:Value->Shared->Prop)(E:Value->Shared->Prop),tn i s.heap->Q (.ref it) s->wpAny (model P w) A (pyIter (.ref it)) Q E s
abbrev TI:=St->Hp->(It->Hp->Prop)->Prop
noncomputable def Yo(X:Cx)(a:List (Addr×Obj))(i:St)(tg:Expr)(R:It->Hp->Prop)(c:Value)(f:Shared):Prop:=
 ∃(g:Addr)(h:List Addr)(e:Nat->Heap->Prop)(J:It)(d:Hp),c=.ref g/\Inv X a i d f/\Turn X.prog X.w X.K tg J h g e/\e 0 f.heap/\(∀b∈h,qo X a d b)/\R J d
noncomputable def PI(X:Cx)(tg b:Expr)(d:TI):Prop:=
 ∀(a:List (Addr×Obj))(s:Shared)(c:St)(H:Hp)(R:It->Hp->Prop),Inv X a c H s->d c H R->
  wpAny (model X.prog X.w) X.A (eval b X.env) (λv e=>wpAny (model X.prog X.w) X.A (pyIter v) (Yo X a c tg R) X.xe e) X.xe s
theorem xK{M:Model}{A:Around}{E:Value->Shared->Prop}{s:Shared}{tg:Expr}{b:Addr}{u:Value}{o:Obj}{n:String}{vs:Array Value}{Q:Unit->Shared->Prop}(c:s.heap.get? b=some o)(f:o.cls=.type n)(e:o.data=.fields vs)
 (d:["enumerate","zip","dict_itemiterator","dict_reverseitemiterator","odict_iterator","itertools.zip_longest","itertools.pairwise"].contains n=false)(a:Q () s):wpAny M A (letOwnedTupleGo tg (.ref b) u) Q E s:=by
 unfold letOwnedTupleGo;cases tg<;>first
  |exact UF a
  |(cases u<;>first
     |exact UF a
     |(refine Kt (wpAny_load c ?_)
       rw[f,e];show wpAny M A (if(["enumerate","zip","dict_itemiterator","dict_reverseitemiterator","odict_iterator","itertools.zip_longest","itertools.pairwise"].contains n&&vs[0]?==some (rawInt _))=true then _ else _) Q E s;rw[BM (by intro h;rw[d,Bool.false_and]at h;cases h)];exact UF a))
noncomputable def Yp(K:Frag)(a:Addr):It:=
 ⟨λi H=>∃b x,gP K H a b/\b[i]?=some x,λi H x c=>c=H/\∀b,gP K H a b->b[i]?=some x,λi H=>∃b,gP K H a b/\b.length<=i⟩
noncomputable def Yq(K:Frag)(a:Addr):It:=
 ⟨λi H=>∃b x,nH K H a b/\b[i]?=some x,λi H x c=>c=H/\∀b,nH K H a b->b[i]?=some x,λi H=>∃b,nH K H a b/\b.length<=i⟩
def Na(lo:Int)(n:Nat):It:=⟨λi _=>i<n,λi H x a=>a=H/\x=.int (lo+i),λi _=>n<=i⟩
theorem C9{P:Program}{w:World}{K:Frag}{tg:Expr}(a j:Addr):Turn P w K tg (Yp K a) [j] j (λi h=>h.IsListIter j a i)where
 mem:=by simp
 obj:=λi h f b l=>by
  have e:b=j:=by simpa using l
  subst e;obtain⟨o,e,c,d⟩:=f;exact⟨o,e,λv z=>by rw[d]at z;cases z⟩
 keep:=λi h r f k=>f.at λo e=>k j (by simp) o e
 item:=by intro X C A D O i g s N H E I q f B;subst C A D;obtain⟨Q,x,n,y⟩:=B;obtain⟨t,rv,p,hz⟩:=I.list n;obtain⟨u,U,S⟩:=rv.get y;obtain⟨M,L,Y,J,G,F⟩:=q j (by simp);refine wpAny_pyNext_list_item f p.isList (x:=u) (by simpa using U) λr m R=>?_;have I1:Inv X g N H {s with heap:=r}:=I.turned (t':=s.toks) (λb o l e=>(R.2 b l).trans e) M L J G F;obtain⟨o,e,c,d⟩:=id m;exact⟨u,rfl,xK (s:={s with heap:=r}) e c d (by decide) ⟨x,H,I1,S,⟨rfl,λys T=>by rw[I.qm T n];exact y⟩,m,λb l=>(q b l).1⟩⟩
 done:=by intro X C A D O i g s N H E I q f B;subst C A D;obtain⟨Q,n,y⟩:=B;obtain⟨t,rv,p,hz⟩:=I.list n;obtain⟨M,L,Y,J,G,F⟩:=q j (by simp);have hl:=rv.length;exact wpAny_pyNext_list_end (I.ok.hd O) f p.isList (by simp;lia) λr Z=>⟨rfl,I.turned (t':=s.toks) (λb o l e=>Z b o l e) M L J G F⟩
 self:=λ_ _ _ _ _ f h=>wpAny_pyIter_listiter f h
theorem zB{P:Program}{w:World}{K:Frag}{tg:Expr}(a l:Addr):Turn P w K tg (Yq K a) [l] l (λi h=>h.IsTupleIter l a i)where
 mem:=by simp
 obj:=λi h f b m=>by
  have e:b=l:=by simpa using m
  subst e;obtain⟨o,e,c,d⟩:=f;exact⟨o,e,λv z=>by rw[d]at z;cases z⟩
 keep:=λi h t f k=>f.at λo e=>k l (by simp) o e
 item:=by intro X C A D O i g s N H E I r f B;subst C A D;obtain⟨Q,x,q,y⟩:=B;obtain⟨j,rv,p,hz⟩:=I.tuple q;obtain⟨u,U,S⟩:=rv.get y;obtain⟨M,L,Y,J,G,F⟩:=r l (by simp);refine wpAny_pyNext_tuple_item f (show s.heap.IsTuple a j.toArray from p) (x:=u) (by simpa using U) λt n R=>?_;have I1:Inv X g N H {s with heap:=t}:=I.turned (t':=s.toks) (λb o m e=>(R.2 b m).trans e) M L J G F;obtain⟨o,e,c,d⟩:=id n;exact⟨u,rfl,xK (s:={s with heap:=t}) e c d (by decide) ⟨x,H,I1,S,⟨rfl,λys T=>by rw[I.C8 T q];exact y⟩,n,λb m=>(r b m).1⟩⟩
 done:=by intro X C A D O i g s N H E I r f B;subst C A D;obtain⟨Q,q,y⟩:=B;obtain⟨j,rv,p,hz⟩:=I.tuple q;obtain⟨M,L,Y,J,G,F⟩:=r l (by simp);have hl:=rv.length;exact wpAny_pyNext_tuple_end (I.ok.hd O) f (show s.heap.IsTuple a j.toArray from p) (by simp;lia) λt Z=>⟨rfl,I.turned (t':=s.toks) (λb o m e=>Z b o m e) M L J G F⟩
 self:=λ_ _ _ _ _ f h=>wpAny_pyIter_tupleiter f h
theorem zC{P:Program}{w:World}{K:Frag}{tg:Expr}(d:Addr)(lo:Int)(n:Nat):Turn P w K tg (Na lo n) [d] d (λi h=>IsRangeIter h d (lo+(i:Nat)*1) ((n:Int) -(i:Nat)) 1)where
 mem:=by simp
 obj:=λi h a b f=>by
  have e:b=d:=by simpa using f
  subst e;exact⟨_,a,λv z=>by have G:Data.fields _=Data.cell v:=z;cases G⟩
 keep:=λi h l a k=>k d (by simp) _ a
 item:=by intro X r m u q i c s D H E I j a p;subst r m u;obtain⟨C,B,M,A,y,x⟩:=j d (by simp);have W:=Walks.range (prog:=X.prog) (w:=X.w) (I.ok.hd q) d lo 1 n;refine W.item i s _ _ p a λv l F L g J=>?_;obtain⟨t,rfl⟩:=L;have I1:Inv X c D H {s with heap:=l,toks:=F}:=I.turned (λb o f e=>J b o (by simpa using f) e) C B A y x;refine⟨_,rfl,xK (s:={s with heap:=l,toks:=F}) (n:="range_iterator") g rfl rfl (by decide) ⟨.int (lo+i),H,I1,⟨t,?_⟩,⟨rfl,rfl⟩,g,λb f=>(j b f).1⟩⟩;rw[fI]
 done:=by intro X r m u q i c s D H E I j a p;subst r m u;obtain⟨C,B,M,A,y,x⟩:=j d (by simp);exact wpAny_pyNext_range_end (I.ok.hd q) a (by have:n<=i:=p;lia) λl N=>⟨rfl,I.turned (t':=s.toks) (λb o f e=>N b o f e) C B A y x⟩
 self:=λ_ _ _ _ _ a h=>wpAny_pyIter_rangeiter a h
section
variable{X:Cx}{tg:Expr}
theorem xM{a:List (Addr×Obj)}{c:St}{H:Hp}{s:Shared}{R:It->Hp->Prop}{E:Value->Shared->Prop}{lo hi:Int}{t u v:Tok}{d:Nat}(I:Inv X a c H s)(j: -(2^62)<=lo)(i:lo<2^62)(h: -(2^62)<=hi)(g:hi<2^62)
 (q:R (Na lo (hi -lo).toNat) H):wpAny (model X.prog X.w) X.A (pyIter (.ref s.heap.objs.size)) (Yo X a c tg R) E {s with heap:=s.heap.push {cls:=.type "range",data:=.fields #[.int lo t,.int hi u,.int 1 v]},toks:=d}:=by
 refine wpAny_pyIter_range (IsRange.new ..) (small_one j i h g) ?_;have I1:Inv X a c H {s with heap:=s.heap.push {cls:=.type "range",data:=.fields #[.int lo t,.int hi u,.int 1 v]},toks:=d}:=I.kept λb o e=>FR _ e;refine⟨(s.heap.push {cls:=.type "range",data:=.fields #[.int lo t,.int hi u,.int 1 v]}).objs.size,[(s.heap.push {cls:=.type "range",data:=.fields #[.int lo t,.int hi u,.int 1 v]}).objs.size],_,_,H,rfl,
  I1.kept (t':=d) λb o e=>FR _ e,zC _ lo (hi -lo).toNat,?_,λb f=>?_,q⟩
 .have l:lo+((0:Nat):Int)*1=lo:=by simp
  have k:(((hi -lo).toNat:Nat):Int) -((0:Nat):Int)=Builtin.Range.rangeSize lo hi 1:=by rw[rangeSize_one];split<;>lia
  show IsRangeIter _ _ (lo+((0:Nat):Int)*1) ((((hi -lo).toNat:Nat):Int) -((0:Nat):Int)) 1;rw[l,k];exact PH _ rfl
 .have e:b=(s.heap.push {cls:=.type "range",data:=.fields #[.int lo t,.int hi u,.int 1 v]}).objs.size:=by simpa using f
  subst e;exact I1.zA (D2 _) (I1.hok.fresh (D2 _))
noncomputable def UO(ta:TA):TI:=λa H R=>ta a H λb c=>∃j:Int,b=[.int j]/\-(2^62)<=j/\j<2^62/\R (Na 0 j.toNat) c
noncomputable def UP(ta:TA):TI:=λa H R=>ta a H λb c=>∃i j:Int,b=[.int i,.int j]/\(-(2^62)<=i/\i<2^62/\-(2^62)<=j/\j<2^62)/\R (Na i (j -i).toNat) c
theorem uu{a:Expr}{ta:TA}{p pos:Pos}(m:Gl X "range")(l:X.mg "range"=none)(n:PA X [a] ta)(k:starEach [a] X.env=[(false,eval a X.env)]:=by rfl):PI X tg (.Call (.Name "range" p) [a] [] pos) (UO ta):=by
 intro b s d H R I h;refine Call_ (jk I m l boot_range (bo (cy (n pos b s d H _ I h) λu v ⟨o,w,I1,g,c⟩=>?_) k rfl));obtain⟨j,e,c,i,q⟩:=c;subst e;cases g with
 |cons r f=>
  cases f;obtain⟨t,rfl⟩:=r;exact call_range_1 (xM I1 (by lia) (by lia) c i (by simpa using q))
theorem Dc{a b:Expr}{ta:TA}{p pos:Pos}(x:Gl X "range")(w:X.mg "range"=none)(y:PA X [a,b] ta)(v:starEach [a,b] X.env=[(false,eval a X.env),(false,eval b X.env)]:=by rfl)(d:starEach [b] X.env=[(false,eval b X.env)]:=by rfl):
 PI X tg (.Call (.Name "range" p) [a,b] [] pos) (UP ta):=by
 intro c s k H R I h;refine Call_ (jk I x w boot_range (bo (cy (y pos c s k H _ I h) λA C ⟨z,D,I1,l,g⟩=>?_) (by rw[v,d]) (by rw[d];rfl)));obtain⟨i,j,e,⟨g,u,o,n⟩,q⟩:=g;subst e;cases l with
 |cons r f=>
  cases f with
  |cons m f=>
   cases f;obtain⟨t,rfl⟩:=r;obtain⟨B,rfl⟩:=m;exact call_range_2 (xM I1 g u o n q)
noncomputable def Yr(f:TI)(g:TG)(h:TS):TS:=λD a H=>f a H λJ k=>∃W:Nat->Nat->St->Hp->Prop,(∃m,W 0 m a k)/\∀i m a H,W i m a H->
 (J.stop i H/\D.nx a H)\/(J.go i H/\∃N:St->Hp->Prop,(∀b c,N b c->∃e,e<m/\W (i+1) e b c)/\∀x c,J.TH i H x c->g x a c λd j=>h {D with nx:=N,ct:=N,bk:=D.nx} d j)
noncomputable def qp(a:List Addr)(h:Heap):List (Addr×Obj):=a.filterMap λb=>(h.get? b).map λo=>(b,o)
theorem iC{a:List Addr}{h:Heap}{b:Addr}{o:Obj}(c:b∈a)(e:h.get? b=some o):(b,o)∈qp a h:=Oq.mpr ⟨b,c,by rw[e];rfl⟩
theorem Dd{a:List Addr}{h:Heap}{p:Addr×Obj}(c:p∈qp a h):p.1∈a/\h.get? p.1=some p.2:=by
 obtain⟨b,d,e⟩:=Oq.mp c;cases q:h.get? b with
 |none=>rw[q]at e;cases e
 |some o=>rw[q]at e;have f:(b,o)=p:=Kk e;subst f;exact⟨d,q⟩
theorem Inv.pinned{a:List (Addr×Obj)}{f:St}{H:Hp}{s:Shared}{c:List Addr}(I:Inv X a f H s)(k:∀b∈c,qo X a H b)(j:∀b∈c,∃o,s.heap.get? b=some o/\∀v,o.data≠.cell v):Inv X (a++qp c s.heap) f H s:=
 I.Ba λp i=>(Ha.mp i).elim (λz=>I.pin p (IH _ z)) λz=>by obtain⟨g,e⟩:=Dd z;obtain⟨n,m,l,_⟩:=k p.1 g;obtain⟨o,h,d⟩:=j p.1 g;rw[e]at h;cases h;exact⟨e,n,m,l,d⟩
theorem Inv.lH{a pl:List (Addr×Obj)}{b:St}{H:Hp}{s:Shared}(I:Inv X (a++pl) b H s):Inv X a b H s:=I.Ba λp c=>I.pin p (IH _ (X2 _ c))
theorem OE{k:Expr}{C:List Stmt}{wi:TI}{g:TG}{tb:TS}{pos:Pos}(M:PassesOwn (model X.prog X.w) X.A X.env X.xe)(hc:X.calm=true)(hi:PI X tg k wi)(hg:PG X tg g)(l:sX X C tb)
 (hs:∀x,foldedSetIterable k X.env x=pure x:=by intro _;rfl):PS X (.For tg k C [] pos) (Yr wi g tb):=by
 intro a s σ H D I h;refine wpAny_For (cy (hi a s σ H _ I h) λv s1 h1=>cy h1 λitv s2 h2=>?_) hs;obtain⟨it,P,tn,J,H2,e,I2,T,S,f2,W,⟨m0,w0⟩,E⟩:=h2;subst e;have OG:∀{z:Hp},(∀b∈P,z b=none)->∀b∈P,qo X a z b:=λhn b l=>⟨hn b l,(f2 b l).2⟩;refine codeAny_forLoop_any (λn s'=>∃i j z,Inv X a j z s'/\tn i s'.heap/\(∀b∈P,z b=none)/\W i n j z) ?_ m0 ⟨0,σ,H2,I2,S,λb l=>(f2 b l).1,w0⟩;rintro n s3 ⟨i,c,Q,I3,K,O,w3⟩;rcases E i n c Q w3 with⟨F,qn⟩|⟨go,N,hN,G⟩
 .refine mI M (cy (T.done X rfl rfl rfl hc i a s3 c Q X.xe I3 (OG O) K F) λr s4 ⟨Y,I4⟩=>?_);subst Y;exact oy ⟨c,Q,I4,qn⟩
 .refine mI M (cy (T.item X rfl rfl rfl hc i a s3 c Q X.xe I3 (OG O) K go) λr s4 ⟨u,Y,h4⟩=>?_);subst Y;refine mI M (cy h4 λ_ s5 ⟨x,H5,I5,r5,y5,Z,Xq⟩=>?_);have I5':=I5.pinned (OG Xq) (T.obj _ _ Z);refine mI M (cy (hg _ s5 c H5 x u _ I5' r5 (G x H5 y5)) λ_ s6 ⟨R,H6,I6,q6⟩=>?_);refine mI M (cy (l _ s6 R H6 _ I6 q6) λf U B=>?_);have p:∀{y:St}{t:Hp},Inv X (a++qp P s5.heap) y t U->N y t->∃m,m<n/\∃i j z,Inv X a j z U/\tn i U.heap/\(∀b∈P,z b=none)/\W i m j z:=λ{y t} q L=>by obtain⟨m',hm,w7⟩:=hN y t L;refine⟨m',hm,i+1,y,t,q.lH,T.keep _ _ _ Z λb l o e=>(q.pin (b,o) (IH _ (IH _ (iC l e)))).1,λb l=>?_,w7⟩;obtain⟨o,e,d⟩:=T.obj _ _ Z b l;exact(q.pin (b,o) (IH _ (IH _ (iC l e)))).2.1
  cases f with
  |next=>obtain⟨y,t,q,L⟩:=B;exact p q L
  |cont=>obtain⟨y,t,q,L⟩:=B;exact p q L
  |brk=>obtain⟨y,t,q,B⟩:=B;exact⟨y,t,q.lH,B⟩
  |ret v=>obtain⟨x7,y,t,q,r7,B⟩:=B;exact⟨x7,y,t,q.lH,r7,B⟩
end
abbrev R2:=V->V->Hp->VK->Prop
noncomputable def nK(X:Cx)(f:Value->Value->Sem Value)(r:R2):Prop:=
 ∀(a:List (Addr×Obj))(s:Shared)(b:St)(H:Hp)(x y:V)(v u:Value)(Q:VK),Inv X a b H s->RelV x v->RelV y u->r x y H Q->
  wpAny (model X.prog X.w) X.A (f v u) (EP X a b Q) X.xe s
noncomputable def Ys(X:Cx)(f:Value->Sem Value)(r:V->Hp->VK->Prop):Prop:=
 ∀(a:List (Addr×Obj))(s:Shared)(b:St)(H:Hp)(x:V)(v:Value)(Q:VK),Inv X a b H s->RelV x v->r x H Q->
  wpAny (model X.prog X.w) X.A (f v) (EP X a b Q) X.xe s
noncomputable def dJ(X:Cx)(f:Value)(r:List V->Hp->VK->Prop):Prop:=
 ∀(a:List (Addr×Obj))(s:Shared)(b:St)(H:Hp)(c:List V)(d:List Value)(Q:VK),Inv X a b H s->Vals c d->r c H Q->
  wpAny (model X.prog X.w) X.A (call f d) (EP X a b Q) X.xe s
def Yt(r:R2)(ta b:TE):TE:=λa H Q=>ta a H λx d=>b a d λy c=>r x y c Q
def tUn(r:V->Hp->VK->Prop)(ta:TE):TE:=λa H Q=>ta a H λx b=>r x b Q
noncomputable def rI(C:Int->Int->Prop)(g:Int->Int->V):R2:=λx y H Q=>∃i j,x=.int i/\y=.int j/\C i j/\Q (g i j) H
def Jz(g:Int->Int->V):R2:=λx y H Q=>∃i j,x=.int i/\y=.int j/\Q (g i j) H
def rU(g:Int->V):V->Hp->VK->Prop:=λx H Q=>∃i,x=.int i/\Q (g i) H
section
variable{X:Cx}{a b c:Expr}{ta tb tc:TE}{pos:Pos}
theorem OH(t:PE X a ta)(r:PE X b tb){d:List (Addr×Obj)}{s:Shared}{e:St}{H:Hp}{R:V->V->Hp->Prop}(I:Inv X d e H s)
 (h:ta e H λx H1=>tb e H1 λy g=>R x y g){Q:Value->Shared->Prop}{f:Value->Value->Sem Value}
 (q:∀v u k x y g,Inv X d e g k->RelV x v->RelV y u->R x y g->wpAny (model X.prog X.w) X.A (f v u) Q X.xe k):
 wpAny (model X.prog X.w) X.A (eval a X.env) (λv j=>wpAny (model X.prog X.w) X.A (eval b X.env) (λu i=>wpAny (model X.prog X.w) X.A (f v u) Q X.xe i) X.xe j) X.xe s:=by
 refine cy (t d s e H _ I h) λv l ⟨x,H1,I1,n,p⟩=>?_;refine cy (r d l e H1 _ I1 p) λu k ⟨y,g,z,m,o⟩=>?_;exact q v u k x y g z n m o
theorem UQ{op:Operator}{r:R2}(j:nK X (binaryOp op) r)(l:PE X a ta)(k:PE X b tb):PE X (.BinOp a op b pos) (Yt r ta tb):=by intro d s e H Q I h;exact wpAny_BinOp (OH l k I h λv u f x y n m i g q=>j d f e n x y v u Q m i g q)
theorem UR{op:UnaryOp}{r:V->Hp->VK->Prop}(j:Ys X (unaryOp op) r)(k:PE X a ta):PE X (.UnaryOp op a pos) (tUn r ta):=by intro d s e H Q I h;exact UnaryOp_ (cy (k d s e H _ I h) λv f ⟨x,l,I1,g,i⟩=>j d f e l x v Q I1 g i)
theorem Yu{f:Value->Value->Sem Value}{C:Int->Int->Prop}{g:Int->Int->Int}
 (d:∀(i j:Int)(t u:Tok)(s:Shared)(Q:Value->Shared->Prop)(E:Value->Shared->Prop),C i j->Q (.int (g i j) s.toks) {s with toks:=s.toks+1}->wpAny (model X.prog X.w) X.A (f (.int i t) (.int j u)) Q E s):
 nK X f (rI C λi j=>.int (g i j)):=by
 intro e s o H x y v u Q I m l h;obtain⟨i,j,rfl,rfl,n,q⟩:=h;obtain⟨t,rfl⟩:=m;obtain⟨k,rfl⟩:=l;exact d i j t k s _ _ n ⟨.int (g i j),H,I.tok _,⟨_,rfl⟩,q⟩
theorem US{f:Value->Value->Sem Value}{g:Int->Int->Int}
 (d:∀(i j:Int)(t u:Tok)(s:Shared)(Q:Value->Shared->Prop)(E:Value->Shared->Prop),Q (.int (g i j) s.toks) {s with toks:=s.toks+1}->wpAny (model X.prog X.w) X.A (f (.int i t) (.int j u)) Q E s):
 nK X f (Jz λi j=>.int (g i j)):=by
 intro e s n H x y v u Q I m l h;obtain⟨i,j,rfl,rfl,q⟩:=h;obtain⟨t,rfl⟩:=m;obtain⟨k,rfl⟩:=l;exact d i j t k s _ _ ⟨.int (g i j),H,I.tok _,⟨_,rfl⟩,q⟩
theorem JA{f:Value->Value->Sem Value}{g:Int->Int->Bool}
 (d:∀(i j:Int)(t u:Tok)(s:Shared)(Q:Value->Shared->Prop)(E:Value->Shared->Prop),Q (.bool (g i j)) s->wpAny (model X.prog X.w) X.A (f (.int i t) (.int j u)) Q E s):
 nK X f (Jz λi j=>.bl (g i j)):=by
 intro e s n H x y v u Q I m l h;obtain⟨i,j,rfl,rfl,q⟩:=h;obtain⟨t,rfl⟩:=m;obtain⟨k,rfl⟩:=l;exact d i j t k s _ _ ⟨.bl (g i j),H,I,rfl,q⟩
def Yv(i j:Int):Prop:=0<j/\j<1073741824
def JB(i j:Int):Prop:=0<=j/\j<=1000000/\i.natAbs<2^64
theorem OI:nK X (binaryOp .Add) (Jz λi j=>.int (i+j)):=US λ_ _ _ _ _ _ _ q=>add_int q
theorem OJ:nK X (binaryOp .Sub) (Jz λi j=>.int (i -j)):=US λ_ _ _ _ _ _ _ q=>sub_int q
theorem JC:nK X (binaryOp .Mod) (rI (λ_ j=>j≠0) λi j=>.int (i.fmod j)):=Yu λ_ _ _ _ _ _ _ d q=>mod_int' d q
theorem OL:nK X (binaryOp .Pow) (rI JB λi j=>.int (i^j.toNat)):=Yu λ_ _ _ _ _ _ _ d q=>pow_int_small d.1 d.2.1 d.2.2 q
theorem unI{f:Value->Sem Value}{g:Int->Int}
 (d:∀(i:Int)(t:Tok)(s:Shared)(Q:Value->Shared->Prop)(E:Value->Shared->Prop),Q (.int (g i) s.toks) {s with toks:=s.toks+1}->wpAny (model X.prog X.w) X.A (f (.int i t)) Q E s):
 Ys X f (rU λi=>.int (g i)):=by
 intro e s k H x v Q I j h;obtain⟨i,rfl,q⟩:=h;obtain⟨t,rfl⟩:=j;exact d i t s _ _ ⟨.int (g i),H,I.tok _,⟨_,rfl⟩,q⟩
theorem OM:Ys X (unaryOp .USub) (rU λi=>.int (-i)):=unI λ_ _ _ _ _ q=>neg_int q
end
noncomputable def ON:V->V->Bool
 |.bu,.bu=>true|.bu,.int _=>true|.int _,.bu=>true|.bu,.bl _=>true|.bl _,.bu=>true|.bu,.str _=>true|.str _,.bu=>true
 |.int _,.int _=>true|.bl _,.bl _=>true|.str _,.str _=>true|.Et _,.Et _=>true
 |.int _,.str _=>true|.str _,.int _=>true|.bl _,.str _=>true|.str _,.bl _=>true
 |_,_=>false
def rEq:R2:=λx y H Q=>ON x y=true/\Q (.bl (decide (x=y))) H
def rNe:R2:=λx y H Q=>ON x y=true/\Q (.bl (!decide (x=y))) H
theorem Bj{i j:Int}:decide (V.int i=V.int j)=(i==j):=by rw[n4];simp
theorem EZ{i j:Bool}:decide (V.bl i=V.bl j)=(i==j):=by rw[n4];simp
theorem Bk{i j:Str}:decide (V.str i=V.str j)=(i==j):=by rw[n4];simp
theorem Bm{i j:Array UInt8}:decide (V.Et i=V.Et j)=(i.toList==j.toList):=by rw[n4];cases i;cases j;simp
section
variable{X:Cx}{a b c:Expr}{ta tb tc:TE}{pos:Pos}
theorem aV{d:List (Addr×Obj)}{f:St}{H:Hp}{s:Shared}{Q:VK}{k g:Bool}(I:Inv X d f H s)(q:Q (.bl k) H)(e:k=g):EP X d f Q (.bool g) s:=by subst e;exact⟨.bl k,H,I,rfl,q⟩
theorem Nb:nK X (compareOp .Eq) rEq:=by
 intro k s l H x y v u Q I g d h;obtain⟨f,q⟩:=h;cases x with
 |bu=>
  cases g;cases y with
  |bu=>cases d;exact PySem.EqNone.eq_none_none (aV I q (by simp))
  |bl j=>cases d;exact PySem.EqNone.eq_none_bool (aV I q (by simp))
  |int j=>obtain⟨e,rfl⟩:=d;exact PySem.EqNone.eq_none_int (aV I q (by simp))
  |str j=>obtain⟨e,rfl⟩:=d;exact PySem.EqNone.eq_none_str (aV I q (by simp))
  |_=>exact absurd (show false=true from f) OK
 |bl i=>
  cases g;cases y with
  |bu=>cases d;exact PySem.EqNone.eq_bool_none (aV I q (by simp))
  |bl j=>cases d;exact eq_bool (aV I q EZ)
  |str j=>obtain⟨e,rfl⟩:=d;exact PySem.EqMixed.eq_bool_str (aV I q (by simp))
  |_=>exact absurd (show false=true from f) OK
 |int i=>
  obtain⟨t,rfl⟩:=g;cases y with
  |bu=>cases d;exact PySem.EqNone.eq_int_none (aV I q (by simp))
  |int j=>obtain⟨e,rfl⟩:=d;exact eq_int (aV I q Bj)
  |str j=>obtain⟨e,rfl⟩:=d;exact PySem.EqMixed.eq_int_str (aV I q (by simp))
  |_=>exact absurd (show false=true from f) OK
 |str i=>
  obtain⟨t,rfl⟩:=g;cases y with
  |bu=>cases d;exact PySem.EqNone.eq_str_none (aV I q (by simp))
  |bl j=>cases d;exact PySem.EqMixed.eq_str_bool (aV I q (by simp))
  |int j=>obtain⟨e,rfl⟩:=d;exact PySem.EqMixed.eq_str_int (aV I q (by simp))
  |str j=>obtain⟨e,rfl⟩:=d;exact eq_str (aV I q Bk)
  |_=>exact absurd (show false=true from f) OK
 |Et i=>
  obtain⟨t,rfl⟩:=g;cases y with
  |Et j=>obtain⟨e,rfl⟩:=d;exact PySem.W.eq_bytes (aV I q Bm)
  |_=>exact absurd (show false=true from f) OK
 |_=>cases y<;>exact absurd (show false=true from f) OK
theorem UT:nK X (compareOp .NotEq) rNe:=by
 intro k s l H x y v u Q I g d h;obtain⟨f,q⟩:=h;cases x with
 |bu=>
  cases g;cases y with
  |bu=>cases d;exact PySem.EqNone.ne_none_none (aV I q (by simp))
  |bl j=>cases d;exact PySem.EqNone.ne_none_bool (aV I q (by simp))
  |int j=>obtain⟨e,rfl⟩:=d;exact PySem.EqNone.ne_none_int (aV I q (by simp))
  |str j=>obtain⟨e,rfl⟩:=d;exact PySem.EqNone.ne_none_str (aV I q (by simp))
  |_=>exact absurd (show false=true from f) OK
 |bl i=>
  cases g;cases y with
  |bu=>cases d;exact PySem.EqNone.ne_bool_none (aV I q (by simp))
  |bl j=>cases d;exact ne_bool (aV I q (Pi not EZ))
  |str j=>obtain⟨e,rfl⟩:=d;exact PySem.EqMixed.ne_bool_str (aV I q (by simp))
  |_=>exact absurd (show false=true from f) OK
 |int i=>
  obtain⟨t,rfl⟩:=g;cases y with
  |bu=>cases d;exact PySem.EqNone.ne_int_none (aV I q (by simp))
  |int j=>obtain⟨e,rfl⟩:=d;exact ne_int (aV I q (Pi not Bj))
  |str j=>obtain⟨e,rfl⟩:=d;exact PySem.EqMixed.ne_int_str (aV I q (by simp))
  |_=>exact absurd (show false=true from f) OK
 |str i=>
  obtain⟨t,rfl⟩:=g;cases y with
  |bu=>cases d;exact PySem.EqNone.ne_str_none (aV I q (by simp))
  |bl j=>cases d;exact PySem.EqMixed.ne_str_bool (aV I q (by simp))
  |int j=>obtain⟨e,rfl⟩:=d;exact PySem.EqMixed.ne_str_int (aV I q (by simp))
  |str j=>obtain⟨e,rfl⟩:=d;exact ne_str (aV I q (Pi not Bk))
  |_=>exact absurd (show false=true from f) OK
 |Et i=>
  obtain⟨t,rfl⟩:=g;cases y with
  |Et j=>obtain⟨e,rfl⟩:=d;exact PySem.W.ne_bytes (aV I q (Pi not Bm))
  |_=>exact absurd (show false=true from f) OK
 |_=>cases y<;>exact absurd (show false=true from f) OK
theorem UU:nK X (compareOp .Lt) (Jz λi j=>.bl (decide (i<j))):=JA λ_ _ _ _ _ _ _ q=>lt_int q
theorem UW:nK X (compareOp .LtE) (Jz λi j=>.bl (decide (i<=j))):=JA λ_ _ _ _ _ _ _ q=>le_int q
theorem UX:nK X (compareOp .Gt) (Jz λi j=>.bl (decide (j<i))):=JA λ_ _ _ _ _ _ _ q=>gt_int q
theorem UY:nK X (compareOp .GtE) (Jz λi j=>.bl (decide (j<=i))):=JA λ_ _ _ _ _ _ _ q=>ge_int q
theorem qu(b:Expr){op:CmpOp}(h:op≠.In:=by decide)(d:op≠.NotIn:=by decide):behindInMarks op b=false:=by
 have f:(op==CmpOp.In)=false:=by cases op<;>first|rfl|exact absurd rfl h
 have e:(op==CmpOp.NotIn)=false:=by cases op<;>first|rfl|exact absurd rfl d
 cases b<;>simp[behindInMarks,f,e]
theorem Bo{op:CmpOp}{r:R2}(j:nK X (compareOp op) r)(m:PE X a ta)(l:PE X b tb)(k:behindInMarks op b=false):PE X (.Compare a [op] [b] pos) (Yt r ta tb):=by intro d s e H Q I h;exact wpAny_Compare1 (OH m l I h λv u f x y o n i g q=>j d f e o x y v u Q n i g q) k
theorem qv:(sizeLine:Nat)<2^63:=by rw[sizeLine_eq];decide
theorem zD:nK X (binaryOp .Add) (λx y H Q=>∃i j,x=.str i/\y=.str j/\i.length+j.length<=sizeLine/\Q (.str (i++j)) H):=by intro d s k H x y v u Q I g f h;obtain⟨i,j,rfl,rfl,hz,q⟩:=h;obtain⟨t,rfl⟩:=g;obtain⟨e,rfl⟩:=f;exact add_str (λe l=>⟨.str (i++j),H,I.tok _,⟨_,rfl⟩,q⟩) hz
theorem vals1{x:V}{us:List Value}(r:Vals [x] us):∃u,us=[u]/\RelV x u:=by
 cases r with
 |cons e d=>cases d;exact⟨_,rfl,e⟩
theorem vals2{x y:V}{us:List Value}(r:Vals [x,y] us):∃u w',us=[u,w']/\RelV x u/\RelV y w':=by
 cases r with
 |cons g f=>
  cases f with
  |cons e d=>cases d;exact⟨_,_,rfl,g,e⟩
theorem E2:dJ X (.builtin "abs") (λd H Q=>∃i,d=[.int i]/\Q (.int (if i<0 then-i else i)) H):=by intro e s f H d g Q I r h;obtain⟨i,rfl,q⟩:=h;obtain⟨u,rfl,t,rfl⟩:=vals1 r;exact call_abs_int λu j=>⟨.int (if i<0 then-i else i),H,I.tok _,⟨_,rfl⟩,q⟩
theorem De(g:X.calm=true):dJ X (.builtin "max") (λe H Q=>∃i j,e=[.int i,.int j]/\Q (.int (if j>i then j else i)) H):=by
 intro f s l H e n Q I r h;obtain⟨i,j,rfl,q⟩:=h;obtain⟨u,m,rfl,⟨t,rfl⟩,⟨p,rfl⟩⟩:=vals2 r;refine max_two_ints (I.ok.hd g) λv o k=>⟨_,H,I.kept k,?_,q⟩;by_cases d:j>i
 .rw[Bi d,Bi d];exact⟨_,rfl⟩
 .rw[BM d,BM d];exact⟨_,rfl⟩
theorem Dg(g:X.calm=true):dJ X (.builtin "min") (λe H Q=>∃i j,e=[.int i,.int j]/\Q (.int (if j<i then j else i)) H):=by
 intro f s l H e n Q I r h;obtain⟨i,j,rfl,q⟩:=h;obtain⟨u,m,rfl,⟨t,rfl⟩,⟨p,rfl⟩⟩:=vals2 r;refine min_two_ints (I.ok.hd g) λv o k=>⟨_,H,I.kept k,?_,q⟩;by_cases d:j<i
 .rw[Bi d,Bi d];exact⟨_,rfl⟩
 .rw[BM d,BM d];exact⟨_,rfl⟩
theorem xN:dJ X (.builtin "divmod") (λd H Q=>∃i j,d=[.int i,.int j]/\Yv i j/\∀p,H p=none->Q (.ref p) (upd H p (.tup [.int (i/j),.int (i%j)]))):=by intro f s k H d m Q I r h;obtain⟨i,j,rfl,⟨w,v⟩,q⟩:=h;obtain⟨u,l,rfl,⟨t,rfl⟩,⟨n,rfl⟩⟩:=vals2 r;refine divmod_int (by lia) ?_ (.inl (Y4 (by lia)));rw[Kb i (by lia),YI i (by lia)];have g:H s.heap.objs.size=none:=I.hok.fresh (D2 _);refine⟨.ref s.heap.objs.size,_,?_,rfl,q _ g⟩;refine I.laid (λb o e=>FR _ e) (D2 _) ⟨by simp only[A3,M5];rw[sizeLine_eq];decide,[.int (i/j) s.toks,.int (i%j) (s.toks+1)],.cons ⟨_,rfl⟩ (.cons ⟨_,rfl⟩ .nil),?_⟩;exact⟨_,PH s.heap rfl,rfl,0,rfl⟩
end
structure zE(h:Heap)(x dx C:Addr)(mA:Str->Option Value):Prop where
 obj:h.get? x=some (instObj C dx)
 ns:h.Ns1 dx mA
 ne:dx≠x
theorem Dh{h:Heap}{i:Addr}{f:Str->Option Value}(n:h.Ns1 i f):∃d,h.get? i=some d/\∀b,lookIn b d=some (f b):=by
 obtain⟨o,g,s,k,p,m,_,l⟩:=n;refine⟨o,k,λb=>?_⟩;have e:=l b;unfold nsFind findBy at e;rw[<-Array.find?_toList]at e;unfold lookIn;rw[p];dsimp only;split
 .rename_i y q
  rw[q]at e;exact Pi some e
 .rename_i q
  rw[q]at e;have a:g.toList.any (·.refKey)=false:=by rw[SA];intro y j;obtain⟨z,t,c⟩:=m y (Array.mem_toList_iff.mp j);simp[DictEntry.refKey,c]
  have r:¬g.toList.any (·.refKey)=true:=by rw[a];exact OK
  rw[BM r];exact Pi some e
theorem zE.look{h:Heap}{x d C:Addr}{c:Str->Option Value}(I:zE h x d C c):∃b,PySem.W.InstAt h x (instObj C d) C (some b)/\∀a,lookIn a b=some (c a):=
 let⟨b,ho,hl⟩:=Dh I.ns
 ⟨b,⟨I.obj,rfl,rfl,ho⟩,hl⟩
section
variable{prog:Program}{w:World}{A:Around}{E:Value->Shared->Prop}{s:Shared}{K:Frag}{x dx C f:Addr}{mA:Str->Option Value}{name:Str}{v:Value}
theorem get_map{a:Bool}{Q:Value->Shared->Prop}(X:K.In s.heap)(I:zE s.heap x dx C mA)(g:plainGet K C name=true)(e:hasDictIn K C=true)
 (i:findIn K (.ref C) name=some none)(c:mA name=some v)(b:PySem.W.handedIn v=true)(h:Q v {s with toks:=s.toks+1}):
 wpAny (model prog w) A (getAttr (.ref x) name a) Q E s:=by
 obtain⟨j,J,d⟩:=I.look;exact PySem.W.get_value X J (plainGet_of g).1 (PySem.W.findObj_own e i rfl (by rw[d,c])) b h
theorem E3{pl:Sem Bool}{Q:Value×List Value->Shared->Prop}(X:K.In s.heap)(I:zE s.heap x dx C mA)(a:plainGet K C name=true)
 (g:findIn K (.ref C) name=some (some (.ref f)))(d:isFn K (.ref f)=true)(c:mA name=none)(h:Q (.ref f,[.ref x]) s):
 wpAny (model prog w) A (getMethod (.ref x) name pl) Q E s:=by
 obtain⟨b,J,e⟩:=I.look;exact PySem.W.method_fn X J (plainGet_of a).1 (plainGet_of a).2 g (NA.mp d) (by show(lookIn name b).map (·.isSome)=some false;rw[e,c];rfl) h
theorem JD{ns:List Str}{Q:Unit->Shared->Prop}(X:K.In s.heap)(I:zE s.heap x dx C mA)
 (o:findIn K (.ref C) "__setattr__"=some (some (.builtin "object.__setattr__")))(p:plainOver K C=true)(m:takerIn K C name=some none)(q:hasDictIn K C=true)
 (l:PySem.Within mA ns)(n:ns.length<=sizeLine)
 (h:∀h',zE h' x dx C (λy=>if y=name then some v else mA y)->Heap.SameBut dx s.heap h'->Q () {s with heap:=h',toks:=s.toks+2}):
 wpAny (model prog w) A (setAttr (.ref x) name v) Q E s:=by
 obtain⟨B,J,F⟩:=I.look;refine PySem.W.set_plain X J o (PySem.W.osa_open (s:={s with toks:=s.toks+1}) (r:=none) X J p m λb=>?_);obtain⟨G,t,i⟩:=PySem.W.any_some q;have k:s.heap.get? x=some ⟨.ref C,some dx,.plain,#[]⟩:=I.obj;refine Kt (UF (Kt (Kt (wpAny_loadPart k (Kt (PySem.W.Looks.here (s:={s with toks:=s.toks+1}) (PySem.W.looks_clsIn X t) ?_))))));rw[i];refine UF (a:=some dx) (Kt (UF (Kt ?_)));refine wpAny_nsSet1 (s:={s with toks:=s.toks+1}) I.ns λh' d c=>?_;obtain⟨D,u,z,e,g,j⟩:=d.count (PySem.Within.cons name v l);refine Kt (wpAny_lookBehind e (by rw[g];exact pastItsLine_dict (Bz j (by rw[A3];lia))) ?_);exact UF (h _ ⟨(c.2 _ (Y2 I.ne)).trans I.obj,d,I.ne⟩ c)
theorem E4{R:Result->Shared->Prop}{vs:List Value}{b:List (Str×Value)}(X:K.In s.heap)(c:makesIn K C=true)
 (hi:findIn K (.ref C) "__init__"=some (some (.ref f)))(e:PySem.W.typeIn K (.ref f)=some (.type "function"))
 (h:codeAny (model prog w) (A.under (.builtin "type.__call__" ⟨.ref C::vs,b⟩)) (.call (.ref f) ⟨.ref (s.heap.objs.size+1)::vs,b⟩) (PySem.W.InitBack (s.heap.objs.size+1) R)
   {s with heap:=(s.heap.push emptyDict).push (instObj C s.heap.objs.size)}):
 codeAny (model prog w) A (.call (.ref C) ⟨vs,b⟩) R s:=by
 obtain⟨j,g,d,t,i⟩:=s;exact PySem.W.make_core (PySem.W.makes_of X c) (pj X hi) (λa=>PySem.W.bind_fn X a e) (.inl rfl) h
end
noncomputable def iD(f:Str)(v:V):List (Str×V)->List (Str×V)
 |[]=>[(f,v)]
 |(g,x)::r=>if g=f then(g,v)::r else(g,x)::iD f v r
theorem oM(f g:Str)(v:V):∀c:List (Str×V),(iD f v c).lookup g=if g=f then some v else c.lookup g
 |[]=>by
  show L0 g [(f,v)]=_;by_cases h:g=f
  .have a:(g==f)=true:=NA.mpr h;simp only[L0,a,Bi h]
  .have a:(g==f)=false:=mf.mpr h;simp only[L0,a,BM h]
 |(k,x)::r=>by
  have d:=oM f g v r;rw[show iD f v ((k,x)::r)=(if k=f then(k,v)::r else(k,x)::iD f v r)from rfl];by_cases b:k=f
  .rw[Bi b];by_cases h:g=k
   .have a:(g==k)=true:=NA.mpr h;simp only[L0,a,Bi (h.trans b)]
   .have a:(g==k)=false:=mf.mpr h;simp only[L0,a,BM (λe:g=f=>h (e.trans b.symm))]
  .rw[BM b];by_cases h:g=k
   .have a:(g==k)=true:=NA.mpr h;simp only[L0,a,BM (λe:g=f=>b (h.symm.trans e))]
   .have a:(g==k)=false:=mf.mpr h;simp only[L0,a];exact d
theorem nM(f:Str)(v:V):∀b:List (Str×V),f∈(iD f v b).map (·.1)/\∀g,g∈b.map (·.1)->g∈(iD f v b).map (·.1)
 |[]=>⟨by simp[iD],λg h=>by simp at h⟩
 |(k,x)::r=>by
  obtain⟨d,c⟩:=nM f v r;rw[show iD f v ((k,x)::r)=(if k=f then(k,v)::r else(k,x)::iD f v r)from rfl];by_cases a:k=f
  .rw[Bi a];subst a;exact⟨by simp,λg h=>by simpa using h⟩
  .rw[BM a];refine⟨?_,λg h=>?_⟩
   .rw[N0];exact DL _ d
   .rw[N0]at h⊢;rcases Fh.mp h with e|e
    .exact Fh.mpr (.inl e)
    .exact DL _ (c g e)
theorem oN(f:Str)(v:V):∀b:List (Str×V),(iD f v b).length<=b.length+1
 |[]=>by simp[iD]
 |(k,x)::r=>by
  have ih:=oN f v r;rw[show iD f v ((k,x)::r)=(if k=f then(k,v)::r else(k,x)::iD f v r)from rfl];by_cases a:k=f
  .rw[Bi a,A3,A3];lia
  .rw[BM a,A3,A3];lia
theorem tu.some_of{v:V}{o:Option Value}(r:tu (some v) o):∃u,o=some u/\RelV v u:=by
 cases o with
 |none=>exact(show False from r).elim
 |some u=>exact⟨u,rfl,r⟩
theorem tu.none_of{o:Option Value}(r:tu none o):o=none:=by
 cases o with
 |none=>rfl
 |some u=>exact(show False from r).elim
theorem Di{v:V}{u:Value}(r:RelV v u):PySem.W.handedIn u=true:=by
 cases v with
 |bu=>cases(show u=Value.none from r);rfl
 |bl b=>cases(show u=Value.bool b from r);rfl
 |int i=>obtain⟨t,e⟩:=(show∃t,u=Value.int i t from r);cases e;rfl
 |str x=>obtain⟨t,e⟩:=(show∃t,u=Value.str x t from r);cases e;rfl
 |Et b=>obtain⟨t,e⟩:=(show∃t,u=Value.bytes b t from r);cases e;rfl
 |Oo b=>obtain⟨t,e⟩:=(show∃t,u=Value.float b t from r);cases e;rfl
 |ref a=>cases(show u=Value.ref a from r);rfl
 |ty n=>cases(show u=Value.type n from r);rfl
section
variable{P:Program}{w:World}{H H':Hp}{h h':Heap}{a C dx:Addr}{fs fs':List (Str×V)}
theorem pP(c:lz P w H h)(e:H a=some (.ins C dx fs)):∃b,zE h a dx C b/\(∀f,tu (fs.lookup f) (b f))/\PySem.Within b (fs.map (·.1))/\fs.length<=1000/\H dx=some (.own a):=by obtain⟨d,z,i,g,b,n,r,q⟩:=(show cN P w H h a (.ins C dx fs)from c a _ e);exact⟨b,⟨g,n,i⟩,r,q,z,d⟩
end
structure JE(K:Frag)(C:Addr):Prop where
 pg:plainGet K C Str.empty=true
 hd:hasDictIn K C=true
 po:plainOver K C=true
 sa:findIn K (.ref C) "__setattr__"=some (some (.builtin "object.__setattr__"))
theorem JE.get{K:Frag}{C:Addr}(c:JE K C)(f:Str):plainGet K C f=true:=c.pg
def kJ(K:Frag)(C:Addr)(f:Str):Prop:=findIn K (.ref C) f=some none
theorem kJ.UZ{K:Frag}{C:Addr}{f:Str}(n:kJ K C f):takerIn K C f=some none:=by unfold takerIn;rw[show findIn K (.ref C) f=some none from n];rfl
structure Meth(K:Frag)(C:Addr)(m:Str)(f:Addr):Prop where
 at_:findIn K (.ref C) m=some (some (.ref f))
 fn:isFn K (.ref f)=true
 kp:keepIn K (.ref f)=true
section
variable{X:Cx}{pins:List (Addr×Obj)}{σ:St}{H:Hp}{s:Shared}{a C dx:Addr}{fs:List (Str×V)}{f:Str}{v:V}{A:Around}{E:Value->Shared->Prop}
theorem zF{b:Bool}{Q:Value->Shared->Prop}(I:Inv X pins σ H s)(e:H a=some (.ins C dx fs))(c:JE X.K C)(n:kJ X.K C f)(l:fs.lookup f=some v)
 (h:∀u s',Inv X pins σ H s'->RelV v u->Q u s'):wpAny (model X.prog X.w) A (getAttr (.ref a) f b) Q E s:=by
 obtain⟨g,O,r,_,_,_⟩:=pP I.hok e;obtain⟨u,i,d⟩:=tu.some_of (v:=v) (o:=g f) (by rw[<-l];exact r f);exact get_map I.j8 O (c.get f) c.hd n i (Di d) (h u _ (I.tok _) d)
theorem qw{m:Str}{g:Addr}{pl:Sem Bool}{Q:Value×List Value->Shared->Prop}(I:Inv X pins σ H s)(e:H a=some (.ins C dx fs))(c:JE X.K C)(k:Meth X.K C m g)(l:fs.lookup m=none)
 (h:Q (.ref g,[.ref a]) s):wpAny (model X.prog X.w) A (getMethod (.ref a) m pl) Q E s:=by
 obtain⟨b,O,r,_,_,_⟩:=pP I.hok e;have d:b m=none:=tu.none_of (by rw[<-l];exact r m);exact E3 I.j8 O (c.get m) k.at_ k.fn d h
theorem zG{y:V}{u:Value}{Q:Unit->Shared->Prop}(I:Inv X pins σ H s)(e:H a=some (.ins C dx fs))(c:JE X.K C)(n:kJ X.K C f)(D:fs.length<1000)(m:RelV y u)
 (h:∀s',Inv X pins σ (upd H a (.ins C dx (iD f y fs))) s'->Q () s'):wpAny (model X.prog X.w) A (setAttr (.ref a) f u) Q E s:=by
 obtain⟨j,O,r,i,_,k⟩:=pP I.hok e;have hz:(fs.map (·.1)).length<=sizeLine:=by rw[Ap,sizeLine_eq];lia
 refine JD I.j8 O c.sa c.po n.UZ c.hd i hz λB d l=>h _ ?_;have hd:∃o,B.get? dx=some o:=let⟨o,_,_,e',_⟩:=d.ns;⟨o,e'⟩
 refine I.write (x:=a) (e:=dx) (by rw[e];exact M0) (.inr k) (λb q t z=>(l.2 b t).trans z) hd ?_;refine⟨by rw[ak O.ne];exact k,?_,O.ne,d.obj,_,d.ns,λg=>?_,λg p=>?_⟩
 .have:=oN f y fs;lia
 .show tu ((iD f y fs).lookup g) (if g=f then some u else j g);rw[oM];by_cases q:g=f
  .rw[Bi q,Bi q];exact m
  .rw[BM q,BM q];exact r g
 .by_cases q:g=f
  .rw[q];exact(nM f y fs).1
  .refine(nM f y fs).2 g (i g λz=>p ?_);show(if g=f then some u else j g)=none;rw[BM q];exact z
theorem Inv.made(I:Inv X pins σ H s):Inv X pins σ (upd (upd H s.heap.objs.size (.own (s.heap.objs.size+1))) (s.heap.objs.size+1) (.ins C s.heap.objs.size []))
 {s with heap:=(s.heap.push emptyDict).push (instObj C s.heap.objs.size)}:=by
 have d:(s.heap.push emptyDict).get? s.heap.objs.size=some emptyDict:=PH s.heap rfl;have j:((s.heap.push emptyDict).push (instObj C s.heap.objs.size)).get? (s.heap.objs.size+1)=some (instObj C s.heap.objs.size):=by have:=PH (s.heap.push emptyDict) (o:=instObj C s.heap.objs.size) rfl;rwa [Heap.size_push]at this
 have i:(s.heap.push emptyDict).Ns s.heap.objs.size (λ_=>none):=⟨emptyDict,#[],_,d,rfl,(λe h=>absurd h (by simp)),λ_=>rfl⟩;have I1:=I.laid (a:=s.heap.objs.size) (o:=.own (s.heap.objs.size+1)) (h':=s.heap.push emptyDict) (t':=s.toks) (λb u q=>FR _ q) (D2 _) ⟨_,d⟩;refine I1.laid (a:=s.heap.objs.size+1) (o:=.ins C s.heap.objs.size []) (t':=s.toks) (λb u q=>FR _ q) (km (Heap.size_push _ _)) ?_;have c:s.heap.objs.size≠s.heap.objs.size+1:=Qr (Pl _);refine⟨by rw[ak c,au],Iy _,c,j,λ_=>none,(Heap.Ns1.of_empty i).at λo q=>FR _ q,λ_=>M0,λy g=>absurd rfl g⟩
theorem JF{prog:Program}{w:World}{env:Env}{e:Expr}{f:Str}{pos:Pos}{s:Shared}{Q:Value->Shared->Prop}(c:attributeBase e f env (eval e env)=eval e env)
 (h:wpAny (model prog w) A (eval e env) (λo b=>wpAny (model prog w) A (getAttr o f true) Q E b) E s):wpAny (model prog w) A (eval (.Attribute e f pos) env) Q E s:=
 Attribute_any_ h (by rw[arm_eval_Attribute,c])
end
noncomputable def Yw(K:Frag)(ta:TE)(f:Str):TE:=λd H Q=>ta d H λx c=>∃a C e b v,x=.ref a/\c a=some (.ins C e b)/\JE K C/\kJ K C f/\b.lookup f=some v/\Q v c
noncomputable def U0(K:Frag)(ta g:TE)(f:Str):TS:=λD b H=>g b H λy h=>ta b h λx e=>∃a C d c,x=.ref a/\e a=some (.ins C d c)/\JE K C/\kJ K C f/\c.length<1000/\
 D.nx b (upd e a (.ins C d (iD f y c)))
section
variable{X:Cx}{o e value:Expr}{f:Str}{pos pos' tpos:Pos}{ta tv:TE}
theorem OO(j:PE X e ta)(k:attributeBase e f X.env (eval e X.env)=eval e X.env):PE X (.Attribute e f pos) (Yw X.K ta f):=by intro b s d H Q I h;refine JF k (cy (j b s d H _ I h) λu y hz=>?_);obtain⟨x,r,I1,g,a,C,A,z,v,ex,m,c,n,l,q⟩:=hz;subst ex;obtain rfl:u=Value.ref a:=g;exact zF I1 m c n l λt w p i=>⟨v,r,p,i,q⟩
theorem gy(t:PE X o ta)(p:PE X value tv)(r:swapsWith value (some (.Attribute o f pos')) pos.line X.env=pure false):PS X (.Assign [.Attribute o f pos'] value pos) (U0 X.K ta tv f):=by intro b s d H D I h;refine plainObj_wpAny_Assign_Attribute (cy (p b s d H _ I h) λu g ⟨y,A,I1,i,q⟩=>cy (t b g d A _ I1 q) λm E hz=>?_) r;obtain⟨x,J,z,j,a,C,G,F,ex,v,c,n,l,k⟩:=hz;subst ex;obtain rfl:m=Value.ref a:=j;exact zG z v c n l i λB w=>⟨d,_,w,k⟩
end
section
variable{X:Cx}{pins:List (Addr×Obj)}{σ:St}{H:Hp}{s:Shared}{A:Around}{E:Value->Shared->Prop}{Q:Value->Shared->Prop}{c:Value}{b:Bool}
inductive pD(K:Frag)(H:Hp):V->Value->Prop where
 |bu:pD K H .bu (.type "NoneType")
 |bl (x:Bool):pD K H (.bl x) (.type "bool")
 |int (i:Int):pD K H (.int i) (.type "int")
 |str (x:Str):pD K H (.str x) (.type "str")
 |Oo (x:UInt64):pD K H (.Oo x) (.type "float")
 |lst {a:Addr} {xs:List V} (e:H a=some (.lst xs)):pD K H (.ref a) (.type "list")
 |xH {a:Addr} {o:Obj} {xs:List V} (e:H a=some (.xH o (.lst xs))):pD K H (.ref a) (.type "list")
 |tup {a:Addr} {xs:List V} (e:H a=some (.tup xs)):pD K H (.ref a) (.type "tuple")
 |dK {a:Addr} {kvs:List (Key×V)} (e:H a=some (.dK kvs)):pD K H (.ref a) (.type "dict")
 |dT {a:Addr} {kvs:List (List Key×V)} (e:H a=some (.dT kvs)):pD K H (.ref a) (.type "dict")
 |ins {a C dx:Addr} {fs:List (Str×V)} (e:H a=some (.ins C dx fs)) (cl:JE K C) (ha:findIn K (.ref C) "__class__"=some (some (.builtin "object.__class__")))
   (hn:PySem.W.specialIn K (.builtin "object.__class__") "__get__"=some (some (.builtin "getset_descriptor.__get__"))) (htk:PySem.W.takesIn K (.builtin "object.__class__")=some true)
   (hm:mroIn K C (.type "object")=some true):pD K H (.ref a) (.ref C)
theorem fL{x:V}{u t:Value}(I:Inv X pins σ H s)(d:RelV x u)(v:pD X.K H x t)(e:kitOne X.K t c=some b)(h:∀B,Q (.bool b) {s with toks:=B}):
 wpAny (model X.prog X.w) A (call (.builtin "isinstance") [u,c]) Q E s:=by
 cases v with
 |bu=>cases(show u=Value.none from d);exact Ts PySem.W.kitx_none I.j8 M0 e (λz=>nomatch z) h
 |bl y=>cases(show u=Value.bool y from d);exact Ts PySem.W.kitx_bool I.j8 M0 e (λz=>nomatch z) h
 |int i=>obtain⟨t,q⟩:=(show∃t,u=Value.int i t from d);cases q;exact Ts PySem.W.kitx_int I.j8 M0 e (λz=>nomatch z) h
 |str y=>obtain⟨t,q⟩:=(show∃t,u=Value.str y t from d);cases q;exact Ts PySem.W.kitx_str I.j8 M0 e (λz=>nomatch z) h
 |Oo y=>obtain⟨t,q⟩:=(show∃t,u=Value.float y t from d);cases q;exact Ts PySem.W.kitx_float I.j8 M0 e (λz=>nomatch z) h
 |@lst a k f=>
  cases(show u=Value.ref a from d);obtain⟨_,_,n,_,g⟩:=(show cN X.prog X.w H s.heap a (.lst k)from I.hok a _ f);exact Ts PySem.W.kitx_list I.j8 ⟨_,g,rfl⟩ e (λz=>nomatch z) h
 |@xH a D k f=>
  cases(show u=Value.ref a from d);obtain⟨_,_,_,n,_,g⟩:=(show cN X.prog X.w H s.heap a (.xH D (.lst k))from I.hok a _ f);exact Ts PySem.W.kitx_list I.j8 ⟨_,g,rfl⟩ e (λz=>nomatch z) h
 |@tup a k f=>
  cases(show u=Value.ref a from d);obtain⟨_,_,_,p⟩:=(show cN X.prog X.w H s.heap a (.tup k)from I.hok a _ f);obtain⟨o,g,l,_⟩:=p;exact Ts PySem.W.kitx_tuple I.j8 ⟨o,g,l⟩ e (λz=>nomatch z) h
 |@dK a j f=>
  cases(show u=Value.ref a from d);obtain⟨_,_,P,_,p⟩:=(show cN X.prog X.w H s.heap a (.dK j)from I.hok a _ f);obtain⟨o,M,N,g,l,_⟩:=p;exact Ts PySem.W.kitx_dict I.j8 ⟨o,g,l.1⟩ e (λz=>nomatch z) h
 |@dT a j f=>
  cases(show u=Value.ref a from d);obtain⟨_,_,k,_,o,M,N,g,l,_⟩:=(show cN X.prog X.w H s.heap a (.dT j)from I.hok a _ f);exact Ts PySem.W.kitx_dict I.j8 ⟨o,g,l.1⟩ e (λz=>nomatch z) h
 |@ins a C U T f r L F m G=>
  cases(show u=Value.ref a from d);obtain⟨S,O,_⟩:=pP I.hok f;obtain⟨R,J,_⟩:=O.look;exact Ts (PySem.W.kitx_own (r.get _) r.hd L F m G) I.j8 J e (λz=>nomatch z) h
end
structure cX(k:Nat)(A:Around):Prop where
 hd:A.handled=none
 dp:A.depth+3*k+120<recursionLimit
 un:A.units+16*k+200<cLine
theorem cX.mono{j k:Nat}{A:Around}(r:cX k A)(h:j<=k):cX j A:=⟨r.hd,by have:=r.dp;lia,by have:=r.un;lia⟩
theorem cX.deeper{k:Nat}{A:Around}(r:cX (k+1) A)(env:Env):cX k (A.deeper env):=
 ⟨r.hd,by have:=r.dp;show A.depth+1+3*k+120<_;lia,by have:=r.un;show A.units+3+16*k+200<_;lia⟩
theorem zH{A:Around}{C:Addr}{us:List Value}{a:List (Str×Value)}:(A.under (.builtin "type.__call__" ⟨.ref C::us,a⟩)).depth=A.depth+1:=by first|rfl|simp[Around.under,Code.weight,Code.isCreation,Code.isGuard,Code.isCaller,Code.frames,Code.isFrame,guardIds]
theorem zI{A:Around}{C:Addr}{us:List Value}{a:List (Str×Value)}:(A.under (.builtin "type.__call__" ⟨.ref C::us,a⟩)).units=A.units+1:=by first|rfl|simp[Around.under,Code.cUnits,Code.frames,Code.isFrame]
theorem cX.make{k:Nat}{A:Around}(r:cX (k+1) A)(C:Addr)(us:List Value)(a:List (Str×Value)):cX k (A.under (.builtin "type.__call__" ⟨.ref C::us,a⟩)):=
 ⟨r.hd,by have:=r.dp;rw[zH];lia,by have:=r.un;rw[zI];lia⟩
theorem cX.depth{k:Nat}{A:Around}(r:cX k A):A.depth<recursionLimit:=by have:=r.dp;lia
theorem cX.units{k:Nat}{A:Around}(r:cX k A):A.units+64<cLine:=by have:=r.un;lia
def U1:TA:=λ_ H Q=>Q [] H
def Nc(ta:TE)(c:TA):TA:=λa H Q=>ta a H λx e=>c a e λb d=>Q (x::b) d
section
variable{X:Cx}{e:Expr}{es:List Expr}{te:TE}{t:TA}{pos:Pos}
theorem aY:PA X [] U1:=λ_ _ _ _ H Q I h=>Calls.spliced_nil ⟨[],H,I,.nil,h⟩
theorem ay(m:PE X e te)(l:PA X es t)(k:starEach (e::es) X.env=(false,eval e X.env)::starEach es X.env:=by rfl):PA X (e::es) (Nc te t):=by intro pos a s b H Q I h;rw[k];show wpAny _ _ (spliced ((false,eval e X.env)::backTo pos (starEach es X.env))) _ _ s;refine Calls.spliced_cons (cy (m a s b H _ I h) λu d ⟨x,p,I1,g,j⟩=>?_);exact cy (l pos a d b p _ I1 j) λq r ⟨c,o,n,f,i⟩=>⟨x::c,o,n,.cons g f,i⟩
noncomputable def Yx(t:TA):TE:=λc H Q=>t c H λa b=>a.length<=sizeLine/\∀p,b p=none->Q (.ref p) (upd b p (.tup a))
noncomputable def U3(t:TA):TE:=λc H Q=>t c H λa b=>a.length<=sizeLine/\∀p,b p=none->Q (.ref p) (upd b p (.lst a))
theorem zJ{i}(h:PA X es t):PE X (.Tuple es i pos) (Yx t):=by intro a s f H Q I k;refine wpAny_Tuple_spliced (cy (h pos a s f H _ I k) λj c ⟨g,d,I1,r,z,q⟩=>⟨by rw[<-r.length];exact z,?_⟩);have l:d c.heap.objs.size=none:=I1.hok.fresh (D2 _);refine⟨.ref c.heap.objs.size,upd d c.heap.objs.size (.tup g),I1.laid (t':=c.toks) (λb u e=>FR _ e) (D2 _) ?_,rfl,q _ l⟩;exact⟨z,j,r,⟨_,PH _ rfl,rfl,_,rfl⟩⟩
theorem kK(h:PA X es t):PE X (.List es pos) (U3 t):=by intro a s f H Q I j;refine wpAny_List_spliced (cy (h pos a s f H _ I j) λi c ⟨g,d,I1,r,z,q⟩=>⟨by rw[<-r.length];exact z,?_⟩);have k:d c.heap.objs.size=none:=I1.hok.fresh (D2 _);refine⟨.ref c.heap.objs.size,upd d c.heap.objs.size (.lst g),I1.laid (t':=c.toks) (λb u e=>FR _ e) (D2 _) ?_,rfl,q _ k⟩;exact⟨z,i,0,r,PH _ rfl⟩
end
abbrev Sp:=List V->Hp->VK->XK->Prop
abbrev Dj:=List Env->Hp->Shared->XK->Value->Shared->Prop
structure zK(P:Program)(w:World)(K:Frag)(mg:Str->Option Value)(base:Heap)(A:Around)(outer:List Env)(s:Shared)(H:Hp):Prop where
 frames:A.frames=some outer
 mod:Mod K mg base
 bs:∀b o,base.get? b=some o->s.heap.get? b=some o/\H b=none
 Jq:base.objs.size<=s.heap.objs.size
 nG:s.heap.FunFrames base outer
 M4:∀b∈frs outer,H b=none
 hok:lz P w H s.heap
 bare:AllBare s.gens
 tree:P.given.tree=none
noncomputable def CE(a:List Env)(P:Program)(w:World)(H:Hp)(s:Shared)(Q:VK)(u:Value)(s':Shared):Prop:=
 ∃v b,s'.os=s.os/\AllBare s'.gens/\Un (frs a) [] H b s.heap s'.heap/\lz P w b s'.heap/\RelV v u/\Q v b
noncomputable def CR(CX:Dj)(a:List Env)(P:Program)(w:World)(H:Hp)(s:Shared)(Q:VK)(E:XK)(r:Result)(s':Shared):Prop:=
 match r with
 |.ok (.ret u)=>CE a P w H s Q u s'
 |.ok _=>False
 |.error e=>CX a H s E e s'
structure bK(P:Program)(w:World)(K:Frag)(mg:Str->Option Value)(base:Heap)(CX:Dj)(k:Nat)(f:Addr)(fd:FuncData)(ps:List Str)(sp:Sp):Prop where
 len:∀vs H Q E,sp vs H Q E->vs.length=ps.length
 run:∀(A:Around)(outer:List Env)(s:Shared)(H:Hp)(args:Args)(us:List Value)(vs:List V)(Q:VK)(E:XK),cX k A->zK P w K mg base A outer s H->BindsTo s fd args (ps.zip us)->Vals vs us->sp vs H Q E->
  codeAny (model P w) A (.call (.ref f) args) (CR CX outer P w H s Q E) s
theorem bK.imp{P:Program}{w:World}{K:Frag}{mg:Str->Option Value}{base:Heap}{CX:Dj}{k:Nat}{f:Addr}{d:FuncData}{ps:List Str}{sp b:Sp}(F:bK P w K mg base CX k f d ps sp)
 (h:∀vs H Q E,b vs H Q E->sp vs H Q E):bK P w K mg base CX k f d ps b:=
 ⟨λvs H Q E q=>F.len vs H Q E (h _ _ _ _ q),λA a s H c e vs Q E j l m g i=>F.run A a s H c e vs Q E j l m g (h _ _ _ _ i)⟩
theorem zK.make{P:Program}{w:World}{K:Frag}{mg:Str->Option Value}{base:Heap}{A:Around}{a:List Env}{s:Shared}{H:Hp}(e:zK P w K mg base A a s H)(C:Addr)(us:List Value)(b:List (Str×Value)):
 zK P w K mg base (A.under (.builtin "type.__call__" ⟨.ref C::us,b⟩)) a s H:=⟨by first|exact e.frames|(simpa[Around.under,Code.envs,Code.isFrame,pushEnvs]using e.frames),e.mod,e.bs,e.Jq,e.nG,e.M4,e.hok,e.bare,e.tree⟩
section
variable{X:Cx}{pins:List (Addr×Obj)}{σ:St}{H:Hp}{s s':Shared}
theorem Inv.OP(I:Inv X pins σ H s):zK X.prog X.w X.K X.mg X.base X.A X.stack s H:=
 ⟨I.ok.frames,I.ok.mod,I.bs,Bz I.ok.Jq I.sz,I.stack,I.jP,I.hok,I.bare,I.ok.tree⟩
theorem Inv.after{Q:VK}{u:Value}(I:Inv X pins σ H s)(h:CE X.stack X.prog X.w H s Q u s'):EP X pins σ Q u s':=by obtain⟨v,j,os,a,f,e,r,q⟩:=h;obtain⟨i,g,d,t,c⟩:=s';obtain rfl:c=s.os:=os;exact⟨v,j,I.call (h':=i) (g':=g) (d':=d) (t':=t) (ch:=[]) f e a (λb z=>absurd z (by simp)),r,q⟩
end
def U4(sp:Sp)(zL:List V)(E:XK)(t:TA):TE:=λa H Q=>t a H λb c=>sp (b++zL) c Q E
noncomputable def Binds(K:Frag)(b:FuncData)(ps:List Str)(ds:List Value):Prop:=
 ∀(s:Shared)(a:List Value),K.In s.heap->(a++ds).length=ps.length->BindsTo s b ⟨a,[]⟩ (ps.zip (a++ds))
theorem Binds.all{K:Frag}{b:FuncData}{ps:List Str}(h:∀us:List Value,us.length=ps.length->bindArgs b ⟨us,[]⟩=pure (ps.zip us)):Binds K b ps []:=λs us _ a=>by rw[X9]at a⊢;exact .of_eq (h us a)
noncomputable def Passes(CX:Dj)(X:Cx)(E:XK):Prop:=∀(a:List (Addr×Obj))(c:St)(H:Hp)(s:Shared)(e:Value)(b:Shared),Inv X a c H s->CX X.stack H s E e b->X.xe e b
section
variable{X:Cx}{CX:Dj}{k:Nat}{f C:Addr}{fd:FuncData}{ps:List Str}{sp:Sp}{zL:List V}{ds:List Value}{E:XK}{x m:Str}{p pos apos:Pos}{e o:Expr}{es:List Expr}{ta:TE}{t:TA}
theorem vh{a:List (Addr×Obj)}{c:St}{H:Hp}{s:Shared}{Q:VK}{us:List Value}{vs:List V}(F:bK X.prog X.w X.K X.mg X.base CX k f fd ps sp)(j:cX k X.A)(q:Binds X.K fd ps ds)(n:Vals zL ds)(i:Passes CX X E)
 (I:Inv X a c H s)(r:Vals vs us)(h:sp (vs++zL) H Q E):wpAny (model X.prog X.w) X.A (call (.ref f) us) (EP X a c Q) X.xe s:=by
 have d:Vals (vs++zL) (us++ds):=r.append n;have l:(us++ds).length=ps.length:=by rw[<-d.length];exact F.len _ _ _ _ h
 refine wpAny_call (wa (F.run X.A X.stack s H ⟨us,[]⟩ (us++ds) (vs++zL) Q E j I.OP (q s us I.j8 l) d h) λr g b=>?_);cases r with
 |error e=>exact i a c H s e g I b
 |ok fl=>
  cases fl with
  |ret u=>exact I.after b
  |next=>exact G1 b
  |brk=>exact G1 b
  |cont=>exact G1 b
theorem JG(F:bK X.prog X.w X.K X.mg X.base CX k f fd ps sp)(i:cX k X.A)(n:Gl X x)(j:X.mg x=some (.ref f))(l:keepIn X.K (.ref f)=true)(y:Binds X.K fd ps ds)(v:Vals zL ds)(g:Passes CX X E)
 (z:PA X (e::es) t)(c:(x==("__debug__":Str))=false:=by decide)(u:starEach (e::es) X.env=(false,eval e X.env)::starEach es X.env:=by rfl)(b:(backTo pos (starEach es X.env)).any (·.1)=false:=by rfl):
 PE X (.Call (.Name x p) (e::es) [] pos) (U4 sp zL E t):=by
 intro a s d H Q I h;refine eI (eY I n j ?_ c);refine gd (h₀:=X.base) I.ok.mod.Jp l (cy (z pos a s d H _ I h) λD G ⟨B,J,I1,r,q⟩=>⟨I1.j8,?_⟩) u b;exact vh F i y v g I1 r q
structure Mk(K:Frag)(C f:Addr):Prop where
 makes:makesIn K C=true
 init:findIn K (.ref C) "__init__"=some (some (.ref f))
 fn:isFn K (.ref f)=true
 kp:keepIn K (.ref C)=true
theorem E5{a:List (Addr×Obj)}{g:St}{H:Hp}{s:Shared}{Q:VK}{us:List Value}{vs:List V}(M:Mk X.K C f)(F:bK X.prog X.w X.K X.mg X.base CX k f fd ps sp)(y:cX (k+1) X.A)(D:Binds X.K fd ps ds)(B:Vals zL ds)
 (q:Passes CX X E)(I:Inv X a g H s)(r:Vals vs us)
 (h:∀x c,H x=none->H c=none->c≠x->sp (.ref x::(vs++zL)) (upd (upd H c (.own x)) x (.ins C c [])) (λv J=>v=.bu/\Q (.ref x) J) E):
 wpAny (model X.prog X.w) X.A (call (.ref C) us) (EP X a g Q) X.xe s:=by
 have j:=h (s.heap.objs.size+1) s.heap.objs.size (I.hok.fresh (vk _)) (I.hok.fresh (D2 _)) (Qr (Pl _));have d:=Inv.made (C:=C) I;have i:Vals (V.ref (s.heap.objs.size+1)::(vs++zL)) (Value.ref (s.heap.objs.size+1)::(us++ds)):=.cons rfl (r.append B);have z:(Value.ref (s.heap.objs.size+1)::us++ds).length=ps.length:=by have e:=i.length;rw[F.len _ _ _ _ j]at e;exact e.symm
 refine wpAny_call (E4 (f:=f) I.j8 M.makes M.init (NA.mp M.fn) (wa (F.run _ X.stack _ _ ⟨Value.ref (s.heap.objs.size+1)::us,[]⟩ (Value.ref (s.heap.objs.size+1)::(us++ds)) _ _ E (y.make C us [])
  (d.OP.make C us []) (D _ (Value.ref (s.heap.objs.size+1)::us) d.j8 z) i j) λr l b=>?_))
 cases r with
 |error e=>exact q a g _ _ e l d b
 |ok fl=>
  cases fl with
  |ret u=>obtain⟨v,L,G,rv,ev,n⟩:=d.after b;subst ev;exact⟨rv,⟨V.ref (s.heap.objs.size+1),L,G,rfl,n⟩⟩
  |next=>exact G1 b
  |brk=>exact G1 b
  |cont=>exact G1 b
end
section
variable{X:Cx}{CX:Dj}{k:Nat}{f C:Addr}{fd:FuncData}{ps ks:List Str}{sp:Sp}{E:XK}{x m:Str}{p pos apos kpos:Pos}{e o:Expr}{es:List Expr}{kws:List Keyword}{te ta:TE}{t tk:TA}{nm:Option Str}
variable{g:List Value->List Value->List Value}{gV:List V->List V->List V}
end
structure cI(N P:List Str)(sc:Scope):Prop where
 kind:sc.kind=.function
 co:sc.isCoroutine=false
 gen:sc.isGenerator=false
 nd:N.Nodup
 pre:N.take P.length=P
 par:∀x∈P,sc.names.lookup x=some .local\/sc.names.lookup x=some .cell
 OQ:∀y∈sc.names,y.2≠.free
theorem uv{b:Str->Option NameKind}{x:Str}:∀{a:List (Str×Value)}{m:Str->Option Value},(∀v,(x,v)∉a)->bindL b a m x=m x
 |[],_,_=>rfl
 |(n,v)::r,m,h=>by
  unfold bindL;rw[uv λw c=>h w (DL _ c)];split
  .have:x≠n:=by rintro rfl;exact h v Dx
   simp[this]
  .rfl
theorem uw{b:Str->Option NameKind}{x:Str}:∀{a:List (Str×Value)}{m:Str->Option Value},(∀v,(x,v)∉a)->bindC b a m x=m x
 |[],_,_=>rfl
 |(n,v)::r,m,h=>by
  unfold bindC;rw[uw λw c=>h w (DL _ c)];split
  .rfl
  .have:x≠n:=by rintro rfl;exact h v Dx
   simp[this]
theorem ux{a:Str->Option NameKind}{x:Str}{v:Value}:∀{P:List Str}{vs:List Value}{i:Nat}{m:Str->Option Value},P.Nodup->P[i]?=some x->vs[i]?=some v->a x=some .local->
 bindL a (P.zip vs) m x=some v
 |[],_,_,_,_,h,_,_=>by simp at h
 |_::_,[],_,_,_,_,h,_=>by simp at h
 |p::P,w::vs,0,m,d,c,b,e=>by simp at c b;subst c;subst b;show bindL a ((p,w)::P.zip vs) m p=_;unfold bindL;rw[uv λv f=>(cx.mp d).1 (XG f).1,Bi e];simp
 |p::P,w::vs,i+1,m,d,c,b,e=>by show bindL a ((p,w)::P.zip vs) m x=_;unfold bindL;exact ux (i:=i) (cx.mp d).2 (by simpa using c) (by simpa using b) e
theorem uy{a:Str->Option NameKind}{x:Str}{v:Value}:∀{P:List Str}{vs:List Value}{i:Nat}{m:Str->Option Value},P.Nodup->P[i]?=some x->vs[i]?=some v->a x≠some .local->
 bindC a (P.zip vs) m x=some v
 |[],_,_,_,_,h,_,_=>by simp at h
 |_::_,[],_,_,_,_,h,_=>by simp at h
 |p::P,w::vs,0,m,d,c,b,e=>by simp at c b;subst c;subst b;show bindC a ((p,w)::P.zip vs) m p=_;unfold bindC;rw[uw λv f=>(cx.mp d).1 (XG f).1,BM e];simp
 |p::P,w::vs,i+1,m,d,c,b,e=>by show bindC a ((p,w)::P.zip vs) m x=_;unfold bindC;exact uy (i:=i) (cx.mp d).2 (by simpa using c) (by simpa using b) e
def start(N:List Str)(vs:List V):St:=vs.map some++A6 (N.length -vs.length) none
noncomputable def zM(CX:Dj)(P:Program)(w:World)(K:Frag)(mg:Str->Option Value)(base:Heap)(N:List Str)(b:Str)(a:Scope)(f:Addr)(d:Value)(A:Around)(outer:List Env)(s:Shared)(H:Hp)(E:XK):Cx where
 prog:=P
 w:=w
 K:=K
 mg:=mg
 base:=base
 A:=A.deeper (envOfC b a s.heap.objs.size f d)
 N:=N
 s₀:=s
 H₀:=H
 env:=envOfC b a s.heap.objs.size f d
 outer:=outer
 stack:=envOfC b a s.heap.objs.size f d::outer
 ex:=[]
 calm:=true
 fn:=λ_=>true
 pn:=[]
 xe:=λe g=>wpAny (model P w) (A.deeper (envOfC b a s.heap.objs.size f d)) (leaving (envOfC b a s.heap.objs.size f d) e) (λ_ c=>CX outer H s E e c) (λh c=>CX outer H s E h c) g
theorem xO{sc:Scope}{n:Nat}{x:Str}(h:sc.names.lookup x=some .cell):∃c,(cellsFrom n sc.names []).lookup x=some c:=by have q:=PySem.W.cellsFrom_some sc.names n [] (.inl h);exact dk.mp q
theorem Dk{CX:Dj}{P:Program}{w:World}{K:Frag}{mg:Str->Option Value}{base:Heap}{N ps:List Str}{l:Str}{d:Scope}{f:Addr}{G:Value}{A:Around}{g:List Env}{s J:Shared}{H:Hp}{E:XK}{us:List Value}{vs:List V}
 (S:cI N ps d)(R:A.handled=none)(Q:A.depth+110<recursionLimit)(j:zK P w K mg base A g s H)(Z:vs.length=ps.length)(r:Vals vs us)
 (x:InCallC s s.heap.objs.size (bindL (envOfC l d s.heap.objs.size f G).kindOf (ps.zip us) λ_=>none) (cellsFrom (s.heap.objs.size+1) d.names []) (bindC (envOfC l d s.heap.objs.size f G).kindOf (ps.zip us) λ_=>none) J):
 Inv (zM CX P w K mg base N l d f G A g s H E) [] (start N vs) H J:=by
 have M:ps.length<=N.length:=by have:=Pi el S.pre;rw[dA]at this;lia
 obtain⟨F,X,rfl,C⟩:=x.done;have I:∀b:Addr,b∉(zM CX P w K mg base N l d f G A g s H E).ex:=λb z=>absurd (show b∈([]:List Addr)from z) (by simp);refine⟨⟨j.mod,S.kind,rfl,rfl,D2 _,λy z c F m=>?_,λy o=>?_,λy c _ h=>?_,λ_=>R,Around.frames_deeper j.frames,.inr ⟨rfl,rfl⟩,λb z=>absurd z (I b),j.bs,j.Jq,λb _ _=>I b,λb z=>absurd z (I b),j.nG,j.M4,j.tree,λA' Y O U C=>PylongRoom.of (j.mod.nolimit.keeps C) (by rw[U];show A.depth+1+100<_;lia) (SeerAt.of (j.mod.seer.keeps C) j.tree (O.trans (Around.frames_deeper j.frames)) S.gen S.co rfl rfl)⟩,
  rfl,j.bare,Un.kept C,⟨_,x.toInCall.ns,λi y v F m h3=>?_⟩,λy c h=>⟨_,x.cell y c h⟩,j.hok.fresh (D2 _),λy c h=>?_,λp B=>absurd (show p∈([]:List (Addr×Obj))from B) (by simp),j.hok.kept C,?_⟩
 .exact name_of_addr x.apart (SZ F) (SZ m)
 .have o:d.names.lookup y=some .cell\/d.names.lookup y=some .free:=o;rcases o with o|o
  .exact xO o
  .exact absurd rfl (S.OQ _ (SZ o))
 .exact SC (x.above y c (SZ h))
 .have D:i<vs.length:=by
   unfold start at m;by_cases D:i<vs.length
   .exact D
   .rw[Jn (by simpa using D)]at m;rw[oC]at m;split at m<;>cases m
  have T:vs[i]?=some v:=by
   unfold start at m;rw[PP (by simpa using D),Da]at m;cases e:vs[i]? with
   |none=>rw[e]at m;cases m
   |some a=>rw[e]at m;cases m;rfl
  obtain⟨u,L,rv⟩:=r.get T;have B:ps[i]?=some y:=by rw[<-S.pre,mm (by lia)];exact F
  have t:ps.Nodup:=by rw[<-S.pre];exact S.nd.sublist (R1 _ _)
  refine⟨u,rv,?_⟩;rcases S.par y (PQ B)with k|k
  .exact .inl ⟨k,ux t B L k⟩
  .obtain⟨c,e⟩:=xO (n:=s.heap.objs.size+1) k;refine .inr ⟨.inl k,c,e,?_⟩;have q:=x.cell y c e;rw[uy t B L (by show d.names.lookup y≠_;rw[k];decide)]at q;exact q
 .exact j.hok.fresh (SC (x.above y c (SZ h)))
 .unfold start;show _=N.length;rw[GM,Ap,List.length_replicate];lia
theorem Nd{CX:Dj}{P:Program}{w:World}{K:Frag}{mg:Str->Option Value}{base:Heap}{k:Nat}{f:Addr}{l d:Str}{h:Arguments}{i:List Stmt}{a:Scope}{Y kV F X g Z oc:Value}{an od:Option Addr}
 {M:Array (Option Value)}{N ps:List Str}{sp:Sp}(lk:K.lookup f=some ⟨oc,od,.func (fnOf l d h i a Y kV F X an g Z),M⟩)(R:codeIn K g d=true)(S:cI N ps a)
 (B:∀vs H Q E,sp vs H Q E->vs.length=ps.length)
 (p:∀(A:Around)(c:List Env)(s:Shared)(H:Hp)(vs:List V)(Q:VK)(E:XK),cX k (A.deeper (envOfC d a s.heap.objs.size f g))->sp vs H Q E->
   ∃t,sX (zM CX P w K mg base N d a f g A c s H E) i t/\t {nx:=λ_ H'=>Q .bu H',rt:=Q} (start N vs) H):
 bK P w K mg base CX (k+1) f (fnOf l d h i a Y kV F X an g Z) ps sp:=by
 refine⟨B,λA c s H args us vs Q E G D hb r U=>?_⟩;have hl:=B _ _ _ _ U;have KX:K.In s.heap:=D.mod.Jp.keeps λb o e=>(D.bs b o e).1;have O:s.heap.NoLimit:=D.mod.nolimit.keeps λb o e=>(D.bs b o e).1;have m:∀y∈ps.zip us,a.names.lookup y.1=some .local\/(a.names.lookup y.1=some .cell/\((cellsFrom (s.heap.objs.size+1) a.names []).lookup y.1).isSome=true):=λ⟨n,v⟩ hy=>by
  rcases S.par n (XG hy).1 with q|q
  .exact .inl q
  .exact .inr ⟨q,PySem.W.cellsFrom_some _ _ _ (.inl q)⟩
 refine codeAny_call_function G.depth (KX _ _ lk) rfl S.co S.gen rfl (PySem.W.codeRec_of KX R) (hb _ _ _ _ ?_);refine wpAny_newFunctionEnv_cells S.kind m λenv he T x=>?_;subst he;refine⟨O.keeps x.toInCall.keep,codeAny_func ?_⟩;obtain⟨t,ht,hq⟩:=p A c s H vs Q E (G.deeper _) U;have I:Inv (zM CX P w K mg base N d a f g A c s H E) [] (start N vs) H T:=Dk S G.hd (by have:=G.dp;lia) D hl r x;refine fo (ht [] T (start N vs) H _ I hq) (λfl L z=>?_) λe L z=>z;have C:∀{j:St}{H':Hp}{v:V}{u:Value},Inv (zM CX P w K mg base N d a f g A c s H E) [] j H' L->RelV v u->Q v H'->CE c P w H s Q u L:=
  λ{j H' v u} J rv q=>⟨v,H',J.os,J.bare,J.base,J.hok,rv,q⟩
 cases fl with
 |ret u=>obtain⟨v,j,H',J,rv,q⟩:=z;exact C J rv q
 |next=>obtain⟨j,H',J,q⟩:=z;exact C (v:=V.bu) (u:=Value.none) J rfl q
 |brk=>obtain⟨_,_,_,q⟩:=z;exact G1 q
 |cont=>obtain⟨_,_,_,q⟩:=z;exact G1 q
section
variable{X:Cx}{x:Str}{p pos:Pos}{e:Expr}{es:List Expr}{t:TA}{id T:String}{r:List V->Hp->VK->Prop}
def tCB(r:List V->Hp->VK->Prop)(t:TA):TE:=λa H Q=>t a H λb c=>r b c Q
theorem cS(u:dJ X (.builtin id) r)(o:Gl X x)(n:X.mg x=none)(l:bootBuiltins x=some (.builtin id))(v:PA X (e::es) t)(m:x≠"__name__":=by decide)(c:(x==("__debug__":Str))=false:=by decide)
 (q:starEach (e::es) X.env=(false,eval e X.env)::starEach es X.env:=by rfl)(b:(backTo pos (starEach es X.env)).any (·.1)=false:=by rfl):PE X (.Call (.Name x p) (e::es) [] pos) (tCB r t):=by
 intro a s d H Q I h;refine eI (jk I o n l ?_ m c);exact fc (cy (v pos a s d H _ I h) λg i ⟨f,w,I1,j,k⟩=>u a i d w f g Q I1 j k) q b
theorem Dl(u:dJ X (.type T) r)(o:Gl X x)(n:X.mg x=none)(l:bootBuiltins x=some (.type T))(v:PA X (e::es) t)(m:x≠"__name__":=by decide)(c:(x==("__debug__":Str))=false:=by decide)
 (q:starEach (e::es) X.env=(false,eval e X.env)::starEach es X.env:=by rfl)(b:(backTo pos (starEach es X.env)).any (·.1)=false:=by rfl):PE X (.Call (.Name x p) (e::es) [] pos) (tCB r t):=by
 intro a s d H Q I h;refine eI (jk I o n l ?_ m c);exact bo (cy (v pos a s d H _ I h) λg i ⟨f,w,I1,j,k⟩=>u a i d w f g Q I1 j k) q b
end
end L2
namespace HT
open PySem PyProof.Rows
section
open PySem.SeqAt
open PySem.AutoSeq1 (wpAny_loadPart')
open PySem.MeetsSeq PySem.MeetsSeq2 PySem.MeetsSeq3
end
section
variable{prog:Program}{w:World}{A:Around}{E:Value->Shared->Prop}{s:Shared}
theorem JH{t b:Addr}{vs a:List Value}{Q:Value->Shared->Prop}(v:IsTup s.heap t vs.toArray)(x:IsTup s.heap b a.toArray)(p:vs≠[])
 (z:a=[]->Q (.ref t) s)(y:a≠[]->Q (.ref s.heap.objs.size) {s with heap:=s.heap.push {cls:=.type "tuple",data:=.seq (vs++a).toArray}})
 (k:vs.length+a.length<=sizeLine):wpAny (model prog w) A (binaryOp .Add (.ref t) (.ref b)) Q E s:=by
 obtain⟨⟨cls,u,data,m⟩,j,r,n,q⟩:=id v;obtain⟨⟨B,h,l,d⟩,c,g,o,f⟩:=id x;simp only at r q g f;subst r q g f;have e:vs.toArray++a.toArray=(vs++a).toArray:=by simp
 by_cases i:a=[]
 .exact concat_meets ⟨_,j,rfl⟩ ⟨_,c,rfl⟩ noFill_tuple_add seq_tuple_add PySem.F.slot_tuple_add PySem.F.entry_tuple_add (PySem.F.args_tuple_add_2 _ _)
   (tuple_addW1 t b vs.toArray a.toArray n o u h m d (by simpa using p) (by simp[i])) ⟨j,c,z i⟩
 .refine concat_meets ⟨_,j,rfl⟩ ⟨_,c,rfl⟩ noFill_tuple_add seq_tuple_add PySem.F.slot_tuple_add PySem.F.entry_tuple_add (PySem.F.args_tuple_add_2 _ _)
   (tuple_addW2 t b vs.toArray a.toArray n o u h m d (by simpa using p) (by simpa using i) (by rw[Fk,Fk];exact k)) ⟨j,c,?_⟩
  rw[e];exact y i
noncomputable def uz(n d:Nat):Option Int->Nat
 |none=>d
 |some v=>if v<0 then(v+(n:Int)).toNat else min v.toNat n
theorem xP(n d:Nat):uz n d none=d:=rfl
theorem Bq(n d k:Nat):uz n d (some (k:Int))=min k n:=by show(if(k:Int)<0 then((k:Int)+(n:Int)).toNat else min (k:Int).toNat n)=min k n;rw[BM (by lia),Io]
end
end HT
namespace L2
open PySem PySem.Spec PyProof.Rows
abbrev TO:=St->Hp->(Option Int->Hp->Prop)->Prop
noncomputable def PO(X:Cx)(e:Option Expr)(t:TO):Prop:=
 ∀(a:List (Addr×Obj))(s:Shared)(b:St)(H:Hp)(Q:Option Int->Hp->Prop),Inv X a b H s->t b H Q->
  wpAny (model X.prog X.w) X.A (evalPart e X.env) (λu d=>∃o c,Inv X a b c d/\IsPart u o/\Q o c) X.xe s
def JI:TO:=λ_ H Q=>Q none H
def U6(t:TE):TO:=λa H Q=>t a H λx b=>∃i,x=.int i/\Q (some i) b
theorem intsAre_of{ns:List Int}:∀{us:List Value},Vals (ns.map V.int) us->IntsAre us ns:=by
 induction ns with
 |nil=>intro us r;rw[S0]at r;cases r;exact .nil
 |cons n ns c=>
  intro us r;rw[N0]at r;cases r with
  |cons b a=>obtain⟨t,e⟩:=b;subst e;exact .cons n t (c a)
section
variable{X:Cx}{e:Expr}{te:TE}{lo hi:Option Expr}{tl th:TO}{pos p2:Pos}
theorem JJ:PO X none JI:=by intro a s b H Q I h;rw[evalPart_none];exact UF ⟨none,H,I,.none,h⟩
theorem JK(h:PE X e te):PO X (some e) (U6 te):=by intro a s b H Q I f;rw[evalPart_some];refine cy (h a s b H _ I f) λu j ⟨x,g,I1,c,d⟩=>?_;obtain⟨i,rfl,q⟩:=d;obtain⟨t,rfl⟩:=c;exact⟨some i,g,I1,.int i t,q⟩
noncomputable def SlR(X:Cx)(r:V->Option Int->Option Int->Hp->VK->Prop):Prop:=
 ∀(a:List (Addr×Obj))(s:Shared)(b:St)(H:Hp)(x:V)(v d c:Value)(lo hi:Option Int)(f:Addr)(Q:VK),Inv X a b H s->RelV x v->s.heap.IsSliceOf f d c .none->IsPart d lo->IsPart c hi->r x lo hi H Q->
  ∃T g,typeLookup (.type T) "__getitem__"=pure (some (.builtin g))/\s.TypeIs v T/\wpAny (model X.prog X.w) X.A (getItem v (.ref f)) (EP X a b Q) X.xe s
noncomputable def tSl(r:V->Option Int->Option Int->Hp->VK->Prop)(te:TE)(tl th:TO):TE:=λa H Q=>te a H λx d=>tl a d λl c=>th a c λu b=>r x l u b Q
theorem E6{r:V->Option Int->Option Int->Hp->VK->Prop}(C:SlR X r)(F:PE X e te)(D:PO X lo tl)(z:PO X hi th):PE X (.Subscript e (.Slice lo hi none p2) pos) (tSl r te tl th):=by intro a s d H Q I h;refine Subscript_ (cy (F a s d H _ I h) λv k ⟨x,N,I1,m,p⟩=>?_);refine wpAny_Slice (cy (D a k d N _ I1 p) λg j ⟨l,M,L,y,o⟩=>cy (z a j d M _ L o) λf c ⟨u,i,K,t,n⟩=>?_);rw[evalPart_none];refine UF ?_;have J:Inv X a d i {c with heap:=c.heap.push {cls:=.type "slice",data:=.fields #[g,f,.none]}}:=K.kept (t':=c.toks) λb O q=>FR _ q;obtain⟨T,P,G,B,E⟩:=C a {c with heap:=c.heap.push {cls:=.type "slice",data:=.fields #[g,f,.none]}} d i x v g f l u c.heap.objs.size Q J m (Heap.IsSliceOf.new ..) y t n;show wpAny (model X.prog X.w) X.A (subscriptTail e (.Slice lo hi none p2) v (.ref c.heap.objs.size)) (EP X a d Q) X.xe {c with heap:=c.heap.push {cls:=.type "slice",data:=.fields #[g,f,.none]}};exact tail_any (ops:=[.ref c.heap.objs.size,v]) B G E (by with_unfolding_all rfl)
noncomputable def Dp(a:List V)(lo hi:Option Int):List V:=(a.drop (HT.uz a.length 0 lo)).take (HT.uz a.length a.length hi -HT.uz a.length 0 lo)
theorem xQ(a:List V)(lo hi:Option Int):(Dp a lo hi).length<=a.length:=by unfold Dp;rw[dA,Vh];lia
noncomputable def U7(K:Frag):R2:=λx y H Q=>∃a b d c,x=.ref a/\y=.ref b/\nH K H a d/\nH K H b c/\d≠[]/\d.length+c.length<=sizeLine/\
 (c=[]->Q (.ref a) H)/\(c≠[]->∀p,H p=none->Q (.ref p) (upd H p (.tup (d++c))))
theorem Vals.vj{a:List V}{us:List Value}(r:Vals a us):us=[]↔a=[]:=by
 cases r with
 |nil=>simp
 |cons _ _=>simp
theorem JL:nK X (binaryOp .Add) (U7 X.K):=by intro f s C H x y v u Q I l k h;obtain⟨a,b,j,i,rfl,rfl,B,A,t,hz,n,m⟩:=h;cases l;cases k;obtain⟨r,d,p,_⟩:=I.tuple B;obtain⟨g,c,p2,_⟩:=I.tuple A;refine HT.JH p p2 (λz=>t (d.vj.mp z)) (λz=>⟨.ref a,H,I,rfl,n (c.vj.mp z)⟩) (λz=>?_) (by rw[<-d.length,<-c.length];exact hz);refine⟨.ref s.heap.objs.size,_,I.laid (t':=s.toks) (o:=.tup (j++i)) (λb D q=>FR _ q) (D2 _) ?_,rfl,m (λw=>z (c.vj.mpr w)) _ (I.hok.fresh (D2 _))⟩;exact⟨by rw[GM];exact hz,_,d.append c,IsTup.new _ _⟩
end
noncomputable def xR(n:Nat)(i:Int):Option Nat:=if 0<=i then(if i<n then some i.toNat else none)else if-(n:Int)<=i then some (i+n).toNat else none
def nB{α:Type}(a:List α)(i:Int):Option α:=(xR a.length i).bind λj=>a[j]?
theorem Br{n:Nat}{i:Int}{j:Nat}(h:xR n i=some j):seqIndex? i n=some j/\j<n/\-(n:Int)<=i/\i<n:=by
 unfold xR at h;by_cases b:0<=i
 .rw[Bi b]at h;by_cases a:i<n
  .rw[Bi a]at h;have e:i.toNat=j:=Kk h;exact⟨by rw[seqIndex_of b a,e],by lia,by lia,a⟩
  .rw[BM a]at h;cases h
 .rw[BM b]at h;by_cases a: -(n:Int)<=i
  .rw[Bi a]at h;have e:(i+n).toNat=j:=Kk h;exact⟨by rw[seqIndex_neg (by lia) a,e],by lia,a,by lia⟩
  .rw[BM a]at h;cases h
theorem vm{α:Type}{a:List α}{i:Int}{v:α}(h:nB a i=some v):∃j,seqIndex? i a.length=some j/\a[j]?=some v/\j<a.length/\-(a.length:Int)<=i/\i<a.length:=by
 unfold nB at h;cases e:xR a.length i with
 |none=>rw[e]at h;cases h
 |some j=>rw[e]at h;obtain⟨f,d,c,b⟩:=Br e;exact⟨j,f,h,d,c,b⟩
theorem cA{α:Type}{a:List α}{j:Nat}{v:α}(h:a[j]?=some v):nB a (j:Int)=some v:=by
 have b:j<a.length:=(Fn.mp h).1;have e:xR a.length (j:Int)=some j:=by unfold xR;rw[Bi (by lia),Bi (by lia)];simp
 unfold nB;rw[e];exact h
def lI(b:Expr):Prop:=∀o i,subscripted b false o i=operate [o,i] (getItem o i)
noncomputable def JM(X:Cx)(r:R2):Prop:=
 ∀(c a:Expr)(b:List (Addr×Obj))(s:Shared)(d:St)(H:Hp)(x y:V)(v u:Value)(Q:VK),Inv X b d H s->RelV x v->RelV y u->r x y H Q->
  subscripted a false v u=operate [v,u] (getItem v u)->wpAny (model X.prog X.w) X.A (subscriptTail c a v u) (EP X b d Q) X.xe s
noncomputable def Yz(X:Cx)(e:String)(r:V->List V->Hp->VK->Prop):Prop:=
 ∀(a:List (Addr×Obj))(s:Shared)(b:St)(H:Hp)(x:V)(c:List V)(v:Value)(d:List Value)(Q:VK),Inv X a b H s->RelV x v->Vals c d->r x c H Q->
  wpAny (model X.prog X.w) X.A (call (.builtin e) (v::d)) (EP X a b Q) X.xe s
section
variable{X:Cx}{a b:Expr}{ta tb:TE}{pos:Pos}
theorem JM.or{r j:R2}(h:JM X r)(h':JM X j):JM X (λx y H Q=>r x y H Q\/j x y H Q):=by
 intro c d e s f H x y v u Q I i g q k;rcases q with q|q
 .exact h c d e s f H x y v u Q I i g q k
 .exact h' c d e s f H x y v u Q I i g q k
theorem E7{r:R2}(j:JM X r)(l:PE X a ta)(k:PE X b tb)(i:lI b):PE X (.Subscript a b pos) (Yt r ta tb):=by intro c s d H Q I h;exact Subscript_ (OH l k I h λv u e x y n m g f q=>j a b c e d n x y v u Q m g f q (i _ _))
noncomputable def U8(K:Frag):R2:=λx y H Q=>∃p c i v,x=.ref p/\y=.int i/\gP K H p c/\nB c i=some v/\Q v H
noncomputable def U9(K:Frag):R2:=λx y H Q=>∃p c i v,x=.ref p/\y=.int i/\nH K H p c/\nB c i=some v/\Q v H
noncomputable def Va:R2:=λx y H Q=>∃z i c,x=.str z/\y=.int i/\z.length<=sizeLine/\nB z.cps.toList i=some c/\Q (.str ⟨#[c]⟩) H
theorem JN:JM X (U8 X.K):=by
 intro f g c s o H x y v u Q I F E h A;obtain⟨p,P,i,z,rfl,rfl,G,L,q⟩:=h;cases F;obtain⟨t,rfl⟩:=E;obtain⟨m,r,l,hz⟩:=I.list G;obtain⟨j,e,O,S,N,M⟩:=vm L;obtain⟨w,C,k⟩:=r.get O;have J:=r.length;have R:=qv;have d:EP X c o Q w s:=⟨z,H,I,k,q⟩;by_cases B:0<=i
 .have n:i.toNat=j:=by rw[seqIndex_of B M]at e;exact Kk e
  exact item_listR l.isList B (by lia) (by rw[n];simpa using C) d A
 .have n:(i+(m.toArray.size:Int)).toNat=j:=by rw[seqIndex_neg (by lia) N]at e;rw[Fk,<-J];exact Kk e
  exact subscriptTail_builtinR (x:=w) l.isList.typeIs slot_list_getitem.lookup
   (wpAny_getItem_list_neg (Q:=λr D=>r=w/\EP X c o Q r D) l.isList (by lia) (by rw[Fk]<;>lia) (by lia) (by rw[n];simpa using C) ⟨rfl,d⟩) A
theorem OR:JM X (U9 X.K):=by
 intro d e c s k H x y v u Q I o n h B;obtain⟨p,L,i,z,rfl,rfl,C,E,q⟩:=h;cases o;obtain⟨t,rfl⟩:=n;obtain⟨A,r,l,hz⟩:=I.tuple C;obtain⟨j,G,F,P,O,N⟩:=vm E;obtain⟨w,J,f⟩:=r.get F;have D:=r.length;have M:=qv;have g:EP X c k Q w s:=⟨z,H,I,f,q⟩;exact subscriptTail_builtinR (x:=w) l.typeIs slot_tuple_getitem.lookup
  (getItem_tuple (j:=j) (Q:=λr m=>r=w/\EP X c k Q r m) l (by lia) (by lia) (by rw[Fk,<-D];exact G) (by simpa using J) ⟨rfl,g⟩) B
theorem OS:JM X Va:=by
 intro d e f s C H x y v u Q I l k h m;obtain⟨z,i,c,rfl,rfl,hz,o,q⟩:=h;obtain⟨t,rfl⟩:=l;obtain⟨D,rfl⟩:=k;obtain⟨j,g,w,F,r,p⟩:=vm o;have n:z.cps.toList.length=z.length:=by simp[Str.length]
 rw[n]at g r p;have E:=qv;exact tail_any (typeIs_str s z t) slot_str_getitem.lookup (getItem_str (c:=c) (by have B:decide (i< -(2^63:Int))=false:=Ki (by lia);have A:decide (i>=2^63)=false:=Ki (by lia);rw[B,A,cb]) (by rw[g];simpa using w) ⟨.str ⟨#[c]⟩,H,I.tok _,⟨_,rfl⟩,q⟩) m
def rIx(K:Frag):R2:=λx y H Q=>U8 K x y H Q\/U9 K x y H Q\/Va x y H Q
theorem zN:JM X (rIx X.K):=JN.or (OR.or OS)
theorem zO(c:List Value)(n j:Nat)(u:Value):Obj.mapSeq (·.setIfInBounds j u) {cls:=.type "list",data:=.seq c.toArray n}={cls:=.type "list",data:=.seq (c.set j u).toArray n}:=by simp[Obj.mapSeq]
theorem Inv.lst{d:List (Addr×Obj)}{g:St}{H:Hp}{s:Shared}{p:Addr}{f:List V}(I:Inv X d g H s)(h:H p=some (.lst f)):
 ∃(c:List Value)(n:Nat),Vals f c/\s.heap.get? p=some {cls:=.type "list",data:=.seq c.toArray n}/\f.length<=sizeLine:=by
 obtain⟨z,c,n,r,e⟩:=I.hok p _ h;exact⟨c,n,r,e,z⟩
theorem Inv.OT{c:List (Addr×Obj)}{j:St}{H:Hp}{s:Shared}{p:Addr}{l g:List V}{d its':List Value}{n i:Nat}{f:Obj->Obj}(I:Inv X c j H s)(h:H p=some (.lst l))
 (m:s.heap.get? p=some {cls:=.type "list",data:=.seq d.toArray n})(k:f {cls:=.type "list",data:=.seq d.toArray n}={cls:=.type "list",data:=.seq its'.toArray i})(r:Vals g its')(hz:g.length<=sizeLine)(t:Nat):
 Inv X c j (upd H p (.lst g)) {s with heap:=s.heap.update p f,toks:=t}:=by
 have e:(s.heap.update p f).get? p=some {cls:=.type "list",data:=.seq its'.toArray i}:=by rw[Heap.get?_update_self f m (by rw[k]<;>rfl),k]
 refine I.write (x:=p) (e:=p) (by rw[h];trivial) (.inl rfl) (λb u o q=>(Heap.get?_update_other _ _ (Y2 o)).trans q) ⟨_,e⟩ ?_;exact⟨hz,its',i,r,e⟩
noncomputable def Nf:V->V->V->Hp->(Hp->Prop)->Prop:=λo i v H Q=>∃p c k j,o=.ref p/\i=.int k/\H p=some (.lst c)/\xR c.length k=some j/\Q (upd H p (.lst (c.set j v)))
theorem set_list:UL X Nf:=by
 intro c s A H o i v F G u Q I C D rv h;obtain⟨p,B,k,j,rfl,rfl,m,E,q⟩:=h;cases C;obtain⟨t,rfl⟩:=D;obtain⟨d,n,r,f,hz⟩:=I.lst m;obtain⟨e,K,x,w⟩:=Br E;have g:=r.length;have J:=qv;have z:Inv X c A (upd H p (.lst (B.set j v))) {s with heap:=s.heap.update p (Obj.mapSeq (·.setIfInBounds j u))}:=
  I.OT m f (zO d n j u) (r.set rv j) (by rw[U2];exact hz) s.toks
 by_cases y:0<=k
 .have l:k.toNat=j:=by rw[seqIndex_of y w]at e;exact Kk e
  exact PySem.W.ki_setAt f y (by lia) (by rw[Fk,<-g];exact w) (by rw[l];exact⟨_,z,q⟩)
 .have l:(k+(d.toArray.size:Int)).toNat=j:=by rw[seqIndex_neg (by lia) x]at e;rw[Fk,<-g];exact Kk e
  exact PySem.W.ki_setBack f (by lia) (by rw[Fk,<-g];exact x) (by lia) (by rw[l];exact⟨_,z,q⟩)
theorem vn(lo hi:Option Int)(n:Nat):(sliceBounds lo hi none n).1=((HT.uz n 0 lo:Nat):Int)/\(sliceBounds lo hi none n).2.1=((HT.uz n n hi:Nat):Int)/\(sliceBounds lo hi none n).2.2=1:=by
 refine⟨?_,?_,rfl⟩
 .cases lo with
  |none=>simp[sliceBounds,HT.uz]
  |some i=>
   simp only[sliceBounds,HT.uz,ba,show(1:Int)>0 by decide,if_true];by_cases h:i<0
   .simp only[h,if_true]<;>lia
   .simp only[h,if_false]<;>lia
 .cases hi with
  |none=>simp[sliceBounds,HT.uz]
  |some i=>
   simp only[sliceBounds,HT.uz,ba,show(1:Int)>0 by decide,if_true];by_cases h:i<0
   .simp only[h,if_true]<;>lia
   .simp only[h,if_false]<;>lia
theorem tw(c:List Value)(lo hi:Option Int):slicePick c.toArray lo hi none=((c.drop (HT.uz c.length 0 lo)).take (HT.uz c.length c.length hi -HT.uz c.length 0 lo)).toArray:=by obtain⟨f,e,d⟩:=vn lo hi c.toArray.size;unfold slicePick;rw[f,e,d];simp only[sliceRange_one,pick_run,Fk]<;>rfl
noncomputable def YA(K:Frag):V->Option Int->Option Int->Hp->VK->Prop:=λx d e H Q=>∃a c,x=.ref a/\gP K H a c/\∀p,H p=none->Q (.ref p) (upd H p (.lst (Dp c d e)))
theorem JO:SlR X (YA X.K):=by intro g s t H x v w u e f y Q I j p l k h;obtain⟨a,c,rfl,n,q⟩:=h;cases j;obtain⟨m,r,i,hz⟩:=I.list n;have d:=r.length;refine⟨"list",_,slot_list_getitem.lookup,i.isList.typeIs,?_⟩;refine wpAny_getItem_list_slice i.isList p l k .none (by simp) ?_ (by rw[Fk]<;>lia);rw[tw,<-d];refine⟨.ref s.heap.objs.size,_,I.laid (t':=s.toks) (o:=.lst (Dp c e f)) (λb z q=>FR _ q) (D2 _) ?_,rfl,q _ (I.hok.fresh (D2 _))⟩;exact⟨Bz (xQ c e f) hz,_,0,(r.drop (HT.uz c.length 0 e)).take (HT.uz c.length c.length f -HT.uz c.length 0 e),PH _ rfl⟩
theorem iE:dJ X (.builtin "len") (λj H Q=>∃p d,j=[.ref p]/\(gP X.K H p d\/nH X.K H p d)/\Q (.int d.length) H):=by
 intro k s m H j n Q I r h;obtain⟨p,d,rfl,e,q⟩:=h;obtain⟨u,rfl,l⟩:=vals1 r;cases l;have o:=qv;rcases e with e|e
 .obtain⟨i,f,g,hz⟩:=I.list e;have c:=f.length;exact Calls.call_len_list g.isList (by simp only[Fk]<;>lia) ⟨.int d.length,H,I.tok _,⟨s.toks+1,by rw[Fk,c]⟩,q⟩
 .obtain⟨i,f,g,hz⟩:=I.tuple e;have c:=f.length;exact len_tuple g (by simp only[Fk]<;>lia) ⟨.int d.length,H,I.tok _,⟨s.toks+1,by rw[Fk,c]⟩,q⟩
theorem lJ:dJ X (.type "list") (λB H Q=>∃p f,B=[.ref p]/\(gP X.K H p f\/nH X.K H p f)/\∀l,H l=none->Q (.ref l) (upd H l (.lst f))):=by
 intro j s D H B F Q I r h;obtain⟨p,f,rfl,m,q⟩:=h;obtain⟨u,rfl,E⟩:=vals1 r;cases E;have v:∀(c:List Value),Vals f c->f.length<=sizeLine->∀(d:Heap)(i:Nat),(∀b C,s.heap.get? b=some C->d.get? b=some C)->
  d.get? s.heap.objs.size=some {cls:=.type "list",dict:=none,data:=.seq c.toArray i,slots:= #[]}->EP X j D Q (.ref s.heap.objs.size) {s with heap:=d}:=λc g hz d i k e=>
  ⟨.ref s.heap.objs.size,_,I.laid (t':=s.toks) k (D2 _) (show cN X.prog X.w _ d _ (.lst f)from⟨hz,c,i,g,e⟩),rfl,q _ (I.hok.fresh (D2 _))⟩
 rcases m with m|m
 .obtain⟨c,g,x,hz⟩:=I.list m;have t:=g.length;obtain⟨o,y,A,n,z⟩:=x.isList;exact call_list_seq p (.inl rfl) y A z (λd i k e=>v c g hz d i k e) (by simp only[Fk]<;>lia)
 .obtain⟨c,g,x,hz⟩:=I.tuple m;have t:=g.length;obtain⟨o,y,A,n,z⟩:=x;exact call_list_seq p (.inr rfl) y A z (λd i k e=>v c g hz d i k e) (by simp only[Fk]<;>lia)
noncomputable def YB(K:Frag)(T:String)(x:V)(H:Hp):Prop:=match x with
 |.str _=>T="str"
 |.int _=>T="int"
 |.ref p=>(T="list"/\∃d,gP K H p d)\/(T="tuple"/\∃o,K.lookup p=some o/\o.cls=.type "tuple"/\o.dict=none)\/
   (T="dict"/\((∃c,H p=some (.dK c))\/∃c,H p=some (.dT c)))\/(T="set"/\∃S n,H p=some (.set S n))
 |_=>False
theorem E8{f:List (Addr×Obj)}{q:St}{H:Hp}{s:Shared}{T:String}{x:V}{v:Value}(I:Inv X f q H s)(r:RelV x v)(g:YB X.K T x H):
 s.TypeIs v T/\∀a,v=.ref a->∃m,s.heap.get? a=some m/\m.dict=none:=by
 cases x with
 |str z=>obtain⟨t,rfl⟩:=r;cases(show T="str"from g);exact⟨typeIs_str s z t,λ_ e=>nomatch e⟩
 |int i=>obtain⟨t,rfl⟩:=r;cases(show T="int"from g);exact⟨typeIs_int s i t,λ_ e=>nomatch e⟩
 |ref p=>
  cases r;rcases g with⟨rfl,A,w⟩|⟨rfl,o,d,y,j⟩|⟨rfl,d⟩|⟨rfl,S,n,d⟩
  .obtain⟨u,_,l,_⟩:=I.list w;refine⟨l.isList.typeIs,λa e=>?_⟩;cases e;obtain⟨o,n,e,c,j,_⟩:=l;exact⟨o,e,j⟩
  .refine⟨⟨o,I.j8 p o d,y⟩,λa e=>?_⟩;cases e;exact⟨o,I.j8 _ o d,j⟩
  .have z:∃o,s.heap.get? p=some o/\o.ExactDict:=by
    rcases d with⟨h,d⟩|⟨h,d⟩
    .obtain⟨_,_,_,_,o,_,_,e,ex,_⟩:=I.hok p _ d;exact⟨o,e,ex⟩
    .obtain⟨_,_,_,_,o,_,_,e,ex,_⟩:=I.hok p _ d;exact⟨o,e,ex⟩
   obtain⟨o,e,ex⟩:=z;refine⟨⟨o,e,ex.1⟩,λa k=>?_⟩;cases k;exact⟨o,e,ex.2.1⟩
  .obtain⟨o,_,_,_,e,ex,_⟩:=I.hok p _ d;refine⟨⟨o,e,ex.1⟩,λa k=>?_⟩;cases k;exact⟨o,e,ex.2.1⟩
 |_=>exact G1 g
noncomputable def YC(K:Frag)(T:String)(r:V->List V->Hp->VK->Prop)(e:TE):TE:=λd H Q=>e d H λx c=>YB K T x c/\r x [] c Q
noncomputable def tBM(K:Frag)(T:String)(r:V->List V->Hp->VK->Prop)(f:TE)(t:TA):TE:=λc H Q=>f c H λx d=>YB K T x d/\t c d λe g=>r x e g Q
variable{o e:Expr}{es:List Expr}{to:TE}{t:TA}{name:Str}{apos cpos:Pos}{T id:String}{r:V->List V->Hp->VK->Prop}
theorem E9(p:PlainAttrs T)(g:Slot T name id)(i:typeOf (.builtin id)=pure (.type "method_descriptor"))(u:Yz X id r)(q:PE X o to)
 (f:attributeBase o name X.env (eval o X.env)=eval o X.env:=by rfl)(d:(apos.endLine==cpos.line)=true:=by rfl):PE X (.Call (.Attribute o name apos) [] [] cpos) (YC X.K T r to):=by
 intro c s j H Q I h;refine wpAny_Call_method0_late f d (cy (q c s j H _ I h) λv m ⟨x,z,I1,k,l,n⟩=>?_);obtain⟨y,w⟩:=E8 I1 k l;exact⟨T,id,p,g,i,y,w,Calls.callWith_builtin rfl (PySem.evalArgs_none (u c m j z x [] v [] Q I1 k .nil n))⟩
theorem Vb(C:PlainAttrs T)(i:Slot T name id)(l:typeOf (.builtin id)=pure (.type "method_descriptor"))(F:Yz X id r)(E:PE X o to)(G:PA X (e::es) t)
 (g:attributeBase o name X.env (eval o X.env)=eval o X.env:=by rfl)
 (j:((backTo cpos (starEach (e::es) X.env)).all (λx=>!x.1)&&(backToKw cpos (keywordEach [] X.env)).all (λx=>x.1.isSome)
   &&decide ((e::es).length+([]:List Keyword).length+(if([]:List Keyword).isEmpty then 0 else 1)<30))=true:=by rfl)
 (f:(apos.endLine==cpos.line)=true:=by rfl)(D:starEach (e::es) X.env=(false,eval e X.env)::starEach es X.env:=by rfl)(d:(backTo cpos (starEach es X.env)).any (·.1)=false:=by rfl):
 PE X (.Call (.Attribute o name apos) (e::es) [] cpos) (tBM X.K T r to t):=by
 intro c s k H Q I h;refine wpAny_Call_method_late g j f rfl (cy (E c s k H _ I h) λv y ⟨x,O,I1,m,u,B⟩=>?_);obtain⟨L,J⟩:=E8 I1 m u;refine⟨T,id,C,i,l,L,J,?_⟩;have n:=G cpos c y k O _ I1 B;rw[D]at n⊢;refine Calls.callWith_builtin (by show(false||(backTo cpos (starEach es X.env)).any (·.1))=false;rw[d]<;>rfl) (Calls.evalArgs_plain ?_);exact cy n λq w ⟨p,N,M,z,A⟩=>F c w k N x p v q Q M m z A
end
noncomputable def MtM(X:Cx)(e:String)(r:V->List V->Hp->VK->Prop):Prop:=
 ∀(a:List (Addr×Obj))(s:Shared)(b:St)(H:Hp)(x:V)(c:List V)(v:Value)(d:List Value)(Q:VK),Inv X a b H s->RelV x v->Vals c d->r x c H Q->
  wpAny (model X.prog X.w) X.A (call (.builtin e) (v::d)) (EP X a b Q) X.xe s
theorem Vals.one{x:V}{us:List Value}(h:Vals [x] us):∃u,us=[u]/\RelV x u:=by
 cases h with
 |cons r h=>
  cases h;exact⟨_,rfl,r⟩
theorem Vals.zero:∀{us:List Value},Vals [] us->us=[]
 |_,.nil=>rfl
theorem Vals.dropLast{a:List V}{us:List Value}(h:Vals a us):Vals a.dropLast us.dropLast:=by
 induction h with
 |nil=>exact .nil
 |cons r t b=>
  cases t with
  |nil=>exact .nil
  |cons q c=>exact .cons r b
theorem Vals.rep{a:List V}{us:List Value}(h:Vals a us):∀k:Nat,Vals (A6 k a).flatten (A6 k us).flatten
 |0=>.nil
 |k+1=>by rw[I0,I0,JQ,JQ];exact Vals.append h (Vals.rep h k)
theorem zP{α:Type}(l:List α):l.eraseIdx (l.length -1)=l.dropLast:=by
 induction l with
 |nil=>rfl
 |cons a r c=>
  cases r with
  |nil=>rfl
  |cons b r=>
   have e:(a::b::r).length -1=((b::r).length -1)+1:=by have f:(a::b::r).length=r.length+2:=rfl;have d:(b::r).length=r.length+1:=rfl;lia
   rw[e,List.eraseIdx_cons_succ,c]
   all_goals rfl
theorem foldl_rep(a:List Value):∀(k:Nat)(b:List Value),
 cP (λd c=>d++c) b.toArray (A6 k a.toArray)=(b++(A6 k a).flatten).toArray
 |0,b=>by simp
 |k+1,b=>by
  have e:b.toArray++a.toArray=(b++a).toArray:=by simp
  have f:(b++a)++(A6 k a).flatten=b++(A6 (k+1) a).flatten:=by rw[I0,JQ,Pm]
  rw[<-f,<-foldl_rep a k (b++a),<-e,I0,List.foldl_cons]
section
variable{X:Cx}{pins:List (Addr×Obj)}{σ:St}{H:Hp}{s:Shared}{l b:Addr}{xs ys zs:List V}
theorem Inv.Vd{a its':List Value}{n:Nat}{f:Array Value->Array Value}{t':Nat}(I:Inv X pins σ H s)(i:H l=some (.lst xs))
 (e:s.heap.get? l=some {cls:=.type "list",data:=.seq a.toArray n})(g:f a.toArray=its'.toArray)(c:Vals ys its')(hz:ys.length<=sizeLine):
 Inv X pins σ (upd H l (.lst ys)) {s with heap:=s.heap.update l (Obj.mapSeq f),toks:=t'}:=by
 have q:=PySem.IsL.update e f;rw[g]at q;refine I.write (x:=l) (e:=l) (by rw[i];exact trivial) (.inl rfl) (λj u h d=>(Heap.get?_update_other s.heap (Obj.mapSeq f) (Y2 h)).trans d) ⟨_,q⟩ ?_;exact⟨hz,its',_,c,q⟩
theorem Inv.OU{a:List Value}{t':Nat}(I:Inv X pins σ H s)(c:Vals ys a)(hz:ys.length<=sizeLine):
 Inv X pins σ (upd H s.heap.objs.size (.lst ys)) {s with heap:=s.heap.push {cls:=.type "list",data:=.seq a.toArray},toks:=t'}:=
 I.laid (λ_ _ q=>FR _ q) (D2 _) ⟨hz,a,0,c,PH _ rfl⟩
theorem Inv.fresh(I:Inv X pins σ H s):H s.heap.objs.size=none:=I.hok.fresh (D2 _)
theorem Inv.JP(I:Inv X pins σ H s)(c:H l=some (.lst xs)):xs.length<=sizeLine/\∃(a:List Value)(n:Nat),Vals xs a/\xs.length=a.length/\s.heap.get? l=some {cls:=.type "list",data:=.seq a.toArray n}:=by obtain⟨z,a,n,r,e⟩:=I.hok l _ c;exact⟨z,a,n,r,r.length,e⟩
theorem Fb{n:Nat}(h:n<=sizeLine):Builtin.List.listTooLong n=false:=by unfold Builtin.List.listTooLong;exact Ki (by lia)
end
section
variable{X:Cx}
noncomputable def Bs:V->List V->Hp->VK->Prop:=λx b H Q=>∃l a y,x=.ref l/\b=[y]/\H l=some (.lst a)/\a.length<sizeLine/\Q .bu (upd H l (.lst (a++[y])))
theorem uA:MtM X "list.append" Bs:=by intro b s g H x j v k Q I d rv h;obtain⟨l,i,y,rfl,rfl,c,hz,q⟩:=h;cases d;obtain⟨u,rfl,f⟩:=rv.one;obtain⟨z,a,n,r,m,e⟩:=I.JP c;refine call_meets F.slot_list_append ⟨_,e,rfl⟩ F.entry_list_append (F.args_list_append_2 _ _) (PySem.list_append l a.toArray n u (by rw[Fk];lia)) ⟨e,?_⟩;refine⟨.bu,_,I.Vd (its':=a++[u]) c e (by simp) (r.append (.cons f .nil)) ?_,rfl,q⟩;rw[GM,ZO];lia
noncomputable def YD:V->List V->Hp->VK->Prop:=λx b H Q=>∃l a y,x=.ref l/\b=[]/\H l=some (.lst a)/\a[a.length -1]?=some y/\Q y (upd H l (.lst a.dropLast))
theorem OV:MtM X "list.pop" YD:=by
 intro d s o H x t v w Q I g rv h;obtain⟨l,p,y,rfl,rfl,f,j,q⟩:=h;cases g;have c:=rv.zero;subst c;obtain⟨z,a,n,r,m,e⟩:=I.JP f;obtain⟨u,k,i⟩:=r.get j;have b:a.toArray[a.toArray.size -1]?=some u:=by show a.toArray[a.length -1]?=some u;rw[<-Array.getElem?_toList,<-m];exact k
 refine call_meets F.slot_list_pop ⟨_,e,rfl⟩ F.entry_list_pop (F.args_list_pop_1 _) (MeetsSeq.list_pop_last l a.toArray n u b (by rw[Fk];lia)) ⟨e,?_⟩;refine⟨y,_,I.Vd (its':=a.dropLast) f e ?_ r.dropLast ?_,i,q⟩
 .show a.toArray.eraseIdxIfInBounds (a.toArray.size -1)=a.dropLast.toArray;rw[Fk,List.eraseIdxIfInBounds_toArray,zP]
 .rw[List.length_dropLast];lia
noncomputable def YE:R2:=λx y H Q=>∃l b c a,x=.ref l/\y=.ref b/\H l=some (.lst c)/\H b=some (.lst a)/\c.length+a.length<=sizeLine/\∀p,H p=none->Q (.ref p) (upd H p (.lst (c++a)))
theorem OW:nK X (binaryOp .Add) YE:=by
 intro d s t H x y v u Q I g f h;obtain⟨l,b,B,w,rfl,rfl,k,m,hz,q⟩:=h;cases g;cases f;obtain⟨z,c,n,r,D,e⟩:=I.JP k;obtain⟨A,a,C,i,j,p⟩:=I.JP m;refine PySem.P.add_list e p ?_ (by rw[Fk,Fk];lia);have o:c.toArray++a.toArray=(c++a).toArray:=by simp
 rw[o];exact⟨.ref _,_,I.OU (t':=s.toks) (r.append i) (by rw[GM];lia),rfl,q _ I.fresh⟩
theorem len_rep{α:Type}(a:List α)(k:Nat):(A6 k a).flatten.length=k*a.length:=by
 induction k with
 |zero=>simp
 |succ k b=>rw[I0,JQ,GM,b,tf,mM]
end
section
variable{prog:Program}{w:World}{A:Around}{E:Value->Shared->Prop}{s:Shared}
end
section
variable{X:Cx}
end
end L2
namespace Att
open PySem PySem.W PySem.Calls PyProof.Rows
theorem pF{P:Params}{h:Heap}:∀(ns:List Int)(vs:List Value),WellAll P h vs (ns.map WData.int)->IntsAre vs ns:=by
 intro ns
 induction ns with
 |nil=>intro vs w;rw[S0]at w;cases w;exact .nil
 |cons n ns c=>
  intro vs w;rw[N0]at w;cases w with
  |cons a b=>
   cases a;exact .cons _ _ (c _ b)
theorem Dq{l:OpenLaw}{n:Nat}(u:l.most=some n){P:Params}{h:Heap}{args:List WData}{b:List Value}
 (c:l.row.toRowW.claim.pre args=true)(j:WellAll P h b args):
 ∃a vs ns,b=[Value.ref a]/\args=[WData.list (ns.map WData.int)]/\h.get? a=some {cls:=.type "list",data:=.seq vs.toArray}/\IntsAre vs ns/\ns.length<=n:=by
 have k:WShape.hasAll [] args [.list .int]=true:=(pre_splitW c).1;have m:l.pre.holds [] {args:=args}=true:=(pre_splitW c).2;obtain⟨d,r,rfl,x,w⟩:=hasAllW_cons k;obtain rfl:=hasAllW_nil w;obtain⟨y,rfl,v⟩:=hasW_list x;obtain⟨ns,rfl⟩:=items_int v;have e:ns.length<=n:=by
  unfold OpenLaw.pre at m;have i:(WTm.not (.lt (.lit (.int (n:Int))) (.len (.arg 0)))).holds [] {args:=[.list (ns.map .int)]}=true:=by have i:=(holds_andW m).1;rw[u]at i;exact i
  have g:=condW_of i (w_not (w_lt w_lit (w_len_list (w_arg rfl))));rw[Ap]at g;refine gL λq=>?_;have s:(n:Int)<((ns.length:Nat):Int):=by lia
  first
   |(rw[FV s]at g;exact absurd g (by decide))
   |(simp at g;lia)
 cases j with
 |cons p o=>
  cases o;cases p with
  |list t f=>exact⟨_,_,ns,rfl,rfl,t,pF ns _ f,e⟩
theorem Dr(l:OpenLaw)(args:List WData):l.row.toRowW.claim.post args (.bool true) args=true:=
 postW_of (r:=l.row.toRowW) (X:=(true==true))
  (show WShape.has [] (.bool true) .bool=true by first|rfl|decide|simp[WShape.has,WShape.arms,WShape.armsAll])
  (show(WTm.eq .res (.lit (.bool true))).value [] {args:=args,res:=some (.bool true),after:=args}=some (.bool (true==true))from w_eq_bool (w_res rfl) w_lit) rfl
theorem xS{l:OpenLaw}{n:Nat}{q:Program}{e:List Str}{E:(Str->Option Value)->Heap->Prop}{D:World->Heap->Prop}{d:DefRec}
 (J:l.most=some n)(x:d.params.defaults=[])
 (call:∀(w:World)(c b:Shared)(mg t:Str->Option Value)(m:Addr)(o:Obj)(s p h:Value)(a:Addr)(vs:List Value)(ns:List Int),
   Ground q e [] E w c mg t b.heap->D w b.heap->
   b.heap.get? m=some o->o.data=.func (docDef d.name d.params d.body d.scope s p h)->b.heap.CodeRec p d.name->mg d.name=some (.ref m)->
   b.heap.get? a=some {cls:=.type "list",data:=.seq vs.toArray}->IntsAre vs ns->ns.length<=n->b.gens= #[]->
   codeAny (model l.prog w) callerA (.call (.ref m) ⟨[.ref a],[]⟩) (λr s'=>r=.ok (.ret (.bool true))/\OldK b.heap s'.heap/\s'.os=b.os/\AllBare s'.gens) b):
 WalkO q e E D l.row.toRowW d [] (λf vs=>PySem.call f vs):=by
 intro w c b mg t G Y m o s p h R kV I N y B v M C z S i A F u L;obtain rfl:R=.none:=Dflts.none B x;obtain rfl:kV=.none:=Dflts.noKw B;obtain⟨a,vs,ns,rfl,rfl,j,g,k⟩:=Dq J i u;refine enter_call (wa (call w c b mg t m o s p h a vs ns G Y I (fd_plain N) y v j g k M) λr s' H=>?_);obtain⟨rfl,Q,P,O⟩:=H;exact⟨.inl ⟨.bool true,.bool true,[],rfl,λ_=>rfl,.bool true,Dr l _,λ_=>⟨ep,λ_ K=>(nomatch K)⟩⟩,Q,P,O⟩
section
variable{prog:Program}{w:World}{A:Around}{E:Value->Shared->Prop}{s:Shared}{K:Frag}
end
end Att
namespace L2
open PySem PySem.Spec PyProof.Rows
theorem uB:∀{vs:List Value}{ns:List Int},IntsAre vs ns->Vals (ns.map V.int) vs
 |_,_,.nil=>.nil
 |_,_,.cons n t h=>.cons ⟨t,rfl⟩ (uB h)
def Fc(H:Hp):Prop:=∀b,H b=none\/∃o a,H b=some (.xH o (.lst a))
theorem Fd{P:Program}{w:World}{K:Frag}{mg N:Str->Option Value}{CX:Dj}{k:Nat}{S a:Addr}{Z:FuncData}{x:Str}{sp:Sp}{c:Shared}{vs:List Value}{ns:List Int}
 (KX:K.In c.heap)(t:c.heap.Ns mainGlobals mg)(f:c.heap.Ns builtinsNs N)(Q:∀x:Str,x≠"__name__"->N x=bootBuiltins x)(y:c.heap.NoLimit)(I:c.heap.NoSeer)(Ve:P.given.tree=none)(hg:c.gens= #[])
 (A:c.heap.get? a=some {cls:=.type "list",data:=.seq vs.toArray})(hi:IntsAre vs ns)(X:ns.length<=sizeLine)(hr:cX k callerA)
 (F:∀base:Heap,K.In base->base.Ns mainGlobals mg->bK P w K mg base CX k S Z [x] sp)(j:∀(s:Shared)(u:Value),BindsTo s Z ⟨[u],[]⟩ [(x,u)])
 (qx:∀H:Hp,Fc H->gP K H a (ns.map V.int)->sp [.ref a] H (λv _=>v=.bl true) λ_ _ _=>False)
 (YF:∀H e s',CX [] H c (λ_ _ _=>False) e s'->False):
 codeAny (model P w) callerA (.call (.ref S) ⟨[.ref a],[]⟩) (λr s'=>r=.ok (.ret (.bool true))/\OldK c.heap s'.heap/\s'.os=c.os/\AllBare s'.gens) c:=by
 have rv:=uB hi;have YG:=hi.length;have g:∀H:Hp,Fc H->gP K H a (ns.map V.int)->lz P w H c.heap->(∀b,H b≠none->b=a)->(H a≠none->K.lookup a=none)->
  codeAny (model P w) callerA (.call (.ref S) ⟨[.ref a],[]⟩) (λr s'=>r=.ok (.ret (.bool true))/\OldK c.heap s'.heap/\s'.os=c.os/\AllBare s'.gens) c:=by
  intro H Y hS p R hK;have J:∀{b:Addr}{o:Obj},c.heap.get? b=some o->H b=none->(vf c.heap H).get? b=some o:=λe n=>EI e n;have U5:∀{b:Addr}{o:Obj}{C:Array DictEntry}{D:Nat},c.heap.get? b=some o->o.data=.dict C D->H b=none:=λ{b o C D} e d=>by
   cases q:H b with
   |none=>rfl
   |some u=>have E:b=a:=R b (by rw[q];simp);subst E;rw[A]at e;cases e;have T:Data.seq vs.toArray _=Data.dict C D:=d;cases T
  have i:∀{b:Addr}{m:Str->Option Value},c.heap.Ns b m->(vf c.heap H).Ns b m:=λ{b m} ⟨o,C,D,e,d,r⟩=>⟨o,C,D,J e (U5 e d),d,r⟩;have B:K.In (vf c.heap H):=λb o e=>J (KX b o e) (by
   cases q:H b with
   |none=>rfl
   |some u=>have E:b=a:=R b (by rw[q];simp);subst E;rw[hK (by rw[q];simp)]at e;cases e)
  have M:∀{b:Addr}{o:Obj},c.heap.get? b=some o->o.cls=.type "module"->H b=none:=λ{b o} e d=>by
   cases q:H b with
   |none=>rfl
   |some u=>have E:b=a:=R b (by rw[q];simp);subst E;rw[A]at e;cases e;have T:Value.type "list"=Value.type "module":=d;exact absurd T (by decide)
  have hM:Mod K mg (vf c.heap H):=⟨B,i t,⟨N,i f,Q⟩,let⟨mc,h1,h2⟩:=y;⟨mc,i h1,h2⟩,⟨let⟨m,h1,h2⟩:=I.statics;⟨m,i h1,h2⟩,let⟨m,h1,h2⟩:=I.mods;⟨m,i h1,h2⟩,let⟨m,h1,h2⟩:=I.imp;⟨m,i h1,h2⟩,let⟨m,bm,L,h1,h2,h3,h4,h5⟩:=I.main;⟨m,bm,L,i h1,h2,J h3 (M h3 h4),h4,h5⟩⟩⟩;have e0:zK P w K mg (vf c.heap H) callerA [] c H:=⟨rfl,hM,λb o e=>Jv e,km (C4 _ _),trivial,λb f=>absurd (show b∈([]:List Addr)from f) (by simp),p,.of_eq hg,Ve⟩;refine wa ((F _ B (i t)).run callerA [] c H ⟨[.ref a],[]⟩ [.ref a] [.ref a] _ _ hr e0 (j c (.ref a)) (.cons rfl .nil) (qx H Y hS)) λr s' h=>?_;cases r with
  |error e=>exact(YF H e s' h).elim
  |ok fl=>
   cases fl with
   |next=>exact G1 h
   |brk=>exact G1 h
   |cont=>exact G1 h
   |ret u=>
    obtain⟨v,H',os,G,U,YH,r',q⟩:=h;have q':v=.bl true:=q;subst q';obtain rfl:u=Value.bool true:=r';refine⟨rfl,OldK.of_keep λb o e=>?_,os,G⟩;cases q:H b with
    |none=>exact U.keep b o e q (by intro z;exact absurd (show b∈([]:List Addr)from z) (by simp)) (by simp)
    |some u=>
     rcases Y b with z|⟨L,xs,z⟩
     .rw[q]at z;cases z
     .have z2:=U.kG b L _ z;obtain⟨e1,_⟩:=p b _ z;obtain⟨e2,_⟩:=YH b _ z2;rw[e]at e1;cases e1;exact e2
 cases O:K.lookup a with
 |some o=>have e:=KX a o O;rw[A]at e;cases e;refine g (λ_=>none) (λ_=>.inl rfl) (.inr ⟨_,vs.toArray,_,O,rfl,rfl,rfl,by rw[Fk,YG];exact X,by simpa using rv⟩) (λb u z=>by have l:(none:Option HO)=some u:=z;cases l) (λb z=>absurd rfl z) λz=>absurd rfl z
 |none=>
  refine g (λb=>if b=a then some (.xH {cls:=.type "list",data:=.seq vs.toArray} (.lst (ns.map V.int)))else none) (λb=>?_) (.inl (.inr ⟨{cls:=.type "list",data:=.seq vs.toArray},Bi rfl⟩)) (λb u z=>?_) (λb z=>?_) λ_=>O
  .by_cases f:b=a
   .exact .inr ⟨_,_,Bi f⟩
   .exact .inl (BM f)
  .by_cases f:b=a
   .have l:=(Bi f).symm.trans z;cases l;subst f;exact⟨A,by rw[Ap];exact X,vs,_,rv,A⟩
   .have l:=(BM f).symm.trans z;cases l
  .by_cases f:b=a
   .exact f
   .exact absurd (BM f) z
theorem JR{l:PySem.W.OpenLaw}{n k:Nat}{q:Program}{i:List Str}{XP:(Str->Option Value)->Heap->Prop}{D:World->Heap->Prop}{d:DefRec}{K:Params->Frag}{CX:World->Dj}{sp:World->Sp}{x:Str}
 (L:l.most=some n)(y:n<=sizeLine)(A:d.params.defaults=[])(J:cX k callerA)(X:importsNone q=true)(t:l.prog.given.tree=none)
 (P:∀(w:World)(h:Heap),D w h->(K w.params).In h)
 (F:∀(w:World)(mg:Str->Option Value)(r:Addr)(h:Heap),(K w.params).In h->h.Ns mainGlobals mg->mg d.name=some (.ref r)->
   ∃B:FuncData,(∀(s:Shared)(u:Value),BindsTo s B ⟨[u],[]⟩ [(x,u)])/\
    ∀base:Heap,(K w.params).In base->base.Ns mainGlobals mg->bK l.prog w (K w.params) mg base (CX w) k r B [x] (sp w))
 (I:∀(w:World)(H:Hp)(a:Addr)(ns:List Int),ns.length<=n->Fc H->gP (K w.params) H a (ns.map V.int)->sp w [.ref a] H (λv _=>v=.bl true) λ_ _ _=>False)
 (Z:∀(w:World)(H:Hp)(s:Shared)(e:Value)(s':Shared),CX w [] H s (λ_ _ _=>False) e s'->False):
 PySem.W.WalkO q i XP D l.row.toRowW d [] (λf vs=>PySem.call f vs):=by
 refine Att.xS L A λw C m mg mb r o pm cd U a vs ns G Y ho hd N z p j c M=>?_;have E:=P w _ Y;obtain⟨B,O,S⟩:=F w mg r _ E G.T.g z;exact Fd E G.T.g G.T.b G.T.builtins G.T.nolimit (G.T.seer X) t M p j (Bz c y) J S O (λH R Q=>I w H a ns c R Q) λH e s'=>Z w H m e s'
noncomputable def inClass(s:Stmt)(j:Nat):Stmt:=match s with
 |.ClassDef _ _ _ body _ _ _ _ _ _ _=>body.getD j (.Pass ⟨0,0,0,0⟩)
 |_=>.Pass ⟨0,0,0,0⟩
noncomputable def cJ(s:Stmt):Arguments:=match s with
 |.FunctionDef _ a _ _ _ _ _ _ _ _=>a
 |_=>{posonlyargs:=[],args:=[],vararg:=none,kwonlyargs:=[],kw_defaults:=[],kwarg:=none,defaults:=[]}
noncomputable def aP(s:Stmt):List Stmt:=match s with
 |.FunctionDef _ _ b _ _ _ _ _ _ _=>b
 |_=>[]
noncomputable def af(s:Stmt):Scope:=match s with
 |.FunctionDef _ _ _ _ _ _ sc _ _ _=>sc
 |_=>{kind:=.function,names:=[],isGenerator:=false,isCoroutine:=false}
abbrev JS:Dj:=λ_ _ _ _ _ _=>False
abbrev E0:XK:=λ_ _ _=>False
theorem Vf{X:Cx}:Passes JS X E0:=λ_ _ _ _ _ _ _ h=>h.elim
structure Ds(K:Frag)(x qual:Str)(st:Stmt)(f:Addr)(fd:FuncData):Prop where
 ex:∃(oc:Value)(od:Option Addr)(kV doc pm:Value)(an:Option Addr)(cdv ct:Value)(osl:Array (Option Value)),
  fd=fnOf x qual (cJ st) (aP st) (af st) .none kV doc pm an cdv ct/\K.lookup f=some ⟨oc,od,.func fd,osl⟩/\codeIn K cdv qual=true
 kp:keepIn K (.ref f)=true
section
variable{P:Program}{w:World}{K:Frag}{mg:Str->Option Value}{base:Heap}
theorem Ds.ok{x b:Str}{st:Stmt}{f:Addr}{i:FuncData}{N ps:List Str}{k:Nat}{sp:Sp}(F:Ds K x b st f i)(S:cI N ps (af st))(e:∀vs H Q E,sp vs H Q E->vs.length=ps.length)
 (d:∀(c:Value)(A:Around)(a:List Env)(s:Shared)(H:Hp)(vs:List V)(Q:VK)(E:XK),cX k (A.deeper (envOfC b (af st) s.heap.objs.size f c))->sp vs H Q E->
   ∃t,sX (zM JS P w K mg base N b (af st) f c A a s H E).kH (aP st) t/\t {nx:=λ_ H'=>Q .bu H',rt:=Q} (start N vs) H):bK P w K mg base JS (k+1) f i ps sp:=by
 obtain⟨u,r,kV,o,p,y,c,v,l,rfl,m,g⟩:=F.ex;refine Nd m g S e λA a s H vs Q E n j=>?_;obtain⟨t,h,q⟩:=d c A a s H vs Q E n j;exact⟨t,h.kH,q⟩
theorem Ds.binds{x a:Str}{st:Stmt}{f:Addr}{i:FuncData}{ps:List Str}(F:Ds K x a st f i)
 (h:∀(kV b d:Value)(g:Option Addr)(c e:Value)(us:List Value),us.length=ps.length->bindArgs (fnOf x a (cJ st) (aP st) (af st) .none kV b d g c e) ⟨us,[]⟩=pure (ps.zip us)):Binds K i ps []:=by
 obtain⟨m,l,kV,b,d,g,c,e,j,rfl,n,k⟩:=F.ex;exact .all (h kV b d g c e)
theorem Fe{x a:Str}{st:Stmt}{f:Addr}{m:Value}{j i:Option Addr}{e:Array (Option Value)}{kV d g b h:Value}(l:K.lookup f=some ⟨m,j,.func (fnOf x a (cJ st) (aP st) (af st) .none kV d g i b h),e⟩)
 (c:codeIn K b a=true)(k:keepIn K (.ref f)=true):Ds K x a st f (fnOf x a (cJ st) (aP st) (af st) .none kV d g i b h):=⟨⟨m,j,kV,d,g,i,b,h,e,rfl,l,c⟩,k⟩
end
theorem Du{n:Nat}(h:n<=1000):n<sizeLine:=GE h (by decide)
section
variable{X:Cx}
theorem pv(i:Nat){x:Str}{pos:Pos}(d:X.N[i]?=some x:=by rfl)(b:UC X.env.scope x:=by first|exact Ng rfl|exact NM (Ng rfl)|exact NM (NM rfl))(c:(x==("__debug__":Str))=false:=by decide)
 (a:(x==("__classdict__":Str))=false:=by decide):PE X (.Name x pos) (lG i):=EL d b c a
end
def aq(H H':Hp):Prop:=∀b o,H b=some o->H' b=some o
theorem aq.refl(H:Hp):aq H H:=λ_ _ h=>h
theorem aq.trans{H H1 d:Hp}(a:aq H H1)(b:aq H1 d):aq H d:=λc o h=>b c o (a c o h)
theorem aq.free{H H':Hp}(e:aq H H'){l:Addr}(h:H' l=e5):H l=e5:=by
 cases q:H l with
 |none=>rfl
 |some o=>rw[e l o q]at h;cases h
theorem bits_le{x:Int}{n:Nat}(h:x.natAbs<2^n):Builtin.Int.intBits x<=n:=by
 unfold Builtin.Int.intBits;split
 .exact Iy _
 .rename_i hx
  have a:x.natAbs≠0:=λe=>hx (by simp[Int.natAbs_eq_zero.mp e]);have:=(XC a).mpr h;omega
theorem zQ{i j:Int}(h:Builtin.Int.intBits i+Builtin.Int.intBits j<=134217728):IntMulOk i j:=by
 unfold IntMulOk Builtin.Int.intTooBig;have a:¬((Builtin.Int.intBits i:Int)+(Builtin.Int.intBits j:Int)>((bitsLine:Nat):Int)):=by rw[bitsLine_eq];omega
 intro z;rw[AN]at z;exact a (D1 z.2)
section
variable{X:Cx}
theorem JT:nK X (binaryOp .Mult) (rI IntMulOk λi j=>.int (i*j)):=Yu λ_ _ _ _ _ _ _ a q=>mul_int q a
def oO(_ j:Int):Prop:=j≠0/\j.natAbs.log2<1000000000
theorem Ff:nK X (binaryOp .FloorDiv) (rI oO λi j=>.int (i.fdiv j)):=λa s e H x y v u Q I c b h=>by obtain⟨i,j,rfl,rfl,d,q⟩:=h;obtain⟨t,rfl⟩:=c;obtain⟨f,rfl⟩:=b;exact floordiv_int d.1 ⟨.int (i.fdiv j),H,I.tok _,⟨_,rfl⟩,q⟩ (.inr (I.ok.UD X.A s rfl rfl I.bk))
end
theorem aK{H:Hp}{p:Addr}(h:H p=none)(o:HO):aq H (upd H p o):=λb u q=>by rw[ak (aR q h)];exact q
theorem Fg{H H':Hp}{p:Addr}(s:aq H H')(h:H p=none)(o:HO):aq H (upd H' p o):=λb u q=>by rw[ak (aR q h)];exact s b u q
theorem aq.tup{K:Frag}{H H':Hp}{a:Addr}{b:List V}(e:aq H H')(h:nH K H a b):nH K H' a b:=by
 rcases h with(h|⟨o,h⟩)|h
 .exact .inl (.inl (e _ _ h))
 .exact .inl (.inr ⟨o,e _ _ h⟩)
 .exact .inr h
theorem fM{n:Nat}(h:n<=100000):n<=sizeLine:=Bz h (by decide)
end L2
namespace L2
theorem iF{i j:Int}(c:0<=j)(b:j<=1000000)(a:i.natAbs<2^64):JB i j:=⟨c,b,a⟩
end L2
namespace L2
open PySem PySem.Spec PyProof.Rows
theorem xT{H:Hp}{p q:Addr}{o u:HO}(a:H q=some u)(b:H p=none):upd H p o q=some u:=by rw[ak (aR a b)];exact a
theorem cN.thing{P:Program}{w:World}{H:Hp}{h:Heap}{a:Addr}{o:HO}(x:cN P w H h a o):∃b,h.get? a=some b:=by
 cases o with
 |lst d=>obtain⟨_,_,_,_,e⟩:=x;exact⟨_,e⟩
 |tup d=>obtain⟨_,_,_,b,e,_⟩:=x;exact⟨_,e⟩
 |dK c=>obtain⟨_,_,_,_,b,_,_,e,_⟩:=x;exact⟨_,e⟩
 |dT c=>obtain⟨_,_,_,_,b,_,_,e,_⟩:=x;exact⟨_,e⟩
 |set S n=>obtain⟨b,_,_,_,e,_⟩:=x;exact⟨_,e⟩
 |ins C l g=>obtain⟨_,_,_,e,_⟩:=x;exact⟨_,e⟩
 |own y=>exact x
 |xd g=>obtain⟨_,⟨_,_,_,e,_⟩,_⟩:=x;exact⟨_,e⟩
 |ny j k=>obtain⟨_,_,_,e⟩:=x;exact⟨_,e⟩
 |xH b u=>obtain⟨e,_⟩:=x;exact⟨_,e⟩
 |M3 i=>exact⟨_,x⟩
 |met f y=>exact⟨_,x⟩
 |ext φ=>obtain⟨_,e,_⟩:=x;exact e
theorem lz.gone{P:Program}{w:World}{H:Hp}{h:Heap}{a:Addr}(x:lz P w H h)(e:h.get? a=none):H a=none:=by
 cases q:H a with
 |none=>rfl
 |some u=>obtain⟨b,z⟩:=(x a u q).thing;rw[e]at z;cases z
theorem lz.tracked{P:Program}{w:World}{H:Hp}{h h':Heap}(x:lz P w H h)(k:∀b u c,H b=some u->h.get? b=some c->h'.get? b=some c):lz P w H h':=λa o e=>
 (x a o e).stay (λb u z q=>by
   rcases z with rfl|z
   .exact k b o u e q
   .exact k b _ u z q) (λ_ q=>q) λ_ _ q=>q
structure Fly(P:Program)(w:World)(outer:List Env)(H:Hp)(s:Shared)(H':Hp)(a C:Addr)(s':Shared):Prop where
 os:s'.os=s.os
 bare:AllBare s'.gens
 un:Un (frs outer) [] H H' s.heap s'.heap
 hok:lz P w H' s'.heap
 new:H' a=none
 old:s.heap.get? a=none
 Vg:∃(B:Heap)(a0:Value),Heap.FlyingW B outer a (.ref C) a0 s'.heap/\∀b o,s'.heap.get? b=some o->b∉frs outer->((∃o',s.heap.get? b=some o')\/∃u,H' b=some u)->B.get? b=some o
noncomputable def ji(P:Program)(w:World):Dj:=λb H s E e d=>∃a C c,e=.ref a/\Fly P w b H s c a C d/\E (.ref C) none c
section
variable{P:Program}{w:World}{K:Frag}{mg:Str->Option Value}{base:Heap}{N:List Str}{qual:Str}{scope:Scope}{f:Addr}{cd:Value}{A:Around}{outer:List Env}{s:Shared}{H:Hp}{E:XK}
abbrev lC(P:Program)(w:World)(K:Frag)(mg:Str->Option Value)(base:Heap)(N:List Str)(qual:Str)(scope:Scope)(f:Addr)(cd:Value)(A:Around)(outer:List Env)(s:Shared)(H:Hp)(E:XK):Cx:=
 zM (ji P w) P w K mg base N qual scope f cd A outer s H E
theorem qy{e:Env}{l:List Env}{L b:Addr}(a:e.frame=some L):b∈frs (e::l)↔b=L\/b∈frs l:=by unfold frs;rw[L1,a];exact Fh
theorem xU{g:List (Addr×Obj)}{x:St}{H1 t:Hp}{i:Shared}{r:Heap}(I:Inv (lC P w K mg base N qual scope f cd A outer s H E) g x H1 i)
 (u:Un (frs (lC P w K mg base N qual scope f cd A outer s H E).stack) [] H1 t i.heap r):Un (frs outer) [] H t s.heap r:=by
 have D:(lC P w K mg base N qual scope f cd A outer s H E).env.frame=some s.heap.objs.size:=rfl;have p:∀b,b∈frs (lC P w K mg base N qual scope f cd A outer s H E).stack↔b=s.heap.objs.size\/b∈frs outer:=λb=>qy D;have c:Un (frs outer) [] H H1 s.heap i.heap:=I.base;have k:∀b o,s.heap.get? b=some o->b∉frs outer->b∉frs (lC P w K mg base N qual scope f cd A outer s H E).stack:=λb o q d z=>by
  rcases(p b).mp z with z|z
  .exact absurd (Fu q) (by rw[z];exact SU _)
  .exact d z
 refine⟨λb o q n d a=>?_,λb o q n d a=>?_,λb o q n a=>?_,λb o q a=>?_,λb m q=>u.tups b m (c.tups b m q),λb o v q=>u.kG b o v (c.kG b o v q),λb y q=>?_⟩
 .exact u.keep b o (c.keep b o q n d a) (c.free b o q n a) (k b o q d) a
 .obtain⟨F,e⟩:=c.slot b o q n d a;obtain⟨h,l⟩:=u.slot b _ e (c.free b o q n a) ((p b).mpr (.inr d)) a;exact⟨h,l⟩
 .obtain⟨j,e⟩:=c.there b o q a;exact u.free b j e (c.free b o q n a) a
 .obtain⟨j,e⟩:=c.there b o q a;exact u.there b j e a
 .obtain⟨C,e⟩:=c.lE b y q;obtain⟨B,l⟩:=u.lE b _ e;exact⟨C++B,by rw[l,bX]⟩
theorem zS{l:List Env}{H1 t:Hp}{p g h:Heap}(u:Un (frs l) [] H1 t p g)(k:∀b o,g.get? b=some o->b∉frs l->((∃c,p.get? b=some c)\/∃u,t b=some u)->h.get? b=some o)
 (ff:∀b,b∈frs l->∃o,g.get? b=some o/\∀vs,o.data≠.fields vs)(up:g.UpToSlots h):Un (frs l) [] H1 t p h:=by
 have v:∀b o,b∈frs l->g.get? b=some o->∃m,h.get? b=some {o with slots:=m}:=λb o a q=>by obtain⟨c,e,x⟩:=ff b a;rw[q]at e;cases e;exact up b o q x
 refine⟨λb o q n a d=>k b o (u.keep b o q n a d) a (.inl ⟨o,q⟩),λb o q n a d=>?_,u.free,λb o q d=>?_,u.tups,u.kG,u.lE⟩
 .obtain⟨m,i⟩:=u.slot b o q n a d;obtain⟨j,r⟩:=v b _ a i;exact⟨j,r⟩
 .obtain⟨c,i⟩:=u.there b o q d;by_cases a:b∈frs l
  .obtain⟨m,r⟩:=v b c a i;exact⟨_,r⟩
  .exact⟨c,k b c i a (.inl ⟨o,q⟩)⟩
theorem Fi{b:List (Addr×Obj)}{d:St}{H1:Hp}{c:Shared}{a:Addr}(I:Inv (lC P w K mg base N qual scope f cd A outer s H E) b d H1 c)(e:c.heap.get? a=none):s.heap.get? a=none:=by
 have g:Un (frs outer) [] H H1 s.heap c.heap:=I.base;cases q:s.heap.get? a with
 |none=>rfl
 |some o=>obtain⟨h,z⟩:=g.there a o q (by simp);rw[e]at z;cases z
theorem zT{d:List (Addr×Obj)}{J:St}{H1:Hp}{c:Shared}{h':Heap}{a C:Addr}{k:List Value}(I:Inv (lC P w K mg base N qual scope f cd A outer s H E) d J H1 c)
 (l:Heap.MadeExcOf c.heap h' a (.ref C) k)(q:E (.ref C) none H1):(lC P w K mg base N qual scope f cd A outer s H E).xe (.ref a) {c with heap:=h'}:=by
 have D:(lC P w K mg base N qual scope f cd A outer s H E).env.frame=some s.heap.objs.size:=rfl;have R:∀b,b∈frs (lC P w K mg base N qual scope f cd A outer s H E).stack↔b=s.heap.objs.size\/b∈frs outer:=λb=>qy D;have ff:=I.stack;have p:∀env∈(lC P w K mg base N qual scope f cd A outer s H E).stack,∀b,env.frame=some b->b∈frs (lC P w K mg base N qual scope f cd A outer s H E).stack:=λenv T b r=>Oq.mpr ⟨env,T,r⟩;have j:=PySem.W.funFrames_hide ff p;refine wpAny_leaves_madeW (base:=PySem.W.hideAll c.heap (frs (lC P w K mg base N qual scope f cd A outer s H E).stack)) (h:=c.heap) I.ok.frames D (λb o z=>PySem.W.of_hideAll _ z) j l λn t y Y X M=>?_;have v:∀b o,c.heap.get? b=some o->b∉frs (lC P w K mg base N qual scope f cd A outer s H E).stack->n.get? b=some o:=λb o z g=>y.1 b o (hideAll_get _ z g);have fm:∀b,b∈frs (lC P w K mg base N qual scope f cd A outer s H E).stack->∃o,c.heap.get? b=some o/\∀O,o.data≠.fields O:=λb r=>(j.mem r).2;have up:c.heap.UpToSlots n:=(Heap.UpToSlots.of_keeps l.keeps).trans M;have Q:Un (frs (lC P w K mg base N qual scope f cd A outer s H E).stack) [] H1 H1 c.heap n:=zS Un.refl (λb o z g _=>v b o z g) fm up;refine⟨a,C,H1,rfl,⟨I.os,I.bare,xU I Q,I.hok.tracked λb u S z L=>v b S L λm=>?_,I.hok.gone l.new,Fi I l.new,_,_,y,λb o z g i=>?_⟩,q⟩
 .have:=I.jP b m;rw[z]at this;cases this
 .have G:b∉frs (lC P w K mg base N qual scope f cd A outer s H E).stack:=λm=>by
   rcases i with⟨B,e⟩|⟨u,e⟩
   .rcases(R b).mp m with m|m
    .exact absurd (Fu e) (by rw[m];exact SU _)
    .exact g m
   .have:=I.jP b m;rw[e]at this;cases this
  have:∃o1,c.heap.get? b=some o1:=by
   rcases i with⟨B,e⟩|⟨u,e⟩
   .exact Un.there (show Un (frs outer) [] H H1 s.heap c.heap from I.base) b B e (by simp)
   .exact(I.hok b u e).thing
  obtain⟨o1,F⟩:=this;have U:=v b o1 F G;have x:n.get? b=some o:=z;rw[U]at x;cases x;exact hideAll_get _ F G
theorem Fj{g:List (Addr×Obj)}{G:St}{H1:Hp}{i s':Shared}{e:Value}(I:Inv (lC P w K mg base N qual scope f cd A outer s H E) g G H1 i)
 (S:ji P w (lC P w K mg base N qual scope f cd A outer s H E).stack H1 i E e s'):(lC P w K mg base N qual scope f cd A outer s H E).xe e s':=by
 obtain⟨a,C,n,rfl,F,q⟩:=S;obtain⟨B,Y,x,k⟩:=F.Vg;have t:(lC P w K mg base N qual scope f cd A outer s H E).env.frame=some s.heap.objs.size:=rfl;have Q:∀b,b∈frs (lC P w K mg base N qual scope f cd A outer s H E).stack↔b=s.heap.objs.size\/b∈frs outer:=λb=>qy t;refine wpAny_leaves_onW I.ok.frames t x λU h L=>?_;have fm:∀b,b∈frs (lC P w K mg base N qual scope f cd A outer s H E).stack->∃o,s'.heap.get? b=some o/\∀M,o.data≠.fields M:=λb T=>(x.2.2.1.mem T).2;have D:∀b u,n b=some u->b∉frs (lC P w K mg base N qual scope f cd A outer s H E).stack:=λb u z m=>by have l:=I.jP b m;obtain⟨o,R,_⟩:=I.stack.mem m|>.2;rw[F.un.free b o R l (by simp)]at z;cases z
 have O:=zS F.un (λb o z j c=>h.1 b o (k b o z j c)) fm L;refine⟨a,C,n,rfl,⟨F.os.trans I.os,F.bare,xU I O,F.hok.tracked λb u r z J=>h.1 b r (k b r J (D b u z) (.inr ⟨u,z⟩)),F.new,Fi I F.old,B,Y,h,λb o z j c=>?_⟩,q⟩;have Z:b∉frs (lC P w K mg base N qual scope f cd A outer s H E).stack:=λm=>by
  rcases c with⟨d,e⟩|⟨u,e⟩
  .rcases(Q b).mp m with m|m
   .exact absurd (Fu e) (by rw[m];exact SU _)
   .exact j m
  .exact D b u e m
 have y:(∃d,i.heap.get? b=some d)\/∃u,n b=some u:=by
  rcases c with⟨d,e⟩|z
  .exact .inl (Un.there (show Un (frs outer) [] H H1 s.heap i.heap from I.base) b d e (by simp))
  .exact .inr z
 have:∃o1,s'.heap.get? b=some o1:=by
  rcases y with⟨d,e⟩|⟨u,e⟩
  .exact F.un.there b d e (by simp)
  .exact(F.hok b u e).thing
 obtain⟨o1,l⟩:=this;have v:=k b o1 l Z y;have X:=h.1 b o1 v;have p:U.get? b=some o:=z;rw[X]at p;cases p;exact v
theorem Fl:Passes (ji P w) (lC P w K mg base N qual scope f cd A outer s H E) E:=λ_ _ _ _ _ _ I h=>Fj I h
end
abbrev YJ:List Value:=[.type "ValueError",.type "Exception",.type "BaseException",.type "object"]
structure tD(K:Frag)(C:Addr):Prop where
 exc:excIn K C YJ "ValueError.__new__"=true
 ga:findIn K (.ref C) "__getattribute__"=some (some (.builtin "BaseException.__getattribute__"))
 gt:findIn K (.ref C) "__getattr__"=some none
 cl:findIn K (.ref C) "__class__"=some (some (.builtin "object.__class__"))
 ob:mroIn K C (.type "object")=some true
 bs:mroIn K C (.type "BaseException")=some true
theorem JU{p:Prop}(h:false=true):p:=nomatch h
theorem exA{o:Option Obj}{F:Option Addr->ClassData->Array (Option Value)->Bool}(q:PySem.W.excIn.match_6 (λ_=>Bool) o F (λ_=>false)=true):∃d c l,o=some ⟨.type "type",d,.cls c,l⟩/\F d c l=true:=by
 rcases o with _|⟨b,g,a,f⟩
 .exact JU q
 cases b with
 |type s=>
  by_cases e:s="type"
  .subst e;cases a with
   |cls h=>exact⟨_,_,_,rfl,q⟩
   |_=>exact JU q
  .delta PySem.W.excIn.match_6 at q
   exact JU ((dif_neg e).symm.trans q)
 |_=>exact JU q
theorem exB{m:List Value}{l:List (Option Value)}{F:Addr->List Value->Option Value->Option Value->Option Value->Option Value->String->Option Value->Bool}(q:PySem.W.excIn.match_1 (λ_ _=>Bool) m l F (λ_ _=>false)=true):∃a b k0 k1 k2 k3 n k5,m=.ref a::b/\l=[k0,k1,k2,k3,some (.builtin n),k5]/\F a b k0 k1 k2 k3 n k5=true:=by
 rcases m with _|⟨v,d⟩
 .exact JU q
 cases v with
 |ref e=>
  rcases l with _|⟨k0,_|⟨k1,_|⟨k2,_|⟨k3,_|⟨_|v,r⟩⟩⟩⟩⟩<;>try exact JU q
  cases v with
  |builtin n=>
   rcases r with _|⟨k5,_|⟨c,r⟩⟩<;>try exact JU q
   exact⟨_,_,_,_,_,_,_,_,rfl,rfl,q⟩
  |_=>exact JU q
 |_=>exact JU q
theorem pQ{K:Frag}{h:Heap}{C:Addr}{b:List Value}{a:String}(X:K.In h)(q:excIn K C b a=true):
 ∃bm N nm c bs hdct sn sub ab col dd k0 k1 k2 k3 k5 mN,h.get? C=some (excClassObj nm c C N bs bm hdct sn sub ab col dd k0 k1 k2 k3 k5 a)/\h.Ns N mN/\mN "__init__"=none/\OwnTail h b bm:=by
 obtain⟨dd,v,d,i,q⟩:=exA q;have s:=X _ _ i;clear i;obtain⟨w,bm,k0,k1,k2,k3,n,k5,g,f,q⟩:=exB q;obtain⟨nm,bs,r,p,c,t,sn,sub,ab,col,u⟩:=v;obtain⟨d⟩:=d;dsimp only at g f q;subst g f;simp only[AN,NA,ox]at q;obtain⟨⟨⟨⟨⟨o,m⟩,l⟩,k⟩,e⟩,j⟩:=q;subst o m l;exact⟨bm,p,nm,c,bs,t,sn,sub,ab,col,dd,k0,k1,k2,k3,k5,_,s,Heap.Ns.of_isNs (PySem.W.isNs_of_in X e),PySem.W.nsMap_none_of_in X e j,PySem.W.tail_of_in X k⟩
noncomputable def zU(X:Cx)(R:Addr->Hp->Prop):Prop:=∀(b:List (Addr×Obj))(e:St)(H:Hp)(s:Shared)(d:Heap)(a C:Addr)(c:List Value),Inv X b e H s->Heap.MadeExcOf s.heap d a (.ref C) c->R C H->X.xe (.ref a) {s with heap:=d}
theorem vp{P:Program}{w:World}{K:Frag}{mg:Str->Option Value}{base:Heap}{N:List Str}{c:Str}{a:Scope}{f:Addr}{e:Value}{A:Around}{b:List Env}{s:Shared}{H:Hp}{E:XK}:
 zU (lC P w K mg base N c a f e A b s H E) (λC H'=>E (.ref C) none H'):=λ_ _ _ _ _ _ _ _ I d q=>zT I d q
noncomputable def OY(R:Addr->Hp->Prop)(C:Addr)(t:TA):TS:=λ_ a H=>t a H λb c=>b.length<=sizeLine/\R C c
section
variable{X:Cx}{x:Str}{C:Addr}{e:Expr}{t:TA}{np cpos pos:Pos}{R:Addr->Hp->Prop}
theorem Fo(v:zU X R)(p:X.calm=true)(o:Gl X x)(m:X.mg x=some (.ref C))(q:tD X.K C)(u:PA X [e] t)(f:starEach [e] X.env=[(false,eval e X.env)]:=by rfl)
 (hd:(x==("__debug__":Str))=false:=by decide):PS X (.Raise (some (.Call (.Name x np) [e] [] cpos)) none pos) (OY R C t):=by
 intro b s d H D I h;obtain⟨bm,N,nm,j,bs,hdct,sn,sub,ab,col,dd,k0,k1,k2,k3,k5,mN,y,w,c,T⟩:=pQ I.ok.mod.Jp q.exc;refine wpAny_Raise_call_subT (C:=C) (bm:=bm) (mN:=mN) (nm:=nm) (q:=j) (N:=N) (bs:=bs) (hdct:=hdct) (sn:=sn) (sub:=sub) (ab:=ab) (col:=col) (dd:=dd) (k0:=k0) (k1:=k1) (k2:=k2) (k3:=k3) (k5:=k5) (F:=PySem.F.excBase_ValueError) (T.hasType PySem.F.excBase_ValueError.hasBase) (I.ok.hd p) (by rw[f];rfl) c (eY I o m ⟨rfl,?_⟩ hd);have g:=u cpos b s d H _ I h;rw[f]at g⊢;refine Calls.evalArgs_plain (cy g λG i z=>?_);obtain⟨E,B,I1,r,n,k⟩:=z;refine⟨rfl,by rw[<-r.length];exact n,I1.bk _ _ y,w.keeps I1.bk,T.keeps I1.bk,λA a l=>v b d B i A a C _ I1 l k⟩
end
theorem PS.kH{X:Cx}{st:Stmt}{t:TS}(h:PS X.kH st t):PS X st t:=λa s b H D I c=>fo (h a s b H D (I.pC _) c) (λ_ _ q=>q.gx) λ_ _ z=>G1 z
theorem Ds.Xs{P:Program}{w:World}{K:Frag}{mg:Str->Option Value}{base:Heap}{x b:Str}{st:Stmt}{f:Addr}{i:FuncData}{N ps:List Str}{k:Nat}{sp:Sp}(F:Ds K x b st f i)(S:cI N ps (af st))
 (d:∀vs H Q E,sp vs H Q E->vs.length=ps.length)
 (n:∀(c:Value)(A:Around)(a:List Env)(s:Shared)(H:Hp)(vs:List V)(Q:VK)(E:XK),cX k (A.deeper (envOfC b (af st) s.heap.objs.size f c))->sp vs H Q E->
   ∃t,sX (lC P w K mg base N b (af st) f c A a s H E) (aP st) t/\t {nx:=λ_ H'=>Q .bu H',rt:=Q} (start N vs) H):bK P w K mg base (ji P w) (k+1) f i ps sp:=by
 obtain⟨r,q,kV,o,p,v,c,u,j,e,l,g⟩:=F.ex;subst e;exact Nd l g S d λA a s H vs Q E m h=>n c A a s H vs Q E m h
theorem bK.Vi{P:Program}{w:World}{K:Frag}{mg:Str->Option Value}{base:Heap}{k:Nat}{f:Addr}{c:FuncData}{ps:List Str}{sp:Sp}(F:bK P w K mg base (ji P w) k f c ps sp):
 bK P w K mg base JS k f c ps (λvs H Q _=>sp vs H Q E0):=
 ⟨λvs H Q E h=>F.len vs H Q E0 h,λA a s H b d vs Q E g j i r h=>wa (F.run A a s H b d vs Q E0 g j i r h) λr l z=>by
   cases r with
   |error e=>obtain⟨_,_,_,_,_,q⟩:=z;exact q.elim
   |ok fl=>cases fl<;>exact z⟩
noncomputable def FX(X:Cx)(a:List (Addr×Obj))(d:St)(E:XK)(e:Value)(s':Shared):Prop:=∃c b,Inv X a d c b/\ji X.prog X.w X.stack c b E e s'
abbrev TX:=St->Hp->VK->XK->Prop
noncomputable def PX(X:Cx)(e:Expr)(t:TX):Prop:=
 ∀(a:List (Addr×Obj))(s:Shared)(b:St)(H:Hp)(Q:VK)(E:XK),Inv X a b H s->t b H Q E->wpAny (model X.prog X.w) X.A (eval e X.env) (EP X a b Q) (FX X a b E) s
def OZ(sp:Sp)(t:TA):TX:=λa H Q E=>t a H λb c=>sp b c Q E
section
variable{X:Cx}{k:Nat}{f:Addr}{fd:FuncData}{ps:List Str}{sp:Sp}{x:Str}{p pos:Pos}{e:Expr}{es:List Expr}{t:TA}
theorem JV(F:bK X.prog X.w X.K X.mg X.base (ji X.prog X.w) k f fd ps sp)(v:cX k X.A)(D:Gl X x)(y:X.mg x=some (.ref f))(C:keepIn X.K (.ref f)=true)(J:Binds X.K fd ps [])
 (L:PA X.kH (e::es) t)(i:(x==("__debug__":Str))=false:=by decide)(G:starEach (e::es) X.env=(false,eval e X.env)::starEach es X.env:=by rfl)(g:(backTo pos (starEach es X.env)).any (·.1)=false:=by rfl):
 PX X (.Call (.Name x p) (e::es) [] pos) (OZ sp t):=by
 intro a s n H Q E I h;refine eI (eY I D y ?_ i);have M:=L pos a s n H _ (I.pC _) h;refine gd (h₀:=X.base) I.ok.mod.Jp C (fo M (λb c z=>?_) λ_ _ z=>G1 z) G g;obtain⟨o,m,l,r,q⟩:=z;have I1:Inv X a n m c:=l.gx;refine⟨I1.j8,?_⟩;have B:b.length=ps.length:=by rw[<-r.length];exact F.len _ _ _ _ q
 have j:BindsTo c fd ⟨b,[]⟩ (ps.zip b):=by have:=J c b I1.j8 (by rw[X9];exact B);rwa [X9]at this
 refine wpAny_call (wa (F.run X.A X.stack c m ⟨b,[]⟩ b o Q E v I1.OP j r q) λr N d=>?_);cases r with
 |error e=>exact⟨m,c,I1,d⟩
 |ok fl=>
  cases fl with
  |ret u=>exact I1.after d
  |next=>exact G1 d
  |brk=>exact G1 d
  |cont=>exact G1 d
end
noncomputable def kj(a C:Addr)(h:Heap):Prop:=∃b c,h.get? a=some b/\b.cls=.ref C/\b.data=.fields c
def Fq(a C:Addr):HO:=.ext (kj a C)
section
variable{X:Cx}{pins:List (Addr×Obj)}{σ:St}{H:Hp}{s:Shared}
abbrev lK(X:Cx)(a:Addr):Cx:={X with A:=X.A.mark (some (.ref a)),calm:=false,xe:=λ_ _=>False}
theorem Inv.suite(I:Inv X pins σ H s)(a:Addr):Inv (lK X a) pins σ H s:=
 ⟨⟨I.ok.mod,I.ok.kind,I.ok.glob,I.ok.blt,I.ok.above,I.ok.inj,I.ok.has,I.ok.TF,(λz=>by cases z),I.ok.frames,I.ok.stk,I.ok.Xn,I.ok.bs,I.ok.Jq,I.ok.C5,I.ok.C6,I.ok.nG,I.ok.M4,I.ok.tree,I.ok.UD⟩,I.os,I.bare,I.base,I.loc,I.cell,I.free,I.gq,I.pin,I.hok,I.len⟩
theorem Inv.pR{a:Addr}(b:X.Ok)(I:Inv (lK X a) pins σ H s):Inv X pins σ H s:=
 ⟨b,I.os,I.bare,I.base,I.loc,I.cell,I.free,I.gq,I.pin,I.hok,I.len⟩
theorem Inv.adopt{H1:Hp}{j:Shared}{a:Addr}{f:Heap->Prop}(i:Inv X pins σ H1 j)(L:j.heap.get? a=none)(I:Inv X pins σ H s)(n:H a=none)(p:f s.heap)(J:∃o,s.heap.get? a=some o)
 (st:∀y w:Heap,f y->(∀o,y.get? a=some o->w.get? a=some o)->f w):Inv X pins σ (upd H a (.ext f)) s:=by
 have h:∀b o,j.heap.get? b=some o->b≠a:=λb o z e=>by rw[e,L]at z;cases z
 have g:∀b u,H b=some u->upd H a (.ext f) b=some u:=λb u z=>by rw[ak (aR z n)];exact z
 refine⟨I.ok,I.os,I.bare,⟨I.base.keep,I.base.slot,λb o q m l=>?_,I.base.there,λb k q=>g b _ (I.base.tups b k q),λb o v q=>g b _ (I.base.kG b o v q),λb E q=>?_⟩,I.loc,I.cell,?_,λx c e=>?_,λp r=>?_,λb u z=>?_,I.len⟩
 .obtain⟨F,d⟩:=i.base.there b o q l;rw[ak (h b F d)];exact I.base.free b o q m l
 .obtain⟨G,d⟩:=I.base.lE b E q;exact⟨G,g b _ d⟩
 .obtain⟨m,K,_⟩:=i.loc;obtain⟨o,_,_,d,_⟩:=K;rw[ak (h _ o d)];exact I.free
 .obtain⟨v,o,d,_⟩:=i.cell x c e;rw[ak (h _ o d)];exact I.gq x c e
 .obtain⟨D,C,B⟩:=I.pin p r;refine⟨D,?_,B⟩;obtain⟨A,_⟩:=i.pin p r;rw[ak (h _ _ A)];exact C
 .by_cases t:b=a
  .subst t;rw[au]at z;cases z;exact⟨p,J,st⟩
  .rw[ak t]at z;exact(I.hok b u z).stay (λ_ _ _ q=>q) (λc q=>g c _ q) λc k q=>g c _ q
theorem name_goes{M:Model}{A:Around}{E:Value->Shared->Prop}{i:Nat}{n:Str}{pos:Pos}{Q:Unit->Shared->Prop}(I:Inv X pins σ H s)(hN:X.N.Nodup)(hi:X.N[i]?=some n)(Z:X.env.scope.names.lookup n=some .local)
 (h:∀s',Inv X pins (σ.set i none) H s'->Q () s'):wpAny M A (do bindName X.env n .none;unbindBehindTheSuite X.env n pos) Q E s:=by
 obtain⟨m,G,w⟩:=id I.loc;have l:(X.env.scope.kind==.class||(X.env.scope.kind==.module&&X.env.locals !=X.env.globals))=false:=by rw[I.ok.kind];rfl
 have Jx:i<σ.length:=by rw[I.len];exact(Fn.mp hi).1
 have EJ:=I.EJ;refine wpAny_nameGoes_keeps Z G l λh' v t a=>?_;obtain⟨oL,_,_,Y,_⟩:=id G;have C:∀b o,X.s₀.heap.get? b=some o->b≠X.env.locals:=λb o e=>Qr (FS (Fu e) I.ok.above);refine h _ ⟨I.ok,I.os,I.bare,⟨λb o e n B g=>?_,λb o e n B g=>?_,I.base.free,λb o e g=>?_,I.base.tups,I.base.kG,I.base.lE⟩,⟨_,t,λj y L f r e3=>?_⟩,λy c e=>?_,I.free,I.gq,λp U=>?_,?_,by simpa using I.len⟩
 .exact(a.2 b (C b o e)).trans (I.base.keep b o e n B g)
 .obtain⟨O,f⟩:=I.base.slot b o e n B g;exact⟨O,(a.2 b (C b o e)).trans f⟩
 .obtain⟨R,f⟩:=I.base.there b o e g;exact⟨R,(a.2 b (C b o e)).trans f⟩
 .by_cases x:j=i
  .subst x;rw[Tb Jx]at r;cases r
  .rw[Oy (Y2 x)]at r;obtain⟨D,P,q⟩:=w j y L f r e3;refine⟨D,P,?_⟩;rcases q with⟨k,e⟩|⟨k,c,e,z⟩
   .refine .inl ⟨k,?_⟩;have:y≠n:=λe=>x (qj hN f (e▸hi));show(if y=n then v else m y)=some D;rw[BM this];exact e
   .exact .inr ⟨k,c,e,z.sameBut a (EJ y c e)⟩
 .obtain⟨K,z⟩:=I.cell y c e;exact⟨K,z.sameBut a (EJ y c e)⟩
 .obtain⟨e,T,F,S,d⟩:=I.pin p U;exact⟨(a.2 p.1 F).trans e,T,F,S,d⟩
 .exact I.hok.tracked λb u ob z J=>(a.2 b λe=>by rw[e,I.free]at z;cases z).trans J
end
theorem zV{M:Model}{A:Around}{E:Value->Shared->Prop}{K:Frag}{s:Shared}{a C D:Addr}{i:Obj}{Q:Bool->Shared->Prop}(X:K.In s.heap)(w:tD K C)(e:tD K D)(n:s.heap.get? a=some i)(c:i.cls=.ref C)
 (b:mroIn K C (.ref D)=some true)(l:Q true s):wpAny M A (excMatches (.ref a) (.ref D)) Q E s:=by
 obtain⟨h,g,d,t,x⟩:=s;obtain⟨O,N,y,v,bs,j,u,k,ab,p,L,I,H,G,F,B,z,o,J,m,T⟩:=pQ X e.exc;have r:=t5 (M:=M) X b;have q:=t5 (M:=M) X e.bs;have f:=tc_notTuple;unfold excMatches
 repeat (first|(with_reducible refine wpAny_loadPart_at n ?_;rw[c])|with_reducible refine wpAny_loadPart_at o ?_|exact l|with_reducible refine r.at ?_|with_reducible refine q.at ?_|wp_step)
abbrev Ends.past(D:Ends)(i:Nat):Ends:={nx:=λσ' H'=>D.nx (σ'.set i none) H',rt:=D.rt,bk:=λσ' H'=>D.bk (σ'.set i none) H',ct:=λσ' H'=>D.ct (σ'.set i none) H'}
noncomputable def YK(K:Frag)(i:Nat)(D:Addr)(te:TX)(e:TS):TS:=λW d H=>te d H (λ_ b=>W.nx d b) (λc _ b=>∃C,c=.ref C/\tD K C/\mroIn K C (.ref D)=some true/\
 ∀a,b a=none->e (W.past i) (d.set i (some (.ref a))) (upd b a (Fq a C)))
theorem Inv.Vg{X:Cx}{c:List (Addr×Obj)}{k:St}{H1 f:Hp}{g d e:Shared}{a C:Addr}{B:Heap}{A:Value}(I:Inv X c k H1 g)(F:Fly X.prog X.w X.stack H1 g f a C d)
 (p:∀b o,d.heap.get? b=some o->b∉frs X.stack->((∃s,g.heap.get? b=some s)\/∃u,f b=some u)->B.get? b=some o)(x:Heap.FlyingW B X.stack a (.ref C) A d.heap)(l:B.StaysIn e.heap)(up:d.heap.UpToSlots e.heap)
 (j:e.os=d.os)(y:e.gens=d.gens):Inv X c k f e:=by
 have fm:∀b,b∈frs X.stack->∃o,d.heap.get? b=some o/\∀r,o.data≠.fields r:=λb i=>(x.2.2.1.mem i).2;have D:∀b u,f b=some u->b∉frs X.stack:=λb u z m=>by have j:=I.jP b m;obtain⟨o,v,_⟩:=I.stack.mem m|>.2;rw[F.un.free b o v j (by simp)]at z;cases z
 refine I.EK (ch:=[]) (j.trans F.os) (zS F.un (λb o z t h=>l b o (p b o z t h)) fm up) (F.hok.tracked λb u n z q=>l b n (p b n q (D b u z) (.inr ⟨u,z⟩))) (by rw[y];exact F.bare) λb i=>absurd i (by simp)
theorem O2{X:Cx}{e:Expr}{n x:Str}{i:Nat}{D:Addr}{c:Stmt}{suite:List Stmt}{te:TX}{Z:TS}{p1 p2 np pos:Pos}(g:X.stack=X.env::X.outer/\X.env.frame=some X.env.locals)(t:X.N.Nodup)(hi:X.N[i]?=some n)
 (l:X.env.scope.names.lookup n=some .local)(hg:Gl X x)(hm:X.mg x=some (.ref D))(qD:tD X.K D)(he:PX X e te)(hs:∀a,sX (lK X a) (c::suite) Z)(G:swapsWith e none p1.line X.env=pure false:=by rfl)
 (hd:(x==("__debug__":Str))=false:=by decide):PS X (.Try [.Expr e p1] [.ExceptHandler (some (.Name x np)) (some n) (c::suite) p2] [] [] pos) (YK X.K i D te Z):=by
 intro b s m H W I h;refine wpAny_Try_except (wpAny_execs_cons (wpAny_Expr_any (fo (he b s m H _ _ I h) (λv o z=>?_) λev o z=>?_) I.quiet G))
 .obtain⟨y,H1,I1,r1,q1⟩:=z;exact oy (oy ⟨m,H1,I1,q1⟩)
 obtain⟨H1,s0,Q,a,C,R,rfl,F,C',M,qC,p,q⟩:=z;cases M;obtain⟨B,a0,P,kB⟩:=F.Vg;have fr:X.A.frames=some (X.env::X.outer):=by rw[I.ok.frames,g.1]
 have O:Heap.FlyingW B (X.env::X.outer) a (.ref C) a0 o.heap:=by rw[<-g.1];exact P
 refine wpAny_looks_onW fr g.2 O λh4 y4 Y=>wpAny_landsW y4 λh5 w U=>?_;have I5:Inv X b m R {o with heap:=h5}:=Q.Vg F kB P w.1 (Y.trans U) rfl rfl;obtain⟨ob,L,YL⟩:=w.there;refine wpAny_handleBy_cons (codeAny_handlers_test (eY (X:=lK X a) (I5.suite a) hg hm ?_ hd)) (by intro z;cases z);refine zV (K:=X.K) I5.j8 qC qD L YL p (codeAny_handlers_suite_as ?_);refine lands_againW w λh6 T u6=>?_;have I6:Inv X b m R {o with heap:=h6}:=Q.Vg F kB P T.1 ((Y.trans U).trans u6) rfl rfl;obtain⟨oe,vs,g1,g2,g3,_⟩:=T.first
 have I7:Inv X b m (upd R a (Fq a C)) {o with heap:=h6}:=Inv.adopt Q F.old I6 F.new ⟨oe,vs,g1,g2,g3⟩ ⟨oe,g1⟩ λh1 h2 z k=>by obtain⟨o1,v1,z1,z2,z3⟩:=z;exact⟨o1,v1,k _ z1,z2,z3⟩
 refine jj (X:=lK X a) (v:=.ref a) (I7.suite a) t hi (.inl l) rfl (λs7 I8=>?_) (.inr l);refine fo (hs a b s7 _ _ _ I8 (q a F.new)) (λf s8 z=>?_) λ_ _ z=>G1 z;cases f with
 |next=>obtain⟨d,S,J,z⟩:=z;exact name_goes (J.pR I.ok) t hi l λE j=>⟨_,_,j,z⟩
 |brk=>obtain⟨d,S,J,z⟩:=z;exact name_goes (J.pR I.ok) t hi l λE j=>⟨_,_,j,z⟩
 |cont=>obtain⟨d,S,J,z⟩:=z;exact name_goes (J.pR I.ok) t hi l λE j=>⟨_,_,j,z⟩
 |ret u=>obtain⟨v,d,S,J,r,z⟩:=z;exact name_goes (J.pR I.ok) t hi l λE j=>⟨_,_,_,j,r,z⟩
section
variable{prog:Program}{w:World}{A:Around}{E:Value->Shared->Prop}{s:Shared}{K:Frag}{a C:Addr}
theorem jl{M:Model}{h:Heap}(p:kj a C h):PySem.W.Looks M h (typeOf (.ref a)) (.ref C):=by obtain⟨o,d,c,b,e⟩:=p;exact b▸(PySem.W.Looks.ld c).andThen .now
theorem JW{c:Value}{R:Result->Shared->Prop}(X:K.In s.heap)(p:kj a C s.heap)(q:tD K C)(h:R (.ok (.ret (.ref C))) s):
 codeAny (model prog w) A (.call (.builtin "getset_descriptor.__get__") ⟨[.builtin "object.__class__",.ref a,c],[]⟩) R s:=by
 obtain⟨e,g,f,t,d⟩:=s;have j:=jl (M:=model prog w) p;have i:=t5 (M:=model prog w) X q.ob;have b:=PySem.W.KF.slot_gs;refine codeAny_call_builtin b.plain PySem.W.KF.entry_gs (b.check _ _ _ _ _ _ _ _ PySem.W.KF.type_class (PySem.W.KF.args_gs _ _ _) ?_);unfold Builtin.«getset_descriptor.__get__»;unfold Builtin.Getset_descriptor.descrGet;rw[PySem.W.dga_obj];apply Kt;apply UF;unfold Builtin.Getset_descriptor.descrGetter;unfold Builtin.Getset_descriptor.descrCheckInstance;unfold Builtin.Getset_descriptor.descrNameAndClass;unfold isInstance;simp only[PySem.W.KF.owner_class]
 repeat lk
 refine⟨Code.quiet_builtin _ (by decide+kernel),codeAny_builtin PySem.W.KF.entry_class ?_⟩;unfold Builtin.«object.__class__»;unfold shownTypeOf
 repeat lk
 exact h
theorem Dv{b:Tok}{Q:Fin->Shared->Prop}(X:K.In s.heap)(p:kj a C s.heap)(q:tD K C)(h:Q (.done (.ret (.ref C))) s):
 wpAny (model prog w) A (Builtin.«object.__getattribute__» ⟨[.ref a,.str "__class__" b],[]⟩) Q E s:=by
 obtain⟨d,g,f,t,c⟩:=s;have j:=jl (M:=model prog w) p;have i:=pj (M:=model prog w) X q.cl;have e:(⟨d,g,f,t,c⟩:Shared).TypeIs (.builtin "object.__class__") "getset_descriptor":=F.typeOf_object_class;have l:=F.typeOf_object_class;have k:=F.slot_gs_get.lookup;have f7:=F.slot_gs_set.lookup
 repeat (any_goals (first|assumption|with_reducible refine j.at ?_|with_reducible refine i.at ?_|wp_step))
 refine JW X p q ?_
 repeat (any_goals (first|assumption|wp_step))
theorem Dw{M:Model}{b:Value}{Q:Unit->Shared->Prop}(X:K.In s.heap)(p:kj a C s.heap)(q:tD K C)(h:Q () s):wpAny M A (checkBuiltinCall "BaseException.__getattribute__" ⟨[.ref a,b],[]⟩) Q E s:=by
 obtain⟨k,g,l,t,i⟩:=s;have f:=jl (M:=M) p;have e:=t5 (M:=M) X q.bs;have d:builtinKind "BaseException.__getattribute__"=some .slot:=by decide+kernel
 have c:splitId "BaseException.__getattribute__"=some ("BaseException","__getattribute__"):=by decide+kernel
 have j:=F.args_bexc_ga (.ref a) b;simp only[checkBuiltinCall,d,c];apply Kt;unfold isInstance
 repeat (first|with_reducible refine f.at ?_|with_reducible refine e.at ?_|wp_step)
 exact h
theorem Ft{b:Tok}{R:Result->Shared->Prop}(X:K.In s.heap)(p:kj a C s.heap)(q:tD K C)(h:R (.ok (.ret (.ref C))) s):
 codeAny (model prog w) A (.call (.builtin "BaseException.__getattribute__") ⟨[.ref a,.str "__class__" b],[]⟩) R s:=
 codeAny_call_builtin PySem.F.excAttr_ValueError.ga.plain F.entry_bexc_ga (Dw X p q (Dv X p q h))
theorem O3{e:Tok}{c b:Bool}{Q:Value->Shared->Prop}(X:K.In s.heap)(p:kj a C s.heap)(q:tD K C)(h:Q (.ref C) s):wpAny (model prog w) A (getAttrBy (.ref a) (.str "__class__" e) c b) Q E s:=by
 obtain⟨n,g,r,t,m⟩:=s;have j:=jl (M:=model prog w) p;have i:=pj (M:=model prog w) X q.ga;have f:=pj (M:=model prog w) X q.gt;have o:=PySem.F.excAttr_ValueError.ga.bind (.ref a);have l:(b&&onTheHeap (Value.builtin "BaseException.__getattribute__"))=false:=by
  cases b<;>rfl
 have d:(Value.builtin "BaseException.__getattribute__"==Value.builtin "object.__getattribute__")=false:=by decide+kernel
 have k:(onTheHeap (Value.ref C)&&Value.builtin "BaseException.__getattribute__"==Value.builtin "object.__getattribute__")=false:=by rw[d];rfl
 repeat (any_goals (first|assumption|with_reducible refine j.at ?_|with_reducible refine i.at ?_|with_reducible refine f.at ?_|wp_step))
 refine Ft X p q ?_
 repeat (any_goals (first|assumption|wp_step))
theorem Dz{Q:Option Value->Shared->Prop}(X:K.In s.heap)(p:kj a C s.heap)(q:tD K C)(h:Q (some (.ref C)) {s with toks:=s.toks+1}):wpAny (model prog w) A (getAttr? (.ref a) "__class__") Q E s:=by obtain⟨c,g,d,t,b⟩:=s;unfold getAttr?;unfold getAttrBy?;refine Kt (wpAny_mkText (Kt (wpAny_attempt (O3 (s:=⟨c,g,d,t+1,b⟩) X p q ?_))));exact UF h
theorem Fv(q:tD K C):PySem.W.KitX K (.ref a) (.ref C) (kj a C)where
 ty:=λM h X p=>jl p
 it:=λM h X p=>by obtain⟨H,N,o,m,G,c,l,d,ab,g,F,y,x,v,u,t,r,f,_⟩:=pQ X q.exc;intro P L O J k z;unfold isType;unfold loadHead;exact Kt (wpAny_loadPart (k _ _ f) (UF z))
 ne:=λh j F B n I X b=>by obtain⟨H,N,o,m,G,c,l,d,ab,g,D,y,x,v,u,t,r,f,_⟩:=pQ X q.exc;refine Bool.eq_false_iff.mpr λz=>?_;have e:C=j:=Value.ref.inj (NA.mp z);subst e;rw[f]at b;have i:=Pi Obj.data (Kk b);exact nomatch i
 ca:=λX p h=>Dz X p q h
end
inductive O4:V->Value->Prop where
 |own (D:Addr):O4 (.ref D) (.ref D)
 |ty (n:String):O4 (.ty n) (.type n)
theorem cK{X:Cx}:dJ X (.builtin "isinstance") (λf H Q=>∃a C c d b,f=[.ref a,c]/\H a=some (Fq a C)/\tD X.K C/\O4 c d/\kitOne X.K (.ref C) d=some b/\Q (.bl b) H):=by
 intro i s u H f v Q I r h;obtain⟨a,C,c,d,b,rfl,o,q,m,e,z⟩:=h;obtain⟨k,j,rfl,l,g⟩:=vals2 r;cases(show k=Value.ref a from l);have t:j=d:=by
  cases m with
  |own D=>exact g
  |ty n=>exact g
 subst t;obtain⟨p,_,_⟩:=(show cN X.prog X.w H s.heap a (.ext (kj a C))from I.hok a _ o);exact Ts (Fv q) I.j8 p e (λz=>nomatch z) λx=>⟨.bl b,H,I.tok _,rfl,z⟩
noncomputable def nN(cells:List (Str×Addr)):List (Str×NameKind)->List (Str×Addr)->List (Str×Addr)
 |[],acc=>acc
 |(n,k)::r,acc=>nN cells r (if k=.free then(n,(cells.lookup n).getD 0)::acc else acc)
theorem qz{env:Env}:∀(l:List (Str×NameKind))(a:List (Str×Addr)),(∀p∈l,p.2=.free->∃c,env.cells.lookup p.1=some c)->
 (forIn l a λ(x:Str×NameKind)(cs:List (Str×Addr))=>if(x.2==NameKind.free)=true then(do let c<-cellOf env x.1;pure (K0 ((x.1,c)::cs)))else(pure (K0 cs):Sem _))=pure (nN env.cells l a)
 |[],a,_=>rfl
 |(n,k)::r,a,h=>by
  have ih:=λa=>qz (env:=env) r a λp g=>h p (DL _ g);rw[List.forIn_cons];by_cases b:k=.free
  .obtain⟨c,i⟩:=h (n,k) Dx b;have d:env.cells.lookup n=some c:=i;have e:cellOf env n=pure c:=by unfold cellOf;rw[d]
   have f:(k==NameKind.free)=true:=by simp[b]
   simp only[f,if_true,e,pure_bind,ih];simp only[nN,b,if_true,d,JX]
  .have f:(k==NameKind.free)=false:=by simpa using b
   simp only[f,Pv,if_false,pure_bind,ih];simp only[nN,b,if_false]
theorem qA{a:Scope}{env:Env}(h:∀p∈a.names,p.2=.free->∃c,env.cells.lookup p.1=some c):closureFor a env=pure (nN env.cells a.names []):=by have:=qz (env:=env) a.names [] h;unfold closureFor;simp only[bind_pure];exact this
theorem xW{cells:List (Str×Addr)}:∀(l:List (Str×NameKind))(a:List (Str×Addr)),(∀p∈l,p.2=.free->∃c,cells.lookup p.1=some c)->(∀y c,a.lookup y=some c->cells.lookup y=some c)->
 ∀y c,(nN cells l a).lookup y=some c->cells.lookup y=some c
 |[],_,_,ha,y,c,h=>ha y c h
 |(n,k)::r,a,hl,ha,y,c,h=>by
  refine xW r _ (λp i=>hl p (DL _ i)) (λz d hz=>?_) y c h;by_cases b:k=.free
  .rw[Bi b,Eu]at hz;obtain⟨m,g⟩:=hl (n,k) Dx b;have f:cells.lookup n=some m:=g;split at hz
   .rename_i e
    have j:z=n:=by simpa using e
    subst j;rw[f]at hz⊢;exact hz
   .exact ha z d hz
  .rw[BM b]at hz;exact ha z d hz
theorem qE{cells:List (Str×Addr)}:∀(l:List (Str×NameKind))(a:List (Str×Addr))(y:Str),((a.lookup y).isSome=true\/(y,NameKind.free)∈l)->((nN cells l a).lookup y).isSome=true
 |[],_,_,h=>h.elim id λz=>nomatch z
 |(n,k)::r,a,y,h=>by
  refine qE r _ y ?_;by_cases b:k=.free
  .rw[Bi b,Eu];by_cases e:(y==n)=true
   .left;rw[e];rfl
   .rw[kS]at e;rw[e];rcases h with h|h
    .exact .inl h
    .rcases Fh.mp h with h|h
     .have:y=n:=Pi Prod.fst h;subst this;simp at e
     .exact .inr h
  .rw[BM b];rcases h with h|h
   .exact .inl h
   .rcases Fh.mp h with h|h
    .have:NameKind.free=k:=Pi Prod.snd h;exact absurd this.symm b
    .exact .inr h
theorem uC{cells:List (Str×Addr)}:∀(l:List (Str×NameKind))(a:List (Str×Addr))(y:Str)(c:Addr),(nN cells l a).lookup y=some c->(∃b,a.lookup y=some b)\/(y,NameKind.free)∈l
 |[],_,y,c,h=>.inl ⟨c,h⟩
 |(n,k)::r,a,y,c,h=>by
  rcases uC r _ y c h with⟨b,h'⟩|h'
  .by_cases d:k=.free
   .rw[Bi d,Eu]at h';split at h'
    .rename_i e
     have f:y=n:=by simpa using e
     subst f;subst d;exact .inr Dx
    .exact .inl ⟨b,h'⟩
   .rw[BM d]at h';exact .inl ⟨b,h'⟩
  .exact .inr (DL _ h')
theorem jm{env:Env}(d:env.scope.kind=.function):∀(l:List (Str×NameKind))(y:Str),
 (l.map λ(n,k)=>if(k==NameKind.free&&env.scope.kind==.function&&env.kindOf n==some .cell)then(n,NameKind.cell)else(n,k)).lookup y=(l.lookup y).map λk=>if(k==NameKind.free&&env.kindOf y==some .cell)=true then NameKind.cell else k
 |[],_=>rfl
 |(n,k)::r,y=>by
  have ih:=jm d r y;have b:(env.scope.kind==ScopeKind.function)=true:=by rw[d];rfl
  rw[N0,Eu];by_cases e:(y==n)=true
  .have f:y=n:=by simpa using e
   subst f;by_cases c:(k==NameKind.free&&env.kindOf y==some .cell)=true
   .have a:(k==NameKind.free&&env.scope.kind==.function&&env.kindOf y==some .cell)=true:=by rw[b,eF];exact c
    simp only[a,if_true,Eu,iq,Km,c]
   .have a:¬(k==NameKind.free&&env.scope.kind==.function&&env.kindOf y==some .cell)=true:=by rw[b,eF];exact c
    rw[BM a];simp only[Eu,iq,Km];rw[BM c]
  .rw[kS]at e;by_cases a:(k==NameKind.free&&env.scope.kind==.function&&env.kindOf n==some .cell)=true
   .simp only[a,if_true,e,Eu];exact ih
   .rw[kS]at a;simp only[a,Pv,if_false,e,Eu];exact ih
noncomputable def dM(sc c:Scope)(N a b:List Str):Bool:=
 sc.kind==.function&&b.all (λx=>sc.names.lookup x==some .local&&!a.contains x)&&
 sc.names.all (λp=>p.2 !=.cell&&(p.2 !=.local||sc.names.lookup p.1==some .local)&&(p.2 !=.free||(c.names.lookup p.1==some .cell&&sc.names.lookup p.1==some .free)))&&
 a.all (λy=>sc.names.lookup y !=some .local)&&(N.length==a.length&&(N.zip a).all (λp=>p.1==p.2||sc.names.lookup p.2==none))
structure gA(sc TL:Scope)(N N' xs:List Str):Prop where
 kind:sc.kind=.function
 own:∀x∈xs,sc.names.lookup x=some .local/\x∉N'
 zW:∀p∈sc.names,p.2≠.cell
 loc:∀p∈sc.names,p.2=.local->sc.names.lookup p.1=some .local
 free:∀p∈sc.names,p.2=.free->TL.names.lookup p.1=some .cell/\sc.names.lookup p.1=some .free
 out:∀y∈N',sc.names.lookup y≠some .local
 len:N.length=N'.length
 pair:∀(i:Nat)(y:Str),N'[i]?=some y->sc.names.lookup y≠none->N[i]?=some y
theorem gA.of{sc l:Scope}{N b d:List Str}(h:dM sc l N b d=true):gA sc l N b d:=by
 unfold dM at h;simp only[AN,KB,sv,bne_iff_ne,NA,ox,ne_eq]at h;obtain⟨⟨⟨⟨s,k⟩,c⟩,r⟩,q,o⟩:=h;refine⟨s,λx g=>⟨(k x g).1,λz=>?_⟩,λp a=>(c p a).1.1,λp a e=>?_,λp a e=>?_,r,q,λi y f m=>?_⟩
 .have:=(k x g).2;rw[List.contains_eq_mem]at this;simp[z]at this
 .rcases(c p a).1.2 with z|z
  .exact absurd e z
  .exact z
 .rcases(c p a).2 with z|z
  .exact absurd e z
  .exact z
 .have t:i<b.length:=(Fn.mp f).1;have j:N[i]?=some (N[i]'(by lia)):=B1 (by lia);have n:(N[i]'(by lia),y)∈N.zip b:=by refine PQ (i:=i) ?_;rw[List.getElem?_zip_eq_some];exact⟨j,f⟩
  rcases o _ n with z|z
  .rw[j];exact Pi some z
  .exact absurd z m
noncomputable def aT(X:Cx)(a:Scope)(C:Addr)(b d:List Str)(s:Shared)(H:Hp)(c:List Addr):Cx:=
 {X with N:=b++d,s₀:=s,H₀:=H,env:=compEnvC a (nN X.env.cells a.names []) C X.env,outer:=X.stack,stack:=X.stack,ex:=c,fn:=λy=>b.contains y,pn:=[],xe:=λ_ _=>False}
section
variable{X:Cx}{pins:List (Addr×Obj)}{σ:St}{H:Hp}{s:Shared}{scope:Scope}{xs N':List Str}{fp:List Addr}
theorem kL(I:Inv X pins σ H s)(O:gA scope X.env.scope X.N N' xs):∀p∈scope.names,p.2=.free->∃c,X.env.cells.lookup p.1=some c:=λp a e=>I.ok.has p.1 (.inl (O.free p a e).1)
theorem gQ(I:Inv X pins σ H s)(O:gA scope X.env.scope X.N N' xs)(y:Str):(relabel scope X.env).names.lookup y=(scope.names.lookup y).map λk=>if k=.free then NameKind.cell else k:=by
 unfold relabel;show(List.map _ scope.names).lookup y=_;rw[jm I.ok.kind];cases e:scope.names.lookup y with
 |none=>rfl
 |some k=>
  rw[Km,Km];by_cases a:k=.free
  .subst a;have:=(O.free (y,.free) (SZ e) rfl).1;have b:X.env.kindOf y=some .cell:=this;rw[b];rfl
  .rw[BM a,BM (by simp[a])]
theorem Fw{n:Heap}{T:Nat}(I:Inv X pins σ H s)(O:gA scope X.env.scope X.N N' xs)(B:∀b∈fp,qo X pins H b)(F:∀b∈fp,b<s.heap.objs.size){Q:Str->Option Value}
 (hn:n.Ns s.heap.objs.size Q)(g:∀b o,s.heap.get? b=some o->n.get? b=some o):
 Inv (aT X scope s.heap.objs.size xs N' s H fp) [] (xs.map (λ_=>none)++σ) H {s with heap:=n,toks:=T}:=by
 have f:=xW (cells:=X.env.cells) scope.names [] (kL I O) (λy c z=>nomatch z);refine⟨⟨I.ok.mod,?_,I.ok.glob,I.ok.blt,D2 _,λx y c n J=>I.ok.inj x y c (f x c n) (f y c J),λy D=>?_,λy c n J=>?_,I.ok.hd,I.ok.frames,.inl rfl,λb j=>⟨Qr (F b j),λx c e=>(B b j).2.2.2.2.1 x c (f x c e)⟩,
  I.bs,Bz I.ok.Jq I.sz,λb o e j=>?_,λb j z=>?_,I.stack,I.jP,I.ok.tree,I.ok.UD⟩,rfl,I.bare,Un.kept g,⟨Q,hn,λi y v e1 h e3=>?_⟩,λy c e=>?_,I.hok.fresh (D2 _),λy c e=>I.gq y c (f y c e),λp Y=>absurd (show p∈([]:List (Addr×Obj))from Y) (by simp),I.hok.kept g,?_⟩
 .show scope.kind=_;exact O.kind
 .have d:(relabel scope X.env).names.lookup y=some .cell\/(relabel scope X.env).names.lookup y=some .free:=D;rw[gQ I O]at d;have a:scope.names.lookup y=some .free:=by
   cases e:scope.names.lookup y with
   |none=>rw[e]at d;rcases d with z|z<;>cases z
   |some k=>
    rw[e]at d;by_cases g:k=.free
    .rw[g]
    .rw[Km,BM g]at d;rcases d with z|z
     .have:k=.cell:=Kk z;exact absurd this (O.zW (y,k) (SZ e))
     .exact absurd (Kk z) g
  exact dk.mp (qE scope.names [] y (.inr (SZ a)))
 .have G:(nN X.env.cells scope.names []).lookup y=some c:=J;have D:y∈xs:=by have K:xs.contains y=true:=n;simpa using K
  rcases uC scope.names [] y c G with⟨_,z⟩|z
  .cases z
  .have P:=(O.free (y,.free) z rfl).2;rw[(O.own y D).1]at P;cases P
 .have S:X.base.get? b=some o:=e;rcases(B b j).2.2.2.1 with z|z
  .exact I.ok.C5 b o S z
  .exact absurd (FS (Fu S) (Bz I.ok.Jq z)) (SU _)
 .rcases Fh.mp (I.zv b z)with q|q
  .exact(B b j).2.1 q
  .exact(B b j).2.2.1 q
 .have M:(xs++N')[i]?=some y:=e1;by_cases R:i<xs.length
  .rw[PP (by simpa using R),Da]at h;cases q:xs[i]? with
   |none=>rw[q]at h;cases h
   |some z=>rw[q]at h;cases h
  .rw[Jn (by simpa using R)]at h;rw[Jn (by lia)]at M;rw[Ap]at h;have C:y∈N':=PQ M;have t:UC (relabel scope X.env) y:=e3;unfold UC at t;rw[gQ I O]at t;have a:scope.names.lookup y=some .free:=by
    cases e:scope.names.lookup y with
    |none=>rw[e]at t;rcases t with z|z|z<;>cases z
    |some k=>
     rw[e]at t;by_cases g:k=.free
     .rw[g]
     .rw[Km,BM g]at t;rcases t with z|z|z
      .have:k=.local:=Kk z;subst this;exact absurd e (O.out y C)
      .have:k=.cell:=Kk z;exact absurd this (O.zW (y,k) (SZ e))
      .exact absurd (Kk z) g
   have A:=(O.free (y,.free) (SZ a) rfl).1;obtain⟨m,Z,hl⟩:=I.loc;have L:=O.pair _ y M (by rw[a];simp);obtain⟨u,r,l⟩:=hl _ y v L h (.inr (.inl A));refine⟨u,r,?_⟩;rcases l with⟨U,_⟩|⟨_,c,hc,o,E,hd⟩
   .have:X.env.scope.names.lookup y=some .local:=U;rw[A]at this;cases this
   .refine .inr ⟨.inl ?_,c,?_,o,g c o E,hd⟩
    .show(relabel scope X.env).names.lookup y=_;rw[gQ I O,a];rfl
    .obtain⟨c',w⟩:=dk.mp (qE (cells:=X.env.cells) scope.names [] y (.inr (SZ a)));have q:=f y c' w;rw[hc]at q;show(nN X.env.cells scope.names []).lookup y=some c;rw[w,<-Kk q]
 .obtain⟨v,o,E,hd⟩:=I.cell y c (f y c e);exact⟨v,o,g c o E,hd⟩
 .show(xs.map (λ_=>none)++σ).length=(xs++N').length;rw[GM,GM,Ap,I.len,O.len]
end
noncomputable def PF(X:Cx)(d:List Expr)(t:TT):Prop:=
 ∀(a:List (Addr×Obj))(s:Shared)(b:St)(H:Hp)(Q:Bool->Hp->Prop),Inv X a b H s->t b H Q->
  wpAny (model X.prog X.w) X.A (forIn d true λc r=>if r=true then do let ok<-isTrue c X.env (eval c X.env);pure (K0 ok)else pure (K0 r)) (TP X a b Q) X.xe s
def JY:TT:=λ_ H Q=>Q true H
theorem vt{X:Cx}:PF X [] JY:=λ_ _ _ H _ I h=>wpAny_tests_nil ⟨H,I,h⟩
theorem O6{X:Cx}{c:Expr}{t:TT}(h:PT X c t):PF X [c] t:=λa s b H Q I q=>wpAny_tests_one (h a s b H Q I q)
noncomputable def Bu(k:Nat)(q:TI)(g:TG)(tc:TT)(te:TE):TE:=λe H Q=>q e H λJ p=>∀D,p D=none->∃W:Nat->Nat->Hp->Prop,(∃m,W 0 m (upd p D (.lst [])))/\∀i m d,W i m d->
 (J.stop i d/\Q (.ref D) d)\/(J.go i d/\∀x o,J.TH i d x o->∀j:List (Option V),j.length=k->g x (j++e) o λa r=>∃h:List (Option V),h.length=k/\a=h++e/\
   tc a r λb n=>if b=true then te a n λy l=>∃f,l D=some (.lst f)/\f.length<sizeLine/\∃c,c<m/\W (i+1) c (upd l D (.lst (f++[y])))else∃c,c<m/\W (i+1) c n)
theorem vv{prog:Program}{w:World}{A:Around}{R:Result->Shared->Prop}{s:Shared}{u a l:Expr}{q:List Expr}{f:Scope}{pos:Pos}{E y:Value}{env:Env}(I:Nat->Shared->Prop)
 (z:∀n s,I n s->wpAny (model prog w) A (pyNext E) (λr e=>match r with
   |none=>R (.ok .next) e
   |some v=>wpAny (model prog w) A (letOwnedTupleGo a E v) (λ_ d=>wpAny (model prog w) A (assign a env v) (λ_ k=>
     wpAny (model prog w) A (forIn q true λc r=>if r=true then do let ok<-isTrue c env (eval c env);pure (K0 ok)else pure (K0 r)) (λok b=>
      if ok=true then wpAny (model prog w) A (eval u env) (λx j=>wpAny (model prog w) A (call (.builtin "list.append") [y,x]) (λ_ i=>∃m,m<n/\I m i) (λ_ _=>False) j) (λ_ _=>False) b
      else∃m,m<n/\I m b) (λ_ _=>False) k) (λ_ _=>False) d) (λ_ _=>False) e) (λ_ _=>False) s)
 (n:Nat)(h:I n s):
 codeAny (model prog w) A (.compLoop (.ListComp u [⟨a,l,q,0⟩] f pos) 0 E y env) R s:=by
 refine codeAny_loop rfl I (λn s F=>?_) n h;show wpAny _ A ((compTurn (.ListComp u [⟨a,l,q,0⟩] f pos) 0 E y env).onRaise (λx=>do noteFrame x env;theTreesLotGoes x)) _ _ s;refine wpAny_noted ?_;rw[compTurn_list];refine Kt (wpAny_standAt (Kt (fo (z n s F) (λr e p=>?_) λ_ _ g=>g.elim)));cases r with
 |none=>exact UF p
 |some v=>
  refine Kt (fo p (λ_ d t=>?_) λ_ _ g=>g.elim);refine Kt (fo t (λ_ k D=>Kt (fo D (λok b o=>?_) λ_ _ g=>g.elim)) λ_ _ g=>g.elim);cases ok with
  |false=>exact UF ⟨rfl,o⟩
  |true=>exact Kt (Kt (fo o (λx j C=>Kt (fo C (λ_ i B=>UF (UF ⟨rfl,B⟩)) λ_ _ g=>g.elim)) λ_ _ g=>g.elim))
section
variable{X:Cx}
theorem qF{tg P Z:Expr}{U:List Expr}{scope:Scope}{t H:List Str}{pos:Pos}{g:TG}{tc:TT}{te:TE}(hc:X.calm=true)(O:gA scope X.env.scope X.N H t)
 (hg:∀C s0 H0 l,PG (aT X scope C t H s0 H0 l) tg g)(hf:∀C s0 H0 l,PF (aT X scope C t H s0 H0 l) U tc)(he:∀C s0 H0 l,PE (aT X scope C t H s0 H0 l) Z te)
 {v:List (Addr×Obj)}{B:St}{H1:Hp}{f:Shared}{it:Addr}{l:List Addr}{tn:Nat->Heap->Prop}{J:It}{Q:VK}{E:Value->Shared->Prop}{RR:Value->Addr->Result->Shared->Prop}
 (I2:Inv X v B H1 f)(T:Turn X.prog X.w X.K tg J l it tn)(st2:tn 0 f.heap)(f2:∀b∈l,qo X v H1 b)
 (h:∀D,H1 D=none->∃W:Nat->Nat->Hp->Prop,(∃m,W 0 m (upd H1 D (.lst [])))/\∀i m H2,W i m H2->
   (J.stop i H2/\Q (.ref D) H2)\/(J.go i H2/\∀x H3,J.TH i H2 x H3->∀F:List (Option V),F.length=t.length->g x (F++B) H3 λS H4=>∃L:List (Option V),L.length=t.length/\S=L++B/\
     tc S H4 λb I=>if b=true then te S I λy H6=>∃ys,H6 D=some (.lst ys)/\ys.length<sizeLine/\∃G,G<m/\W (i+1) G (upd H6 D (.lst (ys++[y])))else∃G,G<m/\W (i+1) G I))
 (hRR:∀D C s' H',(∃m,s'.heap.Ns C m)->(∀h',Heap.SameBut C s'.heap h'->Inv X v B H' {s' with heap:=h'})->f.heap.objs.size<=D->f.heap.objs.size<=C->H' C=none->Q (.ref D) H'->RR (.ref D) C (.ok .next) s'):
 wpAny (model X.prog X.w) X.A (newList []) (λacc s₃=>wpAny (model X.prog X.w) X.A (newFunctionEnv scope X.env.globals (nN X.env.cells scope.names []) [] X.env.qual none .none (some X.env)) (λR s₄=>codeAny (model X.prog X.w) X.A (.compStart (.ListComp Z [⟨tg,P,U,0⟩] scope pos) 0 (.ref it) acc {R with scope:=relabel scope X.env}) (RR acc R.locals) s₄) E s₃) E f:=by
 refine wpAny_newObj_type (wpAny_newFunctionEnv O.zW (by intro y hy;simp at hy) (λs Fx Fy=>?_) O.kind);dsimp only at Fx Fy⊢;have hD:H1 f.heap.objs.size=none:=I2.hok.fresh (D2 _);obtain⟨W,⟨m0,w0⟩,turn⟩:=h f.heap.objs.size hD;have I3:Inv X v B (upd H1 f.heap.objs.size (.lst [])) {f with heap:=f.heap.push {cls:=.type "list",dict:=none,data:=.seq ([]:List Value).toArray}}:=
  I2.laid (t':=f.toks) (λb u e=>FR _ e) (D2 _) ⟨Iy _,[],0,.nil,PH _ rfl⟩
 have YM:∀b∈l,b<f.heap.objs.size:=λb j=>by obtain⟨o,e,_⟩:=T.obj _ _ st2 b j;exact Fu e
 have f3:∀b∈l,qo X v (upd H1 f.heap.objs.size (.lst [])) b:=λb j=>by obtain⟨q0,q⟩:=f2 b j;exact⟨by rw[ak (Qr (YM b j))];exact q0,q⟩
 generalize TM:({f with heap:=f.heap.push {cls:=.type "list",dict:=none,data:=.seq ([]:List Value).toArray}}:Shared)=k at I3;have uD:k.heap=f.heap.push {cls:=.type "list",dict:=none,data:=.seq ([]:List Value).toArray}:=by rw[<-TM]
 have Y:k.heap.objs.size=f.heap.objs.size+1:=by rw[uD,Heap.size_push]
 have old:∀b o,k.heap.get? b=some o->s.get? b=some o:=λb o e=>Fy.extBut b o (by rw[<-uD];exact Qr (Fu e)) (FR _ (by rw[<-uD];exact e));have J4:Inv (aT X scope k.heap.objs.size t H k (upd H1 f.heap.objs.size (.lst [])) l) [] (t.map (λ_=>none)++B) (upd H1 f.heap.objs.size (.lst [])) {k with heap:=s,toks:=f.toks+([]:List (Str×Value)).length}:=
  Fw I3 O f3 (λb j=>by rw[Y];exact eJ (YM b j)) (by rw[uD];exact Fx) old
 have es4:({k with heap:=s,toks:=f.toks+([]:List (Str×Value)).length}:Shared)={f with heap:=s,toks:=f.toks+([]:List (Str×Value)).length}:=by rw[<-TM]
 rw[es4]at J4;have st4:tn 0 s:=T.keep _ _ _ st2 λb j o e=>old b o (by rw[uD];exact FR _ e);have hC:(f.heap.push {cls:=.type "list",dict:=none,data:=.seq ([]:List Value).toArray}).objs.size=k.heap.objs.size:=by rw[uD]
 have YN:∀{H':Hp},(∀b∈l,H' b=none)->∀b∈l,qo (aT X scope k.heap.objs.size t H k (upd H1 f.heap.objs.size (.lst [])) l) [] H' b:=λhn b j=>⟨hn b j,Qr (by rw[Y];exact eJ (YM b j)),J4.ok.C6 b j,.inl j,λx c e=>((J4.ok.Xn b j).2 x c e),λp hp=>absurd (show p∈([]:List (Addr×Obj))from hp) (by simp)⟩;have M:codeAny (model X.prog X.w) X.A (.compLoop (.ListComp Z [⟨tg,P,U,0⟩] scope pos) 0 (.ref it) (.ref f.heap.objs.size) (compEnvC scope (nN X.env.cells scope.names []) k.heap.objs.size X.env))
  (RR (.ref f.heap.objs.size) k.heap.objs.size) {f with heap:=s,toks:=f.toks+([]:List (Str×Value)).length}:=by
  refine vv (λn s'=>∃(i:Nat)(F:List (Option V))(H':Hp),F.length=t.length/\Inv (aT X scope k.heap.objs.size t H k (upd H1 f.heap.objs.size (.lst [])) l) [] (F++B) H' s'/\tn i s'.heap/\(∀b∈l,H' b=none)/\W i n H') ?_ m0
   ⟨0,t.map (λ_=>none),_,Ap _,J4,st4,λb j=>(f3 b j).1,w0⟩
  rintro n s5 ⟨i,F,I,hv0,I5,TJ,Xq,w5⟩;rcases turn i n I w5 with⟨stop,qn⟩|⟨go,step⟩
  .refine cy (T.done (aT X scope k.heap.objs.size t H k (upd H1 f.heap.objs.size (.lst [])) l) rfl rfl rfl hc i [] s5 (F++B) I _ I5 (YN Xq) TJ stop) ?_;rintro r s6 ⟨hr,I6⟩;subst hr;obtain⟨m,hnm,_⟩:=I6.loc;refine hRR _ _ s6 I ⟨m,hnm⟩ (λh' Nh=>?_) (D2 _) (by rw[Y];exact vk _) I6.free qn;have YO:∀b o,k.heap.get? b=some o->b≠k.heap.objs.size:=λb o e=>Qr (Fu e);have u:=I6.base;have I3':=I3.EK (s':={s6 with heap:=h'}) (H':=I) (ch:=l) I6.os ⟨λb o e n j hx=>Nh.extBut b _ (YO b o e) (u.keep b o e n j hx),λb o e n j hx=>by
    obtain⟨sl,q⟩:=u.slot b o e n j hx;exact⟨sl,Nh.extBut b _ (YO b o e) q⟩,u.free,λb o e hx=>by
    obtain⟨o',q⟩:=u.there b o e hx;exact⟨o',Nh.extBut b _ (YO b o e) q⟩,u.tups,u.kG,u.lE⟩ (λa o e=>?_) I6.bare (λb j=>?_)
   .exact I3'
   .have hnC:∀b u,I b=some u->b≠k.heap.objs.size:=λb u e z=>by subst z;have:=I6.free;have e2:I k.heap.objs.size=none:=this;rw[e2]at e;cases e
    refine(I6.hok a o e).stay (λb u j q=>Nh.extBut b u ?_ q) (λ_ q=>q) λ_ _ q=>q;rcases j with rfl|j
    .exact hnC _ _ e
    .exact hnC _ _ j
   .obtain⟨q0,q1,q2,q3,q4,q5⟩:=f3 b j;exact⟨q3,q1,q4,q5⟩
  .refine cy (T.item (aT X scope k.heap.objs.size t H k (upd H1 f.heap.objs.size (.lst [])) l) rfl rfl rfl hc i [] s5 (F++B) I _ I5 (YN Xq) TJ go) ?_;rintro r s6 ⟨u,hr,h6⟩;subst hr;refine cy h6 ?_;rintro _ s7 ⟨x,H7,I7,r7,y7,YQ,fr7⟩;have I7':=I7.pinned (YN fr7) (T.obj _ _ YQ);refine cy (hg _ _ _ _ _ s7 (F++B) H7 x u _ I7' r7 (step x H7 y7 F hv0)) ?_;rintro _ s8 ⟨σ8,H8,I8,L,hv1,e8,q8⟩;subst e8;have fin:∀{s9:Shared}{H9:Hp},Inv (aT X scope k.heap.objs.size t H k (upd H1 f.heap.objs.size (.lst [])) l) ([]++qp l s7.heap) (L++B) H9 s9->(∃G,G<n/\W (i+1) G H9)->
    ∃m,m<n/\∃(i:Nat)(F:List (Option V))(H':Hp),F.length=t.length/\Inv (aT X scope k.heap.objs.size t H k (upd H1 f.heap.objs.size (.lst [])) l) [] (F++B) H' s9/\tn i s9.heap/\(∀b∈l,H' b=none)/\W i m H':=λ{s9 H9} I9 ⟨G,hm,w9⟩=>by
    refine⟨G,hm,i+1,L,H9,hv1,I9.lH,T.keep _ _ _ YQ λb j o e=>(I9.pin (b,o) (IH _ (IH _ (iC j e)))).1,λb j=>?_,w9⟩;obtain⟨o,e,d⟩:=T.obj _ _ YQ b j;exact(I9.pin (b,o) (IH _ (IH _ (iC j e)))).2.1
   refine cy (hf _ _ _ _ _ s8 (L++B) H8 _ I8 q8) ?_;rintro ok s9 ⟨H9,I9,q9⟩;cases ok with
   |false=>exact fin I9 q9
   |true=>show wpAny _ _ _ _ _ _;refine cy (he _ _ _ _ _ s9 (L++B) H9 _ I9 q9) ?_;rintro y s10 ⟨vy,H10,I10,r10,ys,hys,hl,q10⟩;refine cy (uA (X:=aT X scope k.heap.objs.size t H k (upd H1 f.heap.objs.size (.lst [])) l) _ s10 (L++B) H10 (.ref f.heap.objs.size) [vy] _ [y] (λ_ H'=>∃G,G<n/\W (i+1) G H') I10 rfl (.cons r10 .nil) ⟨_,ys,vy,rfl,rfl,hys,hl,q10⟩) ?_;rintro _ s11 ⟨_,H11,I11,_,q11⟩;exact fin I11 q11
 rw[hC];exact codeAny_compStart_list M (T.self X.A 0 _ _ _ st4 M)
theorem vA{tg a i:Expr}{f:List Expr}{scope:Scope}(d k:List Str){pos:Pos}{p:TI}{g:TG}{tc:TT}{te:TE}(G:X.calm=true)(x:dM scope X.env.scope X.N k d=true)(hi:PI X tg a p)
 (B:∀C s0 j c,PG (aT X scope C d k s0 j c) tg g)(E:∀C s0 j c,PF (aT X scope C d k s0 j c) f tc)(F:∀C s0 j c,PE (aT X scope C d k s0 j c) i te)
 (t:∀z,foldedSetIterable a X.env z=pure z:=by intro _;rfl):PE X (.ListComp i [⟨tg,a,f,0⟩] scope pos) (Bu d.length p g tc te):=by
 intro b s o H Q I h;have O:=gA.of x;rw[eval_ListComp];refine wpAny_comprehension_free (use:=none) rfl t (qA (kL I O)) O.kind O.loc (cy (hi b s o H _ I h) λv s1 M=>cy M λr s2 L=>?_);obtain⟨it,c,Z,J,H2,e,U,T,l,R,u⟩:=L;subst e;refine qF (RR:=λn C=>compPost (model X.prog X.w) X.A X.xe none (EP X b o Q) n C) G O B E F U T l R u ?_;rintro D C s' Y ⟨m,y⟩ K _ _ _ q;exact⟨m,y,λP S=>⟨.ref D,Y,K P S,rfl,q⟩⟩
end
noncomputable def Ni(D:Addr)(n i:Nat)(e:Nat->List V->Hp->Prop)(y:V)(c:Hp):Prop:=
 ∃a,c D=some (.lst a)/\a.length<sizeLine/\∃b,b<n -i/\(b=n -(i+1)/\i+1<=n/\∃d,e (i+1) d (upd c D (.lst (a++[y]))))
theorem Vj{D:Addr}{n i:Nat}{d:Nat->List V->Hp->Prop}{y:V}{b:Hp}{a c:List V}(hi:i<n)(g:b D=some (.lst a))(f:a.length<sizeLine)(e:d (i+1) c (upd b D (.lst (a++[y])))):Ni D n i d y b:=
 ⟨a,g,f,n -(i+1),by omega,rfl,hi,c,e⟩
theorem zX{lo:Int}{n:Nat}{D:Addr}{te:TE}{k:St}{H1:Hp}{R:Hp->Prop}(g:Nat->List V->Hp->Prop)(v:g 0 [] (upd H1 D (.lst [])))
 (t:∀i a H,i<n->g i a H->te (some (.int (lo+i))::k) H (Ni D n i g))(u:∀a H,g n a H->R H):
 ∃W:Nat->Nat->Hp->Prop,(∃m,W 0 m (upd H1 D (.lst [])))/\∀i m h,W i m h->
  ((Na lo n).stop i h/\R h)\/((Na lo n).go i h/\∀x s,(Na lo n).TH i h x s->∀j:List (Option V),j.length=1->fS 0 x (j++k) s λc w=>∃o:List (Option V),o.length=1/\c=o++k/\
    JY c w λb r=>if b=true then te c r λy q=>∃a,q D=some (.lst a)/\a.length<sizeLine/\∃d,d<m/\W (i+1) d (upd q D (.lst (a++[y])))else∃d,d<m/\W (i+1) d r):=by
 refine⟨λi m H=>m=n -i/\i<=n/\∃a,g i a H,⟨n,by simp,Iy _,[],v⟩,?_⟩;rintro i m H ⟨rfl,z,a,p⟩;by_cases f:i<n
 .refine .inr ⟨f,λx A y j l=>?_⟩;obtain⟨e,y⟩:=y;subst e y
  match j,l with
  |[_],_=>exact⟨[some (.int (lo+i))],rfl,rfl,t i a _ f p⟩
 .have e:i=n:=by lia
  subst e;exact .inl ⟨D2 _,u a H p⟩
theorem uE{bs:List Bool}:∀{us:List Value},Vals (bs.map V.bl) us->us=bs.map Value.bool:=by
 induction bs with
 |nil=>intro us r;rw[S0]at r;cases r;rfl
 |cons b bs d=>
  intro us r;rw[N0]at r;cases r with
  |cons c a=>have e:_=Value.bool b:=c;rw[e,d a];rfl
theorem zY(bs:List Bool):((Bn bs.length).all λi=>(bs[i]?).getD true)=bs.all id:=by
 rw[n4,KB,KB];constructor
 .intro h b d;obtain⟨i,c,rfl⟩:=Sr d;have:=h i (du.mpr c);simp only[B1 c,JX]at this;exact this
 .intro h i c;have a:=du.mp c;simp only[B1 a,JX];exact h _ (T2 a)
section
variable{X:Cx}
theorem DA(k:X.calm=true):dJ X (.builtin "sum") (λa H Q=>∃(p:Addr)(ns:List Int),a=[.ref p]/\gP X.K H p (ns.map V.int)/\Q (.int ns.sum) H):=by
 intro d s o H a t Q I r h;obtain⟨p,ns,rfl,l,q⟩:=h;obtain⟨u,rfl,g⟩:=Vals.one r;cases(show u=Value.ref p from g);obtain⟨b,rv,i,_⟩:=I.list l;have f:=intsAre_of rv;obtain⟨a,e⟩:=f.allInts.items;have c:s.heap.IsList p (intItems a):=e▸i.isList;refine sum_intListG (I.ok.hd k) c λx v w j=>?_;have n:ns=a.toList.map (·.1):=by rw[<-nums_intItems,<-e];exact(show numsOf b.toArray.toList=ns from f.numsOf).symm
 have m:preSum (numAt a) a.size=ns.sum:=by rw[preSum_eq,xc (by simp),n]
 rw[m];exact⟨.int ns.sum,H,I.kept j,⟨_,rfl⟩,q⟩
theorem DB(x:X.calm=true):dJ X (.builtin "all") (λg H Q=>∃(p:Addr)(bs:List Bool),g=[.ref p]/\gP X.K H p (bs.map V.bl)/\Q (.bl (bs.all id)) H):=by
 intro j s D H g E Q I r h;obtain⟨p,bs,rfl,y,q⟩:=h;obtain⟨u,rfl,m⟩:=Vals.one r;cases(show u=Value.ref p from m);obtain⟨a,rv,n,_⟩:=I.list y;have k:=uE rv;have f:=n.isList;have d:p<s.heap.objs.size:=by obtain⟨_,e,_⟩:=f;exact Fu e
 refine call_all_walk (wpAny_pyIter_list f ?_);refine⟨s.heap.objs.size,[s.heap.objs.size,p],[s.heap.objs.size],a.toArray.size,_,_,λi=>(bs[i]?).getD true,rfl,Walks.list (A:=X.A.in1) (I.ok.hd x) _ p (Qr d) a.toArray,
  ⟨⟨_,PH _ rfl,rfl,rfl⟩,f.push _⟩,λi v G L M B l=>?_,λJ F w=>?_⟩
 .have c:a[i]?=some v:=by simpa using B
  rw[k,Da]at c;cases e:bs[i]? with
  |none=>rw[e]at c;cases c
  |some b=>rw[e]at c;simp only[e,JX]at l;have:v=Value.bool b:=(Kk c).symm;subst this;exact ey l
 .have e:((Bn a.toArray.size).all λi=>(bs[i]?).getD true)=bs.all id:=by
   have C:a.toArray.size=bs.length:=by rw[Fk,k,Ap]
   rw[C];exact zY bs
  rw[e];exact⟨.bl _,H,I.kept λb o z=>w b o (λt=>by rw[Do.mp t]at z;exact SU _ (Fu z)) (FR _ z),rfl,q⟩
theorem Bv{i:Nat}{x:Str}{tg f r:Expr}{k:List Expr}{scope:Scope}{d pos t:Pos}(F M:List Str){wi:TI}{g:TG}{tc:TT}{te:TE}(hN:X.N.Nodup)(hi:X.N[i]?=some x)(B:Loc X.env.scope x)(hc:X.calm=true)(ho:dM scope X.env.scope X.N M F=true)(Nj:PI X tg f wi)
 (hg:∀C s0 L G,PG (aT X scope C F M s0 L G) tg g)(hf:∀C s0 L G,PF (aT X scope C F M s0 L G) k tc)(he:∀C s0 L G,PE (aT X scope C F M s0 L G) r te)
 (Y:swapsWith (.ListComp r [⟨tg,f,k,0⟩] scope pos) (some (.Name x d)) t.line X.env=pure true:=by rfl)
 (hs:∀z,foldedSetIterable f X.env z=pure z:=by intro _;rfl)(hfn:X.fn x=true\/X.env.scope.names.lookup x=some .local:=by first|exact .inl rfl|exact .inr rfl|assumption):
 PS X (.Assign [.Name x d] (.ListComp r [⟨tg,f,k,0⟩] scope pos) t) (nJ (Bu F.length wi g tc te) (fS i)):=by
 intro j s P H W I h;have O:=gA.of ho;rw[exec_Assign_Name_used _ _ _ _ Y];refine Kt (wpAny_standAt (Kt ?_));show wpAny _ X.A (do let _<-comprehension (.ListComp r [⟨tg,f,k,0⟩] scope pos) scope X.env _ (newList []) false (eval f X.env) (some (assign (.Name x d) X.env))) _ _ s;refine Kt (fo (wpAny_comprehension_free (use:=some (assign (.Name x d) X.env)) (Q:=λ_ s'=>SP X j W .next s') rfl hs (qA (kL I O)) O.kind O.loc (cy (Nj j s P H _ I h) λv s1 h1=>cy h1 λitv s2 h2=>?_)) (λ_ s' hq=>UF (UF hq)) λ_ _ e=>e);obtain⟨it,G,tn,J,H2,e,K,T,R,f2,hq⟩:=h2;subst e;refine qF (Q:=λx H1=>fS i x P H1 W.nx) (RR:=λacc C=>compPost (model X.prog X.w) X.A X.xe (some (assign (.Name x d) X.env)) (λ_ s'=>SP X j W .next s') acc C) hc O hg hf he K T R f2 hq ?_;rintro D C s' H' ⟨m,hm⟩ hI _ hC fC q;have I':Inv X j P H' s':=hI s'.heap ⟨rfl,λ_ _=>rfl⟩;have U:∀b o,s2.heap.get? b=some o->b≠C:=λb o e=>Qr (FS (Fu e) hC);have nL:C≠X.env.locals:=λe=>by obtain⟨m2,hn2,_⟩:=K.loc;obtain⟨o,_,_,ho2,_⟩:=hn2;exact U _ o ho2 e.symm
 have nC:∀y c,X.env.cells.lookup y=some c->c≠C:=λy c e z=>by obtain⟨v,o,e1,_⟩:=K.cell y c e;exact U _ o e1 z
 have nP:∀p∈X.pn++j,p.1≠C:=λp hp z=>U _ _ (K.pin p hp).1 z;show wpAny _ X.A (assign (.Name x d) X.env (.ref D)) _ _ _;refine wpAny_assign_Name (ur I' hN hi B (v:=.ref D) rfl (λS YR Z=>?_) hfn);obtain⟨a,Nh,ha⟩:=Z;have aC:a≠C:=by
  rcases ha with rfl|ha
  .exact Y2 nL
  .exact nC x a ha
 refine⟨m,hm.sameBut Nh (Y2 aC),λh' l=>⟨_,H',?_,q⟩⟩;refine YR.EK (s':={S with heap:=h'}) (H':=H') (ch:=[C]) rfl ⟨λb o e n E B=>l.extBut b o (λz=>B (by rw[z];exact Do.mpr rfl)) e,λb o e n E B=>⟨o.slots,l.extBut b o (λz=>B (by rw[z];exact Do.mpr rfl)) e⟩,λb o e n B=>n,λb o e B=>⟨o,l.extBut b o (λz=>B (by rw[z];exact Do.mpr rfl)) e⟩,λb F q=>q,λb o u q=>q,λb ps q=>⟨#[],by rw[Array.append_empty];exact q⟩⟩ (λa o e=>?_) YR.bare (λb E=>?_)
 .refine(YR.hok a o e).stay (λb u E q=>l.extBut b u ?_ q) (λ_ q=>q) λ_ _ q=>q;rintro rfl;rcases E with rfl|E
  .rw[fC]at e;cases e
  .rw[fC]at E;cases E
 .rw[Do.mp E];exact⟨.inr (Bz K.sz hC),nL,λy c e z=>nC y c e z,nP⟩
theorem JZ:Yz X "int.bit_length" (λx b H Q=>∃i:Int,x=.int i/\b=[]/\Q (.int (Builtin.Int.intBits i:Nat)) H):=by intro a s c H x b v e Q I d rv h;obtain⟨i,rfl,rfl,q⟩:=h;obtain⟨t,rfl⟩:=d;cases rv;exact call_gives F.slot_int_bit_length (typeIs_int s i t) F.entry_int_bit_length (F.args_int_bit_length_1 _) (PySem.AutoIntG2.int_bit_length_int_0 i t) (show EP X a c Q (.int _ _) _ from⟨.int _,H,I.tok _,⟨_,rfl⟩,q⟩)
noncomputable def Xu(lo st:Int)(n:Nat):It:=⟨λi _=>i<n,λi H x a=>a=H/\x=.int (lo+i*st),λi _=>n<=i⟩
theorem xX{P:Program}{w:World}{K:Frag}{tg:Expr}(c:Addr)(lo st:Int)(n:Nat):Turn P w K tg (Xu lo st n) [c] c (λi h=>IsRangeIter h c (lo+(i:Nat)*st) ((n:Int) -(i:Nat)) st)where
 mem:=by simp
 obj:=λi h st b d=>by
  have e:b=c:=by simpa using d
  subst e;exact⟨_,st,λv z=>by have G:Data.fields _=Data.cell v:=z;cases G⟩
 keep:=λi h j st k=>k c (by simp) _ st
 item:=by intro X q l r p i a s D H E I g C m;subst q l r;obtain⟨B,A,M,y,x,u⟩:=g c (by simp);have W:=Walks.range (prog:=X.prog) (w:=X.w) (I.ok.hd p) c lo st n;refine W.item i s _ _ m C λv j F L f J=>?_;obtain⟨t,rfl⟩:=L;have I1:Inv X a D H {s with heap:=j,toks:=F}:=I.turned (λb o d e=>J b o (by simpa using d) e) B A y x u;exact⟨_,rfl,xK (s:={s with heap:=j,toks:=F}) (n:="range_iterator") f rfl rfl (by decide) ⟨.int (lo+i*st),H,I1,⟨t,rfl⟩,⟨rfl,rfl⟩,f,λb d=>(g b d).1⟩⟩
 done:=by intro X q l r p i a s D H E I g C m;subst q l r;obtain⟨B,A,M,y,x,u⟩:=g c (by simp);exact wpAny_pyNext_range_end (I.ok.hd p) C (by have:n<=i:=m;omega) λj N=>⟨rfl,I.turned (t':=s.toks) (λb o d e=>N b o d e) B A y x u⟩
 self:=λ_ _ _ _ _ st h=>wpAny_pyIter_rangeiter st h
theorem DC{tg:Expr}{a:List (Addr×Obj)}{c:St}{H:Hp}{s:Shared}{R:It->Hp->Prop}{E:Value->Shared->Prop}{lo hi st:Int}{n:Nat}{t u v:Tok}{d:Nat}(I:Inv X a c H s)(f:Builtin.Range.small lo hi st=true)(g:Builtin.Range.rangeSize lo hi st=(n:Int))
 (q:R (Xu lo st n) H):wpAny (model X.prog X.w) X.A (pyIter (.ref s.heap.objs.size)) (Yo X a c tg R) E {s with heap:=s.heap.push {cls:=.type "range",data:=.fields #[.int lo t,.int hi u,.int st v]},toks:=d}:=by
 refine wpAny_pyIter_range (IsRange.new ..) f ?_;have I1:Inv X a c H {s with heap:=s.heap.push {cls:=.type "range",data:=.fields #[.int lo t,.int hi u,.int st v]},toks:=d}:=I.kept λb o e=>FR _ e;refine⟨(s.heap.push {cls:=.type "range",data:=.fields #[.int lo t,.int hi u,.int st v]}).objs.size,[(s.heap.push {cls:=.type "range",data:=.fields #[.int lo t,.int hi u,.int st v]}).objs.size],_,_,H,rfl,
  I1.kept (t':=d) λb o e=>FR _ e,xX _ lo st n,?_,λb h=>?_,q⟩
 .have j:lo+((0:Nat):Int)*st=lo:=by simp
  have i:(n:Int) -((0:Nat):Int)=Builtin.Range.rangeSize lo hi st:=by rw[g];simp
  show IsRangeIter _ _ (lo+((0:Nat):Int)*st) ((n:Int) -((0:Nat):Int)) st;rw[j,i];exact PH _ rfl
 .have e:b=(s.heap.push {cls:=.type "range",data:=.fields #[.int lo t,.int hi u,.int st v]}).objs.size:=by simpa using h
  subst e;exact I1.zA (D2 _) (I1.hok.fresh (D2 _))
noncomputable def Vk(ta:TA):TI:=λa H R=>ta a H λb c=>∃(i j k:Int)(n:Nat),b=[.int i,.int j,.int k]/\(k≠0/\k.natAbs<1073741824/\Builtin.Range.small i j k=true/\Builtin.Range.rangeSize i j k=(n:Int))/\R (Xu i k n) c
theorem DE{tg a b c:Expr}{ta:TA}{p pos:Pos}(C:Gl X "range")(B:X.mg "range"=none)(D:PA X [a,b,c] ta)(A:starEach [a,b,c] X.env=[(false,eval a X.env),(false,eval b X.env),(false,eval c X.env)]:=by rfl)(g:starEach [b,c] X.env=[(false,eval b X.env),(false,eval c X.env)]:=by rfl):
 PI X tg (.Call (.Name "range" p) [a,b,c] [] pos) (Vk ta):=by
 intro f s o H R I h;refine Call_ (jk I C B boot_range (bo (cy (D pos f s o H _ I h) λF J ⟨E,K,I1,v,m⟩=>?_) (by rw[A,g]) (by rw[g];rfl)));obtain⟨i,j,k,n,e,⟨m,z,y,x⟩,q⟩:=m;subst e;cases v with
 |cons r d=>
  cases d with
  |cons w d=>
   cases d with
   |cons l d=>
    cases d;obtain⟨t,rfl⟩:=r;obtain⟨G,rfl⟩:=w;obtain⟨u,rfl⟩:=l;exact call_range_3 m (DC I1 y x q) (.inl (Y4 z))
end
end L2
namespace L2
open PySem
end L2
namespace L2
open PySem PySem.Spec PyProof.Rows
noncomputable def Dt(X:Cx)(H:Hp)(x:V)(d:PyData):Prop:=
 ∀(a:List (Addr×Obj))(b:St)(s:Shared)(u:Value),Inv X a b H s->RelV x u->∃c,Reads s.heap u d c
section
variable{X:Cx}{H:Hp}
theorem O7(i:Int):Dt X H (.int i) (.int i):=λ_ _ s u _ r=>by obtain⟨t,rfl⟩:=r;exact⟨_,.int i t⟩
theorem Nk(b:Bool):Dt X H (.bl b) (.bool b):=λ_ _ s u _ r=>by
 cases(show u=Value.bool b from r);exact⟨_,.bool b⟩
theorem O8(x:Str):Dt X H (.str x) (.str x):=λ_ _ s u _ r=>by obtain⟨t,rfl⟩:=r;exact⟨_,.str x t⟩
theorem O9:Dt X H .bu .none:=λ_ _ s u _ r=>by
 cases(show u=Value.none from r);exact⟨_,.none⟩
theorem zZ{a:List (Addr×Obj)}{d:St}{s:Shared}(I:Inv X a d H s):∀{b:List V}{ds:List PyData}{us:List Value},Paired (Dt X H) b ds->Vals b us->∃c,ReadsAll s.heap us ds c
 |_,_,_,.nil,.nil=>⟨_,.nil⟩
 |_,_,_,.cons h t,.cons r e=>by obtain⟨c,q⟩:=h _ _ _ _ I r;obtain⟨g,f⟩:=zZ I t e;exact⟨_,.cons q f⟩
theorem vB{a:Addr}{c:List V}{ds:List PyData}(h:gP X.K H a c)(b:Paired (Dt X H) c ds):Dt X H (.ref a) (.list ds):=λ_ _ s u I r=>by
 cases(show u=Value.ref a from r);obtain⟨e,rv,d,_⟩:=I.list h;obtain⟨j,q⟩:=zZ I b rv;obtain⟨o,f,i,n,g⟩:=d.isList;exact⟨_,.list f i g (by simpa using q)⟩
theorem Pa{a:Addr}{c:List V}{ds:List PyData}(h:nH X.K H a c)(b:Paired (Dt X H) c ds):Dt X H (.ref a) (.tuple ds):=λ_ _ s u I r=>by
 cases(show u=Value.ref a from r);obtain⟨d,rv,e,_⟩:=I.tuple h;obtain⟨j,q⟩:=zZ I b rv;obtain⟨o,f,i,n,g⟩:=e;exact⟨_,.tuple f i g (by simpa using q)⟩
noncomputable def YT(X:Cx):R2:=λx y H Q=>∃b a,Dt X H x b/\Dt X H y a/\(SeqAt.shaped b=true/\SeqAt.shaped a=true/\SeqAt.noMix b a=true)/\Q (.bl (PySem.Spec.same b a)) H
noncomputable def YU(X:Cx):R2:=λx y H Q=>∃b a,Dt X H x b/\Dt X H y a/\(SeqAt.shaped b=true/\SeqAt.shaped a=true/\SeqAt.noMix b a=true)/\Q (.bl (!PySem.Spec.same b a)) H
theorem FA(j:X.A.units+64<cLine):nK X (compareOp .Eq) (YT X):=by intro a s m H x y v u Q I c b h;obtain⟨o,n,l,k,⟨i,g,f⟩,q⟩:=h;obtain⟨r,e⟩:=l _ _ _ _ I c;obtain⟨p,d⟩:=k _ _ _ _ I b;exact eq_dataH_same e d i g j f ⟨.bl _,H,I,rfl,q⟩
theorem Pb(j:X.A.units+64<cLine):nK X (compareOp .NotEq) (YU X):=by intro a s m H x y v u Q I c b h;obtain⟨o,n,l,k,⟨i,g,f⟩,q⟩:=h;obtain⟨r,e⟩:=l _ _ _ _ I c;obtain⟨p,d⟩:=k _ _ _ _ I b;exact ne_dataH_same e d i g j f ⟨.bl _,H,I,rfl,q⟩
end
noncomputable def YV(K:Frag)(a:Addr):It:=⟨λi H=>∃b x,gP K H a b/\b[i]?=some x,λi H x c=>∃p y,H p=none/\x=.ref p/\c=upd H p (.tup [.int i,y])/\∀b,gP K H a b->b[i]?=some y,λi H=>∃b,gP K H a b/\b.length=i⟩
theorem Inv.Vl{X:Cx}{a:List (Addr×Obj)}{t:St}{H:Hp}{s:Shared}{h':Heap}{t':Nat}{ch:List Addr}{p:Addr}{h:List V}(I:Inv X a t H s)(l:∀b∈ch,qo X a H b)
 (k:∀b o,b∉ch->s.heap.get? b=some o->h'.get? b=some o)(x:s.heap.objs.size<=p)(i:cN X.prog X.w (upd H p (.tup h)) h' p (.tup h))(M:∀b∈ch,∃o,h'.get? b=some o):Inv X a t (upd H p (.tup h)) {s with heap:=h',toks:=t'}:=by
 have f:H p=none:=I.hok.fresh x;have y:∀b u,H b=some u->b∉ch:=λb u e z=>by rw[(l b z).1]at e;cases e
 have j:∀b o,s.heap.get? b=some o->b≠p:=λb o e z=>absurd (FS (Fu e) x) (by rw[z];exact SU _);refine I.step (g':=s.gens) (d':=s.drawn) (ch:=ch) (λb g=>?_) (λb o _ _ d e _=>k b o d e) (λb o _ _ d e _=>⟨o.slots,k b o d e⟩) (λb o _ e n=>by rw[ak (j b o e)];exact n)
  (λb o d e=>⟨o,k b o d e⟩) (λb A e=>by rw[ak (aR e f)];exact e) (λb o u e=>by rw[ak (aR e f)];exact e) (λb L e=>⟨#[],by rw[ak (aR e f),e];simp⟩) (λm C=>?_) (λb u e=>?_) I.bare
 .obtain⟨O,G,N,F,E,D⟩:=l b g;exact⟨F,G,E,D⟩
 .obtain⟨o,J,K,B,r⟩:=C;exact⟨o,J,K,k _ o (λz=>(l _ z).2.1 rfl) B,r⟩
 .by_cases g:b=p
  .subst g;rw[au]at e;cases e;exact i
  .rw[ak g]at e;refine(I.hok b u e).stay (λc v d q=>k c v ?_ q) (λc q=>by rw[ak (aR q f)];exact q) λc A q=>by rw[ak (aR q f)];exact q
   rcases d with z|z
   .rw[z];exact y b u e
   .exact y c _ z
theorem DF{P:Program}{w:World}{K:Frag}{C:List Expr}{kk:Nat}{pos:Pos}(a e l:Addr)(R:e≠l):
 Turn P w K (.Tuple C kk pos) (YV K a) [e,l] e (λi h=>(∃f,IsEnum h e l i f)/\h.IsListIter l a i)where
 mem:=by simp
 obj:=λi h q b m=>by
  obtain⟨⟨f,n⟩,o,r,c,d⟩:=q;rcases Fh.mp m with z|z
  .subst z;exact⟨_,n,λv z=>by cases z⟩
  .rw[Do.mp z];exact⟨o,r,λv z=>by rw[d]at z;cases z⟩
 keep:=λi h h' q k=>by obtain⟨⟨f,n⟩,F⟩:=q;exact⟨⟨f,k e (by simp) _ n⟩,F.at λo x=>k l (by simp) o x⟩
 item:=by
  intro X hP hw hK hc i M s σ H E I L q hg;subst hP hw hK;obtain⟨xs,x,Z,Y⟩:=hg;obtain⟨j,rv,p,hz⟩:=I.list Z;obtain⟨u,hu,ru⟩:=rv.get Y;obtain⟨⟨f,n⟩,F⟩:=q;have hit:=L l (by simp);have hee:=L e (by simp);have G:a≠l:=λz=>by obtain⟨o,r,c,d⟩:=F;obtain⟨o',g,J,_⟩:=p.isList;rw[z,r]at g;cases g;rw[c]at J;exact absurd J (by decide)
  have hae:a≠e:=λz=>by obtain⟨o',g,J,_⟩:=p.isList;have B:s.heap.get? e=some _:=n;rw[z,B]at g;cases g;exact absurd (show Value.type "enumerate"=Value.type "list"from J) (by decide)
  have D:=Draws.list (prog:=X.prog) (w:=X.w) (A:=X.A.in1) (I.ok.hd hc) l a G j.toArray;have W:=WalksT.enumerateD D e R (by simp[R,hae.symm]) (by simp);have hlt:i<j.toArray.size:=by have:=(Fn.mp hu).1;simpa using this
  refine W.item i s _ _ hlt ⟨⟨f,n⟩,F,p.isList⟩ λT vals h' tk hPt hT YW Vm hk=>?_;obtain⟨t,y,hy,rfl⟩:=hPt;have hyu:y=u:=by
   have:j[i]?=some y:=by simpa using hy
   rw[hu]at this;exact(Kk this).symm
  subst hyu;refine⟨.ref T,rfl,W.go C kk pos i T _ _ _ Vm λU hst Q=>?_⟩;have S:T∉[e,l]:=W.apart i T h' Vm;obtain⟨⟨N,B⟩,O,_⟩:=hst;have Vn:IsTup U T #[.int i t,y]:=by obtain⟨o,r,c⟩:=YW;exact⟨o,Q T o S r,c⟩
  have obj:cN X.prog X.w (upd H T (.tup [.int i,x])) U T (.tup [.int i,x]):=⟨fM (by show 2<=100000;decide),[.int i t,y],.cons ⟨t,rfl⟩ (.cons ru .nil),Vn⟩;have I2:=I.Vl (t':=tk) (ch:=[e,l]) L (λb o m eo=>Q b o m (hk b o m eo)) hT obj (λb m=>by
   rcases Fh.mp m with z|z
   .rw[z];exact⟨_,B⟩
   .rw[Do.mp z];obtain⟨o,r,_⟩:=O;exact⟨o,r⟩)
  refine⟨.ref T,upd H T (.tup [.int i,x]),I2,rfl,⟨T,x,I.hok.fresh hT,rfl,rfl,λys hy=>by rw[I.qm hy Z];exact Y⟩,⟨⟨N,B⟩,O⟩,λb m=>?_⟩;rw[ak (show b≠T from λz=>S (by rw[<-z];exact m))];exact(L b m).1
 done:=by
  intro X hP hw hK hc i M s σ H E I L q hg;subst hP hw hK;obtain⟨xs,Z,Y⟩:=hg;obtain⟨j,rv,p,hz⟩:=I.list Z;obtain⟨⟨f,n⟩,F⟩:=q;obtain⟨f0,f1,f2,f3,f4,f5⟩:=L l (by simp);have G:a≠l:=λz=>by obtain⟨o,r,c,d⟩:=F;obtain⟨o',g,J,_⟩:=p.isList;rw[z,r]at g;cases g;rw[c]at J;exact absurd J (by decide)
  have D:=Draws.list (prog:=X.prog) (w:=X.w) (A:=X.A.in1) (I.ok.hd hc) l a G j.toArray;have hn:j.toArray.size=i:=by rw[Fk,<-rv.length];exact Y
  exact wpAny_pyNext_enum_endD D n ⟨by rw[hn];exact F,p.isList⟩ λh' eb=>⟨rfl,I.turned (t':=s.toks) (λb o m x=>eb b o m x) f0 f1 f3 f4 f5⟩
 self:=λ_ _ _ _ _ q h=>by obtain⟨⟨f,n⟩,_⟩:=q;exact wpAny_pyIter_enum n h
section
variable{X:Cx}
noncomputable def Vo(K:Frag)(ta:TA):TI:=λc H R=>ta c H λe b=>∃a,e=[.ref a]/\(∃d,gP K b a d)/\R (YV K a) b
theorem J0{a:Expr}{ta:TA}{f:List Expr}{t:Nat}{k p pos:Pos}(E:Gl X "enumerate")(B:X.mg "enumerate"=none)(G:PA X [a] ta)(w:bootBuiltins "enumerate"=some (.type "enumerate"):=by rfl)(y:starEach [a] X.env=[(false,eval a X.env)]:=by rfl):
 PI X (.Tuple f t k) (.Call (.Name "enumerate" p) [a] [] pos) (Vo X.K ta):=by
 intro c s g H R I h;refine Call_ (jk I E B w (bo (cy (G pos c s g H _ I h) λO d ⟨N,j,I1,n,o⟩=>?_) y rfl));obtain⟨l,e,⟨M,A⟩,q⟩:=o;subst e;obtain⟨u,rfl,m⟩:=Vals.one n;cases(show u=Value.ref l from m);obtain⟨v,rv,r,_⟩:=I1.list A;refine call_enumerate_list r.isList λJ i C x D=>?_;refine wpAny_pyIter_enum i ?_;have L:Inv X c g j {d with heap:=J}:=I1.kept (t':=d.toks) D;refine⟨d.heap.objs.size+1,[d.heap.objs.size+1,d.heap.objs.size],_,_,j,rfl,L,DF l (d.heap.objs.size+1) d.heap.objs.size (Nat.succ_ne_self _),⟨⟨_,i⟩,C⟩,λb F=>?_,q⟩;rcases Fh.mp F with z|z
 .rw[z];exact I1.zA (by lia) (I1.hok.fresh (by lia))
 .rw[Do.mp z];exact I1.zA (D2 _) (I1.hok.fresh (D2 _))
end
noncomputable def YX(K:Frag)(a:Addr)(n:Nat):It:=
 ⟨λi H=>∃b,gP K H a b/\b.length=n/\i<n,λi H x c=>c=H/\∀b,gP K H a b->b.length=n->b[n -1 -i]?=some x,λi _=>i=n⟩
theorem FD{P:Program}{w:World}{K:Frag}{tg:Expr}(a l:Addr)(n:Nat):Turn P w K tg (YX K a n) [l] l (λi h=>h.IsRevIter l a ((n:Int) -1 -(i:Int)))where
 mem:=by simp
 obj:=λi h f b m=>by
  have e:b=l:=by simpa using m
  subst e;obtain⟨o,e,c,d⟩:=f;refine⟨o,e,λv z=>?_⟩;rw[d]at z;cases z
 keep:=λi h r f k=>f.at λo e=>k l (Do.mpr rfl) o e
 item:=by
  intro X B t C R i g s M H E I q f A;subst B t C;obtain⟨N,Q,hn,hi⟩:=A;obtain⟨U,rv,p,hz⟩:=I.list Q;have O:N[n -1 -i]?=some (N[n -1 -i]'(by omega)):=B1 (by omega);obtain⟨u,Z,T⟩:=rv.get O;obtain⟨L,J,f2,G,F,D⟩:=q l (Do.mpr rfl);have e:(n:Int) -1 -(i:Int)=((n -1 -i:Nat):Int):=by omega
  rw[e]at f;refine wpAny_pyNext_rev_item f p.isList (x:=u) (by simpa using Z) λr j S=>?_;have e2:((n -1 -i:Nat):Int) -1=(n:Int) -1 -((i+1:Nat):Int):=by omega
  rw[e2]at j;have I1:Inv X g M H {s with heap:=r}:=I.turned (t':=s.toks) (λb o m z=>(S.2 b m).trans z) L J G F D;obtain⟨o,e3,c,d⟩:=id j;exact⟨u,rfl,xK (s:={s with heap:=r}) e3 c d (by decide) ⟨_,H,I1,T,⟨rfl,λys Y _=>by rw[I.qm Y Q];exact O⟩,j,λb m=>(q b m).1⟩⟩
 done:=by
  intro X B t C R i g s M H E I q f A;subst B t C;have y:i=n:=A;subst y;obtain⟨L,J,f2,G,F,D⟩:=q l (Do.mpr rfl);have e:(i:Int) -1 -(i:Int)= -1:=by omega
  rw[e]at f;exact wpAny_pyNext_rev_end (I.ok.hd R) f λr eb=>⟨rfl,I.turned (t':=s.toks) (λb o m z=>eb b o m z) L J G F D⟩
 self:=λ_ _ _ _ _ f h=>wpAny_pyIter_revIter f h
section
variable{X:Cx}{tg:Expr}
noncomputable def YY(K:Frag)(ta:TA):TI:=λd H R=>ta d H λe c=>∃a b,e=[.ref a]/\gP K c a b/\R (YX K a b.length) c
theorem Pd{a:Expr}{ta:TA}{p pos:Pos}(y:Gl X "reversed")(x:X.mg "reversed"=none)(B:PA X [a] ta)(t:bootBuiltins "reversed"=some (.type "reversed"):=by rfl)(v:starEach [a] X.env=[(false,eval a X.env)]:=by rfl):
 PI X tg (.Call (.Name "reversed" p) [a] [] pos) (YY X.K ta):=by
 intro d s j H R I h;refine Call_ (jk I y x t (bo (cy (B pos d s j H _ I h) λF c ⟨E,D,I1,m,n⟩=>?_) v rfl));obtain⟨l,f,e,w,q⟩:=n;subst e;obtain⟨u,rfl,k⟩:=Vals.one m;cases(show u=Value.ref l from k);obtain⟨g,rv,r,_⟩:=I1.list w;refine call_reversed_list r.isList ?_;have C:((g.toArray.size:Nat):Int) -1=(f.length:Int) -1 -((0:Nat):Int):=by have:=rv.length;simp;omega
 rw[C];have i:Heap.IsRevIter (c.heap.push (revObj l ((f.length:Int) -1 -((0:Nat):Int)))) c.heap.objs.size l ((f.length:Int) -1 -((0:Nat):Int)):=⟨_,PH _ rfl,rfl,rfl⟩;refine wpAny_pyIter_revIter i ?_;refine⟨c.heap.objs.size,[c.heap.objs.size],_,_,D,rfl,I1.kept (t':=c.toks) λb o z=>FR _ z,FD l _ f.length,i,λb A=>?_,q⟩;have e:b=c.heap.objs.size:=by simpa using A
 subst e;exact I1.zA (D2 _) (I1.hok.fresh (D2 _))
end
section
variable{prog:Program}{w:World}{A:Around}{E:Value->Shared->Prop}
end
theorem DG{X:Cx}(C:X.calm=true):dJ X (.builtin "max") (λa H Q=>∃(p:Addr)(ns:List Int),a=[.ref p]/\gP X.K H p (ns.map V.int)/\ns≠[]/\∀m∈ns,(∀n∈ns,n<=m)->Q (.int m) H):=by
 intro f s G H a J Q I r h;obtain⟨p,ns,rfl,D,w,q⟩:=h;obtain⟨u,rfl,l⟩:=Vals.one r;cases(show u=Value.ref p from l);obtain⟨d,rv,o,_⟩:=I.list D;have i:=intsAre_of rv;obtain⟨a,g⟩:=i.allInts.items;have e:s.heap.IsList p (intItems a):=g▸o.isList;have k:ns=a.toList.map (·.1):=by rw[<-nums_intItems,<-g];exact(show numsOf d.toArray.toList=ns from i.numsOf).symm
 have A:ns.length=a.size:=by rw[k,Ap,O5]
 have y:0<a.size:=by rw[<-A];exact He.mpr w
 refine max_intList (I.ok.hd C) e y λv M L x B=>?_;obtain⟨t,rfl⟩:=intItems_at x;obtain⟨N,F⟩:=argBest_gt (numAt a) (a.size -1);have c:∀j,j<ns.length->numAt a j=ns.getD j 0:=λj _=>by rw[numAt_eq,<-k]
 have E:∀j,j<ns.length->ns.getD j 0∈ns:=λj b=>by rw[AC,B1 b];exact T2 b
 refine⟨.int _,H,I.kept B,⟨_,rfl⟩,q _ ?_ λn z=>?_⟩
 .rw[c _ (by lia)];exact E _ (by lia)
 .obtain⟨j,b,rfl⟩:=Sr z;have:=F j (by lia);rw[c j b,AC,B1 b]at this;exact this
end L2
namespace L2
open PySem
variable{r:List Expr}{env:Env}{pos:Pos}
theorem FE{a:List Expr}:starEach (.List a pos::r) env=(false,eval (.List a pos) env)::starEach r env:=rfl
inductive Pe:List Expr->List (Int×Int)->Prop where
 |nil:Pe [] []
 |cons {a b:Int} {j1 j2 k:Nat} {p1 p2 pos:Pos} {es:List Expr} {qs:List (Int×Int)} (h:Pe es qs):Pe (.Tuple [.Constant (.int a) j1 p1,.Constant (.int b) j2 p2] k pos::es) ((a,b)::qs)
end L2
namespace L2
open PySem PySem.Spec PyProof.Rows
theorem uF:∀bs:List Bool,PyData.canLayAll0 (bs.map PyData.bool)=true
 |[]=>rfl
 |b::r=>by rw[N0];simp[PyData.canLayAll0,PyData.canLay0,uF r]
theorem qG:∀bs:List Bool,PyData.depthAll (bs.map PyData.bool)=0
 |[]=>rfl
 |b::r=>by rw[N0];simp[PyData.depthAll,PyData.depth,qG r]
theorem qH:∀bs cs:List Bool,PySem.Spec.sameAll (bs.map PyData.bool) (cs.map PyData.bool)=decide (bs=cs)
 |[],[]=>by simp[sameAll]
 |[],_::_=>by simp[sameAll]
 |_::_,[]=>by simp[sameAll]
 |b::r,c::t=>by
  have ih:=qH r t;simp only[N0,sameAll,ih,PySem.Spec.same];by_cases h:b=c
  .subst h;simp
  .simp[h]
theorem lN(bs:List Bool):SeqAt.shaped (.list (bs.map PyData.bool))=true:=by unfold SeqAt.shaped;simp[PyData.canLay0,PyData.depth,uF,qG]
section
variable{X:Cx}{H:Hp}
theorem qJ:∀bs:List Bool,Paired (Dt X H) (bs.map V.bl) (bs.map PyData.bool)
 |[]=>.nil
 |n::r=>.cons (Nk n) (qJ r)
noncomputable def Vp(K:Frag):R2:=λx y H Q=>∃(p a:Addr)(b c:List Bool),x=.ref p/\y=.ref a/\gP K H p (b.map V.bl)/\gP K H a (c.map V.bl)/\Q (.bl (decide (b=c))) H
theorem J1(j:X.A.units+64<cLine):nK X (compareOp .Eq) (Vp X.K):=by
 intro a s d H x y v u Q I g f h;obtain⟨p,m,b,c,rfl,rfl,l,k,q⟩:=h;have i:SeqAt.noMix (.list (b.map PyData.bool)) (.list (c.map PyData.bool))=true:=SeqAt.noMix_of_shape (.list .bool) rfl _ _ (list_map_has λ_=>rfl) (list_map_has λ_=>rfl);refine FA j a s d H _ _ v u Q I g f ⟨_,_,vB l (qJ b),vB k (qJ c),⟨lN _,lN _,i⟩,?_⟩;have e:PySem.Spec.same (.list (b.map PyData.bool)) (.list (c.map PyData.bool))=decide (b=c):=by simp only[PySem.Spec.same];exact qH b c
 rw[e];exact q
end
mutual
noncomputable def aN:PyData->Bool
 |.int _=>true
 |.list a=>fT a
 |.tuple a=>fT a
 |.none=>false
 |.bool _=>false
 |.str _=>false
 |.dict _=>false
noncomputable def fT:List PyData->Bool
 |[]=>true
 |x::a=>aN x&&fT a
end
mutual
theorem FF:∀d:PyData,aN d=true->d.canLay0=true
 |.int _,_=>by simp[PyData.canLay0]
 |.list a,h=>by rw[aN]at h;rw[PyData.canLay0];exact nO a h
 |.tuple a,h=>by rw[aN]at h;rw[PyData.canLay0];exact nO a h
 |.none,h=>by simp[aN]at h
 |.bool _,h=>by simp[aN]at h
 |.str _,h=>by simp[aN]at h
 |.dict _,h=>by simp[aN]at h
theorem nO:∀a:List PyData,fT a=true->PyData.canLayAll0 a=true
 |[],_=>by simp[PyData.canLayAll0]
 |x::a,h=>by rw[fT,AN]at h;rw[PyData.canLayAll0,FF x h.1,nO a h.2];rfl
end
mutual
theorem FG:∀d e:PyData,aN d=true->aN e=true->SeqAt.noMix d e=true
 |.int _,.int _,_,_=>by simp[SeqAt.noMix]
 |.int _,.list _,_,_=>by simp[SeqAt.noMix]
 |.int _,.tuple _,_,_=>by simp[SeqAt.noMix]
 |.list _,.int _,_,_=>by simp[SeqAt.noMix]
 |.list _,.tuple _,_,_=>by simp[SeqAt.noMix]
 |.tuple _,.int _,_,_=>by simp[SeqAt.noMix]
 |.tuple _,.list _,_,_=>by simp[SeqAt.noMix]
 |.list c,.list b,h,a=>by rw[aN]at h a;rw[SeqAt.noMix];exact nQ c b h a
 |.tuple c,.tuple b,h,a=>by rw[aN]at h a;rw[SeqAt.noMix];exact nQ c b h a
 |.none,_,h,_=>by simp[aN]at h
 |.bool _,_,h,_=>by simp[aN]at h
 |.str _,_,h,_=>by simp[aN]at h
 |.dict _,_,h,_=>by simp[aN]at h
 |.int _,.none,_,h=>by simp[aN]at h
 |.int _,.bool _,_,h=>by simp[aN]at h
 |.int _,.str _,_,h=>by simp[aN]at h
 |.int _,.dict _,_,h=>by simp[aN]at h
 |.list _,.none,_,h=>by simp[aN]at h
 |.list _,.bool _,_,h=>by simp[aN]at h
 |.list _,.str _,_,h=>by simp[aN]at h
 |.list _,.dict _,_,h=>by simp[aN]at h
 |.tuple _,.none,_,h=>by simp[aN]at h
 |.tuple _,.bool _,_,h=>by simp[aN]at h
 |.tuple _,.str _,_,h=>by simp[aN]at h
 |.tuple _,.dict _,_,h=>by simp[aN]at h
theorem nQ:∀b a:List PyData,fT b=true->fT a=true->SeqAt.noMixAll b a=true
 |[],[],_,_=>by simp[SeqAt.noMixAll]
 |[],_::_,_,_=>by simp[SeqAt.noMixAll]
 |_::_,[],_,_=>by simp[SeqAt.noMixAll]
 |x::b,y::a,h,c=>by rw[fT,AN]at h c;rw[SeqAt.noMixAll,FG x y h.1 c.1,nQ b a h.2 c.2];rfl
end
mutual
theorem DH:∀d e:PyData,aN d=true->aN e=true->(same d e=true↔d=e)
 |.int a,.int b,_,_=>by simp[same]
 |.int _,.list _,_,_=>by simp[same]
 |.int _,.tuple _,_,_=>by simp[same]
 |.list _,.int _,_,_=>by simp[same]
 |.list _,.tuple _,_,_=>by simp[same]
 |.tuple _,.int _,_,_=>by simp[same]
 |.tuple _,.list _,_,_=>by simp[same]
 |.list g,.list f,h,c=>by rw[aN]at h c;rw[same,kM g f h c,PyData.list.injEq]
 |.tuple g,.tuple f,h,c=>by rw[aN]at h c;rw[same,kM g f h c,PyData.tuple.injEq]
 |.none,_,h,_=>by simp[aN]at h
 |.bool _,_,h,_=>by simp[aN]at h
 |.str _,_,h,_=>by simp[aN]at h
 |.dict _,_,h,_=>by simp[aN]at h
 |.int _,.none,_,h=>by simp[aN]at h
 |.int _,.bool _,_,h=>by simp[aN]at h
 |.int _,.str _,_,h=>by simp[aN]at h
 |.int _,.dict _,_,h=>by simp[aN]at h
 |.list _,.none,_,h=>by simp[aN]at h
 |.list _,.bool _,_,h=>by simp[aN]at h
 |.list _,.str _,_,h=>by simp[aN]at h
 |.list _,.dict _,_,h=>by simp[aN]at h
 |.tuple _,.none,_,h=>by simp[aN]at h
 |.tuple _,.bool _,_,h=>by simp[aN]at h
 |.tuple _,.str _,_,h=>by simp[aN]at h
 |.tuple _,.dict _,_,h=>by simp[aN]at h
theorem kM:∀b a:List PyData,fT b=true->fT a=true->(sameAll b a=true↔b=a)
 |[],[],_,_=>by simp[sameAll]
 |[],_::_,_,_=>by simp[sameAll]
 |_::_,[],_,_=>by simp[sameAll]
 |x::b,y::a,h,c=>by rw[fT,AN]at h c;rw[sameAll,AN,DH x y h.1 c.1,kM b a h.2 c.2,Zg]
end
section
variable{X:Cx}
end
theorem xY{a:List PyData}{n:Nat}(h:∀x∈a,x.depth<=n):PyData.depthAll a<=n:=by
 induction a with
 |nil=>simp[PyData.depthAll]
 |cons x a b=>rw[PyData.depthAll];have:=h x (Dx ..);have:=b λy c=>h y (DL _ c);lia
theorem z4(bs:List Bool):((Bn bs.length).any λi=>(bs[i]?).getD false)=bs.any id:=by
 rw[n4,W4,W4];constructor
 .rintro⟨i,c,h⟩;have a:=du.mp c;simp only[B1 a,JX]at h;exact⟨_,T2 a,h⟩
 .rintro⟨b,d,h⟩;obtain⟨i,c,rfl⟩:=Sr d;refine⟨i,du.mpr c,?_⟩;simp only[B1 c,JX];exact h
section
variable{X:Cx}
theorem DI(x:X.calm=true):dJ X (.builtin "any") (λg H Q=>∃(p:Addr)(bs:List Bool),g=[.ref p]/\gP X.K H p (bs.map V.bl)/\Q (.bl (bs.any id)) H):=by
 intro j s D H g E Q I r h;obtain⟨p,bs,rfl,y,q⟩:=h;obtain⟨u,rfl,m⟩:=Vals.one r;cases(show u=Value.ref p from m);obtain⟨a,rv,n,_⟩:=I.list y;have k:=uE rv;have f:=n.isList;have d:p<s.heap.objs.size:=by obtain⟨_,e,_⟩:=f;exact Fu e
 refine call_any_walk (wpAny_pyIter_list f ?_);refine⟨s.heap.objs.size,[s.heap.objs.size,p],[s.heap.objs.size],a.toArray.size,_,_,λi=>(bs[i]?).getD false,rfl,Walks.list (A:=X.A.in1) (I.ok.hd x) _ p (Qr d) a.toArray,
  ⟨⟨_,PH _ rfl,rfl,rfl⟩,f.push _⟩,λi v G L M B l=>?_,λJ F w=>?_⟩
 .have c:a[i]?=some v:=by simpa using B
  rw[k,Da]at c;cases e:bs[i]? with
  |none=>rw[e]at c;cases c
  |some b=>rw[e]at c;simp only[e,JX]at l;have:v=Value.bool b:=(Kk c).symm;subst this;exact ey l
 .have e:((Bn a.toArray.size).any λi=>(bs[i]?).getD false)=bs.any id:=by
   have C:a.toArray.size=bs.length:=by rw[Fk,k,Ap]
   rw[C];exact z4 bs
  rw[e];exact⟨.bl _,H,I.kept λb o z=>w b o (λt=>by rw[Do.mp t]at z;exact SU _ (Fu z)) (FR _ z),rfl,q⟩
end
end L2
set_option genSizeOf false
set_option genInjectivity false
namespace Num
theorem qK(a b q:Int):A2 b (a -q*b)=A2 a b:=by
 apply Nat.dvd_antisymm
 .apply fw
  .have f:((A2 b (a -q*b):Nat):Int)∣b:=gN ..;have d:((A2 b (a -q*b):Nat):Int)∣(a -q*b):=RF ..;have c:=g4 d (wt f:_∣q*b);have e:a -q*b+q*b=a:=by lia
   rw[e]at c;exact c
  .exact gN ..
 .apply fw
  .exact RF ..
  .exact bM (gN ..) (wt (RF ..))
theorem fl(a b:Int)(c:b≠0):(0<b->0<=a -a.fdiv b*b/\a -a.fdiv b*b<b)/\(b<0->b<a -a.fdiv b*b/\a -a.fdiv b*b<=0):=by
 have e:=Int.mul_ediv_add_emod a b;have f:=XZ a c;have d:a%b<(b.natAbs:Int):=by
  rcases oo 0 b with z|z
  .have:=uj a z;lia
  .have:=uj a (show 0< -b by lia);rw[Int.emod_neg]at this;lia
 rw[Int.fdiv_eq_ediv];have g:b*(a/b)=(a/b)*b:=ar _ _;constructor
 .intro h;rw[Bi (Ng (by lia)),xi];lia
 .intro h;split
  .rename_i hd
   have hz:a%b=0:=wx (by lia);rw[xi];lia
  .rename_i hd
   have hz:a%b≠0:=λz=>hd (.inr (wy z));have:(a/b -1)*b=a/b*b -b:=by rw[Int.sub_mul];lia
   lia
theorem FH(a b:Int)(c:b≠0):(a -a.fdiv b*b).natAbs<b.natAbs:=by have:=fl a b c;omega
theorem fmod_eq(a b:Int):a.fmod b=a -a.fdiv b*b:=by have:=Int.mul_fdiv_add_fmod a b;have:b*a.fdiv b=a.fdiv b*b:=ar _ _;omega
theorem dz(r:Rat):(r.den:Int)≠0:=by have:=r.den_nz;lia
theorem dpos(r:Rat):(0:Int)<r.den:=by have:=r.den_pos;omega
theorem Pf{n:Int}{d:Nat}{r:Rat}(a:d≠0)(b:Nat.gcd n.natAbs d=1)(h:n*r.den=r.num*d):r.num=n/\(r.den:Int)=d:=by
 have e:r=⟨n,d,a,b⟩:=by rw[<-QP r,Rat.mk_eq_divInt,Yf (dz r) (by lia)];exact h.symm
 rw[e];exact⟨rfl,rfl⟩
theorem ko(a b:Rat):(a+b).num*(a.den*b.den:Int)=(a.num*b.den+b.num*a.den)*(a+b).den:=by
 have c:a+b=C0 (a.num*b.den+b.num*a.den) (a.den*b.den):=by
  conv=>lhs;rw[<-QP a,<-QP b]
  exact Rat.divInt_add_divInt _ _ (dz a) (dz b)
 exact(Yf (dz _) (Hk (dz a) (dz b))).mp ((QP (a+b)).trans c)
theorem tE(a b:Rat):(a*b).num*(a.den*b.den:Int)=(a.num*b.num)*(a*b).den:=by
 have c:a*b=C0 (a.num*b.num) (a.den*b.den):=by
  conv=>lhs;rw[<-QP a,<-QP b]
  exact Zf _ _
 exact(Yf (dz _) (Hk (dz a) (dz b))).mp ((QP (a*b)).trans c)
theorem pS(x y m:Int):A2 (x+y*m) m=A2 x m:=by
 have h:=qK x m (-y);have e:x - -y*m=x+y*m:=by rw[Int.neg_mul];lia
 rw[e]at h;rw[me,h]
theorem iG{x y m:Int}(b:A2 x m=1)(a:A2 y m=1):A2 (x*y) m=1:=by unfold A2 at*;rw[FK];exact hJ b a
theorem lO{x y m:Int}(b:A2 m x=1)(a:A2 m y=1):A2 m (x*y)=1:=by rw[me]at*;exact iG b a
theorem lP{x y m:Int}(h:A2 x m=1)(a:y∣m):A2 x y=1:=by unfold A2 at*;exact hX (d5.mpr a) h
theorem lS{x y m:Int}(h:A2 m x=1)(a:y∣m):A2 y x=1:=by rw[me]at*;exact lP h a
theorem red(r:Rat):A2 r.num r.den=1:=r.reduced
theorem jR(x y:Int)(h:y≠0):∃b a:Int,x=(A2 x y:Nat)*b/\y=(A2 x y:Nat)*a/\A2 b a=1/\0<((A2 x y:Nat):Int):=by
 have f:0<A2 x y:=Int.gcd_pos_of_ne_zero_right _ h;obtain⟨b,d⟩:((A2 x y:Nat):Int)∣x:=gN ..;obtain⟨a,c⟩:((A2 x y:Nat):Int)∣y:=RF ..;refine⟨b,a,d,c,?_,by lia⟩;have e:A2 ((A2 x y:Nat)*b) ((A2 x y:Nat)*a)=A2 x y*A2 b a:=by rw[dV];rfl
 rw[<-d,<-c]at e;have:A2 x y*1=A2 x y*A2 b a:=by lia
 exact(YP f this).symm
theorem fj{g x a:Int}(h:x=g*a)(b:0<g):x/g=a:=by rw[h];exact my _ (by lia)
theorem nR{g y a:Int}(h:y=g*a)(b:0<g)(c:0<y):0<a:=by
 rcases oo 0 a with z|z
 .exact z
 .have:=Int.mul_nonpos_of_nonneg_of_nonpos (W1 b) z;omega
theorem iH{n d:Int}{r:Rat}(b:0<d)(a:A2 n d=1)(h:n*r.den=r.num*d):r.num=n/\(r.den:Int)=d:=by
 have e:((d.toNat:Nat):Int)=d:=by lia
 have:=Pf (n:=n) (d:=d.toNat) (r:=r) (by lia) (by unfold A2 at a;rw[show d.toNat=d.natAbs by lia];exact a) (by rw[e];exact h);rw[e]at this;exact this
theorem J2(a b:Rat):∃A B:Int,(a.den:Int)/(A2 a.den b.den:Nat)=A/\(b.den:Int)/(A2 a.den b.den:Nat)=B/\
 0<((A2 a.den b.den:Nat):Int)/\0<A/\0<B/\A<=a.den/\B<=b.den/\0<((A2 (a.num*B+b.num*A) (A2 a.den b.den:Nat):Nat):Int)/\
 (a+b).num=(a.num*B+b.num*A)/(A2 (a.num*B+b.num*A) (A2 a.den b.den:Nat):Nat)/\
 ((a+b).den:Int)=A*((b.den:Int)/(A2 (a.num*B+b.num*A) (A2 a.den b.den:Nat):Nat)):=by
 obtain⟨A,B,f,d,e,c⟩:=jR a.den b.den (dz b);generalize((A2 a.den b.den:Nat):Int)=g at*;have o:=nR f c (dpos a);have n:=nR d c (dpos b);have gz:g≠0:=by lia
 obtain⟨t,h,q,k,p,j⟩:=jR (a.num*B+b.num*A) g gz;generalize m:a.num*B+b.num*A=T at*;generalize E:((A2 T g:Nat):Int)=l at*;have x:=nR k j c;have v:(b.den:Int)=l*(B*h):=by rw[d,k];grind
 have I:A2 T A=1:=by rw[<-m,pS];exact iG (lP (red a) ⟨g,by rw[f];grind⟩) (by rw[me];exact e)
 have H:A2 T B=1:=by rw[<-m,ew,pS];exact iG (lP (red b) ⟨g,by rw[d];grind⟩) e
 have u:t∣T:=⟨l,by rw[q];grind⟩;have s:A2 t (A*(B*h))=1:=lO (lS I u) (lO (lS H u) p);have w:t*(a+b).den=(a+b).num*(A*(B*h)):=by
  have D:=ko a b;have G:(a.den*b.den:Int)=(l*l*h)*(A*(B*h)):=by rw[v,f,k];grind
  have F:(a.num*b.den+b.num*a.den:Int)=(l*l*h)*t:=by
   have:(a.num*b.den+b.num*a.den:Int)=g*T:=by rw[<-m,d,f];grind
   rw[this,q,k];grind
  rw[G,F]at D;have y:l*l*h≠0:=Hk (Hk (by lia) (by lia)) (by lia);have:(l*l*h)*((a+b).num*(A*(B*h)))=(l*l*h)*(t*(a+b).den):=by grind
  exact(QR y this).symm
 have i:=iH (r:=a+b) (sT o (sT n x)) s w;have C:A<=a.den:=by have:=kA (show 1<=g by lia) (W1 o);lia
 have z:B<=b.den:=by have:=kA (show 1<=g by lia) (W1 n);lia
 refine⟨A,B,fj f c,fj d c,c,o,n,C,z,?_⟩;rw[m,E];refine⟨j,?_,?_⟩
 .rw[i.1,fj q j]
 .rw[i.2,fj v j]
theorem J3(a b:Rat)(h:A2 a.den b.den=1):(a+b).num=a.num*b.den+b.num*a.den/\((a+b).den:Int)=a.den*b.den:=by
 refine iH (sT (dpos a) (dpos b)) (lO ?_ ?_) ?_
 .rw[pS];exact iG (red a) (by rw[me];exact h)
 .rw[ew,pS];exact iG (red b) h
 .have:=ko a b;grind
theorem FI(a b:Rat):0<((A2 a.num b.den:Nat):Int)/\0<((A2 b.num a.den:Nat):Int)/\
 (a*b).num=a.num/(A2 a.num b.den:Nat)*(b.num/(A2 b.num a.den:Nat))/\((a*b).den:Int)=(a.den:Int)/(A2 b.num a.den:Nat)*((b.den:Int)/(A2 a.num b.den:Nat)):=by
 obtain⟨x,y,k,d,j,h⟩:=jR a.num b.den (dz b);obtain⟨z,w,hz,e,i,g⟩:=jR b.num a.den (dz a);generalize((A2 a.num b.den:Nat):Int)=f at*;generalize((A2 b.num a.den:Nat):Int)=s at*;have n:=nR d h (dpos b);have pw:=nR e g (dpos a);have l:A2 (x*z) (w*y)=1:=by have v:A2 x w=1:=lP (lS (red a) ⟨f,by rw[k];grind⟩) ⟨s,by rw[e];grind⟩;have u:A2 z y=1:=lP (lS (red b) ⟨s,by rw[hz];grind⟩) ⟨f,by rw[d];grind⟩;exact lO (iG v i) (iG j u)
 have m:x*z*(a*b).den=(a*b).num*(w*y):=by
  have p:=tE a b;have t:(a.den*b.den:Int)=(f*s)*(w*y):=by rw[e,d];grind
  have q:a.num*b.num=(f*s)*(x*z):=by rw[k,hz];grind
  rw[t,q]at p;have o:f*s≠0:=Hk (by lia) (by lia);have:(f*s)*((a*b).num*(w*y))=(f*s)*(x*z*(a*b).den):=by grind
  exact(QR o this).symm
 have c:=iH (r:=a*b) (sT pw n) l m;refine⟨h,g,?_,?_⟩
 .rw[c.1,fj k h,fj hz g]
 .rw[c.2,fj e g,fj d h]
theorem inv_pos(b:Rat)(h:0<b.num):b⁻¹.num=b.den/\(b⁻¹.den:Int)=b.num:=by refine iH h (by rw[me];exact red b) ?_;have:=(Yf (dz b⁻¹) (show b.num≠0 by omega)).mp ((QP b⁻¹).trans (fb b));grind
theorem inv_neg(b:Rat)(h:b.num<0):b⁻¹.num= -b.den/\(b⁻¹.den:Int)= -b.num:=by
 refine iH (by lia) ?_ ?_
 .rw[fu,ft,me];exact red b
 .have:=(Yf (dz b⁻¹) (show b.num≠0 by lia)).mp ((QP b⁻¹).trans (fb b));grind
def Bd(n:Nat)(r:Rat):Prop:=r.num.natAbs<2^n/\r.den<2^n
theorem Pg{n:Int}{d:Nat}(a:d≠0):(mkRat n d).num.natAbs<=n.natAbs/\(mkRat n d).den<=d:=by
 obtain⟨m,e,c,b⟩:=Rat.mkRat_num_den a (show mkRat n d=⟨(mkRat n d).num,(mkRat n d).den,(mkRat n d).den_nz,(mkRat n d).reduced⟩from rfl);constructor
 .have:n.natAbs=(mkRat n d).num.natAbs*m:=by
   conv=>lhs;rw[c]
   rw[FK,C2]
  rw[this];exact Wp _ (by lia)
 .conv=>rhs;rw[b]
  exact Wp _ (by lia)
theorem lt_mul{x y n m:Nat}(b:x<2^n)(a:y<2^m):x*y<2^(n+m):=by
 rw[On];rcases i3 y with z|z
 .subst z;have:=fh (SF (n:=n) (show 0<2 by decide)) (SF (n:=m) (show 0<2 by decide));omega
 .exact FS (Xz b z) (Ee _ (SC a))
theorem Ph{n m:Nat}{a b:Rat}(f:Bd n a)(c:Bd m b):Bd (n+m+1) (a+b):=by
 have q:=Pg (n:=a.num*b.den+b.num*a.den) (d:=a.den*b.den) (Nat.mul_ne_zero a.den_nz b.den_nz);rw[<-Rat.add_def']at q;have e:2^(n+m+1)=2*2^(n+m):=by rw[GS];omega
 have i:a.num.natAbs*b.den<2^(n+m):=lt_mul f.1 c.2;have h:b.num.natAbs*a.den<2^(n+m):=by rw[Ta];exact lt_mul f.2 c.1
 have g:=lt_mul f.2 c.2;have k:(a.num*b.den).natAbs=a.num.natAbs*b.den:=by rw[FK,C2]
 have j:(b.num*a.den).natAbs=b.num.natAbs*a.den:=by rw[FK,C2]
 exact⟨by omega,by omega⟩
theorem Pj{n:Nat}{a:Rat}(h:Bd n a)(hz:a.num≠0):Bd n a⁻¹:=by
 obtain⟨e,d⟩:=h;rcases oo 0 a.num with z|z
 .obtain⟨b,c⟩:=inv_pos a z;exact⟨by rw[b];omega,by omega⟩
 .obtain⟨b,c⟩:=inv_neg a (by omega);exact⟨by rw[b];omega,by omega⟩
noncomputable def cf(a bs:List Int):Nat->Nat->Int
 |0,_=>0
 |i+1,k=>cf a bs i k+a.getD i 0*(if i<=k then bs.getD (k -i) 0 else 0)
noncomputable def xZ(a bs:List Int)(i j k:Nat):Int:=cf a bs i k+(if i<=k/\k<i+j then a.getD i 0*bs.getD (k -i) 0 else 0)
theorem x6(a bs:List Int)(i k:Nat):xZ a bs i 0 k=cf a bs i k:=by unfold xZ;rw[BM (by lia)];lia
theorem x8(a bs:List Int)(i k:Nat):xZ a bs i bs.length k=cf a bs (i+1) k:=by
 unfold xZ;rw[cf];by_cases h:i<=k
 .by_cases b:k<i+bs.length
  .rw[Bi ⟨h,b⟩,Bi h]
  .have e:bs.getD (k -i) 0=0:=by rw[AC,FC (by lia)];rfl
   rw[BM (by lia),Bi h,e,Q1]
 .rw[BM (by lia),BM h,Q1]
theorem lT(a bs:List Int)(i j k:Nat):xZ a bs i (j+1) k=xZ a bs i j k+(if k=i+j then a.getD i 0*bs.getD j 0 else 0):=by
 unfold xZ;by_cases h:k=i+j
 .subst h;rw[Bi (by lia),BM (by lia),Bi rfl,bj];lia
 .rw[BM h];by_cases b:i<=k/\k<i+j
  .rw[Bi (by lia),Bi b];lia
  .rw[BM (by lia),BM b];lia
theorem J5{a bs:List Int}{i:Nat}(h:a.getD i 0=0)(k:Nat):cf a bs (i+1) k=cf a bs i k:=by rw[cf,h,dt,ky]
theorem lU(a bs:List Int)(k:Nat):∀i,i+bs.length<=k+1->cf a bs i k=0
 |0,_=>rfl
 |i+1,h=>by
  rw[cf,lU a bs k i (by lia)];have e:bs.getD (k -i) 0=0:=by rw[AC,FC (by lia)];rfl
  rw[Bi (by lia),e,Q1];rfl
theorem J6(a bs:List Int)(d:0<a.length)(c:0<bs.length):cf a bs a.length (a.length+bs.length -2)=a.getD (a.length -1) 0*bs.getD (bs.length -1) 0:=by obtain⟨m,b⟩:∃m,a.length=m+1:=⟨a.length -1,by lia⟩;rw[b,cf,lU a bs _ m (by clear b c d;lia),Bi (by lia),oa];congr 2<;>lia
noncomputable def iI(ns a:List Int):Prop:=∃k,k<=ns.length/\a=ns.take k/\(∀j,k<=j->j<ns.length->ns.getD j 0=0)/\(k=0\/ns.getD (k -1) 0≠0)
theorem iI.last{ns a:List Int}(h:iI ns a):a=[]\/a.getD (a.length -1) 0≠0:=by
 obtain⟨k,c,rfl,e,b⟩:=h;rcases b with q|q
 .left;rw[q];rfl
 .by_cases d:k=0
  .left;rw[d];rfl
  .right;rw[dA,dq c,AC,mm (by lia),<-AC];exact q
theorem iI.mem{ns a:List Int}(h:iI ns a):∀m∈a,m∈ns:=by obtain⟨k,_,rfl,_⟩:=h;exact λm b=>rk b
def qM(p:Int):Prop:=2<=p/\∀d:Int,2<=d->d*d<=p->p%d≠0
theorem tF{p x:Int}(d:qM p)(i:0<x)(m:x<p):A2 p x=1:=by
 obtain⟨l,b⟩:=d;have j:0<A2 p x:=tj _ (by lia);obtain⟨q,a⟩:((A2 p x:Nat):Int)∣p:=gN ..;have f:((A2 p x:Nat):Int)<=x:=fe i (RF ..);generalize k:((A2 p x:Nat):Int)=g at*;have n:1<=g:=by lia
 rcases oo 1 g with h|e
 .exfalso
  have c:2<=q:=by
   rcases oo q 2 with z|z
   .have:q<=1:=by lia
    have:=kf this (show 0<=g by lia);lia
   .exact z
  rcases Int.le_total g q with z|z
  .have:g*g<=g*q:=kf z (by lia);exact b g (by lia) (by lia) (wx ⟨q,a⟩)
  .have:q*q<=g*q:=kA z (by lia);exact b q c (by lia) (wx ⟨g,by rw[a,ar]⟩)
 .lia
theorem FJ(t b:Int)(k:b≠0):((if b<0 then-((A2 t b:Nat):Int)else((A2 t b:Nat):Int))≠0)/\(C0 t b).num=t.fdiv (if b<0 then-((A2 t b:Nat):Int)else((A2 t b:Nat):Int))/\
 ((C0 t b).den:Int)=b.fdiv (if b<0 then-((A2 t b:Nat):Int)else((A2 t b:Nat):Int)):=by
 obtain⟨x,y,i,e,c,j⟩:=jR t b k;have l:=(Yf (dz (C0 t b)) k).mp (QP (C0 t b));generalize((A2 t b:Nat):Int)=g at*;generalize C0 t b=r at*;have gz:g≠0:=by lia
 have m:x*r.den=r.num*y:=by
  rw[i,e]at l;have:g*(x*r.den)=g*(r.num*y):=by grind
  exact QR gz this
 rcases oo b 0 with z|z
 .rw[Bi z];have f:0< -y:=by
   rcases oo 0 (-y)with q|q
   .exact q
   .have:=Int.mul_nonneg (W1 j) (show 0<=y by lia);lia
  have a:=iH (n:= -x) (d:= -y) (r:=r) f (by rw[fu,ft];exact c) (by grind);have h: -g≠0:=by lia
  refine⟨h,?_,?_⟩
  .rw[a.1,i,show g*x= -g* -x by grind,mn _ h]
  .rw[a.2,e,show g*y= -g* -y by grind,mn _ h]
 .rw[BM (by lia)];have f:=nR e j (by lia);have a:=iH (r:=r) f c m;refine⟨gz,?_,?_⟩
  .rw[a.1,i,mn _ gz]
  .rw[a.2,e,mn _ gz]
theorem z5(t b:Int)(a:b≠0):(C0 t b).num*b=t*(C0 t b).den:=(Yf (dz _) a).mp (QP _)
theorem pT(t b:Int)(f:b≠0):(C0 t b).num.natAbs<=t.natAbs/\(C0 t b).den<=b.natAbs:=by
 have c:=z5 t b f;generalize C0 t b=r at*;have d:r.num.natAbs*b.natAbs=t.natAbs*r.den:=by have:=Pi M6 c;rw[FK,FK,C2]at this;exact this
 have a:ae r.num.natAbs r.den:=r.reduced;have e:0<b.natAbs:=by lia
 have h:r.den∣b.natAbs:=a.symm.dvd_of_dvd_mul_left ⟨t.natAbs,by rw[d,Ta]⟩;have g:r.num.natAbs∣t.natAbs:=a.dvd_of_dvd_mul_right ⟨b.natAbs,d.symm⟩;refine⟨?_,ee e h⟩;rcases i3 t.natAbs with z|z
 .rw[z,ZG]at d;rcases Nat.mul_eq_zero.mp d with q|q
  .lia
  .lia
 .exact ee z g
def ev(x:Rat):List Rat->Rat
 |[]=>0
 |r::a=>r+x*ev x a
def wv(t b:Int):List Int->Int
 |[]=>0
 |x::s=>wv t b s*t+x*b^s.length
theorem Nl{t b:Int}{B:Rat}{x:Rat}(f:(b:Rat)≠0)(d:x*b=t)(g:B≠0):∀(ns:List Int)(a:List Rat),ns.length=a.length->(∀i,i<ns.length->(ns.getD i 0:Rat)=a.getD i 0*B)->((wv t b ns:Int):Rat)*b=(b:Rat)^ns.length*ev x a*B
 |[],[],_,_=>by show((0:Int):Rat)*b=_*0*B;grind
 |n::ns,r::a,c,h=>by
  have ih:=Nl f d g ns a (by simpa using c) λi e=>by have:=h (i+1) (by simpa using e);simpa using this
  have j:(n:Rat)=r*B:=by simpa using h 0 (by simp)
  show((wv t b ns*t+n*b^ns.length:Int):Rat)*b=(b:Rat)^(ns.length+1)*(r+x*ev x a)*B;rw[i4,Fm,Fm,Rat.intCast_pow,ag,j];have:(wv t b ns:Rat)*t*b=(wv t b ns:Rat)*b*(x*b):=by rw[d];grind
  grind
 |[],_::_,c,_=>by simp at c
 |_::_,[],c,_=>by simp at c
theorem vC(x:Rat):x*((x.den:Int):Rat)=((x.num:Int):Rat):=by
 have h:=QP x;rw[lh]at h;have:((x.den:Int):Rat)≠0:=λz=>by have:=xk.mp (z.trans (show(0:Rat)=((0:Int):Rat)from rfl));have:=x.den_nz;lia
 grind
theorem jS{x:Rat}{B:Int}(h:(x.den:Int)∣B):((x.num*(B/x.den):Int):Rat)=x*B:=by
 obtain⟨k,a⟩:=h;have e:B/(x.den:Int)=k:=by rw[a];exact my _ (dz x)
 rw[e,a,Fm,Fm,<-vC x];grind
def sm(f:Nat->Int):Nat->Int
 |0=>0
 |n+1=>sm f n+f n
theorem iJ{f g:Nat->Int}:∀n,(∀i,i<n->f i=g i)->sm f n=sm g n
 |0,_=>rfl
 |n+1,h=>by rw[sm,sm,iJ n λi hi=>h i (by lia),h n (by lia)]
theorem Bw(f:Nat->Int):∀n,sm f (n+1)=f 0+sm (λi=>f (i+1)) n
 |0=>by rw[sm,sm,sm];lia
 |n+1=>by rw[sm,Bw f n,sm];lia
theorem FL(f:Nat->Int):∀n,sm (λi=>f (n -i)) (n+1)=sm f (n+1)
 |0=>rfl
 |n+1=>by rw[Bw,iJ (g:=λi=>f (n -i)) (n+1) λi hi=>by congr 1;lia,FL f n];rw[sm,sm,sm];show f (n+1 -0)+(sm f n+f n)=_;rw[M1];lia
theorem vD{f:Nat->Int}{m:Nat}:∀n,m<=n->(∀i,m<=i->i<n->f i=0)->sm f n=sm f m
 |0,h,_=>by
  have:m=0:=by lia
  rw[this]
 |n+1,h,z=>by
  by_cases e:m=n+1
  .rw[e]
  .rw[sm,vD n (by lia) (λi a b=>z i a (by lia)),z n (by lia) (by lia),ky]
theorem x9(a bs:List Int)(k:Nat):∀n,cf a bs n k=sm (λi=>a.getD i 0*(if i<=k then bs.getD (k -i) 0 else 0)) n
 |0=>rfl
 |n+1=>by rw[cf,x9 a bs k n,sm]
theorem lV(a bs:List Int)(k:Nat):cf a bs a.length k=sm (λi=>a.getD i 0*bs.getD (k -i) 0) (k+1):=by
 rw[x9];have b:∀i,a.length<=i->a.getD i 0=0:=λi h=>by rw[AC,FC h];rfl
 rcases ek a.length (k+1)with h|h
 .rw[<-vD (k+1) h λi c _=>by rw[b i c,dt]];exact iJ _ λi d=>by rw[Bi (by lia)]
 .rw[vD a.length h λi c _=>by rw[BM (by lia),Q1]];exact iJ _ λi d=>by rw[Bi (by lia)]
theorem J7(a bs:List Int)(k:Nat):cf a bs a.length k=cf bs a bs.length k:=by rw[lV,lV,<-FL];refine iJ _ λi b=>?_;show a.getD (k -i) 0*bs.getD (k -(k -i)) 0=_;rw[show k -(k -i)=i by omega,ar]
def nS(n:Nat)(f:Nat->Rat):List Rat:=(Bn n).map f
theorem lW(n:Nat)(f:Nat->Rat):(nS n f).length=n:=by unfold nS;simp
theorem J8{n:Nat}{f:Nat->Rat}{k:Nat}(h:k<n):(nS n f)[k]?=some (f k):=by unfold nS;rw[Da,cw h];rfl
theorem jd{a:List Rat}{k:Nat}(h:a.length<=k):a.getD k 0=0:=by rw[AC,FC h];rfl
def gr(l:List Rat):List Rat:=(l.reverse.dropWhile λx=>decide (x=0)).reverse
theorem qN(l:List Rat):gr (l++[0])=gr l:=by unfold gr;rw[ax,Yy,ZN,b5,Bi (by simp)]
theorem qO(l:List Rat){x:Rat}(h:x≠0):gr (l++[x])=l++[x]:=by unfold gr;rw[ax,Yy,ZN,b5,BM (by simpa using h)];simp
theorem uG(l:List Rat):∃k,k<=l.length/\gr l=l.take k/\(k=0\/l.getD (k -1) 0≠0):=by
 generalize d:l.length=n
 induction n generalizing l with
 |zero=>have:l=[]:=KE.mp d;subst this;exact⟨0,D2 _,rfl,.inl rfl⟩
 |succ n i=>
  have b:l≠[]:=λz=>by rw[z]at d;cases d
  obtain⟨c,x,rfl⟩:∃c x,l=c++[x]:=⟨l.dropLast,l.getLast b,(so b).symm⟩;have a:c.length=n:=by simpa using d
  by_cases e:x=0
  .subst e;obtain⟨k,j,g,f⟩:=i c a;refine⟨k,by lia,by rw[qN,g,List.take_append_of_le_length (by lia)],?_⟩;rcases f with z|z
   .exact .inl z
   .by_cases h:k=0
    .exact .inl h
    .right;rw[AC,PP (by lia),<-AC];exact z
  .refine⟨n+1,D2 _,by rw[qO _ e,xc (by simp[a])],.inr ?_⟩;rw[HI,AC,Jn (by lia),a,oT];exact e
theorem uH(l:List Rat):(gr l).length<=l.length:=by obtain⟨k,a,e,_⟩:=uG l;rw[e,dA];lia
def aA(l:List Rat):Prop:=∀x,l.getLast?=some x->x≠0
theorem iK(l:List Rat):aA (gr l):=λx a=>by
 obtain⟨k,c,e,h⟩:=uG l;rw[e]at a;rcases h with z|z
 .rw[z]at a;simp at a
 .by_cases b:k=0
  .rw[b]at a;simp at a
  .have d:(l.take k).getLast?=some (l.getD (k -1) 0):=by rw[IR,dA,dq c,mm (by lia),AC,B1 (by lia)];rfl
   rw[d]at a;rw[<-Kk a];exact z
def je(a:List Rat):List Rat:=a.map λx=> -x
theorem Nm{n m:Nat}{a bs:List Int}(d:∀x∈a,x.natAbs<2^n)(c:∀x∈bs,x.natAbs<2^m)(k:Nat):∀i,(cf a bs i k).natAbs<=i*2^(n+m)
 |0=>by show 0<=_;lia
 |i+1=>by
  have g:∀{n:Nat}{a:List Int}(h:∀x∈a,x.natAbs<2^n)(j:Nat),(a.getD j 0).natAbs<2^n:=λ{n a} h j=>by
   by_cases b:j<a.length
   .rw[AC,B1 b];exact h _ (T2 b)
   .rw[AC,FC (by omega)];exact SF (by decide)
  have f:=Nm d c k i;have e:(a.getD i 0*(if i<=k then bs.getD (k -i) 0 else 0)).natAbs<2^(n+m):=by
   rw[FK];refine lt_mul (g d i) ?_;split
   .exact g c _
   .exact SF (by decide)
  rw[cf,vw];omega
theorem ya(l:List Rat)(k:Nat):(l++[0]).getD k 0=l.getD k 0:=by
 rw[AC,AC];by_cases h:k<l.length
 .rw[PP h]
 .rw[Jn (by lia),FC (l:=l) (by lia)];cases a:k -l.length with
  |zero=>rfl
  |succ n=>rfl
theorem vE(l:List Rat)(k:Nat):(gr l).getD k 0=l.getD k 0:=by
 generalize b:l.length=n
 induction n generalizing l with
 |zero=>have:l=[]:=KE.mp b;subst this;rfl
 |succ n e=>
  have a:l≠[]:=λz=>by rw[z]at b;cases b
  obtain⟨c,x,rfl⟩:∃c x,l=c++[x]:=⟨l.dropLast,l.getLast a,(so a).symm⟩;by_cases d:x=0
  .subst d;rw[qN,e c (by simpa using b),ya]
  .rw[qO _ d]
theorem lX{l:List Rat}(h:aA l)(a:0<l.length):l.getD (l.length -1) 0≠0:=by refine h _ ?_;rw[IR,B1 (by omega),AC,B1 (by omega)];rfl
theorem qP{a b:List Rat}(g:aA a)(c:aA b)(h:∀k,a.getD k 0=b.getD k 0):a=b:=by
 have d:∀{a b:List Rat},aA b->(∀k,a.getD k 0=b.getD k 0)->b.length<=a.length:=λ{a b} c h=>by
  rcases ei a.length b.length with z|z
  .exact absurd ((h _).symm.trans (jd (by lia))) (lX c (by lia))
  .exact z
 have e:a.length=b.length:=dr (d g λk=>(h k).symm) (d c h);apply lj;intro k;by_cases f:k<a.length
 .have:=h k;rw[AC,AC,B1 f,B1 (show k<b.length by lia)]at this;rw[B1 f,B1 (show k<b.length by lia)];exact Pi some this
 .rw[FC (by lia),FC (by lia)]
theorem pU{n:Nat}{f:Nat->Rat}(k:Nat):(nS n f).getD k 0=if k<n then f k else 0:=by
 by_cases h:k<n
 .rw[Bi h,AC,J8 h];rfl
 .rw[BM h];exact jd (by rw[lW];lia)
def dY(f:Nat->Rat):Nat->Rat
 |0=>0
 |n+1=>dY f n+f n
theorem dN{f g:Nat->Rat}:∀n,(∀i,i<n->f i=g i)->dY f n=dY g n
 |0,_=>rfl
 |n+1,h=>by rw[dY,dY,dN n λi hi=>h i (by lia),h n (by lia)]
theorem qQ{f:Nat->Rat}{m:Nat}:∀n,m<=n->(∀i,m<=i->i<n->f i=0)->dY f n=dY f m
 |0,h,_=>by
  have:m=0:=by lia
  rw[this]
 |n+1,h,z=>by
  by_cases e:m=n+1
  .rw[e]
  .rw[dY,qQ n (by lia) (λi a b=>z i a (by lia)),z n (by lia) (by lia),x5]
def aF(f g:Nat->Rat)(k:Nat):Rat:=dY (λi=>f i*g (k -i)) (k+1)
theorem vF(c:Int)(f:Nat->Int):∀n,sm (λi=>c*f i) n=c*sm f n
 |0=>by rw[sm,sm,Q1]
 |n+1=>by rw[sm,sm,vF c f n,w8]
theorem z6(f g:Nat->Int):∀n,sm (λi=>f i+g i) n=sm f n+sm g n
 |0=>rfl
 |n+1=>by rw[sm,sm,sm,z6 f g n];lia
theorem vG(p:Nat)(v:Nat->Int):∀n,sm (λi=>if i=p then v i else 0) n=if p<n then v p else 0
 |0=>by rw[sm,BM (by lia)]
 |n+1=>by
  rw[sm,vG p v n];by_cases h:p<n
  .rw[Bi h,BM (by lia),Bi (by lia)];lia
  .rw[BM h];by_cases e:n=p
   .subst e;rw[Bi rfl,Bi (by lia)];lia
   .rw[BM e,BM (by lia)];lia
def lD(f g:Nat->Int)(k:Nat):Int:=sm (λi=>f i*g (k -i)) (k+1)
theorem Ka(c h:Int)(Q O:Nat->Int)(p k:Nat):lD (λi=>c*Q i+if i=p then h else 0) O k=c*lD Q O k+if p<=k then h*O (k -p)else 0:=by
 unfold lD;rw[iJ (g:=λi=>c*(Q i*O (k -i))+if i=p then h*O (k -i)else 0) (k+1) λi _=>?_,z6,vF,vG p λi=>h*O (k -i)]
 .by_cases a:p<=k
  .rw[Bi a,Bi (show p<k+1 by lia)]
  .rw[BM a,BM (show¬p<k+1 by lia)]
 .split
  .grind
  .grind
theorem Kc(O:Nat->Int)(k:Nat):lD (λ_=>0) O k=0:=by unfold lD;rw[iJ (g:=λi=>0*0) (k+1) λi _=>by rw[dt,dt],vF,dt]
theorem Kd{f g:Nat->Rat}{F G:Nat->Int}{A C:Rat}(c:∀i,f i*A=F i)(b:∀i,g i*C=G i)(k:Nat):aF f g k*(A*C)=((lD F G k:Int):Rat):=by
 unfold aF lD;have:∀n,dY (λi=>f i*g (k -i)) n*(A*C)=((sm (λi=>F i*G (k -i)) n:Int):Rat):=λn=>by
  induction n with
  |zero=>show 0*(A*C)=((0:Int):Rat);grind
  |succ n a=>rw[dY,sm,i4,Fm,<-a,<-c n,<-b (k -n)];grind
 exact this _
noncomputable def z7(ns a:List Int)(l:Int)(s:Nat)(Q:Nat->Int)(R:List Int):Prop:=∀k,l^s*ns.getD k 0=lD Q (λi=>a.getD i 0) k+R.getD k 0
theorem z7.start(ns a:List Int)(l:Int):z7 ns a l 0 (λ_=>0) ns:=λk=>by rw[Kc,UV];lia
theorem outI{ns:List Int}{k:Nat}(h:ns.length<=k):ns.getD k 0=0:=by rw[AC,FC h];rfl
theorem z7.step{ns a:List Int}{l:Int}{s p:Nat}{Q:Nat->Int}{R R':List Int}(h:z7 ns a l s Q R)(m:0<a.length)(c:l=a.getD (a.length -1) 0)(n:R.length=p+a.length)(d:R'.length=p+a.length -1)
 (b:∀k,k<p+a.length -1->R'.getD k 0=l*R.getD k 0 -if p<=k then R.getD (p+a.length -1) 0*a.getD (k -p) 0 else 0):
 z7 ns a l (s+1) (λi=>l*Q i+if i=p then R.getD (p+a.length -1) 0 else 0) R':=λk=>by
 rw[Ka,Pt];have e:=h k;have j:l^s*l*ns.getD k 0=l*lD Q (λi=>a.getD i 0) k+l*R.getD k 0:=by rw[<-w8,<-e];grind
 rw[j];by_cases g:k<p+a.length -1
 .rw[b k g];lia
 .by_cases f:k=p+a.length -1
  .subst f;rw[outI (ns:=R') (by lia),Bi (by lia),show p+a.length -1 -p=a.length -1 by lia,<-c];grind
  .rw[outI (ns:=R) (k:=k) (by lia),outI (ns:=R') (by lia)];split
   .rw[outI (ns:=a) (by lia)];grind
   .grind
def Cd(D:Int)(n:Nat)(x:Rat):Prop:=∃z:Int,x*D=z/\z.natAbs<2^n
theorem Cd.dvd{D:Int}{n:Nat}{x:Rat}(h:Cd D n x):(x.den:Int)∣D/\(x.num*(D/x.den)).natAbs<2^n:=by
 obtain⟨z,a,f⟩:=h;have e:x.num*D=z*x.den:=by
  have e:=vC x;have:((x.num*D:Int):Rat)=((z*x.den:Int):Rat):=by rw[Fm,Fm,<-e,<-a];grind
  exact xk.mp this
 have d:(x.den:Int)∣D:=by have c:ae x.den x.num.natAbs:=hH x.reduced;have b:x.den∣x.num.natAbs*D.natAbs:=⟨z.natAbs,by have:=Pi M6 e;rw[FK,FK,C2]at this;rw[this,Ta]⟩;have:=c.dvd_of_dvd_mul_left b;rw[<-C2 x.den]at this;exact d5.mp this
 refine⟨d,?_⟩;have:((x.num*(D/x.den):Int):Rat)=(z:Rat):=by rw[jS d,a]
 rw[xk.mp this];exact f
theorem yb{a b c:Int}(h:A2 a b=1)(e:a∣b*c):a∣c:=by
 have d:a.natAbs∣b.natAbs*c.natAbs:=by rw[<-FK];exact d5.mpr e
 exact d5.mp (hQ (show ae a.natAbs b.natAbs from h) d)
theorem FN{B d D:Int}(k:d≠0)(m:B∣D)(l:d∣D):B/(A2 B d:Nat)*d∣D:=by
 obtain⟨x,y,b,c,a,j⟩:=jR B d k;rw[show B/((A2 B d:Nat):Int)=x from Num.fj b j];obtain⟨u,f⟩:=m;obtain⟨v,i⟩:=l;generalize((A2 B d:Nat):Int)=g at*;have e:x*u=y*v:=by
  have:g*(x*u)=g*(y*v):=by rw[<-a9,<-a9,<-b,<-c,<-f,<-i]
  exact QR (by lia) this
 obtain⟨w,h⟩:y∣u:=yb (by rw[me];exact a) ⟨v,e⟩;refine⟨w,?_⟩;rw[f,b,h,c];grind
theorem Ke{ns b:List Int}(h:iI ns b)(k:Nat):b.getD k 0=ns.getD k 0:=by
 obtain⟨j,e,rfl,c,_⟩:=h;by_cases d:k<j
 .rw[AC,mm d,<-AC]
 .rw[outI (by rw[dA];lia)];by_cases a:k<ns.length
  .exact(c k (by lia) a).symm
  .exact(outI (by lia)).symm
theorem yc{ns a:List Int}(h:iI ns a):a.length<=ns.length:=by obtain⟨j,b,rfl,_⟩:=h;rw[dA];lia
theorem FO{l:Int}{M i:Nat}(h:l.natAbs<2^M):(l^i).natAbs<=2^(M*i):=by rw[e7,ke];exact Y1 (SC h) _
theorem Kf{x y n m:Nat}(b:x<2^n)(a:y<=2^m):x*y<2^(n+m):=by rw[On];exact GE (Ee _ a) (Xz b (SF (by decide)))
end Num
namespace Sub
abbrev Ix:=Bool×Nat
abbrev Vc:=Ix->Int
noncomputable def ex(D:List Vc->Int)(r:Ix):List Vc->List Vc->Int
 |_,[]=>0
 |pre,c::post=>c r*D (pre++post) -ex D r (pre++[c]) post
noncomputable def det:List Ix->List Vc->Int
 |[],[]=>1
 |[],_::_=>0
 |r::a,cs=>ex (det a) r [] cs
noncomputable def Alt(D:List Vc->Int):Prop:=∀(p q:List Vc)(a b:Vc),D (p++a::b::q)= -D (p++b::a::q)
noncomputable def TN(D:List Vc->Int):Prop:=∀(p q:List Vc)(x y:Int)(a b:Vc),D (p++(λi=>x*a i+y*b i)::q)=x*D (p++a::q)+y*D (p++b::q)
theorem By{D:List Vc->Int}(h:Alt D)(r:Ix):∀(d p q:List Vc)(a b:Vc),ex D r (p++a::b::q) d= -ex D r (p++b::a::q) d
 |[],_,_,_,_=>rfl
 |c::d,p,q,a,b=>by have ih:=By h r d p (q++[c]) a b;have e:=h p (q++d) a b;simp only[ex,Pm,G2]at ih e⊢;rw[e,ih];grind
theorem BA{D:List Vc->Int}(h:Alt D)(r:Ix):∀(p d q:List Vc)(a b:Vc),ex D r d (p++a::b::q)= -ex D r d (p++b::a::q)
 |[],d,q,a,b=>by have e:=By h r q d [] a b;simp only[ex,EY,Pm,G2]at e⊢;rw[e];grind
 |c::p,d,q,a,b=>by have f:=BA h r p (d++[c]) q a b;have e:=h (d++p) q a b;simp only[ex,G2,Pm]at f e⊢;rw[e,f];grind
theorem pV:∀c:List Ix,Alt (det c)
 |[]=>λp q a b=>by
  cases p<;>rfl
 |r::c=>λp q a b=>BA (pV c) r p [] q a b
theorem BB{D:List Vc->Int}(h:TN D)(r:Ix):∀(d p q:List Vc)(x y:Int)(a b:Vc),ex D r (p++(λi=>x*a i+y*b i)::q) d=x*ex D r (p++a::q) d+y*ex D r (p++b::q) d
 |[],_,_,_,_,_,_=>by simp[ex]
 |c::d,p,q,x,y,a,b=>by have ih:=BB h r d p (q++[c]) x y a b;have e:=h p (q++d) x y a b;simp only[ex,Pm,G2]at ih e⊢;rw[e,ih];grind
theorem BC{D:List Vc->Int}(h:TN D)(r:Ix):∀(p d q:List Vc)(x y:Int)(a b:Vc),ex D r d (p++(λi=>x*a i+y*b i)::q)=x*ex D r d (p++a::q)+y*ex D r d (p++b::q)
 |[],d,q,x,y,a,b=>by have e:=BB h r q d [] x y a b;simp only[ex,EY]at e⊢;rw[e];grind
 |c::p,d,q,x,y,a,b=>by have f:=BC h r p (d++[c]) q x y a b;have e:=h (d++p) q x y a b;simp only[ex,G2,Pm]at f e⊢;rw[e,f];grind
theorem vH:∀c:List Ix,TN (det c)
 |[]=>λp q x y a b=>by
  cases p<;>simp[det]
 |r::c=>λp q x y a b=>BC (vH c) r p [] q x y a b
theorem BD{D:List Vc->Int}{r:Ix}:∀(a b:List Vc),(∀c∈a,c r=0)->ex D r b a=0
 |[],_,_=>rfl
 |c::a,b,h=>by rw[ex,h c Dx,BD a _ λd e=>h d (DL _ e)];simp
theorem uI{r:Ix}{a:List Ix}{c:Vc}{cs:List Vc}(h:∀d∈cs,d r=0):det (r::a) (c::cs)=c r*det a cs:=by rw[det,ex,BD cs _ h,EY,xi]
theorem yd{D:List Vc->Int}(h:Alt D):∀(u p v:List Vc)(a:Vc),D (p++a::(u++a::v))=0
 |[],p,v,a=>by have:=h p v a a;simp only[EY]at this⊢;lia
 |c::u,p,v,a=>by have e:=h p (u++a::v) a c;have b:=yd h u (p++[c]) v a;simp only[Pm,G2,EY]at b e⊢;rw[e,b];rfl
theorem Kg{D:List Vc->Int}(h:Alt D)(c:TN D){p q:List Vc}{a b:Vc}(x y:Int)(d:b∈q):D (p++(λi=>x*a i+y*b i)::q)=x*D (p++a::q):=by obtain⟨u,v,rfl⟩:=List.append_of_mem d;rw[c,yd h u p v b,Q1,ky]
def sg(n:Nat):Int:=(-1)^n
theorem ye{D:List Vc->Int}(h:Alt D):∀(u p q:List Vc)(a:Vc),D (p++a::(u++q))=sg u.length*D (p++(u++a::q))
 |[],p,q,a=>by simp[sg]
 |c::u,p,q,a=>by have e:=h p (u++q) a c;have b:=ye h u (p++[c]) q a;simp only[Pm,G2,EY,A3]at b e⊢;rw[e,b];unfold sg;rw[Pt];grind
theorem yf{D:List Vc->Int}(h:Alt D):∀(w p u q:List Vc),D (p++(w++(u++q)))=sg (u.length*w.length)*D (p++(u++(w++q)))
 |[],p,u,q=>by simp[sg]
 |a::w,p,u,q=>by have ih:=yf h w (p++[a]) u q;have e:=ye h u p (w++q) a;simp only[Pm,G2,EY,A3]at ih e⊢;rw[ih,e];unfold sg;rw[Uj,oI];grind
def sh(j:Nat)(P:Vc):Vc:=λi=>if j<=i.2 then P (i.1,i.2 -j)else 0
def kq(P:Vc):Nat->List Vc
 |0=>[]
 |n+1=>sh n P::kq P n
def rws:Nat->Nat->List Ix
 |_,0=>[]
 |0,_+1=>[]
 |E+1,c+1=>(false,E)::rws E c
theorem yg(E:Nat):rws E 0=[]:=by cases E<;>rfl
theorem Kh(P:Vc):sh 0 P=P:=by funext i;unfold sh;rw[Bi (Iy _)];rfl
theorem Vq(j s:Nat)(P:Vc):sh j (sh s P)=sh (s+j) P:=by
 funext i;unfold sh;by_cases h:j<=i.2
 .rw[Bi h];by_cases a:s+j<=i.2
  .rw[Bi a,Bi (by show s<=i.2 -j;lia)];show P (i.1,i.2 -j -s)=P (i.1,i.2 -(s+j));congr 2;lia
  .rw[BM a,BM (by show¬s<=i.2 -j;lia)]
 .rw[BM h,BM (by lia)]
theorem jT(P:Vc):∀n,(kq P n).length=n
 |0=>rfl
 |n+1=>by rw[kq,A3,jT P n]
theorem BE{P:Vc}:∀{n i:Nat},i<n->sh i P∈kq P n
 |n+1,i,h=>by
  rw[kq];by_cases e:i=n
  .rw[e];exact Dx
  .exact DL _ (BE (by lia))
theorem kN{P:Vc}:∀{n:Nat}{d:Vc},d∈kq P n->∃i,i<n/\d=sh i P
 |n+1,d,h=>by
  rw[kq]at h;rcases Fh.mp h with h|h
  .exact⟨n,by lia,h⟩
  .obtain⟨i,hi,e⟩:=kN h;exact⟨i,by lia,e⟩
theorem Pk{B:Vc}{n:Nat}{l:Int}(a:B (false,n)=l)(hz:∀t,n<t->B (false,t)=0){cs:List Vc}{b c:Nat}{tl:List Ix}(f:∀d∈cs,∀t,n+b<=t->d (false,t)=0):
 ∀s,det (rws (n+b+s) (c+s)++tl) (kq B (b+s)++cs)=l^s*det (rws (n+b) c++tl) (kq B b++cs)
 |0=>by simp
 |s+1=>by
  show det ((false,n+b+s)::(rws (n+b+s) (c+s)++tl)) (sh (b+s) B::(kq B (b+s)++cs))=_;rw[uI,Pk a hz f s]
  .have e:sh (b+s) B (false,n+b+s)=l:=by unfold sh;rw[Bi (by show b+s<=n+b+s;lia),<-a];show B (false,n+b+s -(b+s))=_;congr 2;lia
   rw[e,Pt];grind
  .intro d g;rcases Ha.mp g with h|h
   .obtain⟨i,j,rfl⟩:=kN h;unfold sh;split
    .exact hz _ (by show n<n+b+s -i;lia)
    .rfl
   .exact f d h _ (by lia)
noncomputable def comb(c:Int)(a:Vc):List (Int×Vc)->Vc
 |[]=>λi=>c*a i+0*a i
 |z::L=>λi=>1*comb c a L i+z.1*z.2 i
theorem yh{D:List Vc->Int}(h:Alt D)(b:TN D){p q:List Vc}{c:Int}{a:Vc}:∀{L:List (Int×Vc)},(∀z∈L,z.2∈q)->D (p++comb c a L::q)=c*D (p++a::q)
 |[],_=>by rw[comb,b];grind
 |z::L,d=>by rw[comb,Kg h b _ _ (d z Dx),yh h b λy e=>d y (DL _ e),rp]
theorem BF(j:Nat)(c:Int)(a:Vc):∀L:List (Int×Vc),sh j (comb c a L)=comb c (sh j a) (L.map λz=>(z.1,sh j z.2))
 |[]=>by funext i;show sh j (comb c a []) i=c*sh j a i+0*sh j a i;unfold sh comb;split<;>simp
 |z::L=>by
  funext i;have ih:=congrFun (BF j c a L) i;show sh j (comb c a (z::L)) i=1*comb c (sh j a) (L.map λz=>(z.1,sh j z.2)) i+z.1*sh j z.2 i;rw[<-ih];unfold sh;split
  .rfl
  .simp
theorem qR{D:List Vc->Int}(h:Alt D)(d:TN D){q:List Vc}{c:Int}{A:Vc}{L:List (Int×Vc)}:∀(a:Nat)(p:List Vc),(∀z∈L,∀j,j<a->sh j z.2∈q)->D (p++(kq (comb c A L) a++q))=c^a*D (p++(kq A a++q))
 |0,p,_=>by simp[kq]
 |a+1,p,b=>by
  have ih:=qR h d (c:=c) (A:=A) a (p++[sh a A]) λz hz j f=>b z hz j (by lia);rw[kq,kq,G2,BF,yh h d (λz hz=>?_)]
  .simp only[Pm,G2,EY]at ih⊢;rw[ih,Pt];grind
  .obtain⟨y,e,rfl⟩:=Hb.mp hz;exact IH _ (b y e a (by lia))
noncomputable def SS(E:Nat)(A B:Vc)(a b:Nat)(c:Ix):Int:=det (rws E (a+b -1)++[c]) (kq A a++kq B b)
noncomputable def less(c:Int)(A B:Vc)(L:List (Int×Nat)):Vc:=comb c A (L.map λz=>(z.1,sh z.2 B))
theorem BG{E:Nat}{A B:Vc}{c:Int}{L:List (Int×Nat)}{a b:Nat}(h:∀z∈L,z.2+a<=b)(d:Ix):SS E (less c A B L) B a b d=c^a*SS E A B a b d:=by
 unfold SS less;have e:=qR (pV (rws E (a+b -1)++[d])) (vH _) (q:=kq B b) (c:=c) (A:=A) (L:=L.map λz=>(z.1,sh z.2 B)) a [] λz hz j g=>by obtain⟨y,f,rfl⟩:=Hb.mp hz;rw[Vq];have:=h y f;exact BE (by lia)
 simp only[EY]at e;exact e
theorem FP{E:Nat}{B R P:Vc}{c:Int}(h:∀i,R i=c*P i)(b a:Nat)(d:Ix):SS E B R b a d=c^a*SS E B P b a d:=by
 have f:R=comb c P []:=funext λi=>by rw[h i];show _=c*P i+0*P i;simp
 unfold SS;have e:=qR (pV (rws E (b+a -1)++[d])) (vH _) (q:=[]) (c:=c) (A:=P) (L:=[]) a (kq B b) λz hz=>nomatch hz;simp only[X9]at e;rw[f,e]
theorem BH{B R:Vc}{n:Nat}{l:Int}(f:B (false,n)=l)(hz:∀t,n<t->B (false,t)=0){z a b s:Nat}(h:∀t,z<=t->R (false,t)=0)(o:1<=a)(m:z+a<=n+b+1)(c:Ix):
 SS (n+b+s) R B a (b+s) c=sg ((b+s)*a)*(l^s*SS (n+b) B R b a c):=by
 unfold SS;have e:=yf (pV (rws (n+b+s) (a+(b+s) -1)++[c])) (kq R a) [] (kq B (b+s)) [];simp only[EY,X9,jT]at e;rw[e];congr 1;rw[show a+(b+s) -1=b+a -1+s by lia];refine Pk f hz (λd g t j=>?_) s;obtain⟨i,k,rfl⟩:=kN g;unfold sh;split
 .exact h _ (by show z<=t -i;lia)
 .rfl
theorem FQ(E:Nat)(B R:Vc)(a:Ix):SS E B R 0 1 a=R a:=by unfold SS;show det (rws E 0++[a]) (sh 0 R::[])=_;rw[yg,EY,Kh,uI (cs:=[]) (by intro d b;cases b)];show R a*1=R a;rw[fI]
theorem BJ{A B:Vc}{n:Nat}{l:Int}(f:B (false,n)=l)(hz:∀t,n<t->B (false,t)=0)(s:Nat)(a:Ix):SS (n+1+s) A B 0 (1+s) a=l^s*B a:=by unfold SS;rw[show 0+(1+s) -1=0+s by lia];have e:=Pk f hz (cs:=[]) (b:=1) (c:=0) (tl:=[a]) (λd g=>nomatch g) s;simp only[X9]at e;show det (rws (n+1+s) (0+s)++[a]) ([]++kq B (1+s))=_;rw[EY,e];congr 1;exact FQ (n+1) A B a
def FT(ε:Int):Prop:=ε=1\/ε= -1
theorem FT.sq{ε:Int}(h:FT ε):ε*ε=1:=by rcases h with rfl|rfl<;>rfl
theorem FT.mul{a b:Int}(h:FT a)(c:FT b):FT (a*b):=by rcases h with rfl|rfl<;>rcases c with rfl|rfl<;>first|exact .inl rfl|exact .inr rfl
theorem qS:∀n,FT (sg n)
 |0=>.inl rfl
 |n+1=>by have:=qS n;unfold sg at this⊢;rw[Pt];exact this.mul (.inr rfl)
theorem c7{x:Int}(h:x≠0):∀n:Nat,x^n≠0
 |0=>by rw[UV];decide
 |n+1=>by rw[Pt];exact Hk (c7 h n) h
theorem FU(x y:Int):∀n:Nat,(x*y)^n=x^n*y^n
 |0=>by rw[UV,UV,UV];rfl
 |n+1=>by rw[Pt,Pt,Pt,FU x y n];generalize x^n=a;generalize y^n=b;grind
theorem FW(x:Int)(m:Nat):∀n:Nat,(x^m)^n=x^(m*n)
 |0=>by rw[ZM,UV,UV]
 |n+1=>by rw[Pt,FW x m n,Uj,oI]
theorem FY{l h h':Int}{b:Nat}(e:h'*h^b=l^b*h):∀a:Nat,(l^(b+1))^(a+1)*h^(b+a)=l^(b+(a+1))*h^(b*(a+1))*h'^a
 |0=>by rw[i5,b6,UV,fI,X8];simp
 |a+1=>by
  have ih:=FY e a;have d:(l^(b+1))^(a+1+1)*h^(b+(a+1))=((l^(b+1))^(a+1)*h^(b+a))*(l*(l^b*h)):=by rw[Pt (l^(b+1)) (a+1),<-wb b a 1,Pt h (b+a),Pt l b];generalize(l^b*l)^(a+1)=x;generalize h^(b+a)=y;generalize l^b=z;grind
  have c:l^(b+(a+1+1))*h^(b*(a+1+1))*h'^(a+1)=(l^(b+(a+1))*h^(b*(a+1))*h'^a)*(l*(h'*h^b)):=by rw[<-wb b (a+1) 1,Pt l (b+(a+1)),Uj b (a+1),oI h (b*(a+1)) b,Pt h' a];generalize l^(b+(a+1))=x;generalize h^(b*(a+1))=y;generalize h^b=z;generalize h'^a=u;grind
  rw[d,c,ih,e]
structure Ch(A B:Vc)(m n:Nat)(P Q:Vc)(p q:Nat)(lp lq h:Int):Prop where
 hpq:q<=p
 YZ:lp≠0
 h0:h≠0
 DJ:lq≠0
 lead:Q (false,q)=lq
 zero:∀t,q<t->Q (false,t)=0
 inv:∀k,k<=q->k<p->∃ε:Int,FT ε/\∀ρ,SS (p+q -k) P Q (q -k) (p -k) ρ=ε*(lp^(q -k)*h^(p -k -1))*SS (m+n -k) A B (n -k) (m -k) ρ
theorem Ch.start{A B:Vc}{m n:Nat}{l:Int}(h:n<=m)(b:B (false,n)=l)(a:l≠0)(hz:∀t,n<t->B (false,t)=0):Ch A B m n A B m n 1 l 1:=
 ⟨h,by decide,by decide,a,b,hz,λk _ _=>⟨1,.inl rfl,λc=>by rw[fi,fi];simp⟩⟩
theorem Ch.rest{A B P Q:Vc}{m n p q:Nat}{f e h:Int}(H:Ch A B m n P Q p q f e h)(x:1<=q){L:List (Int×Nat)}(o:∀z∈L,z.2<=p -q)(l:∀t,q<=t->less (e^(p -q+1)) P Q L (false,t)=0):
 ∃ε:Int,FT ε/\∀d,less (e^(p -q+1)) P Q L d=ε*(f*h^(p -q))*SS (m+n -(q -1)) A B (n -(q -1)) (m -(q -1)) d:=by
 have hpq:=H.hpq;obtain⟨ε,w,inv⟩:=H.inv (q -1) (by lia) (by lia);refine⟨sg (p -q+1)*ε,(qS _).mul w,λd=>?_⟩;have j:=inv d;rw[show p+q -(q -1)=q+0+(p -q+1) by lia,show q -(q -1)=1 by lia,show p -(q -1)=0+(p -q+1) by lia,show 0+(p -q+1) -1=p -q by lia,b6]at j;have u:=BG (E:=q+0+(p -q+1)) (A:=P) (B:=Q) (c:=e^(p -q+1)) (L:=L) (a:=1) (b:=0+(p -q+1)) (λz hz=>by have:=o z hz;lia) d;have i:=BH H.lead H.zero (z:=q) (a:=1) (b:=0) (s:=p -q+1) l (D2 _) (by lia) d;rw[u,FQ,b6,show(0+(p -q+1))*1=p -q+1 by lia,j]at i;have v:=c7 H.DJ (p -q+1);have k:=(qS (p -q+1)).sq;generalize e^(p -q+1)=c at*;generalize less c P Q L d=R at*;generalize sg (p -q+1)=s at*;generalize h^(p -q)=g at*;generalize SS (m+n -(q -1)) A B (n -(q -1)) (m -(q -1)) d=S at*;have r:c*R=c*(s*ε*(f*g)*S):=by
  have:c*(s*ε*(f*g)*S)=s*(c*(ε*(f*g)*S)):=by grind
  rw[this,i];have:s*(s*(c*R))=s*s*(c*R):=by grind
  rw[this,k,rp]
 exact QR v r
theorem Ch.step{A B P Q j:Vc}{m n p q r:Nat}{g d o h h':Int}(H:Ch A B m n P Q p q g d h){L:List (Int×Nat)}(T:∀z∈L,z.2<=p -q)(I:∀e,less (d^(p -q+1)) P Q L e=(g*h^(p -q))*j e)(N:r<q)(O:j (false,r)=o)(M:o≠0)(hz:∀t,r<t->j (false,t)=0)
 (D:h'*h^(p -q)=d^(p -q)*h):Ch A B m n Q j q r d o h':=by
 have hpq:=H.hpq;have F:h'≠0:=λz=>by rw[z,dt]at D;exact Hk (c7 H.DJ _) H.h0 D.symm
 refine⟨by lia,H.DJ,F,M,O,hz,λk C f=>?_⟩;obtain⟨l,Pn,inv⟩:=H.inv k (by lia) (by lia);refine⟨sg ((p -k)*(q -k))*l,(qS _).mul Pn,λe=>?_⟩;have e0:=inv e;have e1:=BG (E:=p+q -k) (A:=P) (B:=Q) (c:=d^(p -q+1)) (L:=L) (a:=q -k) (b:=p -k) (λz hz=>by have:=T z hz;lia) e;have G:=BH (R:=less (d^(p -q+1)) P Q L) H.lead H.zero (z:=r+1) (a:=q -k) (b:=r -k) (s:=p -r) (λt ht=>by rw[I,hz t (by lia),Q1]) (by lia) (by lia) e;rw[FP I,show q+(r -k)+(p -r)=p+q -k by lia,show r -k+(p -r)=p -k by lia,e1,e0,show q+(r -k)=q+r -k by lia]at G;have i:=FY D (q -k -1);have K:=(qS ((p -k)*(q -k))).sq;have ck:(g*h^(p -q))^(q -k)=g^(q -k)*h^((p -q)*(q -k)):=by rw[FU,FW]
 have J:d^(p -r)*(g*h^(p -q))^(q -k)≠0:=Hk (c7 H.DJ _) (c7 (Hk H.YZ (c7 H.h0 _)) _);refine QR J ?_;rw[Nat.sub_add_cancel (vT f),show p -q+(q -k -1)=p -k -1 by rw[a6,xa hpq f,a6],show p -q+(q -k)=(p -r)+(r -k) by rw[xa hpq (SC f),xa (Bz (SC N) hpq) C],oI d (p -r) (r -k)]at i;rw[ck]at G⊢;generalize SS (q+r -k) Q j (r -k) (q -k) e=X at*;generalize SS (m+n -k) A B (n -k) (m -k) e=S at*;generalize sg ((p -k)*(q -k))=s at*;generalize(d^(p -q+1))^(q -k)=c at*;generalize g^(q -k)=u at*;generalize h^(p -k -1)=v at*;generalize d^(p -r)=x at*;generalize h^((p -q)*(q -k))=y at*;generalize d^(r -k)=z at*;generalize h'^(q -k -1)=w at*;have Z:x*(u*y)*X=s*s*(x*(u*y)*X):=by rw[K,rp]
 have Y:s*s*(x*(u*y)*X)=s*(s*(x*(u*y*X))):=by grind
 rw[Z,Y,<-G];have U:s*(c*(l*(u*v)*S))=s*l*u*S*(c*v):=by grind
 rw[U,i];grind
end Sub
namespace Sub
open Num
theorem Nn{D:List Vc->Int}{r:Ix}{M b:Nat}:∀(a e:List Vc),(∀c∈a,(c r).natAbs<=M)->(∀u,(∀c∈u,c∈e\/c∈a)->u.length+1=e.length+a.length->(D u).natAbs<=b)->(ex D r e a).natAbs<=a.length*(M*b)
 |[],_,_,_=>by simp[ex]
 |c::a,e,h,g=>by
  rw[ex];have h1:=h c Dx;have k:=g (e++a) (λd f=>by
   rcases Ha.mp f with z|z
   .exact .inl z
   .exact .inr (DL _ z)) (by simp only[GM,A3];lia)
  have l:=Nn (D:=D) (r:=r) (M:=M) (b:=b) a (e++[c]) (λd f=>h d (DL _ f)) (λu i j=>g u (λd f=>by
   rcases i d f with z|z
   .rcases Ha.mp z with y|y
    .exact .inl y
    .rw[Do]at y;rw[y];exact .inr Dx
   .exact .inr (DL _ z)) (by simp only[GM,A3,M5]at j⊢;lia))
  have o:(c r*D (e++a)).natAbs<=M*b:=by rw[FK];exact Kx h1 k
  have n:(c r*D (e++a) -ex D r (e++[c]) a).natAbs<=(c r*D (e++a)).natAbs+(ex D r (e++[c]) a).natAbs:=by omega
  have m:(c::a).length*(M*b)=a.length*(M*b)+M*b:=by rw[A3,tf]
  omega
theorem FZ{N M:Nat}:∀(a:List Ix)(cs:List Vc),cs.length<=N->(∀c∈cs,∀i,(c i).natAbs<=M)->(det a cs).natAbs<=(N*M)^a.length
 |[],[],_,_=>by simp[det]
 |[],_::_,_,_=>by simp[det]
 |r::a,cs,h,f=>by
  rw[det];have:=Nn (D:=det a) (r:=r) (M:=M) (b:=(N*M)^a.length) cs [] (λc e=>f c e r) (λu g d=>FZ a u (by simp only[M5]at d;lia) λc e=>by
   rcases g c e with z|z
   .cases z
   .exact f c z)
  refine Bz this ?_;rw[A3,GS];have k:cs.length*(M*(N*M)^a.length)<=N*(M*(N*M)^a.length):=Os _ h;have j:N*(M*(N*M)^a.length)=(N*M)^a.length*(N*M):=by generalize(N*M)^a.length=x;grind
  lia
theorem vI:∀(c E:Nat),(rws E c).length<=c
 |0,E=>by rw[yg];exact D2 _
 |c+1,0=>Iy _
 |c+1,E+1=>by show(rws E c).length+1<=c+1;have:=vI c E;lia
theorem F3{P:Vc}{M:Nat}(h:∀i,(P i).natAbs<=M)(j:Nat)(i:Ix):(sh j P i).natAbs<=M:=by
 unfold sh;split
 .exact h _
 .exact Iy _
theorem Vr{A B:Vc}{N M a b:Nat}(l:∀i,(A i).natAbs<=M)(k:∀i,(B i).natAbs<=M)(g:a+b<=N)(m:1<=a+b)(f:1<=N*M)(E:Nat)(d:Ix):(SS E A B a b d).natAbs<=(N*M)^(a+b):=by
 unfold SS;have:=FZ (N:=N) (M:=M) (rws E (a+b -1)++[d]) (kq A a++kq B b) (by rw[GM,jT,jT];exact g) (λc e i=>by
  rcases Ha.mp e with h|h
  .obtain⟨j,_,rfl⟩:=kN h;exact F3 l j i
  .obtain⟨j,_,rfl⟩:=kN h;exact F3 k j i)
 refine Bz this (FM f ?_);have:=vI (a+b -1) E;rw[GM];show _+1<=_;omega
theorem FT.abs{ε x:Int}(h:FT ε):(ε*x).natAbs=x.natAbs:=by rcases h with rfl|rfl<;>lia
theorem Ch.Kl{A B P Q:Vc}{m n p q:Nat}{e a h:Int}(H:Ch A B m n P Q p q e a h)(f:q<p):∃S:Int,a^(p -q)=h^(p -q -1)*S/\S.natAbs=(SS (m+n -q) A B (n -q) (m -q) (false,q)).natAbs:=by
 obtain⟨c,j,inv⟩:=H.inv q (D2 _) f;obtain⟨d,k⟩:∃d,p=q+1+d:=⟨p -q -1,by lia⟩;have b:=inv (false,q);have i:=BJ (A:=P) H.lead H.zero d (false,q);rw[show p+q -q=q+1+d by lia,show q -q=0 by lia,show p -q=1+d by lia,i,H.lead,show 1+d -1=d by lia,UV,rp]at b;have g:a^(p -q)=a^d*a:=by rw[<-Pt];congr 1;lia
 refine⟨c*SS (m+n -q) A B (n -q) (m -q) (false,q),?_,j.abs⟩;rw[g,b,show p -q -1=d by lia];generalize SS (m+n -q) A B (n -q) (m -q) (false,q)=S;generalize h^d=x;grind
def vc(r f:List Int):Vc:=λi=>if i.1 then f.getD i.2 0 else r.getD i.2 0
def tG(a:List Int):Nat->List (Int×Nat)
 |0=>[]
 |n+1=>(-(a.getD n 0),n)::tG a n
theorem BK{a:List Int}:∀{n:Nat}{z:Int×Nat},z∈tG a n->z.2<n
 |n+1,z,h=>by
  rcases Fh.mp h with rfl|h
  .exact Pl n
  .exact eJ (BK h)
theorem BL(c:Int)(A B:Vc)(a:List Int)(i:Ix):∀n,less c A B (tG a n) i=c*A i -sm (λj=>a.getD j 0*(if j<=i.2 then B (i.1,i.2 -j)else 0)) n
 |0=>by show c*A i+0*A i=c*A i -0;simp
 |n+1=>by
  have ih:=BL c A B a i n;show 1*less c A B (tG a n) i+ -(a.getD n 0)*sh n B i=_;rw[ih,sm];have e:sh n B i=if n<=i.2 then B (i.1,i.2 -n)else 0:=rfl
  rw[e];generalize(if n<=i.2 then B (i.1,i.2 -n)else 0)=x;generalize sm _ n=y;generalize a.getD n 0=z;grind
theorem Kn(c:Int)(P e Q d a:List Int)(b:Bool)(t:Nat):less c (vc P e) (vc Q d) (tG a a.length) (b,t)=c*(if b then e else P).getD t 0 -cf a (if b then d else Q) a.length t:=by
 rw[BL,x9];cases b
 .rfl
 .rfl
end Sub
namespace Num
theorem Ko{f g:Nat->Rat}(h:∀i,1<=i->f i=0)(k:Nat):aF f g k=f 0*g k:=by unfold aF;rw[qQ (m:=1) (k+1) (by lia) λi a _=>by rw[h i a,dC]];show 0+f 0*g (k -0)=_;rw[M1,tJ]
end Num
namespace Sub
open Num
structure CS(ns ms f0 g0:List Int)(w E b1:Nat)(P Q fP fQ:List Int)(ld h:Int):Prop where
 ch:Ch (vc ns f0) (vc ms g0) (ns.length -1) (ms.length -1) (vc P fP) (vc Q fQ) (P.length -1) (Q.length -1) ld (Q.getD (Q.length -1) 0) h
 lq:0<Q.length
 Ew:Q.length<=P.length
 lp:P.length<=ns.length
 F4:Q.length<=ms.length
 lf:fP.length+Q.length<=b1
 Y3:fQ=[]\/fQ.length+P.length<=b1
 bP:∀i,(vc P fP i).natAbs<=2^(w*(ns.length -1+(ms.length -1)+1))
 bQ:∀i,(vc Q fQ i).natAbs<=2^(w*(ns.length -1+(ms.length -1)+1))
 bl:ld.natAbs<=2^(w*(ns.length -1+(ms.length -1)+1))
 bh:h.natAbs<=2^(w*(ns.length -1+(ms.length -1) -2*(P.length -1)))
structure FX(ns ms f0 g0:List Int)(w E:Nat):Prop where
 l1:ms.length<=ns.length
 l2:ns.length<=50
 M:∃M:Nat,(∀i,(vc ns f0 i).natAbs<=M)/\(∀i,(vc ms g0 i).natAbs<=M)/\1<=M/\(ns.length -1+(ms.length -1)+1)*M<=2^w
 E1:∀p,(ns.length -1+(ms.length -1) -2*p)*p+(ns.length -1+(ms.length -1)+1)<=E
theorem jU(x:Int):∀n:Nat,(x^n).natAbs=x.natAbs^n
 |0=>by simp
 |n+1=>by rw[Pt,FK,jU x n,GS]
theorem Kp{a b k:Nat}(f:k<=b)(e:k<=a):b -k+(a -k)=a+b -2*k:=by obtain⟨c,rfl⟩:=Yn f;obtain⟨d,rfl⟩:=Yn e;rw[bj,bj,show k+d+(k+c)=c+d+2*k by lia,HI]
theorem Vs{ns a g f:List Int}{w E:Nat}(F:FX ns a g f w E){k:Nat}(d:k<=a.length -1)(o:1<=(a.length -1 -k)+(ns.length -1 -k))(e:Nat)(c:Ix):
 (SS e (vc ns g) (vc a f) (a.length -1 -k) (ns.length -1 -k) c).natAbs<=2^(w*(ns.length -1+(a.length -1) -2*k)):=by
 obtain⟨M,l,j,i,h⟩:=F.M;have l1:=F.l1;have n:1<=(ns.length -1+(a.length -1)+1)*M:=Kx (show 1<=ns.length -1+(a.length -1)+1 by lia) i;have m:=Bz d (rf l1 1);have b:=Vr (N:=ns.length -1+(a.length -1)+1) l j (vi (by rw[mM];exact u3 (xI _ _) (xI _ _))) o n e c;refine Bz b ?_;rw[ke,Kp d m];exact Y1 h _
theorem getD_mem'{ns:List Int}{k:Nat}(h:k<ns.length):ns.getD k 0∈ns:=by rw[AC,B1 h];exact T2 h
theorem mem_getD{ns:List Int}{x:Int}(h:x∈ns):∃k,k<ns.length/\ns.getD k 0=x:=by obtain⟨i,a,e⟩:=Sr h;exact⟨i,a,by rw[AC,B1 a,<-e];rfl⟩
theorem map_getD{ns:List Int}{f:Int->Int}(a:f 0=0)(k:Nat):(ns.map f).getD k 0=f (ns.getD k 0):=by
 rw[AC,Da,AC];cases ns[k]? with
 |none=>exact a.symm
 |some z=>rfl
def hnext(h l:Int)(a:Nat):Int:=if a=0 then h else(l^a).fdiv (h^(a -1))
theorem CS.step{ns g D B P Q q o i R F:List Int}{w E b1:Nat}{d h c:Int}(X:FX ns g D B w E)(C:CS ns g D B w E b1 P Q q o d h)(G:2<=Q.length)(hc:c=Q.getD (Q.length -1) 0^(P.length -Q.length+1))(TQ:i.length=P.length -Q.length+1)
 (hR:∀k,R.getD k 0=c*P.getD k 0 -cf i Q i.length k)(lR:R.length<Q.length)(zR:R=[]\/R.getD (R.length -1) 0≠0)(hF:∀k,F.getD k 0=c*q.getD k 0 -cf i o i.length k)(u:F.length<=max q.length (i.length+o.length -1))(K:o=[]->F.length<=q.length):
 d*h^(P.length -Q.length)≠0/\(d*h^(P.length -Q.length)).natAbs<=2^(w*E)/\(∀x∈R,d*h^(P.length -Q.length)∣x)/\(∀x∈F,d*h^(P.length -Q.length)∣x)/\(0<P.length -Q.length->h^(P.length -Q.length -1)≠0/\(h^(P.length -Q.length -1)).natAbs<=2^(w*E))/\
 (∀j,(vc (R.map λx=>x.fdiv (d*h^(P.length -Q.length))) (F.map λx=>x.fdiv (d*h^(P.length -Q.length))) j).natAbs<=2^(w*(ns.length -1+(g.length -1)+1)))/\
 (R≠[]->CS ns g D B w E b1 Q (R.map λx=>x.fdiv (d*h^(P.length -Q.length))) o (F.map λx=>x.fdiv (d*h^(P.length -Q.length))) (Q.getD (Q.length -1) 0) (hnext h (Q.getD (Q.length -1) 0) (P.length -Q.length))):=by
 have ch:=C.ch;have Ew:=C.Ew;have lp:=C.lp;have l1:=X.l1;have lf:=C.lf;have F4:=C.F4;obtain⟨a,r⟩:∃a,P.length -Q.length=a:=⟨_,rfl⟩;have l:P.length -1 -(Q.length -1)=a:=by rw[a6,Nat.add_sub_cancel' (SC G)];exact r
 have hL:∀z∈tG i i.length,z.2<=P.length -1 -(Q.length -1):=λz hz=>by have:=BK hz;lia
 have O:∀(b:Bool)(t:Nat),less c (vc P q) (vc Q o) (tG i i.length) (b,t)=(if b then F else R).getD t 0:=λb t=>by
  rw[Kn];cases b
  .exact(hR t).symm
  .exact(hF t).symm
 have DJ:=ch.DJ;generalize A:Q.getD (Q.length -1) 0=I at*;have m:I^(P.length -1 -(Q.length -1)+1)=c:=by rw[hc,l,r]
 have U:d*h^a≠0:=Hk ch.YZ (c7 ch.h0 _);obtain⟨Y,Pn,rest⟩:=ch.rest (L:=tG i i.length) (by lia) hL (λt ht=>by rw[m,O];exact outI (by show R.length<=t;lia));rw[m,l]at rest;have bk:(d*h^a).natAbs<=2^(w*E):=by
  rw[FK,jU];have n:=X.E1 (P.length -1);have H:h.natAbs^a<=2^(w*(ns.length -1+(g.length -1) -2*(P.length -1))*a):=by rw[ke];exact Y1 C.bh a
  refine Bz (Kx C.bl H) ?_;rw[<-On];refine FM (by decide) ?_;rw[ik,<-xn];refine Ee _ ?_;have:(ns.length -1+(g.length -1) -2*(P.length -1))*a<=(ns.length -1+(g.length -1) -2*(P.length -1))*(P.length -1):=Ee _ (by lia);lia
 have dv:∀(b:Bool)(t:Nat),(d*h^a)∣(if b then F else R).getD t 0:=λb t=>by rw[<-O,rest];exact⟨Y*SS (ns.length -1+(g.length -1) -(Q.length -1 -1)) (vc ns D) (vc g B) (g.length -1 -(Q.length -1 -1)) (ns.length -1 -(Q.length -1 -1)) (b,t),by grind⟩
 have dR:∀x∈R,d*h^a∣x:=λx M=>by obtain⟨k,_,rfl⟩:=mem_getD M;exact dv false k
 have dF:∀x∈F,d*h^a∣x:=λx M=>by obtain⟨k,_,rfl⟩:=mem_getD M;exact dv true k
 have fd:∀(b:Bool)(t:Nat),((if b then F else R).map λx=>x.fdiv (d*h^a)).getD t 0*(d*h^a)=(if b then F else R).getD t 0:=λb t=>by rw[map_getD (f:=λx=>x.fdiv (d*h^a)) (Int.zero_fdiv _),oP (dv b t),tI (dv b t)]
 have Z:∀j,vc (R.map λx=>x.fdiv (d*h^a)) (F.map λx=>x.fdiv (d*h^a)) j*(d*h^a)=less c (vc P q) (vc Q o) (tG i i.length) j:=λj=>by obtain⟨b,t⟩:=j;rw[O,<-fd b t];cases b<;>rfl
 have vS:∀j,(vc (R.map λx=>x.fdiv (d*h^a)) (F.map λx=>x.fdiv (d*h^a)) j).natAbs<=2^(w*(ns.length -1+(g.length -1)+1)):=λj=>by
  have n:=Z j;rw[rest]at n;have T:vc (R.map λx=>x.fdiv (d*h^a)) (F.map λx=>x.fdiv (d*h^a)) j=Y*SS (ns.length -1+(g.length -1) -(Q.length -1 -1)) (vc ns D) (vc g B) (g.length -1 -(Q.length -1 -1)) (ns.length -1 -(Q.length -1 -1)) j:=by refine Int.eq_of_mul_eq_mul_right U ?_;rw[n];grind
  rw[T,Pn.abs];refine Bz (Vs X (Bz (xI _ _) (rf F4 1)) (Bz (vT (FS (gm (vT G) a8) (rf F4 1))) (XB _ _)) _ _) (FM (by decide) (Ee _ (vi (xI _ _))))
 rw[r];refine⟨U,bk,dR,dF,λp=>⟨c7 ch.h0 _,?_⟩,vS,λVt=>?_⟩
 .rw[jU];have n:=X.E1 (P.length -1);have H:h.natAbs^(a -1)<=2^(w*(ns.length -1+(g.length -1) -2*(P.length -1))*(a -1)):=by rw[ke];exact Y1 C.bh _
  refine Bz H (FM (by decide) ?_);rw[ik];refine Ee _ ?_;have:(ns.length -1+(g.length -1) -2*(P.length -1))*(a -1)<=(ns.length -1+(g.length -1) -2*(P.length -1))*(P.length -1):=Ee _ (by clear H n p bk U m DJ hc A l;lia);lia
 have F5:0<R.length:=He.mpr Vt;have zl:=zR.resolve_left Vt;have h2:∃S:Int,hnext h I a=S/\S*h^a=I^a*h/\S.natAbs<=2^(w*(ns.length -1+(g.length -1) -2*(Q.length -1))):=by
  by_cases p:a=0
  .refine⟨h,by unfold hnext;rw[Bi p],by rw[p,UV,UV,fI,rp],?_⟩;have:=C.bh;rw[dr (Nat.le_of_sub_eq_zero (r.trans p)) Ew]at this;exact this
  .have v:Q.length<P.length:=Nat.lt_of_sub_ne_zero (by rw[r];exact p);obtain⟨S,n,T⟩:=ch.Kl (a7 (SC G) v);rw[l]at n;have N:h^(a -1)≠0:=c7 ch.h0 _;refine⟨S,?_,?_,?_⟩
   .unfold hnext;rw[BM p,n,oP ⟨S,rfl⟩,my S N]
   .have e3:h^a=h^(a -1)*h:=by rw[<-Pt];congr 1;lia
    rw[n,e3];generalize h^(a -1)=x;grind
   .rw[T];exact Vs X (rf F4 1) (Bz (vT (a7 (SC G) (FS v lp))) (sk _ _)) _ _
 obtain⟨S,hS,hh,bS⟩:=h2;rw[hS];have s:(R.map λx=>x.fdiv (d*h^a)).length=R.length:=Ap _;have J:(F.map λx=>x.fdiv (d*h^a)).length=F.length:=Ap _;have ql:(R.map λx=>x.fdiv (d*h^a)).getD (R.length -1) 0≠0:=λz=>by have e:=fd false (R.length -1);simp only[Pv,if_false]at e;rw[z,dt]at e;exact zl e.symm
 refine⟨?_,by rw[s];exact F5,by rw[s];exact SC lR,Bz F4 l1,by rw[s];exact Bz (SC lR) F4,?_,?_,C.bQ,vS,?_,bS⟩
 .rw[s];refine ch.step (L:=tG i i.length) hL (λj=>?_) (by lia) rfl ql (λt ht=>?_) (by rw[l];exact hh)
  .rw[m,l,<-Z j,ar]
  .exact outI (by show(R.map λx=>x.fdiv (d*h^a)).length<=t;rw[s];lia)
 .rw[s];rcases C.Y3 with z|z
  .rw[z];show 0+_<=_;lia
  .lia
 .rw[J];rcases C.Y3 with z|z
  .right;exact Bz (rh (K z) _) lf
  .right;rw[TQ,r,tq,HI]at u;rw[(Nat.sub_eq_iff_eq_add Ew).mp r]at z;rcases ek q.length (a+o.length)with y|y
   .rw[Nat.max_eq_right y]at u;refine Bz (rh u _) (Bz (km ?_) z);rw[mM a,wb]
   .rw[Nat.max_eq_left y]at u;exact Bz (rh u _) lf
 .have:=C.bQ (false,Q.length -1);rw[<-A];exact this
end Sub
namespace Num
theorem DK{p x l:Int}(b:qM p)(a:0<l/\l<p)(h:p∣x*l):p∣x:=by have c:=tF b a.1 a.2;exact yb c (by rw[ar]at h;exact h)
theorem F6(f g:Nat->Int):∀n,sm f n -sm g n=sm (λi=>f i -g i) n
 |0=>rfl
 |n+1=>by rw[sm,sm,sm,<-F6 f g n];lia
theorem Kq(c:Int)(f h:Nat->Int)(k:Nat):lD (λi=>c*f i) h k=c*lD f h k:=by unfold lD;rw[<-vF];exact iJ _ λi _=>a9 ..
abbrev co(a:List Int):Nat->Int:=λi=>a.getD i 0
end Num
namespace Sub
open Num
theorem CS.size{ns a f e P Q l k:List Int}{w E n:Nat}{c h:Int}(X:FX ns a f e w E)(C:CS ns a f e w E n P Q l k c h)(g:2<=Q.length):
 c*h^(P.length -Q.length)≠0/\(c*h^(P.length -Q.length)).natAbs<=2^(w*E)/\(0<P.length -Q.length->h^(P.length -Q.length -1)≠0/\(h^(P.length -Q.length -1)).natAbs<=2^(w*E)):=by
 have ch:=C.ch;have m:=X.E1 (P.length -1);have Ew:=C.Ew;generalize o:P.length -Q.length=b at*;have d:∀j,j<=b->(h^j).natAbs<=2^(w*((ns.length -1+(a.length -1) -2*(P.length -1))*(P.length -1))):=λj p=>by
  rw[jU];have i:h.natAbs^j<=2^(w*(ns.length -1+(a.length -1) -2*(P.length -1))*j):=by rw[ke];exact Y1 C.bh j
  refine Bz i (FM (by decide) ?_);rw[ik];exact Ee _ (Ee _ (by lia))
 refine⟨Hk ch.YZ (c7 ch.h0 _),?_,λ_=>⟨c7 ch.h0 _,?_⟩⟩
 .rw[FK];refine Bz (Kx C.bl (d b (D2 _))) ?_;rw[<-On,<-xn];exact FM (by decide) (Ee _ (by lia))
 .exact Bz (d (b -1) (by clear o Ew m g;lia)) (FM (by decide) (Ee _ (by lia)))
theorem CS.start{ns a c b:List Int}{w E d:Nat}(X:FX ns a c b w E)(k:0<a.length)(f:a.getD (a.length -1) 0≠0)(m:c.length+a.length<=d)(l:b=[]\/b.length+ns.length<=d):CS ns a c b w E d ns a c b 1 1:=by
 obtain⟨M,j,h,n,g⟩:=X.M;have l1:=X.l1;have e:M<=2^(w*(ns.length -1+(a.length -1)+1)):=by refine Bz (Bz (xb M (show 0<ns.length -1+(a.length -1)+1 by omega)) g) (FM (by decide) ?_);exact Wp w (by omega)
 refine⟨Ch.start (by omega) rfl f (λt o=>outI (by omega)),k,l1,D2 _,D2 _,m,l,λi=>Bz (j i) e,λi=>Bz (h i) e,SF (by decide),SF (by decide)⟩
theorem CS.bd{ns b g f P Q d c:List Int}{w E i:Nat}{e h:Int}(C:CS ns b g f w E i P Q d c e h):(∀x∈P,x.natAbs<=2^(w*(ns.length -1+(b.length -1)+1)))/\(∀x∈Q,x.natAbs<=2^(w*(ns.length -1+(b.length -1)+1)))/\(∀x∈d,x.natAbs<=2^(w*(ns.length -1+(b.length -1)+1)))/\∀x∈c,x.natAbs<=2^(w*(ns.length -1+(b.length -1)+1)):=by
 refine⟨λx a=>?_,λx a=>?_,λx a=>?_,λx a=>?_⟩
 .obtain⟨k,_,rfl⟩:=mem_getD a;exact C.bP (false,k)
 .obtain⟨k,_,rfl⟩:=mem_getD a;exact C.bQ (false,k)
 .obtain⟨k,_,rfl⟩:=mem_getD a;exact C.bP (true,k)
 .obtain⟨k,_,rfl⟩:=mem_getD a;exact C.bQ (true,k)
end Sub
namespace Num
def Xv(t:Rat):Rat->List Rat->List Rat
 |r,[]=>[r]
 |r,s::a=>(r+t*s)::Xv t s a
noncomputable def hz(t:Int):List Int->List Int
 |[]=>[]
 |r::a=>(r+t*(hz t a).headD 0)::hz t a
def cs(l:List Int):List Rat:=l.map λx:Int=>((x:Int):Rat)
def sc(u b:Rat):List Rat->List Rat
 |[]=>[]
 |r::a=>r*u*b^a.length::sc u b a
def TU(N n:Nat)(r:Rat):Prop:=r.num.natAbs<2^N/\r.den<2^n
theorem Bd.dd{n:Nat}{a:Rat}(h:Bd n a):TU n n a:=h
def gz(t:Int)(M:List Int)(k:Nat):Int:=(hz t (M.drop k)).headD 0
end Num
namespace Num
open Sub
theorem F7{p x y:Int}(a:qM p)(h:p∣x*y):p∣x\/p∣y:=by
 have b:0<p:=by have:=a.1;lia
 by_cases c:y%p=0
 .exact .inr (wy c)
 .refine .inl (DK a (l:=y%p) ⟨?_,uj _ b⟩ ?_)
  .have:=XZ y (show p≠0 by lia);lia
  .have e:=Int.emod_add_mul_ediv y p;have d:x*(y%p)=x*y -p*(x*(y/p)):=by
    have:y%p=y -p*(y/p):=by lia
    rw[this];grind
   rw[d];exact bM h ⟨_,rfl⟩
end Num
namespace Num
theorem lY(f:Nat->Rat):∀n,dY f (n+1)=f 0+dY (λi=>f (i+1)) n
 |0=>by rw[dY,dY,dY];grind
 |n+1=>by rw[dY,lY f n,dY];grind
theorem vJ(c:Rat)(f:Nat->Rat):∀n,dY (λi=>c*f i) n=c*dY f n
 |0=>by rw[dY,dY];grind
 |n+1=>by rw[dY,vJ c f n,dY];grind
theorem vK(f g:Nat->Rat):∀n,dY (λi=>f i+g i) n=dY f n+dY g n
 |0=>by rw[dY,dY,dY];grind
 |n+1=>by rw[dY,vK f g n,dY,dY];grind
theorem BN:∀(n:Nat)(f:Nat->Rat),dY (λi=>f (n -i)) (n+1)=dY f (n+1)
 |0,f=>rfl
 |n+1,f=>by
  rw[lY,dN (g:=λi=>f (n -i)) (n+1) λi hi=>by show f (n+1 -(i+1))=f (n -i);rw[show n+1 -(i+1)=n -i by lia],BN n f,M1];have:dY f (n+1+1)=dY f (n+1)+f (n+1):=by rw[dY]
  rw[this];grind
theorem b9(f g:Nat->Rat)(k:Nat):aF f g k=aF g f k:=by unfold aF;rw[<-BN];refine dN _ λi a=>?_;show f (k -i)*g (k -(k -i))=g i*f (k -i);rw[show k -(k -i)=i by omega,Tz]
theorem bq{f f' g g':Nat->Rat}(b:∀i,f i=f' i)(a:∀i,g i=g' i)(k:Nat):aF f g k=aF f' g' k:=by rw[show f=f' from funext b,show g=g' from funext a]
theorem dZ(f g h:Nat->Rat)(k:Nat):aF (λi=>f i+g i) h k=aF f h k+aF g h k:=by unfold aF;rw[<-vK];exact dN _ λi _=>Zy ..
theorem cj(c:Rat)(f h:Nat->Rat)(k:Nat):aF (λi=>c*f i) h k=c*aF f h k:=by unfold aF;rw[<-vJ];exact dN _ λi _=>ej ..
theorem qT(f g h:Nat->Rat)(k:Nat):aF f (λi=>g i+h i) k=aF f g k+aF f h k:=by rw[b9,dZ,b9 g,b9 h]
theorem fk(c:Rat)(f h:Nat->Rat)(k:Nat):aF f (λi=>c*h i) k=c*aF f h k:=by rw[b9,cj,b9 h]
theorem dU(f g:Nat->Rat):aF f g 0=f 0*g 0:=by unfold aF;rw[dY,dY];show 0+f 0*g (0 -0)=_;rw[tJ]
theorem gR(f g:Nat->Rat)(k:Nat):aF f g (k+1)=f 0*g (k+1)+aF (λi=>f (i+1)) g k:=by unfold aF;rw[lY];congr 1;exact dN _ λi a=>by show f (i+1)*g (k+1 -(i+1))=f (i+1)*g (k -i);rw[show k+1 -(i+1)=k -i by lia]
theorem gS(g h:Nat->Rat):∀(k:Nat)(f:Nat->Rat),aF (aF f g) h k=aF f (aF g h) k
 |0,f=>by rw[dU,dU,dU,dU,ej]
 |k+1,f=>by rw[gR,gR f,dU,gR g];have e:(λi=>aF f g (i+1))=λi=>f 0*g (i+1)+aF (λi=>f (i+1)) g i:=funext λi=>gR f g i;rw[e,dZ,cj,gS g h k];generalize aF (λi=>g (i+1)) h k=x;generalize aF (λi=>f (i+1)) (aF g h) k=y;generalize h (k+1)=z;grind
theorem vL{f g:Nat->Rat}{n m:Nat}(d:∀i,n<=i->f i=0)(c:∀i,m<=i->g i=0){k:Nat}(h:n+m<=k+1):aF f g k=0:=by
 unfold aF;rw[dN (g:=λ_=>0) _ λi e=>?_]
 .have:∀n,dY (λ_=>0) n=0:=λn=>by
   induction n with
   |zero=>rfl
   |succ n b=>rw[dY,b];grind
  exact this _
 .show f i*g (k -i)=0;by_cases a:n<=i
  .rw[d i a,dC]
  .rw[c _ (by lia),Qb]
theorem pW{f g:Nat->Rat}{n m:Nat}(c:∀i,n<i->f i=0)(b:∀i,m<i->g i=0):aF f g (n+m)=f n*g m:=by
 unfold aF;have e:dY (λi=>f i*g (n+m -i)) (n+m+1)=dY (λi=>f i*g (n+m -i)) (n+1):=qQ _ (by lia) λi h _=>by show f i*g (n+m -i)=0;rw[c i (by lia),dC]
 rw[e,dY];have z:dY (λi=>f i*g (n+m -i)) n=0:=by
  rw[dN (g:=λ_=>0) _ λi d=>by show f i*g (n+m -i)=0;rw[b _ (by lia),Qb]];have:∀n,dY (λ_=>0) n=0:=λn=>by
   induction n with
   |zero=>rfl
   |succ n a=>rw[dY,a];grind
  exact this _
 rw[z,tJ,show n+m -n=m by lia]
abbrev cQ(a:List Rat):Nat->Rat:=λi=>a.getD i 0
def Fin(f:Nat->Rat):Prop:=∃n,∀i,n<=i->f i=0
theorem aU(a:List Rat):Fin (cQ a):=⟨a.length,λi b=>jd b⟩
theorem Fin.add{f g:Nat->Rat}(d:Fin f)(c:Fin g):Fin λi=>f i+g i:=by obtain⟨n,a⟩:=d;obtain⟨m,b⟩:=c;exact⟨max n m,λi e=>by show f i+g i=0;rw[a i (by lia),b i (by lia)];grind⟩
theorem Fin.mul{f g:Nat->Rat}(d:Fin f)(c:Fin g):Fin (aF f g):=by obtain⟨n,a⟩:=d;obtain⟨m,b⟩:=c;exact⟨n+m,λi e=>vL a b (by lia)⟩
def DQ(g a:Nat->Rat):Prop:=∃s,Fin s/\∀k,a k=aF s g k
theorem DQ.trans{f g h:Nat->Rat}(b:DQ f g)(a:DQ g h):DQ f h:=by obtain⟨s,d,i⟩:=b;obtain⟨t,c,e⟩:=a;refine⟨aF t s,c.mul d,λk=>?_⟩;rw[e k,gS];exact bq (λ_=>rfl) i k
theorem DQ.add{g a b:Nat->Rat}(d:DQ g a)(c:DQ g b):DQ g λk=>a k+b k:=by obtain⟨s,f,j⟩:=d;obtain⟨t,e,h⟩:=c;exact⟨λi=>s i+t i,f.add e,λk=>by show a k+b k=_;rw[j k,h k,dZ]⟩
theorem DQ.mul{g a:Nat->Rat}(u:Nat->Rat)(b:Fin u)(h:DQ g a):DQ g (aF u a):=by obtain⟨s,c,d⟩:=h;refine⟨aF u s,b.mul c,λk=>?_⟩;rw[gS];exact bq (λ_=>rfl) d k
theorem DQ.ext{g a b:Nat->Rat}(h:DQ g a)(e:∀k,b k=a k):DQ g b:=by obtain⟨s,c,d⟩:=h;exact⟨s,c,λk=>by rw[e k,d k]⟩
theorem qU(g:Nat->Rat)(k:Nat):aF (λi=>if i=0 then 1 else 0) g k=g k:=by rw[Ko (λi a=>BM (by lia))];show(1:Rat)*_=_;rw[eQ]
theorem DQ.refl(g:Nat->Rat):DQ g g:=⟨λi=>if i=0 then 1 else 0,⟨1,λi a=>BM (by lia)⟩,λk=>(qU g k).symm⟩
theorem dw(g:Nat->Rat)(k:Nat):aF (λ_=>0) g k=0:=by
 unfold aF;have:∀n,dY (λi=>(0:Rat)*g (k -i)) n=0:=λn=>by
  induction n with
  |zero=>rfl
  |succ n a=>rw[dY,a];grind
 exact this _
theorem DQ.zero(g:Nat->Rat):DQ g λ_=>0:=⟨λ_=>0,⟨0,λ_ _=>rfl⟩,λk=>(dw g k).symm⟩
structure Mon(g:List Rat):Prop where
 ne:g≠[]
 one:g.getD (g.length -1) 0=1
theorem kO{f:Nat->Rat}(h:Fin f)(k:Nat)(c:f k≠0):∃n,f n≠0/\∀i,n<i->f i=0:=by
 obtain⟨n,a⟩:=h
 induction n with
 |zero=>exact absurd (a k (Iy _)) c
 |succ n b=>
  by_cases e:f n=0
  .refine b λi d=>?_;by_cases g:i=n
   .rw[g];exact e
   .exact a i (by lia)
  .exact⟨n,e,λi d=>a i (by lia)⟩
theorem DQ.sub{g a b:Nat->Rat}(f:DQ g a)(e:DQ g b):DQ g λk=>a k -b k:=by obtain⟨t,h,j⟩:=e;have:DQ g λk=> -1*b k:=⟨λi=> -1*t i,by obtain⟨n,c⟩:=h;exact⟨n,λi d=>by show-1*t i=0;rw[c i d];grind⟩,λk=>by show-1*b k=_;rw[j k,cj]⟩;exact(f.add this).ext λk=>by show a k -b k=a k+ -1*b k;grind
theorem yi{b r:List Rat}(u:aA b)(A:b≠[])(o:aA r)(C:r.length<b.length)(h:DQ (cQ b) (cQ r)):r=[]:=by
 rcases List.eq_nil_or_concat r with e|⟨t,y,e⟩
 .exact e
 .rw[List.concat_eq_append]at e;obtain⟨s,v,d⟩:=h;have B:=He.mpr A;have l:r.getD t.length 0=y:=by rw[e,AC,Jn (D2 _),oT];rfl
  have k:y≠0:=o y (by rw[e];exact rn);have x:b.getD (b.length -1) 0≠0:=by refine u _ ?_;rw[IR,AC,B1 (by lia)];rfl
  have:∃j,s j≠0:=Fs λz=>k (by have z:∀j,s j=0:=λj=>Fs λw=>z ⟨j,w⟩;have:=d t.length;rw[bq (f':=λ_=>0) z (λ_=>rfl),dw]at this;exact l.symm.trans this);obtain⟨j,q⟩:=this;obtain⟨n,p,c⟩:=kO v j q;have a:=pW (f:=s) (g:=cQ b) (n:=n) (m:=b.length -1) c (λi D=>jd (by lia));rw[<-d]at a;have z:cQ r (n+(b.length -1))=0:=jd (by lia);rw[z]at a;rcases L9.mp a.symm with w|w
  .exact absurd w p
  .exact absurd w x
theorem uJ{s:Nat->Rat}{b:List Rat}(j:Fin s)(e:aA b)(o:b≠[])(h:∀k,aF s (cQ b) k=0):∀i,s i=0:=λi=>Fs λc=>by
 have p:=He.mpr o;have l:b.getD (b.length -1) 0≠0:=by refine e _ ?_;rw[IR,AC,B1 (by lia)];rfl
 obtain⟨n,d,a⟩:=kO j i c;have t:=pW (f:=s) (g:=cQ b) (n:=n) (m:=b.length -1) a (λi c=>jd (by lia));rw[h]at t;rcases L9.mp t.symm with w|w
 .exact d w
 .exact l w
end Num
namespace Num
open Sub
abbrev cz(a:List Int):Nat->Rat:=λi=>((a.getD i 0:Int):Rat)
theorem yj(f g:Nat->Int)(k:Nat):aF (λi=>(f i:Rat)) (λi=>(g i:Rat)) k=((lD f g k:Int):Rat):=by have:=Kd (f:=λi=>(f i:Rat)) (g:=λi=>(g i:Rat)) (F:=f) (G:=g) (A:=1) (C:=1) (λi=>kb _) (λi=>kb _) k;rw[kb,kb]at this;exact this
theorem DQ.sc{d f:Nat->Rat}(c:Rat)(h:DQ d f):DQ d λk=>c*f k:=by obtain⟨s,⟨n,a⟩,e⟩:=h;refine⟨λi=>c*s i,⟨n,λi b=>by dsimp only;rw[a i b,Qb]⟩,λk=>?_⟩;dsimp only;rw[cj,e k]
theorem DQ.Y5{d f:Nat->Rat}{c:Rat}(a:c≠0)(h:DQ d λk=>c*f k):DQ d f:=
 (h.sc c⁻¹).ext λk=>by have:=Nw c a;grind
theorem pX(c:Rat)(p:Nat)(g:Nat->Rat)(k:Nat):aF (λi=>if i=p then c else 0) g k=if p<=k then c*g (k -p)else 0:=by
 have:∀(p:Nat)(k:Nat),aF (λi=>if i=p then c else 0) g k=if p<=k then c*g (k -p)else 0:=by
  intro p
  induction p with
  |zero=>
   intro k;have:=cj c (λi=>if i=0 then 1 else 0) g k;rw[qU]at this;rw[Bi (Iy _),M1,<-this];refine bq (λi=>?_) (λ_=>rfl) k;by_cases h:i=0
   .rw[Bi h,Bi h,kb]
   .rw[BM h,BM h,Qb]
  |succ p a=>
   intro k;cases k with
   |zero=>rw[dU,BM (by lia),BM (by lia),dC]
   |succ k=>
    rw[gR,BM (by lia),dC,tJ];have e:(λi=>if i+1=p+1 then c else 0)=λi=>if i=p then c else 0:=funext λi=>by
     by_cases h:i=p
     .rw[Bi h,Bi (by lia)]
     .rw[BM h,BM (by lia)]
    rw[e,a k];by_cases h:p<=k
    .rw[Bi h,Bi (by lia),show k+1 -(p+1)=k -p by lia]
    .rw[BM h,BM (by lia)]
 exact this p k
theorem Kr{b:List Rat}(z:aA b)(C:b≠[]):∀(n:Nat)(a:List Rat),a.length<=n->∃(q:Nat->Rat)(r:List Rat),Fin q/\aA r/\r.length<b.length/\∀k,cQ a k=aF q (cQ b) k+cQ r k:=by
 have t:=He.mpr C;have s:b.getD (b.length -1) 0≠0:=by refine z _ ?_;rw[IR,B1 (by lia),AC,B1 (by lia)];rfl
 intro n
 induction n with
 |zero=>intro a j;refine⟨λ_=>0,[],⟨0,λ_ _=>rfl⟩,λx v=>(by cases v),t,λk=>?_⟩;rw[KE.mp (rg.mp j),dw];show(0:Rat)=0+0;grind
 |succ n u=>
  intro a j;by_cases w:a.length<b.length
  .exact⟨λ_=>0,gr a,⟨0,λ_ _=>rfl⟩,iK a,GE (uH a) w,λk=>by rw[dw,tJ];exact(vE a k).symm⟩
  .generalize E:a.length -b.length=d;generalize y:a.getD (a.length -1) 0*(b.getD (b.length -1) 0)⁻¹=c;obtain⟨q,r,B,o,p,e⟩:=u (nS (a.length -1) λk=>cQ a k -if d<=k then c*cQ b (k -d)else 0) (by rw[lW];lia);refine⟨λi=>q i+if i=d then c else 0,r,Fin.add B ⟨d+1,λi D=>BM (by lia)⟩,o,p,λk=>?_⟩;rw[dZ,pX];have f:=e k;have f:(nS (a.length -1) λk=>cQ a k -if d<=k then c*cQ b (k -d)else 0).getD k 0=_:=f;rw[pU]at f;by_cases m:k<a.length -1
   .rw[Bi m]at f;grind
   .rw[BM m]at f;by_cases A:k=a.length -1
    .have h:cQ b (k -d)=b.getD (b.length -1) 0:=by rw[show k -d=b.length -1 by lia]
     have g:cQ a k=a.getD (a.length -1) 0:=by rw[A]
     rw[Bi (by lia),h,g,<-y];have:=Nw _ s;grind
    .have h:cQ a k=0:=jd (by lia);have g:(if d<=k then c*cQ b (k -d)else 0)=0:=by
      by_cases l:d<=k
      .rw[Bi l,show cQ b (k -d)=0 from jd (by lia),Qb]
      .rw[BM l]
     rw[h,g];grind
theorem Po:∀(n:Nat)(a b:List Rat),b.length<=n->aA a->aA b->∃(g:List Rat)(u v:Nat->Rat),aA g/\Fin u/\Fin v/\DQ (cQ g) (cQ a)/\DQ (cQ g) (cQ b)/\∀k,cQ g k=aF u (cQ a) k+aF v (cQ b) k:=by
 have c:∀(a:List Rat),aA a->∃(g:List Rat)(u v:Nat->Rat),aA g/\Fin u/\Fin v/\DQ (cQ g) (cQ a)/\DQ (cQ g) (cQ [])/\∀k,cQ g k=aF u (cQ a) k+aF v (cQ []) k:=λa z=>⟨a,λi=>if i=0 then 1 else 0,λ_=>0,z,⟨1,λi y=>BM (by lia)⟩,⟨0,λ_ _=>rfl⟩,DQ.refl _,DQ.zero _,λk=>by rw[qU,dw,x5]⟩;intro n
 induction n with
 |zero=>intro a b h f d;rw[KE.mp (rg.mp h)];exact c a f
 |succ n x=>
  intro a b h f d;by_cases o:b=[]
  .rw[o];exact c a f
  .obtain⟨q,r,l,p,G,e⟩:=Kr d o a.length a (D2 _);obtain⟨g,u,v,s,C,j,m,F,E⟩:=x b r (by lia) d p;refine⟨g,v,λi=>u i+ -1*aF v q i,s,j,?_,?_,m,λk=>?_⟩
   .obtain⟨w,B⟩:=C;obtain⟨t,A⟩:=j.mul l;exact⟨w+t,λi y=>by dsimp only;rw[B i (by lia),A i (by lia)];grind⟩
   .exact(DQ.add (DQ.mul q l m) F).ext λk=>e k
   .rw[E k,dZ,cj,gS];have D:aF v (cQ r) k=aF v (cQ a) k -aF v (aF q (cQ b)) k:=by have:aF v (cQ a) k=aF v (λi=>aF q (cQ b) i+cQ r i) k:=bq (λ_=>rfl) e k;rw[qT]at this;grind
    rw[D];grind
end Num
namespace Num
theorem iL{c:List Rat}(h:aA c)(a:c≠[]):c.getD (c.length -1) 0≠0:=by have l:=He.mpr a;refine h _ ?_;rw[IR,AC,B1 (gm l a8)];rfl
end Num
namespace Num
open Sub
noncomputable def gU(a b r:List Rat):Prop:=aA r/\r.length<b.length/\∃q:Nat->Rat,Fin q/\∀k,cQ a k=aF q (cQ b) k+cQ r k
theorem gU.uniq{a b r s:List Rat}(m:aA b)(w:b≠[])(o:gU a b r)(n:gU a b s):r=s:=by
 obtain⟨e,y,g,⟨l,q⟩,u⟩:=o;obtain⟨d,x,f,⟨j,p⟩,t⟩:=n;have c:∀k,cQ (gr (nS (max r.length s.length) λi=>cQ r i+(-1)*cQ s i)) k=cQ r k+(-1)*cQ s k:=λk=>by
  show(gr _).getD k 0=_;rw[vE,pU];split
  .rfl
  .rw[show cQ r k=0 from jd (by lia),show cQ s k=0 from jd (by lia)];grind
 have h:=yi m w (iK (nS (max r.length s.length) λi=>cQ r i+(-1)*cQ s i)) (by
  have:=uH (nS (max r.length s.length) λi=>cQ r i+(-1)*cQ s i);rw[lW]at this;lia) ⟨λi=>f i+(-1)*g i,⟨max l j,λi z=>by dsimp only;rw[q i (by lia),p i (by lia)];grind⟩,λk=>by
  rw[c,dZ,cj];have A:=u k;have a2:=t k;grind⟩
 refine qP e d λk=>?_;have:=c k;rw[h]at this;have v:cQ [] k=0:=rfl;rw[v]at this;show cQ r k=cQ s k;grind
theorem gU.one{a:List Rat}{x:Rat}(c:x≠0):gU a [x] []:=by
 have e:∀i,cQ [x] i=if i=0 then x else 0:=λi=>by
  cases i with
  |zero=>rfl
  |succ i=>rfl
 have hz:aA []:=λy b=>by cases b
 refine⟨hz,a8,λi=>x⁻¹*cQ a i,⟨a.length,λi d=>by dsimp only;rw[show cQ a i=0 from jd d];grind⟩,λk=>?_⟩;rw[cj,b9,bq (g:=cQ a) e (λ_=>rfl),pX,Bi (Iy k)];have:=Nw x c;show _=x⁻¹*(x*cQ a k)+0;grind
theorem qV(r:List Rat)(k:Nat):cQ (je r) k= -cQ r k:=by
 show(r.map λx=> -x).getD k 0= -(r.getD k 0);rw[AC,Da,AC];cases r[k]? with
 |none=>show(0:Rat)= -0;grind
 |some z=>rfl
theorem jn{r:List Rat}(h:aA r):aA (je r):=λx a=>by unfold je at a;rw[ij]at a;obtain⟨y,b,rfl⟩:=OF.mp a;have:=h y b;grind
theorem BO(r:List Rat):(je r).length=r.length:=Ap _
theorem z8{r:List Rat}(h:r≠[]):je r≠[]:=λz=>h (ml.mp z)
inductive nE:List Rat->List Rat->List (List Rat)->Prop
 |nil {a b:List Rat} (h:gU a b []):nE a b []
 |cons {a b r:List Rat} {l:List (List Rat)} (h:gU a b r) (h0:r≠[]) (k:nE b (je r) l):nE a b (je r::l)
theorem nE.uniq{a b:List Rat}{l m:List (List Rat)}(e:aA b)(f:b≠[])(o:nE a b l)(g:nE a b m):l=m:=by
 induction o generalizing m with
 |nil h=>
  cases g with
  |nil _=>rfl
  |cons d c _=>exact absurd (h.uniq e f d).symm c
 |cons h i k n=>
  cases g with
  |nil d=>exact absurd (h.uniq e f d) i
  |cons d c j=>
   cases h.uniq e f d;rw[n (jn h.1) (z8 i) j]
structure Sm(ns ms:List Int)(w E D0:Nat)(A B:List Int)(ld h:Int)(α β:Rat)(a b:List Rat):Prop where
 C:CS ns ms [] [] w E (ms.length+1) A B [] [] ld h
 ea:∀k,cQ a k=α*(A.getD k 0:Int)
 eb:∀k,cQ b k=β*(B.getD k 0:Int)
 Ks:α≠0
 Xw:β≠0
 la:a.length=A.length
 lb:b.length=B.length
 za:aA a
 zb:aA b
theorem z9{R:List Int}{x:Rat}(c:x≠0)(b:R=[]\/R.getD (R.length -1) 0≠0):aA (R.map λy:Int=>x*(y:Rat)):=λz hz=>by
 rw[ij]at hz;obtain⟨y,a,rfl⟩:=OF.mp hz;rcases b with e|e
 .rw[e]at a;cases a
 .rw[IR]at a;rw[AC,a]at e;intro z;rcases L9.mp z with z|z
  .exact c z
  .exact e (Gc.mp z)
theorem F8(R:List Int)(x:Rat)(k:Nat):cQ (R.map λy:Int=>x*(y:Rat)) k=x*((R.getD k 0:Int):Rat):=by
 show(R.map λy:Int=>x*(y:Rat)).getD k 0=_;rw[AC,Da,AC];cases R[k]? with
 |none=>show(0:Rat)=x*((0:Int):Rat);grind
 |some z=>rfl
section
variable{ns ms A B Qs R:List Int}{w E D0:Nat}{ld h c:Int}{α β:Rat}{a b:List Rat}
theorem Sm.rem(S:Sm ns ms w E D0 A B ld h α β a b)(r:c≠0)(q:∀k,R.getD k 0=c*A.getD k 0 -cf Qs B Qs.length k)(m:R.length<B.length)(d:R=[]\/R.getD (R.length -1) 0≠0):gU a b (R.map λy:Int=>α/c*(y:Rat)):=by
 have l:(c:Rat)≠0:=λz=>r (Gc.mp z);have Xw:=S.Xw;have Ks:=S.Ks;have g:α/(c:Rat)≠0:=λz=>by
  have:α=α/(c:Rat)*c:=by grind
  rw[z]at this;exact Ks (by grind)
 refine⟨z9 g d,by rw[Ap,S.lb];exact m,λi=>α/(c*β)*((Qs.getD i 0:Int):Rat),⟨Qs.length,λi n=>by dsimp only;rw[outI n];show _*((0:Int):Rat)=0;grind⟩,λk=>?_⟩;rw[F8,cj,bq (f:=λi=>((Qs.getD i 0:Int):Rat)) (g':=λi=>β*((B.getD i 0:Int):Rat)) (λ_=>rfl) S.eb,fk,yj,S.ea k];have e:=q k;rw[lV]at e;have e:((R.getD k 0:Int):Rat)=c*((A.getD k 0:Int):Rat) -((lD (λi=>Qs.getD i 0) (λi=>B.getD i 0) k:Int):Rat):=by rw[e,dc,Fm];rfl
 rw[e];generalize((lD (λi=>Qs.getD i 0) (λi=>B.getD i 0) k:Int):Rat)=u;generalize((A.getD k 0:Int):Rat)=v;have j:(c:Rat)*β≠0:=λz=>by
  rcases L9.mp z with z|z
  .exact l z
  .exact Xw z
 have p:α/(c*β)*(β*u)=α/c*u:=by grind
 have o:α/(c:Rat)*(c*v -u)=α*v -α/c*u:=by grind
 rw[p,o];grind
theorem Sm.next(X:FX ns ms [] [] w E)(S:Sm ns ms w E D0 A B ld h α β a b)(s:2<=B.length)(j:c=B.getD (B.length -1) 0^(A.length -B.length+1))(D:Qs.length=A.length -B.length+1)(n:∀k,R.getD k 0=c*A.getD k 0 -cf Qs B Qs.length k)(g:R.length<B.length)(f:R=[]\/R.getD (R.length -1) 0≠0)(t:R≠[]):
 je (R.map λy:Int=>α/c*(y:Rat))=((R.map λy=>y.fdiv (ld*h^(A.length -B.length))).map λy:Int=> -(α*C0 (ld*h^(A.length -B.length)) c)*(y:Rat))/\
 Sm ns ms w E D0 B (R.map λy=>y.fdiv (ld*h^(A.length -B.length))) (B.getD (B.length -1) 0) (hnext h (B.getD (B.length -1) 0) (A.length -B.length)) β (-(α*C0 (ld*h^(A.length -B.length)) c)) b (je (R.map λy:Int=>α/c*(y:Rat))):=by
 have DJ:B.getD (B.length -1) 0≠0:=S.C.ch.DJ;have o:c≠0:=by rw[j];exact c7 DJ _
 have p:=S.C.step X s j D n g f (F:=[]) (λk=>by
  have:cf Qs [] Qs.length k=0:=by rw[J7];rfl
  rw[this];show(0:Int)=c*0 -0;lia) (Iy _) (λ_=>D2 _)
 obtain⟨i,I,u,_,_,_,e⟩:=p;have e:=e t;have Ew:=S.C.Ew;have lp:=S.C.lp;have F4:=S.C.F4;have l1:=X.l1;generalize q:ld*h^(A.length -B.length)=d at*;have H:(c:Rat)≠0:=λz=>o (Gc.mp z);have G:(d:Rat)≠0:=λz=>i (Gc.mp z);have Ks:=S.Ks;have l:C0 d c=(d:Rat)/c:=lh ..;have m:je (R.map λy:Int=>α/c*(y:Rat))=((R.map λy=>y.fdiv d).map λy:Int=> -(α*C0 d c)*(y:Rat)):=by unfold je;rw[SL,SL];refine cq λx r=>?_;obtain⟨y,rfl⟩:=u x r;show-(α/c*((d*y:Int):Rat))= -(α*C0 d c)*(((d*y).fdiv d:Int):Rat);rw[oP ⟨y,rfl⟩,my y i,l,Fm];grind
 have v: -(α*C0 d c)≠0:=λz=>by
  rw[l]at z;have:α= -(-(α*((d:Rat)/c)))*c/d:=by grind
  rw[z]at this;exact Ks (by grind)
 refine⟨m,e,S.eb,λk=>by rw[m,F8],S.Xw,v,S.lb,by rw[BO,Ap,Ap],S.zb,jn (S.rem o n g f).1⟩
end
noncomputable def bI(ns:List Int):List Int:=(Bn (ns.length -1)).map λi=>((i+1:Nat):Int)*ns.getD (i+1) 0
noncomputable def aS(a:List Rat):List Rat:=nS (a.length -1) λi=>((i+1:Nat):Rat)*a.getD (i+1) 0
theorem d7(ns:List Int):(bI ns).length=ns.length -1:=by unfold bI;simp
theorem gW(a:List Rat):(aS a).length=a.length -1:=lW _ _
theorem l6(ns:List Int)(k:Nat):(bI ns).getD k 0=((k+1:Nat):Int)*ns.getD (k+1) 0:=by
 unfold bI;rw[AC,Da];by_cases h:k<ns.length -1
 .rw[cw h];rfl
 .rw[FC (by simpa using h),outI (ns:=ns) (by lia),Q1];rfl
theorem fy(a:List Rat)(k:Nat):cQ (aS a) k=((k+1:Nat):Rat)*cQ a (k+1):=by
 show(nS _ _).getD k 0=_;rw[pU];split
 .rfl
 .rw[show cQ a (k+1)=0 from jd (by lia)];grind
theorem Vu{m E:Nat}(h:∀s,s<m+1->∀p,p<m+1->(s -2*p)*p+(s+1)<=E):∀s,s<=m->∀p,(s -2*p)*p+(s+1)<=E:=λs b p=>by
 by_cases a:p<m+1
 .exact h s (by lia) p a
 .have:=h s (by lia) 0 (by lia);rw[show s -2*p=0 by lia,ZG];lia
theorem Vv{ns:List Int}{M w E m:Nat}(l:2<=ns.length)(j:2*ns.length<=m+3)(a:ns.length<=50)(b:∀x∈ns,x.natAbs<=M)(h:1<=M)(f:(2*ns.length -2)*((ns.length -1)*M)<=2^w)(g:∀s,s<m+1->∀p,p<m+1->(s -2*p)*p+(s+1)<=E):FX ns (bI ns) [] [] w E:=by
 have c:M<=(ns.length -1)*M:=xb M (by lia);have e:∀k,(ns.getD k 0).natAbs<=M:=λk=>by
  by_cases d:k<ns.length
  .exact b _ (getD_mem' d)
  .rw[outI (by lia)];exact Iy _
 refine⟨by rw[d7];lia,a,⟨(ns.length -1)*M,λi=>?_,λi=>?_,Bz h c,?_⟩,λp=>?_⟩
 .obtain⟨z,k⟩:=i;cases z
  .exact Bz (e k) c
  .exact Iy _
 .obtain⟨z,k⟩:=i;cases z
  .show((bI ns).getD k 0).natAbs<=_;rw[l6,FK,C2];by_cases d:k+1<ns.length
   .exact Kx (by lia) (e _)
   .rw[outI (by lia)];exact Iy _
  .exact Iy _
 .rw[d7,show ns.length -1+(ns.length -1 -1)+1=2*ns.length -2 by lia];exact f
 .rw[d7];exact Vu g _ (by lia) p
theorem Sm.start{ns:List Int}{w E:Nat}{a:List Rat}{α:Rat}(P:FX ns (bI ns) [] [] w E)(o:2<=ns.length)(j:ns.getD (ns.length -1) 0≠0)(e:∀k,cQ a k=α*((ns.getD k 0:Int):Rat))(l:a.length=ns.length)(z:aA a)(g:α≠0):Sm ns (bI ns) w E 26 ns (bI ns) 1 1 α α a (aS a):=by
 have c:=d7 ns;have b:(bI ns).getD ((bI ns).length -1) 0≠0:=by rw[l6,c,show ns.length -1 -1+1=ns.length -1 by lia];exact Hk (by lia) j
 have i:aA (aS a):=λx d=>by
  rw[IR]at d;have f:cQ (aS a) ((aS a).length -1)=x:=by show(aS a).getD _ 0=x;rw[AC,d];rfl
  rw[fy,gW,show a.length -1 -1+1=a.length -1 by lia]at f;have n:=lX z (by lia);have m:((a.length -1:Nat):Rat)≠0:=λh=>by have:((a.length -1:Nat):Int)=0:=Gc.mp h;lia
  rw[<-f];intro h;rcases L9.mp h with h|h
  .exact m h
  .exact n h
 refine⟨CS.start P (by rw[c];lia) b (by show 0+_<=_;lia) (.inl rfl),e,λk=>?_,g,g,l,by rw[gW,c,l],z,i⟩;rw[fy,l6,e (k+1),Fm];show((k+1:Nat):Rat)*_=α*(((k+1:Nat):Rat)*_);grind
end Num
namespace Num
def ab(u A:Rat):Prop:= -A<=u/\u<=A
theorem aQ{a b:Rat}(d:0<=a)(c:0<=b):0<=a*b:=Rat.mul_nonneg d c
theorem cD{u v A B:Rat}(b:ab u A)(a:ab v B):ab (u*v) (A*B):=by obtain⟨i,a2⟩:=b;obtain⟨h,g⟩:=a;have f:=aQ (show 0<=A -u by grind) (show 0<=B -v by grind);have e:=aQ (show 0<=A+u by grind) (show 0<=B+v by grind);have d:=aQ (show 0<=A -u by grind) (show 0<=B+v by grind);have c:=aQ (show 0<=A+u by grind) (show 0<=B -v by grind);constructor<;>grind
theorem jo{u v A B:Rat}(b:ab u A)(a:ab v B):ab (u+v) (A+B):=by unfold ab at*;grind
theorem cO{u A B:Rat}(h:ab u A)(a:A<=B):ab u B:=by unfold ab at*;grind
def In(a b x:Rat):Prop:=a<=x/\x<=b
structure Smt(a b:Rat)(f g:Rat->Rat)(C:Rat):Prop where
 f0:∀x,In a b x->ab (f x) C
 g0:∀x,In a b x->ab (g x) C
 l:∀x y,In a b x->In a b y->x<=y->ab (f y -f x) (C*(y -x))
 d:∀x y,In a b x->In a b y->x<=y->ab (f y -f x -(y -x)*g x) (C*((y -x)*(y -x)))
def dv(x:Rat):List Rat->Rat
 |[]=>0
 |_::a=>ev x a+x*dv x a
theorem In.ab{a b x:Rat}(h:In a b x):∃M,0<=M/\∀x,In a b x->ab x M:=by
 by_cases e: -a<=b
 .by_cases d:0<=b
  .exact⟨b,d,λx c=>⟨by have:=c.1;grind,c.2⟩⟩
  .exact⟨-a,by unfold In at h;grind,λx c=>by unfold In at*;constructor<;>grind⟩
 .exact⟨-a,by unfold In at h;grind,λx c=>by unfold In at*;constructor<;>grind⟩
theorem bJ(x r:Rat)(a:List Rat):ev x (r::a)=r+x*ev x a:=rfl
theorem vM{a b:Rat}(h:a<=b):∀c:List Rat,∃C,0<=C/\Smt a b (λx=>ev x c) (λx=>dv x c) C
 |[]=>⟨0,by grind,λx _=>by show Num.ab 0 0;unfold Num.ab;grind,λx _=>by show Num.ab 0 0;unfold Num.ab;grind,λx y _ _ _=>by show Num.ab (0 -0) _;unfold Num.ab;grind,λx y _ _ _=>by show Num.ab (0 -0 -_*0) _;unfold Num.ab;grind⟩
 |r::c=>by
  obtain⟨C,u,S⟩:=vM h c;obtain⟨M,t,j⟩:=In.ab (x:=a) (a:=a) (b:=b) ⟨by grind,h⟩;have R:∃R,0<=R/\Num.ab r R:=by
   by_cases o:0<=r
   .exact⟨r,o,by grind,by grind⟩
   .exact⟨-r,by grind,by grind,by grind⟩
  obtain⟨R,n,s⟩:=R;have p:=aQ t u;refine⟨R+M*C+C,by grind,λx f=>?_,λx f=>?_,λx y f i g=>?_,λx y f i g=>?_⟩
  .exact cO (jo s (cD (j x f) (S.f0 x f))) (by grind)
  .show Num.ab (ev x c+x*dv x c) _;exact cO (jo (S.f0 x f) (cD (j x f) (S.g0 x f))) (by grind)
  .show Num.ab (r+y*ev y c -(r+x*ev x c)) _;have e:r+y*ev y c -(r+x*ev x c)=y*(ev y c -ev x c)+(y -x)*ev x c:=by grind
   rw[e];have m:0<=y -x:=by grind
   have k:Num.ab (y -x) (y -x):=⟨by grind,by grind⟩;have q:=aQ n m;exact cO (jo (cD (j y i) (S.l x y f i g)) (cD k (S.f0 x f))) (by grind)
  .show Num.ab (r+y*ev y c -(r+x*ev x c) -(y -x)*(ev x c+x*dv x c)) _;have e:r+y*ev y c -(r+x*ev x c) -(y -x)*(ev x c+x*dv x c)=y*(ev y c -ev x c -(y -x)*dv x c)+(y -x)*(y -x)*dv x c:=by grind
   rw[e];have m:0<=y -x:=by grind
   have k:Num.ab (y -x) (y -x):=⟨by grind,by grind⟩;have q:=aQ n (aQ m m);exact cO (jo (cD (j y i) (S.d x y f i g)) (cD (cD k k) (S.g0 x f))) (by grind)
structure fz(a b:Rat)where
 l:Nat->Rat
 r:Nat->Rat
 lt:∀n,l n<r n
 up:∀n,l n<=l (n+1)
 dn:∀n,r (n+1)<=r n
 a0:a<=l 0
 b0:r 0<=b
 sm:∀e:Rat,0<e->∃n,r n -l n<=e
def fz.I{a b:Rat}(N:fz a b)(n:Nat)(x:Rat):Prop:=In (N.l n) (N.r n) x
theorem fz.mono{a b:Rat}(N:fz a b){n:Nat}{x:Rat}:∀{m:Nat},n<=m->N.I m x->N.I n x
 |0,h,c=>by cases rg.mp h;exact c
 |m+1,h,c=>by
  by_cases e:n=m+1
  .rw[e];exact c
  .have:=N.up m;have:=N.dn m;refine N.mono (m:=m) (by lia) ?_;unfold fz.I In at*;grind
theorem fz.base{a b:Rat}(N:fz a b){n:Nat}{x:Rat}(h:N.I n x):In a b x:=by have h:=N.mono (Iy n) h;have:=N.a0;have:=N.b0;unfold fz.I In at*;grind
noncomputable def fz.Z{a b:Rat}(N:fz a b)(f:Rat->Rat):Prop:=∀e:Rat,0<e->∃n,∀x,N.I n x->ab (f x) e
noncomputable def fz.P{a b:Rat}(N:fz a b)(s:Rat)(f:Rat->Rat):Prop:=(s=1\/s= -1)/\∃c,0<c/\∃n,∀x,N.I n x->c<=s*f x
noncomputable def Vw(a b:Rat)(f:Rat->Rat):Prop:=∃L,0<=L/\∀x y,In a b x->In a b y->x<=y->ab (f y -f x) (L*(y -x))
def Xx(a b:Rat)(f:Rat->Rat):Prop:=∃B,0<=B/\∀x,In a b x->ab (f x) B
theorem fz.Np{a b:Rat}(N:fz a b){f:Rat->Rat}(h:Vw a b f):N.Z f\/∃s,N.P s f:=by
 by_cases z:N.Z f
 .exact .inl z
 .refine .inr ?_;obtain⟨L,K,q⟩:=h;have v:∃e:Rat,0<e/\∀n,∃x,N.I n x/\¬ab (f x) e:=Fs λB=>z λe j=>Fs λp=>B ⟨e,j,λn=>Fs λg=>p ⟨n,λx C=>Fs λm=>g ⟨x,C,m⟩⟩⟩;obtain⟨e,t,j⟩:=v;have E:(0:Rat)<2*(L+1):=by grind
  obtain⟨n,p⟩:=N.sm (e*(2*(L+1))⁻¹) (KM t (aw.mpr E));obtain⟨x,g,m⟩:=j n;have d:∀y,N.I n y->ab (f y -f x) (e*2⁻¹):=λy c=>by
   have k:∀d:Rat,0<=d->d<=N.r n -N.l n->L*d<=e*2⁻¹:=λd J G=>by
    have D:d<=e*(2*(L+1))⁻¹:=by grind
    have o:=GT D (show(0:Rat)<=L+1 by grind);have H:(L+1)*(e*(2*(L+1))⁻¹)=e*2⁻¹:=by
     have:(2*(L+1))*(2*(L+1))⁻¹=1:=SB _ (by grind);have o:(2:Rat)*2⁻¹=1:=by grind
     grind
    grind
   have A:=g;have w:=c;unfold fz.I In at A w;by_cases i:x<=y
   .exact cO (q x y (N.base g) (N.base c) i) (k _ (by grind) (by grind))
   .have h:=cO (q y x (N.base c) (N.base g) (by grind)) (k _ (by grind) (by grind));unfold ab at*;grind
  have u:(0:Rat)<e*2⁻¹:=KM t (aw.mpr (by decide));have o:e*2⁻¹+e*2⁻¹=e:=by
   have o:(2:Rat)*2⁻¹=1:=by grind
   grind
  unfold ab at m;by_cases F:0<=f x
  .refine⟨1,.inl rfl,e*2⁻¹,u,n,λy c=>?_⟩;have:=d y c;unfold ab at this;grind
  .refine⟨-1,.inr rfl,e*2⁻¹,u,n,λy c=>?_⟩;have:=d y c;unfold ab at this;grind
noncomputable def df(a b:Rat):Nat:=if 0<a then(if 0<b then 0 else 1)else(if 0<b then 1 else 0)
noncomputable def pG(b:Rat):List Rat->Nat
 |[]=>0
 |x::l=>if x=0 then pG b l else(if b=0 then 0 else df b x)+pG x l
def chg(l:List Rat):Nat:=pG 0 l
theorem yk(b:Rat)(l:List Rat):pG b (0::l)=pG b l:=Bi rfl
theorem nT{b x:Rat}(a:x≠0)(c:b≠0)(l:List Rat):pG b (x::l)=df b x+pG x l:=by show(if x=0 then _ else _)=_;rw[BM a,BM c]
theorem nU{x:Rat}(a:x≠0)(l:List Rat):chg (x::l)=pG x l:=by show(if x=0 then _ else _)=_;rw[BM a,Bi rfl,i5]
theorem qW(l:List Rat):chg (0::l)=chg l:=yk 0 l
theorem oQ{s t a b:Rat}(d:s=1\/s= -1)(c:t=1\/t= -1)(f:0<s*a)(e:0<t*b):df a b=df s t:=by
 unfold df;rcases d with rfl|rfl<;>rcases c with rfl|rfl
 .rw[Bi (by grind),Bi (by grind),Bi (by decide),Bi (by decide)]
 .rw[Bi (by grind),BM (by grind),Bi (by decide),BM (by decide)]
 .rw[BM (by grind),Bi (by grind),BM (by decide),Bi (by decide)]
 .rw[BM (by grind),BM (by grind),BM (by decide),BM (by decide)]
theorem iM{s a:Rat}(h:0<s*a):a≠0:=λe=>by rw[e,Qb]at h;exact absurd h (by decide)
theorem Ku{s a b c:Rat}(e:s=1\/s= -1)(g:0<s*a)(f:0< -s*c)(l:List Rat):pG a (b::c::l)=1+pG c l:=by
 have m:=iM g;have k:=iM f;have d: -s=1\/-s= -1:=by rcases e with rfl|rfl<;>grind
 have j:df s (-s)=1:=by
  rcases e with rfl|rfl
  .decide+kernel
  .decide+kernel
 have n:∀t:Rat,t=1\/t= -1->df t t=0:=λt o=>by
  rcases o with rfl|rfl
  .decide+kernel
  .decide+kernel
 by_cases i:b=0
 .rw[i,yk,nT k m,oQ e d g f,j]
 .rw[nT i m,nT k i];have p:0<s*b\/0< -s*b:=by rcases e with rfl|rfl<;>grind
  rcases p with h|h
  .rw[oQ e e g h,oQ e d h f,j,n s e,i5]
  .rw[oQ e d g h,oQ d d h f,j,n _ d,i5]
inductive Ch(a b:Rat):List (Rat->Rat)->Prop
 |one {f:Rat->Rat} (c:Rat) (h0:c≠0) (h:∀x,In a b x->f x=c):Ch a b [f]
 |two {f g:Rat->Rat} (hf:Vw a b f) (h:Ch a b [g]):Ch a b [f,g]
 |cons {f g h:Rat->Rat} {l:List (Rat->Rat)} (hf:Vw a b f) (α β:Rat) (q:Rat->Rat) (a0:0<α) (b0:0<β) (hq:Xx a b q) (e:∀x,In a b x->α*f x+β*h x=q x*g x) (k:Ch a b (g::h::l)):Ch a b (f::g::h::l)
theorem Ch.Pp{a b:Rat}{f:Rat->Rat}{l:List (Rat->Rat)}(h:Ch a b (f::l)):Vw a b f:=by
 cases h with
 |one c i h=>exact⟨0,by grind,λx y g e _=>by rw[h x g,h y e];unfold ab;grind⟩
 |two d h=>exact d
 |cons d _ _ _ _ _ _ _ _=>exact d
theorem Ch.tail{a b:Rat}{f g:Rat->Rat}{l:List (Rat->Rat)}(h:Ch a b (f::g::l)):Ch a b (g::l):=by
 cases h with
 |two c h=>exact h
 |cons c _ _ _ _ _ _ _ k=>exact k
variable{a b:Rat}(N:fz a b)
theorem fz.P.Vx{N:fz a b}{s:Rat}{f:Rat->Rat}(h:N.P s f):∃n,∀m,n<=m->∀x,N.I m x->0<s*f x:=by obtain⟨_,c,g,n,h⟩:=h;exact⟨n,λm e x d=>by have:=h x (N.mono e d);grind⟩
theorem fz.P.noZ{N:fz a b}{s:Rat}{f:Rat->Rat}(h:N.P s f):¬N.Z f:=λz=>by
 obtain⟨d,c,j,n,h⟩:=h;have k:(2:Rat)*2⁻¹=1:=by grind
 obtain⟨m,e⟩:=z (c*2⁻¹) (KM j (aw.mpr (by decide)));have i:N.I (max n m) (N.l (max n m)):=⟨by grind,Mo (N.lt _)⟩;have o:=h _ (N.mono (XS n m) i);have g:=e _ (N.mono (WX n m) i);unfold ab at g;rcases d with rfl|rfl<;>grind
theorem Ch.F9{f:Rat->Rat}(h:Ch a b [f]):∃s,N.P s f:=by
 cases h with
 |one c g h=>
  by_cases e:0<c
  .exact⟨1,.inl rfl,c,e,0,λx d=>by rw[h x (N.base d)];grind⟩
  .exact⟨-1,.inr rfl,-c,by grind,0,λx d=>by rw[h x (N.base d)];grind⟩
theorem Pr{f g h q:Rat->Rat}{α β:Rat}(H:0<α)(l:0<β)(s:Xx a b q)(e:∀x,In a b x->α*f x+β*h x=q x*g x)(p:N.Z f)(o:N.Z g):N.Z h:=λc i=>by
 obtain⟨B,I,v⟩:=s;have r:0<α+B+1:=by grind
 have w:=aw.mpr r;have C:(α+B+1)*(α+B+1)⁻¹=1:=SB _ (by grind);have k:0<β*c*(α+B+1)⁻¹:=KM (KM l i) w;generalize A:β*c*(α+B+1)⁻¹=j at k;obtain⟨n,t⟩:=p j k;obtain⟨m,u⟩:=o j k;refine⟨max n m,λx d=>?_⟩;have G:=e x (N.base d);have y:=t x (N.mono (XS n m) d);have F:=cD (v x (N.base d)) (u x (N.mono (WX n m) d));have E:=cD (show ab α α from⟨by grind,by grind⟩) y;have D:(α+B+1)*j=β*c:=by rw[<-A];grind
 unfold ab at*;have up:β*h x<=β*c:=by grind
 have z:β*(-c)<=β*h x:=by grind
 exact⟨TC z l,TC up l⟩
theorem Ch.ym:∀{f g:Rat->Rat}{l:List (Rat->Rat)},Ch a b (f::g::l)->¬(N.Z f/\N.Z g)
 |f,g,[],h,z=>by obtain⟨s,c⟩:=Ch.F9 N h.tail;exact c.noZ z.2
 |f,g,k::l,h,z=>by
  cases h with
  |cons o n m q j i d e t=>exact Ch.ym t ⟨z.2,Pr N j i d e z.1 z.2⟩
theorem Vy{f g h q:Rat->Rat}{α β s:Rat}(l:0<α)(k:0<β)(t:Xx a b q)(e:∀x,In a b x->α*f x+β*h x=q x*g x)(p:N.P s f)(o:N.Z g):N.P (-s) h:=by
 obtain⟨i,c,J,n,u⟩:=p;obtain⟨B,R,w⟩:=t;have O:(2:Rat)*2⁻¹=1:=by grind
 have r:0<B+1:=by grind
 have y:=aw.mpr r;have M:(B+1)*(B+1)⁻¹=1:=SB _ (by grind);have K:=KM l J;have j:0<α*c*2⁻¹:=KM K (aw.mpr (by decide));have I:0<α*c*2⁻¹*(B+1)⁻¹:=KM j y;obtain⟨m,v⟩:=o _ I;have L:β*β⁻¹=1:=SB _ (by grind);refine⟨by rcases i with rfl|rfl<;>grind,α*c*2⁻¹*β⁻¹,KM j (aw.mpr k),max n m,λx d=>?_⟩;have H:=e x (N.base d);have G:=u x (N.mono (XS n m) d);have F:=cD (w x (N.base d)) (v x (N.mono (WX n m) d));have Q:=GT G (Mo l);have E:B*(α*c*2⁻¹*(B+1)⁻¹)<=α*c*2⁻¹:=by
  have:(B+1)*(α*c*2⁻¹*(B+1)⁻¹)=α*c*2⁻¹:=by grind
  grind
 have D:ab (s*(q x*g x)) (α*c*2⁻¹):=by have:=cO F E;unfold ab at*;rcases i with rfl|rfl<;>grind
 have C:β*(α*c*2⁻¹*β⁻¹)<=β*(-s*h x):=by
  have A:β*(-s*h x)=α*(s*f x) -s*(q x*g x):=by rw[<-H];grind
  have z:β*(α*c*2⁻¹*β⁻¹)=α*c*2⁻¹:=by grind
  rw[A,z];unfold ab at D;grind
 exact TC C k
theorem Ch.same:∀(M:Nat){f:Rat->Rat}{l:List (Rat->Rat)}{s:Rat},l.length<=M->Ch a b (f::l)->N.P s f->∃n K,∀m,n<=m->∀x,N.I m x->pG (f x) (l.map (· x))=K
 |M,f,[],s,_,h,p=>⟨0,0,λm _ x _=>rfl⟩
 |0,f,_::_,s,i,h,p=>by simp at i
 |M+1,f,g::l,s,i,h,p=>by
  obtain⟨w,y⟩:=p.Vx;rcases N.Np h.tail.Pp with z|⟨t,d⟩
  .cases l with
   |nil=>obtain⟨t,d⟩:=Ch.F9 N h.tail;exact absurd z d.noZ
   |cons k l=>
    cases h with
    |cons J H G q F E C e B=>have v:=Vy N F E C e p z;obtain⟨o,u⟩:=v.Vx;obtain⟨j,K,r⟩:=Ch.same M (by simp at i⊢;lia) B.tail v;refine⟨max w (max o j),1+K,λm D x c=>?_⟩;show pG (f x) (g x::k x::l.map (· x))=_;rw[Ku p.1 (y m (by lia) x c) (u m (by lia) x c),r m (by lia) x c]
  .obtain⟨o,u⟩:=d.Vx;obtain⟨j,K,r⟩:=Ch.same M (by simp at i⊢;lia) h.tail d;refine⟨max w (max o j),df s t+K,λm D x c=>?_⟩;have A:=y m (by lia) x c;have a2:=u m (by lia) x c;show pG (f x) (g x::l.map (· x))=_;rw[nT (iM a2) (iM A),oQ p.1 d.1 A a2,r m (by lia) x c]
noncomputable def TV(a b:Rat)(f g:Rat->Rat):Prop:=∃C,0<=C/\∀x y,In a b x->In a b y->x<=y->ab (f y -f x -(y -x)*g x) (C*((y -x)*(y -x)))
def oR(l:List (Rat->Rat))(x:Rat):Nat:=chg (l.map (· x))
section
variable{a b:Rat}(N:fz a b)
theorem TV.Vz{f g:Rat->Rat}{s:Rat}(h:TV a b f g)(p:N.P s g):∃n,∀m,n<=m->∀x y,N.I m x->N.I m y->x<y->s*f x<s*f y:=by
 obtain⟨C,Q,v⟩:=h;obtain⟨r,c,G,n,t⟩:=p;have j:0<C+1:=by grind
 have w:=aw.mpr j;have K:(C+1)*(C+1)⁻¹=1:=SB _ (by grind);obtain⟨e,u⟩:=N.sm (c*(C+1)⁻¹) (KM G w);refine⟨max n e,λm H x y i k q=>?_⟩;have O:=t x (N.mono (by lia) i);have E:=v x y (N.base i) (N.base k) (by grind);have D:y -x<=c*(C+1)⁻¹:=by have o:=N.mono (show e<=m by lia) i;have l:=N.mono (show e<=m by lia) k;unfold fz.I In at o l;grind
 generalize J:y -x=d at*;have F:0<d:=by grind
 have B:=GT D (Mo j);have A:(C+1)*(c*(C+1)⁻¹)=c:=by grind
 have M:(C+1)*d<=c:=by rw[<-A];exact B
 have z:C*d<s*g x:=by grind
 have L:=Rat.mul_lt_mul_of_pos_left z F;unfold ab at E;rcases r with rfl|rfl<;>grind
theorem Ch.qL{f g:Rat->Rat}{l:List (Rat->Rat)}(h:Ch a b (f::g::l))(r:TV a b f g)(z:N.Z f):∃s,(s=1\/s= -1)/\∃n K,∀m,n<=m->(∀x y,N.I m x->N.I m y->x<y->s*f x<s*f y)/\∀x,N.I m x->oR (f::g::l) x=K+if s*f x<0 then 1 else 0:=by
 rcases N.Np h.tail.Pp with k|⟨s,d⟩
 .exact absurd ⟨z,k⟩ (h.ym N)
 .obtain⟨q,w⟩:=r.Vz N d;obtain⟨p,v⟩:=d.Vx;obtain⟨o,K,u⟩:=Ch.same N _ (D2 _) h.tail d;refine⟨s,d.1,max q (max p o),K,λm A=>⟨w m (by lia),λx j=>?_⟩⟩;have a2:=v m (by lia) x j;have a3:=u m (by lia) x j;show chg (f x::g x::l.map (· x))=_;by_cases i:f x=0
  .rw[i,qW,nU (iM a2),a3,BM (by rw[Qb];decide),Nat.add_zero]
  .rw[nU i,nT (iM a2) i,a3,mM];congr 1;have c:=d.1;have Np:0<s*f x\/0< -s*f x:=by rcases c with rfl|rfl<;>grind
   have e: -s=1\/-s= -1:=by rcases c with rfl|rfl<;>grind
   rcases Np with t|t
   .rw[oQ c c t a2,BM (by grind)];rcases c with rfl|rfl<;>decide+kernel
   .rw[oQ e c t a2,Bi (by grind)];rcases c with rfl|rfl<;>decide+kernel
theorem Ch.yo{f:Rat->Rat}{l:List (Rat->Rat)}{s:Rat}(h:Ch a b (f::l))(p:N.P s f):∃n K,∀m,n<=m->∀x,N.I m x->oR (f::l) x=K:=by obtain⟨e,i⟩:=p.Vx;obtain⟨d,K,g⟩:=Ch.same N _ (D2 _) h p;refine⟨max e d,K,λm j x c=>?_⟩;show chg (f x::l.map (· x))=_;rw[nU (iM (i m (by lia) x c)),g m (by lia) x c]
theorem Ch.VC{f g:Rat->Rat}{l:List (Rat->Rat)}(h:Ch a b (f::g::l))(m:TV a b f g):∃n,∀x y,N.I n x->N.I n y->x<y->oR (f::g::l) y<=oR (f::g::l) x:=by
 rcases N.Np h.Pp with z|⟨s,p⟩
 .obtain⟨s,q,n,K,e⟩:=h.qL N m z;obtain⟨o,j⟩:=e n (D2 _);refine⟨n,λx y d c i=>?_⟩;rw[j x d,j y c];have:=o x y d c i;by_cases k:s*f y<0
  .rw[Bi k,Bi (by grind)];exact D2 _
  .rw[BM k];exact XB _ _
 .obtain⟨n,K,e⟩:=h.yo N p;exact⟨n,λx y d c _=>by rw[e n (D2 _) x d,e n (D2 _) y c];exact D2 _⟩
end
section
variable(eN:Rat->Rat->Prop)
noncomputable def ja(p:Rat×Rat):Rat×Rat:=
 have:=i2 (eN p.1 ((p.1+p.2)*2⁻¹))
 if eN p.1 ((p.1+p.2)*2⁻¹)then(p.1,(p.1+p.2)*2⁻¹)else((p.1+p.2)*2⁻¹,p.2)
def cT(p:Rat×Rat):Nat->Rat×Rat
 |0=>p
 |n+1=>ja eN (cT p n)
variable{eN}
theorem qX{p:Rat×Rat}(h:p.1<p.2)(e:∀l m r,l<m->m<r->m=(l+r)*2⁻¹->eN l r->eN l m\/eN m r)(d:eN p.1 p.2):eN (ja eN p).1 (ja eN p).2/\(ja eN p).1<(ja eN p).2/\p.1<=(ja eN p).1/\(ja eN p).2<=p.2/\(ja eN p).2 -(ja eN p).1=(p.2 -p.1)*2⁻¹:=by
 have f:(2:Rat)*2⁻¹=1:=by grind
 unfold ja;by_cases c:eN p.1 ((p.1+p.2)*2⁻¹)
 .simp only[Bi c];exact⟨c,by grind,by grind,by grind,by grind⟩
 .simp only[BM c];refine⟨?_,by grind,by grind,by grind,by grind⟩;rcases e p.1 ((p.1+p.2)*2⁻¹) p.2 (by grind) (by grind) rfl d with k|k
  .exact absurd k c
  .exact k
theorem fN{p:Rat×Rat}(h:p.1<p.2)(d:∀l m r,l<m->m<r->m=(l+r)*2⁻¹->eN l r->eN l m\/eN m r)(c:eN p.1 p.2):∀n,eN (cT eN p n).1 (cT eN p n).2/\(cT eN p n).1<(cT eN p n).2/\((cT eN p n).2 -(cT eN p n).1)*2^n=p.2 -p.1
 |0=>⟨c,h,by show(p.2 -p.1)*2^0=_;rw[eP];grind⟩
 |n+1=>by
  obtain⟨k,e,j⟩:=fN h d c n;obtain⟨i,g,q,o,f⟩:=qX e d k;refine⟨i,g,?_⟩;show((ja eN (cT eN p n)).2 -(ja eN (cT eN p n)).1)*2^(n+1)=_;rw[f,<-j,ag];have e:(2:Rat)*2⁻¹=1:=by grind
  grind
theorem qY:∀n:Nat,((n:Nat):Rat)<=2^n
 |0=>by rw[eP];decide
 |n+1=>by
  have h:=qY n;have c:∀n:Nat,(1:Rat)<=2^n:=λn=>by
   induction n with
   |zero=>rw[eP];grind
   |succ n d=>rw[ag];grind
  have c:=c n;rw[ag];have e:((n+1:Nat):Rat)=((n:Nat):Rat)+1:=by show(((n+1:Nat):Int):Rat)=(((n:Nat):Int):Rat)+((1:Int):Rat);rw[<-i4];rfl
  grind
theorem Y6{x e:Rat}(g:0<x)(c:0<e):∃n:Nat,x<=e*2^n:=by
 have f:=aw.mpr c;have d:e*e⁻¹=1:=SB _ (by grind);have p:=KM g f;refine⟨(x*e⁻¹).num.natAbs,?_⟩;have k:=qY (x*e⁻¹).num.natAbs;have q:x*e⁻¹<=(((x*e⁻¹).num.natAbs:Nat):Rat):=by
  generalize x*e⁻¹=y at p;have l:0<=y.num:=Rat.num_nonneg.mpr (Mo p);have o:=vC y;have j:(1:Rat)<=((y.den:Int):Rat):=by
   have:(1:Int)<=y.den:=by have:=y.den_pos;lia
   exact TK.mpr this
  have m:=GT j (Mo p);have i:((y.num.natAbs:Nat):Rat)=((y.num:Int):Rat):=by show(((y.num.natAbs:Nat):Int):Rat)=_;rw[Int.natAbs_of_nonneg (by lia)]
  rw[i];grind
 have r:=GT (dE q k) (Mo c);have h:e*(x*e⁻¹)=x:=by rw[Tz x,<-ej,d,eQ]
 rw[h]at r;exact r
noncomputable def Kv{a b:Rat}(h:a<b)(d:∀l m r,l<m->m<r->m=(l+r)*2⁻¹->eN l r->eN l m\/eN m r)(f:eN a b):fz a b where
 l n:=(cT eN (a,b) n).1
 r n:=(cT eN (a,b) n).2
 lt n:=(fN (p:=(a,b)) h d f n).2.1
 up n:=by obtain⟨j,i,_⟩:=fN (p:=(a,b)) h d f n;exact(qX i d j).2.2.1
 dn n:=by obtain⟨j,i,_⟩:=fN (p:=(a,b)) h d f n;exact(qX i d j).2.2.2.1
 a0:=by show a<=a;grind
 b0:=by show b<=b;grind
 sm e he:=by obtain⟨n,o⟩:=Y6 (show 0<b -a by grind) he;obtain⟨_,_,g⟩:=fN (p:=(a,b)) h d f n;have g:((cT eN (a,b) n).2 -(cT eN (a,b) n).1)*2^n=b -a:=g;have k:(0:Rat)<2^n:=Rat.pow_pos (by decide);refine⟨n,Rat.le_of_mul_le_mul_right (c:=2^n) ?_ k⟩;rw[g];exact o
theorem Ga{a b:Rat}(h:a<b)(e:∀l m r,l<m->m<r->m=(l+r)*2⁻¹->eN l r->eN l m\/eN m r)(g:∀N:fz a b,∃n,∀x y,N.I n x->N.I n y->x<y->¬eN x y):¬eN a b:=λd=>by obtain⟨n,f⟩:=g (Kv h e d);obtain⟨i,c,_⟩:=fN (p:=(a,b)) h e d n;exact f _ _ ⟨by show(cT eN (a,b) n).1<=(cT eN (a,b) n).1;grind,Mo c⟩ ⟨Mo c,by show(cT eN (a,b) n).2<=(cT eN (a,b) n).2;grind⟩ c i
end
theorem Ch.fall{a b:Rat}(h:a<b){f g:Rat->Rat}{l:List (Rat->Rat)}(o:Ch a b (f::g::l))(j:TV a b f g):oR (f::g::l) b<=oR (f::g::l) a:=by have k:=Ga (eN:=λx y=>oR (f::g::l) x<oR (f::g::l) y) h (λl m r _ _ _ p=>by lia) (λN=>by obtain⟨n,i⟩:=o.VC N j;exact⟨n,λx y e d c=>by have:=i x y e d c;lia⟩);lia
theorem Ch.stay{a b c:Rat}(h:a<b){f:Rat->Rat}{l:List (Rat->Rat)}(e:Ch a b (f::l))(q:0<c)(o:∀x,In a b x->¬ab (f x) c):oR (f::l) a=oR (f::l) b:=by
 have k:=Ga (eN:=λx y=>oR (f::l) x≠oR (f::l) y) h (λl m r _ _ _ t=>by lia) (λN=>by
  rcases N.Np e.Pp with z|⟨s,p⟩
  .obtain⟨n,d⟩:=z c q;have i:N.I n (N.l n):=⟨by grind,Mo (N.lt n)⟩;exact absurd (d _ i) (o _ (N.base i))
  .obtain⟨n,K,d⟩:=e.yo N p;exact⟨n,λx y j g _=>by rw[d n (D2 _) x j,d n (D2 _) y g];exact λh=>h rfl⟩)
 exact ib.mp k
end Num
namespace Num
open Sub
theorem vN{P:Nat->Prop}(h:∃i,¬P i):∃i,¬P i/\∀j,j<i->P j:=by
 obtain⟨i,d⟩:=h
 induction i using Nat.strongRecOn with
 |ind i c=>
  by_cases z:∃j,j<i/\¬P j
  .obtain⟨j,b,a⟩:=z;exact c j b a
  .exact⟨i,d,λj b=>Fs λa=>z ⟨j,b,a⟩⟩
theorem Gb{p:Int}{f:Nat->Int}:∀n,(∀i,i<n->p∣f i)->p∣sm f n
 |0,_=>ZY _
 |n+1,h=>by rw[sm];exact g4 (Gb n λi hi=>h i (by lia)) (h n (by lia))
theorem DM{p:Int}{f g:Nat->Int}(m:qM p)(o:∃i,¬p∣g i)(h:∀k,p∣lD f g k)(j:Nat):p∣f j:=by
 refine Fs λa=>?_;obtain⟨i,n,l⟩:=vN (P:=λi=>p∣g i) o;obtain⟨j,a,d⟩:=vN (P:=λj=>p∣f j) ⟨j,a⟩;have e:=h (j+i);unfold lD at e;have c:p∣sm (λt=>f t*g (j+i -t)) (j+i+1) -sm (λt=>if t=j then f j*g i else 0) (j+i+1):=by
  rw[F6];refine Gb _ λt s=>?_;show p∣f t*g (j+i -t) -(if t=j then f j*g i else 0);by_cases b:t=j
  .rw[Bi b,b,show j+i -j=i by lia,Int.sub_self];exact ZY _
  .rw[BM b,xi];by_cases q:t<j
   .exact Int.dvd_mul_of_dvd_left (d t q)
   .exact wt (l _ (by lia))
 rw[vG j λ_=>f j*g i,Bi (by lia)]at c;have r:p∣f j*g i:=by have:=bM e c;rw[show sm (λt=>f t*g (j+i -t)) (j+i+1) -(sm (λt=>f t*g (j+i -t)) (j+i+1) -f j*g i)=f j*g i by lia]at this;exact this
 exact(F7 m r).elim a n
theorem DN{d:Int}(h:2<=d):∃p,qM p/\p∣d:=by
 have g:∃i:Nat,¬(i<2\/¬(i:Int)∣d):=⟨d.toNat,λz=>z.elim (λz=>by lia) λz=>z (by rw[cZ (by lia)];exact VO _)⟩;obtain⟨i,b,c⟩:=vN g;have k:2<=i:=by refine gL λz=>b (.inl z)
 have a:(i:Int)∣d:=Fs λz=>b (.inr z);refine⟨i,⟨by lia,λe n m z=>?_⟩,a⟩;have j:e∣(i:Int):=wy z;have f:e.toNat<i:=by have l:e*2<=e*e:=kf (by lia) (by lia);lia
 rcases c e.toNat f with z|z
 .lia
 .exact z (by rw[cZ (by lia)];exact YS j a)
theorem VF{f g n:Nat->Int}(u:∀e:Int,(∀i,e∣g i)->e∣1):∀(m:Nat)(d:Int)(f:Nat->Int),d.natAbs<=m->d≠0->(∀k,d*n k=lD f g k)->∀i,d∣f i:=by
 intro m
 induction m with
 |zero=>intro d f h c;exact absurd (by lia) c
 |succ m t=>
  intro d f h c e;by_cases v:d.natAbs=1
  .intro i;exact⟨d*f i,by rcases Int.natAbs_eq d with z|z<;>rw[v]at z<;>rw[z]<;>grind⟩
  .obtain⟨p,l,b⟩:=DN (d:=(d.natAbs:Int)) (by lia);have b:p∣d:=eB.mp b;have w:=l.1;obtain⟨a,rfl⟩:=b;have r:∀i,p∣f i:=DM l (Fs λz=>by have:=fe (by decide) (u p λi=>Fs λy=>z ⟨i,y⟩);lia) λk=>⟨a*n k,by rw[<-e k,a9]⟩;have j:a≠0:=λz=>c (by rw[z,Q1]);have o:∀i,f i=p*(f i/p):=λi=>(xt (r i)).symm;have s:a.natAbs<=m:=by
    rw[FK]at h;have A:2*a.natAbs<=p.natAbs*a.natAbs:=Os _ (by lia);have x:0<a.natAbs:=by lia
    lia
   have:=t a (λi=>f i/p) s j λk=>by have q:=e k;rw[show f=λi=>p*(f i/p)from funext o,Kq,a9]at q;exact QR (by lia) q
   intro i;rw[o i];exact b8 _ (this i)
theorem DO{u:Nat->Rat}(h:Fin u):∃(D:Int)(f:Nat->Int),D≠0/\∀i,(D:Rat)*u i=f i:=by
 obtain⟨n,b⟩:=h;have:∃D:Int,0<D/\∀i,i<n->∃z:Int,(D:Rat)*u i=z:=by
  clear b
  induction n with
  |zero=>exact⟨1,by decide,λi h=>by lia⟩
  |succ n k=>
   obtain⟨D,j,a⟩:=k;have l:=(u n).den_pos;refine⟨D*(u n).den,sT j (by lia),λi c=>?_⟩;by_cases e:i=n
   .subst e;have g:=jS (x:=u i) (B:=(u i).den) (VO _);rw[ef (by lia),fI]at g;refine⟨D*(u i).num,?_⟩;rw[Fm,Fm,g,ej,Tz (u i)]
   .obtain⟨z,hz⟩:=a i (by lia);refine⟨z*(u n).den,?_⟩;rw[Fm,Fm,<-hz];grind
 obtain⟨D,j,a⟩:=this;have d:∀i,∃z:Int,(D:Rat)*u i=z:=λi=>if c:i<n then a i c else⟨0,by rw[b i (by lia),Qb];rfl⟩
 exact⟨D,λi=>il (d i),by lia,λi=>ic (d i)⟩
theorem Kw{u:Nat->Rat}{g n:Nat->Int}(j:Fin u)(c:∀e:Int,(∀i,e∣g i)->e∣1)(h:∀k,((n k:Int):Rat)=aF u (λi=>(g i:Rat)) k):∃z:Nat->Int,∀i,u i=(z i:Rat):=by
 obtain⟨D,f,a,e⟩:=DO j;have d:=VF (f:=f) (n:=n) c D.natAbs D f (D2 _) a λk=>by
  have:((D*n k:Int):Rat)=((lD f g k:Int):Rat):=by rw[<-yj,Fm,h k,<-cj];exact bq e (λ_=>rfl) k
  exact_mod_cast this
 refine⟨λi=>f i/D,λi=>?_⟩;have l:(D:Rat)≠0:=by exact_mod_cast a
 have:=e i;rw[<-xt (d i),Fm]at this;have b:=Nw (D:Rat) l;have:=Pi ((D:Rat)⁻¹*·) this;rw[<-ej,<-ej,b,eQ,eQ]at this;exact this
theorem Ky{ns g:List Int}(H:0<ns.length)(zn:ns.getD (ns.length -1) 0≠0)(K:0<g.length)(v:g.getD (g.length -1) 0≠0)(one:∀d:Int,(∀x∈g,d∣x)->d∣1)(h:DQ (cz g) (cz ns)):
 ∃Z:List Int,0<Z.length/\ns.length+1=Z.length+g.length/\(∀k,ns.getD k 0=lD (co Z) (co g) k)/\ns.getD (ns.length -1) 0=Z.getD (Z.length -1) 0*g.getD (g.length -1) 0:=by
 obtain⟨u,r,e⟩:=h;obtain⟨z,hz⟩:=Kw (g:=co g) (n:=co ns) r (λd C=>one d λx A=>by obtain⟨i,c,e⟩:=Sr A;have:=C i;unfold co at this;rw[AC,B1 c]at this;rw[<-e];exact this) e;have l:((g.getD (g.length -1) 0:Int):Rat)≠0:=by exact_mod_cast v
 have j:((ns.getD (ns.length -1) 0:Int):Rat)≠0:=by exact_mod_cast zn
 have q:∀i,g.length -1<i->cz g i=0:=λi c=>by show((g.getD i 0:Int):Rat)=0;rw[outI (by lia)];rfl
 have p:∃k,u k≠0:=Fs λy=>j (by have b:=e (ns.length -1);have:=bq (f':=λ_=>0) (g:=cz g) (λi=>Fs λw=>y ⟨i,w⟩) (λ_=>rfl) (ns.length -1);rw[this,dw]at b;exact b);obtain⟨k,p⟩:=p;obtain⟨t,B,o⟩:=kO r k p;have a:=pW (f:=u) (g:=cz g) (n:=t) (m:=g.length -1) o q;rw[<-e]at a;have J:t+(g.length -1)<ns.length:=by
  refine WO λy=>?_;have b:cz ns (t+(g.length -1))=0:=by show((ns.getD _ 0:Int):Rat)=0;rw[outI y];rfl
  rw[b]at a;rcases L9.mp a.symm with w|w
  .exact B w
  .exact l w
 have I:ns.length -1<=t+(g.length -1):=by refine gL λy=>j ?_;exact(e (ns.length -1)).trans (vL (n:=t+1) (m:=g.length) (λi c=>o i (by lia)) (λi c=>q i (by lia)) (by lia))
 have D:ns.length -1=t+(g.length -1):=by lia
 have s:∀i,co ((Bn (t+1)).map z) i=z i:=λi=>by
  show((Bn (t+1)).map z).getD i 0=_;by_cases c:i<t+1
  .rw[AC,Da,cw c];rfl
  .rw[outI (by rw[Ap,Ya];lia)];have:=o i (by lia);rw[hz i]at this;exact_mod_cast this.symm
 refine⟨(Bn (t+1)).map z,by rw[Ap,Ya];lia,by rw[Ap,Ya];lia,λk=>?_,?_⟩
 .rw[show co ((Bn (t+1)).map z)=z from funext s];have b:=e k;rw[bq hz (λ_=>rfl) k]at b;have F:=yj z (co g) k;have E:((ns.getD k 0:Int):Rat)=((lD z (co g) k:Int):Rat):=b.trans F;exact_mod_cast E
 .rw[Ap,Ya,HI];have G:((Bn (t+1)).map z).getD t 0=z t:=s t;rw[G];rw[<-D,hz t]at a;have a:((ns.getD (ns.length -1) 0:Int):Rat)=(z t:Rat)*((g.getD (g.length -1) 0:Int):Rat):=a;rw[<-Fm]at a;exact_mod_cast a
theorem Gd{f:Nat->Int}{B:Nat}:∀n,(∀i,i<n->(f i).natAbs<=B)->(sm f n).natAbs<=n*B
 |0,_=>by rw[sm];simp
 |n+1,h=>by rw[sm];have h1:=Gd n λi a=>h i (by lia);have c:=h n (by lia);have b:=VD (sm f n) (f n);rw[tf];lia
instance:Std.Associative aF:=⟨λf g h=>funext λk=>gS g h k f⟩
instance:Std.Commutative aF:=⟨λf g=>funext λk=>b9 f g k⟩
theorem Pu{f h:Nat->Rat}{b:List Rat}(ff:Fin f)(j:Fin h)(d:aA b)(l:b≠[])(e:aF f (cQ b)=aF h (cQ b)):f=h:=funext λi=>by
 have g:Fin λi=> -1*h i:=by obtain⟨n,a⟩:=j;exact⟨n,λi c=>by show-1*h i=0;rw[a i c];grind⟩
 have:=uJ (s:=λi=>f i+ -1*h i) (ff.add g) d l (λk=>by rw[dZ,cj,e];grind) i;have this:f i+ -1*h i=0:=this;grind
theorem BP(g:Nat->Rat):aF (cQ [1]) g=g:=funext λk=>by rw[bq (f':=λi=>if i=0 then 1 else 0) (g':=g) (λi=>?_) (λ_=>rfl) k,qU];cases i<;>rfl
abbrev Pq:=Nat->Rat
def jq(f:Pq):Pq:=λk=>((k+1:Nat):Rat)*f (k+1)
def I1:Pq:=cQ [1]
theorem VG:Fin I1:=aU [1]
theorem Pw(g:Pq):aF I1 g=g:=BP g
theorem VH(g:Pq):aF g I1=g:=(TR (op:=aF) g I1).trans (BP g)
theorem jV{f:Pq}(h:Fin f):Fin (jq f):=by obtain⟨n,a⟩:=h;exact⟨n,λi b=>by show _*f (i+1)=0;rw[a _ (by lia),Qb]⟩
theorem Ge(f g:Pq):jq (aF f g)=λk=>aF (jq f) g k+aF f (jq g) k:=funext λk=>by
 have c:aF (jq f) g k=dY (λi=>((i:Nat):Rat)*(f i*g (k+1 -i))) (k+2):=by rw[lY];unfold aF jq;rw[show((0:Nat):Rat)*(f 0*g (k+1 -0))=0 from dC _,tJ];exact dN _ λi _=>by rw[show k+1 -(i+1)=k -i by lia,ej]
 have b:aF f (jq g) k=dY (λi=>((k+1 -i:Nat):Rat)*(f i*g (k+1 -i))) (k+2):=by show _=dY _ (k+1)+((k+1 -(k+1):Nat):Rat)*(f (k+1)*g (k+1 -(k+1)));rw[show k+1 -(k+1)=0 by lia];rw[show((0:Nat):Rat)*(f (k+1)*g 0)=0 from dC _,x5];unfold aF jq;exact dN _ λi a=>by rw[show k+1 -i=k -i+1 by lia];grind
 rw[c,b,<-vK];show _*aF f g (k+1)=_;unfold aF;rw[<-vJ];exact dN _ λi a=>by
  rw[<-Zy];congr 1;have:k+1=i+(k+1 -i):=by lia
  exact_mod_cast this
theorem cE{f:Pq}(h:Fin f):∃a:List Rat,aA a/\cQ a=f:=by
 obtain⟨n,b⟩:=h;refine⟨gr (nS n f),iK _,funext λi=>?_⟩;show(gr _).getD i 0=_;rw[vE,pU];split
 .rfl
 .exact(b _ (by lia)).symm
def Z0(f:Pq):Prop:=∀i,f i=0
theorem Y7{f g:Pq}(ff:Fin f)(d:Fin g)(h:Z0 (aF f g))(c:¬Z0 g):Z0 f:=by obtain⟨b,a,rfl⟩:=cE d;exact uJ ff a (λe=>c λi=>by rw[e];rfl) h
theorem Nq{f g:Pq}(ff:Fin f)(c:Fin g)(b:¬Z0 f)(a:¬Z0 g):¬Z0 (aF f g):=λh=>b (Y7 ff c h a)
theorem BQ{f h g:Pq}(ff:Fin f)(d:Fin h)(j:Fin g)(c:¬Z0 g)(e:aF f g=aF h g):f=h:=by obtain⟨b,a,rfl⟩:=cE j;exact Pu ff d a (λe=>c λi=>by rw[e];rfl) e
theorem qZ{a:List Rat}(h:¬Z0 (cQ a)):a≠[]:=λe=>h λi=>by rw[e];rfl
theorem iN{a:List Rat}(z:aA a)(h:a≠[]):¬Z0 (cQ a):=λe=>iL z h (e _)
theorem nV{a b c:List Rat}(n:aA a)(m:aA b)(l:aA c)(g:a≠[])(f:b≠[])(e:cQ c=aF (cQ a) (cQ b)):c.length+1=a.length+b.length:=by
 have q:=He.mpr g;have p:=He.mpr f;have t:cQ c (a.length -1+(b.length -1))≠0:=by
  rw[e,pW (λi d=>jd (by lia)) λi d=>jd (by lia)];intro z;rcases L9.mp z with z|z
  .exact iL n g z
  .exact iL m f z
 have k:a.length -1+(b.length -1)<c.length:=WO λh=>t (jd h);have o:c≠[]:=λz=>by rw[z]at k;cases k
 have j:=iL l o;rw[show c.getD (c.length -1) 0=cQ c (c.length -1)from rfl,e]at j;have r:¬a.length+b.length<=c.length -1+1:=λh=>j (vL (λi d=>jd d) (λi d=>jd d) h);lia
def Un(f:Pq):Prop:=DQ f I1
theorem Px{x:Rat}(h:x≠0):Un (cQ [x]):=⟨cQ [x⁻¹],aU _,λk=>by
 have:cQ [x⁻¹]=λi=>x⁻¹*I1 i:=funext λi=>by cases i<;>simp[I1,cQ]
 rw[this,cj,Pw];cases k with
 |zero=>show(1:Rat)=x⁻¹*x;rw[Nw _ h]
 |succ k=>show(0:Rat)=x⁻¹*0;rw[Qb]⟩
theorem rj{a:List Rat}(z:aA a)(n:a≠[])(l:a.length<2):Un (cQ a):=by
 match a,n,l with
 |[x],_,_=>exact Px (iL z (by simp))
def pw(p:Pq):Nat->Pq
 |0=>I1
 |n+1=>aF p (pw p n)
theorem jr{p:Pq}(h:Fin p):∀n,Fin (pw p n)
 |0=>VG
 |n+1=>h.mul (jr h n)
theorem vO(p:Pq)(n:Nat):∀m,pw p (m+n)=aF (pw p m) (pw p n)
 |0=>by rw[i5];exact(Pw _).symm
 |m+1=>by
  rw[show m+1+n=(m+n)+1 by lia];show aF p (pw p (m+n))=aF (aF p (pw p m)) (pw p n);rw[vO p n m]
  ac_rfl
theorem Xy:¬Z0 I1:=λh=>absurd (h 0) (by decide)
theorem Gf{p:Pq}(a:Fin p)(h:¬Z0 p):∀n,¬Z0 (pw p n)
 |0=>Xy
 |n+1=>Nq a (jr a n) h (Gf a h n)
structure rm(p:Pq):Prop where
 fin:Fin p
 nz:¬Z0 p
 un:¬Un p
 or:∀d,Fin d->DQ d p->Un d\/DQ p d
theorem bez{f g:Pq}(ff:Fin f)(l:Fin g):∃h u v:Pq,Fin h/\Fin u/\Fin v/\DQ h f/\DQ h g/\h=λk=>aF u f k+aF v g k:=by obtain⟨a,d,rfl⟩:=cE ff;obtain⟨b,c,rfl⟩:=cE l;obtain⟨h,u,v,_,j,i,n,m,e⟩:=Po _ a b (D2 _) d c;exact⟨cQ h,u,v,aU h,j,i,n,m,funext e⟩
theorem DQ.eq{g a:Pq}(h:DQ g a):∃s,Fin s/\a=aF s g:=by obtain⟨s,b,e⟩:=h;exact⟨s,b,funext e⟩
theorem DQ.cv{g s:Pq}(a:Fin s):DQ g (aF s g):=⟨s,a,λ_=>rfl⟩
theorem DQ.cvR{g s:Pq}(a:Fin s):DQ g (aF g s):=by rw[TR (op:=aF) g s];exact DQ.cv a
theorem rm.cop{p f:Pq}(a:rm p)(ff:Fin f)(h:¬DQ p f):∃u v,Fin u/\Fin v/\I1=λk=>aF u p k+aF v f k:=by
 obtain⟨g,u,v,i,d,c,m,l,e⟩:=bez a.fin ff;rcases a.or g i m with x|x
 .obtain⟨w,b,j⟩:=DQ.eq x;refine⟨aF w u,aF w v,b.mul d,b.mul c,?_⟩;rw[j,e];funext k;rw[qT,xl (op:=aF) w u p,xl (op:=aF) w v f]
 .exact absurd (x.trans l) h
theorem rm.split{p f g:Pq}(a:rm p)(ff:Fin f)(i:Fin g)(h:DQ p (aF f g)):DQ p f\/DQ p g:=by
 by_cases c:DQ p f
 .exact Ng c
 obtain⟨u,v,d,b,e⟩:=a.cop ff c;refine NM ?_;have j:∀k,g k=aF (aF g u) p k+aF v (aF f g) k:=λk=>by
  have:aF I1 g k=g k:=by rw[Pw]
  rw[<-this,e,dZ,show aF (aF u p) g=aF (aF g u) p by ac_rfl,show aF (aF v f) g=aF v (aF f g) by ac_rfl]
 exact(((DQ.refl p).mul _ (i.mul d)).add (h.mul v b)).ext j
theorem fU(g:Pq)(k:Nat):aF (cQ []) g k=0:=(bq (λ_=>rfl) (λ_=>rfl) k).trans (dw g k)
theorem yp{d a:List Rat}(n:aA d)(b:aA a)(m:a≠[])(h:DQ (cQ d) (cQ a)):d≠[]/\(d.length<a.length\/DQ (cQ a) (cQ d)):=by
 obtain⟨s,p,e⟩:=h.eq;obtain⟨s,g,rfl⟩:=cE p;have j:d≠[]:=λz=>by rw[z]at e;refine iN b m λi=>?_;rw[e,b9];exact fU _ i
 have f:s≠[]:=λz=>by rw[z]at e;refine iN b m λi=>?_;rw[e];exact fU _ i
 have l:=nV g n b f j e;have r:=He.mpr f;refine⟨j,?_⟩;by_cases c:s.length<2
 .refine NM ?_;obtain⟨w,o,q⟩:=(rj g f c).eq;refine⟨w,o,λk=>?_⟩;rw[e,show aF w (aF (cQ s) (cQ d))=aF (aF w (cQ s)) (cQ d) by ac_rfl,<-q,Pw]
 .exact Ng (by lia)
theorem Gg:∀(n:Nat)(a:List Rat),a.length<=n->aA a->2<=a.length->∃p,rm p/\DQ p (cQ a)
 |0,a,h,_,l=>absurd (Bz l h) (by decide)
 |n+1,a,h,b,l=>by
  have j:a≠[]:=λz=>by rw[z]at l;cases l
  by_cases c:∃d:Pq,Fin d/\DQ d (cQ a)/\¬Un d/\¬DQ (cQ a) d
  .obtain⟨d,r,w,F,E⟩:=c;obtain⟨d,f,rfl⟩:=cE r;obtain⟨B,o⟩:=yp f b j w;rcases o with o|o
   .have C:2<=d.length:=gL λl=>F (rj f B l);obtain⟨p,D,m⟩:=Gg n d (by lia) f C;exact⟨p,D,m.trans w⟩
   .exact absurd o E
  .refine⟨cQ a,⟨aU a,iN b j,λu=>?_,λd r m=>?_⟩,DQ.refl _⟩
   .have:=(yp (d:=a) (a:=[1]) b (λx k=>by cases k;decide) (by simp) u).2;rcases this with t|t
    .exact absurd t (by simp;lia)
    .obtain⟨s,y,e⟩:=DQ.eq (g:=I1) t;have:(([1]:List Rat)).length<a.length:=by simp;lia
     have G:Un (cQ a):=u;obtain⟨s,y,e⟩:=G.eq;obtain⟨s,A,rfl⟩:=cE y;have v:s≠[]:=λz=>by rw[z]at e;refine Xy λi=>?_;rw[e];exact fU _ i
     have l:=nV (c:=[1]) A b (λx k=>by cases k;decide) v j e;have H:=He.mpr v;simp at l;lia
   .by_cases u:Un d
    .exact Ng u
    .exact NM (Fs λq=>c ⟨d,r,m,u,q⟩)
theorem Py{f:Pq}(ff:Fin f)(c:¬Z0 f)(u:¬Un f):∃p,rm p/\DQ p f:=by obtain⟨a,b,rfl⟩:=cE ff;have d:=qZ c;exact Gg _ a (D2 _) b (gL λl=>u (rj b d l))
theorem Kz{a:List Rat}(h:aA a)(u:Un (cQ a)):a.length=1:=by
 have d:a≠[]:=λz=>by obtain⟨s,f,e⟩:=u.eq;refine Xy λi=>?_;rw[e,b9,z];exact fU _ i
 obtain⟨s,f,e⟩:=u.eq;obtain⟨s,g,rfl⟩:=cE f;have b:s≠[]:=λz=>by rw[z]at e;refine Xy λi=>?_;rw[e];exact fU _ i
 have l:=nV (c:=[1]) g h (λx j=>by cases j;decide) b d e;have m:=He.mpr b;have k:=He.mpr d;simp at l;lia
def Val(p f:Pq)(e:Nat):Prop:=∃s,Fin s/\f=aF (pw p e) s/\¬DQ p s
theorem Gh{p:Pq}(d:rm p):∀(n:Nat)(a:List Rat),a.length<=n->aA a->a≠[]->∃e,Val p (cQ a) e
 |0,a,h,_,l=>absurd (KE.mp (rg.mp h)) l
 |n+1,a,h,j,r=>by
  by_cases c:DQ p (cQ a)
  .obtain⟨s,v,e⟩:=c.eq;obtain⟨s,f,rfl⟩:=cE v;obtain⟨b,g,rfl⟩:=cE d.fin;have m:s≠[]:=λz=>by rw[z]at e;refine iN j r λi=>?_;rw[e];exact fU _ i
   have o:=qZ d.nz;have l:=nV f g j m o e;have x:2<=b.length:=gL λl=>d.un (rj g o l);obtain⟨k,t,u,w,q⟩:=Gh d n s (by lia) f m;refine⟨k+1,t,u,?_,q⟩;rw[e,w];show _=aF (aF _ _) _
   ac_rfl
  .exact⟨0,cQ a,aU a,(Pw _).symm,c⟩
theorem rm.val{p f:Pq}(d:rm p)(ff:Fin f)(c:¬Z0 f):∃e,Val p f e:=by obtain⟨a,b,rfl⟩:=cE ff;exact Gh d _ a (D2 _) b (qZ c)
theorem Val.mul{p f g:Pq}{e k:Nat}(i:rm p)(l:Val p f e)(j:Val p g k):Val p (aF f g) (e+k):=by
 obtain⟨s,b,rfl,d⟩:=l;obtain⟨t,a,rfl,c⟩:=j;refine⟨aF s t,b.mul a,?_,λh=>(i.split b a h).elim d c⟩;rw[vO]
 ac_rfl
theorem Gi{p s t:Pq}{e k:Nat}(a:rm p)(d:Fin s)(c:Fin t)(h:e<k)(b:aF (pw p e) s=aF (pw p k) t):DQ p s:=by obtain⟨n,rfl⟩:∃n,k=e+(n+1):=⟨k -e -1,by lia⟩;rw[vO,show aF (aF (pw p e) (pw p (n+1))) t=aF (aF (pw p (n+1)) t) (pw p e) by ac_rfl,show aF (pw p e) s=aF s (pw p e) by ac_rfl]at b;have:=BQ d ((jr a.fin _).mul c) (jr a.fin e) (Gf a.fin a.nz e) b;rw[this];show DQ p (aF (aF p (pw p n)) t);rw[show aF (aF p (pw p n)) t=aF (aF (pw p n) t) p by ac_rfl];exact DQ.cv ((jr a.fin n).mul c)
theorem Val.uniq{p f:Pq}{e k:Nat}(a:rm p)(m:Val p f e)(l:Val p f k):e=k:=by
 obtain⟨s,c,g,j⟩:=m;obtain⟨t,b,d,i⟩:=l;rcases d3 e k with h|h|h
 .exact absurd (Gi a c b h (g.symm.trans d)) j
 .exact h
 .exact absurd (Gi a b c h (d.symm.trans g)) i
theorem Val.pos{p f:Pq}{e:Nat}(b:rm p)(h:Val p f e):DQ p f↔e≠0:=by
 obtain⟨s,c,rfl,a⟩:=h;cases e with
 |zero=>exact⟨λd=>by rw[show pw p 0=I1 from rfl,Pw]at d;exact absurd d a,λh=>absurd rfl h⟩
 |succ n=>exact⟨λ_=>Nat.succ_ne_zero n,λ_=>by show DQ p (aF (aF p (pw p n)) s);rw[show aF (aF p (pw p n)) s=aF (aF (pw p n) s) p by ac_rfl];exact DQ.cv ((jr b.fin n).mul c)⟩
theorem Fin.TY{f:Pq}(c:Rat)(h:Fin f):Fin λi=>c*f i:=by obtain⟨n,a⟩:=h;exact⟨n,λi b=>by show c*f i=0;rw[a i b,Qb]⟩
theorem Gj(p:Pq):∀n,jq (pw p (n+1))=λk=>((n+1:Nat):Rat)*aF (pw p n) (jq p) k
 |0=>by show jq (aF p I1)=_;rw[VH];funext k;show _=((1:Nat):Rat)*aF I1 (jq p) k;rw[Pw];exact(eQ _).symm
 |n+1=>by
  show jq (aF p (pw p (n+1)))=_;rw[Ge,Gj p n];funext k;show aF (jq p) (pw p (n+1)) k+aF p (λk=>((n+1:Nat):Rat)*aF (pw p n) (jq p) k) k=_;rw[fk,show aF p (aF (pw p n) (jq p))=aF (pw p (n+1)) (jq p)from(xl (op:=aF) p (pw p n) (jq p)).symm,b9];have:((n+1+1:Nat):Rat)=1+((n+1:Nat):Rat):=by
   have:n+1+1=1+(n+1):=by lia
   exact_mod_cast this
  rw[this,Zy,eQ]
theorem KA{p:Pq}(f:rm p):¬DQ p (jq p):=λh=>by
 obtain⟨b,e,rfl⟩:=cE f.fin;obtain⟨a,g,d⟩:=cE (jV (aU b));have c:=qZ f.nz;have k:2<=b.length:=gL λl=>f.un (rj e c l);rw[<-d]at h;have j:a.length<b.length:=WO λl=>by
  have i:a≠[]:=λz=>by rw[z]at l;simp at l;exact c l
  refine iL g i ?_;have:=congrFun d (a.length -1);rw[show a.getD (a.length -1) 0=cQ a (a.length -1)from rfl,this];show _*cQ b _=0;rw[show cQ b (a.length -1+1)=0 from jd (by lia),Qb]
 have:=yi e c g j h;rw[this]at d;have t:=congrFun d (b.length -2);have t:(0:Rat)=((b.length -2+1:Nat):Rat)*cQ b (b.length -2+1):=t;rcases L9.mp t.symm with z|z
 .have:b.length -2+1=0:=by exact_mod_cast z
  lia
 .rw[show b.length -2+1=b.length -1 by lia]at z;exact iL e c z
theorem Val.jq{p f:Pq}{n:Nat}(a:rm p)(h:Val p f (n+1)):Val p (jq f) n:=by
 obtain⟨s,c,rfl,e⟩:=h;refine⟨λk=>((n+1:Nat):Rat)*aF (Num.jq p) s k+aF p (Num.jq s) k,(Fin.TY _ ((jV a.fin).mul c)).add (a.fin.mul (jV c)),?_,λd=>?_⟩
 .rw[Ge,Gj];funext k;show aF (λk=>((n+1:Nat):Rat)*aF (pw p n) (Num.jq p) k) s k+aF (aF p (pw p n)) (Num.jq s) k=_;rw[cj,qT,fk,show aF (aF (pw p n) (Num.jq p)) s=aF (pw p n) (aF (Num.jq p) s) by ac_rfl,show aF (aF p (pw p n)) (Num.jq s)=aF (pw p n) (aF p (Num.jq s)) by ac_rfl]
 .have j:=(d.sub (DQ.cvR (g:=p) (jV c))).ext (b:=λk=>((n+1:Nat):Rat)*aF (Num.jq p) s k) λk=>by grind
  have i:=DQ.Y5 (λz=>by
   have:n+1=0:=by exact_mod_cast z
   lia) j
  exact(a.split (jV a.fin) c i).elim (KA a) e
theorem Val.nz{p f:Pq}{e:Nat}(a:rm p)(h:Val p f e):¬Z0 f:=by obtain⟨s,c,rfl,b⟩:=h;exact Nq (jr a.fin e) c (Gf a.fin a.nz e) λz=>b ((DQ.zero p).ext z)
theorem PB{p:Pq}(a:rm p)(n:Nat):Val p (pw p n) n:=⟨I1,VG,(VH _).symm,a.un⟩
theorem Val.quo{p f q g:Pq}{e k:Nat}(a:rm p)(h:Val p f e)(d:Val p g k)(i:Fin q)(c:¬Z0 q)(E:f=aF q g):Val p q (e -k)/\k<=e:=by obtain⟨j,b⟩:=a.val i c;have:=(E▸h).uniq a (b.mul a d);rw[this,HI];exact⟨b,sk ..⟩
theorem Val.le{p f:Pq}{e n:Nat}(a:rm p)(h:Val p f e):DQ (pw p n) f↔n<=e:=by
 constructor
 .intro d;obtain⟨s,b,E⟩:=d.eq;refine(h.quo a (PB a n) b (λz=>h.nz a λi=>?_) E).2;rw[E,show s=λ_=>0 from funext z];exact dw _ i
 .intro l;obtain⟨s,b,rfl,c⟩:=h;obtain⟨m,rfl⟩:∃m,e=n+m:=⟨e -n,by lia⟩;rw[vO,show aF (aF (pw p n) (pw p m)) s=aF (aF (pw p m) s) (pw p n) by ac_rfl];exact DQ.cv ((jr a.fin m).mul b)
structure VI(f h g:Pq):Prop where
 fin:Fin g
 l:DQ g f
 r:DQ g h
 out:∀d,DQ d f->DQ d h->DQ d g
theorem VI.val{p f h g:Pq}{e k:Nat}(a:rm p)(G:VI f h g)(c:Val p f e)(d:Val p h k):Val p g (min e k):=by
 have j:¬Z0 g:=λz=>c.nz a λi=>by obtain⟨s,o,E⟩:=G.l.eq;rw[E,b9,show g=λ_=>0 from funext z];exact dw _ i
 obtain⟨m,b⟩:=a.val G.fin j;have q:=(c.le a).mp (((b.le a).mpr (D2 m)).trans G.l);have a2:=(d.le a).mp (((b.le a).mpr (D2 m)).trans G.r);have a3:=(b.le a (n:=min e k)).mp (G.out _ ((c.le a).mpr (Nat.min_le_left ..)) ((d.le a).mpr (Nat.min_le_right ..)));rw[show min e k=m by lia];exact b
theorem VI.jb{p f g:Pq}{e:Nat}(a:rm p)(G:VI f (jq f) g)(b:Val p f e):Val p g (e -1):=by
 cases e with
 |succ n=>have:=G.val a b (b.jq a);rw[show min (n+1) n=n+1 -1 by lia]at this;exact this
 |zero=>
  have d:¬Z0 g:=λz=>b.nz a λi=>by obtain⟨s,j,E⟩:=G.l.eq;rw[E,b9,show g=λ_=>0 from funext z];exact dw _ i
  obtain⟨m,c⟩:=a.val G.fin d;have h:=(b.le a).mp (((c.le a).mpr (D2 m)).trans G.l);rw[rg.mp h]at c;exact c
theorem VJ{g f:Pq}(h:DQ g f)(a:¬Z0 f):¬Z0 g:=λz=>a λi=>by obtain⟨s,b,E⟩:=h.eq;rw[E,b9,show g=λ_=>0 from funext z];exact dw _ i
theorem PC{q g f:Pq}(E:f=aF q g)(a:¬Z0 f):¬Z0 q:=λz=>a λi=>by rw[E,show q=λ_=>0 from funext z];exact dw _ i
theorem KC{f g:Pq}(ff:Fin f)(c:¬Z0 f)(j:Fin g)(H:∀p,rm p->DQ p f->¬DQ p g)(d:Pq)(i:Fin d)(b:DQ d f)(h:DQ d g):Un d:=
 Fs λu=>by obtain⟨p,e,a⟩:=Py i (VJ b c) u;exact H p e (a.trans b) (a.trans h)
theorem Gk{f:Pq}(ff:Fin f)(c:¬Z0 f)(H:∀p,rm p->∀e,Val p f e->e<=1)(d:Pq)(i:Fin d)(h:DQ d f)(g:DQ d (jq f)):Un d:=
 KC ff c (jV ff) (λp a x y=>by
  obtain⟨e,b⟩:=a.val ff c;have j:=H p a e b;have k:=(b.pos a).mp x;have:e=0+1:=by lia
  rw[this]at b;exact((b.jq a).pos a).mp y rfl) d i h g
theorem vP(r:Rat)(a:List Rat)(k:Nat):cQ (r::a) (k+1)=cQ a k:=rfl
theorem jW(x:Rat):∀{a:List Rat},(∀k,cQ a k=0)->ev x a=0
 |[],_=>rfl
 |r::a,h=>by have b:r=0:=h 0;rw[bJ,b,jW x (a:=a) λk=>h (k+1)];grind
theorem Aa(x:Rat):∀{a b:List Rat},(∀k,cQ a k=cQ b k)->ev x a=ev x b
 |[],b,h=>(jW x λk=>(h k).symm).symm
 |r::a,[],h=>jW x h
 |r::a,s::b,h=>by have c:r=s:=h 0;rw[bJ,bJ,c,Aa x (a:=a) (b:=b) λk=>h (k+1)]
theorem rq(x c:Rat):∀{a b:List Rat},(∀k,cQ b k=c*cQ a k)->ev x b=c*ev x a
 |[],b,h=>by rw[jW x λk=>by rw[h k];show c*0=0;grind];show 0=c*0;grind
 |r::a,[],h=>by
  by_cases d:c=0
  .rw[d];show 0=0*_;grind
  .rw[jW x (a:=r::a) λk=>by
    have e:0=c*cQ (r::a) k:=h k;rcases L9.mp e.symm with z|z
    .exact absurd z d
    .exact z]
   show 0=c*0;grind
 |r::a,s::b,h=>by have f:s=c*r:=h 0;rw[bJ,bJ,f,rq x c (a:=a) (b:=b) λk=>h (k+1)];grind
theorem rA(x:Rat):∀{a b c:List Rat},(∀k,cQ c k=cQ a k+cQ b k)->ev x c=ev x a+ev x b
 |[],b,c,h=>by rw[Aa x (a:=c) (b:=b) λk=>by rw[h k];show 0+_=_;grind];show _=0+_;grind
 |r::a,[],c,h=>by rw[Aa x (a:=c) (b:=r::a) λk=>by rw[h k];show _+0=_;grind];show _=_+0;grind
 |r::a,s::b,[],h=>by have e:=rA x (a:=a) (b:=b) (c:=[]) λk=>h (k+1);have d:0=r+s:=h 0;rw[bJ,bJ];have f:(0:Rat)=ev x a+ev x b:=e;show(0:Rat)=_;grind
 |r::a,s::b,t::c,h=>by have d:t=r+s:=h 0;rw[bJ,bJ,bJ,d,rA x (a:=a) (b:=b) (c:=c) λk=>h (k+1)];grind
theorem BR(x:Rat):∀{q b c:List Rat},(∀k,cQ c k=aF (cQ q) (cQ b) k)->ev x c=ev x q*ev x b
 |[],b,c,h=>by rw[jW x λk=>(h k).trans (fU _ k)];show 0=0*_;grind
 |r::q,b,c,h=>by
  obtain⟨d,l,f⟩:=cE ((aU q).mul (aU b));have e:=BR x (q:=q) (b:=b) (c:=d) λk=>by rw[f]
  have j:=rq x r (a:=b) (b:=b.map (r*·)) λk=>by
   show(b.map _).getD k 0=r*b.getD k 0;rw[AC,Da,AC];cases b[k]? with
   |none=>show(0:Rat)=r*0;grind
   |some z=>rfl
  have i:=rA x (a:=b.map (r*·)) (b:=0::d) (c:=c) λk=>by
   have g:cQ (b.map (r*·)) k=r*cQ b k:=by
    show(b.map _).getD k 0=r*b.getD k 0;rw[AC,Da,AC];cases b[k]? with
    |none=>show(0:Rat)=r*0;grind
    |some z=>rfl
   rw[h k,g];cases k with
   |zero=>rw[dU];show r*cQ b 0=r*cQ b 0+0;grind
   |succ k=>rw[gR,vP,f];rfl
  rw[i,j,bJ,bJ,e];grind
theorem Nr(x:Rat):∀(d:List Rat),dv x d=ev x (aS d)
 |[]=>rfl
 |r::d=>by
  have e:=Nr x d;show ev x d+x*dv x d=_;rw[e,rA x (a:=d) (b:=0::aS d) (c:=aS (r::d)) λk=>?_,bJ]
  .grind
  .rw[fy,vP];cases k with
   |zero=>show((0+1:Nat):Rat)*_=_+0;have:((0+1:Nat):Rat)=1:=rfl;rw[this];grind
   |succ k=>
    rw[vP,fy];have:((k+1+1:Nat):Rat)=((k+1:Nat):Rat)+1:=by show(((k+1+1:Nat):Int):Rat)=(((k+1:Nat):Int):Rat)+((1:Int):Rat);rw[<-i4];rfl
    rw[this];grind
def jt(r:List Rat):Rat->Rat:=λx=>ev x r
theorem BS{a b:Rat}(h:a<=b)(r:List Rat):Vw a b (jt r):=by obtain⟨C,c,S⟩:=vM h r;exact⟨C,c,S.l⟩
theorem BU{a b:Rat}(h:a<=b)(r:List Rat):Xx a b (jt r):=by obtain⟨C,c,S⟩:=vM h r;exact⟨C,c,S.f0⟩
theorem KD{a b:Rat}(h:a<=b)(r:List Rat):TV a b (jt r) (jt (aS r)):=by obtain⟨C,g,S⟩:=vM h r;refine⟨C,g,λx y f e c=>?_⟩;have:=S.d x y f e c;rw[Nr]at this;exact this
theorem PD(x:Rat)(r:List Rat):ev x (je r)= -1*ev x r:=rq x (-1) λk=>by rw[qV];grind
theorem nE.ch{lo hi:Rat}(h:lo<=hi){a b:List Rat}{l:List (List Rat)}(S:nE a b l):(∃c:Rat,c≠0/\(b::l).getLast?=some [c])->Ch lo hi ((a::b::l).map jt):=by
 induction S with
 |@nil a b i=>rintro⟨c,g,e⟩;cases e;exact .two (BS h a) (.one c g λx _=>by show c+x*0=c;grind)
 |@cons a b r l i y k m=>
  rintro⟨c,g,e⟩;have t:((je r)::l).getLast?=some [c]:=by rw[js]at e;exact e
  obtain⟨z,w,q,n,o⟩:=i;obtain⟨f,u,rfl⟩:=cE n;obtain⟨d,v,j⟩:=cE ((aU f).mul (aU b));refine .cons (BS h a) 1 1 (jt f) (by decide) (by decide) (BU h f) (λx _=>?_) (m ⟨c,g,t⟩);show 1*ev x a+1*ev x (je r)=ev x f*ev x b;have s:=BR x (q:=f) (b:=b) (c:=d) λk=>by rw[j]
  have p:=rA x (a:=d) (b:=r) (c:=a) λk=>by rw[o k,j]
  rw[PD,p,s];grind
def bV(l:List (List Rat))(x:Rat):Nat:=chg (l.map (ev x))
theorem l7(l:List (List Rat))(x:Rat):oR (l.map jt) x=bV l x:=by unfold oR bV;rw[SL];rfl
theorem nE.fall{lo hi:Rat}(h:lo<hi){a:List Rat}{l:List (List Rat)}(S:nE a (aS a) l)(b:∃c:Rat,c≠0/\(aS a::l).getLast?=some [c]):bV (a::aS a::l) hi<=bV (a::aS a::l) lo:=by rw[<-l7,<-l7];exact Ch.fall h (S.ch (Mo h) b) (KD (Mo h) a)
theorem fV{a:List Rat}(h:aA a):aA (aS a):=λx c=>by
 have e:cQ (aS a) ((aS a).length -1)=x:=by show(aS a).getD _ 0=x;rw[AC,<-IR,c];rfl
 have i:0<(aS a).length:=He.mpr λz=>by rw[z]at c;cases c
 have f:=gW a;obtain⟨n,b⟩:∃n,a.length=n+2:=⟨a.length -2,by lia⟩;have g:a≠[]:=λz=>by rw[z]at b;cases b
 rw[f,b]at e;rw[fy]at e;have d:=lX h (by lia);rw[b]at d;rw[<-e];intro z;rcases L9.mp z with z|z
 .have:((n+2 -1 -1+1:Nat):Int)=0:=Gc.mp z;lia
 .exact d z
def iO(c:Rat)(a:List Rat):List Rat:=a.map (c*·)
theorem eO(c:Rat)(a:List Rat)(k:Nat):cQ (iO c a) k=c*cQ a k:=by
 show(a.map _).getD k 0=c*a.getD k 0;rw[AC,Da,AC];cases a[k]? with
 |none=>show(0:Rat)=c*0;grind
 |some z=>rfl
theorem fD(c:Rat)(a:List Rat):(iO c a).length=a.length:=Ap _
theorem gX{c:Rat}(e:c≠0){a:List Rat}(h:aA a):aA (iO c a):=λx b=>by
 unfold iO at b;rw[ij]at b;obtain⟨y,d,rfl⟩:=OF.mp b;intro z;rcases L9.mp z with z|z
 .exact e z
 .exact h y d z
theorem Gm{c:Rat}{a:List Rat}(h:a≠[]):iO c a≠[]:=λz=>h (ml.mp z)
theorem Gp(c x:Rat)(a:List Rat):ev x (iO c a)=c*ev x a:=rq x c (eO c a)
theorem nW{c:Rat}(b:c≠0){a:List Rat}(h:aA a):aS (iO c a)=iO c (aS a):=qP (fV (gX b h)) (gX b (fV h)) λk=>by show cQ _ k=cQ _ k;rw[fy,eO,eO,fy];grind
theorem PJ{c:Rat}(b:c≠0){a:List Rat}(h:aA a):je (iO c a)=iO c (je a):=qP (jn (gX b h)) (gX b (jn h)) λk=>by show cQ _ k=cQ _ k;rw[qV,eO,eO,qV];grind
theorem gU.sc{c:Rat}(f:c≠0){a b r:List Rat}(h:gU a b r):gU (iO c a) (iO c b) (iO c r):=by obtain⟨z,l,q,d,e⟩:=h;refine⟨gX f z,by rw[fD,fD];exact l,q,d,λk=>?_⟩;rw[eO,eO,e k,bq (λ_=>rfl) (eO c b),fk];grind
theorem nE.sc{c:Rat}(d:c≠0){a b:List Rat}{l:List (List Rat)}(h:nE a b l):nE (iO c a) (iO c b) (l.map (iO c)):=by
 induction h with
 |nil h=>exact .nil (h.sc d)
 |@cons a b r l h g k f=>have e:=PJ d h.1;rw[N0,<-e];rw[<-e]at f;exact .cons (h.sc d) (Gm g) f
theorem VM{c a b:Rat}(q:c≠0)(j:a≠0)(i:b≠0):df (c*a) (c*b)=df a b:=by
 have s:∀y:Rat,y≠0->(0<c*y↔(0<c↔0<y)):=λy l=>by
  by_cases d:0<c
  .have f:0<y->0<c*y:=λh=>KM d h;have e:¬0<y->¬0<c*y:=λh k=>by have:=KM d (show 0< -y by grind);grind
   constructor
   .exact λh=>⟨λ_=>Fs λk=>e k h,λ_=>d⟩
   .exact λh=>f (h.mp d)
  .have g:0< -c:=by grind
   have f:¬0<y->0<c*y:=λh=>by have:=KM g (show 0< -y by grind);grind
   have e:0<y->¬0<c*y:=λh k=>by have:=KM g h;grind
   constructor
   .exact λh=>⟨λk=>absurd k d,λk=>absurd h (e k)⟩
   .exact λh=>f λk=>d (h.mpr k)
 unfold df;have p:=s a j;have o:=s b i;by_cases d:0<c<;>by_cases n:0<a<;>by_cases m:0<b<;>simp_all
theorem Ab{c:Rat}(e:c≠0):∀(l:List Rat)(b:Rat),pG (c*b) (l.map (c*·))=pG b l
 |[],b=>rfl
 |x::l,b=>by
  show(if c*x=0 then pG (c*b) (l.map (c*·))else(if c*b=0 then 0 else df (c*b) (c*x))+pG (c*x) (l.map (c*·)))=if x=0 then pG b l else(if b=0 then 0 else df b x)+pG x l
  have i:∀y:Rat,c*y=0↔y=0:=λy=>⟨λz=>(L9.mp z).resolve_left e,λz=>by rw[z,Qb]⟩;rw[Ab e l b,Ab e l x];by_cases a:x=0
  .rw[Bi a,Bi ((i x).mpr a)]
  .rw[BM a,BM λz=>a ((i x).mp z)];by_cases d:b=0
   .rw[Bi d,Bi ((i b).mpr d)]
   .rw[BM d,BM λz=>d ((i b).mp z),VM e d a]
theorem KG{c:Rat}(b:c≠0)(l:List (List Rat))(x:Rat):bV (l.map (iO c)) x=bV l x:=by
 unfold bV chg;have e:(l.map (iO c)).map (ev x)=(l.map (ev x)).map (c*·):=by rw[SL,SL];exact cq λa _=>Gp c x a
 rw[e];have:=Ab b (l.map (ev x)) 0;rw[Qb]at this;exact this
theorem Gq(a:List Rat):cQ (aS a)=jq (cQ a):=funext λk=>fy a k
theorem nE.last{a b:List Rat}{l:List (List Rat)}(S:nE a b l)(p:aA b)(t:b≠[]):∃g,(b::l).getLast?=some g/\aA g/\g≠[]/\VI (cQ a) (cQ b) (cQ g):=by
 induction S with
 |@nil a b h=>obtain⟨_,_,q,c,e⟩:=h;refine⟨b,rfl,p,t,aU b,⟨q,c,λk=>?_⟩,DQ.refl _,λd _ h=>h⟩;rw[e k];show _+0=_;grind
 |@cons a b r l h v k u=>
  obtain⟨g,e,o,s,G⟩:=u (jn h.1) (z8 v);obtain⟨_,_,q,c,m⟩:=h;refine⟨g,by rw[js];exact e,o,s,G.fin,?_,G.l,λd w n=>G.out d n ?_⟩
  .have j:=(G.l.mul q c).add (G.r.mul (cQ [-1]) (aU _));refine j.ext λk=>?_;rw[m k,bq (f:=cQ [-1]) (g:=cQ (je r)) (λi=>(by cases i<;>rfl:cQ [-1] i=if i=0 then-1 else 0)) (λi=>rfl),pX,Bi (Iy k),qV];show _=_+ -1* -cQ r k;grind
  .have j:=(n.mul q c).add (w.mul (cQ [-1]) (aU _));refine j.ext λk=>?_;rw[bq (f:=cQ [-1]) (g:=cQ a) (λi=>(by cases i<;>rfl:cQ [-1] i=if i=0 then-1 else 0)) (λi=>rfl),pX,Bi (Iy k),qV];show _=_+ -1*cQ a k;rw[m k];grind
theorem nE.len{a b:List Rat}{l:List (List Rat)}(S:nE a b l)(c:b≠[]):l.length+1<=b.length:=by
 induction S with
 |nil h=>exact He.mpr c
 |@cons a b r l h e k d=>have:=d (z8 e);rw[BO]at this;have:=h.2.1;rw[A3];lia
theorem vQ:∀(l:List Rat)(b:Rat),pG b l<=l.length
 |[],b=>D2 _
 |x::l,b=>by
  show(if x=0 then pG b l else(if b=0 then 0 else df b x)+pG x l)<=l.length+1;have h1:=vQ l b;have c:=vQ l x;have a:df b x<=1:=by unfold df;split<;>split<;>decide
  split
  .lia
  .split<;>lia
theorem PK(x:Rat)(l:List Rat):chg (x::l)<=l.length:=by
 by_cases h:x=0
 .rw[h,qW];exact vQ l 0
 .rw[nU h];exact vQ l x
noncomputable def Bp(p s:List Rat):Prop:=aA s/\s≠[]/\∃l g a,nE p (aS p) l/\(aS p::l).getLast?=some g/\a≠0/\∀k,cQ p k=a*aF (cQ s) (cQ g) k
noncomputable def Cc(p:List Rat)(C:List (List Rat)):Prop:=∃s l,C=s::aS s::l/\Bp p s/\nE s (aS s) l
structure Rp(p:List Rat):Prop where
 z:aA p
 l2:2<=p.length
theorem Rp.jb{p:List Rat}(h:Rp p):aS p≠[]:=λz=>by have e:=gW p;have:=h.l2;rw[z]at e;have e:0=p.length -1:=e;lia
theorem Rp.ne{p:List Rat}(h:Rp p):p≠[]:=λz=>by have:=h.l2;rw[z]at this;cases this
theorem Gr{c:Rat}{a b:List Rat}(f:c≠0)(e:aA a)(d:aA b)(h:∀k,cQ b k=c*cQ a k):b=iO c a:=qP d (gX f e) λk=>by show cQ _ k=cQ _ k;rw[h,eO]
theorem PL{g a:List Rat}(f:aA g)(j:g≠[])(b:aA a)(k:a≠[])(h:DQ (cQ g) (cQ a)):g.length<=a.length:=by obtain⟨s,l,e⟩:=h.eq;obtain⟨i,d,rfl⟩:=cE l;have c:i≠[]:=qZ (PC e (iN b k));have:=nV d f b c j e;have:=He.mpr c;lia
theorem Bp.len{p s:List Rat}(P:Rp p)(h:Bp p s):Rp s/\s.length<=p.length:=by
 obtain⟨b,m,l,g,t,S,o,n,e⟩:=h;obtain⟨w,j,c,a,G⟩:=S.last (fV P.z) P.jb;rw[o]at j;cases j;obtain⟨d,f,i⟩:=cE ((aU s).mul (aU g));have u:=nV b c f m a i;have q:=Gr n f P.z λk=>by rw[e k,i]
 have x:p.length=d.length:=by rw[q,fD]
 have l2:=PL c a (fV P.z) P.jb G.r;have:=gW p;have:=P.l2;have v:=He.mpr a;exact⟨⟨b,by lia⟩,by lia⟩
theorem Bp.bare{p s:List Rat}(P:Rp p)(h:Bp p s)(d:Pq)(L:Fin d)(H:DQ d (cQ s))(o:DQ d (cQ (aS s))):Un d:=by
 obtain⟨f,j,l,g,a,S,N,c,e⟩:=h;obtain⟨R,q,O,Q,G⟩:=S.last (fV P.z) P.jb;rw[N]at q;cases q;rw[Gq]at G o;have x:=iN P.z P.ne;refine Gk (aU s) (iN f j) (λr b T F=>?_) d L H o;obtain⟨m,n⟩:=b.val (aU p) x;have D:=G.jb b n;have K:Fin λi=>a*cQ s i:=(aU s).TY a;have w:¬Z0 λi=>a*cQ s i:=λz=>iN f j λi=>(L9.mp (z i)).resolve_left c;have E:cQ p=aF (λi=>a*cQ s i) (cQ g):=funext λk=>by rw[e k,cj]
 obtain⟨B,C⟩:=n.quo b D K w E;have A:Val r (cQ s) (m -(m -1)):=by
  obtain⟨u,J,M,t⟩:=B;refine⟨λi=>a⁻¹*u i,J.TY _,funext λk=>?_,λz=>t ?_⟩
  .have:=congrFun M k;have y:a*a⁻¹=1:=SB _ c;rw[fk,<-this];grind
  .obtain⟨v,I,ev⟩:=z;refine⟨λi=>a*v i,I.TY _,λk=>?_⟩;have:=ev k;have y:a*a⁻¹=1:=SB _ c;rw[cj,<-this];grind
 rw[F.uniq b A];lia
theorem Bp.const{p s:List Rat}{l:List (List Rat)}(P:Rp p)(h:Bp p s)(S:nE s (aS s) l):∃c:Rat,c≠0/\(aS s::l).getLast?=some [c]:=by have R:=(h.len P).1;obtain⟨g,d,a,e,G⟩:=S.last (fV R.z) R.jb;have u:=h.bare P (cQ g) (aU g) G.l G.r;have b:=Kz a u;obtain⟨c,rfl⟩:=xf.mp b;exact⟨c,a c rfl,d⟩
theorem Cc.fall{p:List Rat}{C:List (List Rat)}{lo hi:Rat}(P:Rp p)(h:Cc p C)(a:lo<hi):bV C hi<=bV C lo:=by obtain⟨s,l,rfl,B,S⟩:=h;exact S.fall a (B.const P S)
theorem Cc.few{p:List Rat}{C:List (List Rat)}(P:Rp p)(h:Cc p C)(x:Rat):bV C x+1<=p.length:=by obtain⟨s,l,rfl,B,S⟩:=h;obtain⟨R,b⟩:=B.len P;have c:=S.len R.jb;have a:bV (s::aS s::l) x<=_:=PK (ev x s) ((aS s::l).map (ev x));rw[Ap,A3]at a;have:=gW s;have:=R.l2;lia
end Num
namespace Num
def qI(ns:List Int):List Rat:=ns.map λz:Int=>(z:Rat)
theorem cu(ns:List Int):(qI ns).length=ns.length:=Ap _
theorem gu(ns:List Int)(k:Nat):cQ (qI ns) k=((ns.getD k 0:Int):Rat):=by show(ns.map _).getD k 0=_;rw[AC,AC,Da];cases ns[k]?<;>rfl
noncomputable def rB(A:List Int)(a:List Rat):Prop:=∃b:Rat,0<b/\a.length=A.length/\∀k,cQ a k=b*((A.getD k 0:Int):Rat)
noncomputable def Pz:List (List Int)->List (List Rat)->Prop
 |[],[]=>True
 |A::L,a::l=>rB A a/\Pz L l
 |_,_=>False
theorem Pz.app:∀{L:List (List Int)}{l:List (List Rat)}{A:List Int}{a:List Rat},Pz L l->rB A a->Pz (L++[A]) (l++[a])
 |[],[],_,_,_,h=>⟨h,trivial⟩
 |B::L,b::l,_,_,⟨d,c⟩,h=>⟨d,c.app h⟩
theorem Pz.last:∀{L:List (List Int)}{l:List (List Rat)}{a:List Rat},Pz L l->l.getLast?=some a->∃A,L.getLast?=some A/\rB A a
 |[],[],a,_,e=>by cases e
 |[A],[b],a,⟨h1,_⟩,e=>by
  cases e;exact⟨A,rfl,h1⟩
 |A::f::L,b::d::l,a,⟨_,c⟩,e=>by rw[js]at e⊢;exact Pz.last c e
def Jr(a:Int)(α:Rat):Prop:=(a=1/\0<α)\/(a= -1/\α<0)
theorem Jr.row{a:Int}{β:Rat}{B:List Int}{b:List Rat}(h:Jr a β)(c:b.length=B.length)(e:∀k,cQ b k=β*((B.getD k 0:Int):Rat)):rB (B.map (a*·)) b:=by
 have d:∀k,(B.map (a*·)).getD k 0=a*B.getD k 0:=λk=>Sub.map_getD (f:=λy=>a*y) (Q1 a) k;rcases h with⟨rfl,h⟩|⟨rfl,h⟩
 .refine⟨β,h,by rw[Ap];exact c,λk=>?_⟩;rw[d,rp];exact e k
 .refine⟨-β,by grind,by rw[Ap];exact c,λk=>?_⟩;rw[d,e k,Fm];have:((-1:Int):Rat)= -1:=rfl;rw[this];grind
theorem Gv{κ c:Int}(f:c≠0):(0<C0 κ c↔0<κ*c)/\(C0 κ c<0↔κ*c<0):=by
 have g:(c:Rat)≠0:=λz=>f (Gc.mp z);have e:C0 κ c*((c:Rat)*(c:Rat))=((κ*c:Int):Rat):=by rw[lh,Fm];grind
 have d:0<(c:Rat)*(c:Rat):=by
  rcases ui f with h|h
  .have:(c:Rat)<0:=OX.mpr h;have:=KM (a:= -(c:Rat)) (b:= -(c:Rat)) (by grind) (by grind);grind
  .have:0<(c:Rat):=si.mpr h;exact KM this this
 constructor
 .constructor
  .intro h;have:=KM h d;rw[e]at this;exact si.mp this
  .intro h;have h:(0:Rat)<((κ*c:Int):Rat):=si.mpr h;rw[<-e]at h;exact(XR d).mp h
 .constructor
  .intro h;have:=KM (a:= -C0 κ c) (by grind) d;have:((κ*c:Int):Rat)<0:=by rw[<-e];grind
   exact OX.mp this
  .intro h;have h:((κ*c:Int):Rat)<0:=OX.mpr h;rw[<-e]at h;have:=(XR (a:= -C0 κ c) d).mp (by grind);grind
theorem Jr.next{f κ c:Int}{α:Rat}(h:Jr f α)(k0:κ≠0)(k:c≠0):Jr (if decide (κ>0)=decide (c>0)then-f else f) (-(α*C0 κ c)):=by
 obtain⟨j,i⟩:=Gv (κ:=κ) k;have d:∀{x y:Rat},0<x->0<y->0<x*y:=λm l=>KM m l;have g:(decide (κ>0)=decide (c>0)/\0<C0 κ c)\/(¬decide (κ>0)=decide (c>0)/\C0 κ c<0):=by
  rcases ui k0 with a|a<;>rcases ui k with b|b
  .refine .inl ⟨by rw[Ki (by lia),Ki (by lia)],j.mpr (Int.mul_pos_of_neg_of_neg a b)⟩
  .refine .inr ⟨by rw[Ki (by lia),FV b];decide,i.mpr (Int.mul_neg_of_neg_of_pos a b)⟩
  .refine .inr ⟨by rw[FV a,Ki (by lia)];decide,i.mpr (Int.mul_neg_of_pos_of_neg a b)⟩
  .refine .inl ⟨by rw[FV a,FV b],j.mpr (sT a b)⟩
 rcases g with⟨e,s⟩|⟨e,s⟩
 .rw[Bi e];rcases h with⟨rfl,h⟩|⟨rfl,h⟩
  .exact .inr ⟨rfl,by have:=d h s;grind⟩
  .exact .inl ⟨rfl,by have:=d (x:= -α) (by grind) s;grind⟩
 .rw[BM e];rcases h with⟨rfl,h⟩|⟨rfl,h⟩
  .exact .inl ⟨rfl,by have:=d h (y:= -C0 κ c) (by grind);grind⟩
  .exact .inr ⟨rfl,by have:=d (x:= -α) (y:= -C0 κ c) (by grind) (by grind);grind⟩
noncomputable def jf(b:Int):List Int->Nat
 |[]=>0
 |x::l=>if x=0 then jf b l else(if b≠0/\¬decide (x>0)=decide (b>0)then 1 else 0)+jf x l
def PM(z:Int)(r:Rat):Prop:=∃a:Rat,0<a/\r=a*(z:Rat)
theorem PM.pos{z:Int}{r:Rat}(h:PM z r):0<r↔0<z:=by obtain⟨b,a,rfl⟩:=h;rw[Rat.mul_pos_iff_of_pos_left a];exact si
theorem PM.zero{z:Int}{r:Rat}(h:PM z r):r=0↔z=0:=by
 obtain⟨b,a,rfl⟩:=h;constructor
 .intro e;rcases L9.mp e with e|e
  .rw[e]at a;exact absurd a (by decide)
  .exact Gc.mp e
 .rintro rfl;exact Qb b
theorem BV{f:List Int->Int}{g:List Rat->Rat}:∀{L:List (List Int)}{l:List (List Rat)}{b:Int}{c:Rat},Pz L l->(∀A∈L,∀a,rB A a->PM (f A) (g a))->PM b c->pG c (l.map g)=jf b (L.map f)
 |[],[],_,_,_,_,_=>rfl
 |A::L,a::l,b,c,⟨r,q⟩,h,n=>by
  have s:=h A Dx a r;have o:=λ{b c}=>BV (b:=b) (c:=c) q λB p=>h B (DL _ p);show(if g a=0 then pG c (l.map g)else(if c=0 then 0 else df c (g a))+pG (g a) (l.map g))=if f A=0 then jf b (L.map f)else(if b≠0/\¬decide (f A>0)=decide (b>0)then 1 else 0)+jf (f A) (L.map f)
  rw[o n,o s];by_cases z:f A=0
  .rw[Bi z,Bi (s.zero.mpr z)]
  .rw[BM z,BM λe=>z (s.zero.mp e)];congr 1;by_cases j:b=0
   .rw[Bi (n.zero.mpr j),BM λe=>e.1 j]
   .rw[BM λe=>j (n.zero.mp e)];unfold df;have m:=s.pos;have k:=n.pos;by_cases i:0<f A<;>by_cases d:0<b
    .rw[Bi (k.mpr d),Bi (m.mpr i),BM];rintro⟨_,e⟩;exact e (by rw[FV i,FV d])
    .rw[BM λe=>d (k.mp e),Bi (m.mpr i),Bi];exact⟨j,by rw[FV i,Ki d];decide⟩
    .rw[Bi (k.mpr d),BM λe=>i (m.mp e),Bi];exact⟨j,by rw[Ki i,FV d];decide⟩
    .rw[BM λe=>d (k.mp e),BM λe=>i (m.mp e),BM];rintro⟨_,e⟩;exact e (by rw[Ki i,Ki d])
theorem VN{t b:Int}{x:Rat}(r:0<b)(j:x*b=t){A:List Int}{a:List Rat}(h:rB A a):PM (wv t b A) (ev x a):=by
 obtain⟨c,l,k,e⟩:=h;have d:(0:Rat)<(b:Rat):=si.mpr r;have g:c⁻¹≠0:=λz=>by have:=Nw c (by grind);rw[z]at this;grind
 have w:=Nl (t:=t) (b:=b) (B:=c⁻¹) (x:=x) (by grind) j g A a k.symm λi _=>by have:=e i;have m:a.getD i 0=c*((A.getD i 0:Int):Rat):=this;rw[m];have:=Nw c (by grind);grind
 have pw:∀n:Nat,0<(b:Rat)^n:=λn=>by
  induction n with
  |zero=>rw[eP];decide
  |succ n f=>rw[ag];exact KM f d
 have p:=pw A.length;refine⟨((b:Rat)^A.length)⁻¹*(c*b),?_,?_⟩
 .exact KM (aw.mpr p) (KM l d)
 .have q:=Nw ((b:Rat)^A.length) (by grind);have o:=Nw c (by grind);generalize(b:Rat)^A.length=P at*;generalize((wv t b A:Int):Rat)=V at*;have:P⁻¹*(c*b)*V=P⁻¹*c*(V*b):=by grind
  rw[this,w];have:P⁻¹*c*(P*ev x a*c⁻¹)=(P⁻¹*P)*(c⁻¹*c)*ev x a:=by grind
  rw[this,q,o];grind
theorem vR{t b:Int}{x:Rat}(e:0<b)(c:x*b=t){L:List (List Int)}{l:List (List Rat)}(h:Pz L l):bV l x=jf 0 (L.map (wv t b)):=
 BV h (λA _ a d=>VN e c d) ⟨1,by decide,by decide+kernel⟩
end Num
namespace Num
open Sub
theorem Y8{a b c:Int}{x P N K:Nat}(e:c=a+b)(j:c.natAbs<N)(i:N<=P)(g:b.natAbs<=K)(f:K<=31*P)(d:x<=a.natAbs):x<32*P:=by have h:=d9 c b;rw[e,Int.add_sub_cancel,<-e]at h;lia
theorem BW{Z g ns:List Int}{n q:Nat}(e:∀k,ns.getD k 0=lD (co Z) (co g) k)(l:ns.length+1=Z.length+g.length)(r:ns.length<=30)(t:0<g.length)(o:g.getD (g.length -1) 0≠0)(d:∀x∈ns,x.natAbs<2^n)(f:∀x∈g,x.natAbs<2^q):
 ∀s i,Z.length<=i+s->(Z.getD i 0).natAbs<2^(n+s*(q+5))
 |0,i,h=>by rw[outI (by lia)];exact SF (by decide)
 |s+1,i,h=>by
  by_cases hi:Z.length<=i
  .rw[outI hi];exact SF (by decide)
  have ih:=BW e l r t o d f s;have c:=e (i+(g.length -1));generalize E:i+(g.length -1)=k at c;have a:∀(l:List Int)(m:Nat),(∀x∈l,x.natAbs<2^m)->∀j,(l.getD j 0).natAbs<2^m:=λl m h j=>by
   by_cases b:j<l.length
   .exact h _ (getD_mem' b)
   .rw[outI (by lia)];exact SF (by decide)
  have p:lD (co Z) (co g) k=Z.getD i 0*g.getD (g.length -1) 0+sm (λj=>if j=i then 0 else Z.getD j 0*g.getD (k -j) 0) (k+1):=by
   unfold lD co;have u:∀j,Z.getD j 0*g.getD (k -j) 0=(if j=i then Z.getD j 0*g.getD (k -j) 0 else 0)+(if j=i then 0 else Z.getD j 0*g.getD (k -j) 0):=λj=>by
    by_cases z:j=i
    .rw[Bi z,Bi z,ky]
    .rw[BM z,BM z,oa]
   rw[iJ (k+1) λj _=>u j,z6,vG i (λj=>Z.getD j 0*g.getD (k -j) 0),Bi (by lia),show k -i=g.length -1 by lia]
  have v:(sm (λj=>if j=i then 0 else Z.getD j 0*g.getD (k -j) 0) (k+1)).natAbs<=(k+1)*2^(n+s*(q+5)+q):=by
   refine Gd _ λj b=>?_;by_cases z:j=i
   .rw[Bi z];exact Iy _
   .rw[BM z,FK,On 2 _ q];by_cases D:j<i
    .rw[outI (ns:=g) (k:=k -j) (by lia)];exact Iy _
    .exact Kx (SC (ih j (by lia))) (SC (a g q f _))
  have C:=a ns n d k;have B:(Z.getD i 0).natAbs<=(Z.getD i 0*g.getD (g.length -1) 0).natAbs:=by rw[FK];exact Wp _ (by lia)
  have A:(2:Nat)^n<=2^(n+s*(q+5)+q):=FM (by decide) (by lia);have y:(k+1)*2^(n+s*(q+5)+q)<=31*2^(n+s*(q+5)+q):=Os _ (by lia);have w:(2:Nat)^(n+(s+1)*(q+5))=32*2^(n+s*(q+5)+q):=by rw[tf,show n+(s*(q+5)+(q+5))=n+s*(q+5)+q+5 by lia,On 2 _ 5,Ta]
  rw[w];exact Y8 (c.trans p) C A v y B
theorem PN{g m f:Pq}{κ:Rat}(e:∀k,g k=κ*m k)(h:DQ g f):DQ m f:=by obtain⟨s,b,a⟩:=h;refine⟨λk=>κ*s k,b.TY κ,λk=>?_⟩;rw[a k,cj,bq (λ_=>rfl) e,fk]
theorem KH{p:List Rat}{l:List (List Rat)}{c:Rat}(P:Rp p)(S:nE p (aS p) l)(h:(aS p::l).getLast?=some [c])(a:c≠0):Cc p (p::aS p::l):=by
 refine⟨p,l,rfl,⟨P.z,P.ne,l,[c],c⁻¹,S,h,λz=>?_,λk=>?_⟩,S⟩
 .have:=Nw c a;rw[z,dC]at this;exact absurd this (by decide+kernel)
 .have e:∀i,cQ [c] i=c*(if i=0 then 1 else 0):=λi=>by
   cases i with
   |zero=>show c=c*1;grind
   |succ i=>show(0:Rat)=c*0;grind
  rw[bq (λ_=>rfl) e,fk,b9,qU,<-ej,Nw c a,eQ]
theorem ju{ns:List Int}(h:ns.getD (ns.length -1) 0≠0):aA (qI ns):=λx a=>by
 rw[IR,cu]at a;have e:cQ (qI ns) (ns.length -1)=x:=by show(qI ns).getD _ 0=x;rw[AC,a];rfl
 rw[gu]at e;rw[<-e];exact λz=>h (Gc.mp z)
theorem rB.ne{A:List Int}{a:List Rat}(h:rB A a)(z:aA a)(n:a≠[]):A.getD (A.length -1) 0≠0:=λe=>by obtain⟨b,g,c,f⟩:=h;have:=lX z (He.mpr n);have d:a.getD (a.length -1) 0=b*((A.getD (a.length -1) 0:Int):Rat):=f (a.length -1);rw[c,e]at d;rw[c]at this;refine this (d.trans ?_);exact Qb b
theorem PR{ns A a:List Int}{c:Int}{l:List (List Rat)}{g:List Rat}(L:2<=ns.length)(n:ns.getD (ns.length -1) 0≠0)(S:nE (qI ns) (aS (qI ns)) l)(w:(aS (qI ns)::l).getLast?=some g)(y:rB A g)(X:0<c)(Q:∀x∈A,c∣x)(R:∀d:Int,(∀x∈A,d∣x)->d∣c)(C:a=A.map (·/c)):
 ∃Z:List Int,(0<a.length/\a.getD (a.length -1) 0≠0)/\(0<Z.length/\ns.length+1=Z.length+a.length/\(∀k,ns.getD k 0=lD (co Z) (co a) k))/\Bp (qI ns) (qI Z)/\Z.getD (Z.length -1) 0≠0:=by
 have P:Rp (qI ns):=⟨ju n,by rw[cu];exact L⟩;obtain⟨g',E,I,s,G⟩:=S.last (fV P.z) P.jb;rw[w]at E;cases E;have K:=y.ne I s;obtain⟨m,B,O,j⟩:=y;have t:0<A.length:=by rw[<-O];exact He.mpr s
 have f:a.length=A.length:=by rw[C,Ap]
 have o:∀k,A.getD k 0=c*a.getD k 0:=λk=>by
  rw[C];by_cases h:k<A.length
  .rw[AC,AC,Da,B1 h];show A[k]=c*(A[k]/c);rw[xt (Q _ (T2 h))]
  .rw[outI (by lia),outI (by rw[Ap];lia),Q1]
 have q:a.getD (a.length -1) 0≠0:=λe=>K (by rw[o,<-f,e,Q1]);have one:∀d:Int,(∀x∈a,d∣x)->d∣1:=λd Y=>by
  have:c*d∣c:=R _ λx M=>by
   obtain⟨k,j,rfl⟩:=Sr M;have e:=o k;rw[AC,B1 j]at e;have e:A[k]=c*a.getD k 0:=e;rw[e];have v:k<a.length:=by rw[f];exact j
   refine b8 _ (Y _ ?_);rw[AC,B1 v];exact T2 v
  rw[show c=c*1 by rw[fI]]at this;rw[fI]at this;obtain⟨u,N⟩:=this;exact⟨u,QR (Int.ne_of_gt X) (by rw[fI,<-a9];exact N)⟩
 have D:∀k,cQ g k=(m*(c:Rat))*cz a k:=λk=>by rw[j k,o k,Fm,ej]
 have T:DQ (cz a) (cz ns):=(PN D G.l).ext λk=>(gu ns k).symm;obtain⟨Z,J,H,r,F⟩:=Ky (by lia) n (by rw[f];exact t) q one T;have p:Z.getD (Z.length -1) 0≠0:=λe=>n (by rw[F,e,dt]);have U:(c:Rat)≠0:=λz=>by have:=Gc.mp z;lia
 have b:m*(c:Rat)≠0:=λz=>by
  rcases L9.mp z with z|z
  .rw[z]at B;exact absurd B (by decide)
  .exact U z
 refine⟨Z,⟨by rw[f];exact t,q⟩,⟨J,H,r⟩,⟨ju p,λe=>?_,l,g,(m*(c:Rat))⁻¹,S,w,λz=>?_,λk=>?_⟩,p⟩
 .have:=cu Z;rw[e]at this;have:0=Z.length:=this;lia
 .have:=Nw _ b;rw[z]at this;rw[dC]at this;exact absurd this (by decide+kernel)
 .rw[bq (λ_=>rfl) D,fk,<-ej,Nw _ b,eQ,gu,r k,<-yj];exact bq (λi=>(gu Z i).symm) (λ_=>rfl) k
end Num
namespace Num
inductive Bt(V:Rat->Nat):Rat->Rat->Prop
 |leaf {l r:Rat} (h:V l<=V r+1):Bt V l r
 |node {l r:Rat} (h1:Bt V l ((l+r)*2⁻¹)) (h2:Bt V ((l+r)*2⁻¹) r):Bt V l r
def BX(u L:Rat):Prop:=L<=u\/u<=-L
theorem Gw{x e r L M B:Rat}(m:0<L)(k:L+M<=L*B)(l:0<=B)(h:BX x B)(j:BX e L)(i:ab r M):BX (r+x*e) L:=by
 unfold ab at i;have a:∀{x e:Rat},B<=x->L<=e->L+M<=x*e:=λ{x e} c b=>by have g:L*B<=e*B:=d6 b l;have d:e*B<=e*x:=GT c (by grind);have f:e*x=x*e:=Tz ..;rw[f]at d;exact dE k (dE g d)
 unfold BX at*;rcases h with c|c<;>rcases j with b|b
 .have:=a c b;left;grind
 .have:=a (x:=x) (e:= -e) c (by grind);right;grind
 .have:=a (x:= -x) (e:=e) (by grind) b;right;grind
 .have:=a (x:= -x) (e:= -e) (by grind) (by grind);left;grind
theorem Gx{x L M B:Rat}(h:0<L)(g:L+M<=L*B)(i:0<=B)(d:BX x B):∀{a:List Rat}{c:Rat},a.getLast?=some c->BX c L->(∀r∈a,ab r M)->BX (ev x a) L
 |[],_,e,_,_=>by cases e
 |[r],c,e,b,_=>by
  cases e;rw[bJ];show BX (r+x*0) L;rw[Qb,x5];exact b
 |r::k::a,c,e,b,f=>by rw[bJ];rw[js]at e;exact Gw h g i d (Gx h g i d e b λy j=>f y (DL _ j)) (f r Dx)
theorem Cc.yo{p:List Rat}{C:List (List Rat)}{lo hi L:Rat}(P:Rp p)(h:Cc p C)(j:lo<hi)(M:0<L)(A:∀x,In lo hi x->BX (ev x p) L):bV C lo=bV C hi:=by
 obtain⟨s,l,rfl,B,S⟩:=h;have D:=S.ch (lo:=lo) (hi:=hi) (Mo j) (B.const P S);obtain⟨O,U,X,g,f,S',Z,Y,e⟩:=B;obtain⟨G,G0,H⟩:=BU (Mo j) g;have I:∀x,ev x p=f*(ev x s*ev x g):=λx=>by obtain⟨d,Q,n⟩:=cE ((aU s).mul (aU g));rw[rq x f (a:=d) (b:=p) (λk=>by rw[e k,n]),BR x (q:=s) (b:=g) (c:=d) (λk=>by rw[n])]
 obtain⟨K,t,F⟩:∃K:Rat,0<K/\ab f K:=by
  by_cases h:0<f
  .exact⟨f,h,by unfold ab;grind⟩
  .exact⟨-f,by grind,by unfold ab;grind⟩
 have N:0<K*(G+1):=KM t (by grind);have z:=Nw (K*(G+1)) (by grind);have y:0<(K*(G+1))⁻¹:=aw.mpr N;have o:0<L*(K*(G+1))⁻¹*2⁻¹:=KM (KM M y) (aw.mpr (by decide));have J:oR ((s::aS s::l).map jt)=bV (s::aS s::l):=funext λx=>l7 _ x;rw[<-J];refine Ch.stay j D o λx m E=>?_;have r:=cD F (cD E (H x m));have a2:f*(jt s x*jt g x)=ev x p:=(I x).symm;rw[a2]at r;have w:K*(L*(K*(G+1))⁻¹*2⁻¹*G)+K*(L*(K*(G+1))⁻¹*2⁻¹)=L*((K*(G+1))⁻¹*(K*(G+1)))*2⁻¹:=by grind
 rw[z,kb]at w;have T:0<K*(L*(K*(G+1))⁻¹*2⁻¹):=KM t o;have i:=A x m;unfold ab at r;unfold BX at i;generalize K*(L*(K*(G+1))⁻¹*2⁻¹*G)=u at*;generalize K*(L*(K*(G+1))⁻¹*2⁻¹)=v at*;have R:L*2⁻¹<L:=by grind
 rcases i with i|i<;>grind
end Num
namespace Num
open Sub
theorem one_pow{c:Rat}(h:1<=c):∀n:Nat,1<=c^n
 |0=>by rw[eP];decide
 |n+1=>by rw[ag];have i:=one_pow h n;have:=aQ (show 0<=c^n -1 by grind) (show 0<=c -1 by grind);grind
theorem rC{c:Rat}(h:1<=c){n:Nat}:∀{m:Nat},n<=m->c^n<=c^m
 |0,e=>by rw[rg.mp e];exact lx
 |m+1,e=>by
  rcases ei n (m+1)with g|g
  .have i:=rC h (n:=n) (m:=m) (V3 g);rw[ag];have j:=one_pow h m;have:=aQ (show 0<=c^m by grind) (show 0<=c -1 by grind);grind
  .rw[show n=m+1 by lia];exact lx
theorem vb{x y X M:Rat}(n:1<=X)(a:0<=M)(d:ab x X)(c:ab y X)(b:x<=y):∀l:List Rat,(∀z∈l,ab z M)->ab (ev x l) (M*(3*X)^l.length)/\ab (ev y l -ev x l) (M*(3*X)^l.length*(y -x))
 |[],_=>by have:=aQ a (show 0<=y -x by grind);show ab 0 (M*(3*X)^0)/\ab (0 -0) (M*(3*X)^0*(y -x));rw[eP,kb];unfold ab;grind
 |r::l,h=>by
  obtain⟨v,s⟩:=vb n a d c b l λz hz=>h z (DL _ hz);have j:=h r Dx;have o:=one_pow (show(1:Rat)<=3*X by grind) l.length;rw[bJ,bJ,A3,ag];generalize(3*X)^l.length=P at*;have f:0<=y -x:=by grind
  have k:ab (y -x) (y -x):=⟨by grind,by grind⟩;have p:=aQ a (show 0<=P -1 by grind);have g:=aQ (aQ a (show 0<=P by grind)) (show 0<=X -1 by grind);have i:=aQ (aQ a (show 0<=P by grind)) f;have m:=aQ (aQ (aQ a (show 0<=P by grind)) (show 0<=X -1 by grind)) f;constructor
  .exact cO (jo j (cD d v)) (by grind)
  .have e:r+y*ev y l -(r+x*ev x l)=y*(ev y l -ev x l)+(y -x)*ev x l:=by grind
   rw[e];exact cO (jo (cD c s) (cD k v)) (by grind)
def sd(t:Rat):Rat->List Rat->List Rat
 |_,[]=>[]
 |_,s::c=>ev t (s::c)::sd t s c
theorem Gy(t:Rat):∀(b:List Rat)(r:Rat),(sd t r b).length=b.length
 |[],_=>rfl
 |s::c,_=>Pi (·+1) (Gy t c s)
theorem Nt(t x:Rat):∀(b:List Rat)(r:Rat),ev x (r::b) -ev t (r::b)=(x -t)*ev x (sd t r b)
 |[],r=>by show r+x*0 -(r+t*0)=(x -t)*0;grind
 |s::c,r=>by
  have ih:=Nt t x c s;show r+x*ev x (s::c) -(r+t*ev t (s::c))=(x -t)*(ev t (s::c)+x*ev x (sd t s c));generalize ev x (s::c)=u at*;generalize ev t (s::c)=v at*;have:(x -t)*(v+x*ev x (sd t s c))=(x -t)*v+x*((x -t)*ev x (sd t s c)):=by grind
  rw[this,<-ih];grind
theorem Nu{t G:Rat}(a:ab t 8)(g:0<=G):∀(b:List Rat)(r:Rat),ab (ev t (r::b)) G->(∀z∈sd t r b,ab z G)->∀z∈r::b,ab z (9*G)
 |[],r,h,_,z,hz=>by
  rw[Do.mp hz];have e:ev t [r]=r:=by show r+t*0=r;grind
  rw[e]at h;exact cO h (by grind)
 |s::c,r,h,f,z,hz=>by
  have d:=f _ Dx;rcases Fh.mp hz with rfl|hz
  .rw[bJ]at h;have:=cD a d;unfold ab at*;grind
  .exact Nu a g c s d (λz hz=>f z (DL _ hz)) z hz
def Off(x y:Rat):Prop:=1<=y -x\/1<=x -y
theorem PU{u q K:Rat}(h:1<=u\/1<=-u)(g:0<=K)(b:ab (u*q) K):ab q K:=by
 unfold ab at*;have a:∀{u q:Rat},1<=u->u*q<=K->q<=K:=λ{u q} f e=>by
  by_cases c:q<=0
  .grind
  .have:=aQ (show 0<=u -1 by grind) (show 0<=q by grind);grind
 rcases h with h|h
 .have d:=a h b.2;have a2:=a (q:= -q) h (by grind);constructor<;>grind
 .have d:=a (u:= -u) (q:= -q) h (by grind);have a2:=a (u:= -u) (q:=q) h (by grind);constructor<;>grind
theorem interp:∀(d:Nat){a p:List Rat}{Y:Rat},0<=Y->a.length<=d+1->p.length=d+1->p.Pairwise Off->(∀x∈p,ab x 8)->(∀x∈p,ab (ev x a) Y)->∀z∈a,ab z ((18:Rat)^d*Y)
 |_,[],_,_,_,_,_,_,_,_,z,hz=>by cases hz
 |d,r::b,[],Y,_,_,g,_,_,_,z,hz=>by cases g
 |0,r::b,t::p,Y,k,h,g,j,h8,f,z,hz=>by
  have m:b=[]:=KE.mp (by simpa using h);subst m;rw[Do.mp hz,eP,eQ];have:=f t Dx;have e:ev t [r]=r:=by show r+t*0=r;grind
  rw[e]at this;exact this
 |d+1,r::b,t::p,Y,k,h,g,j,h8,f,z,hz=>by
  have o:p.length=d+1:=by simpa using g
  have i:=List.pairwise_cons.mp j;have n:=f t Dx;have l:=interp d (a:=sd t r b) (p:=p) (Y:=2*Y) (by grind) (by rw[Gy];simpa using h) o i.2 (λx c=>h8 x (DL _ c)) λx c=>by
   have e:=Nt t x b r;have v:=f x (DL _ c);refine PU (u:=x -t) ?_ (by grind) ?_
   .have:=i.1 x c;unfold Off at this;grind
   .rw[<-e];unfold ab at*;grind
  have s:=one_pow (show(1:Rat)<=18 by decide) d;rw[ag];generalize(18:Rat)^d=P at*;have q:=aQ (show 0<=P -1 by grind) k;have:=Nu (G:=P*(2*Y)) (h8 t Dx) (by grind) b r (cO n (by grind)) l z hz;exact cO this (by grind)
def pH:List Int:=[-8,-7,-6,-5,-4,-3,-2,-1,0,1,2,3,4,5,6,7,8]
theorem BY:(pH.map λz:Int=>(z:Rat)).Pairwise Off:=by
 rw[List.pairwise_map];have:pH.Pairwise λx y=>1<=y -x:=by unfold pH;decide
 refine this.imp λ{x y} h=>.inl ?_;have:=TK.mpr h;rw[dc]at this;exact this
theorem BZ{α:Type}(p:α->Bool):∀l:List α,(l.filter p).length+(l.filter λx=>!p x).length=l.length
 |[]=>rfl
 |x::l=>by have:=BZ p l;cases h:p x<;>simp[List.filter_cons,h]<;>lia
theorem Gz{f:List Rat}(m:f.length<=9)(j:∃z∈f,z≠0):∃p:List Rat,p.length=9/\p.Pairwise Off/\∀x∈p,ab x 8/\(∃k:Int,x=k)/\ev x f≠0:=by
 have g:∀x∈pH.map λz:Int=>(z:Rat),ab x 8:=λx b=>by
  obtain⟨k,o,rfl⟩:=Hb.mp b;have:∀k∈pH,-8<=k/\k<=8:=by unfold pH;decide
  obtain⟨c,d⟩:=this k o;exact⟨TK.mpr c,TK.mpr d⟩
 have r:=BZ (λx=>decide (ev x f=0)) (pH.map λz:Int=>(z:Rat));have n:(pH.map λz:Int=>(z:Rat)).length=17:=rfl;have wA:=BY.filter λx=>decide (ev x f=0);have i:=BY.filter λx=>!decide (ev x f=0);have e:∀x∈(pH.map λz:Int=>(z:Rat)).filter λx=>decide (ev x f=0),ab x 8/\ev x f=0:=λx b=>by obtain⟨c,d⟩:=T1.mp b;exact⟨g x c,D1 d⟩
 have l:∀x∈(pH.map λz:Int=>(z:Rat)).filter λx=>!decide (ev x f=0),ab x 8/\(∃k:Int,x=k)/\ev x f≠0:=λx b=>by obtain⟨c,d⟩:=T1.mp b;refine⟨g x c,?_,by simpa using d⟩;obtain⟨k,_,rfl⟩:=Hb.mp c;exact⟨k,rfl⟩
 generalize(pH.map λz:Int=>(z:Rat)).filter (λx=>decide (ev x f=0))=A at*;generalize(pH.map λz:Int=>(z:Rat)).filter (λx=>!decide (ev x f=0))=B at*;have q:A.length<=8:=by apply Fs;intro q;obtain⟨z,hz,h⟩:=j;have:=interp 8 (a:=f) (p:=A.take 9) (Y:=0) (by decide) m (by rw[dA];lia) (wA.sublist (R1 _ _)) (λx b=>(e x (rk b)).1) (λx b=>by rw[(e x (rk b)).2];unfold ab;grind) z hz;rw[Qb]at this;unfold ab at this;exact h (by grind)
 exact⟨B.take 9,by rw[dA];lia,i.sublist (R1 _ _),λx b=>l x (rk b)⟩
theorem Ac(k:Int):∀l:List Int,∃v:Int,ev (k:Rat) (qI l)=v
 |[]=>⟨0,rfl⟩
 |r::l=>by obtain⟨v,h⟩:=Ac k l;refine⟨r+k*v,?_⟩;show(r:Rat)+(k:Rat)*ev (k:Rat) (qI l)=_;rw[h,i4,Fm]
theorem Js{z:Int}{M:Nat}:ab (z:Rat) (M:Rat)↔z.natAbs<=M:=by have e:((M:Int):Rat)=(M:Rat):=rfl;unfold ab;rw[<-e,<-N3,TK,TK];lia
theorem VQ{ns Z a:List Int}(e:∀k,ns.getD k 0=lD (co Z) (co a) k)(x:Rat):ev x (qI ns)=ev x (qI Z)*ev x (qI a):=
 BR x λk=>by rw[gu,e k,<-yj];exact bq (λi=>(gu Z i).symm) (λi=>(gu a i).symm) k
theorem PV{ns Z g:List Int}{b:Nat}(e:∀k,ns.getD k 0=lD (co Z) (co g) k)(h:ns.length<=9)(r:Z.length<=9)(o:∃z∈ns,z≠0)(C:∀x∈ns,x.natAbs<=2^b):∀z∈Z,z.natAbs<=2^(b+76):=by
 obtain⟨p,q,m,i⟩:=Gz (f:=qI ns) (by rw[cu];exact h) (by obtain⟨z,hz,l⟩:=o;exact⟨z,Hb.mpr ⟨z,hz,rfl⟩,λe=>l (Gc.mp e)⟩);have Y:∀x∈p,ab (ev x (qI Z)) ((2^(b+42):Nat):Rat):=λx c=>by
  obtain⟨h8,⟨k,rfl⟩,d⟩:=i x c;have v:=(vb (X:=8) (M:=((2^b:Nat):Rat)) (by decide) (Re) h8 h8 lx (qI ns) λz hz=>by obtain⟨y,u,rfl⟩:=Hb.mp hz;exact Js.mpr (C y u)).1;have n:=rC (show(1:Rat)<=3*8 by decide+kernel) (show(qI ns).length<=9 by rw[cu];exact h);have A:(3*8:Rat)^9<=((2^42:Nat):Rat):=by decide+kernel
  have D:(0:Rat)<=((2^b:Nat):Rat):=Re;have v:=cO v (GT (dE n A) D);rw[<-QQ,<-On]at v;rw[VQ e]at v d;obtain⟨s,j⟩:=Ac k Z;obtain⟨t,w⟩:=Ac k g;rw[j,w,<-Fm]at v d;rw[j];have E:t≠0:=λz=>d (by rw[z,Q1];rfl);refine Js.mpr (Bz ?_ (Js.mp v));rw[FK];exact Wp _ (by lia)
 intro z hz;have:=interp 8 (a:=qI Z) (p:=p) (Y:=((2^(b+42):Nat):Rat)) Re (by rw[cu];exact r) q m (λx c=>(i x c).1) Y z (Hb.mpr ⟨z,hz,rfl⟩);have B:(18:Rat)^8<=((2^34:Nat):Rat):=by decide+kernel
 have:=cO this (d6 B (show(0:Rat)<=((2^(b+42):Nat):Rat)from Re));rw[<-QQ,<-On]at this;exact Bz (Js.mp this) (FM (by decide) (by lia))
end Num
namespace Sub
noncomputable def jX(b:Nat):List Vc->Vc->Prop
 |[],S=>∀a,S a=0
 |c::cs,S=>∃(d:Int)(e:Vc),d.natAbs<=b/\jX b cs e/\∀a,S a=d*c a+e a
theorem jX.up{b a:Nat}(h:b<=a):∀{cs:List Vc}{S:Vc},jX b cs S->jX a cs S
 |[],_,k=>k
 |_::_,_,⟨d,g,f,e,c⟩=>⟨d,g,Bz f h,jX.up h e,c⟩
theorem jX.ext{b:Nat}:∀{cs:List Vc}{S T:Vc},jX b cs S->(∀a,T a=S a)->jX b cs T
 |[],_,_,k,e=>λa=>(e a).trans (k a)
 |_::_,_,_,⟨d,h,g,f,c⟩,e=>⟨d,h,g,f,λa=>(e a).trans (c a)⟩
theorem jX.zero:∀{b:Nat}{cs:List Vc},jX b cs λ_=>0
 |_,[]=>λ_=>rfl
 |_,_::_=>⟨0,_,Iy _,jX.zero,λa=>by rw[dt];rfl⟩
theorem jX.Xv{b g:Nat}{k l:Int}:∀{cs:List Vc}{S T:Vc},jX b cs S->jX g cs T->jX (k.natAbs*b+l.natAbs*g) cs λa=>k*S a+l*T a
 |[],S,T,f,e=>λa=>by show k*S a+l*T a=0;rw[f a,e a,Q1,Q1];rfl
 |c::cs,S,T,⟨d,j,f,e,h⟩,⟨d',i,k1,k2,k3⟩=>by
  refine⟨k*d+l*d',_,?_,jX.Xv e k2,λa=>?_⟩
  .refine Bz (VD _ _) ?_;rw[FK,FK];exact u3 (Ee _ f) (Ee _ k1)
  .show k*S a+l*T a=_;rw[h a,k3 a];grind
theorem jX.ins{b:Nat}(c:Vc){q:List Vc}:∀{p:List Vc}{S:Vc},jX b (p++q) S->jX b (p++c::q) S
 |[],S,h=>⟨0,S,Iy _,h,λi=>by rw[dt,oa]⟩
 |_::_,_,⟨d,g,f,e,a⟩=>⟨d,g,f,jX.ins c e,a⟩
theorem Nv{D:Ix->List Vc->Int}{r:Ix}{M b:Nat}:∀(a d:List Vc),(∀c∈a,(c r).natAbs<=M)->(∀u,(∀c∈u,c∈d\/c∈a)->u.length+1=d.length+a.length->jX b u λe=>D e u)->jX (a.length*(M*b)) (d++a) λe=>ex (D e) r d a
 |[],d,_,_=>jX.zero
 |c::a,d,i,j=>by
  have ih:=Nv (D:=D) (r:=r) (M:=M) (b:=b) a (d++[c]) (λx f=>i x (DL _ f)) (λu m n=>j u (λx f=>by
   rcases m x f with h|h
   .rcases Ha.mp h with h|h
    .exact .inl h
    .exact .inr (by rw[Do.mp h];exact Dx)
   .exact .inr (DL _ h)) (by simp at n⊢;lia))
  have g:=j (d++a) (λx f=>(Ha.mp f).imp id (DL _)) (by simp;lia);have g:=jX.ins c g;rw[Pm]at ih;refine jX.ext (jX.up ?_ (jX.Xv (k:=c r) (l:= -1) g ih)) λe=>?_
  .have:=Os b (i c Dx);rw[A3,tf,show(-1:Int).natAbs=1 from rfl,X1,mM];exact Nat.add_le_add_left this _
  .show c r*D e (d++a) -ex (D e) r (d++[c]) a=_;grind
theorem GA{N M:Nat}(q:1<=N*M):∀(j:List Ix)(cs:List Vc),cs.length<=N->(∀c∈cs,∀i,(c i).natAbs<=M)->jX ((N*M)^j.length) cs λg=>det (j++[g]) cs
 |[],[],_,_=>λg=>rfl
 |[],[c],_,_=>⟨1,λ_=>0,D2 _,λ_=>rfl,λg=>by show c g*1 -0=_;grind⟩
 |[],c::d::cs,_,_=>jX.ext jX.zero λg=>by
    have:∀(a f:List Vc),2<=f.length+a.length->ex (det []) g f a=0:=λa=>by
     induction a with
     |nil=>intro f _;rfl
     |cons x a n=>
      intro f h;show x g*det [] (f++a) -ex (det []) g (f++[x]) a=0;rw[n (f++[x]) (by simp at h⊢;lia)];have:f++a≠[]:=λz=>by have:=Pi el z;rw[GM,M5]at this;rw[A3]at h;lia
      obtain⟨y,s,e⟩:=List.exists_cons_of_ne_nil this;rw[e];show x g*0 -0=0;grind
    exact this (c::d::cs) [] (by simp)
 |r::j,cs,p,m=>by have:=Nv (D:=λg=>det (j++[g])) (r:=r) (M:=M) (b:=(N*M)^j.length) cs [] (λc l=>m c l r) (λu o k=>GA q j u (by simp at k;lia) λc l i=>(o c l).elim (λh=>by cases h) λh=>m c h i);refine jX.up ?_ this;rw[A3,GS,Ta _ (N*M),<-ik];exact Os _ (Os _ p)
end Sub
namespace Num
open Sub
noncomputable def eS(x:Rat):Nat->(Nat->Int)->Rat
 |0,_=>0
 |N+1,c=>(c 0:Rat)+x*eS x N λi=>c (i+1)
theorem vU(x:Rat):∀(N:Nat){c d:Nat->Int},(∀i,c i=d i)->eS x N c=eS x N d
 |0,_,_,_=>rfl
 |N+1,c,d,h=>by show(c 0:Rat)+_=(d 0:Rat)+_;rw[h 0,vU x N λi=>h (i+1)]
theorem GB(x:Rat)(k:Int):∀(N:Nat)(c d:Nat->Int),eS x N (λi=>k*c i+d i)=(k:Rat)*eS x N c+eS x N d
 |0,_,_=>by show(0:Rat)=_*0+0;grind
 |N+1,c,d=>by show((k*c 0+d 0:Int):Rat)+x*eS x N (λi=>k*c (i+1)+d (i+1))=(k:Rat)*((c 0:Rat)+x*eS x N λi=>c (i+1))+((d 0:Rat)+x*eS x N λi=>d (i+1));rw[GB x k N,i4,Fm];grind
theorem pY(x:Rat):∀(N:Nat){c:Nat->Int},(∀i,c i=0)->eS x N c=0
 |0,_,_=>rfl
 |N+1,c,h=>by show(c 0:Rat)+x*eS x N _=0;rw[h 0,pY x N λi=>h (i+1)];show(0:Rat)+x*0=0;grind
theorem Nx(x:Rat):∀(N:Nat){c:Nat->Int},c N=0->eS x (N+1) c=eS x N c
 |0,c,h=>by show(c 0:Rat)+x*0=0;rw[h];show(0:Rat)+x*0=0;grind
 |N+1,c,h=>by show(c 0:Rat)+x*eS x (N+1) (λi=>c (i+1))=(c 0:Rat)+x*eS x N λi=>c (i+1);rw[Nx x N h]
theorem Ny(x:Rat):∀(j N:Nat){c:Nat->Int},(∀t,N<=t+j->c t=0)->eS x N (λt=>if j<=t then c (t -j)else 0)=x^j*eS x N c
 |0,N,c,_=>by rw[eP,eQ];exact vU x N λi=>Bi (Iy _)
 |j+1,0,c,_=>by show(0:Rat)=_*0;grind
 |j+1,N+1,c,h=>by
  have ih:=Ny x j N (c:=c) λt a=>h t (by lia);have e:=Nx x N (c:=c) (h N (by lia));show(((if j+1<=0 then c (0 -(j+1))else 0:Int)):Rat)+x*eS x N (λi=>if j+1<=i+1 then c (i+1 -(j+1))else 0)=_;rw[BM (by lia),e,ag,vU x N (d:=λt=>if j<=t then c (t -j)else 0) (λi=>by
   by_cases g:j<=i
   .rw[Bi (by lia),Bi g,Nat.add_sub_add_right]
   .rw[BM (by lia),BM g]),ih]
  show(0:Rat)+_=_;grind
theorem GC(x:Rat):∀(N:Nat)(l:List Int),l.length<=N->eS x N (co l)=ev x (qI l)
 |N,[],_=>pY x N λi=>rfl
 |0,_::_,h=>by simp at h
 |N+1,r::l,h=>by show(r:Rat)+x*eS x N (co l)=(r:Rat)+x*ev x (qI l);rw[GC x N l (by simpa using h)]
theorem Ad{x X:Rat}{b N:Nat}(j:1<=X)(f:ab x X){l:List Int}{g:List Int}:∀(n:Nat){cs:List Vc}{S:Vc},l.length+n<=N+1->jX b (kq (vc l g) n++cs) S->∃(U:Rat)(a:Vc),ab U ((n:Rat)*(b:Rat)*X^n)/\jX b cs a/\eS x N (λt=>S (false,t))=U*ev x (qI l)+eS x N λt=>a (false,t)
 |0,cs,S,_,h=>⟨0,S,by show ab 0 (0*_*_);unfold ab;grind,h,by grind⟩
 |n+1,cs,S,F,⟨d,A,u,s,r⟩=>by
  obtain⟨U,a,q,p,e⟩:=Ad (N:=N) j f n (by lia) s;refine⟨(d:Rat)*x^n+U,a,?_,p,?_⟩
  .have k:∀n:Nat,ab (x^n) (X^n):=λn=>by
    induction n with
    |zero=>rw[eP,eP];unfold ab;decide
    |succ n o=>rw[ag,ag];exact cD o f
   have z:=cD (Js.mpr u) (k n);have D:=one_pow j n;have y:((n+1:Nat):Rat)=(n:Rat)+1:=Rat.natCast_add n 1;have i:(0:Rat)<=(b:Rat):=Re;have m:(0:Rat)<=(n:Rat):=Re;rw[y,ag];generalize X^n=P at*;have C:=aQ (aQ i (show 0<=P by grind)) (show 0<=X -1 by grind);have B:=aQ (aQ (aQ m i) (show 0<=P by grind)) (show 0<=X -1 by grind);exact cO (jo z q) (by grind)
  .have w:eS x N (λt=>S (false,t))=(d:Rat)*eS x N (λt=>sh n (vc l g) (false,t))+eS x N λt=>A (false,t):=by rw[<-GB];exact vU x N λt=>r (false,t)
   have v:eS x N (λt=>sh n (vc l g) (false,t))=x^n*ev x (qI l):=by rw[<-GC x N l (by lia)];exact Ny x n N (c:=co l) λt E=>outI (by lia)
   rw[w,v,e];grind
theorem Y9{x X:Rat}{f g:List Int}{M N m n:Nat}(o:1<=X)(q:ab x X)(S:f.length=m+1)(Q:g.length=n+1)(Z:m+n=N)(I:1<=N)(J:1<=M)(G:∀z∈f,z.natAbs<=M)(F:∀z∈g,z.natAbs<=M)(C:SS N (vc f []) (vc g []) n m (false,0)≠0)(B:∀t,0<t->SS N (vc f []) (vc g []) n m (false,t)=0):
 ∃(R:Int)(U V:Rat),R≠0/\ab U (((N*(N*M)^N:Nat):Rat)*X^N)/\ab V (((N*(N*M)^N:Nat):Rat)*X^N)/\(R:Rat)=U*ev x (qI f)+V*ev x (qI g):=by
 have v:1<=N*M:=fh I J;have s:∀{l:List Int},(∀z∈l,z.natAbs<=M)->∀j i,(sh j (vc l []) i).natAbs<=M:=λ{l} h j i=>F3 (λi=>by
  unfold vc;split
  .exact Iy _
  .by_cases k:i.2<l.length
   .exact h _ (getD_mem' k)
   .rw[outI (by lia)];exact Iy _) j i
 have h:=GA (N:=N) (M:=M) v (rws N (n+m -1)) (kq (vc f []) n++kq (vc g []) m) (by rw[GM,jT,jT];lia) λc a i=>by
  rcases Ha.mp a with a|a
  .obtain⟨j,_,rfl⟩:=kN a;exact s G j i
  .obtain⟨j,_,rfl⟩:=kN a;exact s F j i
 have h:=jX.up (FM v (Bz (vI _ _) (show n+m -1<=N by lia))) h;generalize Y:(N*M)^N=b at*;obtain⟨U,S',A,a,e⟩:=Ad (N:=N) o q n (by lia) h;rw[<-X9 (kq (vc g []) m)]at a;obtain⟨V,H,y,p,E⟩:=Ad (N:=N) o q m (by lia) a;rw[E,pY x N (c:=λt=>H (false,t)) (λi=>p _)]at e;have D:eS x N (λt=>det (rws N (n+m -1)++[(false,t)]) (kq (vc f []) n++kq (vc g []) m))=((SS N (vc f []) (vc g []) n m (false,0):Int):Rat):=by obtain⟨d,rfl⟩:∃d,N=d+1:=⟨N -1,by lia⟩;show _+x*eS x d _=_;rw[pY x d (c:=λi=>det (rws (d+1) (n+m -1)++[(false,i+1)]) (kq (vc f []) n++kq (vc g []) m)) (λi=>B (i+1) (ZL _)),Qb,x5];rfl
 rw[D]at e;have u:(0:Rat)<=(b:Rat):=Re;have up:∀k:Nat,k<=N->(k:Rat)*(b:Rat)*X^k<=((N*b:Nat):Rat)*X^N:=λk r=>by rw[QQ];have T:(k:Rat)<=(N:Rat):=cm.mpr r;have P:=rC o r;have O:=one_pow o k;have w:(0:Rat)<=(k:Rat):=Re;have L:=aQ (aQ (show 0<=(N:Rat) -k by grind) u) (show 0<=X^N by grind);have K:=aQ (aQ w u) (show 0<=X^N -X^k by grind);grind
 refine⟨_,U,V,C,cO A (up n (by lia)),cO y (up m (by lia)),?_⟩;rw[e];grind
noncomputable def Rs(ns:List Int):Prop:=SS (ns.length -1+((bI ns).length -1)) (vc ns []) (vc (bI ns) []) ((bI ns).length -1) (ns.length -1) (false,0)≠0/\∀t,0<t->SS (ns.length -1+((bI ns).length -1)) (vc ns []) (vc (bI ns) []) ((bI ns).length -1) (ns.length -1) (false,t)=0
theorem Sm.rs{ns A B:List Int}{w E D:Nat}{d h:Int}{α β:Rat}{a b:List Rat}(S:Sm ns (bI ns) w E D A B d h α β a b)(m:B.length=1)(n:2<=A.length):Rs ns:=by
 have H:=S.C.ch;obtain⟨s,j⟩:∃s,A.length -1=1+s:=⟨A.length -2,by lia⟩;rw[j,show B.length -1=0 by lia]at H;obtain⟨f,sg,e⟩:=H.inv 0 (D2 _) (by lia);have k:∀c,(B.getD 0 0)^s*vc B [] c=f*(d^0*h^s)*SS (ns.length -1+((bI ns).length -1)) (vc ns []) (vc (bI ns) []) ((bI ns).length -1) (ns.length -1) c:=λc=>by have t:=BJ (A:=vc A []) H.lead H.zero s c;have e:=e c;rw[show 1+s -0 -1=s by lia,show 1+s+0 -0=0+1+s by lia]at e;exact t.symm.trans e
 have g:=H.DJ;have l:f*(d^0*h^s)≠0:=Hk (by rcases sg with rfl|rfl<;>decide) (Hk (by rw[UV];decide) (c7 H.h0 s));constructor
 .intro z;have:=k (false,0);rw[z,Q1,H.lead]at this;exact Hk (c7 g s) g this
 .intro t i;have:=k (false,t);rw[H.zero t i,Q1]at this;exact(Int.mul_eq_zero.mp this.symm).resolve_left l
theorem B3{f g:Rat->Rat}{l:List (Rat->Rat)}{x:Rat}(h:g x≠0):oR (f::g::l) x<=oR (g::l) x+1/\oR (g::l) x<=oR (f::g::l) x:=by
 show chg (f x::g x::l.map (· x))<=chg (g x::l.map (· x))+1/\chg (g x::l.map (· x))<=chg (f x::g x::l.map (· x));by_cases a:f x=0
 .rw[a,qW];exact⟨vk _,D2 _⟩
 .rw[nU a,nT h a,nU h];have:df (f x) (g x)<=1:=by unfold df;split<;>split<;>decide
  lia
theorem GD{f:Rat->Rat}{lo hi x ε L:Rat}(h:¬ab (f lo) ε)(c:ab (f x -f lo) (L*(x -lo)))(d:L*(hi -lo)<=ε*2⁻¹)(b:0<=L)(a:In lo hi x):¬ab (f x) (ε*2⁻¹):=λk=>h (by
 have:=aQ b (show 0<=hi -x by have:=a.2;grind);have e:(2:Rat)*2⁻¹=1:=by grind
 unfold ab at*;grind)
theorem Cc.Za{p:List Rat}{C:List (List Rat)}{Z:List Int}{s:List Rat}{lo hi X L ε:Rat}(P:Rp p)(h:Cc p C)(H:C.head?=some s)(K:rB Z s)(g:lo<hi)(O:0<ε)(w:0<=L)
 (J:∀x,In lo hi x->ab (ev x (qI Z) -ev lo (qI Z)) (L*(x -lo)))(I:∀x,In lo hi x->ab (ev x (qI (bI Z)) -ev lo (qI (bI Z))) (L*(x -lo)))(d:L*(hi -lo)<=ε*2⁻¹)
 (y:¬(ab (ev lo (qI Z)) ε/\ab (ev lo (qI (bI Z))) ε)):bV C lo<=bV C hi+1:=by
 obtain⟨T,l,rfl,B,S⟩:=h;cases H;have t:=S.ch (lo:=lo) (hi:=hi) (Mo g) (B.const P S);obtain⟨a,m,D,i⟩:=K;have N:∀x,ev x s=a*ev x (qI Z):=λx=>rq x a λk=>by rw[i k,gu]
 have M:∀x,ev x (aS s)=a*ev x (qI (bI Z)):=λx=>rq x a λk=>by rw[fy,gu,l6,i,Fm];show((k+1:Nat):Rat)*_=a*(((k+1:Nat):Rat)*_);grind
 have j:∀{q:List Rat}{Y:List Int},(∀x,ev x q=a*ev x (qI Y))->(∀x,In lo hi x->¬ab (ev x (qI Y)) (ε*2⁻¹))->∀x,In lo hi x->¬ab (jt q x) (a*(ε*2⁻¹)):=λ{q Y} e n x b k=>n x b (by
  have k:ab (ev x q) (a*(ε*2⁻¹)):=k;rw[e x]at k;unfold ab at*;have E:a* -(ε*2⁻¹)<=a*ev x (qI Y):=by grind
  exact⟨TC E m,TC k.2 m⟩)
 have u:0<a*(ε*2⁻¹):=KM m (KM O (aw.mpr (by decide)));rw[<-l7,<-l7];by_cases v:ab (ev lo (qI Z)) ε
 .have a2:¬ab (ev lo (qI (bI Z))) ε:=λa2=>y ⟨v,a2⟩;have r:=j M λx b=>GD (f:=λx=>ev x (qI (bI Z))) a2 (I x b) d w b;have c:=Ch.stay g (Ch.tail t) u r;have o:∀x,In lo hi x->jt (aS s) x≠0:=λx b z=>r x b (by rw[z];unfold ab;grind);have F:In lo hi lo:=⟨lx,Mo g⟩;have G:In lo hi hi:=⟨Mo g,lx⟩;have R:=(B3 (f:=jt s) (l:=l.map jt) (o lo F)).1;have Q:=(B3 (f:=jt s) (l:=l.map jt) (o hi G)).2;show oR (jt s::jt (aS s)::l.map jt) lo<=oR (jt s::jt (aS s)::l.map jt) hi+1;have c:oR (jt (aS s)::l.map jt) lo=oR (jt (aS s)::l.map jt) hi:=c;lia
 .have A:=j N λx b=>GD (f:=λx=>ev x (qI Z)) v (J x b) d w b;have c:=Ch.stay g t u A;show oR (jt s::jt (aS s)::l.map jt) lo<=_;have c:oR (jt s::jt (aS s)::l.map jt) lo=oR (jt s::jt (aS s)::l.map jt) hi:=c;exact vi (km c)
theorem Cc.sep{p:List Rat}{C:List (List Rat)}{Z:List Int}{s:List Rat}{lo hi:Rat}{β ξ D:Nat}(P:Rp p)(h:Cc p C)(hs:C.head?=some s)(hZ:rB Z s)(F:Rs Z)(l2:2<=Z.length)(A:Z.length<=9)(Q:∀z∈Z,z.natAbs<=2^β)(hl:lo<hi)(T:ab lo ((2^ξ:Nat):Rat))(bh:ab hi ((2^ξ:Nat):Rat))(hD:16*β+24*ξ+133<=D)(d:(hi -lo)*((2^D:Nat):Rat)<=1):bV C lo<=bV C hi+1:=by
 have ls:=d7 Z;have l:(1:Rat)<=((2^ξ:Nat):Rat):=cm.mpr h7;have S:∀z∈bI Z,z.natAbs<=2^(β+3):=λz hz=>by obtain⟨k,hk,rfl⟩:=mem_getD hz;rw[l6,FK,On,Ta];exact Kx (Q _ (getD_mem' (by lia))) (by show(k+1:Nat)<=8;lia)
 have c:∀z∈Z,z.natAbs<=2^(β+3):=λz hz=>Bz (Q z hz) (FM (by decide) (by lia));obtain⟨a,hκ⟩:∃a,a=15*β+15*ξ+109:=⟨_,rfl⟩;obtain⟨b,hμ⟩:∃b,b=β+9*ξ+21:=⟨_,rfl⟩;have o:∀(Y:List Int),(∀z∈Y,z.natAbs<=2^(β+3))->∀r∈qI Y,ab r ((2^(β+3):Nat):Rat):=λY E r hr=>by obtain⟨y,hy,rfl⟩:=Hb.mp hr;exact Js.mpr (E y hy)
 have H:(0:Rat)<((2^a:Nat):Rat):=kz.mpr (SF (by decide));have G:(0:Rat)<((2^b:Nat):Rat):=kz.mpr (SF (by decide));have B:∀x,In lo hi x->ab x ((2^ξ:Nat):Rat):=λx j=>by unfold ab In at*;grind
 have Pp:∀(Y:List Int),Y.length<=9->(∀z∈Y,z.natAbs<=2^(β+3))->∀x,In lo hi x->ab (ev x (qI Y) -ev lo (qI Y)) (((2^b:Nat):Rat)*(x -lo)):=λY A E x j=>by
  have v:=(vb l (M:=((2^(β+3):Nat):Rat)) Re T (B x j) j.1 (qI Y) (o Y E)).2;refine cO v (d6 ?_ (by have:=j.1;grind));have t1:(3:Rat)*((2^ξ:Nat):Rat)<=((2^(ξ+2):Nat):Rat):=by rw[On,QQ];show 3*_<=_*(4:Rat);grind
  have m:∀n:Nat,(3*((2^ξ:Nat):Rat))^n<=((2^((ξ+2)*n):Nat):Rat):=λn=>by
   induction n with
   |zero=>rw[eP,ZM,UB];exact lx
   |succ n ih=>rw[ag,Uj,On,QQ];have q1:=one_pow (show(1:Rat)<=3*((2^ξ:Nat):Rat) by grind) n;exact dE (d6 ih (by grind)) (GT t1 Re)
  have u:=dE (rC (show(1:Rat)<=3*((2^ξ:Nat):Rat) by grind) (show(qI Y).length<=9 by rw[cu];exact A)) (m 9);refine dE (GT u Re) ?_;rw[<-QQ,<-On];exact cm.mpr (FM (by decide) (by lia))
 have I:((2^a:Nat):Rat)*(((2^a:Nat):Rat))⁻¹=1:=SB _ (by grind);have O:0<(((2^a:Nat):Rat))⁻¹:=aw.mpr H;have q4:(0:Rat)<4⁻¹:=aw.mpr (by decide);have q41:(4:Rat)*4⁻¹=1:=by grind
 have q21:(2:Rat)*2⁻¹=1:=by grind
 refine Cc.Za (X:=((2^ξ:Nat):Rat)) (L:=((2^b:Nat):Rat)) (ε:=(((2^a:Nat):Rat))⁻¹*4⁻¹) P h hs hZ hl (KM O q4) (Mo G) (Pp Z A c) (Pp _ (by lia) S) ?_ ?_
 .have hp:((2^D:Nat):Rat)=((2^(D -(a+b+3)):Nat):Rat)*(((2^a:Nat):Rat)*((2^b:Nat):Rat)*8):=by
   have:(2:Nat)^D=2^(D -(a+b+3))*(2^a*2^b*8):=by rw[show(8:Nat)=2^3 from rfl,<-On,<-On,<-On];congr 1;lia
   rw[this,QQ,QQ,QQ];rfl
  rw[hp]at d;have w1:(1:Rat)<=((2^(D -(a+b+3)):Nat):Rat):=cm.mpr h7;generalize((2^(D -(a+b+3)):Nat):Rat)=w at*;generalize((2^a:Nat):Rat)=K at*;generalize((2^b:Nat):Rat)=L at*;have r0:=aQ (show 0<=hi -lo by grind) (aQ (Mo H) (Mo G));have r1:=aQ r0 (show 0<=w -1 by grind);have r2:(hi -lo)*(K*L)*8<=1:=by grind
  have r3:=GT r2 (Mo O);generalize K⁻¹=J at*;have r4:J*((hi -lo)*(K*L)*8)=(K*J)*(L*(hi -lo))*8:=by grind
  rw[r4,I]at r3;grind
 .rintro⟨a1,a2⟩;obtain⟨R,U,V,R0,hU,hV,eR⟩:=Y9 (x:=lo) (X:=((2^ξ:Nat):Rat)) (f:=Z) (g:=bI Z) (M:=2^(β+3)) (N:=Z.length -1+((bI Z).length -1)) (m:=Z.length -1) (n:=(bI Z).length -1) l T (by lia) (by lia) rfl (by lia) h7 c S F.1 F.2;have i:Z.length -1+((bI Z).length -1)<=15:=by lia
  generalize Z.length -1+((bI Z).length -1)=N at*;have bU:((N*(N*2^(β+3))^N:Nat):Rat)*((2^ξ:Nat):Rat)^N<=((2^a:Nat):Rat):=by
   have g1:N*(N*2^(β+3))^N<=2^4*2^((β+7)*15):=by
    refine Kx (by lia) ?_;have:N*2^(β+3)<=2^(β+7):=by rw[show β+7=4+(β+3) by lia,On 2 4];exact Os _ (by lia)
    refine Bz (Y1 this N) ?_;rw[<-ke];exact FM (by decide) (Ee _ i)
   have g2:((2^ξ:Nat):Rat)^N<=((2^(ξ*15):Nat):Rat):=by refine dE (rC l i) ?_;rw[ke];have e:=Rat.natCast_pow (2^ξ) 15;rw[e];exact lx
   have g3:=one_pow l N;refine dE (d6 (cm.mpr g1) (by grind)) (dE (GT g2 Re) ?_);rw[<-QQ,<-On,<-On];exact cm.mpr (FM (by decide) (by lia))
  have q:=jo (cD (cO hU bU) a1) (cD (cO hV bU) a2);rw[<-eR]at q;generalize((2^a:Nat):Rat)=K at*;generalize K⁻¹=J at*;have s2:K*(J*4⁻¹)+K*(J*4⁻¹)=(K*J)*(2*4⁻¹):=by grind
  rw[s2,I]at q;have s3:ab (R:Rat) ((0:Nat):Rat):=by
   have:R.natAbs<=0:=by
    have t:=cO q (show(1:Rat)*(2*4⁻¹)<=2⁻¹ by grind);unfold ab at t;rcases Int.lt_trichotomy R 0 with z|z|z
    .have:=TK.mpr (show R<=-1 by lia);have e:((-1:Int):Rat)= -1:=rfl;rw[e]at this;grind
    .lia
    .have:=TK.mpr (show 1<=R by lia);have e:((1:Int):Rat)=1:=rfl;rw[e]at this;grind
   exact Js.mpr this
  have:=Js.mp s3;lia
end Num
namespace Sub
end Sub
namespace Sub
open Num
def one:Nat->Int:=λi=>if i=0 then 1 else 0
end Sub
namespace Num
open Sub
end Num
namespace Sub
open Num
end Sub
namespace Num
open Sub
theorem Bp.scaled{p s d:List Rat}{c:Rat}(P:Rp p)(b:c≠0)(h:Bp p s)(C:Bp (iO c p) d):∃κ,κ≠0/\d=iO κ s:=by
 obtain⟨w,H,l,g,κ,S,t,B,e⟩:=h;obtain⟨m,y,I,K,a,F,u,j,D⟩:=C;have Sm:=S.sc b;rw[<-nW b P.z]at Sm;cases F.uniq (fV (gX b P.z)) (by rw[nW b P.z];exact Gm P.jb) Sm;rw[nW b P.z,<-N0,ij,t]at u;cases u;obtain⟨L,v,x,A,G⟩:=S.last (fV P.z) P.jb;rw[t]at v;cases v;have n:aF (cQ d) (cQ g)=aF (λi=>a⁻¹*κ*cQ s i) (cQ g):=funext λk=>by have E:=D k;rw[eO,e k,bq (f:=cQ d) (g:=cQ (iO c g)) (λ_=>rfl) (eO c g),fk]at E;rw[cj];have o:a*a⁻¹=1:=SB _ j;have J:c*c⁻¹=1:=SB _ b;grind
 have q:=BQ (aU d) ((aU s).TY (a⁻¹*κ)) (aU _) (iN x A) n;have r:a⁻¹*κ≠0:=λz=>by
  rcases L9.mp z with z|z
  .have o:a*a⁻¹=1:=SB _ j;rw[z,Qb]at o;exact absurd o (by decide)
  .exact B z
 exact⟨_,r,Gr r w m λk=>congrFun q k⟩
theorem Cc.scaled{p:List Rat}{C b:List (List Rat)}{c:Rat}(P:Rp p)(e:c≠0)(h:Cc p C)(d:Cc (iO c p) b)(x:Rat):bV b x=bV C x:=by obtain⟨s,l,rfl,B,S⟩:=h;obtain⟨j,k,rfl,g,f⟩:=d;obtain⟨i,a,rfl⟩:=B.scaled P e g;have R:=(B.len P).1;have Sm:=S.sc a;rw[<-nW a R.z]at Sm;rw[f.uniq (fV (gX a R.z)) (by rw[nW a R.z];exact Gm R.jb) Sm,nW a R.z,<-N0,<-N0,KG a]
end Num
namespace VL
open PySem PySem.Spec PyProof.Rows L2
theorem ff{C:Prop}(h:false=true):C:=Bool.noConfusion h
theorem nn{α:Type}{a:α}{C:Prop}(h:none=some a):C:=Option.noConfusion rfl (heq_of_eq h)
inductive W where
 |bu|bl (b:Bool)|int (i:Int)|str (x:Str)|ty (n:String)|cls (C:Addr)
 |tup (l:List W)|lst (l:List W)|obj (C:Addr) (fs:List Str) (vs:List W)|gB (ns:List Int)
theorem W.GF{a b:Int}(h:W.int a=.int b):a=b:=by cases h;rfl
theorem W.VR{a b:List W}(h:W.tup a=.tup b):a=b:=by cases h;rfl
theorem W.Nz{a b:List W}(h:W.lst a=.lst b):a=b:=by cases h;rfl
def B4:HO->Bool
 |.lst _|.ins _ _ _|.dK _|.dT _|.set _ _=>true
 |_=>false
noncomputable def Ae(K:Frag)(C:Addr)(a:List Str):Prop:=JE K C/\a.length<1000/\a.Nodup/\∀x∈a,kJ K C x
mutual
noncomputable def Rep(K:Frag)(A:Addr->Prop)(H:Hp):W->V->Prop
 |.bu,v=>v=.bu
 |.bl b,v=>v=.bl b
 |.int i,v=>v=.int i
 |.str x,v=>v=.str x
 |.ty n,v=>v=.ty n
 |.cls C,v=>v=.ref C
 |.tup l,v=>∃p vs,v=.ref p/\H p=some (.tup vs)/\ai K A H l vs
 |.lst l,v=>∃p vs,v=.ref p/\¬A p/\Rd H p (.lst vs)/\ai K A H l vs
 |.obj C a c,v=>∃p d vs,v=.ref p/\¬A p/\H p=some (.ins C d (a.zip vs))/\vs.length=a.length/\Ae K C a/\ai K A H c vs
 |.gB ns,v=>∃p,v=.ref p/\((∃o,H p=some (.xH o (.lst (ns.map V.int))))\/gP K (λ_=>none) p (ns.map V.int))
noncomputable def ai(K:Frag)(A:Addr->Prop)(H:Hp):List W->List V->Prop
 |[],vs=>vs=[]
 |w::a,vs=>∃v r,vs=v::r/\Rep K A H w v/\ai K A H a r
end
section
variable{K:Frag}{A B:Addr->Prop}{H H':Hp}
theorem aq.rd{p:Addr}{u:HO}(s:aq H H')(h:Rd H p u):Rd H' p u:=by
 rcases h with h|⟨o,h⟩
 .exact .inl (s _ _ h)
 .exact .inr ⟨o,s _ _ h⟩
noncomputable def vV(B:Addr->Prop)(H H':Hp):Prop:=∀p o,H p=some o->(B4 o=true/\B p)\/H' p=some o
theorem vV.un{p:Addr}{o:HO}(h:vV A H H')(e:H p=some o)(n:B4 o=true->¬A p):H' p=some o:=by
 rcases h p o e with⟨z,y⟩|z
 .exact(n z y).elim
 .exact z
mutual
theorem Rep.chg(h:vV A H H')(b:∀p o,H p=some o->B p->A p):∀(w:W){v:V},Rep K A H w v->Rep K B H' w v
 |.bu,_,r=>by dsimp only[Rep]at r⊢;exact r
 |.bl _,_,r=>by dsimp only[Rep]at r⊢;exact r
 |.int _,_,r=>by dsimp only[Rep]at r⊢;exact r
 |.str _,_,r=>by dsimp only[Rep]at r⊢;exact r
 |.ty _,_,r=>by dsimp only[Rep]at r⊢;exact r
 |.cls _,_,r=>by dsimp only[Rep]at r⊢;exact r
 |.tup l,v,r=>by obtain⟨p,vs,e,a,c⟩:=r;exact⟨p,vs,e,h.un a (λz=>by cases z),ai.chg h b l c⟩
 |.lst l,v,r=>by
  dsimp only[Rep]at r⊢;obtain⟨p,vs,e,n,a,c⟩:=r;refine⟨p,vs,e,λz=>?_,?_,ai.chg h b l c⟩
  .rcases a with a|⟨o,a⟩<;>exact n (b p _ a z)
  .rcases a with a|⟨o,a⟩
   .exact .inl (h.un a λ_=>n)
   .exact .inr ⟨o,h.un a λz=>by cases z⟩
 |.obj C k d,v,r=>by obtain⟨p,i,vs,e,n,a,c,f,g⟩:=r;exact⟨p,i,vs,e,λz=>n (b p _ a z),h.un a λ_=>n,c,f,ai.chg h b d g⟩
 |.gB j,v,r=>by obtain⟨p,e,a⟩:=r;exact⟨p,e,a.imp (by rintro⟨o,z⟩;exact⟨o,h.un z λz=>by cases z⟩) id⟩
theorem ai.chg(h:vV A H H')(a:∀p o,H p=some o->B p->A p):∀(l:List W){vs:List V},ai K A H l vs->ai K B H' l vs
 |[],_,r=>by dsimp only[ai]at r⊢;exact r
 |w::l,vs,r=>by obtain⟨v,b,e,d,c⟩:=r;exact⟨v,b,e,Rep.chg h a w d,ai.chg h a l c⟩
end
theorem vV.same(s:aq H H'):vV A H H':=λ_ _ e=>.inr (s _ _ e)
theorem vV.put{p:Addr}{a o:HO}(b:H p=some a)(c:B4 a=true)(d:A p):vV A H (upd H p o):=λq u e=>by
 by_cases n:q=p
 .subst n;rw[b]at e;cases e;exact .inl ⟨c,d⟩
 .exact .inr (by rw[ak n];exact e)
theorem Rep.mv(s:aq H H')(a:∀p o,H p=some o->B p->A p)(w:W){v:V}(h:Rep K A H w v):Rep K B H' w v:=Rep.chg (.same s) a w h
theorem ai.mv(s:aq H H')(a:∀p o,H p=some o->B p->A p)(l:List W){vs:List V}(h:ai K A H l vs):ai K B H' l vs:=ai.chg (.same s) a l h
theorem Rep.same{w:W}{v:V}(s:aq H H')(h:Rep K A H w v):Rep K A H' w v:=Rep.mv s (λ_ _ _ z=>z) w h
theorem ai.same{l:List W}{vs:List V}(s:aq H H')(h:ai K A H l vs):ai K A H' l vs:=ai.mv s (λ_ _ _ z=>z) l h
theorem Rep.less{w:W}{v:V}(a:∀p,B p->A p)(h:Rep K A H w v):Rep K B H w v:=Rep.mv (aq.refl H) (λp _ _ z=>a p z) w h
theorem ai.less{l:List W}{vs:List V}(a:∀p,B p->A p)(h:ai K A H l vs):ai K B H l vs:=ai.mv (aq.refl H) (λp _ _ z=>a p z) l h
theorem ai.put{p:Addr}{a:List V}{o:HO}(b:H p=some (.lst a))(c:A p)(l:List W){vs:List V}(h:ai K A H l vs):ai K A (upd H p o) l vs:=ai.chg (.put b rfl c) (λ_ _ _ z=>z) l h
theorem ai.nil:ai K A H [] []:=by dsimp only[ai]
theorem ai.cons{w:W}{v:V}{l:List W}{vs:List V}(b:Rep K A H w v)(a:ai K A H l vs):ai K A H (w::l) (v::vs):=by dsimp only[ai];exact⟨v,vs,rfl,b,a⟩
theorem ai.nil_inv{vs:List V}(h:ai K A H [] vs):vs=[]:=by dsimp only[ai]at h;exact h
theorem ai.cons_inv{w:W}{l:List W}{vs:List V}(h:ai K A H (w::l) vs):∃v r,vs=v::r/\Rep K A H w v/\ai K A H l r:=by dsimp only[ai]at h;exact h
theorem ai.len:∀{l:List W}{vs:List V},ai K A H l vs->vs.length=l.length
 |[],vs,h=>by rw[h.nil_inv];rfl
 |w::l,vs,h=>by obtain⟨v,r,rfl,_,a⟩:=h.cons_inv;rw[A3,A3,a.len]
theorem ai.app:∀{l m:List W}{vs us:List V},ai K A H l vs->ai K A H m us->ai K A H (l++m) (vs++us)
 |[],m,vs,us,h,k=>by rw[h.nil_inv];exact k
 |w::l,m,vs,us,h,k=>by obtain⟨v,r,rfl,b,a⟩:=h.cons_inv;exact .cons b (a.app k)
theorem ai.get:∀{l:List W}{vs:List V}{i:Nat}{w:W},ai K A H l vs->l[i]?=some w->∃v,vs[i]?=some v/\Rep K A H w v
 |[],_,_,_,_,e=>by simp at e
 |x::l,vs,0,w,h,e=>by obtain⟨v,r,rfl,b,a⟩:=h.cons_inv;simp at e;subst e;exact⟨v,rfl,b⟩
 |x::l,vs,i+1,w,h,e=>by obtain⟨v,r,rfl,b,a⟩:=h.cons_inv;obtain⟨u,d,c⟩:=a.get (i:=i) (by simpa using e);exact⟨u,by simpa using d,c⟩
theorem ai.set:∀{l:List W}{vs:List V}{i:Nat}{w:W}{v:V},ai K A H l vs->Rep K A H w v->ai K A H (l.set i w) (vs.set i v)
 |[],_,_,_,_,h,_=>by rw[h.nil_inv];exact .nil
 |x::l,vs,0,w,v,h,e=>by obtain⟨c,r,rfl,b,a⟩:=h.cons_inv;exact .cons e a
 |x::l,vs,i+1,w,v,h,e=>by obtain⟨c,r,rfl,b,a⟩:=h.cons_inv;exact .cons b (a.set e)
theorem ai.take:∀{l:List W}{vs:List V}(n:Nat),ai K A H l vs->ai K A H (l.take n) (vs.take n)
 |_,_,0,_=>.nil
 |[],vs,n+1,h=>by rw[h.nil_inv];exact .nil
 |x::l,vs,n+1,h=>by obtain⟨c,r,rfl,b,a⟩:=h.cons_inv;exact .cons b (a.take n)
theorem ai.drop:∀{l:List W}{vs:List V}(n:Nat),ai K A H l vs->ai K A H (l.drop n) (vs.drop n)
 |_,_,0,h=>h
 |[],vs,n+1,h=>by rw[h.nil_inv];exact .nil
 |x::l,vs,n+1,h=>by obtain⟨b,r,rfl,c,a⟩:=h.cons_inv;exact a.drop n
theorem ai.dropLast{l:List W}{vs:List V}(h:ai K A H l vs):ai K A H l.dropLast vs.dropLast:=by rw[ZX,ZX,h.len];exact h.take _
theorem ai.rep{l:List W}{vs:List V}(h:ai K A H l vs):∀n:Nat,ai K A H (A6 n l).flatten (A6 n vs).flatten
 |0=>.nil
 |n+1=>by rw[I0,I0,JQ,JQ];exact h.app (h.rep n)
theorem ai.ints{ns:List Int}:∀{vs:List V},ai K A H (ns.map W.int) vs->vs=ns.map V.int:=by
 induction ns with
 |nil=>intro vs h;exact h.nil_inv
 |cons n ns b=>intro vs h;obtain⟨v,r,rfl,a,c⟩:=h.cons_inv;dsimp only[Rep]at a;rw[a,b c];rfl
theorem ai.KI(ns:List Int):ai K A H (ns.map W.int) (ns.map V.int):=by
 induction ns with
 |nil=>exact .nil
 |cons n ns a=>exact .cons (by dsimp only[Rep]) a
theorem ai.bls{bs:List Bool}:∀{vs:List V},ai K A H (bs.map W.bl) vs->vs=bs.map V.bl:=by
 induction bs with
 |nil=>intro vs h;exact h.nil_inv
 |cons n d b=>intro vs h;obtain⟨v,r,rfl,a,c⟩:=h.cons_inv;dsimp only[Rep]at a;rw[a,b c];rfl
end
end VL
set_option genSizeOf false
set_option genInjectivity false
namespace VL
open PySem PySem.Spec
open PyProof.Rows hiding St
open L2
inductive Md where
 |s|f|t (ms:List Md)|o (fs:List Str) (ms:List Md)
 |io (m:Md)
 |ls (m:Md)
noncomputable def gC(P:W->V->List Addr->Prop):List W->List V->List Addr->Prop
 |[],vs,F=>vs=[]/\F=[]
 |w::d,vs,F=>∃v a c b,vs=v::a/\F=c++b/\P w v c/\gC P d a b
mutual
noncomputable def Fp(K:Frag)(B:Addr->Prop)(H:Hp):Md->W->V->List Addr->Prop
 |.s,w,v,F=>F=[]/\Rep K B H w v
 |.f,w,v,F=>∃a p vs,w=.lst a/\v=.ref p/\F=[p]/\H p=some (.lst vs)/\ai K B H a vs
 |.t c,w,v,F=>∃a p vs,w=.tup a/\v=.ref p/\H p=some (.tup vs)/\fE K B H c a vs F
 |.o b c,w,v,F=>∃C d a p vs F',w=.obj C b a/\v=.ref p/\F=p::F'/\H p=some (.ins C d (b.zip vs))/\vs.length=b.length/\Ae K C b/\fE K B H c a vs F'
 |.io _,_,_,_=>False
 |.ls m,w,v,F=>∃a p vs F',w=.lst a/\v=.ref p/\F=p::F'/\H p=some (.lst vs)/\gC (Fp K B H m) a vs F'
noncomputable def fE(K:Frag)(B:Addr->Prop)(H:Hp):List Md->List W->List V->List Addr->Prop
 |[],b,vs,F=>b=[]/\vs=[]/\F=[]
 |m::f,b,vs,F=>∃w c v a e d,b=w::c/\vs=v::a/\F=e++d/\Fp K B H m w v e/\fE K B H f c a d
end
theorem gC.mono{P Q:W->V->List Addr->Prop}:∀{a:List W}{vs:List V}{F:List Addr},(∀w v F',(∀p∈F',p∈F)->P w v F'->Q w v F')->gC P a vs F->gC Q a vs F
 |[],_,_,_,h=>h
 |w::a,vs,F,k,⟨v,b,e,j,i,d,g,f⟩=>⟨v,b,e,j,i,d,k w v e (λp c=>by rw[d];exact X2 _ c) g,gC.mono (λw v F' h=>k w v F' λp c=>by rw[d];exact IH _ (h p c)) f⟩
noncomputable def rD(B G:Addr->Prop)(H H':Hp):Prop:=∀p o,H p=some o->(B4 o=true/\B p/\¬G p)\/H' p=some o
section
variable{K:Frag}{A B G:Addr->Prop}{H H':Hp}
theorem rD.c(h:rD A G H H'):vV A H H':=λp o e=>(h p o e).imp (λz=>⟨z.1,z.2.1⟩) id
theorem rD.un{p:Addr}{o:HO}(h:rD A G H H')(e:H p=some o)(g:B4 o=true->G p):H' p=some o:=by
 rcases h p o e with⟨z,_,y⟩|z
 .exact(y (g z)).elim
 .exact z
mutual
theorem Fp.chg(h:rD A G H H')(k:∀p o,H p=some o->B p->A p):∀(m:Md){w:W}{v:V}{F:List Addr},(∀p∈F,G p)->Fp K A H m w v F->Fp K B H' m w v F
 |.s,w,v,F,a,r=>by dsimp only[Fp]at r⊢;exact⟨r.1,Rep.chg h.c k w r.2⟩
 |.f,w,v,F,a,r=>by obtain⟨d,p,vs,j,i,b,g,e⟩:=r;exact⟨d,p,vs,j,i,b,h.un g (λ_=>a p (by rw[b];exact Dx)),ai.chg h.c k d e⟩
 |.t l,w,v,F,a,r=>by obtain⟨d,p,vs,j,i,g,e⟩:=r;exact⟨d,p,vs,j,i,h.un g (λz=>by cases z),fE.chg h k l a e⟩
 |.o I l,w,v,F,a,r=>by obtain⟨C,E,d,p,vs,u,j,i,b,g,e,x,D⟩:=r;exact⟨C,E,d,p,vs,u,j,i,b,h.un g (λ_=>a p (by rw[b];exact Dx)),e,x,fE.chg h k l (λq n=>a q (by rw[b];exact DL _ n)) D⟩
 |.io _,w,v,F,a,r=>G1 r
 |.ls m,w,v,F,a,r=>by obtain⟨d,p,vs,u,j,i,b,g,e⟩:=r;exact⟨d,p,vs,u,j,i,b,h.un g (λ_=>a p (by rw[b];exact Dx)),e.mono λw v G y z=>Fp.chg h k m (λq n=>a q (by rw[b];exact DL _ (y q n))) z⟩
theorem fE.chg(h:rD A G H H')(f:∀p o,H p=some o->B p->A p):∀(a:List Md){b:List W}{vs:List V}{F:List Addr},(∀p∈F,G p)->fE K A H a b vs F->fE K B H' a b vs F
 |[],_,_,_,_,r=>by dsimp only[fE]at r⊢;exact r
 |m::a,b,vs,F,g,r=>by obtain⟨w,i,v,c,s,q,n,l,e,k,j⟩:=r;exact⟨w,i,v,c,s,q,n,l,e,Fp.chg h f m (λp d=>g p (by rw[e];exact X2 _ d)) k,fE.chg h f a (λp d=>g p (by rw[e];exact IH _ d)) j⟩
end
theorem rD.same(s:aq H H'):rD A (λ_=>True) H H':=λ_ _ e=>.inr (s _ _ e)
theorem Fp.mv(s:aq H H')(a:∀p o,H p=some o->B p->A p)(m:Md){w:W}{v:V}{F:List Addr}(h:Fp K A H m w v F):Fp K B H' m w v F:=Fp.chg (.same s) a m (λ_ _=>trivial) h
theorem fE.mv(s:aq H H')(b:∀p o,H p=some o->B p->A p)(a:List Md){w:List W}{v:List V}{F:List Addr}(h:fE K A H a w v F):fE K B H' a w v F:=fE.chg (.same s) b a (λ_ _=>trivial) h
mutual
theorem Fp.rep(i:∀p,B p->A p):∀(m:Md){w:W}{v:V}{F:List Addr},(∀p∈F,¬B p)->Fp K A H m w v F->Rep K B H w v
 |.s,w,v,F,a,h=>by dsimp only[Fp]at h;exact h.2.less i
 |.f,w,v,F,a,h=>by obtain⟨b,p,vs,rfl,rfl,rfl,d,c⟩:=h;exact⟨p,vs,rfl,a p (Do.mpr rfl),.inl d,c.less i⟩
 |.t k,w,v,F,a,h=>by obtain⟨b,p,vs,rfl,rfl,d,c⟩:=h;exact⟨p,vs,rfl,d,fE.rep i k a c⟩
 |.o z k,w,v,F,a,h=>by obtain⟨C,x,b,p,vs,g,rfl,rfl,rfl,d,c,n,r⟩:=h;exact⟨p,x,vs,rfl,a p Dx,d,c,n,fE.rep i k (λq e=>a q (DL _ e)) r⟩
 |.io _,w,v,F,a,h=>G1 h
 |.ls m,w,v,F,a,h=>by
  obtain⟨b,p,vs,g,rfl,rfl,rfl,d,c⟩:=h;dsimp only[Rep];have u:∀(b:List W)(vs:List V)(g:List Addr),(∀q∈g,¬B q)->gC (Fp K A H m) b vs g->ai K B H b vs:=λb=>by
   induction b with
   |nil=>rintro vs g _ ⟨rfl,_⟩;exact .nil
   |cons w b l=>rintro vs g a ⟨v,j,D,y,rfl,rfl,d,c⟩;exact .cons (Fp.rep i m (λq e=>a q (X2 _ e)) d) (l j y (λq e=>a q (IH _ e)) c)
  exact⟨p,vs,rfl,a p Dx,.inl d,u b vs g (λq e=>a q (DL _ e)) c⟩
theorem fE.rep(e:∀p,B p->A p):∀(b:List Md){a:List W}{vs:List V}{F:List Addr},(∀p∈F,¬B p)->fE K A H b a vs F->ai K B H a vs
 |[],_,_,_,_,h=>by obtain⟨rfl,rfl,_⟩:=h;exact .nil
 |m::b,a,vs,F,d,h=>by obtain⟨w,j,v,f,l,k,rfl,rfl,rfl,i,g⟩:=h;exact .cons (Fp.rep e m (λp c=>d p (X2 _ c)) i) (fE.rep e b (λp c=>d p (IH _ c)) g)
end
mutual
theorem Fp.mu:∀(m:Md){w:W}{v:V}{F:List Addr},Fp K A H m w v F->∀p∈F,∃o,H p=some o/\B4 o=true
 |.s,w,v,F,h,p,a=>by dsimp only[Fp]at h;rw[h.1]at a;cases a
 |.f,w,v,F,h,p,a=>by obtain⟨b,q,vs,_,_,rfl,c,_⟩:=h;rw[Do.mp a];exact⟨_,c,rfl⟩
 |.t g,w,v,F,h,p,a=>by obtain⟨b,q,vs,_,_,c,j⟩:=h;exact fE.mu g j p a
 |.o r g,w,v,F,h,p,a=>by
  obtain⟨C,u,b,q,vs,d,_,_,rfl,c,_,_,i⟩:=h;rcases Fh.mp a with rfl|a
  .exact⟨_,c,rfl⟩
  .exact fE.mu g i p a
 |.io _,w,v,F,h,p,a=>G1 h
 |.ls m,w,v,F,h,p,a=>by
  obtain⟨b,q,vs,d,_,_,rfl,c,i⟩:=h;have l:∀(b:List W)(vs:List V)(d:List Addr),gC (Fp K A H m) b vs d->∀p∈d,∃o,H p=some o/\B4 o=true:=λb=>by
   induction b with
   |nil=>rintro vs d ⟨_,rfl⟩ p a;cases a
   |cons w b k=>
    rintro vs d ⟨v,e,x,n,rfl,rfl,c,j⟩ p a;rcases Ha.mp a with a|a
    .exact Fp.mu m c p a
    .exact k e n j p a
  rcases Fh.mp a with rfl|a
  .exact⟨_,c,rfl⟩
  .exact l b vs d i p a
theorem fE.mu:∀(b:List Md){c:List W}{vs:List V}{F:List Addr},fE K A H b c vs F->∀p∈F,∃o,H p=some o/\B4 o=true
 |[],_,_,_,h,p,a=>by dsimp only[fE]at h;rw[h.2.2]at a;cases a
 |m::b,c,vs,F,h,p,a=>by
  obtain⟨w,g,v,d,j,i,_,_,rfl,f,e⟩:=h;rcases Ha.mp a with a|a
  .exact Fp.mu m f p a
  .exact fE.mu b e p a
end
inductive nX where
 |ix (n:Nat)|fl (n:Nat) (x:Str)
noncomputable def di:W->List nX->Option W
 |w,[]=>some w
 |.tup l,.ix n::π=>match l[n]? with
  |some u=>di u π
  |none=>none
 |.lst l,.ix n::π=>match l[n]? with
  |some u=>di u π
  |none=>none
 |.obj _ _ l,.fl n _::π=>match l[n]? with
  |some u=>di u π
  |none=>none
 |_,_=>none
noncomputable def setAt:W->List nX->W->W
 |_,[],u=>u
 |.tup l,.ix n::π,u=>match l[n]? with
  |some x=>.tup (l.set n (setAt x π u))
  |none=>.tup l
 |.lst l,.ix n::π,u=>match l[n]? with
  |some x=>.lst (l.set n (setAt x π u))
  |none=>.lst l
 |.obj C a l,.fl n _::π,u=>match l[n]? with
  |some x=>.obj C a (l.set n (setAt x π u))
  |none=>.obj C a l
 |w,_,_=>w
noncomputable def j9:Md->List nX->Option Md
 |m,[]=>some m
 |.t a,.ix n::π=>match a[n]? with
  |some m=>j9 m π
  |none=>none
 |.o b a,.fl n x::π=>if b[n]?=some x then(match a[n]? with
  |some m=>j9 m π
  |none=>none)else none
 |.ls m,.ix _::π=>j9 m π
 |_,_=>none
noncomputable def xF(K:Frag)(H:Hp):V->List nX->V->Prop
 |v,[],u=>u=v
 |v,.ix n::π,u=>∃p vs x,v=.ref p/\(H p=some (.tup vs)\/H p=some (.lst vs))/\vs[n]?=some x/\xF K H x π u
 |v,.fl n f::π,u=>∃p vs x,v=.ref p/\(∃(C b:Addr)(a:List Str),H p=some (.ins C b (a.zip vs))/\vs.length=a.length/\Ae K C a/\a[n]?=some f)/\vs[n]?=some x/\xF K H x π u
theorem mq{α:Type}:∀{l:List α}{n:Nat}{x:α},l[n]?=some x->l.set n x=l
 |[],_,_,e=>by cases e
 |y::l,0,x,e=>by cases e;rfl
 |y::l,n+1,x,e=>by rw[bf,mq (by simpa using e)]
theorem fE.at:∀(j:List Md){l:List W}{vs:List V}{F:List Addr}{n:Nat}{m:Md}{w:W},fE K A H j l vs F->j[n]?=some m->l[n]?=some w->
 ∃v d F' k,vs[n]?=some v/\F=d++F'++k/\Fp K A H m w v F'/\∀(H':Hp)(B:Addr->Prop) w' g i,Fp K B H' m w' g i->rD A (·∈d++k) H H'->(∀p o,H p=some o->B p->A p)->fE K B H' j (l.set n w') (vs.set n g) (d++i++k)
 |[],_,_,_,n,m,w,_,e,_=>by cases e
 |m0::j,l,vs,F,0,m,w,h,E,D=>by obtain⟨I,s,v,f,d,k,rfl,rfl,rfl,y,x⟩:=h;cases E;cases D;refine⟨v,[],d,k,rfl,by simp,y,λH' B w' g i C q r=>?_⟩;exact⟨w',s,g,f,i,k,rfl,rfl,by simp,C,fE.chg q r j (λp t=>by simpa using t) x⟩
 |m0::j,l,vs,F,n+1,m,w,h,E,D=>by obtain⟨I,s,v,f,d,k,rfl,rfl,rfl,y,x⟩:=h;obtain⟨u,L,P,J,O,rfl,N,M⟩:=fE.at j x (n:=n) (by simpa using E) (by simpa using D);refine⟨u,d++L,P,J,by simpa using O,by simp,N,λH' B w' g i C q r=>?_⟩;refine⟨I,s.set n w',v,f.set n g,d,L++i++J,rfl,rfl,by simp,Fp.chg q r m0 (λp t=>by simp[t]) y,M H' B w' g i C (λp o e=>(q p o e).imp (λ⟨a,b,c⟩=>⟨a,b,λz=>c ?_⟩) id) r⟩;rcases Ha.mp z with z|z<;>simp[z]
theorem gC.at{m:Md}:∀{q:List W}{vs:List V}{F:List Addr}{n:Nat}{w:W},gC (Fp K A H m) q vs F->q[n]?=some w->
 ∃v d F' j,vs[n]?=some v/\F=d++F'++j/\Fp K A H m w v F'/\∀(H':Hp)(B:Addr->Prop) w' g i,Fp K B H' m w' g i->rD A (·∈d++j) H H'->(∀p o,H p=some o->B p->A p)->gC (Fp K B H' m) (q.set n w') (vs.set n g) (d++i++j)
 |[],_,_,n,w,_,e=>by cases e
 |w0::L,vs,F,0,w,h,y=>by obtain⟨v,f,d,j,rfl,rfl,t,s⟩:=h;cases y;refine⟨v,[],d,j,rfl,by simp,t,λH' B w' g i x k l=>?_⟩;exact⟨g,f,i,j,rfl,by simp,x,s.mono λw v G M z=>Fp.chg k l m (λp r=>by simpa using M p r) z⟩
 |w0::L,vs,F,n+1,w,h,y=>by obtain⟨v,f,d,j,rfl,rfl,t,s⟩:=h;obtain⟨u,D,N,C,J,rfl,I,E⟩:=gC.at s (n:=n) (by simpa using y);refine⟨u,d++D,N,C,by simpa using J,by simp,I,λH' B w' g i x k l=>?_⟩;refine⟨v,f.set n g,d,D++i++C,rfl,by simp,Fp.chg k l m (λp r=>by simp[r]) t,E H' B w' g i x (λp o e=>(k p o e).imp (λ⟨a,b,c⟩=>⟨a,b,λz=>c ?_⟩) id) l⟩;rcases Ha.mp z with z|z<;>simp[z]
noncomputable def Pth(K:Frag)(A:Addr->Prop)(H:Hp)(m:Md)(w:W)(v:V)(F:List Addr)(π:List nX)(f:Md)(w':W):Prop:=
 ∃b d g c,F=d++g++c/\xF K H v π b/\Fp K A H f w' b g/\∀(H':Hp)(B:Addr->Prop) a e,Fp K B H' f a b e->rD A (·∈d++c) H H'->(∀p o,H p=some o->B p->A p)->Fp K B H' m (setAt w π a) v (d++e++c)
theorem Fp.path:∀(π:List nX)(m:Md){w:W}{v:V}{F:List Addr}{k:Md}{w':W},Fp K A H m w v F->j9 m π=some k->di w π=some w'->Pth K A H m w v F π k w'
 |[],m,w,v,F,k,w',h,d,g=>by dsimp only[j9]at d;dsimp only[di]at g;cases d;cases g;refine⟨v,[],F,[],by simp,rfl,h,λH' B j u h' _ _=>?_⟩;dsimp only[setAt];simpa using h'
 |n::π,.s,w,v,F,k,w',h,d,g=>by cases n<;>exact nn d
 |n::π,.f,w,v,F,k,w',h,d,g=>by cases n<;>exact nn d
 |n::π,.io _,w,v,F,k,w',h,d,g=>by cases n<;>exact nn d
 |.fl n _::π,.t x,w,v,F,k,w',h,d,g=>by cases d
 |.fl n _::π,.ls x,w,v,F,k,w',h,d,g=>by cases d
 |.ix n::π,.ls U,w,v,F,k,w',h,d,g=>by
  obtain⟨N,p,vs,F0,rfl,rfl,rfl,D,Y⟩:=h;dsimp only[j9]at d;dsimp only[di]at g;cases i:N[n]? with
  |none=>rw[i]at g;exact nn g
  |some w1=>rw[i]at g;obtain⟨q,M,F',L,r,rfl,T,S⟩:=gC.at Y i;obtain⟨O,J,Z,I,rfl,R,Q,P⟩:=Fp.path π U T d g;refine⟨O,p::M++J,Z,I++L,by simp,⟨p,vs,q,rfl,.inr D,r,R⟩,Q,λH' B j u h' l y=>?_⟩;dsimp only[setAt];rw[i];dsimp only[Fp];have a:=S H' B _ q _ (P H' B j u h' (λp o e=>(l p o e).imp (by rintro⟨a,b,c⟩;exact⟨a,b,λz=>c (by rcases Ha.mp z with z|z<;>simp[z])⟩) id) y) (λp o e=>(l p o e).imp (by rintro⟨a,b,c⟩;exact⟨a,b,λz=>c (by rcases Ha.mp z with z|z<;>simp[z])⟩) id) y;rw[mq r]at a;exact⟨_,p,vs,M++(J++u++I)++L,rfl,rfl,by simp,l.un D (λ_=>by simp),a⟩
 |.ix n::π,.o fs x,w,v,F,k,w',h,d,g=>by cases d
 |.ix n::π,.t x,w,v,F,k,w',h,d,g=>by
  obtain⟨N,p,vs,rfl,rfl,D,Y⟩:=h;dsimp only[j9]at d;dsimp only[di]at g;cases E:x[n]? with
  |none=>rw[E]at d;exact nn d
  |some U=>
   cases i:N[n]? with
   |none=>rw[i]at g;exact nn g
   |some w1=>rw[E]at d;rw[i]at g;obtain⟨q,M,F',L,r,rfl,T,S⟩:=fE.at x Y E i;obtain⟨O,J,Z,I,rfl,R,Q,P⟩:=Fp.path π U T d g;refine⟨O,M++J,Z,I++L,by simp,⟨p,vs,q,rfl,.inl D,r,R⟩,Q,λH' B j u h' l y=>?_⟩;dsimp only[setAt];rw[i];dsimp only[Fp];have a:=S H' B _ q _ (P H' B j u h' (λp o e=>(l p o e).imp (by rintro⟨a,b,c⟩;exact⟨a,b,λz=>c (by rcases Ha.mp z with z|z<;>simp[z])⟩) id) y) (λp o e=>(l p o e).imp (by rintro⟨a,b,c⟩;exact⟨a,b,λz=>c (by rcases Ha.mp z with z|z<;>simp[z])⟩) id) y;rw[mq r]at a;refine⟨_,p,vs,rfl,rfl,l.un D (λz=>by cases z),?_⟩;simpa using a
 |.fl n f::π,.o fs x,w,v,F,k,w',h,d,g=>by
  obtain⟨C,dx,N,p,vs,F0,rfl,rfl,rfl,D,hl,X,Y⟩:=h;dsimp only[j9]at d;dsimp only[di]at g;by_cases hf:fs[n]?=some f;rotate_left
  .rw[BM hf]at d;cases d
  rw[Bi hf]at d;cases E:x[n]? with
  |none=>rw[E]at d;exact nn d
  |some U=>
   cases i:N[n]? with
   |none=>rw[i]at g;exact nn g
   |some w1=>rw[E]at d;rw[i]at g;obtain⟨q,M,F',L,r,rfl,T,S⟩:=fE.at x Y E i;obtain⟨O,J,Z,I,rfl,R,Q,P⟩:=Fp.path π U T d g;refine⟨O,p::M++J,Z,I++L,by simp,⟨p,vs,q,rfl,⟨C,dx,fs,D,hl,X,hf⟩,r,R⟩,Q,λH' B j u h' l y=>?_⟩;dsimp only[setAt];rw[i];dsimp only[Fp];have a:=S H' B _ q _ (P H' B j u h' (λp o e=>(l p o e).imp (by rintro⟨a,b,c⟩;exact⟨a,b,λz=>c (by rcases Ha.mp z with z|z<;>simp[z])⟩) id) y) (λp o e=>(l p o e).imp (by rintro⟨a,b,c⟩;exact⟨a,b,λz=>c (by rcases Ha.mp z with z|z<;>simp[z])⟩) id) y;rw[mq r]at a;refine⟨C,dx,_,p,vs,M++(J++u++I)++L,rfl,rfl,by simp,l.un D (λ_=>by simp),hl,X,a⟩
end
noncomputable def dI(K:Frag)(A:Addr->Prop)(H H':Hp)(m:Md)(w:W)(v:V):Prop:=
 ∃F:List Addr,F.Nodup/\(∀p∈F,H p=none)/\Fp K (λq=>A q\/q∈F) H' m w v F
def Dom(A:Addr->Prop)(H:Hp):Prop:=∀p,A p->∃o,H p=some o
theorem Dom.no{A:Addr->Prop}{H:Hp}(d:Dom A H){p:Addr}(h:H p=none):¬A p:=λz=>by obtain⟨o,e⟩:=d p z;rw[h]at e;cases e
theorem Dom.same{A:Addr->Prop}{H H':Hp}(d:Dom A H)(s:aq H H'):Dom A H':=λp z=>by obtain⟨o,e⟩:=d p z;exact⟨o,s _ _ e⟩
section
variable{K:Frag}{A B:Addr->Prop}{H H':Hp}{m:Md}{w:W}{v:V}
theorem dI.rep(d:Dom A H)(h:dI K A H H' m w v):Rep K A H' w v:=by obtain⟨F,c,a,h⟩:=h;exact Fp.rep (λp z=>.inl z) m (λp b=>d.no (a p b)) h
theorem dI.of(h:Rep K A H' w v):dI K A H H' .s w v:=⟨[],ub,by simp,by dsimp only[Fp];exact⟨rfl,h.less λp z=>by simpa using z⟩⟩
theorem dI.s(d:Dom A H)(h:dI K A H H' m w v):dI K A H H' .s w v:=.of (h.rep d)
theorem dI.new{a:List W}{p:Addr}{vs:List V}(b:H p=none)(d:H' p=some (.lst vs))(e:ai K A H' a vs)(c:ai K (λq=>A q\/q=p) H' a vs):dI K A H H' .f (.lst a) (.ref p):=
 ⟨[p],(by simp),(by simpa using b),by dsimp only[Fp];exact⟨a,p,vs,rfl,rfl,rfl,d,c.less λq z=>by simpa using z⟩⟩
theorem dI.fresh{a:List W}{p:Addr}{vs:List V}{H1:Hp}(s:aq H H1)(b:H1 p=none)(h:ai K A H1 a vs):dI K A H (upd H1 p (.lst vs)) .f (.lst a) (.ref p):=by
 have sm:=aK b (.lst vs);refine .new (s.free b) au (h.same sm) (ai.mv sm (λq o z y=>?_) a h);rcases y with y|y
 .exact y
 .rw[y,b]at z;cases z
theorem dI.NB(h:dI K A H H' .f w v):∃a p vs,w=.lst a/\v=.ref p/\H p=none/\H' p=some (.lst vs)/\ai K (λq=>A q\/q=p) H' a vs:=by obtain⟨F,e,b,h⟩:=h;obtain⟨a,p,vs,rfl,rfl,rfl,d,c⟩:=h;exact⟨a,p,vs,rfl,rfl,b p (Do.mpr rfl),d,c.less λq z=>by simpa using z⟩
theorem dI.back{a:Hp}(s:aq a H)(e:∀p,B p->A p)(h:dI K A H H' m w v):dI K B a H' m w v:=by obtain⟨F,c,b,h⟩:=h;exact⟨F,c,λp d=>s.free (b p d),Fp.mv (aq.refl _) (λp o _ z=>z.imp (e p) id) m h⟩
end
abbrev Ev:=List (Option W)
def look:Ev->Nat->Option W
 |[],_=>none
 |x::_,0=>x
 |_::l,n+1=>look l n
theorem aW:∀{ε:Ev}{i:Nat}{w:W},look ε i=some w↔ε[i]?=some (some w)
 |[],i,w=>by simp[look]
 |x::l,0,w=>by simp[look]
 |x::l,i+1,w=>by rw[look,aW];simp
abbrev Ms:=List (Nat×Md)
def aO(M:Ms)(i:Nat):Prop:=∃m,(i,m)∈M
structure Fz where
 ab:Addr->Prop
 B:Addr->Prop
 s0:Option V
abbrev FB(A:Fz)(M:Ms)(σ:St):Addr->Prop:=A.B
structure TZ(K:Frag)(M:Ms)(A:Fz)(H0:Hp)(σ:St)(H:Hp)(ε:Ev)(F:Nat->List Addr):Prop where
 un:∀i m m',(i,m)∈M->(i,m')∈M->m=m'
 val:∀i m w,(i,m)∈M->look ε i=some w->∃v,σ[i]?=some (some v)/\Fp K A.B H m w v (F i)
 emp:∀i,aO M i->look ε i=none->F i=[]
 nd:∀i,aO M i->(F i).Nodup
 ds:∀i j p,aO M i->aO M j->p∈F i->p∈F j->i=j
 nw:∀i p,aO M i->p∈F i->H0 p=none
 na:∀i p,aO M i->p∈F i->¬A.ab p
 all:∀p,A.B p↔A.ab p\/∃i,aO M i/\p∈F i
structure SR(K:Frag)(M:Ms)(A:Fz)(H0:Hp)(σ:St)(H:Hp)(ε:Ev):Prop where
 len:σ.length=ε.length
 sh:∀i w,¬aO M i->look ε i=some w->∃v,σ[i]?=some (some v)/\Rep K A.B H w v
 sm:aq H0 H
 dm:Dom A.ab H
 sl:∀v,A.s0=some v->σ[0]?=some (some v)/\aO M 0
 ow:∃F,TZ K M A H0 σ H ε F
theorem aX{ε:Ev}{i j:Nat}{x:Option W}(h:i≠j):look (ε.set i x) j=look ε j:=by
 cases e:look ε j with
 |none=>
  cases a:look (ε.set i x) j with
  |none=>rfl
  |some w=>rw[aW,Oy h,<-aW,e]at a;cases a
 |some w=>rw[aW,Oy h,<-aW];exact e
theorem mw{ε:Ev}{i:Nat}{w w':W}(h:look (ε.set i (some w)) i=some w'):w'=w:=by
 rw[aW,S8]at h;rw[Bi rfl]at h;split at h
 .cases h;rfl
 .cases h
theorem vW{ε:Ev}{i:Nat}{w:W}(h:look ε i=some w):i<ε.length:=by rw[aW]at h;exact(Fn.mp h).1
section
variable{K:Frag}{M M':Ms}{A:Fz}{H0 H H1:Hp}{σ:St}{ε:Ev}{F:Nat->List Addr}
theorem TZ.has(O:TZ K M A H0 σ H ε F){i:Nat}{p:Addr}(hi:aO M i)(a:p∈F i):∃o,H p=some o/\B4 o=true:=by
 cases b:look ε i with
 |none=>rw[O.emp i hi b]at a;cases a
 |some w=>obtain⟨m,c⟩:=hi;obtain⟨v,_,h⟩:=O.val i m w c b;exact Fp.mu m h p a
theorem SR.dom(S:SR K M A H0 σ H ε):Dom A.B H:=λp z=>by
 obtain⟨F,O⟩:=S.ow;rcases(O.all p).mp z with z|⟨i,b,a⟩
 .exact S.dm p z
 .obtain⟨o,e,_⟩:=O.has b a;exact⟨o,e⟩
theorem SR.sub'(S:SR K M A H0 σ H ε):∀p,A.ab p->A.B p:=λp z=>by obtain⟨F,O⟩:=S.ow;exact(O.all p).mpr (.inl z)
theorem SR.same(S:SR K M A H0 σ H ε)(s:aq H H1):SR K M A H0 σ H1 ε:=by
 obtain⟨F,O⟩:=S.ow;exact⟨S.len,λi w b e=>let⟨v,h1,h2⟩:=S.sh i w b e;⟨v,h1,h2.same s⟩,S.sm.trans s,S.dm.same s,S.sl,F,
  ⟨O.un,λi m w a e=>let⟨v,h1,h2⟩:=O.val i m w a e;⟨v,h1,Fp.mv s (λ_ _ _ z=>z) m h2⟩,O.emp,O.nd,O.ds,O.nw,O.na,O.all⟩⟩
theorem SR.sub(S:SR K M A H0 σ H ε)(h:∀x∈M',x∈M)(s:Option V)(hz:∀v,s=some v->A.s0=some v/\aO M' 0):∃r,r.ab=A.ab/\r.s0=s/\(∀p,r.B p->A.B p)/\SR K M' r H0 σ H ε:=by
 obtain⟨F,O⟩:=S.ow;have d:∀i,aO M' i->aO M i:=by rintro i ⟨m,f⟩;exact⟨m,h _ f⟩
 have q:∀p,(A.ab p\/∃i,aO M' i/\p∈F i)->A.B p:=λp z=>(O.all p).mpr (z.imp id<|by rintro⟨i,c,n⟩;exact⟨i,d i c,n⟩);refine⟨⟨A.ab,λp=>A.ab p\/∃i,aO M' i/\p∈F i,s⟩,rfl,rfl,q,S.len,λi w t e=>?_,S.sm,S.dm,λv e=>⟨(S.sl v (hz v e).1).1,(hz v e).2⟩,F,⟨λi m u a b=>O.un i m u (h _ a) (h _ b),λi m w f e=>?_,λi c=>O.emp i (d i c),λi c=>O.nd i (d i c),λi j p c o=>O.ds i j p (d i c) (d j o),λi p c=>O.nw i p (d i c),λi p c=>O.na i p (d i c),λp=>f6⟩⟩
 .by_cases c:aO M i
  .have g:=c;obtain⟨m,f⟩:=c;obtain⟨v,l,k⟩:=O.val i m w f e;refine⟨v,l,Fp.rep q m (λp n z=>?_) k⟩;rcases z with z|⟨j,o,y⟩
   .exact O.na i p g n z
   .have:=O.ds i j p g (d j o) n y;subst this;exact t o
  .obtain⟨v,l,k⟩:=S.sh i w c e;exact⟨v,l,k.less q⟩
 .obtain⟨v,l,k⟩:=O.val i m w (h _ f) e;exact⟨v,l,Fp.mv (aq.refl _) (λp _ _ z=>q p z) m k⟩
theorem SR.go(S:SR K M A H0 σ H ε):SR K [] ⟨A.ab,A.ab,none⟩ H0 σ H ε:=by
 obtain⟨a,b,c,h,d⟩:=S.sub (M':=[]) (λx f=>by cases f) none (λv e=>by cases e);obtain⟨F,O⟩:=d.ow;have e:∀p,a.B p↔A.ab p:=λp=>by rw[O.all p,b];exact⟨λz=>z.elim id (by rintro⟨i,⟨m,g⟩,_⟩;cases g),.inl⟩
 have:a.B=A.ab:=funext λp=>propext (e p);have:a=⟨A.ab,A.ab,none⟩:=by
  cases a;simp only at b c this;rw[b,this,c]
 rw[<-this];exact d
theorem SR.set(S:SR K M A H0 σ H ε){i:Nat}{w:W}{v:V}(hi:¬aO M i)(h:Rep K A.B H w v):SR K M A H0 (σ.set i (some v)) H (ε.set i (some w)):=by
 obtain⟨F,O⟩:=S.ow;refine⟨by rw[U2,U2];exact S.len,λj f d e=>?_,S.sm,S.dm,λu e=>?_,F,⟨O.un,λj m f g e=>?_,λj d e=>?_,O.nd,O.ds,O.nw,O.na,O.all⟩⟩
 .by_cases a:i=j
  .subst a;have k:i<σ.length:=by rw[S.len];have:=vW e;rwa [U2]at this
   have:=mw e;subst this;exact⟨v,Tb k,h⟩
  .rw[aX a]at e;obtain⟨u,c,b⟩:=S.sh j f d e;exact⟨u,by rw[Oy a];exact c,b⟩
 .obtain⟨c,b⟩:=S.sl u e;exact⟨by rw[Oy (by rintro rfl;exact hi b)];exact c,b⟩
 .have a:i≠j:=by rintro rfl;exact hi ⟨m,g⟩
  rw[aX a]at e;obtain⟨u,c,b⟩:=O.val j m f g e;exact⟨u,by rw[Oy a];exact c,b⟩
 .have a:i≠j:=by rintro rfl;exact hi d
  rw[aX a]at e;exact O.emp j d e
theorem SR.own(S:SR K M' A H0 σ H ε){i:Nat}{m:Md}{w:W}{v:V}(y:∀x,x∈M↔x=(i,m)\/x∈M')(hi:¬aO M' i)(s:aq H H1)(h:dI K A.B H H1 m w v):
 ∃N,N.ab=A.ab/\N.s0=A.s0/\(∀p o,H p=some o->N.B p->A.B p)/\SR K M N H0 (σ.set i (some v)) H1 (ε.set i (some w)):=by
 obtain⟨F,O⟩:=S.ow;obtain⟨G,nd,nw,L⟩:∃G:List Addr,G.Nodup/\(∀p∈G,H p=none)/\(i<ε.length->Fp K (λq=>A.B q\/q∈G) H1 m w v G)/\(ε.length<=i->G=[]):=by
  by_cases g:i<ε.length
  .obtain⟨G,nd,nw,L⟩:=h;exact⟨G,nd,nw,λ_=>L,λz=>by lia⟩
  .exact⟨[],ub,by simp,λz=>(g z).elim,λ_=>rfl⟩
 have f:∀j,aO M j↔j=i\/aO M' j:=λj=>by
  constructor
  .rintro⟨r,Q⟩;rcases(y _).mp Q with e|e
   .cases e;exact .inl rfl
   .exact .inr ⟨r,e⟩
  .rintro(rfl|⟨r,Q⟩)
   .exact⟨m,(y _).mpr (.inl rfl)⟩
   .exact⟨r,(y _).mpr (.inr Q)⟩
 have P:∀j,aO M' j->j≠i:=λj c e=>by subst e;exact hi c
 have E:∀j p,aO M' j->p∈F j->p∉G:=λj p c d z=>by obtain⟨o,e,_⟩:=O.has c d;rw[nw p z]at e;cases e
 have R:∀p o,H p=some o->(A.B p\/p∈G)->A.B p:=λp o e z=>by
  rcases z with z|z
  .exact z
  .rw[nw p z]at e;cases e
 refine⟨⟨A.ab,λp=>A.B p\/p∈G,A.s0⟩,rfl,rfl,R,by rw[U2,U2];exact S.len,λj J c e=>?_,S.sm.trans s,S.dm.same s,λu e=>?_,λj=>if j=i then G else F j,⟨λj X U a b=>?_,λj r J c e=>?_,λj c e=>?_,λj c=>?_,λj k p c T a b=>?_,λj p c d=>?_,λj p c d=>?_,λp=>?_⟩⟩
 .have t:j≠i/\¬aO M' j:=⟨λz=>c ((f j).mpr (.inl z)),λz=>c ((f j).mpr (.inr z))⟩;rw[aX (Y2 t.1)]at e;obtain⟨u,I,D⟩:=S.sh j J t.2 e;exact⟨u,by rw[Oy (Y2 t.1)];exact I,Rep.mv s R J D⟩
 .obtain⟨I,D⟩:=S.sl u e;exact⟨by rw[Oy (Y2 (P 0 D))];exact I,(f 0).mpr (.inr D)⟩
 .rcases(y _).mp a with a|a
  .rcases(y _).mp b with b|b
   .cases a;cases b;rfl
   .cases a;exact(hi ⟨_,b⟩).elim
  .rcases(y _).mp b with b|b
   .cases b;exact(hi ⟨_,a⟩).elim
   .exact O.un j X U a b
 .rcases(y _).mp c with a|a
  .cases a;have g:i<ε.length:=by have:=vW e;rwa [U2]at this
   have:=mw e;subst this;exact⟨v,Tb (by rw[S.len];exact g),by rw[Bi rfl];exact L.1 g⟩
  .have n:=P j ⟨r,a⟩;rw[aX (Y2 n)]at e;obtain⟨u,I,D⟩:=O.val j r J a e;exact⟨u,by rw[Oy (Y2 n)];exact I,by rw[BM n];exact Fp.mv s R r D⟩
 .by_cases n:j=i
  .subst n;rw[Bi rfl];refine L.2 (gL λg=>?_);have:look (ε.set j (some w)) j=some w:=by rw[aW];exact Tb g
   rw[this]at e;cases e
  .rw[aX (Y2 n)]at e;rw[BM n];exact O.emp j (((f j).mp c).resolve_left n) e
 .by_cases n:j=i
  .rw[Bi n];exact nd
  .rw[BM n];exact O.nd j (((f j).mp c).resolve_left n)
 .by_cases C:j=i
  .by_cases l:k=i
   .rw[C,l]
   .rw[Bi C]at a;rw[BM l]at b;exact(E k p (((f k).mp T).resolve_left l) b a).elim
  .by_cases l:k=i
   .rw[BM C]at a;rw[Bi l]at b;exact(E j p (((f j).mp c).resolve_left C) a b).elim
   .rw[BM C]at a;rw[BM l]at b;exact O.ds j k p (((f j).mp c).resolve_left C) (((f k).mp T).resolve_left l) a b
 .by_cases n:j=i
  .rw[Bi n]at d;exact S.sm.free (nw p d)
  .rw[BM n]at d;exact O.nw j p (((f j).mp c).resolve_left n) d
 .by_cases n:j=i
  .rw[Bi n]at d;exact S.dm.no (nw p d)
  .rw[BM n]at d;exact O.na j p (((f j).mp c).resolve_left n) d
 .constructor
  .rintro(z|z)
   .rcases(O.all p).mp z with z|⟨j,c,d⟩
    .exact .inl z
    .exact .inr ⟨j,(f j).mpr (.inr c),by rw[BM (P j c)];exact d⟩
   .exact .inr ⟨i,(f i).mpr (.inl rfl),by rw[Bi rfl];exact z⟩
  .rintro(z|⟨j,c,d⟩)
   .exact .inl ((O.all p).mpr (.inl z))
   .by_cases n:j=i
    .rw[Bi n]at d;exact .inr d
    .rw[BM n]at d;exact .inl ((O.all p).mpr (.inr ⟨j,((f j).mp c).resolve_left n,d⟩))
theorem TZ.chg(S:SR K M A H0 σ H ε)(O:TZ K M A H0 σ H ε F){i:Nat}{m:Md}{w w':W}{v:V}{F':List Addr}(hi:(i,m)∈M)(Q:look ε i=some w)(P:σ[i]?=some (some v))
 (x:∀p o,H p=some o->(B4 o=true/\p∈F i)\/H1 p=some o)(nd:F'.Nodup)(nw:∀p∈F',p∈F i\/H p=none)(h:Fp K (λp=>(A.B p/\p∉F i)\/p∈F') H1 m w' v F'):
 ∃s,s.ab=A.ab/\s.s0=A.s0/\(∀p,s.B p↔(A.B p/\p∉F i)\/p∈F')/\(∀p o,H p=some o->s.B p->A.B p)/\vV A.B H H1/\SR K M s H0 σ H1 (ε.set i (some w')):=by
 have f:aO M i:=⟨m,hi⟩;have J:∀p,p∈F i->A.B p:=λp c=>(O.all p).mpr (.inr ⟨i,f,c⟩);have N:vV A.B H H1:=λp o e=>(x p o e).imp (λz=>⟨z.1,J p z.2⟩) id;have I:∀p o,H p=some o->((A.B p/\p∉F i)\/p∈F')->A.B p:=λp o e z=>by
  rcases z with z|z
  .exact z.1
  .rcases nw p z with z|z
   .exact J p z
   .rw[z]at e;cases e
 have C:∀j p,aO M j->j≠i->p∈F j->p∉F i/\p∉F':=λj p d n c=>by
  have a:p∉F i:=λz=>n (O.ds j i p d f c z);refine⟨a,λz=>?_⟩;rcases nw p z with z|z
  .exact a z
  .obtain⟨o,e,_⟩:=O.has d c;rw[z]at e;cases e
 refine⟨⟨A.ab,λp=>(A.B p/\p∉F i)\/p∈F',A.s0⟩,rfl,rfl,λ_=>f6,I,N,by rw[U2];exact S.len,λj g d e=>?_,λp o e=>?_,λp z=>?_,S.sl,λj=>if j=i then F' else F j,⟨O.un,λj t g d e=>?_,λj d e=>?_,λj d=>?_,λj k p d L a b=>?_,λj p d c=>?_,λj p d c=>?_,λp=>?_⟩⟩
 .have n:i≠j:=by rintro rfl;exact d f
  rw[aX n]at e;obtain⟨u,E,D⟩:=S.sh j g d e;exact⟨u,E,Rep.chg N I g D⟩
 .rcases x p o (S.sm p o e)with⟨_,z⟩|z
  .rw[O.nw i p f z]at e;cases e
  .exact z
 .obtain⟨o,e⟩:=S.dm p z;rcases x p o e with⟨_,y⟩|y
  .exact(O.na i p f y z).elim
  .exact⟨o,y⟩
 .by_cases n:j=i
  .subst n;have R:=O.un j m t hi d;subst R;have:=mw e;subst this;exact⟨v,P,by rw[Bi rfl];exact h⟩
  .rw[aX (Y2 n)]at e;obtain⟨u,E,D⟩:=O.val j t g d e;refine⟨u,E,?_⟩;rw[BM n];refine Fp.chg (G:=λp=>p∈F j) (λp o e=>?_) I t (λp c=>c) D;rcases x p o e with⟨z,y⟩|z
   .exact .inl ⟨z,J p y,λq=>(C j p ⟨t,d⟩ n q).1 y⟩
   .exact .inr z
 .by_cases n:j=i
  .subst n;have:look (ε.set j (some w')) j=some w':=by rw[aW];exact Tb (vW Q)
   rw[this]at e;cases e
  .rw[aX (Y2 n)]at e;rw[BM n];exact O.emp j d e
 .by_cases n:j=i
  .rw[Bi n];exact nd
  .rw[BM n];exact O.nd j d
 .by_cases r:j=i
  .by_cases l:k=i
   .rw[r,l]
   .rw[Bi r]at a;rw[BM l]at b;exact((C k p L l b).2 a).elim
  .by_cases l:k=i
   .rw[BM r]at a;rw[Bi l]at b;exact((C j p d r a).2 b).elim
   .rw[BM r]at a;rw[BM l]at b;exact O.ds j k p d L a b
 .by_cases n:j=i
  .rw[Bi n]at c;rcases nw p c with z|z
   .exact O.nw i p f z
   .exact S.sm.free z
  .rw[BM n]at c;exact O.nw j p d c
 .by_cases n:j=i
  .rw[Bi n]at c;rcases nw p c with z|z
   .exact O.na i p f z
   .exact S.dm.no z
  .rw[BM n]at c;exact O.na j p d c
 .constructor
  .rintro(⟨z,y⟩|z)
   .rcases(O.all p).mp z with z|⟨j,d,c⟩
    .exact .inl z
    .have n:j≠i:=by rintro rfl;exact y c
     exact .inr ⟨j,d,by rw[BM n];exact c⟩
   .exact .inr ⟨i,f,by rw[Bi rfl];exact z⟩
  .rintro(z|⟨j,d,c⟩)
   .exact .inl ⟨(O.all p).mpr (.inl z),λy=>O.na i p f y z⟩
   .by_cases n:j=i
    .rw[Bi n]at c;exact .inr c
    .rw[BM n]at c;exact .inl ⟨(O.all p).mpr (.inr ⟨j,d,c⟩),(C j p d n c).1⟩
end
end VL
set_option genSizeOf false
set_option genInjectivity false
namespace VL
open PySem PySem.Spec
open PyProof.Rows hiding St
open L2
inductive BI where
 |len|abs|max2|min2|sum|all|any|list|Af|T3
 deriving DecidableEq
inductive CE where
 |var (i:Nat)|int (i:Int)|bl (b:Bool)|str (x:Str)|bu|B5 (n:String)|glob (g:Nat)
 |bin (op:Operator) (a b:CE)|neg (a:CE)|not (a:CE)
 |cmp (op:CmpOp) (a b:CE)
 |and (as:List CE)|or (as:List CE)|ite (c a b:CE)
 |tup (as:List CE)|lst (as:List CE)
 |ix (a i:CE)|sl (a lo hi:CE)
 |call (f:Nat) (as:List CE)|blt (b:BI) (as:List CE)|bits (a:CE)
 |comp (ts:List Nat) (one:Bool) (n:Nat) (it:CE) (c:CE) (e:CE)
 |ny (as:List CE)|uK (a:CE)|rev (a:CE)
 |pop (i:Nat)
 |own (i:Nat) (π:List nX)|pI (i:Nat) (f:Nat) (as:List CE)|Ey (i g f:Nat) (as:List CE)
 |B6 (is:List Nat) (a:CE)|PZ (is:List Nat) (a:CE)|P4 (f:Nat) (a:CE) (as:List CE)
inductive CS where
 |set (i:Nat) (e:CE)|Ag (ts:List Nat) (e:CE)|par (ts:List Nat) (es:List CE)
 |app (i:Nat) (e:CE)|put (i:Nat) (k e:CE)|drop (i:Nat)|mD (j:Nat) (e:CE)
 |ret (e:CE)|iff (c:CE) (a b:List CS)|GG (c:CE) (b:List CS)
 |fr (ts:List Nat) (one:Bool) (it:CE) (b:List CS)
 |brk|raise (c:Nat) (e:CE)
 |DP (i n:Nat) (e:CE)
 |B7 (e:CE)|T4 (c:CE) (a b:List CS)|T5 (c:CE) (b:List CS)
 |KJ
 |NC (is:List Nat) (b:List CS)
 |VU (i:Nat) (it e:CE)|VV (i:Nat) (as:List CE)
 |VW (ts:List Nat) (e:CE)
noncomputable def VX:W->W->(W->Prop)->Prop
 |.int i,.int j,Q=>Q (.int (i+j))
 |.lst a,.lst b,Q=>a.length+b.length<=sizeLine/\Q (.lst (a++b))
 |.tup a,.tup b,Q=>a≠[]/\a.length+b.length<=sizeLine/\Q (.tup (a++b))
 |.str a,.str b,Q=>a.length+b.length<=sizeLine/\Q (.str (a++b))
 |_,_,_=>False
noncomputable def VY:W->W->(W->Prop)->Prop
 |.int i,.int j,Q=>IntMulOk i j/\Q (.int (i*j))
 |.lst a,.int k,Q=> -(2^63)<=k/\k<2^63/\a.length*k.toNat<=sizeLine/\Q (.lst (A6 k.toNat a).flatten)
 |_,_,_=>False
noncomputable def XD(C:Int->Int->Prop)(g:Int->Int->Int):W->W->(W->Prop)->Prop
 |.int i,.int j,Q=>C i j/\Q (.int (g i j))
 |_,_,_=>False
def VZ:W->W->(W->Prop)->Prop
 |.int i,.int j,Q=>Q (.int (i -j))
 |_,_,_=>False
noncomputable def gY:Operator->W->W->(W->Prop)->Prop
 |.Add=>VX
 |.Sub=>VZ
 |.Mult=>VY
 |.FloorDiv=>XD oO λi j=>i.fdiv j
 |.Mod=>XD (λ_ j=>j≠0) λi j=>i.fmod j
 |.Pow=>XD JB λi j=>i^j.toNat
 |_=>λ_ _ _=>False
noncomputable def zu:Nat->W->Bool
 |_,.int _=>true
 |_,.str x=>PyData.strOk x
 |_,.bu=>true
 |n+1,.lst l=>l.all (zu n)
 |n+1,.tup l=>l.all (zu n)
 |_,_=>false
noncomputable def ND:Nat->W->Bool
 |_,.bl _=>true
 |_,.str x=>PyData.strOk x
 |_,.bu=>true
 |n+1,.lst l=>l.all (ND n)
 |n+1,.tup l=>l.all (ND n)
 |_,_=>false
noncomputable def Zb(a:Bool):W->W->(W->Prop)->Prop
 |.int i,.int j,Q=>Q (.bl (if a then !decide (i=j)else decide (i=j)))
 |.str i,.str j,Q=>Q (.bl (if a then !decide (i=j)else decide (i=j)))
 |.bl i,.bl j,Q=>Q (.bl (if a then !decide (i=j)else decide (i=j)))
 |x,y,Q=>((zu 9 x=true/\zu 9 y=true)\/(ND 9 x=true/\ND 9 y=true))/\∀b:Bool,(b=true↔x=y)->Q (.bl (if a then !b else b))
noncomputable def GH(p:Int->Int->Bool):W->W->(W->Prop)->Prop
 |.int i,.int j,Q=>Q (.bl (p i j))
 |_,_,_=>False
noncomputable def fW:CmpOp->W->W->(W->Prop)->Prop
 |.Eq=>Zb false
 |.NotEq=>Zb true
 |.Lt=>GH λi j=>decide (i<j)
 |.LtE=>GH λi j=>decide (i<=j)
 |.Gt=>GH λi j=>decide (j<i)
 |.GtE=>GH λi j=>decide (j<=i)
 |_=>λ_ _ _=>False
noncomputable def P5:W->W->(W->Prop)->Prop
 |.lst l,.int i,Q=>∃w,nB l i=some w/\Q w
 |.tup l,.int i,Q=>∃w,nB l i=some w/\Q w
 |.gB ns,.int i,Q=>∃n,nB ns i=some n/\Q (.int n)
 |_,_,_=>False
noncomputable def nZ(l:List W)(lo hi:Option Int):List W:=(l.drop (HT.uz l.length 0 lo)).take (HT.uz l.length l.length hi -HT.uz l.length 0 lo)
def kr:CE->Bool
 |.bu=>true
 |_=>false
def prI:W->(Option Int->Prop)->Prop
 |.int i,Q=>Q (some i)
 |_,_=>False
def KL(c:CE)(y:W)(Q:Option Int->Prop):Prop:=cond (kr c) (Q none) (prI y Q)
noncomputable def XE:W->Option Int->Option Int->(W->Prop)->Prop
 |.lst l,lo,hi,Q=>Q (.lst (nZ l lo hi))
 |.gB ns,lo,hi,Q=>Q (.lst (nZ (ns.map W.int) lo hi))
 |_,_,_,_=>False
noncomputable def tyW:W->Option String
 |.bu=>some "NoneType"
 |.bl _=>some "bool"
 |.int _=>some "int"
 |.str _=>some "str"
 |.lst _=>some "list"
 |.tup _=>some "tuple"
 |_=>none
def DR(a b:String):Bool:=a==b||(a=="bool"&&b=="int")
noncomputable def yq:BI->List W->(W->Prop)->Prop
 |.len,[.lst l],Q=>Q (.int l.length)
 |.len,[.tup l],Q=>Q (.int l.length)
 |.len,[.gB ns],Q=>Q (.int ns.length)
 |.abs,[.int i],Q=>Q (.int (if i<0 then-i else i))
 |.max2,[.int i,.int j],Q=>Q (.int (if j>i then j else i))
 |.max2,[.lst l],Q=>∃ns:List Int,l=ns.map W.int/\ns≠[]/\∀m∈ns,(∀n∈ns,n<=m)->Q (.int m)
 |.min2,[.int i,.int j],Q=>Q (.int (if j<i then j else i))
 |.sum,[.lst l],Q=>∃ns:List Int,l=ns.map W.int/\Q (.int ns.sum)
 |.all,[.lst l],Q=>∃bs:List Bool,l=bs.map W.bl/\Q (.bl (bs.all id))
 |.any,[.lst l],Q=>∃bs:List Bool,l=bs.map W.bl/\Q (.bl (bs.any id))
 |.list,[.lst l],Q=>Q (.lst l)
 |.list,[.tup l],Q=>Q (.lst l)
 |.Af,[w,.ty n],Q=>∃a,tyW w=some a/\Q (.bl (DR a n))
 |.T3,[.int i,.int j],Q=>(0<j/\j<1073741824)/\Q (.tup [.int (i/j),.int (i%j)])
 |_,_,_=>False
noncomputable def cH(ε:Ev):List Nat->List W->Ev
 |i::b,w::a=>cH (ε.set i (some w)) b a
 |_,_=>ε
noncomputable def wT(one:Bool)(a:List Nat)(w:W)(ε:Ev)(Q:Ev->Prop):Prop:=
 match one,a,w with
 |true,[i],w=>Q (ε.set i (some w))
 |false,a,.tup l=>l.length=a.length/\Q (cH ε a l)
 |_,_,_=>False
noncomputable def pJ(f:W->(Option W->Prop)->Prop):List W->List W->(List W->Prop)->Prop
 |[],acc,Q=>Q acc
 |w::a,acc,Q=>f w λr=>match r with
  |some y=>acc.length<sizeLine/\pJ f a (acc++[y]) Q
  |none=>pJ f a acc Q
noncomputable def oS(f:W->Ev->(W->Ev->Prop)->Prop):List W->List W->Ev->(List W->Ev->Prop)->Prop
 |[],acc,ε,Q=>Q acc ε
 |w::b,acc,ε,Q=>f w ε λy a=>acc.length<sizeLine/\oS f b (acc++[y]) a Q
def truth:W->(Bool->Prop)->Prop
 |.bl b,Q=>Q b
 |_,_=>False
def items:W->(List W->Prop)->Prop
 |.lst l,Q=>Q l
 |.tup l,Q=>Q l
 |_,_=>False
def jv(lo st:Int)(n:Nat):List W:=(Bn n).map λ(i:Nat)=>W.int (lo+(i:Int)*st)
noncomputable def GI:List W->(List W->Prop)->Prop
 |[.int j],Q=> -(2^62)<=j/\j<2^62/\Q (jv 0 1 j.toNat)
 |[.int i,.int j],Q=>(-(2^62)<=i/\i<2^62/\-(2^62)<=j/\j<2^62)/\Q (jv i 1 (j -i).toNat)
 |[.int i,.int j,.int k],Q=>∃n:Nat,(k≠0/\k.natAbs<1073741824/\Builtin.Range.small i j k=true/\Builtin.Range.rangeSize i j k=(n:Int))/\Q (jv i k n)
 |_,_=>False
noncomputable def gv(l:List W):List W:=List.zipWith (λ(i:Nat) w=>W.tup [.int i,w]) (Bn l.length) l
mutual
def GJ:W->Bool
 |.bu=>true
 |.bl _=>true
 |.int _=>true
 |.str _=>true
 |.tup l=>DS l
 |_=>false
def DS:List W->Bool
 |[]=>true
 |w::l=>GJ w&&DS l
end
mutual
noncomputable def flat:Md->W->Bool
 |.s,w=>GJ w
 |.f,w=>match w with
  |.lst l=>DS l
  |_=>false
 |.t a,w=>match w with
  |.tup l=>B8 a l
  |_=>false
 |.o _ _,_=>false
 |.io _,_=>false
 |.ls _,_=>false
noncomputable def B8:List Md->List W->Bool
 |[],l=>l.isEmpty
 |m::a,l=>match l with
  |w::l=>flat m w&&B8 a l
  |[]=>false
end
abbrev aZ:=List W->(W->Prop)->(Addr->Prop)->Prop
def yr:W->Bool
 |.bu|.bl _|.int _|.str _=>true
 |_=>false
section
variable(Φ:Nat->aZ)(G:Nat->W)
mutual
noncomputable def wE(R:Addr->Prop):CE->Ev->(W->Prop)->Prop
 |.var i,ε,Q=>match look ε i with
  |some w=>Q w
  |none=>False
 |.int i,_,Q=>Q (.int i)
 |.bl b,_,Q=>Q (.bl b)
 |.str x,_,Q=>Q (.str x)
 |.bu,_,Q=>Q .bu
 |.B5 n,_,Q=>Q (.ty n)
 |.glob g,_,Q=>Q (G g)
 |.bin op a b,ε,Q=>wE R a ε λx=>wE R b ε λy=>gY op x y Q
 |.neg a,ε,Q=>wE R a ε λx=>match x with
  |.int i=>Q (.int (-i))
  |_=>False
 |.not a,ε,Q=>wE R a ε λx=>truth x λb=>Q (.bl (!b))
 |.cmp op a b,ε,Q=>wE R a ε λx=>wE R b ε λy=>fW op x y Q
 |.and j,ε,Q=>C3 R j ε Q
 |.or j,ε,Q=>Tw R j ε Q
 |.ite c a b,ε,Q=>wE R c ε λx=>truth x λk=>if k=true then wE R a ε Q else wE R b ε Q
 |.tup j,ε,Q=>wA R j ε λd=>d.length<=sizeLine/\Q (.tup d)
 |.lst j,ε,Q=>wA R j ε λd=>d.length<=sizeLine/\Q (.lst d)
 |.ix a i,ε,Q=>wE R a ε λx=>wE R i ε λy=>P5 x y Q
 |.sl a lo hi,ε,Q=>wE R a ε λx=>wE R lo ε λy=>KL lo y λl=>wE R hi ε λz=>KL hi z λh=>XE x l h Q
 |.call f j,ε,Q=>wA R j ε λd=>Φ f d Q R
 |.blt b j,ε,Q=>wA R j ε λd=>yq b d Q
 |.bits a,ε,Q=>wE R a ε λx=>match x with
  |.int i=>Q (.int (Builtin.Int.intBits i:Nat))
  |_=>False
 |.comp o one n p c e,ε,Q=>wE R p ε λz=>items z λd=>pJ (λw K=>wT one o w (A6 n none++ε) λm=>wE (λ_=>False) c m λx=>truth x λk=>if k=true then wE (λ_=>False) e m λy=>K (some y)else K none) d [] λl=>Q (.lst l)
 |.ny j,ε,Q=>wA R j ε λd=>GI d λl=>Q (.lst l)
 |.uK a,ε,Q=>wE R a ε λx=>match x with
  |.lst l=>Q (.lst (gv l))
  |_=>False
 |.rev a,ε,Q=>wE R a ε λx=>match x with
  |.lst l=>Q (.lst l.reverse)
  |_=>False
 |.pop _,_,_=>False
 |.own i π,ε,Q=>match look ε i with
  |some w=>match di w π with
   |some u=>Q u
   |none=>False
  |none=>False
 |.pI _ _ _,_,_=>False
 |.B6 _ a,ε,Q=>wE R a ε λw=>yr w=true/\Q w
 |.PZ _ a,ε,Q=>wE R a ε λw=>flat .f w=true/\Q w
 |.Ey _ _ _ _,_,_=>False
 |.P4 f a j,ε,Q=>wE R a ε λx=>wA R j ε λd=>Φ f (x::d) (λr=>∃w y,r=.tup [w,y]/\Q w) R
noncomputable def wA(R:Addr->Prop):List CE->Ev->(List W->Prop)->Prop
 |[],_,Q=>Q []
 |a::c,ε,Q=>wE R a ε λx=>wA R c ε λb=>Q (x::b)
noncomputable def C3(R:Addr->Prop):List CE->Ev->(W->Prop)->Prop
 |[],_,_=>False
 |a::c,ε,Q=>match c with
  |[]=>wE R a ε Q
  |b::bs=>wE R a ε λx=>truth x λk=>if k=true then C3 R (b::bs) ε Q else Q (.bl false)
noncomputable def Tw(R:Addr->Prop):List CE->Ev->(W->Prop)->Prop
 |[],_,_=>False
 |a::c,ε,Q=>match c with
  |[]=>wE R a ε Q
  |b::bs=>wE R a ε λx=>truth x λk=>if k=true then Q (.bl true)else Tw R (b::bs) ε Q
end
structure Dn where
 nx:Ev->Prop
 rt:W->Prop
 bk:Ev->Prop
 ct:Ev->Prop
 ex:Addr->Prop
mutual
noncomputable def wP(R:Addr->Prop):CE->Ev->(W->Ev->Prop)->Prop
 |.pop i,ε,Q=>match look ε i with
  |some (.lst l)=>∃w,l[l.length -1]?=some w/\Q w (ε.set i (some (.lst l.dropLast)))
  |_=>False
 |.pI i f d,ε,Q=>match look ε i with
  |some _=>Jo R d ε λh c=>match look c i with
   |some m=>Φ f (m::h) (λr=>∃w y,r=.tup [w,y]/\Q w (c.set i (some y))) R
   |none=>False
  |none=>False
 |.Ey i g f d,ε,Q=>match look ε i with
  |some (.obj C _ _)=>G g=.cls C/\Jo R d ε λh c=>match look c i with
   |some m=>Φ f (m::h) (λr=>∃w y,r=.tup [w,y]/\Q w (c.set i (some y))) R
   |none=>False
  |_=>False
 |.bin op a b,ε,Q=>wP R a ε λx k=>wP R b k λy j=>gY op x y λz=>Q z j
 |.cmp op a b,ε,Q=>wP R a ε λx k=>wP R b k λy j=>fW op x y λz=>Q z j
 |.call f d,ε,Q=>Jo R d ε λh c=>Φ f h (λw=>Q w c) R
 |.ix a b,ε,Q=>wP R a ε λx k=>wP R b k λy j=>P5 x y λz=>Q z j
 |.lst d,ε,Q=>Jo R d ε λh c=>h.length<=sizeLine/\Q (.lst h) c
 |.tup d,ε,Q=>Jo R d ε λh c=>h.length<=sizeLine/\Q (.tup h) c
 |.and d,ε,Q=>AY R d ε Q
 |.or d,ε,Q=>Ju R d ε Q
 |e,ε,Q=>wE Φ G R e ε λw=>Q w ε
noncomputable def Jo(R:Addr->Prop):List CE->Ev->(List W->Ev->Prop)->Prop
 |[],ε,Q=>Q [] ε
 |a::e,ε,Q=>wP R a ε λx d=>Jo R e d λb c=>Q (x::b) c
noncomputable def AY(R:Addr->Prop):List CE->Ev->(W->Ev->Prop)->Prop
 |[],_,_=>False
 |a::d,ε,Q=>match d with
  |[]=>wP R a ε Q
  |b::bs=>wP R a ε λx c=>truth x λk=>if k=true then AY R (b::bs) c Q else Q (.bl false) c
noncomputable def Ju(R:Addr->Prop):List CE->Ev->(W->Ev->Prop)->Prop
 |[],_,_=>False
 |a::d,ε,Q=>match d with
  |[]=>wP R a ε Q
  |b::bs=>wP R a ε λx c=>truth x λk=>if k=true then Q (.bl true) c else Ju R (b::bs) c Q
end
noncomputable def mE(b:W->Dn->Ev->Prop)(D:Dn):List W->Ev->Prop
 |[],ε=>D.nx ε
 |w::a,ε=>b w {nx:=mE b D a,rt:=D.rt,bk:=D.nx,ct:=mE b D a,ex:=λ_=>False} ε
noncomputable def V0(c:Ev->(Bool->Ev->Prop)->Prop)(b:Dn->Ev->Prop)(D:Dn)(ε:Ev):Prop:=
 ∃J:Nat->Ev->Prop,(∃m,J m ε)/\∀m ε,J m ε->c ε λk e=>if k=true then∃N:Ev->Prop,(∀a,N a->∃d,d<m/\J d a)/\b {nx:=N,rt:=D.rt,bk:=D.nx,ct:=N,ex:=λ_=>False} e else D.nx e
noncomputable def KN(c:Ev->(Bool->Prop)->Prop)(b:Dn->Ev->Prop)(D:Dn)(ε:Ev):Prop:=
 ∃J:Nat->Ev->Prop,(∃m,J m ε)/\∀m ε,J m ε->c ε λk=>if k=true then∃N:Ev->Prop,(∀a,N a->∃d,d<m/\J d a)/\b {nx:=N,rt:=D.rt,bk:=D.nx,ct:=N,ex:=λ_=>False} ε else D.nx ε
mutual
noncomputable def wS:CS->Dn->Ev->Prop
 |.set i e,D,ε=>wE Φ G D.ex e ε λw=>D.nx (ε.set i (some w))
 |.Ag h e,D,ε=>wE Φ G D.ex e ε λw=>match w with
  |.tup l=>l.length=h.length/\D.nx (cH ε h l)
  |_=>False
 |.par h r,D,ε=>wA Φ G D.ex r ε λf=>f.length=h.length/\D.nx (cH ε h f)
 |.app i e,D,ε=>match look ε i with
  |some (.lst l)=>wE Φ G D.ex e ε λw=>l.length<sizeLine/\D.nx (ε.set i (some (.lst (l++[w]))))
  |_=>False
 |.put i k e,D,ε=>wE Φ G D.ex e ε λw=>match look ε i with
  |some (.lst l)=>wE Φ G D.ex k ε λx=>match x with
   |.int j=>∃n,xR l.length j=some n/\D.nx (ε.set i (some (.lst (l.set n w))))
   |_=>False
  |_=>False
 |.drop i,D,ε=>wP Φ G D.ex (.pop i) ε λ_ d=>D.nx d
 |.mD j e,D,ε=>wP Φ G D.ex e ε λw d=>D.nx (d.set j (some w))
 |.ret e,D,ε=>wE Φ G D.ex e ε D.rt
 |.iff c a b,D,ε=>wE Φ G D.ex c ε λx=>truth x λk=>if k=true then wSs a D ε else wSs b D ε
 |.GG c b,D,ε=>KN (λε Q=>wE Φ G (λ_=>False) c ε λx=>truth x Q) (wSs b) D ε
 |.fr h one m b,D,ε=>wE Φ G (λ_=>False) m ε λz=>items z λf=>mE (λw t d=>wT one h w d λp=>wSs b t p) D f ε
 |.brk,D,ε=>D.bk ε
 |.raise g e,D,ε=>match G g with
  |.cls C=>wE Φ G D.ex e ε λ_=>D.ex C
  |_=>False
 |.DP i n e,D,ε=>wE Φ G D.ex e ε λw=>match look ε i with
  |some (.obj C q f)=>n<f.length/\D.nx (ε.set i (some (.obj C q (f.set n w))))
  |_=>False
 |.B7 e,D,ε=>wE Φ G D.ex e ε λw=>match look ε 0 with
  |some o=>D.rt (.tup [w,o])
  |none=>False
 |.T4 c a b,D,ε=>wP Φ G D.ex c ε λx d=>truth x λk=>if k=true then wSs a D d else wSs b D d
 |.T5 c b,D,ε=>V0 (λε Q=>wP Φ G (λ_=>False) c ε λx d=>truth x λk=>Q k d) (wSs b) D ε
 |.KJ,_,_=>False
 |.VU i m e,D,ε=>wE Φ G D.ex m ε λz=>items z λf=>oS (λw ε K=>wP Φ G (λ_=>False) e (some w::ε) λy d=>yr y=true/\K y (d.drop 1)) f [] ε λl d=>D.nx (d.set i (some (.lst l)))
 |.VV i s,D,ε=>Jo Φ G D.ex s ε λf d=>f.length<=sizeLine/\D.nx (d.set i (some (.lst f)))
 |.VW h e,D,ε=>wP Φ G D.ex e ε λw d=>match w with
  |.tup l=>l.length=h.length/\D.nx (cH d h l)
  |_=>False
 |.NC _ b,D,ε=>wSs b {D with nx:=λ_=>False,bk:=λ_=>False,ct:=λ_=>False} ε
noncomputable def wSs:List CS->Dn->Ev->Prop
 |[],D,ε=>D.nx ε
 |s::b,D,ε=>match b with
  |[]=>wS s D ε
  |t::a=>wS s {D with nx:=wSs (t::a) D} ε
end
end
noncomputable def bw(K:Frag)(B:Addr->Prop)(H:Hp)(w:W)(v:V):Prop:=
 match w with
 |.lst l=>∃p a,v=.ref p/\Rd H p (.lst a)/\ai K B H l a
 |w=>Rep K B H w v
section
variable{K:Frag}{A B:Addr->Prop}{H H':Hp}{w:W}{v:V}
theorem Rep.b(h:Rep K B H w v):bw K B H w v:=by
 cases w with
 |lst l=>obtain⟨p,a,e,_,d,c⟩:=h;exact⟨p,a,e,d,c⟩
 |_=>exact h
theorem bw.same(s:aq H H')(h:bw K B H w v):bw K B H' w v:=by
 cases w with
 |lst l=>obtain⟨p,a,e,c,b⟩:=h;exact⟨p,a,e,VL.aq.rd s c,b.same s⟩
 |_=>exact Rep.same s h
theorem bw.lst{l:List W}(h:bw K B H (.lst l) v):∃p vs,v=.ref p/\Rd H p (.lst vs)/\ai K B H l vs:=h
theorem bw.Zc{l:List W}(h:bw K B H (.tup l) v):∃p vs,v=.ref p/\H p=some (.tup vs)/\ai K B H l vs:=by have h:Rep K B H (.tup l) v:=h;dsimp only[Rep]at h;exact h
theorem bw.tup{l:List W}(h:bw K B H (.tup l) v):∃p vs,v=.ref p/\nH K H p vs/\ai K B H l vs:=by have h:Rep K B H (.tup l) v:=h;obtain⟨p,vs,e,b,a⟩:=h;exact⟨p,vs,e,nH.of b,a⟩
theorem bw.int{i:Int}(h:bw K B H (.int i) v):v=.int i:=by have h:Rep K B H (.int i) v:=h;dsimp only[Rep]at h;exact h
theorem bw.bl{i:Bool}(h:bw K B H (.bl i) v):v=.bl i:=by have h:Rep K B H (.bl i) v:=h;dsimp only[Rep]at h;exact h
theorem bw.str{i:Str}(h:bw K B H (.str i) v):v=.str i:=by have h:Rep K B H (.str i) v:=h;dsimp only[Rep]at h;exact h
theorem bw.bu(h:bw K B H .bu v):v=.bu:=by have h:Rep K B H .bu v:=h;dsimp only[Rep]at h;exact h
theorem bw.ty{n:String}(h:bw K B H (.ty n) v):v=.ty n:=by have h:Rep K B H (.ty n) v:=h;dsimp only[Rep]at h;exact h
theorem gk(i:Int):Rep K B H (.int i) (.int i):=by dsimp only[Rep]
theorem DU(i:Bool):Rep K B H (.bl i) (.bl i):=by dsimp only[Rep]
theorem V1(i:Str):Rep K B H (.str i) (.str i):=by dsimp only[Rep]
theorem V2:Rep K B H .bu .bu:=by dsimp only[Rep]
theorem rTy(n:String):Rep K B H (.ty n) (.ty n):=by dsimp only[Rep]
theorem DV{l:List W}{p:Addr}{vs:List V}(b:H p=some (.tup vs))(a:ai K B H l vs):Rep K B H (.tup l) (.ref p):=by dsimp only[Rep];exact⟨p,vs,rfl,b,a⟩
end
abbrev KP:=W->Prop
noncomputable def Cont(K:Frag)(B:Addr->Prop)(H:Hp)(m:Md)(P:KP)(Q:VK):Prop:=∀w v a,P w->aq H a->dI K B H a m w v->Q v a
theorem Cont.now{K:Frag}{B:Addr->Prop}{H:Hp}{P:KP}{Q:VK}(c:Cont K B H .s P Q){w:W}{v:V}(p:P w)(h:Rep K B H w v):Q v H:=c w v H p (aq.refl H) (.of h)
theorem Cont.s{K:Frag}{B:Addr->Prop}{H:Hp}{m:Md}{P:KP}{Q:VK}(d:Dom B H)(c:Cont K B H .s P Q):Cont K B H m P Q:=λw v b p a h=>c w v b p a (h.s d)
noncomputable def NF(X:Cx)(f:Value->Value->Sem Value)(r:W->W->KP->Prop)(m:W->W->Md):Prop:=
 ∀(a:List (Addr×Obj))(s:Shared)(b:St)(H:Hp)(B:Addr->Prop)(x y:W)(d c:V)(v u:Value)(P:KP)(Q:VK),Inv X a b H s->Dom B H->RelV d v->RelV c u->bw X.K B H x d->bw X.K B H y c->r x y P->Cont X.K B H (m x y) P Q->
  wpAny (model X.prog X.w) X.A (f v u) (EP X a b Q) X.xe s
section
variable{X:Cx}
theorem KO:nK X (binaryOp .Add) (λx y H Q=>∃l b f d,x=.ref l/\y=.ref b/\Rd H l (.lst f)/\Rd H b (.lst d)/\f.length+d.length<=sizeLine/\∀p,H p=none->Q (.ref p) (upd H p (.lst (f++d)))):=by
 intro i s B H x y v u Q I k j h;obtain⟨l,b,f,d,rfl,rfl,o,t,hz,q⟩:=h;cases k;cases j;obtain⟨z,c,n,r,e⟩:=o.ok I.hok;obtain⟨C,a,D,g,A⟩:=t.ok I.hok;have E:=r.length;have m:=g.length;refine PySem.P.add_list e A ?_ (by rw[Fk,Fk];lia);have w:c.toArray++a.toArray=(c++a).toArray:=by simp
 rw[w];exact⟨.ref _,_,I.OU (t':=s.toks) (r.append g) (by rw[GM];lia),rfl,q _ I.fresh⟩
theorem KQ:nK X (binaryOp .Mult) (λx y H Q=>∃l k i,x=.ref l/\y=.int k/\Rd H l (.lst i)/\-(2^63)<=k/\k<2^63/\i.length*k.toNat<=sizeLine/\∀p,H p=none->Q (.ref p) (upd H p (.lst (A6 k.toNat i).flatten))):=by
 intro w s M H x y v u Q I C B h;obtain⟨l,k,i,rfl,rfl,E,J,G,hz,q⟩:=h;cases C;obtain⟨t,rfl⟩:=B;obtain⟨z,b,n,r,e⟩:=E.ok I.hok;have D:=r.length;have d:b.toArray.size*k.toNat<=sizeLine:=by rw[Fk,<-D];exact hz
 have g:¬b.toArray.size*k.toNat>(2^63 -1)/8:=by
  have:(sizeLine:Nat)<=(2^63 -1)/8:=by decide
  lia
 have f:¬(!Builtin.List.listFitsIndex k)=true:=by rw[fitsIndex_both J G];exact OK
 have L:¬Builtin.List.listTooLong (b.toArray.size*k.toNat)=true:=by rw[Fb d];exact OK
 have c:cP (λo j=>o++j) #[] (A6 (if b.toArray.isEmpty=true then 0 else k.toNat) b.toArray)=(A6 k.toNat b).flatten.toArray:=by
  have K:∀m:Nat,cP (λo j=>o++j) #[] (A6 m b.toArray)=(A6 m b).flatten.toArray:=λm=>by have:=foldl_rep b m [];rw[EY]at this;exact this
  rw[K];cases b with
  |nil=>simp
  |cons a N=>rw[BM (by simp)]
 refine wpAny_binaryOp_repeat_ref (T:="list") (U:="int") (by decide) ⟨_,e,rfl⟩ (λA=>typeIs_int A k t) noFill_list_mul F.fills_int_mul F.slot_int_rmul repeat_list F.slot_int_index.lookup
  (call_meets F.slot_int_rmul (typeIs_int s k t) F.entry_int_rmul (F.args_int_rmul_2 _ _) (int___rmul___int_list k t l b.toArray n)
    ⟨e,rfl,⟨_,e,rfl⟩,call_meets F.slot_list_mul ⟨_,e,rfl⟩ F.entry_list_mul (F.args_list_mul_2 _ _) (AutoListH.list___mul___list_int_3 l b.toArray n k t f g L) ⟨e,?_⟩⟩)
 rw[c];exact⟨.ref _,_,I.OU (t':=s.toks) (r.rep k.toNat) (by rw[len_rep,Ta];exact hz),rfl,q _ I.fresh⟩
def KR:W->W->Md
 |.lst _,_=>.f
 |_,_=>.s
theorem P6:NF X (binaryOp .Add) VX KR:=by
 intro f s n H B x y M L v u P Q I d w t C A h c;cases x with
 |int i=>
  cases y with
  |int j=>
   cases C.int;cases A.int;exact OI f s n H _ _ v u Q I w t ⟨i,j,rfl,rfl,c.now h (gk _)⟩
  |_=>exact h.elim
 |str i=>
  cases y with
  |str j=>
   cases C.str;cases A.str;exact zD f s n H _ _ v u Q I w t ⟨i,j,rfl,rfl,h.1,c.now h.2 (V1 _)⟩
  |_=>exact h.elim
 |lst a=>
  cases y with
  |lst b=>obtain⟨p,o,rfl,J,g⟩:=C.lst;obtain⟨q,D,rfl,E,k⟩:=A.lst;obtain⟨G,h⟩:=h;refine KO f s n H _ _ v u Q I w t ⟨p,q,o,D,rfl,rfl,J,E,by rw[g.len,k.len];exact G,λr l=>?_⟩;exact c _ _ _ h (aK l _) (.fresh (aq.refl H) l (g.app k))
  |_=>exact h.elim
 |tup a=>
  cases y with
  |tup b=>
   obtain⟨p,o,rfl,m,g⟩:=C.Zc;have J:nH X.K H p o:=nH.of m;obtain⟨q,D,rfl,E,k⟩:=A.tup;obtain⟨F,G,h⟩:=h;refine JL f s n H _ _ v u Q I w t ⟨p,q,o,D,rfl,rfl,J,E,λz=>F ?_,by rw[g.len,k.len];exact G,λz=>?_,λ_ r l=>?_⟩
   .have:=g.len;rw[z]at this;exact KE.mp this.symm
   .have:=k.len;rw[z]at this;have e:b=[]:=KE.mp this.symm;subst e;rw[X9]at h;exact c.now h (DV m g)
   .exact c _ _ _ h (aK l _) (.of (DV au ((g.app k).same (aK l _))))
  |_=>exact h.elim
 |_=>exact h.elim
theorem P7:NF X (binaryOp .Mult) VY KR:=by
 intro b s e H B x y D C v u P Q I d g f m l h c;cases x with
 |int i=>
  cases y with
  |int j=>
   cases m.int;cases l.int;exact JT b s e H _ _ v u Q I g f ⟨i,j,rfl,rfl,h.1,c.now h.2 (gk _)⟩
  |_=>exact h.elim
 |lst a=>
  cases y with
  |int k=>obtain⟨p,q,rfl,A,o⟩:=m.lst;cases l.int;obtain⟨w,t,z,h⟩:=h;refine KQ b s e H _ _ v u Q I g f ⟨p,k,q,rfl,rfl,A,w,t,by rw[o.len];exact z,λr n=>?_⟩;exact c _ _ _ h (aK n _) (.fresh (aq.refl H) n (o.rep _))
  |_=>exact h.elim
 |_=>exact h.elim
def mS:W->W->Md:=λ_ _=>.s
theorem P8:NF X (binaryOp .Sub) VZ mS:=by
 intro a s b H B x y m l v u P Q I d f e k g h c;cases x with
 |int i=>
  cases y with
  |int j=>
   cases k.int;cases g.int;exact OJ a s b H _ _ v u Q I f e ⟨i,j,rfl,rfl,c.now h (gk _)⟩
  |_=>exact h.elim
 |_=>exact h.elim
theorem GK{f:Value->Value->Sem Value}{C:Int->Int->Prop}{g:Int->Int->Int}(n:nK X f (rI C λi j=>.int (g i j))):NF X f (XD C g) mS:=by
 intro a s b H B x y p o v u P Q I d k e m l h c;cases x with
 |int i=>
  cases y with
  |int j=>
   cases m.int;cases l.int;exact n a s b H _ _ v u Q I k e ⟨i,j,rfl,rfl,h.1,c.now h.2 (gk _)⟩
  |_=>exact h.elim
 |_=>exact h.elim
def KU:Operator->W->W->Md
 |.Add=>KR
 |.Mult=>KR
 |_=>mS
theorem Ah(op:Operator):NF X (binaryOp op) (gY op) (KU op):=by
 cases op with
 |Add=>exact P6
 |Sub=>exact P8
 |Mult=>exact P7
 |FloorDiv=>exact GK Ff
 |Mod=>exact GK JC
 |Pow=>exact GK OL
 |_=>exact λa s b H B x y f e v u P Q I d i g k j h c=>h.elim
theorem vX{f:Value->Value->Sem Value}{p:Int->Int->Bool}(m:nK X f (Jz λi j=>.bl (p i j))):NF X f (GH p) mS:=by
 intro a s b H B x y o n v u P Q I d g e l k h c;cases x with
 |int i=>
  cases y with
  |int j=>
   cases l.int;cases k.int;exact m a s b H _ _ v u Q I g e ⟨i,j,rfl,rfl,c.now h (DU _)⟩
  |_=>exact h.elim
 |_=>exact h.elim
end
mutual
noncomputable def toD:W->PyData
 |.bu=>.none
 |.bl b=>.bool b
 |.int i=>.int i
 |.str x=>.str x
 |.lst l=>.list (toDL l)
 |.tup l=>.tuple (toDL l)
 |_=>.none
noncomputable def toDL:List W->List PyData
 |[]=>[]
 |w::l=>toD w::toDL l
end
mutual
noncomputable def B9:W->Bool
 |.bu=>true
 |.bl _=>true
 |.int _=>true
 |.str x=>PyData.strOk x
 |.lst l=>vY l
 |.tup l=>vY l
 |_=>false
noncomputable def vY:List W->Bool
 |[]=>true
 |w::l=>B9 w&&vY l
end
section
variable{X:Cx}{B:Addr->Prop}{H:Hp}
mutual
theorem V4:∀(w:W){v:V},B9 w=true->Rep X.K B H w v->Dt X H v (toD w)
 |.bu,v,_,h=>by obtain rfl:=h;exact O9
 |.bl b,v,_,h=>by obtain rfl:=h;exact Nk b
 |.int i,v,_,h=>by obtain rfl:=h;exact O7 i
 |.str x,v,_,h=>by obtain rfl:=h;exact O8 x
 |.lst l,v,d,h=>by obtain⟨p,e,rfl,_,c,a⟩:=h;exact vB (.inl c) (Ca l d a)
 |.tup l,v,d,h=>by obtain⟨p,e,rfl,c,a⟩:=h;exact Pa (nH.of c) (Ca l d a)
 |.ty _,_,d,_=>ff d
 |.cls _,_,d,_=>ff d
 |.obj _ _ _,_,d,_=>ff d
 |.gB _,_,d,_=>ff d
theorem Ca:∀(l:List W){vs:List V},vY l=true->ai X.K B H l vs->Paired (Dt X H) vs (toDL l)
 |[],vs,_,h=>by rw[h.nil_inv];exact .nil
 |w::l,vs,d,h=>by obtain⟨v,r,rfl,b,a⟩:=h.cons_inv;have d:=P3.mp d;exact .cons (V4 w d.1 b) (Ca l d.2 a)
end
theorem KW{w:W}{v:V}(d:B9 w=true)(h:bw X.K B H w v):Dt X H v (toD w):=by
 cases w with
 |lst l=>obtain⟨p,c,rfl,b,a⟩:=h.lst;exact vB (.inl b) (Ca l d a)
 |_=>exact V4 (B:=B) _ d h
end
mutual
theorem toD_lay:∀w:W,B9 w=true->(toD w).canLay0=true
 |.bu,_=>rfl
 |.bl _,_=>rfl
 |.int _,_=>rfl
 |.str x,d=>d
 |.lst l,d=>toDL_lay l d
 |.tup l,d=>toDL_lay l d
 |.ty _,d=>ff d
 |.cls _,d=>ff d
 |.obj _ _ _,d=>ff d
 |.gB _,d=>ff d
theorem toDL_lay:∀l:List W,vY l=true->PyData.canLayAll0 (toDL l)=true
 |[],_=>rfl
 |w::l,d=>by have d:=P3.mp d;exact P3.mpr ⟨toD_lay w d.1,toDL_lay l d.2⟩
end
mutual
theorem toD_inj:∀x y:W,B9 x=true->B9 y=true->same (toD x) (toD y)=true->x=y
 |.bu,.bu,_,_,_=>rfl
 |.bu,.bl _,_,_,h=>ff h
 |.bu,.int _,_,_,h=>ff h
 |.bu,.str _,_,_,h=>ff h
 |.bu,.lst _,_,_,h=>ff h
 |.bu,.tup _,_,_,h=>ff h
 |.bl _,.bu,_,_,h=>ff h
 |.bl _,.int _,_,_,h=>ff h
 |.bl _,.str _,_,_,h=>ff h
 |.bl _,.lst _,_,_,h=>ff h
 |.bl _,.tup _,_,_,h=>ff h
 |.int _,.bu,_,_,h=>ff h
 |.int _,.bl _,_,_,h=>ff h
 |.int _,.str _,_,_,h=>ff h
 |.int _,.lst _,_,_,h=>ff h
 |.int _,.tup _,_,_,h=>ff h
 |.str _,.bu,_,_,h=>ff h
 |.str _,.bl _,_,_,h=>ff h
 |.str _,.int _,_,_,h=>ff h
 |.str _,.lst _,_,_,h=>ff h
 |.str _,.tup _,_,_,h=>ff h
 |.lst _,.bu,_,_,h=>ff h
 |.lst _,.bl _,_,_,h=>ff h
 |.lst _,.int _,_,_,h=>ff h
 |.lst _,.str _,_,_,h=>ff h
 |.lst _,.tup _,_,_,h=>ff h
 |.tup _,.bu,_,_,h=>ff h
 |.tup _,.bl _,_,_,h=>ff h
 |.tup _,.int _,_,_,h=>ff h
 |.tup _,.str _,_,_,h=>ff h
 |.tup _,.lst _,_,_,h=>ff h
 |.bl a,.bl b,_,_,h=>Pi _ (eq_of_beq h)
 |.int a,.int b,_,_,h=>Pi _ (eq_of_beq h)
 |.str a,.str b,_,_,h=>Pi _ (eq_of_beq h)
 |.lst a,.lst b,d,e,h=>Pi _ (toDL_inj a b d e h)
 |.tup a,.tup b,d,e,h=>Pi _ (toDL_inj a b d e h)
 |.ty _,_,d,_,_=>ff d
 |.cls _,_,d,_,_=>ff d
 |.obj _ _ _,_,d,_,_=>ff d
 |.gB _,_,d,_,_=>ff d
 |_,.ty _,_,d,_=>ff d
 |_,.cls _,_,d,_=>ff d
 |_,.obj _ _ _,_,d,_=>ff d
 |_,.gB _,_,d,_=>ff d
theorem toDL_inj:∀x y:List W,vY x=true->vY y=true->sameAll (toDL x) (toDL y)=true->x=y
 |[],[],_,_,_=>rfl
 |[],_::_,_,_,h=>ff h
 |_::_,[],_,_,h=>ff h
 |x::b,y::a,d,e,h=>by have d:=P3.mp d;have e:=P3.mp e;have h:=P3.mp h;rw[toD_inj x y d.1 e.1 h.1,toDL_inj b a d.2 e.2 h.2]
end
mutual
theorem toD_refl:∀x:W,B9 x=true->same (toD x) (toD x)=true
 |.bu,_=>rfl
 |.bl a,_=>iq a
 |.int a,_=>iq a
 |.str a,_=>iq a
 |.lst a,d=>toDL_refl a d
 |.tup a,d=>toDL_refl a d
 |.ty _,d=>ff d
 |.cls _,d=>ff d
 |.obj _ _ _,d=>ff d
 |.gB _,d=>ff d
theorem toDL_refl:∀x:List W,vY x=true->sameAll (toDL x) (toDL x)=true
 |[],_=>rfl
 |x::a,d=>by have d:=P3.mp d;exact P3.mpr ⟨toD_refl x d.1,toDL_refl a d.2⟩
end
theorem toD_same(x y:W)(d:B9 x=true)(e:B9 y=true):same (toD x) (toD y)=true↔x=y:=⟨toD_inj x y d e,by rintro rfl;exact toD_refl x d⟩
theorem toDL_map:∀l:List W,toDL l=l.map toD
 |[]=>rfl
 |w::l=>Pi (toD w::·) (toDL_map l)
theorem rE:∀l:List W,vY l=l.all B9
 |[]=>rfl
 |w::l=>Pi (B9 w&&·) (rE l)
theorem KY:∀(n:Nat)(w:W),(zu n w=true\/ND n w=true)->B9 w=true/\(toD w).depth<=n+1
 |n,.bu,_=>⟨rfl,Iy _⟩
 |n,.bl _,_=>⟨rfl,Iy _⟩
 |n,.int _,_=>⟨rfl,Iy _⟩
 |n,.str x,h=>by
  have:PyData.strOk x=true:=by
   rcases h with h|h
   .cases n<;>exact h
   .cases n<;>exact h
  exact⟨this,Iy _⟩
 |0,.lst l,h=>h.elim ff ff
 |0,.tup l,h=>h.elim ff ff
 |n+1,.lst l,h=>by
  have b:∀w∈l,B9 w=true/\(toD w).depth<=n+1:=λw a=>by
   refine KY n w ?_;rcases h with h|h
   .exact .inl (KB.mp h w a)
   .exact .inr (KB.mp h w a)
  refine⟨(rE l).trans (KB.mpr λw a=>(b w a).1),?_⟩;dsimp only[toD];rw[toDL_map];exact WG (xY λx c=>by obtain⟨w,a,rfl⟩:=Hb.mp c;exact(b w a).2)
 |n+1,.tup l,h=>by
  have b:∀w∈l,B9 w=true/\(toD w).depth<=n+1:=λw a=>by
   refine KY n w ?_;rcases h with h|h
   .exact .inl (KB.mp h w a)
   .exact .inr (KB.mp h w a)
  refine⟨(rE l).trans (KB.mpr λw a=>(b w a).1),?_⟩;dsimp only[toD];rw[toDL_map];exact WG (xY λx c=>by obtain⟨w,a,rfl⟩:=Hb.mp c;exact(b w a).2)
 |0,.ty _,h=>h.elim ff ff
 |0,.cls _,h=>h.elim ff ff
 |0,.obj _ _ _,h=>h.elim ff ff
 |0,.gB _,h=>h.elim ff ff
 |n+1,.ty _,h=>h.elim ff ff
 |n+1,.cls _,h=>h.elim ff ff
 |n+1,.obj _ _ _,h=>h.elim ff ff
 |n+1,.gB _,h=>h.elim ff ff
inductive Cb(b:Bool):PyData->Prop where
 |none:Cb b .none
 |str (x:Str):Cb b (.str x)
 |bool (x:Bool) (h:b=true):Cb b (.bool x)
 |int (x:Int) (h:b=false):Cb b (.int x)
 |list {l:List PyData} (h:∀x∈l,Cb b x):Cb b (.list l)
 |tuple {l:List PyData} (h:∀x∈l,Cb b x):Cb b (.tuple l)
mutual
theorem vZ{b:Bool}:∀d e:PyData,Cb b d->Cb b e->SeqAt.noMix d e=true
 |.list c,.list a,h,k=>by
  cases h with
  |list h=>
   cases k with
   |list k=>rw[SeqAt.noMix];exact rF c a h k
 |.tuple c,.tuple a,h,k=>by
  cases h with
  |tuple h=>
   cases k with
   |tuple k=>rw[SeqAt.noMix];exact rF c a h k
 |.bool _,.int _,h,k=>by
  cases h with
  |bool _ h=>
   cases k with
   |int _ k=>rw[h]at k;cases k
 |.int _,.bool _,h,k=>by
  cases h with
  |int _ h=>
   cases k with
   |bool _ k=>rw[h]at k;exact ff k
 |.dict _,_,h,_=>by cases h
 |.none,.none,_,_=>by simp[SeqAt.noMix]
 |.none,.bool _,_,_=>by simp[SeqAt.noMix]
 |.none,.int _,_,_=>by simp[SeqAt.noMix]
 |.none,.str _,_,_=>by simp[SeqAt.noMix]
 |.none,.list _,_,_=>by simp[SeqAt.noMix]
 |.none,.tuple _,_,_=>by simp[SeqAt.noMix]
 |.none,.dict _,_,_=>by simp[SeqAt.noMix]
 |.bool _,.none,_,_=>by simp[SeqAt.noMix]
 |.bool _,.bool _,_,_=>by simp[SeqAt.noMix]
 |.bool _,.str _,_,_=>by simp[SeqAt.noMix]
 |.bool _,.list _,_,_=>by simp[SeqAt.noMix]
 |.bool _,.tuple _,_,_=>by simp[SeqAt.noMix]
 |.bool _,.dict _,_,_=>by simp[SeqAt.noMix]
 |.int _,.none,_,_=>by simp[SeqAt.noMix]
 |.int _,.int _,_,_=>by simp[SeqAt.noMix]
 |.int _,.str _,_,_=>by simp[SeqAt.noMix]
 |.int _,.list _,_,_=>by simp[SeqAt.noMix]
 |.int _,.tuple _,_,_=>by simp[SeqAt.noMix]
 |.int _,.dict _,_,_=>by simp[SeqAt.noMix]
 |.str _,.none,_,_=>by simp[SeqAt.noMix]
 |.str _,.bool _,_,_=>by simp[SeqAt.noMix]
 |.str _,.int _,_,_=>by simp[SeqAt.noMix]
 |.str _,.str _,_,_=>by simp[SeqAt.noMix]
 |.str _,.list _,_,_=>by simp[SeqAt.noMix]
 |.str _,.tuple _,_,_=>by simp[SeqAt.noMix]
 |.str _,.dict _,_,_=>by simp[SeqAt.noMix]
 |.list _,.none,_,_=>by simp[SeqAt.noMix]
 |.list _,.bool _,_,_=>by simp[SeqAt.noMix]
 |.list _,.int _,_,_=>by simp[SeqAt.noMix]
 |.list _,.str _,_,_=>by simp[SeqAt.noMix]
 |.list _,.tuple _,_,_=>by simp[SeqAt.noMix]
 |.list _,.dict _,_,_=>by simp[SeqAt.noMix]
 |.tuple _,.none,_,_=>by simp[SeqAt.noMix]
 |.tuple _,.bool _,_,_=>by simp[SeqAt.noMix]
 |.tuple _,.int _,_,_=>by simp[SeqAt.noMix]
 |.tuple _,.str _,_,_=>by simp[SeqAt.noMix]
 |.tuple _,.list _,_,_=>by simp[SeqAt.noMix]
 |.tuple _,.dict _,_,_=>by simp[SeqAt.noMix]
theorem rF{b:Bool}:∀c a:List PyData,(∀x∈c,Cb b x)->(∀y∈a,Cb b y)->SeqAt.noMixAll c a=true
 |[],[],_,_=>by simp[SeqAt.noMixAll]
 |[],_::_,_,_=>by simp[SeqAt.noMixAll]
 |_::_,[],_,_=>by simp[SeqAt.noMixAll]
 |x::c,y::a,h,k=>by rw[SeqAt.noMixAll,vZ x y (h x Dx) (k y Dx),rF c a (λz hz=>h z (DL _ hz)) λz hz=>k z (DL _ hz)];rfl
end
theorem v9:∀(n:Nat)(w:W),zu n w=true->Cb false (toD w)
 |n,.bu,_=>.none
 |n,.int i,_=>.int i rfl
 |n,.str x,_=>.str x
 |n,.bl _,h=>by cases n<;>exact ff h
 |n+1,.lst l,h=>by dsimp only[toD];rw[toDL_map];exact .list λx a=>by obtain⟨w,b,rfl⟩:=Hb.mp a;exact v9 n w (KB.mp h w b)
 |n+1,.tup l,h=>by dsimp only[toD];rw[toDL_map];exact .tuple λx a=>by obtain⟨w,b,rfl⟩:=Hb.mp a;exact v9 n w (KB.mp h w b)
 |0,.lst l,h=>ff h
 |0,.tup l,h=>ff h
 |n,.ty _,h=>by cases n<;>exact ff h
 |n,.cls _,h=>by cases n<;>exact ff h
 |n,.obj _ _ _,h=>by cases n<;>exact ff h
 |n,.gB _,h=>by cases n<;>exact ff h
theorem wc:∀(n:Nat)(w:W),ND n w=true->Cb true (toD w)
 |n,.bu,_=>.none
 |n,.bl i,_=>.bool i rfl
 |n,.str x,_=>.str x
 |n,.int _,h=>by cases n<;>exact ff h
 |n+1,.lst l,h=>by dsimp only[toD];rw[toDL_map];exact .list λx a=>by obtain⟨w,b,rfl⟩:=Hb.mp a;exact wc n w (KB.mp h w b)
 |n+1,.tup l,h=>by dsimp only[toD];rw[toDL_map];exact .tuple λx a=>by obtain⟨w,b,rfl⟩:=Hb.mp a;exact wc n w (KB.mp h w b)
 |0,.lst l,h=>ff h
 |0,.tup l,h=>ff h
 |n,.ty _,h=>by cases n<;>exact ff h
 |n,.cls _,h=>by cases n<;>exact ff h
 |n,.obj _ _ _,h=>by cases n<;>exact ff h
 |n,.gB _,h=>by cases n<;>exact ff h
section
variable{X:Cx}
theorem we(D:X.A.units+64<cLine)(g:Bool){a:List (Addr×Obj)}{s:Shared}{f:St}{H:Hp}{B:Addr->Prop}{x y:W}{m l:V}{v u:Value}{P:KP}{Q:VK}(I:Inv X a f H s)(r:RelV m v)(p:RelV l u)(C:bw X.K B H x m)(z:bw X.K B H y l)
 (h:((zu 9 x=true/\zu 9 y=true)\/(ND 9 x=true/\ND 9 y=true))/\∀b:Bool,(b=true↔x=y)->P (.bl (if g then !b else b)))(c:Cont X.K B H .s P Q):
 wpAny (model X.prog X.w) X.A (compareOp (if g then .NotEq else .Eq) v u) (EP X a f Q) X.xe s:=by
 obtain⟨i,h⟩:=h;have e:=KY 9 x (i.imp ip ip);have d:=KY 9 y (i.imp i0 i0);have o:SeqAt.shaped (toD x)=true:=by unfold SeqAt.shaped;rw[toD_lay x e.1,FV (Bz e.2 (by decide))];rfl
 have n:SeqAt.shaped (toD y)=true:=by unfold SeqAt.shaped;rw[toD_lay y d.1,FV (Bz d.2 (by decide))];rfl
 have t:SeqAt.noMix (toD x) (toD y)=true:=by
  rcases i with⟨k,j⟩|⟨k,j⟩
  .exact vZ _ _ (v9 9 x k) (v9 9 y j)
  .exact vZ _ _ (wc 9 x k) (wc 9 y j)
 have q:=h (same (toD x) (toD y)) (toD_same x y e.1 d.1);cases g with
 |true=>exact Pb D a s f H _ _ v u Q I r p ⟨_,_,KW e.1 C,KW d.1 z,⟨o,n,t⟩,c.now q (DU _)⟩
 |false=>exact FA D a s f H _ _ v u Q I r p ⟨_,_,KW e.1 C,KW d.1 z,⟨o,n,t⟩,c.now q (DU _)⟩
theorem NG(p:X.A.units+64<cLine)(e:Bool):NF X (compareOp (if e then .NotEq else .Eq)) (Zb e) mS:=by
 intro f s r H B x y E D v u P Q I d l g n m h c;have sc:∀a b:V,ON a b=true->(∀k:Bool,k=decide (a=b)->Q (.bl (if e then !k else k)) H)->RelV a v->RelV b u->wpAny (model X.prog X.w) X.A (compareOp (if e then .NotEq else .Eq) v u) (EP X f r Q) X.xe s:=λa b C q z t=>by
  cases e with
  |true=>exact UT f s r H _ _ v u Q I z t ⟨C,q _ rfl⟩
  |false=>exact Nb f s r H _ _ v u Q I z t ⟨C,q _ rfl⟩
 cases x with
 |int i=>
  cases y with
  |int j=>
   cases n.int;cases m.int;refine sc _ _ rfl (λk o=>c.now (w:=.bl (if e then !k else k)) ?_ (DU _)) l g;rw[o,show decide (V.int i=V.int j)=decide (i=j)from by simp];exact h
  |_=>exact we p e I l g n m h c
 |str i=>
  cases y with
  |str j=>
   cases n.str;cases m.str;refine sc _ _ rfl (λk o=>c.now (w:=.bl (if e then !k else k)) ?_ (DU _)) l g;rw[o,show decide (V.str i=V.str j)=decide (i=j)from by simp];exact h
  |_=>exact we p e I l g n m h c
 |bl i=>
  cases y with
  |bl j=>
   cases n.bl;cases m.bl;refine sc _ _ rfl (λk o=>c.now (w:=.bl (if e then !k else k)) ?_ (DU _)) l g;rw[o,show decide (V.bl i=V.bl j)=decide (i=j)from by simp];exact h
  |_=>exact we p e I l g n m h c
 |_=>exact we p e I l g n m h c
theorem wg(b:X.A.units+64<cLine)(op:CmpOp):NF X (compareOp op) (fW op) mS:=by
 cases op with
 |Eq=>exact NG b false
 |NotEq=>exact NG b true
 |Lt=>exact vX UU
 |LtE=>exact vX UW
 |Gt=>exact vX UX
 |GtE=>exact vX UY
 |_=>exact λa s e H B x y g f v u P Q I d j i l k h c=>h.elim
end
noncomputable def ER(X:Cx)(b:Hp)(R:Addr->Prop):Prop:=∃E:XK,Passes (ji X.prog X.w) X E/\(∀C a,R C->aq b a->E (.ref C) none a)/\zU X (λC a=>R C/\aq b a)
theorem DW{X:Cx}:Passes (ji X.prog X.w) X E0:=λ_ _ _ _ _ _ _ h=>by obtain⟨_,_,_,_,_,q⟩:=h;exact q.elim
theorem ER.none{X:Cx}{a:Hp}:ER X a λ_=>False:=⟨E0,DW,λ_ _ z=>z.elim,λ_ _ _ _ _ _ _ _ _ _ z=>z.1.elim⟩
abbrev RL:=(Addr->Prop)->Hp->Hp->W->V->Prop
abbrev WT:=Ev->(W->Prop)->Prop
def P9(K:Frag)(m:Md):RL:=λB H a w v=>dI K B H a m w v
def ρB(K:Frag):RL:=λB _ a w v=>bw K B a w v
noncomputable def tV(X:Cx)(M:Ms)(R:Addr->Prop)(e:RL)(t:WT):TE:=λb H Q=>∃A d c P,SR X.K M A d b H c/\ER X d R/\t c P/\∀w v a,P w->aq H a->e (FB A M b) H a w v->Q v a
noncomputable def tVT(X:Cx)(M:Ms)(R:Addr->Prop)(t:WT):TT:=λe H Q=>∃A c a P,SR X.K M A c e H a/\ER X c R/\t a P/\∀x d,P x->aq H d->∃b,x=.bl b/\Q b d
abbrev Zd:=(Addr->Prop)->Hp->List W->List V->Prop
noncomputable def tVA(X:Cx)(M:Ms)(R:Addr->Prop)(g:Zd)(t:Ev->(List W->Prop)->Prop):TA:=λb H Q=>∃A f c P,SR X.K M A f b H c/\ER X f R/\t c P/\∀d e a,P d->aq H a->g (FB A M b) a d e->Q e a
abbrev VE(X:Cx)(M:Ms)(R:Addr->Prop)(m:Md)(e:Expr)(t:WT):Prop:=PE X e (tV X M R (P9 X.K m) t)
abbrev VB(X:Cx)(M:Ms)(R:Addr->Prop)(e:Expr)(t:WT):Prop:=PE X e (tV X M R (ρB X.K) t)
abbrev VT(X:Cx)(M:Ms)(R:Addr->Prop)(e:Expr)(t:WT):Prop:=PT X e (tVT X M R t)
noncomputable def oU(K:Frag)(B:Addr->Prop)(H:Hp):List W->List V->Prop
 |[],vs=>vs=[]
 |w::a,vs=>∃v r,vs=v::r/\bw K B H w v/\oU K B H a r
def ρL(K:Frag):Zd:=λB H a b=>ai K B H a b
def Ze(K:Frag):Zd:=λB H a b=>oU K B H a b
abbrev VA(X:Cx)(M:Ms)(R:Addr->Prop)(es:List Expr)(t:Ev->(List W->Prop)->Prop):Prop:=PA X es (tVA X M R (ρL X.K) t)
abbrev T6(X:Cx)(M:Ms)(R:Addr->Prop)(es:List Expr)(t:Ev->(List W->Prop)->Prop):Prop:=PA X es (tVA X M R (Ze X.K) t)
theorem PE.imp{X:Cx}{e:Expr}{t t':TE}(h:PE X e t)(k:∀a H Q,t' a H Q->t a H Q):PE X e t':=λb s a H Q I w=>h b s a H Q I (k a H Q w)
theorem PT.imp{X:Cx}{e:Expr}{t t':TT}(h:PT X e t)(k:∀a H Q,t' a H Q->t a H Q):PT X e t':=λb s a H Q I w=>h b s a H Q I (k a H Q w)
theorem PW.imp{X:Cx}{e:Expr}{t t':TT}(h:PW X e t)(k:∀a H Q,t' a H Q->t a H Q):PW X e t':=λc b s a H Q I w=>h c b s a H Q I (k a H Q w)
theorem PA.imp{X:Cx}{e:List Expr}{t t':TA}(h:PA X e t)(k:∀a H Q,t' a H Q->t a H Q):PA X e t':=λc b s a H Q I w=>h c b s a H Q I (k a H Q w)
section
variable{X:Cx}{M:Ms}{R:Addr->Prop}{e a b c:Expr}{t ta tb tc:WT}{m:Md}{pos:Pos}
theorem DX(h:VE X M R m e t):VE X M R .s e t:=PE.imp h<|by rintro j H Q ⟨A,g,d,P,S,f,p,k⟩;exact⟨A,g,d,P,S,f,p,λw v i pw s r=>k w v i pw s (r.s S.dom)⟩
theorem V5(h:VE X M R m e t):VB X M R e t:=PE.imp h<|by rintro j H Q ⟨A,g,d,P,S,f,p,k⟩;exact⟨A,g,d,P,S,f,p,λw v i pw s r=>k w v i pw s (r.rep S.dom).b⟩
theorem GL{i:Nat}(h:PE X e (lG i))(o:aO M i->(i,.f)∈M):VB X M R e (λε Q=>match look ε i with|some w=>Q w|none=>False):=PE.imp h<|by
 rintro u H Q ⟨A,z,ε,P,S,y,p,k⟩
 revert p
 cases j:look ε i with
 |none=>exact λp=>p.elim
 |some w=>
  intro p;by_cases l:aO M i
  .obtain⟨F,O⟩:=S.ow;obtain⟨v,g,d⟩:=O.val i .f w (o l) j;obtain⟨x,q,n,rfl,rfl,_,s,r⟩:=d;exact⟨_,g,k _ _ H p (aq.refl H) ⟨q,n,rfl,.inl s,r⟩⟩
  .obtain⟨v,g,d⟩:=S.sh i w l j;exact⟨v,g,k _ _ H p (aq.refl H) d.b⟩
theorem Qa{i:Nat}(h:PE X e (lG i))(hi:¬aO M i):VE X M R .s e (λε Q=>match look ε i with|some w=>Q w|none=>False):=PE.imp h<|by
 rintro j H Q ⟨A,n,ε,P,S,l,p,k⟩
 revert p
 cases d:look ε i with
 |none=>exact λp=>p.elim
 |some w=>intro p;obtain⟨v,g,f⟩:=S.sh i w hi d;exact⟨v,g,k _ _ H p (aq.refl H) (.of f)⟩
noncomputable def wj(K:Frag)(i:Nat)(π:List nX):TE:=λd H Q=>∃v u,d[i]?=some (some v)/\xF K H v π u/\Q u H
theorem GN{i:Nat}{π:List nX}{m g:Md}{K:Frag}{A:Fz}{q H:Hp}{f:St}{ε:Ev}{w u:W}(S:SR K M A q f H ε)(k:(i,m)∈M)(j:j9 m π=some g)(l:look ε i=some w)(h:di w π=some u):
 ∃v d F,f[i]?=some (some v)/\xF K H v π d/\Fp K A.B H g u d F:=by
 obtain⟨F,O⟩:=S.ow;obtain⟨v,o,n⟩:=O.val i m w k l;obtain⟨d,y,s,x,_,r,p,_⟩:=Fp.path π m n j h;exact⟨v,d,s,o,r,p⟩
theorem yt{ε:Ev}{i:Nat}{π:List nX}{Q:W->Prop}(h:match look ε i with|some w=>(match di w π with|some u=>Q u|none=>False)|none=>False):∃w u,look ε i=some w/\di w π=some u/\Q u:=by
 cases f:look ε i with
 |none=>rw[f]at h;exact h.elim
 |some w=>
  rw[f]at h;dsimp only at h;cases d:di w π with
  |none=>rw[d]at h;exact h.elim
  |some u=>rw[d]at h;exact⟨w,u,rfl,d,h⟩
theorem Qc{i:Nat}{π:List nX}{g:Md}(h:PE X e (wj X.K i π))(o:(i,g)∈M)(n:j9 g π=some .f):VB X M R e (λε Q=>match look ε i with|some w=>(match di w π with|some u=>Q u|none=>False)|none=>False):=PE.imp h<|by rintro B H Q ⟨A,G,ε,P,S,E,p,k⟩;obtain⟨w,u,z,y,q⟩:=yt p;obtain⟨v,D,F,x,s,d⟩:=GN S o n z y;obtain⟨C,l,j,rfl,rfl,_,d,r⟩:=d;exact⟨v,_,x,s,k _ _ H q (aq.refl H) ⟨l,j,rfl,.inl d,r⟩⟩
theorem Qd{i:Nat}{π:List nX}{d:Md}(h:PE X e (wj X.K i π))(l:(i,d)∈M)(j:j9 d π=some .s):VE X M R .s e (λε Q=>match look ε i with|some w=>(match di w π with|some u=>Q u|none=>False)|none=>False):=PE.imp h<|by rintro y H Q ⟨A,B,ε,P,S,z,p,k⟩;obtain⟨w,u,x,r,q⟩:=yt p;obtain⟨v,g,F,o,n,f⟩:=GN S l j x r;dsimp only[Fp]at f;exact⟨v,g,o,n,k _ _ H q (aq.refl H) (.of f.2)⟩
theorem DY{v:V}{w:W}(h:PE X e (tC v))(d:∀B H,Rep X.K B H w v):VE X M R .s e (λ_ Q=>Q w):=PE.imp h<|by rintro f H Q ⟨A,j,g,P,S,i,p,k⟩;exact k _ _ H p (aq.refl H) (.of (d _ _))
theorem GO{op:Operator}(O:VB X M R a ta)(N:VB X M R b tb)(L:∀x y,KU op x y=m\/m=.s):VE X M R m (.BinOp a op b pos) (λε Q=>ta ε λx=>tb ε λy=>gY op x y Q):=by
 rintro i s g H Q I ⟨A,D,ε,P,S,C,p,k⟩;refine wpAny_BinOp (bin O N I (R:=λl j f=>∃x y,gY op x y P/\aq H f/\bw X.K (FB A M g) f x l/\bw X.K (FB A M g) f y j) ⟨A,D,ε,_,S,C,p,λx l Y q B G=>⟨A,D,ε,_,S.same B,C,q,λy j f o n F=>⟨x,y,o,B.trans n,bw.same n G,F⟩⟩⟩ ?_);rintro v u n l j f T rv J ⟨x,y,h,sm,q,o⟩;have d:=(S.same sm).dom;refine Ah op i n g f (FB A M g) x y l j v u P Q T d rv J q o h ?_;have c:Cont X.K (FB A M g) f m P Q:=λw z U pw E r=>k w z U pw (sm.trans E) (r.back sm λ_ z=>z);rcases L x y with e|e
 .rw[e];exact c
 .subst e;exact Cont.s d c
end
theorem bE{x:W}{Q:Bool->Prop}(h:truth x Q):∃b,x=.bl b/\Q b:=by
 cases x with
 |bl b=>exact⟨b,rfl,h⟩
 |_=>exact h.elim
theorem Rep.kP{K:Frag}{B:Addr->Prop}{H:Hp}{b:Bool}{v:V}(h:Rep K B H (.bl b) v):v=.bl b:=by dsimp only[Rep]at h;exact h
theorem Rep.int_inv{K:Frag}{B:Addr->Prop}{H:Hp}{b:Int}{v:V}(h:Rep K B H (.int b) v):v=.int b:=by dsimp only[Rep]at h;exact h
theorem dI.bO{K:Frag}{B:Addr->Prop}{H H':Hp}{w:W}{v:V}(h:dI K B H H' .s w v):Rep K B H' w v:=by obtain⟨F,_,_,h⟩:=h;obtain⟨rfl,h⟩:=h;exact h.less λp z=>.inl z
section
variable{X:Cx}{M:Ms}{R:Addr->Prop}{e a b c:Expr}{t ta tb tc:WT}{m:Md}{pos:Pos}{rest es:List Expr}
def Qe:W->Bool
 |.lst _=>true
 |_=>false
theorem Qg{op:Operator}{x y:W}{P:W->Prop}(h:gY op x y P)(d:(op=.Add/\(Qe x=true\/Qe y=true))\/(op=.Mult/\Qe x=true)):KU op x y=.f:=by
 rcases d with⟨rfl,d⟩|⟨rfl,d⟩
 .cases x with
  |lst l=>rfl
  |_=>
   rcases d with d|d
   .cases d
   .cases y<;>first|exact h.elim|exact ff d
 .cases x<;>first|rfl|exact ff d
theorem Ai{op:Operator}{F E:RL}(ha:PE X a (tV X M R F ta))(hb:PE X b (tV X M R E tb))(h1:∀B H H' w v,Dom B H->F B H H' w v->bw X.K B H' w v)(h2:∀B H H' w v,Dom B H->E B H H' w v->bw X.K B H' w v)
 (ho:∀B H H' w v B2 g G J U,F B H H' w v->E B2 g G J U->(op=.Add/\(Qe w=true\/Qe J=true))\/(op=.Mult/\Qe w=true)):VE X M R .f (.BinOp a op b pos) (λε Q=>ta ε λx=>tb ε λy=>gY op x y Q):=by
 rintro i s j H Q I ⟨A,T,ε,P,S,O,p,k⟩;refine wpAny_BinOp (bin ha hb I (R:=λn l g=>∃x y,gY op x y P/\aq H g/\bw X.K (FB A M j) g x n/\bw X.K (FB A M j) g y l/\KU op x y=.f) ⟨A,T,ε,_,S,O,p,λx n H1 D C N=>⟨A,T,ε,_,S.same C,O,D,λy l g q o L=>⟨x,y,q,C.trans o,bw.same o (h1 _ _ _ _ _ S.dom N),h2 _ _ _ _ _ (S.same C).dom L,Qg q (ho _ _ _ _ _ _ _ _ _ _ N L)⟩⟩⟩ ?_);rintro v u o n l g I2 rv Z ⟨x,y,h,sm,D,q,em⟩;have d:=(S.same sm).dom;refine Ah op i o j g (FB A M j) x y n l v u P Q I2 d rv Z D q h ?_;rw[em];exact λw z H' pw Y r=>k w z H' pw (sm.trans Y) (r.back sm λ_ z=>z)
theorem Qh(h:VE X M R .s a ta):VE X M R .s (.UnaryOp .USub a pos) (λε Q=>ta ε λx=>match x with|.int i=>Q (.int (-i))|_=>False):=PE.imp (UR OM h)<|by
 rintro o H Q ⟨A,n,ε,P,S,j,p,k⟩;refine⟨A,n,ε,_,S,j,p,λx q l d f g=>?_⟩;cases x with
 |int i=>exact⟨i,g.bO.int_inv,k _ _ l d f (.of (gk _))⟩
 |_=>exact d.elim
theorem Qi(h:VE X M R .s a ta):VE X M R .s (.UnaryOp .Not a pos) (λε Q=>ta ε λx=>truth x λb=>Q (.bl (!b))):=PE.imp (Ov h)<|by rintro n H Q ⟨A,l,ε,P,S,i,p,k⟩;refine⟨A,l,ε,_,S,i,p,λx o j d f g=>?_⟩;obtain⟨b,rfl,d⟩:=bE d;exact⟨b,g.bO.kP,k _ _ j d f (.of (DU _))⟩
theorem Qj{op:CmpOp}(J:X.A.units+64<cLine)(L:behindInMarks op b=false)(O:VB X M R a ta)(N:VB X M R b tb):VE X M R .s (.Compare a [op] [b] pos) (λε Q=>ta ε λx=>tb ε λy=>fW op x y Q):=by rintro f s g H Q I ⟨A,C,ε,P,S,B,p,k⟩;refine wpAny_Compare1 (bin O N I (R:=λj i d=>∃x y,fW op x y P/\aq H d/\bw X.K (FB A M g) d x j/\bw X.K (FB A M g) d y i) ⟨A,C,ε,_,S,B,p,λx j Y o q F=>⟨A,C,ε,_,S.same q,B,o,λy i d n l E=>⟨x,y,n,q.trans l,bw.same l F,E⟩⟩⟩ ?_) L;rintro v u l j i d T rv G ⟨x,y,h,sm,o,n⟩;exact wg J op f l g d (FB A M g) x y j i v u P Q T (S.same sm).dom rv G o n h λw z U pw D r=>k w z U pw (sm.trans D) (r.back sm λ_ z=>z)
theorem Qk{op:CmpOp}(Z:X.A.units+64<cLine)(hm:behindInMarks op b=false)(ha:VB X M R a ta)(hb:VB X M R b tb):VT X M R (.Compare a [op] [b] pos) (λε Q=>ta ε λx=>tb ε λy=>fW op x y Q):=by
 rintro d s i H Q I ⟨A,F,ε,P,S,E,p,k⟩;have q:=bin ha hb I (R:=λn l g=>∃x y,fW op x y P/\aq H g/\bw X.K (FB A M i) g x n/\bw X.K (FB A M i) g y l) ⟨A,F,ε,_,S,E,p,λx n H1 C o L=>⟨A,F,ε,_,S.same o,E,C,λy l g B j J=>⟨x,y,B,o.trans j,bw.same j L,J⟩⟩⟩
  (f:=compareOp op) (Q:=EP X d i λz D=>∃b,z=.bl b/\Q b D)<|by rintro v u j n l g I2 rv N ⟨x,y,h,sm,C,B⟩;refine wg Z op d j i g (FB A M i) x y n l v u _ _ I2 (S.same sm).dom rv N C B h λw z D pw G r=>?_;obtain⟨b,rfl,q⟩:=k w D pw (sm.trans G);exact⟨b,r.bO.kP,q⟩
 refine wpAny_isTrue_Compare1 (cy q λv o Y=>cy Y λu j U=>cy U λc s3 ⟨z,H3,I3,O,b,ez,T⟩=>?_) hm;subst ez;cases O;exact ey ⟨H3,I3,T⟩
theorem Ql(r:VE X M R .s a ta)(p:VE X M R .s (.BoolOp .And (b::rest) pos) tb):VE X M R .s (.BoolOp .And (a::b::rest) pos) (λε Q=>ta ε λx=>truth x λk=>if k=true then tb ε Q else Q (.bl false)):=
 PE.imp (Ou r p)<|by
  rintro w H Q ⟨A,i,ε,P,S,g,h,k⟩;refine⟨A,i,ε,_,S,g,h,λx C v f d n=>?_⟩;obtain⟨q,rfl,f⟩:=bE f;refine⟨q,n.bO.kP,?_⟩;cases q with
  |true=>exact⟨A,i,ε,_,S.same d,g,f,λy B u o j l=>k _ _ u o (d.trans j) (l.back d λ_ z=>z)⟩
  |false=>exact k _ _ v f d (.of (DU _))
theorem V6(r:VE X M R .s a ta)(p:VE X M R .s (.BoolOp .Or (b::rest) pos) tb):VE X M R .s (.BoolOp .Or (a::b::rest) pos) (λε Q=>ta ε λx=>truth x λk=>if k=true then Q (.bl true)else tb ε Q):=
 PE.imp (UH r p)<|by
  rintro w H Q ⟨A,i,ε,P,S,g,h,k⟩;refine⟨A,i,ε,_,S,g,h,λx C v f d n=>?_⟩;obtain⟨q,rfl,f⟩:=bE f;refine⟨q,n.bO.kP,?_⟩;cases q with
  |false=>exact⟨A,i,ε,_,S.same d,g,f,λy B u o j l=>k _ _ u o (d.trans j) (l.back d λ_ z=>z)⟩
  |true=>exact k _ _ v f d (.of (DU _))
abbrev NH(X:Cx)(M:Ms)(R:Addr->Prop)(e:Expr)(t:WT):Prop:=PW X e (tVT X M R t)
theorem KZ(d:VT X M R a ta):NH X M R (.BoolOp .And [a] pos) ta:=Bc d
theorem Qm(d:VT X M R a ta):NH X M R (.BoolOp .Or [a] pos) ta:=zw d
theorem Qn(o:VT X M R a ta)(n:NH X M R (.BoolOp .And (b::rest) pos) tb):NH X M R (.BoolOp .And (a::b::rest) pos) (λε Q=>ta ε λx=>truth x λk=>if k=true then tb ε Q else Q (.bl false)):=
 PW.imp (EN o n)<|by
  rintro s H Q ⟨A,i,ε,P,S,g,h,k⟩;refine⟨A,i,ε,_,S,g,h,λx r d f=>?_⟩;obtain⟨q,rfl,d⟩:=bE d;refine⟨q,rfl,?_⟩;cases q with
  |true=>exact⟨A,i,ε,P,S.same f,g,d,λy p l j=>k _ p l (f.trans j)⟩
  |false=>obtain⟨b,e,q⟩:=k _ r d f;cases e;exact q
theorem V7(o:VT X M R a ta)(n:NH X M R (.BoolOp .Or (b::rest) pos) tb):NH X M R (.BoolOp .Or (a::b::rest) pos) (λε Q=>ta ε λx=>truth x λk=>if k=true then Q (.bl true)else tb ε Q):=
 PW.imp (EO o n)<|by
  rintro s H Q ⟨A,i,ε,P,S,g,h,k⟩;refine⟨A,i,ε,_,S,g,h,λx r d f=>?_⟩;obtain⟨q,rfl,d⟩:=bE d;refine⟨q,rfl,?_⟩;cases q with
  |false=>exact⟨A,i,ε,P,S.same f,g,d,λy p l j=>k _ p l (f.trans j)⟩
  |true=>obtain⟨b,e,q⟩:=k _ r d f;cases e;exact q
theorem Qo(g:VT X M R a ta):VT X M R (.UnaryOp .Not a pos) (λε Q=>ta ε λx=>truth x λb=>Q (.bl (!b))):=PT.imp (zx g)<|by rintro n H Q ⟨A,l,ε,P,S,i,h,k⟩;refine⟨A,l,ε,_,S,i,h,λx j d f=>?_⟩;obtain⟨q,rfl,d⟩:=bE d;obtain⟨b,e,z⟩:=k _ j d f;cases e;exact⟨q,rfl,z⟩
theorem wk(l:∀d,isTrue e X.env d=(do let v<-d;standAt e.pos;holding [v] (truthy v)))(h:VE X M R .s e t):VT X M R e t:=PT.imp (vg h l)<|by rintro q H Q ⟨A,p,f,P,S,n,h,k⟩;refine⟨A,p,f,P,S,n,h,λx r o j g i=>?_⟩;obtain⟨b,rfl,z⟩:=k _ o j g;exact⟨b,i.bO.kP,z⟩
theorem GP(r:VT X M R c tc)(u:VE X M R m a ta)(s:VE X M R m b tb):VE X M R m (.IfExp c a b pos) (λε Q=>tc ε λx=>truth x λk=>if k=true then ta ε Q else tb ε Q):=PE.imp (ET r u s)<|by
 rintro v H Q ⟨A,o,ε,P,S,l,h,k⟩;refine⟨A,o,ε,_,S,l,h,λx w f d=>?_⟩;obtain⟨q,rfl,f⟩:=bE f;refine⟨q,rfl,?_⟩;cases q with
 |true=>exact⟨A,o,ε,_,S.same d,l,f,λy p n j g i=>k _ _ n j (d.trans g) (i.back d λ_ z=>z)⟩
 |false=>exact⟨A,o,ε,_,S.same d,l,f,λy p n j g i=>k _ _ n j (d.trans g) (i.back d λ_ z=>z)⟩
theorem Qp:VA X M R [] (λ_ Q=>Q []):=PA.imp aY<|by rintro d H Q ⟨A,i,f,P,S,g,h,k⟩;exact k [] [] H h (aq.refl H) .nil
theorem K1{g:Ev->(List W->Prop)->Prop}(r:starEach (a::es) X.env=(false,eval a X.env)::starEach es X.env)(v:VE X M R .s a ta)(u:VA X M R es g):VA X M R (a::es) (λε Q=>ta ε λx=>g ε λf=>Q (x::f)):=
 PA.imp (ay v u r)<|by rintro y H Q ⟨A,n,ε,P,S,l,h,k⟩;refine⟨A,n,ε,_,S,l,h,λx z C q j o=>⟨A,n,ε,_,S.same j,l,q,λf B w d i p=>?_⟩⟩;exact k _ _ w d (j.trans i) (.cons (o.bO.same i) p)
theorem K2:T6 X M R [] (λ_ Q=>Q []):=PA.imp aY<|by rintro d H Q ⟨A,i,f,P,S,g,h,k⟩;exact k [] [] H h (aq.refl H) rfl
theorem GQ{g:Ev->(List W->Prop)->Prop}(u:starEach (a::es) X.env=(false,eval a X.env)::starEach es X.env)(w:VB X M R a ta)(v:T6 X M R es g):T6 X M R (a::es) (λε Q=>ta ε λx=>g ε λf=>Q (x::f)):=
 PA.imp (ay w v u)<|by rintro z H Q ⟨A,n,ε,P,S,l,h,k⟩;refine⟨A,n,ε,_,S,l,h,λx o B s j q=>⟨A,n,ε,_,S.same j,l,s,λf p y d i r=>?_⟩⟩;exact k _ _ y d (j.trans i) ⟨o,p,rfl,bw.same i q,r⟩
theorem Qq{g:Ev->(List W->Prop)->Prop}(h:VA X M R es g):VE X M R .f (.List es pos) (λε Q=>g ε λd=>d.length<=sizeLine/\Q (.lst d)):=PE.imp (kK h)<|by rintro r H Q ⟨A,q,ε,P,S,o,h,k⟩;refine⟨A,q,ε,_,S,o,h,λd s u l i j=>?_⟩;refine⟨by rw[ai.len j];exact l.1,λp n=>?_⟩;exact k _ _ _ l.2 (i.trans (aK n _)) (.fresh i n j)
theorem Qt{f:Ev->(List W->Prop)->Prop}{l:Nat}(h:VA X M R es f):VE X M R .s (.Tuple es l pos) (λε Q=>f ε λd=>d.length<=sizeLine/\Q (.tup d)):=PE.imp (zJ h)<|by rintro r H Q ⟨A,q,ε,P,S,o,h,k⟩;refine⟨A,q,ε,_,S,o,h,λd u v i n g=>?_⟩;refine⟨by rw[ai.len g];exact i.1,λp j=>?_⟩;exact k _ _ _ i.2 (n.trans (aK j _)) (.of (DV au (ai.same (aK j _) g)))
theorem Ce{K:Frag}{B:Addr->Prop}{H:Hp}{l:List W}{vs:List V}{i:Int}{w:W}(h:ai K B H l vs)(e:nB l i=some w):∃v,nB vs i=some v/\Rep K B H w v:=by
 unfold nB at e⊢;rw[h.len];cases d:xR l.length i with
 |none=>rw[d]at e;exact nn e
 |some j=>rw[d]at e;exact h.get e
theorem bw.gB{K:Frag}{B:Addr->Prop}{H:Hp}{ns:List Int}{v:V}(h:bw K B H (.gB ns) v):∃p,v=.ref p/\gP K H p (ns.map V.int):=by
 have h:Rep K B H (.gB ns) v:=h;obtain⟨p,e,h⟩:=h;refine⟨p,e,?_⟩;rcases h with⟨o,h⟩|h
 .exact .inl (.inr ⟨o,h⟩)
 .rcases h with(h|⟨o,h⟩)|h
  .cases h
  .cases h
  .exact .inr h
theorem Cf{ns:List Int}{i n:Int}(e:nB ns i=some n):nB (ns.map V.int) i=some (.int n):=by
 unfold nB at e⊢;rw[Ap];cases d:xR ns.length i with
 |none=>rw[d]at e;exact nn e
 |some j=>rw[d]at e;show(ns.map V.int)[j]?=_;have e:ns[j]?=some n:=e;rw[Da,e];rfl
theorem V8(G:lI b)(J:VB X M R a ta)(I:VE X M R .s b tb):VE X M R .s (.Subscript a b pos) (λε Q=>ta ε λx=>tb ε λy=>P5 x y Q):=PE.imp (E7 zN J I G)<|by
 rintro K H Q ⟨A,E,ε,P,S,D,h,k⟩;refine⟨A,E,ε,_,S,D,h,λx N T F o f=>⟨A,E,ε,_,S.same o,D,F,λy L C d j r=>?_⟩⟩;have f:=bw.same j f;cases x with
 |lst l=>
  cases y with
  |int i=>obtain⟨p,q,rfl,g,z⟩:=f.lst;obtain⟨w,e,d⟩:=d;obtain⟨v,B,u⟩:=Ce z e;exact .inl ⟨p,q,i,v,rfl,r.bO.int_inv,.inl g,B,k _ _ C d (o.trans j) (.of u)⟩
  |_=>exact d.elim
 |tup l=>
  cases y with
  |int i=>obtain⟨p,q,rfl,g,z⟩:=f.tup;obtain⟨w,e,d⟩:=d;obtain⟨v,B,u⟩:=Ce z e;exact .inr (.inl ⟨p,q,i,v,rfl,r.bO.int_inv,g,B,k _ _ C d (o.trans j) (.of u)⟩)
  |_=>exact d.elim
 |gB O=>
  cases y with
  |int i=>obtain⟨p,rfl,g⟩:=f.gB;obtain⟨n,e,d⟩:=d;exact .inl ⟨p,_,i,_,rfl,r.bO.int_inv,g,Cf e,k _ _ C d (o.trans j) (.of (gk _))⟩
  |_=>exact d.elim
 |_=>exact d.elim
theorem NI{K:Frag}{B:Addr->Prop}{H:Hp}{l:List W}{vs:List V}(h:ai K B H l vs)(lo hi:Option Int):ai K B H (nZ l lo hi) (Dp vs lo hi):=by unfold nZ Dp;rw[h.len];exact(h.drop _).take _
noncomputable def V9(X:Cx)(M:Ms)(R:Addr->Prop)(t:Ev->(Option Int->Prop)->Prop):TO:=λh H Q=>∃A f d P,SR X.K M A f h H d/\ER X f R/\t d P/\∀o g,P o->aq H g->Q o g
theorem PO.imp{e:Option Expr}{t t':TO}(h:PO X e t)(k:∀d H Q,t' d H Q->t d H Q):PO X e t':=λf s d H Q I w=>h f s d H Q I (k d H Q w)
theorem K3:PO X none (V9 X M R λ_ Q=>Q none):=PO.imp JJ<|by rintro d H Q ⟨A,i,f,P,S,g,h,k⟩;exact k none H h (aq.refl H)
theorem K4(j:VE X M R .s a ta):PO X (some a) (V9 X M R λε Q=>ta ε λy=>match y with|.int i=>Q (some i)|_=>False):=PO.imp (JK j)<|by
 rintro p H Q ⟨A,o,ε,P,S,l,h,k⟩;refine⟨A,o,ε,_,S,l,h,λx q n d f g=>?_⟩;cases x with
 |int i=>exact⟨i,g.bO.int_inv,k _ n d f⟩
 |_=>exact d.elim
theorem Wa{lo hi:Option Expr}{p2:Pos}{tl w:Ev->(Option Int->Prop)->Prop}(C:VB X M R a ta)(r:PO X lo (V9 X M R tl))(n:PO X hi (V9 X M R w)):VE X M R .f (.Subscript a (.Slice lo hi none p2) pos) (λε Q=>ta ε λx=>tl ε λl=>w ε λh=>XE x l h Q):=
 PE.imp (E6 JO C r n)<|by
  rintro E H Q ⟨A,v,ε,P,S,u,h,k⟩;refine⟨A,v,ε,_,S,u,h,λx G K B g o=>⟨A,v,ε,_,S.same g,u,B,λl J r d=>⟨A,v,ε,_,S.same (g.trans d),u,r,λh I n i=>?_⟩⟩⟩;have o:=bw.same (d.trans i) o;cases x with
  |lst F=>obtain⟨p,y,rfl,s,D⟩:=o.lst;refine⟨p,y,rfl,.inl s,λq j=>?_⟩;exact k _ _ _ n (((g.trans d).trans i).trans (aK j _)) (.fresh ((g.trans d).trans i) j (NI D l h))
  |gB z=>obtain⟨p,rfl,s⟩:=o.gB;refine⟨p,_,rfl,s,λq j=>?_⟩;exact k _ _ _ n (((g.trans d).trans i).trans (aK j _)) (.fresh ((g.trans d).trans i) j (NI (ai.KI z) l h))
  |_=>exact n.elim
def Wb:BI->Md
 |.list=>.f
 |_=>.s
noncomputable def jx(X:Cx)(f:Value)(b:BI):Prop:=
 ∀(d:List (Addr×Obj))(s:Shared)(g:St)(H:Hp)(B:Addr->Prop)(h:List W)(i:List V)(j:List Value)(P:KP)(Q:VK),Inv X d g H s->Dom B H->Vals i j->oU X.K B H h i->yq b h P->Cont X.K B H (Wb b) P Q->
  wpAny (model X.prog X.w) X.A (call f j) (EP X d g Q) X.xe s
noncomputable def Wc(K:Frag)(b:BI):List V->Hp->VK->Prop:=λf H Q=>∃(B:Addr->Prop)(d:List W)(P:KP),Dom B H/\oU K B H d f/\yq b d P/\Cont K B H (Wb b) P Q
theorem jx.r{f:Value}{b:BI}(h:jx X f b):dJ X f (Wc X.K b):=by rintro g s i H l n Q I r ⟨B,j,P,d,p,o,k⟩;exact h g s i H B j l n P Q I d r p o k
theorem jy{K:Frag}{B:Addr->Prop}{H:Hp}{w:W}{vs:List V}(h:oU K B H [w] vs):∃v,vs=[v]/\bw K B H w v:=by obtain⟨v,r,rfl,f,d⟩:=h;cases(show r=[]from d);exact⟨v,rfl,f⟩
theorem Cg{K:Frag}{B:Addr->Prop}{H:Hp}{w w':W}{vs:List V}(h:oU K B H [w,w'] vs):∃v d,vs=[v,d]/\bw K B H w v/\bw K B H w' d:=by obtain⟨v,r,rfl,i,g⟩:=h;obtain⟨d,rfl,f⟩:=jy g;exact⟨v,d,rfl,i,f⟩
theorem cw_len:jx X (.builtin "len") .len:=by
 intro f s k H B q u n P Q I d r o h c
 match q,h with
 |[.lst l],h=>obtain⟨v,rfl,g⟩:=jy o;obtain⟨p,i,rfl,g,j⟩:=g.lst;exact iE f s k H _ n Q I r ⟨p,i,rfl,.inl (.inl g),c.now (w:=.int i.length) (by rw[j.len];exact h) (gk _)⟩
 |[.tup l],h=>obtain⟨v,rfl,g⟩:=jy o;obtain⟨p,i,rfl,g,j⟩:=g.tup;exact iE f s k H _ n Q I r ⟨p,i,rfl,.inr g,c.now (w:=.int i.length) (by rw[j.len];exact h) (gk _)⟩
 |[.gB ns],h=>obtain⟨v,rfl,g⟩:=jy o;obtain⟨p,rfl,j⟩:=g.gB;exact iE f s k H _ n Q I r ⟨p,_,rfl,.inl j,c.now (w:=.int ns.length) h (by rw[Ap];exact gk _)⟩
theorem cw_abs:jx X (.builtin "abs") .abs:=by
 intro f s g H B j o k P Q I d r l h c
 match j,h with
 |[.int i],h=>obtain⟨v,rfl,n⟩:=jy l;cases n.int;exact E2 f s g H _ k Q I r ⟨i,rfl,c.now h (gk _)⟩
theorem cw_max(q:X.calm=true):jx X (.builtin "max") .max2:=by
 intro f s n H B w D o P Q I d r u h c
 match w,h with
 |[.int i,.int j],h=>obtain⟨v,E,rfl,g,k⟩:=Cg u;cases g.int;cases k.int;exact De q f s n H _ o Q I r ⟨i,j,rfl,c.now h (gk _)⟩
 |[.lst l],h=>obtain⟨x,rfl,y,h⟩:=h;obtain⟨v,rfl,g⟩:=jy u;obtain⟨p,C,rfl,g,k⟩:=g.lst;have e:=ai.ints k;subst e;exact DG q f s n H _ o Q I r ⟨p,x,rfl,.inl g,y,λm A z=>c.now (h m A z) (gk _)⟩
theorem cw_dvm:jx X (.builtin "divmod") .T3:=by
 intro f s g H B k w l P Q I d r o h c
 match k,h with
 |[.int i,.int j],h=>obtain⟨v,x,rfl,u,p⟩:=Cg o;cases u.int;cases p.int;exact xN f s g H _ l Q I r ⟨i,j,rfl,h.1,λq n=>c _ _ _ h.2 (aK n _) (.of (DV au (.cons (gk _) (.cons (gk _) .nil))))⟩
theorem cw_min(n:X.calm=true):jx X (.builtin "min") .min2:=by
 intro f s g H B k u l P Q I d r o h c
 match k,h with
 |[.int i,.int j],h=>obtain⟨v,w,rfl,q,p⟩:=Cg o;cases q.int;cases p.int;exact Dg n f s g H _ l Q I r ⟨i,j,rfl,c.now h (gk _)⟩
theorem cw_sum(o:X.calm=true):jx X (.builtin "sum") .sum:=by
 intro f s i H B j x k P Q I d r q h c
 match j,h with
 |[.lst l],h=>obtain⟨n,rfl,h⟩:=h;obtain⟨v,rfl,g⟩:=jy q;obtain⟨p,w,rfl,g,u⟩:=g.lst;have e:=ai.ints u;subst e;exact DA o f s i H _ k Q I r ⟨p,n,rfl,.inl g,c.now h (gk _)⟩
theorem cw_all(n:X.calm=true):jx X (.builtin "all") .all:=by
 intro f s i H B j x k P Q I d r o h c
 match j,h with
 |[.lst l],h=>obtain⟨u,rfl,h⟩:=h;obtain⟨v,rfl,g⟩:=jy o;obtain⟨p,w,rfl,g,q⟩:=g.lst;have e:=ai.bls q;subst e;exact DB n f s i H _ k Q I r ⟨p,u,rfl,.inl g,c.now h (DU _)⟩
theorem cw_any(n:X.calm=true):jx X (.builtin "any") .any:=by
 intro f s i H B j x k P Q I d r o h c
 match j,h with
 |[.lst l],h=>obtain⟨u,rfl,h⟩:=h;obtain⟨v,rfl,g⟩:=jy o;obtain⟨p,w,rfl,g,q⟩:=g.lst;have e:=ai.bls q;subst e;exact DI n f s i H _ k Q I r ⟨p,u,rfl,.inl g,c.now h (DU _)⟩
theorem cw_list:jx X (.type "list") .list:=by
 intro f s n H B w x o P Q I d r u h c
 match w,h with
 |[.lst l],h=>obtain⟨v,rfl,g⟩:=jy u;obtain⟨p,j,rfl,g,k⟩:=g.lst;exact lJ f s n H _ o Q I r ⟨p,j,rfl,.inl (.inl g),λq i=>c _ _ _ h (aK i _) (.fresh (aq.refl H) i k)⟩
 |[.tup l],h=>obtain⟨v,rfl,g⟩:=jy u;obtain⟨p,j,rfl,g,k⟩:=g.tup;exact lJ f s n H _ o Q I r ⟨p,j,rfl,.inr g,λq i=>c _ _ _ h (aK i _) (.fresh (aq.refl H) i k)⟩
noncomputable def yu(K:Frag):Prop:=∀a∈["NoneType","bool","int","str","list","tuple"],∀b∈["int","bool","tuple","list","str","dict"],kitOne K (.type a) (.type b)=some (DR a b)
theorem cw_isi(N:yu X.K):dJ X (.builtin "isinstance") (λvs H Q=>∃(B:Addr->Prop)(w:W)(n:String)(P:KP),n∈["int","bool","tuple","list","str","dict"]/\oU X.K B H [w,.ty n] vs/\yq .Af [w,.ty n] P/\Cont X.K B H .s P Q):=by
 rintro q s A H vs Z Q I r ⟨B,w,n,P,L,O,h,c⟩;obtain⟨v,Y,rfl,k,S⟩:=Cg O;cases S.ty;obtain⟨a,i,h⟩:=h;have x:Q (.bl (DR a n)) H:=c.now h (DU _);obtain⟨E,D,rfl,d,F⟩:=vals2 r;cases(show D=Value.type n from F);have g:∀u,u∈["NoneType","bool","int","str","list","tuple"]->a=u->kitOne X.K (.type u) (.type n)=some (DR a n):=λu m e=>by rw[e];exact N u m n L
 have j:∀y:Tok,EP X q A Q (.bool (DR a n)) {s with toks:=y}:=λy=>⟨.bl _,H,I.tok _,rfl,x⟩;cases w with
 |bu=>
  cases k.bu;cases i;exact fL I d .bu (g _ (by simp) rfl) j
 |bl b=>
  cases k.bl;cases i;exact fL I d (.bl b) (g _ (by simp) rfl) j
 |int b=>
  cases k.int;cases i;exact fL I d (.int b) (g _ (by simp) rfl) j
 |str b=>
  cases k.str;cases i;exact fL I d (.str b) (g _ (by simp) rfl) j
 |lst l=>
  obtain⟨p,C,rfl,f,G⟩:=k.lst;cases i;rcases f with f|⟨o,f⟩
  .exact fL I d (.lst f) (g _ (by simp) rfl) j
  .exact fL I d (.xH f) (g _ (by simp) rfl) j
 |tup l=>obtain⟨p,C,rfl,f,G⟩:=k.tup;cases i;cases(show E=Value.ref p from d);obtain⟨J,r',⟨o,U,T,_⟩,_⟩:=I.tuple f;exact Ts PySem.W.kitx_tuple I.j8 ⟨o,U,T⟩ (g _ (by simp) rfl) (λz=>nomatch z) j
 |_=>exact nn i
end
noncomputable def NJ(K:Frag)(n:Nat)(m:Md)(sp:aZ):Sp:=λc H Q E=>∃A a P R,a.length=n/\ai K A H a c/\Dom A H/\sp a P R/\Cont K A H m P Q/\∀C b,R C->aq H b->E (.ref C) none b
noncomputable def NK(K:Frag)(n:Nat)(g:Md)(sp:aZ):Sp:=λh H Q E=>∃(ab:Addr->Prop)(F:List Addr)(f:W)(e:V)(d:List W)(b:List V)(P:W->Prop)(R:Addr->Prop),h=e::b/\d.length+1=n/\F.Nodup/\(∀p∈F,¬ab p)/\Dom ab H/\Fp K (λp=>ab p\/p∈F) H g f e F/\ai K (λp=>ab p\/p∈F) H d b/\sp (f::d) P R/\
 (∀w y v c a,P (.tup [w,y])->vV (·∈F) H a->c.Nodup->(∀p∈c,p∈F\/H p=none)->Fp K (λp=>ab p\/p∈c) a g y e c->Rep K (λp=>ab p\/p∈c) a w v->Q v a)/\(∀C a,R C->vV (·∈F) H a->E (.ref C) none a)
noncomputable def oV(K:Frag)(n:Nat)(m:Md)(sp:aZ):Sp:=
 match m with
 |.io a=>NK K n a sp
 |m=>NJ K n m sp
inductive cU(P:Program)(w:World)(K:Frag)(mg:Str->Option Value)(base:Heap):Nat->Value->Nat->Sp->Prop where
 |fn {k:Nat} {f:Addr} {fd:FuncData} {ps:List Str} {sp:Sp} (kp:keepIn K (.ref f)=true) (b:Binds K fd ps []) (F:bK P w K mg base (ji P w) k f fd ps sp):cU P w K mg base k (.ref f) ps.length sp
 |mk {k n:Nat} {C f:Addr} {fd:FuncData} {ps:List Str} {sp spi:Sp} (M:Mk K C f) (b:Binds K fd ps []) (F:bK P w K mg base (ji P w) k f fd ps spi)
  (h:∀vs H Q E,sp vs H Q E->∀x dx,H x=none->H dx=none->dx≠x->spi (.ref x::vs) (upd (upd H dx (.own x)) x (.ins C dx [])) (λv H2=>v=.bu/\Q (.ref x) H2) E):cU P w K mg base (k+1) (.ref C) n sp
theorem cU.keep{P:Program}{w:World}{K:Frag}{mg:Str->Option Value}{base:Heap}{k n:Nat}{a:Value}{sp:Sp}(c:cU P w K mg base k a n sp):keepIn K a=true:=by
 cases c with
 |fn kp _ _=>exact kp
 |mk M _ _ _=>exact M.kp
theorem cU.run{X:Cx}{k n:Nat}{g:Value}{sp:Sp}{a:List (Addr×Obj)}{d:St}{H:Hp}{s:Shared}{Q:VK}{E:XK}{us:List Value}{vs:List V}(c:cU X.prog X.w X.K X.mg X.base k g n sp)(f:cX k X.A)(e:Passes (ji X.prog X.w) X E)(I:Inv X a d H s)(r:Vals vs us)(h:sp vs H Q E):
 wpAny (model X.prog X.w) X.A (call g us) (EP X a d Q) X.xe s:=by
 cases c with
 |fn p b F=>exact vh (ds:=[]) (zL:=[]) F f b .nil e I r (by rw[X9];exact h)
 |mk M b F l=>exact E5 (ds:=[]) (zL:=[]) M F f b .nil e I r (λx o m j i=>by rw[X9];exact l vs H Q E h x o m j i)
section
variable{X:Cx}{M:Ms}{R:Addr->Prop}{e a b c:Expr}{t ta tb tc:WT}{m:Md}{pos p:Pos}{es:List Expr}{x:Str}
theorem Ci{B:Ev->(List W->Prop)->Prop}{k n:Nat}{N:Value}{sp:aZ}(F:cU X.prog X.w X.K X.mg X.base k N n (NJ X.K n m sp))(Z:cX k X.A)(hg:Gl X x)(hm:X.mg x=some N)
 (hn:∀d P R,sp d P R->d.length=n)(ha:VA X M R (e::es) B)(u:(x==("__debug__":Str))=false)(he:starEach (e::es) X.env=(false,eval e X.env)::starEach es X.env)(q:(backTo pos (starEach es X.env)).any (·.1)=false):
 VE X M R m (.Call (.Name x p) (e::es) [] pos) (λε Q=>B ε λd=>sp d Q R):=by
 rintro f s i H Q I ⟨A,H0,ε,P,S,er,h,U⟩;obtain⟨E,J,L,hR⟩:=er;refine eI (eY I hg hm ?_ u);refine gd (h₀:=X.base) I.ok.mod.Jp F.keep (cy (ha pos f s i H (λj g=>∃d,aq H g/\ai X.K (FB A M i) g d j/\sp d P R) I ⟨A,H0,ε,_,S,⟨E,J,L,hR⟩,h,λd j g Y D o=>⟨d,D,o,Y⟩⟩) λus D ⟨j,g,I1,r,d,sm,o,G⟩=>⟨I1.j8,?_⟩) he q;exact F.run Z J I1 r ⟨FB A M i,d,P,R,hn _ _ _ G,o,(S.same sm).dom,G,λw v y pw l T=>U w v y pw (sm.trans l) (T.back sm λ_ z=>z),λC y O l=>L C y O (S.sm.trans (sm.trans l))⟩
theorem Qu{l:Ev->(List W->Prop)->Prop}{j:BI}{n:String}(F:dJ X (.builtin n) (Wc X.K j))(D:Gl X x)(C:X.mg x=none)(y:bootBuiltins x=some (.builtin n))(G:T6 X M R (e::es) l)(B:x≠"__name__")(i:(x==("__debug__":Str))=false)
 (E:starEach (e::es) X.env=(false,eval e X.env)::starEach es X.env)(g:(backTo pos (starEach es X.env)).any (·.1)=false):VE X M R (Wb j) (.Call (.Name x p) (e::es) [] pos) (λε Q=>l ε λd=>yq j d Q):=
 PE.imp (cS F D C y G B i E g)<|by rintro o H Q ⟨A,J,ε,P,S,I,h,k⟩;exact⟨A,J,ε,_,S,I,h,λd N O u f s=>⟨FB A M o,d,P,(S.same f).dom,s,u,λw v L pw q r=>k w v L pw (f.trans q) (r.back f λ_ z=>z)⟩⟩
theorem Qv{l:Ev->(List W->Prop)->Prop}{j:BI}{n:String}(F:dJ X (.type n) (Wc X.K j))(D:Gl X x)(C:X.mg x=none)(y:bootBuiltins x=some (.type n))(G:T6 X M R (e::es) l)(B:x≠"__name__")(i:(x==("__debug__":Str))=false)
 (E:starEach (e::es) X.env=(false,eval e X.env)::starEach es X.env)(g:(backTo pos (starEach es X.env)).any (·.1)=false):VE X M R (Wb j) (.Call (.Name x p) (e::es) [] pos) (λε Q=>l ε λd=>yq j d Q):=
 PE.imp (Dl F D C y G B i E g)<|by rintro o H Q ⟨A,J,ε,P,S,I,h,k⟩;exact⟨A,J,ε,_,S,I,h,λd N O u f s=>⟨FB A M o,d,P,(S.same f).dom,s,u,λw v L pw q r=>k w v L pw (f.trans q) (r.back f λ_ z=>z)⟩⟩
theorem Qw{n:String}(U:yu X.K)(i:n∈["int","bool","tuple","list","str","dict"])(Y:Gl X x)(T:X.mg x=none)(N:bootBuiltins x=some (.builtin "isinstance"))(ha:VB X M R a ta)(Z:VB X M R b (λ_ Q=>Q (.ty n)))(O:x≠"__name__")(l:(x==("__debug__":Str))=false)
 (u:starEach [a,b] X.env=(false,eval a X.env)::starEach [b] X.env)(j:starEach [b] X.env=(false,eval b X.env)::starEach [] X.env)(g:(backTo pos (starEach [b] X.env)).any (·.1)=false):
 VE X M R .s (.Call (.Name x p) [a,b] [] pos) (λε Q=>ta ε λw=>yq .Af [w,.ty n] Q):=
 PE.imp (cS (cw_isi U) Y T N (ay ha (ay Z aY j) u) O l u g)<|by rintro C H Q ⟨A,B,ε,P,S,y,h,k⟩;refine⟨A,B,ε,_,S,y,h,λw v H1 L f J=>⟨A,B,ε,λo=>o=.ty n,S.same f,y,rfl,λo q H2 F d I=>?_⟩⟩;subst F;exact⟨FB A M C,w,n,P,i,⟨v,[q],rfl,bw.same d J,q,[],rfl,I,rfl⟩,L,λD E H' pw G r=>k D E H' pw ((f.trans d).trans G) (r.back (f.trans d) λ_ z=>z)⟩
theorem K5{d f:Pos}(q:VE X M R .s a ta)(j:attributeBase a "bit_length" X.env (eval a X.env)=eval a X.env)(g:(f.endLine==d.line)=true):
 VE X M R .s (.Call (.Attribute a "bit_length" f) [] [] d) (λε Q=>ta ε λx=>match x with|.int i=>Q (.int (Builtin.Int.intBits i:Nat))|_=>False):=
 PE.imp (E9 PySem.F.plainAttrs_int PySem.F.slot_int_bit_length PySem.F.type_int_bit_length JZ q j g)<|by
  rintro z H Q ⟨A,y,ε,P,S,r,h,k⟩;refine⟨A,y,ε,_,S,r,h,λw v u l n o=>?_⟩;cases w with
  |int i=>have e:=o.bO.int_inv;subst e;exact⟨rfl,i,rfl,rfl,k _ _ u l n (.of (gk _))⟩
  |_=>exact l.elim
end
inductive Cj(K:Frag)(br:Bool)(B:Addr->Prop)(H:Hp):It->List W->Prop where
 |lst {a:Addr} {vs:List V} {ws:List W} (h:Rd H a (.lst vs)) (n:br=false->¬B a) (r:ai K B H ws vs):Cj K br B H (Yp K a) ws
 |tup {a:Addr} {vs:List V} {ws:List W} (h:nH K H a vs) (r:ai K B H ws vs):Cj K br B H (Yq K a) ws
 |ny (lo:Int) (n:Nat):Cj K br B H (Na lo n) (jv lo 1 n)
 |K6 (lo st:Int) (n:Nat):Cj K br B H (Xu lo st n) (jv lo st n)
 |uK {a:Addr} {vs:List V} {ws:List W} (h:Rd H a (.lst vs)) (n:br=false->¬B a) (r:ai K B H ws vs):Cj K br B H (YV K a) (gv ws)
 |rev {a:Addr} {vs:List V} {ws:List W} (h:Rd H a (.lst vs)) (n:br=false->¬B a) (r:ai K B H ws vs):Cj K br B H (YX K a vs.length) ws.reverse
structure IW(K:Frag)(B:Addr->Prop)(Hs:Hp)(J:It)(ws:List W):Prop where
 go:∀i H,aq Hs H->i<ws.length->J.go i H
 yl:∀i H x H' w,aq Hs H->ws[i]?=some w->J.TH i H x H'->aq H H'/\∀B':Addr->Prop,(∀p o,Hs p=some o->B' p->B p)->Rep K B' H' w x
 st:∀i H,aq Hs H->i=ws.length->J.stop i H
theorem mF(lo st:Int)(n:Nat):(jv lo st n).length=n:=by unfold jv;simp
theorem yv{lo st:Int}{n i:Nat}{w:W}(h:(jv lo st n)[i]?=some w):w=.int (lo+i*st)/\i<n:=by
 unfold jv at h;rw[Da]at h;by_cases a:i<n
 .rw[cw a]at h;cases h;exact⟨rfl,a⟩
 .rw[FC (by simpa using a)]at h;cases h
theorem uL(l:List W):(gv l).length=l.length:=by unfold gv;simp
theorem n5{l:List W}{i:Nat}{w:W}(h:(gv l)[i]?=some w):∃x,l[i]?=some x/\w=.tup [.int i,x]:=by
 unfold gv at h;rw[ZP]at h;by_cases a:i<l.length
 .rw[cw a,B1 a]at h;cases h;exact⟨_,B1 a,rfl⟩
 .rw[FC (by simpa using a)]at h;cases h
theorem Cj.iw{K:Frag}{br:Bool}{B:Addr->Prop}{k:Hp}{J:It}{l:List W}(h:Cj K br B k J l):IW K B k J l:=by
 cases h with
 |@lst a c _ h n r=>
  have q:∀H,aq k H->gP K H a c:=λH s=>.inl (VL.aq.rd s h);refine⟨λi H s b=>?_,λi H x m w s d y=>?_,λi H s b=>⟨c,q H s,by rw[r.len,b];exact D2 _⟩⟩
  .have f:i<c.length:=by rw[r.len];exact b
   exact⟨c,c[i],q H s,B1 f⟩
  .obtain⟨rfl,y⟩:=y;obtain⟨v,e,g⟩:=r.get d;have:=y c (q _ s);rw[e]at this;cases this;exact⟨aq.refl _,λo j=>Rep.mv s j w g⟩
 |@tup a c _ h r=>
  have q:∀H,aq k H->nH K H a c:=λH s=>L2.aq.tup s h;refine⟨λi H s b=>?_,λi H x m w s d y=>?_,λi H s b=>⟨c,q H s,by rw[r.len,b];exact D2 _⟩⟩
  .have f:i<c.length:=by rw[r.len];exact b
   exact⟨c,c[i],q H s,B1 f⟩
  .obtain⟨rfl,y⟩:=y;obtain⟨v,e,g⟩:=r.get d;have:=y c (q _ s);rw[e]at this;cases this;exact⟨aq.refl _,λo j=>Rep.mv s j w g⟩
 |ny D n=>refine⟨λi H s b=>by rw[mF]at b;exact b,λi H x m w s d y=>?_,λi H s b=>by rw[mF]at b;exact km b.symm⟩;obtain⟨rfl,rfl⟩:=y;obtain⟨rfl,_⟩:=yv d;exact⟨aq.refl _,λo _=>by rw[fI];exact gk _⟩
 |K6 D G n=>refine⟨λi H s b=>by rw[mF]at b;exact b,λi H x m w s d y=>?_,λi H s b=>by rw[mF]at b;exact km b.symm⟩;obtain⟨rfl,rfl⟩:=y;obtain⟨rfl,_⟩:=yv d;exact⟨aq.refl _,λo _=>gk _⟩
 |@uK a c l h n r=>
  have q:∀H,aq k H->gP K H a c:=λH s=>.inl (VL.aq.rd s h);refine⟨λi H s b=>?_,λi H x m w s d y=>?_,λi H s b=>⟨c,q H s,by rw[r.len,b,uL]⟩⟩
  .rw[uL]at b;have f:i<c.length:=by rw[r.len];exact b
   exact⟨c,c[i],q H s,B1 f⟩
  .obtain⟨p,y,F,rfl,rfl,E⟩:=y;obtain⟨A,C,rfl⟩:=n5 d;obtain⟨v,e,g⟩:=r.get C;have z:=E c (q _ s);rw[e]at z;obtain rfl:v=y:=Kk z;have u:=aK (H:=H) F (.tup [.int i,v]);exact⟨u,λo j=>DV au (.cons (gk _) (.cons (Rep.mv (s.trans u) j A g) .nil))⟩
 |@rev a c l h n r=>
  have q:∀H,aq k H->gP K H a c:=λH s=>.inl (VL.aq.rd s h);have t:=r.len;refine⟨λi H s b=>?_,λi H x m w s d y=>?_,λi H s b=>?_⟩
  .rw[eM]at b;exact⟨c,q H s,rfl,by rw[t];exact b⟩
  .obtain⟨rfl,y⟩:=y;have b:i<l.length:=by have:=(Fn.mp d).1;rwa [eM]at this
   rw[List.getElem?_reverse b]at d;obtain⟨v,e,g⟩:=r.get d;have:=y c (q _ s) rfl;rw[t,e]at this;cases this;exact⟨aq.refl _,λo j=>Rep.mv s j w g⟩
  .rw[eM]at b;show i=c.length;rw[t,b]
def itemsOf:W->Option (List W)
 |.lst l=>some l
 |.tup l=>some l
 |_=>none
theorem n6{z:W}{Q:List W->Prop}:items z Q↔∃a,itemsOf z=some a/\Q a:=by
 cases z<;>simp[items,itemsOf]
noncomputable def Ez(X:Cx)(M:Ms)(R:Addr->Prop)(br:Bool)(t:WT):TI:=λb H Q=>∃A e c P,SR X.K M A e b H c/\ER X e R/\t c P/\∀z,P z->∃d,itemsOf z=some d/\∀J a,aq H a->Cj X.K br (FB A M b) a J d->Q J a
theorem PI.imp{X:Cx}{tg e:Expr}{t t':TI}(h:PI X tg e t)(k:∀a H Q,t' a H Q->t a H Q):PI X tg e t':=λb s a H Q I w=>h b s a H Q I (k a H Q w)
section
variable{X:Cx}{M:Ms}{R:Addr->Prop}{e a b c tg:Expr}{t ta tb tc:WT}{m:Md}{pos p:Pos}{es:List Expr}{x:Str}{br:Bool}
theorem Qx{l:Expr}{tl:TE}(w:PE X l tl):PI X tg l (λj H Q=>tl j H λx H1=>∃a,x=.ref a/\(((∃f,gP X.K H1 a f)/\Q (Yp X.K a) H1)\/((∃f,nH X.K H1 a f)/\Q (Yq X.K a) H1))):=by
 intro g s j H Q I h;refine cy (w g s j H _ I h) ?_;rintro v d ⟨x,H1,I1,r,u⟩;obtain⟨a,e,q⟩:=u;subst e;cases r;rcases q with⟨⟨f,k⟩,q⟩|⟨⟨f,k⟩,q⟩
 .obtain⟨i,rv,p,hz⟩:=I1.list k;refine wpAny_pyIter_list p.isList ?_;refine⟨d.heap.objs.size,[d.heap.objs.size],_,_,H1,rfl,I1.kept (t':=d.toks) λb o e=>FR _ e,C9 a _,⟨_,PH _ rfl,rfl,rfl⟩,λb n=>?_,q⟩;have e:b=d.heap.objs.size:=by simpa using n
  subst e;exact I1.zA (D2 _) (I1.hok.fresh (D2 _))
 .obtain⟨i,rv,p,hz⟩:=I1.tuple k;refine wpAny_pyIter_tuple (show d.heap.IsTuple a i.toArray from p) ?_;refine⟨d.heap.objs.size,[d.heap.objs.size],_,_,H1,rfl,I1.kept (t':=d.toks) λb o e=>FR _ e,zB a _,⟨_,PH _ rfl,rfl,rfl⟩,λb n=>?_,q⟩;have e:b=d.heap.objs.size:=by simpa using n
  subst e;exact I1.zA (D2 _) (I1.hok.fresh (D2 _))
def Qy(K:Frag)(br:Bool):RL:=λB _ d w v=>bw K B d w v/\(br=false->Rep K B d w v)
theorem jz(h:VE X M R m e t):PE X e (tV X M R (Qy X.K br) t):=PE.imp h<|by rintro j H Q ⟨A,g,d,P,S,f,p,k⟩;exact⟨A,g,d,P,S,f,p,λw v i pw s r=>k w v i pw s ⟨(r.rep S.dom).b,λ_=>r.rep S.dom⟩⟩
theorem Wd(h:VB X M R e t):PE X e (tV X M R (Qy X.K true) t):=PE.imp h<|by rintro j H Q ⟨A,g,d,P,S,f,p,k⟩;exact⟨A,g,d,P,S,f,p,λw v i pw s r=>k w v i pw s ⟨r,λz=>by cases z⟩⟩
theorem Qy.lst{K:Frag}{B:Addr->Prop}{H H':Hp}{l:List W}{v:V}(h:Qy K br B H H' (.lst l) v):∃p vs,v=.ref p/\Rd H' p (.lst vs)/\(br=false->¬B p)/\ai K B H' l vs:=by obtain⟨p,vs,rfl,f,d⟩:=h.1.lst;refine⟨p,vs,rfl,f,λe=>?_,d⟩;have:=h.2 e;obtain⟨i,_,g,n,_⟩:=this;cases g;exact n
theorem fX(r:PE X a (tV X M R (Qy X.K br) ta)):PI X tg a (Ez X M R br ta):=PI.imp (Qx r)<|by
 rintro y H Q ⟨A,w,q,P,S,u,h,k⟩;refine⟨A,w,q,P,S,u,h,λz v o hz j n=>?_⟩;obtain⟨B,g,k⟩:=k z hz;cases z with
 |lst l=>
  cases g;obtain⟨p,f,rfl,d,i,s⟩:=n.lst;exact⟨p,rfl,.inl ⟨⟨f,.inl d⟩,k _ o j (.lst d i s)⟩⟩
 |tup l=>
  cases g;obtain⟨p,f,rfl,d,i⟩:=n.1.tup;exact⟨p,rfl,.inr ⟨⟨f,d⟩,k _ o j (.tup d i)⟩⟩
 |_=>exact nn g
theorem Qz{d:List Expr}{q:Nat}{j:Pos}(u:Gl X "enumerate")(r:X.mg "enumerate"=none)(w:PE X a (tV X M R (Qy X.K br) ta))(f:starEach [a] X.env=(false,eval a X.env)::starEach [] X.env):
 PI X (.Tuple d q j) (.Call (.Name "enumerate" p) [a] [] pos) (Ez X M R br (λε Q=>ta ε λx=>match x with|.lst l=>Q (.lst (gv l))|_=>False)):=
 PI.imp (J0 u r (ay w aY f) rfl f)<|by
  rintro F H Q ⟨A,E,ε,P,S,C,h,k⟩;refine⟨A,E,ε,_,S,C,h,λz v D hz n o=>?_⟩;cases z with
  |lst l=>obtain⟨G,s,k⟩:=k _ hz;cases s;obtain⟨p,i,rfl,g,B,y⟩:=o.lst;exact⟨p,rfl,⟨i,.inl g⟩,k _ D n (.uK g B y)⟩
  |_=>exact hz.elim
theorem QA(q:Gl X "reversed")(n:X.mg "reversed"=none)(r:PE X a (tV X M R (Qy X.K br) ta))(d:starEach [a] X.env=(false,eval a X.env)::starEach [] X.env):
 PI X tg (.Call (.Name "reversed" p) [a] [] pos) (Ez X M R br (λε Q=>ta ε λx=>match x with|.lst l=>Q (.lst l.reverse)|_=>False)):=
 PI.imp (Pd q n (ay r aY d) rfl d)<|by
  rintro C H Q ⟨A,B,ε,P,S,w,h,k⟩;refine⟨A,B,ε,_,S,w,h,λz v y hz i j=>?_⟩;cases z with
  |lst l=>obtain⟨D,o,k⟩:=k _ hz;cases o;obtain⟨p,g,rfl,f,u,s⟩:=j.lst;exact⟨p,g,rfl,.inl f,k _ y i (.rev f u s)⟩
  |_=>exact hz.elim
theorem K7(r:Gl X "range")(o:X.mg "range"=none)(u:VE X M R .s a ta)(d:starEach [a] X.env=(false,eval a X.env)::starEach [] X.env):
 PI X tg (.Call (.Name "range" p) [a] [] pos) (Ez X M R br (λε Q=>ta ε λx=>GI [x] λl=>Q (.lst l))):=
 PI.imp (uu r o (ay u aY d) d)<|by
  rintro z H Q ⟨A,y,ε,P,S,v,h,k⟩;refine⟨A,y,ε,_,S,v,h,λx B w hz f g=>?_⟩;cases x with
  |int j=>obtain⟨n,i,hz⟩:=hz;obtain⟨C,q,k⟩:=k _ hz;cases q;cases g.bO.int_inv;exact⟨j,rfl,n,i,k _ w f (.ny 0 j.toNat)⟩
  |_=>exact hz.elim
theorem K8(B:Gl X "range")(w:X.mg "range"=none)(D:VE X M R .s a ta)(C:VE X M R .s b tb)(g:starEach [a,b] X.env=(false,eval a X.env)::starEach [b] X.env)(d:starEach [b] X.env=(false,eval b X.env)::starEach [] X.env):
 PI X tg (.Call (.Name "range" p) [a,b] [] pos) (Ez X M R br (λε Q=>ta ε λx=>tb ε λy=>GI [x,y] λl=>Q (.lst l))):=
 PI.imp (Dc B w (ay D (ay C aY d) g) (by rw[g,d];rfl) d)<|by
  rintro F H Q ⟨A,o,ε,P,S,n,h,k⟩;refine⟨A,o,ε,_,S,n,h,λx I K hz f u=>⟨A,o,ε,_,S.same f,n,hz,λy G E hz q r=>?_⟩⟩;cases x with
  |int i=>
   cases y with
   |int j=>obtain⟨v,hz⟩:=hz;obtain⟨J,z,k⟩:=k _ hz;cases z;cases u.bO.int_inv;cases r.bO.int_inv;exact⟨i,j,rfl,v,k _ E (f.trans q) (.ny i (j -i).toNat)⟩
   |_=>exact hz.elim
  |_=>exact hz.elim
theorem K9(G:Gl X "range")(E:X.mg "range"=none)(K:VE X M R .s a ta)(J:VE X M R .s b tb)(I:VE X M R .s c tc)(u:starEach [a,b,c] X.env=(false,eval a X.env)::starEach [b,c] X.env)(d:starEach [b,c] X.env=(false,eval b X.env)::starEach [c] X.env)(o:starEach [c] X.env=(false,eval c X.env)::starEach [] X.env):
 PI X tg (.Call (.Name "range" p) [a,b,c] [] pos) (Ez X M R br (λε Q=>ta ε λx=>tb ε λy=>tc ε λz=>GI [x,y,z] λl=>Q (.lst l))):=
 PI.imp (DE G E (ay K (ay J (ay I aY o) d) u) (by rw[u,d,o];rfl) (by rw[d,o];rfl))<|by
  rintro N H Q ⟨A,q,ε,P,S,g,h,k⟩;refine⟨A,q,ε,_,S,g,h,λx U H1 hz f C=>⟨A,q,ε,_,S.same f,g,hz,λy T Z hz r B=>⟨A,q,ε,_,S.same (f.trans r),g,hz,λz O L hz v w=>?_⟩⟩⟩;cases x with
  |int i=>
   cases y with
   |int j=>
    cases z with
    |int l=>obtain⟨n,D,hz⟩:=hz;obtain⟨Y,F,k⟩:=k _ hz;cases F;cases C.bO.int_inv;cases B.bO.int_inv;cases w.bO.int_inv;exact⟨i,j,l,n,rfl,D,k _ L ((f.trans r).trans v) (.K6 i l n)⟩
    |_=>exact hz.elim
   |_=>exact hz.elim
  |_=>exact hz.elim
end
def up(M:Ms)(n:Nat):Ms:=M.map λx=>(x.1+n,x.2)
section
variable{K:Frag}{M:Ms}{A:Fz}{H0 H H1:Hp}{σ v0:St}{ε δ:Ev}
theorem iP{n i:Nat}{m:Md}:(i,m)∈up M n↔n<=i/\(i -n,m)∈M:=by
 unfold up;rw[Hb];constructor
 .rintro⟨⟨j,b⟩,a,e⟩;cases e;exact⟨sk _ _,by rw[HI];exact a⟩
 .rintro⟨h,a⟩;exact⟨(i -n,m),a,by simp;omega⟩
theorem dg{n i:Nat}:aO (up M n) i↔n<=i/\aO M (i -n):=by
 constructor
 .rintro⟨m,h⟩;exact⟨(iP.mp h).1,m,(iP.mp h).2⟩
 .rintro⟨h,m,a⟩;exact⟨m,iP.mpr ⟨h,a⟩⟩
theorem rG{n i:Nat}(c:δ.length=n)(h:n<=i):look (δ++ε) i=look ε (i -n):=by
 have e:∀w,look (δ++ε) i=some w↔look ε (i -n)=some w:=λw=>by rw[aW,aW,Jn (by lia),c]
 cases b:look ε (i -n)with
 |none=>
  cases a:look (δ++ε) i with
  |none=>rfl
  |some w=>rw[e]at a;rw[b]at a;cases a
 |some w=>exact(e w).mpr b
theorem SR.block(S:SR K M A H0 σ H ε){n:Nat}(u:v0.length=n)(s:aq H H1){D:Addr}{o:HO}(C:H D=none)(t:H1 D=some o):SR K (up M n) ⟨λq=>A.ab q\/q=D,λq=>A.B q\/q=D,none⟩ H0 (v0++σ) H1 (A6 n none++ε):=by
 obtain⟨F,O⟩:=S.ow;have g:(A6 n (none:Option W)).length=n:=by simp
 have E:∀{i:Nat},n<=i->(v0++σ)[i]?=σ[i -n]?:=λ{i} h=>by rw[Jn (by lia),u]
 have y:∀p o,H p=some o->(A.B p\/p=D)->A.B p:=λp o e z=>by
  rcases z with z|rfl
  .exact z
  .rw[C]at e;cases e
 refine⟨by rw[GM,GM,u,g,S.len],λi w c e=>?_,S.sm.trans s,λp z=>?_,(λv e=>by cases e),λi=>F (i -n),⟨λi m G a b=>O.un _ m G (iP.mp a).2 (iP.mp b).2,λi m w I e=>?_,λi c e=>?_,λi c=>O.nd _ (dg.mp c).2,λi j p c x a b=>?_,λi p c d=>O.nw _ p (dg.mp c).2 d,λi p c d z=>?_,λp=>?_⟩⟩
 .by_cases f:n<=i
  .rw[rG g f]at e;rw[E f];obtain⟨v,l,k⟩:=S.sh (i -n) w (λz=>c (dg.mpr ⟨f,z⟩)) e;exact⟨v,l,Rep.mv s y w k⟩
  .rw[aW,PP (by rw[g];lia),oC,Bi (by lia)]at e;cases e
 .rcases z with z|rfl
  .exact(S.dm.same s) p z
  .exact⟨_,t⟩
 .obtain⟨f,r⟩:=iP.mp I;rw[rG g f]at e;rw[E f];obtain⟨v,l,k⟩:=O.val _ m w r e;exact⟨v,l,Fp.mv s y m k⟩
 .obtain⟨f,r⟩:=dg.mp c;rw[rG g f]at e;exact O.emp _ r e
 .have:=O.ds _ _ p (dg.mp c).2 (dg.mp x).2 a b;have:=(dg.mp c).1;have:=(dg.mp x).1;lia
 .rcases z with z|rfl
  .exact O.na _ p (dg.mp c).2 d z
  .obtain⟨o,e,_⟩:=O.has (dg.mp c).2 d;rw[C]at e;cases e
 .constructor
  .rintro(z|rfl)
   .rcases(O.all p).mp z with z|⟨i,c,d⟩
    .exact .inl (.inl z)
    .exact .inr ⟨i+n,dg.mpr ⟨by lia,by rw[HI];exact c⟩,by rw[HI];exact d⟩
   .exact .inl (.inr rfl)
  .rintro((z|rfl)|⟨i,c,d⟩)
   .exact .inl ((O.all p).mpr (.inl z))
   .exact .inr rfl
   .exact .inl ((O.all p).mpr (.inr ⟨i -n,(dg.mp c).2,d⟩))
end
def We:List Nat->M8
 |[]=>UM
 |i::a=>M9 (fS i) (We a)
noncomputable def gT(K:Frag)(one:Bool)(a:List Nat):TG:=
 match one,a with
 |true,[i]=>fS i
 |true,_=>λ_ _ _ _=>False
 |false,a=>Oz K a.length (We a)
noncomputable def cY(a:St):List Nat->List V->St
 |i::b,v::vs=>cY (a.set i (some v)) b vs
 |_,_=>a
theorem rH:∀(b:List Nat)(vs:List V)(a:St),(cY a b vs).length=a.length
 |[],vs,a=>by rw[cY];simp
 |i::b,[],a=>by rw[cY];simp
 |i::b,v::vs,a=>by rw[cY,rH b vs,U2]
theorem rJ{n:Nat}:∀(c:List Nat)(vs:List V)(b a:St),b.length=n->(∀i∈c,i<n)->cY (b++a) c vs=cY b c vs++a
 |[],vs,b,a,_,_=>by rw[cY,cY]<;>simp
 |i::c,[],b,a,_,_=>by rw[cY,cY]<;>simp
 |i::c,v::vs,b,a,d,h=>by have hi:=h i Dx;rw[cY,cY,List.set_append_left _ _ (by lia),rJ c vs _ a (by rw[U2];exact d) λj e=>h j (DL _ e)]
section
variable{K:Frag}{M:Ms}{A:Fz}{H0 H:Hp}
theorem GR:∀(a:List Nat)(vs:List V)(b:St)(Q:St->Hp->Prop),vs.length=a.length->Q (cY b a vs) H->We a vs b H Q
 |[],[],b,Q,_,q=>⟨rfl,q⟩
 |[],_::_,_,_,h,_=>by cases h
 |_::_,[],_,_,h,_=>by cases h
 |i::a,v::vs,b,Q,h,q=>⟨v,vs,rfl,GR a vs _ Q (by simpa using h) (by rw[cY]at q;exact q)⟩
theorem SR.cH:∀(a:List Nat)(c:List W)(vs:List V){b:St}{ε:Ev},(∀i∈a,¬aO M i)->SR K M A H0 b H ε->ai K (FB A M b) H c vs->c.length=a.length->SR K M A H0 (cY b a vs) H (cH ε a c)
 |[],c,vs,b,ε,_,S,_,_=>by rw[cY,VL.cH]<;>first|exact S|simp
 |i::a,[],vs,b,ε,_,S,_,h=>by cases h
 |i::a,w::c,vs,b,ε,d,S,r,h=>by obtain⟨v,e,rfl,l,k⟩:=r.cons_inv;rw[cY,VL.cH];have g:=d i Dx;exact SR.cH a c e (λj f=>d j (DL _ f)) (S.set g l) k (by simpa using h)
theorem tgt{b:St}{ε:Ev}{one:Bool}{a:List Nat}{w:W}{v:V}{P:Ev->Prop}{Q:St->Hp->Prop}(g:∀i∈a,¬aO M i)(S:SR K M A H0 b H ε)(f:Rep K (FB A M b) H w v)(h:wT one a w ε P)
 (k:∀vs c,P c->SR K M A H0 (cY b a vs) H c->Q (cY b a vs) H):gT K one a v b H Q:=by
 cases one with
 |true=>
  match a,h with
  |[i],h=>
   have:=k [v] (ε.set i (some w)) h (by rw[cY,cY]<;>first|exact S.set (g i Dx) f|simp);rw[cY,cY]at this
   .exact this
   .simp
 |false=>
  cases w with
  |tup l=>obtain⟨d,h⟩:=h;obtain⟨p,vs,rfl,j,e⟩:=f;exact⟨p,vs,rfl,nH.of j,by rw[e.len,d],GR a vs b Q (by rw[e.len,d]) (k vs _ h (SR.cH a l vs g S e d))⟩
  |_=>exact h.elim
end
theorem PF.imp{X:Cx}{e:List Expr}{t t':TT}(h:PF X e t)(k:∀a H Q,t' a H Q->t a H Q):PF X e t':=λb s a H Q I w=>h b s a H Q I (k a H Q w)
noncomputable def Zh(K:Frag)(M:Ms)(t:WT):TE:=λb H Q=>∃A d c P,SR K M A d b H c/\t c P/\∀w v a,P w->aq H a->Rep K (FB A M b) a w v->Q v a
noncomputable def Zi(K:Frag)(M:Ms)(t:WT):TT:=λd H Q=>∃A e a P,SR K M A e d H a/\t a P/\∀x c,P x->aq H c->∃b,x=.bl b/\Q b c
section
variable{X:Cx}{M:Ms}{R:Addr->Prop}{tg iter elt:Expr}{ifs:List Expr}{scope:Scope}{xs N':List Str}{pos:Pos}{ti tc te:WT}{one:Bool}{ts:List Nat}
theorem yw(G:∀i∈ts,i<xs.length)(n:St)(H:Hp)(Q:VK)
 (hh:tV X M R (P9 X.K .f) (λε Q=>ti ε λz=>items z λc=>pJ (λw K=>wT one ts w (A6 xs.length none++ε) λa=>tc a λx=>truth x λk=>if k=true then te a λy=>K (some y)else K none) c [] λl=>Q (.lst l)) n H Q):
 Bu xs.length (Ez X M R true ti) (gT X.K one ts) (Zi X.K (up M xs.length) tc) (Zh X.K (up M xs.length) te) n H Q:=by
 obtain⟨A,H0,ε,P,S,er,h,k⟩:=hh;refine⟨A,H0,ε,_,S,er,h,λz hz=>?_⟩;obtain⟨c,ez,hw⟩:=n6.mp hz;refine⟨c,ez,λJ H1 s1 it D Y=>?_⟩;have iw:=it.iw;generalize L:(λ(w:W)(K:Option W->Prop)=>wT one ts w (A6 xs.length none++ε) λa=>tc a λx=>truth x λk=>if k=true then te a λy=>K (some y)else K none)=f at hw;have N:H D=none:=s1.free Y;refine⟨λi m g=>∃d r,m=c.length -i/\i<=c.length/\aq H1 g/\g D=some (.lst r)/\ai X.K (λq=>FB A M n q\/q=D) g d r/\pJ f (c.drop i) d (λl=>P (.lst l)),
  ⟨c.length,[],[],rfl,Iy _,aK Y _,au,.nil,hw⟩,?_⟩
 rintro i m g ⟨d,r,rfl,hi,s,QB,E,v⟩;by_cases T:i<c.length
 .refine .inr ⟨iw.go i g s T,λx O y u t=>?_⟩;have hwi:c[i]?=some c[i]:=B1 T;rw[d4 T]at v;generalize c[i]=w at*;obtain⟨s3,F⟩:=iw.yl i g x O w s hwi y;have s13:aq H O:=s1.trans (s.trans s3);have XF:O D=some (.lst r):=s3 _ _ QB;have S3:SR X.K (up M xs.length) ⟨λq=>A.ab q\/q=D,λq=>A.B q\/q=D,none⟩ H0 (u++n) O (A6 xs.length none++ε):=S.block t s13 N XF;have hr3:Rep X.K (λq=>A.B q\/q=D) O w x:=by
   refine F _ λp o e z=>?_;rcases z with z|rfl
   .exact z
   .rw[Y]at e;cases e
  have hM:∀j∈ts,¬aO (up M xs.length) j:=λj hj z=>by have:=(dg.mp z).1;have:=G j hj;lia
  rw[pJ,<-L]at v;rw[L]at v;refine tgt hM S3 hr3 v λC a hp S4=>?_;have e4:cY (u++n) ts C=cY u ts C++n:=rJ ts C u n t G;rw[e4]at S4⊢;have hv1:(cY u ts C).length=xs.length:=by rw[rH];exact t
  refine⟨cY u ts C,hv1,rfl,⟨_,H0,a,_,S4,hp,λq H5 U s5=>?_⟩⟩;obtain⟨b,rfl,U⟩:=bE U;refine⟨b,rfl,?_⟩;have Z:aq g H5:=s3.trans s5;cases b with
  |false=>exact⟨c.length -(i+1),by lia,d,r,rfl,T,s.trans Z,Z _ _ QB,E.same Z,U⟩
  |true=>
   refine⟨_,H0,a,_,S4.same s5,U,λy vy H6 hy s6 ry=>?_⟩;obtain⟨I,hy⟩:=hy;have Zj:=Z.trans s6;have Wf:=Zj _ _ QB;refine⟨r,Wf,by rw[E.len];exact I,c.length -(i+1),by lia,d++[y],r++[vy],rfl,T,λb o e=>?_,au,?_,hy⟩
   .rw[ak (aR e Y)];exact Zj _ _ (s _ _ e)
   .have ry2:Rep X.K (λq=>A.B q\/q=D) H6 y vy:=ry;exact ai.put Wf (.inr rfl) _ ((E.same Zj).app (.cons ry2 .nil))
 .have e:i=c.length:=by lia
  subst e;refine .inl ⟨iw.st _ g s rfl,?_⟩;rw[pd,pJ]at v;exact k _ _ g v (s1.trans s) (.new N QB (E.less λp z=>.inl z) E)
theorem La(q:X.calm=true)(m:dM scope X.env.scope X.N N' xs=true)(d:∀i∈ts,i<xs.length)(hi:PI X tg iter (Ez X M R true ti))(n:∀C s0 c b,PG (aT X scope C xs N' s0 c b) tg (gT X.K one ts))
 (o:∀C s0 c b,PF (aT X scope C xs N' s0 c b) ifs (Zi X.K (up M xs.length) tc))(p:∀C s0 c b,PE (aT X scope C xs N' s0 c b) elt (Zh X.K (up M xs.length) te))(j:∀z,foldedSetIterable iter X.env z=pure z):
 VE X M R .f (.ListComp elt [⟨tg,iter,ifs,0⟩] scope pos) (λε Q=>ti ε λz=>items z λg=>pJ (λw K=>wT one ts w (A6 xs.length none++ε) λa=>tc a λx=>truth x λk=>if k=true then te a λy=>K (some y)else K none) g [] λl=>Q (.lst l)):=
 PE.imp (vA xs N' q m hi n o p j) λe H Q h=>yw d e H Q h
end
section
variable{K:Frag}{M M':Ms}{A:Fz}{H0 H H1:Hp}{σ:St}{ε:Ev}
theorem SR.rb(S:SR K M A H0 σ H ε):∃f,SR K M A f σ H ε/\aq H0 f/\aq f H/\(∀p o,H p=some o->(B4 o=true/\A.B p)\/f p=some o):=by
 classical
 obtain⟨F,O⟩:=S.ow;have d:∀p o,(if(∃i,aO M i/\p∈F i)then none else H p)=some o->H p=some o:=λp o z=>by
  split at z
  .cases z
  .exact z
 refine⟨λp=>if(∃i,aO M i/\p∈F i)then none else H p,⟨S.len,S.sh,d,S.dm,S.sl,F,⟨O.un,O.val,O.emp,O.nd,O.ds,λi p c a=>Bi ⟨i,c,a⟩,O.na,O.all⟩⟩,λb o z=>?_,d,λp o z=>?_⟩
 .try dsimp only
  rw[BM]
  .exact S.sm _ _ z
  .rintro⟨i,c,e⟩;rw[O.nw i b c e]at z;cases z
 .by_cases a:∃i,aO M i/\p∈F i
  .have g:=a;obtain⟨i,c,a⟩:=a;obtain⟨j,e,h⟩:=O.has c a;rw[z]at e;cases e;exact .inl ⟨h,(O.all p).mpr (.inr g)⟩
  .exact .inr ((BM a).trans z)
end
section
variable{K:Frag}{B A:Addr->Prop}{H Hs:Hp}
theorem Cj.low{J:It}{g:List W}(h:∀p o,H p=some o->(B4 o=true/\B p)\/Hs p=some o)(b:∀p,A p->B p)(i:Cj K false B H J g):Cj K false A Hs J g:=by
 have d:∀{a:Addr}{c:List V},Rd H a (.lst c)->¬B a->Rd Hs a (.lst c):=λ{a c} r n=>by
  rcases r with r|⟨o,r⟩
  .rcases h a _ r with⟨_,z⟩|z
   .exact(n z).elim
   .exact .inl z
  .rcases h a _ r with⟨_,z⟩|z
   .exact(n z).elim
   .exact .inr ⟨o,z⟩
 cases i with
 |lst q n r=>exact .lst (d q (n rfl)) (λe z=>n e (b _ z)) (ai.chg h (λp _ _ z=>b p z) _ r)
 |@tup a c _ q r=>
  refine .tup ?_ (ai.chg h (λp _ _ z=>b p z) _ r);rcases q with(q|⟨o,q⟩)|q
  .rcases h a _ q with⟨z,_⟩|z
   .cases z
   .exact .inl (.inl z)
  .rcases h a _ q with⟨z,_⟩|z
   .cases z
   .exact .inl (.inr ⟨o,z⟩)
  .exact .inr q
 |ny f n=>exact .ny f n
 |K6 f j n=>exact .K6 f j n
 |uK q n r=>exact .uK (d q (n rfl)) (λe z=>n e (b _ z)) (ai.chg h (λp _ _ z=>b p z) _ r)
 |rev q n r=>exact .rev (d q (n rfl)) (λe z=>n e (b _ z)) (ai.chg h (λp _ _ z=>b p z) _ r)
end
abbrev WS:=Dn->Ev->Prop
def dO:Md->Bool
 |.io _=>true
 |_=>false
noncomputable def Aj(K:Frag)(ab:Addr->Prop)(s0:Option V)(e H':Hp)(m:Md)(w:W)(v:V):Prop:=
 match m with
 |.io f=>∃b c d a,w=.tup [b,c]/\s0=some d/\a.Nodup/\(∀p∈a,e p=none/\¬ab p)/\Fp K (λp=>ab p\/p∈a) H' f c d a/\Rep K (λp=>ab p\/p∈a) H' b v
 |m=>dI K ab e H' m w v
theorem Aj.of{K:Frag}{ab:Addr->Prop}{s0:Option V}{a H':Hp}{m:Md}{w:W}{v:V}(b:dO m=false)(h:dI K ab a H' m w v):Aj K ab s0 a H' m w v:=by
 cases m with
 |io _=>cases b
 |_=>exact h
theorem Aj.back{K:Frag}{ab:Addr->Prop}{s0:Option V}{d c H':Hp}{m:Md}{w:W}{v:V}(s:aq d c)(h:Aj K ab s0 c H' m w v):Aj K ab s0 d H' m w v:=by
 cases m with
 |io o=>obtain⟨e,f,g,n,l,k,j,b,i⟩:=h;exact⟨e,f,g,n,l,k,j,λp a=>⟨s.free (b p a).1,(b p a).2⟩,i⟩
 |_=>exact dI.back s (λ_ z=>z) h
structure KS(X:Cx)(M:Ms)(m:Md)(ab:Addr->Prop)(s0:Option V)(H0:Hp)(d:Dn)(D:Ends):Prop where
 nx:∀A ε σ H,A.ab=ab->A.s0=s0->d.nx ε->SR X.K M A H0 σ H ε->D.nx σ H
 rt:∀w v H',d.rt w->aq H0 H'->Aj X.K ab s0 H0 H' m w v->D.rt v H'
 bk:∀A ε σ H,A.ab=ab->A.s0=s0->d.bk ε->SR X.K M A H0 σ H ε->D.bk σ H
 ct:∀A ε σ H,A.ab=ab->A.s0=s0->d.ct ε->SR X.K M A H0 σ H ε->D.ct σ H
noncomputable def sV(X:Cx)(M:Ms)(m:Md)(t:WS):TS:=λD c H=>∃A a b d,SR X.K M A a c H b/\ER X a d.ex/\A.s0.isSome=dO m/\t d b/\KS X M m A.ab A.s0 a d D
abbrev VS(X:Cx)(M:Ms)(m:Md)(st:Stmt)(t:WS):Prop:=PS X st (sV X M m t)
abbrev Ck(X:Cx)(M:Ms)(m:Md)(st:List Stmt)(t:WS):Prop:=sX X st (sV X M m t)
theorem PS.imp{X:Cx}{e:Stmt}{t t':TS}(h:PS X e t)(k:∀D a H,t' D a H->t D a H):PS X e t':=λb s a H D I w=>h b s a H D I (k D a H w)
theorem sX.imp{X:Cx}{e:List Stmt}{t t':TS}(h:sX X e t)(k:∀D a H,t' D a H->t D a H):sX X e t':=λb s a H D I w=>h b s a H D I (k D a H w)
section
variable{X:Cx}{M M':Ms}{R:Addr->Prop}{m mr m0:Md}{st:Stmt}{rest:List Stmt}{t u:WS}{e e1 e2 c:Expr}{te t1 t2 tc:(Addr->Prop)->WT}{pos pos':Pos}{x:Str}{i:Nat}{π:List nX}
theorem Lb:Ck X M m [] (λd ε=>d.nx ε):=sX.imp Be<|by rintro D a H ⟨A,f,ε,d,S,b,hz,h,k⟩;exact k.nx A ε a H rfl rfl h S
theorem Lc(h:VS X M m st t):Ck X M m [st] t:=jQ h
theorem GU(h:VS X M m st t)(k:Ck X M m rest u):Ck X M m (st::rest) (λd ε=>t {d with nx:=u d} ε):=
 sX.imp (bH h k)<|by rintro D q H ⟨A,g,ε,d,S,b,hz,h,k⟩;exact⟨A,g,ε,{d with nx:=u d},S,b,hz,h,λp a j r n f l o=>⟨p,g,a,d,o,b,(by rw[f];exact hz),l,by rw[n,f];exact k⟩,k.rt,k.bk,k.ct⟩
theorem Ld{st:List Stmt}(h:Ck X M' m st t)(g:∀x∈M',x∈M)(f:dO m=true->aO M 0->aO M' 0):Ck X M m st (λd ε=>t {d with nx:=λ_=>False,bk:=λ_=>False,ct:=λ_=>False} ε):=sX.imp h<|by rintro D y H ⟨A,o,ε,d,S,j,hz,h,k⟩;obtain⟨q,l,a,_,n⟩:=S.sub (M':=M') g A.s0 (λv e=>⟨e,f (by rw[<-hz,e];rfl) (S.sl v e).2⟩);refine⟨q,o,ε,{d with nx:=λ_=>False,bk:=λ_=>False,ct:=λ_=>False},n,j,by rw[a];exact hz,h,λ_ _ _ _ _ _ z=>z.elim,λw v p b s r=>k.rt w v p b s ?_,λ_ _ _ _ _ _ z=>z.elim,λ_ _ _ _ _ _ z=>z.elim⟩;rw[a,l]at r;exact r
theorem QC:VS X M m (.Break pos) (λd ε=>d.bk ε):=PS.imp EU<|by rintro D a H ⟨A,f,ε,d,S,b,hz,h,k⟩;exact k.bk A ε a H rfl rfl h S
theorem QD{b:List Nat}(f:∀{g:TE},PE X e g->PS X st (nJ g (gT X.K false b)))(hi:∀i∈b,¬aO M i)(y:∀R,VE X M R .s e (te R)):
 VS X M m st (λd ε=>te d.ex ε λw=>match w with|.tup l=>l.length=b.length/\d.nx (cH ε b l)|_=>False):=by
 rintro a s n H D I ⟨A,E,ε,d,S,z,hz,h,k⟩;refine f (y d.ex) a s n H D I ⟨A,E,ε,_,S,z,h,λw v C j p r=>?_⟩;cases w with
 |tup l=>exact tgt (P:=d.nx) hi (S.same p) r.bO j λF o q B=>k.nx A _ _ C rfl rfl q B
 |_=>exact j.elim
theorem QE{a:List Nat}{o:List Expr}{ta:(Addr->Prop)->Ev->(List W->Prop)->Prop}(l:∀{n:TA},PA X o n->PS X st (λD f H=>n f H λvs H1=>vs.length=a.length/\D.nx (cY f a vs) H1))(hi:∀i∈a,¬aO M i)(q:∀R,VA X M R o (ta R)):
 VS X M m st (λd ε=>ta d.ex ε λg=>g.length=a.length/\d.nx (cH ε a g)):=by
 rintro b s f H D I ⟨A,w,ε,d,S,v,hz,h,k⟩;refine l (q d.ex) b s f H D I ⟨A,w,ε,_,S,v,h,λg vs H1 j p r=>?_⟩;exact⟨by rw[ai.len r,j.1],k.nx A _ _ H1 rfl rfl j.2 (SR.cH a g vs hi (S.same p) r j.1)⟩
theorem wm{K:Frag}{A:Fz}{J H:Hp}{D:St}{ε:Ev}{w:W}{l:List W}(S:SR K M A J D H ε)(d:(i,m0)∈M)(hp:j9 m0 π=some .f)(L:look ε i=some w)(Y:di w π=some (.lst l)):
 ∃v p vs,D[i]?=some (some v)/\xF K H v π (.ref p)/\H p=some (.lst vs)/\ai K A.B H l vs/\A.B p/\∀H1,aq H H1->∀(b:List W)(a:List V),ai K A.B H1 b a->
  ∃h,h.ab=A.ab/\h.s0=A.s0/\(∀q o,H1 q=some o->h.B q->A.B q)/\vV A.B H1 (upd H1 p (.lst a))/\SR K M h J D (upd H1 p (.lst a)) (ε.set i (some (setAt w π (.lst b)))):=by
 obtain⟨F,O⟩:=S.ow;obtain⟨v,g,k⟩:=O.val i m0 w d L;obtain⟨v',U,F',T,G,r,fp,C⟩:=Fp.path π m0 k hp Y;obtain⟨ws,p,vs,e1,rfl,rfl,E,h4⟩:=fp;cases e1;have P:p∈F i:=by rw[G];simp
 have I:A.B p:=(O.all p).mpr (.inr ⟨i,⟨m0,d⟩,P⟩);refine⟨v,p,vs,g,r,E,h4,I,λH1 s b a Z=>?_⟩;have Q:=S.same s;obtain⟨F0,O0⟩:=Q.ow;have O1:TZ K M A J D H1 ε F:=⟨O.un,λi m w d e=>let⟨v,g,k⟩:=O.val i m w d e;⟨v,g,Fp.mv s (λ_ _ _ z=>z) m k⟩,O.emp,O.nd,O.ds,O.nw,O.na,O.all⟩;have j:=s _ _ E;have N:vV A.B H1 (upd H1 p (.lst a)):=.put j rfl I;have Zl:p∉U++T:=by
  have:=O.nd i ⟨m0,d⟩;rw[G]at this;intro z;have g:=Rn.mp this;rcases Ha.mp z with z|z
  .have k:=Rn.mp g.1;exact k.2.2 p z p (by simp) rfl
  .exact g.2.2 p (by simp) p z rfl
 have y:Fp K A.B (upd H1 p (.lst a)) m0 (setAt w π (.lst b)) v (U++[p]++T):=by
  refine C (upd H1 p (.lst a)) A.B (.lst b) [p] ?_ (λq o e=>?_) (λq _ _ z=>z)
  .exact⟨b,p,a,rfl,rfl,rfl,au,ai.chg N (λ_ _ _ z=>z) b Z⟩
  .by_cases n:q=p
   .subst n;rw[E]at e;cases e;exact .inl ⟨rfl,I,Zl⟩
   .exact .inr (by rw[ak n];exact s _ _ e)
 rw[<-G]at y;have hc:∀q o,H1 q=some o->(B4 o=true/\q∈F i)\/upd H1 p (.lst a) q=some o:=λq o e=>by
  by_cases n:q=p
  .subst n;rw[j]at e;cases e;exact .inl ⟨rfl,P⟩
  .exact .inr (by rw[ak n];exact e)
 have Zm:Fp K (λq=>(A.B q/\q∉F i)\/q∈F i) (upd H1 p (.lst a)) m0 (setAt w π (.lst b)) v (F i):=Fp.mv (aq.refl _) (λq _ _ z=>by
  rcases z with z|z
  .exact z.1
  .exact(O.all q).mpr (.inr ⟨i,⟨m0,d⟩,z⟩)) m0 y
 obtain⟨h,a1,a2,_,a3,a4,a5⟩:=O1.chg (F':=F i) Q d L g hc (O.nd i ⟨m0,d⟩) (λq hq=>.inl hq) Zm;exact⟨h,a1,a2,a3,N,a5⟩
theorem Ak{ε:Ev}{P:List W->Prop}(h:match look ε i with|some (.lst l)=>P l|_=>False):∃l,look ε i=some (.lst l)/\P l:=by
 cases a:look ε i with
 |none=>rw[a]at h;exact h.elim
 |some b=>
  rw[a]at h;cases b with
  |lst l=>exact⟨l,rfl,h⟩
  |_=>exact h.elim
theorem Zn:j9 m0 []=some m0:=by cases m0<;>rfl
theorem QF{w:W}:di w []=some w:=by cases w<;>rfl
theorem QG{w u:W}:setAt w [] u=u:=by cases w<;>rfl
theorem QH(n:∀{o:TE},PE X e o->PS X st (EV (tBM X.K "list" Bs (lG i) (Nc o U1))))(hi:(i,.f)∈M)(E:∀R,VE X M R .s e (te R)):
 VS X M m st (λd ε=>match look ε i with|some (.lst l)=>te d.ex ε λw=>l.length<sizeLine/\d.nx (ε.set i (some (.lst (l++[w]))))|_=>False):=by
 rintro b s C H D I ⟨A,O,ε,d,S,J,hz,h,k⟩;obtain⟨l,e1,h⟩:=Ak h;obtain⟨Q,p,g,G,F,z,y,T,a⟩:=wm (π:=[]) S hi Zn e1 QF;cases F;refine n (E d.ex) b s C H D I ⟨_,G,.inl ⟨rfl,g,.inl (.inl z)⟩,A,O,ε,_,S,J,h,λw v N q j r=>?_⟩;obtain⟨P,L,a2,_,_,B⟩:=a N j (l++[w]) (g++[v]) ((y.same j).app (.cons r.bO .nil));rw[QG]at B;exact⟨p,g,v,rfl,rfl,j _ _ z,by rw[y.len];exact q.1,k.nx P _ _ _ L a2 q.2 B⟩
theorem QI(y:∀{C E:TE},PE X e C->PE X e1 E->PS X st (nJ C (UN (lG i) E Nf)))(hi:(i,.f)∈M)(T:∀R,VE X M R .s e (te R))(Q:∀R,VE X M R .s e1 (t1 R)):
 VS X M m st (λd ε=>te d.ex ε λw=>match look ε i with|some (.lst l)=>(t1 d.ex ε λx=>(match x with|.int j=>∃n,xR l.length j=some n/\d.nx (ε.set i (some (.lst (l.set n w))))|_=>False))|_=>False):=by
 rintro o s O H D I ⟨A,N,ε,d,S,K,hz,h,k⟩;refine y (T d.ex) (Q d.ex) o s O H D I ⟨A,N,ε,_,S,K,h,λw v H1 q G r=>?_⟩;obtain⟨l,e1,q⟩:=Ak q;obtain⟨v0,p,B,Z,Y,U,J,hB,g⟩:=wm (π:=[]) S hi Zn e1 QF;cases Y;refine⟨_,Z,A,N,ε,_,S.same G,K,q,λz vz H2 a F P=>?_⟩;cases z with
 |int j=>obtain⟨n,e,a⟩:=a;have b:=G.trans F;obtain⟨A',a1,a2,_,_,L⟩:=g H2 b (l.set n w) (B.set n v) ((J.same b).set (r.bO.same F));rw[QG]at L;exact⟨p,B,j,n,rfl,P.bO.int_inv,b _ _ U,by rw[J.len];exact e,k.nx A' _ _ _ a1 a2 a L⟩
 |_=>exact a.elim
theorem GV(o:∀R,VE X [] R mr e (te R))(n:mr=m\/m=.s)(g:dO m=false):VS X M m (.Return (some e) pos) (λd ε=>te d.ex ε d.rt):=by
 rintro a s l H D I ⟨A,q,ε,d,S,p,hz,h,k⟩;refine kI (o d.ex) a s l H D I ⟨_,q,ε,_,S.go,p,h,λw v j f b r=>?_⟩;rcases n with rfl|rfl
 .exact k.rt w v j f (S.sm.trans b) (.of g (r.back S.sm λ_ z=>z))
 .exact k.rt w v j f (S.sm.trans b) (.of g ((r.s S.dm).back S.sm λ_ z=>z))
theorem Le(j:∀R,VE X M R .s e (te R)):VS X M .s (.Return (some e) pos) (λd ε=>te d.ex ε d.rt):=by rintro a s b H D I ⟨A,o,ε,d,S,l,hz,h,k⟩;refine kI (j d.ex) a s b H D I ⟨A,o,ε,_,S,l,h,λw v n g f r=>?_⟩;exact k.rt w v n g (S.sm.trans f) (.of rfl (dI.back S.sm S.sub' r))
theorem Lf(l:PE X e (lG i))(hi:(i,m)∈M)(j:dO m=false):VS X M m (.Return (some e) pos) (λd ε=>match look ε i with|some w=>d.rt w|none=>False):=by
 rintro a s f H D I ⟨A,y,ε,d,S,r,hz,h,k⟩
 try dsimp only at h
 cases b:look ε i with
 |none=>rw[b]at h;exact h.elim
 |some w=>
  rw[b]at h;obtain⟨F,O⟩:=S.ow;obtain⟨v,o,n⟩:=O.val i m w hi b;refine kI l a s f H D I ⟨_,o,k.rt _ _ H h S.sm (.of j ⟨F i,O.nd i ⟨m,hi⟩,λp g=>O.nw i p ⟨m,hi⟩ g,Fp.mv (aq.refl _) (λq _ _ z=>?_) m n⟩)⟩;rcases z with z|z
  .exact(O.all q).mpr (.inl z)
  .exact(O.all q).mpr (.inr ⟨i,⟨m,hi⟩,z⟩)
theorem wu{K:Frag}{A:Fz}{l H:Hp}{n:St}{ε:Ev}{g b:W}{v:V}(S:SR K M A l n H ε)(a:(0,m0)∈M)(o:look ε 0=some b)(f:∃d,A.s0=some d)(r:Rep K A.B H g v):Aj K A.ab A.s0 l H (.io m0) (.tup [g,b]) v:=by obtain⟨d,f⟩:=f;obtain⟨F,O⟩:=S.ow;obtain⟨u,k,q⟩:=O.val 0 m0 b a o;rw[(S.sl d f).1]at k;cases k;have j:∀p,(A.ab p\/p∈F 0)->A.B p:=λp z=>(O.all p).mpr (z.imp id λz=>⟨0,⟨m0,a⟩,z⟩);exact⟨g,b,d,F 0,rfl,f,O.nd 0 ⟨m0,a⟩,λp h=>⟨O.nw 0 p ⟨m0,a⟩ h,O.na 0 p ⟨m0,a⟩ h⟩,Fp.mv (aq.refl _) (λp _ _ z=>j p z) m0 q,r.less j⟩
theorem Wg{a b:List Stmt}(p:∀R,VT X M R c (tc R))(v:Ck X M m a t)(r:Ck X M m b u):VS X M m (.If c a b pos) (λd ε=>tc d.ex ε λx=>truth x λk=>if k=true then t d ε else u d ε):=by
 rintro f s o H D I ⟨A,l,ε,d,S,j,hz,h,k⟩;refine EW (p d.ex) v r f s o H D I ⟨A,l,ε,_,S,j,h,λx w g n=>?_⟩;obtain⟨q,rfl,g⟩:=bE g;refine⟨q,rfl,?_⟩;cases q with
 |true=>exact⟨A,l,ε,d,S.same n,j,hz,g,k⟩
 |false=>exact⟨A,l,ε,d,S.same n,j,hz,g,k⟩
end
theorem Al{X:Cx}{st:Stmt}{t:TS}(h:PS X.kH st t):PS X st t:=PS.kH h
section
variable{X:Cx}{M:Ms}{m:Md}{body:List Stmt}{tb:WS}{c iter tg:Expr}{tc:WT}{ti:(Addr->Prop)->WT}{pos:Pos}{one:Bool}{ts:List Nat}
theorem QJ(I:VT X.kH M (λ_=>False) c tc)(L:Ck X.kH M m body tb):VS X M m (.While c body [] pos) (λd ε=>KN (λε Q=>tc ε λx=>truth x Q) tb d ε):=by
 refine PS.imp (Al (xJ PassesOwn.never I L)) ?_;rintro D R H ⟨A,t,ε,d,S,T,hz,h,k⟩;obtain⟨J,⟨B,F⟩,r⟩:=h;refine⟨λn b f=>∃e a,e.ab=A.ab/\e.s0=A.s0/\J n a/\SR X.K M e t b f a,⟨B,A,ε,rfl,rfl,F,S⟩,?_⟩;rintro n z U ⟨w,u,s,p,E,v⟩;refine⟨w,t,u,_,v,.none,r n u E,λx P o y=>?_⟩;obtain⟨q,rfl,o⟩:=bE o;refine⟨q,rfl,?_⟩;cases q with
 |true=>obtain⟨N,O,o⟩:=o;refine⟨λb f=>∃e a,e.ab=A.ab/\e.s0=A.s0/\N a/\SR X.K M e t b f a,λb f ⟨e,a,j,a2,i,g⟩=>?_,w,t,u,_,v.same y,.none,(by rw[p];exact hz),o,⟨λe a b f j a2 i g=>⟨e,a,j.trans s,a2.trans p,i,g⟩,by rw[s,p];exact k.rt,λe a b f j a2 i g=>k.nx e a b f (j.trans s) (a2.trans p) i g,λe a b f j a2 i g=>⟨e,a,j.trans s,a2.trans p,i,g⟩⟩⟩;obtain⟨C,l,G⟩:=O a i;exact⟨C,l,e,a,j,a2,G,g⟩
 |false=>exact k.nx w _ _ P s p o (v.same y)
theorem QK(hc:X.calm=true)(hM:∀i∈ts,¬aO M i)(hi:PI X.kH tg iter (Ez X.kH M (λ_=>False) false (ti λ_=>False)))(hg:PG X.kH tg (gT X.K one ts))(hb:Ck X.kH M m body tb)(hs:∀x,foldedSetIterable iter X.env x=pure x):
 VS X M m (.For tg iter body [] pos) (λd ε=>ti (λ_=>False) ε λz=>items z λg=>mE (λw N a=>wT one ts w a λl=>tb N l) d g ε):=by
 refine PS.imp (Al (OE PassesOwn.never hc hi hg hb hs)) ?_;rintro D σ H ⟨A,H0,ε,d,S,er,hz,h,k⟩;refine⟨A,H0,ε,_,S,.none,h,λz T=>?_⟩;obtain⟨g,ez,hw⟩:=n6.mp T;refine⟨g,ez,λJ H1 s1 it=>?_⟩;have S1:=S.same s1;obtain⟨I,Ss,Q,b1,b2⟩:=S1.rb;have low:Cj X.K false A.ab I J g:=it.low (λp o e=>b2 p o e) λp z=>S.sub' p z;have iw:=low.iw;refine⟨λi n f r=>n=g.length -i/\i<=g.length/\∃b a,b.ab=A.ab/\b.s0=A.s0/\SR X.K M b I f r a/\mE (λw N a=>wT one ts w a λl=>tb N l) d (g.drop i) a,⟨g.length,rfl,Iy _,A,ε,rfl,rfl,Ss,hw⟩,?_⟩;have up:∀{b:Fz}{f:St}{r:Hp}{a:Ev},SR X.K M b I f r a->SR X.K M b H0 f r a:=λ{b f r a} q=>by obtain⟨F,O⟩:=q.ow;exact⟨q.len,q.sh,Q.trans q.sm,q.dm,q.sl,F,⟨O.un,O.val,O.emp,O.nd,O.ds,λi p hi e=>Q.free (O.nw i p hi e),O.na,O.all⟩⟩
 rintro i n R Y ⟨rfl,hi2,Z,dS,C,B,E,P⟩;by_cases u:i<g.length
 .refine .inr ⟨iw.go i Y E.sm u,λf r=>∃b a,b.ab=A.ab/\b.s0=A.s0/\SR X.K M b I f r a/\mE (λw N a=>wT one ts w a λl=>tb N l) d (g.drop (i+1)) a,by rintro f r ⟨b,a,v,a2,t,s⟩;exact⟨g.length -(i+1),by omega,rfl,u,b,a,v,a2,t,s⟩,λx H3 y=>?_⟩;have U:g[i]?=some g[i]:=B1 u;rw[d4 u,mE]at P;generalize g[i]=w at*;obtain⟨s3,G⟩:=iw.yl i Y x H3 w E.sm U y;have hr:Rep X.K (FB Z M R) H3 w x:=G _ λp o e z=>by
   obtain⟨F,O⟩:=E.ow;rcases(O.all p).mp z with z|⟨j,hj,e2⟩
   .rw[C]at z;exact z
   .rw[O.nw j p hj e2]at e;cases e
  refine tgt hM (E.same s3) hr P λvs a hp S4=>?_;exact⟨Z,I,a,_,S4,.none,(by rw[B];exact hz),hp,⟨λb l Wh L v a2 t s=>⟨b,l,v.trans C,a2.trans B,s,t⟩,λw' v' r t s q3=>k.rt w' v' r t (Q.trans s) (by rw[C,B]at q3;exact q3.back Q),λb l Wh L v a2 t s=>k.nx b _ _ _ (v.trans C) (a2.trans B) t (up s),λb l Wh L v a2 t s=>⟨b,l,v.trans C,a2.trans B,s,t⟩⟩⟩
 .have e:i=g.length:=by omega
  subst e;refine .inl ⟨iw.st _ Y E.sm rfl,?_⟩;rw[pd,mE]at P;exact k.nx Z _ _ _ C B P (up E)
end
structure Go(A:Fz)(H:Hp)(A':Fz)(H':Hp):Prop where
 ab:A'.ab=A.ab
 s0:A'.s0=A.s0
 B:∀p o,H p=some o->A'.B p->A.B p
 ch:vV A.B H H'
theorem Go.same{A:Fz}{H H':Hp}(s:aq H H'):Go A H A H':=⟨rfl,rfl,λ_ _ _ z=>z,.same s⟩
theorem Go.trans{A c b:Fz}{H H1 a:Hp}(g:Go A H c H1)(k:Go c H1 b a):Go A H b a:=by
 refine⟨k.ab.trans g.ab,k.s0.trans g.s0,λp o e z=>?_,λp o e=>?_⟩
 .rcases g.ch p o e with⟨_,y⟩|y
  .exact y
  .exact g.B p o e (k.B p o y z)
 .rcases g.ch p o e with y|y
  .exact .inl y
  .rcases k.ch p o y with⟨f,d⟩|h
   .exact .inl ⟨f,g.B p o e d⟩
   .exact .inr h
theorem Go.rep{K:Frag}{A a:Fz}{H H1:Hp}{w:W}{v:V}(g:Go A H a H1)(h:Rep K A.B H w v):Rep K a.B H1 w v:=Rep.chg g.ch g.B w h
abbrev Am:=Ev->(W->Ev->Prop)->Prop
abbrev NL:=Ev->(List W->Ev->Prop)->Prop
noncomputable def tP(X:Cx)(M:Ms)(R:Addr->Prop)(t:Am):TE:=λe H Q=>∃A c f P,SR X.K M A c e H f/\ER X c R/\t f P/\∀d w v b a,P w a->Go A H d b->SR X.K M d c e b a->Rep X.K d.B b w v->Q v b
noncomputable def tPT(X:Cx)(M:Ms)(R:Addr->Prop)(t:Am):TT:=λe H Q=>∃A c f P,SR X.K M A c e H f/\ER X c R/\t f P/\∀g x d a,P x a->Go A H g d->SR X.K M g c e d a->∃b,x=.bl b/\Q b d
noncomputable def tPA(X:Cx)(M:Ms)(R:Addr->Prop)(t:NL):TA:=λe H Q=>∃A c f P,SR X.K M A c e H f/\ER X c R/\t f P/\∀d g h b a,P g a->Go A H d b->SR X.K M d c e b a->ai X.K d.B b g h->Q h b
abbrev VP(X:Cx)(M:Ms)(R:Addr->Prop)(e:Expr)(t:Am):Prop:=PE X e (tP X M R t)
abbrev EA(X:Cx)(M:Ms)(R:Addr->Prop)(e:Expr)(t:Am):Prop:=PT X e (tPT X M R t)
abbrev NN(X:Cx)(M:Ms)(R:Addr->Prop)(e:Expr)(t:Am):Prop:=PW X e (tPT X M R t)
abbrev Lg(X:Cx)(M:Ms)(R:Addr->Prop)(es:List Expr)(t:NL):Prop:=PA X es (tPA X M R t)
section
variable{X:Cx}{M:Ms}{R:Addr->Prop}{m m0:Md}{e a b c:Expr}{es rest:List Expr}{t ta tb:Am}{tl:NL}{pos apos cpos p:Pos}{i j:Nat}{st:Stmt}{x:Str}{π:List nX}
theorem Wi{t:WT}(h:VE X M R .s e t):VP X M R e (λε Q=>t ε λw=>Q w ε):=PE.imp h<|by rintro n H Q ⟨A,g,ε,P,S,f,h,k⟩;exact⟨A,g,ε,_,S,f,h,λw v l d s r=>k A w v l ε d (.same s) (S.same s) r.bO⟩
theorem QL{t:WT}(h:VT X M R e t):EA X M R e (λε Q=>t ε λw=>Q w ε):=PT.imp h<|by rintro n H Q ⟨A,g,ε,P,S,f,h,k⟩;exact⟨A,g,ε,_,S,f,h,λw l d s=>k A w l ε d (.same s) (S.same s)⟩
theorem QM(hi:(i,.f)∈M)(B:PE X e (lG i))(n:attributeBase e "pop" X.env (eval e X.env)=eval e X.env)(d:(apos.endLine==cpos.line)=true):
 VP X M R (.Call (.Attribute e "pop" apos) [] [] cpos) (λε Q=>match look ε i with|some (.lst l)=>∃w,l[l.length -1]?=some w/\Q w (ε.set i (some (.lst l.dropLast)))|_=>False):=
 PE.imp (E9 PySem.F.plainAttrs_list PySem.F.slot_list_pop PySem.F.type_list_pop OV B n d)<|by rintro N H Q ⟨A,Y,ε,P,S,U,h,k⟩;obtain⟨l,J,w,I,h⟩:=Ak h;obtain⟨O,q,r,E,D,u,s,T,o⟩:=wm (π:=[]) S hi Zn J QF;cases D;obtain⟨v,G,C⟩:=s.get I;obtain⟨z,L,a2,a3,K,y⟩:=o H (aq.refl H) l.dropLast r.dropLast s.dropLast;rw[QG]at y;have g:Go A H z (upd H q (.lst r.dropLast)):=⟨L,a2,a3,K⟩;exact⟨_,E,.inl ⟨rfl,r,.inl (.inl u)⟩,q,r,v,rfl,rfl,u,by rw[s.len];exact G,k z w v _ _ h g y (g.rep C)⟩
theorem QN{op:Operator}(ha:VP X M R a ta)(hb:VP X M R b tb):VP X M R (.BinOp a op b pos) (λε Q=>ta ε λx F=>tb F λy f=>gY op x y λz=>Q z f):=by rintro n s J H Q I ⟨A,G,ε,P,S,O,p,k⟩;refine wpAny_BinOp (bin ha hb I (R:=λC q l=>∃x y d f,gY op x y (λz=>P z f)/\Go A H d l/\SR X.K M d G J l f/\Rep X.K d.B l x C/\Rep X.K d.B l y q) ⟨A,G,ε,_,S,O,p,λA1 x C H1 F E g1 S1 Y=>⟨A1,G,F,_,S1,O,E,λd y q l f D N o U=>⟨x,y,d,f,D,g1.trans N,o,N.rep Y,U⟩⟩⟩ ?_);rintro v u T C q l I2 rv Z ⟨x,y,d,f,h,g,o,E,D⟩;exact Ah op n T J l d.B x y C q v u _ Q I2 o.dom rv Z E.b D.b h λw z H' pw L r=>k d w z H' f pw (g.trans (.same L)) (o.same L) (r.rep o.dom)
theorem QO{op:CmpOp}(hu:X.A.units+64<cLine)(hm:behindInMarks op b=false)(ha:VP X M R a ta)(hb:VP X M R b tb):VP X M R (.Compare a [op] [b] pos) (λε Q=>ta ε λx F=>tb F λy f=>fW op x y λz=>Q z f):=by rintro n s J H Q I ⟨A,G,ε,P,S,O,p,k⟩;refine wpAny_Compare1 (bin ha hb I (R:=λC q l=>∃x y d f,fW op x y (λz=>P z f)/\Go A H d l/\SR X.K M d G J l f/\Rep X.K d.B l x C/\Rep X.K d.B l y q) ⟨A,G,ε,_,S,O,p,λA1 x C H1 F E g1 S1 Y=>⟨A1,G,F,_,S1,O,E,λd y q l f D N o U=>⟨x,y,d,f,D,g1.trans N,o,N.rep Y,U⟩⟩⟩ ?_) hm;rintro v u T C q l I2 rv Z ⟨x,y,d,f,h,g,o,E,D⟩;exact wg hu op n T J l d.B x y C q v u _ Q I2 o.dom rv Z E.b D.b h λw z H' pw L r=>k d w z H' f pw (g.trans (.same L)) (o.same L) (r.rep o.dom)
theorem Lh{op:CmpOp}(hu:X.A.units+64<cLine)(hm:behindInMarks op b=false)(ha:VP X M R a ta)(hb:VP X M R b tb):EA X M R (.Compare a [op] [b] pos) (λε Q=>ta ε λx L=>tb L λy n=>fW op x y λz=>Q z n):=by
 rintro l s F H Q I ⟨A,N,ε,P,S,Z,p,k⟩;have q:=bin ha hb I (R:=λD C o=>∃x y d n,fW op x y (λz=>P z n)/\Go A H d o/\SR X.K M d N F o n/\Rep X.K d.B o x D/\Rep X.K d.B o y C) ⟨A,N,ε,_,S,Z,p,λA1 x D H1 L J g1 S1 rx=>⟨A1,N,L,_,S1,Z,J,λd y C o n G Y E ry=>⟨x,y,d,n,G,g1.trans Y,E,Y.rep rx,ry⟩⟩⟩
  (f:=compareOp op) (Q:=EP X l F λz O=>∃b,z=.bl b/\Q b O)<|by rintro v u T D C o I2 rv ru ⟨x,y,d,n,h,g,E,J,G⟩;refine wg hu op l T F o d.B x y D C v u _ _ I2 E.dom rv ru J.b G.b h λw z O pw U r=>?_;obtain⟨b,rfl,q⟩:=k d w O n pw (g.trans (.same U)) (E.same U);exact⟨b,r.bO.kP,q⟩
 refine wpAny_isTrue_Compare1 (cy q λv s1 q1=>cy q1 λu T q2=>cy q2 λc s3 ⟨z,H3,I3,r3,b,ez,q3⟩=>?_) hm;subst ez;cases r3;exact ey ⟨H3,I3,q3⟩
theorem wz(n:∀d,isTrue e X.env d=(do let v<-d;standAt e.pos;holding [v] (truthy v)))(h:VP X M R e t):EA X M R e t:=PT.imp (vg h n)<|by rintro B H Q ⟨A,w,f,P,S,q,h,k⟩;refine⟨A,w,f,P,S,q,h,λy x C u r l o s g=>?_⟩;obtain⟨b,rfl,z⟩:=k y _ u r l o s;exact⟨b,g.kP,z⟩
theorem GW(d:EA X M R a ta):NN X M R (.BoolOp .And [a] pos) ta:=Bc d
theorem Li(w:EA X M R a ta)(v:NN X M R (.BoolOp .And (b::rest) pos) tb):NN X M R (.BoolOp .And (a::b::rest) pos) (λε Q=>ta ε λx d=>truth x λk=>if k=true then tb d Q else Q (.bl false) d):=
 PW.imp (EN w v)<|by
  rintro G H Q ⟨A,r,ε,P,S,l,h,k⟩;refine⟨A,r,ε,_,S,l,h,λs x E n f g o=>?_⟩;obtain⟨q,rfl,f⟩:=bE f;refine⟨q,rfl,?_⟩;cases q with
  |true=>exact⟨s,r,n,P,o,l,f,λF y D B u z C=>k F _ D B u (g.trans z) C⟩
  |false=>obtain⟨b,e,q⟩:=k s _ E n f g o;cases e;exact q
theorem Lj(d:EA X M R a ta):NN X M R (.BoolOp .Or [a] pos) ta:=zw d
theorem QS(w:EA X M R a ta)(v:NN X M R (.BoolOp .Or (b::rest) pos) tb):NN X M R (.BoolOp .Or (a::b::rest) pos) (λε Q=>ta ε λx d=>truth x λk=>if k=true then Q (.bl true) d else tb d Q):=
 PW.imp (EO w v)<|by
  rintro G H Q ⟨A,r,ε,P,S,l,h,k⟩;refine⟨A,r,ε,_,S,l,h,λs x E n f g o=>?_⟩;obtain⟨q,rfl,f⟩:=bE f;refine⟨q,rfl,?_⟩;cases q with
  |false=>exact⟨s,r,n,P,o,l,f,λF y D B u z C=>k F _ D B u (g.trans z) C⟩
  |true=>obtain⟨b,e,q⟩:=k s _ E n f g o;cases e;exact q
theorem Lk:Lg X M R [] (λε Q=>Q [] ε):=PA.imp aY<|by rintro d H Q ⟨A,g,ε,P,S,f,h,k⟩;exact k A [] [] H ε h (.same (aq.refl H)) S .nil
theorem GX(v:starEach (a::es) X.env=(false,eval a X.env)::starEach es X.env)(y:VP X M R a ta)(w:Lg X M R es tl):Lg X M R (a::es) (λε Q=>ta ε λx g=>tl g λl f=>Q (x::l) f):=
 PA.imp (ay y w v)<|by rintro G H Q ⟨A,q,ε,P,S,o,h,k⟩;refine⟨A,q,ε,_,S,o,h,λF x I K g u z C r=>⟨F,q,g,_,C,o,u,λE l J D f d n B s=>?_⟩⟩;exact k E _ _ D f d (z.trans n) B (.cons (n.rep r) s)
theorem Wj(N:lI b)(T:VP X M R a ta)(O:VP X M R b tb):VP X M R (.Subscript a b pos) (λε Q=>ta ε λx E=>tb E λy o=>P5 x y λz=>Q z o):=PE.imp (E7 zN T O N)<|by
 rintro Z H Q ⟨A,K,ε,P,S,J,h,k⟩;refine⟨A,K,ε,_,S,J,h,λY x vx H1 E L C U f=>⟨Y,K,E,_,U,J,L,λI y vy G o d q F s=>?_⟩⟩;have f:=(q.rep f).b;cases x with
 |lst l=>
  cases y with
  |int i=>obtain⟨p,r,rfl,g,B⟩:=f.lst;obtain⟨w,e,d⟩:=d;obtain⟨v,D,u⟩:=Ce B e;exact .inl ⟨p,r,i,v,rfl,s.int_inv,.inl g,D,k I _ _ G o d (C.trans q) F u⟩
  |_=>exact d.elim
 |tup l=>
  cases y with
  |int i=>obtain⟨p,r,rfl,g,B⟩:=f.tup;obtain⟨w,e,d⟩:=d;obtain⟨v,D,u⟩:=Ce B e;exact .inr (.inl ⟨p,r,i,v,rfl,s.int_inv,g,D,k I _ _ G o d (C.trans q) F u⟩)
  |_=>exact d.elim
 |gB ns=>
  cases y with
  |int i=>obtain⟨p,rfl,g⟩:=f.gB;obtain⟨n,e,d⟩:=d;exact .inl ⟨p,_,i,_,rfl,s.int_inv,g,Cf e,k I _ _ G o d (C.trans q) F (gk _)⟩
  |_=>exact d.elim
 |_=>exact d.elim
theorem Ll(n:∀{o:TE},PE X e o->PS X st (nJ o (fS j)))(y:¬aO M j){tt:(Addr->Prop)->Am}(z:∀R,VP X M R e (tt R)):VS X M m st (λd ε=>tt d.ex ε λw f=>d.nx (f.set j (some w))):=by rintro l s q H D I ⟨A,F,ε,d,S,B,hz,h,k⟩;exact n (z d.ex) l s q H D I ⟨A,F,ε,_,S,B,h,λG w v E f u g C r=>k.nx G _ _ E g.ab g.s0 u (C.set y r)⟩
theorem QT{o:List Nat}(q:∀{u:TE},PE X e u->PS X st (nJ u (gT X.K false o)))(hi:∀i∈o,¬aO M i){tt:(Addr->Prop)->Am}(C:∀R,VP X M R e (tt R)):
 VS X M m st (λd ε=>tt d.ex ε λw f=>match w with|.tup l=>l.length=o.length/\d.nx (cH f o l)|_=>False):=by
 rintro n s z H D I ⟨A,L,ε,d,S,E,hz,h,k⟩;refine q (C d.ex) n s z H D I ⟨A,L,ε,_,S,E,h,λN w v J f y g F r=>?_⟩;cases w with
 |tup l=>exact tgt (P:=d.nx) hi F r y λO Q B G=>k.nx N _ _ J g.ab g.s0 B G
 |_=>exact y.elim
theorem Lm{tt:(Addr->Prop)->Am}(n:∀R,PS X st (EV (tP X M R (tt R)))):VS X M m st (λd ε=>tt d.ex ε λw f=>d.nx f):=by rintro l s o H D I ⟨A,B,ε,d,S,u,hz,h,k⟩;exact n d.ex l s o H D I ⟨A,B,ε,_,S,u,h,λC w v z f q g y r=>k.nx C _ _ z g.ab g.s0 q y⟩
theorem QU{x y:List Stmt}{v u:WS}{tt:(Addr->Prop)->Am}(E:∀R,EA X M R c (tt R))(G:Ck X M m x v)(F:Ck X M m y u):VS X M m (.If c x y pos) (λd ε=>tt d.ex ε λx f=>truth x λk=>if k=true then v d f else u d f):=by
 rintro l s C H D I ⟨A,r,ε,d,S,o,hz,h,k⟩;refine EW (E d.ex) G F l s C H D I ⟨A,r,ε,_,S,o,h,λB x J w n g z=>?_⟩;obtain⟨q,rfl,n⟩:=bE n;refine⟨q,rfl,?_⟩;cases q with
 |true=>exact⟨B,r,w,d,z,o,(by rw[g.s0];exact hz),n,by rw[g.ab,g.s0];exact k⟩
 |false=>exact⟨B,r,w,d,z,o,(by rw[g.s0];exact hz),n,by rw[g.ab,g.s0];exact k⟩
theorem QV{u:List Stmt}{tb:WS}{tt:Am}(Z:EA X.kH M (λ_=>False) c tt)(hb:Ck X.kH M m u tb):VS X M m (.While c u [] pos) (λd ε=>V0 (λε Q=>tt ε λx f=>truth x λk=>Q k f) tb d ε):=by
 refine PS.imp (Al (xJ PassesOwn.never Z hb)) ?_;rintro D σ H ⟨A,F,ε,d,S,er,hz,h,k⟩;obtain⟨J,⟨m0,U⟩,E⟩:=h;refine⟨λn o v=>∃r f,r.ab=A.ab/\r.s0=A.s0/\J n f/\SR X.K M r F o v f,⟨m0,A,ε,rfl,rfl,U,S⟩,?_⟩;rintro n O H1 ⟨A1,G,z,s,T,S1⟩;refine⟨A1,F,G,_,S1,.none,E n G T,λL x H2 dS C g I=>?_⟩;obtain⟨q,rfl,C⟩:=bE C;refine⟨q,rfl,?_⟩;have z:=g.ab.trans z;have s:=g.s0.trans s;cases q with
 |true=>obtain⟨N,hN,C⟩:=C;refine⟨λo v=>∃r f,r.ab=A.ab/\r.s0=A.s0/\N f/\SR X.K M r F o v f,λo v ⟨r,f,B,a2,y,w⟩=>?_,L,F,dS,_,I,.none,(by rw[s];exact hz),C,⟨λr f o v B a2 y w=>⟨r,f,B.trans z,a2.trans s,y,w⟩,by rw[z,s];exact k.rt,λr f o v B a2 y w=>k.nx r f o v (B.trans z) (a2.trans s) y w,λr f o v B a2 y w=>⟨r,f,B.trans z,a2.trans s,y,w⟩⟩⟩;obtain⟨P,l,Y⟩:=hN f y;exact⟨P,l,r,f,B,a2,Y,w⟩
 |false=>exact k.nx L _ _ H2 z s C I
theorem QW{te:(Addr->Prop)->WT}(u:∀R,VE X M R .s e (te R))(y:(0,m0)∈M):VS X M (.io m0) (.Return (some e) pos) (λd ε=>te d.ex ε λw=>match look ε 0 with|some n=>(d.rt (.tup [w,n]))|none=>False):=by
 rintro f s q H D I ⟨A,C,ε,d,S,z,hz,h,k⟩;refine kI (u d.ex) f s q H D I ⟨A,C,ε,_,S,z,h,λw v B g o r=>?_⟩;cases l:look ε 0 with
 |none=>rw[l]at g;exact g.elim
 |some n=>rw[l]at g;exact k.rt _ v B g (S.sm.trans o) (wu (S.same o) y l (dk.mp hz) r.bO)
theorem QX(o:(0,m0)∈M):VS X M (.io m0) (.Return none pos) (λd ε=>match look ε 0 with|some l=>(d.rt (.tup [.bu,l]))|none=>False):=by
 rintro f s n H D I ⟨A,r,ε,d,S,q,hz,h,k⟩
 try dsimp only at h
 cases g:look ε 0 with
 |none=>rw[g]at h;exact h.elim
 |some l=>rw[g]at h;exact Bg f s n H D I (k.rt _ _ H h S.sm (wu S o g (dk.mp hz) V2))
end
section
variable{X:Cx}{M:Ms}{R:Addr->Prop}{m m0:Md}{e o a b c:Expr}{es rest:List Expr}{t ta tb:Am}{tl:NL}{pos apos cpos p:Pos}{i j n:Nat}{st:Stmt}{x:Str}{π:List nX}
theorem Ln{k n:Nat}{fv:Value}{sp:aZ}(F:cU X.prog X.w X.K X.mg X.base k fv n (NJ X.K n m sp))(hr:cX k X.A)(hg:Gl X x)(hm:X.mg x=some fv)
 (hn:∀d P R,sp d P R->d.length=n)(ha:Lg X M R (e::es) tl)(L:(x==("__debug__":Str))=false)(he:starEach (e::es) X.env=(false,eval e X.env)::starEach es X.env)(J:(backTo pos (starEach es X.env)).any (·.1)=false):
 VP X M R (.Call (.Name x p) (e::es) [] pos) (λε Q=>tl ε λd z=>sp d (λw=>Q w z) R):=by
 rintro q s T H Q I ⟨A,H0,ε,P,S,er,h,kk⟩;obtain⟨E,Y,Z,hR⟩:=er;refine eI (eY I hg hm ?_ L);refine gd (h₀:=X.base) I.ok.mod.Jp F.keep (cy (ha pos q s T H (λD u=>∃d f g,Go A H f u/\SR X.K M f H0 T u g/\ai X.K f.B u d D/\sp d (λw=>P w g) R) I ⟨A,H0,ε,_,S,⟨E,Y,Z,hR⟩,h,λf d D u g hw N l G=>⟨d,f,g,N,l,G,hw⟩⟩) λus s1 hz=>?_) he J;obtain⟨D,u,I1,r,d,f,g,N,l,G,U⟩:=hz;exact⟨I1.j8,F.run hr Y I1 r ⟨f.B,d,_,R,hn _ _ _ U,G,l.dom,U,λw v O pw y r'=>kk f w v O g pw (N.trans (.same y)) (l.same y) (r'.rep l.dom),λC O rc y=>Z C O rc (l.sm.trans y)⟩⟩
theorem GY{K:Frag}{A:Fz}{I H:Hp}{l:St}{ε:Ev}{k:W}{sp:aZ}{g:List W}{vs:List V}{P:W->Ev->Prop}{Q:VK}{E:XK}{q:V}(S:SR K M A I l H ε)(hi:(i,m0)∈M)(L:look ε i=some k)(J:l[i]?=some (some q))(U:ai K A.B H g vs)(hn:g.length+1=n)
 (h:sp (k::g) (λr=>∃w y,r=.tup [w,y]/\P w (ε.set i (some y))) R)(hE:∀C H',R C->aq I H'->E (.ref C) none H')(Z:∀f w v H' d,P w d->Go A H f H'->SR K M f I l H' d->Rep K f.B H' w v->Q v H'):NK K n m0 sp (q::vs) H Q E:=by
 obtain⟨F,O⟩:=S.ow;obtain⟨v,N,h2⟩:=O.val i m0 k hi L;rw[J]at N;cases N;have D:aO M i:=⟨m0,hi⟩;have T:∀p,((A.B p/\p∉F i)\/p∈F i)->A.B p:=λp z=>by
  rcases z with z|z
  .exact z.1
  .exact(O.all p).mpr (.inr ⟨i,D,z⟩)
 refine⟨λp=>A.B p/\p∉F i,F i,k,q,g,vs,_,R,rfl,hn,O.nd i D,λp hp z=>z.2 hp,λp z=>S.dom p z.1,Fp.mv (aq.refl _) (λp _ _ z=>T p z) m0 h2,U.less T,h,λw y v F' H' u G nd nw fp s=>?_,λC H' Y G=>hE C H' Y λp o e=>?_⟩
 .obtain⟨w',y',e,u⟩:=u;cases e;obtain⟨f,a1,a2,aB,a3,a4,S'⟩:=O.chg (F':=F') S hi L J (λp o e=>(G p o e).imp (λz=>⟨z.1,z.2⟩) id) nd nw fp;exact Z f w v H' _ u ⟨a1,a2,a3,a4⟩ S' (s.less λp z=>(aB p).mp z)
 .rcases G p o (S.sm p o e)with⟨_,z⟩|z
  .rw[O.nw i p D z]at e;cases e
  .exact z
theorem QY{k n:Nat}{fv:Value}{sp:aZ}(F:cU X.prog X.w X.K X.mg X.base k fv n (NK X.K n m0 sp))(hr:cX k X.A)(hg:Gl X x)(hm:X.mg x=some fv)(hi:(i,m0)∈M)
 (hn:∀f P R,sp f P R->f.length=n)(hv:PE X e (lG i))(ha:Lg X M R es tl)(Y:(x==("__debug__":Str))=false)(he:starEach (e::es) X.env=(false,eval e X.env)::starEach es X.env)(T:(backTo pos (starEach es X.env)).any (·.1)=false):
 VP X M R (.Call (.Name x p) (e::es) [] pos) (λε Q=>match look ε i with|some _=>(tl ε λf l=>match look l i with|some q=>sp (q::f) (λr=>∃w y,r=.tup [w,y]/\Q w (l.set i (some y))) R|none=>False)|none=>False):=by
 rintro G s σ H Q I ⟨A,H0,ε,P,S,er,h,kk⟩;obtain⟨E,pE,hE,hR⟩:=er
 try dsimp only at h
 cases U:look ε i with
 |none=>rw[U]at h;exact h.elim
 |some w1=>
  rw[U]at h;obtain⟨F0,O0⟩:=S.ow;obtain⟨v0,J,_⟩:=O0.val i m0 w1 hi U;refine eI (eY I hg hm ?_ Y);refine gd (h₀:=X.base) I.ok.mod.Jp F.keep (cy (ay hv ha he pos G s σ H (λN L=>∃f u D C q,N=v0::u/\Go A H D L/\SR X.K M D H0 σ L C/\ai X.K D.B L f u/\look C i=some q/\sp (q::f) (λr=>∃w y,r=.tup [w,y]/\P w (C.set i (some y))) R) I ⟨v0,J,A,H0,ε,_,S,⟨E,pE,hE,hR⟩,h,λD f N L C z Z S1 O=>?_⟩) λus s1 ⟨N,L,I1,r,f,u,D,C,q,ev,Z,S1,O,d,qx⟩=>⟨I1.j8,?_⟩) he T
  .try dsimp only at z
   cases d:look C i with
   |none=>rw[d]at z;exact z.elim
   |some q=>rw[d]at z;exact⟨f,N,D,C,q,rfl,Z,S1,O,d,z⟩
  .subst ev;exact F.run hr pE I1 r (GY S1 hi d J O (by have:=hn _ _ _ qx;simpa using this) qx hE λA' w v H' l z g S' rr=>kk A' w v H' l z (Z.trans g) S' rr)
theorem QZ{pl:Sem Bool}{G:W}{k n:Nat}{f:Addr}{fd:FuncData}{ps fs:List Str}{ms:List Md}{sp:aZ}(hG:∀C,G=.cls C->Meth X.K C x f)(F:bK X.prog X.w X.K X.mg X.base (ji X.prog X.w) k f fd ps (NK X.K n (.o fs ms) sp))(hr:cX k X.A)(hb:Binds X.K fd ps [])(hi:(i,.o fs ms)∈M)(Y:fs.contains x=false)
 (hn:∀D P R,sp D P R->D.length=n)(hv:PE X o (lG i))(ha:Lg X M R (e::es) tl)(hst:starEach (e::es) X.env=(false,eval e X.env)::starEach es X.env)(hpl:(backTo pos (starEach es X.env)).any (·.1)=false)
 (ht:eval (.Call (.Attribute o x apos) (e::es) [] pos) X.env=(do
   let ov<-eval o X.env
   standAt apos.atName
   let(f,first)<-holding [ov] (getMethod ov x pl)
   callWith pos f first (backTo pos (starEach (e::es) X.env)) (backToKw pos (keywordEach [] X.env)))):
 VP X M R (.Call (.Attribute o x apos) (e::es) [] pos) (λε Q=>match look ε i with|some (.obj C _ _)=>G=.cls C/\(tl ε λD J=>match look J i with|some N=>sp (N::D) (λr=>∃w y,r=.tup [w,y]/\Q w (J.set i (some y))) R|none=>False)|_=>False):=by
 rintro L s σ H Q I ⟨A,H0,ε,P,S,er,h,kk⟩;obtain⟨E,pE,hE,hR⟩:=er
 try dsimp only at h
 cases hl:look ε i with
 |none=>rw[hl]at h;exact h.elim
 |some w1=>
  rw[hl]at h;cases w1 with
  |obj C fs' ws1=>
   obtain⟨hg,h⟩:=h;obtain⟨F0,O0⟩:=S.ow;obtain⟨v0,Z,Zo⟩:=O0.val i _ _ hi hl;obtain⟨C',dx,mh,q,XH,F',e1,rfl,e3,h1,h2,hc,_⟩:=Zo;cases e1;have lk:(fs.zip XH).lookup x=none:=by
    have:∀(l:List Str)(r:List V),l.contains x=false->(l.zip r).lookup x=none:=λl=>by
     induction l with
     |nil=>intro r _;rfl
     |cons y l ih=>
      intro r Y;cases r with
      |nil=>rfl
      |cons z r=>rw[cR,Zk]at Y;rw[J9,Eu,Y.1];exact ih r Y.2
    exact this fs XH Y
   have mt:=hG C hg;refine PySem.W.methodCall_KW (pl:=pl) (cy (hv L s σ H (λv' H'=>v'=V.ref q/\H'=H) I ⟨_,Z,rfl,rfl⟩) λu s1 ⟨x1,H1,I1,rx,ex,eh⟩=>?_) ht;subst ex;subst eh;obtain rfl:u=Value.ref q:=rx;refine qw I1 h1 hc.1 mt lk ?_;refine gd (first:=[.ref q]) (h₀:=X.base) I.ok.mod.Jp mt.kp (cy (ha pos L s1 σ H1 (λvs' Zp=>∃D U T N,Go A H1 U Zp/\SR X.K M U H0 σ Zp T/\ai X.K U.B Zp D vs'/\look T i=some N/\sp (N::D) (λr=>∃w y,r=.tup [w,y]/\P w (T.set i (some y))) R) I1 ⟨A,H0,ε,_,S,⟨E,pE,hE,hR⟩,h,λU D vs H1 T O g1 S1 rs=>?_⟩) λus s2 hz=>?_) hst hpl
   .try dsimp only at O
    cases d:look T i with
    |none=>rw[d]at O;exact O.elim
    |some N=>rw[d]at O;exact⟨D,U,T,N,g1,S1,rs,d,O⟩
   .obtain⟨vs,H2,I2,r,D,U,T,N,g1,S1,rs,d,qx⟩:=hz;refine⟨I2.j8,vh (us:=.ref q::us) (vs:=.ref q::vs) (ds:=[]) (zL:=[]) F hr hb .nil pE I2 (.cons rfl r) ?_⟩;rw[X9];exact GY S1 hi d Z rs (by have:=hn _ _ _ qx;simpa using this) qx hE λA' w v H' J O g S' rr=>kk A' w v H' J O (g1.trans g) S' rr
  |_=>exact h.elim
end
theorem Q0{x:Str}:∀(l:List Str)(r:List V),l.contains x=false->(l.zip r).lookup x=none:=λl=>by
 induction l with
 |nil=>intro r _;rfl
 |cons y l b=>
  intro r a;cases r with
  |nil=>rfl
  |cons z r=>rw[cR,Zk]at a;rw[J9,Eu,a.1];exact b r a.2
theorem Q2{x:Str}{n:Nat}{v:V}:∀(l:List Str)(r:List V)(n:Nat),l.Nodup->l[n]?=some x->r[n]?=some v->(l.zip r).lookup x=some v:=λl=>by
 induction l with
 |nil=>intro r n _ e _;exact nn e
 |cons y l g=>
  intro r n b c a;cases r with
  |nil=>exact nn a
  |cons z r=>
   rw[J9,Eu];cases n with
   |zero=>
    cases c;cases a;rw[iq]
   |succ n=>
    have d:l[n]?=some x:=by simpa using c
    have f:(x==y)=false:=by rw[mf];rintro rfl;exact(cx.mp b).1 (PQ d)
    rw[f];exact g r n (cx.mp b).2 d (by simpa using a)
theorem Lo{x:Str}{v:V}:∀(l:List Str)(r:List V)(n:Nat),l.Nodup->l[n]?=some x->r.length=l.length->iD x v (l.zip r)=l.zip (r.set n v):=λl=>by
 induction l with
 |nil=>intro r n _ e _;exact nn e
 |cons y l g=>
  intro r n b d c;cases r with
  |nil=>cases c
  |cons z r=>
   cases n with
   |zero=>
    cases d;rw[List.set_cons_zero,J9,J9,iD];rw[Bi (by first|rfl|simp)]
   |succ n=>
    have f:l[n]?=some x:=by simpa using d
    have a:y≠x:=by rintro rfl;exact(cx.mp b).1 (PQ f)
    rw[bf,J9,J9,iD];rw[BM (by first|exact a|simpa using a),g r n (cx.mp b).2 f (by simpa using c)]
section
variable{X:Cx}{M:Ms}{R:Addr->Prop}{m m0:Md}{e o a b c:Expr}{es rest:List Expr}{t ta tb:Am}{tl:NL}{pos apos cpos p:Pos}{i j n:Nat}{st:Stmt}{x:Str}{π:List nX}
theorem Lp{pl:Sem Bool}{G:W}{k n:Nat}{f:Addr}{T:FuncData}{ps B:List Str}{O:List Md}{sp:aZ}(hG:∀C,G=.cls C->Meth X.K C x f)(F:bK X.prog X.w X.K X.mg X.base (ji X.prog X.w) k f T ps (NK X.K n (.o B O) sp))(hr:cX k X.A)(hb:Binds X.K T ps [])(hi:(i,.o B O)∈M)(hx:B.contains x=false)
 (hn:∀L P R,sp L P R->L.length=n)(hv:PE X o (lG i))
 (ht:eval (.Call (.Attribute o x apos) [] [] pos) X.env=(do
   let ov<-eval o X.env
   standAt apos.atName
   let(f,first)<-holding [ov] (getMethod ov x pl)
   callWith pos f first (backTo pos (starEach [] X.env)) (backToKw pos (keywordEach [] X.env)))):
 VP X M R (.Call (.Attribute o x apos) [] [] pos) (λε Q=>match look ε i with|some (.obj C _ _)=>G=.cls C/\(match look ε i with|some w0=>sp [w0] (λr=>∃w y,r=.tup [w,y]/\Q w (ε.set i (some y))) R|none=>False)|_=>False):=by
 rintro d s U H Q I ⟨A,H0,ε,P,S,er,h,kk⟩;obtain⟨E,pE,hE,hR⟩:=er
 try dsimp only at h
 cases z:look ε i with
 |none=>rw[z]at h;exact h.elim
 |some Z=>
  rw[z]at h;cases Z with
  |obj C fs' Y=>obtain⟨hg,h⟩:=h;obtain⟨F0,O0⟩:=S.ow;obtain⟨v0,l,Zo⟩:=O0.val i _ _ hi z;obtain⟨C',dx,mh,q,XH,F',e1,rfl,e3,h1,h2,hc,_⟩:=Zo;cases e1;have N:=hG C hg;refine PySem.W.methodCall_KW (pl:=pl) (cy (hv d s U H (λv' J=>v'=V.ref q/\J=H) I ⟨_,l,rfl,rfl⟩) λu s1 ⟨x1,H1,I1,rx,ex,eh⟩=>?_) ht;subst ex;subst eh;obtain rfl:u=Value.ref q:=rx;refine qw I1 h1 hc.1 N (Q0 B XH hx) ?_;refine PySem.W.callWith_K0 (first:=[.ref q]) I1.j8 N.kp (vh (us:=[.ref q]) (vs:=[.ref q]) (ds:=[]) (zL:=[]) F hr hb .nil pE I1 (.cons rfl .nil) ?_);exact GY S hi z l .nil (by have:=hn _ _ _ h;simpa using this) h hE λA' w v J D hw g S' rr=>kk A' w v J D hw g S' rr
  |_=>exact h.elim
theorem SR.more{K:Frag}{A:Fz}{r H H1:Hp}{h:St}{ε:Ev}{G:List Addr}(S:SR K M A r h H ε)(s:aq H H1)(nw:∀q∈G,H q=none)(ex:∀q∈G,∃o,H1 q=some o):SR K M ⟨λq=>A.ab q\/q∈G,λq=>A.B q\/q∈G,A.s0⟩ r h H1 ε:=by
 obtain⟨F,O⟩:=S.ow;have l:∀p o,H p=some o->(A.B p\/p∈G)->A.B p:=λp o e z=>by
  rcases z with z|z
  .exact z
  .rw[nw p z]at e;cases e
 refine⟨S.len,λi w d e=>?_,S.sm.trans s,λp z=>?_,S.sl,F,⟨O.un,λi m w u e=>?_,O.emp,O.nd,O.ds,O.nw,λi p d k z=>?_,λp=>?_⟩⟩
 .obtain⟨v,g,f⟩:=S.sh i w d e;exact⟨v,g,Rep.mv s l w f⟩
 .rcases z with z|z
  .exact S.dm.same s p z
  .exact ex p z
 .obtain⟨v,g,f⟩:=O.val i m w u e;exact⟨v,g,Fp.mv s l m f⟩
 .rcases z with z|z
  .exact O.na i p d k z
  .obtain⟨o,e,_⟩:=O.has d k;rw[nw p z]at e;cases e
 .show(A.B p\/p∈G)↔_;rw[O.all p];constructor
  .rintro((z|z)|z)
   .exact .inl (.inl z)
   .exact .inr z
   .exact .inl (.inr z)
  .rintro((z|z)|z)
   .exact .inl (.inl z)
   .exact .inr z
   .exact .inl (.inr z)
theorem Q3{ta:WT}{ts:Ev->(List W->Prop)->Prop}{k n:Nat}{fv:Value}{sp:aZ}(F:cU X.prog X.w X.K X.mg X.base k fv n (NK X.K n m0 sp))(hr:cX k X.A)(hg:Gl X x)(hm:X.mg x=some fv)
 (hn:∀f P R,sp f P R->f.length=n)(hv:VE X M R m0 e ta)(ha:VA X M R es ts)(hdb:(x==("__debug__":Str))=false)(he:starEach (e::es) X.env=(false,eval e X.env)::starEach es X.env)(hpl:(backTo pos (starEach es X.env)).any (·.1)=false):
 VE X M R .s (.Call (.Name x p) (e::es) [] pos) (λε Q=>ta ε λx=>ts ε λf=>sp (x::f) (λr=>∃w y,r=.tup [w,y]/\Q w) R):=by
 rintro J s σ H Q I ⟨A,H0,ε,P,S,er,h,kk⟩;obtain⟨E,pE,hE,hR⟩:=er;refine eI (eY I hg hm ?_ hdb);refine gd (h₀:=X.base) I.ok.mod.Jp F.keep (cy (ay hv ha he pos J s σ H (λvs N=>∃g l f d G,vs=l::d/\aq H N/\G.Nodup/\(∀q∈G,H q=none)/\Fp X.K (λq=>A.B q\/q∈G) N m0 g l G/\ai X.K (λq=>A.B q\/q∈G) N f d/\sp (g::f) (λr=>∃w y,r=.tup [w,y]/\P w) R) I ⟨A,H0,ε,_,S,⟨E,pE,hE,hR⟩,h,λg l H1 L Y r0=>?_⟩) λus Y ⟨vs,N,I2,r,g,l,f,d,G,ev,sm,nd,D,T,rs,qx⟩=>⟨I2.j8,?_⟩) he hpl
 .obtain⟨G,nd,D,T⟩:=r0;have S1:=S.more Y D λq hq=>let⟨o,e,_⟩:=Fp.mu m0 T q hq;⟨o,e⟩
  exact⟨_,H0,ε,_,S1,⟨E,pE,hE,hR⟩,L,λf d N hws O rs=>⟨g,l,f,d,G,rfl,Y.trans O,nd,D,Fp.mv O (λ_ _ _ z=>z) m0 T,rs,hws⟩⟩
 .subst ev;refine F.run hr pE I2 r ⟨A.B,G,g,l,f,d,_,R,rfl,by have:=hn _ _ _ qx;simpa using this,nd,λq hq=>S.dom.no (D q hq),S.dom.same sm,T,rs,qx,λw y v F' U L hc _ Wm _ Z=>?_,λC U rc hc=>hE C U rc λq u e=>?_⟩
  .obtain⟨w',y',e,L⟩:=L;cases e;have O:aq H U:=λq u e=>by
    rcases hc q u (sm q u e)with⟨_,z⟩|z
    .rw[D q z]at e;cases e
    .exact z
   exact kk w v U L O (.of (Z.less λq z=>.inl z))
  .have e2:=S.sm q u e;rcases hc q u (sm q u e2)with⟨_,z⟩|z
   .rw[D q z]at e2;cases e2
   .exact z
theorem Q4(h:PE X e (lG i)):PE X e (wj X.K i []):=PE.imp h<|by rintro g H Q ⟨v,u,f,d,q⟩;cases d;exact⟨v,f,q⟩
theorem xF.ix{K:Frag}{H:Hp}{n:Nat}:∀(π:List nX){v u:V},xF K H v (π++[.ix n]) u->∃p vs,xF K H v π (.ref p)/\(H p=some (.tup vs)\/H p=some (.lst vs))/\vs[n]?=some u
 |[],v,u,h=>by obtain⟨p,vs,x,e,k,g,f⟩:=h;cases f;exact⟨p,vs,by rw[e];rfl,k,g⟩
 |.ix m::π,v,u,h=>by obtain⟨p,vs,x,e,k,g,f⟩:=h;obtain⟨q,d,a,b,c⟩:=xF.ix π f;exact⟨q,d,⟨p,vs,x,e,k,g,a⟩,b,c⟩
 |.fl m _::π,v,u,h=>by obtain⟨p,vs,x,e,k,g,f⟩:=h;obtain⟨q,d,a,b,c⟩:=xF.ix π f;exact⟨q,d,⟨p,vs,x,e,k,g,a⟩,b,c⟩
theorem Wn(h:PE X a (wj X.K i π))(s:PE X b (tC (.int n)))(l:lI b):PE X (.Subscript a b pos) (wj X.K i (π++[.ix n])):=
 PE.imp (E7 zN h s l)<|by rintro z H Q ⟨v,u,y,w,g⟩;obtain⟨q,f,r,d,k⟩:=xF.ix π w;exact⟨v,.ref q,y,r,d.elim (λd=>.inr (.inl ⟨q,f,n,u,rfl,rfl,nH.of d,cA k,g⟩)) λd=>.inl ⟨q,f,n,u,rfl,rfl,gP.of d,cA k,g⟩⟩
theorem xF.fl{K:Frag}{H:Hp}{n:Nat}{f:Str}:∀(π:List nX){v u:V},xF K H v (π++[.fl n f]) u->∃p vs C k d,xF K H v π (.ref p)/\H p=some (.ins C k (List.zip d vs))/\Ae K C d/\d[n]?=some f/\vs[n]?=some u
 |[],v,u,h=>by obtain⟨p,vs,x,e,⟨C,k,d,s,_,y,w⟩,r,l⟩:=h;cases l;exact⟨p,vs,C,k,d,by rw[e];rfl,s,y,w,r⟩
 |.ix m::π,v,u,h=>by obtain⟨p,vs,x,e,s,r,l⟩:=h;obtain⟨q,g,C,k,d,a,b,c⟩:=xF.fl π l;exact⟨q,g,C,k,d,⟨p,vs,x,e,s,r,a⟩,b,c⟩
 |.fl m _::π,v,u,h=>by obtain⟨p,vs,x,e,s,r,l⟩:=h;obtain⟨q,g,C,k,d,a,b,c⟩:=xF.fl π l;exact⟨q,g,C,k,d,⟨p,vs,x,e,s,r,a⟩,b,c⟩
theorem Q5{f:Str}(h:PE X a (wj X.K i π))(s:attributeBase a f X.env (eval a X.env)=eval a X.env):PE X (.Attribute a f pos) (wj X.K i (π++[.fl n f])):=
 PE.imp (OO h s)<|by rintro E H Q ⟨v,u,A,z,l⟩;obtain⟨q,k,C,D,B,r,y,d,g,w⟩:=xF.fl π z;exact⟨v,.ref q,A,r,q,C,D,_,u,rfl,y,d.1,d.2.2.2 f (PQ g),Q2 (v:=u) (n:=n) B k n d.2.2.1 g w,l⟩
theorem Q6{f:Str}{g:List Str}{Q:List Md}{te:(Addr->Prop)->WT}(hps:∀{tv:TE},PE X e tv->PS X st (U0 X.K (lG i) tv f))(hi:(i,.o g Q)∈M)(hf:g[n]?=some f)(hm:Q[n]?=some .s)(he:∀R,VE X M R .s e (te R)):
 VS X M m st (λd ε=>te d.ex ε λw=>match look ε i with|some (.obj C g u)=>n<u.length/\d.nx (ε.set i (some (.obj C g (u.set n w))))|_=>False):=by
 rintro E s σ H D I ⟨A,H0,ε,d,S,er,hz,h,k⟩;refine hps (he d.ex) E s σ H D I ⟨A,H0,ε,_,S,er,h,λw v H1 l s1 r=>?_⟩
 try dsimp only at l
 cases T:look ε i with
 |none=>rw[T]at l;exact l.elim
 |some w1=>
  rw[T]at l;cases w1 with
  |obj C fs' u=>
   obtain⟨hn,l⟩:=l;have S1:=S.same s1;obtain⟨F,O⟩:=S1.ow;obtain⟨v0,L,fp⟩:=O.val i _ _ hi T;obtain⟨C',P,mh,q,y,F',e1,rfl,Y,U,h2,N,h3⟩:=fp;cases e1;have r:=r.bO;have hB:A.B q:=(O.all q).mpr (.inr ⟨i,⟨_,hi⟩,by rw[Y];exact Dx⟩);obtain⟨w0,Z⟩:∃w0,u[n]?=some w0:=⟨_,B1 hn⟩;obtain⟨v1,F1,G,F2,q1,e4,q3,q4⟩:=fE.at Q h3 hm Z;obtain⟨rfl,_⟩:=q3;have cB:vV A.B H1 (upd H1 q (.ins C P (g.zip (y.set n v)))):=.put U rfl hB;have Zl:q∉F':=by have:=O.nd i ⟨_,hi⟩;rw[Y]at this;exact(cx.mp this).1
   have fp':fE X.K A.B (upd H1 q (.ins C P (g.zip (y.set n v)))) Q (u.set n w) (y.set n v) F':=by
    rw[e4];refine q4 _ A.B w v [] ?_ (λp o e=>?_) (λ_ _ _ z=>z)
    .exact⟨rfl,Rep.chg cB (λ_ _ _ z=>z) w r⟩
    .by_cases J:p=q
     .subst J;rw[U]at e;cases e;refine .inl ⟨rfl,hB,λz=>Zl ?_⟩;rw[e4];rcases Ha.mp z with z|z<;>simp[z]
     .exact .inr (by rw[ak J];exact e)
   refine⟨_,L,q,C,P,_,rfl,U,N.1,N.2.2.2 f (PQ hf),?_,?_⟩
   .rw[List.length_zip,h2,Nat.min_self];exact N.2.1
   .rw[Lo g y n N.2.2.1 hf h2];obtain⟨A',a1,a2,_,_,_,S'⟩:=O.chg (F':=F i) (H1:=upd H1 q (.ins C P (g.zip (y.set n v)))) (w':=.obj C g (u.set n w)) S1 hi T L (λp o e=>by
     by_cases J:p=q
     .subst J;rw[U]at e;cases e;exact .inl ⟨rfl,by rw[Y];exact Dx⟩
     .exact .inr (by rw[ak J];exact e)) (O.nd i ⟨_,hi⟩) (λp hp=>.inl hp) (Fp.mv (aq.refl _) (λp _ _ z=>by
      rcases z with z|z
      .exact z.1
      .exact(O.all p).mpr (.inr ⟨i,⟨_,hi⟩,z⟩)) _ (by exact⟨C,P,u.set n w,q,y.set n v,F',rfl,rfl,Y,au,by rw[U2];exact h2,N,fp'⟩))
    exact k.nx A' _ _ _ a1 a2 l S'
  |_=>exact l.elim
end
end VL
namespace L2
open PySem PySem.Spec PyProof.Rows
section
variable{pr:Program}{wo:World}{B:Around}{EE:Value->Shared->Prop}
end
section
variable{X:Cx}{pos:Pos}
end
end L2
namespace VL
open PySem PySem.Spec
open PyProof.Rows hiding St
open L2
section
variable{K:Frag}{M M':Ms}{A:Fz}{H0 H H1:Hp}{σ:St}{ε:Ev}
end
section
variable{X:Cx}{M M':Ms}{m:Md}{st:Stmt}{te:(Addr->Prop)->WT}
end
section
variable{K:Frag}{B B':Addr->Prop}{H:Hp}
mutual
theorem Rep.GJ:∀(w:W){v:V},GJ w=true->Rep K B H w v->Rep K B' H w v
 |.bu,_,_,r=>by dsimp only[Rep]at r⊢;exact r
 |.bl _,_,_,r=>by dsimp only[Rep]at r⊢;exact r
 |.int _,_,_,r=>by dsimp only[Rep]at r⊢;exact r
 |.str _,_,_,r=>by dsimp only[Rep]at r⊢;exact r
 |.tup l,v,h,r=>by obtain⟨p,vs,e,b,a⟩:=r;exact⟨p,vs,e,b,ai.GJ l h a⟩
 |.ty _,_,h,_=>ff h
 |.cls _,_,h,_=>ff h
 |.lst _,_,h,_=>ff h
 |.obj _ _ _,_,h,_=>ff h
 |.gB _,_,h,_=>ff h
theorem ai.GJ:∀(l:List W){vs:List V},DS l=true->ai K B H l vs->ai K B' H l vs
 |[],_,_,r=>by dsimp only[ai]at r⊢;exact r
 |w::l,vs,h,r=>by obtain⟨v,us,rfl,b,a⟩:=r.cons_inv;rw[DS,AN]at h;exact .cons (Rep.GJ w h.1 b) (ai.GJ l h.2 a)
end
mutual
theorem Fp.flat:∀(m:Md){w:W}{v:V}{F:List Addr},Fp K B H m w v F->flat m w=true->(∀p∈F,¬B' p)->Rep K B' H w v
 |.s,w,v,F,h,f,_=>by dsimp only[Fp]at h;dsimp only[VL.flat]at f;exact Rep.GJ w f h.2
 |.f,w,v,F,h,f,n=>by obtain⟨c,p,vs,rfl,rfl,rfl,b,a⟩:=h;dsimp only[VL.flat]at f;exact⟨p,vs,rfl,n p (Do.mpr rfl),.inl b,ai.GJ c f a⟩
 |.t d,w,v,F,h,f,n=>by obtain⟨c,p,vs,rfl,rfl,b,a⟩:=h;dsimp only[VL.flat]at f;exact⟨p,vs,rfl,b,fE.flat d a f n⟩
 |.o _ _,w,v,F,h,f,n=>ff f
 |.io _,w,v,F,h,f,n=>ff f
 |.ls _,w,v,F,h,f,n=>ff f
theorem fE.flat:∀(b:List Md){a:List W}{vs:List V}{F:List Addr},fE K B H b a vs F->B8 b a=true->(∀p∈F,¬B' p)->ai K B' H a vs
 |[],a,vs,F,h,f,_=>by obtain⟨rfl,rfl,_⟩:=h;exact .nil
 |m::b,a,vs,F,h,f,n=>by obtain⟨w,i,v,d,k,j,rfl,rfl,rfl,g,e⟩:=h;rw[B8,AN]at f;exact .cons (Fp.flat m g f.1 λp c=>n p (X2 _ c)) (fE.flat b e f.2 λp c=>n p (IH _ c))
end
end
section
variable{X:Cx}{M M':Ms}{m m0:Md}{st:Stmt}{ti:(Addr->Prop)->WT}{tc te:WT}{one:Bool}{ts:List Nat}{i n:Nat}
end
section
variable{K:Frag}{M:Ms}{A:Fz}{H0 H:Hp}{σ:St}{ε:Ev}
end
section
variable{X:Cx}{M:Ms}{m:Md}{st:Stmt}{tg it e o:Expr}{j a b:Nat}{pos q:Pos}{x0:W}{te:WT}
end
def Lq(H:Hp)(D:Addr):Hp:=λp=>if p=D then none else H p
theorem uM(H:Hp)(D:Addr):Lq H D D=none:=Bi rfl
theorem jA{H:Hp}{D p:Addr}(h:p≠D):Lq H D p=H p:=BM h
theorem GZ(H:Hp)(D:Addr):aq (Lq H D) H:=λp o e=>by
 by_cases h:p=D
 .subst h;rw[uM]at e;cases e
 .rw[jA h]at e;exact e
theorem Lr(H:Hp)(D:Addr)(o:HO):Lq (upd H D o) D=Lq H D:=funext λp=>by
 by_cases h:p=D
 .subst h;rw[uM,uM]
 .rw[jA h,jA h,ak h]
theorem Ls{H:Hp}{D:Addr}(h:H D=none)(o:HO):Lq (upd H D o) D=H:=funext λp=>by
 by_cases e:p=D
 .subst e;rw[uM,h]
 .rw[jA e,ak e]
section
variable{K:Frag}{M M':Ms}{A:Fz}{H0 Hs H H1:Hp}{σ:St}{ε:Ev}
theorem SR.rb2(S:SR K M A H0 σ H ε):∃Hs,SR K M A Hs σ H ε/\aq H0 Hs/\∀p,A.ab p->Hs p=H p:=by
 classical
 obtain⟨F,O⟩:=S.ow;refine⟨λp=>if(∃i,aO M i/\p∈F i)then none else H p,⟨S.len,S.sh,λp o z=>?_,S.dm,S.sl,F,⟨O.un,O.val,O.emp,O.nd,O.ds,λi p a c=>Bi ⟨i,a,c⟩,O.na,O.all⟩⟩,λb o z=>?_,λp c=>?_⟩
 .split at z
  .cases z
  .exact z
 .refine(BM ?_).trans (S.sm _ _ z);rintro⟨i,a,e⟩;rw[O.nw i b a e]at z;cases z
 .refine BM ?_;rintro⟨i,a,e⟩;exact O.na i p a e c
theorem SR.Lu{r:St}{n:Nat}{D:Addr}{o:HO}{ab:Addr->Prop}{s0:Option V}(S:SR K (up M n) A Hs (r++σ) H ε)(P:r.length=n)(d:∀p,A.ab p↔ab p\/p=D)(L:¬ab D)(E:H D=some o)(mo:B4 o=true)(I:aq H0 Hs)(R:H0 D=none)(hz:∀v,s0=some v->σ[0]?=some (some v)/\aO M 0):
 ∃u,u.ab=ab/\u.s0=s0/\SR K M u H0 σ (Lq H D) (ε.drop n):=by
 obtain⟨F,O⟩:=S.ow;have x:∀{i:Nat}{w:W},look (ε.drop n) i=some w->look ε (i+n)=some w:=λ{i w} e=>by rw[aW,c9]at e;rw[aW,mM];exact e
 have t:∀{i:Nat},look (ε.drop n) i=none->look ε (i+n)=none:=λ{i} e=>by
  cases h:look ε (i+n)with
  |none=>rfl
  |some w=>
   have:look (ε.drop n) i=some w:=by rw[aW,c9,mM,<-aW];exact h
   rw[e]at this;cases this
 have J:∀i:Nat,(r++σ)[i+n]?=σ[i]?:=λi=>by rw[Jn (by lia),P,HI]
 have f:∀{i:Nat},aO M i->aO (up M n) (i+n):=λ{i} h=>dg.mpr ⟨by lia,by rw[HI];exact h⟩;have l:A.B D:=(O.all D).mpr (.inl ((d D).mpr (.inr rfl)));have C:∀p o,H p=some o->(ab p\/∃i,aO M i/\p∈F (i+n))->A.B p:=λp _ _ z=>(O.all p).mpr (z.imp (λz=>(d p).mpr (.inl z)) (by rintro⟨i,c,g⟩;exact⟨i+n,f c,g⟩));have T:vV A.B H (Lq H D):=λp q e=>by
  by_cases h:p=D
  .subst h;rw[E]at e;cases e;exact .inl ⟨mo,l⟩
  .exact .inr ((jA h).trans e)
 refine⟨⟨ab,λp=>ab p\/∃i,aO M i/\p∈F (i+n),s0⟩,rfl,rfl,?_,λi w c e=>?_,λb q e=>?_,λp z=>?_,hz,λi=>F (i+n),⟨λi m N a b=>?_,λi m w y e=>?_,λi c e=>O.emp _ (f c) (t e),λi c=>O.nd _ (f c),λi j p c Q a b=>?_,λi p c g=>I.free (O.nw _ p (f c) g),λi p c g z=>O.na _ p (f c) g ((d p).mpr (.inl z)),λp=>f6⟩⟩
 .have:=S.len;rw[GM]at this;rw[Vh];lia
 .obtain⟨v,k,s⟩:=S.sh (i+n) w (λz=>c (by have:=(dg.mp z).2;rw[HI]at this;exact this)) (x e);rw[J]at k;exact⟨v,k,Rep.chg T C w s⟩
 .have:b≠D:=by rintro rfl;rw[R]at e;cases e
  exact(jA this).trans (S.sm _ _ (I _ _ e))
 .obtain⟨q,e⟩:=S.dm p ((d p).mpr (.inl z));exact⟨q,(jA (by rintro rfl;exact L z)).trans e⟩
 .exact O.un (i+n) m N (iP.mpr ⟨by lia,by rw[HI];exact a⟩) (iP.mpr ⟨by lia,by rw[HI];exact b⟩)
 .obtain⟨v,k,s⟩:=O.val (i+n) m w (iP.mpr ⟨by lia,by rw[HI];exact y⟩) (x e);rw[J]at k;refine⟨v,k,Fp.chg (G:=(·∈F (i+n))) (λp q e=>?_) C m (λp g=>g) s⟩;by_cases h:p=D
  .subst h;rw[E]at e;cases e;exact .inl ⟨mo,l,λz=>O.na (i+n) p (f ⟨m,y⟩) z ((d p).mpr (.inr rfl))⟩
  .exact .inr ((jA h).trans e)
 .have:=O.ds (i+n) (j+n) p (f c) (f Q) a b;lia
theorem Lv{B b:Addr->Prop}{H H':Hp}{w:W}{v:V}(a:yr w=true)(r:Rep K B H w v):Rep K b H' w v:=by
 cases w with
 |bu=>exact r
 |bl _=>exact r
 |int _=>exact r
 |str _=>exact r
 |_=>exact ff a
end
noncomputable def tP0(K:Frag)(M:Ms)(t:Am):TE:=λd H Q=>∃A f e P,SR K M A f d H e/\t e P/\∀c w v b a,P w a->c.ab=A.ab->SR K M c f d b a->Rep K c.B b w v->Q v b
section
variable{X:Cx}{M M':Ms}{m:Md}{st:Stmt}{ti:(Addr->Prop)->WT}{te:Am}{i:Nat}
theorem Q7(hps:∀R,PS X st (nJ (Bu 1 (Ez X M' R false (ti R)) (gT X.K true [0]) JY (tP0 X.K (up M' 1) te)) (fS i)))(hM:∀x,x∈M↔x=(i,.f)\/x∈M')(hi:¬aO M' i)(hio:dO m=true->i≠0):
 VS X M m st (λd ε=>ti d.ex ε λz=>items z λc=>oS (λw ε K=>te (some w::ε) λy a=>yr y=true/\K y (a.drop 1)) c [] ε λl a=>d.nx (a.set i (some (.lst l)))):=by
 rintro Z s N H D I ⟨A,H0,ε,d,S,er,hz,h,k⟩;have h0:∀v,A.s0=some v->A.s0=some v/\aO M' 0:=λv e=>by
  refine⟨e,?_⟩;have ho:dO m=true:=by rw[<-hz,e];rfl
  obtain⟨m1,h1⟩:=(S.sl v e).2;rcases(hM _).mp h1 with z|z
  .cases z;exact(hio ho rfl).elim
  .exact⟨m1,z⟩
 obtain⟨A1,ea,eb,hb,S'⟩:=S.sub (M':=M') (λx hx=>(hM x).mpr (.inr hx)) A.s0 h0;refine hps d.ex Z s N H D I ⟨A1,H0,ε,_,S',er,h,λz hz'=>?_⟩;obtain⟨c,ez,hw⟩:=n6.mp hz';refine⟨c,ez,λJ H1 s1 it t hD=>?_⟩;have S1:=S'.same s1;obtain⟨Hs,Ss,b0,b1,b2⟩:=S1.rb;have low:Cj X.K false A1.ab Hs J c:=it.low (λp o e=>b2 p o e) λp z=>S'.sub' p z;have iw:=low.iw;have hsD:Hs t=none:=b1.free hD;generalize hf':(λ(w:W)(ε:Ev)(K:W->Ev->Prop)=>te (some w::ε) λy a=>yr y=true/\K y (a.drop 1))=f at hw;refine⟨λj n u=>∃b E T dS,n=c.length -j/\j<=c.length/\T.ab=A.ab/\T.s0=A.s0/\SR X.K M' T Hs N (Lq u t) dS/\u t=some (.lst E)/\(∀B H,ai X.K B H b E)/\oS f (c.drop j) b dS λl a=>d.nx (a.set i (some (.lst l))),
  ⟨c.length,[],[],A1,ε,rfl,Iy _,ea,eb,by rw[Ls hD];exact Ss,au,λ_ _=>.nil,hw⟩,?_⟩
 rintro j n u ⟨b,E,T,dS,rfl,hj,Wo,Zq,S2,QB,ra,hm⟩;have sr:=GZ u t;have G:aq Hs u:=S2.sm.trans sr;by_cases C:j<c.length
 .refine .inr ⟨iw.go j u G C,λx H3 y U L=>?_⟩;have hwi:c[j]?=some c[j]:=B1 C;rw[d4 C,oS,<-hf']at hm;rw[hf']at hm;generalize c[j]=w at*;obtain⟨s3,hrep⟩:=iw.yl j u x H3 w G hwi y;have XF:=s3 _ _ QB;have S3:=S2.block L (sr.trans s3) (uM u t) XF;obtain⟨Hs3,S3',b3,b4⟩:=S3.rb2;have Zr:Hs3 t=some (.lst E):=(b4 t (.inr rfl)).trans XF;have hr:Rep X.K (λq=>T.B q\/q=t) H3 w x:=hrep _ λp o e z=>by
   rcases z with z|rfl
   .obtain⟨F,O⟩:=S2.ow;rcases(O.all p).mp z with z|⟨q,hq,e2⟩
    .rw[Wo,<-ea]at z;exact z
    .rw[O.nw q p hq e2]at e;cases e
   .rw[hsD]at e;cases e
  have hM0:∀q∈[0],¬aO (up M' 1) q:=λq hq z=>by have:=(dg.mp z).1;rw[Do.mp hq]at this;lia
  refine tgt (P:=λa=>te a λy a=>yr y=true/\b.length<sizeLine/\oS f (c.drop (j+1)) (b++[y]) (a.drop 1) λl a=>d.nx (a.set i (some (.lst l)))) hM0 S3' hr hm λY a hp S4=>?_;have e4:cY (U++N) [0] Y=cY U [0] Y++N:=rJ [0] Y U N L (λq hq=>by rw[Do.mp hq];decide);rw[e4]at S4⊢;have hv1:(cY U [0] Y).length=1:=by rw[rH];exact L
  refine⟨cY U [0] Y,hv1,rfl,?_⟩;dsimp only[JY];rw[Bi rfl];refine⟨_,Hs3,a,_,S4,hp,λA6 y' vy H6 ε6 hy g S6 r=>?_⟩;obtain⟨hsc,hlen,hy⟩:=hy;have Wf:=S6.sm _ _ Zr;obtain⟨A7,ea7,eb7,S7⟩:=S6.Lu (ab:=A.ab) (s0:=A.s0) hv1 (λp=>by rw[g];show(T.ab p\/p=t)↔_;rw[Wo]) (λz=>by obtain⟨o,e⟩:=S.dm t z;rw[s1.free hD]at e;cases e) Wf rfl b3 hsD (λv e=>⟨(S.sl v e).1,(h0 v e).2⟩);have rl:=ra (λ_=>False) H6;refine⟨E,Wf,by rw[rl.len];exact hlen,c.length -(j+1),by lia,b++[y'],E++[vy],A7,ε6.drop 1,rfl,C,ea7,eb7,by rw[Lr];exact S7,au,λB H=>(ra B H).app (.cons (Lv hsc r) .nil),hy⟩
 .have e:j=c.length:=by lia
  subst e;refine .inl ⟨iw.st _ u G rfl,?_⟩;rw[pd,oS]at hm;obtain⟨A8,ea8,eb8,_,Q⟩:=S2.own (v:=.ref t) (w:=.lst b) hM hi sr ⟨[t],by simp,by simpa using uM u t,b,t,E,rfl,rfl,rfl,QB,ra _ _⟩;have up:SR X.K M A8 H0 (N.set i (some (.ref t))) u (dS.set i (some (.lst b))):=by obtain⟨F,O⟩:=Q.ow;exact⟨Q.len,Q.sh,b0.trans Q.sm,Q.dm,Q.sl,F,⟨O.un,O.val,O.emp,O.nd,O.ds,λi p hi e=>b0.free (O.nw i p hi e),O.na,O.all⟩⟩
  exact k.nx A8 _ _ u (ea8.trans Wo) (eb8.trans Zq) hm up
theorem Q8{R:Addr->Prop}{f:List Expr}{pos:Pos}{tl:NL}(n:Lg X M R f tl):VP X M R (.List f pos) (λε Q=>tl ε λb a=>b.length<=sizeLine/\Q (.lst b) a):=PE.imp (kK n)<|by rintro s H Q ⟨A,q,ε,P,S,o,h,k⟩;refine⟨A,q,ε,_,S,o,h,λr b l t a d g j c=>⟨by rw[ai.len c];exact d.1,λp e=>?_⟩⟩;have sm:=aK e (.lst l);exact k r _ _ _ a d.2 (g.trans (.same sm)) (j.same sm) ((dI.fresh (aq.refl _) e c).rep j.dom)
theorem Q9{R:Addr->Prop}{e:List Expr}{pos:Pos}{f:Nat}{tl:NL}(n:Lg X M R e tl):VP X M R (.Tuple e f pos) (λε Q=>tl ε λb a=>b.length<=sizeLine/\Q (.tup b) a):=PE.imp (zJ n)<|by rintro t H Q ⟨A,r,ε,P,S,o,h,k⟩;refine⟨A,r,ε,_,S,o,h,λs b j u a d g q c=>⟨by rw[ai.len c];exact d.1,λp l=>?_⟩⟩;have sm:=aK l (.tup j);exact k s _ _ _ a d.2 (g.trans (.same sm)) (q.same sm) (DV au (ai.same sm c))
theorem Ra{A:Fz}{j H:Hp}{b:St}{ε:Ev}{d:Md}(S:SR X.K M A j b H ε)(hz:A.s0.isSome=dO m)(g:∀x,x∈M↔x=(i,d)\/x∈M')(a:dO m=true->i≠0):∀v,A.s0=some v->A.s0=some v/\aO M' 0:=λv e=>by
 refine⟨e,?_⟩;have f:dO m=true:=by rw[<-hz,e];rfl
 obtain⟨c,h⟩:=(S.sl v e).2;rcases(g _).mp h with z|z
 .cases z;exact(a f rfl).elim
 .exact⟨c,z⟩
theorem Rb{e:Expr}{tl:(Addr->Prop)->NL}(j:∀{r:TE},PE X e r->PS X st (nJ r (fS i)))(n:∀x,x∈M↔x=(i,.f)\/x∈M')(hi:¬aO M' i)(l:dO m=true->i≠0)(z:∀R,PE X e (U3 (tPA X M' R (tl R)))):
 VS X M m st (λd ε=>tl d.ex ε λc a=>c.length<=sizeLine/\d.nx (a.set i (some (.lst c)))):=by
 rintro b s w H D I ⟨A,K,ε,d,S,B,hz,h,k⟩;obtain⟨N,E,C,P,J⟩:=S.sub (M':=M') (λx y=>(n x).mpr (.inr y)) A.s0 (Ra S hz n l);refine j (z d.ex) b s w H D I ⟨N,K,ε,_,J,B,h,λT c O Q a u g G t=>⟨by rw[ai.len t];exact u.1,λp v=>?_⟩⟩;obtain⟨L,q,o,_,F⟩:=G.own n hi (aK v _) (dI.fresh (aq.refl _) v t);exact k.nx L _ _ _ (q.trans (g.ab.trans E)) (o.trans (g.s0.trans C)) u.2 F
end
theorem a2{a b:Bool}(z:(a&&b)=true):a=true/\b=true:=by cases a<;>cases b<;>first|exact⟨rfl,rfl⟩|exact ff z
theorem a3{a b c:Bool}(z:((a&&b)&&c)=true):(a=true/\b=true)/\c=true:=⟨a2 (a2 z).1,(a2 z).2⟩
structure SE where
 N:List Str
 nk:List (Str×NameKind)
 M:Ms
 fn:List Str
 gn:List Str
 zn:List Str
 md:List Md
 mt:List (Nat×Nat)
def fF:List Md->Nat->Md
 |[],_=>.s
 |x::_,0=>x
 |_::l,n+1=>fF l n
def T8:Md->Bool
 |.f=>true
 |_=>false
def Lw:Md->Bool
 |.s=>true
 |_=>false
def yx(M:Ms)(i:Nat):Bool:=(M.lookup i).isSome
theorem mG{M:Ms}{i:Nat}(h:yx M i=false):¬aO M i:=by
 rintro⟨m,d⟩;unfold yx at h;have:∀M:Ms,(i,m)∈M->(M.lookup i).isSome=true:=λM=>by
  induction M with
  |nil=>intro z;cases z
  |cons x M c=>
   intro z;obtain⟨a,b⟩:=x;rw[Eu];cases e:i==a with
   |true=>rfl
   |false=>
    rcases Fh.mp z with z|z
    .cases z;rw[iq]at e;cases e
    .exact c z
 rw[this M d]at h;cases h
theorem jB{M:Ms}{i:Nat}{m:Md}(h:M.lookup i=some m):(i,m)∈M:=by
 induction M with
 |nil=>exact nn h
 |cons x M c=>
  obtain⟨a,b⟩:=x;rw[Eu]at h;cases e:i==a with
  |true=>rw[e]at h;cases h;cases NA.mp e;exact Dx
  |false=>rw[e]at h;exact DL _ (c h)
def yy(M:Ms)(i:Nat):Bool:=match M.lookup i with
 |none=>true
 |some m=>T8 m
theorem yz{M:Ms}{i:Nat}(h:yy M i=true):aO M i->(i,.f)∈M:=λa=>by
 unfold yy at h;cases e:M.lookup i with
 |none=>exact(mG (by unfold yx;rw[e];rfl) a).elim
 |some m=>rw[e]at h;cases m<;>first|exact jB e|exact ff h
def yC(M:Ms)(i:Nat):Bool:=match M.lookup i with
 |none=>false
 |some m=>T8 m
theorem jY{M:Ms}{i:Nat}(h:yC M i=true):(i,.f)∈M:=by
 unfold yC at h;cases e:M.lookup i with
 |none=>rw[e]at h;exact ff h
 |some m=>rw[e]at h;cases m<;>first|exact jB e|exact ff h
noncomputable def SE.sc(S:SE):Scope:={kind:=.function,names:=S.nk,isGenerator:=false,isCoroutine:=false}
noncomputable def Wq(S:SE)(x:Str):Bool:=S.nk.lookup x==some .local||(S.nk.lookup x==some .cell||S.nk.lookup x==some .free)
noncomputable def okN(x:Str):Bool:=!(x==("__debug__":Str))&&!(x==("__classdict__":Str))&&!(x==("__name__":Str))
def mH(S:SE)(x:Str):Bool:=(S.nk.lookup x==some .globalImplicit)&&okN x
def tys:List String:=["int","bool","tuple","list","str","dict"]
def wC:Expr->Bool
 |.Call _ _ _ _=>false
 |_=>true
def mC(f:Const->Bool):Expr->Bool
 |.Constant c _ _=>f c
 |_=>false
def Zs(f:Str->Pos->Bool):Expr->Bool
 |.Name x p=>f x p
 |_=>false
def uN(f:Str->Bool):Expr->Bool:=Zs λx _=>f x
def mJ(S:SE)(i:Nat):Expr->Bool:=uN λx=>S.N[i]?==some x&&Wq S x&&okN x
def o1{α:Type}(f:α->Bool):List α->Bool
 |[a]=>f a
 |_=>false
noncomputable def Wr(f:Expr->List CmpOp->List Expr->Bool):Expr->Bool
 |.Compare l b a _=>f l b a
 |_=>false
noncomputable def uO(f:Expr->List Expr->Bool->Pos->Bool):Expr->Bool
 |.Call g b a p=>f g b a.isEmpty p
 |_=>false
def DZ(f:Expr->Str->Pos->Bool):Expr->Bool
 |.Attribute o m p=>f o m p
 |_=>false
noncomputable def oSl(f:Option Expr->Option Expr->Option Expr->Bool):Expr->Bool
 |.Slice l h t _=>f l h t
 |_=>false
noncomputable def oLC(f:Expr->List Comprehension->Scope->Bool):Expr->Bool
 |.ListComp x a s _=>f x a s
 |_=>false
noncomputable def G3(f:Operator->Expr->Expr->Bool):Expr->Bool
 |.BinOp l o r _=>f o l r
 |_=>false
def Zt(f:UnaryOp->Expr->Bool):Expr->Bool
 |.UnaryOp o x _=>f o x
 |_=>false
noncomputable def G4(f:CmpOp->Expr->Expr->Bool):Expr->Bool:=Wr λl b a=>o1 (λo=>o1 (λr=>f o l r) a) b
def o2{α:Type}(f:α->α->Bool):List α->Bool
 |a::l=>o1 (f a) l
 |_=>false
def o3{α:Type}(f:α->α->α->Bool):List α->Bool
 |a::l=>o2 (f a) l
 |_=>false
def Rc(f:BoolOp->List Expr->Bool):Expr->Bool
 |.BoolOp o a _=>f o a
 |_=>false
noncomputable def mIf(f:Expr->Expr->Expr->Bool):Expr->Bool
 |.IfExp t x y _=>f t x y
 |_=>false
def An(f:List Expr->Bool):Expr->Bool
 |.Tuple a _ _=>f a
 |_=>false
def Lx(f:List Expr->Bool):Expr->Bool
 |.List a _=>f a
 |_=>false
def D3(f:Expr->Expr->Bool):Expr->Bool
 |.Subscript v s _=>f v s
 |_=>false
noncomputable def mSl(f:Expr->Option Expr->Option Expr->Bool):Expr->Bool:=D3 λv s=>oSl (λl h t=>t.isNone&&f v l h) s
def ku(f:Str->List Expr->Bool):Expr->Bool:=uO λg a k _=>k&&uN (λx=>f x a) g
noncomputable def Ao(f:Expr->Str->Pos->Pos->Bool):Expr->Bool:=uO λg b k c=>k&&b.isEmpty&&DZ (λo m a=>f o m a c) g
noncomputable def G5(f:Expr->Expr->Expr->List Expr->Scope->Bool):Expr->Bool:=oLC λx a s=>o1 (λg=>decide (g.is_async=0)&&f x g.target g.iter g.ifs s) a
theorem gD{f:Const->Bool}{e:Expr}(h:mC f e=true):∃c k p,e=.Constant c k p/\f c=true:=by cases e<;>first|exact⟨_,_,_,rfl,h⟩|exact ff h
theorem Cm{f:Str->Pos->Bool}{e:Expr}(h:Zs f e=true):∃x p,e=.Name x p/\f x p=true:=by cases e<;>first|exact⟨_,_,rfl,h⟩|exact ff h
theorem G6{f:Expr->List CmpOp->List Expr->Bool}{e:Expr}(h:Wr f e=true):∃l b a p,e=.Compare l b a p/\f l b a=true:=by cases e<;>first|exact⟨_,_,_,_,rfl,h⟩|exact ff h
theorem gZ{f:Expr->List Expr->Bool->Pos->Bool}{e:Expr}(h:uO f e=true):∃g b a p,e=.Call g b a p/\f g b a.isEmpty p=true:=by cases e<;>first|exact⟨_,_,_,_,rfl,h⟩|exact ff h
theorem g5{f:Expr->Str->Pos->Bool}{e:Expr}(h:DZ f e=true):∃o m p,e=.Attribute o m p/\f o m p=true:=by cases e<;>first|exact⟨_,_,_,rfl,h⟩|exact ff h
theorem Ly{f:Option Expr->Option Expr->Option Expr->Bool}{e:Expr}(h:oSl f e=true):∃l r t p,e=.Slice l r t p/\f l r t=true:=by cases e<;>first|exact⟨_,_,_,_,rfl,h⟩|exact ff h
theorem Lz{f:Expr->List Comprehension->Scope->Bool}{e:Expr}(h:oLC f e=true):∃x a s p,e=.ListComp x a s p/\f x a s=true:=by cases e<;>first|exact⟨_,_,_,_,rfl,h⟩|exact ff h
theorem dW{α:Type}{f:α->Bool}{l:List α}(h:o1 f l=true):∃a,l=[a]/\f a=true:=by rcases l with _|⟨a,_|_⟩<;>first|exact⟨_,rfl,h⟩|exact ff h
theorem dG{f:Str->Bool}{e:Expr}(h:uN f e=true):∃x p,e=.Name x p/\f x=true:=Cm h
theorem n8{f:Operator->Expr->Expr->Bool}{e:Expr}(h:G3 f e=true):∃l o r p,e=.BinOp l o r p/\f o l r=true:=by cases e<;>first|exact⟨_,_,_,_,rfl,h⟩|exact ff h
theorem pZ{f:UnaryOp->Expr->Bool}{e:Expr}(h:Zt f e=true):∃o x p,e=.UnaryOp o x p/\f o x=true:=by cases e<;>first|exact⟨_,_,_,rfl,h⟩|exact ff h
theorem n9{f:CmpOp->Expr->Expr->Bool}{e:Expr}(h:G4 f e=true):∃l o r p,e=.Compare l [o] [r] p/\f o l r=true:=by obtain⟨l,g,d,p,rfl,c⟩:=G6 h;obtain⟨o,rfl,b⟩:=dW c;obtain⟨r,rfl,a⟩:=dW b;exact⟨_,_,_,_,rfl,a⟩
theorem jZ{f:BoolOp->List Expr->Bool}{e:Expr}(h:Rc f e=true):∃o a p,e=.BoolOp o a p/\f o a=true:=by cases e<;>first|exact⟨_,_,_,rfl,h⟩|exact ff h
theorem LA{f:Expr->Expr->Expr->Bool}{e:Expr}(h:mIf f e=true):∃t x y p,e=.IfExp t x y p/\f t x y=true:=by cases e<;>first|exact⟨_,_,_,_,rfl,h⟩|exact ff h
theorem d8{f:List Expr->Bool}{e:Expr}(h:An f e=true):∃a k p,e=.Tuple a k p/\f a=true:=by cases e<;>first|exact⟨_,_,_,rfl,h⟩|exact ff h
theorem mK{f:List Expr->Bool}{e:Expr}(h:Lx f e=true):∃a p,e=.List a p/\f a=true:=by cases e<;>first|exact⟨_,_,rfl,h⟩|exact ff h
theorem fY{f:Expr->Expr->Bool}{e:Expr}(h:D3 f e=true):∃v s p,e=.Subscript v s p/\f v s=true:=by cases e<;>first|exact⟨_,_,_,rfl,h⟩|exact ff h
theorem Co{f:Expr->Option Expr->Option Expr->Bool}{e:Expr}(h:mSl f e=true):∃v l r q p,e=.Subscript v (.Slice l r none q) p/\f v l r=true:=by obtain⟨v,s,p,rfl,c⟩:=fY h;obtain⟨l,r,t,q,rfl,b⟩:=Ly c;obtain⟨k,a⟩:=a2 b;rw[Option.isNone_iff_eq_none.mp k];exact⟨_,_,_,_,_,rfl,a⟩
theorem aM{f:Str->List Expr->Bool}{e:Expr}(h:ku f e=true):∃x q a p,e=.Call (.Name x q) a [] p/\f x a=true:=by obtain⟨g,a,i,p,rfl,d⟩:=gZ h;obtain⟨k,c⟩:=a2 d;obtain⟨x,q,rfl,b⟩:=dG c;rw[Hn.mp k];exact⟨_,_,_,_,rfl,b⟩
theorem kQ{f:Expr->Str->Pos->Pos->Bool}{e:Expr}(h:Ao f e=true):∃o m a c,e=.Call (.Attribute o m a) [] [] c/\f o m a c=true:=by obtain⟨g,n,j,p,rfl,i⟩:=gZ h;obtain⟨⟨k,l⟩,d⟩:=a3 i;obtain⟨o,m,a,rfl,b⟩:=g5 d;rw[Hn.mp k,Hn.mp l];exact⟨_,_,_,_,rfl,b⟩
theorem oh{f:Expr->Expr->Expr->List Expr->Scope->Bool}{e:Expr}(h:G5 f e=true):∃d tg b c a p,e=.ListComp d [⟨tg,b,c,0⟩] a p/\f d tg b c a=true:=by obtain⟨x,m,s,p,rfl,j⟩:=Lz h;obtain⟨⟨tg,l,n,z⟩,rfl,i⟩:=dW j;obtain⟨k,g⟩:=a2 i;cases D1 k;exact⟨_,_,_,_,_,_,rfl,g⟩
def isI(n:Int):Const->Bool
 |.int j=>decide (j=n)
 |_=>false
noncomputable def yD(S:SE)(i:Nat):List nX->Expr->Bool
 |[],e=>mJ S i e
 |.fl _ x::π,e=>DZ (λa f _=>decide (f=x)&&wC a&&yD S i π a) e
 |.ix n::π,e=>D3 (λa k=>mC (isI n) k&&yD S i π a) e
noncomputable def oW(S:SE)(m:Md->Bool)(i:Nat)(π:List nX)(e:Expr):Bool:=!π.isEmpty&&yD S i π.reverse e&&(match S.M.lookup i with
 |some a=>(match j9 a π with
  |some k=>m k
  |none=>false)
 |none=>false)
noncomputable def fZ(S:SE):CE->Expr->Bool
 |.var i,e=>mJ S i e&&yy S.M i
 |.own i π,e=>oW S T8 i π e
 |_,_=>false
noncomputable def Zu:BI->Str
 |.len=>"len"
 |.abs=>"abs"
 |.max2=>"max"
 |.min2=>"min"
 |.sum=>"sum"
 |.all=>"all"
 |.any=>"any"
 |.list=>"list"
 |.Af=>"isinstance"
 |.T3=>"divmod"
def biA:BI->Nat->Bool
 |_,n=>0<n
noncomputable def D4:CE->Bool
 |.ite _ _ _=>false
 |.not a=>D4 a
 |.B6 _ a=>D4 a
 |.and b=>G7 b
 |.or b=>G7 b
 |_=>true
where G7:List CE->Bool
 |[]=>true
 |a::b=>D4 a&&G7 b
def Cp:Expr->Bool
 |.Slice _ _ _ _=>false
 |_=>true
def Aq:Expr->Bool
 |.Set _ _ _=>false
 |_=>true
noncomputable def G8:List Expr->Option (List Str)
 |[]=>some []
 |.Name x _::a=>(G8 a).map λl=>x::l
 |_::_=>none
noncomputable def T9:Expr->Option (Bool×List Str)
 |.Name x _=>some (true,[x])
 |.Tuple a _ _=>(G8 a).map λl=>(false,l)
 |_=>none
noncomputable def mask(a:List Str)(N:List Str):List Str:=N.map λy=>if a.contains y then y++("!":Str)else y
noncomputable def SE.comp(S:SE)(a:Scope)(b:List Str):SE:=
 {S with N:=b++mask b S.N,nk:=a.names.map λp=>(p.1,if p.2=.free then .cell else p.2),M:=up S.M b.length}
def SE.lend(S:SE)(a:List Nat):SE:={S with M:=S.M.filter (λx=>!a.contains x.1)}
noncomputable def brE:Expr->Bool
 |.Call (.Name _ _) (_::_) _ _=>true
 |.Compare _ _ _ _=>true
 |_=>false
def Ws:CE->Option String
 |.B5 n=>some n
 |_=>none
def yE:CE->Bool
 |.uK _=>true
 |_=>false
def Rf(n:Bool)(f:Expr->Bool):Option Expr->Bool
 |none=>n
 |some e=>!n&&f e
def NO:CE->Bool
 |.bl b=>b
 |_=>false
def Wt:BI->List CE->Bool
 |.Af,[_,c]=>(Ws c).isSome
 |.Af,_=>false
 |_,_=>true
def Zv(y:Bool)(f:Expr->Bool):List Expr->Bool
 |[]=>y
 |[e]=>f e
 |_=>false
noncomputable def oX(f:Expr->Bool)(g:List Expr->Bool):List Expr->Bool
 |e::a=>f e&&g a
 |[]=>false
def G9(f:Expr->Bool):List Expr->Bool:=o1 f
noncomputable def mO(S:SE)(g:List Nat)(one:Bool)(n:Nat)(f:Bool)(i:Expr->Bool)(j:SE->List Expr->Bool)(h:SE->Expr->Bool)(e tg b:Expr)(d:List Expr)(a:Scope):Bool:=
 match T9 tg with
 |some (o,c)=>(one==o)&&(n==c.length)&&(g==Bn n)&&dM a S.sc S.N (mask c S.N) c&&decide (c++mask c S.N).Nodup&&Aq b&&(!f||!one)&&i b&&j (S.comp a c) d&&h (S.comp a c) e
 |none=>false
noncomputable def iQ(c:Nat->Md):CE->Bool
 |.lst _=>true
 |.comp _ _ _ _ _ _=>true
 |.blt .list _=>true
 |.rev _=>true
 |.PZ _ _=>true
 |.sl _ _ _=>true
 |.bin .Add a b=>iQ c a||iQ c b
 |.bin .Mult a _=>iQ c a
 |.call f _=>match c f with
  |.f=>true
  |_=>false
 |.ite _ a b=>iQ c a&&iQ c b
 |_=>false
def mo(a:Nat->Md)(c:CE):Md:=if iQ a c=true then .f else .s
mutual
noncomputable def aJ(S:SE)(w:Bool):CE->Expr->Bool
 |.var i,e=>mJ S i e&&!yx S.M i
 |.int i,e=>mC (λc=>decide (c=.int i)) e
 |.bl b,e=>mC (λc=>decide (c=.bool b)) e
 |.str x,e=>mC (λc=>decide (c=.str x)) e
 |.bu,e=>mC (λc=>decide (c=.none)) e
 |.B5 n,e=>uN (λx=>decide (x=Str.ofString n)&&mH S x&&S.zn.contains x&&tys.contains n) e
 |.glob g,e=>uN (λx=>S.gn[g]?==some x&&mH S x) e
 |.bin op a b,e=>G3 (λo l r=>decide (op=o)&&(aJ S false a l||fZ S a l)&&(aJ S false b r||fZ S b r)) e
 |.neg a,e=>Zt (λo x=>decide (o=.USub)&&aJ S false a x) e
 |.not a,e=>Zt (λo x=>decide (o=.Not)&&aJ S false a x) e
 |.cmp op a b,e=>G4 (λo l r=>decide (op=o)&&!decide (op=.In)&&!decide (op=.NotIn)&&(aJ S false a l||fZ S a l)&&(aJ S false b r||fZ S b r)) e
 |.and j,e=>Rc (λo d=>decide (o=.And)&&!d.isEmpty&&gp S j d) e
 |.or j,e=>Rc (λo d=>decide (o=.Or)&&!d.isEmpty&&gp S j d) e
 |.ite c a b,e=>mIf (λt x y=>aJ S false c t&&D4 c&&aJ S false a x&&aJ S false b y) e
 |.tup j,e=>An (λd=>gp S j d) e
 |.lst j,e=>Lx (λd=>gp S j d) e
 |.ix a i,e=>D3 (λv s=>Cp s&&(aJ S false a v||fZ S a v)&&aJ S false i s) e
 |.sl a lo hi,e=>mSl (λv l h=>(aJ S false a v||fZ S a v)&&Rf (kr lo) (λx=>aJ S false lo x) l&&Rf (kr hi) (λx=>aJ S false hi x) h) e
 |.call f j,e=>ku (λx d=>S.fn[f]?==some x&&mH S x&&!d.isEmpty&&!dO (fF S.md f)&&!S.mt.any (·.1==f)&&gp S j d) e
 |.blt b j,e=>ku (λx d=>decide (x=Zu b)&&mH S x&&S.zn.contains x&&biA b d.length&&Wt b j&&oY S j d) e
 |.bits a,e=>Ao (λo m D C=>decide (m=("bit_length":Str))&&(D.endLine==C.line)&&wC o&&aJ S false a o) e
 |.comp B one n i c x,e=>G5 (λu tg k q p=>mO S B one n (yE i) (λk=>aJ S true i k||fZ S i k) (λA q=>Zv (NO c) (λf=>aJ A false c f&&D4 c) q) (λA u=>aJ A false x u) u tg k q p) e
 |.ny j,e=>ku (λx d=>w&&decide (x=("range":Str))&&mH S x&&S.zn.contains x&&(j.length==1||j.length==2||j.length==3)&&gp S j d) e
 |.uK a,e=>ku (λx d=>w&&decide (x=("enumerate":Str))&&mH S x&&S.zn.contains x&&G9 (λv=>aJ S false a v) d) e
 |.rev a,e=>ku (λx d=>cond w (decide (x=("reversed":Str))&&mH S x&&S.zn.contains x&&G9 (λv=>aJ S false a v) d) false) e
 |.pop _,_=>false
 |.own i π,e=>oW S Lw i π e
 |.pI _ _ _,_=>false
 |.B6 z a,e=>brE e&&aJ (S.lend z) false a e
 |.PZ z a,e=>ku (λ_ _=>true) e&&iQ (fF S.md) a&&aJ (S.lend z) false a e
 |.Ey _ _ _ _,_=>false
 |.P4 f a j,e=>ku (λx d=>S.fn[f]?==some x&&mH S x&&(match fF S.md f with
  |.io m=>T8 m
  |_=>false)&&!S.mt.any (·.1==f)&&iQ (fF S.md) a&&oX (λv=>aJ S false a v) (λd=>gp S j d) d) e
noncomputable def gp(S:SE):List CE->List Expr->Bool
 |[],b=>b.isEmpty
 |a::c,b=>oX (λe=>aJ S false a e) (λb=>gp S c b) b
noncomputable def oY(S:SE):List CE->List Expr->Bool
 |[],b=>b.isEmpty
 |a::c,b=>oX (λe=>aJ S false a e||fZ S a e) (λb=>oY S c b) b
end
structure XOk(S:SE)(Φ:Nat->aZ)(Ψ:Nat->Md)(G:Nat->W)(X:Cx):Prop where
 hN:X.N=S.N
 nd:X.N.Nodup
 calm:X.calm=true
 un:X.A.units+64<cLine
 nk:∀x,X.env.scope.names.lookup x=S.nk.lookup x
 fns:∀(j:Nat)(x:Str),S.fn[j]?=some x->S.mt.any (·.1==j)=false->∃fv n k,X.mg x=some fv/\cU X.prog X.w X.K X.mg X.base k fv n (oV X.K n (Ψ j) (Φ j))/\cX k X.A/\∀ws P R,Φ j ws P R->ws.length=n
 Jt:∀(j g:Nat)(x:Str),S.fn[j]?=some x->(j,g)∈S.mt->∃f fd ps n k,(∀C,G g=.cls C->Meth X.K C x f)/\Binds X.K fd ps []/\bK X.prog X.w X.K X.mg X.base (ji X.prog X.w) k f fd ps (oV X.K n (Ψ j) (Φ j))/\cX k X.A/\∀ws P R,Φ j ws P R->ws.length=n
 Ar:Ψ=fF S.md
 Hf:∀(j:Nat)(x:Str),S.gn[j]?=some x->∃u v,X.mg x=some u/\RelV v u/\∀B H,Rep X.K B H (G j) v
 Cq:∀x∈S.zn,X.mg x=none
 kit:yu X.K
section
variable{S:SE}{Φ:Nat->aZ}{Ψ:Nat->Md}{G:Nat->W}{X:Cx}
theorem XOk.kH(h:XOk S Φ Ψ G X):XOk S Φ Ψ G X.kH:=⟨h.hN,h.nd,h.calm,h.un,h.nk,h.fns,h.Jt,h.Ar,h.Hf,h.Cq,h.kit⟩
theorem Cr{x:Str}(h:okN x=true):(x==("__debug__":Str))=false/\(x==("__classdict__":Str))=false/\x≠"__name__":=by unfold okN at h;simp only[AN,ox]at h;exact⟨h.1.1,h.1.2,λz=>by rw[z]at h;exact absurd h.2 (by simp)⟩
theorem cL{x:Str}(a:XOk S Φ Ψ G X)(h:mH S x=true):Gl X x/\(x==("__debug__":Str))=false/\x≠"__name__":=by unfold mH at h;rw[AN]at h;obtain⟨c,d,b⟩:=Cr h.2;refine⟨?_,c,b⟩;show X.env.scope.names.lookup x=_;rw[a.nk];exact NA.mp h.1
theorem eT(b:XOk S Φ Ψ G X){i:Nat}{e:Expr}(h:mJ S i e=true):PE X e (lG i):=by obtain⟨x,c,rfl,h⟩:=dG h;obtain⟨h,d⟩:=P3.mp h;obtain⟨f,a⟩:=P3.mp h;obtain⟨j,g,_⟩:=Cr d;refine EL (by rw[b.hN];exact NA.mp f) ?_ j g;simp only[Wq,sv,NA]at a;rw[<-b.nk]at a;exact a
def noStar:Expr->Bool
 |.Starred _ _=>false
 |_=>true
theorem aL{e:Expr}(h:noStar e=true)(a:List Expr)(env:Env):starEach (e::a) env=(false,eval e env)::starEach a env:=by
 cases e<;>first|rfl|exact ff h
theorem cM:∀{a:List Expr}(h:a.all noStar=true)(pos:Pos)(env:Env),(backTo pos (starEach a env)).any (·.1)=false
 |[],_,_,_=>rfl
 |e::a,h,pos,env=>by rw[Gu,AN]at h;rw[aL h.1];show(false||(backTo pos (starEach a env)).any (·.1))=false;rw[cM h.2];rfl
theorem fO{m:Md->Bool}{i:Nat}{π:List nX}{e:Expr}(h:oW S m i π e=true):
 (∃g k,π≠[]/\yD S i π.reverse e=true/\S.M.lookup i=some g/\j9 g π=some k/\m k=true)/\((∃a f q,e=.Attribute a f q)\/∃a j c d q,e=.Subscript a (.Constant (.int j) c d) q):=by
 unfold oW at h;rw[AN,AN]at h;obtain⟨⟨y,l⟩,b⟩:=h;have u:π≠[]:=λz=>by rw[z]at y;exact ff y
 constructor
 .split at b
  .rename_i g hl
   split at b
   .rename_i k hk
    exact⟨g,k,u,l,hl,hk,b⟩
   .cases b
  .cases b
 .cases t:π.reverse with
  |nil=>exact(u (by simpa using t)).elim
  |cons s r=>
   rw[t]at l;cases s with
   |ix n=>obtain⟨v,s,p,rfl,w⟩:=fY l;obtain⟨c,k,q,rfl,A⟩:=gD (a2 w).1;cases c<;>first|exact .inr ⟨_,_,_,_,_,rfl⟩|exact ff A
   |fl n x=>obtain⟨o,m,p,rfl,w⟩:=g5 l;exact .inl ⟨_,_,_,rfl⟩
theorem rK{m:Md->Bool}{i:Nat}{π:List nX}{v:Expr}{p:Pos}(h:oW S m i π (.Starred v p)=true):False:=by rcases(fO h).2 with⟨_,_,_,e⟩|⟨_,_,_,_,_,e⟩<;>cases e
theorem bC{b:Bool}{c:CE}{e:Expr}(h:aJ S b c e=true\/fZ S c e=true):noStar e=true:=by
 cases e with
 |Starred v p=>
  rcases h with h|h
  .cases c with
   |own i d=>exact(rK h).elim
   |B6 f a=>exact ff h
   |_=>exact ff h
  .cases c<;>first|exact ff h|exact(rK h).elim
 |_=>rfl
theorem g6{a b:Bool}(h:(a||b)=true):a=true\/b=true:=by
 cases a
 .exact .inr h
 .exact .inl rfl
theorem j3:∀{cs:List CE}{a:List Expr},gp S cs a=true->a.all noStar=true
 |[],a,h=>by
  cases a with
  |nil=>rfl
  |cons _ _=>exact ff h
 |c::cs,[],h=>by cases h
 |c::cs,e::a,h=>by have h:=a2 h;rw[Gu,bC (.inl h.1),j3 h.2];rfl
theorem rL:∀{cs:List CE}{a:List Expr},oY S cs a=true->a.all noStar=true
 |[],a,h=>by
  cases a with
  |nil=>rfl
  |cons _ _=>exact ff h
 |c::cs,[],h=>by cases h
 |c::cs,e::a,h=>by have h:=a2 h;rw[Gu,bC (g6 h.1),rL h.2];rfl
theorem wD{b:Expr}(h:Cp b=true):lI b:=λo i=>by cases b<;>first|rfl|exact ff h
theorem uP{a:Expr}(h:wC a=true)(f:Str)(env:Env)(b:Sem Value):attributeBase a f env b=b:=by cases a<;>first|rfl|exact ff h
theorem rM(b:XOk S Φ Ψ G X){i:Nat}:∀(π:List nX)(e:Expr),yD S i π e=true->PE X e (wj X.K i π.reverse)
 |[],e,h=>Q4 (eT b h)
 |.fl n x::π,e,h=>by obtain⟨o,m,p,rfl,g⟩:=g5 h;obtain⟨⟨a,f⟩,d⟩:=a3 g;have a:=D1 a;subst a;rw[cn];exact Q5 (rM b π _ d) (uP f _ _ _)
 |.ix n::π,e,h=>by
  obtain⟨v,s,p,rfl,g⟩:=fY h;obtain⟨f,d⟩:=a2 g;obtain⟨c,k,q,rfl,j⟩:=gD f;cases c<;>try exact ff j
  have a:=D1 j;subst a;rw[cn];exact Wn (rM b π _ d) iA (wD rfl)
theorem Hg(b:XOk S Φ Ψ G X){m:Md->Bool}{i:Nat}{π:List nX}{e:Expr}(h:oW S m i π e=true):∃a k,(i,a)∈S.M/\j9 a π=some k/\m k=true/\PE X e (wj X.K i π):=by obtain⟨⟨a,k,_,g,f,d,c⟩,_⟩:=fO h;have:=rM b π.reverse e g;rw[List.reverse_reverse]at this;exact⟨a,k,jB f,d,c,this⟩
theorem Wu(f:XOk S Φ Ψ G X){i:Nat}{π:List nX}{e:Expr}(h:oW S Lw i π e=true)(R:Addr->Prop):VE X S.M R .s e (λε Q=>match look ε i with|some w=>(match di w π with|some u=>Q u|none=>False)|none=>False):=by
 obtain⟨g,k,c,b,d,a⟩:=Hg f h;cases k<;>first|(cases d;done)|skip
 exact Qd a c b
theorem NP(f:XOk S Φ Ψ G X){i:Nat}{π:List nX}{e:Expr}(h:oW S T8 i π e=true)(R:Addr->Prop):VB X S.M R e (λε Q=>match look ε i with|some w=>(match di w π with|some u=>Q u|none=>False)|none=>False):=by
 obtain⟨g,k,c,b,d,a⟩:=Hg f h;cases k<;>first|(cases d;done)|skip
 exact Qc a c b
end
structure cW(Φ:Nat->aZ)(Ψ:Nat->Md)(G:Nat->W)(c:CE):Prop where
 e:∀{S:SE}{X:Cx},XOk S Φ Ψ G X->∀ex,aJ S false c ex=true->∀R,VE X S.M R (mo Ψ c) ex (wE Φ G R c)
 t:∀{S:SE}{X:Cx},XOk S Φ Ψ G X->∀ex,aJ S false c ex=true->D4 c=true->∀R,VT X S.M R ex (wE Φ G R c)
 i:∀{S:SE}{X:Cx},XOk S Φ Ψ G X->∀tg br ex,(aJ S true c ex||(br&&fZ S c ex))=true->(yE c=true->∃elts kk tp,tg=Expr.Tuple elts kk tp)->∀R,PI X tg ex (Ez X S.M R br (wE Φ G R c))
structure rN(Φ:Nat->aZ)(Ψ:Nat->Md)(G:Nat->W)(cs:List CE):Prop where
 a:∀{S:SE}{X:Cx},XOk S Φ Ψ G X->∀es,gp S cs es=true->∀R,VA X S.M R es (wA Φ G R cs)
 b:∀{S:SE}{X:Cx},XOk S Φ Ψ G X->∀es,oY S cs es=true->∀R,T6 X S.M R es (wA Φ G R cs)
 av:∀{S:SE}{X:Cx},XOk S Φ Ψ G X->∀es pos,es≠[]->gp S cs es=true->∀R,VE X S.M R .s (.BoolOp .And es pos) (C3 Φ G R cs)
 ov:∀{S:SE}{X:Cx},XOk S Φ Ψ G X->∀es pos,es≠[]->gp S cs es=true->∀R,VE X S.M R .s (.BoolOp .Or es pos) (Tw Φ G R cs)
 «at»:∀{S:SE}{X:Cx},XOk S Φ Ψ G X->∀es pos,es≠[]->gp S cs es=true->D4.G7 cs=true->∀R,NH X S.M R (.BoolOp .And es pos) (C3 Φ G R cs)
 ot:∀{S:SE}{X:Cx},XOk S Φ Ψ G X->∀es pos,es≠[]->gp S cs es=true->D4.G7 cs=true->∀R,NH X S.M R (.BoolOp .Or es pos) (Tw Φ G R cs)
section
variable{Φ:Nat->aZ}{Ψ:Nat->Md}{G:Nat->W}
theorem eU{c:CE}(h:iQ Ψ c=false):mo Ψ c=.s:=by unfold mo;rw[h];rfl
theorem jg{c:CE}(h:iQ Ψ c=true):mo Ψ c=.f:=by unfold mo;rw[h];rfl
theorem cW.s{c:CE}(h:cW Φ Ψ G c){S:SE}{X:Cx}(a:XOk S Φ Ψ G X){ex:Expr}(k:aJ S false c ex=true)(R:Addr->Prop):VE X S.M R .s ex (wE Φ G R c):=DX (h.e a ex k R)
theorem cW.b{c:CE}(h:cW Φ Ψ G c){S:SE}{X:Cx}(a:XOk S Φ Ψ G X){ex:Expr}(k:(aJ S false c ex||fZ S c ex)=true)(R:Addr->Prop):VB X S.M R ex (wE Φ G R c):=by
 rcases g6 k with k|k
 .exact V5 (h.e a ex k R)
 .cases c with
  |var i=>have k:(mJ S i ex&&yy S.M i)=true:=k;rw[AN]at k;exact GL (eT a k.1) (yz k.2)
  |own i d=>exact NP a k R
  |_=>exact ff k
theorem cW.mk1{c:CE}(b:∀{S:SE}{X:Cx},XOk S Φ Ψ G X->∀ex,aJ S false c ex=true->∀R,VE X S.M R (mo Ψ c) ex (wE Φ G R c))
 (f:∀{S:SE}{ex:Expr}(env:Env),aJ S false c ex=true->∀a,isTrue ex env a=(do let v<-a;standAt ex.pos;holding [v] (truthy v)))
 (hi:∀(S:SE)(ex:Expr),aJ S true c ex=true->aJ S false c ex=true)(e:∀(S:SE)(ex:Expr),fZ S c ex=false):cW Φ Ψ G c:=
 ⟨b,λd ex k _ R=>wk (f _ k) (DX (b d ex k R)),λ{S X} d g h ex k _ R=>by rw[e,eD,cb]at k;exact fX (jz (b d ex (hi _ _ k) R))⟩
theorem Rg(i:Nat):cW Φ Ψ G (.var i):=by
 have d:∀{S:SE}{X:Cx},XOk S Φ Ψ G X->∀ex,aJ S false (.var i) ex=true->∀R,VE X S.M R (mo Ψ (.var i)) ex (wE Φ G R (.var i)):=λ{S X} a ex k R=>by have k:=a2 k;have e:¬aO S.M i:=mG (by simpa using k.2);rw[eU rfl];exact Qa (eT a k.1) e
 refine⟨d,λ{S X} a ex k _ R=>wk (λc=>?_) (DX (d a ex k R)),λ{S X} a f g ex k _ R=>?_⟩
 .have k:=a2 k;cases ex<;>first|rfl|(have:=k.1;exact ff this)
 .rcases g6 k with k|k
  .exact fX (jz (d a ex (by exact k) R))
  .rw[AN]at k;obtain⟨rfl,b⟩:=k;have b:(mJ S i ex&&yy S.M i)=true:=b;rw[AN]at b;exact fX (Wd (GL (eT a b.1) (yz b.2)))
theorem Rh(i:Nat)(π:List nX):cW Φ Ψ G (.own i π):=by
 have d:∀R,wE Φ G R (.own i π)=λe Q=>match look e i with|some w=>(match di w π with|some u=>Q u|none=>False)|none=>False:=λR=>rfl
 have c:∀{S:SE}{X:Cx},XOk S Φ Ψ G X->∀ex,aJ S false (.own i π) ex=true->∀R,VE X S.M R (mo Ψ (.own i π)) ex (wE Φ G R (.own i π)):=λ{S X} a ex k R=>by rw[eU rfl,d];exact Wu a k R
 refine⟨c,λ{S X} a ex k _ R=>wk (λb=>?_) (DX (c a ex k R)),λ{S X} a g h ex k _ R=>?_⟩
 .rcases(fO k).2 with⟨_,_,_,rfl⟩|⟨_,_,_,_,_,rfl⟩<;>rfl
 .rcases g6 k with k|k
  .exact fX (jz (c a ex (by exact k) R))
  .rw[AN]at k;obtain⟨rfl,f⟩:=k;rw[d];exact fX (Wd (NP a f R))
theorem Ri(i:Int):cW Φ Ψ G (.int i):=by
 refine .mk1 (λ{S X} d ex k R=>?_) (λ{S ex} b k a=>?_) (λS ex k=>by exact k) (λ_ _=>rfl)
 .obtain⟨c,q,p,rfl,k⟩:=gD k;cases D1 k;rw[eU rfl];exact DY iA λ_ _=>gk _
 .obtain⟨c,q,p,rfl,k⟩:=gD k;rfl
theorem Wv(i:Bool):cW Φ Ψ G (.bl i):=by
 refine .mk1 (λ{S X} d ex k R=>?_) (λ{S ex} b k a=>?_) (λS ex k=>by exact k) (λ_ _=>rfl)
 .obtain⟨c,q,p,rfl,k⟩:=gD k;cases D1 k;rw[eU rfl];exact DY M7 λ_ _=>DU _
 .obtain⟨c,q,p,rfl,k⟩:=gD k;rfl
theorem Rj(i:Str):cW Φ Ψ G (.str i):=by
 refine .mk1 (λ{S X} d ex k R=>?_) (λ{S ex} b k a=>?_) (λS ex k=>by exact k) (λ_ _=>rfl)
 .obtain⟨c,q,p,rfl,k⟩:=gD k;cases D1 k;rw[eU rfl];exact DY Ot λ_ _=>V1 _
 .obtain⟨c,q,p,rfl,k⟩:=gD k;rfl
theorem Rk:cW Φ Ψ G .bu:=by
 refine .mk1 (λ{S X} d ex k R=>?_) (λ{S ex} b k a=>?_) (λS ex k=>by exact k) (λ_ _=>rfl)
 .obtain⟨c,q,p,rfl,k⟩:=gD k;cases D1 k;rw[eU rfl];exact DY EM λ_ _=>V2
 .obtain⟨c,q,p,rfl,k⟩:=gD k;rfl
theorem LB{n:String}(h:tys.contains n=true):bootBuiltins (Str.ofString n)=some (.type n):=by
 have:n∈tys:=by simpa using h
 unfold tys at this;simp only[Fh,pb,or_false]at this;rcases this with rfl|rfl|rfl|rfl|rfl|rfl<;>rfl
theorem Rl(n:String):cW Φ Ψ G (.B5 n):=by
 refine .mk1 (λ{S X} d ex k R=>?_) (λ{S ex} l k a=>?_) (λS ex k=>by exact k) (λ_ _=>rfl)
 .obtain⟨x,q,rfl,b⟩:=dG k
  replace k:=b
  simp only[AN]at k;obtain⟨⟨⟨c,g⟩,f⟩,e⟩:=k;obtain⟨j,i,h⟩:=cL d g;have c:=D1 c;subst c;rw[eU rfl];exact DY (v:=.ty n) (Bb j (d.Cq _ (by simpa using f)) (LB e) rfl h i) λ_ _=>rTy _
 .obtain⟨x,q,rfl,b⟩:=dG k
  replace k:=b
  rfl
theorem LC(g:Nat):cW Φ Ψ G (.glob g):=by
 refine .mk1 (λ{S X} c ex k R=>?_) (λ{S ex} m k a=>?_) (λS ex k=>by exact k) (λ_ _=>rfl)
 .obtain⟨x,q,rfl,b⟩:=dG k
  replace k:=b
  simp only[AN]at k;obtain⟨e,d⟩:=k;obtain⟨l,j,n⟩:=cL c d;obtain⟨u,v,i,h,f⟩:=c.Hf g _ (NA.mp e);rw[eU rfl];exact DY (eZ l i h j) f
 .obtain⟨x,q,rfl,b⟩:=dG k
  replace k:=b
  rfl
theorem As{K:Frag}{B:Addr->Prop}{H H':Hp}{w:W}{v:V}(h:dI K B H H' .f w v):Qe w=true:=by obtain⟨a,p,b,rfl,_⟩:=h.NB;rfl
theorem Hh{S:SE}{a:CE}{l:Expr}(k:fZ S a l=true)(z:iQ Ψ a=true):False:=by cases a<;>first|exact ff k|exact ff z
theorem Rm(op:Operator){a b:CE}(J:cW Φ Ψ G a)(I:cW Φ Ψ G b):cW Φ Ψ G (.bin op a b):=by
 refine .mk1 (λ{S X} n ex k R=>?_) (λ{S ex} P k s=>?_) (λS ex k=>by exact k) (λ_ _=>rfl)
 .obtain⟨l,o,r,t,rfl,u⟩:=n8 k
  replace k:=u
  simp only[AN]at k;obtain⟨⟨A,i⟩,g⟩:=k;have A:=D1 A;subst A;show VE X S.M R _ _ λF Q=>wE Φ G R a F λx=>wE Φ G R b F λy=>gY op x y Q;have E:∀B H m w v,Dom B H->ρB X.K B H m w v->bw X.K B m w v:=λ_ _ _ _ _ _ h=>h;have D:∀B H m w v,Dom B H->P9 X.K .f B H m w v->bw X.K B m w v:=λ_ _ _ _ _ d h=>(dI.rep d h).b;have p:=J.b n i R;have j:=I.b n g R;have L:iQ Ψ a=true->VE X S.M R .f l (wE Φ G R a):=λz=>by
   rcases g6 i with i|i
   .have:=J.e n l i R;rw[jg z]at this;exact this
   .exact(Hh i z).elim
  have O:iQ Ψ b=true->VE X S.M R .f r (wE Φ G R b):=λz=>by
   rcases g6 g with g|g
   .have:=I.e n r g R;rw[jg z]at this;exact this
   .exact(Hh g z).elim
  cases op with
  |Add=>
   by_cases c:iQ Ψ a=true
   .rw[jg (show iQ Ψ (.bin .Add a b)=true by show(iQ Ψ a||iQ Ψ b)=true;rw[c];rfl)];exact Ai (L c) j D E λ_ _ _ _ _ _ _ _ _ _ C _=>.inl ⟨rfl,.inl (As C)⟩
   .by_cases q:iQ Ψ b=true
    .rw[jg (show iQ Ψ (.bin .Add a b)=true by show(iQ Ψ a||iQ Ψ b)=true;rw[q,Bool.or_true])];exact Ai p (O q) E D λ_ _ _ _ _ _ _ _ _ _ _ N=>.inl ⟨rfl,.inr (As N)⟩
    .rw[eU (show iQ Ψ (.bin .Add a b)=false by show(iQ Ψ a||iQ Ψ b)=false;rw[kS _|>.mp c,kS _|>.mp q];rfl)];exact GO p j λ_ _=>.inr rfl
  |Mult=>
   by_cases c:iQ Ψ a=true
   .rw[jg (show iQ Ψ (.bin .Mult a b)=true from c)];exact Ai (L c) j D E λ_ _ _ _ _ _ _ _ _ _ C _=>.inr ⟨rfl,As C⟩
   .rw[eU (show iQ Ψ (.bin .Mult a b)=false from kS _|>.mp c)];exact GO p j λ_ _=>.inr rfl
  |_=>rw[eU rfl];exact GO p j λ_ _=>.inr rfl
 .obtain⟨l,o,r,t,rfl,u⟩:=n8 k
  replace k:=u
  rfl
theorem Ro{a:CE}(e:cW Φ Ψ G a):cW Φ Ψ G (.neg a):=by
 refine .mk1 (λ{S X} f ex k R=>?_) (λ{S ex} g k b=>?_) (λS ex k=>by exact k) (λ_ _=>rfl)
 .obtain⟨o,x,c,rfl,d⟩:=pZ k
  replace k:=d
  rw[AN]at k;cases D1 k.1;rw[eU rfl];exact Qh (e.s f k.2 R)
 .obtain⟨o,x,c,rfl,d⟩:=pZ k
  replace k:=d
  rw[AN]at k;cases D1 k.1;rfl
theorem Rq{a:CE}(h:cW Φ Ψ G a):cW Φ Ψ G (.not a):=by
 have e:∀R,wE Φ G R (.not a)=λi Q=>wE Φ G R a i λx=>truth x λb=>Q (.bl (!b)):=λR=>rfl;have g:∀{S:SE}{X:Cx},XOk S Φ Ψ G X->∀ex,aJ S false (.not a) ex=true->∀R,VE X S.M R (mo Ψ (.not a)) ex (wE Φ G R (.not a)):=λ{S X} c ex k R=>by
  obtain⟨o,x,d,rfl,f⟩:=pZ k
  replace k:=f
  rw[AN]at k;cases D1 k.1;rw[eU rfl,e];exact Qi (h.s c k.2 R)
 refine⟨g,λ{S X} c ex k j R=>?_,λ{S X} c m n ex k _ R=>?_⟩
 .obtain⟨o,x,d,rfl,f⟩:=pZ k
  replace k:=f
  rw[AN]at k;cases D1 k.1;rw[e];exact Qo (h.t c _ k.2 (by exact j) R)
 .have l:fZ S (.not a) ex=false:=rfl;rw[l,eD,cb]at k;exact fX (jz (g c ex (by exact k) R))
theorem Rr(op:CmpOp){a b:CE}(n:cW Φ Ψ G a)(m:cW Φ Ψ G b):cW Φ Ψ G (.cmp op a b):=by
 have e:∀R,wE Φ G R (.cmp op a b)=λg Q=>wE Φ G R a g λx=>wE Φ G R b g λy=>fW op x y Q:=λR=>rfl;have f:∀{S:SE}{X:Cx},XOk S Φ Ψ G X->∀ex,aJ S false (.cmp op a b) ex=true->∀R,VE X S.M R .s ex (wE Φ G R (.cmp op a b))/\VT X S.M R ex (wE Φ G R (.cmp op a b)):=λ{S X} c ex k R=>by
  obtain⟨l,o,r,p,rfl,q⟩:=n9 k
  replace k:=q
  simp only[AN,ox]at k;obtain⟨⟨⟨⟨d,u⟩,t⟩,i⟩,h⟩:=k;have d:=D1 d;subst d;have j:=qu r (op:=op) (tm u) (tm t);rw[e];exact⟨Qj c.un j (n.b c i R) (m.b c h R),Qk c.un j (n.b c i R) (m.b c h R)⟩
 refine⟨λc ex k R=>by rw[eU rfl];exact(f c ex k R).1,λc ex k _ R=>(f c ex k R).2,λ{S X} c w z ex k _ R=>?_⟩;have v:fZ S (.cmp op a b) ex=false:=rfl;rw[v,eD,cb]at k;exact fX (jz (f c ex (by exact k) R).1)
theorem j4{a:List Expr}(h:(!a.isEmpty)=true):a≠[]:=by rintro rfl;cases h
theorem Rt{b:List CE}(g:rN Φ Ψ G b):cW Φ Ψ G (.and b):=by
 have e:∀R,wE Φ G R (.and b)=C3 Φ G R b:=λR=>rfl;have f:∀{S:SE}{X:Cx},XOk S Φ Ψ G X->∀ex,aJ S false (.and b) ex=true->∀R,VE X S.M R .s ex (wE Φ G R (.and b)):=λ{S X} a ex k R=>by
  obtain⟨o,j,c,rfl,d⟩:=jZ k
  replace k:=d
  rw[AN,AN]at k;cases D1 k.1.1;rw[e];exact g.av a _ _ (j4 k.1.2) k.2 R
 refine⟨λa ex k R=>by rw[eU rfl];exact f a ex k R,λ{S X} a ex k h R=>?_,λ{S X} a l m ex k _ R=>?_⟩
 .obtain⟨o,j,c,rfl,d⟩:=jZ k
  replace k:=d
  rw[AN,AN]at k;cases D1 k.1.1;rw[e];exact(g.at a _ _ (j4 k.1.2) k.2 (by exact h) R).pt
 .have i:fZ S (.and b) ex=false:=rfl;rw[i,eD,cb]at k;exact fX (jz (f a ex (by exact k) R))
theorem Wx{b:List CE}(g:rN Φ Ψ G b):cW Φ Ψ G (.or b):=by
 have e:∀R,wE Φ G R (.or b)=Tw Φ G R b:=λR=>rfl;have f:∀{S:SE}{X:Cx},XOk S Φ Ψ G X->∀ex,aJ S false (.or b) ex=true->∀R,VE X S.M R .s ex (wE Φ G R (.or b)):=λ{S X} a ex k R=>by
  obtain⟨o,j,c,rfl,d⟩:=jZ k
  replace k:=d
  rw[AN,AN]at k;cases D1 k.1.1;rw[e];exact g.ov a _ _ (j4 k.1.2) k.2 R
 refine⟨λa ex k R=>by rw[eU rfl];exact f a ex k R,λ{S X} a ex k h R=>?_,λ{S X} a l m ex k _ R=>?_⟩
 .obtain⟨o,j,c,rfl,d⟩:=jZ k
  replace k:=d
  rw[AN,AN]at k;cases D1 k.1.1;rw[e];exact(g.ot a _ _ (j4 k.1.2) k.2 (by exact h) R).pt
 .have i:fZ S (.or b) ex=false:=rfl;rw[i,eD,cb]at k;exact fX (jz (f a ex (by exact k) R))
theorem Wy{X:Cx}{M:Ms}{R:Addr->Prop}{m:Md}{e:Expr}{t:WT}{c:CE}(h:VE X M R m e t)(a:mo Ψ c=m\/mo Ψ c=.s):VE X M R (mo Ψ c) e t:=by
 rcases a with z|z
 .rw[z];exact h
 .rw[z];exact DX h
theorem Ru{c a b:CE}(q:cW Φ Ψ G c)(u:cW Φ Ψ G a)(r:cW Φ Ψ G b):cW Φ Ψ G (.ite c a b):=by
 have e:∀R,wE Φ G R (.ite c a b)=λh Q=>wE Φ G R c h λx=>truth x λk=>if k=true then wE Φ G R a h Q else wE Φ G R b h Q:=λR=>rfl
 have o:∀{S:SE}{X:Cx},XOk S Φ Ψ G X->∀ex,aJ S false (.ite c a b) ex=true->∀R,VE X S.M R (mo Ψ (.ite c a b)) ex (wE Φ G R (.ite c a b)):=λ{S X} d ex k R=>by
  obtain⟨t,x,y,p,rfl,i⟩:=LA k;simp only[AN]at i;obtain⟨⟨⟨n,m⟩,l⟩,j⟩:=i;rw[e];by_cases z:iQ Ψ a=true/\iQ Ψ b=true
  .rw[jg (show iQ Ψ (.ite c a b)=true by show(iQ Ψ a&&iQ Ψ b)=true;rw[z.1,z.2];rfl)];have g:=u.e d x l R;have f:=r.e d y j R;rw[jg z.1]at g;rw[jg z.2]at f;exact GP (q.t d t n m R) g f
  .rw[eU (show iQ Ψ (.ite c a b)=false by
    show(iQ Ψ a&&iQ Ψ b)=false;cases g:iQ Ψ a
    .rfl
    .cases f:iQ Ψ b
     .rfl
     .exact absurd ⟨g,f⟩ z)]
   exact GP (q.t d t n m R) (u.s d l R) (r.s d j R)
 refine⟨o,(λd ex k v R=>by exact ff v),λ{S X} d A B ex k _ R=>?_⟩;have w:fZ S (.ite c a b) ex=false:=rfl;rw[w,eD,cb]at k;exact fX (jz (o d ex (by exact k) R))
theorem Rv{e:List CE}(f:rN Φ Ψ G e):cW Φ Ψ G (.tup e):=by
 refine .mk1 (λ{S X} g ex k R=>?_) (λ{S ex} h k b=>?_) (λS ex k=>by exact k) (λ_ _=>rfl)
 .obtain⟨d,q,p,rfl,c⟩:=d8 k;rw[eU rfl];exact Qt (f.a g d c R)
 .obtain⟨d,q,p,rfl,c⟩:=d8 k;rfl
theorem Rw{e:List CE}(f:rN Φ Ψ G e):cW Φ Ψ G (.lst e):=by
 refine .mk1 (λ{S X} g ex k R=>?_) (λ{S ex} h k b=>?_) (λS ex k=>by exact k) (λ_ _=>rfl)
 .obtain⟨d,p,rfl,c⟩:=mK k;rw[jg rfl];exact Qq (f.a g d c R)
 .obtain⟨d,p,rfl,c⟩:=mK k;rfl
theorem Wz{a i:CE}(f:cW Φ Ψ G a)(hi:cW Φ Ψ G i):cW Φ Ψ G (.ix a i):=by
 refine .mk1 (λ{S X} e ex k R=>?_) (λ{S ex} g k d=>?_) (λS ex k=>by exact k) (λ_ _=>rfl)
 .obtain⟨v,s,p,rfl,c⟩:=fY k;simp only[AN]at c;rw[eU rfl];exact V8 (wD c.1.1) (f.b e c.1.2 R) (hi.s e c.2 R)
 .obtain⟨v,s,p,rfl,c⟩:=fY k;rfl
theorem NQ{lo:CE}(b:cW Φ Ψ G lo){S:SE}{X:Cx}(c:XOk S Φ Ψ G X){l:Option Expr}(k:Rf (kr lo) (λx=>aJ S false lo x) l=true)(R:Addr->Prop):PO X l (V9 X S.M R λε Q=>wE Φ G R lo ε λy=>KL lo y Q):=by
 cases l with
 |none=>
  have z:kr lo=true:=k;cases lo with
  |bu=>exact K3
  |_=>exact ff z
 |some x=>
  have k:(!kr lo&&aJ S false lo x)=true:=k;rw[AN]at k;have e:(λ(ε:Ev)(Q:Option Int->Prop)=>wE Φ G R lo ε λy=>KL lo y Q)=λε Q=>wE Φ G R lo ε λy=>match y with|.int i=>Q (some i)|_=>False:=by
   have a:kr lo=false:=by simpa using k.1
   unfold KL;rw[a];funext ε Q;congr 1;funext y;cases y<;>rfl
  rw[e];exact K4 (b.s c k.2 R)
theorem WA{a lo hi:CE}(h:cW Φ Ψ G a)(f:cW Φ Ψ G lo)(g:cW Φ Ψ G hi):cW Φ Ψ G (.sl a lo hi):=by
 refine .mk1 (λ{S X} e ex k R=>?_) (λ{S ex} i k d=>?_) (λS ex k=>by exact k) (λ_ _=>rfl)
 .obtain⟨v,l,r,q,p,rfl,c⟩:=Co k;simp only[AN]at c;rw[jg rfl];exact Wa (h.b e c.1.1 R) (NQ f e c.1.2 R) (NQ g e c.2 R)
 .obtain⟨v,l,r,q,p,rfl,c⟩:=Co k;rfl
theorem LD(f:Nat){m:List CE}(C:rN Φ Ψ G m):cW Φ Ψ G (.call f m):=by
 refine .mk1 (λ{S X} b ex k R=>?_) (λ{S ex} I k c=>?_) (λS ex k=>by exact k) (λ_ _=>rfl)
 .obtain⟨x,q,l,p,rfl,g⟩:=aM k;simp only[AN]at g;obtain⟨⟨⟨⟨⟨v,u⟩,t⟩,i⟩,s⟩,o⟩:=g;obtain⟨E,D,J⟩:=cL b u;obtain⟨H,n,r,B,F,y,A⟩:=b.fns f x (NA.mp v) (by simpa using s);have F:cU X.prog X.w X.K X.mg X.base r H n (NJ X.K n (Ψ f) (Φ f)):=by rw[<-b.Ar]at i;cases j:Ψ f<;>rw[j]at i F<;>first|exact F|exact ff i
  have d:=j3 o;cases l with
  |nil=>exact ff t
  |cons e l=>
   rw[Gu,AN]at d;have h:=Ci (M:=S.M) (R:=R) (p:=q) (pos:=p) F y E B A (C.a b _ o R) D (aL d.1 _ _) (cM d.2 _ _);refine Wy h ?_;by_cases z:iQ Ψ (.call f m)=true
   .rw[jg z];left;have z:(match Ψ f with|.f=>true|_=>false)=true:=z;cases j:Ψ f<;>rw[j]at z<;>first|rfl|exact ff z
   .exact .inr (eU (by simpa using z))
 .obtain⟨x,q,l,p,rfl,g⟩:=aM k;rfl
theorem Hi{X:Cx}(c:X.calm=true):∀b:BI,b≠.Af->(∃a,bootBuiltins (Zu b)=some (.builtin a)/\dJ X (.builtin a) (Wc X.K b))\/(∃a,bootBuiltins (Zu b)=some (.type a)/\dJ X (.type a) (Wc X.K b))
 |.len,_=>.inl ⟨"len",rfl,cw_len.r⟩
 |.abs,_=>.inl ⟨"abs",rfl,cw_abs.r⟩
 |.max2,_=>.inl ⟨"max",rfl,(cw_max c).r⟩
 |.min2,_=>.inl ⟨"min",rfl,(cw_min c).r⟩
 |.sum,_=>.inl ⟨"sum",rfl,(cw_sum c).r⟩
 |.all,_=>.inl ⟨"all",rfl,(cw_all c).r⟩
 |.list,_=>.inr ⟨"list",rfl,cw_list.r⟩
 |.T3,_=>.inl ⟨"divmod",rfl,cw_dvm.r⟩
 |.any,_=>.inl ⟨"any",rfl,(cw_any c).r⟩
 |.Af,h=>absurd rfl h
theorem fR{S:SE}{a:CE}{c:List CE}{b:List Expr}(k:gp S (a::c) b=true):∃e r,b=e::r/\aJ S false a e=true/\gp S c r=true:=by
 cases b with
 |nil=>exact ff k
 |cons e r=>exact⟨e,r,rfl,a2 k⟩
theorem rO{S:SE}{a:List Expr}(k:gp S [] a=true):a=[]:=Hn.mp k
theorem Au{S:SE}{a:CE}{c:List CE}{b:List Expr}(k:oY S (a::c) b=true):∃e r,b=e::r/\(aJ S false a e||fZ S a e)=true/\oY S c r=true:=by
 cases b with
 |nil=>exact ff k
 |cons e r=>exact⟨e,r,rfl,a2 k⟩
theorem D5{S:SE}{a:List Expr}(k:oY S [] a=true):a=[]:=Hn.mp k
theorem Rx(b:BI){i:List CE}(I:rN Φ Ψ G i)(g:∀c∈i,cW Φ Ψ G c):cW Φ Ψ G (.blt b i):=by
 refine .mk1 (λ{S X} h ex k R=>?_) (λ{S ex} Z k t=>?_) (λS ex k=>by exact k) (λ_ _=>rfl)
 .obtain⟨x,q,C,p,rfl,l⟩:=aM k;simp only[AN]at l;obtain⟨⟨⟨⟨⟨m,P⟩,O⟩,N⟩,E⟩,s⟩:=l;have m:=D1 m;obtain⟨B,A,w⟩:=cL h P;have hz:=h.Cq x (by simpa using O);have f:=rL s;cases C with
  |nil=>cases b<;>exact ff N
  |cons e C=>
   rw[Gu,AN]at f;by_cases H:b=.Af
   .subst H;rw[eU rfl];rcases i with _|⟨a,_|⟨c,_|⟨d,i⟩⟩⟩<;>try exact ff E
    obtain⟨n,F⟩:=dk.mp E;have ec:c=.B5 n:=by cases c<;>first|(cases F;rfl)|exact nn F
    subst ec;obtain⟨L,K⟩:=a2 s;obtain⟨e2,r,rfl,D,Hj⟩:=Au K;cases D5 Hj;have j:=f.2;rw[Gu,AN]at j;have J:aJ S false (.B5 n) e2=true:=by
     rcases g6 D with z|z
     .exact z
     .exact ff z
    have u:n∈["int","bool","tuple","list","str","dict"]:=by obtain⟨y,q2,rfl,l⟩:=dG J;have:=(a2 l).2;unfold tys at this;exact List.contains_iff_mem.mp this
    have Y:=(g a Dx).b h L R;have U:=(g (.B5 n) (DL _ Dx)).b h D R;have o:bootBuiltins x=some (.builtin "isinstance"):=by rw[m];rfl
    exact Qw (M:=S.M) (R:=R) (p:=q) (pos:=p) h.kit u B hz o Y U w A (aL f.1 _ _) (aL j.1 _ _) (cM f.2 _ _)
   .have T:mo Ψ (.blt b i)=Wb b:=by
     cases b<;>first|rfl|exact eU rfl|exact jg rfl
    rw[T];rcases Hi h.calm b H with⟨Q,o,v⟩|⟨Q,o,v⟩
    .exact Qu v B hz (by rw[m];exact o) (I.b h _ s R) w A (aL f.1 _ _) (cM f.2 _ _)
    .exact Qv v B hz (by rw[m];exact o) (I.b h _ s R) w A (aL f.1 _ _) (cM f.2 _ _)
 .obtain⟨x,q,C,p,rfl,l⟩:=aM k;rfl
theorem LF{a:CE}(h:cW Φ Ψ G a):cW Φ Ψ G (.bits a):=by
 refine .mk1 (λ{S X} i ex k R=>?_) (λ{S ex} j k b=>?_) (λS ex k=>by exact k) (λ_ _=>rfl)
 .obtain⟨o,m,n,l,rfl,c⟩:=kQ k;simp only[AN]at c;obtain⟨⟨⟨d,g⟩,e⟩,f⟩:=c;have d:=D1 d;subst d;rw[eU rfl];exact K5 (h.s i f R) (uP e _ _ _) g
 .obtain⟨o,m,n,l,rfl,c⟩:=kQ k;rfl
theorem Ry{K:Frag}{B b:Addr->Prop}{H:Hp}{w:W}{v:V}(a:yr w=true)(r:Rep K B H w v):Rep K b H w v:=by
 cases w<;>first|(dsimp only[Rep]at r⊢;exact r)|exact ff a
theorem g7{S:SE}{a:List Nat}:∀x∈(S.lend a).M,x∈S.M:=λx b=>(T1.mp b).1
theorem RA(c:List Nat){a:CE}(u:cW Φ Ψ G a):cW Φ Ψ G (.B6 c a):=by
 have x:∀R,wE Φ G R (.B6 c a)=λd Q=>wE Φ G R a d λw=>yr w=true/\Q w:=λR=>rfl;have q:∀{S:SE}{X:Cx},XOk S Φ Ψ G X->∀ex,aJ S false (.B6 c a) ex=true->∀R,VE X S.M R .s ex (wE Φ G R (.B6 c a)):=λ{S X} b ex k R=>by have k:=a2 k;have g:XOk (S.lend c) Φ Ψ G X:=⟨b.hN,b.nd,b.calm,b.un,b.nk,b.fns,b.Jt,b.Ar,b.Hf,b.Cq,b.kit⟩;rw[x];refine PE.imp (u.s g k.2 R) ?_;rintro y H Q ⟨A,n,d,P,m,j,h,i⟩;obtain⟨p,D,E,C,l⟩:=m.sub (M':=(S.lend c).M) g7 none (λv e=>by cases e);exact⟨p,n,d,_,l,j,h,λw v o f s r=>i w v o f.2 s (.of (Ry f.1 r.bO))⟩
 refine⟨λ{S X} b ex k R=>by rw[eU rfl];exact q b ex k R,λ{S X} b ex k z R=>?_,λ{S X} b F I ex k _ R=>?_⟩
 .have k:=a2 k;have g:XOk (S.lend c) Φ Ψ G X:=⟨b.hN,b.nd,b.calm,b.un,b.nk,b.fns,b.Jt,b.Ar,b.Hf,b.Cq,b.kit⟩;rw[x];refine PT.imp (u.t g ex k.2 z R) ?_;rintro y H Q ⟨A,n,d,P,m,j,h,i⟩;obtain⟨p,D,E,C,l⟩:=m.sub (M':=(S.lend c).M) g7 none (λv e=>by cases e);exact⟨p,n,d,_,l,j,h,λw o f s=>i w o f.2 s⟩
 .have B:fZ S (.B6 c a) ex=false:=rfl;rw[B,eD,cb]at k;exact fX (jz (q b ex (by exact k) R))
theorem RC(d:List Nat){a:CE}(u:cW Φ Ψ G a):cW Φ Ψ G (.PZ d a):=by
 refine .mk1 (λ{S X} b ex k R=>?_) (λ{S ex} C k c=>?_) (λS ex k=>by exact k) (λ_ _=>rfl)
 .have k:=a2 k;have i:=a2 k.1;have l:XOk (S.lend d) Φ Ψ G X:=⟨b.hN,b.nd,b.calm,b.un,b.nk,b.fns,b.Jt,b.Ar,b.Hf,b.Cq,b.kit⟩;have h:=u.e l ex k.2 R;rw[<-b.Ar]at i;rw[jg i.2]at h;rw[jg rfl];refine PE.imp h ?_;rintro K H Q ⟨A,F,j,P,E,B,h,n⟩;obtain⟨J,O,T,L,D⟩:=E.sub (M':=(S.lend d).M) g7 none (λv e=>by cases e);refine⟨J,F,j,_,D,B,h,λw v I f s r=>?_⟩;obtain⟨t,f⟩:=f;obtain⟨g,p,m,rfl,rfl,o,z,y⟩:=dI.NB r;exact n _ _ I f s ⟨[p],by simp,by simpa using o,g,p,m,rfl,rfl,rfl,z,ai.GJ g t y⟩
 .obtain⟨x,q,N,p,rfl,_⟩:=aM (a2 (a2 k).1).1;rfl
theorem RD(i f:Nat)(c:List CE):cW Φ Ψ G (.pI i f c):=.mk1 (λd ex k R=>by cases k) (λb k a=>by cases k) (λS ex k=>by cases k) (λ_ _=>rfl)
theorem RE(i g f:Nat)(c:List CE):cW Φ Ψ G (.Ey i g f c):=.mk1 (λd ex k R=>by cases k) (λb k a=>by cases k) (λS ex k=>by cases k) (λ_ _=>rfl)
theorem RG(f:Nat){a:CE}{g:List CE}(J:cW Φ Ψ G a)(C:rN Φ Ψ G g):cW Φ Ψ G (.P4 f a g):=by
 refine .mk1 (λ{S X} c ex k R=>?_) (λ{S ex} P k h=>?_) (λS ex k=>by exact k) (λ_ _=>rfl)
 .obtain⟨x,q,j,p,rfl,i⟩:=aM k;simp only[AN]at i;obtain⟨⟨⟨⟨⟨B,A⟩,d⟩,z⟩,v⟩,b⟩:=i;obtain⟨N,L,T⟩:=cL c A;obtain⟨O,n,u,I,F,D,H⟩:=c.fns f x (NA.mp B) (by simpa using z);have F:cU X.prog X.w X.K X.mg X.base u O n (NK X.K n .f (Φ f)):=by
   rw[<-c.Ar]at d;cases E:Ψ f<;>rw[E]at d F<;>first|(cases d;done)|skip
   rename_i m
   cases m<;>first|exact F|exact ff d
  cases j with
  |nil=>exact ff b
  |cons e j=>rw[oX,AN]at b;have t:=j3 b.2;have o:=J.e c e b.1 R;rw[c.Ar,jg v]at o;rw[eU rfl,show wE Φ G R (.P4 f a g)=λl Q=>wE Φ G R a l λx=>wA Φ G R g l λs=>Φ f (x::s) (λr=>∃w y,r=.tup [w,y]/\Q w) R from rfl];exact Q3 (M:=S.M) (R:=R) (p:=q) (pos:=p) F D N I H o (C.a c _ b.2 R) L (aL (bC (.inl b.1)) _ _) (cM t _ _)
 .obtain⟨x,q,j,p,rfl,i⟩:=aM k;rfl
theorem RH(i:Nat):cW Φ Ψ G (.pop i):=.mk1 (λc ex k R=>by cases k) (λb k a=>by cases k) (λS ex k=>by cases k) (λ_ _=>rfl)
theorem RI{o:List CE}(h:∀c∈o,cW Φ Ψ G c):cW Φ Ψ G (.ny o):=by
 refine⟨λ{S X} i ex k R=>?_,λ{S X} i ex k _ R=>?_,λ{S X} i tg br ex k _ R=>?_⟩
 .obtain⟨x,q,A,p,rfl,l⟩:=aM k;simp at l
 .obtain⟨x,q,A,p,rfl,l⟩:=aM k;simp at l
 .have E:fZ S (.ny o) ex=false:=rfl;rw[E,eD,cb]at k;obtain⟨x,q,A,p,rfl,l⟩:=aM k;simp only[AN]at l;obtain⟨⟨⟨⟨⟨_,w⟩,D⟩,C⟩,z⟩,u⟩:=l;have w:=D1 w;subst w;obtain⟨y,H,F⟩:=cL i D;have hz:=i.Cq _ (by simpa using C);rcases o with _|⟨a,_|⟨b,_|⟨c,_|⟨d,o⟩⟩⟩⟩
  .simp at z
  .obtain⟨e,r,rfl,j,n⟩:=fR u;cases rO n;exact K7 (M:=S.M) (R:=R) (br:=br) (tg:=tg) (p:=q) (pos:=p) y hz ((h a Dx).s i j R) (aL (bC (.inl j)) _ _)
  .obtain⟨e,r,rfl,j,n⟩:=fR u;obtain⟨f,r,rfl,m,t⟩:=fR n;cases rO t;exact K8 (M:=S.M) (R:=R) (br:=br) (tg:=tg) (p:=q) (pos:=p) y hz ((h a (by simp)).s i j R) ((h b (by simp)).s i m R) (aL (bC (.inl j)) _ _) (aL (bC (.inl m)) _ _)
  .obtain⟨e,r,rfl,j,n⟩:=fR u;obtain⟨f,r,rfl,m,t⟩:=fR n;obtain⟨g,r,rfl,B,v⟩:=fR t;cases rO v;exact K9 (M:=S.M) (R:=R) (br:=br) (tg:=tg) (p:=q) (pos:=p) y hz ((h a (by simp)).s i j R) ((h b (by simp)).s i m R) ((h c (by simp)).s i B R) (aL (bC (.inl j)) _ _) (aL (bC (.inl m)) _ _) (aL (bC (.inl B)) _ _)
  .simp at z
theorem yG{f:Expr->Bool}{a:List Expr}(h:G9 f a=true):∃e,a=[e]/\f e=true:=dW h
theorem RJ{a:CE}(n:cW Φ Ψ G a):cW Φ Ψ G (.uK a):=by
 refine⟨λ{S X} c ex k R=>?_,λ{S X} c ex k _ R=>?_,λ{S X} c s v ex k m R=>?_⟩
 .obtain⟨x,q,g,p,rfl,b⟩:=aM k;simp at b
 .obtain⟨x,q,g,p,rfl,b⟩:=aM k;simp at b
 .have l:fZ S (.uK a) ex=false:=rfl;rw[l,eD,cb]at k;obtain⟨x,q,g,p,rfl,b⟩:=aM k;simp only[AN]at b;obtain⟨⟨⟨⟨_,f⟩,j⟩,i⟩,d⟩:=b;have f:=D1 f;subst f;obtain⟨e,rfl,d⟩:=yG d;obtain⟨o,u,t⟩:=cL c j;obtain⟨h,b,r,rfl⟩:=m rfl;exact Qz o (c.Cq _ (by simpa using i)) (jz (n.e c e d R)) (aL (bC (.inl d)) _ _)
theorem RK{a:CE}(n:cW Φ Ψ G a):cW Φ Ψ G (.rev a):=by
 have i:∀{S:SE}{X:Cx},XOk S Φ Ψ G X->∀ex,aJ S false (.rev a) ex=true->∀R,VE X S.M R (mo Ψ (.rev a)) ex (wE Φ G R (.rev a)):=λ{S X} c ex k R=>by obtain⟨x,q,h,p,rfl,b⟩:=aM k;exact ff b
 refine⟨i,λ{S X} c ex k _ R=>wk (λf=>?_) (DX (i c ex k R)),λ{S X} c r w ex k s R=>?_⟩
 .obtain⟨x,q,h,p,rfl,b⟩:=aM k;rfl
 .have m:fZ S (.rev a) ex=false:=rfl;rw[m,eD,cb]at k;obtain⟨x,q,h,p,rfl,b⟩:=aM k;have b:(decide (x=("reversed":Str))&&mH S x&&S.zn.contains x&&G9 (λv=>aJ S false a v) h)=true:=b;simp only[AN]at b;obtain⟨⟨⟨g,l⟩,j⟩,d⟩:=b;have g:=D1 g;subst g;obtain⟨e,rfl,d⟩:=yG d;obtain⟨o,u,t⟩:=cL c l;exact QA o (c.Cq _ (by simpa using j)) (jz (n.e c e d R)) (aL (bC (.inl d)) _ _)
theorem rP{f:NameKind->NameKind}:∀(l:List (Str×NameKind))(y:Str),(l.map λp=>(p.1,f p.2)).lookup y=(l.lookup y).map f
 |[],_=>rfl
 |(n,k)::r,y=>by
  rw[N0,Eu,Eu];by_cases e:(y==n)=true
  .rw[e];rfl
  .rw[kS]at e;rw[e];exact rP r y
theorem wF{sc a b:Scope}{N d c:List Str}(h:∀x,a.names.lookup x=b.names.lookup x):dM sc a N d c=dM sc b N d c:=by unfold dM;simp only[h]
theorem LG{S:SE}{X:Cx}(a:XOk S Φ Ψ G X){scope:Scope}{b:List Str}(e:dM scope X.env.scope X.N (mask b S.N) b=true)(g:(b++mask b S.N).Nodup){c:List (Addr×Obj)}{d:St}{H:Hp}{s:Shared}(I:Inv X c d H s)(C:Addr)(s0:Shared)(i:Hp)(h:List Addr):
 XOk (S.comp scope b) Φ Ψ G (aT X scope C b (mask b S.N) s0 i h):=by
 refine⟨rfl,g,a.calm,a.un,λx=>?_,a.fns,a.Jt,a.Ar,a.Hf,a.Cq,a.kit⟩;show(relabel scope X.env).names.lookup x=_;rw[gQ I (gA.of e)];show _=(scope.names.map λp=>(p.1,if p.2=.free then NameKind.cell else p.2)).lookup x;rw[rP (f:=λk=>if k=.free then NameKind.cell else k)]
noncomputable def kR(X:Cx)(i:Nat)(x:Str):Prop:=X.N[i]?=some x/\Loc X.env.scope x/\(X.fn x=true\/X.env.scope.names.lookup x=some .local)
noncomputable def fG(X:Cx):List Nat->List Str->Prop
 |[],a=>a=[]
 |i::b,a=>∃x r,a=x::r/\kR X i x/\fG X b r
theorem NR{X:Cx}(a:X.N.Nodup){i:Nat}{x:Str}{p:Pos}(h:kR X i x):PG X (.Name x p) (fS i):=Bh a h.1 h.2.1 h.2.2
theorem Hl{X:Cx}(f:X.N.Nodup):∀(a:List Expr)(c:List Str)(b:List Nat),G8 a=some c->fG X b c->UK X a (We b)/\(assignEach a X.env).length=b.length/\(assignEach a X.env).findIdx? (·.1)=none
 |[],c,b,h,k=>by
  cases h;cases b with
  |nil=>exact⟨Jy,rfl,rfl⟩
  |cons i d=>obtain⟨x,r,e,_⟩:=k;cases e
 |e::a,c,b,h,k=>by
  cases e with
  |Name x p=>
   obtain⟨l,n,rfl⟩:=OF.mp h;cases b with
   |nil=>cases k
   |cons i d=>obtain⟨s,r,e,q,o⟩:=k;cases e;obtain⟨m,j,g⟩:=Hl f a l d n o;have e:assignEach (.Name x p::a) X.env=(false,assign (.Name x p) X.env)::assignEach a X.env:=rfl;refine⟨EX (NR f q) m rfl,by rw[e,A3,j,A3],?_⟩;rw[e,List.findIdx?_cons,g];rfl
  |_=>exact nn h
theorem LH{X:Cx}(q:X.calm=true)(c:X.N.Nodup){tg:Expr}{one:Bool}{b:List Str}{a:List Nat}(h:T9 tg=some (one,b))(k:fG X a b):PG X tg (gT X.K one a):=by
 cases tg with
 |Name x p=>
  cases h
  match a,k with
  |[i],k=>obtain⟨g,r,e,f,d⟩:=k;cases e;exact NR c f
  |[],k=>cases k
  |_::_::_,k=>obtain⟨g,r,e,f,d⟩:=k;cases e;obtain⟨u,v,t,_⟩:=d;cases t
 |Tuple s w p=>
  dsimp only[T9]at h;obtain⟨l,o,e⟩:=OF.mp h;cases e;obtain⟨n,m,j⟩:=Hl c s b a o k;have:gT X.K false a=Oz X.K a.length (We a):=by cases a<;>rfl
  rw[this];exact OA q n m j
 |_=>exact nn h
theorem oZ{X:Cx}:∀(a:List Str)(n:Nat),(∀k x,a[k]?=some x->kR X (n+k) x)->fG X ((Bn a.length).map (n+·)) a
 |[],n,_=>rfl
 |x::a,n,h=>by
  rw[A3,ZD,N0];refine⟨x,a,rfl,h 0 x rfl,?_⟩;have:=oZ a (n+1) λk y b=>by have:=h (k+1) y (by simpa using b);rw[show n+1+k=n+(k+1) by lia];exact this
  rw[SL];have e:(Bn a.length).map (n+1+·)=(Bn a.length).map ((n+·)∘Nat.succ):=cq λk _=>by show n+1+k=n+(k+1);lia
  rw[<-e];exact this
theorem yH{a:Expr}(h:Aq a=true)(env:Env)(x:Value):foldedSetIterable a env x=pure x:=by
 cases a<;>first|rfl|exact ff h
theorem Cs{b:List Nat}{one:Bool}{n:Nat}{i c x:CE}{R:Addr->Prop}:wE Φ G R (.comp b one n i c x)=λε Q=>wE Φ G R i ε λz=>items z λe=>pJ (λw K=>wT one b w (A6 n none++ε) λa=>wE Φ G (λ_=>False) c a λd=>truth d λk=>if k=true then wE Φ G (λ_=>False) x a λy=>K (some y)else K none) e [] λl=>Q (.lst l):=rfl
theorem uQ{S:SE}{X:Cx}(x:XOk S Φ Ψ G X){m:List Nat}{one:Bool}{n:Nat}{en:Bool}{F:Expr->Bool}{J:SE->List Expr->Bool}{E:SE->Expr->Bool}{i tg c:Expr}{h:List Expr}{scope:Scope}(e:mO S m one n en F J E i tg c h scope=true):
 ∃a,n=a.length/\(∀j∈m,j<a.length)/\dM scope X.env.scope X.N (mask a S.N) a=true/\(∀z,foldedSetIterable c X.env z=pure z)/\(en=true->∃L k p,tg=Expr.Tuple L k p)/\F c=true/\J (S.comp scope a) h=true/\E (S.comp scope a) i=true/\
  ∀d s A H,Inv X d A H s->∀C s0 g f,PG (aT X scope C a (mask a S.N) s0 g f) tg (gT X.K one m)/\XOk (S.comp scope a) Φ Ψ G (aT X scope C a (mask a S.N) s0 g f):=by
 unfold mO at e;split at e;rotate_left
 .cases e
 rename_i o a RM
 simp only[AN]at e;obtain⟨⟨⟨⟨⟨⟨⟨⟨⟨t,r⟩,q⟩,T⟩,R⟩,Q⟩,D⟩,P⟩,M⟩,Z⟩:=e;have t:=NA.mp t;have r:=NA.mp r;have q:=NA.mp q;subst t r q;have w:=D1 R;have v:dM scope X.env.scope X.N (mask a S.N) a=true:=by rw[x.hN,wF (b:=S.sc) λy=>x.nk y];exact T
 have O:=gA.of v;refine⟨a,rfl,λj Y=>du.mp Y,v,yH Q _,λz=>?_,P,M,Z,λd s A H I C s0 g f=>?_⟩
 .have:one=false:=by rw[z]at D;simpa using D
  subst this;cases tg with
  |Tuple L e p=>exact⟨_,_,_,rfl⟩
  |Name y p=>cases RM
  |_=>exact nn RM
 .have l:=LG x v w I C s0 g f;refine⟨LH l.calm l.nd RM ?_,l⟩;have:=oZ (X:=aT X scope C a (mask a S.N) s0 g f) a 0 λk y u=>?_
  .simpa using this
  .have U:y∈a:=PQ u;have B:(aT X scope C a (mask a S.N) s0 g f).env.scope.names.lookup y=some .local:=by show(relabel scope X.env).names.lookup y=_;rw[gQ I O,(O.own y U).1];rfl
   refine⟨?_,.inl B,.inr B⟩;show(a++mask a S.N)[0+k]?=some y;rw[i5,PP (Fn.mp u).1];exact u
theorem rQ{J:List Nat}{one:Bool}{n:Nat}{i c x:CE}(hi:cW Φ Ψ G i)(hc:cW Φ Ψ G c)(hx:cW Φ Ψ G x){S:SE}{X:Cx}(Y:XOk S Φ Ψ G X){ex:Expr}(k:aJ S false (.comp J one n i c x) ex=true)(R:Addr->Prop):
 ∃y tg a u scope p d,ex=.ListComp y [⟨tg,a,u,0⟩] scope p/\n=d.length/\(∀j∈J,j<d.length)/\dM scope X.env.scope X.N (mask d S.N) d=true/\(∀z,foldedSetIterable a X.env z=pure z)/\PI X tg a (Ez X S.M R true (wE Φ G R i))/\
  ∀g s B H,Inv X g B H s->(∀C s0 l o,PG (aT X scope C d (mask d S.N) s0 l o) tg (gT X.K one J))/\(∀C s0 l o,PF (aT X scope C d (mask d S.N) s0 l o) u (Zi X.K (up S.M d.length) (wE Φ G (λ_=>False) c)))/\
   ∀C s0 l o,(XOk (S.comp scope d) Φ Ψ G (aT X scope C d (mask d S.N) s0 l o)/\aJ (S.comp scope d) false x y=true)/\PE (aT X scope C d (mask d S.N) s0 l o) y (Zh X.K (up S.M d.length) (wE Φ G (λ_=>False) x)):=by
 obtain⟨y,tg,a,u,scope,p,rfl,kk⟩:=oh k;obtain⟨d,rfl,O,ho,T,U,k8,m,Z,L⟩:=uQ Y kk;refine⟨y,tg,a,u,scope,p,d,rfl,rfl,O,ho,T,hi.i Y tg true a (by rw[eC];exact k8) U R,λg s B H I=>⟨λC s0 l o=>(L g s B H I C s0 l o).1,λC s0 l o=>?_,λC s0 l o=>?_⟩⟩
 .have E:=(L g s B H I C s0 l o).2
  match u,m with
  |[],m=>
   have m:NO c=true:=m;cases c with
   |bl b=>have:b=true:=m;subst this;refine PF.imp vt ?_;rintro B H Q ⟨A,l,D,P,F,h,k⟩;obtain⟨b,e,q⟩:=k _ H h (aq.refl H);cases e;exact q
   |_=>exact ff m
  |[f],m=>have m:(aJ (S.comp scope d) false c f&&D4 c)=true:=m;rw[AN]at m;exact PF.imp (O6 (hc.t E f m.1 m.2 λ_=>False))<|by rintro B H Q ⟨A,l,D,P,F,h,k⟩;exact⟨A,l,D,P,F,.none,h,k⟩
  |_::_::_,m=>exact ff m
 .have E:=(L g s B H I C s0 l o).2;refine⟨⟨E,Z⟩,?_⟩;exact PE.imp (hx.s E Z λ_=>False)<|by rintro B H Q ⟨A,l,D,P,F,h,k⟩;exact⟨A,l,D,P,F,.none,h,λw v H' pw s r=>k w v H' pw s r.bO⟩
theorem LI(o:List Nat)(one:Bool)(n:Nat){i c x:CE}(hi:cW Φ Ψ G i)(B:cW Φ Ψ G c)(w:cW Φ Ψ G x):cW Φ Ψ G (.comp o one n i c x):=by
 refine .mk1 (λ{S X} m ex k R=>?_) (λ{S ex} E k e=>?_) (λS ex k=>by exact k) (λ_ _=>rfl)
 .obtain⟨j,q,d,f,b,p,K,rfl,rfl,g,A,h,F,z⟩:=rQ hi B w m k R;rw[jg rfl];rw[Cs];intro a s l H Q I y;obtain⟨v,u,t⟩:=z a s l H I;exact La m.calm A g F v u (λC r J D=>(t C r J D).2) h a s l H Q I y
 .obtain⟨j,q,d,f,b,p,rfl,L⟩:=oh k;rfl
theorem RN:rN Φ Ψ G []:=by
 have en:∀{S:SE}{a:List Expr},gp S [] a=true->a=[]:=λ{S a} h=>by exact Hn.mp h
 have e:∀{S:SE}{a:List Expr},oY S [] a=true->a=[]:=λ{S a} h=>by exact Hn.mp h
 refine⟨λd a k R=>?_,λd a k R=>?_,λd a b c k R=>absurd (en k) c,λd a b c k R=>absurd (en k) c,λd a b c k _ R=>absurd (en k) c,λd a b c k _ R=>absurd (en k) c⟩
 .rw[en k];exact Qp
 .rw[e k];exact K2
theorem LJ{a:CE}{m:List CE}(l:cW Φ Ψ G a)(o:rN Φ Ψ G m):rN Φ Ψ G (a::m):=by
 have p:∀{S:SE}{j:List Expr},gp S (a::m) j=true->∃e r,j=e::r/\aJ S false a e=true/\gp S m r=true:=λ{S j} h=>by
  cases j with
  |nil=>exact ff h
  |cons e r=>have h:=P3.mp h;exact⟨e,r,rfl,h.1,h.2⟩
 have w:∀R,wA Φ G R (a::m)=λv Q=>wE Φ G R a v λx=>wA Φ G R m v λy=>Q (x::y):=λR=>rfl;refine⟨λc j k R=>?_,λ{S X} c j k R=>?_,λ{S X} c j f q k R=>?_,λ{S X} c j f q k R=>?_,λ{S X} c j f q k i R=>?_,λ{S X} c j f q k i R=>?_⟩
 .obtain⟨e,r,rfl,g,d⟩:=p k;rw[w];exact K1 (aL (bC (.inl g)) _ _) (l.s c g R) (o.a c r d R)
 .cases j with
  |nil=>exact ff k
  |cons e r=>have k:=P3.mp k;rw[w];exact GQ (aL (bC (g6 k.1)) _ _) (l.b c k.1 R) (o.b c r k.2 R)
 .obtain⟨e,r,rfl,g,d⟩:=p k;cases m with
  |nil=>
   have:r=[]:=by exact Hn.mp d
   subst this;exact ES (l.s c g R)
  |cons b u=>
   cases r with
   |nil=>exact ff d
   |cons n r=>exact Ql (l.s c g R) (o.av c (n::r) f (by simp) d R)
 .obtain⟨e,r,rfl,g,d⟩:=p k;cases m with
  |nil=>
   have:r=[]:=by exact Hn.mp d
   subst this;exact ES (l.s c g R)
  |cons b u=>
   cases r with
   |nil=>exact ff d
   |cons n r=>exact V6 (l.s c g R) (o.ov c (n::r) f (by simp) d R)
 .obtain⟨e,r,rfl,g,d⟩:=p k;have i:=a2 i;cases m with
  |nil=>
   have:r=[]:=by exact Hn.mp d
   subst this;exact KZ (l.t c e g i.1 R)
  |cons b u=>
   cases r with
   |nil=>exact ff d
   |cons n r=>exact Qn (l.t c e g i.1 R) (o.at c (n::r) f (by simp) d i.2 R)
 .obtain⟨e,r,rfl,g,d⟩:=p k;have i:=a2 i;cases m with
  |nil=>
   have:r=[]:=by exact Hn.mp d
   subst this;exact Qm (l.t c e g i.1 R)
  |cons b u=>
   cases r with
   |nil=>exact ff d
   |cons n r=>exact V7 (l.t c e g i.1 R) (o.ot c (n::r) f (by simp) d i.2 R)
variable(Φ Ψ G)
mutual
theorem snd:∀c:CE,cW Φ Ψ G c
 |.var i=>Rg i
 |.int i=>Ri i
 |.bl b=>Wv b
 |.str x=>Rj x
 |.bu=>Rk
 |.B5 n=>Rl n
 |.glob g=>LC g
 |.bin op a b=>Rm op (snd a) (snd b)
 |.neg a=>Ro (snd a)
 |.not a=>Rq (snd a)
 |.cmp op a b=>Rr op (snd a) (snd b)
 |.and d=>Rt (oi d).1
 |.or d=>Wx (oi d).1
 |.ite c a b=>Ru (snd c) (snd a) (snd b)
 |.tup d=>Rv (oi d).1
 |.lst d=>Rw (oi d).1
 |.ix a i=>Wz (snd a) (snd i)
 |.sl a lo hi=>WA (snd a) (snd lo) (snd hi)
 |.call f d=>LD f (oi d).1
 |.blt b d=>Rx b (oi d).1 (oi d).2
 |.bits a=>LF (snd a)
 |.comp h one n i c x=>LI h one n (snd i) (snd c) (snd x)
 |.ny d=>RI (oi d).2
 |.uK a=>RJ (snd a)
 |.rev a=>RK (snd a)
 |.pop i=>RH i
 |.own i π=>Rh i π
 |.pI i f d=>RD i f d
 |.B6 e a=>RA e (snd a)
 |.PZ e a=>RC e (snd a)
 |.Ey i g f d=>RE i g f d
 |.P4 f a d=>RG f (snd a) (oi d).1
theorem oi:∀cs:List CE,rN Φ Ψ G cs/\∀c∈cs,cW Φ Ψ G c
 |[]=>⟨RN,by simp⟩
 |c::cs=>⟨LJ (snd c) (oi cs).1,λd a=>by
  rcases Fh.mp a with e|h
  .rw[e];exact snd c
  .exact(oi cs).2 d h⟩
end
end
noncomputable def NS(S:SE)(i:Nat)(x:Str):Bool:=S.N[i]?==some x&&(S.nk.lookup x==some .local||S.nk.lookup x==some .cell)
noncomputable def Av(S:SE):List Nat->List Str->Bool
 |[],a=>a.isEmpty
 |i::b,a=>match a with
  |x::r=>NS S i x&&Av S b r
  |[]=>false
def Ho(S:SE)(a:List Nat):Bool:=a.all λi=>!yx S.M i
def SE.less(S:SE)(i:Nat):SE:={S with M:=S.M.filter (·.1 !=i)}
def SE.bare(S:SE):SE:={S with M:=[]}
def Aw:Expr->Bool
 |.Tuple _ _ _=>false
 |_=>true
def Hq:Expr->Bool
 |.ListComp _ _ _ _=>false
 |_=>true
noncomputable def Ua(S:SE)(b vs:List Expr):Option (Option (List Str)):=
 if !(b.length==2||b.length==3)||vs.length !=b.length then some none
 else if vs.any λ|.Starred ..=>true|_=>false then some none
 else
  let line:=(b.head?.map (·.pos.line)).getD 0
  let a:=b.filterMap λ
   |.Name c pos=>if S.nk.lookup c==some .local&&pos.line==line then some c else none
   |_=>none
  if a.length !=b.length||a.eraseDups.length !=a.length then some none
  else if vs.all (foldedForSure 8)then some none
  else if vs.all (constantsAlone 8)then none
  else some (some a)
def D6(f:List Expr->Expr->Bool):Stmt->Bool
 |.Assign a v _=>f a v
 |_=>false
noncomputable def oWh(f:Expr->List Stmt->List Stmt->Bool):Stmt->Bool
 |.While c a b _=>f c a b
 |_=>false
noncomputable def oFr(f:Expr->Expr->List Stmt->List Stmt->Bool):Stmt->Bool
 |.For t i a b _=>f t i a b
 |_=>false
def oRs(f:Expr->Bool):Stmt->Bool
 |.Raise (some x) none _=>f x
 |_=>false
def RO(f:Expr->Bool):Stmt->Bool
 |.Expr v _=>f v
 |_=>false
def yI(f:Str->Pos->Expr->Bool):Stmt->Bool:=D6 λa v=>o1 (Zs λx p=>f x p v) a
def Hr(f:List Expr->Expr->Bool):Stmt->Bool:=D6 λa v=>o1 (An λb=>f b v) a
noncomputable def NT(f:List Expr->List Expr->Bool):Stmt->Bool:=D6 λb v=>o1 (An λc=>An (λa=>f c a) v) b
def NU(f:Expr->Expr->Expr->Bool):Stmt->Bool:=D6 λa v=>o1 (D3 λo k=>f o k v) a
noncomputable def WB(f:Expr->Str->Pos->Pos->Expr->Bool):Stmt->Bool:=RO (uO λg b k c=>k&&o1 (λv=>DZ (λo m a=>f o m a c v) g) b)
noncomputable def RP(n:Bool)(f:Expr->Bool):Stmt->Bool
 |.Return (some v) _=>f v
 |.Return none _=>n
 |_=>false
noncomputable def RQ(f:Expr->List Stmt->List Stmt->Bool):Stmt->Bool
 |.If c a b _=>f c a b
 |_=>false
def RS(f:Expr->List Stmt->Bool):Stmt->Bool:=oWh λc a b=>b.isEmpty&&f c a
noncomputable def WC(f:Expr->Expr->List Stmt->Bool):Stmt->Bool:=oFr λt i a b=>b.isEmpty&&f t i a
def Zw:Stmt->Bool
 |.Break _=>true
 |_=>false
noncomputable def Ht(f:Str->Expr->Bool):Stmt->Bool:=oRs (uO λg a k _=>k&&o1 (λe=>uN (λx=>f x e) g) a)
noncomputable def Hu(f:Stmt->Bool)(g:List Stmt->Bool):List Stmt->Bool
 |e::a=>f e&&g a
 |[]=>false
mutual
noncomputable def Ub:Md->Md->Bool
 |.s,m=>Lw m
 |.f,m=>T8 m
 |.t a,m=>match m with
  |.t b=>LK a b
  |_=>false
 |.o d a,m=>match m with
  |.o c b=>decide (d=c)&&LK a b
  |_=>false
 |.io a,m=>match m with
  |.io b=>Ub a b
  |_=>false
 |.ls a,m=>match m with
  |.ls b=>Ub a b
  |_=>false
noncomputable def LK:List Md->List Md->Bool
 |[],l=>l.isEmpty
 |a::c,l=>match l with
  |b::bs=>Ub a b&&LK c bs
  |[]=>false
end
mutual
theorem rR:∀{a b:Md},Ub a b=true->a=b
 |.s,m,h=>by cases m<;>first|rfl|exact ff h
 |.f,m,h=>by cases m<;>first|rfl|exact ff h
 |.t a,m,h=>by
  cases m with
  |t b=>exact Pi _ (wG h)
  |_=>exact ff h
 |.o d a,m,h=>by
  cases m with
  |o c b=>have h:=P3.mp h;rw[D1 h.1,wG h.2]
  |_=>exact ff h
 |.io a,m,h=>by
  cases m with
  |io b=>exact Pi _ (rR h)
  |_=>exact ff h
 |.ls a,m,h=>by
  cases m with
  |ls b=>exact Pi _ (rR h)
  |_=>exact ff h
theorem wG:∀{a b:List Md},LK a b=true->a=b
 |[],l,h=>by
  cases l with
  |nil=>rfl
  |cons b bs=>exact ff h
 |a::c,l,h=>by
  cases l with
  |nil=>exact ff h
  |cons b bs=>have h:=P3.mp h;rw[rR h.1,wG h.2]
end
noncomputable def hasB(M:Ms)(i:Nat)(m:Md):Bool:=match M.lookup i with
 |some k=>Ub k m
 |none=>false
theorem iR{M:Ms}{i:Nat}{m:Md}(h:hasB M i m=true):(i,m)∈M:=by
 unfold hasB at h;cases e:M.lookup i with
 |none=>rw[e]at h;exact ff h
 |some k=>rw[e]at h;rw[<-rR h];exact jB e
noncomputable def NV(f:Expr->Str->List Expr->Bool):Expr->Bool:=uO λg b k c=>k&&DZ (λo m a=>(a.endLine==c.line)&&decide (b.length<30)&&f o m b) g
mutual
noncomputable def f9(S:SE):CE->Expr->Bool
 |.pop i,e=>Ao (λo m p n=>decide (m=("pop":Str))&&(p.endLine==n.line)&&yC S.M i&&mJ S i o) e
 |.pI i f h,e=>ku (λx d=>S.fn[f]?==some x&&mH S x&&!S.mt.any (·.1==f)&&(match fF S.md f with
  |.io m=>hasB S.M i m
  |_=>false)&&oX (λv=>mJ S i v) (λd=>mP S h d) d) e
 |.Ey i g f h,e=>NV (λo x d=>S.fn[f]?==some x&&S.mt.any (λy=>y.1==f&&y.2==g)&&(match fF S.md f with
  |.io (.o j k)=>hasB S.M i (.o j k)&&!j.contains x
  |_=>false)&&mJ S i o&&mP S h d) e
 |.bin op a b,e=>G3 (λo l r=>decide (op=o)&&f9 S a l&&f9 S b r) e
 |.cmp op a b,e=>G4 (λo l r=>decide (op=o)&&!decide (op=.In)&&!decide (op=.NotIn)&&f9 S a l&&f9 S b r) e
 |.call f h,e=>ku (λx d=>S.fn[f]?==some x&&mH S x&&!d.isEmpty&&!dO (fF S.md f)&&!S.mt.any (·.1==f)&&mP S h d) e
 |.ix a b,e=>D3 (λv s=>Cp s&&f9 S a v&&f9 S b s) e
 |.lst h,e=>Lx (λd=>mP S h d) e
 |.tup h,e=>An (λd=>mP S h d) e
 |.and _,_=>false
 |.or _,_=>false
 |c,e=>aJ S false c e
noncomputable def mP(S:SE):List CE->List Expr->Bool
 |[],b=>b.isEmpty
 |a::c,b=>oX (λe=>f9 S a e) (λb=>mP S c b) b
end
noncomputable def o8(S:SE):CE->Expr->Bool
 |.cmp op a b,e=>f9 S (.cmp op a b) e
 |.pI i f d,e=>f9 S (.pI i f d) e
 |.Ey i g f d,e=>f9 S (.Ey i g f d) e
 |.call f d,e=>f9 S (.call f d) e
 |.pop _,_=>false
 |.bin _ _ _,_=>false
 |.blt _ _,_=>false
 |.ix _ _,_=>false
 |.lst _,_=>false
 |.tup _,_=>false
 |.and _,_=>false
 |.or _,_=>false
 |c,e=>aJ S false c e&&D4 c
noncomputable def mQ(S:SE):List CE->List Expr->Bool
 |[],_=>false
 |a::d,c=>match d with
  |[]=>G9 (λe=>o8 S a e) c
  |b::bs=>oX (λe=>o8 S a e) (λc=>mQ S (b::bs) c) c
noncomputable def Hv(S:SE):CE->Expr->Bool
 |.and b,e=>Rc (λo a=>decide (o=.And)&&mQ S b a) e
 |.or b,e=>Rc (λo a=>decide (o=.Or)&&mQ S b a) e
 |c,e=>o8 S c e
def isS:Md->Bool
 |.s=>true
 |_=>false
noncomputable def Zx(a:Nat->Md):CE->Md
 |.tup b=>.t (b.map (mo a))
 |.call f _=>a f
 |c=>mo a c
def isVar:CE->Option Nat
 |.var i=>some i
 |_=>none
noncomputable def WD(S:SE)(m:Md)(e:CE)(v:Expr):Bool:=match isVar e with
 |some i=>hasB S.M i m&&mJ S i v
 |none=>false
noncomputable def WE(S:SE)(a:Nat->Md)(m:Md)(e:CE)(v:Expr):Bool:=
 !dO m&&((isS m&&(aJ S.bare false e v||aJ S false e v))||(Ub (Zx a e) m&&aJ S.bare false e v)||WD S m e v)
def RT(S:SE)(m:Md):Bool:=match m with
 |.io k=>hasB S.M 0 k
 |_=>false
def NW(f:Expr->Str->Expr->Bool):Stmt->Bool:=D6 λa v=>o1 (DZ λo x _=>f o x v) a
def isCall:CE->Bool
 |.call _ _=>true
 |_=>false
noncomputable def RU(S:SE)(i n:Nat)(x:Str):Bool:=match S.M.lookup i with
 |some (.o b a)=>b[n]?==some x&&(match a[n]? with
  |some k=>Lw k
  |none=>false)
 |_=>false
noncomputable def frB(S:SE)(a:List Nat)(one e:Bool)(f:Expr->Bool)(g:List Stmt->Bool)(tg c:Expr)(b:List Stmt):Bool:=
 match T9 tg with
 |some (o,d)=>(one==o)&&Av S a d&&Ho S a&&Aq c&&(!e||!one)&&f c&&g b
 |none=>false
noncomputable def Ax:Expr->Bool
 |.SetComp _ _ _ _=>false
 |.DictComp _ _ _ _ _=>false
 |_=>true
mutual
noncomputable def Hw(S:SE)(f:Nat->Md)(m:Md):CS->Stmt->Bool
 |.set i e,st=>yI (λx _ v=>NS S i x&&(if yx S.M i=true then(!dO m||!(i==0))&&((yC S.M i&&iQ f e)||(isCall e&&hasB S.M i (Zx f e)))&&aJ (S.less i) false e v else aJ S false e v)) st
 |.Ag h e,st=>Hr (λp v=>(match G8 p with|some l=>Av S h l|none=>false)&&Ho S h&&aJ S false e v&&(Aw v||An (λvs=>decide (Ua S p vs=some none)) v)) st
 |.par h p,st=>NT (λtg vs=>(match G8 tg with|some l=>Av S h l&&decide (Ua S tg vs=some (some l))&&decide l.Nodup&&l.all (λx=>S.nk.lookup x==some .local)|none=>false)&&Ho S h&&gp S p vs&&decide (vs.length=2)) st
 |.app i e,st=>WB (λo w B z v=>decide (w=("append":Str))&&(B.endLine==z.line)&&yC S.M i&&mJ S i o&&aJ S false e v) st
 |.put i k e,st=>NU (λo j v=>yC S.M i&&mJ S i o&&Cp j&&aJ S false k j&&aJ S false e v) st
 |.drop i,st=>RO (λv=>Hq v&&Ax v&&f9 S (.pop i) v) st
 |.mD j e,st=>yI (λx _ v=>NS S j x&&!yx S.M j&&Hq v&&Ax v&&f9 S e v) st
 |.VW h e,st=>Hr (λp v=>(match G8 p with|some l=>Av S h l|none=>false)&&Ho S h&&Aw v&&f9 S e v) st
 |.ret e,st=>RP (kr e&&isS m) (λv=>WE S f m e v) st
 |.iff c a b,st=>RQ (λt x y=>aJ S false c t&&D4 c&&c6 S f m a x&&c6 S f m b y) st
 |.GG c b,st=>RS (λt x=>aJ S false c t&&D4 c&&c6 S f m b x) st
 |.fr h one u b,st=>WC (λtg i x=>frB S h one (yE u) (λi=>aJ S true u i) (λx=>c6 S f m b x) tg i x) st
 |.brk,st=>Zw st
 |.raise g e,st=>Ht (λx v=>S.gn[g]?==some x&&mH S x&&aJ S false e v) st
 |.DP i n e,st=>NW (λo x v=>RU S i n x&&mJ S i o&&aJ S false e v) st
 |.B7 e,st=>RP (kr e&&RT S m) (λv=>RT S m&&aJ S false e v) st
 |.T4 c a b,st=>RQ (λt x y=>Hv S c t&&c6 S f m a x&&c6 S f m b y) st
 |.T5 c b,st=>RS (λt x=>Hv S c t&&c6 S f m b x) st
 |.KJ,_=>true
 |.VU i u e,st=>yI (λx _ v=>NS S i x&&yC S.M i&&(!dO m||!(i==0))&&!yE u&&G5 (λs tg d r q=>mO (S.less i) [0] true 1 false (λd=>aJ (S.less i) true u d) (λ_ r=>r.isEmpty) (λC s=>f9 C e s) s tg d r q) v) st
 |.VV i A,st=>yI (λx _ v=>NS S i x&&yC S.M i&&(!dO m||!(i==0))&&Lx (λp=>mP (S.less i) A p) v) st
 |.NC _ _,_=>false
noncomputable def c6(S:SE)(d:Nat->Md)(m:Md):List CS->List Stmt->Bool
 |[],c=>c.isEmpty
 |a::g,c=>match a with
  |.NC f b=>g.isEmpty&&(!dO m||!f.contains 0)&&c6 (S.lend f) d m b c
  |a=>Hu (λe=>Hw S d m a e) (λc=>c6 S d m g c) c
end
structure yJ(S:SE)(Φ:Nat->aZ)(Ψ:Nat->Md)(G:Nat->W)(X:Cx):Prop extends XOk S Φ Ψ G X where
 bk:X.env.blockKind=.function
 Uc:∀x,X.fn x=true
 EB:∀j x C,S.gn[j]?=some x->G j=.cls C->tD X.K C
 Hx:∀i m m',(i,m)∈S.M->(i,m')∈S.M->m=m'
section
variable{S:SE}{Φ:Nat->aZ}{Ψ:Nat->Md}{G:Nat->W}{X:Cx}
theorem yJ.kH(h:yJ S Φ Ψ G X):yJ S Φ Ψ G X.kH:={toXOk:=h.toXOk.kH,bk:=h.bk,Uc:=h.Uc,EB:=h.EB,Hx:=h.Hx}
theorem XOk.pK(h:XOk S Φ Ψ G X)(M:Ms):XOk {S with M:=M} Φ Ψ G X:=⟨h.hN,h.nd,h.calm,h.un,h.nk,h.fns,h.Jt,h.Ar,h.Hf,h.Cq,h.kit⟩
theorem oj(h:yJ S Φ Ψ G X){i:Nat}{x:Str}(k:NS S i x=true):kR X i x:=by unfold NS at k;simp only[AN,sv,NA]at k;refine⟨by rw[h.hN];exact k.1,?_,.inl (h.Uc x)⟩;unfold L2.Loc;rw[h.nk];exact k.2
theorem mR(h:yJ S Φ Ψ G X):∀{b:List Nat}{a:List Str},Av S b a=true->fG X b a
 |[],a,k=>Hn.mp k
 |i::c,[],k=>by cases k
 |i::c,x::r,k=>by rw[Av,AN]at k;exact⟨x,r,rfl,oj h k.1,mR h k.2⟩
theorem p8{a:List Nat}(h:Ho S a=true):∀i∈a,¬aO S.M i:=λi b=>mG (by simpa using KB.mp h i b)
theorem rS{i:Nat}{m:Md}(hi:(i,m)∈S.M)(d:∀c,(i,c)∈S.M->c=m){x:Nat×Md}:x∈S.M↔x=(i,m)\/x∈(S.less i).M:=by
 show _↔_\/x∈S.M.filter (·.1 !=i);rw[T1,bne_iff_ne];obtain⟨a,b⟩:=x;constructor
 .intro h;by_cases e:a=i
  .subst e;rw[d b h];exact .inl rfl
  .exact .inr ⟨h,e⟩
 .rintro(e|h)
  .cases e;exact hi
  .exact h.1
theorem rT{i:Nat}:¬aO (S.less i).M i:=by rintro⟨m,h⟩;have h:(i,m)∈S.M.filter (·.1 !=i):=h;rw[T1,bne_iff_ne]at h;exact h.2 rfl
noncomputable def Ct:Expr->Bool
 |.SetComp _ _ _ _=>false
 |.DictComp _ _ _ _ _=>false
 |_=>true
theorem RV{d:Bool}{c:CE}{e:Expr}(h:aJ S d c e=true):Ct e=true:=by
 cases e with
 |SetComp _ _ _ _=>
  cases c with
  |own i b=>rcases(fO h).2 with⟨_,_,_,e⟩|⟨_,_,_,_,_,e⟩<;>cases e
  |B6 f a=>exact ff h
  |_=>exact ff h
 |DictComp _ _ _ _ _=>
  cases c with
  |own i b=>rcases(fO h).2 with⟨_,_,_,e⟩|⟨_,_,_,_,_,e⟩<;>cases e
  |B6 f a=>exact ff h
  |_=>exact ff h
 |_=>rfl
noncomputable def XI(S:SE)(x:Str)(p:Pos):Expr->Bool
 |.ListComp _ _ scope q=>(S.nk.lookup x==some .local)&&(p.line==q.line)&&!(scope.names.any λ(n,k)=>n==x&&(k==.local||k==.cell))
 |_=>false
theorem NX(h:yJ S Φ Ψ G X){e:Expr}(c:Ct e=true)(x:Str)(p:Pos)(l:Nat):swapsWith e (some (.Name x p)) l X.env=pure (XI S x p e):=by
 cases e with
 |ListComp a b scope q=>show(pure _:Sem Bool)=pure _;rw[h.bk];show(pure (true&&(X.env.scope.names.lookup x==some .local)&&(p.line==q.line)&&_):Sem Bool)=_;rw[h.nk,eC];rfl
 |SetComp _ _ _ _=>exact ff c
 |DictComp _ _ _ _ _=>exact ff c
 |_=>rfl
theorem Cu{e:Expr}{a:List Expr}{k:Nat}{p:Pos}(l:Nat)(env:Env):swapsWithSole [.Tuple a k p] e l env=pure false:=by
 cases e<;>rfl
theorem Hy{e o i:Expr}{p:Pos}(l:Nat)(env:Env):swapsWithSole [.Subscript o i p] e l env=pure false:=by
 cases e<;>rfl
theorem Cv{e:Expr}(a:Aw e=true)(b:List Expr)(k:Nat)(p:Pos)(env:Env):swappedStores [.Tuple b k p] e env=pure none:=by
 cases e<;>first|rfl|exact ff a
theorem Hz{e o i:Expr}{p:Pos}(env:Env):swappedStores [.Subscript o i p] e env=pure none:=by
 cases e<;>rfl
theorem HA(h:yJ S Φ Ψ G X){a vs:List Expr}{k k2:Nat}{p p2:Pos}{o:Option (List Str)}(e:Ua S a vs=some o):swappedStores [.Tuple a k p] (.Tuple vs k2 p2) X.env=pure o:=by
 delta swappedStores
 unfold Ua at e;have b:∀x,X.env.kindOf x=S.nk.lookup x:=λx=>h.nk x;simp only[b,h.bk,bne_self_eq_false,cb];dsimp only at e;split at e
 .rename_i c
  cases e;exact Bi c
 rename_i c1
 refine(BM c1).trans ?_;split at e
 .rename_i c
  cases e;exact Bi c
 rename_i c2
 refine(BM c2).trans ?_;split at e
 .rename_i c
  cases e;exact Bi c
 rename_i c3
 refine(BM c3).trans ?_;split at e
 .rename_i c
  cases e;exact Bi c
 rename_i c4
 refine(BM c4).trans ?_;split at e
 .cases e
 rename_i c5
 cases e;exact BM c5
end
theorem jC{f:List Expr->Expr->Bool}{e:Stmt}(h:D6 f e=true):∃a v q,e=.Assign a v q/\f a v=true:=by cases e<;>first|exact⟨_,_,_,rfl,h⟩|exact ff h
theorem LL{f:Expr->List Stmt->List Stmt->Bool}{e:Stmt}(h:oWh f e=true):∃c a b q,e=.While c a b q/\f c a b=true:=by cases e<;>first|exact⟨_,_,_,_,rfl,h⟩|exact ff h
theorem LM{f:Expr->Expr->List Stmt->List Stmt->Bool}{e:Stmt}(h:oFr f e=true):∃t i a b q,e=.For t i a b q/\f t i a b=true:=by cases e<;>first|exact⟨_,_,_,_,_,rfl,h⟩|exact ff h
theorem LN{f:Expr->Bool}{e:Stmt}(h:oRs f e=true):∃x q,e=.Raise (some x) none q/\f x=true:=by
 cases e<;>try exact ff h
 rename_i x y q
 cases x<;>cases y<;>first|exact⟨_,_,rfl,h⟩|exact ff h
theorem yK{f:Expr->Bool}{st:Stmt}(h:RO f st=true):∃v q,st=.Expr v q/\f v=true:=by cases st<;>first|exact⟨_,_,rfl,h⟩|exact ff h
theorem j5{f:Str->Pos->Expr->Bool}{st:Stmt}(h:yI f st=true):∃x p v q,st=.Assign [.Name x p] v q/\f x p v=true:=by obtain⟨d,v,q,rfl,c⟩:=jC h;obtain⟨t,rfl,b⟩:=dW c;obtain⟨x,p,rfl,a⟩:=Cm b;exact⟨_,_,_,_,rfl,a⟩
theorem uR{f:List Expr->Expr->Bool}{st:Stmt}(h:Hr f st=true):∃a k p v q,st=.Assign [.Tuple a k p] v q/\f a v=true:=by obtain⟨e,v,q,rfl,d⟩:=jC h;obtain⟨t,rfl,c⟩:=dW d;obtain⟨a,k,p,rfl,b⟩:=d8 c;exact⟨_,_,_,_,_,rfl,b⟩
theorem D7{f:List Expr->List Expr->Bool}{st:Stmt}(h:NT f st=true):∃a k p vs c b q,st=.Assign [.Tuple a k p] (.Tuple vs c b) q/\f a vs=true:=by obtain⟨j,v,q,rfl,i⟩:=jC h;obtain⟨t,rfl,g⟩:=dW i;obtain⟨a,k,p,rfl,e⟩:=d8 g;obtain⟨vs,c,b,rfl,d⟩:=d8 e;exact⟨_,_,_,_,_,_,_,rfl,d⟩
theorem D8{f:Expr->Expr->Expr->Bool}{st:Stmt}(h:NU f st=true):∃o k p v q,st=.Assign [.Subscript o k p] v q/\f o k v=true:=by obtain⟨d,v,q,rfl,c⟩:=jC h;obtain⟨t,rfl,b⟩:=dW c;obtain⟨o,k,p,rfl,a⟩:=fY b;exact⟨_,_,_,_,_,rfl,a⟩
theorem HB{f:Expr->Str->Pos->Pos->Expr->Bool}{st:Stmt}(h:WB f st=true):∃o m c v b q,st=.Expr (.Call (.Attribute o m c) [v] [] b) q/\f o m c b v=true:=by obtain⟨v,q,rfl,n⟩:=yK h;obtain⟨g,s,r,p,rfl,l⟩:=gZ n;obtain⟨k,j⟩:=a2 l;obtain⟨e,rfl,i⟩:=dW j;obtain⟨o,m,a,rfl,d⟩:=g5 i;rw[Hn.mp k];exact⟨_,_,_,_,_,_,rfl,d⟩
theorem yL{n:Bool}{f:Expr->Bool}{st:Stmt}(h:RP n f st=true):(∃v q,st=.Return (some v) q/\f v=true)\/∃q,st=.Return none q/\n=true:=by
 cases st<;>try exact ff h
 rename_i v q
 cases v
 .exact .inr ⟨_,rfl,h⟩
 .exact .inl ⟨_,_,rfl,h⟩
theorem yM{f:Expr->List Stmt->List Stmt->Bool}{st:Stmt}(h:RQ f st=true):∃c a b q,st=.If c a b q/\f c a b=true:=by
 cases st<;>try exact ff h
 exact⟨_,_,_,_,rfl,h⟩
theorem yN{f:Expr->List Stmt->Bool}{st:Stmt}(h:RS f st=true):∃c a q,st=.While c a [] q/\f c a=true:=by obtain⟨c,a,b,q,rfl,e⟩:=LL h;obtain⟨k,d⟩:=a2 e;rw[Hn.mp k];exact⟨_,_,_,rfl,d⟩
theorem HC{f:Expr->Expr->List Stmt->Bool}{st:Stmt}(h:WC f st=true):∃tg c a q,st=.For tg c a [] q/\f tg c a=true:=by obtain⟨t,i,a,b,q,rfl,e⟩:=LM h;obtain⟨k,d⟩:=a2 e;rw[Hn.mp k];exact⟨_,_,_,_,rfl,d⟩
theorem Ay{f:Str->Expr->Bool}{st:Stmt}(h:Ht f st=true):∃x a e l q,st=.Raise (some (.Call (.Name x a) [e] [] l)) none q/\f x e=true:=by obtain⟨x,q,rfl,j⟩:=LN h;obtain⟨g,n,m,p,rfl,i⟩:=gZ j;obtain⟨k,d⟩:=a2 i;obtain⟨e,rfl,c⟩:=dW d;obtain⟨y,a,rfl,b⟩:=dG c;rw[Hn.mp k];exact⟨_,_,_,_,_,rfl,b⟩
section
variable{X:Cx}{M:Ms}{m:Md}{st:Stmt}{i j k:Nat}{e:Expr}{te:(Addr->Prop)->WT}{M':Ms}{m0:Md}
theorem LO(b:∀R,PS X st (nJ (tV X M R (P9 X.K .s) (te R)) (fS i)))(hi:¬aO M i):VS X M m st (λd ε=>te d.ex ε λw=>d.nx (ε.set i (some w))):=by rintro a s c H D I ⟨A,o,ε,d,S,l,hz,h,k⟩;refine b d.ex a s c H D I ⟨A,o,ε,_,S,l,h,λw v n g f r=>?_⟩;exact k.nx A _ _ n rfl rfl g ((S.same f).set hi r.bO)
theorem HD(b:∀R,PS X st (nJ (tV X M' R (P9 X.K m0) (te R)) (fS i)))(f:∀x,x∈M↔x=(i,m0)\/x∈M')(hi:¬aO M' i)(c:dO m=true->i≠0):VS X M m st (λd ε=>te d.ex ε λw=>d.nx (ε.set i (some w))):=by
 rintro a s l H D I ⟨A,N,ε,d,S,B,hz,h,k⟩;have y:∀v,A.s0=some v->A.s0=some v/\aO M' 0:=λv e=>by
  refine⟨e,?_⟩;have t:dO m=true:=by rw[<-hz,e];rfl
  obtain⟨o,u⟩:=(S.sl v e).2;rcases(f _).mp u with z|z
  .cases z;exact(c t rfl).elim
  .exact⟨o,z⟩
 obtain⟨P,E,C,Q,g⟩:=S.sub (M':=M') (λx p=>(f x).mpr (.inr p)) A.s0 y;refine b d.ex a s l H D I ⟨P,N,ε,_,g,B,h,λw v L q n r=>?_⟩;obtain⟨O,G,F,_,J⟩:=g.own f hi n r;exact k.nx O _ _ L (G.trans E) (F.trans C) q J
theorem LP{pos:Pos}:VS X M .s (.Return none pos) (λd ε=>d.rt .bu):=by rintro a s b H D I ⟨A,f,ε,d,S,c,hz,h,k⟩;exact Bg a s b H D I (k.rt _ _ H h S.sm (.of rfl (.of (by dsimp only[Rep]))))
theorem HE{x:Str}{C:Addr}{o b pos:Pos}(B:X.calm=true)(u:Gl X x)(t:X.mg x=some (.ref C))(q:tD X.K C)(y:∀R,VE X M R .s e (te R))(c:starEach [e] X.env=[(false,eval e X.env)])(z:(x==("__debug__":Str))=false):
 VS X M m (.Raise (some (.Call (.Name x o) [e] [] b)) none pos) (λd ε=>te d.ex ε λ_=>d.ex C):=by
 rintro a s g H D I ⟨A,G,ε,d,S,⟨E,n,F,f⟩,hz,h,k⟩;exact Fo f B u t q (ay (y d.ex) aY c) c z a s g H D I ⟨A,G,ε,_,S,⟨E,n,F,f⟩,h,λw v J p l r=>⟨by show 1<=sizeLine;decide,p,S.sm.trans l⟩⟩
end
theorem uS{f:Expr->Str->List Expr->Bool}{e:Expr}(h:NV f e=true):∃o m a b c,e=.Call (.Attribute o m a) b [] c/\f o m b=true/\(a.endLine==c.line)=true/\b.length<30:=by obtain⟨g,b,n,p,rfl,l⟩:=gZ h;obtain⟨k,j⟩:=a2 l;obtain⟨o,m,a,rfl,i⟩:=g5 j;rw[Hn.mp k];have d:=a3 i;exact⟨_,_,_,_,_,rfl,d.2,d.1.1,D1 d.1.2⟩
theorem uT{y x:Str}{c a pos:Pos}{b:List Expr}{env:Env}(e:(backTo pos (starEach b env)).any (·.1)=false)(h:b.length<30)(d:(a.endLine==pos.line)=true):
 eval (.Call (.Attribute (.Name y c) x a) b [] pos) env=(do
  let ov<-eval (.Name y c) env
  standAt a.atName
  let(f,first)<-holding [ov] (getMethod ov x (do return (<-importBound (.Name y c) env).getD true))
  callWith pos f first (backTo pos (starEach b env)) (backToKw pos (keywordEach [] env))):=by
 have j:methodCallForm (b.length+([]:List Keyword).length) (backTo pos (starEach b env)) (backToKw pos (keywordEach [] env))=true:=by
  unfold methodCallForm;have i:(backTo pos (starEach b env)).all (λx=>!x.1)=true:=by rw[KB];intro z hz;rw[SA]at e;simpa using e z hz
  rw[i];show(true&&true&&decide (b.length+0+0<30))=true;simpa using h
 have g:methodCallPos true (.Name y c) env a pos=pure pos:=by unfold methodCallPos;simp[d]
 rw[arm_eval_Call,show attributeBase (.Name y c) x env (eval (.Name y c) env)=eval (.Name y c) env from rfl];unfold methodCall;rw[j,g];rfl
theorem D9{f:Expr->Str->Expr->Bool}{st:Stmt}(h:NW f st=true):∃o x p v q,st=.Assign [.Attribute o x p] v q/\f o x v=true:=by obtain⟨d,v,q,rfl,c⟩:=jC h;obtain⟨t,rfl,b⟩:=dW c;obtain⟨o,x,p,rfl,a⟩:=g5 b;exact⟨_,_,_,_,_,rfl,a⟩
noncomputable def HF(X:Cx)(M:Ms)(R:Addr->Prop)(g:List Md)(t:Ev->(List W->Prop)->Prop):TA:=λf H Q=>∃A e b P,SR X.K M A e f H b/\ER X e R/\t b P/\∀c d a F,P c->aq H a->F.Nodup->(∀p∈F,H p=none)->fE X.K (λq=>A.B q\/q∈F) a g c d F->Q d a
section
variable{X:Cx}{M:Ms}{R:Addr->Prop}{a:Expr}{es:List Expr}{ta:WT}{m:Md}{ms:List Md}{pos:Pos}
theorem LQ:PA X [] (HF X M R [] λ_ Q=>Q []):=PA.imp aY<|by rintro b H Q ⟨A,e,c,P,S,d,h,k⟩;exact k [] [] H [] h (aq.refl H) ub (by simp) (by dsimp only[fE];exact⟨rfl,rfl,rfl⟩)
theorem HG{n:Ev->(List W->Prop)->Prop}(E:starEach (a::es) X.env=(false,eval a X.env)::starEach es X.env)(J:VE X M R m a ta)(I:PA X es (HF X M R ms n)):PA X (a::es) (HF X M R (m::ms) λε Q=>ta ε λx=>n ε λd=>Q (x::d)):=
 PA.imp (ay J I E)<|by
  rintro O H Q ⟨A,v,ε,P,S,u,h,k⟩;refine⟨A,v,ε,_,S,u,h,λx w N D f B=>?_⟩;obtain⟨G,C,s,t⟩:=B;have c:∀q∈G,∃o,N q=some o:=λq j=>let⟨o,e,_⟩:=Fp.mu m t q j;⟨o,e⟩
  refine⟨_,v,ε,_,S.more f s c,u,D,λd y L F i r g l K=>?_⟩;refine k _ _ L (G++F) i (f.trans r) ?_ (λp b=>?_) ?_
  .refine Rn.mpr ⟨C,g,λp b q j e=>?_⟩;subst e;obtain⟨o,e⟩:=c p b;rw[l p j]at e;cases e
  .rcases Ha.mp b with b|b
   .exact s p b
   .exact f.free (l p b)
  .refine⟨x,d,w,y,G,F,rfl,rfl,rfl,Fp.mv r (λp o e z=>?_) m t,fE.mv (aq.refl _) (λp o e z=>?_) ms K⟩
   .rcases z with z|z
    .exact .inl z
    .rcases Ha.mp z with z|z
     .exact .inr z
     .rw[l p z]at e;cases e
   .rcases z with z|z
    .exact .inl (.inl z)
    .rcases Ha.mp z with z|z
     .exact .inl (.inr z)
     .exact .inr z
theorem LR{d:Ev->(List W->Prop)->Prop}{i:Nat}(h:PA X es (HF X M R ms d)):VE X M R (.t ms) (.Tuple es i pos) (λε Q=>d ε λb=>b.length<=sizeLine/\Q (.tup b)):=PE.imp (zJ h)<|by
 rintro D H Q ⟨A,C,ε,P,S,x,h,k⟩;refine⟨A,C,ε,_,S,x,h,λb c y F f l o n g=>?_⟩;have s:∀(ms:List Md){b:List W}{c:List V}{F:List Addr}{B:Addr->Prop},fE X.K B y ms b c F->c.length=b.length:=λms=>by
  induction ms with
  |nil=>intro b c F B h;dsimp only[fE]at h;rw[h.1,h.2.1];rfl
  |cons m ms q=>intro b c F B h;obtain⟨w,E,v,j,I,G,rfl,rfl,_,_,u⟩:=h;rw[A3,A3,q u]
 refine⟨by rw[s ms g];exact f.1,λp r=>?_⟩;have e:=aK r (.tup c);refine k _ _ _ f.2 (l.trans e) ⟨F,o,n,?_⟩;exact⟨b,p,c,rfl,rfl,au,fE.mv e (λ_ _ _ z=>z) ms g⟩
end
noncomputable def fH(b:Nat->aZ)(a:Nat->Md)(G:Nat->W)(s:CS):Prop:=∀{S:SE}{X:Cx}{m:Md},yJ S b a G X->∀c,Hw S a m s c=true->VS X S.M m c (wS b G s)
noncomputable def g9(b:Nat->aZ)(a:Nat->Md)(G:Nat->W)(s:List CS):Prop:=∀{S:SE}{X:Cx}{m:Md},yJ S b a G X->∀c,c6 S a m s c=true->Ck X S.M m c (wSs b G s)
section
variable{Φ:Nat->aZ}{Ψ:Nat->Md}{G:Nat->W}
theorem yJ.pK{S:SE}{X:Cx}(h:yJ S Φ Ψ G X)(M:Ms)(b:∀i m a,(i,m)∈M->(i,a)∈M->m=a):yJ {S with M:=M} Φ Ψ G X:={toXOk:=h.toXOk.pK M,bk:=h.bk,Uc:=h.Uc,EB:=h.EB,Hx:=b}
theorem HH{S:SE}{X:Cx}(b:XOk S Φ Ψ G X){f:Nat}{i:List CE}{v:Expr}(k:aJ S false (.call f i) v=true)(R:Addr->Prop):VE X S.M R (Ψ f) v (wE Φ G R (.call f i))/\∃g c p,v=.Call g c [] p:=by
 obtain⟨x,q,c,p,rfl,j⟩:=aM k;simp only[AN]at j;obtain⟨⟨⟨⟨⟨t,s⟩,r⟩,h⟩,o⟩,l⟩:=j;obtain⟨C,B,E⟩:=cL b s;obtain⟨D,n,m,A,F,u,z⟩:=b.fns f x (NA.mp t) (by simpa using o);have F:cU X.prog X.w X.K X.mg X.base m D n (NJ X.K n (Ψ f) (Φ f)):=by rw[<-b.Ar]at h;cases y:Ψ f<;>rw[y]at h F<;>first|exact F|exact ff h
 have d:=j3 l;cases c with
 |nil=>exact ff r
 |cons e c=>rw[Gu,AN]at d;refine⟨?_,_,_,_,rfl⟩;exact Ci (M:=S.M) (R:=R) (p:=q) (pos:=p) F u C A z ((oi Φ Ψ G i).1.a b _ l R) B (aL d.1 _ _) (cM d.2 _ _)
theorem HJ{S:SE}{X:Cx}(d:XOk S Φ Ψ G X):∀(b:List CE)(c:List Expr),gp S b c=true->∀R,PA X c (HF X S.M R (b.map (mo Ψ)) (wA Φ G R b))
 |[],c,k,R=>by rw[Hn.mp k];exact LQ
 |a::b,[],k,R=>by cases k
 |a::b,e::c,k,R=>by have k:=a2 k;exact HG (aL (bC (.inl k.1)) _ _) ((snd Φ Ψ G a).e d e k.1 R) (HJ d b c k.2 R)
theorem RW{S:SE}{X:Cx}(a:XOk S Φ Ψ G X){e:CE}{v:Expr}(k:aJ S false e v=true)(R:Addr->Prop):VE X S.M R (Zx Ψ e) v (wE Φ G R e):=by
 cases e with
 |tup b=>obtain⟨c,d,p,rfl,k⟩:=d8 k;exact LR (HJ a b c k R)
 |call f b=>exact(HH a k R).1
 |_=>exact(snd Φ Ψ G _).e a v k R
theorem Az{e:CE}(h:isCall e=true):∃f a,e=.call f a:=by cases e<;>first|exact⟨_,_,rfl⟩|exact ff h
theorem uU{e:CE}(h:kr e=true):e=.bu:=by cases e<;>first|rfl|exact ff h
theorem Ea{e:CE}{i:Nat}(h:isVar e=some i):e=.var i:=by cases e<;>first|(cases h;rfl)|exact nn h
theorem LS{S:SE}{x:Str}{p:Pos}{v:Expr}(h:XI S x p v=true):∃a b c d,v=.ListComp a b c d:=by cases v<;>first|exact⟨_,_,_,_,rfl⟩|exact ff h
theorem RX{S:SE}{e:CE}{a:Expr}{b:List Comprehension}{c:Scope}{d:Pos}(k:aJ S false e (.ListComp a b c d)=true):∃f one n i c x,e=.comp f one n i c x:=by
 cases e with
 |comp f one n i c x=>exact⟨_,_,_,_,_,_,rfl⟩
 |own i g=>rcases(fO k).2 with⟨_,_,_,e⟩|⟨_,_,_,_,_,e⟩<;>cases e
 |_=>exact ff k
theorem Cw{S:SE}{X:Cx}(d:yJ S Φ Ψ G X){i:Nat}{x:Str}{p q:Pos}{e:CE}{v:Expr}(O:NS S i x=true)(k:aJ S false e v=true)(R:Addr->Prop):
 PS X (.Assign [.Name x p] v q) (nJ (tV X S.M R (P9 X.K (mo Ψ e)) (wE Φ G R e)) (fS i)):=by
 have n:=oj d O;have a:=NX d (RV k) x p q.line;cases m:XI S x p v with
 |false=>rw[m]at a;exact iB d.nd n.1 n.2.1 ((snd Φ Ψ G e).e d.toXOk v k R) a n.2.2
 |true=>rw[m]at a;obtain⟨Q,gs,h,pp,rfl⟩:=LS m;obtain⟨Z,one,n',B,c,y,rfl⟩:=RX k;obtain⟨t,tg,r,E,f,p',o,T,rfl,j,L,l,U,J⟩:=rQ (snd Φ Ψ G B) (snd Φ Ψ G c) (snd Φ Ψ G y) d.toXOk k R;cases T;rw[jg rfl,Cs];intro b s g H D I F;obtain⟨A,z,w⟩:=J b s g H I;exact Bv o (mask o S.N) d.nd n.1 n.2.1 d.calm L U A z (λC u Y P=>(w C u Y P).2) a l n.2.2 b s g H D I (yw j g H _ F)
theorem RY(i:Nat)(e:CE):fH Φ Ψ G (.set i e):=by
 intro S X m l st k;obtain⟨x,p,v,q,rfl,h⟩:=j5 k;rw[AN]at h;by_cases y:yx S.M i=true
 .rw[Bi y]at h;simp only[AN]at h;obtain⟨F,⟨E,d⟩,C⟩:=h;have u:dO m=true->i≠0:=λz e=>by rw[z,e]at E;cases E
  have L:∀{t:Md},(i,t)∈S.M->(∀R,PS X (.Assign [.Name x p] v q) (nJ (tV X (S.less i).M R (P9 X.K t) (wE Φ G R e)) (fS i)))->VS X S.M m (.Assign [.Name x p] v q) (λD o=>wE Φ G D.ex e o λw=>D.nx (o.set i (some w))):=λ{t} I N=>HD (M':=(S.less i).M) (te:=λR=>wE Φ G R e) N (λj=>rS I (λm' Q=>l.Hx i _ _ Q I)) rT u;have J:yJ (S.less i) Φ Ψ G X:=l.pK (S.less i).M λa b c B O=>l.Hx a b c (T1.mp B).1 (T1.mp O).1;rcases g6 d with d|d
  .rw[AN]at d;refine L (jY d.1) λR=>?_;have:=Cw J (p:=p) (q:=q) F C R;rw[jg d.2]at this;exact this
  .rw[AN]at d;refine L (iR d.2) λR=>?_;obtain⟨f,as,rfl⟩:=Az d.1;obtain⟨B,g,es,pp,rfl⟩:=HH J.toXOk C R;have n:=oj l F;exact iB l.nd n.1 n.2.1 B rfl n.2.2
 .rw[BM y]at h;refine LO (te:=λR=>wE Φ G R e) (λR=>?_) (mG (by simpa using y));refine PS.imp (Cw l (p:=p) (q:=q) h.1 h.2 R)<|by rintro D Z H ⟨A,U,o,P,S,T,p,k⟩;exact⟨A,U,o,P,S,T,p,λw v Y pw s r=>k w v Y pw s (r.s S.dom)⟩
theorem RZ(f:List Nat)(e:CE):fH Φ Ψ G (.Ag f e):=by
 intro S X m b w k;obtain⟨j,h,p,v,q,rfl,g⟩:=uR k;simp only[AN]at g;obtain⟨⟨⟨c,i⟩,n⟩,a⟩:=g;split at c;rotate_left
 .cases c
 rename_i xs hxs
 have r:PG X (.Tuple j h p) (gT X.K false f):=LH b.calm b.nd (by dsimp only[T9];rw[hxs];rfl) (mR b c);have d:swappedStores [.Tuple j h p] v X.env=pure none:=by
  rcases g6 a with a|a
  .exact Cv a _ _ _ _
  .obtain⟨t,i,x,rfl,l⟩:=d8 a;exact HA b (D1 l)
 exact QD (te:=λR=>wE Φ G R e) (λ{u} o=>zy o r (Cu _ _) d rfl) (p8 i) λR=>(snd Φ Ψ G e).s b.toXOk n R
theorem yO{X:Cx}{a:List Nat}{x:Str}{b:List Str}(h:fG X a (x::b)):∃i r,a=i::r/\kR X i x/\fG X r b:=by
 cases a with
 |nil=>cases h
 |cons i r=>obtain⟨_,_,e,d,c⟩:=h;cases e;exact⟨i,r,rfl,d,c⟩
theorem LU{X:Cx}{a:List Nat}(h:fG X a []):a=[]:=by
 cases a with
 |nil=>rfl
 |cons i r=>obtain⟨_,_,e,_⟩:=h;cases e
theorem LV{X:Cx}{a:List Nat}{x y:Str}(h:fG X a [x,y]):∃i j,a=[i,j]/\kR X i x/\kR X j y:=by obtain⟨i,r,rfl,e,d⟩:=yO h;obtain⟨j,r,rfl,c,b⟩:=yO d;cases LU b;exact⟨i,j,rfl,e,c⟩
theorem R3{α:Type}{l:List α}(h:l.length=2):∃a b,l=[a,b]:=by rcases l with _|⟨a,_|⟨b,_|_⟩⟩<;>first|exact⟨_,_,rfl⟩|(simp at h;done)
theorem rV{b:List Expr}{x:Str}{c:List Str}(h:G8 b=some (x::c)):∃p r,b=.Name x p::r/\G8 r=some c:=by
 cases b with
 |nil=>cases h
 |cons e b=>
  cases e with
  |Name a p=>obtain⟨l,d,e⟩:=OF.mp h;cases e;exact⟨_,_,rfl,d⟩
  |_=>exact nn h
theorem Cy{b:List Expr}(h:G8 b=some []):b=[]:=by
 cases b with
 |nil=>rfl
 |cons e b=>
  cases e with
  |Name a p=>obtain⟨l,c,e⟩:=OF.mp h;cases e
  |_=>exact nn h
theorem LW{a:List Expr}{x y:Str}(h:G8 a=some [x,y]):∃p q,a=[.Name x p,.Name y q]:=by obtain⟨p,r,rfl,c⟩:=rV h;obtain⟨q,r,rfl,b⟩:=rV c;rw[Cy b];exact⟨_,_,rfl⟩
theorem LX{S:SE}{a vs:List Expr}{b:List Str}(h:Ua S a vs=some (some b)):(a.length=2\/a.length=3)/\vs.length=a.length:=by
 unfold Ua at h;split at h
 .cases h
 .rename_i c
  simp only[sv,ox,bne_iff_ne,not_or,Bool.not_eq_false,NA,ne_eq,i1]at c;exact c
theorem LY{b:List Expr}{a:List Str}(h:G8 b=some a):b.length=a.length:=by
 induction a generalizing b with
 |nil=>rw[Cy h];rfl
 |cons x a c=>obtain⟨p,r,rfl,d⟩:=rV h;rw[A3,A3,c d]
theorem R4(J:List Nat)(A:List CE):fH Φ Ψ G (.par J A):=by
 intro S X m l st k;obtain⟨tg,L,p,d,u,K,q,rfl,F⟩:=D7 k;simp only[AN]at F;obtain⟨⟨⟨f,k2⟩,P⟩,M⟩:=F;split at f;rotate_left
 .cases f
 rename_i xs hxs
 simp only[AN]at f;obtain⟨⟨⟨f,r⟩,z⟩,O⟩:=f;have r:=D1 r;have z:=D1 z;obtain⟨g,I⟩:=LX r;have T:=HA l (k:=L) (k2:=u) (p:=p) (p2:=K) r;have c:∀x∈xs,X.env.scope.names.lookup x=some .local:=λx Q=>by rw[l.nk];exact NA.mp (KB.mp O x Q)
 have U:=mR l f;refine QE (ta:=λR=>wA Φ G R A) (λ{tv} Z=>?_) (p8 k2) λR=>(oi Φ Ψ G A).1.a l.toXOk d P R;have Y:∀{a b:Nat}{x y:Str},x≠y->X.N[a]?=some x->X.N[b]?=some y->a≠b:=λn s o e=>by rw[e,o]at s;exact n (Kk s).symm
 rcases g with g|g
 .obtain⟨x,y,rfl⟩:=R3 ((LY hxs).symm.trans g);obtain⟨p1,p2,rfl⟩:=LW hxs;obtain⟨i,j,rfl,E,C⟩:=LV U;obtain⟨a,b,rfl⟩:=R3 (I.trans g);refine PS.imp (OC l.calm l.nd E.1 C.1 (Y (by simpa using z) E.1 C.1) (c x (by simp)) (c y (by simp)) Z T) λD B H h=>?_;have e:(λ(d:List V) t=>d.length=[i,j].length/\D.nx (cY B [i,j] d) t)=λd t=>∃v w,d=[v,w]/\D.nx ((B.set i (some v)).set j (some w)) t:=by
   funext d t;refine propext ⟨?_,?_⟩
   .rintro⟨s,o⟩;obtain⟨v,w,rfl⟩:=R3 s;exact⟨v,w,rfl,o⟩
   .rintro⟨v,w,rfl,o⟩;exact⟨rfl,o⟩
  rw[e]at h;exact h
 .exact absurd ((D1 M).symm.trans (I.trans g)) (by decide)
theorem yP{S:SE}{i:Nat}{o:Expr}(h:mJ S i o=true)(nm:Str)(env:Env):attributeBase o nm env (eval o env)=eval o env:=by
 cases o with
 |Name x p=>rfl
 |_=>exact ff h
theorem R5(i:Nat)(e:CE):fH Φ Ψ G (.app i e):=by intro S X m g p k;obtain⟨o,r,u,v,t,q,rfl,c⟩:=HB k;simp only[AN]at c;obtain⟨⟨⟨⟨a,j⟩,h⟩,f⟩,d⟩:=c;have a:=D1 a;subst a;have b:=aL (bC (.inl d)) [] X.env;refine QH (te:=λR=>wE Φ G R e) (λ{n} l=>?_) (jY h) λR=>(snd Φ Ψ G e).s g.toXOk d R;exact Bf (Vb PySem.F.plainAttrs_list PySem.F.slot_list_append PySem.F.type_list_append uA (eT g.toXOk f) (ay l aY b) (yP f _ _) (by rw[b];rfl) j b rfl) rfl
theorem R6(i:Nat)(a e:CE):fH Φ Ψ G (.put i a e):=by
 intro S X m b y k;obtain⟨o,j,p,v,q,rfl,c⟩:=D8 k;simp only[AN]at c;obtain⟨⟨⟨⟨l,h⟩,g⟩,f⟩,d⟩:=c;have t:∀u,assign (.Subscript o j p) X.env u=(do
  let ov<-holding [u] (eval o X.env)
  let iv<-holding [u,ov] (eval j X.env)
  standAt p
  holding [u,ov,iv] (setItem ov iv u)
  release [u,ov,iv] []):=by
  intro u;cases j with
  |Slice _ _ _ _=>exact ff g
  |_=>rfl
 refine QI (te:=λR=>wE Φ G R e) (t1:=λR=>wE Φ G R a) (λ{w x} n r=>?_) (jY l) (λR=>(snd Φ Ψ G e).s b.toXOk d R) λR=>(snd Φ Ψ G a).s b.toXOk f R;exact zy (pos:=q) n (OB (eT b.toXOk h) r set_list t) (Hy _ _) (Hz _) rfl
theorem R7{c:List (Nat×Nat)}{f g:Nat}(h:c.any (λy=>y.1==f&&y.2==g)=true):(f,g)∈c:=by obtain⟨⟨a,b⟩,d,e⟩:=W4.mp h;rw[AN]at e;cases NA.mp e.1;cases NA.mp e.2;exact d
theorem HK:∀{S:SE}{c:CE}{e:Expr},f9 S c e=true->noStar e=true:=λ{S c e} h=>by
 cases e with
 |Starred v p=>
  have f:aJ S false c (.Starred v p)=true->False:=λz=>by have:=bC (.inl z);exact ff this
  cases c<;>first|exact ff h;done|exact(f h).elim
 |_=>rfl
theorem om{S:SE}:∀{c:List CE}{b:List Expr},mP S c b=true->b.all noStar=true
 |[],b,h=>by rw[Hn.mp h];rfl
 |a::c,[],h=>by cases h
 |a::c,e::b,h=>by have h:=a2 h;rw[Gu,HK h.1,om h.2];rfl
theorem dj{S:SE}{X:Cx}(a:XOk S Φ Ψ G X)(R:Addr->Prop){c:CE}{v:Expr}(d:f9 S c v=aJ S false c v)(b:wP Φ G R c=λε Q=>wE Φ G R c ε λw=>Q w ε)(k:f9 S c v=true):VP X S.M R v (wP Φ G R c):=by rw[d]at k;rw[b];exact Wi ((snd Φ Ψ G c).s a k R)
mutual
theorem cC{S:SE}{X:Cx}(d:XOk S Φ Ψ G X)(R:Addr->Prop):∀(e:CE)(v:Expr),f9 S e v=true->VP X S.M R v (wP Φ G R e)
 |.pop i,v,k=>by obtain⟨o,mt,ap,cp,rfl,h⟩:=kQ k;simp only[AN]at h;obtain⟨⟨⟨s,A⟩,j⟩,t⟩:=h;have s:=D1 s;subst s;exact QM (jY j) (eT d t) (yP t _ _) A
 |.pI i f z,v,k=>by
  obtain⟨x,q,u,p,rfl,h⟩:=aM k;simp only[AN]at h;obtain⟨⟨⟨⟨s,A⟩,j⟩,t⟩,m⟩:=h;obtain⟨P,O,g3⟩:=cL d A;obtain⟨Y,n,L,N,F,C,D⟩:=d.fns f x (NA.mp s) (by simpa using j);rw[<-d.Ar]at t;cases u with
  |nil=>exact ff m
  |cons e u=>
   rw[oX,AN]at m;have e0:noStar e=true:=by
    cases e with
    |Name _ _=>rfl
    |_=>exact ff m.1
   cases B:Ψ f with
   |io Q=>rw[B]at t F;exact QY (p:=q) (pos:=p) F C P N (iR t) D (eT d m.1) (gb d R z u m.2) O (aL e0 _ _) (cM (om m.2) _ _)
   |_=>rw[B]at t;exact ff t
 |.Ey i g f z,v,k=>by
  obtain⟨o,x,ap,u,p,rfl,h,H,E⟩:=uS k;simp only[AN]at h;obtain⟨⟨⟨⟨s,A⟩,j⟩,t⟩,m⟩:=h;obtain⟨fa,fd,ps,n,L,U,T,F,C,D⟩:=d.Jt f g x (NA.mp s) (R7 A);rw[<-d.Ar]at j;cases o with
  |Name y py=>
   cases B:Ψ f with
   |io Q=>
    rw[B]at j F;cases Q with
    |o Z ms=>
     have j:(hasB S.M i (.o Z ms)&&!Z.contains x)=true:=j;rw[AN]at j;cases z with
     |nil=>
      have:u=[]:=by exact Hn.mp m
      subst this;exact Lp (G:=G g) U F C T (iR j.1) (by simpa using j.2) D (eT d t) (uT (cM (om m) _ _) E H)
     |cons a z=>
      cases u with
      |nil=>exact ff m
      |cons e u=>have I:=m;have I:=a2 I;exact QZ (G:=G g) U F C T (iR j.1) (by simpa using j.2) D (eT d t) (gb d R (a::z) (e::u) m) (aL (HK I.1) _ _) (cM (om I.2) _ _) (uT (cM (om m) _ _) E H)
    |_=>exact ff j
   |_=>rw[B]at j;exact ff j
  |_=>exact ff t
 |.bin op a b,v,k=>by obtain⟨l,o,r,p,rfl,h⟩:=n8 k;simp only[AN]at h;obtain⟨⟨s,A⟩,j⟩:=h;have s:=D1 s;subst s;exact QN (cC d R a l A) (cC d R b r j)
 |.cmp op a b,v,k=>by obtain⟨l,o,r,p,rfl,h⟩:=n9 k;simp only[AN]at h;obtain⟨⟨⟨⟨s,t⟩,m⟩,A⟩,j⟩:=h;have s:=D1 s;subst s;exact QO d.un (qu r (op:=op) (by simpa using t) (by simpa using m)) (cC d R a l A) (cC d R b r j)
 |.call f z,v,k=>by
  obtain⟨x,q,u,p,rfl,h⟩:=aM k;simp only[AN]at h;obtain⟨⟨⟨⟨⟨s,A⟩,j⟩,m⟩,k6⟩,t⟩:=h;obtain⟨P,O,g3⟩:=cL d A;obtain⟨Y,n,L,N,F,C,D⟩:=d.fns f x (NA.mp s) (by simpa using k6);have F:cU X.prog X.w X.K X.mg X.base L Y n (NJ X.K n (Ψ f) (Φ f)):=by rw[<-d.Ar]at m;cases B:Ψ f<;>rw[B]at m F<;>first|exact F|exact ff m
  have J:=om t;cases u with
  |nil=>exact ff j
  |cons e u=>rw[Gu,AN]at J;exact Ln (p:=q) (pos:=p) F C P N D (gb d R z _ t) O (aL J.1 _ _) (cM J.2 _ _)
 |.blt b z,v,k=>dj d R rfl rfl k
 |.ix a b,v,k=>by obtain⟨l,r,p,rfl,h⟩:=fY k;simp only[AN]at h;obtain⟨⟨s,A⟩,j⟩:=h;exact Wj (wD s) (cC d R a l A) (cC d R b r j)
 |.lst z,v,k=>by obtain⟨u,p,rfl,h⟩:=mK k;exact Q8 (gb d R z u h)
 |.tup z,v,k=>by obtain⟨u,kd,p,rfl,h⟩:=d8 k;exact Q9 (gb d R z u h)
 |.and _,v,k=>by cases k
 |.or _,v,k=>by cases k
 |.var i,v,k=>dj d R rfl rfl k
 |.int i,v,k=>dj d R rfl rfl k
 |.bl i,v,k=>dj d R rfl rfl k
 |.str i,v,k=>dj d R rfl rfl k
 |.bu,v,k=>dj d R rfl rfl k
 |.B5 n,v,k=>dj d R rfl rfl k
 |.glob g,v,k=>dj d R rfl rfl k
 |.neg a,v,k=>dj d R rfl rfl k
 |.not a,v,k=>dj d R rfl rfl k
 |.ite c a b,v,k=>dj d R rfl rfl k
 |.sl a b c,v,k=>dj d R rfl rfl k
 |.bits a,v,k=>dj d R rfl rfl k
 |.comp ts one n i c x,v,k=>dj d R rfl rfl k
 |.ny z,v,k=>dj d R rfl rfl k
 |.uK a,v,k=>dj d R rfl rfl k
 |.rev a,v,k=>dj d R rfl rfl k
 |.own i π,v,k=>dj d R rfl rfl k
 |.B6 is a,v,k=>dj d R rfl rfl k
 |.PZ is a,v,k=>dj d R rfl rfl k
 |.P4 f a z,v,k=>dj d R rfl rfl k
theorem gb{S:SE}{X:Cx}(d:XOk S Φ Ψ G X)(R:Addr->Prop):∀(c:List CE)(b:List Expr),mP S c b=true->Lg X S.M R b (Jo Φ G R c)
 |[],b,k=>by rw[Hn.mp k];exact Lk
 |a::c,[],k=>by cases k
 |a::c,e::b,k=>by have k:=a2 k;exact GX (aL (HK k.1) _ _) (cC d R a e k.1) (gb d R c b k.2)
end
theorem Cz{v:Expr}(a:Ct v=true)(b:Hq v=true)(t:Option Expr)(l:Nat)(env:Env):swapsWith v t l env=pure false:=by
 cases v with
 |ListComp _ _ _ _=>exact ff b
 |SetComp _ _ _ _=>exact ff a
 |DictComp _ _ _ _ _=>exact ff a
 |_=>rfl
theorem nsc{v:Expr}(h:Ax v=true):Ct v=true:=by cases v<;>first|rfl|exact ff h
theorem LZ(i:Nat):fH Φ Ψ G (.drop i):=by intro S X m e f k;obtain⟨v,q,rfl,a⟩:=yK k;simp only[AN]at a;obtain⟨⟨d,c⟩,b⟩:=a;exact Lm (tt:=λR=>wP Φ G R (.pop i)) λR=>Bf (cC e.toXOk R _ v b) (Cz (nsc c) d _ _ _)
theorem L3(j:Nat)(e:CE):fH Φ Ψ G (.mD j e):=by intro S X m a o k;obtain⟨x,p,v,q,rfl,b⟩:=j5 k;simp only[AN]at b;obtain⟨⟨⟨⟨h,g⟩,d⟩,c⟩,f⟩:=b;have n:=oj a h;exact Ll (tt:=λR=>wP Φ G R e) (λ{l} i=>iB a.nd n.1 n.2.1 i (Cz (nsc c) d _ _ _) n.2.2) (mG (by simpa using g)) λR=>cC a.toXOk R _ v f
theorem R8(c:List Nat)(e:CE):fH Φ Ψ G (.VW c e):=by
 intro S X m a r k;obtain⟨n,f,p,v,q,rfl,d⟩:=uR k;simp only[AN]at d;obtain⟨⟨⟨b,i⟩,g⟩,h⟩:=d;split at b;rotate_left
 .cases b
 rename_i xs hxs
 have l:PG X (.Tuple n f p) (gT X.K false c):=LH a.calm a.nd (by dsimp only[T9];rw[hxs];rfl) (mR a b);exact QT (tt:=λR=>wP Φ G R e) (λ{o} j=>zy j l (Cu _ _) (Cv g _ _ _ _) rfl) (p8 i) λR=>cC a.toXOk R _ v h
theorem R9(e:CE):fH Φ Ψ G (.ret e):=by
 intro S X m f h k;rcases yL k with⟨v,q,rfl,a⟩|⟨q,rfl,a⟩
 .unfold WE at a;rw[AN]at a;obtain⟨c,a⟩:=a;have c:dO m=false:=by simpa using c
  rcases g6 a with a|d
  .rcases g6 a with a|a
   .rw[AN]at a;have g:m=.s:=by cases m<;>first|rfl|exact ff a.1
    rcases g6 a.2 with b|b
    .exact GV (te:=λR=>wE Φ G R e) (λR=>(snd Φ Ψ G e).e (f.toXOk.pK []) v b R) (.inr g) c
    .subst g;exact Le (te:=λR=>wE Φ G R e) λR=>(snd Φ Ψ G e).s f.toXOk b R
   .rw[AN]at a;exact GV (te:=λR=>wE Φ G R e) (λR=>RW (f.toXOk.pK []) a.2 R) (.inl (rR a.1)) c
  .unfold WD at d;split at d
   .rename_i i hv
    obtain rfl:=Ea hv;have b:=a2 d;exact Lf (eT f.toXOk b.2) (iR b.1) c
   .exact ff d
 .rw[AN]at a;obtain rfl:=uU a.1;cases m<;>try exact ff a.2
  exact LP
theorem CA{S:SE}{m:Md}(h:RT S m=true):∃k,m=.io k/\(0,k)∈S.M:=by
 cases m with
 |io k=>exact⟨k,rfl,iR h⟩
 |_=>exact ff h
theorem Sa(e:CE):fH Φ Ψ G (.B7 e):=by
 intro S X m d f k;rcases yL k with⟨v,q,rfl,a⟩|⟨q,rfl,a⟩
 .rw[AN]at a;obtain⟨c,rfl,b⟩:=CA a.1;exact QW (te:=λR=>wE Φ G R e) (λR=>(snd Φ Ψ G e).s d.toXOk a.2 R) b
 .rw[AN]at a;obtain⟨c,rfl,b⟩:=CA a.2;obtain rfl:=uU a.1;exact QX b
theorem jD{S:SE}{X:Cx}(e:XOk S Φ Ψ G X)(R:Addr->Prop)(c:CE)(v:Expr)(k:o8 S c v=true):EA X S.M R v (wP Φ G R c):=by
 have fall:∀{c:CE},o8 S c v=(aJ S false c v&&D4 c)->(wP Φ G R c=λm Q=>wE Φ G R c m λw=>Q w m)->o8 S c v=true->EA X S.M R v (wP Φ G R c):=λ{c} C B k=>by rw[C,AN]at k;rw[B];exact QL ((snd Φ Ψ G c).t e v k.1 k.2 R)
 cases c with
 |cmp op a b=>have k:f9 S (.cmp op a b) v=true:=k;obtain⟨l,o,r,p,rfl,n⟩:=n9 k;simp only[AN]at n;obtain⟨⟨⟨⟨j,y⟩,u⟩,A⟩,z⟩:=n;have j:=D1 j;subst j;exact Lh e.un (qu r (op:=op) (by simpa using y) (by simpa using u)) (cC e R a l A) (cC e R b r z)
 |pI i f d=>have k:f9 S (.pI i f d) v=true:=k;have h:=cC e R _ v k;obtain⟨x,q,s,p,rfl,_⟩:=aM k;exact wz (λ_=>rfl) h
 |Ey i g f d=>have k:f9 S (.Ey i g f d) v=true:=k;have h:=cC e R _ v k;obtain⟨o,x,D,s,p,rfl,_⟩:=uS k;exact wz (λ_=>rfl) h
 |call f d=>have k:f9 S (.call f d) v=true:=k;have h:=cC e R _ v k;obtain⟨x,q,s,p,rfl,_⟩:=aM k;exact wz (λ_=>rfl) h
 |pop i=>exact ff k
 |bin op a b=>exact ff k
 |blt b d=>exact ff k
 |ix a b=>exact ff k
 |lst d=>exact ff k
 |tup d=>exact ff k
 |and d=>exact ff k
 |or d=>exact ff k
 |_=>exact fall rfl rfl k
theorem yQ{S:SE}{X:Cx}(d:XOk S Φ Ψ G X)(R:Addr->Prop){pos:Pos}:∀(g:List CE)(c:List Expr),mQ S g c=true->NN X S.M R (.BoolOp .And c pos) (AY Φ G R g)
 |[],c,k=>by cases k
 |[a],c,k=>by obtain⟨e,rfl,k⟩:=dW k;exact GW (jD d R a e k)
 |a::b::f,c,k=>by
  cases c with
  |nil=>exact ff k
  |cons e c=>
   have k:o8 S a e=true/\mQ S (b::f) c=true:=a2 k;have h:=yQ d R (pos:=pos) (b::f) c k.2;cases c with
   |nil=>cases f<;>exact ff k.2
   |cons i c=>exact Li (jD d R a e k.1) h
theorem yR{S:SE}{X:Cx}(d:XOk S Φ Ψ G X)(R:Addr->Prop){pos:Pos}:∀(g:List CE)(c:List Expr),mQ S g c=true->NN X S.M R (.BoolOp .Or c pos) (Ju Φ G R g)
 |[],c,k=>by cases k
 |[a],c,k=>by obtain⟨e,rfl,k⟩:=dW k;exact Lj (jD d R a e k)
 |a::b::f,c,k=>by
  cases c with
  |nil=>exact ff k
  |cons e c=>
   have k:o8 S a e=true/\mQ S (b::f) c=true:=a2 k;have h:=yR d R (pos:=pos) (b::f) c k.2;cases c with
   |nil=>cases f<;>exact ff k.2
   |cons i c=>exact QS (jD d R a e k.1) h
theorem yS{S:SE}{X:Cx}(f:XOk S Φ Ψ G X)(R:Addr->Prop)(c:CE)(v:Expr)(k:Hv S c v=true):EA X S.M R v (wP Φ G R c):=by
 cases c with
 |and d=>have k:Rc (λo b=>decide (o=.And)&&mQ S d b) v=true:=k;obtain⟨o,b,p,rfl,a⟩:=jZ k;rw[AN]at a;have e:=D1 a.1;subst e;exact PW.pt (yQ f R d b a.2)
 |or d=>have k:Rc (λo b=>decide (o=.Or)&&mQ S d b) v=true:=k;obtain⟨o,b,p,rfl,a⟩:=jZ k;rw[AN]at a;have e:=D1 a.1;subst e;exact PW.pt (yR f R d b a.2)
 |_=>exact jD f R _ v k
theorem Sb(c:CE){a b:List CS}(j:g9 Φ Ψ G a)(i:g9 Φ Ψ G b):fH Φ Ψ G (.T4 c a b):=by intro S X m d l k;obtain⟨t,x,y,q,rfl,e⟩:=yM k;simp only[AN]at e;obtain⟨⟨h,g⟩,f⟩:=e;exact QU (tt:=λR=>wP Φ G R c) (λR=>yS d.toXOk R c t h) (j d x g) (i d y f)
theorem Sd(c:CE){b:List CS}(e:g9 Φ Ψ G b):fH Φ Ψ G (.T5 c b):=by intro S X m d f k;obtain⟨t,x,q,rfl,a⟩:=yN k;simp only[AN]at a;exact QV (yS d.kH.toXOk _ c t a.1) (e d.kH x a.2)
theorem L4{S:SE}{i n:Nat}{x:Str}(h:RU S i n x=true):∃b a,(i,.o b a)∈S.M/\b[n]?=some x/\a[n]?=some .s:=by
 unfold RU at h;split at h
 .rename_i b a hl
  rw[AN]at h;obtain⟨d,c⟩:=h;split at c
  .rename_i k hk
   have:k=.s:=by cases k<;>first|rfl|exact ff c
   subst this;exact⟨b,a,jB hl,NA.mp d,hk⟩
  .cases c
 .cases h
theorem Se(i n:Nat)(e:CE):fH Φ Ψ G (.DP i n e):=by intro S X m b t k;obtain⟨o,x,p,v,q,rfl,a⟩:=D9 k;simp only[AN]at a;obtain⟨⟨f,d⟩,c⟩:=a;obtain⟨w,u,l,j,h⟩:=L4 f;exact Q6 (te:=λR=>wE Φ G R e) (λ{r} g=>gy (eT b.toXOk d) g (by cases v<;>rfl)) l j h λR=>(snd Φ Ψ G e).s b.toXOk c R
theorem Sg:fH Φ Ψ G .brk:=by
 intro S X m b a k;cases a with
 |Break _=>exact QC
 |_=>exact ff k
theorem HL(g:Nat)(e:CE):fH Φ Ψ G (.raise g e):=by
 intro S X m b E k;obtain⟨x,F,v,L,q,rfl,l⟩:=Ay k;simp only[AN]at l;obtain⟨⟨f,p⟩,n⟩:=l;have f:=NA.mp f;show VS X S.M m _ (λD i=>match G g with|.cls C=>wE Φ G D.ex e i λ_=>D.ex C|_=>False);obtain⟨u,z,t,r,a⟩:=b.Hf g x f;obtain⟨y,w,J⟩:=cL b.toXOk p;by_cases o:∃C,G g=.cls C
 .obtain⟨C,c⟩:=o;rw[c]at a⊢;have hz:=a (λ_=>False) (λ_=>none);dsimp only[Rep]at hz;subst hz;cases r;exact HE (te:=λR=>wE Φ G R e) b.calm y t (b.EB g x C f c) (λR=>(snd Φ Ψ G e).s b.toXOk n R) (aL (bC (.inl n)) [] X.env) w
 .rintro j s B H D I ⟨A,N,i,d,S,K,hz,h,_⟩;cases c:G g<;>rw[c]at h<;>first|exact h.elim|exact(o ⟨_,c⟩).elim
theorem WH(c:CE){a b:List CS}(l:g9 Φ Ψ G a)(j:g9 Φ Ψ G b):fH Φ Ψ G (.iff c a b):=by intro S X m d n k;obtain⟨t,x,y,q,rfl,e⟩:=yM k;simp only[AN]at e;obtain⟨⟨⟨i,h⟩,g⟩,f⟩:=e;exact Wg (tc:=λR=>wE Φ G R c) (λR=>(snd Φ Ψ G c).t d.toXOk t i h R) (l d x g) (j d y f)
theorem Sh(c:CE){b:List CS}(h:g9 Φ Ψ G b):fH Φ Ψ G (.GG c b):=by intro S X m d i k;obtain⟨t,x,q,rfl,a⟩:=yN k;simp only[AN]at a;obtain⟨⟨g,f⟩,e⟩:=a;exact QJ ((snd Φ Ψ G c).t d.kH.toXOk t g f _) (h d.kH x e)
theorem Si(h:List Nat)(one:Bool)(e:CE){b:List CS}(t:g9 Φ Ψ G b):fH Φ Ψ G (.fr h one e b):=by
 intro S X m c u k;obtain⟨f,i,x,q,rfl,a⟩:=HC k;unfold frB at a;split at a;rotate_left
 .cases a
 rename_i o xs RM
 simp only[AN]at a;obtain⟨⟨⟨⟨⟨⟨d,s⟩,r⟩,n⟩,g⟩,l⟩,j⟩:=a;have d:=NA.mp d;subst d;refine QK (ti:=λR=>wE Φ G R e) c.calm (p8 r) ((snd Φ Ψ G e).i c.kH.toXOk f false i (by rw[l];rfl) (λz=>?_) _) (LH (X:=X.kH) c.calm c.kH.nd RM (mR c.kH s)) (t c.kH x j) (yH n _);have:one=false:=by rw[z]at g;simpa using g
 subst this;cases f with
 |Tuple v a p=>exact⟨_,_,_,rfl⟩
 |Name y p=>cases RM
 |_=>exact nn RM
theorem L5:g9 Φ Ψ G []:=by intro S X m b a k;rw[Hn.mp k];exact Lb
def NY(Φ:Nat->aZ)(Ψ:Nat->Md)(G:Nat->W):CS->Prop
 |.NC _ b=>g9 Φ Ψ G b
 |_=>True
theorem L6{S:SE}{m:Md}{s:CS}{a:List CS}{st:List Stmt}(k:c6 S Ψ m (s::a) st=true):(∃c b,s=.NC c b/\(a.isEmpty&&(!dO m||!c.contains 0)&&c6 (S.lend c) Ψ m b st)=true)\/Hu (λe=>Hw S Ψ m s e) (λd=>c6 S Ψ m a d) st=true:=by
 cases s<;>first|exact .inr k|exact .inl ⟨_,_,rfl,k⟩
theorem HM{s:CS}{c:List CS}(h:fH Φ Ψ G s/\NY Φ Ψ G s)(v:g9 Φ Ψ G c):g9 Φ Ψ G (s::c):=by
 intro S X m a d k;rcases L6 k with⟨u,b,rfl,o⟩|k
 .obtain⟨n,p⟩:=a2 o;obtain⟨l,f⟩:=a2 n;cases Hn.mp l;have q:dO m=true->aO S.M 0->aO (S.lend u).M 0:=by rintro e ⟨g,A⟩;rw[e]at f;exact⟨g,T1.mpr ⟨A,f⟩⟩
  have w:g9 Φ Ψ G b:=h.2;exact Ld (w (a.pK _ λi m j y x=>a.Hx i m j (g7 _ y) (g7 _ x)) d p) g7 q
 have h:fH Φ Ψ G s:=h.1;cases d with
 |nil=>exact ff k
 |cons e r=>
  have k:Hw S Ψ m s e=true/\c6 S Ψ m c r=true:=a2 k;cases c with
  |nil=>
   have:r=[]:=by have:=k.2;exact Hn.mp this
   subst this;exact Lc (h a e k.1)
  |cons t B=>have z:=GU (h a e k.1) (v a r k.2);exact z
theorem NZ{m:Md}{i:Nat}(h:(!dO m||!(i==0))=true):dO m=true->i≠0:=λz y=>by rw[z,y]at h;cases h
theorem Sj(i:Nat)(U e:CE):fH Φ Ψ G (.VU i U e):=by
 intro S X m t st k;obtain⟨x,p,v,q,rfl,T⟩:=j5 k;simp only[AN]at T;obtain⟨⟨⟨⟨k0,k1⟩,k2⟩,k3⟩,k4⟩:=T;have hm:=jY k1;have hL:yJ (S.less i) Φ Ψ G X:=t.pK (S.less i).M λa b c h1 h2=>t.Hx a b c (T1.mp h1).1 (T1.mp h2).1;have B:=oj t k0;obtain⟨o,Z,l,J,d,pp,rfl,T⟩:=oh k4;have n:=NX hL (e:=.ListComp o [⟨Z,l,J,0⟩] d pp) rfl x p q.line;obtain⟨u,hn,hlt,ho,L,_,k8,k9,Hj,hr⟩:=uQ hL.toXOk T;have en:yE U=false:=by simpa using k3
 refine Q7 (M':=(S.less i).M) (ti:=λR=>wE Φ G R U) (te:=wP Φ G (λ_=>False) e) (λR=>?_) (λj=>rS hm λm' h'=>t.Hx i _ _ h' hm) rT (NZ k2);have Nj:=(snd Φ Ψ G U).i hL.toXOk Z false l (by rw[k8];rfl) (λz=>by rw[en]at z;cases z) R;have:J=[]:=Hn.mp k9;subst this;rw[hn];intro f s E H D I hw;have q4:∀C F y O,PE (aT X d C u (mask u (S.less i).N) F y O) o (tP0 X.K (up (S.less i).M u.length) (wP Φ G (λ_=>False) e)):=λC F y O=>PE.imp (cC (hr f s E H I C F y O).2 (λ_=>False) e o Hj)<|by rintro E H Q ⟨A,y,ε,P,S',h,k⟩;exact⟨A,y,ε,P,S',.none,h,λA' w v H' Y pw g s r=>k A' w v H' Y pw g.ab s r⟩
 have q1:=λC F y O=>(hr f s E H I C F y O).1;cases hb:XI (S.less i) x p (.ListComp o [⟨Z,l,[],0⟩] d pp)with
 |false=>rw[hb]at n;exact iB t.nd B.1 B.2.1 (vA u (mask u (S.less i).N) t.calm ho Nj q1 (λ_ _ _ _=>vt) q4 L) n B.2.2 f s E H D I hw
 |true=>rw[hb]at n;exact Bv u (mask u (S.less i).N) t.nd B.1 B.2.1 t.calm ho Nj q1 (λ_ _ _ _=>vt) q4 n L B.2.2 f s E H D I hw
theorem Sk(i:Nat)(e:List CE):fH Φ Ψ G (.VV i e):=by intro S X m d C k;obtain⟨x,p,v,q,rfl,f⟩:=j5 k;simp only[AN]at f;obtain⟨⟨⟨s,r⟩,o⟩,l⟩:=f;have g:=jY r;have u:yJ (S.less i) Φ Ψ G X:=d.pK (S.less i).M λa b c y w=>d.Hx a b c (T1.mp y).1 (T1.mp w).1;have n:=oj d s;obtain⟨A,D,rfl,h⟩:=mK l;exact Rb (M':=(S.less i).M) (tl:=λR=>Jo Φ G R e) (λ{B} t=>iB d.nd n.1 n.2.1 t rfl n.2.2) (λj=>rS g λE z=>d.Hx i _ _ z g) rT (NZ o) λR=>kK (gb u.toXOk R e A h)
theorem Sl:fH Φ Ψ G .KJ:=by rintro S X m g e k a s b H D I ⟨A,j,c,d,S,i,hz,h,f⟩;exact G1 h
variable(Φ Ψ G)
mutual
theorem WI:∀s:CS,fH Φ Ψ G s/\NY Φ Ψ G s
 |.set i e=>⟨RY i e,trivial⟩
 |.Ag d e=>⟨RZ d e,trivial⟩
 |.par d h=>⟨R4 d h,trivial⟩
 |.app i e=>⟨R5 i e,trivial⟩
 |.put i k e=>⟨R6 i k e,trivial⟩
 |.drop i=>⟨LZ i,trivial⟩
 |.mD j e=>⟨L3 j e,trivial⟩
 |.ret e=>⟨R9 e,trivial⟩
 |.iff c a b=>⟨WH c (jE a) (jE b),trivial⟩
 |.GG c b=>⟨Sh c (jE b),trivial⟩
 |.fr d one f b=>⟨Si d one f (jE b),trivial⟩
 |.brk=>⟨Sg,trivial⟩
 |.raise g e=>⟨HL g e,trivial⟩
 |.DP i n e=>⟨Se i n e,trivial⟩
 |.B7 e=>⟨Sa e,trivial⟩
 |.T4 c a b=>⟨Sb c (jE a) (jE b),trivial⟩
 |.T5 c b=>⟨Sd c (jE b),trivial⟩
 |.KJ=>⟨Sl,trivial⟩
 |.VU i f e=>⟨Sj i f e,trivial⟩
 |.VV i l=>⟨Sk i l,trivial⟩
 |.VW d e=>⟨R8 d e,trivial⟩
 |.NC m b=>⟨λ_ _ k=>(by cases k),jE b⟩
theorem jE:∀a:List CS,g9 Φ Ψ G a
 |[]=>L5
 |s::a=>HM (WI s) (jE a)
end
end
structure Tab(P:Program)(w:World)(K:Frag)(mg:Str->Option Value)(base:Heap)(fn gn zn:List Str)(md:List Md)(mt:List (Nat×Nat))(Φ:Nat->aZ)(G:Nat->W)(k:Nat):Prop where
 fns:∀(j:Nat)(x:Str),fn[j]?=some x->mt.any (·.1==j)=false->∃fv n k',mg x=some fv/\cU P w K mg base k' fv n (oV K n (fF md j) (Φ j))/\k'<=k/\∀ws P R,Φ j ws P R->ws.length=n
 Jt:∀(j g:Nat)(x:Str),fn[j]?=some x->(j,g)∈mt->∃f fd ps n k',(∀C,G g=.cls C->Meth K C x f)/\Binds K fd ps []/\bK P w K mg base (ji P w) k' f fd ps (oV K n (fF md j) (Φ j))/\k'<=k/\∀ws P R,Φ j ws P R->ws.length=n
 Hf:∀(j:Nat)(x:Str),gn[j]?=some x->∃u v,mg x=some u/\RelV v u/\∀B H,Rep K B H (G j) v
 Cq:∀x∈zn,mg x=none
 kit:yu K
 EB:∀j x C,gn[j]?=some x->G j=.cls C->tD K C
def ao(n:Nat)(a:List W):Ev:=a.map some++A6 (n -a.length) none
noncomputable def fall:Md->(W->Prop)->Ev->Prop
 |.s,P,_=>P .bu
 |.io _,P,ε=>match look ε 0 with
  |some a=>P (.tup [.bu,a])
  |none=>False
 |_,_,_=>False
section
variable{K:Frag}{A:Addr->Prop}{H:Hp}{N:List Str}{ws:List W}{vs:List V}{M:Ms}
theorem kT{i:Nat}{w:W}(hi:ws.length<=i)(e:look (ao N.length ws) i=some w):False:=by
 rw[aW]at e;unfold ao at e;rw[Jn (by simp;omega),oC]at e;split at e
 .cases e
 .cases e
theorem uV{i:Nat}{w:W}(h:ai K A H ws vs)(e:look (ao N.length ws) i=some w):∃v,(start N vs)[i]?=some (some v)/\Rep K A H w v:=by
 have f:=h.len;by_cases a:i<ws.length
 .rw[aW]at e;unfold ao at e;rw[PP (by simpa using a),Da]at e;obtain⟨d,c,b⟩:=OF.mp e;cases b;obtain⟨v,b,r⟩:=h.get c;refine⟨v,?_,r⟩;unfold L2.start;rw[PP (by simp;lia),Da,b];rfl
 .exact(kT (by lia) e).elim
theorem yT(h:ai K A H ws vs)(d:Dom A H)(g:∀i m,(i,m)∈M->ws.length<=i)(b:∀i m a,(i,m)∈M->(i,a)∈M->m=a):SR K M ⟨A,A,none⟩ H (start N vs) H (ao N.length ws):=by have f:=h.len;refine⟨by simp[L2.start,ao,f],λi w k e=>uV h e,aq.refl _,d,(λv e=>by cases e),λ_=>[],⟨b,λi m w c e=>(kT (g i m c) e).elim,λ_ _ _=>rfl,λ_ _=>ub,(λi j p _ _ z=>by cases z),(λi p _ z=>by cases z),(λi p _ z=>by cases z),λp=>⟨.inl,λz=>z.elim id<|by rintro⟨_,_,z⟩;cases z⟩⟩⟩
open Classical in
def era(F:List Addr)(H:Hp):Hp:=λp=>if p∈F then none else H p
theorem HN{F:List Addr}{p:Addr}{o:HO}(h:era F H p=some o):p∉F/\H p=some o:=by
 unfold era at h;split at h
 .cases h
 .exact⟨by assumption,h⟩
theorem HP{F:List Addr}{p:Addr}(h:era F H p=none):p∈F\/H p=none:=by
 unfold era at h;split at h
 .exact .inl (by assumption)
 .exact .inr h
theorem Sn{F:List Addr}{p:Addr}(h:p∈F):era F H p=none:=by unfold era;rw[Bi h]
theorem L7{F:List Addr}{p:Addr}(h:p∉F):era F H p=H p:=by unfold era;rw[BM h]
theorem HQ{F:List Addr}{k:W}{l:V}{q:Md}(E:F.Nodup)(G:∀p∈F,¬A p)(d:Dom A H)(P:Fp K (λp=>A p\/p∈F) H q k l F)(h:ai K (λp=>A p\/p∈F) H ws vs)
 (t:(0,q)∈M)(O:∀i m,(i,m)∈M->i=0\/ws.length+1<=i)(B:∀i m C,(i,m)∈M->(i,C)∈M->m=C)(L:0<N.length):
 SR K M ⟨A,λp=>A p\/p∈F,some l⟩ (era F H) (start N (l::vs)) H (ao N.length (k::ws)):=by
 have I:=h.len;have D:look (ao N.length (k::ws)) 0=some k:=rfl;have r:(start N (l::vs))[0]?=some (some l):=rfl;have y:∀i,aO M i->i≠0->∀w,look (ao N.length (k::ws)) i=some w->False:=λi ⟨m,s⟩ n w e=>kT (by rcases O i m s with z|z;exact(n z).elim;simpa using z) e;refine⟨by simp[L2.start,ao,I],λi w g e=>?_,λp o e=>(HN e).2,d,λv e=>?_,λi=>if i=0 then F else[],⟨B,λi m w s e=>?_,λi g e=>?_,λi g=>?_,λi j p g R a b=>?_,λi p g c=>?_,λi p g c=>?_,λp=>?_⟩⟩
 .cases i with
  |zero=>exact(g ⟨q,t⟩).elim
  |succ i=>
   have Q:look (ws.map some++A6 (N.length -(k::ws).length) none) i=some w:=e;have:look (ao (N.length -1) ws) i=some w:=by unfold ao;rw[show N.length -1 -ws.length=N.length -(k::ws).length by simp;lia];exact Q
   cases N with
   |nil=>cases L
   |cons x N=>obtain⟨v,f,u⟩:=uV (N:=N) h this;refine⟨v,?_,u⟩;unfold L2.start at f⊢;rw[N0,G2,List.getElem?_cons_succ,show(x::N).length -(l::vs).length=N.length -vs.length by simp];exact f
 .cases e;exact⟨r,q,t⟩
 .rcases i3 i with rfl|g
  .have:=B 0 m q s t;subst this;rw[D]at e;cases e;exact⟨l,r,by rw[Bi rfl];exact P⟩
  .exact(y i ⟨m,s⟩ (by lia) w e).elim
 .rcases i3 i with rfl|J
  .rw[D]at e;cases e
  .rw[BM (by lia)]
 .split
  .exact E
  .exact ub
 .by_cases f:i=0
  .by_cases u:j=0
   .rw[f,u]
   .rw[BM u]at b;cases b
  .rw[BM f]at a;cases a
 .by_cases f:i=0
  .rw[Bi f]at c;exact Sn c
  .rw[BM f]at c;cases c
 .by_cases f:i=0
  .rw[Bi f]at c;exact G p c
  .rw[BM f]at c;cases c
 .constructor
  .rintro(z|z)
   .exact .inl z
   .exact .inr ⟨0,⟨q,t⟩,by rw[Bi rfl];exact z⟩
  .rintro(z|⟨i,g,c⟩)
   .exact .inl z
   .by_cases f:i=0
    .rw[Bi f]at c;exact .inr c
    .rw[BM f]at c;cases c
end
theorem N4{M:Ms}(h:(M.map (·.1)).Nodup):∀i m c,(i,m)∈M->(i,c)∈M->m=c:=by
 induction M with
 |nil=>intro i m c a;cases a
 |cons x M d=>
  obtain⟨j,k⟩:=x;rw[N0,cx]at h;intro i m c a b;rcases Fh.mp a with a|a
  .rcases Fh.mp b with b|b
   .cases a;cases b;rfl
   .cases a;exact(h.1 (Hb.mpr ⟨_,b,rfl⟩)).elim
  .rcases Fh.mp b with b|b
   .cases b;exact(h.1 (Hb.mpr ⟨_,a,rfl⟩)).elim
   .exact d h.2 i m c a b
section
variable{P:Program}{w:World}{K:Frag}{mg:Str->Option Value}{base:Heap}{x qual:Str}{st:Stmt}{f:Addr}{fd:FuncData}{N ps:List Str}{k:Nat}{fn gn zn:List Str}{md:List Md}{mt:List (Nat×Nat)}{Φ:Nat->aZ}{G:Nat->W}
theorem AA{M:Ms}{b:Value}{A:Around}{a:List Env}{s:Shared}{H:Hp}{E:XK}(t:cI N ps (af st))(T:Tab P w K mg base fn gn zn md mt Φ G k)(q:cX k (lC P w K mg base N qual (af st) f b A a s H E).A)(un:∀i m r,(i,m)∈M->(i,r)∈M->m=r):
 yJ ⟨N,(af st).names,M,fn,gn,zn,md,mt⟩ Φ (fF md) G (lC P w K mg base N qual (af st) f b A a s H E):=
 {hN:=rfl,nd:=t.nd,calm:=rfl,un:=q.units,nk:=λ_=>rfl,
  fns:=λj x e h=>by obtain⟨v,n,p,o,l,d,c⟩:=T.fns j x e h;exact⟨v,n,p,o,l,q.mono d,c⟩
  Jt:=λj g x e h=>by obtain⟨f,fd,ps,n,p,o,l,d,c,u⟩:=T.Jt j g x e h;exact⟨f,fd,ps,n,p,o,l,d,q.mono c,u⟩
  Ar:=rfl,Hf:=T.Hf,Cq:=T.Cq,kit:=T.kit,
  bk:=by show(if(af st).kind.isAnnotationScope then ScopeKind.function else(af st).kind)=_;rw[t.kind];rfl
  Uc:=λ_=>rfl,EB:=T.EB,Hx:=un}
theorem HR(F:Ds K x qual st f fd)(O:cI N ps (af st))(T:Tab P w K mg base fn gn zn md mt Φ G k)(b:List CS)(M:Ms)(m:Md)(t:aZ)(hM:M.all (λi=>decide (ps.length<=i.1))=true)(hu:(M.map (·.1)).Nodup)(d:dO m=false)
 (g:c6 ⟨N,(af st).names,M,fn,gn,zn,md,mt⟩ (fF md) m b (aP st)=true)(B:∀c P R,t c P R->c.length=ps.length)
 (hp:∀c P R,t c P R->wSs Φ G b ⟨fall m P,P,λ_=>False,λ_=>False,R⟩ (ao N.length c)):bK P w K mg base (ji P w) (k+1) f fd ps (NJ K ps.length m t):=by
 refine Ds.Xs F O (by rintro vs H Q E ⟨A,c,P,R,p,o,_⟩;rw[o.len,p]) λcdv A n s H vs Q E hr hz=>?_;obtain⟨U,c,u,R,p,o,h3,h4,L,J⟩:=hz;have y:=N4 hu;refine⟨_,jE Φ (fF md) G b (AA O T hr y) (aP st) g,⟨U,U,none⟩,H,ao N.length c,⟨fall m u,u,λ_=>False,λ_=>False,R⟩,yT o h3 (λi m hi=>?_) y,⟨E,Fl,λC j rc l=>J C j rc l,λe Y S s1 h' a C h I hx q=>vp e Y S s1 h' a C h I hx (J C S q.1 q.2)⟩,(by rw[d];rfl),hp c u R h4,⟨λA' Z X j ea eb D S'=>?_,λw v j hw l r=>?_,λ_ _ _ _ _ _ z=>z.elim,λ_ _ _ _ _ _ z=>z.elim⟩⟩
 .rw[p];exact D1 (KB.mp hM (i,m) hi)
 .cases m with
  |s=>exact L .bu .bu j D S'.sm (.of (by dsimp only[Rep]))
  |io _=>cases d
  |_=>exact D.elim
 .cases m with
  |io _=>cases d
  |_=>exact L w v j hw l r
theorem qa(F:Ds K x qual st f fd)(Sc:cI N ps (af st))(T:Tab P w K mg base fn gn zn md mt Φ G k)(b:List CS)(M:Ms)(j:Md)(Sf:aZ)(hM:M.all (λi=>i.1==0||decide (ps.length<=i.1))=true)(hu:(M.map (·.1)).Nodup)(U:hasB M 0 j=true)(hN:0<N.length)
 (J:c6 ⟨N,(af st).names,M,fn,gn,zn,md,mt⟩ (fF md) (.io j) b (aP st)=true)(hlen:∀h P R,Sf h P R->h.length=ps.length)
 (D:∀h P R,Sf h P R->wSs Φ G b ⟨fall (.io j) P,P,λ_=>False,λ_=>False,R⟩ (ao N.length h)):bK P w K mg base (ji P w) (k+1) f fd ps (NK K ps.length j Sf):=by
 refine Ds.Xs F Sc (by rintro vs H Q E ⟨ab,F,O,v0,h,vs',P,R,e,h1,_,_,_,_,h2,_⟩;rw[e,A3,h2.len,h1]) λcdv A outer s H vs Q E hr hz=>?_;obtain⟨ab,F,O,v0,h,vs',P0,R,e,h1,nd,na,d,fp,h2,h4,h5,h6⟩:=hz;subst e;have un:=N4 hu;have U:=iR U;have Y:∀{c},aq (era F H) c->vV (·∈F) H c:=λ{c} t p o e=>by
  by_cases T7:p∈F
  .obtain⟨o',e',hm⟩:=Fp.mu j fp p T7;rw[e]at e';cases e';exact .inl ⟨hm,T7⟩
  .exact .inr (t p o (by rw[L7 T7];exact e))
 refine⟨_,jE Φ (fF md) G b (AA Sc T hr un) (aP st) J,⟨ab,λp=>ab p\/p∈F,some v0⟩,era F H,ao N.length (O::h),⟨fall (.io j) P0,P0,λ_=>False,λ_=>False,R⟩,HQ nd na d fp h2 U (λi m hi=>?_) un hN,⟨E,Fl,λC c rc t=>h6 C c rc (Y t),λu σ H1 s1 h' a C L I hx q=>vp u σ H1 s1 h' a C L I hx (h6 C H1 q.1 (Y q.2))⟩,rfl,D _ P0 R h4,⟨λA' n σ' c ea eb l S'=>?_,λw v c hw t r=>?_,λ_ _ _ _ _ _ z=>z.elim,λ_ _ _ _ _ _ z=>z.elim⟩⟩
 .have:=KB.mp hM (i,m) hi;rw[sv]at this;rcases this with z|z
  .exact .inl (NA.mp z)
  .exact .inr (by rw[h1];exact D1 z)
 .have l:(match look n 0 with|some O=>P0 (.tup [.bu,O])|none=>False):=l;cases hl:look n 0 with
  |none=>rw[hl]at l;exact l.elim
  |some y=>rw[hl]at l;obtain⟨wr,y',v0',F',e1,X,Zz,Z,g,S⟩:=wu (v:=.bu) S' U hl ⟨v0,eb⟩ (by dsimp only[Rep]:Rep K A'.B c .bu .bu);cases e1;rw[eb]at X;cases X;rw[ea]at g S Z;exact h5 .bu y .bu F' c l (Y S'.sm) Zz (λp D=>HP (Z p D).1) g S
 .obtain⟨wr,y,v0',F',rfl,X,Zz,Z,g,S⟩:=r;cases X;exact h5 wr y v F' c hw (Y t) Zz (λp D=>HP (Z p D).1) g S
end
end VL
namespace L2
open PySem PySem.Spec PyProof.Rows
abbrev rv(as:List (Addr×Rat)):List V:=as.map λx=>V.ref x.1
section
variable{X:Cx}{H:Hp}
end
theorem j6{α:Type}{a:List α}{x:α}(h:a.getLast?=some x):nB a (-1)=some x:=by
 have c:a≠[]:=by intro z;rw[z]at h;cases h
 have b:0<a.length:=He.mpr c;unfold nB;have e:xR a.length (-1)=some (a.length -1):=by unfold xR;rw[BM (by decide),Bi (by lia)];congr 1;lia
 rw[e];show a[a.length -1]?=_;rw[<-h,IR]
end L2
namespace VL
open PySem PySem.Spec
open PyProof.Rows hiding St
open L2
def wq(r:Rat):W:=.tup [.int r.num,.int r.den]
def dh(a:List Rat):W:=.lst (a.map wq)
section
variable{K:Frag}{A:Addr->Prop}{H H':Hp}{v:V}{p:Addr}{r:Rat}{rs:List Rat}
end
def cG:List aZ->Nat->aZ
 |[],_=>λ_ _ _=>False
 |x::_,0=>x
 |_::l,n+1=>cG l n
def nF:List W->Nat->W
 |[],_=>.bu
 |x::_,0=>x
 |_::l,n+1=>nF l n
section
variable{Q:W->Prop}{l a b:List W}{i j:Int}{x y:Str}{p q:Bool}
theorem x_len:yq .len [.lst l] Q=Q (.int l.length):=rfl
theorem ED{ns:List Int}:yq .len [.gB ns] Q=Q (.int ns.length):=rfl
theorem EC:yq .len [.tup l] Q=Q (.int l.length):=rfl
theorem MF:yq .abs [.int i] Q=Q (.int (if i<0 then-i else i)):=rfl
theorem MG:yq .max2 [.int i,.int j] Q=Q (.int (if j>i then j else i)):=rfl
theorem MH:yq .min2 [.int i,.int j] Q=Q (.int (if j<i then j else i)):=rfl
theorem EF:yq .list [.lst l] Q=Q (.lst l):=rfl
theorem AZ:yq .list [.tup l] Q=Q (.lst l):=rfl
theorem WJ:yq .T3 [.int i,.int j] Q=((0<j/\j<1073741824)/\Q (.tup [.int (i/j),.int (i%j)])):=rfl
theorem CB{w:W}{n:String}:yq .Af [w,.ty n] Q=∃a,tyW w=some a/\Q (.bl (DR a n)):=rfl
theorem MI:gY .Add (.int i) (.int j) Q=Q (.int (i+j)):=rfl
theorem MJ:gY .Add (.lst a) (.lst b) Q=(a.length+b.length<=sizeLine/\Q (.lst (a++b))):=rfl
theorem MK:gY .Sub (.int i) (.int j) Q=Q (.int (i -j)):=rfl
theorem ML:gY .Mult (.int i) (.int j) Q=(IntMulOk i j/\Q (.int (i*j))):=rfl
theorem MM:gY .Mult (.lst a) (.int j) Q=(-(2^63)<=j/\j<2^63/\a.length*j.toNat<=sizeLine/\Q (.lst (A6 j.toNat a).flatten)):=rfl
theorem EG:gY .FloorDiv (.int i) (.int j) Q=(oO i j/\Q (.int (i.fdiv j))):=rfl
theorem MN:gY .Mod (.int i) (.int j) Q=(j≠0/\Q (.int (i.fmod j))):=rfl
theorem MO:gY .Pow (.int i) (.int j) Q=(JB i j/\Q (.int (i^j.toNat))):=rfl
theorem Um:fW .Eq (.int i) (.int j) Q=Q (.bl (decide (i=j))):=rfl
theorem Uo:fW .NotEq (.int i) (.int j) Q=Q (.bl (!decide (i=j))):=rfl
theorem x_lt:fW .Lt (.int i) (.int j) Q=Q (.bl (decide (i<j))):=rfl
theorem Up:fW .LtE (.int i) (.int j) Q=Q (.bl (decide (i<=j))):=rfl
theorem Uq:fW .Gt (.int i) (.int j) Q=Q (.bl (decide (j<i))):=rfl
theorem Ur:fW .GtE (.int i) (.int j) Q=Q (.bl (decide (j<=i))):=rfl
theorem ve{Q:Bool->Prop}:truth (.bl p) Q=Q p:=rfl
theorem Us:P5 (.lst l) (.int i) Q=∃w,nB l i=some w/\Q w:=rfl
theorem MQ{ns:List Int}:P5 (.gB ns) (.int i) Q=∃n,nB ns i=some n/\Q (.int n):=rfl
theorem MR{ns:List Int}{lo hi:Option Int}:XE (.gB ns) lo hi Q=Q (.lst (nZ (ns.map W.int) lo hi)):=rfl
theorem MP:P5 (.tup l) (.int i) Q=∃w,nB l i=some w/\Q w:=rfl
theorem Ut{lo hi:Option Int}:XE (.lst l) lo hi Q=Q (.lst (nZ l lo hi)):=rfl
theorem MS{w:W}{Q:Option Int->Prop}:KL .bu w Q=Q none:=rfl
theorem MT{n:Int}{Q:Option Int->Prop}:KL (.int n) (.int i) Q=Q (some i):=rfl
theorem MU{n:Nat}{Q:Option Int->Prop}:KL (.var n) (.int i) Q=Q (some i):=rfl
theorem MV{o:Operator}{c d:CE}{Q:Option Int->Prop}:KL (.bin o c d) (.int i) Q=Q (some i):=rfl
theorem A4{Q:List W->Prop}:items (.lst l) Q=Q l:=rfl
theorem xG{Q:List W->Prop}:items (.tup l) Q=Q l:=rfl
theorem Uu{n:Nat}{w:W}{ε:Ev}{Q:Ev->Prop}:wT true [n] w ε Q=Q (ε.set n (some w)):=rfl
theorem Uv{c:List Nat}{ε:Ev}{Q:Ev->Prop}:wT false c (.tup l) ε Q=(l.length=c.length/\Q (cH ε c l)):=by
 cases c<;>rfl
theorem MW{i j:Nat}{ε:Ev}{Q:Ev->Prop}:wT false [i,j] (.tup l) ε Q=(l.length=2/\Q (cH ε [i,j] l)):=rfl
theorem MX{i j k:Nat}{ε:Ev}{Q:Ev->Prop}:wT false [i,j,k] (.tup l) ε Q=(l.length=3/\Q (cH ε [i,j,k] l)):=rfl
theorem EH{A B:Prop}:(if true=true then A else B)=A:=rfl
theorem A5{A B:Prop}:(if false=true then A else B)=B:=rfl
end
noncomputable def wFb(c:Nat->aZ)(G:Nat->W)(one:Bool)(d:List Nat)(b:List CS):W->Dn->Ev->Prop:=λw f a=>wT one d w a λe=>wSs c G b f e
theorem Uk{a:Nat->aZ}{G:Nat->W}{c:List Nat}{one:Bool}{d:CE}{b:List CS}{D:Dn}{ε:Ev}:wS a G (.fr c one d b) D ε=wE a G (λ_=>False) d ε λz=>items z λe=>mE (wFb a G one c b) D e ε:=rfl
theorem Ul{a:Nat->aZ}{G:Nat->W}{c:List Nat}{one:Bool}{b:List CS}{w:W}{D:Dn}{ε:Ev}:wFb a G one c b w D ε=wT one c w ε λd=>wSs a G b D d:=rfl
noncomputable def WN{α:Type}(S:α->Ev)(J:α->Prop)(c:α->Nat)(s:α):Ev->Prop:=λa=>∃b,a=S b/\J b/\c b<c s
noncomputable def XM{α:Type}(S:α->Ev)(J:α->Prop)(d:α->Nat)(b:Dn->Ev->Prop)(D:Dn)(s:α)(k:Bool):Prop:=
 if k=true then∃N:Ev->Prop,(∀a,N a->∃e,e<d s/\∃c,a=S c/\e=d c/\J c)/\b {nx:=N,rt:=D.rt,bk:=D.nx,ct:=N,ex:=λ_=>False} (S s)else D.nx (S s)
theorem kU{α:Type}{S:α->Ev}{J:α->Prop}{a:α->Nat}{b:Dn->Ev->Prop}{D:Dn}{s:α}{k:Bool}(g:k=true->b {nx:=WN S J a s,rt:=D.rt,bk:=D.nx,ct:=WN S J a s,ex:=λ_=>False} (S s))(f:k=false->D.nx (S s)):XM S J a b D s k:=by
 unfold XM;cases k with
 |true=>exact⟨_,by rintro c ⟨d,e,j,l⟩;exact⟨_,l,d,e,rfl,j⟩,g rfl⟩
 |false=>exact f rfl
theorem oq{c:Ev->(Bool->Prop)->Prop}{b:Dn->Ev->Prop}{D:Dn}{ε:Ev}{α:Type}(S:α->Ev)(J:α->Prop)(a:α->Nat)(s0:α)(f:ε=S s0)(e:J s0)(d:∀s,J s->c (S s) (XM S J a b D s)):KN c b D ε:=by refine⟨λm ε=>∃s,ε=S s/\m=a s/\J s,⟨_,s0,f,rfl,e⟩,?_⟩;rintro m _ ⟨s,rfl,rfl,j⟩;exact d s j
theorem cF{α:Type}{f:W->(Option W->Prop)->Prop}{h g:α->W}:∀(b:List α)(a:List W)(Q:List W->Prop),(∀x∈b,∀K:Option W->Prop,K (some (g x))->f (h x) K)->a.length+b.length<=sizeLine->Q (a++b.map g)->pJ f (b.map h) a Q
 |[],a,Q,_,_,q=>by rw[S0,pJ];simpa using q
 |w::b,a,Q,c,l,q=>by
  rw[N0,pJ];refine c w (Dx ..) _ ⟨?_,cF b _ Q (λx d=>c x (DL _ d)) ?_ ?_⟩
  .rw[A3]at l;lia
  .rw[GM,ZO];rw[A3]at l;lia
  .rw[Pm];exact q
theorem ia{α:Type}(x:α):∀n,(A6 n [x]).flatten=A6 n x
 |0=>rfl
 |n+1=>by rw[I0,JQ,ia x n];rfl
theorem aj{n:Nat}(h:n<=1000):n<=sizeLine:=Bz h (by decide)
theorem AB(K:Frag):yu K:=by intro a d b c;simp only[Fh,pb,or_false]at d c;rcases d with rfl|rfl|rfl|rfl|rfl|rfl<;>rcases c with rfl|rfl|rfl|rfl|rfl|rfl<;>rfl
theorem wH{n:Nat}(h:n<=1000):n<sizeLine:=GE h (by decide)
theorem wJ(i:Int)(n:Nat):zu n (.int i)=true:=by
 cases n<;>rfl
theorem So(r:Rat)(n:Nat):zu (n+1) (wq r)=true:=by unfold wq;dsimp only[zu];rw[Gu,Gu,wJ,wJ];rfl
theorem qe(a:List Rat)(n:Nat):zu (n+2) (.lst (a.map wq))=true:=by dsimp only[zu];rw[KB];intro x b;obtain⟨r,_,rfl⟩:=Hb.mp b;exact So r n
theorem Sq{r s:Rat}(h:wq r=wq s):r=s:=by have h:=W.VR h;simp only[Zg,and_true]at h;exact Rat.ext (W.GF h.1) (by have:=W.GF h.2;lia)
theorem CC{d c:List Rat}(h:W.lst (d.map wq)=.lst (c.map wq)):d=c:=by exact(bg (λa b e=>Sq e)).mp (W.Nz h)
theorem AD{x y:List Rat}{Q:W->Prop}(h:∀k:Bool,(k=true↔x=y)->Q (.bl k)):fW .Eq (dh x) (dh y) Q:=
 ⟨.inl ⟨qe x 7,qe y 7⟩,λk a=>h k (a.trans ⟨λe=>CC e,λe=>by rw[e]⟩)⟩
theorem Su{x y:List Rat}{Q:W->Prop}(h:∀k:Bool,(k=true↔x=y)->Q (.bl (!k))):fW .NotEq (dh x) (dh y) Q:=
 ⟨.inl ⟨qe x 7,qe y 7⟩,λk a=>h k (a.trans ⟨λe=>CC e,λe=>by rw[e]⟩)⟩
theorem mT{k:Bool}{p:Prop}(h:k=true↔p)(q:p):k=true:=h.mpr q
theorem jF{k:Bool}{p:Prop}(h:k=true↔p)(q:¬p):k=false:=by
 cases k with
 |false=>rfl
 |true=>exact absurd (h.mp rfl) q
noncomputable def Hd(K:Frag)(x:Str)(st:Stmt):Prop:=∃(f:Addr)(d i:Option Addr)(b:Array (Option Value))(e kV g c a h:Value),
 nsIn K mainGlobals x=some (some (.ref f))/\K.lookup f=some ⟨e,d,.func (fnOf x x (cJ st) (aP st) (af st) .none kV g c i a h),b⟩/\codeIn K a x=true/\keepIn K (.ref f)=true
noncomputable def Hm(K:Frag)(C:Addr)(x q:Str)(st:Stmt):Prop:=∃(f:Addr)(d i:Option Addr)(b:Array (Option Value))(e kV g c a h:Value),
 findIn K (.ref C) x=some (some (.ref f))/\isFn K (.ref f)=true/\K.lookup f=some ⟨e,d,.func (fnOf x q (cJ st) (aP st) (af st) .none kV g c i a h),b⟩/\codeIn K a q=true/\keepIn K (.ref f)=true
structure Df(K:Frag)(mg:Str->Option Value)(x:Str)(st:Stmt)(ps:List Str)(f:Addr)(fd:FuncData):Prop where
 F:Ds K x x st f fd
 m:mg x=some (.ref f)
 b:Binds K fd ps []
 bt:∀(s:Shared)(us:List Value),us.length=ps.length->BindsTo s fd ⟨us,[]⟩ (ps.zip us)
structure Dm(K:Frag)(C:Addr)(x q:Str)(st:Stmt)(ps:List Str)(f:Addr)(fd:FuncData):Prop where
 F:Ds K x q st f fd
 M:Meth K C x f
 b:Binds K fd ps []
abbrev iS(x q:Str)(st:Stmt)(ps:List Str):Prop:=∀(kV doc pm:Value)(an:Option Addr)(cdv ct:Value)(us:List Value),us.length=ps.length->bindArgs (fnOf x q (cJ st) (aP st) (af st) .none kV doc pm an cdv ct) ⟨us,[]⟩=pure (ps.zip us)
theorem mU{α:Type}{l:List α}{n:Nat}(h:l.length=n+1):∃a r,l=a::r/\r.length=n:=by
 cases l with
 |nil=>cases h
 |cons a r=>exact⟨a,r,rfl,Xr h⟩
theorem WK{K:Frag}{h:Heap}{mg:Str->Option Value}{x:Str}{st:Stmt}{ps:List Str}(X:K.In h)(G:h.Ns mainGlobals mg)(i:Hd K x st)(b:iS x x st ps):∃f j,Df K mg x st ps f j:=by obtain⟨f,r,p,q,t,kV,m,e,o,n,a,l,c,k⟩:=i;have F:=Fe (st:=st) l c k;exact⟨f,_,F,de X G a,F.binds b,λs d g=>.of_eq (b kV m e p o n d g)⟩
theorem N5{K:Frag}{C:Addr}{x q:Str}{st:Stmt}{ps:List Str}(d:Hm K C x q st)(b:iS x q st ps):∃f e,Dm K C x q st ps f e:=by obtain⟨f,j,r,g,m,kV,n,h,p,o,a,i,l,c,k⟩:=d;have F:=Fe (st:=st) l c k;exact⟨f,_,F,⟨a,i,k⟩,F.binds b⟩
structure Hc(K:Frag)(mg:Str->Option Value)(x:Str)(C:Addr)(fs:List Str):Prop where
 c:mg x=some (.ref C)
 ok:Ae K C fs
 mks:makesIn K C=true
 kp:keepIn K (.ref C)=true
theorem AE{K:Frag}{H:Hp}{a:Addr}{ns:List Int}(c:Fc H)(b:gP K H a (ns.map V.int)):Rep K (λ_=>False) H (.gB ns) (.ref a):=by
 refine⟨a,rfl,?_⟩;rcases b with(h|⟨o,h⟩)|h
 .rcases c a with z|⟨o,d,z⟩
  .rw[z]at h;cases h
  .rw[z]at h;cases h
 .exact .inl ⟨o,h⟩
 .exact .inr (.inr h)
def WL:aZ:=λb Q _=>∃a:List Int,b=[.gB a]/\a.length<=63/\Q (.bl true)
noncomputable def CD(K:Frag):Sp:=λc H Q _=>∃(a:Addr)(b:List Int),c=[.ref a]/\Fc H/\gP K H a (b.map V.int)/\b.length<=63/\∀d,Q (.bl true) d
theorem Sv{P:Program}{w:World}{K:Frag}{mg:Str->Option Value}{base:Heap}{k:Nat}{f:Addr}{c:FuncData}{x:Str}(F:bK P w K mg base (ji P w) k f c [x] (NJ K 1 .s WL)):bK P w K mg base JS k f c [x] (CD K):=by refine(bK.Vi F).imp λl H Q E ⟨a,b,e,i,h,g,q⟩=>?_;subst e;refine⟨λ_=>False,[.gB b],λw=>w=.bl true,λ_=>False,rfl,.cons (AE i h) .nil,λ_ z=>z.elim,⟨b,rfl,g,rfl⟩,λw v j d _ r=>?_,λ_ _ z=>z.elim⟩;subst d;have r:=r.bO;dsimp only[Rep]at r;subst r;exact q j
theorem walk{l:PySem.W.OpenLaw}{q:Program}{b:List Str}{B:(Str->Option Value)->Heap->Prop}{j:World->Heap->Prop}{d:DefRec}{K:Params->Frag}{k:Nat}(p:l.most=some 63)(e:d.params.defaults=[])(o:cX k callerA)(A:importsNone q=true)(c:l.prog.given.tree=none)
 (t:∀(w:World)(h:Heap),j w h->(K w.params).In h)
 (F:∀(w:World)(mg:Str->Option Value)(i:Addr)(h:Heap),(K w.params).In h->h.Ns mainGlobals mg->mg d.name=some (.ref i)->
   ∃g:FuncData,(∀(s:Shared)(u:Value),BindsTo s g ⟨[u],[]⟩ [("_law_script",u)])/\∀base:Heap,(K w.params).In base->base.Ns mainGlobals mg->bK l.prog w (K w.params) mg base JS k i g ["_law_script"] (CD (K w.params))):
 PySem.W.WalkO q b B j l.row.toRowW d [] (λf us=>PySem.call f us):=
 L2.JR (n:=63) (k:=k) (x:="_law_script") (CX:=λ_=>JS) (sp:=λw=>CD (K w.params)) p (by decide) e o A c t F (λ_ _ a m r y v=>⟨a,m,rfl,y,v,r,λ_=>rfl⟩) λ_ _ _ _ _ z=>z
def XN:aZ:=λ_ _ _=>False
theorem WM{P:Program}{w:World}{K:Frag}{mg:Str->Option Value}{base:Heap}{k n:Nat}{f:Addr}{d:FuncData}{ps:List Str}:bK P w K mg base (ji P w) k f d ps (oV K n .s XN):=
 ⟨by rintro c H Q E ⟨_,_,_,_,_,_,_,z,_⟩;exact z.elim,by rintro A a s H b e c Q E g i h r ⟨_,_,_,_,_,_,_,z,_⟩;exact z.elim⟩
theorem Df.jc{P:Program}{w:World}{K:Frag}{mg:Str->Option Value}{base:Heap}{x:Str}{st:Stmt}{ps:List Str}{f:Addr}{g:FuncData}{k n:Nat}{m:Md}{sp:aZ}(D:Df K mg x st ps f g)(F:bK P w K mg base (ji P w) k f g ps (oV K n m sp))(i:n=ps.length)(h:∀a P R,sp a P R->a.length=n){d:Nat}(j:k<=d):
 ∃e n c,mg x=some e/\cU P w K mg base c e n (oV K n m sp)/\c<=d/\∀a P R,sp a P R->a.length=n:=by
 subst i;exact⟨_,_,k,D.m,.fn D.F.kp D.b F,j,h⟩
theorem Dm.jc{P:Program}{w:World}{K:Frag}{mg:Str->Option Value}{base:Heap}{x q:Str}{st:Stmt}{ps:List Str}{C f:Addr}{a:FuncData}{k n:Nat}{m:Md}{sp:aZ}(D:Dm K C x q st ps f a)(F:bK P w K mg base (ji P w) k f a ps (oV K n m sp))(h:∀c P R,sp c P R->c.length=n){g:Nat}(i:k<=g){G:W}(j:G=.cls C):
 ∃f a ps n d,(∀C,G=.cls C->Meth K C x f)/\Binds K a ps []/\bK P w K mg base (ji P w) d f a ps (oV K n m sp)/\d<=g/\∀c P R,sp c P R->c.length=n:=
 ⟨f,a,ps,n,k,λl e=>by rw[j]at e;cases e;exact D.M,D.b,F,i,h⟩
end VL
namespace VL
open PySem PySem.Spec
open PyProof.Rows hiding St
open L2 Num
abbrev bN(m:Md)(P:W->Prop)(R:Addr->Prop):Dn:=⟨fall m P,P,λ_=>False,λ_=>False,R⟩
def wI(ns:List Int):W:=.lst (ns.map W.int)
theorem bG{b:W->Dn->Ev->Prop}{D:Dn}{c:List W}{ε:Ev}(J:Nat->Ev->Prop)(m:J 0 ε)(h:∀i w ε N,c[i]?=some w->J i ε->(∀a,J (i+1) a->N a)->b w ⟨N,D.rt,D.nx,N,λ_=>False⟩ ε)(l:∀ε,J c.length ε->D.nx ε):mE b D c ε:=by
 have:∀k i ε,i+k=c.length->J i ε->mE b D (c.drop i) ε:=by
  intro k
  induction k with
  |zero=>intro i ε e j;rw[List.drop_of_length_le (by lia),mE];exact l ε (by rw[<-e];exact j)
  |succ k g=>
   intro i ε e j;have d:i<c.length:=by lia
   rw[d4 d,mE];exact h i _ ε _ (B1 d) j λa f=>g (i+1) a (by lia) f
 exact this c.length 0 ε (by lia) m
theorem aH{x y:Int}{n m:Nat}(h:x.natAbs<2^n)(b:y.natAbs<2^m)(a:n+m<=134217728):IntMulOk x y:=zQ (Bz (u3 (bits_le h) (bits_le b)) a)
theorem gE{y:Int}{n:Nat}(h:y.natAbs<2^n)(a:n<=8000):y.natAbs.log2<1000000000:=by
 rcases i3 y.natAbs with e|e
 .rw[e];decide
 .have:=(XC (Uh e)).mpr h;lia
theorem AF{y:Int}{n:Nat}(h:y.natAbs<2^n)(a:n<=999999999):y.natAbs.log2<1000000000:=by
 rcases i3 y.natAbs with e|e
 .rw[e];decide
 .have:=(XC (Uh e)).mpr h;lia
theorem HS(r:Rat):(r.den:Int)≠0:=by have:=r.den_pos;lia
noncomputable def rW:List CS:=[.ret (.comp [0] true 1 (.var 0) (.bl true) (.bin .Mult (.var 2) (.var 0)))]
noncomputable def iT:aZ:=λc Q _=>∃(a:List Int)(b:Int),c=[wI a,.int b]/\a.length<=1000/\(∀x∈a,IntMulOk b x)/\Q (wI (a.map (b*·)))
theorem HU{e:Nat->aZ}{G:Nat->W}{m:Md}(c:List W)(Q:W->Prop)(R:Addr->Prop)(h:iT c Q R):wSs e G rW (bN m Q R) (ao 2 c):=by obtain⟨d,b,rfl,i,j,a⟩:=h;show wSs _ _ rW _ [some (wI d),some (.int b)];unfold rW wI;fin2;refine cF (g:=λx=>.int (b*x)) d [] _ (λx f K k=>⟨j x f,k⟩) (aj (by simpa using i)) ?_;rw[EY];unfold wI at a;rw[SL]at a;exact a
noncomputable def wK:List CS:=[.GG (.cmp .NotEq (.var 1) (.int 0)) [.par [0,1] [(.var 1),(.bin .Mod (.var 0) (.var 1))]],.ret (.blt .abs [(.var 0)])]
def CF:aZ:=λc Q _=>∃a b:Int,c=[.int a,.int b]/\Q (.int (A2 a b:Nat))
theorem L8{k:Nat->aZ}{G:Nat->W}{m:Md}(f:List W)(Q:W->Prop)(R:Addr->Prop)(h:CF f Q R):wSs k G wK (bN m Q R) (ao 2 f):=by
 obtain⟨a,b,rfl,l⟩:=h;show wSs _ _ wK _ [some (.int a),some (.int b)];unfold wK;fin2;refine oq (α:=Int×Int) (λx=>[some (.int x.1),some (.int x.2)]) (λx=>A2 x.1 x.2=A2 a b) (λx=>x.2.natAbs) (a,b) rfl rfl ?_;rintro⟨x,y⟩ g;fin2;refine kU (λd=>?_) (λd=>?_)
 .have c:y≠0:=by simpa using d
  have j:=qK x y (x.fdiv y);have i:=FH x y c;rw[<-Num.fmod_eq]at j i;fin2;exact⟨c,rfl,(y,x.fmod y),rfl,j.trans g,i⟩
 .have c:y=0:=by simpa using d
  subst c;fin2;have e:(if x<0 then-x else x)=((A2 a b:Nat):Int):=by rw[<-g,Qf];split<;>lia
  rw[e];exact l
noncomputable def rX:List CS:=[.set 2 (.call 0 [(.var 0),(.var 1)]),.iff (.cmp .Lt (.var 1) (.int 0)) [.set 2 (.bin .Sub (.int 0) (.var 2))] [],.ret (.tup [(.bin .FloorDiv (.var 0) (.var 2)),(.bin .FloorDiv (.var 1) (.var 2))])]
theorem ou{n i:Nat}{w:W}(h:(jv 0 1 n)[i]?=some w):i<n/\w=.int i:=by unfold jv at h;rw[Da]at h;obtain⟨j,e,rfl⟩:=OF.mp h;obtain⟨b,a⟩:=Fn.mp e;rw[c8]at a;rw[Ya]at b;refine⟨b,?_⟩;rw[<-a];simp
theorem cA{l:List W}{k:Nat}{w:W}(h:l[k]?=some w):nB l (k:Int)=some w:=by unfold nB xR;have:=(Fn.mp h).1;rw[Bi (by lia),Bi (by lia)];simpa using h
theorem jG{n k:Nat}(h:k<n):xR n (k:Int)=some k:=by unfold xR;rw[Bi (by lia),Bi (by lia)];simp
theorem fm{x:Int}{n:Int}(a:0<n):0<=x.fmod n/\x.fmod n<n:=⟨Int.fmod_nonneg_of_pos x a,Int.fmod_lt_of_pos x a⟩
theorem aI{b:Nat->aZ}{G:Nat->W}{s t:CS}{c:List CS}{D:Dn}{ε:Ev}(J:Ev->Prop)(e:∀N:Ev->Prop,(∀a,J a->N a)->wS b G s {D with nx:=N} ε)(d:∀a,J a->wSs b G (t::c) D a):wSs b G (s::t::c) D ε:=e _ d
theorem int_at{ns:List Int}{k:Nat}(h:k<ns.length):(ns.map W.int)[k]?=some (.int (ns.getD k 0)):=by rw[Da,AC,B1 h];rfl
theorem wL{ns:List Int}{P:Int->Prop}(h:∀n∈ns,P n){k:Nat}(a:k<ns.length):P (ns.getD k 0):=by rw[AC,B1 a];exact h _ (T2 _)
theorem HV(ns:List Int)(k:Nat)(h:k<=ns.length):nZ (ns.map W.int) none (some (k:Int))=(ns.take k).map W.int:=by unfold nZ;rw[HT.Bq,HT.xP,Ap,Y0,show min k ns.length -0=k by lia,e6]
noncomputable def oz:List CS:=[.set 1 (.blt .len [(.var 0)]),.GG (.and [(.cmp .Gt (.var 1) (.int 0)),(.cmp .Eq (.ix (.var 0) (.bin .Sub (.var 1) (.int 1))) (.int 0))]) [.set 1 (.bin .Sub (.var 1) (.int 1))],.ret (.sl (.var 0) .bu (.var 1))]
def mV:aZ:=λc Q _=>∃a:List Int,c=[wI a]/\∀b,iI a b->Q (wI b)
theorem Eb{l:Nat->aZ}{G:Nat->W}{m:Md}(i:List W)(Q:W->Prop)(R:Addr->Prop)(h:mV i Q R):wSs l G oz (bN m Q R) (ao 2 i):=by
 obtain⟨c,rfl,n⟩:=h;show wSs _ _ oz _ [some (wI c),none];unfold oz wI;fin2;refine oq (α:=Nat) (λk=>[some (.lst (c.map W.int)),some (.int k)]) (λk=>k<=c.length/\∀j,k<=j->j<c.length->c.getD j 0=0) (λk=>k) c.length (by rw[Ap]) ⟨D2 _,λj g f=>by lia⟩ ?_;rintro k ⟨g,f⟩;fin2;have d:(k=0\/c.getD (k -1) 0≠0)->Q (.lst (nZ (c.map W.int) none (some (k:Int)))):=λh=>by rw[HV c k g];exact n _ ⟨k,g,rfl,f,h⟩
 by_cases o:0<k
 .rw[Bi (FV (by lia))];rw[show(k:Int) -1=((k -1:Nat):Int) by lia];refine⟨_,cA (int_at (by lia)),?_⟩;fin2;refine kU (λz=>?_) (λz=>?_)
  .have z:=D1 z;fin2;refine⟨k -1,by rw[show(k:Int) -1=((k -1:Nat):Int) by lia],⟨by lia,λj a b=>?_⟩,by show k -1<k;lia⟩;by_cases e:j=k -1
   .rw[e];exact z
   .exact f j (by lia) b
  .have z:=tm z;fin2;exact d (.inr z)
 .rw[BM (by rw[Kj];lia)];refine kU (λz=>by cases z) (λ_=>?_);fin2;exact d (.inl (by lia))
noncomputable def iU:List CS:=[.set 2 (.blt .max2 [(.blt .len [(.var 0)]),(.blt .len [(.var 1)])]),.set 3 (.bin .Add (.blt .list [(.var 0)]) (.bin .Mult (.lst [(.int 0)]) (.bin .Sub (.var 2) (.blt .len [(.var 0)])))),.fr [4,5] false (.uK (.var 1)) [.put 3 (.var 4) (.bin .Add (.ix (.var 3) (.var 4)) (.var 5))],.ret (.call 0 [(.var 3)])]
noncomputable def jH:aZ:=λd Q _=>∃a b:List Int,d=[wI a,wI b]/\a.length<=200/\b.length<=200/\∀c,iI ((Bn (max a.length b.length)).map λk=>a.getD k 0+b.getD k 0) c->Q (wI c)
theorem wM{G:Nat->W}{m:Md}(t:List W)(Q:W->Prop)(R:Addr->Prop)(h:jH t Q R):wSs (cG [mV]) G iU (bN m Q R) (ao 6 t):=by
 obtain⟨b,a,rfl,u,v,E⟩:=h;show wSs _ _ iU _ [some (wI b),some (wI a),none,none,none,none];unfold iU wI;fin2;have c:(if((a.map W.int).length:Int)>((b.map W.int).length:Int)then((a.map W.int).length:Int)else((b.map W.int).length:Int))=((max b.length a.length:Nat):Int):=by rw[Ap,Ap];split<;>lia
 rw[c];have d:((max b.length a.length:Nat):Int) -((b.map W.int).length:Int)=((max b.length a.length -b.length:Nat):Int):=by rw[Ap];clear c v u;lia
 rw[d,Io,ia];generalize J:max b.length a.length=L at*;refine⟨aj (by simp),by clear d c J v u;lia,by clear d c;lia,aj (by simp;clear d c;lia),aj (by simp;clear d c;lia),?_⟩;have g:∀(f:Nat->Int)(k:Nat),k<L->((Bn L).map f)[k]?=some (f k):=λf k F=>by rw[Da,cw F];rfl
 refine bG (λi z=>∃o n,z=[some (.lst (b.map W.int)),some (.lst (a.map W.int)),some (.int L),some (.lst (((Bn L).map λk=>b.getD k 0+if k<i then a.getD k 0 else 0).map W.int)),o,n]) ⟨none,none,?_⟩ ?_ ?_
 .have:b.map W.int++A6 (L -b.length) (W.int 0)=((Bn L).map λk=>b.getD k 0+if k<0 then a.getD k 0 else 0).map W.int:=by
   refine lj λq=>?_;by_cases s:q<b.length
   .rw[PP (by simpa using s),int_at s,Da,g _ q (by lia),BM (by lia),ky];rfl
   .by_cases j:q<L
    .rw[Jn (by simpa using s),oC,Bi (by rw[Ap];omega),Da,g _ q j,BM (by lia),AC,FC (by lia)];rfl
    .rw[FC (by simp;omega),FC (by simp;lia)]
  rw[this]
 .rintro i w _ N C ⟨o,n,rfl⟩ I;obtain⟨x,p,rfl⟩:=n5 C;have H:i<a.length:=by have:=(Fn.mp p).1;simpa using this
  rw[int_at H]at p;cases p;fin2;have r:i<L:=by omega
  refine⟨rfl,_,cA (by rw[Da,g _ i r];rfl),?_⟩;fin2;refine⟨i,jG (by simpa using r),I _ ⟨some (.int i),some (.int (a.getD i 0)),?_⟩⟩;have:((Bn L).map λk=>b.getD k 0+if k<i then a.getD k 0 else 0).set i (b.getD i 0+(if i<i then a.getD i 0 else 0)+a.getD i 0)=(Bn L).map λk=>b.getD k 0+if k<i+1 then a.getD k 0 else 0:=by
   refine lj λq=>?_;rw[S8];by_cases j:q<L
   .rw[g _ q j,g _ q j];by_cases e:i=q
    .subst e;rw[Bi rfl,Bi (by simpa using r),BM (by lia),Bi (by lia)];congr 1;lia
    .rw[BM e];by_cases y:q<i
     .rw[Bi y,Bi (by lia)]
     .rw[BM y,BM (by lia)]
   .rw[BM (by lia),FC (by simp;lia),FC (by simp;lia)]
  rw[<-this,ma]
 .rintro _ ⟨o,n,rfl⟩;have B:(gv (a.map W.int)).length=a.length:=by unfold gv;simp
  rw[B];fin2;refine⟨_,rfl,λA D=>E A ?_⟩;have:((Bn L).map λk=>b.getD k 0+if k<a.length then a.getD k 0 else 0)=(Bn L).map λk=>b.getD k 0+a.getD k 0:=by
   refine cq λk _=>?_;by_cases h:k<a.length
   .rw[Bi h]
   .rw[BM h,AC (l:=a),FC (by lia)];rfl
  rw[<-this];exact D
def gF:List CS:=[.ret (.call 0 [(.var 0),(.call 1 [(.var 1),(.neg (.int 1))])])]
noncomputable def iV:aZ:=λe Q _=>∃(c a:List Int)(b:Nat),e=[wI c,wI a]/\c.length<=200/\a.length<=200/\b<=100000000/\(∀x∈a,x.natAbs<2^b)/\∀d,iI ((Bn (max c.length a.length)).map λk=>c.getD k 0 -a.getD k 0) d->Q (wI d)
theorem tH{G:Nat->W}{m:Md}(e:List W)(Q:W->Prop)(R:Addr->Prop)(h:iV e Q R):wSs (cG [jH,iT]) G gF (bN m Q R) (ao 2 e):=by
 obtain⟨c,a,b,rfl,i,j,q,d,p⟩:=h;show wSs _ _ gF _ [some (wI c),some (wI a)];unfold gF;fin2;refine⟨a,-1,rfl,by lia,λx o=>aH (n:=1) (m:=b) (by decide) (d x o) (by lia),?_⟩;refine⟨c,a.map (-1*·),rfl,i,by rw[Ap];exact j,λg f=>p g ?_⟩;rw[Ap]at f;have:((Bn (max c.length a.length)).map λk=>c.getD k 0+(a.map (-1*·)).getD k 0)=(Bn (max c.length a.length)).map λk=>c.getD k 0 -a.getD k 0:=by
  refine cq λk _=>?_;rw[AC (l:=a.map _),Da,AC (l:=a)];cases a[k]? with
  |none=>show _+(0:Int)=_ -(0:Int);lia
  |some z=>show _+ -1*z=_ -z;lia
 rw[<-this];exact f
noncomputable def rY:List CS:=[.set 2 (.int 1),.GG (.cmp .Gt (.var 1) (.int 0)) [.iff (.cmp .Eq (.bin .Mod (.var 1) (.int 2)) (.int 1)) [.set 2 (.bin .Mult (.var 2) (.var 0))] [],.set 1 (.bin .FloorDiv (.var 1) (.int 2)),.iff (.cmp .Gt (.var 1) (.int 0)) [.set 0 (.bin .Mult (.var 0) (.var 0))] []],.ret (.var 2)]
noncomputable def qf:aZ:=λa Q _=>∃(x:Int)(e n:Nat),a=[.int x,.int e]/\x.natAbs<2^n/\n*(e+1)<=130000000/\Q (.int (x^e))
theorem WQ{x:Int}{n:Nat}(h:x.natAbs<2^n)(e:Nat):(x^e).natAbs<2^(n*e+1):=by rw[e7];have:x.natAbs^e<=(2^n)^e:=Y1 (SC h) e;rw[<-ke]at this;rw[GS];have:=SF (n:=n*e) (show 0<2 by decide);lia
theorem HW{t:Nat->aZ}{G:Nat->W}{m:Md}(i:List W)(Q:W->Prop)(R:Addr->Prop)(h:qf i Q R):wSs t G rY (bN m Q R) (ao 3 i):=by
 obtain⟨x,e,n,rfl,j,F,w⟩:=h;show wSs _ _ rY _ [some (.int x),some (.int e),none];unfold rY;fin2;refine oq (α:=Nat×Nat×Nat) (λs=>[some (.int (x^s.1)),some (.int s.2.1),some (.int (x^s.2.2))]) (λs=>s.1*s.2.1+s.2.2=e/\(0<s.2.1->0<s.1)) (λs=>s.2.1) (1,e,0) (by show _=[some (W.int (x^1)),some (W.int (e:Int)),some (W.int (x^0))];rw[Pt,UV,rp]) ⟨by show 1*e+0=e;lia,λ_=>by show 0<1;decide⟩ ?_;rintro⟨a,d,p⟩ ⟨v,k⟩;dsimp only at v k;fin2;refine kU (λz=>?_) (λz=>?_)
 .have c:0<d:=by have:=D1 z;lia
  have E:=k c;have H:a<=e:=by have:a*1<=a*d:=Ee a c;lia
  have D:p+a<=e:=by have:a*1<=a*d:=Ee a c;lia
  have a2:2<=d->a+a<=e:=λh=>by have:a*2<=a*d:=Ee a h;lia
  have mo:∀q r,q+r<=e->IntMulOk (x^q) (x^r):=λq r h=>aH (WQ j q) (WQ j r) (by have y:=Ee n h;rw[xn]at y;have f:n*e<=n*(e+1):=Ee n (vk e);lia);have C:(d:Int).fmod 2=((d%2:Nat):Int):=by rw[YI _ (by decide)];lia
  have B:(d:Int).fdiv 2=((d/2:Nat):Int):=by rw[Kb _ (by decide)];lia
  have l:oO (d:Int) 2:=⟨by decide,by decide⟩;fin2;rw[C,B];refine⟨by decide,?_⟩;have g:a*d=a*(2*(d/2))+a*(d%2):=by rw[<-xn,Nat.div_add_mod]
  have A:a*(2*(d/2))=2*a*(d/2):=by rw[Ta 2 a,ik]
  split
  .rename_i h
   have h:=D1 h;have o:d%2=1:=by lia
   rw[o,X8]at g;refine⟨mo p a D,l,?_⟩;split
   .rename_i b
    have b:=D1 b;refine⟨mo a a (a2 (by lia)),(2*a,d/2,p+a),?_,⟨?_,λ_=>?_⟩,?_⟩
    .show[some (W.int (x^a*x^a)),some (W.int ((d/2:Nat):Int)),some (W.int (x^p*x^a))]=[some (W.int (x^(2*a))),some (W.int ((d/2:Nat):Int)),some (W.int (x^(p+a)))];rw[oI,fg,oI]
    .show 2*a*(d/2)+(p+a)=e;lia
    .show 0<2*a;lia
    .show d/2<d;lia
   .rename_i f
    rw[Kj]at f;refine⟨(a,d/2,p+a),?_,⟨?_,λz=>?_⟩,?_⟩
    .show[some (W.int (x^a)),some (W.int ((d/2:Nat):Int)),some (W.int (x^p*x^a))]=[some (W.int (x^a)),some (W.int ((d/2:Nat):Int)),some (W.int (x^(p+a)))];rw[oI]
    .show a*(d/2)+(p+a)=e;have u:d/2=0:=by lia
     rw[u]at g A⊢;lia
    .exact E
    .show d/2<d;lia
  .rename_i h
   rw[Kj]at h;have o:d%2=0:=by lia
   rw[o,ZM]at g;refine⟨l,?_⟩;split
   .rename_i b
    have b:=D1 b;refine⟨mo a a (a2 (by lia)),(2*a,d/2,p),?_,⟨?_,λ_=>?_⟩,?_⟩
    .show[some (W.int (x^a*x^a)),some (W.int ((d/2:Nat):Int)),some (W.int (x^p))]=[some (W.int (x^(2*a))),some (W.int ((d/2:Nat):Int)),some (W.int (x^p))];rw[fg,oI]
    .show 2*a*(d/2)+p=e;lia
    .show 0<2*a;lia
    .show d/2<d;lia
   .rename_i f
    rw[Kj]at f;lia
 .have c:d=0:=by have:=tm z;lia
  subst c;fin2;have:p=e:=by lia
  rw[this];exact w
def tabI(n:Nat)(f:Nat->Int):List Int:=(Bn n).map f
theorem fJ{n k:Nat}{f:Nat->Int}(h:k<n):(tabI n f)[k]?=some (f k):=by unfold tabI;rw[Da,cw h];rfl
theorem bD(n:Nat)(f:Nat->Int):(tabI n f).length=n:=by unfold tabI;simp
theorem gc{n k:Nat}{f g:Nat->Int}(h:k<n)(b:∀j,j<n->j≠k->g j=f j):(tabI n f).set k (g k)=tabI n g:=by
 refine lj λq=>?_;rw[S8];by_cases a:q<n
 .rw[fJ a,fJ a];by_cases e:k=q
  .subst e;rw[Bi rfl,Bi (by rw[bD];exact h)]
  .rw[BM e,b q a (Y2 e)]
 .rw[BM (by lia),FC (by rw[bD];lia),FC (by rw[bD];lia)]
theorem Sw{x y:List Int}{Q:W->Prop}(h:∀k:Bool,(k=true↔x=y)->Q (.bl k)):fW .Eq (wI x) (wI y) Q:=by
 have c:∀z:List Int,zu 9 (.lst (z.map W.int))=true:=λz=>by dsimp only[zu];rw[KB];intro w d;obtain⟨i,_,rfl⟩:=Hb.mp d;exact wJ i 8
 refine⟨.inl ⟨c x,c y⟩,λk f=>h k (f.trans ⟨λe=>?_,λe=>by rw[e]⟩)⟩;exact(bg (λa b e=>W.GF e)).mp (W.Nz e)
theorem CG{a:List Int}{i:Nat}{w:W}(h:(gv (a.map W.int))[i]?=some w):i<a.length/\w=.tup [.int i,.int (a.getD i 0)]:=by
 obtain⟨x,b,rfl⟩:=n5 h;have c:i<a.length:=by have:=(Fn.mp b).1;simpa using this
 rw[int_at c]at b;cases b;exact⟨c,rfl⟩
theorem yU(a:List Int):(gv (a.map W.int)).length=a.length:=by unfold gv;simp
noncomputable def gG:List CS:=[.iff (.or [(.cmp .Eq (.var 0) (.lst [])),(.cmp .Eq (.var 1) (.lst []))]) [.ret (.lst [])] [],.set 2 (.bin .Mult (.lst [(.int 0)]) (.bin .Sub (.bin .Add (.blt .len [(.var 0)]) (.blt .len [(.var 1)])) (.int 1))),.fr [3,4] false (.uK (.var 0)) [.iff (.cmp .NotEq (.var 4) (.int 0)) [.fr [5,6] false (.uK (.var 1)) [.put 2 (.bin .Add (.var 3) (.var 5)) (.bin .Add (.ix (.var 2) (.bin .Add (.var 3) (.var 5))) (.bin .Mult (.var 4) (.var 6)))]] []],.ret (.var 2)]
noncomputable def iW:aZ:=λc Q _=>∃a b:List Int,c=[wI a,wI b]/\a.length<=200/\b.length<=200/\(∀x∈a,∀y∈b,IntMulOk x y)/\Q (wI (if a=[]\/b=[]then[]else tabI (a.length+b.length -1) (cf a b a.length)))
theorem tK{D:Nat->aZ}{G:Nat->W}{m:Md}(A:List W)(Q:W->Prop)(R:Addr->Prop)(h:iW A Q R):wSs D G gG (bN m Q R) (ao 7 A):=by
 obtain⟨a,b,rfl,S,O,J,l⟩:=h;show wSs _ _ gG _ [some (wI a),some (wI b),none,none,none,none,none];unfold gG;refine aI (λs=>(a≠[]/\b≠[])/\s=[some (wI a),some (wI b),none,none,none,none,none]) (λN r=>?_) ?_
 .fin2;refine⟨aj (by simp),Sw (y:=[]) λU C=>?_⟩;fin2;by_cases o:a=[]
  .cases mT C o;rw[Bi rfl];rw[Bi (.inl o)]at l;exact⟨aj (by simp),l⟩
  .cases jF C o;rw[BM (by decide)];refine⟨aj (by simp),Sw (y:=[]) λT B=>?_⟩;fin2;by_cases p:b=[]
   .cases mT B p;rw[Bi rfl];rw[Bi (.inr p)]at l;exact⟨aj (by simp),l⟩
   .cases jF B p;rw[BM (by decide)];exact r _ ⟨⟨o,p⟩,rfl⟩
 rintro _ ⟨⟨o,p⟩,rfl⟩;rw[BM (λz=>z.elim o p)]at l;have X:=He.mpr o;unfold wI at*;fin2;have M:((a.map W.int).length:Int)+((b.map W.int).length:Int) -1=((a.length+b.length -1:Nat):Int):=by rw[Ap,Ap];lia
 rw[M,Io,ia];refine⟨aj (by simp),by lia,by lia,aj (by simp;lia),?_⟩;refine bG (λi t=>∃o3 u d c,t=[some (.lst (a.map W.int)),some (.lst (b.map W.int)),some (.lst ((tabI (a.length+b.length -1) (cf a b i)).map W.int)),o3,u,d,c]) ⟨none,none,none,none,?_⟩ ?_ ?_
 .have:tabI (a.length+b.length -1) (cf a b 0)=A6 (a.length+b.length -1) 0:=by unfold tabI;have:cf a b 0=λ_=>0:=rfl;rw[this,XJ,Ya]
  rw[this,PY]
 .rintro i w _ N I ⟨o3,u,d,c,rfl⟩ r;obtain⟨L,rfl⟩:=CG I;fin2;refine⟨rfl,?_⟩;by_cases z:a.getD i 0=0
  .rw[FV z];fin2;refine r _ ⟨some (.int i),some (.int (a.getD i 0)),d,c,?_⟩;rw[show cf a b (i+1)=cf a b i from funext λk=>J5 z k]
  .rw[Ki z];fin2;refine bG (λj t=>∃d c,t=[some (.lst (a.map W.int)),some (.lst (b.map W.int)),some (.lst ((tabI (a.length+b.length -1) (xZ a b i j)).map W.int)),some (.int i),some (.int (a.getD i 0)),d,c]) ⟨d,c,?_⟩ ?_ ?_
   .rw[show xZ a b i 0=cf a b i from funext λk=>x6 a b i k]
   .rintro j w _ Y F ⟨d,c,rfl⟩ E;obtain⟨K,rfl⟩:=CG F;have v:i+j<a.length+b.length -1:=by lia
    fin2;rw[show(i:Int)+(j:Int)=((i+j:Nat):Int) by lia];refine⟨rfl,_,cA (by rw[Da,fJ v];rfl),?_⟩;fin2;refine⟨wL (P:=λx=>IntMulOk x (b.getD j 0)) (λx H=>wL (P:=λy=>IntMulOk x y) (J x H) K) L,i+j,jG (by rw[Ap,bD];exact v),E _ ⟨some (.int j),some (.int (b.getD j 0)),?_⟩⟩;have e:=gc (n:=a.length+b.length -1) (f:=xZ a b i j) (g:=xZ a b i (j+1)) (k:=i+j) v (λq _ l=>by rw[lT,BM l,ky]);rw[lT,Bi rfl]at e;rw[<-e,ma]
   .rintro _ ⟨d,c,rfl⟩;refine r _ ⟨some (.int i),some (.int (a.getD i 0)),d,c,?_⟩;rw[yU,show xZ a b i b.length=cf a b (i+1)from funext λk=>x8 a b i k]
 .rintro _ ⟨o3,u,d,c,rfl⟩;rw[yU];fin2;exact l
noncomputable def HX:List CS:=[.par [0,1] [(.blt .abs [(.var 0)]),(.blt .abs [(.var 1)])],.GG (.cmp .Gt (.bits (.var 1)) (.glob 0)) [.par [0,1] [(.var 1),(.bin .Mod (.var 0) (.var 1))],.Ag [0,1] (.call 0 [(.call 1 [(.var 0),(.var 1)]),(.var 0),(.var 1)]),.par [0,1] [(.blt .abs [(.var 0)]),(.blt .abs [(.var 1)])]],.GG (.cmp .NotEq (.var 1) (.int 0)) [.par [0,1] [(.var 1),(.bin .Mod (.var 0) (.var 1))]],.ret (.var 0)]
noncomputable def Ec:aZ:=λc Q _=>∃(a b:Int)(n:Nat),c=[.int a,.int b]/\b.natAbs<2^n/\n<=6000/\Q (.int (A2 a b:Nat))
theorem WR{r:Nat->aZ}{m:Md}(p:List W)(Q:W->Prop)(R:Addr->Prop)(h:Ec p Q R):wSs r (nF [.int 6000]) HX (bN m Q R) (ao 2 p):=by
 obtain⟨a,b,n,rfl,v,B,t⟩:=h;show wSs _ _ HX _ [some (.int a),some (.int b)];unfold HX;have A:(if a<0 then-a else a)=(a.natAbs:Int):=by split<;>lia
 have w:(if b<0 then-b else b)=(b.natAbs:Int):=by split<;>lia
 have u:A2 (a.natAbs:Int) (b.natAbs:Int)=A2 a b:=rfl;refine aI (λc=>c=[some (.int (a.natAbs:Int)),some (.int (b.natAbs:Int))]) (λN k=>?_) ?_
 .fin2;rw[A,w];exact⟨rfl,k _ rfl⟩
 rintro _ rfl;have q:Builtin.Int.intBits (b.natAbs:Int)<=n:=bits_le (by rw[C2];exact v);refine aI (λc=>c=[some (.int (a.natAbs:Int)),some (.int (b.natAbs:Int))]) (λN k=>?_) ?_
 .dsimp only[wS];refine oq (α:=Unit) (λ_=>[some (.int (a.natAbs:Int)),some (.int (b.natAbs:Int))]) (λ_=>True) (λ_=>0) () rfl trivial ?_;rintro _ _;fin2;refine kU (λz=>?_) (λ_=>k _ rfl);have:=D1 z;lia
 rintro _ rfl;fin2;refine oq (α:=Int×Int) (λx=>[some (.int x.1),some (.int x.2)]) (λx=>A2 x.1 x.2=A2 a b/\0<=x.1/\0<=x.2) (λx=>x.2.natAbs) (a.natAbs,b.natAbs) rfl ⟨u,cc _,cc _⟩ ?_;rintro⟨x,y⟩ ⟨i,s,d⟩;dsimp only at i s d;fin2;refine kU (λj=>?_) (λj=>?_)
 .have g:y≠0:=by simpa using j
  have o:=qK x y (x.fdiv y);have l:=FH x y g;have f:=fm (x:=x) (n:=y) (by clear l o g;lia);rw[<-Num.fmod_eq]at o l;fin2;exact⟨g,rfl,(y,x.fmod y),rfl,⟨o.trans i,d,f.1⟩,l⟩
 .have g:y=0:=by simpa using j
  subst g;fin2;have e:x=((A2 a b:Nat):Int):=by rw[<-i,Qf];lia
  rw[e];exact t
end VL
namespace L2
open PySem
theorem uX{r:Nat}:Builtin.Range.rangeSize ((r:Int) -1) (-1) (-1)=(r:Int):=by
 unfold Builtin.Range.rangeSize;rw[BM (by decide)];split
 .show((r:Int) -1 - -1 -1)/1+1=_;lia
 .lia
theorem AG{r:Nat}(h:r<=1000):Builtin.Range.small ((r:Int) -1) (-1) (-1)=true:=by
 unfold Builtin.Range.small;rw[uX];have f:∀x:Int,-2000<=x->x<=2000->Builtin.Range.rangeFitsLong x=true:=λx b a=>by unfold Builtin.Range.rangeFitsLong;simp;lia
 rw[f _ (by lia) (by lia),f _ (by lia) (by lia),f _ (by lia) (by lia),BM (by decide),f (-1+(-1+1)) (by decide) (by decide)];simp
end L2
namespace VL
open PySem PySem.Spec
open PyProof.Rows hiding St
open L2 Num
theorem Sx{a:List Rat}{i:Nat}{w:W}(h:(a.map wq)[i]?=some w):∃x,a[i]?=some x/\w=wq x:=by
 rw[Da]at h;cases e:a[i]? with
 |none=>rw[e]at h;cases h
 |some x=>rw[e]at h;cases h;exact⟨x,rfl,rfl⟩
structure Clr(rs:List Rat)(ns:List Int)(B:Int):Prop where
 pos:0<B
 eq:ns=rs.map λx=>x.num*(B/x.den)
 dv:∀x∈rs,(x.den:Int)∣B
noncomputable def oA:List CS:=[.set 1 (.int 1),.fr [2] true (.var 0) [.set 3 (.ix (.var 2) (.int 1)),.iff (.cmp .NotEq (.bin .Mod (.var 1) (.var 3)) (.int 0)) [.set 1 (.bin .Mult (.bin .FloorDiv (.var 1) (.call 0 [(.var 1),(.var 3)])) (.var 3))] []],.ret (.tup [(.comp [0] true 1 (.var 0) (.bl true) (.bin .Mult (.ix (.var 0) (.int 0)) (.bin .FloorDiv (.var 2) (.ix (.var 0) (.int 1))))),(.var 1)])]
noncomputable def rZ:aZ:=λc Q _=>∃(a:List Rat)(D:Int)(n k:Nat),c=[dh a]/\((∀x∈a,Cd D n x)/\0<D/\D.natAbs<2^k/\k<=6000/\n<=100000/\a.length<=100)/\∀(b:List Int)(B:Int),Clr a b B->B∣D->B.natAbs<2^k->(∀x∈b,x.natAbs<2^n)->Q (.tup [wI b,.int B])
theorem Ed{G:Nat->W}{m:Md}(O:List W)(Q:W->Prop)(R:Addr->Prop)(h:rZ O Q R):wSs (cG [Ec]) G oA (bN m Q R) (ao 4 O):=by
 obtain⟨o,D,n,k,rfl,⟨F,hD,hDk,hk,hn,hl⟩,hq⟩:=h;have a:∀y:Int,0<y->y∣D->y.natAbs<2^k:=λy I H=>by have:=fe hD H;lia
 show wSs _ _ oA _ [some (dh o),none,none,none];unfold oA;dsimp only[wSs,wS,wE,look,hY];unfold dh;fin2;refine bG (λi U=>∃B o2 o3,(0<B/\B∣D/\∀j x,j<i->o[j]?=some x->(x.den:Int)∣B)/\U=[some (.lst (o.map wq)),some (.int B),o2,o3]) ⟨1,none,none,⟨by decide,fq _,λj x h=>by lia⟩,rfl⟩ ?_ ?_
 .rintro i w _ N Y ⟨B,o2,o3,⟨d,b,u⟩,rfl⟩ hN;obtain⟨x,c,rfl⟩:=Sx Y;have t:=PQ c;have S:=(F x t).dvd.1;have p:0<(x.den:Int):=by have:=x.den_pos;lia
  have v:=a _ p S;have T:=a _ d b;have f:∀q:Int,0<q->q∣D->B∣q->(x.den:Int)∣q->N [some (.lst (o.map wq)),some (.int q),some (wq x),some (.int x.den)]:=λq I H h3 h4=>
   hN _ ⟨q,_,_,⟨I,H,λj z l hz=>by
    by_cases C:j=i
    .subst C;rw[c]at hz;cases hz;exact h4
    .exact YS (u j z (by lia) hz) h3⟩,rfl⟩
  fin2;refine⟨_,rfl,?_⟩;fin2;refine⟨HS x,?_⟩;by_cases hz:B.fmod x.den=0
  .rw[FV hz];fin2;refine f B d b (VO _) (Int.dvd_of_fmod_eq_zero hz)
  .rw[Ki hz];fin2;have hg:((A2 B x.den:Nat):Int)<=x.den:=fe p (RF ..);have r:0<((A2 B x.den:Nat):Int):=by have:0<A2 B x.den:=tj _ (by lia);lia
   have s:((A2 B x.den:Nat):Int)∣B:=gN ..;have ZA:((A2 B x.den:Nat):Int)∣(x.den:Int):=RF ..;have ZC:=FN (HS x) b S;refine⟨B,x.den,k,rfl,v,hk,?_⟩;generalize((A2 B x.den:Nat):Int)=g at*;have X:g.natAbs<2^k:=by lia
   have A:0<B/g:=uk d (W1 r) s;have Z:B/g<=B:=Ww _ (W1 d);have M:(B/g).natAbs<2^k:=by lia
   fin2;rw[Kb _ (W1 r)];refine⟨⟨by lia,gE X (by lia)⟩,aH M v (by lia),f _ (sT A p) ZC ?_ ⟨B/g,ar _ _⟩⟩;obtain⟨j,l⟩:=ZA;refine⟨j,?_⟩;rw[l,<-a9,tI s]
 .rintro _ ⟨B,o2,o3,⟨d,b,u⟩,rfl⟩;rw[Ap]at u;have J:∀x∈o,(x.den:Int)∣B:=λx c=>by obtain⟨j,l,e⟩:=Sr c;exact u j x l (by rw[<-e];exact B1 l)
  have T:=a _ d b;have P:∀x∈o,(x.num*(B/x.den)).natAbs<2^n:=λx t=>by
   have E:=J x t;have e:=(F x t).dvd;obtain⟨j,l⟩:=b;have e2:D/x.den=B/x.den*j:=by rw[l];exact Int.mul_ediv_assoc' _ E|>λh=>by rw[<-h]
   have j0:j≠0:=λz=>by rw[z,Q1]at l;lia
   refine GE ?_ e.2;rw[e2,<-a9,FK (x.num*(B/x.den)) j];exact Wp _ (by lia)
  fin2;refine cF (h:=wq) (g:=λx=>.int (x.num*(B/x.den))) o [] _ (λx c K hK=>?_) (aj (by simpa using Bz hl (by decide))) ?_
  .have p:0<(x.den:Int):=by have:=x.den_pos;lia
   have v:=a _ p (F x c).dvd.1;have L:=P x c;have q0:0<B/x.den:=uk d (W1 p) (J x c);have M:(B/x.den).natAbs<2^k:=by have I:=Ww (x.den:Int) (W1 d);lia
   have ZE:x.num.natAbs<2^n:=by refine GE ?_ L;rw[FK];exact Wp _ (by lia)
   refine⟨_,rfl,_,rfl,⟨HS x,gE v (by lia)⟩,?_⟩;fin2;rw[Kb _ (W1 p)];exact⟨aH ZE M (by lia),hK⟩
  .refine⟨aj (by simp),?_⟩;have:=hq _ B ⟨d,rfl,J⟩ b T (λz hz=>by obtain⟨x,c,rfl⟩:=Hb.mp hz;exact P x c);unfold wI at this;rw[SL]at this;exact this
noncomputable def jI:List CS:=[.set 1 (.int 0),.fr [2] true (.var 0) [.set 1 (.call 0 [(.var 2),(.var 1)]),.iff (.cmp .Eq (.var 1) (.int 1)) [.ret (.tup [(.int 1),(.blt .list [(.var 0)])])] []],.ret (.tup [(.var 1),(.comp [0] true 1 (.var 0) (.bl true) (.bin .FloorDiv (.var 0) (.var 2)))])]
structure Srt(ns:List Int)(c:Int)(ms:List Int):Prop where
 pos:0<c
 dv:∀x∈ns,c∣x
 all:∀d:Int,(∀x∈ns,d∣x)->d∣c
 eq:ms=ns.map (·/c)
noncomputable def iX:aZ:=λd Q _=>∃(a:List Int)(n:Nat),d=[wI a]/\((∃x∈a,x≠0)/\a.length<=500/\n<=6000/\∀x∈a,x.natAbs<2^n)/\∀c b,Srt a c b->c.natAbs<2^n->Q (.tup [.int c,wI b])
theorem yV{G:Nat->W}{m:Md}(s:List W)(Q:W->Prop)(R:Addr->Prop)(h:iX s Q R):wSs (cG [Ec]) G jI (bN m Q R) (ao 3 s):=by
 obtain⟨a,n,rfl,⟨⟨F,S,H⟩,o,I,J⟩,u⟩:=h;show wSs _ _ jI _ [some (wI a),none,none];unfold jI;dsimp only[wSs,wS,wE,look,hY];unfold wI at*;fin2;refine bG (λi E=>∃(c:Int)(o2:Option W),(0<=c/\(∀j,j<i->j<a.length->c∣a.getD j 0)/\(∀d:Int,(∀x∈a,d∣x)->d∣c)/\c.natAbs<2^n)/\E=[some (.lst (a.map W.int)),some (.int c),o2]) ⟨0,none,⟨by decide,λj h=>by lia,λd _=>ZY d,SF (by decide)⟩,rfl⟩ ?_ ?_
 .rintro i w _ N l ⟨c,o2,⟨r,f,p,k⟩,rfl⟩ L;have y:i<a.length:=by have:=(Fn.mp l).1;simpa using this
  rw[int_at y]at l;cases l;have v:a.getD i 0∈a:=Sub.getD_mem' y;fin2;refine⟨a.getD i 0,c,n,rfl,k,I,?_⟩;have O:((A2 (a.getD i 0) c:Nat):Int)∣a.getD i 0:=gN ..;have C:((A2 (a.getD i 0) c:Nat):Int)∣c:=RF ..;have B:∀d:Int,(∀x∈a,d∣x)->d∣((A2 (a.getD i 0) c:Nat):Int):=λd h=>Int.dvd_coe_gcd (h _ v) (p d h);have A:((A2 (a.getD i 0) c:Nat):Int).natAbs<2^n:=by
   rcases cg r with q|q
   .have:=fe q C;lia
   .rw[<-q,Qf];have:=J _ v;lia
  have P:0<=((A2 (a.getD i 0) c:Nat):Int):=by lia
  generalize((A2 (a.getD i 0) c:Nat):Int)=g at*;have dv:∀j,j<i+1->j<a.length->g∣a.getD j 0:=λj b o=>by
   by_cases e:j=i
   .subst e;exact O
   .exact YS C (f j (by lia) o)
  fin2;by_cases e:g=1
  .rw[FV e];fin2;subst e;have:=u 1 a ⟨by decide,λx _=>fq x,B,by simp⟩ A;exact⟨aj (by simp),this⟩
  .rw[Ki e];fin2;exact L _ ⟨g,_,⟨P,dv,B,A⟩,rfl⟩
 .rintro _ ⟨c,o2,⟨r,f,p,k⟩,rfl⟩;rw[Ap]at f;have dv:∀x∈a,c∣x:=λx t=>by obtain⟨j,b,e⟩:=Sr t;have:=f j b b;rw[AC,B1 b]at this;rw[<-e];exact this
  have D:0<c:=by
   rcases cg r with z|z
   .exact z
   .have:=dv F S;rw[<-z,Int.zero_dvd]at this;exact absurd this H
  fin2;refine cF (h:=W.int) (g:=λx=>.int (x/c)) a [] _ (λx t K M=>?_) (aj (by simpa using Bz o (by decide))) ?_
  .fin2;rw[Kb _ (W1 D)];exact⟨⟨by lia,gE k (by lia)⟩,M⟩
  .refine⟨aj (by simp),?_⟩;have:=u c _ ⟨D,dv,p,rfl⟩ k;rw[SL]at this;exact this
noncomputable def jJ:List CS:=[.Ag [1,2] (.call 0 [(.var 0)]),.Ag [3,1] (.call 1 [(.var 1)]),.ret (.tup [(.var 1),(.var 2),(.var 3)])]
structure Prim(rs:List Rat)(ms:List Int)(B c:Int):Prop where
 bpos:0<B
 cpos:0<c
 len:ms.length=rs.length
 at_:∀i,(ms.getD i 0:Rat)*c=rs.getD i 0*B
 one:∀d:Int,(∀x∈ms,d∣x)->d∣1
noncomputable def gf:aZ:=λd Q _=>∃(a:List Rat)(D:Int)(n k:Nat),d=[dh a]/\((∃x∈a,x≠0)/\(∀x∈a,Cd D n x)/\0<D/\D.natAbs<2^k/\k<=6000/\n<=6000/\a.length<=100)/\∀(b:List Int)(B c:Int),Prim a b B c->B.natAbs<2^k->c.natAbs<2^n->(∀x∈b,x.natAbs<2^n)->Q (.tup [wI b,.int B,.int c])
theorem uY{α:Type}{l:List α}{f:α->Int}{i:Nat}{x:α}(h:l[i]?=some x):(l.map f).getD i 0=f x:=by rw[AC,Da,h];rfl
theorem Ma{a:List Rat}{ns f:List Int}{B c:Int}(g:Clr a ns B)(b:Srt ns c f):Prim a f B c:=by
 have o:ns.length=a.length:=by rw[g.eq,Ap]
 have n:f.length=a.length:=by rw[b.eq,Ap,o]
 refine⟨g.pos,b.pos,n,λi=>?_,λd q=>?_⟩
 .by_cases p:i<a.length
  .have k:=B1 p;have u:ns.getD i 0=a[i].num*(B/a[i].den):=by rw[g.eq];exact uY k
   have en:ns[i]?=some (ns.getD i 0):=by rw[AC,B1 (by lia)];rfl
   have t:f.getD i 0=ns.getD i 0/c:=by rw[b.eq];exact uY en
   have v:=b.dv _ (PQ en);have:f.getD i 0*c=ns.getD i 0:=by rw[t];exact tI v
   have s:((f.getD i 0:Int):Rat)*(c:Rat)=((ns.getD i 0:Int):Rat):=by rw[<-this,Fm]
   rw[s,u];have r:a.getD i 0=a[i]:=by rw[AC,k];rfl
   rw[r];exact jS (g.dv _ (T2 _))
  .have m:f.getD i 0=0:=by rw[AC,FC (by lia)];rfl
   have l:a.getD i 0=0:=by rw[AC,FC (by lia)];rfl
   rw[m,l];show((0:Int):Rat)*_=0*_;grind
 .have:=b.all (d*c) λx j=>by have e:=q (x/c) (by rw[b.eq];exact Hb.mpr ⟨x,j,rfl⟩);obtain⟨y,h⟩:=e;refine⟨y,?_⟩;rw[<-tI (b.dv x j),h];grind
  obtain⟨y,h⟩:=this;refine⟨y,?_⟩;have w:=b.pos;have:c*1=c*(d*y):=by rw[fI];rw[ar c,a9,ar y c,<-a9];exact h
  exact QR (by lia) this
theorem yW{G:Nat->W}{m:Md}(g:List W)(Q:W->Prop)(R:Addr->Prop)(h:gf g Q R):wSs (cG [rZ,iX]) G jJ (bN m Q R) (ao 4 g):=by
 obtain⟨e,D,n,k,rfl,⟨⟨a,p,q⟩,A,C,f,w,u,v⟩,t⟩:=h;show wSs _ _ jJ _ [some (dh e),none,none,none];unfold jJ;fin2;refine⟨e,D,n,k,rfl,⟨A,C,f,w,by lia,v⟩,λi B b J H o=>?_⟩;refine⟨rfl,?_⟩;fin2;have I:i.length=e.length:=by rw[b.eq,Ap]
 refine⟨i,n,rfl,⟨⟨a.num*(B/a.den),by rw[b.eq];exact Hb.mpr ⟨a,p,rfl⟩,?_⟩,by lia,u,o⟩,λc r l F=>?_⟩
 .have d:=b.dv a p;have E:0<(a.den:Int):=by have:=a.den_pos;lia
  have:0<B/a.den:=uk b.pos (W1 E) d;exact Hk (λz=>q (XO.mp z)) (by lia)
 .refine⟨rfl,?_⟩;fin2;refine⟨aj (by simp),t r B c (Ma b l) H F λx j=>?_⟩;rw[l.eq]at j;obtain⟨y,s,rfl⟩:=Hb.mp j;have:=Xt y c;have:=o y s;lia
noncomputable def gH:List CS:=[.iff (.cmp .Eq (.var 2) (.int 0)) [.ret (.var 0)] [],.ret (.bin .FloorDiv (.call 0 [(.var 1),(.var 2)]) (.call 0 [(.var 0),(.bin .Sub (.var 2) (.int 1))]))]
noncomputable def iY:aZ:=λb Q _=>∃(h l:Int)(a n:Nat),b=[.int h,.int l,.int a]/\(h.natAbs<2^n/\l.natAbs<2^n/\n*(a+1)<=130000000/\(0<a->h^(a -1)≠0/\(h^(a -1)).natAbs.log2<1000000000))/\Q (.int (Sub.hnext h l a))
theorem tL{G:Nat->W}{m:Md}(c:List W)(Q:W->Prop)(R:Addr->Prop)(h:iY c Q R):wSs (cG [qf]) G gH (bN m Q R) (ao 3 c):=by
 obtain⟨h,l,a,n,rfl,⟨k,j,d,f⟩,b⟩:=h;show wSs _ _ gH _ [some (.int h),some (.int l),some (.int a)];unfold gH;fin2;by_cases z:(a:Int)=0
 .rw[FV z];fin2;have e:Sub.hnext h l a=h:=by unfold Sub.hnext;rw[Bi (by lia)]
  rw[e]at b;exact b
 .rw[Ki z];fin2;obtain⟨i,g⟩:=f (by lia);have e:Sub.hnext h l a=(l^a).fdiv (h^(a -1)):=by unfold Sub.hnext;rw[BM (by lia)]
  rw[e]at b;refine⟨l,a,n,rfl,j,d,?_⟩;rw[show(a:Int) -1=((a -1:Nat):Int) by lia];refine⟨h,a -1,n,rfl,k,Bz (Ee _ (by lia)) d,?_⟩;fin2;exact⟨⟨i,g⟩,b⟩
theorem AH{x:Nat}{n m:Nat}(h:x<2^n)(a:n<=m):x<2^m:=FS h (FM (by decide) a)
theorem HY{a b:Int}{n:Nat}(d:a.natAbs<n)(c:b.natAbs<n):(a -b).natAbs<2*n:=by have:=d9 a b;lia
theorem ZF{p i:Nat}(h:p<i):i -p=(i -(p+1))+1:=by lia
theorem iZ{ns:List Int}{n:Nat}(h:∀x∈ns,x.natAbs<2^n)(k:Nat):(ns.getD k 0).natAbs<2^n:=by
 by_cases a:k<ns.length
 .rw[AC,B1 a];exact h _ (T2 a)
 .rw[outI (by lia)];exact SF (by decide)
theorem CH{ns:List Int}(h:0<ns.length):nB (ns.map W.int) (-1)=some (.int (ns.getD (ns.length -1) 0)):=by refine j6 ?_;rw[IR,Ap,int_at (by omega)]
theorem r6{n k:Nat}{f:Nat->Int}(h:k<n):(tabI n f).getD k 0=f k:=by rw[AC,fJ h];rfl
theorem CI(n:Nat)(f:Nat->Int)(k:Nat):(tabI n f).getD k 0=if k<n then f k else 0:=by
 by_cases h:k<n
 .rw[Bi h,r6 h]
 .rw[BM h];exact outI (by rw[bD];lia)
theorem r8{n:Nat}{f:Nat->Int}{x:Int}(h:x∈tabI n f):∃k,k<n/\x=f k:=by unfold tabI at h;obtain⟨k,a,rfl⟩:=Hb.mp h;exact⟨k,du.mp a,rfl⟩
theorem jK{n:Nat}{f g:Nat->Int}(h:∀k,k<n->f k=g k):tabI n f=tabI n g:=by unfold tabI;exact cq λk a=>h k (du.mp a)
theorem yX(n:Nat)(x:Int):A6 n (W.int x)=(tabI n λ_=>x).map W.int:=by unfold tabI;rw[XJ,Ya,PY]
theorem oB{n:Nat}(ns:List Int)(h:ns.length=n):ns=tabI n λk=>ns.getD k 0:=by
 refine lj λj=>?_;by_cases a:j<n
 .rw[fJ a,AC,B1 (by lia)];rfl
 .rw[FC (by lia),FC (by rw[bD];lia)]
theorem CJ{r n s:Nat}{w:W}(h:(jv ((r:Int) -1) (-1) n)[s]?=some w):s<n/\w=.int ((r:Int) -1 -s):=by unfold jv at h;rw[Da]at h;obtain⟨j,e,rfl⟩:=OF.mp h;obtain⟨b,a⟩:=Fn.mp e;rw[c8]at a;rw[Ya]at b;refine⟨b,?_⟩;rw[<-a];congr 1;lia
theorem wN(lo st:Int)(n:Nat):(jv lo st n).length=n:=by unfold jv;simp
theorem uZ{r:Nat}{Q:List W->Prop}(h:r<=1000)(q:Q (jv ((r:Int) -1) (-1) r)):GI [.int ((r:Int) -1),.int (-1),.int (-1)] Q:=
 ⟨r,⟨by decide,by decide,AG h,uX⟩,q⟩
theorem wO{R:List Int}(h:0<R.length):∃a x,R=a++[x]:=
 ⟨R.dropLast,R.getLast (λz=>by rw[z]at h;cases h),(so _).symm⟩
theorem pop_at{a:List Int}{x:Int}:((a++[x]).map W.int)[((a++[x]).map W.int).length -1]?=some (.int x):=by simp
theorem HZ{a:List Int}{x:Int}:((a++[x]).map W.int).dropLast=a.map W.int:=by simp
noncomputable def eX:List CS:=[.set 2 (.blt .max2 [(.bin .Add (.bin .Sub (.blt .len [(.var 0)]) (.blt .len [(.var 1)])) (.int 1)),(.int 0)]),.set 3 (.ix (.var 1) (.neg (.int 1))),.set 4 (.blt .list [(.var 0)]),.set 5 (.bin .Mult (.lst [(.int 0)]) (.var 2)),.fr [6] true (.ny [(.bin .Sub (.var 2) (.int 1)),(.neg (.int 1)),(.neg (.int 1))]) [.mD 7 (.pop 4),.put 5 (.var 6) (.var 7),.set 4 (.call 0 [(.var 4),(.var 3)]),.fr [8] true (.ny [(.bin .Sub (.blt .len [(.var 1)]) (.int 1))]) [.put 4 (.bin .Add (.var 6) (.var 8)) (.bin .Sub (.ix (.var 4) (.bin .Add (.var 6) (.var 8))) (.bin .Mult (.var 7) (.ix (.var 1) (.var 8))))]],.set 9 (.int 1),.fr [6] true (.ny [(.var 2)]) [.put 5 (.var 6) (.bin .Mult (.ix (.var 5) (.var 6)) (.var 9)),.set 9 (.bin .Mult (.var 9) (.var 3))],.ret (.tup [(.var 5),(.call 1 [(.var 4)]),(.var 9)])]
structure Sy(ns ms:List Int)(N M:Nat)(Qs R:List Int):Prop where
 WU:Qs.length=ns.length+1 -ms.length
 WV:R.length<ms.length
 eq:∀k,(ms.getD (ms.length -1) 0)^(ns.length+1 -ms.length)*ns.getD k 0=lD (λi=>Qs.getD i 0) (λi=>ms.getD i 0) k+R.getD k 0
 bQ:∀x∈Qs,x.natAbs<2^(N+(ns.length+1 -ms.length)*(M+1))
 bR:∀x∈R,x.natAbs<2^(N+(ns.length+1 -ms.length)*(M+1))
 last:R=[]\/R.getD (R.length -1) 0≠0
noncomputable def gg:aZ:=λd Q _=>∃(b a:List Int)(N M:Nat),d=[wI b,wI a]/\(0<a.length/\b.length<=100/\a.length<=100/\(∀x∈b,x.natAbs<2^N)/\(∀x∈a,x.natAbs<2^M)/\∃K,b.length<K/\N+K*(M+1)<=100000000)/\
 ∀c R:List Int,Sy b a N M c R->Q (.tup [wI c,wI R,.int ((a.getD (a.length -1) 0)^(b.length+1 -a.length))])
theorem pL{G:Nat->W}{m:Md}(ws:List W)(Q:W->Prop)(R:Addr->Prop)(h:gg ws Q R):wSs (cG [iT,mV]) G eX (bN m Q R) (ao 10 ws):=by
 obtain⟨A,b,N,M,rfl,⟨lm,la,lb,bn,bm,K,hK,hNM⟩,q⟩:=h;show wSs _ _ eX _ [some (wI A),some (wI b),none,none,none,none,none,none,none,none];unfold eX wI;fin2;have eR:(if(0:Int)>((A.map W.int).length:Int) -((b.map W.int).length:Int)+1 then(0:Int)else((A.map W.int).length:Int) -((b.map W.int).length:Int)+1)=((A.length+1 -b.length:Nat):Int):=by rw[Ap,Ap];split<;>lia
 have bL:=iZ bm (b.length -1);have eL:=CH lm;have c:∀s,s<=A.length+1 -b.length->s*(M+1)<=K*(M+1):=λs r=>Os _ (by lia);rw[eR];have XQ:(b.map W.int).length=b.length:=Ap _;generalize hl:b.getD (b.length -1) 0=l at*;generalize U:A.length+1 -b.length=a at*;refine⟨_,eL,?_⟩;fin2;rw[Io,ia,yX];refine⟨aj (by simp),by lia,by lia,aj (by simp;lia),?_⟩;refine uZ (by lia) ?_;fin2;refine bG (λs T=>∃(R:List Int)(r J:Nat->Int)(L v7 E:Option W),(z7 A b l s J R/\R.length=A.length -s/\(∀x∈R,x.natAbs<2^(N+s*(M+1)))/\(∀i,i<a->a -s<=i->J i=r i*l^(i -(a -s))/\(r i).natAbs<2^(N+(a -1 -i)*(M+1)))/\(∀i,(i<a -s\/a<=i)->J i=0))/\T=[some (.lst (A.map W.int)),some (.lst (b.map W.int)),some (.int a),some (.int l),some (.lst (R.map W.int)),some (.lst ((tabI a r).map W.int)),L,v7,E,none]) ⟨A,λ_=>0,λ_=>0,none,none,none,⟨z7.start A b l,by lia,λx hx=>by rw[ZG];exact bn x hx,λi h1 h2=>by lia,λ_ _=>rfl⟩,rfl⟩ ?_ ?_
 .rintro s w _ N1 hw ⟨R,S,J,L,v7,E,⟨dv,lR,bR,H,hz⟩,rfl⟩ gh;obtain⟨r,rfl⟩:=CJ hw;have hp:((a:Nat):Int) -1 -(s:Int)=((a -1 -s:Nat):Int):=by lia
  rw[hp];generalize hpp:a -1 -s=p at*;have O:a=p+s+1:=by lia
  obtain⟨d,C⟩:∃d,b.length=d+1:=⟨_,(Yc lm).symm⟩;have hn:A.length=p+d+(s+1):=by lia
  have bs:=c s (SC r);have X:=c (s+1) r;clear hpp hp U;have r2:a -s=p+1:=by rw[O,tq,HI]
  have r1:a -(s+1)=p:=by rw[O];exact HI p (s+1)
  have e1:p+b.length -1=p+d:=by rw[C];rfl
  have N6:R.length=p+b.length:=by rw[lR,hn,C,<-wb,tq,HI];rfl
  obtain⟨o,x,rfl⟩:=wO (R:=R) (by rw[N6,C];exact ZL _);have F5:o.length=p+d:=by rw[GM,C]at N6;exact Xr N6
  have ex:(o++[x]).getD (p+d) 0=x:=by rw[AC,Jn (km F5),F5,oT];rfl
  have eg:∀k,k<p+d->(o++[x]).getD k 0=o.getD k 0:=λk B=>by rw[AC,PP (by rw[F5];exact B),<-AC]
  have bx:x.natAbs<2^(N+s*(M+1)):=bR x (IH _ (Do.mpr rfl));have Z:∀y∈o,y.natAbs<2^(N+s*(M+1)):=λy F=>bR y (X2 _ F);fin2;refine⟨_,pop_at,?_⟩;rw[HZ];fin2;refine⟨p,jG (by rw[Ap,bD,O];exact va (XB _ _)),?_⟩;have et:=gc (n:=a) (f:=S) (g:=λk=>if k=p then x else S k) (k:=p) (by rw[O];exact va (XB _ _)) (λj _ hj=>BM hj);rw[Bi rfl]at et;rw[<-ma,et];refine⟨o,l,rfl,by lia,λy F=>aH bL (Z y F) (by lia),?_⟩;have em:(o.map λy=>l*y)=tabI (p+d) λk=>l*o.getD k 0:=by
   conv=>lhs;rw[oB o F5]
   unfold tabI;rw[SL];rfl
  rw[em];unfold wI;fin2;rw[XQ];refine⟨by lia,by lia,?_⟩;rw[show((b.length:Int) -1).toNat=d by rw[C];lia];refine bG (λj T=>∃(E:Option W),T=[some (.lst (A.map W.int)),some (.lst (b.map W.int)),some (.int a),some (.int l),some (.lst ((tabI (p+d) λk=>if p<=k/\k<p+j then l*o.getD k 0 -x*b.getD (k -p) 0 else l*o.getD k 0).map W.int)),some (.lst ((tabI a λk=>if k=p then x else S k).map W.int)),some (.int p),some (.int x),E,none]) ⟨E,?_⟩ ?_ ?_
  .rw[jK (n:=p+d) (f:=λk=>if p<=k/\k<p+0 then l*o.getD k 0 -x*b.getD (k -p) 0 else l*o.getD k 0) λk _=>BM (show¬(p<=k/\k<p+0)from λz=>SU _ (FS z.2 z.1))]
  .rintro j w _ N2 sZ ⟨E,rfl⟩ uW;obtain⟨hj,rfl⟩:=ou sZ;have ix:p+j<p+d:=bb hj p;fin2;rw[show(p:Int)+(j:Int)=((p+j:Nat):Int) by lia];refine⟨_,cA (by rw[Da,fJ ix];rfl),?_⟩;rw[BM (show¬(p<=p+j/\p+j<p+j)from λz=>SU _ z.2)];refine⟨_,cA (int_at (by rw[C];exact eJ hj)),?_⟩;fin2;refine⟨aH bx (iZ bm j) (by lia),p+j,jG (by rw[Ap,bD];exact ix),uW _ ⟨some (.int j),?_⟩⟩;have e:=gc (n:=p+d) (f:=λk=>if p<=k/\k<p+j then l*o.getD k 0 -x*b.getD (k -p) 0 else l*o.getD k 0) (g:=λk=>if p<=k/\k<p+(j+1)then l*o.getD k 0 -x*b.getD (k -p) 0 else l*o.getD k 0) ix (λk _ B=>by
    by_cases t:p<=k/\k<p+j
    .rw[Bi t,Bi ⟨t.1,eJ t.2⟩]
    .rw[BM t,BM λz=>t ⟨z.1,nr (V3 z.2) B⟩])
   rw[Bi ⟨XB _ _,Pl _⟩,bj]at e;rw[<-e,ma]
  .rintro _ ⟨E,rfl⟩;rw[wN];refine gh _ ⟨_,λk=>if k=p then x else S k,λi=>l*J i+if i=p then(o++[x]).getD (p+b.length -1) 0 else 0,_,_,_,⟨dv.step lm hl.symm N6 (R':=tabI (p+d) λk=>if p<=k/\k<p+d then l*o.getD k 0 -x*b.getD (k -p) 0 else l*o.getD k 0) (by rw[bD,e1]) (λk B=>?_),by rw[bD,hn,HI],λy F=>?_,λi h1 h2=>?_,λi h=>?_⟩,rfl⟩
   .rw[e1]at B;rw[r6 B,e1,ex,eg k B];by_cases I:p<=k
    .rw[Bi ⟨I,B⟩,Bi I]
    .rw[BM λz=>I z.1,BM I,xi]
   .obtain⟨k,B,rfl⟩:=r8 F;have c1:(l*o.getD k 0).natAbs<2^(M+(N+s*(M+1))):=by rw[FK];exact lt_mul bL (iZ Z k)
    have c2:(x*b.getD (k -p) 0).natAbs<2^(M+(N+s*(M+1))):=by rw[FK,Ta];exact lt_mul (iZ bm _) bx
    have c3:2^(N+(s+1)*(M+1))=2*2^(M+(N+s*(M+1))):=by rw[vw,X1,show N+(s*(M+1)+(M+1))=(M+(N+s*(M+1)))+1 by lia,GS];lia
    rw[c3];split
    .exact HY c1 c2
    .exact FS c1 (xb _ (by decide))
   .show l*J i+(if i=p then _ else 0)=(if i=p then x else S i)*l^(i -(a -(s+1)))/\(if i=p then x else S i).natAbs<_;rw[r1]at h2⊢;rw[r2]at H hz;by_cases P:i=p
    .rw[Bi P,Bi P,hz i (.inl (by rw[P];exact Pl p)),e1,ex,P,oT,UV];refine⟨by rw[Q1,oa,fI],?_⟩;rw[show a -1 -p=s by rw[O];exact bj p s];exact bx
    .have pi:=nr h2 (Y2 P);have hh:=H i h1 pi;rw[BM P,BM P,hh.1,ZF pi,Pt];exact⟨by grind,hh.2⟩
   .show l*J i+(if i=p then _ else 0)=0;rw[r1,O]at h;rw[BM (by clear dv H hz bs X;lia),hz i (by rw[r2,O];clear dv H hz bs X;lia),Q1];rfl
 .rintro _ ⟨R,r,J,L,v7,E,⟨dv,lR,bR,H,hz⟩,rfl⟩;rw[wN]at dv lR bR H hz;have brr:=c a (by lia);fin2;refine⟨by lia,by lia,?_⟩;rw[Io];refine bG (λj T=>∃(L:Option W),T=[some (.lst (A.map W.int)),some (.lst (b.map W.int)),some (.int a),some (.int l),some (.lst (R.map W.int)),some (.lst ((tabI a λk=>if k<j then r k*l^k else r k).map W.int)),L,v7,E,some (.int (l^j))]) ⟨L,?_⟩ ?_ ?_
  .rw[UV,jK (n:=a) (f:=λk=>if k<0 then r k*l^k else r k) λk _=>BM (Nat.not_lt_zero k)]
  .rintro j w _ N2 sZ ⟨L,rfl⟩ uW;obtain⟨D,rfl⟩:=ou sZ;have bh:=(H j D (by lia)).2;have bp:=FO (i:=j) bL;have Y:(l^j).natAbs<2^(M*j+1):=by
    have:2^(M*j+1)=2*2^(M*j):=by rw[GS];lia
    have:0<2^(M*j):=SF (by decide);lia
   have k1:=c (a -1 -j+j) (by lia);rw[vw]at k1;have k2:M*j<=j*(M+1):=by rw[Ta];exact Ee _ (vk M)
   have k4:=c (j+1) D;rw[vw,X1]at k4;fin2;refine⟨_,cA (by rw[Da,fJ D];rfl),?_⟩;rw[BM (SU j)];fin2;refine⟨aH bh Y (by clear k4;generalize j*(M+1)=u at*;generalize(a -1 -j)*(M+1)=v at*;generalize K*(M+1)=z at*;lia),j,jG (by rw[Ap,bD];exact D),aH Y bL (by clear k1;generalize j*(M+1)=u at*;generalize K*(M+1)=z at*;lia),?_⟩;have e:=gc (n:=a) (f:=λk=>if k<j then r k*l^k else r k) (g:=λk=>if k<j+1 then r k*l^k else r k) D (λk _ B=>by
    by_cases t:k<j
    .rw[Bi t,Bi (by lia)]
    .rw[BM t,BM (by lia)])
   rw[Bi (Pl j)]at e;rw[<-ma,e];refine uW _ ⟨some (.int j),?_⟩;rw[Pt]
  .rintro _ ⟨L,rfl⟩;rw[wN];fin2;refine⟨R,rfl,λts tr=>?_⟩;refine⟨aj (by simp),?_⟩;have tl:=yc tr;have eqf:∀i,J i=(tabI a λk=>if k<a then r k*l^k else r k).getD i 0:=λi=>by
    rw[CI];by_cases hi:i<a
    .rw[Bi hi,Bi hi,(H i hi (by lia)).1,show i -(a -a)=i by lia]
    .rw[BM hi,hz i (by lia)]
   refine q _ ts ⟨?_,by lia,λk=>?_,λy F=>?_,λy F=>?_,tr.last⟩
   .rw[bD,U]
   .rw[U,hl,dv k,Ke tr];congr 2;exact funext eqf
   .obtain⟨k,B,rfl⟩:=r8 F;rw[Bi B,FK,U];refine AH (Kf (H k B (by lia)).2 (FO (i:=k) bL)) ?_;have e:a*(M+1)=(a -1 -k)*(M+1)+(k+1)*(M+1):=by rw[<-vw,show a -1 -k+(k+1)=a by lia]
    have e2:M*k<=(k+1)*(M+1):=by rw[Ta];exact Kx (by lia) (by lia)
    lia
   .rw[U];exact bR y (tr.mem y F)
end VL
namespace L2
open PySem
end L2
namespace VL
open PySem PySem.Spec
open PyProof.Rows hiding St
open L2 Num
theorem Ia(a bs:List Int)(i k:Nat):cf a bs (i+1) k=cf a bs i k+a.getD i 0*(if i<=k then bs.getD (k -i) 0 else 0):=by rw[x9,x9,sm]
noncomputable def i6:List CS:=[.set 2 (.bin .Add (.bin .Sub (.blt .len [(.var 0)]) (.blt .len [(.var 1)])) (.int 1)),.set 3 (.blt .list [(.var 0)]),.set 4 (.bin .Mult (.lst [(.int 0)]) (.var 2)),.fr [5] true (.ny [(.bin .Sub (.var 2) (.int 1)),(.neg (.int 1)),(.neg (.int 1))]) [.mD 6 (.bin .FloorDiv (.pop 3) (.ix (.var 1) (.neg (.int 1)))),.put 4 (.var 5) (.var 6),.fr [7] true (.ny [(.bin .Sub (.blt .len [(.var 1)]) (.int 1))]) [.put 3 (.bin .Add (.var 5) (.var 7)) (.bin .Sub (.ix (.var 3) (.bin .Add (.var 5) (.var 7))) (.bin .Mult (.var 6) (.ix (.var 1) (.var 7))))]],.ret (.var 4)]
noncomputable def jL:aZ:=λc Q _=>∃(b a Z:List Int)(N:Nat),c=[wI b,wI a]/\(0<a.length/\0<Z.length/\b.length<=100/\b.length+1=Z.length+a.length/\(∀k,b.getD k 0=cf Z a Z.length k)/\a.getD (a.length -1) 0≠0/\N<=60000000/\(∀x∈a,x.natAbs<2^N)/\∀x∈Z,x.natAbs<2^N)/\Q (wI Z)
theorem wQ{Φ:Nat->aZ}{G:Nat->W}{m:Md}(X:List W)(Q:W->Prop)(R:Addr->Prop)(h:jL X Q R):wSs Φ G i6 (bN m Q R) (ao 8 X):=by
 obtain⟨r,b,Z,N,rfl,⟨Y,lw,ln,lnm,hW,WW,hN,bm,bW⟩,q⟩:=h;show wSs _ _ i6 _ [some (wI r),some (wI b),none,none,none,none,none,none];unfold i6 wI;unfold wI at q;have eL:=CH Y;have bL:=iZ bm (b.length -1);have XQ:(b.map W.int).length=b.length:=Ap _;fin2;rw[Ap,XQ,show(r.length:Int) -(b.length:Int)+1=((Z.length:Nat):Int) by lia];generalize kW:Z.length=a at*;rw[Io,ia,yX];refine⟨aj (by simp),by lia,by lia,aj (by simp;lia),?_⟩;refine uZ (by lia) ?_;fin2;refine bG (λs H=>∃(R:List Int)(J I y:Option W),(R.length=r.length -s/\(∀k,k<r.length -s->R.getD k 0=cf Z b (a -s) k))/\H=[some (.lst (r.map W.int)),some (.lst (b.map W.int)),some (.int a),some (.lst (R.map W.int)),some (.lst ((tabI a λk=>if a -s<=k then Z.getD k 0 else 0).map W.int)),J,I,y]) ⟨r,none,none,none,⟨rfl,λk _=>by rw[hW k];rfl⟩,?_⟩ ?_ ?_
 .rw[jK (n:=a) (f:=λk=>if a -0<=k then Z.getD k 0 else 0) (g:=λ_=>0) λk u=>(BM (show¬a -0<=k by lia))]
 .rintro s w _ N1 hw ⟨R,J,I,y,⟨lR,O⟩,rfl⟩ gh;obtain⟨hs,rfl⟩:=CJ hw;have B:((a:Nat):Int) -1 -(s:Int)=((a -1 -s:Nat):Int):=by lia
  rw[B];generalize L:a -1 -s=p at*;have D:a=p+s+1:=by lia
  obtain⟨d,i⟩:∃d,b.length=d+1:=⟨_,(Yc Y).symm⟩;have M:r.length=p+d+(s+1):=by lia
  clear L B;have A:r.length -s=p+d+1:=by rw[M,mM s 1,<-wb,HI]
  have T:R.length=p+b.length:=by rw[lR,A,i];rfl
  have U:a -s=p+1:=by rw[D,tq,HI]
  have S:a -(s+1)=p:=by rw[D];exact HI p (s+1)
  obtain⟨l,x,rfl⟩:=wO (R:=R) (by rw[T,i];exact ZL _);have F:l.length=p+d:=by rw[GM,i]at T;exact Xr T
  have ex:(l++[x]).getD (p+d) 0=x:=by rw[AC,Jn (km F),F,oT];rfl
  have eg:∀k,k<p+d->(l++[x]).getD k 0=l.getD k 0:=λk u=>by rw[AC,PP (by rw[F];exact u),<-AC]
  have xv:x=Z.getD p 0*b.getD (b.length -1) 0:=by have:=O (p+d) (by rw[A];exact Pl _);rw[ex,U,Ia,lU Z b _ p (by rw[i];exact D2 _),Bi (XB _ _),show p+d -p=b.length -1 by rw[i];exact bj p d,oa]at this;exact this
  have P:=iZ bW p;have hv:x.fdiv (b.getD (b.length -1) 0)=Z.getD p 0:=by rw[xv,oP ⟨Z.getD p 0,ar _ _⟩,Int.mul_ediv_cancel _ WW]
  fin2;refine⟨_,pop_at,?_⟩;rw[HZ];fin2;refine⟨_,eL,?_⟩;fin2;refine⟨⟨WW,AF bL (Bz hN (by decide))⟩,?_⟩;rw[hv];refine⟨p,jG (by rw[Ap,bD,D];exact va (XB _ _)),?_⟩;have et:=gc (n:=a) (f:=λk=>if a -s<=k then Z.getD k 0 else 0) (g:=λk=>if a -(s+1)<=k then Z.getD k 0 else 0) (k:=p) (by rw[D];exact va (XB _ _)) (λj _ E=>by
   rw[U,S];by_cases v:p+1<=j
   .rw[Bi v,Bi (SC v)]
   .rw[BM v,BM λz=>v (nr z (Y2 E))])
  rw[Bi (km S)]at et;rw[<-ma,et,XQ];refine⟨by lia,by lia,?_⟩;rw[show((b.length:Int) -1).toNat=d by rw[i];lia];refine bG (λj H=>∃(y:Option W),H=[some (.lst (r.map W.int)),some (.lst (b.map W.int)),some (.int a),some (.lst ((tabI (p+d) λk=>if p<=k/\k<p+j then l.getD k 0 -Z.getD p 0*b.getD (k -p) 0 else l.getD k 0).map W.int)),some (.lst ((tabI a λk=>if a -(s+1)<=k then Z.getD k 0 else 0).map W.int)),some (.int p),some (.int (Z.getD p 0)),y]) ⟨y,?_⟩ ?_ ?_
  .rw[jK (n:=p+d) (f:=λk=>if p<=k/\k<p+0 then l.getD k 0 -Z.getD p 0*b.getD (k -p) 0 else l.getD k 0) λk _=>BM (show¬(p<=k/\k<p+0)from λz=>SU _ (FS z.2 z.1)),<-oB l F]
  .rintro j w _ N2 sZ ⟨y,rfl⟩ uW;obtain⟨E,rfl⟩:=ou sZ;have K:p+j<p+d:=bb E p;fin2;rw[show(p:Int)+(j:Int)=((p+j:Nat):Int) by lia];refine⟨_,cA (by rw[Da,fJ K];rfl),?_⟩;rw[BM (show¬(p<=p+j/\p+j<p+j)from λz=>SU _ z.2)];refine⟨_,cA (int_at (by rw[i];exact eJ E)),?_⟩;fin2;refine⟨aH P (iZ bm j) (by lia),p+j,jG (by rw[Ap,bD];exact K),uW _ ⟨some (.int j),?_⟩⟩;have e:=gc (n:=p+d) (f:=λk=>if p<=k/\k<p+j then l.getD k 0 -Z.getD p 0*b.getD (k -p) 0 else l.getD k 0) (g:=λk=>if p<=k/\k<p+(j+1)then l.getD k 0 -Z.getD p 0*b.getD (k -p) 0 else l.getD k 0) K (λk _ u=>by
    by_cases o:p<=k/\k<p+j
    .rw[Bi o,Bi ⟨o.1,eJ o.2⟩]
    .rw[BM o,BM λz=>o ⟨z.1,nr (V3 z.2) u⟩])
   rw[Bi ⟨XB _ _,Pl _⟩,bj]at e;rw[<-e,ma]
  .rintro _ ⟨y,rfl⟩;rw[wN];refine gh _ ⟨_,_,_,_,⟨by rw[bD,M,HI],λk u=>?_⟩,rfl⟩;rw[M,HI]at u;have C:=u;rw[r6 C,S];have c:=O k (by rw[A];exact eJ u);rw[eg k C,U,Ia]at c;by_cases t:p<=k
   .rw[Bi ⟨t,u⟩];rw[Bi t]at c;lia
   .rw[BM λz=>t z.1];rw[BM t,Q1,ky]at c;exact c
 .rintro _ ⟨R,J,I,y,⟨lR,O⟩,rfl⟩;rw[wN];fin2;have e:(tabI a λk=>if a -a<=k then Z.getD k 0 else 0)=Z:=by rw[jK (g:=λk=>Z.getD k 0) λk _=>Bi (by lia),<-oB Z kW]
  rw[e];exact q
noncomputable def wR:List CS:=[.Ag [2,3] (.var 0),.Ag [4,5] (.var 1),.set 6 (.call 0 [(.var 2),(.var 5)]),.set 7 (.call 0 [(.var 4),(.var 3)]),.ret (.tup [(.bin .Mult (.bin .FloorDiv (.var 2) (.var 6)) (.bin .FloorDiv (.var 4) (.var 7))),(.bin .Mult (.bin .FloorDiv (.var 3) (.var 7)) (.bin .FloorDiv (.var 5) (.var 6)))])]
noncomputable def wU:aZ:=λe Q _=>∃(a b:Rat)(d c n m:Nat),e=[wq a,wq b]/\(TU d n a/\TU c m b/\d<=1000000/\c<=1000000/\n<=6000/\m<=6000)/\Q (wq (a*b))
theorem Mb{G:Nat->W}{m:Md}(c:List W)(Q:W->Prop)(R:Addr->Prop)(h:wU c Q R):wSs (cG [Ec]) G wR (bN m Q R) (ao 8 c):=by
 obtain⟨a,b,C,B,n,m,rfl,⟨j,e,H,D,E,F⟩,q⟩:=h;show wSs _ _ wR _ [some (wq a),some (wq b),none,none,none,none,none,none];unfold wR wq;unfold wq at q;have A:=j.1;have k:(a.den:Int).natAbs<2^n:=by rw[C2];exact j.2
 have z:=e.1;have l:(b.den:Int).natAbs<2^m:=by rw[C2];exact e.2
 obtain⟨s,r,u,t⟩:=FI a b;have p:((A2 a.num b.den:Nat):Int).natAbs<2^m:=by have:((A2 a.num b.den:Nat):Int)<=b.den:=fe (dpos b) (RF ..);lia
 have o:((A2 b.num a.den:Nat):Int).natAbs<2^n:=by have:((A2 b.num a.den:Nat):Int)<=a.den:=fe (dpos a) (RF ..);lia
 fin2;refine⟨rfl,?_⟩;fin2;refine⟨rfl,?_⟩;fin2;refine⟨a.num,b.den,m,rfl,l,by lia,?_⟩;refine⟨b.num,a.den,n,rfl,k,by lia,?_⟩;generalize((A2 a.num b.den:Nat):Int)=f at*;generalize((A2 b.num a.den:Nat):Int)=g at*;have cf:∀i:Int,oO i f:=λi=>⟨by lia,gE p (by lia)⟩;have d:∀i:Int,oO i g:=λi=>⟨by lia,gE o (by lia)⟩;have y:(a.num/f).natAbs<2^C:=GE (Xt ..) A;have x:(b.num/g).natAbs<2^B:=GE (Xt ..) z;have w:((a.den:Int)/g).natAbs<2^n:=GE (Xt ..) k;have v:((b.den:Int)/f).natAbs<2^m:=GE (Xt ..) l;fin2;simp only[Kb _ (W1 s),Kb _ (W1 r)];refine⟨cf _,d _,aH y x (by lia),d _,cf _,aH w v (by lia),aj (by simp),?_⟩;rw[u,t]at q;exact q
noncomputable def AI:List CS:=[.Ag [2,3] (.var 1),.iff (.cmp .Eq (.var 2) (.int 0)) [.KJ] [],.iff (.cmp .Lt (.var 2) (.int 0)) [.ret (.call 0 [(.var 0),(.tup [(.neg (.var 3)),(.neg (.var 2))])])] [],.ret (.call 0 [(.var 0),(.tup [(.var 3),(.var 2)])])]
noncomputable def Ib:aZ:=λe Q R=>∃(a b:Rat)(d c n:Nat),e=[wq a,wq b]/\(TU d n a/\TU c c b/\d<=1000000/\c<=6000/\n<=6000)/\(b=0->False)/\(b≠0->Q (wq (a*b⁻¹)))
theorem SD{G:Nat->W}{m:Md}(i:List W)(Q:W->Prop)(R:Addr->Prop)(h:Ib i Q R):wSs (cG [wU]) G AI (bN m Q R) (ao 4 i):=by
 obtain⟨a,b,s,g,n,rfl,⟨r,p,l,j,c⟩,k,q⟩:=h;show wSs _ _ AI _ [some (wq a),some (wq b),none,none];unfold AI
 conv=>arg 5;arg 2;arg 1;unfold wq
 fin2;refine⟨rfl,?_⟩;fin2;by_cases hz:b.num=0
 .rw[Bi (FV hz)];exact k (XO.mp hz)
 have q:=q λz=>hz (by rw[z];rfl);rw[BM (by rw[Kj];exact hz)];have o:TU g g b⁻¹:=Pj (n:=g) p hz;have d:∀t u:Int,b⁻¹.num=t->(b⁻¹.den:Int)=u->cG [wU] 0 [wq a,.tup [.int t,.int u]] Q R:=λt u f e=>by refine⟨a,b⁻¹,s,g,n,g,?_,⟨r,o,l,by lia,c,j⟩,q⟩;rw[<-f,<-e];rfl
 by_cases c:b.num<0
 .rw[Bi (FV c)];obtain⟨f,e⟩:=inv_neg b c;exact⟨aj (by simp),d _ _ f e⟩
 .rw[BM (by rw[Kj];exact c)];obtain⟨f,e⟩:=inv_pos b (by lia);exact⟨aj (by simp),d _ _ f e⟩
abbrev XT:List Str:=["ahead","last","factor_ahead","factor_last","lead","height","sign","scale","known"]
abbrev pK:Md:=.o XT [.s,.s,.s,.s,.s,.s,.s,.s,.s]
noncomputable def tM(C:Addr)(A B d c:List Int)(a h sg sc b:Int):W:=.obj C XT [wI A,wI B,wI d,wI c,.int a,.int h,.int sg,.int sc,.int b]
theorem Ic{y:Int}{n:Nat}(h:y.natAbs<2^n)(a:n<=100000000):y.natAbs.log2<1000000000:=by
 rcases i3 y.natAbs with e|e
 .rw[e];decide
 .have:=(XC (Uh e)).mpr h;exact FS this (Bz a (by decide))
structure abP(A B fA fB:List Int)(ld h:Int)(N E:Nat):Prop where
 l2:2<=B.length
 XU:B.length<=A.length
 l15:A.length<=15
 lf:fA.length<=40
 Y3:fB.length<=40
 bA:∀x∈A,x.natAbs<2^N
 bB:∀x∈B,x.natAbs<2^N
 bfA:∀x∈fA,x.natAbs<2^N
 bfB:∀x∈fB,x.natAbs<2^N
 bl:ld.natAbs<2^N
 bh:h.natAbs<2^N
 hN:N<=5000
 hE:E<=12000
 k0:ld*h^(A.length -B.length)≠0
 kE:(ld*h^(A.length -B.length)).natAbs<=2^E
 h0:0<A.length -B.length->h^(A.length -B.length -1)≠0/\(h^(A.length -B.length -1)).natAbs<=2^E
noncomputable def SG(A B a R:List Int)(c:Int):Prop:=c=B.getD (B.length -1) 0^(A.length -B.length+1)/\a.length=A.length -B.length+1/\(∀k,R.getD k 0=c*A.getD k 0 -cf a B a.length k)/\R.length<B.length/\(R=[]\/R.getD (R.length -1) 0≠0)
theorem yY{n m:Nat}(h:Nat.blt n m=true):n<m:=Nat.le_of_ble_eq_true h
theorem ZH{y:Int}{n:Nat}(h:y.natAbs<2^n)(e:Nat):(y^e).natAbs<2^(n*e+1):=by rw[Sub.jU];refine GE (Y1 (SC h) e) ?_;rw[<-ke];exact TB (by decide) (Pl _)
theorem SH{A B a R:List Int}{N M:Nat}(h:Sy A B N M a R)(b:B.length<=A.length):SG A B a R (B.getD (B.length -1) 0^(A.length+1 -B.length)):=by
 have e:A.length+1 -B.length=A.length -B.length+1:=by lia
 refine⟨by rw[e],by rw[h.WU,e],λk=>?_,h.WV,h.last⟩;rw[h.eq k,lV];show _=lD (λi=>a.getD i 0) (λi=>B.getD i 0) k+_ -lD (λi=>a.getD i 0) (λi=>B.getD i 0) k;lia
noncomputable def dP:List CS:=[.Ag [1,2,3] (.call 0 [(.own 0 [.fl 0 "ahead"]),(.own 0 [.fl 1 "last"])]),.iff (.cmp .Eq (.var 2) (.lst [])) [.B7 (.bl false)] [],.set 4 (.call 1 [(.call 2 [(.own 0 [.fl 2 "factor_ahead"]),(.var 3)]),(.call 3 [(.var 1),(.own 0 [.fl 3 "factor_last"])])]),.iff (.and [(.cmp .Eq (.bin .Mod (.blt .len [(.own 0 [.fl 0 "ahead"])]) (.int 2)) (.int 0)),(.cmp .Eq (.bin .Mod (.blt .len [(.own 0 [.fl 1 "last"])]) (.int 2)) (.int 0))]) [.DP 0 6 (.neg (.own 0 [.fl 6 "sign"]))] [],.set 5 (.bin .Sub (.blt .len [(.own 0 [.fl 0 "ahead"])]) (.blt .len [(.own 0 [.fl 1 "last"])])),.set 6 (.bin .Mult (.own 0 [.fl 4 "lead"]) (.call 4 [(.own 0 [.fl 5 "height"]),(.var 5)])),.DP 0 7 (.var 3),.DP 0 8 (.var 6),.DP 0 0 (.own 0 [.fl 1 "last"]),.DP 0 2 (.own 0 [.fl 3 "factor_last"]),.DP 0 1 (.comp [0] true 1 (.var 2) (.bl true) (.bin .FloorDiv (.var 0) (.var 7))),.DP 0 3 (.comp [0] true 1 (.var 4) (.bl true) (.bin .FloorDiv (.var 0) (.var 7))),.DP 0 4 (.ix (.own 0 [.fl 0 "ahead"]) (.neg (.int 1))),.DP 0 5 (.call 5 [(.own 0 [.fl 5 "height"]),(.own 0 [.fl 4 "lead"]),(.var 5)]),.B7 (.bl true)]
theorem bY{x n:Nat}(h:x<=2^n):x<2^(n+1):=GE h (TB (by decide) (Pl _))
def Ud(a:List Rat):Nat->Rat:=λi=>a.getD i 0
noncomputable def DvQ(b p2:Nat)(g a:List Rat):Prop:=∃(s:List Rat)(D:Int),(∀k,a.getD k 0=aF (Ud s) (Ud g) k)/\D≠0/\D.natAbs<2^b/\∀x∈s,Cd D p2 x
structure adG(p1 p2:Nat)(a b g u v:List Rat):Prop where
 ng:aA g
 nu:aA u
 nv:aA v
 bez:∀k,g.getD k 0=aF (Ud u) (Ud a) k+aF (Ud v) (Ud b) k
 da:DvQ p1 p2 g a
 db:DvQ p1 p2 g b
 ne:g≠[]
 one:g.getD (g.length -1) 0=1
theorem Mc{B:Int}(h:B≠0):(B:Rat)≠0:=λz=>h (by exact_mod_cast z)
def WY(x:Addr)(H H':Hp):Prop:=∀b o,b≠x->H b=some o->H' b=some o
noncomputable def Ie(C:Addr):Sp:=λg H Q _=>∃(x f:Addr)(e d c:V),g=[.ref x,e,d,c]/\H x=some (.ins C f [])/\∀(b:Addr)(a:Hp),WY x H a->H b=none->a b=some (.lst [])->a x=some (.ins C f (XT.zip [e,d,c,.ref b,.int 1,.int 1,.int 1,.int 1,.int 1]))->Q .bu a
noncomputable def wV(C:Addr):aZ:=λa Q _=>∃A B f:List Int,a=[wI A,wI B,wI f]/\Q (tM C A B f [] 1 1 1 1 1)
theorem mW{K:Frag}{A:Addr->Prop}{H:Hp}(i:Int):Rep K A H (.int i) (.int i):=by dsimp only[Rep]
theorem N7{K:Frag}{B:Addr->Prop}{H:Hp}:∀{n:Nat}{a:List W}{vs:List V},ai K B H a vs->a.length=n->fE K B H (A6 n .s) a vs []
 |0,[],vs,r,_=>by
  cases r;show fE K B H [] _ _ _;dsimp only[fE];exact⟨rfl,rfl,rfl⟩
 |n+1,w::a,vs,r,e=>by obtain⟨v,b,rfl,d,c⟩:=r.cons_inv;show fE K B H (.s::A6 n .s) _ _ _;dsimp only[fE];refine⟨w,a,v,b,[],[],rfl,rfl,rfl,?_,N7 c (by simpa using e)⟩;dsimp only[Fp];exact⟨rfl,d⟩
 |0,_::_,_,_,e=>by cases e
 |n+1,[],_,_,e=>by cases e
theorem AJ{P:Program}{w:World}{K:Frag}{mg:Str->Option Value}{base:Heap}{k:Nat}{C f:Addr}{G:FuncData}{ps:List Str}(X:Ae K C XT)(M:Mk K C f)(b:Binds K G ps [])(F:bK P w K mg base (ji P w) k f G ps (Ie C)):
 cU P w K mg base (k+1) (.ref C) 3 (oV K 3 pK (wV C)):=by
 refine .mk M b F λvs H Q E hz x m q s O=>?_;obtain⟨A,ws,P,R,l,r,d,⟨a,b',f',e,Y⟩,c,er⟩:=hz;subst e;obtain⟨B,_,rfl,N,r⟩:=r.cons_inv;obtain⟨y,_,rfl,L,r⟩:=r.cons_inv;obtain⟨v,_,rfl,J,r⟩:=r.cons_inv;cases r;refine⟨x,m,B,y,v,rfl,au,λg I T h e4 ex=>⟨rfl,?_⟩⟩;have i:g≠x:=λe=>by rw[e,au]at h;cases h
 have t:g≠m:=λe=>by rw[e,ak O,au]at h;cases h
 have Z:H g=none:=by rw[ak i,ak t]at h;exact h
 have sm:aq H I:=λb o j=>by
  have D:b≠x:=λe=>by rw[e,q]at j;cases j
  have S:b≠m:=λe=>by rw[e,s]at j;cases j
  exact T b o D (by rw[ak D,ak S];exact j)
 have u:∀p o,H p=some o->(A p\/p∈[x])->A p:=λp o e z=>by
  rcases z with z|z
  .exact z
  .rw[Do.mp z,q]at e;cases e
 refine c _ (.ref x) I Y sm ⟨[x],by simp,λp U=>by rw[Do.mp U];exact q,?_⟩;unfold tM;dsimp only[Fp];refine⟨C,m,_,x,[B,y,v,.ref g,.int 1,.int 1,.int 1,.int 1,.int 1],[],rfl,rfl,rfl,ex,rfl,X,?_⟩;refine N7 (n:=9) ?_ rfl;refine .cons (Rep.mv sm u _ N) (.cons (Rep.mv sm u _ L) (.cons (Rep.mv sm u _ J) (.cons ?_ (.cons (mW 1) (.cons (mW 1) (.cons (mW 1) (.cons (mW 1) (.cons (mW 1) .nil))))))));show Rep _ _ _ (.lst []) _;dsimp only[Rep];refine⟨g,[],rfl,λz=>?_,.inl e4,.nil⟩;rcases z with z|z
 .obtain⟨o,e⟩:=d g z;rw[Z]at e;cases e
 .exact i (Do.mp z)
theorem Me(ns:List Int)(a b:Option Int):∃c:List Int,nZ (ns.map W.int) a b=c.map W.int:=by unfold nZ;exact⟨_,by rw[<-List.map_drop,<-e6]⟩
def i7:aZ:=λa Q _=>∃r:Rat,a=[wq r]/\Q (.bl true)
end VL
namespace VL
open PySem PySem.Spec
open PyProof.Rows hiding St
open L2
noncomputable def XW(P:Program)(w:World)(K:Frag)(mg:Str->Option Value)(base:Heap)(k:Nat):List Str->List Md->List aZ->Prop
 |x::fn,m::md,S::Ss=>(∃c n b,mg x=some c/\cU P w K mg base b c n (oV K n m S)/\b<=k/\∀a P R,S a P R->a.length=n)/\XW P w K mg base k fn md Ss
 |[],_,_=>True
 |_,_,_=>False
noncomputable def ZI(mg:Str->Option Value):List Str->Prop
 |[]=>True
 |x::zn=>mg x=none/\ZI mg zn
theorem Ig{mg:Str->Option Value}:∀{zn:List Str},ZI mg zn->∀x∈zn,mg x=none
 |y::zn,h,x,a=>by
  rcases Fh.mp a with e|a
  .rw[e];exact h.1
  .exact Ig h.2 x a
theorem AK{P:Program}{w:World}{K:Frag}{mg:Str->Option Value}{base:Heap}{k:Nat}:∀{fn:List Str}{md:List Md}{Ss:List aZ},XW P w K mg base k fn md Ss->∀(j:Nat)(x:Str),fn[j]?=some x->∃c n b,mg x=some c/\cU P w K mg base b c n (oV K n (fF md j) (cG Ss j))/\b<=k/\∀a P R,cG Ss j a P R->a.length=n
 |y::fn,m::md,S::Ss,h,0,x,e=>by
  cases e;exact h.1
 |y::fn,m::md,S::Ss,h,j+1,x,e=>AK (fn:=fn) h.2 j x e
 |[],_,_,_,j,x,e=>by cases e
 |_::_,[],_,h,_,_,_=>h.elim
 |_::_,_::_,[],h,_,_,_=>h.elim
theorem tab_of{P:Program}{w:World}{K:Frag}{mg:Str->Option Value}{base:Heap}{k:Nat}{fn zn:List Str}{md:List Md}{Ss:List aZ}(h:XW P w K mg base k fn md Ss)(z:ZI mg zn):Tab P w K mg base fn [] zn md [] (cG Ss) (nF []) k:=
 ⟨λj x e _=>AK h j x e,λ_ _ _ _ h=>(by cases h),λ_ _ e=>(by simp at e),Ig z,AB K,λ_ _ _ e=>(by simp at e)⟩
end VL
namespace VL
open PySem PySem.Spec
open PyProof.Rows hiding St
open L2 Num
theorem WZ{c:Nat->aZ}{G:Nat->W}{D:Dn}{ε:Ev}{i:Nat}{e:CE}{b:List CS}{l:List W}(d:∀Q:W->Prop,Q (.lst l)->wE c G (λ_=>False) e ε Q)(h:mE (λw f a=>wSs c G b f (a.set i (some w))) D l ε):wS c G (.fr [i] true e b) D ε:=d _ h
noncomputable def SI:aZ:=λa Q _=>∃(t b:Int)(n:Nat),a=[.int t,.int b]/\n<=999999999/\b≠0/\b.natAbs<2^n/\Q (wq (C0 t b))
theorem W0{G:Nat->W}{m:Md}(i:List W)(Q:W->Prop)(R:Addr->Prop)(h:SI i Q R):wSs (cG [CF]) G rX (bN m Q R) (ao 3 i):=by
 obtain⟨t,b,n,rfl,j,p,f,c⟩:=h;show wSs _ _ rX _ [some (.int t),some (.int b),none];unfold rX;fin2;refine⟨t,b,rfl,?_⟩;obtain⟨a,l,k⟩:=FJ t b p;have o:((A2 t b:Nat):Int).natAbs<2^n:=by have:((A2 t b:Nat):Int)<=b.natAbs:=fe (by clear k l a f;lia) (by rw[eB];exact RF ..);omega
 unfold wq at c;generalize((A2 t b:Nat):Int)=g at*;rw[l,k]at c;by_cases e:b<0
 .rw[Bi e]at a c;rw[Bi (FV e)];fin2;rw[eu];have d:=AF (y:= -g) (by omega) j;exact⟨⟨a,d⟩,⟨a,d⟩,aj (by simp),c⟩
 .rw[BM e]at a c;rw[BM (by rw[Kj];exact e)];have d:=AF (y:=g) o j;exact⟨⟨a,d⟩,⟨a,d⟩,aj (by simp),c⟩
def Wl(a b:Int):Prop:=(a=0/\0<=b)\/(a=1/\0<=b/\b<1000000000)
def wW(a b:Int):W:=.lst [.int a,.int b]
noncomputable def AL:List CS:=[.set 2 (.int 0),.fr [3] true (.sl (.var 0) (.var 1) (.bin .Add (.var 1) (.int 1))) [.set 2 (.var 3)],.iff (.or [(.cmp .Lt (.var 2) (.int 0)),(.cmp .GtE (.var 2) (.bin .Pow (.int 10) (.int 18)))]) [.ret (.lst [(.int 0),(.blt .abs [(.var 2)])])] [],.ret (.lst [(.int 1),(.bin .Add (.bin .Mod (.bin .Add (.bin .Mod (.var 2) (.int 998244341)) (.bin .Mult (.int 7919) (.var 1))) (.int 998244353)) (.int 3))])]
noncomputable def CK:aZ:=λc Q _=>∃(d:List Int)(k:Nat),c=[.gB d,.int k]/\k<=100/\∀a b,Wl a b->Q (wW a b)
theorem SJ{l:Nat->aZ}{G:Nat->W}{m:Md}(p:List W)(Q:W->Prop)(R:Addr->Prop)(h:CK p Q R):wSs l G AL (bN m Q R) (ao 4 p):=by
 obtain⟨b,k,rfl,u,d⟩:=h;show wSs _ _ AL _ [some (.gB b),some (.int k),none,none];unfold AL;refine aI (λa=>a=[some (.gB b),some (.int k),some (.int 0),none]) (λN g=>?_) ?_
 .fin2;exact g _ rfl
 rintro _ rfl;refine aI (λa=>∃(c:Int)(o:Option W),a=[some (.gB b),some (.int k),some (.int c),o]) (λN g=>?_) ?_
 .fin2;obtain⟨t,e⟩:=Me b (some (k:Int)) (some ((k:Int)+1));rw[e];refine bG (λi r=>∃(c:Int)(o:Option W),r=[some (.gB b),some (.int k),some (.int c),o]) ⟨0,none,rfl⟩ ?_ ?_
  .rintro i w _ v q ⟨c,o,rfl⟩ s;rw[Da]at q;obtain⟨z,_,rfl⟩:=OF.mp q;fin2;exact s _ ⟨z,_,rfl⟩
  .rintro _ ⟨c,o,rfl⟩;exact g _ ⟨c,o,rfl⟩
 rintro _ ⟨c,o,rfl⟩;have j:wS l G (.ret (.lst [(.int 1),(.bin .Add (.bin .Mod (.bin .Add (.bin .Mod (.var 2) (.int 998244341)) (.bin .Mult (.int 7919) (.var 1))) (.int 998244353)) (.int 3))])) (bN m Q R) [some (.gB b),some (.int k),some (.int c),o]:=by fin2;have f:=fm (x:=c.fmod 998244341+7919*(k:Int)) (n:=998244353) (by decide);refine⟨by decide,aH (n:=13) (m:=7) (by decide) (by lia) (by decide),by decide,aj (by simp),d _ _ (.inr ⟨rfl,by lia,by lia⟩)⟩
 fin2;by_cases h:c<0
 .rw[Bi (FV h)];exact⟨aj (by simp),d _ _ (.inl ⟨rfl,by split<;>lia⟩)⟩
 .rw[BM (by rw[Kj];exact h)];refine⟨iF (by decide) (by decide) (by decide),?_⟩;split
  .exact⟨aj (by simp),d _ _ (.inl ⟨rfl,by first|lia|(split<;>lia)⟩)⟩
  .exact j
noncomputable def r9:List CS:=[.iff (.cmp .Eq (.ix (.var 0) (.int 0)) (.int 0)) [.set 2 (.bin .Mod (.ix (.var 0) (.int 1)) (.var 1)),.put 0 (.int 1) (.bin .FloorDiv (.ix (.var 0) (.int 1)) (.var 1)),.B7 (.var 2)] [],.fr [3] true (.ny [(.int 2)]) [.Ag [4,5] (.blt .T3 [(.ix (.var 0) (.int 1)),(.int 4099)]),.put 0 (.int 1) (.bin .Mod (.bin .Add (.bin .Add (.bin .Mult (.var 5) (.int 240007)) (.bin .Mult (.var 4) (.int 89))) (.int 1201)) (.int 998244353))],.B7 (.bin .Mod (.bin .FloorDiv (.ix (.var 0) (.int 1)) (.int 5)) (.var 1))]
noncomputable def u7:aZ:=λe Q _=>∃(a b n:Int),e=[wW a b,.int n]/\Wl a b/\0<n/\n<2^30/\∀x d c,0<=x->x<n->Wl d c->Q (.tup [.int x,wW d c])
theorem ZJ{x y:W}:nB [x,y] 0=some x:=rfl
theorem Mf{x y:W}:nB [x,y] 1=some y:=rfl
theorem Mg{b n:Int}(h:0<=b)(a:0<n):0<=b.fdiv n:=by rw[Kb _ (by lia)];exact Xo h (by lia)
theorem SK{t:Nat->aZ}{G:Nat->W}{m:Md}(p:List W)(Q:W->Prop)(R:Addr->Prop)(h:u7 p Q R):wSs t G r9 (bN (.io m) Q R) (ao 6 p):=by
 obtain⟨a,b,n,rfl,q,o,y,k⟩:=h;show wSs _ _ r9 _ [some (wW a b),some (.int n),none,none,none,none];unfold r9;have u:n.natAbs.log2<1000000000:=gE (n:=31) (by lia) (by decide);refine aI (λd=>(a=1/\0<=b/\b<1000000000)/\d=[some (wW a b),some (.int n),none,none,none,none]) (λN l=>?_) ?_
 .unfold wW at l k⊢;fin2;refine⟨_,ZJ,?_⟩;fin2;rcases q with⟨rfl,c⟩|⟨rfl,c,j⟩
  .rw[Bi (FV rfl)];have f:=fm (x:=b) (n:=n) o;refine⟨_,Mf,by lia,?_⟩;refine⟨_,Mf,⟨by lia,u⟩,1,rfl,?_⟩;exact k _ _ _ f.1 f.2 (.inl ⟨rfl,Mg c o⟩)
  .rw[BM (by decide)];exact l _ ⟨⟨rfl,c,j⟩,rfl⟩
 rintro _ ⟨⟨rfl,c,j⟩,rfl⟩;refine aI (λd=>∃(b:Int)(o3 g e:Option W),(0<=b/\b<1000000000)/\d=[some (wW 1 b),some (.int n),none,o3,g,e]) (λN l=>?_) ?_
 .fin2;refine⟨by decide,by decide,?_⟩;refine bG (λi s=>∃(b:Int)(o3 g e:Option W),(0<=b/\b<1000000000)/\s=[some (wW 1 b),some (.int n),none,o3,g,e]) ⟨b,none,none,none,⟨c,j⟩,rfl⟩ ?_ ?_
  .rintro i w _ D q ⟨b,o3,g,e,⟨c,j⟩,rfl⟩ r;unfold wW at r⊢;fin2;refine⟨_,Mf,?_⟩;rw[WJ];refine⟨⟨by decide,by decide⟩,rfl,?_⟩;fin2;have A:=XZ b (show(4099:Int)≠0 by decide);have z:=uj b (show(0:Int)<4099 by decide);have C:0<=b/4099:=Xo c (by decide);have B:b/4099<=b:=by lia
   have f:=fm (x:=b%4099*240007+b/4099*89+1201) (n:=998244353) (by decide);refine⟨aH (n:=31) (m:=31) (by lia) (by decide) (by decide),aH (n:=31) (m:=31) (by lia) (by decide) (by decide),by decide,1,rfl,r _ ⟨_,_,_,_,⟨f.1,by lia⟩,rfl⟩⟩
  .rintro _ ⟨b,o3,g,e,v,rfl⟩;exact l _ ⟨b,o3,g,e,v,rfl⟩
 rintro _ ⟨b,o3,g,e,⟨c,j⟩,rfl⟩;unfold wW at k⊢;fin2;have f:=fm (x:=b.fdiv 5) (n:=n) o;refine⟨_,Mf,⟨by decide,gE (n:=3) (by decide) (by decide)⟩,by lia,?_⟩;exact k _ _ _ f.1 f.2 (.inr ⟨rfl,c,j⟩)
def bt(X:Nat):Nat->Nat
 |0=>X
 |s+1=>2*bt X s+2*X+2
end VL
namespace Num
open Sub VL
end Num
namespace VL
open PySem PySem.Spec
open PyProof.Rows hiding St
open L2 Num
theorem Ih{α:Type}(f:α->W)(d:α)(l:List α):gv (l.map f)=(Bn l.length).map λi:Nat=>W.tup [.int i,f (l.getD i d)]:=by
 unfold gv;refine lj λi=>?_;rw[ZP,Da,Da,Ap];by_cases h:i<l.length
 .have e:l.getD i d=l[i]:=by rw[AC,B1 h];rfl
  rw[cw h,B1 h];show some (W.tup [W.int i,f l[i]])=some (W.tup [W.int i,f (l.getD i d)]);rw[e]
 .rw[FC (show(Bn l.length).length<=i by simpa using h)];rfl
theorem W2(l:List W):nZ l (some 1) none=l.drop 1:=by
 unfold nZ;rw[HT.xP,show(1:Int)=((1:Nat):Int)from rfl,HT.Bq];cases l with
 |nil=>rfl
 |cons x l=>rw[show min 1 (x::l).length=1 by simp];exact xc (by simp)
theorem AM(n:Nat)(g:Nat->W):((Bn n).map g).drop 1=(Bn (n -1)).map λi=>g (i+1):=by
 cases n with
 |zero=>rfl
 |succ n=>rw[ZD];simp
noncomputable def gI:List CS:=[.ret (.sl (.comp [0,1] false 2 (.uK (.var 0)) (.bl true) (.bin .Mult (.var 0) (.var 1))) (.int 1) .bu)]
noncomputable def fK:aZ:=λb Q _=>∃(a:List Int)(n:Nat),b=[wI a]/\a.length<=100/\(∀x∈a,x.natAbs<2^n)/\n<=100000000/\Q (wI (bI a))
theorem tN{e:Nat->aZ}{G:Nat->W}{m:Md}(c:List W)(Q:W->Prop)(R:Addr->Prop)(h:fK c Q R):wSs e G gI (bN m Q R) (ao 1 c):=by
 obtain⟨a,n,rfl,l,f,k,b⟩:=h;show wSs _ _ gI _ [some (wI a)];unfold gI wI;fin2;rw[Ih W.int 0 a];refine cF (h:=λi:Nat=>W.tup [.int i,W.int (a.getD i 0)]) (g:=λi:Nat=>W.int ((i:Int)*a.getD i 0)) _ [] _ (λi d K j=>?_) (aj (by simp;lia)) ?_
 .have d:=du.mp d;fin2;exact⟨rfl,aH (n:=7) (m:=n) (by lia) (iZ f i) (by lia),j⟩
 .rw[EY,W2,AM];unfold wI bI at b;rw[SL]at b;exact b
theorem W3{d:Nat->aZ}{G:Nat->W}{c:CE}{b:List CS}{D:Dn}{ε:Ev}(J:Nat->Ev->Prop)(e:Nat)(i:J e ε)(h:∀m ε,J m ε->wP d G (λ_=>False) c ε λx g=>truth x λk=>if k=true then∃N:Ev->Prop,(∀a,N a->∃f,f<m/\J f a)/\wSs d G b {nx:=N,rt:=D.rt,bk:=D.nx,ct:=N,ex:=λ_=>False} g else D.nx g):wS d G (.T5 c b) D ε:=⟨J,⟨e,i⟩,h⟩
structure Ii(A B:List Int)(ld h:Int)(N E:Nat):Prop where
 l2:2<=B.length
 XU:B.length<=A.length
 Ue:A.length<=30
 bA:∀x∈A,x.natAbs<2^N
 bB:∀x∈B,x.natAbs<2^N
 bl:ld.natAbs<2^N
 bh:h.natAbs<2^N
 hN:(A.length+1)*(N+1)<=85000000
 uW:N<=10000000
 hE:E<=90000000
 k0:ld*h^(A.length -B.length)≠0
 kE:(ld*h^(A.length -B.length)).natAbs<=2^E
 h0:0<A.length -B.length->h^(A.length -B.length -1)≠0/\(h^(A.length -B.length -1)).natAbs<=2^E
noncomputable def mX(C:Addr):aZ:=λe Q _=>∃(A B:List Int)(a h sg sc d:Int)(N E:Nat),e=[tM C A B [] [] a h sg sc d]/\Ii A B a h N E/\
 (∀(b:List Int)(c:Int),SG A B b [] c->Q (.tup [.bl false,tM C A B [] [] a h sg sc d]))/\
 (∀(b R:List Int)(c f:Int),R≠[]->SG A B b R c->Q (.tup [.bl true,tM C B (R.map λy=>y.fdiv (a*h^(A.length -B.length))) [] [] (B.getD (B.length -1) 0) (Sub.hnext h (B.getD (B.length -1) 0) (A.length -B.length)) f c (a*h^(A.length -B.length))]))
theorem Ij{G:Nat->W}{m:Md}{C:Addr}(w:List W)(Q:W->Prop)(R:Addr->Prop)(h:mX C w Q R):wSs (cG [gg,iV,iT,iW,qf,iY]) G dP (bN m Q R) (ao 7 w):=by
 obtain⟨A,B,f,h,sg,sc,l,N,E,rfl,⟨l2,XU,Ue,bA,U,bl,t,q,Y,hE,J,kE,O⟩,D,x⟩:=h;show wSs _ _ dP _ [some (tM C A B [] [] f h sg sc l),none,none,none,none,none,none];have lB:=iZ U (B.length -1);have s:=CH (ns:=B) (by lia);unfold dP;have I:(A.length+1 -B.length)*(N+1)<=85000000:=Bz (Os _ (xI _ _)) q;have p:N*(A.length+1 -B.length)<=85000000:=by rw[Ta];exact Bz (Ee _ (vk N)) I
 refine aI (λa=>∃d e,Sy A B N N d e/\a=[some (tM C A B [] [] f h sg sc l),some (wI d),some (wI e),some (.int (B.getD (B.length -1) 0^(A.length+1 -B.length))),none,none,none]) (λv b=>?_) ?_
 .unfold tM at b⊢;fin2;exact⟨A,B,N,N,rfl,⟨by lia,by lia,by lia,bA,U,A.length+1,Pl _,Bz (u3 Y q) (by decide)⟩,λd R dv=>⟨rfl,b _ ⟨d,R,dv,rfl⟩⟩⟩
 rintro _ ⟨d,e,dv,rfl⟩;have T:=SH dv XU;have lQ:=dv.WU;have lR:=dv.WV;generalize hc:B.getD (B.length -1) 0^(A.length+1 -B.length)=c at*;refine aI (λa=>e≠[]/\a=[some (tM C A B [] [] f h sg sc l),some (wI d),some (wI e),some (.int c),none,none,none]) (λv b=>?_) ?_
 .fin2;refine⟨aj (by simp),Sw (y:=[]) λk L=>?_⟩;fin2;by_cases i:e=[]
  .cases mT L i;fin2;subst i;exact D d c T
  .cases jF L i;fin2;exact b _ ⟨i,rfl⟩
 rintro _ ⟨i,rfl⟩;refine aI (λa=>a=[some (tM C A B [] [] f h sg sc l),some (wI d),some (wI e),some (.int c),some (wI []),none,none]) (λv b=>?_) ?_
 .unfold tM at b⊢;fin2;refine⟨[],c,rfl,by decide,by simp,?_⟩;refine⟨d,[],rfl,by lia,by decide,by simp,?_⟩;rw[Bi (.inr rfl)];refine⟨_,[],0,rfl,by simp,by decide,by decide,by simp,λF Z=>?_⟩;have lF:=yc Z;have:F=[]:=KE.mp (rg.mp lF);subst this;exact b _ rfl
 rintro _ rfl;refine aI (λa=>∃u,a=[some (tM C A B [] [] f h u sc l),some (wI d),some (wI e),some (.int c),some (wI []),none,none]) (λv b=>?_) ?_
 .have y:=b _ ⟨sg,rfl⟩;have z:=b _ ⟨-sg,rfl⟩;clear b;unfold tM wI at y z⊢;fin2;refine⟨by decide,?_⟩;by_cases S:((A.map W.int).length:Int).fmod 2=0
  .rw[Bi (FV S)];refine⟨by decide,?_⟩;by_cases P:((B.map W.int).length:Int).fmod 2=0
   .rw[Bi (FV P)];exact⟨by simp,z⟩
   .rw[BM (by rw[Kj];exact P)];exact y
  .rw[BM (by rw[Kj];exact S)];exact y
 rintro _ ⟨u,rfl⟩;have o:=x d e c u i T;have X:(f*h^(A.length -B.length)).natAbs.log2<1000000000:=Ic (n:=E+1) (GE kE (TB (by decide) (Pl _))) (by lia);have H:N*(A.length -B.length+1)<=85000000:=Bz (Ee _ (by lia)) p;have m4:N*(A.length -B.length)<=85000000:=Bz (Ee _ (by lia)) p;clear D x p I q;unfold tM wI at o⊢;fin2;rw[Ap,Ap,show(A.length:Int) -(B.length:Int)=((A.length -B.length:Nat):Int) by lia];generalize Ex:A.length -B.length=j at*;refine⟨h,j,N,rfl,t,Bz H (by decide),?_⟩;fin2;refine⟨aH bl (ZH t j) (by lia),yY rfl,yY rfl,yY rfl,yY rfl,?_⟩;refine cF (h:=W.int) (g:=λy=>.int (y.fdiv (f*h^j))) e [] _ (λy hy K r=>⟨⟨J,X⟩,r⟩) (aj (by simp;lia)) ⟨yY rfl,?_⟩;refine cF (h:=W.int) (g:=λy=>.int (y.fdiv (f*h^j))) [] [] _ (λy hy K r=>⟨⟨J,X⟩,r⟩) (aj (by simp)) ⟨yY rfl,_,s,yY rfl,?_⟩;refine⟨h,B.getD (B.length -1) 0,j,N,rfl,⟨t,lB,Bz H (by decide),λM=>⟨(O M).1,Ic (n:=E+1) (GE (O M).2 (TB (by decide) (Pl _))) (by lia)⟩⟩,yY rfl,?_⟩;rw[SL]at o;exact o
abbrev jh(ns:List Int)(w:Nat):Nat:=w*(ns.length -1+((bI ns).length -1)+1)
structure Ug(ns:List Int)(w E:Nat):Prop where
 X:Sub.FX ns (bI ns) [] [] w E
 hL:(ns.length+1)*(jh ns w+2)<=85000000
 XX:jh ns w+1<=10000000
 hE:w*E<=90000000
 Ue:ns.length<=30
 l2:2<=ns.length
 nz:ns.getD (ns.length -1) 0≠0
theorem SM{ns A B:List Int}{w E:Nat}{d h:Int}{α β:Rat}{a b:List Rat}(P:Ug ns w E)(S:Sm ns (bI ns) w E 26 A B d h α β a b)(e:2<=B.length):Ii A B d h (jh ns w+1) (w*E):=by have C:=S.C;have Ew:=C.Ew;have lp:=C.lp;have:=P.Ue;obtain⟨g,f,i⟩:=C.size P.X e;obtain⟨k,j,_,_⟩:=C.bd;exact⟨e,Ew,by lia,λx c=>bY (k x c),λx c=>bY (j x c),bY C.bl,bY (Bz C.bh (FM (by decide) (Ee _ (vi (xI _ _))))),Bz (Os _ (by lia)) P.hL,P.XX,P.hE,g,f,i⟩
theorem Ug.sm{ns:List Int}{w E:Nat}(P:Ug ns w E):Sm ns (bI ns) w E 26 ns (bI ns) 1 1 1 1 (qI ns) (aS (qI ns)):=by
 refine Sm.start P.X P.l2 P.nz (λk=>by rw[gu,eQ]) (cu ns) (λx a=>?_) (by decide);rw[IR,cu]at a;have e:cQ (qI ns) (ns.length -1)=x:=by show(qI ns).getD _ 0=x;rw[AC,a];rfl
 rw[gu]at e;rw[<-e];exact λz=>P.nz (Gc.mp z)
noncomputable def se:List CS:=[.par [1,2] [(.var 2),(.ite (.cmp .Eq (.cmp .Gt (.own 4 [.fl 8 "known"]) (.int 0)) (.cmp .Gt (.own 4 [.fl 7 "scale"]) (.int 0))) (.neg (.var 1)) (.var 1))],.app 3 (.call 3 [(.own 4 [.fl 1 "last"]),(.var 2)])]
noncomputable def ie:List CS:=[.Ag [1,2] (.tup [(.int 1),(.int 1)]),.set 3 (.lst [(.blt .list [(.var 0)]),(.call 0 [(.var 0)])]),.set 4 (.call 1 [(.ix (.var 3) (.int 0)),(.ix (.var 3) (.int 1)),(.lst [])]),.T5 (.and [(.cmp .Gt (.blt .len [(.own 4 [.fl 1 "last"])]) (.int 1)),(.Ey 4 0 2 [])]) se,.ret (.var 3)]
noncomputable def yZ(n m:Nat)(L:List (List Int)):Prop:=L.length<=40/\∀A∈L,A.length<=n/\∀x∈A,x.natAbs<=2^m
theorem yZ.app{n m:Nat}{L:List (List Int)}{A:List Int}(h:yZ n m L)(b:L.length<40)(d:A.length<=n)(c:∀x∈A,x.natAbs<=2^m):yZ n m (L++[A]):=
 ⟨by rw[GM];exact b,λB a=>(Ha.mp a).elim (h.2 B) λa=>by rw[Do.mp a];exact⟨d,c⟩⟩
noncomputable def mY:aZ:=λb Q _=>∃(a:List Int)(w E:Nat),b=[wI a]/\Ug a w E/\∀L l,nE (qI a) (aS (qI a)) l->Pz L (qI a::aS (qI a)::l)->yZ a.length (jh a w) L->((∃c,(aS (qI a)::l).getLast?=some [c])->Rs a)->Q (.lst (L.map wI))
theorem W5{a b:Bool}{Q:W->Prop}(h:Q (.bl (decide (a=b)))):fW .Eq (.bl a) (.bl b) Q:=h
theorem W6{a b:Bool}{Q:W->Prop}(h:Q (.bl (!decide (a=b)))):fW .NotEq (.bl a) (.bl b) Q:=h
theorem Jr.one{α:Rat}{a:Int}(h:Jr a α):a.natAbs=1:=by rcases h with⟨rfl,_⟩|⟨rfl,_⟩<;>rfl
theorem Ef{C:Addr}{m:Md}(ws:List W)(Q:W->Prop)(R:Addr->Prop)(h:mY ws Q R):wSs (cG [fK,wV C,mX C,iT]) (nF [.cls C]) ie (bN m Q R) (ao 5 ws):=by
 obtain⟨d,w,E,rfl,P,hq⟩:=h;show wSs _ _ ie _ [some (wI d),none,none,none,none];unfold ie;have l2:=P.l2;have Ue:=P.Ue;have XX:=P.XX;have t:=P.sm;have XY:=t.C.bd.1;have bsl:=t.C.bd.2.1;have lsl:=d7 d;refine aI (λg=>g=[some (wI d),some (.int 1),some (.int 1),none,none]) (λN i=>?_) ?_
 .fin2;exact⟨aj (by simp),rfl,i _ rfl⟩
 rintro _ rfl;refine aI (λg=>g=[some (wI d),some (.int 1),some (.int 1),some (.lst ([d,bI d].map wI)),none]) (λN i=>?_) ?_
 .have i:=i _ rfl;unfold wI at i⊢;fin2;refine⟨d,jh d w+1,rfl,by lia,λx J=>bY (XY x J),by lia,aj (by simp),i⟩
 rintro _ rfl;refine aI (λg=>g=[some (wI d),some (.int 1),some (.int 1),some (.lst ([d,bI d].map wI)),some (tM C d (bI d) [] [] 1 1 1 1 1)]) (λN i=>?_) ?_
 .fin2;refine⟨_,rfl,_,rfl,aj (by simp),d,bI d,[],rfl,i _ rfl⟩
 rintro _ rfl;refine aI (λg=>∃(L:List (List Int))(f:List (List Rat))(o1 o2 o4:Option W),(nE (qI d) (aS (qI d)) f/\Pz L (qI d::aS (qI d)::f)/\yZ d.length (jh d w) L/\((∃c,(aS (qI d)::f).getLast?=some [c])->Rs d))/\g=[some (wI d),o1,o2,some (.lst (L.map wI)),o4]) (λN i=>?_) ?_
 .refine W3 (λm ε=>∃(L:List (List Int))(f:List (List Rat))(A B:List Int)(H h sg sc kn F u:Int)(D M:Rat)(a b:List Rat),(Sm d (bI d) w E 26 A B H h D M a b/\Jr F D/\Jr u M/\Pz L (qI d::aS (qI d)::f)/\yZ d.length (jh d w) L/\L.length+B.length<=38/\(2<=A.length/\(aS (qI d)::f).getLast?=some b)/\∀l,nE a b l->nE (qI d) (aS (qI d)) (f++l))/\m=B.length/\ε=[some (wI d),some (.int F),some (.int u),some (.lst (L.map wI)),some (tM C A B [] [] H h sg sc kn)]) _ ⟨[d,bI d],[],d,bI d,1,1,1,1,1,1,1,1,1,qI d,aS (qI d),⟨t,.inl ⟨rfl,by decide⟩,.inl ⟨rfl,by decide⟩,⟨⟨1,by decide,t.la,t.ea⟩,⟨1,by decide,t.lb,t.eb⟩,trivial⟩,⟨by show 2<=40;decide,λA hA=>?_⟩,by show 2+_<=38;lia,⟨l2,rfl⟩,λl h=>h⟩,rfl,rfl⟩ ?_
  .rcases Fh.mp hA with rfl|hA
   .exact⟨D2 _,XY⟩
   .rw[Do.mp hA];exact⟨by lia,bsl⟩
  rintro m _ ⟨L,f,A,B,H,h,sg,sc,kn,F,u,D,M,a,b,⟨S,sa,sb,G,bd,lL,⟨lA2,eL⟩,q⟩,rfl,rfl⟩;have o:gU a b []->nE (qI d) (aS (qI d)) f:=λSN=>by have r:=q [] (.nil SN);rw[X9]at r;exact r
  unfold tM wI;fin2;rw[Ap];by_cases T:1<B.length;rotate_left
  .rw[BM (by rw[Kj];lia)];have lq:=S.C.lq;have l1:b.length=1:=by rw[S.lb];lia
   obtain⟨x,rfl⟩:=xf.mp l1;exact i _ ⟨L,f,_,_,_,⟨o (gU.one (S.zb x rfl)),G,bd,λ_=>S.rs (by lia) lA2⟩,rfl⟩
  rw[Bi (FV (by lia))];refine⟨rfl,A,B,H,h,sg,sc,kn,_,_,rfl,SM P S T,λQs j dv=>?_,λQs R j N8 hR dv=>?_⟩
  .obtain⟨U,TQ,Y,I,O⟩:=dv;have Z:j≠0:=by rw[U];exact Sub.c7 S.C.ch.DJ _
   refine⟨_,_,rfl,?_⟩;exact i _ ⟨L,f,_,_,_,⟨o (S.rem Z Y I O),G,bd,λ⟨c,e⟩=>by rw[eL]at e;cases e;have lb:1=B.length:=S.lb;lia⟩,rfl⟩
  .obtain⟨U,TQ,Y,I,O⟩:=dv;have Z:j≠0:=by rw[U];exact Sub.c7 S.C.ch.DJ _
   obtain⟨en,S'⟩:=S.next P.X T U TQ Y I O hR;have SN:=S.rem Z Y I O;have ZK:(R.map λy:Int=>D/j*(y:Rat))≠[]:=λz=>hR (ml.mp z);have k0:=(S.C.size P.X T).1;have K:=S'.C.bd.2.1;have F4:=S.C.F4;refine⟨_,_,rfl,?_⟩;rw[ve,Bi rfl];generalize hκ:H*h^(A.length -B.length)=v at*;have sn:=sa.next k0 Z;generalize hβ: -(D*C0 v j)=β' at*;generalize hBn:(R.map λy=>y.fdiv v)=k at*;generalize hr':je (R.map λy:Int=>D/j*(y:Rat))=r' at*;have lBn:k.length<B.length:=by rw[<-hBn,Ap];exact I
   generalize hτ:(if decide (v>0)=decide (j>0)then-F else F)=s at*;have eτ:=Jr.one sn;have bT:∀x∈k.map (s*·),x.natAbs<=2^jh d w:=λx J=>by obtain⟨y,hy,rfl⟩:=Hb.mp J;rw[FK,eτ,X1];exact K y hy
   refine⟨λg=>g=[some (.lst (d.map W.int)),some (.int u),some (.int s),some (.lst ((L++[k.map (s*·)]).map wI)),some (tM C B k [] [] (B.getD (B.length -1) 0) (Sub.hnext h (B.getD (B.length -1) 0) (A.length -B.length)) N8 j v)],?_,?_⟩
   .rintro _ rfl;refine⟨k.length,lBn,L++[k.map (s*·)],f++[r'],B,k,_,_,_,_,_,u,s,M,β',b,r',⟨S',sb,sn,?_,bd.app (by lia) (by rw[Ap];lia) bT,?_,?_,λl r=>?_⟩,rfl,rfl⟩
    .exact G.app (sn.row S'.lb S'.eb)
    .rw[GM];show L.length+1+_<=38;lia
    .exact⟨T,by rw[<-G2,rn]⟩
    .rw[Pm];rw[<-hr']at r⊢;exact q _ (.cons SN ZK r)
   .unfold se;refine aI (λg=>g=[some (.lst (d.map W.int)),some (.int u),some (.int s),some (.lst (L.map wI)),some (tM C B k [] [] (B.getD (B.length -1) 0) (Sub.hnext h (B.getD (B.length -1) 0) (A.length -B.length)) N8 j v)]) (λN1 p=>?_) ?_
    .have p:=p _ rfl;rw[<-hτ]at p;unfold tM wI at p⊢;fin2;refine W5 ?_;fin2;by_cases e:decide (v>0)=decide (j>0)
     .rw[Bi e]at p;rw[Bi (FV e)];exact⟨rfl,p⟩
     .rw[BM e]at p;rw[BM (by rw[Kj];exact e)];exact⟨rfl,p⟩
    rintro _ rfl;unfold tM wI;fin2;refine⟨k,s,rfl,by lia,λx J=>?_,?_⟩
    .exact aH (n:=1) (m:=jh d w+1) (by lia) (bY (K x J)) (by lia)
    .refine⟨wH (by rw[Ap];have:=bd.1;lia),?_⟩;rw[l4];rfl
 rintro _ ⟨L,f,o1,o2,o4,⟨r,G,bd,rz⟩,rfl⟩;fin2;exact hq L f r G bd rz
noncomputable def AO:List CS:=[.Ag [2,3] (.var 0),.Ag [4,5] (.var 1),.set 6 (.call 0 [(.var 3),(.var 5)]),.iff (.cmp .Eq (.var 6) (.int 1)) [.ret (.tup [(.bin .Add (.bin .Mult (.var 2) (.var 5)) (.bin .Mult (.var 4) (.var 3))),(.bin .Mult (.var 3) (.var 5))])] [],.set 3 (.bin .FloorDiv (.var 3) (.var 6)),.set 7 (.bin .Add (.bin .Mult (.var 2) (.bin .FloorDiv (.var 5) (.var 6))) (.bin .Mult (.var 4) (.var 3))),.set 8 (.call 0 [(.var 7),(.var 6)]),.ret (.tup [(.bin .FloorDiv (.var 7) (.var 8)),(.bin .Mult (.var 3) (.bin .FloorDiv (.var 5) (.var 8)))])]
noncomputable def Ik:aZ:=λc Q _=>∃(a b:Rat)(n m:Nat),c=[wq a,wq b]/\(Bd n a/\Bd m b/\n<=6000/\m<=6000)/\Q (wq (a+b))
theorem SQ{G:Nat->W}{md:Md}(o:List W)(Q:W->Prop)(R:Addr->Prop)(h:Ik o Q R):wSs (cG [Ec]) G AO (bN md Q R) (ao 9 o):=by
 obtain⟨a,b,n,m,rfl,⟨t,s,F,H⟩,q⟩:=h;show wSs _ _ AO _ [some (wq a),some (wq b),none,none,none,none,none,none,none];unfold AO;unfold wq at q⊢;have w:=t.1;have x:(a.den:Int).natAbs<2^n:=by rw[C2];exact t.2
 have v:=s.1;have j:(b.den:Int).natAbs<2^m:=by rw[C2];exact s.2
 fin2;refine⟨rfl,?_⟩;fin2;refine⟨rfl,?_⟩;fin2;refine⟨a.den,b.den,m,rfl,j,by lia,?_⟩;fin2;by_cases h:((A2 a.den b.den:Nat):Int)=1
 .rw[Bi (FV h)];obtain⟨e,d⟩:=J3 a b (by lia);fin2;refine⟨aH w j (by lia),aH v x (by lia),aH x j (by lia),aj (by simp),?_⟩;rw[e,d]at q;exact q
 .rw[BM (by rw[Kj];exact h)];obtain⟨_,_,rfl,rfl,p,C,B,E,D,k,e,d⟩:=J2 a b;have c:((A2 a.den b.den:Nat):Int).natAbs<2^m:=by have:((A2 a.den b.den:Nat):Int)<=b.den:=fe (dpos b) (RF ..);lia
  generalize((A2 a.den b.den:Nat):Int)=g at*;have r:∀i:Int,oO i g:=λi=>⟨by lia,gE c (by lia)⟩;have u:((a.den:Int)/g).natAbs<2^n:=by clear e d k;generalize(a.den:Int)/g=z at*;lia
  have l:((b.den:Int)/g).natAbs<2^m:=by clear e d k;generalize(b.den:Int)/g=z at*;lia
  fin2;simp only[Kb _ (W1 p)];refine⟨r _,r _,aH w l (by lia),aH v u (by lia),?_⟩;fin2;refine⟨_,g,m,rfl,c,by lia,?_⟩;have y:((A2 (a.num*((b.den:Int)/g)+b.num*((a.den:Int)/g)) g:Nat):Int)<=g:=fe p (RF ..);generalize((A2 (a.num*((b.den:Int)/g)+b.num*((a.den:Int)/g)) g:Nat):Int)=f at*;have cf:∀i:Int,oO i f:=λi=>⟨by lia,gE (n:=m) (by lia) (by lia)⟩;have A:((b.den:Int)/f).natAbs<2^m:=GE (Xt ..) j;fin2;simp only[Kb _ (W1 k)];refine⟨cf _,cf _,aH u A (by lia),aj (by simp),?_⟩;rw[e,d]at q;exact q
structure GIn(a:List Rat):Prop where
 l8:a.length<=8
 z:aA a
 cd:∃D:Int,0<D/\D.natAbs<2^101/\∀x∈a,Cd D 117 x
 bd:∀x∈a,Bd 200 x
theorem N9{x:Int}{n:Nat}(h:x.natAbs<2^n)(e:Nat):(x^e).natAbs<=2^(n*e):=by rw[Sub.jU,ke];exact Y1 (SC h) e
def wv(t p:Int):List Int->Int
 |[]=>0
 |c::l=>wv t p l*t+c*p^l.length
theorem Oa{t p:Int}{n m:Nat}(a:t.natAbs<2^m)(b:p.natAbs<2^m):∀{l:List Int},(∀x∈l,x.natAbs<2^n)->(wv t p l).natAbs<2^(n+l.length*(m+1)+1)
 |[],_=>SF (by decide)
 |c::l,h=>by
  have ih:=Oa a b (l:=l) λx d=>h x (DL _ d);have g:(wv t p l*t).natAbs<2^(n+l.length*(m+1)+1+m):=by rw[FK];exact lt_mul ih a
  have f:(c*p^l.length).natAbs<2^(n+l.length*(m+1)+1+m):=by
   rw[FK];have e:m*l.length<=l.length*(m+1):=by rw[Ta,xn];lia
   refine AH (n:=n+(m*l.length+1)) (lt_mul (h c Dx) (bY (N9 b l.length))) ?_;lia
  show(wv t p l*t+c*p^l.length).natAbs<_;rw[A3,show n+(l.length+1)*(m+1)+1=(n+l.length*(m+1)+1+m)+1 by rw[vw];lia,GS];lia
noncomputable def gJ:List CS:=[.set 3 (.int 0),.set 4 (.int 1),.fr [5] true (.rev (.var 0)) [.set 3 (.bin .Add (.bin .Mult (.var 3) (.var 1)) (.bin .Mult (.var 5) (.var 4))),.set 4 (.bin .Mult (.var 4) (.var 2))],.ret (.var 3)]
noncomputable def i8:aZ:=λb Q _=>∃(a:List Int)(t p:Int)(n m:Nat),b=[wI a,.int t,.int p]/\(a.length<=50/\(∀x∈a,x.natAbs<2^n)/\t.natAbs<2^m/\p.natAbs<2^m/\n<=60000000/\m<=3000)/\Q (.int (wv t p a))
theorem tO{u:Nat->aZ}{G:Nat->W}{md:Md}(f:List W)(Q:W->Prop)(R:Addr->Prop)(h:i8 f Q R):wSs u G gJ (bN md Q R) (ao 6 f):=by
 obtain⟨a,t,p,n,m,rfl,⟨v,o,bt,d,F,H⟩,q⟩:=h;show wSs _ _ gJ _ [some (wI a),some (.int t),some (.int p),none,none,none];unfold gJ wI;fin2;refine bG (λi s=>∃c,s=[some (.lst (a.map W.int)),some (.int t),some (.int p),some (.int (wv t p (a.drop (a.length -i)))),some (.int (p^i)),c]) ⟨none,?_⟩ ?_ ?_
 .rw[M1,pd,UV];rfl
 .rintro i w _ N A ⟨c,rfl⟩ C;obtain⟨B,e⟩:=Fn.mp A;rw[eM,Ap]at B;have k:a.length -1 -i<a.length:=by lia
  obtain⟨y,j,rfl⟩:∃y,y=a[a.length -1 -i]/\w=.int y:=by refine⟨_,rfl,?_⟩;rw[<-e,List.getElem_reverse,List.getElem_map];simp only[Ap]
  fin2;have r:=Oa (n:=n) bt d (l:=a.drop (a.length -i)) λx z=>o x (List.mem_of_mem_drop z);have g:(a.drop (a.length -i)).length=i:=by rw[Vh];lia
  rw[g]at r;have J:i*(m+1)<=50*3001:=Kx (by lia) (by lia);have I:m*i<=3000*50:=Kx (by lia) (by lia);have E:y.natAbs<2^n:=by rw[j];exact o _ (T2 k)
  have b:=bY (N9 d i);refine⟨aH r bt (by lia),aH E b (by lia),aH b d (by lia),C _ ⟨some (.int y),?_⟩⟩;have D:a.drop (a.length -(i+1))=y::a.drop (a.length -i):=by rw[show a.length -(i+1)=a.length -1 -i by lia,d4 k,show a.length -1 -i+1=a.length -i by lia,j]
  rw[D,Pt];show _=[some (W.lst (a.map W.int)),some (W.int t),some (W.int p),some (W.int (wv t p (a.drop (a.length -i))*t+y*p^(a.drop (a.length -i)).length)),some (W.int (p^i*p)),some (W.int y)];rw[g]
 .rintro _ ⟨c,rfl⟩;fin2;rw[eM,Ap,oT,Y0];exact q
theorem CL(x:Rat):x*((x.den:Int):Rat)=x.num:=by have:=jS (x:=x) (B:=x.den) (VO _);rw[ef (by have:=x.den_nz;lia),fI]at this;exact this.symm
noncomputable def sf:List CS:=[.set 5 (.call 0 [(.var 4),(.ix (.var 1) (.int 0)),(.ix (.var 1) (.int 1))]),.iff (.cmp .NotEq (.var 5) (.int 0)) [.iff (.and [(.cmp .NotEq (.var 3) (.int 0)),(.cmp .NotEq (.cmp .Gt (.var 5) (.int 0)) (.cmp .Gt (.var 3) (.int 0)))]) [.set 2 (.bin .Add (.var 2) (.int 1))] [],.set 3 (.var 5)] []]
noncomputable def oE:List CS:=[.set 2 (.int 0),.set 3 (.int 0),.fr [4] true (.var 0) sf,.ret (.var 2)]
structure Eg(L:List (List Int)):Prop where
 ex:∃n m,yZ n m L/\n<=30/\m<=10000000
def Bx(x:Rat):Prop:=∃m,m<=3000/\x.num.natAbs<2^m/\x.den<2^m
noncomputable def mZ:aZ:=λa Q _=>∃(L:List (List Int))(x:Rat),a=[.lst (L.map wI),wq x]/\(Eg L/\Bx x)/\Q (.int (jf 0 (L.map (wv x.num x.den)):Nat))
theorem Eh{G:Nat->W}{m:Md}(q:List W)(Q:W->Prop)(R:Addr->Prop)(h:mZ q Q R):wSs (cG [i8]) G oE (bN m Q R) (ao 6 q):=by
 obtain⟨L,x,rfl,⟨⟨n,k,⟨S,M⟩,U,X⟩,K⟩,F⟩:=h;show wSs _ _ oE _ [some (.lst (L.map wI)),some (wq x),none,none,none,none];unfold oE;fin2;generalize I:wv x.num x.den=f at*;refine bG (λi C=>∃(t b:Int)(j g:Option W),t+(jf b ((L.drop i).map f):Nat)=(jf 0 (L.map f):Nat)/\C=[some (.lst (L.map wI)),some (wq x),some (.int t),some (.int b),j,g]) ⟨0,0,none,none,by rw[Y0,oa],rfl⟩ ?_ ?_
 .rintro i w _ N r ⟨t,b,j,g,e,rfl⟩ c;rw[Da]at r;obtain⟨A,u,rfl⟩:=OF.mp r;obtain⟨H,P⟩:=Fn.mp u;obtain⟨T,O⟩:=M A (PQ u);have J:L.drop i=A::L.drop (i+1):=by rw[d4 H,P]
  rw[J,N0]at e;have e:t+((if f A=0 then jf b ((L.drop (i+1)).map f)else(if b≠0/\¬decide (f A>0)=decide (b>0)then 1 else 0)+jf (f A) ((L.drop (i+1)).map f):Nat):Int)=(jf 0 (L.map f):Nat):=e;unfold sf;refine aI (λd=>d=[some (.lst (L.map wI)),some (wq x),some (.int t),some (.int b),some (wI A),some (.int (f A))]) (λY B=>?_) ?_
  .unfold wq at B⊢;fin2;refine⟨_,rfl,_,rfl,?_⟩;obtain⟨D,l,p,o⟩:=K;refine⟨A,x.num,x.den,k+1,D,rfl,⟨by lia,λy E=>bY (O y E),p,by rw[C2];exact o,by lia,l⟩,?_⟩;rw[I];exact B _ rfl
  rintro _ rfl;generalize f A=v at*;fin2;by_cases z:v=0
  .rw[Bi z]at e;rw[z,BM (by decide)];exact c _ ⟨t,b,_,_,e,rfl⟩
  .rw[BM z]at e;rw[Bi (by simpa using z)];by_cases a:b=0
   .rw[BM λh=>h.1 a,i5]at e;rw[BM (by simpa using a)];fin2;exact c _ ⟨t,v,_,_,e,rfl⟩
   .rw[Bi (by simpa using a)];refine W6 ?_;fin2;by_cases s:decide (v>0)=decide (b>0)
    .rw[BM λh=>h.2 s,i5]at e;rw[BM (by simpa using s)];exact c _ ⟨t,v,_,_,e,rfl⟩
    .rw[Bi ⟨a,s⟩]at e;rw[Bi (by simpa using s)];exact c _ ⟨t+1,v,_,_,by rw[<-e];lia,rfl⟩
 .rintro _ ⟨t,b,j,g,e,rfl⟩;fin2;rw[Ap,pd]at e;have e:t+0=(jf 0 (L.map f):Nat):=e;rw[ky]at e;rw[e];exact F
noncomputable def oF:List CS:=[.ret (.bin .Sub (.call 0 [(.var 0),(.var 1)]) (.call 0 [(.var 0),(.var 2)]))]
noncomputable def sj:aZ:=λa Q _=>∃(L:List (List Int))(x y:Rat),a=[.lst (L.map wI),wq x,wq y]/\(Eg L/\Bx x/\Bx y)/\Q (.int ((jf 0 (L.map (wv x.num x.den)):Nat) -(jf 0 (L.map (wv y.num y.den)):Nat)))
theorem Ei{G:Nat->W}{m:Md}(a:List W)(Q:W->Prop)(R:Addr->Prop)(h:sj a Q R):wSs (cG [mZ]) G oF (bN m Q R) (ao 3 a):=by obtain⟨L,x,y,rfl,⟨b,d,e⟩,c⟩:=h;show wSs _ _ oF _ [some (.lst (L.map wI)),some (wq x),some (wq y)];unfold oF;fin2;exact⟨L,x,rfl,⟨b,d⟩,L,y,rfl,⟨b,e⟩,c⟩
noncomputable def SV(ns:List Int)(C:List (List Rat)):Prop:=∃Z:List Int,C.head?=some (qI Z)/\Rs Z/\(2<=Z.length/\Z.length<=ns.length)/\(ns.length<=9->∀b,(∀x∈ns,x.natAbs<=2^b)->∀z∈Z,z.natAbs<=2^(b+76))
theorem W7{Z:List Int}{b:Nat}(i:b<=101000)(a:2<=Z.length)(g:Z.length<=20)(d:Z.getD (Z.length -1) 0≠0)(h:∀x∈Z,x.natAbs<=2^b):Ug Z (b+10) 230:=by
 have f:=d7 Z;have c:jh Z (b+10)<=101010*38:=Kx (by lia) (by rw[f];lia);refine⟨Vv (m:=37) (M:=2^b) a (by lia) (by lia) h (h7) ?_ (by decide+kernel),?_,Bz (WG c) (by decide),Bz (Os _ (by lia:b+10<=101010)) (by decide),by lia,a,d⟩
 .have e:(2*Z.length -2)*(Z.length -1)<=38*19:=Kx (by lia) (by lia);rw[<-ik,On,Ta (2^b)];exact Os _ (Bz e (by decide))
 .exact Bz (Kx (by lia:Z.length+1<=21) (rh c 2)) (by decide)
structure Q43(ns:List Int):Prop where
 ex:∃w E,Ug ns w E/\ns.length<=21/\jh ns w+1<=4800
noncomputable def kX:List CS:=[.set 1 (.call 0 [(.var 0)]),.iff (.cmp .Eq (.blt .len [(.ix (.var 1) (.neg (.int 1)))]) (.int 1)) [.ret (.var 1)] [],.ret (.call 0 [(.call 1 [(.var 0),(.ix (.call 2 [(.ix (.var 1) (.neg (.int 1)))]) (.int 1))])])]
noncomputable def ig:aZ:=λb Q _=>∃a:List Int,b=[wI a]/\Q43 a/\∀L C,Cc (qI a) C->Pz L C->Eg L->SV a C->Q (.lst (L.map wI))
theorem AQ{G:Nat->W}{m:Md}(U:List W)(Q:W->Prop)(R:Addr->Prop)(h:ig U Q R):wSs (cG [mY,jL,iX]) G kX (bN m Q R) (ao 2 U):=by
 obtain⟨a,rfl,⟨w,E,P,Ob,hl⟩,hq⟩:=h;show wSs _ _ kX _ [some (wI a),none];unfold kX;have l2:=P.l2;refine aI (λe=>∃(L:List (List Int))(l:List (List Rat)),(nE (qI a) (aS (qI a)) l/\Pz L (qI a::aS (qI a)::l)/\yZ a.length (jh a w) L/\((∃c,(aS (qI a)::l).getLast?=some [c])->Rs a))/\e=[some (wI a),some (.lst (L.map wI))]) (λN J=>?_) ?_
 .fin2;exact⟨a,w,E,rfl,P,λL l n r bd v=>J _ ⟨L,l,⟨n,r,bd,v⟩,rfl⟩⟩
 rintro _ ⟨L,l,⟨n,r,bd,v⟩,rfl⟩;have q:Rp (qI a):=⟨ju P.nz,by rw[cu];exact l2⟩;obtain⟨g,s,S,X,_⟩:=n.last (fV q.z) q.jb;have XA:(qI a::aS (qI a)::l).getLast?=some g:=by rw[js];exact s
 obtain⟨A,eA,D⟩:=r.last XA;have mA:A∈L:=List.mem_of_getLast? eA;obtain⟨lA,bA⟩:=bd.2 A mA;have eW:(L.map wI).getLast?=some (wI A):=by rw[ij,eA];rfl
 have lg:g.length=A.length:=D.choose_spec.2.1;have F:=D.ne S X;have A0:0<A.length:=by rw[<-lg];exact He.mpr X
 refine aI (λe=>A.length≠1/\e=[some (wI a),some (.lst (L.map wI))]) (λN J=>?_) ?_
 .fin2;refine⟨_,j6 eW,?_⟩;have I:=J [some (wI a),some (.lst (L.map wI))];by_cases one:A.length=1
  .obtain⟨c,rfl⟩:=xf.mp (lg.trans one);have:=hq L _ (KH q n s (S c rfl)) r ⟨_,_,bd,by lia,by lia⟩ ⟨a,rfl,v ⟨c,s⟩,⟨l2,D2 _⟩,λ_ b o z hz=>Bz (o z hz) (FM (by decide) (XB _ _))⟩;unfold wI at this⊢;fin2;rw[Ap,Bi (FV (by lia))];exact this
  .have:=I ⟨one,rfl⟩;unfold wI at this⊢;fin2;rw[Ap,BM (by rw[Kj];lia)];exact this
 rintro _ ⟨one,rfl⟩;fin2;have mg:A.getD (A.length -1) 0∈A:=Sub.getD_mem' (by lia);refine⟨_,j6 eW,A,jh a w+1,rfl,⟨⟨_,mg,F⟩,by lia,by lia,λx d=>bY (bA x d)⟩,λc H f bc=>⟨_,rfl,?_⟩⟩;obtain⟨Z,⟨m0,Y⟩,⟨z0,O,t⟩,K,zz⟩:=PR l2 P.nz n s D f.pos f.dv f.all f.eq;have lm:H.length=A.length:=by rw[f.eq,Ap]
 have p:∀x∈H,x.natAbs<2^(jh a w+1):=λx d=>by rw[f.eq]at d;obtain⟨y,hy,rfl⟩:=Hb.mp d;refine GE (Xt y c) (bY (bA y hy))
 have XY:∀x∈a,x.natAbs<2^(jh a w+1):=λx d=>bY (P.sm.C.bd.1 x d);have bZ:=BW t O (by lia) m0 Y XY p Z.length;have W8:Z.length<=20:=by lia
 have Rz:Rp (qI Z)/\_:=K.len q;have T:2<=Z.length:=by rw[<-cu Z];exact Rz.1.l2
 obtain⟨b,o⟩:∃b,b=4800+20*4805:=⟨_,rfl⟩;have bz:∀x∈Z,x.natAbs<2^b:=λx d=>by obtain⟨i,hi,rfl⟩:=Sr d;have:=bZ i (sk _ _);rw[AC,B1 hi]at this;refine FS this (FM (by decide) ?_);rw[o];exact u3 (by lia) (Kx W8 (by lia))
 refine⟨a,H,Z,b,rfl,⟨m0,z0,by lia,O,λk=>?_,Y,by lia,λx d=>AH (p x d) (by lia),bz⟩,?_⟩
 .rw[t k,lV];rfl
 have P2:=W7 (by lia:b<=101000) T W8 zz λx d=>SC (bz x d);refine⟨Z,_,_,rfl,P2,λL2 l2 j B M u=>hq L2 _ ⟨qI Z,l2,rfl,K,j⟩ B ⟨_,_,M,by lia,Nat.le_of_succ_le P2.XX⟩ ⟨Z,rfl,u ?_,⟨T,by lia⟩,λh9 b o=>?_⟩⟩
 .obtain⟨c,_,hc⟩:=K.const q j;exact⟨c,hc⟩
 .exact PV t h9 (by lia) ⟨_,Sub.getD_mem' (by lia),P.nz⟩ o
structure Mh(ns:List Int)(b:Nat):Prop where
 l2:2<=ns.length
 Ob:ns.length<=21
 nz:ns.getD (ns.length -1) 0≠0
 bd:∀x∈ns,x.natAbs<=2^b
 hb:(b+10)*(2*ns.length -2)+1<=4800
theorem Il{ns:List Int}{b:Nat}(h:Mh ns b):Q43 ns:=by
 have l2:=h.l2;have Ob:=h.Ob;have c:=d7 ns;have a:jh ns (b+10)=(b+10)*(2*ns.length -2):=by unfold jh;rw[c];congr 1;lia
 have hb:=h.hb;have d:b+10<=4800:=by have:(b+10)*1<=(b+10)*(2*ns.length -2):=Ee _ (by lia);lia
 refine⟨b+10,230,⟨Vv (m:=39) (M:=2^b) l2 (by lia) (by lia) h.bd h7 ?_ (by decide+kernel),?_,by rw[a];lia,Bz (Os _ d) (by decide),by lia,l2,h.nz⟩,Ob,by rw[a];exact hb⟩
 .have e:(2*ns.length -2)*(ns.length -1)<=40*20:=Kx (by lia) (by lia);rw[<-ik,On,Ta (2^b)];exact Os _ (Bz e (by decide))
 .refine Bz (Kx (by lia:ns.length+1<=22) (show jh ns (b+10)+2<=4802 by rw[a];lia)) (by decide)
def gi(ns:List Int)(t d:Int):List Rat:=ns.map λx=>C0 (x*t) d
theorem Mi(ns:List Int)(t d:Int)(i:Nat):(gi ns t d).getD i 0=C0 (ns.getD i 0*t) d:=by
 unfold gi;rw[AC,AC,Da];cases ns[i]? with
 |none=>show(0:Rat)=C0 (0*t) d;rw[dt,Rat.zero_divInt]
 |some x=>rfl
theorem SW{ns c:List Int}{U V:Int}(l:U≠0)(t:V≠0)(h:∀i,c.getD i 0*U=ns.getD i 0*V)(one:∀d:Int,(∀x∈c,d∣x)->d∣1)(i:Nat):(c.getD i 0).natAbs<=(ns.getD i 0).natAbs:=by
 have q:0<A2 U V:=tj _ l;obtain⟨u,g⟩:=gN (a:=U) (b:=V);obtain⟨v,m⟩:=RF (a:=U) (b:=V);have j:A2 u v=1:=by have:=dV (A2 U V:Int) u v;rw[<-g,<-m,C2]at this;exact YP q (by rw[X8];exact this.symm)
 have e:∀i,c.getD i 0*u=ns.getD i 0*v:=λi=>by have s:c.getD i 0*U=c.getD i 0*((A2 U V:Int)*u):=Pi (c.getD i 0*·) g;have r:ns.getD i 0*V=ns.getD i 0*((A2 U V:Int)*v):=Pi (ns.getD i 0*·) m;refine QR (a:=(A2 U V:Int)) (by lia) ?_;rw[dB,<-s,h i,r,dB]
 have dv:v∣1:=one v λx o=>by obtain⟨k,p,rfl⟩:=Sr o;have f:=e k;rw[AC,B1 p]at f;have f:c[k]*u=ns.getD k 0*v:=f;have:v∣c[k]*u:=⟨ns.getD k 0,by rw[f,ar]⟩;have this:=d5.mpr this;rw[FK]at this;exact d5.mp (hO (by rw[Nat.coprime_iff_gcd_eq_one,Nat.gcd_comm];exact j) this)
 have n:v.natAbs=1:=Nat.dvd_one.mp (d5.mpr dv);have w:u≠0:=λz=>l (by rw[g,z,Q1]);have:=Pi M6 (e i);rw[FK,FK,n,X8]at this;rw[<-this];exact Wp _ (by lia)
theorem CM(t b:Int):∀l:List Int,wv t b l=Num.wv t b l
 |[]=>rfl
 |x::l=>by show wv t b l*t+x*b^l.length=Num.wv t b l*t+x*b^l.length;rw[CM t b l]
noncomputable def Cn(ns:List Int)(lo hi:Rat)(v:Int):Prop:=∃(c:Rat)(C:List (List Rat)),c≠0/\Cc (iO c (qI ns)) C/\v=(bV C lo:Nat) -(bV C hi:Nat)
theorem Im{ns:List Int}{b:Nat}{t d:Int}{Q:W->Prop}{R:Addr->Prop}(K:Mh ns b)(g:t≠0)(D:t.natAbs<=3)(T:0<d)(Z:d.natAbs<2^100)
 (h:∀(a:List Int)(κ:Rat)(U V:Int)(F E:W),κ≠0->Mh a b->a.length=ns.length->qI a=iO κ (qI ns)->U≠0->V≠0->(∀i,a.getD i 0*U=ns.getD i 0*V)->Q (.tup [wI a,F,E])):gf [dh (gi ns t d)] Q R:=by
 have J:(gi ns t d).length=ns.length:=Ap _;have l2:=K.l2;have Ob:=K.Ob;have hb:=K.hb;have P:b<=4800:=by have:(b+10)*1<=(b+10)*(2*ns.length -2):=Ee _ (by lia);lia
 have s:(d:Rat)≠0:=λz=>by have:=Gc.mp z;lia
 have q:∀x:Int,C0 (x*t) d*d=((x*t:Int):Rat):=λx=>by rw[lh];grind
 have X:∀x∈gi ns t d,Cd d (b+3) x:=λx p=>by
  obtain⟨y,N,rfl⟩:=Hb.mp p;refine⟨y*t,q y,?_⟩;rw[FK,On];have:=K.bd y N;have p0:0<2^b:=SF (by decide)
  calc y.natAbs*t.natAbs<=2^b*3:=Kx this D
   _<2^b*2^3:=by lia
 have n:∃x∈gi ns t d,x≠0:=by have I:ns.getD (ns.length -1) 0∈ns:=Sub.getD_mem' (by lia);refine⟨_,Hb.mpr ⟨_,I,rfl⟩,λz=>?_⟩;have:=q (ns.getD (ns.length -1) 0);rw[z,dC]at this;have:=Gc.mp this.symm;exact Hk K.nz g this
 refine⟨gi ns t d,d,b+3,100,rfl,⟨n,X,T,Z,by decide,by lia,by lia⟩,λa B c l _ _ _=>?_⟩;have B0:=l.bpos;have c0:=l.cpos;have H:(B:Rat)≠0:=λz=>by have:=Gc.mp z;lia
 have u:(c:Rat)≠0:=λz=>by have:=Gc.mp z;lia
 have G:(t:Rat)≠0:=λz=>g (Gc.mp z);have m:∀i,((a.getD i 0:Int):Rat)*c*d=((ns.getD i 0:Int):Rat)*t*B:=λi=>by have w:=l.at_ i;rw[Mi]at w;have v:=q (ns.getD i 0);rw[Fm]at v;rw[w,<-v];grind
 have f:∀i,a.getD i 0*(c*d)=ns.getD i 0*(t*B):=λi=>by have:=m i;rw[<-Fm,<-Fm,<-Fm,<-Fm]at this;have:=xk.mp this;rw[a9,a9]at this;exact this
 have o:a.length=ns.length:=l.len.trans J;have L:=SW (Hk (by lia:c≠0) (by lia:d≠0)) (Hk g (by lia:B≠0)) f l.one;have A:a.getD (a.length -1) 0≠0:=λz=>by have:=f (a.length -1);rw[z,dt,o]at this;exact Hk K.nz (Hk g (by lia:B≠0)) this.symm
 have Y:Mh a b:=⟨by lia,by lia,A,λx p=>by obtain⟨k,O,rfl⟩:=Sr p;have:=L k;rw[AC,B1 O]at this;exact Bz this (K.bd _ (Sub.getD_mem' (by lia))),by rw[o];exact hb⟩;have C:(t:Rat)*B*((c:Rat)*d)⁻¹≠0:=λz=>by
  have r:(c:Rat)*d≠0:=λz=>(L9.mp z).elim u s;have:=Nw _ r;rcases L9.mp z with z|z
  .exact(L9.mp z).elim G H
  .rw[z,dC]at this;exact absurd this (by decide+kernel)
 have S:qI a=iO ((t:Rat)*B*((c:Rat)*d)⁻¹) (qI ns):=qP (ju A) (gX C (ju K.nz)) λk=>by
  show cQ (qI a) k=cQ (iO _ (qI ns)) k;rw[eO,gu,gu];have r:(c:Rat)*d≠0:=λz=>(L9.mp z).elim u s;have M:=Nw _ r;have:=m k;generalize((a.getD k 0:Int):Rat)=x at*;generalize((ns.getD k 0:Int):Rat)=y at*;generalize((c:Rat)*d)⁻¹=j at*;have e:x=x*(j*(c*d)):=by rw[M,kb]
  rw[e,show x*(j*(c*d))=j*(x*c*d) by grind,this];grind
 exact h a _ _ _ _ _ C Y o S (Hk (by lia:c≠0) (by lia:d≠0)) (Hk g (by lia:B≠0)) f
noncomputable def wX:List CS:=[.iff (.cmp .Eq (.var 0) (.lst [])) [.KJ] [],.iff (.cmp .Eq (.blt .len [(.var 0)]) (.int 1)) [.ret (.int 0)] [],.ret (.call 0 [(.call 1 [(.ix (.call 2 [(.var 0)]) (.int 0))]),(.var 1),(.var 2)])]
noncomputable def wY:aZ:=λf Q _=>∃(a:List Int)(t d:Int)(c e:Rat),f=[dh (gi a t d),wq c,wq e]/\((a.length=1/\Q (.int 0))\/
 ((∃b,Mh a b)/\t≠0/\t.natAbs<=3/\0<d/\d.natAbs<2^100/\Bx c/\Bx e)/\∀v,Cn a c e v->Q (.int v))
theorem Mj{G:Nat->W}{m:Md}(l:List W)(Q:W->Prop)(R:Addr->Prop)(h:wY l Q R):wSs (cG [sj,ig,gf]) G wX (bN m Q R) (ao 3 l):=by
 obtain⟨e,t,d,a,c,rfl,h⟩:=h;show wSs _ _ wX _ [some (dh (gi e t d)),some (wq a),some (wq c)];unfold wX;have i:(gi e t d).length=e.length:=Ap _;have Y:1<=e.length:=by
  rcases h with h|⟨⟨⟨b,h⟩,_⟩,_⟩
  .lia
  .have:=h.l2;lia
 refine aI (λf=>f=[some (dh (gi e t d)),some (wq a),some (wq c)]) (λN g=>?_) ?_
 .fin2;refine⟨aj (by simp),AD (y:=[]) λk u=>?_⟩;cases jF u (λz=>by rw[z]at i;have i:0=e.length:=i;lia);fin2;exact g _ rfl
 rintro _ rfl;rcases h with⟨w,j⟩|⟨⟨⟨b,K⟩,q,p,B,M,E,F⟩,j⟩
 .unfold dh;fin2;rw[Ap,i,w,Bi (by decide)];exact j
 have l2:=K.l2;have Ob:=K.Ob;have hb:=K.hb;have v:b<=4800:=by have:(b+10)*1<=(b+10)*(2*e.length -2):=Ee _ (by lia);lia
 refine aI (λf=>f=[some (dh (gi e t d)),some (wq a),some (wq c)]) (λN g=>?_) ?_
 .have g:=g _ rfl;unfold dh at g⊢;fin2;rw[Ap,i,BM (by rw[Kj];lia)];exact g
 rintro _ rfl;fin2;refine Im K q p B M λs O U V X T I J Z A S P H=>⟨_,rfl,?_⟩;refine⟨s,rfl,Il J,λL C D n r _=>?_⟩;refine⟨L,a,c,rfl,⟨r,E,F⟩,?_⟩;refine j _ ⟨_,C,I,by rw[<-A];exact D,?_⟩;have o:∀x:Rat,x*((x.den:Int):Rat)=x.num:=CL;rw[show wv a.num a.den=Num.wv a.num a.den from funext (CM _ _),show wv c.num c.den=Num.wv c.num c.den from funext (CM _ _),vR (x:=a) (t:=a.num) (b:=a.den) (by have:=a.den_pos;lia) (o a) n,vR (x:=c) (t:=c.num) (b:=c.den) (by have:=c.den_pos;lia) (o c) n]
structure RB(ns:List Int)(X:Int):Prop where
 two:2<=X
 far:∀y∈ns,(y.natAbs:Int)+(ns.getD (ns.length -1) 0).natAbs<=(ns.getD (ns.length -1) 0).natAbs*X
 up:∀b:Nat,(∀y∈ns,y.natAbs<=2^b)->X<=2^b+2
noncomputable def i9:List CS:=[.ret (.bin .Add (.bin .FloorDiv (.blt .max2 [(.comp [0] true 1 (.var 0) (.bl true) (.blt .abs [(.var 0)]))]) (.blt .abs [(.ix (.var 0) (.neg (.int 1)))])) (.int 2))]
noncomputable def gw:aZ:=λc Q _=>∃(a:List Int)(b:Nat),c=[wI a]/\(0<a.length/\a.length<=100/\a.getD (a.length -1) 0≠0/\(∀y∈a,y.natAbs<=2^b)/\b<=5000)/\∀X,RB a X->Q (.int X)
theorem wZ{o:Nat->aZ}{G:Nat->W}{m:Md}(f:List W)(Q:W->Prop)(R:Addr->Prop)(h:gw f Q R):wSs o G i9 (bN m Q R) (ao 1 f):=by
 obtain⟨ns,b,rfl,⟨e,F,D,j,i⟩,s⟩:=h;show wSs _ _ i9 _ [some (wI ns)];unfold i9 wI;have ab:∀y:Int,(if y<0 then-y else y)=(y.natAbs:Int):=λy=>by split<;>lia
 fin2;refine cF (h:=W.int) (g:=λy=>.int (if y<0 then-y else y)) ns [] _ (λy c K v=>v) (aj (by simp;lia)) ?_;have A:=CH (ns:=ns) e;have q:ns.getD (ns.length -1) 0∈ns:=Sub.getD_mem' (by lia);generalize u:ns.getD (ns.length -1) 0=l at*;have B:=j l q;refine⟨ns.map λy=>(y.natAbs:Int),by rw[EY,SL];exact cq λy _=>by rw[ab];rfl,λz=>by rw[ml]at z;rw[z]at e;exact absurd e (by decide),λm t C=>⟨_,A,?_⟩⟩;obtain⟨a,k,rfl⟩:=Hb.mp t;have p:∀y∈ns,y.natAbs<=a.natAbs:=λy c=>by have:=C _ (Hb.mpr ⟨y,c,rfl⟩);lia
 have E:=j a k;fin2;rw[ab];have r:0<(l.natAbs:Int):=by lia
 refine⟨⟨by lia,gE (n:=b+1) (by rw[C2];exact GE B (TB (by decide) (Pl _))) (by lia)⟩,s _ ⟨?_,λy c=>?_,λb i=>?_⟩⟩
 .rw[Kb _ (by lia)];have:0<=(a.natAbs:Int)/l.natAbs:=Xo (by lia) (by lia);lia
 .rw[u,Kb _ (by lia)];have w:=Int.lt_mul_ediv_self_add (x:=(a.natAbs:Int)) r;have d:=p y c;rw[w8];lia
 .rw[Kb _ (by lia)];have w:(a.natAbs:Int)/l.natAbs<=a.natAbs:=Ww _ (by lia);have d:(a.natAbs:Int)<=((2^b:Nat):Int):=by exact_mod_cast i a k
  rw[dy]at d;have d:(a.natAbs:Int)<=2^b:=d;lia
noncomputable def su:List CS:=[.ret (.call 0 [(.call 1 [(.var 0),(.var 1)]),(.tup [(.int 2),(.int 1)])])]
noncomputable def qg:aZ:=λc Q _=>∃(a b:Rat)(n:Nat),c=[wq a,wq b]/\(Bd n a/\Bd n b/\n<=2900)/\Q (wq ((a+b)*2⁻¹))
theorem Ip{G:Nat->W}{m:Md}(c:List W)(Q:W->Prop)(R:Addr->Prop)(h:qg c Q R):wSs (cG [Ib,Ik]) G su (bN m Q R) (ao 2 c):=by obtain⟨a,b,n,rfl,⟨e,d,g⟩,f⟩:=h;show wSs _ _ su _ [some (wq a),some (wq b)];unfold su;fin2;refine⟨a,b,n,n,rfl,⟨e,d,by lia,by lia⟩,aj (by simp),a+b,2,n+n+1,2,n+n+1,rfl,⟨(Ph e d).dd,⟨by decide,by decide⟩,by lia,by decide,by lia⟩,λz=>absurd z (by decide),λ_=>f⟩
def sA:List CS:=[.ret (.tup [(.var 1),(.call 0 [(.var 0),(.var 1)])])]
noncomputable def qh:aZ:=λa Q _=>∃(L:List (List Int))(x:Rat),a=[.lst (L.map wI),wq x]/\(Eg L/\Bx x)/\Q (.tup [wq x,.int (jf 0 (L.map (wv x.num x.den)):Nat)])
theorem Iq{G:Nat->W}{m:Md}(a:List W)(Q:W->Prop)(R:Addr->Prop)(h:qh a Q R):wSs (cG [mZ]) G sA (bN m Q R) (ao 2 a):=by obtain⟨L,x,rfl,c,b⟩:=h;show wSs _ _ sA _ [some (.lst (L.map wI)),some (wq x)];unfold sA;fin2;exact⟨L,x,rfl,c,aj (by simp),b⟩
def eW(V:Rat->Nat)(x:Rat):W:=.tup [wq x,.int (V x:Nat)]
def Ml(V:Rat->Nat)(e:Rat×Rat×Nat):W:=.tup [eW V e.1,eW V e.2.1]
def kC(p:Rat×Rat):W:=.tup [wq p.1,wq p.2]
def Dy(X t:Nat)(x:Rat):Prop:=∃z:Int,x*((2^t:Nat):Rat)=z/\z.natAbs<=X*2^t
theorem W9(t:Nat):((2^t:Nat):Rat)≠0:=λz=>by have:((2^t:Nat):Int)=0:=Gc.mp z;have:=SF (n:=t) (show 0<2 by decide);lia
theorem Dy.bd{X t ξ T:Nat}{x:Rat}(h:Dy X t x)(c:X<=2^ξ)(b:t<=T):Bd (ξ+T+1) x:=by
 obtain⟨z,e,hz⟩:=h;have f:((2^t:Nat):Int)≠0:=by have:=SF (n:=t) (show 0<2 by decide);lia
 have ex:x=C0 z ((2^t:Nat):Int):=by rw[lh,<-e];have:=W9 t;show x=x*((2^t:Nat):Rat)/((2^t:Nat):Rat);grind
 obtain⟨d,a⟩:=pT z ((2^t:Nat):Int) f;rw[<-ex]at d a;rw[C2]at a;have j:X*2^t<=2^(ξ+T):=by rw[On];exact Kx c (FM (by decide) b)
 have i:2^t<=2^(ξ+T):=FM (by decide) (by lia);have g:2^(ξ+T)<2^(ξ+T+1):=TB (by decide) (Pl _);exact⟨by lia,by lia⟩
theorem Dy.up{X t:Nat}{x:Rat}(h:Dy X t x):Dy X (t+1) x:=by
 obtain⟨z,e,hz⟩:=h;refine⟨2*z,?_,?_⟩
 .rw[GS,QQ,Fm,<-e];show x*(_*(2:Rat))=(2:Rat)*_;grind
 .rw[FK,GS];show 2*z.natAbs<=_;rw[<-ik];lia
theorem Dy.mid{X t:Nat}{x y:Rat}(b:Dy X t x)(a:Dy X t y):Dy X (t+1) ((x+y)*2⁻¹):=by
 obtain⟨z,e,hz⟩:=b;obtain⟨u,c,d⟩:=a;refine⟨z+u,?_,?_⟩
 .rw[GS,QQ,i4,<-e,<-c];show(x+y)*2⁻¹*(_*(2:Rat))=_;grind
 .rw[GS,<-ik];have:=VD z u;lia
noncomputable def Wk(X T:Nat):Rat->List (Rat×Rat×Nat)->Prop
 |c,[]=>c=(X:Rat)
 |c,(lo,hi,t)::l=>(lo=c/\lo<hi/\Dy X t lo/\Dy X t hi/\(hi -lo)*((2^t:Nat):Rat)=2*(X:Rat)/\t<=T/\l.length<=t)/\Wk X T hi l
structure Tk(V:Rat->Nat)(N:Nat)(X:Nat)(l:List (Rat×Rat))(c:Rat):Prop where
 all:∀p∈l,p.1<p.2/\V p.1=V p.2+1/\Bd N p.1/\Bd N p.2/\p.2<=c
 pw:l.Pairwise λp q=>p.2<=q.1
 len:l.length+V c=V (-(X:Rat))
theorem Tk.go{V:Rat->Nat}{N X:Nat}{l:List (Rat×Rat)}{c d:Rat}(h:Tk V N X l c)(g:c<d)(e:V d=V c):Tk V N X l d:=
 ⟨λp f=>let⟨a,b,c1,d1,e1⟩:=h.all p f;⟨a,b,c1,d1,dE e1 (Mo g)⟩,h.pw,by rw[e];exact h.len⟩
theorem Tk.app{V:Rat->Nat}{N X:Nat}{l:List (Rat×Rat)}{c d:Rat}(h:Tk V N X l c)(g:c<d)(e:V c=V d+1)(o:Bd N c)(n:Bd N d):Tk V N X (l++[(c,d)]) d:=by
 refine⟨λp f=>?_,?_,?_⟩
 .rcases Ha.mp f with f|f
  .obtain⟨a,b,m,k,j⟩:=h.all p f;exact⟨a,b,m,k,dE j (Mo g)⟩
  .rw[Do.mp f];exact⟨g,e,o,n,lx⟩
 .refine List.pairwise_append.mpr ⟨h.pw,List.pairwise_singleton _ _,λp f q i=>?_⟩;rw[Do.mp i];exact(h.all p f).2.2.2.2
 .have:=h.len;rw[GM];show l.length+1+V d=_;lia
noncomputable def Ir:List CS:=[.VW [5,6] (.pop 4),.iff (.cmp .Gt (.bin .Sub (.ix (.var 5) (.int 1)) (.ix (.var 6) (.int 1))) (.int 1)) [.set 7 (.call 2 [(.var 1),(.call 3 [(.ix (.var 5) (.int 0)),(.ix (.var 6) (.int 0))])]),.set 4 (.bin .Add (.var 4) (.lst [(.tup [(.var 7),(.var 6)]),(.tup [(.var 5),(.var 7)])]))] [.iff (.cmp .Eq (.bin .Sub (.ix (.var 5) (.int 1)) (.ix (.var 6) (.int 1))) (.int 1)) [.app 3 (.tup [(.ix (.var 5) (.int 0)),(.ix (.var 6) (.int 0))])] []]]
noncomputable def SX:List CS:=[.set 1 (.call 0 [(.var 0)]),.set 2 (.call 1 [(.var 0)]),.set 3 (.lst []),.set 4 (.lst [(.tup [(.call 2 [(.var 1),(.tup [(.neg (.var 2)),(.int 1)])]),(.call 2 [(.var 1),(.tup [(.var 2),(.int 1)])])])]),.GG (.cmp .NotEq (.var 4) (.lst [])) Ir,.ret (.var 3)]
def mu(T:Nat)(l:List (Rat×Rat×Nat)):Nat:=(l.map λe=>2^(T+1 -e.2.2) -1).sum
theorem Xa{G:Nat->W}{D:Dn}{L:List (List Int)}{V:Rat->Nat}{X T ξ:Nat}{p:Option W}{lo hi:Rat}{t:Nat}{l:List (Rat×Rat×Nat)}{g:List (Rat×Rat)}{R Q i:Option W}(eV:∀x:Rat,jf 0 (L.map (wv x.num x.den))=V x)(K:Eg L)(s:X<=2^ξ)(Z:ξ+T+1<=2900)
 (fall:∀a b,a<b->V b<=V a)(few:V (-(X:Rat))<=30)(o:t=T->V lo<=V hi+1)(Y:Wk X T lo ((lo,hi,t)::l))(j:Tk V (ξ+T+1) X g lo)
 (u:∀c q J P O M,Wk X T c q->Tk V (ξ+T+1) X J c->mu T q<mu T ((lo,hi,t)::l)->D.nx [p,some (.lst (L.map wI)),some (.int X),some (.lst (J.map kC)),some (.lst (q.map (Ml V)).reverse),P,O,M]):
 wSs (cG [ig,gw,qh,qg]) G Ir D [p,some (.lst (L.map wI)),some (.int X),some (.lst (g.map kC)),some (.lst (((lo,hi,t)::l).map (Ml V)).reverse),R,Q,i]:=by
 obtain⟨⟨_,f,z,y,C,n,lt⟩,m⟩:=Y;have I:=z.bd s n;have H:=y.bd s n;have bx:∀{x:Rat},Bd (ξ+T+1) x->Bx x:=λh=>⟨_,by lia,h.1,h.2⟩;have p1:1<=2^(T -t):=h7;have B:mu T ((lo,hi,t)::l)=2*2^(T -t) -1+mu T l:=by show 2^(T+1 -t) -1+mu T l=_;rw[show T+1 -t=(T -t)+1 by lia,GS,Ta]
 unfold Ir;refine aI (λk=>k=[p,some (.lst (L.map wI)),some (.int X),some (.lst (g.map kC)),some (.lst (l.map (Ml V)).reverse),some (eW V lo),some (eW V hi),i]) (λN v=>?_) ?_
 .have v:=v _ rfl;rw[N0,cn];fin2;refine⟨Ml V (lo,hi,t),by rw[<-IR,rn],?_⟩;rw[List.dropLast_concat];unfold Ml;fin2;exact⟨rfl,v⟩
 rintro _ rfl;have fl:=fall lo hi f;unfold eW;fin2;refine⟨_,rfl,_,rfl,?_⟩;fin2;by_cases F:(1:Int)<(V lo:Int) -(V hi:Int)
 .rw[Bi (FV F)];have A:t<T:=nr n λe=>by have:=o e;lia
  have w:=Dy.mid z y;have bm:=w.bd s (show t+1<=T from A);fin2;refine⟨_,rfl,_,rfl,lo,hi,ξ+T+1,rfl,⟨I,H,Z⟩,L,(lo+hi)*2⁻¹,rfl,⟨K,bx bm⟩,?_⟩;rw[eV];have h2:(2:Rat)*2⁻¹=1:=by grind
  have U:lo<(lo+hi)*2⁻¹:=by grind
  have S:(lo+hi)*2⁻¹<hi:=by grind
  have d:=u lo ((lo,(lo+hi)*2⁻¹,t+1)::((lo+hi)*2⁻¹,hi,t+1)::l) g (some (eW V lo)) (some (eW V hi)) (some (eW V ((lo+hi)*2⁻¹))) ⟨⟨rfl,U,z.up,w,?_,A,by rw[A3];lia⟩,⟨rfl,S,w,y.up,?_,A,by lia⟩,m⟩ j ?_
  .refine⟨aj (by simp),aj (by simp),aj (by simp),?_⟩;fin2;refine⟨?_,?_⟩
   .rw[eM,Ap];exact Bz (show _<=3000 by simp;lia) (by decide)
   .rw[N0,N0,cn,cn,Pm]at d;exact d
  .rw[GS,QQ,<-C];show _*(_*(2:Rat))=_;grind
  .rw[GS,QQ,<-C];show _*(_*(2:Rat))=_;grind
  .rw[B];show 2^(T+1 -(t+1)) -1+(2^(T+1 -(t+1)) -1+mu T l)<_;rw[show T+1 -(t+1)=T -t by lia];lia
 .rw[BM (by rw[Kj];exact F)];refine⟨_,rfl,_,rfl,?_⟩;fin2;by_cases E:(V lo:Int) -(V hi:Int)=1
  .rw[Bi (FV E)];have r:=j.app f (by lia) I H;refine⟨_,rfl,_,rfl,aj (by simp),?_,?_⟩
   .have:=j.len;exact wH (by rw[Ap];lia)
   .have d:=u hi l (g++[(lo,hi)]) (some (eW V lo)) (some (eW V hi)) i m r (by rw[B];lia);rw[l4]at d;exact d
  .rw[BM (by rw[Kj];exact E)];exact u hi l g (some (eW V lo)) (some (eW V hi)) i m (j.go f (by lia)) (by rw[B];lia)
theorem SY{a:Nat->aZ}{G:Nat->W}{c:CE}{b:List CS}{D:Dn}{ε:Ev}{α:Type}(S:α->Ev)(J:α->Prop)(d:α->Nat)(s0:α)(g:ε=S s0)(f:J s0)(e:∀s,J s->wE a G (λ_=>False) c (S s) λx=>truth x (XM S J d (wSs a G b) D s)):wS a G (.GG c b) D ε:=by show KN (λε Q=>wE a G (λ_=>False) c ε λx=>truth x Q) (wSs a G b) D ε;exact oq S J d s0 g f e
theorem Dy.in{X t:Nat}{x:Rat}(h:Dy X t x):ab x (X:Rat):=by
 obtain⟨z,e,hz⟩:=h;have:=Js.mpr hz;rw[<-e,QQ]at this;have a:(0:Rat)<((2^t:Nat):Rat):=kz.mpr (SF (by decide));generalize((2^t:Nat):Rat)=P at*;unfold ab at*;have b:P* -(X:Rat)<=P*x:=by grind
 have a2:P*x<=P*(X:Rat):=by grind
 exact⟨TC b a,TC a2 a⟩
theorem Xb{L:List (List Int)}{C:List (List Rat)}(a:Pz L C)(x:Rat):jf 0 (L.map (wv x.num x.den))=bV C x:=by rw[show wv x.num x.den=Num.wv x.num x.den from funext (CM _ _)];exact(vR (x:=x) (t:=x.num) (b:=x.den) (by have:=x.den_pos;lia) (CL x) a).symm
theorem Xc{ns:List Int}{C:List (List Rat)}{b X:Nat}{lo hi:Rat}(K:Mh ns b)(i:ns.length<=9)(o:Cc (qI ns) C)(m:SV ns C)(n:X<=2^(b+2))(l:lo<hi)(q:ab lo (X:Rat))(a2:ab hi (X:Rat))(f:(hi -lo)*((2^(41*b+1400):Nat):Rat)=2*(X:Rat)):bV C lo<=bV C hi+1:=by
 obtain⟨Z,j,g,⟨c,r⟩,p⟩:=m;have P:Rp (qI ns):=⟨ju K.nz,by rw[cu];exact K.l2⟩;have a:(X:Rat)<=((2^(b+2):Nat):Rat):=cm.mpr n;refine Cc.sep (β:=b+76) (ξ:=b+2) (D:=40*b+1397) P o j ⟨1,by decide,cu Z,λk=>by rw[gu,eQ]⟩ g c (by lia) (p i b K.bd) l (cO q a) (cO a2 a) (by lia) ?_;have e:((2^(41*b+1400):Nat):Rat)=((2^(40*b+1397):Nat):Rat)*(((2^(b+2):Nat):Rat)*2):=by
  have e:2^(41*b+1400)=2^(40*b+1397)*(2^(b+2)*2):=by rw[<-GS,<-On];congr 1;lia
  rw[e,QQ,QQ];rfl
 rw[e]at f;have h:(0:Rat)<((2^(b+2):Nat):Rat):=kz.mpr (SF (by decide));generalize((2^(b+2):Nat):Rat)=P at*;generalize(hi -lo)=d at*;generalize((2^(40*b+1397):Nat):Rat)=Y at*;have:(P*2)*(d*Y)<=(P*2)*1:=by grind
 exact TC this (KM h (by decide))
noncomputable def ZQ:aZ:=λc Q _=>∃(a:List Int)(b:Nat),c=[wI a]/\(Mh a b/\a.length<=9/\b<=33)/\∀(C:List (List Rat))(X N:Nat)(l:List (Rat×Rat)),N<=2900->Cc (qI a) C->RB a X->Tk (bV C) N X l (X:Rat)->Q (.lst (l.map kC))
theorem ZR{G:Nat->W}{m:Md}(M:List W)(Q:W->Prop)(R:Addr->Prop)(h:ZQ M Q R):wSs (cG [ig,gw,qh,qg]) G SX (bN m Q R) (ao 8 M):=by
 obtain⟨f,b,rfl,⟨K,l9,hb⟩,hq⟩:=h;show wSs _ _ SX _ [some (wI f),none,none,none,none,none,none,none];unfold SX;have l2:=K.l2;have P:Rp (qI f):=⟨ju K.nz,by rw[cu];exact l2⟩;refine aI (λd=>∃(L:List (List Int))(C:List (List Rat)),(Cc (qI f) C/\Pz L C/\Eg L/\SV f C)/\d=[some (wI f),some (.lst (L.map wI)),none,none,none,none,none,none]) (λN g=>?_) ?_
 .fin2;exact⟨f,rfl,Il K,λL C u y v F=>g _ ⟨L,C,⟨u,y,v,F⟩,rfl⟩⟩
 rintro _ ⟨L,C,⟨u,y,v,F⟩,rfl⟩;refine aI (λd=>∃X:Nat,RB f X/\d=[some (wI f),some (.lst (L.map wI)),some (.int X),none,none,none,none,none]) (λN g=>?_) ?_
 .fin2;refine⟨f,b,rfl,⟨by lia,by lia,K.nz,K.bd,by lia⟩,λX q=>?_⟩;obtain⟨n,rfl⟩:∃n:Nat,X=n:=⟨X.toNat,by have:=q.two;lia⟩;exact g _ ⟨n,q,rfl⟩
 rintro _ ⟨X,q,rfl⟩;have H:X<=2^(b+2):=by have h1:=q.up b K.bd;have h2:((2^b:Nat):Int)=2^b:=dy 2 b;rw[<-h2]at h1;have:1<=2^b:=h7;rw[On];lia
 have hX2:2<=X:=by have:=q.two;lia
 have I:=Xb y;have few:=u.few P;rw[cu]at few;have fall:∀a b,a<b->bV C b<=bV C a:=λa b h=>u.fall P h;generalize S:bV C=V at*;have U:(((-(X:Int):Int)):Rat)= -(X:Rat):=N3 X;have Y:∀z:Int,z.natAbs<=X->Bx ((z:Int):Rat):=λz hz=>⟨b+3,by lia,GE (Bz hz H) (TB (by decide) (by lia)),Nat.one_lt_two_pow (by lia)⟩;have d0:Dy X 0 (-(X:Rat)):=⟨-(X:Int),by rw[U,UB];show _*(1:Rat)=_;grind,by lia⟩;have J:Dy X 0 (X:Rat):=⟨X,by rw[UB];show _*(1:Rat)=_;rw[kb];rfl,by lia⟩;have xp:(0:Rat)<(X:Rat):=kz.mpr (by lia);refine aI (λd=>d=[some (wI f),some (.lst (L.map wI)),some (.int X),some (.lst []),none,none,none,none]) (λN g=>?_) ?_
 .fin2;exact⟨aj (by simp),g _ rfl⟩
 rintro _ rfl;refine aI (λd=>d=[some (wI f),some (.lst (L.map wI)),some (.int X),some (.lst []),some (.lst [Ml V (-(X:Rat),(X:Rat),0)]),none,none,none]) (λN g=>?_) ?_
 .have g:=g _ rfl;unfold Ml eW at g;rw[<-U]at g;fin2;refine⟨aj (by simp),L,((-(X:Int):Int):Rat),rfl,⟨v,Y _ (by lia)⟩,aj (by simp),L,((X:Int):Rat),rfl,⟨v,Y _ (by lia)⟩,aj (by simp),aj (by simp),?_⟩;rw[I,I];exact g
 rintro _ rfl;obtain⟨T,hT⟩:∃T,T=41*b+1400:=⟨_,rfl⟩;refine aI (λd=>∃(o:List (Rat×Rat))(O D B A:Option W),Tk V (b+2+T+1) X o (X:Rat)/\d=[some (wI f),some (.lst (L.map wI)),some (.int X),some (.lst (o.map kC)),O,D,B,A]) (λN g=>?_) ?_
 .refine SY (α:=List (Rat×Rat×Nat)×List (Rat×Rat)×Option W×Option W×Option W) (λs=>[some (wI f),some (.lst (L.map wI)),some (.int X),some (.lst (s.2.1.map kC)),some (.lst (s.1.map (Ml V)).reverse),s.2.2.1,s.2.2.2.1,s.2.2.2.2]) (λs=>∃c,Wk X T c s.1/\Tk V (b+2+T+1) X s.2.1 c) (λs=>mu T s.1) ([(-(X:Rat),(X:Rat),0)],[],none,none,none) rfl ⟨-(X:Rat),⟨⟨rfl,by grind,d0,J,?_,Iy _,Iy _⟩,rfl⟩,⟨λp hp=>(by cases hp),.nil,i5 _⟩⟩ ?_
  .rw[UB];show _*(1:Rat)=_;grind
  rintro⟨l,o,D,B,A⟩ ⟨c,i,r⟩;dsimp only at i r⊢;fin2;refine⟨aj (by simp),⟨.inl ⟨KB.mpr λw i=>?_,rfl⟩,λk x=>?_⟩⟩
  .obtain⟨e,_,rfl⟩:=Hb.mp (List.mem_reverse.mp i);rfl
  fin2;refine kU (λj=>?_) (λj=>?_)
  .cases l with
   |nil=>have:k=true:=x.mpr rfl;rw[this]at j;cases j
   |cons e l=>
    obtain⟨lo,hi,t⟩:=e;have ec:lo=c:=i.1.1;subst ec;refine Xa (ξ:=b+2) (T:=T) I v H (by lia) fall (by have:=few (-(X:Rat));lia) (λe=>?_) i r λc' l' X0 p5 p6 p7 sY ZS hm=>?_
    .obtain⟨⟨_,E,J,d2,Z,_,_⟩,_⟩:=i;have:=Xc K l9 u F H E J.in d2.in (by rw[<-hT,<-e];exact Z);rw[S]at this;exact this
    .exact⟨(l',X0,p5,p6,p7),rfl,⟨c',sY,ZS⟩,hm⟩
  .have kt:k=true:=by
    cases k with
    |true=>rfl
    |false=>cases j
   have:=x.mp kt;have l0:l=[]:=by have:=Pi (λw=>match w with|W.lst l=>l.length|_=>0) this;have:(l.map (Ml V)).reverse.length=0:=this;rw[eM,Ap]at this;exact KE.mp this
   subst l0;have i:c=(X:Rat):=i;subst i;exact g _ ⟨o,_,_,_,_,r,rfl⟩
 rintro _ ⟨o,O,D,B,A,r,rfl⟩;fin2;rw[<-S]at r;exact hq C X _ o (by lia) u q r
noncomputable def w4(ns:List Int)(X:Nat):Prop:=∀y∈ns,(y.natAbs:Int)+(ns.getD (ns.length -1) 0).natAbs<=(ns.getD (ns.length -1) 0).natAbs*X
structure Tl(ns:List Int)(l:List (Rat×Rat)):Prop where
 ex:∃(c:Rat)(C:List (List Rat))(X N:Nat),c≠0/\Cc (iO c (qI ns)) C/\w4 ns X/\2<=X/\N<=2900/\Tk (bV C) N X l (X:Rat)
theorem S5{ns b:List Int}{U V:Int}{X:Nat}(s:U≠0)(r:V≠0)(m:b.length=ns.length)(e:∀i,b.getD i 0*U=ns.getD i 0*V)(h:w4 b X):w4 ns X:=λy n=>by
 obtain⟨k,t,rfl⟩:=Sub.mem_getD n;have c:=h _ (Sub.getD_mem' (show k<b.length by lia));have j:=Pi M6 (e k);have g:=Pi M6 (e (ns.length -1));rw[FK,FK]at j g;rw[m]at c;have l:0<(V.natAbs:Int):=by lia
 refine Int.le_of_mul_le_mul_left (a:=(V.natAbs:Int)) ?_ l;have q:((b.getD k 0).natAbs:Int)*U.natAbs=(ns.getD k 0).natAbs*V.natAbs:=by exact_mod_cast j
 have f:((b.getD (ns.length -1) 0).natAbs:Int)*U.natAbs=(ns.getD (ns.length -1) 0).natAbs*V.natAbs:=by exact_mod_cast g
 have d:=kf c (show 0<=(U.natAbs:Int) by lia);have p:(U.natAbs:Int)*(((b.getD k 0).natAbs:Int)+(b.getD (ns.length -1) 0).natAbs)=V.natAbs*(((ns.getD k 0).natAbs:Int)+(ns.getD (ns.length -1) 0).natAbs):=by rw[w8,w8,ar,q,ar (U.natAbs:Int),f];grind
 have o:(U.natAbs:Int)*(((b.getD (ns.length -1) 0).natAbs:Int)*X)=V.natAbs*(((ns.getD (ns.length -1) 0).natAbs:Int)*X):=by rw[<-a9,ar (U.natAbs:Int),f];grind
 rw[p,o]at d;exact d
noncomputable def jM:List CS:=[.iff (.cmp .Eq (.var 0) (.lst [])) [.KJ] [],.iff (.cmp .Eq (.blt .len [(.var 0)]) (.int 1)) [.ret (.lst [])] [],.ret (.call 0 [(.ix (.call 1 [(.var 0)]) (.int 0))])]
noncomputable def gj:aZ:=λc Q _=>∃(a:List Int)(t d:Int),c=[dh (gi a t d)]/\((a.length=1/\Q (.lst []))\/
 ((∃b,Mh a b/\b<=33)/\a.length<=9/\t≠0/\t.natAbs<=3/\0<d/\d.natAbs<2^100)/\∀l,Tl a l->Q (.lst (l.map kC)))
theorem y9{G:Nat->W}{m:Md}(n:List W)(Q:W->Prop)(R:Addr->Prop)(h:gj n Q R):wSs (cG [ZQ,gf]) G jM (bN m Q R) (ao 1 n):=by
 obtain⟨e,t,d,rfl,h⟩:=h;show wSs _ _ jM _ [some (dh (gi e t d))];unfold jM;have f:(gi e t d).length=e.length:=Ap _;have O:1<=e.length:=by
  rcases h with h|⟨⟨⟨b,h,_⟩,_⟩,_⟩
  .lia
  .have:=h.l2;lia
 refine aI (λc=>c=[some (dh (gi e t d))]) (λN a=>?_) ?_
 .fin2;refine⟨aj (by simp),AD (y:=[]) λk A=>?_⟩;cases jF A (λz=>by rw[z]at f;have f:0=e.length:=f;lia);fin2;exact a _ rfl
 rintro _ rfl;rcases h with⟨B,g⟩|⟨⟨⟨b,K,i⟩,P,v,u,E,J⟩,g⟩
 .unfold dh;fin2;rw[Ap,f,B,Bi (by decide)];exact⟨aj (by simp),g⟩
 have l2:=K.l2;refine aI (λc=>c=[some (dh (gi e t d))]) (λN a=>?_) ?_
 .have a:=a _ rfl;unfold dh at a⊢;fin2;rw[Ap,f,BM (by rw[Kj];lia)];exact a
 rintro _ rfl;fin2;refine Im K v u E J λw p U V M L H I x D r q j=>⟨_,rfl,?_⟩;refine⟨w,b,rfl,⟨I,by lia,i⟩,λC X N l a F o s=>g l ⟨p,C,X,N,H,by rw[<-D];exact F,S5 r q x j o.far,by have:=o.two;lia,a,s⟩⟩
noncomputable def sC:List CS:=[.iff (.or [(.not (.blt .Af [(.var 0),(.B5 "tuple")])),(.cmp .NotEq (.blt .len [(.var 0)]) (.int 2))]) [.ret (.bl false)] [],.fr [1] true (.var 0) [.iff (.or [(.not (.blt .Af [(.var 1),(.B5 "int")])),(.blt .Af [(.var 1),(.B5 "bool")])]) [.ret (.bl false)] []],.ret (.and [(.cmp .Gt (.ix (.var 0) (.int 1)) (.int 0)),(.cmp .Eq (.call 0 [(.ix (.var 0) (.int 0)),(.ix (.var 0) (.int 1))]) (.int 1))])]
theorem Iu{G:Nat->W}{m:Md}(d:List W)(Q:W->Prop)(R:Addr->Prop)(h:i7 d Q R):wSs (cG [CF]) G sC (bN m Q R) (ao 2 d):=by
 obtain⟨r,rfl,f⟩:=h;show wSs _ _ sC _ [some (wq r),none];unfold sC;refine aI (λa=>a=[some (wq r),none]) (λN b=>?_) ?_
 .have b:=b _ rfl;unfold wq at b⊢;fin2;simp only[CB];refine⟨_,rfl,?_⟩;fin2;rw[BM (by decide)];fin2;rw[BM (by simp)];exact b
 rintro _ rfl;refine aI (λa=>∃o,a=[some (wq r),o]) (λN b=>?_) ?_
 .unfold wq at b⊢;fin2;refine bG (λi c=>∃o,c=[some (.tup [.int r.num,.int r.den]),o]) ⟨none,rfl⟩ ?_ (λc h=>b c h);rintro i w _ N e ⟨o,rfl⟩ k;have:∃z:Int,w=.int z:=by
   have:=PQ e;rcases Fh.mp this with rfl|this
   .exact⟨_,rfl⟩
   .exact⟨_,Do.mp this⟩
  obtain⟨z,rfl⟩:=this;fin2;simp only[CB];refine⟨_,rfl,?_⟩;fin2;rw[BM (by decide)];refine⟨_,rfl,?_⟩;fin2;rw[BM (by decide)];exact k _ ⟨_,rfl⟩
 rintro _ ⟨o,rfl⟩;unfold wq;fin2;refine⟨_,rfl,?_⟩;have j:0<(r.den:Int):=by have:=r.den_pos;omega
 fin2;rw[Bi (FV j)];refine⟨_,rfl,_,rfl,_,_,rfl,?_⟩;fin2;have g:A2 r.num (r.den:Int)=1:=r.reduced;rw[g];exact f
noncomputable def sD:List CS:=[.ret (.cmp .Lt (.bin .Mult (.ix (.var 0) (.int 0)) (.ix (.var 1) (.int 1))) (.bin .Mult (.ix (.var 1) (.int 0)) (.ix (.var 0) (.int 1))))]
noncomputable def w6:aZ:=λc Q _=>∃(a b:Rat)(n:Nat),c=[wq a,wq b]/\(Bd n a/\Bd n b/\n<=3000)/\Q (.bl (decide (a<b)))
theorem Iv{i:Nat->aZ}{G:Nat->W}{m:Md}(c:List W)(Q:W->Prop)(R:Addr->Prop)(h:w6 c Q R):wSs i G sD (bN m Q R) (ao 2 c):=by
 obtain⟨a,b,n,rfl,⟨g,f,k⟩,j⟩:=h;show wSs _ _ sD _ [some (wq a),some (wq b)];unfold sD wq;fin2;have d:∀{x:Rat},Bd n x->((x.den:Int)).natAbs<2^n:=λh=>by rw[C2];exact h.2
 refine⟨_,rfl,_,rfl,?_⟩;fin2;refine⟨aH g.1 (d f) (by lia),_,rfl,_,rfl,?_⟩;fin2;refine⟨aH f.1 (d g) (by lia),?_⟩;have e:decide (a.num*(b.den:Int)<b.num*(a.den:Int))=decide (a<b):=decide_eq_decide.mpr (Rat.lt_iff a b).symm;fin2;rw[e];exact j
noncomputable def CN:List CS:=[.iff (.or [(.not (.blt .Af [(.var 1),(.B5 "tuple")])),(.cmp .NotEq (.blt .len [(.var 1)]) (.int 2))]) [.ret (.bl false)] [],.iff (.or [(.not (.call 0 [(.ix (.var 1) (.int 0))])),(.not (.call 0 [(.ix (.var 1) (.int 1))]))]) [.ret (.bl false)] [],.iff (.not (.call 1 [(.ix (.var 1) (.int 0)),(.ix (.var 1) (.int 1))])) [.ret (.bl false)] []]
noncomputable def sE:List CS:=[.iff (.not (.blt .Af [(.var 0),(.B5 "list")])) [.ret (.bl false)] [],.fr [1] true (.var 0) CN,.ret (.not (.blt .any [(.comp [0] true 1 (.ny [(.int 1),(.blt .len [(.var 0)])]) (.bl true) (.call 1 [(.ix (.ix (.var 1) (.var 0)) (.int 0)),(.ix (.ix (.var 1) (.bin .Sub (.var 0) (.int 1))) (.int 1))]))]))]
noncomputable def m5:aZ:=λa Q _=>∃(l:List (Rat×Rat))(N:Nat),a=[.lst (l.map kC)]/\(l.length<=100/\N<=3000/\(∀p∈l,p.1<p.2/\Bd N p.1/\Bd N p.2)/\l.Pairwise λp q=>p.2<=q.1)/\Q (.bl true)
theorem Iw{G:Nat->W}{m:Md}(n:List W)(Q:W->Prop)(R:Addr->Prop)(h:m5 n Q R):wSs (cG [i7,w6]) G sE (bN m Q R) (ao 2 n):=by
 obtain⟨l,N,rfl,⟨D,s,b,pw⟩,u⟩:=h;show wSs _ _ sE _ [some (.lst (l.map kC)),none];unfold sE;refine aI (λa=>a=[some (.lst (l.map kC)),none]) (λC k=>?_) ?_
 .fin2;simp only[CB];refine⟨_,rfl,?_⟩;fin2;rw[BM (by decide)];exact k _ rfl
 rintro _ rfl;refine aI (λa=>∃o,a=[some (.lst (l.map kC)),o]) (λC k=>?_) ?_
 .fin2;refine bG (λi f=>∃o,f=[some (.lst (l.map kC)),o]) ⟨none,rfl⟩ ?_ (λf h=>k f h);rintro i w _ E q ⟨o,rfl⟩ d;rw[Da]at q;obtain⟨p,v,rfl⟩:=OF.mp q;obtain⟨c,B,A⟩:=b p (PQ v);have d:=d _ ⟨some (kC p),rfl⟩;unfold CN;unfold kC at d⊢;fin2;simp only[CB];refine⟨_,rfl,?_⟩;fin2;rw[BM (by decide),BM (by simp)];refine⟨_,rfl,p.1,rfl,?_⟩;fin2;refine⟨_,rfl,p.2,rfl,?_⟩;fin2;refine⟨_,rfl,_,rfl,p.1,p.2,N,rfl,⟨B,A,s⟩,?_⟩;fin2;rw[BM (by simpa using c)];exact d
 rintro _ ⟨o,rfl⟩;fin2;refine⟨⟨by decide,by decide,by rw[Ap];lia,by rw[Ap];lia⟩,?_⟩;rw[Ap,show((l.length:Int) -1).toNat=l.length -1 by lia];refine cF (h:=λi:Nat=>W.int (1+(i:Int)*1)) (g:=λ_=>.bl false) (Bn (l.length -1)) [] _ (λi r K y=>?_) (aj (by simp;lia)) ?_
 .have r:=du.mp r;have c:i+1<l.length:=by lia
  have j:i<l.length:=by lia
  fin2;rw[show(1:Int)+(i:Int)*1=((i+1:Nat):Int) by lia,show((i+1:Nat):Int) -1=(i:Nat) by lia];refine⟨_,cA (w:=kC l[i+1]) (by rw[Da,B1 c];rfl),?_⟩;unfold kC;fin2;refine⟨_,rfl,_,cA (w:=kC l[i]) (by rw[Da,B1 j];rfl),?_⟩;unfold kC;fin2;refine⟨_,rfl,l[i+1].1,l[i].2,N,rfl,⟨(b _ (T2 c)).2.1,(b _ (T2 j)).2.2,s⟩,?_⟩;have:=List.pairwise_iff_getElem.mp pw i (i+1) j c (Pl _);rw[Ki (λz=>by grind)];exact y
 .refine⟨(Bn (l.length -1)).map λ_=>false,by rw[EY,SL];rfl,?_⟩;have e:((Bn (l.length -1)).map λ_=>false).any id=false:=by rw[SA];intro x t;obtain⟨_,_,rfl⟩:=Hb.mp t;decide
  rw[e];fin2;exact u
def zh(a bs:List Int):List Int:=tabI (a.length+bs.length -1) (cf a bs a.length)
noncomputable def CO:List CS:=[.fr [4] true (.ny [(.blt .len [(.var 1)])]) [.put 2 (.bin .Add (.var 3) (.var 4)) (.bin .Add (.ix (.var 2) (.bin .Add (.var 3) (.var 4))) (.bin .Mult (.ix (.var 0) (.var 3)) (.ix (.var 1) (.var 4))))]]
noncomputable def AR:List CS:=[.set 2 (.bin .Mult (.lst [(.int 0)]) (.bin .Sub (.bin .Add (.blt .len [(.var 0)]) (.blt .len [(.var 1)])) (.int 1))),.fr [3] true (.ny [(.blt .len [(.var 0)])]) CO,.ret (.var 2)]
noncomputable def zj:aZ:=λc Q _=>∃b a:List Int,c=[wI b,wI a]/\(0<b.length/\0<a.length/\b.length<=200/\a.length<=200/\∀x∈b,∀y∈a,IntMulOk x y)/\Q (wI (zh b a))
theorem S9{t:Nat->aZ}{G:Nat->W}{m:Md}(p:List W)(Q:W->Prop)(R:Addr->Prop)(h:zj p Q R):wSs t G AR (bN m Q R) (ao 5 p):=by
 obtain⟨b,a,rfl,⟨I,H,F,E,B⟩,l⟩:=h;show wSs _ _ AR _ [some (wI b),some (wI a),none,none,none];unfold AR;unfold wI zh at*;fin2;have D:((b.map W.int).length:Int)+((a.map W.int).length:Int) -1=((b.length+a.length -1:Nat):Int):=by rw[Ap,Ap];lia
 rw[D,Io,ia];refine⟨aj (by simp),by lia,by lia,aj (by simp;lia),by lia,by lia,?_⟩;rw[Ap,Io];refine bG (λi d=>∃o3 c,d=[some (.lst (b.map W.int)),some (.lst (a.map W.int)),some (.lst ((tabI (b.length+a.length -1) (cf b a i)).map W.int)),o3,c]) ⟨none,none,?_⟩ ?_ ?_
 .have:tabI (b.length+a.length -1) (cf b a 0)=A6 (b.length+a.length -1) 0:=by unfold tabI;have:cf b a 0=λ_=>0:=rfl;rw[this,XJ,Ya]
  rw[this,PY]
 .rintro i w _ N A ⟨o3,c,rfl⟩ C;obtain⟨s,rfl⟩:=ou A;unfold CO;fin2;refine⟨by lia,by lia,?_⟩;rw[Ap,Io];refine bG (λj d=>∃c,d=[some (.lst (b.map W.int)),some (.lst (a.map W.int)),some (.lst ((tabI (b.length+a.length -1) (xZ b a i j)).map W.int)),some (.int i),c]) ⟨c,?_⟩ ?_ ?_
  .rw[show xZ b a i 0=cf b a i from funext λk=>x6 b a i k]
  .rintro j w _ J v ⟨c,rfl⟩ u;obtain⟨r,rfl⟩:=ou v;have o:i+j<b.length+a.length -1:=by lia
   fin2;rw[show(i:Int)+(j:Int)=((i+j:Nat):Int) by lia];refine⟨_,cA (by rw[Da,fJ o];rfl),_,cA (int_at s),_,cA (int_at r),?_⟩;fin2;refine⟨wL (P:=λx=>IntMulOk x (a.getD j 0)) (λx z=>wL (P:=λy=>IntMulOk x y) (B x z) r) s,i+j,jG (by rw[Ap,bD];exact o),u _ ⟨some (.int j),?_⟩⟩;have e:=gc (n:=b.length+a.length -1) (f:=xZ b a i j) (g:=xZ b a i (j+1)) (k:=i+j) o (λq _ l=>by rw[lT,BM l,ky]);rw[lT,Bi rfl]at e;rw[<-e,ma]
  .rintro _ ⟨c,rfl⟩;refine C _ ⟨some (.int i),c,?_⟩;rw[wN,show xZ b a i a.length=cf b a (i+1)from funext λk=>x8 b a i k]
 .rintro _ ⟨o3,c,rfl⟩;rw[wN];fin2;exact l
theorem oG(F G:List Int):(zh F G).length=F.length+G.length -1:=bD ..
theorem Xd{F G:List Int}(a:0<F.length)(k:Nat):(zh F G).getD k 0=cf F G F.length k:=by
 unfold zh;rw[CI];split
 .rfl
 .rw[lU F G k F.length (by lia)]
theorem ZT(ns:List Int):DS (ns.map W.int)=true:=by
 induction ns with
 |nil=>rfl
 |cons x l a=>exact a
theorem zk{f:W->Ev->(W->Ev->Prop)->Prop}{Q:List W->Ev->Prop}(J:Nat->List W->Ev->Prop)(g:∀j a ε,J j a ε->a.length=j):∀(c:List W)(i:Nat)(a:List W)(ε:Ev),i+c.length<=1000->J i a ε->
 (∀j w a ε K,c[j]?=some w->J (i+j) a ε->(∀y b,J (i+j+1) (a++[y]) b->K y b)->f w ε K)->(∀a ε,J (i+c.length) a ε->Q a ε)->oS f c a ε Q
 |[],i,a,ε,_,h,_,q=>q a ε h
 |w::c,i,a,ε,e,h,d,q=>by have e:i+(c.length+1)<=1000:=e;refine d 0 w a ε _ rfl h λy b k=>⟨wH (by rw[g _ _ _ h];lia),?_⟩;refine zk J g c (i+1) (a++[y]) b (by lia) k (λj w a ε K l n m=>d (j+1) w a ε K l (by rw[show i+(j+1)=i+1+j by lia];exact n) λy b h=>m y b (by rw[show i+1+j+1=i+(j+1)+1 by lia];exact h)) λa ε h=>q a ε ?_;rw[show i+(w::c).length=i+1+c.length by rw[A3];lia];exact h
theorem Xe{x y z:W}{i:Int}(b:0<=i)(a:i<3):∃w,nB [x,y,z] i=some w/\(w=x\/w=y\/w=z):=by
 have:i=0\/i=1\/i=2:=by lia
 rcases this with rfl|rfl|rfl
 .exact⟨x,rfl,.inl rfl⟩
 .exact⟨y,rfl,.inr (.inl rfl)⟩
 .exact⟨z,rfl,.inr (.inr rfl)⟩
theorem xg{F G:List Int}(a:0<F.length)(b:0<G.length):(zh F G).getD ((zh F G).length -1) 0=F.getD (F.length -1) 0*G.getD (G.length -1) 0:=by rw[oG,Xd a,<-J6 F G a b];congr 1
theorem CP{F G:List Int}{n m k:Nat}(d:∀y∈F,y.natAbs<2^n)(c:∀y∈G,y.natAbs<2^m)(b:F.length<=2^k):∀x∈zh F G,x.natAbs<=2^(n+m+k):=λx a=>by obtain⟨j,_,rfl⟩:=r8 a;refine Bz (Nm d c j F.length) ?_;rw[On 2 (n+m) k,Ta];exact Ee _ b
structure oH(ns:List Int)(b:Nat):Prop where
 n0:0<ns.length
 l9:ns.length<=9
 nz:ns.getD (ns.length -1) 0≠0
 bd:∀x∈ns,x.natAbs<=2^b
 Ui:b<=33
noncomputable def m6:aZ:=λf Q _=>∃(a b:Int),f=[wW a b]/\Wl a b/\∀c k e d,oH c k->Wl e d->Q (.tup [wI c,wW e d])
noncomputable def ir:List CS:=[.mD 1 (.bin .Add (.int 1) (.pI 0 0 [(.int 6)])),.mD 2 (.ix (.lst [(.int 25),(.int 1001),(.bin .Add (.bin .Mult (.int 2) (.bin .Pow (.int 10) (.int 6))) (.int 1))]) (.pI 0 0 [(.int 3)])),.T4 (.cmp .Eq (.pI 0 0 [(.int 8)]) (.int 5)) [.mD 1 (.bin .Add (.int 7) (.pI 0 0 [(.int 3)])),.set 2 (.int 25)] [],.VU 3 (.ny [(.var 1)]) (.bin .Sub (.pI 1 0 [(.var 3)]) (.bin .FloorDiv (.var 3) (.int 2))),.iff (.cmp .Eq (.ix (.var 3) (.neg (.int 1))) (.int 0)) [.put 3 (.neg (.int 1)) (.int 1)] [],.mD 4 (.pI 0 0 [(.int 6)]),.iff (.cmp .Gt (.var 2) (.bin .Pow (.int 10) (.int 6))) [.NC [3] [.B7 (.var 3)]] [],.iff (.and [(.cmp .Lt (.var 4) (.int 2)),(.cmp .Lt (.var 1) (.int 6))]) [.VV 5 [(.bin .Sub (.pI 0 0 [(.int 13)]) (.int 6)),(.bin .Add (.int 1) (.pI 0 0 [(.int 4)])),(.var 4)],.iff (.cmp .Eq (.var 4) (.int 0)) [.drop 5] [],.set 3 (.PZ [5] (.call 1 [(.var 3),(.call 1 [(.var 5),(.var 5)])]))] [],.iff (.cmp .Eq (.var 4) (.int 2)) [.mD 6 (.bin .Add (.int 1) (.pI 0 0 [(.int 9)])),.set 3 (.call 1 [(.lst [(.neg (.int 1)),(.var 6)]),(.lst [(.neg (.int 1001)),(.bin .Mult (.var 6) (.int 1000))])])] [],.NC [3,5] [.B7 (.var 3)]]
noncomputable def Iz(s q:Int):Prop:=(q=25/\1<=s/\s<=9)\/(q=1001/\1<=s/\s<=6)\/(q=2000001/\1<=s/\s<=6)
theorem Mm{ns:List Int}{s q:Int}(e:Iz s q)(f:(ns.length:Int)=s)(d:∀x∈ns,x.natAbs<=(q.fdiv 2).natAbs)(c:ns.getD (ns.length -1) 0≠0):oH ns 20:=by
 rcases e with⟨rfl,b,a⟩|⟨rfl,b,a⟩|⟨rfl,b,a⟩
 all_goals exact⟨by lia,by lia,c,λx h=>Bz (d x h) (by decide),by decide⟩
theorem IA{ns ps:List Int}(D:oH ns 20)(i:ns.length<=5)(p2:2<=ps.length)(g:ps.length<=3)(c:∀x∈ps,x.natAbs<2^3)(b:ps.getD (ps.length -1) 0≠0):oH (zh ns (zh ps ps)) 33:=by
 have n0:=D.n0;have d:(zh ps ps).length=ps.length+ps.length -1:=oG ..;have h:(zh ns (zh ps ps)).length=ns.length+(ps.length+ps.length -1) -1:=by rw[oG,d]
 refine⟨by lia,by lia,?_,?_,by decide⟩
 .rw[xg n0 (by lia),xg (by lia) (by lia)];exact Hk D.nz (Hk b b)
 .have f:=CP (k:=2) c c (by lia);have:=CP (n:=21) (m:=8+1) (k:=2+1) (F:=ns) (G:=zh ps ps) (λy a=>GE (D.bd y a) (TB (by decide) (by lia))) (λy a=>GE (f y a) (by decide)) (by lia);exact λx e=>Bz (this x e) (FM (by decide) (by decide))
theorem Mn{c:Int}(e:1<=c)(d:c<=9):oH (zh [-1,c] [-1001,c*1000]) 33:=by
 refine⟨by rw[oG];show 0<3;decide,by rw[oG];show 3<=9;decide,?_,?_,by decide⟩
 .rw[xg (F:=[-1,c]) (G:=[-1001,c*1000]) (by simp) (by simp)];exact Hk (show c≠0 by lia) (show c*1000≠0 by lia)
 .have:=CP (n:=4) (m:=14) (k:=1) (F:=[-1,c]) (G:=[-1001,c*1000]) (λy a=>by
   rcases Fh.mp a with rfl|a
   .decide
   .rw[Do.mp a];lia) (λy a=>by
   rcases Fh.mp a with rfl|a
   .decide
   .rw[Do.mp a];lia) (show 2<=2 by decide)
  exact λx b=>Bz (this x b) (FM (by decide) (by decide))
abbrev f7(a b s q:Int)(l:Ev):Ev:=some (wW a b)::some (.int s)::some (.int q)::l
theorem Ej{G:Nat->W}{m:Md}(ws:List W)(Q:W->Prop)(R:Addr->Prop)(h:m6 ws Q R):wSs (cG [u7,zj]) G ir (bN (.io m) Q R) (ao 7 ws):=by
 obtain⟨a,b,rfl,g,hq⟩:=h;show wSs _ _ ir _ [some (wW a b),none,none,none,none,none,none];unfold ir;refine aI (λd=>∃a b s:Int,(Wl a b/\1<=s/\s<=6)/\d=[some (wW a b),some (.int s),none,none,none,none,none]) (λN i=>?_) ?_
 .fin2;exact⟨a,b,6,rfl,g,by decide,by decide,λx B A H F r=>⟨_,_,rfl,i _ ⟨B,A,_,⟨r,by lia,by lia⟩,rfl⟩⟩⟩
 clear g a b;rintro _ ⟨a,b,s,⟨g,Y,s1⟩,rfl⟩;refine aI (λd=>∃(a b q:Int),(Wl a b/\Iz s q)/\d=f7 a b s q [none,none,none,none]) (λN i=>?_) ?_
 .fin2;refine⟨iF (by decide) (by decide) (by decide),aH (n:=2) (m:=20) (by decide) (by decide) (by decide),aj (by simp),?_⟩;refine⟨a,b,3,rfl,g,by decide,by decide,λx B A H F r=>⟨_,_,rfl,?_⟩⟩;fin2;obtain⟨w,e,ZU⟩:=Xe (x:=.int 25) (y:=.int 1001) (z:=.int (2*10^6+1)) H F;refine⟨w,e,?_⟩;rcases ZU with rfl|rfl|rfl
  .exact i _ ⟨B,A,25,⟨r,.inl ⟨rfl,by lia,by lia⟩⟩,rfl⟩
  .exact i _ ⟨B,A,1001,⟨r,.inr (.inl ⟨rfl,by lia,by lia⟩)⟩,rfl⟩
  .exact i _ ⟨B,A,2000001,⟨r,.inr (.inr ⟨rfl,Y,s1⟩)⟩,rfl⟩
 clear g a b Y s1;rintro _ ⟨a,b,q,⟨g,M⟩,rfl⟩;refine aI (λd=>∃(a b s q:Int),(Wl a b/\Iz s q)/\d=f7 a b s q [none,none,none,none]) (λN i=>?_) ?_
 .fin2;refine⟨a,b,8,rfl,g,by decide,by decide,λx B A H F r=>⟨_,_,rfl,?_⟩⟩;fin2;split
  .refine⟨B,A,3,rfl,r,by decide,by decide,λy a2 b2 y0 y1 sZ=>⟨_,_,rfl,?_⟩⟩;exact i _ ⟨a2,b2,_,25,⟨sZ,.inl ⟨rfl,by lia,by lia⟩⟩,rfl⟩
  .exact i _ ⟨B,A,s,q,⟨r,M⟩,rfl⟩
 clear g a b M s q;rintro _ ⟨a,b,s,q,⟨g,M⟩,rfl⟩;obtain⟨Y,s9,q0,q1⟩:1<=s/\s<=9/\0<q/\q<2^30:=by
  rcases M with⟨rfl,S,O⟩|⟨rfl,S,O⟩|⟨rfl,S,O⟩
  .exact⟨S,O,by decide,by decide⟩
  .exact⟨S,by lia,by decide,by decide⟩
  .exact⟨S,by lia,by decide,by decide⟩
 refine aI (λd=>∃(a b:Int)(c:List Int),(Wl a b/\(c.length:Int)=s/\∀x∈c,x.natAbs<=(q.fdiv 2).natAbs)/\d=f7 a b s q [some (wI c),none,none,none]) (λN i=>?_) ?_
 .fin2;refine⟨by lia,by lia,?_⟩;refine zk (λj E ε=>∃(a b:Int)(c:List Int),(Wl a b/\c.length=j/\∀x∈c,x.natAbs<=(q.fdiv 2).natAbs)/\E=c.map W.int/\ε=f7 a b s q [none,none,none,none]) ?_ _ 0 [] _ ?_ ⟨a,b,[],⟨g,rfl,by simp⟩,rfl,rfl⟩ ?_ ?_
  .rintro j E ε ⟨a,b,c,⟨_,C,_⟩,rfl,_⟩;rw[Ap,C]
  .rw[wN];lia
  .clear g a b;rintro j w E _ K hj ⟨a,b,c,⟨g,C,I⟩,rfl,rfl⟩ hK;fin2;refine⟨a,b,q,rfl,g,q0,q1,λx B A H F r=>⟨_,_,rfl,?_⟩⟩;fin2;refine⟨⟨by decide,by decide⟩,rfl,hK _ _ ⟨B,A,c++[x -q.fdiv 2],⟨r,by rw[GM,C];rfl,λy hy=>?_⟩,by rw[l4];rfl,rfl⟩⟩;rcases Ha.mp hy with h|h
   .exact I y h
   .rw[Do.mp h];rcases M with⟨rfl,_⟩|⟨rfl,_⟩|⟨rfl,_⟩
    .rw[show e9 25 2=12 from rfl];lia
    .rw[show e9 1001 2=500 from rfl];lia
    .rw[show e9 2000001 2=1000000 from rfl];lia
  .rintro E _ ⟨a,b,c,⟨g,C,I⟩,rfl,rfl⟩;rw[wN,i5]at C;exact i _ ⟨a,b,c,⟨g,by lia,I⟩,rfl⟩
 clear g a b;rintro _ ⟨a,b,c,⟨g,C,I⟩,rfl⟩;obtain⟨t,y,rfl⟩:=wO (R:=c) (by lia);have lt:∀z:Int,(t++[z]).length=t.length+1:=λz=>GM;refine aI (λd=>∃(c:List Int),((c.length:Int)=s/\oH c 20)/\d=f7 a b s q [some (wI c),none,none,none]) (λN i=>?_) ?_
 .have T:∀z:Int,z≠0->z.natAbs<=(q.fdiv 2).natAbs->N (f7 a b s q [some (wI (t++[z])),none,none,none]):=λz z0 bz=>by
   have P:((t++[z]).length:Int)=s:=by rw[lt]at C⊢;exact C
   have D:=Mm M P (λx hx'=>by
    rcases Ha.mp hx' with h|h
    .exact I x (X2 _ h)
    .rw[Do.mp h];exact bz) (by
    rw[lt,HI,AC,Jn (D2 _),oT];exact z0)
   exact i _ ⟨_,⟨P,D⟩,rfl⟩
  have eL:nB ((t++[y]).map W.int) (-1)=some (.int y):=j6 (by rw[ij,rn];rfl);by_cases z:y=0
  .have U:=T 1 (by decide) (by rcases M with⟨rfl,_⟩|⟨rfl,_⟩|⟨rfl,_⟩<;>decide);unfold wI at U⊢;fin2;refine⟨_,eL,?_⟩;fin2;rw[Bi (FV z)];refine⟨t.length,?_,?_⟩
   .rw[Ap,lt];unfold xR;rw[BM (by decide),Bi (by show-((t.length+1:Nat):Int)<=-1;lia)];show some ((-1:Int)+((t.length+1:Nat):Int)).toNat=some t.length;congr 1;lia
   .have e:((t++[y]).map W.int).set t.length (.int 1)=(t++[1]).map W.int:=by rw[l4,l4,List.set_append_right _ _ (by simp)];simp
    rw[e];exact U
  .have U:=T y z (I y (IH _ (Do.mpr rfl)));unfold wI at U⊢;fin2;refine⟨_,eL,?_⟩;fin2;rw[BM (by rw[Kj];exact z)];exact U
 clear C I;rintro _ ⟨c,⟨C,D⟩,rfl⟩;have n0:=D.n0;refine aI (λd=>∃(a b p:Int),(Wl a b/\0<=p/\p<6)/\d=f7 a b s q [some (wI c),some (.int p),none,none]) (λN i=>?_) ?_
 .fin2;exact⟨a,b,6,rfl,g,by decide,by decide,λx B A H F r=>⟨_,_,rfl,i _ ⟨B,A,_,⟨r,H,F⟩,rfl⟩⟩⟩
 clear g a b;rintro _ ⟨a,b,p,⟨g,p0,p6⟩,rfl⟩;refine aI (λd=>d=f7 a b s q [some (wI c),some (.int p),none,none]) (λN i=>?_) ?_
 .fin2;refine⟨iF (by decide) (by decide) (by decide),?_⟩;split
  .exact hq c 20 a b D g
  .exact i _ rfl
 rintro _ rfl;refine aI (λd=>∃(a b:Int)(c:List Int)(k:Nat)(Z:Option W),(Wl a b/\oH c k)/\d=f7 a b s q [some (wI c),some (.int p),Z,none]) (λN i=>?_) ?_
 .fin2;split;rotate_left
  .exact i _ ⟨a,b,c,20,none,⟨g,D⟩,rfl⟩
  rename_i O
  have O:=D1 O;split;rotate_left
  .exact i _ ⟨a,b,c,20,none,⟨g,D⟩,rfl⟩
  rename_i h6
  have h6:=D1 h6;refine⟨a,b,13,rfl,g,by decide,by decide,λx a1 b1 H F J=>⟨_,_,rfl,?_⟩⟩;fin2;refine⟨a1,b1,4,rfl,J,by decide,by decide,λy a3 b3 y0 y1 ZU=>⟨_,_,rfl,aj (by simp),?_⟩⟩;fin2;have T:∀(l:List Int),2<=l.length->l.length<=3->(∀x∈l,x.natAbs<2^3)->l.getD (l.length -1) 0≠0->zj [wI l,wI l] (λw=>zj [wI c,w] (λw=>VL.flat .f w=true/\N (f7 a3 b3 s q [some w,some (.int p),some (wI l),none])) λ_=>False) λ_=>False:=λl p2 p3 X pz=>by have lp:(zh l l).length=l.length+l.length -1:=oG ..;have b2:=CP (k:=2) X X (by lia);refine⟨l,l,rfl,⟨by lia,by lia,by lia,by lia,λu L v o=>aH (X u L) (X v o) (by decide)⟩,?_⟩;refine⟨c,zh l l,rfl,⟨n0,by lia,by lia,by lia,λu L v o=>aH (n:=21) (m:=9) (GE (D.bd u L) (TB (by decide) (by lia))) (GE (b2 v o) (by decide)) (by decide)⟩,?_⟩;exact⟨ZT _,i _ ⟨a3,b3,_,33,some (wI l),⟨ZU,IA D (by lia) p2 p3 X pz⟩,rfl⟩⟩
  by_cases hz:p=0
  .rw[Bi (FV hz)];refine⟨_,rfl,?_⟩;have:=T [x -6,1+y] (by simp) (by simp) (λv o=>by
    rcases Fh.mp o with rfl|o
    .lia
    .rw[Do.mp o];lia) (by show 1+y≠0;lia)
   exact this
  .rw[BM (by rw[Kj];exact hz)];have:=T [x -6,1+y,p] (by simp) (by simp) (λv o=>by
    rcases Fh.mp o with rfl|o
    .lia
    rcases Fh.mp o with rfl|o
    .lia
    .rw[Do.mp o];lia) hz
   exact this
 clear g a b;rintro _ ⟨a,b,c,k,Z,⟨g,D⟩,rfl⟩;refine aI (λd=>∃(a b:Int)(c:List Int)(k:Nat)(o6:Option W),(Wl a b/\oH c k)/\d=f7 a b s q [some (wI c),some (.int p),Z,o6]) (λN i=>?_) ?_
 .fin2;split
  .refine⟨a,b,9,rfl,g,by decide,by decide,λx a1 b1 H F J=>⟨_,_,rfl,?_⟩⟩;refine⟨aj (by simp),aH (n:=10) (m:=10) (by lia) (by decide) (by decide),aj (by simp),?_⟩;refine⟨[-1,1+x],[-1001,(1+x)*1000],rfl,⟨show 0<2 by decide,show 0<2 by decide,by simp,by simp,λu L v o=>?_⟩,i _ ⟨a1,b1,_,33,some (.int (1+x)),⟨J,Mn (by lia) (by lia)⟩,rfl⟩⟩;refine aH (n:=10) (m:=20) ?_ ?_ (by decide)
   .rcases Fh.mp L with rfl|L
    .decide
    .rw[Do.mp L];lia
   .rcases Fh.mp o with rfl|o
    .decide
    .rw[Do.mp o];lia
  .exact i _ ⟨a,b,c,k,none,⟨g,D⟩,rfl⟩
 clear g a b;rintro _ ⟨a,b,c,k,o6,⟨g,D⟩,rfl⟩;fin2;exact hq c k a b D g
theorem Oc{ns:List Int}{c:Rat}{C:List (List Rat)}{lo hi:Rat}{v:Int}(P:Rp (qI ns))(g:c≠0)(k:Cc (iO c (qI ns)) C)(h:Cn ns lo hi v):v=(bV C lo:Int) -bV C hi:=by
 obtain⟨a,n,f,b,e⟩:=h;have l:Rp (iO c (qI ns)):=⟨gX g P.z,by rw[fD];exact P.l2⟩;have d:c*c⁻¹=1:=SB c g;have i:c⁻¹≠0:=λz=>by rw[z,Qb]at d;exact absurd d (by decide+kernel)
 have j:iO a (qI ns)=iO (a*c⁻¹) (iO c (qI ns)):=by
  unfold iO;rw[SL];refine cq λx _=>?_;show a*x=a*c⁻¹*(c*x);have:a*c⁻¹*(c*x)=a*(c*c⁻¹)*x:=by grind
  rw[this,d,kb]
 rw[j]at b;have m:=λx=>Cc.scaled l (λz=>(L9.mp z).elim f i) k b x;rw[e,m,m]
theorem Tc{ns:List Int}{X:Nat}{x:Rat}(n:0<ns.length)(f:ns.getD (ns.length -1) 0≠0)(h:w4 ns X)(j:BX x (X:Rat)):BX (ev x (qI ns)) (((ns.getD (ns.length -1) 0).natAbs:Nat):Rat):=by
 generalize b:ns.getD (ns.length -1) 0=l at*;have g:(0:Rat)<((l.natAbs:Nat):Rat):=kz.mpr (by lia);refine Gx (M:=((l.natAbs:Nat):Rat)*(X:Rat) -((l.natAbs:Nat):Rat)) (B:=(X:Rat)) g (by grind) Re j (c:=(l:Rat)) ?_ ?_ λr k=>?_
 .show(ns.map _).getLast?=_;rw[ij,IR,<-b,AC,B1 (by lia)];rfl
 .unfold BX;rcases ui f with z|z
  .right;have e:(l.natAbs:Int)= -l:=by lia
   show _<=-(((l.natAbs:Nat):Int):Rat);rw[e,N3];grind
  .left;have e:(l.natAbs:Int)=l:=by lia
   show(((l.natAbs:Nat):Int):Rat)<=_;rw[e];exact lx
 .obtain⟨y,i,rfl⟩:=Hb.mp k;have d:=h y i;rw[b]at d;have a:(((y.natAbs:Int)+(l.natAbs:Int):Int):Rat)<=(((l.natAbs:Int)*(X:Int):Int):Rat):=TK.mpr d;rw[i4,Fm]at a;have a:((y.natAbs:Nat):Rat)+((l.natAbs:Nat):Rat)<=((l.natAbs:Nat):Rat)*(X:Rat):=a;have m:ab (y:Rat) ((y.natAbs:Nat):Rat):=Js.mpr (D2 _);exact cO m (by grind)
theorem IB{ns:List Int}{c:Rat}{C:List (List Rat)}{X:Nat}{lo hi:Rat}(P:Rp (qI ns))(j:0<ns.length)(i:ns.getD (ns.length -1) 0≠0)(m:c≠0)(f:Cc (iO c (qI ns)) C)(l:w4 ns X)(e:lo<hi)(k:∀x,In lo hi x->BX x (X:Rat)):bV C lo=bV C hi:=by
 have g:Rp (iO c (qI ns)):=⟨gX m P.z,by rw[fD];exact P.l2⟩;have d:(0:Rat)<(((ns.getD (ns.length -1) 0).natAbs:Nat):Rat):=kz.mpr (by lia);have F:=λx a=>Tc j i l (k x a);generalize(((ns.getD (ns.length -1) 0).natAbs:Nat):Rat)=L at*;by_cases h:0<c
 .refine f.yo g e (KM h d) λx a=>?_;rw[Gp];rcases F x a with z|z
  .exact .inl (GT z (Mo h))
  .have:=GT z (Mo h);exact .inr (by grind)
 .have b:0< -c:=by grind
  refine f.yo g e (KM b d) λx a=>?_;rw[Gp];rcases F x a with z|z
  .have:=GT z (Mo b);exact .inr (by grind)
  .have:=GT z (Mo b);exact .inl (by grind)
theorem Xf{ns:List Int}{c:Rat}{C:List (List Rat)}{X F:Nat}(P:Rp (qI ns))(f:0<ns.length)(e:ns.getD (ns.length -1) 0≠0)(j:c≠0)(i:Cc (iO c (qI ns)) C)(b:w4 ns X)(g:w4 ns F):bV C (X:Rat)=bV C (F:Rat)/\bV C (-(X:Rat))=bV C (-(F:Rat)):=by
 have a:∀{X F:Nat},X<F->w4 ns X->bV C (X:Rat)=bV C (F:Rat)/\bV C (-(X:Rat))=bV C (-(F:Rat)):=λ{X F} h b=>by have k:(X:Rat)<(F:Rat):=Rat.natCast_lt_natCast.mpr h;refine⟨IB P f e j i b k λx d=>.inl d.1,?_⟩;exact(IB P f e j i b (show-(F:Rat)< -(X:Rat) by grind) λx d=>.inr d.2).symm
 rcases d3 X F with h|h|h
 .exact a h b
 .rw[h];exact⟨rfl,rfl⟩
 .exact⟨(a h g).1.symm,(a h g).2.symm⟩
def CQ(ns:List Int):Nat:=(ns.map M6).sum
theorem IC:∀{ns:List Int}{y:Int},y∈ns->y.natAbs<=CQ ns
 |x::ns,y,h=>by
  show y.natAbs<=x.natAbs+CQ ns;rcases Fh.mp h with rfl|h
  .exact XB _ _
  .exact Bz (IC h) (sk _ _)
theorem ID{M:Nat}:∀{ns:List Int},(∀y∈ns,y.natAbs<=M)->CQ ns<=ns.length*M
 |[],_=>Iy _
 |x::ns,h=>by show x.natAbs+CQ ns<=_;have:=ID (ns:=ns) λy a=>h y (DL _ a);have:=h x Dx;rw[A3,tf];lia
theorem Mp{ns:List Int}(c:ns.getD (ns.length -1) 0≠0):w4 ns (2+CQ ns):=λy b=>by
 have f:=IC b;generalize(ns.getD (ns.length -1) 0)=l at*;have a:1<=(l.natAbs:Int):=by lia
 have d:(CQ ns:Int)<=l.natAbs*CQ ns:=by have:=kA a (show 0<=(CQ ns:Int) by lia);lia
 have e:((2+CQ ns:Nat):Int)=2+(CQ ns:Int):=by lia
 rw[e,w8];lia
noncomputable def X3(ns:List Int)(l:List (Rat×Rat)):Prop:=(ns.length=1/\l=[])\/(2<=ns.length/\Tl ns l)
theorem sF{ns:List Int}{b:Nat}{t d:Int}{Q:W->Prop}{R:Addr->Prop}(D:oH ns b)(i:t≠0)(g:t.natAbs<=3)(c:0<d)(e:d<=9)(h:∀l,X3 ns l->Q (.lst (l.map kC))):gj [dh (gi ns t d)] Q R:=by
 refine⟨ns,t,d,rfl,?_⟩;have n0:=D.n0;have l9:=D.l9;by_cases a:2<=ns.length
 .exact .inr ⟨⟨⟨b,k44 D a,D.Ui⟩,l9,i,g,c,d44 c e⟩,λl f=>h l (.inr ⟨a,f⟩)⟩
 .exact .inl ⟨by lia,h [] (.inl ⟨by lia,rfl⟩)⟩
where
 k44 {ns:List Int} {b:Nat} (D:oH ns b) (a:2<=ns.length):Mh ns b:=by have l9:=D.l9;have Ui:=D.Ui;refine⟨a,by lia,D.nz,D.bd,?_⟩;have:(b+10)*(2*ns.length -2)<=43*16:=Kx (by lia) (by lia);lia
 d44 {d:Int} (c:0<d) (e:d<=9):d.natAbs<2^100:=GE (show d.natAbs<=9 by lia) (by decide)
theorem X3.told{ns:List Int}{l:List (Rat×Rat)}{b:Nat}{Q:W->Prop}{R:Addr->Prop}(D:oH ns b)(h:X3 ns l)(q:Q (.bl true)):m5 [.lst (l.map kC)] Q R:=by
 rcases h with⟨_,rfl⟩|⟨l2,⟨c,C,X,N,g,f,m,j,k,d⟩⟩
 .exact⟨[],0,rfl,⟨by simp,by decide,λp e=>(by cases e),.nil⟩,q⟩
 .have P:Rp (qI ns):=⟨ju D.nz,by rw[cu];exact l2⟩;have i:Rp (iO c (qI ns)):=⟨gX g P.z,by rw[fD];exact P.l2⟩;have few:=f.few i (-(X:Rat));rw[fD,cu]at few;have l9:=D.l9;have len:=d.len;exact⟨l,N,rfl,⟨by lia,by lia,λp e=>let⟨a,_,b,c,_⟩:=d.all p e;⟨a,b,c⟩,d.pw⟩,q⟩
theorem Od{ns:List Int}{b:Nat}{t d:Int}{lo hi:Rat}{v:Int}{Q:W->Prop}{R:Addr->Prop}(D:oH ns b)(g:t≠0)(f:t.natAbs<=3)(e:0<d)(k:d<=9)(l:Bx lo)(m:Bx hi)(j:ns.length=1->v=0)(i:2<=ns.length->∀w,Cn ns lo hi w->w=v)(q:Q (.int v)):wY [dh (gi ns t d),wq lo,wq hi] Q R:=by
 refine⟨ns,t,d,lo,hi,rfl,?_⟩;have n0:=D.n0;by_cases a:2<=ns.length
 .exact .inr ⟨⟨⟨b,sF.k44 D a⟩,g,f,e,sF.d44 e k,l,m⟩,λw h=>by rw[i a w h];exact q⟩
 .have c:ns.length=1:=by lia
  rw[j c]at q;exact .inl ⟨c,q⟩
noncomputable def iu:List CS:=[.mD 1 (.pI 0 0 []),.mD 2 (.call 1 [(.bin .Add (.int 1) (.pI 0 2 [(.int 3)])),(.bin .Add (.int 1) (.pI 0 2 [(.int 9)]))]),.T4 (.or [(.cmp .Eq (.pI 0 2 [(.int 2)]) (.int 0)),(.cmp .Gt (.blt .max2 [(.comp [0] true 1 (.var 1) (.bl true) (.blt .abs [(.var 0)]))]) (.bin .Pow (.int 10) (.int 5)))]) [.mD 2 (.tup [(.neg (.int 1)),(.bin .Add (.int 1) (.pI 0 2 [(.int 9)]))])] [],.set 3 (.comp [0] true 1 (.var 1) (.bl true) (.call 1 [(.bin .Mult (.var 0) (.ix (.var 3) (.int 0))),(.ix (.var 3) (.int 1))])),.set 4 (.blt .list [(.var 3)]),.set 5 (.call 3 [(.var 4)]),.iff (.or [(.not (.B6 [5] (.call 4 [(.var 5)]))),(.cmp .NotEq (.var 4) (.var 3))]) [.B7 (.bl false)] [],.iff (.not (.blt .all [(.comp [0,1] false 2 (.var 5) (.bl true) (.cmp .Eq (.call 5 [(.var 5),(.var 0),(.var 1)]) (.int 1)))])) [.B7 (.bl false)] [],.set 6 (.bin .Add (.int 2) (.blt .sum [(.comp [0] true 1 (.var 1) (.bl true) (.blt .abs [(.var 0)]))])),.iff (.cmp .NotEq (.call 5 [(.var 3),(.tup [(.bin .Sub (.int 0) (.var 6)),(.int 1)]),(.tup [(.var 6),(.int 1)])]) (.blt .len [(.var 5)])) [.B7 (.bl false)] [],.set 7 (.blt .list [(.var 5)]),.app 5 .bu,.B7 (.or [(.cmp .Eq (.call 3 [(.var 4)]) (.var 7)),(.call 4 [(.call 3 [(.var 4)])])])]
noncomputable def jN:aZ:=λe Q _=>∃(a b:Int),e=[wW a b]/\Wl a b/\∀d c,Wl d c->Q (.tup [.bl true,wW d c])
abbrev g8(a b:Int)(ns:List Int)(t d:Int)(l:Ev):Ev:=some (wW a b)::some (wI ns)::some (.tup [.int t,.int d])::l
abbrev h8(a b:Int)(ns:List Int)(t d:Int)(l:Ev):Ev:=g8 a b ns t d (some (dh (gi ns t d))::some (dh (gi ns t d))::l)
theorem Ek{G:Nat->W}{m:Md}(ws:List W)(Q:W->Prop)(R:Addr->Prop)(h:jN ws Q R):wSs (cG [m6,SI,u7,gj,m5,wY]) G iu (bN (.io m) Q R) (ao 8 ws):=by
 obtain⟨a,b,rfl,o,hq⟩:=h;show wSs _ _ iu _ [some (wW a b),none,none,none,none,none,none,none];unfold iu;refine aI (λf=>∃(a b:Int)(j:List Int)(k:Nat),(Wl a b/\oH j k)/\f=[some (wW a b),some (wI j),none,none,none,none,none,none]) (λN i=>?_) ?_
 .fin2;exact⟨a,b,rfl,o,λj k a' b' D sY=>⟨_,_,rfl,i _ ⟨a',b',j,k,⟨sY,D⟩,rfl⟩⟩⟩
 clear o a b;rintro _ ⟨a,b,j,k,⟨o,D⟩,rfl⟩;have n0:=D.n0;have l9:=D.l9;refine aI (λf=>∃(a b t d:Int),(Wl a b/\t≠0/\t.natAbs<=3/\0<d/\d<=9)/\f=g8 a b j t d [none,none,none,none,none]) (λN i=>?_) ?_
 .fin2;refine⟨a,b,3,rfl,o,by decide,by decide,λx U T x0 x1 u=>⟨_,_,rfl,?_⟩⟩;fin2;refine⟨U,T,9,rfl,u,by decide,by decide,λy a2 b2 y0 y1 Z=>⟨_,_,rfl,?_⟩⟩;fin2;refine⟨1+x,1+y,4,rfl,by decide,by lia,by lia,?_⟩;obtain⟨h1,h2⟩:=pT (1+x) (1+y) (by lia);have Y:=(C0 (1+x) (1+y)).den_pos;refine i _ ⟨a2,b2,_,_,⟨Z,λz=>?_,by lia,by lia,by lia⟩,rfl⟩;have z:=XO.mp z;have e:=Rat.div_mul_cancel (a:=((1+x:Int):Rat)) (Mc (show 1+y≠0 by lia));rw[<-lh,z,dC]at e;have:=Gc.mp e.symm;lia
 clear o a b;rintro _ ⟨a,b,t,d,⟨o,hh⟩,rfl⟩;refine aI (λf=>∃(a b t d:Int),(Wl a b/\t≠0/\t.natAbs<=3/\0<d/\d<=9)/\f=g8 a b j t d [none,none,none,none,none]) (λN i=>?_) ?_
 .fin2;refine⟨a,b,2,rfl,o,by decide,by decide,λx U T x0 x1 u=>⟨_,_,rfl,?_⟩⟩;have s:u7 [wW U T,.int 9] (λr=>∃w y,r=.tup [w,y]/\gY .Add (.int 1) w λz=>[W.int (-1),z].length<=sizeLine/\N [some y,some (wI j),some (.tup [.int (-1),z]),none,none,none,none,none]) λ_=>False:=by refine⟨U,T,9,rfl,u,by decide,by decide,λy a2 b2 y0 y1 Z=>⟨_,_,rfl,?_⟩⟩;fin2;exact⟨aj (by simp),i _ ⟨a2,b2,_,_,⟨Z,by decide,by decide,by lia,by lia⟩,rfl⟩⟩
  unfold wI at s i⊢;fin2;split
  .exact s
  .refine cF (h:=W.int) (g:=λy=>.int (if y<0 then-y else y)) j [] _ (λy hy K B=>B) (aj (by simp;lia)) ?_;refine⟨j.map λy=>(if y<0 then-y else y),by rw[EY,SL];rfl,λz=>by rw[ml]at z;rw[z]at n0;exact absurd n0 (by decide),λm _ _=>⟨iF (by decide) (by decide) (by decide),?_⟩⟩;fin2;split
   .exact s
   .exact i _ ⟨U,T,t,d,⟨u,hh⟩,rfl⟩
 clear o a b hh t d;rintro _ ⟨a,b,t,d,⟨o,L,J,O,M⟩,rfl⟩;refine aI (λf=>f=g8 a b j t d [some (dh (gi j t d)),none,none,none,none]) (λN i=>?_) ?_
 .have i:=i _ rfl;unfold g8 wI at i⊢;fin2;refine cF (h:=W.int) (g:=λy=>wq (C0 (y*t) d)) j [] _ (λy hy K B=>?_) (aj (by simp;lia)) ?_
  .fin2;refine⟨_,rfl,?_⟩;fin2;have Ui:=D.Ui;exact⟨aH (n:=35) (m:=2) (GE (D.bd y hy) (TB (by decide) (by lia))) (by lia) (by decide),_,rfl,y*t,d,4,rfl,by decide,by lia,by lia,B⟩
  .unfold gi dh at i;rw[SL]at i;exact i
 rintro _ rfl;refine aI (λf=>f=h8 a b j t d [none,none,none]) (λN i=>?_) ?_
 .have i:=i _ rfl;unfold dh at i⊢;fin2;exact i
 rintro _ rfl;refine aI (λf=>∃l,X3 j l/\f=h8 a b j t d [some (.lst (l.map kC)),none,none]) (λN i=>?_) ?_
 .fin2;exact sF D L J O M λl A=>i _ ⟨l,A,rfl⟩
 rintro _ ⟨l,A,rfl⟩;have Ue:l.length<=30:=by
  rcases A with⟨_,rfl⟩|⟨l2,⟨c,C,X,N,H,E,fx,x2,i,I⟩⟩
  .exact Iy _
  .have P:Rp (qI j):=⟨ju D.nz,by rw[cu];exact l2⟩;have Pc:Rp (iO c (qI j)):=⟨gX H P.z,by rw[fD];exact P.l2⟩;have few:=E.few Pc (-(X:Rat));rw[fD,cu]at few;have len:=I.len;lia
 refine aI (λf=>f=h8 a b j t d [some (.lst (l.map kC)),none,none]) (λN i=>?_) ?_
 .fin2;refine A.told D ⟨rfl,?_⟩;fin2;rw[BM (by decide)];refine Su λk hk=>?_;cases mT hk rfl;fin2;exact i _ rfl
 rintro _ rfl;refine aI (λf=>f=h8 a b j t d [some (.lst (l.map kC)),none,none]) (λN i=>?_) ?_
 .fin2;refine cF (h:=kC) (g:=λ_=>.bl true) l [] _ (λp hp K B=>?_) (aj (by simp;lia)) ?_
  .unfold kC;fin2;refine⟨rfl,?_⟩;rcases A with⟨_,rfl⟩|⟨l2,⟨c,C,X,N,H,E,fx,x2,i,I⟩⟩
   .cases hp
   .have P:Rp (qI j):=⟨ju D.nz,by rw[cu];exact l2⟩;obtain⟨h1,h2,Y,h4,_⟩:=I.all p hp;refine Od (v:=1) D L J O M ⟨N,by lia,Y.1,Y.2⟩ ⟨N,by lia,h4.1,h4.2⟩ (λz=>by lia) (λ_ w hc=>?_) ?_
    .rw[Oc P H E hc];lia
    .fin2;exact B
  .refine⟨l.map λ_=>true,by rw[EY,SL];rfl,?_⟩;have e:(l.map λ_=>true).all id=true:=by rw[KB];intro x hx;obtain⟨_,_,rfl⟩:=Hb.mp hx;rfl
   rw[e];fin2;rw[BM (by decide)];exact i _ rfl
 rintro _ rfl;obtain⟨F,hF⟩:∃F,F=2+CQ j:=⟨_,rfl⟩;refine aI (λf=>f=h8 a b j t d [some (.lst (l.map kC)),some (.int (F:Int)),none]) (λN i=>?_) ?_
 .have i:=i _ rfl;unfold h8 g8 wI at i⊢;fin2;refine cF (h:=W.int) (g:=λy=>.int (if y<0 then-y else y)) j [] _ (λy hy K B=>B) (aj (by simp;lia)) ?_;refine⟨j.map λy=>(if y<0 then-y else y),by rw[EY,SL];rfl,?_⟩;have es:∀j:List Int,(j.map λy=>(if y<0 then-y else y)).sum=(CQ j:Int):=λj=>by
   induction j with
   |nil=>rfl
   |cons y j ih=>rw[N0,List.sum_cons,ih];show _=((y.natAbs+CQ j:Nat):Int);split<;>lia
  fin2;rw[es,show(2:Int)+(CQ j:Int)=(F:Int) by lia];exact i
 rintro _ rfl;have bF:F<2^40:=by
  have h1:=ID D.bd;have h2:j.length*2^k<=9*2^33:=Kx l9 (FM (by decide) D.Ui);have Y:(9:Nat)*2^33=77309411328:=by decide
  have h4:(2:Nat)^40=1099511627776:=by decide
  lia
 have S:∀z:Int,z.natAbs<=F->Bx ((z:Int):Rat):=λz hz=>⟨40,by decide,GE hz bF,by show 1<2^40;decide⟩;refine aI (λf=>f=h8 a b j t d [some (.lst (l.map kC)),some (.int (F:Int)),none]) (λN i=>?_) ?_
 .fin2;refine⟨aj (by simp),aj (by simp),?_⟩;have e0:(((0 -(F:Int):Int)):Rat)= -(F:Rat):=by rw[eu];exact N3 F
  refine Od (lo:=((0 -(F:Int):Int):Rat)) (hi:=((F:Int):Rat)) (v:=(l.length:Int)) D L J O M (S _ (by lia)) (S _ (by lia)) (λz=>?_) (λl2 w hc=>?_) ?_
  .rcases A with⟨_,rfl⟩|⟨l2,_⟩
   .rfl
   .lia
  .rcases A with⟨z,_⟩|⟨_,⟨c,C,X,N,H,E,fx,x2,i,I⟩⟩
   .lia
   .have P:Rp (qI j):=⟨ju D.nz,by rw[cu];exact l2⟩;have v:=Xf P n0 D.nz H E fx (Mp D.nz);rw[<-hF]at v;have o:=Oc P H E hc;have len:=I.len;rw[e0]at o;have o:w=(bV C (-(F:Rat)):Int) -bV C (F:Rat):=o;rw[<-v.1,<-v.2]at o;lia
  .fin2;rw[Ap,BM (by simp)];exact i _ rfl
 rintro _ rfl;refine aI (λf=>f=h8 a b j t d [some (.lst (l.map kC)),some (.int (F:Int)),some (.lst (l.map kC))]) (λN i=>?_) ?_
 .fin2;exact i _ rfl
 rintro _ rfl;refine aI (λf=>f=h8 a b j t d [some (.lst (l.map kC++[.bu])),some (.int (F:Int)),some (.lst (l.map kC))]) (λN i=>?_) ?_
 .fin2;exact⟨wH (by rw[Ap];lia),i _ rfl⟩
 rintro _ rfl;have pl:∀l:List (Rat×Rat),zu 9 (.lst (l.map kC))=true:=λl=>KB.mpr λw o=>by obtain⟨e,_,rfl⟩:=Hb.mp o;rfl
 fin2;refine sF D L J O M λl' hl'=>⟨.inl ⟨pl l',pl l⟩,λq _=>?_⟩;cases q with
 |true=>fin2;exact hq a b o
 |false=>fin2;show gj _ (λx=>m5 [x] (λw=>Q (.tup [w,wW a b])) R) R;exact sF D L J O M λl3 hl3=>hl3.told D (hq a b o)
noncomputable def qi:CS:=.fr [1] true (.ny [(.blt .max2 [(.int 1),(.blt .min2 [(.blt .len [(.var 0)]),(.int 4)])])]) [.iff (.not (.P4 0 (.call 1 [(.var 0),(.var 1)]) [])) [.ret (.bl false)] []]
theorem Mq{G:Nat->W}{ns:List Int}{D:Dn}(k:∀ε,(∃o,ε=[some (.gB ns),o,none,none])->D.nx ε):wS (cG [jN,CK]) G qi D [some (.gB ns),none,none,none]:=by
 unfold qi;obtain⟨c,q,e⟩:∃c:Nat,c<=4/\(if(if(4:Int)<(ns.length:Int)then(4:Int)else(ns.length:Int))>1 then(if(4:Int)<(ns.length:Int)then(4:Int)else(ns.length:Int))else 1)=(c:Int):=by
  by_cases g:(4:Int)<(ns.length:Int)
  .exact⟨4,by decide,by rw[Bi g,Bi (by decide)];rfl⟩
  .rw[BM g];by_cases f:(ns.length:Int)>1
   .exact⟨ns.length,by lia,by rw[Bi f]⟩
   .exact⟨1,by decide,by rw[BM f];rfl⟩
 refine WZ (l:=jv 0 1 c) (λQ j=>?_) ?_
 .fin2;rw[e];exact⟨by lia,by lia,j⟩
 refine bG (λi ε=>∃o,ε=[some (.gB ns),o,none,none]) ⟨none,rfl⟩ ?_ (λε h=>k ε h);rintro i w _ N d ⟨o,rfl⟩ m;obtain⟨p,rfl⟩:=ou d;fin2;refine⟨ns,i,rfl,by lia,λa b d=>?_⟩;refine⟨a,b,rfl,d,λs r n=>⟨_,_,rfl,?_⟩⟩;fin2;exact m _ ⟨_,rfl⟩
noncomputable def AS:List CS:=[.iff (.cmp .Eq (.var 0) (.lst [])) [.raise 0 (.str "stretches of the row 0")] [],.KJ,.KJ]
def Oe(C:Addr):aZ:=λa _ R=>a=[dh []]/\R C
theorem Td{b:Nat->aZ}{C:Addr}{m:Md}(a:List W)(Q:W->Prop)(R:Addr->Prop)(h:Oe C a Q R):wSs b (nF [.cls C]) AS (bN m Q R) (ao 1 a):=by obtain⟨rfl,d⟩:=h;show wSs _ _ AS _ [some (dh [])];unfold AS;refine aI (λ_=>False) (λN e=>?_) (λ_ h=>h.elim);fin2;refine⟨aj (by simp),AD (x:=[]) (y:=[]) λk c=>?_⟩;cases mT c rfl;fin2;exact d
end VL
namespace VL
open PySem PySem.Spec
open PyProof.Rows hiding St
open L2
def CT(st:Stmt):List Str:=(cJ st).args.map (·.arg)
def ZV:NameKind->Bool
 |.local=>true
 |.cell=>true
 |_=>false
def X4(st:Stmt):List Str:=((af st).names.filter λy=>ZV y.2).map (·.1)
abbrev DT:=List (Str×Nat)
def Mr(DD:DT)(j:Nat):Str:=match DD[j]? with
 |some y=>y.1
 |none=>""
noncomputable def Mt(K:Frag)(a:Nat->Stmt):DT->Prop
 |[]=>True
 |(x,i)::l=>(Hd K x (a i)/\iS x x (a i) (CT (a i)))/\Mt K a l
noncomputable def Mu(K:Frag):List Str->Prop
 |[]=>True
 |x::l=>nsIn K mainGlobals x=some none/\Mu K l
structure TT(K:Frag)(mg:Str->Option Value)(tp:Nat->Stmt)(DD:DT)(ZZ:List Str)where
 f:Nat->Addr
 d:Nat->FuncData
 D:∀{j:Nat}{x:Str}{i:Nat},DD[j]?=some (x,i)->Df K mg x (tp i) (CT (tp i)) (f j) (d j)
 Z:∀x∈ZZ,mg x=none
section
variable{P:Program}{w:World}{K:Frag}{mg:Str->Option Value}{base:Heap}{tp:Nat->Stmt}{DD:DT}{ZZ:List Str}
theorem CU{h:Heap}(X:K.In h)(G:h.Ns mainGlobals mg):∀{DD:DT}{j:Nat}{x:Str}{i:Nat},Mt K tp DD->DD[j]?=some (x,i)->∃f a,Df K mg x (tp i) (CT (tp i)) f a
 |(y,n)::DD,0,x,i,h,e=>by
  cases e;exact WK X G h.1.1 h.1.2
 |(y,n)::DD,j+1,x,i,h,e=>CU X G (DD:=DD) h.2 e
theorem CV{h:Heap}(X:K.In h)(G:h.Ns mainGlobals mg):∀{ZZ:List Str},Mu K ZZ->∀x∈ZZ,mg x=none
 |y::ZZ,h,x,a=>by
  rcases Fh.mp a with e|a
  .rw[e];exact PySem.W.mg_none_of X G h.1
  .exact CV X G h.2 x a
open Classical in
theorem Xg{h:Heap}(X:K.In h)(G:h.Ns mainGlobals mg)(a:Mt K tp DD)(z:Mu K ZZ):Nonempty (TT K mg tp DD ZZ):=by
 have H:∀j:Nat,∃f b,∀x i,DD[j]?=some (x,i)->Df K mg x (tp i) (CT (tp i)) f b:=λj=>by
  cases e:DD[j]? with
  |none=>exact⟨0,fnOf "" "" (cJ (tp 0)) (aP (tp 0)) (af (tp 0)) .none .none .none .none none .none .none,λx i q=>nn q⟩
  |some y=>obtain⟨f,b,D⟩:=CU X G a e;exact⟨f,b,λx i q=>by cases q;exact D⟩
 exact⟨⟨λj=>choose (H j),λj=>choose (choose_spec (H j)),λ{j x i} e=>choose_spec (choose_spec (H j)) x i e,CV X G z⟩⟩
noncomputable def Cl(P:Program)(w:World)(K:Frag)(mg:Str->Option Value)(base:Heap)(DD:DT)(k j:Nat)(m:Md)(S:aZ):Prop:=∃c n b,mg (Mr DD j)=some c/\cU P w K mg base b c n (oV K n m S)/\b<=k/\∀a P R,S a P R->a.length=n
noncomputable def El(P:Program)(w:World)(K:Frag)(mg:Str->Option Value)(base:Heap)(DD:DT):List (Nat×Md×Nat)->List aZ->Prop
 |(j,m,k)::jc,S::Ss=>Cl P w K mg base DD k j m S/\El P w K mg base DD jc Ss
 |[],_=>True
 |_::_,[]=>False
theorem CW{k:Nat}:∀{a:List (Nat×Md×Nat)}{Ss:List aZ},El P w K mg base DD a Ss->a.all (λy=>decide (y.2.2<=k))=true->XW P w K mg base k (a.map λy=>Mr DD y.1) (a.map (·.2.1)) Ss
 |(j,m,k')::a,S::Ss,h,hk=>by rw[Gu,AN]at hk;obtain⟨f,n,k2,e,d,c,b⟩:=h.1;exact⟨⟨f,n,k2,e,d,Bz c (D1 hk.1),b⟩,CW h.2 hk.2⟩
 |[],_,_,_=>trivial
 |_::_,[],h,_=>h.elim
noncomputable def Gn(K:Frag)(mg:Str->Option Value)(x:Str)(u:W):Prop:=(∃v z,mg x=some v/\RelV z v/\∀B H,Rep K B H u z)/\∀C,u=.cls C->tD K C
noncomputable def Xh(K:Frag)(mg:Str->Option Value):List Str->List W->Prop
 |x::gn,u::Gs=>Gn K mg x u/\Xh K mg gn Gs
 |[],_=>True
 |_::_,[]=>False
theorem Te{x:Str}{i:Int}(h:∃u,mg x=some u/\RelV (.int i) u):Gn K mg x (.int i):=by obtain⟨u,b,a⟩:=h;exact⟨⟨u,_,b,a,λ_ _=>by dsimp only[Rep]⟩,λC e=>by cases e⟩
theorem Tf{x:Str}{C:Addr}(h:mg x=some (.ref C))(e:tD K C):Gn K mg x (.cls C):=
 ⟨⟨_,.ref C,h,rfl,λ_ _=>by dsimp only[Rep]⟩,λa q=>by cases q;exact e⟩
theorem AU:∀{gn:List Str}{Gs:List W},Xh K mg gn Gs->∀(j:Nat)(x:Str),gn[j]?=some x->Gn K mg x (nF Gs j)
 |y::gn,u::Gs,h,0,x,e=>by
  cases e;exact h.1
 |y::gn,u::Gs,h,j+1,x,e=>AU (gn:=gn) h.2 j x e
 |_::_,[],h,_,_,_=>h.elim
 |[],_,_,_,_,e=>by cases e
theorem Xi{k:Nat}{a:List (Nat×Md×Nat)}{Ss:List aZ}{gn:List Str}{Gs:List W}(T:TT K mg tp DD ZZ)(h:El P w K mg base DD a Ss)(b:a.all (λy=>decide (y.2.2<=k))=true)(g:Xh K mg gn Gs):Tab P w K mg base (a.map λy=>Mr DD y.1) gn ZZ (a.map (·.2.1)) [] (cG Ss) (nF Gs) k:=
 ⟨λj x e _=>AK (CW h b) j x e,λ_ _ _ _ h=>(by cases h),λj x e=>(AU g j x e).1,T.Z,AB K,λj x C e q=>(AU g j x e).2 C q⟩
noncomputable def Of(ZZ:List Str)(st:Stmt)(a n:Nat)(M:Ms)(fn gn:List Str)(md:List Md)(b:List (Nat×Nat))(m:Md)(c:List CS):Bool:=
 decide (((af st).kind=.function/\(af st).isCoroutine=false/\(af st).isGenerator=false/\(X4 st).Nodup/\(X4 st).take (CT st).length=CT st)/\(∀x∈CT st,(af st).names.lookup x=some .local\/(af st).names.lookup x=some .cell)/\(∀y∈(af st).names,y.2≠.free)/\(CT st).length=a/\(X4 st).length=n/\(M.map (·.1)).Nodup)&&(M.all (λi=>decide (a<=i.1))&&!dO m&&c6 ⟨X4 st,(af st).names,M,fn,gn,ZZ,md,b⟩ (fF md) m c (aP st))
theorem ZW{e n j i:Nat}{x:Str}{M:Ms}{fn gn:List Str}{md:List Md}{l:List (Nat×Nat)}{m:Md}{c:List CS}{h:Nat->aZ}{G:Nat->W}{k:Nat}{S:aZ}(T:TT K mg tp DD ZZ)(r:DD[j]?=some (x,i))(g:Of ZZ (tp i) e n M fn gn md l m c=true)(o:Tab P w K mg base fn gn ZZ md l h G k)(q:∀a P R,S a P R->a.length=e)(p:∀a Q R,S a Q R->wSs h G c (bN m Q R) (ao n a)):
 bK P w K mg base (ji P w) (k+1) (T.f j) (T.d j) (CT (tp i)) (oV K e m S):=by
 unfold Of at g;rw[AN,AN,AN]at g;obtain⟨v,⟨u,t⟩,s⟩:=g;obtain⟨⟨I,a2,a3,H,E⟩,C,B,z,y,A⟩:=D1 v;have b:dO m=false:=by simpa using t
 subst z y;have:=HR (T.D r).F ⟨I,a2,a3,H,E,C,B⟩ o c M m S u A b s q p;cases m<;>first|exact this|cases b
theorem IE{a j i k:Nat}{x:Str}{m:Md}{S:aZ}(T:TT K mg tp DD ZZ)(c:DD[j]?=some (x,i))(g:a=(CT (tp i)).length)(F:bK P w K mg base (ji P w) k (T.f j) (T.d j) (CT (tp i)) (oV K a m S))(h:∀b P R,S b P R->b.length=a):Cl P w K mg base DD k j m S:=by
 have e:Mr DD j=x:=by unfold Mr;rw[c]
 unfold Cl;rw[e];exact(T.D c).jc F g h (D2 k)
theorem Tg{a n:Nat}{st:Stmt}{M:Ms}{fn gn:List Str}{md:List Md}{b:List (Nat×Nat)}{m:Md}{c:List CS}(h:Of ZZ st a n M fn gn md b m c=true):a=(CT st).length:=by unfold Of at h;rw[AN]at h;exact(D1 h.1).2.2.2.1.symm
theorem Th{n j i:Nat}{x:Str}{Gs:List W}{m:Md}{c:List CS}{Ss:List aZ}{k:Nat}{S:aZ}(T:TT K mg tp DD ZZ)(q:DD[j]?=some (x,i))(e:Nat)(M:Ms)(b:List (Nat×Md×Nat))(gn:List Str)(p:∀a Q R,S a Q R->wSs (cG Ss) (nF Gs) c (bN m Q R) (ao n a))(h:El P w K mg base DD b Ss)(g:Xh K mg gn Gs)(l:(b.all (λy=>decide (y.2.2<=k))&&Of ZZ (tp i) e n M (b.map λy=>Mr DD y.1) gn (b.map (·.2.1)) [] m c)=true)(o:∀a P R,S a P R->a.length=e):bK P w K mg base (ji P w) (k+1) (T.f j) (T.d j) (CT (tp i)) (oV K e m S):=by rw[AN]at l;exact ZW T q l.2 (Xi T h l.1 g) o p
theorem Ti{n j i:Nat}{x:Str}{Gs:List W}{m:Md}{c:List CS}{Ss:List aZ}{k:Nat}{S:aZ}(T:TT K mg tp DD ZZ)(l:DD[j]?=some (x,i))(d:Nat)(M:Ms)(b:List (Nat×Md×Nat))(gn:List Str)(p:∀a Q R,S a Q R->wSs (cG Ss) (nF Gs) c (bN m Q R) (ao n a))(h:El P w K mg base DD b Ss)(g:Xh K mg gn Gs)(e:(b.all (λy=>decide (y.2.2<=k))&&Of ZZ (tp i) d n M (b.map λy=>Mr DD y.1) gn (b.map (·.2.1)) [] m c)=true)(f:∀a P R,S a P R->a.length=d):Cl P w K mg base DD (k+1) j m S:=by have F:=Th T l d M b gn p h g e f;rw[AN]at e;exact IE T l (Tg e.2) F f
theorem gK{n j i:Nat}{x:Str}{m:Md}{c:List CS}{Ss:List aZ}{k:Nat}{S:aZ}(T:TT K mg tp DD ZZ)(g:DD[j]?=some (x,i))(d:Nat)(M:Ms)(b:List (Nat×Md×Nat))(p:∀a Q R,S a Q R->wSs (cG Ss) (nF []) c (bN m Q R) (ao n a))(h:El P w K mg base DD b Ss)(f:(b.all (λy=>decide (y.2.2<=k))&&Of ZZ (tp i) d n M (b.map λy=>Mr DD y.1) [] (b.map (·.2.1)) [] m c)=true)(e:∀a P R,S a P R->a.length=d):Cl P w K mg base DD (k+1) j m S:=Ti T g d M b [] p h trivial f e
theorem sG{n j i:Nat}{x:Str}{m:Md}{c:List CS}{S:aZ}(T:TT K mg tp DD ZZ)(f:DD[j]?=some (x,i))(b:Nat)(M:Ms)(p:∀a Q R,S a Q R->wSs (cG []) (nF []) c (bN m Q R) (ao n a))(e:Of ZZ (tp i) b n M [] [] [] [] m c=true)(d:∀a P R,S a P R->a.length=b):Cl P w K mg base DD 1 j m S:=Ti (k:=0) T f b M [] [] p trivial trivial e d
theorem Og{k j i a:Nat}{x:Str}(T:TT K mg tp DD ZZ)(c:DD[j]?=some (x,i))(b:a=(CT (tp i)).length):Cl P w K mg base DD k j .s XN:=IE T c b WM λ_ _ _ z=>z.elim
theorem iy{k j d:Nat}{m:Md}{S:aZ}(h:Cl P w K mg base DD k j m S)(f:k<=d):∃b n a,mg (Mr DD j)=some b/\cU P w K mg base a b n (oV K n m S)/\a<=d/\∀c P R,S c P R->c.length=n:=by obtain⟨b,n,e,o,l,i,g⟩:=h;exact⟨b,n,e,o,l,Bz i f,g⟩
end
end VL
namespace MY
open PySem PySem.Spec
open PyProof.Rows hiding St
open L2 VL Num
set_option genInjectivity false
set_option genSizeOf false
noncomputable def top(i:Nat):Stmt:=PySem.Challenge.pw_paperwright_k44_stretches_told.main.body.getD i (.Pass ⟨0,0,0,0⟩)
abbrev en(x:Str)(i:Nat):Str×Nat:=(x,i)
abbrev DD:DT:=[en "gcd" 4,en "turn" 5,en "turned" 7,en "raised" 10,en "plus" 21,en "times" 22,en "over" 23,en "middle" 24,en "cleared" 26,en "trimmed" 27,en "scaled" 28,en "whole_plus" 29,en "whole_minus" 30,en "whole_times" 31,en "whole_value" 32,en "whole_slope" 33,en "whole_divided" 34,en "whole_over" 35,en "shortened" 36,en "next_height" 39,en "sturm_chain" 40,en "counting_chain" 42,en "changes" 43,en "counted" 44,en "root_bound" 45,en "primitive" 47,en "stretches" 49,en "whole_stretches" 50,en "end_of" 51,en "count" 53,en "_law_well" 55,en "_law_draw" 56,en "_law_share" 57,en "_law_lowest" 58,en "_law_product" 59,en "_law_is_fraction" 60,en "_law_only" 61,en "_law_drawn" 62,en "_law_less" 63,en "_law_told" 64,en "_law_right" 65,en "law" 66]
abbrev ZZ:List Str:=["ValueError","abs","all","any","bool","divmod","enumerate","int","isinstance","len","list","max","min","range","reversed","sum","tuple"]
abbrev gM:Stmt:=inClass (top 38) 0
abbrev dQ:Stmt:=inClass (top 38) 2
abbrev gO:Stmt:=top 40
abbrev AV:Stmt:=top 56
abbrev IF:Stmt:=top 61
abbrev xh:Stmt:=top 62
abbrev xj:Stmt:=top 65
abbrev IG:Stmt:=top 66
theorem sH:cI ["self","one","other","factor"] ["self","one","other","factor"] (af gM):=⟨rfl,rfl,rfl,by decide+kernel,rfl,by decide+kernel,by decide+kernel⟩
theorem tQ:cI ["self","quotient","rest","scale","factor","drop","known"] ["self"] (af dQ):=⟨rfl,rfl,rfl,by decide+kernel,rfl,by decide+kernel,by decide+kernel⟩
theorem sI:cI ["numbers","ahead","last","told","chain"] ["numbers"] (af gO):=⟨rfl,rfl,rfl,by decide+kernel,rfl,by decide+kernel,by decide+kernel⟩
theorem Mv:cI ["_law_well_here","_law_many","_law_found","_law_turn","_law_upper","_law_lower"] ["_law_well_here","_law_many"] (af AV):=⟨rfl,rfl,rfl,by decide+kernel,rfl,by decide+kernel,by decide+kernel⟩
theorem xm:cI ["_law_e","_law_at","_law_found"] ["_law_e","_law_at"] (af IF):=⟨rfl,rfl,rfl,by decide+kernel,rfl,by decide+kernel,by decide+kernel⟩
theorem II:cI ["_law_well_here","_law_size","_law_most","_law_whole","_law_pick","_law_part","_law_close"] ["_law_well_here"] (af xh):=⟨rfl,rfl,rfl,by decide+kernel,rfl,by decide+kernel,by decide+kernel⟩
theorem IJ:cI ["_law_well_here","_law_whole","_law_by","_law_row","_law_handed","_law_found","_law_far","_law_kept"] ["_law_well_here"] (af xj):=⟨rfl,rfl,rfl,by decide+kernel,rfl,by decide+kernel,by decide+kernel⟩
theorem sJ:cI ["_law_script","_law_k","_law_caught","_law_e"] ["_law_script"] (af IG):=⟨rfl,rfl,rfl,by decide+kernel,rfl,by decide+kernel,by decide+kernel⟩
structure Tx(K:Frag)(mg:Str->Option Value) extends TT K mg top DD ZZ where
 aD:Addr
 j7:Hc K mg "Chain" aD ["ahead","last","factor_ahead","factor_last","lead","height","sign","scale","known"]
 kD:Addr
 kF:FuncData
 dX:Dm K aD "__init__" "Chain.__init__" gM ["self","one","other","factor"] kD kF
 m7:Addr
 m8:FuncData
 m9:Dm K aD "step" "Chain.step" dQ ["self"] m7 m8
 Tj:∃u,mg "LONG"=some u/\RelV (.int 6000) u
 aG:Addr
 nh:mg "HouseError"=some (.ref aG)
 xo:tD K aG
 cV:Addr
 AW:mg "NoNumber"=some (.ref cV)
 dH:Addr
 Em:mg "NoValue"=some (.ref dH)
 eE:Addr
 IK:mg "NoText"=some (.ref eE)
 eG:Addr
 IL:mg "NoRoot"=some (.ref eG)
 aE:Addr
 CY:mg "NoRow"=some (.ref aE)
 xq:tD K aE
 eH:Addr
 IM:mg "TooFar"=some (.ref eH)
 eK:Addr
 IP:mg "NoLine"=some (.ref eK)
 oJ:kitOne K (.ref aE) (.ref cV)=some false
 pM:kitOne K (.ref aE) (.ref dH)=some false
 sL:kitOne K (.ref aE) (.ref eE)=some false
 sM:kitOne K (.ref aE) (.ref eG)=some false
 tR:kitOne K (.ref aE) (.ref aE)=some true
 sN:kitOne K (.ref aE) (.ref eH)=some false
 sO:kitOne K (.ref aE) (.ref eK)=some false
 kY:kitOne K (.ref aE) (.ref aG)=some true
 kZ:kitOne K (.ref aE) (.type "ValueError")=some true
 dD:mroIn K aE (.ref aG)=some true
section
variable{P:Program}{w:World}{K:Frag}{mg:Str->Option Value}{base:Heap}
theorem CZ(T:Tx K mg):Cl P w K mg base DD 2 0 .s Ec:=
 Ti (Ss:=[XN,XN]) T.toTT rfl 2 [] [(2,.s,1),(1,.s,1)] ["LONG"] WR ⟨Og T.toTT rfl rfl,Og T.toTT rfl rfl,trivial⟩ ⟨Te T.Tj,trivial⟩ (by decide+kernel) (by walk_at "l")
theorem zo(T:Tx K mg):Cl P w K mg base DD 1 3 .s qf:=
 sG T.toTT rfl 2 [] HW (by decide+kernel) (by walk_at "l")
theorem Tn(T:Tx K mg):Cl P w K mg base DD 3 4 .s Ik:=
 gK T.toTT rfl 2 [] [(0,.s,2)] SQ ⟨CZ T,trivial⟩ (by decide+kernel) (by walk_at "l")
theorem Mw(T:Tx K mg):Cl P w K mg base DD 3 5 .s wU:=
 gK T.toTT rfl 2 [] [(0,.s,2)] Mb ⟨CZ T,trivial⟩ (by decide+kernel) (by walk_at "l")
theorem To(T:Tx K mg):Cl P w K mg base DD 4 6 .s Ib:=
 gK T.toTT rfl 2 [] [(5,.s,3)] SD ⟨Mw T,trivial⟩ (by decide+kernel) (by walk_at "l")
theorem IQ(T:Tx K mg):Cl P w K mg base DD 5 7 .s qg:=
 gK T.toTT rfl 2 [] [(6,.s,4),(4,.s,3)] Ip ⟨To T,Tn T,trivial⟩ (by decide+kernel) (by walk_at "l")
theorem En(T:Tx K mg):Cl P w K mg base DD 3 8 .s rZ:=
 gK T.toTT rfl 1 [] [(0,.s,2)] Ed ⟨CZ T,trivial⟩ (by decide+kernel) (by walk_at "l")
theorem u9(T:Tx K mg):Cl P w K mg base DD 1 9 .f mV:=
 sG T.toTT rfl 1 [] Eb (by decide+kernel) (by walk_at "l")
theorem ni(T:Tx K mg):Cl P w K mg base DD 1 10 .f iT:=
 sG T.toTT rfl 2 [] HU (by decide+kernel) (by walk_at "l")
theorem xr(T:Tx K mg):Cl P w K mg base DD 2 11 .f jH:=
 gK T.toTT rfl 2 [(3,.f)] [(9,.f,1)] wM ⟨u9 T,trivial⟩ (by decide+kernel) (by walk_at "l")
theorem tS(T:Tx K mg):Cl P w K mg base DD 3 12 .f iV:=
 gK T.toTT rfl 2 [] [(11,.f,2),(10,.f,1)] tH ⟨xr T,ni T,trivial⟩ (by decide+kernel) (by walk_at "l")
theorem tU(T:Tx K mg):Cl P w K mg base DD 1 13 .f iW:=
 sG T.toTT rfl 2 [(2,.f)] tK (by decide+kernel) (by walk_at "l")
theorem tW(T:Tx K mg):Cl P w K mg base DD 1 14 .s i8:=
 sG T.toTT rfl 3 [] tO (by decide+kernel) (by walk_at "l")
theorem tX(T:Tx K mg):Cl P w K mg base DD 1 15 .f fK:=
 sG T.toTT rfl 1 [] tN (by decide+kernel) (by walk_at "l")
theorem pN(T:Tx K mg):Cl P w K mg base DD 2 16 .s gg:=
 gK T.toTT rfl 2 [(4,.f),(5,.f)] [(10,.f,1),(9,.f,1)] pL ⟨ni T,u9 T,trivial⟩ (by decide+kernel) (by walk_at "l")
theorem xu(T:Tx K mg):Cl P w K mg base DD 1 17 .f jL:=
 sG T.toTT rfl 2 [(3,.f),(4,.f)] wQ (by decide+kernel) (by walk_at "l")
theorem o9(T:Tx K mg):Cl P w K mg base DD 3 18 .s iX:=
 gK T.toTT rfl 1 [] [(0,.s,2)] yV ⟨CZ T,trivial⟩ (by decide+kernel) (by walk_at "l")
theorem tY(T:Tx K mg):Cl P w K mg base DD 2 19 .s iY:=
 gK T.toTT rfl 3 [] [(3,.s,1)] tL ⟨zo T,trivial⟩ (by decide+kernel) (by walk_at "l")
theorem tZ(T:Tx K mg):bK P w K mg base (ji P w) 1 T.kD T.kF ["self","one","other","factor"] (Ie T.aD):=by
 have g:=T.j7.ok.1;have d:=T.j7.ok.2.2.2;refine T.dX.F.Xs sH (λn H Q E h=>?_) (λv A k s H n Q E y h=>?_)
 .obtain⟨x,a,t,r,p,rfl,_⟩:=h;rfl
 obtain⟨x,a,t,r,p,rfl,u,q⟩:=h;refine⟨_,(@bH _ _ _ _ _ (gy (pv 0) (pv 1) rfl)
  (@bH _ _ _ _ _ (gy (pv 0) (pv 2) rfl)
  (@bH _ _ _ _ _ (gy (pv 0) (pv 3) rfl)
  (@bH _ _ _ _ _ (gy (pv 0) (kK aY) rfl)
  (@bH _ _ _ _ _ (gy (pv 0) iA rfl)
  (@bH _ _ _ _ _ (gy (pv 0) iA rfl)
  (@bH _ _ _ _ _ (gy (pv 0) iA rfl)
  (@bH _ _ _ _ _ (gy (pv 0) iA rfl)
  (jQ (gy (pv 0) iA rfl)))))))))),?_⟩
 refine⟨_,rfl,_,rfl,x,T.aD,a,_,rfl,u,g,d "ahead" (by decide),by show 0<1000;decide,?_⟩;refine⟨_,rfl,_,rfl,x,T.aD,a,_,rfl,au,g,d "last" (by decide),by show 1<1000;decide,?_⟩;refine⟨_,rfl,_,rfl,x,T.aD,a,_,rfl,au,g,d "factor_ahead" (by decide),by show 2<1000;decide,?_⟩;refine⟨fM (by simp),λj i=>?_⟩;have c:j≠x:=λe=>by rw[e,au]at i;cases i
 refine⟨_,rfl,x,T.aD,a,_,rfl,xT au i,g,d "factor_last" (by decide),by show 3<1000;decide,?_⟩;refine⟨_,rfl,x,T.aD,a,_,rfl,au,g,d "lead" (by decide),by show 4<1000;decide,?_⟩;refine⟨_,rfl,x,T.aD,a,_,rfl,au,g,d "height" (by decide),by show 5<1000;decide,?_⟩;refine⟨_,rfl,x,T.aD,a,_,rfl,au,g,d "sign" (by decide),by show 6<1000;decide,?_⟩;refine⟨_,rfl,x,T.aD,a,_,rfl,au,g,d "scale" (by decide),by show 7<1000;decide,?_⟩;refine⟨_,rfl,x,T.aD,a,_,rfl,au,g,d "known" (by decide),by show 8<1000;decide,?_⟩;rw[ak c,ak c,ak c]at i;refine q j _ (λb o f m=>?_) i ?_ au
 .have l:b≠j:=aR m i;rw[ak f,ak f,ak f,ak f,ak f,ak f,ak l,ak f,ak f,ak f];exact m
 .rw[ak c,ak c,ak c,ak c,ak c,ak c,au]
theorem Mx(T:Tx K mg):cU P w K mg base 2 (.ref T.aD) 3 (oV K 3 pK (wV T.aD)):=
 AJ T.j7.ok ⟨T.j7.mks,T.dX.M.1,T.dX.M.fn,T.j7.kp⟩ T.dX.b (tZ T)
theorem xw:c6 ⟨["self","quotient","rest","scale","factor","drop","known"],(af dQ).names,[(0,pK)],["whole_divided","whole_minus","scaled","whole_times","raised","next_height"],[],["len"],[.s,.f,.f,.f,.s,.s],[]⟩ (fF [.s,.f,.f,.f,.s,.s]) (.io pK) dP (aP dQ)=true:=by decide+kernel
theorem xx(T:Tx K mg):bK P w K mg base (ji P w) 4 T.m7 T.m8 ["self"] (oV K 1 (.io pK) (mX T.aD)):=
 qa T.m9.F tQ (tab_of (k:=3) (by exact⟨iy (pN T) (by decide),iy (tS T) (by decide),iy (ni T) (by decide),iy (tU T) (by decide),iy (zo T) (by decide),iy (tY T) (by decide),trivial⟩) (by exact⟨T.Z "len" (by decide),trivial⟩)) dP [(0,pK)] pK (mX T.aD) (by decide) (by decide) (by decide) (by decide) xw (by walk_at "l") Ij
theorem t6:c6 ⟨["numbers","ahead","last","told","chain"],(af gO).names,[(3,.f),(4,pK)],["whole_slope","Chain","step","scaled"],[],["list","len"],[.f,pK,(.io pK),.f],[(2,0)]⟩ (fF [.f,pK,(.io pK),.f]) .f ie (aP gO)=true:=by decide+kernel
theorem t7(T:Tx K mg):Tab P w K mg base ["whole_slope","Chain","step","scaled"] [] ["list","len"] [.f,pK,(.io pK),.f] [(2,0)] (cG [fK,(wV T.aD),(mX T.aD),iT]) (nF [(.cls T.aD)]) 4:=by
 refine⟨λj x e h=>?_,λj g x e h=>?_,λj x e=>?_,?_,AB K,λj x C e h=>?_⟩
 .match j,e with
  |0,e=>cases e;exact iy (tX T) (by decide)
  |1,e=>cases e;exact⟨_,_,2,T.j7.c,Mx T,by decide,by walk_at "l"⟩
  |2,e=>cases h
  |3,e=>cases e;exact iy (ni T) (by decide)
  |_+4,e=>simp at e
 .simp only[Fh,pb,or_false,Prod.mk.injEq]at h;rcases h with⟨rfl,rfl⟩
  .cases e;exact T.m9.jc (m:=(.io pK)) (xx T) (by walk_at "l") (by decide) rfl
 .match j,e with
  |_+0,e=>simp at e
 .intro x h;simp only[Fh,pb,or_false]at h;rcases h with rfl|rfl
  .exact T.Z "list" (by decide)
  .exact T.Z "len" (by decide)
 .match j,e with
  |_+0,e=>simp at e
theorem t8(T:Tx K mg):bK P w K mg base (ji P w) 5 (T.f 20) (T.d 20) ["numbers"] (oV K 1 .f mY):=
 HR (T.D (j:=20) rfl).F sI (t7 T) ie [(3,.f),(4,pK)] .f mY (by decide) (by decide) rfl t6 (by walk_at "l") Ef
theorem iz(T:Tx K mg):Cl P w K mg base DD 6 21 .s ig:=
 gK T.toTT rfl 1 [] [(20,.f,5),(17,.f,1),(18,.s,3)] AQ ⟨(IE T.toTT rfl rfl (t8 T) (by walk_at "l")),xu T,o9 T,trivial⟩ (by decide+kernel) (by walk_at "l")
theorem vd(T:Tx K mg):Cl P w K mg base DD 2 22 .s mZ:=
 gK T.toTT rfl 2 [] [(14,.s,1)] Eh ⟨tW T,trivial⟩ (by decide+kernel) (by walk_at "l")
theorem Eo(T:Tx K mg):Cl P w K mg base DD 3 23 .s sj:=
 gK T.toTT rfl 3 [] [(22,.s,2)] Ei ⟨vd T,trivial⟩ (by decide+kernel) (by walk_at "l")
theorem xy(T:Tx K mg):Cl P w K mg base DD 1 24 .s gw:=
 sG T.toTT rfl 1 [] wZ (by decide+kernel) (by walk_at "l")
theorem pq(T:Tx K mg):Cl P w K mg base DD 4 25 .s gf:=
 gK T.toTT rfl 1 [] [(8,.s,3),(18,.s,3)] yW ⟨En T,o9 T,trivial⟩ (by decide+kernel) (by walk_at "l")
theorem IS(T:Tx K mg):Cl P w K mg base DD 3 28 .s qh:=
 gK T.toTT rfl 2 [] [(22,.s,2)] Iq ⟨vd T,trivial⟩ (by decide+kernel) (by walk_at "l")
theorem nj(T:Tx K mg):Cl P w K mg base DD 7 27 .f ZQ:=
 gK T.toTT rfl 1 [(3,.f),(4,.f)] [(21,.s,6),(24,.s,1),(28,.s,3),(7,.s,5)] ZR ⟨iz T,xy T,IS T,IQ T,trivial⟩ (by decide+kernel) (by walk_at "l")
theorem zp(T:Tx K mg):Cl P w K mg base DD 8 26 .f gj:=
 gK T.toTT rfl 1 [] [(27,.f,7),(25,.s,4)] y9 ⟨nj T,pq T,trivial⟩ (by decide+kernel) (by walk_at "l")
theorem xA(T:Tx K mg):bK P w K mg base (ji P w) 1 (T.f 26) (T.d 26) ["row"] (oV K 1 .s (Oe T.aE)):=
 Th (j:=26) (k:=0) (m:=.s) (Ss:=[]) T.toTT rfl 1 [] [] ["NoRow"] Td trivial ⟨Tf T.CY T.xq,trivial⟩ (by decide+kernel) (by walk_at "l")
theorem v_count(T:Tx K mg):Cl P w K mg base DD 7 29 .s wY:=
 gK T.toTT rfl 3 [] [(23,.s,3),(21,.s,6),(25,.s,4)] Mj ⟨Eo T,iz T,pq T,trivial⟩ (by decide+kernel) (by walk_at "l")
theorem Tp(T:Tx K mg):bK P w K mg base (ji P w) 1 (T.f 30) (T.d 30) ["_law_script","_law_place"] (oV K 2 .f CK):=
 Th (j:=30) (k:=0) (m:=.f) (Ss:=[]) (Gs:=[]) T.toTT rfl 2 [] [] [] SJ trivial trivial (by decide+kernel) (by walk_at "l")
theorem Tq:c6 ⟨["_law_well_here","_law_many","_law_found","_law_turn","_law_upper","_law_lower"],(af AV).names,[(0,.f)],[],[],["range","divmod"],[],[]⟩ (fF []) (.io .f) r9 (aP AV)=true:=by decide+kernel
theorem IT(T:Tx K mg):bK P w K mg base (ji P w) 1 (T.f 31) (T.d 31) ["_law_well_here","_law_many"] (oV K 2 (.io .f) u7):=
 qa (T.D (j:=31) rfl).F Mv (tab_of (k:=0) (Ss:=[]) (by exact trivial) (by exact⟨T.Z "range" (by decide),T.Z "divmod" (by decide),trivial⟩)) r9 [(0,.f)] .f u7 (by decide) (by decide) (by decide) (by decide) Tq (by walk_at "l") SK
theorem C1(T:Tx K mg):Cl P w K mg base DD 1 32 .s CF:=
 sG T.toTT rfl 2 [] L8 (by decide+kernel) (by walk_at "l")
theorem IU(T:Tx K mg):Cl P w K mg base DD 2 33 .s SI:=
 gK T.toTT rfl 2 [] [(32,.s,1)] W0 ⟨C1 T,trivial⟩ (by decide+kernel) (by walk_at "l")
theorem Ep(T:Tx K mg):Cl P w K mg base DD 1 34 .f zj:=
 sG T.toTT rfl 2 [(2,.f)] S9 (by decide+kernel) (by walk_at "l")
theorem t9(T:Tx K mg):Cl P w K mg base DD 2 35 .s i7:=
 gK T.toTT rfl 1 [] [(32,.s,1)] Iu ⟨C1 T,trivial⟩ (by decide+kernel) (by walk_at "l")
theorem My:c6 ⟨["_law_well_here","_law_size","_law_most","_law_whole","_law_pick","_law_part","_law_close"],(af xh).names,[(0,.f),(3,.f),(5,.f)],["_law_draw","_law_product"],[],["range"],[(.io .f),.f],[]⟩ (fF [(.io .f),.f]) (.io .f) ir (aP xh)=true:=by decide+kernel
theorem Mz(T:Tx K mg):bK P w K mg base (ji P w) 2 (T.f 37) (T.d 37) ["_law_well_here"] (oV K 1 (.io .f) m6):=
 qa (T.D (j:=37) rfl).F II (tab_of (k:=1) (by exact⟨(T.D (j:=31) rfl).jc (m:=(.io .f)) (IT T) rfl (by walk_at "l") (by decide),iy (Ep T) (by decide),trivial⟩) (by exact⟨T.Z "range" (by decide),trivial⟩)) ir [(0,.f),(3,.f),(5,.f)] .f m6 (by decide) (by decide) (by decide) (by decide) My (by walk_at "l") Ej
theorem Tr(T:Tx K mg):Cl P w K mg base DD 1 38 .s w6:=
 sG T.toTT rfl 2 [] Iv (by decide+kernel) (by walk_at "l")
theorem Tt(T:Tx K mg):Cl P w K mg base DD 3 39 .s m5:=
 gK T.toTT rfl 1 [] [(35,.s,2),(38,.s,1)] Iw ⟨t9 T,Tr T,trivial⟩ (by decide+kernel) (by walk_at "l")
theorem MA:c6 ⟨["_law_well_here","_law_whole","_law_by","_law_row","_law_handed","_law_found","_law_far","_law_kept"],(af xj).names,[(0,.f),(5,.f)],["_law_drawn","_law_lowest","_law_draw","stretches","_law_told","count"],[],["max","abs","list","all","sum","len"],[(.io .f),.s,(.io .f),.f,.s,.s],[]⟩ (fF [(.io .f),.s,(.io .f),.f,.s,.s]) (.io .f) iu (aP xj)=true:=by decide+kernel
theorem MB(T:Tx K mg):bK P w K mg base (ji P w) 9 (T.f 40) (T.d 40) ["_law_well_here"] (oV K 1 (.io .f) jN):=
 qa (T.D (j:=40) rfl).F IJ (tab_of (k:=8) (by exact⟨(T.D (j:=37) rfl).jc (m:=(.io .f)) (Mz T) rfl (by walk_at "l") (by decide),iy (IU T) (by decide),(T.D (j:=31) rfl).jc (m:=(.io .f)) (IT T) rfl (by walk_at "l") (by decide),iy (zp T) (by decide),iy (Tt T) (by decide),iy (v_count T) (by decide),trivial⟩) (by exact⟨T.Z "max" (by decide),T.Z "abs" (by decide),T.Z "list" (by decide),T.Z "all" (by decide),T.Z "sum" (by decide),T.Z "len" (by decide),trivial⟩)) iu [(0,.f),(5,.f)] .f jN (by decide) (by decide) (by decide) (by decide) MA (by walk_at "l") Ek
noncomputable def Oh(T:Tx K mg)(C:Addr)(k:Int):Prop:=tD K C/\kitOne K (.ref C) (.ref T.cV)=some (decide ((0:Int)=k))/\kitOne K (.ref C) (.ref T.dH)=some (decide ((1:Int)=k))/\kitOne K (.ref C) (.ref T.eE)=some (decide ((2:Int)=k))/\kitOne K (.ref C) (.ref T.eG)=some (decide ((3:Int)=k))/\kitOne K (.ref C) (.ref T.aE)=some (decide ((4:Int)=k))/\kitOne K (.ref C) (.ref T.eH)=some (decide ((5:Int)=k))/\kitOne K (.ref C) (.ref T.eK)=some (decide ((6:Int)=k))/\kitOne K (.ref C) (.ref T.aG)=some true/\kitOne K (.ref C) (.type "ValueError")=some true
@[irreducible] noncomputable def sP(T:Tx K mg):Sp:=λc H Q _=>∃(a C:Addr)(k:Int),c=[.ref a,.int k]/\H a=some (Fq a C)/\Oh T C k/\∀b,aq H b->Q (.bl true) b
theorem Er{T:Tx K mg}{vs:List V}{H:Hp}{Q:VK}{E:XK}(h:∃(a C:Addr)(k:Int),vs=[.ref a,.int k]/\H a=some (Fq a C)/\Oh T C k/\∀H',aq H H'->Q (.bl true) H'):sP T vs H Q E:=by unfold sP;exact h
theorem MC(T:Tx K mg):bK P w K mg base JS 1 (T.f 36) (T.d 36) ["_law_e","_law_at"] (sP T):=by
 refine(T.D (j:=36) rfl).F.ok xm (λvs H Q E h=>?_) (λcdv A L s H vs Q E hr h=>?_)
 .unfold sP at h;obtain⟨a,C,k,rfl,_⟩:=h;rfl
 unfold sP at h;obtain⟨a,C,k,rfl,o,⟨b,k0,k1,k2,k3,k4,k5,k6,kh,kv⟩,q⟩:=h;have hb:([decide ((0:Int)=k),decide ((1:Int)=k),decide ((2:Int)=k),decide ((3:Int)=k),decide ((4:Int)=k),decide ((5:Int)=k),decide ((6:Int)=k)]:List Bool)=(Bn 7).map λj:Nat=>decide ((j:Int)=k):=rfl;generalize decide ((0:Int)=k)=l at*;generalize decide ((1:Int)=k)=g at*;generalize decide ((2:Int)=k)=e at*;generalize decide ((3:Int)=k)=c at*;generalize decide ((4:Int)=k)=t at*;generalize decide ((5:Int)=k)=r at*;generalize decide ((6:Int)=k)=p at*;refine⟨_,(@bH _ _ _ _ _ (iB (i:=2) xm.nd rfl (by first|exact Ng rfl|exact NM rfl) (kK (ay (cS cK (by rfl) (T.Z "isinstance" (by decide)) (by rfl) (ay (pv 0) (ay (eZ (v:=.ref T.cV) rfl T.AW rfl) aY))) (ay (cS cK (by rfl) (T.Z "isinstance" (by decide)) (by rfl) (ay (pv 0) (ay (eZ (v:=.ref T.dH) rfl T.Em rfl) aY))) (ay (cS cK (by rfl) (T.Z "isinstance" (by decide)) (by rfl) (ay (pv 0) (ay (eZ (v:=.ref T.eE) rfl T.IK rfl) aY))) (ay (cS cK (by rfl) (T.Z "isinstance" (by decide)) (by rfl) (ay (pv 0) (ay (eZ (v:=.ref T.eG) rfl T.IL rfl) aY))) aY))))))
  (@bH _ _ _ _ _ (iB (i:=2) xm.nd rfl (by first|exact Ng rfl|exact NM rfl) (UQ OW (pv 2) (kK (ay (cS cK (by rfl) (T.Z "isinstance" (by decide)) (by rfl) (ay (pv 0) (ay (eZ (v:=.ref T.aE) rfl T.CY rfl) aY))) (ay (cS cK (by rfl) (T.Z "isinstance" (by decide)) (by rfl) (ay (pv 0) (ay (eZ (v:=.ref T.eH) rfl T.IM rfl) aY))) (ay (cS cK (by rfl) (T.Z "isinstance" (by decide)) (by rfl) (ay (pv 0) (ay (eZ (v:=.ref T.eK) rfl T.IP rfl) aY))) aY))))))
  (@bH _ _ _ _ _ (EW (PW.pt (EO (zx (vg (cS cK (by rfl) (T.Z "isinstance" (by decide)) (by rfl) (ay (pv 0) (ay (eZ (v:=.ref T.aG) rfl T.nh rfl) aY))))) (zw (zx (vg (cS cK (by rfl) (T.Z "isinstance" (by decide)) (by rfl) (ay (pv 0) (ay (Bb (v:=.ty "ValueError") (u:=.type "ValueError") (by rfl) (T.Z "ValueError" (by decide)) (by rfl) rfl) aY)))))))) (jQ (kI M7)) Be)
  (jQ (kI (Bo (J1 hr.units) (pv 2) (vA ["_law_k"] ["_law_e","_law_at","_law_found"] rfl (by show dM _ (af IF) ["_law_e","_law_at","_law_found"] ["_law_e","_law_at","_law_found"] ["_law_k"]=true;decide+kernel) (uu rfl (T.Z "range" (by decide)) (ay iA aY)) (λ_ _ _ _=>(Bh (i:=0) (show List.Nodup ((["_law_k"]:List Str)++(["_law_e","_law_at","_law_found"]:List Str)) by decide+kernel) rfl (Ng rfl) (NM rfl))) (λ_ _ _ _=>vt) (λ_ _ _ _=>(Bo Nb (pv 0) (pv 2) (qu _)))) (qu _))))))),?_⟩
 refine⟨_,rfl,a,C,_,_,_,rfl,o,b,.own _,k0,?_⟩;refine⟨_,rfl,a,C,_,_,_,rfl,o,b,.own _,k1,?_⟩;refine⟨_,rfl,a,C,_,_,_,rfl,o,b,.own _,k2,?_⟩;refine⟨_,rfl,a,C,_,_,_,rfl,o,b,.own _,k3,?_⟩;refine⟨fM (by simp),λI O=>?_⟩;have U:=aK O (.lst [V.bl l,V.bl g,V.bl e,V.bl c]);have e1:upd H I (.lst [V.bl l,V.bl g,V.bl e,V.bl c]) I=some (.lst [V.bl l,V.bl g,V.bl e,V.bl c]):=au;generalize upd H I (.lst [V.bl l,V.bl g,V.bl e,V.bl c])=S at*;have m:=U _ _ o;refine⟨_,rfl,?_⟩;refine⟨_,rfl,a,C,_,_,_,rfl,m,b,.own _,k4,?_⟩;refine⟨_,rfl,a,C,_,_,_,rfl,m,b,.own _,k5,?_⟩;refine⟨_,rfl,a,C,_,_,_,rfl,m,b,.own _,k6,?_⟩;refine⟨fM (by simp),λG y=>?_⟩;refine⟨I,G,_,_,rfl,rfl,xT e1 y,au,fM (by simp),λx N=>?_⟩;have R:aq H (upd (upd S G (.lst [V.bl t,V.bl r,V.bl p])) x (.lst ([V.bl l,V.bl g,V.bl e,V.bl c]++[V.bl t,V.bl r,V.bl p]))):=U.trans ((aK y _).trans (aK N _));have h3:upd (upd S G (.lst [V.bl t,V.bl r,V.bl p])) x (.lst ([V.bl l,V.bl g,V.bl e,V.bl c]++[V.bl t,V.bl r,V.bl p])) x=some (.lst ([l,g,e,c,t,r,p].map V.bl)):=au;generalize upd (upd S G (.lst [V.bl t,V.bl r,V.bl p])) x (.lst ([V.bl l,V.bl g,V.bl e,V.bl c]++[V.bl t,V.bl r,V.bl p]))=H3 at*;refine⟨_,rfl,a,C,_,_,_,rfl,R _ _ o,b,.own _,kh,?_⟩;refine⟨_,rfl,?_⟩;dsimp only;rw[BM (by decide)];refine⟨_,rfl,a,C,_,_,_,rfl,R _ _ o,b,.ty _,kv,?_⟩;refine⟨_,rfl,?_⟩;dsimp only;rw[BM (by decide)]
 repeat refine⟨_,rfl,?_⟩
 refine⟨by decide,by decide,λD Y=>zX (n:=7) (λi B J=>i<=7/\aq H3 J/\J D=some (.lst B)/\B=(((Bn i).map λj:Nat=>decide ((j:Int)=k)).map V.bl)) ?_ ?_ ?_⟩
 .exact⟨by decide,aK Y _,au,rfl⟩
 .rintro i B J X ⟨_,sm,M,rfl⟩;refine⟨_,rfl,_,rfl,rfl,?_⟩;refine Vj X M (by rw[Ap,Ap,Ya];exact Du (by omega)) ⟨X,Fg sm Y _,au,?_⟩;rw[List.range_succ,l4,l4];congr 1;show[V.bl (decide (V.int (0+(i:Int))=V.int k))]=[V.bl (decide ((i:Int)=k))];congr 2;rw[oa];by_cases h:(i:Int)=k
  .rw[FV h,FV (Pi V.int h)]
  .rw[Ki h,Ki (λz=>h (V.int.inj z))]
 .rintro B J ⟨_,sm,M,rfl⟩;refine⟨x,D,_,_,rfl,rfl,gP.of (sm _ _ h3),gP.of M,?_⟩;rw[FV hb];exact q _ (R.trans sm)
theorem Xj:Hw ⟨["_law_script","_law_k","_law_caught","_law_e"],(af IG).names,[],["_law_right","_law_well"],[],["range","max","min","len"],[(.io .f),.f],[]⟩ (fF [(.io .f),.f]) .s qi ((aP IG).getD 0 (.Pass ⟨0,0,0,0⟩))=true:=by decide+kernel
theorem Xk(T:Tx K mg):bK P w K mg base (ji P w) 10 (T.f 41) (T.d 41) ["_law_script"] (oV K 1 .s WL):=by
 refine(T.D (j:=41) rfl).F.Xs sJ (λvs H Q E h=>?_) (λcdv A x s H vs Q E B h=>?_)
 .obtain⟨A,Y,P1,R,l,r,_⟩:=h;exact r.len.trans l
 obtain⟨U,Y,P1,R,l,r,d,⟨M,rfl,h63,hq⟩,c,N⟩:=h;have tt:=tab_of (P:=P) (w:=w) (K:=K) (mg:=mg) (base:=base) (k:=9) (fn:=["_law_right","_law_well"]) (zn:=["range","max","min","len"]) (md:=[(.io .f),.f]) (Ss:=[jN,CK]) (by exact⟨(T.D (j:=40) rfl).jc (m:=(.io .f)) (MB T) rfl (by walk_at "l") (by decide),(T.D (j:=30) rfl).jc (m:=.f) (Tp T) rfl (by walk_at "l") (by decide),trivial⟩) (by exact⟨(T.Z "range" (by decide)),(T.Z "max" (by decide)),(T.Z "min" (by decide)),(T.Z "len" (by decide)),trivial⟩);have L:∀i m y,(i,m)∈([]:Ms)->(i,y)∈([]:Ms)->m=y:=λi m y z=>by cases z
 refine⟨_,(@bH _ _ _ _ _ ((WI _ _ _ qi).1 (AA sJ tt B L) _ Xj) (@bH _ _ _ _ _ (iB (i:=2) sJ.nd rfl (by first|exact Ng rfl|exact NM rfl) EM)
  (@bH _ _ _ _ _ (O2 (i:=3) ⟨rfl,rfl⟩ sJ.nd rfl rfl rfl T.nh T.xo (JV (xA T) (B.mono (by omega)) rfl (T.D (j:=26) rfl).m (T.D (j:=26) rfl).F.kp (T.D (j:=26) rfl).b (ay (kK aY) aY FE)) (λ_=>(jQ (iB (i:=2) sJ.nd rfl (by first|exact Ng rfl|exact NM rfl) (pv 3)))))
  (jQ (kI (JG (MC T) (B.mono (by omega)) rfl (T.D (j:=36) rfl).m (T.D (j:=36) rfl).F.kp (T.D (j:=36) rfl).b .nil Vf (ay (pv 2) (ay iA aY)))))))),?_⟩
 refine⟨⟨U,U,none⟩,H,ao 4 [.gB M],⟨λJ=>∃o,J=[some (.gB M),o,none,none],λ_=>False,λ_=>False,λ_=>False,R⟩,yT r d (λi m z=>by cases z) L,⟨E,Fl,λC S rc s'=>N C S rc s',λe X G v h' a C t I hx q=>vp e X G v h' a C t I hx (N C G q.1 q.2)⟩,rfl,Mq (λJ h=>h),⟨?_,λ_ _ _ z=>z.elim,λ_ _ _ _ _ _ z=>z.elim,λ_ _ _ _ _ _ z=>z.elim⟩⟩;rintro A' _ u S ea eb ⟨o,rfl⟩ O;have g:u.length=3+1:=O.len;obtain⟨y0,t1,rfl,h1⟩:=mU g;obtain⟨y1,t2,rfl,h2⟩:=mU (n:=2) h1;obtain⟨y2,t3,rfl,h3⟩:=mU (n:=1) h2;obtain⟨y3,t4,rfl,h4⟩:=mU (n:=0) h3;cases KE.mp h4;refine⟨fM (by simp),λp hp=>?_⟩;refine⟨λ_=>False,[dh []],λ_=>False,λC=>C=T.aE,rfl,.cons (by rw[show dh []=W.lst []from rfl,Rep];exact⟨p,[],rfl,id,.inl au,.nil⟩) .nil,λq z=>z.elim,⟨rfl,rfl⟩,λ_ _ _ z=>z.elim,?_⟩;rintro C G rfl v;refine⟨_,rfl,T.xq,T.dD,λa ha=>?_⟩;refine⟨_,rfl,?_⟩;refine⟨_,rfl,?_⟩;refine Er ⟨a,T.aE,4,rfl,au,⟨T.xq,T.oJ,T.pM,T.sL,T.sM,T.tR,T.sN,T.sO,T.kY,T.kZ⟩,λH2 sm=>c _ _ H2 hq (O.sm.trans ((aK hp _).trans (v.trans ((aK ha _).trans sm)))) (.of rfl)⟩
end
theorem Uw{K:Frag}{x:Str}{st:Stmt}{f:Addr}{g m:Option Addr}{d:Array (Option Value)}{h kV i e b j:Value}(a:nsIn K mainGlobals x=some (some (.ref f)))(l:K.lookup f=some ⟨h,g,.func (fnOf x x (cJ st) (aP st) (af st) .none kV i e m b j),d⟩)(c:codeIn K b x=true)(k:keepIn K (.ref f)=true):Hd K x st:=⟨f,g,m,d,h,kV,i,e,b,j,a,l,c,k⟩
theorem Ux{K:Frag}{C:Addr}{x q:Str}{st:Stmt}{f:Addr}{g n:Option Addr}{d:Array (Option Value)}{h kV j e b m:Value}(a:findIn K (.ref C) x=some (some (.ref f)))(i:isFn K (.ref f)=true)(l:K.lookup f=some ⟨h,g,.func (fnOf x q (cJ st) (aP st) (af st) .none kV j e n b m),d⟩)(c:codeIn K b q=true)(k:keepIn K (.ref f)=true):Hm K C x q st:=⟨f,g,n,d,h,kV,j,e,b,m,a,i,l,c,k⟩
theorem Uy{x q:Str}{st:Stmt}{i:Str}(h:∀(kV a d:Value)(g:Option Addr)(b f c:Value),bindArgs (fnOf x q (cJ st) (aP st) (af st) .none kV a d g b f) ⟨[c],[]⟩=pure ([i].zip [c])):iS x q st [i]:=λkV a d g b f k j=>by obtain⟨c,l,rfl,e⟩:=mU j;cases KE.mp e;exact h kV a d g b f c
theorem X5{x q:Str}{st:Stmt}{l k:Str}(h:∀(kV a e:Value)(j:Option Addr)(b i d c:Value),bindArgs (fnOf x q (cJ st) (aP st) (af st) .none kV a e j b i) ⟨[d,c],[]⟩=pure ([l,k].zip [d,c])):iS x q st [l,k]:=λkV a e j b i o n=>by obtain⟨d,p,rfl,g⟩:=mU n;obtain⟨c,m,rfl,f⟩:=mU g;cases KE.mp f;exact h kV a e j b i d c
theorem X6{x q:Str}{st:Stmt}{m l p2:Str}(h:∀(kV a e:Value)(k:Option Addr)(b j d c a2:Value),bindArgs (fnOf x q (cJ st) (aP st) (af st) .none kV a e k b j) ⟨[d,c,a2],[]⟩=pure ([m,l,p2].zip [d,c,a2])):iS x q st [m,l,p2]:=λkV a e k b j r p=>by obtain⟨d,s,rfl,i⟩:=mU p;obtain⟨c,o,rfl,g⟩:=mU i;obtain⟨a2,n,rfl,f⟩:=mU g;cases KE.mp f;exact h kV a e k b j d c a2
theorem Uz{x q:Str}{st:Stmt}{o n p2 m:Str}(h:∀(kV a e:Value)(l:Option Addr)(b k d c a2 a3:Value),bindArgs (fnOf x q (cJ st) (aP st) (af st) .none kV a e l b k) ⟨[d,c,a2,a3],[]⟩=pure ([o,n,p2,m].zip [d,c,a2,a3])):iS x q st [o,n,p2,m]:=λkV a e l b k u t=>by obtain⟨d,v,rfl,j⟩:=mU t;obtain⟨c,s,rfl,i⟩:=mU j;obtain⟨a2,r,rfl,g⟩:=mU i;obtain⟨a3,p,rfl,f⟩:=mU g;cases KE.mp f;exact h kV a e l b k d c a2 a3
theorem all_mk{l:PySem.W.OpenLaw}{w:World}{K:Frag}{h:Heap}{mg:Str->Option Value}{H:Addr}(X:K.In h)(G:h.Ns mainGlobals mg)(f:mg "law"=some (.ref H))
 {a:Addr}(IV:nsIn K mainGlobals "Chain"=some (some (.ref a)))(IX:plainGet K a Str.empty=true)(IY:hasDictIn K a=true)(IZ:plainOver K a=true)(Ja:findIn K (.ref a) "__setattr__"=some (some (.builtin "object.__setattr__")))(Jb:makesIn K a=true)(Jc:keepIn K (.ref a)=true)
 (ua:findIn K (.ref a) "ahead"=some none)
 (N:findIn K (.ref a) "last"=some none)
 (jO:findIn K (.ref a) "factor_ahead"=some none)
 (kg:findIn K (.ref a) "factor_last"=some none)
 (M:findIn K (.ref a) "lead"=some none)
 (sQ:findIn K (.ref a) "height"=some none)
 (L:findIn K (.ref a) "sign"=some none)
 (uc:findIn K (.ref a) "scale"=some none)
 (Z:findIn K (.ref a) "known"=some none)
 (z:Hm K a "__init__" "Chain.__init__" gM)
 (y:Hm K a "step" "Chain.step" dQ)
 (aa:Mt K top DD)(I:Mu K ZZ)
 {Tu:Tok}(Tv:nsIn K mainGlobals "LONG"=some (some (.int 6000 Tu)))
 {c:Addr}(J:nsIn K mainGlobals "HouseError"=some (some (.ref c)))(Y:excIn K c YJ "ValueError.__new__"=true)(U:findIn K (.ref c) "__getattribute__"=some (some (.builtin "BaseException.__getattribute__")))(S:findIn K (.ref c) "__getattr__"=some none)(R:findIn K (.ref c) "__class__"=some (some (.builtin "object.__class__")))(Q:mroIn K c (.type "object")=some true)(P:mroIn K c (.type "BaseException")=some true)
 {u:Addr}(AX:nsIn K mainGlobals "NoNumber"=some (some (.ref u)))
 {q:Addr}(Es:nsIn K mainGlobals "NoValue"=some (some (.ref q)))
 {p:Addr}(Jd:nsIn K mainGlobals "NoText"=some (some (.ref p)))
 {o:Addr}(Je:nsIn K mainGlobals "NoRoot"=some (some (.ref o)))
 {b:Addr}(MD:nsIn K mainGlobals "NoRow"=some (some (.ref b)))(Jf:excIn K b YJ "ValueError.__new__"=true)(Jg:findIn K (.ref b) "__getattribute__"=some (some (.builtin "BaseException.__getattribute__")))(Jh:findIn K (.ref b) "__getattr__"=some none)(Ji:findIn K (.ref b) "__class__"=some (some (.builtin "object.__class__")))(Jj:mroIn K b (.type "object")=some true)(Jk:mroIn K b (.type "BaseException")=some true)
 {n:Addr}(Jl:nsIn K mainGlobals "TooFar"=some (some (.ref n)))
 {k:Addr}(Jm:nsIn K mainGlobals "NoLine"=some (some (.ref k)))
 (oK:kitOne K (.ref b) (.ref u)=some false)
 (pO:kitOne K (.ref b) (.ref q)=some false)
 (sR:kitOne K (.ref b) (.ref p)=some false)
 (sS:kitOne K (.ref b) (.ref o)=some false)
 (O:kitOne K (.ref b) (.ref b)=some true)
 (sU:kitOne K (.ref b) (.ref n)=some false)
 (sW:kitOne K (.ref b) (.ref k)=some false)
 (lu:kitOne K (.ref b) (.ref c)=some true)
 (ly:kitOne K (.ref b) (.type "ValueError")=some true)
 (dD:mroIn K b (.ref c)=some true)
 :∃F:FuncData,(∀(s:Shared)(v:Value),BindsTo s F ⟨[v],[]⟩ [("_law_script",v)])/\∀base:Heap,K.In base->base.Ns mainGlobals mg->bK l.prog w K mg base JS 10 H F ["_law_script"] (CD K):=by
 obtain⟨A⟩:=Xg X G aa I;have ME:Ae K a ["ahead","last","factor_ahead","factor_last","lead","height","sign","scale","known"]:=⟨⟨IX,IY,IZ,Ja⟩,by decide,by decide+kernel,λx E=>by
  simp only[Fh,pb,or_false]at E;rcases E with rfl|rfl|rfl|rfl|rfl|rfl|rfl|rfl|rfl
  .exact ua
  .exact N
  .exact jO
  .exact kg
  .exact M
  .exact sQ
  .exact L
  .exact uc
  .exact Z⟩
 obtain⟨i,t,C⟩:=N5 (ps:=["self","one","other","factor"]) z (Uz λ_ _ _ _ _ _ _ _ _ _=>rfl);obtain⟨g,r,B⟩:=N5 (ps:=["self"]) y (Uy λ_ _ _ _ _ _ _=>rfl);have D:=A.D (j:=41) rfl;have e:=f.symm.trans D.m;cases e
 let T:Tx K mg:=⟨A,a,⟨de X G IV,ME,Jb,Jc⟩,i,t,C,g,r,B,⟨_,de X G Tv,_,rfl⟩,c,de X G J,⟨Y,U,S,R,Q,P⟩,u,de X G AX,q,de X G Es,p,de X G Jd,o,de X G Je,b,de X G MD,⟨Jf,Jg,Jh,Ji,Jj,Jk⟩,n,de X G Jl,k,de X G Jm,oK,pO,sR,sS,O,sU,sW,lu,ly,dD⟩
 exact⟨A.d 41,λs v=>D.bt s [v] rfl,λbase _ _=>Sv (Xk T)⟩
end MY
namespace PySem.W.Fast
noncomputable def tw13918711072194182296:=0
noncomputable def tw16297850138693220623:=0
def tw10341542594683596307:=0
def tw15124504588268822292:=0
def tw5628790661048612855:=0
def tw18247396555700636406:=0
def tw12817757905203813742:=0
def tw15069958725717035073:=0
def tw5514731824012555881:=0
def tw13295519367375726761:=0
def tw13861137494421409349:=0
def tw11231904550636004688:=0
def tw9609052647229980217:=0
def tw6919904306373019196:=0
def tw12719887122732611389:=0
def tw1075980683282804403:=0
def tw951450305296787284:=0
def tw7794749433673880722:=0
def tw13541044569543629315:=0
def tw8692175241491057962:=0
def tw17122544838403996215:=0
def tw554348763337780792:=0
def tw16460758561362570799:=0
def tw5675353142521061438:=0
def tw1632814427511497162:=0
def tw3279424149655415041:=0
def tw1540018664351609506:=0
def tw8608210341677035213:=0
def tw17480550083985374607:=0
def tw3297170886042946188:=0
def tw562681299806859663:=0
def tw9820307999119902707:=0
def tw12391296773850158226:=0
def tw15068668702478532222:=0
def tw6501692966058123110:=0
def tw9781551456365459891:=0
def tw2635916656106822526:=0
def tw1123232107676078026:=0
def tw3869049476051566081:=0
def tw2334015292331581564:=0
def tw12422442660032685773:=0
def tw5694896900869447543:=0
def tw1922264546383359806:=0
def tw15465897767024647883:=0
def tw18374805002130337025:=0
def tw17469901506387244710:=0
def tw10236360450793582169:=0
def tw1349001026430977270:=0
def tw7639133857397043415:=0
def tw6334176394338765147:=0
def tw10681775582755456458:=0
def tw5694477290969653614:=0
def tw10473781273196797395:=0
def tw4997172456347707426:=0
def tw12815471632595759759:=0
def tw8445459999403175043:=0
def tw5926516059571230730:=0
def tw13888226781932563539:=0
def tw5907448531859816083:=0
def tw14220992504255013772:=0
def tw14642329878439477827:=0
def tw14516834937603575838:=0
def tw11881727712875433954:=0
def tw4346122402559876700:=0
def tw3567669841965593722:=0
def tw4474706457633404342:=0
def tw2217833202757929095:=0
def tw17905923973090215027:=0
def tw14300917165079677306:=0
def tw11339352104694187792:=0
def tw9456377090493271556:=0
def tw9332277937072881521:=0
def tw8211966341895428934:=0
def tw4640978585647847148:=0
def tw2042138432130549790:=0
def tw15907448366452743786:=0
def tw13230431583727657044:=0
def tw12138052974363234783:=0
def tw9675465482644723715:=0
def tw15134392422522828542:=0
def tw15257970893300682585:=0
def tw6402798426489970864:=0
def tw11948054957903068383:=0
def tw8084345452654743930:=0
def tw3509646519755048848:=0
def tw2130192193299671583:=0
def tw15998693504786233333:=0
def tw16878502104277046107:=0
def tw8910180924720048681:=0
def tw12870507117878452549:=0
def tw1774186816823370508:=0
def tw17179349554057028082:=0
def tw4306154183818379495:=0
def tw5943817861897877784:=0
def tw18061399933946450498:=0
def tw6412070670558851594:=0
def tw4735833349792928113:=0
def tw1181757370859289201:=0
def tw5168252625568883562:=0
def tw4656413123243637358:=0
def tw12234448637636845691:=0
def tw1929178660372068094:=0
def tw5620466254922191583:=0
def tw459655018073621750:=0
def tw14993557327914623765:=0
def tw7201737958212450671:=0
def tw10951222589799624909:=0
def tw7658017863776034291:=0
def tw16360563516636153476:=0
def tw1298799844866802134:=0
def tw100171150141274391:=0
def tw624021989499135875:=0
def tw9770266804603104907:=0
def tw12818422794911611809:=0
def tw2695744889669751888:=0
def tw4025751380595424385:=0
def tw3428726755898973911:=0
def tw10937661993251787961:=0
def tw4007487680821290326:=0
def tw7800844590286145763:=0
def tw10022144192142273763:=0
def tw3065617951926823018:=0
def tw10476951338074416463:=0
def tw7350202313375320990:=0
def tw1450551566979428719:=0
def tw6751721925038986348:=0
def tw6447633235733183221:=0
def tw12092684630534165226:=0
def tw7986430607703884497:=0
def tw12956445239377381752:=0
def tw4413661038075381401:=0
def tw6570276727114488164:=0
def tw10824033222848690118:=0
def tw8816795004402769497:=0
def tw16699040548607941385:=0
def tw9545779989814177931:=0
def tw5526147436488989374:=0
def tw9382726326562530545:=0
def tw5403735435007186218:=0
def tw1247641258374638178:=0
def tw8067531810305479003:=0
def tw4921921617533425082:=0
def tw17854491788274391253:=0
def tw12701868281265236014:=0
def tw10337399293437397831:=0
def tw4270392482552217308:=0
def tw12871056553385956135:=0
def tw10393491895997398525:=0
def tw16698095534286255463:=0
def tw7429985189224903718:=0
def tw5349530480520681812:=0
def tw1107978634923147121:=0
def tw6034248953829798769:=0
def tw9959132832495158220:=0
def tw8280479481565837211:=0
def tw300512990939635574:=0
def tw10701389703269922983:=0
def tw13807322085767432657:=0
def tw6398221398888134238:=0
def tw7905015817424152221:=0
def tw13695091988747310304:=0
def tw4356851813736603664:=0
def tw16765598617977542343:=0
def tw13990644928276047135:=0
def tw352683712541017770:=0
def tw14997526172229431221:=0
def tw15346227133150576518:=0
def tw16944876427971014907:=0
def tw8406746286861443438:=0
def tw13433926213484143966:=0
def tw10191780821913901437:=0
def tw6154643015848934579:=0
def tw11780897427956246432:=0
def tw16213595340599938623:=0
def tw13089073197727754715:=0
def tw10283923507652578014:=0
def tw8311958004980924547:=0
def tw7253374751613779888:=0
def tw12969912219911590796:=0
def tw11819668810096232821:=0
def tw17129466065066757157:=0
def tw978687922000964206:=0
def tw8641199301896986753:=0
def tw9016013729146626760:=0
def tw11709742862038487883:=0
def tw14003046980360429717:=0
def tw17401404953244983862:=0
def tw10994669643533498575:=0
def tw9927626536374851066:=0
def tw7907770273564305025:=0
def tw4759944874331766445:=0
def tw15580078149226322750:=0
def tw823664592885229392:=0
def tw13742641047719801576:=0
def tw6907355144751398415:=0
def tw2930981455619354819:=0
def tw15966234504606766504:=0
def tw15928247145917619678:=0
def tw5794737799164866414:=0
def tw11741297291172516290:=0
def tw11530107905419958380:=0
def tw10493525735567676302:=0
def tw6262387418860791674:=0
def tw1074788010930713424:=0
def tw14199913743345291914:=0
def tw11941955952466582994:=0
def tw7250963833509842888:=0
def tw13127699214834848135:=0
def tw3245495841988023517:=0
def tw12358623566566587421:=0
def tw449320669780116219:=0
def tw10511583576194815257:=0
def tw7243501390547033782:=0
def tw14580663073227255070:=0
def tw9167490072959956979:=0
def tw9006683170725748143:=0
def tw87897267726342483:=0
def tw7939453781258564944:=0
def tw7937872840301427871:=0
def tw7249692599611544529:=0
def tw6636157330167935358:=0
def tw5075431285723760638:=0
def tw4291768385371001724:=0
def tw396712282296925049:=0
def tw3294317446179305379:=0
def tw1913470625364802579:=0
def tw16035123798044737458:=0
def tw15914584700643081147:=0
def tw15008621811411704383:=0
def tw15003598137812236686:=0
def tw14737540546238666233:=0
def tw14707028469089780469:=0
def tw14250668079776155767:=0
def tw13523766218776355792:=0
def tw12542291514454872125:=0
def tw1109159064157839001:=0
def tw10439072051867708636:=0
def tw835962067108103078:=0
def tw72084246538316972:=0
def tw697337255490974247:=0
def tw653299553612664591:=0
def tw5723833818548858925:=0
def tw567572015643964965:=0
def tw5523478890641880422:=0
def tw5130480030515010666:=0
def tw3756869037327292952:=0
def tw3604082675368752602:=0
def tw3387209249654637205:=0
def tw3092268474077086051:=0
def tw2457563539416098467:=0
def tw206128480786943355:=0
def tw2018059763353530373:=0
def tw194732066854844643:=0
def tw1936655858411907821:=0
def tw17810923668722937664:=0
def tw17007545631014944392:=0
def tw15220779055342770823:=0
def tw13037444478471127863:=0
def tw12165842766393736004:=0
def tw11911192428751222341:=0
def tw1168250989758673217:=0
def tw17120593862181435721:=0
def tw2505240337334844984:=0
def tw6499817900099101722:=0
def tw2964216862935533971:=0
def tw5648319171022184827:=0
def tw10463112393398406119:=0
def tw9670933222174480370:=0
def tw8006679131284962689:=0
def tw6833075023492115265:=0
def tw16890240509215923520:=0
def tw11027154239082772894:=0
def tw337406463494296262:=0
def tw16387422815468350431:=0
def tw8509042997618730242:=0
def tw16339814528685315705:=0
def tw14979543925328493361:=0
def tw10117240617950243247:=0
def tw1998808872256886437:=0
def tw6865733328710558796:=0
def tw16944128827767906410:=0
def tw2437602828566554431:=0
end PySem.W.Fast
open PySem PySem.W PyProof.Rows
set_option maxRecDepth 100000 in
set_option maxHeartbeats 0 in
theorem PySem.Challenge.cw_paperwright_k44_stretches_told_holds : PySem.Challenge.rw_paperwright_k44_stretches_told.Holds := by
 w_on;o_law;k_head;(case hw=>w_witness2)
 k_fill
 refine VL.walk (l:=PySem.Challenge.rw_paperwright_k44_stretches_told) (k:=10) rfl rfl ⟨rfl,by decide,by decide⟩ (by decide+kernel) rfl (fun w h Y=>PySem.W.kIn_of Y) ?F
 case F=>
  intro w mg fa h KX G hmg
  refine' MY.all_mk KX G hmg ?yy0 ?yy1 ?yy2 ?yy3 ?yy4 ?yy5 ?yy6 ?yy7 ?yy8 ?yy9 ?Z1 ?Z2 ?Z3 ?Z4 ?Z5 ?Z6 ?Z7 ?Z8 ?Z9 ?aaa ?aab ?aac ?aad ?aae ?aaf ?aag ?aah ?aai ?aaj ?aak ?aal ?aam ?aan ?aao ?aap ?aaq ?aar ?aas ?aat ?aau ?aav ?aaw ?aax ?aay ?aaz ?aaA ?aaB ?aaC ?aaD ?aaE ?aaF
  (case yy0|yy1|yy2|yy3|yy4|yy5|yy6|yy7|yy8|yy9|Z1|Z2|Z3|Z4|Z5|Z6=>k_is)
  (case Z7|Z8=>walk_at "hm")
  (case Z9=>(iterate 42 walk_at "ah");exact trivial)
  (case aaa=>(iterate 17 walk_at "az");exact trivial)
  (case aab|aac=>k_is)
  (case aad=>k_exc)
  (case aae|aaf|aag|aah|aai|aaj|aak|aal|aam|aan=>k_is)
  (case aao=>k_exc)
  (case aap|aaq|aar|aas|aat|aau|aav=>k_is)
  (case aaw|aax|aay|aaz|aaA|aaB|aaC|aaD|aaE=>kit_is)
  (case aaF=>k_is)
