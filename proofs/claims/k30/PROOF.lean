import PyProof.Rows.All
import Wide.All
import OpenK.AllK
import Wide.FinOn
import Lean
import PyProof.EqAt
import PyProof.EqKinds
import PyProof.TupleCall
import PySem.Challenge.RW_paperwright_k30_whole_prime_parts_split
set_option Elab.async false
set_option linter.all false
set_option maxRecDepth 100000
set_option maxHeartbeats 4000000
set_option hygiene false in
local macro_rules | `(tactic| walk_at "lo") => `(tactic| first | exact False.elim h | (obtain ⟨rfl, _⟩ := h; rfl) | (obtain ⟨_, h⟩ := h; walk_at "lo"))
set_option hygiene false in
local macro_rules | `(tactic| walk_at "l") => `(tactic| (intro _ _ _ h; walk_at "lo"))
set_option hygiene false in
local macro_rules | `(tactic| fin2) => `(tactic| first | dsimp only [↓Mh, Mi, wSs, wS, wE, wA, xx, LQ, wP, HD, ze, HE, bX, setAt, List.getElem?_cons_zero, List.getElem?_cons_succ, look, List.set, bw, qG, bJ, aq, List.map_cons, List.map_nil, List.nil_append, List.cons_append, x_len, zf, zg, FF, FG, FH, zh, ve, vf, qH, FI, FJ, FL, FN, FO, FP, zj, FQ, FT, FU, Mj, Ml, x_lt, Mm, Mp, Mq, FW, FY, vg, Mr, FZ, F3, F4, Mt, F5, F6, F7, F8, vh, qI, Mu, zk, F9, Mv, zm, vj, fall, List.replicate, if_true, Bool.not_true, Bool.not_false] | simp only [List.getElem?_cons_zero, List.getElem?_cons_succ, List.map_cons, List.map_nil, List.nil_append, List.cons_append, x_len, zf, zg, FF, FG, FH, zh, ve, vf, qH, FI, FJ, FL, FN, FO, FP, zj, FQ, FT, FU, Mj, Ml, x_lt, Mm, Mp, Mq, FW, FY, vg, Mr, FZ, F3, F4, Mt, F5, F6, F7, F8, vh, qI, Mu, zk, F9, Mv, zm, vj, fall, List.replicate, if_true, Bool.not_true, Bool.not_false] | skip)
set_option hygiene false in
local macro_rules | `(tactic| walk_at "hd") => `(tactic| (refine' Ga.Mw ?ka ?kl ?kc ?kk; (case ka => k_is); (case kl => k_is); (case kc => k_is); (case kk => k_is)))
set_option hygiene false in
local macro_rules | `(tactic| walk_at "hm") => `(tactic| (refine' Ga.R7 ?ka ?ki ?kl ?kc ?kk; (case ka => k_is); (case ki => k_is); (case kl => k_is); (case kc => k_is); (case kk => k_is)))
set_option hygiene false in
local macro_rules | `(tactic| walk_at "bn") => `(tactic| first | exact Ga.Qa fun _ _ _ _ _ _ _ => rfl | exact Ga.Qc fun _ _ _ _ _ _ _ _ => rfl | exact Ga.Qd fun _ _ _ _ _ _ _ _ _ => rfl | exact Ga.Qe fun _ _ _ _ _ _ _ _ _ _ => rfl)
set_option hygiene false in
local macro_rules | `(tactic| walk_at "ah") => `(tactic| (refine' And.intro (And.intro ?h1 ?h2) ?_; (case h1 => walk_at "hd"); (case h2 => walk_at "bn")))
set_option hygiene false in
local macro_rules | `(tactic| walk_at "az") => `(tactic| (refine' And.intro ?h1 ?_; (case h1 => k_is)))
open List renaming getD_eq_getElem?_getD->AC,length_map->AN,getElem?_eq_getElem->B1,getElem?_map->Da,size_toArray->Do,mem_singleton->Ee,mem_cons_self->FC,mem_cons_of_mem->FK,getElem?_eq_none->FR,getElem?_eq_some_iff->Fh,mem_append_right->Fk,length_append->Fm,mem_cons->GE,length_range->GT,mem_append->Gc,isEmpty_iff->Hb,length_pos_iff->Hc,all_eq_true->He,mem_map->IH,getElem?_set_ne->KF,getElem?_append_right->KM,mem_range->Kb,length_set->Kk,getElem_mem->L9,getElem?_append_left->N0,getElem?_range->Nw,length_eq_zero_iff->OK,mem_of_getElem?->On,mem_append_left->Os,map_cons->P3,getElem?_set_self->PH,drop_eq_getElem_cons->PP,map_congr_left->Pv,map_append->QP,length_take->QQ,mem_filter->Re,length_reverse->SB,nodup_cons->SZ,ext_getElem?->T1,getElem_of_mem->T2,getElem?_replicate->TK,cons_lt_cons_iff->W1,reverse_cons->W2,pairwise_map->W3,map_map->W9,pairwise_iff_getElem->WA,getElem?_take_of_lt->WC,map_replicate->WG,range_succ_eq_map->WI,map_set->WJ,length_eq_one_iff->WK,length_replicate->WO,not_mem_nil->WR,pairwise_cons->Wp,getLast?_eq_getElem?->Wr,getElem?_set->Ws,pairwise_singleton->X0,getLast?_cons_cons->X1,pairwise_lt_range->X6,append_nil->X7,getElem?_reverse->X9,reverse_reverse->XC,pairwise_append->XD,nodup_nil->XE,replicate->Dg,range->Ea,length_cons->Eb,length_singleton->F2,toArray->G1,lookup_cons->G2,all_cons->Gg,replicate_succ->Gh,flatten_cons->IM,length_nil->LR,zip_cons_cons->LS,filterMap_cons->Mc,set_comm->Ng,mem_filterMap->OC,getElem_range->OD,nodup_append->OO,map_nil->OQ,append_assoc->OS,length_drop->R6,of_mem_zip->R8,map_const'->RA,exists_cons_of_ne_nil->S0,map_take->SY,eq_of_mem_replicate->Sa,dropLast_eq_take->Tt,contains_iff_mem->Tv,map_inj_right->UP,foldl->Ua,take_length->V2,map_reverse->VG,drop_length->VH,any_eq_true->VI,range_succ->VO,nil_append->VQ,take_zero->VX,map_drop->Vj,length->XJ
open Bool renaming and_eq_true->Ap,false_ne_true->Hm,and_eq_true_iff->Iy,or_false->Pm,and_false->Qr,not_eq_true->Ta,eq_iff_iff->WD,false_eq_true->WH,not_eq_true'->Wu,or_eq_true->X8,true_and->Wj,and_true->Wl
open Nat renaming le_refl->BM,lt_of_lt_of_le->GM,ne_of_lt->Ha,le_trans->Hn,zero_le->KE,add_sub_cancel->Kj,lt_irrefl->Mo,lt_succ_of_lt->Sr,lt_succ_self->W7,le_of_eq->W8,lt_of_le_of_ne->WE,le_of_not_lt->WQ,mul_le_mul_left->WV,le_add_right->Wz,ne_of_gt->X4,le_of_lt->X5,pow_one->XA,pow_add->XB,pow_succ->IU,pow_zero->Ik,succ_mul->Pz,sub_zero->Q9,sub_self->Qf,lt_trans->Qh,add_sub_cancel_left->Sf,zero_add->Sy,mul_comm->TZ,pow_pos->U1,le_zero->U2,add_right_comm->Ui,lt_succ_of_le->Uy,succ_le_succ->VJ,le_antisymm->VR,lt_or_ge->XI,mul_add->XZ,log2_lt->Xa,le_succ->Xb,succ->Xg
open PySem.Heap renaming get?_push_of_some->D1,lt_size->FM,get?_push_size->Fn,get?_update_ne->UF
open Lean.Grind.Semiring renaming pow_zero->D2,pow_add->W4
open PySem renaming wpAny_bind->Dx,wpAny_pure->KB,wpAny_loadPart'->Ki,mem_of_lookup->Kx,wpAny_truthy_bool->Pi,wpAny_mono->RF,sizeLine_eq->TC,wpAny_Call_Name_kw->W5,wpAny_passesOwn->W6,wpAny_standAt->WZ,wpAny_holding->Wo,codeAny_mono->Wv,wpAny_bindName->Wx
open Classical renaming byContradiction->FV,not_forall->SA,not_not->Xl,not_imp->Xm
open Int renaming fmod_eq_emod_of_nonneg->HI,emod_lt_of_pos->NA,emod_add_mul_ediv->OF,fdiv_eq_ediv_of_nonneg->Oy,emod_nonneg->PQ,dvd_add->Qb,zero_mul->SF,mul_comm->SL,mul_le_mul_of_nonneg_left->Tb,add_zero->Ts,le_of_dvd->UV,dvd_trans->W0,sub_zero->WL,mul_zero->WM,mul_le_mul_of_nonneg_right->WU,toNat_of_nonneg->WW,zero_add->WY,natAbs_mul->Wq,gcd_dvd_right->Wt,gcd_dvd_left->X2,emod_eq_zero_of_dvd->X3,one_mul->XF,dvd_neg->XG,toNat_natCast->F1,gcd->LY,natCast_succ->MY,ofNat_inj->OI,lt_or_le->Qk,emod_eq_of_lt->R0,mul_one->RN,dvd_sub->RT,dvd_mul_of_dvd_right->Sb,dvd_of_emod_eq_zero->Sw,dvd_zero->Tz,natAbs_dvd_natAbs->U0,neg_mul->U5,mul_nonneg->Vw,mul_le_mul->Vx,zero_emod->Wn,mul_assoc->XH,zero_sub->XO,sub_self->XQ,pow_zero->XR,pow_succ->XS,ofNat_lt->XT,le_total->XU,mul_neg->Xc,dvd_gcd->Xd
open Option.some renaming inj->Hk
open Option renaming map_eq_some_iff->IR,isSome_iff_exists->QR,map_some->HP,getD_some->IS,getD_none->UO,none->Vi
open PyProof.Rows renaming callWith_type1->Kt,assignInOrder_cons->WB,lt_int->Rn,callWith_kw->XX,callWith_builtin1->XY
open Ne renaming symm->NM
open PySem.W renaming kia_one->P2
open Lean.Grind.Ring renaming intCast_one->SC,intCast_sub->WX,intCast_zero->N9,intCast_mul->NF,intCast_add->NG,intCast_neg->Vl
open PySem.SeqAt.EqAt renaming int_int->Wy
open False renaming elim->Gx
open Array renaming length_toList->HL,getD_eq_getD_getElem?->RU,perm_iff_toList_perm->Rv,getElem?_toList->Sx,forIn_toList->U6,append_assoc->UC,toList->Wm,getD->XW
open ForInStep renaming yield->IV
open True renaming intro->Mx
open List.Pairwise renaming imp_of_mem->OJ,nil->XM,imp->XN
open Sum renaming inr->PL,inl->PU
open Nat.succ renaming inj->Rw
open PyProof renaming noPylong_small->S2
open List.Perm renaming mem_iff->Sv,refl->U4,map->Xi,length_eq->Xj
open Quotient renaming lift->Ub
open Nat.Coprime renaming dvd_of_dvd_mul_left->Xe
open And renaming right->Xf,left->Xn
open List.cons renaming injEq->Xh
open Decidable renaming not_not->Xk
noncomputable def Bi:=@if_neg
noncomputable def Bn:=@of_decide_eq_true
noncomputable def Bz:=@if_pos
noncomputable def DL:=@decide_eq_true
noncomputable def FS:=@decide_eq_true_eq
noncomputable def Fs:=@congrArg
noncomputable def Jn:=@decide_eq_false
noncomputable def Pl:=@beq_iff_eq
noncomputable def SU:=@of_decide_eq_false
noncomputable def TB:=@beq_self_eq_true
noncomputable def Ww:=@if_false
open PySem.W(instObj methodObj hideAll_get Frag lookIn plainGet findIn emptyDict isFn keepIn mroIn kitOne fnOf codeIn nsIn)
noncomputable section
set_option bootstrap.genMatcherCode false
namespace L2
open PySem PySem.Spec PyProof.Rows
abbrev Key:=Sum Int Str
noncomputable def Gb:Key->Value->Bool
 |.inl k,v=>Value.isInt k v
 |.inr x,v=>Value.isStrOf x v
noncomputable def Qg(w:World):Key->Int
 |.inl k=>hashInt k
 |.inr x=>hashStr w x
theorem bf:∀{k:Key}{v:Value},Gb k v=true->(∃i t,k=PU i/\v=Value.int i t)\/(∃x t,k=PL x/\v=Value.str x t)
 |.inl i,v,h=>by obtain⟨t,e⟩:=Value.isInt_shape (k:=i) (v:=v) h;exact .inl ⟨i,t,rfl,e⟩
 |.inr x,v,h=>by obtain⟨t,e⟩:=Value.isStrOf_shape (x:=x) (v:=v) h;exact .inr ⟨x,t,rfl,e⟩
theorem HF(a b:Int):decide ((PU a:Key)=PU b)=(a==b):=by
 by_cases e:a=b
 .subst e;simp
 .have h:¬(PU a:Key)=PU b:=λq=>e (Sum.inl.inj q);rw[Jn h];exact(beq_eq_false_iff_ne.mpr e).symm
theorem HG(a b:Str):decide ((PL a:Key)=PL b)=decide (a=b):=by
 by_cases e:a=b
 .subst e;simp
 .have h:¬(PL a:Key)=PL b:=λq=>e (Sum.inr.inj q);rw[Jn h,Jn e]
theorem HH(a:Int)(b:Str):decide ((PU a:Key)=PL b)=false:=Jn (λq=>nomatch q)
theorem HJ(a:Str)(b:Int):decide ((PL a:Key)=PU b)=false:=Jn (λq=>nomatch q)
noncomputable def vm(prog:Program)(w:World):PySem.KeyKind prog w Key where
 is:=Gb
 hash:=Qg w
 inj:=λv a b g d=>by
  rcases bf g with⟨i,t,rfl,rfl⟩|⟨x,t,rfl,rfl⟩
  .rcases bf d with⟨j,u,rfl,e⟩|⟨y,u,rfl,e⟩
   .injection e with e1 _;rw[e1]
   .exact nomatch e
  .rcases bf d with⟨j,u,rfl,e⟩|⟨y,u,rfl,e⟩
   .exact nomatch e
   .injection e with e1 _;rw[e1]
 byValue:=λk v h=>by rcases bf h with⟨i,t,rfl,rfl⟩|⟨x,t,rfl,rfl⟩<;>rfl
 pyHash:=λc h=>by
  rcases bf c with⟨i,t,rfl,rfl⟩|⟨x,t,rfl,rfl⟩
  .exact wpAny_pyHash_int h
  .exact wpAny_pyHash_str h
 eqBool:=λf c h=>by
  rcases bf f with⟨i,t,rfl,rfl⟩|⟨x,t,rfl,rfl⟩
  .rcases bf c with⟨j,u,rfl,rfl⟩|⟨y,u,rfl,rfl⟩
   .rw[HF]at h;exact wpAny_eqBool_int h
   .rw[HH]at h;exact SeqAt.EqAt.int_str i t y u _ _ _ _ h
  .rcases bf c with⟨j,u,rfl,rfl⟩|⟨y,u,rfl,rfl⟩
   .rw[HJ]at h;exact SeqAt.EqAt.str_int x t j u _ _ _ _ h
   .rw[HG]at h;exact wpAny_eqBool_str h
 «strs»:=λk x t v h=>by
  rcases bf h with⟨i,u,rfl,e⟩|⟨y,u,rfl,e⟩
  .exact nomatch e
  .injection e with e1 _;subst e1;cases v<;>rfl
inductive V where
 |aJ|bl (b:Bool)|int (i:Int)|str (x:Str)|yY (b:Array UInt8)|HK (b:UInt64)|ref (a:Addr)|ty (n:String)
 deriving DecidableEq
noncomputable def RelV:V->Value->Prop
 |.aJ,u=>u=Value.none
 |.bl b,u=>u=Value.bool b
 |.int i,u=>∃t,u=Value.int i t
 |.str x,u=>∃t,u=Value.str x t
 |.yY b,u=>∃t,u=Value.bytes b t
 |.HK b,u=>∃t,u=Value.float b t
 |.ref a,u=>u=Value.ref a
 |.ty n,u=>u=Value.type n
abbrev Vals:List V->List Value->Prop:=Paired RelV
theorem Vals.length{a:List V}{b:List Value}(r:Vals a b):a.length=b.length:=Paired.length r
theorem Vals.get:∀{a:List V}{b:List Value}{i:Nat}{x:V},Vals a b->a[i]?=some x->∃u,b[i]?=some u/\RelV x u
 |_,_,_,_,.nil,e=>by simp at e
 |_,_,0,_,.cons r _,e=>by simp at e;subst e;exact⟨_,rfl,r⟩
 |_,_,i+1,x,.cons _ t,e=>by obtain⟨u,d,c⟩:=Vals.get (i:=i) (x:=x) t (by simpa using e);exact⟨u,by simpa using d,c⟩
theorem Vals.set{x:V}{u:Value}(r:RelV x u):∀{a:List V}{b:List Value}(i:Nat),Vals a b->Vals (a.set i x) (b.set i u)
 |_,_,_,.nil=>.nil
 |_,_,0,.cons _ t=>.cons r t
 |_,_,i+1,.cons q t=>.cons q (Vals.set r i t)
theorem Vals.append:∀{b a:List V}{d c:List Value},Vals b d->Vals a c->Vals (b++a) (d++c)
 |_,_,_,_,.nil,s=>s
 |_,_,_,_,.cons r t,s=>.cons r (Vals.append t s)
theorem Vals.take:∀{a:List V}{b:List Value}(n:Nat),Vals a b->Vals (a.take n) (b.take n)
 |_,_,0,_=>.nil
 |_,_,_+1,.nil=>.nil
 |_,_,n+1,.cons r t=>.cons r (Vals.take n t)
theorem Vals.drop:∀{a:List V}{b:List Value}(n:Nat),Vals a b->Vals (a.drop n) (b.drop n)
 |_,_,0,r=>r
 |_,_,_+1,.nil=>.nil
 |_,_,n+1,.cons _ t=>Vals.drop n t
noncomputable def xy:Option V->Option Value->Prop
 |some v,some u=>RelV v u
 |none,none=>True
 |_,_=>False
noncomputable def KV{κ:Type}:List (κ×V)->List (κ×Value)->Prop:=Paired λ(p:κ×V)(q:κ×Value)=>p.1=q.1/\RelV p.2 q.2
noncomputable def kV:Key->V
 |.inl i=>.int i
 |.inr x=>.str x
inductive HO where
 |lst (xs:List V)
 |tup (xs:List V)
 |dK (kvs:List (Key×V))|dT (kvs:List (List Key×V))
 |set (S:Int->Bool) (n:Nat)
 |ins (C dx:Addr) (fs:List (Str×V))
 |own (x:Addr)
 |xd (fs:List (Str×V))
 |met (f x:Addr)
 |gJ (lo hi:Int)
 |qJ (o:Obj) (u:HO)
 |Ge (ps:Array Value)
 |ext (φ:Heap->Prop)
abbrev Hp:=Addr->Option HO
noncomputable def upd(H:Hp)(a:Addr)(o:HO):Hp:=λb=>if b=a then some o else H b
theorem aQ{H:Hp}{a:Addr}{o:HO}:upd H a o a=some o:=by unfold upd;rw[Bz rfl]
theorem ay{H:Hp}{a b:Addr}{o:HO}(h:b≠a):upd H a o b=H b:=by unfold upd;rw[Bi h]
theorem aS{H:Hp}{a b:Addr}{o:HO}(h:H a=some o)(h':H b=none):a≠b:=by intro e;subst e;rw[h]at h';cases h'
section
variable(P:Program)(w:World)
noncomputable def bF(H:Hp)(h:Heap)(a:Addr):HO->Prop
 |.lst d=>d.length<=sizeLine/\∃(c:List Value)(n:Nat),Vals d c/\h.get? a=some {cls:=.type "list",data:=.seq c.toArray n}
 |.tup d=>d.length<=sizeLine/\∃c:List Value,Vals d c/\IsTup h a c.toArray
 |.dK b=>b.length<=sizeLine/\(a==sysModules)=false/\∃vs,KV b vs/\h.DictOf (vm P w) a vs
 |.dT b=>b.length<=sizeLine/\(a==sysModules)=false/\∃d:List (List Key×Addr×Value),
   Paired (λ(p:List Key×V)(q:List Key×Addr×Value)=>p.1=q.1/\H q.2.1=some (.tup (p.1.map kV))/\RelV p.2 q.2.2) b d/\
   ∃o l y,h.get? a=some o/\o.ExactDict/\o.data=.dict l y/\l.toList=d.map (entryOfKey (tupleKind (vm P w)))/\(d.map (·.1)).Nodup
 |.set S n=>h.SetOf (intKind P w) a S n
 |.ins C i g=>H i=some (.own a)/\g.length<=1000/\i≠a/\h.get? a=some (instObj C i)/\
   ∃e,h.Ns1 i e/\(∀f,xy (g.lookup f) (e f))/\PySem.Within e (g.map (·.1))
 |.own _=>∃o,h.get? a=some o
 |.xd g=>∃e,h.Ns1 a e/\∀f,xy (g.lookup f) (e f)
 |.gJ r s=>∃t u v,h.get? a=some {cls:=.type "range",data:=.fields #[.int r t,.int s u,.int 1 v]}
 |.qJ o u=>h.get? a=some o/\bF H h a u
 |.Ge m=>h.get? a=some {cls:=.none,data:=.fields m}
 |.met f x=>h.get? a=some (methodObj (.ref f) (.ref x))
 |.ext φ=>φ h/\(∃o,h.get? a=some o)/\∀k j:Heap,φ k->(∀o,k.get? a=some o->j.get? a=some o)->φ j
noncomputable def ic(H:Hp)(h:Heap):Prop:=∀a o,H a=some o->bF P w H h a o
end
section
variable{P:Program}{w:World}{H H':Hp}{h h':Heap}{a:Addr}{o:HO}
theorem bF.lt(x:bF P w H h a o):a<h.objs.size:=by
 cases o with
 |lst c=>obtain⟨_,_,_,_,e⟩:=x;exact FM e
 |tup c=>obtain⟨_,_,_,p⟩:=x;exact p.lt
 |dK b=>obtain⟨_,_,_,_,o,_,_,e,_⟩:=x;exact FM e
 |dT b=>obtain⟨_,_,_,_,o,_,_,e,_⟩:=x;exact FM e
 |set S n=>obtain⟨o,_,_,_,e,_⟩:=x;exact FM e
 |ins C l d=>obtain⟨_,_,_,e,_⟩:=x;exact FM e
 |own y=>obtain⟨_,e⟩:=x;exact FM e
 |xd d=>obtain⟨_,⟨_,_,_,e,_⟩,_⟩:=x;exact FM e
 |gJ j k=>obtain⟨_,_,_,e⟩:=x;exact FM e
 |qJ i u=>obtain⟨e,_⟩:=x;exact FM e
 |Ge g=>exact FM (show h.get? a=some _ from x)
 |met f y=>exact FM (show h.get? a=some _ from x)
 |ext φ=>obtain⟨_,⟨_,e⟩,_⟩:=x;exact FM e
theorem Paired.CK{α e:Type}{F G:α->e->Prop}:∀{d:List α}{c:List e},Paired F d c->(∀a b,F a b->G a b)->Paired G d c
 |_,_,.nil,_=>.nil
 |_,_,.cons r t,f=>.cons (f _ _ r) (Paired.CK t f)
theorem bF.stay(x:bF P w H h a o)(k:∀b u,(b=a\/H b=some (.own a))->h.get? b=some u->h'.get? b=some u)
 (L:∀b,H b=some (.own a)->H' b=some (.own a))(K:∀b m,H b=some (.tup m)->H' b=some (.tup m)):bF P w H' h' a o:=by
 induction o with
 |lst m=>obtain⟨z,l,n,r,e⟩:=x;exact⟨z,l,n,r,k _ _ (.inl rfl) e⟩
 |tup m=>obtain⟨z,l,r,g,e,c⟩:=x;exact⟨z,l,r,g,k _ _ (.inl rfl) e,c⟩
 |dK B=>obtain⟨z,y,G,r,g,i,j,e,c⟩:=x;exact⟨z,y,G,r,g,i,j,k _ _ (.inl rfl) e,c⟩
 |dT B=>obtain⟨z,y,m,r,g,i,j,e,c⟩:=x;exact⟨z,y,m,Paired.CK r λp q z=>⟨z.1,K _ _ z.2.1,z.2.2⟩,g,i,j,k _ _ (.inl rfl) e,c⟩
 |set S n=>obtain⟨g,i,j,t,e,c⟩:=x;exact⟨g,i,j,t,k _ _ (.inl rfl) e,c⟩
 |ins C R M=>obtain⟨d,z,I,e,A,⟨s,i,j,N,c⟩,r⟩:=x;exact⟨L _ d,z,I,k _ _ (.inl rfl) e,A,⟨s,i,j,k _ _ (.inr d) N,c⟩,r⟩
 |own y=>obtain⟨g,e⟩:=x;exact⟨g,k _ _ (.inl rfl) e⟩
 |xd M=>obtain⟨A,⟨s,i,j,e,c⟩,r⟩:=x;exact⟨A,⟨s,i,j,k _ _ (.inl rfl) e,c⟩,r⟩
 |gJ O Q=>obtain⟨t,u,v,e⟩:=x;exact⟨t,u,v,k _ _ (.inl rfl) e⟩
 |qJ g u J=>obtain⟨e,q⟩:=x;exact⟨k _ _ (.inl rfl) e,J q⟩
 |Ge E=>have e:h.get? a=some {cls:=.none,data:=.fields E}:=x;show h'.get? a=some {cls:=.none,data:=.fields E};exact k a _ (.inl rfl) e
 |met f y=>have e:h.get? a=some (methodObj (.ref f) (.ref y)):=x;show h'.get? a=some (methodObj (.ref f) (.ref y));exact k a _ (.inl rfl) e
 |ext φ=>obtain⟨p,⟨o,e⟩,D⟩:=x;exact⟨D _ _ p λo q=>k _ _ (.inl rfl) q,⟨o,k _ _ (.inl rfl) e⟩,D⟩
theorem ic.lt(x:ic P w H h)(e:H a=some o):a<h.objs.size:=(x a o e).lt
theorem ic.fresh(x:ic P w H h)(e:h.objs.size<=a):H a=none:=by
 cases q:H a with
 |none=>rfl
 |some u=>exact absurd (GM (x.lt q) e) (Mo _)
theorem ic.kept(x:ic P w H h)(k:∀b u,h.get? b=some u->h'.get? b=some u):ic P w H h':=λa o e=>(x a o e).stay (λb u _ q=>k b u q) (λ_ q=>q) λ_ _ q=>q
theorem ic.laid(x:ic P w H h)(k:∀b u,h.get? b=some u->h'.get? b=some u)(i:h.objs.size<=a)(d:bF P w (upd H a o) h' a o):ic P w (upd H a o) h':=λb u e=>by
 have f:=x.fresh i;by_cases g:b=a
 .subst g;rw[aQ]at e;cases e;exact d
 .rw[ay g]at e;exact(x b u e).stay (λc v _ q=>k c v q) (λc q=>by rw[ay (aS q f)];exact q) λc j q=>by rw[ay (aS q f)];exact q
end
noncomputable def Rd(H:Hp)(a:Addr)(u:HO):Prop:=H a=some u\/∃o,H a=some (.qJ o u)
theorem Rd.ok{P:Program}{w:World}{H:Hp}{h:Heap}{a:Addr}{u:HO}(r:Rd H a u)(x:ic P w H h):bF P w H h a u:=by
 rcases r with r|⟨o,r⟩
 .exact x a u r
 .obtain⟨_,q⟩:=x a _ r;exact q
noncomputable def Pp:Option HO->Prop
 |some (.lst _)=>True
 |some (.dK _)=>True
 |some (.dT _)=>True
 |some (.set _ _)=>True
 |some (.ins _ _ _)=>True
 |some (.ext _)=>True
 |_=>False
section
variable{P:Program}{w:World}{H:Hp}{h h':Heap}{x e:Addr}{o':HO}
theorem ic.write(o:ic P w H h)(d:Pp (H x))(m:e=x\/H e=some (.own x))(k:∀b u,b≠e->h.get? b=some u->h'.get? b=some u)(t:∃u,h'.get? e=some u)
 (j:bF P w (upd H x o') h' x o'):ic P w (upd H x o') h':=λb u q=>by
 have n:∀c y,H c=some (.own y)->c≠x:=λc y r z=>by subst z;rw[r]at d;exact d
 have s:∀c a,H c=some (.tup a)->c≠x:=λc a r z=>by subst z;rw[r]at d;exact d
 by_cases g:b=x
 .subst g;rw[aQ]at q;cases q;exact j
 .rw[ay g]at q;by_cases i:b=e
  .have l:H b=some (.own x):=by
    rcases m with z|z
    .exact absurd (i.trans z) g
    .rw[i];exact z
   rw[q]at l;cases l;obtain⟨v,p⟩:=t;exact⟨v,by rw[i];exact p⟩
  .refine(o b u q).stay (λc v f r=>k c v ?_ r) (λc r=>by rw[ay (n c b r)];exact r) λc a r=>by rw[ay (s c a r)];exact r
   rcases f with rfl|f
   .exact i
   .rintro rfl;rcases m with z|z
    .exact n c b f z
    .rw[f]at z;cases z;exact g rfl
end
structure Un(fs ex:List Addr)(H H':Hp)(h h':Heap):Prop where
 keep:∀b o,h.get? b=some o->H b=none->b∉fs->b∉ex->h'.get? b=some o
 slot:∀b o,h.get? b=some o->H b=none->b∈fs->b∉ex->∃sl,h'.get? b=some {o with slots:=sl}
 free:∀b o,h.get? b=some o->H b=none->b∉ex->H' b=none
 there:∀b o,h.get? b=some o->b∉ex->∃o',h'.get? b=some o'
 tups:∀b xs,H b=some (.tup xs)->H' b=some (.tup xs)
 iu:∀b o u,H b=some (.qJ o u)->H' b=some (.qJ o u)
 i9:∀b ps,H b=some (.Ge ps)->∃more,H' b=some (.Ge (ps++more))
section
variable{fs fs' ex ex':List Addr}{H H1 H2:Hp}{h h1 h2 h':Heap}{a x e:Addr}{o:HO}
theorem Un.any(u:Un fs ex H H1 h h1){b:Addr}{c:Obj}(q:h.get? b=some c)(n:H b=none)(d:b∉ex):∃g,h1.get? b=some {c with slots:=g}:=by
 by_cases f:b∈fs
 .exact u.slot b c q n f d
 .exact⟨c.slots,u.keep b c q n f d⟩
theorem Un.kept(k:∀b u,h.get? b=some u->h'.get? b=some u):Un fs ex H H h h':=
 ⟨λb c q _ _ _=>k b c q,λb c q _ _ _=>⟨c.slots,k b c q⟩,λ_ _ _ n _=>n,λb c q _=>⟨c,k b c q⟩,λ_ _ q=>q,λ_ _ _ q=>q,λ_ d q=>⟨#[],by rw[q];simp⟩⟩
theorem Un.refl:Un fs ex H H h h:=Un.kept λ_ _ q=>q
theorem Un.laid(k:∀b u,h.get? b=some u->h'.get? b=some u)(f:h.objs.size<=a)(c:H a=none):Un fs ex H (upd H a o) h h' where
 keep:=λb u q _ _ _=>k b u q
 slot:=λb u q _ _ _=>⟨u.slots,k b u q⟩
 free:=λb u q n _=>by rw[ay (Ha (GM (FM q) f))];exact n
 there:=λb u q _=>⟨u,k b u q⟩
 tups:=λb d q=>by rw[ay (aS q c)];exact q
 iu:=λb u d q=>by rw[ay (aS q c)];exact q
 i9:=λb g q=>⟨#[],by rw[ay (aS q c),q];simp⟩
theorem Un.write(c:Pp (H x))(m:e=x\/H e=some (.own x))(k:∀b u,b≠e->h.get? b=some u->h'.get? b=some u)(p:∃u,h'.get? e=some u):Un fs ex H (upd H x o) h h':=by
 have f:∀b,H b=none->b≠x:=λb n z=>by subst z;rw[n]at c;exact c
 have g:∀b,H b=none->b≠e:=λb n z=>by
  subst z;rcases m with r|r
  .exact f b n r
  .rw[n]at r;cases r
 have d:∀b u,H b=some u->¬Pp (some u)->b≠x:=λb u q l z=>by subst z;rw[q]at c;exact l c
 refine⟨λb u q n _ _=>k b u (g b n) q,λb u q n _ _=>⟨u.slots,k b u (g b n) q⟩,λb u q n _=>by rw[ay (f b n)];exact n,λb u q _=>?_,
  λb j q=>by rw[ay (d b _ q λz=>z)];exact q,λb u j q=>by rw[ay (d b _ q λz=>z)];exact q,λb s q=>⟨#[],by rw[ay (d b _ q λz=>z),q];simp⟩⟩
 by_cases i:b=e
 .subst i;exact p
 .exact⟨u,k b u i q⟩
end
noncomputable def Pu(h:Heap)(H:Hp):List Addr:=(Ea h.objs.size).filter λa=>(H a).isSome
noncomputable def oh(h:Heap)(H:Hp):Heap:=PySem.W.hideAll h (Pu h H)
theorem xA(h:Heap)(H:Hp):(oh h H).objs.size=h.objs.size:=PySem.W.hideAll_size _ _
theorem zo{h:Heap}{H:Hp}{b:Addr}{o:Obj}(e:h.get? b=some o)(n:H b=none):(oh h H).get? b=some o:=
 hideAll_get _ e λa=>by have q:(H b).isSome=true:=(Re.mp a).2;rw[n]at q;simp at q
theorem CL{h:Heap}{H:Hp}{b:Addr}{o:Obj}(e:(oh h H).get? b=some o):h.get? b=some o/\H b=none:=by
 have a:h.get? b=some o:=PySem.W.of_hideAll (Pu h H) e;refine⟨a,?_⟩;cases q:H b with
 |none=>rfl
 |some x=>have c:b∈Pu h H:=Re.mpr ⟨Kb.mpr (FM a),by simp[q]⟩;have z:(oh h H).get? b=none:=PySem.W.hideAll_none (Pu h H) c;rw[z]at e;cases e
noncomputable def CM(g h:Heap)(L:Addr):List (Addr×Obj):=(Ea h.objs.size).filterMap λa=>if a=L\/(g.get? a).isSome=true then none else(h.get? a).map λo=>(a,o)
noncomputable def rest(g h:Heap)(L d:Addr):List (Addr×Obj):=(CM g h L).filter λp=>decide (p.1≠d)
structure Mod(K:Frag)(mg:Str->Option Value)(base:Heap):Prop where
 Px:K.In base
 glob:base.Ns mainGlobals mg
 blt:∃mb,base.Ns builtinsNs mb/\∀x:Str,x≠"__name__"->mb x=bootBuiltins x
 nolimit:base.NoLimit
 seer:base.NoSeer
set_option genInjectivity false in
set_option genSizeOf false in
structure Cx where
 prog:Program
 w:World
 K:Frag
 mg:Str->Option Value
 base:Heap
 A:Around
 N:List Str
 s₀:Shared
 H₀:Hp
 env:Env
 outer:List Env
 stack:List Env
 ex:List Addr
 fn:Str->Bool
 calm:Bool
 pn:List (Addr×Obj)
 xe:Value->Shared->Prop
noncomputable def frs(l:List Env):List Addr:=l.filterMap (·.frame)
abbrev Cx.fs(X:Cx):List Addr:=frs X.outer
noncomputable def HM(sc:Scope)(x:Str):Prop:=sc.names.lookup x=some .local\/sc.names.lookup x=some .cell\/sc.names.lookup x=some .free
noncomputable def Loc(sc:Scope)(x:Str):Prop:=sc.names.lookup x=some .local\/sc.names.lookup x=some .cell
noncomputable def Look(env:Env)(h:Heap)(m:Str->Option Value)(x:Str)(u:Value):Prop:=
 (env.kindOf x=some .local/\m x=some u)\/((env.kindOf x=some .cell\/env.kindOf x=some .free)/\∃c,env.cells.lookup x=some c/\h.IsCell c (some u))
structure Cx.Ok(X:Cx):Prop where
 mod:Mod X.K X.mg X.base
 kind:X.env.scope.kind=.function
 glob:X.env.globals=mainGlobals
 blt:X.env.builtins=builtinsNs
 above:X.s₀.heap.objs.size<=X.env.locals
 inj:∀x y c,X.env.cells.lookup x=some c->X.env.cells.lookup y=some c->x=y
 has:∀x,(X.env.kindOf x=some .cell\/X.env.kindOf x=some .free)->∃c,X.env.cells.lookup x=some c
 My:∀x c,X.fn x=true->X.env.cells.lookup x=some c->X.s₀.heap.objs.size<=c
 hd:X.calm=true->X.A.handled=none
 frames:X.A.frames=some X.stack
 stk:X.stack=X.outer\/(X.stack=X.env::X.outer/\X.env.frame=some X.env.locals)
 Qi:∀b∈X.ex,b≠X.env.locals/\∀x c,X.env.cells.lookup x=some c->c≠b
 bs:∀b o,X.base.get? b=some o->X.s₀.heap.get? b=some o/\X.H₀ b=none
 CB:X.base.objs.size<=X.s₀.heap.objs.size
 zp:∀b o,X.base.get? b=some o->b∉X.ex
 zq:∀b∈X.ex,b∉X.fs
 ja:X.s₀.heap.FunFrames X.base X.outer
 Gf:∀b∈X.fs,X.H₀ b=none
 tree:X.prog.given.tree=none
 Py:∀(A:Around)(s:Shared),A.frames=X.A.frames->A.depth=X.A.depth->(∀b o,X.base.get? b=some o->s.heap.get? b=some o)->PylongRoom (model X.prog X.w) A s
structure Inv(X:Cx)(pins:List (Addr×Obj))(σ:List (Option V))(H:Hp)(s:Shared):Prop where
 ok:X.Ok
 os:s.os=X.s₀.os
 bare:AllBare s.gens
 base:Un X.fs X.ex X.H₀ H X.s₀.heap s.heap
 loc:∃m,s.heap.Ns X.env.locals m/\∀(i:Nat)(x:Str)(v:V),X.N[i]?=some x->σ[i]?=some (some v)->HM X.env.scope x->∃u,RelV v u/\Look X.env s.heap m x u
 cell:∀x c,X.env.cells.lookup x=some c->∃v,s.heap.IsCell c v
 free:H X.env.locals=none
 fY:∀x c,X.env.cells.lookup x=some c->H c=none
 pin:∀p∈X.pn++pins,s.heap.get? p.1=some p.2/\H p.1=none/\p.1≠X.env.locals/\p.1∉X.fs/\∀v,p.2.data≠.cell v
 hok:ic X.prog X.w H s.heap
 len:σ.length=X.N.length
section
variable{X:Cx}{pins:List (Addr×Obj)}{σ:List (Option V)}{H H':Hp}{s:Shared}{h':Heap}
theorem Cx.Ok.CN(a:X.Ok){b:Addr}{o:Obj}(e:X.base.get? b=some o):b∉X.fs:=λc=>by have:=(a.ja.mem c).1;rw[e]at this;cases this
theorem Inv.bs(I:Inv X pins σ H s):∀b o,X.base.get? b=some o->s.heap.get? b=some o/\H b=none:=λb o e=>⟨I.base.keep b o (I.ok.bs b o e).1 (I.ok.bs b o e).2 (I.ok.CN e) (I.ok.zp b o e),I.base.free b o (I.ok.bs b o e).1 (I.ok.bs b o e).2 (I.ok.zp b o e)⟩
theorem Inv.bk(I:Inv X pins σ H s):∀b o,X.base.get? b=some o->s.heap.get? b=some o:=λb o e=>(I.bs b o e).1
theorem Inv.mod(I:Inv X pins σ H s):Mod X.K X.mg X.base:=I.ok.mod
theorem Inv.kg(I:Inv X pins σ H s):X.K.In s.heap:=I.ok.mod.Px.keeps I.bk
theorem Inv.lt(I:Inv X pins σ H s):X.env.locals<s.heap.objs.size:=let⟨_,hn,_⟩:=I.loc;hn.lt
theorem Inv.sz(I:Inv X pins σ H s):X.s₀.heap.objs.size<=s.heap.objs.size:=Hn I.ok.above (X5 I.lt)
theorem Inv.Qj(I:Inv X pins σ H s){a:Addr}(h:s.heap.objs.size<=a):a∉X.fs:=λc=>by obtain⟨_,o,b,_⟩:=I.ok.ja.mem c;exact absurd (GM (FM b) (Hn I.sz h)) (Mo _)
theorem Inv.HN(I:Inv X pins σ H s):∀x c,X.env.cells.lookup x=some c->c≠X.env.locals:=λx c e z=>by obtain⟨v,o,d,f⟩:=I.cell x c e;obtain⟨m,⟨g,h,i,a,b,_⟩,_⟩:=I.loc;rw[z,a]at d;cases d;rw[b]at f;cases f
theorem Inv.ja(I:Inv X pins σ H s):s.heap.FunFrames X.base X.outer:=by
 have f:∀(l:List Env),(∀b∈frs l,b∈X.fs)->X.s₀.heap.FunFrames X.base l->s.heap.FunFrames X.base l:=by
  intro l
  induction l with
  |nil=>intro _ _;trivial
  |cons env r h=>intro g m;obtain⟨n,⟨L,o,a,k,j,p⟩,i⟩:=m;have d:L∈X.fs:=g L (by unfold frs;rw[Mc,a];exact FC);obtain⟨q,e⟩:=I.base.slot L o j (I.ok.Gf L d) d λz=>I.ok.zq L z d;exact⟨n,⟨L,_,a,k,e,p⟩,h (λb c=>g b (by unfold frs;rw[Mc,a];exact FK _ c)) i⟩
 exact f X.outer (λ_ c=>c) I.ok.ja
theorem Inv.stack(I:Inv X pins σ H s):s.heap.FunFrames X.base X.stack:=by
 rcases I.ok.stk with e|⟨e,b⟩
 .rw[e];exact I.ja
 .rw[e];obtain⟨m,a,_⟩:=I.loc;refine .cons (by rw[I.ok.kind];decide) b a ?_ I.ja;exact Heap.get?_none_of_le (Hn I.ok.CB I.ok.above)
theorem Inv.sZ(I:Inv X pins σ H s):∀b∈frs X.stack,b∈X.env.locals::X.fs:=λb a=>by
 rcases I.ok.stk with e|⟨e,c⟩
 .rw[e]at a;exact FK _ a
 .rw[e]at a;unfold frs at a;rw[Mc,c]at a;exact a
theorem Inv.iz(I:Inv X pins σ H s):∀b∈frs X.stack,H b=none:=λb a=>by
 rcases GE.mp (I.sZ b a)with e|a
 .rw[e];exact I.free
 .obtain⟨_,o,c,_⟩:=I.ok.ja.mem a;exact I.base.free b o c (I.ok.Gf b a) λz=>I.ok.zq b z a
theorem Inv.step{g':Array GenState}{t':Nat}{d':Drawn}{ch:List Addr}(I:Inv X pins σ H s)
 (f:∀b∈ch,(b∈X.ex\/X.s₀.heap.objs.size<=b)/\b≠X.env.locals/\(∀x c,X.env.cells.lookup x=some c->c≠b)/\∀p∈X.pn++pins,p.1≠b)
 (keep:∀b o,b≠X.env.locals->b∉X.fs->b∉ch->s.heap.get? b=some o->H b=none->h'.get? b=some o)
 (slot:∀b o,b≠X.env.locals->b∈X.fs->b∉ch->s.heap.get? b=some o->H b=none->∃J,h'.get? b=some {o with slots:=J})(free:∀b o,b∉ch->s.heap.get? b=some o->H b=none->H' b=none)
 (there:∀b o,b∉ch->s.heap.get? b=some o->∃A,h'.get? b=some A)
 (tups:∀b j,H b=some (.tup j)->H' b=some (.tup j))(iu:∀b o u,H b=some (.qJ o u)->H' b=some (.qJ o u))(i9:∀b E,H b=some (.Ge E)->∃B,H' b=some (.Ge (E++B)))
 (ns:∀m,s.heap.Ns X.env.locals m->h'.Ns X.env.locals m)(K:ic X.prog X.w H' h')(Y:AllBare g'):
 Inv X pins σ H' {s with heap:=h',gens:=g',drawn:=d',toks:=t'}:=by
 have Q:∀b o,X.s₀.heap.get? b=some o->b≠X.env.locals:=λb o e=>Ha (GM (FM e) I.ok.above);have G:∀b o,X.s₀.heap.get? b=some o->b∉X.ex->b∉ch:=λb o e a t=>by
  rcases(f b t).1 with z|z
  .exact a z
  .exact absurd (GM (FM e) z) (Mo _)
 have g:∀x c,X.env.cells.lookup x=some c->∀v,s.heap.IsCell c v->h'.IsCell c v:=λx c e v ⟨o,y,L⟩=>by
  have D:c∉ch:=λz=>(f c z).2.2.1 x c e rfl;by_cases P:c∈X.fs
  .obtain⟨J,q⟩:=slot c o (I.HN x c e) P D y (I.fY x c e);exact⟨_,q,L⟩
  .exact⟨o,keep c o (I.HN x c e) P D y (I.fY x c e),L⟩
 refine⟨I.ok,I.os,Y,⟨λb o e n t a=>?_,λb o e n t a=>?_,λb o e n a=>?_,λb o e a=>?_,λb j e=>tups b j (I.base.tups b j e),λb o j e=>iu b o j (I.base.iu b o j e),λb E e=>?_⟩,?_,λx c e=>?_,?_,λx c e=>?_,λp O=>?_,K,I.len⟩
 .exact keep b o (Q b o e) t (G b o e a) (I.base.keep b o e n t a) (I.base.free b o e n a)
 .obtain⟨J,h⟩:=I.base.slot b o e n t a;obtain⟨TF,C⟩:=slot b _ (Q b o e) t (G b o e a) h (I.base.free b o e n a);exact⟨TF,C⟩
 .obtain⟨A,h⟩:=I.base.there b o e a;exact free b A (G b o e a) h (I.base.free b o e n a)
 .obtain⟨A,h⟩:=I.base.there b o e a;exact there b A (G b o e a) h
 .obtain⟨S,h⟩:=I.base.i9 b E e;obtain⟨R,C⟩:=i9 b _ h;exact⟨S++R,by rw[C,UC]⟩
 .obtain⟨m,T,U⟩:=I.loc;refine⟨m,ns m T,λi x v h C Z=>?_⟩;obtain⟨u,r,l⟩:=U i x v h C Z;refine⟨u,r,?_⟩;rcases l with l|⟨k,c,e,z⟩
  .exact .inl l
  .exact .inr ⟨k,c,e,g x c e _ z⟩
 .obtain⟨v,z⟩:=I.cell x c e;exact⟨v,g x c e v z⟩
 .obtain⟨m,⟨o,_,_,y,_⟩,_⟩:=I.loc;exact free _ o (λz=>(f _ z).2.1 rfl) y I.free
 .obtain⟨v,o,y,L⟩:=I.cell x c e;exact free c o (λz=>(f c z).2.2.1 x c e rfl) y (I.fY x c e)
 .obtain⟨e,n,N,M,d⟩:=I.pin p O;have D:p.1∉ch:=λz=>(f p.1 z).2.2.2 p O rfl;exact⟨keep p.1 p.2 N M D e n,free p.1 p.2 D e n,N,M,d⟩
theorem Inv.un{t':Nat}(I:Inv X pins σ H s)(u:Un X.fs [] H H' s.heap h')(c:ic X.prog X.w H' h'):Inv X pins σ H' {s with heap:=h',toks:=t'}:=by obtain⟨m,⟨o,t,v,g,r⟩,_⟩:=id I.loc;obtain⟨l,j⟩:=u.any g I.free (by simp);exact I.step (g':=s.gens) (d':=s.drawn) (ch:=[]) (λ_ z=>nomatch z) (λb o _ d _ e n=>u.keep b o e n d (by simp)) (λb o _ d _ e n=>u.slot b o e n d (by simp)) (λb o _ e n=>u.free b o e n (by simp)) (λb o _ e=>u.there b o e (by simp)) u.tups u.iu u.i9 (λq i=>by obtain⟨p,f,k,a,h⟩:=i;rw[g]at a;cases a;exact⟨_,f,k,j,h⟩) c I.bare
theorem Inv.call{g':Array GenState}{t':Nat}{d':Drawn}{ch:List Addr}(I:Inv X pins σ H s)(u:Un (frs X.stack) ch H H' s.heap h')(g:ic X.prog X.w H' h')(q:AllBare g')
 (f:∀b∈ch,(b∈X.ex\/X.s₀.heap.objs.size<=b)/\b≠X.env.locals/\(∀x c,X.env.cells.lookup x=some c->c≠b)/\∀p∈X.pn++pins,p.1≠b):
 Inv X pins σ H' {s with heap:=h',gens:=g',drawn:=d',toks:=t'}:=by
 obtain⟨m,⟨o,C,D,j,r⟩,_⟩:=id I.loc;obtain⟨y,h⟩:=u.any j I.free λz=>(f _ z).2.1 rfl;exact I.step (ch:=ch) f (λb o h t a e n=>u.keep b o e n (λz=>(GE.mp (I.sZ b z)).elim h t) a) (λb o _ _ a e n=>u.any e n a) (λb o a e n=>u.free b o e n a) (λb o a e=>u.there b o e a) u.tups u.iu u.i9 (λB l=>by obtain⟨A,i,v,d,k⟩:=l;rw[j]at d;cases d;exact⟨_,i,v,h,k⟩) g q
theorem Inv.turned{t':Nat}{a:Addr}(I:Inv X pins σ H s)(k:∀b o,b≠a->s.heap.get? b=some o->h'.get? b=some o)(i:H a=none)(f:a≠X.env.locals)
 (y:a∈X.ex\/X.s₀.heap.objs.size<=a)(w:∀x c,X.env.cells.lookup x=some c->c≠a)(t:∀p∈X.pn++pins,p.1≠a):Inv X pins σ H {s with heap:=h',toks:=t'}:=by
 have g:∀b u,H b=some u->b≠a:=λb u e z=>by rw[z,i]at e;cases e
 refine I.step (g':=s.gens) (d':=s.drawn) (ch:=[a]) (λb l=>?_) (λb o _ _ d e _=>k b o (λz=>d (by simp[z])) e) (λb o _ _ d e _=>⟨o.slots,k b o (λz=>d (by simp[z])) e⟩) (λ_ _ _ _ n=>n)
  (λb o d e=>⟨o,k b o (λz=>d (by simp[z])) e⟩) (λ_ _ e=>e) (λ_ _ _ e=>e) (λb C e=>⟨#[],by rw[e];simp⟩) (λm j=>?_) (λb u e=>?_) I.bare
 .have e:b=a:=by simpa using l
  subst e;exact⟨y,f,w,t⟩
 .obtain⟨o,A,B,h,r⟩:=j;exact⟨o,A,B,k _ o (NM f) h,r⟩
 .refine(I.hok b u e).stay (λc v d q=>k c v ?_ q) (λ_ q=>q) λ_ _ q=>q;rcases d with z|z
  .rw[z];exact g b u e
  .exact g c _ z
theorem Inv.tok(I:Inv X pins σ H s)(t:Nat):Inv X pins σ H {s with toks:=t}:=I.un (h':=s.heap) (t':=t) Un.refl I.hok
theorem Inv.kept{t':Nat}(I:Inv X pins σ H s)(k:∀b u,s.heap.get? b=some u->h'.get? b=some u):Inv X pins σ H {s with heap:=h',toks:=t'}:=I.un (Un.kept k) (I.hok.kept k)
theorem Inv.laid{a:Addr}{o:HO}{t':Nat}(I:Inv X pins σ H s)(k:∀b u,s.heap.get? b=some u->h'.get? b=some u)(d:s.heap.objs.size<=a)(c:bF X.prog X.w (upd H a o) h' a o):
 Inv X pins σ (upd H a o) {s with heap:=h',toks:=t'}:=I.un (Un.laid k d (I.hok.fresh d)) (I.hok.laid k d c)
theorem Inv.write{x e:Addr}{o:HO}{t':Nat}(I:Inv X pins σ H s)(c:Pp (H x))(d:e=x\/H e=some (.own x))(k:∀b u,b≠e->s.heap.get? b=some u->h'.get? b=some u)(f:∃u,h'.get? e=some u)
 (a:bF X.prog X.w (upd H x o) h' x o):Inv X pins σ (upd H x o) {s with heap:=h',toks:=t'}:=I.un (Un.write c d k f) (I.hok.write c d k f a)
theorem Inv.jV{a:List (Addr×Obj)}(I:Inv X pins σ H s)(h:∀p∈a,s.heap.get? p.1=some p.2/\H p.1=none/\p.1≠X.env.locals/\p.1∉X.fs/\∀v,p.2.data≠.cell v):Inv X a σ H s:=
 ⟨I.ok,I.os,I.bare,I.base,I.loc,I.cell,I.free,I.fY,λp b=>(Gc.mp b).elim (λz=>I.pin p (Os _ z)) (h p),I.hok,I.len⟩
theorem qK{N:List Str}(c:N.Nodup){i j:Nat}{x:Str}(a:N[i]?=some x)(b:N[j]?=some x):i=j:=by obtain⟨g,e⟩:=Fh.mp a;obtain⟨f,d⟩:=Fh.mp b;exact(List.getElem_inj c).mp (e.trans d.symm)
theorem m8{M:Model}{A:Around}{E:Value->Shared->Prop}{i:Nat}{x:Str}{v:V}{u:Value}{Q:Unit->Shared->Prop}(I:Inv X pins σ H s)(hN:X.N.Nodup)(P:X.N[i]?=some x)(B:Loc X.env.scope x)(r:RelV v u)
 (h:∀s',Inv X pins (σ.set i (some v)) H s'->(∃a,Heap.SameBut a s.heap s'.heap/\(a=X.env.locals\/X.env.cells.lookup x=some a))->Q () s')(hf:X.fn x=true\/X.env.scope.names.lookup x=some .local:=by first|exact .inl rfl|exact .inr rfl|assumption):wpAny M A (storeName X.env x u) Q E s:=by
 obtain⟨m,hn,hl⟩:=id I.loc;have R:(X.env.scope.kind==.class||(X.env.scope.kind==.module&&X.env.locals !=X.env.globals))=false:=by rw[I.ok.kind];rfl
 have Mz:i<σ.length:=by rw[I.len];exact(Fh.mp P).1
 have HN:=I.HN;have g:∀{a:Addr}{h':Heap},(∃o,s.heap.get? a=some o/\H a=none)->Heap.SameBut a s.heap h'->ic X.prog X.w H h':=λ{a h'} ha f b ob e=>by
  obtain⟨_,_,C⟩:=ha;refine(I.hok b ob e).stay (λc U t q=>(f.2 c ?_).trans q) (λ_ q=>q) λ_ _ q=>q;rintro rfl;rcases t with rfl|t
  .rw[C]at e;cases e
  .rw[C]at t;cases t
 rcases B with G|G
 .refine wpAny_storeName_local G hn (λh' hn' f=>?_) R;obtain⟨oL,_,_,PB,_⟩:=id hn;refine h _ ⟨I.ok,I.os,I.bare,⟨λb o e n L B=>?_,λb o e n L B=>?_,I.base.free,λb o e B=>?_,I.base.tups,I.base.iu,I.base.i9⟩,⟨_,hn',λj y v' l D e3=>?_⟩,λy c e=>?_,I.free,I.fY,λp hp=>?_,g ⟨oL,PB,I.free⟩ f,by simpa using I.len⟩ ⟨_,f,.inl rfl⟩
  .exact(f.2 b (Ha (GM (FM e) I.ok.above))).trans (I.base.keep b o e n L B)
  .obtain⟨sl,l⟩:=I.base.slot b o e n L B;exact⟨sl,(f.2 b (Ha (GM (FM e) I.ok.above))).trans l⟩
  .obtain⟨o',l⟩:=I.base.there b o e B;exact⟨o',(f.2 b (Ha (GM (FM e) I.ok.above))).trans l⟩
  .by_cases J:j=i
   .subst J;rw[P]at l;cases l;rw[PH Mz]at D;cases D;exact⟨u,r,.inl ⟨G,by simp⟩⟩
   .rw[KF (NM J)]at D;obtain⟨u',r',q⟩:=hl j y v' l D e3;refine⟨u',r',?_⟩;rcases q with⟨k,e⟩|⟨k,c,e,z⟩
    .refine .inl ⟨k,?_⟩;have:y≠x:=λe=>J (qK hN l (e▸P));simp[this,e]
    .exact .inr ⟨k,c,e,z.sameBut f (HN y c e)⟩
  .obtain⟨U,z⟩:=I.cell y c e;exact⟨U,z.sameBut f (HN y c e)⟩
  .obtain⟨e,n,Y,nf,d⟩:=I.pin p hp;exact⟨(f.2 p.1 Y).trans e,n,Y,nf,d⟩
 .have K:X.fn x=true:=by
   rcases hf with z|z
   .exact z
   .rw[z]at G;cases G
  obtain⟨c,t⟩:=I.ok.has x (.inl G);obtain⟨U,z⟩:=I.cell x c t;refine wpAny_storeName_cell I.ok.kind G t z (λh' T f=>?_);obtain⟨oc,O,Ql⟩:=id z;refine h {s with heap:=h'} ⟨I.ok,I.os,I.bare,⟨λb o e n L B=>?_,λb o e n L B=>?_,I.base.free,λb o e B=>?_,I.base.tups,I.base.iu,I.base.i9⟩,⟨m,hn.sameBut f (NM (HN x c t)),λj y v' l D e3=>?_⟩,λy Z e=>?_,I.free,I.fY,λp hp=>?_,g ⟨oc,O,I.fY x c t⟩ f,by simpa using I.len⟩ ⟨c,f,.inr t⟩
  .exact(f.2 b (Ha (GM (FM e) (I.ok.My x c K t)))).trans (I.base.keep b o e n L B)
  .obtain⟨sl,l⟩:=I.base.slot b o e n L B;exact⟨sl,(f.2 b (Ha (GM (FM e) (I.ok.My x c K t)))).trans l⟩
  .obtain⟨o',l⟩:=I.base.there b o e B;exact⟨o',(f.2 b (Ha (GM (FM e) (I.ok.My x c K t)))).trans l⟩
  .by_cases J:j=i
   .subst J;rw[P]at l;cases l;rw[PH Mz]at D;cases D;exact⟨u,r,.inr ⟨.inl G,c,t,T⟩⟩
   .rw[KF (NM J)]at D;obtain⟨u',r',q⟩:=hl j y v' l D e3;refine⟨u',r',?_⟩;rcases q with q|⟨k,Z,e,z'⟩
    .exact .inl q
    .refine .inr ⟨k,Z,e,z'.sameBut f ?_⟩;rintro rfl;exact J (qK hN l (I.ok.inj _ _ _ e t▸P))
  .by_cases S:Z=c
   .subst S;exact⟨_,T⟩
   .obtain⟨w2,z2⟩:=I.cell y Z e;exact⟨w2,z2.sameBut f S⟩
  .obtain⟨e,n,Y,nf,d⟩:=I.pin p hp;refine⟨(f.2 p.1 ?_).trans e,n,Y,nf,d⟩;intro q;rw[q,O]at e;have q':oc=p.2:=Hk e;exact d U (by rw[<-q'];exact Ql)
theorem di{M:Model}{A:Around}{E:Value->Shared->Prop}{i:Nat}{x:Str}{v:V}{u:Value}{Q:Unit->Shared->Prop}(I:Inv X pins σ H s)(d:X.N.Nodup)(b:X.N[i]?=some x)(a:Loc X.env.scope x)(r:RelV v u)
 (h:∀s',Inv X pins (σ.set i (some v)) H s'->Q () s')(c:X.fn x=true\/X.env.scope.names.lookup x=some .local:=by first|exact .inl rfl|exact .inr rfl|assumption):wpAny M A (storeName X.env x u) Q E s:=
 m8 I d b a r (λs' e _=>h s' e) c
theorem Inv.Gi{s':Shared}{ch:List Addr}(I:Inv X pins σ H s)(g:s'.os=s.os)(u:Un (frs X.stack) ch H H' s.heap s'.heap)(a:ic X.prog X.w H' s'.heap)(h:AllBare s'.gens)
 (d:∀b∈ch,(b∈X.ex\/X.s₀.heap.objs.size<=b)/\b≠X.env.locals/\(∀x c,X.env.cells.lookup x=some c->c≠b)/\∀p∈X.pn++pins,p.1≠b):Inv X pins σ H' s':=by
 obtain⟨h',g',d',t',f⟩:=s';have e:f=s.os:=g;subst e;exact I.call (g':=g') (t':=t') (d':=d') u a h d
end
abbrev XK:=Value->Option Addr->Hp->Prop
abbrev St:=List (Option V)
abbrev VK:=V->Hp->Prop
abbrev TE:=St->Hp->VK->Prop
abbrev TT:=St->Hp->(Bool->Hp->Prop)->Prop
abbrev TA:=St->Hp->(List V->Hp->Prop)->Prop
set_option genInjectivity false in
set_option genSizeOf false in
structure Ends where
 nx:St->Hp->Prop
 rt:VK
 bk:St->Hp->Prop:=λ_ _=>False
 ct:St->Hp->Prop:=λ_ _=>False
abbrev TS:=Ends->St->Hp->Prop
noncomputable def EP(X:Cx)(a:List (Addr×Obj))(c:St)(Q:VK)(u:Value)(s':Shared):Prop:=∃v b,Inv X a c b s'/\RelV v u/\Q v b
noncomputable def TP(X:Cx)(a:List (Addr×Obj))(d:St)(Q:Bool->Hp->Prop)(b:Bool)(s':Shared):Prop:=∃c,Inv X a d c s'/\Q b c
noncomputable def AP(X:Cx)(a:List (Addr×Obj))(d:St)(Q:List V->Hp->Prop)(e:List Value)(s':Shared):Prop:=∃b c,Inv X a d c s'/\Vals b e/\Q b c
noncomputable def SP(X:Cx)(b:List (Addr×Obj))(D:Ends)(f:Flow)(s':Shared):Prop:=
 match f with
 |.next=>∃a c,Inv X b a c s'/\D.nx a c
 |.brk=>∃a c,Inv X b a c s'/\D.bk a c
 |.cont=>∃a c,Inv X b a c s'/\D.ct a c
 |.ret u=>∃v a c,Inv X b a c s'/\RelV v u/\D.rt v c
noncomputable def PE(X:Cx)(e:Expr)(t:TE):Prop:=
 ∀(a:List (Addr×Obj))(s:Shared)(b:St)(H:Hp)(Q:VK),Inv X a b H s->t b H Q->wpAny (model X.prog X.w) X.A (eval e X.env) (EP X a b Q) X.xe s
noncomputable def PT(X:Cx)(e:Expr)(t:TT):Prop:=
 ∀(a:List (Addr×Obj))(s:Shared)(b:St)(H:Hp)(Q:Bool->Hp->Prop),Inv X a b H s->t b H Q->wpAny (model X.prog X.w) X.A (isTrue e X.env (eval e X.env)) (TP X a b Q) X.xe s
noncomputable def PW(X:Cx)(e:Expr)(t:TT):Prop:=
 ∀(b:Sem Value)(a:List (Addr×Obj))(s:Shared)(c:St)(H:Hp)(Q:Bool->Hp->Prop),Inv X a c H s->t c H Q->wpAny (model X.prog X.w) X.A (isTrue e X.env b) (TP X a c Q) X.xe s
theorem PW.pt{X:Cx}{e:Expr}{t:TT}(h:PW X e t):PT X e t:=h _
noncomputable def PA(X:Cx)(d:List Expr)(t:TA):Prop:=
 ∀(c:Pos)(a:List (Addr×Obj))(s:Shared)(b:St)(H:Hp)(Q:List V->Hp->Prop),Inv X a b H s->t b H Q->wpAny (model X.prog X.w) X.A (spliced (backTo c (starEach d X.env))) (AP X a b Q) X.xe s
noncomputable def PS(X:Cx)(st:Stmt)(t:TS):Prop:=
 ∀(a:List (Addr×Obj))(s:Shared)(b:St)(H:Hp)(D:Ends),Inv X a b H s->t D b H->wpAny (model X.prog X.w) X.A (exec st X.env) (SP X a D) X.xe s
noncomputable def qL(X:Cx)(st:List Stmt)(t:TS):Prop:=
 ∀(a:List (Addr×Obj))(s:Shared)(b:St)(H:Hp)(D:Ends),Inv X a b H s->t D b H->wpAny (model X.prog X.w) X.A (execs st X.env) (SP X a D) X.xe s
theorem bq{α:Type}{t:Sem α}{Q b:α->Shared->Prop}{M:Model}{A:Around}{E:Value->Shared->Prop}{s:Shared}(h:wpAny M A t Q E s)(c:∀a s,Q a s->b a s):wpAny M A t b E s:=RF h c λ_ _ x=>x
section
variable{X:Cx}
theorem bin{a b:Expr}{ta l:TE}(z:PE X a ta)(t:PE X b l){c:List (Addr×Obj)}{s:Shared}{d:St}{H:Hp}{R:V->V->Hp->Prop}(I:Inv X c d H s)(h:ta d H λx k=>l d k λy e=>R x y e)
 {α:Type}{Q:α->Shared->Prop}{f:Value->Value->Sem α}
 (r:∀v u j x y e,Inv X c d e j->RelV x v->RelV y u->R x y e->wpAny (model X.prog X.w) X.A (f v u) Q X.xe j):
 wpAny (model X.prog X.w) X.A (eval a X.env) (λv i=>wpAny (model X.prog X.w) X.A (eval b X.env) (λu g=>wpAny (model X.prog X.w) X.A (f v u) Q X.xe g) X.xe i) X.xe s:=by
 refine bq (z c s d H _ I h) λv m ⟨x,k,I1,o,q⟩=>?_;refine bq (t c m d k _ I1 q) λu j ⟨y,e,B,n,p⟩=>?_;exact r v u j x y e B o n p
noncomputable def mG(i:Nat):TE:=λa H Q=>∃v,a[i]?=some (some v)/\Q v H
noncomputable def tC(v:V):TE:=λ_ H Q=>Q v H
theorem zu{i:Nat}{x:Str}{pos:Pos}(w:X.N[i]?=some x)(o:HM X.env.scope x)(g:(x==("__debug__":Str))=false:=by decide)(j:(x==("__classdict__":Str))=false:=by decide):PE X (.Name x pos) (mG i):=by
 intro f s n H Q I h;obtain⟨v,e,h⟩:=h;obtain⟨m,p,t⟩:=I.loc;obtain⟨u,r,l⟩:=t i x v w e o;have d:EP X f n Q u s:=⟨v,H,I,r,h⟩;rcases l with⟨b,q⟩|⟨b,c,k,a⟩
 .exact wpAny_Name (wpAny_loadName_local I.ok.kind b p q d) g
 .rcases b with b|b
  .exact wpAny_Name (wpAny_loadName_cell I.ok.kind b k a d) g
  .exact wpAny_Name (wpAny_loadName_free I.ok.kind b k a d j) g
theorem zv{i j pos}:PE X (.Constant (.int i) j pos) (tC (.int i)):=λ_ _ _ H _ I h=>wpAny_Constant_int ⟨.int i,H,I.tok _,⟨_,rfl⟩,h⟩
theorem MA{b j pos}:PE X (.Constant (.bool b) j pos) (tC (.bl b)):=λ_ _ _ H _ I h=>Constant_bool ⟨.bl b,H,I,rfl,h⟩
theorem HQ{j pos}:PE X (.Constant .none j pos) (tC .aJ):=λ_ _ _ H _ I h=>Constant_none ⟨.aJ,H,I,rfl,h⟩
theorem HR{x j pos}:PE X (.Constant (.str x) j pos) (tC (.str x)):=λ_ _ _ H _ I h=>Calls.Constant_str ⟨.str x,H,I.tok _,⟨_,rfl⟩,h⟩
noncomputable def Gl(X:Cx)(x:Str):Prop:=X.env.kindOf x=some .globalImplicit
theorem oi{E:Value->Shared->Prop}{a:List (Addr×Obj)}{s:Shared}{b:St}{H:Hp}{x:Str}{u:Value}{pos:Pos}{Q:Value->Shared->Prop}(I:Inv X a b H s)(d:Gl X x)(c:X.mg x=some u)(h:Q u s)
 (e:(x==("__debug__":Str))=false:=by decide):wpAny (model X.prog X.w) X.A (eval (.Name x pos) X.env) Q E s:=
 Calls.Name_function_global I.ok.kind d (Calls.loadGlobal_global (by rw[I.ok.glob];exact I.mod.glob.keeps I.bk) c h) e
theorem dj{E:Value->Shared->Prop}{a:List (Addr×Obj)}{s:Shared}{b:St}{H:Hp}{x:Str}{u:Value}{pos:Pos}{Q:Value->Shared->Prop}(I:Inv X a b H s)(f:Gl X x)(e:X.mg x=none)(c:bootBuiltins x=some u)(h:Q u s)
 (d:x≠"__name__":=by decide)(g:(x==("__debug__":Str))=false:=by decide):wpAny (model X.prog X.w) X.A (eval (.Name x pos) X.env) Q E s:=by
 obtain⟨k,j,i⟩:=I.mod.blt;exact Calls.Name_function_global I.ok.kind f (Calls.loadGlobal_builtin (by rw[I.ok.glob];exact I.mod.glob.keeps I.bk) e (by rw[I.ok.blt];exact j.keeps I.bk) ((i x d).trans c) h) g
theorem vn{x:Str}{v:V}{u:Value}{pos:Pos}(b:Gl X x)(a:X.mg x=some u)(r:RelV v u)(c:(x==("__debug__":Str))=false:=by decide):PE X (.Name x pos) (tC v):=
 λ_ _ _ H _ I h=>oi I b a ⟨v,H,I,r,h⟩ c
theorem CO{x:Str}{v:V}{u:Value}{pos:Pos}(d:Gl X x)(c:X.mg x=none)(a:bootBuiltins x=some u)(r:RelV v u)(b:x≠"__name__":=by decide)(e:(x==("__debug__":Str))=false:=by decide):PE X (.Name x pos) (tC v):=
 λ_ _ _ H _ I h=>dj I d c a ⟨v,H,I,r,h⟩ b e
variable{a b:Expr}{ta tb:TE}{pos:Pos}
noncomputable def tB(t:TE):TT:=λd H Q=>t d H λx e=>∃c,x=.bl c/\Q c e
theorem HS{e:Expr}{t:TE}(h:PE X e t)(l:∀c,isTrue e X.env c=(do let v<-c;standAt e.pos;holding [v] (truthy v)):=by intro _;rfl):PT X e (tB t):=by intro f s g H Q I k;refine isTrue_plain (bq (h f s g H _ I k) λv n ⟨x,m,I1,i,j⟩=>?_) (l _);obtain⟨d,rfl,q⟩:=j;cases i;exact Pi ⟨m,I1,q⟩
variable{tA PC:TT}{rest:List Expr}
noncomputable def Qm(t u:TT):TT:=λd H Q=>t d H λc e=>if c=true then u d e Q else Q false e
noncomputable def TH(t u:TT):TT:=λd H Q=>t d H λc e=>if c=true then Q true e else u d e Q
noncomputable def Qn(t:TT):TT:=λd H Q=>t d H λc e=>Q (!c) e
theorem CP(g:PT X a tA):PW X (.BoolOp .And [a] pos) tA:=by
 intro i d s f H Q I h;refine isTrue_and (bq (g d s f H Q I h) λc j e=>?_);cases c with
 |true=>exact isTrue_and_nil e
 |false=>exact e
theorem HU(g:PT X a tA):PW X (.BoolOp .Or [a] pos) tA:=by
 intro i d s f H Q I h;refine isTrue_or (bq (g d s f H Q I h) λc j e=>?_);cases c with
 |false=>exact isTrue_or_nil e
 |true=>exact e
theorem HV(l:PT X a tA)(k:PW X (.BoolOp .And (b::rest) pos) PC):PW X (.BoolOp .And (a::b::rest) pos) (Qm tA PC):=by
 intro i d s e H Q I h;refine isTrue_and (bq (l d s e H _ I h) λc j ⟨g,I1,f⟩=>?_);cases c with
 |true=>exact k i d j e g Q I1 f
 |false=>exact⟨g,I1,f⟩
theorem MB(l:PT X a tA)(k:PW X (.BoolOp .Or (b::rest) pos) PC):PW X (.BoolOp .Or (a::b::rest) pos) (TH tA PC):=by
 intro i d s e H Q I h;refine isTrue_or (bq (l d s e H _ I h) λc j ⟨g,I1,f⟩=>?_);cases c with
 |true=>exact⟨g,I1,f⟩
 |false=>exact k i d j e g Q I1 f
theorem HW(f:PT X a tA):PT X (.UnaryOp .Not a pos) (Qn tA):=by intro d s e H Q I h;exact isTrue_not (f d s e H (λc g=>Q (!c) g) I h)
noncomputable def MC(ta tb:TE):TE:=λd H Q=>ta d H λx e=>∃c,x=.bl c/\if c=true then tb d e Q else Q (.bl false) e
noncomputable def Qo(ta tb:TE):TE:=λd H Q=>ta d H λx e=>∃c,x=.bl c/\if c=true then Q (.bl true) e else tb d e Q
noncomputable def MD(ta:TE):TE:=λd H Q=>ta d H λx e=>∃c,x=.bl c/\Q (.bl (!c)) e
theorem zw{op}{t:TE}(h:PE X a t):PE X (.BoolOp op [a] pos) t:=λc s d H Q I e=>BoolOp_one (h c s d H Q I e)
theorem HX(l:PE X a ta)(k:PE X (.BoolOp .And (b::rest) pos) tb):PE X (.BoolOp .And (a::b::rest) pos) (MC ta tb):=by
 intro d s f H Q I h;refine BoolOp_and (bq (l d s f H _ I h) λv i ⟨x,g,I1,j,e⟩=>?_);obtain⟨c,rfl,e⟩:=e;cases j;refine Pi ?_;cases c with
 |true=>exact k d i f g Q I1 e
 |false=>exact⟨.bl false,g,I1,rfl,e⟩
theorem ME(l:PE X a ta)(k:PE X (.BoolOp .Or (b::rest) pos) tb):PE X (.BoolOp .Or (a::b::rest) pos) (Qo ta tb):=by
 intro d s f H Q I h;refine BoolOp_or (bq (l d s f H _ I h) λv i ⟨x,g,I1,j,e⟩=>?_);obtain⟨c,rfl,e⟩:=e;cases j;refine Pi ?_;cases c with
 |false=>exact k d i f g Q I1 e
 |true=>exact⟨.bl true,g,I1,rfl,e⟩
theorem HY(i:PE X a ta):PE X (.UnaryOp .Not a pos) (MD ta):=by intro d s f H Q I h;refine UnaryOp_ (bq (i d s f H _ I h) λv k ⟨x,j,I1,g,e⟩=>?_);obtain⟨c,rfl,e⟩:=e;cases g;exact not_of (Pi ⟨.bl (!c),j,I1,rfl,e⟩)
end
noncomputable def eE(K:Frag)(H:Hp)(a:Addr)(c:List V):Prop:=
 Rd H a (.lst c)\/
  ∃(o:Obj)(b:Array Value)(n:Nat),K.lookup a=some o/\o.cls=.type "list"/\o.dict=none/\o.data=.seq b n/\b.size<=sizeLine/\Vals c b.toList
noncomputable def ie(K:Frag)(H:Hp)(a:Addr)(c:List V):Prop:=
 Rd H a (.tup c)\/
  ∃(o:Obj)(b:Array Value)(n:Nat),K.lookup a=some o/\o.cls=.type "tuple"/\o.data=.seq b n/\b.size<=sizeLine/\Vals c b.toList
noncomputable def Qp:Value->Option V
 |.none=>some .aJ
 |.bool b=>some (.bl b)
 |.int i _=>some (.int i)
 |.str x _=>some (.str x)
 |.bytes b _=>some (.yY b)
 |.float b _=>some (.HK b)
 |.ref a=>some (.ref a)
 |.type n=>some (.ty n)
 |_=>none
theorem RelV.abs{x:V}{u:Value}(r:RelV x u):Qp u=some x:=by
 cases x with
 |aJ=>cases r;rfl
 |bl _=>cases r;rfl
 |int _=>obtain⟨t,rfl⟩:=r;rfl
 |str _=>obtain⟨t,rfl⟩:=r;rfl
 |yY _=>obtain⟨t,rfl⟩:=r;rfl
 |HK _=>obtain⟨t,rfl⟩:=r;rfl
 |ref _=>cases r;rfl
 |ty _=>cases r;rfl
theorem RelV.inj{x y:V}{u:Value}(r:RelV x u)(q:RelV y u):x=y:=Hk (r.abs.symm.trans q.abs)
theorem Vals.inj:∀{b a:List V}{c:List Value},Vals b c->Vals a c->b=a
 |_,_,_,.nil,.nil=>rfl
 |_,_,_,.cons r t,.cons d t'=>by rw[r.inj d,Vals.inj t t']
section
variable{X:Cx}{pins:List (Addr×Obj)}{σ:St}{H:Hp}{s:Shared}{a:Addr}{xs ys:List V}
theorem eE.of{K:Frag}(h:H a=some (.lst xs)):eE K H a xs:=.inl (.inl h)
theorem ie.of{K:Frag}(h:H a=some (.tup xs)):ie K H a xs:=.inl (.inl h)
theorem Inv.list(I:Inv X pins σ H s)(h:eE X.K H a xs):∃b:List Value,Vals xs b/\PlainL s.heap a b.toArray/\xs.length<=sizeLine:=by
 rcases h with h|⟨o,b,n,d,g,f,c,hz,r⟩
 .obtain⟨z,b,n,r,e⟩:=h.ok I.hok;exact⟨b,r,⟨_,n,e,rfl,rfl,rfl⟩,z⟩
 .refine⟨b.toList,r,⟨o,n,I.kg a o d,g,f,by simpa using c⟩,?_⟩;have e:=r.length;simp only[HL]at e;lia
theorem Inv.tuple(I:Inv X pins σ H s)(h:ie X.K H a xs):∃b:List Value,Vals xs b/\IsTup s.heap a b.toArray/\xs.length<=sizeLine:=by
 rcases h with h|⟨o,b,n,d,f,c,hz,r⟩
 .obtain⟨z,b,r,p⟩:=h.ok I.hok;exact⟨b,r,p,z⟩
 .refine⟨b.toList,r,⟨o,I.kg a o d,f,n,by simpa using c⟩,?_⟩;have e:=r.length;simp only[HL]at e;lia
theorem Inv.kj(I:Inv X pins σ H s)(h:eE X.K H a xs)(h':eE X.K H a ys):xs=ys:=by
 obtain⟨c,r,⟨o,n,e,_,_,d⟩,_⟩:=I.list h;obtain⟨b,i,⟨j,k,f,_,_,g⟩,_⟩:=I.list h';rw[e]at f;cases f;rw[d]at g;injection g with d1 _;have:c=b:=by simpa using Fs Wm d1
 subst this;exact r.inj i
theorem Inv.xB(I:Inv X pins σ H s)(h:ie X.K H a xs)(h':ie X.K H a ys):xs=ys:=by
 obtain⟨c,r,⟨o,e,_,n,d⟩,_⟩:=I.tuple h;obtain⟨b,i,⟨j,f,_,k,g⟩,_⟩:=I.tuple h';rw[e]at f;cases f;rw[d]at g;injection g with d1 _;have:c=b:=by simpa using Fs Wm d1
 subst this;exact r.inj i
end
abbrev Cx.mH(X:Cx)(E:Value->Shared->Prop):Cx:={X with xe:=E}
abbrev Cx.mF(X:Cx):Cx:=X.mH λ_ _=>False
theorem Cx.Ok.mH{X:Cx}(a:X.Ok)(E:Value->Shared->Prop):(X.mH E).Ok:=
 ⟨a.mod,a.kind,a.glob,a.blt,a.above,a.inj,a.has,a.My,a.hd,a.frames,a.stk,a.Qi,a.bs,a.CB,a.zp,a.zq,a.ja,a.Gf,a.tree,a.Py⟩
theorem Cx.Ok.fZ{X:Cx}{E:Value->Shared->Prop}(a:(X.mH E).Ok):X.Ok:=
 ⟨a.mod,a.kind,a.glob,a.blt,a.above,a.inj,a.has,a.My,a.hd,a.frames,a.stk,a.Qi,a.bs,a.CB,a.zp,a.zq,a.ja,a.Gf,a.tree,a.Py⟩
section
variable{X:Cx}{pins:List (Addr×Obj)}{σ:St}{H:Hp}{s:Shared}{E:Value->Shared->Prop}
theorem Inv.mH(I:Inv X pins σ H s)(E:Value->Shared->Prop):Inv (X.mH E) pins σ H s:=⟨I.ok.mH E,I.os,I.bare,I.base,I.loc,I.cell,I.free,I.fY,I.pin,I.hok,I.len⟩
theorem Inv.fZ(I:Inv (X.mH E) pins σ H s):Inv X pins σ H s:=⟨I.ok.fZ,I.os,I.bare,I.base,I.loc,I.cell,I.free,I.fY,I.pin,I.hok,I.len⟩
theorem SP.fZ{D:Ends}{f:Flow}{s':Shared}(h:SP (X.mH E) pins D f s'):SP X pins D f s':=by
 cases f with
 |next=>obtain⟨a,b,I,q⟩:=h;exact⟨a,b,I.fZ,q⟩
 |brk=>obtain⟨a,b,I,q⟩:=h;exact⟨a,b,I.fZ,q⟩
 |cont=>obtain⟨a,b,I,q⟩:=h;exact⟨a,b,I.fZ,q⟩
 |ret u=>obtain⟨v,a,b,I,r,q⟩:=h;exact⟨v,a,b,I.fZ,r,q⟩
end
section
variable{X:Cx}{st:Stmt}{rest:List Stmt}{t u:TS}{e:Expr}{te:TE}{pos:Pos}
noncomputable def MF:TS:=λD a H=>D.nx a H
noncomputable def Qq(t u:TS):TS:=λD a H=>t {D with nx:=u D} a H
theorem CQ:qL X [] MF:=λ_ _ a H _ I h=>wpAny_execs_nil ⟨a,H,I,h⟩
theorem zx(i:PS X st t)(g:qL X rest u):qL X (st::rest) (Qq t u):=by
 intro a s c H D I h;refine wpAny_execs_cons (bq (i a s c H {D with nx:=u D} I h) λf d q=>?_);cases f with
 |next=>obtain⟨b,k,j,q⟩:=q;exact g a d b k D j q
 |ret v=>exact q
 |brk=>exact q
 |cont=>exact q
theorem vo(c:PS X st t):qL X [st] t:=by
 intro a s b H D I h;refine wpAny_execs_cons (bq (c a s b H D I h) λf d q=>?_);cases f with
 |next=>exact wpAny_execs_nil q
 |ret v=>exact q
 |brk=>exact q
 |cont=>exact q
noncomputable def HZ:TS:=λD a H=>D.bk a H
theorem zy:PS X (.Break pos) HZ:=λ_ _ a H _ I h=>wpAny_Break ⟨a,H,I,h⟩
theorem Inv.quiet{a:List (Addr×Obj)}{b:St}{H:Hp}{s:Shared}(I:Inv X a b H s):interactive X.env=false:=by simp[interactive,I.ok.kind]
noncomputable def Gj(te:TE):TS:=λD a H=>te a H λ_ b=>D.nx a b
theorem CT(f:PE X e te)(d:swapsWith e none pos.line X.env=pure false:=by rfl):PS X (.Expr e pos) (Gj te):=by intro a s b H D I h;exact wpAny_Expr_any (bq (f a s b H _ I h) λv i ⟨x,g,I1,j,c⟩=>⟨b,g,I1,c⟩) I.quiet d
noncomputable def Qu(te:TE):TS:=λD a H=>te a H D.rt
theorem oj(f:PE X e te):PS X (.Return (some e) pos) (Qu te):=by intro a s b H D I h;exact wpAny_Return_some (bq (f a s b H _ I h) λv i ⟨x,g,I1,c,d⟩=>⟨x,b,g,I1,c,d⟩)
noncomputable def MG:TS:=λD _ H=>D.rt .aJ H
theorem CU:PS X (.Return none pos) MG:=λ_ _ a H _ I h=>wpAny_Return_none ⟨.aJ,a,H,I,rfl,h⟩
noncomputable def Qv(c:TT)(t u:TS):TS:=λD a H=>c a H λb d=>if b=true then t D a d else u D a d
theorem MH{c:Expr}{a b:List Stmt}{tc:TT}(l:PT X c tc)(n:qL X a t)(m:qL X b u):PS X (.If c a b pos) (Qv tc t u):=by
 intro f s g H D I h;refine wpAny_If (bq (l f s g H _ I h) λd i ⟨k,I1,j⟩=>?_);cases d with
 |true=>exact n f i g k D I1 j
 |false=>exact m f i g k D I1 j
end
abbrev TG:=V->St->Hp->(St->Hp->Prop)->Prop
abbrev Gk:=List V->St->Hp->(St->Hp->Prop)->Prop
noncomputable def PG(X:Cx)(a:Expr)(t:TG):Prop:=
 ∀(b:List (Addr×Obj))(s:Shared)(d:St)(H:Hp)(v:V)(u:Value)(Q:St->Hp->Prop),Inv X b d H s->RelV v u->t v d H Q->
  wpAny (model X.prog X.w) X.A (assign a X.env u) (λ_ f=>∃c e,Inv X b c e f/\Q c e) X.xe s
noncomputable def MI(X:Cx)(g:List Expr)(t:Gk):Prop:=
 ∀(a:List (Addr×Obj))(s:Shared)(c:St)(H:Hp)(d:List V)(e:List Value)(Q:St->Hp->Prop),Inv X a c H s->Vals d e->t d c H Q->
  wpAny (model X.prog X.w) X.A (assignInOrder ((assignEach g X.env).map (·.2)) e) (λ_ h=>∃b f,Inv X a b f h/\Q b f) X.xe s
abbrev Ia:=V->V->V->Hp->(Hp->Prop)->Prop
noncomputable def MJ(X:Cx)(t:Ia):Prop:=
 ∀(a:List (Addr×Obj))(s:Shared)(b:St)(H:Hp)(o i v:V)(c d u:Value)(Q:Hp->Prop),Inv X a b H s->RelV o c->RelV i d->RelV v u->t o i v H Q->
  wpAny (model X.prog X.w) X.A (setItem c d u) (λ_ f=>∃e,Inv X a b e f/\Q e) X.xe s
section
variable{X:Cx}{pos:Pos}
noncomputable def fT(i:Nat):TG:=λv a H Q=>Q (a.set i (some v)) H
theorem CV{i:Nat}{x:Str}(e:X.N.Nodup)(c:X.N[i]?=some x)(b:Loc X.env.scope x)(d:X.fn x=true\/X.env.scope.names.lookup x=some .local:=by first|exact .inl rfl|exact .inr rfl|assumption):PG X (.Name x pos) (fT i):=by intro a s g H v u Q I r h;exact wpAny_assign_Name (di I e c b r (λj f=>⟨_,H,f,h⟩) d)
noncomputable def MK:Gk:=λb a H Q=>b=[]/\Q a H
noncomputable def Gm(t:TG)(u:Gk):Gk:=λc b H Q=>∃v r,c=v::r/\t v b H λa d=>u r a d Q
theorem CW:MI X [] MK:=by intro a s b H c d Q I r h;obtain⟨e,h⟩:=h;subst e;cases r;exact assignInOrder_nil ⟨b,H,I,h⟩
theorem zA{e:Expr}{b:List Expr}{t:TG}{u:Gk}(l:PG X e t)(k:MI X b u)
 (j:(assignEach (e::b) X.env).map (·.2)=assign e X.env::(assignEach b X.env).map (·.2):=by rfl):MI X (e::b) (Gm t u):=by
 intro a s d H o q Q I r h;obtain⟨v,p,m,h⟩:=h;subst m;cases r with
 |cons r g=>rw[j];refine WB (bq (l a s d H _ _ _ I r h) λ_ f ⟨c,n,I1,i⟩=>?_);exact k a f c n _ _ Q I1 g i
noncomputable def Ic(K:Frag)(n:Nat)(t:Gk):TG:=λv c H Q=>∃a b,v=.ref a/\ie K H a b/\b.length=n/\t b c H Q
theorem Ie{d:List Expr}{k:Nat}{t:Gk}{n:Nat}(y:X.calm=true)(h:MI X d t)
 (w:(assignEach d X.env).length=n:=by rfl)(g:(assignEach d X.env).findIdx? (·.1)=none:=by rfl):PG X (.Tuple d k pos) (Ic X.K n t):=by
 intro c s i H v u Q I r f;obtain⟨a,j,A,q,x,f⟩:=f;subst A;cases r;obtain⟨l,rv,p,hz⟩:=I.tuple q;refine assign_Tuple_tuple (I.ok.hd y) p (by simp[w,<-x,rv.length]) g λz m=>?_;have I1:Inv X c i H {s with heap:=z}:=I.kept (t':=s.toks) λb o e=>m b o (Ha (FM e)) e;exact h c _ i H j _ Q I1 (by simpa using rv) f
noncomputable def ML(b ti:TE)(t:Ia):TG:=λv a H Q=>b a H λo e=>ti a e λi d=>t o i v d λc=>Q a c
theorem Ig{o i:Expr}{e ti:TE}{t:Ia}(q:PE X o e)(w:PE X i ti)(p:MJ X t)
 (z:∀v,assign (.Subscript o i pos) X.env v=(do
   let b<-holding [v] (eval o X.env)
   let c<-holding [v,b] (eval i X.env)
   standAt pos
   holding [v,b,c] (setItem b c v)
   release [v,b,c] []):=by intro _;rfl):PG X (.Subscript o i pos) (ML e ti t):=by
 intro a s d H v u Q I r h;rw[z];refine Dx (Wo (bq (q a s d H _ I h) λb g ⟨x,E,I1,k,n⟩=>?_));refine Dx (Wo (bq (w a g d E _ I1 n) λc f ⟨y,D,B,j,m⟩=>?_));refine Dx (WZ (Dx (Wo (bq (p a f d D x y v b c u _ B k j r m) λ_ G ⟨C,A,l⟩=>?_))));exact wpAny_release ⟨d,C,A,l⟩
noncomputable def mJ(te:TE)(g:TG):TS:=λD a H=>te a H λx b=>g x a b D.nx
theorem zB{tg e:Expr}{te:TE}{g:TG}(l:PE X e te)(k:PG X tg g)(j:swapsWithSole [tg] e pos.line X.env=pure false:=by rfl)(i:swappedStores [tg] e X.env=pure none:=by rfl)
 (m:(assignEach [tg] X.env).map (·.2)=[assign tg X.env]:=by rfl):PS X (.Assign [tg] e pos) (mJ te g):=by
 intro a s b H D I h;refine wpAny_Assign_stores (bq (l a s b H _ I h) λv c ⟨x,n,I1,d,f⟩=>?_) j i;rw[m];exact bq (k a c b n x v _ I1 d f) λ_ o q=>q
theorem tu{i:Nat}{x:Str}{e:Expr}{te:TE}{a:Pos}(n:X.N.Nodup)(k:X.N[i]?=some x)(g:Loc X.env.scope x)(m:PE X e te)(j:swapsWith e (some (.Name x a)) pos.line X.env=pure false:=by rfl)(l:X.fn x=true\/X.env.scope.names.lookup x=some .local:=by first|exact .inl rfl|exact .inr rfl|assumption):
 PS X (.Assign [.Name x a] e pos) (mJ te (fT i)):=by
 intro b s c H D I h;refine wpAny_Assign_Name (bq (m b s c H _ I h) λv r ⟨y,p,I1,d,f⟩=>?_) j;exact di I1 n k g d (λq o=>⟨_,p,o,f⟩) l
noncomputable def Qw(i j:Nat)(ta:TA):TS:=λD a H=>ta a H λb c=>∃v w,b=[v,w]/\D.nx ((a.set i (some v)).set j (some w)) c
theorem Ih{i j:Nat}{x y:Str}{a b:Expr}{ta:TA}{n m r:Pos}{t k2 B}(Y:X.calm=true)(J:X.N.Nodup)(U:X.N[i]?=some x)(T:X.N[j]?=some y)(z:i≠j)
 (G:X.env.scope.names.lookup x=some .local)(E:X.env.scope.names.lookup y=some .local)(Z:PA X [a,b] ta)
 (R:swappedStores [.Tuple [.Name x n,.Name y m] t r] (.Tuple [a,b] k2 B) X.env=pure (some [x,y]))
 (S:swapsWithSole [.Tuple [.Name x n,.Name y m] t r] (.Tuple [a,b] k2 B) pos.line X.env=pure false:=by rfl):
 PS X (.Assign [.Tuple [.Name x n,.Name y m] t r] (.Tuple [a,b] k2 B) pos) (Qw i j ta):=by
 intro c s C H D I h;rw[exec_Assign_arm];refine Dx (WZ ?_);rw[S];refine Dx (KB ?_);rw[Bi (by decide)];refine Dx (Tuple_ (bq (Z _ c s C H _ I h) λM g ⟨vs,L,I1,O,l⟩=>?_));obtain⟨v,w,e1,l⟩:=l;subst e1;obtain⟨f,d,rfl,rv,k⟩:∃f d,M=[f,d]/\RelV v f/\RelV w d:=by
  cases O with
  |cons p q=>
   cases q with
   |cons Q P=>
    cases P;exact⟨_,_,rfl,p,Q⟩
 refine wpAny_newObj_type ?_ (by show 2<=sizeLine;decide);have I2:Inv X c C L {g with heap:=g.heap.push {cls:=.type "tuple",data:=.seq [f,d].toArray}}:=I1.kept (t':=g.toks) λb o e=>D1 _ e;rw[R];refine Dx (KB ?_);show wpAny (model X.prog X.w) X.A (do rule "assign.swapped-stores";let items<-unpackItems (.ref g.heap.objs.size) 2 none;assignInOrder [λv=>bindName X.env y v,λv=>bindName X.env x v] items.reverse;pure Flow.next) _ _ _;refine Dx (wpAny_rule (Dx (unpackItems_tuple (items:= #[f,d]) (I.ok.hd Y) (IsTup.new g.heap _) λh' u=>?_)));have I3:=I2.kept (h':=h') (t':=g.toks) λb o e=>u b o (Ha (FM e)) e;show wpAny _ _ (assignInOrder [λv=>bindName X.env y v,λv=>bindName X.env x v] [d,f]>>=λ_=>pure Flow.next) _ _ _;refine Dx (WB (Wx (di I3 J T (.inl E) k (λs2 I4=>?_) (.inr E))));refine WB (Wx (di I4 J U (.inl G) rv (λs3 K=>assignInOrder_nil (KB ?_)) (.inr G)));rw[Ng _ _ (NM z)]at K;exact⟨_,L,K,l⟩
noncomputable def Ii(c:TT)(h:TS):TS:=λD a H=>∃W:Nat->St->Hp->Prop,(∃m,W m a H)/\∀m a H,W m a H->
 c a H λb f=>if b=true then∃N:St->Hp->Prop,(∀d g,N d g->∃e,e<m/\W e d g)/\h {D with nx:=N,ct:=N,bk:=D.nx} a f else D.nx a f
theorem zC{c:Expr}{g:List Stmt}{tc:TT}{u:TS}(x:PassesOwn (model X.prog X.w) X.A X.env X.xe)(Q:PT X c tc)(R:qL X g u):PS X (.While c g [] pos) (Ii tc u):=by
 intro d s G H D I h;obtain⟨W,⟨P,K⟩,j⟩:=h;refine wpAny_While (codeAny_whileLoop (λn O=>∃i E,Inv X d i E O/\W n i E) ?_ P ⟨G,H,I,K⟩);rintro n M ⟨e,C,I1,J⟩;refine W6 x (bq (Q d M e C _ I1 (j n e C J)) λb L ⟨B,z,m⟩=>?_);cases b with
 |true=>
  obtain⟨N,y,m⟩:=m;rw[Bz rfl];refine W6 x (bq (R d L e B _ z m) λf S l=>?_);cases f with
  |next=>obtain⟨a,k,t,p⟩:=l;obtain⟨q,r,o⟩:=y a k p;exact⟨q,r,a,k,t,o⟩
  |cont=>obtain⟨a,k,t,p⟩:=l;obtain⟨q,r,o⟩:=y a k p;exact⟨q,r,a,k,t,o⟩
  |brk=>exact l
  |ret v=>exact l
 |false=>rw[Bi Hm];exact wpAny_execs_nil ⟨e,B,z,m⟩
end
set_option genInjectivity false in
set_option genSizeOf false in
structure It where
 go:Nat->Hp->Prop
 MM:Nat->Hp->V->Hp->Prop
 stop:Nat->Hp->Prop
noncomputable def dw(X:Cx)(a:List (Addr×Obj))(H:Hp)(b:Addr):Prop:=
 H b=none/\b≠X.env.locals/\b∉X.fs/\(b∈X.ex\/X.s₀.heap.objs.size<=b)/\(∀x c,X.env.cells.lookup x=some c->c≠b)/\∀p∈X.pn++a,p.1≠b
theorem Inv.mK{X:Cx}{a:List (Addr×Obj)}{f:St}{H H':Hp}{s:Shared}{b:Addr}(I:Inv X a f H s)(d:s.heap.objs.size<=b)(h:H' b=none):dw X a H' b:=by
 refine⟨h,X4 (GM I.lt d),I.Qj d,.inr (Hn I.sz d),λx c e z=>?_,λp g z=>?_⟩
 .obtain⟨v,q⟩:=I.cell x c e;exact absurd (GM q.lt (by rw[z];exact d)) (Mo _)
 .exact absurd (GM (FM (I.pin p g).1) (by rw[z];exact d)) (Mo _)
structure Turn(P:Program)(w:World)(K:Frag)(tg:Expr)(J:It)(fp:List Addr)(it:Addr)(tn:Nat->Heap->Prop):Prop where
 mem:it∈fp
 obj:∀i h,tn i h->∀b∈fp,∃o,h.get? b=some o/\∀v,o.data≠.cell v
 keep:∀i h h',tn i h->(∀b∈fp,∀o,h.get? b=some o->h'.get? b=some o)->tn i h'
 item:∀(X:Cx),X.prog=P->X.w=w->X.K=K->X.calm=true->∀(i:Nat)(pins:List (Addr×Obj))(s:Shared)(σ:St)(H:Hp)(E:Value->Shared->Prop),Inv X pins σ H s->(∀b∈fp,dw X pins H b)->tn i s.heap->J.go i H->
  wpAny (model P w) X.A (pyNext (.ref it)) (λr s1=>∃u,r=some u/\
   wpAny (model P w) X.A (letOwnedTupleGo tg (.ref it) u) (λ_ s2=>∃x H',Inv X pins σ H' s2/\RelV x u/\J.MM i H x H'/\tn (i+1) s2.heap/\∀b∈fp,H' b=none) E s1) E s
 done:∀(X:Cx),X.prog=P->X.w=w->X.K=K->X.calm=true->∀(i:Nat)(pins:List (Addr×Obj))(s:Shared)(σ:St)(H:Hp)(E:Value->Shared->Prop),Inv X pins σ H s->(∀b∈fp,dw X pins H b)->tn i s.heap->J.stop i H->
  wpAny (model P w) X.A (pyNext (.ref it)) (λr s1=>r=none/\Inv X pins σ H s1) E s
 self:∀(A:Around)(i:Nat)(s:Shared)(Q:Value->Shared->Prop)(E:Value->Shared->Prop),tn i s.heap->Q (.ref it) s->wpAny (model P w) A (pyIter (.ref it)) Q E s
abbrev TI:=St->Hp->(It->Hp->Prop)->Prop
noncomputable def Qx(X:Cx)(a:List (Addr×Obj))(i:St)(tg:Expr)(R:It->Hp->Prop)(c:Value)(f:Shared):Prop:=
 ∃(g:Addr)(h:List Addr)(e:Nat->Heap->Prop)(J:It)(d:Hp),c=.ref g/\Inv X a i d f/\Turn X.prog X.w X.K tg J h g e/\e 0 f.heap/\(∀b∈h,dw X a d b)/\R J d
noncomputable def PI(X:Cx)(tg b:Expr)(d:TI):Prop:=
 ∀(a:List (Addr×Obj))(s:Shared)(c:St)(H:Hp)(R:It->Hp->Prop),Inv X a c H s->d c H R->
  wpAny (model X.prog X.w) X.A (eval b X.env) (λv e=>wpAny (model X.prog X.w) X.A (pyIter v) (Qx X a c tg R) X.xe e) X.xe s
theorem qN{M:Model}{A:Around}{E:Value->Shared->Prop}{s:Shared}{tg:Expr}{b:Addr}{u:Value}{o:Obj}{n:String}{vs:Array Value}{Q:Unit->Shared->Prop}(c:s.heap.get? b=some o)(f:o.cls=.type n)(e:o.data=.fields vs)
 (d:["enumerate","zip","dict_itemiterator","dict_reverseitemiterator","odict_iterator","itertools.zip_longest","itertools.pairwise"].contains n=false)(a:Q () s):wpAny M A (letOwnedTupleGo tg (.ref b) u) Q E s:=by
 unfold letOwnedTupleGo;cases tg<;>first
  |exact KB a
  |(cases u<;>first
     |exact KB a
     |(refine Dx (wpAny_load c ?_)
       rw[f,e];show wpAny M A (if(["enumerate","zip","dict_itemiterator","dict_reverseitemiterator","odict_iterator","itertools.zip_longest","itertools.pairwise"].contains n&&vs[0]?==some (rawInt _))=true then _ else _) Q E s;rw[Bi (by intro h;rw[d,Bool.false_and]at h;cases h)];exact KB a))
noncomputable def Qy(K:Frag)(a:Addr):It:=
 ⟨λi H=>∃b x,eE K H a b/\b[i]?=some x,λi H x c=>c=H/\∀b,eE K H a b->b[i]?=some x,λi H=>∃b,eE K H a b/\b.length<=i⟩
noncomputable def Qz(K:Frag)(a:Addr):It:=
 ⟨λi H=>∃b x,ie K H a b/\b[i]?=some x,λi H x c=>c=H/\∀b,ie K H a b->b[i]?=some x,λi H=>∃b,ie K H a b/\b.length<=i⟩
noncomputable def MN(a:Int)(n:Nat):It:=⟨λi _=>i<n,λi H x b=>b=H/\x=.int (a+i),λi _=>n<=i⟩
theorem xC{P:Program}{w:World}{K:Frag}{tg:Expr}(a j:Addr):Turn P w K tg (Qy K a) [j] j (λi h=>h.IsListIter j a i)where
 mem:=by simp
 obj:=λi h f b l=>by
  have e:b=j:=by simpa using l
  subst e;obtain⟨o,e,c,d⟩:=f;exact⟨o,e,λv z=>by rw[d]at z;cases z⟩
 keep:=λi h r f k=>f.at λo e=>k j (by simp) o e
 item:=by intro X C A D Q i g s O H E I q f B;subst C A D;obtain⟨R,x,n,y⟩:=B;obtain⟨t,rv,p,hz⟩:=I.list n;obtain⟨u,Y,T⟩:=rv.get y;obtain⟨N,M,Z,L,J,G⟩:=q j (by simp);refine wpAny_pyNext_list_item f p.isList (x:=u) (by simpa using Y) λr m S=>?_;have I1:Inv X g O H {s with heap:=r}:=I.turned (t':=s.toks) (λb o l e=>(S.2 b l).trans e) N M L J G;obtain⟨o,e,c,d⟩:=id m;exact⟨u,rfl,qN (s:={s with heap:=r}) e c d (by decide) ⟨x,H,I1,T,⟨rfl,λys U=>by rw[I.kj U n];exact y⟩,m,λb l=>(q b l).1⟩⟩
 done:=by intro X C A D Q i g s O H E I q f B;subst C A D;obtain⟨R,n,y⟩:=B;obtain⟨t,rv,p,hz⟩:=I.list n;obtain⟨N,M,Z,L,J,G⟩:=q j (by simp);have hl:=rv.length;exact wpAny_pyNext_list_end (I.ok.hd Q) f p.isList (by simp;lia) λr eb=>⟨rfl,I.turned (t':=s.toks) (λb o l e=>eb b o l e) N M L J G⟩
 self:=λ_ _ _ _ _ f h=>wpAny_pyIter_listiter f h
theorem tw{P:Program}{w:World}{K:Frag}{tg:Expr}(a l:Addr):Turn P w K tg (Qz K a) [l] l (λi h=>h.IsTupleIter l a i)where
 mem:=by simp
 obj:=λi h f b m=>by
  have e:b=l:=by simpa using m
  subst e;obtain⟨o,e,c,d⟩:=f;exact⟨o,e,λv z=>by rw[d]at z;cases z⟩
 keep:=λi h t f k=>f.at λo e=>k l (by simp) o e
 item:=by intro X C A D Q i g s O H E I r f B;subst C A D;obtain⟨R,x,q,y⟩:=B;obtain⟨j,rv,p,hz⟩:=I.tuple q;obtain⟨u,Y,T⟩:=rv.get y;obtain⟨N,M,Z,L,J,G⟩:=r l (by simp);refine wpAny_pyNext_tuple_item f (show s.heap.IsTuple a j.toArray from p) (x:=u) (by simpa using Y) λt n S=>?_;have I1:Inv X g O H {s with heap:=t}:=I.turned (t':=s.toks) (λb o m e=>(S.2 b m).trans e) N M L J G;obtain⟨o,e,c,d⟩:=id n;exact⟨u,rfl,qN (s:={s with heap:=t}) e c d (by decide) ⟨x,H,I1,T,⟨rfl,λys U=>by rw[I.xB U q];exact y⟩,n,λb m=>(r b m).1⟩⟩
 done:=by intro X C A D Q i g s O H E I r f B;subst C A D;obtain⟨R,q,y⟩:=B;obtain⟨j,rv,p,hz⟩:=I.tuple q;obtain⟨N,M,Z,L,J,G⟩:=r l (by simp);have hl:=rv.length;exact wpAny_pyNext_tuple_end (I.ok.hd Q) f (show s.heap.IsTuple a j.toArray from p) (by simp;lia) λt eb=>⟨rfl,I.turned (t':=s.toks) (λb o m e=>eb b o m e) N M L J G⟩
 self:=λ_ _ _ _ _ f h=>wpAny_pyIter_tupleiter f h
theorem tD{P:Program}{w:World}{K:Frag}{tg:Expr}(d:Addr)(j:Int)(n:Nat):Turn P w K tg (MN j n) [d] d (λi h=>IsRangeIter h d (j+(i:Nat)*1) ((n:Int) -(i:Nat)) 1)where
 mem:=by simp
 obj:=λi h a b f=>by
  have e:b=d:=by simpa using f
  subst e;exact⟨_,a,λv z=>by have L:Data.fields _=Data.cell v:=z;cases L⟩
 keep:=λi h m a k=>k d (by simp) _ a
 item:=by intro X u p x r i c s G H E I l a q;subst u p x;obtain⟨D,C,O,B,A,y⟩:=l d (by simp);have W:=Walks.range (prog:=X.prog) (w:=X.w) (I.ok.hd r) d j 1 n;refine W.item i s _ _ q a λv m J N g M=>?_;obtain⟨t,rfl⟩:=N;have I1:Inv X c G H {s with heap:=m,toks:=J}:=I.turned (λb o f e=>M b o (by simpa using f) e) D C B A y;refine⟨_,rfl,qN (s:={s with heap:=m,toks:=J}) (n:="range_iterator") g rfl rfl (by decide) ⟨.int (j+i),H,I1,⟨t,?_⟩,⟨rfl,rfl⟩,g,λb f=>(l b f).1⟩⟩;rw[RN]
 done:=by intro X u p x r i c s G H E I l a q;subst u p x;obtain⟨D,C,O,B,A,y⟩:=l d (by simp);exact wpAny_pyNext_range_end (I.ok.hd r) a (by have:n<=i:=q;lia) λm Q=>⟨rfl,I.turned (t':=s.toks) (λb o f e=>Q b o f e) D C B A y⟩
 self:=λ_ _ _ _ _ a h=>wpAny_pyIter_rangeiter a h
section
variable{X:Cx}{tg:Expr}
theorem qO{d:List (Addr×Obj)}{f:St}{H:Hp}{s:Shared}{R:It->Hp->Prop}{E:Value->Shared->Prop}{a c:Int}{t u v:Tok}{g:Nat}(I:Inv X d f H s)(l: -(2^62)<=a)(k:a<2^62)(j: -(2^62)<=c)(i:c<2^62)
 (q:R (MN a (c -a).toNat) H):wpAny (model X.prog X.w) X.A (pyIter (.ref s.heap.objs.size)) (Qx X d f tg R) E {s with heap:=s.heap.push {cls:=.type "range",data:=.fields #[.int a t,.int c u,.int 1 v]},toks:=g}:=by
 refine wpAny_pyIter_range (IsRange.new ..) (small_one l k j i) ?_;have I1:Inv X d f H {s with heap:=s.heap.push {cls:=.type "range",data:=.fields #[.int a t,.int c u,.int 1 v]},toks:=g}:=I.kept λb o e=>D1 _ e;refine⟨(s.heap.push {cls:=.type "range",data:=.fields #[.int a t,.int c u,.int 1 v]}).objs.size,[(s.heap.push {cls:=.type "range",data:=.fields #[.int a t,.int c u,.int 1 v]}).objs.size],_,_,H,rfl,
  I1.kept (t':=g) λb o e=>D1 _ e,tD _ a (c -a).toNat,?_,λb h=>?_,q⟩
 .have n:a+((0:Nat):Int)*1=a:=by simp
  have m:(((c -a).toNat:Nat):Int) -((0:Nat):Int)=Builtin.Range.rangeSize a c 1:=by rw[rangeSize_one];split<;>lia
  show IsRangeIter _ _ (a+((0:Nat):Int)*1) ((((c -a).toNat:Nat):Int) -((0:Nat):Int)) 1;rw[n,m];exact Fn _ rfl
 .have e:b=(s.heap.push {cls:=.type "range",data:=.fields #[.int a t,.int c u,.int 1 v]}).objs.size:=by simpa using h
  subst e;exact I1.mK (BM _) (I1.hok.fresh (BM _))
noncomputable def MO(ta:TA):TI:=λa H R=>ta a H λb c=>∃j:Int,b=[.int j]/\-(2^62)<=j/\j<2^62/\R (MN 0 j.toNat) c
noncomputable def MP(ta:TA):TI:=λa H R=>ta a H λb c=>∃i j:Int,b=[.int i,.int j]/\(-(2^62)<=i/\i<2^62/\-(2^62)<=j/\j<2^62)/\R (MN i (j -i).toNat) c
theorem xD{a:Expr}{ta:TA}{p pos:Pos}(m:Gl X "range")(l:X.mg "range"=none)(n:PA X [a] ta)(k:starEach [a] X.env=[(false,eval a X.env)]:=by rfl):PI X tg (.Call (.Name "range" p) [a] [] pos) (MO ta):=by
 intro b s d H R I h;refine Call_ (dj I m l boot_range (Kt (bq (n pos b s d H _ I h) λu v ⟨o,w,I1,g,c⟩=>?_) k rfl));obtain⟨j,e,c,i,q⟩:=c;subst e;cases g with
 |cons r f=>
  cases f;obtain⟨t,rfl⟩:=r;exact call_range_1 (qO I1 (by lia) (by lia) c i (by simpa using q))
theorem xE{a b:Expr}{ta:TA}{p pos:Pos}(x:Gl X "range")(w:X.mg "range"=none)(y:PA X [a,b] ta)(v:starEach [a,b] X.env=[(false,eval a X.env),(false,eval b X.env)]:=by rfl)(d:starEach [b] X.env=[(false,eval b X.env)]:=by rfl):
 PI X tg (.Call (.Name "range" p) [a,b] [] pos) (MP ta):=by
 intro c s k H R I h;refine Call_ (dj I x w boot_range (Kt (bq (y pos c s k H _ I h) λA C ⟨z,D,I1,l,g⟩=>?_) (by rw[v,d]) (by rw[d];rfl)));obtain⟨i,j,e,⟨g,u,o,n⟩,q⟩:=g;subst e;cases l with
 |cons r f=>
  cases f with
  |cons m f=>
   cases f;obtain⟨t,rfl⟩:=r;obtain⟨B,rfl⟩:=m;exact call_range_2 (qO I1 g u o n q)
noncomputable def QA(f:TI)(g:TG)(h:TS):TS:=λD a H=>f a H λJ k=>∃W:Nat->Nat->St->Hp->Prop,(∃m,W 0 m a k)/\∀i m a H,W i m a H->
 (J.stop i H/\D.nx a H)\/(J.go i H/\∃N:St->Hp->Prop,(∀b c,N b c->∃e,e<m/\W (i+1) e b c)/\∀x c,J.MM i H x c->g x a c λd j=>h {D with nx:=N,ct:=N,bk:=D.nx} d j)
noncomputable def ko(a:List Addr)(h:Heap):List (Addr×Obj):=a.filterMap λb=>(h.get? b).map λo=>(b,o)
theorem fh{a:List Addr}{h:Heap}{b:Addr}{o:Obj}(c:b∈a)(e:h.get? b=some o):(b,o)∈ko a h:=OC.mpr ⟨b,c,by rw[e];rfl⟩
theorem xF{a:List Addr}{h:Heap}{p:Addr×Obj}(c:p∈ko a h):p.1∈a/\h.get? p.1=some p.2:=by
 obtain⟨b,d,e⟩:=OC.mp c;cases q:h.get? b with
 |none=>rw[q]at e;cases e
 |some o=>rw[q]at e;have f:(b,o)=p:=Hk e;subst f;exact⟨d,q⟩
theorem Inv.pinned{a:List (Addr×Obj)}{f:St}{H:Hp}{s:Shared}{c:List Addr}(I:Inv X a f H s)(k:∀b∈c,dw X a H b)(j:∀b∈c,∃o,s.heap.get? b=some o/\∀v,o.data≠.cell v):Inv X (a++ko c s.heap) f H s:=
 I.jV λp i=>(Gc.mp i).elim (λz=>I.pin p (Fk _ z)) λz=>by obtain⟨g,e⟩:=xF z;obtain⟨n,m,l,_⟩:=k p.1 g;obtain⟨o,h,d⟩:=j p.1 g;rw[e]at h;cases h;exact⟨e,n,m,l,d⟩
theorem Inv.iA{a c:List (Addr×Obj)}{b:St}{H:Hp}{s:Shared}(I:Inv X (a++c) b H s):Inv X a b H s:=I.jV λp d=>I.pin p (Fk _ (Os _ d))
theorem Ij{l:Expr}{C:List Stmt}{wi:TI}{g:TG}{tb:TS}{pos:Pos}(O:PassesOwn (model X.prog X.w) X.A X.env X.xe)(hc:X.calm=true)(hi:PI X tg l wi)(hg:PG X tg g)(p:qL X C tb)
 (hs:∀x,foldedSetIterable l X.env x=pure x:=by intro _;rfl):PS X (.For tg l C [] pos) (QA wi g tb):=by
 intro a s σ H D I h;refine wpAny_For (bq (hi a s σ H _ I h) λv s1 h1=>bq h1 λitv s2 h2=>?_) hs;obtain⟨it,P,tn,J,H2,e,I2,T,R,f2,W,⟨m0,w0⟩,E⟩:=h2;subst e;have Z:∀{z:Hp},(∀b∈P,z b=none)->∀b∈P,dw X a z b:=λhn b p=>⟨hn b p,(f2 b p).2⟩;refine codeAny_forLoop_any (λn s'=>∃i j z,Inv X a j z s'/\tn i s'.heap/\(∀b∈P,z b=none)/\W i n j z) ?_ m0 ⟨0,σ,H2,I2,R,λb p=>(f2 b p).1,w0⟩;rintro n s3 ⟨i,c,Q,I3,L,R9,w3⟩;rcases E i n c Q w3 with⟨G,qn⟩|⟨go,N,hN,K⟩
 .refine W6 O (bq (T.done X rfl rfl rfl hc i a s3 c Q X.xe I3 (Z R9) L G) λr s4 ⟨U,I4⟩=>?_);subst U;exact wpAny_execs_nil ⟨c,Q,I4,qn⟩
 .refine W6 O (bq (T.item X rfl rfl rfl hc i a s3 c Q X.xe I3 (Z R9) L go) λr s4 ⟨u,U,h4⟩=>?_);subst U;refine W6 O (bq h4 λ_ s5 ⟨x,H5,I5,r5,y5,Y,PD⟩=>?_);have TJ:=I5.pinned (Z PD) (T.obj _ _ Y);refine W6 O (bq (hg _ s5 c H5 x u _ TJ r5 (K x H5 y5)) λ_ s6 ⟨TL,H6,I6,q6⟩=>?_);refine W6 O (bq (p _ s6 TL H6 _ I6 q6) λf S B=>?_);have q:∀{k:St}{y:Hp},Inv X (a++ko P s5.heap) k y S->N k y->∃m,m<n/\∃i j z,Inv X a j z S/\tn i S.heap/\(∀b∈P,z b=none)/\W i m j z:=λ{k y} t M=>by obtain⟨m',hm,w7⟩:=hN k y M;refine⟨m',hm,i+1,k,y,t.iA,T.keep _ _ _ Y λb p o e=>(t.pin (b,o) (Fk _ (Fk _ (fh p e)))).1,λb p=>?_,w7⟩;obtain⟨o,e,d⟩:=T.obj _ _ Y b p;exact(t.pin (b,o) (Fk _ (Fk _ (fh p e)))).2.1
  cases f with
  |next=>obtain⟨k,y,t,M⟩:=B;exact q t M
  |cont=>obtain⟨k,y,t,M⟩:=B;exact q t M
  |brk=>obtain⟨k,y,t,B⟩:=B;exact⟨k,y,t.iA,B⟩
  |ret v=>obtain⟨x7,k,y,t,r7,B⟩:=B;exact⟨x7,k,y,t.iA,r7,B⟩
end
abbrev R2:=V->V->Hp->VK->Prop
noncomputable def gD(X:Cx)(f:Value->Value->Sem Value)(r:R2):Prop:=
 ∀(a:List (Addr×Obj))(s:Shared)(b:St)(H:Hp)(x y:V)(v u:Value)(Q:VK),Inv X a b H s->RelV x v->RelV y u->r x y H Q->
  wpAny (model X.prog X.w) X.A (f v u) (EP X a b Q) X.xe s
noncomputable def QB(X:Cx)(f:Value->Sem Value)(r:V->Hp->VK->Prop):Prop:=
 ∀(a:List (Addr×Obj))(s:Shared)(b:St)(H:Hp)(x:V)(v:Value)(Q:VK),Inv X a b H s->RelV x v->r x H Q->
  wpAny (model X.prog X.w) X.A (f v) (EP X a b Q) X.xe s
noncomputable def bK(X:Cx)(f:Value)(r:List V->Hp->VK->Prop):Prop:=
 ∀(a:List (Addr×Obj))(s:Shared)(b:St)(H:Hp)(c:List V)(d:List Value)(Q:VK),Inv X a b H s->Vals c d->r c H Q->
  wpAny (model X.prog X.w) X.A (call f d) (EP X a b Q) X.xe s
noncomputable def TM(r:R2)(ta b:TE):TE:=λa H Q=>ta a H λx d=>b a d λy c=>r x y c Q
noncomputable def TN(r:V->Hp->VK->Prop)(ta:TE):TE:=λa H Q=>ta a H λx b=>r x b Q
noncomputable def rI(C:Int->Int->Prop)(g:Int->Int->V):R2:=λx y H Q=>∃i j,x=.int i/\y=.int j/\C i j/\Q (g i j) H
noncomputable def yZ(g:Int->Int->V):R2:=λx y H Q=>∃i j,x=.int i/\y=.int j/\Q (g i j) H
noncomputable def rU(g:Int->V):V->Hp->VK->Prop:=λx H Q=>∃i,x=.int i/\Q (g i) H
section
variable{X:Cx}{a b c:Expr}{ta tb tc:TE}{pos:Pos}
theorem QC(z:PE X a ta)(t:PE X b tb){d:List (Addr×Obj)}{s:Shared}{e:St}{H:Hp}{R:V->V->Hp->Prop}(I:Inv X d e H s)
 (h:ta e H λx l=>tb e l λy g=>R x y g){Q:Value->Shared->Prop}{f:Value->Value->Sem Value}
 (r:∀v u k x y g,Inv X d e g k->RelV x v->RelV y u->R x y g->wpAny (model X.prog X.w) X.A (f v u) Q X.xe k):
 wpAny (model X.prog X.w) X.A (eval a X.env) (λv j=>wpAny (model X.prog X.w) X.A (eval b X.env) (λu i=>wpAny (model X.prog X.w) X.A (f v u) Q X.xe i) X.xe j) X.xe s:=by
 refine bq (z d s e H _ I h) λv m ⟨x,l,I1,o,q⟩=>?_;refine bq (t d m e l _ I1 q) λu k ⟨y,g,B,n,p⟩=>?_;exact r v u k x y g B o n p
theorem MQ{op:UnaryOp}{r:V->Hp->VK->Prop}(j:QB X (unaryOp op) r)(k:PE X a ta):PE X (.UnaryOp op a pos) (TN r ta):=by intro d s e H Q I h;exact UnaryOp_ (bq (k d s e H _ I h) λv f ⟨x,l,I1,g,i⟩=>j d f e l x v Q I1 g i)
theorem MR{f:Value->Value->Sem Value}{C:Int->Int->Prop}{g:Int->Int->Int}
 (d:∀(i j:Int)(t u:Tok)(s:Shared)(Q:Value->Shared->Prop)(E:Value->Shared->Prop),C i j->Q (.int (g i j) s.toks) {s with toks:=s.toks+1}->wpAny (model X.prog X.w) X.A (f (.int i t) (.int j u)) Q E s):
 gD X f (rI C λi j=>.int (g i j)):=by
 intro e s o H x y v u Q I m l h;obtain⟨i,j,rfl,rfl,n,q⟩:=h;obtain⟨t,rfl⟩:=m;obtain⟨k,rfl⟩:=l;exact d i j t k s _ _ n ⟨.int (g i j),H,I.tok _,⟨_,rfl⟩,q⟩
theorem MS{f:Value->Value->Sem Value}{g:Int->Int->Int}
 (d:∀(i j:Int)(t u:Tok)(s:Shared)(Q:Value->Shared->Prop)(E:Value->Shared->Prop),Q (.int (g i j) s.toks) {s with toks:=s.toks+1}->wpAny (model X.prog X.w) X.A (f (.int i t) (.int j u)) Q E s):
 gD X f (yZ λi j=>.int (g i j)):=by
 intro e s n H x y v u Q I m l h;obtain⟨i,j,rfl,rfl,q⟩:=h;obtain⟨t,rfl⟩:=m;obtain⟨k,rfl⟩:=l;exact d i j t k s _ _ ⟨.int (g i j),H,I.tok _,⟨_,rfl⟩,q⟩
theorem CY{f:Value->Value->Sem Value}{g:Int->Int->Bool}
 (d:∀(i j:Int)(t u:Tok)(s:Shared)(Q:Value->Shared->Prop)(E:Value->Shared->Prop),Q (.bool (g i j)) s->wpAny (model X.prog X.w) X.A (f (.int i t) (.int j u)) Q E s):
 gD X f (yZ λi j=>.bl (g i j)):=by
 intro e s n H x y v u Q I m l h;obtain⟨i,j,rfl,rfl,q⟩:=h;obtain⟨t,rfl⟩:=m;obtain⟨k,rfl⟩:=l;exact d i j t k s _ _ ⟨.bl (g i j),H,I,rfl,q⟩
noncomputable def QD(i j:Int):Prop:=0<j/\j<1073741824
noncomputable def xG(i j:Int):Prop:=0<=j/\j<=1000000/\i.natAbs<2^64
theorem tE(k:Nat):(0:Int)<=2^k:=by rw[two_pow_cast];exact Int.natCast_nonneg _
theorem Il:gD X (binaryOp .Add) (yZ λi j=>.int (i+j)):=MS λ_ _ _ _ _ _ _ q=>add_int q
theorem Im:gD X (binaryOp .Sub) (yZ λi j=>.int (i -j)):=MS λ_ _ _ _ _ _ _ q=>sub_int q
theorem CZ:gD X (binaryOp .Mod) (rI (λ_ j=>j≠0) λi j=>.int (i.fmod j)):=MR λ_ _ _ _ _ _ _ d q=>mod_int' d q
theorem Io:gD X (binaryOp .Pow) (rI xG λi j=>.int (i^j.toNat)):=MR λ_ _ _ _ _ _ _ d q=>pow_int_small d.1 d.2.1 d.2.2 q
theorem Iq:gD X (binaryOp .LShift) (rI xG λi j=>.int (i*2^j.toNat)):=MR λ_ _ _ _ _ _ _ d q=>lshift_int_small d.1 d.2.1 d.2.2 q
theorem Ir:gD X (binaryOp .RShift) (rI (λ_ j=>0<=j) λi j=>.int (i/2^j.toNat)):=MR λi j _ _ _ _ _ d q=>rshift_int d (by rw[Oy i (tE _)];exact q)
theorem TQ{f:Value->Sem Value}{g:Int->Int}
 (d:∀(i:Int)(t:Tok)(s:Shared)(Q:Value->Shared->Prop)(E:Value->Shared->Prop),Q (.int (g i) s.toks) {s with toks:=s.toks+1}->wpAny (model X.prog X.w) X.A (f (.int i t)) Q E s):
 QB X f (rU λi=>.int (g i)):=by
 intro e s k H x v Q I j h;obtain⟨i,rfl,q⟩:=h;obtain⟨t,rfl⟩:=j;exact d i t s _ _ ⟨.int (g i),H,I.tok _,⟨_,rfl⟩,q⟩
theorem Iu:QB X (unaryOp .USub) (rU λi=>.int (-i)):=TQ λ_ _ _ _ _ q=>neg_int q
end
noncomputable def Iv:V->V->Bool
 |.aJ,.aJ=>true|.aJ,.int _=>true|.int _,.aJ=>true|.aJ,.bl _=>true|.bl _,.aJ=>true|.aJ,.str _=>true|.str _,.aJ=>true
 |.int _,.int _=>true|.bl _,.bl _=>true|.str _,.str _=>true|.yY _,.yY _=>true
 |.int _,.str _=>true|.str _,.int _=>true|.bl _,.str _=>true|.str _,.bl _=>true
 |_,_=>false
noncomputable def TR:R2:=λx y H Q=>Iv x y=true/\Q (.bl (decide (x=y))) H
noncomputable def TU:R2:=λx y H Q=>Iv x y=true/\Q (.bl (!decide (x=y))) H
theorem vp{i j:Int}:decide (V.int i=V.int j)=(i==j):=by rw[WD];simp
theorem zE{i j:Bool}:decide (V.bl i=V.bl j)=(i==j):=by rw[WD];simp
theorem vq{i j:Str}:decide (V.str i=V.str j)=(i==j):=by rw[WD];simp
theorem vt{i j:Array UInt8}:decide (V.yY i=V.yY j)=(i.toList==j.toList):=by rw[WD];cases i;cases j;simp
section
variable{X:Cx}{a b c:Expr}{ta tb tc:TE}{pos:Pos}
theorem aG{d:List (Addr×Obj)}{f:St}{H:Hp}{s:Shared}{Q:VK}{k g:Bool}(I:Inv X d f H s)(q:Q (.bl k) H)(e:k=g):EP X d f Q (.bool g) s:=by subst e;exact⟨.bl k,H,I,rfl,q⟩
theorem MT:gD X (compareOp .Eq) TR:=by
 intro k s l H x y v u Q I g d h;obtain⟨f,q⟩:=h;cases x with
 |aJ=>
  cases g;cases y with
  |aJ=>cases d;exact PySem.EqNone.eq_none_none (aG I q (by simp))
  |bl j=>cases d;exact PySem.EqNone.eq_none_bool (aG I q (by simp))
  |int j=>obtain⟨e,rfl⟩:=d;exact PySem.EqNone.eq_none_int (aG I q (by simp))
  |str j=>obtain⟨e,rfl⟩:=d;exact PySem.EqNone.eq_none_str (aG I q (by simp))
  |_=>exact absurd (show false=true from f) Hm
 |bl i=>
  cases g;cases y with
  |aJ=>cases d;exact PySem.EqNone.eq_bool_none (aG I q (by simp))
  |bl j=>cases d;exact eq_bool (aG I q zE)
  |str j=>obtain⟨e,rfl⟩:=d;exact PySem.EqMixed.eq_bool_str (aG I q (by simp))
  |_=>exact absurd (show false=true from f) Hm
 |int i=>
  obtain⟨t,rfl⟩:=g;cases y with
  |aJ=>cases d;exact PySem.EqNone.eq_int_none (aG I q (by simp))
  |int j=>obtain⟨e,rfl⟩:=d;exact eq_int (aG I q vp)
  |str j=>obtain⟨e,rfl⟩:=d;exact PySem.EqMixed.eq_int_str (aG I q (by simp))
  |_=>exact absurd (show false=true from f) Hm
 |str i=>
  obtain⟨t,rfl⟩:=g;cases y with
  |aJ=>cases d;exact PySem.EqNone.eq_str_none (aG I q (by simp))
  |bl j=>cases d;exact PySem.EqMixed.eq_str_bool (aG I q (by simp))
  |int j=>obtain⟨e,rfl⟩:=d;exact PySem.EqMixed.eq_str_int (aG I q (by simp))
  |str j=>obtain⟨e,rfl⟩:=d;exact eq_str (aG I q vq)
  |_=>exact absurd (show false=true from f) Hm
 |yY i=>
  obtain⟨t,rfl⟩:=g;cases y with
  |yY j=>obtain⟨e,rfl⟩:=d;exact PySem.W.eq_bytes (aG I q vt)
  |_=>exact absurd (show false=true from f) Hm
 |_=>cases y<;>exact absurd (show false=true from f) Hm
theorem MU:gD X (compareOp .NotEq) TU:=by
 intro k s l H x y v u Q I g d h;obtain⟨f,q⟩:=h;cases x with
 |aJ=>
  cases g;cases y with
  |aJ=>cases d;exact PySem.EqNone.ne_none_none (aG I q (by simp))
  |bl j=>cases d;exact PySem.EqNone.ne_none_bool (aG I q (by simp))
  |int j=>obtain⟨e,rfl⟩:=d;exact PySem.EqNone.ne_none_int (aG I q (by simp))
  |str j=>obtain⟨e,rfl⟩:=d;exact PySem.EqNone.ne_none_str (aG I q (by simp))
  |_=>exact absurd (show false=true from f) Hm
 |bl i=>
  cases g;cases y with
  |aJ=>cases d;exact PySem.EqNone.ne_bool_none (aG I q (by simp))
  |bl j=>cases d;exact ne_bool (aG I q (Fs not zE))
  |str j=>obtain⟨e,rfl⟩:=d;exact PySem.EqMixed.ne_bool_str (aG I q (by simp))
  |_=>exact absurd (show false=true from f) Hm
 |int i=>
  obtain⟨t,rfl⟩:=g;cases y with
  |aJ=>cases d;exact PySem.EqNone.ne_int_none (aG I q (by simp))
  |int j=>obtain⟨e,rfl⟩:=d;exact ne_int (aG I q (Fs not vp))
  |str j=>obtain⟨e,rfl⟩:=d;exact PySem.EqMixed.ne_int_str (aG I q (by simp))
  |_=>exact absurd (show false=true from f) Hm
 |str i=>
  obtain⟨t,rfl⟩:=g;cases y with
  |aJ=>cases d;exact PySem.EqNone.ne_str_none (aG I q (by simp))
  |bl j=>cases d;exact PySem.EqMixed.ne_str_bool (aG I q (by simp))
  |int j=>obtain⟨e,rfl⟩:=d;exact PySem.EqMixed.ne_str_int (aG I q (by simp))
  |str j=>obtain⟨e,rfl⟩:=d;exact ne_str (aG I q (Fs not vq))
  |_=>exact absurd (show false=true from f) Hm
 |yY i=>
  obtain⟨t,rfl⟩:=g;cases y with
  |yY j=>obtain⟨e,rfl⟩:=d;exact PySem.W.ne_bytes (aG I q (Fs not vt))
  |_=>exact absurd (show false=true from f) Hm
 |_=>cases y<;>exact absurd (show false=true from f) Hm
theorem Gp:gD X (compareOp .Lt) (yZ λi j=>.bl (decide (i<j))):=CY λ_ _ _ _ _ _ _ q=>lt_int q
theorem Gq:gD X (compareOp .LtE) (yZ λi j=>.bl (decide (i<=j))):=CY λ_ _ _ _ _ _ _ q=>le_int q
theorem Gr:gD X (compareOp .Gt) (yZ λi j=>.bl (decide (j<i))):=CY λ_ _ _ _ _ _ _ q=>gt_int q
theorem Gv:gD X (compareOp .GtE) (yZ λi j=>.bl (decide (j<=i))):=CY λ_ _ _ _ _ _ _ q=>ge_int q
theorem Iw:gD X (compareOp .Is) (λx y H Q=>y=.aJ/\Q (.bl (decide (x=.aJ))) H):=by
 intro e s g H x y v u Q I d f h;obtain⟨rfl,q⟩:=h;cases f;refine is_none_gen (aG I q ?_);cases x<;>first
  |(cases d;rfl)
  |(obtain⟨t,rfl⟩:=d;rfl)
theorem C0:gD X (compareOp .IsNot) (λx y H Q=>y=.aJ/\Q (.bl (!decide (x=.aJ))) H):=by
 intro e s g H x y v u Q I d f h;obtain⟨rfl,q⟩:=h;cases f;refine isnot_none_gen (aG I q ?_);cases x<;>first
  |(cases d;rfl)
  |(obtain⟨t,rfl⟩:=d;rfl)
theorem tF(b:Expr){op:CmpOp}(h:op≠.In:=by decide)(d:op≠.NotIn:=by decide):behindInMarks op b=false:=by
 have f:(op==CmpOp.In)=false:=by cases op<;>first|rfl|exact absurd rfl h
 have e:(op==CmpOp.NotIn)=false:=by cases op<;>first|rfl|exact absurd rfl d
 cases b<;>simp[behindInMarks,f,e]
noncomputable def MV(t:TE):TT:=λd H Q=>t d H λx e=>∃k,x=.bl k/\Q k e
noncomputable def tG(r g:R2)(ta tb tc:TE):TE:=λd H Q=>ta d H λx j=>tb d j λy i=>r x y i λz e=>∃k,z=.bl k/\
 (if k=true then tc d e λf h=>g y f h Q else Q (.bl false) e)
theorem zF{op g:CmpOp}{r m:R2}(M:gD X (compareOp op) r)(j:gD X (compareOp g) m)(R:PE X a ta)(P:PE X b tb)(O:PE X c tc)
 (N:lastMarks [op,g] [b,c]=false:=by with_unfolding_all rfl):PE X (.Compare a [op,g] [b,c] pos) (tG r m ta tb tc):=by
 intro f s i H Q I h;refine Compare_chain (bq (R f s i H _ I h) λv C ⟨x,Z,I1,G,L⟩=>chain_link (bq (P f C i Z _ I1 L) λu B ⟨y,Y,T,l,K⟩=>bq (M f B i Y x y v u _ T G l K) λd A ⟨z,p,o,E,k,e,n⟩=>?_)) N;subst e;cases E;refine Pi ?_;cases k with
 |false=>exact ite_ff ⟨.bl false,p,o,rfl,n⟩
 |true=>exact ite_tt (chain_last (bq (O f A i p _ o n) λt w ⟨q,U,S,D,J⟩=>j f w i U y q u t Q S l D J))
theorem zG{op g:CmpOp}{r m:R2}(P:gD X (compareOp op) r)(j:gD X (compareOp g) m)(U:PE X a ta)(T:PE X b tb)(S:PE X c tc)
 (R:lastMarks [op,g] [b,c]=false:=by with_unfolding_all rfl):PT X (.Compare a [op,g] [b,c] pos) (MV (tG r m ta tb tc)):=by
 intro f s i H Q I h;refine isTrue_chain (bq (U f s i H _ I h) λv C ⟨x,H1,I1,J,N⟩=>test_link (bq (T f C i H1 _ I1 N) λu B ⟨y,H2,I2,l,M⟩=>bq (P f B i H2 x y v u _ I2 J l M) λd A ⟨z,p,o,G,k,e,n⟩=>?_)) R;subst e;cases G;refine Pi ?_;cases k with
 |false=>obtain⟨k',Z,O⟩:=n;cases Z;exact ite_ff ⟨p,o,O⟩
 |true=>refine ite_tt (test_last (bq (S f A i p _ o n) λt w ⟨q,H4,I4,E,L⟩=>bq (j f w i H4 y q u t _ I4 l E L) λd' s5 ⟨z2,H5,I5,D,k2,Y,K⟩=>?_));subst Y;cases D;exact Pi ⟨H5,I5,K⟩
theorem kq:(sizeLine:Nat)<2^63:=by rw[TC];decide
theorem tH:gD X (binaryOp .Add) (λx y H Q=>∃i j,x=.str i/\y=.str j/\i.length+j.length<=sizeLine/\Q (.str (i++j)) H):=by intro d s k H x y v u Q I g f h;obtain⟨i,j,rfl,rfl,hz,q⟩:=h;obtain⟨t,rfl⟩:=g;obtain⟨e,rfl⟩:=f;exact add_str (λe l=>⟨.str (i++j),H,I.tok _,⟨_,rfl⟩,q⟩) hz
theorem vals1{x:V}{d:List Value}(r:Vals [x] d):∃u,d=[u]/\RelV x u:=by
 cases r with
 |cons f e=>cases e;exact⟨_,rfl,f⟩
theorem vals2{x y:V}{e:List Value}(r:Vals [x,y] e):∃u d,e=[u,d]/\RelV x u/\RelV y d:=by
 cases r with
 |cons i h=>
  cases h with
  |cons g f=>cases f;exact⟨_,_,rfl,i,g⟩
theorem zH:bK X (.builtin "abs") (λd H Q=>∃i,d=[.int i]/\Q (.int (if i<0 then-i else i)) H):=by intro e s f H d g Q I r h;obtain⟨i,rfl,q⟩:=h;obtain⟨u,rfl,t,rfl⟩:=vals1 r;exact call_abs_int λu j=>⟨.int (if i<0 then-i else i),H,I.tok _,⟨_,rfl⟩,q⟩
theorem xH(g:X.calm=true):bK X (.builtin "max") (λe H Q=>∃i j,e=[.int i,.int j]/\Q (.int (if j>i then j else i)) H):=by
 intro f s l H e n Q I r h;obtain⟨i,j,rfl,q⟩:=h;obtain⟨u,m,rfl,⟨t,rfl⟩,⟨p,rfl⟩⟩:=vals2 r;refine max_two_ints (I.ok.hd g) λv o k=>⟨_,H,I.kept k,?_,q⟩;by_cases d:j>i
 .rw[Bz d,Bz d];exact⟨_,rfl⟩
 .rw[Bi d,Bi d];exact⟨_,rfl⟩
theorem xJ(g:X.calm=true):bK X (.builtin "min") (λe H Q=>∃i j,e=[.int i,.int j]/\Q (.int (if j<i then j else i)) H):=by
 intro f s l H e n Q I r h;obtain⟨i,j,rfl,q⟩:=h;obtain⟨u,m,rfl,⟨t,rfl⟩,⟨p,rfl⟩⟩:=vals2 r;refine min_two_ints (I.ok.hd g) λv o k=>⟨_,H,I.kept k,?_,q⟩;by_cases d:j<i
 .rw[Bz d,Bz d];exact⟨_,rfl⟩
 .rw[Bi d,Bi d];exact⟨_,rfl⟩
theorem xK:bK X (.type "int") (λd H Q=>(∃i,d=[.int i]/\Q (.int i) H)\/∃k,d=[.bl k]/\Q (.int (if k then 1 else 0)) H):=by
 intro e s g H d j Q I r h;rcases h with⟨i,rfl,q⟩|⟨k,rfl,q⟩
 .obtain⟨u,rfl,t,rfl⟩:=vals1 r;exact call_int_int ⟨.int i,H,I,⟨_,rfl⟩,q⟩
 .obtain⟨u,rfl,f⟩:=vals1 r;cases f;exact call_int_bool ⟨.int (if k then 1 else 0),H,I.tok _,⟨_,rfl⟩,q⟩
theorem qP:bK X (.builtin "divmod") (λd H Q=>∃i j,d=[.int i,.int j]/\QD i j/\∀p,H p=none->Q (.ref p) (upd H p (.tup [.int (i/j),.int (i%j)]))):=by intro f s k H d m Q I r h;obtain⟨i,j,rfl,⟨w,v⟩,q⟩:=h;obtain⟨u,l,rfl,⟨t,rfl⟩,⟨n,rfl⟩⟩:=vals2 r;refine divmod_int (by lia) ?_ (.inl (S2 (by lia)));rw[Oy i (by lia),HI i (by lia)];have g:H s.heap.objs.size=none:=I.hok.fresh (BM _);refine⟨.ref s.heap.objs.size,_,?_,rfl,q _ g⟩;refine I.laid (λb o e=>D1 _ e) (BM _) ⟨by simp only[Eb,LR];rw[TC];decide,[.int (i/j) s.toks,.int (i%j) (s.toks+1)],.cons ⟨_,rfl⟩ (.cons ⟨_,rfl⟩ .nil),?_⟩;exact⟨_,Fn s.heap rfl,rfl,0,rfl⟩
end
structure C1(h:Heap)(x dx C:Addr)(mA:Str->Option Value):Prop where
 obj:h.get? x=some (instObj C dx)
 ns:h.Ns1 dx mA
 ne:dx≠x
theorem xM{h:Heap}{i:Addr}{f:Str->Option Value}(n:h.Ns1 i f):∃d,h.get? i=some d/\∀b,lookIn b d=some (f b):=by
 obtain⟨o,g,s,k,p,m,_,l⟩:=n;refine⟨o,k,λb=>?_⟩;have e:=l b;unfold nsFind findBy at e;rw[<-Array.find?_toList]at e;unfold lookIn;rw[p];dsimp only;split
 .rename_i y q
  rw[q]at e;exact Fs some e
 .rename_i q
  rw[q]at e;have a:g.toList.any (·.refKey)=false:=by rw[List.any_eq_false];intro y j;obtain⟨z,t,c⟩:=m y (Array.mem_toList_iff.mp j);simp[DictEntry.refKey,c]
  have r:¬g.toList.any (·.refKey)=true:=by rw[a];exact Hm
  rw[Bi r];exact Fs some e
theorem C1.look{h:Heap}{x d C:Addr}{c:Str->Option Value}(I:C1 h x d C c):∃b,PySem.W.InstAt h x (instObj C d) C (some b)/\∀a,lookIn a b=some (c a):=
 let⟨b,ho,hl⟩:=xM I.ns
 ⟨b,⟨I.obj,rfl,rfl,ho⟩,hl⟩
section
variable{prog:Program}{w:World}{A:Around}{E:Value->Shared->Prop}{s:Shared}{K:Frag}{x dx C f:Addr}{mA:Str->Option Value}{name:Str}{v:Value}
theorem get_map{a:Bool}{Q:Value->Shared->Prop}(X:K.In s.heap)(I:C1 s.heap x dx C mA)(g:plainGet K C name=true)(e:PySem.W.hasDictIn K C=true)
 (i:findIn K (.ref C) name=some none)(c:mA name=some v)(b:PySem.W.handedIn v=true)(h:Q v {s with toks:=s.toks+1}):
 wpAny (model prog w) A (getAttr (.ref x) name a) Q E s:=by
 obtain⟨j,J,d⟩:=I.look;exact PySem.W.get_value X J (PySem.W.plainGet_of g).1 (PySem.W.findObj_own e i rfl (by rw[d,c])) b h
theorem zI{R:Result->Shared->Prop}{vs:List Value}{b:List (Str×Value)}(X:K.In s.heap)(c:PySem.W.makesIn K C=true)
 (e:findIn K (.ref C) "__init__"=some (some (.ref f)))(i:PySem.W.typeIn K (.ref f)=some (.type "function"))
 (h:codeAny (model prog w) (A.under (.builtin "type.__call__" ⟨.ref C::vs,b⟩)) (.call (.ref f) ⟨.ref (s.heap.objs.size+1)::vs,b⟩) (PySem.W.InitBack (s.heap.objs.size+1) R)
   {s with heap:=(s.heap.push emptyDict).push (instObj C s.heap.objs.size)}):
 codeAny (model prog w) A (.call (.ref C) ⟨vs,b⟩) R s:=by
 obtain⟨k,g,d,t,j⟩:=s;exact PySem.W.make_core (PySem.W.makes_of X c) (PySem.W.looks_findIn X e) (λa=>PySem.W.bind_fn X a i) (.inl rfl) h
end
theorem xy.some_of{v:V}{o:Option Value}(r:xy (some v) o):∃u,o=some u/\RelV v u:=by
 cases o with
 |none=>exact(show False from r).elim
 |some u=>exact⟨u,rfl,r⟩
theorem xN{v:V}{u:Value}(r:RelV v u):PySem.W.handedIn u=true:=by
 cases v with
 |aJ=>cases(show u=Value.none from r);rfl
 |bl b=>cases(show u=Value.bool b from r);rfl
 |int i=>obtain⟨t,e⟩:=(show∃t,u=Value.int i t from r);cases e;rfl
 |str x=>obtain⟨t,e⟩:=(show∃t,u=Value.str x t from r);cases e;rfl
 |yY b=>obtain⟨t,e⟩:=(show∃t,u=Value.bytes b t from r);cases e;rfl
 |HK b=>obtain⟨t,e⟩:=(show∃t,u=Value.float b t from r);cases e;rfl
 |ref a=>cases(show u=Value.ref a from r);rfl
 |ty n=>cases(show u=Value.type n from r);rfl
section
variable{P:Program}{w:World}{H H':Hp}{h h':Heap}{a C dx:Addr}{fs fs':List (Str×V)}
theorem vv(c:ic P w H h)(e:H a=some (.ins C dx fs)):∃b,C1 h a dx C b/\(∀f,xy (fs.lookup f) (b f))/\PySem.Within b (fs.map (·.1))/\fs.length<=1000/\H dx=some (.own a):=by obtain⟨d,z,i,g,b,n,r,q⟩:=(show bF P w H h a (.ins C dx fs)from c a _ e);exact⟨b,⟨g,n,i⟩,r,q,z,d⟩
end
structure LV(K:Frag)(C:Addr):Prop where
 pg:plainGet K C Str.empty=true
 hd:PySem.W.hasDictIn K C=true
 po:PySem.W.plainOver K C=true
 sa:findIn K (.ref C) "__setattr__"=some (some (.builtin "object.__setattr__"))
theorem LV.get{K:Frag}{C:Addr}(c:LV K C)(f:Str):plainGet K C f=true:=c.pg
noncomputable def tK(K:Frag)(C:Addr)(f:Str):Prop:=findIn K (.ref C) f=some none
structure Meth(K:Frag)(C:Addr)(m:Str)(f:Addr):Prop where
 at_:findIn K (.ref C) m=some (some (.ref f))
 fn:isFn K (.ref f)=true
 kp:keepIn K (.ref f)=true
section
variable{X:Cx}{pins:List (Addr×Obj)}{σ:St}{H:Hp}{s:Shared}{a C dx:Addr}{fs:List (Str×V)}{f:Str}{v:V}{A:Around}{E:Value->Shared->Prop}
theorem tL{b:Bool}{Q:Value->Shared->Prop}(I:Inv X pins σ H s)(e:H a=some (.ins C dx fs))(c:LV X.K C)(n:tK X.K C f)(l:fs.lookup f=some v)
 (h:∀u s',Inv X pins σ H s'->RelV v u->Q u s'):wpAny (model X.prog X.w) A (getAttr (.ref a) f b) Q E s:=by
 obtain⟨g,O,r,_,_,_⟩:=vv I.hok e;obtain⟨u,i,d⟩:=xy.some_of (v:=v) (o:=g f) (by rw[<-l];exact r f);exact get_map I.kg O (c.get f) c.hd n i (xN d) (h u _ (I.tok _) d)
theorem Inv.made(I:Inv X pins σ H s):Inv X pins σ (upd (upd H s.heap.objs.size (.own (s.heap.objs.size+1))) (s.heap.objs.size+1) (.ins C s.heap.objs.size []))
 {s with heap:=(s.heap.push emptyDict).push (instObj C s.heap.objs.size)}:=by
 have d:(s.heap.push emptyDict).get? s.heap.objs.size=some emptyDict:=Fn s.heap rfl;have j:((s.heap.push emptyDict).push (instObj C s.heap.objs.size)).get? (s.heap.objs.size+1)=some (instObj C s.heap.objs.size):=by have:=Fn (s.heap.push emptyDict) (o:=instObj C s.heap.objs.size) rfl;rwa [Heap.size_push]at this
 have i:(s.heap.push emptyDict).Ns s.heap.objs.size (λ_=>none):=⟨emptyDict,#[],_,d,rfl,(λe h=>absurd h (by simp)),λ_=>rfl⟩;have I1:=I.laid (a:=s.heap.objs.size) (o:=.own (s.heap.objs.size+1)) (h':=s.heap.push emptyDict) (t':=s.toks) (λb u q=>D1 _ q) (BM _) ⟨_,d⟩;refine I1.laid (a:=s.heap.objs.size+1) (o:=.ins C s.heap.objs.size []) (t':=s.toks) (λb u q=>D1 _ q) (W8 (Heap.size_push _ _)) ?_;have c:s.heap.objs.size≠s.heap.objs.size+1:=Ha (W7 _);refine⟨by rw[ay c,aQ],KE _,c,j,λ_=>none,(Heap.Ns1.of_empty i).at λo q=>D1 _ q,λ_=>Mx,λy g=>absurd rfl g⟩
theorem C2{prog:Program}{w:World}{env:Env}{e:Expr}{f:Str}{pos:Pos}{s:Shared}{Q:Value->Shared->Prop}(c:attributeBase e f env (eval e env)=eval e env)
 (h:wpAny (model prog w) A (eval e env) (λo b=>wpAny (model prog w) A (getAttr o f true) Q E b) E s):wpAny (model prog w) A (eval (.Attribute e f pos) env) Q E s:=
 Attribute_any_ h (by rw[arm_eval_Attribute,c])
end
noncomputable def QE(K:Frag)(ta:TE)(f:Str):TE:=λd H Q=>ta d H λx c=>∃a C e b v,x=.ref a/\c a=some (.ins C e b)/\LV K C/\tK K C f/\b.lookup f=some v/\Q v c
section
variable{X:Cx}{o e value:Expr}{f:Str}{pos pos' tpos:Pos}{ta tv:TE}
theorem Iz(j:PE X e ta)(k:attributeBase e f X.env (eval e X.env)=eval e X.env):PE X (.Attribute e f pos) (QE X.K ta f):=by intro b s d H Q I h;refine C2 k (bq (j b s d H _ I h) λu y hz=>?_);obtain⟨x,r,I1,g,a,C,A,z,v,ex,m,c,n,l,q⟩:=hz;subst ex;obtain rfl:u=Value.ref a:=g;exact tL I1 m c n l λt w p i=>⟨v,r,p,i,q⟩
end
section
variable{X:Cx}{pins:List (Addr×Obj)}{σ:St}{H:Hp}{s:Shared}{A:Around}{E:Value->Shared->Prop}{Q:Value->Shared->Prop}{c:Value}{b:Bool}
inductive jM(K:Frag)(H:Hp):V->Value->Prop where
 |aJ:jM K H .aJ (.type "NoneType")
 |bl (x:Bool):jM K H (.bl x) (.type "bool")
 |int (i:Int):jM K H (.int i) (.type "int")
 |str (x:Str):jM K H (.str x) (.type "str")
 |HK (x:UInt64):jM K H (.HK x) (.type "float")
 |lst {a:Addr} {xs:List V} (e:H a=some (.lst xs)):jM K H (.ref a) (.type "list")
 |qJ {a:Addr} {o:Obj} {xs:List V} (e:H a=some (.qJ o (.lst xs))):jM K H (.ref a) (.type "list")
 |tup {a:Addr} {xs:List V} (e:H a=some (.tup xs)):jM K H (.ref a) (.type "tuple")
 |dK {a:Addr} {kvs:List (Key×V)} (e:H a=some (.dK kvs)):jM K H (.ref a) (.type "dict")
 |dT {a:Addr} {kvs:List (List Key×V)} (e:H a=some (.dT kvs)):jM K H (.ref a) (.type "dict")
 |ins {a C dx:Addr} {fs:List (Str×V)} (e:H a=some (.ins C dx fs)) (cl:LV K C) (ha:findIn K (.ref C) "__class__"=some (some (.builtin "object.__class__")))
   (hn:PySem.W.specialIn K (.builtin "object.__class__") "__get__"=some (some (.builtin "getset_descriptor.__get__"))) (htk:PySem.W.takesIn K (.builtin "object.__class__")=some true)
   (hm:mroIn K C (.type "object")=some true):jM K H (.ref a) (.ref C)
theorem c7{x:V}{u t:Value}(I:Inv X pins σ H s)(d:RelV x u)(v:jM X.K H x t)(e:kitOne X.K t c=some b)(h:∀B,Q (.bool b) {s with toks:=B}):
 wpAny (model X.prog X.w) A (call (.builtin "isinstance") [u,c]) Q E s:=by
 cases v with
 |aJ=>cases(show u=Value.none from d);exact P2 PySem.W.kitx_none I.kg Mx e (λz=>nomatch z) h
 |bl y=>cases(show u=Value.bool y from d);exact P2 PySem.W.kitx_bool I.kg Mx e (λz=>nomatch z) h
 |int i=>obtain⟨t,q⟩:=(show∃t,u=Value.int i t from d);cases q;exact P2 PySem.W.kitx_int I.kg Mx e (λz=>nomatch z) h
 |str y=>obtain⟨t,q⟩:=(show∃t,u=Value.str y t from d);cases q;exact P2 PySem.W.kitx_str I.kg Mx e (λz=>nomatch z) h
 |HK y=>obtain⟨t,q⟩:=(show∃t,u=Value.float y t from d);cases q;exact P2 PySem.W.kitx_float I.kg Mx e (λz=>nomatch z) h
 |@lst a k f=>
  cases(show u=Value.ref a from d);obtain⟨_,_,n,_,g⟩:=(show bF X.prog X.w H s.heap a (.lst k)from I.hok a _ f);exact P2 PySem.W.kitx_list I.kg ⟨_,g,rfl⟩ e (λz=>nomatch z) h
 |@qJ a D k f=>
  cases(show u=Value.ref a from d);obtain⟨_,_,_,n,_,g⟩:=(show bF X.prog X.w H s.heap a (.qJ D (.lst k))from I.hok a _ f);exact P2 PySem.W.kitx_list I.kg ⟨_,g,rfl⟩ e (λz=>nomatch z) h
 |@tup a k f=>
  cases(show u=Value.ref a from d);obtain⟨_,_,_,p⟩:=(show bF X.prog X.w H s.heap a (.tup k)from I.hok a _ f);obtain⟨o,g,l,_⟩:=p;exact P2 PySem.W.kitx_tuple I.kg ⟨o,g,l⟩ e (λz=>nomatch z) h
 |@dK a j f=>
  cases(show u=Value.ref a from d);obtain⟨_,_,R,_,p⟩:=(show bF X.prog X.w H s.heap a (.dK j)from I.hok a _ f);obtain⟨o,N,P,g,l,_⟩:=p;exact P2 PySem.W.kitx_dict I.kg ⟨o,g,l.1⟩ e (λz=>nomatch z) h
 |@dT a j f=>
  cases(show u=Value.ref a from d);obtain⟨_,_,k,_,o,N,P,g,l,_⟩:=(show bF X.prog X.w H s.heap a (.dT j)from I.hok a _ f);exact P2 PySem.W.kitx_dict I.kg ⟨o,g,l.1⟩ e (λz=>nomatch z) h
 |@ins a C Y U f r M G m L=>
  cases(show u=Value.ref a from d);obtain⟨T,O,_⟩:=vv I.hok f;obtain⟨S,J,_⟩:=O.look;exact P2 (PySem.W.kitx_own (r.get _) r.hd M G m L) I.kg J e (λz=>nomatch z) h
end
structure bY(k:Nat)(A:Around):Prop where
 hd:A.handled=none
 dp:A.depth+3*k+120<recursionLimit
 un:A.units+16*k+200<cLine
theorem bY.mono{j k:Nat}{A:Around}(r:bY k A)(h:j<=k):bY j A:=⟨r.hd,by have:=r.dp;lia,by have:=r.un;lia⟩
theorem bY.deeper{k:Nat}{A:Around}(r:bY (k+1) A)(env:Env):bY k (A.deeper env):=
 ⟨r.hd,by have:=r.dp;show A.depth+1+3*k+120<_;lia,by have:=r.un;show A.units+3+16*k+200<_;lia⟩
theorem bY.in1{k:Nat}{A:Around}(r:bY (k+1) A):bY k A.in1:=
 ⟨r.hd,by have:=r.dp;show A.depth+3*k+120<_;lia,by have:=r.un;show A.units+1+16*k+200<_;lia⟩
theorem tM{A:Around}{C:Addr}{a:List Value}{b:List (Str×Value)}:(A.under (.builtin "type.__call__" ⟨.ref C::a,b⟩)).depth=A.depth+1:=by first|rfl|simp[Around.under,Code.weight,Code.isCreation,Code.isGuard,Code.isCaller,Code.frames,Code.isFrame,guardIds]
theorem tN{A:Around}{C:Addr}{a:List Value}{b:List (Str×Value)}:(A.under (.builtin "type.__call__" ⟨.ref C::a,b⟩)).units=A.units+1:=by first|rfl|simp[Around.under,Code.cUnits,Code.frames,Code.isFrame]
theorem bY.make{k:Nat}{A:Around}(r:bY (k+1) A)(C:Addr)(a:List Value)(b:List (Str×Value)):bY k (A.under (.builtin "type.__call__" ⟨.ref C::a,b⟩)):=
 ⟨r.hd,by have:=r.dp;rw[tM];lia,by have:=r.un;rw[tN];lia⟩
theorem bY.depth{k:Nat}{A:Around}(r:bY k A):A.depth<recursionLimit:=by have:=r.dp;lia
theorem bY.units{k:Nat}{A:Around}(r:bY k A):A.units+64<cLine:=by have:=r.un;lia
noncomputable def zJ:TA:=λ_ H Q=>Q [] H
noncomputable def qQ(ta:TE)(tr:TA):TA:=λa H Q=>ta a H λx d=>tr a d λb c=>Q (x::b) c
section
variable{X:Cx}{e:Expr}{es:List Expr}{te:TE}{t:TA}{pos:Pos}
theorem cG:PA X [] zJ:=λ_ _ _ _ H Q I h=>Calls.spliced_nil ⟨[],H,I,.nil,h⟩
theorem bg(m:PE X e te)(l:PA X es t)(k:starEach (e::es) X.env=(false,eval e X.env)::starEach es X.env:=by rfl):PA X (e::es) (qQ te t):=by intro pos a s b H Q I h;rw[k];show wpAny _ _ (spliced ((false,eval e X.env)::backTo pos (starEach es X.env))) _ _ s;refine Calls.spliced_cons (bq (m a s b H _ I h) λu d ⟨x,p,I1,g,j⟩=>?_);exact bq (l pos a d b p _ I1 j) λq r ⟨c,o,n,f,i⟩=>⟨x::c,o,n,.cons g f,i⟩
noncomputable def QF(t:TA):TE:=λc H Q=>t c H λa b=>a.length<=sizeLine/\∀p,b p=none->Q (.ref p) (upd b p (.tup a))
noncomputable def QG(t:TA):TE:=λc H Q=>t c H λa b=>a.length<=sizeLine/\∀p,b p=none->Q (.ref p) (upd b p (.lst a))
theorem tO{i}(h:PA X es t):PE X (.Tuple es i pos) (QF t):=by intro a s f H Q I k;refine wpAny_Tuple_spliced (bq (h pos a s f H _ I k) λj c ⟨g,d,I1,r,z,q⟩=>⟨by rw[<-r.length];exact z,?_⟩);have l:d c.heap.objs.size=none:=I1.hok.fresh (BM _);refine⟨.ref c.heap.objs.size,upd d c.heap.objs.size (.tup g),I1.laid (t':=c.toks) (λb u e=>D1 _ e) (BM _) ?_,rfl,q _ l⟩;exact⟨z,j,r,⟨_,Fn _ rfl,rfl,_,rfl⟩⟩
theorem zK(h:PA X es t):PE X (.List es pos) (QG t):=by intro a s f H Q I j;refine wpAny_List_spliced (bq (h pos a s f H _ I j) λi c ⟨g,d,I1,r,z,q⟩=>⟨by rw[<-r.length];exact z,?_⟩);have k:d c.heap.objs.size=none:=I1.hok.fresh (BM _);refine⟨.ref c.heap.objs.size,upd d c.heap.objs.size (.lst g),I1.laid (t':=c.toks) (λb u e=>D1 _ e) (BM _) ?_,rfl,q _ k⟩;exact⟨z,i,0,r,Fn _ rfl⟩
end
abbrev Sp:=List V->Hp->VK->XK->Prop
abbrev xO:=List Env->Hp->Shared->XK->Value->Shared->Prop
structure mL(P:Program)(w:World)(K:Frag)(mg:Str->Option Value)(base:Heap)(A:Around)(outer:List Env)(s:Shared)(H:Hp):Prop where
 frames:A.frames=some outer
 mod:Mod K mg base
 bs:∀b o,base.get? b=some o->s.heap.get? b=some o/\H b=none
 CB:base.objs.size<=s.heap.objs.size
 ja:s.heap.FunFrames base outer
 Gf:∀b∈frs outer,H b=none
 hok:ic P w H s.heap
 bare:AllBare s.gens
 tree:P.given.tree=none
noncomputable def CE(a:List Env)(P:Program)(w:World)(H:Hp)(s:Shared)(Q:VK)(u:Value)(s':Shared):Prop:=
 ∃v b,s'.os=s.os/\AllBare s'.gens/\Un (frs a) [] H b s.heap s'.heap/\ic P w b s'.heap/\RelV v u/\Q v b
noncomputable def CR(CX:xO)(a:List Env)(P:Program)(w:World)(H:Hp)(s:Shared)(Q:VK)(E:XK)(r:Result)(s':Shared):Prop:=
 match r with
 |.ok (.ret u)=>CE a P w H s Q u s'
 |.ok _=>False
 |.error e=>CX a H s E e s'
structure bO(P:Program)(w:World)(K:Frag)(mg:Str->Option Value)(base:Heap)(CX:xO)(k:Nat)(f:Addr)(fd:FuncData)(ps:List Str)(sp:Sp):Prop where
 len:∀vs H Q E,sp vs H Q E->vs.length=ps.length
 run:∀(A:Around)(outer:List Env)(s:Shared)(H:Hp)(args:Args)(us:List Value)(vs:List V)(Q:VK)(E:XK),bY k A->mL P w K mg base A outer s H->BindsTo s fd args (ps.zip us)->Vals vs us->sp vs H Q E->
  codeAny (model P w) A (.call (.ref f) args) (CR CX outer P w H s Q E) s
theorem bO.imp{P:Program}{w:World}{K:Frag}{d:Str->Option Value}{base:Heap}{CX:xO}{k:Nat}{f:Addr}{e:FuncData}{c:List Str}{sp g:Sp}(F:bO P w K d base CX k f e c sp)
 (h:∀vs H Q E,g vs H Q E->sp vs H Q E):bO P w K d base CX k f e c g:=
 ⟨λvs H Q E q=>F.len vs H Q E (h _ _ _ _ q),λA a s H b i vs Q E m n o j l=>F.run A a s H b i vs Q E m n o j (h _ _ _ _ l)⟩
theorem mL.make{P:Program}{w:World}{K:Frag}{b:Str->Option Value}{base:Heap}{A:Around}{a:List Env}{s:Shared}{H:Hp}(e:mL P w K b base A a s H)(C:Addr)(c:List Value)(d:List (Str×Value)):
 mL P w K b base (A.under (.builtin "type.__call__" ⟨.ref C::c,d⟩)) a s H:=⟨by first|exact e.frames|(simpa[Around.under,Code.envs,Code.isFrame,pushEnvs]using e.frames),e.mod,e.bs,e.CB,e.ja,e.Gf,e.hok,e.bare,e.tree⟩
theorem mL.in1{P:Program}{w:World}{K:Frag}{b:Str->Option Value}{base:Heap}{A:Around}{a:List Env}{s:Shared}{H:Hp}(e:mL P w K b base A a s H):
 mL P w K b base A.in1 a s H:=⟨e.frames,e.mod,e.bs,e.CB,e.ja,e.Gf,e.hok,e.bare,e.tree⟩
section
variable{X:Cx}{pins:List (Addr×Obj)}{σ:St}{H:Hp}{s s':Shared}
theorem Inv.IA(I:Inv X pins σ H s):mL X.prog X.w X.K X.mg X.base X.A X.stack s H:=
 ⟨I.ok.frames,I.ok.mod,I.bs,Hn I.ok.CB I.sz,I.stack,I.iz,I.hok,I.bare,I.ok.tree⟩
theorem Inv.after{Q:VK}{u:Value}(I:Inv X pins σ H s)(h:CE X.stack X.prog X.w H s Q u s'):EP X pins σ Q u s':=by obtain⟨v,j,os,a,f,e,r,q⟩:=h;obtain⟨i,g,d,t,c⟩:=s';obtain rfl:c=s.os:=os;exact⟨v,j,I.call (h':=i) (g':=g) (d':=d) (t':=t) (ch:=[]) f e a (λb z=>absurd z (by simp)),r,q⟩
end
noncomputable def Binds(K:Frag)(c:FuncData)(b:List Str)(ds:List Value):Prop:=
 ∀(s:Shared)(a:List Value),K.In s.heap->(a++ds).length=b.length->BindsTo s c ⟨a,[]⟩ (b.zip (a++ds))
theorem Binds.all{K:Frag}{d:FuncData}{b:List Str}(h:∀a:List Value,a.length=b.length->bindArgs d ⟨a,[]⟩=pure (b.zip a)):Binds K d b []:=λs a _ c=>by rw[X7]at c⊢;exact .of_eq (h a c)
noncomputable def Passes(CX:xO)(X:Cx)(E:XK):Prop:=∀(a:List (Addr×Obj))(c:St)(H:Hp)(s:Shared)(e:Value)(b:Shared),Inv X a c H s->CX X.stack H s E e b->X.xe e b
section
variable{X:Cx}{CX:xO}{k:Nat}{f C:Addr}{fd:FuncData}{ps:List Str}{sp:Sp}{C3:List V}{ds:List Value}{E:XK}{x m:Str}{p pos apos:Pos}{e o:Expr}{es:List Expr}{ta:TE}{t:TA}
theorem IB{a:List (Addr×Obj)}{d:St}{H:Hp}{s:Shared}{Q:VK}{b:List Value}{vs:List V}(F:bO X.prog X.w X.K X.mg X.base CX k f fd ps sp)(l:bY k X.A)(v:Binds X.K fd ps ds)(q:Vals C3 ds)(j:Passes CX X E)
 (I:Inv X a d H s)(r:Vals vs b)(h:sp (vs++C3) H Q E):wpAny (model X.prog X.w) X.A (call (.ref f) b) (EP X a d Q) X.xe s:=by
 have g:Vals (vs++C3) (b++ds):=r.append q;have n:(b++ds).length=ps.length:=by rw[<-g.length];exact F.len _ _ _ _ h
 refine wpAny_call (Wv (F.run X.A X.stack s H ⟨b,[]⟩ (b++ds) (vs++C3) Q E l I.IA (v s b I.kg n) g h) λr i c=>?_);cases r with
 |error e=>exact j a d H s e i I c
 |ok fl=>
  cases fl with
  |ret u=>exact I.after c
  |next=>exact Gx c
  |brk=>exact Gx c
  |cont=>exact Gx c
structure Mk(K:Frag)(C f:Addr):Prop where
 makes:PySem.W.makesIn K C=true
 init:findIn K (.ref C) "__init__"=some (some (.ref f))
 fn:isFn K (.ref f)=true
 kp:keepIn K (.ref C)=true
theorem zL{a:List (Addr×Obj)}{i:St}{H:Hp}{s:Shared}{Q:VK}{c:List Value}{vs:List V}(M:Mk X.K C f)(F:bO X.prog X.w X.K X.mg X.base CX k f fd ps sp)(z:bY (k+1) X.A)(G:Binds X.K fd ps ds)(D:Vals C3 ds)
 (y:Passes CX X E)(I:Inv X a i H s)(r:Vals vs c)
 (h:∀x d,H x=none->H d=none->d≠x->sp (.ref x::(vs++C3)) (upd (upd H d (.own x)) x (.ins C d [])) (λv L=>v=.aJ/\Q (.ref x) L) E):
 wpAny (model X.prog X.w) X.A (call (.ref C) c) (EP X a i Q) X.xe s:=by
 have l:=h (s.heap.objs.size+1) s.heap.objs.size (I.hok.fresh (Xb _)) (I.hok.fresh (BM _)) (Ha (W7 _));have g:=Inv.made (C:=C) I;have j:Vals (V.ref (s.heap.objs.size+1)::(vs++C3)) (Value.ref (s.heap.objs.size+1)::(c++ds)):=.cons rfl (r.append D);have B:(Value.ref (s.heap.objs.size+1)::c++ds).length=ps.length:=by have e:=j.length;rw[F.len _ _ _ _ l]at e;exact e.symm
 refine wpAny_call (zI (f:=f) I.kg M.makes M.init (Pl.mp M.fn) (Wv (F.run _ X.stack _ _ ⟨Value.ref (s.heap.objs.size+1)::c,[]⟩ (Value.ref (s.heap.objs.size+1)::(c++ds)) _ _ E (z.make C c [])
  (g.IA.make C c []) (G _ (Value.ref (s.heap.objs.size+1)::c) g.kg B) j l) λr n b=>?_))
 cases r with
 |error e=>exact y a i _ _ e n g b
 |ok fl=>
  cases fl with
  |ret u=>obtain⟨v,N,J,rv,ev,q⟩:=g.after b;subst ev;exact⟨rv,⟨V.ref (s.heap.objs.size+1),N,J,rfl,q⟩⟩
  |next=>exact Gx b
  |brk=>exact Gx b
  |cont=>exact Gx b
end
noncomputable def PK(X:Cx)(d:List Keyword)(t:TA):Prop:=
 ∀(c:Pos)(a:List (Addr×Obj))(s:Shared)(b:St)(H:Hp)(Q:List V->Hp->Prop),Inv X a b H s->t b H Q->wpAny (model X.prog X.w) X.A (evalAll ((backToKw c (keywordEach d X.env)).map (·.2))) (AP X a b Q) X.xe s
section
variable{X:Cx}{CX:xO}{k:Nat}{f C:Addr}{fd:FuncData}{ps ks:List Str}{sp:Sp}{E:XK}{x m:Str}{p pos apos kpos:Pos}{e o:Expr}{es:List Expr}{kws:List Keyword}{te ta:TE}{t tk:TA}{nm:Option Str}
theorem IC:PK X [] zJ:=λ_ _ _ _ H Q I h=>wpAny_evalAll_nil ⟨[],H,I,.nil,h⟩
theorem C4(q:PE X e te)(n:PK X kws t):PK X (⟨nm,e,kpos⟩::kws) (qQ te t):=by intro pos a s b H Q I h;show wpAny _ _ (evalAll ((do let v<-eval e X.env;standAt pos;pure v)::(backToKw pos (keywordEach kws X.env)).map (·.2))) _ _ s;refine wpAny_evalAll_cons (Dx (bq (q a s b H _ I h) λu d ⟨x,y,I1,i,l⟩=>Dx (WZ (KB ?_))));exact bq (n pos a d b y _ I1 l) λz A ⟨c,w,r,g,j⟩=>⟨x::c,w,r,.cons i g,j⟩
variable{g:List Value->List Value->List Value}{gV:List V->List V->List V}
end
structure fj(N P:List Str)(sc:Scope):Prop where
 kind:sc.kind=.function
 co:sc.isCoroutine=false
 gen:sc.isGenerator=false
 nd:N.Nodup
 pre:N.take P.length=P
 par:∀x∈P,sc.names.lookup x=some .local\/sc.names.lookup x=some .cell
 ID:∀y∈sc.names,y.2≠.free
theorem m9{b:Str->Option NameKind}{x:Str}:∀{a:List (Str×Value)}{m:Str->Option Value},(∀v,(x,v)∉a)->bindL b a m x=m x
 |[],_,_=>rfl
 |(n,v)::r,m,h=>by
  unfold bindL;rw[m9 λw c=>h w (FK _ c)];split
  .have:x≠n:=by rintro rfl;exact h v FC
   simp[this]
  .rfl
theorem nh{b:Str->Option NameKind}{x:Str}:∀{a:List (Str×Value)}{m:Str->Option Value},(∀v,(x,v)∉a)->bindC b a m x=m x
 |[],_,_=>rfl
 |(n,v)::r,m,h=>by
  unfold bindC;rw[nh λw c=>h w (FK _ c)];split
  .rfl
  .have:x≠n:=by rintro rfl;exact h v FC
   simp[this]
theorem ni{a:Str->Option NameKind}{x:Str}{v:Value}:∀{P:List Str}{vs:List Value}{i:Nat}{m:Str->Option Value},P.Nodup->P[i]?=some x->vs[i]?=some v->a x=some .local->
 bindL a (P.zip vs) m x=some v
 |[],_,_,_,_,h,_,_=>by simp at h
 |_::_,[],_,_,_,_,h,_=>by simp at h
 |p::P,w::vs,0,m,d,c,b,e=>by simp at c b;subst c;subst b;show bindL a ((p,w)::P.zip vs) m p=_;unfold bindL;rw[m9 λv f=>(SZ.mp d).1 (R8 f).1,Bz e];simp
 |p::P,w::vs,i+1,m,d,c,b,e=>by show bindL a ((p,w)::P.zip vs) m x=_;unfold bindL;exact ni (i:=i) (SZ.mp d).2 (by simpa using c) (by simpa using b) e
theorem nj{a:Str->Option NameKind}{x:Str}{v:Value}:∀{P:List Str}{vs:List Value}{i:Nat}{m:Str->Option Value},P.Nodup->P[i]?=some x->vs[i]?=some v->a x≠some .local->
 bindC a (P.zip vs) m x=some v
 |[],_,_,_,_,h,_,_=>by simp at h
 |_::_,[],_,_,_,_,h,_=>by simp at h
 |p::P,w::vs,0,m,d,c,b,e=>by simp at c b;subst c;subst b;show bindC a ((p,w)::P.zip vs) m p=_;unfold bindC;rw[nh λv f=>(SZ.mp d).1 (R8 f).1,Bi e];simp
 |p::P,w::vs,i+1,m,d,c,b,e=>by show bindC a ((p,w)::P.zip vs) m x=_;unfold bindC;exact nj (i:=i) (SZ.mp d).2 (by simpa using c) (by simpa using b) e
noncomputable def start(N:List Str)(vs:List V):St:=vs.map some++Dg (N.length -vs.length) none
noncomputable def xP(CX:xO)(P:Program)(w:World)(K:Frag)(mg:Str->Option Value)(base:Heap)(N:List Str)(b:Str)(a:Scope)(f:Addr)(d:Value)(A:Around)(outer:List Env)(s:Shared)(H:Hp)(E:XK):Cx where
 prog:=P
 w:=w
 K:=K
 mg:=mg
 base:=base
 A:=A.deeper (envOfC b a s.heap.objs.size f d)
 N:=N
 s₀:=s
 H₀:=H
 env:=envOfC b a s.heap.objs.size f d
 outer:=outer
 stack:=envOfC b a s.heap.objs.size f d::outer
 ex:=[]
 calm:=true
 fn:=λ_=>true
 pn:=[]
 xe:=λe g=>wpAny (model P w) (A.deeper (envOfC b a s.heap.objs.size f d)) (leaving (envOfC b a s.heap.objs.size f d) e) (λ_ c=>CX outer H s E e c) (λh c=>CX outer H s E h c) g
theorem qR{sc:Scope}{n:Nat}{x:Str}(h:sc.names.lookup x=some .cell):∃c,(cellsFrom n sc.names []).lookup x=some c:=by have q:=PySem.W.cellsFrom_some sc.names n [] (.inl h);exact QR.mp q
theorem xQ{CX:xO}{P:Program}{w:World}{K:Frag}{L:Str->Option Value}{base:Heap}{N o:List Str}{l:Str}{d:Scope}{f:Addr}{I:Value}{A:Around}{g:List Env}{s O:Shared}{H:Hp}{E:XK}{J:List Value}{vs:List V}
 (S:fj N o d)(Y:A.handled=none)(VW:A.depth+110<recursionLimit)(j:mL P w K L base A g s H)(hl:vs.length=o.length)(r:Vals vs J)
 (x:InCallC s s.heap.objs.size (bindL (envOfC l d s.heap.objs.size f I).kindOf (o.zip J) λ_=>none) (cellsFrom (s.heap.objs.size+1) d.names []) (bindC (envOfC l d s.heap.objs.size f I).kindOf (o.zip J) λ_=>none) O):
 Inv (xP CX P w K L base N l d f I A g s H E) [] (start N vs) H O:=by
 have T:o.length<=N.length:=by have:=Fs XJ S.pre;rw[QQ]at this;lia
 obtain⟨G,tk,rfl,C⟩:=x.done;have M:∀b:Addr,b∉(xP CX P w K L base N l d f I A g s H E).ex:=λb z=>absurd (show b∈([]:List Addr)from z) (by simp);refine⟨⟨j.mod,S.kind,rfl,rfl,BM _,λy z c G m=>?_,λy t=>?_,λy c _ h=>?_,λ_=>Y,Around.frames_deeper j.frames,.inr ⟨rfl,rfl⟩,λb z=>absurd z (M b),j.bs,j.CB,λb _ _=>M b,λb z=>absurd z (M b),j.ja,j.Gf,j.tree,λA' s' U TV C=>PylongRoom.of (j.mod.nolimit.keeps C) (by rw[TV];show A.depth+1+100<_;lia) (SeerAt.of (j.mod.seer.keeps C) j.tree (U.trans (Around.frames_deeper j.frames)) S.gen S.co rfl rfl)⟩,
  rfl,j.bare,Un.kept C,⟨_,x.toInCall.ns,λi y v G m h3=>?_⟩,λy c h=>⟨_,x.cell y c h⟩,j.hok.fresh (BM _),λy c h=>?_,λp B=>absurd (show p∈([]:List (Addr×Obj))from B) (by simp),j.hok.kept C,?_⟩
 .exact name_of_addr x.apart (Kx G) (Kx m)
 .have t:d.names.lookup y=some .cell\/d.names.lookup y=some .free:=t;rcases t with t|t
  .exact qR t
  .exact absurd rfl (S.ID _ (Kx t))
 .exact X5 (x.above y c (Kx h))
 .have D:i<vs.length:=by
   unfold start at m;by_cases D:i<vs.length
   .exact D
   .rw[KM (by simpa using D)]at m;rw[TK]at m;split at m<;>cases m
  have Z:vs[i]?=some v:=by
   unfold start at m;rw[N0 (by simpa using D),Da]at m;cases e:vs[i]? with
   |none=>rw[e]at m;cases m
   |some a=>rw[e]at m;cases m;rfl
  obtain⟨u,Q,rv⟩:=r.get Z;have B:o[i]?=some y:=by rw[<-S.pre,WC (by lia)];exact G
  have R:o.Nodup:=by rw[<-S.pre];exact S.nd.sublist (List.take_sublist _ _)
  refine⟨u,rv,?_⟩;rcases S.par y (On B)with k|k
  .exact .inl ⟨k,ni R B Q k⟩
  .obtain⟨c,e⟩:=qR (n:=s.heap.objs.size+1) k;refine .inr ⟨.inl k,c,e,?_⟩;have q:=x.cell y c e;rw[nj R B Q (by show d.names.lookup y≠_;rw[k];decide)]at q;exact q
 .exact j.hok.fresh (X5 (x.above y c (Kx h)))
 .unfold start;show _=N.length;rw[Fm,AN,WO];lia
theorem MX{CX:xO}{P:Program}{w:World}{K:Frag}{M:Str->Option Value}{base:Heap}{k:Nat}{f:Addr}{l d:Str}{h:Arguments}{i:List Stmt}{a:Scope}{dV kV G pm g ct oc:Value}{an od:Option Addr}
 {T:Array (Option Value)}{N L:List Str}{sp:Sp}(lk:K.lookup f=some ⟨oc,od,.func (fnOf l d h i a dV kV G pm an g ct),T⟩)(Y:codeIn K g d=true)(S:fj N L a)
 (B:∀vs H Q E,sp vs H Q E->vs.length=L.length)
 (p:∀(A:Around)(c:List Env)(s:Shared)(H:Hp)(vs:List V)(Q:VK)(E:XK),bY k (A.deeper (envOfC d a s.heap.objs.size f g))->sp vs H Q E->
   ∃t,qL (xP CX P w K M base N d a f g A c s H E) i t/\t {nx:=λ_ H'=>Q .aJ H',rt:=Q} (start N vs) H):
 bO P w K M base CX (k+1) f (fnOf l d h i a dV kV G pm an g ct) L sp:=by
 refine⟨B,λA c s H args us vs Q E O D hb r Z=>?_⟩;have hl:=B _ _ _ _ Z;have KX:K.In s.heap:=D.mod.Px.keeps λb o e=>(D.bs b o e).1;have U:s.heap.NoLimit:=D.mod.nolimit.keeps λb o e=>(D.bs b o e).1;have m:∀y∈L.zip us,a.names.lookup y.1=some .local\/(a.names.lookup y.1=some .cell/\((cellsFrom (s.heap.objs.size+1) a.names []).lookup y.1).isSome=true):=λ⟨n,v⟩ hy=>by
  rcases S.par n (R8 hy).1 with q|q
  .exact .inl q
  .exact .inr ⟨q,PySem.W.cellsFrom_some _ _ _ (.inl q)⟩
 refine codeAny_call_function O.depth (KX _ _ lk) rfl S.co S.gen rfl (PySem.W.codeRec_of KX Y) (hb _ _ _ _ ?_);refine wpAny_newFunctionEnv_cells S.kind m λenv he s1 x=>?_;subst he;refine⟨U.keeps x.toInCall.keep,codeAny_func ?_⟩;obtain⟨t,ht,hq⟩:=p A c s H vs Q E (O.deeper _) Z;have I:Inv (xP CX P w K M base N d a f g A c s H E) [] (start N vs) H s1:=xQ S O.hd (by have:=O.dp;lia) D hl r x;refine RF (ht [] s1 (start N vs) H _ I hq) (λfl R z=>?_) λe R z=>z;have C:∀{j:St}{H':Hp}{v:V}{u:Value},Inv (xP CX P w K M base N d a f g A c s H E) [] j H' R->RelV v u->Q v H'->CE c P w H s Q u R:=
  λ{j H' v u} J rv q=>⟨v,H',J.os,J.bare,J.base,J.hok,rv,q⟩
 cases fl with
 |ret u=>obtain⟨v,j,H',J,rv,q⟩:=z;exact C J rv q
 |next=>obtain⟨j,H',J,q⟩:=z;exact C (v:=V.aJ) (u:=Value.none) J rfl q
 |brk=>obtain⟨_,_,_,q⟩:=z;exact Gx q
 |cont=>obtain⟨_,_,_,q⟩:=z;exact Gx q
section
variable{X:Cx}{x:Str}{p pos:Pos}{e:Expr}{es:List Expr}{t:TA}{id T:String}{r:List V->Hp->VK->Prop}
noncomputable def Sd(r:List V->Hp->VK->Prop)(t:TA):TE:=λa H Q=>t a H λb c=>r b c Q
theorem kr(u:bK X (.builtin id) r)(o:Gl X x)(n:X.mg x=none)(l:bootBuiltins x=some (.builtin id))(v:PA X (e::es) t)(m:x≠"__name__":=by decide)(c:(x==("__debug__":Str))=false:=by decide)
 (q:starEach (e::es) X.env=(false,eval e X.env)::starEach es X.env:=by rfl)(b:(backTo pos (starEach es X.env)).any (·.1)=false:=by rfl):PE X (.Call (.Name x p) (e::es) [] pos) (Sd r t):=by
 intro a s d H Q I h;refine W5 (dj I o n l ?_ m c);exact XY (bq (v pos a s d H _ I h) λg i ⟨f,w,I1,j,k⟩=>u a i d w f g Q I1 j k) q b
theorem nt(u:bK X (.type T) r)(o:Gl X x)(n:X.mg x=none)(l:bootBuiltins x=some (.type T))(v:PA X (e::es) t)(m:x≠"__name__":=by decide)(c:(x==("__debug__":Str))=false:=by decide)
 (q:starEach (e::es) X.env=(false,eval e X.env)::starEach es X.env:=by rfl)(b:(backTo pos (starEach es X.env)).any (·.1)=false:=by rfl):PE X (.Call (.Name x p) (e::es) [] pos) (Sd r t):=by
 intro a s d H Q I h;refine W5 (dj I o n l ?_ m c);exact Kt (bq (v pos a s d H _ I h) λg i ⟨f,w,I1,j,k⟩=>u a i d w f g Q I1 j k) q b
end
end L2
namespace HT
open PySem PyProof.Rows
noncomputable def lexLt:List Int->List Int->Bool
 |[],[]=>false
 |[],_::_=>true
 |_::_,[]=>false
 |x::b,y::a=>if x=y then lexLt b a else decide (x<y)
theorem gK(x y:Int)(b a:List Int):lexLt (x::b) (y::a)=if x=y then lexLt b a else decide (x<y):=rfl
theorem mO:lexLt [] []=false:=rfl
theorem ku(y:Int)(a:List Int):lexLt [] (y::a)=true:=rfl
theorem kC(x:Int)(a:List Int):lexLt (x::a) []=false:=rfl
theorem zM(A:Around)(s:Shared)(a:Int)(t:Tok)(c:Int)(u:Tok):∃e,SeqAt.EqAt A s (.int a t) (.int c u) e/\(e=true↔a=c):=
 ⟨(a==c),Wy a t c u,by simp⟩
theorem qS(A:Around)(s:Shared)(a:Int)(t:Tok)(c:Int)(u:Tok)(prog:Program)(w:World)(E:Value->Shared->Prop)(Q:Value->Shared->Prop)(h:Q (.bool (decide (a<c))) s):
 wpAny (model prog w) A (richCompare .Lt (.int a t) (.int c u)) Q E s:=
 (Rn h:wpAny (model prog w) A (compareOp .Lt (.int a t) (.int c u)) Q E s)
section
open PySem.SeqAt
open PySem.AutoSeq1 (wpAny_loadPart')
open PySem.MeetsSeq PySem.MeetsSeq2 PySem.MeetsSeq3
end
section
variable{prog:Program}{w:World}{A:Around}{E:Value->Shared->Prop}{s:Shared}
theorem C5{t b:Addr}{vs a:List Value}{Q:Value->Shared->Prop}(u:IsTup s.heap t vs.toArray)(v:IsTup s.heap b a.toArray)(p:vs≠[])
 (y:a=[]->Q (.ref t) s)(x:a≠[]->Q (.ref s.heap.objs.size) {s with heap:=s.heap.push {cls:=.type "tuple",data:=.seq (vs++a).toArray}})
 (k:vs.length+a.length<=sizeLine):wpAny (model prog w) A (binaryOp .Add (.ref t) (.ref b)) Q E s:=by
 obtain⟨⟨cls,dd,data,m⟩,j,r,n,q⟩:=id u;obtain⟨⟨z,h,l,d⟩,c,g,o,f⟩:=id v;simp only at r q g f;subst r q g f;have e:vs.toArray++a.toArray=(vs++a).toArray:=by simp
 by_cases i:a=[]
 .exact concat_meets ⟨_,j,rfl⟩ ⟨_,c,rfl⟩ noFill_tuple_add seq_tuple_add PySem.F.slot_tuple_add PySem.F.entry_tuple_add (PySem.F.args_tuple_add_2 _ _)
   (tuple_addW1 t b vs.toArray a.toArray n o dd h m d (by simpa using p) (by simp[i])) ⟨j,c,y i⟩
 .refine concat_meets ⟨_,j,rfl⟩ ⟨_,c,rfl⟩ noFill_tuple_add seq_tuple_add PySem.F.slot_tuple_add PySem.F.entry_tuple_add (PySem.F.args_tuple_add_2 _ _)
   (tuple_addW2 t b vs.toArray a.toArray n o dd h m d (by simpa using p) (by simpa using i) (by rw[Do,Do];exact k)) ⟨j,c,?_⟩
  rw[e];exact x i
noncomputable def ny(n d:Nat):Option Int->Nat
 |none=>d
 |some v=>if v<0 then(v+(n:Int)).toNat else min v.toNat n
theorem zN(n d:Nat):ny n d none=d:=rfl
theorem om(n d k:Nat):ny n d (some (k:Int))=min k n:=by show(if(k:Int)<0 then((k:Int)+(n:Int)).toNat else min (k:Int).toNat n)=min k n;rw[Bi (by lia),F1]
end
end HT
namespace L2
open PySem PySem.Spec PyProof.Rows
abbrev TO:=St->Hp->(Option Int->Hp->Prop)->Prop
noncomputable def PO(X:Cx)(e:Option Expr)(t:TO):Prop:=
 ∀(a:List (Addr×Obj))(s:Shared)(b:St)(H:Hp)(Q:Option Int->Hp->Prop),Inv X a b H s->t b H Q->
  wpAny (model X.prog X.w) X.A (evalPart e X.env) (λu d=>∃o c,Inv X a b c d/\IsPart u o/\Q o c) X.xe s
noncomputable def C6:TO:=λ_ H Q=>Q none H
noncomputable def MZ(t:TE):TO:=λa H Q=>t a H λx b=>∃i,x=.int i/\Q (some i) b
theorem intsAre_of{ns:List Int}:∀{a:List Value},Vals (ns.map V.int) a->IntsAre a ns:=by
 induction ns with
 |nil=>intro a r;rw[OQ]at r;cases r;exact .nil
 |cons n ns d=>
  intro a r;rw[P3]at r;cases r with
  |cons c b=>obtain⟨t,e⟩:=c;subst e;exact .cons n t (d b)
section
variable{X:Cx}{e:Expr}{te:TE}{lo hi:Option Expr}{tl th:TO}{pos p2:Pos}
theorem C7:PO X none C6:=by intro a s b H Q I h;rw[evalPart_none];exact KB ⟨none,H,I,.none,h⟩
theorem vA(h:PE X e te):PO X (some e) (MZ te):=by intro a s b H Q I f;rw[evalPart_some];refine bq (h a s b H _ I f) λu j ⟨x,g,I1,c,d⟩=>?_;obtain⟨i,rfl,q⟩:=d;obtain⟨t,rfl⟩:=c;exact⟨some i,g,I1,.int i t,q⟩
noncomputable def Se(X:Cx)(r:V->Option Int->Option Int->Hp->VK->Prop):Prop:=
 ∀(a:List (Addr×Obj))(s:Shared)(b:St)(H:Hp)(x:V)(v d c:Value)(lo hi:Option Int)(f:Addr)(Q:VK),Inv X a b H s->RelV x v->s.heap.IsSliceOf f d c .none->IsPart d lo->IsPart c hi->r x lo hi H Q->
  ∃T g,typeLookup (.type T) "__getitem__"=pure (some (.builtin g))/\s.TypeIs v T/\wpAny (model X.prog X.w) X.A (getItem v (.ref f)) (EP X a b Q) X.xe s
noncomputable def TX(r:V->Option Int->Option Int->Hp->VK->Prop)(te:TE)(tl th:TO):TE:=λa H Q=>te a H λx d=>tl a d λl c=>th a c λu b=>r x l u b Q
theorem zO{r:V->Option Int->Option Int->Hp->VK->Prop}(C:Se X r)(G:PE X e te)(D:PO X lo tl)(z:PO X hi th):PE X (.Subscript e (.Slice lo hi none p2) pos) (TX r te tl th):=by intro a s d H Q I h;refine Subscript_ (bq (G a s d H _ I h) λv k ⟨x,O,I1,m,p⟩=>?_);refine wpAny_Slice (bq (D a k d O _ I1 p) λg j ⟨l,N,M,y,o⟩=>bq (z a j d N _ M o) λf c ⟨u,i,L,t,n⟩=>?_);rw[evalPart_none];refine KB ?_;have K:Inv X a d i {c with heap:=c.heap.push {cls:=.type "slice",data:=.fields #[g,f,.none]}}:=L.kept (t':=c.toks) λb P q=>D1 _ q;obtain⟨T,R,J,B,E⟩:=C a {c with heap:=c.heap.push {cls:=.type "slice",data:=.fields #[g,f,.none]}} d i x v g f l u c.heap.objs.size Q K m (Heap.IsSliceOf.new ..) y t n;show wpAny (model X.prog X.w) X.A (subscriptTail e (.Slice lo hi none p2) v (.ref c.heap.objs.size)) (EP X a d Q) X.xe {c with heap:=c.heap.push {cls:=.type "slice",data:=.fields #[g,f,.none]}};exact tail_any (ops:=[.ref c.heap.objs.size,v]) B J E (by with_unfolding_all rfl)
noncomputable def xR(a:List V)(lo hi:Option Int):List V:=(a.drop (HT.ny a.length 0 lo)).take (HT.ny a.length a.length hi -HT.ny a.length 0 lo)
theorem qT(a:List V)(lo hi:Option Int):(xR a lo hi).length<=a.length:=by unfold xR;rw[QQ,R6];lia
noncomputable def M0(K:Frag):R2:=λx y H Q=>∃a b d c,x=.ref a/\y=.ref b/\ie K H a d/\ie K H b c/\d≠[]/\d.length+c.length<=sizeLine/\
 (c=[]->Q (.ref a) H)/\(c≠[]->∀p,H p=none->Q (.ref p) (upd H p (.tup (d++c))))
theorem Vals.oq{a:List V}{b:List Value}(r:Vals a b):b=[]↔a=[]:=by
 cases r with
 |nil=>simp
 |cons _ _=>simp
theorem C8:gD X (binaryOp .Add) (M0 X.K):=by intro f s C H x y v u Q I l k h;obtain⟨a,b,j,i,rfl,rfl,B,A,t,hz,n,m⟩:=h;cases l;cases k;obtain⟨r,d,p,_⟩:=I.tuple B;obtain⟨g,c,p2,_⟩:=I.tuple A;refine HT.C5 p p2 (λz=>t (d.oq.mp z)) (λz=>⟨.ref a,H,I,rfl,n (c.oq.mp z)⟩) (λz=>?_) (by rw[<-d.length,<-c.length];exact hz);refine⟨.ref s.heap.objs.size,_,I.laid (t':=s.toks) (o:=.tup (j++i)) (λb D q=>D1 _ q) (BM _) ?_,rfl,m (λw=>z (c.oq.mpr w)) _ (I.hok.fresh (BM _))⟩;exact⟨by rw[Fm];exact hz,_,d.append c,IsTup.new _ _⟩
end
noncomputable def sO(n:Nat)(i:Int):Option Nat:=if 0<=i then(if i<n then some i.toNat else none)else if-(n:Int)<=i then some (i+n).toNat else none
noncomputable def i8{α:Type}(a:List α)(i:Int):Option α:=(sO a.length i).bind λj=>a[j]?
theorem vB{n:Nat}{i:Int}{j:Nat}(h:sO n i=some j):seqIndex? i n=some j/\j<n/\-(n:Int)<=i/\i<n:=by
 unfold sO at h;by_cases b:0<=i
 .rw[Bz b]at h;by_cases a:i<n
  .rw[Bz a]at h;have e:i.toNat=j:=Hk h;exact⟨by rw[seqIndex_of b a,e],by lia,by lia,a⟩
  .rw[Bi a]at h;cases h
 .rw[Bi b]at h;by_cases a: -(n:Int)<=i
  .rw[Bz a]at h;have e:(i+n).toNat=j:=Hk h;exact⟨by rw[seqIndex_neg (by lia) a,e],by lia,a,by lia⟩
  .rw[Bi a]at h;cases h
theorem ou{α:Type}{a:List α}{i:Int}{v:α}(h:i8 a i=some v):∃j,seqIndex? i a.length=some j/\a[j]?=some v/\j<a.length/\-(a.length:Int)<=i/\i<a.length:=by
 unfold i8 at h;cases e:sO a.length i with
 |none=>rw[e]at h;cases h
 |some j=>rw[e]at h;obtain⟨f,d,c,b⟩:=vB e;exact⟨j,f,h,d,c,b⟩
theorem aO{α:Type}{a:List α}{j:Nat}{v:α}(h:a[j]?=some v):i8 a (j:Int)=some v:=by
 have b:j<a.length:=(Fh.mp h).1;have e:sO a.length (j:Int)=some j:=by unfold sO;rw[Bz (by lia),Bz (by lia)];simp
 unfold i8;rw[e];exact h
noncomputable def iB(b:Expr):Prop:=∀o i,subscripted b false o i=operate [o,i] (getItem o i)
noncomputable def C9(X:Cx)(r:R2):Prop:=
 ∀(c a:Expr)(b:List (Addr×Obj))(s:Shared)(d:St)(H:Hp)(x y:V)(v u:Value)(Q:VK),Inv X b d H s->RelV x v->RelV y u->r x y H Q->
  subscripted a false v u=operate [v,u] (getItem v u)->wpAny (model X.prog X.w) X.A (subscriptTail c a v u) (EP X b d Q) X.xe s
noncomputable def Sh(X:Cx)(e:String)(r:V->List V->Hp->VK->Prop):Prop:=
 ∀(a:List (Addr×Obj))(s:Shared)(b:St)(H:Hp)(x:V)(c:List V)(v:Value)(d:List Value)(Q:VK),Inv X a b H s->RelV x v->Vals c d->r x c H Q->
  wpAny (model X.prog X.w) X.A (call (.builtin e) (v::d)) (EP X a b Q) X.xe s
section
variable{X:Cx}{a b:Expr}{ta tb:TE}{pos:Pos}
theorem C9.or{r j:R2}(h:C9 X r)(h':C9 X j):C9 X (λx y H Q=>r x y H Q\/j x y H Q):=by
 intro c d e s f H x y v u Q I i g q k;rcases q with q|q
 .exact h c d e s f H x y v u Q I i g q k
 .exact h' c d e s f H x y v u Q I i g q k
theorem zP{r:R2}(j:C9 X r)(l:PE X a ta)(k:PE X b tb)(i:iB b):PE X (.Subscript a b pos) (TM r ta tb):=by intro c s d H Q I h;exact Subscript_ (QC l k I h λv u e x y n m g f q=>j a b c e d n x y v u Q m g f q (i _ _))
noncomputable def M1(K:Frag):R2:=λx y H Q=>∃p c i v,x=.ref p/\y=.int i/\eE K H p c/\i8 c i=some v/\Q v H
noncomputable def M3(K:Frag):R2:=λx y H Q=>∃p c i v,x=.ref p/\y=.int i/\ie K H p c/\i8 c i=some v/\Q v H
noncomputable def M4:R2:=λx y H Q=>∃z i c,x=.str z/\y=.int i/\z.length<=sizeLine/\i8 z.cps.toList i=some c/\Q (.str ⟨#[c]⟩) H
theorem Dc:C9 X (M1 X.K):=by
 intro f g c s o H x y v u Q I G E h A;obtain⟨p,R,i,z,rfl,rfl,J,M,q⟩:=h;cases G;obtain⟨t,rfl⟩:=E;obtain⟨m,r,l,hz⟩:=I.list J;obtain⟨j,e,P,T,O,N⟩:=ou M;obtain⟨w,C,k⟩:=r.get P;have L:=r.length;have S:=kq;have d:EP X c o Q w s:=⟨z,H,I,k,q⟩;by_cases B:0<=i
 .have n:i.toNat=j:=by rw[seqIndex_of B N]at e;exact Hk e
  exact item_listR l.isList B (by lia) (by rw[n];simpa using C) d A
 .have n:(i+(m.toArray.size:Int)).toNat=j:=by rw[seqIndex_neg (by lia) O]at e;rw[Do,<-L];exact Hk e
  exact subscriptTail_builtinR (x:=w) l.isList.typeIs slot_list_getitem.lookup
   (wpAny_getItem_list_neg (Q:=λr D=>r=w/\EP X c o Q r D) l.isList (by lia) (by rw[Do]<;>lia) (by lia) (by rw[n];simpa using C) ⟨rfl,d⟩) A
theorem IE:C9 X (M3 X.K):=by
 intro d e c s k H x y v u Q I o n h B;obtain⟨p,M,i,z,rfl,rfl,C,E,q⟩:=h;cases o;obtain⟨t,rfl⟩:=n;obtain⟨A,r,l,hz⟩:=I.tuple C;obtain⟨j,J,G,R,P,O⟩:=ou E;obtain⟨w,L,f⟩:=r.get G;have D:=r.length;have N:=kq;have g:EP X c k Q w s:=⟨z,H,I,f,q⟩;exact subscriptTail_builtinR (x:=w) l.typeIs slot_tuple_getitem.lookup
  (getItem_tuple (j:=j) (Q:=λr m=>r=w/\EP X c k Q r m) l (by lia) (by lia) (by rw[Do,<-D];exact J) (by simpa using L) ⟨rfl,g⟩) B
theorem IF:C9 X M4:=by
 intro d e f s C H x y v u Q I l k h m;obtain⟨z,i,c,rfl,rfl,hz,o,q⟩:=h;obtain⟨t,rfl⟩:=l;obtain⟨D,rfl⟩:=k;obtain⟨j,g,w,G,r,p⟩:=ou o;have n:z.cps.toList.length=z.length:=by simp[Str.length]
 rw[n]at g r p;have E:=kq;exact tail_any (typeIs_str s z t) slot_str_getitem.lookup (getItem_str (c:=c) (by have B:decide (i< -(2^63:Int))=false:=Jn (by lia);have A:decide (i>=2^63)=false:=Jn (by lia);rw[B,A,Pm]) (by rw[g];simpa using w) ⟨.str ⟨#[c]⟩,H,I.tok _,⟨_,rfl⟩,q⟩) m
noncomputable def TY(K:Frag):R2:=λx y H Q=>M1 K x y H Q\/M3 K x y H Q\/M4 x y H Q
theorem tQ:C9 X (TY X.K):=Dc.or (IE.or IF)
theorem tR(c:List Value)(n j:Nat)(u:Value):Obj.mapSeq (·.setIfInBounds j u) {cls:=.type "list",data:=.seq c.toArray n}={cls:=.type "list",data:=.seq (c.set j u).toArray n}:=by simp[Obj.mapSeq]
theorem Inv.lst{d:List (Addr×Obj)}{g:St}{H:Hp}{s:Shared}{p:Addr}{f:List V}(I:Inv X d g H s)(h:H p=some (.lst f)):
 ∃(c:List Value)(n:Nat),Vals f c/\s.heap.get? p=some {cls:=.type "list",data:=.seq c.toArray n}/\f.length<=sizeLine:=by
 obtain⟨z,c,n,r,e⟩:=I.hok p _ h;exact⟨c,n,r,e,z⟩
theorem Inv.IG{c:List (Addr×Obj)}{j:St}{H:Hp}{s:Shared}{p:Addr}{l g:List V}{d its':List Value}{n i:Nat}{f:Obj->Obj}(I:Inv X c j H s)(h:H p=some (.lst l))
 (m:s.heap.get? p=some {cls:=.type "list",data:=.seq d.toArray n})(k:f {cls:=.type "list",data:=.seq d.toArray n}={cls:=.type "list",data:=.seq its'.toArray i})(r:Vals g its')(hz:g.length<=sizeLine)(t:Nat):
 Inv X c j (upd H p (.lst g)) {s with heap:=s.heap.update p f,toks:=t}:=by
 have e:(s.heap.update p f).get? p=some {cls:=.type "list",data:=.seq its'.toArray i}:=by rw[Heap.get?_update_self f m (by rw[k]<;>rfl),k]
 refine I.write (x:=p) (e:=p) (by rw[h];trivial) (.inl rfl) (λb u o q=>(Heap.get?_update_other _ _ (NM o)).trans q) ⟨_,e⟩ ?_;exact⟨hz,its',i,r,e⟩
noncomputable def Gw:V->V->V->Hp->(Hp->Prop)->Prop:=λo i v H Q=>∃p c k j,o=.ref p/\i=.int k/\H p=some (.lst c)/\sO c.length k=some j/\Q (upd H p (.lst (c.set j v)))
theorem set_list:MJ X Gw:=by
 intro c s A H o i v G J u Q I C D rv h;obtain⟨p,B,k,j,rfl,rfl,m,E,q⟩:=h;cases C;obtain⟨t,rfl⟩:=D;obtain⟨d,n,r,f,hz⟩:=I.lst m;obtain⟨e,L,x,w⟩:=vB E;have g:=r.length;have K:=kq;have z:Inv X c A (upd H p (.lst (B.set j v))) {s with heap:=s.heap.update p (Obj.mapSeq (·.setIfInBounds j u))}:=
  I.IG m f (tR d n j u) (r.set rv j) (by rw[Kk];exact hz) s.toks
 by_cases y:0<=k
 .have l:k.toNat=j:=by rw[seqIndex_of y w]at e;exact Hk e
  exact PySem.W.ki_setAt f y (by lia) (by rw[Do,<-g];exact w) (by rw[l];exact⟨_,z,q⟩)
 .have l:(k+(d.toArray.size:Int)).toNat=j:=by rw[seqIndex_neg (by lia) x]at e;rw[Do,<-g];exact Hk e
  exact PySem.W.ki_setBack f (by lia) (by rw[Do,<-g];exact x) (by lia) (by rw[l];exact⟨_,z,q⟩)
theorem oz(c d:Option Int)(n:Nat):(sliceBounds c d none n).1=((HT.ny n 0 c:Nat):Int)/\(sliceBounds c d none n).2.1=((HT.ny n n d:Nat):Int)/\(sliceBounds c d none n).2.2=1:=by
 refine⟨?_,?_,rfl⟩
 .cases c with
  |none=>simp[sliceBounds,HT.ny]
  |some i=>
   simp only[sliceBounds,HT.ny,UO,show(1:Int)>0 by decide,if_true];by_cases h:i<0
   .simp only[h,if_true]<;>lia
   .simp only[h,Ww]<;>lia
 .cases d with
  |none=>simp[sliceBounds,HT.ny]
  |some i=>
   simp only[sliceBounds,HT.ny,UO,show(1:Int)>0 by decide,if_true];by_cases h:i<0
   .simp only[h,if_true]<;>lia
   .simp only[h,Ww]<;>lia
theorem mP(c:List Value)(d e:Option Int):slicePick c.toArray d e none=((c.drop (HT.ny c.length 0 d)).take (HT.ny c.length c.length e -HT.ny c.length 0 d)).toArray:=by obtain⟨h,g,f⟩:=oz d e c.toArray.size;unfold slicePick;rw[h,g,f];simp only[sliceRange_one,pick_run,Do]<;>rfl
noncomputable def QH(K:Frag):V->Option Int->Option Int->Hp->VK->Prop:=λx d e H Q=>∃a c,x=.ref a/\eE K H a c/\∀p,H p=none->Q (.ref p) (upd H p (.lst (xR c d e)))
theorem De:Se X (QH X.K):=by intro g s t H x v w u e f y Q I j p l k h;obtain⟨a,c,rfl,n,q⟩:=h;cases j;obtain⟨m,r,i,hz⟩:=I.list n;have d:=r.length;refine⟨"list",_,slot_list_getitem.lookup,i.isList.typeIs,?_⟩;refine wpAny_getItem_list_slice i.isList p l k .none (by simp) ?_ (by rw[Do]<;>lia);rw[mP,<-d];refine⟨.ref s.heap.objs.size,_,I.laid (t':=s.toks) (o:=.lst (xR c e f)) (λb z q=>D1 _ q) (BM _) ?_,rfl,q _ (I.hok.fresh (BM _))⟩;exact⟨Hn (qT c e f) hz,_,0,(r.drop (HT.ny c.length 0 e)).take (HT.ny c.length c.length f -HT.ny c.length 0 e),Fn _ rfl⟩
theorem fk:bK X (.builtin "len") (λj H Q=>∃p d,j=[.ref p]/\(eE X.K H p d\/ie X.K H p d)/\Q (.int d.length) H):=by
 intro k s m H j n Q I r h;obtain⟨p,d,rfl,e,q⟩:=h;obtain⟨u,rfl,l⟩:=vals1 r;cases l;have o:=kq;rcases e with e|e
 .obtain⟨i,f,g,hz⟩:=I.list e;have c:=f.length;exact Calls.call_len_list g.isList (by simp only[Do]<;>lia) ⟨.int d.length,H,I.tok _,⟨s.toks+1,by rw[Do,c]⟩,q⟩
 .obtain⟨i,f,g,hz⟩:=I.tuple e;have c:=f.length;exact len_tuple g (by simp only[Do]<;>lia) ⟨.int d.length,H,I.tok _,⟨s.toks+1,by rw[Do,c]⟩,q⟩
theorem iC:bK X (.type "list") (λB H Q=>∃p f,B=[.ref p]/\(eE X.K H p f\/ie X.K H p f)/\∀l,H l=none->Q (.ref l) (upd H l (.lst f))):=by
 intro j s D H B G Q I r h;obtain⟨p,f,rfl,m,q⟩:=h;obtain⟨u,rfl,E⟩:=vals1 r;cases E;have v:∀(c:List Value),Vals f c->f.length<=sizeLine->∀(d:Heap)(i:Nat),(∀b C,s.heap.get? b=some C->d.get? b=some C)->
  d.get? s.heap.objs.size=some {cls:=.type "list",dict:=none,data:=.seq c.toArray i,slots:= #[]}->EP X j D Q (.ref s.heap.objs.size) {s with heap:=d}:=λc g hz d i k e=>
  ⟨.ref s.heap.objs.size,_,I.laid (t':=s.toks) k (BM _) (show bF X.prog X.w _ d _ (.lst f)from⟨hz,c,i,g,e⟩),rfl,q _ (I.hok.fresh (BM _))⟩
 rcases m with m|m
 .obtain⟨c,g,x,hz⟩:=I.list m;have t:=g.length;obtain⟨o,y,A,n,z⟩:=x.isList;exact call_list_seq p (.inl rfl) y A z (λd i k e=>v c g hz d i k e) (by simp only[Do]<;>lia)
 .obtain⟨c,g,x,hz⟩:=I.tuple m;have t:=g.length;obtain⟨o,y,A,n,z⟩:=x;exact call_list_seq p (.inr rfl) y A z (λd i k e=>v c g hz d i k e) (by simp only[Do]<;>lia)
theorem gE:bK X (.type "tuple") (λn H Q=>∃p f,n=[.ref p]/\((eE X.K H p f/\∀l,H l=none->Q (.ref l) (upd H l (.tup f)))\/(ie X.K H p f/\Q (.ref p) H))):=by
 intro c s m H n z Q I r h;obtain⟨p,f,rfl,h⟩:=h;obtain⟨u,rfl,v⟩:=vals1 r;cases v;rcases h with⟨k,q⟩|⟨k,q⟩
 .obtain⟨d,i,j,hz⟩:=I.list k;have t:=i.length;refine call_tuple_list j.isList (λg x=>?_) (by simp only[Do]<;>lia);have I1:Inv X c m H {s with heap:=g}:=I.kept (t':=s.toks) x;have y:Inv X c m (upd H g.objs.size (.tup f)) {s with heap:=g.push {cls:=.type "tuple",data:=.seq d.toArray}}:=
   I1.laid (t':=s.toks) (λb o e=>D1 _ e) (BM _) (show bF X.prog X.w _ _ _ (.tup f)from⟨hz,d,i,IsTup.new _ _⟩)
  exact⟨.ref g.objs.size,_,y,rfl,q _ (I1.hok.fresh (BM _))⟩
 .obtain⟨d,i,j,hz⟩:=I.tuple k;exact call_tuple_same j ⟨.ref p,H,I,rfl,q⟩
noncomputable def QI(K:Frag)(T:String)(x:V)(H:Hp):Prop:=match x with
 |.str _=>T="str"
 |.int _=>T="int"
 |.ref p=>(T="list"/\∃d,eE K H p d)\/(T="tuple"/\∃o,K.lookup p=some o/\o.cls=.type "tuple"/\o.dict=none)\/
   (T="dict"/\((∃c,H p=some (.dK c))\/∃c,H p=some (.dT c)))\/(T="set"/\∃S n,H p=some (.set S n))
 |_=>False
theorem zQ{f:List (Addr×Obj)}{q:St}{H:Hp}{s:Shared}{T:String}{x:V}{v:Value}(I:Inv X f q H s)(r:RelV x v)(g:QI X.K T x H):
 s.TypeIs v T/\∀a,v=.ref a->∃m,s.heap.get? a=some m/\m.dict=none:=by
 cases x with
 |str z=>obtain⟨t,rfl⟩:=r;cases(show T="str"from g);exact⟨typeIs_str s z t,λ_ e=>nomatch e⟩
 |int i=>obtain⟨t,rfl⟩:=r;cases(show T="int"from g);exact⟨typeIs_int s i t,λ_ e=>nomatch e⟩
 |ref p=>
  cases r;rcases g with⟨rfl,A,w⟩|⟨rfl,o,d,y,j⟩|⟨rfl,d⟩|⟨rfl,S,n,d⟩
  .obtain⟨u,_,l,_⟩:=I.list w;refine⟨l.isList.typeIs,λa e=>?_⟩;cases e;obtain⟨o,n,e,c,j,_⟩:=l;exact⟨o,e,j⟩
  .refine⟨⟨o,I.kg p o d,y⟩,λa e=>?_⟩;cases e;exact⟨o,I.kg _ o d,j⟩
  .have z:∃o,s.heap.get? p=some o/\o.ExactDict:=by
    rcases d with⟨h,d⟩|⟨h,d⟩
    .obtain⟨_,_,_,_,o,_,_,e,ex,_⟩:=I.hok p _ d;exact⟨o,e,ex⟩
    .obtain⟨_,_,_,_,o,_,_,e,ex,_⟩:=I.hok p _ d;exact⟨o,e,ex⟩
   obtain⟨o,e,ex⟩:=z;refine⟨⟨o,e,ex.1⟩,λa k=>?_⟩;cases k;exact⟨o,e,ex.2.1⟩
  .obtain⟨o,_,_,_,e,ex,_⟩:=I.hok p _ d;refine⟨⟨o,e,ex.1⟩,λa k=>?_⟩;cases k;exact⟨o,e,ex.2.1⟩
 |_=>exact Gx g
noncomputable def QJ(K:Frag)(T:String)(r:V->List V->Hp->VK->Prop)(e:TE):TE:=λd H Q=>e d H λx c=>QI K T x c/\r x [] c Q
noncomputable def Si(K:Frag)(T:String)(r:V->List V->Hp->VK->Prop)(f:TE)(t:TA):TE:=λc H Q=>f c H λx d=>QI K T x d/\t c d λe g=>r x e g Q
variable{o e:Expr}{es:List Expr}{to:TE}{t:TA}{name:Str}{apos cpos:Pos}{T id:String}{r:V->List V->Hp->VK->Prop}
theorem II(p:PlainAttrs T)(g:Slot T name id)(i:typeOf (.builtin id)=pure (.type "method_descriptor"))(u:Sh X id r)(q:PE X o to)
 (f:attributeBase o name X.env (eval o X.env)=eval o X.env:=by rfl)(d:(apos.endLine==cpos.line)=true:=by rfl):PE X (.Call (.Attribute o name apos) [] [] cpos) (QJ X.K T r to):=by
 intro c s j H Q I h;refine wpAny_Call_method0_late f d (bq (q c s j H _ I h) λv m ⟨x,z,I1,k,l,n⟩=>?_);obtain⟨y,w⟩:=zQ I1 k l;exact⟨T,id,p,g,i,y,w,Calls.callWith_builtin rfl (PySem.evalArgs_none (u c m j z x [] v [] Q I1 k .nil n))⟩
theorem M5(C:PlainAttrs T)(i:Slot T name id)(l:typeOf (.builtin id)=pure (.type "method_descriptor"))(G:Sh X id r)(E:PE X o to)(J:PA X (e::es) t)
 (g:attributeBase o name X.env (eval o X.env)=eval o X.env:=by rfl)
 (j:((backTo cpos (starEach (e::es) X.env)).all (λx=>!x.1)&&(backToKw cpos (keywordEach [] X.env)).all (λx=>x.1.isSome)
   &&decide ((e::es).length+([]:List Keyword).length+(if([]:List Keyword).isEmpty then 0 else 1)<30))=true:=by rfl)
 (f:(apos.endLine==cpos.line)=true:=by rfl)(D:starEach (e::es) X.env=(false,eval e X.env)::starEach es X.env:=by rfl)(d:(backTo cpos (starEach es X.env)).any (·.1)=false:=by rfl):
 PE X (.Call (.Attribute o name apos) (e::es) [] cpos) (Si X.K T r to t):=by
 intro c s k H Q I h;refine wpAny_Call_method_late g j f rfl (bq (E c s k H _ I h) λv y ⟨x,P,I1,m,u,B⟩=>?_);obtain⟨M,L⟩:=zQ I1 m u;refine⟨T,id,C,i,l,M,L,?_⟩;have n:=J cpos c y k P _ I1 B;rw[D]at n⊢;refine Calls.callWith_builtin (by show(false||(backTo cpos (starEach es X.env)).any (·.1))=false;rw[d]<;>rfl) (Calls.evalArgs_plain ?_);exact bq n λq w ⟨p,O,N,z,A⟩=>G c w k O x p v q Q N m z A
end
noncomputable def Sj(X:Cx)(e:String)(r:V->List V->Hp->VK->Prop):Prop:=
 ∀(a:List (Addr×Obj))(s:Shared)(b:St)(H:Hp)(x:V)(c:List V)(v:Value)(d:List Value)(Q:VK),Inv X a b H s->RelV x v->Vals c d->r x c H Q->
  wpAny (model X.prog X.w) X.A (call (.builtin e) (v::d)) (EP X a b Q) X.xe s
theorem Vals.one{x:V}{a:List Value}(h:Vals [x] a):∃u,a=[u]/\RelV x u:=by
 cases h with
 |cons r h=>
  cases h;exact⟨_,rfl,r⟩
theorem Vals.zero:∀{a:List Value},Vals [] a->a=[]
 |_,.nil=>rfl
theorem Vals.dropLast{a:List V}{b:List Value}(h:Vals a b):Vals a.dropLast b.dropLast:=by
 induction h with
 |nil=>exact .nil
 |cons r t c=>
  cases t with
  |nil=>exact .nil
  |cons q d=>exact .cons r c
theorem Vals.reverse{a:List V}{b:List Value}(h:Vals a b):Vals a.reverse b.reverse:=by
 induction h with
 |nil=>exact .nil
 |cons r t c=>rw[W2,W2];exact Vals.append c (.cons r .nil)
theorem Vals.rep{a:List V}{b:List Value}(h:Vals a b):∀k:Nat,Vals (Dg k a).flatten (Dg k b).flatten
 |0=>.nil
 |k+1=>by rw[Gh,Gh,IM,IM];exact Vals.append h (Vals.rep h k)
theorem tS{α:Type}(l:List α):l.eraseIdx (l.length -1)=l.dropLast:=by
 induction l with
 |nil=>rfl
 |cons a r c=>
  cases r with
  |nil=>rfl
  |cons b r=>
   have e:(a::b::r).length -1=((b::r).length -1)+1:=by have f:(a::b::r).length=r.length+2:=rfl;have d:(b::r).length=r.length+1:=rfl;lia
   rw[e,List.eraseIdx_cons_succ,c]
   all_goals rfl
theorem foldl_rep(a:List Value):∀(k:Nat)(b:List Value),
 Ua (λd c=>d++c) b.toArray (Dg k a.toArray)=(b++(Dg k a).flatten).toArray
 |0,b=>by simp
 |k+1,b=>by
  have e:b.toArray++a.toArray=(b++a).toArray:=by simp
  have f:(b++a)++(Dg k a).flatten=b++(Dg (k+1) a).flatten:=by rw[Gh,IM,OS]
  rw[<-f,<-foldl_rep a k (b++a),<-e,Gh,List.foldl_cons]
section
variable{X:Cx}{pins:List (Addr×Obj)}{σ:St}{H:Hp}{s:Shared}{l b:Addr}{xs ys zs:List V}
theorem Inv.M6{a its':List Value}{n:Nat}{f:Array Value->Array Value}{t':Nat}(I:Inv X pins σ H s)(i:H l=some (.lst xs))
 (e:s.heap.get? l=some {cls:=.type "list",data:=.seq a.toArray n})(g:f a.toArray=its'.toArray)(c:Vals ys its')(hz:ys.length<=sizeLine):
 Inv X pins σ (upd H l (.lst ys)) {s with heap:=s.heap.update l (Obj.mapSeq f),toks:=t'}:=by
 have q:=PySem.IsL.update e f;rw[g]at q;refine I.write (x:=l) (e:=l) (by rw[i];exact trivial) (.inl rfl) (λj u h d=>(Heap.get?_update_other s.heap (Obj.mapSeq f) (NM h)).trans d) ⟨_,q⟩ ?_;exact⟨hz,its',_,c,q⟩
theorem Inv.M7{a:List Value}{t':Nat}(I:Inv X pins σ H s)(c:Vals ys a)(hz:ys.length<=sizeLine):
 Inv X pins σ (upd H s.heap.objs.size (.lst ys)) {s with heap:=s.heap.push {cls:=.type "list",data:=.seq a.toArray},toks:=t'}:=
 I.laid (λ_ _ q=>D1 _ q) (BM _) ⟨hz,a,0,c,Fn _ rfl⟩
theorem Inv.fresh(I:Inv X pins σ H s):H s.heap.objs.size=none:=I.hok.fresh (BM _)
theorem Inv.M8(I:Inv X pins σ H s)(c:H l=some (.lst xs)):xs.length<=sizeLine/\∃(a:List Value)(n:Nat),Vals xs a/\xs.length=a.length/\s.heap.get? l=some {cls:=.type "list",data:=.seq a.toArray n}:=by obtain⟨z,a,n,r,e⟩:=I.hok l _ c;exact⟨z,a,n,r,r.length,e⟩
theorem zR{n:Nat}(h:n<=sizeLine):Builtin.List.listTooLong n=false:=by unfold Builtin.List.listTooLong;exact Jn (by lia)
end
section
variable{X:Cx}
noncomputable def vC:V->List V->Hp->VK->Prop:=λx b H Q=>∃l a y,x=.ref l/\b=[y]/\H l=some (.lst a)/\a.length<sizeLine/\Q .aJ (upd H l (.lst (a++[y])))
theorem nA:Sj X "list.append" vC:=by intro b s g H x j v k Q I d rv h;obtain⟨l,i,y,rfl,rfl,c,hz,q⟩:=h;cases d;obtain⟨u,rfl,f⟩:=rv.one;obtain⟨z,a,n,r,m,e⟩:=I.M8 c;refine call_meets F.slot_list_append ⟨_,e,rfl⟩ F.entry_list_append (F.args_list_append_2 _ _) (PySem.list_append l a.toArray n u (by rw[Do];lia)) ⟨e,?_⟩;refine⟨.aJ,_,I.M6 (its':=a++[u]) c e (by simp) (r.append (.cons f .nil)) ?_,rfl,q⟩;rw[Fm,F2];lia
noncomputable def QK:V->List V->Hp->VK->Prop:=λx b H Q=>∃l a y,x=.ref l/\b=[]/\H l=some (.lst a)/\a[a.length -1]?=some y/\Q y (upd H l (.lst a.dropLast))
theorem IJ:Sj X "list.pop" QK:=by
 intro c s o H x t v w Q I f rv h;obtain⟨l,p,y,rfl,rfl,d,i,q⟩:=h;cases f;have m:=rv.zero;subst m;obtain⟨z,a,n,r,k,e⟩:=I.M8 d;obtain⟨u,j,g⟩:=r.get i;have b:a.toArray[a.toArray.size -1]?=some u:=by show a.toArray[a.length -1]?=some u;rw[<-Sx,<-k];exact j
 refine call_meets F.slot_list_pop ⟨_,e,rfl⟩ F.entry_list_pop (F.args_list_pop_1 _) (MeetsSeq.list_pop_last l a.toArray n u b (by rw[Do];lia)) ⟨e,?_⟩;refine⟨y,_,I.M6 (its':=a.dropLast) d e ?_ r.dropLast ?_,g,q⟩
 .show a.toArray.eraseIdxIfInBounds (a.toArray.size -1)=a.dropLast.toArray;rw[Do,List.eraseIdxIfInBounds_toArray,tS]
 .rw[List.length_dropLast];lia
theorem len_rep{α:Type}(a:List α)(k:Nat):(Dg k a).flatten.length=k*a.length:=by
 induction k with
 |zero=>simp
 |succ k b=>rw[Gh,IM,Fm,b,Pz,Nat.add_comm]
end
section
variable{prog:Program}{w:World}{A:Around}{E:Value->Shared->Prop}{s:Shared}
end
section
variable{X:Cx}
end
end L2
namespace Sk
open PySem PySem.W PySem.Calls PyProof.Rows
theorem jN{P:Params}{h:Heap}:∀(ns:List Int)(vs:List Value),WellAll P h vs (ns.map WData.int)->IntsAre vs ns:=by
 intro ns
 induction ns with
 |nil=>intro vs w;rw[OQ]at w;cases w;exact .nil
 |cons n ns c=>
  intro vs w;rw[P3]at w;cases w with
  |cons a b=>
   cases a;exact .cons _ _ (c _ b)
theorem xS{l:OpenLaw}{n:Nat}(u:l.most=some n){P:Params}{h:Heap}{args:List WData}{b:List Value}
 (c:l.row.toRowW.claim.pre args=true)(j:WellAll P h b args):
 ∃a vs ns,b=[Value.ref a]/\args=[WData.list (ns.map WData.int)]/\h.get? a=some {cls:=.type "list",data:=.seq vs.toArray}/\IntsAre vs ns/\ns.length<=n:=by
 have k:WShape.hasAll [] args [.list .int]=true:=(pre_splitW c).1;have m:l.pre.holds [] {args:=args}=true:=(pre_splitW c).2;obtain⟨d,r,rfl,x,w⟩:=hasAllW_cons k;obtain rfl:=hasAllW_nil w;obtain⟨y,rfl,v⟩:=hasW_list x;obtain⟨ns,rfl⟩:=items_int v;have e:ns.length<=n:=by
  unfold OpenLaw.pre at m;have i:(WTm.not (.lt (.lit (.int (n:Int))) (.len (.arg 0)))).holds [] {args:=[.list (ns.map .int)]}=true:=by have i:=(holds_andW m).1;rw[u]at i;exact i
  have g:=condW_of i (w_not (w_lt w_lit (w_len_list (w_arg rfl))));rw[AN]at g;refine WQ λq=>?_;have s:(n:Int)<((ns.length:Nat):Int):=by lia
  first
   |(rw[DL s]at g;exact absurd g (by decide))
   |(simp at g;lia)
 cases j with
 |cons p o=>
  cases o;cases p with
  |list t f=>exact⟨_,_,ns,rfl,rfl,t,jN ns _ f,e⟩
theorem xT(l:OpenLaw)(args:List WData):l.row.toRowW.claim.post args (.bool true) args=true:=
 postW_of (r:=l.row.toRowW) (X:=(true==true))
  (show WShape.has [] (.bool true) .bool=true by first|rfl|decide|simp[WShape.has,WShape.arms,WShape.armsAll])
  (show(WTm.eq .res (.lit (.bool true))).value [] {args:=args,res:=some (.bool true),after:=args}=some (.bool (true==true))from w_eq_bool (w_res rfl) w_lit) rfl
theorem qU{l:OpenLaw}{n:Nat}{q:Program}{e:List Str}{H:(Str->Option Value)->Heap->Prop}{E:World->Heap->Prop}{d:DefRec}
 (L:l.most=some n)(y:d.params.defaults=[])
 (call:∀(w:World)(c b:Shared)(p u:Str->Option Value)(m:Addr)(o:Obj)(t s h:Value)(a:Addr)(vs:List Value)(ns:List Int),
   Ground q e [] H w c p u b.heap->E w b.heap->
   b.heap.get? m=some o->o.data=.func (docDef d.name d.params d.body d.scope t s h)->b.heap.CodeRec s d.name->p d.name=some (.ref m)->
   b.heap.get? a=some {cls:=.type "list",data:=.seq vs.toArray}->IntsAre vs ns->ns.length<=n->b.gens= #[]->
   codeAny (model l.prog w) callerA (.call (.ref m) ⟨[.ref a],[]⟩) (λr s'=>r=.ok (.ret (.bool true))/\OldK b.heap s'.heap/\s'.os=b.os/\AllBare s'.gens) b):
 WalkO q e H E l.row.toRowW d [] (λf vs=>PySem.call f vs):=by
 intro w c b p u G Y m o t s h T kV K P z C x O D A U i B I v N;obtain rfl:T=.none:=Dflts.none C y;obtain rfl:kV=.none:=Dflts.noKw C;obtain⟨a,vs,ns,rfl,rfl,j,g,k⟩:=xS L i v;refine enter_call (Wv (call w c b p u m o t s h a vs ns G Y K (fd_plain P) z x j g k O) λr s' J=>?_);obtain⟨rfl,S,R,Q⟩:=J;exact⟨.inl ⟨.bool true,.bool true,[],rfl,λ_=>rfl,.bool true,xT l _,λ_=>⟨XM,λ_ M=>(nomatch M)⟩⟩,S,R,Q⟩
section
variable{prog:Program}{w:World}{A:Around}{E:Value->Shared->Prop}{s:Shared}{K:Frag}
end
end Sk
namespace L2
open PySem PySem.Spec PyProof.Rows
theorem nB:∀{vs:List Value}{ns:List Int},IntsAre vs ns->Vals (ns.map V.int) vs
 |_,_,.nil=>.nil
 |_,_,.cons n t h=>.cons ⟨t,rfl⟩ (nB h)
noncomputable def zS(H:Hp):Prop:=∀b,H b=none\/∃o a,H b=some (.qJ o (.lst a))
theorem zT{P:Program}{w:World}{K:Frag}{p M:Str->Option Value}{CX:xO}{k:Nat}{Q a:Addr}{Z:FuncData}{x:Str}{sp:Sp}{c:Shared}{vs:List Value}{ns:List Int}
 (KX:K.In c.heap)(y:c.heap.Ns mainGlobals p)(f:c.heap.Ns builtinsNs M)(QL:∀x:Str,x≠"__name__"->M x=bootBuiltins x)(A:c.heap.NoLimit)(I:c.heap.NoSeer)(Na:P.given.tree=none)(hg:c.gens= #[])
 (B:c.heap.get? a=some {cls:=.type "list",data:=.seq vs.toArray})(U:IntsAre vs ns)(T:ns.length<=sizeLine)(hr:bY k callerA)
 (F:∀base:Heap,K.In base->base.Ns mainGlobals p->bO P w K p base CX k Q Z [x] sp)(j:∀(s:Shared)(u:Value),BindsTo s Z ⟨[u],[]⟩ [(x,u)])
 (y9:∀H:Hp,zS H->eE K H a (ns.map V.int)->sp [.ref a] H (λv _=>v=.bl true) λ_ _ _=>False)
 (QM:∀H e s',CX [] H c (λ_ _ _=>False) e s'->False):
 codeAny (model P w) callerA (.call (.ref Q) ⟨[.ref a],[]⟩) (λr s'=>r=.ok (.ret (.bool true))/\OldK c.heap s'.heap/\s'.os=c.os/\AllBare s'.gens) c:=by
 have rv:=nB U;have QN:=U.length;have g:∀H:Hp,zS H->eE K H a (ns.map V.int)->ic P w H c.heap->(∀b,H b≠none->b=a)->(H a≠none->K.lookup a=none)->
  codeAny (model P w) callerA (.call (.ref Q) ⟨[.ref a],[]⟩) (λr s'=>r=.ok (.ret (.bool true))/\OldK c.heap s'.heap/\s'.os=c.os/\AllBare s'.gens) c:=by
  intro H Y hS t O hK;have L:∀{b:Addr}{o:Obj},c.heap.get? b=some o->H b=none->(oh c.heap H).get? b=some o:=λe n=>zo e n;have MW:∀{b:Addr}{o:Obj}{C:Array DictEntry}{D:Nat},c.heap.get? b=some o->o.data=.dict C D->H b=none:=λ{b o C D} e d=>by
   cases q:H b with
   |none=>rfl
   |some u=>have E:b=a:=O b (by rw[q];simp);subst E;rw[B]at e;cases e;have R:Data.seq vs.toArray _=Data.dict C D:=d;cases R
  have i:∀{b:Addr}{m:Str->Option Value},c.heap.Ns b m->(oh c.heap H).Ns b m:=λ{b m} ⟨o,C,D,e,d,r⟩=>⟨o,C,D,L e (MW e d),d,r⟩;have Sl:K.In (oh c.heap H):=λb o e=>L (KX b o e) (by
   cases q:H b with
   |none=>rfl
   |some u=>have E:b=a:=O b (by rw[q];simp);subst E;rw[hK (by rw[q];simp)]at e;cases e)
  have T3:∀{b:Addr}{o:Obj},c.heap.get? b=some o->o.cls=.type "module"->H b=none:=λ{b o} e d=>by
   cases q:H b with
   |none=>rfl
   |some u=>have E:b=a:=O b (by rw[q];simp);subst E;rw[B]at e;cases e;have R:Value.type "list"=Value.type "module":=d;exact absurd R (by decide)
  have hM:Mod K p (oh c.heap H):=⟨Sl,i y,⟨M,i f,QL⟩,let⟨mc,h1,h2⟩:=A;⟨mc,i h1,h2⟩,⟨let⟨m,h1,h2⟩:=I.statics;⟨m,i h1,h2⟩,let⟨m,h1,h2⟩:=I.mods;⟨m,i h1,h2⟩,let⟨m,h1,h2⟩:=I.imp;⟨m,i h1,h2⟩,let⟨m,bm,J,h1,h2,h3,h4,h5⟩:=I.main;⟨m,bm,J,i h1,h2,L h3 (T3 h3 h4),h4,h5⟩⟩⟩;have e0:mL P w K p (oh c.heap H) callerA [] c H:=⟨rfl,hM,λb o e=>CL e,W8 (xA _ _),trivial,λb f=>absurd (show b∈([]:List Addr)from f) (by simp),t,.of_eq hg,Na⟩;refine Wv ((F _ Sl (i y)).run callerA [] c H ⟨[.ref a],[]⟩ [.ref a] [.ref a] _ _ hr e0 (j c (.ref a)) (.cons rfl .nil) (y9 H Y hS)) λr s' h=>?_;cases r with
  |error e=>exact(QM H e s' h).elim
  |ok fl=>
   cases fl with
   |next=>exact Gx h
   |brk=>exact Gx h
   |cont=>exact Gx h
   |ret u=>
    obtain⟨v,H',os,G,S,QO,r',q⟩:=h;have q':v=.bl true:=q;subst q';obtain rfl:u=Value.bool true:=r';refine⟨rfl,OldK.of_keep λb o e=>?_,os,G⟩;cases q:H b with
    |none=>exact S.keep b o e q (by intro z;exact absurd (show b∈([]:List Addr)from z) (by simp)) (by simp)
    |some u=>
     rcases Y b with z|⟨J,xs,z⟩
     .rw[q]at z;cases z
     .have z2:=S.iu b J _ z;obtain⟨e1,_⟩:=t b _ z;obtain⟨e2,_⟩:=QO b _ z2;rw[e]at e1;cases e1;exact e2
 cases N:K.lookup a with
 |some o=>have e:=KX a o N;rw[B]at e;cases e;refine g (λ_=>none) (λ_=>.inl rfl) (.inr ⟨_,vs.toArray,_,N,rfl,rfl,rfl,by rw[Do,QN];exact T,by simpa using rv⟩) (λb u z=>by have l:(none:Option HO)=some u:=z;cases l) (λb z=>absurd rfl z) λz=>absurd rfl z
 |none=>
  refine g (λb=>if b=a then some (.qJ {cls:=.type "list",data:=.seq vs.toArray} (.lst (ns.map V.int)))else none) (λb=>?_) (.inl (.inr ⟨{cls:=.type "list",data:=.seq vs.toArray},Bz rfl⟩)) (λb u z=>?_) (λb z=>?_) λ_=>N
  .by_cases f:b=a
   .exact .inr ⟨_,_,Bz f⟩
   .exact .inl (Bi f)
  .by_cases f:b=a
   .have l:=(Bz f).symm.trans z;cases l;subst f;exact⟨B,by rw[AN];exact T,vs,_,rv,B⟩
   .have l:=(Bi f).symm.trans z;cases l
  .by_cases f:b=a
   .exact f
   .exact absurd (Bi f) z
theorem Dh{l:PySem.W.OpenLaw}{n k:Nat}{q:Program}{i:List Str}{XP:(Str->Option Value)->Heap->Prop}{E:World->Heap->Prop}{d:DefRec}{K:Params->Frag}{CX:World->xO}{sp:World->Sp}{x:Str}
 (M:l.most=some n)(z:n<=sizeLine)(B:d.params.defaults=[])(L:bY k callerA)(QS:importsNone q=true)(y:l.prog.given.tree=none)
 (Q:∀(w:World)(h:Heap),E w h->(K w.params).In h)
 (F:∀(w:World)(m:Str->Option Value)(t:Addr)(h:Heap),(K w.params).In h->h.Ns mainGlobals m->m d.name=some (.ref t)->
   ∃C:FuncData,(∀(s:Shared)(u:Value),BindsTo s C ⟨[u],[]⟩ [(x,u)])/\
    ∀base:Heap,(K w.params).In base->base.Ns mainGlobals m->bO l.prog w (K w.params) m base (CX w) k t C [x] (sp w))
 (J:∀(w:World)(H:Hp)(a:Addr)(ns:List Int),ns.length<=n->zS H->eE (K w.params) H a (ns.map V.int)->sp w [.ref a] H (λv _=>v=.bl true) λ_ _ _=>False)
 (QM:∀(w:World)(H:Hp)(s:Shared)(e:Value)(s':Shared),CX w [] H s (λ_ _ _=>False) e s'->False):
 PySem.W.WalkO q i XP E l.row.toRowW d [] (λf vs=>PySem.call f vs):=by
 refine Sk.qU M B λw D p m mb t o pm cd Z a vs ns G Y ho hd O A r j c N=>?_;have I:=Q w _ Y;obtain⟨C,P,U⟩:=F w m t _ I G.T.g A;exact zT I G.T.g G.T.b G.T.builtins G.T.nolimit (G.T.seer QS) y N r j (Hn c z) L U P (λH S R=>J w H a ns c S R) λH e s'=>QM w H p e s'
noncomputable def bS(s:Stmt):Arguments:=match s with
 |.FunctionDef _ a _ _ _ _ _ _ _ _=>a
 |_=>{posonlyargs:=[],args:=[],vararg:=none,kwonlyargs:=[],kw_defaults:=[],kwarg:=none,defaults:=[]}
noncomputable def aY(s:Stmt):List Stmt:=match s with
 |.FunctionDef _ _ b _ _ _ _ _ _ _=>b
 |_=>[]
noncomputable def ao(s:Stmt):Scope:=match s with
 |.FunctionDef _ _ _ _ _ _ sc _ _ _=>sc
 |_=>{kind:=.function,names:=[],isGenerator:=false,isCoroutine:=false}
abbrev Nb:xO:=λ_ _ _ _ _ _=>False
abbrev E0:XK:=λ_ _ _=>False
structure CC(K:Frag)(x qual:Str)(st:Stmt)(f:Addr)(fd:FuncData):Prop where
 ex:∃(oc:Value)(od:Option Addr)(kV doc pm:Value)(an:Option Addr)(cdv ct:Value)(osl:Array (Option Value)),
  fd=fnOf x qual (bS st) (aY st) (ao st) .none kV doc pm an cdv ct/\K.lookup f=some ⟨oc,od,.func fd,osl⟩/\codeIn K cdv qual=true
 kp:keepIn K (.ref f)=true
section
variable{P:Program}{w:World}{K:Frag}{mg:Str->Option Value}{base:Heap}
theorem CC.binds{x a:Str}{st:Stmt}{f:Addr}{k:FuncData}{e:List Str}(F:CC K x a st f k)
 (h:∀(kV b g:Value)(j:Option Addr)(c i:Value)(d:List Value),d.length=e.length->bindArgs (fnOf x a (bS st) (aY st) (ao st) .none kV b g j c i) ⟨d,[]⟩=pure (e.zip d)):Binds K k e []:=by
 obtain⟨o,n,kV,b,g,j,c,i,l,rfl,p,m⟩:=F.ex;exact .all (h kV b g j c i)
theorem IK{x a:Str}{st:Stmt}{f:Addr}{m:Value}{j i:Option Addr}{e:Array (Option Value)}{kV d g b h:Value}(l:K.lookup f=some ⟨m,j,.func (fnOf x a (bS st) (aY st) (ao st) .none kV d g i b h),e⟩)
 (c:codeIn K b a=true)(k:keepIn K (.ref f)=true):CC K x a st f (fnOf x a (bS st) (aY st) (ao st) .none kV d g i b h):=⟨⟨m,j,kV,d,g,i,b,h,e,rfl,l,c⟩,k⟩
end
section
variable{X:Cx}
end
noncomputable def au(H H':Hp):Prop:=∀b o,H b=some o->H' b=some o
theorem au.refl(H:Hp):au H H:=λ_ _ h=>h
theorem au.trans{H e d:Hp}(a:au H e)(b:au e d):au H d:=λc o h=>b c o (a c o h)
theorem au.free{H H':Hp}(e:au H H'){l:Addr}(h:H' l=Vi):H l=Vi:=by
 cases q:H l with
 |none=>rfl
 |some o=>rw[e l o q]at h;cases h
end L2
namespace Num
theorem zU(a b q:Int):LY b (a -q*b)=LY a b:=by
 apply Nat.dvd_antisymm
 .apply Xd
  .have f:((LY b (a -q*b):Nat):Int)∣b:=X2 ..;have d:((LY b (a -q*b):Nat):Int)∣(a -q*b):=Wt ..;have c:=Qb d (Sb f:_∣q*b);have e:a -q*b+q*b=a:=by lia
   rw[e]at c;exact c
  .exact X2 ..
 .apply Xd
  .exact Wt ..
  .exact RT (X2 ..) (Sb (Wt ..))
theorem fl(a b:Int)(c:b≠0):(0<b->0<=a -a.fdiv b*b/\a -a.fdiv b*b<b)/\(b<0->b<a -a.fdiv b*b/\a -a.fdiv b*b<=0):=by
 have e:=Int.mul_ediv_add_emod a b;have f:=PQ a c;have d:a%b<(b.natAbs:Int):=by
  rcases Qk 0 b with z|z
  .have:=NA a z;lia
  .have:=NA a (show 0< -b by lia);rw[Int.emod_neg]at this;lia
 rw[Int.fdiv_eq_ediv];have g:b*(a/b)=(a/b)*b:=SL _ _;constructor
 .intro h;rw[Bz (Or.inl (by lia)),WL];lia
 .intro h;split
  .rename_i hd
   have hz:a%b=0:=X3 (by lia);rw[WL];lia
  .rename_i hd
   have hz:a%b≠0:=λz=>hd (.inr (Sw z));have:(a/b -1)*b=a/b*b -b:=by rw[Int.sub_mul];lia
   lia
theorem tT(a b:Int)(c:b≠0):(a -a.fdiv b*b).natAbs<b.natAbs:=by have:=fl a b c;omega
theorem fmod_eq(a b:Int):a.fmod b=a -a.fdiv b*b:=by have:=Int.mul_fdiv_add_fmod a b;have:b*a.fdiv b=a.fdiv b*b:=SL _ _;omega
theorem Gy(a b:Int)(c:b≠0):(a.fdiv b).natAbs*b.natAbs<=a.natAbs+b.natAbs:=by have h:=tT a b c;rw[<-Wq];omega
theorem QT(a b:Int)(c:b≠0):(a.fdiv b).natAbs<=a.natAbs+b.natAbs:=by have h:=Gy a b c;have:(a.fdiv b).natAbs*1<=(a.fdiv b).natAbs*b.natAbs:=WV _ (by lia);lia
noncomputable def Sg(x y:Int):Prop:=(0<x/\0<=y)\/(x<0/\y<=0)
theorem Di(x y:Int)(a:y≠0):Sg y (x -x.fdiv y*y):=by have h:=fl x y a;unfold Sg;omega
theorem Nc{x y:Int}(h:Sg x y)(g:y≠0):x.natAbs=(x.fdiv y).natAbs*y.natAbs+(x -x.fdiv y*y).natAbs:=by
 have b:=fl x y g;rw[<-Wq];generalize i:x.fdiv y=q at b⊢;have f:0<=q:=by
  rcases Qk q 0 with z|z
  .exfalso
   rcases h with⟨d,c⟩|⟨d,c⟩
   .have a:0<y:=by lia
    have:=WU (show q<=-1 by lia) (show 0<=y by lia);have:=b.1 a;lia
   .have a:y<0:=by lia
    have:=WU (show q<=-1 by lia) (show 0<=-y by lia);have e:q* -y= -(q*y):=Xc _ _;have:=b.2 a;lia
  .exact z
 rcases h with⟨d,c⟩|⟨d,c⟩
 .have:=Vw f (show 0<=y by lia);have:=b.1 (by lia);clear this;lia
 .have:=Vw f (show 0<=-y by lia);have e:q* -y= -(q*y):=Xc _ _;have:=b.2 (by lia);lia
noncomputable def Ib(n:Nat)(x y u a:Int):Prop:=a.natAbs*x.natAbs+u.natAbs*y.natAbs<=3*2^n
theorem vD{n:Nat}{x y u a:Int}(h:Ib n x y u a)(f:Sg x y)(d:y≠0):Ib n y (x -x.fdiv y*y) a (u -x.fdiv y*a):=by
 have e:=Nc f d;unfold Ib at h⊢;have c:(u -x.fdiv y*a).natAbs<=u.natAbs+(x.fdiv y).natAbs*a.natAbs:=by rw[<-Wq];omega
 generalize(x -x.fdiv y*y).natAbs=r at e⊢;generalize(x.fdiv y).natAbs=q at e c;generalize(u -x.fdiv y*a).natAbs=w at c⊢;generalize u.natAbs=U at*;generalize a.natAbs=b at*;generalize y.natAbs=Y at*;generalize x.natAbs=X at*;subst e;have i:w*Y<=(U+q*b)*Y:=Nat.mul_le_mul_right _ c;have g:(U+q*b)*Y+b*r=b*(q*Y+r)+U*Y:=by grind
 omega
theorem qV{n:Nat}{x y u a:Int}(h:Ib n x y u a)(c:Sg x y):a.natAbs<2^(n+2):=by
 unfold Ib at h;have b:1<=x.natAbs:=by unfold Sg at c;lia
 have:a.natAbs*1<=a.natAbs*x.natAbs:=WV _ b;have e:2^(n+2)=4*2^n:=by rw[XB];lia
 have:0<2^n:=U1 (by decide);lia
noncomputable def Bd(n:Nat)(r:Rat):Prop:=r.num.natAbs<2^n/\r.den<2^n
noncomputable def cf(b a:List Int):Nat->Nat->Int
 |0,_=>0
 |i+1,k=>cf b a i k+b.getD i 0*(if i<=k then a.getD (k -i) 0 else 0)
noncomputable def qB(b a:List Int)(i j k:Nat):Int:=cf b a i k+(if i<=k/\k<i+j then b.getD i 0*a.getD (k -i) 0 else 0)
theorem qW(b a:List Int)(i k:Nat):qB b a i 0 k=cf b a i k:=by unfold qB;rw[Bi (by lia)];lia
theorem qX(b a:List Int)(i k:Nat):qB b a i a.length k=cf b a (i+1) k:=by
 unfold qB;rw[cf];by_cases h:i<=k
 .by_cases c:k<i+a.length
  .rw[Bz ⟨h,c⟩,Bz h]
  .have e:a.getD (k -i) 0=0:=by rw[AC,FR (by lia)];rfl
   rw[Bi (by lia),Bz h,e,WM]
 .rw[Bi (by lia),Bi h,WM]
theorem kD(b a:List Int)(i j k:Nat):qB b a i (j+1) k=qB b a i j k+(if k=i+j then b.getD i 0*a.getD j 0 else 0):=by
 unfold qB;by_cases h:k=i+j
 .subst h;rw[Bz (by lia),Bi (by lia),Bz rfl,Sf];lia
 .rw[Bi h];by_cases c:i<=k/\k<i+j
  .rw[Bz (by lia),Bz c];lia
  .rw[Bi (by lia),Bi c];lia
theorem Dj{a b:List Int}{i:Nat}(h:a.getD i 0=0)(k:Nat):cf a b (i+1) k=cf a b i k:=by rw[cf,h,SF,Ts]
noncomputable def cZ(ns a:List Int):Prop:=∃k,k<=ns.length/\a=ns.take k/\(∀j,k<=j->j<ns.length->ns.getD j 0=0)/\(k=0\/ns.getD (k -1) 0≠0)
theorem cZ.last{ns a:List Int}(h:cZ ns a):a=[]\/a.getD (a.length -1) 0≠0:=by
 obtain⟨k,c,rfl,e,b⟩:=h;rcases b with q|q
 .left;rw[q];rfl
 .by_cases d:k=0
  .left;rw[d];rfl
  .right;rw[QQ,Nat.min_eq_left c,AC,WC (by lia),<-AC];exact q
theorem cZ.mem{ns a:List Int}(h:cZ ns a):∀m∈a,m∈ns:=by obtain⟨k,_,rfl,_⟩:=h;exact λm b=>List.mem_of_mem_take b
noncomputable def af(p:Int):Prop:=2<=p/\∀d:Int,2<=d->d*d<=p->p%d≠0
theorem gF{p x:Int}(d:af p)(h:0<x)(l:x<p):LY p x=1:=by
 obtain⟨k,b⟩:=d;have i:0<LY p x:=Int.gcd_pos_of_ne_zero_left _ (by lia);obtain⟨q,a⟩:((LY p x:Nat):Int)∣p:=X2 ..;have n:((LY p x:Nat):Int)<=x:=UV h (Wt ..);generalize j:((LY p x:Nat):Int)=g at*;have m:1<=g:=by lia
 rcases Qk 1 g with f|e
 .exfalso
  have c:2<=q:=by
   rcases Qk q 2 with z|z
   .have:q<=1:=by lia
    have:=Tb this (show 0<=g by lia);lia
   .exact z
  rcases XU g q with z|z
  .have:g*g<=g*q:=Tb z (by lia);exact b g (by lia) (by lia) (X3 ⟨q,a⟩)
  .have:q*q<=g*q:=WU z (by lia);exact b q c (by lia) (X3 ⟨g,by rw[a,SL]⟩)
 .lia
noncomputable def ev(x:Rat):List Rat->Rat
 |[]=>0
 |r::a=>r+x*ev x a
noncomputable def wv(t b:Int):List Int->Int
 |[]=>0
 |x::s=>wv t b s*t+x*b^s.length
noncomputable def sm(f:Nat->Int):Nat->Int
 |0=>0
 |n+1=>sm f n+f n
theorem cH{f g:Nat->Int}:∀n,(∀i,i<n->f i=g i)->sm f n=sm g n
 |0,_=>rfl
 |n+1,h=>by rw[sm,sm,cH n λi a=>h i (by lia),h n (by lia)]
theorem oB(f:Nat->Int):∀n,sm f (n+1)=f 0+sm (λi=>f (i+1)) n
 |0=>by rw[sm,sm,sm];lia
 |n+1=>by rw[sm,oB f n,sm];lia
theorem zV(f:Nat->Int):∀n,sm (λi=>f (n -i)) (n+1)=sm f (n+1)
 |0=>rfl
 |n+1=>by rw[oB,cH (g:=λi=>f (n -i)) (n+1) λi a=>by congr 1;lia,zV f n];rw[sm,sm,sm];show f (n+1 -0)+(sm f n+f n)=_;rw[Q9];lia
theorem oE{f:Nat->Int}{m:Nat}:∀n,m<=n->(∀i,m<=i->i<n->f i=0)->sm f n=sm f m
 |0,h,_=>by
  have:m=0:=by lia
  rw[this]
 |n+1,h,z=>by
  by_cases e:m=n+1
  .rw[e]
  .rw[sm,oE n (by lia) (λi a b=>z i a (by lia)),z n (by lia) (by lia),Ts]
theorem Gz(b a:List Int)(k:Nat):∀n,cf b a n k=sm (λi=>b.getD i 0*(if i<=k then a.getD (k -i) 0 else 0)) n
 |0=>rfl
 |n+1=>by rw[cf,Gz b a k n,sm]
theorem Dk(a d:List Int)(k:Nat):cf a d a.length k=sm (λi=>a.getD i 0*d.getD (k -i) 0) (k+1):=by
 rw[Gz];have b:∀i,a.length<=i->a.getD i 0=0:=λi h=>by rw[AC,FR h];rfl
 rcases Nat.le_total a.length (k+1)with h|h
 .rw[<-oE (k+1) h λi c _=>by rw[b i c,SF]];exact cH _ λi e=>by rw[Bz (by lia)]
 .rw[oE a.length h λi c _=>by rw[Bi (by lia),WM]];exact cH _ λi e=>by rw[Bz (by lia)]
noncomputable def kF(l:List Rat):Prop:=∀x,l.getLast?=some x->x≠0
noncomputable def Nd(a:List Rat):List Rat:=a.map λx=> -x
noncomputable def Sm(f:Nat->Rat):Nat->Rat
 |0=>0
 |n+1=>Sm f n+f n
noncomputable def IL(f g:Nat->Rat)(k:Nat):Rat:=Sm (λi=>f i*g (k -i)) (k+1)
theorem oF(c:Int)(f:Nat->Int):∀n,sm (λi=>c*f i) n=c*sm f n
 |0=>by rw[sm,sm,WM]
 |n+1=>by rw[sm,sm,oF c f n,Int.mul_add]
theorem kG(f g:Nat->Int):∀n,sm (λi=>f i+g i) n=sm f n+sm g n
 |0=>rfl
 |n+1=>by rw[sm,sm,sm,kG f g n];lia
theorem oG(p:Nat)(v:Nat->Int):∀n,sm (λi=>if i=p then v i else 0) n=if p<n then v p else 0
 |0=>by rw[sm,Bi (by lia)]
 |n+1=>by
  rw[sm,oG p v n];by_cases h:p<n
  .rw[Bz h,Bi (by lia),Bz (by lia)];lia
  .rw[Bi h];by_cases e:n=p
   .subst e;rw[Bz rfl,Bz (by lia)];lia
   .rw[Bi e,Bi (by lia)];lia
noncomputable def b8(f g:Nat->Int)(k:Nat):Int:=sm (λi=>f i*g (k -i)) (k+1)
theorem Dm(c h:Int)(Q O:Nat->Int)(p k:Nat):b8 (λi=>c*Q i+if i=p then h else 0) O k=c*b8 Q O k+if p<=k then h*O (k -p)else 0:=by
 unfold b8;rw[cH (g:=λi=>c*(Q i*O (k -i))+if i=p then h*O (k -i)else 0) (k+1) λi _=>?_,kG,oF,oG p λi=>h*O (k -i)]
 .by_cases a:p<=k
  .rw[Bz a,Bz (show p<k+1 by lia)]
  .rw[Bi a,Bi (show¬p<k+1 by lia)]
 .split
  .grind
  .grind
theorem Dp(O:Nat->Int)(k:Nat):b8 (λ_=>0) O k=0:=by unfold b8;rw[cH (g:=λi=>0*0) (k+1) λi _=>by rw[SF,SF],oF,SF]
theorem outI{ns:List Int}{k:Nat}(h:ns.length<=k):ns.getD k 0=0:=by rw[AC,FR h];rfl
noncomputable def Cd(D:Int)(n:Nat)(x:Rat):Prop:=∃z:Int,x*D=z/\z.natAbs<2^n
theorem zW{a b c:Int}(h:LY a b=1)(e:a∣b*c):a∣c:=by
 have d:a.natAbs∣b.natAbs*c.natAbs:=by rw[<-Wq];exact U0.mpr e
 exact U0.mp (Xe (show Nat.Coprime a.natAbs b.natAbs from h) d)
theorem oH{ns b:List Int}(h:cZ ns b)(k:Nat):b.getD k 0=ns.getD k 0:=by
 obtain⟨j,e,rfl,c,_⟩:=h;by_cases d:k<j
 .rw[AC,WC d,<-AC]
 .rw[outI (by rw[QQ];lia)];by_cases a:k<ns.length
  .exact(c k (by lia) a).symm
  .exact(outI (by lia)).symm
theorem kH{ns a:List Int}(h:cZ ns a):a.length<=ns.length:=by obtain⟨j,b,rfl,_⟩:=h;rw[QQ];lia
end Num
namespace Sub
abbrev Ix:=Bool×Nat
abbrev Vc:=Ix->Int
noncomputable def ex(D:List Vc->Int)(r:Ix):List Vc->List Vc->Int
 |_,[]=>0
 |pre,c::post=>c r*D (pre++post) -ex D r (pre++[c]) post
noncomputable def det:List Ix->List Vc->Int
 |[],[]=>1
 |[],_::_=>0
 |r::a,cs=>ex (det a) r [] cs
noncomputable def sh(j:Nat)(P:Vc):Vc:=λi=>if j<=i.2 then P (i.1,i.2 -j)else 0
noncomputable def QU(P:Vc):Nat->List Vc
 |0=>[]
 |n+1=>sh n P::QU P n
noncomputable def rws:Nat->Nat->List Ix
 |_,0=>[]
 |0,_+1=>[]
 |E+1,c+1=>(false,E)::rws E c
noncomputable def comb(c:Int)(a:Vc):List (Int×Vc)->Vc
 |[]=>λi=>c*a i+0*a i
 |z::L=>λi=>1*comb c a L i+z.1*z.2 i
noncomputable def SS(E:Nat)(A B:Vc)(a b:Nat)(c:Ix):Int:=det (rws E (a+b -1)++[c]) (QU A a++QU B b)
noncomputable def less(c:Int)(A B:Vc)(L:List (Int×Nat)):Vc:=comb c A (L.map λz=>(z.1,sh z.2 B))
noncomputable def T4(a:Int):Prop:=a=1\/a= -1
structure Ch(A B:Vc)(m n:Nat)(P Q:Vc)(p q:Nat)(lp lq h:Int):Prop where
 hpq:q<=p
 VY:lp≠0
 h0:h≠0
 VZ:lq≠0
 lead:Q (false,q)=lq
 zero:∀t,q<t->Q (false,t)=0
 inv:∀k,k<=q->k<p->∃ε:Int,T4 ε/\∀ρ,SS (p+q -k) P Q (q -k) (p -k) ρ=ε*(lp^(q -k)*h^(p -k -1))*SS (m+n -k) A B (n -k) (m -k) ρ
end Sub
namespace Sub
open Num
noncomputable def vc(r f:List Int):Vc:=λi=>if i.1 then f.getD i.2 0 else r.getD i.2 0
end Sub
namespace Num
end Num
namespace Sub
open Num
structure CS(ns ms f0 g0:List Int)(w E b1:Nat)(P Q fP fQ:List Int)(ld h:Int):Prop where
 ch:Ch (vc ns f0) (vc ms g0) (ns.length -1) (ms.length -1) (vc P fP) (vc Q fQ) (P.length -1) (Q.length -1) ld (Q.getD (Q.length -1) 0) h
 lq:0<Q.length
 V0:Q.length<=P.length
 lp:P.length<=ns.length
 V1:Q.length<=ms.length
 lf:fP.length+Q.length<=b1
 T5:fQ=[]\/fQ.length+P.length<=b1
 bP:∀i,(vc P fP i).natAbs<=2^(w*(ns.length -1+(ms.length -1)+1))
 bQ:∀i,(vc Q fQ i).natAbs<=2^(w*(ns.length -1+(ms.length -1)+1))
 bl:ld.natAbs<=2^(w*(ns.length -1+(ms.length -1)+1))
 bh:h.natAbs<=2^(w*(ns.length -1+(ms.length -1) -2*(P.length -1)))
structure FX(ns ms f0 g0:List Int)(w E:Nat):Prop where
 l1:ms.length<=ns.length
 l2:ns.length<=50
 M:∃M:Nat,(∀i,(vc ns f0 i).natAbs<=M)/\(∀i,(vc ms g0 i).natAbs<=M)/\1<=M/\(ns.length -1+(ms.length -1)+1)*M<=2^w
 E1:∀p,(ns.length -1+(ms.length -1) -2*p)*p+(ns.length -1+(ms.length -1)+1)<=E
theorem getD_mem'{ns:List Int}{k:Nat}(h:k<ns.length):ns.getD k 0∈ns:=by rw[AC,B1 h];exact L9 h
theorem map_getD{ns:List Int}{f:Int->Int}(a:f 0=0)(k:Nat):(ns.map f).getD k 0=f (ns.getD k 0):=by
 rw[AC,Da,AC];cases ns[k]? with
 |none=>exact a.symm
 |some z=>rfl
end Sub
namespace Num
noncomputable def oJ(p:Int)(ns a:List Int)(Q:Nat->Int)(R:List Int):Prop:=∀k,p∣ns.getD k 0 -(b8 Q (λi=>a.getD i 0) k+R.getD k 0)
theorem oJ.start(p:Int)(ns a:List Int):oJ p ns a (λ_=>0) ns:=λk=>by rw[Dp,WY,XQ];exact Tz _
theorem zX(h:Int)(Q O:Nat->Int)(p k:Nat):b8 (λi=>Q i+if i=p then h else 0) O k=b8 Q O k+if p<=k then h*O (k -p)else 0:=by have:=Dm 1 h Q O p k;rw[XF]at this;rw[<-this];congr 1;funext i;rw[XF]
theorem vE{p a b:Int}(e:p∣a)(d:p∣b){c:Int}(h:c=a+b):p∣c:=by rw[h];exact Qb e d
theorem oJ.step{p:Int}{ns a:List Int}{l:Int}{b:Nat}{Q:Nat->Int}{R R':List Int}{h:Int}(d:oJ p ns a Q R)(s:0<a.length)(m:l=a.getD (a.length -1) 0)(t:R.length=b+a.length)(u:R'.length=b+a.length -1)(f:p∣h*l -R.getD (b+a.length -1) 0)
 (j:∀k,k<b+a.length -1->p∣R'.getD k 0 -(R.getD k 0 -if b<=k then h*a.getD (k -b) 0 else 0)):
 oJ p ns a (λi=>Q i+if i=b then h else 0) R':=λk=>by
 rw[zX];have e:=d k;generalize ns.getD k 0=n at*;generalize b8 Q (λi=>a.getD i 0) k=c at*;by_cases q:k<b+a.length -1
 .have:=j k q;generalize R'.getD k 0=g at*;generalize R.getD k 0=r at*;show p∣n -(c+(if b<=k then h*a.getD (k -b) 0 else 0)+g);generalize(if b<=k then h*a.getD (k -b) 0 else 0)=x at*;exact vE e (XG.mpr this) (by lia)
 .by_cases o:k=b+a.length -1
  .rw[<-o]at f;rw[outI (ns:=R') (by lia),Bz (by lia)];show p∣n -(c+h*a.getD (k -b) 0+0);rw[show k -b=a.length -1 by lia,<-m];generalize R.getD k 0=r at*;exact vE e (XG.mpr f) (by lia)
  .rw[outI (ns:=R) (k:=k) (by lia)]at e;rw[outI (ns:=R') (by lia)];have z:(if b<=k then h*(λi=>a.getD i 0) (k -b)else 0)=0:=by
    split
    .show h*a.getD (k -b) 0=0;rw[outI (by lia),WM]
    .rfl
   rw[z];rw[show n -(c+0+0)=n -(c+0) by lia];exact e
theorem Dq{a b:List Int}(g:a=[]\/a.getD (a.length -1) 0≠0)(c:b=[]\/b.getD (b.length -1) 0≠0)(h:∀k,a.getD k 0=b.getD k 0):a=b:=by
 have d:∀{a b:List Int},(b=[]\/b.getD (b.length -1) 0≠0)->(∀k,a.getD k 0=b.getD k 0)->b.length<=a.length:=λ{a b} c h=>by
  rcases c with rfl|c
  .exact KE _
  .rcases XI a.length b.length with z|z
   .exact absurd ((h _).symm.trans (outI (by lia))) c
   .exact z
 have e:a.length=b.length:=VR (d g λk=>(h k).symm) (d c h);apply T1;intro k;by_cases f:k<a.length
 .have:=h k;rw[AC,AC,B1 f,B1 (show k<b.length by lia)]at this;rw[B1 f,B1 (show k<b.length by lia)];exact Fs some this
 .rw[FR (by lia),FR (by lia)]
theorem mod_eq{p x y:Int}(b:0<=x/\x<p)(a:0<=y/\y<p)(h:p∣x -y):x=y:=by
 have d:=R0 b.1 b.2;have c:=R0 a.1 a.2;have:=Int.emod_emod_of_dvd (x -y) (Int.dvd_refl p);obtain⟨k,f⟩:=h;have e:x=y+p*k:=by lia
 rw[<-d,e,Int.add_mul_emod_self_left,c]
theorem bT{p:Int}(b:0<p){ns:List Int}(h:∀x∈ns,0<=x/\x<p)(k:Nat):0<=ns.getD k 0/\ns.getD k 0<p:=by
 by_cases a:k<ns.length
 .rw[AC,B1 a];exact h _ (L9 a)
 .rw[outI (by lia)];exact⟨by lia,b⟩
theorem xU{p x l:Int}(b:af p)(a:0<l/\l<p)(h:p∣x*l):p∣x:=by have c:=gF b a.1 a.2;exact zW c (by rw[SL]at h;exact h)
theorem eG(f g:Nat->Int)(k:Nat):b8 f g k=b8 g f k:=by unfold b8;rw[<-zV];refine cH _ λi a=>?_;show f (k -i)*g (k -(k -i))=g i*f (k -i);rw[show k -(k -i)=i by lia,SL]
theorem gp{f f' g g':Nat->Int}(b:∀i,f i=f' i)(a:∀i,g i=g' i)(k:Nat):b8 f g k=b8 f' g' k:=by rw[show f=f' from funext b,show g=g' from funext a]
theorem kI(f g h:Nat->Int)(k:Nat):b8 (λi=>f i+g i) h k=b8 f h k+b8 g h k:=by unfold b8;rw[<-kG];exact cH _ λi _=>Int.add_mul ..
theorem iD(c:Int)(f h:Nat->Int)(k:Nat):b8 (λi=>c*f i) h k=c*b8 f h k:=by unfold b8;rw[<-oF];exact cH _ λi _=>XH ..
theorem zY(f g h:Nat->Int)(k:Nat):b8 f (λi=>g i+h i) k=b8 f g k+b8 f h k:=by rw[eG,kI,eG g,eG h]
theorem Dr(c:Int)(f h:Nat->Int)(k:Nat):b8 f (λi=>c*h i) k=c*b8 f h k:=by rw[eG,iD,eG h]
theorem cI(f g:Nat->Int):b8 f g 0=f 0*g 0:=by unfold b8;rw[sm,sm];show 0+f 0*g (0 -0)=_;rw[WY]
theorem eH(f g:Nat->Int)(k:Nat):b8 f g (k+1)=f 0*g (k+1)+b8 (λi=>f (i+1)) g k:=by unfold b8;rw[oB];congr 1;exact cH _ λi a=>by show f (i+1)*g (k+1 -(i+1))=f (i+1)*g (k -i);rw[show k+1 -(i+1)=k -i by lia]
theorem nE(g h:Nat->Int):∀(k:Nat)(f:Nat->Int),b8 (b8 f g) h k=b8 f (b8 g h) k
 |0,f=>by rw[cI,cI,cI,cI,XH]
 |k+1,f=>by rw[eH,eH f,cI,eH g];have e:(λi=>b8 f g (i+1))=λi=>f 0*g (i+1)+b8 (λi=>f (i+1)) g i:=funext λi=>eH f g i;rw[e,kI,iD,nE g h k];generalize b8 (λi=>g (i+1)) h k=x;generalize b8 (λi=>f (i+1)) (b8 g h) k=y;generalize h (k+1)=z;grind
theorem oM{f g:Nat->Int}{n m:Nat}(d:∀i,n<=i->f i=0)(c:∀i,m<=i->g i=0){k:Nat}(h:n+m<=k+1):b8 f g k=0:=by
 unfold b8;rw[cH (g:=λ_=>0) _ λi e=>?_]
 .have:∀n,sm (λ_=>0) n=0:=λn=>by
   induction n with
   |zero=>rfl
   |succ n b=>rw[sm,b];rfl
  exact this _
 .show f i*g (k -i)=0;by_cases a:n<=i
  .rw[d i a,SF]
  .rw[c _ (by lia),WM]
abbrev co(a:List Int):Nat->Int:=λi=>a.getD i 0
theorem GA(a b:List Int)(k:Nat):cf a b a.length k=b8 (co a) (co b) k:=Dk a b k
end Num
namespace Sub
open Num
end Sub
namespace Num
noncomputable def hz(t:Int):List Int->List Int
 |[]=>[]
 |r::a=>(r+t*(hz t a).headD 0)::hz t a
noncomputable def cs(l:List Int):List Rat:=l.map λx:Int=>((x:Int):Rat)
noncomputable def sc(u b:Rat):List Rat->List Rat
 |[]=>[]
 |r::a=>r*u*b^a.length::sc u b a
abbrev cQ(a:List Rat):Nat->Rat:=λi=>a.getD i 0
noncomputable def Fin(f:Nat->Rat):Prop:=∃n,∀i,n<=i->f i=0
noncomputable def DQ(g a:Nat->Rat):Prop:=∃s,Fin s/\∀k,a k=IL s g k
structure Mon(g:List Rat):Prop where
 ne:g≠[]
 one:g.getD (g.length -1) 0=1
end Num
namespace Sub
noncomputable def lc(y:Ix->Vc)(c:Vc):List Ix->Vc
 |[]=>λ_=>0
 |r::a=>λi=>1*lc y c a i+c r*y r i
end Sub
namespace Sub
open Num
noncomputable def pc(f:Nat->Int):Vc:=λi=>f i.2
noncomputable def one:Nat->Int:=λi=>if i=0 then 1 else 0
end Sub
namespace Num
noncomputable def mon(c:List Rat):List Rat:=c.map λx=>x/c.getD (c.length -1) 0
end Num
namespace Num
open Sub
end Num
namespace Sub
open Num
end Sub
namespace Num
open Sub
section
variable{ι:Type}
inductive QV(P:List (ι->Rat)):(ι->Rat)->(ι->Rat)->Prop where
 |refl (o:ι->Rat):QV P o o
 |add {o x a:ι->Rat} (y:Rat) (h:QV P o x) (m:a∈P):QV P o (λi=>1*x i+y*a i)
noncomputable def pD:List ((ι->Rat)×Int)->Int
 |[]=>1
 |p::a=>p.2*pD a
end
abbrev vQ(l:List Rat):Nat->Rat:=cQ l
section
variable{ι α:Type}
end
noncomputable def line(N:Nat)(a:List Rat)(i:Nat):List Rat:=Dg i 0++a.reverse++Dg (N -i -a.length) 0
end Num
namespace Num
structure zZ(n:Nat)(a b x y u u2 v v2:Int):Prop where
 e1:u*a+v*b=x
 e2:u2*a+v2*b=y
 g:LY x y=LY a b
 bx:x.natAbs<2^n
 oN:y.natAbs<2^n
 bu:u.natAbs<2^(n+2)
 bv:v.natAbs<2^(n+2)
 Sn:u2.natAbs<2^(n+2)
 So:v2.natAbs<2^(n+2)
 or:(u=1/\u2=0/\v=0/\v2=1)\/(Sg x y/\Ib n x y u u2/\Ib n x y v v2)
theorem pow2(n:Nat):1<2^(n+2):=by have:=U1 (n:=n) (show 0<2 by decide);rw[XB];omega
theorem zZ.next{n:Nat}{a b x y u d v c:Int}(I:zZ n a b x y u d v c)(e:y≠0):zZ n a b y (x -x.fdiv y*y) d (u -x.fdiv y*d) c (v -x.fdiv y*c):=by
 have j:=Di x y e;have k:=tT x y e;have h:Ib n y (x -x.fdiv y*y) d (u -x.fdiv y*d)/\Ib n y (x -x.fdiv y*y) c (v -x.fdiv y*c):=by
  rcases I.or with⟨rfl,rfl,rfl,rfl⟩|⟨f,i,m⟩
  .have o:=Gy x y e;have f:=I.bx;have i:=I.oN;unfold Ib;constructor
   .simp only[WM,WL,Int.natAbs_zero,Nat.zero_mul,Nat.add_zero];show 1*y.natAbs<=_;omega
   .simp only[RN,XO,Int.natAbs_neg];show _+1*_<=_;have l:(x.fdiv y).natAbs*y.natAbs<=x.natAbs+(x -x.fdiv y*y).natAbs:=by rw[<-Wq];omega
    omega
  .exact⟨vD i f e,vD m f e⟩
 refine⟨I.e2,?_,?_,I.oN,Qh k I.oN,I.Sn,I.So,qV h.1 j,qV h.2 j,.inr ⟨j,h.1,h.2⟩⟩
 .have f:=I.e1;have i:=I.e2;generalize x.fdiv y=q;subst f;subst i;grind
 .rw[zU,I.g]
end Num
namespace Num
open Sub
theorem qY{p x y:Int}(a:af p)(h:p∣x*y):p∣x\/p∣y:=by
 have b:0<p:=by have:=a.1;lia
 by_cases c:y%p=0
 .exact .inr (Sw c)
 .refine .inl (xU a (l:=y%p) ⟨?_,NA _ b⟩ ?_)
  .have:=PQ y (show p≠0 by lia);lia
  .have e:=OF y p;have d:x*(y%p)=x*y -p*(x*(y/p)):=by
    have:y%p=y -p*(y/p):=by lia
    rw[this];grind
   rw[d];exact RT h ⟨_,rfl⟩
theorem Ds{P:Nat->Prop}(h:∃i,¬P i):∃i,¬P i/\∀j,j<i->P j:=by
 obtain⟨i,d⟩:=h
 induction i using Nat.strongRecOn with
 |ind i c=>
  by_cases z:∃j,j<i/\¬P j
  .obtain⟨j,b,a⟩:=z;exact c j b a
  .exact⟨i,d,λj b=>FV λa=>z ⟨j,b,a⟩⟩
theorem kJ{p:Int}{f:Nat->Int}:∀n,(∀i,i<n->p∣f i)->p∣sm f n
 |0,_=>Tz _
 |n+1,h=>by rw[sm];exact Qb (kJ n λi a=>h i (by lia)) (h n (by lia))
end Num
namespace Num
noncomputable def ab(u A:Rat):Prop:= -A<=u/\u<=A
noncomputable def In(a b x:Rat):Prop:=a<=x/\x<=b
noncomputable def dv(x:Rat):List Rat->Rat
 |[]=>0
 |_::a=>ev x a+x*dv x a
structure qZ(a b:Rat)where
 l:Nat->Rat
 r:Nat->Rat
 lt:∀n,l n<r n
 up:∀n,l n<=l (n+1)
 dn:∀n,r (n+1)<=r n
 a0:a<=l 0
 b0:r 0<=b
 sm:∀e:Rat,0<e->∃n,r n -l n<=e
noncomputable def qZ.I{a b:Rat}(N:qZ a b)(n:Nat)(x:Rat):Prop:=In (N.l n) (N.r n) x
noncomputable def qZ.Z{a b:Rat}(N:qZ a b)(f:Rat->Rat):Prop:=∀e:Rat,0<e->∃n,∀x,N.I n x->ab (f x) e
noncomputable def qZ.P{a b:Rat}(N:qZ a b)(s:Rat)(f:Rat->Rat):Prop:=(s=1\/s= -1)/\∃c,0<c/\∃n,∀x,N.I n x->c<=s*f x
noncomputable def Sq(a b:Rat)(f:Rat->Rat):Prop:=∃L,0<=L/\∀x y,In a b x->In a b y->x<=y->ab (f y -f x) (L*(y -x))
noncomputable def T6(a b:Rat)(f:Rat->Rat):Prop:=∃B,0<=B/\∀x,In a b x->ab (f x) B
noncomputable def df(a b:Rat):Nat:=if 0<a then(if 0<b then 0 else 1)else(if 0<b then 1 else 0)
noncomputable def QW(b:Rat):List Rat->Nat
 |[]=>0
 |x::l=>if x=0 then QW b l else(if b=0 then 0 else df b x)+QW x l
noncomputable def chg(l:List Rat):Nat:=QW 0 l
inductive Ch(a b:Rat):List (Rat->Rat)->Prop
 |one {f:Rat->Rat} (c:Rat) (h0:c≠0) (h:∀x,In a b x->f x=c):Ch a b [f]
 |two {f g:Rat->Rat} (hf:Sq a b f) (h:Ch a b [g]):Ch a b [f,g]
 |cons {f g h:Rat->Rat} {l:List (Rat->Rat)} (hf:Sq a b f) (α β:Rat) (q:Rat->Rat) (a0:0<α) (b0:0<β) (hq:T6 a b q) (e:∀x,In a b x->α*f x+β*h x=q x*g x) (k:Ch a b (g::h::l)):Ch a b (f::g::h::l)
variable{a b:Rat}(N:qZ a b)
section
variable{a b:Rat}(N:qZ a b)
end
section
variable(T7:Rat->Rat->Prop)
variable{T7}
end
end Num
namespace Num
open Sub
noncomputable def GB(a b r:List Rat):Prop:=kF r/\r.length<b.length/\∃q:Nat->Rat,Fin q/\∀k,cQ a k=IL q (cQ b) k+cQ r k
inductive QX:List Rat->List Rat->List (List Rat)->Prop
 |nil {a b:List Rat} (h:GB a b []):QX a b []
 |cons {a b r:List Rat} {l:List (List Rat)} (h:GB a b r) (h0:r≠[]) (k:QX b (Nd r) l):QX a b (Nd r::l)
section
variable{ns ms A B Qs R:List Int}{w E D0:Nat}{ld h c:Int}{α β:Rat}{a b:List Rat}
end
abbrev Pq:=Nat->Rat
noncomputable def I1:Pq:=cQ [1]
noncomputable def Z0(f:Pq):Prop:=∀i,f i=0
noncomputable def Un(f:Pq):Prop:=DQ f I1
noncomputable def pw(p:Pq):Nat->Pq
 |0=>I1
 |n+1=>IL p (pw p n)
structure cJ(p:Pq):Prop where
 fin:Fin p
 nz:¬Z0 p
 un:¬Un p
 or:∀d,Fin d->DQ d p->Un d\/DQ p d
noncomputable def Val(p f:Pq)(e:Nat):Prop:=∃s,Fin s/\f=IL (pw p e) s/\¬DQ p s
structure Tn(f:Pq)(k:Nat)(left beyond:Pq):Prop where
 fl:Fin left
 nl:¬Z0 left
 fb:Fin beyond
 nb:¬Z0 beyond
 v:∀p,cJ p->∀e,Val p f e->Val p left (if k<=e then 1 else 0)/\Val p beyond (e -k)
end Num
namespace Num
end Num
namespace Num
open Sub
end Num
namespace VL
open PySem PySem.W PyProof.Rows
noncomputable def xV(n:Nat)(r:Nat->Nat){α:Type}:KasT α->(α->Prop)->Prop
 |.ret a,Q=>Q a
 |.ask i j k,Q=>i<n/\j<n/\xV n r (k (decide (r i<r j))) Q
theorem eK{n:Nat}{r:Nat->Nat}{α b:Type}{f:α->KasT b}{Q:b->Prop}:∀(t:KasT α),xV n r t (λa=>xV n r (f a) Q)->xV n r (t.bind f) Q
 |.ret _,h=>h
 |.ask _ _ _,h=>⟨h.1,h.2.1,eK _ h.2.2⟩
theorem z3{n:Nat}{r:Nat->Nat}{α:Type}{I:Shared->Prop}{b:Nat->Nat->(Bool->Shared->Prop)->Shared->Prop}{Q:α->Prop}{g:α->Shared->Prop}(f:∀i j C s,i<n->j<n->I s->(∀s',I s'->C (decide (r i<r j)) s')->b i j C s)(e:∀a s,Q a->I s->g a s):∀(t:KasT α)(s:Shared),xV n r t Q->I s->t.kasWp b g s
 |.ret _,s,h,d=>e _ s h d
 |.ask i j k,s,h,d=>f i j _ s h.1 h.2.1 d λs' c=>z3 f e (k (decide (r i<r j))) s' h.2.2 c
noncomputable def kB(n:Nat)(p:Array Nat):Prop:=p.toList.Perm (Ea n)
theorem kB.sz{n:Nat}{p:Array Nat}(h:kB n p):p.size=n:=by have:=Xj h;rw[GT]at this;exact this
theorem kB.lt{n:Nat}{p:Array Nat}(h:kB n p){k:Nat}(b:k<n):p.getD k 0<n:=by
 have a:=h.sz;have e:p.getD k 0=p[k]'(by omega):=by simp[XW,a,b]
 rw[e];exact Kb.mp (Sv h|>.mp (by simp))
theorem kB.PJ{n:Nat}{p:Array Nat}(h:kB n p)(i j:Nat):kB n (kas_rev p i j):=(Rv.mp (mirror_perm p i j _)).trans h
theorem kB.T8{n:Nat}{p:Array Nat}(h:kB n p)(i j:Nat):kB n (bubble p i j):=(Rv.mp (bubble_perm p i j)).trans h
theorem tU{p:Array Nat}{i j:Nat}(a:j<=p.size)(k:Nat):(kas_rev p i j).getD k 0=if i<=k/\k<j then p.getD (i+j -1 -k) 0 else p.getD k 0:=by unfold kas_rev;simp only[RU];rw[getElem?_mirror_all a];split<;>rfl
theorem z4{p:Array Nat}{a d:Nat}(b:a<p.size)(c:d<=a)(k:Nat):(bubble p a d).getD k 0=if k=a -d then p.getD a 0 else if a -d<k/\k<=a then p.getD (k -1) 0 else p.getD k 0:=by
 simp only[RU];rw[getElem?_bubble b d c];split
 .rfl
 .split<;>rfl
section
variable{n:Nat}{r:Nat->Nat}
noncomputable def qC(r:Nat->Nat)(p:Array Nat)(k:Nat):Prop:=∀i j,i<=j->j<k->r (p.getD i 0)<=r (p.getD j 0)
noncomputable def Du(r:Nat->Nat)(p:Array Nat)(k:Nat):Prop:=∀i j,i<=j->j<k->r (p.getD j 0)<=r (p.getD i 0)
theorem qC.s{p:Array Nat}{k:Nat}(h:qC r p k)(c:k=0\/r (p.getD (k -1) 0)<=r (p.getD k 0)):qC r p (k+1):=by
 intro i j b d;by_cases a:j<k
 .exact h i j b a
 .have e:j=k:=by omega
  subst e;by_cases e:i=j
  .rw[e];exact BM _
  .exact Hn (h i (j -1) (by omega) (by omega)) (c.resolve_left (by omega))
theorem Du.s{p:Array Nat}{k:Nat}(h:Du r p k)(c:k=0\/r (p.getD k 0)<=r (p.getD (k -1) 0)):Du r p (k+1):=by
 intro i j b d;by_cases a:j<k
 .exact h i j b a
 .have e:j=k:=by omega
  subst e;by_cases e:i=j
  .rw[e];exact BM _
  .exact Hn (c.resolve_left (by omega)) (h i (j -1) (by omega) (by omega))
theorem z5{p:Array Nat}(d:kB n p){Q:Nat->Prop}:∀(f a:Nat),1<=a->a+f<=n->qC r p a->(∀m,a<=m->m<=a+f->qC r p m->(m=a+f\/r (p.getD m 0)<r (p.getD (m -1) 0))->Q m)->xV n r (kas_asc p f a) Q
 |0,a,_,_,b,h=>h a (BM _) (BM _) b (.inl rfl)
 |f+1,a,k,j,b,h=>by
  refine⟨d.lt (by omega),d.lt (by omega),?_⟩;dsimp only;by_cases c:r (p.getD a 0)<r (p.getD (a -1) 0)
  .rw[Bz (DL c)];exact h a (BM _) (by omega) b (.inr c)
  .rw[Bi (by rw[FS];exact c)];exact z5 d f (a+1) (by omega) (by omega) (b.s (.inr (by omega))) λm o l i g=>h m (by omega) (by omega) i (g.imp (λe=>by omega) λe=>e)
theorem z6{p:Array Nat}(c:kB n p){Q:Nat×Array Nat->Prop}{a:Nat}(k:1<=a)(d:a<=n)(f:Du r p a)(h:∀m b,kB n b->1<=m->m<=n->qC r b m->Q (m,b)):xV n r (kas_tail3 a n p) Q:=by unfold kas_tail3;have e:=c.PJ 0 a;refine eK _ (z5 e (n -a) a k (by omega) ?_ λm o a2 a3 _=>h m _ e (by omega) (by omega) a3);intro i j g l;rw[tU (by rw[c.sz];exact d),tU (by rw[c.sz];exact d),Bz (by omega),Bz (by omega)];exact f _ _ (by omega) (by omega)
theorem jW{p:Array Nat}{i j:Nat}(b:j<=p.size)(a:∀k,i<=k->k<j->r (p.getD k 0)=r (p.getD (j -1) 0))(k:Nat):r ((kas_rev p i j).getD k 0)=r (p.getD k 0):=by
 rw[tU b];split
 .rw[a _ (by omega) (by omega),a k (by omega) (by omega)]
 .rfl
theorem oO{Q:Array Nat×Nat×Nat->Prop}:∀(f:Nat)(p:Array Nat)(a q:Nat),kB n p->1<=a->a+f<=n->Du r p a->q+1<=a->(∀i,a -(q+1)<=i->i<a->r (p.getD i 0)=r (p.getD (a -1) 0))->
 (∀m g b,kB n b->a<=m->m<=n->Du r b m->g+1<=m->(∀i,m -(g+1)<=i->i<m->r (b.getD i 0)=r (b.getD (m -1) 0))->Q (b,m,g))->xV n r (kas_desc f p a q) Q
 |0,p,a,q,e,B,y,k,t,l,h=>h a q p e (BM _) (by omega) k t l
 |f+1,p,a,q,e,B,y,k,t,l,h=>by
  refine⟨e.lt (by omega),e.lt (by omega),?_⟩;dsimp only;by_cases c:r (p.getD a 0)<r (p.getD (a -1) 0)
  .rw[Bz (DL c)];by_cases x:q>0
   .rw[Bz x];have ek:=jW (r:=r) (show a<=p.size by rw[e.sz];omega) l;refine oO f _ (a+1) 0 (e.PJ _ _) (by omega) (by omega) (λi j u z=>?_) (by omega) (λi w a2=>by rw[show i=a+1 -1 by omega]) λm g b o v=>h m g b o (by omega);rw[ek,ek];exact k.s (.inr (by omega)) i j u z
   .rw[Bi x];exact oO f p (a+1) 0 e (by omega) (by omega) (k.s (.inr (by omega))) (by omega) (λi w a2=>by rw[show i=a+1 -1 by omega]) λm g b o v=>h m g b o (by omega)
  .rw[Bi (by rw[FS];exact c)];refine⟨e.lt (by omega),e.lt (by omega),?_⟩;dsimp only;by_cases d:r (p.getD (a -1) 0)<r (p.getD a 0)
   .rw[Bz (DL d)];exact h a q p e (BM _) (by omega) k t l
   .rw[Bi (by rw[FS];exact d)];refine oO f p (a+1) (q+1) e (by omega) (by omega) (k.s (.inr (by omega))) (by omega) (λi w a2=>?_) λm g b o v=>h m g b o (by omega);rw[show a+1 -1=a by omega];by_cases A:i=a
    .rw[A]
    .rw[l i (by omega) (by omega)];omega
theorem z7{p:Array Nat}(s:kB n p){Q:Nat×Array Nat->Prop}{a:Nat}(t:a+1<=n)(l:Du r p (a+1))(h:∀m b,kB n b->1<=m->m<=n->qC r b m->Q (m,b)):xV n r (kas_descPart a n p) Q:=by
 unfold kas_descPart;refine eK _ (oO (n -(a+1)) p (a+1) 0 s (by omega) (by omega) l (by omega) (λi w a2=>by rw[show i=a+1 -1 by omega]) λm q b c v k g u f=>?_);dsimp only;by_cases e:q>0
 .rw[Bz e];refine z6 (c.PJ _ _) (by omega) k (λi j d o=>?_) h;rw[jW (r:=r) (show m<=b.size by rw[c.sz];omega) f,jW (r:=r) (show m<=b.size by rw[c.sz];omega) f];exact g i j d o
 .rw[Bi e];exact z6 c (by omega) k g h
theorem Dv{p:Array Nat}(b:kB n p){Q:Nat×Array Nat->Prop}(w:1<=n)(h:∀m g,kB n g->1<=m->m<=n->qC r g m->Q (m,g)):xV n r (kas_count n p) Q:=by
 unfold kas_count;refine eK _ (z5 b (n -1) 1 (BM _) (by omega) (λi j a f=>by rw[show i=j by omega];exact BM _) λm t a2 a3 v=>?_);by_cases l:m=n
 .rw[Bz (by simpa using l)];exact h m p b t (by omega) a3
 .rw[Bi (by simpa using l)];have lt:r (p.getD m 0)<r (p.getD (m -1) 0):=v.resolve_left (by omega);by_cases o:m>1
  .rw[Bz o];refine⟨b.lt (by omega),b.lt (by omega),?_⟩;dsimp only;by_cases c:r (p.getD 0 0)<r (p.getD (m -1) 0)
   .rw[Bz (DL c)];exact h m p b t (by omega) a3
   .rw[Bi (by rw[FS];exact c)];have d:∀k,0<=k->k<m->r (p.getD k 0)=r (p.getD (m -1) 0):=λk _ u=>by have:=a3 0 k (by omega) u;have:=a3 k (m -1) (by omega) (by omega);omega
    have q:=jW (r:=r) (show m<=p.size by rw[b.sz];omega) d;refine z7 (b.PJ _ _) (by omega) (λi j a f=>?_) h;rw[q,q];refine Du.s (λi j a f=>?_) (.inr (by omega)) i j a f;rw[d i (by omega) (by omega),d j (by omega) (by omega)];exact BM _
  .rw[Bi o];have e:m=1:=by omega
   subst e;exact z7 b (by omega) (Du.s (λi j a f=>by rw[show i=j by omega];exact BM _) (.inr (by omega))) h
theorem oQ{p:Array Nat}(j:kB n p){k:Nat}(o:k<n)(e:qC r p k){Q:Nat->Prop}(h:∀l,l<=k->(∀i,i<l->r (p.getD i 0)<=r (p.getD k 0))->(∀i,l<=i->i<k->r (p.getD k 0)<r (p.getD i 0))->Q l):∀(f a b:Nat),a<=b->b<=k->b -a<=f->(∀i,i<a->r (p.getD i 0)<=r (p.getD k 0))->(∀i,b<=i->i<k->r (p.getD k 0)<r (p.getD i 0))->xV n r (kas_place p k f a b) Q
 |0,a,b,u,t,s,d,g=>h a (by omega) d λi m a2=>g i (by omega) a2
 |f+1,a,b,u,t,s,d,g=>by
  unfold kas_place;by_cases q:a>=b
  .rw[Bz q];exact h a (by omega) d λi m a2=>g i (by omega) a2
  .rw[Bi q];refine⟨j.lt o,j.lt (by omega),?_⟩;dsimp only;by_cases c:r (p.getD k 0)<r (p.getD ((a+b)/2) 0)
   .rw[Bz (DL c)];exact oQ j o e h f a ((a+b)/2) (by omega) (by omega) (by omega) d λi m a2=>GM c (e _ _ m a2)
   .rw[Bi (by rw[FS];exact c)];exact oQ j o e h f ((a+b)/2+1) b (by omega) (by omega) (by omega) (λi m=>Hn (e i ((a+b)/2) (by omega) (by omega)) (by omega)) g
theorem GC{Q:Array Nat->Prop}(h:∀p,kB n p->qC r p n->Q p):∀(f:Nat)(p:Array Nat)(k:Nat),kB n p->qC r p k->k+f=n->xV n r (kas_bin f p k) Q
 |0,p,k,c,d,e=>h p c (by rw[<-e];exact d)
 |f+1,p,k,c,d,e=>by
  unfold kas_bin;refine eK _ (oQ c (by omega) d (λl s g o=>?_) k 0 k (by omega) (by omega) (by omega) (λi a=>by omega) λi a b=>by omega);refine GC h f _ (k+1) (c.T8 _ _) (λi j q t=>?_) (by omega);have hz:k<p.size:=by rw[c.sz];omega
  rw[z4 hz (by omega),z4 hz (by omega),show k -(k -l)=l by omega];obtain⟨x,m⟩:∃x,p.getD k 0=x:=⟨_,rfl⟩;simp only[m]at g o⊢;clear m
  repeat' split
  all_goals first
   |(exfalso;omega)
   |exact BM _
   |exact g _ (by omega)
   |exact X5 (o _ (by omega) (by omega))
   |exact d _ _ (by omega) (by omega)
theorem IP(e:1<=n):xV n r (kas_sort n) λp=>kB n p/\qC r p n:=by
 unfold kas_sort;refine eK _ (Dv (by unfold kB;exact U4 _) e λm p d a b up=>?_);dsimp only;by_cases c:m<n
 .rw[Bz c];exact GC (λp a b=>⟨a,b⟩) _ _ _ d (by rw[show max m 1=m by omega];exact up) (by omega)
 .rw[Bi c];exact⟨d,by rw[show n=m by omega];exact up⟩
end
end VL
namespace VL
open PySem PySem.W PySem.Calls PyProof.Rows
section
variable{prog:Program}{w:World}{A:Around}{E:Value->Shared->Prop}{s:Shared}{D kS:Addr}{vs:List Value}{κ:SortKind}{f:Value}{P:PySem.Fin->Shared->Prop}
noncomputable def tW(D kS:Addr)(h h':Heap):Prop:=∀b o,b≠D->b≠kS->h.get? b=some o->h'.get? b=some o
theorem tW.tr{h h' c:Heap}(a:tW D kS h h')(b:tW D kS h' c):tW D kS h c:=λx o g d e=>b x o g d (a x o g d e)
theorem tW.T9{h:Heap}(f:Obj->Obj):tW D kS h (h.update D f):=λb o a _ e=>by rw[UF _ _ _ _ a];exact e
theorem tW.Su{h:Heap}(f:Obj->Obj):tW D kS h (h.update kS f):=λb o _ a e=>by rw[UF _ _ _ _ a];exact e
noncomputable def IQ(vs b:List Value)(r:Nat->Nat)(D kS:Addr)(P:PySem.Fin->Shared->Prop)(s:Shared):Prop:=
 ∀(p:Array Nat)(a:Heap),kB vs.length p->qC r p vs.length->tW D kS s.heap a->(∃c,a.get? D=some (seqObj "list" (G1 (p.toList.map λi=>vs.getD i Value.none)) c))->P (.done (.ret .none)) {s with heap:=a}
theorem rj{b:List Value}{r:Nat->Nat}{e g:Nat}{st:SortSt}{p:Array Nat}(o:D≠kS)(x:s.heap.get? D=some (seqObj "list" #[] g))(l:s.heap.get? kS=some (seqObj "list" (G1 b) e))(q:b.length<64)(y:vs.length<64)
 (a:(arrOf st).map (·.2)=G1 (p.toList.map λi=>vs.getD i Value.none))(t:failedOf st=none)(m:kB vs.length p)(v:qC r p vs.length)(h:IQ vs b r D kS P s):wpAny (model prog w) A (ksk_tail D false g (.ref kS) st) P E s:=by
 obtain⟨n,u⟩:∃n,(s.heap.update kS (Obj.mapSeq λ_=>(#[]:Array Value))).get? kS=some (seqObj "list" #[] n):=⟨_,get?_update_seq l λ_=> #[]⟩;have k:(s.heap.update kS (Obj.mapSeq λ_=>(#[]:Array Value))).get? D=some (seqObj "list" #[] g):=by rw[UF _ _ _ _ o];exact x
 obtain⟨j,d⟩:∃j,((s.heap.update kS (Obj.mapSeq λ_=>(#[]:Array Value))).update D (Obj.mapSeq λ_=>G1 (p.toList.map λi=>vs.getD i Value.none))).get? D=some (seqObj "list" (G1 (p.toList.map λi=>vs.getD i Value.none)) j):=⟨_,get?_update_seq k λ_=>G1 (p.toList.map λi=>vs.getD i Value.none)⟩;have c:(G1 (p.toList.map λi=>vs.getD i Value.none)).size=vs.length:=by rw[Do,AN,HL,m.sz]
 unfold ksk_tail
 try dsimp only
 rw[a];refine Dx (listUpdate_at l rfl ?_ (by rw[Do,TC];omega) (KE _));refine Dx (wpAny_letGo ?_);refine Dx (seqEpoch_at k rfl ?_);simp only[WH,Ww];refine Dx (listUpdate_at k rfl ?_ (KE _) (Hn (W8 c) (by rw[TC];omega)));rw[t];simp only[bne_self_eq_false,WH,Ww];exact KB (h p _ m v ((tW.Su _).tr (tW.T9 _)) ⟨j,d⟩)
theorem Dw{g:List Value}{r:Nat->Nat}{e K:Nat}(B:D≠kS)(u:g.length=vs.length)(m:vs.length<64)(J:s.heap.get? D=some (seqObj "list" #[] K))(H:s.heap.get? kS=some (seqObj "list" (G1 g) e))
 (L:2<=vs.length->∀Q:SortKind->Shared->Prop,Q κ s->wpAny (model prog w) A (keyKind' (G1 g)) Q (λ_ _=>False) s)
 (R:∀i j (C:Bool->Shared->Prop),i<vs.length->j<vs.length->C (decide (r i<r j)) s->kas_ask prog w A κ g i j C s)(h:IQ vs g r D kS P s):
 wpAny (model prog w) A (ksk_end D false vs.toArray K (.ref kS) (G1 g)) P E s:=by
 unfold ksk_end
 try dsimp only
 simp only[WH,Ww];by_cases l:vs.toArray.size<2
 .rw[Bz l,Bz l];rw[Do]at l;refine Dx (KB ?_);rw[StateT.run_pure];refine Dx (KB ?_);refine rj (p:=G1 (Ea vs.length)) (r:=r) B J H (by omega) m ?_ rfl (U4 _) (λi j a b=>?_) h
  .show((G1 g).zip vs.toArray).map (·.2)=_
   match vs,g,u,l with
   |[],[],_,_=>simp
   |[v],[k],_,_=>simp
   |_::_::_,_,_,l=>rw[Eb,Eb]at l;omega
  .rw[show i=j by omega];exact BM _
 .rw[Bi l,Bi l];rw[Do]at l;refine Dx (RF (L (by omega) (λo q=>o=κ/\q=s) ⟨rfl,rfl⟩) (λo q t=>?_) λ_ _ x=>x.elim);obtain⟨rfl,rfl⟩:=t;refine Dx (RF (kat_run (G:=λp c=>c=q/\kB vs.length p/\qC r p vs.length) (Q:=λd c=>c=q/\∃p:Array Nat,arrOf d=p.map (kas_item ((G1 g).zip vs.toArray))/\failedOf d=none/\kB vs.length p/\qC r p vs.length)
   u (by omega) m (λp d c Y a2 a3 z=>⟨z.1,p,a2,a3,z.2.1,z.2.2⟩) (z3 (n:=vs.length) (r:=r) (I:=λc=>c=q) (λi j C c N M e T=>by rw[e];exact R i j C N M (T _ rfl)) (λp c t e=>⟨e,t.1,t.2⟩) _ _ (IP (by omega)) rfl)) ?_ λ_ _ x=>x)
  rintro⟨⟨⟩,d⟩ c ⟨rfl,p,y,O,U,S⟩;exact rj B J H (by omega) m (kat_snds u y) O U S h
structure z8(prog:Program)(w:World)(A:Around)(κ:SortKind)(f:Value)(vs:List Value)(D kS:Addr)(P:PySem.Fin->Shared->Prop)(S:List Value->Shared->Prop):Prop where
 but:∀ks s h',S ks s->tW D kS s.heap h'->S ks {s with heap:=h'}
 turn:∀i v ks (s:Shared) oK oD nK nD,vs[i]?=some v->ks.length=i->S ks s->s.heap.get? D=some (seqObj "list" oD nD)->s.heap.get? kS=some (seqObj "list" oK nK)->
  wpAny (model prog w) A (call f [v]) (λk s'=>S (ks++[k]) s'/\s'.heap.get? D=some (seqObj "list" oD nD)/\s'.heap.get? kS=some (seqObj "list" oK nK)) (λ_ _=>False) s
 fin:∀ks s,S ks s->ks.length=vs.length->∃r:Nat->Nat,(2<=vs.length->∀Q:SortKind->Shared->Prop,Q κ s->wpAny (model prog w) A (keyKind' (G1 ks)) Q (λ_ _=>False) s)/\
  (∀i j (C:Bool->Shared->Prop),i<vs.length->j<vs.length->C (decide (r i<r j)) s->kas_ask prog w A κ ks i j C s)/\IQ vs ks r D kS P s
theorem z9{S:List Value->Shared->Prop}{n:Nat}(T:z8 prog w A κ f vs D kS P S)(t:D≠kS)(m:vs.length<64)(C:s.heap.get? D=some (seqObj "list" #[] n))(z:s.heap.get? kS=some (seqObj "list" #[] 0))(y:S [] s):
 wpAny (model prog w) A (ksk_rest D f false vs.toArray n (.ref kS)) P E s:=by
 unfold ksk_rest;refine Dx (wpAny_rule ?_)
 first
  |rw[List.forIn_toArray]
  |(rw[<-U6];simp only[List.toList_toArray])
  |rw[<-U6]
 refine Dx (ksk_fold (λi b=>∃a c,a.length=i/\S a b/\b.heap.get? D=some (seqObj "list" #[] n)/\b.heap.get? kS=some (seqObj "list" (G1 a) c)) vs 0 s ⟨[],0,rfl,y,C,z⟩ (λi v b q h=>?_) λb h=>?_)
 .rw[Sy]at h⊢;obtain⟨a,c,g,d,p,j⟩:=h;have M:i<vs.length:=(Fh.mp q).1;refine Dx (wpAny_attempt (RF (T.turn i v a b _ _ _ _ q g d p j) (λk e x=>?_) λ_ _ B=>B.elim));obtain⟨L,K,u⟩:=x;have J:(G1 a).push k=G1 (a++[k]):=by simp
  obtain⟨o,l⟩:∃o,(e.heap.update kS (Obj.mapSeq (·.push k))).get? kS=some (seqObj "list" (G1 (a++[k])) o):=⟨_,by rw[<-J];exact get?_update_seq u (·.push k)⟩
  try dsimp only
  refine Dx (listUpdate_at u rfl ?_ (by rw[Do,TC];omega) (Hn (W8 (Array.size_push ..)) (by rw[Do,TC];omega)));exact KB ⟨rfl,a++[k],o,by rw[Fm,F2,g],T.but _ _ _ L (tW.Su _),by show(e.heap.update kS _).get? D=_;rw[UF _ _ _ _ t];exact K,l⟩
 .rw[Sy]at h;obtain⟨a,c,g,d,p,j⟩:=h
  try dsimp only
  refine Dx (listItems_at j rfl ?_);obtain⟨r,I,H,G⟩:=T.fin a b d g;exact Dw t g m p j I H G
theorem Aa{n:Nat}{S:List Value->Shared->Prop}(a:s.heap.get? D=some (seqObj "list" vs.toArray n))(c:vs.length<64)(T:z8 prog w A κ f vs D (s.heap.objs.size+1) P S)(k:∀h',tW D (s.heap.objs.size+1) s.heap h'->S [] {s with heap:=h'}):
 wpAny (model prog w) A (ksk_tree D f false) P E s:=by
 have j:D<s.heap.objs.size:=FM a;obtain⟨g,i⟩:∃g,(s.heap.update D (Obj.mapSeq λ_=>(#[]:Array Value))).get? D=some (seqObj "list" #[] g):=⟨_,get?_update_seq a λ_=> #[]⟩;have h:((s.heap.update D (Obj.mapSeq λ_=>(#[]:Array Value))).push (seqObj "tuple" vs.toArray 0)).objs.size=s.heap.objs.size+1:=by rw[size_push',Heap.size_update]
 unfold ksk_tree;refine Dx (listItems_at a rfl ?_);refine Dx (listUpdate_at a rfl ?_ (by rw[Do,TC];omega) (KE _));refine Dx (seqEpoch_at i rfl ?_);refine Dx (wpAny_newTuple ?_ (by show vs.length<=_;rw[TC];omega));refine Dx (wpAny_newList ?_ (KE _));refine Wo ?_;have d:=Fn ((s.heap.update D (Obj.mapSeq λ_=>(#[]:Array Value))).push (seqObj "tuple" vs.toArray 0)) (o:=seqObj "list" #[] 0) rfl;rw[h]at d;have:=z9 (s:={s with heap:=((s.heap.update D (Obj.mapSeq λ_=>(#[]:Array Value))).push (seqObj "tuple" vs.toArray 0)).push (seqObj "list" #[] 0)}) (E:=E) T (Ha (Sr j)) c (D1 _ (D1 _ i)) d (k _ λb o l m e=>D1 _ (D1 _ (by rw[UF _ _ _ _ l];exact e)));rw[<-h]at this;exact this
theorem tX{l:Addr}{d:List (Str×Value)}{Q:Value->Shared->Prop}{S:List Value->Shared->Prop}(u:s.heap.IsList l vs.toArray)(n:vs.length<64)
 (k:argsOk "sorted" ⟨[.ref l],d⟩)(j:∀x,argsOk "list.sort" ⟨[.ref x],d⟩)(t:∀x,Builtin.«list.sort» ⟨[.ref x],d⟩=ksk_tree x f false)
 (T:z8 prog w A.in1.in1 κ f vs (s.heap.objs.size+1) (s.heap.objs.size+3) (λr s'=>r=.done (.ret .none)/\Q (.ref (s.heap.objs.size+1)) s') S)(y:∀h',(∀b o,s.heap.get? b=some o->h'.get? b=some o)->S [] {s with heap:=h'}):
 wpAny (model prog w) A (call (.builtin "sorted") [.ref l] d) Q E s:=by
 refine call_function_entry_kw kind_sorted plain_sorted entry_sorted k ?_;unfold Builtin.«sorted»;refine Dx (m:=checkCount "sorted" 1 1 _) (KB ?_);refine Dx (collect_list u ?_ (by rw[TC];omega));refine Dx (wpAny_newList ?_ (by rw[TC];omega));have a:((s.heap.push (seqObj "list" #[] 0)).update s.heap.objs.size (Obj.mapSeq (·++vs.toArray))).objs.size=s.heap.objs.size+1:=by rw[Heap.size_update,size_push']
 have p:(((s.heap.push (seqObj "list" #[] 0)).update s.heap.objs.size (Obj.mapSeq (·++vs.toArray))).push (seqObj "list" vs.toArray 0)).get? (s.heap.objs.size+1)=some (seqObj "list" vs.toArray 0):=by rw[<-a];exact Fn _ rfl
 have g:∀b o,s.heap.get? b=some o->(((s.heap.push (seqObj "list" #[] 0)).update s.heap.objs.size (Obj.mapSeq (·++vs.toArray))).push (seqObj "list" vs.toArray 0)).get? b=some o:=λb o q=>by have c:b<s.heap.objs.size:=FM q;rw[Heap.get?_push_ne _ _ _ (by rw[a];exact Ha (Sr c)),UF _ _ _ _ (Ha c),Heap.get?_push_ne _ _ _ (Ha c)];exact q
 show wpAny _ _ _ _ _ {s with heap:=((s.heap.push (seqObj "list" #[] 0)).update s.heap.objs.size (Obj.mapSeq (·++vs.toArray))).push (seqObj "list" vs.toArray 0)};rw[a];refine Dx (Wo (wpAny_call_entry_kw slot_list_sort ⟨_,p,rfl⟩ entry_list_sort ?body (j _)))
 case body=>
  have h:=t (s.heap.objs.size+1);show wpAny (model prog w) A.in1.in1 (Builtin.«list.sort» ⟨[.ref (s.heap.objs.size+1)],d⟩) _ _ _;rw[h];have hz:(((s.heap.push (seqObj "list" #[] 0)).update s.heap.objs.size (Obj.mapSeq (·++vs.toArray))).push (seqObj "list" vs.toArray 0)).objs.size+1=s.heap.objs.size+3:=by rw[size_push',a]
  refine RF (Aa (s:={s with heap:=((s.heap.push (seqObj "list" #[] 0)).update s.heap.objs.size (Obj.mapSeq (·++vs.toArray))).push (seqObj "list" vs.toArray 0)}) (E:=λ_ _=>False) p n (by rw[hz];exact T) λh' v=>?_) (λr s' i=>?_) λ_ _ x=>x.elim
  .refine y h' λb o e=>v b o (Ha (Sr (FM e))) ?_ (g b o e);rw[hz];exact Ha (GM (FM e) (by omega))
  .obtain⟨rfl,i⟩:=i;exact⟨_,rfl,KB ⟨_,rfl,i⟩⟩
end
end VL
namespace VL
open PySem PySem.Spec PySem.Calls
open PyProof.Rows hiding St
open L2
section
variable{X:Cx}{pins:List (Addr×Obj)}{σ:St}{H:Hp}{s:Shared}
theorem _root_.L2.dw.at{H':Hp}{b:Addr}(f:dw X pins H b)(h:H' b=none):dw X pins H' b:=⟨h,f.2⟩
theorem _root_.L2.Inv.vF{D g:Addr}{h':Heap}(I:Inv X pins σ H s)(k:tW D g s.heap h')(f:dw X pins H D)(d:dw X pins H g):Inv X pins σ H {s with heap:=h'}:=by
 have h:∀b u,H b=some u->b≠D/\b≠g:=λb u e=>⟨λz=>(by rw[z,f.1]at e;cases e),λz=>(by rw[z,d.1]at e;cases e)⟩;have i:∀b o,b∉[D,g]->s.heap.get? b=some o->h'.get? b=some o:=λb o a e=>k b o (λz=>a (by simp[z])) (λz=>a (by simp[z])) e;refine I.step (g':=s.gens) (d':=s.drawn) (t':=s.toks) (ch:=[D,g]) (λb j=>?_) (λb o _ _ a e _=>i b o a e) (λb o _ _ a e _=>⟨o.slots,i b o a e⟩) (λ_ _ _ _ n=>n)
  (λb o a e=>⟨o,i b o a e⟩) (λ_ _ e=>e) (λ_ _ _ e=>e) (λb x e=>⟨#[],by rw[e];simp⟩) (λm p=>?_) (λb u e=>?_) I.bare
 .rcases GE.mp j with rfl|j
  .exact⟨f.2.2.2.1,f.2.1,f.2.2.2.2.1,f.2.2.2.2.2⟩
  .rw[Ee.mp j];exact⟨d.2.2.2.1,d.2.1,d.2.2.2.2.1,d.2.2.2.2.2⟩
 .obtain⟨o,t,w,l,r⟩:=p;exact⟨o,t,w,k _ o (NM f.2.1) (NM d.2.1) l,r⟩
 .refine(I.hok b u e).stay (λc v a q=>k c v ?_ ?_ q) (λ_ q=>q) λ_ _ q=>q
  .rcases a with z|z
   .rw[z];exact(h b u e).1
   .exact(h c _ z).1
  .rcases a with z|z
   .rw[z];exact(h b u e).2
   .exact(h c _ z).2
theorem _root_.L2.Inv.Nf{D:Addr}{o:HO}(I:Inv X pins σ H s)(f:dw X pins H D)(d:bF X.prog X.w (upd H D o) s.heap D o):Inv X pins σ (upd H D o) s:=by
 have a:∀b u,H b=some u->b≠D:=λb u e z=>by rw[z,f.1]at e;cases e
 refine⟨I.ok,I.os,I.bare,⟨I.base.keep,I.base.slot,λb u e n h=>?_,I.base.there,λb g e=>?_,λb k u e=>?_,λb j e=>?_⟩,I.loc,I.cell,?_,λx c e=>?_,λp i=>?_,λb u e=>?_,I.len⟩
 .rw[ay]
  .exact I.base.free b u e n h
  .intro z;subst z;rcases f.2.2.2.1 with z|z
   .exact h z
   .exact absurd (GM (FM e) z) (Mo _)
 .have:=I.base.tups b g e;rw[ay (a _ _ this)];exact this
 .have:=I.base.iu b k u e;rw[ay (a _ _ this)];exact this
 .obtain⟨m,this⟩:=I.base.i9 b j e;exact⟨m,by rw[ay (a _ _ this)];exact this⟩
 .rw[ay (NM f.2.1)];exact I.free
 .rw[ay (f.2.2.2.2.1 x c e)];exact I.fY x c e
 .obtain⟨l,a2,a3⟩:=I.pin p i;exact⟨l,by rw[ay (f.2.2.2.2.2 p i)];exact a2,a3⟩
 .by_cases z:b=D
  .subst z;rw[aQ]at e;cases e;exact d
  .rw[ay z]at e;refine(I.hok b u e).stay (λc v r q=>q) (λc q=>?_) λc g q=>?_
   .rw[ay (a _ _ q)];exact q
   .rw[ay (a _ _ q)];exact q
theorem _root_.L2.Vals.perm{a:List V}{vs:List Value}(r:Vals a vs):∀p:List Nat,Vals (p.map λi=>a.getD i .aJ) (p.map λi=>vs.getD i Value.none)
 |[]=>.nil
 |i::p=>by
  refine .cons ?_ (L2.Vals.perm r p);show RelV (a.getD i .aJ) (vs.getD i Value.none);by_cases b:i<a.length
  .obtain⟨u,e,h⟩:=r.get (B1 b);rw[show a.getD i .aJ=a[i] by simp[AC,b],show vs.getD i Value.none=u by rw[AC,e];rfl];exact h
  .have c:¬i<vs.length:=by rw[<-r.length];exact b
   rw[show a.getD i .aJ=.aJ by simp[AC,WQ b],show vs.getD i Value.none=Value.none by simp[AC,WQ c]];rfl
theorem Dy{l:Addr}{G:List V}{vs:List Value}{f:Value}{z:List (Str×Value)}{κ:SortKind}{KP:List Value->Hp->Prop}{Q:VK}{E:Value->Shared->Prop}(I:Inv X pins σ H s)(hl:s.heap.IsList l vs.toArray)(rv:Vals G vs)(N:vs.length<64)
 (M:argsOk "sorted" ⟨[.ref l],z⟩)(L:∀x,argsOk "list.sort" ⟨[.ref x],z⟩)(ht:∀x,Builtin.«list.sort» ⟨[.ref x],z⟩=ksk_tree x f false)(k0:KP [] H)
 (q:∀i v g a d y,vs[i]?=some v->g.length=i->Inv X y σ a d->KP g a->wpAny (model X.prog X.w) X.A.in1.in1 (call f [v]) (λk s'=>∃H',Inv X y σ H' s'/\KP (g++[k]) H') (λ_ _=>False) d)
 (O:∀g a,KP g a->g.length=vs.length->∃r:Nat->Nat,(∀y d,Inv X y σ a d->(2<=vs.length->∀Q:SortKind->Shared->Prop,Q κ d->wpAny (model X.prog X.w) X.A.in1.in1 (keyKind' (G1 g)) Q (λ_ _=>False) d)/\
   ∀i j (C:Bool->Shared->Prop),i<vs.length->j<vs.length->C (decide (r i<r j)) d->PySem.W.kas_ask X.prog X.w X.A.in1.in1 κ g i j C d)/\
   ∀(p:Array Nat) D,kB vs.length p->qC r p vs.length->a D=none->Q (.ref D) (upd a D (.lst (p.toList.map λi=>G.getD i .aJ)))):
 wpAny (model X.prog X.w) X.A (call (.builtin "sorted") [.ref l] z) (EP X pins σ Q) E s:=by
 have Uc:dw X pins H (s.heap.objs.size+1):=I.mK (by omega) (I.hok.fresh (by omega));have Ud:dw X pins H (s.heap.objs.size+3):=I.mK (by omega) (I.hok.fresh (by omega));refine tX (κ:=κ) (S:=λg d=>∃a,Inv X pins σ a d/\dw X pins a (s.heap.objs.size+1)/\dw X pins a (s.heap.objs.size+3)/\KP g a) hl N M L ht ⟨?_,?_,?_⟩ λh' u=>⟨H,I.kept (t':=s.toks) u,Uc,Ud,k0⟩
 .rintro g d h' ⟨a,I1,h,m,t⟩ b;exact⟨a,I1.vF b h m,h,m,t⟩
 .rintro i v g d T U Y Z hv hi ⟨a,I1,h,m,t⟩ hD hK;have P:Inv X ((s.heap.objs.size+1,seqObj "list" U Z)::(s.heap.objs.size+3,seqObj "list" T Y)::pins) σ a d:=I1.jV λp n=>by
   rcases GE.mp n with rfl|n
   .exact⟨hD,h.1,h.2.1,h.2.2.1,λv e=>nomatch e⟩
   .rcases GE.mp n with rfl|n
    .exact⟨hK,m.1,m.2.1,m.2.2.1,λv e=>nomatch e⟩
    .exact I1.pin p (Fk _ n)
  refine RF (q i v g a d _ hv hi P t) (λk s' ⟨H',B,Ue⟩=>?_) λ_ _ x=>x;have pD:=B.pin (s.heap.objs.size+1,seqObj "list" U Z) (Fk _ (.head _));have R:=B.pin (s.heap.objs.size+3,seqObj "list" T Y) (Fk _ (.tail _ (.head _)));exact⟨⟨H',B.jV λp n=>B.pin p (Fk _ (.tail _ (.tail _ n))),dw.at h pD.2.1,dw.at m R.2.1,Ue⟩,pD.1,R.1⟩
 .rintro g d ⟨a,I1,h,m,t⟩ J;obtain⟨r,h1,h2⟩:=O g a t J;refine⟨r,(h1 pins d I1).1,(h1 pins d I1).2,λp h' hB hU b K=>⟨rfl,?_⟩⟩;obtain⟨c,K⟩:=K;have P:=I1.vF b h m;refine⟨.ref _,_,P.Nf (o:=.lst (p.toList.map λi=>G.getD i .aJ)) h ⟨?_,_,c,rv.perm _,K⟩,rfl,h2 p _ hB hU h.1⟩;rw[AN,HL,hB.sz,TC];omega
end
end VL
namespace HT
open PySem PySem.Spec PyProof.Rows
section
open PySem.SeqAt
open PySem.AutoSeq1 (wpAny_loadPart')
open PySem.MeetsSeq PySem.MeetsSeq2 PySem.MeetsSeq3
theorem oR(l b:Addr)(items f:Array Value)(n P:Nat)(dd L:Option Addr)(O G:Array (Option Value))(k:Nat):
 ∀(i:Nat)(ns x:List Int),items.size -i=k->i<=items.size->i<=f.size->IntsAre (items.toList.drop i) ns->IntsAre (f.toList.drop i) x->Meets (Builtin.«list.__eq__.loop» ⟨[.ref l,.ref b,rawInt i,rawInt 0],[]⟩)
  (λA R s=>s.heap.get? l=some {cls:=.type "list",dict:=dd,data:=.seq items n,slots:=O}/\s.heap.get? b=some {cls:=.type "list",dict:=L,data:=.seq f P,slots:=G}/\
    R (.ok (.ret (.bool (lexLt ns x)))) s):=by
 induction k with
 |zero=>
  intro i ns x U T S C z j w A R s h;obtain⟨I,g,d,E,H⟩:=s;obtain⟨y,B,h⟩:=h
  wp_walk using Ki y,Ki B
  have o:items[((i:Nat):Int).toNat]?=none:=by simp;omega
  have ed:items.toList.drop i=[]:=by simp;omega
  rw[ed]at C;cases C;rw[o];have e:lexLt [] x=decide (items.size<f.size):=by
   have hz:=z.length;rw[R6,HL]at hz;cases x with
   |nil=>rw[LR]at hz;rw[mO];exact(Jn (by omega)).symm
   |cons m x=>rw[Eb]at hz;rw[ku];exact(DL (by omega)).symm
  rw[e]at h
  wp_walk using Ki y,Ki B
  exact h
 |succ k Q=>
  intro i ns x U T S C z j w A R s h;obtain⟨I,g,d,E,H⟩:=s;obtain⟨y,B,h⟩:=h
  wp_walk using Ki y,Ki B
  have D:i<items.size:=by omega
  have o:items[((i:Nat):Int).toNat]?=some items[i]:=by simp[D]
  have d1:items.toList.drop i=items[i]::items.toList.drop (i+1):=by simp[PP,D]
  rw[d1]at C;generalize items[i]=v at C o;cases C with
  |cons a t K=>
  by_cases N:i<f.size
  .have p:f[((i:Nat):Int).toNat]?=some f[i]:=by simp[N]
   have M:f.toList.drop i=f[i]::f.toList.drop (i+1):=by simp[PP,N]
   rw[M]at z;generalize f[i]=v2 at z p;cases z with
   |cons c u J=>
   have Z:((i:Int)+1)=((i+1:Nat):Int):=by push_cast;rfl
   rw[gK]at h;rw[o,p];obtain⟨e,Y,r⟩:=zM A.in1 ⟨I,g,d,E,H⟩ a t c u;refine Dx (Y j w _ _ ?_);cases e with
   |true=>
    rw[Bz (r.mp rfl)]at h
    wp_walk
    rw[Z];exact⟨plainId_quiet plain_eq_loop _,codeAny_builtin entry_eq_loop (by rw[Around.under_plainId plain_eq_loop _];exact Q (i+1) _ _ (by omega) (by omega) (by omega) K J j w A R _ ⟨y,B,h⟩)⟩
   |false=>
    rw[Bi (λq=>absurd (r.mpr q) Hm)]at h;have QY:=qS A.in1 ⟨I,g,d,E,H⟩ a t c u j w
    wp_walk using Ki y,Ki B
    rw[o,p]
    wp_walk using QY
    exact h
  .have p:f[((i:Nat):Int).toNat]?=none:=by simp;omega
   have M:f.toList.drop i=[]:=by simp;omega
   rw[M]at z;cases z;rw[kC]at h;rw[o,p]
   wp_walk using Ki y,Ki B
   have e:decide (items.size<f.size)=false:=Jn (by omega);show R (.ok (.ret (.bool (decide (items.size<f.size))))) _;rw[e];exact h
theorem oS(l b:Addr)(items a:Array Value)(n k:Nat)(dd f:Option Addr)(j c:Array (Option Value))(ns i:List Int)(q:IntsAre items.toList ns)(p:IntsAre a.toList i):
 Meets (Builtin.«list.__lt__» ⟨[.ref l,.ref b],[]⟩)
  (λ_ R s=>s.heap.get? l=some {cls:=.type "list",dict:=dd,data:=.seq items n,slots:=j}/\s.heap.get? b=some {cls:=.type "list",dict:=f,data:=.seq a k,slots:=c}/\
    R (.ok (.ret (.bool (lexLt ns i)))) s):=by
 intro e w A R s h;obtain⟨u,g,d,r,t⟩:=s;obtain⟨m,o,h⟩:=h;have v:=AutoSeq1.sub_list_list
 wp_walk using Ki m,Ki o
 exact⟨plainId_quiet plain_eq_loop _,codeAny_builtin entry_eq_loop (by rw[Around.under_plainId plain_eq_loop _];exact oR l b items a n k dd f j c _ 0 ns i rfl (KE _) (KE _) q p e w A R _ ⟨m,o,h⟩)⟩
end
section
variable{prog:Program}{w:World}{A:Around}{E:Value->Shared->Prop}{s:Shared}
theorem kK{l b:Addr}{items a:Array Value}{ns c:List Int}{Q:Value->Shared->Prop}(u:s.heap.IsList l items)(z:s.heap.IsList b a)(y:IntsAre items.toList ns)(v:IntsAre a.toList c)
 (t:A.units<cLine)(h:Q (.bool (lexLt ns c)) s):wpAny (model prog w) A (compareOp .Lt (.ref l) (.ref b)) Q E s:=by
 obtain⟨⟨B,dd,p,q⟩,k,o,n,m⟩:=id u;obtain⟨⟨C,i,j,g⟩,d,f,r,e⟩:=id z;simp only at o m f e;subst o m f e;exact richCompare_meets_room (op:=.Lt) ⟨_,k,rfl⟩ ⟨_,d,rfl⟩ PySem.F.slot_list_lt PySem.F.entry_list_lt (PySem.F.args_list_lt_2 _ _) (oS l b items a n r dd i q g ns c y v)
  ⟨k,d,show Value.bool (lexLt ns c)≠Value.notImplemented/\Q (.bool (lexLt ns c)) s from⟨(λx=>nomatch x),h⟩⟩ t
end
end HT
namespace VL
open PySem PySem.Spec PySem.Calls PyProof.Rows
theorem ints_get:∀{vs:List Value}{ns:List Int},IntsAre vs ns->∀(j:Nat)(h:j<vs.length),∃t,vs[j]=.int (ns.getD j 0) t
 |_,_,.cons n t _,0,_=>⟨t,rfl⟩
 |_,_,.cons n t r,j+1,h=>by obtain⟨u,e⟩:=ints_get r j (by simpa using h);exact⟨u,by simpa using e⟩
theorem all_eq:∀(ns a:List Int),ns.length=a.length->(Ea ns.length).all (λj=>ns.getD j 0==a.getD j 0)=decide (ns=a)
 |[],[],_=>rfl
 |n::ns,m::a,h=>by
  have ih:=all_eq ns a (by simpa using h);rw[Eb,WI,Gg,List.all_map];have:((λj=>(n::ns).getD j 0==(m::a).getD j 0)∘Xg)=λj=>ns.getD j 0==a.getD j 0:=by funext j;rfl
  rw[this,ih];show((n==m)&&decide (ns=a))=_;by_cases e:n=m<;>by_cases b:ns=a<;>simp[e,b]
 |[],_::_,h=>by simp at h
 |_::_,[],h=>by simp at h
theorem rC:∀{vs:List Value}{ns a:List Int},IntsAre vs ns->IntsAre vs a->ns=a
 |_,_,_,.nil,.nil=>rfl
 |_,_,_,.cons n t r,.cons _ _ b=>by rw[rC r b]
section
variable{A:Around}{s:Shared}
theorem rD{l b:Addr}{items a:Array Value}{ns c:List Int}(g:s.heap.IsList l items)(k:s.heap.IsList b a)(i:IntsAre items.toList ns)(h:IntsAre a.toList c)(p:A.units<cLine):
 SeqAt.EqAt A s (.ref l) (.ref b) (decide (ns=c)):=by
 have m:items.size=ns.length:=by rw[<-i.length];simp
 have w:a.size=c.length:=by rw[<-h.length];simp
 by_cases e:l=b
 .subst e;obtain⟨o,x,_,n,y⟩:=g;obtain⟨C,d,_,D,f⟩:=k;rw[x]at d;cases d;rw[y]at f;cases f;rw[DL (rC i h)];exact SeqAt.EqAt.same _
 .refine SeqAt.EqAt.of_refs e ?_;by_cases hz:items.size=a.size
  .have:=SeqAt.RcAt.lists (e:=λj=>ns.getD j 0==c.getD j 0) g k hz p λj v r=>by obtain⟨t,B⟩:=ints_get i j (by simpa using v);obtain⟨u,z⟩:=ints_get h j (by simpa using r);rw[show items[j]=items.toList[j]'(by simpa using v) by simp,show a[j]=a.toList[j]'(by simpa using r) by simp,B,z];exact Wy _ _ _ _
   rw[m,all_eq ns c (by omega)]at this;exact this
  .rw[Jn (λq=>hz (by rw[m,w,q]))];exact SeqAt.RcAt.lists_lengths g k (by simpa using hz) p
end
theorem kL:∀a:List Int,HT.lexLt a a=false
 |[]=>rfl
 |x::b=>by rw[HT.gK,Bz rfl];exact kL b
end VL
namespace HT
open PySem PySem.Spec PyProof.Rows
noncomputable def QZ(A:Around)(s:Shared)(x y:Value)(c:Bool):Prop:=∀(a:Program)(w:World)(E:Value->Shared->Prop)(Q:Value->Shared->Prop),Q (.bool c) s->wpAny (model a w) A (richCompare .Lt x y) Q E s
inductive oU(A:Around)(s:Shared):List Value->List Value->Bool->Prop where
 |nn:oU A s [] [] false
 |nc {y ys}:oU A s [] (y::ys) true
 |cn {x xs}:oU A s (x::xs) [] false
 |eq {x y xs ys c} (h:SeqAt.EqAt A s x y true) (r:oU A s xs ys c):oU A s (x::xs) (y::ys) c
 |ne {x y xs ys c} (h:SeqAt.EqAt A s x y false) (r:QZ A s x y c):oU A s (x::xs) (y::ys) c
section
open PySem.SeqAt
open PySem.AutoSeq1 (wpAny_loadPart')
open PySem.MeetsSeq PySem.MeetsSeq2 PySem.MeetsSeq3
theorem rE(l b:Addr)(items a:Array Value)(n D:Nat)(dd u:Option Addr)(C q:Array (Option Value))(c:Bool):
 Meets (Builtin.«tuple.__lt__» ⟨[.ref l,.ref b],[]⟩)
  (λA R s=>s.heap.get? l=some {cls:=.type "tuple",dict:=dd,data:=.seq items n,slots:=C}/\s.heap.get? b=some {cls:=.type "tuple",dict:=u,data:=.seq a D,slots:=q}/\
    oU A.in1 s items.toList a.toList c/\R (.ok (.ret (.bool c))) s):=
 .of_wp λf w A R s h=>by
  obtain⟨B,g,d,v,z⟩:=s;obtain⟨G,H,o,h⟩:=h;have L:=AutoSeq1.sub_tuple_tuple;have K:items.size=items.toList.length:=by simp
  have J:a.size=a.toList.length:=by simp
  wp_walk using Ki G,Ki H,wpAny_forIn_list _ (λrest b t=>b.1=none/\t=⟨B,g,d,v,z⟩/\∃(m k:List Value),rest=m.zip k/\
   oU A.in1 ⟨B,g,d,v,z⟩ m k c/\m.length+a.size=k.length+items.size) _
  case turn=>
   rintro⟨y,x⟩ rest b t ⟨j,rfl,m,k,hz,i,e⟩;cases i with
   |nn=>cases hz
   |nc=>cases hz
   |cn=>cases hz
   |eq p r=>
    rw[LS]at hz;injection hz with hyx hrest;injection hyx with hy o;subst hy o;simp only[Eb]at e;refine Dx (p f w _ _ ?_)
    wp_walk
    exact⟨rfl,rfl,_,_,hrest,r,by omega⟩
   |ne p r=>
    rw[LS]at hz;injection hz with hyx hrest;injection hyx with hy o;subst hy o;refine Dx (p f w _ _ ?_);have I:=r f w
    wp_walk using I
    exact⟨_,rfl,by simpa using h⟩
  case fin=>
   rintro⟨N,M⟩ t ⟨j,rfl,m,k,hz,i,e⟩;simp only at j;subst j;have E:c=decide (items.size<a.size):=by
    cases i with
    |nn=>simp only[LR]at e;exact(Jn (by omega)).symm
    |nc=>simp only[LR,Eb]at e;exact(DL (by omega)).symm
    |cn=>simp only[LR,Eb]at e;exact(Jn (by omega)).symm
    |eq p r=>rw[LS]at hz;cases hz
    |ne p r=>rw[LS]at hz;cases hz
   rw[E]at h
   wp_walk
   exact⟨_,rfl,by simpa[Builtin.Tuple.tupleCompareSizes]using h⟩
  case h=>exact⟨rfl,rfl,items.toList,a.toList,rfl,o,by omega⟩
end
section
variable{prog:Program}{w:World}{A:Around}{E:Value->Shared->Prop}{s:Shared}
theorem Ab{l b:Addr}{items a:Array Value}{c:Bool}{Q:Value->Shared->Prop}(v:IsTup s.heap l items)(y:IsTup s.heap b a)(t:oU A.in1 s items.toList a.toList c)
 (u:A.units<cLine)(h:Q (.bool c) s):wpAny (model prog w) A (compareOp .Lt (.ref l) (.ref b)) Q E s:=by
 obtain⟨⟨z,dd,p,q⟩,k,o,n,m⟩:=id v;obtain⟨⟨B,i,j,g⟩,d,f,r,e⟩:=id y;simp only at o m f e;subst o m f e;exact richCompare_meets_room (op:=.Lt) ⟨_,k,rfl⟩ ⟨_,d,rfl⟩ PySem.F.slot_tuple_lt PySem.F.entry_tuple_lt (PySem.F.args_tuple_lt_2 _ _) (rE l b items a n r dd i q g c)
  ⟨k,d,t,show Value.bool c≠Value.notImplemented/\Q (.bool c) s from⟨(λx=>nomatch x),h⟩⟩ u
end
end HT
namespace VL
open PySem PySem.Spec PySem.Calls PyProof.Rows
noncomputable def iE(h:Heap)(k:Value)(x:Int×List Int×Int):Prop:=
 ∃a o n t u q items,k=.ref a/\h.get? a=some o/\o.cls=.type "tuple"/\o.data=.seq #[.int x.1 t,.ref q,.int x.2.2 u] n/\h.IsList q items/\IntsAre items.toList x.2.1
noncomputable def fq(x y:Int×List Int×Int):Bool:=if x.1=y.1 then(if x.2.1=y.2.1 then decide (x.2.2<y.2.2)else HT.lexLt x.2.1 y.2.1)else decide (x.1<y.1)
section
variable{prog:Program}{w:World}{A:Around}{E:Value->Shared->Prop}{s:Shared}
open PySem.W
theorem IT{k f:Value}{x y:Int×List Int×Int}{Q:Bool->Shared->Prop}(m:iE s.heap k x)(l:iE s.heap f y)(j:A.units<cLine)(h:Q (fq x y) s):wpAny (model prog w) A (keyLt' (tuples' true) k f) Q E s:=by
 obtain⟨a,o,n,t,u,q,items,rfl,r,K,z,d,i⟩:=m;obtain⟨L,G,H,C,B,D,b,rfl,p,J,v,c,g⟩:=l;unfold fq at h;refine kat_lt r z p v (kat_cons (wpAny_eqBool_int (kat_go (λe=>kat_yes ?_) λe=>kat_no ?_)))
 .rw[Bz (by simpa using e)]at h;refine kat_cons (rD d c i g j prog w _ _ (kat_go (λe=>kat_yes ?_) λe=>kat_no ?_))
  .rw[Bz (by simpa using e)]at h;refine kat_cons (wpAny_eqBool_int (kat_go (λe=>kat_yes (kat_nil ?_)) λe=>kat_no ?_))
   .rw[Jn (by have I:x.2.2=y.2.2:=(by simpa using e);omega)]at h;exact h
   .exact kat_one _ _ (Rn h)
  .rw[Bi (by simpa using e)]at h;exact kat_one _ _ (HT.kK d c i g j h)
 .rw[Bi (by simpa using e)]at h;exact oneLt_int h
theorem rF{h:Heap}:∀{d:List Value}{f:List (Int×List Int×Int)},Paired (iE h) d f->∃c,KatTups h d c/\c.length=d.length/\∀v∈c,∃i t,v=Value.int i t
 |_,_,.nil=>⟨[],trivial,rfl,λ_ z=>by cases z⟩
 |_,_,.cons (b:=x) g r=>by
  obtain⟨c,l,k,j⟩:=rF r;obtain⟨a,o,n,t,u,q,items,rfl,m,y,p,_⟩:=g;refine⟨.int x.1 t::c,KatTups.cons m y p rfl l,by rw[Eb,k,Eb],λv e=>?_⟩;rcases GE.mp e with rfl|e
  .exact⟨_,_,rfl⟩
  .exact j v e
theorem Ac{a:List Value}{b:List (Int×List Int×Int)}{Q:SortKind->Shared->Prop}(p:Paired (iE s.heap) a b)(g:0<a.length)(h:Q (tuples' true) s):wpAny (model prog w) A (keyKind' a.toArray) Q E s:=by obtain⟨j,e,f,d⟩:=rF p;refine kat_kind (T:=.type "int") e (by omega) (λv c=>?_) (by decide) h;obtain⟨i,t,rfl⟩:=d v c;exact Looks.now
theorem Dz{a:List Value}{b:List (Int×List Int×Int)}{C:Bool->Shared->Prop}{i j:Nat}(p:Paired (iE s.heap) a b)(c:i<a.length)(k:j<a.length)(g:A.units<cLine)
 (h:C (fq (b.getD i (0,[],0)) (b.getD j (0,[],0))) s):kas_ask prog w A (tuples' true) a i j C s:=by
 have d:∀{a:List Value}{b:List (Int×List Int×Int)},Paired (iE s.heap) a b->∀i,i<a.length->iE s.heap (a.getD i Value.none) (b.getD i (0,[],0)):=by
  intro a b p
  induction p with
  |nil=>intro i c;cases c
  |cons f r e=>
   intro i c;cases i with
   |zero=>exact f
   |succ i=>exact e i (by simpa using c)
 exact IT (d p i c) (d p j k) g h
end
end VL
namespace L2
open PySem PySem.Spec PyProof.Rows
theorem bits_le{x:Int}{n:Nat}(h:x.natAbs<2^n):Builtin.Int.intBits x<=n:=by
 unfold Builtin.Int.intBits;split
 .exact KE _
 .rename_i hx
  have a:x.natAbs≠0:=λe=>hx (by simp[Int.natAbs_eq_zero.mp e]);have:=(Xa a).mpr h;omega
theorem tY{i j:Int}(h:Builtin.Int.intBits i+Builtin.Int.intBits j<=134217728):IntMulOk i j:=by
 unfold IntMulOk Builtin.Int.intTooBig;have a:¬((Builtin.Int.intBits i:Int)+(Builtin.Int.intBits j:Int)>((bitsLine:Nat):Int)):=by rw[bitsLine_eq];omega
 intro z;rw[Ap]at z;exact a (Bn z.2)
section
variable{X:Cx}
theorem DA:gD X (binaryOp .Mult) (rI IntMulOk λi j=>.int (i*j)):=MR λ_ _ _ _ _ _ _ a q=>mul_int q a
noncomputable def Ad(_ j:Int):Prop:=j≠0/\j.natAbs.log2<1000000000
theorem Ae:gD X (binaryOp .FloorDiv) (rI Ad λi j=>.int (i.fdiv j)):=λa s e H x y v u Q I c b h=>by obtain⟨i,j,rfl,rfl,d,q⟩:=h;obtain⟨t,rfl⟩:=c;obtain⟨f,rfl⟩:=b;exact floordiv_int d.1 ⟨.int (i.fdiv j),H,I.tok _,⟨_,rfl⟩,q⟩ (.inr (I.ok.Py X.A s rfl rfl I.bk))
end
theorem aF{H:Hp}{p:Addr}(h:H p=none)(o:HO):au H (upd H p o):=λb u q=>by rw[ay (aS q h)];exact q
theorem au.tup{K:Frag}{H H':Hp}{a:Addr}{b:List V}(e:au H H')(h:ie K H a b):ie K H' a b:=by
 rcases h with(h|⟨o,h⟩)|h
 .exact .inl (.inl (e _ _ h))
 .exact .inl (.inr ⟨o,e _ _ h⟩)
 .exact .inr h
theorem xW{n:Nat}(h:n<=100000):n<=sizeLine:=Hn h (by decide)
end L2
namespace L2
theorem gM{i j:Int}(c:0<=j)(b:j<=1000000)(a:i.natAbs<2^64):xG i j:=⟨c,b,a⟩
end L2
namespace L2
open PySem PySem.Spec PyProof.Rows
theorem bF.thing{P:Program}{w:World}{H:Hp}{h:Heap}{a:Addr}{o:HO}(x:bF P w H h a o):∃b,h.get? a=some b:=by
 cases o with
 |lst d=>obtain⟨_,_,_,_,e⟩:=x;exact⟨_,e⟩
 |tup d=>obtain⟨_,_,_,b,e,_⟩:=x;exact⟨_,e⟩
 |dK c=>obtain⟨_,_,_,_,b,_,_,e,_⟩:=x;exact⟨_,e⟩
 |dT c=>obtain⟨_,_,_,_,b,_,_,e,_⟩:=x;exact⟨_,e⟩
 |set S n=>obtain⟨b,_,_,_,e,_⟩:=x;exact⟨_,e⟩
 |ins C l g=>obtain⟨_,_,_,e,_⟩:=x;exact⟨_,e⟩
 |own y=>exact x
 |xd g=>obtain⟨_,⟨_,_,_,e,_⟩,_⟩:=x;exact⟨_,e⟩
 |gJ j k=>obtain⟨_,_,_,e⟩:=x;exact⟨_,e⟩
 |qJ b u=>obtain⟨e,_⟩:=x;exact⟨_,e⟩
 |Ge i=>exact⟨_,x⟩
 |met f y=>exact⟨_,x⟩
 |ext φ=>obtain⟨_,e,_⟩:=x;exact e
theorem ic.gone{P:Program}{w:World}{H:Hp}{h:Heap}{a:Addr}(x:ic P w H h)(e:h.get? a=none):H a=none:=by
 cases q:H a with
 |none=>rfl
 |some u=>obtain⟨b,z⟩:=(x a u q).thing;rw[e]at z;cases z
theorem ic.tracked{P:Program}{w:World}{H:Hp}{h h':Heap}(x:ic P w H h)(k:∀b u c,H b=some u->h.get? b=some c->h'.get? b=some c):ic P w H h':=λa o e=>
 (x a o e).stay (λb u z q=>by
   rcases z with rfl|z
   .exact k b o u e q
   .exact k b _ u z q) (λ_ q=>q) λ_ _ q=>q
structure Ug(P:Program)(w:World)(outer:List Env)(H:Hp)(s:Shared)(H':Hp)(a C:Addr)(s':Shared):Prop where
 os:s'.os=s.os
 bare:AllBare s'.gens
 un:Un (frs outer) [] H H' s.heap s'.heap
 hok:ic P w H' s'.heap
 new:H' a=none
 old:s.heap.get? a=none
 Uh:∃(B:Heap)(a0:Value),Heap.FlyingW B outer a (.ref C) a0 s'.heap/\∀b o,s'.heap.get? b=some o->b∉frs outer->((∃o',s.heap.get? b=some o')\/∃u,H' b=some u)->B.get? b=some o
noncomputable def jb(P:Program)(w:World):xO:=λb H s E e d=>∃a C c,e=.ref a/\Ug P w b H s c a C d/\E (.ref C) none c
section
variable{P:Program}{w:World}{K:Frag}{mg:Str->Option Value}{base:Heap}{N:List Str}{qual:Str}{scope:Scope}{f:Addr}{cd:Value}{A:Around}{outer:List Env}{s:Shared}{H:Hp}{E:XK}
abbrev gO(P:Program)(w:World)(K:Frag)(mg:Str->Option Value)(base:Heap)(N:List Str)(qual:Str)(scope:Scope)(f:Addr)(cd:Value)(A:Around)(outer:List Env)(s:Shared)(H:Hp)(E:XK):Cx:=
 xP (jb P w) P w K mg base N qual scope f cd A outer s H E
theorem kM{e:Env}{l:List Env}{L b:Addr}(a:e.frame=some L):b∈frs (e::l)↔b=L\/b∈frs l:=by unfold frs;rw[Mc,a];exact GE
theorem rG{g:List (Addr×Obj)}{x:St}{l t:Hp}{i:Shared}{r:Heap}(I:Inv (gO P w K mg base N qual scope f cd A outer s H E) g x l i)
 (u:Un (frs (gO P w K mg base N qual scope f cd A outer s H E).stack) [] l t i.heap r):Un (frs outer) [] H t s.heap r:=by
 have D:(gO P w K mg base N qual scope f cd A outer s H E).env.frame=some s.heap.objs.size:=rfl;have p:∀b,b∈frs (gO P w K mg base N qual scope f cd A outer s H E).stack↔b=s.heap.objs.size\/b∈frs outer:=λb=>kM D;have c:Un (frs outer) [] H l s.heap i.heap:=I.base;have G:∀b o,s.heap.get? b=some o->b∉frs outer->b∉frs (gO P w K mg base N qual scope f cd A outer s H E).stack:=λb o q d z=>by
  rcases(p b).mp z with z|z
  .exact absurd (FM q) (by rw[z];exact Mo _)
  .exact d z
 refine⟨λb o q n d a=>?_,λb o q n d a=>?_,λb o q n a=>?_,λb o q a=>?_,λb m q=>u.tups b m (c.tups b m q),λb o v q=>u.iu b o v (c.iu b o v q),λb y q=>?_⟩
 .exact u.keep b o (c.keep b o q n d a) (c.free b o q n a) (G b o q d) a
 .obtain⟨J,e⟩:=c.slot b o q n d a;obtain⟨h,k⟩:=u.slot b _ e (c.free b o q n a) ((p b).mpr (.inr d)) a;exact⟨h,k⟩
 .obtain⟨j,e⟩:=c.there b o q a;exact u.free b j e (c.free b o q n a) a
 .obtain⟨j,e⟩:=c.there b o q a;exact u.there b j e a
 .obtain⟨C,e⟩:=c.i9 b y q;obtain⟨B,k⟩:=u.i9 b _ e;exact⟨C++B,by rw[k,UC]⟩
theorem Af{l:List Env}{x t:Hp}{p g h:Heap}(u:Un (frs l) [] x t p g)(k:∀b o,g.get? b=some o->b∉frs l->((∃c,p.get? b=some c)\/∃u,t b=some u)->h.get? b=some o)
 (ff:∀b,b∈frs l->∃o,g.get? b=some o/\∀vs,o.data≠.fields vs)(up:g.UpToSlots h):Un (frs l) [] x t p h:=by
 have v:∀b o,b∈frs l->g.get? b=some o->∃m,h.get? b=some {o with slots:=m}:=λb o a q=>by obtain⟨c,e,y⟩:=ff b a;rw[q]at e;cases e;exact up b o q y
 refine⟨λb o q n a d=>k b o (u.keep b o q n a d) a (.inl ⟨o,q⟩),λb o q n a d=>?_,u.free,λb o q d=>?_,u.tups,u.iu,u.i9⟩
 .obtain⟨m,i⟩:=u.slot b o q n a d;obtain⟨j,r⟩:=v b _ a i;exact⟨j,r⟩
 .obtain⟨c,i⟩:=u.there b o q d;by_cases a:b∈frs l
  .obtain⟨m,r⟩:=v b c a i;exact⟨_,r⟩
  .exact⟨c,k b c i a (.inl ⟨o,q⟩)⟩
theorem Ag{b:List (Addr×Obj)}{g:St}{d:Hp}{c:Shared}{a:Addr}(I:Inv (gO P w K mg base N qual scope f cd A outer s H E) b g d c)(e:c.heap.get? a=none):s.heap.get? a=none:=by
 have h:Un (frs outer) [] H d s.heap c.heap:=I.base;cases q:s.heap.get? a with
 |none=>rfl
 |some o=>obtain⟨i,z⟩:=h.there a o q (by simp);rw[e]at z;cases z
theorem tZ{g:List (Addr×Obj)}{M:St}{d:Hp}{c:Shared}{h':Heap}{a C:Addr}{k:List Value}(I:Inv (gO P w K mg base N qual scope f cd A outer s H E) g M d c)
 (l:Heap.MadeExcOf c.heap h' a (.ref C) k)(q:E (.ref C) none d):(gO P w K mg base N qual scope f cd A outer s H E).xe (.ref a) {c with heap:=h'}:=by
 have D:(gO P w K mg base N qual scope f cd A outer s H E).env.frame=some s.heap.objs.size:=rfl;have T:∀b,b∈frs (gO P w K mg base N qual scope f cd A outer s H E).stack↔b=s.heap.objs.size\/b∈frs outer:=λb=>kM D;have ff:=I.stack;have p:∀env∈(gO P w K mg base N qual scope f cd A outer s H E).stack,∀b,env.frame=some b->b∈frs (gO P w K mg base N qual scope f cd A outer s H E).stack:=λenv Y b r=>OC.mpr ⟨env,Y,r⟩;have J:=PySem.W.funFrames_hide ff p;refine wpAny_leaves_madeW (base:=PySem.W.hideAll c.heap (frs (gO P w K mg base N qual scope f cd A outer s H E).stack)) (h:=c.heap) I.ok.frames D (λb o z=>PySem.W.of_hideAll _ z) J l λn t y x2 x3 Q=>?_;have v:∀b o,c.heap.get? b=some o->b∉frs (gO P w K mg base N qual scope f cd A outer s H E).stack->n.get? b=some o:=λb o z i=>y.1 b o (hideAll_get _ z i);have fm:∀b,b∈frs (gO P w K mg base N qual scope f cd A outer s H E).stack->∃o,c.heap.get? b=some o/\∀R,o.data≠.fields R:=λb r=>(J.mem r).2;have up:c.heap.UpToSlots n:=(Heap.UpToSlots.of_keeps l.keeps).trans Q;have S:Un (frs (gO P w K mg base N qual scope f cd A outer s H E).stack) [] d d c.heap n:=Af Un.refl (λb o z i _=>v b o z i) fm up;refine⟨a,C,d,rfl,⟨I.os,I.bare,rG I S,I.hok.tracked λb u U z O=>v b U O λm=>?_,I.hok.gone l.new,Ag I l.new,_,_,y,λb o z i j=>?_⟩,q⟩
 .have:=I.iz b m;rw[z]at this;cases this
 .have L:b∉frs (gO P w K mg base N qual scope f cd A outer s H E).stack:=λm=>by
   rcases j with⟨B,e⟩|⟨u,e⟩
   .rcases(T b).mp m with m|m
    .exact absurd (FM e) (by rw[m];exact Mo _)
    .exact i m
   .have:=I.iz b m;rw[e]at this;cases this
  have:∃o1,c.heap.get? b=some o1:=by
   rcases j with⟨B,e⟩|⟨u,e⟩
   .exact Un.there (show Un (frs outer) [] H d s.heap c.heap from I.base) b B e (by simp)
   .exact(I.hok b u e).thing
  obtain⟨o1,G⟩:=this;have Z:=v b o1 G L;have x:n.get? b=some o:=z;rw[Z]at x;cases x;exact hideAll_get _ G L
theorem Ah{g:List (Addr×Obj)}{G:St}{n:Hp}{i s':Shared}{e:Value}(I:Inv (gO P w K mg base N qual scope f cd A outer s H E) g G n i)
 (S:jb P w (gO P w K mg base N qual scope f cd A outer s H E).stack n i E e s'):(gO P w K mg base N qual scope f cd A outer s H E).xe e s':=by
 obtain⟨a,C,l,rfl,F,q⟩:=S;obtain⟨B,Z,x,kB⟩:=F.Uh;have t:(gO P w K mg base N qual scope f cd A outer s H E).env.frame=some s.heap.objs.size:=rfl;have Q:∀b,b∈frs (gO P w K mg base N qual scope f cd A outer s H E).stack↔b=s.heap.objs.size\/b∈frs outer:=λb=>kM t;refine wpAny_leaves_onW I.ok.frames t x λU h L=>?_;have fm:∀b,b∈frs (gO P w K mg base N qual scope f cd A outer s H E).stack->∃o,s'.heap.get? b=some o/\∀M,o.data≠.fields M:=λb T=>(x.2.2.1.mem T).2;have D:∀b u,l b=some u->b∉frs (gO P w K mg base N qual scope f cd A outer s H E).stack:=λb u z m=>by have k:=I.iz b m;obtain⟨o,R,_⟩:=I.stack.mem m|>.2;rw[F.un.free b o R k (by simp)]at z;cases z
 have O:=Af F.un (λb o z j c=>h.1 b o (kB b o z j c)) fm L;refine⟨a,C,l,rfl,⟨F.os.trans I.os,F.bare,rG I O,F.hok.tracked λb u r z J=>h.1 b r (kB b r J (D b u z) (.inr ⟨u,z⟩)),F.new,Ag I F.old,B,Z,h,λb o z j c=>?_⟩,q⟩;have PM:b∉frs (gO P w K mg base N qual scope f cd A outer s H E).stack:=λm=>by
  rcases c with⟨d,e⟩|⟨u,e⟩
  .rcases(Q b).mp m with m|m
   .exact absurd (FM e) (by rw[m];exact Mo _)
   .exact j m
  .exact D b u e m
 have y:(∃d,i.heap.get? b=some d)\/∃u,l b=some u:=by
  rcases c with⟨d,e⟩|z
  .exact .inl (Un.there (show Un (frs outer) [] H n s.heap i.heap from I.base) b d e (by simp))
  .exact .inr z
 have:∃o1,s'.heap.get? b=some o1:=by
  rcases y with⟨d,e⟩|⟨u,e⟩
  .exact F.un.there b d e (by simp)
  .exact(F.hok b u e).thing
 obtain⟨o1,k⟩:=this;have v:=kB b o1 k PM y;have Y:=h.1 b o1 v;have p:U.get? b=some o:=z;rw[Y]at p;cases p;exact v
theorem Nh:Passes (jb P w) (gO P w K mg base N qual scope f cd A outer s H E) E:=λ_ _ _ _ _ _ I h=>Ah I h
end
abbrev Uj:List Value:=[.type "ValueError",.type "Exception",.type "BaseException",.type "object"]
structure Q0(K:Frag)(C:Addr):Prop where
 exc:PySem.W.excIn K C Uj "ValueError.__new__"=true
 ga:findIn K (.ref C) "__getattribute__"=some (some (.builtin "BaseException.__getattribute__"))
 gt:findIn K (.ref C) "__getattr__"=some none
 cl:findIn K (.ref C) "__class__"=some (some (.builtin "object.__class__"))
 ob:mroIn K C (.type "object")=some true
 bs:mroIn K C (.type "BaseException")=some true
noncomputable def Ai(X:Cx)(R:Addr->Hp->Prop):Prop:=∀(b:List (Addr×Obj))(e:St)(H:Hp)(s:Shared)(d:Heap)(a C:Addr)(c:List Value),Inv X b e H s->Heap.MadeExcOf s.heap d a (.ref C) c->R C H->X.xe (.ref a) {s with heap:=d}
theorem DB{P:Program}{w:World}{K:Frag}{d:Str->Option Value}{base:Heap}{N:List Str}{c:Str}{a:Scope}{f:Addr}{g:Value}{A:Around}{b:List Env}{s:Shared}{H:Hp}{E:XK}:
 Ai (gO P w K d base N c a f g A b s H E) (λC H'=>E (.ref C) none H'):=λ_ _ _ _ _ _ _ _ I e q=>tZ I e q
section
variable{X:Cx}{x:Str}{C:Addr}{e:Expr}{t:TA}{np cpos pos:Pos}{R:Addr->Hp->Prop}
end
theorem PS.mF{X:Cx}{st:Stmt}{t:TS}(h:PS X.mF st t):PS X st t:=λa s b H D I c=>RF (h a s b H D (I.mH _) c) (λ_ _ q=>q.fZ) λ_ _ z=>Gx z
theorem CC.Sz{P:Program}{w:World}{K:Frag}{j:Str->Option Value}{base:Heap}{x b:Str}{st:Stmt}{f:Addr}{l:FuncData}{N d:List Str}{k:Nat}{sp:Sp}(F:CC K x b st f l)(S:fj N d (ao st))
 (g:∀vs H Q E,sp vs H Q E->vs.length=d.length)
 (p:∀(c:Value)(A:Around)(a:List Env)(s:Shared)(H:Hp)(vs:List V)(Q:VK)(E:XK),bY k (A.deeper (envOfC b (ao st) s.heap.objs.size f c))->sp vs H Q E->
   ∃t,qL (gO P w K j base N b (ao st) f c A a s H E) (aY st) t/\t {nx:=λ_ H'=>Q .aJ H',rt:=Q} (start N vs) H):bO P w K j base (jb P w) (k+1) f l d sp:=by
 obtain⟨v,u,kV,q,r,z,c,y,m,e,n,i⟩:=F.ex;subst e;exact MX n i S g λA a s H vs Q E o h=>p c A a s H vs Q E o h
theorem bO.Ni{P:Program}{w:World}{K:Frag}{d:Str->Option Value}{base:Heap}{k:Nat}{f:Addr}{g:FuncData}{c:List Str}{sp:Sp}(F:bO P w K d base (jb P w) k f g c sp):
 bO P w K d base Nb k f g c (λvs H Q _=>sp vs H Q E0):=
 ⟨λvs H Q E h=>F.len vs H Q E0 h,λA a s H b i vs Q E j m l r h=>Wv (F.run A a s H b i vs Q E0 j m l r h) λr n z=>by
   cases r with
   |error e=>obtain⟨_,_,_,_,_,q⟩:=z;exact q.elim
   |ok fl=>cases fl<;>exact z⟩
noncomputable def FX(X:Cx)(a:List (Addr×Obj))(d:St)(E:XK)(e:Value)(s':Shared):Prop:=∃c b,Inv X a d c b/\jb X.prog X.w X.stack c b E e s'
section
variable{X:Cx}{k:Nat}{f:Addr}{fd:FuncData}{ps:List Str}{sp:Sp}{x:Str}{p pos:Pos}{e:Expr}{es:List Expr}{t:TA}
end
noncomputable def Nj(a C:Addr)(h:Heap):Prop:=∃b c,h.get? a=some b/\b.cls=.ref C/\b.data=.fields c
noncomputable def Q2(a C:Addr):HO:=.ext (Nj a C)
section
variable{X:Cx}{pins:List (Addr×Obj)}{σ:St}{H:Hp}{s:Shared}
end
section
variable{prog:Program}{w:World}{A:Around}{E:Value->Shared->Prop}{s:Shared}{K:Frag}{a C:Addr}
end
inductive Nk:V->Value->Prop where
 |own (D:Addr):Nk (.ref D) (.ref D)
 |ty (n:String):Nk (.ty n) (.type n)
noncomputable def jc(cells:List (Str×Addr)):List (Str×NameKind)->List (Str×Addr)->List (Str×Addr)
 |[],acc=>acc
 |(n,k)::r,acc=>jc cells r (if k=.free then(n,(cells.lookup n).getD 0)::acc else acc)
theorem kN{env:Env}:∀(l:List (Str×NameKind))(a:List (Str×Addr)),(∀p∈l,p.2=.free->∃c,env.cells.lookup p.1=some c)->
 (forIn l a λ(x:Str×NameKind)(cs:List (Str×Addr))=>if(x.2==NameKind.free)=true then(do let c<-cellOf env x.1;pure (IV ((x.1,c)::cs)))else(pure (IV cs):Sem _))=pure (jc env.cells l a)
 |[],a,_=>rfl
 |(n,k)::r,a,h=>by
  have ih:=λa=>kN (env:=env) r a λp g=>h p (FK _ g);rw[List.forIn_cons];by_cases b:k=.free
  .obtain⟨c,i⟩:=h (n,k) FC b;have d:env.cells.lookup n=some c:=i;have e:cellOf env n=pure c:=by unfold cellOf;rw[d]
   have f:(k==NameKind.free)=true:=by simp[b]
   simp only[f,if_true,e,pure_bind,ih];simp only[jc,b,if_true,d,IS]
  .have f:(k==NameKind.free)=false:=by simpa using b
   simp only[f,WH,Ww,pure_bind,ih];simp only[jc,b,Ww]
theorem kO{a:Scope}{env:Env}(h:∀p∈a.names,p.2=.free->∃c,env.cells.lookup p.1=some c):closureFor a env=pure (jc env.cells a.names []):=by have:=kN (env:=env) a.names [] h;unfold closureFor;simp only[bind_pure];exact this
theorem rH{cells:List (Str×Addr)}:∀(l:List (Str×NameKind))(a:List (Str×Addr)),(∀p∈l,p.2=.free->∃c,cells.lookup p.1=some c)->(∀y c,a.lookup y=some c->cells.lookup y=some c)->
 ∀y c,(jc cells l a).lookup y=some c->cells.lookup y=some c
 |[],_,_,ha,y,c,h=>ha y c h
 |(n,k)::r,a,hl,ha,y,c,h=>by
  refine rH r _ (λp i=>hl p (FK _ i)) (λz d hz=>?_) y c h;by_cases b:k=.free
  .rw[Bz b,G2]at hz;obtain⟨m,g⟩:=hl (n,k) FC b;have f:cells.lookup n=some m:=g;split at hz
   .rename_i e
    have j:z=n:=by simpa using e
    subst j;rw[f]at hz⊢;exact hz
   .exact ha z d hz
  .rw[Bi b]at hz;exact ha z d hz
theorem kP{cells:List (Str×Addr)}:∀(l:List (Str×NameKind))(a:List (Str×Addr))(y:Str),((a.lookup y).isSome=true\/(y,NameKind.free)∈l)->((jc cells l a).lookup y).isSome=true
 |[],_,_,h=>h.elim id λz=>nomatch z
 |(n,k)::r,a,y,h=>by
  refine kP r _ y ?_;by_cases b:k=.free
  .rw[Bz b,G2];by_cases e:(y==n)=true
   .left;rw[e];rfl
   .rw[Ta]at e;rw[e];rcases h with h|h
    .exact .inl h
    .rcases GE.mp h with h|h
     .have:y=n:=Fs Prod.fst h;subst this;simp at e
     .exact .inr h
  .rw[Bi b];rcases h with h|h
   .exact .inl h
   .rcases GE.mp h with h|h
    .have:NameKind.free=k:=Fs Prod.snd h;exact absurd this.symm b
    .exact .inr h
theorem nG{cells:List (Str×Addr)}:∀(l:List (Str×NameKind))(a:List (Str×Addr))(y:Str)(c:Addr),(jc cells l a).lookup y=some c->(∃b,a.lookup y=some b)\/(y,NameKind.free)∈l
 |[],_,y,c,h=>.inl ⟨c,h⟩
 |(n,k)::r,a,y,c,h=>by
  rcases nG r _ y c h with⟨b,h'⟩|h'
  .by_cases d:k=.free
   .rw[Bz d,G2]at h';split at h'
    .rename_i e
     have f:y=n:=by simpa using e
     subst f;subst d;exact .inr FC
    .exact .inl ⟨b,h'⟩
   .rw[Bi d]at h';exact .inl ⟨b,h'⟩
  .exact .inr (FK _ h')
theorem f6{env:Env}(d:env.scope.kind=.function):∀(l:List (Str×NameKind))(y:Str),
 (l.map λ(n,k)=>if(k==NameKind.free&&env.scope.kind==.function&&env.kindOf n==some .cell)then(n,NameKind.cell)else(n,k)).lookup y=(l.lookup y).map λk=>if(k==NameKind.free&&env.kindOf y==some .cell)=true then NameKind.cell else k
 |[],_=>rfl
 |(n,k)::r,y=>by
  have ih:=f6 d r y;have b:(env.scope.kind==ScopeKind.function)=true:=by rw[d];rfl
  rw[P3,G2];by_cases e:(y==n)=true
  .have f:y=n:=by simpa using e
   subst f;by_cases c:(k==NameKind.free&&env.kindOf y==some .cell)=true
   .have a:(k==NameKind.free&&env.scope.kind==.function&&env.kindOf y==some .cell)=true:=by rw[b,Wl];exact c
    simp only[a,if_true,G2,TB,HP,c]
   .have a:¬(k==NameKind.free&&env.scope.kind==.function&&env.kindOf y==some .cell)=true:=by rw[b,Wl];exact c
    rw[Bi a];simp only[G2,TB,HP];rw[Bi c]
  .rw[Ta]at e;by_cases a:(k==NameKind.free&&env.scope.kind==.function&&env.kindOf n==some .cell)=true
   .simp only[a,if_true,e,G2];exact ih
   .rw[Ta]at a;simp only[a,WH,Ww,e,G2];exact ih
noncomputable def cK(sc c:Scope)(N a b:List Str):Bool:=
 sc.kind==.function&&b.all (λx=>sc.names.lookup x==some .local&&!a.contains x)&&
 sc.names.all (λp=>p.2 !=.cell&&(p.2 !=.local||sc.names.lookup p.1==some .local)&&(p.2 !=.free||(c.names.lookup p.1==some .cell&&sc.names.lookup p.1==some .free)))&&
 a.all (λy=>sc.names.lookup y !=some .local)&&(N.length==a.length&&(N.zip a).all (λp=>p.1==p.2||sc.names.lookup p.2==none))
structure dS(sc LX:Scope)(N N' xs:List Str):Prop where
 kind:sc.kind=.function
 own:∀x∈xs,sc.names.lookup x=some .local/\x∉N'
 t6:∀p∈sc.names,p.2≠.cell
 loc:∀p∈sc.names,p.2=.local->sc.names.lookup p.1=some .local
 free:∀p∈sc.names,p.2=.free->LX.names.lookup p.1=some .cell/\sc.names.lookup p.1=some .free
 out:∀y∈N',sc.names.lookup y≠some .local
 len:N.length=N'.length
 pair:∀(i:Nat)(y:Str),N'[i]?=some y->sc.names.lookup y≠none->N[i]?=some y
theorem dS.of{sc l:Scope}{N b d:List Str}(h:cK sc l N b d=true):dS sc l N b d:=by
 unfold cK at h;simp only[Ap,He,X8,bne_iff_ne,Pl,Wu,ne_eq]at h;obtain⟨⟨⟨⟨s,k⟩,c⟩,r⟩,q,o⟩:=h;refine⟨s,λx g=>⟨(k x g).1,λz=>?_⟩,λp a=>(c p a).1.1,λp a e=>?_,λp a e=>?_,r,q,λi y f m=>?_⟩
 .have:=(k x g).2;rw[List.contains_eq_mem]at this;simp[z]at this
 .rcases(c p a).1.2 with z|z
  .exact absurd e z
  .exact z
 .rcases(c p a).2 with z|z
  .exact absurd e z
  .exact z
 .have t:i<b.length:=(Fh.mp f).1;have j:N[i]?=some (N[i]'(by lia)):=B1 (by lia);have n:(N[i]'(by lia),y)∈N.zip b:=by refine On (i:=i) ?_;rw[List.getElem?_zip_eq_some];exact⟨j,f⟩
  rcases o _ n with z|z
  .rw[j];exact Fs some z
  .exact absurd z m
noncomputable def aI(X:Cx)(a:Scope)(C:Addr)(b d:List Str)(s:Shared)(H:Hp)(c:List Addr):Cx:=
 {X with N:=b++d,s₀:=s,H₀:=H,env:=compEnvC a (jc X.env.cells a.names []) C X.env,outer:=X.stack,stack:=X.stack,ex:=c,fn:=λy=>b.contains y,pn:=[],xe:=λ_ _=>False}
section
variable{X:Cx}{pins:List (Addr×Obj)}{σ:St}{H:Hp}{s:Shared}{scope:Scope}{xs N':List Str}{fp:List Addr}
theorem gP(I:Inv X pins σ H s)(O:dS scope X.env.scope X.N N' xs):∀p∈scope.names,p.2=.free->∃c,X.env.cells.lookup p.1=some c:=λp a e=>I.ok.has p.1 (.inl (O.free p a e).1)
theorem eN(I:Inv X pins σ H s)(O:dS scope X.env.scope X.N N' xs)(y:Str):(relabel scope X.env).names.lookup y=(scope.names.lookup y).map λk=>if k=.free then NameKind.cell else k:=by
 unfold relabel;show(List.map _ scope.names).lookup y=_;rw[f6 I.ok.kind];cases e:scope.names.lookup y with
 |none=>rfl
 |some k=>
  rw[HP,HP];by_cases a:k=.free
  .subst a;have:=(O.free (y,.free) (Kx e) rfl).1;have b:X.env.kindOf y=some .cell:=this;rw[b];rfl
  .rw[Bi a,Bi (by simp[a])]
theorem Aj{n:Heap}{R:Nat}(I:Inv X pins σ H s)(O:dS scope X.env.scope X.N N' xs)(A:∀b∈fp,dw X pins H b)(D:∀b∈fp,b<s.heap.objs.size){L:Str->Option Value}
 (Y:n.Ns s.heap.objs.size L)(g:∀b o,s.heap.get? b=some o->n.get? b=some o):
 Inv (aI X scope s.heap.objs.size xs N' s H fp) [] (xs.map (λ_=>none)++σ) H {s with heap:=n,toks:=R}:=by
 have f:=rH (cells:=X.env.cells) scope.names [] (gP I O) (λy c z=>nomatch z);refine⟨⟨I.ok.mod,?_,I.ok.glob,I.ok.blt,BM _,λx y c n G=>I.ok.inj x y c (f x c n) (f y c G),λy B=>?_,λy c n G=>?_,I.ok.hd,I.ok.frames,.inl rfl,λb j=>⟨Ha (D b j),λx c e=>(A b j).2.2.2.2.1 x c (f x c e)⟩,
  I.bs,Hn I.ok.CB I.sz,λb o e j=>?_,λb j z=>?_,I.stack,I.iz,I.ok.tree,I.ok.Py⟩,rfl,I.bare,Un.kept g,⟨L,Y,λi y v e1 h e3=>?_⟩,λy c e=>?_,I.hok.fresh (BM _),λy c e=>I.fY y c (f y c e),λp T=>absurd (show p∈([]:List (Addr×Obj))from T) (by simp),I.hok.kept g,?_⟩
 .show scope.kind=_;exact O.kind
 .have d:(relabel scope X.env).names.lookup y=some .cell\/(relabel scope X.env).names.lookup y=some .free:=B;rw[eN I O]at d;have a:scope.names.lookup y=some .free:=by
   cases e:scope.names.lookup y with
   |none=>rw[e]at d;rcases d with z|z<;>cases z
   |some k=>
    rw[e]at d;by_cases g:k=.free
    .rw[g]
    .rw[HP,Bi g]at d;rcases d with z|z
     .have:k=.cell:=Hk z;exact absurd this (O.t6 (y,k) (Kx e))
     .exact absurd (Hk z) g
  exact QR.mp (kP scope.names [] y (.inr (Kx a)))
 .have E:(jc X.env.cells scope.names []).lookup y=some c:=G;have B:y∈xs:=by have PN:xs.contains y=true:=n;simpa using PN
  rcases nG scope.names [] y c E with⟨_,z⟩|z
  .cases z
  .have K:=(O.free (y,.free) z rfl).2;rw[(O.own y B).1]at K;cases K
 .have P:X.base.get? b=some o:=e;rcases(A b j).2.2.2.1 with z|z
  .exact I.ok.zp b o P z
  .exact absurd (GM (FM P) (Hn I.ok.CB z)) (Mo _)
 .rcases GE.mp (I.sZ b z)with q|q
  .exact(A b j).2.1 q
  .exact(A b j).2.2.1 q
 .have J:(xs++N')[i]?=some y:=e1;by_cases M:i<xs.length
  .rw[N0 (by simpa using M),Da]at h;cases q:xs[i]? with
   |none=>rw[q]at h;cases h
   |some z=>rw[q]at h;cases h
  .rw[KM (by simpa using M)]at h;rw[KM (by lia)]at J;rw[AN]at h;have Uk:y∈N':=On J;have t:HM (relabel scope X.env) y:=e3;unfold HM at t;rw[eN I O]at t;have a:scope.names.lookup y=some .free:=by
    cases e:scope.names.lookup y with
    |none=>rw[e]at t;rcases t with z|z|z<;>cases z
    |some k=>
     rw[e]at t;by_cases g:k=.free
     .rw[g]
     .rw[HP,Bi g]at t;rcases t with z|z|z
      .have:k=.local:=Hk z;subst this;exact absurd e (O.out y Uk)
      .have:k=.cell:=Hk z;exact absurd this (O.t6 (y,k) (Kx e))
      .exact absurd (Hk z) g
   have Q:=(O.free (y,.free) (Kx a) rfl).1;obtain⟨m,U,Z⟩:=I.loc;have Ul:=O.pair _ y J (by rw[a];simp);obtain⟨u,r,l⟩:=Z _ y v Ul h (.inr (.inl Q));refine⟨u,r,?_⟩;rcases l with⟨S,_⟩|⟨_,c,hc,o,C,hd⟩
   .have:X.env.scope.names.lookup y=some .local:=S;rw[Q]at this;cases this
   .refine .inr ⟨.inl ?_,c,?_,o,g c o C,hd⟩
    .show(relabel scope X.env).names.lookup y=_;rw[eN I O,a];rfl
    .obtain⟨c',w⟩:=QR.mp (kP (cells:=X.env.cells) scope.names [] y (.inr (Kx a)));have q:=f y c' w;rw[hc]at q;show(jc X.env.cells scope.names []).lookup y=some c;rw[w,<-Hk q]
 .obtain⟨v,o,C,hd⟩:=I.cell y c (f y c e);exact⟨v,o,g c o C,hd⟩
 .show(xs.map (λ_=>none)++σ).length=(xs++N').length;rw[Fm,Fm,AN,I.len,O.len]
end
noncomputable def PF(X:Cx)(d:List Expr)(t:TT):Prop:=
 ∀(a:List (Addr×Obj))(s:Shared)(b:St)(H:Hp)(Q:Bool->Hp->Prop),Inv X a b H s->t b H Q->
  wpAny (model X.prog X.w) X.A (forIn d true λc r=>if r=true then do let ok<-isTrue c X.env (eval c X.env);pure (IV ok)else pure (IV r)) (TP X a b Q) X.xe s
noncomputable def Q3:TT:=λ_ H Q=>Q true H
theorem IX{X:Cx}:PF X [] Q3:=λ_ _ _ H _ I h=>wpAny_tests_nil ⟨H,I,h⟩
theorem IY{X:Cx}{c:Expr}{t:TT}(h:PT X c t):PF X [c] t:=λa s b H Q I q=>wpAny_tests_one (h a s b H Q I q)
noncomputable def Ak(k:Nat)(q:TI)(g:TG)(tc:TT)(te:TE):TE:=λe H Q=>q e H λJ p=>∀D,p D=none->∃W:Nat->Nat->Hp->Prop,(∃m,W 0 m (upd p D (.lst [])))/\∀i m d,W i m d->
 (J.stop i d/\Q (.ref D) d)\/(J.go i d/\∀x o,J.MM i d x o->∀j:List (Option V),j.length=k->g x (j++e) o λa r=>∃h:List (Option V),h.length=k/\a=h++e/\
   tc a r λb n=>if b=true then te a n λy l=>∃f,l D=some (.lst f)/\f.length<sizeLine/\∃c,c<m/\W (i+1) c (upd l D (.lst (f++[y])))else∃c,c<m/\W (i+1) c n)
theorem oV{prog:Program}{w:World}{A:Around}{R:Result->Shared->Prop}{s:Shared}{u a l:Expr}{q:List Expr}{f:Scope}{pos:Pos}{E y:Value}{env:Env}(I:Nat->Shared->Prop)
 (z:∀n s,I n s->wpAny (model prog w) A (pyNext E) (λr e=>match r with
   |none=>R (.ok .next) e
   |some v=>wpAny (model prog w) A (letOwnedTupleGo a E v) (λ_ d=>wpAny (model prog w) A (assign a env v) (λ_ k=>
     wpAny (model prog w) A (forIn q true λc r=>if r=true then do let ok<-isTrue c env (eval c env);pure (IV ok)else pure (IV r)) (λok b=>
      if ok=true then wpAny (model prog w) A (eval u env) (λx j=>wpAny (model prog w) A (call (.builtin "list.append") [y,x]) (λ_ i=>∃m,m<n/\I m i) (λ_ _=>False) j) (λ_ _=>False) b
      else∃m,m<n/\I m b) (λ_ _=>False) k) (λ_ _=>False) d) (λ_ _=>False) e) (λ_ _=>False) s)
 (n:Nat)(h:I n s):
 codeAny (model prog w) A (.compLoop (.ListComp u [⟨a,l,q,0⟩] f pos) 0 E y env) R s:=by
 refine codeAny_loop rfl I (λn s G=>?_) n h;show wpAny _ A ((compTurn (.ListComp u [⟨a,l,q,0⟩] f pos) 0 E y env).onRaise (λx=>do noteFrame x env;theTreesLotGoes x)) _ _ s;refine wpAny_noted ?_;rw[compTurn_list];refine Dx (WZ (Dx (RF (z n s G) (λr e p=>?_) λ_ _ g=>g.elim)));cases r with
 |none=>exact KB p
 |some v=>
  refine Dx (RF p (λ_ d t=>?_) λ_ _ g=>g.elim);refine Dx (RF t (λ_ k D=>Dx (RF D (λok b o=>?_) λ_ _ g=>g.elim)) λ_ _ g=>g.elim);cases ok with
  |false=>exact KB ⟨rfl,o⟩
  |true=>exact Dx (Dx (RF o (λx j C=>Dx (RF C (λ_ i B=>KB (KB ⟨rfl,B⟩)) λ_ _ g=>g.elim)) λ_ _ g=>g.elim))
section
variable{X:Cx}
theorem kQ{tg S elt:Expr}{Z:List Expr}{scope:Scope}{t L:List Str}{pos:Pos}{g:TG}{tc:TT}{te:TE}(hc:X.calm=true)(O:dS scope X.env.scope X.N L t)
 (hg:∀C s0 H0 l,PG (aI X scope C t L s0 H0 l) tg g)(hf:∀C s0 H0 l,PF (aI X scope C t L s0 H0 l) Z tc)(he:∀C s0 H0 l,PE (aI X scope C t L s0 H0 l) elt te)
 {v:List (Addr×Obj)}{G:St}{B:Hp}{f:Shared}{it:Addr}{l:List Addr}{tn:Nat->Heap->Prop}{J:It}{Q:VK}{E:Value->Shared->Prop}{RR:Value->Addr->Result->Shared->Prop}
 (I2:Inv X v G B f)(T:Turn X.prog X.w X.K tg J l it tn)(st2:tn 0 f.heap)(f2:∀b∈l,dw X v B b)
 (h:∀D,B D=none->∃W:Nat->Nat->Hp->Prop,(∃m,W 0 m (upd B D (.lst [])))/\∀i m H2,W i m H2->
   (J.stop i H2/\Q (.ref D) H2)\/(J.go i H2/\∀x H3,J.MM i H2 x H3->∀H:List (Option V),H.length=t.length->g x (H++G) H3 λY H4=>∃P:List (Option V),P.length=t.length/\Y=P++G/\
     tc Y H4 λb M=>if b=true then te Y M λy H6=>∃ys,H6 D=some (.lst ys)/\ys.length<sizeLine/\∃I,I<m/\W (i+1) I (upd H6 D (.lst (ys++[y])))else∃I,I<m/\W (i+1) I M))
 (hRR:∀D C s' H',(∃m,s'.heap.Ns C m)->(∀h',Heap.SameBut C s'.heap h'->Inv X v G H' {s' with heap:=h'})->f.heap.objs.size<=D->f.heap.objs.size<=C->H' C=none->Q (.ref D) H'->RR (.ref D) C (.ok .next) s'):
 wpAny (model X.prog X.w) X.A (newList []) (λacc s₃=>wpAny (model X.prog X.w) X.A (newFunctionEnv scope X.env.globals (jc X.env.cells scope.names []) [] X.env.qual none .none (some X.env)) (λU s₄=>codeAny (model X.prog X.w) X.A (.compStart (.ListComp elt [⟨tg,S,Z,0⟩] scope pos) 0 (.ref it) acc {U with scope:=relabel scope X.env}) (RR acc U.locals) s₄) E s₃) E f:=by
 refine wpAny_newObj_type (wpAny_newFunctionEnv O.t6 (by intro y hy;simp at hy) (λs Al Am=>?_) O.kind);dsimp only at Al Am⊢;have hD:B f.heap.objs.size=none:=I2.hok.fresh (BM _);obtain⟨W,⟨m0,w0⟩,turn⟩:=h f.heap.objs.size hD;have I3:Inv X v G (upd B f.heap.objs.size (.lst [])) {f with heap:=f.heap.push {cls:=.type "list",dict:=none,data:=.seq ([]:List Value).toArray}}:=
  I2.laid (t':=f.toks) (λb u e=>D1 _ e) (BM _) ⟨KE _,[],0,.nil,Fn _ rfl⟩
 have Q4:∀b∈l,b<f.heap.objs.size:=λb j=>by obtain⟨o,e,_⟩:=T.obj _ _ st2 b j;exact FM e
 have f3:∀b∈l,dw X v (upd B f.heap.objs.size (.lst [])) b:=λb j=>by obtain⟨q0,q⟩:=f2 b j;exact⟨by rw[ay (Ha (Q4 b j))];exact q0,q⟩
 generalize LZ:({f with heap:=f.heap.push {cls:=.type "list",dict:=none,data:=.seq ([]:List Value).toArray}}:Shared)=k at I3;have nH:k.heap=f.heap.push {cls:=.type "list",dict:=none,data:=.seq ([]:List Value).toArray}:=by rw[<-LZ]
 have hsz:k.heap.objs.size=f.heap.objs.size+1:=by rw[nH,Heap.size_push]
 have old:∀b o,k.heap.get? b=some o->s.get? b=some o:=λb o e=>Am.extBut b o (by rw[<-nH];exact Ha (FM e)) (D1 _ (by rw[<-nH];exact e));have J4:Inv (aI X scope k.heap.objs.size t L k (upd B f.heap.objs.size (.lst [])) l) [] (t.map (λ_=>none)++G) (upd B f.heap.objs.size (.lst [])) {k with heap:=s,toks:=f.toks+([]:List (Str×Value)).length}:=
  Aj I3 O f3 (λb j=>by rw[hsz];exact Sr (Q4 b j)) (by rw[nH];exact Al) old
 have Um:({k with heap:=s,toks:=f.toks+([]:List (Str×Value)).length}:Shared)={f with heap:=s,toks:=f.toks+([]:List (Str×Value)).length}:=by rw[<-LZ]
 rw[Um]at J4;have SD:tn 0 s:=T.keep _ _ _ st2 λb j o e=>old b o (by rw[nH];exact D1 _ e);have hC:(f.heap.push {cls:=.type "list",dict:=none,data:=.seq ([]:List Value).toArray}).objs.size=k.heap.objs.size:=by rw[nH]
 have Q5:∀{H':Hp},(∀b∈l,H' b=none)->∀b∈l,dw (aI X scope k.heap.objs.size t L k (upd B f.heap.objs.size (.lst [])) l) [] H' b:=λhn b j=>⟨hn b j,Ha (by rw[hsz];exact Sr (Q4 b j)),J4.ok.zq b j,.inl j,λx c e=>((J4.ok.Qi b j).2 x c e),λp hp=>absurd (show p∈([]:List (Addr×Obj))from hp) (by simp)⟩;have R:codeAny (model X.prog X.w) X.A (.compLoop (.ListComp elt [⟨tg,S,Z,0⟩] scope pos) 0 (.ref it) (.ref f.heap.objs.size) (compEnvC scope (jc X.env.cells scope.names []) k.heap.objs.size X.env))
  (RR (.ref f.heap.objs.size) k.heap.objs.size) {f with heap:=s,toks:=f.toks+([]:List (Str×Value)).length}:=by
  refine oV (λn s'=>∃(i:Nat)(H:List (Option V))(H':Hp),H.length=t.length/\Inv (aI X scope k.heap.objs.size t L k (upd B f.heap.objs.size (.lst [])) l) [] (H++G) H' s'/\tn i s'.heap/\(∀b∈l,H' b=none)/\W i n H') ?_ m0
   ⟨0,t.map (λ_=>none),_,AN _,J4,SD,λb j=>(f3 b j).1,w0⟩
  rintro n s5 ⟨i,H,M,hv0,I5,LU,PD,w5⟩;rcases turn i n M w5 with⟨stop,qn⟩|⟨go,step⟩
  .refine bq (T.done (aI X scope k.heap.objs.size t L k (upd B f.heap.objs.size (.lst [])) l) rfl rfl rfl hc i [] s5 (H++G) M _ I5 (Q5 PD) LU stop) ?_;rintro r s6 ⟨hr,I6⟩;subst hr;obtain⟨m,hnm,_⟩:=I6.loc;refine hRR _ _ s6 M ⟨m,hnm⟩ (λh' GD=>?_) (BM _) (by rw[hsz];exact Xb _) I6.free qn;have Q6:∀b o,k.heap.get? b=some o->b≠k.heap.objs.size:=λb o e=>Ha (FM e);have u:=I6.base;have Uo:=I3.Gi (s':={s6 with heap:=h'}) (H':=M) (ch:=l) I6.os ⟨λb o e n j hx=>GD.extBut b _ (Q6 b o e) (u.keep b o e n j hx),λb o e n j hx=>by
    obtain⟨sl,q⟩:=u.slot b o e n j hx;exact⟨sl,GD.extBut b _ (Q6 b o e) q⟩,u.free,λb o e hx=>by
    obtain⟨o',q⟩:=u.there b o e hx;exact⟨o',GD.extBut b _ (Q6 b o e) q⟩,u.tups,u.iu,u.i9⟩ (λa o e=>?_) I6.bare (λb j=>?_)
   .exact Uo
   .have SG:∀b u,M b=some u->b≠k.heap.objs.size:=λb u e z=>by subst z;have:=I6.free;have e2:M k.heap.objs.size=none:=this;rw[e2]at e;cases e
    refine(I6.hok a o e).stay (λb u j q=>GD.extBut b u ?_ q) (λ_ q=>q) λ_ _ q=>q;rcases j with rfl|j
    .exact SG _ _ e
    .exact SG _ _ j
   .obtain⟨q0,q1,q2,q3,q4,q5⟩:=f3 b j;exact⟨q3,q1,q4,q5⟩
  .refine bq (T.item (aI X scope k.heap.objs.size t L k (upd B f.heap.objs.size (.lst [])) l) rfl rfl rfl hc i [] s5 (H++G) M _ I5 (Q5 PD) LU go) ?_;rintro r s6 ⟨u,hr,h6⟩;subst hr;refine bq h6 ?_;rintro _ s7 ⟨x,H7,I7,r7,y7,Q7,Up⟩;have Uq:=I7.pinned (Q5 Up) (T.obj _ _ Q7);refine bq (hg _ _ _ _ _ s7 (H++G) H7 x u _ Uq r7 (step x H7 y7 H hv0)) ?_;rintro _ s8 ⟨V3,H8,I8,P,hv1,e8,q8⟩;subst e8;have fin:∀{s9:Shared}{H9:Hp},Inv (aI X scope k.heap.objs.size t L k (upd B f.heap.objs.size (.lst [])) l) ([]++ko l s7.heap) (P++G) H9 s9->(∃I,I<n/\W (i+1) I H9)->
    ∃m,m<n/\∃(i:Nat)(H:List (Option V))(H':Hp),H.length=t.length/\Inv (aI X scope k.heap.objs.size t L k (upd B f.heap.objs.size (.lst [])) l) [] (H++G) H' s9/\tn i s9.heap/\(∀b∈l,H' b=none)/\W i m H':=λ{s9 H9} I9 ⟨I,hm,w9⟩=>by
    refine⟨I,hm,i+1,P,H9,hv1,I9.iA,T.keep _ _ _ Q7 λb j o e=>(I9.pin (b,o) (Fk _ (Fk _ (fh j e)))).1,λb j=>?_,w9⟩;obtain⟨o,e,d⟩:=T.obj _ _ Q7 b j;exact(I9.pin (b,o) (Fk _ (Fk _ (fh j e)))).2.1
   refine bq (hf _ _ _ _ _ s8 (P++G) H8 _ I8 q8) ?_;rintro ok s9 ⟨H9,I9,q9⟩;cases ok with
   |false=>exact fin I9 q9
   |true=>show wpAny _ _ _ _ _ _;refine bq (he _ _ _ _ _ s9 (P++G) H9 _ I9 q9) ?_;rintro y Ur ⟨vy,Us,Ut,Uu,ys,hys,hl,Uv⟩;refine bq (nA (X:=aI X scope k.heap.objs.size t L k (upd B f.heap.objs.size (.lst [])) l) _ Ur (P++G) Us (.ref f.heap.objs.size) [vy] _ [y] (λ_ H'=>∃I,I<n/\W (i+1) I H') Ut rfl (.cons Uu .nil) ⟨_,ys,vy,rfl,rfl,hys,hl,Uv⟩) ?_;rintro _ V4 ⟨_,V5,Uw,_,Ux⟩;exact fin Uw Ux
 rw[hC];exact codeAny_compStart_list R (T.self X.A 0 _ _ _ SD R)
theorem DC{tg a j:Expr}{i:List Expr}{scope:Scope}(d l:List Str){pos:Pos}{r:TI}{g:TG}{tc:TT}{te:TE}(M:X.calm=true)(y:cK scope X.env.scope X.N l d=true)(E:PI X tg a r)
 (G:∀C f k c,PG (aI X scope C d l f k c) tg g)(K:∀C f k c,PF (aI X scope C d l f k c) i tc)(L:∀C f k c,PE (aI X scope C d l f k c) j te)
 (u:∀z,foldedSetIterable a X.env z=pure z:=by intro _;rfl):PE X (.ListComp j [⟨tg,a,i,0⟩] scope pos) (Ak d.length r g tc te):=by
 intro b s p H Q I h;have O:=dS.of y;rw[eval_ListComp];refine wpAny_comprehension_free (use:=none) rfl u (kO (gP I O)) O.kind O.loc (bq (E b s p H _ I h) λv s1 S=>bq S λt s2 R=>?_);obtain⟨it,c,tn,J,H2,e,Z,T,n,Y,x⟩:=R;subst e;refine kQ (RR:=λo C=>compPost (model X.prog X.w) X.A X.xe none (EP X b p Q) o C) M O G K L Z T n Y x ?_;rintro D C s' H' ⟨m,B⟩ P _ _ _ q;exact⟨m,B,λU GD=>⟨.ref D,H',P U GD,rfl,q⟩⟩
end
theorem nI{c:List Bool}:∀{a:List Value},Vals (c.map V.bl) a->a=c.map Value.bool:=by
 induction c with
 |nil=>intro a r;rw[OQ]at r;cases r;rfl
 |cons b c g=>
  intro a r;rw[P3]at r;cases r with
  |cons f d=>have e:_=Value.bool b:=f;rw[e,g d];rfl
theorem t7(d:List Bool):((Ea d.length).all λi=>(d[i]?).getD true)=d.all id:=by
 rw[WD,He,He];constructor
 .intro h b e;obtain⟨i,c,rfl⟩:=T2 e;have:=h i (Kb.mpr c);simp only[B1 c,IS]at this;exact this
 .intro h i c;have a:=Kb.mp c;simp only[B1 a,IS];exact h _ (L9 a)
section
variable{X:Cx}
theorem xX(k:X.calm=true):bK X (.builtin "sum") (λa H Q=>∃(p:Addr)(ns:List Int),a=[.ref p]/\eE X.K H p (ns.map V.int)/\Q (.int ns.sum) H):=by
 intro d s o H a t Q I r h;obtain⟨p,ns,rfl,l,q⟩:=h;obtain⟨u,rfl,g⟩:=Vals.one r;cases(show u=Value.ref p from g);obtain⟨b,rv,i,_⟩:=I.list l;have f:=intsAre_of rv;obtain⟨a,e⟩:=f.allInts.items;have c:s.heap.IsList p (intItems a):=e▸i.isList;refine sum_intListG (I.ok.hd k) c λx v w j=>?_;have n:ns=a.toList.map (·.1):=by rw[<-nums_intItems,<-e];exact(show numsOf b.toArray.toList=ns from f.numsOf).symm
 have m:preSum (numAt a) a.size=ns.sum:=by rw[preSum_eq,List.take_of_length_le (by simp),n]
 rw[m];exact⟨.int ns.sum,H,I.kept j,⟨_,rfl⟩,q⟩
theorem xY(y:X.calm=true):bK X (.builtin "all") (λj H Q=>∃(p:Addr)(c:List Bool),j=[.ref p]/\eE X.K H p (c.map V.bl)/\Q (.bl (c.all id)) H):=by
 intro k s E H j G Q I r h;obtain⟨p,c,rfl,B,q⟩:=h;obtain⟨u,rfl,n⟩:=Vals.one r;cases(show u=Value.ref p from n);obtain⟨a,rv,t,_⟩:=I.list B;have l:=nI rv;have g:=t.isList;have f:p<s.heap.objs.size:=by obtain⟨_,e,_⟩:=g;exact FM e
 refine call_all_walk (wpAny_pyIter_list g ?_);refine⟨s.heap.objs.size,[s.heap.objs.size,p],[s.heap.objs.size],a.toArray.size,_,_,λi=>(c[i]?).getD true,rfl,Walks.list (A:=X.A.in1) (I.ok.hd y) _ p (Ha f) a.toArray,
  ⟨⟨_,Fn _ rfl,rfl,rfl⟩,g.push _⟩,λi v L N O C m=>?_,λM J x=>?_⟩
 .have d:a[i]?=some v:=by simpa using C
  rw[l,Da]at d;cases e:c[i]? with
  |none=>rw[e]at d;cases d
  |some b=>rw[e]at d;simp only[e,IS]at m;have:v=Value.bool b:=(Hk d).symm;subst this;exact Pi m
 .have e:((Ea a.toArray.size).all λi=>(c[i]?).getD true)=c.all id:=by
   have D:a.toArray.size=c.length:=by rw[Do,l,AN]
   rw[D];exact t7 c
  rw[e];exact⟨.bl _,H,I.kept λb o z=>x b o (λw=>by rw[Ee.mp w]at z;exact Mo _ (FM z)) (D1 _ z),rfl,q⟩
theorem DE{i:Nat}{x:Str}{tg f r:Expr}{k:List Expr}{scope:Scope}{d pos t:Pos}(G R:List Str){wi:TI}{g:TG}{tc:TT}{te:TE}(hN:X.N.Nodup)(hi:X.N[i]?=some x)(B:Loc X.env.scope x)(hc:X.calm=true)(ho:cK scope X.env.scope X.N R G=true)(Nl:PI X tg f wi)
 (hg:∀C L P K,PG (aI X scope C G R L P K) tg g)(hf:∀C L P K,PF (aI X scope C G R L P K) k tc)(he:∀C L P K,PE (aI X scope C G R L P K) r te)
 (hsw:swapsWith (.ListComp r [⟨tg,f,k,0⟩] scope pos) (some (.Name x d)) t.line X.env=pure true:=by rfl)
 (hs:∀z,foldedSetIterable f X.env z=pure z:=by intro _;rfl)(hfn:X.fn x=true\/X.env.scope.names.lookup x=some .local:=by first|exact .inl rfl|exact .inr rfl|assumption):
 PS X (.Assign [.Name x d] (.ListComp r [⟨tg,f,k,0⟩] scope pos) t) (mJ (Ak G.length wi g tc te) (fT i)):=by
 intro j s S H W I h;have O:=dS.of ho;rw[exec_Assign_Name_used _ _ _ _ hsw];refine Dx (WZ (Dx ?_));show wpAny _ X.A (do let _<-comprehension (.ListComp r [⟨tg,f,k,0⟩] scope pos) scope X.env _ (newList []) false (eval f X.env) (some (assign (.Name x d) X.env))) _ _ s;refine Dx (RF (wpAny_comprehension_free (use:=some (assign (.Name x d) X.env)) (Q:=λ_ s'=>SP X j W .next s') rfl hs (kO (gP I O)) O.kind O.loc (bq (Nl j s S H _ I h) λv s1 h1=>bq h1 λitv s2 h2=>?_)) (λ_ s' hq=>KB (KB hq)) λ_ _ e=>e);obtain⟨it,K,tn,J,H2,e,M,T,U,f2,hq⟩:=h2;subst e;refine kQ (Q:=λx H1=>fT i x S H1 W.nx) (RR:=λacc C=>compPost (model X.prog X.w) X.A X.xe (some (assign (.Name x d) X.env)) (λ_ s'=>SP X j W .next s') acc C) hc O hg hf he M T U f2 hq ?_;rintro D C s' H' ⟨m,hm⟩ hI _ hC fC q;have I':Inv X j S H' s':=hI s'.heap ⟨rfl,λ_ _=>rfl⟩;have Z:∀b o,s2.heap.get? b=some o->b≠C:=λb o e=>Ha (GM (FM e) hC);have nL:C≠X.env.locals:=λe=>by obtain⟨m2,hn2,_⟩:=M.loc;obtain⟨o,_,_,ho2,_⟩:=hn2;exact Z _ o ho2 e.symm
 have nC:∀y c,X.env.cells.lookup y=some c->c≠C:=λy c e z=>by obtain⟨v,o,e1,_⟩:=M.cell y c e;exact Z _ o e1 z
 have nP:∀p∈X.pn++j,p.1≠C:=λp hp z=>Z _ _ (M.pin p hp).1 z;show wpAny _ X.A (assign (.Name x d) X.env (.ref D)) _ _ _;refine wpAny_assign_Name (m8 I' hN hi B (v:=.ref D) rfl (λY Q8 hsm=>?_) hfn);obtain⟨a,GD,ha⟩:=hsm;have aC:a≠C:=by
  rcases ha with rfl|ha
  .exact NM nL
  .exact nC x a ha
 refine⟨m,hm.sameBut GD (NM aC),λh' l=>⟨_,H',?_,q⟩⟩;refine Q8.Gi (s':={Y with heap:=h'}) (H':=H') (ch:=[C]) rfl ⟨λb o e n E B=>l.extBut b o (λz=>B (by rw[z];exact Ee.mpr rfl)) e,λb o e n E B=>⟨o.slots,l.extBut b o (λz=>B (by rw[z];exact Ee.mpr rfl)) e⟩,λb o e n B=>n,λb o e B=>⟨o,l.extBut b o (λz=>B (by rw[z];exact Ee.mpr rfl)) e⟩,λb G q=>q,λb o u q=>q,λb ps q=>⟨#[],by rw[Array.append_empty];exact q⟩⟩ (λa o e=>?_) Q8.bare (λb E=>?_)
 .refine(Q8.hok a o e).stay (λb u E q=>l.extBut b u ?_ q) (λ_ q=>q) λ_ _ q=>q;rintro rfl;rcases E with rfl|E
  .rw[fC]at e;cases e
  .rw[fC]at E;cases E
 .rw[Ee.mp E];exact⟨.inr (Hn M.sz hC),nL,λy c e z=>nC y c e z,nP⟩
noncomputable def PR(a st:Int)(n:Nat):It:=⟨λi _=>i<n,λi H x b=>b=H/\x=.int (a+i*st),λi _=>n<=i⟩
theorem rJ{P:Program}{w:World}{K:Frag}{tg:Expr}(c:Addr)(g st:Int)(n:Nat):Turn P w K tg (PR g st n) [c] c (λi h=>IsRangeIter h c (g+(i:Nat)*st) ((n:Int) -(i:Nat)) st)where
 mem:=by simp
 obj:=λi h st b d=>by
  have e:b=c:=by simpa using d
  subst e;exact⟨_,st,λv z=>by have L:Data.fields _=Data.cell v:=z;cases L⟩
 keep:=λi h l st k=>k c (by simp) _ st
 item:=by intro X r m u q i a s G H E I j D p;subst r m u;obtain⟨C,B,O,A,y,x⟩:=j c (by simp);have W:=Walks.range (prog:=X.prog) (w:=X.w) (I.ok.hd q) c g st n;refine W.item i s _ _ p D λv l J N f M=>?_;obtain⟨t,rfl⟩:=N;have I1:Inv X a G H {s with heap:=l,toks:=J}:=I.turned (λb o d e=>M b o (by simpa using d) e) C B A y x;exact⟨_,rfl,qN (s:={s with heap:=l,toks:=J}) (n:="range_iterator") f rfl rfl (by decide) ⟨.int (g+i*st),H,I1,⟨t,rfl⟩,⟨rfl,rfl⟩,f,λb d=>(j b d).1⟩⟩
 done:=by intro X r m u q i a s G H E I j D p;subst r m u;obtain⟨C,B,O,A,y,x⟩:=j c (by simp);exact wpAny_pyNext_range_end (I.ok.hd q) D (by have:n<=i:=p;omega) λl Q=>⟨rfl,I.turned (t':=s.toks) (λb o d e=>Q b o d e) C B A y x⟩
 self:=λ_ _ _ _ _ st h=>wpAny_pyIter_rangeiter st h
theorem xZ{tg:Expr}{c:List (Addr×Obj)}{f:St}{H:Hp}{s:Shared}{R:It->Hp->Prop}{E:Value->Shared->Prop}{a d st:Int}{n:Nat}{t u v:Tok}{g:Nat}(I:Inv X c f H s)(h:Builtin.Range.small a d st=true)(i:Builtin.Range.rangeSize a d st=(n:Int))
 (q:R (PR a st n) H):wpAny (model X.prog X.w) X.A (pyIter (.ref s.heap.objs.size)) (Qx X c f tg R) E {s with heap:=s.heap.push {cls:=.type "range",data:=.fields #[.int a t,.int d u,.int st v]},toks:=g}:=by
 refine wpAny_pyIter_range (IsRange.new ..) h ?_;have I1:Inv X c f H {s with heap:=s.heap.push {cls:=.type "range",data:=.fields #[.int a t,.int d u,.int st v]},toks:=g}:=I.kept λb o e=>D1 _ e;refine⟨(s.heap.push {cls:=.type "range",data:=.fields #[.int a t,.int d u,.int st v]}).objs.size,[(s.heap.push {cls:=.type "range",data:=.fields #[.int a t,.int d u,.int st v]}).objs.size],_,_,H,rfl,
  I1.kept (t':=g) λb o e=>D1 _ e,rJ _ a st n,?_,λb j=>?_,q⟩
 .have l:a+((0:Nat):Int)*st=a:=by simp
  have k:(n:Int) -((0:Nat):Int)=Builtin.Range.rangeSize a d st:=by rw[i];simp
  show IsRangeIter _ _ (a+((0:Nat):Int)*st) ((n:Int) -((0:Nat):Int)) st;rw[l,k];exact Fn _ rfl
 .have e:b=(s.heap.push {cls:=.type "range",data:=.fields #[.int a t,.int d u,.int st v]}).objs.size:=by simpa using j
  subst e;exact I1.mK (BM _) (I1.hok.fresh (BM _))
noncomputable def Nm(ta:TA):TI:=λa H R=>ta a H λb c=>∃(i j k:Int)(n:Nat),b=[.int i,.int j,.int k]/\(k≠0/\k.natAbs<1073741824/\Builtin.Range.small i j k=true/\Builtin.Range.rangeSize i j k=(n:Int))/\R (PR i k n) c
theorem x6{tg a b c:Expr}{ta:TA}{p pos:Pos}(C:Gl X "range")(B:X.mg "range"=none)(D:PA X [a,b,c] ta)(A:starEach [a,b,c] X.env=[(false,eval a X.env),(false,eval b X.env),(false,eval c X.env)]:=by rfl)(g:starEach [b,c] X.env=[(false,eval b X.env),(false,eval c X.env)]:=by rfl):
 PI X tg (.Call (.Name "range" p) [a,b,c] [] pos) (Nm ta):=by
 intro f s o H R I h;refine Call_ (dj I C B boot_range (Kt (bq (D pos f s o H _ I h) λG K ⟨E,L,I1,v,m⟩=>?_) (by rw[A,g]) (by rw[g];rfl)));obtain⟨i,j,k,n,e,⟨m,z,y,x⟩,q⟩:=m;subst e;cases v with
 |cons r d=>
  cases d with
  |cons w d=>
   cases d with
   |cons l d=>
    cases d;obtain⟨t,rfl⟩:=r;obtain⟨J,rfl⟩:=w;obtain⟨u,rfl⟩:=l;exact call_range_3 m (xZ I1 y x q) (.inl (S2 z))
end
end L2
namespace L2
open PySem
end L2
namespace L2
open PySem PySem.Spec PyProof.Rows
noncomputable def Dt(X:Cx)(H:Hp)(x:V)(d:PyData):Prop:=
 ∀(a:List (Addr×Obj))(b:St)(s:Shared)(u:Value),Inv X a b H s->RelV x u->∃c,Reads s.heap u d c
section
variable{X:Cx}{H:Hp}
theorem IZ(i:Int):Dt X H (.int i) (.int i):=λ_ _ s u _ r=>by obtain⟨t,rfl⟩:=r;exact⟨_,.int i t⟩
theorem Nn(b:Bool):Dt X H (.bl b) (.bool b):=λ_ _ s u _ r=>by
 cases(show u=Value.bool b from r);exact⟨_,.bool b⟩
theorem I0(x:Str):Dt X H (.str x) (.str x):=λ_ _ s u _ r=>by obtain⟨t,rfl⟩:=r;exact⟨_,.str x t⟩
theorem Ja:Dt X H .aJ .none:=λ_ _ s u _ r=>by
 cases(show u=Value.none from r);exact⟨_,.none⟩
theorem t8{a:List (Addr×Obj)}{e:St}{s:Shared}(I:Inv X a e H s):∀{b:List V}{ds:List PyData}{c:List Value},Paired (Dt X H) b ds->Vals b c->∃d,ReadsAll s.heap c ds d
 |_,_,_,.nil,.nil=>⟨_,.nil⟩
 |_,_,_,.cons h t,.cons r f=>by obtain⟨d,q⟩:=h _ _ _ _ I r;obtain⟨i,g⟩:=t8 I t f;exact⟨_,.cons q g⟩
theorem An{a:Addr}{c:List V}{ds:List PyData}(h:eE X.K H a c)(b:Paired (Dt X H) c ds):Dt X H (.ref a) (.list ds):=λ_ _ s u I r=>by
 cases(show u=Value.ref a from r);obtain⟨e,rv,d,_⟩:=I.list h;obtain⟨j,q⟩:=t8 I b rv;obtain⟨o,f,i,n,g⟩:=d.isList;exact⟨_,.list f i g (by simpa using q)⟩
theorem Jb{a:Addr}{c:List V}{ds:List PyData}(h:ie X.K H a c)(b:Paired (Dt X H) c ds):Dt X H (.ref a) (.tuple ds):=λ_ _ s u I r=>by
 cases(show u=Value.ref a from r);obtain⟨d,rv,e,_⟩:=I.tuple h;obtain⟨j,q⟩:=t8 I b rv;obtain⟨o,f,i,n,g⟩:=e;exact⟨_,.tuple f i g (by simpa using q)⟩
noncomputable def Ra(X:Cx):R2:=λx y H Q=>∃b a,Dt X H x b/\Dt X H y a/\(SeqAt.shaped b=true/\SeqAt.shaped a=true/\SeqAt.noMix b a=true)/\Q (.bl (PySem.Spec.same b a)) H
noncomputable def Rb(X:Cx):R2:=λx y H Q=>∃b a,Dt X H x b/\Dt X H y a/\(SeqAt.shaped b=true/\SeqAt.shaped a=true/\SeqAt.noMix b a=true)/\Q (.bl (!PySem.Spec.same b a)) H
theorem Jc(j:X.A.units+64<cLine):gD X (compareOp .Eq) (Ra X):=by intro a s m H x y v u Q I c b h;obtain⟨o,n,l,k,⟨i,g,f⟩,q⟩:=h;obtain⟨r,e⟩:=l _ _ _ _ I c;obtain⟨p,d⟩:=k _ _ _ _ I b;exact eq_dataH_same e d i g j f ⟨.bl _,H,I,rfl,q⟩
theorem Jd(j:X.A.units+64<cLine):gD X (compareOp .NotEq) (Rb X):=by intro a s m H x y v u Q I c b h;obtain⟨o,n,l,k,⟨i,g,f⟩,q⟩:=h;obtain⟨r,e⟩:=l _ _ _ _ I c;obtain⟨p,d⟩:=k _ _ _ _ I b;exact ne_dataH_same e d i g j f ⟨.bl _,H,I,rfl,q⟩
end
noncomputable def Rc(K:Frag)(a:Addr):It:=⟨λi H=>∃b x,eE K H a b/\b[i]?=some x,λi H x c=>∃p y,H p=none/\x=.ref p/\c=upd H p (.tup [.int i,y])/\∀b,eE K H a b->b[i]?=some y,λi H=>∃b,eE K H a b/\b.length=i⟩
theorem Inv.Np{X:Cx}{a:List (Addr×Obj)}{l:St}{H:Hp}{s:Shared}{h':Heap}{t':Nat}{ch:List Addr}{p:Addr}{h:List V}(I:Inv X a l H s)(j:∀b∈ch,dw X a H b)
 (k:∀b o,b∉ch->s.heap.get? b=some o->h'.get? b=some o)(t:s.heap.objs.size<=p)(i:bF X.prog X.w (upd H p (.tup h)) h' p (.tup h))(N:∀b∈ch,∃o,h'.get? b=some o):Inv X a l (upd H p (.tup h)) {s with heap:=h',toks:=t'}:=by
 have f:H p=none:=I.hok.fresh t;have x:∀b u,H b=some u->b∉ch:=λb u e z=>by rw[(j b z).1]at e;cases e
 have L:∀b o,s.heap.get? b=some o->b≠p:=λb o e z=>absurd (GM (FM e) t) (by rw[z];exact Mo _);refine I.step (g':=s.gens) (d':=s.drawn) (ch:=ch) (λb g=>?_) (λb o _ _ d e _=>k b o d e) (λb o _ _ d e _=>⟨o.slots,k b o d e⟩) (λb o _ e n=>by rw[ay (L b o e)];exact n)
  (λb o d e=>⟨o,k b o d e⟩) (λb y e=>by rw[ay (aS e f)];exact e) (λb o u e=>by rw[ay (aS e f)];exact e) (λb M e=>⟨#[],by rw[ay (aS e f),e];simp⟩) (λm B=>?_) (λb u e=>?_) I.bare
 .obtain⟨P,G,O,E,D,C⟩:=j b g;exact⟨E,G,D,C⟩
 .obtain⟨o,J,K,A,r⟩:=B;exact⟨o,J,K,k _ o (λz=>(j _ z).2.1 rfl) A,r⟩
 .by_cases g:b=p
  .subst g;rw[aQ]at e;cases e;exact i
  .rw[ay g]at e;refine(I.hok b u e).stay (λc v d q=>k c v ?_ q) (λc q=>by rw[ay (aS q f)];exact q) λc y q=>by rw[ay (aS q f)];exact q
   rcases d with z|z
   .rw[z];exact x b u e
   .exact x c _ z
theorem x8{P:Program}{w:World}{K:Frag}{C:List Expr}{kk:Nat}{pos:Pos}(a e l:Addr)(S:e≠l):
 Turn P w K (.Tuple C kk pos) (Rc K a) [e,l] e (λi h=>(∃f,IsEnum h e l i f)/\h.IsListIter l a i)where
 mem:=by simp
 obj:=λi h q b m=>by
  obtain⟨⟨f,n⟩,o,r,c,d⟩:=q;rcases GE.mp m with z|z
  .subst z;exact⟨_,n,λv z=>by cases z⟩
  .rw[Ee.mp z];exact⟨o,r,λv z=>by rw[d]at z;cases z⟩
 keep:=λi h h' q k=>by obtain⟨⟨f,n⟩,G⟩:=q;exact⟨⟨f,k e (by simp) _ n⟩,G.at λo x=>k l (by simp) o x⟩
 item:=by
  intro X hP hw hK hc i N s σ H E I M q hg;subst hP hw hK;obtain⟨xs,x,Z,Y⟩:=hg;obtain⟨j,rv,p,hz⟩:=I.list Z;obtain⟨u,hu,ru⟩:=rv.get Y;obtain⟨⟨f,n⟩,G⟩:=q;have hit:=M l (by simp);have hee:=M e (by simp);have J:a≠l:=λz=>by obtain⟨o,r,c,d⟩:=G;obtain⟨o',g,L,_⟩:=p.isList;rw[z,r]at g;cases g;rw[c]at L;exact absurd L (by decide)
  have Uz:a≠e:=λz=>by obtain⟨o',g,L,_⟩:=p.isList;have B:s.heap.get? e=some _:=n;rw[z,B]at g;cases g;exact absurd (show Value.type "enumerate"=Value.type "list"from L) (by decide)
  have D:=Draws.list (prog:=X.prog) (w:=X.w) (A:=X.A.in1) (I.ok.hd hc) l a J j.toArray;have W:=WalksT.enumerateD D e S (by simp[S,Uz.symm]) (by simp);have hlt:i<j.toArray.size:=by have:=(Fh.mp hu).1;simpa using this
  refine W.item i s _ _ hlt ⟨⟨f,n⟩,G,p.isList⟩ λT vals h' tk UA hT Rg Nq hk=>?_;obtain⟨t,y,hy,rfl⟩:=UA;have UB:y=u:=by
   have:j[i]?=some y:=by simpa using hy
   rw[hu]at this;exact(Hk this).symm
  subst UB;refine⟨.ref T,rfl,W.go C kk pos i T _ _ _ Nq λU hst R=>?_⟩;have SH:T∉[e,l]:=W.apart i T h' Nq;obtain⟨⟨O,B⟩,Q,_⟩:=hst;have Nr:IsTup U T #[.int i t,y]:=by obtain⟨o,r,c⟩:=Rg;exact⟨o,R T o SH r,c⟩
  have obj:bF X.prog X.w (upd H T (.tup [.int i,x])) U T (.tup [.int i,x]):=⟨xW (by show 2<=100000;decide),[.int i t,y],.cons ⟨t,rfl⟩ (.cons ru .nil),Nr⟩;have I2:=I.Np (t':=tk) (ch:=[e,l]) M (λb o m eo=>R b o m (hk b o m eo)) hT obj (λb m=>by
   rcases GE.mp m with z|z
   .rw[z];exact⟨_,B⟩
   .rw[Ee.mp z];obtain⟨o,r,_⟩:=Q;exact⟨o,r⟩)
  refine⟨.ref T,upd H T (.tup [.int i,x]),I2,rfl,⟨T,x,I.hok.fresh hT,rfl,rfl,λys hy=>by rw[I.kj hy Z];exact Y⟩,⟨⟨O,B⟩,Q⟩,λb m=>?_⟩;rw[ay (show b≠T from λz=>SH (by rw[<-z];exact m))];exact(M b m).1
 done:=by
  intro X hP hw hK hc i N s σ H E I M q hg;subst hP hw hK;obtain⟨xs,Z,Y⟩:=hg;obtain⟨j,rv,p,hz⟩:=I.list Z;obtain⟨⟨f,n⟩,G⟩:=q;obtain⟨f0,f1,f2,f3,f4,f5⟩:=M l (by simp);have J:a≠l:=λz=>by obtain⟨o,r,c,d⟩:=G;obtain⟨o',g,L,_⟩:=p.isList;rw[z,r]at g;cases g;rw[c]at L;exact absurd L (by decide)
  have D:=Draws.list (prog:=X.prog) (w:=X.w) (A:=X.A.in1) (I.ok.hd hc) l a J j.toArray;have hn:j.toArray.size=i:=by rw[Do,<-rv.length];exact Y
  exact wpAny_pyNext_enum_endD D n ⟨by rw[hn];exact G,p.isList⟩ λh' eb=>⟨rfl,I.turned (t':=s.toks) (λb o m x=>eb b o m x) f0 f1 f3 f4 f5⟩
 self:=λ_ _ _ _ _ q h=>by obtain⟨⟨f,n⟩,_⟩:=q;exact wpAny_pyIter_enum n h
section
variable{X:Cx}
noncomputable def Nt(K:Frag)(ta:TA):TI:=λc H R=>ta c H λe b=>∃a,e=[.ref a]/\(∃d,eE K b a d)/\R (Rc K a) b
theorem DF{a:Expr}{ta:TA}{f:List Expr}{t:Nat}{k p pos:Pos}(E:Gl X "enumerate")(B:X.mg "enumerate"=none)(J:PA X [a] ta)(w:bootBuiltins "enumerate"=some (.type "enumerate"):=by rfl)(y:starEach [a] X.env=[(false,eval a X.env)]:=by rfl):
 PI X (.Tuple f t k) (.Call (.Name "enumerate" p) [a] [] pos) (Nt X.K ta):=by
 intro c s g H R I h;refine Call_ (dj I E B w (Kt (bq (J pos c s g H _ I h) λP d ⟨O,j,I1,n,o⟩=>?_) y rfl));obtain⟨l,e,⟨N,A⟩,q⟩:=o;subst e;obtain⟨u,rfl,m⟩:=Vals.one n;cases(show u=Value.ref l from m);obtain⟨v,rv,r,_⟩:=I1.list A;refine call_enumerate_list r.isList λL i C x D=>?_;refine wpAny_pyIter_enum i ?_;have M:Inv X c g j {d with heap:=L}:=I1.kept (t':=d.toks) D;refine⟨d.heap.objs.size+1,[d.heap.objs.size+1,d.heap.objs.size],_,_,j,rfl,M,x8 l (d.heap.objs.size+1) d.heap.objs.size (Nat.succ_ne_self _),⟨⟨_,i⟩,C⟩,λb G=>?_,q⟩;rcases GE.mp G with z|z
 .rw[z];exact I1.mK (by lia) (I1.hok.fresh (by lia))
 .rw[Ee.mp z];exact I1.mK (BM _) (I1.hok.fresh (BM _))
end
noncomputable def Rh(K:Frag)(a:Addr)(n:Nat):It:=
 ⟨λi H=>∃b,eE K H a b/\b.length=n/\i<n,λi H x c=>c=H/\∀b,eE K H a b->b.length=n->b[n -1 -i]?=some x,λi _=>i=n⟩
theorem Ao{P:Program}{w:World}{K:Frag}{tg:Expr}(a l:Addr)(n:Nat):Turn P w K tg (Rh K a n) [l] l (λi h=>h.IsRevIter l a ((n:Int) -1 -(i:Int)))where
 mem:=by simp
 obj:=λi h f b m=>by
  have e:b=l:=by simpa using m
  subst e;obtain⟨o,e,c,d⟩:=f;refine⟨o,e,λv z=>?_⟩;rw[d]at z;cases z
 keep:=λi h r f k=>f.at λo e=>k l (Ee.mpr rfl) o e
 item:=by
  intro X B t C S i g s N H E I q f A;subst B t C;obtain⟨O,R,hn,hi⟩:=A;obtain⟨Y,rv,p,hz⟩:=I.list R;have Q:O[n -1 -i]?=some (O[n -1 -i]'(by omega)):=B1 (by omega);obtain⟨u,hu,U⟩:=rv.get Q;obtain⟨M,L,f2,J,G,D⟩:=q l (Ee.mpr rfl);have e:(n:Int) -1 -(i:Int)=((n -1 -i:Nat):Int):=by omega
  rw[e]at f;refine wpAny_pyNext_rev_item f p.isList (x:=u) (by simpa using hu) λr j T=>?_;have e2:((n -1 -i:Nat):Int) -1=(n:Int) -1 -((i+1:Nat):Int):=by omega
  rw[e2]at j;have I1:Inv X g N H {s with heap:=r}:=I.turned (t':=s.toks) (λb o m z=>(T.2 b m).trans z) M L J G D;obtain⟨o,e3,c,d⟩:=id j;exact⟨u,rfl,qN (s:={s with heap:=r}) e3 c d (by decide) ⟨_,H,I1,U,⟨rfl,λys Z _=>by rw[I.kj Z R];exact Q⟩,j,λb m=>(q b m).1⟩⟩
 done:=by
  intro X B t C S i g s N H E I q f A;subst B t C;have y:i=n:=A;subst y;obtain⟨M,L,f2,J,G,D⟩:=q l (Ee.mpr rfl);have e:(i:Int) -1 -(i:Int)= -1:=by omega
  rw[e]at f;exact wpAny_pyNext_rev_end (I.ok.hd S) f λr eb=>⟨rfl,I.turned (t':=s.toks) (λb o m z=>eb b o m z) M L J G D⟩
 self:=λ_ _ _ _ _ f h=>wpAny_pyIter_revIter f h
section
variable{X:Cx}{tg:Expr}
noncomputable def Ri(K:Frag)(ta:TA):TI:=λd H R=>ta d H λe c=>∃a b,e=[.ref a]/\eE K c a b/\R (Rh K a b.length) c
theorem Je{a:Expr}{ta:TA}{p pos:Pos}(y:Gl X "reversed")(x:X.mg "reversed"=none)(B:PA X [a] ta)(t:bootBuiltins "reversed"=some (.type "reversed"):=by rfl)(v:starEach [a] X.env=[(false,eval a X.env)]:=by rfl):
 PI X tg (.Call (.Name "reversed" p) [a] [] pos) (Ri X.K ta):=by
 intro d s j H R I h;refine Call_ (dj I y x t (Kt (bq (B pos d s j H _ I h) λG c ⟨E,D,I1,m,n⟩=>?_) v rfl));obtain⟨l,f,e,w,q⟩:=n;subst e;obtain⟨u,rfl,k⟩:=Vals.one m;cases(show u=Value.ref l from k);obtain⟨g,rv,r,_⟩:=I1.list w;refine call_reversed_list r.isList ?_;have C:((g.toArray.size:Nat):Int) -1=(f.length:Int) -1 -((0:Nat):Int):=by have:=rv.length;simp;omega
 rw[C];have i:Heap.IsRevIter (c.heap.push (revObj l ((f.length:Int) -1 -((0:Nat):Int)))) c.heap.objs.size l ((f.length:Int) -1 -((0:Nat):Int)):=⟨_,Fn _ rfl,rfl,rfl⟩;refine wpAny_pyIter_revIter i ?_;refine⟨c.heap.objs.size,[c.heap.objs.size],_,_,D,rfl,I1.kept (t':=c.toks) λb o z=>D1 _ z,Ao l _ f.length,i,λb A=>?_,q⟩;have e:b=c.heap.objs.size:=by simpa using A
 subst e;exact I1.mK (BM _) (I1.hok.fresh (BM _))
end
theorem x9:typeLookup (.type "list_reverseiterator") "__len__"=pure none:=by
 rw[typeLookup_type,builtinLookup_eq_fast]
 kernel_rfl
theorem Aq:typeLookup (.type "list_reverseiterator") "__length_hint__"=pure (some (.builtin "list_reverseiterator.__length_hint__")):=by
 rw[typeLookup_type,builtinLookup_eq_fast]
 kernel_rfl
section
variable{prog:Program}{w:World}{A:Around}{E:Value->Shared->Prop}
abbrev DG(xs:Array Value)(c:Nat):Obj:={cls:=.type "list",dict:=none,data:=.seq xs c,slots:= #[]}
theorem DH{s:Shared}{R:Result->Shared->Prop}{J l S:Addr}{vs:Array Value}{g:Value}{C:Nat}(u:A.handled=none)(t:s.heap.IsList l vs)(d:s.heap.IsRevIter J l ((vs.size:Int) -1))(r:l≠J)(n:S≠J)(p:S≠l)(x:s.heap.get? S=some (DG #[] C))(hz:vs.size<=sizeLine)
 (y:∀(s':Shared)(j:Array Value)(c:Nat),Moved [S,J] (λa b=>b=a) s s'->s'.heap.get? S=some (DG j c)->ItemsOf (λi v=>vs[vs.size -1 -i]?=some v) j vs.size->R (.ok (.ret g)) s'):
 wpAny (model prog w) A.in1 (Builtin.List.listExtendWith (.ref S) (.ref J) g) (λk s'=>match k with
  |.done f=>R (.ok f) s'
  |.again o=>o.quiet=true/\codeAny (model prog w) A o R s') (λe s'=>R (.error e) s') s:=by
 have V:=(Walks.listRev (prog:=prog) (w:=w) (A:=A.in1) u J l r vs).toS;have q:S∉[J,l]:=λm=>by simp only[GE,WR,or_false]at m;exact m.elim n p
 have z:0<=vs.size/\s.heap.IsRevIter J l ((vs.size:Int) -1 -((0:Nat):Int))/\s.heap.IsList l vs:=⟨KE _,by rw[show(vs.size:Int) -1 -((0:Nat):Int)=(vs.size:Int) -1 by lia];exact d,t⟩;have B:Builtin.List.listSameRef (.ref S) (.ref J)=false:=by simp[Builtin.List.listSameRef,n]
 unfold Builtin.List.listExtendWith;refine Dx (wpAny_typeOf d.typeIs ?_);rw[Bi (by rw[B];decide)];refine Dx (wpAny_pyIter_revIter d ?_);refine Dx (Wo ?_);unfold Builtin.List.listLengthHint;refine Dx (wpAny_specialOf d.typeIs x9 ?_);show wpAny _ A.in1 (specialOf (Value.ref J) (Str.ofString "__length_hint__")>>=_) _ _ _;refine Dx (wpAny_specialOf d.typeIs Aq ?_);generalize h:("list_reverseiterator.__length_hint__":String)=D
 wp_delta
 rw[show splitId D=some ("list_reverseiterator","__length_hint__")from by subst h;decide+kernel];subst h;refine Dx (wpAny_isInstance (b:=true) d.typeIs (by rw[isSubtype_type];kernel_rfl) ?_);refine KB ?_;rw[Bi (by decide)];refine KB ⟨plainId_quiet F.plain_extend_loop _,codeAny_extend_loopS V hz _ q _ vs.size 0 _ _ _ rfl (KE _) z x (ItemsOf.nil _) ?_⟩;exact y
theorem mQ{s:Shared}{Q:Value->Shared->Prop}{J l:Addr}{vs:Array Value}(D:A.handled=none)(q:s.heap.IsList l vs)(r:s.heap.IsRevIter J l ((vs.size:Int) -1))(y:l≠J)(hz:vs.size<=sizeLine)
 (G:∀(h':Heap)(t:Nat)(a:Array Value)(c:Nat),(∀b o,b≠J->s.heap.get? b=some o->h'.get? b=some o)->h'.get? s.heap.objs.size=some (DG a c)->ItemsOf (λi v=>vs[vs.size -1 -i]?=some v) a vs.size->Q (.ref s.heap.objs.size) {s with heap:=h',toks:=t}):
 wpAny (model prog w) A (call (.type "list") [.ref J]) Q E s:=by
 have I:J<s.heap.objs.size:=let⟨o,h,_⟩:=r;FM h
 have B:l<s.heap.objs.size:=let⟨o,h,_⟩:=q;FM h
 refine callType_codes (Q₁:=λu k=>u=.ref s.heap.objs.size/\k={s with heap:=s.heap.push (DG #[] 0)}) F.called_list (F.typeCall_list_1 _) F.entry_list_init (code_list_new _ ⟨rfl,rfl⟩) ?_;rintro u k ⟨rfl,rfl⟩;have d:(s.heap.push (DG #[] 0)).get? s.heap.objs.size=some (DG #[] 0):=Fn _ rfl;refine⟨⟨_,d,rfl⟩,F.args_list_init_2 _ _,?_⟩;show wpAny _ _ (Builtin.List.listItems (.ref s.heap.objs.size)>>=λj=>Builtin.List.listUpdate (.ref s.heap.objs.size) (λ_=> #[])>>=λ_=>letGo j.toList.reverse>>=λ_=>Builtin.List.listExtendWith (.ref s.heap.objs.size) (.ref J) .none) _ _ _;refine Dx ?_;unfold Builtin.List.listItems;refine Dx (wpAny_seqItems d rfl (KB ?_));show wpAny _ _ (updateSeq s.heap.objs.size (λ_=> #[])>>=λ_=>letGo (#[]:Array Value).toList.reverse>>=λ_=>Builtin.List.listExtendWith (.ref s.heap.objs.size) (.ref J) .none) _ _ _;refine Dx (wpAny_updateSeq d rfl ?_);have H:=Heap.get?_update_self (Obj.mapSeq λ_=>(#[]:Array Value)) d rfl;have f:∀b o,s.heap.get? b=some o->((s.heap.push (DG #[] 0)).update s.heap.objs.size (Obj.mapSeq λ_=>(#[]:Array Value))).get? b=some o:=λb o z=>(Heap.get?_update_other _ _ (X4 (FM z))).trans (D1 _ z);refine Dx (wpAny_letGo ?_);refine DH (A:=A.in1) (s:={s with heap:=_}) D (q.at λo z=>f _ o z) (r.at λo z=>f _ o z) y (X4 I) (X4 B) H hz λn a c m g C=>⟨rfl,?_⟩;rw[Moved.eq_with m];refine G n.heap n.toks a c (λb o x z=>m.heap b o (λp=>?_) (f b o z)) g C;simp only[GE,WR,or_false]at p;rcases p with e|e
 .exact Mo _ (e▸FM z)
 .exact x e
end
theorem rK{h:Heap}{a:Addr}{o b:Obj}(n:a≠h.objs.size)(e:(h.push o).get? a=some b):h.get? a=some b:=by obtain⟨d,c⟩:=Heap.get?_some_iff.mp e;refine Heap.get?_some_iff.mpr ⟨?_,c⟩;cases h;simpa[Heap.push,Array.getElem?_push,n]using d
noncomputable def Nu(K:Frag)(ta:TA):TE:=λd H Q=>ta d H λe b=>∃a c,e=[.ref a]/\eE K b a c/\∀l,b l=none->Q (.ref l) (upd b l (.lst c.reverse))
theorem DI{X:Cx}{a:Expr}{ta:TA}{p p2 pos k:Pos}(Z:X.calm=true)(Y:Gl X "list")(T:X.mg "list"=none)(Rj:Gl X "reversed")(w:X.mg "reversed"=none)(ha:PA X [a] ta)(R:starEach [a] X.env=[(false,eval a X.env)]:=by rfl):
 PE X (.Call (.Name "list" p) [.Call (.Name "reversed" p2) [a] [] k] [] pos) (Nu X.K ta):=by
 intro n s y H Q I h;refine W5 (dj I Y T (by rfl) ?_ (by decide) (by decide));refine Kt ?_ rfl rfl;show wpAny _ _ (spliced ((false,eval (.Call (.Name "reversed" p2) [a] [] k) X.env)::backTo pos (starEach [] X.env))) _ _ s;refine Calls.spliced_cons ?_;refine Call_ (dj I Rj w (by rfl) (Kt (bq (ha k n s y H _ I h) λus m ⟨vs,x,I1,L,M⟩=>?_) R rfl));obtain⟨l,r,e,S,q⟩:=M;subst e;obtain⟨u,rfl,G⟩:=Vals.one L;cases(show u=Value.ref l from G);obtain⟨d,rv,t,hz⟩:=I1.list S;have C:=rv.length;obtain⟨ol,UD,_⟩:=id t.isList;refine call_reversed_list t.isList (Calls.spliced_nil ?_);have O:=FM UD;have E:Inv X n y x {m with heap:=m.heap.push (revObj l ((d.toArray.size:Int) -1))}:=I1.kept (t':=m.toks) λb o z=>D1 _ z;have f:=I1.mK (H':=x) (BM _) (I1.hok.fresh (BM _));obtain⟨f0,f1,f2,f3,f4,f5⟩:=f;refine mQ (vs:=d.toArray) (I1.ok.hd Z) (t.isList.at λo z=>D1 _ z) ⟨_,Fn _ rfl,rfl,rfl⟩ (Ha O) (by simp only[Do]<;>lia) λh' A j c P g v=>?_;have ac:j.toList.toArray=j:=rfl;have J:Vals r.reverse j.toList:=by
  have e:j.toList=d.reverse:=by
   refine T1 λi=>?_;by_cases U:i<d.length
   .have h1:=v.2 i;have B:i<j.toList.length:=by have:=v.1;simp at this⊢;lia
    rw[B1 B];have h2:=h1 _ (by rw[<-Sx];exact B1 B);rw[X9 U];simpa using h2.symm
   .rw[FR (by have:=v.1;simp at this⊢;lia),FR (by rw[SB];lia)]
  rw[e];exact Vals.reverse rv
 have J1:=E.laid (a:=(m.heap.push (revObj l ((d.toArray.size:Int) -1))).objs.size) (o:=.lst r.reverse) (h':=(m.heap.push (revObj l ((d.toArray.size:Int) -1))).push (DG j c)) (t':=A) (λb o z=>D1 _ z) (BM _) ⟨by rw[SB];exact hz,j.toList,c,J,Fn _ rfl⟩;have UE:upd x (m.heap.push (revObj l ((d.toArray.size:Int) -1))).objs.size (.lst r.reverse) m.heap.objs.size=none:=by rw[ay (Ha (by simp[Heap.push]))];exact f0
 have J2:=J1.turned (t':=A) (h':=h') (λb o N z=>?_) UE f1 f3 f4 f5
 .exact⟨.ref _,_,J2,rfl,q _ (E.hok.fresh (BM _))⟩
 .by_cases D:b=(m.heap.push (revObj l ((d.toArray.size:Int) -1))).objs.size
  .subst D;have e:=Fn (m.heap.push (revObj l ((d.toArray.size:Int) -1))) (o:=DG j c) rfl;have e2:=e.symm.trans z;cases e2;exact g
  .refine P b o N ?_;exact rK D z
theorem ya(a:List Value):slicePick a.toArray none none (some (-1))=a.reverse.toArray:=by
 have e:sliceBounds none none (some (-1)) a.toArray.size=((a.length:Int) -1,-1,-1):=rfl;unfold slicePick;rw[e];congr 1;have f:sliceRange ((a.length:Int) -1) (-1) (-1)=(Ea a.length).map (a.length -1 -·):=by
  unfold sliceRange;rw[Bi (by decide)];have m:(if(a.length:Int) -1> -1 then((a.length:Int) -1 - -1 - -1 -1)/(- -1)else 0)=(a.length:Int):=by
   split
   .rw[show(- -1:Int)=1 by decide,Int.ediv_one];lia
   .lia
  rw[m];dsimp only;rw[F1];exact Pv λk b=>by have:=Kb.mp b;lia
 rw[f];refine T1 λi=>?_;have g:∀l:List Nat,(∀k∈l,k<a.length)->l.filterMap (a.toArray[·]?)=l.map (a.getD · .none):=λl=>by
  induction l with
  |nil=>intro _;rfl
  |cons k l d=>
   intro h;have b:=h k FC;have:a.toArray[k]?=some (a.getD k .none):=by rw[List.getElem?_toArray,AC,B1 b];rfl
   rw[List.filterMap_cons_some this,P3,d λj c=>h j (FK _ c)]
 rw[g _ λk b=>by obtain⟨j,c,rfl⟩:=IH.mp b;have:=Kb.mp c;lia];rw[W9,Da];by_cases h:i<a.length
 .rw[Nw h,X9 h,HP];show some (a.getD (a.length -1 -i) .none)=_;rw[AC,B1 (show a.length -1 -i<a.length by lia)];rfl
 .rw[FR (by rw[GT];lia),FR (by rw[SB];lia)];rfl
noncomputable def Rk(K:Frag)(te:TE)(e:TO):TE:=λc H Q=>te c H λx f=>e c f λo b=>o=some (-1)/\∃a d,x=.ref a/\eE K b a d/\∀p,b p=none->Q (.ref p) (upd b p (.lst d.reverse))
theorem Jf{X:Cx}{e:Expr}{te:TE}{st:Expr}{j:TO}{pos p2:Pos}(E:PE X e te)(D:PO X (some st) j):PE X (.Subscript e (.Slice none none (some st) p2) pos) (Rk X.K te j):=by intro c s f H Q I h;refine Subscript_ (bq (E c s f H _ I h) λv n ⟨x,L,I1,p,t⟩=>?_);refine wpAny_Slice ?_;rw[evalPart_none];refine KB ?_;refine KB ?_;refine bq (D c n f L _ I1 t) λi d z=>?_;obtain⟨o,J,G,u,rfl,a,m,rfl,C,q⟩:=z;cases p;have g:Inv X c f J {d with heap:=d.heap.push {cls:=.type "slice",data:=.fields #[.none,.none,i]}}:=G.kept (t':=d.toks) λb y q=>D1 _ q;obtain⟨B,r,k,hz⟩:=g.list C;have l:=r.length;show wpAny (model X.prog X.w) X.A (subscriptTail e (.Slice none none (some st) p2) (.ref a) (.ref d.heap.objs.size)) (EP X c f Q) X.xe {d with heap:=d.heap.push {cls:=.type "slice",data:=.fields #[.none,.none,i]}};refine tail_any (ops:=[.ref a,.ref d.heap.objs.size]) k.isList.typeIs slot_list_getitem.lookup ?_ (by with_unfolding_all rfl);refine wpAny_getItem_list_slice k.isList (Heap.IsSliceOf.new ..) .none .none u (by decide) ?_ (by rw[Do]<;>omega);rw[ya];refine⟨.ref _,_,g.laid (o:=.lst m.reverse) (λb y q=>D1 _ q) (BM _) ?_,rfl,q _ (g.hok.fresh (BM _))⟩;exact⟨by rw[SB];exact hz,_,0,r.reverse,Fn _ rfl⟩
theorem yb{X:Cx}(C:X.calm=true):bK X (.builtin "min") (λa H Q=>∃(p:Addr)(ns:List Int),a=[.ref p]/\eE X.K H p (ns.map V.int)/\ns≠[]/\∀m∈ns,(∀n∈ns,m<=n)->Q (.int m) H):=by
 intro f s J H a L Q I r h;obtain⟨p,ns,rfl,D,w,q⟩:=h;obtain⟨u,rfl,l⟩:=Vals.one r;cases(show u=Value.ref p from l);obtain⟨d,rv,o,_⟩:=I.list D;have i:=intsAre_of rv;obtain⟨a,g⟩:=i.allInts.items;have e:s.heap.IsList p (intItems a):=g▸o.isList;have k:ns=a.toList.map (·.1):=by rw[<-nums_intItems,<-g];exact(show numsOf d.toArray.toList=ns from i.numsOf).symm
 have A:ns.length=a.size:=by rw[k,AN,HL]
 have y:0<a.size:=by rw[<-A];exact Hc.mpr w
 refine min_intList (I.ok.hd C) e y λv N M x B=>?_;obtain⟨t,rfl⟩:=intItems_at x;obtain⟨O,G⟩:=argBest_lt (numAt a) (a.size -1);have c:∀j,j<ns.length->numAt a j=ns.getD j 0:=λj _=>by rw[numAt_eq,<-k]
 have E:∀j,j<ns.length->ns.getD j 0∈ns:=λj b=>by rw[AC,B1 b];exact L9 b
 refine⟨.int _,H,I.kept B,⟨_,rfl⟩,q _ ?_ λn z=>?_⟩
 .rw[c _ (by lia)];exact E _ (by lia)
 .obtain⟨j,b,rfl⟩:=T2 z;have:=G j (by lia);rw[c j b,AC,B1 b]at this;exact this
theorem yc{X:Cx}(C:X.calm=true):bK X (.builtin "max") (λa H Q=>∃(p:Addr)(ns:List Int),a=[.ref p]/\eE X.K H p (ns.map V.int)/\ns≠[]/\∀m∈ns,(∀n∈ns,n<=m)->Q (.int m) H):=by
 intro f s J H a L Q I r h;obtain⟨p,ns,rfl,D,w,q⟩:=h;obtain⟨u,rfl,l⟩:=Vals.one r;cases(show u=Value.ref p from l);obtain⟨d,rv,o,_⟩:=I.list D;have i:=intsAre_of rv;obtain⟨a,g⟩:=i.allInts.items;have e:s.heap.IsList p (intItems a):=g▸o.isList;have k:ns=a.toList.map (·.1):=by rw[<-nums_intItems,<-g];exact(show numsOf d.toArray.toList=ns from i.numsOf).symm
 have A:ns.length=a.size:=by rw[k,AN,HL]
 have y:0<a.size:=by rw[<-A];exact Hc.mpr w
 refine max_intList (I.ok.hd C) e y λv N M x B=>?_;obtain⟨t,rfl⟩:=intItems_at x;obtain⟨O,G⟩:=argBest_gt (numAt a) (a.size -1);have c:∀j,j<ns.length->numAt a j=ns.getD j 0:=λj _=>by rw[numAt_eq,<-k]
 have E:∀j,j<ns.length->ns.getD j 0∈ns:=λj b=>by rw[AC,B1 b];exact L9 b
 refine⟨.int _,H,I.kept B,⟨_,rfl⟩,q _ ?_ λn z=>?_⟩
 .rw[c _ (by lia)];exact E _ (by lia)
 .obtain⟨j,b,rfl⟩:=T2 z;have:=G j (by lia);rw[c j b,AC,B1 b]at this;exact this
end L2
namespace L2
open PySem
variable{r:List Expr}{env:Env}{pos:Pos}
inductive Jg:List Expr->List (Int×Int)->Prop where
 |nil:Jg [] []
 |cons {a b:Int} {j1 j2 k:Nat} {p1 p2 pos:Pos} {es:List Expr} {qs:List (Int×Int)} (h:Jg es qs):Jg (.Tuple [.Constant (.int a) j1 p1,.Constant (.int b) j2 p2] k pos::es) ((a,b)::qs)
end L2
namespace L2
open PySem PySem.Spec PyProof.Rows
section
variable{X:Cx}{H:Hp}
end
mutual
noncomputable def aE:PyData->Bool
 |.int _=>true
 |.list a=>dz a
 |.tuple a=>dz a
 |.none=>false
 |.bool _=>false
 |.str _=>false
 |.dict _=>false
noncomputable def dz:List PyData->Bool
 |[]=>true
 |x::a=>aE x&&dz a
end
mutual
theorem Ar:∀d:PyData,aE d=true->d.canLay0=true
 |.int _,_=>by simp[PyData.canLay0]
 |.list a,h=>by rw[aE]at h;rw[PyData.canLay0];exact je a h
 |.tuple a,h=>by rw[aE]at h;rw[PyData.canLay0];exact je a h
 |.none,h=>by simp[aE]at h
 |.bool _,h=>by simp[aE]at h
 |.str _,h=>by simp[aE]at h
 |.dict _,h=>by simp[aE]at h
theorem je:∀a:List PyData,dz a=true->PyData.canLayAll0 a=true
 |[],_=>by simp[PyData.canLayAll0]
 |x::a,h=>by rw[dz,Ap]at h;rw[PyData.canLayAll0,Ar x h.1,je a h.2];rfl
end
mutual
theorem As:∀d e:PyData,aE d=true->aE e=true->SeqAt.noMix d e=true
 |.int _,.int _,_,_=>by simp[SeqAt.noMix]
 |.int _,.list _,_,_=>by simp[SeqAt.noMix]
 |.int _,.tuple _,_,_=>by simp[SeqAt.noMix]
 |.list _,.int _,_,_=>by simp[SeqAt.noMix]
 |.list _,.tuple _,_,_=>by simp[SeqAt.noMix]
 |.tuple _,.int _,_,_=>by simp[SeqAt.noMix]
 |.tuple _,.list _,_,_=>by simp[SeqAt.noMix]
 |.list c,.list b,h,a=>by rw[aE]at h a;rw[SeqAt.noMix];exact jf c b h a
 |.tuple c,.tuple b,h,a=>by rw[aE]at h a;rw[SeqAt.noMix];exact jf c b h a
 |.none,_,h,_=>by simp[aE]at h
 |.bool _,_,h,_=>by simp[aE]at h
 |.str _,_,h,_=>by simp[aE]at h
 |.dict _,_,h,_=>by simp[aE]at h
 |.int _,.none,_,h=>by simp[aE]at h
 |.int _,.bool _,_,h=>by simp[aE]at h
 |.int _,.str _,_,h=>by simp[aE]at h
 |.int _,.dict _,_,h=>by simp[aE]at h
 |.list _,.none,_,h=>by simp[aE]at h
 |.list _,.bool _,_,h=>by simp[aE]at h
 |.list _,.str _,_,h=>by simp[aE]at h
 |.list _,.dict _,_,h=>by simp[aE]at h
 |.tuple _,.none,_,h=>by simp[aE]at h
 |.tuple _,.bool _,_,h=>by simp[aE]at h
 |.tuple _,.str _,_,h=>by simp[aE]at h
 |.tuple _,.dict _,_,h=>by simp[aE]at h
theorem jf:∀b a:List PyData,dz b=true->dz a=true->SeqAt.noMixAll b a=true
 |[],[],_,_=>by simp[SeqAt.noMixAll]
 |[],_::_,_,_=>by simp[SeqAt.noMixAll]
 |_::_,[],_,_=>by simp[SeqAt.noMixAll]
 |x::b,y::a,h,c=>by rw[dz,Ap]at h c;rw[SeqAt.noMixAll,As x y h.1 c.1,jf b a h.2 c.2];rfl
end
mutual
theorem yd:∀d e:PyData,aE d=true->aE e=true->(same d e=true↔d=e)
 |.int a,.int b,_,_=>by simp[same]
 |.int _,.list _,_,_=>by simp[same]
 |.int _,.tuple _,_,_=>by simp[same]
 |.list _,.int _,_,_=>by simp[same]
 |.list _,.tuple _,_,_=>by simp[same]
 |.tuple _,.int _,_,_=>by simp[same]
 |.tuple _,.list _,_,_=>by simp[same]
 |.list g,.list f,h,c=>by rw[aE]at h c;rw[same,gQ g f h c,PyData.list.injEq]
 |.tuple g,.tuple f,h,c=>by rw[aE]at h c;rw[same,gQ g f h c,PyData.tuple.injEq]
 |.none,_,h,_=>by simp[aE]at h
 |.bool _,_,h,_=>by simp[aE]at h
 |.str _,_,h,_=>by simp[aE]at h
 |.dict _,_,h,_=>by simp[aE]at h
 |.int _,.none,_,h=>by simp[aE]at h
 |.int _,.bool _,_,h=>by simp[aE]at h
 |.int _,.str _,_,h=>by simp[aE]at h
 |.int _,.dict _,_,h=>by simp[aE]at h
 |.list _,.none,_,h=>by simp[aE]at h
 |.list _,.bool _,_,h=>by simp[aE]at h
 |.list _,.str _,_,h=>by simp[aE]at h
 |.list _,.dict _,_,h=>by simp[aE]at h
 |.tuple _,.none,_,h=>by simp[aE]at h
 |.tuple _,.bool _,_,h=>by simp[aE]at h
 |.tuple _,.str _,_,h=>by simp[aE]at h
 |.tuple _,.dict _,_,h=>by simp[aE]at h
theorem gQ:∀b a:List PyData,dz b=true->dz a=true->(sameAll b a=true↔b=a)
 |[],[],_,_=>by simp[sameAll]
 |[],_::_,_,_=>by simp[sameAll]
 |_::_,[],_,_=>by simp[sameAll]
 |x::b,y::a,h,c=>by rw[dz,Ap]at h c;rw[sameAll,Ap,yd x y h.1 c.1,gQ b a h.2 c.2,Xh]
end
section
variable{X:Cx}
end
theorem rL{a:List PyData}{n:Nat}(h:∀x∈a,x.depth<=n):PyData.depthAll a<=n:=by
 induction a with
 |nil=>simp[PyData.depthAll]
 |cons x a b=>rw[PyData.depthAll];have:=h x (FC ..);have:=b λy c=>h y (FK _ c);lia
theorem t9(d:List Bool):((Ea d.length).any λi=>(d[i]?).getD false)=d.any id:=by
 rw[WD,VI,VI];constructor
 .rintro⟨i,c,h⟩;have a:=Kb.mp c;simp only[B1 a,IS]at h;exact⟨_,L9 a,h⟩
 .rintro⟨b,e,h⟩;obtain⟨i,c,rfl⟩:=T2 e;refine⟨i,Kb.mpr c,?_⟩;simp only[B1 c,IS];exact h
section
variable{X:Cx}
theorem ye(y:X.calm=true):bK X (.builtin "any") (λj H Q=>∃(p:Addr)(c:List Bool),j=[.ref p]/\eE X.K H p (c.map V.bl)/\Q (.bl (c.any id)) H):=by
 intro k s E H j G Q I r h;obtain⟨p,c,rfl,B,q⟩:=h;obtain⟨u,rfl,n⟩:=Vals.one r;cases(show u=Value.ref p from n);obtain⟨a,rv,t,_⟩:=I.list B;have l:=nI rv;have g:=t.isList;have f:p<s.heap.objs.size:=by obtain⟨_,e,_⟩:=g;exact FM e
 refine call_any_walk (wpAny_pyIter_list g ?_);refine⟨s.heap.objs.size,[s.heap.objs.size,p],[s.heap.objs.size],a.toArray.size,_,_,λi=>(c[i]?).getD false,rfl,Walks.list (A:=X.A.in1) (I.ok.hd y) _ p (Ha f) a.toArray,
  ⟨⟨_,Fn _ rfl,rfl,rfl⟩,g.push _⟩,λi v L N O C m=>?_,λM J x=>?_⟩
 .have d:a[i]?=some v:=by simpa using C
  rw[l,Da]at d;cases e:c[i]? with
  |none=>rw[e]at d;cases d
  |some b=>rw[e]at d;simp only[e,IS]at m;have:v=Value.bool b:=(Hk d).symm;subst this;exact Pi m
 .have e:((Ea a.toArray.size).any λi=>(c[i]?).getD false)=c.any id:=by
   have D:a.toArray.size=c.length:=by rw[Do,l,AN]
   rw[D];exact t9 c
  rw[e];exact⟨.bl _,H,I.kept λb o z=>x b o (λw=>by rw[Ee.mp w]at z;exact Mo _ (FM z)) (D1 _ z),rfl,q⟩
end
end L2
set_option genSizeOf false
set_option genInjectivity false
namespace VL
open PySem PySem.Spec PyProof.Rows L2
theorem ff{C:Prop}(h:false=true):C:=Bool.noConfusion h
theorem nn{α:Type}{a:α}{C:Prop}(h:none=some a):C:=Option.noConfusion rfl (heq_of_eq h)
inductive W where
 |aJ|bl (b:Bool)|int (i:Int)|str (x:Str)|ty (n:String)|cls (C:Addr)|err (C:Addr)
 |tup (l:List W)|lst (l:List W)|dct (ks vs:List W)|obj (C:Addr) (fs:List Str) (vs:List W)|fV (ns:List Int)
theorem W.GF{a b:Int}(h:W.int a=.int b):a=b:=by cases h;rfl
theorem W.Au{a b:List W}(h:W.lst a=.lst b):a=b:=by cases h;rfl
noncomputable def yg:HO->Bool
 |.lst _|.ins _ _ _|.dK _|.dT _|.set _ _=>true
 |_=>false
noncomputable def Rl:Key->W
 |.inl i=>.int i
 |.inr x=>.str x
noncomputable def DJ(K:Frag)(C:Addr)(a:List Str):Prop:=LV K C/\a.length<1000/\a.Nodup/\∀x∈a,tK K C x
mutual
noncomputable def Rep(K:Frag)(A:Addr->Prop)(H:Hp):W->V->Prop
 |.aJ,v=>v=.aJ
 |.bl b,v=>v=.bl b
 |.int i,v=>v=.int i
 |.str x,v=>v=.str x
 |.ty n,v=>v=.ty n
 |.cls C,v=>v=.ref C
 |.err C,v=>∃a,v=.ref a/\H a=some (Q2 a C)/\¬A a
 |.tup l,v=>∃p vs,v=.ref p/\H p=some (.tup vs)/\aj K A H l vs
 |.lst l,v=>∃p vs,v=.ref p/\¬A p/\Rd H p (.lst vs)/\aj K A H l vs
 |.dct f d,v=>∃p c,v=.ref p/\¬A p/\H p=some (.dK c)/\f=c.map (λx=>Rl x.1)/\aj K A H d (c.map (·.2))
 |.obj C e d,v=>∃p g vs,v=.ref p/\¬A p/\H p=some (.ins C g (e.zip vs))/\vs.length=e.length/\DJ K C e/\aj K A H d vs
 |.fV ns,v=>∃p,v=.ref p/\((∃o,H p=some (.qJ o (.lst (ns.map V.int))))\/eE K (λ_=>none) p (ns.map V.int))
noncomputable def aj(K:Frag)(A:Addr->Prop)(H:Hp):List W->List V->Prop
 |[],vs=>vs=[]
 |w::a,vs=>∃v r,vs=v::r/\Rep K A H w v/\aj K A H a r
end
section
variable{K:Frag}{A B:Addr->Prop}{H H':Hp}
theorem au.rd{p:Addr}{u:HO}(s:au H H')(h:Rd H p u):Rd H' p u:=by
 rcases h with h|⟨o,h⟩
 .exact .inl (s _ _ h)
 .exact .inr ⟨o,s _ _ h⟩
noncomputable def sS(B:Addr->Prop)(H H':Hp):Prop:=∀p o,H p=some o->(yg o=true/\B p)\/H' p=some o
theorem sS.un{p:Addr}{o:HO}(h:sS A H H')(e:H p=some o)(n:yg o=true->¬A p):H' p=some o:=by
 rcases h p o e with⟨z,y⟩|z
 .exact(n z y).elim
 .exact z
mutual
theorem Rep.chg(h:sS A H H')(d:∀p o,H p=some o->B p->A p):∀(w:W){v:V},Rep K A H w v->Rep K B H' w v
 |.aJ,_,r=>by dsimp only[Rep]at r⊢;exact r
 |.bl _,_,r=>by dsimp only[Rep]at r⊢;exact r
 |.int _,_,r=>by dsimp only[Rep]at r⊢;exact r
 |.str _,_,r=>by dsimp only[Rep]at r⊢;exact r
 |.ty _,_,r=>by dsimp only[Rep]at r⊢;exact r
 |.cls _,_,r=>by dsimp only[Rep]at r⊢;exact r
 |.err C,v,r=>by obtain⟨a,e,b,c⟩:=r;exact⟨a,e,h.un b (λz=>by cases z),λz=>c (d a _ b z)⟩
 |.tup l,v,r=>by obtain⟨p,f,e,b,c⟩:=r;exact⟨p,f,e,h.un b (λz=>by cases z),aj.chg h d l c⟩
 |.lst l,v,r=>by
  dsimp only[Rep]at r⊢;obtain⟨p,f,e,n,b,c⟩:=r;refine⟨p,f,e,λz=>?_,?_,aj.chg h d l c⟩
  .rcases b with b|⟨o,b⟩<;>exact n (d p _ b z)
  .rcases b with b|⟨o,b⟩
   .exact .inl (h.un b λ_=>n)
   .exact .inr ⟨o,h.un b λz=>by cases z⟩
 |.dct s g,v,r=>by obtain⟨p,i,e,n,b,c,j⟩:=r;exact⟨p,i,e,λz=>n (d p _ b z),h.un b λ_=>n,c,aj.chg h d g j⟩
 |.obj C t g,v,r=>by obtain⟨p,m,f,e,n,b,c,k,j⟩:=r;exact⟨p,m,f,e,λz=>n (d p _ b z),h.un b λ_=>n,c,k,aj.chg h d g j⟩
 |.fV q,v,r=>by obtain⟨p,e,b⟩:=r;exact⟨p,e,b.imp (by rintro⟨o,z⟩;exact⟨o,h.un z λz=>by cases z⟩) id⟩
theorem aj.chg(h:sS A H H')(a:∀p o,H p=some o->B p->A p):∀(l:List W){vs:List V},aj K A H l vs->aj K B H' l vs
 |[],_,r=>by dsimp only[aj]at r⊢;exact r
 |w::l,vs,r=>by obtain⟨v,b,e,d,c⟩:=r;exact⟨v,b,e,Rep.chg h a w d,aj.chg h a l c⟩
end
theorem sS.same(s:au H H'):sS A H H':=λ_ _ e=>.inr (s _ _ e)
theorem sS.put{p:Addr}{a o:HO}(b:H p=some a)(c:yg a=true)(d:A p):sS A H (upd H p o):=λq u e=>by
 by_cases n:q=p
 .subst n;rw[b]at e;cases e;exact .inl ⟨c,d⟩
 .exact .inr (by rw[ay n];exact e)
theorem Rep.mv(s:au H H')(a:∀p o,H p=some o->B p->A p)(w:W){v:V}(h:Rep K A H w v):Rep K B H' w v:=Rep.chg (.same s) a w h
theorem aj.mv(s:au H H')(a:∀p o,H p=some o->B p->A p)(l:List W){vs:List V}(h:aj K A H l vs):aj K B H' l vs:=aj.chg (.same s) a l h
theorem Rep.same{w:W}{v:V}(s:au H H')(h:Rep K A H w v):Rep K A H' w v:=Rep.mv s (λ_ _ _ z=>z) w h
theorem aj.same{l:List W}{vs:List V}(s:au H H')(h:aj K A H l vs):aj K A H' l vs:=aj.mv s (λ_ _ _ z=>z) l h
theorem Rep.less{w:W}{v:V}(a:∀p,B p->A p)(h:Rep K A H w v):Rep K B H w v:=Rep.mv (au.refl H) (λp _ _ z=>a p z) w h
theorem aj.less{l:List W}{vs:List V}(a:∀p,B p->A p)(h:aj K A H l vs):aj K B H l vs:=aj.mv (au.refl H) (λp _ _ z=>a p z) l h
theorem aj.put{p:Addr}{a:List V}{o:HO}(b:H p=some (.lst a))(c:A p)(l:List W){vs:List V}(h:aj K A H l vs):aj K A (upd H p o) l vs:=aj.chg (.put b rfl c) (λ_ _ _ z=>z) l h
theorem aj.nil:aj K A H [] []:=by dsimp only[aj]
theorem aj.cons{w:W}{v:V}{l:List W}{vs:List V}(b:Rep K A H w v)(a:aj K A H l vs):aj K A H (w::l) (v::vs):=by dsimp only[aj];exact⟨v,vs,rfl,b,a⟩
theorem aj.nil_inv{vs:List V}(h:aj K A H [] vs):vs=[]:=by dsimp only[aj]at h;exact h
theorem aj.cons_inv{w:W}{l:List W}{vs:List V}(h:aj K A H (w::l) vs):∃v r,vs=v::r/\Rep K A H w v/\aj K A H l r:=by dsimp only[aj]at h;exact h
theorem aj.len:∀{l:List W}{vs:List V},aj K A H l vs->vs.length=l.length
 |[],vs,h=>by rw[h.nil_inv];rfl
 |w::l,vs,h=>by obtain⟨v,r,rfl,_,a⟩:=h.cons_inv;rw[Eb,Eb,a.len]
theorem aj.app:∀{l m:List W}{vs a:List V},aj K A H l vs->aj K A H m a->aj K A H (l++m) (vs++a)
 |[],m,vs,a,h,k=>by rw[h.nil_inv];exact k
 |w::l,m,vs,a,h,k=>by obtain⟨v,r,rfl,c,b⟩:=h.cons_inv;exact .cons c (b.app k)
theorem aj.get:∀{l:List W}{vs:List V}{i:Nat}{w:W},aj K A H l vs->l[i]?=some w->∃v,vs[i]?=some v/\Rep K A H w v
 |[],_,_,_,_,e=>by simp at e
 |x::l,vs,0,w,h,e=>by obtain⟨v,r,rfl,b,a⟩:=h.cons_inv;simp at e;subst e;exact⟨v,rfl,b⟩
 |x::l,vs,i+1,w,h,e=>by obtain⟨v,r,rfl,b,a⟩:=h.cons_inv;obtain⟨u,d,c⟩:=a.get (i:=i) (by simpa using e);exact⟨u,by simpa using d,c⟩
theorem aj.set:∀{l:List W}{vs:List V}{i:Nat}{w:W}{v:V},aj K A H l vs->Rep K A H w v->aj K A H (l.set i w) (vs.set i v)
 |[],_,_,_,_,h,_=>by rw[h.nil_inv];exact .nil
 |x::l,vs,0,w,v,h,e=>by obtain⟨c,r,rfl,b,a⟩:=h.cons_inv;exact .cons e a
 |x::l,vs,i+1,w,v,h,e=>by obtain⟨c,r,rfl,b,a⟩:=h.cons_inv;exact .cons b (a.set e)
theorem aj.take:∀{l:List W}{vs:List V}(n:Nat),aj K A H l vs->aj K A H (l.take n) (vs.take n)
 |_,_,0,_=>.nil
 |[],vs,n+1,h=>by rw[h.nil_inv];exact .nil
 |x::l,vs,n+1,h=>by obtain⟨c,r,rfl,b,a⟩:=h.cons_inv;exact .cons b (a.take n)
theorem aj.drop:∀{l:List W}{vs:List V}(n:Nat),aj K A H l vs->aj K A H (l.drop n) (vs.drop n)
 |_,_,0,h=>h
 |[],vs,n+1,h=>by rw[h.nil_inv];exact .nil
 |x::l,vs,n+1,h=>by obtain⟨b,r,rfl,c,a⟩:=h.cons_inv;exact a.drop n
theorem aj.dropLast{l:List W}{vs:List V}(h:aj K A H l vs):aj K A H l.dropLast vs.dropLast:=by rw[Tt,Tt,h.len];exact h.take _
theorem aj.rev:∀{l:List W}{vs:List V},aj K A H l vs->aj K A H l.reverse vs.reverse
 |[],vs,h=>by rw[h.nil_inv];exact .nil
 |x::l,vs,h=>by obtain⟨c,r,rfl,b,a⟩:=h.cons_inv;rw[W2,W2];exact a.rev.app (.cons b .nil)
theorem aj.rep{l:List W}{vs:List V}(h:aj K A H l vs):∀n:Nat,aj K A H (Dg n l).flatten (Dg n vs).flatten
 |0=>.nil
 |n+1=>by rw[Gh,Gh,IM,IM];exact h.app (h.rep n)
theorem aj.ints{ns:List Int}:∀{vs:List V},aj K A H (ns.map W.int) vs->vs=ns.map V.int:=by
 induction ns with
 |nil=>intro vs h;exact h.nil_inv
 |cons n ns b=>intro vs h;obtain⟨v,r,rfl,a,c⟩:=h.cons_inv;dsimp only[Rep]at a;rw[a,b c];rfl
theorem aj.DK(ns:List Int):aj K A H (ns.map W.int) (ns.map V.int):=by
 induction ns with
 |nil=>exact .nil
 |cons n ns a=>exact .cons (by dsimp only[Rep]) a
theorem aj.SI{a:List Bool}:∀{vs:List V},aj K A H (a.map W.bl) vs->vs=a.map V.bl:=by
 induction a with
 |nil=>intro vs h;exact h.nil_inv
 |cons n e c=>intro vs h;obtain⟨v,r,rfl,b,d⟩:=h.cons_inv;dsimp only[Rep]at b;rw[b,c d];rfl
end
end VL
set_option genSizeOf false
set_option genInjectivity false
namespace VL
open PySem PySem.Spec
open PyProof.Rows hiding St
open L2
inductive Md where
 |s|f|t (ms:List Md)|o (fs:List Str) (ms:List Md)
 |io (m:Md)
 |ls (m:Md)
noncomputable def dU(P:W->V->List Addr->Prop):List W->List V->List Addr->Prop
 |[],vs,F=>vs=[]/\F=[]
 |w::d,vs,F=>∃v a c b,vs=v::a/\F=c++b/\P w v c/\dU P d a b
mutual
noncomputable def Fp(K:Frag)(B:Addr->Prop)(H:Hp):Md->W->V->List Addr->Prop
 |.s,w,v,F=>F=[]/\Rep K B H w v
 |.f,w,v,F=>∃a p vs,w=.lst a/\v=.ref p/\F=[p]/\H p=some (.lst vs)/\aj K B H a vs
 |.t c,w,v,F=>∃a p vs,w=.tup a/\v=.ref p/\H p=some (.tup vs)/\eB K B H c a vs F
 |.o b c,w,v,F=>∃C d a p vs F',w=.obj C b a/\v=.ref p/\F=p::F'/\H p=some (.ins C d (b.zip vs))/\vs.length=b.length/\DJ K C b/\eB K B H c a vs F'
 |.io _,_,_,_=>False
 |.ls m,w,v,F=>∃a p vs F',w=.lst a/\v=.ref p/\F=p::F'/\H p=some (.lst vs)/\dU (Fp K B H m) a vs F'
noncomputable def eB(K:Frag)(B:Addr->Prop)(H:Hp):List Md->List W->List V->List Addr->Prop
 |[],b,vs,F=>b=[]/\vs=[]/\F=[]
 |m::f,b,vs,F=>∃w c v a e d,b=w::c/\vs=v::a/\F=e++d/\Fp K B H m w v e/\eB K B H f c a d
end
theorem dU.mono{P Q:W->V->List Addr->Prop}:∀{a:List W}{vs:List V}{F:List Addr},(∀w v F',(∀p∈F',p∈F)->P w v F'->Q w v F')->dU P a vs F->dU Q a vs F
 |[],_,_,_,h=>h
 |w::a,vs,F,k,⟨v,b,e,j,i,d,g,f⟩=>⟨v,b,e,j,i,d,k w v e (λp c=>by rw[d];exact Os _ c) g,dU.mono (λw v F' h=>k w v F' λp c=>by rw[d];exact Fk _ (h p c)) f⟩
theorem dU.len{P:W->V->List Addr->Prop}:∀{a:List W}{vs:List V}{F:List Addr},dU P a vs F->vs.length=a.length
 |[],_,_,h=>by rw[h.1];rfl
 |w::a,vs,F,⟨v,b,i,g,d,f,e,c⟩=>by rw[d,Eb,Eb,dU.len c]
theorem dU.app{P:W->V->List Addr->Prop}:∀{c b:List W}{vs a:List V}{F G:List Addr},dU P c vs F->dU P b a G->dU P (c++b) (vs++a) (F++G)
 |[],b,vs,a,F,G,⟨f,e⟩,k=>by rw[f,e];exact k
 |w::c,b,vs,a,F,G,⟨v,d,j,i,f,e,h,g⟩,k=>⟨v,d++a,j,i++G,by rw[f];rfl,by rw[e,OS],h,dU.app g k⟩
noncomputable def kR(B G:Addr->Prop)(H H':Hp):Prop:=∀p o,H p=some o->(yg o=true/\B p/\¬G p)\/H' p=some o
section
variable{K:Frag}{A B G:Addr->Prop}{H H':Hp}
theorem kR.c(h:kR A G H H'):sS A H H':=λp o e=>(h p o e).imp (λz=>⟨z.1,z.2.1⟩) id
theorem kR.un{p:Addr}{o:HO}(h:kR A G H H')(e:H p=some o)(g:yg o=true->G p):H' p=some o:=by
 rcases h p o e with⟨z,_,y⟩|z
 .exact(y (g z)).elim
 .exact z
mutual
theorem Fp.chg(h:kR A G H H')(k:∀p o,H p=some o->B p->A p):∀(m:Md){w:W}{v:V}{F:List Addr},(∀p∈F,G p)->Fp K A H m w v F->Fp K B H' m w v F
 |.s,w,v,F,a,r=>by dsimp only[Fp]at r⊢;exact⟨r.1,Rep.chg h.c k w r.2⟩
 |.f,w,v,F,a,r=>by obtain⟨d,p,vs,j,i,b,g,e⟩:=r;exact⟨d,p,vs,j,i,b,h.un g (λ_=>a p (by rw[b];exact FC)),aj.chg h.c k d e⟩
 |.t l,w,v,F,a,r=>by obtain⟨d,p,vs,j,i,g,e⟩:=r;exact⟨d,p,vs,j,i,h.un g (λz=>by cases z),eB.chg h k l a e⟩
 |.o I l,w,v,F,a,r=>by obtain⟨C,E,d,p,vs,u,j,i,b,g,e,x,D⟩:=r;exact⟨C,E,d,p,vs,u,j,i,b,h.un g (λ_=>a p (by rw[b];exact FC)),e,x,eB.chg h k l (λq n=>a q (by rw[b];exact FK _ n)) D⟩
 |.io _,w,v,F,a,r=>Gx r
 |.ls m,w,v,F,a,r=>by obtain⟨d,p,vs,u,j,i,b,g,e⟩:=r;exact⟨d,p,vs,u,j,i,b,h.un g (λ_=>a p (by rw[b];exact FC)),e.mono λw v G y z=>Fp.chg h k m (λq n=>a q (by rw[b];exact FK _ (y q n))) z⟩
theorem eB.chg(h:kR A G H H')(f:∀p o,H p=some o->B p->A p):∀(a:List Md){b:List W}{vs:List V}{F:List Addr},(∀p∈F,G p)->eB K A H a b vs F->eB K B H' a b vs F
 |[],_,_,_,_,r=>by dsimp only[eB]at r⊢;exact r
 |m::a,b,vs,F,g,r=>by obtain⟨w,i,v,c,s,q,n,l,e,k,j⟩:=r;exact⟨w,i,v,c,s,q,n,l,e,Fp.chg h f m (λp d=>g p (by rw[e];exact Os _ d)) k,eB.chg h f a (λp d=>g p (by rw[e];exact Fk _ d)) j⟩
end
theorem kR.same(s:au H H'):kR A (λ_=>True) H H':=λ_ _ e=>.inr (s _ _ e)
theorem Fp.mv(s:au H H')(a:∀p o,H p=some o->B p->A p)(m:Md){w:W}{v:V}{F:List Addr}(h:Fp K A H m w v F):Fp K B H' m w v F:=Fp.chg (.same s) a m (λ_ _=>trivial) h
theorem eB.mv(s:au H H')(b:∀p o,H p=some o->B p->A p)(a:List Md){w:List W}{v:List V}{F:List Addr}(h:eB K A H a w v F):eB K B H' a w v F:=eB.chg (.same s) b a (λ_ _=>trivial) h
mutual
theorem Fp.rep(i:∀p,B p->A p):∀(m:Md){w:W}{v:V}{F:List Addr},(∀p∈F,¬B p)->Fp K A H m w v F->Rep K B H w v
 |.s,w,v,F,a,h=>by dsimp only[Fp]at h;exact h.2.less i
 |.f,w,v,F,a,h=>by obtain⟨b,p,vs,rfl,rfl,rfl,d,c⟩:=h;exact⟨p,vs,rfl,a p (Ee.mpr rfl),.inl d,c.less i⟩
 |.t k,w,v,F,a,h=>by obtain⟨b,p,vs,rfl,rfl,d,c⟩:=h;exact⟨p,vs,rfl,d,eB.rep i k a c⟩
 |.o z k,w,v,F,a,h=>by obtain⟨C,x,b,p,vs,g,rfl,rfl,rfl,d,c,n,r⟩:=h;exact⟨p,x,vs,rfl,a p FC,d,c,n,eB.rep i k (λq e=>a q (FK _ e)) r⟩
 |.io _,w,v,F,a,h=>Gx h
 |.ls m,w,v,F,a,h=>by
  obtain⟨b,p,vs,g,rfl,rfl,rfl,d,c⟩:=h;dsimp only[Rep];have u:∀(b:List W)(vs:List V)(g:List Addr),(∀q∈g,¬B q)->dU (Fp K A H m) b vs g->aj K B H b vs:=λb=>by
   induction b with
   |nil=>rintro vs g _ ⟨rfl,_⟩;exact .nil
   |cons w b l=>rintro vs g a ⟨v,j,D,y,rfl,rfl,d,c⟩;exact .cons (Fp.rep i m (λq e=>a q (Os _ e)) d) (l j y (λq e=>a q (Fk _ e)) c)
  exact⟨p,vs,rfl,a p FC,.inl d,u b vs g (λq e=>a q (FK _ e)) c⟩
theorem eB.rep(e:∀p,B p->A p):∀(b:List Md){a:List W}{vs:List V}{F:List Addr},(∀p∈F,¬B p)->eB K A H b a vs F->aj K B H a vs
 |[],_,_,_,_,h=>by obtain⟨rfl,rfl,_⟩:=h;exact .nil
 |m::b,a,vs,F,d,h=>by obtain⟨w,j,v,f,l,k,rfl,rfl,rfl,i,g⟩:=h;exact .cons (Fp.rep e m (λp c=>d p (Os _ c)) i) (eB.rep e b (λp c=>d p (Fk _ c)) g)
end
mutual
theorem Fp.mu:∀(m:Md){w:W}{v:V}{F:List Addr},Fp K A H m w v F->∀p∈F,∃o,H p=some o/\yg o=true
 |.s,w,v,F,h,p,a=>by dsimp only[Fp]at h;rw[h.1]at a;cases a
 |.f,w,v,F,h,p,a=>by obtain⟨b,q,vs,_,_,rfl,c,_⟩:=h;rw[Ee.mp a];exact⟨_,c,rfl⟩
 |.t g,w,v,F,h,p,a=>by obtain⟨b,q,vs,_,_,c,j⟩:=h;exact eB.mu g j p a
 |.o r g,w,v,F,h,p,a=>by
  obtain⟨C,u,b,q,vs,d,_,_,rfl,c,_,_,i⟩:=h;rcases GE.mp a with rfl|a
  .exact⟨_,c,rfl⟩
  .exact eB.mu g i p a
 |.io _,w,v,F,h,p,a=>Gx h
 |.ls m,w,v,F,h,p,a=>by
  obtain⟨b,q,vs,d,_,_,rfl,c,i⟩:=h;have l:∀(b:List W)(vs:List V)(d:List Addr),dU (Fp K A H m) b vs d->∀p∈d,∃o,H p=some o/\yg o=true:=λb=>by
   induction b with
   |nil=>rintro vs d ⟨_,rfl⟩ p a;cases a
   |cons w b k=>
    rintro vs d ⟨v,e,x,n,rfl,rfl,c,j⟩ p a;rcases Gc.mp a with a|a
    .exact Fp.mu m c p a
    .exact k e n j p a
  rcases GE.mp a with rfl|a
  .exact⟨_,c,rfl⟩
  .exact l b vs d i p a
theorem eB.mu:∀(b:List Md){c:List W}{vs:List V}{F:List Addr},eB K A H b c vs F->∀p∈F,∃o,H p=some o/\yg o=true
 |[],_,_,_,h,p,a=>by dsimp only[eB]at h;rw[h.2.2]at a;cases a
 |m::b,c,vs,F,h,p,a=>by
  obtain⟨w,g,v,d,j,i,_,_,rfl,f,e⟩:=h;rcases Gc.mp a with a|a
  .exact Fp.mu m f p a
  .exact eB.mu b e p a
end
inductive jg where
 |ix (n:Nat)|fl (n:Nat) (x:Str)
noncomputable def bX:W->List jg->Option W
 |w,[]=>some w
 |.tup l,.ix n::π=>match l[n]? with
  |some u=>bX u π
  |none=>none
 |.lst l,.ix n::π=>match l[n]? with
  |some u=>bX u π
  |none=>none
 |.obj _ _ l,.fl n _::π=>match l[n]? with
  |some u=>bX u π
  |none=>none
 |_,_=>none
noncomputable def setAt:W->List jg->W->W
 |_,[],u=>u
 |.tup l,.ix n::π,u=>match l[n]? with
  |some x=>.tup (l.set n (setAt x π u))
  |none=>.tup l
 |.lst l,.ix n::π,u=>match l[n]? with
  |some x=>.lst (l.set n (setAt x π u))
  |none=>.lst l
 |.obj C a l,.fl n _::π,u=>match l[n]? with
  |some x=>.obj C a (l.set n (setAt x π u))
  |none=>.obj C a l
 |w,_,_=>w
noncomputable def gA:Md->List jg->Option Md
 |m,[]=>some m
 |.t a,.ix n::π=>match a[n]? with
  |some m=>gA m π
  |none=>none
 |.o b a,.fl n x::π=>if b[n]?=some x then(match a[n]? with
  |some m=>gA m π
  |none=>none)else none
 |.ls m,.ix _::π=>gA m π
 |_,_=>none
noncomputable def qD(K:Frag)(H:Hp):V->List jg->V->Prop
 |v,[],u=>u=v
 |v,.ix n::π,u=>∃p vs x,v=.ref p/\(H p=some (.tup vs)\/H p=some (.lst vs))/\vs[n]?=some x/\qD K H x π u
 |v,.fl n f::π,u=>∃p vs x,v=.ref p/\(∃(C b:Addr)(a:List Str),H p=some (.ins C b (a.zip vs))/\vs.length=a.length/\DJ K C a/\a[n]?=some f)/\vs[n]?=some x/\qD K H x π u
theorem iF{α:Type}:∀{l:List α}{n:Nat}{x:α},l[n]?=some x->l.set n x=l
 |[],_,_,e=>by cases e
 |y::l,0,x,e=>by cases e;rfl
 |y::l,n+1,x,e=>by rw[List.set_cons_succ,iF (by simpa using e)]
theorem eB.at:∀(j:List Md){q:List W}{vs:List V}{F:List Addr}{n:Nat}{m:Md}{w:W},eB K A H j q vs F->j[n]?=some m->q[n]?=some w->
 ∃v d F' l,vs[n]?=some v/\F=d++F'++l/\Fp K A H m w v F'/\∀(H':Hp)(B:Addr->Prop) f i k,Fp K B H' m f i k->kR A (·∈d++l) H H'->(∀p o,H p=some o->B p->A p)->eB K B H' j (q.set n f) (vs.set n i) (d++k++l)
 |[],_,_,_,n,m,w,_,e,_=>by cases e
 |m0::j,q,vs,F,0,m,w,h,I,E=>by obtain⟨J,t,v,g,d,l,rfl,rfl,rfl,C,y⟩:=h;cases I;cases E;refine⟨v,[],d,l,rfl,by simp,C,λH' B f i k D r s=>?_⟩;exact⟨f,t,i,g,k,l,rfl,rfl,by simp,D,eB.chg r s j (λp x=>by simpa using x) y⟩
 |m0::j,q,vs,F,n+1,m,w,h,I,E=>by obtain⟨J,t,v,g,d,l,rfl,rfl,rfl,C,y⟩:=h;obtain⟨u,M,Q,L,P,rfl,O,N⟩:=eB.at j y (n:=n) (by simpa using I) (by simpa using E);refine⟨u,d++M,Q,L,by simpa using P,by simp,O,λH' B f i k D r s=>?_⟩;refine⟨J,t.set n f,v,g.set n i,d,M++k++L,rfl,rfl,by simp,Fp.chg r s m0 (λp x=>by simp[x]) C,N H' B f i k D (λp o e=>(r p o e).imp (λ⟨a,b,c⟩=>⟨a,b,λz=>c ?_⟩) id) s⟩;rcases Gc.mp z with z|z<;>simp[z]
theorem dU.at{m:Md}:∀{r:List W}{vs:List V}{F:List Addr}{n:Nat}{w:W},dU (Fp K A H m) r vs F->r[n]?=some w->
 ∃v d F' j,vs[n]?=some v/\F=d++F'++j/\Fp K A H m w v F'/\∀(H':Hp)(B:Addr->Prop) k g i,Fp K B H' m k g i->kR A (·∈d++j) H H'->(∀p o,H p=some o->B p->A p)->dU (Fp K B H' m) (r.set n k) (vs.set n g) (d++i++j)
 |[],_,_,n,w,_,e=>by cases e
 |w0::M,vs,F,0,w,h,C=>by obtain⟨v,f,d,j,rfl,rfl,x,t⟩:=h;cases C;refine⟨v,[],d,j,rfl,by simp,x,λH' B k g i y l q=>?_⟩;exact⟨g,f,i,j,rfl,by simp,y,t.mono λw v G N z=>Fp.chg l q m (λp s=>by simpa using N p s) z⟩
 |w0::M,vs,F,n+1,w,h,C=>by obtain⟨v,f,d,j,rfl,rfl,x,t⟩:=h;obtain⟨u,E,O,D,L,rfl,J,I⟩:=dU.at t (n:=n) (by simpa using C);refine⟨u,d++E,O,D,by simpa using L,by simp,J,λH' B k g i y l q=>?_⟩;refine⟨v,f.set n g,d,E++i++D,rfl,by simp,Fp.chg l q m (λp s=>by simp[s]) x,I H' B k g i y (λp o e=>(l p o e).imp (λ⟨a,b,c⟩=>⟨a,b,λz=>c ?_⟩) id) q⟩;rcases Gc.mp z with z|z<;>simp[z]
noncomputable def UG(K:Frag)(A:Addr->Prop)(H:Hp)(m:Md)(w:W)(v:V)(F:List Addr)(π:List jg)(e:Md)(h:W):Prop:=
 ∃b d g c,F=d++g++c/\qD K H v π b/\Fp K A H e h b g/\∀(H':Hp)(B:Addr->Prop) a f,Fp K B H' e a b f->kR A (·∈d++c) H H'->(∀p o,H p=some o->B p->A p)->Fp K B H' m (setAt w π a) v (d++f++c)
theorem Fp.path:∀(π:List jg)(m:Md){w:W}{v:V}{F:List Addr}{l:Md}{k:W},Fp K A H m w v F->gA m π=some l->bX w π=some k->UG K A H m w v F π l k
 |[],m,w,v,F,l,k,h,d,g=>by dsimp only[gA]at d;dsimp only[bX]at g;cases d;cases g;refine⟨v,[],F,[],by simp,rfl,h,λH' B j y h' _ _=>?_⟩;dsimp only[setAt];simpa using h'
 |n::π,.s,w,v,F,l,k,h,d,g=>by cases n<;>exact nn d
 |n::π,.f,w,v,F,l,k,h,d,g=>by cases n<;>exact nn d
 |n::π,.io _,w,v,F,l,k,h,d,g=>by cases n<;>exact nn d
 |.fl n _::π,.t x,w,v,F,l,k,h,d,g=>by cases d
 |.fl n _::π,.ls x,w,v,F,l,k,h,d,g=>by cases d
 |.ix n::π,.ls Y,w,v,F,l,k,h,d,g=>by
  obtain⟨O,p,vs,F0,rfl,rfl,rfl,E,h2⟩:=h;dsimp only[gA]at d;dsimp only[bX]at g;cases i:O[n]? with
  |none=>rw[i]at g;exact nn g
  |some w1=>rw[i]at g;obtain⟨r,N,F',M,u,rfl,U,T⟩:=dU.at h2 i;obtain⟨P,L,G',J,rfl,S,R,Q⟩:=Fp.path π Y U d g;refine⟨P,p::N++L,G',J++M,by simp,⟨p,vs,r,rfl,.inr E,u,S⟩,R,λH' B j y h' q D=>?_⟩;dsimp only[setAt];rw[i];dsimp only[Fp];have a:=T H' B _ r _ (Q H' B j y h' (λp o e=>(q p o e).imp (by rintro⟨a,b,c⟩;exact⟨a,b,λz=>c (by rcases Gc.mp z with z|z<;>simp[z])⟩) id) D) (λp o e=>(q p o e).imp (by rintro⟨a,b,c⟩;exact⟨a,b,λz=>c (by rcases Gc.mp z with z|z<;>simp[z])⟩) id) D;rw[iF u]at a;exact⟨_,p,vs,N++(L++y++J)++M,rfl,rfl,by simp,q.un E (λ_=>by simp),a⟩
 |.ix n::π,.o fs x,w,v,F,l,k,h,d,g=>by cases d
 |.ix n::π,.t x,w,v,F,l,k,h,d,g=>by
  obtain⟨O,p,vs,rfl,rfl,E,h2⟩:=h;dsimp only[gA]at d;dsimp only[bX]at g;cases I:x[n]? with
  |none=>rw[I]at d;exact nn d
  |some Y=>
   cases i:O[n]? with
   |none=>rw[i]at g;exact nn g
   |some w1=>rw[I]at d;rw[i]at g;obtain⟨r,N,F',M,u,rfl,U,T⟩:=eB.at x h2 I i;obtain⟨P,L,G',J,rfl,S,R,Q⟩:=Fp.path π Y U d g;refine⟨P,N++L,G',J++M,by simp,⟨p,vs,r,rfl,.inl E,u,S⟩,R,λH' B j y h' q D=>?_⟩;dsimp only[setAt];rw[i];dsimp only[Fp];have a:=T H' B _ r _ (Q H' B j y h' (λp o e=>(q p o e).imp (by rintro⟨a,b,c⟩;exact⟨a,b,λz=>c (by rcases Gc.mp z with z|z<;>simp[z])⟩) id) D) (λp o e=>(q p o e).imp (by rintro⟨a,b,c⟩;exact⟨a,b,λz=>c (by rcases Gc.mp z with z|z<;>simp[z])⟩) id) D;rw[iF u]at a;refine⟨_,p,vs,rfl,rfl,q.un E (λz=>by cases z),?_⟩;simpa using a
 |.fl n f::π,.o fs x,w,v,F,l,k,h,d,g=>by
  obtain⟨C,dx,O,p,vs,F0,rfl,rfl,rfl,E,hl,Z,h2⟩:=h;dsimp only[gA]at d;dsimp only[bX]at g;by_cases hf:fs[n]?=some f;rotate_left
  .rw[Bi hf]at d;cases d
  rw[Bz hf]at d;cases I:x[n]? with
  |none=>rw[I]at d;exact nn d
  |some Y=>
   cases i:O[n]? with
   |none=>rw[i]at g;exact nn g
   |some w1=>rw[I]at d;rw[i]at g;obtain⟨r,N,F',M,u,rfl,U,T⟩:=eB.at x h2 I i;obtain⟨P,L,G',J,rfl,S,R,Q⟩:=Fp.path π Y U d g;refine⟨P,p::N++L,G',J++M,by simp,⟨p,vs,r,rfl,⟨C,dx,fs,E,hl,Z,hf⟩,u,S⟩,R,λH' B j y h' q D=>?_⟩;dsimp only[setAt];rw[i];dsimp only[Fp];have a:=T H' B _ r _ (Q H' B j y h' (λp o e=>(q p o e).imp (by rintro⟨a,b,c⟩;exact⟨a,b,λz=>c (by rcases Gc.mp z with z|z<;>simp[z])⟩) id) D) (λp o e=>(q p o e).imp (by rintro⟨a,b,c⟩;exact⟨a,b,λz=>c (by rcases Gc.mp z with z|z<;>simp[z])⟩) id) D;rw[iF u]at a;refine⟨C,dx,_,p,vs,N++(L++y++J)++M,rfl,rfl,by simp,q.un E (λ_=>by simp),hl,Z,a⟩
end
noncomputable def cD(K:Frag)(A:Addr->Prop)(H H':Hp)(m:Md)(w:W)(v:V):Prop:=
 ∃F:List Addr,F.Nodup/\(∀p∈F,H p=none)/\Fp K (λq=>A q\/q∈F) H' m w v F
noncomputable def Dom(A:Addr->Prop)(H:Hp):Prop:=∀p,A p->∃o,H p=some o
theorem Dom.no{A:Addr->Prop}{H:Hp}(d:Dom A H){p:Addr}(h:H p=none):¬A p:=λz=>by obtain⟨o,e⟩:=d p z;rw[h]at e;cases e
theorem Dom.same{A:Addr->Prop}{H H':Hp}(d:Dom A H)(s:au H H'):Dom A H':=λp z=>by obtain⟨o,e⟩:=d p z;exact⟨o,s _ _ e⟩
section
variable{K:Frag}{A B:Addr->Prop}{H H':Hp}{m:Md}{w:W}{v:V}
theorem cD.rep(d:Dom A H)(h:cD K A H H' m w v):Rep K A H' w v:=by obtain⟨F,c,a,h⟩:=h;exact Fp.rep (λp z=>.inl z) m (λp b=>d.no (a p b)) h
theorem cD.of(h:Rep K A H' w v):cD K A H H' .s w v:=⟨[],XE,by simp,by dsimp only[Fp];exact⟨rfl,h.less λp z=>by simpa using z⟩⟩
theorem cD.s(d:Dom A H)(h:cD K A H H' m w v):cD K A H H' .s w v:=.of (h.rep d)
theorem cD.new{a:List W}{p:Addr}{vs:List V}(b:H p=none)(d:H' p=some (.lst vs))(e:aj K A H' a vs)(c:aj K (λq=>A q\/q=p) H' a vs):cD K A H H' .f (.lst a) (.ref p):=
 ⟨[p],(by simp),(by simpa using b),by dsimp only[Fp];exact⟨a,p,vs,rfl,rfl,rfl,d,c.less λq z=>by simpa using z⟩⟩
theorem cD.fresh{b:List W}{p:Addr}{vs:List V}{a:Hp}(s:au H a)(c:a p=none)(h:aj K A a b vs):cD K A H (upd a p (.lst vs)) .f (.lst b) (.ref p):=by
 have sm:=aF c (.lst vs);refine .new (s.free c) aQ (h.same sm) (aj.mv sm (λq o z y=>?_) b h);rcases y with y|y
 .exact y
 .rw[y,c]at z;cases z
theorem cD.Nv(h:cD K A H H' .f w v):∃a p vs,w=.lst a/\v=.ref p/\H p=none/\H' p=some (.lst vs)/\aj K (λq=>A q\/q=p) H' a vs:=by obtain⟨F,e,b,h⟩:=h;obtain⟨a,p,vs,rfl,rfl,rfl,d,c⟩:=h;exact⟨a,p,vs,rfl,rfl,b p (Ee.mpr rfl),d,c.less λq z=>by simpa using z⟩
theorem cD.back{a:Hp}(s:au a H)(e:∀p,B p->A p)(h:cD K A H H' m w v):cD K B a H' m w v:=by obtain⟨F,c,b,h⟩:=h;exact⟨F,c,λp d=>s.free (b p d),Fp.mv (au.refl _) (λp o _ z=>z.imp (e p) id) m h⟩
end
abbrev Ev:=List (Option W)
noncomputable def look:Ev->Nat->Option W
 |[],_=>none
 |x::_,0=>x
 |_::l,n+1=>look l n
theorem aW:∀{a:Ev}{i:Nat}{w:W},look a i=some w↔a[i]?=some (some w)
 |[],i,w=>by simp[look]
 |x::l,0,w=>by simp[look]
 |x::l,i+1,w=>by rw[look,aW];simp
abbrev Ms:=List (Nat×Md)
noncomputable def aL(M:Ms)(i:Nat):Prop:=∃m,(i,m)∈M
structure Fz where
 ab:Addr->Prop
 B:Addr->Prop
 s0:Option V
abbrev FB(A:Fz)(M:Ms)(σ:St):Addr->Prop:=A.B
structure L0(K:Frag)(M:Ms)(A:Fz)(H0:Hp)(σ:St)(H:Hp)(ε:Ev)(F:Nat->List Addr):Prop where
 un:∀i m m',(i,m)∈M->(i,m')∈M->m=m'
 val:∀i m w,(i,m)∈M->look ε i=some w->∃v,σ[i]?=some (some v)/\Fp K A.B H m w v (F i)
 emp:∀i,aL M i->look ε i=none->F i=[]
 nd:∀i,aL M i->(F i).Nodup
 ds:∀i j p,aL M i->aL M j->p∈F i->p∈F j->i=j
 nw:∀i p,aL M i->p∈F i->H0 p=none
 na:∀i p,aL M i->p∈F i->¬A.ab p
 all:∀p,A.B p↔A.ab p\/∃i,aL M i/\p∈F i
structure SR(K:Frag)(M:Ms)(A:Fz)(H0:Hp)(σ:St)(H:Hp)(ε:Ev):Prop where
 len:σ.length=ε.length
 sh:∀i w,¬aL M i->look ε i=some w->∃v,σ[i]?=some (some v)/\Rep K A.B H w v
 sm:au H0 H
 dm:Dom A.ab H
 sl:∀v,A.s0=some v->σ[0]?=some (some v)/\aL M 0
 ow:∃F,L0 K M A H0 σ H ε F
theorem aK{a:Ev}{i j:Nat}{x:Option W}(h:i≠j):look (a.set i x) j=look a j:=by
 cases e:look a j with
 |none=>
  cases b:look (a.set i x) j with
  |none=>rfl
  |some w=>rw[aW,KF h,<-aW,e]at b;cases b
 |some w=>rw[aW,KF h,<-aW];exact e
theorem iG{b:Ev}{i:Nat}{w a:W}(h:look (b.set i (some w)) i=some a):a=w:=by
 rw[aW,Ws]at h;rw[Bz rfl]at h;split at h
 .cases h;rfl
 .cases h
theorem oW{a:Ev}{i:Nat}{w:W}(h:look a i=some w):i<a.length:=by rw[aW]at h;exact(Fh.mp h).1
section
variable{K:Frag}{M M':Ms}{A:Fz}{H0 H H1:Hp}{σ:St}{ε:Ev}{F:Nat->List Addr}
theorem L0.has(O:L0 K M A H0 σ H ε F){i:Nat}{p:Addr}(c:aL M i)(a:p∈F i):∃o,H p=some o/\yg o=true:=by
 cases b:look ε i with
 |none=>rw[O.emp i c b]at a;cases a
 |some w=>obtain⟨m,d⟩:=c;obtain⟨v,_,h⟩:=O.val i m w d b;exact Fp.mu m h p a
theorem SR.dom(S:SR K M A H0 σ H ε):Dom A.B H:=λp z=>by
 obtain⟨F,O⟩:=S.ow;rcases(O.all p).mp z with z|⟨i,b,a⟩
 .exact S.dm p z
 .obtain⟨o,e,_⟩:=O.has b a;exact⟨o,e⟩
theorem SR.sub'(S:SR K M A H0 σ H ε):∀p,A.ab p->A.B p:=λp z=>by obtain⟨F,O⟩:=S.ow;exact(O.all p).mpr (.inl z)
theorem SR.same(S:SR K M A H0 σ H ε)(s:au H H1):SR K M A H0 σ H1 ε:=by
 obtain⟨F,O⟩:=S.ow;exact⟨S.len,λi w b e=>let⟨v,h1,h2⟩:=S.sh i w b e;⟨v,h1,h2.same s⟩,S.sm.trans s,S.dm.same s,S.sl,F,
  ⟨O.un,λi m w a e=>let⟨v,h1,h2⟩:=O.val i m w a e;⟨v,h1,Fp.mv s (λ_ _ _ z=>z) m h2⟩,O.emp,O.nd,O.ds,O.nw,O.na,O.all⟩⟩
theorem SR.sub(S:SR K M A H0 σ H ε)(h:∀x∈M',x∈M)(s:Option V)(hz:∀v,s=some v->A.s0=some v/\aL M' 0):∃r,r.ab=A.ab/\r.s0=s/\(∀p,r.B p->A.B p)/\SR K M' r H0 σ H ε:=by
 obtain⟨F,O⟩:=S.ow;have d:∀i,aL M' i->aL M i:=by rintro i ⟨m,f⟩;exact⟨m,h _ f⟩
 have q:∀p,(A.ab p\/∃i,aL M' i/\p∈F i)->A.B p:=λp z=>(O.all p).mpr (z.imp id<|by rintro⟨i,c,n⟩;exact⟨i,d i c,n⟩);refine⟨⟨A.ab,λp=>A.ab p\/∃i,aL M' i/\p∈F i,s⟩,rfl,rfl,q,S.len,λi w t e=>?_,S.sm,S.dm,λv e=>⟨(S.sl v (hz v e).1).1,(hz v e).2⟩,F,⟨λi m u a b=>O.un i m u (h _ a) (h _ b),λi m w f e=>?_,λi c=>O.emp i (d i c),λi c=>O.nd i (d i c),λi j p c o=>O.ds i j p (d i c) (d j o),λi p c=>O.nw i p (d i c),λi p c=>O.na i p (d i c),λp=>Iff.rfl⟩⟩
 .by_cases c:aL M i
  .have g:=c;obtain⟨m,f⟩:=c;obtain⟨v,l,k⟩:=O.val i m w f e;refine⟨v,l,Fp.rep q m (λp n z=>?_) k⟩;rcases z with z|⟨j,o,y⟩
   .exact O.na i p g n z
   .have:=O.ds i j p g (d j o) n y;subst this;exact t o
  .obtain⟨v,l,k⟩:=S.sh i w c e;exact⟨v,l,k.less q⟩
 .obtain⟨v,l,k⟩:=O.val i m w (h _ f) e;exact⟨v,l,Fp.mv (au.refl _) (λp _ _ z=>q p z) m k⟩
theorem SR.go(S:SR K M A H0 σ H ε):SR K [] ⟨A.ab,A.ab,none⟩ H0 σ H ε:=by
 obtain⟨a,b,c,h,d⟩:=S.sub (M':=[]) (λx f=>by cases f) none (λv e=>by cases e);obtain⟨F,O⟩:=d.ow;have e:∀p,a.B p↔A.ab p:=λp=>by rw[O.all p,b];exact⟨λz=>z.elim id (by rintro⟨i,⟨m,g⟩,_⟩;cases g),.inl⟩
 have:a.B=A.ab:=funext λp=>propext (e p);have:a=⟨A.ab,A.ab,none⟩:=by
  cases a;simp only at b c this;rw[b,this,c]
 rw[<-this];exact d
theorem SR.set(S:SR K M A H0 σ H ε){i:Nat}{w:W}{v:V}(g:¬aL M i)(h:Rep K A.B H w v):SR K M A H0 (σ.set i (some v)) H (ε.set i (some w)):=by
 obtain⟨F,O⟩:=S.ow;refine⟨by rw[Kk,Kk];exact S.len,λj f d e=>?_,S.sm,S.dm,λu e=>?_,F,⟨O.un,λj m f k e=>?_,λj d e=>?_,O.nd,O.ds,O.nw,O.na,O.all⟩⟩
 .by_cases a:i=j
  .subst a;have l:i<σ.length:=by rw[S.len];have:=oW e;rwa [Kk]at this
   have:=iG e;subst this;exact⟨v,PH l,h⟩
  .rw[aK a]at e;obtain⟨u,c,b⟩:=S.sh j f d e;exact⟨u,by rw[KF a];exact c,b⟩
 .obtain⟨c,b⟩:=S.sl u e;exact⟨by rw[KF (by rintro rfl;exact g b)];exact c,b⟩
 .have a:i≠j:=by rintro rfl;exact g ⟨m,k⟩
  rw[aK a]at e;obtain⟨u,c,b⟩:=O.val j m f k e;exact⟨u,by rw[KF a];exact c,b⟩
 .have a:i≠j:=by rintro rfl;exact g d
  rw[aK a]at e;exact O.emp j d e
theorem SR.own(S:SR K M' A H0 σ H ε){i:Nat}{m:Md}{w:W}{v:V}(y:∀x,x∈M↔x=(i,m)\/x∈M')(Q:¬aL M' i)(s:au H H1)(h:cD K A.B H H1 m w v):
 ∃N,N.ab=A.ab/\N.s0=A.s0/\(∀p o,H p=some o->N.B p->A.B p)/\SR K M N H0 (σ.set i (some v)) H1 (ε.set i (some w)):=by
 obtain⟨F,O⟩:=S.ow;obtain⟨G,nd,nw,L⟩:∃G:List Addr,G.Nodup/\(∀p∈G,H p=none)/\(i<ε.length->Fp K (λq=>A.B q\/q∈G) H1 m w v G)/\(ε.length<=i->G=[]):=by
  by_cases g:i<ε.length
  .obtain⟨G,nd,nw,L⟩:=h;exact⟨G,nd,nw,λ_=>L,λz=>by lia⟩
  .exact⟨[],XE,by simp,λz=>(g z).elim,λ_=>rfl⟩
 have f:∀j,aL M j↔j=i\/aL M' j:=λj=>by
  constructor
  .rintro⟨r,R⟩;rcases(y _).mp R with e|e
   .cases e;exact .inl rfl
   .exact .inr ⟨r,e⟩
  .rintro(rfl|⟨r,R⟩)
   .exact⟨m,(y _).mpr (.inl rfl)⟩
   .exact⟨r,(y _).mpr (.inr R)⟩
 have P:∀j,aL M' j->j≠i:=λj c e=>by subst e;exact Q c
 have E:∀j p,aL M' j->p∈F j->p∉G:=λj p c d z=>by obtain⟨o,e,_⟩:=O.has c d;rw[nw p z]at e;cases e
 have T:∀p o,H p=some o->(A.B p\/p∈G)->A.B p:=λp o e z=>by
  rcases z with z|z
  .exact z
  .rw[nw p z]at e;cases e
 refine⟨⟨A.ab,λp=>A.B p\/p∈G,A.s0⟩,rfl,rfl,T,by rw[Kk,Kk];exact S.len,λj J c e=>?_,S.sm.trans s,S.dm.same s,λu e=>?_,λj=>if j=i then G else F j,⟨λj Z Y a b=>?_,λj r J c e=>?_,λj c e=>?_,λj c=>?_,λj k p c U a b=>?_,λj p c d=>?_,λj p c d=>?_,λp=>?_⟩⟩
 .have t:j≠i/\¬aL M' j:=⟨λz=>c ((f j).mpr (.inl z)),λz=>c ((f j).mpr (.inr z))⟩;rw[aK (NM t.1)]at e;obtain⟨u,I,D⟩:=S.sh j J t.2 e;exact⟨u,by rw[KF (NM t.1)];exact I,Rep.mv s T J D⟩
 .obtain⟨I,D⟩:=S.sl u e;exact⟨by rw[KF (NM (P 0 D))];exact I,(f 0).mpr (.inr D)⟩
 .rcases(y _).mp a with a|a
  .rcases(y _).mp b with b|b
   .cases a;cases b;rfl
   .cases a;exact(Q ⟨_,b⟩).elim
  .rcases(y _).mp b with b|b
   .cases b;exact(Q ⟨_,a⟩).elim
   .exact O.un j Z Y a b
 .rcases(y _).mp c with a|a
  .cases a;have g:i<ε.length:=by have:=oW e;rwa [Kk]at this
   have:=iG e;subst this;exact⟨v,PH (by rw[S.len];exact g),by rw[Bz rfl];exact L.1 g⟩
  .have n:=P j ⟨r,a⟩;rw[aK (NM n)]at e;obtain⟨u,I,D⟩:=O.val j r J a e;exact⟨u,by rw[KF (NM n)];exact I,by rw[Bi n];exact Fp.mv s T r D⟩
 .by_cases n:j=i
  .subst n;rw[Bz rfl];refine L.2 (WQ λg=>?_);have:look (ε.set j (some w)) j=some w:=by rw[aW];exact PH g
   rw[this]at e;cases e
  .rw[aK (NM n)]at e;rw[Bi n];exact O.emp j (((f j).mp c).resolve_left n) e
 .by_cases n:j=i
  .rw[Bz n];exact nd
  .rw[Bi n];exact O.nd j (((f j).mp c).resolve_left n)
 .by_cases C:j=i
  .by_cases l:k=i
   .rw[C,l]
   .rw[Bz C]at a;rw[Bi l]at b;exact(E k p (((f k).mp U).resolve_left l) b a).elim
  .by_cases l:k=i
   .rw[Bi C]at a;rw[Bz l]at b;exact(E j p (((f j).mp c).resolve_left C) a b).elim
   .rw[Bi C]at a;rw[Bi l]at b;exact O.ds j k p (((f j).mp c).resolve_left C) (((f k).mp U).resolve_left l) a b
 .by_cases n:j=i
  .rw[Bz n]at d;exact S.sm.free (nw p d)
  .rw[Bi n]at d;exact O.nw j p (((f j).mp c).resolve_left n) d
 .by_cases n:j=i
  .rw[Bz n]at d;exact S.dm.no (nw p d)
  .rw[Bi n]at d;exact O.na j p (((f j).mp c).resolve_left n) d
 .constructor
  .rintro(z|z)
   .rcases(O.all p).mp z with z|⟨j,c,d⟩
    .exact .inl z
    .exact .inr ⟨j,(f j).mpr (.inr c),by rw[Bi (P j c)];exact d⟩
   .exact .inr ⟨i,(f i).mpr (.inl rfl),by rw[Bz rfl];exact z⟩
  .rintro(z|⟨j,c,d⟩)
   .exact .inl ((O.all p).mpr (.inl z))
   .by_cases n:j=i
    .rw[Bz n]at d;exact .inr d
    .rw[Bi n]at d;exact .inl ((O.all p).mpr (.inr ⟨j,((f j).mp c).resolve_left n,d⟩))
theorem L0.chg(S:SR K M A H0 σ H ε)(O:L0 K M A H0 σ H ε F){i:Nat}{m:Md}{w t:W}{v:V}{F':List Addr}(P:(i,m)∈M)(T:look ε i=some w)(R:σ[i]?=some (some v))
 (C:∀p o,H p=some o->(yg o=true/\p∈F i)\/H1 p=some o)(nd:F'.Nodup)(nw:∀p∈F',p∈F i\/H p=none)(h:Fp K (λp=>(A.B p/\p∉F i)\/p∈F') H1 m t v F'):
 ∃s,s.ab=A.ab/\s.s0=A.s0/\(∀p,s.B p↔(A.B p/\p∉F i)\/p∈F')/\(∀p o,H p=some o->s.B p->A.B p)/\sS A.B H H1/\SR K M s H0 σ H1 (ε.set i (some t)):=by
 have f:aL M i:=⟨m,P⟩;have L:∀p,p∈F i->A.B p:=λp c=>(O.all p).mpr (.inr ⟨i,f,c⟩);have Q:sS A.B H H1:=λp o e=>(C p o e).imp (λz=>⟨z.1,L p z.2⟩) id;have J:∀p o,H p=some o->((A.B p/\p∉F i)\/p∈F')->A.B p:=λp o e z=>by
  rcases z with z|z
  .exact z.1
  .rcases nw p z with z|z
   .exact L p z
   .rw[z]at e;cases e
 have D:∀j p,aL M j->j≠i->p∈F j->p∉F i/\p∉F':=λj p d n c=>by
  have a:p∉F i:=λz=>n (O.ds j i p d f c z);refine⟨a,λz=>?_⟩;rcases nw p z with z|z
  .exact a z
  .obtain⟨o,e,_⟩:=O.has d c;rw[z]at e;cases e
 refine⟨⟨A.ab,λp=>(A.B p/\p∉F i)\/p∈F',A.s0⟩,rfl,rfl,λ_=>Iff.rfl,J,Q,by rw[Kk];exact S.len,λj g d e=>?_,λp o e=>?_,λp z=>?_,S.sl,λj=>if j=i then F' else F j,⟨O.un,λj x g d e=>?_,λj d e=>?_,λj d=>?_,λj k p d N a b=>?_,λj p d c=>?_,λj p d c=>?_,λp=>?_⟩⟩
 .have n:i≠j:=by rintro rfl;exact d f
  rw[aK n]at e;obtain⟨u,I,E⟩:=S.sh j g d e;exact⟨u,I,Rep.chg Q J g E⟩
 .rcases C p o (S.sm p o e)with⟨_,z⟩|z
  .rw[O.nw i p f z]at e;cases e
  .exact z
 .obtain⟨o,e⟩:=S.dm p z;rcases C p o e with⟨_,y⟩|y
  .exact(O.na i p f y z).elim
  .exact⟨o,y⟩
 .by_cases n:j=i
  .subst n;have U:=O.un j m x P d;subst U;have:=iG e;subst this;exact⟨v,R,by rw[Bz rfl];exact h⟩
  .rw[aK (NM n)]at e;obtain⟨u,I,E⟩:=O.val j x g d e;refine⟨u,I,?_⟩;rw[Bi n];refine Fp.chg (G:=λp=>p∈F j) (λp o e=>?_) J x (λp c=>c) E;rcases C p o e with⟨z,y⟩|z
   .exact .inl ⟨z,L p y,λq=>(D j p ⟨x,d⟩ n q).1 y⟩
   .exact .inr z
 .by_cases n:j=i
  .subst n;have:look (ε.set j (some t)) j=some t:=by rw[aW];exact PH (oW T)
   rw[this]at e;cases e
  .rw[aK (NM n)]at e;rw[Bi n];exact O.emp j d e
 .by_cases n:j=i
  .rw[Bz n];exact nd
  .rw[Bi n];exact O.nd j d
 .by_cases r:j=i
  .by_cases l:k=i
   .rw[r,l]
   .rw[Bz r]at a;rw[Bi l]at b;exact((D k p N l b).2 a).elim
  .by_cases l:k=i
   .rw[Bi r]at a;rw[Bz l]at b;exact((D j p d r a).2 b).elim
   .rw[Bi r]at a;rw[Bi l]at b;exact O.ds j k p d N a b
 .by_cases n:j=i
  .rw[Bz n]at c;rcases nw p c with z|z
   .exact O.nw i p f z
   .exact S.sm.free z
  .rw[Bi n]at c;exact O.nw j p d c
 .by_cases n:j=i
  .rw[Bz n]at c;rcases nw p c with z|z
   .exact O.na i p f z
   .exact S.dm.no z
  .rw[Bi n]at c;exact O.na j p d c
 .constructor
  .rintro(⟨z,y⟩|z)
   .rcases(O.all p).mp z with z|⟨j,d,c⟩
    .exact .inl z
    .have n:j≠i:=by rintro rfl;exact y c
     exact .inr ⟨j,d,by rw[Bi n];exact c⟩
   .exact .inr ⟨i,f,by rw[Bz rfl];exact z⟩
  .rintro(z|⟨j,d,c⟩)
   .exact .inl ⟨(O.all p).mpr (.inl z),λy=>O.na i p f y z⟩
   .by_cases n:j=i
    .rw[Bz n]at c;exact .inr c
    .rw[Bi n]at c;exact .inl ⟨(O.all p).mpr (.inr ⟨j,d,c⟩),(D j p d n c).1⟩
end
end VL
set_option genSizeOf false
set_option genInjectivity false
namespace VL
open PySem PySem.Spec
open PyProof.Rows hiding St
open L2
inductive BI where
 |len|abs|max2|min2|sum|all|any|list|tuple|sU|int|PV
 deriving DecidableEq
inductive CE where
 |var (i:Nat)|int (i:Int)|bl (b:Bool)|str (x:Str)|aJ|vG (n:String)|glob (g:Nat)
 |bin (op:Operator) (a b:CE)|neg (a:CE)|not (a:CE)
 |cmp (op:CmpOp) (a b:CE)|kT (o p:CmpOp) (a b c:CE)
 |and (as:List CE)|or (as:List CE)
 |tup (as:List CE)|lst (as:List CE)
 |ix (a i:CE)|sl (a lo hi:CE)
 |call (f:Nat) (as:List CE)|blt (b:BI) (as:List CE)
 |comp (ts:List Nat) (one:Bool) (n:Nat) (it:CE) (c:CE) (e:CE)
 |gJ (as:List CE)|oX (a:CE)|rev (a:CE)|Jh (a st:CE)
 |pop (i:Nat)
 |own (i:Nat) (π:List jg)
 |vH (is:List Nat) (a:CE)
inductive CS where
 |set (i:Nat) (e:CE)|CD (ts:List Nat) (e:CE)|par (ts:List Nat) (es:List CE)
 |app (i:Nat) (e:CE)|put (i:Nat) (k e:CE)|Av (j:Nat) (e:CE)
 |ret (e:CE)|iff (c:CE) (a b:List CS)|nM (c:CE) (b:List CS)
 |fr (ts:List Nat) (one:Bool) (it:CE) (b:List CS)
 |brk
 |L1 (is:List Nat) (b:List CS)
noncomputable def Nx:W->W->(W->Prop)->Prop
 |.int i,.int j,Q=>Q (.int (i+j))
 |.lst a,.lst b,Q=>a.length+b.length<=sizeLine/\Q (.lst (a++b))
 |.tup a,.tup b,Q=>a≠[]/\a.length+b.length<=sizeLine/\Q (.tup (a++b))
 |.str a,.str b,Q=>a.length+b.length<=sizeLine/\Q (.str (a++b))
 |_,_,_=>False
noncomputable def Ny:W->W->(W->Prop)->Prop
 |.int i,.int j,Q=>IntMulOk i j/\Q (.int (i*j))
 |.lst a,.int k,Q=> -(2^63)<=k/\k<2^63/\a.length*k.toNat<=sizeLine/\Q (.lst (Dg k.toNat a).flatten)
 |_,_,_=>False
noncomputable def L3(C:Int->Int->Prop)(g:Int->Int->Int):W->W->(W->Prop)->Prop
 |.int i,.int j,Q=>C i j/\Q (.int (g i j))
 |_,_,_=>False
noncomputable def Nz:W->W->(W->Prop)->Prop
 |.int i,.int j,Q=>Q (.int (i -j))
 |_,_,_=>False
noncomputable def dJ:Operator->W->W->(W->Prop)->Prop
 |.Add=>Nx
 |.Sub=>Nz
 |.Mult=>Ny
 |.FloorDiv=>L3 Ad λi j=>i.fdiv j
 |.Mod=>L3 (λ_ j=>j≠0) λi j=>i.fmod j
 |.Pow=>L3 xG λi j=>i^j.toNat
 |.LShift=>L3 xG λi j=>i*2^j.toNat
 |.RShift=>L3 (λ_ j=>0<=j) λi j=>i/2^j.toNat
 |_=>λ_ _ _=>False
noncomputable def qE:Nat->W->Bool
 |_,.int _=>true
 |_,.str x=>PyData.strOk x
 |_,.aJ=>true
 |n+1,.lst l=>l.all (qE n)
 |n+1,.tup l=>l.all (qE n)
 |_,_=>false
noncomputable def CF:Nat->W->Bool
 |_,.bl _=>true
 |_,.str x=>PyData.strOk x
 |_,.aJ=>true
 |n+1,.lst l=>l.all (CF n)
 |n+1,.tup l=>l.all (CF n)
 |_,_=>false
noncomputable def Ro(a:Bool):W->W->(W->Prop)->Prop
 |.int i,.int j,Q=>Q (.bl (if a then !decide (i=j)else decide (i=j)))
 |.str i,.str j,Q=>Q (.bl (if a then !decide (i=j)else decide (i=j)))
 |.bl i,.bl j,Q=>Q (.bl (if a then !decide (i=j)else decide (i=j)))
 |x,y,Q=>((qE 9 x=true/\qE 9 y=true)\/(CF 9 x=true/\CF 9 y=true))/\∀b:Bool,(b=true↔x=y)->Q (.bl (if a then !b else b))
noncomputable def Aw(p:Int->Int->Bool):W->W->(W->Prop)->Prop
 |.int i,.int j,Q=>Q (.bl (p i j))
 |_,_,_=>False
noncomputable def NB(x y:W)(Q:W->Prop):Prop:=∃(a b:Int)(c d:List Int),x=.tup [.int a,.lst (c.map W.int)]/\y=.tup [.int b,.lst (d.map W.int)]/\Q (.bl (if a=b then HT.lexLt c d else decide (a<b)))
noncomputable def SJ:W->W->(W->Prop)->Prop
 |.int i,.int j,Q=>Q (.bl (decide (i<j)))
 |.tup a,.tup b,Q=>NB (.tup a) (.tup b) Q
 |_,_,_=>False
noncomputable def Rp(a:Bool):W->W->(W->Prop)->Prop
 |.aJ,.aJ,Q=>Q (.bl (!a))
 |.bl _,.aJ,Q=>Q (.bl a)
 |.int _,.aJ,Q=>Q (.bl a)
 |.str _,.aJ,Q=>Q (.bl a)
 |.lst _,.aJ,Q=>Q (.bl a)
 |.tup _,.aJ,Q=>Q (.bl a)
 |.err _,.aJ,Q=>Q (.bl a)
 |_,_,_=>False
noncomputable def eO:CmpOp->W->W->(W->Prop)->Prop
 |.Eq=>Ro false
 |.NotEq=>Ro true
 |.Lt=>SJ
 |.LtE=>Aw λi j=>decide (i<=j)
 |.Gt=>Aw λi j=>decide (j<i)
 |.GtE=>Aw λi j=>decide (j<=i)
 |.Is=>Rp false
 |.IsNot=>Rp true
 |_=>λ_ _ _=>False
noncomputable def dN:CmpOp->W->W->(W->Prop)->Prop
 |.Lt=>Aw λi j=>decide (i<j)
 |o=>eO o
noncomputable def GG:W->W->(W->Prop)->Prop
 |.lst l,.int i,Q=>∃w,i8 l i=some w/\Q w
 |.tup l,.int i,Q=>∃w,i8 l i=some w/\Q w
 |.fV ns,.int i,Q=>∃n,i8 ns i=some n/\Q (.int n)
 |_,_,_=>False
noncomputable def gB(l:List W)(a b:Option Int):List W:=(l.drop (HT.ny l.length 0 a)).take (HT.ny l.length l.length b -HT.ny l.length 0 a)
noncomputable def iH:CE->Bool
 |.aJ=>true
 |_=>false
noncomputable def UH:W->(Option Int->Prop)->Prop
 |.int i,Q=>Q (some i)
 |_,_=>False
noncomputable def DM(c:CE)(y:W)(Q:Option Int->Prop):Prop:=cond (iH c) (Q none) (UH y Q)
noncomputable def PX:W->Option Int->Option Int->(W->Prop)->Prop
 |.lst l,a,b,Q=>Q (.lst (gB l a b))
 |.fV ns,a,b,Q=>Q (.lst (gB (ns.map W.int) a b))
 |_,_,_,_=>False
noncomputable def SK:W->Option String
 |.aJ=>some "NoneType"
 |.bl _=>some "bool"
 |.int _=>some "int"
 |.str _=>some "str"
 |.lst _=>some "list"
 |.tup _=>some "tuple"
 |_=>none
noncomputable def oY(a b:String):Bool:=a==b||(a=="bool"&&b=="int")
noncomputable def kU:BI->List W->(W->Prop)->Prop
 |.len,[.lst l],Q=>Q (.int l.length)
 |.len,[.tup l],Q=>Q (.int l.length)
 |.len,[.fV ns],Q=>Q (.int ns.length)
 |.abs,[.int i],Q=>Q (.int (if i<0 then-i else i))
 |.max2,[.int i,.int j],Q=>Q (.int (if j>i then j else i))
 |.max2,[.lst l],Q=>∃ns:List Int,l=ns.map W.int/\ns≠[]/\∀m∈ns,(∀n∈ns,n<=m)->Q (.int m)
 |.min2,[.int i,.int j],Q=>Q (.int (if j<i then j else i))
 |.min2,[.lst l],Q=>∃ns:List Int,l=ns.map W.int/\ns≠[]/\∀m∈ns,(∀n∈ns,m<=n)->Q (.int m)
 |.sum,[.lst l],Q=>∃ns:List Int,l=ns.map W.int/\Q (.int ns.sum)
 |.all,[.lst l],Q=>∃c:List Bool,l=c.map W.bl/\Q (.bl (c.all id))
 |.any,[.lst l],Q=>∃c:List Bool,l=c.map W.bl/\Q (.bl (c.any id))
 |.list,[.lst l],Q=>Q (.lst l)
 |.list,[.tup l],Q=>Q (.lst l)
 |.tuple,[.lst l],Q=>Q (.tup l)
 |.tuple,[.tup l],Q=>Q (.tup l)
 |.sU,[w,.ty n],Q=>∃a,SK w=some a/\Q (.bl (oY a n))
 |.int,[.bl b],Q=>Q (.int (if b then 1 else 0))
 |.PV,[.int i,.int j],Q=>(0<j/\j<1073741824)/\Q (.tup [.int (i/j),.int (i%j)])
 |_,_,_=>False
noncomputable def bJ(a:Ev):List Nat->List W->Ev
 |i::c,w::b=>bJ (a.set i (some w)) c b
 |_,_=>a
noncomputable def wT(one:Bool)(a:List Nat)(w:W)(b:Ev)(Q:Ev->Prop):Prop:=
 match one,a,w with
 |true,[i],w=>Q (b.set i (some w))
 |false,a,.tup l=>l.length=a.length/\Q (bJ b a l)
 |_,_,_=>False
noncomputable def jO(f:W->(Option W->Prop)->Prop):List W->List W->(List W->Prop)->Prop
 |[],acc,Q=>Q acc
 |w::a,acc,Q=>f w λr=>match r with
  |some y=>acc.length<sizeLine/\jO f a (acc++[y]) Q
  |none=>jO f a acc Q
noncomputable def truth:W->(Bool->Prop)->Prop
 |.bl b,Q=>Q b
 |_,_=>False
noncomputable def items:W->(List W->Prop)->Prop
 |.lst l,Q=>Q l
 |.tup l,Q=>Q l
 |_,_=>False
noncomputable def cj(a st:Int)(n:Nat):List W:=(Ea n).map λ(i:Nat)=>W.int (a+(i:Int)*st)
noncomputable def Ax:List W->(List W->Prop)->Prop
 |[.int j],Q=> -(2^62)<=j/\j<2^62/\Q (cj 0 1 j.toNat)
 |[.int i,.int j],Q=>(-(2^62)<=i/\i<2^62/\-(2^62)<=j/\j<2^62)/\Q (cj i 1 (j -i).toNat)
 |[.int i,.int j,.int k],Q=>∃n:Nat,(k≠0/\k.natAbs<1073741824/\Builtin.Range.small i j k=true/\Builtin.Range.rangeSize i j k=(n:Int))/\Q (cj i k n)
 |_,_=>False
noncomputable def fU(l:List W):List W:=List.zipWith (λ(i:Nat) w=>W.tup [.int i,w]) (Ea l.length) l
mutual
noncomputable def CG:W->Bool
 |.aJ=>true
 |.bl _=>true
 |.int _=>true
 |.str _=>true
 |.tup l=>Ay l
 |_=>false
noncomputable def Ay:List W->Bool
 |[]=>true
 |w::l=>CG w&&Ay l
end
mutual
noncomputable def flat:Md->W->Bool
 |.s,w=>CG w
 |.f,w=>match w with
  |.lst l=>Ay l
  |_=>false
 |.t a,w=>match w with
  |.tup l=>vI a l
  |_=>false
 |.o _ _,_=>false
 |.io _,_=>false
 |.ls _,_=>false
noncomputable def vI:List Md->List W->Bool
 |[],l=>l.isEmpty
 |m::a,l=>match l with
  |w::l=>flat m w&&vI a l
  |[]=>false
end
noncomputable def SM:CE->Option Int
 |.int i=>some i
 |_=>none
noncomputable def Rq:List CE->Option W
 |[a,b]=>(SM a).bind λi=>(SM b).bind λj=>some (.tup [.int i,.int j])
 |_=>none
noncomputable def cst:CE->Option W
 |.int i=>some (.int i)
 |.tup l=>Rq l
 |_=>none
abbrev aT:=List W->(W->Prop)->(Addr->Prop)->Prop
noncomputable def Ji:W->Bool
 |.aJ|.bl _|.int _|.str _=>true
 |_=>false
section
variable(Φ:Nat->aT)(G:Nat->W)
mutual
noncomputable def wE(R:Addr->Prop):CE->Ev->(W->Prop)->Prop
 |.var i,d,Q=>match look d i with
  |some w=>Q w
  |none=>False
 |.int i,_,Q=>Q (.int i)
 |.bl b,_,Q=>Q (.bl b)
 |.str x,_,Q=>Q (.str x)
 |.aJ,_,Q=>Q .aJ
 |.vG n,_,Q=>Q (.ty n)
 |.glob g,_,Q=>Q (G g)
 |.bin op a b,d,Q=>wE R a d λx=>wE R b d λy=>dJ op x y Q
 |.neg a,d,Q=>wE R a d λx=>match x with
  |.int i=>Q (.int (-i))
  |_=>False
 |.not a,d,Q=>wE R a d λx=>truth x λb=>Q (.bl (!b))
 |.cmp op a b,d,Q=>wE R a d λx=>wE R b d λy=>eO op x y Q
 |.kT o p a b c,d,Q=>wE R a d λx=>wE R b d λy=>dN o x y λz=>truth z λk=>if k=true then wE R c d λu=>dN p y u Q else Q (.bl false)
 |.and m,d,Q=>xx R m d Q
 |.or m,d,Q=>LQ R m d Q
 |.tup m,d,Q=>wA R m d λj=>j.length<=sizeLine/\Q (.tup j)
 |.lst m,d,Q=>wA R m d λj=>j.length<=sizeLine/\Q (.lst j)
 |.ix a i,d,Q=>wE R a d λx=>wE R i d λy=>GG x y Q
 |.sl a r s,d,Q=>wE R a d λx=>wE R r d λy=>DM r y λl=>wE R s d λz=>DM s z λh=>PX x l h Q
 |.call f m,d,Q=>wA R m d λj=>Φ f j Q R
 |.blt b m,d,Q=>wA R m d λj=>kU b j Q
 |.comp t one n v c e,d,Q=>wE R v d λz=>items z λj=>jO (λw K=>wT one t w (Dg n none++d) λq=>wE (λ_=>False) c q λx=>truth x λk=>if k=true then wE (λ_=>False) e q λy=>K (some y)else K none) j [] λl=>Q (.lst l)
 |.gJ m,d,Q=>wA R m d λj=>Ax j λl=>Q (.lst l)
 |.oX a,d,Q=>wE R a d λx=>match x with
  |.lst l=>Q (.lst (fU l))
  |_=>False
 |.rev a,d,Q=>wE R a d λx=>match x with
  |.lst l=>Q (.lst l.reverse)
  |_=>False
 |.Jh a st,d,Q=>wE R a d λx=>wE R st d λy=>y=.int (-1)/\match x with
  |.lst l=>Q (.lst l.reverse)
  |_=>False
 |.pop _,_,_=>False
 |.own i π,d,Q=>match look d i with
  |some w=>match bX w π with
   |some u=>Q u
   |none=>False
  |none=>False
 |.vH _ a,d,Q=>wE R a d λw=>Ji w=true/\Q w
noncomputable def wA(R:Addr->Prop):List CE->Ev->(List W->Prop)->Prop
 |[],_,Q=>Q []
 |a::d,b,Q=>wE R a b λx=>wA R d b λc=>Q (x::c)
noncomputable def xx(R:Addr->Prop):List CE->Ev->(W->Prop)->Prop
 |[],_,_=>False
 |a::e,c,Q=>match e with
  |[]=>wE R a c Q
  |b::d=>wE R a c λx=>truth x λk=>if k=true then xx R (b::d) c Q else Q (.bl false)
noncomputable def LQ(R:Addr->Prop):List CE->Ev->(W->Prop)->Prop
 |[],_,_=>False
 |a::e,c,Q=>match e with
  |[]=>wE R a c Q
  |b::d=>wE R a c λx=>truth x λk=>if k=true then Q (.bl true)else LQ R (b::d) c Q
end
structure Dn where
 nx:Ev->Prop
 rt:W->Prop
 bk:Ev->Prop
 ct:Ev->Prop
 ex:Addr->Prop
mutual
noncomputable def wP(R:Addr->Prop):CE->Ev->(W->Ev->Prop)->Prop
 |.pop i,c,Q=>match look c i with
  |some (.lst l)=>∃w,l[l.length -1]?=some w/\Q w (c.set i (some (.lst l.dropLast)))
  |_=>False
 |.bin op a b,c,Q=>wP R a c λx k=>wP R b k λy j=>dJ op x y λz=>Q z j
 |.cmp op a b,c,Q=>wP R a c λx k=>wP R b k λy j=>eO op x y λz=>Q z j
 |.call f g,c,Q=>HD R g c λh d=>Φ f h (λw=>Q w d) R
 |.blt b g,c,Q=>HD R g c λh d=>kU b h λw=>Q w d
 |.ix a b,c,Q=>wP R a c λx k=>wP R b k λy j=>GG x y λz=>Q z j
 |.lst g,c,Q=>HD R g c λh d=>h.length<=sizeLine/\Q (.lst h) d
 |.tup g,c,Q=>HD R g c λh d=>h.length<=sizeLine/\Q (.tup h) d
 |.and g,c,Q=>ze R g c Q
 |.or g,c,Q=>HE R g c Q
 |e,c,Q=>wE Φ G R e c λw=>Q w c
noncomputable def HD(R:Addr->Prop):List CE->Ev->(List W->Ev->Prop)->Prop
 |[],b,Q=>Q [] b
 |a::f,b,Q=>wP R a b λx e=>HD R f e λc d=>Q (x::c) d
noncomputable def ze(R:Addr->Prop):List CE->Ev->(W->Ev->Prop)->Prop
 |[],_,_=>False
 |a::f,d,Q=>match f with
  |[]=>wP R a d Q
  |b::e=>wP R a d λx c=>truth x λk=>if k=true then ze R (b::e) c Q else Q (.bl false) c
noncomputable def HE(R:Addr->Prop):List CE->Ev->(W->Ev->Prop)->Prop
 |[],_,_=>False
 |a::f,d,Q=>match f with
  |[]=>wP R a d Q
  |b::e=>wP R a d λx c=>truth x λk=>if k=true then Q (.bl true) c else HE R (b::e) c Q
end
noncomputable def gR(b:W->Dn->Ev->Prop)(D:Dn):List W->Ev->Prop
 |[],a=>D.nx a
 |w::c,a=>b w {nx:=gR b D c,rt:=D.rt,bk:=D.nx,ct:=gR b D c,ex:=λ_=>False} a
noncomputable def DN(c:Ev->(Bool->Prop)->Prop)(b:Dn->Ev->Prop)(D:Dn)(a:Ev):Prop:=
 ∃J:Nat->Ev->Prop,(∃m,J m a)/\∀m a,J m a->c a λk=>if k=true then∃N:Ev->Prop,(∀d,N d->∃e,e<m/\J e d)/\b {nx:=N,rt:=D.rt,bk:=D.nx,ct:=N,ex:=λ_=>False} a else D.nx a
mutual
noncomputable def wS:CS->Dn->Ev->Prop
 |.set i e,D,d=>wE Φ G D.ex e d λw=>D.nx (d.set i (some w))
 |.CD g e,D,d=>wE Φ G D.ex e d λw=>match w with
  |.tup l=>l.length=g.length/\D.nx (bJ d g l)
  |_=>False
 |.par g p,D,d=>wA Φ G D.ex p d λh=>h.length=g.length/\D.nx (bJ d g h)
 |.app i e,D,d=>match look d i with
  |some (.lst l)=>wE Φ G D.ex e d λw=>l.length<sizeLine/\D.nx (d.set i (some (.lst (l++[w]))))
  |_=>False
 |.put i k e,D,d=>wE Φ G D.ex e d λw=>match look d i with
  |some (.lst l)=>wE Φ G D.ex k d λx=>match x with
   |.int j=>∃n,sO l.length j=some n/\D.nx (d.set i (some (.lst (l.set n w))))
   |_=>False
  |_=>False
 |.Av j e,D,d=>wP Φ G D.ex e d λw f=>D.nx (f.set j (some w))
 |.ret e,D,d=>wE Φ G D.ex e d D.rt
 |.iff c a b,D,d=>wE Φ G D.ex c d λx=>truth x λk=>if k=true then wSs a D d else wSs b D d
 |.nM c b,D,d=>DN (λd Q=>wE Φ G (λ_=>False) c d λx=>truth x Q) (wSs b) D d
 |.fr g one m b,D,d=>wE Φ G (λ_=>False) m d λz=>items z λh=>gR (λw q f=>wT one g w f λo=>wSs b q o) D h d
 |.brk,D,d=>D.bk d
 |.L1 _ b,D,d=>wSs b {D with nx:=λ_=>False,bk:=λ_=>False,ct:=λ_=>False} d
noncomputable def wSs:List CS->Dn->Ev->Prop
 |[],D,a=>D.nx a
 |s::c,D,a=>match c with
  |[]=>wS s D a
  |t::b=>wS s {D with nx:=wSs (t::b) D} a
end
end
noncomputable def aN(K:Frag)(B:Addr->Prop)(H:Hp)(w:W)(v:V):Prop:=
 match w with
 |.lst l=>∃p a,v=.ref p/\Rd H p (.lst a)/\aj K B H l a
 |w=>Rep K B H w v
section
variable{K:Frag}{A B:Addr->Prop}{H H':Hp}{w:W}{v:V}
theorem Rep.b(h:Rep K B H w v):aN K B H w v:=by
 cases w with
 |lst l=>obtain⟨p,a,e,_,d,c⟩:=h;exact⟨p,a,e,d,c⟩
 |_=>exact h
theorem aN.same(s:au H H')(h:aN K B H w v):aN K B H' w v:=by
 cases w with
 |lst l=>obtain⟨p,a,e,c,b⟩:=h;exact⟨p,a,e,VL.au.rd s c,b.same s⟩
 |_=>exact Rep.same s h
theorem aN.lst{l:List W}(h:aN K B H (.lst l) v):∃p vs,v=.ref p/\Rd H p (.lst vs)/\aj K B H l vs:=h
theorem aN.NC{l:List W}(h:aN K B H (.tup l) v):∃p vs,v=.ref p/\H p=some (.tup vs)/\aj K B H l vs:=by have h:Rep K B H (.tup l) v:=h;dsimp only[Rep]at h;exact h
theorem aN.tup{l:List W}(h:aN K B H (.tup l) v):∃p vs,v=.ref p/\ie K H p vs/\aj K B H l vs:=by have h:Rep K B H (.tup l) v:=h;obtain⟨p,vs,e,b,a⟩:=h;exact⟨p,vs,e,ie.of b,a⟩
theorem aN.int{i:Int}(h:aN K B H (.int i) v):v=.int i:=by have h:Rep K B H (.int i) v:=h;dsimp only[Rep]at h;exact h
theorem aN.bl{i:Bool}(h:aN K B H (.bl i) v):v=.bl i:=by have h:Rep K B H (.bl i) v:=h;dsimp only[Rep]at h;exact h
theorem aN.str{i:Str}(h:aN K B H (.str i) v):v=.str i:=by have h:Rep K B H (.str i) v:=h;dsimp only[Rep]at h;exact h
theorem aN.aJ(h:aN K B H .aJ v):v=.aJ:=by have h:Rep K B H .aJ v:=h;dsimp only[Rep]at h;exact h
theorem aN.ty{n:String}(h:aN K B H (.ty n) v):v=.ty n:=by have h:Rep K B H (.ty n) v:=h;dsimp only[Rep]at h;exact h
theorem dB(i:Int):Rep K B H (.int i) (.int i):=by dsimp only[Rep]
theorem qF(i:Bool):Rep K B H (.bl i) (.bl i):=by dsimp only[Rep]
theorem ND(i:Str):Rep K B H (.str i) (.str i):=by dsimp only[Rep]
theorem Rr:Rep K B H .aJ .aJ:=by dsimp only[Rep]
theorem UI(n:String):Rep K B H (.ty n) (.ty n):=by dsimp only[Rep]
theorem rM{l:List W}{p:Addr}{vs:List V}(b:H p=some (.tup vs))(a:aj K B H l vs):Rep K B H (.tup l) (.ref p):=by dsimp only[Rep];exact⟨p,vs,rfl,b,a⟩
end
abbrev KP:=W->Prop
noncomputable def Cont(K:Frag)(B:Addr->Prop)(H:Hp)(m:Md)(P:KP)(Q:VK):Prop:=∀w v a,P w->au H a->cD K B H a m w v->Q v a
theorem Cont.now{K:Frag}{B:Addr->Prop}{H:Hp}{P:KP}{Q:VK}(c:Cont K B H .s P Q){w:W}{v:V}(p:P w)(h:Rep K B H w v):Q v H:=c w v H p (au.refl H) (.of h)
theorem Cont.s{K:Frag}{B:Addr->Prop}{H:Hp}{m:Md}{P:KP}{Q:VK}(d:Dom B H)(c:Cont K B H .s P Q):Cont K B H m P Q:=λw v b p a h=>c w v b p a (h.s d)
noncomputable def Az(X:Cx)(f:Value->Value->Sem Value)(r:W->W->KP->Prop)(m:W->W->Md):Prop:=
 ∀(a:List (Addr×Obj))(s:Shared)(b:St)(H:Hp)(B:Addr->Prop)(x y:W)(d c:V)(v u:Value)(P:KP)(Q:VK),Inv X a b H s->Dom B H->RelV d v->RelV c u->aN X.K B H x d->aN X.K B H y c->r x y P->Cont X.K B H (m x y) P Q->
  wpAny (model X.prog X.w) X.A (f v u) (EP X a b Q) X.xe s
section
variable{X:Cx}
theorem DO:gD X (binaryOp .Add) (λx y H Q=>∃l b f d,x=.ref l/\y=.ref b/\Rd H l (.lst f)/\Rd H b (.lst d)/\f.length+d.length<=sizeLine/\∀p,H p=none->Q (.ref p) (upd H p (.lst (f++d)))):=by
 intro i s B H x y v u Q I k j h;obtain⟨l,b,f,d,rfl,rfl,o,t,hz,q⟩:=h;cases k;cases j;obtain⟨z,c,n,r,e⟩:=o.ok I.hok;obtain⟨C,a,D,g,A⟩:=t.ok I.hok;have E:=r.length;have m:=g.length;refine PySem.P.add_list e A ?_ (by rw[Do,Do];lia);have w:c.toArray++a.toArray=(c++a).toArray:=by simp
 rw[w];exact⟨.ref _,_,I.M7 (t':=s.toks) (r.append g) (by rw[Fm];lia),rfl,q _ I.fresh⟩
theorem DP:gD X (binaryOp .Mult) (λx y H Q=>∃l k i,x=.ref l/\y=.int k/\Rd H l (.lst i)/\-(2^63)<=k/\k<2^63/\i.length*k.toNat<=sizeLine/\∀p,H p=none->Q (.ref p) (upd H p (.lst (Dg k.toNat i).flatten))):=by
 intro w s M H x y v u Q I C B h;obtain⟨l,k,i,rfl,rfl,E,J,G,hz,q⟩:=h;cases C;obtain⟨t,rfl⟩:=B;obtain⟨z,b,n,r,e⟩:=E.ok I.hok;have D:=r.length;have d:b.toArray.size*k.toNat<=sizeLine:=by rw[Do,<-D];exact hz
 have g:¬b.toArray.size*k.toNat>(2^63 -1)/8:=by
  have:(sizeLine:Nat)<=(2^63 -1)/8:=by decide
  lia
 have f:¬(!Builtin.List.listFitsIndex k)=true:=by rw[fitsIndex_both J G];exact Hm
 have L:¬Builtin.List.listTooLong (b.toArray.size*k.toNat)=true:=by rw[zR d];exact Hm
 have c:Ua (λo j=>o++j) #[] (Dg (if b.toArray.isEmpty=true then 0 else k.toNat) b.toArray)=(Dg k.toNat b).flatten.toArray:=by
  have K:∀m:Nat,Ua (λo j=>o++j) #[] (Dg m b.toArray)=(Dg m b).flatten.toArray:=λm=>by have:=foldl_rep b m [];rw[VQ]at this;exact this
  rw[K];cases b with
  |nil=>simp
  |cons a N=>rw[Bi (by simp)]
 refine wpAny_binaryOp_repeat_ref (T:="list") (U:="int") (by decide) ⟨_,e,rfl⟩ (λA=>typeIs_int A k t) noFill_list_mul F.fills_int_mul F.slot_int_rmul repeat_list F.slot_int_index.lookup
  (call_meets F.slot_int_rmul (typeIs_int s k t) F.entry_int_rmul (F.args_int_rmul_2 _ _) (int___rmul___int_list k t l b.toArray n)
    ⟨e,rfl,⟨_,e,rfl⟩,call_meets F.slot_list_mul ⟨_,e,rfl⟩ F.entry_list_mul (F.args_list_mul_2 _ _) (AutoListH.list___mul___list_int_3 l b.toArray n k t f g L) ⟨e,?_⟩⟩)
 rw[c];exact⟨.ref _,_,I.M7 (t':=s.toks) (r.rep k.toNat) (by rw[len_rep,TZ];exact hz),rfl,q _ I.fresh⟩
noncomputable def DR:W->W->Md
 |.lst _,_=>.f
 |_,_=>.s
theorem Jj:Az X (binaryOp .Add) Nx DR:=by
 intro f s m H B x y N M v u P Q I d t o A w h c;cases x with
 |int i=>
  cases y with
  |int j=>
   cases A.int;cases w.int;exact Il f s m H _ _ v u Q I t o ⟨i,j,rfl,rfl,c.now h (dB _)⟩
  |_=>exact h.elim
 |str i=>
  cases y with
  |str j=>
   cases A.str;cases w.str;exact tH f s m H _ _ v u Q I t o ⟨i,j,rfl,rfl,h.1,c.now h.2 (ND _)⟩
  |_=>exact h.elim
 |lst a=>
  cases y with
  |lst b=>obtain⟨p,n,rfl,J,g⟩:=A.lst;obtain⟨q,C,rfl,D,k⟩:=w.lst;obtain⟨G,h⟩:=h;refine DO f s m H _ _ v u Q I t o ⟨p,q,n,C,rfl,rfl,J,D,by rw[g.len,k.len];exact G,λr l=>?_⟩;exact c _ _ _ h (aF l _) (.fresh (au.refl H) l (g.app k))
  |_=>exact h.elim
 |tup a=>
  cases y with
  |tup b=>
   obtain⟨p,n,rfl,L,g⟩:=A.NC;have J:ie X.K H p n:=ie.of L;obtain⟨q,C,rfl,D,k⟩:=w.tup;obtain⟨E,G,h⟩:=h;refine C8 f s m H _ _ v u Q I t o ⟨p,q,n,C,rfl,rfl,J,D,λz=>E ?_,by rw[g.len,k.len];exact G,λz=>?_,λ_ r l=>?_⟩
   .have:=g.len;rw[z]at this;exact OK.mp this.symm
   .have:=k.len;rw[z]at this;have e:b=[]:=OK.mp this.symm;subst e;rw[X7]at h;exact c.now h (rM L g)
   .exact c _ _ _ h (aF l _) (.of (rM aQ ((g.app k).same (aF l _))))
  |_=>exact h.elim
 |_=>exact h.elim
theorem Jk:Az X (binaryOp .Mult) Ny DR:=by
 intro b s e H B x y D C v u P Q I d g f m l h c;cases x with
 |int i=>
  cases y with
  |int j=>
   cases m.int;cases l.int;exact DA b s e H _ _ v u Q I g f ⟨i,j,rfl,rfl,h.1,c.now h.2 (dB _)⟩
  |_=>exact h.elim
 |lst a=>
  cases y with
  |int k=>obtain⟨p,q,rfl,A,o⟩:=m.lst;cases l.int;obtain⟨w,t,z,h⟩:=h;refine DP b s e H _ _ v u Q I g f ⟨p,k,q,rfl,rfl,A,w,t,by rw[o.len];exact z,λr n=>?_⟩;exact c _ _ _ h (aF n _) (.fresh (au.refl H) n (o.rep _))
  |_=>exact h.elim
 |_=>exact h.elim
noncomputable def mS:W->W->Md:=λ_ _=>.s
theorem Jl:Az X (binaryOp .Sub) Nz mS:=by
 intro a s b H B x y m l v u P Q I d f e k g h c;cases x with
 |int i=>
  cases y with
  |int j=>
   cases k.int;cases g.int;exact Im a s b H _ _ v u Q I f e ⟨i,j,rfl,rfl,c.now h (dB _)⟩
  |_=>exact h.elim
 |_=>exact h.elim
theorem rN{f:Value->Value->Sem Value}{C:Int->Int->Prop}{g:Int->Int->Int}(n:gD X f (rI C λi j=>.int (g i j))):Az X f (L3 C g) mS:=by
 intro a s b H B x y p o v u P Q I d k e m l h c;cases x with
 |int i=>
  cases y with
  |int j=>
   cases m.int;cases l.int;exact n a s b H _ _ v u Q I k e ⟨i,j,rfl,rfl,h.1,c.now h.2 (dB _)⟩
  |_=>exact h.elim
 |_=>exact h.elim
noncomputable def DS:Operator->W->W->Md
 |.Add=>DR
 |.Mult=>DR
 |_=>mS
theorem ua(op:Operator):Az X (binaryOp op) (dJ op) (DS op):=by
 cases op with
 |Add=>exact Jj
 |Sub=>exact Jl
 |Mult=>exact Jk
 |FloorDiv=>exact rN Ae
 |Mod=>exact rN CZ
 |Pow=>exact rN Io
 |LShift=>exact rN Iq
 |RShift=>exact rN Ir
 |_=>exact λa s b H B x y f e v u P Q I d i g k j h c=>h.elim
theorem oZ{f:Value->Value->Sem Value}{p:Int->Int->Bool}(m:gD X f (yZ λi j=>.bl (p i j))):Az X f (Aw p) mS:=by
 intro a s b H B x y o n v u P Q I d g e l k h c;cases x with
 |int i=>
  cases y with
  |int j=>
   cases l.int;cases k.int;exact m a s b H _ _ v u Q I g e ⟨i,j,rfl,rfl,c.now h (qF _)⟩
  |_=>exact h.elim
 |_=>exact h.elim
end
mutual
noncomputable def toD:W->PyData
 |.aJ=>.none
 |.bl b=>.bool b
 |.int i=>.int i
 |.str x=>.str x
 |.lst l=>.list (toDL l)
 |.tup l=>.tuple (toDL l)
 |_=>.none
noncomputable def toDL:List W->List PyData
 |[]=>[]
 |w::l=>toD w::toDL l
end
mutual
noncomputable def vJ:W->Bool
 |.aJ=>true
 |.bl _=>true
 |.int _=>true
 |.str x=>PyData.strOk x
 |.lst l=>o9 l
 |.tup l=>o9 l
 |_=>false
noncomputable def o9:List W->Bool
 |[]=>true
 |w::l=>vJ w&&o9 l
end
section
variable{X:Cx}{B:Addr->Prop}{H:Hp}
mutual
theorem NH:∀(w:W){v:V},vJ w=true->Rep X.K B H w v->Dt X H v (toD w)
 |.aJ,v,_,h=>by obtain rfl:=h;exact Ja
 |.bl b,v,_,h=>by obtain rfl:=h;exact Nn b
 |.int i,v,_,h=>by obtain rfl:=h;exact IZ i
 |.str x,v,_,h=>by obtain rfl:=h;exact I0 x
 |.lst l,v,d,h=>by obtain⟨p,e,rfl,_,c,a⟩:=h;exact An (.inl c) (vK l d a)
 |.tup l,v,d,h=>by obtain⟨p,e,rfl,c,a⟩:=h;exact Jb (ie.of c) (vK l d a)
 |.ty _,_,d,_=>ff d
 |.cls _,_,d,_=>ff d
 |.err _,_,d,_=>ff d
 |.dct _ _,_,d,_=>ff d
 |.obj _ _ _,_,d,_=>ff d
 |.fV _,_,d,_=>ff d
theorem vK:∀(l:List W){vs:List V},o9 l=true->aj X.K B H l vs->Paired (Dt X H) vs (toDL l)
 |[],vs,_,h=>by rw[h.nil_inv];exact .nil
 |w::l,vs,d,h=>by obtain⟨v,r,rfl,b,a⟩:=h.cons_inv;have d:=Iy.mp d;exact .cons (NH w d.1 b) (vK l d.2 a)
end
theorem DU{w:W}{v:V}(d:vJ w=true)(h:aN X.K B H w v):Dt X H v (toD w):=by
 cases w with
 |lst l=>obtain⟨p,c,rfl,b,a⟩:=h.lst;exact An (.inl b) (vK l d a)
 |_=>exact NH (B:=B) _ d h
end
mutual
theorem toD_lay:∀w:W,vJ w=true->(toD w).canLay0=true
 |.aJ,_=>rfl
 |.bl _,_=>rfl
 |.int _,_=>rfl
 |.str x,d=>d
 |.lst l,d=>toDL_lay l d
 |.tup l,d=>toDL_lay l d
 |.ty _,d=>ff d
 |.cls _,d=>ff d
 |.err _,d=>ff d
 |.dct _ _,d=>ff d
 |.obj _ _ _,d=>ff d
 |.fV _,d=>ff d
theorem toDL_lay:∀l:List W,o9 l=true->PyData.canLayAll0 (toDL l)=true
 |[],_=>rfl
 |w::l,d=>by have d:=Iy.mp d;exact Iy.mpr ⟨toD_lay w d.1,toDL_lay l d.2⟩
end
mutual
theorem toD_inj:∀x y:W,vJ x=true->vJ y=true->same (toD x) (toD y)=true->x=y
 |.aJ,.aJ,_,_,_=>rfl
 |.aJ,.bl _,_,_,h=>ff h
 |.aJ,.int _,_,_,h=>ff h
 |.aJ,.str _,_,_,h=>ff h
 |.aJ,.lst _,_,_,h=>ff h
 |.aJ,.tup _,_,_,h=>ff h
 |.bl _,.aJ,_,_,h=>ff h
 |.bl _,.int _,_,_,h=>ff h
 |.bl _,.str _,_,_,h=>ff h
 |.bl _,.lst _,_,_,h=>ff h
 |.bl _,.tup _,_,_,h=>ff h
 |.int _,.aJ,_,_,h=>ff h
 |.int _,.bl _,_,_,h=>ff h
 |.int _,.str _,_,_,h=>ff h
 |.int _,.lst _,_,_,h=>ff h
 |.int _,.tup _,_,_,h=>ff h
 |.str _,.aJ,_,_,h=>ff h
 |.str _,.bl _,_,_,h=>ff h
 |.str _,.int _,_,_,h=>ff h
 |.str _,.lst _,_,_,h=>ff h
 |.str _,.tup _,_,_,h=>ff h
 |.lst _,.aJ,_,_,h=>ff h
 |.lst _,.bl _,_,_,h=>ff h
 |.lst _,.int _,_,_,h=>ff h
 |.lst _,.str _,_,_,h=>ff h
 |.lst _,.tup _,_,_,h=>ff h
 |.tup _,.aJ,_,_,h=>ff h
 |.tup _,.bl _,_,_,h=>ff h
 |.tup _,.int _,_,_,h=>ff h
 |.tup _,.str _,_,_,h=>ff h
 |.tup _,.lst _,_,_,h=>ff h
 |.bl a,.bl b,_,_,h=>Fs _ (eq_of_beq h)
 |.int a,.int b,_,_,h=>Fs _ (eq_of_beq h)
 |.str a,.str b,_,_,h=>Fs _ (eq_of_beq h)
 |.lst a,.lst b,d,e,h=>Fs _ (toDL_inj a b d e h)
 |.tup a,.tup b,d,e,h=>Fs _ (toDL_inj a b d e h)
 |.ty _,_,d,_,_=>ff d
 |.cls _,_,d,_,_=>ff d
 |.err _,_,d,_,_=>ff d
 |.dct _ _,_,d,_,_=>ff d
 |.obj _ _ _,_,d,_,_=>ff d
 |.fV _,_,d,_,_=>ff d
 |_,.ty _,_,d,_=>ff d
 |_,.cls _,_,d,_=>ff d
 |_,.err _,_,d,_=>ff d
 |_,.dct _ _,_,d,_=>ff d
 |_,.obj _ _ _,_,d,_=>ff d
 |_,.fV _,_,d,_=>ff d
theorem toDL_inj:∀x y:List W,o9 x=true->o9 y=true->sameAll (toDL x) (toDL y)=true->x=y
 |[],[],_,_,_=>rfl
 |[],_::_,_,_,h=>ff h
 |_::_,[],_,_,h=>ff h
 |x::b,y::a,d,e,h=>by have d:=Iy.mp d;have e:=Iy.mp e;have h:=Iy.mp h;rw[toD_inj x y d.1 e.1 h.1,toDL_inj b a d.2 e.2 h.2]
end
mutual
theorem toD_refl:∀x:W,vJ x=true->same (toD x) (toD x)=true
 |.aJ,_=>rfl
 |.bl a,_=>TB a
 |.int a,_=>TB a
 |.str a,_=>TB a
 |.lst a,d=>toDL_refl a d
 |.tup a,d=>toDL_refl a d
 |.ty _,d=>ff d
 |.cls _,d=>ff d
 |.err _,d=>ff d
 |.dct _ _,d=>ff d
 |.obj _ _ _,d=>ff d
 |.fV _,d=>ff d
theorem toDL_refl:∀x:List W,o9 x=true->sameAll (toDL x) (toDL x)=true
 |[],_=>rfl
 |x::a,d=>by have d:=Iy.mp d;exact Iy.mpr ⟨toD_refl x d.1,toDL_refl a d.2⟩
end
theorem toD_same(x y:W)(d:vJ x=true)(e:vJ y=true):same (toD x) (toD y)=true↔x=y:=⟨toD_inj x y d e,by rintro rfl;exact toD_refl x d⟩
theorem toDL_map:∀l:List W,toDL l=l.map toD
 |[]=>rfl
 |w::l=>Fs (toD w::·) (toDL_map l)
theorem kW:∀l:List W,o9 l=l.all vJ
 |[]=>rfl
 |w::l=>Fs (vJ w&&·) (kW l)
theorem DV:∀(n:Nat)(w:W),(qE n w=true\/CF n w=true)->vJ w=true/\(toD w).depth<=n+1
 |n,.aJ,_=>⟨rfl,KE _⟩
 |n,.bl _,_=>⟨rfl,KE _⟩
 |n,.int _,_=>⟨rfl,KE _⟩
 |n,.str x,h=>by
  have:PyData.strOk x=true:=by
   rcases h with h|h
   .cases n<;>exact h
   .cases n<;>exact h
  exact⟨this,KE _⟩
 |0,.lst l,h=>h.elim ff ff
 |0,.tup l,h=>h.elim ff ff
 |n+1,.lst l,h=>by
  have b:∀w∈l,vJ w=true/\(toD w).depth<=n+1:=λw a=>by
   refine DV n w ?_;rcases h with h|h
   .exact .inl (He.mp h w a)
   .exact .inr (He.mp h w a)
  refine⟨(kW l).trans (He.mpr λw a=>(b w a).1),?_⟩;dsimp only[toD];rw[toDL_map];exact VJ (rL λx c=>by obtain⟨w,a,rfl⟩:=IH.mp c;exact(b w a).2)
 |n+1,.tup l,h=>by
  have b:∀w∈l,vJ w=true/\(toD w).depth<=n+1:=λw a=>by
   refine DV n w ?_;rcases h with h|h
   .exact .inl (He.mp h w a)
   .exact .inr (He.mp h w a)
  refine⟨(kW l).trans (He.mpr λw a=>(b w a).1),?_⟩;dsimp only[toD];rw[toDL_map];exact VJ (rL λx c=>by obtain⟨w,a,rfl⟩:=IH.mp c;exact(b w a).2)
 |0,.ty _,h=>h.elim ff ff
 |0,.cls _,h=>h.elim ff ff
 |0,.err _,h=>h.elim ff ff
 |0,.dct _ _,h=>h.elim ff ff
 |0,.obj _ _ _,h=>h.elim ff ff
 |0,.fV _,h=>h.elim ff ff
 |n+1,.ty _,h=>h.elim ff ff
 |n+1,.cls _,h=>h.elim ff ff
 |n+1,.err _,h=>h.elim ff ff
 |n+1,.dct _ _,h=>h.elim ff ff
 |n+1,.obj _ _ _,h=>h.elim ff ff
 |n+1,.fV _,h=>h.elim ff ff
inductive vL(b:Bool):PyData->Prop where
 |none:vL b .none
 |str (x:Str):vL b (.str x)
 |bool (x:Bool) (h:b=true):vL b (.bool x)
 |int (x:Int) (h:b=false):vL b (.int x)
 |list {l:List PyData} (h:∀x∈l,vL b x):vL b (.list l)
 |tuple {l:List PyData} (h:∀x∈l,vL b x):vL b (.tuple l)
mutual
theorem pq{b:Bool}:∀d e:PyData,vL b d->vL b e->SeqAt.noMix d e=true
 |.list c,.list a,h,k=>by
  cases h with
  |list h=>
   cases k with
   |list k=>rw[SeqAt.noMix];exact kX c a h k
 |.tuple c,.tuple a,h,k=>by
  cases h with
  |tuple h=>
   cases k with
   |tuple k=>rw[SeqAt.noMix];exact kX c a h k
 |.bool _,.int _,h,k=>by
  cases h with
  |bool _ h=>
   cases k with
   |int _ k=>rw[h]at k;cases k
 |.int _,.bool _,h,k=>by
  cases h with
  |int _ h=>
   cases k with
   |bool _ k=>rw[h]at k;exact ff k
 |.dict _,_,h,_=>by cases h
 |.none,.none,_,_=>by simp[SeqAt.noMix]
 |.none,.bool _,_,_=>by simp[SeqAt.noMix]
 |.none,.int _,_,_=>by simp[SeqAt.noMix]
 |.none,.str _,_,_=>by simp[SeqAt.noMix]
 |.none,.list _,_,_=>by simp[SeqAt.noMix]
 |.none,.tuple _,_,_=>by simp[SeqAt.noMix]
 |.none,.dict _,_,_=>by simp[SeqAt.noMix]
 |.bool _,.none,_,_=>by simp[SeqAt.noMix]
 |.bool _,.bool _,_,_=>by simp[SeqAt.noMix]
 |.bool _,.str _,_,_=>by simp[SeqAt.noMix]
 |.bool _,.list _,_,_=>by simp[SeqAt.noMix]
 |.bool _,.tuple _,_,_=>by simp[SeqAt.noMix]
 |.bool _,.dict _,_,_=>by simp[SeqAt.noMix]
 |.int _,.none,_,_=>by simp[SeqAt.noMix]
 |.int _,.int _,_,_=>by simp[SeqAt.noMix]
 |.int _,.str _,_,_=>by simp[SeqAt.noMix]
 |.int _,.list _,_,_=>by simp[SeqAt.noMix]
 |.int _,.tuple _,_,_=>by simp[SeqAt.noMix]
 |.int _,.dict _,_,_=>by simp[SeqAt.noMix]
 |.str _,.none,_,_=>by simp[SeqAt.noMix]
 |.str _,.bool _,_,_=>by simp[SeqAt.noMix]
 |.str _,.int _,_,_=>by simp[SeqAt.noMix]
 |.str _,.str _,_,_=>by simp[SeqAt.noMix]
 |.str _,.list _,_,_=>by simp[SeqAt.noMix]
 |.str _,.tuple _,_,_=>by simp[SeqAt.noMix]
 |.str _,.dict _,_,_=>by simp[SeqAt.noMix]
 |.list _,.none,_,_=>by simp[SeqAt.noMix]
 |.list _,.bool _,_,_=>by simp[SeqAt.noMix]
 |.list _,.int _,_,_=>by simp[SeqAt.noMix]
 |.list _,.str _,_,_=>by simp[SeqAt.noMix]
 |.list _,.tuple _,_,_=>by simp[SeqAt.noMix]
 |.list _,.dict _,_,_=>by simp[SeqAt.noMix]
 |.tuple _,.none,_,_=>by simp[SeqAt.noMix]
 |.tuple _,.bool _,_,_=>by simp[SeqAt.noMix]
 |.tuple _,.int _,_,_=>by simp[SeqAt.noMix]
 |.tuple _,.str _,_,_=>by simp[SeqAt.noMix]
 |.tuple _,.list _,_,_=>by simp[SeqAt.noMix]
 |.tuple _,.dict _,_,_=>by simp[SeqAt.noMix]
theorem kX{b:Bool}:∀c a:List PyData,(∀x∈c,vL b x)->(∀y∈a,vL b y)->SeqAt.noMixAll c a=true
 |[],[],_,_=>by simp[SeqAt.noMixAll]
 |[],_::_,_,_=>by simp[SeqAt.noMixAll]
 |_::_,[],_,_=>by simp[SeqAt.noMixAll]
 |x::c,y::a,h,k=>by rw[SeqAt.noMixAll,pq x y (h x FC) (k y FC),kX c a (λz hz=>h z (FK _ hz)) λz hz=>k z (FK _ hz)];rfl
end
theorem pA:∀(n:Nat)(w:W),qE n w=true->vL false (toD w)
 |n,.aJ,_=>.none
 |n,.int i,_=>.int i rfl
 |n,.str x,_=>.str x
 |n,.bl _,h=>by cases n<;>exact ff h
 |n+1,.lst l,h=>by dsimp only[toD];rw[toDL_map];exact .list λx a=>by obtain⟨w,b,rfl⟩:=IH.mp a;exact pA n w (He.mp h w b)
 |n+1,.tup l,h=>by dsimp only[toD];rw[toDL_map];exact .tuple λx a=>by obtain⟨w,b,rfl⟩:=IH.mp a;exact pA n w (He.mp h w b)
 |0,.lst l,h=>ff h
 |0,.tup l,h=>ff h
 |n,.ty _,h=>by cases n<;>exact ff h
 |n,.cls _,h=>by cases n<;>exact ff h
 |n,.err _,h=>by cases n<;>exact ff h
 |n,.dct _ _,h=>by cases n<;>exact ff h
 |n,.obj _ _ _,h=>by cases n<;>exact ff h
 |n,.fV _,h=>by cases n<;>exact ff h
theorem pB:∀(n:Nat)(w:W),CF n w=true->vL true (toD w)
 |n,.aJ,_=>.none
 |n,.bl i,_=>.bool i rfl
 |n,.str x,_=>.str x
 |n,.int _,h=>by cases n<;>exact ff h
 |n+1,.lst l,h=>by dsimp only[toD];rw[toDL_map];exact .list λx a=>by obtain⟨w,b,rfl⟩:=IH.mp a;exact pB n w (He.mp h w b)
 |n+1,.tup l,h=>by dsimp only[toD];rw[toDL_map];exact .tuple λx a=>by obtain⟨w,b,rfl⟩:=IH.mp a;exact pB n w (He.mp h w b)
 |0,.lst l,h=>ff h
 |0,.tup l,h=>ff h
 |n,.ty _,h=>by cases n<;>exact ff h
 |n,.cls _,h=>by cases n<;>exact ff h
 |n,.err _,h=>by cases n<;>exact ff h
 |n,.dct _ _,h=>by cases n<;>exact ff h
 |n,.obj _ _ _,h=>by cases n<;>exact ff h
 |n,.fV _,h=>by cases n<;>exact ff h
section
variable{X:Cx}
theorem pC(D:X.A.units+64<cLine)(g:Bool){a:List (Addr×Obj)}{s:Shared}{f:St}{H:Hp}{B:Addr->Prop}{x y:W}{m l:V}{v u:Value}{P:KP}{Q:VK}(I:Inv X a f H s)(r:RelV m v)(p:RelV l u)(C:aN X.K B H x m)(z:aN X.K B H y l)
 (h:((qE 9 x=true/\qE 9 y=true)\/(CF 9 x=true/\CF 9 y=true))/\∀b:Bool,(b=true↔x=y)->P (.bl (if g then !b else b)))(c:Cont X.K B H .s P Q):
 wpAny (model X.prog X.w) X.A (compareOp (if g then .NotEq else .Eq) v u) (EP X a f Q) X.xe s:=by
 obtain⟨i,h⟩:=h;have e:=DV 9 x (i.imp Xn Xn);have d:=DV 9 y (i.imp Xf Xf);have o:SeqAt.shaped (toD x)=true:=by unfold SeqAt.shaped;rw[toD_lay x e.1,DL (Hn e.2 (by decide))];rfl
 have n:SeqAt.shaped (toD y)=true:=by unfold SeqAt.shaped;rw[toD_lay y d.1,DL (Hn d.2 (by decide))];rfl
 have t:SeqAt.noMix (toD x) (toD y)=true:=by
  rcases i with⟨k,j⟩|⟨k,j⟩
  .exact pq _ _ (pA 9 x k) (pA 9 y j)
  .exact pq _ _ (pB 9 x k) (pB 9 y j)
 have q:=h (same (toD x) (toD y)) (toD_same x y e.1 d.1);cases g with
 |true=>exact Jd D a s f H _ _ v u Q I r p ⟨_,_,DU e.1 C,DU d.1 z,⟨o,n,t⟩,c.now q (qF _)⟩
 |false=>exact Jc D a s f H _ _ v u Q I r p ⟨_,_,DU e.1 C,DU d.1 z,⟨o,n,t⟩,c.now q (qF _)⟩
theorem GH(p:X.A.units+64<cLine)(e:Bool):Az X (compareOp (if e then .NotEq else .Eq)) (Ro e) mS:=by
 intro f s r H B x y E D v u P Q I d l g n m h c;have sc:∀a b:V,Iv a b=true->(∀k:Bool,k=decide (a=b)->Q (.bl (if e then !k else k)) H)->RelV a v->RelV b u->wpAny (model X.prog X.w) X.A (compareOp (if e then .NotEq else .Eq) v u) (EP X f r Q) X.xe s:=λa b C q z t=>by
  cases e with
  |true=>exact MU f s r H _ _ v u Q I z t ⟨C,q _ rfl⟩
  |false=>exact MT f s r H _ _ v u Q I z t ⟨C,q _ rfl⟩
 cases x with
 |int i=>
  cases y with
  |int j=>
   cases n.int;cases m.int;refine sc _ _ rfl (λk o=>c.now (w:=.bl (if e then !k else k)) ?_ (qF _)) l g;rw[o,show decide (V.int i=V.int j)=decide (i=j)from by simp];exact h
  |_=>exact pC p e I l g n m h c
 |str i=>
  cases y with
  |str j=>
   cases n.str;cases m.str;refine sc _ _ rfl (λk o=>c.now (w:=.bl (if e then !k else k)) ?_ (qF _)) l g;rw[o,show decide (V.str i=V.str j)=decide (i=j)from by simp];exact h
  |_=>exact pC p e I l g n m h c
 |bl i=>
  cases y with
  |bl j=>
   cases n.bl;cases m.bl;refine sc _ _ rfl (λk o=>c.now (w:=.bl (if e then !k else k)) ?_ (qF _)) l g;rw[o,show decide (V.bl i=V.bl j)=decide (i=j)from by simp];exact h
  |_=>exact pC p e I l g n m h c
 |_=>exact pC p e I l g n m h c
theorem GI(i:Bool):Az X (compareOp (if i then .IsNot else .Is)) (Rp i) mS:=by
 intro j s m H B x y n t v u P Q I d r o l C h c;have a:t=.aJ->(∀k:Bool,k=decide (n=.aJ)->P (.bl (if i then !k else k)))->wpAny (model X.prog X.w) X.A (compareOp (if i then .IsNot else .Is) v u) (EP X j m Q) X.xe s:=λe q=>by
  cases i with
  |true=>exact C0 j s m H _ _ v u Q I r o ⟨e,c.now (q _ rfl) (qF _)⟩
  |false=>exact Iw j s m H _ _ v u Q I r o ⟨e,c.now (q _ rfl) (qF _)⟩
 cases y with
 |aJ=>
  have e:=C.aJ;cases x with
  |aJ=>have g:=l.aJ;refine a e λk f=>?_;rw[f,g];cases i<;>exact h
  |bl b=>have g:=l.bl;refine a e λk f=>?_;rw[f,g];cases i<;>exact h
  |int b=>have g:=l.int;refine a e λk f=>?_;rw[f,g];cases i<;>exact h
  |str b=>have g:=l.str;refine a e λk f=>?_;rw[f,g];cases i<;>exact h
  |lst b=>obtain⟨p,z,g,_⟩:=l.lst;refine a e λk f=>?_;rw[f,g];cases i<;>exact h
  |tup b=>obtain⟨p,z,g,_⟩:=l.tup;refine a e λk f=>?_;rw[f,g];cases i<;>exact h
  |err b=>have l:Rep X.K B H (.err b) n:=l;obtain⟨p,g,_⟩:=l;refine a e λk f=>?_;rw[f,g];cases i<;>exact h
  |_=>exact h.elim
 |_=>
  exfalso
  cases x<;>exact h
theorem kY{K:Frag}{A:Addr->Prop}{H:Hp}:∀{l:List Int}{vs:List V},aj K A H (l.map W.int) vs->vs=l.map V.int
 |[],_,h=>h.nil_inv
 |i::l,vs,h=>by obtain⟨x,r,rfl,b,a⟩:=h.cons_inv;rw[kY a];have:x=.int i:=b;rw[this];rfl
theorem vM{X:Cx}{b:List (Addr×Obj)}{g:St}{H:Hp}{s:Shared}{B:Addr->Prop}{a:Int}{ns:List Int}{v:V}(I:Inv X b g H s)(h:Rep X.K B H (.tup [.int a,.lst (ns.map W.int)]) v):
 ∃p t q items,v=.ref p/\IsTup s.heap p #[.int a t,.ref q]/\s.heap.IsList q items/\IntsAre items.toList ns:=by
 obtain⟨p,E,rfl,z,d⟩:=h;obtain⟨x,l,rfl,e,d⟩:=d.cons_inv;obtain⟨y,l,rfl,u,d⟩:=d.cons_inv;obtain rfl:=d.nil_inv;have e:x=.int a:=e;subst e;obtain⟨q,G,rfl,_,f,w⟩:=u;rw[kY w]at f;obtain⟨o,r,i,_⟩:=I.tuple (.inl (.inl z));obtain⟨c,m,⟨o2,n,A,D,_,C⟩,_⟩:=I.list (.inl f);cases r with
 |cons k r=>
 cases r with
 |cons j r=>
 cases r;obtain⟨t,rfl⟩:=k;cases j;exact⟨p,t,q,c.toArray,rfl,i,⟨o2,A,D,n,C⟩,intsAre_of m⟩
theorem Jm{X:Cx}(hu:X.A.units+64<cLine):Az X (compareOp .Lt) NB mS:=by
 rintro z s Y H B x y M L v u P Q I d O N S R ⟨a,b,j,g,rfl,rfl,h⟩ c;obtain⟨p,t,q,items,rfl,U,D,J⟩:=vM I (show Rep X.K B H (.tup [.int a,.lst (j.map W.int)]) M from S);obtain⟨p',r,Z,l,rfl,T,C,G⟩:=vM I (show Rep X.K B H (.tup [.int b,.lst (g.map W.int)]) L from R);cases O;cases N;have o:X.A.in1.units<cLine:=by show X.A.units+1<_;omega
 refine HT.Ab (c:=if a=b then HT.lexLt j g else decide (a<b)) U T ?_ (by omega) ⟨.bl (if a=b then HT.lexLt j g else decide (a<b)),H,I,rfl,c.now h (qF _)⟩;by_cases e:a=b
 .rw[Bz e];have k:=Wy (A:=X.A.in1) (s:=s) a t b r;rw[show(a==b)=true by simpa using e]at k;refine .eq k ?_;have m:=rD D C J G o;by_cases f:j=g
  .rw[DL f]at m;have:HT.lexLt j g=false:=by rw[f];exact kL g
   rw[this];exact .eq m .nn
  .rw[Jn f]at m;exact .ne m λi w E Q n=>HT.kK D C J G o n
 .rw[Bi e];have k:=Wy (A:=X.A.in1) (s:=s) a t b r;rw[show(a==b)=false by simpa using e]at k;exact .ne k λi w E Q n=>HT.qS _ _ _ _ _ _ _ _ _ _ n
theorem NI(q:X.A.units+64<cLine):Az X (compareOp .Lt) SJ mS:=by
 intro e s f H B x y k g v u P Q I d m l o n h c;cases x with
 |int i=>
  cases y with
  |int j=>exact oZ (p:=λi j=>decide (i<j)) Gp e s f H B (.int i) (.int j) k g v u P Q I d m l o n h c
  |_=>exact h.elim
 |tup a=>
  cases y with
  |tup b=>exact Jm q e s f H B (.tup a) (.tup b) k g v u P Q I d m l o n h c
  |_=>exact h.elim
 |_=>exact h.elim
theorem uc(a:X.A.units+64<cLine)(op:CmpOp):Az X (compareOp op) (eO op) mS:=by
 cases op with
 |Eq=>exact GH a false
 |NotEq=>exact GH a true
 |Lt=>exact NI a
 |LtE=>exact oZ Gq
 |Gt=>exact oZ Gr
 |GtE=>exact oZ Gv
 |Is=>exact GI false
 |IsNot=>exact GI true
 |_=>exact λb s e H B x y g f v u P Q I d j i l k h c=>h.elim
end
noncomputable def ER(X:Cx)(b:Hp)(R:Addr->Prop):Prop:=∃E:XK,Passes (jb X.prog X.w) X E/\(∀C a,R C->au b a->E (.ref C) none a)/\Ai X (λC a=>R C/\au b a)
theorem yh{X:Cx}:Passes (jb X.prog X.w) X E0:=λ_ _ _ _ _ _ _ h=>by obtain⟨_,_,_,_,_,q⟩:=h;exact q.elim
theorem ER.none{X:Cx}{a:Hp}:ER X a λ_=>False:=⟨E0,yh,λ_ _ z=>z.elim,λ_ _ _ _ _ _ _ _ _ _ z=>z.1.elim⟩
abbrev RL:=(Addr->Prop)->Hp->Hp->W->V->Prop
abbrev WT:=Ev->(W->Prop)->Prop
noncomputable def CH(K:Frag)(m:Md):RL:=λB H a w v=>cD K B H a m w v
noncomputable def SN(K:Frag):RL:=λB _ a w v=>aN K B a w v
noncomputable def tV(X:Cx)(M:Ms)(R:Addr->Prop)(e:RL)(t:WT):TE:=λb H Q=>∃A d c P,SR X.K M A d b H c/\ER X d R/\t c P/\∀w v a,P w->au H a->e (FB A M b) H a w v->Q v a
noncomputable def SO(X:Cx)(M:Ms)(R:Addr->Prop)(t:WT):TT:=λe H Q=>∃A c a P,SR X.K M A c e H a/\ER X c R/\t a P/\∀x d,P x->au H d->∃b,x=.bl b/\Q b d
abbrev Rt:=(Addr->Prop)->Hp->List W->List V->Prop
noncomputable def SQ(X:Cx)(M:Ms)(R:Addr->Prop)(g:Rt)(t:Ev->(List W->Prop)->Prop):TA:=λb H Q=>∃A f c P,SR X.K M A f b H c/\ER X f R/\t c P/\∀d e a,P d->au H a->g (FB A M b) a d e->Q e a
abbrev VE(X:Cx)(M:Ms)(R:Addr->Prop)(m:Md)(e:Expr)(t:WT):Prop:=PE X e (tV X M R (CH X.K m) t)
abbrev VB(X:Cx)(M:Ms)(R:Addr->Prop)(e:Expr)(t:WT):Prop:=PE X e (tV X M R (SN X.K) t)
abbrev VT(X:Cx)(M:Ms)(R:Addr->Prop)(e:Expr)(t:WT):Prop:=PT X e (SO X M R t)
noncomputable def jG(K:Frag)(B:Addr->Prop)(H:Hp):List W->List V->Prop
 |[],vs=>vs=[]
 |w::a,vs=>∃v r,vs=v::r/\aN K B H w v/\jG K B H a r
noncomputable def UK(K:Frag):Rt:=λB H a b=>aj K B H a b
noncomputable def Ru(K:Frag):Rt:=λB H a b=>jG K B H a b
abbrev VA(X:Cx)(M:Ms)(R:Addr->Prop)(es:List Expr)(t:Ev->(List W->Prop)->Prop):Prop:=PA X es (SQ X M R (UK X.K) t)
abbrev L4(X:Cx)(M:Ms)(R:Addr->Prop)(es:List Expr)(t:Ev->(List W->Prop)->Prop):Prop:=PA X es (SQ X M R (Ru X.K) t)
theorem PE.imp{X:Cx}{e:Expr}{t t':TE}(h:PE X e t)(k:∀a H Q,t' a H Q->t a H Q):PE X e t':=λb s a H Q I w=>h b s a H Q I (k a H Q w)
theorem PT.imp{X:Cx}{e:Expr}{t t':TT}(h:PT X e t)(k:∀a H Q,t' a H Q->t a H Q):PT X e t':=λb s a H Q I w=>h b s a H Q I (k a H Q w)
theorem PW.imp{X:Cx}{e:Expr}{t t':TT}(h:PW X e t)(k:∀a H Q,t' a H Q->t a H Q):PW X e t':=λc b s a H Q I w=>h c b s a H Q I (k a H Q w)
theorem PA.imp{X:Cx}{e:List Expr}{t t':TA}(h:PA X e t)(k:∀a H Q,t' a H Q->t a H Q):PA X e t':=λc b s a H Q I w=>h c b s a H Q I (k a H Q w)
section
variable{X:Cx}{M:Ms}{R:Addr->Prop}{e a b c:Expr}{t ta tb tc:WT}{m:Md}{pos:Pos}
theorem yi(h:VE X M R m e t):VE X M R .s e t:=PE.imp h<|by rintro j H Q ⟨A,g,d,P,S,f,p,k⟩;exact⟨A,g,d,P,S,f,p,λw v i pw s r=>k w v i pw s (r.s S.dom)⟩
theorem NJ(h:VE X M R m e t):VB X M R e t:=PE.imp h<|by rintro j H Q ⟨A,g,d,P,S,f,p,k⟩;exact⟨A,g,d,P,S,f,p,λw v i pw s r=>k w v i pw s (r.rep S.dom).b⟩
theorem AA{i:Nat}(h:PE X e (mG i))(r:aL M i->(i,.f)∈M):VB X M R e (λd Q=>match look d i with|some w=>Q w|none=>False):=PE.imp h<|by
 rintro x H Q ⟨A,B,d,P,S,z,p,k⟩
 revert p
 cases l:look d i with
 |none=>exact λp=>p.elim
 |some w=>
  intro p;by_cases n:aL M i
  .obtain⟨F,O⟩:=S.ow;obtain⟨v,j,g⟩:=O.val i .f w (r n) l;obtain⟨y,q,o,rfl,rfl,_,u,s⟩:=g;exact⟨_,j,k _ _ H p (au.refl H) ⟨q,o,rfl,.inl u,s⟩⟩
  .obtain⟨v,j,g⟩:=S.sh i w n l;exact⟨v,j,k _ _ H p (au.refl H) g.b⟩
theorem Jo{i:Nat}(h:PE X e (mG i))(g:¬aL M i):VE X M R .s e (λd Q=>match look d i with|some w=>Q w|none=>False):=PE.imp h<|by
 rintro n H Q ⟨A,q,d,P,S,o,p,k⟩
 revert p
 cases f:look d i with
 |none=>exact λp=>p.elim
 |some w=>intro p;obtain⟨v,l,j⟩:=S.sh i w g f;exact⟨v,l,k _ _ H p (au.refl H) (.of j)⟩
noncomputable def pF(K:Frag)(i:Nat)(π:List jg):TE:=λd H Q=>∃v u,d[i]?=some (some v)/\qD K H v π u/\Q u H
theorem AB{i:Nat}{π:List jg}{m h:Md}{K:Frag}{A:Fz}{s H:Hp}{f:St}{g:Ev}{w u:W}(S:SR K M A s f H g)(l:(i,m)∈M)(k:gA m π=some h)(n:look g i=some w)(j:bX w π=some u):
 ∃v d F,f[i]?=some (some v)/\qD K H v π d/\Fp K A.B H h u d F:=by
 obtain⟨F,O⟩:=S.ow;obtain⟨v,p,o⟩:=O.val i m w l n;obtain⟨d,z,x,y,_,r,q,_⟩:=Fp.path π m o k j;exact⟨v,d,x,p,r,q⟩
theorem rO{d:Ev}{i:Nat}{π:List jg}{Q:W->Prop}(h:match look d i with|some w=>(match bX w π with|some u=>Q u|none=>False)|none=>False):∃w u,look d i=some w/\bX w π=some u/\Q u:=by
 cases g:look d i with
 |none=>rw[g]at h;exact h.elim
 |some w=>
  rw[g]at h;dsimp only at h;cases f:bX w π with
  |none=>rw[f]at h;exact h.elim
  |some u=>rw[f]at h;exact⟨w,u,rfl,f,h⟩
theorem Jp{i:Nat}{π:List jg}{j:Md}(h:PE X e (pF X.K i π))(r:(i,j)∈M)(o:gA j π=some .f):VB X M R e (λg Q=>match look g i with|some w=>(match bX w π with|some u=>Q u|none=>False)|none=>False):=PE.imp h<|by rintro C H Q ⟨A,I,g,P,S,G,p,k⟩;obtain⟨w,u,B,z,q⟩:=rO p;obtain⟨v,E,F,y,x,d⟩:=AB S r o B z;obtain⟨D,n,l,rfl,rfl,_,d,s⟩:=d;exact⟨v,_,y,x,k _ _ H q (au.refl H) ⟨n,l,rfl,.inl d,s⟩⟩
theorem Jq{i:Nat}{π:List jg}{f:Md}(h:PE X e (pF X.K i π))(n:(i,f)∈M)(l:gA f π=some .s):VE X M R .s e (λd Q=>match look d i with|some w=>(match bX w π with|some u=>Q u|none=>False)|none=>False):=PE.imp h<|by rintro z H Q ⟨A,C,d,P,S,B,p,k⟩;obtain⟨w,u,y,x,q⟩:=rO p;obtain⟨v,j,F,r,o,g⟩:=AB S n l y x;dsimp only[Fp]at g;exact⟨v,j,r,o,k _ _ H q (au.refl H) (.of g.2)⟩
theorem yj{v:V}{w:W}(h:PE X e (tC v))(d:∀B H,Rep X.K B H w v):VE X M R .s e (λ_ Q=>Q w):=PE.imp h<|by rintro f H Q ⟨A,j,g,P,S,i,p,k⟩;exact k _ _ H p (au.refl H) (.of (d _ _))
theorem AD{op:Operator}(U:VB X M R a ta)(T:VB X M R b tb)(O:∀x y,DS op x y=m\/m=.s):VE X M R m (.BinOp a op b pos) (λi Q=>ta i λx=>tb i λy=>dJ op x y Q):=by
 rintro j s g H Q I ⟨A,E,i,P,S,D,p,k⟩;refine wpAny_BinOp (bin U T I (R:=λn l f=>∃x y,dJ op x y P/\au H f/\aN X.K (FB A M g) f x n/\aN X.K (FB A M g) f y l) ⟨A,E,i,_,S,D,p,λx n H1 B C L=>⟨A,E,i,_,S.same C,D,B,λy l f q o J=>⟨x,y,q,C.trans o,aN.same o L,J⟩⟩⟩ ?_);rintro v u o n l f Y rv N ⟨x,y,h,sm,B,q⟩;have d:=(S.same sm).dom;refine ua op j o g f (FB A M g) x y n l v u P Q Y d rv N B q h ?_;have c:Cont X.K (FB A M g) f m P Q:=λw z Z pw G r=>k w z Z pw (sm.trans G) (r.back sm λ_ z=>z);rcases O x y with e|e
 .rw[e];exact c
 .subst e;exact Cont.s d c
end
theorem bU{x:W}{Q:Bool->Prop}(h:truth x Q):∃b,x=.bl b/\Q b:=by
 cases x with
 |bl b=>exact⟨b,rfl,h⟩
 |_=>exact h.elim
theorem Rep.jj{K:Frag}{B:Addr->Prop}{H:Hp}{b:Bool}{v:V}(h:Rep K B H (.bl b) v):v=.bl b:=by dsimp only[Rep]at h;exact h
theorem Rep.int_inv{K:Frag}{B:Addr->Prop}{H:Hp}{b:Int}{v:V}(h:Rep K B H (.int b) v):v=.int b:=by dsimp only[Rep]at h;exact h
theorem cD.aZ{K:Frag}{B:Addr->Prop}{H H':Hp}{w:W}{v:V}(h:cD K B H H' .s w v):Rep K B H' w v:=by obtain⟨F,_,_,h⟩:=h;obtain⟨rfl,h⟩:=h;exact h.less λp z=>.inl z
section
variable{X:Cx}{M:Ms}{R:Addr->Prop}{e a b c:Expr}{t ta tb tc:WT}{m:Md}{pos:Pos}{rest es:List Expr}
noncomputable def Jr:W->Bool
 |.lst _=>true
 |_=>false
theorem Js{op:Operator}{x y:W}{P:W->Prop}(h:dJ op x y P)(d:(op=.Add/\(Jr x=true\/Jr y=true))\/(op=.Mult/\Jr x=true)):DS op x y=.f:=by
 rcases d with⟨rfl,d⟩|⟨rfl,d⟩
 .cases x with
  |lst l=>rfl
  |_=>
   rcases d with d|d
   .cases d
   .cases y<;>first|exact h.elim|exact ff d
 .cases x<;>first|rfl|exact ff d
theorem ud{op:Operator}{J G:RL}(ha:PE X a (tV X M R J ta))(hb:PE X b (tV X M R G tb))(h1:∀B H H' w v,Dom B H->J B H H' w v->aN X.K B H' w v)(h2:∀B H H' w v,Dom B H->G B H H' w v->aN X.K B H' w v)
 (ho:∀B H H' w v B2 g UL L Y,J B H H' w v->G B2 g UL L Y->(op=.Add/\(Jr w=true\/Jr L=true))\/(op=.Mult/\Jr w=true)):VE X M R .f (.BinOp a op b pos) (λi Q=>ta i λx=>tb i λy=>dJ op x y Q):=by
 rintro j s l H Q I ⟨A,U,i,P,S,T,p,k⟩;refine wpAny_BinOp (bin ha hb I (R:=λo n g=>∃x y,dJ op x y P/\au H g/\aN X.K (FB A M l) g x o/\aN X.K (FB A M l) g y n/\DS op x y=.f) ⟨A,U,i,_,S,T,p,λx o H1 E D O=>⟨A,U,i,_,S.same D,T,E,λy n g C q N=>⟨x,y,C,D.trans q,aN.same q (h1 _ _ _ _ _ S.dom O),h2 _ _ _ _ _ (S.same D).dom N,Js C (ho _ _ _ _ _ _ _ _ _ _ O N)⟩⟩⟩ ?_);rintro v u q o n g I2 rv ru ⟨x,y,h,sm,E,C,em⟩;have d:=(S.same sm).dom;refine ua op j q l g (FB A M l) x y o n v u P Q I2 d rv ru E C h ?_;rw[em];exact λw z H' pw Z r=>k w z H' pw (sm.trans Z) (r.back sm λ_ z=>z)
theorem Jt(j:VE X M R .s a ta):VE X M R .s (.UnaryOp .USub a pos) (λd Q=>ta d λx=>match x with|.int i=>Q (.int (-i))|_=>False):=PE.imp (MQ Iu j)<|by
 rintro q H Q ⟨A,o,d,P,S,l,p,k⟩;refine⟨A,o,d,_,S,l,p,λx r n f g h=>?_⟩;cases x with
 |int i=>exact⟨i,h.aZ.int_inv,k _ _ n f g (.of (dB _))⟩
 |_=>exact f.elim
theorem Ju(i:VE X M R .s a ta):VE X M R .s (.UnaryOp .Not a pos) (λd Q=>ta d λx=>truth x λb=>Q (.bl (!b))):=PE.imp (HY i)<|by rintro o H Q ⟨A,n,d,P,S,j,p,k⟩;refine⟨A,n,d,_,S,j,p,λx q l f g h=>?_⟩;obtain⟨b,rfl,f⟩:=bU f;exact⟨b,h.aZ.jj,k _ _ l f g (.of (qF _))⟩
theorem Jv{op:CmpOp}(N:X.A.units+64<cLine)(O:behindInMarks op b=false)(U:VB X M R a ta)(T:VB X M R b tb):VE X M R .s (.Compare a [op] [b] pos) (λf Q=>ta f λx=>tb f λy=>eO op x y Q):=by rintro g s i H Q I ⟨A,D,f,P,S,C,p,k⟩;refine wpAny_Compare1 (bin U T I (R:=λl j d=>∃x y,eO op x y P/\au H d/\aN X.K (FB A M i) d x l/\aN X.K (FB A M i) d y j) ⟨A,D,f,_,S,C,p,λx l H1 q B J=>⟨A,D,f,_,S.same B,C,q,λy j d o n G=>⟨x,y,o,B.trans n,aN.same n J,G⟩⟩⟩ ?_) O;rintro v u n l j d Y rv L ⟨x,y,h,sm,q,o⟩;exact uc N op g n i d (FB A M i) x y l j v u P Q Y (S.same sm).dom rv L q o h λw z Z pw E r=>k w z Z pw (sm.trans E) (r.back sm λ_ z=>z)
theorem Jw{op:CmpOp}(hu:X.A.units+64<cLine)(hm:behindInMarks op b=false)(ha:VB X M R a ta)(hb:VB X M R b tb):VT X M R (.Compare a [op] [b] pos) (λj Q=>ta j λx=>tb j λy=>eO op x y Q):=by
 rintro d s i H Q I ⟨A,J,j,P,S,G,p,k⟩;have q:=bin ha hb I (R:=λo n g=>∃x y,eO op x y P/\au H g/\aN X.K (FB A M i) g x o/\aN X.K (FB A M i) g y n) ⟨A,J,j,_,S,G,p,λx o H1 D B O=>⟨A,J,j,_,S.same B,G,D,λy n g C l N=>⟨x,y,C,B.trans l,aN.same l O,N⟩⟩⟩
  (f:=compareOp op) (Q:=EP X d i λz E=>∃b,z=.bl b/\Q b E)<|by rintro v u l o n g I2 rv T ⟨x,y,h,sm,D,C⟩;refine uc hu op d l i g (FB A M i) x y o n v u _ _ I2 (S.same sm).dom rv T D C h λw z E pw L r=>?_;obtain⟨b,rfl,q⟩:=k w E pw (sm.trans L);exact⟨b,r.aZ.jj,q⟩
 refine wpAny_isTrue_Compare1 (bq q λv B q1=>bq q1 λu l Z=>bq Z λc s3 ⟨z,H3,I3,U,b,ez,Y⟩=>?_) hm;subst ez;cases U;exact Pi ⟨H3,I3,Y⟩
noncomputable def pG:CmpOp->Option (Int->Int->Bool)
 |.Lt=>some λi j=>decide (i<j)
 |.LtE=>some λi j=>decide (i<=j)
 |.Gt=>some λi j=>decide (j<i)
 |.GtE=>some λi j=>decide (j<=i)
 |_=>none
theorem jk{op:CmpOp}{p:Int->Int->Bool}(h:pG op=some p):gD X (compareOp op) (yZ λi j=>.bl (p i j))/\∀x y P,dN op x y P->∃i j,x=.int i/\y=.int j/\P (.bl (p i j)):=by
 cases op with
 |Lt=>
  cases h;refine⟨Gp,λx y P h=>?_⟩;cases x<;>first|exact h.elim|(cases y<;>first|exact h.elim|exact⟨_,_,rfl,rfl,h⟩)
 |LtE=>
  cases h;refine⟨Gq,λx y P h=>?_⟩;cases x<;>first|exact h.elim|(cases y<;>first|exact h.elim|exact⟨_,_,rfl,rfl,h⟩)
 |Gt=>
  cases h;refine⟨Gr,λx y P h=>?_⟩;cases x<;>first|exact h.elim|(cases y<;>first|exact h.elim|exact⟨_,_,rfl,rfl,h⟩)
 |GtE=>
  cases h;refine⟨Gv,λx y P h=>?_⟩;cases x<;>first|exact h.elim|(cases y<;>first|exact h.elim|exact⟨_,_,rfl,rfl,h⟩)
 |_=>exact nn h
theorem vN{o p:CmpOp}{f g:Int->Int->Bool}(Y:pG o=some f)(U:pG p=some g){r:St}{H:Hp}{Q:VK}{A:Fz}{n:Hp}{d:Ev}{P:W->Prop}(S:SR X.K M A n r H d)(D:ER X n R)
 (h:ta d λx=>tb d λy=>dN o x y λz=>truth z λk=>if k=true then tc d λu=>dN p y u P else P (.bl false))(k:∀w v H',P w->au H H'->Rep X.K (FB A M r) H' w v->Q v H'):
 tG (yZ λi j=>.bl (f i j)) (yZ λi j=>.bl (g i j)) (tV X M R (CH X.K .s) ta) (tV X M R (CH X.K .s) tb) (tV X M R (CH X.K .s) tc) r H Q:=by
 refine⟨A,n,d,_,S,D,h,λx vx H1 T q L=>⟨A,n,d,_,S.same q,D,T,λy vy H2 l B J=>?_⟩⟩;obtain⟨i,j,rfl,rfl,l⟩:=(jk (X:=X) Y).2 _ _ _ l;have e1:=L.aZ.int_inv;have G:=J.aZ.int_inv;refine⟨i,j,e1,G,f i j,rfl,?_⟩;have l:if f i j=true then tc d λu=>dN p (.int j) u P else P (.bl false):=l
 cases E:f i j with
 |false=>rw[E]at l;exact k _ _ H2 l (q.trans B) (qF _)
 |true=>rw[E]at l;refine⟨A,n,d,_,S.same (q.trans B),D,l,λu vu H3 C I N=>?_⟩;obtain⟨i',O,Z,rfl,C⟩:=(jk (X:=X) U).2 _ _ _ C;cases Z;exact⟨j,O,G,N.aZ.int_inv,k _ _ H3 C ((q.trans B).trans I) (qF _)⟩
theorem DW{o p:CmpOp}{f g:Int->Int->Bool}(j:pG o=some f)(i:pG p=some g)(B:VE X M R .s a ta)(q:VE X M R .s b tb)(n:VE X M R .s c tc)(l:lastMarks [o,p] [b,c]=false):
 VE X M R .s (.Compare a [o,p] [b,c] pos) (λd Q=>ta d λx=>tb d λy=>dN o x y λz=>truth z λk=>if k=true then tc d λu=>dN p y u Q else Q (.bl false)):=
 PE.imp (zF (jk j).1 (jk i).1 B q n l)<|by rintro E H Q ⟨A,G,d,P,S,C,h,k⟩;exact vN j i S C h λw v D pw s r=>k w v D pw s (.of r)
theorem DX{o p:CmpOp}{f g:Int->Int->Bool}(j:pG o=some f)(i:pG p=some g)(C:VE X M R .s a ta)(B:VE X M R .s b tb)(n:VE X M R .s c tc)(l:lastMarks [o,p] [b,c]=false):
 VT X M R (.Compare a [o,p] [b,c] pos) (λd Q=>ta d λx=>tb d λy=>dN o x y λz=>truth z λk=>if k=true then tc d λu=>dN p y u Q else Q (.bl false)):=
 PT.imp (zG (jk j).1 (jk i).1 C B n l) λG H Q ⟨A,I,d,P,S,D,h,k⟩=>vN j i S D h λw v E pw s r=>by obtain⟨b,rfl,q⟩:=k w E pw s;exact⟨b,r.jj,q⟩
theorem Jx(u:VE X M R .s a ta)(r:VE X M R .s (.BoolOp .And (b::rest) pos) tb):VE X M R .s (.BoolOp .And (a::b::rest) pos) (λd Q=>ta d λx=>truth x λk=>if k=true then tb d Q else Q (.bl false)):=
 PE.imp (HX u r)<|by
  rintro B H Q ⟨A,j,d,P,S,i,h,k⟩;refine⟨A,j,d,_,S,i,h,λx D w g f o=>?_⟩;obtain⟨q,rfl,g⟩:=bU g;refine⟨q,o.aZ.jj,?_⟩;cases q with
  |true=>exact⟨A,j,d,_,S.same f,i,g,λy C v p l n=>k _ _ v p (f.trans l) (n.back f λ_ z=>z)⟩
  |false=>exact k _ _ w g f (.of (qF _))
theorem NK(u:VE X M R .s a ta)(r:VE X M R .s (.BoolOp .Or (b::rest) pos) tb):VE X M R .s (.BoolOp .Or (a::b::rest) pos) (λd Q=>ta d λx=>truth x λk=>if k=true then Q (.bl true)else tb d Q):=
 PE.imp (ME u r)<|by
  rintro B H Q ⟨A,j,d,P,S,i,h,k⟩;refine⟨A,j,d,_,S,i,h,λx D w g f o=>?_⟩;obtain⟨q,rfl,g⟩:=bU g;refine⟨q,o.aZ.jj,?_⟩;cases q with
  |false=>exact⟨A,j,d,_,S.same f,i,g,λy C v p l n=>k _ _ v p (f.trans l) (n.back f λ_ z=>z)⟩
  |true=>exact k _ _ w g f (.of (qF _))
abbrev GJ(X:Cx)(M:Ms)(R:Addr->Prop)(e:Expr)(t:WT):Prop:=PW X e (SO X M R t)
theorem DY(d:VT X M R a ta):GJ X M R (.BoolOp .And [a] pos) ta:=CP d
theorem Jy(d:VT X M R a ta):GJ X M R (.BoolOp .Or [a] pos) ta:=HU d
theorem Jz(p:VT X M R a ta)(o:GJ X M R (.BoolOp .And (b::rest) pos) tb):GJ X M R (.BoolOp .And (a::b::rest) pos) (λd Q=>ta d λx=>truth x λk=>if k=true then tb d Q else Q (.bl false)):=
 PW.imp (HV p o)<|by
  rintro u H Q ⟨A,j,d,P,S,i,h,k⟩;refine⟨A,j,d,_,S,i,h,λx s f g=>?_⟩;obtain⟨q,rfl,f⟩:=bU f;refine⟨q,rfl,?_⟩;cases q with
  |true=>exact⟨A,j,d,P,S.same g,i,f,λy r n l=>k _ r n (g.trans l)⟩
  |false=>obtain⟨b,e,q⟩:=k _ s f g;cases e;exact q
theorem NL(p:VT X M R a ta)(o:GJ X M R (.BoolOp .Or (b::rest) pos) tb):GJ X M R (.BoolOp .Or (a::b::rest) pos) (λd Q=>ta d λx=>truth x λk=>if k=true then Q (.bl true)else tb d Q):=
 PW.imp (MB p o)<|by
  rintro u H Q ⟨A,j,d,P,S,i,h,k⟩;refine⟨A,j,d,_,S,i,h,λx s f g=>?_⟩;obtain⟨q,rfl,f⟩:=bU f;refine⟨q,rfl,?_⟩;cases q with
  |false=>exact⟨A,j,d,P,S.same g,i,f,λy r n l=>k _ r n (g.trans l)⟩
  |true=>obtain⟨b,e,q⟩:=k _ s f g;cases e;exact q
theorem JA(i:VT X M R a ta):VT X M R (.UnaryOp .Not a pos) (λd Q=>ta d λx=>truth x λb=>Q (.bl (!b))):=PT.imp (HW i)<|by rintro o H Q ⟨A,n,d,P,S,j,h,k⟩;refine⟨A,n,d,_,S,j,h,λx l f g=>?_⟩;obtain⟨q,rfl,f⟩:=bU f;obtain⟨b,e,z⟩:=k _ l f g;cases e;exact⟨q,rfl,z⟩
theorem pH(l:∀d,isTrue e X.env d=(do let v<-d;standAt e.pos;holding [v] (truthy v)))(h:VE X M R .s e t):VT X M R e t:=PT.imp (HS h l)<|by rintro q H Q ⟨A,p,f,P,S,n,h,k⟩;refine⟨A,p,f,P,S,n,h,λx r o j g i=>?_⟩;obtain⟨b,rfl,z⟩:=k _ o j g;exact⟨b,i.aZ.jj,z⟩
theorem JB:VA X M R [] (λ_ Q=>Q []):=PA.imp cG<|by rintro d H Q ⟨A,i,f,P,S,g,h,k⟩;exact k [] [] H h (au.refl H) .nil
theorem DZ{tr:Ev->(List W->Prop)->Prop}(r:starEach (a::es) X.env=(false,eval a X.env)::starEach es X.env)(v:VE X M R .s a ta)(u:VA X M R es tr):VA X M R (a::es) (λd Q=>ta d λx=>tr d λg=>Q (x::g)):=
 PA.imp (bg v u r)<|by rintro y H Q ⟨A,n,d,P,S,l,h,k⟩;refine⟨A,n,d,_,S,l,h,λx z C q j o=>⟨A,n,d,_,S.same j,l,q,λg B w f i p=>?_⟩⟩;exact k _ _ w f (j.trans i) (.cons (o.aZ.same i) p)
theorem D3:L4 X M R [] (λ_ Q=>Q []):=PA.imp cG<|by rintro d H Q ⟨A,i,f,P,S,g,h,k⟩;exact k [] [] H h (au.refl H) rfl
theorem AE{tr:Ev->(List W->Prop)->Prop}(u:starEach (a::es) X.env=(false,eval a X.env)::starEach es X.env)(w:VB X M R a ta)(v:L4 X M R es tr):L4 X M R (a::es) (λd Q=>ta d λx=>tr d λg=>Q (x::g)):=
 PA.imp (bg w v u)<|by rintro z H Q ⟨A,n,d,P,S,l,h,k⟩;refine⟨A,n,d,_,S,l,h,λx o B s j q=>⟨A,n,d,_,S.same j,l,s,λg p y f i r=>?_⟩⟩;exact k _ _ y f (j.trans i) ⟨o,p,rfl,aN.same i q,r⟩
theorem JC{i:Ev->(List W->Prop)->Prop}(h:VA X M R es i):VE X M R .f (.List es pos) (λd Q=>i d λg=>g.length<=sizeLine/\Q (.lst g)):=PE.imp (zK h)<|by rintro s H Q ⟨A,r,d,P,S,q,h,k⟩;refine⟨A,r,d,_,S,q,h,λg u v n j l=>?_⟩;refine⟨by rw[aj.len l];exact n.1,λp o=>?_⟩;exact k _ _ _ n.2 (j.trans (aF o _)) (.fresh j o l)
theorem JD{g:Ev->(List W->Prop)->Prop}{n:Nat}(h:VA X M R es g):VE X M R .s (.Tuple es n pos) (λd Q=>g d λf=>f.length<=sizeLine/\Q (.tup f)):=PE.imp (tO h)<|by rintro u H Q ⟨A,r,d,P,S,q,h,k⟩;refine⟨A,r,d,_,S,q,h,λf v w j o i=>?_⟩;refine⟨by rw[aj.len i];exact j.1,λp l=>?_⟩;exact k _ _ _ j.2 (o.trans (aF l _)) (.of (rM aQ (aj.same (aF l _) i)))
theorem vO{K:Frag}{B:Addr->Prop}{H:Hp}{l:List W}{vs:List V}{i:Int}{w:W}(h:aj K B H l vs)(e:i8 l i=some w):∃v,i8 vs i=some v/\Rep K B H w v:=by
 unfold i8 at e⊢;rw[h.len];cases d:sO l.length i with
 |none=>rw[d]at e;exact nn e
 |some j=>rw[d]at e;exact h.get e
theorem aN.fV{K:Frag}{B:Addr->Prop}{H:Hp}{ns:List Int}{v:V}(h:aN K B H (.fV ns) v):∃p,v=.ref p/\eE K H p (ns.map V.int):=by
 have h:Rep K B H (.fV ns) v:=h;obtain⟨p,e,h⟩:=h;refine⟨p,e,?_⟩;rcases h with⟨o,h⟩|h
 .exact .inl (.inr ⟨o,h⟩)
 .rcases h with(h|⟨o,h⟩)|h
  .cases h
  .cases h
  .exact .inr h
theorem vP{ns:List Int}{i n:Int}(e:i8 ns i=some n):i8 (ns.map V.int) i=some (.int n):=by
 unfold i8 at e⊢;rw[AN];cases d:sO ns.length i with
 |none=>rw[d]at e;exact nn e
 |some j=>rw[d]at e;show(ns.map V.int)[j]?=_;have e:ns[j]?=some n:=e;rw[Da,e];rfl
theorem NN(J:iB b)(L:VB X M R a ta)(K:VE X M R .s b tb):VE X M R .s (.Subscript a b pos) (λf Q=>ta f λx=>tb f λy=>GG x y Q):=PE.imp (zP tQ L K J)<|by
 rintro N H Q ⟨A,G,f,P,S,E,h,k⟩;refine⟨A,G,f,_,S,E,h,λx T Y I q g=>⟨A,G,f,_,S.same q,E,I,λy O D d o u=>?_⟩⟩;have g:=aN.same o g;cases x with
 |lst l=>
  cases y with
  |int i=>obtain⟨p,r,rfl,j,B⟩:=g.lst;obtain⟨w,e,d⟩:=d;obtain⟨v,C,z⟩:=vO B e;exact .inl ⟨p,r,i,v,rfl,u.aZ.int_inv,.inl j,C,k _ _ D d (q.trans o) (.of z)⟩
  |_=>exact d.elim
 |tup l=>
  cases y with
  |int i=>obtain⟨p,r,rfl,j,B⟩:=g.tup;obtain⟨w,e,d⟩:=d;obtain⟨v,C,z⟩:=vO B e;exact .inr (.inl ⟨p,r,i,v,rfl,u.aZ.int_inv,j,C,k _ _ D d (q.trans o) (.of z)⟩)
  |_=>exact d.elim
 |fV U=>
  cases y with
  |int i=>obtain⟨p,rfl,j⟩:=g.fV;obtain⟨n,e,d⟩:=d;exact .inl ⟨p,_,i,_,rfl,u.aZ.int_inv,j,vP e,k _ _ D d (q.trans o) (.of (dB _))⟩
  |_=>exact d.elim
 |_=>exact d.elim
theorem GK{K:Frag}{B:Addr->Prop}{H:Hp}{l:List W}{vs:List V}(h:aj K B H l vs)(d f:Option Int):aj K B H (gB l d f) (xR vs d f):=by unfold gB xR;rw[h.len];exact(h.drop _).take _
noncomputable def NO(X:Cx)(M:Ms)(R:Addr->Prop)(t:Ev->(Option Int->Prop)->Prop):TO:=λh H Q=>∃A f d P,SR X.K M A f h H d/\ER X f R/\t d P/\∀o g,P o->au H g->Q o g
theorem PO.imp{e:Option Expr}{t t':TO}(h:PO X e t)(k:∀d H Q,t' d H Q->t d H Q):PO X e t':=λf s d H Q I w=>h f s d H Q I (k d H Q w)
theorem D4:PO X none (NO X M R λ_ Q=>Q none):=PO.imp C7<|by rintro d H Q ⟨A,i,f,P,S,g,h,k⟩;exact k none H h (au.refl H)
theorem D5(l:VE X M R .s a ta):PO X (some a) (NO X M R λd Q=>ta d λy=>match y with|.int i=>Q (some i)|_=>False):=PO.imp (vA l)<|by
 rintro q H Q ⟨A,p,d,P,S,n,h,k⟩;refine⟨A,p,d,_,S,n,h,λx r o f g j=>?_⟩;cases x with
 |int i=>exact⟨i,j.aZ.int_inv,k _ o f g⟩
 |_=>exact f.elim
theorem NP{B C:Option Expr}{p2:Pos}{y z:Ev->(Option Int->Prop)->Prop}(I:VB X M R a ta)(s:PO X B (NO X M R y))(o:PO X C (NO X M R z)):VE X M R .f (.Subscript a (.Slice B C none p2) pos) (λd Q=>ta d λx=>y d λl=>z d λh=>PX x l h Q):=
 PE.imp (zO De I s o)<|by
  rintro K H Q ⟨A,w,d,P,S,v,h,k⟩;refine⟨A,w,d,_,S,v,h,λx N U G i r=>⟨A,w,d,_,S.same i,v,G,λl T s g=>⟨A,w,d,_,S.same (i.trans g),v,s,λh O o j=>?_⟩⟩⟩;have r:=aN.same (g.trans j) r;cases x with
  |lst L=>obtain⟨p,D,rfl,u,J⟩:=r.lst;refine⟨p,D,rfl,.inl u,λq n=>?_⟩;exact k _ _ _ o (((i.trans g).trans j).trans (aF n _)) (.fresh ((i.trans g).trans j) n (GK J l h))
  |fV E=>obtain⟨p,rfl,u⟩:=r.fV;refine⟨p,_,rfl,u,λq n=>?_⟩;exact k _ _ _ o (((i.trans g).trans j).trans (aF n _)) (.fresh ((i.trans g).trans j) n (GK (aj.DK E) l h))
  |_=>exact o.elim
theorem JE{st:Expr}{o:WT}{p2:Pos}(D:VB X M R a ta)(C:VE X M R .s st o):VE X M R .f (.Subscript a (.Slice none none (some st) p2) pos) (λd Q=>ta d λx=>o d λy=>y=.int (-1)/\match x with|.lst l=>Q (.lst l.reverse)|_=>False):=
 PE.imp (Jf D (vA C))<|by
  rintro I H Q ⟨A,v,d,P,S,u,h,k⟩;refine⟨A,v,d,_,S,u,h,λx L O B j n=>⟨A,v,d,_,S.same j,u,B,λy K N g i z=>?_⟩⟩;obtain⟨rfl,g⟩:=g;refine⟨-1,z.aZ,rfl,?_⟩;have n:=aN.same i n;cases x with
  |lst J=>obtain⟨p,w,rfl,G,E⟩:=n.lst;exact⟨p,w,rfl,.inl G,λq r=>k _ _ _ g ((j.trans i).trans (aF r _)) (.fresh (j.trans i) r E.rev)⟩
  |_=>exact g.elim
noncomputable def NQ:BI->Md
 |.list=>.f
 |_=>.s
noncomputable def eS(X:Cx)(f:Value)(b:BI):Prop:=
 ∀(d:List (Addr×Obj))(s:Shared)(g:St)(H:Hp)(B:Addr->Prop)(h:List W)(i:List V)(j:List Value)(P:KP)(Q:VK),Inv X d g H s->Dom B H->Vals i j->jG X.K B H h i->kU b h P->Cont X.K B H (NQ b) P Q->
  wpAny (model X.prog X.w) X.A (call f j) (EP X d g Q) X.xe s
noncomputable def JF(K:Frag)(b:BI):List V->Hp->VK->Prop:=λf H Q=>∃(B:Addr->Prop)(d:List W)(P:KP),Dom B H/\jG K B H d f/\kU b d P/\Cont K B H (NQ b) P Q
theorem eS.r{f:Value}{b:BI}(h:eS X f b):bK X f (JF X.K b):=by rintro g s i H l n Q I r ⟨B,j,P,d,p,o,k⟩;exact h g s i H B j l n P Q I d r p o k
theorem dD{K:Frag}{B:Addr->Prop}{H:Hp}{w:W}{vs:List V}(h:jG K B H [w] vs):∃v,vs=[v]/\aN K B H w v:=by obtain⟨v,r,rfl,f,d⟩:=h;cases(show r=[]from d);exact⟨v,rfl,f⟩
theorem vR{K:Frag}{B:Addr->Prop}{H:Hp}{w f:W}{vs:List V}(h:jG K B H [w,f] vs):∃v d,vs=[v,d]/\aN K B H w v/\aN K B H f d:=by obtain⟨v,r,rfl,j,i⟩:=h;obtain⟨d,rfl,g⟩:=dD i;exact⟨v,d,rfl,j,g⟩
theorem cw_len:eS X (.builtin "len") .len:=by
 intro f s k H B q u n P Q I d r o h c
 match q,h with
 |[.lst l],h=>obtain⟨v,rfl,g⟩:=dD o;obtain⟨p,i,rfl,g,j⟩:=g.lst;exact fk f s k H _ n Q I r ⟨p,i,rfl,.inl (.inl g),c.now (w:=.int i.length) (by rw[j.len];exact h) (dB _)⟩
 |[.tup l],h=>obtain⟨v,rfl,g⟩:=dD o;obtain⟨p,i,rfl,g,j⟩:=g.tup;exact fk f s k H _ n Q I r ⟨p,i,rfl,.inr g,c.now (w:=.int i.length) (by rw[j.len];exact h) (dB _)⟩
 |[.fV ns],h=>obtain⟨v,rfl,g⟩:=dD o;obtain⟨p,rfl,j⟩:=g.fV;exact fk f s k H _ n Q I r ⟨p,_,rfl,.inl j,c.now (w:=.int ns.length) h (by rw[AN];exact dB _)⟩
theorem cw_abs:eS X (.builtin "abs") .abs:=by
 intro f s g H B j o k P Q I d r l h c
 match j,h with
 |[.int i],h=>obtain⟨v,rfl,n⟩:=dD l;cases n.int;exact zH f s g H _ k Q I r ⟨i,rfl,c.now h (dB _)⟩
theorem cw_max(q:X.calm=true):eS X (.builtin "max") .max2:=by
 intro f s n H B w D o P Q I d r u h c
 match w,h with
 |[.int i,.int j],h=>obtain⟨v,E,rfl,g,k⟩:=vR u;cases g.int;cases k.int;exact xH q f s n H _ o Q I r ⟨i,j,rfl,c.now h (dB _)⟩
 |[.lst l],h=>obtain⟨x,rfl,y,h⟩:=h;obtain⟨v,rfl,g⟩:=dD u;obtain⟨p,C,rfl,g,k⟩:=g.lst;have e:=aj.ints k;subst e;exact yc q f s n H _ o Q I r ⟨p,x,rfl,.inl g,y,λm A z=>c.now (h m A z) (dB _)⟩
theorem cw_dvm:eS X (.builtin "divmod") .PV:=by
 intro f s g H B k w l P Q I d r o h c
 match k,h with
 |[.int i,.int j],h=>obtain⟨v,x,rfl,u,p⟩:=vR o;cases u.int;cases p.int;exact qP f s g H _ l Q I r ⟨i,j,rfl,h.1,λq n=>c _ _ _ h.2 (aF n _) (.of (rM aQ (.cons (dB _) (.cons (dB _) .nil))))⟩
theorem cw_min(q:X.calm=true):eS X (.builtin "min") .min2:=by
 intro f s n H B w D o P Q I d r u h c
 match w,h with
 |[.int i,.int j],h=>obtain⟨v,E,rfl,g,k⟩:=vR u;cases g.int;cases k.int;exact xJ q f s n H _ o Q I r ⟨i,j,rfl,c.now h (dB _)⟩
 |[.lst l],h=>obtain⟨x,rfl,y,h⟩:=h;obtain⟨v,rfl,g⟩:=dD u;obtain⟨p,C,rfl,g,k⟩:=g.lst;have e:=aj.ints k;subst e;exact yb q f s n H _ o Q I r ⟨p,x,rfl,.inl g,y,λm A z=>c.now (h m A z) (dB _)⟩
theorem cw_sum(o:X.calm=true):eS X (.builtin "sum") .sum:=by
 intro f s i H B j x k P Q I d r q h c
 match j,h with
 |[.lst l],h=>obtain⟨n,rfl,h⟩:=h;obtain⟨v,rfl,g⟩:=dD q;obtain⟨p,w,rfl,g,u⟩:=g.lst;have e:=aj.ints u;subst e;exact xX o f s i H _ k Q I r ⟨p,n,rfl,.inl g,c.now h (dB _)⟩
theorem cw_all(n:X.calm=true):eS X (.builtin "all") .all:=by
 intro f s i H B j x k P Q I d r o h c
 match j,h with
 |[.lst l],h=>obtain⟨u,rfl,h⟩:=h;obtain⟨v,rfl,g⟩:=dD o;obtain⟨p,w,rfl,g,q⟩:=g.lst;have e:=aj.SI q;subst e;exact xY n f s i H _ k Q I r ⟨p,u,rfl,.inl g,c.now h (qF _)⟩
theorem cw_any(n:X.calm=true):eS X (.builtin "any") .any:=by
 intro f s i H B j x k P Q I d r o h c
 match j,h with
 |[.lst l],h=>obtain⟨u,rfl,h⟩:=h;obtain⟨v,rfl,g⟩:=dD o;obtain⟨p,w,rfl,g,q⟩:=g.lst;have e:=aj.SI q;subst e;exact ye n f s i H _ k Q I r ⟨p,u,rfl,.inl g,c.now h (qF _)⟩
theorem cw_list:eS X (.type "list") .list:=by
 intro f s n H B w x o P Q I d r u h c
 match w,h with
 |[.lst l],h=>obtain⟨v,rfl,g⟩:=dD u;obtain⟨p,j,rfl,g,k⟩:=g.lst;exact iC f s n H _ o Q I r ⟨p,j,rfl,.inl (.inl g),λq i=>c _ _ _ h (aF i _) (.fresh (au.refl H) i k)⟩
 |[.tup l],h=>obtain⟨v,rfl,g⟩:=dD u;obtain⟨p,j,rfl,g,k⟩:=g.tup;exact iC f s n H _ o Q I r ⟨p,j,rfl,.inr g,λq i=>c _ _ _ h (aF i _) (.fresh (au.refl H) i k)⟩
theorem cw_int:eS X (.type "int") .int:=by
 intro f s g H B j o k P Q I d r l h c
 match j,h with
 |[.bl i],h=>obtain⟨v,rfl,n⟩:=dD l;cases n.bl;exact xK f s g H _ k Q I r (.inr ⟨i,rfl,c.now h (dB _)⟩)
theorem cw_tuple:eS X (.type "tuple") .tuple:=by
 intro f s k H B x y n P Q I d r u h c
 match x,h with
 |[.lst l],h=>obtain⟨v,rfl,g⟩:=dD u;obtain⟨p,i,rfl,g,j⟩:=g.lst;exact gE f s k H _ n Q I r ⟨p,i,rfl,.inl ⟨.inl g,λq o=>c _ _ _ h (aF o _) (.of (rM aQ (aj.same (aF o _) j)))⟩⟩
 |[.tup l],h=>obtain⟨v,rfl,g⟩:=dD u;obtain⟨p,i,rfl,w,j⟩:=g.NC;have g:ie X.K H p i:=ie.of w;exact gE f s k H _ n Q I r ⟨p,i,rfl,.inr ⟨g,c.now h (rM w j)⟩⟩
noncomputable def rP(K:Frag):Prop:=∀a∈["NoneType","bool","int","str","list","tuple"],∀b∈["int","bool","tuple","list","str","dict"],kitOne K (.type a) (.type b)=some (oY a b)
theorem cw_isi(O:rP X.K):bK X (.builtin "isinstance") (λvs H Q=>∃(B:Addr->Prop)(w:W)(n:String)(P:KP),n∈["int","bool","tuple","list","str","dict"]/\jG X.K B H [w,.ty n] vs/\kU .sU [w,.ty n] P/\Cont X.K B H .s P Q):=by
 rintro q s A H vs us Q I r ⟨B,w,n,P,N,S,h,c⟩;obtain⟨v,Z,rfl,k,T⟩:=vR S;cases T.ty;obtain⟨a,i,h⟩:=h;have x:Q (.bl (oY a n)) H:=c.now h (qF _);obtain⟨E,D,rfl,d,G⟩:=vals2 r;cases(show D=Value.type n from G);have g:∀u,u∈["NoneType","bool","int","str","list","tuple"]->a=u->kitOne X.K (.type u) (.type n)=some (oY a n):=λu m e=>by rw[e];exact O u m n N
 have j:∀y:Tok,EP X q A Q (.bool (oY a n)) {s with toks:=y}:=λy=>⟨.bl _,H,I.tok _,rfl,x⟩;cases w with
 |aJ=>
  cases k.aJ;cases i;exact c7 I d .aJ (g _ (by simp) rfl) j
 |bl b=>
  cases k.bl;cases i;exact c7 I d (.bl b) (g _ (by simp) rfl) j
 |int b=>
  cases k.int;cases i;exact c7 I d (.int b) (g _ (by simp) rfl) j
 |str b=>
  cases k.str;cases i;exact c7 I d (.str b) (g _ (by simp) rfl) j
 |lst l=>
  obtain⟨p,C,rfl,f,J⟩:=k.lst;cases i;rcases f with f|⟨o,f⟩
  .exact c7 I d (.lst f) (g _ (by simp) rfl) j
  .exact c7 I d (.qJ f) (g _ (by simp) rfl) j
 |tup l=>obtain⟨p,C,rfl,f,J⟩:=k.tup;cases i;cases(show E=Value.ref p from d);obtain⟨L,r',⟨o,Y,U,_⟩,_⟩:=I.tuple f;exact P2 PySem.W.kitx_tuple I.kg ⟨o,Y,U⟩ (g _ (by simp) rfl) (λz=>nomatch z) j
 |_=>exact nn i
end
noncomputable def vS(K:Frag)(n:Nat)(m:Md)(sp:aT):Sp:=λc H Q E=>∃A a P R,a.length=n/\aj K A H a c/\Dom A H/\sp a P R/\Cont K A H m P Q/\∀C b,R C->au H b->E (.ref C) none b
noncomputable def UM(K:Frag)(n:Nat)(g:Md)(sp:aT):Sp:=λh H Q E=>∃(ab:Addr->Prop)(F:List Addr)(f:W)(e:V)(d:List W)(b:List V)(P:W->Prop)(R:Addr->Prop),h=e::b/\d.length+1=n/\F.Nodup/\(∀p∈F,¬ab p)/\Dom ab H/\Fp K (λp=>ab p\/p∈F) H g f e F/\aj K (λp=>ab p\/p∈F) H d b/\sp (f::d) P R/\
 (∀w y v c a,P (.tup [w,y])->sS (·∈F) H a->c.Nodup->(∀p∈c,p∈F\/H p=none)->Fp K (λp=>ab p\/p∈c) a g y e c->Rep K (λp=>ab p\/p∈c) a w v->Q v a)/\(∀C a,R C->sS (·∈F) H a->E (.ref C) none a)
noncomputable def ue(K:Frag)(n:Nat)(m:Md)(sp:aT):Sp:=
 match m with
 |.io a=>UM K n a sp
 |m=>vS K n m sp
inductive cT(P:Program)(w:World)(K:Frag)(mg:Str->Option Value)(base:Heap):Nat->Value->Nat->Sp->Prop where
 |fn {k:Nat} {f:Addr} {fd:FuncData} {ps:List Str} {sp:Sp} (kp:keepIn K (.ref f)=true) (b:Binds K fd ps []) (F:bO P w K mg base (jb P w) k f fd ps sp):cT P w K mg base k (.ref f) ps.length sp
 |mk {k n:Nat} {C f:Addr} {fd:FuncData} {ps:List Str} {sp SV:Sp} (M:Mk K C f) (b:Binds K fd ps []) (F:bO P w K mg base (jb P w) k f fd ps SV)
  (h:∀vs H Q E,sp vs H Q E->∀x dx,H x=none->H dx=none->dx≠x->SV (.ref x::vs) (upd (upd H dx (.own x)) x (.ins C dx [])) (λv H2=>v=.aJ/\Q (.ref x) H2) E):cT P w K mg base (k+1) (.ref C) n sp
theorem cT.keep{P:Program}{w:World}{K:Frag}{b:Str->Option Value}{base:Heap}{k n:Nat}{a:Value}{sp:Sp}(c:cT P w K b base k a n sp):keepIn K a=true:=by
 cases c with
 |fn kp _ _=>exact kp
 |mk M _ _ _=>exact M.kp
theorem cT.run{X:Cx}{k n:Nat}{i:Value}{sp:Sp}{a:List (Addr×Obj)}{d:St}{H:Hp}{s:Shared}{Q:VK}{E:XK}{e:List Value}{vs:List V}(c:cT X.prog X.w X.K X.mg X.base k i n sp)(g:bY k X.A)(f:Passes (jb X.prog X.w) X E)(I:Inv X a d H s)(r:Vals vs e)(h:sp vs H Q E):
 wpAny (model X.prog X.w) X.A (call i e) (EP X a d Q) X.xe s:=by
 cases c with
 |fn q b F=>exact IB (ds:=[]) (C3:=[]) F g b .nil f I r (by rw[X7];exact h)
 |mk M b F l=>exact zL (ds:=[]) (C3:=[]) M F g b .nil f I r (λx p o m j=>by rw[X7];exact l vs H Q E h x p o m j)
section
variable{X:Cx}{M:Ms}{R:Addr->Prop}{e a b c:Expr}{t ta tb tc:WT}{m:Md}{pos p:Pos}{es:List Expr}{x:Str}
theorem vU{G:Ev->(List W->Prop)->Prop}{k n:Nat}{O:Value}{sp:aT}(F:cT X.prog X.w X.K X.mg X.base k O n (vS X.K n m sp))(hr:bY k X.A)(hg:Gl X x)(hm:X.mg x=some O)
 (hn:∀d P R,sp d P R->d.length=n)(ha:VA X M R (e::es) G)(y:(x==("__debug__":Str))=false)(he:starEach (e::es) X.env=(false,eval e X.env)::starEach es X.env)(u:(backTo pos (starEach es X.env)).any (·.1)=false):
 VE X M R m (.Call (.Name x p) (e::es) [] pos) (λj Q=>G j λd=>sp d Q R):=by
 rintro f s i H Q I ⟨A,H0,j,P,S,er,h,Y⟩;obtain⟨E,L,N,hR⟩:=er;refine W5 (oi I hg hm ?_ y);refine PySem.W.callWith_K (h₀:=X.base) I.ok.mod.Px F.keep (bq (ha pos f s i H (λl g=>∃d,au H g/\aj X.K (FB A M i) g d l/\sp d P R) I ⟨A,H0,j,_,S,⟨E,L,N,hR⟩,h,λd l g Z J q=>⟨d,J,q,Z⟩⟩) λus J ⟨l,g,I1,r,d,sm,q,D⟩=>⟨I1.kg,?_⟩) he u;exact F.run hr L I1 r ⟨FB A M i,d,P,R,hn _ _ _ D,q,(S.same sm).dom,D,λw v B pw o U=>Y w v B pw (sm.trans o) (U.back sm λ_ z=>z),λC B T o=>N C B T (S.sm.trans (sm.trans o))⟩
theorem JG{n:Ev->(List W->Prop)->Prop}{l:BI}{o:String}(I:bK X (.builtin o) (JF X.K l))(E:Gl X x)(D:X.mg x=none)(B:bootBuiltins x=some (.builtin o))(J:L4 X M R (e::es) n)(C:x≠"__name__")(j:(x==("__debug__":Str))=false)
 (G:starEach (e::es) X.env=(false,eval e X.env)::starEach es X.env)(i:(backTo pos (starEach es X.env)).any (·.1)=false):VE X M R (NQ l) (.Call (.Name x p) (e::es) [] pos) (λd Q=>n d λf=>kU l f Q):=
 PE.imp (kr I E D B J C j G i)<|by rintro q H Q ⟨A,N,d,P,S,L,h,k⟩;exact⟨A,N,d,_,S,L,h,λf T U y g u=>⟨FB A M q,f,P,(S.same g).dom,u,y,λw v O pw s r=>k w v O pw (g.trans s) (r.back g λ_ z=>z)⟩⟩
theorem JH{n:Ev->(List W->Prop)->Prop}{l:BI}{o:String}(I:bK X (.type o) (JF X.K l))(E:Gl X x)(D:X.mg x=none)(B:bootBuiltins x=some (.type o))(J:L4 X M R (e::es) n)(C:x≠"__name__")(j:(x==("__debug__":Str))=false)
 (G:starEach (e::es) X.env=(false,eval e X.env)::starEach es X.env)(i:(backTo pos (starEach es X.env)).any (·.1)=false):VE X M R (NQ l) (.Call (.Name x p) (e::es) [] pos) (λd Q=>n d λf=>kU l f Q):=
 PE.imp (nt I E D B J C j G i)<|by rintro q H Q ⟨A,N,d,P,S,L,h,k⟩;exact⟨A,N,d,_,S,L,h,λf T U y g u=>⟨FB A M q,f,P,(S.same g).dom,u,y,λw v O pw s r=>k w v O pw (g.trans s) (r.back g λ_ z=>z)⟩⟩
theorem JI{n:String}(Y:rP X.K)(j:n∈["int","bool","tuple","list","str","dict"])(Z:Gl X x)(U:X.mg x=none)(O:bootBuiltins x=some (.builtin "isinstance"))(ha:VB X M R a ta)(hb:VB X M R b (λ_ Q=>Q (.ty n)))(T:x≠"__name__")(l:(x==("__debug__":Str))=false)
 (u:starEach [a,b] X.env=(false,eval a X.env)::starEach [b] X.env)(UN:starEach [b] X.env=(false,eval b X.env)::starEach [] X.env)(i:(backTo pos (starEach [b] X.env)).any (·.1)=false):
 VE X M R .s (.Call (.Name x p) [a,b] [] pos) (λd Q=>ta d λw=>kU .sU [w,.ty n] Q):=
 PE.imp (kr (cw_isi Y) Z U O (bg ha (bg hb cG UN) u) T l u i)<|by rintro C H Q ⟨A,B,d,P,S,y,h,k⟩;refine⟨A,B,d,_,S,y,h,λw v H1 N g L=>⟨A,B,d,λo=>o=.ty n,S.same g,y,rfl,λo q H2 G f J=>?_⟩⟩;subst G;exact⟨FB A M C,w,n,P,j,⟨v,[q],rfl,aN.same f L,q,[],rfl,J,rfl⟩,N,λD E H' pw I r=>k D E H' pw ((g.trans f).trans I) (r.back (g.trans f) λ_ z=>z)⟩
end
inductive yk(K:Frag)(br:Bool)(B:Addr->Prop)(H:Hp):It->List W->Prop where
 |lst {a:Addr} {vs:List V} {ws:List W} (h:Rd H a (.lst vs)) (n:br=false->¬B a) (r:aj K B H ws vs):yk K br B H (Qy K a) ws
 |tup {a:Addr} {vs:List V} {ws:List W} (h:ie K H a vs) (r:aj K B H ws vs):yk K br B H (Qz K a) ws
 |gJ (lo:Int) (n:Nat):yk K br B H (MN lo n) (cj lo 1 n)
 |D6 (lo st:Int) (n:Nat):yk K br B H (PR lo st n) (cj lo st n)
 |oX {a:Addr} {vs:List V} {ws:List W} (h:Rd H a (.lst vs)) (n:br=false->¬B a) (r:aj K B H ws vs):yk K br B H (Rc K a) (fU ws)
 |rev {a:Addr} {vs:List V} {ws:List W} (h:Rd H a (.lst vs)) (n:br=false->¬B a) (r:aj K B H ws vs):yk K br B H (Rh K a vs.length) ws.reverse
structure IW(K:Frag)(B:Addr->Prop)(Hs:Hp)(J:It)(ws:List W):Prop where
 go:∀i H,au Hs H->i<ws.length->J.go i H
 yl:∀i H x H' w,au Hs H->ws[i]?=some w->J.MM i H x H'->au H H'/\∀B':Addr->Prop,(∀p o,Hs p=some o->B' p->B p)->Rep K B' H' w x
 st:∀i H,au Hs H->i=ws.length->J.stop i H
theorem iI(a st:Int)(n:Nat):(cj a st n).length=n:=by unfold cj;simp
theorem rQ{b st:Int}{n i:Nat}{w:W}(h:(cj b st n)[i]?=some w):w=.int (b+i*st)/\i<n:=by
 unfold cj at h;rw[Da]at h;by_cases a:i<n
 .rw[Nw a]at h;cases h;exact⟨rfl,a⟩
 .rw[FR (by simpa using a)]at h;cases h
theorem nN(l:List W):(fU l).length=l.length:=by unfold fU;simp
theorem jl{l:List W}{i:Nat}{w:W}(h:(fU l)[i]?=some w):∃x,l[i]?=some x/\w=.tup [.int i,x]:=by
 unfold fU at h;rw[List.getElem?_zipWith]at h;by_cases a:i<l.length
 .rw[Nw a,B1 a]at h;cases h;exact⟨_,B1 a,rfl⟩
 .rw[FR (by simpa using a)]at h;cases h
theorem yk.iw{K:Frag}{br:Bool}{B:Addr->Prop}{k:Hp}{J:It}{l:List W}(h:yk K br B k J l):IW K B k J l:=by
 cases h with
 |@lst a c _ h n r=>
  have q:∀H,au k H->eE K H a c:=λH s=>.inl (VL.au.rd s h);refine⟨λi H s b=>?_,λi H x m w s d y=>?_,λi H s b=>⟨c,q H s,by rw[r.len,b];exact BM _⟩⟩
  .have f:i<c.length:=by rw[r.len];exact b
   exact⟨c,c[i],q H s,B1 f⟩
  .obtain⟨rfl,y⟩:=y;obtain⟨v,e,g⟩:=r.get d;have:=y c (q _ s);rw[e]at this;cases this;exact⟨au.refl _,λo j=>Rep.mv s j w g⟩
 |@tup a c _ h r=>
  have q:∀H,au k H->ie K H a c:=λH s=>L2.au.tup s h;refine⟨λi H s b=>?_,λi H x m w s d y=>?_,λi H s b=>⟨c,q H s,by rw[r.len,b];exact BM _⟩⟩
  .have f:i<c.length:=by rw[r.len];exact b
   exact⟨c,c[i],q H s,B1 f⟩
  .obtain⟨rfl,y⟩:=y;obtain⟨v,e,g⟩:=r.get d;have:=y c (q _ s);rw[e]at this;cases this;exact⟨au.refl _,λo j=>Rep.mv s j w g⟩
 |gJ C n=>refine⟨λi H s b=>by rw[iI]at b;exact b,λi H x m w s d y=>?_,λi H s b=>by rw[iI]at b;exact W8 b.symm⟩;obtain⟨rfl,rfl⟩:=y;obtain⟨rfl,_⟩:=rQ d;exact⟨au.refl _,λo _=>by rw[RN];exact dB _⟩
 |D6 C I n=>refine⟨λi H s b=>by rw[iI]at b;exact b,λi H x m w s d y=>?_,λi H s b=>by rw[iI]at b;exact W8 b.symm⟩;obtain⟨rfl,rfl⟩:=y;obtain⟨rfl,_⟩:=rQ d;exact⟨au.refl _,λo _=>dB _⟩
 |@oX a c l h n r=>
  have q:∀H,au k H->eE K H a c:=λH s=>.inl (VL.au.rd s h);refine⟨λi H s b=>?_,λi H x m w s d y=>?_,λi H s b=>⟨c,q H s,by rw[r.len,b,nN]⟩⟩
  .rw[nN]at b;have f:i<c.length:=by rw[r.len];exact b
   exact⟨c,c[i],q H s,B1 f⟩
  .obtain⟨p,y,E,rfl,rfl,D⟩:=y;obtain⟨A,G,rfl⟩:=jl d;obtain⟨v,e,g⟩:=r.get G;have z:=D c (q _ s);rw[e]at z;obtain rfl:v=y:=Hk z;have u:=aF (H:=H) E (.tup [.int i,v]);exact⟨u,λo j=>rM aQ (.cons (dB _) (.cons (Rep.mv (s.trans u) j A g) .nil))⟩
 |@rev a c l h n r=>
  have q:∀H,au k H->eE K H a c:=λH s=>.inl (VL.au.rd s h);have t:=r.len;refine⟨λi H s b=>?_,λi H x m w s d y=>?_,λi H s b=>?_⟩
  .rw[SB]at b;exact⟨c,q H s,rfl,by rw[t];exact b⟩
  .obtain⟨rfl,y⟩:=y;have b:i<l.length:=by have:=(Fh.mp d).1;rwa [SB]at this
   rw[X9 b]at d;obtain⟨v,e,g⟩:=r.get d;have:=y c (q _ s) rfl;rw[t,e]at this;cases this;exact⟨au.refl _,λo j=>Rep.mv s j w g⟩
  .rw[SB]at b;show i=c.length;rw[t,b]
noncomputable def itemsOf:W->Option (List W)
 |.lst l=>some l
 |.tup l=>some l
 |_=>none
theorem nO{z:W}{Q:List W->Prop}:items z Q↔∃a,itemsOf z=some a/\Q a:=by
 cases z<;>simp[items,itemsOf]
noncomputable def AF(X:Cx)(M:Ms)(R:Addr->Prop)(br:Bool)(t:WT):TI:=λb H Q=>∃A e c P,SR X.K M A e b H c/\ER X e R/\t c P/\∀z,P z->∃d,itemsOf z=some d/\∀J a,au H a->yk X.K br (FB A M b) a J d->Q J a
theorem PI.imp{X:Cx}{tg e:Expr}{t t':TI}(h:PI X tg e t)(k:∀a H Q,t' a H Q->t a H Q):PI X tg e t':=λb s a H Q I w=>h b s a H Q I (k a H Q w)
section
variable{X:Cx}{M:Ms}{R:Addr->Prop}{e a b c tg:Expr}{t ta tb tc:WT}{m:Md}{pos p:Pos}{es:List Expr}{x:Str}{br:Bool}
theorem JJ{l:Expr}{u:TE}(z:PE X l u):PI X tg l (λk H Q=>u k H λx f=>∃a,x=.ref a/\(((∃g,eE X.K f a g)/\Q (Qy X.K a) f)\/((∃g,ie X.K f a g)/\Q (Qz X.K a) f))):=by
 intro i s k H Q I h;refine bq (z i s k H _ I h) ?_;rintro v d ⟨x,f,I1,w,y⟩;obtain⟨a,e,q⟩:=y;subst e;cases w;rcases q with⟨⟨g,n⟩,q⟩|⟨⟨g,n⟩,q⟩
 .obtain⟨j,rv,p,hz⟩:=I1.list n;refine wpAny_pyIter_list p.isList ?_;refine⟨d.heap.objs.size,[d.heap.objs.size],_,_,f,rfl,I1.kept (t':=d.toks) λb o e=>D1 _ e,xC a _,⟨_,Fn _ rfl,rfl,rfl⟩,λb r=>?_,q⟩;have e:b=d.heap.objs.size:=by simpa using r
  subst e;exact I1.mK (BM _) (I1.hok.fresh (BM _))
 .obtain⟨j,rv,p,hz⟩:=I1.tuple n;refine wpAny_pyIter_tuple (show d.heap.IsTuple a j.toArray from p) ?_;refine⟨d.heap.objs.size,[d.heap.objs.size],_,_,f,rfl,I1.kept (t':=d.toks) λb o e=>D1 _ e,tw a _,⟨_,Fn _ rfl,rfl,rfl⟩,λb r=>?_,q⟩;have e:b=d.heap.objs.size:=by simpa using r
  subst e;exact I1.mK (BM _) (I1.hok.fresh (BM _))
noncomputable def JK(K:Frag)(br:Bool):RL:=λB _ d w v=>aN K B d w v/\(br=false->Rep K B d w v)
theorem f7(h:VE X M R m e t):PE X e (tV X M R (JK X.K br) t):=PE.imp h<|by rintro j H Q ⟨A,g,d,P,S,f,p,k⟩;exact⟨A,g,d,P,S,f,p,λw v i pw s r=>k w v i pw s ⟨(r.rep S.dom).b,λ_=>r.rep S.dom⟩⟩
theorem NR(h:VB X M R e t):PE X e (tV X M R (JK X.K true) t):=PE.imp h<|by rintro j H Q ⟨A,g,d,P,S,f,p,k⟩;exact⟨A,g,d,P,S,f,p,λw v i pw s r=>k w v i pw s ⟨r,λz=>by cases z⟩⟩
theorem JK.lst{K:Frag}{B:Addr->Prop}{H H':Hp}{l:List W}{v:V}(h:JK K br B H H' (.lst l) v):∃p vs,v=.ref p/\Rd H' p (.lst vs)/\(br=false->¬B p)/\aj K B H' l vs:=by obtain⟨p,vs,rfl,f,d⟩:=h.1.lst;refine⟨p,vs,rfl,f,λe=>?_,d⟩;have:=h.2 e;obtain⟨i,_,g,n,_⟩:=this;cases g;exact n
theorem dF(r:PE X a (tV X M R (JK X.K br) ta)):PI X tg a (AF X M R br ta):=PI.imp (JJ r)<|by
 rintro y H Q ⟨A,w,q,P,S,u,h,k⟩;refine⟨A,w,q,P,S,u,h,λz v o hz j n=>?_⟩;obtain⟨B,g,k⟩:=k z hz;cases z with
 |lst l=>
  cases g;obtain⟨p,f,rfl,d,i,s⟩:=n.lst;exact⟨p,rfl,.inl ⟨⟨f,.inl d⟩,k _ o j (.lst d i s)⟩⟩
 |tup l=>
  cases g;obtain⟨p,f,rfl,d,i⟩:=n.1.tup;exact⟨p,rfl,.inr ⟨⟨f,d⟩,k _ o j (.tup d i)⟩⟩
 |_=>exact nn g
theorem JL{d:List Expr}{r:Nat}{n:Pos}(w:Gl X "enumerate")(s:X.mg "enumerate"=none)(y:PE X a (tV X M R (JK X.K br) ta))(g:starEach [a] X.env=(false,eval a X.env)::starEach [] X.env):
 PI X (.Tuple d r n) (.Call (.Name "enumerate" p) [a] [] pos) (AF X M R br (λf Q=>ta f λx=>match x with|.lst l=>Q (.lst (fU l))|_=>False)):=
 PI.imp (DF w s (bg y cG g) rfl g)<|by
  rintro I H Q ⟨A,G,f,P,S,D,h,k⟩;refine⟨A,G,f,_,S,D,h,λz v E hz o q=>?_⟩;cases z with
  |lst l=>obtain⟨J,u,k⟩:=k _ hz;cases u;obtain⟨p,j,rfl,i,C,B⟩:=q.lst;exact⟨p,rfl,⟨j,.inl i⟩,k _ E o (.oX i C B)⟩
  |_=>exact hz.elim
theorem JM(r:Gl X "reversed")(o:X.mg "reversed"=none)(s:PE X a (tV X M R (JK X.K br) ta))(f:starEach [a] X.env=(false,eval a X.env)::starEach [] X.env):
 PI X tg (.Call (.Name "reversed" p) [a] [] pos) (AF X M R br (λd Q=>ta d λx=>match x with|.lst l=>Q (.lst l.reverse)|_=>False)):=
 PI.imp (Je r o (bg s cG f) rfl f)<|by
  rintro D H Q ⟨A,C,d,P,S,y,h,k⟩;refine⟨A,C,d,_,S,y,h,λz v B hz j n=>?_⟩;cases z with
  |lst l=>obtain⟨E,q,k⟩:=k _ hz;cases q;obtain⟨p,i,rfl,g,w,u⟩:=n.lst;exact⟨p,i,rfl,.inl g,k _ B j (.rev g w u)⟩
  |_=>exact hz.elim
theorem D7{p2 d:Pos}(y:X.calm=true)(w:Gl X "list")(u:X.mg "list"=none)(G:Gl X "reversed")(i:X.mg "reversed"=none)(B:VB X M R a ta)(n:starEach [a] X.env=(false,eval a X.env)::starEach [] X.env):
 VE X M R .f (.Call (.Name "list" p) [.Call (.Name "reversed" p2) [a] [] d] [] pos) (λg Q=>ta g λx=>match x with|.lst l=>Q (.lst l.reverse)|_=>False):=
 PE.imp (DI y w u G i (bg B cG n) n)<|by
  rintro J H Q ⟨A,I,g,P,S,E,h,k⟩;refine⟨A,I,g,_,S,E,h,λz v K hz j s=>?_⟩;cases z with
  |lst l=>obtain⟨p,r,rfl,D,C⟩:=aN.lst s;exact⟨p,r,rfl,.inl D,λq o=>k _ _ _ hz (j.trans (aF o _)) (.fresh j o C.rev)⟩
  |_=>exact hz.elim
theorem D8(u:Gl X "range")(q:X.mg "range"=none)(v:VE X M R .s a ta)(f:starEach [a] X.env=(false,eval a X.env)::starEach [] X.env):
 PI X tg (.Call (.Name "range" p) [a] [] pos) (AF X M R br (λd Q=>ta d λx=>Ax [x] λl=>Q (.lst l))):=
 PI.imp (xD u q (bg v cG f) f)<|by
  rintro B H Q ⟨A,z,d,P,S,w,h,k⟩;refine⟨A,z,d,_,S,w,h,λx C y hz g i=>?_⟩;cases x with
  |int j=>obtain⟨o,n,hz⟩:=hz;obtain⟨D,r,k⟩:=k _ hz;cases r;cases i.aZ.int_inv;exact⟨j,rfl,o,n,k _ y g (.gJ 0 j.toNat)⟩
  |_=>exact hz.elim
theorem D9(C:Gl X "range")(z:X.mg "range"=none)(E:VE X M R .s a ta)(D:VE X M R .s b tb)(n:starEach [a,b] X.env=(false,eval a X.env)::starEach [b] X.env)(d:starEach [b] X.env=(false,eval b X.env)::starEach [] X.env):
 PI X tg (.Call (.Name "range" p) [a,b] [] pos) (AF X M R br (λf Q=>ta f λx=>tb f λy=>Ax [x,y] λl=>Q (.lst l))):=
 PI.imp (xE C z (bg E (bg D cG d) n) (by rw[n,d];rfl) d)<|by
  rintro I H Q ⟨A,q,f,P,S,o,h,k⟩;refine⟨A,q,f,_,S,o,h,λx K N hz g v=>⟨A,q,f,_,S.same g,o,hz,λy J G hz r u=>?_⟩⟩;cases x with
  |int i=>
   cases y with
   |int j=>obtain⟨w,hz⟩:=hz;obtain⟨L,B,k⟩:=k _ hz;cases B;cases v.aZ.int_inv;cases u.aZ.int_inv;exact⟨i,j,rfl,w,k _ G (g.trans r) (.gJ i (j -i).toNat)⟩
   |_=>exact hz.elim
  |_=>exact hz.elim
theorem Ec(J:Gl X "range")(G:X.mg "range"=none)(N:VE X M R .s a ta)(L:VE X M R .s b tb)(K:VE X M R .s c tc)(v:starEach [a,b,c] X.env=(false,eval a X.env)::starEach [b,c] X.env)(f:starEach [b,c] X.env=(false,eval b X.env)::starEach [c] X.env)(q:starEach [c] X.env=(false,eval c X.env)::starEach [] X.env):
 PI X tg (.Call (.Name "range" p) [a,b,c] [] pos) (AF X M R br (λd Q=>ta d λx=>tb d λy=>tc d λz=>Ax [x,y,z] λl=>Q (.lst l))):=
 PI.imp (x6 J G (bg N (bg L (bg K cG q) f) v) (by rw[v,f,q];rfl) (by rw[f,q];rfl))<|by
  rintro T H Q ⟨A,r,d,P,S,o,h,k⟩;refine⟨A,r,d,_,S,o,h,λx Z H1 hz g D=>⟨A,r,d,_,S.same g,o,hz,λy Y H2 hz u C=>⟨A,r,d,_,S.same (g.trans u),o,hz,λz U O hz w B=>?_⟩⟩⟩;cases x with
  |int i=>
   cases y with
   |int j=>
    cases z with
    |int l=>obtain⟨n,E,hz⟩:=hz;obtain⟨jF,I,k⟩:=k _ hz;cases I;cases D.aZ.int_inv;cases C.aZ.int_inv;cases B.aZ.int_inv;exact⟨i,j,l,n,rfl,E,k _ O ((g.trans u).trans w) (.D6 i l n)⟩
    |_=>exact hz.elim
   |_=>exact hz.elim
  |_=>exact hz.elim
end
noncomputable def up(M:Ms)(n:Nat):Ms:=M.map λx=>(x.1+n,x.2)
section
variable{K:Frag}{M:Ms}{A:Fz}{H0 H H1:Hp}{σ v0:St}{ε δ:Ev}
theorem jm{n i:Nat}{m:Md}:(i,m)∈up M n↔n<=i/\(i -n,m)∈M:=by
 unfold up;rw[IH];constructor
 .rintro⟨⟨j,b⟩,a,e⟩;cases e;exact⟨Nat.le_add_left _ _,by rw[Kj];exact a⟩
 .rintro⟨h,a⟩;exact⟨(i -n,m),a,by simp;omega⟩
theorem cL{n i:Nat}:aL (up M n) i↔n<=i/\aL M (i -n):=by
 constructor
 .rintro⟨m,h⟩;exact⟨(jm.mp h).1,m,(jm.mp h).2⟩
 .rintro⟨h,m,a⟩;exact⟨m,jm.mpr ⟨h,a⟩⟩
theorem kZ{n i:Nat}(c:δ.length=n)(h:n<=i):look (δ++ε) i=look ε (i -n):=by
 have e:∀w,look (δ++ε) i=some w↔look ε (i -n)=some w:=λw=>by rw[aW,aW,KM (by lia),c]
 cases b:look ε (i -n)with
 |none=>
  cases a:look (δ++ε) i with
  |none=>rfl
  |some w=>rw[e]at a;rw[b]at a;cases a
 |some w=>exact(e w).mpr b
theorem SR.block(S:SR K M A H0 σ H ε){n:Nat}(t:v0.length=n)(s:au H H1){D:Addr}{o:HO}(y:H D=none)(I:H1 D=some o):SR K (up M n) ⟨λq=>A.ab q\/q=D,λq=>A.B q\/q=D,none⟩ H0 (v0++σ) H1 (Dg n none++ε):=by
 obtain⟨F,O⟩:=S.ow;have g:(Dg n (none:Option W)).length=n:=by simp
 have C:∀{i:Nat},n<=i->(v0++σ)[i]?=σ[i -n]?:=λ{i} h=>by rw[KM (by lia),t]
 have x:∀p o,H p=some o->(A.B p\/p=D)->A.B p:=λp o e z=>by
  rcases z with z|rfl
  .exact z
  .rw[y]at e;cases e
 refine⟨by rw[Fm,Fm,t,g,S.len],λi w c e=>?_,S.sm.trans s,λp z=>?_,(λv e=>by cases e),λi=>F (i -n),⟨λi m E a b=>O.un _ m E (jm.mp a).2 (jm.mp b).2,λi m w G e=>?_,λi c e=>?_,λi c=>O.nd _ (cL.mp c).2,λi j p c u a b=>?_,λi p c d=>O.nw _ p (cL.mp c).2 d,λi p c d z=>?_,λp=>?_⟩⟩
 .by_cases f:n<=i
  .rw[kZ g f]at e;rw[C f];obtain⟨v,l,k⟩:=S.sh (i -n) w (λz=>c (cL.mpr ⟨f,z⟩)) e;exact⟨v,l,Rep.mv s x w k⟩
  .rw[aW,N0 (by rw[g];lia),TK,Bz (by lia)]at e;cases e
 .rcases z with z|rfl
  .exact(S.dm.same s) p z
  .exact⟨_,I⟩
 .obtain⟨f,r⟩:=jm.mp G;rw[kZ g f]at e;rw[C f];obtain⟨v,l,k⟩:=O.val _ m w r e;exact⟨v,l,Fp.mv s x m k⟩
 .obtain⟨f,r⟩:=cL.mp c;rw[kZ g f]at e;exact O.emp _ r e
 .have:=O.ds _ _ p (cL.mp c).2 (cL.mp u).2 a b;have:=(cL.mp c).1;have:=(cL.mp u).1;lia
 .rcases z with z|rfl
  .exact O.na _ p (cL.mp c).2 d z
  .obtain⟨o,e,_⟩:=O.has (cL.mp c).2 d;rw[y]at e;cases e
 .constructor
  .rintro(z|rfl)
   .rcases(O.all p).mp z with z|⟨i,c,d⟩
    .exact .inl (.inl z)
    .exact .inr ⟨i+n,cL.mpr ⟨by lia,by rw[Kj];exact c⟩,by rw[Kj];exact d⟩
   .exact .inl (.inr rfl)
  .rintro((z|rfl)|⟨i,c,d⟩)
   .exact .inl ((O.all p).mpr (.inl z))
   .exact .inr rfl
   .exact .inl ((O.all p).mpr (.inr ⟨i -n,(cL.mp c).2,d⟩))
end
noncomputable def NS:List Nat->Gk
 |[]=>MK
 |i::a=>Gm (fT i) (NS a)
noncomputable def gT(K:Frag)(one:Bool)(a:List Nat):TG:=
 match one,a with
 |true,[i]=>fT i
 |true,_=>λ_ _ _ _=>False
 |false,a=>Ic K a.length (NS a)
noncomputable def b7(a:St):List Nat->List V->St
 |i::b,v::vs=>b7 (a.set i (some v)) b vs
 |_,_=>a
theorem rR:∀(b:List Nat)(vs:List V)(a:St),(b7 a b vs).length=a.length
 |[],vs,a=>by rw[b7];simp
 |i::b,[],a=>by rw[b7];simp
 |i::b,v::vs,a=>by rw[b7,rR b vs,Kk]
theorem rS{n:Nat}:∀(c:List Nat)(vs:List V)(b a:St),b.length=n->(∀i∈c,i<n)->b7 (b++a) c vs=b7 b c vs++a
 |[],vs,b,a,_,_=>by rw[b7,b7]<;>simp
 |i::c,[],b,a,_,_=>by rw[b7,b7]<;>simp
 |i::c,v::vs,b,a,d,h=>by have hi:=h i FC;rw[b7,b7,List.set_append_left _ _ (by lia),rS c vs _ a (by rw[Kk];exact d) λj e=>h j (FK _ e)]
section
variable{K:Frag}{M:Ms}{A:Fz}{H0 H:Hp}
theorem AG:∀(a:List Nat)(vs:List V)(b:St)(Q:St->Hp->Prop),vs.length=a.length->Q (b7 b a vs) H->NS a vs b H Q
 |[],[],b,Q,_,q=>⟨rfl,q⟩
 |[],_::_,_,_,h,_=>by cases h
 |_::_,[],_,_,h,_=>by cases h
 |i::a,v::vs,b,Q,h,q=>⟨v,vs,rfl,AG a vs _ Q (by simpa using h) (by rw[b7]at q;exact q)⟩
theorem SR.bJ:∀(a:List Nat)(c:List W)(vs:List V){b:St}{d:Ev},(∀i∈a,¬aL M i)->SR K M A H0 b H d->aj K (FB A M b) H c vs->c.length=a.length->SR K M A H0 (b7 b a vs) H (bJ d a c)
 |[],c,vs,b,d,_,S,_,_=>by rw[b7,VL.bJ]<;>first|exact S|simp
 |i::a,[],vs,b,d,_,S,_,h=>by cases h
 |i::a,w::c,vs,b,d,e,S,r,h=>by obtain⟨v,f,rfl,m,l⟩:=r.cons_inv;rw[b7,VL.bJ];have k:=e i FC;exact SR.bJ a c f (λj g=>e j (FK _ g)) (S.set k m) l (by simpa using h)
theorem tgt{b:St}{d:Ev}{one:Bool}{a:List Nat}{w:W}{v:V}{P:Ev->Prop}{Q:St->Hp->Prop}(j:∀i∈a,¬aL M i)(S:SR K M A H0 b H d)(g:Rep K (FB A M b) H w v)(h:wT one a w d P)
 (k:∀vs c,P c->SR K M A H0 (b7 b a vs) H c->Q (b7 b a vs) H):gT K one a v b H Q:=by
 cases one with
 |true=>
  match a,h with
  |[i],h=>
   have:=k [v] (d.set i (some w)) h (by rw[b7,b7]<;>first|exact S.set (j i FC) g|simp);rw[b7,b7]at this
   .exact this
   .simp
 |false=>
  cases w with
  |tup l=>obtain⟨e,h⟩:=h;obtain⟨p,vs,rfl,m,f⟩:=g;exact⟨p,vs,rfl,ie.of m,by rw[f.len,e],AG a vs b Q (by rw[f.len,e]) (k vs _ h (SR.bJ a l vs j S f e))⟩
  |_=>exact h.elim
end
theorem PF.imp{X:Cx}{e:List Expr}{t t':TT}(h:PF X e t)(k:∀a H Q,t' a H Q->t a H Q):PF X e t':=λb s a H Q I w=>h b s a H Q I (k a H Q w)
noncomputable def Rx(K:Frag)(M:Ms)(t:WT):TE:=λb H Q=>∃A d c P,SR K M A d b H c/\t c P/\∀w v a,P w->au H a->Rep K (FB A M b) a w v->Q v a
noncomputable def Ry(K:Frag)(M:Ms)(t:WT):TT:=λd H Q=>∃A e a P,SR K M A e d H a/\t a P/\∀x c,P x->au H c->∃b,x=.bl b/\Q b c
section
variable{X:Cx}{M:Ms}{R:Addr->Prop}{tg iter elt:Expr}{ifs:List Expr}{scope:Scope}{xs N':List Str}{pos:Pos}{ti tc te:WT}{one:Bool}{ts:List Nat}
theorem rT(N:∀i∈ts,i<xs.length)(n:St)(H:Hp)(Q:VK)
 (hh:tV X M R (CH X.K .f) (λu Q=>ti u λz=>items z λc=>jO (λw K=>wT one ts w (Dg xs.length none++u) λa=>tc a λx=>truth x λk=>if k=true then te a λy=>K (some y)else K none) c [] λl=>Q (.lst l)) n H Q):
 Ak xs.length (AF X M R true ti) (gT X.K one ts) (Ry X.K (up M xs.length) tc) (Rx X.K (up M xs.length) te) n H Q:=by
 obtain⟨A,H0,u,P,S,er,h,k⟩:=hh;refine⟨A,H0,u,_,S,er,h,λz hz=>?_⟩;obtain⟨c,ez,hw⟩:=nO.mp hz;refine⟨c,ez,λJ H1 s1 it D Z=>?_⟩;have iw:=it.iw;generalize T:(λ(w:W)(K:Option W->Prop)=>wT one ts w (Dg xs.length none++u) λa=>tc a λx=>truth x λk=>if k=true then te a λy=>K (some y)else K none)=f at hw;have SW:H D=none:=s1.free Z;refine⟨λi m g=>∃d r,m=c.length -i/\i<=c.length/\au H1 g/\g D=some (.lst r)/\aj X.K (λq=>FB A M n q\/q=D) g d r/\jO f (c.drop i) d (λl=>P (.lst l)),
  ⟨c.length,[],[],rfl,KE _,aF Z _,aQ,.nil,hw⟩,?_⟩
 rintro i m g ⟨d,r,rfl,hi,s,PY,I,C⟩;by_cases G:i<c.length
 .refine .inr ⟨iw.go i g s G,λx U y v t=>?_⟩;have hwi:c[i]?=some c[i]:=B1 G;rw[PP G]at C;generalize c[i]=w at*;obtain⟨s3,L⟩:=iw.yl i g x U w s hwi y;have UQ:au H U:=s1.trans (s.trans s3);have UR:U D=some (.lst r):=s3 _ _ PY;have S3:SR X.K (up M xs.length) ⟨λq=>A.ab q\/q=D,λq=>A.B q\/q=D,none⟩ H0 (v++n) U (Dg xs.length none++u):=S.block t UQ SW UR;have US:Rep X.K (λq=>A.B q\/q=D) U w x:=by
   refine L _ λp o e z=>?_;rcases z with z|rfl
   .exact z
   .rw[Z]at e;cases e
  have hM:∀j∈ts,¬aL (up M xs.length) j:=λj hj z=>by have:=(cL.mp z).1;have:=N j hj;lia
  rw[jO,<-T]at C;rw[T]at C;refine tgt hM S3 US C λE a hp S4=>?_;have e4:b7 (v++n) ts E=b7 v ts E++n:=rS ts E v n t N;rw[e4]at S4⊢;have hv1:(b7 v ts E).length=xs.length:=by rw[rR];exact t
  refine⟨b7 v ts E,hv1,rfl,⟨_,H0,a,_,S4,hp,λq H5 Y s5=>?_⟩⟩;obtain⟨b,rfl,Y⟩:=bU Y;refine⟨b,rfl,?_⟩;have PZ:au g H5:=s3.trans s5;cases b with
  |false=>exact⟨c.length -(i+1),by lia,d,r,rfl,G,s.trans PZ,PZ _ _ PY,I.same PZ,Y⟩
  |true=>
   refine⟨_,H0,a,_,S4.same s5,Y,λy vy H6 hy s6 ry=>?_⟩;obtain⟨O,hy⟩:=hy;have Rz:=PZ.trans s6;have SX:=Rz _ _ PY;refine⟨r,SX,by rw[I.len];exact O,c.length -(i+1),by lia,d++[y],r++[vy],rfl,G,λb o e=>?_,aQ,?_,hy⟩
   .rw[ay (aS e Z)];exact Rz _ _ (s _ _ e)
   .have UT:Rep X.K (λq=>A.B q\/q=D) H6 y vy:=ry;exact aj.put SX (.inr rfl) _ ((I.same Rz).app (.cons UT .nil))
 .have e:i=c.length:=by lia
  subst e;refine .inl ⟨iw.st _ g s rfl,?_⟩;rw[VH,jO]at C;exact k _ _ g C (s1.trans s) (.new SW PY (I.less λp z=>.inl z) I)
theorem Ed(t:X.calm=true)(o:cK scope X.env.scope X.N N' xs=true)(e:∀i∈ts,i<xs.length)(p:PI X tg iter (AF X M R true ti))(q:∀C b d c,PG (aI X scope C xs N' b d c) tg (gT X.K one ts))
 (r:∀C b d c,PF (aI X scope C xs N' b d c) ifs (Ry X.K (up M xs.length) tc))(s:∀C b d c,PE (aI X scope C xs N' b d c) elt (Rx X.K (up M xs.length) te))(n:∀z,foldedSetIterable iter X.env z=pure z):
 VE X M R .f (.ListComp elt [⟨tg,iter,ifs,0⟩] scope pos) (λg Q=>ti g λz=>items z λm=>jO (λw K=>wT one ts w (Dg xs.length none++g) λa=>tc a λx=>truth x λk=>if k=true then te a λy=>K (some y)else K none) m [] λl=>Q (.lst l)):=
 PE.imp (DC xs N' t o p q r s n) λj H Q h=>rT e j H Q h
end
section
variable{K:Frag}{M M':Ms}{A:Fz}{H0 H H1:Hp}{σ:St}{ε:Ev}
theorem SR.rb(S:SR K M A H0 σ H ε):∃f,SR K M A f σ H ε/\au H0 f/\au f H/\(∀p o,H p=some o->(yg o=true/\A.B p)\/f p=some o):=by
 classical
 obtain⟨F,O⟩:=S.ow;have d:∀p o,(if(∃i,aL M i/\p∈F i)then none else H p)=some o->H p=some o:=λp o z=>by
  split at z
  .cases z
  .exact z
 refine⟨λp=>if(∃i,aL M i/\p∈F i)then none else H p,⟨S.len,S.sh,d,S.dm,S.sl,F,⟨O.un,O.val,O.emp,O.nd,O.ds,λi p c a=>Bz ⟨i,c,a⟩,O.na,O.all⟩⟩,λb o z=>?_,d,λp o z=>?_⟩
 .try dsimp only
  rw[Bi]
  .exact S.sm _ _ z
  .rintro⟨i,c,e⟩;rw[O.nw i b c e]at z;cases z
 .by_cases a:∃i,aL M i/\p∈F i
  .have g:=a;obtain⟨i,c,a⟩:=a;obtain⟨j,e,h⟩:=O.has c a;rw[z]at e;cases e;exact .inl ⟨h,(O.all p).mpr (.inr g)⟩
  .exact .inr ((Bi a).trans z)
end
section
variable{K:Frag}{B A:Addr->Prop}{H Hs:Hp}
theorem yk.low{J:It}{g:List W}(h:∀p o,H p=some o->(yg o=true/\B p)\/Hs p=some o)(b:∀p,A p->B p)(i:yk K false B H J g):yk K false A Hs J g:=by
 have d:∀{a:Addr}{c:List V},Rd H a (.lst c)->¬B a->Rd Hs a (.lst c):=λ{a c} r n=>by
  rcases r with r|⟨o,r⟩
  .rcases h a _ r with⟨_,z⟩|z
   .exact(n z).elim
   .exact .inl z
  .rcases h a _ r with⟨_,z⟩|z
   .exact(n z).elim
   .exact .inr ⟨o,z⟩
 cases i with
 |lst q n r=>exact .lst (d q (n rfl)) (λe z=>n e (b _ z)) (aj.chg h (λp _ _ z=>b p z) _ r)
 |@tup a c _ q r=>
  refine .tup ?_ (aj.chg h (λp _ _ z=>b p z) _ r);rcases q with(q|⟨o,q⟩)|q
  .rcases h a _ q with⟨z,_⟩|z
   .cases z
   .exact .inl (.inl z)
  .rcases h a _ q with⟨z,_⟩|z
   .cases z
   .exact .inl (.inr ⟨o,z⟩)
  .exact .inr q
 |gJ f n=>exact .gJ f n
 |D6 f j n=>exact .D6 f j n
 |oX q n r=>exact .oX (d q (n rfl)) (λe z=>n e (b _ z)) (aj.chg h (λp _ _ z=>b p z) _ r)
 |rev q n r=>exact .rev (d q (n rfl)) (λe z=>n e (b _ z)) (aj.chg h (λp _ _ z=>b p z) _ r)
end
abbrev WS:=Dn->Ev->Prop
noncomputable def fu:Md->Bool
 |.io _=>true
 |_=>false
noncomputable def ym(K:Frag)(ab:Addr->Prop)(f:Option V)(e H':Hp)(m:Md)(w:W)(v:V):Prop:=
 match m with
 |.io g=>∃b c d a,w=.tup [b,c]/\f=some d/\a.Nodup/\(∀p∈a,e p=none/\¬ab p)/\Fp K (λp=>ab p\/p∈a) H' g c d a/\Rep K (λp=>ab p\/p∈a) H' b v
 |m=>cD K ab e H' m w v
theorem ym.of{K:Frag}{ab:Addr->Prop}{b:Option V}{a H':Hp}{m:Md}{w:W}{v:V}(c:fu m=false)(h:cD K ab a H' m w v):ym K ab b a H' m w v:=by
 cases m with
 |io _=>cases c
 |_=>exact h
theorem ym.back{K:Frag}{ab:Addr->Prop}{a:Option V}{e d H':Hp}{m:Md}{w:W}{v:V}(s:au e d)(h:ym K ab a d H' m w v):ym K ab a e H' m w v:=by
 cases m with
 |io q=>obtain⟨f,g,i,o,n,l,k,c,j⟩:=h;exact⟨f,g,i,o,n,l,k,λp b=>⟨s.free (c p b).1,(c p b).2⟩,j⟩
 |_=>exact cD.back s (λ_ z=>z) h
structure KS(X:Cx)(M:Ms)(m:Md)(ab:Addr->Prop)(s0:Option V)(H0:Hp)(d:Dn)(D:Ends):Prop where
 nx:∀A ε σ H,A.ab=ab->A.s0=s0->d.nx ε->SR X.K M A H0 σ H ε->D.nx σ H
 rt:∀w v H',d.rt w->au H0 H'->ym X.K ab s0 H0 H' m w v->D.rt v H'
 bk:∀A ε σ H,A.ab=ab->A.s0=s0->d.bk ε->SR X.K M A H0 σ H ε->D.bk σ H
 ct:∀A ε σ H,A.ab=ab->A.s0=s0->d.ct ε->SR X.K M A H0 σ H ε->D.ct σ H
noncomputable def sV(X:Cx)(M:Ms)(m:Md)(t:WS):TS:=λD c H=>∃A a b d,SR X.K M A a c H b/\ER X a d.ex/\A.s0.isSome=fu m/\t d b/\KS X M m A.ab A.s0 a d D
abbrev VS(X:Cx)(M:Ms)(m:Md)(st:Stmt)(t:WS):Prop:=PS X st (sV X M m t)
abbrev AH(X:Cx)(M:Ms)(m:Md)(st:List Stmt)(t:WS):Prop:=qL X st (sV X M m t)
theorem PS.imp{X:Cx}{e:Stmt}{t t':TS}(h:PS X e t)(k:∀D a H,t' D a H->t D a H):PS X e t':=λb s a H D I w=>h b s a H D I (k D a H w)
theorem qL.imp{X:Cx}{e:List Stmt}{t t':TS}(h:qL X e t)(k:∀D a H,t' D a H->t D a H):qL X e t':=λb s a H D I w=>h b s a H D I (k D a H w)
section
variable{X:Cx}{M M':Ms}{R:Addr->Prop}{m mr m0:Md}{st:Stmt}{rest:List Stmt}{t u:WS}{e e1 e2 c:Expr}{te t1 t2 tc:(Addr->Prop)->WT}{pos pos':Pos}{x:Str}{i:Nat}{π:List jg}
theorem Ef:AH X M m [] (λd a=>d.nx a):=qL.imp CQ<|by rintro D b H ⟨A,g,a,d,S,f,hz,h,k⟩;exact k.nx A a b H rfl rfl h S
theorem Eg(h:VS X M m st t):AH X M m [st] t:=vo h
theorem AI(h:VS X M m st t)(k:AH X M m rest u):AH X M m (st::rest) (λd b=>t {d with nx:=u d} b):=
 qL.imp (zx h k)<|by rintro D r H ⟨A,j,b,d,S,f,hz,h,k⟩;exact⟨A,j,b,{d with nx:=u d},S,f,hz,h,λq a l s o g n p=>⟨q,j,a,d,p,f,(by rw[g];exact hz),n,by rw[o,g];exact k⟩,k.rt,k.bk,k.ct⟩
theorem Eh{st:List Stmt}(h:AH X M' m st t)(j:∀x∈M',x∈M)(g:fu m=true->aL M 0->aL M' 0):AH X M m st (λd a=>t {d with nx:=λ_=>False,bk:=λ_=>False,ct:=λ_=>False} a):=qL.imp h<|by rintro D B H ⟨A,p,a,d,S,l,hz,h,k⟩;obtain⟨y,n,b,_,o⟩:=S.sub (M':=M') j A.s0 (λv e=>⟨e,g (by rw[<-hz,e];rfl) (S.sl v e).2⟩);refine⟨y,p,a,{d with nx:=λ_=>False,bk:=λ_=>False,ct:=λ_=>False},o,l,by rw[b];exact hz,h,λ_ _ _ _ _ _ z=>z.elim,λw v q f s r=>k.rt w v q f s ?_,λ_ _ _ _ _ _ z=>z.elim,λ_ _ _ _ _ _ z=>z.elim⟩;rw[b,n]at r;exact r
theorem JN:VS X M m (.Break pos) (λd a=>d.bk a):=PS.imp zy<|by rintro D b H ⟨A,g,a,d,S,f,hz,h,k⟩;exact k.bk A a b H rfl rfl h S
theorem JO{f:List Nat}(g:∀{j:TE},PE X e j->PS X st (mJ j (gT X.K false f)))(z:∀i∈f,¬aL M i)(B:∀R,VE X M R .s e (te R)):
 VS X M m st (λd b=>te d.ex b λw=>match w with|.tup l=>l.length=f.length/\d.nx (bJ b f l)|_=>False):=by
 rintro a s o H D I ⟨A,J,b,d,S,C,hz,h,k⟩;refine g (B d.ex) a s o H D I ⟨A,J,b,_,S,C,h,λw v G n q r=>?_⟩;cases w with
 |tup l=>exact tgt (P:=d.nx) z (S.same q) r.aZ n λL p y E=>k.nx A _ _ G rfl rfl y E
 |_=>exact n.elim
theorem JP{a:List Nat}{q:List Expr}{ta:(Addr->Prop)->Ev->(List W->Prop)->Prop}(n:∀{p:TA},PA X q p->PS X st (λD f H=>p f H λvs o=>vs.length=a.length/\D.nx (b7 f a vs) o))(w:∀i∈a,¬aL M i)(y:∀R,VA X M R q (ta R)):
 VS X M m st (λd g=>ta d.ex g λj=>j.length=a.length/\d.nx (bJ g a j)):=by
 rintro b s f H D I ⟨A,B,g,d,S,z,hz,h,k⟩;refine n (y d.ex) b s f H D I ⟨A,B,g,_,S,z,h,λj vs o l v r=>?_⟩;exact⟨by rw[aj.len r,l.1],k.nx A _ _ o rfl rfl l.2 (SR.bJ a j vs w (S.same v) r l.1)⟩
theorem pI{K:Frag}{A:Fz}{L H:Hp}{D:St}{E:Ev}{w:W}{l:List W}(S:SR K M A L D H E)(g:(i,m0)∈M)(hp:gA m0 π=some .f)(N:look E i=some w)(hu:bX w π=some (.lst l)):
 ∃v p vs,D[i]?=some (some v)/\qD K H v π (.ref p)/\H p=some (.lst vs)/\aj K A.B H l vs/\A.B p/\∀b,au H b->∀(d:List W)(a:List V),aj K A.B b d a->
  ∃j,j.ab=A.ab/\j.s0=A.s0/\(∀q o,b q=some o->j.B q->A.B q)/\sS A.B b (upd b p (.lst a))/\SR K M j L D (upd b p (.lst a)) (E.set i (some (setAt w π (.lst d)))):=by
 obtain⟨F,O⟩:=S.ow;obtain⟨v,h,k⟩:=O.val i m0 w g N;obtain⟨v',Z,F',Y,I,r,fp,C⟩:=Fp.path π m0 k hp hu;obtain⟨ws,p,vs,e1,rfl,rfl,G,h4⟩:=fp;cases e1;have Q:p∈F i:=by rw[I];simp
 have J:A.B p:=(O.all p).mpr (.inr ⟨i,⟨m0,g⟩,Q⟩);refine⟨v,p,vs,h,r,G,h4,J,λb s d a hr=>?_⟩;have T:=S.same s;obtain⟨F0,O0⟩:=T.ow;have O1:L0 K M A L D b E F:=⟨O.un,λi m w g e=>let⟨v,h,k⟩:=O.val i m w g e;⟨v,h,Fp.mv s (λ_ _ _ z=>z) m k⟩,O.emp,O.nd,O.ds,O.nw,O.na,O.all⟩;have U:=s _ _ G;have P:sS A.B b (upd b p (.lst a)):=.put U rfl J;have UU:p∉Z++Y:=by
  have:=O.nd i ⟨m0,g⟩;rw[I]at this;intro z;have h:=OO.mp this;rcases Gc.mp z with z|z
  .have k:=OO.mp h.1;exact k.2.2 p z p (by simp) rfl
  .exact h.2.2 p (by simp) p z rfl
 have y:Fp K A.B (upd b p (.lst a)) m0 (setAt w π (.lst d)) v (Z++[p]++Y):=by
  refine C (upd b p (.lst a)) A.B (.lst d) [p] ?_ (λq o e=>?_) (λq _ _ z=>z)
  .exact⟨d,p,a,rfl,rfl,rfl,aQ,aj.chg P (λ_ _ _ z=>z) d hr⟩
  .by_cases n:q=p
   .subst n;rw[G]at e;cases e;exact .inl ⟨rfl,J,UU⟩
   .exact .inr (by rw[ay n];exact s _ _ e)
 rw[<-I]at y;have hc:∀q o,b q=some o->(yg o=true/\q∈F i)\/upd b p (.lst a) q=some o:=λq o e=>by
  by_cases n:q=p
  .subst n;rw[U]at e;cases e;exact .inl ⟨rfl,Q⟩
  .exact .inr (by rw[ay n];exact e)
 have RB:Fp K (λq=>(A.B q/\q∉F i)\/q∈F i) (upd b p (.lst a)) m0 (setAt w π (.lst d)) v (F i):=Fp.mv (au.refl _) (λq _ _ z=>by
  rcases z with z|z
  .exact z.1
  .exact(O.all q).mpr (.inr ⟨i,⟨m0,g⟩,z⟩)) m0 y
 obtain⟨j,a1,a2,_,a3,a4,a5⟩:=O1.chg (F':=F i) T g N h hc (O.nd i ⟨m0,g⟩) (λq hq=>.inl hq) RB;exact⟨j,a1,a2,a3,P,a5⟩
theorem uf{a:Ev}{P:List W->Prop}(h:match look a i with|some (.lst l)=>P l|_=>False):∃l,look a i=some (.lst l)/\P l:=by
 cases b:look a i with
 |none=>rw[b]at h;exact h.elim
 |some d=>
  rw[b]at h;cases d with
  |lst l=>exact⟨l,rfl,h⟩
  |_=>exact h.elim
theorem RC:gA m0 []=some m0:=by cases m0<;>rfl
theorem JQ{w:W}:bX w []=some w:=by cases w<;>rfl
theorem JR{w u:W}:setAt w [] u=u:=by cases w<;>rfl
theorem JS(o:∀{q:TE},PE X e q->PS X st (Gj (Si X.K "list" vC (mG i) (qQ q zJ))))(G:(i,.f)∈M)(J:∀R,VE X M R .s e (te R)):
 VS X M m st (λd a=>match look a i with|some (.lst l)=>te d.ex a λw=>l.length<sizeLine/\d.nx (a.set i (some (.lst (l++[w]))))|_=>False):=by
 rintro g s E H D I ⟨A,T,a,d,S,O,hz,h,k⟩;obtain⟨l,e1,h⟩:=uf h;obtain⟨Y,p,j,N,L,B,z,Z,b⟩:=pI (π:=[]) S G RC e1 JQ;cases L;refine o (J d.ex) g s E H D I ⟨_,N,.inl ⟨rfl,j,.inl (.inl B)⟩,A,T,a,_,S,O,h,λw v Q y n r=>?_⟩;obtain⟨U,P,a2,_,_,C⟩:=b Q n (l++[w]) (j++[v]) ((z.same n).app (.cons r.aZ .nil));rw[JR]at C;exact⟨p,j,v,rfl,rfl,n _ _ B,by rw[z.len];exact y.1,k.nx U _ _ _ P a2 y.2 C⟩
theorem JT(B:∀{E G:TE},PE X e E->PE X e1 G->PS X st (mJ E (ML (mG i) G Gw)))(Y:(i,.f)∈M)(Z:∀R,VE X M R .s e (te R))(U:∀R,VE X M R .s e1 (t1 R)):
 VS X M m st (λd b=>te d.ex b λw=>match look b i with|some (.lst l)=>(t1 d.ex b λx=>(match x with|.int j=>∃n,sO l.length j=some n/\d.nx (b.set i (some (.lst (l.set n w))))|_=>False))|_=>False):=by
 rintro q s Q H D I ⟨A,P,b,d,S,N,hz,h,k⟩;refine B (Z d.ex) (U d.ex) q s Q H D I ⟨A,P,b,_,S,N,h,λw v H1 y K r=>?_⟩;obtain⟨l,e1,y⟩:=uf y;obtain⟨v0,p,C,h1,h2,h3,L,hB,o⟩:=pI (π:=[]) S Y RC e1 JQ;cases h2;refine⟨_,h1,A,P,b,_,S.same K,N,y,λz vz H2 a J T=>?_⟩;cases z with
 |int j=>obtain⟨n,e,a⟩:=a;have g:=K.trans J;obtain⟨A',a1,a2,_,_,O⟩:=o H2 g (l.set n w) (C.set n v) ((L.same g).set (r.aZ.same J));rw[JR]at O;exact⟨p,C,j,n,rfl,T.aZ.int_inv,g _ _ h3,by rw[L.len];exact e,k.nx A' _ _ _ a1 a2 a O⟩
 |_=>exact a.elim
theorem AJ(p:∀R,VE X [] R mr e (te R))(o:mr=m\/m=.s)(j:fu m=false):VS X M m (.Return (some e) pos) (λd b=>te d.ex b d.rt):=by
 rintro a s n H D I ⟨A,y,b,d,S,q,hz,h,k⟩;refine oj (p d.ex) a s n H D I ⟨_,y,b,_,S.go,q,h,λw v l g f r=>?_⟩;rcases o with rfl|rfl
 .exact k.rt w v l g (S.sm.trans f) (.of j (r.back S.sm λ_ z=>z))
 .exact k.rt w v l g (S.sm.trans f) (.of j ((r.s S.dm).back S.sm λ_ z=>z))
theorem Ei(l:∀R,VE X M R .s e (te R)):VS X M .s (.Return (some e) pos) (λd b=>te d.ex b d.rt):=by rintro a s f H D I ⟨A,p,b,d,S,n,hz,h,k⟩;refine oj (l d.ex) a s f H D I ⟨A,p,b,_,S,n,h,λw v o j g r=>?_⟩;exact k.rt w v o j (S.sm.trans g) (.of rfl (cD.back S.sm S.sub' r))
theorem Ej(o:PE X e (mG i))(b:(i,m)∈M)(n:fu m=false):VS X M m (.Return (some e) pos) (λd f=>match look f i with|some w=>d.rt w|none=>False):=by
 rintro a s j H D I ⟨A,C,f,d,S,B,hz,h,k⟩
 try dsimp only at h
 cases g:look f i with
 |none=>rw[g]at h;exact h.elim
 |some w=>
  rw[g]at h;obtain⟨F,O⟩:=S.ow;obtain⟨v,y,r⟩:=O.val i m w b g;refine oj o a s j H D I ⟨_,y,k.rt _ _ H h S.sm (.of n ⟨F i,O.nd i ⟨m,b⟩,λp l=>O.nw i p ⟨m,b⟩ l,Fp.mv (au.refl _) (λq _ _ z=>?_) m r⟩)⟩;rcases z with z|z
  .exact(O.all q).mpr (.inl z)
  .exact(O.all q).mpr (.inr ⟨i,⟨m,b⟩,z⟩)
theorem NT{a b:List Stmt}(r:∀R,VT X M R c (tc R))(w:AH X M m a t)(v:AH X M m b u):VS X M m (.If c a b pos) (λd f=>tc d.ex f λx=>truth x λk=>if k=true then t d f else u d f):=by
 rintro g s p H D I ⟨A,n,f,d,S,l,hz,h,k⟩;refine MH (r d.ex) w v g s p H D I ⟨A,n,f,_,S,l,h,λx y j o=>?_⟩;obtain⟨q,rfl,j⟩:=bU j;refine⟨q,rfl,?_⟩;cases q with
 |true=>exact⟨A,n,f,d,S.same o,l,hz,j,k⟩
 |false=>exact⟨A,n,f,d,S.same o,l,hz,j,k⟩
end
theorem AK{X:Cx}{st:Stmt}{t:TS}(h:PS X.mF st t):PS X st t:=PS.mF h
section
variable{X:Cx}{M:Ms}{m:Md}{body:List Stmt}{tb:WS}{c iter tg:Expr}{tc:WT}{ti:(Addr->Prop)->WT}{pos:Pos}{one:Bool}{ts:List Nat}
theorem JU(O:VT X.mF M (λ_=>False) c tc)(P:AH X.mF M m body tb):VS X M m (.While c body [] pos) (λd r=>DN (λr Q=>tc r λx=>truth x Q) tb d r):=by
 refine PS.imp (AK (zC PassesOwn.never O P)) ?_;rintro D U H ⟨A,u,r,d,S,Y,hz,h,k⟩;obtain⟨J,⟨C,I⟩,s⟩:=h;refine⟨λn b f=>∃e a,e.ab=A.ab/\e.s0=A.s0/\J n a/\SR X.K M e u b f a,⟨C,A,r,rfl,rfl,I,S⟩,?_⟩;rintro n B Z ⟨y,v,t,p,G,w⟩;refine⟨y,u,v,_,w,.none,s n v G,λx T o z=>?_⟩;obtain⟨q,rfl,o⟩:=bU o;refine⟨q,rfl,?_⟩;cases q with
 |true=>obtain⟨N,R,o⟩:=o;refine⟨λb f=>∃e a,e.ab=A.ab/\e.s0=A.s0/\N a/\SR X.K M e u b f a,λb f ⟨e,a,j,a2,i,g⟩=>?_,y,u,v,_,w.same z,.none,(by rw[p];exact hz),o,⟨λe a b f j a2 i g=>⟨e,a,j.trans t,a2.trans p,i,g⟩,by rw[t,p];exact k.rt,λe a b f j a2 i g=>k.nx e a b f (j.trans t) (a2.trans p) i g,λe a b f j a2 i g=>⟨e,a,j.trans t,a2.trans p,i,g⟩⟩⟩;obtain⟨E,l,L⟩:=R a i;exact⟨E,l,e,a,j,a2,L,g⟩
 |false=>exact k.nx y _ _ T t p o (w.same z)
theorem JV(hc:X.calm=true)(hM:∀i∈ts,¬aL M i)(Y:PI X.mF tg iter (AF X.mF M (λ_=>False) false (ti λ_=>False)))(hg:PG X.mF tg (gT X.K one ts))(hb:AH X.mF M m body tb)(hs:∀x,foldedSetIterable iter X.env x=pure x):
 VS X M m (.For tg iter body [] pos) (λd G=>ti (λ_=>False) G λz=>items z λg=>gR (λw N a=>wT one ts w a λl=>tb N l) d g G):=by
 refine PS.imp (AK (Ij PassesOwn.never hc Y hg hb hs)) ?_;rintro D σ H ⟨A,H0,G,d,S,er,hz,h,k⟩;refine⟨A,H0,G,_,S,.none,h,λz T=>?_⟩;obtain⟨g,ez,hw⟩:=nO.mp T;refine⟨g,ez,λJ H1 s1 it=>?_⟩;have S1:=S.same s1;obtain⟨L,Ss,Q,b1,b2⟩:=S1.rb;have low:yk X.K false A.ab L J g:=it.low (λp o e=>b2 p o e) λp z=>S.sub' p z;have iw:=low.iw;refine⟨λi n f r=>n=g.length -i/\i<=g.length/\∃b a,b.ab=A.ab/\b.s0=A.s0/\SR X.K M b L f r a/\gR (λw N a=>wT one ts w a λl=>tb N l) d (g.drop i) a,⟨g.length,rfl,KE _,A,G,rfl,rfl,Ss,hw⟩,?_⟩;have up:∀{b:Fz}{f:St}{r:Hp}{a:Ev},SR X.K M b L f r a->SR X.K M b H0 f r a:=λ{b f r a} q=>by obtain⟨F,O⟩:=q.ow;exact⟨q.len,q.sh,Q.trans q.sm,q.dm,q.sl,F,⟨O.un,O.val,O.emp,O.nd,O.ds,λi p Y e=>Q.free (O.nw i p Y e),O.na,O.all⟩⟩
 rintro i n R Z ⟨rfl,hi2,A2,fX,C,B,E,P⟩;by_cases u:i<g.length
 .refine .inr ⟨iw.go i Z E.sm u,λf r=>∃b a,b.ab=A.ab/\b.s0=A.s0/\SR X.K M b L f r a/\gR (λw N a=>wT one ts w a λl=>tb N l) d (g.drop (i+1)) a,by rintro f r ⟨b,a,v,a2,t,s⟩;exact⟨g.length -(i+1),by omega,rfl,u,b,a,v,a2,t,s⟩,λx H3 y=>?_⟩;have U:g[i]?=some g[i]:=B1 u;rw[PP u,gR]at P;generalize g[i]=w at*;obtain⟨s3,I⟩:=iw.yl i Z x H3 w E.sm U y;have hr:Rep X.K (FB A2 M R) H3 w x:=I _ λp o e z=>by
   obtain⟨F,O⟩:=E.ow;rcases(O.all p).mp z with z|⟨j,hj,e2⟩
   .rw[C]at z;exact z
   .rw[O.nw j p hj e2]at e;cases e
  refine tgt hM (E.same s3) hr P λvs a hp S4=>?_;exact⟨A2,L,a,_,S4,.none,(by rw[B];exact hz),hp,⟨λb l NU S5 v a2 t s=>⟨b,l,v.trans C,a2.trans B,s,t⟩,λw' v' r t s q3=>k.rt w' v' r t (Q.trans s) (by rw[C,B]at q3;exact q3.back Q),λb l NU S5 v a2 t s=>k.nx b _ _ _ (v.trans C) (a2.trans B) t (up s),λb l NU S5 v a2 t s=>⟨b,l,v.trans C,a2.trans B,s,t⟩⟩⟩
 .have e:i=g.length:=by omega
  subst e;refine .inl ⟨iw.st _ Z E.sm rfl,?_⟩;rw[VH,gR]at P;exact k.nx A2 _ _ _ C B P (up E)
end
structure Go(A:Fz)(H:Hp)(A':Fz)(H':Hp):Prop where
 ab:A'.ab=A.ab
 s0:A'.s0=A.s0
 B:∀p o,H p=some o->A'.B p->A.B p
 ch:sS A.B H H'
theorem Go.same{A:Fz}{H H':Hp}(s:au H H'):Go A H A H':=⟨rfl,rfl,λ_ _ _ z=>z,.same s⟩
theorem Go.trans{A d c:Fz}{H b a:Hp}(g:Go A H d b)(k:Go d b c a):Go A H c a:=by
 refine⟨k.ab.trans g.ab,k.s0.trans g.s0,λp o e z=>?_,λp o e=>?_⟩
 .rcases g.ch p o e with⟨_,y⟩|y
  .exact y
  .exact g.B p o e (k.B p o y z)
 .rcases g.ch p o e with y|y
  .exact .inl y
  .rcases k.ch p o y with⟨i,f⟩|h
   .exact .inl ⟨i,g.B p o e f⟩
   .exact .inr h
theorem Go.rep{K:Frag}{A b:Fz}{H a:Hp}{w:W}{v:V}(g:Go A H b a)(h:Rep K A.B H w v):Rep K b.B a w v:=Rep.chg g.ch g.B w h
abbrev JW:=Ev->(W->Ev->Prop)->Prop
abbrev JX:=Ev->(List W->Ev->Prop)->Prop
noncomputable def tP(X:Cx)(M:Ms)(R:Addr->Prop)(t:JW):TE:=λe H Q=>∃A c f P,SR X.K M A c e H f/\ER X c R/\t f P/\∀d w v b a,P w a->Go A H d b->SR X.K M d c e b a->Rep X.K d.B b w v->Q v b
noncomputable def UW(X:Cx)(M:Ms)(R:Addr->Prop)(t:JX):TA:=λe H Q=>∃A c f P,SR X.K M A c e H f/\ER X c R/\t f P/\∀d g h b a,P g a->Go A H d b->SR X.K M d c e b a->aj X.K d.B b g h->Q h b
abbrev VP(X:Cx)(M:Ms)(R:Addr->Prop)(e:Expr)(t:JW):Prop:=PE X e (tP X M R t)
abbrev Ek(X:Cx)(M:Ms)(R:Addr->Prop)(es:List Expr)(t:JX):Prop:=PA X es (UW X M R t)
section
variable{X:Cx}{M:Ms}{R:Addr->Prop}{m m0:Md}{e a b c:Expr}{es rest:List Expr}{t ta tb:JW}{tl:JX}{pos apos cpos p:Pos}{i j:Nat}{st:Stmt}{x:Str}{π:List jg}
theorem NV{t:WT}(h:VE X M R .s e t):VP X M R e (λd Q=>t d λw=>Q w d):=PE.imp h<|by rintro o H Q ⟨A,l,d,P,S,g,h,k⟩;exact⟨A,l,d,_,S,g,h,λw v n f s r=>k A w v n d f (.same s) (S.same s) r.aZ⟩
theorem JY(E:(i,.f)∈M)(C:PE X e (mG i))(n:attributeBase e "pop" X.env (eval e X.env)=eval e X.env)(d:(apos.endLine==cpos.line)=true):
 VP X M R (.Call (.Attribute e "pop" apos) [] [] cpos) (λs Q=>match look s i with|some (.lst l)=>∃w,l[l.length -1]?=some w/\Q w (s.set i (some (.lst l.dropLast)))|_=>False):=
 PE.imp (II PySem.F.plainAttrs_list PySem.F.slot_list_pop PySem.F.type_list_pop IJ C n d)<|by rintro T H Q ⟨A,H0,s,P,S,Z,h,k⟩;obtain⟨l,L,w,K,h⟩:=uf h;obtain⟨U,q,r,I,G,y,u,Y,o⟩:=pI (π:=[]) S E RC L JQ;cases G;obtain⟨v,J,D⟩:=u.get K;obtain⟨B,O,a2,a3,N,z⟩:=o H (au.refl H) l.dropLast r.dropLast u.dropLast;rw[JR]at z;have g:Go A H B (upd H q (.lst r.dropLast)):=⟨O,a2,a3,N⟩;exact⟨_,I,.inl ⟨rfl,r,.inl (.inl y)⟩,q,r,v,rfl,rfl,y,by rw[u.len];exact J,k B w v _ _ h g z (g.rep D)⟩
theorem JZ{op:Operator}(ha:VP X M R a ta)(hb:VP X M R b tb):VP X M R (.BinOp a op b pos) (λD Q=>ta D λx J=>tb J λy f=>dJ op x y λz=>Q z f):=by rintro n s N H Q I ⟨A,L,D,P,S,U,p,k⟩;refine wpAny_BinOp (bin ha hb I (R:=λC q l=>∃x y d f,dJ op x y (λz=>P z f)/\Go A H d l/\SR X.K M d L N l f/\Rep X.K d.B l x C/\Rep X.K d.B l y q) ⟨A,L,D,_,S,U,p,λA1 x C H1 J G g1 S1 rx=>⟨A1,L,J,_,S1,U,G,λd y q l f E T o Z=>⟨x,y,d,f,E,g1.trans T,o,T.rep rx,Z⟩⟩⟩ ?_);rintro v u Y C q l I2 rv ru ⟨x,y,d,f,h,g,o,G,E⟩;exact ua op n Y N l d.B x y C q v u _ Q I2 o.dom rv ru G.b E.b h λw z H' pw O r=>k d w z H' f pw (g.trans (.same O)) (o.same O) (r.rep o.dom)
theorem J0{op:CmpOp}(hu:X.A.units+64<cLine)(hm:behindInMarks op b=false)(ha:VP X M R a ta)(hb:VP X M R b tb):VP X M R (.Compare a [op] [b] pos) (λD Q=>ta D λx J=>tb J λy f=>eO op x y λz=>Q z f):=by rintro n s N H Q I ⟨A,L,D,P,S,U,p,k⟩;refine wpAny_Compare1 (bin ha hb I (R:=λC q l=>∃x y d f,eO op x y (λz=>P z f)/\Go A H d l/\SR X.K M d L N l f/\Rep X.K d.B l x C/\Rep X.K d.B l y q) ⟨A,L,D,_,S,U,p,λA1 x C H1 J G g1 S1 rx=>⟨A1,L,J,_,S1,U,G,λd y q l f E T o Z=>⟨x,y,d,f,E,g1.trans T,o,T.rep rx,Z⟩⟩⟩ ?_) hm;rintro v u Y C q l I2 rv ru ⟨x,y,d,f,h,g,o,G,E⟩;exact uc hu op n Y N l d.B x y C q v u _ Q I2 o.dom rv ru G.b E.b h λw z H' pw O r=>k d w z H' f pw (g.trans (.same O)) (o.same O) (r.rep o.dom)
theorem El:Ek X M R [] (λd Q=>Q [] d):=PA.imp cG<|by rintro f H Q ⟨A,l,d,P,S,g,h,k⟩;exact k A [] [] H d h (.same (au.refl H)) S .nil
theorem AL(w:starEach (a::es) X.env=(false,eval a X.env)::starEach es X.env)(z:VP X M R a ta)(y:Ek X M R es tl):Ek X M R (a::es) (λd Q=>ta d λx l=>tl l λn g=>Q (x::n) g):=
 PA.imp (bg z y w)<|by rintro J H Q ⟨A,r,d,P,S,q,h,k⟩;refine⟨A,r,d,_,S,q,h,λI x K N l v B D s=>⟨I,r,l,_,D,q,v,λG n L E g f o C u=>?_⟩⟩;exact k G _ _ E g f (B.trans o) C (.cons (o.rep s) u)
theorem NW(T:iB b)(Y:VP X M R a ta)(U:VP X M R b tb):VP X M R (.Subscript a b pos) (λr Q=>ta r λx E=>tb E λy o=>GG x y λz=>Q z o):=PE.imp (zP tQ Y U T)<|by
 rintro σ H Q ⟨A,N,r,P,S,L,h,k⟩;refine⟨A,N,r,_,S,L,h,λA1 x vx H1 E O D Z f=>⟨A1,N,E,_,Z,L,O,λK y vy J o d q I u=>?_⟩⟩;have f:=(q.rep f).b;cases x with
 |lst l=>
  cases y with
  |int i=>obtain⟨p,s,rfl,g,C⟩:=f.lst;obtain⟨w,e,d⟩:=d;obtain⟨v,G,B⟩:=vO C e;exact .inl ⟨p,s,i,v,rfl,u.int_inv,.inl g,G,k K _ _ J o d (D.trans q) I B⟩
  |_=>exact d.elim
 |tup l=>
  cases y with
  |int i=>obtain⟨p,s,rfl,g,C⟩:=f.tup;obtain⟨w,e,d⟩:=d;obtain⟨v,G,B⟩:=vO C e;exact .inr (.inl ⟨p,s,i,v,rfl,u.int_inv,g,G,k K _ _ J o d (D.trans q) I B⟩)
  |_=>exact d.elim
 |fV ns=>
  cases y with
  |int i=>obtain⟨p,rfl,g⟩:=f.fV;obtain⟨n,e,d⟩:=d;exact .inl ⟨p,_,i,_,rfl,u.int_inv,g,vP e,k K _ _ J o d (D.trans q) I (dB _)⟩
  |_=>exact d.elim
 |_=>exact d.elim
theorem aj.bl{K:Frag}{B:Addr->Prop}{H:Hp}:∀{d:List W}{vs:List V},aj K B H d vs->jG K B H d vs
 |[],_,h=>h.nil_inv
 |w::d,_,h=>by obtain⟨v,r,rfl,g,f⟩:=h.cons_inv;exact⟨v,r,rfl,g.b,f.bl⟩
theorem J3{y:BI}{s:String}(N:bK X (.builtin s) (JF X.K y))(J:Gl X x)(I:X.mg x=none)(E:bootBuiltins x=some (.builtin s))(O:Ek X M R (e::es) tl)(G:x≠"__name__")(n:(x==("__debug__":Str))=false)
 (L:starEach (e::es) X.env=(false,eval e X.env)::starEach es X.env)(l:(backTo pos (starEach es X.env)).any (·.1)=false):VP X M R (.Call (.Name x p) (e::es) [] pos) (λf Q=>tl f λg d=>kU y g λw=>Q w d):=
 PE.imp (kr N J I E O G n L l)<|by rintro σ H Q ⟨A,Y,f,P,S,U,h,k⟩;exact⟨A,Y,f,_,S,U,h,λz g vs H1 u D T o C=>⟨z.B,g,λw=>P w u,o.dom,C.bl,D,λw v Z pw q r=>k z w v Z u pw (T.trans (.same q)) (o.same q) (r.rep o.dom)⟩⟩
theorem J5{y:BI}{s:String}(N:bK X (.type s) (JF X.K y))(J:Gl X x)(I:X.mg x=none)(E:bootBuiltins x=some (.type s))(O:Ek X M R (e::es) tl)(G:x≠"__name__")(n:(x==("__debug__":Str))=false)
 (L:starEach (e::es) X.env=(false,eval e X.env)::starEach es X.env)(l:(backTo pos (starEach es X.env)).any (·.1)=false):VP X M R (.Call (.Name x p) (e::es) [] pos) (λf Q=>tl f λg d=>kU y g λw=>Q w d):=
 PE.imp (nt N J I E O G n L l)<|by rintro σ H Q ⟨A,Y,f,P,S,U,h,k⟩;exact⟨A,Y,f,_,S,U,h,λz g vs H1 u D T o C=>⟨z.B,g,λw=>P w u,o.dom,C.bl,D,λw v Z pw q r=>k z w v Z u pw (T.trans (.same q)) (o.same q) (r.rep o.dom)⟩⟩
theorem Em(o:∀{q:TE},PE X e q->PS X st (mJ q (fT j)))(z:¬aL M j){tt:(Addr->Prop)->JW}(B:∀R,VP X M R e (tt R)):VS X M m st (λd n=>tt d.ex n λw f=>d.nx (f.set j (some w))):=by rintro l s u H D I ⟨A,J,n,d,S,C,hz,h,k⟩;exact o (B d.ex) l s u H D I ⟨A,J,n,_,S,C,h,λK w v G f y g E r=>k.nx K _ _ G g.ab g.s0 y (E.set z r)⟩
end
section
variable{X:Cx}{M:Ms}{R:Addr->Prop}{m m0:Md}{e o a b c:Expr}{es rest:List Expr}{t ta tb:JW}{tl:JX}{pos apos cpos p:Pos}{i j n:Nat}{st:Stmt}{x:Str}{π:List jg}
theorem En{k n:Nat}{fv:Value}{sp:aT}(F:cT X.prog X.w X.K X.mg X.base k fv n (vS X.K n m sp))(hr:bY k X.A)(hg:Gl X x)(hm:X.mg x=some fv)
 (hn:∀d P R,sp d P R->d.length=n)(ha:Ek X M R (e::es) tl)(N:(x==("__debug__":Str))=false)(he:starEach (e::es) X.env=(false,eval e X.env)::starEach es X.env)(L:(backTo pos (starEach es X.env)).any (·.1)=false):
 VP X M R (.Call (.Name x p) (e::es) [] pos) (λD Q=>tl D λd z=>sp d (λw=>Q w z) R):=by
 rintro q s U H Q I ⟨A,H0,D,P,S,er,h,kk⟩;obtain⟨E,Z,hE,hR⟩:=er;refine W5 (oi I hg hm ?_ N);refine PySem.W.callWith_K (h₀:=X.base) I.ok.mod.Px F.keep (bq (ha pos q s U H (λG u=>∃d f g,Go A H f u/\SR X.K M f H0 U u g/\aj X.K f.B u d G/\sp d (λw=>P w g) R) I ⟨A,H0,D,_,S,⟨E,Z,hE,hR⟩,h,λf d G u g hw O l J=>⟨d,f,g,O,l,J,hw⟩⟩) λus s1 hz=>?_) he L;obtain⟨G,u,I1,r,d,f,g,O,l,J,Y⟩:=hz;exact⟨I1.kg,F.run hr Z I1 r ⟨f.B,d,_,R,hn _ _ _ Y,J,l.dom,Y,λw v T pw y r'=>kk f w v T g pw (O.trans (.same y)) (l.same y) (r'.rep l.dom),λC T rc y=>hE C T rc (l.sm.trans y)⟩⟩
end
theorem J6{x:Str}{n:Nat}{v:V}:∀(l:List Str)(r:List V)(n:Nat),l.Nodup->l[n]?=some x->r[n]?=some v->(l.zip r).lookup x=some v:=λl=>by
 induction l with
 |nil=>intro r n _ e _;exact nn e
 |cons y l g=>
  intro r n b c a;cases r with
  |nil=>exact nn a
  |cons z r=>
   rw[LS,G2];cases n with
   |zero=>
    cases c;cases a;rw[TB]
   |succ n=>
    have d:l[n]?=some x:=by simpa using c
    have f:(x==y)=false:=by rw[beq_eq_false_iff_ne];rintro rfl;exact(SZ.mp b).1 (On d)
    rw[f];exact g r n (SZ.mp b).2 d (by simpa using a)
section
variable{X:Cx}{M:Ms}{R:Addr->Prop}{m m0:Md}{e o a b c:Expr}{es rest:List Expr}{t ta tb:JW}{tl:JX}{pos apos cpos p:Pos}{i j n:Nat}{st:Stmt}{x:Str}{π:List jg}
theorem SR.more{K:Frag}{A:Fz}{y H h:Hp}{k:St}{l:Ev}{G:List Addr}(S:SR K M A y k H l)(s:au H h)(nw:∀q∈G,H q=none)(ex:∀q∈G,∃o,h q=some o):SR K M ⟨λq=>A.ab q\/q∈G,λq=>A.B q\/q∈G,A.s0⟩ y k h l:=by
 obtain⟨F,O⟩:=S.ow;have u:∀p o,H p=some o->(A.B p\/p∈G)->A.B p:=λp o e z=>by
  rcases z with z|z
  .exact z
  .rw[nw p z]at e;cases e
 refine⟨S.len,λi w d e=>?_,S.sm.trans s,λp z=>?_,S.sl,F,⟨O.un,λi m w C e=>?_,O.emp,O.nd,O.ds,O.nw,λi p d r z=>?_,λp=>?_⟩⟩
 .obtain⟨v,g,f⟩:=S.sh i w d e;exact⟨v,g,Rep.mv s u w f⟩
 .rcases z with z|z
  .exact S.dm.same s p z
  .exact ex p z
 .obtain⟨v,g,f⟩:=O.val i m w C e;exact⟨v,g,Fp.mv s u m f⟩
 .rcases z with z|z
  .exact O.na i p d r z
  .obtain⟨o,e,_⟩:=O.has d r;rw[nw p z]at e;cases e
 .show(A.B p\/p∈G)↔_;rw[O.all p];constructor
  .rintro((z|z)|z)
   .exact .inl (.inl z)
   .exact .inr z
   .exact .inl (.inr z)
  .rintro((z|z)|z)
   .exact .inl (.inl z)
   .exact .inr z
   .exact .inl (.inr z)
theorem J7(h:PE X e (mG i)):PE X e (pF X.K i []):=PE.imp h<|by rintro g H Q ⟨v,u,f,d,q⟩;cases d;exact⟨v,f,q⟩
theorem qD.ix{K:Frag}{H:Hp}{n:Nat}:∀(π:List jg){v u:V},qD K H v (π++[.ix n]) u->∃p vs,qD K H v π (.ref p)/\(H p=some (.tup vs)\/H p=some (.lst vs))/\vs[n]?=some u
 |[],v,u,h=>by obtain⟨p,vs,x,e,k,g,f⟩:=h;cases f;exact⟨p,vs,by rw[e];rfl,k,g⟩
 |.ix m::π,v,u,h=>by obtain⟨p,vs,x,e,k,g,f⟩:=h;obtain⟨q,d,a,b,c⟩:=qD.ix π f;exact⟨q,d,⟨p,vs,x,e,k,g,a⟩,b,c⟩
 |.fl m _::π,v,u,h=>by obtain⟨p,vs,x,e,k,g,f⟩:=h;obtain⟨q,d,a,b,c⟩:=qD.ix π f;exact⟨q,d,⟨p,vs,x,e,k,g,a⟩,b,c⟩
theorem NX(h:PE X a (pF X.K i π))(s:PE X b (tC (.int n)))(l:iB b):PE X (.Subscript a b pos) (pF X.K i (π++[.ix n])):=
 PE.imp (zP tQ h s l)<|by rintro z H Q ⟨v,u,y,w,g⟩;obtain⟨q,f,r,d,k⟩:=qD.ix π w;exact⟨v,.ref q,y,r,d.elim (λd=>.inr (.inl ⟨q,f,n,u,rfl,rfl,ie.of d,aO k,g⟩)) λd=>.inl ⟨q,f,n,u,rfl,rfl,eE.of d,aO k,g⟩⟩
theorem qD.fl{K:Frag}{H:Hp}{n:Nat}{f:Str}:∀(π:List jg){v u:V},qD K H v (π++[.fl n f]) u->∃p vs C k d,qD K H v π (.ref p)/\H p=some (.ins C k (List.zip d vs))/\DJ K C d/\d[n]?=some f/\vs[n]?=some u
 |[],v,u,h=>by obtain⟨p,vs,x,e,⟨C,k,d,s,_,y,w⟩,r,l⟩:=h;cases l;exact⟨p,vs,C,k,d,by rw[e];rfl,s,y,w,r⟩
 |.ix m::π,v,u,h=>by obtain⟨p,vs,x,e,s,r,l⟩:=h;obtain⟨q,g,C,k,d,a,b,c⟩:=qD.fl π l;exact⟨q,g,C,k,d,⟨p,vs,x,e,s,r,a⟩,b,c⟩
 |.fl m _::π,v,u,h=>by obtain⟨p,vs,x,e,s,r,l⟩:=h;obtain⟨q,g,C,k,d,a,b,c⟩:=qD.fl π l;exact⟨q,g,C,k,d,⟨p,vs,x,e,s,r,a⟩,b,c⟩
theorem J8{f:Str}(h:PE X a (pF X.K i π))(s:attributeBase a f X.env (eval a X.env)=eval a X.env):PE X (.Attribute a f pos) (pF X.K i (π++[.fl n f])):=
 PE.imp (Iz h s)<|by rintro E H Q ⟨v,u,A,z,l⟩;obtain⟨q,k,C,D,B,r,y,d,g,w⟩:=qD.fl π z;exact⟨v,.ref q,A,r,q,C,D,_,u,rfl,y,d.1,d.2.2.2 f (On g),J6 (v:=u) (n:=n) B k n d.2.2.1 g w,l⟩
end
end VL
namespace L2
open PySem PySem.Spec PyProof.Rows
section
variable{pr:Program}{wo:World}{B:Around}{EE:Value->Shared->Prop}
end
section
variable{X:Cx}{pos:Pos}
end
end L2
namespace VL
open PySem PySem.Spec
open PyProof.Rows hiding St
open L2
section
variable{K:Frag}{M M':Ms}{A:Fz}{H0 H H1:Hp}{σ:St}{ε:Ev}
theorem SR.take(S:SR K M' A H0 σ H ε){i:Nat}{m:Md}{w:W}{v:V}{F:List Addr}(l:∀x,x∈M↔x=(i,m)\/x∈M')(D:¬aL M' i)(s:i<ε.length)(nd:F.Nodup)(E:∀p∈F,A.ab p)(nw:∀p∈F,H0 p=none)(P:Fp K A.B H m w v F):
 SR K M ⟨λp=>A.ab p/\p∉F,A.B,A.s0⟩ H0 (σ.set i (some v)) H (ε.set i (some w)):=by
 obtain⟨G,O⟩:=S.ow;have f:∀j,aL M j↔j=i\/aL M' j:=λj=>by
  constructor
  .rintro⟨q,I⟩;rcases(l _).mp I with e|e
   .cases e;exact .inl rfl
   .exact .inr ⟨q,e⟩
  .rintro(rfl|⟨q,I⟩)
   .exact⟨m,(l _).mpr (.inl rfl)⟩
   .exact⟨q,(l _).mpr (.inr I)⟩
 have C:∀j,aL M' j->j≠i:=λj c e=>by subst e;exact D c
 refine⟨by rw[Kk,Kk];exact S.len,λj y c e=>?_,S.sm,λp z=>S.dm p z.1,λu e=>?_,λj=>if j=i then F else G j,⟨λj N L a b=>?_,λj q y c e=>?_,λj c e=>?_,λj c=>?_,λj k p c J a b=>?_,λj p c d=>?_,λj p c d=>?_,λp=>?_⟩⟩
 .have h:j≠i/\¬aL M' j:=⟨λz=>c ((f j).mpr (.inl z)),λz=>c ((f j).mpr (.inr z))⟩;rw[aK (NM h.1)]at e;obtain⟨u,t,r⟩:=S.sh j y h.2 e;exact⟨u,by rw[KF (NM h.1)];exact t,r⟩
 .obtain⟨t,r⟩:=S.sl u e;exact⟨by rw[KF (NM (C 0 r))];exact t,(f 0).mpr (.inr r)⟩
 .rcases(l _).mp a with a|a
  .rcases(l _).mp b with b|b
   .cases a;cases b;rfl
   .cases a;exact(D ⟨_,b⟩).elim
  .rcases(l _).mp b with b|b
   .cases b;exact(D ⟨_,a⟩).elim
   .exact O.un j N L a b
 .rcases(l _).mp c with a|a
  .cases a;have:=iG e;subst this;exact⟨v,PH (by rw[S.len];exact s),by rw[Bz rfl];exact P⟩
  .have n:=C j ⟨q,a⟩;rw[aK (NM n)]at e;obtain⟨u,t,r⟩:=O.val j q y a e;exact⟨u,by rw[KF (NM n)];exact t,by rw[Bi n];exact r⟩
 .by_cases n:j=i
  .subst n;have:look (ε.set j (some w)) j=some w:=by rw[aW];exact PH s
   rw[this]at e;cases e
  .rw[aK (NM n)]at e;rw[Bi n];exact O.emp j (((f j).mp c).resolve_left n) e
 .by_cases n:j=i
  .rw[Bz n];exact nd
  .rw[Bi n];exact O.nd j (((f j).mp c).resolve_left n)
 .by_cases o:j=i
  .by_cases g:k=i
   .rw[o,g]
   .rw[Bz o]at a;rw[Bi g]at b;exact(O.na k p (((f k).mp J).resolve_left g) b (E p a)).elim
  .by_cases g:k=i
   .rw[Bi o]at a;rw[Bz g]at b;exact(O.na j p (((f j).mp c).resolve_left o) a (E p b)).elim
   .rw[Bi o]at a;rw[Bi g]at b;exact O.ds j k p (((f j).mp c).resolve_left o) (((f k).mp J).resolve_left g) a b
 .by_cases n:j=i
  .rw[Bz n]at d;exact nw p d
  .rw[Bi n]at d;exact O.nw j p (((f j).mp c).resolve_left n) d
 .by_cases n:j=i
  .rw[Bz n]at d;exact λz=>z.2 d
  .rw[Bi n]at d;exact λz=>O.na j p (((f j).mp c).resolve_left n) d z.1
 .constructor
  .intro z;by_cases d:p∈F
   .exact .inr ⟨i,(f i).mpr (.inl rfl),by rw[Bz rfl];exact d⟩
   .rcases(O.all p).mp z with z|⟨j,c,Q⟩
    .exact .inl ⟨z,d⟩
    .exact .inr ⟨j,(f j).mpr (.inr c),by rw[Bi (C j c)];exact Q⟩
  .rintro(z|⟨j,c,d⟩)
   .exact(O.all p).mpr (.inl z.1)
   .by_cases n:j=i
    .rw[Bz n]at d;exact(O.all p).mpr (.inl (E p d))
    .rw[Bi n]at d;exact(O.all p).mpr (.inr ⟨j,((f j).mp c).resolve_left n,d⟩)
end
section
variable{X:Cx}{M M':Ms}{m:Md}{st:Stmt}{te:(Addr->Prop)->WT}
end
section
variable{K:Frag}{B B':Addr->Prop}{H:Hp}
mutual
theorem Rep.CG:∀(w:W){v:V},CG w=true->Rep K B H w v->Rep K B' H w v
 |.aJ,_,_,r=>by dsimp only[Rep]at r⊢;exact r
 |.bl _,_,_,r=>by dsimp only[Rep]at r⊢;exact r
 |.int _,_,_,r=>by dsimp only[Rep]at r⊢;exact r
 |.str _,_,_,r=>by dsimp only[Rep]at r⊢;exact r
 |.tup l,v,h,r=>by obtain⟨p,vs,e,b,a⟩:=r;exact⟨p,vs,e,b,aj.CG l h a⟩
 |.ty _,_,h,_=>ff h
 |.cls _,_,h,_=>ff h
 |.err _,_,h,_=>ff h
 |.lst _,_,h,_=>ff h
 |.dct _ _,_,h,_=>ff h
 |.obj _ _ _,_,h,_=>ff h
 |.fV _,_,h,_=>ff h
theorem aj.CG:∀(l:List W){vs:List V},Ay l=true->aj K B H l vs->aj K B' H l vs
 |[],_,_,r=>by dsimp only[aj]at r⊢;exact r
 |w::l,vs,h,r=>by obtain⟨v,c,rfl,b,a⟩:=r.cons_inv;rw[Ay,Ap]at h;exact .cons (Rep.CG w h.1 b) (aj.CG l h.2 a)
end
mutual
theorem Fp.flat:∀(m:Md){w:W}{v:V}{F:List Addr},Fp K B H m w v F->flat m w=true->(∀p∈F,¬B' p)->Rep K B' H w v
 |.s,w,v,F,h,f,_=>by dsimp only[Fp]at h;dsimp only[VL.flat]at f;exact Rep.CG w f h.2
 |.f,w,v,F,h,f,n=>by obtain⟨c,p,vs,rfl,rfl,rfl,b,a⟩:=h;dsimp only[VL.flat]at f;exact⟨p,vs,rfl,n p (Ee.mpr rfl),.inl b,aj.CG c f a⟩
 |.t d,w,v,F,h,f,n=>by obtain⟨c,p,vs,rfl,rfl,b,a⟩:=h;dsimp only[VL.flat]at f;exact⟨p,vs,rfl,b,eB.flat d a f n⟩
 |.o _ _,w,v,F,h,f,n=>ff f
 |.io _,w,v,F,h,f,n=>ff f
 |.ls _,w,v,F,h,f,n=>ff f
theorem eB.flat:∀(b:List Md){a:List W}{vs:List V}{F:List Addr},eB K B H b a vs F->vI b a=true->(∀p∈F,¬B' p)->aj K B' H a vs
 |[],a,vs,F,h,f,_=>by obtain⟨rfl,rfl,_⟩:=h;exact .nil
 |m::b,a,vs,F,h,f,n=>by obtain⟨w,i,v,d,k,j,rfl,rfl,rfl,g,e⟩:=h;rw[vI,Ap]at f;exact .cons (Fp.flat m g f.1 λp c=>n p (Os _ c)) (eB.flat b e f.2 λp c=>n p (Fk _ c))
end
end
section
variable{X:Cx}{M M':Ms}{m m0:Md}{st:Stmt}{ti:(Addr->Prop)->WT}{tc te:WT}{one:Bool}{ts:List Nat}{i n:Nat}
end
section
variable{K:Frag}{M:Ms}{A:Fz}{H0 H:Hp}{σ:St}{ε:Ev}
end
section
variable{X:Cx}{M:Ms}{m:Md}{st:Stmt}{tg it e o:Expr}{j a b:Nat}{pos q:Pos}{x0:W}{te:WT}
end
section
variable{K:Frag}{M M':Ms}{A:Fz}{H0 Hs H H1:Hp}{σ:St}{ε:Ev}
end
section
variable{X:Cx}{M M':Ms}{m:Md}{st:Stmt}{ti:(Addr->Prop)->WT}{te:JW}{i:Nat}
theorem J9{R:Addr->Prop}{l:List Expr}{pos:Pos}{d:JX}(q:Ek X M R l d):VP X M R (.List l pos) (λb Q=>d b λc a=>c.length<=sizeLine/\Q (.lst c) a):=PE.imp (zK q)<|by rintro u H Q ⟨A,s,b,P,S,r,h,k⟩;refine⟨A,s,b,_,S,r,h,λt c o v a f g n e=>⟨by rw[aj.len e];exact f.1,λp j=>?_⟩⟩;have sm:=aF j (.lst o);exact k t _ _ _ a f.2 (g.trans (.same sm)) (n.same sm) ((cD.fresh (au.refl _) j e).rep n.dom)
theorem Ka{R:Addr->Prop}{j:List Expr}{pos:Pos}{l:Nat}{d:JX}(q:Ek X M R j d):VP X M R (.Tuple j l pos) (λb Q=>d b λc a=>c.length<=sizeLine/\Q (.tup c) a):=PE.imp (tO q)<|by rintro v H Q ⟨A,t,b,P,S,r,h,k⟩;refine⟨A,t,b,_,S,r,h,λu c n w a f g s e=>⟨by rw[aj.len e];exact f.1,λp o=>?_⟩⟩;have sm:=aF o (.tup n);exact k u _ _ _ a f.2 (g.trans (.same sm)) (s.same sm) (rM aQ (aj.same sm e))
end
theorem a2{a b:Bool}(z:(a&&b)=true):a=true/\b=true:=by cases a<;>cases b<;>first|exact⟨rfl,rfl⟩|exact ff z
theorem a3{a b c:Bool}(z:((a&&b)&&c)=true):(a=true/\b=true)/\c=true:=⟨a2 (a2 z).1,(a2 z).2⟩
structure SE where
 N:List Str
 nk:List (Str×NameKind)
 M:Ms
 fn:List Str
 gn:List Str
 zn:List Str
 md:List Md
 mt:List (Nat×Nat)
noncomputable def lz:List Md->Nat->Md
 |[],_=>.s
 |x::_,0=>x
 |_::l,n+1=>lz l n
noncomputable def NY:Md->Bool
 |.f=>true
 |_=>false
noncomputable def Kc:Md->Bool
 |.s=>true
 |_=>false
noncomputable def rV(M:Ms)(i:Nat):Bool:=(M.lookup i).isSome
theorem iJ{M:Ms}{i:Nat}(h:rV M i=false):¬aL M i:=by
 rintro⟨m,d⟩;unfold rV at h;have:∀M:Ms,(i,m)∈M->(M.lookup i).isSome=true:=λM=>by
  induction M with
  |nil=>intro z;cases z
  |cons x M c=>
   intro z;obtain⟨a,b⟩:=x;rw[G2];cases e:i==a with
   |true=>rfl
   |false=>
    rcases GE.mp z with z|z
    .cases z;rw[TB]at e;cases e
    .exact c z
 rw[this M d]at h;cases h
theorem iK{M:Ms}{i:Nat}{m:Md}(h:M.lookup i=some m):(i,m)∈M:=by
 induction M with
 |nil=>exact nn h
 |cons x M c=>
  obtain⟨a,b⟩:=x;rw[G2]at h;cases e:i==a with
  |true=>rw[e]at h;cases h;cases Pl.mp e;exact FC
  |false=>rw[e]at h;exact FK _ (c h)
noncomputable def rW(M:Ms)(i:Nat):Bool:=match M.lookup i with
 |none=>true
 |some m=>NY m
theorem rX{M:Ms}{i:Nat}(h:rW M i=true):aL M i->(i,.f)∈M:=λa=>by
 unfold rW at h;cases e:M.lookup i with
 |none=>exact(iJ (by unfold rV;rw[e];rfl) a).elim
 |some m=>rw[e]at h;cases m<;>first|exact iK e|exact ff h
noncomputable def yo(M:Ms)(i:Nat):Bool:=match M.lookup i with
 |none=>false
 |some m=>NY m
theorem jX{M:Ms}{i:Nat}(h:yo M i=true):(i,.f)∈M:=by
 unfold yo at h;cases e:M.lookup i with
 |none=>rw[e]at h;exact ff h
 |some m=>rw[e]at h;cases m<;>first|exact iK e|exact ff h
noncomputable def SE.sc(S:SE):Scope:={kind:=.function,names:=S.nk,isGenerator:=false,isCoroutine:=false}
noncomputable def NZ(S:SE)(x:Str):Bool:=S.nk.lookup x==some .local||(S.nk.lookup x==some .cell||S.nk.lookup x==some .free)
noncomputable def okN(x:Str):Bool:=!(x==("__debug__":Str))&&!(x==("__classdict__":Str))&&!(x==("__name__":Str))
noncomputable def gC(S:SE)(x:Str):Bool:=(S.nk.lookup x==some .globalImplicit)&&okN x
noncomputable def tys:List String:=["int","bool","tuple","list","str","dict"]
noncomputable def vV:Expr->Bool
 |.Call _ _ _ _=>false
 |_=>true
noncomputable def mC(f:Const->Bool):Expr->Bool
 |.Constant c _ _=>f c
 |_=>false
noncomputable def RD(f:Str->Pos->Bool):Expr->Bool
 |.Name x p=>f x p
 |_=>false
noncomputable def rY(f:Str->Bool):Expr->Bool:=RD λx _=>f x
noncomputable def lC(S:SE)(i:Nat):Expr->Bool:=rY λx=>S.N[i]?==some x&&NZ S x&&okN x
noncomputable def o1{α:Type}(f:α->Bool):List α->Bool
 |[a]=>f a
 |_=>false
noncomputable def Kd(f:Expr->List CmpOp->List Expr->Bool):Expr->Bool
 |.Compare l b a _=>f l b a
 |_=>false
noncomputable def vW(f:Expr->List Expr->Bool->Pos->Bool):Expr->Bool
 |.Call g b a p=>f g b a.isEmpty p
 |_=>false
noncomputable def Eo(f:Expr->Str->Pos->Bool):Expr->Bool
 |.Attribute o m p=>f o m p
 |_=>false
noncomputable def RE(f:Option Expr->Option Expr->Option Expr->Bool):Expr->Bool
 |.Slice l h t _=>f l h t
 |_=>false
noncomputable def S6(f:Expr->List Comprehension->Scope->Bool):Expr->Bool
 |.ListComp x a s _=>f x a s
 |_=>false
noncomputable def AM(f:Operator->Expr->Expr->Bool):Expr->Bool
 |.BinOp l o r _=>f o l r
 |_=>false
noncomputable def RG(f:UnaryOp->Expr->Bool):Expr->Bool
 |.UnaryOp o x _=>f o x
 |_=>false
noncomputable def AO(f:CmpOp->Expr->Expr->Bool):Expr->Bool:=Kd λl b a=>o1 (λo=>o1 (λr=>f o l r) a) b
noncomputable def o2{α:Type}(f:α->α->Bool):List α->Bool
 |a::l=>o1 (f a) l
 |_=>false
noncomputable def o3{α:Type}(f:α->α->α->Bool):List α->Bool
 |a::l=>o2 (f a) l
 |_=>false
noncomputable def GL(f:CmpOp->CmpOp->Expr->Expr->Expr->Bool):Expr->Bool:=Kd λl b a=>o2 (λo c=>o2 (λr t=>f o c l r t) a) b
noncomputable def RH(f:BoolOp->List Expr->Bool):Expr->Bool
 |.BoolOp o a _=>f o a
 |_=>false
noncomputable def ug(f:List Expr->Bool):Expr->Bool
 |.Tuple a _ _=>f a
 |_=>false
noncomputable def Ke(f:List Expr->Bool):Expr->Bool
 |.List a _=>f a
 |_=>false
noncomputable def uh(f:Expr->Expr->Bool):Expr->Bool
 |.Subscript v s _=>f v s
 |_=>false
noncomputable def S7(f:Expr->Option Expr->Option Expr->Bool):Expr->Bool:=uh λv s=>RE (λl h t=>t.isNone&&f v l h) s
noncomputable def gG(f:Str->List Expr->Bool):Expr->Bool:=vW λg a k _=>k&&rY (λx=>f x a) g
noncomputable def AQ(f:Expr->Str->Pos->Pos->Bool):Expr->Bool:=vW λg b k c=>k&&b.isEmpty&&Eo (λo m a=>f o m a c) g
noncomputable def GN(f:Expr->Expr->Expr->List Expr->Scope->Bool):Expr->Bool:=S6 λx a s=>o1 (λg=>decide (g.is_async=0)&&f x g.target g.iter g.ifs s) a
theorem dW{f:Const->Bool}{e:Expr}(h:mC f e=true):∃c k p,e=.Constant c k p/\f c=true:=by cases e<;>first|exact⟨_,_,_,rfl,h⟩|exact ff h
theorem vX{f:Str->Pos->Bool}{e:Expr}(h:RD f e=true):∃x p,e=.Name x p/\f x p=true:=by cases e<;>first|exact⟨_,_,rfl,h⟩|exact ff h
theorem rZ{f:Expr->List CmpOp->List Expr->Bool}{e:Expr}(h:Kd f e=true):∃l b a p,e=.Compare l b a p/\f l b a=true:=by cases e<;>first|exact⟨_,_,_,_,rfl,h⟩|exact ff h
theorem jn{f:Expr->List Expr->Bool->Pos->Bool}{e:Expr}(h:vW f e=true):∃g b a p,e=.Call g b a p/\f g b a.isEmpty p=true:=by cases e<;>first|exact⟨_,_,_,_,rfl,h⟩|exact ff h
theorem iL{f:Expr->Str->Pos->Bool}{e:Expr}(h:Eo f e=true):∃o m p,e=.Attribute o m p/\f o m p=true:=by cases e<;>first|exact⟨_,_,_,rfl,h⟩|exact ff h
theorem vY{f:Option Expr->Option Expr->Option Expr->Bool}{e:Expr}(h:RE f e=true):∃l r t p,e=.Slice l r t p/\f l r t=true:=by cases e<;>first|exact⟨_,_,_,_,rfl,h⟩|exact ff h
theorem Ep{f:Expr->List Comprehension->Scope->Bool}{e:Expr}(h:S6 f e=true):∃x a s p,e=.ListComp x a s p/\f x a s=true:=by cases e<;>first|exact⟨_,_,_,_,rfl,h⟩|exact ff h
theorem dX{α:Type}{f:α->Bool}{l:List α}(h:o1 f l=true):∃a,l=[a]/\f a=true:=by rcases l with _|⟨a,_|_⟩<;>first|exact⟨_,rfl,h⟩|exact ff h
theorem AR{α:Type}{f:α->α->Bool}{l:List α}(h:o2 f l=true):∃a b,l=[a,b]/\f a b=true:=by
 cases l with
 |nil=>exact ff h
 |cons a l=>obtain⟨b,rfl,c⟩:=dX h;exact⟨_,_,rfl,c⟩
theorem cM{f:Str->Bool}{e:Expr}(h:rY f e=true):∃x p,e=.Name x p/\f x=true:=vX h
theorem jo{f:Operator->Expr->Expr->Bool}{e:Expr}(h:AM f e=true):∃l o r p,e=.BinOp l o r p/\f o l r=true:=by cases e<;>first|exact⟨_,_,_,_,rfl,h⟩|exact ff h
theorem jY{f:UnaryOp->Expr->Bool}{e:Expr}(h:RG f e=true):∃o x p,e=.UnaryOp o x p/\f o x=true:=by cases e<;>first|exact⟨_,_,_,rfl,h⟩|exact ff h
theorem nQ{f:CmpOp->Expr->Expr->Bool}{e:Expr}(h:AO f e=true):∃l o r p,e=.Compare l [o] [r] p/\f o l r=true:=by obtain⟨l,g,d,p,rfl,c⟩:=rZ h;obtain⟨o,rfl,b⟩:=dX c;obtain⟨r,rfl,a⟩:=dX b;exact⟨_,_,_,_,rfl,a⟩
theorem yp{f:CmpOp->CmpOp->Expr->Expr->Expr->Bool}{e:Expr}(h:GL f e=true):∃l o a r t p,e=.Compare l [o,a] [r,t] p/\f o a l r t=true:=by obtain⟨l,i,g,p,rfl,d⟩:=rZ h;obtain⟨o,a,rfl,c⟩:=AR d;obtain⟨r,t,rfl,b⟩:=AR c;exact⟨_,_,_,_,_,_,rfl,b⟩
theorem jZ{f:BoolOp->List Expr->Bool}{e:Expr}(h:RH f e=true):∃o a p,e=.BoolOp o a p/\f o a=true:=by cases e<;>first|exact⟨_,_,_,rfl,h⟩|exact ff h
theorem cU{f:List Expr->Bool}{e:Expr}(h:ug f e=true):∃a k p,e=.Tuple a k p/\f a=true:=by cases e<;>first|exact⟨_,_,_,rfl,h⟩|exact ff h
theorem lD{f:List Expr->Bool}{e:Expr}(h:Ke f e=true):∃a p,e=.List a p/\f a=true:=by cases e<;>first|exact⟨_,_,rfl,h⟩|exact ff h
theorem cV{f:Expr->Expr->Bool}{e:Expr}(h:uh f e=true):∃v s p,e=.Subscript v s p/\f v s=true:=by cases e<;>first|exact⟨_,_,_,rfl,h⟩|exact ff h
theorem vZ{f:Expr->Option Expr->Option Expr->Bool}{e:Expr}(h:S7 f e=true):∃v l r q p,e=.Subscript v (.Slice l r none q) p/\f v l r=true:=by obtain⟨v,s,p,rfl,c⟩:=cV h;obtain⟨l,r,t,q,rfl,b⟩:=vY c;obtain⟨k,a⟩:=a2 b;rw[Option.isNone_iff_eq_none.mp k];exact⟨_,_,_,_,_,rfl,a⟩
theorem aH{f:Str->List Expr->Bool}{e:Expr}(h:gG f e=true):∃x q a p,e=.Call (.Name x q) a [] p/\f x a=true:=by obtain⟨g,a,i,p,rfl,d⟩:=jn h;obtain⟨k,c⟩:=a2 d;obtain⟨x,q,rfl,b⟩:=cM c;rw[Hb.mp k];exact⟨_,_,_,_,rfl,b⟩
theorem um{f:Expr->Str->Pos->Pos->Bool}{e:Expr}(h:AQ f e=true):∃o m a c,e=.Call (.Attribute o m a) [] [] c/\f o m a c=true:=by obtain⟨g,n,j,p,rfl,i⟩:=jn h;obtain⟨⟨k,l⟩,d⟩:=a3 i;obtain⟨o,m,a,rfl,b⟩:=iL d;rw[Hb.mp k,Hb.mp l];exact⟨_,_,_,_,rfl,b⟩
theorem nR{f:Expr->Expr->Expr->List Expr->Scope->Bool}{e:Expr}(h:GN f e=true):∃d tg b c a p,e=.ListComp d [⟨tg,b,c,0⟩] a p/\f d tg b c a=true:=by obtain⟨x,m,s,p,rfl,j⟩:=Ep h;obtain⟨⟨tg,l,n,z⟩,rfl,i⟩:=dX j;obtain⟨k,g⟩:=a2 i;cases Bn k;exact⟨_,_,_,_,_,_,rfl,g⟩
noncomputable def UX(n:Int):Const->Bool
 |.int j=>decide (j=n)
 |_=>false
noncomputable def r6(S:SE)(i:Nat):List jg->Expr->Bool
 |[],e=>lC S i e
 |.fl _ x::π,e=>Eo (λa f _=>decide (f=x)&&vV a&&r6 S i π a) e
 |.ix n::π,e=>uh (λa k=>mC (UX n) k&&r6 S i π a) e
noncomputable def jH(S:SE)(m:Md->Bool)(i:Nat)(π:List jg)(e:Expr):Bool:=!π.isEmpty&&r6 S i π.reverse e&&(match S.M.lookup i with
 |some a=>(match gA a π with
  |some k=>m k
  |none=>false)
 |none=>false)
noncomputable def cW(S:SE):CE->Expr->Bool
 |.var i,e=>lC S i e&&rW S.M i
 |.own i π,e=>jH S NY i π e
 |_,_=>false
noncomputable def P4:BI->Str
 |.len=>"len"
 |.abs=>"abs"
 |.max2=>"max"
 |.min2=>"min"
 |.sum=>"sum"
 |.all=>"all"
 |.any=>"any"
 |.list=>"list"
 |.tuple=>"tuple"
 |.sU=>"isinstance"
 |.int=>"int"
 |.PV=>"divmod"
noncomputable def S8:BI->Nat->Bool
 |_,n=>0<n
noncomputable def CI:CE->Bool
 |.not a=>CI a
 |.vH _ a=>CI a
 |.and b=>AS b
 |.or b=>AS b
 |_=>true
where AS:List CE->Bool
 |[]=>true
 |a::b=>CI a&&AS b
noncomputable def v5:Expr->Bool
 |.Slice _ _ _ _=>false
 |_=>true
noncomputable def uo:Expr->Bool
 |.Set _ _ _=>false
 |_=>true
noncomputable def AU:List Expr->Option (List Str)
 |[]=>some []
 |.Name x _::a=>(AU a).map λl=>x::l
 |_::_=>none
noncomputable def N4:Expr->Option (Bool×List Str)
 |.Name x _=>some (true,[x])
 |.Tuple a _ _=>(AU a).map λl=>(false,l)
 |_=>none
noncomputable def mask(a:List Str)(N:List Str):List Str:=N.map λy=>if a.contains y then y++("!":Str)else y
noncomputable def SE.comp(S:SE)(a:Scope)(b:List Str):SE:=
 {S with N:=b++mask b S.N,nk:=a.names.map λp=>(p.1,if p.2=.free then .cell else p.2),M:=up S.M b.length}
noncomputable def SE.lend(S:SE)(a:List Nat):SE:={S with M:=S.M.filter (λx=>!a.contains x.1)}
noncomputable def UY:Expr->Bool
 |.Call (.Name _ _) (_::_) _ _=>true
 |.Compare _ _ _ _=>true
 |_=>false
noncomputable def N5:CE->Option String
 |.vG n=>some n
 |_=>none
noncomputable def AV:CE->Bool
 |.oX _=>true
 |_=>false
noncomputable def Kg(n:Bool)(f:Expr->Bool):Option Expr->Bool
 |none=>n
 |some e=>!n&&f e
noncomputable def GO:CE->Bool
 |.bl b=>b
 |_=>false
noncomputable def N6:BI->List CE->Bool
 |.sU,[_,c]=>(N5 c).isSome
 |.sU,_=>false
 |_,_=>true
noncomputable def RI(y:Bool)(f:Expr->Bool):List Expr->Bool
 |[]=>y
 |[e]=>f e
 |_=>false
noncomputable def AW(f:Expr->Bool)(g:List Expr->Bool):List Expr->Bool
 |e::a=>f e&&g a
 |[]=>false
noncomputable def r8(f:Expr->Bool):List Expr->Bool:=o1 f
noncomputable def lE(S:SE)(f:List Nat)(one:Bool)(n:Nat)(g:Bool)(i:Expr->Bool)(j:SE->List Expr->Bool)(h:SE->Expr->Bool)(e tg b:Expr)(d:List Expr)(a:Scope):Bool:=
 match N4 tg with
 |some (o,c)=>(one==o)&&(n==c.length)&&(f==Ea n)&&cK a S.sc S.N (mask c S.N) c&&decide (c++mask c S.N).Nodup&&uo b&&(!g||!one)&&i b&&j (S.comp a c) d&&h (S.comp a c) e
 |none=>false
noncomputable def jP(c:Nat->Md):CE->Bool
 |.lst _=>true
 |.comp _ _ _ _ _ _=>true
 |.blt .list _=>true
 |.rev _=>true
 |.Jh _ _=>true
 |.sl _ _ _=>true
 |.bin .Add a b=>jP c a||jP c b
 |.bin .Mult a _=>jP c a
 |.call f _=>match c f with
  |.f=>true
  |_=>false
 |_=>false
noncomputable def UZ(f:Expr->Bool):Option Expr->Option Expr->Option Expr->Bool
 |none,none,some t=>f t
 |_,_,_=>false
noncomputable def S9(f:Expr->Expr->Bool):Expr->Bool:=uh λv s=>RE (UZ (f v)) s
theorem wc{f:Expr->Expr->Bool}{e:Expr}(h:S9 f e=true):∃v t q p,e=.Subscript v (.Slice none none (some t) q) p/\f v t=true:=by
 obtain⟨v,s,p,rfl,h⟩:=cV h;obtain⟨l,r,t,q,rfl,h⟩:=vY h;cases l with
 |some _=>exact ff h
 |none=>
  cases r with
  |some _=>exact ff h
  |none=>
   cases t with
   |none=>exact ff h
   |some t=>exact⟨v,t,q,p,rfl,h⟩
noncomputable def mo(a:Nat->Md)(c:CE):Md:=if jP a c=true then .f else .s
mutual
noncomputable def aB(S:SE)(A:Bool):CE->Expr->Bool
 |.var i,e=>lC S i e&&!rV S.M i
 |.int i,e=>mC (λc=>decide (c=.int i)) e
 |.bl b,e=>mC (λc=>decide (c=.bool b)) e
 |.str x,e=>mC (λc=>decide (c=.str x)) e
 |.aJ,e=>mC (λc=>decide (c=.none)) e
 |.vG n,e=>rY (λx=>decide (x=Str.ofString n)&&gC S x&&S.zn.contains x&&tys.contains n) e
 |.glob g,e=>rY (λx=>S.gn[g]?==some x&&gC S x) e
 |.bin op a b,e=>AM (λo l r=>decide (op=o)&&(aB S false a l||cW S a l)&&(aB S false b r||cW S b r)) e
 |.neg a,e=>RG (λo x=>decide (o=.USub)&&aB S false a x) e
 |.not a,e=>RG (λo x=>decide (o=.Not)&&aB S false a x) e
 |.cmp op a b,e=>AO (λo l r=>decide (op=o)&&!decide (op=.In)&&!decide (op=.NotIn)&&(aB S false a l||cW S a l)&&(aB S false b r||cW S b r)) e
 |.kT p q a b c,e=>GL (λo G l r t=>decide (p=o)&&decide (q=G)&&(pG p).isSome&&(pG q).isSome&&aB S false a l&&aB S false b r&&aB S false c t) e
 |.and j,e=>RH (λo d=>decide (o=.And)&&!d.isEmpty&&dY S j d) e
 |.or j,e=>RH (λo d=>decide (o=.Or)&&!d.isEmpty&&dY S j d) e
 |.tup j,e=>ug (λd=>dY S j d) e
 |.lst j,e=>Ke (λd=>dY S j d) e
 |.ix a i,e=>uh (λv s=>v5 s&&(aB S false a v||cW S a v)&&aB S false i s) e
 |.Jh a st,e=>S9 (λv t=>(aB S false a v||cW S a v)&&aB S false st t) e
 |.sl a C D,e=>S7 (λv l h=>(aB S false a v||cW S a v)&&Kg (iH C) (λx=>aB S false C x) l&&Kg (iH D) (λx=>aB S false D x) h) e
 |.call f j,e=>gG (λx d=>S.fn[f]?==some x&&gC S x&&!d.isEmpty&&!fu (lz S.md f)&&!S.mt.any (·.1==f)&&dY S j d) e
 |.blt b j,e=>gG (λx d=>decide (x=P4 b)&&gC S x&&S.zn.contains x&&S8 b d.length&&N6 b j&&jI S j d) e
 |.comp E one n i c x,e=>GN (λz tg k w m=>lE S E one n (AV i) (λk=>aB S true i k||cW S i k) (λB w=>RI (GO c) (λf=>aB B false c f&&CI c) w) (λB z=>aB B false x z) z tg k w m) e
 |.gJ j,e=>gG (λx d=>A&&decide (x=("range":Str))&&gC S x&&S.zn.contains x&&(j.length==1||j.length==2||j.length==3)&&dY S j d) e
 |.oX a,e=>gG (λx d=>A&&decide (x=("enumerate":Str))&&gC S x&&S.zn.contains x&&r8 (λv=>aB S false a v) d) e
 |.rev a,e=>gG (λx d=>cond A (decide (x=("reversed":Str))&&gC S x&&S.zn.contains x&&r8 (λv=>aB S false a v) d)
  (decide (x=("list":Str))&&gC S x&&S.zn.contains x&&r8 (λv=>gG (λy d=>decide (y=("reversed":Str))&&gC S y&&S.zn.contains y&&r8 (λu=>aB S false a u||cW S a u) d) v) d)) e
 |.pop _,_=>false
 |.own i π,e=>jH S Kc i π e
 |.vH H a,e=>UY e&&aB (S.lend H) false a e
noncomputable def dY(S:SE):List CE->List Expr->Bool
 |[],b=>b.isEmpty
 |a::c,b=>AW (λe=>aB S false a e) (λb=>dY S c b) b
noncomputable def jI(S:SE):List CE->List Expr->Bool
 |[],b=>b.isEmpty
 |a::c,b=>AW (λe=>aB S false a e||cW S a e) (λb=>jI S c b) b
end
structure XOk(S:SE)(Φ:Nat->aT)(Ψ:Nat->Md)(G:Nat->W)(X:Cx):Prop where
 hN:X.N=S.N
 nd:X.N.Nodup
 calm:X.calm=true
 un:X.A.units+64<cLine
 nk:∀x,X.env.scope.names.lookup x=S.nk.lookup x
 fns:∀(j:Nat)(x:Str),S.fn[j]?=some x->S.mt.any (·.1==j)=false->∃fv n k,X.mg x=some fv/\cT X.prog X.w X.K X.mg X.base k fv n (ue X.K n (Ψ j) (Φ j))/\bY k X.A/\∀ws P R,Φ j ws P R->ws.length=n
 GP:∀(j g:Nat)(x:Str),S.fn[j]?=some x->(j,g)∈S.mt->∃f fd ps n k,(∀C,G g=.cls C->Meth X.K C x f)/\Binds X.K fd ps []/\bO X.prog X.w X.K X.mg X.base (jb X.prog X.w) k f fd ps (ue X.K n (Ψ j) (Φ j))/\bY k X.A/\∀ws P R,Φ j ws P R->ws.length=n
 Er:Ψ=lz S.md
 Es:∀(j:Nat)(x:Str),S.gn[j]?=some x->∃u v,X.mg x=some u/\RelV v u/\∀B H,Rep X.K B H (G j) v
 sX:∀x∈S.zn,X.mg x=none
 kit:rP X.K
section
variable{S:SE}{Φ:Nat->aT}{Ψ:Nat->Md}{G:Nat->W}{X:Cx}
theorem XOk.mF(h:XOk S Φ Ψ G X):XOk S Φ Ψ G X.mF:=⟨h.hN,h.nd,h.calm,h.un,h.nk,h.fns,h.GP,h.Er,h.Es,h.sX,h.kit⟩
theorem we{x:Str}(h:okN x=true):(x==("__debug__":Str))=false/\(x==("__classdict__":Str))=false/\x≠"__name__":=by unfold okN at h;simp only[Ap,Wu]at h;exact⟨h.1.1,h.1.2,λz=>by rw[z]at h;exact absurd h.2 (by simp)⟩
theorem bG{x:Str}(a:XOk S Φ Ψ G X)(h:gC S x=true):Gl X x/\(x==("__debug__":Str))=false/\x≠"__name__":=by unfold gC at h;rw[Ap]at h;obtain⟨c,d,b⟩:=we h.2;refine⟨?_,c,b⟩;show X.env.scope.names.lookup x=_;rw[a.nk];exact Pl.mp h.1
theorem gb(b:XOk S Φ Ψ G X){i:Nat}{e:Expr}(h:lC S i e=true):PE X e (mG i):=by obtain⟨x,c,rfl,h⟩:=cM h;obtain⟨h,d⟩:=Iy.mp h;obtain⟨f,a⟩:=Iy.mp h;obtain⟨j,g,_⟩:=we d;refine zu (by rw[b.hN];exact Pl.mp f) ?_ j g;simp only[NZ,X8,Pl]at a;rw[<-b.nk]at a;exact a
noncomputable def noStar:Expr->Bool
 |.Starred _ _=>false
 |_=>true
theorem aD{e:Expr}(h:noStar e=true)(a:List Expr)(env:Env):starEach (e::a) env=(false,eval e env)::starEach a env:=by
 cases e<;>first|rfl|exact ff h
theorem cu:∀{a:List Expr}(h:a.all noStar=true)(pos:Pos)(env:Env),(backTo pos (starEach a env)).any (·.1)=false
 |[],_,_,_=>rfl
 |e::a,h,pos,env=>by rw[Gg,Ap]at h;rw[aD h.1];show(false||(backTo pos (starEach a env)).any (·.1))=false;rw[cu h.2];rfl
theorem c8{m:Md->Bool}{i:Nat}{π:List jg}{e:Expr}(h:jH S m i π e=true):
 (∃g k,π≠[]/\r6 S i π.reverse e=true/\S.M.lookup i=some g/\gA g π=some k/\m k=true)/\((∃a f q,e=.Attribute a f q)\/∃a j c d q,e=.Subscript a (.Constant (.int j) c d) q):=by
 unfold jH at h;rw[Ap,Ap]at h;obtain⟨⟨y,l⟩,b⟩:=h;have u:π≠[]:=λz=>by rw[z]at y;exact ff y
 constructor
 .split at b
  .rename_i g hl
   split at b
   .rename_i k hk
    exact⟨g,k,u,l,hl,hk,b⟩
   .cases b
  .cases b
 .cases t:π.reverse with
  |nil=>exact(u (by simpa using t)).elim
  |cons s r=>
   rw[t]at l;cases s with
   |ix n=>obtain⟨v,s,p,rfl,w⟩:=cV l;obtain⟨c,k,q,rfl,A⟩:=dW (a2 w).1;cases c<;>first|exact .inr ⟨_,_,_,_,_,rfl⟩|exact ff A
   |fl n x=>obtain⟨o,m,p,rfl,w⟩:=iL l;exact .inl ⟨_,_,_,rfl⟩
theorem lF{m:Md->Bool}{i:Nat}{π:List jg}{v:Expr}{p:Pos}(h:jH S m i π (.Starred v p)=true):False:=by rcases(c8 h).2 with⟨_,_,_,e⟩|⟨_,_,_,_,_,e⟩<;>cases e
theorem aU{b:Bool}{c:CE}{e:Expr}(h:aB S b c e=true\/cW S c e=true):noStar e=true:=by
 cases e with
 |Starred v p=>
  rcases h with h|h
  .cases c with
   |own i d=>exact(lF h).elim
   |vH f a=>exact ff h
   |_=>exact ff h
  .cases c<;>first|exact ff h|exact(lF h).elim
 |_=>rfl
theorem dO{a b:Bool}(h:(a||b)=true):a=true\/b=true:=by
 cases a
 .exact .inr h
 .exact .inl rfl
theorem jq:∀{cs:List CE}{a:List Expr},dY S cs a=true->a.all noStar=true
 |[],a,h=>by
  cases a with
  |nil=>rfl
  |cons _ _=>exact ff h
 |c::cs,[],h=>by cases h
 |c::cs,e::a,h=>by have h:=a2 h;rw[Gg,aU (.inl h.1),jq h.2];rfl
theorem lG:∀{cs:List CE}{a:List Expr},jI S cs a=true->a.all noStar=true
 |[],a,h=>by
  cases a with
  |nil=>rfl
  |cons _ _=>exact ff h
 |c::cs,[],h=>by cases h
 |c::cs,e::a,h=>by have h:=a2 h;rw[Gg,aU (dO h.1),lG h.2];rfl
theorem pJ{b:Expr}(h:v5 b=true):iB b:=λo i=>by cases b<;>first|rfl|exact ff h
theorem yq{a:Expr}(h:vV a=true)(f:Str)(env:Env)(b:Sem Value):attributeBase a f env b=b:=by cases a<;>first|rfl|exact ff h
theorem lH(b:XOk S Φ Ψ G X){i:Nat}:∀(π:List jg)(e:Expr),r6 S i π e=true->PE X e (pF X.K i π.reverse)
 |[],e,h=>J7 (gb b h)
 |.fl n x::π,e,h=>by obtain⟨o,m,p,rfl,g⟩:=iL h;obtain⟨⟨a,f⟩,d⟩:=a3 g;have a:=Bn a;subst a;rw[W2];exact J8 (lH b π _ d) (yq f _ _ _)
 |.ix n::π,e,h=>by
  obtain⟨v,s,p,rfl,g⟩:=cV h;obtain⟨f,d⟩:=a2 g;obtain⟨c,k,q,rfl,j⟩:=dW f;cases c<;>try exact ff j
  have a:=Bn j;subst a;rw[W2];exact NX (lH b π _ d) zv (pJ rfl)
theorem AX(b:XOk S Φ Ψ G X){m:Md->Bool}{i:Nat}{π:List jg}{e:Expr}(h:jH S m i π e=true):∃a k,(i,a)∈S.M/\gA a π=some k/\m k=true/\PE X e (pF X.K i π):=by obtain⟨⟨a,k,_,g,f,d,c⟩,_⟩:=c8 h;have:=lH b π.reverse e g;rw[XC]at this;exact⟨a,k,iK f,d,c,this⟩
theorem N7(g:XOk S Φ Ψ G X){i:Nat}{π:List jg}{e:Expr}(h:jH S Kc i π e=true)(R:Addr->Prop):VE X S.M R .s e (λa Q=>match look a i with|some w=>(match bX w π with|some u=>Q u|none=>False)|none=>False):=by
 obtain⟨j,k,d,c,f,b⟩:=AX g h;cases k<;>first|(cases f;done)|skip
 exact Jq b d c
theorem GQ(g:XOk S Φ Ψ G X){i:Nat}{π:List jg}{e:Expr}(h:jH S NY i π e=true)(R:Addr->Prop):VB X S.M R e (λa Q=>match look a i with|some w=>(match bX w π with|some u=>Q u|none=>False)|none=>False):=by
 obtain⟨j,k,d,c,f,b⟩:=AX g h;cases k<;>first|(cases f;done)|skip
 exact Jp b d c
end
structure bZ(Φ:Nat->aT)(Ψ:Nat->Md)(G:Nat->W)(c:CE):Prop where
 e:∀{S:SE}{X:Cx},XOk S Φ Ψ G X->∀ex,aB S false c ex=true->∀R,VE X S.M R (mo Ψ c) ex (wE Φ G R c)
 t:∀{S:SE}{X:Cx},XOk S Φ Ψ G X->∀ex,aB S false c ex=true->CI c=true->∀R,VT X S.M R ex (wE Φ G R c)
 i:∀{S:SE}{X:Cx},XOk S Φ Ψ G X->∀tg br ex,(aB S true c ex||(br&&cW S c ex))=true->(AV c=true->∃elts kk tp,tg=Expr.Tuple elts kk tp)->∀R,PI X tg ex (AF X S.M R br (wE Φ G R c))
structure mR(Φ:Nat->aT)(Ψ:Nat->Md)(G:Nat->W)(cs:List CE):Prop where
 a:∀{S:SE}{X:Cx},XOk S Φ Ψ G X->∀es,dY S cs es=true->∀R,VA X S.M R es (wA Φ G R cs)
 b:∀{S:SE}{X:Cx},XOk S Φ Ψ G X->∀es,jI S cs es=true->∀R,L4 X S.M R es (wA Φ G R cs)
 av:∀{S:SE}{X:Cx},XOk S Φ Ψ G X->∀es pos,es≠[]->dY S cs es=true->∀R,VE X S.M R .s (.BoolOp .And es pos) (xx Φ G R cs)
 ov:∀{S:SE}{X:Cx},XOk S Φ Ψ G X->∀es pos,es≠[]->dY S cs es=true->∀R,VE X S.M R .s (.BoolOp .Or es pos) (LQ Φ G R cs)
 «at»:∀{S:SE}{X:Cx},XOk S Φ Ψ G X->∀es pos,es≠[]->dY S cs es=true->CI.AS cs=true->∀R,GJ X S.M R (.BoolOp .And es pos) (xx Φ G R cs)
 ot:∀{S:SE}{X:Cx},XOk S Φ Ψ G X->∀es pos,es≠[]->dY S cs es=true->CI.AS cs=true->∀R,GJ X S.M R (.BoolOp .Or es pos) (LQ Φ G R cs)
section
variable{Φ:Nat->aT}{Ψ:Nat->Md}{G:Nat->W}
theorem dG{c:CE}(h:jP Ψ c=false):mo Ψ c=.s:=by unfold mo;rw[h];rfl
theorem iN{c:CE}(h:jP Ψ c=true):mo Ψ c=.f:=by unfold mo;rw[h];rfl
theorem bZ.s{c:CE}(h:bZ Φ Ψ G c){S:SE}{X:Cx}(a:XOk S Φ Ψ G X){ex:Expr}(k:aB S false c ex=true)(R:Addr->Prop):VE X S.M R .s ex (wE Φ G R c):=yi (h.e a ex k R)
theorem bZ.b{c:CE}(h:bZ Φ Ψ G c){S:SE}{X:Cx}(a:XOk S Φ Ψ G X){ex:Expr}(k:(aB S false c ex||cW S c ex)=true)(R:Addr->Prop):VB X S.M R ex (wE Φ G R c):=by
 rcases dO k with k|k
 .exact NJ (h.e a ex k R)
 .cases c with
  |var i=>have k:(lC S i ex&&rW S.M i)=true:=k;rw[Ap]at k;exact AA (gb a k.1) (rX k.2)
  |own i d=>exact GQ a k R
  |_=>exact ff k
theorem bZ.mk1{c:CE}(b:∀{S:SE}{X:Cx},XOk S Φ Ψ G X->∀ex,aB S false c ex=true->∀R,VE X S.M R (mo Ψ c) ex (wE Φ G R c))
 (f:∀{S:SE}{ex:Expr}(env:Env),aB S false c ex=true->∀a,isTrue ex env a=(do let v<-a;standAt ex.pos;holding [v] (truthy v)))
 (g:∀(S:SE)(ex:Expr),aB S true c ex=true->aB S false c ex=true)(e:∀(S:SE)(ex:Expr),cW S c ex=false):bZ Φ Ψ G c:=
 ⟨b,λd ex k _ R=>pH (f _ k) (yi (b d ex k R)),λ{S X} d h i ex k _ R=>by rw[e,Qr,Pm]at k;exact dF (f7 (b d ex (g _ _ k) R))⟩
theorem Kh(i:Nat):bZ Φ Ψ G (.var i):=by
 have d:∀{S:SE}{X:Cx},XOk S Φ Ψ G X->∀ex,aB S false (.var i) ex=true->∀R,VE X S.M R (mo Ψ (.var i)) ex (wE Φ G R (.var i)):=λ{S X} a ex k R=>by have k:=a2 k;have e:¬aL S.M i:=iJ (by simpa using k.2);rw[dG rfl];exact Jo (gb a k.1) e
 refine⟨d,λ{S X} a ex k _ R=>pH (λc=>?_) (yi (d a ex k R)),λ{S X} a f g ex k _ R=>?_⟩
 .have k:=a2 k;cases ex<;>first|rfl|(have:=k.1;exact ff this)
 .rcases dO k with k|k
  .exact dF (f7 (d a ex (by exact k) R))
  .rw[Ap]at k;obtain⟨rfl,b⟩:=k;have b:(lC S i ex&&rW S.M i)=true:=b;rw[Ap]at b;exact dF (NR (AA (gb a b.1) (rX b.2)))
theorem Kl(i:Nat)(π:List jg):bZ Φ Ψ G (.own i π):=by
 have d:∀R,wE Φ G R (.own i π)=λe Q=>match look e i with|some w=>(match bX w π with|some u=>Q u|none=>False)|none=>False:=λR=>rfl
 have c:∀{S:SE}{X:Cx},XOk S Φ Ψ G X->∀ex,aB S false (.own i π) ex=true->∀R,VE X S.M R (mo Ψ (.own i π)) ex (wE Φ G R (.own i π)):=λ{S X} a ex k R=>by rw[dG rfl,d];exact N7 a k R
 refine⟨c,λ{S X} a ex k _ R=>pH (λb=>?_) (yi (c a ex k R)),λ{S X} a g h ex k _ R=>?_⟩
 .rcases(c8 k).2 with⟨_,_,_,rfl⟩|⟨_,_,_,_,_,rfl⟩<;>rfl
 .rcases dO k with k|k
  .exact dF (f7 (c a ex (by exact k) R))
  .rw[Ap]at k;obtain⟨rfl,f⟩:=k;rw[d];exact dF (NR (GQ a f R))
theorem Km(i:Int):bZ Φ Ψ G (.int i):=by
 refine .mk1 (λ{S X} d ex k R=>?_) (λ{S ex} b k a=>?_) (λS ex k=>by exact k) (λ_ _=>rfl)
 .obtain⟨c,q,p,rfl,k⟩:=dW k;cases Bn k;rw[dG rfl];exact yj zv λ_ _=>dB _
 .obtain⟨c,q,p,rfl,k⟩:=dW k;rfl
theorem N8(i:Bool):bZ Φ Ψ G (.bl i):=by
 refine .mk1 (λ{S X} d ex k R=>?_) (λ{S ex} b k a=>?_) (λS ex k=>by exact k) (λ_ _=>rfl)
 .obtain⟨c,q,p,rfl,k⟩:=dW k;cases Bn k;rw[dG rfl];exact yj MA λ_ _=>qF _
 .obtain⟨c,q,p,rfl,k⟩:=dW k;rfl
theorem Kn(i:Str):bZ Φ Ψ G (.str i):=by
 refine .mk1 (λ{S X} d ex k R=>?_) (λ{S ex} b k a=>?_) (λS ex k=>by exact k) (λ_ _=>rfl)
 .obtain⟨c,q,p,rfl,k⟩:=dW k;cases Bn k;rw[dG rfl];exact yj HR λ_ _=>ND _
 .obtain⟨c,q,p,rfl,k⟩:=dW k;rfl
theorem Ko:bZ Φ Ψ G .aJ:=by
 refine .mk1 (λ{S X} d ex k R=>?_) (λ{S ex} b k a=>?_) (λS ex k=>by exact k) (λ_ _=>rfl)
 .obtain⟨c,q,p,rfl,k⟩:=dW k;cases Bn k;rw[dG rfl];exact yj HQ λ_ _=>Rr
 .obtain⟨c,q,p,rfl,k⟩:=dW k;rfl
theorem Et{n:String}(h:tys.contains n=true):bootBuiltins (Str.ofString n)=some (.type n):=by
 have:n∈tys:=by simpa using h
 unfold tys at this;simp only[GE,WR,or_false]at this;rcases this with rfl|rfl|rfl|rfl|rfl|rfl<;>rfl
theorem Kp(n:String):bZ Φ Ψ G (.vG n):=by
 refine .mk1 (λ{S X} d ex k R=>?_) (λ{S ex} l k a=>?_) (λS ex k=>by exact k) (λ_ _=>rfl)
 .obtain⟨x,q,rfl,b⟩:=cM k
  replace k:=b
  simp only[Ap]at k;obtain⟨⟨⟨c,g⟩,f⟩,e⟩:=k;obtain⟨j,i,h⟩:=bG d g;have c:=Bn c;subst c;rw[dG rfl];exact yj (v:=.ty n) (CO j (d.sX _ (by simpa using f)) (Et e) rfl h i) λ_ _=>UI _
 .obtain⟨x,q,rfl,b⟩:=cM k
  replace k:=b
  rfl
theorem Eu(g:Nat):bZ Φ Ψ G (.glob g):=by
 refine .mk1 (λ{S X} c ex k R=>?_) (λ{S ex} m k a=>?_) (λS ex k=>by exact k) (λ_ _=>rfl)
 .obtain⟨x,q,rfl,b⟩:=cM k
  replace k:=b
  simp only[Ap]at k;obtain⟨e,d⟩:=k;obtain⟨l,j,n⟩:=bG c d;obtain⟨u,v,i,h,f⟩:=c.Es g _ (Pl.mp e);rw[dG rfl];exact yj (vn l i h j) f
 .obtain⟨x,q,rfl,b⟩:=cM k
  replace k:=b
  rfl
theorem uq{K:Frag}{B:Addr->Prop}{H H':Hp}{w:W}{v:V}(h:cD K B H H' .f w v):Jr w=true:=by obtain⟨a,p,b,rfl,_⟩:=h.Nv;rfl
theorem AY{S:SE}{a:CE}{l:Expr}(k:cW S a l=true)(z:jP Ψ a=true):False:=by cases a<;>first|exact ff k|exact ff z
theorem Kq(op:Operator){a b:CE}(L:bZ Φ Ψ G a)(J:bZ Φ Ψ G b):bZ Φ Ψ G (.bin op a b):=by
 refine .mk1 (λ{S X} n ex k R=>?_) (λ{S ex} T k s=>?_) (λS ex k=>by exact k) (λ_ _=>rfl)
 .obtain⟨l,o,r,t,rfl,u⟩:=jo k
  replace k:=u
  simp only[Ap]at k;obtain⟨⟨A,i⟩,g⟩:=k;have A:=Bn A;subst A;show VE X S.M R _ _ λI Q=>wE Φ G R a I λx=>wE Φ G R b I λy=>dJ op x y Q;have E:∀B H m w v,Dom B H->SN X.K B H m w v->aN X.K B m w v:=λ_ _ _ _ _ _ h=>h;have D:∀B H m w v,Dom B H->CH X.K .f B H m w v->aN X.K B m w v:=λ_ _ _ _ _ d h=>(cD.rep d h).b;have p:=L.b n i R;have j:=J.b n g R;have N:jP Ψ a=true->VE X S.M R .f l (wE Φ G R a):=λz=>by
   rcases dO i with i|i
   .have:=L.e n l i R;rw[iN z]at this;exact this
   .exact(AY i z).elim
  have P:jP Ψ b=true->VE X S.M R .f r (wE Φ G R b):=λz=>by
   rcases dO g with g|g
   .have:=J.e n r g R;rw[iN z]at this;exact this
   .exact(AY g z).elim
  cases op with
  |Add=>
   by_cases c:jP Ψ a=true
   .rw[iN (show jP Ψ (.bin .Add a b)=true by show(jP Ψ a||jP Ψ b)=true;rw[c];rfl)];exact ud (N c) j D E λ_ _ _ _ _ _ _ _ _ _ C _=>.inl ⟨rfl,.inl (uq C)⟩
   .by_cases q:jP Ψ b=true
    .rw[iN (show jP Ψ (.bin .Add a b)=true by show(jP Ψ a||jP Ψ b)=true;rw[q,Bool.or_true])];exact ud p (P q) E D λ_ _ _ _ _ _ _ _ _ _ _ O=>.inl ⟨rfl,.inr (uq O)⟩
    .rw[dG (show jP Ψ (.bin .Add a b)=false by show(jP Ψ a||jP Ψ b)=false;rw[Ta _|>.mp c,Ta _|>.mp q];rfl)];exact AD p j λ_ _=>.inr rfl
  |Mult=>
   by_cases c:jP Ψ a=true
   .rw[iN (show jP Ψ (.bin .Mult a b)=true from c)];exact ud (N c) j D E λ_ _ _ _ _ _ _ _ _ _ C _=>.inr ⟨rfl,uq C⟩
   .rw[dG (show jP Ψ (.bin .Mult a b)=false from Ta _|>.mp c)];exact AD p j λ_ _=>.inr rfl
  |_=>rw[dG rfl];exact AD p j λ_ _=>.inr rfl
 .obtain⟨l,o,r,t,rfl,u⟩:=jo k
  replace k:=u
  rfl
theorem Kr{a:CE}(e:bZ Φ Ψ G a):bZ Φ Ψ G (.neg a):=by
 refine .mk1 (λ{S X} f ex k R=>?_) (λ{S ex} g k b=>?_) (λS ex k=>by exact k) (λ_ _=>rfl)
 .obtain⟨o,x,c,rfl,d⟩:=jY k
  replace k:=d
  rw[Ap]at k;cases Bn k.1;rw[dG rfl];exact Jt (e.s f k.2 R)
 .obtain⟨o,x,c,rfl,d⟩:=jY k
  replace k:=d
  rw[Ap]at k;cases Bn k.1;rfl
theorem Ks{a:CE}(h:bZ Φ Ψ G a):bZ Φ Ψ G (.not a):=by
 have e:∀R,wE Φ G R (.not a)=λi Q=>wE Φ G R a i λx=>truth x λb=>Q (.bl (!b)):=λR=>rfl;have g:∀{S:SE}{X:Cx},XOk S Φ Ψ G X->∀ex,aB S false (.not a) ex=true->∀R,VE X S.M R (mo Ψ (.not a)) ex (wE Φ G R (.not a)):=λ{S X} c ex k R=>by
  obtain⟨o,x,d,rfl,f⟩:=jY k
  replace k:=f
  rw[Ap]at k;cases Bn k.1;rw[dG rfl,e];exact Ju (h.s c k.2 R)
 refine⟨g,λ{S X} c ex k j R=>?_,λ{S X} c m n ex k _ R=>?_⟩
 .obtain⟨o,x,d,rfl,f⟩:=jY k
  replace k:=f
  rw[Ap]at k;cases Bn k.1;rw[e];exact JA (h.t c _ k.2 (by exact j) R)
 .have l:cW S (.not a) ex=false:=rfl;rw[l,Qr,Pm]at k;exact dF (f7 (g c ex (by exact k) R))
theorem Ku(op:CmpOp){a b:CE}(n:bZ Φ Ψ G a)(m:bZ Φ Ψ G b):bZ Φ Ψ G (.cmp op a b):=by
 have e:∀R,wE Φ G R (.cmp op a b)=λg Q=>wE Φ G R a g λx=>wE Φ G R b g λy=>eO op x y Q:=λR=>rfl;have f:∀{S:SE}{X:Cx},XOk S Φ Ψ G X->∀ex,aB S false (.cmp op a b) ex=true->∀R,VE X S.M R .s ex (wE Φ G R (.cmp op a b))/\VT X S.M R ex (wE Φ G R (.cmp op a b)):=λ{S X} c ex k R=>by
  obtain⟨l,o,r,p,rfl,q⟩:=nQ k
  replace k:=q
  simp only[Ap,Wu]at k;obtain⟨⟨⟨⟨d,u⟩,t⟩,i⟩,h⟩:=k;have d:=Bn d;subst d;have j:=tF r (op:=op) (SU u) (SU t);rw[e];exact⟨Jv c.un j (n.b c i R) (m.b c h R),Jw c.un j (n.b c i R) (m.b c h R)⟩
 refine⟨λc ex k R=>by rw[dG rfl];exact(f c ex k R).1,λc ex k _ R=>(f c ex k R).2,λ{S X} c w z ex k _ R=>?_⟩;have v:cW S (.cmp op a b) ex=false:=rfl;rw[v,Qr,Pm]at k;exact dF (f7 (f c ex (by exact k) R).1)
theorem Ew(p q:CmpOp){a b c:CE}(H:bZ Φ Ψ G a)(E:bZ Φ Ψ G b)(D:bZ Φ Ψ G c):bZ Φ Ψ G (.kT p q a b c):=by
 have e:∀R,wE Φ G R (.kT p q a b c)=λi Q=>wE Φ G R a i λx=>wE Φ G R b i λy=>dN p x y λz=>truth z λk=>if k=true then wE Φ G R c i λu=>dN q y u Q else Q (.bl false):=λR=>rfl
 have n:∀{S:SE}{X:Cx},XOk S Φ Ψ G X->∀ex,aB S false (.kT p q a b c) ex=true->∀R,VE X S.M R .s ex (wE Φ G R (.kT p q a b c))/\VT X S.M R ex (wE Φ G R (.kT p q a b c)):=λ{S X} d ex k R=>by
  obtain⟨l,o,P,r,t,I,rfl,J⟩:=yp k
  replace k:=J
  simp only[Ap]at k;obtain⟨⟨⟨⟨⟨⟨m,j⟩,L⟩,K⟩,A⟩,w⟩,v⟩:=k;have m:=Bn m;have j:=Bn j;subst m j;obtain⟨f,C⟩:=QR.mp L;obtain⟨g,h⟩:=QR.mp K;have B:lastMarks [p,q] [r,t]=false:=by
   show behindInMarks q t=false;refine tF t ?_ ?_
   .rintro rfl;cases h
   .rintro rfl;cases h
  rw[e];exact⟨DW C h (H.s d A R) (E.s d w R) (D.s d v R) B,DX C h (H.s d A R) (E.s d w R) (D.s d v R) B⟩
 refine⟨λd ex k R=>by rw[dG rfl];exact(n d ex k R).1,λd ex k _ R=>(n d ex k R).2,λ{S X} d O T ex k _ R=>?_⟩;have N:cW S (.kT p q a b c) ex=false:=rfl;rw[N,Qr,Pm]at k;exact dF (f7 (n d ex (by exact k) R).1)
theorem gq{a:List Expr}(h:(!a.isEmpty)=true):a≠[]:=by rintro rfl;cases h
theorem Kv{b:List CE}(g:mR Φ Ψ G b):bZ Φ Ψ G (.and b):=by
 have e:∀R,wE Φ G R (.and b)=xx Φ G R b:=λR=>rfl;have f:∀{S:SE}{X:Cx},XOk S Φ Ψ G X->∀ex,aB S false (.and b) ex=true->∀R,VE X S.M R .s ex (wE Φ G R (.and b)):=λ{S X} a ex k R=>by
  obtain⟨o,j,c,rfl,d⟩:=jZ k
  replace k:=d
  rw[Ap,Ap]at k;cases Bn k.1.1;rw[e];exact g.av a _ _ (gq k.1.2) k.2 R
 refine⟨λa ex k R=>by rw[dG rfl];exact f a ex k R,λ{S X} a ex k h R=>?_,λ{S X} a l m ex k _ R=>?_⟩
 .obtain⟨o,j,c,rfl,d⟩:=jZ k
  replace k:=d
  rw[Ap,Ap]at k;cases Bn k.1.1;rw[e];exact(g.at a _ _ (gq k.1.2) k.2 (by exact h) R).pt
 .have i:cW S (.and b) ex=false:=rfl;rw[i,Qr,Pm]at k;exact dF (f7 (f a ex (by exact k) R))
theorem Oa{b:List CE}(g:mR Φ Ψ G b):bZ Φ Ψ G (.or b):=by
 have e:∀R,wE Φ G R (.or b)=LQ Φ G R b:=λR=>rfl;have f:∀{S:SE}{X:Cx},XOk S Φ Ψ G X->∀ex,aB S false (.or b) ex=true->∀R,VE X S.M R .s ex (wE Φ G R (.or b)):=λ{S X} a ex k R=>by
  obtain⟨o,j,c,rfl,d⟩:=jZ k
  replace k:=d
  rw[Ap,Ap]at k;cases Bn k.1.1;rw[e];exact g.ov a _ _ (gq k.1.2) k.2 R
 refine⟨λa ex k R=>by rw[dG rfl];exact f a ex k R,λ{S X} a ex k h R=>?_,λ{S X} a l m ex k _ R=>?_⟩
 .obtain⟨o,j,c,rfl,d⟩:=jZ k
  replace k:=d
  rw[Ap,Ap]at k;cases Bn k.1.1;rw[e];exact(g.ot a _ _ (gq k.1.2) k.2 (by exact h) R).pt
 .have i:cW S (.or b) ex=false:=rfl;rw[i,Qr,Pm]at k;exact dF (f7 (f a ex (by exact k) R))
theorem Ob{X:Cx}{M:Ms}{R:Addr->Prop}{m:Md}{e:Expr}{t:WT}{c:CE}(h:VE X M R m e t)(a:mo Ψ c=m\/mo Ψ c=.s):VE X M R (mo Ψ c) e t:=by
 rcases a with z|z
 .rw[z];exact h
 .rw[z];exact yi h
theorem Kw{e:List CE}(f:mR Φ Ψ G e):bZ Φ Ψ G (.tup e):=by
 refine .mk1 (λ{S X} g ex k R=>?_) (λ{S ex} h k b=>?_) (λS ex k=>by exact k) (λ_ _=>rfl)
 .obtain⟨d,q,p,rfl,c⟩:=cU k;rw[dG rfl];exact JD (f.a g d c R)
 .obtain⟨d,q,p,rfl,c⟩:=cU k;rfl
theorem Ky{e:List CE}(f:mR Φ Ψ G e):bZ Φ Ψ G (.lst e):=by
 refine .mk1 (λ{S X} g ex k R=>?_) (λ{S ex} h k b=>?_) (λS ex k=>by exact k) (λ_ _=>rfl)
 .obtain⟨d,p,rfl,c⟩:=lD k;rw[iN rfl];exact JC (f.a g d c R)
 .obtain⟨d,p,rfl,c⟩:=lD k;rfl
theorem Oc{a i:CE}(g:bZ Φ Ψ G a)(f:bZ Φ Ψ G i):bZ Φ Ψ G (.ix a i):=by
 refine .mk1 (λ{S X} e ex k R=>?_) (λ{S ex} h k d=>?_) (λS ex k=>by exact k) (λ_ _=>rfl)
 .obtain⟨v,s,p,rfl,c⟩:=cV k;simp only[Ap]at c;rw[dG rfl];exact NN (pJ c.1.1) (g.b e c.1.2 R) (f.s e c.2 R)
 .obtain⟨v,s,p,rfl,c⟩:=cV k;rfl
theorem GR{a:CE}(d:bZ Φ Ψ G a){S:SE}{X:Cx}(f:XOk S Φ Ψ G X){l:Option Expr}(k:Kg (iH a) (λx=>aB S false a x) l=true)(R:Addr->Prop):PO X l (NO X S.M R λb Q=>wE Φ G R a b λy=>DM a y Q):=by
 cases l with
 |none=>
  have z:iH a=true:=k;cases a with
  |aJ=>exact D4
  |_=>exact ff z
 |some x=>
  have k:(!iH a&&aB S false a x)=true:=k;rw[Ap]at k;have e:(λ(b:Ev)(Q:Option Int->Prop)=>wE Φ G R a b λy=>DM a y Q)=λb Q=>wE Φ G R a b λy=>match y with|.int i=>Q (some i)|_=>False:=by
   have c:iH a=false:=by simpa using k.1
   unfold DM;rw[c];funext b Q;congr 1;funext y;cases y<;>rfl
  rw[e];exact D5 (d.s f k.2 R)
theorem Oe{a f g:CE}(j:bZ Φ Ψ G a)(h:bZ Φ Ψ G f)(i:bZ Φ Ψ G g):bZ Φ Ψ G (.sl a f g):=by
 refine .mk1 (λ{S X} e ex k R=>?_) (λ{S ex} m k d=>?_) (λS ex k=>by exact k) (λ_ _=>rfl)
 .obtain⟨v,l,r,q,p,rfl,c⟩:=vZ k;simp only[Ap]at c;rw[iN rfl];exact NP (j.b e c.1.1 R) (GR h e c.1.2 R) (GR i e c.2 R)
 .obtain⟨v,l,r,q,p,rfl,c⟩:=vZ k;rfl
theorem Kz{a st:CE}(g:bZ Φ Ψ G a)(f:bZ Φ Ψ G st):bZ Φ Ψ G (.Jh a st):=by
 refine .mk1 (λ{S X} e ex k R=>?_) (λ{S ex} h k d=>?_) (λS ex k=>by exact k) (λ_ _=>rfl)
 .obtain⟨v,t,q,p,rfl,c⟩:=wc k;rw[Ap]at c;rw[iN rfl];exact JE (g.b e c.1 R) (f.s e c.2 R)
 .obtain⟨v,t,q,p,rfl,c⟩:=wc k;rfl
theorem Ex(f:Nat){m:List CE}(C:mR Φ Ψ G m):bZ Φ Ψ G (.call f m):=by
 refine .mk1 (λ{S X} b ex k R=>?_) (λ{S ex} I k c=>?_) (λS ex k=>by exact k) (λ_ _=>rfl)
 .obtain⟨x,q,l,p,rfl,g⟩:=aH k;simp only[Ap]at g;obtain⟨⟨⟨⟨⟨v,u⟩,t⟩,i⟩,s⟩,o⟩:=g;obtain⟨E,D,J⟩:=bG b u;obtain⟨H,n,r,B,F,y,A⟩:=b.fns f x (Pl.mp v) (by simpa using s);have F:cT X.prog X.w X.K X.mg X.base r H n (vS X.K n (Ψ f) (Φ f)):=by rw[<-b.Er]at i;cases j:Ψ f<;>rw[j]at i F<;>first|exact F|exact ff i
  have d:=jq o;cases l with
  |nil=>exact ff t
  |cons e l=>
   rw[Gg,Ap]at d;have h:=vU (M:=S.M) (R:=R) (p:=q) (pos:=p) F y E B A (C.a b _ o R) D (aD d.1 _ _) (cu d.2 _ _);refine Ob h ?_;by_cases z:jP Ψ (.call f m)=true
   .rw[iN z];left;have z:(match Ψ f with|.f=>true|_=>false)=true:=z;cases j:Ψ f<;>rw[j]at z<;>first|rfl|exact ff z
   .exact .inr (dG (by simpa using z))
 .obtain⟨x,q,l,p,rfl,g⟩:=aH k;rfl
theorem r9{X:Cx}(c:X.calm=true):∀b:BI,b≠.sU->(∃a,bootBuiltins (P4 b)=some (.builtin a)/\bK X (.builtin a) (JF X.K b))\/(∃a,bootBuiltins (P4 b)=some (.type a)/\bK X (.type a) (JF X.K b))
 |.len,_=>.inl ⟨"len",rfl,cw_len.r⟩
 |.abs,_=>.inl ⟨"abs",rfl,cw_abs.r⟩
 |.max2,_=>.inl ⟨"max",rfl,(cw_max c).r⟩
 |.min2,_=>.inl ⟨"min",rfl,(cw_min c).r⟩
 |.sum,_=>.inl ⟨"sum",rfl,(cw_sum c).r⟩
 |.all,_=>.inl ⟨"all",rfl,(cw_all c).r⟩
 |.list,_=>.inr ⟨"list",rfl,cw_list.r⟩
 |.tuple,_=>.inr ⟨"tuple",rfl,cw_tuple.r⟩
 |.int,_=>.inr ⟨"int",rfl,cw_int.r⟩
 |.PV,_=>.inl ⟨"divmod",rfl,cw_dvm.r⟩
 |.any,_=>.inl ⟨"any",rfl,(cw_any c).r⟩
 |.sU,h=>absurd rfl h
theorem c9{S:SE}{a:CE}{c:List CE}{b:List Expr}(k:dY S (a::c) b=true):∃e r,b=e::r/\aB S false a e=true/\dY S c r=true:=by
 cases b with
 |nil=>exact ff k
 |cons e r=>exact⟨e,r,rfl,a2 k⟩
theorem lI{S:SE}{a:List Expr}(k:dY S [] a=true):a=[]:=Hb.mp k
theorem ur{S:SE}{a:CE}{c:List CE}{b:List Expr}(k:jI S (a::c) b=true):∃e r,b=e::r/\(aB S false a e||cW S a e)=true/\jI S c r=true:=by
 cases b with
 |nil=>exact ff k
 |cons e r=>exact⟨e,r,rfl,a2 k⟩
theorem yr{S:SE}{a:List Expr}(k:jI S [] a=true):a=[]:=Hb.mp k
theorem KA(b:BI){i:List CE}(J:mR Φ Ψ G i)(g:∀c∈i,bZ Φ Ψ G c):bZ Φ Ψ G (.blt b i):=by
 refine .mk1 (λ{S X} h ex k R=>?_) (λ{S ex} env k t=>?_) (λS ex k=>by exact k) (λ_ _=>rfl)
 .obtain⟨x,q,C,p,rfl,l⟩:=aH k;simp only[Ap]at l;obtain⟨⟨⟨⟨⟨m,Q⟩,P⟩,O⟩,E⟩,s⟩:=l;have m:=Bn m;obtain⟨B,A,w⟩:=bG h Q;have hz:=h.sX x (by simpa using P);have f:=lG s;cases C with
  |nil=>cases b<;>exact ff O
  |cons e C=>
   rw[Gg,Ap]at f;by_cases I:b=.sU
   .subst I;rw[dG rfl];rcases i with _|⟨a,_|⟨c,_|⟨d,i⟩⟩⟩<;>try exact ff E
    obtain⟨n,H⟩:=QR.mp E;have ec:c=.vG n:=by cases c<;>first|(cases H;rfl)|exact nn H
    subst ec;obtain⟨N,L⟩:=a2 s;obtain⟨e2,r,rfl,D,Ey⟩:=ur L;cases yr Ey;have j:=f.2;rw[Gg,Ap]at j;have K:aB S false (.vG n) e2=true:=by
     rcases dO D with z|z
     .exact z
     .exact ff z
    have u:n∈["int","bool","tuple","list","str","dict"]:=by obtain⟨y,q2,rfl,l⟩:=cM K;have:=(a2 l).2;unfold tys at this;exact Tv.mp this
    have Z:=(g a FC).b h N R;have Y:=(g (.vG n) (FK _ FC)).b h D R;have o:bootBuiltins x=some (.builtin "isinstance"):=by rw[m];rfl
    exact JI (M:=S.M) (R:=R) (p:=q) (pos:=p) h.kit u B hz o Z Y w A (aD f.1 _ _) (aD j.1 _ _) (cu f.2 _ _)
   .have U:mo Ψ (.blt b i)=NQ b:=by
     cases b<;>first|rfl|exact dG rfl|exact iN rfl
    rw[U];rcases r9 h.calm b I with⟨T,o,v⟩|⟨T,o,v⟩
    .exact JG v B hz (by rw[m];exact o) (J.b h _ s R) w A (aD f.1 _ _) (cu f.2 _ _)
    .exact JH v B hz (by rw[m];exact o) (J.b h _ s R) w A (aD f.1 _ _) (cu f.2 _ _)
 .obtain⟨x,q,C,p,rfl,l⟩:=aH k;rfl
theorem KC{K:Frag}{B b:Addr->Prop}{H:Hp}{w:W}{v:V}(a:Ji w=true)(r:Rep K B H w v):Rep K b H w v:=by
 cases w<;>first|(dsimp only[Rep]at r⊢;exact r)|exact ff a
theorem gc{S:SE}{a:List Nat}:∀x∈(S.lend a).M,x∈S.M:=λx b=>(Re.mp b).1
theorem KD(c:List Nat){a:CE}(u:bZ Φ Ψ G a):bZ Φ Ψ G (.vH c a):=by
 have x:∀R,wE Φ G R (.vH c a)=λd Q=>wE Φ G R a d λw=>Ji w=true/\Q w:=λR=>rfl;have q:∀{S:SE}{X:Cx},XOk S Φ Ψ G X->∀ex,aB S false (.vH c a) ex=true->∀R,VE X S.M R .s ex (wE Φ G R (.vH c a)):=λ{S X} b ex k R=>by have k:=a2 k;have g:XOk (S.lend c) Φ Ψ G X:=⟨b.hN,b.nd,b.calm,b.un,b.nk,b.fns,b.GP,b.Er,b.Es,b.sX,b.kit⟩;rw[x];refine PE.imp (u.s g k.2 R) ?_;rintro y H Q ⟨A,n,d,P,m,j,h,i⟩;obtain⟨p,D,E,C,l⟩:=m.sub (M':=(S.lend c).M) gc none (λv e=>by cases e);exact⟨p,n,d,_,l,j,h,λw v o f s r=>i w v o f.2 s (.of (KC f.1 r.aZ))⟩
 refine⟨λ{S X} b ex k R=>by rw[dG rfl];exact q b ex k R,λ{S X} b ex k z R=>?_,λ{S X} b I J ex k _ R=>?_⟩
 .have k:=a2 k;have g:XOk (S.lend c) Φ Ψ G X:=⟨b.hN,b.nd,b.calm,b.un,b.nk,b.fns,b.GP,b.Er,b.Es,b.sX,b.kit⟩;rw[x];refine PT.imp (u.t g ex k.2 z R) ?_;rintro y H Q ⟨A,n,d,P,m,j,h,i⟩;obtain⟨p,D,E,C,l⟩:=m.sub (M':=(S.lend c).M) gc none (λv e=>by cases e);exact⟨p,n,d,_,l,j,h,λw o f s=>i w o f.2 s⟩
 .have B:cW S (.vH c a) ex=false:=rfl;rw[B,Qr,Pm]at k;exact dF (f7 (q b ex (by exact k) R))
theorem KG(i:Nat):bZ Φ Ψ G (.pop i):=.mk1 (λc ex k R=>by cases k) (λb k a=>by cases k) (λS ex k=>by cases k) (λ_ _=>rfl)
theorem KH{o:List CE}(h:∀c∈o,bZ Φ Ψ G c):bZ Φ Ψ G (.gJ o):=by
 refine⟨λ{S X} i ex k R=>?_,λ{S X} i ex k _ R=>?_,λ{S X} i tg br ex k _ R=>?_⟩
 .obtain⟨x,q,z,p,rfl,l⟩:=aH k;simp at l
 .obtain⟨x,q,z,p,rfl,l⟩:=aH k;simp at l
 .have D:cW S (.gJ o) ex=false:=rfl;rw[D,Qr,Pm]at k;obtain⟨x,q,z,p,rfl,l⟩:=aH k;simp only[Ap]at l;obtain⟨⟨⟨⟨⟨_,v⟩,C⟩,B⟩,y⟩,u⟩:=l;have v:=Bn v;subst v;obtain⟨w,I,H⟩:=bG i C;have hz:=i.sX _ (by simpa using B);rcases o with _|⟨a,_|⟨b,_|⟨c,_|⟨d,o⟩⟩⟩⟩
  .simp at y
  .obtain⟨e,r,rfl,j,n⟩:=c9 u;cases lI n;exact D8 (M:=S.M) (R:=R) (br:=br) (tg:=tg) (p:=q) (pos:=p) w hz ((h a FC).s i j R) (aD (aU (.inl j)) _ _)
  .obtain⟨e,r,rfl,j,n⟩:=c9 u;obtain⟨f,r,rfl,m,t⟩:=c9 n;cases lI t;exact D9 (M:=S.M) (R:=R) (br:=br) (tg:=tg) (p:=q) (pos:=p) w hz ((h a (by simp)).s i j R) ((h b (by simp)).s i m R) (aD (aU (.inl j)) _ _) (aD (aU (.inl m)) _ _)
  .obtain⟨e,r,rfl,j,n⟩:=c9 u;obtain⟨f,r,rfl,m,t⟩:=c9 n;obtain⟨g,r,rfl,A,E⟩:=c9 t;cases lI E;exact Ec (M:=S.M) (R:=R) (br:=br) (tg:=tg) (p:=q) (pos:=p) w hz ((h a (by simp)).s i j R) ((h b (by simp)).s i m R) ((h c (by simp)).s i A R) (aD (aU (.inl j)) _ _) (aD (aU (.inl m)) _ _) (aD (aU (.inl A)) _ _)
  .simp at y
theorem iO{f:Expr->Bool}{a:List Expr}(h:r8 f a=true):∃e,a=[e]/\f e=true:=dX h
theorem KI{a:CE}(n:bZ Φ Ψ G a):bZ Φ Ψ G (.oX a):=by
 refine⟨λ{S X} c ex k R=>?_,λ{S X} c ex k _ R=>?_,λ{S X} c s v ex k m R=>?_⟩
 .obtain⟨x,q,g,p,rfl,b⟩:=aH k;simp at b
 .obtain⟨x,q,g,p,rfl,b⟩:=aH k;simp at b
 .have l:cW S (.oX a) ex=false:=rfl;rw[l,Qr,Pm]at k;obtain⟨x,q,g,p,rfl,b⟩:=aH k;simp only[Ap]at b;obtain⟨⟨⟨⟨_,f⟩,j⟩,i⟩,d⟩:=b;have f:=Bn f;subst f;obtain⟨e,rfl,d⟩:=iO d;obtain⟨o,u,t⟩:=bG c j;obtain⟨h,b,r,rfl⟩:=m rfl;exact JL o (c.sX _ (by simpa using i)) (f7 (n.e c e d R)) (aD (aU (.inl d)) _ _)
theorem KJ{a:CE}(s:bZ Φ Ψ G a):bZ Φ Ψ G (.rev a):=by
 have r:∀{S:SE}{X:Cx},XOk S Φ Ψ G X->∀ex,aB S false (.rev a) ex=true->∀R,VE X S.M R (mo Ψ (.rev a)) ex (wE Φ G R (.rev a)):=λ{S X} d ex k R=>by obtain⟨x,q,h,p,rfl,c⟩:=aH k;have c:(decide (x=("list":Str))&&gC S x&&S.zn.contains x&&r8 (λv=>gG (λy h=>decide (y=("reversed":Str))&&gC S y&&S.zn.contains y&&r8 (λu=>aB S false a u||cW S a u) h) v) h)=true:=c;simp only[Ap]at c;obtain⟨⟨⟨g,n⟩,m⟩,l⟩:=c;clear k c;have g:=Bn g;subst g;obtain⟨e,rfl,l⟩:=iO l;obtain⟨y,E,h,H,rfl,c⟩:=aH l;simp only[Ap]at c;obtain⟨⟨⟨f,w⟩,t⟩,i⟩:=c;have f:=Bn f;subst f;obtain⟨u,rfl,i⟩:=iO i;obtain⟨o,C,B⟩:=bG d n;obtain⟨A,K,J⟩:=bG d w;rw[iN rfl];exact D7 d.calm o (d.sX _ (by simpa using m)) A (d.sX _ (by simpa using t)) (s.b d i R) (aD (aU (dO i)) _ _)
 refine⟨r,λ{S X} d ex k _ R=>pH (λj=>?_) (yi (r d ex k R)),λ{S X} d D L ex k I R=>?_⟩
 .obtain⟨x,q,h,p,rfl,c⟩:=aH k;rfl
 .have z:cW S (.rev a) ex=false:=rfl;rw[z,Qr,Pm]at k;obtain⟨x,q,h,p,rfl,c⟩:=aH k;have c:(decide (x=("reversed":Str))&&gC S x&&S.zn.contains x&&r8 (λv=>aB S false a v) h)=true:=c;simp only[Ap]at c;obtain⟨⟨⟨g,n⟩,m⟩,f⟩:=c;have g:=Bn g;subst g;obtain⟨e,rfl,f⟩:=iO f;obtain⟨o,C,B⟩:=bG d n;exact JM o (d.sX _ (by simpa using m)) (f7 (s.e d e f R)) (aD (aU (.inl f)) _ _)
theorem lJ{f:NameKind->NameKind}:∀(l:List (Str×NameKind))(y:Str),(l.map λp=>(p.1,f p.2)).lookup y=(l.lookup y).map f
 |[],_=>rfl
 |(n,k)::r,y=>by
  rw[P3,G2,G2];by_cases e:(y==n)=true
  .rw[e];rfl
  .rw[Ta]at e;rw[e];exact lJ r y
theorem pL{sc a b:Scope}{N d c:List Str}(h:∀x,a.names.lookup x=b.names.lookup x):cK sc a N d c=cK sc b N d c:=by unfold cK;simp only[h]
theorem Ez{S:SE}{X:Cx}(a:XOk S Φ Ψ G X){scope:Scope}{b:List Str}(g:cK scope X.env.scope X.N (mask b S.N) b=true)(h:(b++mask b S.N).Nodup){c:List (Addr×Obj)}{d:St}{H:Hp}{s:Shared}(I:Inv X c d H s)(C:Addr)(e:Shared)(j:Hp)(i:List Addr):
 XOk (S.comp scope b) Φ Ψ G (aI X scope C b (mask b S.N) e j i):=by
 refine⟨rfl,h,a.calm,a.un,λx=>?_,a.fns,a.GP,a.Er,a.Es,a.sX,a.kit⟩;show(relabel scope X.env).names.lookup x=_;rw[eN I (dS.of g)];show _=(scope.names.map λp=>(p.1,if p.2=.free then NameKind.cell else p.2)).lookup x;rw[lJ (f:=λk=>if k=.free then NameKind.cell else k)]
noncomputable def dZ(X:Cx)(i:Nat)(x:Str):Prop:=X.N[i]?=some x/\Loc X.env.scope x/\(X.fn x=true\/X.env.scope.names.lookup x=some .local)
noncomputable def cP(X:Cx):List Nat->List Str->Prop
 |[],a=>a=[]
 |i::b,a=>∃x r,a=x::r/\dZ X i x/\cP X b r
theorem GS{X:Cx}(a:X.N.Nodup){i:Nat}{x:Str}{p:Pos}(h:dZ X i x):PG X (.Name x p) (fT i):=CV a h.1 h.2.1 h.2.2
theorem AZ{X:Cx}(f:X.N.Nodup):∀(a:List Expr)(c:List Str)(b:List Nat),AU a=some c->cP X b c->MI X a (NS b)/\(assignEach a X.env).length=b.length/\(assignEach a X.env).findIdx? (·.1)=none
 |[],c,b,h,k=>by
  cases h;cases b with
  |nil=>exact⟨CW,rfl,rfl⟩
  |cons i d=>obtain⟨x,r,e,_⟩:=k;cases e
 |e::a,c,b,h,k=>by
  cases e with
  |Name x p=>
   obtain⟨l,n,rfl⟩:=IR.mp h;cases b with
   |nil=>cases k
   |cons i d=>obtain⟨s,r,e,q,o⟩:=k;cases e;obtain⟨m,j,g⟩:=AZ f a l d n o;have e:assignEach (.Name x p::a) X.env=(false,assign (.Name x p) X.env)::assignEach a X.env:=rfl;refine⟨zA (GS f q) m rfl,by rw[e,Eb,j,Eb],?_⟩;rw[e,List.findIdx?_cons,g];rfl
  |_=>exact nn h
theorem KL{X:Cx}(q:X.calm=true)(c:X.N.Nodup){tg:Expr}{one:Bool}{b:List Str}{a:List Nat}(h:N4 tg=some (one,b))(k:cP X a b):PG X tg (gT X.K one a):=by
 cases tg with
 |Name x p=>
  cases h
  match a,k with
  |[i],k=>obtain⟨g,r,e,f,d⟩:=k;cases e;exact GS c f
  |[],k=>cases k
  |_::_::_,k=>obtain⟨g,r,e,f,d⟩:=k;cases e;obtain⟨u,v,t,_⟩:=d;cases t
 |Tuple s w p=>
  dsimp only[N4]at h;obtain⟨l,o,e⟩:=IR.mp h;cases e;obtain⟨n,m,j⟩:=AZ c s b a o k;have:gT X.K false a=Ic X.K a.length (NS a):=by cases a<;>rfl
  rw[this];exact Ie q n m j
 |_=>exact nn h
theorem jJ{X:Cx}:∀(a:List Str)(n:Nat),(∀k x,a[k]?=some x->dZ X (n+k) x)->cP X ((Ea a.length).map (n+·)) a
 |[],n,_=>rfl
 |x::a,n,h=>by
  rw[Eb,WI,P3];refine⟨x,a,rfl,h 0 x rfl,?_⟩;have:=jJ a (n+1) λk y b=>by have:=h (k+1) y (by simpa using b);rw[show n+1+k=n+(k+1) by lia];exact this
  rw[W9];have e:(Ea a.length).map (n+1+·)=(Ea a.length).map ((n+·)∘Xg):=Pv λk _=>by show n+1+k=n+(k+1);lia
  rw[<-e];exact this
theorem sd{a:Expr}(h:uo a=true)(env:Env)(x:Value):foldedSetIterable a env x=pure x:=by
 cases a<;>first|rfl|exact ff h
theorem wg{d:List Nat}{one:Bool}{n:Nat}{i c x:CE}{R:Addr->Prop}:wE Φ G R (.comp d one n i c x)=λb Q=>wE Φ G R i b λz=>items z λf=>jO (λw K=>wT one d w (Dg n none++b) λa=>wE Φ G (λ_=>False) c a λe=>truth e λk=>if k=true then wE Φ G (λ_=>False) x a λy=>K (some y)else K none) f [] λl=>Q (.lst l):=rfl
theorem yt{S:SE}{X:Cx}(A:XOk S Φ Ψ G X){q:List Nat}{one:Bool}{n:Nat}{en:Bool}{L:Expr->Bool}{M:SE->List Expr->Bool}{J:SE->Expr->Bool}{l tg c:Expr}{i:List Expr}{scope:Scope}(f:lE S q one n en L M J l tg c i scope=true):
 ∃a,n=a.length/\(∀j∈q,j<a.length)/\cK scope X.env.scope X.N (mask a S.N) a=true/\(∀z,foldedSetIterable c X.env z=pure z)/\(en=true->∃P k p,tg=Expr.Tuple P k p)/\L c=true/\M (S.comp scope a) i=true/\J (S.comp scope a) l=true/\
  ∀d s B H,Inv X d B H s->∀C e h g,PG (aI X scope C a (mask a S.N) e h g) tg (gT X.K one q)/\XOk (S.comp scope a) Φ Ψ G (aI X scope C a (mask a S.N) e h g):=by
 unfold lE at f;split at f;rotate_left
 .cases f
 rename_i o a KN
 simp only[Ap]at f;obtain⟨⟨⟨⟨⟨⟨⟨⟨⟨u,t⟩,r⟩,Y⟩,U⟩,T⟩,E⟩,R⟩,Q⟩,Ey⟩:=f;have u:=Pl.mp u;have t:=Pl.mp t;have r:=Pl.mp r;subst u t r;have x:=Bn U;have w:cK scope X.env.scope X.N (mask a S.N) a=true:=by rw[A.hN,pL (b:=S.sc) λy=>A.nk y];exact Y
 have O:=dS.of w;refine⟨a,rfl,λj hj=>Kb.mp hj,w,sd T _,λz=>?_,R,Q,Ey,λd s B H I C e h g=>?_⟩
 .have:one=false:=by rw[z]at E;simpa using E
  subst this;cases tg with
  |Tuple P f p=>exact⟨_,_,_,rfl⟩
  |Name y p=>cases KN
  |_=>exact nn KN
 .have m:=Ez A w x I C e h g;refine⟨KL m.calm m.nd KN ?_,m⟩;have:=jJ (X:=aI X scope C a (mask a S.N) e h g) a 0 λk y v=>?_
  .simpa using this
  .have Z:y∈a:=On v;have D:(aI X scope C a (mask a S.N) e h g).env.scope.names.lookup y=some .local:=by show(relabel scope X.env).names.lookup y=_;rw[eN I O,(O.own y Z).1];rfl
   refine⟨?_,.inl D,.inr D⟩;show(a++mask a S.N)[0+k]?=some y;rw[Sy,N0 (Fh.mp v).1];exact v
theorem lK{O:List Nat}{one:Bool}{n:Nat}{i c x:CE}(hi:bZ Φ Ψ G i)(hc:bZ Φ Ψ G c)(hx:bZ Φ Ψ G x){S:SE}{X:Cx}(hX:XOk S Φ Ψ G X){ex:Expr}(k:aB S false (.comp O one n i c x) ex=true)(R:Addr->Prop):
 ∃B tg a y scope p d,ex=.ListComp B [⟨tg,a,y,0⟩] scope p/\n=d.length/\(∀j∈O,j<d.length)/\cK scope X.env.scope X.N (mask d S.N) d=true/\(∀z,foldedSetIterable a X.env z=pure z)/\PI X tg a (AF X S.M R true (wE Φ G R i))/\
  ∀g s D H,Inv X g D H s->(∀C o l u,PG (aI X scope C d (mask d S.N) o l u) tg (gT X.K one O))/\(∀C o l u,PF (aI X scope C d (mask d S.N) o l u) y (Ry X.K (up S.M d.length) (wE Φ G (λ_=>False) c)))/\
   ∀C o l u,(XOk (S.comp scope d) Φ Ψ G (aI X scope C d (mask d S.N) o l u)/\aB (S.comp scope d) false x B=true)/\PE (aI X scope C d (mask d S.N) o l u) B (Rx X.K (up S.M d.length) (wE Φ G (λ_=>False) x)):=by
 obtain⟨B,tg,a,y,scope,p,rfl,kk⟩:=nR k;obtain⟨d,rfl,U,ho,Y,Z,k8,m,Ey,T⟩:=yt hX kk;refine⟨B,tg,a,y,scope,p,d,rfl,rfl,U,ho,Y,hi.i hX tg true a (by rw[Wj];exact k8) Z R,λg s D H I=>⟨λC o l u=>(T g s D H I C o l u).1,λC o l u=>?_,λC o l u=>?_⟩⟩
 .have J:=(T g s D H I C o l u).2
  match y,m with
  |[],m=>
   have m:GO c=true:=m;cases c with
   |bl b=>have:b=true:=m;subst this;refine PF.imp IX ?_;rintro D H Q ⟨A,l,E,P,L,h,k⟩;obtain⟨b,e,q⟩:=k _ H h (au.refl H);cases e;exact q
   |_=>exact ff m
  |[f],m=>have m:(aB (S.comp scope d) false c f&&CI c)=true:=m;rw[Ap]at m;exact PF.imp (IY (hc.t J f m.1 m.2 λ_=>False))<|by rintro D H Q ⟨A,l,E,P,L,h,k⟩;exact⟨A,l,E,P,L,.none,h,k⟩
  |_::_::_,m=>exact ff m
 .have J:=(T g s D H I C o l u).2;refine⟨⟨J,Ey⟩,?_⟩;exact PE.imp (hx.s J Ey λ_=>False)<|by rintro D H Q ⟨A,l,E,P,L,h,k⟩;exact⟨A,l,E,P,L,.none,h,λw v H' pw s r=>k w v H' pw s r.aZ⟩
theorem EA(o:List Nat)(one:Bool)(n:Nat){i c x:CE}(B:bZ Φ Ψ G i)(D:bZ Φ Ψ G c)(w:bZ Φ Ψ G x):bZ Φ Ψ G (.comp o one n i c x):=by
 refine .mk1 (λ{S X} m ex k R=>?_) (λ{S ex} J k e=>?_) (λS ex k=>by exact k) (λ_ _=>rfl)
 .obtain⟨j,q,d,f,b,p,M,rfl,rfl,g,A,h,K,z⟩:=lK B D w m k R;rw[iN rfl];rw[wg];intro a s l H Q I y;obtain⟨v,u,t⟩:=z a s l H I;exact Ed m.calm A g K v u (λC r L E=>(t C r L E).2) h a s l H Q I y
 .obtain⟨j,q,d,f,b,p,rfl,N⟩:=nR k;rfl
theorem KO:mR Φ Ψ G []:=by
 have en:∀{S:SE}{a:List Expr},dY S [] a=true->a=[]:=λ{S a} h=>by exact Hb.mp h
 have e:∀{S:SE}{a:List Expr},jI S [] a=true->a=[]:=λ{S a} h=>by exact Hb.mp h
 refine⟨λd a k R=>?_,λd a k R=>?_,λd a b c k R=>absurd (en k) c,λd a b c k R=>absurd (en k) c,λd a b c k _ R=>absurd (en k) c,λd a b c k _ R=>absurd (en k) c⟩
 .rw[en k];exact JB
 .rw[e k];exact D3
theorem EB{a:CE}{m:List CE}(l:bZ Φ Ψ G a)(o:mR Φ Ψ G m):mR Φ Ψ G (a::m):=by
 have p:∀{S:SE}{j:List Expr},dY S (a::m) j=true->∃e r,j=e::r/\aB S false a e=true/\dY S m r=true:=λ{S j} h=>by
  cases j with
  |nil=>exact ff h
  |cons e r=>have h:=Iy.mp h;exact⟨e,r,rfl,h.1,h.2⟩
 have w:∀R,wA Φ G R (a::m)=λv Q=>wE Φ G R a v λx=>wA Φ G R m v λy=>Q (x::y):=λR=>rfl;refine⟨λc j k R=>?_,λ{S X} c j k R=>?_,λ{S X} c j f q k R=>?_,λ{S X} c j f q k R=>?_,λ{S X} c j f q k i R=>?_,λ{S X} c j f q k i R=>?_⟩
 .obtain⟨e,r,rfl,g,d⟩:=p k;rw[w];exact DZ (aD (aU (.inl g)) _ _) (l.s c g R) (o.a c r d R)
 .cases j with
  |nil=>exact ff k
  |cons e r=>have k:=Iy.mp k;rw[w];exact AE (aD (aU (dO k.1)) _ _) (l.b c k.1 R) (o.b c r k.2 R)
 .obtain⟨e,r,rfl,g,d⟩:=p k;cases m with
  |nil=>
   have:r=[]:=by exact Hb.mp d
   subst this;exact zw (l.s c g R)
  |cons b u=>
   cases r with
   |nil=>exact ff d
   |cons n r=>exact Jx (l.s c g R) (o.av c (n::r) f (by simp) d R)
 .obtain⟨e,r,rfl,g,d⟩:=p k;cases m with
  |nil=>
   have:r=[]:=by exact Hb.mp d
   subst this;exact zw (l.s c g R)
  |cons b u=>
   cases r with
   |nil=>exact ff d
   |cons n r=>exact NK (l.s c g R) (o.ov c (n::r) f (by simp) d R)
 .obtain⟨e,r,rfl,g,d⟩:=p k;have i:=a2 i;cases m with
  |nil=>
   have:r=[]:=by exact Hb.mp d
   subst this;exact DY (l.t c e g i.1 R)
  |cons b u=>
   cases r with
   |nil=>exact ff d
   |cons n r=>exact Jz (l.t c e g i.1 R) (o.at c (n::r) f (by simp) d i.2 R)
 .obtain⟨e,r,rfl,g,d⟩:=p k;have i:=a2 i;cases m with
  |nil=>
   have:r=[]:=by exact Hb.mp d
   subst this;exact Jy (l.t c e g i.1 R)
  |cons b u=>
   cases r with
   |nil=>exact ff d
   |cons n r=>exact NL (l.t c e g i.1 R) (o.ot c (n::r) f (by simp) d i.2 R)
variable(Φ Ψ G)
mutual
theorem snd:∀c:CE,bZ Φ Ψ G c
 |.var i=>Kh i
 |.int i=>Km i
 |.bl b=>N8 b
 |.str x=>Kn x
 |.aJ=>Ko
 |.vG n=>Kp n
 |.glob g=>Eu g
 |.bin op a b=>Kq op (snd a) (snd b)
 |.neg a=>Kr (snd a)
 |.not a=>Ks (snd a)
 |.cmp op a b=>Ku op (snd a) (snd b)
 |.kT p q a b c=>Ew p q (snd a) (snd b) (snd c)
 |.and d=>Kv (jQ d).1
 |.or d=>Oa (jQ d).1
 |.tup d=>Kw (jQ d).1
 |.lst d=>Ky (jQ d).1
 |.ix a i=>Oc (snd a) (snd i)
 |.sl a h k=>Oe (snd a) (snd h) (snd k)
 |.call f d=>Ex f (jQ d).1
 |.blt b d=>KA b (jQ d).1 (jQ d).2
 |.comp e one n i c x=>EA e one n (snd i) (snd c) (snd x)
 |.gJ d=>KH (jQ d).2
 |.oX a=>KI (snd a)
 |.rev a=>KJ (snd a)
 |.Jh a st=>Kz (snd a) (snd st)
 |.pop i=>KG i
 |.own i π=>Kl i π
 |.vH j a=>KD j (snd a)
theorem jQ:∀cs:List CE,mR Φ Ψ G cs/\∀c∈cs,bZ Φ Ψ G c
 |[]=>⟨KO,by simp⟩
 |c::cs=>⟨EB (snd c) (jQ cs).1,λd a=>by
  rcases GE.mp a with e|h
  .rw[e];exact snd c
  .exact(jQ cs).2 d h⟩
end
end
noncomputable def L5(S:SE)(i:Nat)(x:Str):Bool:=S.N[i]?==some x&&(S.nk.lookup x==some .local||S.nk.lookup x==some .cell)
noncomputable def yv(S:SE):List Nat->List Str->Bool
 |[],a=>a.isEmpty
 |i::b,a=>match a with
  |x::r=>L5 S i x&&yv S b r
  |[]=>false
noncomputable def EC(S:SE)(a:List Nat):Bool:=a.all λi=>!rV S.M i
noncomputable def SE.less(S:SE)(i:Nat):SE:={S with M:=S.M.filter (·.1 !=i)}
noncomputable def SE.bare(S:SE):SE:={S with M:=[]}
noncomputable def A3:Expr->Bool
 |.Tuple _ _ _=>false
 |_=>true
noncomputable def GU:Expr->Bool
 |.ListComp _ _ _ _=>false
 |_=>true
noncomputable def L6(S:SE)(b vs:List Expr):Option (Option (List Str)):=
 if !(b.length==2||b.length==3)||vs.length !=b.length then some none
 else if vs.any λ|.Starred ..=>true|_=>false then some none
 else
  let line:=(b.head?.map (·.pos.line)).getD 0
  let a:=b.filterMap λ
   |.Name c pos=>if S.nk.lookup c==some .local&&pos.line==line then some c else none
   |_=>none
  if a.length !=b.length||a.eraseDups.length !=a.length then some none
  else if vs.all (foldedForSure 8)then some none
  else if vs.all (constantsAlone 8)then none
  else some (some a)
noncomputable def A4(f:List Expr->Expr->Bool):Stmt->Bool
 |.Assign a v _=>f a v
 |_=>false
noncomputable def Tc(f:Expr->List Stmt->List Stmt->Bool):Stmt->Bool
 |.While c a b _=>f c a b
 |_=>false
noncomputable def Td(f:Expr->Expr->List Stmt->List Stmt->Bool):Stmt->Bool
 |.For t i a b _=>f t i a b
 |_=>false
noncomputable def Of(f:Expr->Bool):Stmt->Bool
 |.Expr v _=>f v
 |_=>false
noncomputable def A5(f:Str->Pos->Expr->Bool):Stmt->Bool:=A4 λa v=>o1 (RD λx p=>f x p v) a
noncomputable def GV(f:List Expr->Expr->Bool):Stmt->Bool:=A4 λa v=>o1 (ug λb=>f b v) a
noncomputable def GW(f:List Expr->List Expr->Bool):Stmt->Bool:=A4 λb v=>o1 (ug λc=>ug (λa=>f c a) v) b
noncomputable def GX(f:Expr->Expr->Expr->Bool):Stmt->Bool:=A4 λa v=>o1 (uh λo k=>f o k v) a
noncomputable def Og(f:Expr->Str->Pos->Pos->Expr->Bool):Stmt->Bool:=Of (vW λg b k c=>k&&o1 (λv=>Eo (λo m a=>f o m a c v) g) b)
noncomputable def Oh(n:Bool)(f:Expr->Bool):Stmt->Bool
 |.Return (some v) _=>f v
 |.Return none _=>n
 |_=>false
noncomputable def Oi(f:Expr->List Stmt->List Stmt->Bool):Stmt->Bool
 |.If c a b _=>f c a b
 |_=>false
noncomputable def Oj(f:Expr->List Stmt->Bool):Stmt->Bool:=Tc λc a b=>b.isEmpty&&f c a
noncomputable def Ol(f:Expr->Expr->List Stmt->Bool):Stmt->Bool:=Td λt i a b=>b.isEmpty&&f t i a
noncomputable def RJ:Stmt->Bool
 |.Break _=>true
 |_=>false
noncomputable def A6(f:Stmt->Bool)(g:List Stmt->Bool):List Stmt->Bool
 |e::a=>f e&&g a
 |[]=>false
mutual
noncomputable def L7:Md->Md->Bool
 |.s,m=>Kc m
 |.f,m=>NY m
 |.t a,m=>match m with
  |.t b=>ED a b
  |_=>false
 |.o d a,m=>match m with
  |.o c b=>decide (d=c)&&ED a b
  |_=>false
 |.io a,m=>match m with
  |.io b=>L7 a b
  |_=>false
 |.ls a,m=>match m with
  |.ls b=>L7 a b
  |_=>false
noncomputable def ED:List Md->List Md->Bool
 |[],l=>l.isEmpty
 |a::d,l=>match l with
  |b::c=>L7 a b&&ED d c
  |[]=>false
end
mutual
theorem lM:∀{a b:Md},L7 a b=true->a=b
 |.s,m,h=>by cases m<;>first|rfl|exact ff h
 |.f,m,h=>by cases m<;>first|rfl|exact ff h
 |.t a,m,h=>by
  cases m with
  |t b=>exact Fs _ (pN h)
  |_=>exact ff h
 |.o d a,m,h=>by
  cases m with
  |o c b=>have h:=Iy.mp h;rw[Bn h.1,pN h.2]
  |_=>exact ff h
 |.io a,m,h=>by
  cases m with
  |io b=>exact Fs _ (lM h)
  |_=>exact ff h
 |.ls a,m,h=>by
  cases m with
  |ls b=>exact Fs _ (lM h)
  |_=>exact ff h
theorem pN:∀{a b:List Md},ED a b=true->a=b
 |[],l,h=>by
  cases l with
  |nil=>rfl
  |cons b c=>exact ff h
 |a::d,l,h=>by
  cases l with
  |nil=>exact ff h
  |cons b c=>have h:=Iy.mp h;rw[lM h.1,pN h.2]
end
noncomputable def hasB(M:Ms)(i:Nat)(m:Md):Bool:=match M.lookup i with
 |some k=>L7 k m
 |none=>false
theorem wj{M:Ms}{i:Nat}{m:Md}(h:hasB M i m=true):(i,m)∈M:=by
 unfold hasB at h;cases e:M.lookup i with
 |none=>rw[e]at h;exact ff h
 |some k=>rw[e]at h;rw[<-lM h];exact iK e
mutual
noncomputable def jR(S:SE):CE->Expr->Bool
 |.pop i,e=>AQ (λo m j h=>decide (m=("pop":Str))&&(j.endLine==h.line)&&yo S.M i&&lC S i o) e
 |.bin op a b,e=>AM (λo l r=>decide (op=o)&&jR S a l&&jR S b r) e
 |.cmp op a b,e=>AO (λo l r=>decide (op=o)&&!decide (op=.In)&&!decide (op=.NotIn)&&jR S a l&&jR S b r) e
 |.call f g,e=>gG (λx d=>S.fn[f]?==some x&&gC S x&&!d.isEmpty&&!fu (lz S.md f)&&!S.mt.any (·.1==f)&&lN S g d) e
 |.blt b g,e=>gG (λx d=>decide (x=P4 b)&&gC S x&&S.zn.contains x&&S8 b d.length&&!decide (b=.sU)&&!d.isEmpty&&lN S g d) e
 |.ix a b,e=>uh (λv s=>v5 s&&jR S a v&&jR S b s) e
 |.lst g,e=>Ke (λd=>lN S g d) e
 |.tup g,e=>ug (λd=>lN S g d) e
 |.and _,_=>false
 |.or _,_=>false
 |c,e=>aB S false c e
noncomputable def lN(S:SE):List CE->List Expr->Bool
 |[],b=>b.isEmpty
 |a::c,b=>AW (λe=>jR S a e) (λb=>lN S c b) b
end
noncomputable def Te:Md->Bool
 |.s=>true
 |_=>false
noncomputable def RK(a:Nat->Md):CE->Md
 |.tup b=>.t (b.map (mo a))
 |.call f _=>a f
 |c=>mo a c
noncomputable def isVar:CE->Option Nat
 |.var i=>some i
 |_=>none
noncomputable def Om(S:SE)(m:Md)(e:CE)(v:Expr):Bool:=match isVar e with
 |some i=>hasB S.M i m&&lC S i v
 |none=>false
noncomputable def Oo(S:SE)(a:Nat->Md)(m:Md)(e:CE)(v:Expr):Bool:=
 !fu m&&((Te m&&(aB S.bare false e v||aB S false e v))||(L7 (RK a e) m&&aB S.bare false e v)||Om S m e v)
noncomputable def isCall:CE->Bool
 |.call _ _=>true
 |_=>false
noncomputable def Tf(S:SE)(a:List Nat)(one e:Bool)(f:Expr->Bool)(g:List Stmt->Bool)(tg c:Expr)(b:List Stmt):Bool:=
 match N4 tg with
 |some (o,d)=>(one==o)&&yv S a d&&EC S a&&uo c&&(!e||!one)&&f c&&g b
 |none=>false
noncomputable def A7:Expr->Bool
 |.SetComp _ _ _ _=>false
 |.DictComp _ _ _ _ _=>false
 |_=>true
mutual
noncomputable def EF(S:SE)(d:Nat->Md)(m:Md):CS->Stmt->Bool
 |.set i e,st=>A5 (λx _ v=>L5 S i x&&(if rV S.M i=true then(!fu m||!(i==0))&&((yo S.M i&&jP d e)||(isCall e&&hasB S.M i (RK d e)))&&aB (S.less i) false e v else aB S false e v)) st
 |.CD f e,st=>GV (λh v=>(match AU h with|some g=>yv S f g|none=>false)&&EC S f&&aB S false e v&&(A3 v||ug (λvs=>decide (L6 S h vs=some none)) v)) st
 |.par f h,st=>GW (λtg vs=>(match AU tg with|some g=>yv S f g&&decide (L6 S tg vs=some (some g))&&decide g.Nodup&&g.all (λx=>S.nk.lookup x==some .local)|none=>false)&&EC S f&&dY S h vs) st
 |.app i e,st=>Og (λo n q p v=>decide (n=("append":Str))&&(q.endLine==p.line)&&yo S.M i&&lC S i o&&aB S false e v) st
 |.put i k e,st=>GX (λo j v=>yo S.M i&&lC S i o&&v5 j&&aB S false k j&&aB S false e v) st
 |.Av j e,st=>A5 (λx _ v=>L5 S j x&&!rV S.M j&&GU v&&A7 v&&jR S e v) st
 |.ret e,st=>Oh (iH e&&Te m) (λv=>Oo S d m e v) st
 |.iff c a b,st=>Oi (λt x y=>aB S false c t&&CI c&&eT S d m a x&&eT S d m b y) st
 |.nM c b,st=>Oj (λt x=>aB S false c t&&CI c&&eT S d m b x) st
 |.fr f one l b,st=>Ol (λtg i x=>Tf S f one (AV l) (λi=>aB S true l i) (λx=>eT S d m b x) tg i x) st
 |.brk,st=>RJ st
 |.L1 _ _,_=>false
noncomputable def eT(S:SE)(d:Nat->Md)(m:Md):List CS->List Stmt->Bool
 |[],c=>c.isEmpty
 |a::g,c=>match a with
  |.L1 f b=>g.isEmpty&&(!fu m||!f.contains 0)&&eT (S.lend f) d m b c
  |a=>A6 (λe=>EF S d m a e) (λc=>eT S d m g c) c
end
structure uu(S:SE)(Φ:Nat->aT)(Ψ:Nat->Md)(G:Nat->W)(X:Cx):Prop extends XOk S Φ Ψ G X where
 bk:X.env.blockKind=.function
 L8:∀x,X.fn x=true
 KQ:∀j x C,S.gn[j]?=some x->G j=.cls C->Q0 X.K C
 KR:∀i m m',(i,m)∈S.M->(i,m')∈S.M->m=m'
section
variable{S:SE}{Φ:Nat->aT}{Ψ:Nat->Md}{G:Nat->W}{X:Cx}
theorem uu.mF(h:uu S Φ Ψ G X):uu S Φ Ψ G X.mF:={toXOk:=h.toXOk.mF,bk:=h.bk,L8:=h.L8,KQ:=h.KQ,KR:=h.KR}
theorem XOk.Ma(h:XOk S Φ Ψ G X)(M:Ms):XOk {S with M:=M} Φ Ψ G X:=⟨h.hN,h.nd,h.calm,h.un,h.nk,h.fns,h.GP,h.Er,h.Es,h.sX,h.kit⟩
theorem pO(h:uu S Φ Ψ G X){i:Nat}{x:Str}(k:L5 S i x=true):dZ X i x:=by unfold L5 at k;simp only[Ap,X8,Pl]at k;refine⟨by rw[h.hN];exact k.1,?_,.inl (h.L8 x)⟩;unfold L2.Loc;rw[h.nk];exact k.2
theorem j3(h:uu S Φ Ψ G X):∀{b:List Nat}{a:List Str},yv S b a=true->cP X b a
 |[],a,k=>Hb.mp k
 |i::c,[],k=>by cases k
 |i::c,x::r,k=>by rw[yv,Ap]at k;exact⟨x,r,rfl,pO h k.1,j3 h k.2⟩
theorem pP{a:List Nat}(h:EC S a=true):∀i∈a,¬aL S.M i:=λi b=>iJ (by simpa using He.mp h i b)
theorem A8{i:Nat}{m:Md}(f:(i,m)∈S.M)(d:∀c,(i,c)∈S.M->c=m){x:Nat×Md}:x∈S.M↔x=(i,m)\/x∈(S.less i).M:=by
 show _↔_\/x∈S.M.filter (·.1 !=i);rw[Re,bne_iff_ne];obtain⟨a,b⟩:=x;constructor
 .intro h;by_cases e:a=i
  .subst e;rw[d b h];exact .inl rfl
  .exact .inr ⟨h,e⟩
 .rintro(e|h)
  .cases e;exact f
  .exact h.1
theorem A9{i:Nat}:¬aL (S.less i).M i:=by rintro⟨m,h⟩;have h:(i,m)∈S.M.filter (·.1 !=i):=h;rw[Re,bne_iff_ne]at h;exact h.2 rfl
noncomputable def wk:Expr->Bool
 |.SetComp _ _ _ _=>false
 |.DictComp _ _ _ _ _=>false
 |_=>true
theorem KU{d:Bool}{c:CE}{e:Expr}(h:aB S d c e=true):wk e=true:=by
 cases e with
 |SetComp _ _ _ _=>
  cases c with
  |own i b=>rcases(c8 h).2 with⟨_,_,_,e⟩|⟨_,_,_,_,_,e⟩<;>cases e
  |vH f a=>exact ff h
  |_=>exact ff h
 |DictComp _ _ _ _ _=>
  cases c with
  |own i b=>rcases(c8 h).2 with⟨_,_,_,e⟩|⟨_,_,_,_,_,e⟩<;>cases e
  |vH f a=>exact ff h
  |_=>exact ff h
 |_=>rfl
noncomputable def RM(S:SE)(x:Str)(p:Pos):Expr->Bool
 |.ListComp _ _ scope q=>(S.nk.lookup x==some .local)&&(p.line==q.line)&&!(scope.names.any λ(n,k)=>n==x&&(k==.local||k==.cell))
 |_=>false
theorem Oq(h:uu S Φ Ψ G X){e:Expr}(c:wk e=true)(x:Str)(p:Pos)(l:Nat):swapsWith e (some (.Name x p)) l X.env=pure (RM S x p e):=by
 cases e with
 |ListComp a b scope q=>show(pure _:Sem Bool)=pure _;rw[h.bk];show(pure (true&&(X.env.scope.names.lookup x==some .local)&&(p.line==q.line)&&_):Sem Bool)=_;rw[h.nk,Wj];rfl
 |SetComp _ _ _ _=>exact ff c
 |DictComp _ _ _ _ _=>exact ff c
 |_=>rfl
theorem EG{e:Expr}{a:List Expr}{k:Nat}{p:Pos}(l:Nat)(env:Env):swapsWithSole [.Tuple a k p] e l env=pure false:=by
 cases e<;>rfl
theorem Ba{e o i:Expr}{p:Pos}(l:Nat)(env:Env):swapsWithSole [.Subscript o i p] e l env=pure false:=by
 cases e<;>rfl
theorem EH{e:Expr}(a:A3 e=true)(b:List Expr)(k:Nat)(p:Pos)(env:Env):swappedStores [.Tuple b k p] e env=pure none:=by
 cases e<;>first|rfl|exact ff a
theorem Bb{e o i:Expr}{p:Pos}(env:Env):swappedStores [.Subscript o i p] e env=pure none:=by
 cases e<;>rfl
theorem Bc(h:uu S Φ Ψ G X){a vs:List Expr}{k k2:Nat}{p p2:Pos}{o:Option (List Str)}(e:L6 S a vs=some o):swappedStores [.Tuple a k p] (.Tuple vs k2 p2) X.env=pure o:=by
 delta swappedStores
 unfold L6 at e;have b:∀x,X.env.kindOf x=S.nk.lookup x:=λx=>h.nk x;simp only[b,h.bk,bne_self_eq_false,Pm];dsimp only at e;split at e
 .rename_i c
  cases e;exact Bz c
 rename_i c1
 refine(Bi c1).trans ?_;split at e
 .rename_i c
  cases e;exact Bz c
 rename_i c2
 refine(Bi c2).trans ?_;split at e
 .rename_i c
  cases e;exact Bz c
 rename_i c3
 refine(Bi c3).trans ?_;split at e
 .rename_i c
  cases e;exact Bz c
 rename_i c4
 refine(Bi c4).trans ?_;split at e
 .cases e
 rename_i c5
 cases e;exact Bi c5
end
theorem iP{f:List Expr->Expr->Bool}{e:Stmt}(h:A4 f e=true):∃a v q,e=.Assign a v q/\f a v=true:=by cases e<;>first|exact⟨_,_,_,rfl,h⟩|exact ff h
theorem EI{f:Expr->List Stmt->List Stmt->Bool}{e:Stmt}(h:Tc f e=true):∃c a b q,e=.While c a b q/\f c a b=true:=by cases e<;>first|exact⟨_,_,_,_,rfl,h⟩|exact ff h
theorem EJ{f:Expr->Expr->List Stmt->List Stmt->Bool}{e:Stmt}(h:Td f e=true):∃t i a b q,e=.For t i a b q/\f t i a b=true:=by cases e<;>first|exact⟨_,_,_,_,_,rfl,h⟩|exact ff h
theorem Be{f:Expr->Bool}{st:Stmt}(h:Of f st=true):∃v q,st=.Expr v q/\f v=true:=by cases st<;>first|exact⟨_,_,rfl,h⟩|exact ff h
theorem nT{f:Str->Pos->Expr->Bool}{st:Stmt}(h:A5 f st=true):∃x p v q,st=.Assign [.Name x p] v q/\f x p v=true:=by obtain⟨d,v,q,rfl,c⟩:=iP h;obtain⟨t,rfl,b⟩:=dX c;obtain⟨x,p,rfl,a⟩:=vX b;exact⟨_,_,_,_,rfl,a⟩
theorem yw{f:List Expr->Expr->Bool}{st:Stmt}(h:GV f st=true):∃a k p v q,st=.Assign [.Tuple a k p] v q/\f a v=true:=by obtain⟨e,v,q,rfl,d⟩:=iP h;obtain⟨t,rfl,c⟩:=dX d;obtain⟨a,k,p,rfl,b⟩:=cU c;exact⟨_,_,_,_,_,rfl,b⟩
theorem yx{f:List Expr->List Expr->Bool}{st:Stmt}(h:GW f st=true):∃a k p vs c b q,st=.Assign [.Tuple a k p] (.Tuple vs c b) q/\f a vs=true:=by obtain⟨j,v,q,rfl,i⟩:=iP h;obtain⟨t,rfl,g⟩:=dX i;obtain⟨a,k,p,rfl,e⟩:=cU g;obtain⟨vs,c,b,rfl,d⟩:=cU e;exact⟨_,_,_,_,_,_,_,rfl,d⟩
theorem yy{f:Expr->Expr->Expr->Bool}{st:Stmt}(h:GX f st=true):∃o k p v q,st=.Assign [.Subscript o k p] v q/\f o k v=true:=by obtain⟨d,v,q,rfl,c⟩:=iP h;obtain⟨t,rfl,b⟩:=dX c;obtain⟨o,k,p,rfl,a⟩:=cV b;exact⟨_,_,_,_,_,rfl,a⟩
theorem Bf{f:Expr->Str->Pos->Pos->Expr->Bool}{st:Stmt}(h:Og f st=true):∃o m c v b q,st=.Expr (.Call (.Attribute o m c) [v] [] b) q/\f o m c b v=true:=by obtain⟨v,q,rfl,n⟩:=Be h;obtain⟨g,s,r,p,rfl,l⟩:=jn n;obtain⟨k,j⟩:=a2 l;obtain⟨e,rfl,i⟩:=dX j;obtain⟨o,m,a,rfl,d⟩:=iL i;rw[Hb.mp k];exact⟨_,_,_,_,_,_,rfl,d⟩
theorem Bg{n:Bool}{f:Expr->Bool}{st:Stmt}(h:Oh n f st=true):(∃v q,st=.Return (some v) q/\f v=true)\/∃q,st=.Return none q/\n=true:=by
 cases st<;>try exact ff h
 rename_i v q
 cases v
 .exact .inr ⟨_,rfl,h⟩
 .exact .inl ⟨_,_,rfl,h⟩
theorem Bh{f:Expr->List Stmt->List Stmt->Bool}{st:Stmt}(h:Oi f st=true):∃c a b q,st=.If c a b q/\f c a b=true:=by
 cases st<;>try exact ff h
 exact⟨_,_,_,_,rfl,h⟩
theorem Bj{f:Expr->List Stmt->Bool}{st:Stmt}(h:Oj f st=true):∃c a q,st=.While c a [] q/\f c a=true:=by obtain⟨c,a,b,q,rfl,e⟩:=EI h;obtain⟨k,d⟩:=a2 e;rw[Hb.mp k];exact⟨_,_,_,rfl,d⟩
theorem Bk{f:Expr->Expr->List Stmt->Bool}{st:Stmt}(h:Ol f st=true):∃tg c a q,st=.For tg c a [] q/\f tg c a=true:=by obtain⟨t,i,a,b,q,rfl,e⟩:=EJ h;obtain⟨k,d⟩:=a2 e;rw[Hb.mp k];exact⟨_,_,_,_,rfl,d⟩
section
variable{X:Cx}{M:Ms}{m:Md}{st:Stmt}{i j k:Nat}{e:Expr}{te:(Addr->Prop)->WT}{M':Ms}{m0:Md}
theorem EK{x y z:Str}{a b c:Expr}{ta:TA}{R Q P S pos:Pos}{T k2 Z}(hc:X.calm=true)(O:X.N.Nodup)(hi:X.N[i]?=some x)(hj:X.N[j]?=some y)(hk:X.N[k]?=some z)(L:i≠j)(K:i≠k)(J:j≠k)
 (Y:X.env.scope.names.lookup x=some .local)(U:X.env.scope.names.lookup y=some .local)(hz:X.env.scope.names.lookup z=some .local)(ha:PA X [a,b,c] ta)
 (hw:swappedStores [.Tuple [.Name x R,.Name y Q,.Name z P] T S] (.Tuple [a,b,c] k2 Z) X.env=pure (some [x,y,z])):
 PS X (.Assign [.Tuple [.Name x R,.Name y Q,.Name z P] T S] (.Tuple [a,b,c] k2 Z) pos) (λD f H=>ta f H λvs t=>∃v w u,vs=[v,w,u]/\D.nx (((f.set i (some v)).set j (some w)).set k (some u)) t):=by
 intro d s f H D I h;rw[exec_Assign_arm];refine Dx (WZ ?_);refine Dx (KB ?_);rw[Bi (by decide)];refine Dx (Tuple_ (bq (ha _ d s f H _ I h) λus r ⟨vs,t,I1,r1,C⟩=>?_));obtain⟨v,w,u,e1,C⟩:=C;subst e1;obtain⟨n,l,g,rfl,rv,B,ru⟩:∃n l g,us=[n,l,g]/\RelV v n/\RelV w l/\RelV u g:=by
  cases r1 with
  |cons p q=>
   cases q with
   |cons p' q'=>
    cases q' with
    |cons E U3=>
     cases U3;exact⟨_,_,_,rfl,p,p',E⟩
 refine wpAny_newObj_type ?_ (by show 3<=sizeLine;decide);have I2:Inv X d f t {r with heap:=r.heap.push {cls:=.type "tuple",data:=.seq [n,l,g].toArray}}:=I1.kept (t':=r.toks) λb o e=>D1 _ e;rw[hw];refine Dx (KB ?_);show wpAny (model X.prog X.w) X.A (do rule "assign.swapped-stores";let items<-unpackItems (.ref r.heap.objs.size) 3 none;assignInOrder [λv=>bindName X.env z v,λv=>bindName X.env y v,λv=>bindName X.env x v] items.reverse;pure Flow.next) _ _ _;refine Dx (wpAny_rule (Dx (unpackItems_tuple (items:= #[n,l,g]) (I.ok.hd hc) (IsTup.new r.heap _) λh' G=>?_)));have I3:=I2.kept (h':=h') (t':=r.toks) λb o e=>G b o (Ha (FM e)) e;show wpAny _ _ (assignInOrder [λv=>bindName X.env z v,λv=>bindName X.env y v,λv=>bindName X.env x v] [g,l,n]>>=λ_=>pure Flow.next) _ _ _;refine Dx (WB (Wx (di I3 O hk (.inl hz) ru (λs2 I4=>?_) (.inr hz))));refine WB (Wx (di I4 O hj (.inl U) B (λs3 I5=>?_) (.inr U)));refine WB (Wx (di I5 O hi (.inl Y) rv (λs4 I6=>assignInOrder_nil (KB ?_)) (.inr Y)));have e6:((f.set k (some u)).set j (some w)).set i (some v)=((f.set i (some v)).set j (some w)).set k (some u):=by rw[Ng _ _ (NM J),Ng _ _ (NM K),Ng _ _ (NM L)]
 rw[e6]at I6;exact⟨_,t,I6,C⟩
theorem EL(c:∀R,PS X st (mJ (tV X M R (CH X.K .s) (te R)) (fT i)))(n:¬aL M i):VS X M m st (λd b=>te d.ex b λw=>d.nx (b.set i (some w))):=by rintro a s f H D I ⟨A,q,b,d,S,o,hz,h,k⟩;refine c d.ex a s f H D I ⟨A,q,b,_,S,o,h,λw v p l g r=>?_⟩;exact k.nx A _ _ p rfl rfl l ((S.same g).set n r.aZ)
theorem Bl(c:∀R,PS X st (mJ (tV X M' R (CH X.K m0) (te R)) (fT i)))(g:∀x,x∈M↔x=(i,m0)\/x∈M')(y:¬aL M' i)(f:fu m=true->i≠0):VS X M m st (λd b=>te d.ex b λw=>d.nx (b.set i (some w))):=by
 rintro a s n H D I ⟨A,Q,b,d,S,E,hz,h,k⟩;have C:∀v,A.s0=some v->A.s0=some v/\aL M' 0:=λv e=>by
  refine⟨e,?_⟩;have u:fu m=true:=by rw[<-hz,e];rfl
  obtain⟨p,B⟩:=(S.sl v e).2;rcases(g _).mp B with z|z
  .cases z;exact(f u rfl).elim
  .exact⟨p,z⟩
 obtain⟨U,J,G,Y,l⟩:=S.sub (M':=M') (λx q=>(g x).mpr (.inr q)) A.s0 C;refine c d.ex a s n H D I ⟨U,Q,b,_,l,E,h,λw v P t o r=>?_⟩;obtain⟨T,N,L,_,O⟩:=l.own g y o r;exact k.nx T _ _ P (N.trans J) (L.trans G) t O
theorem EM{pos:Pos}:VS X M .s (.Return none pos) (λd c=>d.rt .aJ):=by rintro a s b H D I ⟨A,g,c,d,S,f,hz,h,k⟩;exact CU a s b H D I (k.rt _ _ H h S.sm (.of rfl (.of (by dsimp only[Rep]))))
end
noncomputable def Bm(X:Cx)(M:Ms)(R:Addr->Prop)(g:List Md)(t:Ev->(List W->Prop)->Prop):TA:=λf H Q=>∃A e b P,SR X.K M A e f H b/\ER X e R/\t b P/\∀c d a F,P c->au H a->F.Nodup->(∀p∈F,H p=none)->eB X.K (λq=>A.B q\/q∈F) a g c d F->Q d a
section
variable{X:Cx}{M:Ms}{R:Addr->Prop}{a:Expr}{es:List Expr}{ta:WT}{m:Md}{ms:List Md}{pos:Pos}
theorem EN:PA X [] (Bm X M R [] λ_ Q=>Q []):=PA.imp cG<|by rintro b H Q ⟨A,e,c,P,S,d,h,k⟩;exact k [] [] H [] h (au.refl H) XE (by simp) (by dsimp only[eB];exact⟨rfl,rfl,rfl⟩)
theorem Bo{tr:Ev->(List W->Prop)->Prop}(D:starEach (a::es) X.env=(false,eval a X.env)::starEach es X.env)(I:VE X M R m a ta)(E:PA X es (Bm X M R ms tr)):PA X (a::es) (Bm X M R (m::ms) λc Q=>ta c λx=>tr c λf=>Q (x::f)):=
 PA.imp (bg I E D)<|by
  rintro O H Q ⟨A,u,c,P,S,t,h,k⟩;refine⟨A,u,c,_,S,t,h,λx v N C g y=>?_⟩;obtain⟨G,B,r,s⟩:=y;have d:∀q∈G,∃o,N q=some o:=λq j=>let⟨o,e,_⟩:=Fp.mu m s q j;⟨o,e⟩
  refine⟨_,u,c,_,S.more g r d,t,C,λf w L F i n J l K=>?_⟩;refine k _ _ L (G++F) i (g.trans n) ?_ (λp b=>?_) ?_
  .refine OO.mpr ⟨B,J,λp b q j e=>?_⟩;subst e;obtain⟨o,e⟩:=d p b;rw[l p j]at e;cases e
  .rcases Gc.mp b with b|b
   .exact r p b
   .exact g.free (l p b)
  .refine⟨x,f,v,w,G,F,rfl,rfl,rfl,Fp.mv n (λp o e z=>?_) m s,eB.mv (au.refl _) (λp o e z=>?_) ms K⟩
   .rcases z with z|z
    .exact .inl z
    .rcases Gc.mp z with z|z
     .exact .inr z
     .rw[l p z]at e;cases e
   .rcases z with z|z
    .exact .inl (.inl z)
    .rcases Gc.mp z with z|z
     .exact .inl (.inr z)
     .exact .inr z
theorem EO{e:Ev->(List W->Prop)->Prop}{j:Nat}(h:PA X es (Bm X M R ms e)):VE X M R (.t ms) (.Tuple es j pos) (λd Q=>e d λb=>b.length<=sizeLine/\Q (.tup b)):=PE.imp (tO h)<|by
 rintro E H Q ⟨A,D,d,P,S,y,h,k⟩;refine⟨A,D,d,_,S,y,h,λb c C F g n q o i=>?_⟩;have u:∀(ms:List Md){b:List W}{c:List V}{F:List Addr}{B:Addr->Prop},eB X.K B C ms b c F->c.length=b.length:=λms=>by
  induction ms with
  |nil=>intro b c F B h;dsimp only[eB]at h;rw[h.1,h.2.1];rfl
  |cons m ms r=>intro b c F B h;obtain⟨w,G,v,l,J,I,rfl,rfl,_,_,x⟩:=h;rw[Eb,Eb,r x]
 refine⟨by rw[u ms i];exact g.1,λp s=>?_⟩;have f:=aF s (.tup c);refine k _ _ _ g.2 (n.trans f) ⟨F,q,o,?_⟩;exact⟨b,p,c,rfl,rfl,aQ,eB.mv f (λ_ _ _ z=>z) ms i⟩
end
noncomputable def iQ(b:Nat->aT)(a:Nat->Md)(G:Nat->W)(s:CS):Prop:=∀{S:SE}{X:Cx}{m:Md},uu S b a G X->∀c,EF S a m s c=true->VS X S.M m c (wS b G s)
noncomputable def gH(b:Nat->aT)(a:Nat->Md)(G:Nat->W)(s:List CS):Prop:=∀{S:SE}{X:Cx}{m:Md},uu S b a G X->∀c,eT S a m s c=true->AH X S.M m c (wSs b G s)
section
variable{Φ:Nat->aT}{Ψ:Nat->Md}{G:Nat->W}
theorem uu.Ma{S:SE}{X:Cx}(h:uu S Φ Ψ G X)(M:Ms)(b:∀i m a,(i,m)∈M->(i,a)∈M->m=a):uu {S with M:=M} Φ Ψ G X:={toXOk:=h.toXOk.Ma M,bk:=h.bk,L8:=h.L8,KQ:=h.KQ,KR:=b}
theorem Bp{S:SE}{X:Cx}(b:XOk S Φ Ψ G X){f:Nat}{i:List CE}{v:Expr}(k:aB S false (.call f i) v=true)(R:Addr->Prop):VE X S.M R (Ψ f) v (wE Φ G R (.call f i))/\∃g c p,v=.Call g c [] p:=by
 obtain⟨x,q,c,p,rfl,j⟩:=aH k;simp only[Ap]at j;obtain⟨⟨⟨⟨⟨t,s⟩,r⟩,h⟩,o⟩,l⟩:=j;obtain⟨C,B,E⟩:=bG b s;obtain⟨D,n,m,A,F,u,z⟩:=b.fns f x (Pl.mp t) (by simpa using o);have F:cT X.prog X.w X.K X.mg X.base m D n (vS X.K n (Ψ f) (Φ f)):=by rw[<-b.Er]at h;cases y:Ψ f<;>rw[y]at h F<;>first|exact F|exact ff h
 have d:=jq l;cases c with
 |nil=>exact ff r
 |cons e c=>rw[Gg,Ap]at d;refine⟨?_,_,_,_,rfl⟩;exact vU (M:=S.M) (R:=R) (p:=q) (pos:=p) F u C A z ((jQ Φ Ψ G i).1.a b _ l R) B (aD d.1 _ _) (cu d.2 _ _)
theorem Bq{S:SE}{X:Cx}(d:XOk S Φ Ψ G X):∀(b:List CE)(c:List Expr),dY S b c=true->∀R,PA X c (Bm X S.M R (b.map (mo Ψ)) (wA Φ G R b))
 |[],c,k,R=>by rw[Hb.mp k];exact EN
 |a::b,[],k,R=>by cases k
 |a::b,e::c,k,R=>by have k:=a2 k;exact Bo (aD (aU (.inl k.1)) _ _) ((snd Φ Ψ G a).e d e k.1 R) (Bq d b c k.2 R)
theorem KW{S:SE}{X:Cx}(a:XOk S Φ Ψ G X){e:CE}{v:Expr}(k:aB S false e v=true)(R:Addr->Prop):VE X S.M R (RK Ψ e) v (wE Φ G R e):=by
 cases e with
 |tup b=>obtain⟨c,d,p,rfl,k⟩:=cU k;exact EO (Bq a b c k R)
 |call f b=>exact(Bp a k R).1
 |_=>exact(snd Φ Ψ G _).e a v k R
theorem uv{e:CE}(h:isCall e=true):∃f a,e=.call f a:=by cases e<;>first|exact⟨_,_,rfl⟩|exact ff h
theorem yz{e:CE}(h:iH e=true):e=.aJ:=by cases e<;>first|rfl|exact ff h
theorem yC{e:CE}{i:Nat}(h:isVar e=some i):e=.var i:=by cases e<;>first|(cases h;rfl)|exact nn h
theorem ES{S:SE}{x:Str}{p:Pos}{v:Expr}(h:RM S x p v=true):∃a b c d,v=.ListComp a b c d:=by cases v<;>first|exact⟨_,_,_,_,rfl⟩|exact ff h
theorem KY{S:SE}{e:CE}{a:Expr}{b:List Comprehension}{c:Scope}{d:Pos}(k:aB S false e (.ListComp a b c d)=true):∃f one n i c x,e=.comp f one n i c x:=by
 cases e with
 |comp f one n i c x=>exact⟨_,_,_,_,_,_,rfl⟩
 |own i g=>rcases(c8 k).2 with⟨_,_,_,e⟩|⟨_,_,_,_,_,e⟩<;>cases e
 |_=>exact ff k
theorem wm{S:SE}{X:Cx}(d:uu S Φ Ψ G X){i:Nat}{x:Str}{p q:Pos}{e:CE}{v:Expr}(P:L5 S i x=true)(k:aB S false e v=true)(R:Addr->Prop):
 PS X (.Assign [.Name x p] v q) (mJ (tV X S.M R (CH X.K (mo Ψ e)) (wE Φ G R e)) (fT i)):=by
 have n:=pO d P;have a:=Oq d (KU k) x p q.line;cases m:RM S x p v with
 |false=>rw[m]at a;exact tu d.nd n.1 n.2.1 ((snd Φ Ψ G e).e d.toXOk v k R) a n.2.2
 |true=>rw[m]at a;obtain⟨T,gs,h,pp,rfl⟩:=ES m;obtain⟨ts,one,n',B,c,y,rfl⟩:=KY k;obtain⟨t,tg,r,E,f,p',o,U,rfl,j,O,l,Y,L⟩:=lK (snd Φ Ψ G B) (snd Φ Ψ G c) (snd Φ Ψ G y) d.toXOk k R;cases U;rw[iN rfl,wg];intro b s g H D I J;obtain⟨A,z,w⟩:=L b s g H I;exact DE o (mask o S.N) d.nd n.1 n.2.1 d.calm O Y A z (λC u Z Q=>(w C u Z Q).2) a l n.2.2 b s g H D I (rT j g H _ J)
theorem KZ(i:Nat)(e:CE):iQ Φ Ψ G (.set i e):=by
 intro S X m l st k;obtain⟨x,p,v,q,rfl,h⟩:=nT k;rw[Ap]at h;by_cases y:rV S.M i=true
 .rw[Bz y]at h;simp only[Ap]at h;obtain⟨I,⟨E,d⟩,C⟩:=h;have u:fu m=true->i≠0:=λz e=>by rw[z,e]at E;cases E
  have N:∀{t:Md},(i,t)∈S.M->(∀R,PS X (.Assign [.Name x p] v q) (mJ (tV X (S.less i).M R (CH X.K t) (wE Φ G R e)) (fT i)))->VS X S.M m (.Assign [.Name x p] v q) (λD o=>wE Φ G D.ex e o λw=>D.nx (o.set i (some w))):=λ{t} J O=>Bl (M':=(S.less i).M) (te:=λR=>wE Φ G R e) O (λj=>A8 J (λm' T=>l.KR i _ _ T J)) A9 u;have L:uu (S.less i) Φ Ψ G X:=l.Ma (S.less i).M λa b c B Q=>l.KR a b c (Re.mp B).1 (Re.mp Q).1;rcases dO d with d|d
  .rw[Ap]at d;refine N (jX d.1) λR=>?_;have:=wm L (p:=p) (q:=q) I C R;rw[iN d.2]at this;exact this
  .rw[Ap]at d;refine N (wj d.2) λR=>?_;obtain⟨f,as,rfl⟩:=uv d.1;obtain⟨B,g,es,pp,rfl⟩:=Bp L.toXOk C R;have n:=pO l I;exact tu l.nd n.1 n.2.1 B rfl n.2.2
 .rw[Bi y]at h;refine EL (te:=λR=>wE Φ G R e) (λR=>?_) (iJ (by simpa using y));refine PS.imp (wm l (p:=p) (q:=q) h.1 h.2 R)<|by rintro D σ H ⟨A,Y,o,P,S,U,p,k⟩;exact⟨A,Y,o,P,S,U,p,λw v Z pw s r=>k w v Z pw s (r.s S.dom)⟩
theorem K0(f:List Nat)(e:CE):iQ Φ Ψ G (.CD f e):=by
 intro S X m b w k;obtain⟨j,h,p,v,q,rfl,g⟩:=yw k;simp only[Ap]at g;obtain⟨⟨⟨c,i⟩,n⟩,a⟩:=g;split at c;rotate_left
 .cases c
 rename_i xs hxs
 have r:PG X (.Tuple j h p) (gT X.K false f):=KL b.calm b.nd (by dsimp only[N4];rw[hxs];rfl) (j3 b c);have d:swappedStores [.Tuple j h p] v X.env=pure none:=by
  rcases dO a with a|a
  .exact EH a _ _ _ _
  .obtain⟨t,i,x,rfl,l⟩:=cU a;exact Bc b (Bn l)
 exact JO (te:=λR=>wE Φ G R e) (λ{u} o=>zB o r (EG _ _) d rfl) (pP i) λR=>(snd Φ Ψ G e).s b.toXOk n R
theorem lO{X:Cx}{a:List Nat}{x:Str}{b:List Str}(h:cP X a (x::b)):∃i r,a=i::r/\dZ X i x/\cP X r b:=by
 cases a with
 |nil=>cases h
 |cons i r=>obtain⟨_,_,e,d,c⟩:=h;cases e;exact⟨i,r,rfl,d,c⟩
theorem ET{X:Cx}{a:List Nat}(h:cP X a []):a=[]:=by
 cases a with
 |nil=>rfl
 |cons i r=>obtain⟨_,_,e,_⟩:=h;cases e
theorem wu{X:Cx}{a:List Nat}{x y:Str}(h:cP X a [x,y]):∃i j,a=[i,j]/\dZ X i x/\dZ X j y:=by obtain⟨i,r,rfl,e,d⟩:=lO h;obtain⟨j,r,rfl,c,b⟩:=lO d;cases ET b;exact⟨i,j,rfl,e,c⟩
theorem yD{X:Cx}{a:List Nat}{x y z:Str}(h:cP X a [x,y,z]):∃i j k,a=[i,j,k]/\dZ X i x/\dZ X j y/\dZ X k z:=by obtain⟨i,r,rfl,e,d⟩:=lO h;obtain⟨j,k,rfl,c,b⟩:=wu d;exact⟨i,j,k,rfl,e,c,b⟩
theorem uw{α:Type}{l:List α}(h:l.length=2):∃a b,l=[a,b]:=by rcases l with _|⟨a,_|⟨b,_|_⟩⟩<;>first|exact⟨_,_,rfl⟩|(simp at h;done)
theorem K1{α:Type}{l:List α}(h:l.length=3):∃a b c,l=[a,b,c]:=by
 cases l with
 |nil=>cases h
 |cons a l=>obtain⟨b,c,rfl⟩:=uw (Rw h);exact⟨_,_,_,rfl⟩
theorem iR{b:List Expr}{x:Str}{c:List Str}(h:AU b=some (x::c)):∃p r,b=.Name x p::r/\AU r=some c:=by
 cases b with
 |nil=>cases h
 |cons e b=>
  cases e with
  |Name a p=>obtain⟨l,d,e⟩:=IR.mp h;cases e;exact⟨_,_,rfl,d⟩
  |_=>exact nn h
theorem wz{b:List Expr}(h:AU b=some []):b=[]:=by
 cases b with
 |nil=>rfl
 |cons e b=>
  cases e with
  |Name a p=>obtain⟨l,c,e⟩:=IR.mp h;cases e
  |_=>exact nn h
theorem wB{a:List Expr}{x y:Str}(h:AU a=some [x,y]):∃p q,a=[.Name x p,.Name y q]:=by obtain⟨p,r,rfl,c⟩:=iR h;obtain⟨q,r,rfl,b⟩:=iR c;rw[wz b];exact⟨_,_,rfl⟩
theorem yE{a:List Expr}{x y z:Str}(h:AU a=some [x,y,z]):∃p q r,a=[.Name x p,.Name y q,.Name z r]:=by obtain⟨p,r,rfl,b⟩:=iR h;obtain⟨q,s,rfl⟩:=wB b;exact⟨_,_,_,rfl⟩
theorem EU{S:SE}{a vs:List Expr}{b:List Str}(h:L6 S a vs=some (some b)):(a.length=2\/a.length=3)/\vs.length=a.length:=by
 unfold L6 at h;split at h
 .cases h
 .rename_i c
  simp only[X8,Wu,bne_iff_ne,not_or,Bool.not_eq_false,Pl,ne_eq,Xk]at c;exact c
theorem wC{b:List Expr}{a:List Str}(h:AU b=some a):b.length=a.length:=by
 induction a generalizing b with
 |nil=>rw[wz h];rfl
 |cons x a c=>obtain⟨p,r,rfl,d⟩:=iR h;rw[Eb,Eb,c d]
theorem K2(Y:List Nat)(O:List CE):iQ Φ Ψ G (.par Y O):=by
 intro S X m o st k;obtain⟨tg,kd,p,f,U7,p',q,rfl,A⟩:=yx k;simp only[Ap]at A;obtain⟨⟨C,k2⟩,k3⟩:=A;split at C;rotate_left
 .cases C
 rename_i xs hxs
 simp only[Ap]at C;obtain⟨⟨⟨C,J⟩,B⟩,k6⟩:=C;have J:=Bn J;have B:=Bn B;obtain⟨r,Q⟩:=EU J;have P:=Bc o (k:=kd) (k2:=U7) (p:=p) (p2:=p') J;have d:∀x∈xs,X.env.scope.names.lookup x=some .local:=λx hx=>by rw[o.nk];exact Pl.mp (He.mp k6 x hx)
 have T:=j3 o C;refine JP (ta:=λR=>wA Φ G R O) (λ{tv} U=>?_) (pP k2) λR=>(jQ Φ Ψ G O).1.a o.toXOk f k3 R;have K:∀{a b:Nat}{x y:Str},x≠y->X.N[a]?=some x->X.N[b]?=some y->a≠b:=λn E g e=>by rw[e,g]at E;exact n (Hk E).symm
 rcases r with r|r
 .obtain⟨x,y,rfl⟩:=uw ((wC hxs).symm.trans r);obtain⟨Z,p2,rfl⟩:=wB hxs;obtain⟨i,j,rfl,t,s⟩:=wu T;obtain⟨a,b,rfl⟩:=uw (Q.trans r);refine PS.imp (Ih o.calm o.nd t.1 s.1 (K (by simpa using B) t.1 s.1) (d x (by simp)) (d y (by simp)) U P) λD I H h=>?_;have e:(λ(f:List V) l=>f.length=[i,j].length/\D.nx (b7 I [i,j] f) l)=λf l=>∃v w,f=[v,w]/\D.nx ((I.set i (some v)).set j (some w)) l:=by
   funext f l;refine propext ⟨?_,?_⟩
   .rintro⟨E,g⟩;obtain⟨v,w,rfl⟩:=uw E;exact⟨v,w,rfl,g⟩
   .rintro⟨v,w,rfl,g⟩;exact⟨rfl,g⟩
  rw[e]at h;exact h
 .obtain⟨x,y,z,rfl⟩:=K1 ((wC hxs).symm.trans r);obtain⟨Z,p2,p3,rfl⟩:=yE hxs;obtain⟨i,j,A,rfl,t,s,L⟩:=yD T;obtain⟨a,b,c,rfl⟩:=K1 (Q.trans r);have M:(x≠y/\x≠z)/\y≠z:=by simp only[SZ,GE,WR,or_false,not_or]at B;exact⟨B.1,B.2.1⟩
  refine PS.imp (EK o.calm o.nd t.1 s.1 L.1 (K M.1.1 t.1 s.1) (K M.1.2 t.1 L.1) (K M.2 s.1 L.1) (d x (by simp)) (d y (by simp)) (d z (by simp)) U P) λD I H h=>?_;have e:(λ(f:List V) l=>f.length=[i,j,A].length/\D.nx (b7 I [i,j,A] f) l)=λf l=>∃v w u,f=[v,w,u]/\D.nx (((I.set i (some v)).set j (some w)).set A (some u)) l:=by
   funext f l;refine propext ⟨?_,?_⟩
   .rintro⟨E,g⟩;obtain⟨v,w,u,rfl⟩:=K1 E;exact⟨v,w,u,rfl,g⟩
   .rintro⟨v,w,u,rfl,g⟩;exact⟨rfl,g⟩
  rw[e]at h;exact h
theorem se{S:SE}{i:Nat}{o:Expr}(h:lC S i o=true)(a:Str)(env:Env):attributeBase o a env (eval o env)=eval o env:=by
 cases o with
 |Name x p=>rfl
 |_=>exact ff h
theorem K4(i:Nat)(e:CE):iQ Φ Ψ G (.app i e):=by intro S X m g p k;obtain⟨o,r,u,v,t,q,rfl,c⟩:=Bf k;simp only[Ap]at c;obtain⟨⟨⟨⟨a,j⟩,h⟩,f⟩,d⟩:=c;have a:=Bn a;subst a;have b:=aD (aU (.inl d)) [] X.env;refine JS (te:=λR=>wE Φ G R e) (λ{n} l=>?_) (jX h) λR=>(snd Φ Ψ G e).s g.toXOk d R;exact CT (M5 PySem.F.plainAttrs_list PySem.F.slot_list_append PySem.F.type_list_append nA (gb g.toXOk f) (bg l cG b) (se f _ _) (by rw[b];rfl) j b rfl) rfl
theorem K5(i:Nat)(a e:CE):iQ Φ Ψ G (.put i a e):=by
 intro S X m b y k;obtain⟨o,j,p,v,q,rfl,c⟩:=yy k;simp only[Ap]at c;obtain⟨⟨⟨⟨l,h⟩,g⟩,f⟩,d⟩:=c;have t:∀u,assign (.Subscript o j p) X.env u=(do
  let ov<-holding [u] (eval o X.env)
  let iv<-holding [u,ov] (eval j X.env)
  standAt p
  holding [u,ov,iv] (setItem ov iv u)
  release [u,ov,iv] []):=by
  intro u;cases j with
  |Slice _ _ _ _=>exact ff g
  |_=>rfl
 refine JT (te:=λR=>wE Φ G R e) (t1:=λR=>wE Φ G R a) (λ{w x} n r=>?_) (jX l) (λR=>(snd Φ Ψ G e).s b.toXOk d R) λR=>(snd Φ Ψ G a).s b.toXOk f R;exact zB (pos:=q) n (Ig (gb b.toXOk h) r set_list t) (Ba _ _) (Bb _) rfl
theorem GY:∀{S:SE}{c:CE}{e:Expr},jR S c e=true->noStar e=true:=λ{S c e} h=>by
 cases e with
 |Starred v p=>
  have f:aB S false c (.Starred v p)=true->False:=λz=>by have:=aU (.inl z);exact ff this
  cases c<;>first|exact ff h;done|exact(f h).elim
 |_=>rfl
theorem ux{S:SE}:∀{c:List CE}{b:List Expr},lN S c b=true->b.all noStar=true
 |[],b,h=>by rw[Hb.mp h];rfl
 |a::c,[],h=>by cases h
 |a::c,e::b,h=>by have h:=a2 h;rw[Gg,GY h.1,ux h.2];rfl
theorem cE{S:SE}{X:Cx}(b:XOk S Φ Ψ G X)(R:Addr->Prop){c:CE}{v:Expr}(e:jR S c v=aB S false c v)(d:wP Φ G R c=λa Q=>wE Φ G R c a λw=>Q w a)(k:jR S c v=true):VP X S.M R v (wP Φ G R c):=by rw[e]at k;rw[d];exact NV ((snd Φ Ψ G c).s b k R)
mutual
theorem dQ{S:SE}{X:Cx}(d:XOk S Φ Ψ G X)(R:Addr->Prop):∀(e:CE)(v:Expr),jR S e v=true->VP X S.M R v (wP Φ G R e)
 |.pop i,v,k=>by obtain⟨o,mt,ap,cp,rfl,h⟩:=um k;simp only[Ap]at h;obtain⟨⟨⟨j,s⟩,m⟩,z⟩:=h;have j:=Bn j;subst j;exact JY (jX m) (gb d z) (se z _ _) s
 |.bin op a b,v,k=>by obtain⟨l,o,r,p,rfl,h⟩:=jo k;simp only[Ap]at h;obtain⟨⟨j,s⟩,m⟩:=h;have j:=Bn j;subst j;exact JZ (dQ d R a l s) (dQ d R b r m)
 |.cmp op a b,v,k=>by obtain⟨l,o,r,p,rfl,h⟩:=nQ k;simp only[Ap]at h;obtain⟨⟨⟨⟨j,z⟩,A⟩,s⟩,m⟩:=h;have j:=Bn j;subst j;exact J0 d.un (tF r (op:=op) (by simpa using z) (by simpa using A)) (dQ d R a l s) (dQ d R b r m)
 |.call f y,v,k=>by
  obtain⟨x,q,u,p,rfl,h⟩:=aH k;simp only[Ap]at h;obtain⟨⟨⟨⟨⟨j,s⟩,m⟩,A⟩,B⟩,z⟩:=h;obtain⟨D,C,I⟩:=bG d s;obtain⟨U,n,J,T,F,O,Q⟩:=d.fns f x (Pl.mp j) (by simpa using B);have F:cT X.prog X.w X.K X.mg X.base J U n (vS X.K n (Ψ f) (Φ f)):=by rw[<-d.Er]at A;cases P:Ψ f<;>rw[P]at A F<;>first|exact F|exact ff A
  have t:=ux z;cases u with
  |nil=>exact ff m
  |cons e u=>rw[Gg,Ap]at t;exact En (p:=q) (pos:=p) F O D T Q (eU d R y _ z) C (aD t.1 _ _) (cu t.2 _ _)
 |.blt b y,v,k=>by
  obtain⟨x,q,u,p,rfl,h⟩:=aH k;simp only[Ap]at h;obtain⟨⟨⟨⟨⟨⟨j,s⟩,m⟩,z⟩,A⟩,L⟩,B⟩:=h;have j:=Bn j;obtain⟨D,C,I⟩:=bG d s;have hz:=d.sX x (Tv.mp m);have t:=ux B;cases u with
  |nil=>exact ff L
  |cons e u=>
   rw[Gg,Ap]at t;rcases r9 d.calm b (by simpa using A)with⟨N,E,H⟩|⟨N,E,H⟩
   .exact J3 H D hz (by rw[j];exact E) (eU d R y _ B) I C (aD t.1 _ _) (cu t.2 _ _)
   .exact J5 H D hz (by rw[j];exact E) (eU d R y _ B) I C (aD t.1 _ _) (cu t.2 _ _)
 |.ix a b,v,k=>by obtain⟨l,r,p,rfl,h⟩:=cV k;simp only[Ap]at h;obtain⟨⟨j,s⟩,m⟩:=h;exact NW (pJ j) (dQ d R a l s) (dQ d R b r m)
 |.lst y,v,k=>by obtain⟨u,p,rfl,h⟩:=lD k;exact J9 (eU d R y u h)
 |.tup y,v,k=>by obtain⟨u,kd,p,rfl,h⟩:=cU k;exact Ka (eU d R y u h)
 |.and _,v,k=>by cases k
 |.or _,v,k=>by cases k
 |.var i,v,k=>cE d R rfl rfl k
 |.int i,v,k=>cE d R rfl rfl k
 |.bl i,v,k=>cE d R rfl rfl k
 |.str i,v,k=>cE d R rfl rfl k
 |.aJ,v,k=>cE d R rfl rfl k
 |.vG n,v,k=>cE d R rfl rfl k
 |.glob g,v,k=>cE d R rfl rfl k
 |.neg a,v,k=>cE d R rfl rfl k
 |.not a,v,k=>cE d R rfl rfl k
 |.kT p q a b c,v,k=>cE d R rfl rfl k
 |.sl a b c,v,k=>cE d R rfl rfl k
 |.comp Z one n i c x,v,k=>cE d R rfl rfl k
 |.gJ y,v,k=>cE d R rfl rfl k
 |.oX a,v,k=>cE d R rfl rfl k
 |.rev a,v,k=>cE d R rfl rfl k
 |.Jh a b,v,k=>cE d R rfl rfl k
 |.own i Y,v,k=>cE d R rfl rfl k
 |.vH is a,v,k=>cE d R rfl rfl k
theorem eU{S:SE}{X:Cx}(d:XOk S Φ Ψ G X)(R:Addr->Prop):∀(c:List CE)(b:List Expr),lN S c b=true->Ek X S.M R b (HD Φ G R c)
 |[],b,k=>by rw[Hb.mp k];exact El
 |a::c,[],k=>by cases k
 |a::c,e::b,k=>by have k:=a2 k;exact AL (aD (GY k.1) _ _) (dQ d R a e k.1) (eU d R c b k.2)
end
theorem EV{v:Expr}(a:wk v=true)(b:GU v=true)(t:Option Expr)(l:Nat)(env:Env):swapsWith v t l env=pure false:=by
 cases v with
 |ListComp _ _ _ _=>exact ff b
 |SetComp _ _ _ _=>exact ff a
 |DictComp _ _ _ _ _=>exact ff a
 |_=>rfl
theorem U8{v:Expr}(h:A7 v=true):wk v=true:=by cases v<;>first|rfl|exact ff h
theorem EW(j:Nat)(e:CE):iQ Φ Ψ G (.Av j e):=by intro S X m a o k;obtain⟨x,p,v,q,rfl,b⟩:=nT k;simp only[Ap]at b;obtain⟨⟨⟨⟨h,g⟩,d⟩,c⟩,f⟩:=b;have n:=pO a h;exact Em (tt:=λR=>wP Φ G R e) (λ{l} i=>tu a.nd n.1 n.2.1 i (EV (U8 c) d _ _ _) n.2.2) (iJ (by simpa using g)) λR=>dQ a.toXOk R _ v f
theorem K6(e:CE):iQ Φ Ψ G (.ret e):=by
 intro S X m f h k;rcases Bg k with⟨v,q,rfl,a⟩|⟨q,rfl,a⟩
 .unfold Oo at a;rw[Ap]at a;obtain⟨c,a⟩:=a;have c:fu m=false:=by simpa using c
  rcases dO a with a|d
  .rcases dO a with a|a
   .rw[Ap]at a;have g:m=.s:=by cases m<;>first|rfl|exact ff a.1
    rcases dO a.2 with b|b
    .exact AJ (te:=λR=>wE Φ G R e) (λR=>(snd Φ Ψ G e).e (f.toXOk.Ma []) v b R) (.inr g) c
    .subst g;exact Ei (te:=λR=>wE Φ G R e) λR=>(snd Φ Ψ G e).s f.toXOk b R
   .rw[Ap]at a;exact AJ (te:=λR=>wE Φ G R e) (λR=>KW (f.toXOk.Ma []) a.2 R) (.inl (lM a.1)) c
  .unfold Om at d;split at d
   .rename_i i hv
    obtain rfl:=yC hv;have b:=a2 d;exact Ej (gb f.toXOk b.2) (wj b.1) c
   .exact ff d
 .rw[Ap]at a;obtain rfl:=yz a.1;cases m<;>try exact ff a.2
  exact EM
theorem K7:iQ Φ Ψ G .brk:=by
 intro S X m b a k;cases a with
 |Break _=>exact JN
 |_=>exact ff k
theorem Ot(c:CE){a b:List CS}(l:gH Φ Ψ G a)(j:gH Φ Ψ G b):iQ Φ Ψ G (.iff c a b):=by intro S X m d n k;obtain⟨t,x,y,q,rfl,e⟩:=Bh k;simp only[Ap]at e;obtain⟨⟨⟨i,h⟩,g⟩,f⟩:=e;exact NT (tc:=λR=>wE Φ G R c) (λR=>(snd Φ Ψ G c).t d.toXOk t i h R) (l d x g) (j d y f)
theorem K8(c:CE){b:List CS}(h:gH Φ Ψ G b):iQ Φ Ψ G (.nM c b):=by intro S X m d i k;obtain⟨t,x,q,rfl,a⟩:=Bj k;simp only[Ap]at a;obtain⟨⟨g,f⟩,e⟩:=a;exact JU ((snd Φ Ψ G c).t d.mF.toXOk t g f _) (h d.mF x e)
theorem K9(h:List Nat)(one:Bool)(e:CE){b:List CS}(t:gH Φ Ψ G b):iQ Φ Ψ G (.fr h one e b):=by
 intro S X m c u k;obtain⟨f,i,x,q,rfl,a⟩:=Bk k;unfold Tf at a;split at a;rotate_left
 .cases a
 rename_i o xs KN
 simp only[Ap]at a;obtain⟨⟨⟨⟨⟨⟨d,s⟩,r⟩,n⟩,g⟩,l⟩,j⟩:=a;have d:=Pl.mp d;subst d;refine JV (ti:=λR=>wE Φ G R e) c.calm (pP r) ((snd Φ Ψ G e).i c.mF.toXOk f false i (by rw[l];rfl) (λz=>?_) _) (KL (X:=X.mF) c.calm c.mF.nd KN (j3 c.mF s)) (t c.mF x j) (sd n _);have:one=false:=by rw[z]at g;simpa using g
 subst this;cases f with
 |Tuple v a p=>exact⟨_,_,_,rfl⟩
 |Name y p=>cases KN
 |_=>exact nn KN
theorem EX:gH Φ Ψ G []:=by intro S X m b a k;rw[Hb.mp k];exact Ef
noncomputable def GZ(Φ:Nat->aT)(Ψ:Nat->Md)(G:Nat->W):CS->Prop
 |.L1 _ b=>gH Φ Ψ G b
 |_=>True
theorem EY{S:SE}{m:Md}{s:CS}{a:List CS}{st:List Stmt}(k:eT S Ψ m (s::a) st=true):(∃c b,s=.L1 c b/\(a.isEmpty&&(!fu m||!c.contains 0)&&eT (S.lend c) Ψ m b st)=true)\/A6 (λe=>EF S Ψ m s e) (λd=>eT S Ψ m a d) st=true:=by
 cases s<;>first|exact .inr k|exact .inl ⟨_,_,rfl,k⟩
theorem Br{s:CS}{c:List CS}(h:iQ Φ Ψ G s/\GZ Φ Ψ G s)(v:gH Φ Ψ G c):gH Φ Ψ G (s::c):=by
 intro S X m a d k;rcases EY k with⟨u,b,rfl,o⟩|k
 .obtain⟨n,p⟩:=a2 o;obtain⟨l,f⟩:=a2 n;cases Hb.mp l;have q:fu m=true->aL S.M 0->aL (S.lend u).M 0:=by rintro e ⟨g,A⟩;rw[e]at f;exact⟨g,Re.mpr ⟨A,f⟩⟩
  have w:gH Φ Ψ G b:=h.2;exact Eh (w (a.Ma _ λi m j y x=>a.KR i m j (gc _ y) (gc _ x)) d p) gc q
 have h:iQ Φ Ψ G s:=h.1;cases d with
 |nil=>exact ff k
 |cons e r=>
  have k:EF S Ψ m s e=true/\eT S Ψ m c r=true:=a2 k;cases c with
  |nil=>
   have:r=[]:=by have:=k.2;exact Hb.mp this
   subst this;exact Eg (h a e k.1)
  |cons t B=>have z:=AI (h a e k.1) (v a r k.2);exact z
variable(Φ Ψ G)
mutual
theorem RO:∀s:CS,iQ Φ Ψ G s/\GZ Φ Ψ G s
 |.set i e=>⟨KZ i e,trivial⟩
 |.CD d e=>⟨K0 d e,trivial⟩
 |.par d g=>⟨K2 d g,trivial⟩
 |.app i e=>⟨K4 i e,trivial⟩
 |.put i k e=>⟨K5 i k e,trivial⟩
 |.Av j e=>⟨EW j e,trivial⟩
 |.ret e=>⟨K6 e,trivial⟩
 |.iff c a b=>⟨Ot c (lP a) (lP b),trivial⟩
 |.nM c b=>⟨K8 c (lP b),trivial⟩
 |.fr d one f b=>⟨K9 d one f (lP b),trivial⟩
 |.brk=>⟨K7,trivial⟩
 |.L1 h b=>⟨λ_ _ k=>(by cases k),lP b⟩
theorem lP:∀a:List CS,gH Φ Ψ G a
 |[]=>EX
 |s::a=>Br (RO s) (lP a)
end
end
structure Tab(P:Program)(w:World)(K:Frag)(mg:Str->Option Value)(base:Heap)(fn gn zn:List Str)(md:List Md)(mt:List (Nat×Nat))(Φ:Nat->aT)(G:Nat->W)(k:Nat):Prop where
 fns:∀(j:Nat)(x:Str),fn[j]?=some x->mt.any (·.1==j)=false->∃fv n k',mg x=some fv/\cT P w K mg base k' fv n (ue K n (lz md j) (Φ j))/\k'<=k/\∀ws P R,Φ j ws P R->ws.length=n
 GP:∀(j g:Nat)(x:Str),fn[j]?=some x->(j,g)∈mt->∃f fd ps n k',(∀C,G g=.cls C->Meth K C x f)/\Binds K fd ps []/\bO P w K mg base (jb P w) k' f fd ps (ue K n (lz md j) (Φ j))/\k'<=k/\∀ws P R,Φ j ws P R->ws.length=n
 Es:∀(j:Nat)(x:Str),gn[j]?=some x->∃u v,mg x=some u/\RelV v u/\∀B H,Rep K B H (G j) v
 sX:∀x∈zn,mg x=none
 kit:rP K
 KQ:∀j x C,gn[j]?=some x->G j=.cls C->Q0 K C
noncomputable def aq(n:Nat)(a:List W):Ev:=a.map some++Dg (n -a.length) none
noncomputable def fall:Md->(W->Prop)->Ev->Prop
 |.s,P,_=>P .aJ
 |.io _,P,a=>match look a 0 with
  |some b=>P (.tup [.aJ,b])
  |none=>False
 |_,_,_=>False
section
variable{K:Frag}{A:Addr->Prop}{H:Hp}{N:List Str}{ws:List W}{vs:List V}{M:Ms}
theorem lQ{i:Nat}{w:W}(a:ws.length<=i)(e:look (aq N.length ws) i=some w):False:=by
 rw[aW]at e;unfold aq at e;rw[KM (by simp;omega),TK]at e;split at e
 .cases e
 .cases e
theorem yF{i:Nat}{w:W}(h:aj K A H ws vs)(e:look (aq N.length ws) i=some w):∃v,(start N vs)[i]?=some (some v)/\Rep K A H w v:=by
 have f:=h.len;by_cases a:i<ws.length
 .rw[aW]at e;unfold aq at e;rw[N0 (by simpa using a),Da]at e;obtain⟨d,c,b⟩:=IR.mp e;cases b;obtain⟨v,b,r⟩:=h.get c;refine⟨v,?_,r⟩;unfold L2.start;rw[N0 (by simp;lia),Da,b];rfl
 .exact(lQ (by lia) e).elim
theorem Bs(h:aj K A H ws vs)(d:Dom A H)(g:∀i m,(i,m)∈M->ws.length<=i)(b:∀i m a,(i,m)∈M->(i,a)∈M->m=a):SR K M ⟨A,A,none⟩ H (start N vs) H (aq N.length ws):=by have f:=h.len;refine⟨by simp[L2.start,aq,f],λi w k e=>yF h e,au.refl _,d,(λv e=>by cases e),λ_=>[],⟨b,λi m w c e=>(lQ (g i m c) e).elim,λ_ _ _=>rfl,λ_ _=>XE,(λi j p _ _ z=>by cases z),(λi p _ z=>by cases z),(λi p _ z=>by cases z),λp=>⟨.inl,λz=>z.elim id<|by rintro⟨_,_,z⟩;cases z⟩⟩⟩
open Classical in
end
theorem Ou{M:Ms}(h:(M.map (·.1)).Nodup):∀i m c,(i,m)∈M->(i,c)∈M->m=c:=by
 induction M with
 |nil=>intro i m c a;cases a
 |cons x M d=>
  obtain⟨j,k⟩:=x;rw[P3,SZ]at h;intro i m c a b;rcases GE.mp a with a|a
  .rcases GE.mp b with b|b
   .cases a;cases b;rfl
   .cases a;exact(h.1 (IH.mpr ⟨_,b,rfl⟩)).elim
  .rcases GE.mp b with b|b
   .cases b;exact(h.1 (IH.mpr ⟨_,a,rfl⟩)).elim
   .exact d h.2 i m c a b
section
variable{P:Program}{w:World}{K:Frag}{mg:Str->Option Value}{base:Heap}{x qual:Str}{st:Stmt}{f:Addr}{fd:FuncData}{N ps:List Str}{k:Nat}{fn gn zn:List Str}{md:List Md}{mt:List (Nat×Nat)}{Φ:Nat->aT}{G:Nat->W}
theorem La{M:Ms}{b:Value}{A:Around}{a:List Env}{s:Shared}{H:Hp}{E:XK}(t:fj N ps (ao st))(T:Tab P w K mg base fn gn zn md mt Φ G k)(q:bY k (gO P w K mg base N qual (ao st) f b A a s H E).A)(un:∀i m r,(i,m)∈M->(i,r)∈M->m=r):
 uu ⟨N,(ao st).names,M,fn,gn,zn,md,mt⟩ Φ (lz md) G (gO P w K mg base N qual (ao st) f b A a s H E):=
 {hN:=rfl,nd:=t.nd,calm:=rfl,un:=q.units,nk:=λ_=>rfl,
  fns:=λj x e h=>by obtain⟨v,n,p,o,l,d,c⟩:=T.fns j x e h;exact⟨v,n,p,o,l,q.mono d,c⟩
  GP:=λj g x e h=>by obtain⟨f,fd,ps,n,p,o,l,d,c,u⟩:=T.GP j g x e h;exact⟨f,fd,ps,n,p,o,l,d,q.mono c,u⟩
  Er:=rfl,Es:=T.Es,sX:=T.sX,kit:=T.kit,
  bk:=by show(if(ao st).kind.isAnnotationScope then ScopeKind.function else(ao st).kind)=_;rw[t.kind];rfl
  L8:=λ_=>rfl,KQ:=T.KQ,KR:=un}
theorem Lb(F:CC K x qual st f fd)(O:fj N ps (ao st))(T:Tab P w K mg base fn gn zn md mt Φ G k)(b:List CS)(M:Ms)(m:Md)(t:aT)(hM:M.all (λi=>decide (ps.length<=i.1))=true)(hu:(M.map (·.1)).Nodup)(d:fu m=false)
 (g:eT ⟨N,(ao st).names,M,fn,gn,zn,md,mt⟩ (lz md) m b (aY st)=true)(B:∀c P R,t c P R->c.length=ps.length)
 (hp:∀c P R,t c P R->wSs Φ G b ⟨fall m P,P,λ_=>False,λ_=>False,R⟩ (aq N.length c)):bO P w K mg base (jb P w) (k+1) f fd ps (vS K ps.length m t):=by
 refine CC.Sz F O (by rintro vs H Q E ⟨A,c,P,R,p,o,_⟩;rw[o.len,p]) λcdv A n s H vs Q E hr hz=>?_;obtain⟨U,c,u,R,p,o,h3,h4,L,J⟩:=hz;have y:=Ou hu;refine⟨_,lP Φ (lz md) G b (La O T hr y) (aY st) g,⟨U,U,none⟩,H,aq N.length c,⟨fall m u,u,λ_=>False,λ_=>False,R⟩,Bs o h3 (λi m hi=>?_) y,⟨E,Nh,λC j rc l=>J C j rc l,λe Z S s1 h' a C h I hx q=>DB e Z S s1 h' a C h I hx (J C S q.1 q.2)⟩,(by rw[d];rfl),hp c u R h4,⟨λA' ε' Y j ea eb D S'=>?_,λw v j hw l r=>?_,λ_ _ _ _ _ _ z=>z.elim,λ_ _ _ _ _ _ z=>z.elim⟩⟩
 .rw[p];exact Bn (He.mp hM (i,m) hi)
 .cases m with
  |s=>exact L .aJ .aJ j D S'.sm (.of (by dsimp only[Rep]))
  |io _=>cases d
  |_=>exact D.elim
 .cases m with
  |io _=>cases d
  |_=>exact L w v j hw l r
end
end VL
namespace L2
open PySem PySem.Spec PyProof.Rows
abbrev rv(as:List (Addr×Rat)):List V:=as.map λx=>V.ref x.1
section
variable{X:Cx}{H:Hp}
end
theorem yG{α:Type}{a:List α}{x:α}(h:a.getLast?=some x):i8 a (-1)=some x:=by
 have c:a≠[]:=by intro z;rw[z]at h;cases h
 have b:0<a.length:=Hc.mpr c;unfold i8;have e:sO a.length (-1)=some (a.length -1):=by unfold sO;rw[Bi (by decide),Bz (by lia)];congr 1;lia
 rw[e];show a[a.length -1]?=_;rw[<-h,Wr]
end L2
namespace VL
open PySem PySem.Spec
open PyProof.Rows hiding St
open L2
section
variable{K:Frag}{A:Addr->Prop}{H H':Hp}{v:V}{p:Addr}{r:Rat}{rs:List Rat}
theorem Ov{a b:W}{vs:List V}(h:aj K A H [a,b] vs):∃x y,vs=[x,y]/\Rep K A H a x/\Rep K A H b y:=by obtain⟨x,l,rfl,d,h⟩:=h.cons_inv;obtain⟨y,l,rfl,c,h⟩:=h.cons_inv;rw[h.nil_inv];exact⟨x,y,rfl,d,c⟩
theorem EZ{a b c:W}{vs:List V}(h:aj K A H [a,b,c] vs):∃x y z,vs=[x,y,z]/\Rep K A H a x/\Rep K A H b y/\Rep K A H c z:=by obtain⟨x,l,rfl,f,h⟩:=h.cons_inv;obtain⟨y,z,rfl,e,d⟩:=Ov h;exact⟨x,y,z,rfl,f,e,d⟩
theorem Ow{a:W}{vs:List V}(h:aj K A H [a] vs):∃x,vs=[x]/\Rep K A H a x:=by obtain⟨x,l,rfl,b,h⟩:=h.cons_inv;rw[h.nil_inv];exact⟨x,rfl,b⟩
end
noncomputable def bw:List aT->Nat->aT
 |[],_=>λ_ _ _=>False
 |x::_,0=>x
 |_::l,n+1=>bw l n
noncomputable def qG:List W->Nat->W
 |[],_=>.aJ
 |x::_,0=>x
 |_::l,n+1=>qG l n
section
variable{Q:W->Prop}{l a b:List W}{i j:Int}{x y:Str}{p q:Bool}
theorem x_len:kU .len [.lst l] Q=Q (.int l.length):=rfl
theorem zg{ns:List Int}:kU .len [.fV ns] Q=Q (.int ns.length):=rfl
theorem zf:kU .len [.tup l] Q=Q (.int l.length):=rfl
theorem FF:kU .abs [.int i] Q=Q (.int (if i<0 then-i else i)):=rfl
theorem FG:kU .max2 [.int i,.int j] Q=Q (.int (if j>i then j else i)):=rfl
theorem FH:kU .min2 [.int i,.int j] Q=Q (.int (if j<i then j else i)):=rfl
theorem Ox:kU .all [.lst l] Q=∃c:List Bool,l=c.map W.bl/\Q (.bl (c.all id)):=rfl
theorem zh:kU .list [.lst l] Q=Q (.lst l):=rfl
theorem ve:kU .list [.tup l] Q=Q (.lst l):=rfl
theorem vf:kU .tuple [.lst l] Q=Q (.tup l):=rfl
theorem qH:kU .tuple [.tup l] Q=Q (.tup l):=rfl
theorem FI:kU .int [.bl p] Q=Q (.int (if p then 1 else 0)):=rfl
theorem wD{w:W}{n:String}:kU .sU [w,.ty n] Q=∃a,SK w=some a/\Q (.bl (oY a n)):=rfl
theorem FJ:dJ .Add (.int i) (.int j) Q=Q (.int (i+j)):=rfl
theorem FL:dJ .Add (.lst a) (.lst b) Q=(a.length+b.length<=sizeLine/\Q (.lst (a++b))):=rfl
theorem FN:dJ .Sub (.int i) (.int j) Q=Q (.int (i -j)):=rfl
theorem FO:dJ .Mult (.int i) (.int j) Q=(IntMulOk i j/\Q (.int (i*j))):=rfl
theorem FP:dJ .Mult (.lst a) (.int j) Q=(-(2^63)<=j/\j<2^63/\a.length*j.toNat<=sizeLine/\Q (.lst (Dg j.toNat a).flatten)):=rfl
theorem zj:dJ .FloorDiv (.int i) (.int j) Q=(Ad i j/\Q (.int (i.fdiv j))):=rfl
theorem FQ:dJ .Mod (.int i) (.int j) Q=(j≠0/\Q (.int (i.fmod j))):=rfl
theorem FT:dJ .Pow (.int i) (.int j) Q=(xG i j/\Q (.int (i^j.toNat))):=rfl
theorem FU:dJ .RShift (.int i) (.int j) Q=(0<=j/\Q (.int (i/2^j.toNat))):=rfl
theorem Mj:eO .Eq (.int i) (.int j) Q=Q (.bl (decide (i=j))):=rfl
theorem Ml:eO .NotEq (.int i) (.int j) Q=Q (.bl (!decide (i=j))):=rfl
theorem x_lt:eO .Lt (.int i) (.int j) Q=Q (.bl (decide (i<j))):=rfl
theorem Mm:eO .LtE (.int i) (.int j) Q=Q (.bl (decide (i<=j))):=rfl
theorem Mp:eO .Gt (.int i) (.int j) Q=Q (.bl (decide (j<i))):=rfl
theorem Mq:eO .GtE (.int i) (.int j) Q=Q (.bl (decide (j<=i))):=rfl
theorem FW:dN .Lt (.int i) (.int j) Q=Q (.bl (decide (i<j))):=rfl
theorem FY:dN .LtE (.int i) (.int j) Q=Q (.bl (decide (i<=j))):=rfl
theorem Oz:eO .Eq (.lst a) (.lst b) Q=(((qE 9 (.lst a)=true/\qE 9 (.lst b)=true)\/(CF 9 (.lst a)=true/\CF 9 (.lst b)=true))/\∀k:Bool,(k=true↔W.lst a=.lst b)->Q (.bl k)):=rfl
theorem vg{Q:Bool->Prop}:truth (.bl p) Q=Q p:=rfl
theorem Mr:GG (.lst l) (.int i) Q=∃w,i8 l i=some w/\Q w:=rfl
theorem F3{ns:List Int}:GG (.fV ns) (.int i) Q=∃n,i8 ns i=some n/\Q (.int n):=rfl
theorem F4{ns:List Int}{c d:Option Int}:PX (.fV ns) c d Q=Q (.lst (gB (ns.map W.int) c d)):=rfl
theorem FZ:GG (.tup l) (.int i) Q=∃w,i8 l i=some w/\Q w:=rfl
theorem Mt{c d:Option Int}:PX (.lst l) c d Q=Q (.lst (gB l c d)):=rfl
theorem F5{w:W}{Q:Option Int->Prop}:DM .aJ w Q=Q none:=rfl
theorem F6{n:Int}{Q:Option Int->Prop}:DM (.int n) (.int i) Q=Q (some i):=rfl
theorem F7{n:Nat}{Q:Option Int->Prop}:DM (.var n) (.int i) Q=Q (some i):=rfl
theorem F8{o:Operator}{c d:CE}{Q:Option Int->Prop}:DM (.bin o c d) (.int i) Q=Q (some i):=rfl
theorem vh{Q:List W->Prop}:items (.lst l) Q=Q l:=rfl
theorem qI{Q:List W->Prop}:items (.tup l) Q=Q l:=rfl
theorem Mu{n:Nat}{w:W}{c:Ev}{Q:Ev->Prop}:wT true [n] w c Q=Q (c.set n (some w)):=rfl
theorem Mv{c:List Nat}{d:Ev}{Q:Ev->Prop}:wT false c (.tup l) d Q=(l.length=c.length/\Q (bJ d c l)):=by
 cases c<;>rfl
theorem zk{i j:Nat}{c:Ev}{Q:Ev->Prop}:wT false [i,j] (.tup l) c Q=(l.length=2/\Q (bJ c [i,j] l)):=rfl
theorem F9{i j k:Nat}{c:Ev}{Q:Ev->Prop}:wT false [i,j,k] (.tup l) c Q=(l.length=3/\Q (bJ c [i,j,k] l)):=rfl
theorem zm{A B:Prop}:(if true=true then A else B)=A:=rfl
theorem vj{A B:Prop}:(if false=true then A else B)=B:=rfl
end
noncomputable def Tg(c:Nat->aT)(G:Nat->W)(one:Bool)(d:List Nat)(b:List CS):W->Dn->Ev->Prop:=λw f a=>wT one d w a λe=>wSs c G b f e
theorem Mh{c:Nat->aT}{G:Nat->W}{d:List Nat}{one:Bool}{e:CE}{b:List CS}{D:Dn}{a:Ev}:wS c G (.fr d one e b) D a=wE c G (λ_=>False) e a λz=>items z λf=>gR (Tg c G one d b) D f a:=rfl
theorem Mi{c:Nat->aT}{G:Nat->W}{d:List Nat}{one:Bool}{b:List CS}{w:W}{D:Dn}{a:Ev}:Tg c G one d b w D a=wT one d w a λe=>wSs c G b D e:=rfl
noncomputable def WN{α:Type}(S:α->Ev)(J:α->Prop)(c:α->Nat)(s:α):Ev->Prop:=λa=>∃b,a=S b/\J b/\c b<c s
noncomputable def P5{α:Type}(S:α->Ev)(J:α->Prop)(d:α->Nat)(b:Dn->Ev->Prop)(D:Dn)(s:α)(k:Bool):Prop:=
 if k=true then∃N:Ev->Prop,(∀a,N a->∃e,e<d s/\∃c,a=S c/\e=d c/\J c)/\b {nx:=N,rt:=D.rt,bk:=D.nx,ct:=N,ex:=λ_=>False} (S s)else D.nx (S s)
theorem bI{α:Type}{S:α->Ev}{J:α->Prop}{a:α->Nat}{b:Dn->Ev->Prop}{D:Dn}{s:α}{k:Bool}(g:k=true->b {nx:=WN S J a s,rt:=D.rt,bk:=D.nx,ct:=WN S J a s,ex:=λ_=>False} (S s))(f:k=false->D.nx (S s)):P5 S J a b D s k:=by
 unfold P5;cases k with
 |true=>exact⟨_,by rintro c ⟨d,e,j,l⟩;exact⟨_,l,d,e,rfl,j⟩,g rfl⟩
 |false=>exact f rfl
theorem jt{c:Ev->(Bool->Prop)->Prop}{b:Dn->Ev->Prop}{D:Dn}{a:Ev}{α:Type}(S:α->Ev)(J:α->Prop)(e:α->Nat)(d:α)(h:a=S d)(g:J d)(f:∀s,J s->c (S s) (P5 S J e b D s)):DN c b D a:=by refine⟨λm a=>∃s,a=S s/\m=e s/\J s,⟨_,d,h,rfl,g⟩,?_⟩;rintro m _ ⟨s,rfl,rfl,j⟩;exact f s j
theorem eV{α:Type}{f:W->(Option W->Prop)->Prop}{h g:α->W}:∀(b:List α)(a:List W)(Q:List W->Prop),(∀x∈b,∀K:Option W->Prop,K (some (g x))->f (h x) K)->a.length+b.length<=sizeLine->Q (a++b.map g)->jO f (b.map h) a Q
 |[],a,Q,_,_,q=>by rw[OQ,jO];simpa using q
 |w::b,a,Q,c,l,q=>by
  rw[P3,jO];refine c w (FC ..) _ ⟨?_,eV b _ Q (λx d=>c x (FK _ d)) ?_ ?_⟩
  .rw[Eb]at l;lia
  .rw[Fm,F2];rw[Eb]at l;lia
  .rw[OS];exact q
theorem dH{α:Type}(x:α):∀n,(Dg n [x]).flatten=Dg n x
 |0=>rfl
 |n+1=>by rw[Gh,IM,dH x n];rfl
theorem ak{n:Nat}(h:n<=1000):n<=sizeLine:=Hn h (by decide)
theorem Lc(K:Frag):rP K:=by intro a d b c;simp only[GE,WR,or_false]at d c;rcases d with rfl|rfl|rfl|rfl|rfl|rfl<;>rcases c with rfl|rfl|rfl|rfl|rfl|rfl<;>rfl
theorem pQ{n:Nat}(h:n<=1000):n<sizeLine:=Nat.lt_of_le_of_lt h (by decide)
theorem all_true{α:Type}(l:List α):(l.map λ_=>true).all id=true:=by
 induction l with
 |nil=>rfl
 |cons x l a=>rw[P3,Gg,a];rfl
theorem j4(i:Int)(n:Nat):qE n (.int i)=true:=by
 cases n<;>rfl
theorem fy{k:Bool}{p:Prop}(h:k=true↔p)(q:p):k=true:=h.mpr q
theorem eW{k:Bool}{p:Prop}(h:k=true↔p)(q:¬p):k=false:=by
 cases k with
 |false=>rfl
 |true=>exact absurd (h.mp rfl) q
noncomputable def Hd(K:Frag)(x:Str)(st:Stmt):Prop:=∃(f:Addr)(d i:Option Addr)(b:Array (Option Value))(e kV g c a h:Value),
 nsIn K mainGlobals x=some (some (.ref f))/\K.lookup f=some ⟨e,d,.func (fnOf x x (bS st) (aY st) (ao st) .none kV g c i a h),b⟩/\codeIn K a x=true/\keepIn K (.ref f)=true
structure Df(K:Frag)(mg:Str->Option Value)(x:Str)(st:Stmt)(ps:List Str)(f:Addr)(fd:FuncData):Prop where
 F:CC K x x st f fd
 m:mg x=some (.ref f)
 b:Binds K fd ps []
 bt:∀(s:Shared)(us:List Value),us.length=ps.length->BindsTo s fd ⟨us,[]⟩ (ps.zip us)
abbrev gr(x q:Str)(st:Stmt)(ps:List Str):Prop:=∀(kV doc pm:Value)(an:Option Addr)(cdv ct:Value)(us:List Value),us.length=ps.length->bindArgs (fnOf x q (bS st) (aY st) (ao st) .none kV doc pm an cdv ct) ⟨us,[]⟩=pure (ps.zip us)
theorem mT{α:Type}{l:List α}{n:Nat}(h:l.length=n+1):∃a r,l=a::r/\r.length=n:=by
 cases l with
 |nil=>cases h
 |cons a r=>exact⟨a,r,rfl,Rw h⟩
theorem OA{K:Frag}{h:Heap}{e:Str->Option Value}{x:Str}{st:Stmt}{d:List Str}(X:K.In h)(G:h.Ns mainGlobals e)(m:Hd K x st)(b:gr x x st d):∃f n,Df K e x st d f n:=by obtain⟨f,u,r,t,v,kV,o,i,q,p,a,l,c,k⟩:=m;have F:=IK (st:=st) l c k;exact⟨f,_,F,PySem.W.mg_of X G a,F.binds b,λs g j=>.of_eq (b kV o i r q p g j)⟩
theorem uy{K:Frag}{H:Hp}{a:Addr}{ns:List Int}(c:zS H)(b:eE K H a (ns.map V.int)):Rep K (λ_=>False) H (.fV ns) (.ref a):=by
 refine⟨a,rfl,?_⟩;rcases b with(h|⟨o,h⟩)|h
 .rcases c a with z|⟨o,d,z⟩
  .rw[z]at h;cases h
  .rw[z]at h;cases h
 .exact .inl ⟨o,h⟩
 .exact .inr (.inr h)
noncomputable def Ld:aT:=λb Q _=>∃a:List Int,b=[.fV a]/\a.length<=63/\Q (.bl true)
noncomputable def wF(K:Frag):Sp:=λc H Q _=>∃(a:Addr)(b:List Int),c=[.ref a]/\zS H/\eE K H a (b.map V.int)/\b.length<=63/\∀d,Q (.bl true) d
theorem Le{P:Program}{w:World}{K:Frag}{c:Str->Option Value}{base:Heap}{k:Nat}{f:Addr}{d:FuncData}{x:Str}(F:bO P w K c base (jb P w) k f d [x] (vS K 1 .s Ld)):bO P w K c base Nb k f d [x] (wF K):=by refine(bO.Ni F).imp λm H Q E ⟨a,b,e,j,i,h,q⟩=>?_;subst e;refine⟨λ_=>False,[.fV b],λw=>w=.bl true,λ_=>False,rfl,.cons (uy j i) .nil,λ_ z=>z.elim,⟨b,rfl,h,rfl⟩,λw v l g _ r=>?_,λ_ _ z=>z.elim⟩;subst g;have r:=r.aZ;dsimp only[Rep]at r;subst r;exact q l
theorem walk{l:PySem.W.OpenLaw}{q:Program}{b:List Str}{C:(Str->Option Value)->Heap->Prop}{m:World->Heap->Prop}{d:DefRec}{K:Params->Frag}{k:Nat}(t:l.most=some 63)(g:d.params.defaults=[])(r:bY k callerA)(D:importsNone q=true)(e:l.prog.given.tree=none)
 (y:∀(w:World)(h:Heap),m w h->(K w.params).In h)
 (F:∀(w:World)(c:Str->Option Value)(j:Addr)(h:Heap),(K w.params).In h->h.Ns mainGlobals c->c d.name=some (.ref j)->
   ∃i:FuncData,(∀(s:Shared)(u:Value),BindsTo s i ⟨[u],[]⟩ [("_law_script",u)])/\∀base:Heap,(K w.params).In base->base.Ns mainGlobals c->bO l.prog w (K w.params) c base Nb k j i ["_law_script"] (wF (K w.params))):
 PySem.W.WalkO q b C m l.row.toRowW d [] (λf o=>PySem.call f o):=
 L2.Dh (n:=63) (k:=k) (x:="_law_script") (CX:=λ_=>Nb) (sp:=λw=>wF (K w.params)) t (by decide) g r D e y F (λ_ _ a p v B A=>⟨a,p,rfl,B,A,v,λ_=>rfl⟩) λ_ _ _ _ _ z=>z
noncomputable def RP:aT:=λ_ _ _=>False
theorem OB{P:Program}{w:World}{K:Frag}{e:Str->Option Value}{base:Heap}{k n:Nat}{f:Addr}{g:FuncData}{d:List Str}:bO P w K e base (jb P w) k f g d (ue K n .s RP):=
 ⟨by rintro c H Q E ⟨_,_,_,_,_,_,_,z,_⟩;exact z.elim,by rintro A a s H b h c Q E i l j r ⟨_,_,_,_,_,_,_,z,_⟩;exact z.elim⟩
theorem Df.gS{P:Program}{w:World}{K:Frag}{d:Str->Option Value}{base:Heap}{x:Str}{st:Stmt}{e:List Str}{f:Addr}{i:FuncData}{k n:Nat}{m:Md}{sp:aT}(D:Df K d x st e f i)(F:bO P w K d base (jb P w) k f i e (ue K n m sp))(l:n=e.length)(j:∀a P R,sp a P R->a.length=n){g:Nat}(o:k<=g):
 ∃h n c,d x=some h/\cT P w K d base c h n (ue K n m sp)/\c<=g/\∀a P R,sp a P R->a.length=n:=by
 subst l;exact⟨_,_,k,D.m,.fn D.F.kp D.b F,o,j⟩
end VL
namespace VL
open PySem PySem.Spec
open PyProof.Rows hiding St
open L2 Num
abbrev aX(m:Md)(P:W->Prop)(R:Addr->Prop):Dn:=⟨fall m P,P,λ_=>False,λ_=>False,R⟩
noncomputable def wI(ns:List Int):W:=.lst (ns.map W.int)
theorem aP{b:W->Dn->Ev->Prop}{D:Dn}{d:List W}{a:Ev}(J:Nat->Ev->Prop)(n:J 0 a)(l:∀i w a N,d[i]?=some w->J i a->(∀c,J (i+1) c->N c)->b w ⟨N,D.rt,D.nx,N,λ_=>False⟩ a)(m:∀a,J d.length a->D.nx a):gR b D d a:=by
 have:∀k i a,i+k=d.length->J i a->gR b D (d.drop i) a:=by
  intro k
  induction k with
  |zero=>intro i a e j;rw[List.drop_of_length_le (by lia),gR];exact m a (by rw[<-e];exact j)
  |succ k h=>
   intro i a e j;have f:i<d.length:=by lia
   rw[PP f,gR];exact l i _ a _ (B1 f) j λc g=>h (i+1) c (by lia) g
 exact this d.length 0 a (by lia) n
theorem cy{x y:Int}{n m:Nat}(h:x.natAbs<2^n)(b:y.natAbs<2^m)(a:n+m<=134217728):IntMulOk x y:=tY (Hn (Nat.add_le_add (bits_le h) (bits_le b)) a)
theorem gf{y:Int}{n:Nat}(h:y.natAbs<2^n)(a:n<=8000):y.natAbs.log2<1000000000:=by
 rcases Nat.eq_zero_or_pos y.natAbs with e|e
 .rw[e];decide
 .have:=(Xa (X4 e)).mpr h;lia
noncomputable def lS:List CS:=[.ret (.comp [0] true 1 (.var 0) (.bl true) (.bin .Mult (.var 2) (.var 0)))]
noncomputable def iS:aT:=λc Q _=>∃(a:List Int)(b:Int),c=[wI a,.int b]/\a.length<=1000/\(∀x∈a,IntMulOk b x)/\Q (wI (a.map (b*·)))
theorem Bt{e:Nat->aT}{G:Nat->W}{m:Md}(c:List W)(Q:W->Prop)(R:Addr->Prop)(h:iS c Q R):wSs e G lS (aX m Q R) (aq 2 c):=by obtain⟨d,b,rfl,i,j,a⟩:=h;show wSs _ _ lS _ [some (wI d),some (.int b)];unfold lS wI;fin2;refine eV (g:=λx=>.int (b*x)) d [] _ (λx f K k=>⟨j x f,k⟩) (ak (by simpa using i)) ?_;rw[VQ];unfold wI at a;rw[W9]at a;exact a
theorem dI{n i:Nat}{w:W}(h:(cj 0 1 n)[i]?=some w):i<n/\w=.int i:=by unfold cj at h;rw[Da]at h;obtain⟨j,e,rfl⟩:=IR.mp h;obtain⟨b,a⟩:=Fh.mp e;rw[OD]at a;rw[GT]at b;refine⟨b,?_⟩;rw[<-a];simp
theorem fz(n:Nat):(cj 0 1 n).length=n:=by unfold cj;simp
theorem aO{l:List W}{k:Nat}{w:W}(h:l[k]?=some w):i8 l (k:Int)=some w:=by unfold i8 sO;have:=(Fh.mp h).1;rw[Bz (by lia),Bz (by lia)];simpa using h
theorem gU{n k:Nat}(h:k<n):sO n (k:Int)=some k:=by unfold sO;rw[Bz (by lia),Bz (by lia)];simp
theorem fm{x:Int}{n:Int}(a:0<n):0<=x.fmod n/\x.fmod n<n:=⟨Int.fmod_nonneg_of_pos x a,Int.fmod_lt_of_pos x a⟩
theorem ai{b:Nat->aT}{G:Nat->W}{s t:CS}{d:List CS}{D:Dn}{c:Ev}(J:Ev->Prop)(f:∀N:Ev->Prop,(∀a,J a->N a)->wS b G s {D with nx:=N} c)(e:∀a,J a->wSs b G (t::d) D a):wSs b G (s::t::d) D c:=f _ e
theorem int_at{ns:List Int}{k:Nat}(h:k<ns.length):(ns.map W.int)[k]?=some (.int (ns.getD k 0)):=by rw[Da,AC,B1 h];rfl
theorem uz{ns:List Int}{P:Int->Prop}(h:∀n∈ns,P n){k:Nat}(a:k<ns.length):P (ns.getD k 0):=by rw[AC,B1 a];exact h _ (L9 _)
theorem sf(ns:List Int)(k:Nat)(h:k<=ns.length):gB (ns.map W.int) none (some (k:Int))=(ns.take k).map W.int:=by unfold gB;rw[HT.om,HT.zN,AN,List.drop_zero,show min k ns.length -0=k by lia,SY]
noncomputable def ju:List CS:=[.set 1 (.blt .len [(.var 0)]),.nM (.and [(.cmp .Gt (.var 1) (.int 0)),(.cmp .Eq (.ix (.var 0) (.bin .Sub (.var 1) (.int 1))) (.int 0))]) [.set 1 (.bin .Sub (.var 1) (.int 1))],.ret (.sl (.var 0) .aJ (.var 1))]
noncomputable def bz:aT:=λc Q _=>∃a:List Int,c=[wI a]/\∀b,cZ a b->Q (wI b)
theorem yH{l:Nat->aT}{G:Nat->W}{m:Md}(i:List W)(Q:W->Prop)(R:Addr->Prop)(h:bz i Q R):wSs l G ju (aX m Q R) (aq 2 i):=by
 obtain⟨c,rfl,n⟩:=h;show wSs _ _ ju _ [some (wI c),none];unfold ju wI;fin2;refine jt (α:=Nat) (λk=>[some (.lst (c.map W.int)),some (.int k)]) (λk=>k<=c.length/\∀j,k<=j->j<c.length->c.getD j 0=0) (λk=>k) c.length (by rw[AN]) ⟨BM _,λj g f=>by lia⟩ ?_;rintro k ⟨g,f⟩;fin2;have d:(k=0\/c.getD (k -1) 0≠0)->Q (.lst (gB (c.map W.int) none (some (k:Int)))):=λh=>by rw[sf c k g];exact n _ ⟨k,g,rfl,f,h⟩
 by_cases o:0<k
 .rw[Bz (DL (by lia))];rw[show(k:Int) -1=((k -1:Nat):Int) by lia];refine⟨_,aO (int_at (by lia)),?_⟩;fin2;refine bI (λz=>?_) (λz=>?_)
  .have z:=Bn z;fin2;refine⟨k -1,by rw[show(k:Int) -1=((k -1:Nat):Int) by lia],⟨by lia,λj a b=>?_⟩,by show k -1<k;lia⟩;by_cases e:j=k -1
   .rw[e];exact z
   .exact f j (by lia) b
  .have z:=SU z;fin2;exact d (.inr z)
 .rw[Bi (by rw[FS];lia)];refine bI (λz=>by cases z) (λ_=>?_);fin2;exact d (.inl (by lia))
noncomputable def fE:List CS:=[.set 2 (.blt .max2 [(.blt .len [(.var 0)]),(.blt .len [(.var 1)])]),.set 3 (.bin .Add (.blt .list [(.var 0)]) (.bin .Mult (.lst [(.int 0)]) (.bin .Sub (.var 2) (.blt .len [(.var 0)])))),.fr [4,5] false (.oX (.var 1)) [.put 3 (.var 4) (.bin .Add (.ix (.var 3) (.var 4)) (.var 5))],.ret (.call 0 [(.var 3)])]
noncomputable def dR:aT:=λd Q _=>∃a b:List Int,d=[wI a,wI b]/\a.length<=200/\b.length<=200/\∀c,cZ ((Ea (max a.length b.length)).map λk=>a.getD k 0+b.getD k 0) c->Q (wI c)
theorem pR{G:Nat->W}{m:Md}(t:List W)(Q:W->Prop)(R:Addr->Prop)(h:dR t Q R):wSs (bw [bz]) G fE (aX m Q R) (aq 6 t):=by
 obtain⟨b,a,rfl,u,v,E⟩:=h;show wSs _ _ fE _ [some (wI b),some (wI a),none,none,none,none];unfold fE wI;fin2;have c:(if((a.map W.int).length:Int)>((b.map W.int).length:Int)then((a.map W.int).length:Int)else((b.map W.int).length:Int))=((max b.length a.length:Nat):Int):=by rw[AN,AN];split<;>lia
 rw[c];have d:((max b.length a.length:Nat):Int) -((b.map W.int).length:Int)=((max b.length a.length -b.length:Nat):Int):=by rw[AN];clear c v u;lia
 rw[d,F1,dH];generalize K:max b.length a.length=L at*;refine⟨ak (by simp),by clear d c K v u;lia,by clear d c;lia,ak (by simp;clear d c;lia),ak (by simp;clear d c;lia),?_⟩;have g:∀(f:Nat->Int)(k:Nat),k<L->((Ea L).map f)[k]?=some (f k):=λf k H=>by rw[Da,Nw H];rfl
 refine aP (λi z=>∃o n,z=[some (.lst (b.map W.int)),some (.lst (a.map W.int)),some (.int L),some (.lst (((Ea L).map λk=>b.getD k 0+if k<i then a.getD k 0 else 0).map W.int)),o,n]) ⟨none,none,?_⟩ ?_ ?_
 .have:b.map W.int++Dg (L -b.length) (W.int 0)=((Ea L).map λk=>b.getD k 0+if k<0 then a.getD k 0 else 0).map W.int:=by
   refine T1 λq=>?_;by_cases s:q<b.length
   .rw[N0 (by simpa using s),int_at s,Da,g _ q (by lia),Bi (by lia),Ts];rfl
   .by_cases j:q<L
    .rw[KM (by simpa using s),TK,Bz (by rw[AN];omega),Da,g _ q j,Bi (by lia),AC,FR (by lia)];rfl
    .rw[FR (by simp;omega),FR (by simp;lia)]
  rw[this]
 .rintro i w _ N C ⟨o,n,rfl⟩ J;obtain⟨x,p,rfl⟩:=jl C;have I:i<a.length:=by have:=(Fh.mp p).1;simpa using this
  rw[int_at I]at p;cases p;fin2;have r:i<L:=by omega
  refine⟨rfl,_,aO (by rw[Da,g _ i r];rfl),?_⟩;fin2;refine⟨i,gU (by simpa using r),J _ ⟨some (.int i),some (.int (a.getD i 0)),?_⟩⟩;have:((Ea L).map λk=>b.getD k 0+if k<i then a.getD k 0 else 0).set i (b.getD i 0+(if i<i then a.getD i 0 else 0)+a.getD i 0)=(Ea L).map λk=>b.getD k 0+if k<i+1 then a.getD k 0 else 0:=by
   refine T1 λq=>?_;rw[Ws];by_cases j:q<L
   .rw[g _ q j,g _ q j];by_cases e:i=q
    .subst e;rw[Bz rfl,Bz (by simpa using r),Bi (by lia),Bz (by lia)];congr 1;lia
    .rw[Bi e];by_cases y:q<i
     .rw[Bz y,Bz (by lia)]
     .rw[Bi y,Bi (by lia)]
   .rw[Bi (by lia),FR (by simp;lia),FR (by simp;lia)]
  rw[<-this,WJ]
 .rintro _ ⟨o,n,rfl⟩;have B:(fU (a.map W.int)).length=a.length:=by unfold fU;simp
  rw[B];fin2;refine⟨_,rfl,λA D=>E A ?_⟩;have:((Ea L).map λk=>b.getD k 0+if k<a.length then a.getD k 0 else 0)=(Ea L).map λk=>b.getD k 0+a.getD k 0:=by
   refine Pv λk _=>?_;by_cases h:k<a.length
   .rw[Bz h]
   .rw[Bi h,AC (l:=a),FR (by lia)];rfl
  rw[<-this];exact D
noncomputable def d7:List CS:=[.ret (.call 0 [(.var 0),(.call 1 [(.var 1),(.neg (.int 1))])])]
noncomputable def fF:aT:=λe Q _=>∃(c a:List Int)(b:Nat),e=[wI c,wI a]/\c.length<=200/\a.length<=200/\b<=100000000/\(∀x∈a,x.natAbs<2^b)/\∀d,cZ ((Ea (max c.length a.length)).map λk=>c.getD k 0 -a.getD k 0) d->Q (wI d)
theorem mU{G:Nat->W}{m:Md}(e:List W)(Q:W->Prop)(R:Addr->Prop)(h:fF e Q R):wSs (bw [dR,iS]) G d7 (aX m Q R) (aq 2 e):=by
 obtain⟨c,a,b,rfl,i,j,q,d,p⟩:=h;show wSs _ _ d7 _ [some (wI c),some (wI a)];unfold d7;fin2;refine⟨a,-1,rfl,by lia,λx o=>cy (n:=1) (m:=b) (by decide) (d x o) (by lia),?_⟩;refine⟨c,a.map (-1*·),rfl,i,by rw[AN];exact j,λg f=>p g ?_⟩;rw[AN]at f;have:((Ea (max c.length a.length)).map λk=>c.getD k 0+(a.map (-1*·)).getD k 0)=(Ea (max c.length a.length)).map λk=>c.getD k 0 -a.getD k 0:=by
  refine Pv λk _=>?_;rw[AC (l:=a.map _),Da,AC (l:=a)];cases a[k]? with
  |none=>show _+(0:Int)=_ -(0:Int);lia
  |some z=>show _+ -1*z=_ -z;lia
 rw[<-this];exact f
noncomputable def tabI(n:Nat)(f:Nat->Int):List Int:=(Ea n).map f
theorem gw{n k:Nat}{f:Nat->Int}(h:k<n):(tabI n f)[k]?=some (f k):=by unfold tabI;rw[Da,Nw h];rfl
theorem bH(n:Nat)(f:Nat->Int):(tabI n f).length=n:=by unfold tabI;simp
theorem lT{n k:Nat}{f g:Nat->Int}(h:k<n)(b:∀j,j<n->j≠k->g j=f j):(tabI n f).set k (g k)=tabI n g:=by
 refine T1 λq=>?_;rw[Ws];by_cases a:q<n
 .rw[gw a,gw a];by_cases e:k=q
  .subst e;rw[Bz rfl,Bz (by rw[bH];exact h)]
  .rw[Bi e,b q a (NM e)]
 .rw[Bi (by lia),FR (by rw[bH];lia),FR (by rw[bH];lia)]
theorem uA{x y:List Int}{Q:W->Prop}(h:∀k:Bool,(k=true↔x=y)->Q (.bl k)):eO .Eq (wI x) (wI y) Q:=by
 have c:∀z:List Int,qE 9 (.lst (z.map W.int))=true:=λz=>by dsimp only[qE];rw[He];intro w d;obtain⟨i,_,rfl⟩:=IH.mp d;exact j4 i 8
 refine⟨.inl ⟨c x,c y⟩,λk f=>h k (f.trans ⟨λe=>?_,λe=>by rw[e]⟩)⟩;exact(UP (λa b e=>W.GF e)).mp (W.Au e)
theorem wG{a:List Int}{i:Nat}{w:W}(h:(fU (a.map W.int))[i]?=some w):i<a.length/\w=.tup [.int i,.int (a.getD i 0)]:=by
 obtain⟨x,b,rfl⟩:=jl h;have c:i<a.length:=by have:=(Fh.mp b).1;simpa using this
 rw[int_at c]at b;cases b;exact⟨c,rfl⟩
theorem sj(a:List Int):(fU (a.map W.int)).length=a.length:=by unfold fU;simp
noncomputable def d8:List CS:=[.iff (.or [(.cmp .Eq (.var 0) (.lst [])),(.cmp .Eq (.var 1) (.lst []))]) [.ret (.lst [])] [],.set 2 (.bin .Mult (.lst [(.int 0)]) (.bin .Sub (.bin .Add (.blt .len [(.var 0)]) (.blt .len [(.var 1)])) (.int 1))),.fr [3,4] false (.oX (.var 0)) [.iff (.cmp .NotEq (.var 4) (.int 0)) [.fr [5,6] false (.oX (.var 1)) [.put 2 (.bin .Add (.var 3) (.var 5)) (.bin .Add (.ix (.var 2) (.bin .Add (.var 3) (.var 5))) (.bin .Mult (.var 4) (.var 6)))]] []],.ret (.var 2)]
noncomputable def fG:aT:=λc Q _=>∃a b:List Int,c=[wI a,wI b]/\a.length<=200/\b.length<=200/\(∀x∈a,∀y∈b,IntMulOk x y)/\Q (wI (if a=[]\/b=[]then[]else tabI (a.length+b.length -1) (cf a b a.length)))
theorem mV{D:Nat->aT}{G:Nat->W}{m:Md}(A:List W)(Q:W->Prop)(R:Addr->Prop)(h:fG A Q R):wSs D G d8 (aX m Q R) (aq 7 A):=by
 obtain⟨a,b,rfl,T,S,K,l⟩:=h;show wSs _ _ d8 _ [some (wI a),some (wI b),none,none,none,none,none];unfold d8;refine ai (λs=>(a≠[]/\b≠[])/\s=[some (wI a),some (wI b),none,none,none,none,none]) (λN r=>?_) ?_
 .fin2;refine⟨ak (by simp),uA (y:=[]) λY C=>?_⟩;fin2;by_cases o:a=[]
  .cases fy C o;rw[Bz rfl];rw[Bz (.inl o)]at l;exact⟨ak (by simp),l⟩
  .cases eW C o;rw[Bi (by decide)];refine⟨ak (by simp),uA (y:=[]) λU B=>?_⟩;fin2;by_cases p:b=[]
   .cases fy B p;rw[Bz rfl];rw[Bz (.inr p)]at l;exact⟨ak (by simp),l⟩
   .cases eW B p;rw[Bi (by decide)];exact r _ ⟨⟨o,p⟩,rfl⟩
 rintro _ ⟨⟨o,p⟩,rfl⟩;rw[Bi (λz=>z.elim o p)]at l;have Z:=Hc.mpr o;unfold wI at*;fin2;have O:((a.map W.int).length:Int)+((b.map W.int).length:Int) -1=((a.length+b.length -1:Nat):Int):=by rw[AN,AN];lia
 rw[O,F1,dH];refine⟨ak (by simp),by lia,by lia,ak (by simp;lia),?_⟩;refine aP (λi t=>∃o3 u d c,t=[some (.lst (a.map W.int)),some (.lst (b.map W.int)),some (.lst ((tabI (a.length+b.length -1) (cf a b i)).map W.int)),o3,u,d,c]) ⟨none,none,none,none,?_⟩ ?_ ?_
 .have:tabI (a.length+b.length -1) (cf a b 0)=Dg (a.length+b.length -1) 0:=by unfold tabI;have:cf a b 0=λ_=>0:=rfl;rw[this,RA,GT]
  rw[this,WG]
 .rintro i w _ N J ⟨o3,u,d,c,rfl⟩ r;obtain⟨M,rfl⟩:=wG J;fin2;refine⟨rfl,?_⟩;by_cases z:a.getD i 0=0
  .rw[DL z];fin2;refine r _ ⟨some (.int i),some (.int (a.getD i 0)),d,c,?_⟩;rw[show cf a b (i+1)=cf a b i from funext λk=>Dj z k]
  .rw[Jn z];fin2;refine aP (λj t=>∃d c,t=[some (.lst (a.map W.int)),some (.lst (b.map W.int)),some (.lst ((tabI (a.length+b.length -1) (qB a b i j)).map W.int)),some (.int i),some (.int (a.getD i 0)),d,c]) ⟨d,c,?_⟩ ?_ ?_
   .rw[show qB a b i 0=cf a b i from funext λk=>qW a b i k]
   .rintro j w _ N2 E ⟨d,c,rfl⟩ H;obtain⟨L,rfl⟩:=wG E;have v:i+j<a.length+b.length -1:=by lia
    fin2;rw[show(i:Int)+(j:Int)=((i+j:Nat):Int) by lia];refine⟨rfl,_,aO (by rw[Da,gw v];rfl),?_⟩;fin2;refine⟨uz (P:=λx=>IntMulOk x (b.getD j 0)) (λx I=>uz (P:=λy=>IntMulOk x y) (K x I) L) M,i+j,gU (by rw[AN,bH];exact v),H _ ⟨some (.int j),some (.int (b.getD j 0)),?_⟩⟩;have e:=lT (n:=a.length+b.length -1) (f:=qB a b i j) (g:=qB a b i (j+1)) (k:=i+j) v (λq _ l=>by rw[kD,Bi l,Ts]);rw[kD,Bz rfl]at e;rw[<-e,WJ]
   .rintro _ ⟨d,c,rfl⟩;refine r _ ⟨some (.int i),some (.int (a.getD i 0)),d,c,?_⟩;rw[sj,show qB a b i b.length=cf a b (i+1)from funext λk=>qX a b i k]
 .rintro _ ⟨o3,u,d,c,rfl⟩;rw[sj];fin2;exact l
end VL
namespace L2
open PySem
theorem nU{r:Nat}:Builtin.Range.rangeSize ((r:Int) -1) (-1) (-1)=(r:Int):=by
 unfold Builtin.Range.rangeSize;rw[Bi (by decide)];split
 .show((r:Int) -1 - -1 -1)/1+1=_;lia
 .lia
theorem uB{r:Nat}(h:r<=1000):Builtin.Range.small ((r:Int) -1) (-1) (-1)=true:=by
 unfold Builtin.Range.small;rw[nU];have f:∀x:Int,-2000<=x->x<=2000->Builtin.Range.rangeFitsLong x=true:=λx b a=>by unfold Builtin.Range.rangeFitsLong;simp;lia
 rw[f _ (by lia) (by lia),f _ (by lia) (by lia),f _ (by lia) (by lia),Bi (by decide),f (-1+(-1+1)) (by decide) (by decide)];simp
end L2
namespace VL
open PySem PySem.Spec
open PyProof.Rows hiding St
open L2 Num
theorem nV{ns:List Int}(h:0<ns.length):i8 (ns.map W.int) (-1)=some (.int (ns.getD (ns.length -1) 0)):=by refine yG ?_;rw[Wr,AN,int_at (by omega)]
theorem lU{n k:Nat}{f:Nat->Int}(h:k<n):(tabI n f).getD k 0=f k:=by rw[AC,gw h];rfl
theorem E2(n:Nat)(f:Nat->Int)(k:Nat):(tabI n f).getD k 0=if k<n then f k else 0:=by
 by_cases h:k<n
 .rw[Bz h,lU h]
 .rw[Bi h];exact outI (by rw[bH];lia)
theorem sr{n:Nat}{f:Nat->Int}{x:Int}(h:x∈tabI n f):∃k,k<n/\x=f k:=by unfold tabI at h;obtain⟨k,a,rfl⟩:=IH.mp h;exact⟨k,Kb.mp a,rfl⟩
theorem Bu{n:Nat}{f g:Nat->Int}(h:∀k,k<n->f k=g k):tabI n f=tabI n g:=by unfold tabI;exact Pv λk a=>h k (Kb.mp a)
theorem Bv(n:Nat)(x:Int):Dg n (W.int x)=(tabI n λ_=>x).map W.int:=by unfold tabI;rw[RA,GT,WG]
theorem yI{n:Nat}(ns:List Int)(h:ns.length=n):ns=tabI n λk=>ns.getD k 0:=by
 refine T1 λj=>?_;by_cases a:j<n
 .rw[gw a,AC,B1 (by lia)];rfl
 .rw[FR (by lia),FR (by rw[bH];lia)]
theorem E3{r n s:Nat}{w:W}(h:(cj ((r:Int) -1) (-1) n)[s]?=some w):s<n/\w=.int ((r:Int) -1 -s):=by unfold cj at h;rw[Da]at h;obtain⟨j,e,rfl⟩:=IR.mp h;obtain⟨b,a⟩:=Fh.mp e;rw[OD]at a;rw[GT]at b;refine⟨b,?_⟩;rw[<-a];congr 1;lia
theorem Lf(a st:Int)(n:Nat):(cj a st n).length=n:=by unfold cj;simp
theorem yJ{r:Nat}{Q:List W->Prop}(h:r<=1000)(q:Q (cj ((r:Int) -1) (-1) r)):Ax [.int ((r:Int) -1),.int (-1),.int (-1)] Q:=
 ⟨r,⟨by decide,by decide,uB h,nU⟩,q⟩
theorem E4{R:List Int}(h:0<R.length):∃a x,R=a++[x]:=
 ⟨R.dropLast,R.getLast (λz=>by rw[z]at h;cases h),(List.dropLast_concat_getLast _).symm⟩
theorem pop_at{a:List Int}{x:Int}:((a++[x]).map W.int)[((a++[x]).map W.int).length -1]?=some (.int x):=by simp
theorem Lg{a:List Int}{x:Int}:((a++[x]).map W.int).dropLast=a.map W.int:=by simp
end VL
namespace L2
open PySem
end L2
namespace VL
open PySem PySem.Spec
open PyProof.Rows hiding St
open L2 Num
structure Th(A B fA fB:List Int)(ld h:Int)(N E:Nat):Prop where
 l2:2<=B.length
 Ti:B.length<=A.length
 V6:A.length<=15
 lf:fA.length<=40
 T5:fB.length<=40
 bA:∀x∈A,x.natAbs<2^N
 bB:∀x∈B,x.natAbs<2^N
 V7:∀x∈fA,x.natAbs<2^N
 V8:∀x∈fB,x.natAbs<2^N
 bl:ld.natAbs<2^N
 bh:h.natAbs<2^N
 hN:N<=5000
 hE:E<=12000
 k0:ld*h^(A.length -B.length)≠0
 kE:(ld*h^(A.length -B.length)).natAbs<=2^E
 h0:0<A.length -B.length->h^(A.length -B.length -1)≠0/\(h^(A.length -B.length -1)).natAbs<=2^E
noncomputable def Mb(a:List Rat):Nat->Rat:=λi=>a.getD i 0
noncomputable def Tj(b p2:Nat)(g a:List Rat):Prop:=∃(s:List Rat)(D:Int),(∀k,a.getD k 0=IL (Mb s) (Mb g) k)/\D≠0/\D.natAbs<2^b/\∀x∈s,Cd D p2 x
structure U9(p1 p2:Nat)(a b g u v:List Rat):Prop where
 ng:kF g
 nu:kF u
 nv:kF v
 V9:∀k,g.getD k 0=IL (Mb u) (Mb a) k+IL (Mb v) (Mb b) k
 da:Tj p1 p2 g a
 db:Tj p1 p2 g b
 ne:g≠[]
 one:g.getD (g.length -1) 0=1
theorem E5(ns:List Int)(a b:Option Int):∃c:List Int,gB (ns.map W.int) a b=c.map W.int:=by unfold gB;exact⟨_,by rw[<-Vj,<-SY]⟩
noncomputable def pS:List CS:=[.ret (.and [(.blt .sU [(.var 0),(.vG "int")]),(.not (.blt .sU [(.var 0),(.vG "bool")]))])]
noncomputable def lV:aT:=λa Q _=>∃i:Int,a=[.int i]/\Q (.bl true)
theorem E6{b:Nat->aT}{G:Nat->W}{m:Md}(a:List W)(Q:W->Prop)(R:Addr->Prop)(h:lV a Q R):wSs b G pS (aX m Q R) (aq 1 a):=by obtain⟨i,rfl,c⟩:=h;show wSs _ _ pS _ [some (.int i)];unfold pS;fin2;simp only[wD];refine⟨_,rfl,?_⟩;fin2;exact⟨_,rfl,c⟩
structure Wa(a:List Rat):Prop where
 l8:a.length<=8
 z:kF a
 cd:∃D:Int,0<D/\D.natAbs<2^101/\∀x∈a,Cd D 117 x
 bd:∀x∈a,Bd 200 x
noncomputable def rB(n k:Nat):Nat:=(2*n+k+4)*14+1
structure Tn(xs xs':List (List Rat))(n i t:Nat):Prop where
 xl:xs'.length=n
 rl:∀x∈xs',x.length=n
 same:∀m,m<=i\/i+1+t<=m->xs'.getD m []=xs.getD m []
 el:∀m,i<m->m<i+1+t->vQ (xs'.getD m []) i=0/\∃s:Rat,∀c,vQ (xs'.getD m []) c=vQ (xs.getD m []) c+s*vQ (xs.getD i []) c
noncomputable def wv(t p:Int):List Int->Int
 |[]=>0
 |c::l=>wv t p l*t+c*p^l.length
section
variable{a b:List Rat}{l1 l2 n1 n2 n k1 k2 k E q:Nat}{Q:W->Prop}{R:Addr->Prop}
end
noncomputable def lW:List CS:=[.CD [2,3] (.tup [(.int 1),(.int 0)]),.CD [4,5] (.tup [(.int 0),(.int 1)]),.nM (.cmp .NotEq (.var 1) (.int 0)) [.set 6 (.bin .FloorDiv (.var 0) (.var 1)),.par [0,1] [(.var 1),(.bin .Sub (.var 0) (.bin .Mult (.var 6) (.var 1)))],.par [2,3] [(.var 3),(.bin .Sub (.var 2) (.bin .Mult (.var 6) (.var 3)))],.par [4,5] [(.var 5),(.bin .Sub (.var 4) (.bin .Mult (.var 6) (.var 5)))]],.iff (.cmp .Lt (.var 0) (.int 0)) [.ret (.tup [(.neg (.var 0)),(.neg (.var 2)),(.neg (.var 4))])] [],.ret (.tup [(.var 0),(.var 2),(.var 4)])]
noncomputable def pT:aT:=λc Q _=>∃(a b:Int)(n:Nat),c=[.int a,.int b]/\n<=7000/\a.natAbs<2^n/\b.natAbs<2^n/\∀g u v:Int,g=(LY a b:Nat)->u*a+v*b=g->Q (.tup [.int g,.int u,.int v])
theorem Bw{s:Nat->aT}{G:Nat->W}{m:Md}(l:List W)(Q:W->Prop)(R:Addr->Prop)(h:pT l Q R):wSs s G lW (aX m Q R) (aq 7 l):=by
 obtain⟨a,b,n,rfl,z,w,p,q⟩:=h;show wSs _ _ lW _ [some (.int a),some (.int b),none,none,none,none,none];unfold lW;fin2;refine⟨ak (by simp),rfl,ak (by simp),rfl,?_⟩;have i:=pow2 n;refine jt (α:=Int×Int×Int×Int×Int×Int×Option W) (λx=>[some (.int x.1),some (.int x.2.1),some (.int x.2.2.1),some (.int x.2.2.2.1),some (.int x.2.2.2.2.1),some (.int x.2.2.2.2.2.1),x.2.2.2.2.2.2]) (λx=>zZ n a b x.1 x.2.1 x.2.2.1 x.2.2.2.1 x.2.2.2.2.1 x.2.2.2.2.2.1) (λx=>x.2.1.natAbs) (a,b,1,0,0,1,none) rfl ⟨by lia,by lia,rfl,w,p,i,by show 0<_;clear i p;lia,by show 0<_;lia,i,.inl ⟨rfl,rfl,rfl,rfl⟩⟩ ?_;rintro⟨x,y,u,f,v,d,o⟩ I;have I:zZ n a b x y u f v d:=I;fin2;refine bI (λk=>?_) (λk=>?_)
 .have c:y≠0:=by simpa using k
  have j:(x.fdiv y).natAbs<2^(n+2):=by
   have C:=QT x y c;have B:=I.bx;have A:=I.oN;have e:2^(n+2)=4*2^n:=by rw[XB];lia
   lia
  fin2;refine⟨⟨c,gf I.oN (by lia)⟩,cy j I.oN (by lia),rfl,cy j I.Sn (by lia),rfl,cy j I.So (by lia),rfl,?_⟩;exact⟨(y,x -x.fdiv y*y,f,u -x.fdiv y*f,d,v -x.fdiv y*d,_),rfl,I.next c,tT x y c⟩
 .have c:y=0:=by simpa using k
  subst c;have t:=I.g;rw[Int.gcd_zero_right]at t;have e1:=I.e1;fin2;by_cases r:x<0
  .rw[Bz (DL r)];refine⟨ak (by simp),q (-x) (-u) (-v) (by lia) ?_⟩;rw[U5,U5];lia
  .rw[Bi (by rw[FS];exact r)];exact⟨ak (by simp),q x u v (by lia) e1⟩
noncomputable def jw:List CS:=[.ret (.bin .Mod (.ix (.call 0 [(.var 0),(.var 1)]) (.int 1)) (.var 1))]
noncomputable def iT:aT:=λa Q _=>∃x p:Int,a=[.int x,.int p]/\(af p/\p<2^40/\0<x/\x<p)/\∀y:Int,0<=y->y<p->p∣y*x -1->Q (.int y)
theorem yK{G:Nat->W}{m:Md}(a:List W)(Q:W->Prop)(R:Addr->Prop)(h:iT a Q R):wSs (bw [pT]) G jw (aX m Q R) (aq 2 a):=by
 obtain⟨x,p,rfl,⟨b,k,d,c⟩,q⟩:=h;show wSs _ _ jw _ [some (.int x),some (.int p)];have f:0<p:=by have:=b.1;lia
 unfold jw;fin2;refine⟨x,p,40,rfl,by decide,by lia,by lia,λg u v j i=>⟨_,rfl,?_⟩⟩;fin2;have l:g=1:=by rw[j,Int.gcd_comm,gF b d c];rfl
 rw[HI _ (by lia)];refine⟨by lia,q (u%p) (PQ _ (by lia)) (NA _ f) ?_⟩;have e:u%p=u -p*(u/p):=by have:=OF u p;lia
 rw[e];refine⟨-(v+(u/p)*x),?_⟩;have:u*x=1 -v*p:=by lia
 grind
noncomputable def jx:List CS:=[.ret (.call 0 [(.comp [0] true 1 (.var 0) (.bl true) (.bin .Mod (.var 0) (.var 2)))])]
noncomputable def cX:aT:=λc Q _=>∃(a:List Int)(p:Int),c=[wI a,.int p]/\0<p/\a.length<=1000/\∀b,cZ (a.map (·%p)) b->Q (wI b)
theorem yL{G:Nat->W}{m:Md}(b:List W)(Q:W->Prop)(R:Addr->Prop)(h:cX b Q R):wSs (bw [bz]) G jx (aX m Q R) (aq 2 b):=by
 obtain⟨a,p,rfl,e,c,q⟩:=h;show wSs _ _ jx _ [some (wI a),some (.int p)];unfold jx wI;fin2;refine eV (g:=λx=>.int (x%p)) a [] _ (λx f K d=>⟨by lia,?_⟩) (ak (by simpa using c)) ⟨a.map (·%p),?_,q⟩
 .dsimp only;rw[HI _ (by lia)];exact d
 .unfold wI;rw[W9];rfl
noncomputable def fH:List CS:=[.set 3 (.blt .max2 [(.bin .Add (.bin .Sub (.blt .len [(.var 0)]) (.blt .len [(.var 1)])) (.int 1)),(.int 0)]),.set 4 (.call 0 [(.ix (.var 1) (.neg (.int 1))),(.var 2)]),.set 5 (.blt .list [(.var 0)]),.set 6 (.bin .Mult (.lst [(.int 0)]) (.var 3)),.fr [7] true (.gJ [(.bin .Sub (.var 3) (.int 1)),(.neg (.int 1)),(.neg (.int 1))]) [.Av 8 (.bin .Mod (.bin .Mult (.pop 5) (.var 4)) (.var 2)),.put 6 (.var 7) (.var 8),.fr [9] true (.gJ [(.bin .Sub (.blt .len [(.var 1)]) (.int 1))]) [.put 5 (.bin .Add (.var 7) (.var 9)) (.bin .Mod (.bin .Sub (.ix (.var 5) (.bin .Add (.var 7) (.var 9))) (.bin .Mult (.var 8) (.ix (.var 1) (.var 9)))) (.var 2))]],.ret (.tup [(.var 6),(.call 1 [(.var 5)])])]
structure Rm(p:Int)(ns:List Int):Prop where
 b:∀x∈ns,0<=x/\x<p
 z:ns=[]\/ns.getD (ns.length -1) 0≠0
structure G0(p:Int)(ns ms qs rs:List Int):Prop where
 lq:qs.length=ns.length+1 -ms.length
 lr:rs.length<ms.length
 eq:oJ p ns ms (λi=>qs.getD i 0) rs
 q:Rm p qs
 r:Rm p rs
noncomputable def aR:aT:=λe Q _=>∃(b a:List Int)(p:Int),e=[wI b,wI a,.int p]/\(af p/\p<2^40/\0<a.length/\b.length<=100/\a.length<=100/\Rm p b/\Rm p a)/\∀d c,G0 p b a d c->Q (.tup [wI d,wI c])
theorem cz{x y p:Int}(c:p<2^40)(b:0<=x/\x<p)(a:0<=y/\y<p):IntMulOk x y:=cy (n:=40) (m:=40) (by lia) (by lia) (by decide)
theorem pU{G:Nat->W}{m:Md}(ws:List W)(Q:W->Prop)(R:Addr->Prop)(h:aR ws Q R):wSs (bw [iT,bz]) G fH (aX m Q R) (aq 10 ws):=by
 obtain⟨o,c,b,rfl,⟨hp,Lh,P,la,lb,⟨bn,Va⟩,⟨bm,To⟩⟩,q⟩:=h;show wSs _ _ fH _ [some (wI o),some (wI c),some (.int b),none,none,none,none,none,none,none];have K:0<b:=by have:=hp.1;lia
 have To:c.getD (c.length -1) 0≠0:=To.resolve_left λz=>by rw[z]at P;cases P
 unfold fH wI;fin2;have eR:(if(0:Int)>((o.map W.int).length:Int) -((c.map W.int).length:Int)+1 then(0:Int)else((o.map W.int).length:Int) -((c.map W.int).length:Int)+1)=((o.length+1 -c.length:Nat):Int):=by rw[AN,AN];split<;>lia
 rw[eR];have bL:=bT K bm (c.length -1);have eL:=nV P;have Vb:(c.map W.int).length=c.length:=AN _;generalize hl:c.getD (c.length -1) 0=l at*;generalize Z:o.length+1 -c.length=a at*;refine⟨_,eL,l,b,rfl,⟨hp,Lh,by lia,bL.2⟩,λu Vd Ve Vf=>?_⟩;fin2;rw[F1,dH,Bv];refine⟨ak (by simp),by lia,by lia,ak (by simp;lia),?_⟩;refine yJ (by lia) ?_;fin2;refine aP (λs ε=>∃(R:List Int)(B C:Nat->Int)(v7 v8 H:Option W),(oJ b o c C R/\R.length=o.length -s/\(∀x∈R,0<=x/\x<b)/\(∀i,i<a->a -s<=i->C i=B i)/\(∀i,0<=B i/\B i<b)/\(∀i,(i<a -s\/a<=i)->C i=0)/\(0<s->b∣B (a -1)*l -o.getD (o.length -1) 0)/\(s=0->R=o))/\ε=[some (.lst (o.map W.int)),some (.lst (c.map W.int)),some (.int b),some (.int a),some (.int u),some (.lst (R.map W.int)),some (.lst ((tabI a B).map W.int)),v7,v8,H]) ?_ ?_ ?_
 .exact⟨o,λ_=>0,λ_=>0,_,_,_,⟨oJ.start b o c,by lia,bn,λi U h2=>rfl,λ_=>⟨Int.le_refl _,K⟩,λ_ _=>rfl,λh=>by lia,λ_=>rfl⟩,rfl⟩
 .rintro s w _ N1 hw ⟨R,J,C,v7,v8,H,⟨dv,lR,bR,N,T,hz,M,uC⟩,rfl⟩ b6;obtain⟨B,rfl⟩:=E3 hw;rw[show((a:Nat):Int) -1 -(s:Int)=((a -1 -s:Nat):Int) by lia];generalize hpp:a -1 -s=p at*;have I:a=p+s+1:=by lia
  obtain⟨d,t⟩:∃d,c.length=d+1:=⟨_,(Nat.succ_pred_eq_of_pos P).symm⟩;have hn:o.length=p+d+(s+1):=by lia
  clear hpp Z;have e1:a -s=p+1:=by rw[I,Ui,Kj]
  have e2:a -(s+1)=p:=by rw[I];exact Kj p (s+1)
  have em:p+c.length -1=p+d:=by rw[t];rfl
  have P6:R.length=p+c.length:=by rw[lR,hn,t,<-Nat.add_assoc,Ui,Kj];rfl
  obtain⟨r,x,rfl⟩:=E4 (R:=R) (by rw[P6,t];exact Nat.succ_pos _);have Y:r.length=p+d:=by rw[Fm,t]at P6;exact Rw P6
  have ex:(r++[x]).getD (p+d) 0=x:=by rw[AC,KM (W8 Y),Y,Qf];rfl
  have eg:∀k,k<p+d->(r++[x]).getD k 0=r.getD k 0:=λk A=>by rw[AC,N0 (by rw[Y];exact A),<-AC]
  have bx:=bR x (Fk _ (Ee.mpr rfl));have Vg:∀y∈r,0<=y/\y<b:=λy L=>bR y (Os _ L);fin2;refine⟨_,pop_at,?_⟩;rw[Lg];fin2;refine⟨cz Lh bx ⟨Vd,Ve⟩,by lia,?_⟩;rw[HI _ (by lia)];have h0:0<=x*u%b:=PQ _ (by lia);have PN:x*u%b<b:=NA _ K;have hh:b∣(x*u%b)*l -x:=by
   obtain⟨k,A⟩:=Vf;have e:=OF (x*u) b;refine⟨x*k -(x*u/b)*l,?_⟩;have:x*u%b=x*u -b*(x*u/b):=by lia
   rw[this];have e2:u*l=1+b*k:=by lia
   grind
  generalize x*u%b=h at*;refine⟨p,gU (by rw[AN,bH,I];exact Uy (Wz _ _)),?_⟩;have et:=lT (n:=a) (f:=J) (g:=λk=>if k=p then h else J k) (k:=p) (by rw[I];exact Uy (Wz _ _)) (λj _ hj=>Bi hj);rw[Bz rfl]at et;rw[<-WJ,et,Vb];refine⟨by lia,by lia,?_⟩;rw[show((c.length:Int) -1).toNat=d by rw[t];lia];refine aP (λj ε=>∃H:Option W,ε=[some (.lst (o.map W.int)),some (.lst (c.map W.int)),some (.int b),some (.int a),some (.int u),some (.lst ((tabI (p+d) λk=>if p<=k/\k<p+j then(r.getD k 0 -h*c.getD (k -p) 0)%b else r.getD k 0).map W.int)),some (.lst ((tabI a λk=>if k=p then h else J k).map W.int)),some (.int p),some (.int h),H]) ⟨H,?_⟩ ?_ ?_
  .rw[Bu (n:=p+d) (f:=λk=>if p<=k/\k<p+0 then(r.getD k 0 -h*c.getD (k -p) 0)%b else r.getD k 0) λk _=>Bi (show¬(p<=k/\k<p+0)from λz=>Mo _ (GM z.2 z.1)),<-yI r Y]
  .rintro j w _ N2 sW ⟨H,rfl⟩ jv;obtain⟨hj,rfl⟩:=dI sW;have ix:p+j<p+d:=Nat.add_lt_add_left hj p;fin2;rw[show(p:Int)+(j:Int)=((p+j:Nat):Int) by lia];refine⟨_,aO (by rw[Da,gw ix];rfl),?_⟩;rw[Bi (show¬(p<=p+j/\p+j<p+j)from λz=>Mo _ z.2)];refine⟨_,aO (int_at (by rw[t];exact Sr hj)),?_⟩;fin2;refine⟨cz Lh ⟨h0,PN⟩ (bT K bm j),by lia,?_⟩;rw[HI _ (by lia)];refine⟨p+j,gU (by rw[AN,bH];exact ix),jv _ ⟨some (.int j),?_⟩⟩;have e:=lT (n:=p+d) (f:=λk=>if p<=k/\k<p+j then(r.getD k 0 -h*c.getD (k -p) 0)%b else r.getD k 0) (g:=λk=>if p<=k/\k<p+(j+1)then(r.getD k 0 -h*c.getD (k -p) 0)%b else r.getD k 0) ix (λk _ A=>by
    by_cases v:p<=k/\k<p+j
    .rw[Bz v,Bz ⟨v.1,Sr v.2⟩]
    .rw[Bi v,Bi λz=>v ⟨z.1,WE (Nat.le_of_lt_succ z.2) A⟩])
   rw[Bz ⟨Wz _ _,W7 _⟩,Sf]at e;rw[<-e,WJ]
  .rintro _ ⟨H,rfl⟩;rw[Lf];have mm:∀y:Int,b∣y%b -y:=λy=>⟨-(y/b),by have:=OF y b;lia⟩;refine b6 _ ⟨_,λk=>if k=p then h else J k,λi=>C i+if i=p then h else 0,_,_,_,⟨dv.step (R':=tabI (p+d) λk=>if p<=k/\k<p+d then(r.getD k 0 -h*c.getD (k -p) 0)%b else r.getD k 0) P hl.symm P6 (by rw[bH,em]) (by rw[em,ex];exact hh) (λk A=>?_),by rw[bH,hn,Kj],λy L=>?_,λi U h2=>?_,λi=>?_,λi S=>?_,λ_=>?_,λz=>by cases z⟩,rfl⟩
   .rw[em]at A;rw[lU A,eg k A];by_cases E:p<=k
    .rw[Bz ⟨E,A⟩,Bz E];exact mm _
    .rw[Bi λz=>E z.1,Bi E,WL,XQ];exact Tz _
   .obtain⟨k,A,rfl⟩:=sr L;split
    .exact⟨PQ _ (by lia),NA _ K⟩
    .exact bT K Vg k
   .show C i+(if i=p then h else 0)=if i=p then h else J i
    by_cases O:i=p
    .rw[Bz O,Bz O,hz i (.inl (by rw[O,e1];exact W7 _)),WY]
    .rw[Bi O,Bi O,N i U (by rw[e1];rw[e2]at h2;exact WE h2 (NM O)),Ts]
   .show 0<=(if i=p then h else J i)/\(if i=p then h else J i)<b;split
    .exact⟨h0,PN⟩
    .exact T i
   .show C i+(if i=p then h else 0)=0;rw[e2,I]at S;rw[Bi (by clear dv N T hz M uC;lia),hz i (by rw[e1,I];clear dv N T hz M uC;lia),Ts]
   .show b∣(if a -1=p then h else J (a -1))*l -_;by_cases D:s=0
    .have e:=uC D;rw[Bz (by rw[I,D];rfl),<-e,Fm];show b∣h*l -(r++[x]).getD (r.length+1 -1) 0;rw[Kj,Y,ex];exact hh
    .rw[Bi λz=>D (by rw[I]at z;exact Nat.add_left_cancel (show p+s=p+0 from z))];exact M (Nat.pos_of_ne_zero D)
 .rintro _ ⟨R,B,C,v7,v8,H,⟨dv,lR,bR,N,T,hz,M,_⟩,rfl⟩;rw[Lf]at lR N hz M;fin2;refine⟨R,rfl,λts tr=>⟨ak (by simp),?_⟩⟩;have tl:=kH tr;have Vh:∀i,C i=(tabI a B).getD i 0:=λi=>by
   rw[E2];by_cases S:i<a
   .rw[Bz S,N i S (by lia)]
   .rw[Bi S,hz i (by lia)]
  refine q (tabI a B) ts ⟨by rw[bH];exact Z.symm,by lia,λk=>?_,⟨λy L=>?_,?_⟩,λy L=>bR y (tr.mem y L),tr.last⟩
  .have:=dv k;rw[show C=λi=>(tabI a B).getD i 0 from funext Vh]at this;rw[oH tr];exact this
  .obtain⟨k,A,rfl⟩:=sr L;exact T k
  .by_cases hr0:a=0
   .left;rw[hr0];rfl
   .right;rw[bH,lU (by lia)];intro z;have U:=M (by lia);rw[z,SF,XO]at U;have nn:o.getD (o.length -1) 0≠0:=by
     rcases Va with e|e
     .rw[e]at Z;simp only[LR]at Z;lia
     .exact e
    have bb:=bT K bn (o.length -1);have:=UV (by lia) (XG.mp U);lia
end VL
namespace Alg
open Lean.Grind
local instance {R : Type} [Lean.Grind.Semiring R] : NatCast R := Lean.Grind.Semiring.natCast
local instance {R : Type} [Lean.Grind.Ring R] : IntCast R := Lean.Grind.Ring.intCast
section
variable{R:Type}[CommRing R]
noncomputable def sR(f:Nat->R):Nat->R
 |0=>0
 |n+1=>sR f n+f n
theorem gW{f g:Nat->R}:∀n,(∀i,i<n->f i=g i)->sR f n=sR g n
 |0,_=>rfl
 |n+1,h=>by show sR f n+f n=sR g n+g n;rw[gW n λi a=>h i (by lia),h n (by lia)]
theorem uD(f g:Nat->R):∀n,sR (λi=>f i+g i) n=sR f n+sR g n
 |0=>by show(0:R)=0+0;grind
 |n+1=>by show sR _ n+(f n+g n)=(sR f n+f n)+(sR g n+g n);rw[uD f g n];grind
theorem pX(c:R)(f:Nat->R):∀n,sR (λi=>c*f i) n=c*sR f n
 |0=>by show(0:R)=c*0;grind
 |n+1=>by show sR _ n+c*f n=c*(sR f n+f n);rw[pX c f n];grind
theorem iU(f:Nat->R):∀n,sR f (n+1)=f 0+sR (λi=>f (i+1)) n
 |0=>by show(0:R)+f 0=f 0+0;grind
 |n+1=>by show sR f (n+1)+f (n+1)=f 0+(sR (λi=>f (i+1)) n+f (n+1));rw[iU f n];grind
theorem pY{f:Nat->R}:∀n,(∀i,i<n->f i=0)->sR f n=0
 |0,_=>rfl
 |n+1,h=>by show sR f n+f n=0;rw[pY n λi a=>h i (by lia),h n (by lia)];grind
end
noncomputable def bin:Nat->Nat->Nat
 |_,0=>1
 |0,_+1=>0
 |n+1,k+1=>bin n k+bin n (k+1)
theorem iV:∀{n k:Nat},n<k->bin n k=0
 |0,_+1,_=>rfl
 |n+1,0,h=>by cases h
 |n+1,k+1,h=>by show bin n k+bin n (k+1)=0;rw[iV (n:=n) (k:=k) (by lia),iV (n:=n) (k:=k+1) (by lia)]
theorem su:∀n,bin n n=1
 |0=>rfl
 |n+1=>by show bin n n+bin n (n+1)=1;rw[su n,iV (W7 n)]
theorem j5:∀n k,(k+1)*bin (n+1) (k+1)=(n+1)*bin n k
 |0,0=>rfl
 |0,k+1=>by show(k+2)*(bin 0 (k+1)+bin 0 (k+2))=1*bin 0 (k+1);rfl
 |n+1,0=>by
  have:=j5 n 0;show 1*(bin (n+1) 0+bin (n+1) 1)=(n+2)*bin (n+1) 0;have e:bin (n+1) 0=1:=by cases n<;>rfl
  have g:bin n 0=1:=by cases n<;>rfl
  rw[g]at this;rw[e];show 1*(1+bin (n+1) (0+1))=(n+2)*1;lia
 |n+1,k+1=>by
  have f:=j5 n k;have d:=j5 n (k+1);show(k+2)*(bin (n+1) (k+1)+bin (n+1) (k+2))=(n+2)*bin (n+1) (k+1);have e:bin (n+1) (k+1)=bin n k+bin n (k+1):=rfl;have c:(k+2)*bin (n+1) (k+2)=(n+1)*bin n (k+1):=d;rw[XZ,c];have b:(k+2)*bin (n+1) (k+1)=(k+1)*bin (n+1) (k+1)+bin (n+1) (k+1):=by rw[<-Pz]
  rw[b,f];have a:(n+2)*bin (n+1) (k+1)=(n+1)*bin (n+1) (k+1)+bin (n+1) (k+1):=by rw[<-Pz]
  rw[a,e,XZ];lia
section
variable{R:Type}[CommRing R]
theorem aA(a:R)(n:Nat):a^(n+1)=a^n*a:=Semiring.pow_succ a n
theorem wH(a b:R):∀n,(a+b)^n=sR (λk=>((bin n k:Nat):R)*(a^k*b^(n -k))) (n+1)
 |0=>by show(a+b)^0=0+((1:Nat):R)*(a^0*b^0);rw[Semiring.pow_zero,Semiring.pow_zero,Semiring.pow_zero];have:((1:Nat):R)=1:=Semiring.natCast_one;rw[this];grind
 |n+1=>by
  rw[aA,wH a b n];have j:bin (n+1) 0=1:=rfl;have h:sR (λk=>((bin (n+1) k:Nat):R)*(a^k*b^(n+1 -k))) (n+2)=b*sR (λk=>((bin n k:Nat):R)*(a^k*b^(n -k))) (n+1)+a*sR (λk=>((bin n k:Nat):R)*(a^k*b^(n -k))) (n+1):=by
   rw[iU,<-pX a,<-pX b];have e:sR (λk=>((bin (n+1) (k+1):Nat):R)*(a^(k+1)*b^(n+1 -(k+1)))) (n+1)=sR (λk=>a*(((bin n k:Nat):R)*(a^k*b^(n -k)))) (n+1)+sR (λk=>((bin n (k+1):Nat):R)*(a^(k+1)*b^(n -k))) (n+1):=by rw[<-uD];refine gW _ λi _=>?_;show(((bin n i+bin n (i+1):Nat)):R)*(a^(i+1)*b^(n+1 -(i+1)))=_;rw[Semiring.natCast_add,Nat.add_sub_add_right,aA];grind
   have d:sR (λk=>b*(((bin n k:Nat):R)*(a^k*b^(n -k)))) (n+1)=((bin n 0:Nat):R)*(a^0*b^(n+1))+sR (λk=>((bin n (k+1):Nat):R)*(a^(k+1)*b^(n -k))) n:=by
    rw[iU];have:sR (λi=>b*(((bin n (i+1):Nat):R)*(a^(i+1)*b^(n -(i+1))))) n=sR (λk=>((bin n (k+1):Nat):R)*(a^(k+1)*b^(n -k))) n:=gW _ λi g=>by rw[show n -i=(n -(i+1))+1 by lia,aA b];grind
    rw[this,Q9,aA b];grind
   have c:sR (λk=>((bin n (k+1):Nat):R)*(a^(k+1)*b^(n -k))) (n+1)=sR (λk=>((bin n (k+1):Nat):R)*(a^(k+1)*b^(n -k))) n:=by show _+((bin n (n+1):Nat):R)*_=_;rw[iV (W7 n)];have:((0:Nat):R)=0:=Semiring.natCast_zero;rw[this];grind
   have f:bin n 0=1:=by cases n<;>rfl
   rw[e,d,c,f,Q9];show((1:Nat):R)*_+_=_;grind
  show _=sR _ (n+2);rw[h];grind
theorem RQ{p:Nat}(e:Num.af p)(g:((p:Nat):R)=0)(a b:R):(a+b)^p=a^p+b^p:=by
 have k:2<=p:=by have:=e.1;lia
 obtain⟨n,rfl⟩:∃n,p=n+1:=⟨p -1,by lia⟩;rw[wH,iU];show _+(sR _ n+_)=_;rw[pY n λi l=>?_]
 .dsimp only;rw[su];have j:bin (n+1) 0=1:=rfl;have h:((1:Nat):R)=1:=Semiring.natCast_one;rw[j,h,Q9,Qf,Semiring.pow_zero,Semiring.pow_zero];grind
 .have m:=j5 n i;have d:((n+1:Nat):Int)∣((i+1:Nat):Int)*(bin (n+1) (i+1):Nat):=⟨(bin n i:Nat),by exact_mod_cast m⟩;have d:((n+1:Nat):Int)∣(bin (n+1) (i+1):Nat):=(Num.qY e d).resolve_left λz=>by have:=UV (by lia) z;lia
  obtain⟨c,f⟩:=Int.natCast_dvd_natCast.mp d;rw[f,Semiring.natCast_mul,g];grind
end
local instance {R : Type} [Lean.Grind.Semiring R] : NatCast R := Lean.Grind.Semiring.natCast
local instance {R : Type} [Lean.Grind.Ring R] : IntCast R := Lean.Grind.Ring.intCast
section
variable{R:Type}[CommRing R]
theorem pow_mul(a:R)(m:Nat):∀n,a^(m*n)=(a^m)^n
 |0=>by rw[Nat.mul_zero,Semiring.pow_zero,Semiring.pow_zero]
 |n+1=>by rw[Nat.mul_succ,aA,<-pow_mul a m n,Semiring.pow_add]
theorem one_pow:∀n:Nat,(1:R)^n=1
 |0=>Semiring.pow_zero _
 |n+1=>by rw[aA,one_pow n];grind
theorem zero_pow:∀{n:Nat},0<n->(0:R)^n=0
 |n+1,_=>by rw[aA];grind
theorem mul_pow(a b:R):∀n:Nat,(a*b)^n=a^n*b^n
 |0=>by rw[Semiring.pow_zero,Semiring.pow_zero,Semiring.pow_zero];grind
 |n+1=>by rw[aA,aA,aA,mul_pow a b n];grind
structure jS(R:Type)[CommRing R](p:Nat):Prop where
 pr:Num.af p
 z:((p:Nat):R)=0
theorem jS.pos{p:Nat}(h:jS R p):0<p:=by have:=h.pr.1;lia
theorem jS.fr{p:Nat}(h:jS R p)(a b:R):∀j,(a+b)^(p^j)=a^(p^j)+b^(p^j)
 |0=>by rw[Ik];grind
 |j+1=>by rw[IU,pow_mul,pow_mul,pow_mul,h.fr a b j,RQ h.pr h.z]
theorem jS.pp{p:Nat}(h:jS R p)(j:Nat):0<p^j:=U1 h.pos
theorem jS.sub{p:Nat}(h:jS R p)(a b:R)(j:Nat):(a -b)^(p^j)=a^(p^j) -b^(p^j):=by have:=h.fr (a -b) b j;rw[show a -b+b=a by grind]at this;grind
theorem jS.nat{p:Nat}(h:jS R p)(j:Nat):∀n:Nat,((n:Nat):R)^(p^j)=(n:Nat)
 |0=>by have e:((0:Nat):R)=0:=Semiring.natCast_zero;rw[e,zero_pow (h.pp j)]
 |n+1=>by have e:((1:Nat):R)=1:=Semiring.natCast_one;rw[Semiring.natCast_add,h.fr,h.nat j n,e,one_pow]
theorem jS.mod{p:Nat}(h:jS R p)(z:Int):∃n:Nat,n<p/\((z:Int):R)=(n:Nat):=by
 have d:=h.pos;refine⟨(z%p).toNat,?_,?_⟩
 .have:=NA z (show(0:Int)<p by lia);have:=PQ z (show(p:Int)≠0 by lia);lia
 .have e:z=p*(z/p)+((z%p).toNat:Int):=by have:=PQ z (show(p:Int)≠0 by lia);have:=OF z p;lia
  have c:((z:Int):R)=(((p:Int)*(z/p)+((z%p).toNat:Int):Int):R):=Fs (λz:Int=>((z:Int):R)) e;rw[c,Ring.intCast_add,Ring.intCast_mul];have b:(((p:Nat):Int):R)=((p:Nat):R):=Ring.intCast_natCast p;have a:((((z%p).toNat:Nat):Int):R)=(((z%p).toNat:Nat):R):=Ring.intCast_natCast _;rw[b,a,h.z];grind
theorem jS.int{p:Nat}(h:jS R p)(j:Nat)(z:Int):((z:Int):R)^(p^j)=(z:Int):=by obtain⟨n,_,e⟩:=h.mod z;rw[e,h.nat]
noncomputable def Bx(x:R):List Int->R
 |[]=>0
 |c::l=>((c:Int):R)+x*Bx x l
theorem jS.ev{p:Nat}(h:jS R p)(j:Nat)(x:R):∀l:List Int,Bx x l^(p^j)=Bx (x^(p^j)) l
 |[]=>zero_pow (h.pp j)
 |c::l=>by show(((c:Int):R)+x*Bx x l)^(p^j)=((c:Int):R)+x^(p^j)*Bx (x^(p^j)) l;rw[h.fr,h.int,mul_pow,h.ev j x l]
noncomputable def ig(x:R):List R->R
 |[]=>0
 |c::l=>c+x*ig x l
noncomputable def E7(t:R):R->List R->List R
 |_,[]=>[]
 |_,s::c=>ig t (s::c)::E7 t s c
theorem wJ(t:R):∀(b:List R)(r:R),(E7 t r b).length=b.length
 |[],_=>rfl
 |s::c,_=>Fs (·+1) (wJ t c s)
theorem By(t x:R):∀(b:List R)(r:R),ig x (r::b) -ig t (r::b)=(x -t)*ig x (E7 t r b)
 |[],r=>by show r+x*0 -(r+t*0)=(x -t)*0;grind
 |s::c,r=>by
  have ih:=By t x c s;show r+x*ig x (s::c) -(r+t*ig t (s::c))=(x -t)*(ig t (s::c)+x*ig x (E7 t s c));generalize ig x (s::c)=u at*;generalize ig t (s::c)=v at*;have:(x -t)*(v+x*ig x (E7 t s c))=(x -t)*v+x*((x -t)*ig x (E7 t s c)):=by grind
  rw[this,<-ih];grind
theorem sA{t:R}:∀(b:List R)(r:R),ig t (r::b)=0->(∀z∈E7 t r b,z=0)->∀z∈r::b,z=0
 |[],r,h,_,z,hz=>by
  rw[Ee.mp hz];have e:ig t [r]=r:=by show r+t*0=r;grind
  rw[e]at h;exact h
 |s::c,r,h,d,z,hz=>by
  have a:=d _ FC;rcases GE.mp hz with rfl|hz
  .have e:ig t (z::s::c)=z+t*ig t (s::c):=rfl;rw[e,a]at h;grind
  .exact sA c s a (λz hz=>d z (FK _ hz)) z hz
noncomputable def OE(R:Type)[CommRing R]:Prop:=∀a b:R,a*b=0->a=0\/b=0
theorem jy(i:OE R):∀(a l:List R),a.Pairwise (·≠·)->(∀r∈a,ig r l=0)->l.length<=a.length->∀c∈l,c=0
 |_,[],_,_,_,c,f=>by cases f
 |[],r::l,_,_,g,c,f=>by cases g
 |t::a,r::b,k,h,g,c,f=>by
  have h0:=h t FC;have d:=Wp.mp k;refine sA b r h0 (jy i a (E7 t r b) d.2 (λx j=>?_) (by rw[wJ];simpa using g)) c f;have e:=By t x b r;rw[h0,h x (FK _ j)]at e;rcases i _ _ (show(x -t)*ig x (E7 t r b)=0 by grind)with z|z
  .exact absurd (show t=x by grind) (d.1 x j)
  .exact z
structure OG(R:Type)[CommRing R]where
 mem:R->Prop
 zero:mem 0
 add:∀{a b:R},mem a->mem b->mem (a+b)
 mul:∀(c:R){a:R},mem a->mem (c*a)
variable(I:OG R)
theorem OG.neg{a:R}(h:I.mem a):I.mem (-a):=by have:=I.mul (-1) h;rw[show-1*a= -a by grind]at this;exact this
noncomputable def OG.st:Setoid R:=⟨λa b=>I.mem (a -b),λa=>by rw[show a -a=0 by grind];exact I.zero,λ{a b} h=>by rw[show b -a= -(a -b) by grind];exact I.neg h,λ{a b c} h k=>by rw[show a -c=(a -b)+(b -c) by grind];exact I.add h k⟩
noncomputable def Qt:Type:=Quotient I.st
noncomputable def Qt.mk(a:R):Qt I:=Quotient.mk I.st a
variable{I}
theorem Qt.eq{a b:R}:Qt.mk I a=Qt.mk I b↔I.mem (a -b):=⟨λh=>Quotient.exact h,λh=>Quotient.sound h⟩
theorem Qt.ex(q:Qt I):∃a,q=Qt.mk I a:=⟨_,(Quotient.exists_rep q).choose_spec.symm⟩
noncomputable def Qt.RS(f:R->R->R)(h:∀a b c d,I.mem (a -c)->I.mem (b -d)->I.mem (f a b -f c d))(x y:Qt I):Qt I:=Quotient.lift₂ (λa b=>Qt.mk I (f a b)) (λa b c d g e=>Qt.eq.mpr (h a b c d g e)) x y
instance:Add (Qt I):=⟨Qt.RS (·+·) λa b c d h k=>by rw[show a+b -(c+d)=(a -c)+(b -d) by grind];exact I.add h k⟩
instance:Mul (Qt I):=⟨Qt.RS (·*·) λa b c d h k=>by rw[show a*b -c*d=b*(a -c)+c*(b -d) by grind];exact I.add (I.mul _ h) (I.mul _ k)⟩
instance:Sub (Qt I):=⟨Qt.RS (· -·) λa b c d h k=>by rw[show a -b -(c -d)=(a -c)+ -(b -d) by grind];exact I.add h (I.neg k)⟩
instance:Neg (Qt I):=⟨λx=>Ub (λa=>Qt.mk I (-a)) (λa b h=>Qt.eq.mpr (by rw[show-a - -b= -(a -b) by grind];exact I.neg h)) x⟩
instance:NatCast (Qt I):=⟨λn=>Qt.mk I (n:Nat)⟩
instance:IntCast (Qt I):=⟨λn=>Qt.mk I (n:Int)⟩
instance(n:Nat):OfNat (Qt I) n:=⟨Qt.mk I (OfNat.ofNat n)⟩
instance:SMul Nat (Qt I):=⟨λn a=>(n:Nat)*a⟩
instance:SMul Int (Qt I):=⟨λn a=>(n:Int)*a⟩
noncomputable def Qt.pw(a:Qt I):Nat->Qt I
 |0=>1
 |n+1=>Qt.pw a n*a
instance:HPow (Qt I) Nat (Qt I):=⟨Qt.pw⟩
theorem Qt.mul(a b:R):Qt.mk I a*Qt.mk I b=Qt.mk I (a*b):=rfl
instance:CommRing (Qt I)where
 add_zero:=λa=>by obtain⟨a,rfl⟩:=a.ex;exact Fs (Qt.mk I) (show a+0=a by grind)
 add_comm:=λa b=>by obtain⟨a,rfl⟩:=a.ex;obtain⟨b,rfl⟩:=b.ex;exact Fs (Qt.mk I) (show a+b=b+a by grind)
 add_assoc:=λa b c=>by obtain⟨a,rfl⟩:=a.ex;obtain⟨b,rfl⟩:=b.ex;obtain⟨c,rfl⟩:=c.ex;exact Fs (Qt.mk I) (show a+b+c=a+(b+c) by grind)
 mul_assoc:=λa b c=>by obtain⟨a,rfl⟩:=a.ex;obtain⟨b,rfl⟩:=b.ex;obtain⟨c,rfl⟩:=c.ex;exact Fs (Qt.mk I) (show a*b*c=a*(b*c) by grind)
 mul_one:=λa=>by obtain⟨a,rfl⟩:=a.ex;exact Fs (Qt.mk I) (show a*1=a by grind)
 one_mul:=λa=>by obtain⟨a,rfl⟩:=a.ex;exact Fs (Qt.mk I) (show 1*a=a by grind)
 left_distrib:=λa b c=>by obtain⟨a,rfl⟩:=a.ex;obtain⟨b,rfl⟩:=b.ex;obtain⟨c,rfl⟩:=c.ex;exact Fs (Qt.mk I) (show a*(b+c)=a*b+a*c by grind)
 right_distrib:=λa b c=>by obtain⟨a,rfl⟩:=a.ex;obtain⟨b,rfl⟩:=b.ex;obtain⟨c,rfl⟩:=c.ex;exact Fs (Qt.mk I) (show(a+b)*c=a*c+b*c by grind)
 zero_mul:=λa=>by obtain⟨a,rfl⟩:=a.ex;exact Fs (Qt.mk I) (show 0*a=0 by grind)
 mul_zero:=λa=>by obtain⟨a,rfl⟩:=a.ex;exact Fs (Qt.mk I) (show a*0=0 by grind)
 pow_zero:=λa=>rfl
 pow_succ:=λa n=>rfl
 ofNat_succ:=λn=>Fs (Qt.mk I) (Semiring.ofNat_succ n)
 ofNat_eq_natCast:=λn=>Fs (Qt.mk I) (Semiring.ofNat_eq_natCast n)
 nsmul_eq_natCast_mul:=λn a=>rfl
 neg_add_cancel:=λa=>by obtain⟨a,rfl⟩:=a.ex;exact Fs (Qt.mk I) (show-a+a=0 by grind)
 sub_eq_add_neg:=λa b=>by obtain⟨a,rfl⟩:=a.ex;obtain⟨b,rfl⟩:=b.ex;exact Fs (Qt.mk I) (show a -b=a+ -b by grind)
 neg_zsmul:=λi a=>by obtain⟨a,rfl⟩:=a.ex;exact Fs (Qt.mk I) (show((-i:Int):R)*a= -(((i:Int):R)*a) by rw[Ring.intCast_neg];grind)
 zsmul_natCast_eq_nsmul:=λn a=>by obtain⟨a,rfl⟩:=a.ex;exact Fs (Qt.mk I) (show(((n:Nat):Int):R)*a=((n:Nat):R)*a by rw[Ring.intCast_natCast])
 intCast_ofNat:=λn=>Fs (Qt.mk I) (Ring.intCast_ofNat n)
 intCast_neg:=λi=>Fs (Qt.mk I) (Ring.intCast_neg i)
 mul_comm:=λa b=>by obtain⟨a,rfl⟩:=a.ex;obtain⟨b,rfl⟩:=b.ex;exact Fs (Qt.mk I) (show a*b=b*a by grind)
end
end Alg
namespace Alg
open Lean.Grind Num Sub
local instance {R : Type} [Lean.Grind.Semiring R] : NatCast R := Lean.Grind.Semiring.natCast
local instance {R : Type} [Lean.Grind.Ring R] : IntCast R := Lean.Grind.Ring.intCast
structure Po where
 c:Nat->Int
 f:∃n,∀i,n<=i->c i=0
noncomputable def BA(c:Int):Nat->Int:=λi=>if i=0 then c else 0
noncomputable def cst(c:Int):Po:=⟨BA c,1,λi a=>Bi (by lia)⟩
theorem Po.ext{a b:Po}(h:∀i,a.1 i=b.1 i):a=b:=by
 cases a;cases b;cases(funext h);rfl
theorem BB(c:Int)(f:Nat->Int)(k:Nat):b8 (BA c) f k=c*f k:=by
 cases k with
 |zero=>exact cI _ _
 |succ k=>rw[eH,gp (f:=λi=>BA c (i+1)) (f':=λi=>0*BA c i) (λi=>by rw[SF];exact Bi (by lia)) (λ_=>rfl),iD];show c*f (k+1)+0*_=_;lia
instance:Add Po:=⟨λa b=>⟨λi=>a.1 i+b.1 i,by obtain⟨n,h⟩:=a.2;obtain⟨m,k⟩:=b.2;exact⟨n+m,λi hi=>by show a.1 i+b.1 i=0;rw[h i (by lia),k i (by lia)];rfl⟩⟩⟩
instance:Mul Po:=⟨λa b=>⟨b8 a.1 b.1,by obtain⟨n,h⟩:=a.2;obtain⟨m,k⟩:=b.2;exact⟨n+m,λi hi=>oM h k (by lia)⟩⟩⟩
instance:Neg Po:=⟨λa=>⟨λi=> -a.1 i,by obtain⟨n,h⟩:=a.2;exact⟨n,λi hi=>by show-a.1 i=0;rw[h i hi];rfl⟩⟩⟩
instance:Sub Po:=⟨λa b=>a+ -b⟩
instance:NatCast Po:=⟨λn=>cst n⟩
instance:IntCast Po:=⟨cst⟩
instance(n:Nat):OfNat Po n:=⟨cst n⟩
instance:SMul Nat Po:=⟨λn a=>cst n*a⟩
instance:SMul Int Po:=⟨λn a=>cst n*a⟩
noncomputable def Po.pw(a:Po):Nat->Po
 |0=>cst 1
 |n+1=>Po.pw a n*a
instance:HPow Po Nat Po:=⟨Po.pw⟩
theorem Po.mulC(a b:Po):a*b=b*a:=Po.ext λk=>eG _ _ k
theorem Po.pZ(c:Int)(a:Po)(i:Nat):(cst c*a).1 i=c*a.1 i:=BB c a.1 i
instance:CommRing Po where
 add_zero:=λa=>Po.ext λi=>by show a.1 i+(if i=0 then 0 else 0)=a.1 i;split<;>lia
 add_comm:=λa b=>Po.ext λi=>Int.add_comm _ _
 add_assoc:=λa b c=>Po.ext λi=>Int.add_assoc _ _ _
 mul_assoc:=λa b c=>Po.ext λi=>nE b.1 c.1 i a.1
 mul_one:=λa=>by rw[Po.mulC];exact Po.ext λi=>by rw[show(1:Po)=cst 1 from rfl,Po.pZ,XF]
 one_mul:=λa=>Po.ext λi=>by rw[show(1:Po)=cst 1 from rfl,Po.pZ,XF]
 left_distrib:=λa b c=>Po.ext λi=>zY a.1 b.1 c.1 i
 right_distrib:=λa b c=>Po.ext λi=>kI a.1 b.1 c.1 i
 zero_mul:=λa=>Po.ext λi=>by rw[show(0:Po)=cst 0 from rfl,Po.pZ,SF];show 0=if i=0 then(0:Int)else 0;split<;>rfl
 mul_zero:=λa=>by rw[Po.mulC];exact Po.ext λi=>by rw[show(0:Po)=cst 0 from rfl,Po.pZ,SF];show 0=if i=0 then(0:Int)else 0;split<;>rfl
 pow_zero:=λa=>rfl
 pow_succ:=λa n=>rfl
 ofNat_succ:=λn=>Po.ext λi=>by show(if i=0 then((n+1:Nat):Int)else 0)=(if i=0 then(n:Int)else 0)+(if i=0 then 1 else 0);split<;>lia
 ofNat_eq_natCast:=λn=>rfl
 nsmul_eq_natCast_mul:=λn a=>rfl
 neg_add_cancel:=λa=>Po.ext λi=>by show-a.1 i+a.1 i=if i=0 then 0 else 0;split<;>lia
 sub_eq_add_neg:=λa b=>rfl
 neg_zsmul:=λi a=>Po.ext λk=>by show(cst (-i)*a).1 k= -(cst i*a).1 k;rw[Po.pZ,Po.pZ,U5]
 zsmul_natCast_eq_nsmul:=λn a=>rfl
 intCast_ofNat:=λn=>rfl
 intCast_neg:=λi=>Po.ext λk=>by show(if k=0 then-i else 0)= -(if k=0 then i else 0);split<;>lia
 mul_comm:=Po.mulC
noncomputable def cY(l:List Int):Po:=⟨co l,l.length,λi a=>outI a⟩
noncomputable def Ip(p:Nat):OG Po:=⟨λf=>∀i,(p:Int)∣f.1 i,λi=>by show(p:Int)∣if i=0 then 0 else 0;split<;>exact⟨0,by lia⟩,λh k i=>Qb (h i) (k i),λc {a} h i=>by show(p:Int)∣b8 c.1 a.1 i;exact kJ _ λj _=>W0 (h _) ⟨_,SL _ _⟩⟩
abbrev F(p:Nat):Type:=Qt (Ip p)
variable{p:Nat}
noncomputable def fL(p:Nat)(l:List Int):F p:=Qt.mk (Ip p) (cY l)
noncomputable def X:F p:=fL p [0,1]
theorem wK{l m:List Int}:fL p l=fL p m↔∀i,(p:Int)∣l.getD i 0 -m.getD i 0:=Qt.eq
theorem F.chr(a:af p):jS (F p) p:=⟨a,Qt.eq.mpr λi=>by
 show(p:Int)∣(cst p).1 i+ -(cst 0).1 i;show(p:Int)∣(if i=0 then(p:Int)else 0)+ -(if i=0 then 0 else 0);split
 .exact⟨1,by lia⟩
 .exact⟨0,by lia⟩⟩
theorem fJ(c:Int)(l:List Int):fL p (c::l)=((c:Int):F p)+X*fL p l:=by
 have:cY (c::l)=cst c+cY [0,1]*cY l:=Po.ext λi=>by
  show(c::l).getD i 0=(if i=0 then c else 0)+b8 (co [0,1]) (co l) i;cases i with
  |zero=>rw[cI];show c=c+0*_;lia
  |succ i=>rw[eH,gp (f:=λi=>co [0,1] (i+1)) (f':=BA 1) (λj=>by cases j<;>rfl) (λ_=>rfl),BB];show l.getD i 0=0+(0*_+1*l.getD i 0);lia
 exact Fs (Qt.mk (Ip p)) this
theorem nX:∀l:List Int,Bx (X:F p) l=fL p l
 |[]=>Qt.eq.mpr λi=>by show(p:Int)∣(cst 0).1 i+ -(co [] i);show(p:Int)∣(if i=0 then 0 else 0)+ -0;split<;>exact⟨0,by lia⟩
 |c::l=>by rw[fJ,<-nX l];rfl
theorem BC(f:F p):∃l,f=fL p l:=by
 obtain⟨⟨g,n,h⟩,rfl⟩:=f.ex;refine⟨(Ea n).map g,Fs (Qt.mk (Ip p)) (Po.ext λi=>?_)⟩;show g i=((Ea n).map g).getD i 0;rw[AC,Da];by_cases a:i<n
 .rw[Nw a];rfl
 .rw[FR (by rw[GT];lia),h i (by lia)];rfl
noncomputable def Dl(n:Nat)(f:F p):Prop:=Ub (s:=(Ip p).st) (λg:Po=>∀i,n<=i->(p:Int)∣g.1 i) (λa b h=>propext ⟨λk i c=>by
    have:=h i;have e:(a -b).1 i=a.1 i+ -b.1 i:=rfl;rw[e]at this;have:=RT (k i c) this;rw[show a.1 i -(a.1 i+ -b.1 i)=b.1 i by lia]at this;exact this,λk i c=>by
    have:=h i;have e:(a -b).1 i=a.1 i+ -b.1 i:=rfl;rw[e]at this;have:=Qb (k i c) this;rw[show b.1 i+(a.1 i+ -b.1 i)=a.1 i by lia]at this;exact this⟩) f
theorem G3{n m:Nat}{f:F p}(h:Dl n f)(k:n<=m):Dl m f:=by obtain⟨g,rfl⟩:=f.ex;exact λi a=>h i (by lia)
theorem Li(l:List Int):Dl l.length (fL p l):=λi a=>by show(p:Int)∣l.getD i 0;rw[outI a];exact⟨0,by lia⟩
theorem BD(f:F p):∃n,Dl n f:=by obtain⟨l,rfl⟩:=BC f;exact⟨_,Li l⟩
theorem p7{f:F p}:Dl 0 f↔f=0:=by
 obtain⟨g,rfl⟩:=f.ex;refine⟨λh=>Qt.eq.mpr λi=>?_,λh i _=>?_⟩
 .show(p:Int)∣g.1 i+ -(if i=0 then 0 else 0);rw[show g.1 i+ -(if i=0 then(0:Int)else 0)=g.1 i by split<;>lia];exact h i (KE _)
 .have:=Qt.eq.mp h i;have e:(g -(0:Po)).1 i=g.1 i+ -(if i=0 then 0 else 0):=rfl;rw[e,show g.1 i+ -(if i=0 then(0:Int)else 0)=g.1 i by split<;>lia]at this;exact this
theorem Lj{n:Nat}{f g:F p}(h:Dl n f)(k:Dl n g):Dl n (f+g):=by obtain⟨f,rfl⟩:=f.ex;obtain⟨g,rfl⟩:=g.ex;exact λi a=>Qb (h i a) (k i a)
theorem least{P:Nat->Prop}(h:∃n,P n):∃n,P n/\∀m,P m->n<=m:=by obtain⟨n,a,k⟩:=Ds (P:=λi=>¬P i) (h.imp λ_ h k=>k h);exact⟨n,Xl.mp a,λm b=>WQ λz=>k m z b⟩
noncomputable def dg(f:F p):Nat:=(least (BD f)).choose
theorem eX(f:F p):Dl (dg f) f:=(least (BD f)).choose_spec.1
theorem lX{n:Nat}{f:F p}(h:Dl n f):dg f<=n:=(least (BD f)).choose_spec.2 n h
local instance {R : Type} [Lean.Grind.Semiring R] : NatCast R := Lean.Grind.Semiring.natCast
local instance {R : Type} [Lean.Grind.Ring R] : IntCast R := Lean.Grind.Ring.intCast
variable{p:Nat}
theorem p8{g:Po}{n:Nat}(h:dg (Qt.mk (Ip p) g)=n+1):¬(p:Int)∣g.1 n:=λz=>by
 have d:=eX (Qt.mk (Ip p) g);rw[h]at d;have:Dl n (Qt.mk (Ip p) g):=λi a=>by
  by_cases e:i=n
  .rw[e];exact z
  .exact d i (by lia)
 have:=lX this;lia
theorem wL{g:Po}{n:Nat}(h:Dl (n+1) (Qt.mk (Ip p) g))(k:¬(p:Int)∣g.1 n):dg (Qt.mk (Ip p) g)=n+1:=by
 have b:=lX h;have a:=eX (Qt.mk (Ip p) g);rcases XI (dg (Qt.mk (Ip p) g)) (n+1)with z|z
 .exact absurd (a n (by lia)) k
 .lia
theorem cR:dg (0:F p)=0:=U2.mp (lX (p7.mpr rfl))
theorem bC{f:F p}:dg f=0↔f=0:=⟨λh=>p7.mp (h▸eX f),λh=>h▸cR⟩
theorem Lk{f g:F p}{n:Nat}(h:dg f<=n)(k:dg g<=n):dg (f+g)<=n:=lX (Lj (G3 (eX f) h) (G3 (eX g) k))
theorem wM(r:af p){f g:F p}{n m:Nat}(h:dg f=n+1)(k:dg g=m+1):dg (f*g)=n+m+1:=by
 obtain⟨a,rfl⟩:=f.ex;obtain⟨b,rfl⟩:=g.ex;have o:=p8 h;have l:=p8 k;have d:=eX (Qt.mk (Ip p) a);have c:=eX (Qt.mk (Ip p) b);rw[h]at d;rw[k]at c;refine wL (g:=a*b) (λi u=>?_) λz=>?_
 .show(p:Int)∣b8 a.1 b.1 i;refine kJ _ λj _=>?_;by_cases e:n+1<=j
  .exact W0 (d j e) ⟨_,rfl⟩
  .exact W0 (c (i -j) (by lia)) ⟨_,SL _ _⟩
 .have z:(p:Int)∣b8 a.1 b.1 (n+m):=z;have q:b8 a.1 b.1 (n+m)=a.1 n*b.1 m+sm (λj=>if j=n then 0 else a.1 j*b.1 (n+m -j)) (n+m+1):=by
   unfold b8;have t:∀j,a.1 j*b.1 (n+m -j)=(if j=n then a.1 j*b.1 (n+m -j)else 0)+(if j=n then 0 else a.1 j*b.1 (n+m -j)):=λj=>by
    by_cases z:j=n
    .rw[Bz z,Bz z,Ts]
    .rw[Bi z,Bi z,WY]
   rw[cH (n+m+1) λj _=>t j,kG,oG n (λj=>a.1 j*b.1 (n+m -j)),Bz (by lia),show n+m -n=m by lia]
  have rest:(p:Int)∣sm (λj=>if j=n then 0 else a.1 j*b.1 (n+m -j)) (n+m+1):=kJ _ λj _=>by
   by_cases e:j=n
   .rw[Bz e];exact⟨0,by lia⟩
   .rw[Bi e];by_cases s:n+1<=j
    .exact W0 (d j s) ⟨_,rfl⟩
    .exact W0 (c (n+m -j) (by lia)) ⟨_,SL _ _⟩
  have:=RT z rest;rw[q,show a.1 n*b.1 m+sm (λj=>if j=n then 0 else a.1 j*b.1 (n+m -j)) (n+m+1) -sm (λj=>if j=n then 0 else a.1 j*b.1 (n+m -j)) (n+m+1)=a.1 n*b.1 m by lia]at this;exact(qY r this).elim o l
theorem F.G4(c:af p):OE (F p):=λa b h=>by
 by_cases e:dg a=0
 .exact .inl (bC.mp e)
 by_cases d:dg b=0
 .exact .inr (bC.mp d)
 have:=wM c (f:=a) (g:=b) (n:=dg a -1) (m:=dg b -1) (by lia) (by lia);rw[h,cR]at this;lia
theorem bD(a:af p){f g:F p}(h:f≠0)(k:g≠0):dg (f*g)+1=dg f+dg g:=by have c:dg f≠0:=λz=>h (bC.mp z);have b:dg g≠0:=λz=>k (bC.mp z);have:=wM a (f:=f) (g:=g) (n:=dg f -1) (m:=dg g -1) (by lia) (by lia);lia
theorem Ll(c:Int):((c:Int):F p)=Qt.mk (Ip p) (cst c):=rfl
theorem bE{c:Int}:((c:Int):F p)=0↔(p:Int)∣c:=by
 rw[Ll,<-p7];refine⟨λh=>h 0 (BM _),λh i _=>?_⟩;show(p:Int)∣if i=0 then c else 0
 split
 .exact h
 .exact⟨0,by lia⟩
theorem p9(a:af p){c:Int}(h:¬(p:Int)∣c):∃y:Int,((y:Int):F p)*((c:Int):F p)=1:=by
 have f:2<=p:=by have:=a.1;lia
 obtain⟨n,rfl⟩:∃n,p=n+2:=⟨p -2,by lia⟩;have C:=F.chr a;have e:=C.int 1 c;rw[XA]at e;have pc:∀k:Nat,((c^k:Int):F (n+2))=((c:Int):F (n+2))^k:=λk=>by
  induction k with
  |zero=>rw[XR,Semiring.pow_zero];exact Ring.intCast_one
  |succ k b=>rw[XS,Ring.intCast_mul,b,aA]
 refine⟨c^n,?_⟩;rw[pc];rw[aA,aA]at e;generalize((c:Int):F (n+2))^n=u at*;have d:((c:Int):F (n+2))≠0:=λz=>h (bE.mp z);generalize((c:Int):F (n+2))=v at*;rcases F.G4 a v (u*v -1) (by grind)with z|z
 .exact absurd z d
 .grind
noncomputable def mono(j:Nat)(c:Int):Po:=⟨λi=>if i=j then c else 0,j+1,λi a=>Bi (by lia)⟩
theorem wN(j:Nat)(c:Int)(g:Nat->Int)(k:Nat):b8 (mono j c).1 g k=if j<=k then c*g (k -j)else 0:=by
 have:=zX c (λ_=>0) g j k;rw[gp (f':=(mono j c).1) (λi=>by show 0+(if i=j then c else 0)=if i=j then c else 0;lia) (λ_=>rfl)]at this;rw[this];have z:b8 (λ_=>0) g k=0:=by rw[gp (f':=λi=>0*g i) (λi=>by lia) (λ_=>rfl),iD];lia
 rw[z];lia
theorem uE(v:af p){b:F p}(C:b≠0):∀(n:Nat)(a:F p),dg a<=n->∃q r,a=b*q+r/\dg r<dg b:=by
 have E:dg b≠0:=λz=>C (bC.mp z);intro n
 induction n with
 |zero=>intro a h;exact⟨0,a,by grind,by lia⟩
 |succ n s=>
  intro a h;by_cases g:dg a<dg b
  .exact⟨0,a,by grind,g⟩
  obtain⟨m,j⟩:∃m,dg b=m+1:=⟨dg b -1,by lia⟩;obtain⟨k,x⟩:∃k,dg a=k+1:=⟨dg a -1,by lia⟩;obtain⟨c,rfl⟩:=a.ex;obtain⟨d,rfl⟩:=b.ex;obtain⟨y,f⟩:=p9 v (p8 j);have o:=eX (Qt.mk (Ip p) c);have l:=eX (Qt.mk (Ip p) d);rw[x]at o;rw[j]at l;have f:(p:Int)∣y*d.1 m -1:=by
   have e:((y*d.1 m -1:Int):F p)=0:=by rw[Ring.intCast_sub,Ring.intCast_mul,f,Ring.intCast_one];grind
   exact bE.mp e
  have B:Dl k (Qt.mk (Ip p) (c -mono (k -m) (c.1 k*y)*d)):=λi D=>by
   show(p:Int)∣c.1 i+ -b8 (mono (k -m) (c.1 k*y)).1 d.1 i;rw[wN,Bz (by lia)];by_cases e:i=k
   .rw[e,show k -(k -m)=m by lia];obtain⟨w,t⟩:=f;exact⟨-(c.1 k*w),by
     have:c.1 k+ -(c.1 k*y*d.1 m)= -(c.1 k*(y*d.1 m -1)):=by grind
     rw[this,t];grind⟩
   .exact Qb (o i (by lia)) (XG.mpr (W0 (l (i -(k -m)) (by lia)) ⟨_,SL _ _⟩))
  obtain⟨q,r,e,u⟩:=s _ (Hn (lX B) (by lia));refine⟨q+Qt.mk (Ip p) (mono (k -m) (c.1 k*y)),r,?_,u⟩;have A:Qt.mk (Ip p) (c -mono (k -m) (c.1 k*y)*d)=Qt.mk (Ip p) c -Qt.mk (Ip p) (mono (k -m) (c.1 k*y))*Qt.mk (Ip p) d:=rfl;rw[A]at e;grind
noncomputable def Dd(d a:F p):Prop:=∃q,a=d*q
theorem BE(f:af p):∀(n:Nat)(a b:F p),dg b<=n->∃d u v,d=u*a+v*b/\Dd d a/\Dd d b:=by
 intro n
 induction n with
 |zero=>intro a b h;have:=bC.mp (U2.mp h);exact⟨a,1,0,by grind,⟨1,by grind⟩,⟨0,by grind⟩⟩
 |succ n c=>
  intro a b h;by_cases i:b=0
  .exact⟨a,1,0,by grind,⟨1,by grind⟩,⟨0,by grind⟩⟩
  .obtain⟨q,r,e,j⟩:=uE f i _ a (BM _);obtain⟨d,u,v,l,⟨s,g⟩,⟨t,k⟩⟩:=c b r (by lia);exact⟨d,v,u -v*q,by grind,⟨s*q+t,by grind⟩,⟨s,g⟩⟩
theorem c6(c:af p){a:F p}(h:dg a=1):∃y,y*a=1:=by
 obtain⟨g,rfl⟩:=a.ex;have t:=p8 (n:=0) h;obtain⟨y,b⟩:=p9 c t;refine⟨(y:Int),?_⟩;have e:Qt.mk (Ip p) g=((g.1 0:Int):F p):=Qt.eq.mpr λi=>by
  have d:=eX (Qt.mk (Ip p) g);rw[h]at d;show(p:Int)∣g.1 i+ -(if i=0 then g.1 0 else 0);by_cases z:i=0
  .rw[Bz z,z];exact⟨0,by lia⟩
  .rw[Bi z];have:=d i (by lia);rw[show g.1 i+ -0=g.1 i by lia];exact this
 rw[e];exact b
structure cJ(P:F p):Prop where
 two:2<=dg P
 no:∀a b,P=a*b->dg a=1\/dg b=1
theorem cJ.ne{P:F p}(h:cJ P):P≠0:=λz=>by have:=h.two;rw[z,cR]at this;lia
theorem cJ.euclid(f:af p){P:F p}(h:cJ P){a b:F p}(g:Dd P (a*b)):Dd P a\/Dd P b:=by
 obtain⟨d,u,v,e,⟨s,j⟩,⟨t,i⟩⟩:=BE f _ P a (BM _);obtain⟨w,k⟩:=g;rcases h.no d s j with z|z
 .obtain⟨y,c⟩:=c6 f z;refine .inr ⟨y*(u*b+v*w),?_⟩;have:b=y*d*b:=by rw[c];grind
  rw[this,e];grind
 .obtain⟨y,c⟩:=c6 f z;refine .inl ⟨y*t,?_⟩;have:d=P*y:=by
   have:d=d*(y*s):=by rw[c];grind
   grind
  rw[i,this];grind
theorem gg(l:af p):∀(n:Nat)(f:F p),dg f<=n->2<=dg f->∃P,cJ P/\Dd P f:=by
 intro n
 induction n with
 |zero=>intro f h k;lia
 |succ n j=>
  intro f h k;by_cases c:∀a b,f=a*b->dg a=1\/dg b=1
  .exact⟨f,⟨k,c⟩,1,by grind⟩
  .obtain⟨a,r⟩:=SA.mp c;obtain⟨b,o⟩:=SA.mp r;obtain⟨e,m⟩:=Xm.mp o;obtain⟨v,u⟩:=not_or.mp m;have d:f≠0:=λz=>by rw[z,cR]at k;lia
   have i:a≠0:=λz=>d (by rw[e,z];grind);have g:b≠0:=λz=>d (by rw[e,z];grind);have:=bD l i g;rw[<-e]at this;have x:dg a≠0:=λz=>i (bC.mp z);have w:dg b≠0:=λz=>g (bC.mp z);obtain⟨P,s,q,t⟩:=j a (by lia) (by lia);exact⟨P,s,q*b,by grind⟩
noncomputable def Pr(P:F p):OG (F p):=⟨Dd P,⟨0,by grind⟩,λ{a b} ⟨q,d⟩ ⟨r,e⟩=>⟨q+r,by grind⟩,λc {a} ⟨q,d⟩=>⟨c*q,by grind⟩⟩
abbrev Kf(P:F p):Type:=Qt (Pr P)
theorem Kf.chr(a:af p)(P:F p):jS (Kf P) p:=⟨a,by have:=(F.chr a).z;exact Fs (Qt.mk (Pr P)) this⟩
theorem Kf.zero{P f:F p}:Qt.mk (Pr P) f=0↔Dd P f:=by have:Qt.mk (Pr P) f=Qt.mk (Pr P) 0↔Dd P (f -0):=Qt.eq;rw[show f -0=f by grind]at this;exact this
theorem Kf.G4(c:af p){P:F p}(h:cJ P):OE (Kf P):=λa b e=>by obtain⟨a,rfl⟩:=a.ex;obtain⟨b,rfl⟩:=b.ex;have e:Qt.mk (Pr P) (a*b)=0:=e;exact(h.euclid c (Kf.zero.mp e)).imp Kf.zero.mpr Kf.zero.mpr
local instance {R : Type} [Lean.Grind.Semiring R] : NatCast R := Lean.Grind.Semiring.natCast
local instance {R : Type} [Lean.Grind.Ring R] : IntCast R := Lean.Grind.Ring.intCast
section
variable{R:Type}[CommRing R]
theorem BF(b:OE R){a:R}:∀n:Nat,a^n=0->a=0\/(1:R)=0
 |0,h=>.inr (by rw[Semiring.pow_zero]at h;exact h)
 |n+1,h=>by
  rw[aA]at h;rcases b _ _ h with z|z
  .exact BF b n z
  .exact .inl z
theorem BG(x:R):∀l:List Int,Bx x l=ig x (l.map λz:Int=>((z:Int):R))
 |[]=>rfl
 |c::l=>by show _+x*Bx x l=_+x*ig x _;rw[BG x l]
noncomputable def ml(t:R):R->List R->List R
 |c,[]=>[c]
 |c,a::l=>(c -t*a)::ml t a l
theorem uF(t:R):∀(l:List R)(c:R),(ml t c l).length=l.length+1
 |[],_=>rfl
 |a::l,c=>by show(ml t a l).length+1=_;rw[uF t l a];rfl
theorem G5(t x:R):∀(l:List R)(c:R),ig x (ml t c l)=c+(x -t)*ig x l
 |[],c=>by show c+x*0=c+(x -t)*0;grind
 |a::l,c=>by show c -t*a+x*ig x (ml t a l)=c+(x -t)*(a+x*ig x l);rw[G5 t x l a];grind
theorem wO(t:R):∀(l:List R)(c:R),(ml t c l).getLast?=(c::l).getLast?
 |[],c=>rfl
 |a::l,c=>by
  show((c -t*a)::ml t a l).getLast?=_;have n:ml t a l≠[]:=λz=>by have:=uF t l a;rw[z]at this;cases this
  obtain⟨u,b,e⟩:=S0 n;rw[e,X1,<-e,wO t l a,X1]
theorem wQ(s t:R):∀(l:List R)(c e b:R),e -s*c=b -t*c->ml s e (ml t c l)=ml t b (ml s c l)
 |[],c,e,b,h=>by show[e -s*c,c]=[b -t*c,c];rw[h]
 |a::l,c,e,b,h=>by show(e -s*(c -t*a))::ml s (c -t*a) (ml t a l)=(b -t*(c -s*a))::ml t (c -s*a) (ml s a l);rw[wQ s t l a (c -t*a) (c -s*a) (by grind)];congr 1;grind
noncomputable def b9:List R->List R
 |[]=>[1]
 |t::a=>ml t 0 (b9 a)
theorem jz:∀a:List R,(b9 a).length=a.length+1
 |[]=>rfl
 |t::a=>by show(ml t 0 (b9 a)).length=_;rw[uF,jz a];rfl
theorem lY:∀a:List R,(b9 a).getLast?=some 1
 |[]=>rfl
 |t::a=>by
  show(ml t 0 (b9 a)).getLast?=_;have n:b9 a≠[]:=λz=>by have:=jz a;rw[z]at this;cases this
  obtain⟨u,b,e⟩:=S0 n;rw[wO,e,X1,<-e,lY a]
theorem nY(t:R):∀a:List R,b9 (a++[t])=b9 (t::a)
 |[]=>rfl
 |s::a=>by show ml s 0 (b9 (a++[t]))=ml t 0 (ml s 0 (b9 a));rw[nY t a];exact wQ s t (b9 a) 0 0 0 (by grind)
theorem wR{p:Nat}(h:jS R p)(t:R):∀(l:List R)(c:R),(ml t c l).map (·^p)=ml (t^p) (c^p) (l.map (·^p))
 |[],c=>rfl
 |a::l,c=>by show(c -t*a)^p::(ml t a l).map (·^p)=(c^p -t^p*a^p)::ml (t^p) (a^p) (l.map (·^p));have:=h.sub c (t*a) 1;rw[XA]at this;rw[this,mul_pow,wR h t l a]
theorem lZ{p:Nat}(h:jS R p):∀a:List R,(b9 a).map (·^p)=b9 (a.map (·^p))
 |[]=>by show[(1:R)^p]=[1];rw[one_pow]
 |t::a=>by show(ml t 0 (b9 a)).map (·^p)=ml (t^p) 0 (b9 (a.map (·^p)));rw[wR h,zero_pow h.pos,lZ h a]
noncomputable def dd(L:List (R×R))(i:Nat):R:=match L with
 |[]=>0
 |(c,t)::L=>c*t^i+dd L i
theorem wU(u:R)(i:Nat):∀L:List (R×R),dd (L.map λx=>(x.1*(x.2 -u),x.2)) i=dd L (i+1) -u*dd L i
 |[]=>by show(0:R)=0 -u*0;grind
 |(c,t)::L=>by show c*(t -u)*t^i+dd (L.map _) i=c*t^(i+1)+dd L (i+1) -u*(c*t^i+dd L i);rw[wU u i L,aA];grind
theorem sC(g:OE R):∀(n:Nat)(L:List (R×R)),L.length<=n->L.Pairwise (λx y=>x.2≠y.2)->(∀i,dd L i=0)->∀x∈L,x.1=0
 |_,[],_,_,_,x,a=>by cases a
 |0,_::_,d,_,_,x,a=>by cases d
 |n+1,(c,u)::L,d,l,h,x,a=>by
  have hd':=Wp.mp l;have e:∀i,dd (L.map λx=>(x.1*(x.2 -u),x.2)) i=0:=λi=>by rw[wU];have m:c*u^(i+1)+dd L (i+1)=0:=h (i+1);have r:c*u^i+dd L i=0:=h i;rw[aA]at m;grind
  have z:=sC g n _ (by rw[AN];simpa using d) (by rw[W3];exact hd'.2) e;have f:∀y∈L,y.1=0:=λy b=>by
   have:=z _ (IH.mpr ⟨y,b,rfl⟩);rcases g _ _ this with k|k
   .exact k
   .exact absurd (show u=y.2 by grind) (hd'.1 y b)
  rcases GE.mp a with rfl|a
  .have o:c*u^0+dd L 0=0:=h 0;have q:∀L:List (R×R),(∀y∈L,y.1=0)->dd L 0=0:=λL=>by
    induction L with
    |nil=>intro _;rfl
    |cons y L j=>intro k;show y.1*y.2^0+dd L 0=0;rw[k y FC,j λy b=>k y (FK _ b)];grind
   rw[q L f,Semiring.pow_zero]at o;show c=0;grind
  .exact f x a
end
local instance {R : Type} [Lean.Grind.Semiring R] : NatCast R := Lean.Grind.Semiring.natCast
local instance {R : Type} [Lean.Grind.Ring R] : IntCast R := Lean.Grind.Ring.intCast
variable{p:Nat}
theorem wV(M:F p):∀l:List Int,Qt.mk (Pr M) (fL p l)=Bx (Qt.mk (Pr M) X) l
 |[]=>by rw[<-nX];rfl
 |c::l=>by rw[fJ];show Qt.mk (Pr M) ((c:Int):F p)+Qt.mk (Pr M) X*Qt.mk (Pr M) (fL p l)=_;rw[wV M l];rfl
theorem cF(M f:F p):∀n:Nat,Qt.mk (Pr M) (f^n)=Qt.mk (Pr M) f^n
 |0=>by rw[Semiring.pow_zero,Semiring.pow_zero];rfl
 |n+1=>by rw[aA,aA,<-cF M f n];rfl
theorem mk_eq{M a b:F p}:Qt.mk (Pr M) a=Qt.mk (Pr M) b↔Dd M (a -b):=Qt.eq
theorem uG(a:af p){M:F p}{d:Nat}(h:Dd M ((X:F p)^(p^d) -X))(y:Kf M):y^(p^d)=y:=by
 obtain⟨f,rfl⟩:=y.ex;obtain⟨l,rfl⟩:=BC f;have e:Qt.mk (Pr M) X^(p^d)=Qt.mk (Pr M) X:=by rw[<-cF];exact mk_eq.mpr h
 rw[wV,(Kf.chr a M).ev,e]
theorem Dd.trans{a b c:F p}(h:Dd a b)(k:Dd b c):Dd a c:=by obtain⟨q,e⟩:=h;obtain⟨r,d⟩:=k;exact⟨q*r,by grind⟩
theorem OH(a:af p){M Q:F p}{d:Nat}(h:Dd M ((X:F p)^(p^d) -X))(y:1<=d)(j:Dd (Q*Q) M)(m:M≠0):dg Q=1:=by
 have l:2<=p:=by have:=a.1;lia
 have s:2<=p^d:=Hn l (Nat.le_self_pow (by lia) p);have e:=uG a (j.trans h) (Qt.mk (Pr (Q*Q)) Q);have sq:Qt.mk (Pr (Q*Q)) Q*Qt.mk (Pr (Q*Q)) Q=0:=Kf.zero.mpr ⟨1,by grind⟩;obtain⟨n,q⟩:∃n,p^d=n+2:=⟨p^d -2,by lia⟩;rw[q,aA,aA]at e;have z:Qt.mk (Pr (Q*Q)) Q=0:=by generalize Qt.mk (Pr (Q*Q)) Q^n=u at*;generalize Qt.mk (Pr (Q*Q)) Q=v at*;grind
 obtain⟨w,t⟩:=Kf.zero.mp z;have b:Q≠0:=λz=>m (by obtain⟨r,o⟩:=j;rw[o,z];grind);have f:Q*w=1:=by
  rcases F.G4 a Q (1 -Q*w) (by grind)with k|k
  .exact absurd k b
  .grind
 have one:dg (1:F p)=1:=by
  refine wL (g:=cst 1) (λi x=>?_) λz=>?_
  .show(p:Int)∣if i=0 then 1 else 0
   rw[Bi (by lia)];exact⟨0,by lia⟩
  .have z:(p:Int)∣1:=z;have:=UV (by decide) z;lia
 have c:w≠0:=λz=>by
  rw[z]at f;have:(1:F p)=0:=by grind
  rw[this,cR]at one;cases one
 have:=bD a b c;rw[f,one]at this;have B:dg Q≠0:=λz=>b (bC.mp z);have A:dg w≠0:=λz=>c (bC.mp z);lia
theorem gX(a:af p):dg (1:F p)=1:=by
 refine wL (g:=cst 1) (λi b=>?_) λz=>?_
 .show(p:Int)∣if i=0 then 1 else 0
  rw[Bi (by lia)];exact⟨0,by lia⟩
 .have z:(p:Int)∣1:=z;have:=UV (by decide) z;have:=a.1;lia
theorem Dd.len(f:af p){a b:F p}(h:Dd a b)(e:b≠0):dg a<=dg b:=by obtain⟨q,c⟩:=h;have g:a≠0:=λz=>e (by rw[c,z];grind);have d:q≠0:=λz=>e (by rw[c,z];grind);have:=bD f g d;rw[<-c]at this;have:dg q≠0:=λz=>d (bC.mp z);lia
theorem qa(a:af p)(c:Int):dg ((c:Int):F p)<=1:=lX λi b=>by
 show(p:Int)∣if i=0 then c else 0
 rw[Bi (by lia)];exact⟨0,by lia⟩
theorem nZ(a:af p){P:F p}(h:cJ P){c:Int}:((c:Int):Kf P)=0↔(p:Int)∣c:=by
 have e:((c:Int):Kf P)=Qt.mk (Pr P) ((c:Int):F p):=rfl;rw[e,Kf.zero];refine⟨λk=>?_,λk=>?_⟩
 .by_cases z:((c:Int):F p)=0
  .exact bE.mp z
  .have:=k.len a z;have:=qa a c;have:=h.two;lia
 .rw[bE.mpr k];exact⟨0,by grind⟩
theorem wW(a:af p){P:F p}(h:cJ P):(1:Kf P)≠0:=λz=>by have e:((1:Int):Kf P)=1:=Ring.intCast_one;rw[<-e]at z;have:=UV (by decide) ((nZ a h).mp z);have:=a.1;lia
theorem BH{R:Type}[CommRing R](x:R):∀n:Nat,ig x (Dg n 0++[1])=x^n
 |0=>by show 1+x*0=x^0;rw[Semiring.pow_zero];grind
 |n+1=>by rw[Gh];show 0+x*ig x (Dg n 0++[1])=_;rw[BH x n,aA];grind
theorem G6(d:af p){P:F p}(h:cJ P){c:Kf P}(q:c^p=c):∃n:Nat,n<p/\c=(n:Nat):=by
 apply FV;intro k;have v:2<=p:=by have:=d.1;lia
 obtain⟨m,o⟩:∃m,p=m+2:=⟨p -2,by lia⟩;have C:=Kf.chr d P;have j:∀x:Kf P,x^p=x->ig x (0::(-1)::(Dg m 0++[1]))=0:=λx f=>by show 0+x*(-1+x*ig x (Dg m 0++[1]))=0;rw[BH];have u:x^(m+2)=x:=(Fs (x^·) o).symm.trans f;rw[aA,aA]at u;grind
 have z:=jy (Kf.G4 d h) (c::(Ea p).map λn:Nat=>((n:Nat):Kf P)) (0::(-1)::(Dg m 0++[1])) ?_ (λr g=>j r ?_) (by simp;lia) 1 (by simp)
 .exact wW d h z
 .refine Wp.mpr ⟨λx f e=>?_,?_⟩
  .obtain⟨n,l,rfl⟩:=IH.mp f;exact k ⟨n,Kb.mp l,e⟩
  .rw[W3];refine OJ (λ{a b} w i (s:a<b) e=>?_) (X6 (n:=p));have i:=Kb.mp i;have t:((((b:Nat):Int) -((a:Nat):Int):Int):Kf P)=0:=by rw[Ring.intCast_sub,Ring.intCast_natCast,Ring.intCast_natCast,e];grind
   have:=UV (by lia) ((nZ d h).mp t);lia
 .rcases GE.mp g with rfl|g
  .exact q
  .obtain⟨n,_,rfl⟩:=IH.mp g;have:=C.nat 1 n;rw[XA]at this;exact this
structure Od(d:Nat)(P:F p):Prop where
 d1:1<=d
 yes:Dd P ((X:F p)^(p^d) -X)
 no:∀m,1<=m->m<d->¬Dd P ((X:F p)^(p^m) -X)
theorem sD(c:af p){P:F p}(h:cJ P){a b:Kf P}{j:Nat}(e:a^(p^j)=b^(p^j)):a=b:=by
 have:=(Kf.chr c P).sub a b j;rcases BF (Kf.G4 c h) (a:=a -b) (p^j) (by grind)with z|z
 .grind
 .exact absurd z (wW c h)
theorem Od.unlike(f:af p){P:F p}{d:Nat}(h:cJ P)(o:Od d P):((Ea d).map λj=>(Qt.mk (Pr P) X:Kf P)^(p^j)).Pairwise (·≠·):=by rw[W3];refine OJ (λ{a b} i c (g:a<b) e=>?_) (X6 (n:=d));have c:=Kb.mp c;refine o.no (b -a) (by lia) (by lia) (mk_eq.mp ?_);rw[cF];refine sD f h (j:=a) ?_;rw[<-pow_mul,<-XB,show b -a+a=b by lia];exact e.symm
theorem Od.dg(b:af p){P:F p}{d:Nat}(h:cJ P)(o:Od d P):dg P=d+1:=by
 have C:=Kf.chr b P;have B:=Kf.G4 b h;have N:=h.ne;have d1:=o.d1;have x:∀y:Kf P,y^(p^d)=y:=uG b o.yes;generalize v:(Qt.mk (Pr P) X:Kf P)=a at*;have w:=o.unlike b h;rw[v]at w;have D:d+1<=Alg.dg P:=by
  apply FV;intro O;obtain⟨l,R,e⟩:∃l:List Int,l.length=Alg.dg P/\P=fL p l:=by
   obtain⟨g,e⟩:=P.ex;refine⟨(Ea (Alg.dg P)).map g.1,by rw[AN,GT],?_⟩;rw[e];refine Qt.eq.mpr λi=>?_;show(p:Int)∣g.1 i+ -(((Ea (Alg.dg (Qt.mk (Ip p) g))).map g.1).getD i 0);rw[AC,Da];by_cases s:i<Alg.dg (Qt.mk (Ip p) g)
   .rw[Nw s];show(p:Int)∣g.1 i+ -g.1 i;exact⟨0,by lia⟩
   .rw[FR (by rw[GT];lia)];show(p:Int)∣g.1 i+ -0;have:=eX (Qt.mk (Ip p) g) i (by lia);rw[show g.1 i+ -0=g.1 i by lia];exact this
  have K:Bx a l=0:=by rw[<-v,<-wV,<-e];exact Kf.zero.mpr ⟨1,by grind⟩
  have z:=jy B ((Ea d).map λj=>a^(p^j)) (l.map λz:Int=>((z:Int):Kf P)) w (λr H=>?_) (by rw[AN,AN,GT];lia)
  .refine N ?_;rw[e];refine((wK (m:=[])).mpr λi=>?_).trans (nX []).symm;show(p:Int)∣l.getD i 0 -0;by_cases s:i<l.length
   .have:=z _ (IH.mpr ⟨_,getD_mem' s,rfl⟩);have:=(nZ b h).mp this;rw[WL];exact this
   .rw[outI (by lia)];exact⟨0,by lia⟩
  .obtain⟨j,_,rfl⟩:=IH.mp H;rw[<-BG,<-C.ev,K,zero_pow (C.pp j)]
 refine VR ?_ D;have u:(b9 ((Ea d).map λj=>a^(p^j))).map (·^p)=b9 ((Ea d).map λj=>a^(p^j)):=by
  rw[lZ C,W9];obtain⟨n,rfl⟩:∃n,d=n+1:=⟨d -1,by lia⟩;have J:(Ea (n+1)).map ((·^p)∘λj=>a^(p^j))=(Ea n).map (λj=>a^(p^(j+1)))++[a]:=by
   rw[VO,QP];congr 1
   .refine Pv λj _=>?_;show(a^(p^j))^p=_;rw[<-pow_mul,<-IU]
   .show[(a^(p^n))^p]=[a];rw[<-pow_mul,<-IU,x]
  have I:(Ea (n+1)).map (λj=>a^(p^j))=a::(Ea n).map λj=>a^(p^(j+1)):=by rw[WI,P3,W9,Ik];congr 1;rw[aA,Semiring.pow_zero];grind
  rw[J,I,nY]
 have f:∀c∈b9 ((Ea d).map λj=>a^(p^j)),∃n:Nat,n<p/\c=(n:Nat):=λc t=>by refine G6 b h ?_;obtain⟨i,s,rfl⟩:=T2 t;have:=Fs (λl:List (Kf P)=>l[i]?) u;simp only[Da,B1 s,HP]at this;exact Hk this
 obtain⟨m,q⟩:∃m:List Int,b9 ((Ea d).map λj=>a^(p^j))=m.map λz:Int=>((z:Int):Kf P):=by
  generalize b9 ((Ea d).map λj=>a^(p^j))=L at f
  induction L with
  |nil=>exact⟨[],rfl⟩
  |cons c L E=>obtain⟨m,q⟩:=E λc t=>f c (FK _ t);obtain⟨n,_,e⟩:=f c FC;refine⟨(n:Int)::m,?_⟩;rw[P3,<-q,e,Ring.intCast_natCast]
 have Q:m.length=d+1:=by have:=Fs XJ q;rw[jz,AN,AN,GT]at this;exact this.symm
 have A:Bx a m=0:=by rw[BG,<-q];obtain⟨n,rfl⟩:∃n,d=n+1:=⟨d -1,by lia⟩;rw[WI,P3];show ig a (ml (a^(p^0)) 0 _)=0;rw[G5,Ik,aA,Semiring.pow_zero];grind
 have dv:Dd P (fL p m):=Kf.zero.mp (by rw[wV,v];exact A);have M:fL p m≠0:=λz=>by have k:=lY ((Ea d).map λj=>a^(p^j));rw[q,List.getLast?_map]at k;obtain⟨y,G,e⟩:=IR.mp k;have:=(wK (l:=m) (m:=[])).mp (by rw[z,<-nX];rfl) (m.length -1);rw[AC,<-Wr,G]at this;have this:(p:Int)∣y -0:=this;rw[WL]at this;have:=(nZ b h).mpr this;rw[e]at this;exact wW b h this
 have:=dv.len b M;have:=lX (Li (p:=p) m);lia
local instance {R : Type} [Lean.Grind.Semiring R] : NatCast R := Lean.Grind.Semiring.natCast
local instance {R : Type} [Lean.Grind.Ring R] : IntCast R := Lean.Grind.Ring.intCast
section
variable{R:Type}[CommRing R]
noncomputable def tr(p d:Nat)(f:R):R:=sR (λj=>f^(p^j)) d
theorem BJ{p:Nat}(h:jS R p)(d:Nat)(f g:R):tr p d (f+g)=tr p d f+tr p d g:=by unfold tr;rw[<-uD];exact gW d λj _=>h.fr f g j
theorem G7{p:Nat}(h:jS R p)(d:Nat)(c:Int)(f:R):tr p d (((c:Int):R)*f)=((c:Int):R)*tr p d f:=by unfold tr;rw[<-pX];exact gW d λj _=>by rw[mul_pow,h.int]
theorem qb{p:Nat}(h:jS R p)(d:Nat):tr p d (0:R)=0:=pY d λj _=>zero_pow (h.pp j)
theorem BK{p:Nat}(h:jS R p)(f:Nat->R):∀n,(sR f n)^p=sR (λi=>f i^p) n
 |0=>zero_pow h.pos
 |n+1=>by have:=h.fr (sR f n) (f n) 1;rw[XA]at this;show(sR f n+f n)^p=_;rw[this,BK h f n];rfl
theorem Lm{p d:Nat}(h:jS R p){f:R}(e:f^(p^d)=f):(tr p d f)^p=tr p d f:=by
 unfold tr;rw[BK h];have g:sR (λi=>(f^(p^i))^p) d=sR (λi=>f^(p^(i+1))) d:=gW d λi _=>by rw[<-pow_mul,<-IU]
 have a:=iU (λi=>f^(p^i)) d;have c:sR (λi=>f^(p^i)) (d+1)=sR (λi=>f^(p^i)) d+f^(p^d):=rfl;rw[g];rw[c,e,Ik]at a;have b:f^1=f:=by rw[aA,Semiring.pow_zero];grind
 rw[b]at a;grind
theorem BL(x:R×R)(i:Nat):∀L:List (R×R),dd (L++[x]) i=dd L i+x.1*x.2^i
 |[]=>by show x.1*x.2^i+0=0+_;grind
 |y::L=>by show y.1*y.2^i+dd (L++[x]) i=y.1*y.2^i+dd L i+_;rw[BL x i L];grind
theorem sE(g:Nat->R)(i:Nat):∀d,dd ((Ea d).map λj=>((1:R),g j)) i=sR (λj=>g j^i) d
 |0=>rfl
 |d+1=>by rw[VO,QP];show dd (_++[((1:R),g d)]) i=_;rw[BL,sE g i d];show _+1*g d^i=_+g d^i;grind
end
variable{p:Nat}
theorem yM{R:Type}[CommRing R](a:R)(m n:Nat):(a^m)^n=(a^n)^m:=by rw[<-pow_mul,<-pow_mul,TZ]
theorem E8(a:af p){P:F p}{d:Nat}(h:cJ P)(o:Od d P):∃y:Kf P,tr p d y≠0:=by
 apply FV;intro e;have b:∀y:Kf P,tr p d y=0:=λy=>FV λz=>e ⟨y,z⟩;have c:=o.unlike a h;have d1:=o.d1;have:=sC (Kf.G4 a h) d ((Ea d).map λj=>((1:Kf P),(Qt.mk (Pr P) X:Kf P)^(p^j))) (by simp) (by
  rw[W3]at c⊢;exact c) (λi=>by
  rw[sE,<-b (Qt.mk (Pr P) X^i)];exact gW d λj _=>yM _ _ _) (1,(Qt.mk (Pr P) X:Kf P)^(p^0)) (IH.mpr ⟨0,Kb.mpr (by lia),rfl⟩)
 exact wW a h this
theorem sF(M f:F p)(d:Nat):Qt.mk (Pr M) (tr p d f)=tr p d (Qt.mk (Pr M) f):=by
 unfold tr
 induction d with
 |zero=>rfl
 |succ d a=>show Qt.mk (Pr M) (sR _ d)+Qt.mk (Pr M) (f^(p^d))=_;rw[a,cF];rfl
theorem cJ.apart(b:af p){P Q:F p}(h:cJ P)(n:¬Dd P Q):∃u v,u*P+v*Q=1:=by
 obtain⟨d,u,v,e,⟨s,f⟩,⟨t,c⟩⟩:=BE b _ P Q (BM _);rcases h.no d s f with z|z
 .obtain⟨y,a⟩:=c6 b z;exact⟨y*u,y*v,by rw[e]at a;grind⟩
 .obtain⟨y,a⟩:=c6 b z;refine absurd ⟨y*t,?_⟩ n;have:d=P*y:=by
   have:d=d*(y*s):=by rw[a];grind
   grind
  rw[c,this];grind
theorem yN(b:af p){M P Q:F p}{d:Nat}(N:Dd M ((X:F p)^(p^d) -X))(o:cJ P)(x:Od d P)(G:cJ Q)(w:Dd P M)(r:Dd Q M)(n:¬Dd P Q):∃i,1<=i/\∀c:Int,¬Dd M (tr p d ((X:F p)^i) -((c:Int):F p)):=by
 apply FV;intro A;have C:=F.chr b;have one:∀i,∃c:Int,Dd M (tr p d ((X:F p)^i) -((c:Int):F p)):=λi=>by
  by_cases E:1<=i
  .exact FV λz=>A ⟨i,E,λc k=>z ⟨c,k⟩⟩
  .refine⟨(d:Int),0,?_⟩;have I:i=0:=by lia
   rw[I,Semiring.pow_zero];have:∀d:Nat,tr p d (1:F p)=(((d:Nat):Int):F p):=λd=>by
    unfold tr
    induction d with
    |zero=>exact Ring.intCast_zero.symm
    |succ d h=>show sR _ d+(1:F p)^(p^d)=_;rw[h,one_pow,MY,Ring.intCast_add,Ring.intCast_one]
   rw[this];grind
 have m:∀(l:List Int)(k:Nat),∃c:Int,Dd M (tr p d ((X:F p)^k*fL p l) -((c:Int):F p)):=λl=>by
  induction l with
  |nil=>intro k;refine⟨0,0,?_⟩;have e:fL p []=0:=(nX []).symm;rw[e,show(X:F p)^k*0=0 by grind,qb C,Ring.intCast_zero];grind
  |cons a l h=>intro k;obtain⟨K,t,R⟩:=one k;obtain⟨J,s,O⟩:=h (k+1);refine⟨a*K+J,((a:Int):F p)*t+s,?_⟩;rw[fJ,show(X:F p)^k*(((a:Int):F p)+X*fL p l)=((a:Int):F p)*(X:F p)^k+X^k*X*fL p l by grind,<-aA,BJ C,G7 C,Ring.intCast_add,Ring.intCast_mul];grind
 obtain⟨u,v,e⟩:=o.apart b n;obtain⟨y,B⟩:=E8 b o x;obtain⟨f,rfl⟩:=y.ex;obtain⟨l,D⟩:=BC (v*Q*f);obtain⟨c,g⟩:=m l 0;rw[<-D,Semiring.pow_zero,show(1:F p)*(v*Q*f)=v*Q*f by grind]at g;have q:Qt.mk (Pr Q) (v*Q*f)=0:=Kf.zero.mpr ⟨v*f,by grind⟩;have L:(p:Int)∣c:=by refine(nZ b G).mp ?_;have:=Kf.zero.mpr (r.trans g);have j:Qt.mk (Pr Q) (tr p d (v*Q*f) -((c:Int):F p))=Qt.mk (Pr Q) (tr p d (v*Q*f)) -((c:Int):Kf Q):=rfl;rw[j,sF,q,qb (Kf.chr b Q)]at this;grind
 rw[bE.mpr L]at g;have:=Kf.zero.mpr (w.trans g);have j:Qt.mk (Pr P) (tr p d (v*Q*f) -0)=Qt.mk (Pr P) (tr p d (v*Q*f)) -0:=rfl;rw[j,sF]at this;have H:Qt.mk (Pr P) (v*Q*f)=Qt.mk (Pr P) f:=mk_eq.mpr ⟨-(u*f),by grind⟩;rw[H]at this;exact B (by grind)
theorem E9(f:af p):∀(n:Nat){M g:F p},dg M<=n->M≠0->(∀Q,Dd (Q*Q) M->dg Q=1)->(∀P,cJ P->Dd P M->Dd P g)->Dd M g:=by
 intro n
 induction n with
 |zero=>intro M g h d;exact absurd (bC.mp (U2.mp h)) d
 |succ n r=>
  intro M g h d sq m;have A:dg M≠0:=λz=>d (bC.mp z);by_cases one:dg M=1
  .obtain⟨y,s⟩:=c6 f one;exact⟨y*g,by
    have:g=y*M*g:=by rw[s];grind
    grind⟩
  .obtain⟨P,i,N,e⟩:=gg f _ M (BM _) (by lia);have j:N≠0:=λz=>d (by rw[e,z];grind);have q:=bD f i.ne j;rw[<-e]at q;have x:=i.two;have o:¬Dd P N:=λ⟨w,c⟩=>by have:=sq P ⟨w,by rw[e,c];grind⟩;lia
   obtain⟨k,l⟩:=r (M:=N) (g:=g) (by lia) j (λQ ⟨w,c⟩=>sq Q ⟨P*w,by rw[e,c];grind⟩) λQ u ⟨w,c⟩=>m Q u ⟨P*w,by rw[e,c];grind⟩;obtain⟨w,c⟩:=m P i ⟨N,e⟩;rcases i.euclid f (a:=N) (b:=k) ⟨w,by rw[<-l,c]⟩with z|⟨v,t⟩
   .exact absurd z o
   .exact⟨v,by rw[l,t,e];grind⟩
theorem BN(i:af p){φ:Int->Prop}(u:∀m,φ m↔φ (m+p))(l:¬(φ 0↔φ 1)){a b:Int}(j:¬(p:Int)∣b -a):∃t:Nat,t<p/\¬(φ (a+t)↔φ (b+t)):=by
 apply FV;intro r;have x:0<p:=by have:=i.1;lia
 have o:∀(k:Nat)(m:Int),φ m↔φ (m+k*p):=λk=>by
  induction k with
  |zero=>intro m;rw[show m+((0:Nat):Int)*p=m by lia]
  |succ k g=>intro m;rw[g m,u];rw[show m+(k:Int)*p+p=m+((k+1:Nat):Int)*p by rw[MY];grind]
 have c:∀(k m:Int),φ m↔φ (m+k*p):=λk m=>by
  rcases XU 0 k with h|h
  .have:=o k.toNat m;rw[WW h]at this;exact this
  .have:=o (-k).toNat (m+k*p);rw[WW (by lia),show m+k*p+ -k*p=m by grind]at this;exact this.symm
 have f:∀m:Int,φ m↔φ (m+(b -a)):=λm=>by have e:=OF (m -a) p;have q:=PQ (m -a) (show(p:Int)≠0 by lia);have w:=NA (m -a) (show(0:Int)<p by lia);have:=FV λz=>r ⟨((m -a)%p).toNat,by lia,z⟩;rw[WW q]at this;generalize(m -a)%(p:Int)=t at*;generalize(m -a)/(p:Int)=k at*;rw[c k (a+t),c k (b+t)]at this;rw[show a+t+k*p=m by grind,show b+t+k*p=m+(b -a) by grind]at this;exact this
 have v:∀k:Nat,φ 0↔φ (k*(b -a)):=λk=>by
  induction k with
  |zero=>rw[show((0:Nat):Int)*(b -a)=0 by lia]
  |succ k g=>rw[g,f];rw[show(k:Int)*(b -a)+(b -a)=((k+1:Nat):Int)*(b -a) by rw[MY];grind]
 obtain⟨y,s⟩:=p9 i j;obtain⟨n,_,e⟩:=(F.chr i).mod y;have d:(p:Int)∣(n:Int)*(b -a) -1:=by refine bE.mp ?_;rw[Ring.intCast_sub,Ring.intCast_mul,Ring.intCast_natCast,<-e,s,Ring.intCast_one];grind
 obtain⟨k,A⟩:=d;refine l ((v n).trans ?_);have:=c k 1;rw[show(1:Int)+k*p=(n:Int)*(b -a) by grind]at this;exact this.symm
local instance {R : Type} [Lean.Grind.Semiring R] : NatCast R := Lean.Grind.Semiring.natCast
local instance {R : Type} [Lean.Grind.Ring R] : IntCast R := Lean.Grind.Ring.intCast
noncomputable def sq{R:Type}[CommRing R](p:Nat)(f:R):R:=if p=2 then f else f^((p -1)/2) -1
variable{p:Nat}
theorem OL(M f:F p):Qt.mk (Pr M) (sq p f)=sq p (Qt.mk (Pr M) f):=by
 unfold sq;split
 .rfl
 .rw[<-cF];rfl
theorem Ln(c:Int):∃e:Int,∀(R:Type)[a:CommRing R],sq p (((c:Int):R))=((e:Int):R):=by
 by_cases h:p=2
 .exact⟨c,λR _=>by unfold sq;rw[Bz h]⟩
 .refine⟨c^((p -1)/2) -1,λR _=>?_⟩;unfold sq;rw[Bi h,Ring.intCast_sub,Ring.intCast_one];congr 1;generalize(p -1)/2=k
  induction k with
  |zero=>rw[XR,Semiring.pow_zero,Ring.intCast_one]
  |succ k b=>rw[XS,Ring.intCast_mul,<-b,aA]
theorem G8(b:af p){P f:F p}(h:cJ P){n:Int}(e:Dd P (f -((n:Int):F p))):Dd P (sq p f)↔sq p ((n:Int):F p)=0:=by obtain⟨c,a⟩:=Ln (p:=p) n;have d:Qt.mk (Pr P) f=((n:Int):Kf P):=mk_eq.mpr e;rw[<-Kf.zero,OL,d,a,a,nZ b h,bE]
theorem Lo(a:af p)(m:Int):sq p ((m:Int):F p)=0↔sq p (((m+p:Int):Int):F p)=0:=by
 have:(((m+p:Int):Int):F p)=((m:Int):F p):=by rw[Ring.intCast_add,Ring.intCast_natCast,(F.chr a).z];grind
 rw[this]
theorem iW(a:af p):(1:F p)≠0:=λz=>by have:=gX a;rw[z,cR]at this;cases this
theorem OM(a:af p):¬(sq p (((0:Int):Int):F p)=0↔sq p (((1:Int):Int):F p)=0):=by
 rw[Ring.intCast_zero,Ring.intCast_one];unfold sq;have c:=a.1;split
 .intro h;exact iW a (h.mp rfl)
 .rename_i n2
  have b:1<=(p -1)/2:=by lia
  intro h;have:=h.mpr (by rw[one_pow];grind);rw[zero_pow (by lia)]at this;exact iW a (by grind)
theorem BO(c:af p){M s:F p}(y:M≠0)(E:∀Q,Dd (Q*Q) M->dg Q=1)(g:∀P,cJ P->Dd P M->∃n:Int,Dd P (s -((n:Int):F p)))(H:2<=dg s)(G:dg s<dg M):
 ∃t:Nat,t<p/\∃P Q,cJ P/\cJ Q/\Dd P M/\Dd Q M/\Dd P (sq p (s+(((t:Nat):Int):F p)))/\¬Dd Q (sq p (s+(((t:Nat):Int):F p))):=by
 obtain⟨P,i,k⟩:=gg c _ M (BM _) (by lia);obtain⟨a,C⟩:=g P i k;have h:∃Q,cJ Q/\Dd Q M/\¬Dd Q (s -((a:Int):F p)):=by
  apply FV;intro x;have D:Dd M (s -((a:Int):F p)):=E9 c _ (BM _) y E λQ d f=>FV λz=>x ⟨Q,d,f,z⟩;have I:dg (s -((a:Int):F p))<=dg s:=by rw[show s -((a:Int):F p)=s+(((-a:Int):Int):F p) by rw[Ring.intCast_neg];grind];exact Lk (BM _) (Hn (qa c _) (by lia))
  by_cases z:s -((a:Int):F p)=0
  .have:s=((a:Int):F p):=by grind
   have:=qa c a;grind
  .have:=D.len c z;lia
 obtain⟨Q,d,f,v⟩:=h;obtain⟨b,u⟩:=g Q d f;have ab:¬(p:Int)∣b -a:=λz=>v (by
  have e:((b:Int):F p)=((a:Int):F p):=by have:=bE (p:=p)|>.mpr z;rw[Ring.intCast_sub]at this;grind
  rw[<-e];exact u)
 obtain⟨t,B,r⟩:=BN c (φ:=λm=>sq p ((m:Int):F p)=0) (Lo c) (OM c) ab;have q:Dd P (sq p (s+(((t:Nat):Int):F p)))↔sq p (((a+t:Int):Int):F p)=0:=G8 c i (by obtain⟨w,A⟩:=C;exact⟨w,by rw[Ring.intCast_add];grind⟩);have o:Dd Q (sq p (s+(((t:Nat):Int):F p)))↔sq p (((b+t:Int):Int):F p)=0:=G8 c d (by obtain⟨w,A⟩:=u;exact⟨w,by rw[Ring.intCast_add];grind⟩);refine⟨t,B,?_⟩;by_cases j:Dd P (sq p (s+(((t:Nat):Int):F p)))
 .exact⟨P,Q,i,d,k,f,j,λl=>r ⟨λ_=>o.mp l,λ_=>q.mp j⟩⟩
 .refine⟨Q,P,d,i,f,k,?_,j⟩;exact FV λl=>r ⟨λz=>absurd (q.mpr z) j,λz=>absurd (o.mpr z) l⟩
theorem BP{α:Type}:∀(A B:List α),A.Pairwise (·≠·)->(∀x∈A,x∈B)->A.length<=B.length
 |[],B,_,_=>KE _
 |x::A,B,h,k=>by
  have h':=Wp.mp h;obtain⟨s,t,e⟩:=List.append_of_mem (k x FC);have:=BP A (s++t) h'.2 λy a=>by
   have:=k y (FK _ a);rw[e]at this;rcases Gc.mp this with z|z
   .exact Os _ z
   .rcases GE.mp z with z|z
    .exact absurd z.symm (h'.1 y a)
    .exact Fk _ z
  rw[e];rw[Fm]at this⊢;rw[Eb,Eb];lia
noncomputable def en(p:Nat):Nat->List (List Int)
 |0=>[[]]
 |n+1=>(Ea p).flatMap λc=>(en p n).map (((c:Nat):Int)::·)
theorem BQ:∀n,(en p n).length=p^n
 |0=>rfl
 |n+1=>by
  show((Ea p).flatMap λc=>(en p n).map (((c:Nat):Int)::·)).length=_;rw[List.length_flatMap];have:(Ea p).map (λc=>((en p n).map (((c:Nat):Int)::·)).length)=(Ea p).map λ_=>p^n:=Pv λc _=>by rw[AN,BQ n]
  rw[this,RA,List.sum_replicate_nat,GT,IU,TZ]
theorem BR:∀(l:List Int),(∀x∈l,0<=x/\x<p)->l∈en p l.length
 |[],_=>Ee.mpr rfl
 |c::l,h=>by have hc:=h c FC;show c::l∈(Ea p).flatMap _;refine List.mem_flatMap.mpr ⟨c.toNat,Kb.mpr (by lia),IH.mpr ⟨l,BR l λx a=>h x (FK _ a),?_⟩⟩;rw[WW hc.1]
theorem RV(a:af p){P:F p}(h:cJ P)(y:Kf P):y∈(en p (dg P -1)).map λl=>(Qt.mk (Pr P) (fL p l):Kf P):=by
 obtain⟨f,rfl⟩:=y.ex;have b:(0:Int)<p:=by have:=a.1;lia
 obtain⟨q,r,e,k⟩:=uE a h.ne _ f (BM _);obtain⟨g,rfl⟩:=r.ex;have j:Qt.mk (Pr P) f=Qt.mk (Pr P) (Qt.mk (Ip p) g):=mk_eq.mpr ⟨q,by grind⟩;refine IH.mpr ⟨(Ea (dg P -1)).map λi=>g.1 i%p,?_,?_⟩
 .have:=BR (p:=p) ((Ea (dg P -1)).map λi=>g.1 i%p) λx c=>by obtain⟨i,_,rfl⟩:=IH.mp c;exact⟨PQ _ (by lia),NA _ b⟩
  rw[AN,GT]at this;exact this
 .rw[j];congr 1;refine Qt.eq.mpr λi=>?_;show(p:Int)∣((Ea (dg P -1)).map λi=>g.1 i%p).getD i 0+ -g.1 i;rw[AC,Da];by_cases d:i<dg P -1
  .rw[Nw d];show(p:Int)∣g.1 i%p+ -g.1 i;exact⟨-(g.1 i/p),by have:=OF (g.1 i) p;grind⟩
  .rw[FR (by rw[GT];lia)];show(p:Int)∣0+ -g.1 i;have:=eX (Qt.mk (Ip p) g) i (by lia);rw[WY];exact XG.mpr this
theorem G9(f:af p){P:F p}(h:cJ P):∃d,Od d P:=by
 have c:∃m,1<=m/\Dd P ((X:F p)^(p^m) -X):=by
  apply FV;intro g;have pw:((Ea (p^(dg P -1)+1)).map λj=>(Qt.mk (Pr P) X:Kf P)^(p^j)).Pairwise (·≠·):=by rw[W3];refine XN (λ{a b}(o:a<b) e=>?_) (X6 (n:=p^(dg P -1)+1));refine g ⟨b -a,by lia,mk_eq.mp ?_⟩;rw[cF];refine sD f h (j:=a) ?_;rw[<-pow_mul,<-XB,show b -a+a=b by lia];exact e.symm
  have:=BP _ _ pw λx _=>RV f h x;rw[AN,AN,GT,BQ]at this;lia
 obtain⟨d,⟨q,l⟩,least⟩:=least (P:=λm=>1<=m/\Dd P ((X:F p)^(p^m) -X)) c;exact⟨d,q,l,λm i r k=>by have:=least m ⟨i,k⟩;lia⟩
end Alg
namespace Alg
open Lean.Grind Num Sub VL
local instance {R : Type} [Lean.Grind.Semiring R] : NatCast R := Lean.Grind.Semiring.natCast
local instance {R : Type} [Lean.Grind.Ring R] : IntCast R := Lean.Grind.Ring.intCast
variable{p:Nat}
theorem n5{l:List Int}{g:Po}(h:∀i,(p:Int)∣l.getD i 0 -g.1 i):fL p l=Qt.mk (Ip p) g:=Qt.eq.mpr h
theorem Lp{l a b:List Int}(h:∀i,(p:Int)∣l.getD i 0 -(a.getD i 0+b.getD i 0)):fL p l=fL p a+fL p b:=n5 (g:=cY a+cY b) h
theorem BS{l a b:List Int}(h:∀i,(p:Int)∣l.getD i 0 -(a.getD i 0 -b.getD i 0)):fL p l=fL p a -fL p b:=n5 (g:=cY a -cY b) λi=>by show(p:Int)∣l.getD i 0 -(a.getD i 0+ -b.getD i 0);rw[<-Int.sub_eq_add_neg];exact h i
theorem BU{l a b:List Int}(h:∀i,(p:Int)∣l.getD i 0 -b8 (co a) (co b) i):fL p l=fL p a*fL p b:=n5 (g:=cY a*cY b) h
theorem Hf{l a:List Int}{c:Int}(h:∀i,(p:Int)∣l.getD i 0 -c*a.getD i 0):fL p l=((c:Int):F p)*fL p a:=n5 (g:=cst c*cY a) λi=>by rw[Po.pZ];exact h i
theorem n6{ns b a:List Int}{Q:List Int}(h:oJ p ns b (λi=>Q.getD i 0) a):fL p ns=fL p b*fL p Q+fL p a:=by have:fL p ns=Qt.mk (Ip p) (cY Q*cY b+cY a):=n5 (g:=cY Q*cY b+cY a) h;rw[this];show fL p Q*fL p b+fL p a=_;grind
theorem fM:fL p [1]=1:=Fs (Qt.mk (Ip p)) (Po.ext λi=>by cases i<;>rfl)
theorem bN:fL p []=0:=(nX []).symm
theorem iX(q:0<p){ns a:List Int}(h:cZ (ns.map (·%(p:Int))) a):fL p a=fL p ns/\Rm p a/\a.length<=ns.length:=by
 have m:a.length<=ns.length:=by obtain⟨k,c,e,_⟩:=h;rw[e,QQ];rw[AN]at c;lia
 have hz:=h.last;have l:=h.mem;obtain⟨k,c,e,f,_⟩:=h;rw[AN]at c;refine⟨wK.mpr λi=>?_,⟨λx j=>?_,hz⟩,m⟩
 .have g:∀i,(ns.map (·%(p:Int))).getD i 0=ns.getD i 0%p:=λi=>by
   rw[AC,AC,Da];cases ns[i]? with
   |none=>show(0:Int)=0%p;rw[Wn]
   |some x=>rfl
  have b:(p:Int)∣ns.getD i 0%p -ns.getD i 0:=⟨-(ns.getD i 0/p),by have:=OF (ns.getD i 0) p;grind⟩;by_cases n:i<k
  .have d:a.getD i 0=(ns.map (·%(p:Int))).getD i 0:=by rw[e,AC,AC,WC n]
   rw[d,g];exact b
  .have d:a.getD i 0=0:=outI (by rw[e,QQ];lia);rw[d];by_cases o:i<ns.length
   .have:=f i (by lia) (by rw[AN];exact o);rw[g]at this;rw[this]at b;exact b
   .rw[outI (by lia)];exact⟨0,by lia⟩
 .obtain⟨y,_,rfl⟩:=IH.mp (l x j);exact⟨PQ _ (by lia),NA _ (by lia)⟩
theorem aM{l:List Int}(h:Rm p l):dg (fL p l)=l.length:=by
 rcases h.z with z|z
 .rw[z,bN,cR];rfl
 .obtain⟨n,a⟩:∃n,l.length=n+1:=⟨l.length -1,by have:l≠[]:=λe=>z (by rw[e];rfl);have:=Hc.mpr this;lia⟩;rw[a];refine wL (g:=cY l) (a▸Li l) λk=>?_;have k:(p:Int)∣l.getD n 0:=k;rw[a,Kj]at z;have b:=h.b _ (getD_mem' (show n<l.length by lia));have:=UV (by lia) k;lia
theorem qc{l m:List Int}(c:Rm p l)(a:Rm p m)(e:fL p l=fL p m):l=m:=by
 refine Dq c.z a.z λk=>?_;by_cases d:0<(p:Int)
 .exact mod_eq (bT d c.b k) (bT d a.b k) (wK.mp e k)
 .have f:∀{l:List Int},Rm p l->l=[]:=λ{l} h=>by
   cases l with
   |nil=>rfl
   |cons x l=>have:=h.b x FC;lia
  rw[f c,f a]
theorem cA{l:List Int}(a:Rm p l):fL p l=0↔l=[]:=⟨λe=>qc a ⟨by simp,.inl rfl⟩ (e.trans bN.symm),λe=>by rw[e,bN]⟩
structure Mn(p:Nat)(l:List Int):Prop where
 r:Rm p l
 n0:0<l.length
 one:l.getD (l.length -1) 0=1
theorem BV{a b:Po}{n m:Nat}(f:∀i,n+1<=i->(p:Int)∣a.1 i)(d:∀i,m+1<=i->(p:Int)∣b.1 i):(p:Int)∣(a*b).1 (n+m) -a.1 n*b.1 m:=by
 show(p:Int)∣b8 a.1 b.1 (n+m) -_;have c:b8 a.1 b.1 (n+m)=a.1 n*b.1 m+sm (λj=>if j=n then 0 else a.1 j*b.1 (n+m -j)) (n+m+1):=by
  unfold b8;have h:∀j,a.1 j*b.1 (n+m -j)=(if j=n then a.1 j*b.1 (n+m -j)else 0)+(if j=n then 0 else a.1 j*b.1 (n+m -j)):=λj=>by
   by_cases z:j=n
   .rw[Bz z,Bz z,Ts]
   .rw[Bi z,Bi z,WY]
  rw[cH (n+m+1) λj _=>h j,kG,oG n (λj=>a.1 j*b.1 (n+m -j)),Bz (by lia),show n+m -n=m by lia]
 rw[c,show a.1 n*b.1 m+sm (λj=>if j=n then 0 else a.1 j*b.1 (n+m -j)) (n+m+1) -a.1 n*b.1 m=sm (λj=>if j=n then 0 else a.1 j*b.1 (n+m -j)) (n+m+1) by lia];refine kJ _ λj _=>?_;by_cases e:j=n
 .rw[Bz e];exact⟨0,by lia⟩
 .rw[Bi e];by_cases g:n+1<=j
  .exact W0 (f j g) ⟨_,rfl⟩
  .exact W0 (d (n+m -j) (by lia)) ⟨_,SL _ _⟩
theorem Mn.top{l:List Int}(h:Mn p l):∀i,l.length -1+1<=i->(p:Int)∣(cY l).1 i:=λi a=>by show(p:Int)∣l.getD i 0;rw[outI (by have:=h.n0;lia)];exact⟨0,by lia⟩
theorem Mn.Vk(j:af p){a b q:List Int}(c:Mn p a)(f:Mn p b)(d:Rm p q)(e:fL p a=fL p b*fL p q):Mn p q:=by
 have k:fL p a≠0:=λz=>by have:=c.n0;rw[(cA c.r).mp z]at this;cases this
 have h:q≠[]:=λz=>k (by rw[e,z,bN];grind);have u:fL p b≠0:=λz=>k (by rw[e,z];grind);have m:=Hc.mpr h;have n:=bD j u (λz=>h ((cA d).mp z));rw[<-e,aM c.r,aM f.r,aM d]at n;have x:=f.n0;have y:=c.n0;refine⟨d,m,?_⟩;have l:∀i,q.length -1+1<=i->(p:Int)∣(cY q).1 i:=λi w=>by show(p:Int)∣q.getD i 0;rw[outI (by lia)];exact⟨0,by lia⟩
 have t:=BV f.top l;have o:=Qt.eq.mp (show Qt.mk (Ip p) (cY a)=Qt.mk (Ip p) (cY b*cY q)from e) (b.length -1+(q.length -1));have g:(p:Int)∣a.getD (b.length -1+(q.length -1)) 0+ -(cY b*cY q).1 (b.length -1+(q.length -1)):=o;have t:(p:Int)∣(cY b*cY q).1 (b.length -1+(q.length -1)) -b.getD (b.length -1) 0*q.getD (q.length -1) 0:=t;rw[show b.length -1+(q.length -1)=a.length -1 by lia]at g t;rw[c.one]at g;rw[f.one,XF]at t;have:=Qb g t;have s:=d.b _ (getD_mem' (show q.length -1<q.length by lia));have v:=j.1;exact(mod_eq ⟨by decide,by lia⟩ s (by rw[show(1:Int) -q.getD (q.length -1) 0=1+ -(cY b*cY q).1 (a.length -1)+((cY b*cY q).1 (a.length -1) -q.getD (q.length -1) 0) by lia];exact this)).symm
end Alg
namespace VL
open PySem PySem.Spec
open PyProof.Rows hiding St
open L2 Num Alg
theorem uH(n:Nat)(f:Nat->Int)(i:Nat):((Ea n).map f).getD i 0=if i<n then f i else 0:=by
 rw[AC,Da];by_cases a:i<n
 .rw[Nw a,Bz a];rfl
 .rw[FR (by rw[GT];lia),Bi a];rfl
noncomputable def qd:List CS:=[.ret (.call 0 [(.call 1 [(.var 0),(.var 1)]),(.var 2)])]
noncomputable def gh:aT:=λd Q _=>∃(a b:List Int)(p:Nat),d=[wI a,wI b,.int p]/\(0<p/\a.length<=100/\b.length<=100)/\∀c,Rm p c->fL p c=fL p a+fL p b->c.length<=max a.length b.length->Q (wI c)
theorem yO{G:Nat->W}{m:Md}(c:List W)(Q:W->Prop)(R:Addr->Prop)(h:gh c Q R):wSs (bw [cX,dR]) G qd (aX m Q R) (aq 3 c):=by
 obtain⟨a,b,p,rfl,⟨g,s,q⟩,n⟩:=h;show wSs _ _ qd _ [some (wI a),some (wI b),some (.int p)];unfold qd;fin2;refine⟨a,b,rfl,by lia,by lia,λf tr=>?_⟩;have k:=kH tr;rw[AN,GT]at k;refine⟨f,p,rfl,by lia,by lia,λj o=>?_⟩;obtain⟨e,r,l⟩:=iX g o;refine n j r (e.trans (Lp λi=>?_)) (by lia);rw[oH tr,uH];by_cases d:i<max a.length b.length
 .rw[Bz d];exact⟨0,by lia⟩
 .rw[Bi d,outI (by lia),outI (by lia)];exact⟨0,by lia⟩
noncomputable def cN:aT:=λd Q _=>∃(a b:List Int)(p:Nat),d=[wI a,wI b,.int p]/\(0<p/\p<2^40/\a.length<=100/\b.length<=100/\Rm p b)/\∀c,Rm p c->fL p c=fL p a -fL p b->c.length<=max a.length b.length->Q (wI c)
theorem uI{G:Nat->W}{m:Md}(c:List W)(Q:W->Prop)(R:Addr->Prop)(h:cN c Q R):wSs (bw [cX,fF]) G qd (aX m Q R) (aq 3 c):=by
 obtain⟨a,b,p,rfl,⟨j,v,u,t,g⟩,q⟩:=h;show wSs _ _ qd _ [some (wI a),some (wI b),some (.int p)];unfold qd;fin2;refine⟨a,b,40,rfl,by lia,by lia,by decide,λx o=>by have:=g.b x o;lia,λf tr=>?_⟩;have n:=kH tr;rw[AN,GT]at n;refine⟨f,p,rfl,by lia,by lia,λk s=>?_⟩;obtain⟨e,r,l⟩:=iX j s;refine q k r (e.trans (BS λi=>?_)) (by lia);rw[oH tr,uH];by_cases d:i<max a.length b.length
 .rw[Bz d];exact⟨0,by lia⟩
 .rw[Bi d,outI (by lia),outI (by lia)];exact⟨0,by lia⟩
noncomputable def aV:aT:=λd Q _=>∃(a b:List Int)(p:Nat),d=[wI a,wI b,.int p]/\(0<p/\p<2^40/\a.length<=100/\b.length<=100/\Rm p a/\Rm p b)/\∀c,Rm p c->fL p c=fL p a*fL p b->c.length<=a.length+b.length -1->Q (wI c)
theorem uJ{G:Nat->W}{m:Md}(k:List W)(Q:W->Prop)(R:Addr->Prop)(h:aV k Q R):wSs (bw [cX,fG]) G qd (aX m Q R) (aq 3 k):=by
 obtain⟨a,b,p,rfl,⟨s,J,H,E,q,o⟩,w⟩:=h;show wSs _ _ qd _ [some (wI a),some (wI b),some (.int p)];unfold qd;fin2;refine⟨a,b,rfl,by lia,by lia,λx v y u=>cz (p:=p) (by lia) (q.b x v) (o.b y u),?_⟩;have j:∀d:List Int,d.length<=a.length+b.length -1->(∀i,d.getD i 0=b8 (co a) (co b) i)->cX [wI d,.int p] Q R:=λd I A=>by refine⟨d,p,rfl,by lia,by lia,λt D=>?_⟩;obtain⟨e,r,l⟩:=iX s D;refine w t r (e.trans (BU λi=>?_)) (by lia);rw[A];exact⟨0,by lia⟩
 by_cases z:a=[]\/b=[]
 .rw[Bz z];refine j [] (KE _) λi=>?_;rcases z with rfl|rfl
  .show(0:Int)=b8 (co []) (co b) i;rw[gp (f:=co []) (f':=λi=>0*co b i) (λi=>by show(0:Int)=0*_;lia) (λ_=>rfl),iD];lia
  .show(0:Int)=b8 (co a) (co []) i;rw[gp (g:=co []) (g':=λi=>0*co a i) (λ_=>rfl) (λi=>by show(0:Int)=0*_;lia),Dr];lia
 .rw[Bi z];have C:a≠[]:=λe=>z (.inl e);have B:b≠[]:=λe=>z (.inr e);have:=Hc.mpr C;have:=Hc.mpr B;refine j _ (by unfold tabI;rw[AN,GT];exact BM _) λi=>?_;unfold tabI;rw[uH];by_cases c:i<a.length+b.length -1
  .rw[Bz c,GA]
  .rw[Bi c,oM (n:=a.length) (m:=b.length) (λi c=>outI c) (λi c=>outI c) (by lia)]
noncomputable def jK:List CS:=[.iff (.cmp .Eq (.bin .Mod (.var 1) (.int 2)) (.int 1)) [.set 4 (.ix (.call 0 [(.call 1 [(.var 4),(.var 0),(.var 3)]),(.var 2),(.var 3)]) (.int 1))] [],.set 1 (.bin .FloorDiv (.var 1) (.int 2)),.iff (.cmp .Gt (.var 1) (.int 0)) [.set 0 (.ix (.call 0 [(.call 1 [(.var 0),(.var 0),(.var 3)]),(.var 2),(.var 3)]) (.int 1))] []]
noncomputable def gY:List CS:=[.set 4 (.lst [(.int 1)]),.nM (.cmp .Gt (.var 1) (.int 0)) jK,.ret (.var 4)]
structure Pw(p:Nat)(row other:List Int)(e:Nat):Prop where
 pr:af p
 bW:p<2^40
 r:Rm p row
 o:Rm p other
 l2:2<=other.length
 j6:other.length<=50
 lr:row.length<=50
noncomputable def dh:aT:=λc Q _=>∃(b a:List Int)(e p:Nat),c=[wI b,.int e,wI a,.int p]/\Pw p b a e/\∀r,Rm p r->r.length<a.length->Dd (fL p a) (fL p r -fL p b^e)->Q (wI r)
theorem d9{d:Nat->aT}{G:Nat->W}{c:CE}{b:List CS}{D:Dn}{a:Ev}{α:Type}(S:α->Ev)(J:α->Prop)(f:α->Nat)(e:α)(i:a=S e)(h:J e)(g:∀s,J s->wE d G (λ_=>False) c (S s) λx=>truth x (P5 S J f (wSs d G b) D s)):wS d G (.nM c b) D a:=by show DN (λa Q=>wE d G (λ_=>False) c a λx=>truth x Q) (wSs d G b) D a;exact jt S J f e i h g
theorem Hg{a b o:List Int}{p:Nat}{K:W->Prop}{R:Addr->Prop}(c:af p)(d:p<2^40)(k:Rm p a)(j:Rm p b)(g:Rm p o)(v:2<=o.length)(s:o.length<=50)(u:a.length<=50)(t:b.length<=50)
 (h:∀r,Rm p r->r.length<o.length->Dd (fL p o) (fL p r -fL p a*fL p b)->K (wI r)):aV [wI a,wI b,.int p] (λx=>aR [x,wI o,.int p] (λy=>GG y (.int 1) K) R) R:=by
 have n:0<p:=by have:=c.1;lia
 refine⟨a,b,p,rfl,⟨n,d,by lia,by lia,k,j⟩,λq i e l=>?_⟩;refine⟨q,o,p,rfl,⟨c,by exact_mod_cast d,by lia,by lia,by lia,i,g⟩,λm f dv=>?_⟩;refine⟨_,rfl,h f dv.r dv.lr ⟨-fL p m,?_⟩⟩;have:=n6 dv.eq;rw[e]at this;grind
theorem uK{G:Nat->W}{m:Md}(J:List W)(Q:W->Prop)(R:Addr->Prop)(h:dh J Q R):wSs (bw [aR,aV]) G gY (aX m Q R) (aq 5 J):=by
 obtain⟨c,o,E,p,rfl,⟨C,S,U,L,O,P,lr⟩,hq⟩:=h;show wSs _ _ gY _ [some (wI c),some (.int E),some (wI o),some (.int p),none];unfold gY;have p2:=C.1;have Y:Rm p [1]:=⟨λx hx=>by rw[Ee.mp hx];exact⟨by decide,by lia⟩,.inr (by show(1:Int)≠0;decide)⟩;refine ai (λa=>a=[some (wI c),some (.int E),some (wI o),some (.int p),some (wI [1])]) (λN D=>?_) ?_
 .fin2;exact⟨ak (by simp),D _ rfl⟩
 rintro _ rfl;refine ai (λa=>∃(b r:List Int)(o1:Option W),(Rm p r/\r.length<o.length/\Dd (fL p o) (fL p r -fL p c^E))/\a=[some (wI b),o1,some (wI o),some (.int p),some (wI r)]) (λN D=>?_) ?_
 .refine d9 (α:=List Int×Nat×List Int) (λs=>[some (wI s.1),some (.int s.2.1),some (wI o),some (.int p),some (wI s.2.2)]) (λs=>Rm p s.1/\s.1.length<=50/\Rm p s.2.2/\s.2.2.length<o.length/\Dd (fL p o) (fL p s.2.2*fL p s.1^s.2.1 -fL p c^E)) (λs=>s.2.1) (c,E,[1]) rfl ⟨U,lr,Y,by show 1<_;lia,0,by rw[fM];grind⟩ ?_;rintro⟨b,e,r⟩ ⟨n,k,v,I,q,i⟩;dsimp only at n k v I i⊢;fin2;refine bI (λw=>?_) (λw=>?_)
  .have e0:=Bn w;unfold jK;refine ai (λa=>∃d,(Rm p d/\d.length<o.length/\Dd (fL p o) (fL p d -fL p r*fL p b^(e%2)))/\a=[some (wI b),some (.int e),some (wI o),some (.int p),some (wI d)]) (λN1 A=>?_) ?_
   .fin2;refine⟨by decide,?_⟩;by_cases f:(e:Int).fmod 2=1
    .rw[Bz (DL f)];have H:e%2=1:=by rw[Num.fmod_eq]at f;lia
     refine Hg C S v n L O P (by lia) k λd u y t=>A _ ⟨d,⟨u,y,?_⟩,rfl⟩;rw[H,show fL p b^1=fL p b by rw[aA,D2];grind];exact t
    .rw[Bi (by rw[FS];exact f)];have H:e%2=0:=by rw[Num.fmod_eq]at f;lia
     refine A _ ⟨r,⟨v,I,0,?_⟩,rfl⟩;rw[H,D2];grind
   rintro _ ⟨d,⟨l,T,M,B⟩,rfl⟩;refine ai (λa=>a=[some (wI b),some (.int ((e/2:Nat):Int)),some (wI o),some (.int p),some (wI d)]) (λN1 A=>?_) ?_
   .fin2;refine⟨⟨by decide,by decide⟩,?_⟩;rw[show(e:Int).fdiv 2=((e/2:Nat):Int) by rw[Oy _ (by decide)];lia];exact A _ rfl
   rintro _ rfl;have K:fL p b^e=fL p b^(e%2)*(fL p b*fL p b)^(e/2):=by
    have e3:e=e%2+2*(e/2):=by lia
    have e4:fL p b*fL p b=fL p b^2:=by rw[aA,aA,D2];grind
    rw[e4,<-pow_mul]
    conv=>lhs;rw[e3]
    exact W4 _ _ _
   fin2;by_cases g:(0:Int)<((e/2:Nat):Int)
   .rw[Bz (DL g)];refine Hg C S n n L O P k k λj u y ⟨Z,t⟩=>⟨(j,e/2,d),rfl,⟨u,by show j.length<=50;lia,l,T,?_⟩,by show e/2<e;lia⟩;refine mk_eq.mp ?_;have a1:Qt.mk (Pr (fL p o)) (fL p j)=Qt.mk (Pr (fL p o)) (fL p b*fL p b):=mk_eq.mpr ⟨Z,t⟩;have a2:Qt.mk (Pr (fL p o)) (fL p d)=Qt.mk (Pr (fL p o)) (fL p r*fL p b^(e%2)):=mk_eq.mpr ⟨M,B⟩;have a3:Qt.mk (Pr (fL p o)) (fL p r*fL p b^e)=Qt.mk (Pr (fL p o)) (fL p c^E):=mk_eq.mpr ⟨q,i⟩;have m1:Qt.mk (Pr (fL p o)) (fL p d*fL p j^(e/2))=Qt.mk (Pr (fL p o)) (fL p d)*Qt.mk (Pr (fL p o)) (fL p j)^(e/2):=by rw[<-cF];rfl
    have m2:Qt.mk (Pr (fL p o)) (fL p r*fL p b^e)=Qt.mk (Pr (fL p o)) (fL p r*fL p b^(e%2))*Qt.mk (Pr (fL p o)) (fL p b*fL p b)^(e/2):=by rw[<-cF,K];exact Fs (Qt.mk (Pr (fL p o))) (show fL p r*(fL p b^(e%2)*(fL p b*fL p b)^(e/2))=fL p r*fL p b^(e%2)*(fL p b*fL p b)^(e/2) by grind)
    show Qt.mk (Pr (fL p o)) (fL p d*fL p j^(e/2))=_;rw[m1,a1,a2,<-m2,a3]
   .rw[Bi (by rw[FS];exact g)];refine⟨(b,e/2,d),rfl,⟨n,k,l,T,?_⟩,by show e/2<e;lia⟩;have e5:e/2=0:=by lia
    refine⟨M+q,?_⟩;show fL p d*fL p b^(e/2) -fL p c^E=_;rw[e5,D2]at K⊢;grind
  .have e0:¬(0:Int)<(e:Int):=λz=>by rw[DL z]at w;cases w
   have e1:e=0:=by lia
   refine D _ ⟨b,r,_,⟨v,I,q,?_⟩,rfl⟩;rw[e1,D2]at i;grind
 rintro _ ⟨b,r,o1,⟨u,y,t⟩,rfl⟩;fin2;exact hq r u y t
structure Gd(p:Nat)(A B d:List Int):Prop where
 m:Mn p d
 a:Dd (fL p d) (fL p A)
 b:Dd (fL p d) (fL p B)
 i:∃s t,fL p d=s*fL p A+t*fL p B
noncomputable def Hh:List CS:=[.CD [7,8] (.call 0 [(.var 0),(.var 1),(.var 2)]),.par [0,1] [(.var 1),(.var 8)],.par [3,4] [(.var 4),(.call 1 [(.var 3),(.call 2 [(.var 7),(.var 4),(.var 2)]),(.var 2)])],.par [5,6] [(.var 6),(.call 1 [(.var 5),(.call 2 [(.var 7),(.var 6),(.var 2)]),(.var 2)])]]
noncomputable def Lq:List CS:=[.par [3,4] [(.lst [(.int 1)]),(.lst [])],.par [5,6] [(.lst []),(.lst [(.int 1)])],.nM (.cmp .NotEq (.var 1) (.lst [])) Hh,.set 9 (.call 3 [(.ix (.var 0) (.neg (.int 1))),(.var 2)]),.ret (.tup [(.call 4 [(.call 5 [(.var 0),(.var 9)]),(.var 2)]),(.call 4 [(.call 5 [(.var 3),(.var 9)]),(.var 2)]),(.call 4 [(.call 5 [(.var 5),(.var 9)]),(.var 2)])])]
noncomputable def bV:aT:=λa Q _=>∃(A B:List Int)(p:Nat),a=[wI A,wI B,.int p]/\(af p/\p<2^40/\Rm p A/\Rm p B/\A.length<=50/\B.length<=50/\¬(A=[]/\B=[]))/\∀d u v,Gd p A B d->Q (.tup [wI d,wI u,wI v])
structure Gs(p:Nat)(A B x y:List Int):Prop where
 rx:Rm p x
 ry:Rm p y
 lx:x.length<=50
 ly:y.length<=50
 dv:∀D,Dd D (fL p x)->Dd D (fL p y)->Dd D (fL p A)/\Dd D (fL p B)
 ix:∃s t,fL p x=s*fL p A+t*fL p B
 iy:∃s t,fL p y=s*fL p A+t*fL p B
 no:¬(x=[]/\y=[])
structure Gu(p:Nat)(x y u n:List Int):Prop where
 ru:Rm p u
 rn:Rm p n
 l1:u.length+y.length<=60
 l2:n.length+x.length<=60
theorem wX{x y u n q r:List Int}{p:Nat}{K:W->Prop}{R:Addr->Prop}(j:af p)(g:p<2^40)(h:Gu p x y u n)(dv:G0 p x y q r)(i:Rm p x)(s:x.length<=50)(o:0<y.length)(k:∀b,Gu p y r n b->K (wI b)):
 aV [wI q,wI n,.int p] (λz=>cN [wI u,z,.int p] K R) R:=by
 have f:0<p:=by have:=j.1;lia
 have lq:=dv.lq;have lr:=dv.lr;have l1:=h.l1;have l2:=h.l2;refine⟨q,n,p,rfl,⟨f,g,by lia,by lia,dv.q,h.rn⟩,λc d e l=>?_⟩;have t:c.length+y.length<=60:=by
  by_cases a:q=[]
  .have:c=[]:=(cA d).mp (by rw[e,a,bN];grind);rw[this];show 0+_<=60;lia
  .have:=Hc.mpr a;lia
 have A:r.length<=x.length:=by
  by_cases a:q=[]
  .have:=qc i dv.r (by rw[n6 dv.eq,a,bN];grind);rw[this];exact BM _
  .have:=Hc.mpr a;lia
 refine⟨u,c,p,rfl,⟨f,g,by lia,by lia,d⟩,λb m w v=>k b ⟨h.rn,m,by lia,by lia⟩⟩
theorem Fb{A B x y q r:List Int}{p:Nat}(h:Gs p A B x y)(dv:G0 p x y q r)(d:y≠[]):Gs p A B y r:=by
 have e:=n6 dv.eq;have lr:=dv.lr;have ly:=h.ly;obtain⟨s,t,k⟩:=h.ix;obtain⟨g,f,j⟩:=h.iy;refine⟨h.ry,dv.r,ly,by lia,λD ⟨a,c⟩ ⟨b,i⟩=>h.dv D ⟨a*fL p q+b,by rw[e,c,i];grind⟩ ⟨a,c⟩,h.iy,⟨s -g*fL p q,t -f*fL p q,?_⟩,λz=>d z.1⟩;have:fL p r=fL p x -fL p y*fL p q:=by rw[e];grind
 rw[this,k,j];grind
theorem uL{x:List Int}{y:Int}{p:Nat}{K:W->Prop}{R:Addr->Prop}(c:0<p)(k:p<2^40)(a:Rm p x)(l:x.length<=60)(j:0<=y/\y<p)(h:∀d,Rm p d->fL p d=((y:Int):F p)*fL p x->K (wI d)):iS [wI x,.int y] (λz=>cX [z,.int p] K R) R:=by refine⟨x,y,rfl,by lia,λz hz=>cz (p:=p) (by exact_mod_cast k) j (a.b z hz),?_⟩;refine⟨_,p,rfl,by lia,by rw[AN];lia,λg tr=>?_⟩;obtain⟨e,r,_⟩:=iX c tr;refine h g r (e.trans (Hf λi=>?_));rw[Sub.map_getD (f:=λz=>y*z) (by lia)];exact⟨0,by lia⟩
theorem Hj{x y:List Int}{Q:W->Prop}(h:∀k:Bool,(k=true↔x=y)->Q (.bl (!k))):eO .NotEq (wI x) (wI y) Q:=by
 have c:∀z:List Int,qE 9 (.lst (z.map W.int))=true:=λz=>He.mpr λw d=>by obtain⟨i,_,rfl⟩:=IH.mp d;exact j4 i 8
 exact⟨.inl ⟨c x,c y⟩,λk f=>h k (f.trans ⟨λe=>(UP (λa b e=>W.GF e)).mp (W.Au e),λe=>by rw[e]⟩)⟩
theorem mW{G:Nat->W}{m:Md}(ws:List W)(Q:W->Prop)(R:Addr->Prop)(h:bV ws Q R):wSs (bw [aR,cN,aV,iT,cX,iS]) G Lq (aX m Q R) (aq 10 ws):=by
 obtain⟨A,B,p,rfl,⟨j,w,rA,rB,lA,lB,nz⟩,hq⟩:=h;show wSs _ _ Lq _ [some (wI A),some (wI B),some (.int p),none,none,none,none,none,none,none];unfold Lq;have p2:=j.1;have U:0<p:=by lia
 have r1:Rm p [1]:=⟨λx hx=>by rw[Ee.mp hx];exact⟨by decide,by lia⟩,.inr (by show(1:Int)≠0;decide)⟩;have r0:Rm p []:=⟨λx hx=>(by cases hx),.inl rfl⟩;refine ai (λc=>c=[some (wI A),some (wI B),some (.int p),some (wI [1]),some (wI []),none,none,none,none,none]) (λN l=>?_) ?_
 .fin2;exact⟨ak (by simp),ak (by simp),rfl,l _ rfl⟩
 rintro _ rfl;refine ai (λc=>c=[some (wI A),some (wI B),some (.int p),some (wI [1]),some (wI []),some (wI []),some (wI [1]),none,none,none]) (λN l=>?_) ?_
 .fin2;exact⟨ak (by simp),ak (by simp),rfl,l _ rfl⟩
 rintro _ rfl;refine ai (λc=>∃(x u v:List Int)(Z Y J I:Option W),(Gs p A B x []/\(Rm p u/\u.length<=60)/\Rm p v/\v.length<=60)/\c=[some (wI x),some (wI []),some (.int p),some (wI u),Z,some (wI v),Y,J,I,none]) (λN l=>?_) ?_
 .refine d9 (α:=(List Int×List Int)×(List Int×List Int×List Int×List Int)×Option W×Option W) (λs=>[some (wI s.1.1),some (wI s.1.2),some (.int p),some (wI s.2.1.1),some (wI s.2.1.2.1),some (wI s.2.1.2.2.1),some (wI s.2.1.2.2.2),s.2.2.1,s.2.2.2,none]) (λs=>Gs p A B s.1.1 s.1.2/\Gu p s.1.1 s.1.2 s.2.1.1 s.2.1.2.1/\Gu p s.1.1 s.1.2 s.2.1.2.2.1 s.2.1.2.2.2) (λs=>s.1.2.length) ((A,B),([1],[],[],[1]),none,none) rfl ⟨⟨rA,rB,lA,lB,λD a b=>⟨a,b⟩,⟨1,0,by grind⟩,⟨0,1,by grind⟩,nz⟩,⟨r1,r0,by show 1+_<=60;lia,by show 0+_<=60;lia⟩,⟨r0,r1,by show 0+_<=60;lia,by show 1+_<=60;lia⟩⟩ ?_;rintro⟨⟨x,y⟩,⟨u,n,v,k⟩,J,I⟩ ⟨e,M,L⟩;dsimp only at e M L⊢;fin2;refine⟨ak (by simp),Hj (y:=[]) λkb hk=>?_⟩;fin2;refine bI (λi=>?_) (λi=>?_)
  .have f:y≠[]:=λz=>by rw[fy hk z]at i;cases i
   have P:=Hc.mpr f;have lx:=e.lx;have ly:=e.ly;unfold Hh;refine ai (λc=>∃q r,G0 p x y q r/\c=[some (wI x),some (wI y),some (.int p),some (wI u),some (wI n),some (wI v),some (wI k),some (wI q),some (wI r),none]) (λN1 H=>?_) ?_
   .fin2;exact⟨x,y,p,rfl,⟨j,by exact_mod_cast w,P,by lia,by lia,e.rx,e.ry⟩,λq r dv=>⟨rfl,H _ ⟨q,r,dv,rfl⟩⟩⟩
   rintro _ ⟨q,r,dv,rfl⟩;have lr:=dv.lr;refine ai (λc=>c=[some (wI y),some (wI r),some (.int p),some (wI u),some (wI n),some (wI v),some (wI k),some (wI q),some (wI r),none]) (λN1 H=>?_) ?_
   .fin2;exact⟨rfl,H _ rfl⟩
   rintro _ rfl;refine ai (λc=>∃C,Gu p y r n C/\c=[some (wI y),some (wI r),some (.int p),some (wI n),some (wI C),some (wI v),some (wI k),some (wI q),some (wI r),none]) (λN1 H=>?_) ?_
   .fin2;exact wX j w M dv e.rx lx P λC g=>⟨rfl,H _ ⟨C,g,rfl⟩⟩
   rintro _ ⟨C,Vm,rfl⟩;fin2;exact wX j w L dv e.rx lx P λk' g=>⟨rfl,((y,r),(n,C,k,k'),_,_),rfl,⟨Fb e dv f,Vm,g⟩,lr⟩
  .have f:y=[]:=by
    cases kb with
    |true=>exact hk.mp rfl
    |false=>cases i
   subst f;have l1:=M.l1;have l2:=L.l1;exact l _ ⟨x,u,v,_,_,_,_,⟨e,⟨M.ru,by lia⟩,L.ru,by lia⟩,rfl⟩
 rintro _ ⟨x,u,v,Z,Y,J,I,⟨e,⟨ru,lu⟩,rv,lv⟩,rfl⟩;have S:x≠[]:=λz=>e.no ⟨z,rfl⟩;have xl:=Hc.mpr S;have lx:=e.lx;have xz:x.getD (x.length -1) 0≠0:=e.rx.z.resolve_left S;have xb:=e.rx.b _ (Sub.getD_mem' (show x.length -1<x.length by lia));refine ai (λc=>∃y:Int,(0<=y/\y<p/\(p:Int)∣y*x.getD (x.length -1) 0 -1)/\c=[some (wI x),some (wI []),some (.int p),some (wI u),Z,some (wI v),Y,J,I,some (.int y)]) (λN l=>?_) ?_
 .have eL:=nV (ns:=x) xl;unfold wI at l⊢;fin2;exact⟨_,eL,_,p,rfl,⟨j,by exact_mod_cast w,by lia,xb.2⟩,λy f E K=>l _ ⟨y,⟨f,E,K⟩,rfl⟩⟩
 rintro _ ⟨y,⟨f,E,K⟩,rfl⟩;fin2;refine uL U w e.rx (by lia) ⟨f,E⟩ λd T O=>?_;refine uL U w ru lu ⟨f,E⟩ λu' _ _=>?_;refine uL U w rv lv ⟨f,E⟩ λv' _ _=>⟨ak (by simp),hq d u' v' ?_⟩;have xf:fL p x≠0:=λz=>S ((cA e.rx).mp z);have yu:((y:Int):F p)*((x.getD (x.length -1) 0:Int):F p)=1:=by have:=(bE (p:=p)).mpr K;rw[WX,NF,SC]at this;grind
 have yf:((y:Int):F p)≠0:=λz=>iW j (by rw[<-yu,z];grind);have dl:d.length=x.length:=by have l1:=bD j yf xf;rw[<-O,aM T,aM e.rx]at l1;have:=qa j y;have:dg ((y:Int):F p)≠0:=λz=>yf (bC.mp z);lia
 obtain⟨s,t,e1⟩:=e.ix;have dx:Dd (fL p d) (fL p x):=⟨((x.getD (x.length -1) 0:Int):F p),by rw[O];grind⟩;obtain⟨da,db⟩:=e.dv (fL p d) dx ⟨0,by rw[bN];grind⟩;refine⟨⟨T,by lia,?_⟩,da,db,⟨((y:Int):F p)*s,((y:Int):F p)*t,by rw[O,e1];grind⟩⟩;have o:=Qt.eq.mp (show Qt.mk (Ip p) (cY d)=Qt.mk (Ip p) (Alg.cst y*cY x)from O) (d.length -1);have o:(p:Int)∣d.getD (d.length -1) 0+ -(Alg.cst y*cY x).1 (d.length -1):=o;rw[Po.pZ]at o;have o:(p:Int)∣d.getD (d.length -1) 0+ -(y*x.getD (d.length -1) 0):=o;rw[dl]at o⊢;have bd:=T.b _ (Sub.getD_mem' (show x.length -1<d.length by lia));refine mod_eq bd ⟨by decide,by lia⟩ ?_;have:=Qb o K;rw[show d.getD (x.length -1) 0+ -(y*x.getD (x.length -1) 0)+(y*x.getD (x.length -1) 0 -1)=d.getD (x.length -1) 0 -1 by lia]at this;exact this
end VL
namespace Alg
open Lean.Grind Num Sub VL
local instance {R : Type} [Lean.Grind.Semiring R] : NatCast R := Lean.Grind.Semiring.natCast
local instance {R : Type} [Lean.Grind.Ring R] : IntCast R := Lean.Grind.Ring.intCast
variable{p:Nat}
theorem Hl(f:F p):∃l:List Int,l.length=dg f/\f=fL p l:=by
 obtain⟨g,rfl⟩:=f.ex;refine⟨(Ea (dg (Qt.mk (Ip p) g))).map g.1,by rw[AN,GT],Qt.eq.mpr λi=>?_⟩;show(p:Int)∣g.1 i+ -(((Ea (dg (Qt.mk (Ip p) g))).map g.1).getD i 0);rw[AC,Da];by_cases a:i<dg (Qt.mk (Ip p) g)
 .rw[Nw a];show(p:Int)∣g.1 i+ -g.1 i;exact⟨0,by lia⟩
 .rw[FR (by rw[GT];lia)];show(p:Int)∣g.1 i+ -0;have:=eX (Qt.mk (Ip p) g) i (by lia);rw[show g.1 i+ -0=g.1 i by lia];exact this
theorem uM(f:af p){M P Q:F p}{d:Nat}(x:M≠0)(E:Dd M ((X:F p)^(p^d) -X))(D:cJ P)(u:Od d P)(B:cJ Q)(t:Dd P M)(m:Dd Q M)(n:¬Dd P Q):∃i,1<=i/\i+1<dg M/\∀c:Int,¬Dd M (tr p d ((X:F p)^i) -((c:Int):F p)):=by
 apply FV;intro v;have C:=F.chr f;obtain⟨i,K,A⟩:=yN f E D u B t m n;have one:∀k,k+1<dg M->∃c:Int,Dd M (tr p d ((X:F p)^k) -((c:Int):F p)):=λk g=>by
  by_cases y:1<=k
  .exact FV λz=>v ⟨k,y,g,λc w=>z ⟨c,w⟩⟩
  .refine⟨(d:Int),0,?_⟩;have H:k=0:=by lia
   rw[H,Semiring.pow_zero];have:∀d:Nat,tr p d (1:F p)=(((d:Nat):Int):F p):=λd=>by
    unfold tr
    induction d with
    |zero=>exact Ring.intCast_zero.symm
    |succ d b=>show sR _ d+(1:F p)^(p^d)=_;rw[b,one_pow,MY,Ring.intCast_add,Ring.intCast_one]
   rw[this];grind
 have h:∀(l:List Int)(k:Nat),k+l.length+1<=dg M->∃c:Int,Dd M (tr p d ((X:F p)^k*fL p l) -((c:Int):F p)):=λl=>by
  induction l with
  |nil=>intro k _;refine⟨0,0,?_⟩;rw[bN,show(X:F p)^k*0=0 by grind,qb C,Ring.intCast_zero];grind
  |cons a l b=>intro k g;rw[Eb]at g;obtain⟨J,s,R⟩:=one k (by lia);obtain⟨I,o,O⟩:=b (k+1) (by lia);refine⟨a*J+I,((a:Int):F p)*s+o,?_⟩;rw[fJ,show(X:F p)^k*(((a:Int):F p)+X*fL p l)=((a:Int):F p)*(X:F p)^k+X^k*X*fL p l by grind,<-aA,BJ C,G7 C,Ring.intCast_add,Ring.intCast_mul];grind
 obtain⟨q,r,e,L⟩:=uE f x _ ((X:F p)^i) (BM _);obtain⟨l,N,G⟩:=Hl r;obtain⟨c,j⟩:=h l 0 (by lia);rw[<-G,Semiring.pow_zero,show(1:F p)*r=r by grind]at j;refine A c (mk_eq.mp ?_);rw[<-mk_eq.mpr j,sF,sF];congr 1;exact mk_eq.mpr ⟨q,by rw[e];grind⟩
structure EP(p d:Nat)(row:List Int):Prop where
 pr:af p
 m:Mn p row
 d1:1<=d
 x:Dd (fL p row) ((X:F p)^(p^d) -X)
 od:∀P,cJ P->Dd P (fL p row)->Od d P
theorem EP.ne{d:Nat}{a:List Int}(h:EP p d a):fL p a≠0:=λz=>by have:=h.m.n0;rw[(cA h.m.r).mp z]at this;cases this
theorem EP.ON{d:Nat}{a:List Int}(h:EP p d a):∀Q,Dd (Q*Q) (fL p a)->dg Q=1:=λQ b=>OH h.pr h.x h.d1 b h.ne
theorem EP.two{d:Nat}{a:List Int}(h:EP p d a)(l:d+1<a.length):∃P Q,cJ P/\cJ Q/\Dd P (fL p a)/\Dd Q (fL p a)/\¬Dd P Q:=by have c:=h.pr;have i:=h.ne;have f:=aM h.m.r;obtain⟨P,b,N,e⟩:=gg c _ (fL p a) (BM _) (by rw[f];lia);have q:=(h.od P b ⟨N,e⟩).dg c b;have j:N≠0:=λz=>i (by rw[e,z];grind);have k:=bD c b.ne j;rw[<-e,f,q]at k;obtain⟨Q,o,w,g⟩:=gg c _ N (BM _) (by lia);refine⟨P,Q,b,o,⟨N,e⟩,⟨P*w,by rw[e,g];grind⟩,λ⟨v,n⟩=>?_⟩;have:=h.ON P ⟨v*w,by rw[e,g,n];grind⟩;have:=b.two;lia
theorem EP.part{d:Nat}{b a:List Int}(h:EP p d b)(e:Mn p a)(c:Dd (fL p a) (fL p b)):EP p d a:=⟨h.pr,e,h.d1,c.trans h.x,λP g f=>h.od P g (f.trans c)⟩
theorem EP.Lr{d:Nat}{c:List Int}(h:EP p d c)(l:c.length=d+1):cJ (fL p c):=by
 have f:=h.pr;have k:=h.ne;have i:=aM h.m.r;have d1:=h.d1;obtain⟨P,g,N,e⟩:=gg f _ (fL p c) (BM _) (by rw[i];lia);have u:=(h.od P g ⟨N,e⟩).dg f g;have s:N≠0:=λz=>k (by rw[e,z];grind);have t:=bD f g.ne s;rw[<-e,i,u]at t;obtain⟨y,n⟩:=c6 f (show dg N=1 by lia);refine⟨by rw[i];lia,λa b q=>?_⟩;have:P=a*(b*y):=by
  have:P=P*N*y:=by
   have:P=P*(y*N):=by rw[n];grind
   grind
  rw[this,<-e,q];grind
 rcases g.no a (b*y) this with z|z
 .exact .inl z
 .right;have o:b≠0:=λz=>k (by rw[q,z];grind);have j:y≠0:=λz=>iW f (by rw[<-n,z];grind);have v:=bD f o j;have:dg b≠0:=λz=>o (bC.mp z);have:dg y≠0:=λz=>j (bC.mp z);lia
theorem EP.num{d:Nat}{a:List Int}(h:EP p d a){s f:F p}(i:Dd (fL p a) (s -tr p d f))(P:F p)(g:cJ P)(c:Dd P (fL p a)):∃n:Int,Dd P (s -((n:Int):F p)):=by have b:=h.pr;have C:=Kf.chr b P;obtain⟨n,_,e⟩:=G6 b g (Lm C (uG b (h.od P g c).yes (Qt.mk (Pr P) f)));refine⟨(n:Int),mk_eq.mp ?_⟩;rw[mk_eq.mpr (c.trans i),sF,e];exact(Ring.intCast_natCast n).symm
theorem wY:∀n:Nat,fL p (Dg n 0++[1])=(X:F p)^n
 |0=>by rw[Semiring.pow_zero];exact fM
 |n+1=>by rw[Gh,List.cons_append,fJ,wY n,aA,Ring.intCast_zero];grind
end Alg
namespace VL
open PySem PySem.Spec
open PyProof.Rows hiding St
open L2 Num Alg
theorem eY{d:Nat->aT}{G:Nat->W}{D:Dn}{c:Ev}{i:Nat}{e:CE}{b:List CS}{l:List W}(f:∀Q:W->Prop,Q (.lst l)->wE d G (λ_=>False) e c Q)(h:gR (λw g a=>wSs d G b g (a.set i (some w))) D l c):wS d G (.fr [i] true e b) D c:=f _ h
theorem gx{p:Nat}(b:af p)(n:Nat):Rm p (Dg n 0++[1]):=by
 have c:=b.1;refine⟨λx a=>?_,.inr ?_⟩
 .rcases Gc.mp a with h|h
  .rw[(List.mem_replicate.mp h).2];exact⟨by decide,by lia⟩
  .rw[Ee.mp h];exact⟨by decide,by lia⟩
 .rw[Fm,WO,F2,Kj,AC,KM (by rw[WO];exact BM _),WO,Qf];show(1:Int)≠0;decide
noncomputable def qe:List CS:=[.set 4 (.ix (.call 0 [(.bin .Add (.bin .Mult (.lst [(.int 0)]) (.var 0)) (.lst [(.int 1)])),(.var 2),(.var 3)]) (.int 1)),.set 5 (.var 4),.fr [6] true (.gJ [(.bin .Sub (.var 1) (.int 1))]) [.set 4 (.call 1 [(.var 4),(.var 3),(.var 2),(.var 3)]),.set 5 (.call 2 [(.var 5),(.var 4),(.var 3)])],.ret (.var 5)]
noncomputable def l5:aT:=λb Q _=>∃(n d:Nat)(a:List Int)(p:Nat),b=[.int n,.int d,wI a,.int p]/\(af p/\p<2^40/\Rm p a/\2<=a.length/\a.length<=50/\n<=50/\1<=d/\d<=50)/\∀r,Rm p r->r.length<a.length->Dd (fL p a) (fL p r -tr p d ((X:F p)^n))->Q (wI r)
theorem Fc{G:Nat->W}{m:Md}(z:List W)(Q:W->Prop)(R:Addr->Prop)(h:l5 z Q R):wSs (bw [aR,dh,gh]) G qe (aX m Q R) (aq 7 z):=by
 obtain⟨n,d,f,p,rfl,⟨s,J,A,T,U,Wb,d1,Me⟩,y⟩:=h;show wSs _ _ qe _ [some (.int n),some (.int d),some (wI f),some (.int p),none,none,none];unfold qe;have p2:=s.1;have S:0<p:=by lia
 refine ai (λg=>∃r,(Rm p r/\r.length<f.length/\Dd (fL p f) (fL p r -(X:F p)^n))/\g=[some (.int n),some (.int d),some (wI f),some (.int p),some (wI r),none,none]) (λN k=>?_) ?_
 .fin2;rw[F1,dH];refine⟨ak (by simp),by lia,by lia,ak (by simp;lia),ak (by simp),ak (by simp;lia),?_⟩;have e:(Dg n (W.int 0)++[W.int 1])=(Dg n (0:Int)++[1]).map W.int:=by rw[QP,WG];rfl
  rw[e];refine⟨Dg n 0++[1],f,p,rfl,⟨s,by exact_mod_cast J,by lia,by simp;lia,by lia,gx s n,A⟩,λP L dv=>⟨_,rfl,k _ ⟨L,⟨dv.r,dv.lr,-fL p P,?_⟩,rfl⟩⟩⟩;have:=n6 dv.eq;rw[wY]at this;rw[this];grind
 rintro _ ⟨q,⟨H,E,D⟩,rfl⟩;refine ai (λg=>g=[some (.int n),some (.int d),some (wI f),some (.int p),some (wI q),some (wI q),none]) (λN k=>?_) ?_
 .fin2;exact k _ rfl
 rintro _ rfl;refine ai (λg=>∃(r:List Int)(B j:Option W),(Rm p r/\r.length<f.length/\Dd (fL p f) (fL p r -tr p d ((X:F p)^n)))/\g=[some (.int n),some (.int d),some (wI f),some (.int p),B,some (wI r),j]) (λN k=>?_) ?_
 .refine eY (l:=cj 0 1 (d -1)) (λQ y=>?_) ?_
  .fin2;rw[show(d:Int) -1=((d -1:Nat):Int) by lia];exact⟨by lia,by lia,y⟩
  refine aP (λi K=>∃(b r:List Int)(j:Option W),(i<=d -1/\(Rm p b/\b.length<f.length/\Qt.mk (Pr (fL p f)) (fL p b)=Qt.mk (Pr (fL p f)) (((X:F p)^n)^(p^i)))/\Rm p r/\r.length<f.length/\Qt.mk (Pr (fL p f)) (fL p r)=Qt.mk (Pr (fL p f)) (tr p (i+1) ((X:F p)^n)))/\K=[some (.int n),some (.int d),some (wI f),some (.int p),some (wI b),some (wI r),j]) ⟨q,q,none,⟨KE _,⟨H,E,?_⟩,H,E,?_⟩,rfl⟩ ?_ ?_
  .rw[Ik,show((X:F p)^n)^1=X^n by rw[aA,D2];grind];exact mk_eq.mpr D
  .refine(mk_eq.mpr D).trans (Fs (Qt.mk (Pr (fL p f))) ?_);show X^n=(0:F p)+(X^n)^(p^0);rw[Ik,show((X:F p)^n)^1=X^n by rw[aA,D2];grind];grind
  .rintro i w _ N1 Y ⟨b,r,j,⟨hi,⟨M,lb,I⟩,C,lr,t⟩,rfl⟩ b6;obtain⟨Z,rfl⟩:=dI Y;fin2;refine⟨b,f,p,p,rfl,⟨s,J,M,A,T,U,by lia⟩,λu v x o=>?_⟩;refine⟨r,u,p,rfl,⟨S,by lia,by lia⟩,λO P7 P8 CJ=>b6 _ ⟨u,O,_,⟨by lia,⟨v,x,?_⟩,P7,by lia,?_⟩,rfl⟩⟩
   .rw[mk_eq.mpr o,cF,I,<-cF,<-pow_mul,<-IU]
   .have e1:Qt.mk (Pr (fL p f)) (fL p u)=Qt.mk (Pr (fL p f)) (((X:F p)^n)^(p^(i+1))):=by rw[mk_eq.mpr o,cF,I,<-cF,<-pow_mul,<-IU]
    rw[P8];show Qt.mk (Pr (fL p f)) (fL p r)+Qt.mk (Pr (fL p f)) (fL p u)=_;rw[t,e1];rfl
  .rintro _ ⟨b,r,j,⟨_,_,C,lr,t⟩,rfl⟩;rw[Lf]at t;refine k _ ⟨r,_,_,⟨C,lr,mk_eq.mp ?_⟩,rfl⟩;rw[t,show d -1+1=d by lia]
 rintro _ ⟨r,B,j,⟨a,b,c⟩,rfl⟩;fin2;exact y r a b c
noncomputable def jA:List CS:=[.iff (.cmp .Eq (.var 2) (.int 2)) [.ret (.var 0)] [],.ret (.call 0 [(.call 1 [(.var 0),(.bin .FloorDiv (.bin .Sub (.var 2) (.int 1)) (.int 2)),(.var 1),(.var 2)]),(.lst [(.int 1)]),(.var 2)])]
noncomputable def iY:aT:=λb Q _=>∃(s a:List Int)(p:Nat),b=[wI s,wI a,.int p]/\(af p/\p<2^40/\Rm p s/\s.length<a.length/\Rm p a/\2<=a.length/\a.length<=50)/\∀r,Rm p r->r.length<=a.length->Dd (fL p a) (fL p r -sq p (fL p s))->Q (wI r)
theorem yP{G:Nat->W}{m:Md}(c:List W)(Q:W->Prop)(R:Addr->Prop)(h:iY c Q R):wSs (bw [cN,dh]) G jA (aX m Q R) (aq 3 c):=by
 obtain⟨s,a,p,rfl,⟨b,i,d,y,j,n,o⟩,f⟩:=h;show wSs _ _ jA _ [some (wI s),some (wI a),some (.int p)];unfold jA;have x:=b.1;have k:Rm p [1]:=gx b 0;fin2;by_cases g:p=2
 .rw[Bz (DL (by lia))];refine f s d (by lia) ⟨0,?_⟩;unfold sq;rw[Bz g];grind
 .rw[Bi (by rw[FS];lia)];refine⟨⟨by decide,by decide⟩,?_⟩;rw[show((p:Int) -1).fdiv 2=(((p -1)/2:Nat):Int) by rw[Oy _ (by decide)];lia];refine⟨s,a,(p -1)/2,p,rfl,⟨b,i,d,j,n,o,by lia⟩,λr A z w=>⟨ak (by simp),?_⟩⟩;refine⟨r,[1],p,rfl,⟨by lia,i,by lia,by simp,k⟩,λl v u t=>f l v (by rw[F2]at t;lia) ?_⟩;obtain⟨q,e⟩:=w;refine⟨q,?_⟩;unfold sq;rw[Bi g,u,fM,<-e];grind
noncomputable def wZ:List CS:=[.set 3 (.bin .Add (.var 3) (.int 1)),.set 4 (.call 0 [(.var 3),(.var 1),(.var 0),(.var 2)])]
noncomputable def qf:List CS:=[.set 5 (.ix (.call 1 [(.call 2 [(.var 4),(.var 0),(.var 2)]),(.var 0),(.var 2)]) (.int 0)),.set 4 (.call 3 [(.var 4),(.lst [(.int 1)]),(.var 2)])]
noncomputable def l6:List CS:=[.set 3 (.int 1),.set 4 (.call 0 [(.var 3),(.var 1),(.var 0),(.var 2)]),.nM (.cmp .Lt (.blt .len [(.var 4)]) (.int 2)) wZ,.set 5 (.lst [(.int 1)]),.nM (.or [(.cmp .Eq (.blt .len [(.var 5)]) (.int 1)),(.cmp .Eq (.blt .len [(.var 5)]) (.blt .len [(.var 0)]))]) qf,.ret (.var 5)]
structure Hv(p d:Nat)(row part:List Int):Prop where
 m:Mn p part
 d:Dd (fL p part) (fL p row)
 l1:1<part.length
 l2:part.length<row.length
noncomputable def iZ:aT:=λc Q _=>∃(a:List Int)(d p:Nat),c=[wI a,.int d,.int p]/\(EP p d a/\p<2^30/\d+1<a.length/\a.length<=50/\d<=50)/\∀b,Hv p d a b->Q (wI b)
theorem BW{G:Nat->W}{m:Md}(ws:List W)(Q:W->Prop)(R:Addr->Prop)(h:iZ ws Q R):wSs (bw [l5,bV,iY,gh]) G l6 (aX m Q R) (aq 6 ws):=by
 obtain⟨f,d,p,rfl,⟨E,sY,big,j6,Me⟩,hq⟩:=h;show wSs _ _ l6 _ [some (wI f),some (.int d),some (.int p),none,none,none];unfold l6;have A:=E.pr;have p2:=A.1;have bW:p<2^40:=Qh sY (by decide);have d1:=E.d1;have ld:=aM E.m.r;obtain⟨P,Q',hP,hQ,pM,qM,Vn⟩:=E.two big;obtain⟨U,i1,iM,nc⟩:=uM A E.ne E.x hP (E.od P hP pM) hQ pM qM Vn;rw[ld]at iM;have go:∀(R:Addr->Prop)(n:Nat)(K:W->Prop),n<=50->(∀r,Rm p r->r.length<f.length->Dd (fL p f) (fL p r -tr p d ((X:F p)^n))->K (wI r))->l5 [.int n,.int d,wI f,.int p] K R:=λR n K hn hK=>⟨n,d,f,p,rfl,⟨A,bW,E.m.r,by lia,j6,hn,d1,Me⟩,hK⟩;refine ai (λk=>k=[some (wI f),some (.int d),some (.int p),some (.int ((1:Nat):Int)),none,none]) (λN I=>?_) ?_
 .fin2;exact I _ rfl
 rintro _ rfl;refine ai (λk=>∃s,(Rm p s/\s.length<f.length/\Dd (fL p f) (fL p s -tr p d ((X:F p)^1)))/\k=[some (wI f),some (.int d),some (.int p),some (.int ((1:Nat):Int)),some (wI s),none]) (λN I=>?_) ?_
 .fin2;exact go _ 1 _ (by decide) λr a b c=>I _ ⟨r,⟨a,b,c⟩,rfl⟩
 rintro _ ⟨s,⟨J,S,s3⟩,rfl⟩;refine ai (λk=>∃(s:List Int)(n:Nat)(o3:Option W),(Rm p s/\s.length<f.length/\2<=s.length/\Dd (fL p f) (fL p s -tr p d ((X:F p)^n)))/\k=[some (wI f),some (.int d),some (.int p),o3,some (wI s),none]) (λN I=>?_) ?_
 .refine d9 (α:=Nat×List Int) (λz=>[some (wI f),some (.int d),some (.int p),some (.int (z.1:Nat)),some (wI z.2),none]) (λz=>z.1<=U/\Rm p z.2/\z.2.length<f.length/\Dd (fL p f) (fL p z.2 -tr p d ((X:F p)^z.1))) (λz=>U -z.1) (1,s) rfl ⟨i1,J,S,s3⟩ ?_;rintro⟨n,s⟩ ⟨hn,a,b,c⟩;dsimp only at hn a b c⊢;unfold wI;fin2;rw[AN];refine bI (λH=>?_) (λH=>?_)
  .have D:=Bn H;have lt:n<U:=WE hn λe=>by
    subst e;obtain⟨x,hx⟩:∃x:Int,fL p s=((x:Int):F p):=by
     cases s with
     |nil=>exact⟨0,by rw[bN,N9]⟩
     |cons x s=>have:s=[]:=OK.mp (by rw[Eb]at D;lia);exact⟨x,by rw[this,fJ,bN];grind⟩
    obtain⟨w,L⟩:=c;exact nc x ⟨-w,by rw[<-hx];grind⟩
   unfold wZ;fin2;rw[show((n:Nat):Int)+1=((n+1:Nat):Int) by lia];exact go _ (n+1) _ (by lia) λr a b c=>⟨(n+1,r),rfl,⟨lt,a,b,c⟩,by show U -(n+1)<U -n;lia⟩
  .have D:¬((s.length:Int)<2):=λz=>by rw[DL z]at H;cases H
   exact I _ ⟨s,n,_,⟨a,b,by lia,c⟩,rfl⟩
 clear J S s3 s;rintro _ ⟨s,n,o3,⟨J,S,s3,s4⟩,rfl⟩;obtain⟨o,ht0,P1,Q1,Vo,Wc,Tp,Vp,Vq,Vr⟩:=BO A E.ne E.ON (λP hP hd=>E.num s4 P hP hd) (by rw[aM J];exact s3) (by rw[aM J,ld];exact S);have r1:Rm p [1]:=gx A 0;refine ai (λk=>k=[some (wI f),some (.int d),some (.int p),o3,some (wI s),some (wI [1])]) (λN I=>?_) ?_
 .fin2;exact⟨ak (by simp),I _ rfl⟩
 rintro _ rfl;have rl:2<=f.length:=by lia
 refine ai (λk=>∃(j:List Int)(o4:Option W),Hv p d f j/\k=[some (wI f),some (.int d),some (.int p),o3,o4,some (wI j)]) (λN I=>?_) ?_
 .refine d9 (α:=Nat×List Int×List Int) (λz=>[some (wI f),some (.int d),some (.int p),o3,some (wI z.2.1),some (wI z.2.2)]) (λz=>z.1<=o+1/\(Rm p z.2.1/\z.2.1.length<f.length/\fL p z.2.1=fL p s+(((z.1:Nat):Int):F p))/\Mn p z.2.2/\Dd (fL p z.2.2) (fL p f)/\(z.1=o+1->z.2.2.length≠1/\z.2.2.length≠f.length)) (λz=>o+1 -z.1) (0,s,[1]) rfl ⟨KE _,⟨J,S,?_⟩,⟨r1,Nat.one_pos,rfl⟩,⟨fL p f,by rw[fM];grind⟩,λz=>by cases z⟩ ?_
  .show fL p s=fL p s+(((0:Nat):Int):F p);rw[show((0:Nat):Int)=0 from rfl,N9];grind
  rintro⟨t,u,j⟩ ⟨ht,⟨u1,u2,Z⟩,mp,dp,ne⟩;dsimp only at ht u1 u2 Z mp dp ne⊢;have O:j.length≠1->j.length≠f.length->Hv p d f j:=λa b=>by have:=mp.n0;have l:=dp.len A E.ne;rw[aM mp.r,ld]at l;exact⟨mp,dp,by lia,by lia⟩
  have C:t<o+1->wSs (bw [l5,bV,iY,gh]) G qf {nx:=WN (λz:Nat×List Int×List Int=>[some (wI f),some (.int d),some (.int p),o3,some (wI z.2.1),some (wI z.2.2)]) (λz=>z.1<=o+1/\(Rm p z.2.1/\z.2.1.length<f.length/\fL p z.2.1=fL p s+(((z.1:Nat):Int):F p))/\Mn p z.2.2/\Dd (fL p z.2.2) (fL p f)/\(z.1=o+1->z.2.2.length≠1/\z.2.2.length≠f.length)) (λz=>o+1 -z.1) (t,u,j),rt:=(aX m Q R).rt,bk:=N,ct:=WN (λz:Nat×List Int×List Int=>[some (wI f),some (.int d),some (.int p),o3,some (wI z.2.1),some (wI z.2.2)]) (λz=>z.1<=o+1/\(Rm p z.2.1/\z.2.1.length<f.length/\fL p z.2.1=fL p s+(((z.1:Nat):Int):F p))/\Mn p z.2.2/\Dd (fL p z.2.2) (fL p f)/\(z.1=o+1->z.2.2.length≠1/\z.2.2.length≠f.length)) (λz=>o+1 -z.1) (t,u,j),ex:=λ_=>False} [some (wI f),some (.int d),some (.int p),o3,some (wI u),some (wI j)]:=λlt=>by
   unfold qf;refine ai (λk=>∃g,(Mn p g/\Dd (fL p g) (fL p f)/\(t+1=o+1->g.length≠1/\g.length≠f.length))/\k=[some (wI f),some (.int d),some (.int p),o3,some (wI u),some (wI g)]) (λN1 b6=>?_) ?_
   .fin2;refine⟨u,f,p,rfl,⟨A,bW,u1,u2,E.m.r,rl,j6⟩,λr h1 h2 Y=>?_⟩;refine⟨r,f,p,rfl,⟨A,bW,h1,E.m.r,by lia,j6,λz=>by rw[z.2]at rl;cases rl⟩,λg u' v' B=>⟨_,rfl,b6 _ ⟨g,⟨B.m,B.b,λe=>?_⟩,rfl⟩⟩⟩;have e:t=o:=by lia
    rw[e]at Z;rw[Z]at Y;obtain⟨a,b,hi⟩:=B.i;constructor
    .intro D;have d1:Dd P1 (fL p r):=by
      obtain⟨w,L⟩:=Y;obtain⟨M,q⟩:=Tp;obtain⟨w2,sW⟩:=Vq;exact⟨M*w+w2,by
       have:fL p r=fL p f*w+sq p (fL p s+(((o:Nat):Int):F p)):=by rw[<-L];grind
       rw[this,q,sW];grind⟩
     obtain⟨M,q⟩:=Tp;obtain⟨w2,sW⟩:=d1;have Vs:Dd P1 (fL p g):=⟨a*w2+b*M,by rw[hi,q,sW];grind⟩;have:=Vs.len A (λz=>by have:=B.m.n0;rw[(cA B.m.r).mp z]at this;cases this);rw[aM B.m.r,D]at this;have:=Vo.two;lia
    .intro D;obtain⟨w,L⟩:=B.b;have g0:fL p g≠0:=λz=>by have:=B.m.n0;rw[(cA B.m.r).mp z]at this;cases this
     have w0:w≠0:=λz=>E.ne (by rw[L,z];grind);have T:=bD A g0 w0;rw[<-L,ld,aM B.m.r,D]at T;obtain⟨y,hy⟩:=c6 A (show dg w=1 by lia);refine Vr ?_;obtain⟨v,hv⟩:=B.a;obtain⟨M,q⟩:=Vp;obtain⟨w3,Vt⟩:=Y;have e1:fL p g=fL p f*y:=by
      have:fL p g=fL p g*(y*w):=by rw[hy];grind
      rw[this,L];grind
     have e2:sq p (fL p s+(((o:Nat):Int):F p))=fL p f*(y*v -w3):=by
      have:sq p (fL p s+(((o:Nat):Int):F p))=fL p r -fL p f*w3:=by rw[<-Vt];grind
      rw[this,hv,e1];grind
     exact⟨M*(y*v -w3),by rw[e2,q];grind⟩
   rintro _ ⟨g,⟨g1,g2,g3⟩,rfl⟩;fin2;refine⟨ak (by simp),u,[1],p,rfl,⟨by lia,by lia,by simp⟩,λu' h1 h2 Y=>⟨(t+1,u',g),rfl,⟨by show t+1<=o+1;lia,⟨h1,?_,?_⟩,g1,g2,g3⟩,by show o+1 -(t+1)<o+1 -t;lia⟩⟩
   .show u'.length<f.length;rw[F2]at Y;lia
   .show fL p u'=fL p s+(((t+1:Nat):Int):F p);rw[h2,Z,fM,MY,NG,SC];grind
  unfold wI at C⊢;fin2;rw[AN,AN];by_cases D:j.length=1
  .rw[Bz (DL (by lia))];refine bI (λ_=>C (WE ht λe=>(ne e).1 D)) λz=>by cases z
  .rw[Bi (by rw[FS];lia)];refine bI (λH=>?_) (λH=>?_)
   .have T:j.length=f.length:=by have:=Bn H;lia
    exact C (WE ht λe=>(ne e).2 T)
   .have T:j.length≠f.length:=λz=>by rw[DL (by lia)]at H;cases H
    exact I _ ⟨j,_,O D T,rfl⟩
 rintro _ ⟨j,o4,hv,rfl⟩;fin2;exact hq j hv
noncomputable def qg(p:Nat):List (List Int)->F p
 |[]=>1
 |l::a=>fL p l*qg p a
theorem w4{p:Nat}:∀(a b:List (List Int)),qg p (a++b)=qg p a*qg p b
 |[],b=>by show qg p b=1*qg p b;grind
 |l::a,b=>by show fL p l*qg p (a++b)=fL p l*qg p a*qg p b;rw[w4 a b];grind
theorem j7{p:Nat}:∀{a:List (List Int)}{l:List Int},l∈a->Dd (fL p l) (qg p a)
 |x::a,l,h=>by
  rcases GE.mp h with rfl|h
  .exact⟨qg p a,rfl⟩
  .obtain⟨q,b⟩:=j7 h;exact⟨fL p x*q,by show fL p x*qg p a=_;rw[b];grind⟩
structure Vu(p d:Nat)(row:List Int)(ls:List (List Int)):Prop where
 all:∀l∈ls,Mn p l/\cJ (fL p l)/\l.length=d+1
 pw:ls.Pairwise (·≠·)
 pr:fL p row=qg p ls
noncomputable def cS:List CS:=[.iff (.cmp .Eq (.blt .len [(.var 0)]) (.int 1)) [.ret (.lst [])] [],.iff (.cmp .Eq (.blt .len [(.var 0)]) (.bin .Add (.var 1) (.int 1))) [.ret (.lst [(.var 0)])] [],.set 3 (.call 0 [(.var 0),(.var 1),(.var 2)]),.set 4 (.ix (.call 1 [(.var 0),(.var 3),(.var 2)]) (.int 0)),.ret (.bin .Add (.call 2 [(.var 3),(.var 1),(.var 2)]) (.call 2 [(.var 4),(.var 1),(.var 2)]))]
noncomputable def cg(k:Nat):aT:=λc Q _=>∃(a:List Int)(d p:Nat),c=[wI a,.int d,.int p]/\(EP p d a/\p<2^30/\a.length<=50/\d<=50/\a.length<=k)/\∀b,Vu p d a b->b.length<=a.length->Q (.lst (b.map wI))
theorem uN{p:Nat}{b a q r:List Int}(d:af p)(dv:G0 p b a q r)(g:Mn p b)(mp:Mn p a)(i:Dd (fL p a) (fL p b)):r=[]/\Mn p q/\fL p b=fL p a*fL p q:=by
 have e:=n6 dv.eq;obtain⟨w,h⟩:=i;have c:r=[]:=by
  refine(cA dv.r).mp (FV λz=>?_);have:Dd (fL p a) (fL p r):=⟨w -fL p q,by
   have:fL p r=fL p b -fL p a*fL p q:=by rw[e];grind
   rw[this,h];grind⟩
  have:=this.len d z;rw[aM mp.r,aM dv.r]at this;have:=dv.lr;lia
 have f:fL p b=fL p a*fL p q:=by rw[e,c,bN];grind
 exact⟨c,g.Vk d mp dv.q f,f⟩
theorem mX{G:Nat->W}{m:Md}{k:Nat}(O:List W)(Q:W->Prop)(R:Addr->Prop)(h:cg (k+1) O Q R):wSs (bw [iZ,aR,cg k]) G cS (aX m Q R) (aq 5 O):=by
 obtain⟨c,d,p,rfl,⟨E,H,j6,M,lk⟩,K⟩:=h;show wSs _ _ cS _ [some (wI c),some (.int d),some (.int p),none,none];unfold cS;have o:=E.pr;have n0:=E.m.n0;have d1:=E.d1;have J:=aM E.m.r;refine ai (λf=>c.length≠1/\f=[some (wI c),some (.int d),some (.int p),none,none]) (λN g=>?_) ?_
 .by_cases l1:c.length=1
  .have e:c=[1]:=by obtain⟨x,rfl⟩:=WK.mp l1;have:=E.m.one;have this:x=1:=this;rw[this]
   have:=K [] ⟨λl t=>(by cases t),.nil,by rw[e];exact fM⟩ (KE _);unfold wI;fin2;rw[AN,Bz (DL (by lia))];exact⟨ak (by simp),this⟩
  .have g:=g _ ⟨l1,rfl⟩;unfold wI at g⊢;fin2;rw[AN,Bi (by rw[FS];lia)];exact g
 rintro _ ⟨l1,rfl⟩;refine ai (λf=>c.length≠d+1/\f=[some (wI c),some (.int d),some (.int p),none,none]) (λN g=>?_) ?_
 .by_cases l2:c.length=d+1
  .have:=K [c] ⟨λl t=>by rw[Ee.mp t];exact⟨E.m,E.Lr l2,l2⟩,X0 _ _,by show _=fL p c*1;grind⟩ (by show 1<=_;lia);unfold wI at this⊢;fin2;rw[AN,Bz (DL (by lia))];exact⟨ak (by simp),this⟩
  .have g:=g _ ⟨l2,rfl⟩;unfold wI at g⊢;fin2;rw[AN,Bi (by rw[FS];lia)];exact g
 rintro _ ⟨l2,rfl⟩;have L:d+1<c.length:=by obtain⟨P,U,S⟩:=gg o _ (fL p c) (BM _) (by rw[J];lia);have:=S.len o E.ne;rw[(E.od P U S).dg o U,J]at this;lia
 refine ai (λf=>∃a,Hv p d c a/\f=[some (wI c),some (.int d),some (.int p),some (wI a),none]) (λN g=>?_) ?_
 .fin2;exact⟨c,d,p,rfl,⟨E,H,L,j6,M⟩,λa j=>g _ ⟨a,j,rfl⟩⟩
 rintro _ ⟨a,j,rfl⟩;have We:=j.l1;have Wf:=j.l2;refine ai (λf=>∃b,(Mn p b/\fL p c=fL p a*fL p b)/\f=[some (wI c),some (.int d),some (.int p),some (wI a),some (wI b)]) (λN g=>?_) ?_
 .fin2;refine⟨c,a,p,rfl,⟨o,by have:=H;lia,by lia,by lia,by lia,E.m.r,j.m.r⟩,λq r dv=>⟨_,rfl,?_⟩⟩;obtain⟨_,mq,e⟩:=uN o dv E.m j.m j.d;exact g _ ⟨q,⟨mq,e⟩,rfl⟩
 rintro _ ⟨b,⟨I,e⟩,rfl⟩;have db:Dd (fL p b) (fL p c):=⟨fL p a,by rw[e];grind⟩;have Z:=E.part j.m j.d;have Y:=E.part I db;have Ti:=bD o Z.ne Y.ne;rw[<-e,J,aM j.m.r,aM I.r]at Ti;fin2;refine⟨a,d,p,rfl,⟨Z,H,by lia,M,by lia⟩,λB s Wg=>?_⟩;refine⟨b,d,p,rfl,⟨Y,H,by lia,M,by lia⟩,λA w Wh=>?_⟩;fin2;have C:=K (B++A) ⟨λl t=>(Gc.mp t).elim (s.all l) (w.all l),XD.mpr ⟨s.pw,w.pw,λx T y hy Vv=>?_⟩,by rw[w4,e,s.pr,w.pr]⟩ ?_
 .rw[QP]at C;exact⟨ak (by rw[AN,AN];lia),C⟩
 .subst Vv;obtain⟨u,hu⟩:=j7 T (p:=p);obtain⟨v,hv⟩:=j7 hy (p:=p);have:=E.ON (fL p x) ⟨u*v,by rw[e,s.pr,w.pr,hu,hv];grind⟩;have:=(s.all x T).2.1.two;lia
 .rw[Fm];have:B.length<=a.length -1/\A.length<=b.length -1:=by
   have D:∀(n:List (List Int)),(∀l∈n,Mn p l/\cJ (fL p l)/\l.length=d+1)->dg (qg p n)=n.length*d+1:=λn=>by
    induction n with
    |nil=>intro _;show dg (1:F p)=0*d+1;rw[gX o];lia
    |cons l n ih=>intro h;have i:=ih λl t=>h l (FK _ t);obtain⟨ml,il,ll⟩:=h l FC;have:=bD o il.ne (λz=>by rw[z,cR]at i;lia:qg p n≠0);show dg (fL p l*qg p n)=(n.length+1)*d+1;rw[aM ml.r,ll,i]at this;rw[Pz];lia
   have ca:=D B s.all;have cb:=D A w.all;rw[<-s.pr,aM j.m.r]at ca;rw[<-w.pr,aM I.r]at cb;have m1:B.length*1<=B.length*d:=WV _ d1;have m2:A.length*1<=A.length*d:=WV _ d1;lia
  lia
noncomputable def BX:List CS:=[.set 3 (.bin .Add (.var 3) (.int 1)),.set 1 (.var 4),.CD [4,5] (.call 0 [(.var 1),(.var 0),(.var 2)])]
noncomputable def gk:List CS:=[.set 3 (.int 0),.CD [4,5] (.call 0 [(.var 1),(.var 0),(.var 2)]),.nM (.cmp .Eq (.var 5) (.lst [])) BX,.ret (.tup [(.var 3),(.var 1)])]
structure OR(p:Nat)(part left:List Int)(n:Nat)(out:List Int):Prop where
 m:Mn p out
 e:fL p left=fL p part^n*fL p out
 no:¬Dd (fL p part) (fL p out)
noncomputable def fN:aT:=λd Q _=>∃(a b:List Int)(p:Nat),d=[wI a,wI b,.int p]/\(af p/\p<2^30/\Mn p a/\2<=a.length/\a.length<=50/\Mn p b/\b.length<=50)/\∀(n:Nat) c,OR p a b n c->Q (.tup [.int n,wI c])
theorem sG{G:Nat->W}{m:Md}(s:List W)(Q:W->Prop)(R:Addr->Prop)(h:fN s Q R):wSs (bw [aR]) G gk (aX m Q R) (aq 6 s):=by
 obtain⟨a,b,p,rfl,⟨o,M,mp,O,P,ml,B⟩,H⟩:=h;show wSs _ _ gk _ [some (wI a),some (wI b),some (.int p),none,none,none];unfold gk;have A:∀{R:Addr->Prop}{x:List Int}{K:W->Prop},Mn p x->x.length<=50->(∀q r,G0 p x a q r->K (.tup [wI q,wI r]))->aR [wI x,wI a,.int p] K R:=λ{R x K} g v I=>⟨x,a,p,rfl,⟨o,by lia,by lia,by lia,by lia,g.r,mp.r⟩,I⟩;refine ai (λc=>c=[some (wI a),some (wI b),some (.int p),some (.int ((0:Nat):Int)),none,none]) (λN i=>?_) ?_
 .fin2;exact i _ rfl
 rintro _ rfl;refine ai (λc=>∃q r,G0 p b a q r/\c=[some (wI a),some (wI b),some (.int p),some (.int ((0:Nat):Int)),some (wI q),some (wI r)]) (λN i=>?_) ?_
 .fin2;exact A ml B λq r dv=>⟨rfl,i _ ⟨q,r,dv,rfl⟩⟩
 rintro _ ⟨q,r,dv,rfl⟩;refine ai (λc=>∃(n:Nat)(d:List Int)(u t:Option W),OR p a b n d/\c=[some (wI a),some (wI d),some (.int p),some (.int (n:Int)),u,t]) (λN i=>?_) ?_
 .refine d9 (α:=Nat×List Int×List Int×List Int) (λz=>[some (wI a),some (wI z.2.1),some (.int p),some (.int (z.1:Nat)),some (wI z.2.2.1),some (wI z.2.2.2)]) (λz=>Mn p z.2.1/\z.2.1.length<=50/\G0 p z.2.1 a z.2.2.1 z.2.2.2/\fL p b=fL p a^z.1*fL p z.2.1) (λz=>z.2.1.length) (0,b,q,r) rfl ⟨ml,B,dv,by show _=fL p a^0*_;rw[D2];grind⟩ ?_;rintro⟨n,x,q,r⟩ ⟨g,v,dv,e⟩;dsimp only at g v dv e⊢;have J:=n6 dv.eq;fin2;refine⟨ak (by simp),uA (y:=[]) λk w=>?_⟩;fin2;refine bI (λf=>?_) (λf=>?_)
  .have j:=w.mp f;have dd:Dd (fL p a) (fL p x):=⟨fL p q,by rw[J,j,bN];grind⟩;obtain⟨_,l,eq⟩:=uN o dv g mp dd;have lq:=dv.lq;have:=l.n0;unfold BX;fin2;rw[show((n:Nat):Int)+1=((n+1:Nat):Int) by lia];refine A l (by lia) λE D L=>⟨rfl,(n+1,q,E,D),rfl,⟨l,by show q.length<=50;lia,L,?_⟩,by show q.length<x.length;lia⟩;show fL p b=fL p a^(n+1)*fL p q;rw[e,eq,aA];grind
  .have j:r≠[]:=λz=>by rw[w.mpr z]at f;cases f
   refine i _ ⟨n,x,_,_,⟨g,e,λdd=>j ?_⟩,rfl⟩;exact(uN o dv g mp dd).1
 rintro _ ⟨n,d,u,t,C,rfl⟩;fin2;exact⟨ak (by simp),H n d C⟩
noncomputable def pW(x:List Int×Nat):W:=.tup [wI x.1,.int (x.2:Nat)]
noncomputable def gZ(p:Nat):List (List Int×Nat)->F p
 |[]=>1
 |x::L=>fL p x.1^x.2*gZ p L
theorem j8{p:Nat}(x:List Int×Nat):∀L:List (List Int×Nat),gZ p (L++[x])=gZ p L*fL p x.1^x.2
 |[]=>by show fL p x.1^x.2*1=1*_;grind
 |y::L=>by show fL p y.1^y.2*gZ p (L++[x])=fL p y.1^y.2*gZ p L*_;rw[j8 x L];grind
structure PO(p:Nat)(row:List Int)(L:List (List Int×Nat)):Prop where
 all:∀x∈L,Mn p x.1/\cJ (fL p x.1)/\1<=x.2
 pw:L.Pairwise λx y=>x.1≠y.1
 pr:fL p row=gZ p L
 len:L.length<=row.length
noncomputable def Fd(x y:List Int×Nat):Prop:=x.1.length<y.1.length\/(x.1.length=y.1.length/\(x.1.reverse<y.1.reverse\/(x.1=y.1/\x.2<=y.2)))
noncomputable def i6:aT:=λb Q _=>∃L:List (List Int×Nat),b=[.lst (L.map pW)]/\L.length<=60/\∀a:List (List Int×Nat),a.Perm L->a.Pairwise Fd->Q (.lst (a.map pW))
noncomputable def fO:aT:=λb Q _=>∃(a:List Int)(p:Nat),b=[wI a,.int p]/\(af p/\p<2^30/\Mn p a/\a.length<=10)/\∀L,PO p a L->L.Pairwise Fd->Q (.lst (L.map pW))
theorem Ls{p:Nat}(c:af p){P N f:F p}(d:cJ P)(e:f=P*N)(j:f≠0)(h:dg N=1):cJ f:=by
 have m:N≠0:=λz=>j (by rw[e,z];grind);have n:=bD c d.ne m;rw[<-e,h]at n;have:=d.two;obtain⟨y,i⟩:=c6 c h;refine⟨by lia,λa b l=>?_⟩;have:P=a*(b*y):=by
  have:P=P*N*y:=by
   have:P=P*(y*N):=by rw[i];grind
   grind
  rw[this,<-e,l];grind
 rcases d.no a (b*y) this with z|z
 .exact .inl z
 .right;have k:b≠0:=λz=>j (by rw[l,z];grind);have g:y≠0:=λz=>iW c (by rw[<-i,z];grind);have o:=bD c k g;have:dg b≠0:=λz=>k (bC.mp z);have:dg y≠0:=λz=>g (bC.mp z);lia
theorem BY{p:Nat}(c:af p){P Q:F p}(e:cJ P)(d:cJ Q)(h:Dd P Q):Dd Q P:=by
 obtain⟨w,a⟩:=h;rcases d.no P w a with z|z
 .have:=e.two;lia
 .obtain⟨y,b⟩:=c6 c z;exact⟨y,by
   have:P=P*(y*w):=by rw[b];grind
   rw[a];grind⟩
theorem w6{p:Nat}(c:af p){P:F p}(e:cJ P):∀{d:List (List Int)},Dd P (qg p d)->∃l∈d,Dd P (fL p l)
 |[],h=>by have:=h.len c (iW c);rw[show qg p []=(1:F p)from rfl,gX c]at this;have:=e.two;lia
 |l::d,h=>by
  rcases e.euclid c (a:=fL p l) (b:=qg p d) h with z|z
  .exact⟨l,FC,z⟩
  .obtain⟨f,i,g⟩:=w6 c e z;exact⟨f,FK _ i,g⟩
theorem xg{p:Nat}(a:af p){P f:F p}(b:cJ P):∀n:Nat,Dd P (f^n)->Dd P f
 |0,h=>by rw[D2]at h;have:=h.len a (iW a);rw[gX a]at this;have:=b.two;lia
 |n+1,h=>by
  rw[aA]at h;rcases b.euclid a h with z|z
  .exact xg a b n z
  .exact z
structure Pk(p:Nat)(row left:List Int)(L:List (List Int×Nat)):Prop where
 m:Mn p left
 ll:left.length+L.length<=row.length
 all:∀x∈L,Mn p x.1/\cJ (fL p x.1)/\1<=x.2
 pw:L.Pairwise λx y=>x.1≠y.1
 pr:fL p row=gZ p L*fL p left
 no:∀x∈L,¬Dd (fL p x.1) (fL p left)
noncomputable def Hi(p D:Nat)(a:List Int):Prop:=∀P:F p,Alg.cJ P->Dd P (fL p a)->∀m,1<=m->m<D->¬Dd P ((X:F p)^(p^m) -X)
theorem _root_.Alg.Mn.Lu{p:Nat}{l:List Int}(h:Mn p l):fL p l≠0:=λz=>by have:=h.n0;rw[(cA h.r).mp z]at this;cases this
theorem Pk.take{p n:Nat}{g b a c:List Int}{L:List (List Int×Nat)}(o:af p)(h:Pk p g b L)(mp:Mn p a)(i:cJ (fL p a))(q:Dd (fL p a) (fL p b))(t:OR p a b n c):Pk p g c (L++[(a,n)])/\1<=n/\Dd (fL p c) (fL p b):=by
 have l:1<=n:=by apply FV;intro z;have e:=t.e;rw[show n=0 by lia,D2]at e;exact t.no (by rw[show fL p c=fL p b by rw[e];grind];exact q)
 have s:Dd (fL p c) (fL p b):=⟨fL p a^n,by rw[t.e];grind⟩;have len:c.length<b.length:=by obtain⟨k,A⟩:∃k,n=k+1:=⟨n -1,by lia⟩;have e:=t.e;rw[A,aA]at e;have j:fL p a^k*fL p c≠0:=λz=>h.m.Lu (by rw[e,show fL p a^k*fL p a*fL p c=fL p a^k*fL p c*fL p a by grind,z];grind);have v:=bD o i.ne j;rw[show fL p a*(fL p a^k*fL p c)=fL p b by rw[e];grind,aM h.m.r]at v;have u:=(show Dd (fL p c) (fL p a^k*fL p c)from⟨fL p a^k,by grind⟩).len o j;rw[aM t.m.r]at u;have:=i.two;lia
 refine⟨⟨t.m,?_,λx f=>?_,?_,?_,λx f d=>?_⟩,l,s⟩
 .have:=h.ll;rw[Fm,F2];lia
 .rcases Gc.mp f with f|f
  .exact h.all x f
  .rw[Ee.mp f];exact⟨mp,i,l⟩
 .refine XD.mpr ⟨h.pw,X0 _ _,λx f y w e=>?_⟩;rw[Ee.mp w]at e;exact h.no x f (by rw[e];exact q)
 .rw[j8,h.pr,t.e];grind
 .rcases Gc.mp f with f|f
  .exact h.no x f (d.trans s)
  .rw[Ee.mp f]at d;exact t.no d
theorem Lv{p:Nat}{a l:List Int}(d:af p)(ml:Mn p l)(e:Alg.cJ (fL p l))(mp:Mn p a)(n:Alg.cJ (fL p a))(g:Dd (fL p l) (fL p a)):a=l:=by
 have o:=BY d e n g;obtain⟨w,c⟩:=g;have i:w≠0:=λz=>mp.Lu (by rw[c,z];grind);have j:=bD d e.ne i;have k:=o.len d ml.Lu;have m:=(show Dd (fL p l) (fL p a)from⟨w,c⟩).len d mp.Lu;rw[<-c]at j;obtain⟨v,s,ev⟩:=Hl w;have rv:∃x:Int,w=((x:Int):F p):=by
  have q:v.length=1:=by lia
  obtain⟨x,rfl⟩:=WK.mp q;exact⟨x,by rw[ev,fJ,bN];grind⟩
 obtain⟨x,f⟩:=rv;rw[aM ml.r,aM mp.r]at m k;have b:=Qt.eq.mp (show Qt.mk (Ip p) (cY a)=Qt.mk (Ip p) (Alg.cst x*cY l)from by rw[show Qt.mk (Ip p) (Alg.cst x*cY l)=((x:Int):F p)*fL p l from rfl,<-f];exact c.trans (by grind)) (a.length -1);have b:(p:Int)∣a.getD (a.length -1) 0+ -(Alg.cst x*cY l).1 (a.length -1):=b;rw[Po.pZ]at b;have b:(p:Int)∣a.getD (a.length -1) 0+ -(x*l.getD (a.length -1) 0):=b;rw[mp.one,show a.length -1=l.length -1 by lia,ml.one,RN]at b;have h:((x:Int):F p)=1:=by have:=(bE (p:=p)).mpr b;rw[NG,Vl,SC]at this;grind
 exact qc mp.r ml.r (by rw[c,f,h];grind)
theorem OT{p n:Nat}{b a c l:List Int}(f:af p)(ml:Mn p l)(d:cJ (fL p l))(i:Mn p a)(j:cJ (fL p a))(h:a≠l)(g:Dd (fL p l) (fL p b))(t:OR p a b n c):Dd (fL p l) (fL p c):=by
 rw[t.e]at g;rcases d.euclid f g with z|z
 .exact absurd (Lv f ml d i j (xg f d n z)) h
 .exact z
noncomputable def Ho:List CS:=[.CD [8,2] (.call 4 [(.var 7),(.var 2),(.var 1)]),.app 3 (.tup [(.var 7),(.var 8)])]
noncomputable def BZ:List CS:=[.set 5 (.call 0 [(.var 5),(.var 1),(.var 2),(.var 1)]),.set 6 (.ix (.call 1 [(.call 2 [(.var 5),(.lst [(.int 0),(.int 1)]),(.var 1)]),(.var 2),(.var 1)]) (.int 0)),.fr [7] true (.call 3 [(.var 6),(.var 4),(.var 1)]) Ho,.set 4 (.bin .Add (.var 4) (.int 1))]
noncomputable def ee:List CS:=[.set 2 (.blt .list [(.var 0)]),.set 3 (.lst []),.set 4 (.int 1),.set 5 (.lst [(.int 0),(.int 1)]),.nM (.cmp .Lt (.bin .Mult (.int 2) (.var 4)) (.blt .len [(.var 2)])) BZ,.iff (.cmp .Gt (.blt .len [(.var 2)]) (.int 1)) [.app 3 (.tup [(.var 2),(.int 1)])] [],.ret (.call 5 [(.var 3)])]
abbrev e9(row:List Int)(p:Nat)(l:Ev):Ev:=some (wI row)::some (.int (p:Int))::l
structure Wd(p:Nat)(row left hi:List Int)(L:List (List Int×Nat))(D:Nat):Prop where
 k:Pk p row left L
 h:Hi p D left
 d1:1<=D
 rh:Rm p hi
 lh:hi.length<=50
 eh:Qt.mk (Pr (fL p left)) (fL p hi)=Qt.mk (Pr (fL p left)) ((X:F p)^(p^(D -1)))
theorem OU{G:Nat->W}{D:Dn}{p d:Nat}{g f hi:List Int}{L:List (List Int×Nat)}{o6 o7 o8:Option W}(I:af p)(sY:p<2^30)(lr:g.length<=10)(w:Wd p g f hi L d)(big:2*d<f.length)
 (hN:∀c K y q6 R Q,Wd p g c K y (d+1)->D.nx (e9 g p [some (wI c),some (.lst (y.map pW)),some (.int ((d+1:Nat):Int)),some (wI K),q6,R,Q])):
 wSs (bw [dh,bV,cN,cg 10,fN,i6]) G BZ D (e9 g p [some (wI f),some (.lst (L.map pW)),some (.int (d:Int)),some (wI hi),o6,o7,o8]):=by
 have bW:p<2^40:=Qh sY (by decide);have p2:=I.1;have k:=w.k;have d1:=w.d1;have ll:=k.ll;have l0:=k.m.n0;unfold BZ;refine ai (λq=>∃A,(Rm p A/\A.length<f.length/\Qt.mk (Pr (fL p f)) (fL p A)=Qt.mk (Pr (fL p f)) ((X:F p)^(p^d)))/\q=e9 g p [some (wI f),some (.lst (L.map pW)),some (.int (d:Int)),some (wI A),o6,o7,o8]) (λN b6=>?_) ?_
 .fin2;refine⟨hi,f,p,p,rfl,⟨I,bW,w.rh,k.m.r,by lia,by lia,w.lh⟩,λr Y H h3=>b6 _ ⟨r,⟨Y,H,?_⟩,rfl⟩⟩;rw[mk_eq.mpr h3,cF,w.eh,<-cF,<-pow_mul,<-IU,show(d -1).succ=d by lia]
 rintro _ ⟨A,⟨rh,lh,eh⟩,rfl⟩;have rx:Rm p [0,1]:=gx I 1;have ex:fL p [0,1]=X:=rfl;refine ai (λq=>∃a,(EP p d a/\a.length<=f.length/\Dd (fL p a) (fL p f)/\∀P:F p,Alg.cJ P->Dd P (fL p f)->Dd P ((X:F p)^(p^d) -X)->Dd P (fL p a))/\q=e9 g p [some (wI f),some (.lst (L.map pW)),some (.int (d:Int)),some (wI A),some (wI a),o7,o8]) (λN b6=>?_) ?_
 .fin2;refine⟨ak (by simp),A,[0,1],p,rfl,⟨by lia,bW,by lia,by simp,rx⟩,λs rs es C=>?_⟩;have Vy:s.length<=50:=by have e:([0,1]:List Int).length=2:=rfl;rw[e]at C;lia
  refine⟨s,f,p,rfl,⟨I,bW,rs,k.m.r,Vy,by lia,λz=>by rw[z.2]at l0;cases l0⟩,λa u v S=>⟨_,rfl,b6 _ ⟨a,⟨?_,?_,S.b,?_⟩,rfl⟩⟩⟩
  .have dx:Dd (fL p a) ((X:F p)^(p^d) -X):=by
    obtain⟨q1,Y⟩:=S.a;obtain⟨q2,H⟩:=S.b;obtain⟨q3,h3⟩:=mk_eq.mp eh;exact⟨q1 -q2*q3,by
     have:(X:F p)^(p^d) -X=(fL p A -X) -(fL p A -X^(p^d)):=by grind
     rw[this,h3,<-ex,<-es,Y,H];grind⟩
   exact⟨I,S.m,d1,dx,λP M T=>⟨d1,T.trans dx,λm m1 md=>w.h P M (T.trans S.b) m m1 md⟩⟩
  .have:=S.b.len I k.m.Lu;rw[aM S.m.r,aM k.m.r]at this;exact this
  .intro P M O dx;obtain⟨s1,t1,ei⟩:=S.i;obtain⟨q1,Y⟩:=O;obtain⟨q2,H⟩:=dx;obtain⟨q3,h3⟩:=mk_eq.mp eh;exact⟨s1*(q2+q1*q3)+t1*q1,by
    have:fL p s=(X^(p^d) -X)+(fL p A -X^(p^d)):=by rw[es,ex];grind
    rw[ei,this,h3,H,Y];grind⟩
 rintro _ ⟨a,⟨E,la,da,conv⟩,rfl⟩;refine ai (λq=>∃(c:List Int)(y:List (List Int×Nat))(R Q:Option W),(Pk p g c y/\Dd (fL p c) (fL p f)/\∀P:F p,Alg.cJ P->Dd P (fL p c)->¬Dd P (fL p a))/\q=e9 g p [some (wI c),some (.lst (y.map pW)),some (.int (d:Int)),some (wI A),some (wI a),R,Q]) (λN b6=>?_) ?_
 .fin2;refine⟨a,d,p,rfl,⟨E,sY,by lia,by lia,by lia⟩,λC Z lls=>?_⟩;fin2;refine aP (λi ε=>∃(c:List Int)(y:List (List Int×Nat))(R Q:Option W),(Pk p g c y/\Dd (fL p c) (fL p f)/\(∀j,i<=j->j<C.length->Dd (fL p (C.getD j [])) (fL p c))/\∀j,j<i->j<C.length->¬Dd (fL p (C.getD j [])) (fL p c))/\ε=e9 g p [some (wI c),some (.lst (y.map pW)),some (.int (d:Int)),some (wI A),some (wI a),R,Q]) ⟨f,L,o7,o8,⟨k,⟨1,by grind⟩,λj _ J=>?_,λj J=>by cases J⟩,rfl⟩ ?_ ?_
  .have:C.getD j []∈C:=by rw[AC,B1 J];exact L9 J
   have:=j7 this (p:=p);rw[<-Z.pr]at this;exact this.trans da
  .rintro i wv _ N1 hw ⟨c,y,R,Q,⟨U,O,up,dn⟩,rfl⟩ jv;rw[Da]at hw;obtain⟨o,x,rfl⟩:=IR.mp hw;obtain⟨K,OV⟩:=Fh.mp x;have gi:C.getD i []=o:=by rw[AC,x];rfl
   obtain⟨mp,ip,lp⟩:=Z.all o (On x);have dp:=up i (BM _) K;rw[gi]at dp;have Wi:=U.ll;unfold Ho;refine ai (λq=>∃(n:Nat)(B:List Int),OR p o c n B/\q=e9 g p [some (wI B),some (.lst (y.map pW)),some (.int (d:Int)),some (wI A),some (wI a),some (wI o),some (.int (n:Int))]) (λN2 OW=>?_) ?_
   .fin2;exact⟨o,c,p,rfl,⟨I,sY,mp,by lia,by lia,U.m,by lia⟩,λn B t=>⟨rfl,OW _ ⟨n,B,t,rfl⟩⟩⟩
   rintro _ ⟨n,B,t,rfl⟩;obtain⟨k2,n1,OX⟩:=U.take I mp ip dp t;have l2:=k2.ll;rw[Fm,F2]at l2;fin2;refine⟨ak (by simp),pQ (by rw[AN];lia),?_⟩;have key:=jv _ ⟨B,y++[(o,n)],some (wI o),some (.int (n:Int)),⟨k2,OX.trans O,λj Y H=>?_,λj Y H=>?_⟩,rfl⟩
   .rw[QP]at key;exact key
   .have J:C.getD j []=C[j]:=by rw[AC,B1 H];rfl
    rw[J];obtain⟨mj,ij,_⟩:=Z.all _ (L9 H);have old:=up j (by lia) H;rw[J]at old;refine OT I mj ij mp ip ?_ old t;rw[<-OV];exact WA.mp Z.pw i j K H (by lia)
   .by_cases e:j=i
    .rw[e,gi];exact t.no
    .exact λz=>dn j (by lia) H (z.trans OX)
  .rintro _ ⟨c,y,R,Q,⟨U,O,up,dn⟩,rfl⟩;rw[AN]at dn;refine b6 _ ⟨c,y,_,_,⟨U,O,λP M T da=>?_⟩,rfl⟩;rw[Z.pr]at da;obtain⟨l,hl,Vz⟩:=w6 I M da;obtain⟨j,J,rfl⟩:=T2 hl;have gj:C.getD j []=C[j]:=by rw[AC,B1 J];rfl
   have no:=dn j J J;rw[gj]at no;exact no ((BY I M (Z.all _ hl).2.1 Vz).trans T)
 rintro _ ⟨c,y,R,Q,⟨U,O,no⟩,rfl⟩;fin2;rw[show((d:Nat):Int)+1=((d+1:Nat):Int) by lia];refine hN c A y _ _ _ ⟨U,λP M T m m1 md=>?_,by lia,rh,by lia,mk_eq.mpr ?_⟩
 .by_cases e:m=d
  .rw[e];exact λdx=>no P M T (conv P M (T.trans O) dx)
  .exact w.h P M (T.trans O) m m1 (by lia)
 .rw[Kj];exact O.trans (mk_eq.mp eh)
theorem mY{G:Nat->W}{m:Md}(ws:List W)(Q:W->Prop)(R:Addr->Prop)(h:fO ws Q R):wSs (bw [dh,bV,cN,cg 10,fN,i6]) G ee (aX m Q R) (aq 9 ws):=by
 obtain⟨g,p,rfl,⟨t,sY,mr,lr⟩,hq⟩:=h;show wSs _ _ ee _ (e9 g p [none,none,none,none,none,none,none]);unfold ee;have n0:=mr.n0;refine ai (λi=>i=e9 g p [some (wI g),none,none,none,none,none,none]) (λN j=>?_) ?_
 .have j:=j _ rfl;unfold e9 wI at j⊢;fin2;exact j
 rintro _ rfl;refine ai (λi=>i=e9 g p [some (wI g),some (.lst []),none,none,none,none,none]) (λN j=>?_) ?_
 .fin2;exact⟨ak (by simp),j _ rfl⟩
 rintro _ rfl;refine ai (λi=>i=e9 g p [some (wI g),some (.lst []),some (.int ((1:Nat):Int)),none,none,none,none]) (λN j=>?_) ?_
 .fin2;exact j _ rfl
 rintro _ rfl;refine ai (λi=>i=e9 g p [some (wI g),some (.lst []),some (.int ((1:Nat):Int)),some (wI [0,1]),none,none,none]) (λN j=>?_) ?_
 .fin2;exact⟨ak (by simp),j _ rfl⟩
 rintro _ rfl;have start:Wd p g g [0,1] [] 1:=⟨⟨mr,BM _,λx q=>(by cases q),.nil,by show _=(1:F p)*_;grind,λx q=>(by cases q)⟩,λP _ _ m a b=>by lia,BM _,gx t 1,by decide,by show Qt.mk _ (X:F p)=Qt.mk _ ((X:F p)^(p^0));rw[Ik,show(X:F p)^1=X by rw[aA,D2];grind]⟩;refine ai (λi=>∃(f K:List Int)(L:List (List Int×Nat))(d:Nat)(U T H E D:Option W),(Wd p g f K L d/\f.length<=2*d)/\i=e9 g p [some (wI f),some (.lst (L.map pW)),U,T,H,E,D]) (λN j=>?_) ?_
 .refine d9 (α:=(List Int×List Int×List (List Int×Nat)×Nat)×Option W×Option W×Option W) (λs=>e9 g p [some (wI s.1.1),some (.lst (s.1.2.2.1.map pW)),some (.int (s.1.2.2.2:Nat)),some (wI s.1.2.1),s.2.1,s.2.2.1,s.2.2.2]) (λs=>Wd p g s.1.1 s.1.2.1 s.1.2.2.1 s.1.2.2.2/\s.1.2.2.2<=51) (λs=>60 -s.1.2.2.2) ((g,[0,1],[],1),none,none,none) rfl ⟨start,by show 1<=51;decide⟩ ?_;rintro⟨⟨f,K,L,d⟩,H,E,D⟩ ⟨w,VC⟩;dsimp only at w VC⊢;have ll:=w.k.ll;unfold e9 wI;fin2;rw[AN];refine⟨cy (n:=2) (m:=10) (by decide) (by show d<1024;lia) (by decide),?_⟩;refine bI (λJ=>?_) (λJ=>?_)
  .have big:=Bn J;exact OU t sY lr w (by lia) λv Z L' a b c B=>⟨((v,Z,L',d+1),a,b,c),rfl,⟨B,by show d+1<=51;have:=B.k.ll;lia⟩,by show 60 -(d+1)<60 -d;lia⟩
  .have sm:¬(2*(d:Int)<(f.length:Int)):=λz=>by rw[DL z]at J;cases J
   exact j _ ⟨f,K,L,d,_,_,_,_,_,⟨w,by lia⟩,rfl⟩
 rintro _ ⟨f,K,L,d,U,T,H,E,D,⟨w,O⟩,rfl⟩;have k:=w.k;have ll:=k.ll;have l0:=k.m.n0;have d1:=w.d1;refine ai (λi=>∃(L:List (List Int×Nat))(o2:Option W),PO p g L/\i=e9 g p [o2,some (.lst (L.map pW)),U,T,H,E,D]) (λN j=>?_) ?_
 .by_cases l1:1<f.length
  .have Lr:Alg.cJ (fL p f):=by
    have ld:=aM k.m.r;obtain⟨P,A,M,e⟩:=gg t _ (fL p f) (BM _) (by rw[ld];lia);have C:∀P:F p,Alg.cJ P->Dd P (fL p f)->d+1<=dg P:=λP A dP=>by obtain⟨e,S⟩:=G9 t A;have:=S.dg t A;have:¬e<d:=λz=>w.h P A dP e S.d1 z S.yes;lia
    have Y:M≠0:=λz=>k.m.Lu (by rw[e,z];grind);have lm:=bD t A.ne Y;rw[<-e,ld]at lm;have:=C P A ⟨M,e⟩;have m1:dg M≠0:=λz=>Y (bC.mp z);refine Ls t A e k.m.Lu (FV λz=>?_);obtain⟨Q',VD,B,e'⟩:=gg t _ M (BM _) (by lia);have:=C Q' VD ⟨P*B,by rw[e,e'];grind⟩;have:=(show Dd Q' M from⟨B,e'⟩).len t Y;lia
   have u:PO p g (L++[(f,1)]):=by
    refine⟨λx q=>?_,?_,?_,by rw[Fm,F2];lia⟩
    .rcases Gc.mp q with q|q
     .exact k.all x q
     .rw[Ee.mp q];exact⟨k.m,Lr,BM _⟩
    .refine XD.mpr ⟨k.pw,X0 _ _,λx q y hy e=>?_⟩;rw[Ee.mp hy]at e;exact k.no x q ⟨1,by rw[e];grind⟩
    .rw[j8,k.pr];show _=_*fL p f^1;rw[aA,D2];grind
   have o:=j _ ⟨L++[(f,1)],some (wI f),u,rfl⟩;rw[QP]at o;unfold e9 wI at o⊢;fin2;rw[AN,Bz (DL (by lia))];exact⟨ak (by simp),pQ (by rw[AN];lia),o⟩
  .have e:f=[1]:=by obtain⟨x,rfl⟩:=WK.mp (show f.length=1 by lia);have:=k.m.one;have this:x=1:=this;rw[this]
   have o:=j _ ⟨L,some (wI f),⟨k.all,k.pw,by rw[k.pr,e,fM];grind,by lia⟩,rfl⟩;unfold e9 wI at o⊢;fin2;rw[AN,Bi (by rw[FS];lia)];exact o
 rintro _ ⟨L,o2,u,rfl⟩;fin2;refine⟨L,rfl,by have:=u.len;lia,λL' I so=>hq L' ⟨λx q=>u.all x (I.mem_iff.mp q),?_,?_,by rw[I.length_eq];exact u.len⟩ so⟩
 .exact(I.pairwise_iff λ{a b} h e=>h e.symm).mpr u.pw
 .rw[u.pr];clear so u
  induction I with
  |nil=>rfl
  |cons x _ ih=>show _*_=_*_;rw[ih]
  |swap x y l=>show fL p x.1^x.2*(fL p y.1^y.2*gZ p l)=fL p y.1^y.2*(fL p x.1^x.2*gZ p l);grind
  |trans _ _ a b=>exact b.trans a
end VL
namespace VL
open PySem PySem.Spec
open PyProof.Rows hiding St
open L2
theorem qh:∀(a b:List Int),HT.lexLt a b=true↔a<b
 |[],[]=>by simp[HT.lexLt]
 |[],_::_=>by simp[HT.lexLt]
 |_::_,[]=>by simp[HT.lexLt]
 |x::d,y::c=>by
  rw[HT.gK,W1];by_cases e:x=y
  .rw[Bz e,qh d c];constructor
   .exact λh=>.inr ⟨e,h⟩
   .rintro(h|⟨_,h⟩)
    .omega
    .exact h
  .rw[Bi e,FS];constructor
   .exact .inl
   .rintro(h|⟨h,_⟩)
    .exact h
    .exact(e h).elim
theorem uO:∀a:List Int,¬a<a
 |[],h=>by simp at h
 |x::b,h=>by
  rw[W1]at h;rcases h with h|⟨_,h⟩
  .omega
  .exact uO b h
theorem B0:∀a b:List Int,a<b\/a=b\/b<a
 |[],[]=>.inr (.inl rfl)
 |[],_::_=>.inl (by simp)
 |_::_,[]=>.inr (.inr (by simp))
 |x::d,y::c=>by
  rw[W1,W1];rcases B0 d c with h|h|h
  .by_cases e:x=y
   .exact .inl (.inr ⟨e,h⟩)
   .by_cases l:x<y
    .exact .inl (.inl l)
    .exact .inr (.inr (.inl (by omega)))
  .by_cases e:x=y
   .exact .inr (.inl (by rw[e,h]))
   .by_cases l:x<y
    .exact .inl (.inl l)
    .exact .inr (.inr (.inl (by omega)))
  .by_cases e:x=y
   .exact .inr (.inr (.inr ⟨e.symm,h⟩))
   .by_cases l:x<y
    .exact .inl (.inl l)
    .exact .inr (.inr (.inl (by omega)))
theorem Hq:∀{a b c:List Int},a<b->b<c->a<c
 |[],_,[],_,h=>by simp at h
 |[],_,_::_,_,_=>by simp
 |_::_,[],_,h,_=>by simp at h
 |_::_,_::_,[],_,h=>by simp at h
 |x::i,y::g,z::f,h,k=>by
  rw[W1]at h k⊢;rcases h with h|⟨e,h⟩
  .rcases k with k|⟨d,k⟩
   .exact .inl (by omega)
   .exact .inl (by omega)
  .rcases k with k|⟨d,k⟩
   .exact .inl (by omega)
   .exact .inr ⟨by omega,Hq h k⟩
abbrev K3:=Int×List Int×Int
theorem l7(x y:K3):fq x y=true↔x.1<y.1\/(x.1=y.1/\(x.2.1<y.2.1\/(x.2.1=y.2.1/\x.2.2<y.2.2))):=by
 unfold fq;by_cases e:x.1=y.1
 .rw[Bz e];by_cases f:x.2.1=y.2.1
  .rw[Bz f,FS];constructor
   .exact λh=>.inr ⟨e,.inr ⟨f,h⟩⟩
   .rintro(h|⟨_,h|⟨_,h⟩⟩)
    .omega
    .rw[f]at h;exact(uO _ h).elim
    .exact h
  .rw[Bi f,qh];constructor
   .exact λh=>.inr ⟨e,.inl h⟩
   .rintro(h|⟨_,h|⟨h,_⟩⟩)
    .omega
    .exact h
    .exact(f h).elim
 .rw[Bi e,FS];constructor
  .exact .inl
  .rintro(h|⟨h,_⟩)
   .exact h
   .exact(e h).elim
theorem Lw(x:K3):fq x x≠true:=λh=>by
 rcases(l7 _ _).mp h with h|⟨_,h|⟨_,h⟩⟩
 .omega
 .exact uO _ h
 .omega
theorem Hr{x y z:K3}(h:fq x y=true)(k:fq y z=true):fq x z=true:=by
 rw[l7]at h k⊢;rcases h with h|⟨e,h⟩
 .rcases k with k|⟨b,k⟩
  .exact .inl (by omega)
  .exact .inl (by omega)
 .rcases k with k|⟨b,k⟩
  .exact .inl (by omega)
  .refine .inr ⟨by omega,?_⟩;rcases h with h|⟨f,h⟩
   .rcases k with k|⟨a,k⟩
    .exact .inl (Hq h k)
    .rw[<-a];exact .inl h
   .rcases k with k|⟨a,k⟩
    .rw[f];exact .inl k
    .exact .inr ⟨f.trans a,by omega⟩
theorem B3(x y:K3):fq x y=true\/x=y\/fq y x=true:=by
 rw[l7,l7];by_cases e:x.1=y.1
 .rcases B0 x.2.1 y.2.1 with h|h|h
  .exact .inl (.inr ⟨e,.inl h⟩)
  .by_cases f:x.2.2=y.2.2
   .obtain⟨a,b,c⟩:=x;obtain⟨i,g,d⟩:=y;simp only at e h f;exact .inr (.inl (by rw[e,h,f]))
   .by_cases l:x.2.2<y.2.2
    .exact .inl (.inr ⟨e,.inr ⟨h,l⟩⟩)
    .exact .inr (.inr (.inr ⟨e.symm,.inr ⟨h.symm,by omega⟩⟩))
  .exact .inr (.inr (.inr ⟨e.symm,.inl h⟩))
 .by_cases l:x.1<y.1
  .exact .inl (.inl l)
  .exact .inr (.inr (.inl (by omega)))
noncomputable def Mf(a:List K3)(i:Nat):Nat:=(a.filter λy=>fq y (a.getD i (0,[],0))).length
theorem Ht(a:List K3){i j:Nat}(d:i<a.length)(f:j<a.length):decide (Mf a i<Mf a j)=fq (a.getD i (0,[],0)) (a.getD j (0,[],0)):=by
 have b:∀p q:K3->Bool,(∀y,p y=true->q y=true)->(a.filter p)=(a.filter q).filter p:=λp q h=>by
  rw[List.filter_filter];congr 1;funext y;have:=h y;cases e:p y
  .simp
  .simp[this e]
 cases c:fq (a.getD i (0,[],0)) (a.getD j (0,[],0))with
 |true=>refine DL ?_;unfold Mf;rw[b (λy=>fq y (a.getD i (0,[],0))) (λy=>fq y (a.getD j (0,[],0))) λy h=>Hr h c];refine List.length_filter_lt_length_iff_exists.mpr ⟨a.getD i (0,[],0),Re.mpr ⟨?_,c⟩,Lw _⟩;rw[AC,B1 d];exact L9 d
 |false=>
  refine Jn (Nat.not_lt.mpr ?_);unfold Mf;rw[b (λy=>fq y (a.getD j (0,[],0))) (λy=>fq y (a.getD i (0,[],0))) λy h=>?_]
  .exact List.length_filter_le _ _
  .rcases B3 (a.getD i (0,[],0)) (a.getD j (0,[],0))with z|z|z
   .rw[c]at z;cases z
   .rw[z];exact h
   .exact Hr h z
noncomputable def jB(x:List Int×Nat):K3:=(x.1.length,x.1.reverse,x.2)
theorem OY{x y:List Int×Nat}(h:fq (jB y) (jB x)≠true):Fd x y:=by
 have n:∀a b:List Int,a.reverse=b.reverse->a=b:=λa b e=>by rw[<-XC a,e,XC]
 rcases B3 (jB x) (jB y)with z|z|z
 .rcases(l7 _ _).mp z with z|⟨e,z|⟨f,z⟩⟩
  .exact .inl (XT.mp z)
  .exact .inr ⟨OI.mp e,.inl z⟩
  .exact .inr ⟨OI.mp e,.inr ⟨n _ _ f,X5 (XT.mp z)⟩⟩
 .have g:(x.1.length:Int)=y.1.length:=Fs (·.1) z;have d:x.1.reverse=y.1.reverse:=Fs (·.2.1) z;have c:(x.2:Int)=y.2:=Fs (·.2.2) z;exact .inr ⟨OI.mp g,.inr ⟨n _ _ d,W8 (OI.mp c)⟩⟩
 .exact(h z).elim
theorem Fe{α:Type}(L:List α)(d:α){p:Array Nat}(a:kB L.length p):(p.toList.map λi=>L.getD i d).Perm L:=by
 have h:=Xi (λi=>L.getD i d) a;have e:(Ea L.length).map (λi=>L.getD i d)=L:=by
  apply List.ext_getElem
  .rw[AN,GT]
  .intro i c b;rw[List.getElem_map,OD,AC,B1 b];rfl
 rw[e]at h;exact h
theorem yQ(L:List (List Int×Nat)){p:Array Nat}(b:kB L.length p)(m:qC (Mf (L.map jB)) p L.length):(p.toList.map λi=>L.getD i ([],0)).Pairwise Fd:=by
 rw[W3,WA];intro i j d c l;rw[HL,b.sz]at d c;have g:∀k (a:k<L.length),p.toList[k]'(by rw[HL,b.sz];exact a)=p.getD k 0:=λk a=>by
  have:k<p.size:=by rw[b.sz];exact a
  simp[XW,this]
 have e:∀k,k<L.length->(L.map jB).getD k (0,[],0)=jB (L.getD k ([],0)):=λk a=>by rw[AC,AC,Da,B1 a];rfl
 rw[g i d,g j c];have h:=b.lt d;have f:=b.lt c;refine OY λz=>?_;have n:=m i j (by omega) c;have:=Ht (L.map jB) (i:=p.getD j 0) (j:=p.getD i 0) (by rw[AN];exact f) (by rw[AN];exact h);rw[e _ h,e _ f,z,FS]at this;omega
noncomputable def l9:aT:=λa Q _=>∃x:List Int×Nat,a=[pW x]/\Q (.tup [.int (x.1.length:Nat),.lst (x.1.reverse.map W.int),.int (x.2:Nat)])
noncomputable def uP(H:Hp)(k:Value)(x:K3):Prop:=∃t q,k=.ref t/\H t=some (.tup [.int x.1,.ref q,.int x.2.2])/\Rd H q (.lst (x.2.1.map V.int))
theorem uP.same{H H':Hp}{k:Value}{x:K3}(s:au H H')(h:uP H k x):uP H' k x:=by obtain⟨t,q,e,b,a⟩:=h;exact⟨t,q,e,s _ _ b,VL.au.rd s a⟩
theorem xh{α c:Type}{F:α->c->Prop}{a:α}{b:c}(h:F a b):∀{l:List α}{m:List c},Paired F l m->Paired F (l++[a]) (m++[b])
 |_,_,.nil=>.cons h .nil
 |_,_,.cons r t=>.cons r (xh h t)
section
variable{X:Cx}{pins:List (Addr×Obj)}{σ:St}{H:Hp}{s:Shared}
theorem uP.at{k:Value}{x:K3}(I:Inv X pins σ H s)(h:uP H k x):iE s.heap k x:=by
 obtain⟨t,q,rfl,v,p⟩:=h;obtain⟨m,r,⟨o,g,c,n,d⟩,_⟩:=I.tuple (.inl (.inl v));obtain⟨a,j,⟨o2,l,w,z,_,y⟩,_⟩:=I.list (.inl p);cases r with
 |cons i r=>
 cases r with
 |cons f r=>
 cases r with
 |cons e r=>
 cases r;obtain⟨u,rfl⟩:=i;obtain⟨b,rfl⟩:=e;cases f;exact⟨t,o,n,u,b,q,a.toArray,rfl,g,c,d,⟨o2,w,z,l,y⟩,intsAre_of j⟩
theorem OZ{k:Nat}{f:Addr}{fd:FuncData}{T:List Str}{B:Addr->Prop}{L:List (List Int×Nat)}{v:V}{u:Value}{Q:VK}{E:Value->Shared->Prop}
 (F:bO X.prog X.w X.K X.mg X.base (jb X.prog X.w) k f fd T (vS X.K 1 .s l9))(hb:Binds X.K fd T [])(hp:T.length=1)(hr:bY (k+2) X.A)(I:Inv X pins σ H s)(d:Dom B H)(r:RelV v u)(h:Rep X.K B H (.lst (L.map pW)) v)(hl:L.length<=60)
 (q:∀(L':List (List Int×Nat)) v' H',L'.Perm L->L'.Pairwise Fd->au H H'->Rep X.K B H' (.lst (L'.map pW)) v'->Q v' H'):
 wpAny (model X.prog X.w) X.A (call (.builtin "sorted") [u] [(Str.ofString "key",.ref f)]) (EP X pins σ Q) E s:=by
 obtain⟨a,c,rfl,na,ra,rl⟩:=h;cases r;obtain⟨vs,rv,⟨o2,n2,g2,c2,_,d2⟩,_⟩:=I.list (.inl ra);have ln:vs.length=L.length:=by rw[<-rv.length,rl.len,AN]
 have lx:c.length=L.length:=by rw[rl.len,AN]
 have hu:X.A.in1.in1.units<cLine:=by have:=hr.un;show X.A.units+1+1<_;omega
 have y:∀i n,c[i]?=some n->∃x,L[i]?=some x/\Rep X.K B H (pW x) n:=λi n e=>by
  have m:i<L.length:=by rw[<-lx];exact(Fh.mp e).1
  obtain⟨v1,R,Z⟩:=rl.get (show(L.map pW)[i]?=some (pW L[i]) by rw[Da,B1 m];rfl);rw[e]at R;cases R;exact⟨L[i],B1 m,Z⟩
 refine Dy (κ:=tuples' true) (KP:=λO g=>au H g/\Paired (uP g) O ((L.take O.length).map jB)) I ⟨o2,g2,c2,n2,d2⟩ rv (by omega) (ksk_s1 _ _) (λx=>ksk_l1 _ _) (λx=>ksk_t1 f x) ⟨au.refl H,.nil⟩ ?_ ?_
 .rintro i n O g S nF e m I1 ⟨sm,N⟩;have hi2:i<L.length:=by rw[<-ln];exact(Fh.mp e).1
  have ex:c[i]?=some c[i]:=B1 (by omega);obtain⟨v1,R,r1⟩:=rv.get ex;rw[e]at R;cases R;obtain⟨x,hx,rx⟩:=y i _ ex;have dm:Dom B g:=d.same sm;have sp:vS X.K 1 .s l9 ([c[i]]++[]) g (λv H'=>au g H'/\∃t,v=.ref t/\uP H' (.ref t) (jB x)) E0:=by refine⟨B,[pW x],λw=>w=.tup [.int (x.1.length:Nat),.lst (x.1.reverse.map W.int),.int (x.2:Nat)],λ_=>False,rfl,⟨_,[],rfl,rx.same sm,rfl⟩,dm,⟨x,rfl,rfl⟩,λw v H' pw s' rm=>⟨s',?_⟩,λC H' z=>z.elim⟩;subst pw;obtain⟨p,vs',rfl,Z,h2⟩:=rm.rep dm;obtain⟨a1,a2,a3,rfl,b1,b2,b3⟩:=EZ h2;have b1:a1=.int (x.1.length:Nat):=b1;have b3:a3=.int (x.2:Nat):=b3;obtain⟨p',UJ,rfl,_,h3,h4⟩:=b2;rw[kY h4]at h3;rw[b1,b3]at Z;exact⟨p,rfl,p,p',rfl,Z,h3⟩
  have P:([n]++([]:List Value)).length=T.length:=hp.symm;refine wpAny_call (Wv (F.run X.A.in1.in1 X.stack S g ⟨[n],[]⟩ ([n]++[]) ([c[i]]++[]) _ E0 hr.in1.in1 I1.IA.in1.in1 (hb S [n] I1.kg P) (.cons r1 .nil) sp) λr s' G=>?_);cases r with
  |error e=>obtain⟨_,_,_,_,_,z⟩:=G;exact z.elim
  |ok fl=>
   cases fl with
   |ret u=>obtain⟨v',H',I',rr,s2,t,rfl,kv⟩:=I1.after G;cases rr;refine⟨H',I',sm.trans s2,?_⟩;rw[Fm,F2,m,List.take_add_one,hx,QP];rw[m]at N;exact xh kv (Paired.CK N λ_ _ z=>z.same s2)
   |next=>exact Gx G
   |brk=>exact Gx G
   |cont=>exact Gx G
 .rintro O g ⟨sm,N⟩ hk;rw[hk,ln,V2]at N;refine⟨Mf (L.map jB),λnF S I1=>?_,λp D Y hU U=>?_⟩
  .have Tq:Paired (iE S.heap) O (L.map jB):=Paired.CK N λ_ _ z=>z.at I1;refine⟨λh2 Q' G=>Ac Tq (by omega) G,λi j C m hj hC=>Dz Tq (by omega) (by omega) hu ?_⟩;rw[<-Ht (L.map jB) (by rw[AN];omega) (by rw[AN];omega)];exact hC
  .rw[ln]at Y hU;refine q (p.toList.map λi=>L.getD i ([],0)) (.ref D) _ (Fe L _ Y) (yQ L Y hU) (λb o e=>?_) ⟨D,_,rfl,?_,.inl aQ,?_⟩
   .have J:=sm b o e;rw[ay (λz=>by rw[z,U]at J;cases J)];exact J
   .intro z;obtain⟨o,e⟩:=d D z;rw[sm D o e]at U;cases U
   .have Tr:au H (upd g D (.lst (p.toList.map λi=>c.getD i .aJ))):=λb o e=>by have J:=sm b o e;rw[ay (λz=>by rw[z,U]at J;cases J)];exact J
    have M:∀i∈p.toList,i<L.length:=λi m=>Kb.mp ((Sv Y).mp m);generalize upd g D _=H2 at Tr⊢;generalize p.toList=l at M⊢
    induction l with
    |nil=>rfl
    |cons i l ih=>
     have m:=M i (.head _);have ex:c[i]?=some c[i]:=B1 (by omega);obtain⟨x,hx,rx⟩:=y i _ ex;refine⟨c[i],_,?_,?_,ih λj hj=>M j (.tail _ hj)⟩
     .rw[P3,AC,ex];rfl
     .show Rep X.K B H2 (pW (L.getD i ([],0))) c[i];rw[AC,hx];exact rx.same Tr
end
noncomputable def RW(K:Frag):TE:=λd H Q=>∃(B:Addr->Prop)(L:List (List Int×Nat))(v:V),d[0]?=some (some v)/\Dom B H/\Rep K B H (.lst (L.map pW)) v/\L.length<=60/\
 ∀(a:List (List Int×Nat)) c b,a.Perm L->a.Pairwise Fd->au H b->Rep K B b (.lst (a.map pW)) c->Q c b
theorem Lx{X:Cx}{O p2 o n h:Pos}{x y:Str}{k:Nat}{f:Addr}{p:FuncData}{g:List Str}(F:bO X.prog X.w X.K X.mg X.base (jb X.prog X.w) k f p g (vS X.K 1 .s l9))(Z:Binds X.K p g [])(U:g.length=1)(T:bY (k+2) X.A)
 (hN:X.N[0]?=some x)(R:HM X.env.scope x)(C:(x==("__debug__":Str))=false)(z:(x==("__classdict__":Str))=false)(S:Gl X "sorted")(i:X.mg "sorted"=none)(P:Gl X y)(RX:X.mg y=some (.ref f))(t:(y==("__debug__":Str))=false):
 PE X (.Call (.Name "sorted" O) [.Name x p2] [⟨some "key",.Name y o,n⟩] h) (RW X.K):=by
 rintro a s m H Q I ⟨B,L,v,e,d,G,Y,q⟩;refine W5 (dj (u:=.builtin "sorted") I S i rfl ?_);refine XX ?_;have l:PA X [.Name x p2] (qQ (mG 0) zJ):=bg (zu hN R C z) cG;have j:PK X [⟨some "key",.Name y o,n⟩] (qQ (tC (.ref f)) zJ):=C4 (vn (v:=.ref f) P RX rfl t) IC;refine bq (l h a s m H (λb c=>b=[v]/\c=H) I ⟨v,e,rfl,rfl⟩) λus D ⟨b,c,I1,M,e1,e2⟩=>?_;subst e1 e2;refine bq (j h a D m c (λb r=>b=[.ref f]/\r=c) I1 ⟨rfl,rfl⟩) λws s2 ⟨zs,r,I2,J,e3,e4⟩=>?_;subst e3 e4;obtain⟨u,rfl,E⟩:=Vals.one M;obtain⟨u2,rfl,VF⟩:=Vals.one J;cases VF;exact OZ F Z U T I2 d E G Y q
theorem yR{P:Program}{w:World}{K:Frag}{j:Str->Option Value}{base:Heap}{D x y e:Str}{st:Stmt}{f g:Addr}{u t:FuncData}{N m l:List Str}{k:Nat}{U p2 T S O M:Pos}(Fu:CC K D e st f u)(Sc:fj N m (ao st))
 (i:aY st=[.Return (some (.Call (.Name "sorted" U) [.Name x p2] [⟨some "key",.Name y T,S⟩] O)) M])
 (F:bO P w K j base (jb P w) k g t l (vS K 1 .s l9))(hb:Binds K t l [])(hp:l.length=1)(o:m.length=1)
 (hN:N[0]?=some x)(Z:HM (ao st) x)(C:(x==("__debug__":Str))=false)(B:(x==("__classdict__":Str))=false)(hs:(ao st).names.lookup ("sorted":Str)=some .globalImplicit)(n:j "sorted"=none)
 (Y:(ao st).names.lookup y=some .globalImplicit)(RX:j y=some (.ref g))(z:(y==("__debug__":Str))=false):bO P w K j base (jb P w) (k+2+1) f u m (vS K 1 .s i6):=by
 refine CC.Sz Fu Sc (by rintro I H Q E ⟨A,G,P,R,r,p,_⟩;rw[p.len,r,o]) λq A h s H I Q E hr hz=>?_;obtain⟨A0,G,P0,R,r,p,h3,⟨L,rfl,hl,hq⟩,h5,h6⟩:=hz;obtain⟨v,rfl,rv⟩:=Ow p;rw[i];refine⟨_,vo (oj (Lx (X:=gO P w K j base N e (ao st) f q A h s H E) F hb hp hr hN Z C B hs n Y RX z)),A0,L,v,rfl,h3,rv,hl,λL' J H' a b c d=>?_⟩;exact h5 _ J H' (hq L' a b) c (.of d)
noncomputable def RY(P:Program)(w:World)(K:Frag)(a:Str->Option Value)(base:Heap)(k:Nat):List Str->List Md->List aT->Prop
 |x::fn,m::e,S::Ss=>(∃d n c,a x=some d/\cT P w K a base c d n (ue K n m S)/\c<=k/\∀b P R,S b P R->b.length=n)/\RY P w K a base k fn e Ss
 |[],_,_=>True
 |_,_,_=>False
theorem B4{P:Program}{w:World}{K:Frag}{b:Str->Option Value}{base:Heap}{k:Nat}:∀{fn:List Str}{a:List Md}{Ss:List aT},RY P w K b base k fn a Ss->∀(j:Nat)(x:Str),fn[j]?=some x->∃f n d,b x=some f/\cT P w K b base d f n (ue K n (lz a j) (bw Ss j))/\d<=k/\∀c P R,bw Ss j c P R->c.length=n
 |y::fn,m::a,S::Ss,h,0,x,e=>by
  cases e;exact h.1
 |y::fn,m::a,S::Ss,h,j+1,x,e=>B4 (fn:=fn) h.2 j x e
 |[],_,_,_,j,x,e=>by cases e
 |_::_,[],_,h,_,_,_=>h.elim
 |_::_,_::_,[],h,_,_,_=>h.elim
noncomputable def qi(st:Stmt):List Str:=(bS st).args.map (·.arg)
noncomputable def RZ:NameKind->Bool
 |.local=>true
 |.cell=>true
 |_=>false
noncomputable def Mg(st:Stmt):List Str:=((ao st).names.filter λy=>RZ y.2).map (·.1)
abbrev DT:=List (Str×Nat)
noncomputable def B5(DD:DT)(j:Nat):Str:=match DD[j]? with
 |some y=>y.1
 |none=>""
noncomputable def Ff(K:Frag)(a:Nat->Stmt):DT->Prop
 |[]=>True
 |(x,i)::l=>(Hd K x (a i)/\gr x x (a i) (qi (a i)))/\Ff K a l
noncomputable def Fg(K:Frag):List Str->Prop
 |[]=>True
 |x::l=>nsIn K mainGlobals x=some none/\Fg K l
structure TT(K:Frag)(mg:Str->Option Value)(tp:Nat->Stmt)(DD:DT)(ZZ:List Str)where
 f:Nat->Addr
 d:Nat->FuncData
 D:∀{j:Nat}{x:Str}{i:Nat},DD[j]?=some (x,i)->Df K mg x (tp i) (qi (tp i)) (f j) (d j)
 Z:∀x∈ZZ,mg x=none
section
variable{P:Program}{w:World}{K:Frag}{mg:Str->Option Value}{base:Heap}{tp:Nat->Stmt}{DD:DT}{ZZ:List Str}
theorem xj{h:Heap}(X:K.In h)(G:h.Ns mainGlobals mg):∀{DD:DT}{j:Nat}{x:Str}{i:Nat},Ff K tp DD->DD[j]?=some (x,i)->∃f a,Df K mg x (tp i) (qi (tp i)) f a
 |(y,n)::DD,0,x,i,h,e=>by
  cases e;exact OA X G h.1.1 h.1.2
 |(y,n)::DD,j+1,x,i,h,e=>xj X G (DD:=DD) h.2 e
theorem xm{h:Heap}(X:K.In h)(G:h.Ns mainGlobals mg):∀{ZZ:List Str},Fg K ZZ->∀x∈ZZ,mg x=none
 |y::ZZ,h,x,a=>by
  rcases GE.mp a with e|a
  .rw[e];exact PySem.W.mg_none_of X G h.1
  .exact xm X G h.2 x a
open Classical in
theorem O2{h:Heap}(X:K.In h)(G:h.Ns mainGlobals mg)(a:Ff K tp DD)(z:Fg K ZZ):Nonempty (TT K mg tp DD ZZ):=by
 have H:∀j:Nat,∃f b,∀x i,DD[j]?=some (x,i)->Df K mg x (tp i) (qi (tp i)) f b:=λj=>by
  cases e:DD[j]? with
  |none=>exact⟨0,fnOf "" "" (bS (tp 0)) (aY (tp 0)) (ao (tp 0)) .none .none .none .none none .none .none,λx i q=>nn q⟩
  |some y=>obtain⟨f,b,D⟩:=xj X G a e;exact⟨f,b,λx i q=>by cases q;exact D⟩
 exact⟨⟨λj=>choose (H j),λj=>choose (choose_spec (H j)),λ{j x i} e=>choose_spec (choose_spec (H j)) x i e,xm X G z⟩⟩
noncomputable def Cl(P:Program)(w:World)(K:Frag)(mg:Str->Option Value)(base:Heap)(DD:DT)(k j:Nat)(m:Md)(S:aT):Prop:=∃c n b,mg (B5 DD j)=some c/\cT P w K mg base b c n (ue K n m S)/\b<=k/\∀a P R,S a P R->a.length=n
noncomputable def yS(P:Program)(w:World)(K:Frag)(mg:Str->Option Value)(base:Heap)(DD:DT):List (Nat×Md×Nat)->List aT->Prop
 |(j,m,k)::gS,S::Ss=>Cl P w K mg base DD k j m S/\yS P w K mg base DD gS Ss
 |[],_=>True
 |_::_,[]=>False
theorem xo{k:Nat}:∀{a:List (Nat×Md×Nat)}{Ss:List aT},yS P w K mg base DD a Ss->a.all (λy=>decide (y.2.2<=k))=true->RY P w K mg base k (a.map λy=>B5 DD y.1) (a.map (·.2.1)) Ss
 |(j,m,k')::a,S::Ss,h,hk=>by rw[Gg,Ap]at hk;obtain⟨f,n,k2,e,d,c,b⟩:=h.1;exact⟨⟨f,n,k2,e,d,Hn c (Bn hk.1),b⟩,xo h.2 hk.2⟩
 |[],_,_,_=>trivial
 |_::_,[],h,_=>h.elim
noncomputable def Gn(K:Frag)(mg:Str->Option Value)(x:Str)(u:W):Prop:=(∃v z,mg x=some v/\RelV z v/\∀B H,Rep K B H u z)/\∀C,u=.cls C->Q0 K C
noncomputable def O3(K:Frag)(mg:Str->Option Value):List Str->List W->Prop
 |x::gn,u::Gs=>Gn K mg x u/\O3 K mg gn Gs
 |[],_=>True
 |_::_,[]=>False
theorem uQ:∀{gn:List Str}{Gs:List W},O3 K mg gn Gs->∀(j:Nat)(x:Str),gn[j]?=some x->Gn K mg x (qG Gs j)
 |y::gn,u::Gs,h,0,x,e=>by
  cases e;exact h.1
 |y::gn,u::Gs,h,j+1,x,e=>uQ (gn:=gn) h.2 j x e
 |_::_,[],h,_,_,_=>h.elim
 |[],_,_,_,_,e=>by cases e
theorem O4{k:Nat}{a:List (Nat×Md×Nat)}{Ss:List aT}{gn:List Str}{Gs:List W}(T:TT K mg tp DD ZZ)(h:yS P w K mg base DD a Ss)(b:a.all (λy=>decide (y.2.2<=k))=true)(g:O3 K mg gn Gs):Tab P w K mg base (a.map λy=>B5 DD y.1) gn ZZ (a.map (·.2.1)) [] (bw Ss) (qG Gs) k:=
 ⟨λj x e _=>B4 (xo h b) j x e,λ_ _ _ _ h=>(by cases h),λj x e=>(uQ g j x e).1,T.Z,Lc K,λj x C e q=>(uQ g j x e).2 C q⟩
noncomputable def Fi(ZZ:List Str)(st:Stmt)(a n:Nat)(M:Ms)(fn gn:List Str)(b:List Md)(d:List (Nat×Nat))(m:Md)(c:List CS):Bool:=
 decide (((ao st).kind=.function/\(ao st).isCoroutine=false/\(ao st).isGenerator=false/\(Mg st).Nodup/\(Mg st).take (qi st).length=qi st)/\(∀x∈qi st,(ao st).names.lookup x=some .local\/(ao st).names.lookup x=some .cell)/\(∀y∈(ao st).names,y.2≠.free)/\(qi st).length=a/\(Mg st).length=n/\(M.map (·.1)).Nodup)&&(M.all (λi=>decide (a<=i.1))&&!fu m&&eT ⟨Mg st,(ao st).names,M,fn,gn,ZZ,b,d⟩ (lz b) m c (aY st))
theorem R1{e n j i:Nat}{x:Str}{M:Ms}{fn gn:List Str}{o:List Md}{l:List (Nat×Nat)}{m:Md}{c:List CS}{h:Nat->aT}{G:Nat->W}{k:Nat}{S:aT}(T:TT K mg tp DD ZZ)(s:DD[j]?=some (x,i))(g:Fi ZZ (tp i) e n M fn gn o l m c=true)(q:Tab P w K mg base fn gn ZZ o l h G k)(r:∀a P R,S a P R->a.length=e)(p:∀a Q R,S a Q R->wSs h G c (aX m Q R) (aq n a)):
 bO P w K mg base (jb P w) (k+1) (T.f j) (T.d j) (qi (tp i)) (ue K e m S):=by
 unfold Fi at g;rw[Ap,Ap,Ap]at g;obtain⟨y,⟨v,u⟩,t⟩:=g;obtain⟨⟨J,a2,a3,I,H⟩,E,C,A,z,B⟩:=Bn y;have b:fu m=false:=by simpa using u
 subst A z;have:=Lb (T.D s).F ⟨J,a2,a3,I,H,E,C⟩ q c M m S v B b t r p;cases m<;>first|exact this|cases b
theorem B6{a j i k:Nat}{x:Str}{m:Md}{S:aT}(T:TT K mg tp DD ZZ)(c:DD[j]?=some (x,i))(g:a=(qi (tp i)).length)(F:bO P w K mg base (jb P w) k (T.f j) (T.d j) (qi (tp i)) (ue K a m S))(h:∀b P R,S b P R->b.length=a):Cl P w K mg base DD k j m S:=by
 have e:B5 DD j=x:=by unfold B5;rw[c]
 unfold Cl;rw[e];exact(T.D c).gS F g h (BM k)
theorem B7{a n:Nat}{st:Stmt}{M:Ms}{fn gn:List Str}{d:List Md}{b:List (Nat×Nat)}{m:Md}{c:List CS}(h:Fi ZZ st a n M fn gn d b m c=true):a=(qi st).length:=by unfold Fi at h;rw[Ap]at h;exact(Bn h.1).2.2.2.1.symm
theorem Ly{n j i:Nat}{x:Str}{Gs:List W}{m:Md}{c:List CS}{Ss:List aT}{k:Nat}{S:aT}(T:TT K mg tp DD ZZ)(q:DD[j]?=some (x,i))(e:Nat)(M:Ms)(b:List (Nat×Md×Nat))(gn:List Str)(p:∀a Q R,S a Q R->wSs (bw Ss) (qG Gs) c (aX m Q R) (aq n a))(h:yS P w K mg base DD b Ss)(g:O3 K mg gn Gs)(l:(b.all (λy=>decide (y.2.2<=k))&&Fi ZZ (tp i) e n M (b.map λy=>B5 DD y.1) gn (b.map (·.2.1)) [] m c)=true)(o:∀a P R,S a P R->a.length=e):bO P w K mg base (jb P w) (k+1) (T.f j) (T.d j) (qi (tp i)) (ue K e m S):=by rw[Ap]at l;exact R1 T q l.2 (O4 T h l.1 g) o p
theorem O5{n j i:Nat}{x:Str}{Gs:List W}{m:Md}{c:List CS}{Ss:List aT}{k:Nat}{S:aT}(T:TT K mg tp DD ZZ)(l:DD[j]?=some (x,i))(d:Nat)(M:Ms)(b:List (Nat×Md×Nat))(gn:List Str)(p:∀a Q R,S a Q R->wSs (bw Ss) (qG Gs) c (aX m Q R) (aq n a))(h:yS P w K mg base DD b Ss)(g:O3 K mg gn Gs)(e:(b.all (λy=>decide (y.2.2<=k))&&Fi ZZ (tp i) d n M (b.map λy=>B5 DD y.1) gn (b.map (·.2.1)) [] m c)=true)(f:∀a P R,S a P R->a.length=d):Cl P w K mg base DD (k+1) j m S:=by have F:=Ly T l d M b gn p h g e f;rw[Ap]at e;exact B6 T l (B7 e.2) F f
theorem cO{n j i:Nat}{x:Str}{m:Md}{c:List CS}{Ss:List aT}{k:Nat}{S:aT}(T:TT K mg tp DD ZZ)(g:DD[j]?=some (x,i))(d:Nat)(M:Ms)(b:List (Nat×Md×Nat))(p:∀a Q R,S a Q R->wSs (bw Ss) (qG []) c (aX m Q R) (aq n a))(h:yS P w K mg base DD b Ss)(f:(b.all (λy=>decide (y.2.2<=k))&&Fi ZZ (tp i) d n M (b.map λy=>B5 DD y.1) [] (b.map (·.2.1)) [] m c)=true)(e:∀a P R,S a P R->a.length=d):Cl P w K mg base DD (k+1) j m S:=O5 T g d M b [] p h trivial f e
theorem jT{n j i:Nat}{x:Str}{m:Md}{c:List CS}{S:aT}(T:TT K mg tp DD ZZ)(f:DD[j]?=some (x,i))(b:Nat)(M:Ms)(p:∀a Q R,S a Q R->wSs (bw []) (qG []) c (aX m Q R) (aq n a))(e:Fi ZZ (tp i) b n M [] [] [] [] m c=true)(d:∀a P R,S a P R->a.length=b):Cl P w K mg base DD 1 j m S:=O5 (k:=0) T f b M [] [] p trivial trivial e d
theorem O6{k j i a:Nat}{x:Str}(T:TT K mg tp DD ZZ)(c:DD[j]?=some (x,i))(b:a=(qi (tp i)).length):Cl P w K mg base DD k j .s RP:=B6 T c b OB λ_ _ _ z=>z.elim
theorem Lz{j i jr e k:Nat}{x y z:Str}{A p2 v u t r:Pos}(T:TT K mg tp DD ZZ)(l:DD[j]?=some (x,i))(n:DD[jr]?=some (y,e))(F:bO P w K mg base (jb P w) k (T.f jr) (T.d jr) (qi (tp e)) (vS K 1 .s l9))
 (I:fj (Mg (tp i)) (qi (tp i)) (ao (tp i)))(a:aY (tp i)=[.Return (some (.Call (.Name "sorted" A) [.Name z p2] [⟨some "key",.Name y v,u⟩] t)) r])(G:(qi (tp e)).length=1)(c:(qi (tp i)).length=1)
 (H:(Mg (tp i))[0]?=some z)(C:HM (ao (tp i)) z)(q:(z==("__debug__":Str))=false)(p:(z==("__classdict__":Str))=false)(E:(ao (tp i)).names.lookup ("sorted":Str)=some .globalImplicit)(g:("sorted":Str)∈ZZ)
 (B:(ao (tp i)).names.lookup y=some .globalImplicit)(o:(y==("__debug__":Str))=false):Cl P w K mg base DD (k+2+1) j .s i6:=
 B6 T l c.symm (yR (T.D l).F I a F (T.D n).b G c H C q p E (T.Z _ g) B (T.D n).m o) λJ P R h=>by obtain⟨L,rfl,_⟩:=h;rfl
theorem B8{j k:Nat}{m:Md}{S:Nat->aT}(z:Cl P w K mg base DD k j m (S 0))(st:∀n a,k<=a->Cl P w K mg base DD a j m (S n)->Cl P w K mg base DD (a+1) j m (S (n+1))):∀n,Cl P w K mg base DD (k+n) j m (S n)
 |0=>z
 |n+1=>st n (k+n) (Wz _ _) (B8 z st n)
theorem yT(a:List W)(Q:W->Prop)(R:Addr->Prop):¬cg 0 a Q R:=by rintro⟨b,d,p,_,⟨c,_,_,_,h⟩,_⟩;have:=c.m.n0;lia
end
end VL
namespace VL
open PySem PySem.Spec
open PyProof.Rows hiding St
open L2 Num Alg
noncomputable def B9:List CS:=[.set 2 (.bin .Mod (.bin .Add (.bin .Add (.bin .Mult (.var 2) (.var 3)) (.bin .Mult (.int 31) (.var 5))) (.int 7)) (.int 999999937)),.set 3 (.bin .Mod (.bin .Add (.bin .Add (.bin .Mult (.var 3) (.int 40692)) (.var 2)) (.var 5)) (.int 2147483399)),.set 6 (.bin .Mod (.bin .Add (.bin .Mult (.int 3) (.var 2)) (.var 3)) (.int 1000000007)),.iff (.cmp .GtE (.var 0) (.bin .Pow (.int 10) (.int 18))) [.set 6 (.bin .Mod (.var 0) (.bin .Pow (.int 10) (.int 9))),.set 0 (.bin .FloorDiv (.var 0) (.bin .Pow (.int 10) (.int 9)))] [],.app 4 (.var 6)]
noncomputable def mh:List CS:=[.set 2 (.bin .Add (.bin .Mod (.var 0) (.int 999999937)) (.int 2)),.set 3 (.bin .Add (.bin .Mod (.bin .FloorDiv (.var 0) (.int 999999937)) (.int 999999937)) (.int 3)),.set 4 (.lst []),.fr [5] true (.gJ [(.var 1)]) B9,.ret (.var 4)]
noncomputable def j9:aT:=λb Q _=>∃(c:Int)(n:Nat),b=[.int c,.int n]/\n<=60/\∀a:List Int,a.length=n->(∀x∈a,0<=x)->Q (wI a)
theorem Ca{K:Nat->aT}{G:Nat->W}{m:Md}(C:List W)(Q:W->Prop)(R:Addr->Prop)(h:j9 C Q R):wSs K G mh (aX m Q R) (aq 7 C):=by
 obtain⟨c,n,rfl,Z,z⟩:=h;show wSs _ _ mh _ [some (.int c),some (.int n),none,none,none,none,none];unfold mh;have L:(999999937:Int).natAbs.log2<1000000000:=gf (n:=31) (by decide) (by decide);have Y:((10:Int)^(9:Int).toNat).natAbs.log2<1000000000:=gf (n:=31) (by decide) (by decide);refine ai (λd=>∃a:Int,(0<=a/\a<2^31)/\d=[some (.int c),some (.int n),some (.int a),none,none,none,none]) (λN r=>?_) ?_
 .have f:=fm (x:=c) (n:=999999937) (by decide);fin2;exact⟨by decide,r _ ⟨_,⟨by lia,by lia⟩,rfl⟩⟩
 rintro _ ⟨a,⟨I,H⟩,rfl⟩;refine ai (λd=>∃b:Int,(0<=b/\b<2^31)/\d=[some (.int c),some (.int n),some (.int a),some (.int b),none,none,none]) (λN r=>?_) ?_
 .have f:=fm (x:=c.fdiv 999999937) (n:=999999937) (by decide);fin2;exact⟨⟨by decide,L⟩,by decide,r _ ⟨_,⟨by lia,by lia⟩,rfl⟩⟩
 rintro _ ⟨b,⟨E,D⟩,rfl⟩;refine ai (λd=>d=[some (.int c),some (.int n),some (.int a),some (.int b),some (wI []),none,none]) (λN r=>?_) ?_
 .fin2;exact⟨ak (by simp),r _ rfl⟩
 rintro _ rfl;refine ai (λd=>∃(c a b:Int)(e:List Int)(p j:Option W),(e.length=n/\∀x∈e,0<=x)/\d=[some (.int c),some (.int n),some (.int a),some (.int b),some (wI e),p,j]) (λN r=>?_) ?_
 .refine eY (l:=cj 0 1 n) (λQ z=>?_) ?_
  .fin2;exact⟨by lia,by lia,by rw[F1];exact z⟩
  refine aP (λi J=>∃(c a b:Int)(e:List Int)(p j:Option W),((0<=a/\a<2^31)/\(0<=b/\b<2^31)/\e.length=i/\∀x∈e,0<=x)/\J=[some (.int c),some (.int n),some (.int a),some (.int b),some (wI e),p,j]) ⟨c,a,b,[],none,none,⟨⟨I,H⟩,⟨E,D⟩,rfl,λx M=>by cases M⟩,rfl⟩ ?_ ?_
  .rintro i w _ N1 O ⟨c,a,b,e,p,j,⟨⟨I,H⟩,⟨E,D⟩,s,t⟩,rfl⟩ P;obtain⟨hi,rfl⟩:=dI O;unfold B9;refine ai (λd=>∃g:Int,(0<=g/\g<2^31)/\d=[some (.int c),some (.int n),some (.int g),some (.int b),some (wI e),some (.int i),j]) (λB o=>?_) ?_
   .have f:=fm (x:=a*b+31*(i:Int)+7) (n:=999999937) (by decide);fin2;exact⟨cy (n:=31) (m:=31) (by lia) (by lia) (by decide),cy (n:=5) (m:=6) (by decide) (by lia) (by decide),by decide,o _ ⟨_,⟨f.1,by lia⟩,rfl⟩⟩
   rintro _ ⟨g,⟨U,A⟩,rfl⟩;refine ai (λd=>∃k:Int,(0<=k/\k<2^31)/\d=[some (.int c),some (.int n),some (.int g),some (.int k),some (wI e),some (.int i),j]) (λB o=>?_) ?_
   .have f:=fm (x:=b*40692+g+(i:Int)) (n:=2147483399) (by decide);fin2;exact⟨cy (n:=31) (m:=16) (by lia) (by decide) (by decide),by decide,o _ ⟨_,⟨f.1,by lia⟩,rfl⟩⟩
   rintro _ ⟨k,⟨T,S⟩,rfl⟩;refine ai (λd=>∃x:Int,0<=x/\d=[some (.int c),some (.int n),some (.int g),some (.int k),some (wI e),some (.int i),some (.int x)]) (λB o=>?_) ?_
   .have f:=fm (x:=3*g+k) (n:=1000000007) (by decide);fin2;exact⟨cy (n:=2) (m:=31) (by decide) (by lia) (by decide),by decide,o _ ⟨_,f.1,rfl⟩⟩
   rintro _ ⟨x,v,rfl⟩;refine ai (λd=>∃(c x:Int),0<=x/\d=[some (.int c),some (.int n),some (.int g),some (.int k),some (wI e),some (.int i),some (.int x)]) (λB o=>?_) ?_
   .fin2;refine⟨gM (by decide) (by decide) (by decide),?_⟩;split
    .have f:=fm (x:=c) (n:=(10:Int)^(9:Int).toNat) (by decide);exact⟨gM (by decide) (by decide) (by decide),by decide,gM (by decide) (by decide) (by decide),⟨by decide,Y⟩,o _ ⟨_,_,f.1,rfl⟩⟩
    .exact o _ ⟨c,x,v,rfl⟩
   rintro _ ⟨c,x,v,rfl⟩;have q:=P [some (.int c),some (.int n),some (.int g),some (.int k),some (wI (e++[x])),some (.int i),some (.int x)] ⟨c,g,k,e++[x],some (.int i),some (.int x),⟨⟨U,A⟩,⟨T,S⟩,by rw[Fm,s];rfl,λy u=>?_⟩,rfl⟩
   .unfold wI at q⊢;fin2;rw[QP]at q;exact⟨pQ (by rw[AN];lia),q⟩
   .rcases Gc.mp u with u|u
    .exact t y u
    .rw[Ee.mp u];exact v
  .rintro _ ⟨c,a,b,e,p,j,⟨_,_,s,t⟩,rfl⟩;rw[fz]at s;exact r _ ⟨c,a,b,e,p,j,⟨s,t⟩,rfl⟩
 rintro _ ⟨c,a,b,e,p,j,⟨s,t⟩,rfl⟩;exact z e s t
noncomputable def mw:List CS:=[.iff (.cmp .Lt (.var 1) (.blt .len [(.var 0)])) [.ret (.ix (.var 0) (.var 1))] [],.ret (.int 0)]
noncomputable def qj:aT:=λa Q _=>∃(b:List Int)(k:Nat),a=[.fV b,.int k]/\∀z:Int,Q (.int z)
theorem Cb{d:Nat->aT}{G:Nat->W}{m:Md}(a:List W)(Q:W->Prop)(R:Addr->Prop)(h:qj a Q R):wSs d G mw (aX m Q R) (aq 2 a):=by
 obtain⟨b,k,rfl,c⟩:=h;show wSs _ _ mw _ [some (.fV b),some (.int k)];unfold mw;fin2;by_cases e:k<b.length
 .rw[Bz (DL (by lia))];exact⟨_,L2.aO (B1 e),c _⟩
 .rw[Bi (by rw[FS];lia)];exact c _
noncomputable def g7:List CS:=[.set 1 (.int 2),.nM (.cmp .LtE (.bin .Mult (.var 1) (.var 1)) (.var 0)) [.iff (.cmp .Eq (.bin .Mod (.var 0) (.var 1)) (.int 0)) [.ret (.bl false)] [],.set 1 (.bin .Add (.var 1) (.int 1))],.ret (.cmp .Gt (.var 0) (.int 1))]
noncomputable def jC:aT:=λa Q _=>∃n:Nat,a=[.int n]/\n<=10000/\∀b:Bool,(b=true↔af n)->Q (.bl b)
theorem uR{i:Nat->aT}{G:Nat->W}{m:Md}(c:List W)(Q:W->Prop)(R:Addr->Prop)(h:jC c Q R):wSs i G g7 (aX m Q R) (aq 2 c):=by
 obtain⟨n,rfl,r,f⟩:=h;show wSs _ _ g7 _ [some (.int n),none];unfold g7;fin2;refine jt (α:=Nat) (λk=>[some (.int n),some (.int k)]) (λk=>2<=k/\k<=10001/\∀d:Int,2<=d->d<k->(n:Int)%d≠0) (λk=>10002 -k) 2 rfl ⟨BM _,by decide,λd a b=>by lia⟩ ?_;rintro k ⟨p,q,g⟩;fin2;refine⟨cy (n:=14) (m:=14) (by lia) (by lia) (by decide),?_⟩;refine bI (λz=>?_) (λz=>?_)
 .have z:=Bn z;have o:(k:Int)<=n:=by have:(k:Int)*2<=(k:Int)*k:=Tb (by lia) (by lia);lia
  fin2;refine⟨by lia,?_⟩;rw[HI _ (by lia)];by_cases e:(n:Int)%k=0
  .rw[Bz (DL e)];refine f false ⟨λh=>(by cases h),λh=>?_⟩;exact absurd e (h.2 k (by lia) z)
  .rw[Bi (by rw[FS];exact e)];refine⟨k+1,rfl,⟨by lia,by lia,λd a b=>?_⟩,by show 10002 -(k+1)<10002 -k;lia⟩;by_cases j:d=k
   .rw[j];exact e
   .exact g d a (by lia)
 .have z:¬((k:Int)*k<=n):=λy=>by rw[DL y]at z;cases z
  fin2;refine f _ ⟨λh=>?_,λh=>DL (by have:=h.1;lia)⟩;have h:=Bn h;refine⟨by lia,λd l dd=>g d l ?_⟩;refine FV λy=>z ?_;have:(k:Int)*k<=d*d:=Vx (by lia) (by lia) (by lia) (by lia);lia
noncomputable def qk:List CS:=[.iff (.cmp .Gt (.bin .Mod (.var 0) (.int 3)) (.int 0)) [.ret (.ix (.lst [(.int 2),(.int 3),(.int 5),(.int 7),(.int 11),(.int 13),(.int 17),(.int 19)]) (.bin .Mod (.bin .FloorDiv (.var 0) (.int 3)) (.int 8)))] [],.set 1 (.bin .Add (.int 2) (.bin .Mod (.bin .FloorDiv (.var 0) (.int 3)) (.int 9972))),.nM (.not (.call 0 [(.var 1)])) [.set 1 (.bin .Sub (.var 1) (.int 1))],.ret (.var 1)]
noncomputable def uS:aT:=λa Q _=>∃x:Int,a=[.int x]/\∀p:Nat,af p->p<10000->Q (.int p)
theorem yU:af ((2:Nat):Int):=⟨by decide,λd a dd=>by have:d*2<=d*d:=Tb (by lia) (by lia);lia⟩
theorem sH{n:Nat}(b:2<=n)(f:n<25)(h:n%2≠0\/n=2)(a:n%3≠0\/n=3):af (n:Int):=⟨by lia,λd e dd=>by
 have c:d<5:=FV λz=>by have:5*5<=d*d:=Vx (by lia) (by lia) (by lia) (by lia);lia
 obtain rfl|rfl|rfl:d=2\/d=3\/d=4:=by lia
 .lia
 .lia
 .lia⟩
theorem Fj{G:Nat->W}{m:Md}(d:List W)(Q:W->Prop)(R:Addr->Prop)(h:uS d Q R):wSs (bw [jC]) G qk (aX m Q R) (aq 2 d):=by
 obtain⟨x,rfl,g⟩:=h;show wSs _ _ qk _ [some (.int x),none];unfold qk;have f:(3:Int).natAbs.log2<1000000000:=gf (n:=31) (by decide) (by decide);have r:=fm (x:=x.fdiv 3) (n:=8) (by decide);have p:=fm (x:=x.fdiv 3) (n:=9972) (by decide);fin2;refine⟨by decide,?_⟩;by_cases c:x.fmod 3>0
 .rw[Bz (DL c)];refine⟨ak (by decide),⟨by decide,f⟩,by decide,?_⟩;have a:∀n:Nat,(n=2\/n=3\/n=5\/n=7\/n=11\/n=13\/n=17\/n=19)->Q (.int n):=λn i=>g n (sH (by lia) (by lia) (by lia) (by lia)) (by lia);obtain e|e|e|e|e|e|e|e:(x.fdiv 3).fmod 8=0\/(x.fdiv 3).fmod 8=1\/(x.fdiv 3).fmod 8=2\/(x.fdiv 3).fmod 8=3\/(x.fdiv 3).fmod 8=4\/(x.fdiv 3).fmod 8=5\/(x.fdiv 3).fmod 8=6\/(x.fdiv 3).fmod 8=7:=by lia
  .rw[e];exact⟨_,rfl,a 2 (by decide)⟩
  .rw[e];exact⟨_,rfl,a 3 (by decide)⟩
  .rw[e];exact⟨_,rfl,a 5 (by decide)⟩
  .rw[e];exact⟨_,rfl,a 7 (by decide)⟩
  .rw[e];exact⟨_,rfl,a 11 (by decide)⟩
  .rw[e];exact⟨_,rfl,a 13 (by decide)⟩
  .rw[e];exact⟨_,rfl,a 17 (by decide)⟩
  .rw[e];exact⟨_,rfl,a 19 (by decide)⟩
 .rw[Bi (by rw[FS];exact c)];refine⟨⟨by decide,f⟩,by decide,?_⟩;generalize(x.fdiv 3).fmod 9972=y at p;obtain⟨n,i⟩:∃n:Nat,2+y=n:=⟨(2+y).toNat,by lia⟩;rw[i];refine jt (α:=Nat) (λk=>[some (.int x),some (.int k)]) (λk=>2<=k/\k<10000) (λk=>k) n rfl ⟨by lia,by lia⟩ ?_;rintro k ⟨q,o⟩;fin2;refine⟨k,rfl,by lia,λb j=>?_⟩;fin2;refine bI (λz=>?_) (λz=>?_)
  .have l:¬af (k:Int):=λy=>by rw[j.mpr y]at z;cases z
   have:k≠2:=λe=>l (by rw[e];exact yU);fin2;exact⟨k -1,by rw[show(k:Int) -1=((k -1:Nat):Int) by lia],⟨by lia,by lia⟩,by show k -1<k;lia⟩
  .have:b=true:=by cases b<;>first|rfl|cases z
   fin2;exact g k (j.mp this) o
noncomputable def qm:List CS:=[.set 1 (.blt .len [(.var 0)]),.nM (.and [(.cmp .Gt (.var 1) (.int 0)),(.cmp .Eq (.ix (.var 0) (.bin .Sub (.var 1) (.int 1))) (.int 0))]) [.set 1 (.bin .Sub (.var 1) (.int 1))],.ret (.blt .list [(.sl (.var 0) .aJ (.var 1))])]
theorem Fl{l:Nat->aT}{G:Nat->W}{m:Md}(i:List W)(Q:W->Prop)(R:Addr->Prop)(h:bz i Q R):wSs l G qm (aX m Q R) (aq 2 i):=by
 obtain⟨c,rfl,n⟩:=h;show wSs _ _ qm _ [some (wI c),none];unfold qm wI;fin2;refine jt (α:=Nat) (λk=>[some (.lst (c.map W.int)),some (.int k)]) (λk=>k<=c.length/\∀j,k<=j->j<c.length->c.getD j 0=0) (λk=>k) c.length (by rw[AN]) ⟨BM _,λj g f=>by lia⟩ ?_;rintro k ⟨g,f⟩;fin2;have d:(k=0\/c.getD (k -1) 0≠0)->Q (.lst (gB (c.map W.int) none (some (k:Int)))):=λh=>by rw[sf c k g];exact n _ ⟨k,g,rfl,f,h⟩
 by_cases o:0<k
 .rw[Bz (DL (by lia))];rw[show(k:Int) -1=((k -1:Nat):Int) by lia];refine⟨_,aO (int_at (by lia)),?_⟩;fin2;refine bI (λz=>?_) (λz=>?_)
  .have z:=Bn z;fin2;refine⟨k -1,by rw[show(k:Int) -1=((k -1:Nat):Int) by lia],⟨by lia,λj a b=>?_⟩,by show k -1<k;lia⟩;by_cases e:j=k -1
   .rw[e];exact z
   .exact f j (by lia) b
  .have z:=SU z;fin2;exact d (.inr z)
 .rw[Bi (by rw[FS];lia)];refine bI (λz=>by cases z) (λ_=>?_);fin2;exact d (.inl (by lia))
theorem uT(l:List Int)(p:Nat)(v:Int)(k:Nat)(h:p<l.length):(l.set p v).getD k 0=if k=p then v else l.getD k 0:=by
 rw[AC,Ws,AC];by_cases e:k=p
 .rw[Bz e.symm,Bz h,Bz e];rfl
 .rw[Bi (NM e),Bi e]
theorem mz{l:List Int}{i:Nat}{v:Int}{P:Int->Prop}(h:∀x∈l,P x)(b:P v):∀x∈l.set i v,P x:=λx a=>by
 rcases List.mem_or_eq_of_mem_set a with z|z
 .exact h x z
 .rw[z];exact b
theorem uU{p:Nat}(d:0<p){l a:List Int}(c:∀x∈l,0<=x/\x<p)(h:cZ l a):fL p a=fL p l/\Rm p a/\a.length<=l.length:=by
 have e:l.map (·%(p:Int))=l:=by
  conv=>rhs;rw[<-List.map_id l]
  exact Pv λx b=>R0 (c x b).1 (c x b).2
 rw[<-e]at h;exact iX d h
theorem jD(x:Int)(p:Nat):(p:Int)∣x%p -x:=⟨-(x/p),by have:=OF x p;grind⟩
theorem jL{p:Nat}(a:0<p)(x:Int):0<=x%p/\x%p<p:=⟨PQ _ (by lia),NA _ (by lia)⟩
noncomputable def Cc:List CS:=[.set 6 (.bin .Mult (.ix (.var 0) (.var 4)) (.ix (.var 1) (.var 5))),.put 3 (.bin .Add (.var 4) (.var 5)) (.bin .Mod (.bin .Add (.ix (.var 3) (.bin .Add (.var 4) (.var 5))) (.var 6)) (.var 2))]
noncomputable def Ce:List CS:=[.iff (.or [(.cmp .Eq (.var 0) (.lst [])),(.cmp .Eq (.var 1) (.lst []))]) [.ret (.lst [])] [],.set 3 (.bin .Mult (.lst [(.int 0)]) (.bin .Sub (.bin .Add (.blt .len [(.var 0)]) (.blt .len [(.var 1)])) (.int 1))),.fr [4] true (.gJ [(.blt .len [(.var 0)])]) [.fr [5] true (.gJ [(.blt .len [(.var 1)])]) Cc],.ret (.call 0 [(.var 3)])]
structure Pf(p:Nat)(a b:List Int)(g:Nat->Int)(l:List Int):Prop where
 len:l.length=a.length+b.length -1
 bd:∀x∈l,0<=x/\x<p
 eq:∀k,k<a.length+b.length -1->(p:Int)∣l.getD k 0 -g k
theorem O7{G:Nat->W}{m:Md}(I:List W)(Q:W->Prop)(R:Addr->Prop)(h:aV I Q R):wSs (bw [bz]) G Ce (aX m Q R) (aq 7 I):=by
 obtain⟨a,b,p,rfl,⟨J,bW,la,lb,S,P⟩,u⟩:=h;show wSs _ _ Ce _ [some (wI a),some (wI b),some (.int p),none,none,none,none];unfold Ce;refine ai (λo=>(a≠[]/\b≠[])/\o=[some (wI a),some (wI b),some (.int p),none,none,none,none]) (λN C=>?_) ?_
 .have B:(a=[]\/b=[])->Q (wI []):=λz=>u [] ⟨λx E=>(by cases E),.inl rfl⟩ (by
   rcases z with z|z
   .rw[z,bN];grind
   .rw[z,bN];grind) (KE _)
  fin2;refine⟨ak (by simp),uA (y:=[]) λk1 M=>?_⟩;fin2;by_cases A:a=[]
  .cases fy M A;rw[Bz rfl];exact⟨ak (by simp),B (.inl A)⟩
  .cases eW M A;rw[Bi (by decide)];refine⟨ak (by simp),uA (y:=[]) λk2 L=>?_⟩;fin2;by_cases v:b=[]
   .cases fy L v;rw[Bz rfl];exact⟨ak (by simp),B (.inr v)⟩
   .cases eW L v;rw[Bi (by decide)];exact C _ ⟨⟨A,v⟩,rfl⟩
 rintro _ ⟨⟨A,v⟩,rfl⟩;have a0:=Hc.mpr A;have b0:=Hc.mpr v;refine ai (λo=>∃l,Pf p a b (cf a b 0) l/\o=[some (wI a),some (wI b),some (.int p),some (wI l),none,none,none]) (λN C=>?_) ?_
 .have g:=C _ ⟨Dg (a.length+b.length -1) 0,⟨by simp,λx E=>by rw[Sa E];exact⟨by decide,by lia⟩,λk H=>⟨0,by show(Dg (a.length+b.length -1) (0:Int)).getD k 0 -0=_;rw[AC,TK];split<;>rfl⟩⟩,rfl⟩;unfold wI at g⊢;fin2;rw[AN,AN,show(a.length:Int)+(b.length:Int) -1=((a.length+b.length -1:Nat):Int) by lia,F1,dH];rw[WG]at g;exact⟨ak (by simp),by lia,by lia,ak (by simp;lia),g⟩
 rintro _ ⟨l,c,rfl⟩;refine ai (λo=>∃(l:List Int)(s f d:Option W),Pf p a b (cf a b a.length) l/\o=[some (wI a),some (wI b),some (.int p),some (wI l),s,f,d]) (λN C=>?_) ?_
 .refine eY (l:=cj 0 1 a.length) (λQ u=>?_) ?_
  .unfold wI;fin2;rw[AN];exact⟨by lia,by lia,by rw[F1];exact u⟩
  refine aP (λi D=>∃(l:List Int)(s f d:Option W),Pf p a b (cf a b i) l/\D=[some (wI a),some (wI b),some (.int p),some (wI l),s,f,d]) ⟨l,none,none,none,c,rfl⟩ ?_ ?_
  .rintro i w _ N1 Y ⟨l,s,f,d,c,rfl⟩ b6;obtain⟨t,rfl⟩:=dI Y;refine eY (l:=cj 0 1 b.length) (λQ u=>?_) ?_
   .unfold wI;fin2;rw[AN];exact⟨by lia,by lia,by rw[F1];exact u⟩
   refine aP (λj D=>∃(l:List Int)(f d:Option W),Pf p a b (qB a b i j) l/\D=[some (wI a),some (wI b),some (.int p),some (wI l),some (.int i),f,d]) ⟨l,f,d,by rw[show qB a b i 0=cf a b i from funext λk=>qW a b i k];exact c,rfl⟩ ?_ ?_
   .rintro j w _ N2 O ⟨l,f,d,c,rfl⟩ U;obtain⟨Z,rfl⟩:=dI O;have H:i+j<a.length+b.length -1:=by lia
    have K:=c.len;have up:Pf p a b (qB a b i (j+1)) (l.set (i+j) ((l.getD (i+j) 0+a.getD i 0*b.getD j 0)%p)):=by
     refine⟨by rw[Kk];exact K,mz c.bd (jL J _),λk H=>?_⟩;rw[uT _ _ _ _ (by lia),kD];have q:=c.eq k H;by_cases e:k=i+j
     .rw[Bz e,Bz e];rw[e]at q⊢;have:=Qb (jD (l.getD (i+j) 0+a.getD i 0*b.getD j 0) p) q;generalize(l.getD (i+j) 0+a.getD i 0*b.getD j 0)%(p:Int)=r at*;rw[show r -(qB a b i j (i+j)+a.getD i 0*b.getD j 0)=r -(l.getD (i+j) 0+a.getD i 0*b.getD j 0)+(l.getD (i+j) 0 -qB a b i j (i+j)) by lia];exact this
     .rw[Bi e,Bi e,Ts];exact q
    have g:=U _ ⟨_,some (.int j),some (.int (a.getD i 0*b.getD j 0)),up,rfl⟩;unfold Cc;unfold wI at g⊢;fin2;refine⟨_,aO (int_at t),_,aO (int_at Z),?_⟩;fin2;refine⟨cz (p:=p) (by lia) (bT (by lia) S.b i) (bT (by lia) P.b j),?_⟩;rw[show(i:Int)+(j:Int)=((i+j:Nat):Int) by lia];refine⟨_,aO (int_at (by lia)),?_⟩;fin2;refine⟨by lia,i+j,gU (by rw[AN];lia),?_⟩;rw[HI _ (by lia),<-WJ];exact g
   .rintro _ ⟨l,f,d,c,rfl⟩;rw[fz,show qB a b i b.length=cf a b (i+1)from funext λk=>qX a b i k]at c;exact b6 _ ⟨l,some (.int i),f,d,c,rfl⟩
  .rintro _ ⟨l,s,f,d,c,rfl⟩;rw[fz]at c;exact C _ ⟨l,s,f,d,c,rfl⟩
 rintro _ ⟨l,s,f,d,c,rfl⟩;fin2;refine⟨l,rfl,λT tr=>?_⟩;obtain⟨e,r,lm⟩:=uU J c.bd tr;have K:=c.len;refine u T r (e.trans (BU λi=>?_)) (by lia);by_cases t:i<a.length+b.length -1
 .have:=c.eq i t;rw[GA]at this;exact this
 .rw[outI (by lia),oM (n:=a.length) (m:=b.length) (λi t=>outI t) (λi t=>outI t) (by lia)];exact⟨0,by lia⟩
noncomputable def Hu:List CS:=[.set 7 (.bin .Mult (.var 4) (.ix (.var 1) (.var 6))),.put 3 (.bin .Add (.var 5) (.var 6)) (.bin .Mod (.bin .Sub (.ix (.var 3) (.bin .Add (.var 5) (.var 6))) (.var 7)) (.var 2))]
noncomputable def Cf:List CS:=[.set 4 (.ix (.var 3) (.neg (.int 1))),.set 5 (.bin .Sub (.blt .len [(.var 3)]) (.blt .len [(.var 1)])),.fr [6] true (.gJ [(.blt .len [(.var 1)])]) Hu,.set 3 (.call 0 [(.var 3)])]
noncomputable def fR:List CS:=[.set 3 (.blt .list [(.var 0)]),.nM (.cmp .GtE (.blt .len [(.var 3)]) (.blt .len [(.var 1)])) Cf,.ret (.var 3)]
noncomputable def g8:aT:=λc Q _=>∃(a b:List Int)(p:Nat),c=[wI a,wI b,.int p]/\(0<p/\p<2^40/\Rm p a/\Mn p b/\a.length<=100/\b.length<=100)/\∀r,Rm p r->r.length<b.length->Dd (fL p b) (fL p r -fL p a)->Q (wI r)
structure Rf(p:Nat)(l b:List Int)(at' i:Nat)(c:Int)(l':List Int):Prop where
 len:l'.length=l.length
 bd:∀x∈l',0<=x/\x<p
 eq:∀k,(p:Int)∣l'.getD k 0 -(l.getD k 0 -if at'<=k/\k<at'+i then c*b.getD (k -at') 0 else 0)
theorem Rf.full{p:Nat}{l b a:List Int}{n:Nat}{c:Int}(h:Rf p l b n b.length c a):fL p a=fL p l -Qt.mk (Ip p) (mono n c)*fL p b:=by
 refine n5 (g:=cY l -mono n c*cY b) λk=>?_;have e:(cY l -mono n c*cY b).1 k=l.getD k 0+ -(b8 (mono n c).1 (co b) k):=rfl;rw[e,wN];have:=h.eq k;by_cases z:n<=k
 .by_cases d:k<n+b.length
  .rw[Bz ⟨z,d⟩]at this;rw[Bz z];exact this
  .rw[Bi (λy=>d y.2)]at this;rw[Bz z,show co b (k -n)=0 from outI (by lia)];rw[show a.getD k 0 -(l.getD k 0+ -(c*0))=a.getD k 0 -(l.getD k 0 -0) by lia];exact this
 .rw[Bi (λy=>z y.1)]at this;rw[Bi z];exact this
theorem O8{G:Nat->W}{D:Dn}{a b l:List Int}{p:Nat}{M B m j:Option W}(A:0<p)(bW:p<2^40)(x:Rm p l)(u:Mn p b)(U:l.length<=100)(Y:b.length<=l.length)
 (g:∀d L K J I,Rm p d->d.length<l.length->Dd (fL p b) (fL p d -fL p l)->D.nx [some (wI a),some (wI b),some (.int p),some (wI d),L,K,J,I]):
 wSs (bw [bz]) G Cf D [some (wI a),some (wI b),some (.int p),some (wI l),M,B,m,j]:=by
 have b0:=u.n0;unfold Cf;generalize v:l.getD (l.length -1) 0=c;have t:=bT (p:=p) (by lia) x.b (l.length -1);rw[v]at t;refine ai (λo=>o=[some (wI a),some (wI b),some (.int p),some (wI l),some (.int c),B,m,j]) (λN g=>?_) ?_
 .have g:=g _ rfl;unfold wI at g⊢;fin2;exact⟨_,nV (by lia),by rw[v];exact g⟩
 rintro _ rfl;obtain⟨n,Z⟩:∃n,l.length=n+b.length:=⟨l.length -b.length,by lia⟩;refine ai (λo=>o=[some (wI a),some (wI b),some (.int p),some (wI l),some (.int c),some (.int n),m,j]) (λN g=>?_) ?_
 .have g:=g _ rfl;unfold wI at g⊢;fin2;rw[AN,AN,show(l.length:Int) -(b.length:Int)=(n:Nat) by lia];exact g
 rintro _ rfl;refine ai (λo=>∃(d:List Int)(m j:Option W),Rf p l b n b.length c d/\o=[some (wI a),some (wI b),some (.int p),some (wI d),some (.int c),some (.int n),m,j]) (λN g=>?_) ?_
 .refine eY (l:=cj 0 1 b.length) (λQ P=>?_) ?_
  .unfold wI;fin2;rw[AN];exact⟨by lia,by lia,by rw[F1];exact P⟩
  refine aP (λi H=>∃(d:List Int)(m j:Option W),Rf p l b n i c d/\H=[some (wI a),some (wI b),some (.int p),some (wI d),some (.int c),some (.int n),m,j]) ⟨l,m,j,⟨rfl,x.b,λk=>?_⟩,rfl⟩ ?_ ?_
  .rw[Bi (by lia)];exact⟨0,by lia⟩
  .rintro i w _ N1 O ⟨d,m,j,h,rfl⟩ S;obtain⟨R,rfl⟩:=dI O;have E:=h.len;have up:Rf p l b n (i+1) c (d.set (n+i) ((d.getD (n+i) 0 -c*b.getD i 0)%p)):=by
    refine⟨by rw[Kk];exact E,mz h.bd (jL A _),λk=>?_⟩;rw[uT _ _ _ _ (by lia)];have f:=h.eq k;by_cases e:k=n+i
    .rw[Bz e,Bz (by lia),e,show n+i -n=i by lia];rw[e,Bi (by lia)]at f;have:=Qb (jD (d.getD (n+i) 0 -c*b.getD i 0) p) f;generalize(d.getD (n+i) 0 -c*b.getD i 0)%(p:Int)=r at*;rw[show r -(l.getD (n+i) 0 -c*b.getD i 0)=r -(d.getD (n+i) 0 -c*b.getD i 0)+(d.getD (n+i) 0 -(l.getD (n+i) 0 -0)) by lia];exact this
    .rw[Bi e];by_cases z:n<=k/\k<n+i
     .rw[Bz z]at f;rw[Bz (by lia)];exact f
     .rw[Bi z]at f;rw[Bi (by lia)];exact f
   have s:=S _ ⟨_,some (.int i),some (.int (c*b.getD i 0)),up,rfl⟩;unfold Hu;unfold wI at s⊢;fin2;refine⟨_,aO (int_at R),?_⟩;fin2;refine⟨cz (p:=p) (by lia) t (bT (by lia) u.r.b i),?_⟩;rw[show(n:Int)+(i:Int)=((n+i:Nat):Int) by lia];refine⟨_,aO (int_at (by lia)),?_⟩;fin2;refine⟨by lia,n+i,gU (by rw[AN];lia),?_⟩;rw[HI _ (by lia),<-WJ];exact s
  .rintro _ ⟨d,m,j,h,rfl⟩;rw[fz]at h;exact g _ ⟨d,m,j,h,rfl⟩
 rintro _ ⟨d,m,j,h,rfl⟩;fin2;refine⟨d,rfl,λC tr=>?_⟩;have E:=h.len;have q:d.getD (l.length -1) 0=0:=by have e:=h.eq (l.length -1);rw[Bz (by lia),show l.length -1 -n=b.length -1 by lia,u.one,v]at e;have bd:=bT (p:=p) (by lia) h.bd (l.length -1);exact mod_eq bd ⟨by decide,by lia⟩ (by rw[show d.getD (l.length -1) 0 -0=d.getD (l.length -1) 0 -(c -c*1) by lia];exact e)
 obtain⟨e,r,T⟩:=uU A h.bd tr;refine g C _ _ _ _ r ?_ ⟨-Qt.mk (Ip p) (mono n c),?_⟩
 .obtain⟨k,hk,e,_,hz⟩:=tr;have:C.length=k:=by rw[e,QQ];lia
  rcases hz with z|z
  .lia
  .have:k≠l.length:=λy=>z (by rw[y];exact q);lia
 .rw[e,h.full];grind
theorem qo{G:Nat->W}{m:Md}(v:List W)(Q:W->Prop)(R:Addr->Prop)(h:g8 v Q R):wSs (bw [bz]) G fR (aX m Q R) (aq 8 v):=by
 obtain⟨a,b,p,rfl,⟨D,L,x,E,H,M⟩,J⟩:=h;show wSs _ _ fR _ [some (wI a),some (wI b),some (.int p),none,none,none,none,none];unfold fR;refine ai (λc=>c=[some (wI a),some (wI b),some (.int p),some (wI a),none,none,none,none]) (λN d=>?_) ?_
 .have d:=d _ rfl;unfold wI at d⊢;fin2;exact d
 rintro _ rfl;refine ai (λc=>∃(l:List Int)(k j i g:Option W),(Rm p l/\l.length<b.length/\Dd (fL p b) (fL p l -fL p a))/\c=[some (wI a),some (wI b),some (.int p),some (wI l),k,j,i,g]) (λN d=>?_) ?_
 .refine d9 (α:=List Int×Option W×Option W×Option W×Option W) (λs=>[some (wI a),some (wI b),some (.int p),some (wI s.1),s.2.1,s.2.2.1,s.2.2.2.1,s.2.2.2.2]) (λs=>Rm p s.1/\s.1.length<=100/\Dd (fL p b) (fL p s.1 -fL p a)) (λs=>s.1.length) (a,none,none,none,none) rfl ⟨x,H,0,by show fL p a -fL p a=_;grind⟩ ?_;rintro⟨l,k,j,i,g⟩ ⟨n,w,q,e⟩;dsimp only at n w e⊢;have K:wE (bw [bz]) G (λ_=>False) (.cmp .GtE (.blt .len [(.var 3)]) (.blt .len [(.var 1)])) [some (wI a),some (wI b),some (.int p),some (wI l),k,j,i,g]=λQ=>Q (.bl (decide ((b.length:Int)<=(l.length:Int)))):=by funext Q;unfold wI;fin2;rw[AN,AN]
  rw[K];fin2;refine bI (λf=>?_) (λf=>?_)
  .have f:=Bn f;exact O8 D L n E w (by lia) λo B A z y u t r=>⟨(o,B,A,z,y),rfl,⟨u,by show o.length<=100;lia,by obtain⟨C,I⟩:=r;exact⟨q+C,by show fL p o -fL p a=_;grind⟩⟩,t⟩
  .have f:=SU f;exact d _ ⟨l,_,_,_,_,⟨n,by lia,q,e⟩,rfl⟩
 rintro _ ⟨l,k,j,i,g,⟨u,t,r⟩,rfl⟩;fin2;exact J l u t r
noncomputable def Cg:List CS:=[.set 4 (.lst []),.fr [5] true (.gJ [(.var 2)]) [.app 4 (.bin .Mod (.ix (.var 0) (.bin .Add (.var 1) (.var 5))) (.var 3))],.ret (.bin .Add (.var 4) (.lst [(.int 1)]))]
noncomputable def yV:aT:=λb Q _=>∃(a:List Int)(n d p:Nat),b=[wI a,.int n,.int d,.int p]/\(2<=p/\n+d<=a.length/\d<=50)/\∀r,Mn p r->r.length=d+1->Q (wI r)
theorem O9{p:Nat}(p2:2<=p){l:List Int}(h:∀x∈l,0<=x/\x<p):Mn p (l++[1]):=by
 have e:(l++[1]).getD ((l++[1]).length -1) 0=1:=by rw[Fm,F2,Kj,AC,KM (BM _),Qf];rfl
 refine⟨⟨λx a=>?_,.inr (by rw[e];decide)⟩,by simp,e⟩;rcases Gc.mp a with a|a
 .exact h x a
 .rw[Ee.mp a];exact⟨by decide,by lia⟩
theorem Pa{s:Nat->aT}{G:Nat->W}{m:Md}(q:List W)(Q:W->Prop)(R:Addr->Prop)(h:yV q Q R):wSs s G Cg (aX m Q R) (aq 6 q):=by
 obtain⟨f,n,d,p,rfl,⟨t,y,z⟩,j⟩:=h;show wSs _ _ Cg _ [some (wI f),some (.int n),some (.int d),some (.int p),none,none];unfold Cg;refine ai (λb=>b=[some (wI f),some (.int n),some (.int d),some (.int p),some (wI []),none]) (λN k=>?_) ?_
 .fin2;exact⟨ak (by simp),k _ rfl⟩
 rintro _ rfl;refine ai (λb=>∃(l:List Int)(o:Option W),(l.length=d/\∀x∈l,0<=x/\x<p)/\b=[some (wI f),some (.int n),some (.int d),some (.int p),some (wI l),o]) (λN k=>?_) ?_
 .refine eY (l:=cj 0 1 d) (λQ j=>?_) ?_
  .fin2;exact⟨by lia,by lia,by rw[F1];exact j⟩
  refine aP (λi r=>∃(l:List Int)(o:Option W),(l.length=i/\∀x∈l,0<=x/\x<p)/\r=[some (wI f),some (.int n),some (.int d),some (.int p),some (wI l),o]) ⟨[],none,⟨rfl,λx c=>by cases c⟩,rfl⟩ ?_ ?_
  .rintro i w _ B u ⟨l,o,⟨e,g⟩,rfl⟩ v;obtain⟨A,rfl⟩:=dI u;have a:=v _ ⟨l++[(f.getD (n+i) 0)%p],some (.int i),⟨by rw[Fm,e];rfl,λx c=>?_⟩,rfl⟩
   .unfold wI at a⊢;fin2;rw[show(n:Int)+(i:Int)=((n+i:Nat):Int) by lia];refine⟨_,aO (int_at (by lia)),?_⟩;fin2;refine⟨by lia,pQ (by rw[AN];lia),?_⟩;rw[HI _ (by lia)];rw[QP]at a;exact a
   .rcases Gc.mp c with c|c
    .exact g x c
    .rw[Ee.mp c];exact jL (by lia) _
  .rintro _ ⟨l,o,⟨e,g⟩,rfl⟩;rw[fz]at e;exact k _ ⟨l,o,⟨e,g⟩,rfl⟩
 rintro _ ⟨l,o,⟨e,g⟩,rfl⟩;have a:=j (l++[1]) (O9 t g) (by rw[Fm,e];rfl);unfold wI at a⊢;fin2;rw[QP]at a;exact⟨ak (by simp),ak (by rw[AN];simp;lia),a⟩
theorem LA{p:Nat}(k:af p){a b c:List Int}(f:Mn p a)(d:Mn p b)(g:Rm p c)(e:fL p c=fL p a*fL p b):Mn p c/\c.length+1=a.length+b.length:=by
 have i:∀{l:List Int},Mn p l->fL p l≠0:=λ{l} h z=>by have:=h.n0;rw[(cA h.r).mp z]at this;cases this
 have j:=bD k (i f) (i d);rw[<-e,aM f.r,aM d.r,aM g]at j;have s:=d.n0;have u:=f.n0;refine⟨⟨g,by lia,?_⟩,j⟩;have t:=BV f.top d.top;have n:=Qt.eq.mp (show Qt.mk (Ip p) (cY c)=Qt.mk (Ip p) (cY a*cY b)from e) (a.length -1+(b.length -1));have m:(p:Int)∣c.getD (a.length -1+(b.length -1)) 0+ -(cY a*cY b).1 (a.length -1+(b.length -1)):=n;have t:(p:Int)∣(cY a*cY b).1 (a.length -1+(b.length -1)) -a.getD (a.length -1) 0*b.getD (b.length -1) 0:=t;rw[show a.length -1+(b.length -1)=c.length -1 by lia]at m t;rw[f.one,d.one]at t;have q:=k.1;have o:=bT (p:=p) (by lia) g.b (c.length -1);have:=Qb m t;exact mod_eq o ⟨by decide,by lia⟩ (by rw[show c.getD (c.length -1) 0 -1=c.getD (c.length -1) 0+ -(cY a*cY b).1 (c.length -1)+((cY a*cY b).1 (c.length -1) -1*1) by lia];exact this)
noncomputable def Hw:List CS:=[.iff (.cmp .LtE (.bin .Add (.blt .len [(.var 2)]) (.blt .len [(.var 5)])) (.int 11)) [.set 2 (.call 1 [(.var 2),(.var 5),(.var 1)])] []]
noncomputable def Hx:List CS:=[.set 5 (.call 0 [(.var 0),(.bin .Add (.var 3) (.int 1)),(.bin .Add (.int 1) (.bin .Mod (.ix (.var 0) (.var 3)) (.ix (.lst [(.int 1),(.int 2),(.int 3),(.int 4)]) (.var 4)))),(.var 1)]),.fr [6] true (.gJ [(.bin .Add (.int 1) (.bin .Mod (.bin .FloorDiv (.ix (.var 0) (.var 3)) (.int 16)) (.ix (.lst [(.int 2),(.int 3),(.int 2),(.int 1)]) (.var 4))))]) Hw,.set 3 (.bin .Add (.var 3) (.int 5))]
noncomputable def uV:List CS:=[.set 2 (.call 0 [(.var 0),(.int 1),(.bin .Add (.int 1) (.bin .Mod (.ix (.var 0) (.int 0)) (.int 3))),(.var 1)]),.set 3 (.int 4),.fr [4] true (.gJ [(.int 4)]) Hx,.ret (.var 2)]
structure M9(p:Nat)(r:List Int):Prop where
 m:Mn p r
 l2:2<=r.length
 Pb:r.length<=10
structure Xs(p:Nat)(xs:List Int):Prop where
 pr:af p
 bW:p<2^40
 len:xs.length=26
noncomputable def Ci:aT:=λb Q _=>∃(a:List Int)(p:Nat),b=[wI a,.int p]/\Xs p a/\∀r,M9 p r->Q (wI r)
theorem uW{l:List Int}{n:Nat}(a:n<l.length){P:Int->Prop}(h:∀x∈l,P x):∃x,i8 (l.map W.int) (n:Int)=some (.int x)/\P x:=
 ⟨_,aO (int_at a),uz h a⟩
theorem uX{p:Nat}(f:af p){a b c:List Int}(d:M9 p a)(h:Mn p b)(l2:2<=b.length)(i:a.length+b.length<=11)(g:Rm p c)(e:fL p c=fL p a*fL p b):M9 p c:=by obtain⟨m,l⟩:=LA f d.m h g e;have:=d.l2;exact⟨m,by lia,by lia⟩
theorem LB{G:Nat->W}{m:Md}(I:List W)(Q:W->Prop)(R:Addr->Prop)(h:Ci I Q R):wSs (bw [yV,aV]) G uV (aX m Q R) (aq 7 I):=by
 obtain⟨k,p,rfl,⟨O,bW,lx⟩,v⟩:=h;show wSs _ _ uV _ [some (wI k),some (.int p),none,none,none,none,none];unfold uV;have p2:=O.1;have L:∀{K:W->Prop}{n:Nat},n<26->(∀x:Int,K (.int x))->∃w,i8 (k.map W.int) (n:Int)=some w/\K w:=λ{K n} hn Z=>⟨_,aO (int_at (by lia)),Z _⟩;refine ai (λa=>∃f,M9 p f/\a=[some (wI k),some (.int p),some (wI f),none,none,none,none]) (λN u=>?_) ?_
 .unfold wI at u⊢;fin2;refine L (n:=0) (by decide) λx=>?_;fin2;refine⟨by decide,?_⟩;have f:=fm (x:=x) (n:=3) (by decide);generalize x.fmod 3=y at*;obtain⟨d,C⟩:∃d:Nat,1+y=d:=⟨(1+y).toNat,by lia⟩;rw[C];exact⟨k,1,d,p,rfl,⟨by lia,by lia,by lia⟩,λr z D=>u _ ⟨r,⟨z,by lia,by lia⟩,rfl⟩⟩
 rintro _ ⟨f,e,rfl⟩;refine ai (λa=>a=[some (wI k),some (.int p),some (wI f),some (.int ((4:Nat):Int)),none,none,none]) (λN u=>?_) ?_
 .fin2;exact u _ rfl
 rintro _ rfl;refine ai (λa=>∃(f:List Int)(o3 s q g:Option W),M9 p f/\a=[some (wI k),some (.int p),some (wI f),o3,s,q,g]) (λN u=>?_) ?_
 .refine eY (l:=cj 0 1 4) (λQ v=>?_) ?_
  .fin2;exact⟨by decide,by decide,v⟩
  refine aP (λi B=>∃(f:List Int)(s q g:Option W),M9 p f/\B=[some (wI k),some (.int p),some (wI f),some (.int ((4+5*i:Nat):Int)),s,q,g]) ⟨f,none,none,none,e,rfl⟩ ?_ ?_
  .rintro i w _ N1 M ⟨f,s,q,g,e,rfl⟩ b6;obtain⟨S,rfl⟩:=dI M;unfold Hx;refine ai (λa=>∃b,(Mn p b/\2<=b.length/\b.length<=5)/\a=[some (wI k),some (.int p),some (wI f),some (.int ((4+5*i:Nat):Int)),some (.int i),some (wI b),g]) (λN2 A=>?_) ?_
   .obtain⟨o,E,h4⟩:=uW (l:=[1,2,3,4]) (n:=i) S (P:=λx=>1<=x/\x<=4) (by decide);unfold wI at A⊢;fin2;refine L (by lia) λx=>⟨ak (by decide),_,E,?_⟩;fin2;refine⟨by lia,?_⟩;have f:=fm (x:=x) (n:=o) (by lia);generalize x.fmod o=y at*;obtain⟨d,C⟩:∃d:Nat,1+y=d:=⟨(1+y).toNat,by lia⟩;rw[C,show((4+5*i:Nat):Int)+1=((4+5*i+1:Nat):Int) by lia];exact⟨k,4+5*i+1,d,p,rfl,⟨by lia,by lia,by lia⟩,λr z D=>A _ ⟨r,⟨z,by lia,by lia⟩,rfl⟩⟩
   rintro _ ⟨b,⟨J,b2,b5⟩,rfl⟩;refine ai (λa=>∃(f:List Int)(g:Option W),M9 p f/\a=[some (wI k),some (.int p),some (wI f),some (.int ((4+5*i:Nat):Int)),some (.int i),some (wI b),g]) (λN2 A=>?_) ?_
   .obtain⟨o,E,h4⟩:=uW (l:=[2,3,2,1]) (n:=i) S (P:=λx=>1<=x/\x<=4) (by decide);obtain⟨x,ex,_⟩:=uW (l:=k) (n:=4+5*i) (by lia) (P:=λ_=>True) (λ_ _=>trivial);have f4:=fm (x:=x.fdiv 16) (n:=o) (by lia);obtain⟨t,Y⟩:∃t:Nat,1+(x.fdiv 16).fmod o=t:=⟨(1+(x.fdiv 16).fmod o).toNat,by lia⟩;refine eY (l:=cj 0 1 t) (λQ v=>?_) ?_
    .unfold wI;fin2;refine⟨_,ex,?_⟩;fin2;refine⟨⟨by decide,gf (n:=5) (by decide) (by decide)⟩,ak (by decide),_,E,?_⟩;fin2;refine⟨by lia,?_⟩;rw[Y];exact⟨by lia,by lia,by rw[F1];exact v⟩
    refine aP (λj B=>∃(f:List Int)(g:Option W),M9 p f/\B=[some (wI k),some (.int p),some (wI f),some (.int ((4+5*i:Nat):Int)),some (.int i),some (wI b),g]) ⟨f,g,e,rfl⟩ ?_ ?_
    .rintro j w _ N3 M ⟨f,g,e,rfl⟩ H;unfold Hw;have T:=e.l2;have Wk:=e.Pb;unfold wI at H⊢;fin2;rw[AN,AN];by_cases c:(f.length:Int)+(b.length:Int)<=11
     .rw[Bz (DL c)];exact⟨f,b,p,rfl,⟨by lia,bW,by lia,by lia,e.m.r,J.r⟩,λU z D h3=>H _ ⟨U,_,uX O e J b2 (by lia) z D,rfl⟩⟩
     .rw[Bi (by rw[FS];exact c)];exact H _ ⟨f,_,e,rfl⟩
    .rintro _ ⟨f,g,e,rfl⟩;exact A _ ⟨f,g,e,rfl⟩
   rintro _ ⟨f,g,e,rfl⟩;fin2;rw[show((4+5*i:Nat):Int)+5=((4+5*(i+1):Nat):Int) by lia];exact b6 _ ⟨f,_,_,_,e,rfl⟩
  .rintro _ ⟨f,s,q,g,e,rfl⟩;exact u _ ⟨f,_,_,_,_,e,rfl⟩
 rintro _ ⟨f,o3,s,q,g,e,rfl⟩;fin2;exact v f e
noncomputable def qp:List CS:=[.set 2 (.call 0 [(.var 0),(.int 26)]),.set 3 (.bin .Mod (.ix (.var 2) (.int 24)) (.int 6)),.iff (.cmp .Lt (.var 3) (.int 3)) [.ret (.call 1 [(.var 2),(.int 1),(.bin .Add (.int 1) (.bin .Mod (.ix (.var 2) (.int 0)) (.int 9))),(.var 1)])] [],.iff (.cmp .Eq (.var 3) (.int 3)) [.ret (.call 2 [(.var 2),(.var 1)])] [],.set 4 (.call 1 [(.var 2),(.int 1),(.bin .Add (.int 1) (.bin .Mod (.ix (.var 2) (.int 0)) (.int 4))),(.var 1)]),.set 5 (.call 1 [(.var 2),(.int 6),(.bin .Add (.int 1) (.bin .Mod (.ix (.var 2) (.int 5)) (.int 4))),(.var 1)]),.iff (.cmp .Eq (.var 3) (.int 4)) [.set 5 (.blt .list [(.var 4)])] [],.set 4 (.call 3 [(.var 4),(.var 5),(.var 1)]),.iff (.and [(.cmp .LtE (.bin .Add (.blt .len [(.var 4)]) (.blt .len [(.var 5)])) (.int 11)),(.cmp .Eq (.bin .Mod (.ix (.var 2) (.int 25)) (.int 2)) (.int 1))]) [.set 4 (.call 3 [(.var 4),(.var 5),(.var 1)])] [],.ret (.var 4)]
noncomputable def uY:aT:=λa Q _=>∃(c:Int)(p:Nat),a=[.int c,.int p]/\(af p/\p<2^40)/\∀r,M9 p r->Q (wI r)
theorem Fo{G:Nat->W}{m:Md}(I:List W)(Q:W->Prop)(R:Addr->Prop)(h:uY I Q R):wSs (bw [j9,yV,Ci,aV]) G qp (aX m Q R) (aq 6 I):=by
 obtain⟨c,p,rfl,⟨u,E⟩,C⟩:=h;show wSs _ _ qp _ [some (.int c),some (.int p),none,none,none,none];unfold qp;have S:=u.1;refine ai (λe=>∃j:List Int,j.length=26/\e=[some (.int c),some (.int p),some (wI j),none,none,none]) (λN g=>?_) ?_
 .fin2;exact⟨c,26,rfl,by decide,λj l _=>g _ ⟨j,l,rfl⟩⟩
 rintro _ ⟨j,L,rfl⟩;have B:∀{K:W->Prop}{n:Nat},n<26->(∀x:Int,K (.int x))->∃w,i8 (j.map W.int) (n:Int)=some w/\K w:=λ{K n} T D=>⟨_,aO (int_at (by lia)),D _⟩;refine ai (λe=>∃y:Int,e=[some (.int c),some (.int p),some (wI j),some (.int y),none,none]) (λN g=>?_) ?_
 .unfold wI at g⊢;fin2;refine B (n:=24) (by decide) λx=>?_;fin2;exact⟨by decide,g _ ⟨_,rfl⟩⟩
 rintro _ ⟨y,rfl⟩;have mon:∀{K:W->Prop}{R:Addr->Prop}(n i k:Nat),n+k<=26->i<26->0<k->k<=9->(∀r,Mn p r->2<=r.length->r.length<=k+1->K (wI r))->∃w,i8 (j.map W.int) (i:Int)=some w/\dJ .Mod w (.int (k:Nat)) λz=>dJ .Add (.int 1) z λd=>yV [.lst (j.map W.int),.int (n:Nat),d,.int p] K R:=λ{K R} n i k l o q U D=>by refine B o λx=>⟨by lia,?_⟩;have f:=fm (x:=x) (n:=(k:Nat)) (by lia);show yV [.lst (j.map W.int),.int (n:Nat),.int (1+x.fmod (k:Nat)),.int p] K R;generalize x.fmod (k:Nat)=y at*;obtain⟨d,M⟩:∃d:Nat,1+y=d:=⟨(1+y).toNat,by lia⟩;rw[M];exact⟨j,n,d,p,rfl,⟨by lia,by lia,by lia⟩,λr l o=>D r l (by lia) (by lia)⟩
 refine ai (λe=>e=[some (.int c),some (.int p),some (wI j),some (.int y),none,none]) (λN g=>?_) ?_
 .have g:=g _ rfl;unfold wI at g⊢;fin2;by_cases z:y<3
  .rw[Bz (DL z)];exact mon 1 0 9 (by decide) (by decide) (by decide) (by decide) λr l o q=>C r ⟨l,o,q⟩
  .rw[Bi (by rw[FS];exact z)];exact g
 rintro _ rfl;refine ai (λe=>e=[some (.int c),some (.int p),some (wI j),some (.int y),none,none]) (λN g=>?_) ?_
 .have g:=g _ rfl;fin2;by_cases z:y=3
  .rw[Bz (DL z)];exact⟨j,p,rfl,⟨u,E,L⟩,C⟩
  .rw[Bi (by rw[FS];exact z)];exact g
 rintro _ rfl;refine ai (λe=>∃a:List Int,(Mn p a/\2<=a.length/\a.length<=5)/\e=[some (.int c),some (.int p),some (wI j),some (.int y),some (wI a),none]) (λN g=>?_) ?_
 .unfold wI at g⊢;fin2;exact mon 1 0 4 (by decide) (by decide) (by decide) (by decide) λr l o q=>g _ ⟨r,⟨l,o,q⟩,rfl⟩
 rintro _ ⟨a,⟨A,a2,P⟩,rfl⟩;refine ai (λe=>∃b:List Int,(Mn p b/\2<=b.length/\b.length<=5)/\e=[some (.int c),some (.int p),some (wI j),some (.int y),some (wI a),some (wI b)]) (λN g=>?_) ?_
 .unfold wI at g⊢;fin2;exact mon 6 5 4 (by decide) (by decide) (by decide) (by decide) λr l o q=>g _ ⟨r,⟨l,o,q⟩,rfl⟩
 rintro _ ⟨b,O,rfl⟩;refine ai (λe=>∃b:List Int,(Mn p b/\2<=b.length/\b.length<=5)/\e=[some (.int c),some (.int p),some (wI j),some (.int y),some (wI a),some (wI b)]) (λN g=>?_) ?_
 .have l:=g _ ⟨b,O,rfl⟩;have o:=g _ ⟨a,⟨A,a2,P⟩,rfl⟩;unfold wI at l o⊢;fin2;by_cases z:y=4
  .rw[Bz (DL z)];exact o
  .rw[Bi (by rw[FS];exact z)];exact l
 rintro _ ⟨b,⟨t,J,Y⟩,rfl⟩;refine ai (λe=>∃a:List Int,M9 p a/\e=[some (.int c),some (.int p),some (wI j),some (.int y),some (wI a),some (wI b)]) (λN g=>?_) ?_
 .fin2;exact⟨a,b,p,rfl,⟨by lia,E,by lia,by lia,A.r,t.r⟩,λv l o q=>g _ ⟨v,uX u ⟨A,a2,by lia⟩ t J (by lia) l o,rfl⟩⟩
 rintro _ ⟨a,s,rfl⟩;have Z:=s.Pb;refine ai (λe=>∃a:List Int,M9 p a/\e=[some (.int c),some (.int p),some (wI j),some (.int y),some (wI a),some (wI b)]) (λN g=>?_) ?_
 .have H:=g _ ⟨a,s,rfl⟩;unfold wI at g H⊢;fin2;rw[AN,AN];by_cases z:(a.length:Int)+(b.length:Int)<=11
  .rw[Bz (DL z)];refine B (n:=25) (by decide) λx=>?_;fin2;refine⟨by decide,?_⟩;split
   .exact⟨a,b,p,rfl,⟨by lia,E,by lia,by lia,s.m.r,t.r⟩,λv l o q=>g _ ⟨v,uX u s t J (by lia) l o,rfl⟩⟩
   .exact H
  .rw[Bi (by rw[FS];exact z)];fin2;exact H
 rintro _ ⟨a,s,rfl⟩;fin2;exact C a s
noncomputable def Cj:List CS:=[.iff (.not (.blt .sU [(.var 0),(.vG "list")])) [.ret (.bl false)] [],.fr [2] true (.var 0) [.iff (.or [(.not (.call 0 [(.var 2)])),(.not (.kT .LtE .Lt (.int 0) (.var 2) (.var 1)))]) [.ret (.bl false)] []],.ret (.or [(.cmp .Eq (.var 0) (.lst [])),(.cmp .NotEq (.ix (.var 0) (.neg (.int 1))) (.int 0))])]
noncomputable def Fq:aT:=λb Q _=>∃(a:List Int)(p:Nat),b=[wI a,.int p]/\Rm p a/\Q (.bl true)
theorem Pc{G:Nat->W}{m:Md}(g:List W)(Q:W->Prop)(R:Addr->Prop)(h:Fq g Q R):wSs (bw [lV]) G Cj (aX m Q R) (aq 3 g):=by
 obtain⟨a,p,rfl,j,f⟩:=h;show wSs _ _ Cj _ [some (wI a),some (.int p),none];unfold Cj;refine ai (λc=>c=[some (wI a),some (.int p),none]) (λN d=>?_) ?_
 .have d:=d _ rfl;unfold wI at d⊢;fin2;rw[wD];refine⟨_,rfl,?_⟩;rw[show oY "list" "list"=true from rfl];fin2;exact d
 rintro _ rfl;refine ai (λc=>∃o,c=[some (wI a),some (.int p),o]) (λN d=>?_) ?_
 .refine eY (l:=a.map W.int) (λQ f=>?_) ?_
  .unfold wI;fin2;exact f
  refine aP (λi s=>∃o,s=[some (wI a),some (.int p),o]) ⟨none,rfl⟩ ?_ ?_
  .rintro i w _ B n ⟨o,rfl⟩ A;rw[Da]at n;obtain⟨x,v,rfl⟩:=IR.mp n;have r:=j.b x (On v);fin2;refine⟨x,rfl,?_⟩;fin2;rw[DL r.1];fin2;rw[DL r.2];fin2;exact A _ ⟨_,rfl⟩
  .rintro _ ⟨o,rfl⟩;exact d _ ⟨o,rfl⟩
 rintro _ ⟨o,rfl⟩;fin2;refine⟨ak (by simp),uA (y:=[]) λk q=>?_⟩;fin2;by_cases e:a=[]
 .cases fy q e;rw[Bz rfl];exact f
 .cases eW q e;rw[Bi (by decide)];have t:=j.z.resolve_left e;have u:=Hc.mpr e;unfold wI;fin2;refine⟨_,nV u,?_⟩;fin2;rw[Jn t];exact f
noncomputable def uZ:List CS:=[.ret (.tup [(.blt .len [(.var 0)]),(.Jh (.var 0) (.neg (.int 1)))])]
noncomputable def P9(x:List Int):W:=.tup [.int (x.length:Nat),.lst (x.reverse.map W.int)]
noncomputable def xq:aT:=λb Q _=>∃a:List Int,b=[wI a]/\Q (P9 a)
theorem LC{d:Nat->aT}{G:Nat->W}{m:Md}(b:List W)(Q:W->Prop)(R:Addr->Prop)(h:xq b Q R):wSs d G uZ (aX m Q R) (aq 1 b):=by obtain⟨a,rfl,c⟩:=h;show wSs _ _ uZ _ [some (wI a)];unfold uZ wI;unfold P9 at c;fin2;rw[AN,<-VG];exact⟨rfl,ak (by simp),c⟩
noncomputable def Ck:List CS:=[.iff (.or [(.not (.blt .sU [(.var 2),(.vG "tuple")])),(.cmp .NotEq (.blt .len [(.var 2)]) (.int 2)),(.not (.call 0 [(.ix (.var 2) (.int 0)),(.var 1)]))]) [.ret (.bl false)] [],.iff (.or [(.not (.call 1 [(.ix (.var 2) (.int 1))])),(.cmp .Lt (.ix (.var 2) (.int 1)) (.int 1)),(.cmp .Lt (.blt .len [(.ix (.var 2) (.int 0))]) (.int 2)),(.cmp .NotEq (.ix (.ix (.var 2) (.int 0)) (.neg (.int 1))) (.int 1))]) [.ret (.bl false)] []]
noncomputable def qq:List CS:=[.iff (.or [(.not (.blt .sU [(.var 0),(.vG "list")])),(.cmp .Eq (.var 0) (.lst []))]) [.ret (.bl false)] [],.fr [2] true (.var 0) Ck,.set 3 (.comp [0] true 1 (.var 0) (.bl true) (.call 2 [(.ix (.var 0) (.int 0))])),.ret (.blt .all [(.comp [0] true 1 (.gJ [(.bin .Sub (.blt .len [(.var 3)]) (.int 1))]) (.bl true) (.cmp .Lt (.ix (.var 4) (.var 0)) (.ix (.var 4) (.bin .Add (.var 0) (.int 1)))))])]
structure Pt(p:Nat)(L:List (List Int×Nat)):Prop where
 ne:L≠[]
 len:L.length<=60
 all:∀x∈L,Mn p x.1/\2<=x.1.length/\1<=x.2
 up:L.Pairwise Fd
 pw:L.Pairwise λx y=>x.1≠y.1
noncomputable def u0:aT:=λa Q _=>∃(L:List (List Int×Nat))(p:Nat),a=[.lst (L.map pW),.int p]/\Pt p L/\Q (.bl true)
theorem yW(L:List (List Int×Nat)):qE 9 (.lst (L.map pW))=true:=by dsimp only[qE];rw[He];intro w a;obtain⟨x,_,rfl⟩:=IH.mp a;unfold pW wI;dsimp only[qE];rw[Gg,Gg,j4];dsimp only[qE];rw[Ap];refine⟨?_,rfl⟩;rw[He];intro w a;obtain⟨i,_,rfl⟩:=IH.mp a;exact j4 i _
theorem LD{x y:List Int×Nat}(h:Fd x y)(n:x.1≠y.1):(if(x.1.length:Int)=(y.1.length:Int)then HT.lexLt x.1.reverse y.1.reverse else decide ((x.1.length:Int)<(y.1.length:Int)))=true:=by
 rcases h with h|⟨e,h|⟨h,_⟩⟩
 .rw[Bi (by lia)];exact DL (by lia)
 .rw[Bz (by lia)];exact(qh _ _).mpr h
 .exact(n h).elim
theorem Pd{G:Nat->W}{D:Dn}{p:Nat}{x:List Int×Nat}{a o3:Option W}(d:Mn p x.1)(e:2<=x.1.length)(f:1<=x.2)(b:D.nx [a,some (.int p),some (pW x),o3]):wSs (bw [Fq,lV,xq]) G Ck D [a,some (.int p),some (pW x),o3]:=by
 unfold Ck;unfold pW at b⊢;refine ai (λc=>c=[a,some (.int p),some (.tup [wI x.1,.int (x.2:Nat)]),o3]) (λN b=>?_) ?_
 .have b:=b _ rfl;fin2;rw[wD];refine⟨_,rfl,?_⟩;rw[show oY "tuple" "tuple"=true from rfl];fin2;rw[DL (show(([wI x.1,W.int (x.2:Nat)]:List W).length:Int)=2 from rfl)];fin2;refine⟨_,rfl,x.1,p,rfl,d.r,?_⟩;fin2;exact b
 rintro _ rfl;fin2;refine⟨_,rfl,x.2,rfl,?_⟩;fin2;refine⟨_,rfl,?_⟩;fin2;rw[Bi (by rw[FS];lia)];refine⟨_,rfl,?_⟩;unfold wI at b⊢;fin2;rw[AN,Bi (by rw[FS];lia)];refine⟨_,rfl,?_⟩;fin2;refine⟨_,nV (by lia),?_⟩;fin2;rw[d.one];exact b
theorem Ft{G:Nat->W}{m:Md}(r:List W)(Q:W->Prop)(R:Addr->Prop)(h:u0 r Q R):wSs (bw [Fq,lV,xq]) G qq (aX m Q R) (aq 4 r):=by
 obtain⟨L,p,rfl,c,j⟩:=h;show wSs _ _ qq _ [some (.lst (L.map pW)),some (.int p),none,none];unfold qq;have C:=c.len;refine ai (λa=>a=[some (.lst (L.map pW)),some (.int p),none,none]) (λN b=>?_) ?_
 .have b:=b _ rfl;fin2;rw[wD];refine⟨_,rfl,?_⟩;rw[show oY "list" "list"=true from rfl];fin2;refine⟨ak (by simp),?_⟩;rw[Oz];refine⟨.inl ⟨yW L,rfl⟩,λk z=>?_⟩;cases eW z (λe=>c.ne (by have:=W.Au e;simpa using this));exact b
 rintro _ rfl;refine ai (λa=>∃o,a=[some (.lst (L.map pW)),some (.int p),o,none]) (λN b=>?_) ?_
 .refine eY (l:=L.map pW) (λQ j=>?_) ?_
  .fin2;exact j
  refine aP (λi v=>∃o,v=[some (.lst (L.map pW)),some (.int p),o,none]) ⟨none,rfl⟩ ?_ ?_
  .rintro i w _ D t ⟨o,rfl⟩ A;rw[Da]at t;obtain⟨x,s,rfl⟩:=IR.mp t;obtain⟨y,d,f⟩:=c.all x (On s);exact Pd y d f (A _ ⟨_,rfl⟩)
  .rintro _ ⟨o,rfl⟩;exact b _ ⟨o,rfl⟩
 rintro _ ⟨o,rfl⟩;refine ai (λa=>a=[some (.lst (L.map pW)),some (.int p),o,some (.lst (L.map λx=>P9 x.1))]) (λN b=>?_) ?_
 .have b:=b _ rfl;fin2;refine eV (g:=λx:List Int×Nat=>P9 x.1) L [] _ (λx s K q=>?_) (by have:=ak (n:=L.length) (by lia);simpa using this) ?_
  .fin2;refine⟨_,rfl,x.1,rfl,q⟩
  .exact b
 rintro _ rfl;obtain⟨n,B⟩:∃n,L.length=n+1:=⟨L.length -1,by have:=Hc.mpr c.ne;lia⟩;fin2;rw[AN,show(L.length:Int) -1=(n:Nat) by lia];refine⟨by lia,by lia,?_⟩;rw[F1];unfold cj;refine eV (g:=λ_:Nat=>W.bl true) (Ea n) [] _ (λi u K q=>?_) (by have:=ak (n:=n) (by lia);simpa using this) ?_
 .have u:=Kb.mp u;have f:i<L.length:=by lia
  have d:i+1<L.length:=by lia
  fin2;rw[show(0:Int)+(i:Int)*1=((i:Nat):Int) by lia,show((i:Nat):Int)+1=((i+1:Nat):Int) by lia];refine⟨_,aO (by rw[Da,B1 f];rfl),?_⟩;refine⟨_,aO (by rw[Da,B1 d];rfl),?_⟩;refine⟨_,_,_,_,rfl,rfl,?_⟩;rw[LD (WA.mp c.up i (i+1) f d (by lia)) (WA.mp c.pw i (i+1) f d (by lia))];exact q
 .rw[Ox];refine⟨(Ea n).map λ_=>true,by rw[W9];rfl,?_⟩;rw[all_true];exact j
noncomputable def Cm:List CS:=[.iff (.cmp .Eq (.bin .Mod (.var 1) (.int 2)) (.int 1)) [.set 4 (.call 0 [(.call 1 [(.var 4),(.var 0),(.var 3)]),(.var 2),(.var 3)])] [],.set 0 (.call 0 [(.call 1 [(.var 0),(.var 0),(.var 3)]),(.var 2),(.var 3)]),.set 1 (.bin .FloorDiv (.var 1) (.int 2))]
noncomputable def Cn:List CS:=[.set 4 (.call 0 [(.lst [(.int 1)]),(.var 2),(.var 3)]),.nM (.cmp .Gt (.var 1) (.int 0)) Cm,.ret (.var 4)]
structure VM(p:Nat)(row o:List Int):Prop where
 pr:af p
 bW:p<2^40
 r:Rm p row
 mo:Mn p o
 j6:o.length<=50
 lr:row.length<=50
noncomputable def Fv:aT:=λb Q _=>∃(a o:List Int)(e p:Nat),b=[wI a,.int e,wI o,.int p]/\VM p a o/\∀r,Rm p r->r.length<o.length->Dd (fL p o) (fL p r -fL p a^e)->Q (wI r)
theorem Hy{a b o:List Int}{p:Nat}{K:W->Prop}{R:Addr->Prop}(c:0<p)(d:p<2^40)(i:Rm p a)(g:Rm p b)(mo:Mn p o)(q:o.length<=50)(t:a.length<=50)(s:b.length<=50)
 (h:∀r,Rm p r->r.length<o.length->Dd (fL p o) (fL p r -fL p a*fL p b)->K (wI r)):aV [wI a,wI b,.int p] (λx=>g8 [x,wI o,.int p] K R) R:=by
 refine⟨a,b,p,rfl,⟨c,d,by lia,by lia,i,g⟩,λj f e l=>?_⟩;refine⟨j,o,p,rfl,⟨c,d,f,mo,by lia,by lia⟩,λr n m k=>h r n m ?_⟩;rw[<-e];exact k
theorem Co{p:Nat}(p2:2<=p):Rm p [1]:=⟨λx a=>by rw[Ee.mp a];exact⟨by decide,by lia⟩,.inr (by show(1:Int)≠0;decide)⟩
theorem Pe{G:Nat->W}{m:Md}(K:List W)(Q:W->Prop)(R:Addr->Prop)(h:Fv K Q R):wSs (bw [g8,aV]) G Cn (aX m Q R) (aq 5 K):=by
 obtain⟨a,o,E,p,rfl,⟨hp,I,S,mo,M,Y⟩,hq⟩:=h;show wSs _ _ Cn _ [some (wI a),some (.int E),some (wI o),some (.int p),none];unfold Cn;have p2:=hp.1;have x:0<p:=by lia
 refine ai (λc=>∃r,(Rm p r/\r.length<o.length/\Dd (fL p o) (fL p r -1))/\c=[some (wI a),some (.int E),some (wI o),some (.int p),some (wI r)]) (λN D=>?_) ?_
 .fin2;refine⟨ak (by simp),[1],o,p,rfl,⟨x,I,Co (by lia),mo,by simp,by lia⟩,λr l k j=>D _ ⟨r,⟨l,k,?_⟩,rfl⟩⟩;rw[fM]at j;exact j
 rintro _ ⟨L,⟨y,VN,U,LW⟩,rfl⟩;refine ai (λc=>∃(b r:List Int)(o1:Option W),(Rm p r/\r.length<o.length/\Dd (fL p o) (fL p r -fL p a^E))/\c=[some (wI b),o1,some (wI o),some (.int p),some (wI r)]) (λN D=>?_) ?_
 .refine d9 (α:=List Int×Nat×List Int) (λs=>[some (wI s.1),some (.int s.2.1),some (wI o),some (.int p),some (wI s.2.2)]) (λs=>Rm p s.1/\s.1.length<=50/\Rm p s.2.2/\s.2.2.length<o.length/\Dd (fL p o) (fL p s.2.2*fL p s.1^s.2.1 -fL p a^E)) (λs=>s.2.1) (a,E,L) rfl ⟨S,Y,y,VN,U*fL p a^E,by show fL p L*fL p a^E -fL p a^E=_;grind⟩ ?_;rintro⟨b,e,r⟩ ⟨v,t,u,J,q,i⟩;dsimp only at v t u J i⊢;fin2;refine bI (λB=>?_) (λB=>?_)
  .have O:=Bn B;unfold Cm;refine ai (λc=>∃d,(Rm p d/\d.length<o.length/\Dd (fL p o) (fL p d -fL p r*fL p b^(e%2)))/\c=[some (wI b),some (.int e),some (wI o),some (.int p),some (wI d)]) (λN1 w=>?_) ?_
   .fin2;refine⟨by decide,?_⟩;by_cases g:(e:Int).fmod 2=1
    .rw[Bz (DL g)];have H:e%2=1:=by rw[Num.fmod_eq]at g;lia
     refine Hy x I u v mo M (by lia) t λd l k j=>w _ ⟨d,⟨l,k,?_⟩,rfl⟩;rw[H,show fL p b^1=fL p b by rw[aA,D2];grind];exact j
    .rw[Bi (by rw[FS];exact g)];have H:e%2=0:=by rw[Num.fmod_eq]at g;lia
     refine w _ ⟨r,⟨u,J,0,?_⟩,rfl⟩;rw[H,D2];grind
   rintro _ ⟨d,⟨z,OP,T,A⟩,rfl⟩;refine ai (λc=>∃f,(Rm p f/\f.length<o.length/\Dd (fL p o) (fL p f -fL p b*fL p b))/\c=[some (wI f),some (.int e),some (wI o),some (.int p),some (wI d)]) (λN1 w=>?_) ?_
   .fin2;exact Hy x I v v mo M t t λf l k j=>w _ ⟨f,⟨l,k,j⟩,rfl⟩
   rintro _ ⟨f,⟨C,Z,QL⟩,rfl⟩;have P:fL p b^e=fL p b^(e%2)*(fL p b*fL p b)^(e/2):=by
    have e3:e=e%2+2*(e/2):=by lia
    have e4:fL p b*fL p b=fL p b^2:=by rw[aA,aA,D2];grind
    rw[e4,<-pow_mul]
    conv=>lhs;rw[e3]
    exact W4 _ _ _
   fin2;refine⟨⟨by decide,gf (n:=5) (by decide) (by decide)⟩,?_⟩;rw[show(e:Int).fdiv 2=((e/2:Nat):Int) by rw[Oy _ (by decide)];lia];refine⟨(f,e/2,d),rfl,⟨C,by show f.length<=50;lia,z,OP,?_⟩,by show e/2<e;lia⟩;show Dd (fL p o) (fL p d*fL p f^(e/2) -fL p a^E);have k1:=mk_eq.mpr QL;refine mk_eq.mp ?_;have k2:Qt.mk (Pr (fL p o)) (fL p d)=Qt.mk (Pr (fL p o)) (fL p r*fL p b^(e%2)):=mk_eq.mpr ⟨T,A⟩;have k3:Qt.mk (Pr (fL p o)) (fL p r*fL p b^e)=Qt.mk (Pr (fL p o)) (fL p a^E):=mk_eq.mpr ⟨q,i⟩;rw[<-k3,P,<-Qt.mul,<-Qt.mul,<-Qt.mul,cF,k1,k2,<-cF,<-Qt.mul];grind
  .have O:e=0:=by have:=SU B;lia
   rw[O,D2]at i;exact D _ ⟨b,r,_,⟨u,J,q,by rw[<-i];grind⟩,rfl⟩
 rintro _ ⟨b,r,o1,⟨l,k,j⟩,rfl⟩;fin2;exact hq r l k j
noncomputable def Hz:List CS:=[.iff (.cmp .Eq (.bin .Mod (.var 4) (.int 2)) (.int 1)) [.set 2 (.bin .Mod (.bin .Mult (.var 2) (.var 3)) (.var 1))] [],.set 3 (.bin .Mod (.bin .Mult (.var 3) (.var 3)) (.var 1)),.set 4 (.bin .FloorDiv (.var 4) (.int 2))]
noncomputable def u5:List CS:=[.set 2 (.int 1),.set 3 (.ix (.var 0) (.neg (.int 1))),.set 4 (.bin .Sub (.var 1) (.int 2)),.nM (.cmp .Gt (.var 4) (.int 0)) Hz,.ret (.comp [0] true 1 (.var 0) (.bl true) (.bin .Mod (.bin .Mult (.var 0) (.var 3)) (.var 2)))]
structure Tu(p:Nat)(row r:List Int):Prop where
 m:Mn p r
 len:r.length=row.length
 d:Dd (fL p r) (fL p row)
noncomputable def Cp:aT:=λb Q _=>∃(a:List Int)(p:Nat),b=[wI a,.int p]/\(af p/\p<2^40/\Rm p a/\a≠[]/\a.length<=100)/\∀r,Tu p a r->Q (wI r)
theorem LF{p:Nat}{x y:Int}(h:(p:Int)∣x -y):((x:Int):F p)=((y:Int):F p):=by have:=(bE (p:=p)).mpr h;rw[WX]at this;grind
theorem sI{p:Nat}(x:Int):((x%(p:Int):Int):F p)=((x:Int):F p):=LF (jD x p)
theorem qt{p:Nat}(x y:Int):((x*y:Int):F p)=((x:Int):F p)*((y:Int):F p):=NF _ _
theorem LG{p:Nat}(a:af p){c:Int}(h:¬(p:Int)∣c):((c:Int):F p)^(p -2)*((c:Int):F p)=1:=by
 have d:=a.1;have e:=(F.chr a).int 1 c;obtain⟨n,rfl⟩:∃n,p=n+2:=⟨p -2,by lia⟩;rw[XA,aA,aA]at e;rw[Kj];have b:((c:Int):F (n+2))≠0:=λz=>h (bE.mp z);generalize((c:Int):F (n+2))^n=u at*;generalize((c:Int):F (n+2))=v at*;rcases F.G4 a v (u*v -1) (by grind)with z|z
 .exact absurd z b
 .grind
theorem LH{U:Nat->aT}{G:Nat->W}{m:Md}(I:List W)(Q:W->Prop)(R:Addr->Prop)(h:Cp I Q R):wSs U G u5 (aX m Q R) (aq 5 I):=by
 obtain⟨a,p,rfl,⟨M,bW,w,T,lr⟩,hq⟩:=h;show wSs _ _ u5 _ [some (wI a),some (.int p),none,none,none];unfold u5;have p2:=M.1;have L:=Hc.mpr T;have Z:=w.z.resolve_left T;have S:=bT (p:=p) (by lia) w.b (a.length -1);generalize O:a.getD (a.length -1) 0=c at*;have nd:¬(p:Int)∣c:=λz=>Z (mod_eq S ⟨by decide,by lia⟩ (by rw[WL];exact z));refine ai (λd=>d=[some (wI a),some (.int p),some (.int 1),none,none]) (λN f=>?_) ?_
 .fin2;exact f _ rfl
 rintro _ rfl;refine ai (λd=>d=[some (wI a),some (.int p),some (.int 1),some (.int c),none]) (λN f=>?_) ?_
 .have f:=f _ rfl;unfold wI at f⊢;fin2;exact⟨_,nV L,by rw[O];exact f⟩
 rintro _ rfl;refine ai (λd=>d=[some (wI a),some (.int p),some (.int 1),some (.int c),some (.int ((p -2:Nat):Int))]) (λN f=>?_) ?_
 .fin2;rw[show(p:Int) -2=((p -2:Nat):Int) by lia];exact f _ rfl
 rintro _ rfl;refine ai (λd=>∃(y:Int)(o3 J:Option W),((0<=y/\y<p)/\((y:Int):F p)*((c:Int):F p)=1)/\d=[some (wI a),some (.int p),some (.int y),o3,J]) (λN f=>?_) ?_
 .refine d9 (α:=Int×Int×Nat) (λs=>[some (wI a),some (.int p),some (.int s.1),some (.int s.2.1),some (.int (s.2.2:Nat))]) (λs=>(0<=s.1/\s.1<p)/\(0<=s.2.1/\s.2.1<p)/\((s.1:Int):F p)*((s.2.1:Int):F p)^s.2.2=((c:Int):F p)^(p -2)) (λs=>s.2.2) (1,c,p -2) rfl ⟨⟨by show(0:Int)<=1;decide,by show(1:Int)<p;lia⟩,S,by show(((1:Int):Int):F p)*((c:Int):F p)^(p -2)=_;rw[SC];grind⟩ ?_;rintro⟨y,z,e⟩ ⟨r,hz,t⟩;dsimp only at r hz t⊢;fin2;refine bI (λD=>?_) (λD=>?_)
  .have P:=Bn D;unfold Hz;refine ai (λd=>∃k:Int,((0<=k/\k<p)/\((k:Int):F p)=((y:Int):F p)*((z:Int):F p)^(e%2))/\d=[some (wI a),some (.int p),some (.int k),some (.int z),some (.int (e:Nat))]) (λN1 v=>?_) ?_
   .fin2;refine⟨by decide,?_⟩;by_cases j:(e:Int).fmod 2=1
    .rw[Bz (DL j)];have H:e%2=1:=by rw[Num.fmod_eq]at j;lia
     refine⟨cz (p:=p) (by lia) r hz,by lia,?_⟩;rw[HI _ (by lia)];refine v _ ⟨_,⟨jL (by lia) _,?_⟩,rfl⟩;rw[sI,qt,H,show((z:Int):F p)^1=((z:Int):F p) by rw[aA,D2];grind]
    .rw[Bi (by rw[FS];exact j)];have H:e%2=0:=by rw[Num.fmod_eq]at j;lia
     refine v _ ⟨y,⟨r,?_⟩,rfl⟩;rw[H,D2];grind
   rintro _ ⟨k,⟨B,E⟩,rfl⟩;refine ai (λd=>∃o:Int,((0<=o/\o<p)/\((o:Int):F p)=((z:Int):F p)*((z:Int):F p))/\d=[some (wI a),some (.int p),some (.int k),some (.int o),some (.int (e:Nat))]) (λN1 v=>?_) ?_
   .fin2;refine⟨cz (p:=p) (by lia) hz hz,by lia,?_⟩;rw[HI _ (by lia)];exact v _ ⟨_,⟨jL (by lia) _,by rw[sI,qt]⟩,rfl⟩
   rintro _ ⟨o,⟨A,ez⟩,rfl⟩;fin2;refine⟨⟨by decide,gf (n:=5) (by decide) (by decide)⟩,?_⟩;rw[show(e:Int).fdiv 2=((e/2:Nat):Int) by rw[Oy _ (by decide)];lia];refine⟨(k,o,e/2),rfl,⟨B,A,?_⟩,by show e/2<e;lia⟩;show((k:Int):F p)*((o:Int):F p)^(e/2)=_;rw[E,ez,<-t];have e3:e=e%2+2*(e/2):=by lia
   have e4:((z:Int):F p)*((z:Int):F p)=((z:Int):F p)^2:=by rw[aA,aA,D2];grind
   have Y:((z:Int):F p)^e=((z:Int):F p)^(e%2)*((z:Int):F p)^(2*(e/2)):=by
    conv=>lhs;rw[e3]
    exact W4 _ _ _
   rw[e4,<-pow_mul,Y];grind
  .have P:e=0:=by have:=SU D;lia
   rw[P,D2]at t;refine f _ ⟨y,_,_,⟨r,?_⟩,rfl⟩;rw[show((y:Int):F p)=((y:Int):F p)*1 by grind,t];exact LG M nd
 rintro _ ⟨y,o3,J,⟨r,E⟩,rfl⟩;have q:=hq (a.map λx=>x*y%p) ?_
 .unfold wI at q⊢;fin2;refine eV (g:=λx:Int=>W.int (x*y%p)) a [] _ (λx C K hK=>?_) (by have:=ak (n:=a.length) (by lia);simpa using this) ?_
  .fin2;refine⟨cz (p:=p) (by lia) (w.b x C) r,by lia,?_⟩;rw[HI _ (by lia)];exact hK
  .rw[W9]at q;exact q
 .have g:∀i,(a.map λx=>x*y%(p:Int)).getD i 0=a.getD i 0*y%p:=λi=>by
   rw[AC,AC,Da];cases a[i]? with
   |none=>show(0:Int)=0*y%p;rw[SF,Wn]
   |some x=>rfl
  have one:(a.map λx=>x*y%(p:Int)).getD (a.length -1) 0=1:=by rw[g,O];have d1:(p:Int)∣c*y -1:=bE.mp (by rw[WX,qt,SC];grind);exact mod_eq (jL (by lia) _) ⟨by decide,by lia⟩ (by have:=Qb (jD (c*y) p) d1;generalize c*y%(p:Int)=u at*;rw[show u -1=u -c*y+(c*y -1) by lia];exact this)
  have fe:fL p (a.map λx=>x*y%(p:Int))=((y:Int):F p)*fL p a:=Hf λi=>by rw[g,SL y];exact jD _ p
  have l:(a.map λx=>x*y%(p:Int)).getD ((a.map λx=>x*y%(p:Int)).length -1) 0=1:=by rw[AN];exact one
  refine⟨⟨⟨λx C=>?_,.inr (by rw[l];decide)⟩,by rw[AN];exact L,l⟩,AN _,((c:Int):F p),?_⟩
  .obtain⟨z,_,rfl⟩:=IH.mp C;exact jL (by lia) _
  .rw[fe];have:fL p a=((y:Int):F p)*((c:Int):F p)*fL p a:=by rw[E];grind
   grind
noncomputable def Cq:List CS:=[.set 0 (.call 0 [(.var 0),(.var 2)]),.par [0,1] [(.call 1 [(.var 1),(.var 0),(.var 2)]),(.var 0)]]
noncomputable def Cr:List CS:=[.nM (.cmp .NotEq (.var 0) (.lst [])) Cq,.ret (.cmp .Eq (.blt .len [(.var 1)]) (.int 1))]
structure R3(p:Nat)(a b:List Int):Prop where
 ra:Rm p a
 rb:Rm p b
 la:a.length<=100
 lb:b.length<=100
 ap:∃u v:F p,u*fL p a+v*fL p b=1
noncomputable def Fw:aT:=λc Q _=>∃(a b:List Int)(p:Nat),c=[wI a,wI b,.int p]/\(af p/\p<2^40/\R3 p a b)/\Q (.bl true)
theorem Pg{G:Nat->W}{m:Md}(o:List W)(Q:W->Prop)(R:Addr->Prop)(h:Fw o Q R):wSs (bw [Cp,g8]) G Cr (aX m Q R) (aq 3 o):=by
 obtain⟨a,b,p,rfl,⟨j,B,L⟩,H⟩:=h;show wSs _ _ Cr _ [some (wI a),some (wI b),some (.int p)];unfold Cr;have O:=j.1;refine ai (λi=>∃x y:List Int,(R3 p x y/\x=[])/\i=[some (wI x),some (wI y),some (.int p)]) (λN I=>?_) ?_
 .refine d9 (α:=List Int×List Int) (λs=>[some (wI s.1),some (wI s.2),some (.int p)]) (λs=>R3 p s.1 s.2) (λs=>s.1.length) (a,b) rfl L ?_;rintro⟨x,y⟩ h;dsimp only at h⊢;fin2;refine⟨ak (by simp),Hj (y:=[]) λk A=>?_⟩;fin2;refine bI (λf=>?_) (λf=>?_)
  .have C:x≠[]:=λz=>by rw[A.mpr z]at f;cases f
   have la:=h.la;have lb:=h.lb;unfold Cq;refine ai (λi=>∃g,Tu p x g/\i=[some (wI g),some (wI y),some (.int p)]) (λU M=>?_) ?_
   .fin2;exact⟨x,p,rfl,⟨j,B,h.ra,C,la⟩,λr E=>M _ ⟨r,E,rfl⟩⟩
   rintro _ ⟨g,c,rfl⟩;have P:=c.len;fin2;refine⟨y,g,p,rfl,⟨by lia,B,h.rb,c.m,lb,by lia⟩,λr K T J=>?_⟩;fin2;refine⟨rfl,(r,g),rfl,⟨K,c.m.r,by show r.length<=100;lia,by show g.length<=100;lia,?_⟩,by show r.length<x.length;lia⟩;obtain⟨u,v,e⟩:=h.ap;obtain⟨w,D⟩:=c.d;obtain⟨q,l⟩:=J;exact⟨v,u*w -v*q,by
    show v*fL p r+(u*w -v*q)*fL p g=1;rw[<-e,D];have:fL p y=fL p r -fL p g*q:=by rw[<-l];grind
    rw[this];grind⟩
  .refine I _ ⟨x,y,⟨h,?_⟩,rfl⟩;refine A.mp ?_;cases k<;>first|rfl|cases f
 rintro _ ⟨x,y,⟨h,rfl⟩,rfl⟩;have S:y.length=1:=by
  obtain⟨u,v,e⟩:=h.ap;rw[bN]at e;have e:v*fL p y=1:=by rw[<-e];grind
  have n:fL p y≠0:=λz=>iW j (by rw[<-e,z];grind);have t:v≠0:=λz=>iW j (by rw[<-e,z];grind);have:=bD j t n;rw[e,gX j,aM h.rb]at this;have:dg v≠0:=λz=>t (bC.mp z);have:y.length≠0:=λz=>n (by rw[OK.mp z,bN]);lia
 unfold wI;fin2;rw[AN,DL (show(y.length:Int)=1 by lia)];exact H
theorem LI(l:List W)(a b:Option Int):(gB l a b).length<=l.length:=by unfold gB;rw[QQ,R6];lia
theorem Cs(ns:List Int)(j:Nat):∃a:List Int,gB (ns.map W.int) (some (j:Int)) (some ((j:Int)+1))=a.map W.int/\a.sum=ns.getD j 0:=by
 unfold gB;rw[show((j:Int)+1)=((j+1:Nat):Int) by lia,HT.om,HT.om,AN];refine⟨(ns.drop (min j ns.length)).take (min (j+1) ns.length -min j ns.length),by rw[SY,Vj],?_⟩;by_cases h:j<ns.length
 .rw[show min (j+1) ns.length -min j ns.length=1 by lia,show min j ns.length=j by lia,PP h,List.take_succ_cons,VX,AC,B1 h];show ns[j]+0=ns[j];lia
 .rw[show min (j+1) ns.length -min j ns.length=0 by lia,VX,outI (by lia)];rfl
noncomputable def HA:List CS:=[.set 7 (.bin .Sub (.blt .sum [(.sl (.var 3) (.var 6) (.bin .Add (.var 6) (.int 1)))]) (.blt .sum [(.sl (.var 2) (.var 6) (.bin .Add (.var 6) (.int 1)))])),.put 5 (.var 6) (.bin .Mod (.var 7) (.var 1))]
noncomputable def Ct:List CS:=[.set 3 (.call 1 [(.var 3),(.var 1),(.var 0),(.var 1)]),.set 5 (.bin .Mult (.lst [(.int 0)]) (.blt .max2 [(.blt .len [(.var 3)]),(.blt .len [(.var 2)])])),.fr [6] true (.gJ [(.blt .len [(.var 5)])]) HA,.iff (.not (.vH [5] (.call 2 [(.call 3 [(.var 5)]),(.var 0),(.var 1)]))) [.ret (.bl false)] []]
noncomputable def mD:List CS:=[.set 2 (.call 0 [(.lst [(.int 0),(.int 1)]),(.var 0),(.var 1)]),.set 3 (.var 2),.fr [4] true (.gJ [(.bin .FloorDiv (.bin .Sub (.blt .len [(.var 0)]) (.int 1)) (.int 2))]) Ct,.ret (.bl true)]
structure Sg(p:Nat)(row:List Int):Prop where
 pr:af p
 bW:p<2^40
 m:Mn p row
 Lr:cJ (fL p row)
 j6:row.length<=50
noncomputable def qu:aT:=λb Q _=>∃(a:List Int)(p:Nat),b=[wI a,.int p]/\Sg p a/\Q (.bl true)
structure R4(p:Nat)(a b:List Int)(j:Nat)(l:List Int):Prop where
 len:l.length=max a.length b.length
 bd:∀x∈l,0<=x/\x<p
 eq:∀k,k<j->(p:Int)∣l.getD k 0 -(a.getD k 0 -b.getD k 0)
theorem Ph{G:Nat->W}{D:Dn}{p i:Nat}{a u r:List Int}{I h g:Option W}(S:Sg p a)(hi:i<(a.length -1)/2)(ru:Rm p u)(lu:u.length<a.length)(eu:Dd (fL p a) (fL p u -X))(O:Rm p r)(lr:r.length<a.length)(er:Dd (fL p a) (fL p r -X^(p^i)))
 (hN:∀b U T R,Rm p b->b.length<a.length->Dd (fL p a) (fL p b -X^(p^(i+1)))->D.nx [some (wI a),some (.int p),some (wI u),some (wI b),some (.int i),U,T,R]):
 wSs (bw [g8,Fv,Fw,bz]) G Ct D [some (wI a),some (.int p),some (wI u),some (wI r),some (.int i),I,h,g]:=by
 have o:=S.pr;have bW:=S.bW;have p2:=o.1;have j6:=S.j6;unfold Ct;refine ai (λn=>∃b,(Rm p b/\b.length<a.length/\Dd (fL p a) (fL p b -X^(p^(i+1))))/\n=[some (wI a),some (.int p),some (wI u),some (wI b),some (.int i),I,h,g]) (λN q=>?_) ?_
 .fin2;refine⟨r,a,p,p,rfl,⟨o,bW,O,S.m,j6,by lia⟩,λb E C B=>q _ ⟨b,⟨E,C,mk_eq.mp ?_⟩,rfl⟩⟩;rw[mk_eq.mpr B,cF,mk_eq.mpr er,<-cF,<-pow_mul,<-IU]
 rintro _ ⟨b,⟨P7,CJ,J⟩,rfl⟩;refine ai (λn=>∃l,R4 p b u 0 l/\n=[some (wI a),some (.int p),some (wI u),some (wI b),some (.int i),some (wI l),h,g]) (λN q=>?_) ?_
 .have c:=q _ ⟨Dg (max b.length u.length) 0,⟨by simp,λx hx=>by rw[Sa hx];exact⟨by decide,by lia⟩,λk A=>by cases A⟩,rfl⟩;unfold wI at c⊢;fin2;rw[AN,AN,show(if(u.length:Int)>(b.length:Int)then(u.length:Int)else(b.length:Int))=((max b.length u.length:Nat):Int) by split<;>lia,F1,dH];rw[WG]at c;exact⟨ak (by simp),by lia,by lia,ak (by simp;lia),c⟩
 rintro _ ⟨l,f,rfl⟩;refine ai (λn=>∃(l:List Int)(h g:Option W),R4 p b u (max b.length u.length) l/\n=[some (wI a),some (.int p),some (wI u),some (wI b),some (.int i),some (wI l),h,g]) (λN q=>?_) ?_
 .have y:=f.len;refine eY (l:=cj 0 1 (max b.length u.length)) (λQ hq=>?_) ?_
  .unfold wI;fin2;rw[AN,y];exact⟨by lia,by lia,by rw[F1];exact hq⟩
  refine aP (λj K=>∃(l:List Int)(h g:Option W),R4 p b u j l/\K=[some (wI a),some (.int p),some (wI u),some (wI b),some (.int i),some (wI l),h,g]) ⟨l,h,g,f,rfl⟩ ?_ ?_
  .rintro j w _ N2 hw ⟨l,h,g,f,rfl⟩ jv;obtain⟨hj,rfl⟩:=dI hw;have y:=f.len;obtain⟨m1,e1,M⟩:=Cs b j;obtain⟨m2,e2,L⟩:=Cs u j;have c:=jv _ ⟨l.set j ((b.getD j 0 -u.getD j 0)%p),some (.int j),some (.int (b.getD j 0 -u.getD j 0)),⟨by rw[Kk];exact y,mz f.bd (jL (by lia) _),λk A=>?_⟩,rfl⟩
   .unfold HA;unfold wI at c⊢;fin2;rw[e1,e2];refine⟨m1,rfl,m2,rfl,?_⟩;fin2;rw[M,L];refine⟨by lia,j,gU (by rw[AN];lia),?_⟩;rw[HI _ (by lia),<-WJ];exact c
   .rw[uT _ _ _ _ (by lia)];by_cases e:k=j
    .rw[Bz e,e];exact jD _ p
    .rw[Bi e];exact f.eq k (by lia)
  .rintro _ ⟨l,h,g,f,rfl⟩;rw[fz]at f;exact q _ ⟨l,h,g,f,rfl⟩
 rintro _ ⟨l,h,g,f,rfl⟩;have y:=f.len;fin2;refine⟨l,rfl,λv tr=>?_⟩;obtain⟨em,P,lm⟩:=uU (p:=p) (by lia) f.bd tr;have el:fL p v=fL p b -fL p u:=em.trans (BS λk=>by
  by_cases A:k<max b.length u.length
  .exact f.eq k A
  .rw[outI (by lia),outI (by lia),outI (by lia)];exact⟨0,by lia⟩)
 have no:¬Dd (fL p a) (fL p v):=λz=>by
  obtain⟨d,H⟩:=G9 o S.Lr;have dd:=H.dg o S.Lr;rw[aM S.m.r]at dd;refine H.no (i+1) (by lia) (by lia) ?_;obtain⟨q1,E⟩:=z;obtain⟨Z,C⟩:=eu;obtain⟨Y,B⟩:=J;exact⟨q1 -Y+Z,by
   have:(X:F p)^(p^(i+1)) -X=fL p v -(fL p b -X^(p^(i+1)))+(fL p u -X):=by rw[el];grind
   rw[this,E,C,B];grind⟩
 obtain⟨s,t,e⟩:=S.Lr.apart o no;refine⟨v,a,p,rfl,⟨o,bW,P,S.m.r,by lia,by lia,t,s,by rw[<-e];grind⟩,rfl,?_⟩;fin2;exact hN b _ _ _ P7 CJ J
theorem Cu{G:Nat->W}{m:Md}(j:List W)(Q:W->Prop)(R:Addr->Prop)(h:qu j Q R):wSs (bw [g8,Fv,Fw,bz]) G mD (aX m Q R) (aq 8 j):=by
 obtain⟨a,p,rfl,S,d⟩:=h;show wSs _ _ mD _ [some (wI a),some (.int p),none,none,none,none,none,none];unfold mD;have x:=S.pr;have M:=x.1;have j6:=S.j6;have n0:=S.m.n0;refine ai (λb=>∃u,(Rm p u/\u.length<a.length/\Dd (fL p a) (fL p u -X))/\b=[some (wI a),some (.int p),some (wI u),none,none,none,none,none]) (λN c=>?_) ?_
 .fin2;exact⟨ak (by simp),[0,1],a,p,rfl,⟨by lia,S.bW,gx x 1,S.m,by simp,by lia⟩,λu g f e=>c _ ⟨u,⟨g,f,e⟩,rfl⟩⟩
 rintro _ ⟨u,⟨k,v,y⟩,rfl⟩;refine ai (λb=>b=[some (wI a),some (.int p),some (wI u),some (wI u),none,none,none,none]) (λN c=>?_) ?_
 .fin2;exact c _ rfl
 rintro _ rfl;refine ai (λb=>True) (λN c=>?_) ?_
 .refine eY (l:=cj 0 1 ((a.length -1)/2)) (λQ d=>?_) ?_
  .unfold wI;fin2;rw[AN,show((a.length:Int) -1).fdiv 2=(((a.length -1)/2:Nat):Int) by rw[Oy _ (by decide)];lia];exact⟨⟨by decide,gf (n:=5) (by decide) (by decide)⟩,by lia,by lia,by rw[F1];exact d⟩
  refine aP (λi z=>∃(r:List Int)(t s q o:Option W),(Rm p r/\r.length<a.length/\Dd (fL p a) (fL p r -X^(p^i)))/\z=[some (wI a),some (.int p),some (wI u),some (wI r),t,s,q,o]) ⟨u,none,none,none,none,⟨k,v,by rw[Ik,show(X:F p)^1=X by rw[aA,D2];grind];exact y⟩,rfl⟩ ?_ ?_
  .rintro i w _ O D ⟨r,t,s,q,o,⟨A,C,H⟩,rfl⟩ I;obtain⟨E,rfl⟩:=dI D;exact Ph S E k v y A C H λB L K J g f e=>I _ ⟨B,_,_,_,_,⟨g,f,e⟩,rfl⟩
  .rintro _ _;exact c _ trivial
 intro b _;fin2;exact d
noncomputable def qv:List CS:=[.iff (.not (.call 2 [(.var 4),(.var 1)])) [.ret (.bl false)] [],.fr [6] true (.gJ [(.var 5)]) [.set 3 (.call 3 [(.var 3),(.var 4),(.var 1)])]]
noncomputable def u6:List CS:=[.set 2 (.call 0 [(.blt .list [(.var 0)]),(.var 1)]),.iff (.not (.call 1 [(.var 2),(.var 1)])) [.ret (.bl false)] [],.set 3 (.lst [(.int 1)]),.fr [4,5] false (.var 2) qv,.ret (.cmp .Eq (.var 3) (.var 0))]
noncomputable def Cv:aT:=λb Q _=>∃(a:List Int)(p:Nat),b=[wI a,.int p]/\(af p/\p<2^30/\M9 p a)/\Q (.bl true)
theorem LJ{d:Nat->aT}{G:Nat->W}{D:Dn}{c:Ev}{i j:Nat}{e:CE}{b:List CS}{l:List W}(f:∀Q:W->Prop,Q (.lst l)->wE d G (λ_=>False) e c Q)(h:gR (λw k a=>wT false [i,j] w a λg=>wSs d G b k g) D l c):wS d G (.fr [i,j] false e b) D c:=f _ h
theorem HB{p:Nat}{l:List Int}(h:Mn p l):fL p l≠0:=λz=>by have:=h.n0;rw[(cA h.r).mp z]at this;cases this
theorem HC{p:Nat}(a:af p){P:F p}(b:2<=dg P):∀n:Nat,n+1<=dg (P^n)
 |0=>by rw[D2,gX a];exact BM _
 |n+1=>by have ih:=HC a b n;rw[aA];have:=bD a (f:=P^n) (g:=P) (λz=>by rw[z,cR]at ih;lia) (λz=>by rw[z,cR]at b;lia);lia
theorem xr{p:Nat}:∀(A B:List (List Int×Nat)),gZ p (A++B)=gZ p A*gZ p B
 |[],B=>by show gZ p B=1*gZ p B;grind
 |x::A,B=>by show fL p x.1^x.2*gZ p (A++B)=fL p x.1^x.2*gZ p A*gZ p B;rw[xr A B];grind
theorem u7{p:Nat}{L:List (List Int×Nat)}{i j:Nat}(a:i<L.length)(c:j<=L[i].2):Dd (gZ p (L.take i)*fL p L[i].1^j) (gZ p L):=by
 refine⟨fL p L[i].1^(L[i].2 -j)*gZ p (L.drop (i+1)),?_⟩;have e:L=L.take i++(L[i]::L.drop (i+1)):=by rw[<-PP a,List.take_append_drop]
 have b:fL p L[i].1^L[i].2=fL p L[i].1^j*fL p L[i].1^(L[i].2 -j):=by rw[<-W4,show j+(L[i].2 -j)=L[i].2 by lia]
 conv=>lhs;rw[e,xr]
 show gZ p (L.take i)*(fL p L[i].1^L[i].2*gZ p (L.drop (i+1)))=_;rw[b];grind
theorem LK{G:Nat->W}{m:Md}(S:List W)(Q:W->Prop)(R:Addr->Prop)(h:Cv S Q R):wSs (bw [fO,u0,qu,aV]) G u6 (aX m Q R) (aq 7 S):=by
 obtain⟨a,p,rfl,⟨A,T,M⟩,s⟩:=h;show wSs _ _ u6 _ [some (wI a),some (.int p),none,none,none,none,none];unfold u6;have p2:=A.1;have Z:p<2^40:=Qh T (by decide);have l2:=M.l2;have Pb:=M.Pb;have U:=aM M.m.r;refine ai (λb=>∃L,(PO p a L/\L.Pairwise Fd)/\b=[some (wI a),some (.int p),some (.lst (L.map pW)),none,none,none,none]) (λN t=>?_) ?_
 .unfold wI at t⊢;fin2;exact⟨a,p,rfl,⟨A,T,M.m,Pb⟩,λL O K=>t _ ⟨L,⟨O,K⟩,rfl⟩⟩
 rintro _ ⟨L,⟨o,up⟩,rfl⟩;have ne:L≠[]:=λz=>by have e:=o.pr;rw[z,show gZ p []=(1:F p)from rfl]at e;rw[e,gX A]at U;lia
 have ll:=o.len;have uw:∀x∈L,2<=x.1.length:=λx y=>by obtain⟨m,i,_⟩:=o.all x y;have:=i.two;rw[aM m.r]at this;exact this
 refine ai (λb=>b=[some (wI a),some (.int p),some (.lst (L.map pW)),none,none,none,none]) (λN t=>?_) ?_
 .fin2;refine⟨L,p,rfl,⟨ne,by lia,λx y=>⟨(o.all x y).1,uw x y,(o.all x y).2.2⟩,up,o.pw⟩,?_⟩;fin2;exact t _ rfl
 rintro _ rfl;refine ai (λb=>b=[some (wI a),some (.int p),some (.lst (L.map pW)),some (wI [1]),none,none,none]) (λN t=>?_) ?_
 .fin2;exact⟨ak (by simp),t _ rfl⟩
 rintro _ rfl;have n:∀{c:List Int},Rm p c->Dd (fL p c) (gZ p L)->c.length<=10:=λ{c} f Y=>by rw[<-o.pr]at Y;have:=Y.len A (HB M.m);rw[aM f,U]at this;lia
 refine ai (λb=>∃(c:List Int)(v u d:Option W),(Rm p c/\fL p c=gZ p L)/\b=[some (wI a),some (.int p),some (.lst (L.map pW)),some (wI c),v,u,d]) (λN t=>?_) ?_
 .refine LJ (l:=L.map pW) (λQ s=>?_) ?_
  .fin2;exact s
  refine aP (λi H=>∃(c:List Int)(v u d:Option W),(Rm p c/\fL p c=gZ p (L.take i))/\H=[some (wI a),some (.int p),some (.lst (L.map pW)),some (wI c),v,u,d]) ⟨[1],none,none,none,⟨Co (by lia),fM⟩,rfl⟩ ?_ ?_
  .rintro i w _ N1 E ⟨c,v,u,d,⟨f,g⟩,rfl⟩ b6;rw[Da]at E;obtain⟨x,y,rfl⟩:=IR.mp E;obtain⟨B,rfl⟩:=Fh.mp y;obtain⟨D,ix,_⟩:=o.all _ (L9 B);have x2:=uw _ (L9 B);have xl:L[i].1.length<=10:=n D.r (by obtain⟨q,s⟩:=u7 (p:=p) B (j:=1) (o.all _ (L9 B)).2.2;exact⟨gZ p (L.take i)*q,by rw[s,show fL p L[i].1^1=fL p L[i].1 by rw[aA,D2];grind];grind⟩);have Tw:L[i].2<=10:=by
    have d1:Dd (fL p L[i].1^L[i].2) (fL p a):=by obtain⟨q,s⟩:=u7 (p:=p) B (j:=L[i].2) (BM _);exact⟨gZ p (L.take i)*q,by rw[o.pr,s];grind⟩
    have:=d1.len A (HB M.m);have:=HC A (P:=fL p L[i].1) (by rw[aM D.r];exact x2) L[i].2;lia
   have I:gZ p (L.take (i+1))=gZ p (L.take i)*fL p L[i].1^L[i].2:=by rw[List.take_succ_eq_append_getElem B,j8]
   generalize C:L[i]=x at*;show wT false [4,5] (pW x) _ _;unfold pW;rw[zk];refine⟨rfl,?_⟩;show wSs _ _ qv _ [some (wI a),some (.int p),some (.lst (L.map pW)),some (wI c),some (wI x.1),some (.int (x.2:Nat)),d];unfold qv;refine ai (λb=>b=[some (wI a),some (.int p),some (.lst (L.map pW)),some (wI c),some (wI x.1),some (.int (x.2:Nat)),d]) (λN2 J=>?_) ?_
   .fin2;refine⟨x.1,p,rfl,⟨A,Z,D,ix,by lia⟩,?_⟩;fin2;exact J _ rfl
   rintro _ rfl;refine eY (l:=cj 0 1 x.2) (λQ s=>?_) ?_
   .fin2;exact⟨by lia,by lia,by rw[F1];exact s⟩
   refine aP (λj H=>∃(c:List Int)(d:Option W),(Rm p c/\fL p c=gZ p (L.take i)*fL p x.1^j)/\H=[some (wI a),some (.int p),some (.lst (L.map pW)),some (wI c),some (wI x.1),some (.int (x.2:Nat)),d]) ⟨c,d,⟨f,by rw[g,D2];grind⟩,rfl⟩ ?_ ?_
   .rintro j w _ N2 E ⟨c,d,⟨f,g⟩,rfl⟩ J;obtain⟨hj,rfl⟩:=dI E;have cl:c.length<=10:=n f (by rw[g,<-C];exact u7 B (by rw[C];lia));fin2;refine⟨c,x.1,p,rfl,⟨by lia,Z,by lia,by lia,f,D.r⟩,λms O K h3=>J _ ⟨ms,_,⟨O,?_⟩,rfl⟩⟩;rw[K,g,aA];grind
   .rintro _ ⟨c,d,⟨f,g⟩,rfl⟩;rw[fz]at g;exact b6 _ ⟨c,_,_,_,⟨f,by rw[g,I]⟩,rfl⟩
  .rintro _ ⟨c,v,u,d,⟨f,g⟩,rfl⟩;rw[AN,V2]at g;exact t _ ⟨c,v,u,d,⟨f,g⟩,rfl⟩
 rintro _ ⟨c,v,u,d,⟨f,g⟩,rfl⟩;fin2;refine uA λk hk=>?_;cases fy hk (qc f M.m.r (g.trans o.pr.symm));exact s
noncomputable def qw:List CS:=[.set 1 (.call 0 [(.ix (.call 1 [(.call 2 [(.var 0),(.int 0)]),(.int 1)]) (.int 0))]),.fr [2] true (.bin .Add (.lst [(.call 2 [(.var 0),(.int 1)])]) (.sl (.var 0) (.int 2) (.int 4))) [.iff (.not (.call 3 [(.call 4 [(.var 2),(.var 1)]),(.var 1)])) [.ret (.bl false)] []],.ret (.bl true)]
theorem Fx{G:Nat->W}{m:Md}(f:List W)(Q:W->Prop)(R:Addr->Prop)(h:Ld f Q R):wSs (bw [uS,j9,qj,Cv,uY]) G qw (aX m Q R) (aq 3 f):=by
 obtain⟨b,rfl,B,s⟩:=h;show wSs _ _ qw _ [some (.fV b),none,none];unfold qw;refine ai (λa=>∃p:Nat,(af p/\p<10000)/\a=[some (.fV b),some (.int p),none]) (λN e=>?_) ?_
 .fin2;refine⟨b,0,rfl,λz=>⟨z,1,rfl,by decide,λy n _=>?_⟩⟩;obtain⟨x,rfl⟩:=WK.mp n;exact⟨.int x,rfl,x,rfl,λp u t=>e _ ⟨p,⟨u,t⟩,rfl⟩⟩
 rintro _ ⟨p,⟨g,A⟩,rfl⟩;refine ai (λa=>True) (λN e=>?_) ?_
 .obtain⟨l,j⟩:=E5 b (some 2) (some 4);have lc:=LI (b.map W.int) (some 2) (some 4);rw[j,AN,AN]at lc;fin2;refine⟨b,1,rfl,λz=>⟨ak (by simp),?_⟩⟩;fin2;rw[j];refine⟨ak (by rw[AN];simp;lia),?_⟩;fin2;refine aP (λi k=>∃o,k=[some (.fV b),some (.int p),o]) ⟨none,rfl⟩ ?_ ?_
  .rintro i w _ C d ⟨o,rfl⟩ v;have d:(((z::l).map W.int):List W)[i]?=some w:=d;rw[Da]at d;obtain⟨c,_,rfl⟩:=IR.mp d;fin2;refine⟨c,p,rfl,⟨g,by lia⟩,λr q=>⟨r,p,rfl,⟨g,by lia,q⟩,?_⟩⟩;fin2;exact v _ ⟨_,rfl⟩
  .intro _ _;exact e _ trivial
 intro a _;fin2;exact s
noncomputable def u9:List CS:=[.ret (.tup [(.blt .len [(.ix (.var 0) (.int 0))]),(.rev (.ix (.var 0) (.int 0))),(.ix (.var 0) (.int 1))])]
theorem LL{b:Nat->aT}{G:Nat->W}{m:Md}(a:List W)(Q:W->Prop)(R:Addr->Prop)(h:l9 a Q R):wSs b G u9 (aX m Q R) (aq 1 a):=by obtain⟨x,rfl,c⟩:=h;show wSs _ _ u9 _ [some (pW x)];unfold u9 pW wI;fin2;refine⟨_,rfl,?_⟩;fin2;refine⟨_,rfl,?_⟩;fin2;refine⟨_,rfl,ak (by simp),?_⟩;rw[AN,<-VG];exact c
section
variable{P:Program}{w:World}{K:Frag}{mg:Str->Option Value}{base:Heap}{tp:Nat->Stmt}{DD:DT}{ZZ:List Str}
theorem LM{k j i b:Nat}{x:Str}{S:aT}(T:TT K mg tp DD ZZ)(d:DD[j]?=some (x,i))(c:b=(qi (tp i)).length)(e:∀a Q R,¬S a Q R):Cl P w K mg base DD k j .s S:=by have:S=RP:=funext λa=>funext λQ=>funext λR=>propext ⟨λz=>(e _ _ _ z).elim,λz=>z.elim⟩;rw[this];exact O6 T d c
theorem LN{j i jh jd b d k:Nat}{x:Str}(T:TT K mg tp DD ZZ)(g:DD[j]?=some (x,i))(l:Cl P w K mg base DD b jh .s iZ)(m:Cl P w K mg base DD d jd .s aR)(e:Fi ZZ (tp i) 3 5 [] [B5 DD jh,B5 DD jd,B5 DD j] [] [.s,.s,.s] [] .s cS=true)(p:b<=k)(o:d<=k):∀n,Cl P w K mg base DD (k+n) j .s (cg n):=
 B8 (LM T g (B7 e) yT) λn a f c=>by refine cO (k:=a) (Ss:=[iZ,aR,cg n]) T g 3 [] [(jh,.s,b),(jd,.s,d),(j,.s,a)] mX ⟨l,m,c,trivial⟩ ?_ (λq P R h=>by obtain⟨_,_,_,rfl,_⟩:=h;rfl);rw[Ap];refine⟨?_,e⟩;show(decide (b<=a)&&(decide (d<=a)&&(decide (a<=a)&&true)))=true;rw[DL (Hn p f),DL (Hn o f),DL (BM a)];rfl
end
end VL
namespace Ga
open PySem PySem.Spec
open PyProof.Rows hiding St
open L2 VL Num
set_option genInjectivity false
set_option genSizeOf false
noncomputable def top(i:Nat):Stmt:=PySem.Challenge.pw_paperwright_k30_whole_prime_parts_split.main.body.getD i (.Pass ⟨0,0,0,0⟩)
abbrev en(x:Str)(i:Nat):Str×Nat:=(x,i)
abbrev DD:DT:=[en "common" 1,en "trimmed" 3,en "scaled" 4,en "whole_plus" 5,en "whole_minus" 6,en "whole_times" 7,en "rising" 8,en "rank" 9,en "reduced" 11,en "inverse" 12,en "plus_by" 13,en "minus_by" 14,en "times_by" 15,en "divided_by" 16,en "power_by" 17,en "greatest_by" 18,en "prime_parts" 20,en "taken_out" 21,en "equal_parts" 22,en "halved" 23,en "trace" 24,en "squares" 25,en "_law_things" 27,en "_law_cell" 28,en "_law_is_prime" 29,en "_law_prime" 30,en "_law_cut" 31,en "_law_product" 32,en "_law_monic_rest" 33,en "_law_whole" 34,en "_law_by" 35,en "_law_monic" 36,en "_law_many_parts" 37,en "_law_monic_product" 38,en "_law_key" 39,en "_law_parts_told" 40,en "_law_power_by" 41,en "_law_made_monic" 42,en "_law_apart" 43,en "_law_single" 44,en "_law_right" 45,en "law" 46]
abbrev ZZ:List Str:=["all","bool","enumerate","int","isinstance","len","list","max","range","reversed","sorted","sum","tuple"]
structure Tx(K:Frag)(mg:Str->Option Value) extends TT K mg top DD ZZ where
section
variable{P:Program}{w:World}{K:Frag}{mg:Str->Option Value}{base:Heap}
theorem Cw(T:Tx K mg):Cl P w K mg base DD 1 0 .s pT:=
 jT T.toTT rfl 2 [] Bw (by decide+kernel) (by walk_at "l")
theorem jE(T:Tx K mg):Cl P w K mg base DD 1 1 .f bz:=
 jT T.toTT rfl 1 [] yH (by decide+kernel) (by walk_at "l")
theorem sJ(T:Tx K mg):Cl P w K mg base DD 1 2 .f iS:=
 jT T.toTT rfl 2 [] Bt (by decide+kernel) (by walk_at "l")
theorem i7(T:Tx K mg):Cl P w K mg base DD 2 3 .f dR:=
 cO T.toTT rfl 2 [(3,.f)] [(1,.f,1)] pR ⟨jE T,trivial⟩ (by decide+kernel) (by walk_at "l")
theorem mZ(T:Tx K mg):Cl P w K mg base DD 3 4 .f fF:=
 cO T.toTT rfl 2 [] [(3,.f,2),(2,.f,1)] mU ⟨i7 T,sJ T,trivial⟩ (by decide+kernel) (by walk_at "l")
theorem m5(T:Tx K mg):Cl P w K mg base DD 1 5 .f fG:=
 jT T.toTT rfl 2 [(2,.f)] mV (by decide+kernel) (by walk_at "l")
theorem LO(T:Tx K mg):bO P w K mg base (jb P w) 1 (T.f 7) (T.d 7) ["pair"] (ue K 1 .s l9):=
 Ly (j:=7) (k:=0) (m:=.s) (Ss:=[]) (Gs:=[]) T.toTT rfl 1 [] [] [] LL trivial trivial (by decide+kernel) (by walk_at "l")
theorem Cy(T:Tx K mg):Cl P w K mg base DD 4 6 .s i6:=
 Lz (j:=6) (jr:=7) T.toTT rfl rfl (LO T) ⟨rfl,rfl,rfl,by decide+kernel,rfl,by decide+kernel,by decide+kernel⟩ rfl rfl rfl rfl (.inl rfl) rfl rfl rfl (by decide) rfl rfl
theorem gy(T:Tx K mg):Cl P w K mg base DD 2 8 .s cX:=
 cO T.toTT rfl 2 [] [(1,.f,1)] yL ⟨jE T,trivial⟩ (by decide+kernel) (by walk_at "l")
theorem n8(T:Tx K mg):Cl P w K mg base DD 2 9 .s iT:=
 cO T.toTT rfl 2 [] [(0,.s,1)] yK ⟨Cw T,trivial⟩ (by decide+kernel) (by walk_at "l")
theorem n9(T:Tx K mg):Cl P w K mg base DD 3 10 .s gh:=
 cO T.toTT rfl 3 [] [(8,.s,2),(3,.f,2)] yO ⟨gy T,i7 T,trivial⟩ (by decide+kernel) (by walk_at "l")
theorem g9(T:Tx K mg):Cl P w K mg base DD 4 11 .s cN:=
 cO T.toTT rfl 3 [] [(8,.s,2),(4,.f,3)] uI ⟨gy T,mZ T,trivial⟩ (by decide+kernel) (by walk_at "l")
theorem mE(T:Tx K mg):Cl P w K mg base DD 3 12 .s aV:=
 cO T.toTT rfl 3 [] [(8,.s,2),(5,.f,1)] uJ ⟨gy T,m5 T,trivial⟩ (by decide+kernel) (by walk_at "l")
theorem cC(T:Tx K mg):Cl P w K mg base DD 3 13 .s aR:=
 cO T.toTT rfl 3 [(5,.f),(6,.f)] [(9,.s,2),(1,.f,1)] pU ⟨n8 T,jE T,trivial⟩ (by decide+kernel) (by walk_at "l")
theorem ia(T:Tx K mg):Cl P w K mg base DD 4 14 .s dh:=
 cO T.toTT rfl 4 [] [(13,.s,3),(12,.s,3)] uK ⟨cC T,mE T,trivial⟩ (by decide+kernel) (by walk_at "l")
theorem gI(T:Tx K mg):Cl P w K mg base DD 5 15 .s bV:=
 cO T.toTT rfl 3 [] [(13,.s,3),(11,.s,4),(12,.s,3),(9,.s,2),(8,.s,2),(2,.f,1)] mW ⟨cC T,g9 T,mE T,n8 T,gy T,sJ T,trivial⟩ (by decide+kernel) (by walk_at "l")
theorem Fy(T:Tx K mg):Cl P w K mg base DD 5 20 .s l5:=
 cO T.toTT rfl 4 [] [(13,.s,3),(14,.s,4),(10,.s,3)] Fc ⟨cC T,ia T,n9 T,trivial⟩ (by decide+kernel) (by walk_at "l")
theorem yX(T:Tx K mg):Cl P w K mg base DD 5 21 .s iY:=
 cO T.toTT rfl 3 [] [(11,.s,4),(14,.s,4)] yP ⟨g9 T,ia T,trivial⟩ (by decide+kernel) (by walk_at "l")
theorem Cz(T:Tx K mg):Cl P w K mg base DD 6 19 .s iZ:=
 cO T.toTT rfl 3 [] [(20,.s,5),(15,.s,5),(21,.s,5),(10,.s,3)] BW ⟨Fy T,gI T,yX T,n9 T,trivial⟩ (by decide+kernel) (by walk_at "l")
theorem sL(T:Tx K mg):Cl P w K mg base DD 4 17 .s fN:=
 cO T.toTT rfl 3 [] [(13,.s,3)] sG ⟨cC T,trivial⟩ (by decide+kernel) (by walk_at "l")
theorem m6(T:Tx K mg):Cl P w K mg base DD 16 18 .s (cg 10):=
 LN (k:=6) (jh:=19) (jd:=13) T.toTT rfl (Cz T) (cC T) (by decide+kernel) (by decide) (by decide) 10
theorem m7(T:Tx K mg):Cl P w K mg base DD 17 16 .s fO:=
 cO T.toTT rfl 2 [(3,.f)] [(14,.s,4),(15,.s,5),(11,.s,4),(18,.s,16),(17,.s,4),(6,.s,4)] mY ⟨ia T,gI T,g9 T,m6 T,sL T,Cy T,trivial⟩ (by decide+kernel) (by walk_at "l")
theorem sN(T:Tx K mg):Cl P w K mg base DD 1 22 .s j9:=
 jT T.toTT rfl 2 [(4,.f)] Ca (by decide+kernel) (by walk_at "l")
theorem LP(T:Tx K mg):Cl P w K mg base DD 1 23 .s qj:=
 jT T.toTT rfl 2 [] Cb (by decide+kernel) (by walk_at "l")
theorem vd(T:Tx K mg):Cl P w K mg base DD 1 24 .s jC:=
 jT T.toTT rfl 1 [] uR (by decide+kernel) (by walk_at "l")
theorem FA(T:Tx K mg):Cl P w K mg base DD 2 25 .s uS:=
 cO T.toTT rfl 1 [] [(24,.s,1)] Fj ⟨vd T,trivial⟩ (by decide+kernel) (by walk_at "l")
theorem v_cut(T:Tx K mg):Cl P w K mg base DD 1 26 .f bz:=
 jT T.toTT rfl 1 [] Fl (by decide+kernel) (by walk_at "l")
theorem gz(T:Tx K mg):Cl P w K mg base DD 2 27 .s aV:=
 cO T.toTT rfl 3 [(3,.f)] [(26,.f,1)] O7 ⟨v_cut T,trivial⟩ (by decide+kernel) (by walk_at "l")
theorem fS(T:Tx K mg):Cl P w K mg base DD 2 28 .s g8:=
 cO T.toTT rfl 3 [(3,.f)] [(26,.f,1)] qo ⟨v_cut T,trivial⟩ (by decide+kernel) (by walk_at "l")
theorem xu(T:Tx K mg):Cl P w K mg base DD 1 29 .s lV:=
 jT T.toTT rfl 1 [] E6 (by decide+kernel) (by walk_at "l")
theorem R5(T:Tx K mg):Cl P w K mg base DD 2 30 .s Fq:=
 cO T.toTT rfl 2 [] [(29,.s,1)] Pc ⟨xu T,trivial⟩ (by decide+kernel) (by walk_at "l")
theorem xw(T:Tx K mg):Cl P w K mg base DD 1 31 .s yV:=
 jT T.toTT rfl 4 [(4,.f)] Pa (by decide+kernel) (by walk_at "l")
theorem qx(T:Tx K mg):Cl P w K mg base DD 3 32 .s Ci:=
 cO T.toTT rfl 2 [] [(31,.s,1),(27,.s,2)] LB ⟨xw T,gz T,trivial⟩ (by decide+kernel) (by walk_at "l")
theorem jU(T:Tx K mg):Cl P w K mg base DD 4 33 .s uY:=
 cO T.toTT rfl 2 [] [(22,.s,1),(31,.s,1),(32,.s,3),(27,.s,2)] Fo ⟨sN T,xw T,qx T,gz T,trivial⟩ (by decide+kernel) (by walk_at "l")
theorem Pj(T:Tx K mg):Cl P w K mg base DD 1 34 .s xq:=
 jT T.toTT rfl 1 [] LC (by decide+kernel) (by walk_at "l")
theorem qy(T:Tx K mg):Cl P w K mg base DD 3 35 .s u0:=
 cO T.toTT rfl 2 [] [(30,.s,2),(29,.s,1),(34,.s,1)] Ft ⟨R5 T,xu T,Pj T,trivial⟩ (by decide+kernel) (by walk_at "l")
theorem qz(T:Tx K mg):Cl P w K mg base DD 3 36 .s Fv:=
 cO T.toTT rfl 4 [] [(28,.s,2),(27,.s,2)] Pe ⟨fS T,gz T,trivial⟩ (by decide+kernel) (by walk_at "l")
theorem qA(T:Tx K mg):Cl P w K mg base DD 1 37 .s Cp:=
 jT T.toTT rfl 2 [] LH (by decide+kernel) (by walk_at "l")
theorem FD(T:Tx K mg):Cl P w K mg base DD 3 38 .s Fw:=
 cO T.toTT rfl 3 [] [(37,.s,1),(28,.s,2)] Pg ⟨qA T,fS T,trivial⟩ (by decide+kernel) (by walk_at "l")
theorem CA(T:Tx K mg):Cl P w K mg base DD 4 39 .s qu:=
 cO T.toTT rfl 2 [(5,.f)] [(28,.s,2),(36,.s,3),(38,.s,3),(26,.f,1)] Cu ⟨fS T,qz T,FD T,v_cut T,trivial⟩ (by decide+kernel) (by walk_at "l")
theorem FE(T:Tx K mg):Cl P w K mg base DD 18 40 .s Cv:=
 cO T.toTT rfl 2 [] [(16,.s,17),(35,.s,3),(39,.s,4),(27,.s,2)] LK ⟨m7 T,qy T,CA T,gz T,trivial⟩ (by decide+kernel) (by walk_at "l")
theorem Pn(T:Tx K mg):bO P w K mg base (jb P w) 19 (T.f 41) (T.d 41) ["_law_script"] (ue K 1 .s Ld):=
 Ly (j:=41) (k:=18) (m:=.s) (Gs:=[]) T.toTT rfl 1 [] [(25,.s,2),(22,.s,1),(23,.s,1),(40,.s,18),(33,.s,4)] [] Fx ⟨FA T,sN T,LP T,FE T,jU T,trivial⟩ trivial (by decide+kernel) (by walk_at "l")
end
theorem Mw{K:Frag}{x:Str}{st:Stmt}{f:Addr}{g m:Option Addr}{d:Array (Option Value)}{h kV i e b j:Value}(a:nsIn K mainGlobals x=some (some (.ref f)))(l:K.lookup f=some ⟨h,g,.func (fnOf x x (bS st) (aY st) (ao st) .none kV i e m b j),d⟩)(c:codeIn K b x=true)(k:keepIn K (.ref f)=true):Hd K x st:=⟨f,g,m,d,h,kV,i,e,b,j,a,l,c,k⟩
theorem Qa{x q:Str}{st:Stmt}{i:Str}(h:∀(kV a d:Value)(g:Option Addr)(b f c:Value),bindArgs (fnOf x q (bS st) (aY st) (ao st) .none kV a d g b f) ⟨[c],[]⟩=pure ([i].zip [c])):gr x q st [i]:=λkV a d g b f k j=>by obtain⟨c,l,rfl,e⟩:=mT j;cases OK.mp e;exact h kV a d g b f c
theorem Qc{x q:Str}{st:Stmt}{l k:Str}(h:∀(kV a e:Value)(j:Option Addr)(b i d c:Value),bindArgs (fnOf x q (bS st) (aY st) (ao st) .none kV a e j b i) ⟨[d,c],[]⟩=pure ([l,k].zip [d,c])):gr x q st [l,k]:=λkV a e j b i n m=>by obtain⟨d,p,rfl,g⟩:=mT m;obtain⟨c,o,rfl,f⟩:=mT g;cases OK.mp f;exact h kV a e j b i d c
theorem Qd{x q:Str}{st:Stmt}{m l p2:Str}(h:∀(kV a e:Value)(k:Option Addr)(b j d c a2:Value),bindArgs (fnOf x q (bS st) (aY st) (ao st) .none kV a e k b j) ⟨[d,c,a2],[]⟩=pure ([m,l,p2].zip [d,c,a2])):gr x q st [m,l,p2]:=λkV a e k b j o n=>by obtain⟨d,s,rfl,i⟩:=mT n;obtain⟨c,r,rfl,g⟩:=mT i;obtain⟨a2,p,rfl,f⟩:=mT g;cases OK.mp f;exact h kV a e k b j d c a2
theorem Qe{x q:Str}{st:Stmt}{n m p2 l:Str}(h:∀(kV a e:Value)(k:Option Addr)(b j d c a2 a3:Value),bindArgs (fnOf x q (bS st) (aY st) (ao st) .none kV a e k b j) ⟨[d,c,a2,a3],[]⟩=pure ([n,m,p2,l].zip [d,c,a2,a3])):gr x q st [n,m,p2,l]:=λkV a e k b j r o=>by obtain⟨d,v,rfl,i⟩:=mT o;obtain⟨c,u,rfl,g⟩:=mT i;obtain⟨a2,t,rfl,f⟩:=mT g;obtain⟨a3,s,rfl,p⟩:=mT f;cases OK.mp p;exact h kV a e k b j d c a2 a3
theorem all_mk{l:PySem.W.OpenLaw}{w:World}{K:Frag}{h:Heap}{a:Str->Option Value}{f:Addr}(X:K.In h)(G:h.Ns mainGlobals a)(k:a "law"=some (.ref f))
 (i:Ff K top DD)(g:Fg K ZZ)
 :∃c:FuncData,(∀(s:Shared)(v:Value),BindsTo s c ⟨[v],[]⟩ [("_law_script",v)])/\∀base:Heap,K.In base->base.Ns mainGlobals a->bO l.prog w K a base Nb 19 f c ["_law_script"] (wF K):=by
 obtain⟨b⟩:=O2 X G i g;have D:=b.D (j:=41) rfl;have e:=k.symm.trans D.m;cases e
 let T:Tx K a:=⟨b⟩
 exact⟨b.d 41,λs v=>D.bt s [v] rfl,λbase _ _=>Le (Pn T)⟩
end Ga
namespace PySem.W.Fast
noncomputable def tw13510726901635930630:=0
noncomputable def tw17105724553465112159:=0
noncomputable def tw2939860572855916934:=0
noncomputable def tw7959860388646550626:=0
noncomputable def tw15411979888161873753:=0
noncomputable def tw2141743130889312378:=0
noncomputable def tw12244930630987254236:=0
noncomputable def tw12805406881053858991:=0
noncomputable def tw7519413413614029799:=0
noncomputable def tw14921818772727965744:=0
noncomputable def tw15871022386749736431:=0
noncomputable def tw16608188380375169566:=0
noncomputable def tw5098446462938925074:=0
noncomputable def tw17248847918732384460:=0
noncomputable def tw4899577581457402831:=0
noncomputable def tw15886715926571307496:=0
noncomputable def tw1409922958361601255:=0
noncomputable def tw5376534508140348124:=0
noncomputable def tw12350443388923469401:=0
noncomputable def tw13604123610176302053:=0
noncomputable def tw14692223583932222567:=0
noncomputable def tw15093594912496739145:=0
noncomputable def tw11744604599803742754:=0
noncomputable def tw2196385872522666040:=0
noncomputable def tw18431498825898587555:=0
noncomputable def tw15964064142658873509:=0
noncomputable def tw5902365175212105427:=0
noncomputable def tw9727505763383906483:=0
noncomputable def tw16495045377387028355:=0
noncomputable def tw9520035847700880712:=0
noncomputable def tw14038523378798936926:=0
noncomputable def tw5700593628869808906:=0
noncomputable def tw3161429241974147259:=0
noncomputable def tw12540963824348298799:=0
noncomputable def tw14210493513042568843:=0
noncomputable def tw14620866127489502709:=0
noncomputable def tw12912921902494370020:=0
noncomputable def tw14211354943196613560:=0
noncomputable def tw10050551774244003195:=0
noncomputable def tw3172255035043372179:=0
noncomputable def tw11686203453370836432:=0
noncomputable def tw5573073479063757166:=0
noncomputable def tw13993556260446907867:=0
noncomputable def tw12664969449586363356:=0
noncomputable def tw3393973933881734787:=0
noncomputable def tw13143948359044141514:=0
noncomputable def tw16784045040736942178:=0
noncomputable def tw4227564314279567660:=0
noncomputable def tw17310925846674610818:=0
noncomputable def tw9542841592635767913:=0
noncomputable def tw6677368419208633969:=0
noncomputable def tw15856883054051563058:=0
noncomputable def tw7583356442210679623:=0
noncomputable def tw3405337167744965994:=0
noncomputable def tw13468345329845599320:=0
noncomputable def tw18301646107077664563:=0
noncomputable def tw8052425570686949246:=0
noncomputable def tw13485660386955015290:=0
noncomputable def tw17450630304733186187:=0
noncomputable def tw13397927735104358832:=0
noncomputable def tw10913247963684264730:=0
noncomputable def tw18186776914324995377:=0
noncomputable def tw2185496210463312757:=0
noncomputable def tw3194254567942396617:=0
noncomputable def tw15049293073106334526:=0
noncomputable def tw10521918312912675384:=0
noncomputable def tw2416128776201367370:=0
noncomputable def tw14910182060554389259:=0
noncomputable def tw5630555148149671402:=0
noncomputable def tw4243407049714451608:=0
noncomputable def tw6688734748770651038:=0
noncomputable def tw6581586048664558142:=0
noncomputable def tw72094018357334653:=0
noncomputable def tw7857126867042275467:=0
noncomputable def tw17518315350097391931:=0
noncomputable def tw11133981961112736705:=0
noncomputable def tw1978321655074643860:=0
noncomputable def tw15637627599613448829:=0
noncomputable def tw2883065587745642346:=0
noncomputable def tw10450598726855144455:=0
noncomputable def tw13356205032168872845:=0
noncomputable def tw2453497202675558434:=0
noncomputable def tw17533009924734749700:=0
noncomputable def tw2673870079406310601:=0
noncomputable def tw17515004579379397843:=0
noncomputable def tw1907349089408985802:=0
noncomputable def tw11806537487481796206:=0
noncomputable def tw4371945197385564409:=0
noncomputable def tw3655390536480780669:=0
noncomputable def tw5821780305996667801:=0
noncomputable def tw4421511988712677418:=0
noncomputable def tw10917193786426256898:=0
noncomputable def tw2557235046264793475:=0
noncomputable def tw279779731697777210:=0
noncomputable def tw6733539300856675163:=0
noncomputable def tw10923791031219597142:=0
noncomputable def tw8202508046541203908:=0
noncomputable def tw15201250333436402085:=0
noncomputable def tw13626209720904866232:=0
noncomputable def tw10598154985748317429:=0
noncomputable def tw17269699908756937028:=0
noncomputable def tw8659128164305289103:=0
noncomputable def tw13156805508237793045:=0
noncomputable def tw14437521938558850099:=0
noncomputable def tw5218777666719843160:=0
noncomputable def tw14289065844534256995:=0
noncomputable def tw2423566324611616094:=0
noncomputable def tw9874915924007927411:=0
noncomputable def tw464620199263703337:=0
noncomputable def tw15531485933301695945:=0
noncomputable def tw13785025003089306410:=0
noncomputable def tw8969786291389900941:=0
noncomputable def tw12158875696798220688:=0
noncomputable def tw6727377759075501856:=0
noncomputable def tw15396780500683400837:=0
noncomputable def tw14143463805036965224:=0
noncomputable def tw9358758455824732739:=0
noncomputable def tw15652694870919819923:=0
noncomputable def tw4975315854581761423:=0
noncomputable def tw18158786642192242455:=0
noncomputable def tw1989679737843303833:=0
noncomputable def tw8971623022171164557:=0
noncomputable def tw724633942931251550:=0
noncomputable def tw10553044823964915634:=0
noncomputable def tw13844111606707147640:=0
noncomputable def tw17216976713722958103:=0
noncomputable def tw11217750249822280380:=0
noncomputable def tw9076777392453430805:=0
noncomputable def tw7444208343238463084:=0
noncomputable def tw3256970905188578199:=0
noncomputable def tw7006334159544112671:=0
noncomputable def tw8184388461769311192:=0
noncomputable def tw1963453956186605126:=0
noncomputable def tw13161723622888093253:=0
noncomputable def tw11882140972989483690:=0
noncomputable def tw9735713057820075167:=0
noncomputable def tw5902917729830120068:=0
noncomputable def tw12853653650820777999:=0
noncomputable def tw12161417219633909202:=0
noncomputable def tw11148650471140585964:=0
noncomputable def tw1645261447468319262:=0
noncomputable def tw9782513610997689969:=0
noncomputable def tw8120568353624504105:=0
noncomputable def tw2328062442109024781:=0
noncomputable def tw205878731717913597:=0
noncomputable def tw13833611155582787819:=0
noncomputable def tw10143153496670340993:=0
noncomputable def tw9385562086074036586:=0
noncomputable def tw8655329474927856831:=0
noncomputable def tw8424753946749991738:=0
noncomputable def tw7992468372133467403:=0
noncomputable def tw717096756876739402:=0
noncomputable def tw7106399335466444877:=0
noncomputable def tw5586685728973365740:=0
noncomputable def tw4298551697186946754:=0
noncomputable def tw3449384785708845967:=0
noncomputable def tw3115539715173216585:=0
noncomputable def tw2908746951585494651:=0
noncomputable def tw1825883178926204883:=0
noncomputable def tw18088421640173030793:=0
noncomputable def tw17645531259188225912:=0
noncomputable def tw17236181343458655620:=0
noncomputable def tw15850950373413570274:=0
noncomputable def tw15179780564274212017:=0
noncomputable def tw14710770593947720083:=0
noncomputable def tw14545007857555888796:=0
noncomputable def tw1440807224911038036:=0
noncomputable def tw13848363967142083564:=0
noncomputable def tw13738533129061333211:=0
noncomputable def tw12866723353099765474:=0
noncomputable def tw12636089178586478532:=0
noncomputable def tw1002210905477593999:=0
noncomputable def tw5082810881033314576:=0
noncomputable def tw8018746315324400536:=0
noncomputable def tw3935106843179588756:=0
noncomputable def tw7680199345720276053:=0
noncomputable def tw8907249751020112436:=0
noncomputable def tw620741146226541916:=0
noncomputable def tw68382035551976580:=0
noncomputable def tw6571876834975619429:=0
noncomputable def tw13486720676165334161:=0
noncomputable def tw3284157788042610783:=0
noncomputable def tw17985133467629675838:=0
end PySem.W.Fast
open PySem PySem.W PyProof.Rows
set_option maxRecDepth 100000 in
set_option maxHeartbeats 0 in
theorem PySem.Challenge.cw_paperwright_k30_whole_prime_parts_split_holds : PySem.Challenge.rw_paperwright_k30_whole_prime_parts_split.Holds := by
 w_on;o_law;k_head;(case hw=>w_witness2)
 k_fill
 refine VL.walk (l:=PySem.Challenge.rw_paperwright_k30_whole_prime_parts_split) (k:=19) rfl rfl ⟨rfl,by decide,by decide⟩ (by decide+kernel) rfl (fun w h Y=>PySem.W.kIn_of Y) ?F
 case F=>
  intro w mg fa h KX G hmg
  refine' Ga.all_mk KX G hmg ?VU ?VV
  (case VU=>(iterate 42 walk_at "ah");exact trivial)
  (case VV=>(iterate 13 walk_at "az");exact trivial)
