import PyProof.Rows.All
import Wide.All
import OpenK.AllK
import Wide.FinOn
import Lean
import PyProof.EqAt
import PyProof.EqKinds
import PyProof.TupleCall
import PySem.Challenge.RW_paperwright_k31_prime_parts_of_known_row
set_option Elab.async false
set_option linter.all false
set_option maxRecDepth 100000
set_option maxHeartbeats 4000000
set_option hygiene false in
local macro_rules | `(tactic| walk_at "lo") => `(tactic| first | exact False.elim h | (obtain ⟨rfl, _⟩ := h; rfl) | (obtain ⟨_, h⟩ := h; walk_at "lo"))
set_option hygiene false in
local macro_rules | `(tactic| walk_at "l") => `(tactic| (intro _ _ _ h; walk_at "lo"))
set_option hygiene false in
local macro_rules | `(tactic| fin2) => `(tactic| first | dsimp only [↓Mx, My, wSs, wS, wE, wA, xM, L3, wP, HD, zq, HE, bW, setAt, List.getElem?_cons_zero, List.getElem?_cons_succ, look, List.set, bI, qY, bJ, au, List.map_cons, List.map_nil, List.nil_append, List.cons_append, x_len, zu, zv, FQ, FT, FU, zw, vD, vE, qZ, FW, FY, FZ, F3, F4, F5, zx, F6, F7, F8, Mz, MA, x_lt, MB, MC, MD, F9, Ga, ia, ME, Gb, Ge, Gf, MF, Gg, Gh, Gi, Gj, vF, rj, MG, Gk, Gm, MH, zy, vG, fall, List.replicate, if_true, Bool.not_true, Bool.not_false] | simp only [List.getElem?_cons_zero, List.getElem?_cons_succ, List.map_cons, List.map_nil, List.nil_append, List.cons_append, x_len, zu, zv, FQ, FT, FU, zw, vD, vE, qZ, FW, FY, FZ, F3, F4, F5, zx, F6, F7, F8, Mz, MA, x_lt, MB, MC, MD, F9, Ga, ia, ME, Gb, Ge, Gf, MF, Gg, Gh, Gi, Gj, vF, rj, MG, Gk, Gm, MH, zy, vG, fall, List.replicate, if_true, Bool.not_true, Bool.not_false] | skip)
set_option hygiene false in
local macro_rules | `(tactic| walk_at "hd") => `(tactic| (refine' Gp.MI ?ka ?kl ?kc ?kk; (case ka => k_is); (case kl => k_is); (case kc => k_is); (case kk => k_is)))
set_option hygiene false in
local macro_rules | `(tactic| walk_at "hm") => `(tactic| (refine' Gp.So ?ka ?ki ?kl ?kc ?kk; (case ka => k_is); (case ki => k_is); (case kl => k_is); (case kc => k_is); (case kk => k_is)))
set_option hygiene false in
local macro_rules | `(tactic| walk_at "bn") => `(tactic| first | exact Gp.QA fun _ _ _ _ _ _ _ => rfl | exact Gp.QB fun _ _ _ _ _ _ _ _ => rfl | exact Gp.QC fun _ _ _ _ _ _ _ _ _ => rfl | exact Gp.QD fun _ _ _ _ _ _ _ _ _ _ => rfl)
set_option hygiene false in
local macro_rules | `(tactic| walk_at "ah") => `(tactic| (refine' And.intro (And.intro ?h1 ?h2) ?_; (case h1 => walk_at "hd"); (case h2 => walk_at "bn")))
set_option hygiene false in
local macro_rules | `(tactic| walk_at "az") => `(tactic| (refine' And.intro ?h1 ?_; (case h1 => k_is)))
open List renaming getD_eq_getElem?_getD->AC,length_map->AN,getElem?_eq_getElem->B1,mem_singleton->DL,mem_cons_self->Da,mem_cons_of_mem->Dx,size_toArray->FC,getElem?_map->FK,getElem?_eq_some_iff->FM,getElem?_eq_none->FR,mem_cons->FV,mem_append_right->Fk,length_append->Fm,mem_append->Fs,length_range->GE,map_cons->GT,isEmpty_iff->Hb,mem_map->Hc,all_eq_true->IH,map_append->Iy,length_pos_iff->KF,getElem?_set_ne->KM,getElem?_append_right->Kb,mem_range->Kk,mem_append_left->N0,getElem?_append_left->NA,length_set->OF,cons_lt_cons_iff->On,length_eq_zero_iff->Oy,getElem?_set_self->P3,map_congr_left->PP,getElem?_range->PQ,pairwise_map->Pi,getElem_mem->Pt,nodup_cons->Pv,mem_of_getElem?->QP,mem_filter->QR,append_nil->Qb,map_map->Qr,length_take->Re,drop_eq_getElem_cons->SB,getElem_of_mem->SU,getElem?_replicate->T2,map_replicate->Ta,length_replicate->W0,reverse_cons->W1,nodup_append->W2,ext_getElem?->W3,length_reverse->WB,getElem?_take_of_lt->WE,pairwise_cons->WI,range_succ_eq_map->WM,pairwise_lt_range->WO,length_eq_one_iff->WQ,not_mem_nil->WV,nodup_nil->X4,getLast?_eq_getElem?->X6,getElem?_set->X7,eq_of_mem_replicate->XA,pairwise_singleton->XG,getLast?_cons_cons->XH,map_set->XN,map_nil->XO,reverse_reverse->XW,pairwise_append->XX,replicate->Ds,range->Ea,length_cons->Eb,length_singleton->G0,toArray->G1,lookup_cons->GC,replicate_succ->HL,all_cons->IP,find?_cons->Il,flatten_cons->Kh,length_nil->ML,zip_cons_cons->NZ,filterMap_cons->O5,zipWith->O9,any_cons->OH,set_comm->Pb,mem_filterMap->Pj,getElem_range->Pp,take_succ_eq_append_getElem->QI,append_assoc->Qf,take_length->RN,length_drop->RO,length->RT,of_mem_zip->Rx,nil_append->S2,map_const'->SO,exists_cons_of_ne_nil->Sf,pairwise_iff_getElem->Sn,getElem?_reverse->U3,dropLast_eq_take->UK,contains_iff_mem->UO,map_inj_right->VJ,foldl->VV,append_of_mem->VW,drop_length->Ve,any_eq_true->Vg,range_succ->Vs,map_take->Wy
open Bool renaming and_eq_true->Ap,false_ne_true->Jn,and_eq_true_iff->KB,or_false->RF,not_eq_true->TB,and_false->TC,eq_iff_iff->WG,false_eq_true->WJ,not_eq_true'->X9,or_eq_true->XR,true_and->Xe,and_true->Xf,true_or->Xi,or_true->Xj
open Nat renaming le_refl->BM,lt_of_lt_of_le->HI,ne_of_lt->Ha,le_trans->Hm,zero_le->KE,add_sub_cancel->Kt,lt_irrefl->Mo,lt_succ_of_lt->QQ,lt_succ_self->W8,le_of_lt->W9,le_of_eq->WA,lt_of_le_of_ne->WH,ne_of_gt->WL,le_of_not_lt->WU,mul_le_mul_left->WY,le_add_right->XF,lt_trans->XM,pow_add->XU,pow_succ->NY,pow_zero->Nf,succ_mul->Qk,sub_zero->Qq,sub_self->R0,pow_one->RU,add_sub_cancel_left->Sw,zero_add->U1,mul_comm->U2,pow_pos->Uo,le_zero->Uu,add_right_comm->VY,lt_succ_of_le->Vd,succ_le_succ->Vr,le_antisymm->Vu,lt_or_ge->Xk,mul_add->Xw,log2_lt->Xx,le_succ->Xy,succ->Y4
open PySem.Heap renaming get?_push_of_some->D1,lt_size->Ee,get?_push_size->Fn,get?_update_ne->Ts
open PySem renaming wpAny_bind->D2,wpAny_pure->Hn,wpAny_loadPart'->Kj,mem_of_lookup->L9,wpAny_mono->PH,wpAny_truthy_bool->Sr,sizeLine_eq->T1,wpAny_Call_Name_kw->W5,wpAny_passesOwn->W6,wpAny_holding->WK,codeAny_mono->WX,wpAny_standAt->X1,wpAny_bindName->XC,wpAny_newObj_type->XQ
open Classical renaming byContradiction->FS,not_forall->Sq,not_not->YB,not_imp->YC
open Lean.Grind.Semiring renaming pow_zero->Gc,natCast->F1,pow_add->OK
open Option.some renaming inj->Hk
open Option renaming map_eq_some_iff->IR,isSome_iff_exists->WD,getD_some->L4,map_some->L5,getD_none->VI,none->Wf
open Int renaming fmod_eq_emod_of_nonneg->Ki,emod_lt_of_pos->Nw,emod_add_mul_ediv->Os,emod_nonneg->Pl,zero_mul->SC,mul_comm->SF,dvd_add->SL,mul_le_mul_of_nonneg_left->TK,add_zero->Tb,le_of_dvd->UF,dvd_trans->UV,fdiv_eq_ediv_of_nonneg->W7,mul_zero->WR,mul_le_mul_of_nonneg_right->WW,toNat_of_nonneg->WZ,zero_add->Wp,sub_zero->X0,natAbs_mul->X5,gcd_dvd_right->X8,gcd_dvd_left->XI,emod_eq_zero_of_dvd->XJ,one_mul->XY,dvd_neg->XZ,toNat_natCast->G2,gcd->Nv,natCast_succ->Nz,ofNat_inj->Px,lt_or_le->R6,emod_eq_of_lt->RG,mul_one->SQ,dvd_sub->SV,dvd_mul_of_dvd_right->Sv,dvd_of_emod_eq_zero->TV,dvd_zero->Uc,natAbs_dvd_natAbs->Um,neg_mul->V4,mul_nonneg->Xc,mul_le_mul->Xd,mul_assoc->Xh,zero_sub->Xn,sub_self->Xo,pow_zero->Xp,pow_succ->Xq,ofNat_lt->Xr,le_total->Xs,mul_neg->Xz,dvd_gcd->Y0
open PyProof.Rows renaming callWith_type1->Kx,assignInOrder_cons->WC,lt_int->SY,callWith_kw->Xu,callWith_builtin1->Xv
open Ne renaming symm->NM
open PySem.W renaming kia_one->P2
open Lean.Grind.Ring renaming intCast_one->W4,intCast->F2,intCast_zero->Oh,intCast_add->P9,intCast_sub->Wz,intCast_neg->Xa,intCast_mul->Xb
open PySem.Around renaming under_plainId->X3
open PySem.SeqAt.EqAt renaming int_int->XD
open PySem.Calls renaming spliced_cons->XE
open PySem.F renaming slot_dict_get->XS
open Array renaming getElem?_toList->XT,length_toList->Gw,getD_eq_getD_getElem?->SW,perm_iff_toList_perm->Sb,forIn_toList->V5,append_assoc->V9,toList->Xg,getD->Xt
open Lean.Grind renaming Semiring->Gv,Ring->IU
open False renaming elim->HP
open Sum renaming inl->IV,inr->Qg
open True renaming intro->Ma
open ForInStep renaming yield->Mt
open List.cons renaming inj->Of,injEq->Y5
open List.Pairwise renaming imp_of_mem->QF,nil->Xl,imp->Xm
open Nat.succ renaming inj->Sd
open PyProof renaming noPylong_small->Sh
open List.Perm renaming mem_iff->TU,refl->V3,of_eq->Y6,map->Y7,length_eq->Y8,eq_of_pairwise->Y9
open Quotient renaming lift->VX
open Nat.Coprime renaming dvd_of_dvd_mul_left->Y1
open Prod renaming ext->Y2
open And renaming right->Y3,left->YD
open Decidable renaming not_not->YA
noncomputable def Bi:=@if_neg
noncomputable def Bn:=@of_decide_eq_true
noncomputable def Bz:=@if_pos
noncomputable def Do:=@decide_eq_true
noncomputable def Fh:=@decide_eq_true_eq
noncomputable def GM:=@congrArg
noncomputable def He:=@decide_eq_false
noncomputable def Pm:=@beq_iff_eq
noncomputable def SZ:=@beq_self_eq_true
noncomputable def X2:=@of_decide_eq_false
noncomputable def XB:=@if_false
open PySem.W(instObj methodObj hideAll_get Frag lookIn plainGet findIn emptyDict isFn keepIn mroIn kitOne fnOf codeIn nsIn)
noncomputable section
set_option bootstrap.genMatcherCode false
namespace L2
open PySem PySem.Spec PyProof.Rows
abbrev Key:=Sum Int Str
noncomputable def kF:Key->Value->Bool
 |.inl k,v=>Value.isInt k v
 |.inr x,v=>Value.isStrOf x v
noncomputable def QE(w:World):Key->Int
 |.inl k=>hashInt k
 |.inr x=>hashStr w x
theorem aS:∀{k:Key}{v:Value},kF k v=true->(∃i t,k=IV i/\v=Value.int i t)\/(∃x t,k=Qg x/\v=Value.str x t)
 |.inl i,v,h=>by obtain⟨t,e⟩:=Value.isInt_shape (k:=i) (v:=v) h;exact .inl ⟨i,t,rfl,e⟩
 |.inr x,v,h=>by obtain⟨t,e⟩:=Value.isStrOf_shape (x:=x) (v:=v) h;exact .inr ⟨x,t,rfl,e⟩
theorem xN(i:Int)(t:Tok):kF (.inl i) (.int i t)=true:=by simp[kF,Value.isInt]
theorem xO(x:Str)(t:Tok):kF (.inr x) (.str x t)=true:=by simp[kF,Value.isStrOf]
theorem HF(a b:Int):decide ((IV a:Key)=IV b)=(a==b):=by
 by_cases e:a=b
 .subst e;simp
 .have h:¬(IV a:Key)=IV b:=λq=>e (Sum.inl.inj q);rw[He h];exact(beq_eq_false_iff_ne.mpr e).symm
theorem HG(a b:Str):decide ((Qg a:Key)=Qg b)=decide (a=b):=by
 by_cases e:a=b
 .subst e;simp
 .have h:¬(Qg a:Key)=Qg b:=λq=>e (Sum.inr.inj q);rw[He h,He e]
theorem HH(a:Int)(b:Str):decide ((IV a:Key)=Qg b)=false:=He (λq=>nomatch q)
theorem HJ(a:Str)(b:Int):decide ((Qg a:Key)=IV b)=false:=He (λq=>nomatch q)
noncomputable def aZ(prog:Program)(w:World):PySem.KeyKind prog w Key where
 is:=kF
 hash:=QE w
 inj:=λv a b g d=>by
  rcases aS g with⟨i,t,rfl,rfl⟩|⟨x,t,rfl,rfl⟩
  .rcases aS d with⟨j,u,rfl,e⟩|⟨y,u,rfl,e⟩
   .injection e with e1 _;rw[e1]
   .exact nomatch e
  .rcases aS d with⟨j,u,rfl,e⟩|⟨y,u,rfl,e⟩
   .exact nomatch e
   .injection e with e1 _;rw[e1]
 byValue:=λk v h=>by rcases aS h with⟨i,t,rfl,rfl⟩|⟨x,t,rfl,rfl⟩<;>rfl
 pyHash:=λc h=>by
  rcases aS c with⟨i,t,rfl,rfl⟩|⟨x,t,rfl,rfl⟩
  .exact wpAny_pyHash_int h
  .exact wpAny_pyHash_str h
 eqBool:=λf c h=>by
  rcases aS f with⟨i,t,rfl,rfl⟩|⟨x,t,rfl,rfl⟩
  .rcases aS c with⟨j,u,rfl,rfl⟩|⟨y,u,rfl,rfl⟩
   .rw[HF]at h;exact wpAny_eqBool_int h
   .rw[HH]at h;exact SeqAt.EqAt.int_str i t y u _ _ _ _ h
  .rcases aS c with⟨j,u,rfl,rfl⟩|⟨y,u,rfl,rfl⟩
   .rw[HJ]at h;exact SeqAt.EqAt.str_int x t j u _ _ _ _ h
   .rw[HG]at h;exact wpAny_eqBool_str h
 «strs»:=λk x t v h=>by
  rcases aS h with⟨i,u,rfl,e⟩|⟨y,u,rfl,e⟩
  .exact nomatch e
  .injection e with e1 _;subst e1;cases v<;>rfl
theorem rq(prog:Program)(w:World)(i:Int)(t:Tok):(aZ prog w).is (.inl i) (.int i t)=true:=xN i t
theorem rC(prog:Program)(w:World)(x:Str)(t:Tok):(aZ prog w).is (.inr x) (.str x t)=true:=xO x t
inductive V where
 |aL|bl (b:Bool)|int (i:Int)|str (x:Str)|zm (b:Array UInt8)|HK (b:UInt64)|ref (a:Addr)|ty (n:String)
 deriving DecidableEq
noncomputable def RelV:V->Value->Prop
 |.aL,u=>u=Value.none
 |.bl b,u=>u=Value.bool b
 |.int i,u=>∃t,u=Value.int i t
 |.str x,u=>∃t,u=Value.str x t
 |.zm b,u=>∃t,u=Value.bytes b t
 |.HK b,u=>∃t,u=Value.float b t
 |.ref a,u=>u=Value.ref a
 |.ty n,u=>u=Value.type n
abbrev Vals:List V->List Value->Prop:=Paired RelV
theorem Vals.length{a:List V}{b:List Value}(r:Vals a b):a.length=b.length:=Paired.length r
theorem Vals.get:∀{a:List V}{b:List Value}{i:Nat}{x:V},Vals a b->a[i]?=some x->∃u,b[i]?=some u/\RelV x u
 |_,_,_,_,.nil,e=>by simp at e
 |_,_,0,_,.cons r _,e=>by simp at e;subst e;exact⟨_,rfl,r⟩
 |_,_,i+1,x,.cons _ t,e=>by obtain⟨u,d,c⟩:=Vals.get (i:=i) (x:=x) t (by simpa using e);exact⟨u,by simpa using d,c⟩
theorem Vals.set{x:V}{u:Value}(r:RelV x u):∀{a:List V}{b:List Value}(i:Nat),Vals a b->Vals (a.set i x) (b.set i u)
 |_,_,_,.nil=>.nil
 |_,_,0,.cons _ t=>.cons r t
 |_,_,i+1,.cons q t=>.cons q (Vals.set r i t)
theorem Vals.append:∀{b a:List V}{d c:List Value},Vals b d->Vals a c->Vals (b++a) (d++c)
 |_,_,_,_,.nil,s=>s
 |_,_,_,_,.cons r t,s=>.cons r (Vals.append t s)
theorem Vals.take:∀{a:List V}{b:List Value}(n:Nat),Vals a b->Vals (a.take n) (b.take n)
 |_,_,0,_=>.nil
 |_,_,_+1,.nil=>.nil
 |_,_,n+1,.cons r t=>.cons r (Vals.take n t)
theorem Vals.drop:∀{a:List V}{b:List Value}(n:Nat),Vals a b->Vals (a.drop n) (b.drop n)
 |_,_,0,r=>r
 |_,_,_+1,.nil=>.nil
 |_,_,n+1,.cons _ t=>Vals.drop n t
noncomputable def ic:Option V->Option Value->Prop
 |some v,some u=>RelV v u
 |none,none=>True
 |_,_=>False
noncomputable def KV{κ:Type}:List (κ×V)->List (κ×Value)->Prop:=Paired λ(p:κ×V)(q:κ×Value)=>p.1=q.1/\RelV p.2 q.2
noncomputable def kV:Key->V
 |.inl i=>.int i
 |.inr x=>.str x
inductive HO where
 |lst (xs:List V)
 |tup (xs:List V)
 |dK (kvs:List (Key×V))|dT (kvs:List (List Key×V))
 |set (S:Int->Bool) (n:Nat)
 |ins (C dx:Addr) (fs:List (Str×V))
 |own (x:Addr)
 |xd (fs:List (Str×V))
 |met (f x:Addr)
 |jb (lo hi:Int)
 |rD (o:Obj) (u:HO)
 |Gq (ps:Array Value)
 |ext (φ:Heap->Prop)
abbrev Hp:=Addr->Option HO
noncomputable def upd(H:Hp)(a:Addr)(o:HO):Hp:=λb=>if b=a then some o else H b
theorem aJ{H:Hp}{a:Addr}{o:HO}:upd H a o a=some o:=by unfold upd;rw[Bz rfl]
theorem ay{H:Hp}{a b:Addr}{o:HO}(h:b≠a):upd H a o b=H b:=by unfold upd;rw[Bi h]
theorem MJ{H:Hp}{a b:Addr}{o u:HO}(h:H a=some o)(h':H b=some u)(d:o≠u):a≠b:=by intro e;subst e;rw[h]at h';exact d (Hk h')
theorem aR{H:Hp}{a b:Addr}{o:HO}(h:H a=some o)(h':H b=none):a≠b:=by intro e;subst e;rw[h]at h';cases h'
section
variable(P:Program)(w:World)
noncomputable def aT(H:Hp)(h:Heap)(a:Addr):HO->Prop
 |.lst c=>c.length<=sizeLine/\∃(b:List Value)(n:Nat),Vals c b/\h.get? a=some {cls:=.type "list",data:=.seq b.toArray n}
 |.tup c=>c.length<=sizeLine/\∃b:List Value,Vals c b/\IsTup h a b.toArray
 |.dK kvs=>kvs.length<=sizeLine/\(a==sysModules)=false/\∃vs,KV kvs vs/\h.DictOf (aZ P w) a vs
 |.dT kvs=>kvs.length<=sizeLine/\(a==sysModules)=false/\∃c:List (List Key×Addr×Value),
   Paired (λ(p:List Key×V)(q:List Key×Addr×Value)=>p.1=q.1/\H q.2.1=some (.tup (p.1.map kV))/\RelV p.2 q.2.2) kvs c/\
   ∃o k ep,h.get? a=some o/\o.ExactDict/\o.data=.dict k ep/\k.toList=c.map (entryOfKey (tupleKind (aZ P w)))/\(c.map (·.1)).Nodup
 |.set S n=>h.SetOf (intKind P w) a S n
 |.ins C g e=>H g=some (.own a)/\e.length<=1000/\g≠a/\h.get? a=some (instObj C g)/\
   ∃d,h.Ns1 g d/\(∀f,ic (e.lookup f) (d f))/\PySem.Within d (e.map (·.1))
 |.own _=>∃o,h.get? a=some o
 |.xd e=>∃d,h.Ns1 a d/\∀f,ic (e.lookup f) (d f)
 |.jb m r=>∃t u v,h.get? a=some {cls:=.type "range",data:=.fields #[.int m t,.int r u,.int 1 v]}
 |.rD o u=>h.get? a=some o/\aT H h a u
 |.Gq l=>h.get? a=some {cls:=.none,data:=.fields l}
 |.met f x=>h.get? a=some (methodObj (.ref f) (.ref x))
 |.ext φ=>φ h/\(∃o,h.get? a=some o)/\∀j i:Heap,φ j->(∀o,j.get? a=some o->i.get? a=some o)->φ i
noncomputable def fS(H:Hp)(h:Heap):Prop:=∀a o,H a=some o->aT P w H h a o
end
section
variable{P:Program}{w:World}{H H':Hp}{h h':Heap}{a:Addr}{o:HO}
theorem aT.lt(x:aT P w H h a o):a<h.objs.size:=by
 cases o with
 |lst c=>obtain⟨_,_,_,_,e⟩:=x;exact Ee e
 |tup c=>obtain⟨_,_,_,p⟩:=x;exact p.lt
 |dK b=>obtain⟨_,_,_,_,o,_,_,e,_⟩:=x;exact Ee e
 |dT b=>obtain⟨_,_,_,_,o,_,_,e,_⟩:=x;exact Ee e
 |set S n=>obtain⟨o,_,_,_,e,_⟩:=x;exact Ee e
 |ins C l d=>obtain⟨_,_,_,e,_⟩:=x;exact Ee e
 |own y=>obtain⟨_,e⟩:=x;exact Ee e
 |xd d=>obtain⟨_,⟨_,_,_,e,_⟩,_⟩:=x;exact Ee e
 |jb j k=>obtain⟨_,_,_,e⟩:=x;exact Ee e
 |rD i u=>obtain⟨e,_⟩:=x;exact Ee e
 |Gq g=>exact Ee (show h.get? a=some _ from x)
 |met f y=>exact Ee (show h.get? a=some _ from x)
 |ext φ=>obtain⟨_,⟨_,e⟩,_⟩:=x;exact Ee e
theorem Paired.zA{α e:Type}{F G:α->e->Prop}:∀{d:List α}{c:List e},Paired F d c->(∀a b,F a b->G a b)->Paired G d c
 |_,_,.nil,_=>.nil
 |_,_,.cons r t,f=>.cons (f _ _ r) (Paired.zA t f)
theorem aT.stay(x:aT P w H h a o)(k:∀b u,(b=a\/H b=some (.own a))->h.get? b=some u->h'.get? b=some u)
 (L:∀b,H b=some (.own a)->H' b=some (.own a))(K:∀b m,H b=some (.tup m)->H' b=some (.tup m)):aT P w H' h' a o:=by
 induction o with
 |lst m=>obtain⟨z,l,n,r,e⟩:=x;exact⟨z,l,n,r,k _ _ (.inl rfl) e⟩
 |tup m=>obtain⟨z,l,r,g,e,c⟩:=x;exact⟨z,l,r,g,k _ _ (.inl rfl) e,c⟩
 |dK B=>obtain⟨z,y,G,r,g,i,j,e,c⟩:=x;exact⟨z,y,G,r,g,i,j,k _ _ (.inl rfl) e,c⟩
 |dT B=>obtain⟨z,y,m,r,g,i,j,e,c⟩:=x;exact⟨z,y,m,Paired.zA r λp q z=>⟨z.1,K _ _ z.2.1,z.2.2⟩,g,i,j,k _ _ (.inl rfl) e,c⟩
 |set S n=>obtain⟨g,i,j,t,e,c⟩:=x;exact⟨g,i,j,t,k _ _ (.inl rfl) e,c⟩
 |ins C R M=>obtain⟨d,z,I,e,A,⟨s,i,j,N,c⟩,r⟩:=x;exact⟨L _ d,z,I,k _ _ (.inl rfl) e,A,⟨s,i,j,k _ _ (.inr d) N,c⟩,r⟩
 |own y=>obtain⟨g,e⟩:=x;exact⟨g,k _ _ (.inl rfl) e⟩
 |xd M=>obtain⟨A,⟨s,i,j,e,c⟩,r⟩:=x;exact⟨A,⟨s,i,j,k _ _ (.inl rfl) e,c⟩,r⟩
 |jb O Q=>obtain⟨t,u,v,e⟩:=x;exact⟨t,u,v,k _ _ (.inl rfl) e⟩
 |rD g u J=>obtain⟨e,q⟩:=x;exact⟨k _ _ (.inl rfl) e,J q⟩
 |Gq E=>have e:h.get? a=some {cls:=.none,data:=.fields E}:=x;show h'.get? a=some {cls:=.none,data:=.fields E};exact k a _ (.inl rfl) e
 |met f y=>have e:h.get? a=some (methodObj (.ref f) (.ref y)):=x;show h'.get? a=some (methodObj (.ref f) (.ref y));exact k a _ (.inl rfl) e
 |ext φ=>obtain⟨p,⟨o,e⟩,D⟩:=x;exact⟨D _ _ p λo q=>k _ _ (.inl rfl) q,⟨o,k _ _ (.inl rfl) e⟩,D⟩
theorem fS.lt(x:fS P w H h)(e:H a=some o):a<h.objs.size:=(x a o e).lt
theorem fS.fresh(x:fS P w H h)(e:h.objs.size<=a):H a=none:=by
 cases q:H a with
 |none=>rfl
 |some u=>exact absurd (HI (x.lt q) e) (Mo _)
theorem fS.kept(x:fS P w H h)(k:∀b u,h.get? b=some u->h'.get? b=some u):fS P w H h':=λa o e=>(x a o e).stay (λb u _ q=>k b u q) (λ_ q=>q) λ_ _ q=>q
theorem fS.laid(x:fS P w H h)(k:∀b u,h.get? b=some u->h'.get? b=some u)(i:h.objs.size<=a)(d:aT P w (upd H a o) h' a o):fS P w (upd H a o) h':=λb u e=>by
 have f:=x.fresh i;by_cases g:b=a
 .subst g;rw[aJ]at e;cases e;exact d
 .rw[ay g]at e;exact(x b u e).stay (λc v _ q=>k c v q) (λc q=>by rw[ay (aR q f)];exact q) λc j q=>by rw[ay (aR q f)];exact q
end
noncomputable def Rd(H:Hp)(a:Addr)(u:HO):Prop:=H a=some u\/∃o,H a=some (.rD o u)
theorem Rd.ok{P:Program}{w:World}{H:Hp}{h:Heap}{a:Addr}{u:HO}(r:Rd H a u)(x:fS P w H h):aT P w H h a u:=by
 rcases r with r|⟨o,r⟩
 .exact x a u r
 .obtain⟨_,q⟩:=x a _ r;exact q
noncomputable def MK:Option HO->Prop
 |some (.lst _)=>True
 |some (.dK _)=>True
 |some (.dT _)=>True
 |some (.set _ _)=>True
 |some (.ins _ _ _)=>True
 |some (.ext _)=>True
 |_=>False
section
variable{P:Program}{w:World}{H:Hp}{h h':Heap}{x e:Addr}{o':HO}
theorem fS.write(n:fS P w H h)(d:MK (H x))(he:e=x\/H e=some (.own x))(k:∀b u,b≠e->h.get? b=some u->h'.get? b=some u)(s:∃u,h'.get? e=some u)
 (j:aT P w (upd H x o') h' x o'):fS P w (upd H x o') h':=λb u q=>by
 have m:∀c y,H c=some (.own y)->c≠x:=λc y r z=>by subst z;rw[r]at d;exact d
 have p:∀c a,H c=some (.tup a)->c≠x:=λc a r z=>by subst z;rw[r]at d;exact d
 by_cases g:b=x
 .subst g;rw[aJ]at q;cases q;exact j
 .rw[ay g]at q;by_cases i:b=e
  .have l:H b=some (.own x):=by
    rcases he with z|z
    .exact absurd (i.trans z) g
    .rw[i];exact z
   rw[q]at l;cases l;obtain⟨v,o⟩:=s;exact⟨v,by rw[i];exact o⟩
  .refine(n b u q).stay (λc v f r=>k c v ?_ r) (λc r=>by rw[ay (m c b r)];exact r) λc a r=>by rw[ay (p c a r)];exact r
   rcases f with rfl|f
   .exact i
   .rintro rfl;rcases he with z|z
    .exact m c b f z
    .rw[f]at z;cases z;exact g rfl
end
structure Un(fs ex:List Addr)(H H':Hp)(h h':Heap):Prop where
 keep:∀b o,h.get? b=some o->H b=none->b∉fs->b∉ex->h'.get? b=some o
 slot:∀b o,h.get? b=some o->H b=none->b∈fs->b∉ex->∃sl,h'.get? b=some {o with slots:=sl}
 free:∀b o,h.get? b=some o->H b=none->b∉ex->H' b=none
 there:∀b o,h.get? b=some o->b∉ex->∃o',h'.get? b=some o'
 tups:∀b xs,H b=some (.tup xs)->H' b=some (.tup xs)
 ie:∀b o u,H b=some (.rD o u)->H' b=some (.rD o u)
 jc:∀b ps,H b=some (.Gq ps)->∃more,H' b=some (.Gq (ps++more))
section
variable{fs fs' ex ex':List Addr}{H H1 H2:Hp}{h h1 h2 h':Heap}{a x e:Addr}{o:HO}
theorem Un.any(u:Un fs ex H H1 h h1){b:Addr}{c:Obj}(q:h.get? b=some c)(n:H b=none)(d:b∉ex):∃g,h1.get? b=some {c with slots:=g}:=by
 by_cases f:b∈fs
 .exact u.slot b c q n f d
 .exact⟨c.slots,u.keep b c q n f d⟩
theorem Un.kept(k:∀b u,h.get? b=some u->h'.get? b=some u):Un fs ex H H h h':=
 ⟨λb c q _ _ _=>k b c q,λb c q _ _ _=>⟨c.slots,k b c q⟩,λ_ _ _ n _=>n,λb c q _=>⟨c,k b c q⟩,λ_ _ q=>q,λ_ _ _ q=>q,λ_ d q=>⟨#[],by rw[q];simp⟩⟩
theorem Un.refl:Un fs ex H H h h:=Un.kept λ_ _ q=>q
theorem Un.laid(k:∀b u,h.get? b=some u->h'.get? b=some u)(f:h.objs.size<=a)(c:H a=none):Un fs ex H (upd H a o) h h' where
 keep:=λb u q _ _ _=>k b u q
 slot:=λb u q _ _ _=>⟨u.slots,k b u q⟩
 free:=λb u q n _=>by rw[ay (Ha (HI (Ee q) f))];exact n
 there:=λb u q _=>⟨u,k b u q⟩
 tups:=λb d q=>by rw[ay (aR q c)];exact q
 ie:=λb u d q=>by rw[ay (aR q c)];exact q
 jc:=λb g q=>⟨#[],by rw[ay (aR q c),q];simp⟩
theorem Un.write(c:MK (H x))(he:e=x\/H e=some (.own x))(k:∀b u,b≠e->h.get? b=some u->h'.get? b=some u)(m:∃u,h'.get? e=some u):Un fs ex H (upd H x o) h h':=by
 have f:∀b,H b=none->b≠x:=λb n z=>by subst z;rw[n]at c;exact c
 have g:∀b,H b=none->b≠e:=λb n z=>by
  subst z;rcases he with r|r
  .exact f b n r
  .rw[n]at r;cases r
 have d:∀b u,H b=some u->¬MK (some u)->b≠x:=λb u q l z=>by subst z;rw[q]at c;exact l c
 refine⟨λb u q n _ _=>k b u (g b n) q,λb u q n _ _=>⟨u.slots,k b u (g b n) q⟩,λb u q n _=>by rw[ay (f b n)];exact n,λb u q _=>?_,
  λb j q=>by rw[ay (d b _ q λz=>z)];exact q,λb u j q=>by rw[ay (d b _ q λz=>z)];exact q,λb p q=>⟨#[],by rw[ay (d b _ q λz=>z),q];simp⟩⟩
 by_cases i:b=e
 .subst i;exact m
 .exact⟨u,k b u i q⟩
end
noncomputable def P6(h:Heap)(H:Hp):List Addr:=(Ea h.objs.size).filter λa=>(H a).isSome
noncomputable def oR(h:Heap)(H:Hp):Heap:=PySem.W.hideAll h (P6 h H)
theorem xP(h:Heap)(H:Hp):(oR h H).objs.size=h.objs.size:=PySem.W.hideAll_size _ _
theorem zB{h:Heap}{H:Hp}{b:Addr}{o:Obj}(e:h.get? b=some o)(n:H b=none):(oR h H).get? b=some o:=
 hideAll_get _ e λa=>by have q:(H b).isSome=true:=(QR.mp a).2;rw[n]at q;simp at q
theorem CQ{h:Heap}{H:Hp}{b:Addr}{o:Obj}(e:(oR h H).get? b=some o):h.get? b=some o/\H b=none:=by
 have a:h.get? b=some o:=PySem.W.of_hideAll (P6 h H) e;refine⟨a,?_⟩;cases q:H b with
 |none=>rfl
 |some x=>have c:b∈P6 h H:=QR.mpr ⟨Kk.mpr (Ee a),by simp[q]⟩;have z:(oR h H).get? b=none:=PySem.W.hideAll_none (P6 h H) c;rw[z]at e;cases e
noncomputable def CT(g h:Heap)(L:Addr):List (Addr×Obj):=(Ea h.objs.size).filterMap λa=>if a=L\/(g.get? a).isSome=true then none else(h.get? a).map λo=>(a,o)
noncomputable def rest(g h:Heap)(L d:Addr):List (Addr×Obj):=(CT g h L).filter λp=>decide (p.1≠d)
structure Mod(K:Frag)(mg:Str->Option Value)(base:Heap):Prop where
 P7:K.In base
 glob:base.Ns mainGlobals mg
 blt:∃mb,base.Ns builtinsNs mb/\∀x:Str,x≠"__name__"->mb x=bootBuiltins x
 nolimit:base.NoLimit
 seer:base.NoSeer
set_option genInjectivity false in
set_option genSizeOf false in
structure Cx where
 prog:Program
 w:World
 K:Frag
 mg:Str->Option Value
 base:Heap
 A:Around
 N:List Str
 s₀:Shared
 H₀:Hp
 env:Env
 outer:List Env
 stack:List Env
 ex:List Addr
 fn:Str->Bool
 calm:Bool
 pn:List (Addr×Obj)
 xe:Value->Shared->Prop
noncomputable def frs(l:List Env):List Addr:=l.filterMap (·.frame)
abbrev Cx.fs(X:Cx):List Addr:=frs X.outer
noncomputable def HM(sc:Scope)(x:Str):Prop:=sc.names.lookup x=some .local\/sc.names.lookup x=some .cell\/sc.names.lookup x=some .free
noncomputable def Loc(sc:Scope)(x:Str):Prop:=sc.names.lookup x=some .local\/sc.names.lookup x=some .cell
noncomputable def Look(env:Env)(h:Heap)(m:Str->Option Value)(x:Str)(u:Value):Prop:=
 (env.kindOf x=some .local/\m x=some u)\/((env.kindOf x=some .cell\/env.kindOf x=some .free)/\∃c,env.cells.lookup x=some c/\h.IsCell c (some u))
structure Cx.Ok(X:Cx):Prop where
 mod:Mod X.K X.mg X.base
 kind:X.env.scope.kind=.function
 glob:X.env.globals=mainGlobals
 blt:X.env.builtins=builtinsNs
 above:X.s₀.heap.objs.size<=X.env.locals
 inj:∀x y c,X.env.cells.lookup x=some c->X.env.cells.lookup y=some c->x=y
 has:∀x,(X.env.kindOf x=some .cell\/X.env.kindOf x=some .free)->∃c,X.env.cells.lookup x=some c
 MM:∀x c,X.fn x=true->X.env.cells.lookup x=some c->X.s₀.heap.objs.size<=c
 hd:X.calm=true->X.A.handled=none
 frames:X.A.frames=some X.stack
 stk:X.stack=X.outer\/(X.stack=X.env::X.outer/\X.env.frame=some X.env.locals)
 QG:∀b∈X.ex,b≠X.env.locals/\∀x c,X.env.cells.lookup x=some c->c≠b
 bs:∀b o,X.base.get? b=some o->X.s₀.heap.get? b=some o/\X.H₀ b=none
 CJ:X.base.objs.size<=X.s₀.heap.objs.size
 zC:∀b o,X.base.get? b=some o->b∉X.ex
 zD:∀b∈X.ex,b∉X.fs
 je:X.s₀.heap.FunFrames X.base X.outer
 Gr:∀b∈X.fs,X.H₀ b=none
 tree:X.prog.given.tree=none
 P8:∀(A:Around)(s:Shared),A.frames=X.A.frames->A.depth=X.A.depth->(∀b o,X.base.get? b=some o->s.heap.get? b=some o)->PylongRoom (model X.prog X.w) A s
structure Inv(X:Cx)(pins:List (Addr×Obj))(σ:List (Option V))(H:Hp)(s:Shared):Prop where
 ok:X.Ok
 os:s.os=X.s₀.os
 bare:AllBare s.gens
 base:Un X.fs X.ex X.H₀ H X.s₀.heap s.heap
 loc:∃m,s.heap.Ns X.env.locals m/\∀(i:Nat)(x:Str)(v:V),X.N[i]?=some x->σ[i]?=some (some v)->HM X.env.scope x->∃u,RelV v u/\Look X.env s.heap m x u
 cell:∀x c,X.env.cells.lookup x=some c->∃v,s.heap.IsCell c v
 free:H X.env.locals=none
 fU:∀x c,X.env.cells.lookup x=some c->H c=none
 pin:∀p∈X.pn++pins,s.heap.get? p.1=some p.2/\H p.1=none/\p.1≠X.env.locals/\p.1∉X.fs/\∀v,p.2.data≠.cell v
 hok:fS X.prog X.w H s.heap
 len:σ.length=X.N.length
section
variable{X:Cx}{pins:List (Addr×Obj)}{σ:List (Option V)}{H H':Hp}{s:Shared}{h':Heap}
theorem Cx.Ok.CU(a:X.Ok){b:Addr}{o:Obj}(e:X.base.get? b=some o):b∉X.fs:=λc=>by have:=(a.je.mem c).1;rw[e]at this;cases this
theorem Inv.bs(I:Inv X pins σ H s):∀b o,X.base.get? b=some o->s.heap.get? b=some o/\H b=none:=λb o e=>⟨I.base.keep b o (I.ok.bs b o e).1 (I.ok.bs b o e).2 (I.ok.CU e) (I.ok.zC b o e),I.base.free b o (I.ok.bs b o e).1 (I.ok.bs b o e).2 (I.ok.zC b o e)⟩
theorem Inv.bk(I:Inv X pins σ H s):∀b o,X.base.get? b=some o->s.heap.get? b=some o:=λb o e=>(I.bs b o e).1
theorem Inv.mod(I:Inv X pins σ H s):Mod X.K X.mg X.base:=I.ok.mod
theorem Inv.kG(I:Inv X pins σ H s):X.K.In s.heap:=I.ok.mod.P7.keeps I.bk
theorem Inv.lt(I:Inv X pins σ H s):X.env.locals<s.heap.objs.size:=let⟨_,hn,_⟩:=I.loc;hn.lt
theorem Inv.sz(I:Inv X pins σ H s):X.s₀.heap.objs.size<=s.heap.objs.size:=Hm I.ok.above (W9 I.lt)
theorem Inv.QH(I:Inv X pins σ H s){a:Addr}(h:s.heap.objs.size<=a):a∉X.fs:=λc=>by obtain⟨_,o,b,_⟩:=I.ok.je.mem c;exact absurd (HI (Ee b) (Hm I.sz h)) (Mo _)
theorem Inv.HN(I:Inv X pins σ H s):∀x c,X.env.cells.lookup x=some c->c≠X.env.locals:=λx c e z=>by obtain⟨v,o,d,f⟩:=I.cell x c e;obtain⟨m,⟨g,h,i,a,b,_⟩,_⟩:=I.loc;rw[z,a]at d;cases d;rw[b]at f;cases f
theorem Inv.je(I:Inv X pins σ H s):s.heap.FunFrames X.base X.outer:=by
 have f:∀(l:List Env),(∀b∈frs l,b∈X.fs)->X.s₀.heap.FunFrames X.base l->s.heap.FunFrames X.base l:=by
  intro l
  induction l with
  |nil=>intro _ _;trivial
  |cons env r h=>intro g m;obtain⟨n,⟨L,o,a,k,j,p⟩,i⟩:=m;have d:L∈X.fs:=g L (by unfold frs;rw[O5,a];exact Da);obtain⟨q,e⟩:=I.base.slot L o j (I.ok.Gr L d) d λz=>I.ok.zD L z d;exact⟨n,⟨L,_,a,k,e,p⟩,h (λb c=>g b (by unfold frs;rw[O5,a];exact Dx _ c)) i⟩
 exact f X.outer (λ_ c=>c) I.ok.je
theorem Inv.stack(I:Inv X pins σ H s):s.heap.FunFrames X.base X.stack:=by
 rcases I.ok.stk with e|⟨e,b⟩
 .rw[e];exact I.je
 .rw[e];obtain⟨m,a,_⟩:=I.loc;refine .cons (by rw[I.ok.kind];decide) b a ?_ I.je;exact Heap.get?_none_of_le (Hm I.ok.CJ I.ok.above)
theorem Inv.uc(I:Inv X pins σ H s):∀b∈frs X.stack,b∈X.env.locals::X.fs:=λb a=>by
 rcases I.ok.stk with e|⟨e,c⟩
 .rw[e]at a;exact Dx _ a
 .rw[e]at a;unfold frs at a;rw[O5,c]at a;exact a
theorem Inv.ig(I:Inv X pins σ H s):∀b∈frs X.stack,H b=none:=λb a=>by
 rcases FV.mp (I.uc b a)with e|a
 .rw[e];exact I.free
 .obtain⟨_,o,c,_⟩:=I.ok.je.mem a;exact I.base.free b o c (I.ok.Gr b a) λz=>I.ok.zD b z a
theorem Inv.step{g':Array GenState}{t':Nat}{d':Drawn}{ch:List Addr}(I:Inv X pins σ H s)
 (f:∀b∈ch,(b∈X.ex\/X.s₀.heap.objs.size<=b)/\b≠X.env.locals/\(∀x c,X.env.cells.lookup x=some c->c≠b)/\∀p∈X.pn++pins,p.1≠b)
 (keep:∀b o,b≠X.env.locals->b∉X.fs->b∉ch->s.heap.get? b=some o->H b=none->h'.get? b=some o)
 (slot:∀b o,b≠X.env.locals->b∈X.fs->b∉ch->s.heap.get? b=some o->H b=none->∃J,h'.get? b=some {o with slots:=J})(free:∀b o,b∉ch->s.heap.get? b=some o->H b=none->H' b=none)
 (there:∀b o,b∉ch->s.heap.get? b=some o->∃A,h'.get? b=some A)
 (tups:∀b j,H b=some (.tup j)->H' b=some (.tup j))(ie:∀b o u,H b=some (.rD o u)->H' b=some (.rD o u))(jc:∀b E,H b=some (.Gq E)->∃B,H' b=some (.Gq (E++B)))
 (ns:∀m,s.heap.Ns X.env.locals m->h'.Ns X.env.locals m)(K:fS X.prog X.w H' h')(Y:AllBare g'):
 Inv X pins σ H' {s with heap:=h',gens:=g',drawn:=d',toks:=t'}:=by
 have Q:∀b o,X.s₀.heap.get? b=some o->b≠X.env.locals:=λb o e=>Ha (HI (Ee e) I.ok.above);have G:∀b o,X.s₀.heap.get? b=some o->b∉X.ex->b∉ch:=λb o e a t=>by
  rcases(f b t).1 with z|z
  .exact a z
  .exact absurd (HI (Ee e) z) (Mo _)
 have g:∀x c,X.env.cells.lookup x=some c->∀v,s.heap.IsCell c v->h'.IsCell c v:=λx c e v ⟨o,y,L⟩=>by
  have D:c∉ch:=λz=>(f c z).2.2.1 x c e rfl;by_cases P:c∈X.fs
  .obtain⟨J,q⟩:=slot c o (I.HN x c e) P D y (I.fU x c e);exact⟨_,q,L⟩
  .exact⟨o,keep c o (I.HN x c e) P D y (I.fU x c e),L⟩
 refine⟨I.ok,I.os,Y,⟨λb o e n t a=>?_,λb o e n t a=>?_,λb o e n a=>?_,λb o e a=>?_,λb j e=>tups b j (I.base.tups b j e),λb o j e=>ie b o j (I.base.ie b o j e),λb E e=>?_⟩,?_,λx c e=>?_,?_,λx c e=>?_,λp O=>?_,K,I.len⟩
 .exact keep b o (Q b o e) t (G b o e a) (I.base.keep b o e n t a) (I.base.free b o e n a)
 .obtain⟨J,h⟩:=I.base.slot b o e n t a;obtain⟨TX,C⟩:=slot b _ (Q b o e) t (G b o e a) h (I.base.free b o e n a);exact⟨TX,C⟩
 .obtain⟨A,h⟩:=I.base.there b o e a;exact free b A (G b o e a) h (I.base.free b o e n a)
 .obtain⟨A,h⟩:=I.base.there b o e a;exact there b A (G b o e a) h
 .obtain⟨S,h⟩:=I.base.jc b E e;obtain⟨R,C⟩:=jc b _ h;exact⟨S++R,by rw[C,V9]⟩
 .obtain⟨m,T,U⟩:=I.loc;refine⟨m,ns m T,λi x v h C Z=>?_⟩;obtain⟨u,r,l⟩:=U i x v h C Z;refine⟨u,r,?_⟩;rcases l with l|⟨k,c,e,z⟩
  .exact .inl l
  .exact .inr ⟨k,c,e,g x c e _ z⟩
 .obtain⟨v,z⟩:=I.cell x c e;exact⟨v,g x c e v z⟩
 .obtain⟨m,⟨o,_,_,y,_⟩,_⟩:=I.loc;exact free _ o (λz=>(f _ z).2.1 rfl) y I.free
 .obtain⟨v,o,y,L⟩:=I.cell x c e;exact free c o (λz=>(f c z).2.2.1 x c e rfl) y (I.fU x c e)
 .obtain⟨e,n,N,M,d⟩:=I.pin p O;have D:p.1∉ch:=λz=>(f p.1 z).2.2.2 p O rfl;exact⟨keep p.1 p.2 N M D e n,free p.1 p.2 D e n,N,M,d⟩
theorem Inv.un{t':Nat}(I:Inv X pins σ H s)(u:Un X.fs [] H H' s.heap h')(c:fS X.prog X.w H' h'):Inv X pins σ H' {s with heap:=h',toks:=t'}:=by obtain⟨m,⟨o,t,v,g,r⟩,_⟩:=id I.loc;obtain⟨l,j⟩:=u.any g I.free (by simp);exact I.step (g':=s.gens) (d':=s.drawn) (ch:=[]) (λ_ z=>nomatch z) (λb o _ d _ e n=>u.keep b o e n d (by simp)) (λb o _ d _ e n=>u.slot b o e n d (by simp)) (λb o _ e n=>u.free b o e n (by simp)) (λb o _ e=>u.there b o e (by simp)) u.tups u.ie u.jc (λq i=>by obtain⟨p,f,k,a,h⟩:=i;rw[g]at a;cases a;exact⟨_,f,k,j,h⟩) c I.bare
theorem Inv.call{g':Array GenState}{t':Nat}{d':Drawn}{ch:List Addr}(I:Inv X pins σ H s)(u:Un (frs X.stack) ch H H' s.heap h')(g:fS X.prog X.w H' h')(q:AllBare g')
 (f:∀b∈ch,(b∈X.ex\/X.s₀.heap.objs.size<=b)/\b≠X.env.locals/\(∀x c,X.env.cells.lookup x=some c->c≠b)/\∀p∈X.pn++pins,p.1≠b):
 Inv X pins σ H' {s with heap:=h',gens:=g',drawn:=d',toks:=t'}:=by
 obtain⟨m,⟨o,C,D,j,r⟩,_⟩:=id I.loc;obtain⟨y,h⟩:=u.any j I.free λz=>(f _ z).2.1 rfl;exact I.step (ch:=ch) f (λb o h t a e n=>u.keep b o e n (λz=>(FV.mp (I.uc b z)).elim h t) a) (λb o _ _ a e n=>u.any e n a) (λb o a e n=>u.free b o e n a) (λb o a e=>u.there b o e a) u.tups u.ie u.jc (λB l=>by obtain⟨A,i,v,d,k⟩:=l;rw[j]at d;cases d;exact⟨_,i,v,h,k⟩) g q
theorem Inv.turned{t':Nat}{a:Addr}(I:Inv X pins σ H s)(k:∀b o,b≠a->s.heap.get? b=some o->h'.get? b=some o)(i:H a=none)(f:a≠X.env.locals)
 (y:a∈X.ex\/X.s₀.heap.objs.size<=a)(w:∀x c,X.env.cells.lookup x=some c->c≠a)(t:∀p∈X.pn++pins,p.1≠a):Inv X pins σ H {s with heap:=h',toks:=t'}:=by
 have g:∀b u,H b=some u->b≠a:=λb u e z=>by rw[z,i]at e;cases e
 refine I.step (g':=s.gens) (d':=s.drawn) (ch:=[a]) (λb l=>?_) (λb o _ _ d e _=>k b o (λz=>d (by simp[z])) e) (λb o _ _ d e _=>⟨o.slots,k b o (λz=>d (by simp[z])) e⟩) (λ_ _ _ _ n=>n)
  (λb o d e=>⟨o,k b o (λz=>d (by simp[z])) e⟩) (λ_ _ e=>e) (λ_ _ _ e=>e) (λb C e=>⟨#[],by rw[e];simp⟩) (λm j=>?_) (λb u e=>?_) I.bare
 .have e:b=a:=by simpa using l
  subst e;exact⟨y,f,w,t⟩
 .obtain⟨o,A,B,h,r⟩:=j;exact⟨o,A,B,k _ o (NM f) h,r⟩
 .refine(I.hok b u e).stay (λc v d q=>k c v ?_ q) (λ_ q=>q) λ_ _ q=>q;rcases d with z|z
  .rw[z];exact g b u e
  .exact g c _ z
theorem Inv.tok(I:Inv X pins σ H s)(t:Nat):Inv X pins σ H {s with toks:=t}:=I.un (h':=s.heap) (t':=t) Un.refl I.hok
theorem Inv.kept{t':Nat}(I:Inv X pins σ H s)(k:∀b u,s.heap.get? b=some u->h'.get? b=some u):Inv X pins σ H {s with heap:=h',toks:=t'}:=I.un (Un.kept k) (I.hok.kept k)
theorem Inv.laid{a:Addr}{o:HO}{t':Nat}(I:Inv X pins σ H s)(k:∀b u,s.heap.get? b=some u->h'.get? b=some u)(d:s.heap.objs.size<=a)(c:aT X.prog X.w (upd H a o) h' a o):
 Inv X pins σ (upd H a o) {s with heap:=h',toks:=t'}:=I.un (Un.laid k d (I.hok.fresh d)) (I.hok.laid k d c)
theorem Inv.write{x e:Addr}{o:HO}{t':Nat}(I:Inv X pins σ H s)(c:MK (H x))(he:e=x\/H e=some (.own x))(k:∀b u,b≠e->s.heap.get? b=some u->h'.get? b=some u)(d:∃u,h'.get? e=some u)
 (a:aT X.prog X.w (upd H x o) h' x o):Inv X pins σ (upd H x o) {s with heap:=h',toks:=t'}:=I.un (Un.write c he k d) (I.hok.write c he k d a)
theorem Inv.j5{a:List (Addr×Obj)}(I:Inv X pins σ H s)(h:∀p∈a,s.heap.get? p.1=some p.2/\H p.1=none/\p.1≠X.env.locals/\p.1∉X.fs/\∀v,p.2.data≠.cell v):Inv X a σ H s:=
 ⟨I.ok,I.os,I.bare,I.base,I.loc,I.cell,I.free,I.fU,λp b=>(Fs.mp b).elim (λz=>I.pin p (N0 _ z)) (h p),I.hok,I.len⟩
theorem rE{N:List Str}(c:N.Nodup){i j:Nat}{x:Str}(a:N[i]?=some x)(b:N[j]?=some x):i=j:=by obtain⟨g,e⟩:=FM.mp a;obtain⟨f,d⟩:=FM.mp b;exact(List.getElem_inj c).mp (e.trans d.symm)
theorem nO{M:Model}{A:Around}{E:Value->Shared->Prop}{i:Nat}{x:Str}{v:V}{u:Value}{Q:Unit->Shared->Prop}(I:Inv X pins σ H s)(hN:X.N.Nodup)(P:X.N[i]?=some x)(B:Loc X.env.scope x)(r:RelV v u)
 (h:∀s',Inv X pins (σ.set i (some v)) H s'->(∃a,Heap.SameBut a s.heap s'.heap/\(a=X.env.locals\/X.env.cells.lookup x=some a))->Q () s')(hf:X.fn x=true\/X.env.scope.names.lookup x=some .local:=by first|exact .inl rfl|exact .inr rfl|assumption):wpAny M A (storeName X.env x u) Q E s:=by
 obtain⟨m,hn,hl⟩:=id I.loc;have R:(X.env.scope.kind==.class||(X.env.scope.kind==.module&&X.env.locals !=X.env.globals))=false:=by rw[I.ok.kind];rfl
 have MN:i<σ.length:=by rw[I.len];exact(FM.mp P).1
 have HN:=I.HN;have g:∀{a:Addr}{h':Heap},(∃o,s.heap.get? a=some o/\H a=none)->Heap.SameBut a s.heap h'->fS X.prog X.w H h':=λ{a h'} ha f b ob e=>by
  obtain⟨_,_,C⟩:=ha;refine(I.hok b ob e).stay (λc U t q=>(f.2 c ?_).trans q) (λ_ q=>q) λ_ _ q=>q;rintro rfl;rcases t with rfl|t
  .rw[C]at e;cases e
  .rw[C]at t;cases t
 rcases B with G|G
 .refine wpAny_storeName_local G hn (λh' hn' f=>?_) R;obtain⟨oL,_,_,Qa,_⟩:=id hn;refine h _ ⟨I.ok,I.os,I.bare,⟨λb o e n L B=>?_,λb o e n L B=>?_,I.base.free,λb o e B=>?_,I.base.tups,I.base.ie,I.base.jc⟩,⟨_,hn',λj y v' l D e3=>?_⟩,λy c e=>?_,I.free,I.fU,λp hp=>?_,g ⟨oL,Qa,I.free⟩ f,by simpa using I.len⟩ ⟨_,f,.inl rfl⟩
  .exact(f.2 b (Ha (HI (Ee e) I.ok.above))).trans (I.base.keep b o e n L B)
  .obtain⟨sl,l⟩:=I.base.slot b o e n L B;exact⟨sl,(f.2 b (Ha (HI (Ee e) I.ok.above))).trans l⟩
  .obtain⟨o',l⟩:=I.base.there b o e B;exact⟨o',(f.2 b (Ha (HI (Ee e) I.ok.above))).trans l⟩
  .by_cases J:j=i
   .subst J;rw[P]at l;cases l;rw[P3 MN]at D;cases D;exact⟨u,r,.inl ⟨G,by simp⟩⟩
   .rw[KM (NM J)]at D;obtain⟨u',r',q⟩:=hl j y v' l D e3;refine⟨u',r',?_⟩;rcases q with⟨k,e⟩|⟨k,c,e,z⟩
    .refine .inl ⟨k,?_⟩;have:y≠x:=λe=>J (rE hN l (e▸P));simp[this,e]
    .exact .inr ⟨k,c,e,z.sameBut f (HN y c e)⟩
  .obtain⟨U,z⟩:=I.cell y c e;exact⟨U,z.sameBut f (HN y c e)⟩
  .obtain⟨e,n,Y,nf,d⟩:=I.pin p hp;exact⟨(f.2 p.1 Y).trans e,n,Y,nf,d⟩
 .have K:X.fn x=true:=by
   rcases hf with z|z
   .exact z
   .rw[z]at G;cases G
  obtain⟨c,t⟩:=I.ok.has x (.inl G);obtain⟨U,z⟩:=I.cell x c t;refine wpAny_storeName_cell I.ok.kind G t z (λh' T f=>?_);obtain⟨oc,O,QJ⟩:=id z;refine h {s with heap:=h'} ⟨I.ok,I.os,I.bare,⟨λb o e n L B=>?_,λb o e n L B=>?_,I.base.free,λb o e B=>?_,I.base.tups,I.base.ie,I.base.jc⟩,⟨m,hn.sameBut f (NM (HN x c t)),λj y v' l D e3=>?_⟩,λy Z e=>?_,I.free,I.fU,λp hp=>?_,g ⟨oc,O,I.fU x c t⟩ f,by simpa using I.len⟩ ⟨c,f,.inr t⟩
  .exact(f.2 b (Ha (HI (Ee e) (I.ok.MM x c K t)))).trans (I.base.keep b o e n L B)
  .obtain⟨sl,l⟩:=I.base.slot b o e n L B;exact⟨sl,(f.2 b (Ha (HI (Ee e) (I.ok.MM x c K t)))).trans l⟩
  .obtain⟨o',l⟩:=I.base.there b o e B;exact⟨o',(f.2 b (Ha (HI (Ee e) (I.ok.MM x c K t)))).trans l⟩
  .by_cases J:j=i
   .subst J;rw[P]at l;cases l;rw[P3 MN]at D;cases D;exact⟨u,r,.inr ⟨.inl G,c,t,T⟩⟩
   .rw[KM (NM J)]at D;obtain⟨u',r',q⟩:=hl j y v' l D e3;refine⟨u',r',?_⟩;rcases q with q|⟨k,Z,e,z'⟩
    .exact .inl q
    .refine .inr ⟨k,Z,e,z'.sameBut f ?_⟩;rintro rfl;exact J (rE hN l (I.ok.inj _ _ _ e t▸P))
  .by_cases S:Z=c
   .subst S;exact⟨_,T⟩
   .obtain⟨w2,z2⟩:=I.cell y Z e;exact⟨w2,z2.sameBut f S⟩
  .obtain⟨e,n,Y,nf,d⟩:=I.pin p hp;refine⟨(f.2 p.1 ?_).trans e,n,Y,nf,d⟩;intro q;rw[q,O]at e;have q':oc=p.2:=Hk e;exact d U (by rw[<-q'];exact QJ)
theorem dz{M:Model}{A:Around}{E:Value->Shared->Prop}{i:Nat}{x:Str}{v:V}{u:Value}{Q:Unit->Shared->Prop}(I:Inv X pins σ H s)(d:X.N.Nodup)(b:X.N[i]?=some x)(a:Loc X.env.scope x)(r:RelV v u)
 (h:∀s',Inv X pins (σ.set i (some v)) H s'->Q () s')(c:X.fn x=true\/X.env.scope.names.lookup x=some .local:=by first|exact .inl rfl|exact .inr rfl|assumption):wpAny M A (storeName X.env x u) Q E s:=
 nO I d b a r (λs' e _=>h s' e) c
theorem Inv.Gx{s':Shared}{ch:List Addr}(I:Inv X pins σ H s)(g:s'.os=s.os)(u:Un (frs X.stack) ch H H' s.heap s'.heap)(a:fS X.prog X.w H' s'.heap)(h:AllBare s'.gens)
 (d:∀b∈ch,(b∈X.ex\/X.s₀.heap.objs.size<=b)/\b≠X.env.locals/\(∀x c,X.env.cells.lookup x=some c->c≠b)/\∀p∈X.pn++pins,p.1≠b):Inv X pins σ H' s':=by
 obtain⟨h',g',d',t',f⟩:=s';have e:f=s.os:=g;subst e;exact I.call (g':=g') (t':=t') (d':=d') u a h d
end
abbrev XK:=Value->Option Addr->Hp->Prop
abbrev St:=List (Option V)
abbrev VK:=V->Hp->Prop
abbrev TE:=St->Hp->VK->Prop
abbrev TT:=St->Hp->(Bool->Hp->Prop)->Prop
abbrev TA:=St->Hp->(List V->Hp->Prop)->Prop
set_option genInjectivity false in
set_option genSizeOf false in
structure Ends where
 nx:St->Hp->Prop
 rt:VK
 bk:St->Hp->Prop:=λ_ _=>False
 ct:St->Hp->Prop:=λ_ _=>False
abbrev TS:=Ends->St->Hp->Prop
noncomputable def EP(X:Cx)(a:List (Addr×Obj))(c:St)(Q:VK)(u:Value)(s':Shared):Prop:=∃v b,Inv X a c b s'/\RelV v u/\Q v b
noncomputable def TP(X:Cx)(a:List (Addr×Obj))(d:St)(Q:Bool->Hp->Prop)(b:Bool)(s':Shared):Prop:=∃c,Inv X a d c s'/\Q b c
noncomputable def AP(X:Cx)(a:List (Addr×Obj))(d:St)(Q:List V->Hp->Prop)(e:List Value)(s':Shared):Prop:=∃b c,Inv X a d c s'/\Vals b e/\Q b c
noncomputable def SP(X:Cx)(b:List (Addr×Obj))(D:Ends)(f:Flow)(s':Shared):Prop:=
 match f with
 |.next=>∃a c,Inv X b a c s'/\D.nx a c
 |.brk=>∃a c,Inv X b a c s'/\D.bk a c
 |.cont=>∃a c,Inv X b a c s'/\D.ct a c
 |.ret u=>∃v a c,Inv X b a c s'/\RelV v u/\D.rt v c
noncomputable def PE(X:Cx)(e:Expr)(t:TE):Prop:=
 ∀(a:List (Addr×Obj))(s:Shared)(b:St)(H:Hp)(Q:VK),Inv X a b H s->t b H Q->wpAny (model X.prog X.w) X.A (eval e X.env) (EP X a b Q) X.xe s
noncomputable def PT(X:Cx)(e:Expr)(t:TT):Prop:=
 ∀(a:List (Addr×Obj))(s:Shared)(b:St)(H:Hp)(Q:Bool->Hp->Prop),Inv X a b H s->t b H Q->wpAny (model X.prog X.w) X.A (isTrue e X.env (eval e X.env)) (TP X a b Q) X.xe s
noncomputable def PW(X:Cx)(e:Expr)(t:TT):Prop:=
 ∀(b:Sem Value)(a:List (Addr×Obj))(s:Shared)(c:St)(H:Hp)(Q:Bool->Hp->Prop),Inv X a c H s->t c H Q->wpAny (model X.prog X.w) X.A (isTrue e X.env b) (TP X a c Q) X.xe s
theorem PW.pt{X:Cx}{e:Expr}{t:TT}(h:PW X e t):PT X e t:=h _
noncomputable def PA(X:Cx)(d:List Expr)(t:TA):Prop:=
 ∀(c:Pos)(a:List (Addr×Obj))(s:Shared)(b:St)(H:Hp)(Q:List V->Hp->Prop),Inv X a b H s->t b H Q->wpAny (model X.prog X.w) X.A (spliced (backTo c (starEach d X.env))) (AP X a b Q) X.xe s
noncomputable def PS(X:Cx)(st:Stmt)(t:TS):Prop:=
 ∀(a:List (Addr×Obj))(s:Shared)(b:St)(H:Hp)(D:Ends),Inv X a b H s->t D b H->wpAny (model X.prog X.w) X.A (exec st X.env) (SP X a D) X.xe s
noncomputable def rF(X:Cx)(st:List Stmt)(t:TS):Prop:=
 ∀(a:List (Addr×Obj))(s:Shared)(b:St)(H:Hp)(D:Ends),Inv X a b H s->t D b H->wpAny (model X.prog X.w) X.A (execs st X.env) (SP X a D) X.xe s
theorem bD{α:Type}{t:Sem α}{Q b:α->Shared->Prop}{M:Model}{A:Around}{E:Value->Shared->Prop}{s:Shared}(h:wpAny M A t Q E s)(c:∀a s,Q a s->b a s):wpAny M A t b E s:=PH h c λ_ _ x=>x
section
variable{X:Cx}
theorem bin{a b:Expr}{ta l:TE}(z:PE X a ta)(t:PE X b l){c:List (Addr×Obj)}{s:Shared}{d:St}{H:Hp}{R:V->V->Hp->Prop}(I:Inv X c d H s)(h:ta d H λx k=>l d k λy e=>R x y e)
 {α:Type}{Q:α->Shared->Prop}{f:Value->Value->Sem α}
 (r:∀v u j x y e,Inv X c d e j->RelV x v->RelV y u->R x y e->wpAny (model X.prog X.w) X.A (f v u) Q X.xe j):
 wpAny (model X.prog X.w) X.A (eval a X.env) (λv i=>wpAny (model X.prog X.w) X.A (eval b X.env) (λu g=>wpAny (model X.prog X.w) X.A (f v u) Q X.xe g) X.xe i) X.xe s:=by
 refine bD (z c s d H _ I h) λv m ⟨x,k,I1,o,q⟩=>?_;refine bD (t c m d k _ I1 q) λu j ⟨y,e,B,n,p⟩=>?_;exact r v u j x y e B o n p
noncomputable def iu(i:Nat):TE:=λa H Q=>∃v,a[i]?=some (some v)/\Q v H
noncomputable def tC(v:V):TE:=λ_ H Q=>Q v H
theorem zE{i:Nat}{x:Str}{pos:Pos}(w:X.N[i]?=some x)(o:HM X.env.scope x)(g:(x==("__debug__":Str))=false:=by decide)(j:(x==("__classdict__":Str))=false:=by decide):PE X (.Name x pos) (iu i):=by
 intro f s n H Q I h;obtain⟨v,e,h⟩:=h;obtain⟨m,p,t⟩:=I.loc;obtain⟨u,r,l⟩:=t i x v w e o;have d:EP X f n Q u s:=⟨v,H,I,r,h⟩;rcases l with⟨b,q⟩|⟨b,c,k,a⟩
 .exact wpAny_Name (wpAny_loadName_local I.ok.kind b p q d) g
 .rcases b with b|b
  .exact wpAny_Name (wpAny_loadName_cell I.ok.kind b k a d) g
  .exact wpAny_Name (wpAny_loadName_free I.ok.kind b k a d j) g
theorem zF{i j pos}:PE X (.Constant (.int i) j pos) (tC (.int i)):=λ_ _ _ H _ I h=>wpAny_Constant_int ⟨.int i,H,I.tok _,⟨_,rfl⟩,h⟩
theorem MO{b j pos}:PE X (.Constant (.bool b) j pos) (tC (.bl b)):=λ_ _ _ H _ I h=>Constant_bool ⟨.bl b,H,I,rfl,h⟩
theorem HQ{j pos}:PE X (.Constant .none j pos) (tC .aL):=λ_ _ _ H _ I h=>Constant_none ⟨.aL,H,I,rfl,h⟩
theorem HR{x j pos}:PE X (.Constant (.str x) j pos) (tC (.str x)):=λ_ _ _ H _ I h=>Calls.Constant_str ⟨.str x,H,I.tok _,⟨_,rfl⟩,h⟩
noncomputable def Gl(X:Cx)(x:Str):Prop:=X.env.kindOf x=some .globalImplicit
theorem oS{E:Value->Shared->Prop}{a:List (Addr×Obj)}{s:Shared}{b:St}{H:Hp}{x:Str}{u:Value}{pos:Pos}{Q:Value->Shared->Prop}(I:Inv X a b H s)(d:Gl X x)(c:X.mg x=some u)(h:Q u s)
 (e:(x==("__debug__":Str))=false:=by decide):wpAny (model X.prog X.w) X.A (eval (.Name x pos) X.env) Q E s:=
 Calls.Name_function_global I.ok.kind d (Calls.loadGlobal_global (by rw[I.ok.glob];exact I.mod.glob.keeps I.bk) c h) e
theorem dB{E:Value->Shared->Prop}{a:List (Addr×Obj)}{s:Shared}{b:St}{H:Hp}{x:Str}{u:Value}{pos:Pos}{Q:Value->Shared->Prop}(I:Inv X a b H s)(f:Gl X x)(e:X.mg x=none)(c:bootBuiltins x=some u)(h:Q u s)
 (d:x≠"__name__":=by decide)(g:(x==("__debug__":Str))=false:=by decide):wpAny (model X.prog X.w) X.A (eval (.Name x pos) X.env) Q E s:=by
 obtain⟨k,j,i⟩:=I.mod.blt;exact Calls.Name_function_global I.ok.kind f (Calls.loadGlobal_builtin (by rw[I.ok.glob];exact I.mod.glob.keeps I.bk) e (by rw[I.ok.blt];exact j.keeps I.bk) ((i x d).trans c) h) g
theorem vH{x:Str}{v:V}{u:Value}{pos:Pos}(b:Gl X x)(a:X.mg x=some u)(r:RelV v u)(c:(x==("__debug__":Str))=false:=by decide):PE X (.Name x pos) (tC v):=
 λ_ _ _ H _ I h=>oS I b a ⟨v,H,I,r,h⟩ c
theorem CV{x:Str}{v:V}{u:Value}{pos:Pos}(d:Gl X x)(c:X.mg x=none)(a:bootBuiltins x=some u)(r:RelV v u)(b:x≠"__name__":=by decide)(e:(x==("__debug__":Str))=false:=by decide):PE X (.Name x pos) (tC v):=
 λ_ _ _ H _ I h=>dB I d c a ⟨v,H,I,r,h⟩ b e
variable{a b:Expr}{ta tb:TE}{pos:Pos}
noncomputable def tB(t:TE):TT:=λd H Q=>t d H λx e=>∃c,x=.bl c/\Q c e
theorem HS{e:Expr}{t:TE}(h:PE X e t)(he:∀c,isTrue e X.env c=(do let v<-c;standAt e.pos;holding [v] (truthy v)):=by intro _;rfl):PT X e (tB t):=by intro f s g H Q I k;refine isTrue_plain (bD (h f s g H _ I k) λv m ⟨x,l,I1,i,j⟩=>?_) (he _);obtain⟨d,rfl,q⟩:=j;cases i;exact Sr ⟨l,I1,q⟩
variable{tA Qc:TT}{rest:List Expr}
noncomputable def QK(t u:TT):TT:=λd H Q=>t d H λc e=>if c=true then u d e Q else Q false e
noncomputable def TY(t u:TT):TT:=λd H Q=>t d H λc e=>if c=true then Q true e else u d e Q
noncomputable def QL(t:TT):TT:=λd H Q=>t d H λc e=>Q (!c) e
theorem CW(g:PT X a tA):PW X (.BoolOp .And [a] pos) tA:=by
 intro i d s f H Q I h;refine isTrue_and (bD (g d s f H Q I h) λc j e=>?_);cases c with
 |true=>exact isTrue_and_nil e
 |false=>exact e
theorem HU(g:PT X a tA):PW X (.BoolOp .Or [a] pos) tA:=by
 intro i d s f H Q I h;refine isTrue_or (bD (g d s f H Q I h) λc j e=>?_);cases c with
 |false=>exact isTrue_or_nil e
 |true=>exact e
theorem HV(l:PT X a tA)(k:PW X (.BoolOp .And (b::rest) pos) Qc):PW X (.BoolOp .And (a::b::rest) pos) (QK tA Qc):=by
 intro i d s e H Q I h;refine isTrue_and (bD (l d s e H _ I h) λc j ⟨g,I1,f⟩=>?_);cases c with
 |true=>exact k i d j e g Q I1 f
 |false=>exact⟨g,I1,f⟩
theorem MP(l:PT X a tA)(k:PW X (.BoolOp .Or (b::rest) pos) Qc):PW X (.BoolOp .Or (a::b::rest) pos) (TY tA Qc):=by
 intro i d s e H Q I h;refine isTrue_or (bD (l d s e H _ I h) λc j ⟨g,I1,f⟩=>?_);cases c with
 |true=>exact⟨g,I1,f⟩
 |false=>exact k i d j e g Q I1 f
theorem HW(f:PT X a tA):PT X (.UnaryOp .Not a pos) (QL tA):=by intro d s e H Q I h;exact isTrue_not (f d s e H (λc g=>Q (!c) g) I h)
noncomputable def MQ(ta tb:TE):TE:=λd H Q=>ta d H λx e=>∃c,x=.bl c/\if c=true then tb d e Q else Q (.bl false) e
noncomputable def QM(ta tb:TE):TE:=λd H Q=>ta d H λx e=>∃c,x=.bl c/\if c=true then Q (.bl true) e else tb d e Q
noncomputable def MR(ta:TE):TE:=λd H Q=>ta d H λx e=>∃c,x=.bl c/\Q (.bl (!c)) e
theorem zG{op}{t:TE}(h:PE X a t):PE X (.BoolOp op [a] pos) t:=λc s d H Q I e=>BoolOp_one (h c s d H Q I e)
theorem HX(l:PE X a ta)(k:PE X (.BoolOp .And (b::rest) pos) tb):PE X (.BoolOp .And (a::b::rest) pos) (MQ ta tb):=by
 intro d s f H Q I h;refine BoolOp_and (bD (l d s f H _ I h) λv i ⟨x,g,I1,j,e⟩=>?_);obtain⟨c,rfl,e⟩:=e;cases j;refine Sr ?_;cases c with
 |true=>exact k d i f g Q I1 e
 |false=>exact⟨.bl false,g,I1,rfl,e⟩
theorem MS(l:PE X a ta)(k:PE X (.BoolOp .Or (b::rest) pos) tb):PE X (.BoolOp .Or (a::b::rest) pos) (QM ta tb):=by
 intro d s f H Q I h;refine BoolOp_or (bD (l d s f H _ I h) λv i ⟨x,g,I1,j,e⟩=>?_);obtain⟨c,rfl,e⟩:=e;cases j;refine Sr ?_;cases c with
 |false=>exact k d i f g Q I1 e
 |true=>exact⟨.bl true,g,I1,rfl,e⟩
theorem HY(i:PE X a ta):PE X (.UnaryOp .Not a pos) (MR ta):=by intro d s f H Q I h;refine UnaryOp_ (bD (i d s f H _ I h) λv k ⟨x,j,I1,g,e⟩=>?_);obtain⟨c,rfl,e⟩:=e;cases g;exact not_of (Sr ⟨.bl (!c),j,I1,rfl,e⟩)
end
noncomputable def fh(K:Frag)(H:Hp)(a:Addr)(c:List V):Prop:=
 Rd H a (.lst c)\/
  ∃(o:Obj)(b:Array Value)(n:Nat),K.lookup a=some o/\o.cls=.type "list"/\o.dict=none/\o.data=.seq b n/\b.size<=sizeLine/\Vals c b.toList
noncomputable def g8(K:Frag)(H:Hp)(a:Addr)(c:List V):Prop:=
 Rd H a (.tup c)\/
  ∃(o:Obj)(b:Array Value)(n:Nat),K.lookup a=some o/\o.cls=.type "tuple"/\o.data=.seq b n/\b.size<=sizeLine/\Vals c b.toList
noncomputable def QN:Value->Option V
 |.none=>some .aL
 |.bool b=>some (.bl b)
 |.int i _=>some (.int i)
 |.str x _=>some (.str x)
 |.bytes b _=>some (.zm b)
 |.float b _=>some (.HK b)
 |.ref a=>some (.ref a)
 |.type n=>some (.ty n)
 |_=>none
theorem RelV.abs{x:V}{u:Value}(r:RelV x u):QN u=some x:=by
 cases x with
 |aL=>cases r;rfl
 |bl _=>cases r;rfl
 |int _=>obtain⟨t,rfl⟩:=r;rfl
 |str _=>obtain⟨t,rfl⟩:=r;rfl
 |zm _=>obtain⟨t,rfl⟩:=r;rfl
 |HK _=>obtain⟨t,rfl⟩:=r;rfl
 |ref _=>cases r;rfl
 |ty _=>cases r;rfl
theorem RelV.inj{x y:V}{u:Value}(r:RelV x u)(q:RelV y u):x=y:=Hk (r.abs.symm.trans q.abs)
theorem Vals.inj:∀{b a:List V}{c:List Value},Vals b c->Vals a c->b=a
 |_,_,_,.nil,.nil=>rfl
 |_,_,_,.cons r t,.cons d t'=>by rw[r.inj d,Vals.inj t t']
section
variable{X:Cx}{pins:List (Addr×Obj)}{σ:St}{H:Hp}{s:Shared}{a:Addr}{xs ys:List V}
theorem fh.of{K:Frag}(h:H a=some (.lst xs)):fh K H a xs:=.inl (.inl h)
theorem g8.of{K:Frag}(h:H a=some (.tup xs)):g8 K H a xs:=.inl (.inl h)
theorem Inv.list(I:Inv X pins σ H s)(h:fh X.K H a xs):∃b:List Value,Vals xs b/\PlainL s.heap a b.toArray/\xs.length<=sizeLine:=by
 rcases h with h|⟨o,b,n,d,g,f,c,hz,r⟩
 .obtain⟨z,b,n,r,e⟩:=h.ok I.hok;exact⟨b,r,⟨_,n,e,rfl,rfl,rfl⟩,z⟩
 .refine⟨b.toList,r,⟨o,n,I.kG a o d,g,f,by simpa using c⟩,?_⟩;have e:=r.length;simp only[Gw]at e;lia
theorem Inv.tuple(I:Inv X pins σ H s)(h:g8 X.K H a xs):∃b:List Value,Vals xs b/\IsTup s.heap a b.toArray/\xs.length<=sizeLine:=by
 rcases h with h|⟨o,b,n,d,f,c,hz,r⟩
 .obtain⟨z,b,r,p⟩:=h.ok I.hok;exact⟨b,r,p,z⟩
 .refine⟨b.toList,r,⟨o,I.kG a o d,f,n,by simpa using c⟩,?_⟩;have e:=r.length;simp only[Gw]at e;lia
theorem Inv.kH(I:Inv X pins σ H s)(h:fh X.K H a xs)(h':fh X.K H a ys):xs=ys:=by
 obtain⟨c,r,⟨o,n,e,_,_,d⟩,_⟩:=I.list h;obtain⟨b,i,⟨j,k,f,_,_,g⟩,_⟩:=I.list h';rw[e]at f;cases f;rw[d]at g;injection g with d1 _;have:c=b:=by simpa using GM Xg d1
 subst this;exact r.inj i
theorem Inv.xQ(I:Inv X pins σ H s)(h:g8 X.K H a xs)(h':g8 X.K H a ys):xs=ys:=by
 obtain⟨c,r,⟨o,e,_,n,d⟩,_⟩:=I.tuple h;obtain⟨b,i,⟨j,f,_,k,g⟩,_⟩:=I.tuple h';rw[e]at f;cases f;rw[d]at g;injection g with d1 _;have:c=b:=by simpa using GM Xg d1
 subst this;exact r.inj i
end
abbrev Cx.m5(X:Cx)(E:Value->Shared->Prop):Cx:={X with xe:=E}
abbrev Cx.mY(X:Cx):Cx:=X.m5 λ_ _=>False
theorem Cx.Ok.m5{X:Cx}(a:X.Ok)(E:Value->Shared->Prop):(X.m5 E).Ok:=
 ⟨a.mod,a.kind,a.glob,a.blt,a.above,a.inj,a.has,a.MM,a.hd,a.frames,a.stk,a.QG,a.bs,a.CJ,a.zC,a.zD,a.je,a.Gr,a.tree,a.P8⟩
theorem Cx.Ok.fV{X:Cx}{E:Value->Shared->Prop}(a:(X.m5 E).Ok):X.Ok:=
 ⟨a.mod,a.kind,a.glob,a.blt,a.above,a.inj,a.has,a.MM,a.hd,a.frames,a.stk,a.QG,a.bs,a.CJ,a.zC,a.zD,a.je,a.Gr,a.tree,a.P8⟩
section
variable{X:Cx}{pins:List (Addr×Obj)}{σ:St}{H:Hp}{s:Shared}{E:Value->Shared->Prop}
theorem Inv.m5(I:Inv X pins σ H s)(E:Value->Shared->Prop):Inv (X.m5 E) pins σ H s:=⟨I.ok.m5 E,I.os,I.bare,I.base,I.loc,I.cell,I.free,I.fU,I.pin,I.hok,I.len⟩
theorem Inv.fV(I:Inv (X.m5 E) pins σ H s):Inv X pins σ H s:=⟨I.ok.fV,I.os,I.bare,I.base,I.loc,I.cell,I.free,I.fU,I.pin,I.hok,I.len⟩
theorem SP.fV{D:Ends}{f:Flow}{s':Shared}(h:SP (X.m5 E) pins D f s'):SP X pins D f s':=by
 cases f with
 |next=>obtain⟨a,b,I,q⟩:=h;exact⟨a,b,I.fV,q⟩
 |brk=>obtain⟨a,b,I,q⟩:=h;exact⟨a,b,I.fV,q⟩
 |cont=>obtain⟨a,b,I,q⟩:=h;exact⟨a,b,I.fV,q⟩
 |ret u=>obtain⟨v,a,b,I,r,q⟩:=h;exact⟨v,a,b,I.fV,r,q⟩
end
section
variable{X:Cx}{st:Stmt}{rest:List Stmt}{t u:TS}{e:Expr}{te:TE}{pos:Pos}
noncomputable def MT:TS:=λD a H=>D.nx a H
noncomputable def QO(t u:TS):TS:=λD a H=>t {D with nx:=u D} a H
theorem CY:rF X [] MT:=λ_ _ a H _ I h=>wpAny_execs_nil ⟨a,H,I,h⟩
theorem zH(i:PS X st t)(g:rF X rest u):rF X (st::rest) (QO t u):=by
 intro a s c H D I h;refine wpAny_execs_cons (bD (i a s c H {D with nx:=u D} I h) λf d q=>?_);cases f with
 |next=>obtain⟨b,k,j,q⟩:=q;exact g a d b k D j q
 |ret v=>exact q
 |brk=>exact q
 |cont=>exact q
theorem vI(c:PS X st t):rF X [st] t:=by
 intro a s b H D I h;refine wpAny_execs_cons (bD (c a s b H D I h) λf d q=>?_);cases f with
 |next=>exact wpAny_execs_nil q
 |ret v=>exact q
 |brk=>exact q
 |cont=>exact q
noncomputable def HZ:TS:=λD a H=>D.bk a H
theorem zI:PS X (.Break pos) HZ:=λ_ _ a H _ I h=>wpAny_Break ⟨a,H,I,h⟩
theorem Inv.quiet{a:List (Addr×Obj)}{b:St}{H:Hp}{s:Shared}(I:Inv X a b H s):interactive X.env=false:=by simp[interactive,I.ok.kind]
noncomputable def Gy(te:TE):TS:=λD a H=>te a H λ_ b=>D.nx a b
theorem CZ(he:PE X e te)(d:swapsWith e none pos.line X.env=pure false:=by rfl):PS X (.Expr e pos) (Gy te):=by intro a s b H D I h;exact wpAny_Expr_any (bD (he a s b H _ I h) λv g ⟨x,f,I1,i,c⟩=>⟨b,f,I1,c⟩) I.quiet d
noncomputable def QS(te:TE):TS:=λD a H=>te a H D.rt
theorem oU(he:PE X e te):PS X (.Return (some e) pos) (QS te):=by intro a s b H D I h;exact wpAny_Return_some (bD (he a s b H _ I h) λv g ⟨x,f,I1,c,d⟩=>⟨x,b,f,I1,c,d⟩)
noncomputable def MU:TS:=λD _ H=>D.rt .aL H
theorem C0:PS X (.Return none pos) MU:=λ_ _ a H _ I h=>wpAny_Return_none ⟨.aL,a,H,I,rfl,h⟩
noncomputable def QT(c:TT)(t u:TS):TS:=λD a H=>c a H λb d=>if b=true then t D a d else u D a d
theorem MV{c:Expr}{a b:List Stmt}{tc:TT}(l:PT X c tc)(n:rF X a t)(m:rF X b u):PS X (.If c a b pos) (QT tc t u):=by
 intro f s g H D I h;refine wpAny_If (bD (l f s g H _ I h) λd i ⟨k,I1,j⟩=>?_);cases d with
 |true=>exact n f i g k D I1 j
 |false=>exact m f i g k D I1 j
end
abbrev TG:=V->St->Hp->(St->Hp->Prop)->Prop
abbrev Gz:=List V->St->Hp->(St->Hp->Prop)->Prop
noncomputable def PG(X:Cx)(a:Expr)(t:TG):Prop:=
 ∀(b:List (Addr×Obj))(s:Shared)(d:St)(H:Hp)(v:V)(u:Value)(Q:St->Hp->Prop),Inv X b d H s->RelV v u->t v d H Q->
  wpAny (model X.prog X.w) X.A (assign a X.env u) (λ_ f=>∃c e,Inv X b c e f/\Q c e) X.xe s
noncomputable def MW(X:Cx)(g:List Expr)(t:Gz):Prop:=
 ∀(a:List (Addr×Obj))(s:Shared)(c:St)(H:Hp)(d:List V)(e:List Value)(Q:St->Hp->Prop),Inv X a c H s->Vals d e->t d c H Q->
  wpAny (model X.prog X.w) X.A (assignInOrder ((assignEach g X.env).map (·.2)) e) (λ_ h=>∃b f,Inv X a b f h/\Q b f) X.xe s
abbrev Ia:=V->V->V->Hp->(Hp->Prop)->Prop
noncomputable def Ic(X:Cx)(t:Ia):Prop:=
 ∀(a:List (Addr×Obj))(s:Shared)(b:St)(H:Hp)(o i v:V)(c d u:Value)(Q:Hp->Prop),Inv X a b H s->RelV o c->RelV i d->RelV v u->t o i v H Q->
  wpAny (model X.prog X.w) X.A (setItem c d u) (λ_ f=>∃e,Inv X a b e f/\Q e) X.xe s
section
variable{X:Cx}{pos:Pos}
noncomputable def eB(i:Nat):TG:=λv a H Q=>Q (a.set i (some v)) H
theorem C1{i:Nat}{x:Str}(e:X.N.Nodup)(c:X.N[i]?=some x)(b:Loc X.env.scope x)(d:X.fn x=true\/X.env.scope.names.lookup x=some .local:=by first|exact .inl rfl|exact .inr rfl|assumption):PG X (.Name x pos) (eB i):=by intro a s g H v u Q I r h;exact wpAny_assign_Name (dz I e c b r (λj f=>⟨_,H,f,h⟩) d)
noncomputable def MX:Gz:=λb a H Q=>b=[]/\Q a H
noncomputable def GA(t:TG)(u:Gz):Gz:=λc b H Q=>∃v r,c=v::r/\t v b H λa d=>u r a d Q
theorem C2:MW X [] MX:=by intro a s b H c d Q I r h;obtain⟨e,h⟩:=h;subst e;cases r;exact assignInOrder_nil ⟨b,H,I,h⟩
theorem zJ{e:Expr}{b:List Expr}{t:TG}{u:Gz}(l:PG X e t)(k:MW X b u)
 (j:(assignEach (e::b) X.env).map (·.2)=assign e X.env::(assignEach b X.env).map (·.2):=by rfl):MW X (e::b) (GA t u):=by
 intro a s d H o q Q I r h;obtain⟨v,p,m,h⟩:=h;subst m;cases r with
 |cons r g=>rw[j];refine WC (bD (l a s d H _ _ _ I r h) λ_ f ⟨c,n,I1,i⟩=>?_);exact k a f c n _ _ Q I1 g i
noncomputable def Ie(K:Frag)(n:Nat)(t:Gz):TG:=λv c H Q=>∃a b,v=.ref a/\g8 K H a b/\b.length=n/\t b c H Q
theorem Ig{d:List Expr}{k:Nat}{t:Gz}{n:Nat}(y:X.calm=true)(h:MW X d t)
 (w:(assignEach d X.env).length=n:=by rfl)(g:(assignEach d X.env).findIdx? (·.1)=none:=by rfl):PG X (.Tuple d k pos) (Ie X.K n t):=by
 intro c s i H v u Q I r f;obtain⟨a,j,A,q,x,f⟩:=f;subst A;cases r;obtain⟨l,rv,p,hz⟩:=I.tuple q;refine assign_Tuple_tuple (I.ok.hd y) p (by simp[w,<-x,rv.length]) g λz m=>?_;have I1:Inv X c i H {s with heap:=z}:=I.kept (t':=s.toks) λb o e=>m b o (Ha (Ee e)) e;exact h c _ i H j _ Q I1 (by simpa using rv) f
noncomputable def Ih(b ti:TE)(t:Ia):TG:=λv a H Q=>b a H λo e=>ti a e λi d=>t o i v d λc=>Q a c
theorem zK{o i:Expr}{e ti:TE}{t:Ia}(q:PE X o e)(w:PE X i ti)(p:Ic X t)
 (z:∀v,assign (.Subscript o i pos) X.env v=(do
   let b<-holding [v] (eval o X.env)
   let c<-holding [v,b] (eval i X.env)
   standAt pos
   holding [v,b,c] (setItem b c v)
   release [v,b,c] []):=by intro _;rfl):PG X (.Subscript o i pos) (Ih e ti t):=by
 intro a s d H v u Q I r h;rw[z];refine D2 (WK (bD (q a s d H _ I h) λb g ⟨x,E,I1,k,n⟩=>?_));refine D2 (WK (bD (w a g d E _ I1 n) λc f ⟨y,D,B,j,m⟩=>?_));refine D2 (X1 (D2 (WK (bD (p a f d D x y v b c u _ B k j r m) λ_ G ⟨C,A,l⟩=>?_))));exact wpAny_release ⟨d,C,A,l⟩
noncomputable def jT(te:TE)(g:TG):TS:=λD a H=>te a H λx b=>g x a b D.nx
theorem ud{tg e:Expr}{te:TE}{g:TG}(he:PE X e te)(k:PG X tg g)(j:swapsWithSole [tg] e pos.line X.env=pure false:=by rfl)(i:swappedStores [tg] e X.env=pure none:=by rfl)
 (l:(assignEach [tg] X.env).map (·.2)=[assign tg X.env]:=by rfl):PS X (.Assign [tg] e pos) (jT te g):=by
 intro a s b H D I h;refine wpAny_Assign_stores (bD (he a s b H _ I h) λv c ⟨x,m,I1,d,f⟩=>?_) j i;rw[l];exact bD (k a c b m x v _ I1 d f) λ_ n q=>q
theorem oV{i:Nat}{x:Str}{e:Expr}{te:TE}{a:Pos}(m:X.N.Nodup)(k:X.N[i]?=some x)(g:Loc X.env.scope x)(he:PE X e te)(j:swapsWith e (some (.Name x a)) pos.line X.env=pure false:=by rfl)(l:X.fn x=true\/X.env.scope.names.lookup x=some .local:=by first|exact .inl rfl|exact .inr rfl|assumption):
 PS X (.Assign [.Name x a] e pos) (jT te (eB i)):=by
 intro b s c H D I h;refine wpAny_Assign_Name (bD (he b s c H _ I h) λv q ⟨y,o,I1,d,f⟩=>?_) j;exact dz I1 m k g d (λp n=>⟨_,o,n,f⟩) l
noncomputable def QU(i j:Nat)(ta:TA):TS:=λD a H=>ta a H λb c=>∃v w,b=[v,w]/\D.nx ((a.set i (some v)).set j (some w)) c
theorem Ii{i j:Nat}{x y:Str}{a b:Expr}{ta:TA}{n m r:Pos}{t k2 B}(Y:X.calm=true)(J:X.N.Nodup)(U:X.N[i]?=some x)(T:X.N[j]?=some y)(z:i≠j)
 (G:X.env.scope.names.lookup x=some .local)(E:X.env.scope.names.lookup y=some .local)(Z:PA X [a,b] ta)
 (R:swappedStores [.Tuple [.Name x n,.Name y m] t r] (.Tuple [a,b] k2 B) X.env=pure (some [x,y]))
 (S:swapsWithSole [.Tuple [.Name x n,.Name y m] t r] (.Tuple [a,b] k2 B) pos.line X.env=pure false:=by rfl):
 PS X (.Assign [.Tuple [.Name x n,.Name y m] t r] (.Tuple [a,b] k2 B) pos) (QU i j ta):=by
 intro c s C H D I h;rw[exec_Assign_arm];refine D2 (X1 ?_);rw[S];refine D2 (Hn ?_);rw[Bi (by decide)];refine D2 (Tuple_ (bD (Z _ c s C H _ I h) λM g ⟨vs,L,I1,O,l⟩=>?_));obtain⟨v,w,e1,l⟩:=l;subst e1;obtain⟨f,d,rfl,rv,k⟩:∃f d,M=[f,d]/\RelV v f/\RelV w d:=by
  cases O with
  |cons p q=>
   cases q with
   |cons Q P=>
    cases P;exact⟨_,_,rfl,p,Q⟩
 refine XQ ?_ (by show 2<=sizeLine;decide);have I2:Inv X c C L {g with heap:=g.heap.push {cls:=.type "tuple",data:=.seq [f,d].toArray}}:=I1.kept (t':=g.toks) λb o e=>D1 _ e;rw[R];refine D2 (Hn ?_);show wpAny (model X.prog X.w) X.A (do rule "assign.swapped-stores";let items<-unpackItems (.ref g.heap.objs.size) 2 none;assignInOrder [λv=>bindName X.env y v,λv=>bindName X.env x v] items.reverse;pure Flow.next) _ _ _;refine D2 (wpAny_rule (D2 (unpackItems_tuple (items:= #[f,d]) (I.ok.hd Y) (IsTup.new g.heap _) λh' u=>?_)));have I3:=I2.kept (h':=h') (t':=g.toks) λb o e=>u b o (Ha (Ee e)) e;show wpAny _ _ (assignInOrder [λv=>bindName X.env y v,λv=>bindName X.env x v] [d,f]>>=λ_=>pure Flow.next) _ _ _;refine D2 (WC (XC (dz I3 J T (.inl E) k (λs2 I4=>?_) (.inr E))));refine WC (XC (dz I4 J U (.inl G) rv (λs3 K=>assignInOrder_nil (Hn ?_)) (.inr G)));rw[Pb _ _ (NM z)]at K;exact⟨_,L,K,l⟩
noncomputable def Ij(c:TT)(h:TS):TS:=λD a H=>∃W:Nat->St->Hp->Prop,(∃m,W m a H)/\∀m a H,W m a H->
 c a H λb f=>if b=true then∃N:St->Hp->Prop,(∀d g,N d g->∃e,e<m/\W e d g)/\h {D with nx:=N,ct:=N,bk:=D.nx} a f else D.nx a f
theorem zL{c:Expr}{g:List Stmt}{tc:TT}{u:TS}(x:PassesOwn (model X.prog X.w) X.A X.env X.xe)(Q:PT X c tc)(R:rF X g u):PS X (.While c g [] pos) (Ij tc u):=by
 intro d s G H D I h;obtain⟨W,⟨P,K⟩,j⟩:=h;refine wpAny_While (codeAny_whileLoop (λn O=>∃i E,Inv X d i E O/\W n i E) ?_ P ⟨G,H,I,K⟩);rintro n M ⟨e,C,I1,J⟩;refine W6 x (bD (Q d M e C _ I1 (j n e C J)) λb L ⟨B,z,m⟩=>?_);cases b with
 |true=>
  obtain⟨N,y,m⟩:=m;rw[Bz rfl];refine W6 x (bD (R d L e B _ z m) λf S l=>?_);cases f with
  |next=>obtain⟨a,k,t,p⟩:=l;obtain⟨q,r,o⟩:=y a k p;exact⟨q,r,a,k,t,o⟩
  |cont=>obtain⟨a,k,t,p⟩:=l;obtain⟨q,r,o⟩:=y a k p;exact⟨q,r,a,k,t,o⟩
  |brk=>exact l
  |ret v=>exact l
 |false=>rw[Bi Jn];exact wpAny_execs_nil ⟨e,B,z,m⟩
end
set_option genInjectivity false in
set_option genSizeOf false in
structure It where
 go:Nat->Hp->Prop
 MY:Nat->Hp->V->Hp->Prop
 stop:Nat->Hp->Prop
noncomputable def dD(X:Cx)(a:List (Addr×Obj))(H:Hp)(b:Addr):Prop:=
 H b=none/\b≠X.env.locals/\b∉X.fs/\(b∈X.ex\/X.s₀.heap.objs.size<=b)/\(∀x c,X.env.cells.lookup x=some c->c≠b)/\∀p∈X.pn++a,p.1≠b
theorem Inv.m6{X:Cx}{a:List (Addr×Obj)}{f:St}{H H':Hp}{s:Shared}{b:Addr}(I:Inv X a f H s)(d:s.heap.objs.size<=b)(h:H' b=none):dD X a H' b:=by
 refine⟨h,WL (HI I.lt d),I.QH d,.inr (Hm I.sz d),λx c e z=>?_,λp g z=>?_⟩
 .obtain⟨v,q⟩:=I.cell x c e;exact absurd (HI q.lt (by rw[z];exact d)) (Mo _)
 .exact absurd (HI (Ee (I.pin p g).1) (by rw[z];exact d)) (Mo _)
structure Turn(P:Program)(w:World)(K:Frag)(tg:Expr)(J:It)(fp:List Addr)(it:Addr)(tn:Nat->Heap->Prop):Prop where
 mem:it∈fp
 obj:∀i h,tn i h->∀b∈fp,∃o,h.get? b=some o/\∀v,o.data≠.cell v
 keep:∀i h h',tn i h->(∀b∈fp,∀o,h.get? b=some o->h'.get? b=some o)->tn i h'
 item:∀(X:Cx),X.prog=P->X.w=w->X.K=K->X.calm=true->∀(i:Nat)(pins:List (Addr×Obj))(s:Shared)(σ:St)(H:Hp)(E:Value->Shared->Prop),Inv X pins σ H s->(∀b∈fp,dD X pins H b)->tn i s.heap->J.go i H->
  wpAny (model P w) X.A (pyNext (.ref it)) (λr s1=>∃u,r=some u/\
   wpAny (model P w) X.A (letOwnedTupleGo tg (.ref it) u) (λ_ s2=>∃x H',Inv X pins σ H' s2/\RelV x u/\J.MY i H x H'/\tn (i+1) s2.heap/\∀b∈fp,H' b=none) E s1) E s
 done:∀(X:Cx),X.prog=P->X.w=w->X.K=K->X.calm=true->∀(i:Nat)(pins:List (Addr×Obj))(s:Shared)(σ:St)(H:Hp)(E:Value->Shared->Prop),Inv X pins σ H s->(∀b∈fp,dD X pins H b)->tn i s.heap->J.stop i H->
  wpAny (model P w) X.A (pyNext (.ref it)) (λr s1=>r=none/\Inv X pins σ H s1) E s
 self:∀(A:Around)(i:Nat)(s:Shared)(Q:Value->Shared->Prop)(E:Value->Shared->Prop),tn i s.heap->Q (.ref it) s->wpAny (model P w) A (pyIter (.ref it)) Q E s
abbrev TI:=St->Hp->(It->Hp->Prop)->Prop
noncomputable def QV(X:Cx)(a:List (Addr×Obj))(i:St)(tg:Expr)(R:It->Hp->Prop)(c:Value)(f:Shared):Prop:=
 ∃(g:Addr)(h:List Addr)(e:Nat->Heap->Prop)(J:It)(d:Hp),c=.ref g/\Inv X a i d f/\Turn X.prog X.w X.K tg J h g e/\e 0 f.heap/\(∀b∈h,dD X a d b)/\R J d
noncomputable def PI(X:Cx)(tg b:Expr)(d:TI):Prop:=
 ∀(a:List (Addr×Obj))(s:Shared)(c:St)(H:Hp)(R:It->Hp->Prop),Inv X a c H s->d c H R->
  wpAny (model X.prog X.w) X.A (eval b X.env) (λv e=>wpAny (model X.prog X.w) X.A (pyIter v) (QV X a c tg R) X.xe e) X.xe s
theorem rG{M:Model}{A:Around}{E:Value->Shared->Prop}{s:Shared}{tg:Expr}{b:Addr}{u:Value}{o:Obj}{n:String}{vs:Array Value}{Q:Unit->Shared->Prop}(c:s.heap.get? b=some o)(f:o.cls=.type n)(e:o.data=.fields vs)
 (d:["enumerate","zip","dict_itemiterator","dict_reverseitemiterator","odict_iterator","itertools.zip_longest","itertools.pairwise"].contains n=false)(a:Q () s):wpAny M A (letOwnedTupleGo tg (.ref b) u) Q E s:=by
 unfold letOwnedTupleGo;cases tg<;>first
  |exact Hn a
  |(cases u<;>first
     |exact Hn a
     |(refine D2 (wpAny_load c ?_)
       rw[f,e];show wpAny M A (if(["enumerate","zip","dict_itemiterator","dict_reverseitemiterator","odict_iterator","itertools.zip_longest","itertools.pairwise"].contains n&&vs[0]?==some (rawInt _))=true then _ else _) Q E s;rw[Bi (by intro h;rw[d,Bool.false_and]at h;cases h)];exact Hn a))
noncomputable def QW(K:Frag)(a:Addr):It:=
 ⟨λi H=>∃b x,fh K H a b/\b[i]?=some x,λi H x c=>c=H/\∀b,fh K H a b->b[i]?=some x,λi H=>∃b,fh K H a b/\b.length<=i⟩
noncomputable def QX(K:Frag)(a:Addr):It:=
 ⟨λi H=>∃b x,g8 K H a b/\b[i]?=some x,λi H x c=>c=H/\∀b,g8 K H a b->b[i]?=some x,λi H=>∃b,g8 K H a b/\b.length<=i⟩
noncomputable def MZ(a:Int)(n:Nat):It:=⟨λi _=>i<n,λi H x b=>b=H/\x=.int (a+i),λi _=>n<=i⟩
theorem xR{P:Program}{w:World}{K:Frag}{tg:Expr}(a j:Addr):Turn P w K tg (QW K a) [j] j (λi h=>h.IsListIter j a i)where
 mem:=by simp
 obj:=λi h f b l=>by
  have e:b=j:=by simpa using l
  subst e;obtain⟨o,e,c,d⟩:=f;exact⟨o,e,λv z=>by rw[d]at z;cases z⟩
 keep:=λi h r f k=>f.at λo e=>k j (by simp) o e
 item:=by intro X C A D Q i g s O H E I q f B;subst C A D;obtain⟨R,x,n,y⟩:=B;obtain⟨t,rv,p,hz⟩:=I.list n;obtain⟨u,Y,T⟩:=rv.get y;obtain⟨N,M,Z,L,J,G⟩:=q j (by simp);refine wpAny_pyNext_list_item f p.isList (x:=u) (by simpa using Y) λr m S=>?_;have I1:Inv X g O H {s with heap:=r}:=I.turned (t':=s.toks) (λb o l e=>(S.2 b l).trans e) N M L J G;obtain⟨o,e,c,d⟩:=id m;exact⟨u,rfl,rG (s:={s with heap:=r}) e c d (by decide) ⟨x,H,I1,T,⟨rfl,λys U=>by rw[I.kH U n];exact y⟩,m,λb l=>(q b l).1⟩⟩
 done:=by intro X C A D Q i g s O H E I q f B;subst C A D;obtain⟨R,n,y⟩:=B;obtain⟨t,rv,p,hz⟩:=I.list n;obtain⟨N,M,Z,L,J,G⟩:=q j (by simp);have hl:=rv.length;exact wpAny_pyNext_list_end (I.ok.hd Q) f p.isList (by simp;lia) λr eb=>⟨rfl,I.turned (t':=s.toks) (λb o l e=>eb b o l e) N M L J G⟩
 self:=λ_ _ _ _ _ f h=>wpAny_pyIter_listiter f h
theorem ue{P:Program}{w:World}{K:Frag}{tg:Expr}(a l:Addr):Turn P w K tg (QX K a) [l] l (λi h=>h.IsTupleIter l a i)where
 mem:=by simp
 obj:=λi h f b m=>by
  have e:b=l:=by simpa using m
  subst e;obtain⟨o,e,c,d⟩:=f;exact⟨o,e,λv z=>by rw[d]at z;cases z⟩
 keep:=λi h t f k=>f.at λo e=>k l (by simp) o e
 item:=by intro X C A D Q i g s O H E I r f B;subst C A D;obtain⟨R,x,q,y⟩:=B;obtain⟨j,rv,p,hz⟩:=I.tuple q;obtain⟨u,Y,T⟩:=rv.get y;obtain⟨N,M,Z,L,J,G⟩:=r l (by simp);refine wpAny_pyNext_tuple_item f (show s.heap.IsTuple a j.toArray from p) (x:=u) (by simpa using Y) λt n S=>?_;have I1:Inv X g O H {s with heap:=t}:=I.turned (t':=s.toks) (λb o m e=>(S.2 b m).trans e) N M L J G;obtain⟨o,e,c,d⟩:=id n;exact⟨u,rfl,rG (s:={s with heap:=t}) e c d (by decide) ⟨x,H,I1,T,⟨rfl,λys U=>by rw[I.xQ U q];exact y⟩,n,λb m=>(r b m).1⟩⟩
 done:=by intro X C A D Q i g s O H E I r f B;subst C A D;obtain⟨R,q,y⟩:=B;obtain⟨j,rv,p,hz⟩:=I.tuple q;obtain⟨N,M,Z,L,J,G⟩:=r l (by simp);have hl:=rv.length;exact wpAny_pyNext_tuple_end (I.ok.hd Q) f (show s.heap.IsTuple a j.toArray from p) (by simp;lia) λt eb=>⟨rfl,I.turned (t':=s.toks) (λb o m e=>eb b o m e) N M L J G⟩
 self:=λ_ _ _ _ _ f h=>wpAny_pyIter_tupleiter f h
theorem uf{P:Program}{w:World}{K:Frag}{tg:Expr}(d:Addr)(j:Int)(n:Nat):Turn P w K tg (MZ j n) [d] d (λi h=>IsRangeIter h d (j+(i:Nat)*1) ((n:Int) -(i:Nat)) 1)where
 mem:=by simp
 obj:=λi h a b f=>by
  have e:b=d:=by simpa using f
  subst e;exact⟨_,a,λv z=>by have L:Data.fields _=Data.cell v:=z;cases L⟩
 keep:=λi h m a k=>k d (by simp) _ a
 item:=by intro X u p x r i c s G H E I l a q;subst u p x;obtain⟨D,C,O,B,A,y⟩:=l d (by simp);have W:=Walks.range (prog:=X.prog) (w:=X.w) (I.ok.hd r) d j 1 n;refine W.item i s _ _ q a λv m J N g M=>?_;obtain⟨t,rfl⟩:=N;have I1:Inv X c G H {s with heap:=m,toks:=J}:=I.turned (λb o f e=>M b o (by simpa using f) e) D C B A y;refine⟨_,rfl,rG (s:={s with heap:=m,toks:=J}) (n:="range_iterator") g rfl rfl (by decide) ⟨.int (j+i),H,I1,⟨t,?_⟩,⟨rfl,rfl⟩,g,λb f=>(l b f).1⟩⟩;rw[SQ]
 done:=by intro X u p x r i c s G H E I l a q;subst u p x;obtain⟨D,C,O,B,A,y⟩:=l d (by simp);exact wpAny_pyNext_range_end (I.ok.hd r) a (by have:n<=i:=q;lia) λm Q=>⟨rfl,I.turned (t':=s.toks) (λb o f e=>Q b o f e) D C B A y⟩
 self:=λ_ _ _ _ _ a h=>wpAny_pyIter_rangeiter a h
section
variable{X:Cx}{tg:Expr}
theorem rH{d:List (Addr×Obj)}{f:St}{H:Hp}{s:Shared}{R:It->Hp->Prop}{E:Value->Shared->Prop}{a c:Int}{t u v:Tok}{g:Nat}(I:Inv X d f H s)(l: -(2^62)<=a)(k:a<2^62)(j: -(2^62)<=c)(i:c<2^62)
 (q:R (MZ a (c -a).toNat) H):wpAny (model X.prog X.w) X.A (pyIter (.ref s.heap.objs.size)) (QV X d f tg R) E {s with heap:=s.heap.push {cls:=.type "range",data:=.fields #[.int a t,.int c u,.int 1 v]},toks:=g}:=by
 refine wpAny_pyIter_range (IsRange.new ..) (small_one l k j i) ?_;have I1:Inv X d f H {s with heap:=s.heap.push {cls:=.type "range",data:=.fields #[.int a t,.int c u,.int 1 v]},toks:=g}:=I.kept λb o e=>D1 _ e;refine⟨(s.heap.push {cls:=.type "range",data:=.fields #[.int a t,.int c u,.int 1 v]}).objs.size,[(s.heap.push {cls:=.type "range",data:=.fields #[.int a t,.int c u,.int 1 v]}).objs.size],_,_,H,rfl,
  I1.kept (t':=g) λb o e=>D1 _ e,uf _ a (c -a).toNat,?_,λb h=>?_,q⟩
 .have n:a+((0:Nat):Int)*1=a:=by simp
  have m:(((c -a).toNat:Nat):Int) -((0:Nat):Int)=Builtin.Range.rangeSize a c 1:=by rw[rangeSize_one];split<;>lia
  show IsRangeIter _ _ (a+((0:Nat):Int)*1) ((((c -a).toNat:Nat):Int) -((0:Nat):Int)) 1;rw[n,m];exact Fn _ rfl
 .have e:b=(s.heap.push {cls:=.type "range",data:=.fields #[.int a t,.int c u,.int 1 v]}).objs.size:=by simpa using h
  subst e;exact I1.m6 (BM _) (I1.hok.fresh (BM _))
noncomputable def M0(ta:TA):TI:=λa H R=>ta a H λb c=>∃j:Int,b=[.int j]/\-(2^62)<=j/\j<2^62/\R (MZ 0 j.toNat) c
noncomputable def M1(ta:TA):TI:=λa H R=>ta a H λb c=>∃i j:Int,b=[.int i,.int j]/\(-(2^62)<=i/\i<2^62/\-(2^62)<=j/\j<2^62)/\R (MZ i (j -i).toNat) c
theorem xS{a:Expr}{ta:TA}{p pos:Pos}(m:Gl X "range")(l:X.mg "range"=none)(n:PA X [a] ta)(k:starEach [a] X.env=[(false,eval a X.env)]:=by rfl):PI X tg (.Call (.Name "range" p) [a] [] pos) (M0 ta):=by
 intro b s d H R I h;refine Call_ (dB I m l boot_range (Kx (bD (n pos b s d H _ I h) λu v ⟨o,w,I1,g,c⟩=>?_) k rfl));obtain⟨j,e,c,i,q⟩:=c;subst e;cases g with
 |cons r f=>
  cases f;obtain⟨t,rfl⟩:=r;exact call_range_1 (rH I1 (by lia) (by lia) c i (by simpa using q))
theorem xT{a b:Expr}{ta:TA}{p pos:Pos}(x:Gl X "range")(w:X.mg "range"=none)(y:PA X [a,b] ta)(v:starEach [a,b] X.env=[(false,eval a X.env),(false,eval b X.env)]:=by rfl)(d:starEach [b] X.env=[(false,eval b X.env)]:=by rfl):
 PI X tg (.Call (.Name "range" p) [a,b] [] pos) (M1 ta):=by
 intro c s k H R I h;refine Call_ (dB I x w boot_range (Kx (bD (y pos c s k H _ I h) λA C ⟨z,D,I1,l,g⟩=>?_) (by rw[v,d]) (by rw[d];rfl)));obtain⟨i,j,e,⟨g,u,o,n⟩,q⟩:=g;subst e;cases l with
 |cons r f=>
  cases f with
  |cons m f=>
   cases f;obtain⟨t,rfl⟩:=r;obtain⟨B,rfl⟩:=m;exact call_range_2 (rH I1 g u o n q)
noncomputable def QY(f:TI)(g:TG)(h:TS):TS:=λD a H=>f a H λJ k=>∃W:Nat->Nat->St->Hp->Prop,(∃m,W 0 m a k)/\∀i m a H,W i m a H->
 (J.stop i H/\D.nx a H)\/(J.go i H/\∃N:St->Hp->Prop,(∀b c,N b c->∃e,e<m/\W (i+1) e b c)/\∀x c,J.MY i H x c->g x a c λd j=>h {D with nx:=N,ct:=N,bk:=D.nx} d j)
noncomputable def kI(a:List Addr)(h:Heap):List (Addr×Obj):=a.filterMap λb=>(h.get? b).map λo=>(b,o)
theorem fk{a:List Addr}{h:Heap}{b:Addr}{o:Obj}(c:b∈a)(e:h.get? b=some o):(b,o)∈kI a h:=Pj.mpr ⟨b,c,by rw[e];rfl⟩
theorem xU{a:List Addr}{h:Heap}{p:Addr×Obj}(c:p∈kI a h):p.1∈a/\h.get? p.1=some p.2:=by
 obtain⟨b,d,e⟩:=Pj.mp c;cases q:h.get? b with
 |none=>rw[q]at e;cases e
 |some o=>rw[q]at e;have f:(b,o)=p:=Hk e;subst f;exact⟨d,q⟩
theorem Inv.pinned{a:List (Addr×Obj)}{f:St}{H:Hp}{s:Shared}{c:List Addr}(I:Inv X a f H s)(k:∀b∈c,dD X a H b)(j:∀b∈c,∃o,s.heap.get? b=some o/\∀v,o.data≠.cell v):Inv X (a++kI c s.heap) f H s:=
 I.j5 λp i=>(Fs.mp i).elim (λz=>I.pin p (Fk _ z)) λz=>by obtain⟨g,e⟩:=xU z;obtain⟨n,m,l,_⟩:=k p.1 g;obtain⟨o,h,d⟩:=j p.1 g;rw[e]at h;cases h;exact⟨e,n,m,l,d⟩
theorem Inv.iz{a c:List (Addr×Obj)}{b:St}{H:Hp}{s:Shared}(I:Inv X (a++c) b H s):Inv X a b H s:=I.j5 λp d=>I.pin p (Fk _ (N0 _ d))
theorem Ik{l:Expr}{C:List Stmt}{wi:TI}{g:TG}{tb:TS}{pos:Pos}(O:PassesOwn (model X.prog X.w) X.A X.env X.xe)(hc:X.calm=true)(hi:PI X tg l wi)(hg:PG X tg g)(p:rF X C tb)
 (hs:∀x,foldedSetIterable l X.env x=pure x:=by intro _;rfl):PS X (.For tg l C [] pos) (QY wi g tb):=by
 intro a s σ H D I h;refine wpAny_For (bD (hi a s σ H _ I h) λv s1 h1=>bD h1 λitv s2 h2=>?_) hs;obtain⟨it,P,tn,J,H2,e,I2,T,R,f2,W,⟨m0,w0⟩,E⟩:=h2;subst e;have Z:∀{z:Hp},(∀b∈P,z b=none)->∀b∈P,dD X a z b:=λhn b p=>⟨hn b p,(f2 b p).2⟩;refine codeAny_forLoop_any (λn s'=>∃i j z,Inv X a j z s'/\tn i s'.heap/\(∀b∈P,z b=none)/\W i n j z) ?_ m0 ⟨0,σ,H2,I2,R,λb p=>(f2 b p).1,w0⟩;rintro n s3 ⟨i,c,Q,I3,L,Su,w3⟩;rcases E i n c Q w3 with⟨G,qn⟩|⟨go,N,hN,K⟩
 .refine W6 O (bD (T.done X rfl rfl rfl hc i a s3 c Q X.xe I3 (Z Su) L G) λr s4 ⟨U,I4⟩=>?_);subst U;exact wpAny_execs_nil ⟨c,Q,I4,qn⟩
 .refine W6 O (bD (T.item X rfl rfl rfl hc i a s3 c Q X.xe I3 (Z Su) L go) λr s4 ⟨u,U,h4⟩=>?_);subst U;refine W6 O (bD h4 λ_ s5 ⟨x,H5,I5,r5,y5,Y,Qd⟩=>?_);have TZ:=I5.pinned (Z Qd) (T.obj _ _ Y);refine W6 O (bD (hg _ s5 c H5 x u _ TZ r5 (K x H5 y5)) λ_ s6 ⟨T3,H6,I6,q6⟩=>?_);refine W6 O (bD (p _ s6 T3 H6 _ I6 q6) λf S B=>?_);have q:∀{k:St}{y:Hp},Inv X (a++kI P s5.heap) k y S->N k y->∃m,m<n/\∃i j z,Inv X a j z S/\tn i S.heap/\(∀b∈P,z b=none)/\W i m j z:=λ{k y} t M=>by obtain⟨m',hm,w7⟩:=hN k y M;refine⟨m',hm,i+1,k,y,t.iz,T.keep _ _ _ Y λb p o e=>(t.pin (b,o) (Fk _ (Fk _ (fk p e)))).1,λb p=>?_,w7⟩;obtain⟨o,e,d⟩:=T.obj _ _ Y b p;exact(t.pin (b,o) (Fk _ (Fk _ (fk p e)))).2.1
  cases f with
  |next=>obtain⟨k,y,t,M⟩:=B;exact q t M
  |cont=>obtain⟨k,y,t,M⟩:=B;exact q t M
  |brk=>obtain⟨k,y,t,B⟩:=B;exact⟨k,y,t.iz,B⟩
  |ret v=>obtain⟨x7,k,y,t,r7,B⟩:=B;exact⟨x7,k,y,t.iz,r7,B⟩
end
abbrev R2:=V->V->Hp->VK->Prop
noncomputable def jf(X:Cx)(f:Value->Value->Sem Value)(r:R2):Prop:=
 ∀(a:List (Addr×Obj))(s:Shared)(b:St)(H:Hp)(x y:V)(v u:Value)(Q:VK),Inv X a b H s->RelV x v->RelV y u->r x y H Q->
  wpAny (model X.prog X.w) X.A (f v u) (EP X a b Q) X.xe s
noncomputable def QZ(X:Cx)(f:Value->Sem Value)(r:V->Hp->VK->Prop):Prop:=
 ∀(a:List (Addr×Obj))(s:Shared)(b:St)(H:Hp)(x:V)(v:Value)(Q:VK),Inv X a b H s->RelV x v->r x H Q->
  wpAny (model X.prog X.w) X.A (f v) (EP X a b Q) X.xe s
noncomputable def bG(X:Cx)(f:Value)(r:List V->Hp->VK->Prop):Prop:=
 ∀(a:List (Addr×Obj))(s:Shared)(b:St)(H:Hp)(c:List V)(d:List Value)(Q:VK),Inv X a b H s->Vals c d->r c H Q->
  wpAny (model X.prog X.w) X.A (call f d) (EP X a b Q) X.xe s
noncomputable def T4(r:R2)(ta b:TE):TE:=λa H Q=>ta a H λx d=>b a d λy c=>r x y c Q
noncomputable def T5(r:V->Hp->VK->Prop)(ta:TE):TE:=λa H Q=>ta a H λx b=>r x b Q
noncomputable def rI(C:Int->Int->Prop)(g:Int->Int->V):R2:=λx y H Q=>∃i j,x=.int i/\y=.int j/\C i j/\Q (g i j) H
noncomputable def C3(g:Int->Int->V):R2:=λx y H Q=>∃i j,x=.int i/\y=.int j/\Q (g i j) H
noncomputable def rU(g:Int->V):V->Hp->VK->Prop:=λx H Q=>∃i,x=.int i/\Q (g i) H
section
variable{X:Cx}{a b c:Expr}{ta tb tc:TE}{pos:Pos}
theorem Q0(z:PE X a ta)(t:PE X b tb){d:List (Addr×Obj)}{s:Shared}{e:St}{H:Hp}{R:V->V->Hp->Prop}(I:Inv X d e H s)
 (h:ta e H λx l=>tb e l λy g=>R x y g){Q:Value->Shared->Prop}{f:Value->Value->Sem Value}
 (r:∀v u k x y g,Inv X d e g k->RelV x v->RelV y u->R x y g->wpAny (model X.prog X.w) X.A (f v u) Q X.xe k):
 wpAny (model X.prog X.w) X.A (eval a X.env) (λv j=>wpAny (model X.prog X.w) X.A (eval b X.env) (λu i=>wpAny (model X.prog X.w) X.A (f v u) Q X.xe i) X.xe j) X.xe s:=by
 refine bD (z d s e H _ I h) λv m ⟨x,l,I1,o,q⟩=>?_;refine bD (t d m e l _ I1 q) λu k ⟨y,g,B,n,p⟩=>?_;exact r v u k x y g B o n p
theorem M3{op:UnaryOp}{r:V->Hp->VK->Prop}(j:QZ X (unaryOp op) r)(k:PE X a ta):PE X (.UnaryOp op a pos) (T5 r ta):=by intro d s e H Q I h;exact UnaryOp_ (bD (k d s e H _ I h) λv f ⟨x,l,I1,g,i⟩=>j d f e l x v Q I1 g i)
theorem M4{f:Value->Value->Sem Value}{C:Int->Int->Prop}{g:Int->Int->Int}
 (d:∀(i j:Int)(t u:Tok)(s:Shared)(Q:Value->Shared->Prop)(E:Value->Shared->Prop),C i j->Q (.int (g i j) s.toks) {s with toks:=s.toks+1}->wpAny (model X.prog X.w) X.A (f (.int i t) (.int j u)) Q E s):
 jf X f (rI C λi j=>.int (g i j)):=by
 intro e s o H x y v u Q I m l h;obtain⟨i,j,rfl,rfl,n,q⟩:=h;obtain⟨t,rfl⟩:=m;obtain⟨k,rfl⟩:=l;exact d i j t k s _ _ n ⟨.int (g i j),H,I.tok _,⟨_,rfl⟩,q⟩
theorem M5{f:Value->Value->Sem Value}{g:Int->Int->Int}
 (d:∀(i j:Int)(t u:Tok)(s:Shared)(Q:Value->Shared->Prop)(E:Value->Shared->Prop),Q (.int (g i j) s.toks) {s with toks:=s.toks+1}->wpAny (model X.prog X.w) X.A (f (.int i t) (.int j u)) Q E s):
 jf X f (C3 λi j=>.int (g i j)):=by
 intro e s n H x y v u Q I m l h;obtain⟨i,j,rfl,rfl,q⟩:=h;obtain⟨t,rfl⟩:=m;obtain⟨k,rfl⟩:=l;exact d i j t k s _ _ ⟨.int (g i j),H,I.tok _,⟨_,rfl⟩,q⟩
theorem C4{f:Value->Value->Sem Value}{g:Int->Int->Bool}
 (d:∀(i j:Int)(t u:Tok)(s:Shared)(Q:Value->Shared->Prop)(E:Value->Shared->Prop),Q (.bool (g i j)) s->wpAny (model X.prog X.w) X.A (f (.int i t) (.int j u)) Q E s):
 jf X f (C3 λi j=>.bl (g i j)):=by
 intro e s n H x y v u Q I m l h;obtain⟨i,j,rfl,rfl,q⟩:=h;obtain⟨t,rfl⟩:=m;obtain⟨k,rfl⟩:=l;exact d i j t k s _ _ ⟨.bl (g i j),H,I,rfl,q⟩
noncomputable def Q2(i j:Int):Prop:=0<j/\j<1073741824
noncomputable def xV(i j:Int):Prop:=0<=j/\j<=1000000/\i.natAbs<2^64
theorem ug(k:Nat):(0:Int)<=2^k:=by rw[two_pow_cast];exact Int.natCast_nonneg _
theorem Im:jf X (binaryOp .Add) (C3 λi j=>.int (i+j)):=M5 λ_ _ _ _ _ _ _ q=>add_int q
theorem Io:jf X (binaryOp .Sub) (C3 λi j=>.int (i -j)):=M5 λ_ _ _ _ _ _ _ q=>sub_int q
theorem C5:jf X (binaryOp .Mod) (rI (λ_ j=>j≠0) λi j=>.int (i.fmod j)):=M4 λ_ _ _ _ _ _ _ d q=>mod_int' d q
theorem Iq:jf X (binaryOp .Pow) (rI xV λi j=>.int (i^j.toNat)):=M4 λ_ _ _ _ _ _ _ d q=>pow_int_small d.1 d.2.1 d.2.2 q
theorem Ir:jf X (binaryOp .LShift) (rI xV λi j=>.int (i*2^j.toNat)):=M4 λ_ _ _ _ _ _ _ d q=>lshift_int_small d.1 d.2.1 d.2.2 q
theorem Iu:jf X (binaryOp .RShift) (rI (λ_ j=>0<=j) λi j=>.int (i/2^j.toNat)):=M4 λi j _ _ _ _ _ d q=>rshift_int d (by rw[W7 i (ug _)];exact q)
theorem T6{f:Value->Sem Value}{g:Int->Int}
 (d:∀(i:Int)(t:Tok)(s:Shared)(Q:Value->Shared->Prop)(E:Value->Shared->Prop),Q (.int (g i) s.toks) {s with toks:=s.toks+1}->wpAny (model X.prog X.w) X.A (f (.int i t)) Q E s):
 QZ X f (rU λi=>.int (g i)):=by
 intro e s k H x v Q I j h;obtain⟨i,rfl,q⟩:=h;obtain⟨t,rfl⟩:=j;exact d i t s _ _ ⟨.int (g i),H,I.tok _,⟨_,rfl⟩,q⟩
theorem Iv:QZ X (unaryOp .USub) (rU λi=>.int (-i)):=T6 λ_ _ _ _ _ q=>neg_int q
end
noncomputable def Iw:V->V->Bool
 |.aL,.aL=>true|.aL,.int _=>true|.int _,.aL=>true|.aL,.bl _=>true|.bl _,.aL=>true|.aL,.str _=>true|.str _,.aL=>true
 |.int _,.int _=>true|.bl _,.bl _=>true|.str _,.str _=>true|.zm _,.zm _=>true
 |.int _,.str _=>true|.str _,.int _=>true|.bl _,.str _=>true|.str _,.bl _=>true
 |_,_=>false
noncomputable def T7:R2:=λx y H Q=>Iw x y=true/\Q (.bl (decide (x=y))) H
noncomputable def T8:R2:=λx y H Q=>Iw x y=true/\Q (.bl (!decide (x=y))) H
theorem vJ{i j:Int}:decide (V.int i=V.int j)=(i==j):=by rw[WG];simp
theorem zN{i j:Bool}:decide (V.bl i=V.bl j)=(i==j):=by rw[WG];simp
theorem vK{i j:Str}:decide (V.str i=V.str j)=(i==j):=by rw[WG];simp
theorem vL{i j:Array UInt8}:decide (V.zm i=V.zm j)=(i.toList==j.toList):=by rw[WG];cases i;cases j;simp
section
variable{X:Cx}{a b c:Expr}{ta tb tc:TE}{pos:Pos}
theorem aI{d:List (Addr×Obj)}{f:St}{H:Hp}{s:Shared}{Q:VK}{k g:Bool}(I:Inv X d f H s)(q:Q (.bl k) H)(e:k=g):EP X d f Q (.bool g) s:=by subst e;exact⟨.bl k,H,I,rfl,q⟩
theorem M6:jf X (compareOp .Eq) T7:=by
 intro k s l H x y v u Q I g d h;obtain⟨f,q⟩:=h;cases x with
 |aL=>
  cases g;cases y with
  |aL=>cases d;exact PySem.EqNone.eq_none_none (aI I q (by simp))
  |bl j=>cases d;exact PySem.EqNone.eq_none_bool (aI I q (by simp))
  |int j=>obtain⟨e,rfl⟩:=d;exact PySem.EqNone.eq_none_int (aI I q (by simp))
  |str j=>obtain⟨e,rfl⟩:=d;exact PySem.EqNone.eq_none_str (aI I q (by simp))
  |_=>exact absurd (show false=true from f) Jn
 |bl i=>
  cases g;cases y with
  |aL=>cases d;exact PySem.EqNone.eq_bool_none (aI I q (by simp))
  |bl j=>cases d;exact eq_bool (aI I q zN)
  |str j=>obtain⟨e,rfl⟩:=d;exact PySem.EqMixed.eq_bool_str (aI I q (by simp))
  |_=>exact absurd (show false=true from f) Jn
 |int i=>
  obtain⟨t,rfl⟩:=g;cases y with
  |aL=>cases d;exact PySem.EqNone.eq_int_none (aI I q (by simp))
  |int j=>obtain⟨e,rfl⟩:=d;exact eq_int (aI I q vJ)
  |str j=>obtain⟨e,rfl⟩:=d;exact PySem.EqMixed.eq_int_str (aI I q (by simp))
  |_=>exact absurd (show false=true from f) Jn
 |str i=>
  obtain⟨t,rfl⟩:=g;cases y with
  |aL=>cases d;exact PySem.EqNone.eq_str_none (aI I q (by simp))
  |bl j=>cases d;exact PySem.EqMixed.eq_str_bool (aI I q (by simp))
  |int j=>obtain⟨e,rfl⟩:=d;exact PySem.EqMixed.eq_str_int (aI I q (by simp))
  |str j=>obtain⟨e,rfl⟩:=d;exact eq_str (aI I q vK)
  |_=>exact absurd (show false=true from f) Jn
 |zm i=>
  obtain⟨t,rfl⟩:=g;cases y with
  |zm j=>obtain⟨e,rfl⟩:=d;exact PySem.W.eq_bytes (aI I q vL)
  |_=>exact absurd (show false=true from f) Jn
 |_=>cases y<;>exact absurd (show false=true from f) Jn
theorem M7:jf X (compareOp .NotEq) T8:=by
 intro k s l H x y v u Q I g d h;obtain⟨f,q⟩:=h;cases x with
 |aL=>
  cases g;cases y with
  |aL=>cases d;exact PySem.EqNone.ne_none_none (aI I q (by simp))
  |bl j=>cases d;exact PySem.EqNone.ne_none_bool (aI I q (by simp))
  |int j=>obtain⟨e,rfl⟩:=d;exact PySem.EqNone.ne_none_int (aI I q (by simp))
  |str j=>obtain⟨e,rfl⟩:=d;exact PySem.EqNone.ne_none_str (aI I q (by simp))
  |_=>exact absurd (show false=true from f) Jn
 |bl i=>
  cases g;cases y with
  |aL=>cases d;exact PySem.EqNone.ne_bool_none (aI I q (by simp))
  |bl j=>cases d;exact ne_bool (aI I q (GM not zN))
  |str j=>obtain⟨e,rfl⟩:=d;exact PySem.EqMixed.ne_bool_str (aI I q (by simp))
  |_=>exact absurd (show false=true from f) Jn
 |int i=>
  obtain⟨t,rfl⟩:=g;cases y with
  |aL=>cases d;exact PySem.EqNone.ne_int_none (aI I q (by simp))
  |int j=>obtain⟨e,rfl⟩:=d;exact ne_int (aI I q (GM not vJ))
  |str j=>obtain⟨e,rfl⟩:=d;exact PySem.EqMixed.ne_int_str (aI I q (by simp))
  |_=>exact absurd (show false=true from f) Jn
 |str i=>
  obtain⟨t,rfl⟩:=g;cases y with
  |aL=>cases d;exact PySem.EqNone.ne_str_none (aI I q (by simp))
  |bl j=>cases d;exact PySem.EqMixed.ne_str_bool (aI I q (by simp))
  |int j=>obtain⟨e,rfl⟩:=d;exact PySem.EqMixed.ne_str_int (aI I q (by simp))
  |str j=>obtain⟨e,rfl⟩:=d;exact ne_str (aI I q (GM not vK))
  |_=>exact absurd (show false=true from f) Jn
 |zm i=>
  obtain⟨t,rfl⟩:=g;cases y with
  |zm j=>obtain⟨e,rfl⟩:=d;exact PySem.W.ne_bytes (aI I q (GM not vL))
  |_=>exact absurd (show false=true from f) Jn
 |_=>cases y<;>exact absurd (show false=true from f) Jn
theorem M8:jf X (compareOp .Lt) (C3 λi j=>.bl (decide (i<j))):=C4 λ_ _ _ _ _ _ _ q=>lt_int q
theorem M9:jf X (compareOp .LtE) (C3 λi j=>.bl (decide (i<=j))):=C4 λ_ _ _ _ _ _ _ q=>le_int q
theorem Na:jf X (compareOp .Gt) (C3 λi j=>.bl (decide (j<i))):=C4 λ_ _ _ _ _ _ _ q=>gt_int q
theorem Nb:jf X (compareOp .GtE) (C3 λi j=>.bl (decide (j<=i))):=C4 λ_ _ _ _ _ _ _ q=>ge_int q
theorem Iz:jf X (compareOp .Is) (λx y H Q=>y=.aL/\Q (.bl (decide (x=.aL))) H):=by
 intro e s g H x y v u Q I d f h;obtain⟨rfl,q⟩:=h;cases f;refine is_none_gen (aI I q ?_);cases x<;>first
  |(cases d;rfl)
  |(obtain⟨t,rfl⟩:=d;rfl)
theorem C6:jf X (compareOp .IsNot) (λx y H Q=>y=.aL/\Q (.bl (!decide (x=.aL))) H):=by
 intro e s g H x y v u Q I d f h;obtain⟨rfl,q⟩:=h;cases f;refine isnot_none_gen (aI I q ?_);cases x<;>first
  |(cases d;rfl)
  |(obtain⟨t,rfl⟩:=d;rfl)
theorem zO(b:Expr){op:CmpOp}(h:op≠.In:=by decide)(d:op≠.NotIn:=by decide):behindInMarks op b=false:=by
 have f:(op==CmpOp.In)=false:=by cases op<;>first|rfl|exact absurd rfl h
 have e:(op==CmpOp.NotIn)=false:=by cases op<;>first|rfl|exact absurd rfl d
 cases b<;>simp[behindInMarks,f,e]
theorem kJ:(sizeLine:Nat)<2^63:=by rw[T1];decide
theorem uh:jf X (binaryOp .Add) (λx y H Q=>∃i j,x=.str i/\y=.str j/\i.length+j.length<=sizeLine/\Q (.str (i++j)) H):=by intro d s k H x y v u Q I g f h;obtain⟨i,j,rfl,rfl,hz,q⟩:=h;obtain⟨t,rfl⟩:=g;obtain⟨e,rfl⟩:=f;exact add_str (λe l=>⟨.str (i++j),H,I.tok _,⟨_,rfl⟩,q⟩) hz
theorem vals1{x:V}{d:List Value}(r:Vals [x] d):∃u,d=[u]/\RelV x u:=by
 cases r with
 |cons f e=>cases e;exact⟨_,rfl,f⟩
theorem vals2{x y:V}{e:List Value}(r:Vals [x,y] e):∃u d,e=[u,d]/\RelV x u/\RelV y d:=by
 cases r with
 |cons i h=>
  cases h with
  |cons g f=>cases f;exact⟨_,_,rfl,i,g⟩
theorem zP:bG X (.builtin "abs") (λd H Q=>∃i,d=[.int i]/\Q (.int (if i<0 then-i else i)) H):=by intro e s f H d g Q I r h;obtain⟨i,rfl,q⟩:=h;obtain⟨u,rfl,t,rfl⟩:=vals1 r;exact call_abs_int λu j=>⟨.int (if i<0 then-i else i),H,I.tok _,⟨_,rfl⟩,q⟩
theorem xW(g:X.calm=true):bG X (.builtin "max") (λe H Q=>∃i j,e=[.int i,.int j]/\Q (.int (if j>i then j else i)) H):=by
 intro f s l H e n Q I r h;obtain⟨i,j,rfl,q⟩:=h;obtain⟨u,m,rfl,⟨t,rfl⟩,⟨p,rfl⟩⟩:=vals2 r;refine max_two_ints (I.ok.hd g) λv o k=>⟨_,H,I.kept k,?_,q⟩;by_cases d:j>i
 .rw[Bz d,Bz d];exact⟨_,rfl⟩
 .rw[Bi d,Bi d];exact⟨_,rfl⟩
theorem xX(g:X.calm=true):bG X (.builtin "min") (λe H Q=>∃i j,e=[.int i,.int j]/\Q (.int (if j<i then j else i)) H):=by
 intro f s l H e n Q I r h;obtain⟨i,j,rfl,q⟩:=h;obtain⟨u,m,rfl,⟨t,rfl⟩,⟨p,rfl⟩⟩:=vals2 r;refine min_two_ints (I.ok.hd g) λv o k=>⟨_,H,I.kept k,?_,q⟩;by_cases d:j<i
 .rw[Bz d,Bz d];exact⟨_,rfl⟩
 .rw[Bi d,Bi d];exact⟨_,rfl⟩
theorem xY:bG X (.type "int") (λd H Q=>(∃i,d=[.int i]/\Q (.int i) H)\/∃k,d=[.bl k]/\Q (.int (if k then 1 else 0)) H):=by
 intro e s g H d j Q I r h;rcases h with⟨i,rfl,q⟩|⟨k,rfl,q⟩
 .obtain⟨u,rfl,t,rfl⟩:=vals1 r;exact call_int_int ⟨.int i,H,I,⟨_,rfl⟩,q⟩
 .obtain⟨u,rfl,f⟩:=vals1 r;cases f;exact call_int_bool ⟨.int (if k then 1 else 0),H,I.tok _,⟨_,rfl⟩,q⟩
theorem rJ:bG X (.builtin "divmod") (λd H Q=>∃i j,d=[.int i,.int j]/\Q2 i j/\∀p,H p=none->Q (.ref p) (upd H p (.tup [.int (i/j),.int (i%j)]))):=by intro f s k H d m Q I r h;obtain⟨i,j,rfl,⟨w,v⟩,q⟩:=h;obtain⟨u,l,rfl,⟨t,rfl⟩,⟨n,rfl⟩⟩:=vals2 r;refine divmod_int (by lia) ?_ (.inl (Sh (by lia)));rw[W7 i (by lia),Ki i (by lia)];have g:H s.heap.objs.size=none:=I.hok.fresh (BM _);refine⟨.ref s.heap.objs.size,_,?_,rfl,q _ g⟩;refine I.laid (λb o e=>D1 _ e) (BM _) ⟨by simp only[Eb,ML];rw[T1];decide,[.int (i/j) s.toks,.int (i%j) (s.toks+1)],.cons ⟨_,rfl⟩ (.cons ⟨_,rfl⟩ .nil),?_⟩;exact⟨_,Fn s.heap rfl,rfl,0,rfl⟩
end
structure C7(h:Heap)(x dx C:Addr)(mA:Str->Option Value):Prop where
 obj:h.get? x=some (instObj C dx)
 ns:h.Ns1 dx mA
 ne:dx≠x
theorem xZ{h:Heap}{i:Addr}{f:Str->Option Value}(n:h.Ns1 i f):∃d,h.get? i=some d/\∀b,lookIn b d=some (f b):=by
 obtain⟨o,g,s,k,p,m,_,l⟩:=n;refine⟨o,k,λb=>?_⟩;have e:=l b;unfold nsFind findBy at e;rw[<-Array.find?_toList]at e;unfold lookIn;rw[p];dsimp only;split
 .rename_i y q
  rw[q]at e;exact GM some e
 .rename_i q
  rw[q]at e;have a:g.toList.any (·.refKey)=false:=by rw[List.any_eq_false];intro y j;obtain⟨z,t,c⟩:=m y (Array.mem_toList_iff.mp j);simp[DictEntry.refKey,c]
  have r:¬g.toList.any (·.refKey)=true:=by rw[a];exact Jn
  rw[Bi r];exact GM some e
theorem C7.look{h:Heap}{x d C:Addr}{c:Str->Option Value}(I:C7 h x d C c):∃b,PySem.W.InstAt h x (instObj C d) C (some b)/\∀a,lookIn a b=some (c a):=
 let⟨b,ho,hl⟩:=xZ I.ns
 ⟨b,⟨I.obj,rfl,rfl,ho⟩,hl⟩
section
variable{prog:Program}{w:World}{A:Around}{E:Value->Shared->Prop}{s:Shared}{K:Frag}{x dx C f:Addr}{mA:Str->Option Value}{name:Str}{v:Value}
theorem get_map{a:Bool}{Q:Value->Shared->Prop}(X:K.In s.heap)(I:C7 s.heap x dx C mA)(g:plainGet K C name=true)(e:PySem.W.hasDictIn K C=true)
 (i:findIn K (.ref C) name=some none)(c:mA name=some v)(b:PySem.W.handedIn v=true)(h:Q v {s with toks:=s.toks+1}):
 wpAny (model prog w) A (getAttr (.ref x) name a) Q E s:=by
 obtain⟨j,J,d⟩:=I.look;exact PySem.W.get_value X J (PySem.W.plainGet_of g).1 (PySem.W.findObj_own e i rfl (by rw[d,c])) b h
theorem zQ{R:Result->Shared->Prop}{vs:List Value}{b:List (Str×Value)}(X:K.In s.heap)(c:PySem.W.makesIn K C=true)
 (e:findIn K (.ref C) "__init__"=some (some (.ref f)))(i:PySem.W.typeIn K (.ref f)=some (.type "function"))
 (h:codeAny (model prog w) (A.under (.builtin "type.__call__" ⟨.ref C::vs,b⟩)) (.call (.ref f) ⟨.ref (s.heap.objs.size+1)::vs,b⟩) (PySem.W.InitBack (s.heap.objs.size+1) R)
   {s with heap:=(s.heap.push emptyDict).push (instObj C s.heap.objs.size)}):
 codeAny (model prog w) A (.call (.ref C) ⟨vs,b⟩) R s:=by
 obtain⟨k,g,d,t,j⟩:=s;exact PySem.W.make_core (PySem.W.makes_of X c) (PySem.W.looks_findIn X e) (λa=>PySem.W.bind_fn X a i) (.inl rfl) h
end
theorem ic.some_of{v:V}{o:Option Value}(r:ic (some v) o):∃u,o=some u/\RelV v u:=by
 cases o with
 |none=>exact(show False from r).elim
 |some u=>exact⟨u,rfl,r⟩
theorem x6{v:V}{u:Value}(r:RelV v u):PySem.W.handedIn u=true:=by
 cases v with
 |aL=>cases(show u=Value.none from r);rfl
 |bl b=>cases(show u=Value.bool b from r);rfl
 |int i=>obtain⟨t,e⟩:=(show∃t,u=Value.int i t from r);cases e;rfl
 |str x=>obtain⟨t,e⟩:=(show∃t,u=Value.str x t from r);cases e;rfl
 |zm b=>obtain⟨t,e⟩:=(show∃t,u=Value.bytes b t from r);cases e;rfl
 |HK b=>obtain⟨t,e⟩:=(show∃t,u=Value.float b t from r);cases e;rfl
 |ref a=>cases(show u=Value.ref a from r);rfl
 |ty n=>cases(show u=Value.type n from r);rfl
section
variable{P:Program}{w:World}{H H':Hp}{h h':Heap}{a C dx:Addr}{fs fs':List (Str×V)}
theorem vM(c:fS P w H h)(e:H a=some (.ins C dx fs)):∃b,C7 h a dx C b/\(∀f,ic (fs.lookup f) (b f))/\PySem.Within b (fs.map (·.1))/\fs.length<=1000/\H dx=some (.own a):=by obtain⟨d,z,i,g,b,n,r,q⟩:=(show aT P w H h a (.ins C dx fs)from c a _ e);exact⟨b,⟨g,n,i⟩,r,q,z,d⟩
end
structure L7(K:Frag)(C:Addr):Prop where
 pg:plainGet K C Str.empty=true
 hd:PySem.W.hasDictIn K C=true
 po:PySem.W.plainOver K C=true
 sa:findIn K (.ref C) "__setattr__"=some (some (.builtin "object.__setattr__"))
theorem L7.get{K:Frag}{C:Addr}(c:L7 K C)(f:Str):plainGet K C f=true:=c.pg
noncomputable def um(K:Frag)(C:Addr)(f:Str):Prop:=findIn K (.ref C) f=some none
structure Meth(K:Frag)(C:Addr)(m:Str)(f:Addr):Prop where
 at_:findIn K (.ref C) m=some (some (.ref f))
 fn:isFn K (.ref f)=true
 kp:keepIn K (.ref f)=true
section
variable{X:Cx}{pins:List (Addr×Obj)}{σ:St}{H:Hp}{s:Shared}{a C dx:Addr}{fs:List (Str×V)}{f:Str}{v:V}{A:Around}{E:Value->Shared->Prop}
theorem uo{b:Bool}{Q:Value->Shared->Prop}(I:Inv X pins σ H s)(e:H a=some (.ins C dx fs))(c:L7 X.K C)(n:um X.K C f)(l:fs.lookup f=some v)
 (h:∀u s',Inv X pins σ H s'->RelV v u->Q u s'):wpAny (model X.prog X.w) A (getAttr (.ref a) f b) Q E s:=by
 obtain⟨g,O,r,_,_,_⟩:=vM I.hok e;obtain⟨u,i,d⟩:=ic.some_of (v:=v) (o:=g f) (by rw[<-l];exact r f);exact get_map I.kG O (c.get f) c.hd n i (x6 d) (h u _ (I.tok _) d)
theorem Inv.made(I:Inv X pins σ H s):Inv X pins σ (upd (upd H s.heap.objs.size (.own (s.heap.objs.size+1))) (s.heap.objs.size+1) (.ins C s.heap.objs.size []))
 {s with heap:=(s.heap.push emptyDict).push (instObj C s.heap.objs.size)}:=by
 have d:(s.heap.push emptyDict).get? s.heap.objs.size=some emptyDict:=Fn s.heap rfl;have j:((s.heap.push emptyDict).push (instObj C s.heap.objs.size)).get? (s.heap.objs.size+1)=some (instObj C s.heap.objs.size):=by have:=Fn (s.heap.push emptyDict) (o:=instObj C s.heap.objs.size) rfl;rwa [Heap.size_push]at this
 have i:(s.heap.push emptyDict).Ns s.heap.objs.size (λ_=>none):=⟨emptyDict,#[],_,d,rfl,(λe h=>absurd h (by simp)),λ_=>rfl⟩;have I1:=I.laid (a:=s.heap.objs.size) (o:=.own (s.heap.objs.size+1)) (h':=s.heap.push emptyDict) (t':=s.toks) (λb u q=>D1 _ q) (BM _) ⟨_,d⟩;refine I1.laid (a:=s.heap.objs.size+1) (o:=.ins C s.heap.objs.size []) (t':=s.toks) (λb u q=>D1 _ q) (WA (Heap.size_push _ _)) ?_;have c:s.heap.objs.size≠s.heap.objs.size+1:=Ha (W8 _);refine⟨by rw[ay c,aJ],KE _,c,j,λ_=>none,(Heap.Ns1.of_empty i).at λo q=>D1 _ q,λ_=>Ma,λy g=>absurd rfl g⟩
theorem C8{prog:Program}{w:World}{env:Env}{e:Expr}{f:Str}{pos:Pos}{s:Shared}{Q:Value->Shared->Prop}(c:attributeBase e f env (eval e env)=eval e env)
 (h:wpAny (model prog w) A (eval e env) (λo b=>wpAny (model prog w) A (getAttr o f true) Q E b) E s):wpAny (model prog w) A (eval (.Attribute e f pos) env) Q E s:=
 Attribute_any_ h (by rw[arm_eval_Attribute,c])
end
noncomputable def Q3(K:Frag)(ta:TE)(f:Str):TE:=λd H Q=>ta d H λx c=>∃a C e b v,x=.ref a/\c a=some (.ins C e b)/\L7 K C/\um K C f/\b.lookup f=some v/\Q v c
section
variable{X:Cx}{o e value:Expr}{f:Str}{pos pos' tpos:Pos}{ta tv:TE}
theorem IA(he:PE X e ta)(j:attributeBase e f X.env (eval e X.env)=eval e X.env):PE X (.Attribute e f pos) (Q3 X.K ta f):=by intro b s d H Q I h;refine C8 j (bD (he b s d H _ I h) λu w hz=>?_);obtain⟨x,p,I1,g,a,C,z,y,v,ex,k,c,n,l,q⟩:=hz;subst ex;obtain rfl:u=Value.ref a:=g;exact uo I1 k c n l λr t m i=>⟨v,p,m,i,q⟩
end
section
variable{X:Cx}{pins:List (Addr×Obj)}{σ:St}{H:Hp}{s:Shared}{A:Around}{E:Value->Shared->Prop}{Q:Value->Shared->Prop}{c:Value}{b:Bool}
inductive jU(K:Frag)(H:Hp):V->Value->Prop where
 |aL:jU K H .aL (.type "NoneType")
 |bl (x:Bool):jU K H (.bl x) (.type "bool")
 |int (i:Int):jU K H (.int i) (.type "int")
 |str (x:Str):jU K H (.str x) (.type "str")
 |HK (x:UInt64):jU K H (.HK x) (.type "float")
 |lst {a:Addr} {xs:List V} (e:H a=some (.lst xs)):jU K H (.ref a) (.type "list")
 |rD {a:Addr} {o:Obj} {xs:List V} (e:H a=some (.rD o (.lst xs))):jU K H (.ref a) (.type "list")
 |tup {a:Addr} {xs:List V} (e:H a=some (.tup xs)):jU K H (.ref a) (.type "tuple")
 |dK {a:Addr} {kvs:List (Key×V)} (e:H a=some (.dK kvs)):jU K H (.ref a) (.type "dict")
 |dT {a:Addr} {kvs:List (List Key×V)} (e:H a=some (.dT kvs)):jU K H (.ref a) (.type "dict")
 |ins {a C dx:Addr} {fs:List (Str×V)} (e:H a=some (.ins C dx fs)) (cl:L7 K C) (ha:findIn K (.ref C) "__class__"=some (some (.builtin "object.__class__")))
   (hn:PySem.W.specialIn K (.builtin "object.__class__") "__get__"=some (some (.builtin "getset_descriptor.__get__"))) (htk:PySem.W.takesIn K (.builtin "object.__class__")=some true)
   (hm:mroIn K C (.type "object")=some true):jU K H (.ref a) (.ref C)
theorem dh{x:V}{u t:Value}(I:Inv X pins σ H s)(d:RelV x u)(v:jU X.K H x t)(e:kitOne X.K t c=some b)(h:∀B,Q (.bool b) {s with toks:=B}):
 wpAny (model X.prog X.w) A (call (.builtin "isinstance") [u,c]) Q E s:=by
 cases v with
 |aL=>cases(show u=Value.none from d);exact P2 PySem.W.kitx_none I.kG Ma e (λz=>nomatch z) h
 |bl y=>cases(show u=Value.bool y from d);exact P2 PySem.W.kitx_bool I.kG Ma e (λz=>nomatch z) h
 |int i=>obtain⟨t,q⟩:=(show∃t,u=Value.int i t from d);cases q;exact P2 PySem.W.kitx_int I.kG Ma e (λz=>nomatch z) h
 |str y=>obtain⟨t,q⟩:=(show∃t,u=Value.str y t from d);cases q;exact P2 PySem.W.kitx_str I.kG Ma e (λz=>nomatch z) h
 |HK y=>obtain⟨t,q⟩:=(show∃t,u=Value.float y t from d);cases q;exact P2 PySem.W.kitx_float I.kG Ma e (λz=>nomatch z) h
 |@lst a k f=>
  cases(show u=Value.ref a from d);obtain⟨_,_,n,_,g⟩:=(show aT X.prog X.w H s.heap a (.lst k)from I.hok a _ f);exact P2 PySem.W.kitx_list I.kG ⟨_,g,rfl⟩ e (λz=>nomatch z) h
 |@rD a D k f=>
  cases(show u=Value.ref a from d);obtain⟨_,_,_,n,_,g⟩:=(show aT X.prog X.w H s.heap a (.rD D (.lst k))from I.hok a _ f);exact P2 PySem.W.kitx_list I.kG ⟨_,g,rfl⟩ e (λz=>nomatch z) h
 |@tup a k f=>
  cases(show u=Value.ref a from d);obtain⟨_,_,_,p⟩:=(show aT X.prog X.w H s.heap a (.tup k)from I.hok a _ f);obtain⟨o,g,l,_⟩:=p;exact P2 PySem.W.kitx_tuple I.kG ⟨o,g,l⟩ e (λz=>nomatch z) h
 |@dK a j f=>
  cases(show u=Value.ref a from d);obtain⟨_,_,R,_,p⟩:=(show aT X.prog X.w H s.heap a (.dK j)from I.hok a _ f);obtain⟨o,N,P,g,l,_⟩:=p;exact P2 PySem.W.kitx_dict I.kG ⟨o,g,l.1⟩ e (λz=>nomatch z) h
 |@dT a j f=>
  cases(show u=Value.ref a from d);obtain⟨_,_,k,_,o,N,P,g,l,_⟩:=(show aT X.prog X.w H s.heap a (.dT j)from I.hok a _ f);exact P2 PySem.W.kitx_dict I.kG ⟨o,g,l.1⟩ e (λz=>nomatch z) h
 |@ins a C Y U f r M G m L=>
  cases(show u=Value.ref a from d);obtain⟨T,O,_⟩:=vM I.hok f;obtain⟨S,J,_⟩:=O.look;exact P2 (PySem.W.kitx_own (r.get _) r.hd M G m L) I.kG J e (λz=>nomatch z) h
end
structure bX(k:Nat)(A:Around):Prop where
 hd:A.handled=none
 dp:A.depth+3*k+120<recursionLimit
 un:A.units+16*k+200<cLine
theorem bX.mono{j k:Nat}{A:Around}(r:bX k A)(h:j<=k):bX j A:=⟨r.hd,by have:=r.dp;lia,by have:=r.un;lia⟩
theorem bX.deeper{k:Nat}{A:Around}(r:bX (k+1) A)(env:Env):bX k (A.deeper env):=
 ⟨r.hd,by have:=r.dp;show A.depth+1+3*k+120<_;lia,by have:=r.un;show A.units+3+16*k+200<_;lia⟩
theorem bX.in1{k:Nat}{A:Around}(r:bX (k+1) A):bX k A.in1:=
 ⟨r.hd,by have:=r.dp;show A.depth+3*k+120<_;lia,by have:=r.un;show A.units+1+16*k+200<_;lia⟩
theorem uq{A:Around}{C:Addr}{a:List Value}{b:List (Str×Value)}:(A.under (.builtin "type.__call__" ⟨.ref C::a,b⟩)).depth=A.depth+1:=by first|rfl|simp[Around.under,Code.weight,Code.isCreation,Code.isGuard,Code.isCaller,Code.frames,Code.isFrame,guardIds]
theorem ur{A:Around}{C:Addr}{a:List Value}{b:List (Str×Value)}:(A.under (.builtin "type.__call__" ⟨.ref C::a,b⟩)).units=A.units+1:=by first|rfl|simp[Around.under,Code.cUnits,Code.frames,Code.isFrame]
theorem bX.make{k:Nat}{A:Around}(r:bX (k+1) A)(C:Addr)(a:List Value)(b:List (Str×Value)):bX k (A.under (.builtin "type.__call__" ⟨.ref C::a,b⟩)):=
 ⟨r.hd,by have:=r.dp;rw[uq];lia,by have:=r.un;rw[ur];lia⟩
theorem bX.depth{k:Nat}{A:Around}(r:bX k A):A.depth<recursionLimit:=by have:=r.dp;lia
theorem bX.units{k:Nat}{A:Around}(r:bX k A):A.units+64<cLine:=by have:=r.un;lia
noncomputable def zR:TA:=λ_ H Q=>Q [] H
noncomputable def rK(ta:TE)(tr:TA):TA:=λa H Q=>ta a H λx d=>tr a d λb c=>Q (x::b) c
section
variable{X:Cx}{e:Expr}{es:List Expr}{te:TE}{t:TA}{pos:Pos}
theorem cj:PA X [] zR:=λ_ _ _ _ H Q I h=>Calls.spliced_nil ⟨[],H,I,.nil,h⟩
theorem aW(m:PE X e te)(l:PA X es t)(k:starEach (e::es) X.env=(false,eval e X.env)::starEach es X.env:=by rfl):PA X (e::es) (rK te t):=by intro pos a s b H Q I h;rw[k];show wpAny _ _ (spliced ((false,eval e X.env)::backTo pos (starEach es X.env))) _ _ s;refine XE (bD (m a s b H _ I h) λu d ⟨x,p,I1,g,j⟩=>?_);exact bD (l pos a d b p _ I1 j) λq r ⟨c,o,n,f,i⟩=>⟨x::c,o,n,.cons g f,i⟩
noncomputable def Q4(t:TA):TE:=λc H Q=>t c H λa b=>a.length<=sizeLine/\∀p,b p=none->Q (.ref p) (upd b p (.tup a))
noncomputable def Q5(t:TA):TE:=λc H Q=>t c H λa b=>a.length<=sizeLine/\∀p,b p=none->Q (.ref p) (upd b p (.lst a))
theorem uu{i}(h:PA X es t):PE X (.Tuple es i pos) (Q4 t):=by intro a s f H Q I k;refine wpAny_Tuple_spliced (bD (h pos a s f H _ I k) λj c ⟨g,d,I1,r,z,q⟩=>⟨by rw[<-r.length];exact z,?_⟩);have l:d c.heap.objs.size=none:=I1.hok.fresh (BM _);refine⟨.ref c.heap.objs.size,upd d c.heap.objs.size (.tup g),I1.laid (t':=c.toks) (λb u e=>D1 _ e) (BM _) ?_,rfl,q _ l⟩;exact⟨z,j,r,⟨_,Fn _ rfl,rfl,_,rfl⟩⟩
theorem zS(h:PA X es t):PE X (.List es pos) (Q5 t):=by intro a s f H Q I j;refine wpAny_List_spliced (bD (h pos a s f H _ I j) λi c ⟨g,d,I1,r,z,q⟩=>⟨by rw[<-r.length];exact z,?_⟩);have k:d c.heap.objs.size=none:=I1.hok.fresh (BM _);refine⟨.ref c.heap.objs.size,upd d c.heap.objs.size (.lst g),I1.laid (t':=c.toks) (λb u e=>D1 _ e) (BM _) ?_,rfl,q _ k⟩;exact⟨z,i,0,r,Fn _ rfl⟩
end
abbrev Sp:=List V->Hp->VK->XK->Prop
abbrev x8:=List Env->Hp->Shared->XK->Value->Shared->Prop
structure m7(P:Program)(w:World)(K:Frag)(mg:Str->Option Value)(base:Heap)(A:Around)(outer:List Env)(s:Shared)(H:Hp):Prop where
 frames:A.frames=some outer
 mod:Mod K mg base
 bs:∀b o,base.get? b=some o->s.heap.get? b=some o/\H b=none
 CJ:base.objs.size<=s.heap.objs.size
 je:s.heap.FunFrames base outer
 Gr:∀b∈frs outer,H b=none
 hok:fS P w H s.heap
 bare:AllBare s.gens
 tree:P.given.tree=none
noncomputable def CE(a:List Env)(P:Program)(w:World)(H:Hp)(s:Shared)(Q:VK)(u:Value)(s':Shared):Prop:=
 ∃v b,s'.os=s.os/\AllBare s'.gens/\Un (frs a) [] H b s.heap s'.heap/\fS P w b s'.heap/\RelV v u/\Q v b
noncomputable def CR(CX:x8)(a:List Env)(P:Program)(w:World)(H:Hp)(s:Shared)(Q:VK)(E:XK)(r:Result)(s':Shared):Prop:=
 match r with
 |.ok (.ret u)=>CE a P w H s Q u s'
 |.ok _=>False
 |.error e=>CX a H s E e s'
structure bK(P:Program)(w:World)(K:Frag)(mg:Str->Option Value)(base:Heap)(CX:x8)(k:Nat)(f:Addr)(fd:FuncData)(ps:List Str)(sp:Sp):Prop where
 len:∀vs H Q E,sp vs H Q E->vs.length=ps.length
 run:∀(A:Around)(outer:List Env)(s:Shared)(H:Hp)(args:Args)(us:List Value)(vs:List V)(Q:VK)(E:XK),bX k A->m7 P w K mg base A outer s H->BindsTo s fd args (ps.zip us)->Vals vs us->sp vs H Q E->
  codeAny (model P w) A (.call (.ref f) args) (CR CX outer P w H s Q E) s
theorem bK.imp{P:Program}{w:World}{K:Frag}{d:Str->Option Value}{base:Heap}{CX:x8}{k:Nat}{f:Addr}{e:FuncData}{c:List Str}{sp g:Sp}(F:bK P w K d base CX k f e c sp)
 (h:∀vs H Q E,g vs H Q E->sp vs H Q E):bK P w K d base CX k f e c g:=
 ⟨λvs H Q E q=>F.len vs H Q E (h _ _ _ _ q),λA a s H b i vs Q E m n o j l=>F.run A a s H b i vs Q E m n o j (h _ _ _ _ l)⟩
theorem m7.make{P:Program}{w:World}{K:Frag}{b:Str->Option Value}{base:Heap}{A:Around}{a:List Env}{s:Shared}{H:Hp}(e:m7 P w K b base A a s H)(C:Addr)(c:List Value)(d:List (Str×Value)):
 m7 P w K b base (A.under (.builtin "type.__call__" ⟨.ref C::c,d⟩)) a s H:=⟨by first|exact e.frames|(simpa[Around.under,Code.envs,Code.isFrame,pushEnvs]using e.frames),e.mod,e.bs,e.CJ,e.je,e.Gr,e.hok,e.bare,e.tree⟩
theorem m7.in1{P:Program}{w:World}{K:Frag}{b:Str->Option Value}{base:Heap}{A:Around}{a:List Env}{s:Shared}{H:Hp}(e:m7 P w K b base A a s H):
 m7 P w K b base A.in1 a s H:=⟨e.frames,e.mod,e.bs,e.CJ,e.je,e.Gr,e.hok,e.bare,e.tree⟩
section
variable{X:Cx}{pins:List (Addr×Obj)}{σ:St}{H:Hp}{s s':Shared}
theorem Inv.IB(I:Inv X pins σ H s):m7 X.prog X.w X.K X.mg X.base X.A X.stack s H:=
 ⟨I.ok.frames,I.ok.mod,I.bs,Hm I.ok.CJ I.sz,I.stack,I.ig,I.hok,I.bare,I.ok.tree⟩
theorem Inv.after{Q:VK}{u:Value}(I:Inv X pins σ H s)(h:CE X.stack X.prog X.w H s Q u s'):EP X pins σ Q u s':=by obtain⟨v,j,os,a,f,e,r,q⟩:=h;obtain⟨i,g,d,t,c⟩:=s';obtain rfl:c=s.os:=os;exact⟨v,j,I.call (h':=i) (g':=g) (d':=d) (t':=t) (ch:=[]) f e a (λb z=>absurd z (by simp)),r,q⟩
end
noncomputable def Binds(K:Frag)(c:FuncData)(b:List Str)(ds:List Value):Prop:=
 ∀(s:Shared)(a:List Value),K.In s.heap->(a++ds).length=b.length->BindsTo s c ⟨a,[]⟩ (b.zip (a++ds))
theorem Binds.all{K:Frag}{d:FuncData}{b:List Str}(h:∀a:List Value,a.length=b.length->bindArgs d ⟨a,[]⟩=pure (b.zip a)):Binds K d b []:=λs a _ c=>by rw[Qb]at c⊢;exact .of_eq (h a c)
noncomputable def Passes(CX:x8)(X:Cx)(E:XK):Prop:=∀(a:List (Addr×Obj))(c:St)(H:Hp)(s:Shared)(e:Value)(b:Shared),Inv X a c H s->CX X.stack H s E e b->X.xe e b
section
variable{X:Cx}{CX:x8}{k:Nat}{f C:Addr}{fd:FuncData}{ps:List Str}{sp:Sp}{C9:List V}{ds:List Value}{E:XK}{x m:Str}{p pos apos:Pos}{e o:Expr}{es:List Expr}{ta:TE}{t:TA}
theorem IC{a:List (Addr×Obj)}{d:St}{H:Hp}{s:Shared}{Q:VK}{b:List Value}{vs:List V}(F:bK X.prog X.w X.K X.mg X.base CX k f fd ps sp)(l:bX k X.A)(v:Binds X.K fd ps ds)(q:Vals C9 ds)(j:Passes CX X E)
 (I:Inv X a d H s)(r:Vals vs b)(h:sp (vs++C9) H Q E):wpAny (model X.prog X.w) X.A (call (.ref f) b) (EP X a d Q) X.xe s:=by
 have g:Vals (vs++C9) (b++ds):=r.append q;have n:(b++ds).length=ps.length:=by rw[<-g.length];exact F.len _ _ _ _ h
 refine wpAny_call (WX (F.run X.A X.stack s H ⟨b,[]⟩ (b++ds) (vs++C9) Q E l I.IB (v s b I.kG n) g h) λr i c=>?_);cases r with
 |error e=>exact j a d H s e i I c
 |ok fl=>
  cases fl with
  |ret u=>exact I.after c
  |next=>exact HP c
  |brk=>exact HP c
  |cont=>exact HP c
structure Mk(K:Frag)(C f:Addr):Prop where
 makes:PySem.W.makesIn K C=true
 init:findIn K (.ref C) "__init__"=some (some (.ref f))
 fn:isFn K (.ref f)=true
 kp:keepIn K (.ref C)=true
theorem zT{a:List (Addr×Obj)}{i:St}{H:Hp}{s:Shared}{Q:VK}{c:List Value}{vs:List V}(M:Mk X.K C f)(F:bK X.prog X.w X.K X.mg X.base CX k f fd ps sp)(z:bX (k+1) X.A)(G:Binds X.K fd ps ds)(D:Vals C9 ds)
 (y:Passes CX X E)(I:Inv X a i H s)(r:Vals vs c)
 (h:∀x d,H x=none->H d=none->d≠x->sp (.ref x::(vs++C9)) (upd (upd H d (.own x)) x (.ins C d [])) (λv L=>v=.aL/\Q (.ref x) L) E):
 wpAny (model X.prog X.w) X.A (call (.ref C) c) (EP X a i Q) X.xe s:=by
 have l:=h (s.heap.objs.size+1) s.heap.objs.size (I.hok.fresh (Xy _)) (I.hok.fresh (BM _)) (Ha (W8 _));have g:=Inv.made (C:=C) I;have j:Vals (V.ref (s.heap.objs.size+1)::(vs++C9)) (Value.ref (s.heap.objs.size+1)::(c++ds)):=.cons rfl (r.append D);have B:(Value.ref (s.heap.objs.size+1)::c++ds).length=ps.length:=by have e:=j.length;rw[F.len _ _ _ _ l]at e;exact e.symm
 refine wpAny_call (zQ (f:=f) I.kG M.makes M.init (Pm.mp M.fn) (WX (F.run _ X.stack _ _ ⟨Value.ref (s.heap.objs.size+1)::c,[]⟩ (Value.ref (s.heap.objs.size+1)::(c++ds)) _ _ E (z.make C c [])
  (g.IB.make C c []) (G _ (Value.ref (s.heap.objs.size+1)::c) g.kG B) j l) λr n b=>?_))
 cases r with
 |error e=>exact y a i _ _ e n g b
 |ok fl=>
  cases fl with
  |ret u=>obtain⟨v,N,J,rv,ev,q⟩:=g.after b;subst ev;exact⟨rv,⟨V.ref (s.heap.objs.size+1),N,J,rfl,q⟩⟩
  |next=>exact HP b
  |brk=>exact HP b
  |cont=>exact HP b
end
noncomputable def PK(X:Cx)(d:List Keyword)(t:TA):Prop:=
 ∀(c:Pos)(a:List (Addr×Obj))(s:Shared)(b:St)(H:Hp)(Q:List V->Hp->Prop),Inv X a b H s->t b H Q->wpAny (model X.prog X.w) X.A (evalAll ((backToKw c (keywordEach d X.env)).map (·.2))) (AP X a b Q) X.xe s
section
variable{X:Cx}{CX:x8}{k:Nat}{f C:Addr}{fd:FuncData}{ps ks:List Str}{sp:Sp}{E:XK}{x m:Str}{p pos apos kpos:Pos}{e o:Expr}{es:List Expr}{kws:List Keyword}{te ta:TE}{t tk:TA}{nm:Option Str}
theorem ID:PK X [] zR:=λ_ _ _ _ H Q I h=>wpAny_evalAll_nil ⟨[],H,I,.nil,h⟩
theorem Dc(q:PE X e te)(n:PK X kws t):PK X (⟨nm,e,kpos⟩::kws) (rK te t):=by intro pos a s b H Q I h;show wpAny _ _ (evalAll ((do let v<-eval e X.env;standAt pos;pure v)::(backToKw pos (keywordEach kws X.env)).map (·.2))) _ _ s;refine wpAny_evalAll_cons (D2 (bD (q a s b H _ I h) λu d ⟨x,y,I1,i,l⟩=>D2 (X1 (Hn ?_))));exact bD (n pos a d b y _ I1 l) λz A ⟨c,w,r,g,j⟩=>⟨x::c,w,r,.cons i g,j⟩
variable{g:List Value->List Value->List Value}{gV:List V->List V->List V}
end
structure fq(N P:List Str)(sc:Scope):Prop where
 kind:sc.kind=.function
 co:sc.isCoroutine=false
 gen:sc.isGenerator=false
 nd:N.Nodup
 pre:N.take P.length=P
 par:∀x∈P,sc.names.lookup x=some .local\/sc.names.lookup x=some .cell
 IE:∀y∈sc.names,y.2≠.free
theorem nQ{b:Str->Option NameKind}{x:Str}:∀{a:List (Str×Value)}{m:Str->Option Value},(∀v,(x,v)∉a)->bindL b a m x=m x
 |[],_,_=>rfl
 |(n,v)::r,m,h=>by
  unfold bindL;rw[nQ λw c=>h w (Dx _ c)];split
  .have:x≠n:=by rintro rfl;exact h v Da
   simp[this]
  .rfl
theorem nR{b:Str->Option NameKind}{x:Str}:∀{a:List (Str×Value)}{m:Str->Option Value},(∀v,(x,v)∉a)->bindC b a m x=m x
 |[],_,_=>rfl
 |(n,v)::r,m,h=>by
  unfold bindC;rw[nR λw c=>h w (Dx _ c)];split
  .rfl
  .have:x≠n:=by rintro rfl;exact h v Da
   simp[this]
theorem nT{a:Str->Option NameKind}{x:Str}{v:Value}:∀{P:List Str}{vs:List Value}{i:Nat}{m:Str->Option Value},P.Nodup->P[i]?=some x->vs[i]?=some v->a x=some .local->
 bindL a (P.zip vs) m x=some v
 |[],_,_,_,_,h,_,_=>by simp at h
 |_::_,[],_,_,_,_,h,_=>by simp at h
 |p::P,w::vs,0,m,d,c,b,e=>by simp at c b;subst c;subst b;show bindL a ((p,w)::P.zip vs) m p=_;unfold bindL;rw[nQ λv f=>(Pv.mp d).1 (Rx f).1,Bz e];simp
 |p::P,w::vs,i+1,m,d,c,b,e=>by show bindL a ((p,w)::P.zip vs) m x=_;unfold bindL;exact nT (i:=i) (Pv.mp d).2 (by simpa using c) (by simpa using b) e
theorem nU{a:Str->Option NameKind}{x:Str}{v:Value}:∀{P:List Str}{vs:List Value}{i:Nat}{m:Str->Option Value},P.Nodup->P[i]?=some x->vs[i]?=some v->a x≠some .local->
 bindC a (P.zip vs) m x=some v
 |[],_,_,_,_,h,_,_=>by simp at h
 |_::_,[],_,_,_,_,h,_=>by simp at h
 |p::P,w::vs,0,m,d,c,b,e=>by simp at c b;subst c;subst b;show bindC a ((p,w)::P.zip vs) m p=_;unfold bindC;rw[nR λv f=>(Pv.mp d).1 (Rx f).1,Bi e];simp
 |p::P,w::vs,i+1,m,d,c,b,e=>by show bindC a ((p,w)::P.zip vs) m x=_;unfold bindC;exact nU (i:=i) (Pv.mp d).2 (by simpa using c) (by simpa using b) e
noncomputable def start(N:List Str)(vs:List V):St:=vs.map some++Ds (N.length -vs.length) none
noncomputable def x9(CX:x8)(P:Program)(w:World)(K:Frag)(mg:Str->Option Value)(base:Heap)(N:List Str)(b:Str)(a:Scope)(f:Addr)(d:Value)(A:Around)(outer:List Env)(s:Shared)(H:Hp)(E:XK):Cx where
 prog:=P
 w:=w
 K:=K
 mg:=mg
 base:=base
 A:=A.deeper (envOfC b a s.heap.objs.size f d)
 N:=N
 s₀:=s
 H₀:=H
 env:=envOfC b a s.heap.objs.size f d
 outer:=outer
 stack:=envOfC b a s.heap.objs.size f d::outer
 ex:=[]
 calm:=true
 fn:=λ_=>true
 pn:=[]
 xe:=λe g=>wpAny (model P w) (A.deeper (envOfC b a s.heap.objs.size f d)) (leaving (envOfC b a s.heap.objs.size f d) e) (λ_ c=>CX outer H s E e c) (λh c=>CX outer H s E h c) g
theorem rL{sc:Scope}{n:Nat}{x:Str}(h:sc.names.lookup x=some .cell):∃c,(cellsFrom n sc.names []).lookup x=some c:=by have q:=PySem.W.cellsFrom_some sc.names n [] (.inl h);exact WD.mp q
theorem ya{CX:x8}{P:Program}{w:World}{K:Frag}{L:Str->Option Value}{base:Heap}{N o:List Str}{l:Str}{d:Scope}{f:Addr}{I:Value}{A:Around}{g:List Env}{s O:Shared}{H:Hp}{E:XK}{J:List Value}{vs:List V}
 (S:fq N o d)(Y:A.handled=none)(V8:A.depth+110<recursionLimit)(j:m7 P w K L base A g s H)(hl:vs.length=o.length)(r:Vals vs J)
 (x:InCallC s s.heap.objs.size (bindL (envOfC l d s.heap.objs.size f I).kindOf (o.zip J) λ_=>none) (cellsFrom (s.heap.objs.size+1) d.names []) (bindC (envOfC l d s.heap.objs.size f I).kindOf (o.zip J) λ_=>none) O):
 Inv (x9 CX P w K L base N l d f I A g s H E) [] (start N vs) H O:=by
 have T:o.length<=N.length:=by have:=GM RT S.pre;rw[Re]at this;lia
 obtain⟨G,tk,rfl,C⟩:=x.done;have M:∀b:Addr,b∉(x9 CX P w K L base N l d f I A g s H E).ex:=λb z=>absurd (show b∈([]:List Addr)from z) (by simp);refine⟨⟨j.mod,S.kind,rfl,rfl,BM _,λy z c G m=>?_,λy t=>?_,λy c _ h=>?_,λ_=>Y,Around.frames_deeper j.frames,.inr ⟨rfl,rfl⟩,λb z=>absurd z (M b),j.bs,j.CJ,λb _ _=>M b,λb z=>absurd z (M b),j.je,j.Gr,j.tree,λA' s' U T9 C=>PylongRoom.of (j.mod.nolimit.keeps C) (by rw[T9];show A.depth+1+100<_;lia) (SeerAt.of (j.mod.seer.keeps C) j.tree (U.trans (Around.frames_deeper j.frames)) S.gen S.co rfl rfl)⟩,
  rfl,j.bare,Un.kept C,⟨_,x.toInCall.ns,λi y v G m h3=>?_⟩,λy c h=>⟨_,x.cell y c h⟩,j.hok.fresh (BM _),λy c h=>?_,λp B=>absurd (show p∈([]:List (Addr×Obj))from B) (by simp),j.hok.kept C,?_⟩
 .exact name_of_addr x.apart (L9 G) (L9 m)
 .have t:d.names.lookup y=some .cell\/d.names.lookup y=some .free:=t;rcases t with t|t
  .exact rL t
  .exact absurd rfl (S.IE _ (L9 t))
 .exact W9 (x.above y c (L9 h))
 .have D:i<vs.length:=by
   unfold start at m;by_cases D:i<vs.length
   .exact D
   .rw[Kb (by simpa using D)]at m;rw[T2]at m;split at m<;>cases m
  have Z:vs[i]?=some v:=by
   unfold start at m;rw[NA (by simpa using D),FK]at m;cases e:vs[i]? with
   |none=>rw[e]at m;cases m
   |some a=>rw[e]at m;cases m;rfl
  obtain⟨u,Q,rv⟩:=r.get Z;have B:o[i]?=some y:=by rw[<-S.pre,WE (by lia)];exact G
  have R:o.Nodup:=by rw[<-S.pre];exact S.nd.sublist (List.take_sublist _ _)
  refine⟨u,rv,?_⟩;rcases S.par y (QP B)with k|k
  .exact .inl ⟨k,nT R B Q k⟩
  .obtain⟨c,e⟩:=rL (n:=s.heap.objs.size+1) k;refine .inr ⟨.inl k,c,e,?_⟩;have q:=x.cell y c e;rw[nU R B Q (by show d.names.lookup y≠_;rw[k];decide)]at q;exact q
 .exact j.hok.fresh (W9 (x.above y c (L9 h)))
 .unfold start;show _=N.length;rw[Fm,AN,W0];lia
theorem Nd{CX:x8}{P:Program}{w:World}{K:Frag}{M:Str->Option Value}{base:Heap}{k:Nat}{f:Addr}{l d:Str}{h:Arguments}{i:List Stmt}{a:Scope}{dV kV G pm g ct oc:Value}{an od:Option Addr}
 {T:Array (Option Value)}{N L:List Str}{sp:Sp}(lk:K.lookup f=some ⟨oc,od,.func (fnOf l d h i a dV kV G pm an g ct),T⟩)(Y:codeIn K g d=true)(S:fq N L a)
 (B:∀vs H Q E,sp vs H Q E->vs.length=L.length)
 (p:∀(A:Around)(c:List Env)(s:Shared)(H:Hp)(vs:List V)(Q:VK)(E:XK),bX k (A.deeper (envOfC d a s.heap.objs.size f g))->sp vs H Q E->
   ∃t,rF (x9 CX P w K M base N d a f g A c s H E) i t/\t {nx:=λ_ H'=>Q .aL H',rt:=Q} (start N vs) H):
 bK P w K M base CX (k+1) f (fnOf l d h i a dV kV G pm an g ct) L sp:=by
 refine⟨B,λA c s H args us vs Q E O D hb r Z=>?_⟩;have hl:=B _ _ _ _ Z;have KX:K.In s.heap:=D.mod.P7.keeps λb o e=>(D.bs b o e).1;have U:s.heap.NoLimit:=D.mod.nolimit.keeps λb o e=>(D.bs b o e).1;have m:∀y∈L.zip us,a.names.lookup y.1=some .local\/(a.names.lookup y.1=some .cell/\((cellsFrom (s.heap.objs.size+1) a.names []).lookup y.1).isSome=true):=λ⟨n,v⟩ hy=>by
  rcases S.par n (Rx hy).1 with q|q
  .exact .inl q
  .exact .inr ⟨q,PySem.W.cellsFrom_some _ _ _ (.inl q)⟩
 refine codeAny_call_function O.depth (KX _ _ lk) rfl S.co S.gen rfl (PySem.W.codeRec_of KX Y) (hb _ _ _ _ ?_);refine wpAny_newFunctionEnv_cells S.kind m λenv he s1 x=>?_;subst he;refine⟨U.keeps x.toInCall.keep,codeAny_func ?_⟩;obtain⟨t,ht,hq⟩:=p A c s H vs Q E (O.deeper _) Z;have I:Inv (x9 CX P w K M base N d a f g A c s H E) [] (start N vs) H s1:=ya S O.hd (by have:=O.dp;lia) D hl r x;refine PH (ht [] s1 (start N vs) H _ I hq) (λfl R z=>?_) λe R z=>z;have C:∀{j:St}{H':Hp}{v:V}{u:Value},Inv (x9 CX P w K M base N d a f g A c s H E) [] j H' R->RelV v u->Q v H'->CE c P w H s Q u R:=
  λ{j H' v u} J rv q=>⟨v,H',J.os,J.bare,J.base,J.hok,rv,q⟩
 cases fl with
 |ret u=>obtain⟨v,j,H',J,rv,q⟩:=z;exact C J rv q
 |next=>obtain⟨j,H',J,q⟩:=z;exact C (v:=V.aL) (u:=Value.none) J rfl q
 |brk=>obtain⟨_,_,_,q⟩:=z;exact HP q
 |cont=>obtain⟨_,_,_,q⟩:=z;exact HP q
section
variable{X:Cx}{x:Str}{p pos:Pos}{e:Expr}{es:List Expr}{t:TA}{id T:String}{r:List V->Hp->VK->Prop}
noncomputable def Sx(r:List V->Hp->VK->Prop)(t:TA):TE:=λa H Q=>t a H λb c=>r b c Q
theorem iA(q:bG X (.builtin id) r)(o:Gl X x)(n:X.mg x=none)(l:bootBuiltins x=some (.builtin id))(u:PA X (e::es) t)(m:x≠"__name__":=by decide)(c:(x==("__debug__":Str))=false:=by decide)
 (he:starEach (e::es) X.env=(false,eval e X.env)::starEach es X.env:=by rfl)(b:(backTo pos (starEach es X.env)).any (·.1)=false:=by rfl):PE X (.Call (.Name x p) (e::es) [] pos) (Sx r t):=by
 intro a s d H Q I h;refine W5 (dB I o n l ?_ m c);exact Xv (bD (u pos a s d H _ I h) λg i ⟨f,v,I1,j,k⟩=>q a i d v f g Q I1 j k) he b
theorem nV(q:bG X (.type T) r)(o:Gl X x)(n:X.mg x=none)(l:bootBuiltins x=some (.type T))(u:PA X (e::es) t)(m:x≠"__name__":=by decide)(c:(x==("__debug__":Str))=false:=by decide)
 (he:starEach (e::es) X.env=(false,eval e X.env)::starEach es X.env:=by rfl)(b:(backTo pos (starEach es X.env)).any (·.1)=false:=by rfl):PE X (.Call (.Name x p) (e::es) [] pos) (Sx r t):=by
 intro a s d H Q I h;refine W5 (dB I o n l ?_ m c);exact Kx (bD (u pos a s d H _ I h) λg i ⟨f,v,I1,j,k⟩=>q a i d v f g Q I1 j k) he b
end
end L2
namespace HT
open PySem PyProof.Rows
noncomputable def lexLt:List Int->List Int->Bool
 |[],[]=>false
 |[],_::_=>true
 |_::_,[]=>false
 |x::b,y::a=>if x=y then lexLt b a else decide (x<y)
theorem gM(x y:Int)(b a:List Int):lexLt (x::b) (y::a)=if x=y then lexLt b a else decide (x<y):=rfl
theorem m8:lexLt [] []=false:=rfl
theorem kK(y:Int)(a:List Int):lexLt [] (y::a)=true:=rfl
theorem kL(x:Int)(a:List Int):lexLt (x::a) []=false:=rfl
theorem zU(A:Around)(s:Shared)(a:Int)(t:Tok)(c:Int)(u:Tok):∃e,SeqAt.EqAt A s (.int a t) (.int c u) e/\(e=true↔a=c):=
 ⟨(a==c),XD a t c u,by simp⟩
theorem rM(A:Around)(s:Shared)(a:Int)(t:Tok)(c:Int)(u:Tok)(prog:Program)(w:World)(E:Value->Shared->Prop)(Q:Value->Shared->Prop)(h:Q (.bool (decide (a<c))) s):
 wpAny (model prog w) A (richCompare .Lt (.int a t) (.int c u)) Q E s:=
 (SY h:wpAny (model prog w) A (compareOp .Lt (.int a t) (.int c u)) Q E s)
section
open PySem.SeqAt
open PySem.AutoSeq1 (wpAny_loadPart')
open PySem.MeetsSeq PySem.MeetsSeq2 PySem.MeetsSeq3
end
section
variable{prog:Program}{w:World}{A:Around}{E:Value->Shared->Prop}{s:Shared}
theorem De{t b:Addr}{vs a:List Value}{Q:Value->Shared->Prop}(r:IsTup s.heap t vs.toArray)(u:IsTup s.heap b a.toArray)(o:vs≠[])
 (x:a=[]->Q (.ref t) s)(v:a≠[]->Q (.ref s.heap.objs.size) {s with heap:=s.heap.push {cls:=.type "tuple",data:=.seq (vs++a).toArray}})
 (hsz:vs.length+a.length<=sizeLine):wpAny (model prog w) A (binaryOp .Add (.ref t) (.ref b)) Q E s:=by
 obtain⟨⟨cls,dd,data,l⟩,j,q,n,p⟩:=id r;obtain⟨⟨y,h,k,d⟩,c,g,m,f⟩:=id u;simp only at q p g f;subst q p g f;have e:vs.toArray++a.toArray=(vs++a).toArray:=by simp
 by_cases i:a=[]
 .exact concat_meets ⟨_,j,rfl⟩ ⟨_,c,rfl⟩ noFill_tuple_add seq_tuple_add PySem.F.slot_tuple_add PySem.F.entry_tuple_add (PySem.F.args_tuple_add_2 _ _)
   (tuple_addW1 t b vs.toArray a.toArray n m dd h l d (by simpa using o) (by simp[i])) ⟨j,c,x i⟩
 .refine concat_meets ⟨_,j,rfl⟩ ⟨_,c,rfl⟩ noFill_tuple_add seq_tuple_add PySem.F.slot_tuple_add PySem.F.entry_tuple_add (PySem.F.args_tuple_add_2 _ _)
   (tuple_addW2 t b vs.toArray a.toArray n m dd h l d (by simpa using o) (by simpa using i) (by rw[FC,FC];exact hsz)) ⟨j,c,?_⟩
  rw[e];exact v i
noncomputable def nW(n d:Nat):Option Int->Nat
 |none=>d
 |some v=>if v<0 then(v+(n:Int)).toNat else min v.toNat n
theorem zV(n d:Nat):nW n d none=d:=rfl
theorem Dg(n d k:Nat):nW n d (some (k:Int))=min k n:=by show(if(k:Int)<0 then((k:Int)+(n:Int)).toNat else min (k:Int).toNat n)=min k n;rw[Bi (by lia),G2]
end
end HT
namespace L2
open PySem PySem.Spec PyProof.Rows
abbrev TO:=St->Hp->(Option Int->Hp->Prop)->Prop
noncomputable def PO(X:Cx)(e:Option Expr)(t:TO):Prop:=
 ∀(a:List (Addr×Obj))(s:Shared)(b:St)(H:Hp)(Q:Option Int->Hp->Prop),Inv X a b H s->t b H Q->
  wpAny (model X.prog X.w) X.A (evalPart e X.env) (λu d=>∃o c,Inv X a b c d/\IsPart u o/\Q o c) X.xe s
noncomputable def Dh:TO:=λ_ H Q=>Q none H
noncomputable def Ng(t:TE):TO:=λa H Q=>t a H λx b=>∃i,x=.int i/\Q (some i) b
theorem intsAre_of{ns:List Int}:∀{a:List Value},Vals (ns.map V.int) a->IntsAre a ns:=by
 induction ns with
 |nil=>intro a r;rw[XO]at r;cases r;exact .nil
 |cons n ns d=>
  intro a r;rw[GT]at r;cases r with
  |cons c b=>obtain⟨t,e⟩:=c;subst e;exact .cons n t (d b)
section
variable{X:Cx}{e:Expr}{te:TE}{lo hi:Option Expr}{tl th:TO}{pos p2:Pos}
theorem Di:PO X none Dh:=by intro a s b H Q I h;rw[evalPart_none];exact Hn ⟨none,H,I,.none,h⟩
theorem Dj(h:PE X e te):PO X (some e) (Ng te):=by intro a s b H Q I f;rw[evalPart_some];refine bD (h a s b H _ I f) λu j ⟨x,g,I1,c,d⟩=>?_;obtain⟨i,rfl,q⟩:=d;obtain⟨t,rfl⟩:=c;exact⟨some i,g,I1,.int i t,q⟩
noncomputable def Sy(X:Cx)(r:V->Option Int->Option Int->Hp->VK->Prop):Prop:=
 ∀(a:List (Addr×Obj))(s:Shared)(b:St)(H:Hp)(x:V)(v d c:Value)(lo hi:Option Int)(f:Addr)(Q:VK),Inv X a b H s->RelV x v->s.heap.IsSliceOf f d c .none->IsPart d lo->IsPart c hi->r x lo hi H Q->
  ∃T g,typeLookup (.type T) "__getitem__"=pure (some (.builtin g))/\s.TypeIs v T/\wpAny (model X.prog X.w) X.A (getItem v (.ref f)) (EP X a b Q) X.xe s
noncomputable def Ua(r:V->Option Int->Option Int->Hp->VK->Prop)(te:TE)(tl th:TO):TE:=λa H Q=>te a H λx d=>tl a d λl c=>th a c λu b=>r x l u b Q
theorem zW{r:V->Option Int->Option Int->Hp->VK->Prop}(C:Sy X r)(he:PE X e te)(D:PO X lo tl)(z:PO X hi th):PE X (.Subscript e (.Slice lo hi none p2) pos) (Ua r te tl th):=by intro a s d H Q I h;refine Subscript_ (bD (he a s d H _ I h) λv k ⟨x,N,I1,m,p⟩=>?_);refine wpAny_Slice (bD (D a k d N _ I1 p) λg j ⟨l,M,L,y,o⟩=>bD (z a j d M _ L o) λf c ⟨u,i,K,t,n⟩=>?_);rw[evalPart_none];refine Hn ?_;have J:Inv X a d i {c with heap:=c.heap.push {cls:=.type "slice",data:=.fields #[g,f,.none]}}:=K.kept (t':=c.toks) λb O q=>D1 _ q;obtain⟨T,P,G,B,E⟩:=C a {c with heap:=c.heap.push {cls:=.type "slice",data:=.fields #[g,f,.none]}} d i x v g f l u c.heap.objs.size Q J m (Heap.IsSliceOf.new ..) y t n;show wpAny (model X.prog X.w) X.A (subscriptTail e (.Slice lo hi none p2) v (.ref c.heap.objs.size)) (EP X a d Q) X.xe {c with heap:=c.heap.push {cls:=.type "slice",data:=.fields #[g,f,.none]}};exact tail_any (ops:=[.ref c.heap.objs.size,v]) B G E (by with_unfolding_all rfl)
noncomputable def yb(a:List V)(lo hi:Option Int):List V:=(a.drop (HT.nW a.length 0 lo)).take (HT.nW a.length a.length hi -HT.nW a.length 0 lo)
theorem rN(a:List V)(lo hi:Option Int):(yb a lo hi).length<=a.length:=by unfold yb;rw[Re,RO];lia
noncomputable def Nh(K:Frag):R2:=λx y H Q=>∃a b d c,x=.ref a/\y=.ref b/\g8 K H a d/\g8 K H b c/\d≠[]/\d.length+c.length<=sizeLine/\
 (c=[]->Q (.ref a) H)/\(c≠[]->∀p,H p=none->Q (.ref p) (upd H p (.tup (d++c))))
theorem Vals.oW{a:List V}{b:List Value}(r:Vals a b):b=[]↔a=[]:=by
 cases r with
 |nil=>simp
 |cons _ _=>simp
theorem Dm:jf X (binaryOp .Add) (Nh X.K):=by intro f s C H x y v u Q I l k h;obtain⟨a,b,j,i,rfl,rfl,B,A,t,hz,n,m⟩:=h;cases l;cases k;obtain⟨r,d,p,_⟩:=I.tuple B;obtain⟨g,c,p2,_⟩:=I.tuple A;refine HT.De p p2 (λz=>t (d.oW.mp z)) (λz=>⟨.ref a,H,I,rfl,n (c.oW.mp z)⟩) (λz=>?_) (by rw[<-d.length,<-c.length];exact hz);refine⟨.ref s.heap.objs.size,_,I.laid (t':=s.toks) (o:=.tup (j++i)) (λb D q=>D1 _ q) (BM _) ?_,rfl,m (λw=>z (c.oW.mpr w)) _ (I.hok.fresh (BM _))⟩;exact⟨by rw[Fm];exact hz,_,d.append c,IsTup.new _ _⟩
end
noncomputable def t6(n:Nat)(i:Int):Option Nat:=if 0<=i then(if i<n then some i.toNat else none)else if-(n:Int)<=i then some (i+n).toNat else none
noncomputable def jV{α:Type}(a:List α)(i:Int):Option α:=(t6 a.length i).bind λj=>a[j]?
theorem vN{n:Nat}{i:Int}{j:Nat}(h:t6 n i=some j):seqIndex? i n=some j/\j<n/\-(n:Int)<=i/\i<n:=by
 unfold t6 at h;by_cases b:0<=i
 .rw[Bz b]at h;by_cases a:i<n
  .rw[Bz a]at h;have e:i.toNat=j:=Hk h;exact⟨by rw[seqIndex_of b a,e],by lia,by lia,a⟩
  .rw[Bi a]at h;cases h
 .rw[Bi b]at h;by_cases a: -(n:Int)<=i
  .rw[Bz a]at h;have e:(i+n).toNat=j:=Hk h;exact⟨by rw[seqIndex_neg (by lia) a,e],by lia,a,by lia⟩
  .rw[Bi a]at h;cases h
theorem oX{α:Type}{a:List α}{i:Int}{v:α}(h:jV a i=some v):∃j,seqIndex? i a.length=some j/\a[j]?=some v/\j<a.length/\-(a.length:Int)<=i/\i<a.length:=by
 unfold jV at h;cases e:t6 a.length i with
 |none=>rw[e]at h;cases h
 |some j=>rw[e]at h;obtain⟨f,d,c,b⟩:=vN e;exact⟨j,f,h,d,c,b⟩
theorem bq{α:Type}{a:List α}{j:Nat}{v:α}(h:a[j]?=some v):jV a (j:Int)=some v:=by
 have b:j<a.length:=(FM.mp h).1;have e:t6 a.length (j:Int)=some j:=by unfold t6;rw[Bz (by lia),Bz (by lia)];simp
 unfold jV;rw[e];exact h
noncomputable def iB(b:Expr):Prop:=∀o i,subscripted b false o i=operate [o,i] (getItem o i)
noncomputable def Dp(X:Cx)(r:R2):Prop:=
 ∀(c a:Expr)(b:List (Addr×Obj))(s:Shared)(d:St)(H:Hp)(x y:V)(v u:Value)(Q:VK),Inv X b d H s->RelV x v->RelV y u->r x y H Q->
  subscripted a false v u=operate [v,u] (getItem v u)->wpAny (model X.prog X.w) X.A (subscriptTail c a v u) (EP X b d Q) X.xe s
noncomputable def Sz(X:Cx)(e:String)(r:V->List V->Hp->VK->Prop):Prop:=
 ∀(a:List (Addr×Obj))(s:Shared)(b:St)(H:Hp)(x:V)(c:List V)(v:Value)(d:List Value)(Q:VK),Inv X a b H s->RelV x v->Vals c d->r x c H Q->
  wpAny (model X.prog X.w) X.A (call (.builtin e) (v::d)) (EP X a b Q) X.xe s
section
variable{X:Cx}{a b:Expr}{ta tb:TE}{pos:Pos}
theorem Dp.or{r j:R2}(h:Dp X r)(h':Dp X j):Dp X (λx y H Q=>r x y H Q\/j x y H Q):=by
 intro c d e s f H x y v u Q I i g q k;rcases q with q|q
 .exact h c d e s f H x y v u Q I i g q k
 .exact h' c d e s f H x y v u Q I i g q k
theorem zX{r:R2}(j:Dp X r)(l:PE X a ta)(k:PE X b tb)(i:iB b):PE X (.Subscript a b pos) (T4 r ta tb):=by intro c s d H Q I h;exact Subscript_ (Q0 l k I h λv u e x y n m g f q=>j a b c e d n x y v u Q m g f q (i _ _))
noncomputable def Ni(K:Frag):R2:=λx y H Q=>∃p c i v,x=.ref p/\y=.int i/\fh K H p c/\jV c i=some v/\Q v H
noncomputable def Nj(K:Frag):R2:=λx y H Q=>∃p c i v,x=.ref p/\y=.int i/\g8 K H p c/\jV c i=some v/\Q v H
noncomputable def Nk:R2:=λx y H Q=>∃z i c,x=.str z/\y=.int i/\z.length<=sizeLine/\jV z.cps.toList i=some c/\Q (.str ⟨#[c]⟩) H
theorem Dq:Dp X (Ni X.K):=by
 intro f g c s o H x y v u Q I G E h A;obtain⟨p,R,i,z,rfl,rfl,J,M,q⟩:=h;cases G;obtain⟨t,rfl⟩:=E;obtain⟨m,r,l,hz⟩:=I.list J;obtain⟨j,e,P,T,O,N⟩:=oX M;obtain⟨w,C,k⟩:=r.get P;have L:=r.length;have S:=kJ;have d:EP X c o Q w s:=⟨z,H,I,k,q⟩;by_cases B:0<=i
 .have n:i.toNat=j:=by rw[seqIndex_of B N]at e;exact Hk e
  exact item_listR l.isList B (by lia) (by rw[n];simpa using C) d A
 .have n:(i+(m.toArray.size:Int)).toNat=j:=by rw[seqIndex_neg (by lia) O]at e;rw[FC,<-L];exact Hk e
  exact subscriptTail_builtinR (x:=w) l.isList.typeIs slot_list_getitem.lookup
   (wpAny_getItem_list_neg (Q:=λr D=>r=w/\EP X c o Q r D) l.isList (by lia) (by rw[FC]<;>lia) (by lia) (by rw[n];simpa using C) ⟨rfl,d⟩) A
theorem IF:Dp X (Nj X.K):=by
 intro d e c s k H x y v u Q I o n h B;obtain⟨p,M,i,z,rfl,rfl,C,E,q⟩:=h;cases o;obtain⟨t,rfl⟩:=n;obtain⟨A,r,l,hz⟩:=I.tuple C;obtain⟨j,J,G,R,P,O⟩:=oX E;obtain⟨w,L,f⟩:=r.get G;have D:=r.length;have N:=kJ;have g:EP X c k Q w s:=⟨z,H,I,f,q⟩;exact subscriptTail_builtinR (x:=w) l.typeIs slot_tuple_getitem.lookup
  (getItem_tuple (j:=j) (Q:=λr m=>r=w/\EP X c k Q r m) l (by lia) (by lia) (by rw[FC,<-D];exact J) (by simpa using L) ⟨rfl,g⟩) B
theorem IG:Dp X Nk:=by
 intro d e f s C H x y v u Q I l k h m;obtain⟨z,i,c,rfl,rfl,hz,o,q⟩:=h;obtain⟨t,rfl⟩:=l;obtain⟨D,rfl⟩:=k;obtain⟨j,g,w,G,r,p⟩:=oX o;have n:z.cps.toList.length=z.length:=by simp[Str.length]
 rw[n]at g r p;have E:=kJ;exact tail_any (typeIs_str s z t) slot_str_getitem.lookup (getItem_str (c:=c) (by have B:decide (i< -(2^63:Int))=false:=He (by lia);have A:decide (i>=2^63)=false:=He (by lia);rw[B,A,RF]) (by rw[g];simpa using w) ⟨.str ⟨#[c]⟩,H,I.tok _,⟨_,rfl⟩,q⟩) m
noncomputable def Ub(K:Frag):R2:=λx y H Q=>Ni K x y H Q\/Nj K x y H Q\/Nk x y H Q
theorem uv:Dp X (Ub X.K):=Dq.or (IF.or IG)
theorem uw(c:List Value)(n j:Nat)(u:Value):Obj.mapSeq (·.setIfInBounds j u) {cls:=.type "list",data:=.seq c.toArray n}={cls:=.type "list",data:=.seq (c.set j u).toArray n}:=by simp[Obj.mapSeq]
theorem Inv.lst{d:List (Addr×Obj)}{g:St}{H:Hp}{s:Shared}{p:Addr}{f:List V}(I:Inv X d g H s)(h:H p=some (.lst f)):
 ∃(c:List Value)(n:Nat),Vals f c/\s.heap.get? p=some {cls:=.type "list",data:=.seq c.toArray n}/\f.length<=sizeLine:=by
 obtain⟨z,c,n,r,e⟩:=I.hok p _ h;exact⟨c,n,r,e,z⟩
theorem Inv.II{c:List (Addr×Obj)}{j:St}{H:Hp}{s:Shared}{p:Addr}{l g:List V}{d its':List Value}{n i:Nat}{f:Obj->Obj}(I:Inv X c j H s)(h:H p=some (.lst l))
 (m:s.heap.get? p=some {cls:=.type "list",data:=.seq d.toArray n})(k:f {cls:=.type "list",data:=.seq d.toArray n}={cls:=.type "list",data:=.seq its'.toArray i})(r:Vals g its')(hz:g.length<=sizeLine)(t:Nat):
 Inv X c j (upd H p (.lst g)) {s with heap:=s.heap.update p f,toks:=t}:=by
 have e:(s.heap.update p f).get? p=some {cls:=.type "list",data:=.seq its'.toArray i}:=by rw[Heap.get?_update_self f m (by rw[k]<;>rfl),k]
 refine I.write (x:=p) (e:=p) (by rw[h];trivial) (.inl rfl) (λb u o q=>(Heap.get?_update_other _ _ (NM o)).trans q) ⟨_,e⟩ ?_;exact⟨hz,its',i,r,e⟩
noncomputable def GB:V->V->V->Hp->(Hp->Prop)->Prop:=λo i v H Q=>∃p c k j,o=.ref p/\i=.int k/\H p=some (.lst c)/\t6 c.length k=some j/\Q (upd H p (.lst (c.set j v)))
theorem set_list:Ic X GB:=by
 intro c s A H o i v G J u Q I C D rv h;obtain⟨p,B,k,j,rfl,rfl,m,E,q⟩:=h;cases C;obtain⟨t,rfl⟩:=D;obtain⟨d,n,r,f,hz⟩:=I.lst m;obtain⟨e,L,x,w⟩:=vN E;have g:=r.length;have K:=kJ;have z:Inv X c A (upd H p (.lst (B.set j v))) {s with heap:=s.heap.update p (Obj.mapSeq (·.setIfInBounds j u))}:=
  I.II m f (uw d n j u) (r.set rv j) (by rw[OF];exact hz) s.toks
 by_cases y:0<=k
 .have l:k.toNat=j:=by rw[seqIndex_of y w]at e;exact Hk e
  exact PySem.W.ki_setAt f y (by lia) (by rw[FC,<-g];exact w) (by rw[l];exact⟨_,z,q⟩)
 .have l:(k+(d.toArray.size:Int)).toNat=j:=by rw[seqIndex_neg (by lia) x]at e;rw[FC,<-g];exact Hk e
  exact PySem.W.ki_setBack f (by lia) (by rw[FC,<-g];exact x) (by lia) (by rw[l];exact⟨_,z,q⟩)
theorem oY(c d:Option Int)(n:Nat):(sliceBounds c d none n).1=((HT.nW n 0 c:Nat):Int)/\(sliceBounds c d none n).2.1=((HT.nW n n d:Nat):Int)/\(sliceBounds c d none n).2.2=1:=by
 refine⟨?_,?_,rfl⟩
 .cases c with
  |none=>simp[sliceBounds,HT.nW]
  |some i=>
   simp only[sliceBounds,HT.nW,VI,show(1:Int)>0 by decide,if_true];by_cases h:i<0
   .simp only[h,if_true]<;>lia
   .simp only[h,XB]<;>lia
 .cases d with
  |none=>simp[sliceBounds,HT.nW]
  |some i=>
   simp only[sliceBounds,HT.nW,VI,show(1:Int)>0 by decide,if_true];by_cases h:i<0
   .simp only[h,if_true]<;>lia
   .simp only[h,XB]<;>lia
theorem m9(c:List Value)(d e:Option Int):slicePick c.toArray d e none=((c.drop (HT.nW c.length 0 d)).take (HT.nW c.length c.length e -HT.nW c.length 0 d)).toArray:=by obtain⟨h,g,f⟩:=oY d e c.toArray.size;unfold slicePick;rw[h,g,f];simp only[sliceRange_one,pick_run,FC]<;>rfl
noncomputable def Q6(K:Frag):V->Option Int->Option Int->Hp->VK->Prop:=λx d e H Q=>∃a c,x=.ref a/\fh K H a c/\∀p,H p=none->Q (.ref p) (upd H p (.lst (yb c d e)))
theorem Dr:Sy X (Q6 X.K):=by intro g s t H x v w u e f y Q I j p l k h;obtain⟨a,c,rfl,n,q⟩:=h;cases j;obtain⟨m,r,i,hz⟩:=I.list n;have d:=r.length;refine⟨"list",_,slot_list_getitem.lookup,i.isList.typeIs,?_⟩;refine wpAny_getItem_list_slice i.isList p l k .none (by simp) ?_ (by rw[FC]<;>lia);rw[m9,<-d];refine⟨.ref s.heap.objs.size,_,I.laid (t':=s.toks) (o:=.lst (yb c e f)) (λb z q=>D1 _ q) (BM _) ?_,rfl,q _ (I.hok.fresh (BM _))⟩;exact⟨Hm (rN c e f) hz,_,0,(r.drop (HT.nW c.length 0 e)).take (HT.nW c.length c.length f -HT.nW c.length 0 e),Fn _ rfl⟩
theorem fu:bG X (.builtin "len") (λj H Q=>∃p d,j=[.ref p]/\(fh X.K H p d\/g8 X.K H p d)/\Q (.int d.length) H):=by
 intro k s m H j n Q I r h;obtain⟨p,d,rfl,e,q⟩:=h;obtain⟨u,rfl,l⟩:=vals1 r;cases l;have o:=kJ;rcases e with e|e
 .obtain⟨i,f,g,hz⟩:=I.list e;have c:=f.length;exact Calls.call_len_list g.isList (by simp only[FC]<;>lia) ⟨.int d.length,H,I.tok _,⟨s.toks+1,by rw[FC,c]⟩,q⟩
 .obtain⟨i,f,g,hz⟩:=I.tuple e;have c:=f.length;exact len_tuple g (by simp only[FC]<;>lia) ⟨.int d.length,H,I.tok _,⟨s.toks+1,by rw[FC,c]⟩,q⟩
theorem iC:bG X (.type "list") (λB H Q=>∃p f,B=[.ref p]/\(fh X.K H p f\/g8 X.K H p f)/\∀l,H l=none->Q (.ref l) (upd H l (.lst f))):=by
 intro j s D H B G Q I r h;obtain⟨p,f,rfl,m,q⟩:=h;obtain⟨u,rfl,E⟩:=vals1 r;cases E;have v:∀(c:List Value),Vals f c->f.length<=sizeLine->∀(d:Heap)(i:Nat),(∀b C,s.heap.get? b=some C->d.get? b=some C)->
  d.get? s.heap.objs.size=some {cls:=.type "list",dict:=none,data:=.seq c.toArray i,slots:= #[]}->EP X j D Q (.ref s.heap.objs.size) {s with heap:=d}:=λc g hz d i k e=>
  ⟨.ref s.heap.objs.size,_,I.laid (t':=s.toks) k (BM _) (show aT X.prog X.w _ d _ (.lst f)from⟨hz,c,i,g,e⟩),rfl,q _ (I.hok.fresh (BM _))⟩
 rcases m with m|m
 .obtain⟨c,g,x,hz⟩:=I.list m;have t:=g.length;obtain⟨o,y,A,n,z⟩:=x.isList;exact call_list_seq p (.inl rfl) y A z (λd i k e=>v c g hz d i k e) (by simp only[FC]<;>lia)
 .obtain⟨c,g,x,hz⟩:=I.tuple m;have t:=g.length;obtain⟨o,y,A,n,z⟩:=x;exact call_list_seq p (.inr rfl) y A z (λd i k e=>v c g hz d i k e) (by simp only[FC]<;>lia)
theorem gG:bG X (.type "tuple") (λn H Q=>∃p f,n=[.ref p]/\((fh X.K H p f/\∀l,H l=none->Q (.ref l) (upd H l (.tup f)))\/(g8 X.K H p f/\Q (.ref p) H))):=by
 intro c s m H n z Q I r h;obtain⟨p,f,rfl,h⟩:=h;obtain⟨u,rfl,v⟩:=vals1 r;cases v;rcases h with⟨k,q⟩|⟨k,q⟩
 .obtain⟨d,i,j,hz⟩:=I.list k;have t:=i.length;refine call_tuple_list j.isList (λg x=>?_) (by simp only[FC]<;>lia);have I1:Inv X c m H {s with heap:=g}:=I.kept (t':=s.toks) x;have y:Inv X c m (upd H g.objs.size (.tup f)) {s with heap:=g.push {cls:=.type "tuple",data:=.seq d.toArray}}:=
   I1.laid (t':=s.toks) (λb o e=>D1 _ e) (BM _) (show aT X.prog X.w _ _ _ (.tup f)from⟨hz,d,i,IsTup.new _ _⟩)
  exact⟨.ref g.objs.size,_,y,rfl,q _ (I1.hok.fresh (BM _))⟩
 .obtain⟨d,i,j,hz⟩:=I.tuple k;exact call_tuple_same j ⟨.ref p,H,I,rfl,q⟩
noncomputable def Q7(K:Frag)(T:String)(x:V)(H:Hp):Prop:=match x with
 |.str _=>T="str"
 |.int _=>T="int"
 |.ref p=>(T="list"/\∃d,fh K H p d)\/(T="tuple"/\∃o,K.lookup p=some o/\o.cls=.type "tuple"/\o.dict=none)\/
   (T="dict"/\((∃c,H p=some (.dK c))\/∃c,H p=some (.dT c)))\/(T="set"/\∃S n,H p=some (.set S n))
 |_=>False
theorem zY{f:List (Addr×Obj)}{q:St}{H:Hp}{s:Shared}{T:String}{x:V}{v:Value}(I:Inv X f q H s)(r:RelV x v)(g:Q7 X.K T x H):
 s.TypeIs v T/\∀a,v=.ref a->∃m,s.heap.get? a=some m/\m.dict=none:=by
 cases x with
 |str z=>obtain⟨t,rfl⟩:=r;cases(show T="str"from g);exact⟨typeIs_str s z t,λ_ e=>nomatch e⟩
 |int i=>obtain⟨t,rfl⟩:=r;cases(show T="int"from g);exact⟨typeIs_int s i t,λ_ e=>nomatch e⟩
 |ref p=>
  cases r;rcases g with⟨rfl,A,w⟩|⟨rfl,o,d,y,j⟩|⟨rfl,d⟩|⟨rfl,S,n,d⟩
  .obtain⟨u,_,l,_⟩:=I.list w;refine⟨l.isList.typeIs,λa e=>?_⟩;cases e;obtain⟨o,n,e,c,j,_⟩:=l;exact⟨o,e,j⟩
  .refine⟨⟨o,I.kG p o d,y⟩,λa e=>?_⟩;cases e;exact⟨o,I.kG _ o d,j⟩
  .have z:∃o,s.heap.get? p=some o/\o.ExactDict:=by
    rcases d with⟨h,d⟩|⟨h,d⟩
    .obtain⟨_,_,_,_,o,_,_,e,ex,_⟩:=I.hok p _ d;exact⟨o,e,ex⟩
    .obtain⟨_,_,_,_,o,_,_,e,ex,_⟩:=I.hok p _ d;exact⟨o,e,ex⟩
   obtain⟨o,e,ex⟩:=z;refine⟨⟨o,e,ex.1⟩,λa k=>?_⟩;cases k;exact⟨o,e,ex.2.1⟩
  .obtain⟨o,_,_,_,e,ex,_⟩:=I.hok p _ d;refine⟨⟨o,e,ex.1⟩,λa k=>?_⟩;cases k;exact⟨o,e,ex.2.1⟩
 |_=>exact HP g
noncomputable def Q8(K:Frag)(T:String)(r:V->List V->Hp->VK->Prop)(e:TE):TE:=λd H Q=>e d H λx c=>Q7 K T x c/\r x [] c Q
noncomputable def SA(K:Frag)(T:String)(r:V->List V->Hp->VK->Prop)(f:TE)(t:TA):TE:=λc H Q=>f c H λx d=>Q7 K T x d/\t c d λe g=>r x e g Q
variable{o e:Expr}{es:List Expr}{to:TE}{t:TA}{name:Str}{apos cpos:Pos}{T id:String}{r:V->List V->Hp->VK->Prop}
theorem IJ(p:PlainAttrs T)(g:Slot T name id)(i:typeOf (.builtin id)=pure (.type "method_descriptor"))(u:Sz X id r)(q:PE X o to)
 (f:attributeBase o name X.env (eval o X.env)=eval o X.env:=by rfl)(d:(apos.endLine==cpos.line)=true:=by rfl):PE X (.Call (.Attribute o name apos) [] [] cpos) (Q8 X.K T r to):=by
 intro c s j H Q I h;refine wpAny_Call_method0_late f d (bD (q c s j H _ I h) λv m ⟨x,z,I1,k,l,n⟩=>?_);obtain⟨y,w⟩:=zY I1 k l;exact⟨T,id,p,g,i,y,w,Calls.callWith_builtin rfl (PySem.evalArgs_none (u c m j z x [] v [] Q I1 k .nil n))⟩
theorem Nl(C:PlainAttrs T)(i:Slot T name id)(l:typeOf (.builtin id)=pure (.type "method_descriptor"))(G:Sz X id r)(E:PE X o to)(J:PA X (e::es) t)
 (g:attributeBase o name X.env (eval o X.env)=eval o X.env:=by rfl)
 (j:((backTo cpos (starEach (e::es) X.env)).all (λx=>!x.1)&&(backToKw cpos (keywordEach [] X.env)).all (λx=>x.1.isSome)
   &&decide ((e::es).length+([]:List Keyword).length+(if([]:List Keyword).isEmpty then 0 else 1)<30))=true:=by rfl)
 (f:(apos.endLine==cpos.line)=true:=by rfl)(D:starEach (e::es) X.env=(false,eval e X.env)::starEach es X.env:=by rfl)(d:(backTo cpos (starEach es X.env)).any (·.1)=false:=by rfl):
 PE X (.Call (.Attribute o name apos) (e::es) [] cpos) (SA X.K T r to t):=by
 intro c s k H Q I h;refine wpAny_Call_method_late g j f rfl (bD (E c s k H _ I h) λv y ⟨x,P,I1,m,u,B⟩=>?_);obtain⟨M,L⟩:=zY I1 m u;refine⟨T,id,C,i,l,M,L,?_⟩;have n:=J cpos c y k P _ I1 B;rw[D]at n⊢;refine Calls.callWith_builtin (by show(false||(backTo cpos (starEach es X.env)).any (·.1))=false;rw[d]<;>rfl) (Calls.evalArgs_plain ?_);exact bD n λq w ⟨p,O,N,z,A⟩=>G c w k O x p v q Q N m z A
end
noncomputable def SD(X:Cx)(e:String)(r:V->List V->Hp->VK->Prop):Prop:=
 ∀(a:List (Addr×Obj))(s:Shared)(b:St)(H:Hp)(x:V)(c:List V)(v:Value)(d:List Value)(Q:VK),Inv X a b H s->RelV x v->Vals c d->r x c H Q->
  wpAny (model X.prog X.w) X.A (call (.builtin e) (v::d)) (EP X a b Q) X.xe s
theorem Vals.one{x:V}{a:List Value}(h:Vals [x] a):∃u,a=[u]/\RelV x u:=by
 cases h with
 |cons r h=>
  cases h;exact⟨_,rfl,r⟩
theorem Vals.zero:∀{a:List Value},Vals [] a->a=[]
 |_,.nil=>rfl
theorem Vals.dropLast{a:List V}{b:List Value}(h:Vals a b):Vals a.dropLast b.dropLast:=by
 induction h with
 |nil=>exact .nil
 |cons r t c=>
  cases t with
  |nil=>exact .nil
  |cons q d=>exact .cons r c
theorem Vals.reverse{a:List V}{b:List Value}(h:Vals a b):Vals a.reverse b.reverse:=by
 induction h with
 |nil=>exact .nil
 |cons r t c=>rw[W1,W1];exact Vals.append c (.cons r .nil)
theorem Vals.rep{a:List V}{b:List Value}(h:Vals a b):∀k:Nat,Vals (Ds k a).flatten (Ds k b).flatten
 |0=>.nil
 |k+1=>by rw[HL,HL,Kh,Kh];exact Vals.append h (Vals.rep h k)
theorem ux{α:Type}(l:List α):l.eraseIdx (l.length -1)=l.dropLast:=by
 induction l with
 |nil=>rfl
 |cons a r c=>
  cases r with
  |nil=>rfl
  |cons b r=>
   have e:(a::b::r).length -1=((b::r).length -1)+1:=by have f:(a::b::r).length=r.length+2:=rfl;have d:(b::r).length=r.length+1:=rfl;lia
   rw[e,List.eraseIdx_cons_succ,c]
   all_goals rfl
theorem foldl_rep(a:List Value):∀(k:Nat)(b:List Value),
 VV (λd c=>d++c) b.toArray (Ds k a.toArray)=(b++(Ds k a).flatten).toArray
 |0,b=>by simp
 |k+1,b=>by
  have e:b.toArray++a.toArray=(b++a).toArray:=by simp
  have f:(b++a)++(Ds k a).flatten=b++(Ds (k+1) a).flatten:=by rw[HL,Kh,Qf]
  rw[<-f,<-foldl_rep a k (b++a),<-e,HL,List.foldl_cons]
section
variable{X:Cx}{pins:List (Addr×Obj)}{σ:St}{H:Hp}{s:Shared}{l b:Addr}{xs ys zs:List V}
theorem Inv.Nn{a its':List Value}{n:Nat}{f:Array Value->Array Value}{t':Nat}(I:Inv X pins σ H s)(i:H l=some (.lst xs))
 (e:s.heap.get? l=some {cls:=.type "list",data:=.seq a.toArray n})(g:f a.toArray=its'.toArray)(c:Vals ys its')(hz:ys.length<=sizeLine):
 Inv X pins σ (upd H l (.lst ys)) {s with heap:=s.heap.update l (Obj.mapSeq f),toks:=t'}:=by
 have q:=PySem.IsL.update e f;rw[g]at q;refine I.write (x:=l) (e:=l) (by rw[i];exact trivial) (.inl rfl) (λj u h d=>(Heap.get?_update_other s.heap (Obj.mapSeq f) (NM h)).trans d) ⟨_,q⟩ ?_;exact⟨hz,its',_,c,q⟩
theorem Inv.Np{a:List Value}{t':Nat}(I:Inv X pins σ H s)(c:Vals ys a)(hz:ys.length<=sizeLine):
 Inv X pins σ (upd H s.heap.objs.size (.lst ys)) {s with heap:=s.heap.push {cls:=.type "list",data:=.seq a.toArray},toks:=t'}:=
 I.laid (λ_ _ q=>D1 _ q) (BM _) ⟨hz,a,0,c,Fn _ rfl⟩
theorem Inv.fresh(I:Inv X pins σ H s):H s.heap.objs.size=none:=I.hok.fresh (BM _)
theorem Inv.Nq(I:Inv X pins σ H s)(c:H l=some (.lst xs)):xs.length<=sizeLine/\∃(a:List Value)(n:Nat),Vals xs a/\xs.length=a.length/\s.heap.get? l=some {cls:=.type "list",data:=.seq a.toArray n}:=by obtain⟨z,a,n,r,e⟩:=I.hok l _ c;exact⟨z,a,n,r,r.length,e⟩
theorem zZ{n:Nat}(h:n<=sizeLine):Builtin.List.listTooLong n=false:=by unfold Builtin.List.listTooLong;exact He (by lia)
end
section
variable{X:Cx}
noncomputable def vO:V->List V->Hp->VK->Prop:=λx b H Q=>∃l a y,x=.ref l/\b=[y]/\H l=some (.lst a)/\a.length<sizeLine/\Q .aL (upd H l (.lst (a++[y])))
theorem nX:SD X "list.append" vO:=by intro b s g H x j v k Q I d rv h;obtain⟨l,i,y,rfl,rfl,c,hz,q⟩:=h;cases d;obtain⟨u,rfl,f⟩:=rv.one;obtain⟨z,a,n,r,m,e⟩:=I.Nq c;refine call_meets F.slot_list_append ⟨_,e,rfl⟩ F.entry_list_append (F.args_list_append_2 _ _) (PySem.list_append l a.toArray n u (by rw[FC];lia)) ⟨e,?_⟩;refine⟨.aL,_,I.Nn (its':=a++[u]) c e (by simp) (r.append (.cons f .nil)) ?_,rfl,q⟩;rw[Fm,G0];lia
noncomputable def Q9:V->List V->Hp->VK->Prop:=λx b H Q=>∃l a y,x=.ref l/\b=[]/\H l=some (.lst a)/\a[a.length -1]?=some y/\Q y (upd H l (.lst a.dropLast))
theorem IK:SD X "list.pop" Q9:=by
 intro c s o H x t v w Q I f rv h;obtain⟨l,p,y,rfl,rfl,d,i,q⟩:=h;cases f;have m:=rv.zero;subst m;obtain⟨z,a,n,r,k,e⟩:=I.Nq d;obtain⟨u,j,g⟩:=r.get i;have b:a.toArray[a.toArray.size -1]?=some u:=by show a.toArray[a.length -1]?=some u;rw[<-XT,<-k];exact j
 refine call_meets F.slot_list_pop ⟨_,e,rfl⟩ F.entry_list_pop (F.args_list_pop_1 _) (MeetsSeq.list_pop_last l a.toArray n u b (by rw[FC];lia)) ⟨e,?_⟩;refine⟨y,_,I.Nn (its':=a.dropLast) d e ?_ r.dropLast ?_,g,q⟩
 .show a.toArray.eraseIdxIfInBounds (a.toArray.size -1)=a.dropLast.toArray;rw[FC,List.eraseIdxIfInBounds_toArray,ux]
 .rw[List.length_dropLast];lia
theorem len_rep{α:Type}(a:List α)(k:Nat):(Ds k a).flatten.length=k*a.length:=by
 induction k with
 |zero=>simp
 |succ k b=>rw[HL,Kh,Fm,b,Qk,Nat.add_comm]
end
section
variable{prog:Program}{w:World}{A:Around}{E:Value->Shared->Prop}{s:Shared}
end
section
variable{X:Cx}
end
end L2
namespace SG
open PySem PySem.W PySem.Calls PyProof.Rows
theorem jW{P:Params}{h:Heap}:∀(ns:List Int)(vs:List Value),WellAll P h vs (ns.map WData.int)->IntsAre vs ns:=by
 intro ns
 induction ns with
 |nil=>intro vs w;rw[XO]at w;cases w;exact .nil
 |cons n ns c=>
  intro vs w;rw[GT]at w;cases w with
  |cons a b=>
   cases a;exact .cons _ _ (c _ b)
theorem yc{l:OpenLaw}{n:Nat}(u:l.most=some n){P:Params}{h:Heap}{args:List WData}{b:List Value}
 (c:l.row.toRowW.claim.pre args=true)(j:WellAll P h b args):
 ∃a vs ns,b=[Value.ref a]/\args=[WData.list (ns.map WData.int)]/\h.get? a=some {cls:=.type "list",data:=.seq vs.toArray}/\IntsAre vs ns/\ns.length<=n:=by
 have k:WShape.hasAll [] args [.list .int]=true:=(pre_splitW c).1;have m:l.pre.holds [] {args:=args}=true:=(pre_splitW c).2;obtain⟨d,r,rfl,x,w⟩:=hasAllW_cons k;obtain rfl:=hasAllW_nil w;obtain⟨y,rfl,v⟩:=hasW_list x;obtain⟨ns,rfl⟩:=items_int v;have e:ns.length<=n:=by
  unfold OpenLaw.pre at m;have i:(WTm.not (.lt (.lit (.int (n:Int))) (.len (.arg 0)))).holds [] {args:=[.list (ns.map .int)]}=true:=by have i:=(holds_andW m).1;rw[u]at i;exact i
  have g:=condW_of i (w_not (w_lt w_lit (w_len_list (w_arg rfl))));rw[AN]at g;refine WU λq=>?_;have s:(n:Int)<((ns.length:Nat):Int):=by lia
  first
   |(rw[Do s]at g;exact absurd g (by decide))
   |(simp at g;lia)
 cases j with
 |cons p o=>
  cases o;cases p with
  |list t f=>exact⟨_,_,ns,rfl,rfl,t,jW ns _ f,e⟩
theorem yd(l:OpenLaw)(args:List WData):l.row.toRowW.claim.post args (.bool true) args=true:=
 postW_of (r:=l.row.toRowW) (X:=(true==true))
  (show WShape.has [] (.bool true) .bool=true by first|rfl|decide|simp[WShape.has,WShape.arms,WShape.armsAll])
  (show(WTm.eq .res (.lit (.bool true))).value [] {args:=args,res:=some (.bool true),after:=args}=some (.bool (true==true))from w_eq_bool (w_res rfl) w_lit) rfl
theorem rO{l:OpenLaw}{n:Nat}{q:Program}{e:List Str}{H:(Str->Option Value)->Heap->Prop}{E:World->Heap->Prop}{d:DefRec}
 (L:l.most=some n)(y:d.params.defaults=[])
 (call:∀(w:World)(c b:Shared)(p u:Str->Option Value)(m:Addr)(o:Obj)(t s h:Value)(a:Addr)(vs:List Value)(ns:List Int),
   Ground q e [] H w c p u b.heap->E w b.heap->
   b.heap.get? m=some o->o.data=.func (docDef d.name d.params d.body d.scope t s h)->b.heap.CodeRec s d.name->p d.name=some (.ref m)->
   b.heap.get? a=some {cls:=.type "list",data:=.seq vs.toArray}->IntsAre vs ns->ns.length<=n->b.gens= #[]->
   codeAny (model l.prog w) callerA (.call (.ref m) ⟨[.ref a],[]⟩) (λr s'=>r=.ok (.ret (.bool true))/\OldK b.heap s'.heap/\s'.os=b.os/\AllBare s'.gens) b):
 WalkO q e H E l.row.toRowW d [] (λf vs=>PySem.call f vs):=by
 intro w c b p u G Y m o t s h T kV K P z C x O D A U i B I v N;obtain rfl:T=.none:=Dflts.none C y;obtain rfl:kV=.none:=Dflts.noKw C;obtain⟨a,vs,ns,rfl,rfl,j,g,k⟩:=yc L i v;refine enter_call (WX (call w c b p u m o t s h a vs ns G Y K (fd_plain P) z x j g k O) λr s' J=>?_);obtain⟨rfl,S,R,Q⟩:=J;exact⟨.inl ⟨.bool true,.bool true,[],rfl,λ_=>rfl,.bool true,yd l _,λ_=>⟨Xl,λ_ M=>(nomatch M)⟩⟩,S,R,Q⟩
section
variable{prog:Program}{w:World}{A:Around}{E:Value->Shared->Prop}{s:Shared}{K:Frag}
end
end SG
namespace L2
open PySem PySem.Spec PyProof.Rows
theorem jg:∀{vs:List Value}{ns:List Int},IntsAre vs ns->Vals (ns.map V.int) vs
 |_,_,.nil=>.nil
 |_,_,.cons n t h=>.cons ⟨t,rfl⟩ (jg h)
noncomputable def z3(H:Hp):Prop:=∀b,H b=none\/∃o a,H b=some (.rD o (.lst a))
theorem z4{P:Program}{w:World}{K:Frag}{p M:Str->Option Value}{CX:x8}{k:Nat}{Q a:Addr}{Z:FuncData}{x:Str}{sp:Sp}{c:Shared}{vs:List Value}{ns:List Int}
 (KX:K.In c.heap)(y:c.heap.Ns mainGlobals p)(f:c.heap.Ns builtinsNs M)(Ud:∀x:Str,x≠"__name__"->M x=bootBuiltins x)(A:c.heap.NoLimit)(I:c.heap.NoSeer)(Nr:P.given.tree=none)(hg:c.gens= #[])
 (B:c.heap.get? a=some {cls:=.type "list",data:=.seq vs.toArray})(U:IntsAre vs ns)(T:ns.length<=sizeLine)(hr:bX k callerA)
 (F:∀base:Heap,K.In base->base.Ns mainGlobals p->bK P w K p base CX k Q Z [x] sp)(j:∀(s:Shared)(u:Value),BindsTo s Z ⟨[u],[]⟩ [(x,u)])
 (zo:∀H:Hp,z3 H->fh K H a (ns.map V.int)->sp [.ref a] H (λv _=>v=.bl true) λ_ _ _=>False)
 (Ra:∀H e s',CX [] H c (λ_ _ _=>False) e s'->False):
 codeAny (model P w) callerA (.call (.ref Q) ⟨[.ref a],[]⟩) (λr s'=>r=.ok (.ret (.bool true))/\OldK c.heap s'.heap/\s'.os=c.os/\AllBare s'.gens) c:=by
 have rv:=jg U;have Rb:=U.length;have g:∀H:Hp,z3 H->fh K H a (ns.map V.int)->fS P w H c.heap->(∀b,H b≠none->b=a)->(H a≠none->K.lookup a=none)->
  codeAny (model P w) callerA (.call (.ref Q) ⟨[.ref a],[]⟩) (λr s'=>r=.ok (.ret (.bool true))/\OldK c.heap s'.heap/\s'.os=c.os/\AllBare s'.gens) c:=by
  intro H Y hS t O hK;have L:∀{b:Addr}{o:Obj},c.heap.get? b=some o->H b=none->(oR c.heap H).get? b=some o:=λe n=>zB e n;have Nc:∀{b:Addr}{o:Obj}{C:Array DictEntry}{D:Nat},c.heap.get? b=some o->o.data=.dict C D->H b=none:=λ{b o C D} e d=>by
   cases q:H b with
   |none=>rfl
   |some u=>have E:b=a:=O b (by rw[q];simp);subst E;rw[B]at e;cases e;have R:Data.seq vs.toArray _=Data.dict C D:=d;cases R
  have i:∀{b:Addr}{m:Str->Option Value},c.heap.Ns b m->(oR c.heap H).Ns b m:=λ{b m} ⟨o,C,D,e,d,r⟩=>⟨o,C,D,L e (Nc e d),d,r⟩;have SH:K.In (oR c.heap H):=λb o e=>L (KX b o e) (by
   cases q:H b with
   |none=>rfl
   |some u=>have E:b=a:=O b (by rw[q];simp);subst E;rw[hK (by rw[q];simp)]at e;cases e)
  have Ue:∀{b:Addr}{o:Obj},c.heap.get? b=some o->o.cls=.type "module"->H b=none:=λ{b o} e d=>by
   cases q:H b with
   |none=>rfl
   |some u=>have E:b=a:=O b (by rw[q];simp);subst E;rw[B]at e;cases e;have R:Value.type "list"=Value.type "module":=d;exact absurd R (by decide)
  have hM:Mod K p (oR c.heap H):=⟨SH,i y,⟨M,i f,Ud⟩,let⟨mc,h1,h2⟩:=A;⟨mc,i h1,h2⟩,⟨let⟨m,h1,h2⟩:=I.statics;⟨m,i h1,h2⟩,let⟨m,h1,h2⟩:=I.mods;⟨m,i h1,h2⟩,let⟨m,h1,h2⟩:=I.imp;⟨m,i h1,h2⟩,let⟨m,bm,J,h1,h2,h3,h4,h5⟩:=I.main;⟨m,bm,J,i h1,h2,L h3 (Ue h3 h4),h4,h5⟩⟩⟩;have e0:m7 P w K p (oR c.heap H) callerA [] c H:=⟨rfl,hM,λb o e=>CQ e,WA (xP _ _),trivial,λb f=>absurd (show b∈([]:List Addr)from f) (by simp),t,.of_eq hg,Nr⟩;refine WX ((F _ SH (i y)).run callerA [] c H ⟨[.ref a],[]⟩ [.ref a] [.ref a] _ _ hr e0 (j c (.ref a)) (.cons rfl .nil) (zo H Y hS)) λr s' h=>?_;cases r with
  |error e=>exact(Ra H e s' h).elim
  |ok fl=>
   cases fl with
   |next=>exact HP h
   |brk=>exact HP h
   |cont=>exact HP h
   |ret u=>
    obtain⟨v,H',os,G,S,Rc,r',q⟩:=h;have q':v=.bl true:=q;subst q';obtain rfl:u=Value.bool true:=r';refine⟨rfl,OldK.of_keep λb o e=>?_,os,G⟩;cases q:H b with
    |none=>exact S.keep b o e q (by intro z;exact absurd (show b∈([]:List Addr)from z) (by simp)) (by simp)
    |some u=>
     rcases Y b with z|⟨J,xs,z⟩
     .rw[q]at z;cases z
     .have z2:=S.ie b J _ z;obtain⟨e1,_⟩:=t b _ z;obtain⟨e2,_⟩:=Rc b _ z2;rw[e]at e1;cases e1;exact e2
 cases N:K.lookup a with
 |some o=>have e:=KX a o N;rw[B]at e;cases e;refine g (λ_=>none) (λ_=>.inl rfl) (.inr ⟨_,vs.toArray,_,N,rfl,rfl,rfl,by rw[FC,Rb];exact T,by simpa using rv⟩) (λb u z=>by have l:(none:Option HO)=some u:=z;cases l) (λb z=>absurd rfl z) λz=>absurd rfl z
 |none=>
  refine g (λb=>if b=a then some (.rD {cls:=.type "list",data:=.seq vs.toArray} (.lst (ns.map V.int)))else none) (λb=>?_) (.inl (.inr ⟨{cls:=.type "list",data:=.seq vs.toArray},Bz rfl⟩)) (λb u z=>?_) (λb z=>?_) λ_=>N
  .by_cases f:b=a
   .exact .inr ⟨_,_,Bz f⟩
   .exact .inl (Bi f)
  .by_cases f:b=a
   .have l:=(Bz f).symm.trans z;cases l;subst f;exact⟨B,by rw[AN];exact T,vs,_,rv,B⟩
   .have l:=(Bi f).symm.trans z;cases l
  .by_cases f:b=a
   .exact f
   .exact absurd (Bi f) z
theorem Du{l:PySem.W.OpenLaw}{n k:Nat}{q:Program}{i:List Str}{XP:(Str->Option Value)->Heap->Prop}{E:World->Heap->Prop}{d:DefRec}{K:Params->Frag}{CX:World->x8}{sp:World->Sp}{x:Str}
 (M:l.most=some n)(z:n<=sizeLine)(B:d.params.defaults=[])(L:bX k callerA)(Rf:importsNone q=true)(y:l.prog.given.tree=none)
 (Q:∀(w:World)(h:Heap),E w h->(K w.params).In h)
 (F:∀(w:World)(m:Str->Option Value)(t:Addr)(h:Heap),(K w.params).In h->h.Ns mainGlobals m->m d.name=some (.ref t)->
   ∃C:FuncData,(∀(s:Shared)(u:Value),BindsTo s C ⟨[u],[]⟩ [(x,u)])/\
    ∀base:Heap,(K w.params).In base->base.Ns mainGlobals m->bK l.prog w (K w.params) m base (CX w) k t C [x] (sp w))
 (J:∀(w:World)(H:Hp)(a:Addr)(ns:List Int),ns.length<=n->z3 H->fh (K w.params) H a (ns.map V.int)->sp w [.ref a] H (λv _=>v=.bl true) λ_ _ _=>False)
 (Ra:∀(w:World)(H:Hp)(s:Shared)(e:Value)(s':Shared),CX w [] H s (λ_ _ _=>False) e s'->False):
 PySem.W.WalkO q i XP E l.row.toRowW d [] (λf vs=>PySem.call f vs):=by
 refine SG.rO M B λw D p m mb t o pm cd Z a vs ns G Y ho hd O A r j c N=>?_;have I:=Q w _ Y;obtain⟨C,P,U⟩:=F w m t _ I G.T.g A;exact z4 I G.T.g G.T.b G.T.builtins G.T.nolimit (G.T.seer Rf) y N r j (Hm c z) L U P (λH S R=>J w H a ns c S R) λH e s'=>Ra w H p e s'
noncomputable def bN(s:Stmt):Arguments:=match s with
 |.FunctionDef _ a _ _ _ _ _ _ _ _=>a
 |_=>{posonlyargs:=[],args:=[],vararg:=none,kwonlyargs:=[],kw_defaults:=[],kwarg:=none,defaults:=[]}
noncomputable def aX(s:Stmt):List Stmt:=match s with
 |.FunctionDef _ _ b _ _ _ _ _ _ _=>b
 |_=>[]
noncomputable def ak(s:Stmt):Scope:=match s with
 |.FunctionDef _ _ _ _ _ _ sc _ _ _=>sc
 |_=>{kind:=.function,names:=[],isGenerator:=false,isCoroutine:=false}
abbrev Nt:x8:=λ_ _ _ _ _ _=>False
abbrev E0:XK:=λ_ _ _=>False
structure CK(K:Frag)(x qual:Str)(st:Stmt)(f:Addr)(fd:FuncData):Prop where
 ex:∃(oc:Value)(od:Option Addr)(kV doc pm:Value)(an:Option Addr)(cdv ct:Value)(osl:Array (Option Value)),
  fd=fnOf x qual (bN st) (aX st) (ak st) .none kV doc pm an cdv ct/\K.lookup f=some ⟨oc,od,.func fd,osl⟩/\codeIn K cdv qual=true
 kp:keepIn K (.ref f)=true
section
variable{P:Program}{w:World}{K:Frag}{mg:Str->Option Value}{base:Heap}
theorem CK.binds{x a:Str}{st:Stmt}{f:Addr}{k:FuncData}{e:List Str}(F:CK K x a st f k)
 (h:∀(kV b g:Value)(j:Option Addr)(c i:Value)(d:List Value),d.length=e.length->bindArgs (fnOf x a (bN st) (aX st) (ak st) .none kV b g j c i) ⟨d,[]⟩=pure (e.zip d)):Binds K k e []:=by
 obtain⟨o,n,kV,b,g,j,c,i,l,rfl,p,m⟩:=F.ex;exact .all (h kV b g j c i)
theorem IL{x a:Str}{st:Stmt}{f:Addr}{m:Value}{j i:Option Addr}{e:Array (Option Value)}{kV d g b h:Value}(l:K.lookup f=some ⟨m,j,.func (fnOf x a (bN st) (aX st) (ak st) .none kV d g i b h),e⟩)
 (c:codeIn K b a=true)(k:keepIn K (.ref f)=true):CK K x a st f (fnOf x a (bN st) (aX st) (ak st) .none kV d g i b h):=⟨⟨m,j,kV,d,g,i,b,h,e,rfl,l,c⟩,k⟩
end
section
variable{X:Cx}
end
noncomputable def ao(H H':Hp):Prop:=∀b o,H b=some o->H' b=some o
theorem ao.refl(H:Hp):ao H H:=λ_ _ h=>h
theorem ao.trans{H e d:Hp}(a:ao H e)(b:ao e d):ao H d:=λc o h=>b c o (a c o h)
theorem ao.free{H H':Hp}(e:ao H H'){l:Addr}(h:H' l=Wf):H l=Wf:=by
 cases q:H l with
 |none=>rfl
 |some o=>rw[e l o q]at h;cases h
end L2
namespace Num
theorem z5(a b q:Int):Nv b (a -q*b)=Nv a b:=by
 apply Nat.dvd_antisymm
 .apply Y0
  .have f:((Nv b (a -q*b):Nat):Int)∣b:=XI ..;have d:((Nv b (a -q*b):Nat):Int)∣(a -q*b):=X8 ..;have c:=SL d (Sv f:_∣q*b);have e:a -q*b+q*b=a:=by lia
   rw[e]at c;exact c
  .exact XI ..
 .apply Y0
  .exact X8 ..
  .exact SV (XI ..) (Sv (X8 ..))
theorem fl(a b:Int)(c:b≠0):(0<b->0<=a -a.fdiv b*b/\a -a.fdiv b*b<b)/\(b<0->b<a -a.fdiv b*b/\a -a.fdiv b*b<=0):=by
 have e:=Int.mul_ediv_add_emod a b;have f:=Pl a c;have d:a%b<(b.natAbs:Int):=by
  rcases R6 0 b with z|z
  .have:=Nw a z;lia
  .have:=Nw a (show 0< -b by lia);rw[Int.emod_neg]at this;lia
 rw[Int.fdiv_eq_ediv];have g:b*(a/b)=(a/b)*b:=SF _ _;constructor
 .intro h;rw[Bz (Or.inl (by lia)),X0];lia
 .intro h;split
  .rename_i hd
   have hz:a%b=0:=XJ (by lia);rw[X0];lia
  .rename_i hd
   have hz:a%b≠0:=λz=>hd (.inr (TV z));have:(a/b -1)*b=a/b*b -b:=by rw[Int.sub_mul];lia
   lia
theorem uy(a b:Int)(c:b≠0):(a -a.fdiv b*b).natAbs<b.natAbs:=by have:=fl a b c;omega
theorem fmod_eq(a b:Int):a.fmod b=a -a.fdiv b*b:=by have:=Int.mul_fdiv_add_fmod a b;have:b*a.fdiv b=a.fdiv b*b:=SF _ _;omega
theorem GD(a b:Int)(c:b≠0):(a.fdiv b).natAbs*b.natAbs<=a.natAbs+b.natAbs:=by have h:=uy a b c;rw[<-X5];omega
theorem Rg(a b:Int)(c:b≠0):(a.fdiv b).natAbs<=a.natAbs+b.natAbs:=by have h:=GD a b c;have:(a.fdiv b).natAbs*1<=(a.fdiv b).natAbs*b.natAbs:=WY _ (by lia);lia
noncomputable def Sg(x y:Int):Prop:=(0<x/\0<=y)\/(x<0/\y<=0)
theorem Dv(x y:Int)(a:y≠0):Sg y (x -x.fdiv y*y):=by have h:=fl x y a;unfold Sg;omega
theorem Nu{x y:Int}(h:Sg x y)(g:y≠0):x.natAbs=(x.fdiv y).natAbs*y.natAbs+(x -x.fdiv y*y).natAbs:=by
 have b:=fl x y g;rw[<-X5];generalize i:x.fdiv y=q at b⊢;have f:0<=q:=by
  rcases R6 q 0 with z|z
  .exfalso
   rcases h with⟨d,c⟩|⟨d,c⟩
   .have a:0<y:=by lia
    have:=WW (show q<=-1 by lia) (show 0<=y by lia);have:=b.1 a;lia
   .have a:y<0:=by lia
    have:=WW (show q<=-1 by lia) (show 0<=-y by lia);have e:q* -y= -(q*y):=Xz _ _;have:=b.2 a;lia
  .exact z
 rcases h with⟨d,c⟩|⟨d,c⟩
 .have:=Xc f (show 0<=y by lia);have:=b.1 (by lia);clear this;lia
 .have:=Xc f (show 0<=-y by lia);have e:q* -y= -(q*y):=Xz _ _;have:=b.2 (by lia);lia
noncomputable def Ib(n:Nat)(x y u a:Int):Prop:=a.natAbs*x.natAbs+u.natAbs*y.natAbs<=3*2^n
theorem vP{n:Nat}{x y u a:Int}(h:Ib n x y u a)(f:Sg x y)(d:y≠0):Ib n y (x -x.fdiv y*y) a (u -x.fdiv y*a):=by
 have e:=Nu f d;unfold Ib at h⊢;have c:(u -x.fdiv y*a).natAbs<=u.natAbs+(x.fdiv y).natAbs*a.natAbs:=by rw[<-X5];omega
 generalize(x -x.fdiv y*y).natAbs=r at e⊢;generalize(x.fdiv y).natAbs=q at e c;generalize(u -x.fdiv y*a).natAbs=w at c⊢;generalize u.natAbs=U at*;generalize a.natAbs=b at*;generalize y.natAbs=Y at*;generalize x.natAbs=X at*;subst e;have i:w*Y<=(U+q*b)*Y:=Nat.mul_le_mul_right _ c;have g:(U+q*b)*Y+b*r=b*(q*Y+r)+U*Y:=by grind
 omega
theorem rP{n:Nat}{x y u a:Int}(h:Ib n x y u a)(c:Sg x y):a.natAbs<2^(n+2):=by
 unfold Ib at h;have b:1<=x.natAbs:=by unfold Sg at c;lia
 have:a.natAbs*1<=a.natAbs*x.natAbs:=WY _ b;have e:2^(n+2)=4*2^n:=by rw[XU];lia
 have:0<2^n:=Uo (by decide);lia
noncomputable def Bd(n:Nat)(r:Rat):Prop:=r.num.natAbs<2^n/\r.den<2^n
noncomputable def cf(b a:List Int):Nat->Nat->Int
 |0,_=>0
 |i+1,k=>cf b a i k+b.getD i 0*(if i<=k then a.getD (k -i) 0 else 0)
noncomputable def qS(b a:List Int)(i j k:Nat):Int:=cf b a i k+(if i<=k/\k<i+j then b.getD i 0*a.getD (k -i) 0 else 0)
theorem rQ(b a:List Int)(i k:Nat):qS b a i 0 k=cf b a i k:=by unfold qS;rw[Bi (by lia)];lia
theorem rR(b a:List Int)(i k:Nat):qS b a i a.length k=cf b a (i+1) k:=by
 unfold qS;rw[cf];by_cases h:i<=k
 .by_cases c:k<i+a.length
  .rw[Bz ⟨h,c⟩,Bz h]
  .have e:a.getD (k -i) 0=0:=by rw[AC,FR (by lia)];rfl
   rw[Bi (by lia),Bz h,e,WR]
 .rw[Bi (by lia),Bi h,WR]
theorem kM(b a:List Int)(i j k:Nat):qS b a i (j+1) k=qS b a i j k+(if k=i+j then b.getD i 0*a.getD j 0 else 0):=by
 unfold qS;by_cases h:k=i+j
 .subst h;rw[Bz (by lia),Bi (by lia),Bz rfl,Sw];lia
 .rw[Bi h];by_cases c:i<=k/\k<i+j
  .rw[Bz (by lia),Bz c];lia
  .rw[Bi (by lia),Bi c];lia
theorem Dw{a b:List Int}{i:Nat}(h:a.getD i 0=0)(k:Nat):cf a b (i+1) k=cf a b i k:=by rw[cf,h,SC,Tb]
noncomputable def cW(ns a:List Int):Prop:=∃k,k<=ns.length/\a=ns.take k/\(∀j,k<=j->j<ns.length->ns.getD j 0=0)/\(k=0\/ns.getD (k -1) 0≠0)
theorem cW.last{ns a:List Int}(h:cW ns a):a=[]\/a.getD (a.length -1) 0≠0:=by
 obtain⟨k,c,rfl,e,b⟩:=h;rcases b with q|q
 .left;rw[q];rfl
 .by_cases d:k=0
  .left;rw[d];rfl
  .right;rw[Re,Nat.min_eq_left c,AC,WE (by lia),<-AC];exact q
theorem cW.mem{ns a:List Int}(h:cW ns a):∀m∈a,m∈ns:=by obtain⟨k,_,rfl,_⟩:=h;exact λm b=>List.mem_of_mem_take b
noncomputable def af(p:Int):Prop:=2<=p/\∀d:Int,2<=d->d*d<=p->p%d≠0
theorem gH{p x:Int}(d:af p)(h:0<x)(l:x<p):Nv p x=1:=by
 obtain⟨k,b⟩:=d;have i:0<Nv p x:=Int.gcd_pos_of_ne_zero_left _ (by lia);obtain⟨q,a⟩:((Nv p x:Nat):Int)∣p:=XI ..;have n:((Nv p x:Nat):Int)<=x:=UF h (X8 ..);generalize j:((Nv p x:Nat):Int)=g at*;have m:1<=g:=by lia
 rcases R6 1 g with f|e
 .exfalso
  have c:2<=q:=by
   rcases R6 q 2 with z|z
   .have:q<=1:=by lia
    have:=TK this (show 0<=g by lia);lia
   .exact z
  rcases Xs g q with z|z
  .have:g*g<=g*q:=TK z (by lia);exact b g (by lia) (by lia) (XJ ⟨q,a⟩)
  .have:q*q<=g*q:=WW z (by lia);exact b q c (by lia) (XJ ⟨g,by rw[a,SF]⟩)
 .lia
noncomputable def ev(x:Rat):List Rat->Rat
 |[]=>0
 |r::a=>r+x*ev x a
noncomputable def wv(t b:Int):List Int->Int
 |[]=>0
 |x::s=>wv t b s*t+x*b^s.length
noncomputable def sm(f:Nat->Int):Nat->Int
 |0=>0
 |n+1=>sm f n+f n
theorem cG{f g:Nat->Int}:∀n,(∀i,i<n->f i=g i)->sm f n=sm g n
 |0,_=>rfl
 |n+1,h=>by rw[sm,sm,cG n λi a=>h i (by lia),h n (by lia)]
theorem o9(f:Nat->Int):∀n,sm f (n+1)=f 0+sm (λi=>f (i+1)) n
 |0=>by rw[sm,sm,sm];lia
 |n+1=>by rw[sm,o9 f n,sm];lia
theorem z6(f:Nat->Int):∀n,sm (λi=>f (n -i)) (n+1)=sm f (n+1)
 |0=>rfl
 |n+1=>by rw[o9,cG (g:=λi=>f (n -i)) (n+1) λi a=>by congr 1;lia,z6 f n];rw[sm,sm,sm];show f (n+1 -0)+(sm f n+f n)=_;rw[Qq];lia
theorem pq{f:Nat->Int}{m:Nat}:∀n,m<=n->(∀i,m<=i->i<n->f i=0)->sm f n=sm f m
 |0,h,_=>by
  have:m=0:=by lia
  rw[this]
 |n+1,h,z=>by
  by_cases e:m=n+1
  .rw[e]
  .rw[sm,pq n (by lia) (λi a b=>z i a (by lia)),z n (by lia) (by lia),Tb]
theorem GF(b a:List Int)(k:Nat):∀n,cf b a n k=sm (λi=>b.getD i 0*(if i<=k then a.getD (k -i) 0 else 0)) n
 |0=>rfl
 |n+1=>by rw[cf,GF b a k n,sm]
theorem Dy(a d:List Int)(k:Nat):cf a d a.length k=sm (λi=>a.getD i 0*d.getD (k -i) 0) (k+1):=by
 rw[GF];have b:∀i,a.length<=i->a.getD i 0=0:=λi h=>by rw[AC,FR h];rfl
 rcases Nat.le_total a.length (k+1)with h|h
 .rw[<-pq (k+1) h λi c _=>by rw[b i c,SC]];exact cG _ λi e=>by rw[Bz (by lia)]
 .rw[pq a.length h λi c _=>by rw[Bi (by lia),WR]];exact cG _ λi e=>by rw[Bz (by lia)]
noncomputable def kN(l:List Rat):Prop:=∀x,l.getLast?=some x->x≠0
noncomputable def Nx(a:List Rat):List Rat:=a.map λx=> -x
noncomputable def SI(f:Nat->Rat):Nat->Rat
 |0=>0
 |n+1=>SI f n+f n
noncomputable def IM(f g:Nat->Rat)(k:Nat):Rat:=SI (λi=>f i*g (k -i)) (k+1)
theorem pA(c:Int)(f:Nat->Int):∀n,sm (λi=>c*f i) n=c*sm f n
 |0=>by rw[sm,sm,WR]
 |n+1=>by rw[sm,sm,pA c f n,Int.mul_add]
theorem kO(f g:Nat->Int):∀n,sm (λi=>f i+g i) n=sm f n+sm g n
 |0=>rfl
 |n+1=>by rw[sm,sm,sm,kO f g n];lia
theorem pB(p:Nat)(v:Nat->Int):∀n,sm (λi=>if i=p then v i else 0) n=if p<n then v p else 0
 |0=>by rw[sm,Bi (by lia)]
 |n+1=>by
  rw[sm,pB p v n];by_cases h:p<n
  .rw[Bz h,Bi (by lia),Bz (by lia)];lia
  .rw[Bi h];by_cases e:n=p
   .subst e;rw[Bz rfl,Bz (by lia)];lia
   .rw[Bi e,Bi (by lia)];lia
noncomputable def cg(f g:Nat->Int)(k:Nat):Int:=sm (λi=>f i*g (k -i)) (k+1)
theorem Dz(c h:Int)(Q O:Nat->Int)(p k:Nat):cg (λi=>c*Q i+if i=p then h else 0) O k=c*cg Q O k+if p<=k then h*O (k -p)else 0:=by
 unfold cg;rw[cG (g:=λi=>c*(Q i*O (k -i))+if i=p then h*O (k -i)else 0) (k+1) λi _=>?_,kO,pA,pB p λi=>h*O (k -i)]
 .by_cases a:p<=k
  .rw[Bz a,Bz (show p<k+1 by lia)]
  .rw[Bi a,Bi (show¬p<k+1 by lia)]
 .split
  .grind
  .grind
theorem DA(O:Nat->Int)(k:Nat):cg (λ_=>0) O k=0:=by unfold cg;rw[cG (g:=λi=>0*0) (k+1) λi _=>by rw[SC,SC],pA,SC]
theorem outI{ns:List Int}{k:Nat}(h:ns.length<=k):ns.getD k 0=0:=by rw[AC,FR h];rfl
noncomputable def Cd(D:Int)(n:Nat)(x:Rat):Prop:=∃z:Int,x*D=z/\z.natAbs<2^n
theorem z7{a b c:Int}(h:Nv a b=1)(e:a∣b*c):a∣c:=by
 have d:a.natAbs∣b.natAbs*c.natAbs:=by rw[<-X5];exact Um.mpr e
 exact Um.mp (Y1 (show Nat.Coprime a.natAbs b.natAbs from h) d)
theorem pC{ns b:List Int}(h:cW ns b)(k:Nat):b.getD k 0=ns.getD k 0:=by
 obtain⟨j,e,rfl,c,_⟩:=h;by_cases d:k<j
 .rw[AC,WE d,<-AC]
 .rw[outI (by rw[Re];lia)];by_cases a:k<ns.length
  .exact(c k (by lia) a).symm
  .exact(outI (by lia)).symm
theorem kP{ns a:List Int}(h:cW ns a):a.length<=ns.length:=by obtain⟨j,b,rfl,_⟩:=h;rw[Re];lia
end Num
namespace Sub
abbrev Ix:=Bool×Nat
abbrev Vc:=Ix->Int
noncomputable def ex(D:List Vc->Int)(r:Ix):List Vc->List Vc->Int
 |_,[]=>0
 |pre,c::post=>c r*D (pre++post) -ex D r (pre++[c]) post
noncomputable def det:List Ix->List Vc->Int
 |[],[]=>1
 |[],_::_=>0
 |r::a,cs=>ex (det a) r [] cs
noncomputable def sh(j:Nat)(P:Vc):Vc:=λi=>if j<=i.2 then P (i.1,i.2 -j)else 0
noncomputable def Rh(P:Vc):Nat->List Vc
 |0=>[]
 |n+1=>sh n P::Rh P n
noncomputable def rws:Nat->Nat->List Ix
 |_,0=>[]
 |0,_+1=>[]
 |E+1,c+1=>(false,E)::rws E c
noncomputable def comb(c:Int)(a:Vc):List (Int×Vc)->Vc
 |[]=>λi=>c*a i+0*a i
 |z::L=>λi=>1*comb c a L i+z.1*z.2 i
noncomputable def SS(E:Nat)(A B:Vc)(a b:Nat)(c:Ix):Int:=det (rws E (a+b -1)++[c]) (Rh A a++Rh B b)
noncomputable def less(c:Int)(A B:Vc)(L:List (Int×Nat)):Vc:=comb c A (L.map λz=>(z.1,sh z.2 B))
noncomputable def Ug(a:Int):Prop:=a=1\/a= -1
structure Ch(A B:Vc)(m n:Nat)(P Q:Vc)(p q:Nat)(lp lq h:Int):Prop where
 hpq:q<=p
 Wa:lp≠0
 h0:h≠0
 Wb:lq≠0
 lead:Q (false,q)=lq
 zero:∀t,q<t->Q (false,t)=0
 inv:∀k,k<=q->k<p->∃ε:Int,Ug ε/\∀ρ,SS (p+q -k) P Q (q -k) (p -k) ρ=ε*(lp^(q -k)*h^(p -k -1))*SS (m+n -k) A B (n -k) (m -k) ρ
end Sub
namespace Sub
open Num
noncomputable def vc(r f:List Int):Vc:=λi=>if i.1 then f.getD i.2 0 else r.getD i.2 0
end Sub
namespace Num
end Num
namespace Sub
open Num
structure CS(ns ms f0 g0:List Int)(w E b1:Nat)(P Q fP fQ:List Int)(ld h:Int):Prop where
 ch:Ch (vc ns f0) (vc ms g0) (ns.length -1) (ms.length -1) (vc P fP) (vc Q fQ) (P.length -1) (Q.length -1) ld (Q.getD (Q.length -1) 0) h
 lq:0<Q.length
 Wc:Q.length<=P.length
 lp:P.length<=ns.length
 We:Q.length<=ms.length
 lf:fP.length+Q.length<=b1
 Uh:fQ=[]\/fQ.length+P.length<=b1
 bP:∀i,(vc P fP i).natAbs<=2^(w*(ns.length -1+(ms.length -1)+1))
 bQ:∀i,(vc Q fQ i).natAbs<=2^(w*(ns.length -1+(ms.length -1)+1))
 bl:ld.natAbs<=2^(w*(ns.length -1+(ms.length -1)+1))
 bh:h.natAbs<=2^(w*(ns.length -1+(ms.length -1) -2*(P.length -1)))
structure FX(ns ms f0 g0:List Int)(w E:Nat):Prop where
 l1:ms.length<=ns.length
 l2:ns.length<=50
 M:∃M:Nat,(∀i,(vc ns f0 i).natAbs<=M)/\(∀i,(vc ms g0 i).natAbs<=M)/\1<=M/\(ns.length -1+(ms.length -1)+1)*M<=2^w
 E1:∀p,(ns.length -1+(ms.length -1) -2*p)*p+(ns.length -1+(ms.length -1)+1)<=E
theorem getD_mem'{ns:List Int}{k:Nat}(h:k<ns.length):ns.getD k 0∈ns:=by rw[AC,B1 h];exact Pt h
theorem map_getD{ns:List Int}{f:Int->Int}(a:f 0=0)(k:Nat):(ns.map f).getD k 0=f (ns.getD k 0):=by
 rw[AC,FK,AC];cases ns[k]? with
 |none=>exact a.symm
 |some z=>rfl
end Sub
namespace Num
noncomputable def pF(p:Int)(ns a:List Int)(Q:Nat->Int)(R:List Int):Prop:=∀k,p∣ns.getD k 0 -(cg Q (λi=>a.getD i 0) k+R.getD k 0)
theorem pF.start(p:Int)(ns a:List Int):pF p ns a (λ_=>0) ns:=λk=>by rw[DA,Wp,Xo];exact Uc _
theorem z8(h:Int)(Q O:Nat->Int)(p k:Nat):cg (λi=>Q i+if i=p then h else 0) O k=cg Q O k+if p<=k then h*O (k -p)else 0:=by have:=Dz 1 h Q O p k;rw[XY]at this;rw[<-this];congr 1;funext i;rw[XY]
theorem vR{p a b:Int}(e:p∣a)(d:p∣b){c:Int}(h:c=a+b):p∣c:=by rw[h];exact SL e d
theorem pF.step{p:Int}{ns a:List Int}{l:Int}{b:Nat}{Q:Nat->Int}{R R':List Int}{h:Int}(d:pF p ns a Q R)(s:0<a.length)(m:l=a.getD (a.length -1) 0)(t:R.length=b+a.length)(u:R'.length=b+a.length -1)(f:p∣h*l -R.getD (b+a.length -1) 0)
 (j:∀k,k<b+a.length -1->p∣R'.getD k 0 -(R.getD k 0 -if b<=k then h*a.getD (k -b) 0 else 0)):
 pF p ns a (λi=>Q i+if i=b then h else 0) R':=λk=>by
 rw[z8];have e:=d k;generalize ns.getD k 0=n at*;generalize cg Q (λi=>a.getD i 0) k=c at*;by_cases q:k<b+a.length -1
 .have:=j k q;generalize R'.getD k 0=g at*;generalize R.getD k 0=r at*;show p∣n -(c+(if b<=k then h*a.getD (k -b) 0 else 0)+g);generalize(if b<=k then h*a.getD (k -b) 0 else 0)=x at*;exact vR e (XZ.mpr this) (by lia)
 .by_cases o:k=b+a.length -1
  .rw[<-o]at f;rw[outI (ns:=R') (by lia),Bz (by lia)];show p∣n -(c+h*a.getD (k -b) 0+0);rw[show k -b=a.length -1 by lia,<-m];generalize R.getD k 0=r at*;exact vR e (XZ.mpr f) (by lia)
  .rw[outI (ns:=R) (k:=k) (by lia)]at e;rw[outI (ns:=R') (by lia)];have z:(if b<=k then h*(λi=>a.getD i 0) (k -b)else 0)=0:=by
    split
    .show h*a.getD (k -b) 0=0;rw[outI (by lia),WR]
    .rfl
   rw[z];rw[show n -(c+0+0)=n -(c+0) by lia];exact e
theorem DB{a b:List Int}(g:a=[]\/a.getD (a.length -1) 0≠0)(c:b=[]\/b.getD (b.length -1) 0≠0)(h:∀k,a.getD k 0=b.getD k 0):a=b:=by
 have d:∀{a b:List Int},(b=[]\/b.getD (b.length -1) 0≠0)->(∀k,a.getD k 0=b.getD k 0)->b.length<=a.length:=λ{a b} c h=>by
  rcases c with rfl|c
  .exact KE _
  .rcases Xk a.length b.length with z|z
   .exact absurd ((h _).symm.trans (outI (by lia))) c
   .exact z
 have e:a.length=b.length:=Vu (d g λk=>(h k).symm) (d c h);apply W3;intro k;by_cases f:k<a.length
 .have:=h k;rw[AC,AC,B1 f,B1 (show k<b.length by lia)]at this;rw[B1 f,B1 (show k<b.length by lia)];exact GM some this
 .rw[FR (by lia),FR (by lia)]
theorem mod_eq{p x y:Int}(b:0<=x/\x<p)(a:0<=y/\y<p)(h:p∣x -y):x=y:=by
 have d:=RG b.1 b.2;have c:=RG a.1 a.2;have:=Int.emod_emod_of_dvd (x -y) (Int.dvd_refl p);obtain⟨k,f⟩:=h;have e:x=y+p*k:=by lia
 rw[<-d,e,Int.add_mul_emod_self_left,c]
theorem cL{p:Int}(b:0<p){ns:List Int}(h:∀x∈ns,0<=x/\x<p)(k:Nat):0<=ns.getD k 0/\ns.getD k 0<p:=by
 by_cases a:k<ns.length
 .rw[AC,B1 a];exact h _ (Pt a)
 .rw[outI (by lia)];exact⟨by lia,b⟩
theorem ye{p x l:Int}(b:af p)(a:0<l/\l<p)(h:p∣x*l):p∣x:=by have c:=gH b a.1 a.2;exact z7 c (by rw[SF]at h;exact h)
theorem eE(f g:Nat->Int)(k:Nat):cg f g k=cg g f k:=by unfold cg;rw[<-z6];refine cG _ λi a=>?_;show f (k -i)*g (k -(k -i))=g i*f (k -i);rw[show k -(k -i)=i by lia,SF]
theorem gh{f f' g g':Nat->Int}(b:∀i,f i=f' i)(a:∀i,g i=g' i)(k:Nat):cg f g k=cg f' g' k:=by rw[show f=f' from funext b,show g=g' from funext a]
theorem kQ(f g h:Nat->Int)(k:Nat):cg (λi=>f i+g i) h k=cg f h k+cg g h k:=by unfold cg;rw[<-kO];exact cG _ λi _=>Int.add_mul ..
theorem iD(c:Int)(f h:Nat->Int)(k:Nat):cg (λi=>c*f i) h k=c*cg f h k:=by unfold cg;rw[<-pA];exact cG _ λi _=>Xh ..
theorem z9(f g h:Nat->Int)(k:Nat):cg f (λi=>g i+h i) k=cg f g k+cg f h k:=by rw[eE,kQ,eE g,eE h]
theorem DC(c:Int)(f h:Nat->Int)(k:Nat):cg f (λi=>c*h i) k=c*cg f h k:=by rw[eE,iD,eE h]
theorem cH(f g:Nat->Int):cg f g 0=f 0*g 0:=by unfold cg;rw[sm,sm];show 0+f 0*g (0 -0)=_;rw[Wp]
theorem eG(f g:Nat->Int)(k:Nat):cg f g (k+1)=f 0*g (k+1)+cg (λi=>f (i+1)) g k:=by unfold cg;rw[o9];congr 1;exact cG _ λi a=>by show f (i+1)*g (k+1 -(i+1))=f (i+1)*g (k -i);rw[show k+1 -(i+1)=k -i by lia]
theorem nY(g h:Nat->Int):∀(k:Nat)(f:Nat->Int),cg (cg f g) h k=cg f (cg g h) k
 |0,f=>by rw[cH,cH,cH,cH,Xh]
 |k+1,f=>by rw[eG,eG f,cH,eG g];have e:(λi=>cg f g (i+1))=λi=>f 0*g (i+1)+cg (λi=>f (i+1)) g i:=funext λi=>eG f g i;rw[e,kQ,iD,nY g h k];generalize cg (λi=>g (i+1)) h k=x;generalize cg (λi=>f (i+1)) (cg g h) k=y;generalize h (k+1)=z;grind
theorem pG{f g:Nat->Int}{n m:Nat}(d:∀i,n<=i->f i=0)(c:∀i,m<=i->g i=0){k:Nat}(h:n+m<=k+1):cg f g k=0:=by
 unfold cg;rw[cG (g:=λ_=>0) _ λi e=>?_]
 .have:∀n,sm (λ_=>0) n=0:=λn=>by
   induction n with
   |zero=>rfl
   |succ n b=>rw[sm,b];rfl
  exact this _
 .show f i*g (k -i)=0;by_cases a:n<=i
  .rw[d i a,SC]
  .rw[c _ (by lia),WR]
abbrev co(a:List Int):Nat->Int:=λi=>a.getD i 0
theorem GG(a b:List Int)(k:Nat):cf a b a.length k=cg (co a) (co b) k:=Dy a b k
end Num
namespace Sub
open Num
end Sub
namespace Num
noncomputable def Aa(t:Rat):Rat->List Rat->List Rat
 |r,[]=>[r]
 |r,s::a=>(r+t*s)::Aa t s a
noncomputable def hz(t:Int):List Int->List Int
 |[]=>[]
 |r::a=>(r+t*(hz t a).headD 0)::hz t a
noncomputable def cs(l:List Int):List Rat:=l.map λx:Int=>((x:Int):Rat)
noncomputable def sc(u b:Rat):List Rat->List Rat
 |[]=>[]
 |r::a=>r*u*b^a.length::sc u b a
abbrev cQ(a:List Rat):Nat->Rat:=λi=>a.getD i 0
noncomputable def Fin(f:Nat->Rat):Prop:=∃n,∀i,n<=i->f i=0
noncomputable def DQ(g a:Nat->Rat):Prop:=∃s,Fin s/\∀k,a k=IM s g k
structure Mon(g:List Rat):Prop where
 ne:g≠[]
 one:g.getD (g.length -1) 0=1
end Num
namespace Sub
noncomputable def lc(y:Ix->Vc)(c:Vc):List Ix->Vc
 |[]=>λ_=>0
 |r::a=>λi=>1*lc y c a i+c r*y r i
end Sub
namespace Sub
open Num
noncomputable def pc(f:Nat->Int):Vc:=λi=>f i.2
noncomputable def one:Nat->Int:=λi=>if i=0 then 1 else 0
end Sub
namespace Num
end Num
namespace Num
open Sub
end Num
namespace Sub
open Num
end Sub
namespace Num
open Sub
section
variable{ι:Type}
inductive Ri(P:List (ι->Rat)):(ι->Rat)->(ι->Rat)->Prop where
 |refl (o:ι->Rat):Ri P o o
 |add {o x a:ι->Rat} (y:Rat) (h:Ri P o x) (m:a∈P):Ri P o (λi=>1*x i+y*a i)
noncomputable def pD:List ((ι->Rat)×Int)->Int
 |[]=>1
 |p::a=>p.2*pD a
end
abbrev vQ(l:List Rat):Nat->Rat:=cQ l
section
variable{ι α:Type}
end
noncomputable def line(N:Nat)(a:List Rat)(i:Nat):List Rat:=Ds i 0++a.reverse++Ds (N -i -a.length) 0
end Num
namespace Num
structure Ab(n:Nat)(a b x y u u2 v v2:Int):Prop where
 e1:u*a+v*b=x
 e2:u2*a+v2*b=y
 g:Nv x y=Nv a b
 bx:x.natAbs<2^n
 pH:y.natAbs<2^n
 bu:u.natAbs<2^(n+2)
 bv:v.natAbs<2^(n+2)
 SJ:u2.natAbs<2^(n+2)
 SK:v2.natAbs<2^(n+2)
 or:(u=1/\u2=0/\v=0/\v2=1)\/(Sg x y/\Ib n x y u u2/\Ib n x y v v2)
theorem pow2(n:Nat):1<2^(n+2):=by have:=Uo (n:=n) (show 0<2 by decide);rw[XU];omega
theorem Ab.next{n:Nat}{a b x y u d v c:Int}(I:Ab n a b x y u d v c)(e:y≠0):Ab n a b y (x -x.fdiv y*y) d (u -x.fdiv y*d) c (v -x.fdiv y*c):=by
 have j:=Dv x y e;have k:=uy x y e;have h:Ib n y (x -x.fdiv y*y) d (u -x.fdiv y*d)/\Ib n y (x -x.fdiv y*y) c (v -x.fdiv y*c):=by
  rcases I.or with⟨rfl,rfl,rfl,rfl⟩|⟨f,i,m⟩
  .have o:=GD x y e;have f:=I.bx;have i:=I.pH;unfold Ib;constructor
   .simp only[WR,X0,Int.natAbs_zero,Nat.zero_mul,Nat.add_zero];show 1*y.natAbs<=_;omega
   .simp only[SQ,Xn,Int.natAbs_neg];show _+1*_<=_;have l:(x.fdiv y).natAbs*y.natAbs<=x.natAbs+(x -x.fdiv y*y).natAbs:=by rw[<-X5];omega
    omega
  .exact⟨vP i f e,vP m f e⟩
 refine⟨I.e2,?_,?_,I.pH,XM k I.pH,I.SJ,I.SK,rP h.1 j,rP h.2 j,.inr ⟨j,h.1,h.2⟩⟩
 .have f:=I.e1;have i:=I.e2;generalize x.fdiv y=q;subst f;subst i;grind
 .rw[z5,I.g]
end Num
namespace Num
open Sub
theorem rS{p x y:Int}(a:af p)(h:p∣x*y):p∣x\/p∣y:=by
 have b:0<p:=by have:=a.1;lia
 by_cases c:y%p=0
 .exact .inr (TV c)
 .refine .inl (ye a (l:=y%p) ⟨?_,Nw _ b⟩ ?_)
  .have:=Pl y (show p≠0 by lia);lia
  .have e:=Os y p;have d:x*(y%p)=x*y -p*(x*(y/p)):=by
    have:y%p=y -p*(y/p):=by lia
    rw[this];grind
   rw[d];exact SV h ⟨_,rfl⟩
theorem DE{P:Nat->Prop}(h:∃i,¬P i):∃i,¬P i/\∀j,j<i->P j:=by
 obtain⟨i,d⟩:=h
 induction i using Nat.strongRecOn with
 |ind i c=>
  by_cases z:∃j,j<i/\¬P j
  .obtain⟨j,b,a⟩:=z;exact c j b a
  .exact⟨i,d,λj b=>FS λa=>z ⟨j,b,a⟩⟩
theorem kR{p:Int}{f:Nat->Int}:∀n,(∀i,i<n->p∣f i)->p∣sm f n
 |0,_=>Uc _
 |n+1,h=>by rw[sm];exact SL (kR n λi a=>h i (by lia)) (h n (by lia))
end Num
namespace Num
noncomputable def ab(u A:Rat):Prop:= -A<=u/\u<=A
noncomputable def In(a b x:Rat):Prop:=a<=x/\x<=b
noncomputable def dv(x:Rat):List Rat->Rat
 |[]=>0
 |_::a=>ev x a+x*dv x a
structure rT(a b:Rat)where
 l:Nat->Rat
 r:Nat->Rat
 lt:∀n,l n<r n
 up:∀n,l n<=l (n+1)
 dn:∀n,r (n+1)<=r n
 a0:a<=l 0
 b0:r 0<=b
 sm:∀e:Rat,0<e->∃n,r n -l n<=e
noncomputable def rT.I{a b:Rat}(N:rT a b)(n:Nat)(x:Rat):Prop:=In (N.l n) (N.r n) x
noncomputable def rT.Z{a b:Rat}(N:rT a b)(f:Rat->Rat):Prop:=∀e:Rat,0<e->∃n,∀x,N.I n x->ab (f x) e
noncomputable def rT.P{a b:Rat}(N:rT a b)(s:Rat)(f:Rat->Rat):Prop:=(s=1\/s= -1)/\∃c,0<c/\∃n,∀x,N.I n x->c<=s*f x
noncomputable def SM(a b:Rat)(f:Rat->Rat):Prop:=∃L,0<=L/\∀x y,In a b x->In a b y->x<=y->ab (f y -f x) (L*(y -x))
noncomputable def Ui(a b:Rat)(f:Rat->Rat):Prop:=∃B,0<=B/\∀x,In a b x->ab (f x) B
noncomputable def df(a b:Rat):Nat:=if 0<a then(if 0<b then 0 else 1)else(if 0<b then 1 else 0)
noncomputable def Rj(b:Rat):List Rat->Nat
 |[]=>0
 |x::l=>if x=0 then Rj b l else(if b=0 then 0 else df b x)+Rj x l
noncomputable def chg(l:List Rat):Nat:=Rj 0 l
inductive Ch(a b:Rat):List (Rat->Rat)->Prop
 |one {f:Rat->Rat} (c:Rat) (h0:c≠0) (h:∀x,In a b x->f x=c):Ch a b [f]
 |two {f g:Rat->Rat} (hf:SM a b f) (h:Ch a b [g]):Ch a b [f,g]
 |cons {f g h:Rat->Rat} {l:List (Rat->Rat)} (hf:SM a b f) (α β:Rat) (q:Rat->Rat) (a0:0<α) (b0:0<β) (hq:Ui a b q) (e:∀x,In a b x->α*f x+β*h x=q x*g x) (k:Ch a b (g::h::l)):Ch a b (f::g::h::l)
variable{a b:Rat}(N:rT a b)
section
variable{a b:Rat}(N:rT a b)
end
section
variable(Uj:Rat->Rat->Prop)
variable{Uj}
end
end Num
namespace Num
open Sub
noncomputable def GH(a b r:List Rat):Prop:=kN r/\r.length<b.length/\∃q:Nat->Rat,Fin q/\∀k,cQ a k=IM q (cQ b) k+cQ r k
inductive Rk:List Rat->List Rat->List (List Rat)->Prop
 |nil {a b:List Rat} (h:GH a b []):Rk a b []
 |cons {a b r:List Rat} {l:List (List Rat)} (h:GH a b r) (h0:r≠[]) (k:Rk b (Nx r) l):Rk a b (Nx r::l)
section
variable{ns ms A B Qs R:List Int}{w E D0:Nat}{ld h c:Int}{α β:Rat}{a b:List Rat}
end
abbrev Pq:=Nat->Rat
noncomputable def I1:Pq:=cQ [1]
noncomputable def Z0(f:Pq):Prop:=∀i,f i=0
noncomputable def Un(f:Pq):Prop:=DQ f I1
noncomputable def pw(p:Pq):Nat->Pq
 |0=>I1
 |n+1=>IM p (pw p n)
structure cu(p:Pq):Prop where
 fin:Fin p
 nz:¬Z0 p
 un:¬Un p
 or:∀d,Fin d->DQ d p->Un d\/DQ p d
noncomputable def Val(p f:Pq)(e:Nat):Prop:=∃s,Fin s/\f=IM (pw p e) s/\¬DQ p s
structure Tn(f:Pq)(k:Nat)(left beyond:Pq):Prop where
 fl:Fin left
 nl:¬Z0 left
 fb:Fin beyond
 nb:¬Z0 beyond
 v:∀p,cu p->∀e,Val p f e->Val p left (if k<=e then 1 else 0)/\Val p beyond (e -k)
end Num
namespace Num
end Num
namespace Num
open Sub
end Num
namespace VL
open PySem PySem.W PyProof.Rows
noncomputable def yg(n:Nat)(r:Nat->Nat){α:Type}:KasT α->(α->Prop)->Prop
 |.ret a,Q=>Q a
 |.ask i j k,Q=>i<n/\j<n/\yg n r (k (decide (r i<r j))) Q
theorem eK{n:Nat}{r:Nat->Nat}{α b:Type}{f:α->KasT b}{Q:b->Prop}:∀(t:KasT α),yg n r t (λa=>yg n r (f a) Q)->yg n r (t.bind f) Q
 |.ret _,h=>h
 |.ask _ _ _,h=>⟨h.1,h.2.1,eK _ h.2.2⟩
theorem Ac{n:Nat}{r:Nat->Nat}{α:Type}{I:Shared->Prop}{b:Nat->Nat->(Bool->Shared->Prop)->Shared->Prop}{Q:α->Prop}{g:α->Shared->Prop}(f:∀i j C s,i<n->j<n->I s->(∀s',I s'->C (decide (r i<r j)) s')->b i j C s)(e:∀a s,Q a->I s->g a s):∀(t:KasT α)(s:Shared),yg n r t Q->I s->t.kasWp b g s
 |.ret _,s,h,d=>e _ s h d
 |.ask i j k,s,h,d=>f i j _ s h.1 h.2.1 d λs' c=>Ac f e (k (decide (r i<r j))) s' h.2.2 c
noncomputable def kB(n:Nat)(p:Array Nat):Prop:=p.toList.Perm (Ea n)
theorem kB.sz{n:Nat}{p:Array Nat}(h:kB n p):p.size=n:=by have:=Y8 h;rw[GE]at this;exact this
theorem kB.lt{n:Nat}{p:Array Nat}(h:kB n p){k:Nat}(b:k<n):p.getD k 0<n:=by
 have a:=h.sz;have e:p.getD k 0=p[k]'(by omega):=by simp[Xt,a,b]
 rw[e];exact Kk.mp (TU h|>.mp (by simp))
theorem kB.Qe{n:Nat}{p:Array Nat}(h:kB n p)(i j:Nat):kB n (kas_rev p i j):=(Sb.mp (mirror_perm p i j _)).trans h
theorem kB.Uk{n:Nat}{p:Array Nat}(h:kB n p)(i j:Nat):kB n (bubble p i j):=(Sb.mp (bubble_perm p i j)).trans h
theorem uz{p:Array Nat}{i j:Nat}(a:j<=p.size)(k:Nat):(kas_rev p i j).getD k 0=if i<=k/\k<j then p.getD (i+j -1 -k) 0 else p.getD k 0:=by unfold kas_rev;simp only[SW];rw[getElem?_mirror_all a];split<;>rfl
theorem Ad{p:Array Nat}{a d:Nat}(b:a<p.size)(c:d<=a)(k:Nat):(bubble p a d).getD k 0=if k=a -d then p.getD a 0 else if a -d<k/\k<=a then p.getD (k -1) 0 else p.getD k 0:=by
 simp only[SW];rw[getElem?_bubble b d c];split
 .rfl
 .split<;>rfl
section
variable{n:Nat}{r:Nat->Nat}
noncomputable def qT(r:Nat->Nat)(p:Array Nat)(k:Nat):Prop:=∀i j,i<=j->j<k->r (p.getD i 0)<=r (p.getD j 0)
noncomputable def DF(r:Nat->Nat)(p:Array Nat)(k:Nat):Prop:=∀i j,i<=j->j<k->r (p.getD j 0)<=r (p.getD i 0)
theorem qT.s{p:Array Nat}{k:Nat}(h:qT r p k)(c:k=0\/r (p.getD (k -1) 0)<=r (p.getD k 0)):qT r p (k+1):=by
 intro i j b d;by_cases a:j<k
 .exact h i j b a
 .have e:j=k:=by omega
  subst e;by_cases e:i=j
  .rw[e];exact BM _
  .exact Hm (h i (j -1) (by omega) (by omega)) (c.resolve_left (by omega))
theorem DF.s{p:Array Nat}{k:Nat}(h:DF r p k)(c:k=0\/r (p.getD k 0)<=r (p.getD (k -1) 0)):DF r p (k+1):=by
 intro i j b d;by_cases a:j<k
 .exact h i j b a
 .have e:j=k:=by omega
  subst e;by_cases e:i=j
  .rw[e];exact BM _
  .exact Hm (c.resolve_left (by omega)) (h i (j -1) (by omega) (by omega))
theorem Ae{p:Array Nat}(d:kB n p){Q:Nat->Prop}:∀(f a:Nat),1<=a->a+f<=n->qT r p a->(∀m,a<=m->m<=a+f->qT r p m->(m=a+f\/r (p.getD m 0)<r (p.getD (m -1) 0))->Q m)->yg n r (kas_asc p f a) Q
 |0,a,_,_,b,h=>h a (BM _) (BM _) b (.inl rfl)
 |f+1,a,k,j,b,h=>by
  refine⟨d.lt (by omega),d.lt (by omega),?_⟩;dsimp only;by_cases c:r (p.getD a 0)<r (p.getD (a -1) 0)
  .rw[Bz (Do c)];exact h a (BM _) (by omega) b (.inr c)
  .rw[Bi (by rw[Fh];exact c)];exact Ae d f (a+1) (by omega) (by omega) (b.s (.inr (by omega))) λm o l i g=>h m (by omega) (by omega) i (g.imp (λe=>by omega) λe=>e)
theorem Af{p:Array Nat}(c:kB n p){Q:Nat×Array Nat->Prop}{a:Nat}(k:1<=a)(d:a<=n)(f:DF r p a)(h:∀m b,kB n b->1<=m->m<=n->qT r b m->Q (m,b)):yg n r (kas_tail3 a n p) Q:=by unfold kas_tail3;have e:=c.Qe 0 a;refine eK _ (Ae e (n -a) a k (by omega) ?_ λm o a2 a3 _=>h m _ e (by omega) (by omega) a3);intro i j g l;rw[uz (by rw[c.sz];exact d),uz (by rw[c.sz];exact d),Bz (by omega),Bz (by omega)];exact f _ _ (by omega) (by omega)
theorem j6{p:Array Nat}{i j:Nat}(a:j<=p.size)(he:∀k,i<=k->k<j->r (p.getD k 0)=r (p.getD (j -1) 0))(k:Nat):r ((kas_rev p i j).getD k 0)=r (p.getD k 0):=by
 rw[uz a];split
 .rw[he _ (by omega) (by omega),he k (by omega) (by omega)]
 .rfl
theorem pI{Q:Array Nat×Nat×Nat->Prop}:∀(f:Nat)(p:Array Nat)(a q:Nat),kB n p->1<=a->a+f<=n->DF r p a->q+1<=a->(∀i,a -(q+1)<=i->i<a->r (p.getD i 0)=r (p.getD (a -1) 0))->
 (∀m g b,kB n b->a<=m->m<=n->DF r b m->g+1<=m->(∀i,m -(g+1)<=i->i<m->r (b.getD i 0)=r (b.getD (m -1) 0))->Q (b,m,g))->yg n r (kas_desc f p a q) Q
 |0,p,a,q,e,A,x,k,o,he,h=>h a q p e (BM _) (by omega) k o he
 |f+1,p,a,q,e,A,x,k,o,he,h=>by
  refine⟨e.lt (by omega),e.lt (by omega),?_⟩;dsimp only;by_cases c:r (p.getD a 0)<r (p.getD (a -1) 0)
  .rw[Bz (Do c)];by_cases w:q>0
   .rw[Bz w];have ek:=j6 (r:=r) (show a<=p.size by rw[e.sz];omega) he;refine pI f _ (a+1) 0 (e.Qe _ _) (by omega) (by omega) (λi j t y=>?_) (by omega) (λi v a2=>by rw[show i=a+1 -1 by omega]) λm g b l u=>h m g b l (by omega);rw[ek,ek];exact k.s (.inr (by omega)) i j t y
   .rw[Bi w];exact pI f p (a+1) 0 e (by omega) (by omega) (k.s (.inr (by omega))) (by omega) (λi v a2=>by rw[show i=a+1 -1 by omega]) λm g b l u=>h m g b l (by omega)
  .rw[Bi (by rw[Fh];exact c)];refine⟨e.lt (by omega),e.lt (by omega),?_⟩;dsimp only;by_cases d:r (p.getD (a -1) 0)<r (p.getD a 0)
   .rw[Bz (Do d)];exact h a q p e (BM _) (by omega) k o he
   .rw[Bi (by rw[Fh];exact d)];refine pI f p (a+1) (q+1) e (by omega) (by omega) (k.s (.inr (by omega))) (by omega) (λi v a2=>?_) λm g b l u=>h m g b l (by omega);rw[show a+1 -1=a by omega];by_cases z:i=a
    .rw[z]
    .rw[he i (by omega) (by omega)];omega
theorem Ag{p:Array Nat}(s:kB n p){Q:Nat×Array Nat->Prop}{a:Nat}(t:a+1<=n)(l:DF r p (a+1))(h:∀m b,kB n b->1<=m->m<=n->qT r b m->Q (m,b)):yg n r (kas_descPart a n p) Q:=by
 unfold kas_descPart;refine eK _ (pI (n -(a+1)) p (a+1) 0 s (by omega) (by omega) l (by omega) (λi w a2=>by rw[show i=a+1 -1 by omega]) λm q b c v k g u f=>?_);dsimp only;by_cases e:q>0
 .rw[Bz e];refine Af (c.Qe _ _) (by omega) k (λi j d o=>?_) h;rw[j6 (r:=r) (show m<=b.size by rw[c.sz];omega) f,j6 (r:=r) (show m<=b.size by rw[c.sz];omega) f];exact g i j d o
 .rw[Bi e];exact Af c (by omega) k g h
theorem DG{p:Array Nat}(b:kB n p){Q:Nat×Array Nat->Prop}(w:1<=n)(h:∀m g,kB n g->1<=m->m<=n->qT r g m->Q (m,g)):yg n r (kas_count n p) Q:=by
 unfold kas_count;refine eK _ (Ae b (n -1) 1 (BM _) (by omega) (λi j a f=>by rw[show i=j by omega];exact BM _) λm t a2 a3 v=>?_);by_cases l:m=n
 .rw[Bz (by simpa using l)];exact h m p b t (by omega) a3
 .rw[Bi (by simpa using l)];have lt:r (p.getD m 0)<r (p.getD (m -1) 0):=v.resolve_left (by omega);by_cases o:m>1
  .rw[Bz o];refine⟨b.lt (by omega),b.lt (by omega),?_⟩;dsimp only;by_cases c:r (p.getD 0 0)<r (p.getD (m -1) 0)
   .rw[Bz (Do c)];exact h m p b t (by omega) a3
   .rw[Bi (by rw[Fh];exact c)];have d:∀k,0<=k->k<m->r (p.getD k 0)=r (p.getD (m -1) 0):=λk _ u=>by have:=a3 0 k (by omega) u;have:=a3 k (m -1) (by omega) (by omega);omega
    have q:=j6 (r:=r) (show m<=p.size by rw[b.sz];omega) d;refine Ag (b.Qe _ _) (by omega) (λi j a f=>?_) h;rw[q,q];refine DF.s (λi j a f=>?_) (.inr (by omega)) i j a f;rw[d i (by omega) (by omega),d j (by omega) (by omega)];exact BM _
  .rw[Bi o];have e:m=1:=by omega
   subst e;exact Ag b (by omega) (DF.s (λi j a f=>by rw[show i=j by omega];exact BM _) (.inr (by omega))) h
theorem pJ{p:Array Nat}(j:kB n p){k:Nat}(o:k<n)(e:qT r p k){Q:Nat->Prop}(h:∀l,l<=k->(∀i,i<l->r (p.getD i 0)<=r (p.getD k 0))->(∀i,l<=i->i<k->r (p.getD k 0)<r (p.getD i 0))->Q l):∀(f a b:Nat),a<=b->b<=k->b -a<=f->(∀i,i<a->r (p.getD i 0)<=r (p.getD k 0))->(∀i,b<=i->i<k->r (p.getD k 0)<r (p.getD i 0))->yg n r (kas_place p k f a b) Q
 |0,a,b,u,t,s,d,g=>h a (by omega) d λi m a2=>g i (by omega) a2
 |f+1,a,b,u,t,s,d,g=>by
  unfold kas_place;by_cases q:a>=b
  .rw[Bz q];exact h a (by omega) d λi m a2=>g i (by omega) a2
  .rw[Bi q];refine⟨j.lt o,j.lt (by omega),?_⟩;dsimp only;by_cases c:r (p.getD k 0)<r (p.getD ((a+b)/2) 0)
   .rw[Bz (Do c)];exact pJ j o e h f a ((a+b)/2) (by omega) (by omega) (by omega) d λi m a2=>HI c (e _ _ m a2)
   .rw[Bi (by rw[Fh];exact c)];exact pJ j o e h f ((a+b)/2+1) b (by omega) (by omega) (by omega) (λi m=>Hm (e i ((a+b)/2) (by omega) (by omega)) (by omega)) g
theorem GI{Q:Array Nat->Prop}(h:∀p,kB n p->qT r p n->Q p):∀(f:Nat)(p:Array Nat)(k:Nat),kB n p->qT r p k->k+f=n->yg n r (kas_bin f p k) Q
 |0,p,k,c,d,e=>h p c (by rw[<-e];exact d)
 |f+1,p,k,c,d,e=>by
  unfold kas_bin;refine eK _ (pJ c (by omega) d (λl s g o=>?_) k 0 k (by omega) (by omega) (by omega) (λi a=>by omega) λi a b=>by omega);refine GI h f _ (k+1) (c.Uk _ _) (λi j q t=>?_) (by omega);have hz:k<p.size:=by rw[c.sz];omega
  rw[Ad hz (by omega),Ad hz (by omega),show k -(k -l)=l by omega];obtain⟨x,m⟩:∃x,p.getD k 0=x:=⟨_,rfl⟩;simp only[m]at g o⊢;clear m
  repeat' split
  all_goals first
   |(exfalso;omega)
   |exact BM _
   |exact g _ (by omega)
   |exact W9 (o _ (by omega) (by omega))
   |exact d _ _ (by omega) (by omega)
theorem IQ(e:1<=n):yg n r (kas_sort n) λp=>kB n p/\qT r p n:=by
 unfold kas_sort;refine eK _ (DG (by unfold kB;exact V3 _) e λm p d a b up=>?_);dsimp only;by_cases c:m<n
 .rw[Bz c];exact GI (λp a b=>⟨a,b⟩) _ _ _ d (by rw[show max m 1=m by omega];exact up) (by omega)
 .rw[Bi c];exact⟨d,by rw[show n=m by omega];exact up⟩
end
end VL
namespace VL
open PySem PySem.W PySem.Calls PyProof.Rows
section
variable{prog:Program}{w:World}{A:Around}{E:Value->Shared->Prop}{s:Shared}{D kS:Addr}{vs:List Value}{κ:SortKind}{f:Value}{P:PySem.Fin->Shared->Prop}
noncomputable def uA(D kS:Addr)(h h':Heap):Prop:=∀b o,b≠D->b≠kS->h.get? b=some o->h'.get? b=some o
theorem uA.tr{h h' c:Heap}(a:uA D kS h h')(b:uA D kS h' c):uA D kS h c:=λx o g d e=>b x o g d (a x o g d e)
theorem uA.Ul{h:Heap}(f:Obj->Obj):uA D kS h (h.update D f):=λb o a _ e=>by rw[Ts _ _ _ _ a];exact e
theorem uA.SN{h:Heap}(f:Obj->Obj):uA D kS h (h.update kS f):=λb o _ a e=>by rw[Ts _ _ _ _ a];exact e
noncomputable def IS(vs ks:List Value)(r:Nat->Nat)(D kS:Addr)(P:PySem.Fin->Shared->Prop)(s:Shared):Prop:=
 ∀(p:Array Nat)(a:Heap),kB vs.length p->qT r p vs.length->uA D kS s.heap a->(∃c,a.get? D=some (seqObj "list" (G1 (p.toList.map λi=>vs.getD i Value.none)) c))->P (.done (.ret .none)) {s with heap:=a}
theorem rV{ks:List Value}{r:Nat->Nat}{e d:Nat}{st:SortSt}{p:Array Nat}(n:D≠kS)(v:s.heap.get? D=some (seqObj "list" #[] d))(k:s.heap.get? kS=some (seqObj "list" (G1 ks) e))(o:ks.length<64)(x:vs.length<64)
 (a:(arrOf st).map (·.2)=G1 (p.toList.map λi=>vs.getD i Value.none))(q:failedOf st=none)(l:kB vs.length p)(u:qT r p vs.length)(h:IS vs ks r D kS P s):wpAny (model prog w) A (ksk_tail D false d (.ref kS) st) P E s:=by
 obtain⟨m,t⟩:∃m,(s.heap.update kS (Obj.mapSeq λ_=>(#[]:Array Value))).get? kS=some (seqObj "list" #[] m):=⟨_,get?_update_seq k λ_=> #[]⟩;have j:(s.heap.update kS (Obj.mapSeq λ_=>(#[]:Array Value))).get? D=some (seqObj "list" #[] d):=by rw[Ts _ _ _ _ n];exact v
 obtain⟨g,c⟩:∃g,((s.heap.update kS (Obj.mapSeq λ_=>(#[]:Array Value))).update D (Obj.mapSeq λ_=>G1 (p.toList.map λi=>vs.getD i Value.none))).get? D=some (seqObj "list" (G1 (p.toList.map λi=>vs.getD i Value.none)) g):=⟨_,get?_update_seq j λ_=>G1 (p.toList.map λi=>vs.getD i Value.none)⟩;have b:(G1 (p.toList.map λi=>vs.getD i Value.none)).size=vs.length:=by rw[FC,AN,Gw,l.sz]
 unfold ksk_tail
 try dsimp only
 rw[a];refine D2 (listUpdate_at k rfl ?_ (by rw[FC,T1];omega) (KE _));refine D2 (wpAny_letGo ?_);refine D2 (seqEpoch_at j rfl ?_);simp only[WJ,XB];refine D2 (listUpdate_at j rfl ?_ (KE _) (Hm (WA b) (by rw[T1];omega)));rw[q];simp only[bne_self_eq_false,WJ,XB];exact Hn (h p _ l u ((uA.SN _).tr (uA.Ul _)) ⟨g,c⟩)
theorem DI{ks:List Value}{r:Nat->Nat}{e J:Nat}(z:D≠kS)(t:ks.length=vs.length)(l:vs.length<64)(H:s.heap.get? D=some (seqObj "list" #[] J))(B:s.heap.get? kS=some (seqObj "list" (G1 ks) e))
 (K:2<=vs.length->∀Q:SortKind->Shared->Prop,Q κ s->wpAny (model prog w) A (keyKind' (G1 ks)) Q (λ_ _=>False) s)
 (O:∀i j (C:Bool->Shared->Prop),i<vs.length->j<vs.length->C (decide (r i<r j)) s->kas_ask prog w A κ ks i j C s)(h:IS vs ks r D kS P s):
 wpAny (model prog w) A (ksk_end D false vs.toArray J (.ref kS) (G1 ks)) P E s:=by
 unfold ksk_end
 try dsimp only
 simp only[WJ,XB];by_cases g:vs.toArray.size<2
 .rw[Bz g,Bz g];rw[FC]at g;refine D2 (Hn ?_);rw[StateT.run_pure];refine D2 (Hn ?_);refine rV (p:=G1 (Ea vs.length)) (r:=r) z H B (by omega) l ?_ rfl (V3 _) (λi j a b=>?_) h
  .show((G1 ks).zip vs.toArray).map (·.2)=_
   match vs,ks,t,g with
   |[],[],_,_=>simp
   |[v],[k],_,_=>simp
   |_::_::_,_,_,g=>rw[Eb,Eb]at g;omega
  .rw[show i=j by omega];exact BM _
 .rw[Bi g,Bi g];rw[FC]at g;refine D2 (PH (K (by omega) (λm o=>m=κ/\o=s) ⟨rfl,rfl⟩) (λm o q=>?_) λ_ _ x=>x.elim);obtain⟨rfl,rfl⟩:=q;refine D2 (PH (kat_run (G:=λp c=>c=o/\kB vs.length p/\qT r p vs.length) (Q:=λd c=>c=o/\∃p:Array Nat,arrOf d=p.map (kas_item ((G1 ks).zip vs.toArray))/\failedOf d=none/\kB vs.length p/\qT r p vs.length)
   t (by omega) l (λp d c U a2 a3 y=>⟨y.1,p,a2,a3,y.2.1,y.2.2⟩) (Ac (n:=vs.length) (r:=r) (I:=λc=>c=o) (λi j C c M L e S=>by rw[e];exact O i j C M L (S _ rfl)) (λp c q e=>⟨e,q.1,q.2⟩) _ _ (IQ (by omega)) rfl)) ?_ λ_ _ x=>x)
  rintro⟨⟨⟩,d⟩ c ⟨rfl,p,u,N,T,R⟩;exact rV z H B (by omega) l (kat_snds t u) N T R h
structure Ah(prog:Program)(w:World)(A:Around)(κ:SortKind)(f:Value)(vs:List Value)(D kS:Addr)(P:PySem.Fin->Shared->Prop)(S:List Value->Shared->Prop):Prop where
 but:∀ks s h',S ks s->uA D kS s.heap h'->S ks {s with heap:=h'}
 turn:∀i v ks (s:Shared) oK oD nK nD,vs[i]?=some v->ks.length=i->S ks s->s.heap.get? D=some (seqObj "list" oD nD)->s.heap.get? kS=some (seqObj "list" oK nK)->
  wpAny (model prog w) A (call f [v]) (λk s'=>S (ks++[k]) s'/\s'.heap.get? D=some (seqObj "list" oD nD)/\s'.heap.get? kS=some (seqObj "list" oK nK)) (λ_ _=>False) s
 fin:∀ks s,S ks s->ks.length=vs.length->∃r:Nat->Nat,(2<=vs.length->∀Q:SortKind->Shared->Prop,Q κ s->wpAny (model prog w) A (keyKind' (G1 ks)) Q (λ_ _=>False) s)/\
  (∀i j (C:Bool->Shared->Prop),i<vs.length->j<vs.length->C (decide (r i<r j)) s->kas_ask prog w A κ ks i j C s)/\IS vs ks r D kS P s
theorem Ai{S:List Value->Shared->Prop}{n:Nat}(T:Ah prog w A κ f vs D kS P S)(t:D≠kS)(m:vs.length<64)(C:s.heap.get? D=some (seqObj "list" #[] n))(z:s.heap.get? kS=some (seqObj "list" #[] 0))(y:S [] s):
 wpAny (model prog w) A (ksk_rest D f false vs.toArray n (.ref kS)) P E s:=by
 unfold ksk_rest;refine D2 (wpAny_rule ?_)
 first
  |rw[List.forIn_toArray]
  |(rw[<-V5];simp only[List.toList_toArray])
  |rw[<-V5]
 refine D2 (ksk_fold (λi b=>∃a c,a.length=i/\S a b/\b.heap.get? D=some (seqObj "list" #[] n)/\b.heap.get? kS=some (seqObj "list" (G1 a) c)) vs 0 s ⟨[],0,rfl,y,C,z⟩ (λi v b q h=>?_) λb h=>?_)
 .rw[U1]at h⊢;obtain⟨a,c,g,d,p,j⟩:=h;have M:i<vs.length:=(FM.mp q).1;refine D2 (wpAny_attempt (PH (T.turn i v a b _ _ _ _ q g d p j) (λk e x=>?_) λ_ _ B=>B.elim));obtain⟨L,K,u⟩:=x;have J:(G1 a).push k=G1 (a++[k]):=by simp
  obtain⟨o,l⟩:∃o,(e.heap.update kS (Obj.mapSeq (·.push k))).get? kS=some (seqObj "list" (G1 (a++[k])) o):=⟨_,by rw[<-J];exact get?_update_seq u (·.push k)⟩
  try dsimp only
  refine D2 (listUpdate_at u rfl ?_ (by rw[FC,T1];omega) (Hm (WA (Array.size_push ..)) (by rw[FC,T1];omega)));exact Hn ⟨rfl,a++[k],o,by rw[Fm,G0,g],T.but _ _ _ L (uA.SN _),by show(e.heap.update kS _).get? D=_;rw[Ts _ _ _ _ t];exact K,l⟩
 .rw[U1]at h;obtain⟨a,c,g,d,p,j⟩:=h
  try dsimp only
  refine D2 (listItems_at j rfl ?_);obtain⟨r,I,H,G⟩:=T.fin a b d g;exact DI t g m p j I H G
theorem Aj{n:Nat}{S:List Value->Shared->Prop}(a:s.heap.get? D=some (seqObj "list" vs.toArray n))(c:vs.length<64)(T:Ah prog w A κ f vs D (s.heap.objs.size+1) P S)(k:∀h',uA D (s.heap.objs.size+1) s.heap h'->S [] {s with heap:=h'}):
 wpAny (model prog w) A (ksk_tree D f false) P E s:=by
 have j:D<s.heap.objs.size:=Ee a;obtain⟨g,i⟩:∃g,(s.heap.update D (Obj.mapSeq λ_=>(#[]:Array Value))).get? D=some (seqObj "list" #[] g):=⟨_,get?_update_seq a λ_=> #[]⟩;have h:((s.heap.update D (Obj.mapSeq λ_=>(#[]:Array Value))).push (seqObj "tuple" vs.toArray 0)).objs.size=s.heap.objs.size+1:=by rw[size_push',Heap.size_update]
 unfold ksk_tree;refine D2 (listItems_at a rfl ?_);refine D2 (listUpdate_at a rfl ?_ (by rw[FC,T1];omega) (KE _));refine D2 (seqEpoch_at i rfl ?_);refine D2 (wpAny_newTuple ?_ (by show vs.length<=_;rw[T1];omega));refine D2 (wpAny_newList ?_ (KE _));refine WK ?_;have d:=Fn ((s.heap.update D (Obj.mapSeq λ_=>(#[]:Array Value))).push (seqObj "tuple" vs.toArray 0)) (o:=seqObj "list" #[] 0) rfl;rw[h]at d;have:=Ai (s:={s with heap:=((s.heap.update D (Obj.mapSeq λ_=>(#[]:Array Value))).push (seqObj "tuple" vs.toArray 0)).push (seqObj "list" #[] 0)}) (E:=E) T (Ha (QQ j)) c (D1 _ (D1 _ i)) d (k _ λb o l m e=>D1 _ (D1 _ (by rw[Ts _ _ _ _ l];exact e)));rw[<-h]at this;exact this
theorem uB{l:Addr}{d:List (Str×Value)}{Q:Value->Shared->Prop}{S:List Value->Shared->Prop}(u:s.heap.IsList l vs.toArray)(n:vs.length<64)
 (k:argsOk "sorted" ⟨[.ref l],d⟩)(j:∀x,argsOk "list.sort" ⟨[.ref x],d⟩)(t:∀x,Builtin.«list.sort» ⟨[.ref x],d⟩=ksk_tree x f false)
 (T:Ah prog w A.in1.in1 κ f vs (s.heap.objs.size+1) (s.heap.objs.size+3) (λr s'=>r=.done (.ret .none)/\Q (.ref (s.heap.objs.size+1)) s') S)(y:∀h',(∀b o,s.heap.get? b=some o->h'.get? b=some o)->S [] {s with heap:=h'}):
 wpAny (model prog w) A (call (.builtin "sorted") [.ref l] d) Q E s:=by
 refine call_function_entry_kw kind_sorted plain_sorted entry_sorted k ?_;unfold Builtin.«sorted»;refine D2 (m:=checkCount "sorted" 1 1 _) (Hn ?_);refine D2 (collect_list u ?_ (by rw[T1];omega));refine D2 (wpAny_newList ?_ (by rw[T1];omega));have a:((s.heap.push (seqObj "list" #[] 0)).update s.heap.objs.size (Obj.mapSeq (·++vs.toArray))).objs.size=s.heap.objs.size+1:=by rw[Heap.size_update,size_push']
 have p:(((s.heap.push (seqObj "list" #[] 0)).update s.heap.objs.size (Obj.mapSeq (·++vs.toArray))).push (seqObj "list" vs.toArray 0)).get? (s.heap.objs.size+1)=some (seqObj "list" vs.toArray 0):=by rw[<-a];exact Fn _ rfl
 have g:∀b o,s.heap.get? b=some o->(((s.heap.push (seqObj "list" #[] 0)).update s.heap.objs.size (Obj.mapSeq (·++vs.toArray))).push (seqObj "list" vs.toArray 0)).get? b=some o:=λb o q=>by have c:b<s.heap.objs.size:=Ee q;rw[Heap.get?_push_ne _ _ _ (by rw[a];exact Ha (QQ c)),Ts _ _ _ _ (Ha c),Heap.get?_push_ne _ _ _ (Ha c)];exact q
 show wpAny _ _ _ _ _ {s with heap:=((s.heap.push (seqObj "list" #[] 0)).update s.heap.objs.size (Obj.mapSeq (·++vs.toArray))).push (seqObj "list" vs.toArray 0)};rw[a];refine D2 (WK (wpAny_call_entry_kw slot_list_sort ⟨_,p,rfl⟩ entry_list_sort ?body (j _)))
 case body=>
  have h:=t (s.heap.objs.size+1);show wpAny (model prog w) A.in1.in1 (Builtin.«list.sort» ⟨[.ref (s.heap.objs.size+1)],d⟩) _ _ _;rw[h];have hz:(((s.heap.push (seqObj "list" #[] 0)).update s.heap.objs.size (Obj.mapSeq (·++vs.toArray))).push (seqObj "list" vs.toArray 0)).objs.size+1=s.heap.objs.size+3:=by rw[size_push',a]
  refine PH (Aj (s:={s with heap:=((s.heap.push (seqObj "list" #[] 0)).update s.heap.objs.size (Obj.mapSeq (·++vs.toArray))).push (seqObj "list" vs.toArray 0)}) (E:=λ_ _=>False) p n (by rw[hz];exact T) λh' v=>?_) (λr s' i=>?_) λ_ _ x=>x.elim
  .refine y h' λb o e=>v b o (Ha (QQ (Ee e))) ?_ (g b o e);rw[hz];exact Ha (HI (Ee e) (by omega))
  .obtain⟨rfl,i⟩:=i;exact⟨_,rfl,Hn ⟨_,rfl,i⟩⟩
end
end VL
namespace VL
open PySem PySem.Spec PySem.Calls
open PyProof.Rows hiding St
open L2
section
variable{X:Cx}{pins:List (Addr×Obj)}{σ:St}{H:Hp}{s:Shared}
theorem _root_.L2.dD.at{H':Hp}{b:Addr}(f:dD X pins H b)(h:H' b=none):dD X pins H' b:=⟨h,f.2⟩
theorem _root_.L2.Inv.vS{D g:Addr}{h':Heap}(I:Inv X pins σ H s)(k:uA D g s.heap h')(f:dD X pins H D)(d:dD X pins H g):Inv X pins σ H {s with heap:=h'}:=by
 have h:∀b u,H b=some u->b≠D/\b≠g:=λb u e=>⟨λz=>(by rw[z,f.1]at e;cases e),λz=>(by rw[z,d.1]at e;cases e)⟩;have i:∀b o,b∉[D,g]->s.heap.get? b=some o->h'.get? b=some o:=λb o a e=>k b o (λz=>a (by simp[z])) (λz=>a (by simp[z])) e;refine I.step (g':=s.gens) (d':=s.drawn) (t':=s.toks) (ch:=[D,g]) (λb j=>?_) (λb o _ _ a e _=>i b o a e) (λb o _ _ a e _=>⟨o.slots,i b o a e⟩) (λ_ _ _ _ n=>n)
  (λb o a e=>⟨o,i b o a e⟩) (λ_ _ e=>e) (λ_ _ _ e=>e) (λb x e=>⟨#[],by rw[e];simp⟩) (λm p=>?_) (λb u e=>?_) I.bare
 .rcases FV.mp j with rfl|j
  .exact⟨f.2.2.2.1,f.2.1,f.2.2.2.2.1,f.2.2.2.2.2⟩
  .rw[DL.mp j];exact⟨d.2.2.2.1,d.2.1,d.2.2.2.2.1,d.2.2.2.2.2⟩
 .obtain⟨o,t,w,l,r⟩:=p;exact⟨o,t,w,k _ o (NM f.2.1) (NM d.2.1) l,r⟩
 .refine(I.hok b u e).stay (λc v a q=>k c v ?_ ?_ q) (λ_ q=>q) λ_ _ q=>q
  .rcases a with z|z
   .rw[z];exact(h b u e).1
   .exact(h c _ z).1
  .rcases a with z|z
   .rw[z];exact(h b u e).2
   .exact(h c _ z).2
theorem _root_.L2.Inv.Ny{D:Addr}{o:HO}(I:Inv X pins σ H s)(f:dD X pins H D)(d:aT X.prog X.w (upd H D o) s.heap D o):Inv X pins σ (upd H D o) s:=by
 have a:∀b u,H b=some u->b≠D:=λb u e z=>by rw[z,f.1]at e;cases e
 refine⟨I.ok,I.os,I.bare,⟨I.base.keep,I.base.slot,λb u e n h=>?_,I.base.there,λb g e=>?_,λb k u e=>?_,λb j e=>?_⟩,I.loc,I.cell,?_,λx c e=>?_,λp i=>?_,λb u e=>?_,I.len⟩
 .rw[ay]
  .exact I.base.free b u e n h
  .intro z;subst z;rcases f.2.2.2.1 with z|z
   .exact h z
   .exact absurd (HI (Ee e) z) (Mo _)
 .have:=I.base.tups b g e;rw[ay (a _ _ this)];exact this
 .have:=I.base.ie b k u e;rw[ay (a _ _ this)];exact this
 .obtain⟨m,this⟩:=I.base.jc b j e;exact⟨m,by rw[ay (a _ _ this)];exact this⟩
 .rw[ay (NM f.2.1)];exact I.free
 .rw[ay (f.2.2.2.2.1 x c e)];exact I.fU x c e
 .obtain⟨l,a2,a3⟩:=I.pin p i;exact⟨l,by rw[ay (f.2.2.2.2.2 p i)];exact a2,a3⟩
 .by_cases z:b=D
  .subst z;rw[aJ]at e;cases e;exact d
  .rw[ay z]at e;refine(I.hok b u e).stay (λc v r q=>q) (λc q=>?_) λc g q=>?_
   .rw[ay (a _ _ q)];exact q
   .rw[ay (a _ _ q)];exact q
theorem _root_.L2.Vals.perm{a:List V}{vs:List Value}(r:Vals a vs):∀p:List Nat,Vals (p.map λi=>a.getD i .aL) (p.map λi=>vs.getD i Value.none)
 |[]=>.nil
 |i::p=>by
  refine .cons ?_ (L2.Vals.perm r p);show RelV (a.getD i .aL) (vs.getD i Value.none);by_cases b:i<a.length
  .obtain⟨u,e,h⟩:=r.get (B1 b);rw[show a.getD i .aL=a[i] by simp[AC,b],show vs.getD i Value.none=u by rw[AC,e];rfl];exact h
  .have c:¬i<vs.length:=by rw[<-r.length];exact b
   rw[show a.getD i .aL=.aL by simp[AC,WU b],show vs.getD i Value.none=Value.none by simp[AC,WU c]];rfl
theorem DJ{l:Addr}{B:List V}{vs:List Value}{f:Value}{y:List (Str×Value)}{κ:SortKind}{KP:List Value->Hp->Prop}{Q:VK}{E:Value->Shared->Prop}(I:Inv X pins σ H s)(hl:s.heap.IsList l vs.toArray)(rv:Vals B vs)(M:vs.length<64)
 (L:argsOk "sorted" ⟨[.ref l],y⟩)(K:∀x,argsOk "list.sort" ⟨[.ref x],y⟩)(ht:∀x,Builtin.«list.sort» ⟨[.ref x],y⟩=ksk_tree x f false)(k0:KP [] H)
 (n:∀i v ks a d u,vs[i]?=some v->ks.length=i->Inv X u σ a d->KP ks a->wpAny (model X.prog X.w) X.A.in1.in1 (call f [v]) (λk s'=>∃H',Inv X u σ H' s'/\KP (ks++[k]) H') (λ_ _=>False) d)
 (N:∀ks a,KP ks a->ks.length=vs.length->∃r:Nat->Nat,(∀u d,Inv X u σ a d->(2<=vs.length->∀Q:SortKind->Shared->Prop,Q κ d->wpAny (model X.prog X.w) X.A.in1.in1 (keyKind' (G1 ks)) Q (λ_ _=>False) d)/\
   ∀i j (C:Bool->Shared->Prop),i<vs.length->j<vs.length->C (decide (r i<r j)) d->PySem.W.kas_ask X.prog X.w X.A.in1.in1 κ ks i j C d)/\
   ∀(p:Array Nat) D,kB vs.length p->qT r p vs.length->a D=none->Q (.ref D) (upd a D (.lst (p.toList.map λi=>B.getD i .aL)))):
 wpAny (model X.prog X.w) X.A (call (.builtin "sorted") [.ref l] y) (EP X pins σ Q) E s:=by
 have Up:dD X pins H (s.heap.objs.size+1):=I.m6 (by omega) (I.hok.fresh (by omega));have Uq:dD X pins H (s.heap.objs.size+3):=I.m6 (by omega) (I.hok.fresh (by omega));refine uB (κ:=κ) (S:=λks d=>∃a,Inv X pins σ a d/\dD X pins a (s.heap.objs.size+1)/\dD X pins a (s.heap.objs.size+3)/\KP ks a) hl M L K ht ⟨?_,?_,?_⟩ λh' t=>⟨H,I.kept (t':=s.toks) t,Up,Uq,k0⟩
 .rintro ks d h' ⟨a,I1,g,h,q⟩ b;exact⟨a,I1.vS b g h,g,h,q⟩
 .rintro i v ks d R T U Y hv hi ⟨a,I1,g,h,q⟩ hD hK;have O:Inv X ((s.heap.objs.size+1,seqObj "list" T Y)::(s.heap.objs.size+3,seqObj "list" R U)::pins) σ a d:=I1.j5 λp m=>by
   rcases FV.mp m with rfl|m
   .exact⟨hD,g.1,g.2.1,g.2.2.1,λv e=>nomatch e⟩
   .rcases FV.mp m with rfl|m
    .exact⟨hK,h.1,h.2.1,h.2.2.1,λv e=>nomatch e⟩
    .exact I1.pin p (Fk _ m)
  refine PH (n i v ks a d _ hv hi O q) (λk s' ⟨H',z,Ur⟩=>?_) λ_ _ x=>x;have pD:=z.pin (s.heap.objs.size+1,seqObj "list" T Y) (Fk _ (.head _));have P:=z.pin (s.heap.objs.size+3,seqObj "list" R U) (Fk _ (.tail _ (.head _)));exact⟨⟨H',z.j5 λp m=>z.pin p (Fk _ (.tail _ (.tail _ m))),dD.at g pD.2.1,dD.at h P.2.1,Ur⟩,pD.1,P.1⟩
 .rintro ks d ⟨a,I1,g,h,q⟩ G;obtain⟨r,h1,h2⟩:=N ks a q G;refine⟨r,(h1 pins d I1).1,(h1 pins d I1).2,λp h' Z hU b J=>⟨rfl,?_⟩⟩;obtain⟨c,J⟩:=J;have O:=I1.vS b g h;refine⟨.ref _,_,O.Ny (o:=.lst (p.toList.map λi=>B.getD i .aL)) g ⟨?_,_,c,rv.perm _,J⟩,rfl,h2 p _ Z hU g.1⟩;rw[AN,Gw,Z.sz,T1];omega
end
end VL
namespace HT
open PySem PySem.Spec PyProof.Rows
section
open PySem.SeqAt
open PySem.AutoSeq1 (wpAny_loadPart')
open PySem.MeetsSeq PySem.MeetsSeq2 PySem.MeetsSeq3
theorem pL(l b:Addr)(items f:Array Value)(n P:Nat)(dd L:Option Addr)(O G:Array (Option Value))(k:Nat):
 ∀(i:Nat)(ns x:List Int),items.size -i=k->i<=items.size->i<=f.size->IntsAre (items.toList.drop i) ns->IntsAre (f.toList.drop i) x->Meets (Builtin.«list.__eq__.loop» ⟨[.ref l,.ref b,rawInt i,rawInt 0],[]⟩)
  (λA R s=>s.heap.get? l=some {cls:=.type "list",dict:=dd,data:=.seq items n,slots:=O}/\s.heap.get? b=some {cls:=.type "list",dict:=L,data:=.seq f P,slots:=G}/\
    R (.ok (.ret (.bool (lexLt ns x)))) s):=by
 induction k with
 |zero=>
  intro i ns x U T S C z j w A R s h;obtain⟨I,g,d,E,H⟩:=s;obtain⟨y,B,h⟩:=h
  wp_walk using Kj y,Kj B
  have o:items[((i:Nat):Int).toNat]?=none:=by simp;omega
  have ed:items.toList.drop i=[]:=by simp;omega
  rw[ed]at C;cases C;rw[o];have e:lexLt [] x=decide (items.size<f.size):=by
   have hz:=z.length;rw[RO,Gw]at hz;cases x with
   |nil=>rw[ML]at hz;rw[m8];exact(He (by omega)).symm
   |cons m x=>rw[Eb]at hz;rw[kK];exact(Do (by omega)).symm
  rw[e]at h
  wp_walk using Kj y,Kj B
  exact h
 |succ k Q=>
  intro i ns x U T S C z j w A R s h;obtain⟨I,g,d,E,H⟩:=s;obtain⟨y,B,h⟩:=h
  wp_walk using Kj y,Kj B
  have D:i<items.size:=by omega
  have o:items[((i:Nat):Int).toNat]?=some items[i]:=by simp[D]
  have d1:items.toList.drop i=items[i]::items.toList.drop (i+1):=by simp[SB,D]
  rw[d1]at C;generalize items[i]=v at C o;cases C with
  |cons a t K=>
  by_cases N:i<f.size
  .have p:f[((i:Nat):Int).toNat]?=some f[i]:=by simp[N]
   have M:f.toList.drop i=f[i]::f.toList.drop (i+1):=by simp[SB,N]
   rw[M]at z;generalize f[i]=v2 at z p;cases z with
   |cons c u J=>
   have Z:((i:Int)+1)=((i+1:Nat):Int):=by push_cast;rfl
   rw[gM]at h;rw[o,p];obtain⟨e,Y,r⟩:=zU A.in1 ⟨I,g,d,E,H⟩ a t c u;refine D2 (Y j w _ _ ?_);cases e with
   |true=>
    rw[Bz (r.mp rfl)]at h
    wp_walk
    rw[Z];exact⟨plainId_quiet plain_eq_loop _,codeAny_builtin entry_eq_loop (by rw[X3 plain_eq_loop _];exact Q (i+1) _ _ (by omega) (by omega) (by omega) K J j w A R _ ⟨y,B,h⟩)⟩
   |false=>
    rw[Bi (λq=>absurd (r.mpr q) Jn)]at h;have Rl:=rM A.in1 ⟨I,g,d,E,H⟩ a t c u j w
    wp_walk using Kj y,Kj B
    rw[o,p]
    wp_walk using Rl
    exact h
  .have p:f[((i:Nat):Int).toNat]?=none:=by simp;omega
   have M:f.toList.drop i=[]:=by simp;omega
   rw[M]at z;cases z;rw[kL]at h;rw[o,p]
   wp_walk using Kj y,Kj B
   have e:decide (items.size<f.size)=false:=He (by omega);show R (.ok (.ret (.bool (decide (items.size<f.size))))) _;rw[e];exact h
theorem pN(l b:Addr)(items a:Array Value)(n k:Nat)(dd f:Option Addr)(j c:Array (Option Value))(ns i:List Int)(q:IntsAre items.toList ns)(p:IntsAre a.toList i):
 Meets (Builtin.«list.__lt__» ⟨[.ref l,.ref b],[]⟩)
  (λ_ R s=>s.heap.get? l=some {cls:=.type "list",dict:=dd,data:=.seq items n,slots:=j}/\s.heap.get? b=some {cls:=.type "list",dict:=f,data:=.seq a k,slots:=c}/\
    R (.ok (.ret (.bool (lexLt ns i)))) s):=by
 intro e w A R s h;obtain⟨u,g,d,r,t⟩:=s;obtain⟨m,o,h⟩:=h;have v:=AutoSeq1.sub_list_list
 wp_walk using Kj m,Kj o
 exact⟨plainId_quiet plain_eq_loop _,codeAny_builtin entry_eq_loop (by rw[X3 plain_eq_loop _];exact pL l b items a n k dd f j c _ 0 ns i rfl (KE _) (KE _) q p e w A R _ ⟨m,o,h⟩)⟩
end
section
variable{prog:Program}{w:World}{A:Around}{E:Value->Shared->Prop}{s:Shared}
theorem kT{l b:Addr}{items a:Array Value}{ns c:List Int}{Q:Value->Shared->Prop}(u:s.heap.IsList l items)(z:s.heap.IsList b a)(y:IntsAre items.toList ns)(v:IntsAre a.toList c)
 (t:A.units<cLine)(h:Q (.bool (lexLt ns c)) s):wpAny (model prog w) A (compareOp .Lt (.ref l) (.ref b)) Q E s:=by
 obtain⟨⟨B,dd,p,q⟩,k,o,n,m⟩:=id u;obtain⟨⟨C,i,j,g⟩,d,f,r,e⟩:=id z;simp only at o m f e;subst o m f e;exact richCompare_meets_room (op:=.Lt) ⟨_,k,rfl⟩ ⟨_,d,rfl⟩ PySem.F.slot_list_lt PySem.F.entry_list_lt (PySem.F.args_list_lt_2 _ _) (pN l b items a n r dd i q g ns c y v)
  ⟨k,d,show Value.bool (lexLt ns c)≠Value.notImplemented/\Q (.bool (lexLt ns c)) s from⟨(λx=>nomatch x),h⟩⟩ t
end
end HT
namespace VL
open PySem PySem.Spec PySem.Calls PyProof.Rows
theorem ints_get:∀{vs:List Value}{ns:List Int},IntsAre vs ns->∀(j:Nat)(h:j<vs.length),∃t,vs[j]=.int (ns.getD j 0) t
 |_,_,.cons n t _,0,_=>⟨t,rfl⟩
 |_,_,.cons n t r,j+1,h=>by obtain⟨u,e⟩:=ints_get r j (by simpa using h);exact⟨u,by simpa using e⟩
theorem all_eq:∀(ns a:List Int),ns.length=a.length->(Ea ns.length).all (λj=>ns.getD j 0==a.getD j 0)=decide (ns=a)
 |[],[],_=>rfl
 |n::ns,m::a,h=>by
  have ih:=all_eq ns a (by simpa using h);rw[Eb,WM,IP,List.all_map];have:((λj=>(n::ns).getD j 0==(m::a).getD j 0)∘Y4)=λj=>ns.getD j 0==a.getD j 0:=by funext j;rfl
  rw[this,ih];show((n==m)&&decide (ns=a))=_;by_cases e:n=m<;>by_cases b:ns=a<;>simp[e,b]
 |[],_::_,h=>by simp at h
 |_::_,[],h=>by simp at h
theorem rX:∀{vs:List Value}{ns a:List Int},IntsAre vs ns->IntsAre vs a->ns=a
 |_,_,_,.nil,.nil=>rfl
 |_,_,_,.cons n t r,.cons _ _ b=>by rw[rX r b]
section
variable{A:Around}{s:Shared}
theorem rY{l b:Addr}{items a:Array Value}{ns c:List Int}(g:s.heap.IsList l items)(k:s.heap.IsList b a)(i:IntsAre items.toList ns)(h:IntsAre a.toList c)(p:A.units<cLine):
 SeqAt.EqAt A s (.ref l) (.ref b) (decide (ns=c)):=by
 have m:items.size=ns.length:=by rw[<-i.length];simp
 have w:a.size=c.length:=by rw[<-h.length];simp
 by_cases e:l=b
 .subst e;obtain⟨o,x,_,n,y⟩:=g;obtain⟨C,d,_,D,f⟩:=k;rw[x]at d;cases d;rw[y]at f;cases f;rw[Do (rX i h)];exact SeqAt.EqAt.same _
 .refine SeqAt.EqAt.of_refs e ?_;by_cases hz:items.size=a.size
  .have:=SeqAt.RcAt.lists (e:=λj=>ns.getD j 0==c.getD j 0) g k hz p λj v r=>by obtain⟨t,B⟩:=ints_get i j (by simpa using v);obtain⟨u,z⟩:=ints_get h j (by simpa using r);rw[show items[j]=items.toList[j]'(by simpa using v) by simp,show a[j]=a.toList[j]'(by simpa using r) by simp,B,z];exact XD _ _ _ _
   rw[m,all_eq ns c (by omega)]at this;exact this
  .rw[He (λq=>hz (by rw[m,w,q]))];exact SeqAt.RcAt.lists_lengths g k (by simpa using hz) p
end
theorem kU:∀a:List Int,HT.lexLt a a=false
 |[]=>rfl
 |x::b=>by rw[HT.gM,Bz rfl];exact kU b
end VL
namespace HT
open PySem PySem.Spec PyProof.Rows
noncomputable def Rn(A:Around)(s:Shared)(x y:Value)(c:Bool):Prop:=∀(a:Program)(w:World)(E:Value->Shared->Prop)(Q:Value->Shared->Prop),Q (.bool c) s->wpAny (model a w) A (richCompare .Lt x y) Q E s
inductive pO(A:Around)(s:Shared):List Value->List Value->Bool->Prop where
 |nn:pO A s [] [] false
 |nc {y ys}:pO A s [] (y::ys) true
 |cn {x xs}:pO A s (x::xs) [] false
 |eq {x y xs ys c} (h:SeqAt.EqAt A s x y true) (r:pO A s xs ys c):pO A s (x::xs) (y::ys) c
 |ne {x y xs ys c} (h:SeqAt.EqAt A s x y false) (r:Rn A s x y c):pO A s (x::xs) (y::ys) c
section
open PySem.SeqAt
open PySem.AutoSeq1 (wpAny_loadPart')
open PySem.MeetsSeq PySem.MeetsSeq2 PySem.MeetsSeq3
theorem rZ(l b:Addr)(items a:Array Value)(n D:Nat)(dd u:Option Addr)(C q:Array (Option Value))(c:Bool):
 Meets (Builtin.«tuple.__lt__» ⟨[.ref l,.ref b],[]⟩)
  (λA R s=>s.heap.get? l=some {cls:=.type "tuple",dict:=dd,data:=.seq items n,slots:=C}/\s.heap.get? b=some {cls:=.type "tuple",dict:=u,data:=.seq a D,slots:=q}/\
    pO A.in1 s items.toList a.toList c/\R (.ok (.ret (.bool c))) s):=
 .of_wp λf w A R s h=>by
  obtain⟨B,g,d,v,z⟩:=s;obtain⟨G,H,o,h⟩:=h;have L:=AutoSeq1.sub_tuple_tuple;have K:items.size=items.toList.length:=by simp
  have J:a.size=a.toList.length:=by simp
  wp_walk using Kj G,Kj H,wpAny_forIn_list _ (λrest b t=>b.1=none/\t=⟨B,g,d,v,z⟩/\∃(m k:List Value),rest=m.zip k/\
   pO A.in1 ⟨B,g,d,v,z⟩ m k c/\m.length+a.size=k.length+items.size) _
  case turn=>
   rintro⟨y,x⟩ rest b t ⟨j,rfl,m,k,hz,i,e⟩;cases i with
   |nn=>cases hz
   |nc=>cases hz
   |cn=>cases hz
   |eq p r=>
    rw[NZ]at hz;injection hz with hyx hrest;injection hyx with hy o;subst hy o;simp only[Eb]at e;refine D2 (p f w _ _ ?_)
    wp_walk
    exact⟨rfl,rfl,_,_,hrest,r,by omega⟩
   |ne p r=>
    rw[NZ]at hz;injection hz with hyx hrest;injection hyx with hy o;subst hy o;refine D2 (p f w _ _ ?_);have I:=r f w
    wp_walk using I
    exact⟨_,rfl,by simpa using h⟩
  case fin=>
   rintro⟨N,M⟩ t ⟨j,rfl,m,k,hz,i,e⟩;simp only at j;subst j;have E:c=decide (items.size<a.size):=by
    cases i with
    |nn=>simp only[ML]at e;exact(He (by omega)).symm
    |nc=>simp only[ML,Eb]at e;exact(Do (by omega)).symm
    |cn=>simp only[ML,Eb]at e;exact(He (by omega)).symm
    |eq p r=>rw[NZ]at hz;cases hz
    |ne p r=>rw[NZ]at hz;cases hz
   rw[E]at h
   wp_walk
   exact⟨_,rfl,by simpa[Builtin.Tuple.tupleCompareSizes]using h⟩
  case h=>exact⟨rfl,rfl,items.toList,a.toList,rfl,o,by omega⟩
end
section
variable{prog:Program}{w:World}{A:Around}{E:Value->Shared->Prop}{s:Shared}
theorem Ak{l b:Addr}{items a:Array Value}{c:Bool}{Q:Value->Shared->Prop}(v:IsTup s.heap l items)(y:IsTup s.heap b a)(t:pO A.in1 s items.toList a.toList c)
 (u:A.units<cLine)(h:Q (.bool c) s):wpAny (model prog w) A (compareOp .Lt (.ref l) (.ref b)) Q E s:=by
 obtain⟨⟨z,dd,p,q⟩,k,o,n,m⟩:=id v;obtain⟨⟨B,i,j,g⟩,d,f,r,e⟩:=id y;simp only at o m f e;subst o m f e;exact richCompare_meets_room (op:=.Lt) ⟨_,k,rfl⟩ ⟨_,d,rfl⟩ PySem.F.slot_tuple_lt PySem.F.entry_tuple_lt (PySem.F.args_tuple_lt_2 _ _) (rZ l b items a n r dd i q g c)
  ⟨k,d,t,show Value.bool c≠Value.notImplemented/\Q (.bool c) s from⟨(λx=>nomatch x),h⟩⟩ u
end
end HT
namespace VL
open PySem PySem.Spec PySem.Calls PyProof.Rows
noncomputable def iE(h:Heap)(k:Value)(x:Int×List Int×Int):Prop:=
 ∃a o n t u q items,k=.ref a/\h.get? a=some o/\o.cls=.type "tuple"/\o.data=.seq #[.int x.1 t,.ref q,.int x.2.2 u] n/\h.IsList q items/\IntsAre items.toList x.2.1
noncomputable def fy(x y:Int×List Int×Int):Bool:=if x.1=y.1 then(if x.2.1=y.2.1 then decide (x.2.2<y.2.2)else HT.lexLt x.2.1 y.2.1)else decide (x.1<y.1)
section
variable{prog:Program}{w:World}{A:Around}{E:Value->Shared->Prop}{s:Shared}
open PySem.W
theorem IT{k f:Value}{x y:Int×List Int×Int}{Q:Bool->Shared->Prop}(m:iE s.heap k x)(l:iE s.heap f y)(j:A.units<cLine)(h:Q (fy x y) s):wpAny (model prog w) A (keyLt' (tuples' true) k f) Q E s:=by
 obtain⟨a,o,n,t,u,q,items,rfl,r,K,z,d,i⟩:=m;obtain⟨L,G,H,C,B,D,b,rfl,p,J,v,c,g⟩:=l;unfold fy at h;refine kat_lt r z p v (kat_cons (wpAny_eqBool_int (kat_go (λe=>kat_yes ?_) λe=>kat_no ?_)))
 .rw[Bz (by simpa using e)]at h;refine kat_cons (rY d c i g j prog w _ _ (kat_go (λe=>kat_yes ?_) λe=>kat_no ?_))
  .rw[Bz (by simpa using e)]at h;refine kat_cons (wpAny_eqBool_int (kat_go (λe=>kat_yes (kat_nil ?_)) λe=>kat_no ?_))
   .rw[He (by have I:x.2.2=y.2.2:=(by simpa using e);omega)]at h;exact h
   .exact kat_one _ _ (SY h)
  .rw[Bi (by simpa using e)]at h;exact kat_one _ _ (HT.kT d c i g j h)
 .rw[Bi (by simpa using e)]at h;exact oneLt_int h
theorem r6{h:Heap}:∀{ks:List Value}{e:List (Int×List Int×Int)},Paired (iE h) ks e->∃c,KatTups h ks c/\c.length=ks.length/\∀v∈c,∃i t,v=Value.int i t
 |_,_,.nil=>⟨[],trivial,rfl,λ_ z=>by cases z⟩
 |_,_,.cons (b:=x) f r=>by
  obtain⟨c,k,j,g⟩:=r6 r;obtain⟨a,o,n,t,u,q,items,rfl,l,p,m,_⟩:=f;refine⟨.int x.1 t::c,KatTups.cons l p m rfl k,by rw[Eb,j,Eb],λv d=>?_⟩;rcases FV.mp d with rfl|d
  .exact⟨_,_,rfl⟩
  .exact g v d
theorem Al{ks:List Value}{a:List (Int×List Int×Int)}{Q:SortKind->Shared->Prop}(p:Paired (iE s.heap) ks a)(f:0<ks.length)(h:Q (tuples' true) s):wpAny (model prog w) A (keyKind' ks.toArray) Q E s:=by obtain⟨g,d,e,c⟩:=r6 p;refine kat_kind (T:=.type "int") d (by omega) (λv b=>?_) (by decide) h;obtain⟨i,t,rfl⟩:=c v b;exact Looks.now
theorem DK{ks:List Value}{a:List (Int×List Int×Int)}{C:Bool->Shared->Prop}{i j:Nat}(p:Paired (iE s.heap) ks a)(b:i<ks.length)(g:j<ks.length)(f:A.units<cLine)
 (h:C (fy (a.getD i (0,[],0)) (a.getD j (0,[],0))) s):kas_ask prog w A (tuples' true) ks i j C s:=by
 have c:∀{ks:List Value}{a:List (Int×List Int×Int)},Paired (iE s.heap) ks a->∀i,i<ks.length->iE s.heap (ks.getD i Value.none) (a.getD i (0,[],0)):=by
  intro ks a p
  induction p with
  |nil=>intro i b;cases b
  |cons e r d=>
   intro i b;cases i with
   |zero=>exact e
   |succ i=>exact d i (by simpa using b)
 exact IT (c p i b) (c p j g) f h
end
end VL
namespace L2
open PySem PySem.Spec PyProof.Rows
theorem bits_le{x:Int}{n:Nat}(h:x.natAbs<2^n):Builtin.Int.intBits x<=n:=by
 unfold Builtin.Int.intBits;split
 .exact KE _
 .rename_i hx
  have a:x.natAbs≠0:=λe=>hx (by simp[Int.natAbs_eq_zero.mp e]);have:=(Xx a).mpr h;omega
theorem uC{i j:Int}(h:Builtin.Int.intBits i+Builtin.Int.intBits j<=134217728):IntMulOk i j:=by
 unfold IntMulOk Builtin.Int.intTooBig;have a:¬((Builtin.Int.intBits i:Int)+(Builtin.Int.intBits j:Int)>((bitsLine:Nat):Int)):=by rw[bitsLine_eq];omega
 intro z;rw[Ap]at z;exact a (Bn z.2)
section
variable{X:Cx}
theorem DM:jf X (binaryOp .Mult) (rI IntMulOk λi j=>.int (i*j)):=M4 λ_ _ _ _ _ _ _ a q=>mul_int q a
noncomputable def Am(_ j:Int):Prop:=j≠0/\j.natAbs.log2<1000000000
theorem An:jf X (binaryOp .FloorDiv) (rI Am λi j=>.int (i.fdiv j)):=λa s e H x y v u Q I c b h=>by obtain⟨i,j,rfl,rfl,d,q⟩:=h;obtain⟨t,rfl⟩:=c;obtain⟨f,rfl⟩:=b;exact floordiv_int d.1 ⟨.int (i.fdiv j),H,I.tok _,⟨_,rfl⟩,q⟩ (.inr (I.ok.P8 X.A s rfl rfl I.bk))
end
theorem aF{H:Hp}{p:Addr}(h:H p=none)(o:HO):ao H (upd H p o):=λb u q=>by rw[ay (aR q h)];exact q
theorem ao.tup{K:Frag}{H H':Hp}{a:Addr}{b:List V}(e:ao H H')(h:g8 K H a b):g8 K H' a b:=by
 rcases h with(h|⟨o,h⟩)|h
 .exact .inl (.inl (e _ _ h))
 .exact .inl (.inr ⟨o,e _ _ h⟩)
 .exact .inr h
theorem yh{n:Nat}(h:n<=100000):n<=sizeLine:=Hm h (by decide)
end L2
namespace L2
theorem gO{i j:Int}(c:0<=j)(b:j<=1000000)(a:i.natAbs<2^64):xV i j:=⟨c,b,a⟩
end L2
namespace L2
open PySem PySem.Spec PyProof.Rows
theorem aT.thing{P:Program}{w:World}{H:Hp}{h:Heap}{a:Addr}{o:HO}(x:aT P w H h a o):∃b,h.get? a=some b:=by
 cases o with
 |lst d=>obtain⟨_,_,_,_,e⟩:=x;exact⟨_,e⟩
 |tup d=>obtain⟨_,_,_,b,e,_⟩:=x;exact⟨_,e⟩
 |dK c=>obtain⟨_,_,_,_,b,_,_,e,_⟩:=x;exact⟨_,e⟩
 |dT c=>obtain⟨_,_,_,_,b,_,_,e,_⟩:=x;exact⟨_,e⟩
 |set S n=>obtain⟨b,_,_,_,e,_⟩:=x;exact⟨_,e⟩
 |ins C l g=>obtain⟨_,_,_,e,_⟩:=x;exact⟨_,e⟩
 |own y=>exact x
 |xd g=>obtain⟨_,⟨_,_,_,e,_⟩,_⟩:=x;exact⟨_,e⟩
 |jb j k=>obtain⟨_,_,_,e⟩:=x;exact⟨_,e⟩
 |rD b u=>obtain⟨e,_⟩:=x;exact⟨_,e⟩
 |Gq i=>exact⟨_,x⟩
 |met f y=>exact⟨_,x⟩
 |ext φ=>obtain⟨_,e,_⟩:=x;exact e
theorem fS.gone{P:Program}{w:World}{H:Hp}{h:Heap}{a:Addr}(x:fS P w H h)(e:h.get? a=none):H a=none:=by
 cases q:H a with
 |none=>rfl
 |some u=>obtain⟨b,z⟩:=(x a u q).thing;rw[e]at z;cases z
theorem fS.tracked{P:Program}{w:World}{H:Hp}{h h':Heap}(x:fS P w H h)(k:∀b u c,H b=some u->h.get? b=some c->h'.get? b=some c):fS P w H h':=λa o e=>
 (x a o e).stay (λb u z q=>by
   rcases z with rfl|z
   .exact k b o u e q
   .exact k b _ u z q) (λ_ q=>q) λ_ _ q=>q
structure Us(P:Program)(w:World)(outer:List Env)(H:Hp)(s:Shared)(H':Hp)(a C:Addr)(s':Shared):Prop where
 os:s'.os=s.os
 bare:AllBare s'.gens
 un:Un (frs outer) [] H H' s.heap s'.heap
 hok:fS P w H' s'.heap
 new:H' a=none
 old:s.heap.get? a=none
 Ut:∃(B:Heap)(a0:Value),Heap.FlyingW B outer a (.ref C) a0 s'.heap/\∀b o,s'.heap.get? b=some o->b∉frs outer->((∃o',s.heap.get? b=some o')\/∃u,H' b=some u)->B.get? b=some o
noncomputable def ji(P:Program)(w:World):x8:=λb H s E e d=>∃a C c,e=.ref a/\Us P w b H s c a C d/\E (.ref C) none c
section
variable{P:Program}{w:World}{K:Frag}{mg:Str->Option Value}{base:Heap}{N:List Str}{qual:Str}{scope:Scope}{f:Addr}{cd:Value}{A:Around}{outer:List Env}{s:Shared}{H:Hp}{E:XK}
abbrev gP(P:Program)(w:World)(K:Frag)(mg:Str->Option Value)(base:Heap)(N:List Str)(qual:Str)(scope:Scope)(f:Addr)(cd:Value)(A:Around)(outer:List Env)(s:Shared)(H:Hp)(E:XK):Cx:=
 x9 (ji P w) P w K mg base N qual scope f cd A outer s H E
theorem kW{e:Env}{l:List Env}{L b:Addr}(a:e.frame=some L):b∈frs (e::l)↔b=L\/b∈frs l:=by unfold frs;rw[O5,a];exact FV
theorem r8{g:List (Addr×Obj)}{x:St}{l t:Hp}{i:Shared}{r:Heap}(I:Inv (gP P w K mg base N qual scope f cd A outer s H E) g x l i)
 (u:Un (frs (gP P w K mg base N qual scope f cd A outer s H E).stack) [] l t i.heap r):Un (frs outer) [] H t s.heap r:=by
 have D:(gP P w K mg base N qual scope f cd A outer s H E).env.frame=some s.heap.objs.size:=rfl;have p:∀b,b∈frs (gP P w K mg base N qual scope f cd A outer s H E).stack↔b=s.heap.objs.size\/b∈frs outer:=λb=>kW D;have c:Un (frs outer) [] H l s.heap i.heap:=I.base;have G:∀b o,s.heap.get? b=some o->b∉frs outer->b∉frs (gP P w K mg base N qual scope f cd A outer s H E).stack:=λb o q d z=>by
  rcases(p b).mp z with z|z
  .exact absurd (Ee q) (by rw[z];exact Mo _)
  .exact d z
 refine⟨λb o q n d a=>?_,λb o q n d a=>?_,λb o q n a=>?_,λb o q a=>?_,λb m q=>u.tups b m (c.tups b m q),λb o v q=>u.ie b o v (c.ie b o v q),λb y q=>?_⟩
 .exact u.keep b o (c.keep b o q n d a) (c.free b o q n a) (G b o q d) a
 .obtain⟨J,e⟩:=c.slot b o q n d a;obtain⟨h,k⟩:=u.slot b _ e (c.free b o q n a) ((p b).mpr (.inr d)) a;exact⟨h,k⟩
 .obtain⟨j,e⟩:=c.there b o q a;exact u.free b j e (c.free b o q n a) a
 .obtain⟨j,e⟩:=c.there b o q a;exact u.there b j e a
 .obtain⟨C,e⟩:=c.jc b y q;obtain⟨B,k⟩:=u.jc b _ e;exact⟨C++B,by rw[k,V9]⟩
theorem Ao{l:List Env}{x t:Hp}{p g h:Heap}(u:Un (frs l) [] x t p g)(k:∀b o,g.get? b=some o->b∉frs l->((∃c,p.get? b=some c)\/∃u,t b=some u)->h.get? b=some o)
 (ff:∀b,b∈frs l->∃o,g.get? b=some o/\∀vs,o.data≠.fields vs)(up:g.UpToSlots h):Un (frs l) [] x t p h:=by
 have v:∀b o,b∈frs l->g.get? b=some o->∃m,h.get? b=some {o with slots:=m}:=λb o a q=>by obtain⟨c,e,y⟩:=ff b a;rw[q]at e;cases e;exact up b o q y
 refine⟨λb o q n a d=>k b o (u.keep b o q n a d) a (.inl ⟨o,q⟩),λb o q n a d=>?_,u.free,λb o q d=>?_,u.tups,u.ie,u.jc⟩
 .obtain⟨m,i⟩:=u.slot b o q n a d;obtain⟨j,r⟩:=v b _ a i;exact⟨j,r⟩
 .obtain⟨c,i⟩:=u.there b o q d;by_cases a:b∈frs l
  .obtain⟨m,r⟩:=v b c a i;exact⟨_,r⟩
  .exact⟨c,k b c i a (.inl ⟨o,q⟩)⟩
theorem Aq{b:List (Addr×Obj)}{g:St}{d:Hp}{c:Shared}{a:Addr}(I:Inv (gP P w K mg base N qual scope f cd A outer s H E) b g d c)(e:c.heap.get? a=none):s.heap.get? a=none:=by
 have h:Un (frs outer) [] H d s.heap c.heap:=I.base;cases q:s.heap.get? a with
 |none=>rfl
 |some o=>obtain⟨i,z⟩:=h.there a o q (by simp);rw[e]at z;cases z
theorem uD{g:List (Addr×Obj)}{M:St}{d:Hp}{c:Shared}{h':Heap}{a C:Addr}{k:List Value}(I:Inv (gP P w K mg base N qual scope f cd A outer s H E) g M d c)
 (l:Heap.MadeExcOf c.heap h' a (.ref C) k)(q:E (.ref C) none d):(gP P w K mg base N qual scope f cd A outer s H E).xe (.ref a) {c with heap:=h'}:=by
 have D:(gP P w K mg base N qual scope f cd A outer s H E).env.frame=some s.heap.objs.size:=rfl;have T:∀b,b∈frs (gP P w K mg base N qual scope f cd A outer s H E).stack↔b=s.heap.objs.size\/b∈frs outer:=λb=>kW D;have ff:=I.stack;have p:∀env∈(gP P w K mg base N qual scope f cd A outer s H E).stack,∀b,env.frame=some b->b∈frs (gP P w K mg base N qual scope f cd A outer s H E).stack:=λenv Y b r=>Pj.mpr ⟨env,Y,r⟩;have J:=PySem.W.funFrames_hide ff p;refine wpAny_leaves_madeW (base:=PySem.W.hideAll c.heap (frs (gP P w K mg base N qual scope f cd A outer s H E).stack)) (h:=c.heap) I.ok.frames D (λb o z=>PySem.W.of_hideAll _ z) J l λn t y x2 x3 Q=>?_;have v:∀b o,c.heap.get? b=some o->b∉frs (gP P w K mg base N qual scope f cd A outer s H E).stack->n.get? b=some o:=λb o z i=>y.1 b o (hideAll_get _ z i);have fm:∀b,b∈frs (gP P w K mg base N qual scope f cd A outer s H E).stack->∃o,c.heap.get? b=some o/\∀R,o.data≠.fields R:=λb r=>(J.mem r).2;have up:c.heap.UpToSlots n:=(Heap.UpToSlots.of_keeps l.keeps).trans Q;have S:Un (frs (gP P w K mg base N qual scope f cd A outer s H E).stack) [] d d c.heap n:=Ao Un.refl (λb o z i _=>v b o z i) fm up;refine⟨a,C,d,rfl,⟨I.os,I.bare,r8 I S,I.hok.tracked λb u U z O=>v b U O λm=>?_,I.hok.gone l.new,Aq I l.new,_,_,y,λb o z i j=>?_⟩,q⟩
 .have:=I.ig b m;rw[z]at this;cases this
 .have L:b∉frs (gP P w K mg base N qual scope f cd A outer s H E).stack:=λm=>by
   rcases j with⟨B,e⟩|⟨u,e⟩
   .rcases(T b).mp m with m|m
    .exact absurd (Ee e) (by rw[m];exact Mo _)
    .exact i m
   .have:=I.ig b m;rw[e]at this;cases this
  have:∃o1,c.heap.get? b=some o1:=by
   rcases j with⟨B,e⟩|⟨u,e⟩
   .exact Un.there (show Un (frs outer) [] H d s.heap c.heap from I.base) b B e (by simp)
   .exact(I.hok b u e).thing
  obtain⟨o1,G⟩:=this;have Z:=v b o1 G L;have x:n.get? b=some o:=z;rw[Z]at x;cases x;exact hideAll_get _ G L
theorem Ar{g:List (Addr×Obj)}{G:St}{n:Hp}{i s':Shared}{e:Value}(I:Inv (gP P w K mg base N qual scope f cd A outer s H E) g G n i)
 (S:ji P w (gP P w K mg base N qual scope f cd A outer s H E).stack n i E e s'):(gP P w K mg base N qual scope f cd A outer s H E).xe e s':=by
 obtain⟨a,C,l,rfl,F,q⟩:=S;obtain⟨B,Z,x,kB⟩:=F.Ut;have t:(gP P w K mg base N qual scope f cd A outer s H E).env.frame=some s.heap.objs.size:=rfl;have Q:∀b,b∈frs (gP P w K mg base N qual scope f cd A outer s H E).stack↔b=s.heap.objs.size\/b∈frs outer:=λb=>kW t;refine wpAny_leaves_onW I.ok.frames t x λU h L=>?_;have fm:∀b,b∈frs (gP P w K mg base N qual scope f cd A outer s H E).stack->∃o,s'.heap.get? b=some o/\∀M,o.data≠.fields M:=λb T=>(x.2.2.1.mem T).2;have D:∀b u,l b=some u->b∉frs (gP P w K mg base N qual scope f cd A outer s H E).stack:=λb u z m=>by have k:=I.ig b m;obtain⟨o,R,_⟩:=I.stack.mem m|>.2;rw[F.un.free b o R k (by simp)]at z;cases z
 have O:=Ao F.un (λb o z j c=>h.1 b o (kB b o z j c)) fm L;refine⟨a,C,l,rfl,⟨F.os.trans I.os,F.bare,r8 I O,F.hok.tracked λb u r z J=>h.1 b r (kB b r J (D b u z) (.inr ⟨u,z⟩)),F.new,Aq I F.old,B,Z,h,λb o z j c=>?_⟩,q⟩;have Qh:b∉frs (gP P w K mg base N qual scope f cd A outer s H E).stack:=λm=>by
  rcases c with⟨d,e⟩|⟨u,e⟩
  .rcases(Q b).mp m with m|m
   .exact absurd (Ee e) (by rw[m];exact Mo _)
   .exact j m
  .exact D b u e m
 have y:(∃d,i.heap.get? b=some d)\/∃u,l b=some u:=by
  rcases c with⟨d,e⟩|z
  .exact .inl (Un.there (show Un (frs outer) [] H n s.heap i.heap from I.base) b d e (by simp))
  .exact .inr z
 have:∃o1,s'.heap.get? b=some o1:=by
  rcases y with⟨d,e⟩|⟨u,e⟩
  .exact F.un.there b d e (by simp)
  .exact(F.hok b u e).thing
 obtain⟨o1,k⟩:=this;have v:=kB b o1 k Qh y;have Y:=h.1 b o1 v;have p:U.get? b=some o:=z;rw[Y]at p;cases p;exact v
theorem NB:Passes (ji P w) (gP P w K mg base N qual scope f cd A outer s H E) E:=λ_ _ _ _ _ _ I h=>Ar I h
end
abbrev Uv:List Value:=[.type "ValueError",.type "Exception",.type "BaseException",.type "object"]
structure Ro(K:Frag)(C:Addr):Prop where
 exc:PySem.W.excIn K C Uv "ValueError.__new__"=true
 ga:findIn K (.ref C) "__getattribute__"=some (some (.builtin "BaseException.__getattribute__"))
 gt:findIn K (.ref C) "__getattr__"=some none
 cl:findIn K (.ref C) "__class__"=some (some (.builtin "object.__class__"))
 ob:mroIn K C (.type "object")=some true
 bs:mroIn K C (.type "BaseException")=some true
noncomputable def As(X:Cx)(R:Addr->Hp->Prop):Prop:=∀(b:List (Addr×Obj))(e:St)(H:Hp)(s:Shared)(d:Heap)(a C:Addr)(c:List Value),Inv X b e H s->Heap.MadeExcOf s.heap d a (.ref C) c->R C H->X.xe (.ref a) {s with heap:=d}
theorem DN{P:Program}{w:World}{K:Frag}{d:Str->Option Value}{base:Heap}{N:List Str}{c:Str}{a:Scope}{f:Addr}{g:Value}{A:Around}{b:List Env}{s:Shared}{H:Hp}{E:XK}:
 As (gP P w K d base N c a f g A b s H E) (λC H'=>E (.ref C) none H'):=λ_ _ _ _ _ _ _ _ I e q=>uD I e q
section
variable{X:Cx}{x:Str}{C:Addr}{e:Expr}{t:TA}{np cpos pos:Pos}{R:Addr->Hp->Prop}
end
theorem PS.mY{X:Cx}{st:Stmt}{t:TS}(h:PS X.mY st t):PS X st t:=λa s b H D I c=>PH (h a s b H D (I.m5 _) c) (λ_ _ q=>q.fV) λ_ _ z=>HP z
theorem CK.SX{P:Program}{w:World}{K:Frag}{j:Str->Option Value}{base:Heap}{x b:Str}{st:Stmt}{f:Addr}{l:FuncData}{N d:List Str}{k:Nat}{sp:Sp}(F:CK K x b st f l)(S:fq N d (ak st))
 (g:∀vs H Q E,sp vs H Q E->vs.length=d.length)
 (p:∀(c:Value)(A:Around)(a:List Env)(s:Shared)(H:Hp)(vs:List V)(Q:VK)(E:XK),bX k (A.deeper (envOfC b (ak st) s.heap.objs.size f c))->sp vs H Q E->
   ∃t,rF (gP P w K j base N b (ak st) f c A a s H E) (aX st) t/\t {nx:=λ_ H'=>Q .aL H',rt:=Q} (start N vs) H):bK P w K j base (ji P w) (k+1) f l d sp:=by
 obtain⟨v,u,kV,q,r,z,c,y,m,e,n,i⟩:=F.ex;subst e;exact Nd n i S g λA a s H vs Q E o h=>p c A a s H vs Q E o h
theorem bK.NC{P:Program}{w:World}{K:Frag}{d:Str->Option Value}{base:Heap}{k:Nat}{f:Addr}{g:FuncData}{c:List Str}{sp:Sp}(F:bK P w K d base (ji P w) k f g c sp):
 bK P w K d base Nt k f g c (λvs H Q _=>sp vs H Q E0):=
 ⟨λvs H Q E h=>F.len vs H Q E0 h,λA a s H b i vs Q E j m l r h=>WX (F.run A a s H b i vs Q E0 j m l r h) λr n z=>by
   cases r with
   |error e=>obtain⟨_,_,_,_,_,q⟩:=z;exact q.elim
   |ok fl=>cases fl<;>exact z⟩
noncomputable def FX(X:Cx)(a:List (Addr×Obj))(d:St)(E:XK)(e:Value)(s':Shared):Prop:=∃c b,Inv X a d c b/\ji X.prog X.w X.stack c b E e s'
section
variable{X:Cx}{k:Nat}{f:Addr}{fd:FuncData}{ps:List Str}{sp:Sp}{x:Str}{p pos:Pos}{e:Expr}{es:List Expr}{t:TA}
end
noncomputable def ND(a C:Addr)(h:Heap):Prop:=∃b c,h.get? a=some b/\b.cls=.ref C/\b.data=.fields c
noncomputable def Rp(a C:Addr):HO:=.ext (ND a C)
section
variable{X:Cx}{pins:List (Addr×Obj)}{σ:St}{H:Hp}{s:Shared}
end
section
variable{prog:Program}{w:World}{A:Around}{E:Value->Shared->Prop}{s:Shared}{K:Frag}{a C:Addr}
end
inductive NF:V->Value->Prop where
 |own (D:Addr):NF (.ref D) (.ref D)
 |ty (n:String):NF (.ty n) (.type n)
noncomputable def jj(cells:List (Str×Addr)):List (Str×NameKind)->List (Str×Addr)->List (Str×Addr)
 |[],acc=>acc
 |(n,k)::r,acc=>jj cells r (if k=.free then(n,(cells.lookup n).getD 0)::acc else acc)
theorem kX{env:Env}:∀(l:List (Str×NameKind))(a:List (Str×Addr)),(∀p∈l,p.2=.free->∃c,env.cells.lookup p.1=some c)->
 (forIn l a λ(x:Str×NameKind)(cs:List (Str×Addr))=>if(x.2==NameKind.free)=true then(do let c<-cellOf env x.1;pure (Mt ((x.1,c)::cs)))else(pure (Mt cs):Sem _))=pure (jj env.cells l a)
 |[],a,_=>rfl
 |(n,k)::r,a,h=>by
  have ih:=λa=>kX (env:=env) r a λp g=>h p (Dx _ g);rw[List.forIn_cons];by_cases b:k=.free
  .obtain⟨c,i⟩:=h (n,k) Da b;have d:env.cells.lookup n=some c:=i;have e:cellOf env n=pure c:=by unfold cellOf;rw[d]
   have f:(k==NameKind.free)=true:=by simp[b]
   simp only[f,if_true,e,pure_bind,ih];simp only[jj,b,if_true,d,L4]
  .have f:(k==NameKind.free)=false:=by simpa using b
   simp only[f,WJ,XB,pure_bind,ih];simp only[jj,b,XB]
theorem kY{a:Scope}{env:Env}(h:∀p∈a.names,p.2=.free->∃c,env.cells.lookup p.1=some c):closureFor a env=pure (jj env.cells a.names []):=by have:=kX (env:=env) a.names [] h;unfold closureFor;simp only[bind_pure];exact this
theorem r9{cells:List (Str×Addr)}:∀(l:List (Str×NameKind))(a:List (Str×Addr)),(∀p∈l,p.2=.free->∃c,cells.lookup p.1=some c)->(∀y c,a.lookup y=some c->cells.lookup y=some c)->
 ∀y c,(jj cells l a).lookup y=some c->cells.lookup y=some c
 |[],_,_,ha,y,c,h=>ha y c h
 |(n,k)::r,a,hl,ha,y,c,h=>by
  refine r9 r _ (λp i=>hl p (Dx _ i)) (λz d hz=>?_) y c h;by_cases b:k=.free
  .rw[Bz b,GC]at hz;obtain⟨m,g⟩:=hl (n,k) Da b;have f:cells.lookup n=some m:=g;split at hz
   .rename_i e
    have j:z=n:=by simpa using e
    subst j;rw[f]at hz⊢;exact hz
   .exact ha z d hz
  .rw[Bi b]at hz;exact ha z d hz
theorem kZ{cells:List (Str×Addr)}:∀(l:List (Str×NameKind))(a:List (Str×Addr))(y:Str),((a.lookup y).isSome=true\/(y,NameKind.free)∈l)->((jj cells l a).lookup y).isSome=true
 |[],_,_,h=>h.elim id λz=>nomatch z
 |(n,k)::r,a,y,h=>by
  refine kZ r _ y ?_;by_cases b:k=.free
  .rw[Bz b,GC];by_cases e:(y==n)=true
   .left;rw[e];rfl
   .rw[TB]at e;rw[e];rcases h with h|h
    .exact .inl h
    .rcases FV.mp h with h|h
     .have:y=n:=GM Prod.fst h;subst this;simp at e
     .exact .inr h
  .rw[Bi b];rcases h with h|h
   .exact .inl h
   .rcases FV.mp h with h|h
    .have:NameKind.free=k:=GM Prod.snd h;exact absurd this.symm b
    .exact .inr h
theorem n5{cells:List (Str×Addr)}:∀(l:List (Str×NameKind))(a:List (Str×Addr))(y:Str)(c:Addr),(jj cells l a).lookup y=some c->(∃b,a.lookup y=some b)\/(y,NameKind.free)∈l
 |[],_,y,c,h=>.inl ⟨c,h⟩
 |(n,k)::r,a,y,c,h=>by
  rcases n5 r _ y c h with⟨b,h'⟩|h'
  .by_cases d:k=.free
   .rw[Bz d,GC]at h';split at h'
    .rename_i e
     have f:y=n:=by simpa using e
     subst f;subst d;exact .inr Da
    .exact .inl ⟨b,h'⟩
   .rw[Bi d]at h';exact .inl ⟨b,h'⟩
  .exact .inr (Dx _ h')
theorem fW{env:Env}(d:env.scope.kind=.function):∀(l:List (Str×NameKind))(y:Str),
 (l.map λ(n,k)=>if(k==NameKind.free&&env.scope.kind==.function&&env.kindOf n==some .cell)then(n,NameKind.cell)else(n,k)).lookup y=(l.lookup y).map λk=>if(k==NameKind.free&&env.kindOf y==some .cell)=true then NameKind.cell else k
 |[],_=>rfl
 |(n,k)::r,y=>by
  have ih:=fW d r y;have b:(env.scope.kind==ScopeKind.function)=true:=by rw[d];rfl
  rw[GT,GC];by_cases e:(y==n)=true
  .have f:y=n:=by simpa using e
   subst f;by_cases c:(k==NameKind.free&&env.kindOf y==some .cell)=true
   .have a:(k==NameKind.free&&env.scope.kind==.function&&env.kindOf y==some .cell)=true:=by rw[b,Xf];exact c
    simp only[a,if_true,GC,SZ,L5,c]
   .have a:¬(k==NameKind.free&&env.scope.kind==.function&&env.kindOf y==some .cell)=true:=by rw[b,Xf];exact c
    rw[Bi a];simp only[GC,SZ,L5];rw[Bi c]
  .rw[TB]at e;by_cases a:(k==NameKind.free&&env.scope.kind==.function&&env.kindOf n==some .cell)=true
   .simp only[a,if_true,e,GC];exact ih
   .rw[TB]at a;simp only[a,WJ,XB,e,GC];exact ih
noncomputable def cI(sc c:Scope)(N a b:List Str):Bool:=
 sc.kind==.function&&b.all (λx=>sc.names.lookup x==some .local&&!a.contains x)&&
 sc.names.all (λp=>p.2 !=.cell&&(p.2 !=.local||sc.names.lookup p.1==some .local)&&(p.2 !=.free||(c.names.lookup p.1==some .cell&&sc.names.lookup p.1==some .free)))&&
 a.all (λy=>sc.names.lookup y !=some .local)&&(N.length==a.length&&(N.zip a).all (λp=>p.1==p.2||sc.names.lookup p.2==none))
structure dW(sc L8:Scope)(N N' xs:List Str):Prop where
 kind:sc.kind=.function
 own:∀x∈xs,sc.names.lookup x=some .local/\x∉N'
 uE:∀p∈sc.names,p.2≠.cell
 loc:∀p∈sc.names,p.2=.local->sc.names.lookup p.1=some .local
 free:∀p∈sc.names,p.2=.free->L8.names.lookup p.1=some .cell/\sc.names.lookup p.1=some .free
 out:∀y∈N',sc.names.lookup y≠some .local
 len:N.length=N'.length
 pair:∀(i:Nat)(y:Str),N'[i]?=some y->sc.names.lookup y≠none->N[i]?=some y
theorem dW.of{sc l:Scope}{N b d:List Str}(h:cI sc l N b d=true):dW sc l N b d:=by
 unfold cI at h;simp only[Ap,IH,XR,bne_iff_ne,Pm,X9,ne_eq]at h;obtain⟨⟨⟨⟨s,k⟩,c⟩,r⟩,q,o⟩:=h;refine⟨s,λx g=>⟨(k x g).1,λz=>?_⟩,λp a=>(c p a).1.1,λp a e=>?_,λp a e=>?_,r,q,λi y f m=>?_⟩
 .have:=(k x g).2;rw[List.contains_eq_mem]at this;simp[z]at this
 .rcases(c p a).1.2 with z|z
  .exact absurd e z
  .exact z
 .rcases(c p a).2 with z|z
  .exact absurd e z
  .exact z
 .have t:i<b.length:=(FM.mp f).1;have j:N[i]?=some (N[i]'(by lia)):=B1 (by lia);have n:(N[i]'(by lia),y)∈N.zip b:=by refine QP (i:=i) ?_;rw[List.getElem?_zip_eq_some];exact⟨j,f⟩
  rcases o _ n with z|z
  .rw[j];exact GM some z
  .exact absurd z m
noncomputable def aK(X:Cx)(a:Scope)(C:Addr)(b d:List Str)(s:Shared)(H:Hp)(c:List Addr):Cx:=
 {X with N:=b++d,s₀:=s,H₀:=H,env:=compEnvC a (jj X.env.cells a.names []) C X.env,outer:=X.stack,stack:=X.stack,ex:=c,fn:=λy=>b.contains y,pn:=[],xe:=λ_ _=>False}
section
variable{X:Cx}{pins:List (Addr×Obj)}{σ:St}{H:Hp}{s:Shared}{scope:Scope}{xs N':List Str}{fp:List Addr}
theorem gQ(I:Inv X pins σ H s)(O:dW scope X.env.scope X.N N' xs):∀p∈scope.names,p.2=.free->∃c,X.env.cells.lookup p.1=some c:=λp a e=>I.ok.has p.1 (.inl (O.free p a e).1)
theorem eN(I:Inv X pins σ H s)(O:dW scope X.env.scope X.N N' xs)(y:Str):(relabel scope X.env).names.lookup y=(scope.names.lookup y).map λk=>if k=.free then NameKind.cell else k:=by
 unfold relabel;show(List.map _ scope.names).lookup y=_;rw[fW I.ok.kind];cases e:scope.names.lookup y with
 |none=>rfl
 |some k=>
  rw[L5,L5];by_cases a:k=.free
  .subst a;have:=(O.free (y,.free) (L9 e) rfl).1;have b:X.env.kindOf y=some .cell:=this;rw[b];rfl
  .rw[Bi a,Bi (by simp[a])]
theorem Au{n:Heap}{R:Nat}(I:Inv X pins σ H s)(O:dW scope X.env.scope X.N N' xs)(A:∀b∈fp,dD X pins H b)(D:∀b∈fp,b<s.heap.objs.size){L:Str->Option Value}
 (Y:n.Ns s.heap.objs.size L)(g:∀b o,s.heap.get? b=some o->n.get? b=some o):
 Inv (aK X scope s.heap.objs.size xs N' s H fp) [] (xs.map (λ_=>none)++σ) H {s with heap:=n,toks:=R}:=by
 have f:=r9 (cells:=X.env.cells) scope.names [] (gQ I O) (λy c z=>nomatch z);refine⟨⟨I.ok.mod,?_,I.ok.glob,I.ok.blt,BM _,λx y c n G=>I.ok.inj x y c (f x c n) (f y c G),λy B=>?_,λy c n G=>?_,I.ok.hd,I.ok.frames,.inl rfl,λb j=>⟨Ha (D b j),λx c e=>(A b j).2.2.2.2.1 x c (f x c e)⟩,
  I.bs,Hm I.ok.CJ I.sz,λb o e j=>?_,λb j z=>?_,I.stack,I.ig,I.ok.tree,I.ok.P8⟩,rfl,I.bare,Un.kept g,⟨L,Y,λi y v e1 h e3=>?_⟩,λy c e=>?_,I.hok.fresh (BM _),λy c e=>I.fU y c (f y c e),λp T=>absurd (show p∈([]:List (Addr×Obj))from T) (by simp),I.hok.kept g,?_⟩
 .show scope.kind=_;exact O.kind
 .have d:(relabel scope X.env).names.lookup y=some .cell\/(relabel scope X.env).names.lookup y=some .free:=B;rw[eN I O]at d;have a:scope.names.lookup y=some .free:=by
   cases e:scope.names.lookup y with
   |none=>rw[e]at d;rcases d with z|z<;>cases z
   |some k=>
    rw[e]at d;by_cases g:k=.free
    .rw[g]
    .rw[L5,Bi g]at d;rcases d with z|z
     .have:k=.cell:=Hk z;exact absurd this (O.uE (y,k) (L9 e))
     .exact absurd (Hk z) g
  exact WD.mp (kZ scope.names [] y (.inr (L9 a)))
 .have E:(jj X.env.cells scope.names []).lookup y=some c:=G;have B:y∈xs:=by have Qi:xs.contains y=true:=n;simpa using Qi
  rcases n5 scope.names [] y c E with⟨_,z⟩|z
  .cases z
  .have K:=(O.free (y,.free) z rfl).2;rw[(O.own y B).1]at K;cases K
 .have P:X.base.get? b=some o:=e;rcases(A b j).2.2.2.1 with z|z
  .exact I.ok.zC b o P z
  .exact absurd (HI (Ee P) (Hm I.ok.CJ z)) (Mo _)
 .rcases FV.mp (I.uc b z)with q|q
  .exact(A b j).2.1 q
  .exact(A b j).2.2.1 q
 .have J:(xs++N')[i]?=some y:=e1;by_cases M:i<xs.length
  .rw[NA (by simpa using M),FK]at h;cases q:xs[i]? with
   |none=>rw[q]at h;cases h
   |some z=>rw[q]at h;cases h
  .rw[Kb (by simpa using M)]at h;rw[Kb (by lia)]at J;rw[AN]at h;have Uw:y∈N':=QP J;have t:HM (relabel scope X.env) y:=e3;unfold HM at t;rw[eN I O]at t;have a:scope.names.lookup y=some .free:=by
    cases e:scope.names.lookup y with
    |none=>rw[e]at t;rcases t with z|z|z<;>cases z
    |some k=>
     rw[e]at t;by_cases g:k=.free
     .rw[g]
     .rw[L5,Bi g]at t;rcases t with z|z|z
      .have:k=.local:=Hk z;subst this;exact absurd e (O.out y Uw)
      .have:k=.cell:=Hk z;exact absurd this (O.uE (y,k) (L9 e))
      .exact absurd (Hk z) g
   have Q:=(O.free (y,.free) (L9 a) rfl).1;obtain⟨m,U,Z⟩:=I.loc;have Ux:=O.pair _ y J (by rw[a];simp);obtain⟨u,r,l⟩:=Z _ y v Ux h (.inr (.inl Q));refine⟨u,r,?_⟩;rcases l with⟨S,_⟩|⟨_,c,hc,o,C,hd⟩
   .have:X.env.scope.names.lookup y=some .local:=S;rw[Q]at this;cases this
   .refine .inr ⟨.inl ?_,c,?_,o,g c o C,hd⟩
    .show(relabel scope X.env).names.lookup y=_;rw[eN I O,a];rfl
    .obtain⟨c',w⟩:=WD.mp (kZ (cells:=X.env.cells) scope.names [] y (.inr (L9 a)));have q:=f y c' w;rw[hc]at q;show(jj X.env.cells scope.names []).lookup y=some c;rw[w,<-Hk q]
 .obtain⟨v,o,C,hd⟩:=I.cell y c (f y c e);exact⟨v,o,g c o C,hd⟩
 .show(xs.map (λ_=>none)++σ).length=(xs++N').length;rw[Fm,Fm,AN,I.len,O.len]
end
noncomputable def PF(X:Cx)(d:List Expr)(t:TT):Prop:=
 ∀(a:List (Addr×Obj))(s:Shared)(b:St)(H:Hp)(Q:Bool->Hp->Prop),Inv X a b H s->t b H Q->
  wpAny (model X.prog X.w) X.A (forIn d true λc r=>if r=true then do let ok<-isTrue c X.env (eval c X.env);pure (Mt ok)else pure (Mt r)) (TP X a b Q) X.xe s
noncomputable def Rq:TT:=λ_ H Q=>Q true H
theorem IX{X:Cx}:PF X [] Rq:=λ_ _ _ H _ I h=>wpAny_tests_nil ⟨H,I,h⟩
theorem IY{X:Cx}{c:Expr}{t:TT}(h:PT X c t):PF X [c] t:=λa s b H Q I q=>wpAny_tests_one (h a s b H Q I q)
noncomputable def Av(k:Nat)(q:TI)(g:TG)(tc:TT)(te:TE):TE:=λe H Q=>q e H λJ p=>∀D,p D=none->∃W:Nat->Nat->Hp->Prop,(∃m,W 0 m (upd p D (.lst [])))/\∀i m d,W i m d->
 (J.stop i d/\Q (.ref D) d)\/(J.go i d/\∀x o,J.MY i d x o->∀j:List (Option V),j.length=k->g x (j++e) o λa r=>∃h:List (Option V),h.length=k/\a=h++e/\
   tc a r λb n=>if b=true then te a n λy l=>∃f,l D=some (.lst f)/\f.length<sizeLine/\∃c,c<m/\W (i+1) c (upd l D (.lst (f++[y])))else∃c,c<m/\W (i+1) c n)
theorem pP{prog:Program}{w:World}{A:Around}{R:Result->Shared->Prop}{s:Shared}{u a l:Expr}{q:List Expr}{f:Scope}{pos:Pos}{E y:Value}{env:Env}(I:Nat->Shared->Prop)
 (z:∀n s,I n s->wpAny (model prog w) A (pyNext E) (λr e=>match r with
   |none=>R (.ok .next) e
   |some v=>wpAny (model prog w) A (letOwnedTupleGo a E v) (λ_ d=>wpAny (model prog w) A (assign a env v) (λ_ k=>
     wpAny (model prog w) A (forIn q true λc r=>if r=true then do let ok<-isTrue c env (eval c env);pure (Mt ok)else pure (Mt r)) (λok b=>
      if ok=true then wpAny (model prog w) A (eval u env) (λx j=>wpAny (model prog w) A (call (.builtin "list.append") [y,x]) (λ_ i=>∃m,m<n/\I m i) (λ_ _=>False) j) (λ_ _=>False) b
      else∃m,m<n/\I m b) (λ_ _=>False) k) (λ_ _=>False) d) (λ_ _=>False) e) (λ_ _=>False) s)
 (n:Nat)(h:I n s):
 codeAny (model prog w) A (.compLoop (.ListComp u [⟨a,l,q,0⟩] f pos) 0 E y env) R s:=by
 refine codeAny_loop rfl I (λn s G=>?_) n h;show wpAny _ A ((compTurn (.ListComp u [⟨a,l,q,0⟩] f pos) 0 E y env).onRaise (λx=>do noteFrame x env;theTreesLotGoes x)) _ _ s;refine wpAny_noted ?_;rw[compTurn_list];refine D2 (X1 (D2 (PH (z n s G) (λr e p=>?_) λ_ _ g=>g.elim)));cases r with
 |none=>exact Hn p
 |some v=>
  refine D2 (PH p (λ_ d t=>?_) λ_ _ g=>g.elim);refine D2 (PH t (λ_ k D=>D2 (PH D (λok b o=>?_) λ_ _ g=>g.elim)) λ_ _ g=>g.elim);cases ok with
  |false=>exact Hn ⟨rfl,o⟩
  |true=>exact D2 (D2 (PH o (λx j C=>D2 (PH C (λ_ i B=>Hn (Hn ⟨rfl,B⟩)) λ_ _ g=>g.elim)) λ_ _ g=>g.elim))
section
variable{X:Cx}
theorem lz{tg S elt:Expr}{Z:List Expr}{scope:Scope}{t L:List Str}{pos:Pos}{g:TG}{tc:TT}{te:TE}(hc:X.calm=true)(O:dW scope X.env.scope X.N L t)
 (hg:∀C s0 H0 l,PG (aK X scope C t L s0 H0 l) tg g)(hf:∀C s0 H0 l,PF (aK X scope C t L s0 H0 l) Z tc)(he:∀C s0 H0 l,PE (aK X scope C t L s0 H0 l) elt te)
 {v:List (Addr×Obj)}{G:St}{B:Hp}{f:Shared}{it:Addr}{l:List Addr}{tn:Nat->Heap->Prop}{J:It}{Q:VK}{E:Value->Shared->Prop}{RR:Value->Addr->Result->Shared->Prop}
 (I2:Inv X v G B f)(T:Turn X.prog X.w X.K tg J l it tn)(st2:tn 0 f.heap)(f2:∀b∈l,dD X v B b)
 (h:∀D,B D=none->∃W:Nat->Nat->Hp->Prop,(∃m,W 0 m (upd B D (.lst [])))/\∀i m H2,W i m H2->
   (J.stop i H2/\Q (.ref D) H2)\/(J.go i H2/\∀x H3,J.MY i H2 x H3->∀H:List (Option V),H.length=t.length->g x (H++G) H3 λY H4=>∃P:List (Option V),P.length=t.length/\Y=P++G/\
     tc Y H4 λb M=>if b=true then te Y M λy H6=>∃ys,H6 D=some (.lst ys)/\ys.length<sizeLine/\∃I,I<m/\W (i+1) I (upd H6 D (.lst (ys++[y])))else∃I,I<m/\W (i+1) I M))
 (hRR:∀D C s' H',(∃m,s'.heap.Ns C m)->(∀h',Heap.SameBut C s'.heap h'->Inv X v G H' {s' with heap:=h'})->f.heap.objs.size<=D->f.heap.objs.size<=C->H' C=none->Q (.ref D) H'->RR (.ref D) C (.ok .next) s'):
 wpAny (model X.prog X.w) X.A (newList []) (λacc s₃=>wpAny (model X.prog X.w) X.A (newFunctionEnv scope X.env.globals (jj X.env.cells scope.names []) [] X.env.qual none .none (some X.env)) (λU s₄=>codeAny (model X.prog X.w) X.A (.compStart (.ListComp elt [⟨tg,S,Z,0⟩] scope pos) 0 (.ref it) acc {U with scope:=relabel scope X.env}) (RR acc U.locals) s₄) E s₃) E f:=by
 refine XQ (wpAny_newFunctionEnv O.uE (by intro y hy;simp at hy) (λs Aw Ax=>?_) O.kind);dsimp only at Aw Ax⊢;have hD:B f.heap.objs.size=none:=I2.hok.fresh (BM _);obtain⟨W,⟨m0,w0⟩,turn⟩:=h f.heap.objs.size hD;have I3:Inv X v G (upd B f.heap.objs.size (.lst [])) {f with heap:=f.heap.push {cls:=.type "list",dict:=none,data:=.seq ([]:List Value).toArray}}:=
  I2.laid (t':=f.toks) (λb u e=>D1 _ e) (BM _) ⟨KE _,[],0,.nil,Fn _ rfl⟩
 have Rr:∀b∈l,b<f.heap.objs.size:=λb j=>by obtain⟨o,e,_⟩:=T.obj _ _ st2 b j;exact Ee e
 have f3:∀b∈l,dD X v (upd B f.heap.objs.size (.lst [])) b:=λb j=>by obtain⟨q0,q⟩:=f2 b j;exact⟨by rw[ay (Ha (Rr b j))];exact q0,q⟩
 generalize Mb:({f with heap:=f.heap.push {cls:=.type "list",dict:=none,data:=.seq ([]:List Value).toArray}}:Shared)=k at I3;have n8:k.heap=f.heap.push {cls:=.type "list",dict:=none,data:=.seq ([]:List Value).toArray}:=by rw[<-Mb]
 have hsz:k.heap.objs.size=f.heap.objs.size+1:=by rw[n8,Heap.size_push]
 have old:∀b o,k.heap.get? b=some o->s.get? b=some o:=λb o e=>Ax.extBut b o (by rw[<-n8];exact Ha (Ee e)) (D1 _ (by rw[<-n8];exact e));have J4:Inv (aK X scope k.heap.objs.size t L k (upd B f.heap.objs.size (.lst [])) l) [] (t.map (λ_=>none)++G) (upd B f.heap.objs.size (.lst [])) {k with heap:=s,toks:=f.toks+([]:List (Str×Value)).length}:=
  Au I3 O f3 (λb j=>by rw[hsz];exact QQ (Rr b j)) (by rw[n8];exact Aw) old
 have Uy:({k with heap:=s,toks:=f.toks+([]:List (Str×Value)).length}:Shared)={f with heap:=s,toks:=f.toks+([]:List (Str×Value)).length}:=by rw[<-Mb]
 rw[Uy]at J4;have S0:tn 0 s:=T.keep _ _ _ st2 λb j o e=>old b o (by rw[n8];exact D1 _ e);have hC:(f.heap.push {cls:=.type "list",dict:=none,data:=.seq ([]:List Value).toArray}).objs.size=k.heap.objs.size:=by rw[n8]
 have Rt:∀{H':Hp},(∀b∈l,H' b=none)->∀b∈l,dD (aK X scope k.heap.objs.size t L k (upd B f.heap.objs.size (.lst [])) l) [] H' b:=λhn b j=>⟨hn b j,Ha (by rw[hsz];exact QQ (Rr b j)),J4.ok.zD b j,.inl j,λx c e=>((J4.ok.QG b j).2 x c e),λp hp=>absurd (show p∈([]:List (Addr×Obj))from hp) (by simp)⟩;have R:codeAny (model X.prog X.w) X.A (.compLoop (.ListComp elt [⟨tg,S,Z,0⟩] scope pos) 0 (.ref it) (.ref f.heap.objs.size) (compEnvC scope (jj X.env.cells scope.names []) k.heap.objs.size X.env))
  (RR (.ref f.heap.objs.size) k.heap.objs.size) {f with heap:=s,toks:=f.toks+([]:List (Str×Value)).length}:=by
  refine pP (λn s'=>∃(i:Nat)(H:List (Option V))(H':Hp),H.length=t.length/\Inv (aK X scope k.heap.objs.size t L k (upd B f.heap.objs.size (.lst [])) l) [] (H++G) H' s'/\tn i s'.heap/\(∀b∈l,H' b=none)/\W i n H') ?_ m0
   ⟨0,t.map (λ_=>none),_,AN _,J4,S0,λb j=>(f3 b j).1,w0⟩
  rintro n s5 ⟨i,H,M,hv0,I5,L6,Qd,w5⟩;rcases turn i n M w5 with⟨stop,qn⟩|⟨go,step⟩
  .refine bD (T.done (aK X scope k.heap.objs.size t L k (upd B f.heap.objs.size (.lst [])) l) rfl rfl rfl hc i [] s5 (H++G) M _ I5 (Rt Qd) L6 stop) ?_;rintro r s6 ⟨hr,I6⟩;subst hr;obtain⟨m,hnm,_⟩:=I6.loc;refine hRR _ _ s6 M ⟨m,hnm⟩ (λh' GJ=>?_) (BM _) (by rw[hsz];exact Xy _) I6.free qn;have Ru:∀b o,k.heap.get? b=some o->b≠k.heap.objs.size:=λb o e=>Ha (Ee e);have u:=I6.base;have Uz:=I3.Gx (s':={s6 with heap:=h'}) (H':=M) (ch:=l) I6.os ⟨λb o e n j hx=>GJ.extBut b _ (Ru b o e) (u.keep b o e n j hx),λb o e n j hx=>by
    obtain⟨sl,q⟩:=u.slot b o e n j hx;exact⟨sl,GJ.extBut b _ (Ru b o e) q⟩,u.free,λb o e hx=>by
    obtain⟨o',q⟩:=u.there b o e hx;exact⟨o',GJ.extBut b _ (Ru b o e) q⟩,u.tups,u.ie,u.jc⟩ (λa o e=>?_) I6.bare (λb j=>?_)
   .exact Uz
   .have S5:∀b u,M b=some u->b≠k.heap.objs.size:=λb u e z=>by subst z;have:=I6.free;have e2:M k.heap.objs.size=none:=this;rw[e2]at e;cases e
    refine(I6.hok a o e).stay (λb u j q=>GJ.extBut b u ?_ q) (λ_ q=>q) λ_ _ q=>q;rcases j with rfl|j
    .exact S5 _ _ e
    .exact S5 _ _ j
   .obtain⟨q0,q1,q2,q3,q4,q5⟩:=f3 b j;exact⟨q3,q1,q4,q5⟩
  .refine bD (T.item (aK X scope k.heap.objs.size t L k (upd B f.heap.objs.size (.lst [])) l) rfl rfl rfl hc i [] s5 (H++G) M _ I5 (Rt Qd) L6 go) ?_;rintro r s6 ⟨u,hr,h6⟩;subst hr;refine bD h6 ?_;rintro _ s7 ⟨x,H7,I7,r7,y7,Rv,UA⟩;have UB:=I7.pinned (Rt UA) (T.obj _ _ Rv);refine bD (hg _ _ _ _ _ s7 (H++G) H7 x u _ UB r7 (step x H7 y7 H hv0)) ?_;rintro _ s8 ⟨Wg,H8,I8,P,hv1,e8,q8⟩;subst e8;have fin:∀{s9:Shared}{H9:Hp},Inv (aK X scope k.heap.objs.size t L k (upd B f.heap.objs.size (.lst [])) l) ([]++kI l s7.heap) (P++G) H9 s9->(∃I,I<n/\W (i+1) I H9)->
    ∃m,m<n/\∃(i:Nat)(H:List (Option V))(H':Hp),H.length=t.length/\Inv (aK X scope k.heap.objs.size t L k (upd B f.heap.objs.size (.lst [])) l) [] (H++G) H' s9/\tn i s9.heap/\(∀b∈l,H' b=none)/\W i m H':=λ{s9 H9} I9 ⟨I,hm,w9⟩=>by
    refine⟨I,hm,i+1,P,H9,hv1,I9.iz,T.keep _ _ _ Rv λb j o e=>(I9.pin (b,o) (Fk _ (Fk _ (fk j e)))).1,λb j=>?_,w9⟩;obtain⟨o,e,d⟩:=T.obj _ _ Rv b j;exact(I9.pin (b,o) (Fk _ (Fk _ (fk j e)))).2.1
   refine bD (hf _ _ _ _ _ s8 (P++G) H8 _ I8 q8) ?_;rintro ok s9 ⟨H9,I9,q9⟩;cases ok with
   |false=>exact fin I9 q9
   |true=>show wpAny _ _ _ _ _ _;refine bD (he _ _ _ _ _ s9 (P++G) H9 _ I9 q9) ?_;rintro y UC ⟨vy,UD,UE,UG,ys,hys,hl,UH⟩;refine bD (nX (X:=aK X scope k.heap.objs.size t L k (upd B f.heap.objs.size (.lst [])) l) _ UC (P++G) UD (.ref f.heap.objs.size) [vy] _ [y] (λ_ H'=>∃I,I<n/\W (i+1) I H') UE rfl (.cons UG .nil) ⟨_,ys,vy,rfl,rfl,hys,hl,UH⟩) ?_;rintro _ Wh ⟨_,Wi,UI,_,UJ⟩;exact fin UI UJ
 rw[hC];exact codeAny_compStart_list R (T.self X.A 0 _ _ _ S0 R)
theorem DO{tg a j:Expr}{i:List Expr}{scope:Scope}(d l:List Str){pos:Pos}{r:TI}{g:TG}{tc:TT}{te:TE}(L:X.calm=true)(y:cI scope X.env.scope X.N l d=true)(E:PI X tg a r)
 (G:∀C f k c,PG (aK X scope C d l f k c) tg g)(K:∀C f k c,PF (aK X scope C d l f k c) i tc)(he:∀C f k c,PE (aK X scope C d l f k c) j te)
 (u:∀z,foldedSetIterable a X.env z=pure z:=by intro _;rfl):PE X (.ListComp j [⟨tg,a,i,0⟩] scope pos) (Av d.length r g tc te):=by
 intro b s p H Q I h;have O:=dW.of y;rw[eval_ListComp];refine wpAny_comprehension_free (use:=none) rfl u (kY (gQ I O)) O.kind O.loc (bD (E b s p H _ I h) λv s1 R=>bD R λt s2 P=>?_);obtain⟨it,c,tn,J,H2,e,Y,T,n,U,x⟩:=P;subst e;refine lz (RR:=λo C=>compPost (model X.prog X.w) X.A X.xe none (EP X b p Q) o C) L O G K he Y T n U x ?_;rintro D C s' Z ⟨m,B⟩ M _ _ _ q;exact⟨m,B,λS GJ=>⟨.ref D,Z,M S GJ,rfl,q⟩⟩
end
theorem n9{c:List Bool}:∀{a:List Value},Vals (c.map V.bl) a->a=c.map Value.bool:=by
 induction c with
 |nil=>intro a r;rw[XO]at r;cases r;rfl
 |cons b c g=>
  intro a r;rw[GT]at r;cases r with
  |cons f d=>have e:_=Value.bool b:=f;rw[e,g d];rfl
theorem uF(d:List Bool):((Ea d.length).all λi=>(d[i]?).getD true)=d.all id:=by
 rw[WG,IH,IH];constructor
 .intro h b e;obtain⟨i,c,rfl⟩:=SU e;have:=h i (Kk.mpr c);simp only[B1 c,L4]at this;exact this
 .intro h i c;have a:=Kk.mp c;simp only[B1 a,L4];exact h _ (Pt a)
section
variable{X:Cx}
theorem yi(k:X.calm=true):bG X (.builtin "sum") (λa H Q=>∃(p:Addr)(ns:List Int),a=[.ref p]/\fh X.K H p (ns.map V.int)/\Q (.int ns.sum) H):=by
 intro d s o H a t Q I r h;obtain⟨p,ns,rfl,l,q⟩:=h;obtain⟨u,rfl,g⟩:=Vals.one r;cases(show u=Value.ref p from g);obtain⟨b,rv,i,_⟩:=I.list l;have f:=intsAre_of rv;obtain⟨a,e⟩:=f.allInts.items;have c:s.heap.IsList p (intItems a):=e▸i.isList;refine sum_intListG (I.ok.hd k) c λx v w j=>?_;have n:ns=a.toList.map (·.1):=by rw[<-nums_intItems,<-e];exact(show numsOf b.toArray.toList=ns from f.numsOf).symm
 have m:preSum (numAt a) a.size=ns.sum:=by rw[preSum_eq,List.take_of_length_le (by simp),n]
 rw[m];exact⟨.int ns.sum,H,I.kept j,⟨_,rfl⟩,q⟩
theorem yj(y:X.calm=true):bG X (.builtin "all") (λj H Q=>∃(p:Addr)(c:List Bool),j=[.ref p]/\fh X.K H p (c.map V.bl)/\Q (.bl (c.all id)) H):=by
 intro k s E H j G Q I r h;obtain⟨p,c,rfl,B,q⟩:=h;obtain⟨u,rfl,n⟩:=Vals.one r;cases(show u=Value.ref p from n);obtain⟨a,rv,t,_⟩:=I.list B;have l:=n9 rv;have g:=t.isList;have f:p<s.heap.objs.size:=by obtain⟨_,e,_⟩:=g;exact Ee e
 refine call_all_walk (wpAny_pyIter_list g ?_);refine⟨s.heap.objs.size,[s.heap.objs.size,p],[s.heap.objs.size],a.toArray.size,_,_,λi=>(c[i]?).getD true,rfl,Walks.list (A:=X.A.in1) (I.ok.hd y) _ p (Ha f) a.toArray,
  ⟨⟨_,Fn _ rfl,rfl,rfl⟩,g.push _⟩,λi v L N O C m=>?_,λM J x=>?_⟩
 .have d:a[i]?=some v:=by simpa using C
  rw[l,FK]at d;cases e:c[i]? with
  |none=>rw[e]at d;cases d
  |some b=>rw[e]at d;simp only[e,L4]at m;have:v=Value.bool b:=(Hk d).symm;subst this;exact Sr m
 .have e:((Ea a.toArray.size).all λi=>(c[i]?).getD true)=c.all id:=by
   have D:a.toArray.size=c.length:=by rw[FC,l,AN]
   rw[D];exact uF c
  rw[e];exact⟨.bl _,H,I.kept λb o z=>x b o (λw=>by rw[DL.mp w]at z;exact Mo _ (Ee z)) (D1 _ z),rfl,q⟩
theorem DP{i:Nat}{x:Str}{tg f r:Expr}{k:List Expr}{scope:Scope}{d pos t:Pos}(G R:List Str){wi:TI}{g:TG}{tc:TT}{te:TE}(hN:X.N.Nodup)(hi:X.N[i]?=some x)(B:Loc X.env.scope x)(hc:X.calm=true)(ho:cI scope X.env.scope X.N R G=true)(NG:PI X tg f wi)
 (hg:∀C L P K,PG (aK X scope C G R L P K) tg g)(hf:∀C L P K,PF (aK X scope C G R L P K) k tc)(he:∀C L P K,PE (aK X scope C G R L P K) r te)
 (hsw:swapsWith (.ListComp r [⟨tg,f,k,0⟩] scope pos) (some (.Name x d)) t.line X.env=pure true:=by rfl)
 (hs:∀z,foldedSetIterable f X.env z=pure z:=by intro _;rfl)(hfn:X.fn x=true\/X.env.scope.names.lookup x=some .local:=by first|exact .inl rfl|exact .inr rfl|assumption):
 PS X (.Assign [.Name x d] (.ListComp r [⟨tg,f,k,0⟩] scope pos) t) (jT (Av G.length wi g tc te) (eB i)):=by
 intro j s S H W I h;have O:=dW.of ho;rw[exec_Assign_Name_used _ _ _ _ hsw];refine D2 (X1 (D2 ?_));show wpAny _ X.A (do let _<-comprehension (.ListComp r [⟨tg,f,k,0⟩] scope pos) scope X.env _ (newList []) false (eval f X.env) (some (assign (.Name x d) X.env))) _ _ s;refine D2 (PH (wpAny_comprehension_free (use:=some (assign (.Name x d) X.env)) (Q:=λ_ s'=>SP X j W .next s') rfl hs (kY (gQ I O)) O.kind O.loc (bD (NG j s S H _ I h) λv s1 h1=>bD h1 λitv s2 h2=>?_)) (λ_ s' hq=>Hn (Hn hq)) λ_ _ e=>e);obtain⟨it,K,tn,J,H2,e,M,T,U,f2,hq⟩:=h2;subst e;refine lz (Q:=λx H1=>eB i x S H1 W.nx) (RR:=λacc C=>compPost (model X.prog X.w) X.A X.xe (some (assign (.Name x d) X.env)) (λ_ s'=>SP X j W .next s') acc C) hc O hg hf he M T U f2 hq ?_;rintro D C s' H' ⟨m,hm⟩ hI _ hC fC q;have I':Inv X j S H' s':=hI s'.heap ⟨rfl,λ_ _=>rfl⟩;have Z:∀b o,s2.heap.get? b=some o->b≠C:=λb o e=>Ha (HI (Ee e) hC);have nL:C≠X.env.locals:=λe=>by obtain⟨m2,hn2,_⟩:=M.loc;obtain⟨o,_,_,ho2,_⟩:=hn2;exact Z _ o ho2 e.symm
 have nC:∀y c,X.env.cells.lookup y=some c->c≠C:=λy c e z=>by obtain⟨v,o,e1,_⟩:=M.cell y c e;exact Z _ o e1 z
 have nP:∀p∈X.pn++j,p.1≠C:=λp hp z=>Z _ _ (M.pin p hp).1 z;show wpAny _ X.A (assign (.Name x d) X.env (.ref D)) _ _ _;refine wpAny_assign_Name (nO I' hN hi B (v:=.ref D) rfl (λY Rw hsm=>?_) hfn);obtain⟨a,GJ,ha⟩:=hsm;have aC:a≠C:=by
  rcases ha with rfl|ha
  .exact NM nL
  .exact nC x a ha
 refine⟨m,hm.sameBut GJ (NM aC),λh' l=>⟨_,H',?_,q⟩⟩;refine Rw.Gx (s':={Y with heap:=h'}) (H':=H') (ch:=[C]) rfl ⟨λb o e n E B=>l.extBut b o (λz=>B (by rw[z];exact DL.mpr rfl)) e,λb o e n E B=>⟨o.slots,l.extBut b o (λz=>B (by rw[z];exact DL.mpr rfl)) e⟩,λb o e n B=>n,λb o e B=>⟨o,l.extBut b o (λz=>B (by rw[z];exact DL.mpr rfl)) e⟩,λb G q=>q,λb o u q=>q,λb ps q=>⟨#[],by rw[Array.append_empty];exact q⟩⟩ (λa o e=>?_) Rw.bare (λb E=>?_)
 .refine(Rw.hok a o e).stay (λb u E q=>l.extBut b u ?_ q) (λ_ q=>q) λ_ _ q=>q;rintro rfl;rcases E with rfl|E
  .rw[fC]at e;cases e
  .rw[fC]at E;cases E
 .rw[DL.mp E];exact⟨.inr (Hm M.sz hC),nL,λy c e z=>nC y c e z,nP⟩
noncomputable def Qj(a st:Int)(n:Nat):It:=⟨λi _=>i<n,λi H x b=>b=H/\x=.int (a+i*st),λi _=>n<=i⟩
theorem sd{P:Program}{w:World}{K:Frag}{tg:Expr}(c:Addr)(g st:Int)(n:Nat):Turn P w K tg (Qj g st n) [c] c (λi h=>IsRangeIter h c (g+(i:Nat)*st) ((n:Int) -(i:Nat)) st)where
 mem:=by simp
 obj:=λi h st b d=>by
  have e:b=c:=by simpa using d
  subst e;exact⟨_,st,λv z=>by have L:Data.fields _=Data.cell v:=z;cases L⟩
 keep:=λi h l st k=>k c (by simp) _ st
 item:=by intro X r m u q i a s G H E I j D p;subst r m u;obtain⟨C,B,O,A,y,x⟩:=j c (by simp);have W:=Walks.range (prog:=X.prog) (w:=X.w) (I.ok.hd q) c g st n;refine W.item i s _ _ p D λv l J N f M=>?_;obtain⟨t,rfl⟩:=N;have I1:Inv X a G H {s with heap:=l,toks:=J}:=I.turned (λb o d e=>M b o (by simpa using d) e) C B A y x;exact⟨_,rfl,rG (s:={s with heap:=l,toks:=J}) (n:="range_iterator") f rfl rfl (by decide) ⟨.int (g+i*st),H,I1,⟨t,rfl⟩,⟨rfl,rfl⟩,f,λb d=>(j b d).1⟩⟩
 done:=by intro X r m u q i a s G H E I j D p;subst r m u;obtain⟨C,B,O,A,y,x⟩:=j c (by simp);exact wpAny_pyNext_range_end (I.ok.hd q) D (by have:n<=i:=p;omega) λl Q=>⟨rfl,I.turned (t':=s.toks) (λb o d e=>Q b o d e) C B A y x⟩
 self:=λ_ _ _ _ _ st h=>wpAny_pyIter_rangeiter st h
theorem yk{tg:Expr}{c:List (Addr×Obj)}{f:St}{H:Hp}{s:Shared}{R:It->Hp->Prop}{E:Value->Shared->Prop}{a d st:Int}{n:Nat}{t u v:Tok}{g:Nat}(I:Inv X c f H s)(h:Builtin.Range.small a d st=true)(i:Builtin.Range.rangeSize a d st=(n:Int))
 (q:R (Qj a st n) H):wpAny (model X.prog X.w) X.A (pyIter (.ref s.heap.objs.size)) (QV X c f tg R) E {s with heap:=s.heap.push {cls:=.type "range",data:=.fields #[.int a t,.int d u,.int st v]},toks:=g}:=by
 refine wpAny_pyIter_range (IsRange.new ..) h ?_;have I1:Inv X c f H {s with heap:=s.heap.push {cls:=.type "range",data:=.fields #[.int a t,.int d u,.int st v]},toks:=g}:=I.kept λb o e=>D1 _ e;refine⟨(s.heap.push {cls:=.type "range",data:=.fields #[.int a t,.int d u,.int st v]}).objs.size,[(s.heap.push {cls:=.type "range",data:=.fields #[.int a t,.int d u,.int st v]}).objs.size],_,_,H,rfl,
  I1.kept (t':=g) λb o e=>D1 _ e,sd _ a st n,?_,λb j=>?_,q⟩
 .have l:a+((0:Nat):Int)*st=a:=by simp
  have k:(n:Int) -((0:Nat):Int)=Builtin.Range.rangeSize a d st:=by rw[i];simp
  show IsRangeIter _ _ (a+((0:Nat):Int)*st) ((n:Int) -((0:Nat):Int)) st;rw[l,k];exact Fn _ rfl
 .have e:b=(s.heap.push {cls:=.type "range",data:=.fields #[.int a t,.int d u,.int st v]}).objs.size:=by simpa using j
  subst e;exact I1.m6 (BM _) (I1.hok.fresh (BM _))
noncomputable def NH(ta:TA):TI:=λa H R=>ta a H λb c=>∃(i j k:Int)(n:Nat),b=[.int i,.int j,.int k]/\(k≠0/\k.natAbs<1073741824/\Builtin.Range.small i j k=true/\Builtin.Range.rangeSize i j k=(n:Int))/\R (Qj i k n) c
theorem ym{tg a b c:Expr}{ta:TA}{p pos:Pos}(C:Gl X "range")(B:X.mg "range"=none)(D:PA X [a,b,c] ta)(A:starEach [a,b,c] X.env=[(false,eval a X.env),(false,eval b X.env),(false,eval c X.env)]:=by rfl)(g:starEach [b,c] X.env=[(false,eval b X.env),(false,eval c X.env)]:=by rfl):
 PI X tg (.Call (.Name "range" p) [a,b,c] [] pos) (NH ta):=by
 intro f s o H R I h;refine Call_ (dB I C B boot_range (Kx (bD (D pos f s o H _ I h) λG K ⟨E,L,I1,v,m⟩=>?_) (by rw[A,g]) (by rw[g];rfl)));obtain⟨i,j,k,n,e,⟨m,z,y,x⟩,q⟩:=m;subst e;cases v with
 |cons r d=>
  cases d with
  |cons w d=>
   cases d with
   |cons l d=>
    cases d;obtain⟨t,rfl⟩:=r;obtain⟨J,rfl⟩:=w;obtain⟨u,rfl⟩:=l;exact call_range_3 m (yk I1 y x q) (.inl (Sh z))
end
end L2
namespace L2
open PySem
end L2
namespace L2
open PySem PySem.Spec PyProof.Rows
noncomputable def Dt(X:Cx)(H:Hp)(x:V)(d:PyData):Prop:=
 ∀(a:List (Addr×Obj))(b:St)(s:Shared)(u:Value),Inv X a b H s->RelV x u->∃c,Reads s.heap u d c
section
variable{X:Cx}{H:Hp}
theorem IZ(i:Int):Dt X H (.int i) (.int i):=λ_ _ s u _ r=>by obtain⟨t,rfl⟩:=r;exact⟨_,.int i t⟩
theorem NI(b:Bool):Dt X H (.bl b) (.bool b):=λ_ _ s u _ r=>by
 cases(show u=Value.bool b from r);exact⟨_,.bool b⟩
theorem I0(x:Str):Dt X H (.str x) (.str x):=λ_ _ s u _ r=>by obtain⟨t,rfl⟩:=r;exact⟨_,.str x t⟩
theorem Ja:Dt X H .aL .none:=λ_ _ s u _ r=>by
 cases(show u=Value.none from r);exact⟨_,.none⟩
theorem uG{a:List (Addr×Obj)}{e:St}{s:Shared}(I:Inv X a e H s):∀{b:List V}{ds:List PyData}{c:List Value},Paired (Dt X H) b ds->Vals b c->∃d,ReadsAll s.heap c ds d
 |_,_,_,.nil,.nil=>⟨_,.nil⟩
 |_,_,_,.cons h t,.cons r f=>by obtain⟨d,q⟩:=h _ _ _ _ I r;obtain⟨i,g⟩:=uG I t f;exact⟨_,.cons q g⟩
theorem Ay{a:Addr}{c:List V}{ds:List PyData}(h:fh X.K H a c)(b:Paired (Dt X H) c ds):Dt X H (.ref a) (.list ds):=λ_ _ s u I r=>by
 cases(show u=Value.ref a from r);obtain⟨e,rv,d,_⟩:=I.list h;obtain⟨j,q⟩:=uG I b rv;obtain⟨o,f,i,n,g⟩:=d.isList;exact⟨_,.list f i g (by simpa using q)⟩
theorem Jb{a:Addr}{c:List V}{ds:List PyData}(h:g8 X.K H a c)(b:Paired (Dt X H) c ds):Dt X H (.ref a) (.tuple ds):=λ_ _ s u I r=>by
 cases(show u=Value.ref a from r);obtain⟨d,rv,e,_⟩:=I.tuple h;obtain⟨j,q⟩:=uG I b rv;obtain⟨o,f,i,n,g⟩:=e;exact⟨_,.tuple f i g (by simpa using q)⟩
noncomputable def Ry(X:Cx):R2:=λx y H Q=>∃b a,Dt X H x b/\Dt X H y a/\(SeqAt.shaped b=true/\SeqAt.shaped a=true/\SeqAt.noMix b a=true)/\Q (.bl (PySem.Spec.same b a)) H
noncomputable def Rz(X:Cx):R2:=λx y H Q=>∃b a,Dt X H x b/\Dt X H y a/\(SeqAt.shaped b=true/\SeqAt.shaped a=true/\SeqAt.noMix b a=true)/\Q (.bl (!PySem.Spec.same b a)) H
theorem Jc(j:X.A.units+64<cLine):jf X (compareOp .Eq) (Ry X):=by intro a s m H x y v u Q I c b h;obtain⟨o,n,l,k,⟨i,g,f⟩,q⟩:=h;obtain⟨r,e⟩:=l _ _ _ _ I c;obtain⟨p,d⟩:=k _ _ _ _ I b;exact eq_dataH_same e d i g j f ⟨.bl _,H,I,rfl,q⟩
theorem Jd(j:X.A.units+64<cLine):jf X (compareOp .NotEq) (Rz X):=by intro a s m H x y v u Q I c b h;obtain⟨o,n,l,k,⟨i,g,f⟩,q⟩:=h;obtain⟨r,e⟩:=l _ _ _ _ I c;obtain⟨p,d⟩:=k _ _ _ _ I b;exact ne_dataH_same e d i g j f ⟨.bl _,H,I,rfl,q⟩
end
noncomputable def RA(K:Frag)(a:Addr):It:=⟨λi H=>∃b x,fh K H a b/\b[i]?=some x,λi H x c=>∃p y,H p=none/\x=.ref p/\c=upd H p (.tup [.int i,y])/\∀b,fh K H a b->b[i]?=some y,λi H=>∃b,fh K H a b/\b.length=i⟩
theorem Inv.NJ{X:Cx}{a:List (Addr×Obj)}{l:St}{H:Hp}{s:Shared}{h':Heap}{t':Nat}{ch:List Addr}{p:Addr}{h:List V}(I:Inv X a l H s)(j:∀b∈ch,dD X a H b)
 (k:∀b o,b∉ch->s.heap.get? b=some o->h'.get? b=some o)(t:s.heap.objs.size<=p)(i:aT X.prog X.w (upd H p (.tup h)) h' p (.tup h))(N:∀b∈ch,∃o,h'.get? b=some o):Inv X a l (upd H p (.tup h)) {s with heap:=h',toks:=t'}:=by
 have f:H p=none:=I.hok.fresh t;have x:∀b u,H b=some u->b∉ch:=λb u e z=>by rw[(j b z).1]at e;cases e
 have L:∀b o,s.heap.get? b=some o->b≠p:=λb o e z=>absurd (HI (Ee e) t) (by rw[z];exact Mo _);refine I.step (g':=s.gens) (d':=s.drawn) (ch:=ch) (λb g=>?_) (λb o _ _ d e _=>k b o d e) (λb o _ _ d e _=>⟨o.slots,k b o d e⟩) (λb o _ e n=>by rw[ay (L b o e)];exact n)
  (λb o d e=>⟨o,k b o d e⟩) (λb y e=>by rw[ay (aR e f)];exact e) (λb o u e=>by rw[ay (aR e f)];exact e) (λb M e=>⟨#[],by rw[ay (aR e f),e];simp⟩) (λm B=>?_) (λb u e=>?_) I.bare
 .obtain⟨P,G,O,E,D,C⟩:=j b g;exact⟨E,G,D,C⟩
 .obtain⟨o,J,K,A,r⟩:=B;exact⟨o,J,K,k _ o (λz=>(j _ z).2.1 rfl) A,r⟩
 .by_cases g:b=p
  .subst g;rw[aJ]at e;cases e;exact i
  .rw[ay g]at e;refine(I.hok b u e).stay (λc v d q=>k c v ?_ q) (λc q=>by rw[ay (aR q f)];exact q) λc y q=>by rw[ay (aR q f)];exact q
   rcases d with z|z
   .rw[z];exact x b u e
   .exact x c _ z
theorem yo{P:Program}{w:World}{K:Frag}{C:List Expr}{kk:Nat}{pos:Pos}(a e l:Addr)(S:e≠l):
 Turn P w K (.Tuple C kk pos) (RA K a) [e,l] e (λi h=>(∃f,IsEnum h e l i f)/\h.IsListIter l a i)where
 mem:=by simp
 obj:=λi h q b m=>by
  obtain⟨⟨f,n⟩,o,r,c,d⟩:=q;rcases FV.mp m with z|z
  .subst z;exact⟨_,n,λv z=>by cases z⟩
  .rw[DL.mp z];exact⟨o,r,λv z=>by rw[d]at z;cases z⟩
 keep:=λi h h' q k=>by obtain⟨⟨f,n⟩,G⟩:=q;exact⟨⟨f,k e (by simp) _ n⟩,G.at λo x=>k l (by simp) o x⟩
 item:=by
  intro X hP hw hK hc i N s σ H E I M q hg;subst hP hw hK;obtain⟨xs,x,Z,Y⟩:=hg;obtain⟨j,rv,p,hz⟩:=I.list Z;obtain⟨u,hu,ru⟩:=rv.get Y;obtain⟨⟨f,n⟩,G⟩:=q;have hit:=M l (by simp);have hee:=M e (by simp);have J:a≠l:=λz=>by obtain⟨o,r,c,d⟩:=G;obtain⟨o',g,L,_⟩:=p.isList;rw[z,r]at g;cases g;rw[c]at L;exact absurd L (by decide)
  have UL:a≠e:=λz=>by obtain⟨o',g,L,_⟩:=p.isList;have B:s.heap.get? e=some _:=n;rw[z,B]at g;cases g;exact absurd (show Value.type "enumerate"=Value.type "list"from L) (by decide)
  have D:=Draws.list (prog:=X.prog) (w:=X.w) (A:=X.A.in1) (I.ok.hd hc) l a J j.toArray;have W:=WalksT.enumerateD D e S (by simp[S,UL.symm]) (by simp);have hlt:i<j.toArray.size:=by have:=(FM.mp hu).1;simpa using this
  refine W.item i s _ _ hlt ⟨⟨f,n⟩,G,p.isList⟩ λT vals h' tk UM hT RB NK hk=>?_;obtain⟨t,y,hy,rfl⟩:=UM;have UN:y=u:=by
   have:j[i]?=some y:=by simpa using hy
   rw[hu]at this;exact(Hk this).symm
  subst UN;refine⟨.ref T,rfl,W.go C kk pos i T _ _ _ NK λU hst R=>?_⟩;have S6:T∉[e,l]:=W.apart i T h' NK;obtain⟨⟨O,B⟩,Q,_⟩:=hst;have NL:IsTup U T #[.int i t,y]:=by obtain⟨o,r,c⟩:=RB;exact⟨o,R T o S6 r,c⟩
  have obj:aT X.prog X.w (upd H T (.tup [.int i,x])) U T (.tup [.int i,x]):=⟨yh (by show 2<=100000;decide),[.int i t,y],.cons ⟨t,rfl⟩ (.cons ru .nil),NL⟩;have I2:=I.NJ (t':=tk) (ch:=[e,l]) M (λb o m eo=>R b o m (hk b o m eo)) hT obj (λb m=>by
   rcases FV.mp m with z|z
   .rw[z];exact⟨_,B⟩
   .rw[DL.mp z];obtain⟨o,r,_⟩:=Q;exact⟨o,r⟩)
  refine⟨.ref T,upd H T (.tup [.int i,x]),I2,rfl,⟨T,x,I.hok.fresh hT,rfl,rfl,λys hy=>by rw[I.kH hy Z];exact Y⟩,⟨⟨O,B⟩,Q⟩,λb m=>?_⟩;rw[ay (show b≠T from λz=>S6 (by rw[<-z];exact m))];exact(M b m).1
 done:=by
  intro X hP hw hK hc i N s σ H E I M q hg;subst hP hw hK;obtain⟨xs,Z,Y⟩:=hg;obtain⟨j,rv,p,hz⟩:=I.list Z;obtain⟨⟨f,n⟩,G⟩:=q;obtain⟨f0,f1,f2,f3,f4,f5⟩:=M l (by simp);have J:a≠l:=λz=>by obtain⟨o,r,c,d⟩:=G;obtain⟨o',g,L,_⟩:=p.isList;rw[z,r]at g;cases g;rw[c]at L;exact absurd L (by decide)
  have D:=Draws.list (prog:=X.prog) (w:=X.w) (A:=X.A.in1) (I.ok.hd hc) l a J j.toArray;have hn:j.toArray.size=i:=by rw[FC,<-rv.length];exact Y
  exact wpAny_pyNext_enum_endD D n ⟨by rw[hn];exact G,p.isList⟩ λh' eb=>⟨rfl,I.turned (t':=s.toks) (λb o m x=>eb b o m x) f0 f1 f3 f4 f5⟩
 self:=λ_ _ _ _ _ q h=>by obtain⟨⟨f,n⟩,_⟩:=q;exact wpAny_pyIter_enum n h
section
variable{X:Cx}
noncomputable def NN(K:Frag)(ta:TA):TI:=λc H R=>ta c H λe b=>∃a,e=[.ref a]/\(∃d,fh K b a d)/\R (RA K a) b
theorem DR{a:Expr}{ta:TA}{f:List Expr}{t:Nat}{k p pos:Pos}(E:Gl X "enumerate")(B:X.mg "enumerate"=none)(J:PA X [a] ta)(w:bootBuiltins "enumerate"=some (.type "enumerate"):=by rfl)(y:starEach [a] X.env=[(false,eval a X.env)]:=by rfl):
 PI X (.Tuple f t k) (.Call (.Name "enumerate" p) [a] [] pos) (NN X.K ta):=by
 intro c s g H R I h;refine Call_ (dB I E B w (Kx (bD (J pos c s g H _ I h) λP d ⟨O,j,I1,n,o⟩=>?_) y rfl));obtain⟨l,e,⟨N,A⟩,q⟩:=o;subst e;obtain⟨u,rfl,m⟩:=Vals.one n;cases(show u=Value.ref l from m);obtain⟨v,rv,r,_⟩:=I1.list A;refine call_enumerate_list r.isList λL i C x D=>?_;refine wpAny_pyIter_enum i ?_;have M:Inv X c g j {d with heap:=L}:=I1.kept (t':=d.toks) D;refine⟨d.heap.objs.size+1,[d.heap.objs.size+1,d.heap.objs.size],_,_,j,rfl,M,yo l (d.heap.objs.size+1) d.heap.objs.size (Nat.succ_ne_self _),⟨⟨_,i⟩,C⟩,λb G=>?_,q⟩;rcases FV.mp G with z|z
 .rw[z];exact I1.m6 (by lia) (I1.hok.fresh (by lia))
 .rw[DL.mp z];exact I1.m6 (BM _) (I1.hok.fresh (BM _))
end
noncomputable def RC(K:Frag)(a:Addr)(n:Nat):It:=
 ⟨λi H=>∃b,fh K H a b/\b.length=n/\i<n,λi H x c=>c=H/\∀b,fh K H a b->b.length=n->b[n -1 -i]?=some x,λi _=>i=n⟩
theorem Az{P:Program}{w:World}{K:Frag}{tg:Expr}(a l:Addr)(n:Nat):Turn P w K tg (RC K a n) [l] l (λi h=>h.IsRevIter l a ((n:Int) -1 -(i:Int)))where
 mem:=by simp
 obj:=λi h f b m=>by
  have e:b=l:=by simpa using m
  subst e;obtain⟨o,e,c,d⟩:=f;refine⟨o,e,λv z=>?_⟩;rw[d]at z;cases z
 keep:=λi h r f k=>f.at λo e=>k l (DL.mpr rfl) o e
 item:=by
  intro X B t C S i g s N H E I q f A;subst B t C;obtain⟨O,R,hn,hi⟩:=A;obtain⟨Y,rv,p,hz⟩:=I.list R;have Q:O[n -1 -i]?=some (O[n -1 -i]'(by omega)):=B1 (by omega);obtain⟨u,hu,U⟩:=rv.get Q;obtain⟨M,L,f2,J,G,D⟩:=q l (DL.mpr rfl);have e:(n:Int) -1 -(i:Int)=((n -1 -i:Nat):Int):=by omega
  rw[e]at f;refine wpAny_pyNext_rev_item f p.isList (x:=u) (by simpa using hu) λr j T=>?_;have e2:((n -1 -i:Nat):Int) -1=(n:Int) -1 -((i+1:Nat):Int):=by omega
  rw[e2]at j;have I1:Inv X g N H {s with heap:=r}:=I.turned (t':=s.toks) (λb o m z=>(T.2 b m).trans z) M L J G D;obtain⟨o,e3,c,d⟩:=id j;exact⟨u,rfl,rG (s:={s with heap:=r}) e3 c d (by decide) ⟨_,H,I1,U,⟨rfl,λys Z _=>by rw[I.kH Z R];exact Q⟩,j,λb m=>(q b m).1⟩⟩
 done:=by
  intro X B t C S i g s N H E I q f A;subst B t C;have y:i=n:=A;subst y;obtain⟨M,L,f2,J,G,D⟩:=q l (DL.mpr rfl);have e:(i:Int) -1 -(i:Int)= -1:=by omega
  rw[e]at f;exact wpAny_pyNext_rev_end (I.ok.hd S) f λr eb=>⟨rfl,I.turned (t':=s.toks) (λb o m z=>eb b o m z) M L J G D⟩
 self:=λ_ _ _ _ _ f h=>wpAny_pyIter_revIter f h
section
variable{X:Cx}{tg:Expr}
noncomputable def RD(K:Frag)(ta:TA):TI:=λd H R=>ta d H λe c=>∃a b,e=[.ref a]/\fh K c a b/\R (RC K a b.length) c
theorem Je{a:Expr}{ta:TA}{p pos:Pos}(y:Gl X "reversed")(x:X.mg "reversed"=none)(B:PA X [a] ta)(t:bootBuiltins "reversed"=some (.type "reversed"):=by rfl)(v:starEach [a] X.env=[(false,eval a X.env)]:=by rfl):
 PI X tg (.Call (.Name "reversed" p) [a] [] pos) (RD X.K ta):=by
 intro d s j H R I h;refine Call_ (dB I y x t (Kx (bD (B pos d s j H _ I h) λG c ⟨E,D,I1,m,n⟩=>?_) v rfl));obtain⟨l,f,e,w,q⟩:=n;subst e;obtain⟨u,rfl,k⟩:=Vals.one m;cases(show u=Value.ref l from k);obtain⟨g,rv,r,_⟩:=I1.list w;refine call_reversed_list r.isList ?_;have C:((g.toArray.size:Nat):Int) -1=(f.length:Int) -1 -((0:Nat):Int):=by have:=rv.length;simp;omega
 rw[C];have i:Heap.IsRevIter (c.heap.push (revObj l ((f.length:Int) -1 -((0:Nat):Int)))) c.heap.objs.size l ((f.length:Int) -1 -((0:Nat):Int)):=⟨_,Fn _ rfl,rfl,rfl⟩;refine wpAny_pyIter_revIter i ?_;refine⟨c.heap.objs.size,[c.heap.objs.size],_,_,D,rfl,I1.kept (t':=c.toks) λb o z=>D1 _ z,Az l _ f.length,i,λb A=>?_,q⟩;have e:b=c.heap.objs.size:=by simpa using A
 subst e;exact I1.m6 (BM _) (I1.hok.fresh (BM _))
end
theorem yp:typeLookup (.type "list_reverseiterator") "__len__"=pure none:=by
 rw[typeLookup_type,builtinLookup_eq_fast]
 kernel_rfl
theorem AA:typeLookup (.type "list_reverseiterator") "__length_hint__"=pure (some (.builtin "list_reverseiterator.__length_hint__")):=by
 rw[typeLookup_type,builtinLookup_eq_fast]
 kernel_rfl
section
variable{prog:Program}{w:World}{A:Around}{E:Value->Shared->Prop}
abbrev DS(xs:Array Value)(c:Nat):Obj:={cls:=.type "list",dict:=none,data:=.seq xs c,slots:= #[]}
theorem DU{s:Shared}{R:Result->Shared->Prop}{J l S:Addr}{vs:Array Value}{g:Value}{C:Nat}(u:A.handled=none)(t:s.heap.IsList l vs)(d:s.heap.IsRevIter J l ((vs.size:Int) -1))(r:l≠J)(n:S≠J)(p:S≠l)(x:s.heap.get? S=some (DS #[] C))(hz:vs.size<=sizeLine)
 (y:∀(s':Shared)(j:Array Value)(c:Nat),Moved [S,J] (λa b=>b=a) s s'->s'.heap.get? S=some (DS j c)->ItemsOf (λi v=>vs[vs.size -1 -i]?=some v) j vs.size->R (.ok (.ret g)) s'):
 wpAny (model prog w) A.in1 (Builtin.List.listExtendWith (.ref S) (.ref J) g) (λk s'=>match k with
  |.done f=>R (.ok f) s'
  |.again o=>o.quiet=true/\codeAny (model prog w) A o R s') (λe s'=>R (.error e) s') s:=by
 have V:=(Walks.listRev (prog:=prog) (w:=w) (A:=A.in1) u J l r vs).toS;have q:S∉[J,l]:=λm=>by simp only[FV,WV,or_false]at m;exact m.elim n p
 have z:0<=vs.size/\s.heap.IsRevIter J l ((vs.size:Int) -1 -((0:Nat):Int))/\s.heap.IsList l vs:=⟨KE _,by rw[show(vs.size:Int) -1 -((0:Nat):Int)=(vs.size:Int) -1 by lia];exact d,t⟩;have B:Builtin.List.listSameRef (.ref S) (.ref J)=false:=by simp[Builtin.List.listSameRef,n]
 unfold Builtin.List.listExtendWith;refine D2 (wpAny_typeOf d.typeIs ?_);rw[Bi (by rw[B];decide)];refine D2 (wpAny_pyIter_revIter d ?_);refine D2 (WK ?_);unfold Builtin.List.listLengthHint;refine D2 (wpAny_specialOf d.typeIs yp ?_);show wpAny _ A.in1 (specialOf (Value.ref J) (Str.ofString "__length_hint__")>>=_) _ _ _;refine D2 (wpAny_specialOf d.typeIs AA ?_);generalize h:("list_reverseiterator.__length_hint__":String)=D
 wp_delta
 rw[show splitId D=some ("list_reverseiterator","__length_hint__")from by subst h;decide+kernel];subst h;refine D2 (wpAny_isInstance (b:=true) d.typeIs (by rw[isSubtype_type];kernel_rfl) ?_);refine Hn ?_;rw[Bi (by decide)];refine Hn ⟨plainId_quiet F.plain_extend_loop _,codeAny_extend_loopS V hz _ q _ vs.size 0 _ _ _ rfl (KE _) z x (ItemsOf.nil _) ?_⟩;exact y
theorem nh{s:Shared}{Q:Value->Shared->Prop}{J l:Addr}{vs:Array Value}(D:A.handled=none)(q:s.heap.IsList l vs)(r:s.heap.IsRevIter J l ((vs.size:Int) -1))(y:l≠J)(hz:vs.size<=sizeLine)
 (G:∀(h':Heap)(t:Nat)(a:Array Value)(c:Nat),(∀b o,b≠J->s.heap.get? b=some o->h'.get? b=some o)->h'.get? s.heap.objs.size=some (DS a c)->ItemsOf (λi v=>vs[vs.size -1 -i]?=some v) a vs.size->Q (.ref s.heap.objs.size) {s with heap:=h',toks:=t}):
 wpAny (model prog w) A (call (.type "list") [.ref J]) Q E s:=by
 have I:J<s.heap.objs.size:=let⟨o,h,_⟩:=r;Ee h
 have B:l<s.heap.objs.size:=let⟨o,h,_⟩:=q;Ee h
 refine callType_codes (Q₁:=λu k=>u=.ref s.heap.objs.size/\k={s with heap:=s.heap.push (DS #[] 0)}) F.called_list (F.typeCall_list_1 _) F.entry_list_init (code_list_new _ ⟨rfl,rfl⟩) ?_;rintro u k ⟨rfl,rfl⟩;have d:(s.heap.push (DS #[] 0)).get? s.heap.objs.size=some (DS #[] 0):=Fn _ rfl;refine⟨⟨_,d,rfl⟩,F.args_list_init_2 _ _,?_⟩;show wpAny _ _ (Builtin.List.listItems (.ref s.heap.objs.size)>>=λj=>Builtin.List.listUpdate (.ref s.heap.objs.size) (λ_=> #[])>>=λ_=>letGo j.toList.reverse>>=λ_=>Builtin.List.listExtendWith (.ref s.heap.objs.size) (.ref J) .none) _ _ _;refine D2 ?_;unfold Builtin.List.listItems;refine D2 (wpAny_seqItems d rfl (Hn ?_));show wpAny _ _ (updateSeq s.heap.objs.size (λ_=> #[])>>=λ_=>letGo (#[]:Array Value).toList.reverse>>=λ_=>Builtin.List.listExtendWith (.ref s.heap.objs.size) (.ref J) .none) _ _ _;refine D2 (wpAny_updateSeq d rfl ?_);have H:=Heap.get?_update_self (Obj.mapSeq λ_=>(#[]:Array Value)) d rfl;have f:∀b o,s.heap.get? b=some o->((s.heap.push (DS #[] 0)).update s.heap.objs.size (Obj.mapSeq λ_=>(#[]:Array Value))).get? b=some o:=λb o z=>(Heap.get?_update_other _ _ (WL (Ee z))).trans (D1 _ z);refine D2 (wpAny_letGo ?_);refine DU (A:=A.in1) (s:={s with heap:=_}) D (q.at λo z=>f _ o z) (r.at λo z=>f _ o z) y (WL I) (WL B) H hz λn a c m g C=>⟨rfl,?_⟩;rw[Moved.eq_with m];refine G n.heap n.toks a c (λb o x z=>m.heap b o (λp=>?_) (f b o z)) g C;simp only[FV,WV,or_false]at p;rcases p with e|e
 .exact Mo _ (e▸Ee z)
 .exact x e
end
theorem se{h:Heap}{a:Addr}{o b:Obj}(n:a≠h.objs.size)(e:(h.push o).get? a=some b):h.get? a=some b:=by obtain⟨d,c⟩:=Heap.get?_some_iff.mp e;refine Heap.get?_some_iff.mpr ⟨?_,c⟩;cases h;simpa[Heap.push,Array.getElem?_push,n]using d
noncomputable def NO(K:Frag)(ta:TA):TE:=λd H Q=>ta d H λe b=>∃a c,e=[.ref a]/\fh K b a c/\∀l,b l=none->Q (.ref l) (upd b l (.lst c.reverse))
theorem DV{X:Cx}{a:Expr}{ta:TA}{p p2 pos k:Pos}(Z:X.calm=true)(Y:Gl X "list")(T:X.mg "list"=none)(RE:Gl X "reversed")(w:X.mg "reversed"=none)(ha:PA X [a] ta)(R:starEach [a] X.env=[(false,eval a X.env)]:=by rfl):
 PE X (.Call (.Name "list" p) [.Call (.Name "reversed" p2) [a] [] k] [] pos) (NO X.K ta):=by
 intro n s y H Q I h;refine W5 (dB I Y T (by rfl) ?_ (by decide) (by decide));refine Kx ?_ rfl rfl;show wpAny _ _ (spliced ((false,eval (.Call (.Name "reversed" p2) [a] [] k) X.env)::backTo pos (starEach [] X.env))) _ _ s;refine XE ?_;refine Call_ (dB I RE w (by rfl) (Kx (bD (ha k n s y H _ I h) λus m ⟨vs,x,I1,L,M⟩=>?_) R rfl));obtain⟨l,r,e,S,q⟩:=M;subst e;obtain⟨u,rfl,G⟩:=Vals.one L;cases(show u=Value.ref l from G);obtain⟨d,rv,t,hz⟩:=I1.list S;have C:=rv.length;obtain⟨ol,UP,_⟩:=id t.isList;refine call_reversed_list t.isList (Calls.spliced_nil ?_);have O:=Ee UP;have E:Inv X n y x {m with heap:=m.heap.push (revObj l ((d.toArray.size:Int) -1))}:=I1.kept (t':=m.toks) λb o z=>D1 _ z;have f:=I1.m6 (H':=x) (BM _) (I1.hok.fresh (BM _));obtain⟨f0,f1,f2,f3,f4,f5⟩:=f;refine nh (vs:=d.toArray) (I1.ok.hd Z) (t.isList.at λo z=>D1 _ z) ⟨_,Fn _ rfl,rfl,rfl⟩ (Ha O) (by simp only[FC]<;>lia) λh' A j c P g v=>?_;have ac:j.toList.toArray=j:=rfl;have J:Vals r.reverse j.toList:=by
  have e:j.toList=d.reverse:=by
   refine W3 λi=>?_;by_cases U:i<d.length
   .have h1:=v.2 i;have B:i<j.toList.length:=by have:=v.1;simp at this⊢;lia
    rw[B1 B];have h2:=h1 _ (by rw[<-XT];exact B1 B);rw[U3 U];simpa using h2.symm
   .rw[FR (by have:=v.1;simp at this⊢;lia),FR (by rw[WB];lia)]
  rw[e];exact Vals.reverse rv
 have J1:=E.laid (a:=(m.heap.push (revObj l ((d.toArray.size:Int) -1))).objs.size) (o:=.lst r.reverse) (h':=(m.heap.push (revObj l ((d.toArray.size:Int) -1))).push (DS j c)) (t':=A) (λb o z=>D1 _ z) (BM _) ⟨by rw[WB];exact hz,j.toList,c,J,Fn _ rfl⟩;have UQ:upd x (m.heap.push (revObj l ((d.toArray.size:Int) -1))).objs.size (.lst r.reverse) m.heap.objs.size=none:=by rw[ay (Ha (by simp[Heap.push]))];exact f0
 have J2:=J1.turned (t':=A) (h':=h') (λb o N z=>?_) UQ f1 f3 f4 f5
 .exact⟨.ref _,_,J2,rfl,q _ (E.hok.fresh (BM _))⟩
 .by_cases D:b=(m.heap.push (revObj l ((d.toArray.size:Int) -1))).objs.size
  .subst D;have e:=Fn (m.heap.push (revObj l ((d.toArray.size:Int) -1))) (o:=DS j c) rfl;have e2:=e.symm.trans z;cases e2;exact g
  .refine P b o N ?_;exact se D z
theorem yq{X:Cx}(C:X.calm=true):bG X (.builtin "min") (λa H Q=>∃(p:Addr)(ns:List Int),a=[.ref p]/\fh X.K H p (ns.map V.int)/\ns≠[]/\∀m∈ns,(∀n∈ns,m<=n)->Q (.int m) H):=by
 intro f s J H a L Q I r h;obtain⟨p,ns,rfl,D,w,q⟩:=h;obtain⟨u,rfl,l⟩:=Vals.one r;cases(show u=Value.ref p from l);obtain⟨d,rv,o,_⟩:=I.list D;have i:=intsAre_of rv;obtain⟨a,g⟩:=i.allInts.items;have e:s.heap.IsList p (intItems a):=g▸o.isList;have k:ns=a.toList.map (·.1):=by rw[<-nums_intItems,<-g];exact(show numsOf d.toArray.toList=ns from i.numsOf).symm
 have A:ns.length=a.size:=by rw[k,AN,Gw]
 have y:0<a.size:=by rw[<-A];exact KF.mpr w
 refine min_intList (I.ok.hd C) e y λv N M x B=>?_;obtain⟨t,rfl⟩:=intItems_at x;obtain⟨O,G⟩:=argBest_lt (numAt a) (a.size -1);have c:∀j,j<ns.length->numAt a j=ns.getD j 0:=λj _=>by rw[numAt_eq,<-k]
 have E:∀j,j<ns.length->ns.getD j 0∈ns:=λj b=>by rw[AC,B1 b];exact Pt b
 refine⟨.int _,H,I.kept B,⟨_,rfl⟩,q _ ?_ λn z=>?_⟩
 .rw[c _ (by lia)];exact E _ (by lia)
 .obtain⟨j,b,rfl⟩:=SU z;have:=G j (by lia);rw[c j b,AC,B1 b]at this;exact this
theorem yr{X:Cx}(C:X.calm=true):bG X (.builtin "max") (λa H Q=>∃(p:Addr)(ns:List Int),a=[.ref p]/\fh X.K H p (ns.map V.int)/\ns≠[]/\∀m∈ns,(∀n∈ns,n<=m)->Q (.int m) H):=by
 intro f s J H a L Q I r h;obtain⟨p,ns,rfl,D,w,q⟩:=h;obtain⟨u,rfl,l⟩:=Vals.one r;cases(show u=Value.ref p from l);obtain⟨d,rv,o,_⟩:=I.list D;have i:=intsAre_of rv;obtain⟨a,g⟩:=i.allInts.items;have e:s.heap.IsList p (intItems a):=g▸o.isList;have k:ns=a.toList.map (·.1):=by rw[<-nums_intItems,<-g];exact(show numsOf d.toArray.toList=ns from i.numsOf).symm
 have A:ns.length=a.size:=by rw[k,AN,Gw]
 have y:0<a.size:=by rw[<-A];exact KF.mpr w
 refine max_intList (I.ok.hd C) e y λv N M x B=>?_;obtain⟨t,rfl⟩:=intItems_at x;obtain⟨O,G⟩:=argBest_gt (numAt a) (a.size -1);have c:∀j,j<ns.length->numAt a j=ns.getD j 0:=λj _=>by rw[numAt_eq,<-k]
 have E:∀j,j<ns.length->ns.getD j 0∈ns:=λj b=>by rw[AC,B1 b];exact Pt b
 refine⟨.int _,H,I.kept B,⟨_,rfl⟩,q _ ?_ λn z=>?_⟩
 .rw[c _ (by lia)];exact E _ (by lia)
 .obtain⟨j,b,rfl⟩:=SU z;have:=G j (by lia);rw[c j b,AC,B1 b]at this;exact this
end L2
namespace L2
open PySem
variable{r:List Expr}{env:Env}{pos:Pos}
inductive Jf:List Expr->List (Int×Int)->Prop where
 |nil:Jf [] []
 |cons {a b:Int} {j1 j2 k:Nat} {p1 p2 pos:Pos} {es:List Expr} {qs:List (Int×Int)} (h:Jf es qs):Jf (.Tuple [.Constant (.int a) j1 p1,.Constant (.int b) j2 p2] k pos::es) ((a,b)::qs)
end L2
namespace L2
open PySem PySem.Spec PyProof.Rows
section
variable{X:Cx}{H:Hp}
end
mutual
noncomputable def aD:PyData->Bool
 |.int _=>true
 |.list a=>dF a
 |.tuple a=>dF a
 |.none=>false
 |.bool _=>false
 |.str _=>false
 |.dict _=>false
noncomputable def dF:List PyData->Bool
 |[]=>true
 |x::a=>aD x&&dF a
end
mutual
theorem AB:∀d:PyData,aD d=true->d.canLay0=true
 |.int _,_=>by simp[PyData.canLay0]
 |.list a,h=>by rw[aD]at h;rw[PyData.canLay0];exact jk a h
 |.tuple a,h=>by rw[aD]at h;rw[PyData.canLay0];exact jk a h
 |.none,h=>by simp[aD]at h
 |.bool _,h=>by simp[aD]at h
 |.str _,h=>by simp[aD]at h
 |.dict _,h=>by simp[aD]at h
theorem jk:∀a:List PyData,dF a=true->PyData.canLayAll0 a=true
 |[],_=>by simp[PyData.canLayAll0]
 |x::a,h=>by rw[dF,Ap]at h;rw[PyData.canLayAll0,AB x h.1,jk a h.2];rfl
end
mutual
theorem AD:∀d e:PyData,aD d=true->aD e=true->SeqAt.noMix d e=true
 |.int _,.int _,_,_=>by simp[SeqAt.noMix]
 |.int _,.list _,_,_=>by simp[SeqAt.noMix]
 |.int _,.tuple _,_,_=>by simp[SeqAt.noMix]
 |.list _,.int _,_,_=>by simp[SeqAt.noMix]
 |.list _,.tuple _,_,_=>by simp[SeqAt.noMix]
 |.tuple _,.int _,_,_=>by simp[SeqAt.noMix]
 |.tuple _,.list _,_,_=>by simp[SeqAt.noMix]
 |.list c,.list b,h,a=>by rw[aD]at h a;rw[SeqAt.noMix];exact jl c b h a
 |.tuple c,.tuple b,h,a=>by rw[aD]at h a;rw[SeqAt.noMix];exact jl c b h a
 |.none,_,h,_=>by simp[aD]at h
 |.bool _,_,h,_=>by simp[aD]at h
 |.str _,_,h,_=>by simp[aD]at h
 |.dict _,_,h,_=>by simp[aD]at h
 |.int _,.none,_,h=>by simp[aD]at h
 |.int _,.bool _,_,h=>by simp[aD]at h
 |.int _,.str _,_,h=>by simp[aD]at h
 |.int _,.dict _,_,h=>by simp[aD]at h
 |.list _,.none,_,h=>by simp[aD]at h
 |.list _,.bool _,_,h=>by simp[aD]at h
 |.list _,.str _,_,h=>by simp[aD]at h
 |.list _,.dict _,_,h=>by simp[aD]at h
 |.tuple _,.none,_,h=>by simp[aD]at h
 |.tuple _,.bool _,_,h=>by simp[aD]at h
 |.tuple _,.str _,_,h=>by simp[aD]at h
 |.tuple _,.dict _,_,h=>by simp[aD]at h
theorem jl:∀b a:List PyData,dF b=true->dF a=true->SeqAt.noMixAll b a=true
 |[],[],_,_=>by simp[SeqAt.noMixAll]
 |[],_::_,_,_=>by simp[SeqAt.noMixAll]
 |_::_,[],_,_=>by simp[SeqAt.noMixAll]
 |x::b,y::a,h,c=>by rw[dF,Ap]at h c;rw[SeqAt.noMixAll,AD x y h.1 c.1,jl b a h.2 c.2];rfl
end
mutual
theorem yt:∀d e:PyData,aD d=true->aD e=true->(same d e=true↔d=e)
 |.int a,.int b,_,_=>by simp[same]
 |.int _,.list _,_,_=>by simp[same]
 |.int _,.tuple _,_,_=>by simp[same]
 |.list _,.int _,_,_=>by simp[same]
 |.list _,.tuple _,_,_=>by simp[same]
 |.tuple _,.int _,_,_=>by simp[same]
 |.tuple _,.list _,_,_=>by simp[same]
 |.list g,.list f,h,c=>by rw[aD]at h c;rw[same,gR g f h c,PyData.list.injEq]
 |.tuple g,.tuple f,h,c=>by rw[aD]at h c;rw[same,gR g f h c,PyData.tuple.injEq]
 |.none,_,h,_=>by simp[aD]at h
 |.bool _,_,h,_=>by simp[aD]at h
 |.str _,_,h,_=>by simp[aD]at h
 |.dict _,_,h,_=>by simp[aD]at h
 |.int _,.none,_,h=>by simp[aD]at h
 |.int _,.bool _,_,h=>by simp[aD]at h
 |.int _,.str _,_,h=>by simp[aD]at h
 |.int _,.dict _,_,h=>by simp[aD]at h
 |.list _,.none,_,h=>by simp[aD]at h
 |.list _,.bool _,_,h=>by simp[aD]at h
 |.list _,.str _,_,h=>by simp[aD]at h
 |.list _,.dict _,_,h=>by simp[aD]at h
 |.tuple _,.none,_,h=>by simp[aD]at h
 |.tuple _,.bool _,_,h=>by simp[aD]at h
 |.tuple _,.str _,_,h=>by simp[aD]at h
 |.tuple _,.dict _,_,h=>by simp[aD]at h
theorem gR:∀b a:List PyData,dF b=true->dF a=true->(sameAll b a=true↔b=a)
 |[],[],_,_=>by simp[sameAll]
 |[],_::_,_,_=>by simp[sameAll]
 |_::_,[],_,_=>by simp[sameAll]
 |x::b,y::a,h,c=>by rw[dF,Ap]at h c;rw[sameAll,Ap,yt x y h.1 c.1,gR b a h.2 c.2,Y5]
end
section
variable{X:Cx}
end
theorem sf{a:List PyData}{n:Nat}(h:∀x∈a,x.depth<=n):PyData.depthAll a<=n:=by
 induction a with
 |nil=>simp[PyData.depthAll]
 |cons x a b=>rw[PyData.depthAll];have:=h x (Da ..);have:=b λy c=>h y (Dx _ c);lia
theorem uH(d:List Bool):((Ea d.length).any λi=>(d[i]?).getD false)=d.any id:=by
 rw[WG,Vg,Vg];constructor
 .rintro⟨i,c,h⟩;have a:=Kk.mp c;simp only[B1 a,L4]at h;exact⟨_,Pt a,h⟩
 .rintro⟨b,e,h⟩;obtain⟨i,c,rfl⟩:=SU e;refine⟨i,Kk.mpr c,?_⟩;simp only[B1 c,L4];exact h
section
variable{X:Cx}
theorem yv(y:X.calm=true):bG X (.builtin "any") (λj H Q=>∃(p:Addr)(c:List Bool),j=[.ref p]/\fh X.K H p (c.map V.bl)/\Q (.bl (c.any id)) H):=by
 intro k s E H j G Q I r h;obtain⟨p,c,rfl,B,q⟩:=h;obtain⟨u,rfl,n⟩:=Vals.one r;cases(show u=Value.ref p from n);obtain⟨a,rv,t,_⟩:=I.list B;have l:=n9 rv;have g:=t.isList;have f:p<s.heap.objs.size:=by obtain⟨_,e,_⟩:=g;exact Ee e
 refine call_any_walk (wpAny_pyIter_list g ?_);refine⟨s.heap.objs.size,[s.heap.objs.size,p],[s.heap.objs.size],a.toArray.size,_,_,λi=>(c[i]?).getD false,rfl,Walks.list (A:=X.A.in1) (I.ok.hd y) _ p (Ha f) a.toArray,
  ⟨⟨_,Fn _ rfl,rfl,rfl⟩,g.push _⟩,λi v L N O C m=>?_,λM J x=>?_⟩
 .have d:a[i]?=some v:=by simpa using C
  rw[l,FK]at d;cases e:c[i]? with
  |none=>rw[e]at d;cases d
  |some b=>rw[e]at d;simp only[e,L4]at m;have:v=Value.bool b:=(Hk d).symm;subst this;exact Sr m
 .have e:((Ea a.toArray.size).any λi=>(c[i]?).getD false)=c.any id:=by
   have D:a.toArray.size=c.length:=by rw[FC,l,AN]
   rw[D];exact uH c
  rw[e];exact⟨.bl _,H,I.kept λb o z=>x b o (λw=>by rw[DL.mp w]at z;exact Mo _ (Ee z)) (D1 _ z),rfl,q⟩
end
end L2
set_option genSizeOf false
set_option genInjectivity false
namespace VL
open PySem PySem.Spec PyProof.Rows L2
theorem ff{C:Prop}(h:false=true):C:=Bool.noConfusion h
theorem nn{α:Type}{a:α}{C:Prop}(h:none=some a):C:=Option.noConfusion rfl (heq_of_eq h)
inductive W where
 |aL|bl (b:Bool)|int (i:Int)|str (x:Str)|ty (n:String)|cls (C:Addr)|err (C:Addr)
 |tup (l:List W)|lst (l:List W)|dct (ks vs:List W)|obj (C:Addr) (fs:List Str) (vs:List W)|eO (ns:List Int)
theorem W.AE{a b:Int}(h:W.int a=.int b):a=b:=by cases h;rfl
theorem W.GK{a b:List W}(h:W.lst a=.lst b):a=b:=by cases h;rfl
noncomputable def vU:HO->Bool
 |.lst _|.ins _ _ _|.dK _|.dT _|.set _ _=>true
 |_=>false
noncomputable def fR:Key->W
 |.inl i=>.int i
 |.inr x=>.str x
noncomputable def DW(K:Frag)(C:Addr)(a:List Str):Prop:=L7 K C/\a.length<1000/\a.Nodup/\∀x∈a,um K C x
mutual
noncomputable def Rep(K:Frag)(A:Addr->Prop)(H:Hp):W->V->Prop
 |.aL,v=>v=.aL
 |.bl b,v=>v=.bl b
 |.int i,v=>v=.int i
 |.str x,v=>v=.str x
 |.ty n,v=>v=.ty n
 |.cls C,v=>v=.ref C
 |.err C,v=>∃a,v=.ref a/\H a=some (Rp a C)/\¬A a
 |.tup l,v=>∃p vs,v=.ref p/\H p=some (.tup vs)/\ai K A H l vs
 |.lst l,v=>∃p vs,v=.ref p/\¬A p/\Rd H p (.lst vs)/\ai K A H l vs
 |.dct ks c,v=>∃p kvs,v=.ref p/\¬A p/\H p=some (.dK kvs)/\ks=kvs.map (λx=>fR x.1)/\ai K A H c (kvs.map (·.2))
 |.obj C d c,v=>∃p e vs,v=.ref p/\¬A p/\H p=some (.ins C e (d.zip vs))/\vs.length=d.length/\DW K C d/\ai K A H c vs
 |.eO ns,v=>∃p,v=.ref p/\((∃o,H p=some (.rD o (.lst (ns.map V.int))))\/fh K (λ_=>none) p (ns.map V.int))
noncomputable def ai(K:Frag)(A:Addr->Prop)(H:Hp):List W->List V->Prop
 |[],vs=>vs=[]
 |w::a,vs=>∃v r,vs=v::r/\Rep K A H w v/\ai K A H a r
end
section
variable{K:Frag}{A B:Addr->Prop}{H H':Hp}
theorem ao.rd{p:Addr}{u:HO}(s:ao H H')(h:Rd H p u):Rd H' p u:=by
 rcases h with h|⟨o,h⟩
 .exact .inl (s _ _ h)
 .exact .inr ⟨o,s _ _ h⟩
noncomputable def sj(B:Addr->Prop)(H H':Hp):Prop:=∀p o,H p=some o->(vU o=true/\B p)\/H' p=some o
theorem sj.un{p:Addr}{o:HO}(h:sj A H H')(e:H p=some o)(n:vU o=true->¬A p):H' p=some o:=by
 rcases h p o e with⟨z,y⟩|z
 .exact(n z y).elim
 .exact z
mutual
theorem Rep.chg(h:sj A H H')(d:∀p o,H p=some o->B p->A p):∀(w:W){v:V},Rep K A H w v->Rep K B H' w v
 |.aL,_,r=>by dsimp only[Rep]at r⊢;exact r
 |.bl _,_,r=>by dsimp only[Rep]at r⊢;exact r
 |.int _,_,r=>by dsimp only[Rep]at r⊢;exact r
 |.str _,_,r=>by dsimp only[Rep]at r⊢;exact r
 |.ty _,_,r=>by dsimp only[Rep]at r⊢;exact r
 |.cls _,_,r=>by dsimp only[Rep]at r⊢;exact r
 |.err C,v,r=>by obtain⟨a,e,b,c⟩:=r;exact⟨a,e,h.un b (λz=>by cases z),λz=>c (d a _ b z)⟩
 |.tup l,v,r=>by obtain⟨p,f,e,b,c⟩:=r;exact⟨p,f,e,h.un b (λz=>by cases z),ai.chg h d l c⟩
 |.lst l,v,r=>by
  dsimp only[Rep]at r⊢;obtain⟨p,f,e,n,b,c⟩:=r;refine⟨p,f,e,λz=>?_,?_,ai.chg h d l c⟩
  .rcases b with b|⟨o,b⟩<;>exact n (d p _ b z)
  .rcases b with b|⟨o,b⟩
   .exact .inl (h.un b λ_=>n)
   .exact .inr ⟨o,h.un b λz=>by cases z⟩
 |.dct s g,v,r=>by obtain⟨p,i,e,n,b,c,j⟩:=r;exact⟨p,i,e,λz=>n (d p _ b z),h.un b λ_=>n,c,ai.chg h d g j⟩
 |.obj C t g,v,r=>by obtain⟨p,m,f,e,n,b,c,k,j⟩:=r;exact⟨p,m,f,e,λz=>n (d p _ b z),h.un b λ_=>n,c,k,ai.chg h d g j⟩
 |.eO q,v,r=>by obtain⟨p,e,b⟩:=r;exact⟨p,e,b.imp (by rintro⟨o,z⟩;exact⟨o,h.un z λz=>by cases z⟩) id⟩
theorem ai.chg(h:sj A H H')(a:∀p o,H p=some o->B p->A p):∀(l:List W){vs:List V},ai K A H l vs->ai K B H' l vs
 |[],_,r=>by dsimp only[ai]at r⊢;exact r
 |w::l,vs,r=>by obtain⟨v,b,e,d,c⟩:=r;exact⟨v,b,e,Rep.chg h a w d,ai.chg h a l c⟩
end
theorem sj.same(s:ao H H'):sj A H H':=λ_ _ e=>.inr (s _ _ e)
theorem sj.put{p:Addr}{a o:HO}(b:H p=some a)(c:vU a=true)(d:A p):sj A H (upd H p o):=λq u e=>by
 by_cases n:q=p
 .subst n;rw[b]at e;cases e;exact .inl ⟨c,d⟩
 .exact .inr (by rw[ay n];exact e)
theorem Rep.mv(s:ao H H')(a:∀p o,H p=some o->B p->A p)(w:W){v:V}(h:Rep K A H w v):Rep K B H' w v:=Rep.chg (.same s) a w h
theorem ai.mv(s:ao H H')(a:∀p o,H p=some o->B p->A p)(l:List W){vs:List V}(h:ai K A H l vs):ai K B H' l vs:=ai.chg (.same s) a l h
theorem Rep.same{w:W}{v:V}(s:ao H H')(h:Rep K A H w v):Rep K A H' w v:=Rep.mv s (λ_ _ _ z=>z) w h
theorem ai.same{l:List W}{vs:List V}(s:ao H H')(h:ai K A H l vs):ai K A H' l vs:=ai.mv s (λ_ _ _ z=>z) l h
theorem Rep.less{w:W}{v:V}(a:∀p,B p->A p)(h:Rep K A H w v):Rep K B H w v:=Rep.mv (ao.refl H) (λp _ _ z=>a p z) w h
theorem ai.less{l:List W}{vs:List V}(a:∀p,B p->A p)(h:ai K A H l vs):ai K B H l vs:=ai.mv (ao.refl H) (λp _ _ z=>a p z) l h
theorem ai.put{p:Addr}{a:List V}{o:HO}(b:H p=some (.lst a))(c:A p)(l:List W){vs:List V}(h:ai K A H l vs):ai K A (upd H p o) l vs:=ai.chg (.put b rfl c) (λ_ _ _ z=>z) l h
theorem ai.nil:ai K A H [] []:=by dsimp only[ai]
theorem ai.cons{w:W}{v:V}{l:List W}{vs:List V}(b:Rep K A H w v)(a:ai K A H l vs):ai K A H (w::l) (v::vs):=by dsimp only[ai];exact⟨v,vs,rfl,b,a⟩
theorem ai.nil_inv{vs:List V}(h:ai K A H [] vs):vs=[]:=by dsimp only[ai]at h;exact h
theorem ai.cons_inv{w:W}{l:List W}{vs:List V}(h:ai K A H (w::l) vs):∃v r,vs=v::r/\Rep K A H w v/\ai K A H l r:=by dsimp only[ai]at h;exact h
theorem ai.len:∀{l:List W}{vs:List V},ai K A H l vs->vs.length=l.length
 |[],vs,h=>by rw[h.nil_inv];rfl
 |w::l,vs,h=>by obtain⟨v,r,rfl,_,a⟩:=h.cons_inv;rw[Eb,Eb,a.len]
theorem ai.app:∀{l m:List W}{vs a:List V},ai K A H l vs->ai K A H m a->ai K A H (l++m) (vs++a)
 |[],m,vs,a,h,k=>by rw[h.nil_inv];exact k
 |w::l,m,vs,a,h,k=>by obtain⟨v,r,rfl,c,b⟩:=h.cons_inv;exact .cons c (b.app k)
theorem ai.get:∀{l:List W}{vs:List V}{i:Nat}{w:W},ai K A H l vs->l[i]?=some w->∃v,vs[i]?=some v/\Rep K A H w v
 |[],_,_,_,_,e=>by simp at e
 |x::l,vs,0,w,h,e=>by obtain⟨v,r,rfl,b,a⟩:=h.cons_inv;simp at e;subst e;exact⟨v,rfl,b⟩
 |x::l,vs,i+1,w,h,e=>by obtain⟨v,r,rfl,b,a⟩:=h.cons_inv;obtain⟨u,d,c⟩:=a.get (i:=i) (by simpa using e);exact⟨u,by simpa using d,c⟩
theorem ai.set:∀{l:List W}{vs:List V}{i:Nat}{w:W}{v:V},ai K A H l vs->Rep K A H w v->ai K A H (l.set i w) (vs.set i v)
 |[],_,_,_,_,h,_=>by rw[h.nil_inv];exact .nil
 |x::l,vs,0,w,v,h,e=>by obtain⟨c,r,rfl,b,a⟩:=h.cons_inv;exact .cons e a
 |x::l,vs,i+1,w,v,h,e=>by obtain⟨c,r,rfl,b,a⟩:=h.cons_inv;exact .cons b (a.set e)
theorem ai.take:∀{l:List W}{vs:List V}(n:Nat),ai K A H l vs->ai K A H (l.take n) (vs.take n)
 |_,_,0,_=>.nil
 |[],vs,n+1,h=>by rw[h.nil_inv];exact .nil
 |x::l,vs,n+1,h=>by obtain⟨c,r,rfl,b,a⟩:=h.cons_inv;exact .cons b (a.take n)
theorem ai.drop:∀{l:List W}{vs:List V}(n:Nat),ai K A H l vs->ai K A H (l.drop n) (vs.drop n)
 |_,_,0,h=>h
 |[],vs,n+1,h=>by rw[h.nil_inv];exact .nil
 |x::l,vs,n+1,h=>by obtain⟨b,r,rfl,c,a⟩:=h.cons_inv;exact a.drop n
theorem ai.dropLast{l:List W}{vs:List V}(h:ai K A H l vs):ai K A H l.dropLast vs.dropLast:=by rw[UK,UK,h.len];exact h.take _
theorem ai.rev:∀{l:List W}{vs:List V},ai K A H l vs->ai K A H l.reverse vs.reverse
 |[],vs,h=>by rw[h.nil_inv];exact .nil
 |x::l,vs,h=>by obtain⟨c,r,rfl,b,a⟩:=h.cons_inv;rw[W1,W1];exact a.rev.app (.cons b .nil)
theorem ai.rep{l:List W}{vs:List V}(h:ai K A H l vs):∀n:Nat,ai K A H (Ds n l).flatten (Ds n vs).flatten
 |0=>.nil
 |n+1=>by rw[HL,HL,Kh,Kh];exact h.app (h.rep n)
theorem ai.ints{ns:List Int}:∀{vs:List V},ai K A H (ns.map W.int) vs->vs=ns.map V.int:=by
 induction ns with
 |nil=>intro vs h;exact h.nil_inv
 |cons n ns b=>intro vs h;obtain⟨v,r,rfl,a,c⟩:=h.cons_inv;dsimp only[Rep]at a;rw[a,b c];rfl
theorem ai.DX(ns:List Int):ai K A H (ns.map W.int) (ns.map V.int):=by
 induction ns with
 |nil=>exact .nil
 |cons n ns a=>exact .cons (by dsimp only[Rep]) a
theorem ai.S7{a:List Bool}:∀{vs:List V},ai K A H (a.map W.bl) vs->vs=a.map V.bl:=by
 induction a with
 |nil=>intro vs h;exact h.nil_inv
 |cons n e c=>intro vs h;obtain⟨v,r,rfl,b,d⟩:=h.cons_inv;dsimp only[Rep]at b;rw[b,c d];rfl
end
end VL
set_option genSizeOf false
set_option genInjectivity false
namespace VL
open PySem PySem.Spec
open PyProof.Rows hiding St
open L2
inductive Md where
 |s|f|t (ms:List Md)|o (fs:List Str) (ms:List Md)
 |io (m:Md)
 |ls (m:Md)
 |d
noncomputable def dX(P:W->V->List Addr->Prop):List W->List V->List Addr->Prop
 |[],vs,F=>vs=[]/\F=[]
 |w::d,vs,F=>∃v a c b,vs=v::a/\F=c++b/\P w v c/\dX P d a b
mutual
noncomputable def Fp(K:Frag)(B:Addr->Prop)(H:Hp):Md->W->V->List Addr->Prop
 |.s,w,v,F=>F=[]/\Rep K B H w v
 |.f,w,v,F=>∃a p vs,w=.lst a/\v=.ref p/\F=[p]/\H p=some (.lst vs)/\ai K B H a vs
 |.t c,w,v,F=>∃a p vs,w=.tup a/\v=.ref p/\H p=some (.tup vs)/\eu K B H c a vs F
 |.o b c,w,v,F=>∃C e a p vs F',w=.obj C b a/\v=.ref p/\F=p::F'/\H p=some (.ins C e (b.zip vs))/\vs.length=b.length/\DW K C b/\eu K B H c a vs F'
 |.io _,_,_,_=>False
 |.d,w,v,F=>∃ks a p kvs,w=.dct ks a/\v=.ref p/\F=[p]/\H p=some (.dK kvs)/\ks=kvs.map (λx=>fR x.1)/\ai K B H a (kvs.map (·.2))
 |.ls m,w,v,F=>∃a p vs F',w=.lst a/\v=.ref p/\F=p::F'/\H p=some (.lst vs)/\dX (Fp K B H m) a vs F'
noncomputable def eu(K:Frag)(B:Addr->Prop)(H:Hp):List Md->List W->List V->List Addr->Prop
 |[],b,vs,F=>b=[]/\vs=[]/\F=[]
 |m::f,b,vs,F=>∃w c v a e d,b=w::c/\vs=v::a/\F=e++d/\Fp K B H m w v e/\eu K B H f c a d
end
theorem dX.mono{P Q:W->V->List Addr->Prop}:∀{a:List W}{vs:List V}{F:List Addr},(∀w v F',(∀p∈F',p∈F)->P w v F'->Q w v F')->dX P a vs F->dX Q a vs F
 |[],_,_,_,h=>h
 |w::a,vs,F,k,⟨v,b,e,j,i,d,g,f⟩=>⟨v,b,e,j,i,d,k w v e (λp c=>by rw[d];exact N0 _ c) g,dX.mono (λw v F' h=>k w v F' λp c=>by rw[d];exact Fk _ (h p c)) f⟩
theorem dX.len{P:W->V->List Addr->Prop}:∀{a:List W}{vs:List V}{F:List Addr},dX P a vs F->vs.length=a.length
 |[],_,_,h=>by rw[h.1];rfl
 |w::a,vs,F,⟨v,b,i,g,d,f,e,c⟩=>by rw[d,Eb,Eb,dX.len c]
theorem dX.app{P:W->V->List Addr->Prop}:∀{c b:List W}{vs a:List V}{F G:List Addr},dX P c vs F->dX P b a G->dX P (c++b) (vs++a) (F++G)
 |[],b,vs,a,F,G,⟨f,e⟩,k=>by rw[f,e];exact k
 |w::c,b,vs,a,F,G,⟨v,d,j,i,f,e,h,g⟩,k=>⟨v,d++a,j,i++G,by rw[f];rfl,by rw[e,Qf],h,dX.app g k⟩
noncomputable def lC(B G:Addr->Prop)(H H':Hp):Prop:=∀p o,H p=some o->(vU o=true/\B p/\¬G p)\/H' p=some o
section
variable{K:Frag}{A B G:Addr->Prop}{H H':Hp}
theorem lC.c(h:lC A G H H'):sj A H H':=λp o e=>(h p o e).imp (λz=>⟨z.1,z.2.1⟩) id
theorem lC.un{p:Addr}{o:HO}(h:lC A G H H')(e:H p=some o)(g:vU o=true->G p):H' p=some o:=by
 rcases h p o e with⟨z,_,y⟩|z
 .exact(y (g z)).elim
 .exact z
mutual
theorem Fp.chg(h:lC A G H H')(l:∀p o,H p=some o->B p->A p):∀(m:Md){w:W}{v:V}{F:List Addr},(∀p∈F,G p)->Fp K A H m w v F->Fp K B H' m w v F
 |.s,w,v,F,a,r=>by dsimp only[Fp]at r⊢;exact⟨r.1,Rep.chg h.c l w r.2⟩
 |.f,w,v,F,a,r=>by obtain⟨e,p,vs,k,j,b,i,g⟩:=r;exact⟨e,p,vs,k,j,b,h.un i (λ_=>a p (by rw[b];exact Da)),ai.chg h.c l e g⟩
 |.t n,w,v,F,a,r=>by obtain⟨e,p,vs,k,j,i,g⟩:=r;exact⟨e,p,vs,k,j,h.un i (λz=>by cases z),eu.chg h l n a g⟩
 |.o N n,w,v,F,a,r=>by obtain⟨C,M,e,p,vs,y,k,j,b,i,g,I,L⟩:=r;exact⟨C,M,e,p,vs,y,k,j,b,h.un i (λ_=>a p (by rw[b];exact Da)),g,I,eu.chg h l n (λq x=>a q (by rw[b];exact Dx _ x)) L⟩
 |.io _,w,v,F,a,r=>HP r
 |.d,w,v,F,a,r=>by obtain⟨D,e,p,u,k,j,b,i,E,g⟩:=r;exact⟨D,e,p,u,k,j,b,h.un i (λ_=>a p (by rw[b];exact Da)),E,ai.chg h.c l e g⟩
 |.ls m,w,v,F,a,r=>by obtain⟨e,p,vs,y,k,j,b,i,g⟩:=r;exact⟨e,p,vs,y,k,j,b,h.un i (λ_=>a p (by rw[b];exact Da)),g.mono λw v G J z=>Fp.chg h l m (λq x=>a q (by rw[b];exact Dx _ (J q x))) z⟩
theorem eu.chg(h:lC A G H H')(f:∀p o,H p=some o->B p->A p):∀(a:List Md){b:List W}{vs:List V}{F:List Addr},(∀p∈F,G p)->eu K A H a b vs F->eu K B H' a b vs F
 |[],_,_,_,_,r=>by dsimp only[eu]at r⊢;exact r
 |m::a,b,vs,F,g,r=>by obtain⟨w,k,v,c,s,q,n,l,e,j,i⟩:=r;exact⟨w,k,v,c,s,q,n,l,e,Fp.chg h f m (λp d=>g p (by rw[e];exact N0 _ d)) j,eu.chg h f a (λp d=>g p (by rw[e];exact Fk _ d)) i⟩
end
theorem lC.same(s:ao H H'):lC A (λ_=>True) H H':=λ_ _ e=>.inr (s _ _ e)
theorem Fp.mv(s:ao H H')(a:∀p o,H p=some o->B p->A p)(m:Md){w:W}{v:V}{F:List Addr}(h:Fp K A H m w v F):Fp K B H' m w v F:=Fp.chg (.same s) a m (λ_ _=>trivial) h
theorem eu.mv(s:ao H H')(b:∀p o,H p=some o->B p->A p)(a:List Md){w:List W}{v:List V}{F:List Addr}(h:eu K A H a w v F):eu K B H' a w v F:=eu.chg (.same s) b a (λ_ _=>trivial) h
mutual
theorem Fp.rep(j:∀p,B p->A p):∀(m:Md){w:W}{v:V}{F:List Addr},(∀p∈F,¬B p)->Fp K A H m w v F->Rep K B H w v
 |.s,w,v,F,a,h=>by dsimp only[Fp]at h;exact h.2.less j
 |.f,w,v,F,a,h=>by obtain⟨b,p,vs,rfl,rfl,rfl,e,c⟩:=h;exact⟨p,vs,rfl,a p (DL.mpr rfl),.inl e,c.less j⟩
 |.t l,w,v,F,a,h=>by obtain⟨b,p,vs,rfl,rfl,e,c⟩:=h;exact⟨p,vs,rfl,e,eu.rep j l a c⟩
 |.o J l,w,v,F,a,h=>by obtain⟨C,D,b,p,vs,i,rfl,rfl,rfl,e,c,x,y⟩:=h;exact⟨p,D,vs,rfl,a p Da,e,c,x,eu.rep j l (λq g=>a q (Dx _ g)) y⟩
 |.io _,w,v,F,a,h=>HP h
 |.d,w,v,F,a,h=>by obtain⟨I,b,p,n,rfl,rfl,rfl,e,u,c⟩:=h;exact⟨p,n,rfl,a p (DL.mpr rfl),e,u,c.less j⟩
 |.ls m,w,v,F,a,h=>by
  obtain⟨b,p,vs,i,rfl,rfl,rfl,e,c⟩:=h;dsimp only[Rep];have z:∀(b:List W)(vs:List V)(i:List Addr),(∀q∈i,¬B q)->dX (Fp K A H m) b vs i->ai K B H b vs:=λb=>by
   induction b with
   |nil=>rintro vs i _ ⟨rfl,_⟩;exact .nil
   |cons w b r=>rintro vs i a ⟨v,k,L,E,rfl,rfl,e,c⟩;exact .cons (Fp.rep j m (λq g=>a q (N0 _ g)) e) (r k E (λq g=>a q (Fk _ g)) c)
  exact⟨p,vs,rfl,a p Da,.inl e,z b vs i (λq g=>a q (Dx _ g)) c⟩
theorem eu.rep(e:∀p,B p->A p):∀(b:List Md){a:List W}{vs:List V}{F:List Addr},(∀p∈F,¬B p)->eu K A H b a vs F->ai K B H a vs
 |[],_,_,_,_,h=>by obtain⟨rfl,rfl,_⟩:=h;exact .nil
 |m::b,a,vs,F,d,h=>by obtain⟨w,j,v,f,l,k,rfl,rfl,rfl,i,g⟩:=h;exact .cons (Fp.rep e m (λp c=>d p (N0 _ c)) i) (eu.rep e b (λp c=>d p (Fk _ c)) g)
end
mutual
theorem Fp.mu:∀(m:Md){w:W}{v:V}{F:List Addr},Fp K A H m w v F->∀p∈F,∃o,H p=some o/\vU o=true
 |.s,w,v,F,h,p,a=>by dsimp only[Fp]at h;rw[h.1]at a;cases a
 |.f,w,v,F,h,p,a=>by obtain⟨b,q,vs,_,_,rfl,c,_⟩:=h;rw[DL.mp a];exact⟨_,c,rfl⟩
 |.t i,w,v,F,h,p,a=>by obtain⟨b,q,vs,_,_,c,k⟩:=h;exact eu.mu i k p a
 |.o y i,w,v,F,h,p,a=>by
  obtain⟨C,z,b,q,vs,e,_,_,rfl,c,_,_,j⟩:=h;rcases FV.mp a with rfl|a
  .exact⟨_,c,rfl⟩
  .exact eu.mu i j p a
 |.io _,w,v,F,h,p,a=>HP h
 |.d,w,v,F,h,p,a=>by obtain⟨x,b,q,l,_,_,rfl,c,_⟩:=h;rw[DL.mp a];exact⟨_,c,rfl⟩
 |.ls m,w,v,F,h,p,a=>by
  obtain⟨b,q,vs,e,_,_,rfl,c,j⟩:=h;have r:∀(b:List W)(vs:List V)(e:List Addr),dX (Fp K A H m) b vs e->∀p∈e,∃o,H p=some o/\vU o=true:=λb=>by
   induction b with
   |nil=>rintro vs e ⟨_,rfl⟩ p a;cases a
   |cons w b n=>
    rintro vs e ⟨v,g,D,u,rfl,rfl,c,k⟩ p a;rcases Fs.mp a with a|a
    .exact Fp.mu m c p a
    .exact n g u k p a
  rcases FV.mp a with rfl|a
  .exact⟨_,c,rfl⟩
  .exact r b vs e j p a
theorem eu.mu:∀(b:List Md){c:List W}{vs:List V}{F:List Addr},eu K A H b c vs F->∀p∈F,∃o,H p=some o/\vU o=true
 |[],_,_,_,h,p,a=>by dsimp only[eu]at h;rw[h.2.2]at a;cases a
 |m::b,c,vs,F,h,p,a=>by
  obtain⟨w,g,v,d,j,i,_,_,rfl,f,e⟩:=h;rcases Fs.mp a with a|a
  .exact Fp.mu m f p a
  .exact eu.mu b e p a
end
inductive jm where
 |ix (n:Nat)|fl (n:Nat) (x:Str)
noncomputable def bW:W->List jm->Option W
 |w,[]=>some w
 |.tup l,.ix n::π=>match l[n]? with
  |some u=>bW u π
  |none=>none
 |.lst l,.ix n::π=>match l[n]? with
  |some u=>bW u π
  |none=>none
 |.obj _ _ l,.fl n _::π=>match l[n]? with
  |some u=>bW u π
  |none=>none
 |_,_=>none
noncomputable def setAt:W->List jm->W->W
 |_,[],u=>u
 |.tup l,.ix n::π,u=>match l[n]? with
  |some x=>.tup (l.set n (setAt x π u))
  |none=>.tup l
 |.lst l,.ix n::π,u=>match l[n]? with
  |some x=>.lst (l.set n (setAt x π u))
  |none=>.lst l
 |.obj C a l,.fl n _::π,u=>match l[n]? with
  |some x=>.obj C a (l.set n (setAt x π u))
  |none=>.obj C a l
 |w,_,_=>w
noncomputable def gB:Md->List jm->Option Md
 |m,[]=>some m
 |.t a,.ix n::π=>match a[n]? with
  |some m=>gB m π
  |none=>none
 |.o b a,.fl n x::π=>if b[n]?=some x then(match a[n]? with
  |some m=>gB m π
  |none=>none)else none
 |.ls m,.ix _::π=>gB m π
 |_,_=>none
noncomputable def qU(K:Frag)(H:Hp):V->List jm->V->Prop
 |v,[],u=>u=v
 |v,.ix n::π,u=>∃p vs x,v=.ref p/\(H p=some (.tup vs)\/H p=some (.lst vs))/\vs[n]?=some x/\qU K H x π u
 |v,.fl n f::π,u=>∃p vs x,v=.ref p/\(∃(C b:Addr)(a:List Str),H p=some (.ins C b (a.zip vs))/\vs.length=a.length/\DW K C a/\a[n]?=some f)/\vs[n]?=some x/\qU K H x π u
theorem iF{α:Type}:∀{l:List α}{n:Nat}{x:α},l[n]?=some x->l.set n x=l
 |[],_,_,e=>by cases e
 |y::l,0,x,e=>by cases e;rfl
 |y::l,n+1,x,e=>by rw[List.set_cons_succ,iF (by simpa using e)]
theorem eu.at:∀(j:List Md){q:List W}{vs:List V}{F:List Addr}{n:Nat}{m:Md}{w:W},eu K A H j q vs F->j[n]?=some m->q[n]?=some w->
 ∃v d F' l,vs[n]?=some v/\F=d++F'++l/\Fp K A H m w v F'/\∀(H':Hp)(B:Addr->Prop) f i k,Fp K B H' m f i k->lC A (·∈d++l) H H'->(∀p o,H p=some o->B p->A p)->eu K B H' j (q.set n f) (vs.set n i) (d++k++l)
 |[],_,_,_,n,m,w,_,e,_=>by cases e
 |m0::j,q,vs,F,0,m,w,h,I,E=>by obtain⟨J,D,v,g,d,l,rfl,rfl,rfl,y,x⟩:=h;cases I;cases E;refine⟨v,[],d,l,rfl,by simp,y,λH' B f i k C r s=>?_⟩;exact⟨f,D,i,g,k,l,rfl,rfl,by simp,C,eu.chg r s j (λp t=>by simpa using t) x⟩
 |m0::j,q,vs,F,n+1,m,w,h,I,E=>by obtain⟨J,D,v,g,d,l,rfl,rfl,rfl,y,x⟩:=h;obtain⟨u,M,Q,L,P,rfl,O,N⟩:=eu.at j x (n:=n) (by simpa using I) (by simpa using E);refine⟨u,d++M,Q,L,by simpa using P,by simp,O,λH' B f i k C r s=>?_⟩;refine⟨J,D.set n f,v,g.set n i,d,M++k++L,rfl,rfl,by simp,Fp.chg r s m0 (λp t=>by simp[t]) y,N H' B f i k C (λp o e=>(r p o e).imp (λ⟨a,b,c⟩=>⟨a,b,λz=>c ?_⟩) id) s⟩;rcases Fs.mp z with z|z<;>simp[z]
theorem dX.at{m:Md}:∀{r:List W}{vs:List V}{F:List Addr}{n:Nat}{w:W},dX (Fp K A H m) r vs F->r[n]?=some w->
 ∃v d F' j,vs[n]?=some v/\F=d++F'++j/\Fp K A H m w v F'/\∀(H':Hp)(B:Addr->Prop) k g i,Fp K B H' m k g i->lC A (·∈d++j) H H'->(∀p o,H p=some o->B p->A p)->dX (Fp K B H' m) (r.set n k) (vs.set n g) (d++i++j)
 |[],_,_,n,w,_,e=>by cases e
 |w0::N,vs,F,0,w,h,C=>by obtain⟨v,f,d,j,rfl,rfl,x,t⟩:=h;cases C;refine⟨v,[],d,j,rfl,by simp,x,λH' B k g i y l q=>?_⟩;exact⟨g,f,i,j,rfl,by simp,y,t.mono λw v G M z=>Fp.chg l q m (λp s=>by simpa using M p s) z⟩
 |w0::N,vs,F,n+1,w,h,C=>by obtain⟨v,f,d,j,rfl,rfl,x,t⟩:=h;obtain⟨u,E,O,D,L,rfl,J,I⟩:=dX.at t (n:=n) (by simpa using C);refine⟨u,d++E,O,D,by simpa using L,by simp,J,λH' B k g i y l q=>?_⟩;refine⟨v,f.set n g,d,E++i++D,rfl,by simp,Fp.chg l q m (λp s=>by simp[s]) x,I H' B k g i y (λp o e=>(l p o e).imp (λ⟨a,b,c⟩=>⟨a,b,λz=>c ?_⟩) id) q⟩;rcases Fs.mp z with z|z<;>simp[z]
noncomputable def UR(K:Frag)(A:Addr->Prop)(H:Hp)(m:Md)(w:W)(v:V)(F:List Addr)(π:List jm)(e:Md)(h:W):Prop:=
 ∃b d g c,F=d++g++c/\qU K H v π b/\Fp K A H e h b g/\∀(H':Hp)(B:Addr->Prop) a f,Fp K B H' e a b f->lC A (·∈d++c) H H'->(∀p o,H p=some o->B p->A p)->Fp K B H' m (setAt w π a) v (d++f++c)
theorem Fp.path:∀(π:List jm)(m:Md){w:W}{v:V}{F:List Addr}{q:Md}{l:W},Fp K A H m w v F->gB m π=some q->bW w π=some l->UR K A H m w v F π q l
 |[],m,w,v,F,q,l,h,g,i=>by dsimp only[gB]at g;dsimp only[bW]at i;cases g;cases i;refine⟨v,[],F,[],by simp,rfl,h,λH' B k D h' _ _=>?_⟩;dsimp only[setAt];simpa using h'
 |n::π,.s,w,v,F,q,l,h,g,i=>by cases n<;>exact nn g
 |n::π,.f,w,v,F,q,l,h,g,i=>by cases n<;>exact nn g
 |n::π,.io _,w,v,F,q,l,h,g,i=>by cases n<;>exact nn g
 |n::π,.d,w,v,F,q,l,h,g,i=>by cases n<;>exact nn g
 |.fl n _::π,.t y,w,v,F,q,l,h,g,i=>by cases g
 |.fl n _::π,.ls y,w,v,F,q,l,h,g,i=>by cases g
 |.ix n::π,.ls Z,w,v,F,q,l,h,g,i=>by
  obtain⟨P,p,vs,F0,rfl,rfl,rfl,I,h2⟩:=h;dsimp only[gB]at g;dsimp only[bW]at i;cases j:P[n]? with
  |none=>rw[j]at i;exact nn i
  |some w1=>rw[j]at i;obtain⟨u,O,F',N,x,rfl,Y,U⟩:=dX.at h2 j;obtain⟨Q,M,G',L,rfl,T,S,R⟩:=Fp.path π Z Y g i;refine⟨Q,p::O++M,G',L++N,by simp,⟨p,vs,u,rfl,.inr I,x,T⟩,S,λH' B k D h' r E=>?_⟩;dsimp only[setAt];rw[j];dsimp only[Fp];have a:=U H' B _ u _ (R H' B k D h' (λp o e=>(r p o e).imp (by rintro⟨a,b,c⟩;exact⟨a,b,λz=>c (by rcases Fs.mp z with z|z<;>simp[z])⟩) id) E) (λp o e=>(r p o e).imp (by rintro⟨a,b,c⟩;exact⟨a,b,λz=>c (by rcases Fs.mp z with z|z<;>simp[z])⟩) id) E;rw[iF x]at a;exact⟨_,p,vs,O++(M++D++L)++N,rfl,rfl,by simp,r.un I (λ_=>by simp),a⟩
 |.ix n::π,.o fs y,w,v,F,q,l,h,g,i=>by cases g
 |.ix n::π,.t y,w,v,F,q,l,h,g,i=>by
  obtain⟨P,p,vs,rfl,rfl,I,h2⟩:=h;dsimp only[gB]at g;dsimp only[bW]at i;cases J:y[n]? with
  |none=>rw[J]at g;exact nn g
  |some Z=>
   cases j:P[n]? with
   |none=>rw[j]at i;exact nn i
   |some w1=>rw[J]at g;rw[j]at i;obtain⟨u,O,F',N,x,rfl,Y,U⟩:=eu.at y h2 J j;obtain⟨Q,M,G',L,rfl,T,S,R⟩:=Fp.path π Z Y g i;refine⟨Q,O++M,G',L++N,by simp,⟨p,vs,u,rfl,.inl I,x,T⟩,S,λH' B k D h' r E=>?_⟩;dsimp only[setAt];rw[j];dsimp only[Fp];have a:=U H' B _ u _ (R H' B k D h' (λp o e=>(r p o e).imp (by rintro⟨a,b,c⟩;exact⟨a,b,λz=>c (by rcases Fs.mp z with z|z<;>simp[z])⟩) id) E) (λp o e=>(r p o e).imp (by rintro⟨a,b,c⟩;exact⟨a,b,λz=>c (by rcases Fs.mp z with z|z<;>simp[z])⟩) id) E;rw[iF x]at a;refine⟨_,p,vs,rfl,rfl,r.un I (λz=>by cases z),?_⟩;simpa using a
 |.fl n f::π,.o fs y,w,v,F,q,l,h,g,i=>by
  obtain⟨C,dx,P,p,vs,F0,rfl,rfl,rfl,I,hl,hcl,h2⟩:=h;dsimp only[gB]at g;dsimp only[bW]at i;by_cases hf:fs[n]?=some f;rotate_left
  .rw[Bi hf]at g;cases g
  rw[Bz hf]at g;cases J:y[n]? with
  |none=>rw[J]at g;exact nn g
  |some Z=>
   cases j:P[n]? with
   |none=>rw[j]at i;exact nn i
   |some w1=>rw[J]at g;rw[j]at i;obtain⟨u,O,F',N,x,rfl,Y,U⟩:=eu.at y h2 J j;obtain⟨Q,M,G',L,rfl,T,S,R⟩:=Fp.path π Z Y g i;refine⟨Q,p::O++M,G',L++N,by simp,⟨p,vs,u,rfl,⟨C,dx,fs,I,hl,hcl,hf⟩,x,T⟩,S,λH' B k D h' r E=>?_⟩;dsimp only[setAt];rw[j];dsimp only[Fp];have a:=U H' B _ u _ (R H' B k D h' (λp o e=>(r p o e).imp (by rintro⟨a,b,c⟩;exact⟨a,b,λz=>c (by rcases Fs.mp z with z|z<;>simp[z])⟩) id) E) (λp o e=>(r p o e).imp (by rintro⟨a,b,c⟩;exact⟨a,b,λz=>c (by rcases Fs.mp z with z|z<;>simp[z])⟩) id) E;rw[iF x]at a;refine⟨C,dx,_,p,vs,O++(M++D++L)++N,rfl,rfl,by simp,r.un I (λ_=>by simp),hl,hcl,a⟩
end
noncomputable def cE(K:Frag)(A:Addr->Prop)(H H':Hp)(m:Md)(w:W)(v:V):Prop:=
 ∃F:List Addr,F.Nodup/\(∀p∈F,H p=none)/\Fp K (λq=>A q\/q∈F) H' m w v F
noncomputable def Dom(A:Addr->Prop)(H:Hp):Prop:=∀p,A p->∃o,H p=some o
theorem Dom.no{A:Addr->Prop}{H:Hp}(d:Dom A H){p:Addr}(h:H p=none):¬A p:=λz=>by obtain⟨o,e⟩:=d p z;rw[h]at e;cases e
theorem Dom.same{A:Addr->Prop}{H H':Hp}(d:Dom A H)(s:ao H H'):Dom A H':=λp z=>by obtain⟨o,e⟩:=d p z;exact⟨o,s _ _ e⟩
section
variable{K:Frag}{A B:Addr->Prop}{H H':Hp}{m:Md}{w:W}{v:V}
theorem cE.rep(d:Dom A H)(h:cE K A H H' m w v):Rep K A H' w v:=by obtain⟨F,c,a,h⟩:=h;exact Fp.rep (λp z=>.inl z) m (λp b=>d.no (a p b)) h
theorem cE.of(h:Rep K A H' w v):cE K A H H' .s w v:=⟨[],X4,by simp,by dsimp only[Fp];exact⟨rfl,h.less λp z=>by simpa using z⟩⟩
theorem cE.s(d:Dom A H)(h:cE K A H H' m w v):cE K A H H' .s w v:=.of (h.rep d)
theorem cE.new{a:List W}{p:Addr}{vs:List V}(b:H p=none)(d:H' p=some (.lst vs))(e:ai K A H' a vs)(c:ai K (λq=>A q\/q=p) H' a vs):cE K A H H' .f (.lst a) (.ref p):=
 ⟨[p],(by simp),(by simpa using b),by dsimp only[Fp];exact⟨a,p,vs,rfl,rfl,rfl,d,c.less λq z=>by simpa using z⟩⟩
theorem cE.fresh{b:List W}{p:Addr}{vs:List V}{a:Hp}(s:ao H a)(c:a p=none)(h:ai K A a b vs):cE K A H (upd a p (.lst vs)) .f (.lst b) (.ref p):=by
 have sm:=aF c (.lst vs);refine .new (s.free c) aJ (h.same sm) (ai.mv sm (λq o z y=>?_) b h);rcases y with y|y
 .exact y
 .rw[y,c]at z;cases z
theorem cE.NP(h:cE K A H H' .f w v):∃a p vs,w=.lst a/\v=.ref p/\H p=none/\H' p=some (.lst vs)/\ai K (λq=>A q\/q=p) H' a vs:=by obtain⟨F,e,b,h⟩:=h;obtain⟨a,p,vs,rfl,rfl,rfl,d,c⟩:=h;exact⟨a,p,vs,rfl,rfl,b p (DL.mpr rfl),d,c.less λq z=>by simpa using z⟩
theorem cE.back{a:Hp}(s:ao a H)(e:∀p,B p->A p)(h:cE K A H H' m w v):cE K B a H' m w v:=by obtain⟨F,c,b,h⟩:=h;exact⟨F,c,λp d=>s.free (b p d),Fp.mv (ao.refl _) (λp o _ z=>z.imp (e p) id) m h⟩
end
abbrev Ev:=List (Option W)
noncomputable def look:Ev->Nat->Option W
 |[],_=>none
 |x::_,0=>x
 |_::l,n+1=>look l n
theorem aV:∀{a:Ev}{i:Nat}{w:W},look a i=some w↔a[i]?=some (some w)
 |[],i,w=>by simp[look]
 |x::l,0,w=>by simp[look]
 |x::l,i+1,w=>by rw[look,aV];simp
abbrev Ms:=List (Nat×Md)
noncomputable def aM(M:Ms)(i:Nat):Prop:=∃m,(i,m)∈M
structure Fz where
 ab:Addr->Prop
 B:Addr->Prop
 s0:Option V
abbrev FB(A:Fz)(M:Ms)(σ:St):Addr->Prop:=A.B
structure Jg(K:Frag)(M:Ms)(A:Fz)(H0:Hp)(σ:St)(H:Hp)(ε:Ev)(F:Nat->List Addr):Prop where
 un:∀i m m',(i,m)∈M->(i,m')∈M->m=m'
 val:∀i m w,(i,m)∈M->look ε i=some w->∃v,σ[i]?=some (some v)/\Fp K A.B H m w v (F i)
 emp:∀i,aM M i->look ε i=none->F i=[]
 nd:∀i,aM M i->(F i).Nodup
 ds:∀i j p,aM M i->aM M j->p∈F i->p∈F j->i=j
 nw:∀i p,aM M i->p∈F i->H0 p=none
 na:∀i p,aM M i->p∈F i->¬A.ab p
 all:∀p,A.B p↔A.ab p\/∃i,aM M i/\p∈F i
structure SR(K:Frag)(M:Ms)(A:Fz)(H0:Hp)(σ:St)(H:Hp)(ε:Ev):Prop where
 len:σ.length=ε.length
 sh:∀i w,¬aM M i->look ε i=some w->∃v,σ[i]?=some (some v)/\Rep K A.B H w v
 sm:ao H0 H
 dm:Dom A.ab H
 sl:∀v,A.s0=some v->σ[0]?=some (some v)/\aM M 0
 ow:∃F,Jg K M A H0 σ H ε F
theorem aN{a:Ev}{i j:Nat}{x:Option W}(h:i≠j):look (a.set i x) j=look a j:=by
 cases e:look a j with
 |none=>
  cases b:look (a.set i x) j with
  |none=>rfl
  |some w=>rw[aV,KM h,<-aV,e]at b;cases b
 |some w=>rw[aV,KM h,<-aV];exact e
theorem iG{b:Ev}{i:Nat}{w a:W}(h:look (b.set i (some w)) i=some a):a=w:=by
 rw[aV,X7]at h;rw[Bz rfl]at h;split at h
 .cases h;rfl
 .cases h
theorem pQ{a:Ev}{i:Nat}{w:W}(h:look a i=some w):i<a.length:=by rw[aV]at h;exact(FM.mp h).1
section
variable{K:Frag}{M M':Ms}{A:Fz}{H0 H H1:Hp}{σ:St}{ε:Ev}{F:Nat->List Addr}
theorem Jg.has(O:Jg K M A H0 σ H ε F){i:Nat}{p:Addr}(c:aM M i)(a:p∈F i):∃o,H p=some o/\vU o=true:=by
 cases b:look ε i with
 |none=>rw[O.emp i c b]at a;cases a
 |some w=>obtain⟨m,d⟩:=c;obtain⟨v,_,h⟩:=O.val i m w d b;exact Fp.mu m h p a
theorem SR.dom(S:SR K M A H0 σ H ε):Dom A.B H:=λp z=>by
 obtain⟨F,O⟩:=S.ow;rcases(O.all p).mp z with z|⟨i,b,a⟩
 .exact S.dm p z
 .obtain⟨o,e,_⟩:=O.has b a;exact⟨o,e⟩
theorem SR.sub'(S:SR K M A H0 σ H ε):∀p,A.ab p->A.B p:=λp z=>by obtain⟨F,O⟩:=S.ow;exact(O.all p).mpr (.inl z)
theorem SR.same(S:SR K M A H0 σ H ε)(s:ao H H1):SR K M A H0 σ H1 ε:=by
 obtain⟨F,O⟩:=S.ow;exact⟨S.len,λi w b e=>let⟨v,h1,h2⟩:=S.sh i w b e;⟨v,h1,h2.same s⟩,S.sm.trans s,S.dm.same s,S.sl,F,
  ⟨O.un,λi m w a e=>let⟨v,h1,h2⟩:=O.val i m w a e;⟨v,h1,Fp.mv s (λ_ _ _ z=>z) m h2⟩,O.emp,O.nd,O.ds,O.nw,O.na,O.all⟩⟩
theorem SR.sub(S:SR K M A H0 σ H ε)(h:∀x∈M',x∈M)(s:Option V)(hz:∀v,s=some v->A.s0=some v/\aM M' 0):∃r,r.ab=A.ab/\r.s0=s/\(∀p,r.B p->A.B p)/\SR K M' r H0 σ H ε:=by
 obtain⟨F,O⟩:=S.ow;have d:∀i,aM M' i->aM M i:=by rintro i ⟨m,f⟩;exact⟨m,h _ f⟩
 have q:∀p,(A.ab p\/∃i,aM M' i/\p∈F i)->A.B p:=λp z=>(O.all p).mpr (z.imp id<|by rintro⟨i,c,n⟩;exact⟨i,d i c,n⟩);refine⟨⟨A.ab,λp=>A.ab p\/∃i,aM M' i/\p∈F i,s⟩,rfl,rfl,q,S.len,λi w t e=>?_,S.sm,S.dm,λv e=>⟨(S.sl v (hz v e).1).1,(hz v e).2⟩,F,⟨λi m u a b=>O.un i m u (h _ a) (h _ b),λi m w f e=>?_,λi c=>O.emp i (d i c),λi c=>O.nd i (d i c),λi j p c o=>O.ds i j p (d i c) (d j o),λi p c=>O.nw i p (d i c),λi p c=>O.na i p (d i c),λp=>Iff.rfl⟩⟩
 .by_cases c:aM M i
  .have g:=c;obtain⟨m,f⟩:=c;obtain⟨v,l,k⟩:=O.val i m w f e;refine⟨v,l,Fp.rep q m (λp n z=>?_) k⟩;rcases z with z|⟨j,o,y⟩
   .exact O.na i p g n z
   .have:=O.ds i j p g (d j o) n y;subst this;exact t o
  .obtain⟨v,l,k⟩:=S.sh i w c e;exact⟨v,l,k.less q⟩
 .obtain⟨v,l,k⟩:=O.val i m w (h _ f) e;exact⟨v,l,Fp.mv (ao.refl _) (λp _ _ z=>q p z) m k⟩
theorem SR.go(S:SR K M A H0 σ H ε):SR K [] ⟨A.ab,A.ab,none⟩ H0 σ H ε:=by
 obtain⟨a,b,c,h,d⟩:=S.sub (M':=[]) (λx f=>by cases f) none (λv e=>by cases e);obtain⟨F,O⟩:=d.ow;have e:∀p,a.B p↔A.ab p:=λp=>by rw[O.all p,b];exact⟨λz=>z.elim id (by rintro⟨i,⟨m,g⟩,_⟩;cases g),.inl⟩
 have:a.B=A.ab:=funext λp=>propext (e p);have:a=⟨A.ab,A.ab,none⟩:=by
  cases a;simp only at b c this;rw[b,this,c]
 rw[<-this];exact d
theorem SR.set(S:SR K M A H0 σ H ε){i:Nat}{w:W}{v:V}(g:¬aM M i)(h:Rep K A.B H w v):SR K M A H0 (σ.set i (some v)) H (ε.set i (some w)):=by
 obtain⟨F,O⟩:=S.ow;refine⟨by rw[OF,OF];exact S.len,λj f d e=>?_,S.sm,S.dm,λu e=>?_,F,⟨O.un,λj m f k e=>?_,λj d e=>?_,O.nd,O.ds,O.nw,O.na,O.all⟩⟩
 .by_cases a:i=j
  .subst a;have l:i<σ.length:=by rw[S.len];have:=pQ e;rwa [OF]at this
   have:=iG e;subst this;exact⟨v,P3 l,h⟩
  .rw[aN a]at e;obtain⟨u,c,b⟩:=S.sh j f d e;exact⟨u,by rw[KM a];exact c,b⟩
 .obtain⟨c,b⟩:=S.sl u e;exact⟨by rw[KM (by rintro rfl;exact g b)];exact c,b⟩
 .have a:i≠j:=by rintro rfl;exact g ⟨m,k⟩
  rw[aN a]at e;obtain⟨u,c,b⟩:=O.val j m f k e;exact⟨u,by rw[KM a];exact c,b⟩
 .have a:i≠j:=by rintro rfl;exact g d
  rw[aN a]at e;exact O.emp j d e
theorem SR.own(S:SR K M' A H0 σ H ε){i:Nat}{m:Md}{w:W}{v:V}(y:∀x,x∈M↔x=(i,m)\/x∈M')(Q:¬aM M' i)(s:ao H H1)(h:cE K A.B H H1 m w v):
 ∃N,N.ab=A.ab/\N.s0=A.s0/\(∀p o,H p=some o->N.B p->A.B p)/\SR K M N H0 (σ.set i (some v)) H1 (ε.set i (some w)):=by
 obtain⟨F,O⟩:=S.ow;obtain⟨G,nd,nw,L⟩:∃G:List Addr,G.Nodup/\(∀p∈G,H p=none)/\(i<ε.length->Fp K (λq=>A.B q\/q∈G) H1 m w v G)/\(ε.length<=i->G=[]):=by
  by_cases g:i<ε.length
  .obtain⟨G,nd,nw,L⟩:=h;exact⟨G,nd,nw,λ_=>L,λz=>by lia⟩
  .exact⟨[],X4,by simp,λz=>(g z).elim,λ_=>rfl⟩
 have f:∀j,aM M j↔j=i\/aM M' j:=λj=>by
  constructor
  .rintro⟨r,R⟩;rcases(y _).mp R with e|e
   .cases e;exact .inl rfl
   .exact .inr ⟨r,e⟩
  .rintro(rfl|⟨r,R⟩)
   .exact⟨m,(y _).mpr (.inl rfl)⟩
   .exact⟨r,(y _).mpr (.inr R)⟩
 have P:∀j,aM M' j->j≠i:=λj c e=>by subst e;exact Q c
 have E:∀j p,aM M' j->p∈F j->p∉G:=λj p c d z=>by obtain⟨o,e,_⟩:=O.has c d;rw[nw p z]at e;cases e
 have T:∀p o,H p=some o->(A.B p\/p∈G)->A.B p:=λp o e z=>by
  rcases z with z|z
  .exact z
  .rw[nw p z]at e;cases e
 refine⟨⟨A.ab,λp=>A.B p\/p∈G,A.s0⟩,rfl,rfl,T,by rw[OF,OF];exact S.len,λj J c e=>?_,S.sm.trans s,S.dm.same s,λu e=>?_,λj=>if j=i then G else F j,⟨λj Z Y a b=>?_,λj r J c e=>?_,λj c e=>?_,λj c=>?_,λj k p c U a b=>?_,λj p c d=>?_,λj p c d=>?_,λp=>?_⟩⟩
 .have t:j≠i/\¬aM M' j:=⟨λz=>c ((f j).mpr (.inl z)),λz=>c ((f j).mpr (.inr z))⟩;rw[aN (NM t.1)]at e;obtain⟨u,I,D⟩:=S.sh j J t.2 e;exact⟨u,by rw[KM (NM t.1)];exact I,Rep.mv s T J D⟩
 .obtain⟨I,D⟩:=S.sl u e;exact⟨by rw[KM (NM (P 0 D))];exact I,(f 0).mpr (.inr D)⟩
 .rcases(y _).mp a with a|a
  .rcases(y _).mp b with b|b
   .cases a;cases b;rfl
   .cases a;exact(Q ⟨_,b⟩).elim
  .rcases(y _).mp b with b|b
   .cases b;exact(Q ⟨_,a⟩).elim
   .exact O.un j Z Y a b
 .rcases(y _).mp c with a|a
  .cases a;have g:i<ε.length:=by have:=pQ e;rwa [OF]at this
   have:=iG e;subst this;exact⟨v,P3 (by rw[S.len];exact g),by rw[Bz rfl];exact L.1 g⟩
  .have n:=P j ⟨r,a⟩;rw[aN (NM n)]at e;obtain⟨u,I,D⟩:=O.val j r J a e;exact⟨u,by rw[KM (NM n)];exact I,by rw[Bi n];exact Fp.mv s T r D⟩
 .by_cases n:j=i
  .subst n;rw[Bz rfl];refine L.2 (WU λg=>?_);have:look (ε.set j (some w)) j=some w:=by rw[aV];exact P3 g
   rw[this]at e;cases e
  .rw[aN (NM n)]at e;rw[Bi n];exact O.emp j (((f j).mp c).resolve_left n) e
 .by_cases n:j=i
  .rw[Bz n];exact nd
  .rw[Bi n];exact O.nd j (((f j).mp c).resolve_left n)
 .by_cases C:j=i
  .by_cases l:k=i
   .rw[C,l]
   .rw[Bz C]at a;rw[Bi l]at b;exact(E k p (((f k).mp U).resolve_left l) b a).elim
  .by_cases l:k=i
   .rw[Bi C]at a;rw[Bz l]at b;exact(E j p (((f j).mp c).resolve_left C) a b).elim
   .rw[Bi C]at a;rw[Bi l]at b;exact O.ds j k p (((f j).mp c).resolve_left C) (((f k).mp U).resolve_left l) a b
 .by_cases n:j=i
  .rw[Bz n]at d;exact S.sm.free (nw p d)
  .rw[Bi n]at d;exact O.nw j p (((f j).mp c).resolve_left n) d
 .by_cases n:j=i
  .rw[Bz n]at d;exact S.dm.no (nw p d)
  .rw[Bi n]at d;exact O.na j p (((f j).mp c).resolve_left n) d
 .constructor
  .rintro(z|z)
   .rcases(O.all p).mp z with z|⟨j,c,d⟩
    .exact .inl z
    .exact .inr ⟨j,(f j).mpr (.inr c),by rw[Bi (P j c)];exact d⟩
   .exact .inr ⟨i,(f i).mpr (.inl rfl),by rw[Bz rfl];exact z⟩
  .rintro(z|⟨j,c,d⟩)
   .exact .inl ((O.all p).mpr (.inl z))
   .by_cases n:j=i
    .rw[Bz n]at d;exact .inr d
    .rw[Bi n]at d;exact .inl ((O.all p).mpr (.inr ⟨j,((f j).mp c).resolve_left n,d⟩))
theorem Jg.chg(S:SR K M A H0 σ H ε)(O:Jg K M A H0 σ H ε F){i:Nat}{m:Md}{w t:W}{v:V}{F':List Addr}(P:(i,m)∈M)(T:look ε i=some w)(R:σ[i]?=some (some v))
 (C:∀p o,H p=some o->(vU o=true/\p∈F i)\/H1 p=some o)(nd:F'.Nodup)(nw:∀p∈F',p∈F i\/H p=none)(h:Fp K (λp=>(A.B p/\p∉F i)\/p∈F') H1 m t v F'):
 ∃s,s.ab=A.ab/\s.s0=A.s0/\(∀p,s.B p↔(A.B p/\p∉F i)\/p∈F')/\(∀p o,H p=some o->s.B p->A.B p)/\sj A.B H H1/\SR K M s H0 σ H1 (ε.set i (some t)):=by
 have f:aM M i:=⟨m,P⟩;have L:∀p,p∈F i->A.B p:=λp c=>(O.all p).mpr (.inr ⟨i,f,c⟩);have Q:sj A.B H H1:=λp o e=>(C p o e).imp (λz=>⟨z.1,L p z.2⟩) id;have J:∀p o,H p=some o->((A.B p/\p∉F i)\/p∈F')->A.B p:=λp o e z=>by
  rcases z with z|z
  .exact z.1
  .rcases nw p z with z|z
   .exact L p z
   .rw[z]at e;cases e
 have D:∀j p,aM M j->j≠i->p∈F j->p∉F i/\p∉F':=λj p d n c=>by
  have a:p∉F i:=λz=>n (O.ds j i p d f c z);refine⟨a,λz=>?_⟩;rcases nw p z with z|z
  .exact a z
  .obtain⟨o,e,_⟩:=O.has d c;rw[z]at e;cases e
 refine⟨⟨A.ab,λp=>(A.B p/\p∉F i)\/p∈F',A.s0⟩,rfl,rfl,λ_=>Iff.rfl,J,Q,by rw[OF];exact S.len,λj g d e=>?_,λp o e=>?_,λp z=>?_,S.sl,λj=>if j=i then F' else F j,⟨O.un,λj x g d e=>?_,λj d e=>?_,λj d=>?_,λj k p d N a b=>?_,λj p d c=>?_,λj p d c=>?_,λp=>?_⟩⟩
 .have n:i≠j:=by rintro rfl;exact d f
  rw[aN n]at e;obtain⟨u,I,E⟩:=S.sh j g d e;exact⟨u,I,Rep.chg Q J g E⟩
 .rcases C p o (S.sm p o e)with⟨_,z⟩|z
  .rw[O.nw i p f z]at e;cases e
  .exact z
 .obtain⟨o,e⟩:=S.dm p z;rcases C p o e with⟨_,y⟩|y
  .exact(O.na i p f y z).elim
  .exact⟨o,y⟩
 .by_cases n:j=i
  .subst n;have U:=O.un j m x P d;subst U;have:=iG e;subst this;exact⟨v,R,by rw[Bz rfl];exact h⟩
  .rw[aN (NM n)]at e;obtain⟨u,I,E⟩:=O.val j x g d e;refine⟨u,I,?_⟩;rw[Bi n];refine Fp.chg (G:=λp=>p∈F j) (λp o e=>?_) J x (λp c=>c) E;rcases C p o e with⟨z,y⟩|z
   .exact .inl ⟨z,L p y,λq=>(D j p ⟨x,d⟩ n q).1 y⟩
   .exact .inr z
 .by_cases n:j=i
  .subst n;have:look (ε.set j (some t)) j=some t:=by rw[aV];exact P3 (pQ T)
   rw[this]at e;cases e
  .rw[aN (NM n)]at e;rw[Bi n];exact O.emp j d e
 .by_cases n:j=i
  .rw[Bz n];exact nd
  .rw[Bi n];exact O.nd j d
 .by_cases r:j=i
  .by_cases l:k=i
   .rw[r,l]
   .rw[Bz r]at a;rw[Bi l]at b;exact((D k p N l b).2 a).elim
  .by_cases l:k=i
   .rw[Bi r]at a;rw[Bz l]at b;exact((D j p d r a).2 b).elim
   .rw[Bi r]at a;rw[Bi l]at b;exact O.ds j k p d N a b
 .by_cases n:j=i
  .rw[Bz n]at c;rcases nw p c with z|z
   .exact O.nw i p f z
   .exact S.sm.free z
  .rw[Bi n]at c;exact O.nw j p d c
 .by_cases n:j=i
  .rw[Bz n]at c;rcases nw p c with z|z
   .exact O.na i p f z
   .exact S.dm.no z
  .rw[Bi n]at c;exact O.na j p d c
 .constructor
  .rintro(⟨z,y⟩|z)
   .rcases(O.all p).mp z with z|⟨j,d,c⟩
    .exact .inl z
    .have n:j≠i:=by rintro rfl;exact y c
     exact .inr ⟨j,d,by rw[Bi n];exact c⟩
   .exact .inr ⟨i,f,by rw[Bz rfl];exact z⟩
  .rintro(z|⟨j,d,c⟩)
   .exact .inl ⟨(O.all p).mpr (.inl z),λy=>O.na i p f y z⟩
   .by_cases n:j=i
    .rw[Bz n]at c;exact .inr c
    .rw[Bi n]at c;exact .inl ⟨(O.all p).mpr (.inr ⟨j,d,c⟩),(D j p d n c).1⟩
end
end VL
set_option genSizeOf false
set_option genInjectivity false
namespace VL
open PySem PySem.Spec
open PyProof.Rows hiding St
open L2
inductive BI where
 |len|abs|max2|min2|sum|all|any|list|tuple|CL|int|Ql
 deriving DecidableEq
inductive CE where
 |var (i:Nat)|int (i:Int)|bl (b:Bool)|str (x:Str)|aL|DY (n:String)|glob (g:Nat)
 |bin (op:Operator) (a b:CE)|neg (a:CE)|not (a:CE)
 |cmp (op:CmpOp) (a b:CE)
 |and (as:List CE)|or (as:List CE)
 |tup (as:List CE)|lst (as:List CE)
 |ix (a i:CE)|sl (a lo hi:CE)
 |call (f:Nat) (as:List CE)|blt (b:BI) (as:List CE)
 |comp (ts:List Nat) (one:Bool) (n:Nat) (it:CE) (c:CE) (e:CE)
 |jb (as:List CE)|pR (a:CE)|rev (a:CE)
 |pop (i:Nat)
 |own (i:Nat) (π:List jm)
 |Mc (i:Nat) (k x:CE)|Me (i:Nat) (k:CE)|Mf (i:Nat)
inductive CS where
 |set (i:Nat) (e:CE)|CM (ts:List Nat) (e:CE)|par (ts:List Nat) (es:List CE)
 |app (i:Nat) (e:CE)|put (i:Nat) (k e:CE)|AF (j:Nat) (e:CE)
 |ret (e:CE)|iff (c:CE) (a b:List CS)|t7 (c:CE) (b:List CS)
 |fr (ts:List Nat) (one:Bool) (it:CE) (b:List CS)
 |brk
 |Mg (is:List Nat) (b:List CS)
 |NQ (i:Nat)|NR (i:Nat) (k e:CE)
noncomputable def NS:W->W->(W->Prop)->Prop
 |.int i,.int j,Q=>Q (.int (i+j))
 |.lst a,.lst b,Q=>a.length+b.length<=sizeLine/\Q (.lst (a++b))
 |.tup a,.tup b,Q=>a≠[]/\a.length+b.length<=sizeLine/\Q (.tup (a++b))
 |.str a,.str b,Q=>a.length+b.length<=sizeLine/\Q (.str (a++b))
 |_,_,_=>False
noncomputable def NT:W->W->(W->Prop)->Prop
 |.int i,.int j,Q=>IntMulOk i j/\Q (.int (i*j))
 |.lst a,.int k,Q=> -(2^63)<=k/\k<2^63/\a.length*k.toNat<=sizeLine/\Q (.lst (Ds k.toNat a).flatten)
 |_,_,_=>False
noncomputable def Mh(C:Int->Int->Prop)(g:Int->Int->Int):W->W->(W->Prop)->Prop
 |.int i,.int j,Q=>C i j/\Q (.int (g i j))
 |_,_,_=>False
noncomputable def NU:W->W->(W->Prop)->Prop
 |.int i,.int j,Q=>Q (.int (i -j))
 |_,_,_=>False
noncomputable def eS:Operator->W->W->(W->Prop)->Prop
 |.Add=>NS
 |.Sub=>NU
 |.Mult=>NT
 |.FloorDiv=>Mh Am λi j=>i.fdiv j
 |.Mod=>Mh (λ_ j=>j≠0) λi j=>i.fmod j
 |.Pow=>Mh xV λi j=>i^j.toNat
 |.LShift=>Mh xV λi j=>i*2^j.toNat
 |.RShift=>Mh (λ_ j=>0<=j) λi j=>i/2^j.toNat
 |_=>λ_ _ _=>False
noncomputable def qV:Nat->W->Bool
 |_,.int _=>true
 |_,.str x=>PyData.strOk x
 |_,.aL=>true
 |n+1,.lst l=>l.all (qV n)
 |n+1,.tup l=>l.all (qV n)
 |_,_=>false
noncomputable def CN:Nat->W->Bool
 |_,.bl _=>true
 |_,.str x=>PyData.strOk x
 |_,.aL=>true
 |n+1,.lst l=>l.all (CN n)
 |n+1,.tup l=>l.all (CN n)
 |_,_=>false
noncomputable def Qm(a:Bool):W->W->(W->Prop)->Prop
 |.int i,.int j,Q=>Q (.bl (if a then !decide (i=j)else decide (i=j)))
 |.str i,.str j,Q=>Q (.bl (if a then !decide (i=j)else decide (i=j)))
 |.bl i,.bl j,Q=>Q (.bl (if a then !decide (i=j)else decide (i=j)))
 |x,y,Q=>((qV 9 x=true/\qV 9 y=true)\/(CN 9 x=true/\CN 9 y=true))/\∀b:Bool,(b=true↔x=y)->Q (.bl (if a then !b else b))
noncomputable def AG(p:Int->Int->Bool):W->W->(W->Prop)->Prop
 |.int i,.int j,Q=>Q (.bl (p i j))
 |_,_,_=>False
noncomputable def NV(x y:W)(Q:W->Prop):Prop:=∃(a b:Int)(c d:List Int),x=.tup [.int a,.lst (c.map W.int)]/\y=.tup [.int b,.lst (d.map W.int)]/\Q (.bl (if a=b then HT.lexLt c d else decide (a<b)))
noncomputable def S8:W->W->(W->Prop)->Prop
 |.int i,.int j,Q=>Q (.bl (decide (i<j)))
 |.tup a,.tup b,Q=>NV (.tup a) (.tup b) Q
 |_,_,_=>False
noncomputable def RH(a:Bool):W->W->(W->Prop)->Prop
 |.aL,.aL,Q=>Q (.bl (!a))
 |.bl _,.aL,Q=>Q (.bl a)
 |.int _,.aL,Q=>Q (.bl a)
 |.str _,.aL,Q=>Q (.bl a)
 |.lst _,.aL,Q=>Q (.bl a)
 |.tup _,.aL,Q=>Q (.bl a)
 |.err _,.aL,Q=>Q (.bl a)
 |_,_,_=>False
noncomputable def eT:CmpOp->W->W->(W->Prop)->Prop
 |.Eq=>Qm false
 |.NotEq=>Qm true
 |.Lt=>S8
 |.LtE=>AG λi j=>decide (i<=j)
 |.Gt=>AG λi j=>decide (j<i)
 |.GtE=>AG λi j=>decide (j<=i)
 |.Is=>RH false
 |.IsNot=>RH true
 |_=>λ_ _ _=>False
noncomputable def GL:CmpOp->W->W->(W->Prop)->Prop
 |.Lt=>AG λi j=>decide (i<j)
 |o=>eT o
noncomputable def GN:W->W->(W->Prop)->Prop
 |.lst l,.int i,Q=>∃w,jV l i=some w/\Q w
 |.tup l,.int i,Q=>∃w,jV l i=some w/\Q w
 |.eO ns,.int i,Q=>∃n,jV ns i=some n/\Q (.int n)
 |_,_,_=>False
noncomputable def gS(l:List W)(a b:Option Int):List W:=(l.drop (HT.nW l.length 0 a)).take (HT.nW l.length l.length b -HT.nW l.length 0 a)
noncomputable def iH:CE->Bool
 |.aL=>true
 |_=>false
noncomputable def US:W->(Option Int->Prop)->Prop
 |.int i,Q=>Q (some i)
 |_,_=>False
noncomputable def DZ(c:CE)(y:W)(Q:Option Int->Prop):Prop:=cond (iH c) (Q none) (US y Q)
noncomputable def Qn:W->Option Int->Option Int->(W->Prop)->Prop
 |.lst l,a,b,Q=>Q (.lst (gS l a b))
 |.eO ns,a,b,Q=>Q (.lst (gS (ns.map W.int) a b))
 |_,_,_,_=>False
noncomputable def UT:W->Option String
 |.aL=>some "NoneType"
 |.bl _=>some "bool"
 |.int _=>some "int"
 |.str _=>some "str"
 |.lst _=>some "list"
 |.tup _=>some "tuple"
 |_=>none
noncomputable def AH(a b:String):Bool:=a==b||(a=="bool"&&b=="int")
noncomputable def ni:BI->List W->(W->Prop)->Prop
 |.len,[.lst l],Q=>Q (.int l.length)
 |.len,[.tup l],Q=>Q (.int l.length)
 |.len,[.eO ns],Q=>Q (.int ns.length)
 |.abs,[.int i],Q=>Q (.int (if i<0 then-i else i))
 |.max2,[.int i,.int j],Q=>Q (.int (if j>i then j else i))
 |.max2,[.lst l],Q=>∃ns:List Int,l=ns.map W.int/\ns≠[]/\∀m∈ns,(∀n∈ns,n<=m)->Q (.int m)
 |.min2,[.int i,.int j],Q=>Q (.int (if j<i then j else i))
 |.min2,[.lst l],Q=>∃ns:List Int,l=ns.map W.int/\ns≠[]/\∀m∈ns,(∀n∈ns,m<=n)->Q (.int m)
 |.sum,[.lst l],Q=>∃ns:List Int,l=ns.map W.int/\Q (.int ns.sum)
 |.all,[.lst l],Q=>∃c:List Bool,l=c.map W.bl/\Q (.bl (c.all id))
 |.any,[.lst l],Q=>∃c:List Bool,l=c.map W.bl/\Q (.bl (c.any id))
 |.list,[.lst l],Q=>Q (.lst l)
 |.list,[.tup l],Q=>Q (.lst l)
 |.tuple,[.lst l],Q=>Q (.tup l)
 |.tuple,[.tup l],Q=>Q (.tup l)
 |.CL,[w,.ty n],Q=>∃a,UT w=some a/\Q (.bl (AH a n))
 |.int,[.bl b],Q=>Q (.int (if b then 1 else 0))
 |.Ql,[.int i,.int j],Q=>(0<j/\j<1073741824)/\Q (.tup [.int (i/j),.int (i%j)])
 |_,_,_=>False
noncomputable def vV(j:Int):W->Bool
 |.int i=>decide (i=j)
 |_=>false
noncomputable def gC(j:Int):List W->List W->Option W
 |x::ks,w::a=>if vV j x=true then some w else gC j ks a
 |_,_=>none
noncomputable def lE(j:Int)(ks:List W):List W:=if ks.any (vV j)=true then ks else ks++[.int j]
noncomputable def lF(j:Int)(u:W)(ks a:List W):List W:=if ks.any (vV j)=true then O9 (λx w=>if vV j x=true then u else w) ks a else a++[u]
noncomputable def bJ(a:Ev):List Nat->List W->Ev
 |i::c,w::b=>bJ (a.set i (some w)) c b
 |_,_=>a
noncomputable def wT(one:Bool)(a:List Nat)(w:W)(b:Ev)(Q:Ev->Prop):Prop:=
 match one,a,w with
 |true,[i],w=>Q (b.set i (some w))
 |false,a,.tup l=>l.length=a.length/\Q (bJ b a l)
 |_,_,_=>False
noncomputable def jX(f:W->(Option W->Prop)->Prop):List W->List W->(List W->Prop)->Prop
 |[],acc,Q=>Q acc
 |w::a,acc,Q=>f w λr=>match r with
  |some y=>acc.length<sizeLine/\jX f a (acc++[y]) Q
  |none=>jX f a acc Q
noncomputable def truth:W->(Bool->Prop)->Prop
 |.bl b,Q=>Q b
 |_,_=>False
noncomputable def items:W->(List W->Prop)->Prop
 |.lst l,Q=>Q l
 |.tup l,Q=>Q l
 |_,_=>False
noncomputable def cY(a st:Int)(n:Nat):List W:=(Ea n).map λ(i:Nat)=>W.int (a+(i:Int)*st)
noncomputable def AI:List W->(List W->Prop)->Prop
 |[.int j],Q=> -(2^62)<=j/\j<2^62/\Q (cY 0 1 j.toNat)
 |[.int i,.int j],Q=>(-(2^62)<=i/\i<2^62/\-(2^62)<=j/\j<2^62)/\Q (cY i 1 (j -i).toNat)
 |[.int i,.int j,.int k],Q=>∃n:Nat,(k≠0/\k.natAbs<1073741824/\Builtin.Range.small i j k=true/\Builtin.Range.rangeSize i j k=(n:Int))/\Q (cY i k n)
 |_,_=>False
noncomputable def fO(l:List W):List W:=O9 (λ(i:Nat) w=>W.tup [.int i,w]) (Ea l.length) l
mutual
noncomputable def CO:W->Bool
 |.aL=>true
 |.bl _=>true
 |.int _=>true
 |.str _=>true
 |.tup l=>AJ l
 |_=>false
noncomputable def AJ:List W->Bool
 |[]=>true
 |w::l=>CO w&&AJ l
end
mutual
noncomputable def flat:Md->W->Bool
 |.s,w=>CO w
 |.f,w=>match w with
  |.lst l=>AJ l
  |_=>false
 |.t a,w=>match w with
  |.tup l=>vW a l
  |_=>false
 |.o _ _,_=>false
 |.io _,_=>false
 |.d,_=>false
 |.ls _,_=>false
noncomputable def vW:List Md->List W->Bool
 |[],l=>l.isEmpty
 |m::a,l=>match l with
  |w::l=>flat m w&&vW a l
  |[]=>false
end
noncomputable def S9:CE->Option Int
 |.int i=>some i
 |_=>none
noncomputable def RI:List CE->Option W
 |[a,b]=>(S9 a).bind λi=>(S9 b).bind λj=>some (.tup [.int i,.int j])
 |_=>none
noncomputable def cst:CE->Option W
 |.int i=>some (.int i)
 |.tup l=>RI l
 |_=>none
abbrev bf:=List W->(W->Prop)->(Addr->Prop)->Prop
section
variable(Φ:Nat->bf)(G:Nat->W)
mutual
noncomputable def wE(R:Addr->Prop):CE->Ev->(W->Prop)->Prop
 |.var i,m,Q=>match look m i with
  |some w=>Q w
  |none=>False
 |.int i,_,Q=>Q (.int i)
 |.bl b,_,Q=>Q (.bl b)
 |.str x,_,Q=>Q (.str x)
 |.aL,_,Q=>Q .aL
 |.DY n,_,Q=>Q (.ty n)
 |.glob g,_,Q=>Q (G g)
 |.bin op a b,m,Q=>wE R a m λx=>wE R b m λy=>eS op x y Q
 |.neg a,m,Q=>wE R a m λx=>match x with
  |.int i=>Q (.int (-i))
  |_=>False
 |.not a,m,Q=>wE R a m λx=>truth x λb=>Q (.bl (!b))
 |.cmp op a b,m,Q=>wE R a m λx=>wE R b m λy=>eT op x y Q
 |.and p,m,Q=>xM R p m Q
 |.or p,m,Q=>L3 R p m Q
 |.tup p,m,Q=>wA R p m λo=>o.length<=sizeLine/\Q (.tup o)
 |.lst p,m,Q=>wA R p m λo=>o.length<=sizeLine/\Q (.lst o)
 |.ix a i,m,Q=>wE R a m λx=>wE R i m λy=>GN x y Q
 |.sl a s t,m,Q=>wE R a m λx=>wE R s m λy=>DZ s y λl=>wE R t m λz=>DZ t z λh=>Qn x l h Q
 |.call f p,m,Q=>wA R p m λo=>Φ f o Q R
 |.blt b p,m,Q=>wA R p m λo=>ni b o Q
 |.comp v one n A c e,m,Q=>wE R A m λz=>items z λo=>jX (λw K=>wT one v w (Ds n none++m) λq=>wE (λ_=>False) c q λx=>truth x λk=>if k=true then wE (λ_=>False) e q λy=>K (some y)else K none) o [] λl=>Q (.lst l)
 |.jb p,m,Q=>wA R p m λo=>AI o λl=>Q (.lst l)
 |.pR a,m,Q=>wE R a m λx=>match x with
  |.lst l=>Q (.lst (fO l))
  |_=>False
 |.rev a,m,Q=>wE R a m λx=>match x with
  |.lst l=>Q (.lst l.reverse)
  |_=>False
 |.pop _,_,_=>False
 |.own i π,m,Q=>match look m i with
  |some w=>match bW w π with
   |some u=>Q u
   |none=>False
  |none=>False
 |.Mc i k d,m,Q=>match look m i with
  |some (.dct ks vs)=>wE R k m λx=>wE R d m λz=>match x with
   |.int j=>Q ((gC j ks vs).getD z)
   |_=>False
  |_=>False
 |.Me i k,m,Q=>match look m i with
  |some (.dct ks vs)=>wE R k m λx=>match x with
   |.int j=>∃w,gC j ks vs=some w/\Q w
   |_=>False
  |_=>False
 |.Mf i,m,Q=>match look m i with
  |some (.dct ks vs)=>∃ns:List Int,ks=ns.map W.int/\ns.length<64/\∀r:List Int,r.Perm ns->r.Pairwise (·<=·)->Q (.lst (r.map W.int))
  |_=>False
noncomputable def wA(R:Addr->Prop):List CE->Ev->(List W->Prop)->Prop
 |[],_,Q=>Q []
 |a::d,b,Q=>wE R a b λx=>wA R d b λc=>Q (x::c)
noncomputable def xM(R:Addr->Prop):List CE->Ev->(W->Prop)->Prop
 |[],_,_=>False
 |a::e,c,Q=>match e with
  |[]=>wE R a c Q
  |b::d=>wE R a c λx=>truth x λk=>if k=true then xM R (b::d) c Q else Q (.bl false)
noncomputable def L3(R:Addr->Prop):List CE->Ev->(W->Prop)->Prop
 |[],_,_=>False
 |a::e,c,Q=>match e with
  |[]=>wE R a c Q
  |b::d=>wE R a c λx=>truth x λk=>if k=true then Q (.bl true)else L3 R (b::d) c Q
end
structure Dn where
 nx:Ev->Prop
 rt:W->Prop
 bk:Ev->Prop
 ct:Ev->Prop
 ex:Addr->Prop
mutual
noncomputable def wP(R:Addr->Prop):CE->Ev->(W->Ev->Prop)->Prop
 |.pop i,c,Q=>match look c i with
  |some (.lst l)=>∃w,l[l.length -1]?=some w/\Q w (c.set i (some (.lst l.dropLast)))
  |_=>False
 |.bin op a b,c,Q=>wP R a c λx j=>wP R b j λy k=>eS op x y λz=>Q z k
 |.cmp op a b,c,Q=>wP R a c λx j=>wP R b j λy k=>eT op x y λz=>Q z k
 |.call f g,c,Q=>HD R g c λh d=>Φ f h (λw=>Q w d) R
 |.blt b g,c,Q=>HD R g c λh d=>ni b h λw=>Q w d
 |.ix a b,c,Q=>wP R a c λx j=>wP R b j λy k=>GN x y λz=>Q z k
 |.lst g,c,Q=>HD R g c λh d=>h.length<=sizeLine/\Q (.lst h) d
 |.tup g,c,Q=>HD R g c λh d=>h.length<=sizeLine/\Q (.tup h) d
 |.and g,c,Q=>zq R g c Q
 |.or g,c,Q=>HE R g c Q
 |e,c,Q=>wE Φ G R e c λw=>Q w c
noncomputable def HD(R:Addr->Prop):List CE->Ev->(List W->Ev->Prop)->Prop
 |[],b,Q=>Q [] b
 |a::f,b,Q=>wP R a b λx d=>HD R f d λc e=>Q (x::c) e
noncomputable def zq(R:Addr->Prop):List CE->Ev->(W->Ev->Prop)->Prop
 |[],_,_=>False
 |a::f,d,Q=>match f with
  |[]=>wP R a d Q
  |b::e=>wP R a d λx c=>truth x λk=>if k=true then zq R (b::e) c Q else Q (.bl false) c
noncomputable def HE(R:Addr->Prop):List CE->Ev->(W->Ev->Prop)->Prop
 |[],_,_=>False
 |a::f,d,Q=>match f with
  |[]=>wP R a d Q
  |b::e=>wP R a d λx c=>truth x λk=>if k=true then Q (.bl true) c else HE R (b::e) c Q
end
noncomputable def iI(b:W->Dn->Ev->Prop)(D:Dn):List W->Ev->Prop
 |[],a=>D.nx a
 |w::c,a=>b w {nx:=iI b D c,rt:=D.rt,bk:=D.nx,ct:=iI b D c,ex:=λ_=>False} a
noncomputable def D3(c:Ev->(Bool->Prop)->Prop)(b:Dn->Ev->Prop)(D:Dn)(a:Ev):Prop:=
 ∃J:Nat->Ev->Prop,(∃m,J m a)/\∀m a,J m a->c a λk=>if k=true then∃N:Ev->Prop,(∀d,N d->∃e,e<m/\J e d)/\b {nx:=N,rt:=D.rt,bk:=D.nx,ct:=N,ex:=λ_=>False} a else D.nx a
mutual
noncomputable def wS:CS->Dn->Ev->Prop
 |.set i e,D,d=>wE Φ G D.ex e d λw=>D.nx (d.set i (some w))
 |.CM g e,D,d=>wE Φ G D.ex e d λw=>match w with
  |.tup l=>l.length=g.length/\D.nx (bJ d g l)
  |_=>False
 |.par g p,D,d=>wA Φ G D.ex p d λh=>h.length=g.length/\D.nx (bJ d g h)
 |.app i e,D,d=>match look d i with
  |some (.lst l)=>wE Φ G D.ex e d λw=>l.length<sizeLine/\D.nx (d.set i (some (.lst (l++[w]))))
  |_=>False
 |.put i k e,D,d=>wE Φ G D.ex e d λw=>match look d i with
  |some (.lst l)=>wE Φ G D.ex k d λx=>match x with
   |.int j=>∃n,t6 l.length j=some n/\D.nx (d.set i (some (.lst (l.set n w))))
   |_=>False
  |_=>False
 |.AF j e,D,d=>wP Φ G D.ex e d λw f=>D.nx (f.set j (some w))
 |.ret e,D,d=>wE Φ G D.ex e d D.rt
 |.iff c a b,D,d=>wE Φ G D.ex c d λx=>truth x λk=>if k=true then wSs a D d else wSs b D d
 |.t7 c b,D,d=>D3 (λd Q=>wE Φ G (λ_=>False) c d λx=>truth x Q) (wSs b) D d
 |.fr g one m b,D,d=>wE Φ G (λ_=>False) m d λz=>items z λh=>iI (λw q f=>wT one g w f λo=>wSs b q o) D h d
 |.brk,D,d=>D.bk d
 |.NQ i,D,d=>D.nx (d.set i (some (.dct [] [])))
 |.NR i k e,D,d=>wE Φ G D.ex e d λw=>match look d i with
  |some (.dct ks vs)=>wE Φ G D.ex k d λx=>match x with
   |.int j=>ks.length<sizeLine/\D.nx (d.set i (some (.dct (lE j ks) (lF j w ks vs))))
   |_=>False
  |_=>False
 |.Mg _ b,D,d=>wSs b {D with nx:=λ_=>False,bk:=λ_=>False,ct:=λ_=>False} d
noncomputable def wSs:List CS->Dn->Ev->Prop
 |[],D,a=>D.nx a
 |s::c,D,a=>match c with
  |[]=>wS s D a
  |t::b=>wS s {D with nx:=wSs (t::b) D} a
end
end
noncomputable def aP(K:Frag)(B:Addr->Prop)(H:Hp)(w:W)(v:V):Prop:=
 match w with
 |.lst l=>∃p a,v=.ref p/\Rd H p (.lst a)/\ai K B H l a
 |w=>Rep K B H w v
section
variable{K:Frag}{A B:Addr->Prop}{H H':Hp}{w:W}{v:V}
theorem Rep.b(h:Rep K B H w v):aP K B H w v:=by
 cases w with
 |lst l=>obtain⟨p,a,e,_,d,c⟩:=h;exact⟨p,a,e,d,c⟩
 |_=>exact h
theorem aP.same(s:ao H H')(h:aP K B H w v):aP K B H' w v:=by
 cases w with
 |lst l=>obtain⟨p,a,e,c,b⟩:=h;exact⟨p,a,e,VL.ao.rd s c,b.same s⟩
 |_=>exact Rep.same s h
theorem aP.lst{l:List W}(h:aP K B H (.lst l) v):∃p vs,v=.ref p/\Rd H p (.lst vs)/\ai K B H l vs:=h
theorem aP.NW{l:List W}(h:aP K B H (.tup l) v):∃p vs,v=.ref p/\H p=some (.tup vs)/\ai K B H l vs:=by have h:Rep K B H (.tup l) v:=h;dsimp only[Rep]at h;exact h
theorem aP.tup{l:List W}(h:aP K B H (.tup l) v):∃p vs,v=.ref p/\g8 K H p vs/\ai K B H l vs:=by have h:Rep K B H (.tup l) v:=h;obtain⟨p,vs,e,b,a⟩:=h;exact⟨p,vs,e,g8.of b,a⟩
theorem aP.int{i:Int}(h:aP K B H (.int i) v):v=.int i:=by have h:Rep K B H (.int i) v:=h;dsimp only[Rep]at h;exact h
theorem aP.bl{i:Bool}(h:aP K B H (.bl i) v):v=.bl i:=by have h:Rep K B H (.bl i) v:=h;dsimp only[Rep]at h;exact h
theorem aP.str{i:Str}(h:aP K B H (.str i) v):v=.str i:=by have h:Rep K B H (.str i) v:=h;dsimp only[Rep]at h;exact h
theorem aP.aL(h:aP K B H .aL v):v=.aL:=by have h:Rep K B H .aL v:=h;dsimp only[Rep]at h;exact h
theorem aP.ty{n:String}(h:aP K B H (.ty n) v):v=.ty n:=by have h:Rep K B H (.ty n) v:=h;dsimp only[Rep]at h;exact h
theorem cZ(i:Int):Rep K B H (.int i) (.int i):=by dsimp only[Rep]
theorem t8(i:Bool):Rep K B H (.bl i) (.bl i):=by dsimp only[Rep]
theorem NX(i:Str):Rep K B H (.str i) (.str i):=by dsimp only[Rep]
theorem RJ:Rep K B H .aL .aL:=by dsimp only[Rep]
theorem UU(n:String):Rep K B H (.ty n) (.ty n):=by dsimp only[Rep]
theorem sr{l:List W}{p:Addr}{vs:List V}(b:H p=some (.tup vs))(a:ai K B H l vs):Rep K B H (.tup l) (.ref p):=by dsimp only[Rep];exact⟨p,vs,rfl,b,a⟩
end
abbrev KP:=W->Prop
noncomputable def Cont(K:Frag)(B:Addr->Prop)(H:Hp)(m:Md)(P:KP)(Q:VK):Prop:=∀w v a,P w->ao H a->cE K B H a m w v->Q v a
theorem Cont.now{K:Frag}{B:Addr->Prop}{H:Hp}{P:KP}{Q:VK}(c:Cont K B H .s P Q){w:W}{v:V}(p:P w)(h:Rep K B H w v):Q v H:=c w v H p (ao.refl H) (.of h)
theorem Cont.s{K:Frag}{B:Addr->Prop}{H:Hp}{m:Md}{P:KP}{Q:VK}(d:Dom B H)(c:Cont K B H .s P Q):Cont K B H m P Q:=λw v b p a h=>c w v b p a (h.s d)
noncomputable def AK(X:Cx)(f:Value->Value->Sem Value)(r:W->W->KP->Prop)(m:W->W->Md):Prop:=
 ∀(a:List (Addr×Obj))(s:Shared)(b:St)(H:Hp)(B:Addr->Prop)(x y:W)(d c:V)(v u:Value)(P:KP)(Q:VK),Inv X a b H s->Dom B H->RelV d v->RelV c u->aP X.K B H x d->aP X.K B H y c->r x y P->Cont X.K B H (m x y) P Q->
  wpAny (model X.prog X.w) X.A (f v u) (EP X a b Q) X.xe s
section
variable{X:Cx}
theorem D4:jf X (binaryOp .Add) (λx y H Q=>∃l b f d,x=.ref l/\y=.ref b/\Rd H l (.lst f)/\Rd H b (.lst d)/\f.length+d.length<=sizeLine/\∀p,H p=none->Q (.ref p) (upd H p (.lst (f++d)))):=by
 intro i s B H x y v u Q I k j h;obtain⟨l,b,f,d,rfl,rfl,o,t,hz,q⟩:=h;cases k;cases j;obtain⟨z,c,n,r,e⟩:=o.ok I.hok;obtain⟨C,a,D,g,A⟩:=t.ok I.hok;have E:=r.length;have m:=g.length;refine PySem.P.add_list e A ?_ (by rw[FC,FC];lia);have w:c.toArray++a.toArray=(c++a).toArray:=by simp
 rw[w];exact⟨.ref _,_,I.Np (t':=s.toks) (r.append g) (by rw[Fm];lia),rfl,q _ I.fresh⟩
theorem D5:jf X (binaryOp .Mult) (λx y H Q=>∃l k i,x=.ref l/\y=.int k/\Rd H l (.lst i)/\-(2^63)<=k/\k<2^63/\i.length*k.toNat<=sizeLine/\∀p,H p=none->Q (.ref p) (upd H p (.lst (Ds k.toNat i).flatten))):=by
 intro w s M H x y v u Q I C B h;obtain⟨l,k,i,rfl,rfl,E,J,G,hz,q⟩:=h;cases C;obtain⟨t,rfl⟩:=B;obtain⟨z,b,n,r,e⟩:=E.ok I.hok;have D:=r.length;have d:b.toArray.size*k.toNat<=sizeLine:=by rw[FC,<-D];exact hz
 have g:¬b.toArray.size*k.toNat>(2^63 -1)/8:=by
  have:(sizeLine:Nat)<=(2^63 -1)/8:=by decide
  lia
 have f:¬(!Builtin.List.listFitsIndex k)=true:=by rw[fitsIndex_both J G];exact Jn
 have L:¬Builtin.List.listTooLong (b.toArray.size*k.toNat)=true:=by rw[zZ d];exact Jn
 have c:VV (λo j=>o++j) #[] (Ds (if b.toArray.isEmpty=true then 0 else k.toNat) b.toArray)=(Ds k.toNat b).flatten.toArray:=by
  have K:∀m:Nat,VV (λo j=>o++j) #[] (Ds m b.toArray)=(Ds m b).flatten.toArray:=λm=>by have:=foldl_rep b m [];rw[S2]at this;exact this
  rw[K];cases b with
  |nil=>simp
  |cons a N=>rw[Bi (by simp)]
 refine wpAny_binaryOp_repeat_ref (T:="list") (U:="int") (by decide) ⟨_,e,rfl⟩ (λA=>typeIs_int A k t) noFill_list_mul F.fills_int_mul F.slot_int_rmul repeat_list F.slot_int_index.lookup
  (call_meets F.slot_int_rmul (typeIs_int s k t) F.entry_int_rmul (F.args_int_rmul_2 _ _) (int___rmul___int_list k t l b.toArray n)
    ⟨e,rfl,⟨_,e,rfl⟩,call_meets F.slot_list_mul ⟨_,e,rfl⟩ F.entry_list_mul (F.args_list_mul_2 _ _) (AutoListH.list___mul___list_int_3 l b.toArray n k t f g L) ⟨e,?_⟩⟩)
 rw[c];exact⟨.ref _,_,I.Np (t':=s.toks) (r.rep k.toNat) (by rw[len_rep,U2];exact hz),rfl,q _ I.fresh⟩
noncomputable def D6:W->W->Md
 |.lst _,_=>.f
 |_,_=>.s
theorem Jh:AK X (binaryOp .Add) NS D6:=by
 intro f s m H B x y N M v u P Q I d t o A w h c;cases x with
 |int i=>
  cases y with
  |int j=>
   cases A.int;cases w.int;exact Im f s m H _ _ v u Q I t o ⟨i,j,rfl,rfl,c.now h (cZ _)⟩
  |_=>exact h.elim
 |str i=>
  cases y with
  |str j=>
   cases A.str;cases w.str;exact uh f s m H _ _ v u Q I t o ⟨i,j,rfl,rfl,h.1,c.now h.2 (NX _)⟩
  |_=>exact h.elim
 |lst a=>
  cases y with
  |lst b=>obtain⟨p,n,rfl,J,g⟩:=A.lst;obtain⟨q,C,rfl,D,k⟩:=w.lst;obtain⟨G,h⟩:=h;refine D4 f s m H _ _ v u Q I t o ⟨p,q,n,C,rfl,rfl,J,D,by rw[g.len,k.len];exact G,λr l=>?_⟩;exact c _ _ _ h (aF l _) (.fresh (ao.refl H) l (g.app k))
  |_=>exact h.elim
 |tup a=>
  cases y with
  |tup b=>
   obtain⟨p,n,rfl,L,g⟩:=A.NW;have J:g8 X.K H p n:=g8.of L;obtain⟨q,C,rfl,D,k⟩:=w.tup;obtain⟨E,G,h⟩:=h;refine Dm f s m H _ _ v u Q I t o ⟨p,q,n,C,rfl,rfl,J,D,λz=>E ?_,by rw[g.len,k.len];exact G,λz=>?_,λ_ r l=>?_⟩
   .have:=g.len;rw[z]at this;exact Oy.mp this.symm
   .have:=k.len;rw[z]at this;have e:b=[]:=Oy.mp this.symm;subst e;rw[Qb]at h;exact c.now h (sr L g)
   .exact c _ _ _ h (aF l _) (.of (sr aJ ((g.app k).same (aF l _))))
  |_=>exact h.elim
 |_=>exact h.elim
theorem Ji:AK X (binaryOp .Mult) NT D6:=by
 intro b s e H B x y D C v u P Q I d g f m l h c;cases x with
 |int i=>
  cases y with
  |int j=>
   cases m.int;cases l.int;exact DM b s e H _ _ v u Q I g f ⟨i,j,rfl,rfl,h.1,c.now h.2 (cZ _)⟩
  |_=>exact h.elim
 |lst a=>
  cases y with
  |int k=>obtain⟨p,q,rfl,A,o⟩:=m.lst;cases l.int;obtain⟨w,t,z,h⟩:=h;refine D5 b s e H _ _ v u Q I g f ⟨p,k,q,rfl,rfl,A,w,t,by rw[o.len];exact z,λr n=>?_⟩;exact c _ _ _ h (aF n _) (.fresh (ao.refl H) n (o.rep _))
  |_=>exact h.elim
 |_=>exact h.elim
noncomputable def mS:W->W->Md:=λ_ _=>.s
theorem Jj:AK X (binaryOp .Sub) NU mS:=by
 intro a s b H B x y m l v u P Q I d f e k g h c;cases x with
 |int i=>
  cases y with
  |int j=>
   cases k.int;cases g.int;exact Io a s b H _ _ v u Q I f e ⟨i,j,rfl,rfl,c.now h (cZ _)⟩
  |_=>exact h.elim
 |_=>exact h.elim
theorem su{f:Value->Value->Sem Value}{C:Int->Int->Prop}{g:Int->Int->Int}(n:jf X f (rI C λi j=>.int (g i j))):AK X f (Mh C g) mS:=by
 intro a s b H B x y p o v u P Q I d k e m l h c;cases x with
 |int i=>
  cases y with
  |int j=>
   cases m.int;cases l.int;exact n a s b H _ _ v u Q I k e ⟨i,j,rfl,rfl,h.1,c.now h.2 (cZ _)⟩
  |_=>exact h.elim
 |_=>exact h.elim
noncomputable def D7:Operator->W->W->Md
 |.Add=>D6
 |.Mult=>D6
 |_=>mS
theorem uI(op:Operator):AK X (binaryOp op) (eS op) (D7 op):=by
 cases op with
 |Add=>exact Jh
 |Sub=>exact Jj
 |Mult=>exact Ji
 |FloorDiv=>exact su An
 |Mod=>exact su C5
 |Pow=>exact su Iq
 |LShift=>exact su Ir
 |RShift=>exact su Iu
 |_=>exact λa s b H B x y f e v u P Q I d i g k j h c=>h.elim
theorem pS{f:Value->Value->Sem Value}{p:Int->Int->Bool}(m:jf X f (C3 λi j=>.bl (p i j))):AK X f (AG p) mS:=by
 intro a s b H B x y o n v u P Q I d g e l k h c;cases x with
 |int i=>
  cases y with
  |int j=>
   cases l.int;cases k.int;exact m a s b H _ _ v u Q I g e ⟨i,j,rfl,rfl,c.now h (t8 _)⟩
  |_=>exact h.elim
 |_=>exact h.elim
end
mutual
noncomputable def toD:W->PyData
 |.aL=>.none
 |.bl b=>.bool b
 |.int i=>.int i
 |.str x=>.str x
 |.lst l=>.list (toDL l)
 |.tup l=>.tuple (toDL l)
 |_=>.none
noncomputable def toDL:List W->List PyData
 |[]=>[]
 |w::l=>toD w::toDL l
end
mutual
noncomputable def vX:W->Bool
 |.aL=>true
 |.bl _=>true
 |.int _=>true
 |.str x=>PyData.strOk x
 |.lst l=>pT l
 |.tup l=>pT l
 |_=>false
noncomputable def pT:List W->Bool
 |[]=>true
 |w::l=>vX w&&pT l
end
section
variable{X:Cx}{B:Addr->Prop}{H:Hp}
mutual
theorem N3:∀(w:W){v:V},vX w=true->Rep X.K B H w v->Dt X H v (toD w)
 |.aL,v,_,h=>by obtain rfl:=h;exact Ja
 |.bl b,v,_,h=>by obtain rfl:=h;exact NI b
 |.int i,v,_,h=>by obtain rfl:=h;exact IZ i
 |.str x,v,_,h=>by obtain rfl:=h;exact I0 x
 |.lst l,v,d,h=>by obtain⟨p,e,rfl,_,c,a⟩:=h;exact Ay (.inl c) (vY l d a)
 |.tup l,v,d,h=>by obtain⟨p,e,rfl,c,a⟩:=h;exact Jb (g8.of c) (vY l d a)
 |.ty _,_,d,_=>ff d
 |.cls _,_,d,_=>ff d
 |.err _,_,d,_=>ff d
 |.dct _ _,_,d,_=>ff d
 |.obj _ _ _,_,d,_=>ff d
 |.eO _,_,d,_=>ff d
theorem vY:∀(l:List W){vs:List V},pT l=true->ai X.K B H l vs->Paired (Dt X H) vs (toDL l)
 |[],vs,_,h=>by rw[h.nil_inv];exact .nil
 |w::l,vs,d,h=>by obtain⟨v,r,rfl,b,a⟩:=h.cons_inv;have d:=KB.mp d;exact .cons (N3 w d.1 b) (vY l d.2 a)
end
theorem D8{w:W}{v:V}(d:vX w=true)(h:aP X.K B H w v):Dt X H v (toD w):=by
 cases w with
 |lst l=>obtain⟨p,c,rfl,b,a⟩:=h.lst;exact Ay (.inl b) (vY l d a)
 |_=>exact N3 (B:=B) _ d h
end
mutual
theorem toD_lay:∀w:W,vX w=true->(toD w).canLay0=true
 |.aL,_=>rfl
 |.bl _,_=>rfl
 |.int _,_=>rfl
 |.str x,d=>d
 |.lst l,d=>toDL_lay l d
 |.tup l,d=>toDL_lay l d
 |.ty _,d=>ff d
 |.cls _,d=>ff d
 |.err _,d=>ff d
 |.dct _ _,d=>ff d
 |.obj _ _ _,d=>ff d
 |.eO _,d=>ff d
theorem toDL_lay:∀l:List W,pT l=true->PyData.canLayAll0 (toDL l)=true
 |[],_=>rfl
 |w::l,d=>by have d:=KB.mp d;exact KB.mpr ⟨toD_lay w d.1,toDL_lay l d.2⟩
end
mutual
theorem toD_inj:∀x y:W,vX x=true->vX y=true->same (toD x) (toD y)=true->x=y
 |.aL,.aL,_,_,_=>rfl
 |.aL,.bl _,_,_,h=>ff h
 |.aL,.int _,_,_,h=>ff h
 |.aL,.str _,_,_,h=>ff h
 |.aL,.lst _,_,_,h=>ff h
 |.aL,.tup _,_,_,h=>ff h
 |.bl _,.aL,_,_,h=>ff h
 |.bl _,.int _,_,_,h=>ff h
 |.bl _,.str _,_,_,h=>ff h
 |.bl _,.lst _,_,_,h=>ff h
 |.bl _,.tup _,_,_,h=>ff h
 |.int _,.aL,_,_,h=>ff h
 |.int _,.bl _,_,_,h=>ff h
 |.int _,.str _,_,_,h=>ff h
 |.int _,.lst _,_,_,h=>ff h
 |.int _,.tup _,_,_,h=>ff h
 |.str _,.aL,_,_,h=>ff h
 |.str _,.bl _,_,_,h=>ff h
 |.str _,.int _,_,_,h=>ff h
 |.str _,.lst _,_,_,h=>ff h
 |.str _,.tup _,_,_,h=>ff h
 |.lst _,.aL,_,_,h=>ff h
 |.lst _,.bl _,_,_,h=>ff h
 |.lst _,.int _,_,_,h=>ff h
 |.lst _,.str _,_,_,h=>ff h
 |.lst _,.tup _,_,_,h=>ff h
 |.tup _,.aL,_,_,h=>ff h
 |.tup _,.bl _,_,_,h=>ff h
 |.tup _,.int _,_,_,h=>ff h
 |.tup _,.str _,_,_,h=>ff h
 |.tup _,.lst _,_,_,h=>ff h
 |.bl a,.bl b,_,_,h=>GM _ (eq_of_beq h)
 |.int a,.int b,_,_,h=>GM _ (eq_of_beq h)
 |.str a,.str b,_,_,h=>GM _ (eq_of_beq h)
 |.lst a,.lst b,d,e,h=>GM _ (toDL_inj a b d e h)
 |.tup a,.tup b,d,e,h=>GM _ (toDL_inj a b d e h)
 |.ty _,_,d,_,_=>ff d
 |.cls _,_,d,_,_=>ff d
 |.err _,_,d,_,_=>ff d
 |.dct _ _,_,d,_,_=>ff d
 |.obj _ _ _,_,d,_,_=>ff d
 |.eO _,_,d,_,_=>ff d
 |_,.ty _,_,d,_=>ff d
 |_,.cls _,_,d,_=>ff d
 |_,.err _,_,d,_=>ff d
 |_,.dct _ _,_,d,_=>ff d
 |_,.obj _ _ _,_,d,_=>ff d
 |_,.eO _,_,d,_=>ff d
theorem toDL_inj:∀x y:List W,pT x=true->pT y=true->sameAll (toDL x) (toDL y)=true->x=y
 |[],[],_,_,_=>rfl
 |[],_::_,_,_,h=>ff h
 |_::_,[],_,_,h=>ff h
 |x::b,y::a,d,e,h=>by have d:=KB.mp d;have e:=KB.mp e;have h:=KB.mp h;rw[toD_inj x y d.1 e.1 h.1,toDL_inj b a d.2 e.2 h.2]
end
mutual
theorem toD_refl:∀x:W,vX x=true->same (toD x) (toD x)=true
 |.aL,_=>rfl
 |.bl a,_=>SZ a
 |.int a,_=>SZ a
 |.str a,_=>SZ a
 |.lst a,d=>toDL_refl a d
 |.tup a,d=>toDL_refl a d
 |.ty _,d=>ff d
 |.cls _,d=>ff d
 |.err _,d=>ff d
 |.dct _ _,d=>ff d
 |.obj _ _ _,d=>ff d
 |.eO _,d=>ff d
theorem toDL_refl:∀x:List W,pT x=true->sameAll (toDL x) (toDL x)=true
 |[],_=>rfl
 |x::a,d=>by have d:=KB.mp d;exact KB.mpr ⟨toD_refl x d.1,toDL_refl a d.2⟩
end
theorem toD_same(x y:W)(d:vX x=true)(e:vX y=true):same (toD x) (toD y)=true↔x=y:=⟨toD_inj x y d e,by rintro rfl;exact toD_refl x d⟩
theorem toDL_map:∀l:List W,toDL l=l.map toD
 |[]=>rfl
 |w::l=>GM (toD w::·) (toDL_map l)
theorem lG:∀l:List W,pT l=l.all vX
 |[]=>rfl
 |w::l=>GM (vX w&&·) (lG l)
theorem D9:∀(n:Nat)(w:W),(qV n w=true\/CN n w=true)->vX w=true/\(toD w).depth<=n+1
 |n,.aL,_=>⟨rfl,KE _⟩
 |n,.bl _,_=>⟨rfl,KE _⟩
 |n,.int _,_=>⟨rfl,KE _⟩
 |n,.str x,h=>by
  have:PyData.strOk x=true:=by
   rcases h with h|h
   .cases n<;>exact h
   .cases n<;>exact h
  exact⟨this,KE _⟩
 |0,.lst l,h=>h.elim ff ff
 |0,.tup l,h=>h.elim ff ff
 |n+1,.lst l,h=>by
  have b:∀w∈l,vX w=true/\(toD w).depth<=n+1:=λw a=>by
   refine D9 n w ?_;rcases h with h|h
   .exact .inl (IH.mp h w a)
   .exact .inr (IH.mp h w a)
  refine⟨(lG l).trans (IH.mpr λw a=>(b w a).1),?_⟩;dsimp only[toD];rw[toDL_map];exact Vr (sf λx c=>by obtain⟨w,a,rfl⟩:=Hc.mp c;exact(b w a).2)
 |n+1,.tup l,h=>by
  have b:∀w∈l,vX w=true/\(toD w).depth<=n+1:=λw a=>by
   refine D9 n w ?_;rcases h with h|h
   .exact .inl (IH.mp h w a)
   .exact .inr (IH.mp h w a)
  refine⟨(lG l).trans (IH.mpr λw a=>(b w a).1),?_⟩;dsimp only[toD];rw[toDL_map];exact Vr (sf λx c=>by obtain⟨w,a,rfl⟩:=Hc.mp c;exact(b w a).2)
 |0,.ty _,h=>h.elim ff ff
 |0,.cls _,h=>h.elim ff ff
 |0,.err _,h=>h.elim ff ff
 |0,.dct _ _,h=>h.elim ff ff
 |0,.obj _ _ _,h=>h.elim ff ff
 |0,.eO _,h=>h.elim ff ff
 |n+1,.ty _,h=>h.elim ff ff
 |n+1,.cls _,h=>h.elim ff ff
 |n+1,.err _,h=>h.elim ff ff
 |n+1,.dct _ _,h=>h.elim ff ff
 |n+1,.obj _ _ _,h=>h.elim ff ff
 |n+1,.eO _,h=>h.elim ff ff
inductive vZ(b:Bool):PyData->Prop where
 |none:vZ b .none
 |str (x:Str):vZ b (.str x)
 |bool (x:Bool) (h:b=true):vZ b (.bool x)
 |int (x:Int) (h:b=false):vZ b (.int x)
 |list {l:List PyData} (h:∀x∈l,vZ b x):vZ b (.list l)
 |tuple {l:List PyData} (h:∀x∈l,vZ b x):vZ b (.tuple l)
mutual
theorem pU{b:Bool}:∀d e:PyData,vZ b d->vZ b e->SeqAt.noMix d e=true
 |.list c,.list a,h,k=>by
  cases h with
  |list h=>
   cases k with
   |list k=>rw[SeqAt.noMix];exact lH c a h k
 |.tuple c,.tuple a,h,k=>by
  cases h with
  |tuple h=>
   cases k with
   |tuple k=>rw[SeqAt.noMix];exact lH c a h k
 |.bool _,.int _,h,k=>by
  cases h with
  |bool _ h=>
   cases k with
   |int _ k=>rw[h]at k;cases k
 |.int _,.bool _,h,k=>by
  cases h with
  |int _ h=>
   cases k with
   |bool _ k=>rw[h]at k;exact ff k
 |.dict _,_,h,_=>by cases h
 |.none,.none,_,_=>by simp[SeqAt.noMix]
 |.none,.bool _,_,_=>by simp[SeqAt.noMix]
 |.none,.int _,_,_=>by simp[SeqAt.noMix]
 |.none,.str _,_,_=>by simp[SeqAt.noMix]
 |.none,.list _,_,_=>by simp[SeqAt.noMix]
 |.none,.tuple _,_,_=>by simp[SeqAt.noMix]
 |.none,.dict _,_,_=>by simp[SeqAt.noMix]
 |.bool _,.none,_,_=>by simp[SeqAt.noMix]
 |.bool _,.bool _,_,_=>by simp[SeqAt.noMix]
 |.bool _,.str _,_,_=>by simp[SeqAt.noMix]
 |.bool _,.list _,_,_=>by simp[SeqAt.noMix]
 |.bool _,.tuple _,_,_=>by simp[SeqAt.noMix]
 |.bool _,.dict _,_,_=>by simp[SeqAt.noMix]
 |.int _,.none,_,_=>by simp[SeqAt.noMix]
 |.int _,.int _,_,_=>by simp[SeqAt.noMix]
 |.int _,.str _,_,_=>by simp[SeqAt.noMix]
 |.int _,.list _,_,_=>by simp[SeqAt.noMix]
 |.int _,.tuple _,_,_=>by simp[SeqAt.noMix]
 |.int _,.dict _,_,_=>by simp[SeqAt.noMix]
 |.str _,.none,_,_=>by simp[SeqAt.noMix]
 |.str _,.bool _,_,_=>by simp[SeqAt.noMix]
 |.str _,.int _,_,_=>by simp[SeqAt.noMix]
 |.str _,.str _,_,_=>by simp[SeqAt.noMix]
 |.str _,.list _,_,_=>by simp[SeqAt.noMix]
 |.str _,.tuple _,_,_=>by simp[SeqAt.noMix]
 |.str _,.dict _,_,_=>by simp[SeqAt.noMix]
 |.list _,.none,_,_=>by simp[SeqAt.noMix]
 |.list _,.bool _,_,_=>by simp[SeqAt.noMix]
 |.list _,.int _,_,_=>by simp[SeqAt.noMix]
 |.list _,.str _,_,_=>by simp[SeqAt.noMix]
 |.list _,.tuple _,_,_=>by simp[SeqAt.noMix]
 |.list _,.dict _,_,_=>by simp[SeqAt.noMix]
 |.tuple _,.none,_,_=>by simp[SeqAt.noMix]
 |.tuple _,.bool _,_,_=>by simp[SeqAt.noMix]
 |.tuple _,.int _,_,_=>by simp[SeqAt.noMix]
 |.tuple _,.str _,_,_=>by simp[SeqAt.noMix]
 |.tuple _,.list _,_,_=>by simp[SeqAt.noMix]
 |.tuple _,.dict _,_,_=>by simp[SeqAt.noMix]
theorem lH{b:Bool}:∀c a:List PyData,(∀x∈c,vZ b x)->(∀y∈a,vZ b y)->SeqAt.noMixAll c a=true
 |[],[],_,_=>by simp[SeqAt.noMixAll]
 |[],_::_,_,_=>by simp[SeqAt.noMixAll]
 |_::_,[],_,_=>by simp[SeqAt.noMixAll]
 |x::c,y::a,h,k=>by rw[SeqAt.noMixAll,pU x y (h x Da) (k y Da),lH c a (λz hz=>h z (Dx _ hz)) λz hz=>k z (Dx _ hz)];rfl
end
theorem pV:∀(n:Nat)(w:W),qV n w=true->vZ false (toD w)
 |n,.aL,_=>.none
 |n,.int i,_=>.int i rfl
 |n,.str x,_=>.str x
 |n,.bl _,h=>by cases n<;>exact ff h
 |n+1,.lst l,h=>by dsimp only[toD];rw[toDL_map];exact .list λx a=>by obtain⟨w,b,rfl⟩:=Hc.mp a;exact pV n w (IH.mp h w b)
 |n+1,.tup l,h=>by dsimp only[toD];rw[toDL_map];exact .tuple λx a=>by obtain⟨w,b,rfl⟩:=Hc.mp a;exact pV n w (IH.mp h w b)
 |0,.lst l,h=>ff h
 |0,.tup l,h=>ff h
 |n,.ty _,h=>by cases n<;>exact ff h
 |n,.cls _,h=>by cases n<;>exact ff h
 |n,.err _,h=>by cases n<;>exact ff h
 |n,.dct _ _,h=>by cases n<;>exact ff h
 |n,.obj _ _ _,h=>by cases n<;>exact ff h
 |n,.eO _,h=>by cases n<;>exact ff h
theorem pX:∀(n:Nat)(w:W),CN n w=true->vZ true (toD w)
 |n,.aL,_=>.none
 |n,.bl i,_=>.bool i rfl
 |n,.str x,_=>.str x
 |n,.int _,h=>by cases n<;>exact ff h
 |n+1,.lst l,h=>by dsimp only[toD];rw[toDL_map];exact .list λx a=>by obtain⟨w,b,rfl⟩:=Hc.mp a;exact pX n w (IH.mp h w b)
 |n+1,.tup l,h=>by dsimp only[toD];rw[toDL_map];exact .tuple λx a=>by obtain⟨w,b,rfl⟩:=Hc.mp a;exact pX n w (IH.mp h w b)
 |0,.lst l,h=>ff h
 |0,.tup l,h=>ff h
 |n,.ty _,h=>by cases n<;>exact ff h
 |n,.cls _,h=>by cases n<;>exact ff h
 |n,.err _,h=>by cases n<;>exact ff h
 |n,.dct _ _,h=>by cases n<;>exact ff h
 |n,.obj _ _ _,h=>by cases n<;>exact ff h
 |n,.eO _,h=>by cases n<;>exact ff h
section
variable{X:Cx}
theorem pY(D:X.A.units+64<cLine)(g:Bool){a:List (Addr×Obj)}{s:Shared}{f:St}{H:Hp}{B:Addr->Prop}{x y:W}{m l:V}{v u:Value}{P:KP}{Q:VK}(I:Inv X a f H s)(r:RelV m v)(p:RelV l u)(C:aP X.K B H x m)(z:aP X.K B H y l)
 (h:((qV 9 x=true/\qV 9 y=true)\/(CN 9 x=true/\CN 9 y=true))/\∀b:Bool,(b=true↔x=y)->P (.bl (if g then !b else b)))(c:Cont X.K B H .s P Q):
 wpAny (model X.prog X.w) X.A (compareOp (if g then .NotEq else .Eq) v u) (EP X a f Q) X.xe s:=by
 obtain⟨i,h⟩:=h;have e:=D9 9 x (i.imp YD YD);have d:=D9 9 y (i.imp Y3 Y3);have o:SeqAt.shaped (toD x)=true:=by unfold SeqAt.shaped;rw[toD_lay x e.1,Do (Hm e.2 (by decide))];rfl
 have n:SeqAt.shaped (toD y)=true:=by unfold SeqAt.shaped;rw[toD_lay y d.1,Do (Hm d.2 (by decide))];rfl
 have t:SeqAt.noMix (toD x) (toD y)=true:=by
  rcases i with⟨k,j⟩|⟨k,j⟩
  .exact pU _ _ (pV 9 x k) (pV 9 y j)
  .exact pU _ _ (pX 9 x k) (pX 9 y j)
 have q:=h (same (toD x) (toD y)) (toD_same x y e.1 d.1);cases g with
 |true=>exact Jd D a s f H _ _ v u Q I r p ⟨_,_,D8 e.1 C,D8 d.1 z,⟨o,n,t⟩,c.now q (t8 _)⟩
 |false=>exact Jc D a s f H _ _ v u Q I r p ⟨_,_,D8 e.1 C,D8 d.1 z,⟨o,n,t⟩,c.now q (t8 _)⟩
theorem GO(p:X.A.units+64<cLine)(e:Bool):AK X (compareOp (if e then .NotEq else .Eq)) (Qm e) mS:=by
 intro f s r H B x y E D v u P Q I d l g n m h c;have sc:∀a b:V,Iw a b=true->(∀k:Bool,k=decide (a=b)->Q (.bl (if e then !k else k)) H)->RelV a v->RelV b u->wpAny (model X.prog X.w) X.A (compareOp (if e then .NotEq else .Eq) v u) (EP X f r Q) X.xe s:=λa b C q z t=>by
  cases e with
  |true=>exact M7 f s r H _ _ v u Q I z t ⟨C,q _ rfl⟩
  |false=>exact M6 f s r H _ _ v u Q I z t ⟨C,q _ rfl⟩
 cases x with
 |int i=>
  cases y with
  |int j=>
   cases n.int;cases m.int;refine sc _ _ rfl (λk o=>c.now (w:=.bl (if e then !k else k)) ?_ (t8 _)) l g;rw[o,show decide (V.int i=V.int j)=decide (i=j)from by simp];exact h
  |_=>exact pY p e I l g n m h c
 |str i=>
  cases y with
  |str j=>
   cases n.str;cases m.str;refine sc _ _ rfl (λk o=>c.now (w:=.bl (if e then !k else k)) ?_ (t8 _)) l g;rw[o,show decide (V.str i=V.str j)=decide (i=j)from by simp];exact h
  |_=>exact pY p e I l g n m h c
 |bl i=>
  cases y with
  |bl j=>
   cases n.bl;cases m.bl;refine sc _ _ rfl (λk o=>c.now (w:=.bl (if e then !k else k)) ?_ (t8 _)) l g;rw[o,show decide (V.bl i=V.bl j)=decide (i=j)from by simp];exact h
  |_=>exact pY p e I l g n m h c
 |_=>exact pY p e I l g n m h c
theorem GP(i:Bool):AK X (compareOp (if i then .IsNot else .Is)) (RH i) mS:=by
 intro j s m H B x y n t v u P Q I d r o l C h c;have a:t=.aL->(∀k:Bool,k=decide (n=.aL)->P (.bl (if i then !k else k)))->wpAny (model X.prog X.w) X.A (compareOp (if i then .IsNot else .Is) v u) (EP X j m Q) X.xe s:=λe q=>by
  cases i with
  |true=>exact C6 j s m H _ _ v u Q I r o ⟨e,c.now (q _ rfl) (t8 _)⟩
  |false=>exact Iz j s m H _ _ v u Q I r o ⟨e,c.now (q _ rfl) (t8 _)⟩
 cases y with
 |aL=>
  have e:=C.aL;cases x with
  |aL=>have g:=l.aL;refine a e λk f=>?_;rw[f,g];cases i<;>exact h
  |bl b=>have g:=l.bl;refine a e λk f=>?_;rw[f,g];cases i<;>exact h
  |int b=>have g:=l.int;refine a e λk f=>?_;rw[f,g];cases i<;>exact h
  |str b=>have g:=l.str;refine a e λk f=>?_;rw[f,g];cases i<;>exact h
  |lst b=>obtain⟨p,z,g,_⟩:=l.lst;refine a e λk f=>?_;rw[f,g];cases i<;>exact h
  |tup b=>obtain⟨p,z,g,_⟩:=l.tup;refine a e λk f=>?_;rw[f,g];cases i<;>exact h
  |err b=>have l:Rep X.K B H (.err b) n:=l;obtain⟨p,g,_⟩:=l;refine a e λk f=>?_;rw[f,g];cases i<;>exact h
  |_=>exact h.elim
 |_=>
  exfalso
  cases x<;>exact h
theorem lI{K:Frag}{A:Addr->Prop}{H:Hp}:∀{l:List Int}{vs:List V},ai K A H (l.map W.int) vs->vs=l.map V.int
 |[],_,h=>h.nil_inv
 |i::l,vs,h=>by obtain⟨x,r,rfl,b,a⟩:=h.cons_inv;rw[lI a];have:x=.int i:=b;rw[this];rfl
theorem v5{X:Cx}{b:List (Addr×Obj)}{g:St}{H:Hp}{s:Shared}{B:Addr->Prop}{a:Int}{ns:List Int}{v:V}(I:Inv X b g H s)(h:Rep X.K B H (.tup [.int a,.lst (ns.map W.int)]) v):
 ∃p t q items,v=.ref p/\IsTup s.heap p #[.int a t,.ref q]/\s.heap.IsList q items/\IntsAre items.toList ns:=by
 obtain⟨p,E,rfl,z,d⟩:=h;obtain⟨x,l,rfl,e,d⟩:=d.cons_inv;obtain⟨y,l,rfl,u,d⟩:=d.cons_inv;obtain rfl:=d.nil_inv;have e:x=.int a:=e;subst e;obtain⟨q,G,rfl,_,f,w⟩:=u;rw[lI w]at f;obtain⟨o,r,i,_⟩:=I.tuple (.inl (.inl z));obtain⟨c,m,⟨o2,n,A,D,_,C⟩,_⟩:=I.list (.inl f);cases r with
 |cons k r=>
 cases r with
 |cons j r=>
 cases r;obtain⟨t,rfl⟩:=k;cases j;exact⟨p,t,q,c.toArray,rfl,i,⟨o2,A,D,n,C⟩,intsAre_of m⟩
theorem Jk{X:Cx}(hu:X.A.units+64<cLine):AK X (compareOp .Lt) NV mS:=by
 rintro z s Y H B x y M L v u P Q I d O N S R ⟨a,b,j,g,rfl,rfl,h⟩ c;obtain⟨p,t,q,items,rfl,U,D,J⟩:=v5 I (show Rep X.K B H (.tup [.int a,.lst (j.map W.int)]) M from S);obtain⟨p',r,Z,l,rfl,T,C,G⟩:=v5 I (show Rep X.K B H (.tup [.int b,.lst (g.map W.int)]) L from R);cases O;cases N;have o:X.A.in1.units<cLine:=by show X.A.units+1<_;omega
 refine HT.Ak (c:=if a=b then HT.lexLt j g else decide (a<b)) U T ?_ (by omega) ⟨.bl (if a=b then HT.lexLt j g else decide (a<b)),H,I,rfl,c.now h (t8 _)⟩;by_cases e:a=b
 .rw[Bz e];have k:=XD (A:=X.A.in1) (s:=s) a t b r;rw[show(a==b)=true by simpa using e]at k;refine .eq k ?_;have m:=rY D C J G o;by_cases f:j=g
  .rw[Do f]at m;have:HT.lexLt j g=false:=by rw[f];exact kU g
   rw[this];exact .eq m .nn
  .rw[He f]at m;exact .ne m λi w E Q n=>HT.kT D C J G o n
 .rw[Bi e];have k:=XD (A:=X.A.in1) (s:=s) a t b r;rw[show(a==b)=false by simpa using e]at k;exact .ne k λi w E Q n=>HT.rM _ _ _ _ _ _ _ _ _ _ n
theorem N4(q:X.A.units+64<cLine):AK X (compareOp .Lt) S8 mS:=by
 intro e s f H B x y k g v u P Q I d m l o n h c;cases x with
 |int i=>
  cases y with
  |int j=>exact pS (p:=λi j=>decide (i<j)) M8 e s f H B (.int i) (.int j) k g v u P Q I d m l o n h c
  |_=>exact h.elim
 |tup a=>
  cases y with
  |tup b=>exact Jk q e s f H B (.tup a) (.tup b) k g v u P Q I d m l o n h c
  |_=>exact h.elim
 |_=>exact h.elim
theorem uJ(a:X.A.units+64<cLine)(op:CmpOp):AK X (compareOp op) (eT op) mS:=by
 cases op with
 |Eq=>exact GO a false
 |NotEq=>exact GO a true
 |Lt=>exact N4 a
 |LtE=>exact pS M9
 |Gt=>exact pS Na
 |GtE=>exact pS Nb
 |Is=>exact GP false
 |IsNot=>exact GP true
 |_=>exact λb s e H B x y g f v u P Q I d j i l k h c=>h.elim
end
noncomputable def ER(X:Cx)(b:Hp)(R:Addr->Prop):Prop:=∃E:XK,Passes (ji X.prog X.w) X E/\(∀C a,R C->ao b a->E (.ref C) none a)/\As X (λC a=>R C/\ao b a)
theorem yw{X:Cx}:Passes (ji X.prog X.w) X E0:=λ_ _ _ _ _ _ _ h=>by obtain⟨_,_,_,_,_,q⟩:=h;exact q.elim
theorem ER.none{X:Cx}{a:Hp}:ER X a λ_=>False:=⟨E0,yw,λ_ _ z=>z.elim,λ_ _ _ _ _ _ _ _ _ _ z=>z.1.elim⟩
abbrev RL:=(Addr->Prop)->Hp->Hp->W->V->Prop
abbrev WT:=Ev->(W->Prop)->Prop
noncomputable def Jl(K:Frag)(m:Md):RL:=λB H a w v=>cE K B H a m w v
noncomputable def Tc(K:Frag):RL:=λB _ a w v=>aP K B a w v
noncomputable def tV(X:Cx)(M:Ms)(R:Addr->Prop)(e:RL)(t:WT):TE:=λb H Q=>∃A d c P,SR X.K M A d b H c/\ER X d R/\t c P/\∀w v a,P w->ao H a->e (FB A M b) H a w v->Q v a
noncomputable def Td(X:Cx)(M:Ms)(R:Addr->Prop)(t:WT):TT:=λe H Q=>∃A c a P,SR X.K M A c e H a/\ER X c R/\t a P/\∀x d,P x->ao H d->∃b,x=.bl b/\Q b d
abbrev RK:=(Addr->Prop)->Hp->List W->List V->Prop
noncomputable def Te(X:Cx)(M:Ms)(R:Addr->Prop)(g:RK)(t:Ev->(List W->Prop)->Prop):TA:=λb H Q=>∃A f c P,SR X.K M A f b H c/\ER X f R/\t c P/\∀d e a,P d->ao H a->g (FB A M b) a d e->Q e a
abbrev VE(X:Cx)(M:Ms)(R:Addr->Prop)(m:Md)(e:Expr)(t:WT):Prop:=PE X e (tV X M R (Jl X.K m) t)
abbrev VB(X:Cx)(M:Ms)(R:Addr->Prop)(e:Expr)(t:WT):Prop:=PE X e (tV X M R (Tc X.K) t)
abbrev VT(X:Cx)(M:Ms)(R:Addr->Prop)(e:Expr)(t:WT):Prop:=PT X e (Td X M R t)
noncomputable def jM(K:Frag)(B:Addr->Prop)(H:Hp):List W->List V->Prop
 |[],vs=>vs=[]
 |w::a,vs=>∃v r,vs=v::r/\aP K B H w v/\jM K B H a r
noncomputable def UX(K:Frag):RK:=λB H a b=>ai K B H a b
noncomputable def RM(K:Frag):RK:=λB H a b=>jM K B H a b
abbrev VA(X:Cx)(M:Ms)(R:Addr->Prop)(es:List Expr)(t:Ev->(List W->Prop)->Prop):Prop:=PA X es (Te X M R (UX X.K) t)
abbrev Mi(X:Cx)(M:Ms)(R:Addr->Prop)(es:List Expr)(t:Ev->(List W->Prop)->Prop):Prop:=PA X es (Te X M R (RM X.K) t)
theorem PE.imp{X:Cx}{e:Expr}{t t':TE}(h:PE X e t)(k:∀a H Q,t' a H Q->t a H Q):PE X e t':=λb s a H Q I w=>h b s a H Q I (k a H Q w)
theorem PT.imp{X:Cx}{e:Expr}{t t':TT}(h:PT X e t)(k:∀a H Q,t' a H Q->t a H Q):PT X e t':=λb s a H Q I w=>h b s a H Q I (k a H Q w)
theorem PW.imp{X:Cx}{e:Expr}{t t':TT}(h:PW X e t)(k:∀a H Q,t' a H Q->t a H Q):PW X e t':=λc b s a H Q I w=>h c b s a H Q I (k a H Q w)
theorem PA.imp{X:Cx}{e:List Expr}{t t':TA}(h:PA X e t)(k:∀a H Q,t' a H Q->t a H Q):PA X e t':=λc b s a H Q I w=>h c b s a H Q I (k a H Q w)
section
variable{X:Cx}{M:Ms}{R:Addr->Prop}{e a b c:Expr}{t ta tb tc:WT}{m:Md}{pos:Pos}
theorem yx(h:VE X M R m e t):VE X M R .s e t:=PE.imp h<|by rintro j H Q ⟨A,g,d,P,S,f,p,k⟩;exact⟨A,g,d,P,S,f,p,λw v i pw s r=>k w v i pw s (r.s S.dom)⟩
theorem N5(h:VE X M R m e t):VB X M R e t:=PE.imp h<|by rintro j H Q ⟨A,g,d,P,S,f,p,k⟩;exact⟨A,g,d,P,S,f,p,λw v i pw s r=>k w v i pw s (r.rep S.dom).b⟩
theorem AL{i:Nat}(h:PE X e (iu i))(r:aM M i->(i,.f)∈M):VB X M R e (λd Q=>match look d i with|some w=>Q w|none=>False):=PE.imp h<|by
 rintro x H Q ⟨A,B,d,P,S,z,p,k⟩
 revert p
 cases l:look d i with
 |none=>exact λp=>p.elim
 |some w=>
  intro p;by_cases n:aM M i
  .obtain⟨F,O⟩:=S.ow;obtain⟨v,j,g⟩:=O.val i .f w (r n) l;obtain⟨y,q,o,rfl,rfl,_,u,s⟩:=g;exact⟨_,j,k _ _ H p (ao.refl H) ⟨q,o,rfl,.inl u,s⟩⟩
  .obtain⟨v,j,g⟩:=S.sh i w n l;exact⟨v,j,k _ _ H p (ao.refl H) g.b⟩
theorem Jm{i:Nat}(h:PE X e (iu i))(g:¬aM M i):VE X M R .s e (λd Q=>match look d i with|some w=>Q w|none=>False):=PE.imp h<|by
 rintro n H Q ⟨A,q,d,P,S,o,p,k⟩
 revert p
 cases f:look d i with
 |none=>exact λp=>p.elim
 |some w=>intro p;obtain⟨v,l,j⟩:=S.sh i w g f;exact⟨v,l,k _ _ H p (ao.refl H) (.of j)⟩
noncomputable def pZ(K:Frag)(i:Nat)(π:List jm):TE:=λd H Q=>∃v u,d[i]?=some (some v)/\qU K H v π u/\Q u H
theorem AM{i:Nat}{π:List jm}{m h:Md}{K:Frag}{A:Fz}{s H:Hp}{f:St}{g:Ev}{w u:W}(S:SR K M A s f H g)(l:(i,m)∈M)(k:gB m π=some h)(n:look g i=some w)(j:bW w π=some u):
 ∃v d F,f[i]?=some (some v)/\qU K H v π d/\Fp K A.B H h u d F:=by
 obtain⟨F,O⟩:=S.ow;obtain⟨v,p,o⟩:=O.val i m w l n;obtain⟨d,z,x,y,_,r,q,_⟩:=Fp.path π m o k j;exact⟨v,d,x,p,r,q⟩
theorem sA{d:Ev}{i:Nat}{π:List jm}{Q:W->Prop}(h:match look d i with|some w=>(match bW w π with|some u=>Q u|none=>False)|none=>False):∃w u,look d i=some w/\bW w π=some u/\Q u:=by
 cases g:look d i with
 |none=>rw[g]at h;exact h.elim
 |some w=>
  rw[g]at h;dsimp only at h;cases f:bW w π with
  |none=>rw[f]at h;exact h.elim
  |some u=>rw[f]at h;exact⟨w,u,rfl,f,h⟩
theorem Jo{i:Nat}{π:List jm}{j:Md}(h:PE X e (pZ X.K i π))(r:(i,j)∈M)(o:gB j π=some .f):VB X M R e (λg Q=>match look g i with|some w=>(match bW w π with|some u=>Q u|none=>False)|none=>False):=PE.imp h<|by rintro C H Q ⟨A,I,g,P,S,G,p,k⟩;obtain⟨w,u,B,z,q⟩:=sA p;obtain⟨v,E,F,y,x,d⟩:=AM S r o B z;obtain⟨D,n,l,rfl,rfl,_,d,s⟩:=d;exact⟨v,_,y,x,k _ _ H q (ao.refl H) ⟨n,l,rfl,.inl d,s⟩⟩
theorem Jp{i:Nat}{π:List jm}{f:Md}(h:PE X e (pZ X.K i π))(n:(i,f)∈M)(l:gB f π=some .s):VE X M R .s e (λd Q=>match look d i with|some w=>(match bW w π with|some u=>Q u|none=>False)|none=>False):=PE.imp h<|by rintro z H Q ⟨A,C,d,P,S,B,p,k⟩;obtain⟨w,u,y,x,q⟩:=sA p;obtain⟨v,j,F,r,o,g⟩:=AM S n l y x;dsimp only[Fp]at g;exact⟨v,j,r,o,k _ _ H q (ao.refl H) (.of g.2)⟩
theorem yy{v:V}{w:W}(h:PE X e (tC v))(d:∀B H,Rep X.K B H w v):VE X M R .s e (λ_ Q=>Q w):=PE.imp h<|by rintro f H Q ⟨A,j,g,P,S,i,p,k⟩;exact k _ _ H p (ao.refl H) (.of (d _ _))
theorem AO{op:Operator}(U:VB X M R a ta)(T:VB X M R b tb)(O:∀x y,D7 op x y=m\/m=.s):VE X M R m (.BinOp a op b pos) (λi Q=>ta i λx=>tb i λy=>eS op x y Q):=by
 rintro j s g H Q I ⟨A,E,i,P,S,D,p,k⟩;refine wpAny_BinOp (bin U T I (R:=λn l f=>∃x y,eS op x y P/\ao H f/\aP X.K (FB A M g) f x n/\aP X.K (FB A M g) f y l) ⟨A,E,i,_,S,D,p,λx n H1 B C L=>⟨A,E,i,_,S.same C,D,B,λy l f q o J=>⟨x,y,q,C.trans o,aP.same o L,J⟩⟩⟩ ?_);rintro v u o n l f Y rv N ⟨x,y,h,sm,B,q⟩;have d:=(S.same sm).dom;refine uI op j o g f (FB A M g) x y n l v u P Q Y d rv N B q h ?_;have c:Cont X.K (FB A M g) f m P Q:=λw z Z pw G r=>k w z Z pw (sm.trans G) (r.back sm λ_ z=>z);rcases O x y with e|e
 .rw[e];exact c
 .subst e;exact Cont.s d c
end
theorem bO{x:W}{Q:Bool->Prop}(h:truth x Q):∃b,x=.bl b/\Q b:=by
 cases x with
 |bl b=>exact⟨b,rfl,h⟩
 |_=>exact h.elim
theorem Rep.lJ{K:Frag}{B:Addr->Prop}{H:Hp}{b:Bool}{v:V}(h:Rep K B H (.bl b) v):v=.bl b:=by dsimp only[Rep]at h;exact h
theorem Rep.int_inv{K:Frag}{B:Addr->Prop}{H:Hp}{b:Int}{v:V}(h:Rep K B H (.int b) v):v=.int b:=by dsimp only[Rep]at h;exact h
theorem cE.aY{K:Frag}{B:Addr->Prop}{H H':Hp}{w:W}{v:V}(h:cE K B H H' .s w v):Rep K B H' w v:=by obtain⟨F,_,_,h⟩:=h;obtain⟨rfl,h⟩:=h;exact h.less λp z=>.inl z
section
variable{X:Cx}{M:Ms}{R:Addr->Prop}{e a b c:Expr}{t ta tb tc:WT}{m:Md}{pos:Pos}{rest es:List Expr}
noncomputable def Jq:W->Bool
 |.lst _=>true
 |_=>false
theorem Jr{op:Operator}{x y:W}{P:W->Prop}(h:eS op x y P)(d:(op=.Add/\(Jq x=true\/Jq y=true))\/(op=.Mult/\Jq x=true)):D7 op x y=.f:=by
 rcases d with⟨rfl,d⟩|⟨rfl,d⟩
 .cases x with
  |lst l=>rfl
  |_=>
   rcases d with d|d
   .cases d
   .cases y<;>first|exact h.elim|exact ff d
 .cases x<;>first|rfl|exact ff d
theorem uK{op:Operator}{J G:RL}(ha:PE X a (tV X M R J ta))(hb:PE X b (tV X M R G tb))(h1:∀B H H' w v,Dom B H->J B H H' w v->aP X.K B H' w v)(h2:∀B H H' w v,Dom B H->G B H H' w v->aP X.K B H' w v)
 (ho:∀B H H' w v B2 g UY L Y,J B H H' w v->G B2 g UY L Y->(op=.Add/\(Jq w=true\/Jq L=true))\/(op=.Mult/\Jq w=true)):VE X M R .f (.BinOp a op b pos) (λi Q=>ta i λx=>tb i λy=>eS op x y Q):=by
 rintro j s l H Q I ⟨A,U,i,P,S,T,p,k⟩;refine wpAny_BinOp (bin ha hb I (R:=λo n g=>∃x y,eS op x y P/\ao H g/\aP X.K (FB A M l) g x o/\aP X.K (FB A M l) g y n/\D7 op x y=.f) ⟨A,U,i,_,S,T,p,λx o H1 E D O=>⟨A,U,i,_,S.same D,T,E,λy n g C q N=>⟨x,y,C,D.trans q,aP.same q (h1 _ _ _ _ _ S.dom O),h2 _ _ _ _ _ (S.same D).dom N,Jr C (ho _ _ _ _ _ _ _ _ _ _ O N)⟩⟩⟩ ?_);rintro v u q o n g I2 rv ru ⟨x,y,h,sm,E,C,em⟩;have d:=(S.same sm).dom;refine uI op j q l g (FB A M l) x y o n v u P Q I2 d rv ru E C h ?_;rw[em];exact λw z H' pw Z r=>k w z H' pw (sm.trans Z) (r.back sm λ_ z=>z)
theorem Js(j:VE X M R .s a ta):VE X M R .s (.UnaryOp .USub a pos) (λd Q=>ta d λx=>match x with|.int i=>Q (.int (-i))|_=>False):=PE.imp (M3 Iv j)<|by
 rintro q H Q ⟨A,o,d,P,S,l,p,k⟩;refine⟨A,o,d,_,S,l,p,λx r n f g h=>?_⟩;cases x with
 |int i=>exact⟨i,h.aY.int_inv,k _ _ n f g (.of (cZ _))⟩
 |_=>exact f.elim
theorem Jt(i:VE X M R .s a ta):VE X M R .s (.UnaryOp .Not a pos) (λd Q=>ta d λx=>truth x λb=>Q (.bl (!b))):=PE.imp (HY i)<|by rintro o H Q ⟨A,n,d,P,S,j,p,k⟩;refine⟨A,n,d,_,S,j,p,λx q l f g h=>?_⟩;obtain⟨b,rfl,f⟩:=bO f;exact⟨b,h.aY.lJ,k _ _ l f g (.of (t8 _))⟩
theorem Ju{op:CmpOp}(N:X.A.units+64<cLine)(O:behindInMarks op b=false)(U:VB X M R a ta)(T:VB X M R b tb):VE X M R .s (.Compare a [op] [b] pos) (λf Q=>ta f λx=>tb f λy=>eT op x y Q):=by rintro g s i H Q I ⟨A,D,f,P,S,C,p,k⟩;refine wpAny_Compare1 (bin U T I (R:=λl j d=>∃x y,eT op x y P/\ao H d/\aP X.K (FB A M i) d x l/\aP X.K (FB A M i) d y j) ⟨A,D,f,_,S,C,p,λx l H1 q B J=>⟨A,D,f,_,S.same B,C,q,λy j d o n G=>⟨x,y,o,B.trans n,aP.same n J,G⟩⟩⟩ ?_) O;rintro v u n l j d Y rv L ⟨x,y,h,sm,q,o⟩;exact uJ N op g n i d (FB A M i) x y l j v u P Q Y (S.same sm).dom rv L q o h λw z Z pw E r=>k w z Z pw (sm.trans E) (r.back sm λ_ z=>z)
theorem Jv{op:CmpOp}(hu:X.A.units+64<cLine)(hm:behindInMarks op b=false)(ha:VB X M R a ta)(hb:VB X M R b tb):VT X M R (.Compare a [op] [b] pos) (λj Q=>ta j λx=>tb j λy=>eT op x y Q):=by
 rintro d s i H Q I ⟨A,J,j,P,S,G,p,k⟩;have q:=bin ha hb I (R:=λo n g=>∃x y,eT op x y P/\ao H g/\aP X.K (FB A M i) g x o/\aP X.K (FB A M i) g y n) ⟨A,J,j,_,S,G,p,λx o H1 D B O=>⟨A,J,j,_,S.same B,G,D,λy n g C l N=>⟨x,y,C,B.trans l,aP.same l O,N⟩⟩⟩
  (f:=compareOp op) (Q:=EP X d i λz E=>∃b,z=.bl b/\Q b E)<|by rintro v u l o n g I2 rv T ⟨x,y,h,sm,D,C⟩;refine uJ hu op d l i g (FB A M i) x y o n v u _ _ I2 (S.same sm).dom rv T D C h λw z E pw L r=>?_;obtain⟨b,rfl,q⟩:=k w E pw (sm.trans L);exact⟨b,r.aY.lJ,q⟩
 refine wpAny_isTrue_Compare1 (bD q λv B q1=>bD q1 λu l Z=>bD Z λc s3 ⟨z,H3,I3,U,b,ez,Y⟩=>?_) hm;subst ez;cases U;exact Sr ⟨H3,I3,Y⟩
theorem Jw(u:VE X M R .s a ta)(r:VE X M R .s (.BoolOp .And (b::rest) pos) tb):VE X M R .s (.BoolOp .And (a::b::rest) pos) (λd Q=>ta d λx=>truth x λk=>if k=true then tb d Q else Q (.bl false)):=
 PE.imp (HX u r)<|by
  rintro B H Q ⟨A,j,d,P,S,i,h,k⟩;refine⟨A,j,d,_,S,i,h,λx D w g f o=>?_⟩;obtain⟨q,rfl,g⟩:=bO g;refine⟨q,o.aY.lJ,?_⟩;cases q with
  |true=>exact⟨A,j,d,_,S.same f,i,g,λy C v p l n=>k _ _ v p (f.trans l) (n.back f λ_ z=>z)⟩
  |false=>exact k _ _ w g f (.of (t8 _))
theorem N6(u:VE X M R .s a ta)(r:VE X M R .s (.BoolOp .Or (b::rest) pos) tb):VE X M R .s (.BoolOp .Or (a::b::rest) pos) (λd Q=>ta d λx=>truth x λk=>if k=true then Q (.bl true)else tb d Q):=
 PE.imp (MS u r)<|by
  rintro B H Q ⟨A,j,d,P,S,i,h,k⟩;refine⟨A,j,d,_,S,i,h,λx D w g f o=>?_⟩;obtain⟨q,rfl,g⟩:=bO g;refine⟨q,o.aY.lJ,?_⟩;cases q with
  |false=>exact⟨A,j,d,_,S.same f,i,g,λy C v p l n=>k _ _ v p (f.trans l) (n.back f λ_ z=>z)⟩
  |true=>exact k _ _ w g f (.of (t8 _))
abbrev GQ(X:Cx)(M:Ms)(R:Addr->Prop)(e:Expr)(t:WT):Prop:=PW X e (Td X M R t)
theorem Ec(d:VT X M R a ta):GQ X M R (.BoolOp .And [a] pos) ta:=CW d
theorem Jx(d:VT X M R a ta):GQ X M R (.BoolOp .Or [a] pos) ta:=HU d
theorem Jy(p:VT X M R a ta)(o:GQ X M R (.BoolOp .And (b::rest) pos) tb):GQ X M R (.BoolOp .And (a::b::rest) pos) (λd Q=>ta d λx=>truth x λk=>if k=true then tb d Q else Q (.bl false)):=
 PW.imp (HV p o)<|by
  rintro u H Q ⟨A,j,d,P,S,i,h,k⟩;refine⟨A,j,d,_,S,i,h,λx s f g=>?_⟩;obtain⟨q,rfl,f⟩:=bO f;refine⟨q,rfl,?_⟩;cases q with
  |true=>exact⟨A,j,d,P,S.same g,i,f,λy r n l=>k _ r n (g.trans l)⟩
  |false=>obtain⟨b,e,q⟩:=k _ s f g;cases e;exact q
theorem N7(p:VT X M R a ta)(o:GQ X M R (.BoolOp .Or (b::rest) pos) tb):GQ X M R (.BoolOp .Or (a::b::rest) pos) (λd Q=>ta d λx=>truth x λk=>if k=true then Q (.bl true)else tb d Q):=
 PW.imp (MP p o)<|by
  rintro u H Q ⟨A,j,d,P,S,i,h,k⟩;refine⟨A,j,d,_,S,i,h,λx s f g=>?_⟩;obtain⟨q,rfl,f⟩:=bO f;refine⟨q,rfl,?_⟩;cases q with
  |false=>exact⟨A,j,d,P,S.same g,i,f,λy r n l=>k _ r n (g.trans l)⟩
  |true=>obtain⟨b,e,q⟩:=k _ s f g;cases e;exact q
theorem Jz(i:VT X M R a ta):VT X M R (.UnaryOp .Not a pos) (λd Q=>ta d λx=>truth x λb=>Q (.bl (!b))):=PT.imp (HW i)<|by rintro o H Q ⟨A,n,d,P,S,j,h,k⟩;refine⟨A,n,d,_,S,j,h,λx l f g=>?_⟩;obtain⟨q,rfl,f⟩:=bO f;obtain⟨b,e,z⟩:=k _ l f g;cases e;exact⟨q,rfl,z⟩
theorem p7(he:∀d,isTrue e X.env d=(do let v<-d;standAt e.pos;holding [v] (truthy v)))(h:VE X M R .s e t):VT X M R e t:=PT.imp (HS h he)<|by rintro p H Q ⟨A,o,f,P,S,l,h,k⟩;refine⟨A,o,f,P,S,l,h,λx q n j g i=>?_⟩;obtain⟨b,rfl,z⟩:=k _ n j g;exact⟨b,i.aY.lJ,z⟩
theorem JA:VA X M R [] (λ_ Q=>Q []):=PA.imp cj<|by rintro d H Q ⟨A,i,f,P,S,g,h,k⟩;exact k [] [] H h (ao.refl H) .nil
theorem Ed{tr:Ev->(List W->Prop)->Prop}(r:starEach (a::es) X.env=(false,eval a X.env)::starEach es X.env)(v:VE X M R .s a ta)(u:VA X M R es tr):VA X M R (a::es) (λd Q=>ta d λx=>tr d λg=>Q (x::g)):=
 PA.imp (aW v u r)<|by rintro y H Q ⟨A,n,d,P,S,l,h,k⟩;refine⟨A,n,d,_,S,l,h,λx z C q j o=>⟨A,n,d,_,S.same j,l,q,λg B w f i p=>?_⟩⟩;exact k _ _ w f (j.trans i) (.cons (o.aY.same i) p)
theorem Ef:Mi X M R [] (λ_ Q=>Q []):=PA.imp cj<|by rintro d H Q ⟨A,i,f,P,S,g,h,k⟩;exact k [] [] H h (ao.refl H) rfl
theorem AQ{tr:Ev->(List W->Prop)->Prop}(u:starEach (a::es) X.env=(false,eval a X.env)::starEach es X.env)(w:VB X M R a ta)(v:Mi X M R es tr):Mi X M R (a::es) (λd Q=>ta d λx=>tr d λg=>Q (x::g)):=
 PA.imp (aW w v u)<|by rintro z H Q ⟨A,n,d,P,S,l,h,k⟩;refine⟨A,n,d,_,S,l,h,λx o B s j q=>⟨A,n,d,_,S.same j,l,s,λg p y f i r=>?_⟩⟩;exact k _ _ y f (j.trans i) ⟨o,p,rfl,aP.same i q,r⟩
theorem JB{i:Ev->(List W->Prop)->Prop}(h:VA X M R es i):VE X M R .f (.List es pos) (λd Q=>i d λg=>g.length<=sizeLine/\Q (.lst g)):=PE.imp (zS h)<|by rintro s H Q ⟨A,r,d,P,S,q,h,k⟩;refine⟨A,r,d,_,S,q,h,λg u v n j l=>?_⟩;refine⟨by rw[ai.len l];exact n.1,λp o=>?_⟩;exact k _ _ _ n.2 (j.trans (aF o _)) (.fresh j o l)
theorem JC{g:Ev->(List W->Prop)->Prop}{n:Nat}(h:VA X M R es g):VE X M R .s (.Tuple es n pos) (λd Q=>g d λf=>f.length<=sizeLine/\Q (.tup f)):=PE.imp (uu h)<|by rintro u H Q ⟨A,r,d,P,S,q,h,k⟩;refine⟨A,r,d,_,S,q,h,λf v w j o i=>?_⟩;refine⟨by rw[ai.len i];exact j.1,λp l=>?_⟩;exact k _ _ _ j.2 (o.trans (aF l _)) (.of (sr aJ (ai.same (aF l _) i)))
theorem wc{K:Frag}{B:Addr->Prop}{H:Hp}{l:List W}{vs:List V}{i:Int}{w:W}(h:ai K B H l vs)(e:jV l i=some w):∃v,jV vs i=some v/\Rep K B H w v:=by
 unfold jV at e⊢;rw[h.len];cases d:t6 l.length i with
 |none=>rw[d]at e;exact nn e
 |some j=>rw[d]at e;exact h.get e
theorem aP.eO{K:Frag}{B:Addr->Prop}{H:Hp}{ns:List Int}{v:V}(h:aP K B H (.eO ns) v):∃p,v=.ref p/\fh K H p (ns.map V.int):=by
 have h:Rep K B H (.eO ns) v:=h;obtain⟨p,e,h⟩:=h;refine⟨p,e,?_⟩;rcases h with⟨o,h⟩|h
 .exact .inl (.inr ⟨o,h⟩)
 .rcases h with(h|⟨o,h⟩)|h
  .cases h
  .cases h
  .exact .inr h
theorem we{ns:List Int}{i n:Int}(e:jV ns i=some n):jV (ns.map V.int) i=some (.int n):=by
 unfold jV at e⊢;rw[AN];cases d:t6 ns.length i with
 |none=>rw[d]at e;exact nn e
 |some j=>rw[d]at e;show(ns.map V.int)[j]?=_;have e:ns[j]?=some n:=e;rw[FK,e];rfl
theorem N8(J:iB b)(L:VB X M R a ta)(K:VE X M R .s b tb):VE X M R .s (.Subscript a b pos) (λf Q=>ta f λx=>tb f λy=>GN x y Q):=PE.imp (zX uv L K J)<|by
 rintro N H Q ⟨A,G,f,P,S,E,h,k⟩;refine⟨A,G,f,_,S,E,h,λx T Y I q g=>⟨A,G,f,_,S.same q,E,I,λy O D d o u=>?_⟩⟩;have g:=aP.same o g;cases x with
 |lst l=>
  cases y with
  |int i=>obtain⟨p,r,rfl,j,B⟩:=g.lst;obtain⟨w,e,d⟩:=d;obtain⟨v,C,z⟩:=wc B e;exact .inl ⟨p,r,i,v,rfl,u.aY.int_inv,.inl j,C,k _ _ D d (q.trans o) (.of z)⟩
  |_=>exact d.elim
 |tup l=>
  cases y with
  |int i=>obtain⟨p,r,rfl,j,B⟩:=g.tup;obtain⟨w,e,d⟩:=d;obtain⟨v,C,z⟩:=wc B e;exact .inr (.inl ⟨p,r,i,v,rfl,u.aY.int_inv,j,C,k _ _ D d (q.trans o) (.of z)⟩)
  |_=>exact d.elim
 |eO U=>
  cases y with
  |int i=>obtain⟨p,rfl,j⟩:=g.eO;obtain⟨n,e,d⟩:=d;exact .inl ⟨p,_,i,_,rfl,u.aY.int_inv,j,we e,k _ _ D d (q.trans o) (.of (cZ _))⟩
  |_=>exact d.elim
 |_=>exact d.elim
theorem GR{K:Frag}{B:Addr->Prop}{H:Hp}{l:List W}{vs:List V}(h:ai K B H l vs)(d f:Option Int):ai K B H (gS l d f) (yb vs d f):=by unfold gS yb;rw[h.len];exact(h.drop _).take _
noncomputable def N9(X:Cx)(M:Ms)(R:Addr->Prop)(t:Ev->(Option Int->Prop)->Prop):TO:=λh H Q=>∃A f d P,SR X.K M A f h H d/\ER X f R/\t d P/\∀o g,P o->ao H g->Q o g
theorem PO.imp{e:Option Expr}{t t':TO}(h:PO X e t)(k:∀d H Q,t' d H Q->t d H Q):PO X e t':=λf s d H Q I w=>h f s d H Q I (k d H Q w)
theorem Eg:PO X none (N9 X M R λ_ Q=>Q none):=PO.imp Di<|by rintro d H Q ⟨A,i,f,P,S,g,h,k⟩;exact k none H h (ao.refl H)
theorem Eh(l:VE X M R .s a ta):PO X (some a) (N9 X M R λd Q=>ta d λy=>match y with|.int i=>Q (some i)|_=>False):=PO.imp (Dj l)<|by
 rintro q H Q ⟨A,p,d,P,S,n,h,k⟩;refine⟨A,p,d,_,S,n,h,λx r o f g j=>?_⟩;cases x with
 |int i=>exact⟨i,j.aY.int_inv,k _ o f g⟩
 |_=>exact f.elim
theorem Oa{B C:Option Expr}{p2:Pos}{y z:Ev->(Option Int->Prop)->Prop}(I:VB X M R a ta)(s:PO X B (N9 X M R y))(o:PO X C (N9 X M R z)):VE X M R .f (.Subscript a (.Slice B C none p2) pos) (λd Q=>ta d λx=>y d λl=>z d λh=>Qn x l h Q):=
 PE.imp (zW Dr I s o)<|by
  rintro K H Q ⟨A,w,d,P,S,v,h,k⟩;refine⟨A,w,d,_,S,v,h,λx N U G i r=>⟨A,w,d,_,S.same i,v,G,λl T s g=>⟨A,w,d,_,S.same (i.trans g),v,s,λh O o j=>?_⟩⟩⟩;have r:=aP.same (g.trans j) r;cases x with
  |lst L=>obtain⟨p,D,rfl,u,J⟩:=r.lst;refine⟨p,D,rfl,.inl u,λq n=>?_⟩;exact k _ _ _ o (((i.trans g).trans j).trans (aF n _)) (.fresh ((i.trans g).trans j) n (GR J l h))
  |eO E=>obtain⟨p,rfl,u⟩:=r.eO;refine⟨p,_,rfl,u,λq n=>?_⟩;exact k _ _ _ o (((i.trans g).trans j).trans (aF n _)) (.fresh ((i.trans g).trans j) n (GR (ai.DX E) l h))
  |_=>exact o.elim
noncomputable def Ob:BI->Md
 |.list=>.f
 |_=>.s
noncomputable def eU(X:Cx)(f:Value)(b:BI):Prop:=
 ∀(d:List (Addr×Obj))(s:Shared)(g:St)(H:Hp)(B:Addr->Prop)(h:List W)(i:List V)(j:List Value)(P:KP)(Q:VK),Inv X d g H s->Dom B H->Vals i j->jM X.K B H h i->ni b h P->Cont X.K B H (Ob b) P Q->
  wpAny (model X.prog X.w) X.A (call f j) (EP X d g Q) X.xe s
noncomputable def JD(K:Frag)(b:BI):List V->Hp->VK->Prop:=λf H Q=>∃(B:Addr->Prop)(d:List W)(P:KP),Dom B H/\jM K B H d f/\ni b d P/\Cont K B H (Ob b) P Q
theorem eU.r{f:Value}{b:BI}(h:eU X f b):bG X f (JD X.K b):=by rintro g s i H l n Q I r ⟨B,j,P,d,p,o,k⟩;exact h g s i H B j l n P Q I d r p o k
theorem dG{K:Frag}{B:Addr->Prop}{H:Hp}{w:W}{vs:List V}(h:jM K B H [w] vs):∃v,vs=[v]/\aP K B H w v:=by obtain⟨v,r,rfl,f,d⟩:=h;cases(show r=[]from d);exact⟨v,rfl,f⟩
theorem wg{K:Frag}{B:Addr->Prop}{H:Hp}{w f:W}{vs:List V}(h:jM K B H [w,f] vs):∃v d,vs=[v,d]/\aP K B H w v/\aP K B H f d:=by obtain⟨v,r,rfl,j,i⟩:=h;obtain⟨d,rfl,g⟩:=dG i;exact⟨v,d,rfl,j,g⟩
theorem cw_len:eU X (.builtin "len") .len:=by
 intro f s k H B q u n P Q I d r o h c
 match q,h with
 |[.lst l],h=>obtain⟨v,rfl,g⟩:=dG o;obtain⟨p,i,rfl,g,j⟩:=g.lst;exact fu f s k H _ n Q I r ⟨p,i,rfl,.inl (.inl g),c.now (w:=.int i.length) (by rw[j.len];exact h) (cZ _)⟩
 |[.tup l],h=>obtain⟨v,rfl,g⟩:=dG o;obtain⟨p,i,rfl,g,j⟩:=g.tup;exact fu f s k H _ n Q I r ⟨p,i,rfl,.inr g,c.now (w:=.int i.length) (by rw[j.len];exact h) (cZ _)⟩
 |[.eO ns],h=>obtain⟨v,rfl,g⟩:=dG o;obtain⟨p,rfl,j⟩:=g.eO;exact fu f s k H _ n Q I r ⟨p,_,rfl,.inl j,c.now (w:=.int ns.length) h (by rw[AN];exact cZ _)⟩
theorem cw_abs:eU X (.builtin "abs") .abs:=by
 intro f s g H B j o k P Q I d r l h c
 match j,h with
 |[.int i],h=>obtain⟨v,rfl,n⟩:=dG l;cases n.int;exact zP f s g H _ k Q I r ⟨i,rfl,c.now h (cZ _)⟩
theorem cw_max(q:X.calm=true):eU X (.builtin "max") .max2:=by
 intro f s n H B w D o P Q I d r u h c
 match w,h with
 |[.int i,.int j],h=>obtain⟨v,E,rfl,g,k⟩:=wg u;cases g.int;cases k.int;exact xW q f s n H _ o Q I r ⟨i,j,rfl,c.now h (cZ _)⟩
 |[.lst l],h=>obtain⟨x,rfl,y,h⟩:=h;obtain⟨v,rfl,g⟩:=dG u;obtain⟨p,C,rfl,g,k⟩:=g.lst;have e:=ai.ints k;subst e;exact yr q f s n H _ o Q I r ⟨p,x,rfl,.inl g,y,λm A z=>c.now (h m A z) (cZ _)⟩
theorem cw_dvm:eU X (.builtin "divmod") .Ql:=by
 intro f s g H B k w l P Q I d r o h c
 match k,h with
 |[.int i,.int j],h=>obtain⟨v,x,rfl,u,p⟩:=wg o;cases u.int;cases p.int;exact rJ f s g H _ l Q I r ⟨i,j,rfl,h.1,λq n=>c _ _ _ h.2 (aF n _) (.of (sr aJ (.cons (cZ _) (.cons (cZ _) .nil))))⟩
theorem cw_min(q:X.calm=true):eU X (.builtin "min") .min2:=by
 intro f s n H B w D o P Q I d r u h c
 match w,h with
 |[.int i,.int j],h=>obtain⟨v,E,rfl,g,k⟩:=wg u;cases g.int;cases k.int;exact xX q f s n H _ o Q I r ⟨i,j,rfl,c.now h (cZ _)⟩
 |[.lst l],h=>obtain⟨x,rfl,y,h⟩:=h;obtain⟨v,rfl,g⟩:=dG u;obtain⟨p,C,rfl,g,k⟩:=g.lst;have e:=ai.ints k;subst e;exact yq q f s n H _ o Q I r ⟨p,x,rfl,.inl g,y,λm A z=>c.now (h m A z) (cZ _)⟩
theorem cw_sum(o:X.calm=true):eU X (.builtin "sum") .sum:=by
 intro f s i H B j x k P Q I d r q h c
 match j,h with
 |[.lst l],h=>obtain⟨n,rfl,h⟩:=h;obtain⟨v,rfl,g⟩:=dG q;obtain⟨p,w,rfl,g,u⟩:=g.lst;have e:=ai.ints u;subst e;exact yi o f s i H _ k Q I r ⟨p,n,rfl,.inl g,c.now h (cZ _)⟩
theorem cw_all(n:X.calm=true):eU X (.builtin "all") .all:=by
 intro f s i H B j x k P Q I d r o h c
 match j,h with
 |[.lst l],h=>obtain⟨u,rfl,h⟩:=h;obtain⟨v,rfl,g⟩:=dG o;obtain⟨p,w,rfl,g,q⟩:=g.lst;have e:=ai.S7 q;subst e;exact yj n f s i H _ k Q I r ⟨p,u,rfl,.inl g,c.now h (t8 _)⟩
theorem cw_any(n:X.calm=true):eU X (.builtin "any") .any:=by
 intro f s i H B j x k P Q I d r o h c
 match j,h with
 |[.lst l],h=>obtain⟨u,rfl,h⟩:=h;obtain⟨v,rfl,g⟩:=dG o;obtain⟨p,w,rfl,g,q⟩:=g.lst;have e:=ai.S7 q;subst e;exact yv n f s i H _ k Q I r ⟨p,u,rfl,.inl g,c.now h (t8 _)⟩
theorem cw_list:eU X (.type "list") .list:=by
 intro f s n H B w x o P Q I d r u h c
 match w,h with
 |[.lst l],h=>obtain⟨v,rfl,g⟩:=dG u;obtain⟨p,j,rfl,g,k⟩:=g.lst;exact iC f s n H _ o Q I r ⟨p,j,rfl,.inl (.inl g),λq i=>c _ _ _ h (aF i _) (.fresh (ao.refl H) i k)⟩
 |[.tup l],h=>obtain⟨v,rfl,g⟩:=dG u;obtain⟨p,j,rfl,g,k⟩:=g.tup;exact iC f s n H _ o Q I r ⟨p,j,rfl,.inr g,λq i=>c _ _ _ h (aF i _) (.fresh (ao.refl H) i k)⟩
theorem cw_int:eU X (.type "int") .int:=by
 intro f s g H B j o k P Q I d r l h c
 match j,h with
 |[.bl i],h=>obtain⟨v,rfl,n⟩:=dG l;cases n.bl;exact xY f s g H _ k Q I r (.inr ⟨i,rfl,c.now h (cZ _)⟩)
theorem cw_tuple:eU X (.type "tuple") .tuple:=by
 intro f s k H B x y n P Q I d r u h c
 match x,h with
 |[.lst l],h=>obtain⟨v,rfl,g⟩:=dG u;obtain⟨p,i,rfl,g,j⟩:=g.lst;exact gG f s k H _ n Q I r ⟨p,i,rfl,.inl ⟨.inl g,λq o=>c _ _ _ h (aF o _) (.of (sr aJ (ai.same (aF o _) j)))⟩⟩
 |[.tup l],h=>obtain⟨v,rfl,g⟩:=dG u;obtain⟨p,i,rfl,w,j⟩:=g.NW;have g:g8 X.K H p i:=g8.of w;exact gG f s k H _ n Q I r ⟨p,i,rfl,.inr ⟨g,c.now h (sr w j)⟩⟩
noncomputable def sC(K:Frag):Prop:=∀a∈["NoneType","bool","int","str","list","tuple"],∀b∈["int","bool","tuple","list","str","dict"],kitOne K (.type a) (.type b)=some (AH a b)
theorem cw_isi(O:sC X.K):bG X (.builtin "isinstance") (λvs H Q=>∃(B:Addr->Prop)(w:W)(n:String)(P:KP),n∈["int","bool","tuple","list","str","dict"]/\jM X.K B H [w,.ty n] vs/\ni .CL [w,.ty n] P/\Cont X.K B H .s P Q):=by
 rintro q s A H vs us Q I r ⟨B,w,n,P,N,S,h,c⟩;obtain⟨v,Z,rfl,k,T⟩:=wg S;cases T.ty;obtain⟨a,i,h⟩:=h;have x:Q (.bl (AH a n)) H:=c.now h (t8 _);obtain⟨E,D,rfl,d,G⟩:=vals2 r;cases(show D=Value.type n from G);have g:∀u,u∈["NoneType","bool","int","str","list","tuple"]->a=u->kitOne X.K (.type u) (.type n)=some (AH a n):=λu m e=>by rw[e];exact O u m n N
 have j:∀y:Tok,EP X q A Q (.bool (AH a n)) {s with toks:=y}:=λy=>⟨.bl _,H,I.tok _,rfl,x⟩;cases w with
 |aL=>
  cases k.aL;cases i;exact dh I d .aL (g _ (by simp) rfl) j
 |bl b=>
  cases k.bl;cases i;exact dh I d (.bl b) (g _ (by simp) rfl) j
 |int b=>
  cases k.int;cases i;exact dh I d (.int b) (g _ (by simp) rfl) j
 |str b=>
  cases k.str;cases i;exact dh I d (.str b) (g _ (by simp) rfl) j
 |lst l=>
  obtain⟨p,C,rfl,f,J⟩:=k.lst;cases i;rcases f with f|⟨o,f⟩
  .exact dh I d (.lst f) (g _ (by simp) rfl) j
  .exact dh I d (.rD f) (g _ (by simp) rfl) j
 |tup l=>obtain⟨p,C,rfl,f,J⟩:=k.tup;cases i;cases(show E=Value.ref p from d);obtain⟨L,r',⟨o,Y,U,_⟩,_⟩:=I.tuple f;exact P2 PySem.W.kitx_tuple I.kG ⟨o,Y,U⟩ (g _ (by simp) rfl) (λz=>nomatch z) j
 |_=>exact nn i
end
noncomputable def wj(K:Frag)(n:Nat)(m:Md)(sp:bf):Sp:=λc H Q E=>∃A a P R,a.length=n/\ai K A H a c/\Dom A H/\sp a P R/\Cont K A H m P Q/\∀C b,R C->ao H b->E (.ref C) none b
noncomputable def UZ(K:Frag)(n:Nat)(g:Md)(sp:bf):Sp:=λh H Q E=>∃(ab:Addr->Prop)(F:List Addr)(f:W)(e:V)(d:List W)(b:List V)(P:W->Prop)(R:Addr->Prop),h=e::b/\d.length+1=n/\F.Nodup/\(∀p∈F,¬ab p)/\Dom ab H/\Fp K (λp=>ab p\/p∈F) H g f e F/\ai K (λp=>ab p\/p∈F) H d b/\sp (f::d) P R/\
 (∀w y v c a,P (.tup [w,y])->sj (·∈F) H a->c.Nodup->(∀p∈c,p∈F\/H p=none)->Fp K (λp=>ab p\/p∈c) a g y e c->Rep K (λp=>ab p\/p∈c) a w v->Q v a)/\(∀C a,R C->sj (·∈F) H a->E (.ref C) none a)
noncomputable def uL(K:Frag)(n:Nat)(m:Md)(sp:bf):Sp:=
 match m with
 |.io a=>UZ K n a sp
 |m=>wj K n m sp
inductive cP(P:Program)(w:World)(K:Frag)(mg:Str->Option Value)(base:Heap):Nat->Value->Nat->Sp->Prop where
 |fn {k:Nat} {f:Addr} {fd:FuncData} {ps:List Str} {sp:Sp} (kp:keepIn K (.ref f)=true) (b:Binds K fd ps []) (F:bK P w K mg base (ji P w) k f fd ps sp):cP P w K mg base k (.ref f) ps.length sp
 |mk {k n:Nat} {C f:Addr} {fd:FuncData} {ps:List Str} {sp Tf:Sp} (M:Mk K C f) (b:Binds K fd ps []) (F:bK P w K mg base (ji P w) k f fd ps Tf)
  (h:∀vs H Q E,sp vs H Q E->∀x dx,H x=none->H dx=none->dx≠x->Tf (.ref x::vs) (upd (upd H dx (.own x)) x (.ins C dx [])) (λv H2=>v=.aL/\Q (.ref x) H2) E):cP P w K mg base (k+1) (.ref C) n sp
theorem cP.keep{P:Program}{w:World}{K:Frag}{b:Str->Option Value}{base:Heap}{k n:Nat}{a:Value}{sp:Sp}(c:cP P w K b base k a n sp):keepIn K a=true:=by
 cases c with
 |fn kp _ _=>exact kp
 |mk M _ _ _=>exact M.kp
theorem cP.run{X:Cx}{k n:Nat}{i:Value}{sp:Sp}{a:List (Addr×Obj)}{d:St}{H:Hp}{s:Shared}{Q:VK}{E:XK}{e:List Value}{vs:List V}(c:cP X.prog X.w X.K X.mg X.base k i n sp)(g:bX k X.A)(f:Passes (ji X.prog X.w) X E)(I:Inv X a d H s)(r:Vals vs e)(h:sp vs H Q E):
 wpAny (model X.prog X.w) X.A (call i e) (EP X a d Q) X.xe s:=by
 cases c with
 |fn q b F=>exact IC (ds:=[]) (C9:=[]) F g b .nil f I r (by rw[Qb];exact h)
 |mk M b F l=>exact zT (ds:=[]) (C9:=[]) M F g b .nil f I r (λx p o m j=>by rw[Qb];exact l vs H Q E h x p o m j)
section
variable{X:Cx}{M:Ms}{R:Addr->Prop}{e a b c:Expr}{t ta tb tc:WT}{m:Md}{pos p:Pos}{es:List Expr}{x:Str}
theorem wk{G:Ev->(List W->Prop)->Prop}{k n:Nat}{O:Value}{sp:bf}(F:cP X.prog X.w X.K X.mg X.base k O n (wj X.K n m sp))(hr:bX k X.A)(hg:Gl X x)(hm:X.mg x=some O)
 (hn:∀d P R,sp d P R->d.length=n)(ha:VA X M R (e::es) G)(y:(x==("__debug__":Str))=false)(he:starEach (e::es) X.env=(false,eval e X.env)::starEach es X.env)(u:(backTo pos (starEach es X.env)).any (·.1)=false):
 VE X M R m (.Call (.Name x p) (e::es) [] pos) (λj Q=>G j λd=>sp d Q R):=by
 rintro f s i H Q I ⟨A,H0,j,P,S,er,h,Y⟩;obtain⟨E,L,N,hR⟩:=er;refine W5 (oS I hg hm ?_ y);refine PySem.W.callWith_K (h₀:=X.base) I.ok.mod.P7 F.keep (bD (ha pos f s i H (λl g=>∃d,ao H g/\ai X.K (FB A M i) g d l/\sp d P R) I ⟨A,H0,j,_,S,⟨E,L,N,hR⟩,h,λd l g Z J q=>⟨d,J,q,Z⟩⟩) λus J ⟨l,g,I1,r,d,sm,q,D⟩=>⟨I1.kG,?_⟩) he u;exact F.run hr L I1 r ⟨FB A M i,d,P,R,hn _ _ _ D,q,(S.same sm).dom,D,λw v B pw o U=>Y w v B pw (sm.trans o) (U.back sm λ_ z=>z),λC B T o=>N C B T (S.sm.trans (sm.trans o))⟩
theorem JE{n:Ev->(List W->Prop)->Prop}{l:BI}{o:String}(G:bG X (.builtin o) (JD X.K l))(E:Gl X x)(D:X.mg x=none)(B:bootBuiltins x=some (.builtin o))(I:Mi X M R (e::es) n)(C:x≠"__name__")(j:(x==("__debug__":Str))=false)
 (he:starEach (e::es) X.env=(false,eval e X.env)::starEach es X.env)(i:(backTo pos (starEach es X.env)).any (·.1)=false):VE X M R (Ob l) (.Call (.Name x p) (e::es) [] pos) (λd Q=>n d λf=>ni l f Q):=
 PE.imp (iA G E D B I C j he i)<|by rintro q H Q ⟨A,L,d,P,S,J,h,k⟩;exact⟨A,L,d,_,S,J,h,λf O T y g u=>⟨FB A M q,f,P,(S.same g).dom,u,y,λw v N pw s r=>k w v N pw (g.trans s) (r.back g λ_ z=>z)⟩⟩
theorem JF{n:Ev->(List W->Prop)->Prop}{l:BI}{o:String}(G:bG X (.type o) (JD X.K l))(E:Gl X x)(D:X.mg x=none)(B:bootBuiltins x=some (.type o))(I:Mi X M R (e::es) n)(C:x≠"__name__")(j:(x==("__debug__":Str))=false)
 (he:starEach (e::es) X.env=(false,eval e X.env)::starEach es X.env)(i:(backTo pos (starEach es X.env)).any (·.1)=false):VE X M R (Ob l) (.Call (.Name x p) (e::es) [] pos) (λd Q=>n d λf=>ni l f Q):=
 PE.imp (nV G E D B I C j he i)<|by rintro q H Q ⟨A,L,d,P,S,J,h,k⟩;exact⟨A,L,d,_,S,J,h,λf O T y g u=>⟨FB A M q,f,P,(S.same g).dom,u,y,λw v N pw s r=>k w v N pw (g.trans s) (r.back g λ_ z=>z)⟩⟩
theorem JG{n:String}(U:sC X.K)(j:n∈["int","bool","tuple","list","str","dict"])(Y:Gl X x)(T:X.mg x=none)(N:bootBuiltins x=some (.builtin "isinstance"))(ha:VB X M R a ta)(Z:VB X M R b (λ_ Q=>Q (.ty n)))(O:x≠"__name__")(l:(x==("__debug__":Str))=false)
 (he:starEach [a,b] X.env=(false,eval a X.env)::starEach [b] X.env)(U0:starEach [b] X.env=(false,eval b X.env)::starEach [] X.env)(i:(backTo pos (starEach [b] X.env)).any (·.1)=false):
 VE X M R .s (.Call (.Name x p) [a,b] [] pos) (λd Q=>ta d λw=>ni .CL [w,.ty n] Q):=
 PE.imp (iA (cw_isi U) Y T N (aW ha (aW Z cj U0) he) O l he i)<|by rintro B H Q ⟨A,y,d,P,S,u,h,k⟩;refine⟨A,y,d,_,S,u,h,λw v H1 L g J=>⟨A,y,d,λo=>o=.ty n,S.same g,u,rfl,λo q H2 E f I=>?_⟩⟩;subst E;exact⟨FB A M B,w,n,P,j,⟨v,[q],rfl,aP.same f J,q,[],rfl,I,rfl⟩,L,λC D H' pw G r=>k C D H' pw ((g.trans f).trans G) (r.back (g.trans f) λ_ z=>z)⟩
end
inductive yz(K:Frag)(br:Bool)(B:Addr->Prop)(H:Hp):It->List W->Prop where
 |lst {a:Addr} {vs:List V} {ws:List W} (h:Rd H a (.lst vs)) (n:br=false->¬B a) (r:ai K B H ws vs):yz K br B H (QW K a) ws
 |tup {a:Addr} {vs:List V} {ws:List W} (h:g8 K H a vs) (r:ai K B H ws vs):yz K br B H (QX K a) ws
 |jb (lo:Int) (n:Nat):yz K br B H (MZ lo n) (cY lo 1 n)
 |Ei (lo st:Int) (n:Nat):yz K br B H (Qj lo st n) (cY lo st n)
 |pR {a:Addr} {vs:List V} {ws:List W} (h:Rd H a (.lst vs)) (n:br=false->¬B a) (r:ai K B H ws vs):yz K br B H (RA K a) (fO ws)
 |rev {a:Addr} {vs:List V} {ws:List W} (h:Rd H a (.lst vs)) (n:br=false->¬B a) (r:ai K B H ws vs):yz K br B H (RC K a vs.length) ws.reverse
structure IW(K:Frag)(B:Addr->Prop)(Hs:Hp)(J:It)(ws:List W):Prop where
 go:∀i H,ao Hs H->i<ws.length->J.go i H
 yl:∀i H x H' w,ao Hs H->ws[i]?=some w->J.MY i H x H'->ao H H'/\∀B':Addr->Prop,(∀p o,Hs p=some o->B' p->B p)->Rep K B' H' w x
 st:∀i H,ao Hs H->i=ws.length->J.stop i H
theorem iJ(a st:Int)(n:Nat):(cY a st n).length=n:=by unfold cY;simp
theorem sD{b st:Int}{n i:Nat}{w:W}(h:(cY b st n)[i]?=some w):w=.int (b+i*st)/\i<n:=by
 unfold cY at h;rw[FK]at h;by_cases a:i<n
 .rw[PQ a]at h;cases h;exact⟨rfl,a⟩
 .rw[FR (by simpa using a)]at h;cases h
theorem oh(l:List W):(fO l).length=l.length:=by unfold fO;simp
theorem jo{l:List W}{i:Nat}{w:W}(h:(fO l)[i]?=some w):∃x,l[i]?=some x/\w=.tup [.int i,x]:=by
 unfold fO at h;rw[List.getElem?_zipWith]at h;by_cases a:i<l.length
 .rw[PQ a,B1 a]at h;cases h;exact⟨_,B1 a,rfl⟩
 .rw[FR (by simpa using a)]at h;cases h
theorem yz.iw{K:Frag}{br:Bool}{B:Addr->Prop}{k:Hp}{J:It}{l:List W}(h:yz K br B k J l):IW K B k J l:=by
 cases h with
 |@lst a c _ h n r=>
  have q:∀H,ao k H->fh K H a c:=λH s=>.inl (VL.ao.rd s h);refine⟨λi H s b=>?_,λi H x m w s d y=>?_,λi H s b=>⟨c,q H s,by rw[r.len,b];exact BM _⟩⟩
  .have f:i<c.length:=by rw[r.len];exact b
   exact⟨c,c[i],q H s,B1 f⟩
  .obtain⟨rfl,y⟩:=y;obtain⟨v,e,g⟩:=r.get d;have:=y c (q _ s);rw[e]at this;cases this;exact⟨ao.refl _,λo j=>Rep.mv s j w g⟩
 |@tup a c _ h r=>
  have q:∀H,ao k H->g8 K H a c:=λH s=>L2.ao.tup s h;refine⟨λi H s b=>?_,λi H x m w s d y=>?_,λi H s b=>⟨c,q H s,by rw[r.len,b];exact BM _⟩⟩
  .have f:i<c.length:=by rw[r.len];exact b
   exact⟨c,c[i],q H s,B1 f⟩
  .obtain⟨rfl,y⟩:=y;obtain⟨v,e,g⟩:=r.get d;have:=y c (q _ s);rw[e]at this;cases this;exact⟨ao.refl _,λo j=>Rep.mv s j w g⟩
 |jb C n=>refine⟨λi H s b=>by rw[iJ]at b;exact b,λi H x m w s d y=>?_,λi H s b=>by rw[iJ]at b;exact WA b.symm⟩;obtain⟨rfl,rfl⟩:=y;obtain⟨rfl,_⟩:=sD d;exact⟨ao.refl _,λo _=>by rw[SQ];exact cZ _⟩
 |Ei C I n=>refine⟨λi H s b=>by rw[iJ]at b;exact b,λi H x m w s d y=>?_,λi H s b=>by rw[iJ]at b;exact WA b.symm⟩;obtain⟨rfl,rfl⟩:=y;obtain⟨rfl,_⟩:=sD d;exact⟨ao.refl _,λo _=>cZ _⟩
 |@pR a c l h n r=>
  have q:∀H,ao k H->fh K H a c:=λH s=>.inl (VL.ao.rd s h);refine⟨λi H s b=>?_,λi H x m w s d y=>?_,λi H s b=>⟨c,q H s,by rw[r.len,b,oh]⟩⟩
  .rw[oh]at b;have f:i<c.length:=by rw[r.len];exact b
   exact⟨c,c[i],q H s,B1 f⟩
  .obtain⟨p,y,E,rfl,rfl,D⟩:=y;obtain⟨A,G,rfl⟩:=jo d;obtain⟨v,e,g⟩:=r.get G;have z:=D c (q _ s);rw[e]at z;obtain rfl:v=y:=Hk z;have u:=aF (H:=H) E (.tup [.int i,v]);exact⟨u,λo j=>sr aJ (.cons (cZ _) (.cons (Rep.mv (s.trans u) j A g) .nil))⟩
 |@rev a c l h n r=>
  have q:∀H,ao k H->fh K H a c:=λH s=>.inl (VL.ao.rd s h);have t:=r.len;refine⟨λi H s b=>?_,λi H x m w s d y=>?_,λi H s b=>?_⟩
  .rw[WB]at b;exact⟨c,q H s,rfl,by rw[t];exact b⟩
  .obtain⟨rfl,y⟩:=y;have b:i<l.length:=by have:=(FM.mp d).1;rwa [WB]at this
   rw[U3 b]at d;obtain⟨v,e,g⟩:=r.get d;have:=y c (q _ s) rfl;rw[t,e]at this;cases this;exact⟨ao.refl _,λo j=>Rep.mv s j w g⟩
  .rw[WB]at b;show i=c.length;rw[t,b]
noncomputable def itemsOf:W->Option (List W)
 |.lst l=>some l
 |.tup l=>some l
 |_=>none
theorem oi{z:W}{Q:List W->Prop}:items z Q↔∃a,itemsOf z=some a/\Q a:=by
 cases z<;>simp[items,itemsOf]
noncomputable def AR(X:Cx)(M:Ms)(R:Addr->Prop)(br:Bool)(t:WT):TI:=λb H Q=>∃A e c P,SR X.K M A e b H c/\ER X e R/\t c P/\∀z,P z->∃d,itemsOf z=some d/\∀J a,ao H a->yz X.K br (FB A M b) a J d->Q J a
theorem PI.imp{X:Cx}{tg e:Expr}{t t':TI}(h:PI X tg e t)(k:∀a H Q,t' a H Q->t a H Q):PI X tg e t':=λb s a H Q I w=>h b s a H Q I (k a H Q w)
section
variable{X:Cx}{M:Ms}{R:Addr->Prop}{e a b c tg:Expr}{t ta tb tc:WT}{m:Md}{pos p:Pos}{es:List Expr}{x:Str}{br:Bool}
theorem JH{l:Expr}{u:TE}(z:PE X l u):PI X tg l (λk H Q=>u k H λx f=>∃a,x=.ref a/\(((∃g,fh X.K f a g)/\Q (QW X.K a) f)\/((∃g,g8 X.K f a g)/\Q (QX X.K a) f))):=by
 intro i s k H Q I h;refine bD (z i s k H _ I h) ?_;rintro v d ⟨x,f,I1,w,y⟩;obtain⟨a,e,q⟩:=y;subst e;cases w;rcases q with⟨⟨g,n⟩,q⟩|⟨⟨g,n⟩,q⟩
 .obtain⟨j,rv,p,hz⟩:=I1.list n;refine wpAny_pyIter_list p.isList ?_;refine⟨d.heap.objs.size,[d.heap.objs.size],_,_,f,rfl,I1.kept (t':=d.toks) λb o e=>D1 _ e,xR a _,⟨_,Fn _ rfl,rfl,rfl⟩,λb r=>?_,q⟩;have e:b=d.heap.objs.size:=by simpa using r
  subst e;exact I1.m6 (BM _) (I1.hok.fresh (BM _))
 .obtain⟨j,rv,p,hz⟩:=I1.tuple n;refine wpAny_pyIter_tuple (show d.heap.IsTuple a j.toArray from p) ?_;refine⟨d.heap.objs.size,[d.heap.objs.size],_,_,f,rfl,I1.kept (t':=d.toks) λb o e=>D1 _ e,ue a _,⟨_,Fn _ rfl,rfl,rfl⟩,λb r=>?_,q⟩;have e:b=d.heap.objs.size:=by simpa using r
  subst e;exact I1.m6 (BM _) (I1.hok.fresh (BM _))
noncomputable def JI(K:Frag)(br:Bool):RL:=λB _ d w v=>aP K B d w v/\(br=false->Rep K B d w v)
theorem iK(h:VE X M R m e t):PE X e (tV X M R (JI X.K br) t):=PE.imp h<|by rintro j H Q ⟨A,g,d,P,S,f,p,k⟩;exact⟨A,g,d,P,S,f,p,λw v i pw s r=>k w v i pw s ⟨(r.rep S.dom).b,λ_=>r.rep S.dom⟩⟩
theorem Oc(h:VB X M R e t):PE X e (tV X M R (JI X.K true) t):=PE.imp h<|by rintro j H Q ⟨A,g,d,P,S,f,p,k⟩;exact⟨A,g,d,P,S,f,p,λw v i pw s r=>k w v i pw s ⟨r,λz=>by cases z⟩⟩
theorem JI.lst{K:Frag}{B:Addr->Prop}{H H':Hp}{l:List W}{v:V}(h:JI K br B H H' (.lst l) v):∃p vs,v=.ref p/\Rd H' p (.lst vs)/\(br=false->¬B p)/\ai K B H' l vs:=by obtain⟨p,vs,rfl,f,d⟩:=h.1.lst;refine⟨p,vs,rfl,f,λe=>?_,d⟩;have:=h.2 e;obtain⟨i,_,g,n,_⟩:=this;cases g;exact n
theorem fz(r:PE X a (tV X M R (JI X.K br) ta)):PI X tg a (AR X M R br ta):=PI.imp (JH r)<|by
 rintro y H Q ⟨A,w,q,P,S,u,h,k⟩;refine⟨A,w,q,P,S,u,h,λz v o hz j n=>?_⟩;obtain⟨B,g,k⟩:=k z hz;cases z with
 |lst l=>
  cases g;obtain⟨p,f,rfl,d,i,s⟩:=n.lst;exact⟨p,rfl,.inl ⟨⟨f,.inl d⟩,k _ o j (.lst d i s)⟩⟩
 |tup l=>
  cases g;obtain⟨p,f,rfl,d,i⟩:=n.1.tup;exact⟨p,rfl,.inr ⟨⟨f,d⟩,k _ o j (.tup d i)⟩⟩
 |_=>exact nn g
theorem JJ{d:List Expr}{r:Nat}{n:Pos}(w:Gl X "enumerate")(s:X.mg "enumerate"=none)(y:PE X a (tV X M R (JI X.K br) ta))(g:starEach [a] X.env=(false,eval a X.env)::starEach [] X.env):
 PI X (.Tuple d r n) (.Call (.Name "enumerate" p) [a] [] pos) (AR X M R br (λf Q=>ta f λx=>match x with|.lst l=>Q (.lst (fO l))|_=>False)):=
 PI.imp (DR w s (aW y cj g) rfl g)<|by
  rintro I H Q ⟨A,G,f,P,S,D,h,k⟩;refine⟨A,G,f,_,S,D,h,λz v E hz o q=>?_⟩;cases z with
  |lst l=>obtain⟨J,u,k⟩:=k _ hz;cases u;obtain⟨p,j,rfl,i,C,B⟩:=q.lst;exact⟨p,rfl,⟨j,.inl i⟩,k _ E o (.pR i C B)⟩
  |_=>exact hz.elim
theorem JK(r:Gl X "reversed")(o:X.mg "reversed"=none)(s:PE X a (tV X M R (JI X.K br) ta))(f:starEach [a] X.env=(false,eval a X.env)::starEach [] X.env):
 PI X tg (.Call (.Name "reversed" p) [a] [] pos) (AR X M R br (λd Q=>ta d λx=>match x with|.lst l=>Q (.lst l.reverse)|_=>False)):=
 PI.imp (Je r o (aW s cj f) rfl f)<|by
  rintro D H Q ⟨A,C,d,P,S,y,h,k⟩;refine⟨A,C,d,_,S,y,h,λz v B hz j n=>?_⟩;cases z with
  |lst l=>obtain⟨E,q,k⟩:=k _ hz;cases q;obtain⟨p,i,rfl,g,w,u⟩:=n.lst;exact⟨p,i,rfl,.inl g,k _ B j (.rev g w u)⟩
  |_=>exact hz.elim
theorem Ej{p2 d:Pos}(y:X.calm=true)(w:Gl X "list")(u:X.mg "list"=none)(G:Gl X "reversed")(i:X.mg "reversed"=none)(B:VB X M R a ta)(n:starEach [a] X.env=(false,eval a X.env)::starEach [] X.env):
 VE X M R .f (.Call (.Name "list" p) [.Call (.Name "reversed" p2) [a] [] d] [] pos) (λg Q=>ta g λx=>match x with|.lst l=>Q (.lst l.reverse)|_=>False):=
 PE.imp (DV y w u G i (aW B cj n) n)<|by
  rintro J H Q ⟨A,I,g,P,S,E,h,k⟩;refine⟨A,I,g,_,S,E,h,λz v K hz j s=>?_⟩;cases z with
  |lst l=>obtain⟨p,r,rfl,D,C⟩:=aP.lst s;exact⟨p,r,rfl,.inl D,λq o=>k _ _ _ hz (j.trans (aF o _)) (.fresh j o C.rev)⟩
  |_=>exact hz.elim
theorem Ek(u:Gl X "range")(q:X.mg "range"=none)(v:VE X M R .s a ta)(f:starEach [a] X.env=(false,eval a X.env)::starEach [] X.env):
 PI X tg (.Call (.Name "range" p) [a] [] pos) (AR X M R br (λd Q=>ta d λx=>AI [x] λl=>Q (.lst l))):=
 PI.imp (xS u q (aW v cj f) f)<|by
  rintro B H Q ⟨A,z,d,P,S,w,h,k⟩;refine⟨A,z,d,_,S,w,h,λx C y hz g i=>?_⟩;cases x with
  |int j=>obtain⟨o,n,hz⟩:=hz;obtain⟨D,r,k⟩:=k _ hz;cases r;cases i.aY.int_inv;exact⟨j,rfl,o,n,k _ y g (.jb 0 j.toNat)⟩
  |_=>exact hz.elim
theorem El(C:Gl X "range")(z:X.mg "range"=none)(E:VE X M R .s a ta)(D:VE X M R .s b tb)(n:starEach [a,b] X.env=(false,eval a X.env)::starEach [b] X.env)(d:starEach [b] X.env=(false,eval b X.env)::starEach [] X.env):
 PI X tg (.Call (.Name "range" p) [a,b] [] pos) (AR X M R br (λf Q=>ta f λx=>tb f λy=>AI [x,y] λl=>Q (.lst l))):=
 PI.imp (xT C z (aW E (aW D cj d) n) (by rw[n,d];rfl) d)<|by
  rintro I H Q ⟨A,q,f,P,S,o,h,k⟩;refine⟨A,q,f,_,S,o,h,λx K N hz g v=>⟨A,q,f,_,S.same g,o,hz,λy J G hz r u=>?_⟩⟩;cases x with
  |int i=>
   cases y with
   |int j=>obtain⟨w,hz⟩:=hz;obtain⟨L,B,k⟩:=k _ hz;cases B;cases v.aY.int_inv;cases u.aY.int_inv;exact⟨i,j,rfl,w,k _ G (g.trans r) (.jb i (j -i).toNat)⟩
   |_=>exact hz.elim
  |_=>exact hz.elim
theorem Em(J:Gl X "range")(G:X.mg "range"=none)(N:VE X M R .s a ta)(L:VE X M R .s b tb)(K:VE X M R .s c tc)(v:starEach [a,b,c] X.env=(false,eval a X.env)::starEach [b,c] X.env)(f:starEach [b,c] X.env=(false,eval b X.env)::starEach [c] X.env)(q:starEach [c] X.env=(false,eval c X.env)::starEach [] X.env):
 PI X tg (.Call (.Name "range" p) [a,b,c] [] pos) (AR X M R br (λd Q=>ta d λx=>tb d λy=>tc d λz=>AI [x,y,z] λl=>Q (.lst l))):=
 PI.imp (ym J G (aW N (aW L (aW K cj q) f) v) (by rw[v,f,q];rfl) (by rw[f,q];rfl))<|by
  rintro T H Q ⟨A,r,d,P,S,o,h,k⟩;refine⟨A,r,d,_,S,o,h,λx Z H1 hz g D=>⟨A,r,d,_,S.same g,o,hz,λy Y H2 hz u C=>⟨A,r,d,_,S.same (g.trans u),o,hz,λz U O hz w B=>?_⟩⟩⟩;cases x with
  |int i=>
   cases y with
   |int j=>
    cases z with
    |int l=>obtain⟨n,E,hz⟩:=hz;obtain⟨gA,I,k⟩:=k _ hz;cases I;cases D.aY.int_inv;cases C.aY.int_inv;cases B.aY.int_inv;exact⟨i,j,l,n,rfl,E,k _ O ((g.trans u).trans w) (.Ei i l n)⟩
    |_=>exact hz.elim
   |_=>exact hz.elim
  |_=>exact hz.elim
end
noncomputable def up(M:Ms)(n:Nat):Ms:=M.map λx=>(x.1+n,x.2)
section
variable{K:Frag}{M:Ms}{A:Fz}{H0 H H1:Hp}{σ v0:St}{ε δ:Ev}
theorem jq{n i:Nat}{m:Md}:(i,m)∈up M n↔n<=i/\(i -n,m)∈M:=by
 unfold up;rw[Hc];constructor
 .rintro⟨⟨j,b⟩,a,e⟩;cases e;exact⟨Nat.le_add_left _ _,by rw[Kt];exact a⟩
 .rintro⟨h,a⟩;exact⟨(i -n,m),a,by simp;omega⟩
theorem cJ{n i:Nat}:aM (up M n) i↔n<=i/\aM M (i -n):=by
 constructor
 .rintro⟨m,h⟩;exact⟨(jq.mp h).1,m,(jq.mp h).2⟩
 .rintro⟨h,m,a⟩;exact⟨m,jq.mpr ⟨h,a⟩⟩
theorem lK{n i:Nat}(c:δ.length=n)(h:n<=i):look (δ++ε) i=look ε (i -n):=by
 have e:∀w,look (δ++ε) i=some w↔look ε (i -n)=some w:=λw=>by rw[aV,aV,Kb (by lia),c]
 cases b:look ε (i -n)with
 |none=>
  cases a:look (δ++ε) i with
  |none=>rfl
  |some w=>rw[e]at a;rw[b]at a;cases a
 |some w=>exact(e w).mpr b
theorem SR.block(S:SR K M A H0 σ H ε){n:Nat}(t:v0.length=n)(s:ao H H1){D:Addr}{o:HO}(y:H D=none)(I:H1 D=some o):SR K (up M n) ⟨λq=>A.ab q\/q=D,λq=>A.B q\/q=D,none⟩ H0 (v0++σ) H1 (Ds n none++ε):=by
 obtain⟨F,O⟩:=S.ow;have g:(Ds n (none:Option W)).length=n:=by simp
 have C:∀{i:Nat},n<=i->(v0++σ)[i]?=σ[i -n]?:=λ{i} h=>by rw[Kb (by lia),t]
 have x:∀p o,H p=some o->(A.B p\/p=D)->A.B p:=λp o e z=>by
  rcases z with z|rfl
  .exact z
  .rw[y]at e;cases e
 refine⟨by rw[Fm,Fm,t,g,S.len],λi w c e=>?_,S.sm.trans s,λp z=>?_,(λv e=>by cases e),λi=>F (i -n),⟨λi m E a b=>O.un _ m E (jq.mp a).2 (jq.mp b).2,λi m w G e=>?_,λi c e=>?_,λi c=>O.nd _ (cJ.mp c).2,λi j p c u a b=>?_,λi p c d=>O.nw _ p (cJ.mp c).2 d,λi p c d z=>?_,λp=>?_⟩⟩
 .by_cases f:n<=i
  .rw[lK g f]at e;rw[C f];obtain⟨v,l,k⟩:=S.sh (i -n) w (λz=>c (cJ.mpr ⟨f,z⟩)) e;exact⟨v,l,Rep.mv s x w k⟩
  .rw[aV,NA (by rw[g];lia),T2,Bz (by lia)]at e;cases e
 .rcases z with z|rfl
  .exact(S.dm.same s) p z
  .exact⟨_,I⟩
 .obtain⟨f,r⟩:=jq.mp G;rw[lK g f]at e;rw[C f];obtain⟨v,l,k⟩:=O.val _ m w r e;exact⟨v,l,Fp.mv s x m k⟩
 .obtain⟨f,r⟩:=cJ.mp c;rw[lK g f]at e;exact O.emp _ r e
 .have:=O.ds _ _ p (cJ.mp c).2 (cJ.mp u).2 a b;have:=(cJ.mp c).1;have:=(cJ.mp u).1;lia
 .rcases z with z|rfl
  .exact O.na _ p (cJ.mp c).2 d z
  .obtain⟨o,e,_⟩:=O.has (cJ.mp c).2 d;rw[y]at e;cases e
 .constructor
  .rintro(z|rfl)
   .rcases(O.all p).mp z with z|⟨i,c,d⟩
    .exact .inl (.inl z)
    .exact .inr ⟨i+n,cJ.mpr ⟨by lia,by rw[Kt];exact c⟩,by rw[Kt];exact d⟩
   .exact .inl (.inr rfl)
  .rintro((z|rfl)|⟨i,c,d⟩)
   .exact .inl ((O.all p).mpr (.inl z))
   .exact .inr rfl
   .exact .inl ((O.all p).mpr (.inr ⟨i -n,(cJ.mp c).2,d⟩))
end
noncomputable def Oe:List Nat->Gz
 |[]=>MX
 |i::a=>GA (eB i) (Oe a)
noncomputable def gT(K:Frag)(one:Bool)(a:List Nat):TG:=
 match one,a with
 |true,[i]=>eB i
 |true,_=>λ_ _ _ _=>False
 |false,a=>Ie K a.length (Oe a)
noncomputable def b6(a:St):List Nat->List V->St
 |i::b,v::vs=>b6 (a.set i (some v)) b vs
 |_,_=>a
theorem sE:∀(b:List Nat)(vs:List V)(a:St),(b6 a b vs).length=a.length
 |[],vs,a=>by rw[b6];simp
 |i::b,[],a=>by rw[b6];simp
 |i::b,v::vs,a=>by rw[b6,sE b vs,OF]
theorem sF{n:Nat}:∀(c:List Nat)(vs:List V)(b a:St),b.length=n->(∀i∈c,i<n)->b6 (b++a) c vs=b6 b c vs++a
 |[],vs,b,a,_,_=>by rw[b6,b6]<;>simp
 |i::c,[],b,a,_,_=>by rw[b6,b6]<;>simp
 |i::c,v::vs,b,a,d,h=>by have hi:=h i Da;rw[b6,b6,List.set_append_left _ _ (by lia),sF c vs _ a (by rw[OF];exact d) λj e=>h j (Dx _ e)]
section
variable{K:Frag}{M:Ms}{A:Fz}{H0 H:Hp}
theorem AS:∀(a:List Nat)(vs:List V)(b:St)(Q:St->Hp->Prop),vs.length=a.length->Q (b6 b a vs) H->Oe a vs b H Q
 |[],[],b,Q,_,q=>⟨rfl,q⟩
 |[],_::_,_,_,h,_=>by cases h
 |_::_,[],_,_,h,_=>by cases h
 |i::a,v::vs,b,Q,h,q=>⟨v,vs,rfl,AS a vs _ Q (by simpa using h) (by rw[b6]at q;exact q)⟩
theorem SR.bJ:∀(a:List Nat)(c:List W)(vs:List V){b:St}{d:Ev},(∀i∈a,¬aM M i)->SR K M A H0 b H d->ai K (FB A M b) H c vs->c.length=a.length->SR K M A H0 (b6 b a vs) H (bJ d a c)
 |[],c,vs,b,d,_,S,_,_=>by rw[b6,VL.bJ]<;>first|exact S|simp
 |i::a,[],vs,b,d,_,S,_,h=>by cases h
 |i::a,w::c,vs,b,d,e,S,r,h=>by obtain⟨v,f,rfl,m,l⟩:=r.cons_inv;rw[b6,VL.bJ];have k:=e i Da;exact SR.bJ a c f (λj g=>e j (Dx _ g)) (S.set k m) l (by simpa using h)
theorem tgt{b:St}{d:Ev}{one:Bool}{a:List Nat}{w:W}{v:V}{P:Ev->Prop}{Q:St->Hp->Prop}(j:∀i∈a,¬aM M i)(S:SR K M A H0 b H d)(g:Rep K (FB A M b) H w v)(h:wT one a w d P)
 (k:∀vs c,P c->SR K M A H0 (b6 b a vs) H c->Q (b6 b a vs) H):gT K one a v b H Q:=by
 cases one with
 |true=>
  match a,h with
  |[i],h=>
   have:=k [v] (d.set i (some w)) h (by rw[b6,b6]<;>first|exact S.set (j i Da) g|simp);rw[b6,b6]at this
   .exact this
   .simp
 |false=>
  cases w with
  |tup l=>obtain⟨e,h⟩:=h;obtain⟨p,vs,rfl,m,f⟩:=g;exact⟨p,vs,rfl,g8.of m,by rw[f.len,e],AS a vs b Q (by rw[f.len,e]) (k vs _ h (SR.bJ a l vs j S f e))⟩
  |_=>exact h.elim
end
theorem PF.imp{X:Cx}{e:List Expr}{t t':TT}(h:PF X e t)(k:∀a H Q,t' a H Q->t a H Q):PF X e t':=λb s a H Q I w=>h b s a H Q I (k a H Q w)
noncomputable def RP(K:Frag)(M:Ms)(t:WT):TE:=λb H Q=>∃A d c P,SR K M A d b H c/\t c P/\∀w v a,P w->ao H a->Rep K (FB A M b) a w v->Q v a
noncomputable def RQ(K:Frag)(M:Ms)(t:WT):TT:=λd H Q=>∃A e a P,SR K M A e d H a/\t a P/\∀x c,P x->ao H c->∃b,x=.bl b/\Q b c
section
variable{X:Cx}{M:Ms}{R:Addr->Prop}{tg iter elt:Expr}{ifs:List Expr}{scope:Scope}{xs N':List Str}{pos:Pos}{ti tc te:WT}{one:Bool}{ts:List Nat}
theorem sG(N:∀i∈ts,i<xs.length)(n:St)(H:Hp)(Q:VK)
 (hh:tV X M R (Jl X.K .f) (λu Q=>ti u λz=>items z λc=>jX (λw K=>wT one ts w (Ds xs.length none++u) λa=>tc a λx=>truth x λk=>if k=true then te a λy=>K (some y)else K none) c [] λl=>Q (.lst l)) n H Q):
 Av xs.length (AR X M R true ti) (gT X.K one ts) (RQ X.K (up M xs.length) tc) (RP X.K (up M xs.length) te) n H Q:=by
 obtain⟨A,H0,u,P,S,er,h,k⟩:=hh;refine⟨A,H0,u,_,S,er,h,λz hz=>?_⟩;obtain⟨c,ez,hw⟩:=oi.mp hz;refine⟨c,ez,λJ H1 s1 it D Z=>?_⟩;have iw:=it.iw;generalize T:(λ(w:W)(K:Option W->Prop)=>wT one ts w (Ds xs.length none++u) λa=>tc a λx=>truth x λk=>if k=true then te a λy=>K (some y)else K none)=f at hw;have Tg:H D=none:=s1.free Z;refine⟨λi m g=>∃d r,m=c.length -i/\i<=c.length/\ao H1 g/\g D=some (.lst r)/\ai X.K (λq=>FB A M n q\/q=D) g d r/\jX f (c.drop i) d (λl=>P (.lst l)),
  ⟨c.length,[],[],rfl,KE _,aF Z _,aJ,.nil,hw⟩,?_⟩
 rintro i m g ⟨d,r,rfl,hi,s,Qo,G,C⟩;by_cases I:i<c.length
 .refine .inr ⟨iw.go i g s I,λx U y v t=>?_⟩;have hwi:c[i]?=some c[i]:=B1 I;rw[SB I]at C;generalize c[i]=w at*;obtain⟨s3,L⟩:=iw.yl i g x U w s hwi y;have U4:ao H U:=s1.trans (s.trans s3);have U5:U D=some (.lst r):=s3 _ _ Qo;have S3:SR X.K (up M xs.length) ⟨λq=>A.ab q\/q=D,λq=>A.B q\/q=D,none⟩ H0 (v++n) U (Ds xs.length none++u):=S.block t U4 Tg U5;have U6:Rep X.K (λq=>A.B q\/q=D) U w x:=by
   refine L _ λp o e z=>?_;rcases z with z|rfl
   .exact z
   .rw[Z]at e;cases e
  have hM:∀j∈ts,¬aM (up M xs.length) j:=λj hj z=>by have:=(cJ.mp z).1;have:=N j hj;lia
  rw[jX,<-T]at C;rw[T]at C;refine tgt hM S3 U6 C λE a hp S4=>?_;have e4:b6 (v++n) ts E=b6 v ts E++n:=sF ts E v n t N;rw[e4]at S4⊢;have hv1:(b6 v ts E).length=xs.length:=by rw[sE];exact t
  refine⟨b6 v ts E,hv1,rfl,⟨_,H0,a,_,S4,hp,λq H5 Y s5=>?_⟩⟩;obtain⟨b,rfl,Y⟩:=bO Y;refine⟨b,rfl,?_⟩;have Qp:ao g H5:=s3.trans s5;cases b with
  |false=>exact⟨c.length -(i+1),by lia,d,r,rfl,I,s.trans Qp,Qp _ _ Qo,G.same Qp,Y⟩
  |true=>
   refine⟨_,H0,a,_,S4.same s5,Y,λy vy H6 hy s6 ry=>?_⟩;obtain⟨O,hy⟩:=hy;have RS:=Qp.trans s6;have Th:=RS _ _ Qo;refine⟨r,Th,by rw[G.len];exact O,c.length -(i+1),by lia,d++[y],r++[vy],rfl,I,λb o e=>?_,aJ,?_,hy⟩
   .rw[ay (aR e Z)];exact RS _ _ (s _ _ e)
   .have U7:Rep X.K (λq=>A.B q\/q=D) H6 y vy:=ry;exact ai.put Th (.inr rfl) _ ((G.same RS).app (.cons U7 .nil))
 .have e:i=c.length:=by lia
  subst e;refine .inl ⟨iw.st _ g s rfl,?_⟩;rw[Ve,jX]at C;exact k _ _ g C (s1.trans s) (.new Tg Qo (G.less λp z=>.inl z) G)
theorem En(s:X.calm=true)(o:cI scope X.env.scope X.N N' xs=true)(e:∀i∈ts,i<xs.length)(p:PI X tg iter (AR X M R true ti))(q:∀C b d c,PG (aK X scope C xs N' b d c) tg (gT X.K one ts))
 (r:∀C b d c,PF (aK X scope C xs N' b d c) ifs (RQ X.K (up M xs.length) tc))(he:∀C b d c,PE (aK X scope C xs N' b d c) elt (RP X.K (up M xs.length) te))(n:∀z,foldedSetIterable iter X.env z=pure z):
 VE X M R .f (.ListComp elt [⟨tg,iter,ifs,0⟩] scope pos) (λg Q=>ti g λz=>items z λm=>jX (λw K=>wT one ts w (Ds xs.length none++g) λa=>tc a λx=>truth x λk=>if k=true then te a λy=>K (some y)else K none) m [] λl=>Q (.lst l)):=
 PE.imp (DO xs N' s o p q r he n) λj H Q h=>sG e j H Q h
end
section
variable{K:Frag}{M M':Ms}{A:Fz}{H0 H H1:Hp}{σ:St}{ε:Ev}
theorem SR.rb(S:SR K M A H0 σ H ε):∃f,SR K M A f σ H ε/\ao H0 f/\ao f H/\(∀p o,H p=some o->(vU o=true/\A.B p)\/f p=some o):=by
 classical
 obtain⟨F,O⟩:=S.ow;have d:∀p o,(if(∃i,aM M i/\p∈F i)then none else H p)=some o->H p=some o:=λp o z=>by
  split at z
  .cases z
  .exact z
 refine⟨λp=>if(∃i,aM M i/\p∈F i)then none else H p,⟨S.len,S.sh,d,S.dm,S.sl,F,⟨O.un,O.val,O.emp,O.nd,O.ds,λi p c a=>Bz ⟨i,c,a⟩,O.na,O.all⟩⟩,λb o z=>?_,d,λp o z=>?_⟩
 .try dsimp only
  rw[Bi]
  .exact S.sm _ _ z
  .rintro⟨i,c,e⟩;rw[O.nw i b c e]at z;cases z
 .by_cases a:∃i,aM M i/\p∈F i
  .have g:=a;obtain⟨i,c,a⟩:=a;obtain⟨j,e,h⟩:=O.has c a;rw[z]at e;cases e;exact .inl ⟨h,(O.all p).mpr (.inr g)⟩
  .exact .inr ((Bi a).trans z)
end
section
variable{K:Frag}{B A:Addr->Prop}{H Hs:Hp}
theorem yz.low{J:It}{g:List W}(h:∀p o,H p=some o->(vU o=true/\B p)\/Hs p=some o)(b:∀p,A p->B p)(i:yz K false B H J g):yz K false A Hs J g:=by
 have d:∀{a:Addr}{c:List V},Rd H a (.lst c)->¬B a->Rd Hs a (.lst c):=λ{a c} r n=>by
  rcases r with r|⟨o,r⟩
  .rcases h a _ r with⟨_,z⟩|z
   .exact(n z).elim
   .exact .inl z
  .rcases h a _ r with⟨_,z⟩|z
   .exact(n z).elim
   .exact .inr ⟨o,z⟩
 cases i with
 |lst q n r=>exact .lst (d q (n rfl)) (λe z=>n e (b _ z)) (ai.chg h (λp _ _ z=>b p z) _ r)
 |@tup a c _ q r=>
  refine .tup ?_ (ai.chg h (λp _ _ z=>b p z) _ r);rcases q with(q|⟨o,q⟩)|q
  .rcases h a _ q with⟨z,_⟩|z
   .cases z
   .exact .inl (.inl z)
  .rcases h a _ q with⟨z,_⟩|z
   .cases z
   .exact .inl (.inr ⟨o,z⟩)
  .exact .inr q
 |jb f n=>exact .jb f n
 |Ei f j n=>exact .Ei f j n
 |pR q n r=>exact .pR (d q (n rfl)) (λe z=>n e (b _ z)) (ai.chg h (λp _ _ z=>b p z) _ r)
 |rev q n r=>exact .rev (d q (n rfl)) (λe z=>n e (b _ z)) (ai.chg h (λp _ _ z=>b p z) _ r)
end
abbrev WS:=Dn->Ev->Prop
noncomputable def dH:Md->Bool
 |.io _=>true
 |_=>false
noncomputable def yC(K:Frag)(ab:Addr->Prop)(f:Option V)(e H':Hp)(m:Md)(w:W)(v:V):Prop:=
 match m with
 |.io g=>∃b c d a,w=.tup [b,c]/\f=some d/\a.Nodup/\(∀p∈a,e p=none/\¬ab p)/\Fp K (λp=>ab p\/p∈a) H' g c d a/\Rep K (λp=>ab p\/p∈a) H' b v
 |m=>cE K ab e H' m w v
theorem yC.of{K:Frag}{ab:Addr->Prop}{b:Option V}{a H':Hp}{m:Md}{w:W}{v:V}(c:dH m=false)(h:cE K ab a H' m w v):yC K ab b a H' m w v:=by
 cases m with
 |io _=>cases c
 |_=>exact h
theorem yC.back{K:Frag}{ab:Addr->Prop}{a:Option V}{e d H':Hp}{m:Md}{w:W}{v:V}(s:ao e d)(h:yC K ab a d H' m w v):yC K ab a e H' m w v:=by
 cases m with
 |io q=>obtain⟨f,g,i,o,n,l,k,c,j⟩:=h;exact⟨f,g,i,o,n,l,k,λp b=>⟨s.free (c p b).1,(c p b).2⟩,j⟩
 |_=>exact cE.back s (λ_ z=>z) h
structure KS(X:Cx)(M:Ms)(m:Md)(ab:Addr->Prop)(s0:Option V)(H0:Hp)(d:Dn)(D:Ends):Prop where
 nx:∀A ε σ H,A.ab=ab->A.s0=s0->d.nx ε->SR X.K M A H0 σ H ε->D.nx σ H
 rt:∀w v H',d.rt w->ao H0 H'->yC X.K ab s0 H0 H' m w v->D.rt v H'
 bk:∀A ε σ H,A.ab=ab->A.s0=s0->d.bk ε->SR X.K M A H0 σ H ε->D.bk σ H
 ct:∀A ε σ H,A.ab=ab->A.s0=s0->d.ct ε->SR X.K M A H0 σ H ε->D.ct σ H
noncomputable def sV(X:Cx)(M:Ms)(m:Md)(t:WS):TS:=λD c H=>∃A a b d,SR X.K M A a c H b/\ER X a d.ex/\A.s0.isSome=dH m/\t d b/\KS X M m A.ab A.s0 a d D
abbrev VS(X:Cx)(M:Ms)(m:Md)(st:Stmt)(t:WS):Prop:=PS X st (sV X M m t)
abbrev AU(X:Cx)(M:Ms)(m:Md)(st:List Stmt)(t:WS):Prop:=rF X st (sV X M m t)
theorem PS.imp{X:Cx}{e:Stmt}{t t':TS}(h:PS X e t)(k:∀D a H,t' D a H->t D a H):PS X e t':=λb s a H D I w=>h b s a H D I (k D a H w)
theorem rF.imp{X:Cx}{e:List Stmt}{t t':TS}(h:rF X e t)(k:∀D a H,t' D a H->t D a H):rF X e t':=λb s a H D I w=>h b s a H D I (k D a H w)
section
variable{X:Cx}{M M':Ms}{R:Addr->Prop}{m mr m0:Md}{st:Stmt}{rest:List Stmt}{t u:WS}{e e1 e2 c:Expr}{te t1 t2 tc:(Addr->Prop)->WT}{pos pos':Pos}{x:Str}{i:Nat}{π:List jm}
theorem Eo:AU X M m [] (λd a=>d.nx a):=rF.imp CY<|by rintro D b H ⟨A,g,a,d,S,f,hz,h,k⟩;exact k.nx A a b H rfl rfl h S
theorem Ep(h:VS X M m st t):AU X M m [st] t:=vI h
theorem AV(h:VS X M m st t)(k:AU X M m rest u):AU X M m (st::rest) (λd b=>t {d with nx:=u d} b):=
 rF.imp (zH h k)<|by rintro D r H ⟨A,j,b,d,S,f,hz,h,k⟩;exact⟨A,j,b,{d with nx:=u d},S,f,hz,h,λq a l s o g n p=>⟨q,j,a,d,p,f,(by rw[g];exact hz),n,by rw[o,g];exact k⟩,k.rt,k.bk,k.ct⟩
theorem Er{st:List Stmt}(h:AU X M' m st t)(j:∀x∈M',x∈M)(g:dH m=true->aM M 0->aM M' 0):AU X M m st (λd a=>t {d with nx:=λ_=>False,bk:=λ_=>False,ct:=λ_=>False} a):=rF.imp h<|by rintro D B H ⟨A,p,a,d,S,l,hz,h,k⟩;obtain⟨y,n,b,_,o⟩:=S.sub (M':=M') j A.s0 (λv e=>⟨e,g (by rw[<-hz,e];rfl) (S.sl v e).2⟩);refine⟨y,p,a,{d with nx:=λ_=>False,bk:=λ_=>False,ct:=λ_=>False},o,l,by rw[b];exact hz,h,λ_ _ _ _ _ _ z=>z.elim,λw v q f s r=>k.rt w v q f s ?_,λ_ _ _ _ _ _ z=>z.elim,λ_ _ _ _ _ _ z=>z.elim⟩;rw[b,n]at r;exact r
theorem JL:VS X M m (.Break pos) (λd a=>d.bk a):=PS.imp zI<|by rintro D b H ⟨A,g,a,d,S,f,hz,h,k⟩;exact k.bk A a b H rfl rfl h S
theorem Es(f:∀{l:TE},PE X e l->PS X st (jT l (eB i)))(j:∀x,x∈M↔x=(i,m0)\/x∈M')(E:¬aM M' i)(g:dH m=true->i≠0)(he:∀R,VE X M' R m0 e (te R)):VS X M m st (λd b=>te d.ex b λw=>d.nx (b.set i (some w))):=by
 rintro a s o H D I ⟨A,U,b,d,S,K,hz,h,k⟩;have J:∀v,A.s0=some v->A.s0=some v/\aM M' 0:=λv e=>by
  refine⟨e,?_⟩;have C:dH m=true:=by rw[<-hz,e];rfl
  obtain⟨q,G⟩:=(S.sl v e).2;rcases(j _).mp G with z|z
  .cases z;exact(g C rfl).elim
  .exact⟨q,z⟩
 obtain⟨Z,N,L,hb,n⟩:=S.sub (M':=M') (λx y=>(j x).mpr (.inr y)) A.s0 J;refine f (he d.ex) a s o H D I ⟨Z,U,b,_,n,K,h,λw v T B p r=>?_⟩;obtain⟨Y,Q,P,_,O⟩:=n.own j E p r;exact k.nx Y _ _ T (Q.trans N) (P.trans L) B O
theorem JM{f:List Nat}(g:∀{j:TE},PE X e j->PS X st (jT j (gT X.K false f)))(z:∀i∈f,¬aM M i)(he:∀R,VE X M R .s e (te R)):
 VS X M m st (λd b=>te d.ex b λw=>match w with|.tup l=>l.length=f.length/\d.nx (bJ b f l)|_=>False):=by
 rintro a s o H D I ⟨A,G,b,d,S,B,hz,h,k⟩;refine g (he d.ex) a s o H D I ⟨A,G,b,_,S,B,h,λw v E n q r=>?_⟩;cases w with
 |tup l=>exact tgt (P:=d.nx) z (S.same q) r.aY n λJ p y C=>k.nx A _ _ E rfl rfl y C
 |_=>exact n.elim
theorem JN{a:List Nat}{q:List Expr}{ta:(Addr->Prop)->Ev->(List W->Prop)->Prop}(n:∀{p:TA},PA X q p->PS X st (λD f H=>p f H λvs o=>vs.length=a.length/\D.nx (b6 f a vs) o))(w:∀i∈a,¬aM M i)(he:∀R,VA X M R q (ta R)):
 VS X M m st (λd g=>ta d.ex g λj=>j.length=a.length/\d.nx (bJ g a j)):=by
 rintro b s f H D I ⟨A,z,g,d,S,y,hz,h,k⟩;refine n (he d.ex) b s f H D I ⟨A,z,g,_,S,y,h,λj vs o l v r=>?_⟩;exact⟨by rw[ai.len r,l.1],k.nx A _ _ o rfl rfl l.2 (SR.bJ a j vs w (S.same v) r l.1)⟩
theorem p8{K:Frag}{A:Fz}{L H:Hp}{D:St}{E:Ev}{w:W}{l:List W}(S:SR K M A L D H E)(d:(i,m0)∈M)(hp:gB m0 π=some .f)(N:look E i=some w)(hu:bW w π=some (.lst l)):
 ∃v p vs,D[i]?=some (some v)/\qU K H v π (.ref p)/\H p=some (.lst vs)/\ai K A.B H l vs/\A.B p/\∀b,ao H b->∀(g:List W)(a:List V),ai K A.B b g a->
  ∃j,j.ab=A.ab/\j.s0=A.s0/\(∀q o,b q=some o->j.B q->A.B q)/\sj A.B b (upd b p (.lst a))/\SR K M j L D (upd b p (.lst a)) (E.set i (some (setAt w π (.lst g)))):=by
 obtain⟨F,O⟩:=S.ow;obtain⟨v,h,k⟩:=O.val i m0 w d N;obtain⟨v',Z,F',Y,I,r,fp,C⟩:=Fp.path π m0 k hp hu;obtain⟨ws,p,vs,e1,rfl,rfl,G,h4⟩:=fp;cases e1;have U:p∈F i:=by rw[I];simp
 have J:A.B p:=(O.all p).mpr (.inr ⟨i,⟨m0,d⟩,U⟩);refine⟨v,p,vs,h,r,G,h4,J,λb s g a hr=>?_⟩;have Q:=S.same s;obtain⟨F0,O0⟩:=Q.ow;have O1:Jg K M A L D b E F:=⟨O.un,λi m w d e=>let⟨v,h,k⟩:=O.val i m w d e;⟨v,h,Fp.mv s (λ_ _ _ z=>z) m k⟩,O.emp,O.nd,O.ds,O.nw,O.na,O.all⟩;have T:=s _ _ G;have P:sj A.B b (upd b p (.lst a)):=.put T rfl J;have U8:p∉Z++Y:=by
  have:=O.nd i ⟨m0,d⟩;rw[I]at this;intro z;have h:=W2.mp this;rcases Fs.mp z with z|z
  .have k:=W2.mp h.1;exact k.2.2 p z p (by simp) rfl
  .exact h.2.2 p (by simp) p z rfl
 have y:Fp K A.B (upd b p (.lst a)) m0 (setAt w π (.lst g)) v (Z++[p]++Y):=by
  refine C (upd b p (.lst a)) A.B (.lst g) [p] ?_ (λq o e=>?_) (λq _ _ z=>z)
  .exact⟨g,p,a,rfl,rfl,rfl,aJ,ai.chg P (λ_ _ _ z=>z) g hr⟩
  .by_cases n:q=p
   .subst n;rw[G]at e;cases e;exact .inl ⟨rfl,J,U8⟩
   .exact .inr (by rw[ay n];exact s _ _ e)
 rw[<-I]at y;have hc:∀q o,b q=some o->(vU o=true/\q∈F i)\/upd b p (.lst a) q=some o:=λq o e=>by
  by_cases n:q=p
  .subst n;rw[T]at e;cases e;exact .inl ⟨rfl,U⟩
  .exact .inr (by rw[ay n];exact e)
 have Oi:Fp K (λq=>(A.B q/\q∉F i)\/q∈F i) (upd b p (.lst a)) m0 (setAt w π (.lst g)) v (F i):=Fp.mv (ao.refl _) (λq _ _ z=>by
  rcases z with z|z
  .exact z.1
  .exact(O.all q).mpr (.inr ⟨i,⟨m0,d⟩,z⟩)) m0 y
 obtain⟨j,a1,a2,_,a3,a4,a5⟩:=O1.chg (F':=F i) Q d N h hc (O.nd i ⟨m0,d⟩) (λq hq=>.inl hq) Oi;exact⟨j,a1,a2,a3,P,a5⟩
theorem uM{a:Ev}{P:List W->Prop}(h:match look a i with|some (.lst l)=>P l|_=>False):∃l,look a i=some (.lst l)/\P l:=by
 cases b:look a i with
 |none=>rw[b]at h;exact h.elim
 |some d=>
  rw[b]at h;cases d with
  |lst l=>exact⟨l,rfl,h⟩
  |_=>exact h.elim
theorem RV:gB m0 []=some m0:=by cases m0<;>rfl
theorem JO{w:W}:bW w []=some w:=by cases w<;>rfl
theorem JP{w u:W}:setAt w [] u=u:=by cases w<;>rfl
theorem JQ(o:∀{q:TE},PE X e q->PS X st (Gy (SA X.K "list" vO (iu i) (rK q zR))))(G:(i,.f)∈M)(he:∀R,VE X M R .s e (te R)):
 VS X M m st (λd a=>match look a i with|some (.lst l)=>te d.ex a λw=>l.length<sizeLine/\d.nx (a.set i (some (.lst (l++[w]))))|_=>False):=by
 rintro g s E H D I ⟨A,Q,a,d,S,N,hz,h,k⟩;obtain⟨l,e1,h⟩:=uM h;obtain⟨U,p,j,L,J,B,z,Y,b⟩:=p8 (π:=[]) S G RV e1 JO;cases J;refine o (he d.ex) g s E H D I ⟨_,L,.inl ⟨rfl,j,.inl (.inl B)⟩,A,Q,a,_,S,N,h,λw v P y n r=>?_⟩;obtain⟨T,O,a2,_,_,C⟩:=b P n (l++[w]) (j++[v]) ((z.same n).app (.cons r.aY .nil));rw[JP]at C;exact⟨p,j,v,rfl,rfl,n _ _ B,by rw[z.len];exact y.1,k.nx T _ _ _ O a2 y.2 C⟩
theorem JR(B:∀{E G:TE},PE X e E->PE X e1 G->PS X st (jT E (Ih (iu i) G GB)))(Y:(i,.f)∈M)(he:∀R,VE X M R .s e (te R))(U:∀R,VE X M R .s e1 (t1 R)):
 VS X M m st (λd b=>te d.ex b λw=>match look b i with|some (.lst l)=>(t1 d.ex b λx=>(match x with|.int j=>∃n,t6 l.length j=some n/\d.nx (b.set i (some (.lst (l.set n w))))|_=>False))|_=>False):=by
 rintro q s Q H D I ⟨A,P,b,d,S,N,hz,h,k⟩;refine B (he d.ex) (U d.ex) q s Q H D I ⟨A,P,b,_,S,N,h,λw v H1 y K r=>?_⟩;obtain⟨l,e1,y⟩:=uM y;obtain⟨v0,p,C,h1,h2,Z,L,hB,o⟩:=p8 (π:=[]) S Y RV e1 JO;cases h2;refine⟨_,h1,A,P,b,_,S.same K,N,y,λz vz H2 a J T=>?_⟩;cases z with
 |int j=>obtain⟨n,e,a⟩:=a;have g:=K.trans J;obtain⟨A',a1,a2,_,_,O⟩:=o H2 g (l.set n w) (C.set n v) ((L.same g).set (r.aY.same J));rw[JP]at O;exact⟨p,C,j,n,rfl,T.aY.int_inv,g _ _ Z,by rw[L.len];exact e,k.nx A' _ _ _ a1 a2 a O⟩
 |_=>exact a.elim
theorem AW(he:∀R,VE X [] R mr e (te R))(o:mr=m\/m=.s)(j:dH m=false):VS X M m (.Return (some e) pos) (λd b=>te d.ex b d.rt):=by
 rintro a s n H D I ⟨A,q,b,d,S,p,hz,h,k⟩;refine oU (he d.ex) a s n H D I ⟨_,q,b,_,S.go,p,h,λw v l g f r=>?_⟩;rcases o with rfl|rfl
 .exact k.rt w v l g (S.sm.trans f) (.of j (r.back S.sm λ_ z=>z))
 .exact k.rt w v l g (S.sm.trans f) (.of j ((r.s S.dm).back S.sm λ_ z=>z))
theorem Et(he:∀R,VE X M R .s e (te R)):VS X M .s (.Return (some e) pos) (λd b=>te d.ex b d.rt):=by rintro a s f H D I ⟨A,o,b,d,S,l,hz,h,k⟩;refine oU (he d.ex) a s f H D I ⟨A,o,b,_,S,l,h,λw v n j g r=>?_⟩;exact k.rt w v n j (S.sm.trans g) (.of rfl (cE.back S.sm S.sub' r))
theorem Eu(he:PE X e (iu i))(b:(i,m)∈M)(n:dH m=false):VS X M m (.Return (some e) pos) (λd f=>match look f i with|some w=>d.rt w|none=>False):=by
 rintro a s j H D I ⟨A,B,f,d,S,y,hz,h,k⟩
 try dsimp only at h
 cases g:look f i with
 |none=>rw[g]at h;exact h.elim
 |some w=>
  rw[g]at h;obtain⟨F,O⟩:=S.ow;obtain⟨v,r,o⟩:=O.val i m w b g;refine oU he a s j H D I ⟨_,r,k.rt _ _ H h S.sm (.of n ⟨F i,O.nd i ⟨m,b⟩,λp l=>O.nw i p ⟨m,b⟩ l,Fp.mv (ao.refl _) (λq _ _ z=>?_) m o⟩)⟩;rcases z with z|z
  .exact(O.all q).mpr (.inl z)
  .exact(O.all q).mpr (.inr ⟨i,⟨m,b⟩,z⟩)
theorem Oj{a b:List Stmt}(r:∀R,VT X M R c (tc R))(w:AU X M m a t)(v:AU X M m b u):VS X M m (.If c a b pos) (λd f=>tc d.ex f λx=>truth x λk=>if k=true then t d f else u d f):=by
 rintro g s p H D I ⟨A,n,f,d,S,l,hz,h,k⟩;refine MV (r d.ex) w v g s p H D I ⟨A,n,f,_,S,l,h,λx y j o=>?_⟩;obtain⟨q,rfl,j⟩:=bO j;refine⟨q,rfl,?_⟩;cases q with
 |true=>exact⟨A,n,f,d,S.same o,l,hz,j,k⟩
 |false=>exact⟨A,n,f,d,S.same o,l,hz,j,k⟩
end
theorem AX{X:Cx}{st:Stmt}{t:TS}(h:PS X.mY st t):PS X st t:=PS.mY h
section
variable{X:Cx}{M:Ms}{m:Md}{body:List Stmt}{tb:WS}{c iter tg:Expr}{tc:WT}{ti:(Addr->Prop)->WT}{pos:Pos}{one:Bool}{ts:List Nat}
theorem JS(O:VT X.mY M (λ_=>False) c tc)(P:AU X.mY M m body tb):VS X M m (.While c body [] pos) (λd r=>D3 (λr Q=>tc r λx=>truth x Q) tb d r):=by
 refine PS.imp (AX (zL PassesOwn.never O P)) ?_;rintro D U H ⟨A,u,r,d,S,Y,hz,h,k⟩;obtain⟨J,⟨C,I⟩,s⟩:=h;refine⟨λn b f=>∃e a,e.ab=A.ab/\e.s0=A.s0/\J n a/\SR X.K M e u b f a,⟨C,A,r,rfl,rfl,I,S⟩,?_⟩;rintro n B Z ⟨y,v,t,p,G,w⟩;refine⟨y,u,v,_,w,.none,s n v G,λx T o z=>?_⟩;obtain⟨q,rfl,o⟩:=bO o;refine⟨q,rfl,?_⟩;cases q with
 |true=>obtain⟨N,R,o⟩:=o;refine⟨λb f=>∃e a,e.ab=A.ab/\e.s0=A.s0/\N a/\SR X.K M e u b f a,λb f ⟨e,a,j,a2,i,g⟩=>?_,y,u,v,_,w.same z,.none,(by rw[p];exact hz),o,⟨λe a b f j a2 i g=>⟨e,a,j.trans t,a2.trans p,i,g⟩,by rw[t,p];exact k.rt,λe a b f j a2 i g=>k.nx e a b f (j.trans t) (a2.trans p) i g,λe a b f j a2 i g=>⟨e,a,j.trans t,a2.trans p,i,g⟩⟩⟩;obtain⟨E,l,L⟩:=R a i;exact⟨E,l,e,a,j,a2,L,g⟩
 |false=>exact k.nx y _ _ T t p o (w.same z)
theorem JT(hc:X.calm=true)(hM:∀i∈ts,¬aM M i)(Y:PI X.mY tg iter (AR X.mY M (λ_=>False) false (ti λ_=>False)))(hg:PG X.mY tg (gT X.K one ts))(hb:AU X.mY M m body tb)(hs:∀x,foldedSetIterable iter X.env x=pure x):
 VS X M m (.For tg iter body [] pos) (λd G=>ti (λ_=>False) G λz=>items z λg=>iI (λw N a=>wT one ts w a λl=>tb N l) d g G):=by
 refine PS.imp (AX (Ik PassesOwn.never hc Y hg hb hs)) ?_;rintro D σ H ⟨A,H0,G,d,S,er,hz,h,k⟩;refine⟨A,H0,G,_,S,.none,h,λz T=>?_⟩;obtain⟨g,ez,hw⟩:=oi.mp T;refine⟨g,ez,λJ H1 s1 it=>?_⟩;have S1:=S.same s1;obtain⟨L,Ss,Q,b1,b2⟩:=S1.rb;have low:yz X.K false A.ab L J g:=it.low (λp o e=>b2 p o e) λp z=>S.sub' p z;have iw:=low.iw;refine⟨λi n f r=>n=g.length -i/\i<=g.length/\∃b a,b.ab=A.ab/\b.s0=A.s0/\SR X.K M b L f r a/\iI (λw N a=>wT one ts w a λl=>tb N l) d (g.drop i) a,⟨g.length,rfl,KE _,A,G,rfl,rfl,Ss,hw⟩,?_⟩;have up:∀{b:Fz}{f:St}{r:Hp}{a:Ev},SR X.K M b L f r a->SR X.K M b H0 f r a:=λ{b f r a} q=>by obtain⟨F,O⟩:=q.ow;exact⟨q.len,q.sh,Q.trans q.sm,q.dm,q.sl,F,⟨O.un,O.val,O.emp,O.nd,O.ds,λi p Y e=>Q.free (O.nw i p Y e),O.na,O.all⟩⟩
 rintro i n R Z ⟨rfl,hi2,A2,fT,C,B,E,P⟩;by_cases u:i<g.length
 .refine .inr ⟨iw.go i Z E.sm u,λf r=>∃b a,b.ab=A.ab/\b.s0=A.s0/\SR X.K M b L f r a/\iI (λw N a=>wT one ts w a λl=>tb N l) d (g.drop (i+1)) a,by rintro f r ⟨b,a,v,a2,t,s⟩;exact⟨g.length -(i+1),by omega,rfl,u,b,a,v,a2,t,s⟩,λx H3 y=>?_⟩;have U:g[i]?=some g[i]:=B1 u;rw[SB u,iI]at P;generalize g[i]=w at*;obtain⟨s3,I⟩:=iw.yl i Z x H3 w E.sm U y;have hr:Rep X.K (FB A2 M R) H3 w x:=I _ λp o e z=>by
   obtain⟨F,O⟩:=E.ow;rcases(O.all p).mp z with z|⟨j,hj,e2⟩
   .rw[C]at z;exact z
   .rw[O.nw j p hj e2]at e;cases e
  refine tgt hM (E.same s3) hr P λvs a hp S4=>?_;exact⟨A2,L,a,_,S4,.none,(by rw[B];exact hz),hp,⟨λb l Ol Ti v a2 t s=>⟨b,l,v.trans C,a2.trans B,s,t⟩,λw' v' r t s q3=>k.rt w' v' r t (Q.trans s) (by rw[C,B]at q3;exact q3.back Q),λb l Ol Ti v a2 t s=>k.nx b _ _ _ (v.trans C) (a2.trans B) t (up s),λb l Ol Ti v a2 t s=>⟨b,l,v.trans C,a2.trans B,s,t⟩⟩⟩
 .have e:i=g.length:=by omega
  subst e;refine .inl ⟨iw.st _ Z E.sm rfl,?_⟩;rw[Ve,iI]at P;exact k.nx A2 _ _ _ C B P (up E)
end
structure Go(A:Fz)(H:Hp)(A':Fz)(H':Hp):Prop where
 ab:A'.ab=A.ab
 s0:A'.s0=A.s0
 B:∀p o,H p=some o->A'.B p->A.B p
 ch:sj A.B H H'
theorem Go.same{A:Fz}{H H':Hp}(s:ao H H'):Go A H A H':=⟨rfl,rfl,λ_ _ _ z=>z,.same s⟩
theorem Go.trans{A d c:Fz}{H b a:Hp}(g:Go A H d b)(k:Go d b c a):Go A H c a:=by
 refine⟨k.ab.trans g.ab,k.s0.trans g.s0,λp o e z=>?_,λp o e=>?_⟩
 .rcases g.ch p o e with⟨_,y⟩|y
  .exact y
  .exact g.B p o e (k.B p o y z)
 .rcases g.ch p o e with y|y
  .exact .inl y
  .rcases k.ch p o y with⟨i,f⟩|h
   .exact .inl ⟨i,g.B p o e f⟩
   .exact .inr h
theorem Go.rep{K:Frag}{A b:Fz}{H a:Hp}{w:W}{v:V}(g:Go A H b a)(h:Rep K A.B H w v):Rep K b.B a w v:=Rep.chg g.ch g.B w h
abbrev JU:=Ev->(W->Ev->Prop)->Prop
abbrev JV:=Ev->(List W->Ev->Prop)->Prop
noncomputable def tP(X:Cx)(M:Ms)(R:Addr->Prop)(t:JU):TE:=λe H Q=>∃A c f P,SR X.K M A c e H f/\ER X c R/\t f P/\∀d w v b a,P w a->Go A H d b->SR X.K M d c e b a->Rep X.K d.B b w v->Q v b
noncomputable def U9(X:Cx)(M:Ms)(R:Addr->Prop)(t:JV):TA:=λe H Q=>∃A c f P,SR X.K M A c e H f/\ER X c R/\t f P/\∀d g h b a,P g a->Go A H d b->SR X.K M d c e b a->ai X.K d.B b g h->Q h b
abbrev VP(X:Cx)(M:Ms)(R:Addr->Prop)(e:Expr)(t:JU):Prop:=PE X e (tP X M R t)
abbrev Ew(X:Cx)(M:Ms)(R:Addr->Prop)(es:List Expr)(t:JV):Prop:=PA X es (U9 X M R t)
section
variable{X:Cx}{M:Ms}{R:Addr->Prop}{m m0:Md}{e a b c:Expr}{es rest:List Expr}{t ta tb:JU}{tl:JV}{pos apos cpos p:Pos}{i j:Nat}{st:Stmt}{x:Str}{π:List jm}
theorem Om{t:WT}(h:VE X M R .s e t):VP X M R e (λd Q=>t d λw=>Q w d):=PE.imp h<|by rintro o H Q ⟨A,l,d,P,S,g,h,k⟩;exact⟨A,l,d,_,S,g,h,λw v n f s r=>k A w v n d f (.same s) (S.same s) r.aY⟩
theorem JW(E:(i,.f)∈M)(C:PE X e (iu i))(n:attributeBase e "pop" X.env (eval e X.env)=eval e X.env)(d:(apos.endLine==cpos.line)=true):
 VP X M R (.Call (.Attribute e "pop" apos) [] [] cpos) (λs Q=>match look s i with|some (.lst l)=>∃w,l[l.length -1]?=some w/\Q w (s.set i (some (.lst l.dropLast)))|_=>False):=
 PE.imp (IJ PySem.F.plainAttrs_list PySem.F.slot_list_pop PySem.F.type_list_pop IK C n d)<|by rintro T H Q ⟨A,H0,s,P,S,Z,h,k⟩;obtain⟨l,L,w,K,h⟩:=uM h;obtain⟨U,q,r,I,G,y,u,Y,o⟩:=p8 (π:=[]) S E RV L JO;cases G;obtain⟨v,J,D⟩:=u.get K;obtain⟨B,O,a2,a3,N,z⟩:=o H (ao.refl H) l.dropLast r.dropLast u.dropLast;rw[JP]at z;have g:Go A H B (upd H q (.lst r.dropLast)):=⟨O,a2,a3,N⟩;exact⟨_,I,.inl ⟨rfl,r,.inl (.inl y)⟩,q,r,v,rfl,rfl,y,by rw[u.len];exact J,k B w v _ _ h g z (g.rep D)⟩
theorem JX{op:Operator}(ha:VP X M R a ta)(hb:VP X M R b tb):VP X M R (.BinOp a op b pos) (λD Q=>ta D λx J=>tb J λy f=>eS op x y λz=>Q z f):=by rintro n s N H Q I ⟨A,L,D,P,S,U,p,k⟩;refine wpAny_BinOp (bin ha hb I (R:=λC q l=>∃x y d f,eS op x y (λz=>P z f)/\Go A H d l/\SR X.K M d L N l f/\Rep X.K d.B l x C/\Rep X.K d.B l y q) ⟨A,L,D,_,S,U,p,λA1 x C H1 J G g1 S1 rx=>⟨A1,L,J,_,S1,U,G,λd y q l f E T o Z=>⟨x,y,d,f,E,g1.trans T,o,T.rep rx,Z⟩⟩⟩ ?_);rintro v u Y C q l I2 rv ru ⟨x,y,d,f,h,g,o,G,E⟩;exact uI op n Y N l d.B x y C q v u _ Q I2 o.dom rv ru G.b E.b h λw z H' pw O r=>k d w z H' f pw (g.trans (.same O)) (o.same O) (r.rep o.dom)
theorem JY{op:CmpOp}(hu:X.A.units+64<cLine)(hm:behindInMarks op b=false)(ha:VP X M R a ta)(hb:VP X M R b tb):VP X M R (.Compare a [op] [b] pos) (λD Q=>ta D λx J=>tb J λy f=>eT op x y λz=>Q z f):=by rintro n s N H Q I ⟨A,L,D,P,S,U,p,k⟩;refine wpAny_Compare1 (bin ha hb I (R:=λC q l=>∃x y d f,eT op x y (λz=>P z f)/\Go A H d l/\SR X.K M d L N l f/\Rep X.K d.B l x C/\Rep X.K d.B l y q) ⟨A,L,D,_,S,U,p,λA1 x C H1 J G g1 S1 rx=>⟨A1,L,J,_,S1,U,G,λd y q l f E T o Z=>⟨x,y,d,f,E,g1.trans T,o,T.rep rx,Z⟩⟩⟩ ?_) hm;rintro v u Y C q l I2 rv ru ⟨x,y,d,f,h,g,o,G,E⟩;exact uJ hu op n Y N l d.B x y C q v u _ Q I2 o.dom rv ru G.b E.b h λw z H' pw O r=>k d w z H' f pw (g.trans (.same O)) (o.same O) (r.rep o.dom)
theorem Ex:Ew X M R [] (λd Q=>Q [] d):=PA.imp cj<|by rintro f H Q ⟨A,l,d,P,S,g,h,k⟩;exact k A [] [] H d h (.same (ao.refl H)) S .nil
theorem AY(w:starEach (a::es) X.env=(false,eval a X.env)::starEach es X.env)(z:VP X M R a ta)(y:Ew X M R es tl):Ew X M R (a::es) (λd Q=>ta d λx g=>tl g λn l=>Q (x::n) l):=
 PA.imp (aW z y w)<|by rintro J H Q ⟨A,r,d,P,S,q,h,k⟩;refine⟨A,r,d,_,S,q,h,λI x K N g v B D s=>⟨I,r,g,_,D,q,v,λG n L E l f o C u=>?_⟩⟩;exact k G _ _ E l f (B.trans o) C (.cons (o.rep s) u)
theorem Oo(T:iB b)(Y:VP X M R a ta)(U:VP X M R b tb):VP X M R (.Subscript a b pos) (λr Q=>ta r λx E=>tb E λy o=>GN x y λz=>Q z o):=PE.imp (zX uv Y U T)<|by
 rintro σ H Q ⟨A,N,r,P,S,L,h,k⟩;refine⟨A,N,r,_,S,L,h,λA1 x vx H1 E O D Z f=>⟨A1,N,E,_,Z,L,O,λK y vy J o d q I u=>?_⟩⟩;have f:=(q.rep f).b;cases x with
 |lst l=>
  cases y with
  |int i=>obtain⟨p,s,rfl,g,C⟩:=f.lst;obtain⟨w,e,d⟩:=d;obtain⟨v,G,B⟩:=wc C e;exact .inl ⟨p,s,i,v,rfl,u.int_inv,.inl g,G,k K _ _ J o d (D.trans q) I B⟩
  |_=>exact d.elim
 |tup l=>
  cases y with
  |int i=>obtain⟨p,s,rfl,g,C⟩:=f.tup;obtain⟨w,e,d⟩:=d;obtain⟨v,G,B⟩:=wc C e;exact .inr (.inl ⟨p,s,i,v,rfl,u.int_inv,g,G,k K _ _ J o d (D.trans q) I B⟩)
  |_=>exact d.elim
 |eO ns=>
  cases y with
  |int i=>obtain⟨p,rfl,g⟩:=f.eO;obtain⟨n,e,d⟩:=d;exact .inl ⟨p,_,i,_,rfl,u.int_inv,g,we e,k K _ _ J o d (D.trans q) I (cZ _)⟩
  |_=>exact d.elim
 |_=>exact d.elim
theorem ai.bl{K:Frag}{B:Addr->Prop}{H:Hp}:∀{d:List W}{vs:List V},ai K B H d vs->jM K B H d vs
 |[],_,h=>h.nil_inv
 |w::d,_,h=>by obtain⟨v,r,rfl,g,f⟩:=h.cons_inv;exact⟨v,r,rfl,g.b,f.bl⟩
theorem JZ{y:BI}{s:String}(L:bG X (.builtin s) (JD X.K y))(J:Gl X x)(I:X.mg x=none)(E:bootBuiltins x=some (.builtin s))(N:Ew X M R (e::es) tl)(G:x≠"__name__")(n:(x==("__debug__":Str))=false)
 (he:starEach (e::es) X.env=(false,eval e X.env)::starEach es X.env)(l:(backTo pos (starEach es X.env)).any (·.1)=false):VP X M R (.Call (.Name x p) (e::es) [] pos) (λf Q=>tl f λg d=>ni y g λw=>Q w d):=
 PE.imp (iA L J I E N G n he l)<|by rintro Z H Q ⟨A,U,f,P,S,T,h,k⟩;exact⟨A,U,f,_,S,T,h,λz g vs H1 u D O o C=>⟨z.B,g,λw=>P w u,o.dom,C.bl,D,λw v Y pw q r=>k z w v Y u pw (O.trans (.same q)) (o.same q) (r.rep o.dom)⟩⟩
theorem J0{y:BI}{s:String}(L:bG X (.type s) (JD X.K y))(J:Gl X x)(I:X.mg x=none)(E:bootBuiltins x=some (.type s))(N:Ew X M R (e::es) tl)(G:x≠"__name__")(n:(x==("__debug__":Str))=false)
 (he:starEach (e::es) X.env=(false,eval e X.env)::starEach es X.env)(l:(backTo pos (starEach es X.env)).any (·.1)=false):VP X M R (.Call (.Name x p) (e::es) [] pos) (λf Q=>tl f λg d=>ni y g λw=>Q w d):=
 PE.imp (nV L J I E N G n he l)<|by rintro Z H Q ⟨A,U,f,P,S,T,h,k⟩;exact⟨A,U,f,_,S,T,h,λz g vs H1 u D O o C=>⟨z.B,g,λw=>P w u,o.dom,C.bl,D,λw v Y pw q r=>k z w v Y u pw (O.trans (.same q)) (o.same q) (r.rep o.dom)⟩⟩
theorem Ey(o:∀{q:TE},PE X e q->PS X st (jT q (eB j)))(z:¬aM M j){tt:(Addr->Prop)->JU}(he:∀R,VP X M R e (tt R)):VS X M m st (λd n=>tt d.ex n λw f=>d.nx (f.set j (some w))):=by rintro l s u H D I ⟨A,G,n,d,S,B,hz,h,k⟩;exact o (he d.ex) l s u H D I ⟨A,G,n,_,S,B,h,λJ w v E f y g C r=>k.nx J _ _ E g.ab g.s0 y (C.set z r)⟩
end
section
variable{X:Cx}{M:Ms}{R:Addr->Prop}{m m0:Md}{e o a b c:Expr}{es rest:List Expr}{t ta tb:JU}{tl:JV}{pos apos cpos p:Pos}{i j n:Nat}{st:Stmt}{x:Str}{π:List jm}
theorem Ez{k n:Nat}{fv:Value}{sp:bf}(F:cP X.prog X.w X.K X.mg X.base k fv n (wj X.K n m sp))(hr:bX k X.A)(hg:Gl X x)(hm:X.mg x=some fv)
 (hn:∀d P R,sp d P R->d.length=n)(ha:Ew X M R (e::es) tl)(N:(x==("__debug__":Str))=false)(he:starEach (e::es) X.env=(false,eval e X.env)::starEach es X.env)(L:(backTo pos (starEach es X.env)).any (·.1)=false):
 VP X M R (.Call (.Name x p) (e::es) [] pos) (λD Q=>tl D λd z=>sp d (λw=>Q w z) R):=by
 rintro q s U H Q I ⟨A,H0,D,P,S,er,h,kk⟩;obtain⟨E,Z,hE,hR⟩:=er;refine W5 (oS I hg hm ?_ N);refine PySem.W.callWith_K (h₀:=X.base) I.ok.mod.P7 F.keep (bD (ha pos q s U H (λG u=>∃d f g,Go A H f u/\SR X.K M f H0 U u g/\ai X.K f.B u d G/\sp d (λw=>P w g) R) I ⟨A,H0,D,_,S,⟨E,Z,hE,hR⟩,h,λf d G u g hw O l J=>⟨d,f,g,O,l,J,hw⟩⟩) λus s1 hz=>?_) he L;obtain⟨G,u,I1,r,d,f,g,O,l,J,Y⟩:=hz;exact⟨I1.kG,F.run hr Z I1 r ⟨f.B,d,_,R,hn _ _ _ Y,J,l.dom,Y,λw v T pw y r'=>kk f w v T g pw (O.trans (.same y)) (l.same y) (r'.rep l.dom),λC T rc y=>hE C T rc (l.sm.trans y)⟩⟩
end
theorem J3{x:Str}{n:Nat}{v:V}:∀(l:List Str)(r:List V)(n:Nat),l.Nodup->l[n]?=some x->r[n]?=some v->(l.zip r).lookup x=some v:=λl=>by
 induction l with
 |nil=>intro r n _ e _;exact nn e
 |cons y l g=>
  intro r n b c a;cases r with
  |nil=>exact nn a
  |cons z r=>
   rw[NZ,GC];cases n with
   |zero=>
    cases c;cases a;rw[SZ]
   |succ n=>
    have d:l[n]?=some x:=by simpa using c
    have f:(x==y)=false:=by rw[beq_eq_false_iff_ne];rintro rfl;exact(Pv.mp b).1 (QP d)
    rw[f];exact g r n (Pv.mp b).2 d (by simpa using a)
section
variable{X:Cx}{M:Ms}{R:Addr->Prop}{m m0:Md}{e o a b c:Expr}{es rest:List Expr}{t ta tb:JU}{tl:JV}{pos apos cpos p:Pos}{i j n:Nat}{st:Stmt}{x:Str}{π:List jm}
theorem SR.more{K:Frag}{A:Fz}{y H h:Hp}{k:St}{l:Ev}{G:List Addr}(S:SR K M A y k H l)(s:ao H h)(nw:∀q∈G,H q=none)(ex:∀q∈G,∃o,h q=some o):SR K M ⟨λq=>A.ab q\/q∈G,λq=>A.B q\/q∈G,A.s0⟩ y k h l:=by
 obtain⟨F,O⟩:=S.ow;have u:∀p o,H p=some o->(A.B p\/p∈G)->A.B p:=λp o e z=>by
  rcases z with z|z
  .exact z
  .rw[nw p z]at e;cases e
 refine⟨S.len,λi w d e=>?_,S.sm.trans s,λp z=>?_,S.sl,F,⟨O.un,λi m w C e=>?_,O.emp,O.nd,O.ds,O.nw,λi p d r z=>?_,λp=>?_⟩⟩
 .obtain⟨v,g,f⟩:=S.sh i w d e;exact⟨v,g,Rep.mv s u w f⟩
 .rcases z with z|z
  .exact S.dm.same s p z
  .exact ex p z
 .obtain⟨v,g,f⟩:=O.val i m w C e;exact⟨v,g,Fp.mv s u m f⟩
 .rcases z with z|z
  .exact O.na i p d r z
  .obtain⟨o,e,_⟩:=O.has d r;rw[nw p z]at e;cases e
 .show(A.B p\/p∈G)↔_;rw[O.all p];constructor
  .rintro((z|z)|z)
   .exact .inl (.inl z)
   .exact .inr z
   .exact .inl (.inr z)
  .rintro((z|z)|z)
   .exact .inl (.inl z)
   .exact .inr z
   .exact .inl (.inr z)
theorem J5(h:PE X e (iu i)):PE X e (pZ X.K i []):=PE.imp h<|by rintro g H Q ⟨v,u,f,d,q⟩;cases d;exact⟨v,f,q⟩
theorem qU.ix{K:Frag}{H:Hp}{n:Nat}:∀(π:List jm){v u:V},qU K H v (π++[.ix n]) u->∃p vs,qU K H v π (.ref p)/\(H p=some (.tup vs)\/H p=some (.lst vs))/\vs[n]?=some u
 |[],v,u,h=>by obtain⟨p,vs,x,e,k,g,f⟩:=h;cases f;exact⟨p,vs,by rw[e];rfl,k,g⟩
 |.ix m::π,v,u,h=>by obtain⟨p,vs,x,e,k,g,f⟩:=h;obtain⟨q,d,a,b,c⟩:=qU.ix π f;exact⟨q,d,⟨p,vs,x,e,k,g,a⟩,b,c⟩
 |.fl m _::π,v,u,h=>by obtain⟨p,vs,x,e,k,g,f⟩:=h;obtain⟨q,d,a,b,c⟩:=qU.ix π f;exact⟨q,d,⟨p,vs,x,e,k,g,a⟩,b,c⟩
theorem Oq(h:PE X a (pZ X.K i π))(s:PE X b (tC (.int n)))(l:iB b):PE X (.Subscript a b pos) (pZ X.K i (π++[.ix n])):=
 PE.imp (zX uv h s l)<|by rintro z H Q ⟨v,u,y,w,g⟩;obtain⟨q,f,r,d,k⟩:=qU.ix π w;exact⟨v,.ref q,y,r,d.elim (λd=>.inr (.inl ⟨q,f,n,u,rfl,rfl,g8.of d,bq k,g⟩)) λd=>.inl ⟨q,f,n,u,rfl,rfl,fh.of d,bq k,g⟩⟩
theorem qU.fl{K:Frag}{H:Hp}{n:Nat}{f:Str}:∀(π:List jm){v u:V},qU K H v (π++[.fl n f]) u->∃p vs C k d,qU K H v π (.ref p)/\H p=some (.ins C k (List.zip d vs))/\DW K C d/\d[n]?=some f/\vs[n]?=some u
 |[],v,u,h=>by obtain⟨p,vs,x,e,⟨C,k,d,s,_,y,w⟩,r,l⟩:=h;cases l;exact⟨p,vs,C,k,d,by rw[e];rfl,s,y,w,r⟩
 |.ix m::π,v,u,h=>by obtain⟨p,vs,x,e,s,r,l⟩:=h;obtain⟨q,g,C,k,d,a,b,c⟩:=qU.fl π l;exact⟨q,g,C,k,d,⟨p,vs,x,e,s,r,a⟩,b,c⟩
 |.fl m _::π,v,u,h=>by obtain⟨p,vs,x,e,s,r,l⟩:=h;obtain⟨q,g,C,k,d,a,b,c⟩:=qU.fl π l;exact⟨q,g,C,k,d,⟨p,vs,x,e,s,r,a⟩,b,c⟩
theorem J6{f:Str}(h:PE X a (pZ X.K i π))(s:attributeBase a f X.env (eval a X.env)=eval a X.env):PE X (.Attribute a f pos) (pZ X.K i (π++[.fl n f])):=
 PE.imp (IA h s)<|by rintro E H Q ⟨v,u,A,z,l⟩;obtain⟨q,k,C,D,B,r,y,d,g,w⟩:=qU.fl π z;exact⟨v,.ref q,A,r,q,C,D,_,u,rfl,y,d.1,d.2.2.2 f (QP g),J3 (v:=u) (n:=n) B k n d.2.2.1 g w,l⟩
end
end VL
namespace L2
open PySem PySem.Spec PyProof.Rows
section
variable{pr:Program}{wo:World}{B:Around}{EE:Value->Shared->Prop}
end
section
variable{X:Cx}{pos:Pos}
end
end L2
namespace VL
open PySem PySem.Spec
open PyProof.Rows hiding St
open L2
section
variable{K:Frag}{M M':Ms}{A:Fz}{H0 H H1:Hp}{σ:St}{ε:Ev}
theorem SR.take(S:SR K M' A H0 σ H ε){i:Nat}{m:Md}{w:W}{v:V}{F:List Addr}(l:∀x,x∈M↔x=(i,m)\/x∈M')(D:¬aM M' i)(s:i<ε.length)(nd:F.Nodup)(E:∀p∈F,A.ab p)(nw:∀p∈F,H0 p=none)(P:Fp K A.B H m w v F):
 SR K M ⟨λp=>A.ab p/\p∉F,A.B,A.s0⟩ H0 (σ.set i (some v)) H (ε.set i (some w)):=by
 obtain⟨G,O⟩:=S.ow;have f:∀j,aM M j↔j=i\/aM M' j:=λj=>by
  constructor
  .rintro⟨q,I⟩;rcases(l _).mp I with e|e
   .cases e;exact .inl rfl
   .exact .inr ⟨q,e⟩
  .rintro(rfl|⟨q,I⟩)
   .exact⟨m,(l _).mpr (.inl rfl)⟩
   .exact⟨q,(l _).mpr (.inr I)⟩
 have C:∀j,aM M' j->j≠i:=λj c e=>by subst e;exact D c
 refine⟨by rw[OF,OF];exact S.len,λj y c e=>?_,S.sm,λp z=>S.dm p z.1,λu e=>?_,λj=>if j=i then F else G j,⟨λj N L a b=>?_,λj q y c e=>?_,λj c e=>?_,λj c=>?_,λj k p c J a b=>?_,λj p c d=>?_,λj p c d=>?_,λp=>?_⟩⟩
 .have h:j≠i/\¬aM M' j:=⟨λz=>c ((f j).mpr (.inl z)),λz=>c ((f j).mpr (.inr z))⟩;rw[aN (NM h.1)]at e;obtain⟨u,t,r⟩:=S.sh j y h.2 e;exact⟨u,by rw[KM (NM h.1)];exact t,r⟩
 .obtain⟨t,r⟩:=S.sl u e;exact⟨by rw[KM (NM (C 0 r))];exact t,(f 0).mpr (.inr r)⟩
 .rcases(l _).mp a with a|a
  .rcases(l _).mp b with b|b
   .cases a;cases b;rfl
   .cases a;exact(D ⟨_,b⟩).elim
  .rcases(l _).mp b with b|b
   .cases b;exact(D ⟨_,a⟩).elim
   .exact O.un j N L a b
 .rcases(l _).mp c with a|a
  .cases a;have:=iG e;subst this;exact⟨v,P3 (by rw[S.len];exact s),by rw[Bz rfl];exact P⟩
  .have n:=C j ⟨q,a⟩;rw[aN (NM n)]at e;obtain⟨u,t,r⟩:=O.val j q y a e;exact⟨u,by rw[KM (NM n)];exact t,by rw[Bi n];exact r⟩
 .by_cases n:j=i
  .subst n;have:look (ε.set j (some w)) j=some w:=by rw[aV];exact P3 s
   rw[this]at e;cases e
  .rw[aN (NM n)]at e;rw[Bi n];exact O.emp j (((f j).mp c).resolve_left n) e
 .by_cases n:j=i
  .rw[Bz n];exact nd
  .rw[Bi n];exact O.nd j (((f j).mp c).resolve_left n)
 .by_cases o:j=i
  .by_cases g:k=i
   .rw[o,g]
   .rw[Bz o]at a;rw[Bi g]at b;exact(O.na k p (((f k).mp J).resolve_left g) b (E p a)).elim
  .by_cases g:k=i
   .rw[Bi o]at a;rw[Bz g]at b;exact(O.na j p (((f j).mp c).resolve_left o) a (E p b)).elim
   .rw[Bi o]at a;rw[Bi g]at b;exact O.ds j k p (((f j).mp c).resolve_left o) (((f k).mp J).resolve_left g) a b
 .by_cases n:j=i
  .rw[Bz n]at d;exact nw p d
  .rw[Bi n]at d;exact O.nw j p (((f j).mp c).resolve_left n) d
 .by_cases n:j=i
  .rw[Bz n]at d;exact λz=>z.2 d
  .rw[Bi n]at d;exact λz=>O.na j p (((f j).mp c).resolve_left n) d z.1
 .constructor
  .intro z;by_cases d:p∈F
   .exact .inr ⟨i,(f i).mpr (.inl rfl),by rw[Bz rfl];exact d⟩
   .rcases(O.all p).mp z with z|⟨j,c,Q⟩
    .exact .inl ⟨z,d⟩
    .exact .inr ⟨j,(f j).mpr (.inr c),by rw[Bi (C j c)];exact Q⟩
  .rintro(z|⟨j,c,d⟩)
   .exact(O.all p).mpr (.inl z.1)
   .by_cases n:j=i
    .rw[Bz n]at d;exact(O.all p).mpr (.inl (E p d))
    .rw[Bi n]at d;exact(O.all p).mpr (.inr ⟨j,((f j).mp c).resolve_left n,d⟩)
end
section
variable{X:Cx}{M M':Ms}{m:Md}{st:Stmt}{te:(Addr->Prop)->WT}
end
section
variable{K:Frag}{B B':Addr->Prop}{H:Hp}
mutual
theorem Rep.CO:∀(w:W){v:V},CO w=true->Rep K B H w v->Rep K B' H w v
 |.aL,_,_,r=>by dsimp only[Rep]at r⊢;exact r
 |.bl _,_,_,r=>by dsimp only[Rep]at r⊢;exact r
 |.int _,_,_,r=>by dsimp only[Rep]at r⊢;exact r
 |.str _,_,_,r=>by dsimp only[Rep]at r⊢;exact r
 |.tup l,v,h,r=>by obtain⟨p,vs,e,b,a⟩:=r;exact⟨p,vs,e,b,ai.CO l h a⟩
 |.ty _,_,h,_=>ff h
 |.cls _,_,h,_=>ff h
 |.err _,_,h,_=>ff h
 |.lst _,_,h,_=>ff h
 |.dct _ _,_,h,_=>ff h
 |.obj _ _ _,_,h,_=>ff h
 |.eO _,_,h,_=>ff h
theorem ai.CO:∀(l:List W){vs:List V},AJ l=true->ai K B H l vs->ai K B' H l vs
 |[],_,_,r=>by dsimp only[ai]at r⊢;exact r
 |w::l,vs,h,r=>by obtain⟨v,c,rfl,b,a⟩:=r.cons_inv;rw[AJ,Ap]at h;exact .cons (Rep.CO w h.1 b) (ai.CO l h.2 a)
end
mutual
theorem Fp.flat:∀(m:Md){w:W}{v:V}{F:List Addr},Fp K B H m w v F->flat m w=true->(∀p∈F,¬B' p)->Rep K B' H w v
 |.s,w,v,F,h,f,_=>by dsimp only[Fp]at h;dsimp only[VL.flat]at f;exact Rep.CO w f h.2
 |.f,w,v,F,h,f,n=>by obtain⟨c,p,vs,rfl,rfl,rfl,b,a⟩:=h;dsimp only[VL.flat]at f;exact⟨p,vs,rfl,n p (DL.mpr rfl),.inl b,ai.CO c f a⟩
 |.t e,w,v,F,h,f,n=>by obtain⟨c,p,vs,rfl,rfl,b,a⟩:=h;dsimp only[VL.flat]at f;exact⟨p,vs,rfl,b,eu.flat e a f n⟩
 |.o _ _,w,v,F,h,f,n=>ff f
 |.io _,w,v,F,h,f,n=>ff f
 |.d,w,v,F,h,f,n=>ff f
 |.ls _,w,v,F,h,f,n=>ff f
theorem eu.flat:∀(b:List Md){a:List W}{vs:List V}{F:List Addr},eu K B H b a vs F->vW b a=true->(∀p∈F,¬B' p)->ai K B' H a vs
 |[],a,vs,F,h,f,_=>by obtain⟨rfl,rfl,_⟩:=h;exact .nil
 |m::b,a,vs,F,h,f,n=>by obtain⟨w,i,v,d,k,j,rfl,rfl,rfl,g,e⟩:=h;rw[vW,Ap]at f;exact .cons (Fp.flat m g f.1 λp c=>n p (N0 _ c)) (eu.flat b e f.2 λp c=>n p (Fk _ c))
end
end
section
variable{X:Cx}{M M':Ms}{m m0:Md}{st:Stmt}{ti:(Addr->Prop)->WT}{tc te:WT}{one:Bool}{ts:List Nat}{i n:Nat}
end
section
variable{K:Frag}{M:Ms}{A:Fz}{H0 H:Hp}{σ:St}{ε:Ev}
end
section
variable{X:Cx}{M:Ms}{m:Md}{st:Stmt}{tg it e o:Expr}{j a b:Nat}{pos q:Pos}{x0:W}{te:WT}
end
section
variable{K:Frag}{M M':Ms}{A:Fz}{H0 Hs H H1:Hp}{σ:St}{ε:Ev}
end
section
variable{X:Cx}{M M':Ms}{m:Md}{st:Stmt}{ti:(Addr->Prop)->WT}{te:JU}{i:Nat}
theorem J7{R:Addr->Prop}{l:List Expr}{pos:Pos}{d:JV}(q:Ew X M R l d):VP X M R (.List l pos) (λb Q=>d b λc a=>c.length<=sizeLine/\Q (.lst c) a):=PE.imp (zS q)<|by rintro u H Q ⟨A,s,b,P,S,r,h,k⟩;refine⟨A,s,b,_,S,r,h,λt c o v a f g n e=>⟨by rw[ai.len e];exact f.1,λp j=>?_⟩⟩;have sm:=aF j (.lst o);exact k t _ _ _ a f.2 (g.trans (.same sm)) (n.same sm) ((cE.fresh (ao.refl _) j e).rep n.dom)
theorem J8{R:Addr->Prop}{j:List Expr}{pos:Pos}{l:Nat}{d:JV}(q:Ew X M R j d):VP X M R (.Tuple j l pos) (λb Q=>d b λc a=>c.length<=sizeLine/\Q (.tup c) a):=PE.imp (uu q)<|by rintro v H Q ⟨A,t,b,P,S,r,h,k⟩;refine⟨A,t,b,_,S,r,h,λu c n w a f g s e=>⟨by rw[ai.len e];exact f.1,λp o=>?_⟩⟩;have sm:=aF o (.tup n);exact k u _ _ _ a f.2 (g.trans (.same sm)) (s.same sm) (sr aJ (ai.same sm e))
end
end VL
namespace L2
open PySem PySem.Spec PyProof.Rows
section
variable{κ:Type}[DecidableEq κ]
noncomputable def jt(kvs:List (κ×V))(k:κ):Option V:=(kvs.find? λa=>decide (a.1=k)).map (·.2)
noncomputable def putK(kvs:List (κ×V))(k:κ)(v:V):List (κ×V):=
 if(kvs.any λa=>decide (a.1=k))=true then kvs.map (λa=>if a.1=k then(a.1,v)else a)else kvs++[(k,v)]
theorem iL{p:κ×V}{r:List (κ×V)}{k:κ}(e:p.1=k):jt (p::r) k=some p.2:=by simp[jt,Il,e]
theorem iN{p:κ×V}{r:List (κ×V)}{k:κ}(e:¬p.1=k):jt (p::r) k=jt r k:=by simp[jt,Il,e]
theorem sH(k:κ):∀kvs:List (κ×V),(kvs.any λa=>decide (a.1=k))=(jt kvs k).isSome
 |[]=>rfl
 |p::r=>by
  rw[OH];by_cases e:p.1=k
  .simp only[iL e,Do e,Xi,Option.isSome_some]
  .rw[iN e,He e,Bool.false_or];exact sH k r
theorem jN(kvs:List (κ×V))(k:κ)(v:V):(putK kvs k v).length<=kvs.length+1:=by
 unfold putK;split
 .rw[AN];omega
 .rw[Fm,Eb,ML];omega
theorem ic.yD{o:Option V}{u:Option Value}(r:ic o u):o.isSome=u.isSome:=by
 cases o with
 |none=>cases u with
  |none=>rfl
  |some _=>exact(show False from r).elim
 |some _=>cases u with
  |none=>exact(show False from r).elim
  |some _=>rfl
theorem ic.getD{o:Option V}{u:Option Value}{d:V}{d':Value}(r:ic o u)(a:RelV d d'):RelV (o.getD d) (u.getD d'):=by
 cases o with
 |none=>cases u with
  |none=>exact a
  |some _=>exact(show False from r).elim
 |some _=>cases u with
  |none=>exact(show False from r).elim
  |some _=>exact r
theorem KV.val{kvs:List (κ×V)}{vs:List (κ×Value)}(r:KV kvs vs)(k:κ):ic (jt kvs k) (valueAt vs k):=by
 unfold KV at r
 induction r with
 |nil=>exact Ma
 |@cons p q i a h t f=>
  obtain⟨d,g⟩:=h;by_cases e:p.1=k
  .have c:q.1=k:=d.symm.trans e;have b:valueAt (q::a) k=some q.2:=by simp[valueAt,Il,c]
   rw[iL e,b];exact g
  .have c:¬q.1=k:=λz=>e (d.trans z);have b:valueAt (q::a) k=valueAt a k:=by simp[valueAt,Il,c]
   rw[iN e,b];exact f
theorem KV.any{kvs:List (κ×V)}{vs:List (κ×Value)}(r:KV kvs vs)(k:κ):(kvs.any λa=>decide (a.1=k))=vs.any λa=>decide (a.1=k):=by
 unfold KV at r
 induction r with
 |nil=>rfl
 |cons h t b=>rw[OH,OH,b,h.1]
theorem KV.repl{kvs:List (κ×V)}{vs:List (κ×Value)}(r:KV kvs vs)(k:κ){y:V}{u:Value}(c:RelV y u):
 KV (kvs.map λa=>if a.1=k then(a.1,y)else a) (vs.map λa=>if a.1=k then(a.1,u)else a):=by
 unfold KV at r⊢
 induction r with
 |nil=>exact .nil
 |@cons p q i g h t d=>
  rw[GT,GT];refine .cons ?_ d;obtain⟨b,f⟩:=h;by_cases e:p.1=k
  .rw[Bz e,Bz (b.symm.trans e)];exact⟨b,c⟩
  .rw[Bi e,Bi (λz=>e (b.trans z))];exact⟨b,f⟩
theorem KV.put{kvs:List (κ×V)}{vs:List (κ×Value)}(r:KV kvs vs)(k:κ){y:V}{u:Value}(a:RelV y u):KV (putK kvs k y) (stored vs k u):=by
 unfold putK stored;rw[r.any k];by_cases e:(vs.any λb=>decide (b.1=k))=true
 .rw[Bz e,Bz e];exact r.repl k a
 .rw[Bi e,Bi e];exact Paired.snoc r ⟨rfl,a⟩
theorem KV.keys{kvs:List (κ×V)}{vs:List (κ×Value)}(r:KV kvs vs):kvs.map (·.1)=vs.map (·.1):=by
 unfold KV at r
 induction r with
 |nil=>rfl
 |cons h t a=>rw[GT,GT,a,h.1]
theorem KV.length{kvs:List (κ×V)}{vs:List (κ×Value)}(r:KV kvs vs):kvs.length=vs.length:=Paired.length r
end
theorem wm{P:Program}{w:World}{k:Key}{u:Value}(r:RelV (kV k) u):(aZ P w).is k u=true:=by
 cases k with
 |inl i=>obtain⟨t,e⟩:=(show∃t,u=Value.int i t from r);subst e;exact rq P w i t
 |inr x=>obtain⟨t,e⟩:=(show∃t,u=Value.str x t from r);subst e;exact rC P w x t
theorem oj{P:Program}{w:World}:∀{ks:List Key}{a:List Value},Vals (ks.map kV) a->ItemsAre (aZ P w) ks a
 |[],_,r=>by rw[XO]at r;cases r;exact .nil
 |k::ks,_,r=>by
  rw[GT]at r;cases r with
  |cons h t=>exact .cons (wm h) (oj t)
abbrev KT(H:Hp):List (List Key×V)->List (List Key×Addr×Value)->Prop:=Paired λp q=>p.1=q.1/\H q.2.1=some (.tup (p.1.map kV))/\RelV p.2 q.2.2
theorem KT.val{H:Hp}{kvs:List (List Key×V)}{d:List (List Key×Addr×Value)}(r:KT H kvs d)(k:List Key):ic (jt kvs k) ((atKey d k).map (·.2)):=by
 induction r with
 |nil=>exact Ma
 |@cons p q j a h t g=>
  obtain⟨f,_,i⟩:=h;by_cases e:p.1=k
  .have c:q.1=k:=f.symm.trans e;have b:atKey (q::a) k=some q.2:=by simp[atKey,Il,c]
   rw[iL e,b];exact i
  .have c:¬q.1=k:=λz=>e (f.trans z);have b:atKey (q::a) k=atKey a k:=by simp[atKey,Il,c]
   rw[iN e,b];exact g
theorem KT.repl{H:Hp}{kvs:List (List Key×V)}{c:List (List Key×Addr×Value)}(r:KT H kvs c)(k:List Key){y:V}{u:Value}(f:RelV y u):
 KT H (kvs.map λb=>if b.1=k then(b.1,y)else b) (c.map (putAt k u)):=by
 induction r with
 |nil=>exact .nil
 |@cons p q l j h t g=>
  rw[GT,GT];refine .cons ?_ g;obtain⟨a,d,i⟩:=h;unfold putAt;by_cases e:p.1=k
  .rw[Bz e,Bz (a.symm.trans e)];exact⟨a,d,f⟩
  .rw[Bi e,Bi (λz=>e (a.trans z))];exact⟨a,d,i⟩
theorem KT.put{H:Hp}{kvs:List (List Key×V)}{a:List (List Key×Addr×Value)}(r:KT H kvs a)(k:List Key){b:Addr}{y:V}{u:Value}(f:H b=some (.tup (k.map kV)))(c:RelV y u):
 KT H (putK kvs k y) (storedH a k b u):=by
 have e:(kvs.any λd=>decide (d.1=k))=(atKey a k).isSome:=by rw[sH,(r.val k).yD,Option.isSome_map]
 unfold putK storedH;rw[e];by_cases q:(atKey a k).isSome=true
 .rw[Bz q,Bz q];exact r.repl k c
 .rw[Bi q,Bi q];exact Paired.snoc r ⟨rfl,f,c⟩
theorem KT.keeps{H H':Hp}{kvs:List (List Key×V)}{c:List (List Key×Addr×Value)}(r:KT H kvs c)(d:∀b a,H b=some (.tup a)->H' b=some (.tup a)):KT H' kvs c:=
 Paired.zA r λ_ _ z=>⟨z.1,d _ _ z.2.1,z.2.2⟩
section
variable{P:Program}{w:World}{H:Hp}{h:Heap}{a:Addr}
theorem GS{u:HO}(ok:fS P w H h)(e:Rd H a u):aT P w H h a u:=e.ok ok
theorem om{kvs:List (Key×V)}(b:fS P w H h)(e:Rd H a (.dK kvs)):kvs.length<=sizeLine/\(a==sysModules)=false/\∃vs,KV kvs vs/\h.DictOf (aZ P w) a vs:=
 show aT P w H h a (.dK kvs)from GS b e
theorem Ot{kvs:List (Key×V)}(b:fS P w H h)(e:H a=some (.dK kvs)):kvs.length<=sizeLine/\(a==sysModules)=false/\∃vs,KV kvs vs/\h.DictOf (aZ P w) a vs:=om b (.inl e)
theorem p9{ks:List Key}(c:fS P w H h)(e:H a=some (.tup (ks.map kV))):(tupleKind (aZ P w)).is h ks a:=by obtain⟨_,b,r,o,g,f,n,d⟩:=(show aT P w H h a (.tup (ks.map kV))from c a _ e);exact⟨o,b.toArray,n,g,f,d,by simpa using oj r⟩
theorem sI{kvs:List (List Key×V)}(f:fS P w H h)(e:Rd H a (.dT kvs)):kvs.length<=sizeLine/\(a==sysModules)=false/\
 ∃c,KT H kvs c/\h.DictOfH (tupleKind (aZ P w)) a c:=by
 obtain⟨z,y,c,r,o,v,A,u,s,n,k,j⟩:=(show aT P w H h a (.dT kvs)from GS f e);refine⟨z,y,c,r,o,v,A,u,s,n,k,λx b=>?_,j⟩;have d:∀{l:List (List Key×V)}{m:List (List Key×Addr×Value)},KT H l m->∀x∈m,(tupleKind (aZ P w)).is h x.1 x.2.1:=by
  intro l m q
  induction q with
  |nil=>intro x b;exact nomatch b
  |@cons p q C B g t i=>
   intro x b;rcases FV.mp b with e|b
   .subst e;exact p9 f (by rw[<-g.1];exact g.2.1)
   .exact i x b
 exact d r x b
theorem Ou{kvs:List (List Key×V)}(c:fS P w H h)(e:H a=some (.dT kvs)):kvs.length<=sizeLine/\(a==sysModules)=false/\
 ∃b,KT H kvs b/\h.DictOfH (tupleKind (aZ P w)) a b:=sI c (.inl e)
end
noncomputable def qa(H:Hp)(a:Addr)(y:V)(r:Option V):Prop:=
 (∃c k,Rd H a (.dK c)/\y=kV k/\r=jt c k)\/∃c k b,Rd H a (.dT c)/\y=.ref b/\H b=some (.tup (k.map kV))/\r=jt c k
noncomputable def AZ(H:Hp)(a:Addr)(y v:V)(H':Hp):Prop:=
 (∃c k,H a=some (.dK c)/\y=kV k/\c.length<sizeLine/\H'=upd H a (.dK (putK c k v)))\/
 ∃c k b,H a=some (.dT c)/\y=.ref b/\H b=some (.tup (k.map kV))/\c.length<sizeLine/\H'=upd H a (.dT (putK c k v))
theorem qa.k{H:Hp}{a:Addr}{kvs:List (Key×V)}{k:Key}(e:H a=some (.dK kvs)):qa H a (kV k) (jt kvs k):=.inl ⟨kvs,k,.inl e,rfl,rfl⟩
theorem AZ.k{H:Hp}{a:Addr}{kvs:List (Key×V)}{k:Key}{v:V}(e:H a=some (.dK kvs))(b:kvs.length<sizeLine):AZ H a (kV k) v (upd H a (.dK (putK kvs k v))):=.inl ⟨kvs,k,e,rfl,b,rfl⟩
section
variable{X:Cx}{pins:List (Addr×Obj)}{σ:St}{H:Hp}{s:Shared}{a:Addr}{y v:V}{u r:Value}{o:Option V}{A:Around}{E:Value->Shared->Prop}
theorem Inv.big(I:Inv X pins σ H s):sysModules<s.heap.objs.size:=by have h:mainGlobals<s.heap.objs.size:=(I.mod.glob.keeps I.bk).lt;exact XM (by decide) h
theorem yE{Q:Value->Shared->Prop}(B:A.units+1<cLine)(I:Inv X pins σ H s)(g:qa H a y (some v))(q:RelV y u)(h:∀f s',Inv X pins σ H s'->RelV v f->Q f s'):
 wpAny (model X.prog X.w) A (getItem (.ref a) u) Q E s:=by
 rcases g with⟨i,k,e,n,l⟩|⟨i,k,b,e,n,G,l⟩
 .subst n;obtain⟨z,D,x,d,dd⟩:=om I.hok e;obtain⟨f,j,c⟩:=ic.some_of (v:=v) (o:=valueAt x k) (by rw[l];exact d.val k);exact wpAny_getItem_of (wm q) dd.mapOf j (h f _ (I.tok _) c)
 .subst n;cases(show u=Value.ref b from q);obtain⟨z,D,t,d,dd⟩:=sI I.hok e;obtain⟨f,j,c⟩:=ic.some_of (v:=v) (o:=(atKey t k).map (·.2)) (by rw[l];exact d.val k);obtain⟨p,C,m⟩:=IR.mp j;refine wpAny_getItem_heap (tupleKind_room_in1 B) (p9 I.hok G) dd C ?_;rw[m];exact h f _ (I.tok _) c
theorem wu{h':Heap}{t':Nat}{c:HO}(I:Inv X pins σ H s)(f:MK (H a))(g:Heap.SameBut a s.heap h')(he:∃q,h'.get? a=some q)(d:aT X.prog X.w (upd H a c) h' a c):
 Inv X pins σ (upd H a c) {s with heap:=h',toks:=t'}:=
 I.write (x:=a) (e:=a) f (.inl rfl) (λb q h z=>(g.2 b h).trans z) he d
theorem J9{P:Program}{w:World}{H':Hp}{h':Heap}{kvs:List (Key×V)}{vs:List (Key×Value)}(z:kvs.length<=sizeLine)(c:(a==sysModules)=false)(b:KV kvs vs)(dd:h'.DictOf (aZ P w) a vs):
 aT P w H' h' a (.dK kvs):=⟨z,c,vs,b,dd⟩
theorem yF{H':Hp}{Q:Unit->Shared->Prop}(L:A.units+1<cLine)(I:Inv X pins σ H s)(g:AZ H a y v H')(B:RelV y u)(rv:RelV v r)(h:∀s',Inv X pins σ H' s'->Q () s'):
 wpAny (model X.prog X.w) A (setItem (.ref a) u r) Q E s:=by
 rcases g with⟨f,k,e,t,l,x⟩|⟨f,k,b,e,t,G,l,x⟩
 .subst t x;obtain⟨z,p,K,d,dd⟩:=Ot I.hok e;have hz:K.length<=sizeLine:=by rw[<-d.length];exact z
  have n:(putK f k v).length<=sizeLine:=by have:=jN f k v;omega
  refine wpAny_setItem_pairs (hsz:=hz) (wm B) dd λC j m=>h _ ?_;have M:∃q,C.get? a=some q:=let⟨q,_,_,i,_⟩:=j;⟨q,i⟩
  exact wu I (by rw[e];exact Ma) m M (J9 n p (d.put k rv) j)
 .subst t x;cases(show u=Value.ref b from B);obtain⟨z,p,J,d,dd⟩:=Ou I.hok e;have hz:J.length<=sizeLine:=by rw[<-Paired.length d];exact z
  have n:(putK f k v).length<=sizeLine:=by have:=jN f k v;omega
  refine wpAny_setItem_heap (hsz:=hz) (tupleKind_room_in1 L) (p9 I.hok G) dd λC j m=>h _ ?_;obtain⟨q,S,T,i,R,P,O,_,N⟩:=j;refine wu I (by rw[e];exact Ma) m ⟨q,i⟩ ⟨n,p,_,(d.put k G rv).keeps λc U D=>?_,q,S,T,i,R,P,O,N⟩;rw[ay (MJ D e (λz=>nomatch z))];exact D
end
section
variable{X:Cx}{pins:List (Addr×Obj)}{σ:St}{H:Hp}{s:Shared}{a:Addr}{kvs:List (Key×V)}{k:Key}{u:Value}{A:Around}{E:Value->Shared->Prop}
end
noncomputable def Ka(i:Expr):Prop:=∀a b,subscripted i false a b=operate [a,b] (getItem a b)
theorem EA{prog:Program}{w:World}{A:Around}{E:Value->Shared->Prop}{s:Shared}{env:Env}{b a:Expr}{pos:Pos}{T m:String}{Q:Value->Shared->Prop}
 (p:typeLookup (.type T) "__getitem__"=pure (some (.builtin m)))(n:Ka a)
 (h:wpAny (model prog w) A (eval b env) (λo f=>wpAny (model prog w) A (eval a env) (λi c=>c.TypeIs o T/\wpAny (model prog w) A (getItem o i) Q E c) E f) E s):
 wpAny (model prog w) A (eval (.Subscript b a pos) env) Q E s:=by
 refine Subscript_ (PH h (λo f k=>PH k (λi c d=>?_) λ_ _ x=>x) λ_ _ x=>x);obtain⟨l,d⟩:=d;unfold subscriptTail;refine D2 ?_;rw[getitemInPython_of_ne l.not_modules];refine D2 (wpAny_specialOf l p ?_);have g:wpAny (model prog w) A (subscripted a false o i) (λr e=>wpAny (model prog w) A (letTemporaryGo b o r>>=λ_=>pure r) Q E e) E c:=by rw[n o i];exact wpAny_operating (PH d (λr e j=>D2 (wpAny_letTemporaryGo (Hn j))) λ_ _ x=>x)
 first
  |exact Hn (D2 g)
  |exact D2 (Hn (D2 g))
  |exact D2 g
theorem sJ{X:Cx}{c:List (Addr×Obj)}{f:St}{H:Hp}{s:Shared}{a:Addr}{y:V}{o:Option V}(I:Inv X c f H s)(g:qa H a y o):s.TypeIs (.ref a) "dict":=by
 rcases g with⟨d,k,e,_,_⟩|⟨d,k,b,e,_,_,_⟩
 .obtain⟨_,_,i,_,dd⟩:=om I.hok e;exact dd.typeIs
 .obtain⟨_,_,h,_,dd⟩:=sI I.hok e;exact dd.typeIs
noncomputable def Ov(e d:TE):TE:=λb H Q=>e b H λx f=>d b f λy c=>∃a v,x=.ref a/\qa c a y (some v)/\Q v c
section
variable{X:Cx}{o i e value:Expr}{pos pos' tpos:Pos}{td ty tv:TE}
theorem EB(p:X.A.units+1<cLine)(r:PE X o td)(t:PE X i ty)(q:Ka i):PE X (.Subscript o i pos) (Ov td ty):=by intro b s d H Q I h;refine EA PySem.F.slot_dict_getitem.lookup q (bD (r b s d H _ I h) λu j ⟨x,B,I1,l,n⟩=>bD (t b j d B _ I1 n) λG E ⟨y,z,f,k,a,v,ex,g,m⟩=>?_);subst ex;obtain rfl:u=Value.ref a:=l;exact⟨sJ f g,yE p f g k λC D w c=>⟨v,z,w,c,m⟩⟩
end
theorem A3{P:Program}{w:World}{H:Hp}(h:Heap)(a:sysModules<h.objs.size):aT P w H (h.push {cls:=.type "dict",data:=.dict #[]}) h.objs.size (.dK []):=
 ⟨KE _,beq_eq_false_iff_ne.mpr (NM (Ha a)),[],.nil,Heap.DictOf.new h⟩
noncomputable def Kc:TE:=λ_ H Q=>∀p,H p=none->Q (.ref p) (upd H p (.dK []))
section
variable{X:Cx}{pos:Pos}
theorem A4:PE X (.Dict [] [] pos) Kc:=λb s c H Q I h=>wpAny_Dict_empty ⟨.ref s.heap.objs.size,_,I.laid (a:=s.heap.objs.size) (o:=.dK []) (t':=s.toks) (λ_ _ q=>D1 _ q) (BM _) (A3 s.heap I.big),rfl,h _ (I.hok.fresh (BM _))⟩
end
structure M2(X:Cx)(o:Expr)(m:Str)(apos:Pos)(e f:Expr)(cpos:Pos):Prop where
 base:attributeBase o m X.env (eval o X.env)=eval o X.env
 few:((backTo cpos (starEach [e,f] X.env)).all (λx=>!x.1)&&(backToKw cpos (keywordEach [] X.env)).all (λx=>x.1.isSome)
  &&decide (([e,f]:List Expr).length+([]:List Keyword).length+(if([]:List Keyword).isEmpty then 0 else 1)<30))=true
 line:(apos.endLine==cpos.line)=true
 trees:backTo cpos (starEach [e,f] X.env)=[(false,eval e X.env),(false,eval f X.env)]
noncomputable def Tj(H:Hp)(a:Addr):Prop:=(∃b,Rd H a (.dK b))\/∃b,Rd H a (.dT b)
theorem Kd{X:Cx}{f:List (Addr×Obj)}{k:St}{H:Hp}{s:Shared}{a:Addr}(I:Inv X f k H s)(d:Tj H a):
 s.TypeIs (.ref a) "dict"/\(∀b,Value.ref a=.ref b->∃c,s.heap.get? b=some c/\c.dict=none)/\(a==sysModules)=false:=by
 rcases d with⟨g,e⟩|⟨g,e⟩
 .obtain⟨_,h,m,_,dd⟩:=om I.hok e;refine⟨dd.typeIs,λb q=>?_,h⟩;cases q;obtain⟨c,_,_,j,i,_⟩:=dd;exact⟨c,j,i.2.1⟩
 .obtain⟨_,h,l,_,dd⟩:=sI I.hok e;refine⟨dd.typeIs,λb q=>?_,h⟩;cases q;obtain⟨c,_,_,j,i,_⟩:=dd;exact⟨c,j,i.2.1⟩
section
variable{X:Cx}{pins:List (Addr×Obj)}{σ:St}{H:Hp}{s:Shared}{a:Addr}{y d:V}{u r:Value}{o:Option V}{A:Around}{E:Value->Shared->Prop}
theorem Ke{Q:Value->Shared->Prop}(t:A.units+1<cLine)(I:Inv X pins σ H s)(g:qa H a y o)(n:RelV y u)(p:RelV d r)(h:∀m s',Inv X pins σ H s'->RelV (o.getD d) m->Q m s'):
 wpAny (model X.prog X.w) A (call (.builtin "dict.get") [.ref a,u,r]) Q E s:=by
 rcases g with⟨f,k,e,j,l⟩|⟨f,k,b,e,j,v,l⟩
 .subst j;obtain⟨z,i,x,c,dd⟩:=om I.hok e;refine call_meetsIn XS dd.typeIs PySem.F.entry_dict_get (PySem.F.args_dict_get_3 _ _ _) (meets_dict_get_default (aZ X.prog X.w) a (wm n) i r) ⟨_,dd.mapOf,h _ _ (I.tok _) ?_⟩;rw[l];exact(c.val k).getD p
 .subst j;cases(show u=Value.ref b from n);obtain⟨z,i,q,c,dd⟩:=sI I.hok e;refine call_meetsIn XS dd.typeIs PySem.F.entry_dict_get (PySem.F.args_dict_get_3 _ _ _) (meetsH_dict_get_default (tupleKind (aZ X.prog X.w)) a b i r) ⟨tupleKind_room_in1 t,k,q,p9 I.hok v,dd,h _ _ (I.tok _) ?_⟩;rw[l];exact(c.val k).getD p
end
noncomputable def Kg(g e f:TE):TE:=λb H Q=>g b H λx d=>∃a,x=.ref a/\Tj d a/\e b d λy h=>f b h λz c=>∃o,qa c a y o/\Q (o.getD z) c
section
variable{X:Cx}{o e f:Expr}{apos cpos:Pos}{td ty tx:TE}
theorem A5(B:X.A.units+1<cLine)(C:PE X o td)(he:PE X e ty)(D:PE X f tx)(m:M2 X o "get" apos e f cpos):PE X (.Call (.Attribute o "get" apos) [e,f] [] cpos) (Kg td ty tx):=by intro b s c H Q I h;refine wpAny_Call_method m.base m.few m.line PySem.F.plainAttrs_dict XS PySem.F.type_dict_get (bD (C b s c H _ I h) λu n ⟨x,M,I1,r,a,ex,d,w⟩=>?_);subst ex;obtain rfl:u=Value.ref a:=r;obtain⟨k,j,_⟩:=Kd I1 d;refine⟨k,j,?_⟩;rw[m.trees];refine Calls.callWith_builtin rfl (Calls.evalArgs_plain (XE (bD (he b n c M _ I1 w) λS l ⟨y,L,J,q,v⟩=>XE (bD (D b l c L _ J v) λT P ⟨z,K,G,p,R,g,t⟩=>Calls.spliced_nil ?_))));exact Ke B G g q p λN O E i=>⟨_,K,E,i,t⟩
end
section
variable{X:Cx}{pins:List (Addr×Obj)}{σ:St}{H:Hp}{s:Shared}{a:Addr}{kvs:List (Key×V)}{A:Around}{E:Value->Shared->Prop}
end
section
variable{X:Cx}{pins:List (Addr×Obj)}{σ:St}{H:Hp}{s:Shared}{a:Addr}{y:V}{u:Value}{A:Around}{E:Value->Shared->Prop}
end
end L2
namespace L2
open PySem PySem.Spec PyProof.Rows PySem.W
variable{X:Cx}
theorem ints_of{ns:List Int}:∀{a:List Value},a.length=ns.length->(∀(j:Nat)(v:Value),a[j]?=some v->∃n t,ns[j]?=some n/\v=Value.int n t)->IntsAre a ns:=by
 induction ns with
 |nil=>intro a h _;rw[Oy.mp h];exact .nil
 |cons n ns b=>
  intro a h k;cases a with
  |nil=>cases h
  |cons u a=>obtain⟨f,t,d,c⟩:=k 0 u rfl;cases d;subst c;exact .cons n t (b (by simpa using h) λj v e=>k (j+1) v (by simpa using e))
theorem A6{prog:Program}{w:World}{A:Around}{E:Value->Shared->Prop}{s:Shared}{T:String}{r d:Addr}{n:Nat}{P:Nat->Value->Prop}{v:Heap->Prop}{R:List Value->Shared->Prop}(K:KdlSrc prog w T r d n P v)(B:A.handled=none)(p:v s.heap)(z:n<=sizeLine)
 (h:∀(g:Heap)(i:Nat)(a:Array Value),s.heap.objs.size<g.objs.size->(∀b o,s.heap.get? b=some o->g.get? b=some o)->ItemsOf P a n->R a.toList {s with heap:=g,toks:=i}):wpAny (model prog w) A (collect (.ref r)) R E s:=by
 have u:=K.there _ p;unfold collect;refine D2 (wpAny_runValue (codeAny_builtin entry_proto_collect' ?_));rw[X3 PySem.F.plain_proto_collect _];show wpAny _ A.in1 (newList []>>=λl=>again (.builtin "list.__iadd__" ⟨[l,.ref r],[]⟩)) _ _ s;refine D2 (XQ ?_);refine Hn ⟨plainId_quiet PySem.F.plain_list_iadd _,codeAny_builtin entry_list_iadd' ?_⟩;rw[X3 PySem.F.plain_list_iadd _];have D:(s.heap.push {cls:=.type "list",data:=.seq ([]:List Value).toArray}).get? s.heap.objs.size=some {cls:=.type "list",data:=.seq #[]}:=Fn _ rfl;show wpAny _ A.in1 (Builtin.List.listExtendWith (.ref s.heap.objs.size) (.ref r) (.ref s.heap.objs.size)) _ _ _;have m:=kdl_extend (A:=A) (s:={s with heap:=s.heap.push {cls:=.type "list",data:=.seq ([]:List Value).toArray}}) (R:=λ(q:Result)(t:Shared)=>∃(g:Heap)(i:Nat)(a:Array Value)(c:Nat),q=.ok (.ret (.ref s.heap.objs.size))/\t={s with heap:=g,toks:=i}/\
  (∀b o,s.heap.get? b=some o->g.get? b=some o)/\g.get? s.heap.objs.size=some {cls:=.type "list",dict:=none,data:=.seq a c,slots:= #[]}/\ItemsOf P a n) K B (K.keep _ _ p λb _ o e=>D1 _ e) s.heap.objs.size (WL u.1) (WL u.2) (.ref s.heap.objs.size) 0 D
  (λg i a c k j a2=>⟨g,i,a,c,rfl,rfl,λb o e=>k b o (Ha (Ee e)) (D1 _ e),j,a2⟩) z
 refine PH m (λf t x=>?_) λe t x=>?_
 .cases f with
  |done f=>
   obtain⟨g,i,a,c,e,rfl,k,j,a2⟩:=x;cases e;show wpAny _ A (load s.heap.objs.size>>=_) _ _ _
   exact D2 (wpAny_load j (Hn (h g i a (Ee j) k a2)))
  |again H=>refine⟨x.1,WX x.2 λq G y=>?_⟩;obtain⟨g,i,a,c,rfl,rfl,k,j,a2⟩:=y;show wpAny _ A (load s.heap.objs.size>>=_) _ _ _;exact D2 (wpAny_load j (Hn (h g i a (Ee j) k a2)))
 .obtain⟨_,_,_,_,C,_⟩:=x;cases C
theorem EC{prog:Program}{w:World}{n:Int}{v:Value}(h:(aZ prog w).is (.inl n) v=true):∃t,v=Value.int n t:=by
 have h:kF (.inl n) v=true:=h;rcases aS h with⟨i,t,e,rfl⟩|⟨x,t,e,rfl⟩
 .cases e;exact⟨t,rfl⟩
 .cases e
theorem uN(Z:X.calm=true):bG X (.builtin "sorted") (λL H Q=>∃(a:Addr)(kvs:List (Key×V))(ns:List Int),L=[V.ref a]/\H a=some (.dK kvs)/\kvs.map (·.1)=ns.map IV/\ns.length<64/\
 ∀(p:Addr)(l:List Int),H p=none->l.Perm ns->l.Pairwise (·<=·)->Q (.ref p) (upd H p (.lst (l.map V.int)))):=by
 intro N s σ H L us Q I r h;obtain⟨a,kvs,ns,rfl,ha,R,g,q⟩:=h;obtain⟨u,rfl,S⟩:=vals1 r;cases S;obtain⟨z,T,i,y,dd⟩:=om I.hok (.inl ha);obtain⟨ep,J⟩:=dd.dictAt;have C:i.length=ns.length:=by have B:=GM RT R;rw[AN,AN]at B;have K:=y.length;omega
 have keys:i.map (·.1)=ns.map IV:=by rw[<-R];exact y.keys.symm
 have P:i.length<=sizeLine:=by rw[C];exact Hm (W9 g) (by decide)
 refine Calls.call_function_entry kind_sorted plain_sorted entry_sorted (args_sorted1 _) ?_;unfold Builtin.«sorted»;refine D2 (m:=checkCount "sorted" 1 1 _) (Hn ?_);refine D2 (A6 (A:=X.A.in1) (kdl_dict (knd:=aZ X.prog X.w) (kvs:=i) (ep:=ep) T) (I.ok.hd Z) J P λh' M c d G f=>?_);have E:c.toList.length=i.length:=by rw[Gw];exact f.1
 have hI:IntsAre c.toList ns:=ints_of (by rw[E,C]) λj v e=>by
  obtain⟨k,x,U,Y⟩:=f.2 j v (by rw[<-XT];exact e);have K:(i.map (·.1))[j]?=some k:=by rw[FK,U];rfl
  rw[keys,FK]at K;obtain⟨n,en,rfl⟩:=IR.mp K;obtain⟨t,rfl⟩:=EC Y;exact⟨n,t,en,rfl⟩
 refine D2 (wpAny_newList ?_ (by rw[E];exact P));have D:(h'.push (seqObj "list" c.toList.toArray 0)).get? h'.objs.size=some (seqObj "list" c.toList.toArray 0):=Fn _ rfl;show wpAny _ _ _ _ _ {s with heap:=h'.push (seqObj "list" c.toList.toArray 0),toks:=M};refine D2 (WK (wpAny_call_entry slot_list_sort ⟨_,D,rfl⟩ entry_list_sort (list_sort_tree D hI (by rw[E,C];exact g) λout l a1 a2 a3=>⟨_,rfl,?_⟩) (args_list_sort _)));refine Hn ⟨_,rfl,?_⟩;obtain⟨Va,RW⟩:=sortedHeap_at (out:=out) D;have d:=W9 d;refine⟨.ref h'.objs.size,_,I.laid (a:=h'.objs.size) (o:=.lst (l.map V.int)) (t':=M) (h':=sortedHeap (h'.push (seqObj "list" c.toList.toArray 0)) h'.objs.size c.toList out) (λb u e=>?_) d ⟨?_,out.toList,Va,jg a1,?_⟩,rfl,q _ l (I.hok.fresh d) a2 a3⟩
 .have B:=G b u e;have O:=Ee B;rw[sortedHeap_old (Ha O) (by rw[size_push'];exact QQ O)];exact D1 _ B
 .rw[AN,a2.length_eq];exact Hm (W9 g) (by decide)
 .rw[RW]
end L2
namespace VL
open PySem PySem.Spec
open PyProof.Rows hiding St
open L2
section
variable{K:Frag}{B:Addr->Prop}{H:Hp}{j:Int}
theorem iO(k:Key):vV j (fR k)=decide (k=IV j):=by
 cases k with
 |inl i=>
  show decide (i=j)=_;by_cases e:i=j
  .rw[e,Do rfl,Do rfl]
  .rw[He e,He (λz=>e (by cases z;rfl))]
 |inr x=>exact(He (λz=>by cases z)).symm
theorem lM:∀{kvs:List (Key×V)}{a:List W},ai K B H a (kvs.map (·.2))->(∃w v,gC j (kvs.map λx=>fR x.1) a=some w/\jt kvs (.inl j)=some v/\Rep K B H w v)\/(gC j (kvs.map λx=>fR x.1) a=none/\jt kvs (.inl j)=none)
 |[],a,h=>.inr ⟨rfl,rfl⟩
 |x::kvs,[],h=>by have h:(x::kvs).map (·.2)=[]:=h;cases h
 |x::kvs,w::a,h=>by
  obtain⟨v,r,e,c,b⟩:=h;cases e;by_cases e:x.1=IV j
  .refine .inl ⟨w,x.2,?_,iL e,c⟩;show(if vV j (fR x.1)=true then some w else _)=_;rw[Bz (by rw[iO];exact Do e)]
  .have d:gC j ((x::kvs).map λx=>fR x.1) (w::a)=gC j (kvs.map λx=>fR x.1) a:=by show(if vV j (fR x.1)=true then some w else _)=_;rw[Bi (by rw[iO,Fh];exact e)]
   rw[d,iN e];exact lM b
theorem wz:∀kvs:List (Key×V),(kvs.map λx=>fR x.1).any (vV j)=kvs.any λa=>decide (a.1=IV j)
 |[]=>rfl
 |x::kvs=>by rw[GT,OH,OH,wz kvs,iO]
theorem A7{w:W}{v:V}{kvs:List (Key×V)}{a:List W}(h:ai K B H a (kvs.map (·.2)))(r:Rep K B H w v):
 lE j (kvs.map λx=>fR x.1)=(putK kvs (.inl j) v).map (λx=>fR x.1)/\ai K B H (lF j w (kvs.map λx=>fR x.1) a) ((putK kvs (.inl j) v).map (·.2)):=by
 unfold lE lF putK;rw[wz];by_cases e:(kvs.any λb=>decide (b.1=IV j))=true
 .rw[Bz e,Bz e,Bz e];clear e;constructor
  .rw[Qr];refine PP λx _=>?_;show _=fR (if x.1=IV j then(x.1,v)else x).1;split<;>rfl
  .induction kvs generalizing a with
   |nil=>
    cases a with
    |nil=>exact .nil
    |cons _ _=>obtain⟨_,_,e,_⟩:=h;cases e
   |cons x kvs c=>
    cases a with
    |nil=>have h:(x::kvs).map (·.2)=[]:=h;cases h
    |cons u a=>
     obtain⟨y,q,e,f,d⟩:=h;cases e;refine⟨_,_,rfl,?_,c d⟩;show Rep K B H (if vV j (fR x.1)=true then w else u) (if x.1=IV j then(x.1,v)else x).2;rw[iO];by_cases e:x.1=IV j
     .rw[Bz (Do e),Bz e];exact r
     .rw[Bi (by rw[Fh];exact e),Bi e];exact f
 .rw[Bi e,Bi e,Bi e];constructor
  .rw[Iy];rfl
  .rw[Iy];exact h.app (.cons r .nil)
end
theorem wB{K:Frag}{M:Ms}{A:Fz}{t H:Hp}{j:St}{k:Ev}{i:Nat}{ks u:List W}(S:SR K M A t j H k)(f:(i,.d)∈M)(y:look k i=some (.dct ks u)):
 ∃p kvs,j[i]?=some (some (.ref p))/\H p=some (.dK kvs)/\ks=kvs.map (λx=>fR x.1)/\ai K A.B H u (kvs.map (·.2))/\∀c,ao H c->∀(a:List (Key×V))(b g:List W),b=a.map (λx=>fR x.1)->ai K A.B c g (a.map (·.2))->
  ∃h,h.ab=A.ab/\h.s0=A.s0/\SR K M h t j (upd c p (.dK a)) (k.set i (some (.dct b g))):=by
 obtain⟨F,O⟩:=S.ow;obtain⟨v,l,r⟩:=O.val i .d _ f y;obtain⟨Wj,Wk,p,kvs,R,rfl,D,C,L,P⟩:=r;cases R;have G:p∈F i:=by rw[D];exact Da
 have Og:A.B p:=(O.all p).mpr (.inr ⟨i,⟨.d,f⟩,G⟩);refine⟨p,kvs,l,C,L,P,λc s a b g Q I=>?_⟩;have Z:=S.same s;have O1:Jg K M A t j c k F:=⟨O.un,λi m w f e=>let⟨v,l,r⟩:=O.val i m w f e;⟨v,l,Fp.mv s (λ_ _ _ z=>z) m r⟩,O.emp,O.nd,O.ds,O.nw,O.na,O.all⟩;have E:=s _ _ C;have T:sj A.B c (upd c p (.dK a)):=.put E rfl Og;have N:∀q o,c q=some o->(vU o=true/\q∈F i)\/upd c p (.dK a) q=some o:=λq o e=>by
  by_cases n:q=p
  .subst n;rw[E]at e;cases e;exact .inl ⟨rfl,G⟩
  .exact .inr (by rw[ay n];exact e)
 have Oi:Fp K (λq=>(A.B q/\q∉F i)\/q∈F i) (upd c p (.dK a)) .d (.dct b g) (.ref p) (F i):=⟨b,g,p,a,rfl,rfl,D,aJ,Q,ai.chg T (λq _ _ z=>by
  rcases z with z|z
  .exact z.1
  .exact(O.all q).mpr (.inr ⟨i,⟨.d,f⟩,z⟩)) g I⟩
 obtain⟨h,Y,a2,_,a3,a4,U⟩:=O1.chg (F':=F i) Z f y l N (O.nd i ⟨.d,f⟩) (λq J=>.inl J) Oi;exact⟨h,Y,a2,U⟩
section
variable{X:Cx}{M:Ms}{R:Addr->Prop}{o e f:Expr}{te tf:WT}{i:Nat}{pos:Pos}
theorem qb{a:Ev}{P:List W->List W->Prop}(h:match look a i with|some (.dct ks vs)=>P ks vs|_=>False):∃ks vs,look a i=some (.dct ks vs)/\P ks vs:=by
 cases b:look a i with
 |none=>rw[b]at h;exact h.elim
 |some w=>
  rw[b]at h;cases w with
  |dct ks vs=>exact⟨ks,vs,rfl,h⟩
  |_=>exact h.elim
theorem Kl{c b:Pos}(J:X.A.units+1<cLine)(L:(i,.d)∈M)(K:PE X o (iu i))(he:VE X M R .s e te)(T:VE X M R .s f tf)(m:M2 X o "get" c e f b):
 VE X M R .s (.Call (.Attribute o "get" c) [e,f] [] b) (λg Q=>match look g i with|some (.dct ks vs)=>te g λx=>tf g λz=>(match x with|.int j=>Q ((gC j ks vs).getD z)|_=>False)|_=>False):=
 PE.imp (A5 J K he T m)<|by
  rintro Z H Q ⟨A,C,g,P,S,y,h,k⟩;obtain⟨ks,vs,N,h⟩:=qb h;obtain⟨p,l,Y,u,O,U,_⟩:=wB S L N;refine⟨_,Y,p,rfl,.inl ⟨l,.inl u⟩,A,C,g,_,S,y,h,λx vx H1 I t G=>⟨A,C,g,_,S.same t,y,I,λz vz B hz D E=>?_⟩⟩;cases x with
  |int j=>
   have e:=G.aY.int_inv;subst e;have a:=t.trans D;refine⟨_,qa.k (k:=IV j) (a _ _ u),?_⟩;have hz:P ((gC j ks vs).getD z):=hz;rw[O]at hz;rcases lM (j:=j) U with⟨w,v,q,n,r⟩|⟨q,n⟩
   .rw[q]at hz;rw[n];exact k _ _ B hz a (.of (r.same a))
   .rw[q]at hz;rw[n];exact k _ _ B hz a (.of E.aY)
  |_=>exact hz.elim
theorem Km(t:X.A.units+1<cLine)(z:(i,.d)∈M)(y:PE X o (iu i))(he:VE X M R .s e te)(u:Ka e):
 VE X M R .s (.Subscript o e pos) (λa Q=>match look a i with|some (.dct ks vs)=>te a λx=>(match x with|.int j=>∃w,gC j ks vs=some w/\Q w|_=>False)|_=>False):=
 PE.imp (EB t y he u)<|by
  rintro L H Q ⟨A,K,a,P,S,I,h,k⟩;obtain⟨ks,vs,B,h⟩:=qb h;obtain⟨p,q,G,E,C,D,_⟩:=wB S z B;refine⟨_,G,A,K,a,_,S,I,h,λx O J b c n=>?_⟩;cases x with
  |int j=>
   have e:=n.aY.int_inv;subst e;obtain⟨w,g,b⟩:=b;rw[C]at g;rcases lM (j:=j) D with⟨N,v,l,m,r⟩|⟨l,m⟩
   .rw[l]at g;cases g;exact⟨p,v,rfl,by rw[<-m];exact qa.k (k:=IV j) (c _ _ E),k _ _ J b c (.of (r.same c))⟩
   .rw[l]at g;cases g
  |_=>exact b.elim
theorem sL:∀{kvs:List (Key×V)}{ns:List Int},kvs.map (λx=>fR x.1)=ns.map W.int->kvs.map (·.1)=ns.map IV
 |[],[],_=>rfl
 |[],_::_,h=>by cases h
 |_::_,[],h=>by cases h
 |x::kvs,n::ns,h=>by
  obtain⟨k,v⟩:=x;rw[GT,GT]at h;have a:=(Of h).1;have b:=sL (Of h).2;rw[GT,GT,b];cases k with
  |inl i=>have:i=n:=W.AE a;rw[this]
  |inr y=>cases a
theorem ints_rep{K:Frag}{B:Addr->Prop}{H:Hp}:∀a:List Int,ai K B H (a.map W.int) (a.map V.int)
 |[]=>.nil
 |m::a=>.cons (cZ m) (ints_rep a)
theorem Kn{q:Pos}(y:X.calm=true)(u:(i,.d)∈M)(g:PE X o (iu i))(x:Gl X "sorted")(hz:X.mg "sorted"=none)(n:starEach [o] X.env=(false,eval o X.env)::starEach [] X.env):
 VE X M R .s (.Call (.Name "sorted" q) [o] [] pos) (λm Q=>match look m i with|some (.dct ks vs)=>∃ns:List Int,ks=ns.map W.int/\ns.length<64/\∀c:List Int,c.Perm ns->c.Pairwise (·<=·)->Q (.lst (c.map W.int))|_=>False):=
 PE.imp (iA (uN y) x hz boot_sorted (aW g cj n) (he:=n))<|by
  rintro D H Q ⟨A,I,m,P,S,G,h,k⟩;obtain⟨ks,vs,v,ns,l,t,h⟩:=qb h;obtain⟨p,j,C,B,w,E,_⟩:=wB S u v;refine⟨_,C,p,j,ns,rfl,B,sL (by rw[<-w];exact l),t,λq c r a b=>?_⟩;have sm:ao H (upd H q (.lst (c.map V.int))):=aF r _;refine k _ _ _ (h c a b) sm (.of ⟨q,_,rfl,λz=>?_,.inl aJ,?_⟩)
  .obtain⟨o,g⟩:=S.dom q z;rw[r]at g;cases g
  .exact ints_rep c
end
section
variable{X:Cx}{M M':Ms}{m:Md}{st:Stmt}{i:Nat}{e e1:Expr}{te t1:(Addr->Prop)->WT}
theorem Ko{R:Addr->Prop}{pos:Pos}:VE X M' R .d (.Dict [] [] pos) (λb Q=>Q (.dct [] [])):=PE.imp A4<|by rintro f H Q ⟨A,j,b,P,S,g,h,k⟩;intro p a;refine k _ _ _ h (aF a _) ⟨[p],by simp,λq c=>?_,[],[],p,[],rfl,rfl,rfl,aJ,rfl,.nil⟩;rw[DL.mp c];exact a
noncomputable def GU:V->V->V->Hp->(Hp->Prop)->Prop:=λo k v H Q=>∃p a,o=.ref p/\AZ H p k v a/\Q a
theorem set_dict(d:X.A.units+1<cLine):Ic X GU:=by intro a s l H o k v r t u Q I b c rv h;obtain⟨p,j,rfl,f,q⟩:=h;cases b;exact yF d I f c rv λn g=>⟨j,g,q⟩
theorem Kp(o:∀{t u:TE},PE X e t->PE X e1 u->PS X st (jT t (Ih (iu i) u GU)))(T:(i,.d)∈M)(he:∀R,VE X M R .s e (te R))(Q:∀R,VE X M R .s e1 (t1 R)):
 VS X M m st (λd b=>te d.ex b λw=>match look b i with|some (.dct ks vs)=>(t1 d.ex b λx=>(match x with|.int j=>ks.length<sizeLine/\d.nx (b.set i (some (.dct (lE j ks) (lF j w ks vs))))|_=>False))|_=>False):=by
 rintro g s N H D I ⟨A,L,b,d,S,J,hz,h,k⟩;refine o (he d.ex) (Q d.ex) g s N H D I ⟨A,L,b,_,S,J,h,λw v H1 n B r=>?_⟩;obtain⟨ks,vs,P,n⟩:=qb n;obtain⟨p,l,Z,Y,K,U,f⟩:=wB S T P;refine⟨_,Z,A,L,b,_,S.same B,J,n,λz vz H2 a y O=>?_⟩;cases z with
 |int j=>
  obtain⟨G,a⟩:=a;have c:=B.trans y;have ez:=O.aY.int_inv;subst ez;obtain⟨E,C⟩:=A7 (j:=j) (U.same c) (r.aY.same y);rw[<-K]at E C;obtain⟨A',a1,a2,S'⟩:=f H2 c _ _ _ E C;have q:l.length<sizeLine:=by have:=GM RT K;rw[AN]at this;omega
  exact⟨p,_,rfl,AZ.k (k:=IV j) (c _ _ Y) q,k.nx A' _ _ _ a1 a2 a S'⟩
 |_=>exact a.elim
end
theorem a2{a b:Bool}(z:(a&&b)=true):a=true/\b=true:=by cases a<;>cases b<;>first|exact⟨rfl,rfl⟩|exact ff z
theorem a3{a b c:Bool}(z:((a&&b)&&c)=true):(a=true/\b=true)/\c=true:=⟨a2 (a2 z).1,(a2 z).2⟩
structure SE where
 N:List Str
 nk:List (Str×NameKind)
 M:Ms
 fn:List Str
 gn:List Str
 zn:List Str
 md:List Md
 mt:List (Nat×Nat)
noncomputable def lN:List Md->Nat->Md
 |[],_=>.s
 |x::_,0=>x
 |_::l,n+1=>lN l n
noncomputable def Ow:Md->Bool
 |.f=>true
 |_=>false
noncomputable def Kq:Md->Bool
 |.s=>true
 |_=>false
noncomputable def sN(M:Ms)(i:Nat):Bool:=(M.lookup i).isSome
theorem iP{M:Ms}{i:Nat}(h:sN M i=false):¬aM M i:=by
 rintro⟨m,d⟩;unfold sN at h;have:∀M:Ms,(i,m)∈M->(M.lookup i).isSome=true:=λM=>by
  induction M with
  |nil=>intro z;cases z
  |cons x M c=>
   intro z;obtain⟨a,b⟩:=x;rw[GC];cases e:i==a with
   |true=>rfl
   |false=>
    rcases FV.mp z with z|z
    .cases z;rw[SZ]at e;cases e
    .exact c z
 rw[this M d]at h;cases h
theorem fX{M:Ms}{i:Nat}{m:Md}(h:M.lookup i=some m):(i,m)∈M:=by
 induction M with
 |nil=>exact nn h
 |cons x M c=>
  obtain⟨a,b⟩:=x;rw[GC]at h;cases e:i==a with
  |true=>rw[e]at h;cases h;cases Pm.mp e;exact Da
  |false=>rw[e]at h;exact Dx _ (c h)
noncomputable def sO(M:Ms)(i:Nat):Bool:=match M.lookup i with
 |none=>true
 |some m=>Ow m
theorem sS{M:Ms}{i:Nat}(h:sO M i=true):aM M i->(i,.f)∈M:=λa=>by
 unfold sO at h;cases e:M.lookup i with
 |none=>exact(iP (by unfold sN;rw[e];rfl) a).elim
 |some m=>rw[e]at h;cases m<;>first|exact fX e|exact ff h
noncomputable def Ox:Md->Bool
 |.d=>true
 |_=>false
noncomputable def sU(M:Ms)(i:Nat):Bool:=match M.lookup i with
 |none=>false
 |some m=>Ox m
theorem iQ{M:Ms}{i:Nat}(h:sU M i=true):(i,.d)∈M:=by
 unfold sU at h;cases e:M.lookup i with
 |none=>rw[e]at h;exact ff h
 |some m=>rw[e]at h;cases m<;>first|exact fX e|exact ff h
noncomputable def yG(M:Ms)(i:Nat):Bool:=match M.lookup i with
 |none=>false
 |some m=>Ow m
theorem j7{M:Ms}{i:Nat}(h:yG M i=true):(i,.f)∈M:=by
 unfold yG at h;cases e:M.lookup i with
 |none=>rw[e]at h;exact ff h
 |some m=>rw[e]at h;cases m<;>first|exact fX e|exact ff h
noncomputable def SE.sc(S:SE):Scope:={kind:=.function,names:=S.nk,isGenerator:=false,isCoroutine:=false}
noncomputable def Oz(S:SE)(x:Str):Bool:=S.nk.lookup x==some .local||(S.nk.lookup x==some .cell||S.nk.lookup x==some .free)
noncomputable def okN(x:Str):Bool:=!(x==("__debug__":Str))&&!(x==("__classdict__":Str))&&!(x==("__name__":Str))
noncomputable def fY(S:SE)(x:Str):Bool:=(S.nk.lookup x==some .globalImplicit)&&okN x
noncomputable def tys:List String:=["int","bool","tuple","list","str","dict"]
noncomputable def wC:Expr->Bool
 |.Call _ _ _ _=>false
 |_=>true
noncomputable def mC(f:Const->Bool):Expr->Bool
 |.Constant c _ _=>f c
 |_=>false
noncomputable def RX(f:Str->Pos->Bool):Expr->Bool
 |.Name x p=>f x p
 |_=>false
noncomputable def sW(f:Str->Bool):Expr->Bool:=RX λx _=>f x
noncomputable def gE(S:SE)(i:Nat):Expr->Bool:=sW λx=>S.N[i]?==some x&&Oz S x&&okN x
noncomputable def o1{α:Type}(f:α->Bool):List α->Bool
 |[a]=>f a
 |_=>false
noncomputable def OA(f:Expr->List CmpOp->List Expr->Bool):Expr->Bool
 |.Compare l b a _=>f l b a
 |_=>false
noncomputable def sX(f:Expr->List Expr->Bool->Pos->Bool):Expr->Bool
 |.Call g a ks p=>f g a ks.isEmpty p
 |_=>false
noncomputable def A8(f:Expr->Str->Pos->Bool):Expr->Bool
 |.Attribute o m p=>f o m p
 |_=>false
noncomputable def To(f:Option Expr->Option Expr->Option Expr->Bool):Expr->Bool
 |.Slice l h t _=>f l h t
 |_=>false
noncomputable def Tp(f:Expr->List Comprehension->Scope->Bool):Expr->Bool
 |.ListComp x a s _=>f x a s
 |_=>false
noncomputable def A9(f:Operator->Expr->Expr->Bool):Expr->Bool
 |.BinOp l o r _=>f o l r
 |_=>false
noncomputable def RY(f:UnaryOp->Expr->Bool):Expr->Bool
 |.UnaryOp o x _=>f o x
 |_=>false
noncomputable def Ba(f:CmpOp->Expr->Expr->Bool):Expr->Bool:=OA λl b a=>o1 (λo=>o1 (λr=>f o l r) a) b
noncomputable def o2{α:Type}(f:α->α->Bool):List α->Bool
 |a::l=>o1 (f a) l
 |_=>false
noncomputable def o3{α:Type}(f:α->α->α->Bool):List α->Bool
 |a::l=>o2 (f a) l
 |_=>false
noncomputable def RZ(f:BoolOp->List Expr->Bool):Expr->Bool
 |.BoolOp o a _=>f o a
 |_=>false
noncomputable def uO(f:List Expr->Bool):Expr->Bool
 |.Tuple a _ _=>f a
 |_=>false
noncomputable def Kr(f:List Expr->Bool):Expr->Bool
 |.List a _=>f a
 |_=>false
noncomputable def uP(f:Expr->Expr->Bool):Expr->Bool
 |.Subscript v s _=>f v s
 |_=>false
noncomputable def Tq(f:Expr->Option Expr->Option Expr->Bool):Expr->Bool:=uP λv s=>To (λl h t=>t.isNone&&f v l h) s
noncomputable def fZ(f:Str->List Expr->Bool):Expr->Bool:=sX λg a k _=>k&&sW (λx=>f x a) g
noncomputable def Bb(f:Expr->Str->Pos->Pos->Bool):Expr->Bool:=sX λg b k c=>k&&b.isEmpty&&A8 (λo m a=>f o m a c) g
noncomputable def GV(f:Expr->Expr->Expr->List Expr->Scope->Bool):Expr->Bool:=Tp λx a s=>o1 (λg=>decide (g.is_async=0)&&f x g.target g.iter g.ifs s) a
theorem dY{f:Const->Bool}{e:Expr}(h:mC f e=true):∃c k p,e=.Constant c k p/\f c=true:=by cases e<;>first|exact⟨_,_,_,rfl,h⟩|exact ff h
theorem wD{f:Str->Pos->Bool}{e:Expr}(h:RX f e=true):∃x p,e=.Name x p/\f x p=true:=by cases e<;>first|exact⟨_,_,rfl,h⟩|exact ff h
theorem Bc{f:Expr->List CmpOp->List Expr->Bool}{e:Expr}(h:OA f e=true):∃l b a p,e=.Compare l b a p/\f l b a=true:=by cases e<;>first|exact⟨_,_,_,_,rfl,h⟩|exact ff h
theorem gk{f:Expr->List Expr->Bool->Pos->Bool}{e:Expr}(h:sX f e=true):∃g a ks p,e=.Call g a ks p/\f g a ks.isEmpty p=true:=by cases e<;>first|exact⟨_,_,_,_,rfl,h⟩|exact ff h
theorem f6{f:Expr->Str->Pos->Bool}{e:Expr}(h:A8 f e=true):∃o m p,e=.Attribute o m p/\f o m p=true:=by cases e<;>first|exact⟨_,_,_,rfl,h⟩|exact ff h
theorem ED{f:Option Expr->Option Expr->Option Expr->Bool}{e:Expr}(h:To f e=true):∃l r t p,e=.Slice l r t p/\f l r t=true:=by cases e<;>first|exact⟨_,_,_,_,rfl,h⟩|exact ff h
theorem EF{f:Expr->List Comprehension->Scope->Bool}{e:Expr}(h:Tp f e=true):∃x a s p,e=.ListComp x a s p/\f x a s=true:=by cases e<;>first|exact⟨_,_,_,_,rfl,h⟩|exact ff h
theorem dI{α:Type}{f:α->Bool}{l:List α}(h:o1 f l=true):∃a,l=[a]/\f a=true:=by rcases l with _|⟨a,_|_⟩<;>first|exact⟨_,rfl,h⟩|exact ff h
theorem Ks{α:Type}{f:α->α->Bool}{l:List α}(h:o2 f l=true):∃a b,l=[a,b]/\f a b=true:=by
 cases l with
 |nil=>exact ff h
 |cons a l=>obtain⟨b,rfl,c⟩:=dI h;exact⟨_,_,rfl,c⟩
theorem bS{f:Str->Bool}{e:Expr}(h:sW f e=true):∃x p,e=.Name x p/\f x=true:=wD h
theorem ju{f:Operator->Expr->Expr->Bool}{e:Expr}(h:A9 f e=true):∃l o r p,e=.BinOp l o r p/\f o l r=true:=by cases e<;>first|exact⟨_,_,_,_,rfl,h⟩|exact ff h
theorem j8{f:UnaryOp->Expr->Bool}{e:Expr}(h:RY f e=true):∃o x p,e=.UnaryOp o x p/\f o x=true:=by cases e<;>first|exact⟨_,_,_,rfl,h⟩|exact ff h
theorem oq{f:CmpOp->Expr->Expr->Bool}{e:Expr}(h:Ba f e=true):∃l o r p,e=.Compare l [o] [r] p/\f o l r=true:=by obtain⟨l,g,d,p,rfl,c⟩:=Bc h;obtain⟨o,rfl,b⟩:=dI c;obtain⟨r,rfl,a⟩:=dI b;exact⟨_,_,_,_,rfl,a⟩
theorem j9{f:BoolOp->List Expr->Bool}{e:Expr}(h:RZ f e=true):∃o a p,e=.BoolOp o a p/\f o a=true:=by cases e<;>first|exact⟨_,_,_,rfl,h⟩|exact ff h
theorem cR{f:List Expr->Bool}{e:Expr}(h:uO f e=true):∃a k p,e=.Tuple a k p/\f a=true:=by cases e<;>first|exact⟨_,_,_,rfl,h⟩|exact ff h
theorem lO{f:List Expr->Bool}{e:Expr}(h:Kr f e=true):∃a p,e=.List a p/\f a=true:=by cases e<;>first|exact⟨_,_,rfl,h⟩|exact ff h
theorem cy{f:Expr->Expr->Bool}{e:Expr}(h:uP f e=true):∃v s p,e=.Subscript v s p/\f v s=true:=by cases e<;>first|exact⟨_,_,_,rfl,h⟩|exact ff h
theorem wF{f:Expr->Option Expr->Option Expr->Bool}{e:Expr}(h:Tq f e=true):∃v l r q p,e=.Subscript v (.Slice l r none q) p/\f v l r=true:=by obtain⟨v,s,p,rfl,c⟩:=cy h;obtain⟨l,r,t,q,rfl,b⟩:=ED c;obtain⟨k,a⟩:=a2 b;rw[Option.isNone_iff_eq_none.mp k];exact⟨_,_,_,_,_,rfl,a⟩
theorem aG{f:Str->List Expr->Bool}{e:Expr}(h:fZ f e=true):∃x q a p,e=.Call (.Name x q) a [] p/\f x a=true:=by obtain⟨g,a,i,p,rfl,d⟩:=gk h;obtain⟨k,c⟩:=a2 d;obtain⟨x,q,rfl,b⟩:=bS c;rw[Hb.mp k];exact⟨_,_,_,_,rfl,b⟩
theorem uQ{f:Expr->Str->Pos->Pos->Bool}{e:Expr}(h:Bb f e=true):∃o m a c,e=.Call (.Attribute o m a) [] [] c/\f o m a c=true:=by obtain⟨g,n,j,p,rfl,i⟩:=gk h;obtain⟨⟨k,l⟩,d⟩:=a3 i;obtain⟨o,m,a,rfl,b⟩:=f6 d;rw[Hb.mp k,Hb.mp l];exact⟨_,_,_,_,rfl,b⟩
noncomputable def Be(f:Expr->Str->Pos->Pos->Expr->Expr->Bool):Expr->Bool:=sX λg b k c=>k&&o2 (λx y=>A8 (λo m a=>f o m a c x y) g) b
theorem lP{f:Expr->Str->Pos->Pos->Expr->Expr->Bool}{e:Expr}(h:Be f e=true):∃o m a c x y,e=.Call (.Attribute o m a) [x,y] [] c/\f o m a c x y=true:=by obtain⟨g,l,j,p,rfl,i⟩:=gk h;obtain⟨k,b⟩:=a2 i;obtain⟨x,y,rfl,b⟩:=Ks b;obtain⟨o,m,a,rfl,d⟩:=f6 b;rw[Hb.mp k];exact⟨_,_,_,_,_,_,rfl,d⟩
theorem ou{f:Expr->Expr->Expr->List Expr->Scope->Bool}{e:Expr}(h:GV f e=true):∃d tg b c a p,e=.ListComp d [⟨tg,b,c,0⟩] a p/\f d tg b c a=true:=by obtain⟨x,m,s,p,rfl,j⟩:=EF h;obtain⟨⟨tg,l,n,z⟩,rfl,i⟩:=dI j;obtain⟨k,g⟩:=a2 i;cases Bn k;exact⟨_,_,_,_,_,_,rfl,g⟩
noncomputable def Vb(n:Int):Const->Bool
 |.int j=>decide (j=n)
 |_=>false
noncomputable def sY(S:SE)(i:Nat):List jm->Expr->Bool
 |[],e=>gE S i e
 |.fl _ x::π,e=>A8 (λa f _=>decide (f=x)&&wC a&&sY S i π a) e
 |.ix n::π,e=>uP (λa k=>mC (Vb n) k&&sY S i π a) e
noncomputable def jO(S:SE)(m:Md->Bool)(i:Nat)(π:List jm)(e:Expr):Bool:=!π.isEmpty&&sY S i π.reverse e&&(match S.M.lookup i with
 |some a=>(match gB a π with
  |some k=>m k
  |none=>false)
 |none=>false)
noncomputable def dJ(S:SE):CE->Expr->Bool
 |.var i,e=>gE S i e&&sO S.M i
 |.own i π,e=>jO S Ow i π e
 |_,_=>false
noncomputable def Qu:BI->Str
 |.len=>"len"
 |.abs=>"abs"
 |.max2=>"max"
 |.min2=>"min"
 |.sum=>"sum"
 |.all=>"all"
 |.any=>"any"
 |.list=>"list"
 |.tuple=>"tuple"
 |.CL=>"isinstance"
 |.int=>"int"
 |.Ql=>"divmod"
noncomputable def Tr:BI->Nat->Bool
 |_,n=>0<n
noncomputable def EG:CE->Bool
 |.not a=>EG a
 |.and b=>Bf b
 |.or b=>Bf b
 |_=>true
where Bf:List CE->Bool
 |[]=>true
 |a::b=>EG a&&Bf b
noncomputable def oz:Expr->Bool
 |.Slice _ _ _ _=>false
 |_=>true
noncomputable def uR:Expr->Bool
 |.Set _ _ _=>false
 |_=>true
noncomputable def Bg:List Expr->Option (List Str)
 |[]=>some []
 |.Name x _::a=>(Bg a).map λl=>x::l
 |_::_=>none
noncomputable def OB:Expr->Option (Bool×List Str)
 |.Name x _=>some (true,[x])
 |.Tuple a _ _=>(Bg a).map λl=>(false,l)
 |_=>none
noncomputable def mask(a:List Str)(N:List Str):List Str:=N.map λy=>if a.contains y then y++("!":Str)else y
noncomputable def SE.comp(S:SE)(a:Scope)(b:List Str):SE:=
 {S with N:=b++mask b S.N,nk:=a.names.map λp=>(p.1,if p.2=.free then .cell else p.2),M:=up S.M b.length}
noncomputable def SE.lend(S:SE)(a:List Nat):SE:={S with M:=S.M.filter (λx=>!a.contains x.1)}
noncomputable def OC:CE->Option String
 |.DY n=>some n
 |_=>none
noncomputable def Bh:CE->Bool
 |.pR _=>true
 |_=>false
noncomputable def Ku(n:Bool)(f:Expr->Bool):Option Expr->Bool
 |none=>n
 |some e=>!n&&f e
noncomputable def GW:CE->Bool
 |.bl b=>b
 |_=>false
noncomputable def OD:BI->List CE->Bool
 |.CL,[_,c]=>(OC c).isSome
 |.CL,_=>false
 |_,_=>true
noncomputable def R1(y:Bool)(f:Expr->Bool):List Expr->Bool
 |[]=>y
 |[e]=>f e
 |_=>false
noncomputable def Bj(f:Expr->Bool)(g:List Expr->Bool):List Expr->Bool
 |e::a=>f e&&g a
 |[]=>false
noncomputable def qc(f:Expr->Bool):List Expr->Bool:=o1 f
noncomputable def lQ(S:SE)(f:List Nat)(one:Bool)(n:Nat)(g:Bool)(i:Expr->Bool)(j:SE->List Expr->Bool)(h:SE->Expr->Bool)(e tg b:Expr)(d:List Expr)(a:Scope):Bool:=
 match OB tg with
 |some (o,c)=>(one==o)&&(n==c.length)&&(f==Ea n)&&cI a S.sc S.N (mask c S.N) c&&decide (c++mask c S.N).Nodup&&uR b&&(!g||!one)&&i b&&j (S.comp a c) d&&h (S.comp a c) e
 |none=>false
noncomputable def jY(c:Nat->Md):CE->Bool
 |.lst _=>true
 |.comp _ _ _ _ _ _=>true
 |.blt .list _=>true
 |.rev _=>true
 |.sl _ _ _=>true
 |.bin .Add a b=>jY c a||jY c b
 |.bin .Mult a _=>jY c a
 |.call f _=>match c f with
  |.f=>true
  |_=>false
 |_=>false
noncomputable def mo(a:Nat->Md)(c:CE):Md:=if jY a c=true then .f else .s
mutual
noncomputable def aE(S:SE)(z:Bool):CE->Expr->Bool
 |.var i,e=>gE S i e&&!sN S.M i
 |.int i,e=>mC (λc=>decide (c=.int i)) e
 |.bl b,e=>mC (λc=>decide (c=.bool b)) e
 |.str x,e=>mC (λc=>decide (c=.str x)) e
 |.aL,e=>mC (λc=>decide (c=.none)) e
 |.DY n,e=>sW (λx=>decide (x=Str.ofString n)&&fY S x&&S.zn.contains x&&tys.contains n) e
 |.glob g,e=>sW (λx=>S.gn[g]?==some x&&fY S x) e
 |.bin op a b,e=>A9 (λo l r=>decide (op=o)&&(aE S false a l||dJ S a l)&&(aE S false b r||dJ S b r)) e
 |.neg a,e=>RY (λo x=>decide (o=.USub)&&aE S false a x) e
 |.not a,e=>RY (λo x=>decide (o=.Not)&&aE S false a x) e
 |.cmp op a b,e=>Ba (λo l r=>decide (op=o)&&!decide (op=.In)&&!decide (op=.NotIn)&&(aE S false a l||dJ S a l)&&(aE S false b r||dJ S b r)) e
 |.and j,e=>RZ (λo d=>decide (o=.And)&&!d.isEmpty&&dZ S j d) e
 |.or j,e=>RZ (λo d=>decide (o=.Or)&&!d.isEmpty&&dZ S j d) e
 |.tup j,e=>uO (λd=>dZ S j d) e
 |.lst j,e=>Kr (λd=>dZ S j d) e
 |.ix a i,e=>uP (λv s=>oz s&&(aE S false a v||dJ S a v)&&aE S false i s) e
 |.sl a B C,e=>Tq (λv l h=>(aE S false a v||dJ S a v)&&Ku (iH B) (λx=>aE S false B x) l&&Ku (iH C) (λx=>aE S false C x) h) e
 |.call f j,e=>fZ (λx d=>S.fn[f]?==some x&&fY S x&&!d.isEmpty&&!dH (lN S.md f)&&!S.mt.any (·.1==f)&&dZ S j d) e
 |.blt b j,e=>fZ (λx d=>decide (x=Qu b)&&fY S x&&S.zn.contains x&&Tr b d.length&&OD b j&&jP S j d) e
 |.comp D one n i c x,e=>GV (λw tg p t q=>lQ S D one n (Bh i) (λp=>aE S true i p||dJ S i p) (λA t=>R1 (GW c) (λf=>aE A false c f&&EG c) t) (λA w=>aE A false x w) w tg p t q) e
 |.jb j,e=>fZ (λx d=>z&&decide (x=("range":Str))&&fY S x&&S.zn.contains x&&(j.length==1||j.length==2||j.length==3)&&dZ S j d) e
 |.pR a,e=>fZ (λx d=>z&&decide (x=("enumerate":Str))&&fY S x&&S.zn.contains x&&qc (λv=>aE S false a v) d) e
 |.rev a,e=>fZ (λx d=>cond z (decide (x=("reversed":Str))&&fY S x&&S.zn.contains x&&qc (λv=>aE S false a v) d)
  (decide (x=("list":Str))&&fY S x&&S.zn.contains x&&qc (λv=>fZ (λy d=>decide (y=("reversed":Str))&&fY S y&&S.zn.contains y&&qc (λu=>aE S false a u||dJ S a u) d) v) d)) e
 |.pop _,_=>false
 |.own i π,e=>jO S Kq i π e
 |.Mc i k x,e=>Be (λo m G E u v=>decide (m=("get":Str))&&(G.endLine==E.line)&&sU S.M i&&gE S i o&&aE S false k u&&aE S false x v) e
 |.Me i k,e=>uP (λv s=>oz s&&sU S.M i&&gE S i v&&aE S false k s) e
 |.Mf i,e=>fZ (λx d=>decide (x=("sorted":Str))&&fY S x&&S.zn.contains x&&qc (λv=>sU S.M i&&gE S i v) d) e
noncomputable def dZ(S:SE):List CE->List Expr->Bool
 |[],b=>b.isEmpty
 |a::c,b=>Bj (λe=>aE S false a e) (λb=>dZ S c b) b
noncomputable def jP(S:SE):List CE->List Expr->Bool
 |[],b=>b.isEmpty
 |a::c,b=>Bj (λe=>aE S false a e||dJ S a e) (λb=>jP S c b) b
end
structure XOk(S:SE)(Φ:Nat->bf)(Ψ:Nat->Md)(G:Nat->W)(X:Cx):Prop where
 hN:X.N=S.N
 nd:X.N.Nodup
 calm:X.calm=true
 un:X.A.units+64<cLine
 nk:∀x,X.env.scope.names.lookup x=S.nk.lookup x
 fns:∀(j:Nat)(x:Str),S.fn[j]?=some x->S.mt.any (·.1==j)=false->∃fv n k,X.mg x=some fv/\cP X.prog X.w X.K X.mg X.base k fv n (uL X.K n (Ψ j) (Φ j))/\bX k X.A/\∀ws P R,Φ j ws P R->ws.length=n
 Mj:∀(j g:Nat)(x:Str),S.fn[j]?=some x->(j,g)∈S.mt->∃f fd ps n k,(∀C,G g=.cls C->Meth X.K C x f)/\Binds X.K fd ps []/\bK X.prog X.w X.K X.mg X.base (ji X.prog X.w) k f fd ps (uL X.K n (Ψ j) (Φ j))/\bX k X.A/\∀ws P R,Φ j ws P R->ws.length=n
 Kv:Ψ=lN S.md
 Kw:∀(j:Nat)(x:Str),S.gn[j]?=some x->∃u v,X.mg x=some u/\RelV v u/\∀B H,Rep X.K B H (G j) v
 uS:∀x∈S.zn,X.mg x=none
 kit:sC X.K
section
variable{S:SE}{Φ:Nat->bf}{Ψ:Nat->Md}{G:Nat->W}{X:Cx}
theorem XOk.mY(h:XOk S Φ Ψ G X):XOk S Φ Ψ G X.mY:=⟨h.hN,h.nd,h.calm,h.un,h.nk,h.fns,h.Mj,h.Kv,h.Kw,h.uS,h.kit⟩
theorem wG{x:Str}(h:okN x=true):(x==("__debug__":Str))=false/\(x==("__classdict__":Str))=false/\x≠"__name__":=by unfold okN at h;simp only[Ap,X9]at h;exact⟨h.1.1,h.1.2,λz=>by rw[z]at h;exact absurd h.2 (by simp)⟩
theorem bw{x:Str}(a:XOk S Φ Ψ G X)(h:fY S x=true):Gl X x/\(x==("__debug__":Str))=false/\x≠"__name__":=by unfold fY at h;rw[Ap]at h;obtain⟨c,d,b⟩:=wG h.2;refine⟨?_,c,b⟩;show X.env.scope.names.lookup x=_;rw[a.nk];exact Pm.mp h.1
theorem cX(b:XOk S Φ Ψ G X){i:Nat}{e:Expr}(h:gE S i e=true):PE X e (iu i):=by obtain⟨x,c,rfl,h⟩:=bS h;obtain⟨h,d⟩:=KB.mp h;obtain⟨f,a⟩:=KB.mp h;obtain⟨j,g,_⟩:=wG d;refine zE (by rw[b.hN];exact Pm.mp f) ?_ j g;simp only[Oz,XR,Pm]at a;rw[<-b.nk]at a;exact a
noncomputable def noStar:Expr->Bool
 |.Starred _ _=>false
 |_=>true
theorem aA{e:Expr}(h:noStar e=true)(a:List Expr)(env:Env):starEach (e::a) env=(false,eval e env)::starEach a env:=by
 cases e<;>first|rfl|exact ff h
theorem cz:∀{a:List Expr}(h:a.all noStar=true)(pos:Pos)(env:Env),(backTo pos (starEach a env)).any (·.1)=false
 |[],_,_,_=>rfl
 |e::a,h,pos,env=>by rw[IP,Ap]at h;rw[aA h.1];show(false||(backTo pos (starEach a env)).any (·.1))=false;rw[cz h.2];rfl
theorem di{m:Md->Bool}{i:Nat}{π:List jm}{e:Expr}(h:jO S m i π e=true):
 (∃g k,π≠[]/\sY S i π.reverse e=true/\S.M.lookup i=some g/\gB g π=some k/\m k=true)/\((∃a f q,e=.Attribute a f q)\/∃a j c d q,e=.Subscript a (.Constant (.int j) c d) q):=by
 unfold jO at h;rw[Ap,Ap]at h;obtain⟨⟨y,l⟩,b⟩:=h;have u:π≠[]:=λz=>by rw[z]at y;exact ff y
 constructor
 .split at b
  .rename_i g hl
   split at b
   .rename_i k hk
    exact⟨g,k,u,l,hl,hk,b⟩
   .cases b
  .cases b
 .cases t:π.reverse with
  |nil=>exact(u (by simpa using t)).elim
  |cons s r=>
   rw[t]at l;cases s with
   |ix n=>obtain⟨v,s,p,rfl,w⟩:=cy l;obtain⟨c,k,q,rfl,A⟩:=dY (a2 w).1;cases c<;>first|exact .inr ⟨_,_,_,_,_,rfl⟩|exact ff A
   |fl n x=>obtain⟨o,m,p,rfl,w⟩:=f6 l;exact .inl ⟨_,_,_,rfl⟩
theorem lS{m:Md->Bool}{i:Nat}{π:List jm}{v:Expr}{p:Pos}(h:jO S m i π (.Starred v p)=true):False:=by rcases(di h).2 with⟨_,_,_,e⟩|⟨_,_,_,_,_,e⟩<;>cases e
theorem aO{a:Bool}{c:CE}{e:Expr}(h:aE S a c e=true\/dJ S c e=true):noStar e=true:=by
 cases e with
 |Starred v p=>
  rcases h with h|h
  .cases c with
   |own i b=>exact(lS h).elim
   |_=>exact ff h
  .cases c<;>first|exact ff h|exact(lS h).elim
 |_=>rfl
theorem dN{a b:Bool}(h:(a||b)=true):a=true\/b=true:=by
 cases a
 .exact .inr h
 .exact .inl rfl
theorem jv:∀{cs:List CE}{a:List Expr},dZ S cs a=true->a.all noStar=true
 |[],a,h=>by
  cases a with
  |nil=>rfl
  |cons _ _=>exact ff h
 |c::cs,[],h=>by cases h
 |c::cs,e::a,h=>by have h:=a2 h;rw[IP,aO (.inl h.1),jv h.2];rfl
theorem lT:∀{cs:List CE}{a:List Expr},jP S cs a=true->a.all noStar=true
 |[],a,h=>by
  cases a with
  |nil=>rfl
  |cons _ _=>exact ff h
 |c::cs,[],h=>by cases h
 |c::cs,e::a,h=>by have h:=a2 h;rw[IP,aO (dN h.1),lT h.2];rfl
theorem qd{b:Expr}(h:oz b=true):iB b:=λo i=>by cases b<;>first|rfl|exact ff h
theorem yH{a:Expr}(h:wC a=true)(f:Str)(env:Env)(b:Sem Value):attributeBase a f env b=b:=by cases a<;>first|rfl|exact ff h
theorem lU(b:XOk S Φ Ψ G X){i:Nat}:∀(π:List jm)(e:Expr),sY S i π e=true->PE X e (pZ X.K i π.reverse)
 |[],e,h=>J5 (cX b h)
 |.fl n x::π,e,h=>by obtain⟨o,m,p,rfl,g⟩:=f6 h;obtain⟨⟨a,f⟩,d⟩:=a3 g;have a:=Bn a;subst a;rw[W1];exact J6 (lU b π _ d) (yH f _ _ _)
 |.ix n::π,e,h=>by
  obtain⟨v,s,p,rfl,g⟩:=cy h;obtain⟨f,d⟩:=a2 g;obtain⟨c,k,q,rfl,j⟩:=dY f;cases c<;>try exact ff j
  have a:=Bn j;subst a;rw[W1];exact Oq (lU b π _ d) zF (qd rfl)
theorem Bk(b:XOk S Φ Ψ G X){m:Md->Bool}{i:Nat}{π:List jm}{e:Expr}(h:jO S m i π e=true):∃a k,(i,a)∈S.M/\gB a π=some k/\m k=true/\PE X e (pZ X.K i π):=by obtain⟨⟨a,k,_,g,f,d,c⟩,_⟩:=di h;have:=lU b π.reverse e g;rw[XW]at this;exact⟨a,k,fX f,d,c,this⟩
theorem OE(g:XOk S Φ Ψ G X){i:Nat}{π:List jm}{e:Expr}(h:jO S Kq i π e=true)(R:Addr->Prop):VE X S.M R .s e (λa Q=>match look a i with|some w=>(match bW w π with|some u=>Q u|none=>False)|none=>False):=by
 obtain⟨j,k,d,c,f,b⟩:=Bk g h;cases k<;>first|(cases f;done)|skip
 exact Jp b d c
theorem GX(g:XOk S Φ Ψ G X){i:Nat}{π:List jm}{e:Expr}(h:jO S Ow i π e=true)(R:Addr->Prop):VB X S.M R e (λa Q=>match look a i with|some w=>(match bW w π with|some u=>Q u|none=>False)|none=>False):=by
 obtain⟨j,k,d,c,f,b⟩:=Bk g h;cases k<;>first|(cases f;done)|skip
 exact Jo b d c
end
structure b7(Φ:Nat->bf)(Ψ:Nat->Md)(G:Nat->W)(c:CE):Prop where
 e:∀{S:SE}{X:Cx},XOk S Φ Ψ G X->∀ex,aE S false c ex=true->∀R,VE X S.M R (mo Ψ c) ex (wE Φ G R c)
 t:∀{S:SE}{X:Cx},XOk S Φ Ψ G X->∀ex,aE S false c ex=true->EG c=true->∀R,VT X S.M R ex (wE Φ G R c)
 i:∀{S:SE}{X:Cx},XOk S Φ Ψ G X->∀tg br ex,(aE S true c ex||(br&&dJ S c ex))=true->(Bh c=true->∃elts kk tp,tg=Expr.Tuple elts kk tp)->∀R,PI X tg ex (AR X S.M R br (wE Φ G R c))
structure nj(Φ:Nat->bf)(Ψ:Nat->Md)(G:Nat->W)(cs:List CE):Prop where
 a:∀{S:SE}{X:Cx},XOk S Φ Ψ G X->∀es,dZ S cs es=true->∀R,VA X S.M R es (wA Φ G R cs)
 b:∀{S:SE}{X:Cx},XOk S Φ Ψ G X->∀es,jP S cs es=true->∀R,Mi X S.M R es (wA Φ G R cs)
 av:∀{S:SE}{X:Cx},XOk S Φ Ψ G X->∀es pos,es≠[]->dZ S cs es=true->∀R,VE X S.M R .s (.BoolOp .And es pos) (xM Φ G R cs)
 ov:∀{S:SE}{X:Cx},XOk S Φ Ψ G X->∀es pos,es≠[]->dZ S cs es=true->∀R,VE X S.M R .s (.BoolOp .Or es pos) (L3 Φ G R cs)
 «at»:∀{S:SE}{X:Cx},XOk S Φ Ψ G X->∀es pos,es≠[]->dZ S cs es=true->EG.Bf cs=true->∀R,GQ X S.M R (.BoolOp .And es pos) (xM Φ G R cs)
 ot:∀{S:SE}{X:Cx},XOk S Φ Ψ G X->∀es pos,es≠[]->dZ S cs es=true->EG.Bf cs=true->∀R,GQ X S.M R (.BoolOp .Or es pos) (L3 Φ G R cs)
section
variable{Φ:Nat->bf}{Ψ:Nat->Md}{G:Nat->W}
theorem c7{c:CE}(h:jY Ψ c=false):mo Ψ c=.s:=by unfold mo;rw[h];rfl
theorem jw{c:CE}(h:jY Ψ c=true):mo Ψ c=.f:=by unfold mo;rw[h];rfl
theorem b7.s{c:CE}(h:b7 Φ Ψ G c){S:SE}{X:Cx}(a:XOk S Φ Ψ G X){ex:Expr}(k:aE S false c ex=true)(R:Addr->Prop):VE X S.M R .s ex (wE Φ G R c):=yx (h.e a ex k R)
theorem b7.b{c:CE}(h:b7 Φ Ψ G c){S:SE}{X:Cx}(a:XOk S Φ Ψ G X){ex:Expr}(k:(aE S false c ex||dJ S c ex)=true)(R:Addr->Prop):VB X S.M R ex (wE Φ G R c):=by
 rcases dN k with k|k
 .exact N5 (h.e a ex k R)
 .cases c with
  |var i=>have k:(gE S i ex&&sO S.M i)=true:=k;rw[Ap]at k;exact AL (cX a k.1) (sS k.2)
  |own i d=>exact GX a k R
  |_=>exact ff k
theorem b7.mk1{c:CE}(he:∀{S:SE}{X:Cx},XOk S Φ Ψ G X->∀ex,aE S false c ex=true->∀R,VE X S.M R (mo Ψ c) ex (wE Φ G R c))
 (e:∀{S:SE}{ex:Expr}(env:Env),aE S false c ex=true->∀a,isTrue ex env a=(do let v<-a;standAt ex.pos;holding [v] (truthy v)))
 (f:∀(S:SE)(ex:Expr),aE S true c ex=true->aE S false c ex=true)(d:∀(S:SE)(ex:Expr),dJ S c ex=false):b7 Φ Ψ G c:=
 ⟨he,λb ex k _ R=>p7 (e _ k) (yx (he b ex k R)),λ{S X} b g h ex k _ R=>by rw[d,TC,RF]at k;exact fz (iK (he b ex (f _ _ k) R))⟩
theorem Ky(i:Nat):b7 Φ Ψ G (.var i):=by
 have d:∀{S:SE}{X:Cx},XOk S Φ Ψ G X->∀ex,aE S false (.var i) ex=true->∀R,VE X S.M R (mo Ψ (.var i)) ex (wE Φ G R (.var i)):=λ{S X} a ex k R=>by have k:=a2 k;have e:¬aM S.M i:=iP (by simpa using k.2);rw[c7 rfl];exact Jm (cX a k.1) e
 refine⟨d,λ{S X} a ex k _ R=>p7 (λc=>?_) (yx (d a ex k R)),λ{S X} a f g ex k _ R=>?_⟩
 .have k:=a2 k;cases ex<;>first|rfl|(have:=k.1;exact ff this)
 .rcases dN k with k|k
  .exact fz (iK (d a ex (by exact k) R))
  .rw[Ap]at k;obtain⟨rfl,b⟩:=k;have b:(gE S i ex&&sO S.M i)=true:=b;rw[Ap]at b;exact fz (Oc (AL (cX a b.1) (sS b.2)))
theorem Kz(i:Nat)(π:List jm):b7 Φ Ψ G (.own i π):=by
 have d:∀R,wE Φ G R (.own i π)=λe Q=>match look e i with|some w=>(match bW w π with|some u=>Q u|none=>False)|none=>False:=λR=>rfl
 have c:∀{S:SE}{X:Cx},XOk S Φ Ψ G X->∀ex,aE S false (.own i π) ex=true->∀R,VE X S.M R (mo Ψ (.own i π)) ex (wE Φ G R (.own i π)):=λ{S X} a ex k R=>by rw[c7 rfl,d];exact OE a k R
 refine⟨c,λ{S X} a ex k _ R=>p7 (λb=>?_) (yx (c a ex k R)),λ{S X} a g h ex k _ R=>?_⟩
 .rcases(di k).2 with⟨_,_,_,rfl⟩|⟨_,_,_,_,_,rfl⟩<;>rfl
 .rcases dN k with k|k
  .exact fz (iK (c a ex (by exact k) R))
  .rw[Ap]at k;obtain⟨rfl,f⟩:=k;rw[d];exact fz (Oc (GX a f R))
theorem KA(i:Int):b7 Φ Ψ G (.int i):=by
 refine .mk1 (λ{S X} d ex k R=>?_) (λ{S ex} b k a=>?_) (λS ex k=>by exact k) (λ_ _=>rfl)
 .obtain⟨c,q,p,rfl,k⟩:=dY k;cases Bn k;rw[c7 rfl];exact yy zF λ_ _=>cZ _
 .obtain⟨c,q,p,rfl,k⟩:=dY k;rfl
theorem OG(i:Bool):b7 Φ Ψ G (.bl i):=by
 refine .mk1 (λ{S X} d ex k R=>?_) (λ{S ex} b k a=>?_) (λS ex k=>by exact k) (λ_ _=>rfl)
 .obtain⟨c,q,p,rfl,k⟩:=dY k;cases Bn k;rw[c7 rfl];exact yy MO λ_ _=>t8 _
 .obtain⟨c,q,p,rfl,k⟩:=dY k;rfl
theorem KC(i:Str):b7 Φ Ψ G (.str i):=by
 refine .mk1 (λ{S X} d ex k R=>?_) (λ{S ex} b k a=>?_) (λS ex k=>by exact k) (λ_ _=>rfl)
 .obtain⟨c,q,p,rfl,k⟩:=dY k;cases Bn k;rw[c7 rfl];exact yy HR λ_ _=>NX _
 .obtain⟨c,q,p,rfl,k⟩:=dY k;rfl
theorem KD:b7 Φ Ψ G .aL:=by
 refine .mk1 (λ{S X} d ex k R=>?_) (λ{S ex} b k a=>?_) (λS ex k=>by exact k) (λ_ _=>rfl)
 .obtain⟨c,q,p,rfl,k⟩:=dY k;cases Bn k;rw[c7 rfl];exact yy HQ λ_ _=>RJ
 .obtain⟨c,q,p,rfl,k⟩:=dY k;rfl
theorem EH{n:String}(h:tys.contains n=true):bootBuiltins (Str.ofString n)=some (.type n):=by
 have:n∈tys:=by simpa using h
 unfold tys at this;simp only[FV,WV,or_false]at this;rcases this with rfl|rfl|rfl|rfl|rfl|rfl<;>rfl
theorem KG(n:String):b7 Φ Ψ G (.DY n):=by
 refine .mk1 (λ{S X} d ex k R=>?_) (λ{S ex} l k a=>?_) (λS ex k=>by exact k) (λ_ _=>rfl)
 .obtain⟨x,q,rfl,b⟩:=bS k
  replace k:=b
  simp only[Ap]at k;obtain⟨⟨⟨c,g⟩,f⟩,e⟩:=k;obtain⟨j,i,h⟩:=bw d g;have c:=Bn c;subst c;rw[c7 rfl];exact yy (v:=.ty n) (CV j (d.uS _ (by simpa using f)) (EH e) rfl h i) λ_ _=>UU _
 .obtain⟨x,q,rfl,b⟩:=bS k
  replace k:=b
  rfl
theorem EI(g:Nat):b7 Φ Ψ G (.glob g):=by
 refine .mk1 (λ{S X} c ex k R=>?_) (λ{S ex} m k a=>?_) (λS ex k=>by exact k) (λ_ _=>rfl)
 .obtain⟨x,q,rfl,b⟩:=bS k
  replace k:=b
  simp only[Ap]at k;obtain⟨e,d⟩:=k;obtain⟨l,j,n⟩:=bw c d;obtain⟨u,v,i,h,f⟩:=c.Kw g _ (Pm.mp e);rw[c7 rfl];exact yy (vH l i h j) f
 .obtain⟨x,q,rfl,b⟩:=bS k
  replace k:=b
  rfl
theorem uT{K:Frag}{B:Addr->Prop}{H H':Hp}{w:W}{v:V}(h:cE K B H H' .f w v):Jq w=true:=by obtain⟨a,p,b,rfl,_⟩:=h.NP;rfl
theorem Bl{S:SE}{a:CE}{l:Expr}(k:dJ S a l=true)(z:jY Ψ a=true):False:=by cases a<;>first|exact ff k|exact ff z
theorem KH(op:Operator){a b:CE}(L:b7 Φ Ψ G a)(J:b7 Φ Ψ G b):b7 Φ Ψ G (.bin op a b):=by
 refine .mk1 (λ{S X} n ex k R=>?_) (λ{S ex} T k s=>?_) (λS ex k=>by exact k) (λ_ _=>rfl)
 .obtain⟨l,o,r,t,rfl,u⟩:=ju k
  replace k:=u
  simp only[Ap]at k;obtain⟨⟨A,i⟩,g⟩:=k;have A:=Bn A;subst A;show VE X S.M R _ _ λI Q=>wE Φ G R a I λx=>wE Φ G R b I λy=>eS op x y Q;have E:∀B H m w v,Dom B H->Tc X.K B H m w v->aP X.K B m w v:=λ_ _ _ _ _ _ h=>h;have D:∀B H m w v,Dom B H->Jl X.K .f B H m w v->aP X.K B m w v:=λ_ _ _ _ _ d h=>(cE.rep d h).b;have p:=L.b n i R;have j:=J.b n g R;have N:jY Ψ a=true->VE X S.M R .f l (wE Φ G R a):=λz=>by
   rcases dN i with i|i
   .have:=L.e n l i R;rw[jw z]at this;exact this
   .exact(Bl i z).elim
  have P:jY Ψ b=true->VE X S.M R .f r (wE Φ G R b):=λz=>by
   rcases dN g with g|g
   .have:=J.e n r g R;rw[jw z]at this;exact this
   .exact(Bl g z).elim
  cases op with
  |Add=>
   by_cases c:jY Ψ a=true
   .rw[jw (show jY Ψ (.bin .Add a b)=true by show(jY Ψ a||jY Ψ b)=true;rw[c];rfl)];exact uK (N c) j D E λ_ _ _ _ _ _ _ _ _ _ C _=>.inl ⟨rfl,.inl (uT C)⟩
   .by_cases q:jY Ψ b=true
    .rw[jw (show jY Ψ (.bin .Add a b)=true by show(jY Ψ a||jY Ψ b)=true;rw[q,Xj])];exact uK p (P q) E D λ_ _ _ _ _ _ _ _ _ _ _ O=>.inl ⟨rfl,.inr (uT O)⟩
    .rw[c7 (show jY Ψ (.bin .Add a b)=false by show(jY Ψ a||jY Ψ b)=false;rw[TB _|>.mp c,TB _|>.mp q];rfl)];exact AO p j λ_ _=>.inr rfl
  |Mult=>
   by_cases c:jY Ψ a=true
   .rw[jw (show jY Ψ (.bin .Mult a b)=true from c)];exact uK (N c) j D E λ_ _ _ _ _ _ _ _ _ _ C _=>.inr ⟨rfl,uT C⟩
   .rw[c7 (show jY Ψ (.bin .Mult a b)=false from TB _|>.mp c)];exact AO p j λ_ _=>.inr rfl
  |_=>rw[c7 rfl];exact AO p j λ_ _=>.inr rfl
 .obtain⟨l,o,r,t,rfl,u⟩:=ju k
  replace k:=u
  rfl
theorem KI{a:CE}(e:b7 Φ Ψ G a):b7 Φ Ψ G (.neg a):=by
 refine .mk1 (λ{S X} f ex k R=>?_) (λ{S ex} g k b=>?_) (λS ex k=>by exact k) (λ_ _=>rfl)
 .obtain⟨o,x,c,rfl,d⟩:=j8 k
  replace k:=d
  rw[Ap]at k;cases Bn k.1;rw[c7 rfl];exact Js (e.s f k.2 R)
 .obtain⟨o,x,c,rfl,d⟩:=j8 k
  replace k:=d
  rw[Ap]at k;cases Bn k.1;rfl
theorem KJ{a:CE}(h:b7 Φ Ψ G a):b7 Φ Ψ G (.not a):=by
 have e:∀R,wE Φ G R (.not a)=λi Q=>wE Φ G R a i λx=>truth x λb=>Q (.bl (!b)):=λR=>rfl;have g:∀{S:SE}{X:Cx},XOk S Φ Ψ G X->∀ex,aE S false (.not a) ex=true->∀R,VE X S.M R (mo Ψ (.not a)) ex (wE Φ G R (.not a)):=λ{S X} c ex k R=>by
  obtain⟨o,x,d,rfl,f⟩:=j8 k
  replace k:=f
  rw[Ap]at k;cases Bn k.1;rw[c7 rfl,e];exact Jt (h.s c k.2 R)
 refine⟨g,λ{S X} c ex k j R=>?_,λ{S X} c m n ex k _ R=>?_⟩
 .obtain⟨o,x,d,rfl,f⟩:=j8 k
  replace k:=f
  rw[Ap]at k;cases Bn k.1;rw[e];exact Jz (h.t c _ k.2 (by exact j) R)
 .have l:dJ S (.not a) ex=false:=rfl;rw[l,TC,RF]at k;exact fz (iK (g c ex (by exact k) R))
theorem KL(op:CmpOp){a b:CE}(n:b7 Φ Ψ G a)(m:b7 Φ Ψ G b):b7 Φ Ψ G (.cmp op a b):=by
 have e:∀R,wE Φ G R (.cmp op a b)=λg Q=>wE Φ G R a g λx=>wE Φ G R b g λy=>eT op x y Q:=λR=>rfl;have f:∀{S:SE}{X:Cx},XOk S Φ Ψ G X->∀ex,aE S false (.cmp op a b) ex=true->∀R,VE X S.M R .s ex (wE Φ G R (.cmp op a b))/\VT X S.M R ex (wE Φ G R (.cmp op a b)):=λ{S X} c ex k R=>by
  obtain⟨l,o,r,p,rfl,q⟩:=oq k
  replace k:=q
  simp only[Ap,X9]at k;obtain⟨⟨⟨⟨d,u⟩,t⟩,i⟩,h⟩:=k;have d:=Bn d;subst d;have j:=zO r (op:=op) (X2 u) (X2 t);rw[e];exact⟨Ju c.un j (n.b c i R) (m.b c h R),Jv c.un j (n.b c i R) (m.b c h R)⟩
 refine⟨λc ex k R=>by rw[c7 rfl];exact(f c ex k R).1,λc ex k _ R=>(f c ex k R).2,λ{S X} c w z ex k _ R=>?_⟩;have v:dJ S (.cmp op a b) ex=false:=rfl;rw[v,TC,RF]at k;exact fz (iK (f c ex (by exact k) R).1)
theorem gp{a:List Expr}(h:(!a.isEmpty)=true):a≠[]:=by rintro rfl;cases h
theorem KN{b:List CE}(g:nj Φ Ψ G b):b7 Φ Ψ G (.and b):=by
 have e:∀R,wE Φ G R (.and b)=xM Φ G R b:=λR=>rfl;have f:∀{S:SE}{X:Cx},XOk S Φ Ψ G X->∀ex,aE S false (.and b) ex=true->∀R,VE X S.M R .s ex (wE Φ G R (.and b)):=λ{S X} a ex k R=>by
  obtain⟨o,j,c,rfl,d⟩:=j9 k
  replace k:=d
  rw[Ap,Ap]at k;cases Bn k.1.1;rw[e];exact g.av a _ _ (gp k.1.2) k.2 R
 refine⟨λa ex k R=>by rw[c7 rfl];exact f a ex k R,λ{S X} a ex k h R=>?_,λ{S X} a l m ex k _ R=>?_⟩
 .obtain⟨o,j,c,rfl,d⟩:=j9 k
  replace k:=d
  rw[Ap,Ap]at k;cases Bn k.1.1;rw[e];exact(g.at a _ _ (gp k.1.2) k.2 (by exact h) R).pt
 .have i:dJ S (.and b) ex=false:=rfl;rw[i,TC,RF]at k;exact fz (iK (f a ex (by exact k) R))
theorem OI{b:List CE}(g:nj Φ Ψ G b):b7 Φ Ψ G (.or b):=by
 have e:∀R,wE Φ G R (.or b)=L3 Φ G R b:=λR=>rfl;have f:∀{S:SE}{X:Cx},XOk S Φ Ψ G X->∀ex,aE S false (.or b) ex=true->∀R,VE X S.M R .s ex (wE Φ G R (.or b)):=λ{S X} a ex k R=>by
  obtain⟨o,j,c,rfl,d⟩:=j9 k
  replace k:=d
  rw[Ap,Ap]at k;cases Bn k.1.1;rw[e];exact g.ov a _ _ (gp k.1.2) k.2 R
 refine⟨λa ex k R=>by rw[c7 rfl];exact f a ex k R,λ{S X} a ex k h R=>?_,λ{S X} a l m ex k _ R=>?_⟩
 .obtain⟨o,j,c,rfl,d⟩:=j9 k
  replace k:=d
  rw[Ap,Ap]at k;cases Bn k.1.1;rw[e];exact(g.ot a _ _ (gp k.1.2) k.2 (by exact h) R).pt
 .have i:dJ S (.or b) ex=false:=rfl;rw[i,TC,RF]at k;exact fz (iK (f a ex (by exact k) R))
theorem OJ{X:Cx}{M:Ms}{R:Addr->Prop}{m:Md}{e:Expr}{t:WT}{c:CE}(h:VE X M R m e t)(a:mo Ψ c=m\/mo Ψ c=.s):VE X M R (mo Ψ c) e t:=by
 rcases a with z|z
 .rw[z];exact h
 .rw[z];exact yx h
theorem KO{e:List CE}(f:nj Φ Ψ G e):b7 Φ Ψ G (.tup e):=by
 refine .mk1 (λ{S X} g ex k R=>?_) (λ{S ex} h k b=>?_) (λS ex k=>by exact k) (λ_ _=>rfl)
 .obtain⟨d,q,p,rfl,c⟩:=cR k;rw[c7 rfl];exact JC (f.a g d c R)
 .obtain⟨d,q,p,rfl,c⟩:=cR k;rfl
theorem KQ{e:List CE}(f:nj Φ Ψ G e):b7 Φ Ψ G (.lst e):=by
 refine .mk1 (λ{S X} g ex k R=>?_) (λ{S ex} h k b=>?_) (λS ex k=>by exact k) (λ_ _=>rfl)
 .obtain⟨d,p,rfl,c⟩:=lO k;rw[jw rfl];exact JB (f.a g d c R)
 .obtain⟨d,p,rfl,c⟩:=lO k;rfl
theorem OL{a i:CE}(g:b7 Φ Ψ G a)(f:b7 Φ Ψ G i):b7 Φ Ψ G (.ix a i):=by
 refine .mk1 (λ{S X} e ex k R=>?_) (λ{S ex} h k d=>?_) (λS ex k=>by exact k) (λ_ _=>rfl)
 .obtain⟨v,s,p,rfl,c⟩:=cy k;simp only[Ap]at c;rw[c7 rfl];exact N8 (qd c.1.1) (g.b e c.1.2 R) (f.s e c.2 R)
 .obtain⟨v,s,p,rfl,c⟩:=cy k;rfl
theorem GY{a:CE}(d:b7 Φ Ψ G a){S:SE}{X:Cx}(f:XOk S Φ Ψ G X){l:Option Expr}(k:Ku (iH a) (λx=>aE S false a x) l=true)(R:Addr->Prop):PO X l (N9 X S.M R λb Q=>wE Φ G R a b λy=>DZ a y Q):=by
 cases l with
 |none=>
  have z:iH a=true:=k;cases a with
  |aL=>exact Eg
  |_=>exact ff z
 |some x=>
  have k:(!iH a&&aE S false a x)=true:=k;rw[Ap]at k;have e:(λ(b:Ev)(Q:Option Int->Prop)=>wE Φ G R a b λy=>DZ a y Q)=λb Q=>wE Φ G R a b λy=>match y with|.int i=>Q (some i)|_=>False:=by
   have c:iH a=false:=by simpa using k.1
   unfold DZ;rw[c];funext b Q;congr 1;funext y;cases y<;>rfl
  rw[e];exact Eh (d.s f k.2 R)
theorem OM{a f g:CE}(j:b7 Φ Ψ G a)(h:b7 Φ Ψ G f)(i:b7 Φ Ψ G g):b7 Φ Ψ G (.sl a f g):=by
 refine .mk1 (λ{S X} e ex k R=>?_) (λ{S ex} m k d=>?_) (λS ex k=>by exact k) (λ_ _=>rfl)
 .obtain⟨v,l,r,q,p,rfl,c⟩:=wF k;simp only[Ap]at c;rw[jw rfl];exact Oa (j.b e c.1.1 R) (GY h e c.1.2 R) (GY i e c.2 R)
 .obtain⟨v,l,r,q,p,rfl,c⟩:=wF k;rfl
theorem EJ(f:Nat){m:List CE}(C:nj Φ Ψ G m):b7 Φ Ψ G (.call f m):=by
 refine .mk1 (λ{S X} b ex k R=>?_) (λ{S ex} I k c=>?_) (λS ex k=>by exact k) (λ_ _=>rfl)
 .obtain⟨x,q,l,p,rfl,g⟩:=aG k;simp only[Ap]at g;obtain⟨⟨⟨⟨⟨v,u⟩,t⟩,i⟩,s⟩,o⟩:=g;obtain⟨E,D,J⟩:=bw b u;obtain⟨H,n,r,B,F,y,A⟩:=b.fns f x (Pm.mp v) (by simpa using s);have F:cP X.prog X.w X.K X.mg X.base r H n (wj X.K n (Ψ f) (Φ f)):=by rw[<-b.Kv]at i;cases j:Ψ f<;>rw[j]at i F<;>first|exact F|exact ff i
  have d:=jv o;cases l with
  |nil=>exact ff t
  |cons e l=>
   rw[IP,Ap]at d;have h:=wk (M:=S.M) (R:=R) (p:=q) (pos:=p) F y E B A (C.a b _ o R) D (aA d.1 _ _) (cz d.2 _ _);refine OJ h ?_;by_cases z:jY Ψ (.call f m)=true
   .rw[jw z];left;have z:(match Ψ f with|.f=>true|_=>false)=true:=z;cases j:Ψ f<;>rw[j]at z<;>first|rfl|exact ff z
   .exact .inr (c7 (by simpa using z))
 .obtain⟨x,q,l,p,rfl,g⟩:=aG k;rfl
theorem sZ{X:Cx}(c:X.calm=true):∀b:BI,b≠.CL->(∃a,bootBuiltins (Qu b)=some (.builtin a)/\bG X (.builtin a) (JD X.K b))\/(∃a,bootBuiltins (Qu b)=some (.type a)/\bG X (.type a) (JD X.K b))
 |.len,_=>.inl ⟨"len",rfl,cw_len.r⟩
 |.abs,_=>.inl ⟨"abs",rfl,cw_abs.r⟩
 |.max2,_=>.inl ⟨"max",rfl,(cw_max c).r⟩
 |.min2,_=>.inl ⟨"min",rfl,(cw_min c).r⟩
 |.sum,_=>.inl ⟨"sum",rfl,(cw_sum c).r⟩
 |.all,_=>.inl ⟨"all",rfl,(cw_all c).r⟩
 |.list,_=>.inr ⟨"list",rfl,cw_list.r⟩
 |.tuple,_=>.inr ⟨"tuple",rfl,cw_tuple.r⟩
 |.int,_=>.inr ⟨"int",rfl,cw_int.r⟩
 |.Ql,_=>.inl ⟨"divmod",rfl,cw_dvm.r⟩
 |.any,_=>.inl ⟨"any",rfl,(cw_any c).r⟩
 |.CL,h=>absurd rfl h
theorem dj{S:SE}{a:CE}{c:List CE}{b:List Expr}(k:dZ S (a::c) b=true):∃e r,b=e::r/\aE S false a e=true/\dZ S c r=true:=by
 cases b with
 |nil=>exact ff k
 |cons e r=>exact⟨e,r,rfl,a2 k⟩
theorem lV{S:SE}{a:List Expr}(k:dZ S [] a=true):a=[]:=Hb.mp k
theorem uU{S:SE}{a:CE}{c:List CE}{b:List Expr}(k:jP S (a::c) b=true):∃e r,b=e::r/\(aE S false a e||dJ S a e)=true/\jP S c r=true:=by
 cases b with
 |nil=>exact ff k
 |cons e r=>exact⟨e,r,rfl,a2 k⟩
theorem yI{S:SE}{a:List Expr}(k:jP S [] a=true):a=[]:=Hb.mp k
theorem KR(b:BI){i:List CE}(J:nj Φ Ψ G i)(g:∀c∈i,b7 Φ Ψ G c):b7 Φ Ψ G (.blt b i):=by
 refine .mk1 (λ{S X} h ex k R=>?_) (λ{S ex} env k t=>?_) (λS ex k=>by exact k) (λ_ _=>rfl)
 .obtain⟨x,q,C,p,rfl,l⟩:=aG k;simp only[Ap]at l;obtain⟨⟨⟨⟨⟨m,Q⟩,P⟩,O⟩,E⟩,s⟩:=l;have m:=Bn m;obtain⟨B,A,w⟩:=bw h Q;have hz:=h.uS x (by simpa using P);have f:=lT s;cases C with
  |nil=>cases b<;>exact ff O
  |cons e C=>
   rw[IP,Ap]at f;by_cases I:b=.CL
   .subst I;rw[c7 rfl];rcases i with _|⟨a,_|⟨c,_|⟨d,i⟩⟩⟩<;>try exact ff E
    obtain⟨n,H⟩:=WD.mp E;have ec:c=.DY n:=by cases c<;>first|(cases H;rfl)|exact nn H
    subst ec;obtain⟨N,L⟩:=a2 s;obtain⟨e2,r,rfl,D,EK⟩:=uU L;cases yI EK;have j:=f.2;rw[IP,Ap]at j;have K:aE S false (.DY n) e2=true:=by
     rcases dN D with z|z
     .exact z
     .exact ff z
    have u:n∈["int","bool","tuple","list","str","dict"]:=by obtain⟨y,q2,rfl,l⟩:=bS K;have:=(a2 l).2;unfold tys at this;exact UO.mp this
    have Z:=(g a Da).b h N R;have Y:=(g (.DY n) (Dx _ Da)).b h D R;have o:bootBuiltins x=some (.builtin "isinstance"):=by rw[m];rfl
    exact JG (M:=S.M) (R:=R) (p:=q) (pos:=p) h.kit u B hz o Z Y w A (aA f.1 _ _) (aA j.1 _ _) (cz f.2 _ _)
   .have U:mo Ψ (.blt b i)=Ob b:=by
     cases b<;>first|rfl|exact c7 rfl|exact jw rfl
    rw[U];rcases sZ h.calm b I with⟨T,o,v⟩|⟨T,o,v⟩
    .exact JE v B hz (by rw[m];exact o) (J.b h _ s R) w A (aA f.1 _ _) (cz f.2 _ _)
    .exact JF v B hz (by rw[m];exact o) (J.b h _ s R) w A (aA f.1 _ _) (cz f.2 _ _)
 .obtain⟨x,q,C,p,rfl,l⟩:=aG k;rfl
theorem lW{S:SE}{a:List Nat}:∀x∈(S.lend a).M,x∈S.M:=λx b=>(QR.mp b).1
theorem KU(i:Nat):b7 Φ Ψ G (.pop i):=.mk1 (λc ex k R=>by cases k) (λb k a=>by cases k) (λS ex k=>by cases k) (λ_ _=>rfl)
theorem KW{o:List CE}(h:∀c∈o,b7 Φ Ψ G c):b7 Φ Ψ G (.jb o):=by
 refine⟨λ{S X} i ex k R=>?_,λ{S X} i ex k _ R=>?_,λ{S X} i tg br ex k _ R=>?_⟩
 .obtain⟨x,q,z,p,rfl,l⟩:=aG k;simp at l
 .obtain⟨x,q,z,p,rfl,l⟩:=aG k;simp at l
 .have D:dJ S (.jb o) ex=false:=rfl;rw[D,TC,RF]at k;obtain⟨x,q,z,p,rfl,l⟩:=aG k;simp only[Ap]at l;obtain⟨⟨⟨⟨⟨_,v⟩,C⟩,B⟩,y⟩,u⟩:=l;have v:=Bn v;subst v;obtain⟨w,I,H⟩:=bw i C;have hz:=i.uS _ (by simpa using B);rcases o with _|⟨a,_|⟨b,_|⟨c,_|⟨d,o⟩⟩⟩⟩
  .simp at y
  .obtain⟨e,r,rfl,j,n⟩:=dj u;cases lV n;exact Ek (M:=S.M) (R:=R) (br:=br) (tg:=tg) (p:=q) (pos:=p) w hz ((h a Da).s i j R) (aA (aO (.inl j)) _ _)
  .obtain⟨e,r,rfl,j,n⟩:=dj u;obtain⟨f,r,rfl,m,t⟩:=dj n;cases lV t;exact El (M:=S.M) (R:=R) (br:=br) (tg:=tg) (p:=q) (pos:=p) w hz ((h a (by simp)).s i j R) ((h b (by simp)).s i m R) (aA (aO (.inl j)) _ _) (aA (aO (.inl m)) _ _)
  .obtain⟨e,r,rfl,j,n⟩:=dj u;obtain⟨f,r,rfl,m,t⟩:=dj n;obtain⟨g,r,rfl,A,E⟩:=dj t;cases lV E;exact Em (M:=S.M) (R:=R) (br:=br) (tg:=tg) (p:=q) (pos:=p) w hz ((h a (by simp)).s i j R) ((h b (by simp)).s i m R) ((h c (by simp)).s i A R) (aA (aO (.inl j)) _ _) (aA (aO (.inl m)) _ _) (aA (aO (.inl A)) _ _)
  .simp at y
theorem iR{f:Expr->Bool}{a:List Expr}(h:qc f a=true):∃e,a=[e]/\f e=true:=dI h
theorem KY{a:CE}(n:b7 Φ Ψ G a):b7 Φ Ψ G (.pR a):=by
 refine⟨λ{S X} c ex k R=>?_,λ{S X} c ex k _ R=>?_,λ{S X} c s v ex k m R=>?_⟩
 .obtain⟨x,q,g,p,rfl,b⟩:=aG k;simp at b
 .obtain⟨x,q,g,p,rfl,b⟩:=aG k;simp at b
 .have l:dJ S (.pR a) ex=false:=rfl;rw[l,TC,RF]at k;obtain⟨x,q,g,p,rfl,b⟩:=aG k;simp only[Ap]at b;obtain⟨⟨⟨⟨_,f⟩,j⟩,i⟩,d⟩:=b;have f:=Bn f;subst f;obtain⟨e,rfl,d⟩:=iR d;obtain⟨o,u,t⟩:=bw c j;obtain⟨h,b,r,rfl⟩:=m rfl;exact JJ o (c.uS _ (by simpa using i)) (iK (n.e c e d R)) (aA (aO (.inl d)) _ _)
theorem KZ{a:CE}(s:b7 Φ Ψ G a):b7 Φ Ψ G (.rev a):=by
 have r:∀{S:SE}{X:Cx},XOk S Φ Ψ G X->∀ex,aE S false (.rev a) ex=true->∀R,VE X S.M R (mo Ψ (.rev a)) ex (wE Φ G R (.rev a)):=λ{S X} d ex k R=>by obtain⟨x,q,h,p,rfl,c⟩:=aG k;have c:(decide (x=("list":Str))&&fY S x&&S.zn.contains x&&qc (λv=>fZ (λy h=>decide (y=("reversed":Str))&&fY S y&&S.zn.contains y&&qc (λu=>aE S false a u||dJ S a u) h) v) h)=true:=c;simp only[Ap]at c;obtain⟨⟨⟨g,n⟩,m⟩,l⟩:=c;clear k c;have g:=Bn g;subst g;obtain⟨e,rfl,l⟩:=iR l;obtain⟨y,E,h,H,rfl,c⟩:=aG l;simp only[Ap]at c;obtain⟨⟨⟨f,w⟩,t⟩,i⟩:=c;have f:=Bn f;subst f;obtain⟨u,rfl,i⟩:=iR i;obtain⟨o,C,B⟩:=bw d n;obtain⟨A,K,J⟩:=bw d w;rw[jw rfl];exact Ej d.calm o (d.uS _ (by simpa using m)) A (d.uS _ (by simpa using t)) (s.b d i R) (aA (aO (dN i)) _ _)
 refine⟨r,λ{S X} d ex k _ R=>p7 (λj=>?_) (yx (r d ex k R)),λ{S X} d D L ex k I R=>?_⟩
 .obtain⟨x,q,h,p,rfl,c⟩:=aG k;rfl
 .have z:dJ S (.rev a) ex=false:=rfl;rw[z,TC,RF]at k;obtain⟨x,q,h,p,rfl,c⟩:=aG k;have c:(decide (x=("reversed":Str))&&fY S x&&S.zn.contains x&&qc (λv=>aE S false a v) h)=true:=c;simp only[Ap]at c;obtain⟨⟨⟨g,n⟩,m⟩,f⟩:=c;have g:=Bn g;subst g;obtain⟨e,rfl,f⟩:=iR f;obtain⟨o,C,B⟩:=bw d n;exact JK o (d.uS _ (by simpa using m)) (iK (s.e d e f R)) (aA (aO (.inl f)) _ _)
theorem hu1{X:Cx}(h:X.A.units+64<cLine):X.A.units+1<cLine:=by omega
theorem K0(i:Nat){a b:CE}(u:b7 Φ Ψ G a)(t:b7 Φ Ψ G b):b7 Φ Ψ G (.Mc i a b):=by
 refine .mk1 (λ{S X} c ex k R=>?_) (λ{S ex} env k d=>?_) (λS ex k=>by exact k) (λ_ _=>rfl)
 .obtain⟨o,m,v,l,x,y,rfl,e⟩:=lP k;simp only[Ap]at e;obtain⟨⟨⟨⟨⟨f,r⟩,q⟩,j⟩,h⟩,g⟩:=e;have f:=Bn f;subst f;rw[c7 rfl];have p:=aA (aO (.inl h)) [y] X.env;have n:=aA (aO (.inl g)) [] X.env;have tr:backTo l (starEach [x,y] X.env)=[(false,eval x X.env),(false,eval y X.env)]:=by rw[p,n];rfl
  exact Kl (hu1 c.un) (iQ q) (cX c j) (u.s c h R) (t.s c g R) ⟨by obtain⟨z,w,rfl,_⟩:=bS j;rfl,by rw[tr];rfl,r,tr⟩
 .obtain⟨o,m,v,l,x,y,rfl,e⟩:=lP k;rfl
theorem K1(i:Nat){a:CE}(j:b7 Φ Ψ G a):b7 Φ Ψ G (.Me i a):=by
 refine .mk1 (λ{S X} d ex k R=>?_) (λ{S ex} l k b=>?_) (λS ex k=>by exact k) (λ_ _=>rfl)
 .obtain⟨v,s,p,rfl,c⟩:=cy k;simp only[Ap]at c;obtain⟨⟨⟨h,g⟩,f⟩,e⟩:=c;rw[c7 rfl];exact Km (hu1 d.un) (iQ g) (cX d f) (j.s d e R) λ_ _=>by cases s<;>first|rfl|exact ff h
 .obtain⟨v,s,p,rfl,c⟩:=cy k;rfl
theorem K2(i:Nat):b7 Φ Ψ G (.Mf i):=by
 refine .mk1 (λ{S X} b ex k R=>?_) (λ{S ex} l k c=>?_) (λS ex k=>by exact k) (λ_ _=>rfl)
 .obtain⟨x,q,j,p,rfl,d⟩:=aG k;simp only[Ap]at d;obtain⟨⟨⟨e,g⟩,f⟩,a⟩:=d;have e:=Bn e;subst e;obtain⟨v,rfl,a⟩:=dI a;have a:(sU S.M i&&gE S i v)=true:=a;rw[Ap]at a;rw[c7 rfl];obtain⟨h,_,_⟩:=bw b g;exact Kn b.calm (iQ a.1) (cX b a.2) h (b.uS _ (by simpa using f)) (by obtain⟨y,z,rfl,_⟩:=bS a.2;rfl)
 .obtain⟨x,q,j,p,rfl,d⟩:=aG k;rfl
theorem lX{f:NameKind->NameKind}:∀(l:List (Str×NameKind))(y:Str),(l.map λp=>(p.1,f p.2)).lookup y=(l.lookup y).map f
 |[],_=>rfl
 |(n,k)::r,y=>by
  rw[GT,GC,GC];by_cases e:(y==n)=true
  .rw[e];rfl
  .rw[TB]at e;rw[e];exact lX r y
theorem qe{sc a b:Scope}{N d c:List Str}(h:∀x,a.names.lookup x=b.names.lookup x):cI sc a N d c=cI sc b N d c:=by unfold cI;simp only[h]
theorem EL{S:SE}{X:Cx}(a:XOk S Φ Ψ G X){scope:Scope}{b:List Str}(g:cI scope X.env.scope X.N (mask b S.N) b=true)(h:(b++mask b S.N).Nodup){c:List (Addr×Obj)}{d:St}{H:Hp}{s:Shared}(I:Inv X c d H s)(C:Addr)(e:Shared)(j:Hp)(i:List Addr):
 XOk (S.comp scope b) Φ Ψ G (aK X scope C b (mask b S.N) e j i):=by
 refine⟨rfl,h,a.calm,a.un,λx=>?_,a.fns,a.Mj,a.Kv,a.Kw,a.uS,a.kit⟩;show(relabel scope X.env).names.lookup x=_;rw[eN I (dW.of g)];show _=(scope.names.map λp=>(p.1,if p.2=.free then NameKind.cell else p.2)).lookup x;rw[lX (f:=λk=>if k=.free then NameKind.cell else k)]
noncomputable def d7(X:Cx)(i:Nat)(x:Str):Prop:=X.N[i]?=some x/\Loc X.env.scope x/\(X.fn x=true\/X.env.scope.names.lookup x=some .local)
noncomputable def cM(X:Cx):List Nat->List Str->Prop
 |[],a=>a=[]
 |i::b,a=>∃x r,a=x::r/\d7 X i x/\cM X b r
theorem GZ{X:Cx}(a:X.N.Nodup){i:Nat}{x:Str}{p:Pos}(h:d7 X i x):PG X (.Name x p) (eB i):=C1 a h.1 h.2.1 h.2.2
theorem Bm{X:Cx}(f:X.N.Nodup):∀(a:List Expr)(c:List Str)(b:List Nat),Bg a=some c->cM X b c->MW X a (Oe b)/\(assignEach a X.env).length=b.length/\(assignEach a X.env).findIdx? (·.1)=none
 |[],c,b,h,k=>by
  cases h;cases b with
  |nil=>exact⟨C2,rfl,rfl⟩
  |cons i d=>obtain⟨x,r,e,_⟩:=k;cases e
 |e::a,c,b,h,k=>by
  cases e with
  |Name x p=>
   obtain⟨l,n,rfl⟩:=IR.mp h;cases b with
   |nil=>cases k
   |cons i d=>obtain⟨s,r,e,q,o⟩:=k;cases e;obtain⟨m,j,g⟩:=Bm f a l d n o;have e:assignEach (.Name x p::a) X.env=(false,assign (.Name x p) X.env)::assignEach a X.env:=rfl;refine⟨zJ (GZ f q) m rfl,by rw[e,Eb,j,Eb],?_⟩;rw[e,List.findIdx?_cons,g];rfl
  |_=>exact nn h
theorem K4{X:Cx}(q:X.calm=true)(c:X.N.Nodup){tg:Expr}{one:Bool}{b:List Str}{a:List Nat}(h:OB tg=some (one,b))(k:cM X a b):PG X tg (gT X.K one a):=by
 cases tg with
 |Name x p=>
  cases h
  match a,k with
  |[i],k=>obtain⟨g,r,e,f,d⟩:=k;cases e;exact GZ c f
  |[],k=>cases k
  |_::_::_,k=>obtain⟨g,r,e,f,d⟩:=k;cases e;obtain⟨u,v,t,_⟩:=d;cases t
 |Tuple s w p=>
  dsimp only[OB]at h;obtain⟨l,o,e⟩:=IR.mp h;cases e;obtain⟨n,m,j⟩:=Bm c s b a o k;have:gT X.K false a=Ie X.K a.length (Oe a):=by cases a<;>rfl
  rw[this];exact Ig q n m j
 |_=>exact nn h
theorem jQ{X:Cx}:∀(a:List Str)(n:Nat),(∀k x,a[k]?=some x->d7 X (n+k) x)->cM X ((Ea a.length).map (n+·)) a
 |[],n,_=>rfl
 |x::a,n,h=>by
  rw[Eb,WM,GT];refine⟨x,a,rfl,h 0 x rfl,?_⟩;have:=jQ a (n+1) λk y b=>by have:=h (k+1) y (by simpa using b);rw[show n+1+k=n+(k+1) by lia];exact this
  rw[Qr];have e:(Ea a.length).map (n+1+·)=(Ea a.length).map ((n+·)∘Y4):=PP λk _=>by show n+1+k=n+(k+1);lia
  rw[<-e];exact this
theorem tu{a:Expr}(h:uR a=true)(env:Env)(x:Value):foldedSetIterable a env x=pure x:=by
 cases a<;>first|rfl|exact ff h
theorem wH{d:List Nat}{one:Bool}{n:Nat}{i c x:CE}{R:Addr->Prop}:wE Φ G R (.comp d one n i c x)=λb Q=>wE Φ G R i b λz=>items z λf=>jX (λw K=>wT one d w (Ds n none++b) λa=>wE Φ G (λ_=>False) c a λe=>truth e λk=>if k=true then wE Φ G (λ_=>False) x a λy=>K (some y)else K none) f [] λl=>Q (.lst l):=rfl
theorem yJ{S:SE}{X:Cx}(x:XOk S Φ Ψ G X){m:List Nat}{one:Bool}{n:Nat}{en:Bool}{L:Expr->Bool}{M:SE->List Expr->Bool}{J:SE->Expr->Bool}{l tg c:Expr}{i:List Expr}{scope:Scope}(f:lQ S m one n en L M J l tg c i scope=true):
 ∃a,n=a.length/\(∀j∈m,j<a.length)/\cI scope X.env.scope X.N (mask a S.N) a=true/\(∀z,foldedSetIterable c X.env z=pure z)/\(en=true->∃P k p,tg=Expr.Tuple P k p)/\L c=true/\M (S.comp scope a) i=true/\J (S.comp scope a) l=true/\
  ∀d s B H,Inv X d B H s->∀C e h g,PG (aK X scope C a (mask a S.N) e h g) tg (gT X.K one m)/\XOk (S.comp scope a) Φ Ψ G (aK X scope C a (mask a S.N) e h g):=by
 unfold lQ at f;split at f;rotate_left
 .cases f
 rename_i o a K5
 simp only[Ap]at f;obtain⟨⟨⟨⟨⟨⟨⟨⟨⟨t,r⟩,q⟩,Y⟩,U⟩,T⟩,E⟩,R⟩,Q⟩,EK⟩:=f;have t:=Pm.mp t;have r:=Pm.mp r;have q:=Pm.mp q;subst t r q;have w:=Bn U;have v:cI scope X.env.scope X.N (mask a S.N) a=true:=by rw[x.hN,qe (b:=S.sc) λy=>x.nk y];exact Y
 have O:=dW.of v;refine⟨a,rfl,λj hj=>Kk.mp hj,v,tu T _,λz=>?_,R,Q,EK,λd s B H I C e h g=>?_⟩
 .have:one=false:=by rw[z]at E;simpa using E
  subst this;cases tg with
  |Tuple P f p=>exact⟨_,_,_,rfl⟩
  |Name y p=>cases K5
  |_=>exact nn K5
 .have A:=EL x v w I C e h g;refine⟨K4 A.calm A.nd K5 ?_,A⟩;have:=jQ (X:=aK X scope C a (mask a S.N) e h g) a 0 λk y u=>?_
  .simpa using this
  .have Z:y∈a:=QP u;have D:(aK X scope C a (mask a S.N) e h g).env.scope.names.lookup y=some .local:=by show(relabel scope X.env).names.lookup y=_;rw[eN I O,(O.own y Z).1];rfl
   refine⟨?_,.inl D,.inr D⟩;show(a++mask a S.N)[0+k]?=some y;rw[U1,NA (FM.mp u).1];exact u
theorem lY{O:List Nat}{one:Bool}{n:Nat}{i c x:CE}(hi:b7 Φ Ψ G i)(hc:b7 Φ Ψ G c)(hx:b7 Φ Ψ G x){S:SE}{X:Cx}(hX:XOk S Φ Ψ G X){ex:Expr}(k:aE S false (.comp O one n i c x) ex=true)(R:Addr->Prop):
 ∃B tg a y scope p d,ex=.ListComp B [⟨tg,a,y,0⟩] scope p/\n=d.length/\(∀j∈O,j<d.length)/\cI scope X.env.scope X.N (mask d S.N) d=true/\(∀z,foldedSetIterable a X.env z=pure z)/\PI X tg a (AR X S.M R true (wE Φ G R i))/\
  ∀g s D H,Inv X g D H s->(∀C o l u,PG (aK X scope C d (mask d S.N) o l u) tg (gT X.K one O))/\(∀C o l u,PF (aK X scope C d (mask d S.N) o l u) y (RQ X.K (up S.M d.length) (wE Φ G (λ_=>False) c)))/\
   ∀C o l u,(XOk (S.comp scope d) Φ Ψ G (aK X scope C d (mask d S.N) o l u)/\aE (S.comp scope d) false x B=true)/\PE (aK X scope C d (mask d S.N) o l u) B (RP X.K (up S.M d.length) (wE Φ G (λ_=>False) x)):=by
 obtain⟨B,tg,a,y,scope,p,rfl,kk⟩:=ou k;obtain⟨d,rfl,U,ho,Y,Z,k8,m,EK,T⟩:=yJ hX kk;refine⟨B,tg,a,y,scope,p,d,rfl,rfl,U,ho,Y,hi.i hX tg true a (by rw[Xe];exact k8) Z R,λg s D H I=>⟨λC o l u=>(T g s D H I C o l u).1,λC o l u=>?_,λC o l u=>?_⟩⟩
 .have L:=(T g s D H I C o l u).2
  match y,m with
  |[],m=>
   have m:GW c=true:=m;cases c with
   |bl b=>have:b=true:=m;subst this;refine PF.imp IX ?_;rintro D H Q ⟨A,l,E,P,J,h,k⟩;obtain⟨b,e,q⟩:=k _ H h (ao.refl H);cases e;exact q
   |_=>exact ff m
  |[f],m=>have m:(aE (S.comp scope d) false c f&&EG c)=true:=m;rw[Ap]at m;exact PF.imp (IY (hc.t L f m.1 m.2 λ_=>False))<|by rintro D H Q ⟨A,l,E,P,J,h,k⟩;exact⟨A,l,E,P,J,.none,h,k⟩
  |_::_::_,m=>exact ff m
 .have L:=(T g s D H I C o l u).2;refine⟨⟨L,EK⟩,?_⟩;exact PE.imp (hx.s L EK λ_=>False)<|by rintro D H Q ⟨A,l,E,P,J,h,k⟩;exact⟨A,l,E,P,J,.none,h,λw v H' pw s r=>k w v H' pw s r.aY⟩
theorem EM(o:List Nat)(one:Bool)(n:Nat){i c x:CE}(B:b7 Φ Ψ G i)(D:b7 Φ Ψ G c)(w:b7 Φ Ψ G x):b7 Φ Ψ G (.comp o one n i c x):=by
 refine .mk1 (λ{S X} m ex k R=>?_) (λ{S ex} J k e=>?_) (λS ex k=>by exact k) (λ_ _=>rfl)
 .obtain⟨j,q,d,f,b,p,M,rfl,rfl,g,A,h,K,z⟩:=lY B D w m k R;rw[jw rfl];rw[wH];intro a s l H Q I y;obtain⟨v,u,t⟩:=z a s l H I;exact En m.calm A g K v u (λC r L E=>(t C r L E).2) h a s l H Q I y
 .obtain⟨j,q,d,f,b,p,rfl,N⟩:=ou k;rfl
theorem K6:nj Φ Ψ G []:=by
 have en:∀{S:SE}{a:List Expr},dZ S [] a=true->a=[]:=λ{S a} h=>by exact Hb.mp h
 have e:∀{S:SE}{a:List Expr},jP S [] a=true->a=[]:=λ{S a} h=>by exact Hb.mp h
 refine⟨λd a k R=>?_,λd a k R=>?_,λd a b c k R=>absurd (en k) c,λd a b c k R=>absurd (en k) c,λd a b c k _ R=>absurd (en k) c,λd a b c k _ R=>absurd (en k) c⟩
 .rw[en k];exact JA
 .rw[e k];exact Ef
theorem EN{a:CE}{m:List CE}(l:b7 Φ Ψ G a)(o:nj Φ Ψ G m):nj Φ Ψ G (a::m):=by
 have p:∀{S:SE}{j:List Expr},dZ S (a::m) j=true->∃e r,j=e::r/\aE S false a e=true/\dZ S m r=true:=λ{S j} h=>by
  cases j with
  |nil=>exact ff h
  |cons e r=>have h:=KB.mp h;exact⟨e,r,rfl,h.1,h.2⟩
 have w:∀R,wA Φ G R (a::m)=λv Q=>wE Φ G R a v λx=>wA Φ G R m v λy=>Q (x::y):=λR=>rfl;refine⟨λc j k R=>?_,λ{S X} c j k R=>?_,λ{S X} c j f q k R=>?_,λ{S X} c j f q k R=>?_,λ{S X} c j f q k i R=>?_,λ{S X} c j f q k i R=>?_⟩
 .obtain⟨e,r,rfl,g,d⟩:=p k;rw[w];exact Ed (aA (aO (.inl g)) _ _) (l.s c g R) (o.a c r d R)
 .cases j with
  |nil=>exact ff k
  |cons e r=>have k:=KB.mp k;rw[w];exact AQ (aA (aO (dN k.1)) _ _) (l.b c k.1 R) (o.b c r k.2 R)
 .obtain⟨e,r,rfl,g,d⟩:=p k;cases m with
  |nil=>
   have:r=[]:=by exact Hb.mp d
   subst this;exact zG (l.s c g R)
  |cons b u=>
   cases r with
   |nil=>exact ff d
   |cons n r=>exact Jw (l.s c g R) (o.av c (n::r) f (by simp) d R)
 .obtain⟨e,r,rfl,g,d⟩:=p k;cases m with
  |nil=>
   have:r=[]:=by exact Hb.mp d
   subst this;exact zG (l.s c g R)
  |cons b u=>
   cases r with
   |nil=>exact ff d
   |cons n r=>exact N6 (l.s c g R) (o.ov c (n::r) f (by simp) d R)
 .obtain⟨e,r,rfl,g,d⟩:=p k;have i:=a2 i;cases m with
  |nil=>
   have:r=[]:=by exact Hb.mp d
   subst this;exact Ec (l.t c e g i.1 R)
  |cons b u=>
   cases r with
   |nil=>exact ff d
   |cons n r=>exact Jy (l.t c e g i.1 R) (o.at c (n::r) f (by simp) d i.2 R)
 .obtain⟨e,r,rfl,g,d⟩:=p k;have i:=a2 i;cases m with
  |nil=>
   have:r=[]:=by exact Hb.mp d
   subst this;exact Jx (l.t c e g i.1 R)
  |cons b u=>
   cases r with
   |nil=>exact ff d
   |cons n r=>exact N7 (l.t c e g i.1 R) (o.ot c (n::r) f (by simp) d i.2 R)
variable(Φ Ψ G)
mutual
theorem snd:∀c:CE,b7 Φ Ψ G c
 |.var i=>Ky i
 |.int i=>KA i
 |.bl b=>OG b
 |.str x=>KC x
 |.aL=>KD
 |.DY n=>KG n
 |.glob g=>EI g
 |.bin op a b=>KH op (snd a) (snd b)
 |.neg a=>KI (snd a)
 |.not a=>KJ (snd a)
 |.cmp op a b=>KL op (snd a) (snd b)
 |.and d=>KN (jZ d).1
 |.or d=>OI (jZ d).1
 |.tup d=>KO (jZ d).1
 |.lst d=>KQ (jZ d).1
 |.ix a i=>OL (snd a) (snd i)
 |.sl a h j=>OM (snd a) (snd h) (snd j)
 |.call f d=>EJ f (jZ d).1
 |.blt b d=>KR b (jZ d).1 (jZ d).2
 |.comp e one n i c x=>EM e one n (snd i) (snd c) (snd x)
 |.jb d=>KW (jZ d).2
 |.pR a=>KY (snd a)
 |.rev a=>KZ (snd a)
 |.pop i=>KU i
 |.own i π=>Kz i π
 |.Mc i k x=>K0 i (snd k) (snd x)
 |.Me i k=>K1 i (snd k)
 |.Mf i=>K2 i
theorem jZ:∀cs:List CE,nj Φ Ψ G cs/\∀c∈cs,b7 Φ Ψ G c
 |[]=>⟨K6,by simp⟩
 |c::cs=>⟨EN (snd c) (jZ cs).1,λd a=>by
  rcases FV.mp a with e|h
  .rw[e];exact snd c
  .exact(jZ cs).2 d h⟩
end
end
noncomputable def K7(S:SE)(i:Nat)(x:Str):Bool:=S.N[i]?==some x&&(S.nk.lookup x==some .local||S.nk.lookup x==some .cell)
noncomputable def yK(S:SE):List Nat->List Str->Bool
 |[],a=>a.isEmpty
 |i::b,a=>match a with
  |x::r=>K7 S i x&&yK S b r
  |[]=>false
noncomputable def EO(S:SE)(a:List Nat):Bool:=a.all λi=>!sN S.M i
noncomputable def SE.less(S:SE)(i:Nat):SE:={S with M:=S.M.filter (·.1 !=i)}
noncomputable def SE.bare(S:SE):SE:={S with M:=[]}
noncomputable def Bo:Expr->Bool
 |.Tuple _ _ _=>false
 |_=>true
noncomputable def G3:Expr->Bool
 |.ListComp _ _ _ _=>false
 |_=>true
noncomputable def Ml(S:SE)(b vs:List Expr):Option (Option (List Str)):=
 if !(b.length==2||b.length==3)||vs.length !=b.length then some none
 else if vs.any λ|.Starred ..=>true|_=>false then some none
 else
  let line:=(b.head?.map (·.pos.line)).getD 0
  let a:=b.filterMap λ
   |.Name c pos=>if S.nk.lookup c==some .local&&pos.line==line then some c else none
   |_=>none
  if a.length !=b.length||a.eraseDups.length !=a.length then some none
  else if vs.all (foldedForSure 8)then some none
  else if vs.all (constantsAlone 8)then none
  else some (some a)
noncomputable def Bp(f:List Expr->Expr->Bool):Stmt->Bool
 |.Assign a v _=>f a v
 |_=>false
noncomputable def Tt(f:Expr->List Stmt->List Stmt->Bool):Stmt->Bool
 |.While c a b _=>f c a b
 |_=>false
noncomputable def Tu(f:Expr->Expr->List Stmt->List Stmt->Bool):Stmt->Bool
 |.For t i a b _=>f t i a b
 |_=>false
noncomputable def ON(f:Expr->Bool):Stmt->Bool
 |.Expr v _=>f v
 |_=>false
noncomputable def wJ(f:Str->Pos->Expr->Bool):Stmt->Bool:=Bp λa v=>o1 (RX λx p=>f x p v) a
noncomputable def G4(f:List Expr->Expr->Bool):Stmt->Bool:=Bp λa v=>o1 (uO λb=>f b v) a
noncomputable def G5(f:List Expr->List Expr->Bool):Stmt->Bool:=Bp λb v=>o1 (uO λc=>uO (λa=>f c a) v) b
noncomputable def Bq(f:Expr->Expr->Expr->Bool):Stmt->Bool:=Bp λa v=>o1 (uP λo k=>f o k v) a
noncomputable def OO(f:Expr->Str->Pos->Pos->Expr->Bool):Stmt->Bool:=ON (sX λg b k c=>k&&o1 (λv=>A8 (λo m a=>f o m a c v) g) b)
noncomputable def OP(n:Bool)(f:Expr->Bool):Stmt->Bool
 |.Return (some v) _=>f v
 |.Return none _=>n
 |_=>false
noncomputable def OQ(f:Expr->List Stmt->List Stmt->Bool):Stmt->Bool
 |.If c a b _=>f c a b
 |_=>false
noncomputable def OR(f:Expr->List Stmt->Bool):Stmt->Bool:=Tt λc a b=>b.isEmpty&&f c a
noncomputable def OS(f:Expr->Expr->List Stmt->Bool):Stmt->Bool:=Tu λt i a b=>b.isEmpty&&f t i a
noncomputable def R3:Stmt->Bool
 |.Break _=>true
 |_=>false
noncomputable def Br:Expr->Bool
 |.Dict [] [] _=>true
 |_=>false
theorem uV{e:Expr}(h:Br e=true):∃p,e=.Dict [] [] p:=by
 cases e with
 |Dict a b p=>
  cases a with
  |nil=>
   cases b with
   |nil=>exact⟨p,rfl⟩
   |cons _ _=>exact ff h
  |cons _ _=>exact ff h
 |_=>exact ff h
noncomputable def Bs(f:Stmt->Bool)(g:List Stmt->Bool):List Stmt->Bool
 |e::a=>f e&&g a
 |[]=>false
mutual
noncomputable def Mm:Md->Md->Bool
 |.s,m=>Kq m
 |.f,m=>Ow m
 |.t a,m=>match m with
  |.t b=>ES a b
  |_=>false
 |.o e a,m=>match m with
  |.o c b=>decide (e=c)&&ES a b
  |_=>false
 |.io a,m=>match m with
  |.io b=>Mm a b
  |_=>false
 |.ls a,m=>match m with
  |.ls b=>Mm a b
  |_=>false
 |.d,m=>Ox m
noncomputable def ES:List Md->List Md->Bool
 |[],l=>l.isEmpty
 |a::d,l=>match l with
  |b::c=>Mm a b&&ES d c
  |[]=>false
end
mutual
theorem lZ:∀{a b:Md},Mm a b=true->a=b
 |.s,m,h=>by cases m<;>first|rfl|exact ff h
 |.f,m,h=>by cases m<;>first|rfl|exact ff h
 |.t a,m,h=>by
  cases m with
  |t b=>exact GM _ (qf h)
  |_=>exact ff h
 |.o e a,m,h=>by
  cases m with
  |o c b=>have h:=KB.mp h;rw[Bn h.1,qf h.2]
  |_=>exact ff h
 |.io a,m,h=>by
  cases m with
  |io b=>exact GM _ (lZ h)
  |_=>exact ff h
 |.ls a,m,h=>by
  cases m with
  |ls b=>exact GM _ (lZ h)
  |_=>exact ff h
 |.d,m,h=>by cases m<;>first|rfl|exact ff h
theorem qf:∀{a b:List Md},ES a b=true->a=b
 |[],l,h=>by
  cases l with
  |nil=>rfl
  |cons b c=>exact ff h
 |a::d,l,h=>by
  cases l with
  |nil=>exact ff h
  |cons b c=>have h:=KB.mp h;rw[lZ h.1,qf h.2]
end
noncomputable def hasB(M:Ms)(i:Nat)(m:Md):Bool:=match M.lookup i with
 |some k=>Mm k m
 |none=>false
theorem wK{M:Ms}{i:Nat}{m:Md}(h:hasB M i m=true):(i,m)∈M:=by
 unfold hasB at h;cases e:M.lookup i with
 |none=>rw[e]at h;exact ff h
 |some k=>rw[e]at h;rw[<-lZ h];exact fX e
mutual
noncomputable def j3(S:SE):CE->Expr->Bool
 |.pop i,e=>Bb (λo m j h=>decide (m=("pop":Str))&&(j.endLine==h.line)&&yG S.M i&&gE S i o) e
 |.bin op a b,e=>A9 (λo l r=>decide (op=o)&&j3 S a l&&j3 S b r) e
 |.cmp op a b,e=>Ba (λo l r=>decide (op=o)&&!decide (op=.In)&&!decide (op=.NotIn)&&j3 S a l&&j3 S b r) e
 |.call f g,e=>fZ (λx d=>S.fn[f]?==some x&&fY S x&&!d.isEmpty&&!dH (lN S.md f)&&!S.mt.any (·.1==f)&&l5 S g d) e
 |.blt b g,e=>fZ (λx d=>decide (x=Qu b)&&fY S x&&S.zn.contains x&&Tr b d.length&&!decide (b=.CL)&&!d.isEmpty&&l5 S g d) e
 |.ix a b,e=>uP (λv s=>oz s&&j3 S a v&&j3 S b s) e
 |.lst g,e=>Kr (λd=>l5 S g d) e
 |.tup g,e=>uO (λd=>l5 S g d) e
 |.and _,_=>false
 |.or _,_=>false
 |c,e=>aE S false c e
noncomputable def l5(S:SE):List CE->List Expr->Bool
 |[],b=>b.isEmpty
 |a::c,b=>Bj (λe=>j3 S a e) (λb=>l5 S c b) b
end
noncomputable def Tv:Md->Bool
 |.s=>true
 |_=>false
noncomputable def R4(a:Nat->Md):CE->Md
 |.tup b=>.t (b.map (mo a))
 |.call f _=>a f
 |c=>mo a c
noncomputable def isVar:CE->Option Nat
 |.var i=>some i
 |_=>none
noncomputable def OT(S:SE)(m:Md)(e:CE)(v:Expr):Bool:=match isVar e with
 |some i=>hasB S.M i m&&gE S i v
 |none=>false
noncomputable def OU(S:SE)(a:Nat->Md)(m:Md)(e:CE)(v:Expr):Bool:=
 !dH m&&((Tv m&&(aE S.bare false e v||aE S false e v))||(Mm (R4 a e) m&&aE S.bare false e v)||OT S m e v)
noncomputable def isCall:CE->Bool
 |.call _ _=>true
 |_=>false
noncomputable def Tw(S:SE)(a:List Nat)(one e:Bool)(f:Expr->Bool)(g:List Stmt->Bool)(tg c:Expr)(b:List Stmt):Bool:=
 match OB tg with
 |some (o,d)=>(one==o)&&yK S a d&&EO S a&&uR c&&(!e||!one)&&f c&&g b
 |none=>false
noncomputable def Bt:Expr->Bool
 |.SetComp _ _ _ _=>false
 |.DictComp _ _ _ _ _=>false
 |_=>true
mutual
noncomputable def ET(S:SE)(d:Nat->Md)(m:Md):CS->Stmt->Bool
 |.set i e,st=>wJ (λx _ v=>K7 S i x&&(if sN S.M i=true then(!dH m||!(i==0))&&((yG S.M i&&jY d e)||(isCall e&&hasB S.M i (R4 d e)))&&aE (S.less i) false e v else aE S false e v)) st
 |.CM f e,st=>G4 (λh v=>(match Bg h with|some g=>yK S f g|none=>false)&&EO S f&&aE S false e v&&(Bo v||uO (λvs=>decide (Ml S h vs=some none)) v)) st
 |.par f h,st=>G5 (λtg vs=>(match Bg tg with|some g=>yK S f g&&decide (Ml S tg vs=some (some g))&&decide g.Nodup&&g.all (λx=>S.nk.lookup x==some .local)|none=>false)&&EO S f&&dZ S h vs) st
 |.app i e,st=>OO (λo n q p v=>decide (n=("append":Str))&&(q.endLine==p.line)&&yG S.M i&&gE S i o&&aE S false e v) st
 |.put i k e,st=>Bq (λo j v=>yG S.M i&&gE S i o&&oz j&&aE S false k j&&aE S false e v) st
 |.AF j e,st=>wJ (λx _ v=>K7 S j x&&!sN S.M j&&G3 v&&Bt v&&j3 S e v) st
 |.ret e,st=>OP (iH e&&Tv m) (λv=>OU S d m e v) st
 |.iff c a b,st=>OQ (λt x y=>aE S false c t&&EG c&&eV S d m a x&&eV S d m b y) st
 |.t7 c b,st=>OR (λt x=>aE S false c t&&EG c&&eV S d m b x) st
 |.fr f one l b,st=>OS (λtg i x=>Tw S f one (Bh l) (λi=>aE S true l i) (λx=>eV S d m b x) tg i x) st
 |.brk,st=>R3 st
 |.NQ i,st=>wJ (λx _ v=>K7 S i x&&(!dH m||!(i==0))&&sU S.M i&&Br v) st
 |.NR i k e,st=>Bq (λo j v=>sU S.M i&&gE S i o&&oz j&&aE S false k j&&aE S false e v) st
 |.Mg _ _,_=>false
noncomputable def eV(S:SE)(d:Nat->Md)(m:Md):List CS->List Stmt->Bool
 |[],c=>c.isEmpty
 |a::g,c=>match a with
  |.Mg f b=>g.isEmpty&&(!dH m||!f.contains 0)&&eV (S.lend f) d m b c
  |a=>Bs (λe=>ET S d m a e) (λc=>eV S d m g c) c
end
structure uW(S:SE)(Φ:Nat->bf)(Ψ:Nat->Md)(G:Nat->W)(X:Cx):Prop extends XOk S Φ Ψ G X where
 bk:X.env.blockKind=.function
 Mp:∀x,X.fn x=true
 K8:∀j x C,S.gn[j]?=some x->G j=.cls C->Ro X.K C
 G6:∀i m m',(i,m)∈S.M->(i,m')∈S.M->m=m'
section
variable{S:SE}{Φ:Nat->bf}{Ψ:Nat->Md}{G:Nat->W}{X:Cx}
theorem uW.mY(h:uW S Φ Ψ G X):uW S Φ Ψ G X.mY:={toXOk:=h.toXOk.mY,bk:=h.bk,Mp:=h.Mp,K8:=h.K8,G6:=h.G6}
theorem XOk.Mq(h:XOk S Φ Ψ G X)(M:Ms):XOk {S with M:=M} Φ Ψ G X:=⟨h.hN,h.nd,h.calm,h.un,h.nk,h.fns,h.Mj,h.Kv,h.Kw,h.uS,h.kit⟩
theorem l6(h:uW S Φ Ψ G X){i:Nat}{x:Str}(k:K7 S i x=true):d7 X i x:=by unfold K7 at k;simp only[Ap,XR,Pm]at k;refine⟨by rw[h.hN];exact k.1,?_,.inl (h.Mp x)⟩;unfold L2.Loc;rw[h.nk];exact k.2
theorem kg(h:uW S Φ Ψ G X):∀{b:List Nat}{a:List Str},yK S b a=true->cM X b a
 |[],a,k=>Hb.mp k
 |i::c,[],k=>by cases k
 |i::c,x::r,k=>by rw[yK,Ap]at k;exact⟨x,r,rfl,l6 h k.1,kg h k.2⟩
theorem qg{a:List Nat}(h:EO S a=true):∀i∈a,¬aM S.M i:=λi b=>iP (by simpa using IH.mp h i b)
theorem tw{i:Nat}{m:Md}(f:(i,m)∈S.M)(d:∀c,(i,c)∈S.M->c=m){x:Nat×Md}:x∈S.M↔x=(i,m)\/x∈(S.less i).M:=by
 show _↔_\/x∈S.M.filter (·.1 !=i);rw[QR,bne_iff_ne];obtain⟨a,b⟩:=x;constructor
 .intro h;by_cases e:a=i
  .subst e;rw[d b h];exact .inl rfl
  .exact .inr ⟨h,e⟩
 .rintro(e|h)
  .cases e;exact f
  .exact h.1
theorem tD{i:Nat}:¬aM (S.less i).M i:=by rintro⟨m,h⟩;have h:(i,m)∈S.M.filter (·.1 !=i):=h;rw[QR,bne_iff_ne]at h;exact h.2 rfl
noncomputable def wL:Expr->Bool
 |.SetComp _ _ _ _=>false
 |.DictComp _ _ _ _ _=>false
 |_=>true
theorem K9{b:Bool}{c:CE}{e:Expr}(h:aE S b c e=true):wL e=true:=by
 cases e with
 |SetComp _ _ _ _=>
  cases c with
  |own i a=>rcases(di h).2 with⟨_,_,_,e⟩|⟨_,_,_,_,_,e⟩<;>cases e
  |_=>exact ff h
 |DictComp _ _ _ _ _=>
  cases c with
  |own i a=>rcases(di h).2 with⟨_,_,_,e⟩|⟨_,_,_,_,_,e⟩<;>cases e
  |_=>exact ff h
 |_=>rfl
noncomputable def R5(S:SE)(x:Str)(p:Pos):Expr->Bool
 |.ListComp _ _ scope q=>(S.nk.lookup x==some .local)&&(p.line==q.line)&&!(scope.names.any λ(n,k)=>n==x&&(k==.local||k==.cell))
 |_=>false
theorem OV(h:uW S Φ Ψ G X){e:Expr}(he:wL e=true)(x:Str)(p:Pos)(l:Nat):swapsWith e (some (.Name x p)) l X.env=pure (R5 S x p e):=by
 cases e with
 |ListComp a b scope q=>show(pure _:Sem Bool)=pure _;rw[h.bk];show(pure (true&&(X.env.scope.names.lookup x==some .local)&&(p.line==q.line)&&_):Sem Bool)=_;rw[h.nk,Xe];rfl
 |SetComp _ _ _ _=>exact ff he
 |DictComp _ _ _ _ _=>exact ff he
 |_=>rfl
theorem EU{e:Expr}{a:List Expr}{k:Nat}{p:Pos}(l:Nat)(env:Env):swapsWithSole [.Tuple a k p] e l env=pure false:=by
 cases e<;>rfl
theorem tE{e o i:Expr}{p:Pos}(l:Nat)(env:Env):swapsWithSole [.Subscript o i p] e l env=pure false:=by
 cases e<;>rfl
theorem EV{e:Expr}(he:Bo e=true)(a:List Expr)(k:Nat)(p:Pos)(env:Env):swappedStores [.Tuple a k p] e env=pure none:=by
 cases e<;>first|rfl|exact ff he
theorem tF{e o i:Expr}{p:Pos}(env:Env):swappedStores [.Subscript o i p] e env=pure none:=by
 cases e<;>rfl
theorem Bu(h:uW S Φ Ψ G X){a vs:List Expr}{k k2:Nat}{p p2:Pos}{o:Option (List Str)}(e:Ml S a vs=some o):swappedStores [.Tuple a k p] (.Tuple vs k2 p2) X.env=pure o:=by
 delta swappedStores
 unfold Ml at e;have b:∀x,X.env.kindOf x=S.nk.lookup x:=λx=>h.nk x;simp only[b,h.bk,bne_self_eq_false,RF];dsimp only at e;split at e
 .rename_i c
  cases e;exact Bz c
 rename_i c1
 refine(Bi c1).trans ?_;split at e
 .rename_i c
  cases e;exact Bz c
 rename_i c2
 refine(Bi c2).trans ?_;split at e
 .rename_i c
  cases e;exact Bz c
 rename_i c3
 refine(Bi c3).trans ?_;split at e
 .rename_i c
  cases e;exact Bz c
 rename_i c4
 refine(Bi c4).trans ?_;split at e
 .cases e
 rename_i c5
 cases e;exact Bi c5
end
theorem iS{f:List Expr->Expr->Bool}{e:Stmt}(h:Bp f e=true):∃a v q,e=.Assign a v q/\f a v=true:=by cases e<;>first|exact⟨_,_,_,rfl,h⟩|exact ff h
theorem EW{f:Expr->List Stmt->List Stmt->Bool}{e:Stmt}(h:Tt f e=true):∃c a b q,e=.While c a b q/\f c a b=true:=by cases e<;>first|exact⟨_,_,_,_,rfl,h⟩|exact ff h
theorem EX{f:Expr->Expr->List Stmt->List Stmt->Bool}{e:Stmt}(h:Tu f e=true):∃t i a b q,e=.For t i a b q/\f t i a b=true:=by cases e<;>first|exact⟨_,_,_,_,_,rfl,h⟩|exact ff h
theorem Bv{f:Expr->Bool}{st:Stmt}(h:ON f st=true):∃v q,st=.Expr v q/\f v=true:=by cases st<;>first|exact⟨_,_,rfl,h⟩|exact ff h
theorem jx{f:Str->Pos->Expr->Bool}{st:Stmt}(h:wJ f st=true):∃x p v q,st=.Assign [.Name x p] v q/\f x p v=true:=by obtain⟨d,v,q,rfl,c⟩:=iS h;obtain⟨t,rfl,b⟩:=dI c;obtain⟨x,p,rfl,a⟩:=wD b;exact⟨_,_,_,_,rfl,a⟩
theorem yL{f:List Expr->Expr->Bool}{st:Stmt}(h:G4 f st=true):∃a k p v q,st=.Assign [.Tuple a k p] v q/\f a v=true:=by obtain⟨e,v,q,rfl,d⟩:=iS h;obtain⟨t,rfl,c⟩:=dI d;obtain⟨a,k,p,rfl,b⟩:=cR c;exact⟨_,_,_,_,_,rfl,b⟩
theorem yM{f:List Expr->List Expr->Bool}{st:Stmt}(h:G5 f st=true):∃a k p vs c b q,st=.Assign [.Tuple a k p] (.Tuple vs c b) q/\f a vs=true:=by obtain⟨j,v,q,rfl,i⟩:=iS h;obtain⟨t,rfl,g⟩:=dI i;obtain⟨a,k,p,rfl,e⟩:=cR g;obtain⟨vs,c,b,rfl,d⟩:=cR e;exact⟨_,_,_,_,_,_,_,rfl,d⟩
theorem oA{f:Expr->Expr->Expr->Bool}{st:Stmt}(h:Bq f st=true):∃o k p v q,st=.Assign [.Subscript o k p] v q/\f o k v=true:=by obtain⟨d,v,q,rfl,c⟩:=iS h;obtain⟨t,rfl,b⟩:=dI c;obtain⟨o,k,p,rfl,a⟩:=cy b;exact⟨_,_,_,_,_,rfl,a⟩
theorem Bw{f:Expr->Str->Pos->Pos->Expr->Bool}{st:Stmt}(h:OO f st=true):∃o m c v b q,st=.Expr (.Call (.Attribute o m c) [v] [] b) q/\f o m c b v=true:=by obtain⟨v,q,rfl,n⟩:=Bv h;obtain⟨g,s,r,p,rfl,l⟩:=gk n;obtain⟨k,j⟩:=a2 l;obtain⟨e,rfl,i⟩:=dI j;obtain⟨o,m,a,rfl,d⟩:=f6 i;rw[Hb.mp k];exact⟨_,_,_,_,_,_,rfl,d⟩
theorem Bx{n:Bool}{f:Expr->Bool}{st:Stmt}(h:OP n f st=true):(∃v q,st=.Return (some v) q/\f v=true)\/∃q,st=.Return none q/\n=true:=by
 cases st<;>try exact ff h
 rename_i v q
 cases v
 .exact .inr ⟨_,rfl,h⟩
 .exact .inl ⟨_,_,rfl,h⟩
theorem By{f:Expr->List Stmt->List Stmt->Bool}{st:Stmt}(h:OQ f st=true):∃c a b q,st=.If c a b q/\f c a b=true:=by
 cases st<;>try exact ff h
 exact⟨_,_,_,_,rfl,h⟩
theorem BA{f:Expr->List Stmt->Bool}{st:Stmt}(h:OR f st=true):∃c a q,st=.While c a [] q/\f c a=true:=by obtain⟨c,a,b,q,rfl,e⟩:=EW h;obtain⟨k,d⟩:=a2 e;rw[Hb.mp k];exact⟨_,_,_,rfl,d⟩
theorem BB{f:Expr->Expr->List Stmt->Bool}{st:Stmt}(h:OS f st=true):∃tg c a q,st=.For tg c a [] q/\f tg c a=true:=by obtain⟨t,i,a,b,q,rfl,e⟩:=EX h;obtain⟨k,d⟩:=a2 e;rw[Hb.mp k];exact⟨_,_,_,_,rfl,d⟩
section
variable{X:Cx}{M:Ms}{m:Md}{st:Stmt}{i j k:Nat}{e:Expr}{te:(Addr->Prop)->WT}{M':Ms}{m0:Md}
theorem EY{x y z:Str}{a b c:Expr}{ta:TA}{R Q P S pos:Pos}{T k2 Z}(hc:X.calm=true)(O:X.N.Nodup)(hi:X.N[i]?=some x)(hj:X.N[j]?=some y)(hk:X.N[k]?=some z)(L:i≠j)(K:i≠k)(J:j≠k)
 (Y:X.env.scope.names.lookup x=some .local)(U:X.env.scope.names.lookup y=some .local)(hz:X.env.scope.names.lookup z=some .local)(ha:PA X [a,b,c] ta)
 (hw:swappedStores [.Tuple [.Name x R,.Name y Q,.Name z P] T S] (.Tuple [a,b,c] k2 Z) X.env=pure (some [x,y,z])):
 PS X (.Assign [.Tuple [.Name x R,.Name y Q,.Name z P] T S] (.Tuple [a,b,c] k2 Z) pos) (λD f H=>ta f H λvs t=>∃v w u,vs=[v,w,u]/\D.nx (((f.set i (some v)).set j (some w)).set k (some u)) t):=by
 intro d s f H D I h;rw[exec_Assign_arm];refine D2 (X1 ?_);refine D2 (Hn ?_);rw[Bi (by decide)];refine D2 (Tuple_ (bD (ha _ d s f H _ I h) λus r ⟨vs,t,I1,r1,C⟩=>?_));obtain⟨v,w,u,e1,C⟩:=C;subst e1;obtain⟨n,l,g,rfl,rv,B,ru⟩:∃n l g,us=[n,l,g]/\RelV v n/\RelV w l/\RelV u g:=by
  cases r1 with
  |cons p q=>
   cases q with
   |cons p' q'=>
    cases q' with
    |cons E Vf=>
     cases Vf;exact⟨_,_,_,rfl,p,p',E⟩
 refine XQ ?_ (by show 3<=sizeLine;decide);have I2:Inv X d f t {r with heap:=r.heap.push {cls:=.type "tuple",data:=.seq [n,l,g].toArray}}:=I1.kept (t':=r.toks) λb o e=>D1 _ e;rw[hw];refine D2 (Hn ?_);show wpAny (model X.prog X.w) X.A (do rule "assign.swapped-stores";let items<-unpackItems (.ref r.heap.objs.size) 3 none;assignInOrder [λv=>bindName X.env z v,λv=>bindName X.env y v,λv=>bindName X.env x v] items.reverse;pure Flow.next) _ _ _;refine D2 (wpAny_rule (D2 (unpackItems_tuple (items:= #[n,l,g]) (I.ok.hd hc) (IsTup.new r.heap _) λh' G=>?_)));have I3:=I2.kept (h':=h') (t':=r.toks) λb o e=>G b o (Ha (Ee e)) e;show wpAny _ _ (assignInOrder [λv=>bindName X.env z v,λv=>bindName X.env y v,λv=>bindName X.env x v] [g,l,n]>>=λ_=>pure Flow.next) _ _ _;refine D2 (WC (XC (dz I3 O hk (.inl hz) ru (λs2 I4=>?_) (.inr hz))));refine WC (XC (dz I4 O hj (.inl U) B (λs3 I5=>?_) (.inr U)));refine WC (XC (dz I5 O hi (.inl Y) rv (λs4 I6=>assignInOrder_nil (Hn ?_)) (.inr Y)));have e6:((f.set k (some u)).set j (some w)).set i (some v)=((f.set i (some v)).set j (some w)).set k (some u):=by rw[Pb _ _ (NM J),Pb _ _ (NM K),Pb _ _ (NM L)]
 rw[e6]at I6;exact⟨_,t,I6,C⟩
theorem EZ(c:∀R,PS X st (jT (tV X M R (Jl X.K .s) (te R)) (eB i)))(n:¬aM M i):VS X M m st (λd b=>te d.ex b λw=>d.nx (b.set i (some w))):=by rintro a s f H D I ⟨A,q,b,d,S,o,hz,h,k⟩;refine c d.ex a s f H D I ⟨A,q,b,_,S,o,h,λw v p l g r=>?_⟩;exact k.nx A _ _ p rfl rfl l ((S.same g).set n r.aY)
theorem BC(c:∀R,PS X st (jT (tV X M' R (Jl X.K m0) (te R)) (eB i)))(g:∀x,x∈M↔x=(i,m0)\/x∈M')(y:¬aM M' i)(f:dH m=true->i≠0):VS X M m st (λd b=>te d.ex b λw=>d.nx (b.set i (some w))):=by
 rintro a s n H D I ⟨A,Q,b,d,S,E,hz,h,k⟩;have C:∀v,A.s0=some v->A.s0=some v/\aM M' 0:=λv e=>by
  refine⟨e,?_⟩;have u:dH m=true:=by rw[<-hz,e];rfl
  obtain⟨p,B⟩:=(S.sl v e).2;rcases(g _).mp B with z|z
  .cases z;exact(f u rfl).elim
  .exact⟨p,z⟩
 obtain⟨U,J,G,Y,l⟩:=S.sub (M':=M') (λx q=>(g x).mpr (.inr q)) A.s0 C;refine c d.ex a s n H D I ⟨U,Q,b,_,l,E,h,λw v P t o r=>?_⟩;obtain⟨T,O,N,_,L⟩:=l.own g y o r;exact k.nx T _ _ P (O.trans J) (N.trans G) t L
theorem E2{pos:Pos}:VS X M .s (.Return none pos) (λd c=>d.rt .aL):=by rintro a s b H D I ⟨A,g,c,d,S,f,hz,h,k⟩;exact C0 a s b H D I (k.rt _ _ H h S.sm (.of rfl (.of (by dsimp only[Rep]))))
end
noncomputable def BD(X:Cx)(M:Ms)(R:Addr->Prop)(g:List Md)(t:Ev->(List W->Prop)->Prop):TA:=λf H Q=>∃A e b P,SR X.K M A e f H b/\ER X e R/\t b P/\∀c d a F,P c->ao H a->F.Nodup->(∀p∈F,H p=none)->eu X.K (λq=>A.B q\/q∈F) a g c d F->Q d a
section
variable{X:Cx}{M:Ms}{R:Addr->Prop}{a:Expr}{es:List Expr}{ta:WT}{m:Md}{ms:List Md}{pos:Pos}
theorem E3:PA X [] (BD X M R [] λ_ Q=>Q []):=PA.imp cj<|by rintro b H Q ⟨A,e,c,P,S,d,h,k⟩;exact k [] [] H [] h (ao.refl H) X4 (by simp) (by dsimp only[eu];exact⟨rfl,rfl,rfl⟩)
theorem BE{tr:Ev->(List W->Prop)->Prop}(D:starEach (a::es) X.env=(false,eval a X.env)::starEach es X.env)(I:VE X M R m a ta)(E:PA X es (BD X M R ms tr)):PA X (a::es) (BD X M R (m::ms) λc Q=>ta c λx=>tr c λf=>Q (x::f)):=
 PA.imp (aW I E D)<|by
  rintro O H Q ⟨A,u,c,P,S,t,h,k⟩;refine⟨A,u,c,_,S,t,h,λx v N C g y=>?_⟩;obtain⟨G,B,r,s⟩:=y;have d:∀q∈G,∃o,N q=some o:=λq j=>let⟨o,e,_⟩:=Fp.mu m s q j;⟨o,e⟩
  refine⟨_,u,c,_,S.more g r d,t,C,λf w L F i n J l K=>?_⟩;refine k _ _ L (G++F) i (g.trans n) ?_ (λp b=>?_) ?_
  .refine W2.mpr ⟨B,J,λp b q j e=>?_⟩;subst e;obtain⟨o,e⟩:=d p b;rw[l p j]at e;cases e
  .rcases Fs.mp b with b|b
   .exact r p b
   .exact g.free (l p b)
  .refine⟨x,f,v,w,G,F,rfl,rfl,rfl,Fp.mv n (λp o e z=>?_) m s,eu.mv (ao.refl _) (λp o e z=>?_) ms K⟩
   .rcases z with z|z
    .exact .inl z
    .rcases Fs.mp z with z|z
     .exact .inr z
     .rw[l p z]at e;cases e
   .rcases z with z|z
    .exact .inl (.inl z)
    .rcases Fs.mp z with z|z
     .exact .inl (.inr z)
     .exact .inr z
theorem E4{e:Ev->(List W->Prop)->Prop}{j:Nat}(h:PA X es (BD X M R ms e)):VE X M R (.t ms) (.Tuple es j pos) (λd Q=>e d λb=>b.length<=sizeLine/\Q (.tup b)):=PE.imp (uu h)<|by
 rintro E H Q ⟨A,D,d,P,S,y,h,k⟩;refine⟨A,D,d,_,S,y,h,λb c C F g n q o i=>?_⟩;have u:∀(ms:List Md){b:List W}{c:List V}{F:List Addr}{B:Addr->Prop},eu X.K B C ms b c F->c.length=b.length:=λms=>by
  induction ms with
  |nil=>intro b c F B h;dsimp only[eu]at h;rw[h.1,h.2.1];rfl
  |cons m ms r=>intro b c F B h;obtain⟨w,G,v,l,J,I,rfl,rfl,_,_,x⟩:=h;rw[Eb,Eb,r x]
 refine⟨by rw[u ms i];exact g.1,λp s=>?_⟩;have f:=aF s (.tup c);refine k _ _ _ g.2 (n.trans f) ⟨F,q,o,?_⟩;exact⟨b,p,c,rfl,rfl,aJ,eu.mv f (λ_ _ _ z=>z) ms i⟩
end
noncomputable def gF(b:Nat->bf)(a:Nat->Md)(G:Nat->W)(s:CS):Prop:=∀{S:SE}{X:Cx}{m:Md},uW S b a G X->∀c,ET S a m s c=true->VS X S.M m c (wS b G s)
noncomputable def gI(b:Nat->bf)(a:Nat->Md)(G:Nat->W)(s:List CS):Prop:=∀{S:SE}{X:Cx}{m:Md},uW S b a G X->∀c,eV S a m s c=true->AU X S.M m c (wSs b G s)
section
variable{Φ:Nat->bf}{Ψ:Nat->Md}{G:Nat->W}
theorem uW.Mq{S:SE}{X:Cx}(h:uW S Φ Ψ G X)(M:Ms)(b:∀i m a,(i,m)∈M->(i,a)∈M->m=a):uW {S with M:=M} Φ Ψ G X:={toXOk:=h.toXOk.Mq M,bk:=h.bk,Mp:=h.Mp,K8:=h.K8,G6:=b}
theorem BF{S:SE}{X:Cx}(b:XOk S Φ Ψ G X){f:Nat}{i:List CE}{v:Expr}(k:aE S false (.call f i) v=true)(R:Addr->Prop):VE X S.M R (Ψ f) v (wE Φ G R (.call f i))/\∃g c p,v=.Call g c [] p:=by
 obtain⟨x,q,c,p,rfl,j⟩:=aG k;simp only[Ap]at j;obtain⟨⟨⟨⟨⟨t,s⟩,r⟩,h⟩,o⟩,l⟩:=j;obtain⟨C,B,E⟩:=bw b s;obtain⟨D,n,m,A,F,u,z⟩:=b.fns f x (Pm.mp t) (by simpa using o);have F:cP X.prog X.w X.K X.mg X.base m D n (wj X.K n (Ψ f) (Φ f)):=by rw[<-b.Kv]at h;cases y:Ψ f<;>rw[y]at h F<;>first|exact F|exact ff h
 have d:=jv l;cases c with
 |nil=>exact ff r
 |cons e c=>rw[IP,Ap]at d;refine⟨?_,_,_,_,rfl⟩;exact wk (M:=S.M) (R:=R) (p:=q) (pos:=p) F u C A z ((jZ Φ Ψ G i).1.a b _ l R) B (aA d.1 _ _) (cz d.2 _ _)
theorem BG{S:SE}{X:Cx}(d:XOk S Φ Ψ G X):∀(b:List CE)(c:List Expr),dZ S b c=true->∀R,PA X c (BD X S.M R (b.map (mo Ψ)) (wA Φ G R b))
 |[],c,k,R=>by rw[Hb.mp k];exact E3
 |a::b,[],k,R=>by cases k
 |a::b,e::c,k,R=>by have k:=a2 k;exact BE (aA (aO (.inl k.1)) _ _) ((snd Φ Ψ G a).e d e k.1 R) (BG d b c k.2 R)
theorem La{S:SE}{X:Cx}(a:XOk S Φ Ψ G X){e:CE}{v:Expr}(k:aE S false e v=true)(R:Addr->Prop):VE X S.M R (R4 Ψ e) v (wE Φ G R e):=by
 cases e with
 |tup b=>obtain⟨c,d,p,rfl,k⟩:=cR k;exact E4 (BG a b c k R)
 |call f b=>exact(BF a k R).1
 |_=>exact(snd Φ Ψ G _).e a v k R
theorem uX{e:CE}(h:isCall e=true):∃f a,e=.call f a:=by cases e<;>first|exact⟨_,_,rfl⟩|exact ff h
theorem yN{e:CE}(h:iH e=true):e=.aL:=by cases e<;>first|rfl|exact ff h
theorem yO{e:CE}{i:Nat}(h:isVar e=some i):e=.var i:=by cases e<;>first|(cases h;rfl)|exact nn h
theorem E5{S:SE}{x:Str}{p:Pos}{v:Expr}(h:R5 S x p v=true):∃a b c d,v=.ListComp a b c d:=by cases v<;>first|exact⟨_,_,_,_,rfl⟩|exact ff h
theorem Lb{S:SE}{e:CE}{a:Expr}{b:List Comprehension}{c:Scope}{d:Pos}(k:aE S false e (.ListComp a b c d)=true):∃f one n i c x,e=.comp f one n i c x:=by
 cases e with
 |comp f one n i c x=>exact⟨_,_,_,_,_,_,rfl⟩
 |own i g=>rcases(di k).2 with⟨_,_,_,e⟩|⟨_,_,_,_,_,e⟩<;>cases e
 |_=>exact ff k
theorem wM{S:SE}{X:Cx}(d:uW S Φ Ψ G X){i:Nat}{x:Str}{p q:Pos}{e:CE}{v:Expr}(P:K7 S i x=true)(k:aE S false e v=true)(R:Addr->Prop):
 PS X (.Assign [.Name x p] v q) (jT (tV X S.M R (Jl X.K (mo Ψ e)) (wE Φ G R e)) (eB i)):=by
 have n:=l6 d P;have a:=OV d (K9 k) x p q.line;cases m:R5 S x p v with
 |false=>rw[m]at a;exact oV d.nd n.1 n.2.1 ((snd Φ Ψ G e).e d.toXOk v k R) a n.2.2
 |true=>rw[m]at a;obtain⟨T,gs,h,pp,rfl⟩:=E5 m;obtain⟨ts,one,n',B,c,y,rfl⟩:=Lb k;obtain⟨t,tg,r,E,f,p',o,U,rfl,j,O,l,Y,L⟩:=lY (snd Φ Ψ G B) (snd Φ Ψ G c) (snd Φ Ψ G y) d.toXOk k R;cases U;rw[jw rfl,wH];intro b s g H D I J;obtain⟨A,z,w⟩:=L b s g H I;exact DP o (mask o S.N) d.nd n.1 n.2.1 d.calm O Y A z (λC u Z Q=>(w C u Z Q).2) a l n.2.2 b s g H D I (sG j g H _ J)
theorem Lc(i:Nat)(e:CE):gF Φ Ψ G (.set i e):=by
 intro S X m l st k;obtain⟨x,p,v,q,rfl,h⟩:=jx k;rw[Ap]at h;by_cases y:sN S.M i=true
 .rw[Bz y]at h;simp only[Ap]at h;obtain⟨I,⟨E,d⟩,C⟩:=h;have u:dH m=true->i≠0:=λz e=>by rw[z,e]at E;cases E
  have N:∀{t:Md},(i,t)∈S.M->(∀R,PS X (.Assign [.Name x p] v q) (jT (tV X (S.less i).M R (Jl X.K t) (wE Φ G R e)) (eB i)))->VS X S.M m (.Assign [.Name x p] v q) (λD o=>wE Φ G D.ex e o λw=>D.nx (o.set i (some w))):=λ{t} J O=>BC (M':=(S.less i).M) (te:=λR=>wE Φ G R e) O (λj=>tw J (λm' T=>l.G6 i _ _ T J)) tD u;have L:uW (S.less i) Φ Ψ G X:=l.Mq (S.less i).M λa b c B Q=>l.G6 a b c (QR.mp B).1 (QR.mp Q).1;rcases dN d with d|d
  .rw[Ap]at d;refine N (j7 d.1) λR=>?_;have:=wM L (p:=p) (q:=q) I C R;rw[jw d.2]at this;exact this
  .rw[Ap]at d;refine N (wK d.2) λR=>?_;obtain⟨f,as,rfl⟩:=uX d.1;obtain⟨B,g,es,pp,rfl⟩:=BF L.toXOk C R;have n:=l6 l I;exact oV l.nd n.1 n.2.1 B rfl n.2.2
 .rw[Bi y]at h;refine EZ (te:=λR=>wE Φ G R e) (λR=>?_) (iP (by simpa using y));refine PS.imp (wM l (p:=p) (q:=q) h.1 h.2 R)<|by rintro D σ H ⟨A,Y,o,P,S,U,p,k⟩;exact⟨A,Y,o,P,S,U,p,λw v Z pw s r=>k w v Z pw s (r.s S.dom)⟩
theorem Ld(f:List Nat)(e:CE):gF Φ Ψ G (.CM f e):=by
 intro S X m b w k;obtain⟨j,h,p,v,q,rfl,g⟩:=yL k;simp only[Ap]at g;obtain⟨⟨⟨c,i⟩,n⟩,a⟩:=g;split at c;rotate_left
 .cases c
 rename_i xs hxs
 have r:PG X (.Tuple j h p) (gT X.K false f):=K4 b.calm b.nd (by dsimp only[OB];rw[hxs];rfl) (kg b c);have d:swappedStores [.Tuple j h p] v X.env=pure none:=by
  rcases dN a with a|a
  .exact EV a _ _ _ _
  .obtain⟨t,i,x,rfl,l⟩:=cR a;exact Bu b (Bn l)
 exact JM (te:=λR=>wE Φ G R e) (λ{u} o=>ud o r (EU _ _) d rfl) (qg i) λR=>(snd Φ Ψ G e).s b.toXOk n R
theorem l7{X:Cx}{a:List Nat}{x:Str}{b:List Str}(h:cM X a (x::b)):∃i r,a=i::r/\d7 X i x/\cM X r b:=by
 cases a with
 |nil=>cases h
 |cons i r=>obtain⟨_,_,e,d,c⟩:=h;cases e;exact⟨i,r,rfl,d,c⟩
theorem E6{X:Cx}{a:List Nat}(h:cM X a []):a=[]:=by
 cases a with
 |nil=>rfl
 |cons i r=>obtain⟨_,_,e,_⟩:=h;cases e
theorem wN{X:Cx}{a:List Nat}{x y:Str}(h:cM X a [x,y]):∃i j,a=[i,j]/\d7 X i x/\d7 X j y:=by obtain⟨i,r,rfl,e,d⟩:=l7 h;obtain⟨j,r,rfl,c,b⟩:=l7 d;cases E6 b;exact⟨i,j,rfl,e,c⟩
theorem yP{X:Cx}{a:List Nat}{x y z:Str}(h:cM X a [x,y,z]):∃i j k,a=[i,j,k]/\d7 X i x/\d7 X j y/\d7 X k z:=by obtain⟨i,r,rfl,e,d⟩:=l7 h;obtain⟨j,k,rfl,c,b⟩:=wN d;exact⟨i,j,k,rfl,e,c,b⟩
theorem E7{α:Type}{l:List α}(h:l.length=2):∃a b,l=[a,b]:=by rcases l with _|⟨a,_|⟨b,_|_⟩⟩<;>first|exact⟨_,_,rfl⟩|(simp at h;done)
theorem Le{α:Type}{l:List α}(h:l.length=3):∃a b c,l=[a,b,c]:=by
 cases l with
 |nil=>cases h
 |cons a l=>obtain⟨b,c,rfl⟩:=E7 (Sd h);exact⟨_,_,_,rfl⟩
theorem iT{b:List Expr}{x:Str}{c:List Str}(h:Bg b=some (x::c)):∃p r,b=.Name x p::r/\Bg r=some c:=by
 cases b with
 |nil=>cases h
 |cons e b=>
  cases e with
  |Name a p=>obtain⟨l,d,e⟩:=IR.mp h;cases e;exact⟨_,_,rfl,d⟩
  |_=>exact nn h
theorem wO{b:List Expr}(h:Bg b=some []):b=[]:=by
 cases b with
 |nil=>rfl
 |cons e b=>
  cases e with
  |Name a p=>obtain⟨l,c,e⟩:=IR.mp h;cases e
  |_=>exact nn h
theorem wQ{a:List Expr}{x y:Str}(h:Bg a=some [x,y]):∃p q,a=[.Name x p,.Name y q]:=by obtain⟨p,r,rfl,c⟩:=iT h;obtain⟨q,r,rfl,b⟩:=iT c;rw[wO b];exact⟨_,_,rfl⟩
theorem yQ{a:List Expr}{x y z:Str}(h:Bg a=some [x,y,z]):∃p q r,a=[.Name x p,.Name y q,.Name z r]:=by obtain⟨p,r,rfl,b⟩:=iT h;obtain⟨q,s,rfl⟩:=wQ b;exact⟨_,_,_,rfl⟩
theorem E8{S:SE}{a vs:List Expr}{b:List Str}(h:Ml S a vs=some (some b)):(a.length=2\/a.length=3)/\vs.length=a.length:=by
 unfold Ml at h;split at h
 .cases h
 .rename_i c
  simp only[XR,X9,bne_iff_ne,not_or,Bool.not_eq_false,Pm,ne_eq,YA]at c;exact c
theorem wR{b:List Expr}{a:List Str}(h:Bg b=some a):b.length=a.length:=by
 induction a generalizing b with
 |nil=>rw[wO h];rfl
 |cons x a c=>obtain⟨p,r,rfl,d⟩:=iT h;rw[Eb,Eb,c d]
theorem Lf(Y:List Nat)(O:List CE):gF Φ Ψ G (.par Y O):=by
 intro S X m o st k;obtain⟨tg,kd,p,f,Vh,p',q,rfl,A⟩:=yM k;simp only[Ap]at A;obtain⟨⟨C,k2⟩,k3⟩:=A;split at C;rotate_left
 .cases C
 rename_i xs hxs
 simp only[Ap]at C;obtain⟨⟨⟨C,J⟩,B⟩,k6⟩:=C;have J:=Bn J;have B:=Bn B;obtain⟨r,Q⟩:=E8 J;have P:=Bu o (k:=kd) (k2:=Vh) (p:=p) (p2:=p') J;have d:∀x∈xs,X.env.scope.names.lookup x=some .local:=λx hx=>by rw[o.nk];exact Pm.mp (IH.mp k6 x hx)
 have T:=kg o C;refine JN (ta:=λR=>wA Φ G R O) (λ{tv} U=>?_) (qg k2) λR=>(jZ Φ Ψ G O).1.a o.toXOk f k3 R;have K:∀{a b:Nat}{x y:Str},x≠y->X.N[a]?=some x->X.N[b]?=some y->a≠b:=λn E g e=>by rw[e,g]at E;exact n (Hk E).symm
 rcases r with r|r
 .obtain⟨x,y,rfl⟩:=E7 ((wR hxs).symm.trans r);obtain⟨Z,p2,rfl⟩:=wQ hxs;obtain⟨i,j,rfl,t,s⟩:=wN T;obtain⟨a,b,rfl⟩:=E7 (Q.trans r);refine PS.imp (Ii o.calm o.nd t.1 s.1 (K (by simpa using B) t.1 s.1) (d x (by simp)) (d y (by simp)) U P) λD I H h=>?_;have e:(λ(f:List V) l=>f.length=[i,j].length/\D.nx (b6 I [i,j] f) l)=λf l=>∃v w,f=[v,w]/\D.nx ((I.set i (some v)).set j (some w)) l:=by
   funext f l;refine propext ⟨?_,?_⟩
   .rintro⟨E,g⟩;obtain⟨v,w,rfl⟩:=E7 E;exact⟨v,w,rfl,g⟩
   .rintro⟨v,w,rfl,g⟩;exact⟨rfl,g⟩
  rw[e]at h;exact h
 .obtain⟨x,y,z,rfl⟩:=Le ((wR hxs).symm.trans r);obtain⟨Z,p2,p3,rfl⟩:=yQ hxs;obtain⟨i,j,A,rfl,t,s,L⟩:=yP T;obtain⟨a,b,c,rfl⟩:=Le (Q.trans r);have M:(x≠y/\x≠z)/\y≠z:=by simp only[Pv,FV,WV,or_false,not_or]at B;exact⟨B.1,B.2.1⟩
  refine PS.imp (EY o.calm o.nd t.1 s.1 L.1 (K M.1.1 t.1 s.1) (K M.1.2 t.1 L.1) (K M.2 s.1 L.1) (d x (by simp)) (d y (by simp)) (d z (by simp)) U P) λD I H h=>?_;have e:(λ(f:List V) l=>f.length=[i,j,A].length/\D.nx (b6 I [i,j,A] f) l)=λf l=>∃v w u,f=[v,w,u]/\D.nx (((I.set i (some v)).set j (some w)).set A (some u)) l:=by
   funext f l;refine propext ⟨?_,?_⟩
   .rintro⟨E,g⟩;obtain⟨v,w,u,rfl⟩:=Le E;exact⟨v,w,u,rfl,g⟩
   .rintro⟨v,w,u,rfl,g⟩;exact⟨rfl,g⟩
  rw[e]at h;exact h
theorem tG{S:SE}{i:Nat}{o:Expr}(h:gE S i o=true)(a:Str)(env:Env):attributeBase o a env (eval o env)=eval o env:=by
 cases o with
 |Name x p=>rfl
 |_=>exact ff h
theorem Lg(i:Nat)(e:CE):gF Φ Ψ G (.app i e):=by intro S X m g p k;obtain⟨o,r,u,v,t,q,rfl,c⟩:=Bw k;simp only[Ap]at c;obtain⟨⟨⟨⟨a,j⟩,h⟩,f⟩,d⟩:=c;have a:=Bn a;subst a;have b:=aA (aO (.inl d)) [] X.env;refine JQ (te:=λR=>wE Φ G R e) (λ{n} l=>?_) (j7 h) λR=>(snd Φ Ψ G e).s g.toXOk d R;exact CZ (Nl PySem.F.plainAttrs_list PySem.F.slot_list_append PySem.F.type_list_append nX (cX g.toXOk f) (aW l cj b) (tG f _ _) (by rw[b];rfl) j b rfl) rfl
theorem Lh(i:Nat)(a e:CE):gF Φ Ψ G (.put i a e):=by
 intro S X m b y k;obtain⟨o,j,p,v,q,rfl,c⟩:=oA k;simp only[Ap]at c;obtain⟨⟨⟨⟨l,h⟩,g⟩,f⟩,d⟩:=c;have t:∀u,assign (.Subscript o j p) X.env u=(do
  let ov<-holding [u] (eval o X.env)
  let iv<-holding [u,ov] (eval j X.env)
  standAt p
  holding [u,ov,iv] (setItem ov iv u)
  release [u,ov,iv] []):=by
  intro u;cases j with
  |Slice _ _ _ _=>exact ff g
  |_=>rfl
 refine JR (te:=λR=>wE Φ G R e) (t1:=λR=>wE Φ G R a) (λ{w x} n r=>?_) (j7 l) (λR=>(snd Φ Ψ G e).s b.toXOk d R) λR=>(snd Φ Ψ G a).s b.toXOk f R;exact ud (pos:=q) n (zK (cX b.toXOk h) r set_list t) (tE _ _) (tF _) rfl
theorem Li(i:Nat):gF Φ Ψ G (.NQ i):=by
 intro S X m b u k;obtain⟨x,p,v,q,rfl,c⟩:=jx k;simp only[Ap]at c;obtain⟨⟨⟨l,d⟩,h⟩,g⟩:=c;obtain⟨w,rfl⟩:=uV g;have a:dH m=true->i≠0:=λz e=>by rw[z,e]at d;cases d
 have f:=iQ h;have n:=l6 b l;exact Es (M':=(S.less i).M) (te:=λR s Q=>Q (.dct [] [])) (λ{t} o=>oV b.nd n.1 n.2.1 o rfl n.2.2) (λj=>tw f (λy r=>b.G6 i _ _ r f)) tD a λR=>Ko
theorem Lj(i:Nat)(b e:CE):gF Φ Ψ G (.NR i b e):=by
 intro S X m a y k;obtain⟨o,j,p,v,q,rfl,c⟩:=oA k;simp only[Ap]at c;obtain⟨⟨⟨⟨l,h⟩,g⟩,f⟩,d⟩:=c;have t:∀u,assign (.Subscript o j p) X.env u=(do
  let ov<-holding [u] (eval o X.env)
  let iv<-holding [u,ov] (eval j X.env)
  standAt p
  holding [u,ov,iv] (setItem ov iv u)
  release [u,ov,iv] []):=by
  intro u;cases j with
  |Slice _ _ _ _=>exact ff g
  |_=>rfl
 refine Kp (te:=λR=>wE Φ G R e) (t1:=λR=>wE Φ G R b) (λ{w x} n r=>?_) (iQ l) (λR=>(snd Φ Ψ G e).s a.toXOk d R) λR=>(snd Φ Ψ G b).s a.toXOk f R;exact ud (pos:=q) n (zK (cX a.toXOk h) r (set_dict (hu1 a.un)) t) (tE _ _) (tF _) rfl
theorem G7:∀{S:SE}{c:CE}{e:Expr},j3 S c e=true->noStar e=true:=λ{S c e} h=>by
 cases e with
 |Starred v p=>
  have f:aE S false c (.Starred v p)=true->False:=λz=>by have:=aO (.inl z);exact ff this
  cases c<;>first|exact ff h;done|exact(f h).elim
 |_=>rfl
theorem uY{S:SE}:∀{c:List CE}{b:List Expr},l5 S c b=true->b.all noStar=true
 |[],b,h=>by rw[Hb.mp h];rfl
 |a::c,[],h=>by cases h
 |a::c,e::b,h=>by have h:=a2 h;rw[IP,G7 h.1,uY h.2];rfl
theorem cF{S:SE}{X:Cx}(b:XOk S Φ Ψ G X)(R:Addr->Prop){c:CE}{v:Expr}(e:j3 S c v=aE S false c v)(d:wP Φ G R c=λa Q=>wE Φ G R c a λw=>Q w a)(k:j3 S c v=true):VP X S.M R v (wP Φ G R c):=by rw[e]at k;rw[d];exact Om ((snd Φ Ψ G c).s b k R)
mutual
theorem dO{S:SE}{X:Cx}(d:XOk S Φ Ψ G X)(R:Addr->Prop):∀(e:CE)(v:Expr),j3 S e v=true->VP X S.M R v (wP Φ G R e)
 |.pop i,v,k=>by obtain⟨o,mt,ap,cp,rfl,h⟩:=uQ k;simp only[Ap]at h;obtain⟨⟨⟨j,s⟩,m⟩,z⟩:=h;have j:=Bn j;subst j;exact JW (j7 m) (cX d z) (tG z _ _) s
 |.bin op a b,v,k=>by obtain⟨l,o,r,p,rfl,h⟩:=ju k;simp only[Ap]at h;obtain⟨⟨j,s⟩,m⟩:=h;have j:=Bn j;subst j;exact JX (dO d R a l s) (dO d R b r m)
 |.cmp op a b,v,k=>by obtain⟨l,o,r,p,rfl,h⟩:=oq k;simp only[Ap]at h;obtain⟨⟨⟨⟨j,z⟩,A⟩,s⟩,m⟩:=h;have j:=Bn j;subst j;exact JY d.un (zO r (op:=op) (by simpa using z) (by simpa using A)) (dO d R a l s) (dO d R b r m)
 |.call f y,v,k=>by
  obtain⟨x,q,u,p,rfl,h⟩:=aG k;simp only[Ap]at h;obtain⟨⟨⟨⟨⟨j,s⟩,m⟩,A⟩,B⟩,z⟩:=h;obtain⟨D,C,I⟩:=bw d s;obtain⟨U,n,J,T,F,O,Q⟩:=d.fns f x (Pm.mp j) (by simpa using B);have F:cP X.prog X.w X.K X.mg X.base J U n (wj X.K n (Ψ f) (Φ f)):=by rw[<-d.Kv]at A;cases P:Ψ f<;>rw[P]at A F<;>first|exact F|exact ff A
  have t:=uY z;cases u with
  |nil=>exact ff m
  |cons e u=>rw[IP,Ap]at t;exact Ez (p:=q) (pos:=p) F O D T Q (eW d R y _ z) C (aA t.1 _ _) (cz t.2 _ _)
 |.blt b y,v,k=>by
  obtain⟨x,q,u,p,rfl,h⟩:=aG k;simp only[Ap]at h;obtain⟨⟨⟨⟨⟨⟨j,s⟩,m⟩,z⟩,A⟩,L⟩,B⟩:=h;have j:=Bn j;obtain⟨D,C,I⟩:=bw d s;have hz:=d.uS x (UO.mp m);have t:=uY B;cases u with
  |nil=>exact ff L
  |cons e u=>
   rw[IP,Ap]at t;rcases sZ d.calm b (by simpa using A)with⟨N,E,H⟩|⟨N,E,H⟩
   .exact JZ H D hz (by rw[j];exact E) (eW d R y _ B) I C (aA t.1 _ _) (cz t.2 _ _)
   .exact J0 H D hz (by rw[j];exact E) (eW d R y _ B) I C (aA t.1 _ _) (cz t.2 _ _)
 |.ix a b,v,k=>by obtain⟨l,r,p,rfl,h⟩:=cy k;simp only[Ap]at h;obtain⟨⟨j,s⟩,m⟩:=h;exact Oo (qd j) (dO d R a l s) (dO d R b r m)
 |.lst y,v,k=>by obtain⟨u,p,rfl,h⟩:=lO k;exact J7 (eW d R y u h)
 |.tup y,v,k=>by obtain⟨u,kd,p,rfl,h⟩:=cR k;exact J8 (eW d R y u h)
 |.and _,v,k=>by cases k
 |.or _,v,k=>by cases k
 |.var i,v,k=>cF d R rfl rfl k
 |.int i,v,k=>cF d R rfl rfl k
 |.bl i,v,k=>cF d R rfl rfl k
 |.str i,v,k=>cF d R rfl rfl k
 |.aL,v,k=>cF d R rfl rfl k
 |.DY n,v,k=>cF d R rfl rfl k
 |.glob g,v,k=>cF d R rfl rfl k
 |.neg a,v,k=>cF d R rfl rfl k
 |.not a,v,k=>cF d R rfl rfl k
 |.sl a b c,v,k=>cF d R rfl rfl k
 |.comp Z one n i c x,v,k=>cF d R rfl rfl k
 |.jb y,v,k=>cF d R rfl rfl k
 |.pR a,v,k=>cF d R rfl rfl k
 |.rev a,v,k=>cF d R rfl rfl k
 |.own i Y,v,k=>cF d R rfl rfl k
 |.Mc i a b,v,k=>cF d R rfl rfl k
 |.Me i a,v,k=>cF d R rfl rfl k
 |.Mf i,v,k=>cF d R rfl rfl k
theorem eW{S:SE}{X:Cx}(d:XOk S Φ Ψ G X)(R:Addr->Prop):∀(c:List CE)(b:List Expr),l5 S c b=true->Ew X S.M R b (HD Φ G R c)
 |[],b,k=>by rw[Hb.mp k];exact Ex
 |a::c,[],k=>by cases k
 |a::c,e::b,k=>by have k:=a2 k;exact AY (aA (G7 k.1) _ _) (dO d R a e k.1) (eW d R c b k.2)
end
theorem E9{v:Expr}(a:wL v=true)(b:G3 v=true)(t:Option Expr)(l:Nat)(env:Env):swapsWith v t l env=pure false:=by
 cases v with
 |ListComp _ _ _ _=>exact ff b
 |SetComp _ _ _ _=>exact ff a
 |DictComp _ _ _ _ _=>exact ff a
 |_=>rfl
theorem Vi{v:Expr}(h:Bt v=true):wL v=true:=by cases v<;>first|rfl|exact ff h
theorem Fb(j:Nat)(e:CE):gF Φ Ψ G (.AF j e):=by intro S X m a o k;obtain⟨x,p,v,q,rfl,b⟩:=jx k;simp only[Ap]at b;obtain⟨⟨⟨⟨h,g⟩,d⟩,c⟩,f⟩:=b;have n:=l6 a h;exact Ey (tt:=λR=>wP Φ G R e) (λ{l} i=>oV a.nd n.1 n.2.1 i (E9 (Vi c) d _ _ _) n.2.2) (iP (by simpa using g)) λR=>dO a.toXOk R _ v f
theorem Lk(e:CE):gF Φ Ψ G (.ret e):=by
 intro S X m f h k;rcases Bx k with⟨v,q,rfl,a⟩|⟨q,rfl,a⟩
 .unfold OU at a;rw[Ap]at a;obtain⟨c,a⟩:=a;have c:dH m=false:=by simpa using c
  rcases dN a with a|d
  .rcases dN a with a|a
   .rw[Ap]at a;have g:m=.s:=by cases m<;>first|rfl|exact ff a.1
    rcases dN a.2 with b|b
    .exact AW (te:=λR=>wE Φ G R e) (λR=>(snd Φ Ψ G e).e (f.toXOk.Mq []) v b R) (.inr g) c
    .subst g;exact Et (te:=λR=>wE Φ G R e) λR=>(snd Φ Ψ G e).s f.toXOk b R
   .rw[Ap]at a;exact AW (te:=λR=>wE Φ G R e) (λR=>La (f.toXOk.Mq []) a.2 R) (.inl (lZ a.1)) c
  .unfold OT at d;split at d
   .rename_i i hv
    obtain rfl:=yO hv;have b:=a2 d;exact Eu (cX f.toXOk b.2) (wK b.1) c
   .exact ff d
 .rw[Ap]at a;obtain rfl:=yN a.1;cases m<;>try exact ff a.2
  exact E2
theorem Ll:gF Φ Ψ G .brk:=by
 intro S X m b a k;cases a with
 |Break _=>exact JL
 |_=>exact ff k
theorem OW(c:CE){a b:List CS}(l:gI Φ Ψ G a)(j:gI Φ Ψ G b):gF Φ Ψ G (.iff c a b):=by intro S X m d n k;obtain⟨t,x,y,q,rfl,e⟩:=By k;simp only[Ap]at e;obtain⟨⟨⟨i,h⟩,g⟩,f⟩:=e;exact Oj (tc:=λR=>wE Φ G R c) (λR=>(snd Φ Ψ G c).t d.toXOk t i h R) (l d x g) (j d y f)
theorem Lm(c:CE){b:List CS}(h:gI Φ Ψ G b):gF Φ Ψ G (.t7 c b):=by intro S X m d i k;obtain⟨t,x,q,rfl,a⟩:=BA k;simp only[Ap]at a;obtain⟨⟨g,f⟩,e⟩:=a;exact JS ((snd Φ Ψ G c).t d.mY.toXOk t g f _) (h d.mY x e)
theorem Ln(h:List Nat)(one:Bool)(e:CE){b:List CS}(t:gI Φ Ψ G b):gF Φ Ψ G (.fr h one e b):=by
 intro S X m c u k;obtain⟨f,i,x,q,rfl,a⟩:=BB k;unfold Tw at a;split at a;rotate_left
 .cases a
 rename_i o xs K5
 simp only[Ap]at a;obtain⟨⟨⟨⟨⟨⟨d,s⟩,r⟩,n⟩,g⟩,l⟩,j⟩:=a;have d:=Pm.mp d;subst d;refine JT (ti:=λR=>wE Φ G R e) c.calm (qg r) ((snd Φ Ψ G e).i c.mY.toXOk f false i (by rw[l];rfl) (λz=>?_) _) (K4 (X:=X.mY) c.calm c.mY.nd K5 (kg c.mY s)) (t c.mY x j) (tu n _);have:one=false:=by rw[z]at g;simpa using g
 subst this;cases f with
 |Tuple v a p=>exact⟨_,_,_,rfl⟩
 |Name y p=>cases K5
 |_=>exact nn K5
theorem Fc:gI Φ Ψ G []:=by intro S X m b a k;rw[Hb.mp k];exact Eo
noncomputable def G8(Φ:Nat->bf)(Ψ:Nat->Md)(G:Nat->W):CS->Prop
 |.Mg _ b=>gI Φ Ψ G b
 |_=>True
theorem Fd{S:SE}{m:Md}{s:CS}{a:List CS}{st:List Stmt}(k:eV S Ψ m (s::a) st=true):(∃c b,s=.Mg c b/\(a.isEmpty&&(!dH m||!c.contains 0)&&eV (S.lend c) Ψ m b st)=true)\/Bs (λe=>ET S Ψ m s e) (λd=>eV S Ψ m a d) st=true:=by
 cases s<;>first|exact .inr k|exact .inl ⟨_,_,rfl,k⟩
theorem BH{s:CS}{c:List CS}(h:gF Φ Ψ G s/\G8 Φ Ψ G s)(v:gI Φ Ψ G c):gI Φ Ψ G (s::c):=by
 intro S X m a d k;rcases Fd k with⟨u,b,rfl,o⟩|k
 .obtain⟨n,p⟩:=a2 o;obtain⟨l,f⟩:=a2 n;cases Hb.mp l;have q:dH m=true->aM S.M 0->aM (S.lend u).M 0:=by rintro e ⟨g,A⟩;rw[e]at f;exact⟨g,QR.mpr ⟨A,f⟩⟩
  have w:gI Φ Ψ G b:=h.2;exact Er (w (a.Mq _ λi m j y x=>a.G6 i m j (lW _ y) (lW _ x)) d p) lW q
 have h:gF Φ Ψ G s:=h.1;cases d with
 |nil=>exact ff k
 |cons e r=>
  have k:ET S Ψ m s e=true/\eV S Ψ m c r=true:=a2 k;cases c with
  |nil=>
   have:r=[]:=by have:=k.2;exact Hb.mp this
   subst this;exact Ep (h a e k.1)
  |cons t B=>have z:=AV (h a e k.1) (v a r k.2);exact z
variable(Φ Ψ G)
mutual
theorem R7:∀s:CS,gF Φ Ψ G s/\G8 Φ Ψ G s
 |.set i e=>⟨Lc i e,trivial⟩
 |.CM d e=>⟨Ld d e,trivial⟩
 |.par d g=>⟨Lf d g,trivial⟩
 |.app i e=>⟨Lg i e,trivial⟩
 |.put i k e=>⟨Lh i k e,trivial⟩
 |.AF j e=>⟨Fb j e,trivial⟩
 |.ret e=>⟨Lk e,trivial⟩
 |.iff c a b=>⟨OW c (mh a) (mh b),trivial⟩
 |.t7 c b=>⟨Lm c (mh b),trivial⟩
 |.fr d one f b=>⟨Ln d one f (mh b),trivial⟩
 |.brk=>⟨Ll,trivial⟩
 |.NQ i=>⟨Li i,trivial⟩
 |.NR i k e=>⟨Lj i k e,trivial⟩
 |.Mg h b=>⟨λ_ _ k=>(by cases k),mh b⟩
theorem mh:∀a:List CS,gI Φ Ψ G a
 |[]=>Fc
 |s::a=>BH (R7 s) (mh a)
end
end
structure Tab(P:Program)(w:World)(K:Frag)(mg:Str->Option Value)(base:Heap)(fn gn zn:List Str)(md:List Md)(mt:List (Nat×Nat))(Φ:Nat->bf)(G:Nat->W)(k:Nat):Prop where
 fns:∀(j:Nat)(x:Str),fn[j]?=some x->mt.any (·.1==j)=false->∃fv n k',mg x=some fv/\cP P w K mg base k' fv n (uL K n (lN md j) (Φ j))/\k'<=k/\∀ws P R,Φ j ws P R->ws.length=n
 Mj:∀(j g:Nat)(x:Str),fn[j]?=some x->(j,g)∈mt->∃f fd ps n k',(∀C,G g=.cls C->Meth K C x f)/\Binds K fd ps []/\bK P w K mg base (ji P w) k' f fd ps (uL K n (lN md j) (Φ j))/\k'<=k/\∀ws P R,Φ j ws P R->ws.length=n
 Kw:∀(j:Nat)(x:Str),gn[j]?=some x->∃u v,mg x=some u/\RelV v u/\∀B H,Rep K B H (G j) v
 uS:∀x∈zn,mg x=none
 kit:sC K
 K8:∀j x C,gn[j]?=some x->G j=.cls C->Ro K C
noncomputable def au(n:Nat)(a:List W):Ev:=a.map some++Ds (n -a.length) none
noncomputable def fall:Md->(W->Prop)->Ev->Prop
 |.s,P,_=>P .aL
 |.io _,P,a=>match look a 0 with
  |some b=>P (.tup [.aL,b])
  |none=>False
 |_,_,_=>False
section
variable{K:Frag}{A:Addr->Prop}{H:Hp}{N:List Str}{ws:List W}{vs:List V}{M:Ms}
theorem mw{i:Nat}{w:W}(a:ws.length<=i)(e:look (au N.length ws) i=some w):False:=by
 rw[aV]at e;unfold au at e;rw[Kb (by simp;omega),T2]at e;split at e
 .cases e
 .cases e
theorem yR{i:Nat}{w:W}(h:ai K A H ws vs)(e:look (au N.length ws) i=some w):∃v,(start N vs)[i]?=some (some v)/\Rep K A H w v:=by
 have f:=h.len;by_cases a:i<ws.length
 .rw[aV]at e;unfold au at e;rw[NA (by simpa using a),FK]at e;obtain⟨d,c,b⟩:=IR.mp e;cases b;obtain⟨v,b,r⟩:=h.get c;refine⟨v,?_,r⟩;unfold L2.start;rw[NA (by simp;lia),FK,b];rfl
 .exact(mw (by lia) e).elim
theorem BJ(h:ai K A H ws vs)(d:Dom A H)(g:∀i m,(i,m)∈M->ws.length<=i)(b:∀i m a,(i,m)∈M->(i,a)∈M->m=a):SR K M ⟨A,A,none⟩ H (start N vs) H (au N.length ws):=by have f:=h.len;refine⟨by simp[L2.start,au,f],λi w k e=>yR h e,ao.refl _,d,(λv e=>by cases e),λ_=>[],⟨b,λi m w c e=>(mw (g i m c) e).elim,λ_ _ _=>rfl,λ_ _=>X4,(λi j p _ _ z=>by cases z),(λi p _ z=>by cases z),(λi p _ z=>by cases z),λp=>⟨.inl,λz=>z.elim id<|by rintro⟨_,_,z⟩;cases z⟩⟩⟩
open Classical in
end
theorem OX{M:Ms}(h:(M.map (·.1)).Nodup):∀i m c,(i,m)∈M->(i,c)∈M->m=c:=by
 induction M with
 |nil=>intro i m c a;cases a
 |cons x M d=>
  obtain⟨j,k⟩:=x;rw[GT,Pv]at h;intro i m c a b;rcases FV.mp a with a|a
  .rcases FV.mp b with b|b
   .cases a;cases b;rfl
   .cases a;exact(h.1 (Hc.mpr ⟨_,b,rfl⟩)).elim
  .rcases FV.mp b with b|b
   .cases b;exact(h.1 (Hc.mpr ⟨_,a,rfl⟩)).elim
   .exact d h.2 i m c a b
section
variable{P:Program}{w:World}{K:Frag}{mg:Str->Option Value}{base:Heap}{x qual:Str}{st:Stmt}{f:Addr}{fd:FuncData}{N ps:List Str}{k:Nat}{fn gn zn:List Str}{md:List Md}{mt:List (Nat×Nat)}{Φ:Nat->bf}{G:Nat->W}
theorem Lo{M:Ms}{b:Value}{A:Around}{a:List Env}{s:Shared}{H:Hp}{E:XK}(t:fq N ps (ak st))(T:Tab P w K mg base fn gn zn md mt Φ G k)(q:bX k (gP P w K mg base N qual (ak st) f b A a s H E).A)(un:∀i m r,(i,m)∈M->(i,r)∈M->m=r):
 uW ⟨N,(ak st).names,M,fn,gn,zn,md,mt⟩ Φ (lN md) G (gP P w K mg base N qual (ak st) f b A a s H E):=
 {hN:=rfl,nd:=t.nd,calm:=rfl,un:=q.units,nk:=λ_=>rfl,
  fns:=λj x e h=>by obtain⟨v,n,p,o,l,d,c⟩:=T.fns j x e h;exact⟨v,n,p,o,l,q.mono d,c⟩
  Mj:=λj g x e h=>by obtain⟨f,fd,ps,n,p,o,l,d,c,u⟩:=T.Mj j g x e h;exact⟨f,fd,ps,n,p,o,l,d,q.mono c,u⟩
  Kv:=rfl,Kw:=T.Kw,uS:=T.uS,kit:=T.kit,
  bk:=by show(if(ak st).kind.isAnnotationScope then ScopeKind.function else(ak st).kind)=_;rw[t.kind];rfl
  Mp:=λ_=>rfl,K8:=T.K8,G6:=un}
theorem Lp(F:CK K x qual st f fd)(O:fq N ps (ak st))(T:Tab P w K mg base fn gn zn md mt Φ G k)(b:List CS)(M:Ms)(m:Md)(t:bf)(hM:M.all (λi=>decide (ps.length<=i.1))=true)(hu:(M.map (·.1)).Nodup)(d:dH m=false)
 (g:eV ⟨N,(ak st).names,M,fn,gn,zn,md,mt⟩ (lN md) m b (aX st)=true)(B:∀c P R,t c P R->c.length=ps.length)
 (hp:∀c P R,t c P R->wSs Φ G b ⟨fall m P,P,λ_=>False,λ_=>False,R⟩ (au N.length c)):bK P w K mg base (ji P w) (k+1) f fd ps (wj K ps.length m t):=by
 refine CK.SX F O (by rintro vs H Q E ⟨A,c,P,R,p,o,_⟩;rw[o.len,p]) λcdv A n s H vs Q E hr hz=>?_;obtain⟨U,c,u,R,p,o,h3,h4,L,J⟩:=hz;have y:=OX hu;refine⟨_,mh Φ (lN md) G b (Lo O T hr y) (aX st) g,⟨U,U,none⟩,H,au N.length c,⟨fall m u,u,λ_=>False,λ_=>False,R⟩,BJ o h3 (λi m hi=>?_) y,⟨E,NB,λC j rc l=>J C j rc l,λe Z S s1 h' a C h I hx q=>DN e Z S s1 h' a C h I hx (J C S q.1 q.2)⟩,(by rw[d];rfl),hp c u R h4,⟨λA' ε' Y j ea eb D S'=>?_,λw v j hw l r=>?_,λ_ _ _ _ _ _ z=>z.elim,λ_ _ _ _ _ _ z=>z.elim⟩⟩
 .rw[p];exact Bn (IH.mp hM (i,m) hi)
 .cases m with
  |s=>exact L .aL .aL j D S'.sm (.of (by dsimp only[Rep]))
  |io _=>cases d
  |_=>exact D.elim
 .cases m with
  |io _=>cases d
  |_=>exact L w v j hw l r
end
end VL
namespace L2
open PySem PySem.Spec PyProof.Rows
abbrev rv(as:List (Addr×Rat)):List V:=as.map λx=>V.ref x.1
section
variable{X:Cx}{H:Hp}
end
theorem yS{α:Type}{a:List α}{x:α}(h:a.getLast?=some x):jV a (-1)=some x:=by
 have c:a≠[]:=by intro z;rw[z]at h;cases h
 have b:0<a.length:=KF.mpr c;unfold jV;have e:t6 a.length (-1)=some (a.length -1):=by unfold t6;rw[Bi (by decide),Bz (by lia)];congr 1;lia
 rw[e];show a[a.length -1]?=_;rw[<-h,X6]
end L2
namespace VL
open PySem PySem.Spec
open PyProof.Rows hiding St
open L2
section
variable{K:Frag}{A:Addr->Prop}{H H':Hp}{v:V}{p:Addr}{r:Rat}{rs:List Rat}
theorem OY{a b:W}{vs:List V}(h:ai K A H [a,b] vs):∃x y,vs=[x,y]/\Rep K A H a x/\Rep K A H b y:=by obtain⟨x,l,rfl,d,h⟩:=h.cons_inv;obtain⟨y,l,rfl,c,h⟩:=h.cons_inv;rw[h.nil_inv];exact⟨x,y,rfl,d,c⟩
theorem Fe{a b c:W}{vs:List V}(h:ai K A H [a,b,c] vs):∃x y z,vs=[x,y,z]/\Rep K A H a x/\Rep K A H b y/\Rep K A H c z:=by obtain⟨x,l,rfl,f,h⟩:=h.cons_inv;obtain⟨y,z,rfl,e,d⟩:=OY h;exact⟨x,y,z,rfl,f,e,d⟩
theorem OZ{a:W}{vs:List V}(h:ai K A H [a] vs):∃x,vs=[x]/\Rep K A H a x:=by obtain⟨x,l,rfl,b,h⟩:=h.cons_inv;rw[h.nil_inv];exact⟨x,rfl,b⟩
end
noncomputable def bI:List bf->Nat->bf
 |[],_=>λ_ _ _=>False
 |x::_,0=>x
 |_::l,n+1=>bI l n
noncomputable def qY:List W->Nat->W
 |[],_=>.aL
 |x::_,0=>x
 |_::l,n+1=>qY l n
section
variable{Q:W->Prop}{l a b:List W}{i j:Int}{x y:Str}{p q:Bool}
theorem x_len:ni .len [.lst l] Q=Q (.int l.length):=rfl
theorem zv{ns:List Int}:ni .len [.eO ns] Q=Q (.int ns.length):=rfl
theorem zu:ni .len [.tup l] Q=Q (.int l.length):=rfl
theorem FQ:ni .abs [.int i] Q=Q (.int (if i<0 then-i else i)):=rfl
theorem FT:ni .max2 [.int i,.int j] Q=Q (.int (if j>i then j else i)):=rfl
theorem FU:ni .min2 [.int i,.int j] Q=Q (.int (if j<i then j else i)):=rfl
theorem zw:ni .list [.lst l] Q=Q (.lst l):=rfl
theorem vD:ni .list [.tup l] Q=Q (.lst l):=rfl
theorem vE:ni .tuple [.lst l] Q=Q (.tup l):=rfl
theorem qZ:ni .tuple [.tup l] Q=Q (.tup l):=rfl
theorem FW:ni .int [.bl p] Q=Q (.int (if p then 1 else 0)):=rfl
theorem FY:eS .Add (.int i) (.int j) Q=Q (.int (i+j)):=rfl
theorem FZ:eS .Add (.lst a) (.lst b) Q=(a.length+b.length<=sizeLine/\Q (.lst (a++b))):=rfl
theorem F3:eS .Sub (.int i) (.int j) Q=Q (.int (i -j)):=rfl
theorem F4:eS .Mult (.int i) (.int j) Q=(IntMulOk i j/\Q (.int (i*j))):=rfl
theorem F5:eS .Mult (.lst a) (.int j) Q=(-(2^63)<=j/\j<2^63/\a.length*j.toNat<=sizeLine/\Q (.lst (Ds j.toNat a).flatten)):=rfl
theorem zx:eS .FloorDiv (.int i) (.int j) Q=(Am i j/\Q (.int (i.fdiv j))):=rfl
theorem F6:eS .Mod (.int i) (.int j) Q=(j≠0/\Q (.int (i.fmod j))):=rfl
theorem F7:eS .Pow (.int i) (.int j) Q=(xV i j/\Q (.int (i^j.toNat))):=rfl
theorem F8:eS .RShift (.int i) (.int j) Q=(0<=j/\Q (.int (i/2^j.toNat))):=rfl
theorem Mz:eT .Eq (.int i) (.int j) Q=Q (.bl (decide (i=j))):=rfl
theorem MA:eT .NotEq (.int i) (.int j) Q=Q (.bl (!decide (i=j))):=rfl
theorem x_lt:eT .Lt (.int i) (.int j) Q=Q (.bl (decide (i<j))):=rfl
theorem MB:eT .LtE (.int i) (.int j) Q=Q (.bl (decide (i<=j))):=rfl
theorem MC:eT .Gt (.int i) (.int j) Q=Q (.bl (decide (j<i))):=rfl
theorem MD:eT .GtE (.int i) (.int j) Q=Q (.bl (decide (j<=i))):=rfl
theorem F9:GL .Lt (.int i) (.int j) Q=Q (.bl (decide (i<j))):=rfl
theorem Ga:GL .LtE (.int i) (.int j) Q=Q (.bl (decide (i<=j))):=rfl
theorem O2:eT .NotEq (.lst a) (.lst b) Q=(((qV 9 (.lst a)=true/\qV 9 (.lst b)=true)\/(CN 9 (.lst a)=true/\CN 9 (.lst b)=true))/\∀k:Bool,(k=true↔W.lst a=.lst b)->Q (.bl (!k))):=rfl
theorem ia{Q:Bool->Prop}:truth (.bl p) Q=Q p:=rfl
theorem ME:GN (.lst l) (.int i) Q=∃w,jV l i=some w/\Q w:=rfl
theorem Ge{ns:List Int}:GN (.eO ns) (.int i) Q=∃n,jV ns i=some n/\Q (.int n):=rfl
theorem Gf{ns:List Int}{c d:Option Int}:Qn (.eO ns) c d Q=Q (.lst (gS (ns.map W.int) c d)):=rfl
theorem Gb:GN (.tup l) (.int i) Q=∃w,jV l i=some w/\Q w:=rfl
theorem MF{c d:Option Int}:Qn (.lst l) c d Q=Q (.lst (gS l c d)):=rfl
theorem Gg{w:W}{Q:Option Int->Prop}:DZ .aL w Q=Q none:=rfl
theorem Gh{n:Int}{Q:Option Int->Prop}:DZ (.int n) (.int i) Q=Q (some i):=rfl
theorem Gi{n:Nat}{Q:Option Int->Prop}:DZ (.var n) (.int i) Q=Q (some i):=rfl
theorem Gj{o:Operator}{c d:CE}{Q:Option Int->Prop}:DZ (.bin o c d) (.int i) Q=Q (some i):=rfl
theorem vF{Q:List W->Prop}:items (.lst l) Q=Q l:=rfl
theorem rj{Q:List W->Prop}:items (.tup l) Q=Q l:=rfl
theorem MG{n:Nat}{w:W}{c:Ev}{Q:Ev->Prop}:wT true [n] w c Q=Q (c.set n (some w)):=rfl
theorem MH{c:List Nat}{d:Ev}{Q:Ev->Prop}:wT false c (.tup l) d Q=(l.length=c.length/\Q (bJ d c l)):=by
 cases c<;>rfl
theorem Gk{i j:Nat}{c:Ev}{Q:Ev->Prop}:wT false [i,j] (.tup l) c Q=(l.length=2/\Q (bJ c [i,j] l)):=rfl
theorem Gm{i j k:Nat}{c:Ev}{Q:Ev->Prop}:wT false [i,j,k] (.tup l) c Q=(l.length=3/\Q (bJ c [i,j,k] l)):=rfl
theorem zy{A B:Prop}:(if true=true then A else B)=A:=rfl
theorem vG{A B:Prop}:(if false=true then A else B)=B:=rfl
end
noncomputable def Tz(c:Nat->bf)(G:Nat->W)(one:Bool)(d:List Nat)(b:List CS):W->Dn->Ev->Prop:=λw f a=>wT one d w a λe=>wSs c G b f e
theorem Mx{c:Nat->bf}{G:Nat->W}{d:List Nat}{one:Bool}{e:CE}{b:List CS}{D:Dn}{a:Ev}:wS c G (.fr d one e b) D a=wE c G (λ_=>False) e a λz=>items z λf=>iI (Tz c G one d b) D f a:=rfl
theorem My{c:Nat->bf}{G:Nat->W}{d:List Nat}{one:Bool}{b:List CS}{w:W}{D:Dn}{a:Ev}:Tz c G one d b w D a=wT one d w a λe=>wSs c G b D e:=rfl
noncomputable def WN{α:Type}(S:α->Ev)(J:α->Prop)(c:α->Nat)(s:α):Ev->Prop:=λa=>∃b,a=S b/\J b/\c b<c s
noncomputable def Qv{α:Type}(S:α->Ev)(J:α->Prop)(d:α->Nat)(b:Dn->Ev->Prop)(D:Dn)(s:α)(k:Bool):Prop:=
 if k=true then∃N:Ev->Prop,(∀a,N a->∃e,e<d s/\∃c,a=S c/\e=d c/\J c)/\b {nx:=N,rt:=D.rt,bk:=D.nx,ct:=N,ex:=λ_=>False} (S s)else D.nx (S s)
theorem cA{α:Type}{S:α->Ev}{J:α->Prop}{a:α->Nat}{b:Dn->Ev->Prop}{D:Dn}{s:α}{k:Bool}(g:k=true->b {nx:=WN S J a s,rt:=D.rt,bk:=D.nx,ct:=WN S J a s,ex:=λ_=>False} (S s))(f:k=false->D.nx (S s)):Qv S J a b D s k:=by
 unfold Qv;cases k with
 |true=>exact⟨_,by rintro c ⟨d,e,j,l⟩;exact⟨_,l,d,e,rfl,j⟩,g rfl⟩
 |false=>exact f rfl
theorem jy{c:Ev->(Bool->Prop)->Prop}{b:Dn->Ev->Prop}{D:Dn}{a:Ev}{α:Type}(S:α->Ev)(J:α->Prop)(e:α->Nat)(d:α)(h:a=S d)(g:J d)(f:∀s,J s->c (S s) (Qv S J e b D s)):D3 c b D a:=by refine⟨λm a=>∃s,a=S s/\m=e s/\J s,⟨_,d,h,rfl,g⟩,?_⟩;rintro m _ ⟨s,rfl,rfl,j⟩;exact f s j
theorem eX{α:Type}{f:W->(Option W->Prop)->Prop}{h g:α->W}:∀(b:List α)(a:List W)(Q:List W->Prop),(∀x∈b,∀K:Option W->Prop,K (some (g x))->f (h x) K)->a.length+b.length<=sizeLine->Q (a++b.map g)->jX f (b.map h) a Q
 |[],a,Q,_,_,q=>by rw[XO,jX];simpa using q
 |w::b,a,Q,c,l,q=>by
  rw[GT,jX];refine c w (Da ..) _ ⟨?_,eX b _ Q (λx d=>c x (Dx _ d)) ?_ ?_⟩
  .rw[Eb]at l;lia
  .rw[Fm,G0];rw[Eb]at l;lia
  .rw[Qf];exact q
theorem cS{α:Type}(x:α):∀n,(Ds n [x]).flatten=Ds n x
 |0=>rfl
 |n+1=>by rw[HL,Kh,cS x n];rfl
theorem aj{n:Nat}(h:n<=1000):n<=sizeLine:=Hm h (by decide)
theorem Lq(K:Frag):sC K:=by intro a d b c;simp only[FV,WV,or_false]at d c;rcases d with rfl|rfl|rfl|rfl|rfl|rfl<;>rcases c with rfl|rfl|rfl|rfl|rfl|rfl<;>rfl
theorem qh{n:Nat}(h:n<=1000):n<sizeLine:=Nat.lt_of_le_of_lt h (by decide)
theorem kj(i:Int)(n:Nat):qV n (.int i)=true:=by
 cases n<;>rfl
theorem fE{k:Bool}{p:Prop}(h:k=true↔p)(q:p):k=true:=h.mpr q
theorem iU{k:Bool}{p:Prop}(h:k=true↔p)(q:¬p):k=false:=by
 cases k with
 |false=>rfl
 |true=>exact absurd (h.mp rfl) q
noncomputable def Hd(K:Frag)(x:Str)(st:Stmt):Prop:=∃(f:Addr)(d i:Option Addr)(b:Array (Option Value))(e kV g c a h:Value),
 nsIn K mainGlobals x=some (some (.ref f))/\K.lookup f=some ⟨e,d,.func (fnOf x x (bN st) (aX st) (ak st) .none kV g c i a h),b⟩/\codeIn K a x=true/\keepIn K (.ref f)=true
structure Df(K:Frag)(mg:Str->Option Value)(x:Str)(st:Stmt)(ps:List Str)(f:Addr)(fd:FuncData):Prop where
 F:CK K x x st f fd
 m:mg x=some (.ref f)
 b:Binds K fd ps []
 bt:∀(s:Shared)(us:List Value),us.length=ps.length->BindsTo s fd ⟨us,[]⟩ (ps.zip us)
abbrev gq(x q:Str)(st:Stmt)(ps:List Str):Prop:=∀(kV doc pm:Value)(an:Option Addr)(cdv ct:Value)(us:List Value),us.length=ps.length->bindArgs (fnOf x q (bN st) (aX st) (ak st) .none kV doc pm an cdv ct) ⟨us,[]⟩=pure (ps.zip us)
theorem nt{α:Type}{l:List α}{n:Nat}(h:l.length=n+1):∃a r,l=a::r/\r.length=n:=by
 cases l with
 |nil=>cases h
 |cons a r=>exact⟨a,r,rfl,Sd h⟩
theorem O3{K:Frag}{h:Heap}{e:Str->Option Value}{x:Str}{st:Stmt}{d:List Str}(X:K.In h)(G:h.Ns mainGlobals e)(m:Hd K x st)(b:gq x x st d):∃f n,Df K e x st d f n:=by obtain⟨f,u,r,t,v,kV,o,i,q,p,a,l,c,k⟩:=m;have F:=IL (st:=st) l c k;exact⟨f,_,F,PySem.W.mg_of X G a,F.binds b,λs g j=>.of_eq (b kV o i r q p g j)⟩
theorem uZ{K:Frag}{H:Hp}{a:Addr}{ns:List Int}(c:z3 H)(b:fh K H a (ns.map V.int)):Rep K (λ_=>False) H (.eO ns) (.ref a):=by
 refine⟨a,rfl,?_⟩;rcases b with(h|⟨o,h⟩)|h
 .rcases c a with z|⟨o,d,z⟩
  .rw[z]at h;cases h
  .rw[z]at h;cases h
 .exact .inl ⟨o,h⟩
 .exact .inr (.inr h)
noncomputable def Lr:bf:=λb Q _=>∃a:List Int,b=[.eO a]/\a.length<=63/\Q (.bl true)
noncomputable def wU(K:Frag):Sp:=λc H Q _=>∃(a:Addr)(b:List Int),c=[.ref a]/\z3 H/\fh K H a (b.map V.int)/\b.length<=63/\∀d,Q (.bl true) d
theorem Ls{P:Program}{w:World}{K:Frag}{c:Str->Option Value}{base:Heap}{k:Nat}{f:Addr}{d:FuncData}{x:Str}(F:bK P w K c base (ji P w) k f d [x] (wj K 1 .s Lr)):bK P w K c base Nt k f d [x] (wU K):=by refine(bK.NC F).imp λm H Q E ⟨a,b,e,j,i,h,q⟩=>?_;subst e;refine⟨λ_=>False,[.eO b],λw=>w=.bl true,λ_=>False,rfl,.cons (uZ j i) .nil,λ_ z=>z.elim,⟨b,rfl,h,rfl⟩,λw v l g _ r=>?_,λ_ _ z=>z.elim⟩;subst g;have r:=r.aY;dsimp only[Rep]at r;subst r;exact q l
theorem walk{l:PySem.W.OpenLaw}{q:Program}{b:List Str}{C:(Str->Option Value)->Heap->Prop}{m:World->Heap->Prop}{d:DefRec}{K:Params->Frag}{k:Nat}(t:l.most=some 63)(g:d.params.defaults=[])(r:bX k callerA)(D:importsNone q=true)(e:l.prog.given.tree=none)
 (y:∀(w:World)(h:Heap),m w h->(K w.params).In h)
 (F:∀(w:World)(c:Str->Option Value)(j:Addr)(h:Heap),(K w.params).In h->h.Ns mainGlobals c->c d.name=some (.ref j)->
   ∃i:FuncData,(∀(s:Shared)(u:Value),BindsTo s i ⟨[u],[]⟩ [("_law_script",u)])/\∀base:Heap,(K w.params).In base->base.Ns mainGlobals c->bK l.prog w (K w.params) c base Nt k j i ["_law_script"] (wU (K w.params))):
 PySem.W.WalkO q b C m l.row.toRowW d [] (λf o=>PySem.call f o):=
 L2.Du (n:=63) (k:=k) (x:="_law_script") (CX:=λ_=>Nt) (sp:=λw=>wU (K w.params)) t (by decide) g r D e y F (λ_ _ a p v B A=>⟨a,p,rfl,B,A,v,λ_=>rfl⟩) λ_ _ _ _ _ z=>z
noncomputable def R8:bf:=λ_ _ _=>False
theorem O4{P:Program}{w:World}{K:Frag}{e:Str->Option Value}{base:Heap}{k n:Nat}{f:Addr}{g:FuncData}{d:List Str}:bK P w K e base (ji P w) k f g d (uL K n .s R8):=
 ⟨by rintro c H Q E ⟨_,_,_,_,_,_,_,z,_⟩;exact z.elim,by rintro A a s H b h c Q E i l j r ⟨_,_,_,_,_,_,_,z,_⟩;exact z.elim⟩
theorem Df.gU{P:Program}{w:World}{K:Frag}{d:Str->Option Value}{base:Heap}{x:Str}{st:Stmt}{e:List Str}{f:Addr}{i:FuncData}{k n:Nat}{m:Md}{sp:bf}(D:Df K d x st e f i)(F:bK P w K d base (ji P w) k f i e (uL K n m sp))(l:n=e.length)(j:∀a P R,sp a P R->a.length=n){g:Nat}(o:k<=g):
 ∃h n c,d x=some h/\cP P w K d base c h n (uL K n m sp)/\c<=g/\∀a P R,sp a P R->a.length=n:=by
 subst l;exact⟨_,_,k,D.m,.fn D.F.kp D.b F,o,j⟩
end VL
namespace VL
open PySem PySem.Spec
open PyProof.Rows hiding St
open L2 Num
abbrev bH(m:Md)(P:W->Prop)(R:Addr->Prop):Dn:=⟨fall m P,P,λ_=>False,λ_=>False,R⟩
noncomputable def wI(ns:List Int):W:=.lst (ns.map W.int)
theorem bT{b:W->Dn->Ev->Prop}{D:Dn}{d:List W}{a:Ev}(J:Nat->Ev->Prop)(m:J 0 a)(l:∀i w a N,d[i]?=some w->J i a->(∀c,J (i+1) c->N c)->b w ⟨N,D.rt,D.nx,N,λ_=>False⟩ a)(he:∀a,J d.length a->D.nx a):iI b D d a:=by
 have:∀k i a,i+k=d.length->J i a->iI b D (d.drop i) a:=by
  intro k
  induction k with
  |zero=>intro i a e j;rw[List.drop_of_length_le (by lia),iI];exact he a (by rw[<-e];exact j)
  |succ k h=>
   intro i a e j;have f:i<d.length:=by lia
   rw[SB f,iI];exact l i _ a _ (B1 f) j λc g=>h (i+1) c (by lia) g
 exact this d.length 0 a (by lia) m
theorem cC{x y:Int}{n m:Nat}(h:x.natAbs<2^n)(b:y.natAbs<2^m)(a:n+m<=134217728):IntMulOk x y:=uC (Hm (Nat.add_le_add (bits_le h) (bits_le b)) a)
theorem qi{y:Int}{n:Nat}(h:y.natAbs<2^n)(a:n<=8000):y.natAbs.log2<1000000000:=by
 rcases Nat.eq_zero_or_pos y.natAbs with e|e
 .rw[e];decide
 .have:=(Xx (WL e)).mpr h;lia
noncomputable def mz:List CS:=[.ret (.comp [0] true 1 (.var 0) (.bl true) (.bin .Mult (.var 2) (.var 0)))]
noncomputable def iV:bf:=λc Q _=>∃(a:List Int)(b:Int),c=[wI a,.int b]/\a.length<=1000/\(∀x∈a,IntMulOk b x)/\Q (wI (a.map (b*·)))
theorem BK{e:Nat->bf}{G:Nat->W}{m:Md}(c:List W)(Q:W->Prop)(R:Addr->Prop)(h:iV c Q R):wSs e G mz (bH m Q R) (au 2 c):=by obtain⟨d,b,rfl,i,j,a⟩:=h;show wSs _ _ mz _ [some (wI d),some (.int b)];unfold mz wI;fin2;refine eX (g:=λx=>.int (b*x)) d [] _ (λx f K k=>⟨j x f,k⟩) (aj (by simpa using i)) ?_;rw[S2];unfold wI at a;rw[Qr]at a;exact a
theorem mD{n i:Nat}{w:W}(h:(cY 0 1 n)[i]?=some w):i<n/\w=.int i:=by unfold cY at h;rw[FK]at h;obtain⟨j,e,rfl⟩:=IR.mp h;obtain⟨b,a⟩:=FM.mp e;rw[Pp]at a;rw[GE]at b;refine⟨b,?_⟩;rw[<-a];simp
theorem qj(n:Nat):(cY 0 1 n).length=n:=by unfold cY;simp
theorem bq{l:List W}{k:Nat}{w:W}(h:l[k]?=some w):jV l (k:Int)=some w:=by unfold jV t6;have:=(FM.mp h).1;rw[Bz (by lia),Bz (by lia)];simpa using h
theorem mE{n k:Nat}(h:k<n):t6 n (k:Int)=some k:=by unfold t6;rw[Bz (by lia),Bz (by lia)];simp
theorem fm{x:Int}{n:Int}(a:0<n):0<=x.fmod n/\x.fmod n<n:=⟨Int.fmod_nonneg_of_pos x a,Int.fmod_lt_of_pos x a⟩
theorem aq{b:Nat->bf}{G:Nat->W}{s t:CS}{d:List CS}{D:Dn}{c:Ev}(J:Ev->Prop)(f:∀N:Ev->Prop,(∀a,J a->N a)->wS b G s {D with nx:=N} c)(e:∀a,J a->wSs b G (t::d) D a):wSs b G (s::t::d) D c:=f _ e
theorem int_at{ns:List Int}{k:Nat}(h:k<ns.length):(ns.map W.int)[k]?=some (.int (ns.getD k 0)):=by rw[FK,AC,B1 h];rfl
theorem BL{ns:List Int}{P:Int->Prop}(h:∀n∈ns,P n){k:Nat}(a:k<ns.length):P (ns.getD k 0):=by rw[AC,B1 a];exact h _ (Pt _)
theorem mF(ns:List Int)(k:Nat)(h:k<=ns.length):gS (ns.map W.int) none (some (k:Int))=(ns.take k).map W.int:=by unfold gS;rw[HT.Dg,HT.zV,AN,List.drop_zero,show min k ns.length -0=k by lia,Wy]
noncomputable def jz:List CS:=[.set 1 (.blt .len [(.var 0)]),.t7 (.and [(.cmp .Gt (.var 1) (.int 0)),(.cmp .Eq (.ix (.var 0) (.bin .Sub (.var 1) (.int 1))) (.int 0))]) [.set 1 (.bin .Sub (.var 1) (.int 1))],.ret (.sl (.var 0) .aL (.var 1))]
noncomputable def cT:bf:=λc Q _=>∃a:List Int,c=[wI a]/\∀b,cW a b->Q (wI b)
theorem yT{l:Nat->bf}{G:Nat->W}{m:Md}(i:List W)(Q:W->Prop)(R:Addr->Prop)(h:cT i Q R):wSs l G jz (bH m Q R) (au 2 i):=by
 obtain⟨c,rfl,n⟩:=h;show wSs _ _ jz _ [some (wI c),none];unfold jz wI;fin2;refine jy (α:=Nat) (λk=>[some (.lst (c.map W.int)),some (.int k)]) (λk=>k<=c.length/\∀j,k<=j->j<c.length->c.getD j 0=0) (λk=>k) c.length (by rw[AN]) ⟨BM _,λj g f=>by lia⟩ ?_;rintro k ⟨g,f⟩;fin2;have d:(k=0\/c.getD (k -1) 0≠0)->Q (.lst (gS (c.map W.int) none (some (k:Int)))):=λh=>by rw[mF c k g];exact n _ ⟨k,g,rfl,f,h⟩
 by_cases o:0<k
 .rw[Bz (Do (by lia))];rw[show(k:Int) -1=((k -1:Nat):Int) by lia];refine⟨_,bq (int_at (by lia)),?_⟩;fin2;refine cA (λz=>?_) (λz=>?_)
  .have z:=Bn z;fin2;refine⟨k -1,by rw[show(k:Int) -1=((k -1:Nat):Int) by lia],⟨by lia,λj a b=>?_⟩,by show k -1<k;lia⟩;by_cases e:j=k -1
   .rw[e];exact z
   .exact f j (by lia) b
  .have z:=X2 z;fin2;exact d (.inr z)
 .rw[Bi (by rw[Fh];lia)];refine cA (λz=>by cases z) (λ_=>?_);fin2;exact d (.inl (by lia))
noncomputable def fF:List CS:=[.set 2 (.blt .max2 [(.blt .len [(.var 0)]),(.blt .len [(.var 1)])]),.set 3 (.bin .Add (.blt .list [(.var 0)]) (.bin .Mult (.lst [(.int 0)]) (.bin .Sub (.var 2) (.blt .len [(.var 0)])))),.fr [4,5] false (.pR (.var 1)) [.put 3 (.var 4) (.bin .Add (.ix (.var 3) (.var 4)) (.var 5))],.ret (.call 0 [(.var 3)])]
noncomputable def dQ:bf:=λd Q _=>∃a b:List Int,d=[wI a,wI b]/\a.length<=200/\b.length<=200/\∀c,cW ((Ea (max a.length b.length)).map λk=>a.getD k 0+b.getD k 0) c->Q (wI c)
theorem qk{G:Nat->W}{m:Md}(t:List W)(Q:W->Prop)(R:Addr->Prop)(h:dQ t Q R):wSs (bI [cT]) G fF (bH m Q R) (au 6 t):=by
 obtain⟨b,a,rfl,u,v,E⟩:=h;show wSs _ _ fF _ [some (wI b),some (wI a),none,none,none,none];unfold fF wI;fin2;have c:(if((a.map W.int).length:Int)>((b.map W.int).length:Int)then((a.map W.int).length:Int)else((b.map W.int).length:Int))=((max b.length a.length:Nat):Int):=by rw[AN,AN];split<;>lia
 rw[c];have d:((max b.length a.length:Nat):Int) -((b.map W.int).length:Int)=((max b.length a.length -b.length:Nat):Int):=by rw[AN];clear c v u;lia
 rw[d,G2,cS];generalize K:max b.length a.length=L at*;refine⟨aj (by simp),by clear d c K v u;lia,by clear d c;lia,aj (by simp;clear d c;lia),aj (by simp;clear d c;lia),?_⟩;have g:∀(f:Nat->Int)(k:Nat),k<L->((Ea L).map f)[k]?=some (f k):=λf k H=>by rw[FK,PQ H];rfl
 refine bT (λi z=>∃o n,z=[some (.lst (b.map W.int)),some (.lst (a.map W.int)),some (.int L),some (.lst (((Ea L).map λk=>b.getD k 0+if k<i then a.getD k 0 else 0).map W.int)),o,n]) ⟨none,none,?_⟩ ?_ ?_
 .have:b.map W.int++Ds (L -b.length) (W.int 0)=((Ea L).map λk=>b.getD k 0+if k<0 then a.getD k 0 else 0).map W.int:=by
   refine W3 λq=>?_;by_cases s:q<b.length
   .rw[NA (by simpa using s),int_at s,FK,g _ q (by lia),Bi (by lia),Tb];rfl
   .by_cases j:q<L
    .rw[Kb (by simpa using s),T2,Bz (by rw[AN];omega),FK,g _ q j,Bi (by lia),AC,FR (by lia)];rfl
    .rw[FR (by simp;omega),FR (by simp;lia)]
  rw[this]
 .rintro i w _ N C ⟨o,n,rfl⟩ J;obtain⟨x,p,rfl⟩:=jo C;have I:i<a.length:=by have:=(FM.mp p).1;simpa using this
  rw[int_at I]at p;cases p;fin2;have r:i<L:=by omega
  refine⟨rfl,_,bq (by rw[FK,g _ i r];rfl),?_⟩;fin2;refine⟨i,mE (by simpa using r),J _ ⟨some (.int i),some (.int (a.getD i 0)),?_⟩⟩;have:((Ea L).map λk=>b.getD k 0+if k<i then a.getD k 0 else 0).set i (b.getD i 0+(if i<i then a.getD i 0 else 0)+a.getD i 0)=(Ea L).map λk=>b.getD k 0+if k<i+1 then a.getD k 0 else 0:=by
   refine W3 λq=>?_;rw[X7];by_cases j:q<L
   .rw[g _ q j,g _ q j];by_cases e:i=q
    .subst e;rw[Bz rfl,Bz (by simpa using r),Bi (by lia),Bz (by lia)];congr 1;lia
    .rw[Bi e];by_cases y:q<i
     .rw[Bz y,Bz (by lia)]
     .rw[Bi y,Bi (by lia)]
   .rw[Bi (by lia),FR (by simp;lia),FR (by simp;lia)]
  rw[<-this,XN]
 .rintro _ ⟨o,n,rfl⟩;have B:(fO (a.map W.int)).length=a.length:=by unfold fO;simp
  rw[B];fin2;refine⟨_,rfl,λA D=>E A ?_⟩;have:((Ea L).map λk=>b.getD k 0+if k<a.length then a.getD k 0 else 0)=(Ea L).map λk=>b.getD k 0+a.getD k 0:=by
   refine PP λk _=>?_;by_cases h:k<a.length
   .rw[Bz h]
   .rw[Bi h,AC (l:=a),FR (by lia)];rfl
  rw[<-this];exact D
noncomputable def d8:List CS:=[.ret (.call 0 [(.var 0),(.call 1 [(.var 1),(.neg (.int 1))])])]
noncomputable def fG:bf:=λe Q _=>∃(c a:List Int)(b:Nat),e=[wI c,wI a]/\c.length<=200/\a.length<=200/\b<=100000000/\(∀x∈a,x.natAbs<2^b)/\∀d,cW ((Ea (max c.length a.length)).map λk=>c.getD k 0 -a.getD k 0) d->Q (wI d)
theorem ny{G:Nat->W}{m:Md}(e:List W)(Q:W->Prop)(R:Addr->Prop)(h:fG e Q R):wSs (bI [dQ,iV]) G d8 (bH m Q R) (au 2 e):=by
 obtain⟨c,a,b,rfl,i,j,q,d,p⟩:=h;show wSs _ _ d8 _ [some (wI c),some (wI a)];unfold d8;fin2;refine⟨a,-1,rfl,by lia,λx o=>cC (n:=1) (m:=b) (by decide) (d x o) (by lia),?_⟩;refine⟨c,a.map (-1*·),rfl,i,by rw[AN];exact j,λg f=>p g ?_⟩;rw[AN]at f;have:((Ea (max c.length a.length)).map λk=>c.getD k 0+(a.map (-1*·)).getD k 0)=(Ea (max c.length a.length)).map λk=>c.getD k 0 -a.getD k 0:=by
  refine PP λk _=>?_;rw[AC (l:=a.map _),FK,AC (l:=a)];cases a[k]? with
  |none=>show _+(0:Int)=_ -(0:Int);lia
  |some z=>show _+ -1*z=_ -z;lia
 rw[<-this];exact f
noncomputable def tabI(n:Nat)(f:Nat->Int):List Int:=(Ea n).map f
theorem gr{n k:Nat}{f:Nat->Int}(h:k<n):(tabI n f)[k]?=some (f k):=by unfold tabI;rw[FK,PQ h];rfl
theorem bE(n:Nat)(f:Nat->Int):(tabI n f).length=n:=by unfold tabI;simp
theorem mG{n k:Nat}{f g:Nat->Int}(h:k<n)(b:∀j,j<n->j≠k->g j=f j):(tabI n f).set k (g k)=tabI n g:=by
 refine W3 λq=>?_;rw[X7];by_cases a:q<n
 .rw[gr a,gr a];by_cases e:k=q
  .subst e;rw[Bz rfl,Bz (by rw[bE];exact h)]
  .rw[Bi e,b q a (NM e)]
 .rw[Bi (by lia),FR (by rw[bE];lia),FR (by rw[bE];lia)]
theorem BN{x y:List Int}{Q:W->Prop}(h:∀k:Bool,(k=true↔x=y)->Q (.bl k)):eT .Eq (wI x) (wI y) Q:=by
 have c:∀z:List Int,qV 9 (.lst (z.map W.int))=true:=λz=>by dsimp only[qV];rw[IH];intro w d;obtain⟨i,_,rfl⟩:=Hc.mp d;exact kj i 8
 refine⟨.inl ⟨c x,c y⟩,λk f=>h k (f.trans ⟨λe=>?_,λe=>by rw[e]⟩)⟩;exact(VJ (λa b e=>W.AE e)).mp (W.GK e)
theorem wV{a:List Int}{i:Nat}{w:W}(h:(fO (a.map W.int))[i]?=some w):i<a.length/\w=.tup [.int i,.int (a.getD i 0)]:=by
 obtain⟨x,b,rfl⟩:=jo h;have c:i<a.length:=by have:=(FM.mp b).1;simpa using this
 rw[int_at c]at b;cases b;exact⟨c,rfl⟩
theorem tH(a:List Int):(fO (a.map W.int)).length=a.length:=by unfold fO;simp
noncomputable def d9:List CS:=[.iff (.or [(.cmp .Eq (.var 0) (.lst [])),(.cmp .Eq (.var 1) (.lst []))]) [.ret (.lst [])] [],.set 2 (.bin .Mult (.lst [(.int 0)]) (.bin .Sub (.bin .Add (.blt .len [(.var 0)]) (.blt .len [(.var 1)])) (.int 1))),.fr [3,4] false (.pR (.var 0)) [.iff (.cmp .NotEq (.var 4) (.int 0)) [.fr [5,6] false (.pR (.var 1)) [.put 2 (.bin .Add (.var 3) (.var 5)) (.bin .Add (.ix (.var 2) (.bin .Add (.var 3) (.var 5))) (.bin .Mult (.var 4) (.var 6)))]] []],.ret (.var 2)]
noncomputable def fH:bf:=λc Q _=>∃a b:List Int,c=[wI a,wI b]/\a.length<=200/\b.length<=200/\(∀x∈a,∀y∈b,IntMulOk x y)/\Q (wI (if a=[]\/b=[]then[]else tabI (a.length+b.length -1) (cf a b a.length)))
theorem nE{D:Nat->bf}{G:Nat->W}{m:Md}(A:List W)(Q:W->Prop)(R:Addr->Prop)(h:fH A Q R):wSs D G d9 (bH m Q R) (au 7 A):=by
 obtain⟨a,b,rfl,T,S,K,l⟩:=h;show wSs _ _ d9 _ [some (wI a),some (wI b),none,none,none,none,none];unfold d9;refine aq (λs=>(a≠[]/\b≠[])/\s=[some (wI a),some (wI b),none,none,none,none,none]) (λN r=>?_) ?_
 .fin2;refine⟨aj (by simp),BN (y:=[]) λY C=>?_⟩;fin2;by_cases o:a=[]
  .cases fE C o;rw[Bz rfl];rw[Bz (.inl o)]at l;exact⟨aj (by simp),l⟩
  .cases iU C o;rw[Bi (by decide)];refine⟨aj (by simp),BN (y:=[]) λU B=>?_⟩;fin2;by_cases p:b=[]
   .cases fE B p;rw[Bz rfl];rw[Bz (.inr p)]at l;exact⟨aj (by simp),l⟩
   .cases iU B p;rw[Bi (by decide)];exact r _ ⟨⟨o,p⟩,rfl⟩
 rintro _ ⟨⟨o,p⟩,rfl⟩;rw[Bi (λz=>z.elim o p)]at l;have Z:=KF.mpr o;unfold wI at*;fin2;have O:((a.map W.int).length:Int)+((b.map W.int).length:Int) -1=((a.length+b.length -1:Nat):Int):=by rw[AN,AN];lia
 rw[O,G2,cS];refine⟨aj (by simp),by lia,by lia,aj (by simp;lia),?_⟩;refine bT (λi t=>∃o3 u d c,t=[some (.lst (a.map W.int)),some (.lst (b.map W.int)),some (.lst ((tabI (a.length+b.length -1) (cf a b i)).map W.int)),o3,u,d,c]) ⟨none,none,none,none,?_⟩ ?_ ?_
 .have:tabI (a.length+b.length -1) (cf a b 0)=Ds (a.length+b.length -1) 0:=by unfold tabI;have:cf a b 0=λ_=>0:=rfl;rw[this,SO,GE]
  rw[this,Ta]
 .rintro i w _ N J ⟨o3,u,d,c,rfl⟩ r;obtain⟨M,rfl⟩:=wV J;fin2;refine⟨rfl,?_⟩;by_cases z:a.getD i 0=0
  .rw[Do z];fin2;refine r _ ⟨some (.int i),some (.int (a.getD i 0)),d,c,?_⟩;rw[show cf a b (i+1)=cf a b i from funext λk=>Dw z k]
  .rw[He z];fin2;refine bT (λj t=>∃d c,t=[some (.lst (a.map W.int)),some (.lst (b.map W.int)),some (.lst ((tabI (a.length+b.length -1) (qS a b i j)).map W.int)),some (.int i),some (.int (a.getD i 0)),d,c]) ⟨d,c,?_⟩ ?_ ?_
   .rw[show qS a b i 0=cf a b i from funext λk=>rQ a b i k]
   .rintro j w _ N2 E ⟨d,c,rfl⟩ H;obtain⟨L,rfl⟩:=wV E;have v:i+j<a.length+b.length -1:=by lia
    fin2;rw[show(i:Int)+(j:Int)=((i+j:Nat):Int) by lia];refine⟨rfl,_,bq (by rw[FK,gr v];rfl),?_⟩;fin2;refine⟨BL (P:=λx=>IntMulOk x (b.getD j 0)) (λx I=>BL (P:=λy=>IntMulOk x y) (K x I) L) M,i+j,mE (by rw[AN,bE];exact v),H _ ⟨some (.int j),some (.int (b.getD j 0)),?_⟩⟩;have e:=mG (n:=a.length+b.length -1) (f:=qS a b i j) (g:=qS a b i (j+1)) (k:=i+j) v (λq _ l=>by rw[kM,Bi l,Tb]);rw[kM,Bz rfl]at e;rw[<-e,XN]
   .rintro _ ⟨d,c,rfl⟩;refine r _ ⟨some (.int i),some (.int (a.getD i 0)),d,c,?_⟩;rw[tH,show qS a b i b.length=cf a b (i+1)from funext λk=>rR a b i k]
 .rintro _ ⟨o3,u,d,c,rfl⟩;rw[tH];fin2;exact l
end VL
namespace L2
open PySem
theorem oB{r:Nat}:Builtin.Range.rangeSize ((r:Int) -1) (-1) (-1)=(r:Int):=by
 unfold Builtin.Range.rangeSize;rw[Bi (by decide)];split
 .show((r:Int) -1 - -1 -1)/1+1=_;lia
 .lia
theorem u0{r:Nat}(h:r<=1000):Builtin.Range.small ((r:Int) -1) (-1) (-1)=true:=by
 unfold Builtin.Range.small;rw[oB];have f:∀x:Int,-2000<=x->x<=2000->Builtin.Range.rangeFitsLong x=true:=λx b a=>by unfold Builtin.Range.rangeFitsLong;simp;lia
 rw[f _ (by lia) (by lia),f _ (by lia) (by lia),f _ (by lia) (by lia),Bi (by decide),f (-1+(-1+1)) (by decide) (by decide)];simp
end L2
namespace VL
open PySem PySem.Spec
open PyProof.Rows hiding St
open L2 Num
theorem G9{ns:List Int}(h:0<ns.length):jV (ns.map W.int) (-1)=some (.int (ns.getD (ns.length -1) 0)):=by refine yS ?_;rw[X6,AN,int_at (by omega)]
theorem mH{n k:Nat}{f:Nat->Int}(h:k<n):(tabI n f).getD k 0=f k:=by rw[AC,gr h];rfl
theorem Ff(n:Nat)(f:Nat->Int)(k:Nat):(tabI n f).getD k 0=if k<n then f k else 0:=by
 by_cases h:k<n
 .rw[Bz h,mH h]
 .rw[Bi h];exact outI (by rw[bE];lia)
theorem tK{n:Nat}{f:Nat->Int}{x:Int}(h:x∈tabI n f):∃k,k<n/\x=f k:=by unfold tabI at h;obtain⟨k,a,rfl⟩:=Hc.mp h;exact⟨k,Kk.mp a,rfl⟩
theorem BO{n:Nat}{f g:Nat->Int}(h:∀k,k<n->f k=g k):tabI n f=tabI n g:=by unfold tabI;exact PP λk a=>h k (Kk.mp a)
theorem BP(n:Nat)(x:Int):Ds n (W.int x)=(tabI n λ_=>x).map W.int:=by unfold tabI;rw[SO,GE,Ta]
theorem yU{n:Nat}(ns:List Int)(h:ns.length=n):ns=tabI n λk=>ns.getD k 0:=by
 refine W3 λj=>?_;by_cases a:j<n
 .rw[gr a,AC,B1 (by lia)];rfl
 .rw[FR (by lia),FR (by rw[bE];lia)]
theorem Fg{r n s:Nat}{w:W}(h:(cY ((r:Int) -1) (-1) n)[s]?=some w):s<n/\w=.int ((r:Int) -1 -s):=by unfold cY at h;rw[FK]at h;obtain⟨j,e,rfl⟩:=IR.mp h;obtain⟨b,a⟩:=FM.mp e;rw[Pp]at a;rw[GE]at b;refine⟨b,?_⟩;rw[<-a];congr 1;lia
theorem Lu(a st:Int)(n:Nat):(cY a st n).length=n:=by unfold cY;simp
theorem yV{r:Nat}{Q:List W->Prop}(h:r<=1000)(q:Q (cY ((r:Int) -1) (-1) r)):AI [.int ((r:Int) -1),.int (-1),.int (-1)] Q:=
 ⟨r,⟨by decide,by decide,u0 h,oB⟩,q⟩
theorem Fi{R:List Int}(h:0<R.length):∃a x,R=a++[x]:=
 ⟨R.dropLast,R.getLast (λz=>by rw[z]at h;cases h),(List.dropLast_concat_getLast _).symm⟩
theorem pop_at{a:List Int}{x:Int}:((a++[x]).map W.int)[((a++[x]).map W.int).length -1]?=some (.int x):=by simp
theorem Lv{a:List Int}{x:Int}:((a++[x]).map W.int).dropLast=a.map W.int:=by simp
end VL
namespace L2
open PySem
end L2
namespace VL
open PySem PySem.Spec
open PyProof.Rows hiding St
open L2 Num
structure TF(A B fA fB:List Int)(ld h:Int)(N E:Nat):Prop where
 l2:2<=B.length
 TH:B.length<=A.length
 Wl:A.length<=15
 lf:fA.length<=40
 Uh:fB.length<=40
 bA:∀x∈A,x.natAbs<2^N
 bB:∀x∈B,x.natAbs<2^N
 Wm:∀x∈fA,x.natAbs<2^N
 Wn:∀x∈fB,x.natAbs<2^N
 bl:ld.natAbs<2^N
 bh:h.natAbs<2^N
 hN:N<=5000
 hE:E<=12000
 k0:ld*h^(A.length -B.length)≠0
 kE:(ld*h^(A.length -B.length)).natAbs<=2^E
 h0:0<A.length -B.length->h^(A.length -B.length -1)≠0/\(h^(A.length -B.length -1)).natAbs<=2^E
noncomputable def Mr(a:List Rat):Nat->Rat:=λi=>a.getD i 0
noncomputable def TJ(b p2:Nat)(g a:List Rat):Prop:=∃(s:List Rat)(D:Int),(∀k,a.getD k 0=IM (Mr s) (Mr g) k)/\D≠0/\D.natAbs<2^b/\∀x∈s,Cd D p2 x
structure Vj(p1 p2:Nat)(a b g u v:List Rat):Prop where
 ng:kN g
 nu:kN u
 nv:kN v
 Wo:∀k,g.getD k 0=IM (Mr u) (Mr a) k+IM (Mr v) (Mr b) k
 da:TJ p1 p2 g a
 db:TJ p1 p2 g b
 ne:g≠[]
 one:g.getD (g.length -1) 0=1
theorem Fj(ns:List Int)(a b:Option Int):∃c:List Int,gS (ns.map W.int) a b=c.map W.int:=by unfold gS;exact⟨_,by rw[<-List.map_drop,<-Wy]⟩
structure Wq(a:List Rat):Prop where
 l8:a.length<=8
 z:kN a
 cd:∃D:Int,0<D/\D.natAbs<2^101/\∀x∈a,Cd D 117 x
 bd:∀x∈a,Bd 200 x
noncomputable def rB(n k:Nat):Nat:=(2*n+k+4)*14+1
structure Tn(xs xs':List (List Rat))(n i t:Nat):Prop where
 xl:xs'.length=n
 rl:∀x∈xs',x.length=n
 same:∀m,m<=i\/i+1+t<=m->xs'.getD m []=xs.getD m []
 el:∀m,i<m->m<i+1+t->vQ (xs'.getD m []) i=0/\∃s:Rat,∀c,vQ (xs'.getD m []) c=vQ (xs.getD m []) c+s*vQ (xs.getD i []) c
noncomputable def wv(t p:Int):List Int->Int
 |[]=>0
 |c::l=>wv t p l*t+c*p^l.length
section
variable{a b:List Rat}{l1 l2 n1 n2 n k1 k2 k E q:Nat}{Q:W->Prop}{R:Addr->Prop}
end
noncomputable def mJ:List CS:=[.CM [2,3] (.tup [(.int 1),(.int 0)]),.CM [4,5] (.tup [(.int 0),(.int 1)]),.t7 (.cmp .NotEq (.var 1) (.int 0)) [.set 6 (.bin .FloorDiv (.var 0) (.var 1)),.par [0,1] [(.var 1),(.bin .Sub (.var 0) (.bin .Mult (.var 6) (.var 1)))],.par [2,3] [(.var 3),(.bin .Sub (.var 2) (.bin .Mult (.var 6) (.var 3)))],.par [4,5] [(.var 5),(.bin .Sub (.var 4) (.bin .Mult (.var 6) (.var 5)))]],.iff (.cmp .Lt (.var 0) (.int 0)) [.ret (.tup [(.neg (.var 0)),(.neg (.var 2)),(.neg (.var 4))])] [],.ret (.tup [(.var 0),(.var 2),(.var 4)])]
noncomputable def qm:bf:=λc Q _=>∃(a b:Int)(n:Nat),c=[.int a,.int b]/\n<=7000/\a.natAbs<2^n/\b.natAbs<2^n/\∀g u v:Int,g=(Nv a b:Nat)->u*a+v*b=g->Q (.tup [.int g,.int u,.int v])
theorem BQ{s:Nat->bf}{G:Nat->W}{m:Md}(l:List W)(Q:W->Prop)(R:Addr->Prop)(h:qm l Q R):wSs s G mJ (bH m Q R) (au 7 l):=by
 obtain⟨a,b,n,rfl,z,w,p,q⟩:=h;show wSs _ _ mJ _ [some (.int a),some (.int b),none,none,none,none,none];unfold mJ;fin2;refine⟨aj (by simp),rfl,aj (by simp),rfl,?_⟩;have i:=pow2 n;refine jy (α:=Int×Int×Int×Int×Int×Int×Option W) (λx=>[some (.int x.1),some (.int x.2.1),some (.int x.2.2.1),some (.int x.2.2.2.1),some (.int x.2.2.2.2.1),some (.int x.2.2.2.2.2.1),x.2.2.2.2.2.2]) (λx=>Ab n a b x.1 x.2.1 x.2.2.1 x.2.2.2.1 x.2.2.2.2.1 x.2.2.2.2.2.1) (λx=>x.2.1.natAbs) (a,b,1,0,0,1,none) rfl ⟨by lia,by lia,rfl,w,p,i,by show 0<_;clear i p;lia,by show 0<_;lia,i,.inl ⟨rfl,rfl,rfl,rfl⟩⟩ ?_;rintro⟨x,y,u,f,v,d,o⟩ I;have I:Ab n a b x y u f v d:=I;fin2;refine cA (λk=>?_) (λk=>?_)
 .have c:y≠0:=by simpa using k
  have j:(x.fdiv y).natAbs<2^(n+2):=by
   have C:=Rg x y c;have B:=I.bx;have A:=I.pH;have e:2^(n+2)=4*2^n:=by rw[XU];lia
   lia
  fin2;refine⟨⟨c,qi I.pH (by lia)⟩,cC j I.pH (by lia),rfl,cC j I.SJ (by lia),rfl,cC j I.SK (by lia),rfl,?_⟩;exact⟨(y,x -x.fdiv y*y,f,u -x.fdiv y*f,d,v -x.fdiv y*d,_),rfl,I.next c,uy x y c⟩
 .have c:y=0:=by simpa using k
  subst c;have t:=I.g;rw[Int.gcd_zero_right]at t;have e1:=I.e1;fin2;by_cases r:x<0
  .rw[Bz (Do r)];refine⟨aj (by simp),q (-x) (-u) (-v) (by lia) ?_⟩;rw[V4,V4];lia
  .rw[Bi (by rw[Fh];exact r)];exact⟨aj (by simp),q x u v (by lia) e1⟩
noncomputable def jA:List CS:=[.ret (.bin .Mod (.ix (.call 0 [(.var 0),(.var 1)]) (.int 1)) (.var 1))]
noncomputable def iW:bf:=λa Q _=>∃x p:Int,a=[.int x,.int p]/\(af p/\p<2^40/\0<x/\x<p)/\∀y:Int,0<=y->y<p->p∣y*x -1->Q (.int y)
theorem yW{G:Nat->W}{m:Md}(a:List W)(Q:W->Prop)(R:Addr->Prop)(h:iW a Q R):wSs (bI [qm]) G jA (bH m Q R) (au 2 a):=by
 obtain⟨x,p,rfl,⟨b,k,d,c⟩,q⟩:=h;show wSs _ _ jA _ [some (.int x),some (.int p)];have f:0<p:=by have:=b.1;lia
 unfold jA;fin2;refine⟨x,p,40,rfl,by decide,by lia,by lia,λg u v j i=>⟨_,rfl,?_⟩⟩;fin2;have l:g=1:=by rw[j,Int.gcd_comm,gH b d c];rfl
 rw[Ki _ (by lia)];refine⟨by lia,q (u%p) (Pl _ (by lia)) (Nw _ f) ?_⟩;have e:u%p=u -p*(u/p):=by have:=Os u p;lia
 rw[e];refine⟨-(v+(u/p)*x),?_⟩;have:u*x=1 -v*p:=by lia
 grind
noncomputable def jB:List CS:=[.ret (.call 0 [(.comp [0] true 1 (.var 0) (.bl true) (.bin .Mod (.var 0) (.var 2)))])]
noncomputable def cU:bf:=λc Q _=>∃(a:List Int)(p:Int),c=[wI a,.int p]/\0<p/\a.length<=1000/\∀b,cW (a.map (·%p)) b->Q (wI b)
theorem yX{G:Nat->W}{m:Md}(b:List W)(Q:W->Prop)(R:Addr->Prop)(h:cU b Q R):wSs (bI [cT]) G jB (bH m Q R) (au 2 b):=by
 obtain⟨a,p,rfl,e,c,q⟩:=h;show wSs _ _ jB _ [some (wI a),some (.int p)];unfold jB wI;fin2;refine eX (g:=λx=>.int (x%p)) a [] _ (λx f K d=>⟨by lia,?_⟩) (aj (by simpa using c)) ⟨a.map (·%p),?_,q⟩
 .dsimp only;rw[Ki _ (by lia)];exact d
 .unfold wI;rw[Qr];rfl
noncomputable def fJ:List CS:=[.set 3 (.blt .max2 [(.bin .Add (.bin .Sub (.blt .len [(.var 0)]) (.blt .len [(.var 1)])) (.int 1)),(.int 0)]),.set 4 (.call 0 [(.ix (.var 1) (.neg (.int 1))),(.var 2)]),.set 5 (.blt .list [(.var 0)]),.set 6 (.bin .Mult (.lst [(.int 0)]) (.var 3)),.fr [7] true (.jb [(.bin .Sub (.var 3) (.int 1)),(.neg (.int 1)),(.neg (.int 1))]) [.AF 8 (.bin .Mod (.bin .Mult (.pop 5) (.var 4)) (.var 2)),.put 6 (.var 7) (.var 8),.fr [9] true (.jb [(.bin .Sub (.blt .len [(.var 1)]) (.int 1))]) [.put 5 (.bin .Add (.var 7) (.var 9)) (.bin .Mod (.bin .Sub (.ix (.var 5) (.bin .Add (.var 7) (.var 9))) (.bin .Mult (.var 8) (.ix (.var 1) (.var 9)))) (.var 2))]],.ret (.tup [(.var 6),(.call 1 [(.var 5)])])]
structure Rm(p:Int)(ns:List Int):Prop where
 b:∀x∈ns,0<=x/\x<p
 z:ns=[]\/ns.getD (ns.length -1) 0≠0
structure Hf(p:Int)(ns ms qs rs:List Int):Prop where
 lq:qs.length=ns.length+1 -ms.length
 lr:rs.length<ms.length
 eq:pF p ns ms (λi=>qs.getD i 0) rs
 q:Rm p qs
 r:Rm p rs
noncomputable def aQ:bf:=λe Q _=>∃(b a:List Int)(p:Int),e=[wI b,wI a,.int p]/\(af p/\p<2^40/\0<a.length/\b.length<=100/\a.length<=100/\Rm p b/\Rm p a)/\∀d c,Hf p b a d c->Q (.tup [wI d,wI c])
theorem f7{x y p:Int}(c:p<2^40)(b:0<=x/\x<p)(a:0<=y/\y<p):IntMulOk x y:=cC (n:=40) (m:=40) (by lia) (by lia) (by decide)
theorem qo{G:Nat->W}{m:Md}(ws:List W)(Q:W->Prop)(R:Addr->Prop)(h:aQ ws Q R):wSs (bI [iW,cT]) G fJ (bH m Q R) (au 10 ws):=by
 obtain⟨o,c,b,rfl,⟨hp,Lw,P,la,lb,⟨bn,Vk⟩,⟨bm,TL⟩⟩,q⟩:=h;show wSs _ _ fJ _ [some (wI o),some (wI c),some (.int b),none,none,none,none,none,none,none];have K:0<b:=by have:=hp.1;lia
 have TL:c.getD (c.length -1) 0≠0:=TL.resolve_left λz=>by rw[z]at P;cases P
 unfold fJ wI;fin2;have eR:(if(0:Int)>((o.map W.int).length:Int) -((c.map W.int).length:Int)+1 then(0:Int)else((o.map W.int).length:Int) -((c.map W.int).length:Int)+1)=((o.length+1 -c.length:Nat):Int):=by rw[AN,AN];split<;>lia
 rw[eR];have bL:=cL K bm (c.length -1);have eL:=G9 P;have Vl:(c.map W.int).length=c.length:=AN _;generalize hl:c.getD (c.length -1) 0=l at*;generalize Z:o.length+1 -c.length=a at*;refine⟨_,eL,l,b,rfl,⟨hp,Lw,by lia,bL.2⟩,λu Vm Vn Vo=>?_⟩;fin2;rw[G2,cS,BP];refine⟨aj (by simp),by lia,by lia,aj (by simp;lia),?_⟩;refine yV (by lia) ?_;fin2;refine bT (λs ε=>∃(R:List Int)(B C:Nat->Int)(v7 v8 H:Option W),(pF b o c C R/\R.length=o.length -s/\(∀x∈R,0<=x/\x<b)/\(∀i,i<a->a -s<=i->C i=B i)/\(∀i,0<=B i/\B i<b)/\(∀i,(i<a -s\/a<=i)->C i=0)/\(0<s->b∣B (a -1)*l -o.getD (o.length -1) 0)/\(s=0->R=o))/\ε=[some (.lst (o.map W.int)),some (.lst (c.map W.int)),some (.int b),some (.int a),some (.int u),some (.lst (R.map W.int)),some (.lst ((tabI a B).map W.int)),v7,v8,H]) ?_ ?_ ?_
 .exact⟨o,λ_=>0,λ_=>0,_,_,_,⟨pF.start b o c,by lia,bn,λi U h2=>rfl,λ_=>⟨Int.le_refl _,K⟩,λ_ _=>rfl,λh=>by lia,λ_=>rfl⟩,rfl⟩
 .rintro s w _ N1 hw ⟨R,J,C,v7,v8,H,⟨dv,lR,bR,N,T,hz,M,u5⟩,rfl⟩ gw;obtain⟨B,rfl⟩:=Fg hw;rw[show((a:Nat):Int) -1 -(s:Int)=((a -1 -s:Nat):Int) by lia];generalize hpp:a -1 -s=p at*;have I:a=p+s+1:=by lia
  obtain⟨d,t⟩:∃d,c.length=d+1:=⟨_,(Nat.succ_pred_eq_of_pos P).symm⟩;have hn:o.length=p+d+(s+1):=by lia
  clear hpp Z;have e1:a -s=p+1:=by rw[I,VY,Kt]
  have e2:a -(s+1)=p:=by rw[I];exact Kt p (s+1)
  have em:p+c.length -1=p+d:=by rw[t];rfl
  have Qw:R.length=p+c.length:=by rw[lR,hn,t,<-Nat.add_assoc,VY,Kt];rfl
  obtain⟨r,x,rfl⟩:=Fi (R:=R) (by rw[Qw,t];exact Nat.succ_pos _);have Y:r.length=p+d:=by rw[Fm,t]at Qw;exact Sd Qw
  have ex:(r++[x]).getD (p+d) 0=x:=by rw[AC,Kb (WA Y),Y,R0];rfl
  have eg:∀k,k<p+d->(r++[x]).getD k 0=r.getD k 0:=λk A=>by rw[AC,NA (by rw[Y];exact A),<-AC]
  have bx:=bR x (Fk _ (DL.mpr rfl));have Vp:∀y∈r,0<=y/\y<b:=λy L=>bR y (N0 _ L);fin2;refine⟨_,pop_at,?_⟩;rw[Lv];fin2;refine⟨f7 Lw bx ⟨Vm,Vn⟩,by lia,?_⟩;rw[Ki _ (by lia)];have h0:0<=x*u%b:=Pl _ (by lia);have Qi:x*u%b<b:=Nw _ K;have hh:b∣(x*u%b)*l -x:=by
   obtain⟨k,A⟩:=Vo;have e:=Os (x*u) b;refine⟨x*k -(x*u/b)*l,?_⟩;have:x*u%b=x*u -b*(x*u/b):=by lia
   rw[this];have e2:u*l=1+b*k:=by lia
   grind
  generalize x*u%b=h at*;refine⟨p,mE (by rw[AN,bE,I];exact Vd (XF _ _)),?_⟩;have et:=mG (n:=a) (f:=J) (g:=λk=>if k=p then h else J k) (k:=p) (by rw[I];exact Vd (XF _ _)) (λj _ hj=>Bi hj);rw[Bz rfl]at et;rw[<-XN,et,Vl];refine⟨by lia,by lia,?_⟩;rw[show((c.length:Int) -1).toNat=d by rw[t];lia];refine bT (λj ε=>∃H:Option W,ε=[some (.lst (o.map W.int)),some (.lst (c.map W.int)),some (.int b),some (.int a),some (.int u),some (.lst ((tabI (p+d) λk=>if p<=k/\k<p+j then(r.getD k 0 -h*c.getD (k -p) 0)%b else r.getD k 0).map W.int)),some (.lst ((tabI a λk=>if k=p then h else J k).map W.int)),some (.int p),some (.int h),H]) ⟨H,?_⟩ ?_ ?_
  .rw[BO (n:=p+d) (f:=λk=>if p<=k/\k<p+0 then(r.getD k 0 -h*c.getD (k -p) 0)%b else r.getD k 0) λk _=>Bi (show¬(p<=k/\k<p+0)from λz=>Mo _ (HI z.2 z.1)),<-yU r Y]
  .rintro j w _ N2 t9 ⟨H,rfl⟩ qW;obtain⟨hj,rfl⟩:=mD t9;have ix:p+j<p+d:=Nat.add_lt_add_left hj p;fin2;rw[show(p:Int)+(j:Int)=((p+j:Nat):Int) by lia];refine⟨_,bq (by rw[FK,gr ix];rfl),?_⟩;rw[Bi (show¬(p<=p+j/\p+j<p+j)from λz=>Mo _ z.2)];refine⟨_,bq (int_at (by rw[t];exact QQ hj)),?_⟩;fin2;refine⟨f7 Lw ⟨h0,Qi⟩ (cL K bm j),by lia,?_⟩;rw[Ki _ (by lia)];refine⟨p+j,mE (by rw[AN,bE];exact ix),qW _ ⟨some (.int j),?_⟩⟩;have e:=mG (n:=p+d) (f:=λk=>if p<=k/\k<p+j then(r.getD k 0 -h*c.getD (k -p) 0)%b else r.getD k 0) (g:=λk=>if p<=k/\k<p+(j+1)then(r.getD k 0 -h*c.getD (k -p) 0)%b else r.getD k 0) ix (λk _ A=>by
    by_cases v:p<=k/\k<p+j
    .rw[Bz v,Bz ⟨v.1,QQ v.2⟩]
    .rw[Bi v,Bi λz=>v ⟨z.1,WH (Nat.le_of_lt_succ z.2) A⟩])
   rw[Bz ⟨XF _ _,W8 _⟩,Sw]at e;rw[<-e,XN]
  .rintro _ ⟨H,rfl⟩;rw[Lu];have mm:∀y:Int,b∣y%b -y:=λy=>⟨-(y/b),by have:=Os y b;lia⟩;refine gw _ ⟨_,λk=>if k=p then h else J k,λi=>C i+if i=p then h else 0,_,_,_,⟨dv.step (R':=tabI (p+d) λk=>if p<=k/\k<p+d then(r.getD k 0 -h*c.getD (k -p) 0)%b else r.getD k 0) P hl.symm Qw (by rw[bE,em]) (by rw[em,ex];exact hh) (λk A=>?_),by rw[bE,hn,Kt],λy L=>?_,λi U h2=>?_,λi=>?_,λi S=>?_,λ_=>?_,λz=>by cases z⟩,rfl⟩
   .rw[em]at A;rw[mH A,eg k A];by_cases E:p<=k
    .rw[Bz ⟨E,A⟩,Bz E];exact mm _
    .rw[Bi λz=>E z.1,Bi E,X0,Xo];exact Uc _
   .obtain⟨k,A,rfl⟩:=tK L;split
    .exact⟨Pl _ (by lia),Nw _ K⟩
    .exact cL K Vp k
   .show C i+(if i=p then h else 0)=if i=p then h else J i
    by_cases O:i=p
    .rw[Bz O,Bz O,hz i (.inl (by rw[O,e1];exact W8 _)),Wp]
    .rw[Bi O,Bi O,N i U (by rw[e1];rw[e2]at h2;exact WH h2 (NM O)),Tb]
   .show 0<=(if i=p then h else J i)/\(if i=p then h else J i)<b;split
    .exact⟨h0,Qi⟩
    .exact T i
   .show C i+(if i=p then h else 0)=0;rw[e2,I]at S;rw[Bi (by clear dv N T hz M u5;lia),hz i (by rw[e1,I];clear dv N T hz M u5;lia),Tb]
   .show b∣(if a -1=p then h else J (a -1))*l -_;by_cases D:s=0
    .have e:=u5 D;rw[Bz (by rw[I,D];rfl),<-e,Fm];show b∣h*l -(r++[x]).getD (r.length+1 -1) 0;rw[Kt,Y,ex];exact hh
    .rw[Bi λz=>D (by rw[I]at z;exact Nat.add_left_cancel (show p+s=p+0 from z))];exact M (Nat.pos_of_ne_zero D)
 .rintro _ ⟨R,B,C,v7,v8,H,⟨dv,lR,bR,N,T,hz,M,_⟩,rfl⟩;rw[Lu]at lR N hz M;fin2;refine⟨R,rfl,λts tr=>⟨aj (by simp),?_⟩⟩;have tl:=kP tr;have Vq:∀i,C i=(tabI a B).getD i 0:=λi=>by
   rw[Ff];by_cases S:i<a
   .rw[Bz S,N i S (by lia)]
   .rw[Bi S,hz i (by lia)]
  refine q (tabI a B) ts ⟨by rw[bE];exact Z.symm,by lia,λk=>?_,⟨λy L=>?_,?_⟩,λy L=>bR y (tr.mem y L),tr.last⟩
  .have:=dv k;rw[show C=λi=>(tabI a B).getD i 0 from funext Vq]at this;rw[pC tr];exact this
  .obtain⟨k,A,rfl⟩:=tK L;exact T k
  .by_cases hr0:a=0
   .left;rw[hr0];rfl
   .right;rw[bE,mH (by lia)];intro z;have U:=M (by lia);rw[z,SC,Xn]at U;have nn:o.getD (o.length -1) 0≠0:=by
     rcases Vk with e|e
     .rw[e]at Z;simp only[ML]at Z;lia
     .exact e
    have bb:=cL K bn (o.length -1);have:=UF (by lia) (XZ.mp U);lia
end VL
namespace Alg
open Lean.Grind
local instance {R : Type} [Gv R] : NatCast R := F1
local instance {R : Type} [IU R] : IntCast R := F2
section
variable{R:Type}[CommRing R]
noncomputable def sR(f:Nat->R):Nat->R
 |0=>0
 |n+1=>sR f n+f n
theorem gW{f g:Nat->R}:∀n,(∀i,i<n->f i=g i)->sR f n=sR g n
 |0,_=>rfl
 |n+1,h=>by show sR f n+f n=sR g n+g n;rw[gW n λi a=>h i (by lia),h n (by lia)]
theorem u6(f g:Nat->R):∀n,sR (λi=>f i+g i) n=sR f n+sR g n
 |0=>by show(0:R)=0+0;grind
 |n+1=>by show sR _ n+(f n+g n)=(sR f n+f n)+(sR g n+g n);rw[u6 f g n];grind
theorem qq(c:R)(f:Nat->R):∀n,sR (λi=>c*f i) n=c*sR f n
 |0=>by show(0:R)=c*0;grind
 |n+1=>by show sR _ n+c*f n=c*(sR f n+f n);rw[qq c f n];grind
theorem iX(f:Nat->R):∀n,sR f (n+1)=f 0+sR (λi=>f (i+1)) n
 |0=>by show(0:R)+f 0=f 0+0;grind
 |n+1=>by show sR f (n+1)+f (n+1)=f 0+(sR (λi=>f (i+1)) n+f (n+1));rw[iX f n];grind
theorem qt{f:Nat->R}:∀n,(∀i,i<n->f i=0)->sR f n=0
 |0,_=>rfl
 |n+1,h=>by show sR f n+f n=0;rw[qt n λi a=>h i (by lia),h n (by lia)];grind
end
noncomputable def bin:Nat->Nat->Nat
 |_,0=>1
 |0,_+1=>0
 |n+1,k+1=>bin n k+bin n (k+1)
theorem iY:∀{n k:Nat},n<k->bin n k=0
 |0,_+1,_=>rfl
 |n+1,0,h=>by cases h
 |n+1,k+1,h=>by show bin n k+bin n (k+1)=0;rw[iY (n:=n) (k:=k) (by lia),iY (n:=n) (k:=k+1) (by lia)]
theorem tL:∀n,bin n n=1
 |0=>rfl
 |n+1=>by show bin n n+bin n (n+1)=1;rw[tL n,iY (W8 n)]
theorem ko:∀n k,(k+1)*bin (n+1) (k+1)=(n+1)*bin n k
 |0,0=>rfl
 |0,k+1=>by show(k+2)*(bin 0 (k+1)+bin 0 (k+2))=1*bin 0 (k+1);rfl
 |n+1,0=>by
  have:=ko n 0;show 1*(bin (n+1) 0+bin (n+1) 1)=(n+2)*bin (n+1) 0;have e:bin (n+1) 0=1:=by cases n<;>rfl
  have g:bin n 0=1:=by cases n<;>rfl
  rw[g]at this;rw[e];show 1*(1+bin (n+1) (0+1))=(n+2)*1;lia
 |n+1,k+1=>by
  have f:=ko n k;have d:=ko n (k+1);show(k+2)*(bin (n+1) (k+1)+bin (n+1) (k+2))=(n+2)*bin (n+1) (k+1);have e:bin (n+1) (k+1)=bin n k+bin n (k+1):=rfl;have c:(k+2)*bin (n+1) (k+2)=(n+1)*bin n (k+1):=d;rw[Xw,c];have b:(k+2)*bin (n+1) (k+1)=(k+1)*bin (n+1) (k+1)+bin (n+1) (k+1):=by rw[<-Qk]
  rw[b,f];have a:(n+2)*bin (n+1) (k+1)=(n+1)*bin (n+1) (k+1)+bin (n+1) (k+1):=by rw[<-Qk]
  rw[a,e,Xw];lia
section
variable{R:Type}[CommRing R]
theorem aH(a:R)(n:Nat):a^(n+1)=a^n*a:=Semiring.pow_succ a n
theorem wW(a b:R):∀n,(a+b)^n=sR (λk=>((bin n k:Nat):R)*(a^k*b^(n -k))) (n+1)
 |0=>by show(a+b)^0=0+((1:Nat):R)*(a^0*b^0);rw[Semiring.pow_zero,Semiring.pow_zero,Semiring.pow_zero];have:((1:Nat):R)=1:=Semiring.natCast_one;rw[this];grind
 |n+1=>by
  rw[aH,wW a b n];have j:bin (n+1) 0=1:=rfl;have h:sR (λk=>((bin (n+1) k:Nat):R)*(a^k*b^(n+1 -k))) (n+2)=b*sR (λk=>((bin n k:Nat):R)*(a^k*b^(n -k))) (n+1)+a*sR (λk=>((bin n k:Nat):R)*(a^k*b^(n -k))) (n+1):=by
   rw[iX,<-qq a,<-qq b];have e:sR (λk=>((bin (n+1) (k+1):Nat):R)*(a^(k+1)*b^(n+1 -(k+1)))) (n+1)=sR (λk=>a*(((bin n k:Nat):R)*(a^k*b^(n -k)))) (n+1)+sR (λk=>((bin n (k+1):Nat):R)*(a^(k+1)*b^(n -k))) (n+1):=by rw[<-u6];refine gW _ λi _=>?_;show(((bin n i+bin n (i+1):Nat)):R)*(a^(i+1)*b^(n+1 -(i+1)))=_;rw[Semiring.natCast_add,Nat.add_sub_add_right,aH];grind
   have d:sR (λk=>b*(((bin n k:Nat):R)*(a^k*b^(n -k)))) (n+1)=((bin n 0:Nat):R)*(a^0*b^(n+1))+sR (λk=>((bin n (k+1):Nat):R)*(a^(k+1)*b^(n -k))) n:=by
    rw[iX];have:sR (λi=>b*(((bin n (i+1):Nat):R)*(a^(i+1)*b^(n -(i+1))))) n=sR (λk=>((bin n (k+1):Nat):R)*(a^(k+1)*b^(n -k))) n:=gW _ λi g=>by rw[show n -i=(n -(i+1))+1 by lia,aH b];grind
    rw[this,Qq,aH b];grind
   have c:sR (λk=>((bin n (k+1):Nat):R)*(a^(k+1)*b^(n -k))) (n+1)=sR (λk=>((bin n (k+1):Nat):R)*(a^(k+1)*b^(n -k))) n:=by show _+((bin n (n+1):Nat):R)*_=_;rw[iY (W8 n)];have:((0:Nat):R)=0:=Semiring.natCast_zero;rw[this];grind
   have f:bin n 0=1:=by cases n<;>rfl
   rw[e,d,c,f,Qq];show((1:Nat):R)*_+_=_;grind
  show _=sR _ (n+2);rw[h];grind
theorem R9{p:Nat}(e:Num.af p)(g:((p:Nat):R)=0)(a b:R):(a+b)^p=a^p+b^p:=by
 have k:2<=p:=by have:=e.1;lia
 obtain⟨n,rfl⟩:∃n,p=n+1:=⟨p -1,by lia⟩;rw[wW,iX];show _+(sR _ n+_)=_;rw[qt n λi l=>?_]
 .dsimp only;rw[tL];have j:bin (n+1) 0=1:=rfl;have h:((1:Nat):R)=1:=Semiring.natCast_one;rw[j,h,Qq,R0,Semiring.pow_zero,Semiring.pow_zero];grind
 .have m:=ko n i;have d:((n+1:Nat):Int)∣((i+1:Nat):Int)*(bin (n+1) (i+1):Nat):=⟨(bin n i:Nat),by exact_mod_cast m⟩;have d:((n+1:Nat):Int)∣(bin (n+1) (i+1):Nat):=(Num.rS e d).resolve_left λz=>by have:=UF (by lia) z;lia
  obtain⟨c,f⟩:=Int.natCast_dvd_natCast.mp d;rw[f,Semiring.natCast_mul,g];grind
end
local instance {R : Type} [Gv R] : NatCast R := F1
local instance {R : Type} [IU R] : IntCast R := F2
section
variable{R:Type}[CommRing R]
theorem pow_mul(a:R)(m:Nat):∀n,a^(m*n)=(a^m)^n
 |0=>by rw[Nat.mul_zero,Semiring.pow_zero,Semiring.pow_zero]
 |n+1=>by rw[Nat.mul_succ,aH,<-pow_mul a m n,Semiring.pow_add]
theorem one_pow:∀n:Nat,(1:R)^n=1
 |0=>Semiring.pow_zero _
 |n+1=>by rw[aH,one_pow n];grind
theorem zero_pow:∀{n:Nat},0<n->(0:R)^n=0
 |n+1,_=>by rw[aH];grind
theorem mul_pow(a b:R):∀n:Nat,(a*b)^n=a^n*b^n
 |0=>by rw[Semiring.pow_zero,Semiring.pow_zero,Semiring.pow_zero];grind
 |n+1=>by rw[aH,aH,aH,mul_pow a b n];grind
structure j4(R:Type)[CommRing R](p:Nat):Prop where
 pr:Num.af p
 z:((p:Nat):R)=0
theorem j4.pos{p:Nat}(h:j4 R p):0<p:=by have:=h.pr.1;lia
theorem j4.fr{p:Nat}(h:j4 R p)(a b:R):∀j,(a+b)^(p^j)=a^(p^j)+b^(p^j)
 |0=>by rw[Nf];grind
 |j+1=>by rw[NY,pow_mul,pow_mul,pow_mul,h.fr a b j,R9 h.pr h.z]
theorem j4.pp{p:Nat}(h:j4 R p)(j:Nat):0<p^j:=Uo h.pos
theorem j4.sub{p:Nat}(h:j4 R p)(a b:R)(j:Nat):(a -b)^(p^j)=a^(p^j) -b^(p^j):=by have:=h.fr (a -b) b j;rw[show a -b+b=a by grind]at this;grind
theorem j4.nat{p:Nat}(h:j4 R p)(j:Nat):∀n:Nat,((n:Nat):R)^(p^j)=(n:Nat)
 |0=>by have e:((0:Nat):R)=0:=Semiring.natCast_zero;rw[e,zero_pow (h.pp j)]
 |n+1=>by have e:((1:Nat):R)=1:=Semiring.natCast_one;rw[Semiring.natCast_add,h.fr,h.nat j n,e,one_pow]
theorem j4.mod{p:Nat}(h:j4 R p)(z:Int):∃n:Nat,n<p/\((z:Int):R)=(n:Nat):=by
 have d:=h.pos;refine⟨(z%p).toNat,?_,?_⟩
 .have:=Nw z (show(0:Int)<p by lia);have:=Pl z (show(p:Int)≠0 by lia);lia
 .have e:z=p*(z/p)+((z%p).toNat:Int):=by have:=Pl z (show(p:Int)≠0 by lia);have:=Os z p;lia
  have c:((z:Int):R)=(((p:Int)*(z/p)+((z%p).toNat:Int):Int):R):=GM (λz:Int=>((z:Int):R)) e;rw[c,Ring.intCast_add,Ring.intCast_mul];have b:(((p:Nat):Int):R)=((p:Nat):R):=Ring.intCast_natCast p;have a:((((z%p).toNat:Nat):Int):R)=(((z%p).toNat:Nat):R):=Ring.intCast_natCast _;rw[b,a,h.z];grind
theorem j4.int{p:Nat}(h:j4 R p)(j:Nat)(z:Int):((z:Int):R)^(p^j)=(z:Int):=by obtain⟨n,_,e⟩:=h.mod z;rw[e,h.nat]
noncomputable def BR(x:R):List Int->R
 |[]=>0
 |c::l=>((c:Int):R)+x*BR x l
theorem j4.ev{p:Nat}(h:j4 R p)(j:Nat)(x:R):∀l:List Int,BR x l^(p^j)=BR (x^(p^j)) l
 |[]=>zero_pow (h.pp j)
 |c::l=>by show(((c:Int):R)+x*BR x l)^(p^j)=((c:Int):R)+x^(p^j)*BR (x^(p^j)) l;rw[h.fr,h.int,mul_pow,h.ev j x l]
noncomputable def g9(x:R):List R->R
 |[]=>0
 |c::l=>c+x*g9 x l
noncomputable def Fl(t:R):R->List R->List R
 |_,[]=>[]
 |_,s::c=>g9 t (s::c)::Fl t s c
theorem wX(t:R):∀(b:List R)(r:R),(Fl t r b).length=b.length
 |[],_=>rfl
 |s::c,_=>GM (·+1) (wX t c s)
theorem BS(t x:R):∀(b:List R)(r:R),g9 x (r::b) -g9 t (r::b)=(x -t)*g9 x (Fl t r b)
 |[],r=>by show r+x*0 -(r+t*0)=(x -t)*0;grind
 |s::c,r=>by
  have ih:=BS t x c s;show r+x*g9 x (s::c) -(r+t*g9 t (s::c))=(x -t)*(g9 t (s::c)+x*g9 x (Fl t s c));generalize g9 x (s::c)=u at*;generalize g9 t (s::c)=v at*;have:(x -t)*(v+x*g9 x (Fl t s c))=(x -t)*v+x*((x -t)*g9 x (Fl t s c)):=by grind
  rw[this,<-ih];grind
theorem tM{t:R}:∀(b:List R)(r:R),g9 t (r::b)=0->(∀z∈Fl t r b,z=0)->∀z∈r::b,z=0
 |[],r,h,_,z,hz=>by
  rw[DL.mp hz];have e:g9 t [r]=r:=by show r+t*0=r;grind
  rw[e]at h;exact h
 |s::c,r,h,d,z,hz=>by
  have a:=d _ Da;rcases FV.mp hz with rfl|hz
  .have e:g9 t (z::s::c)=z+t*g9 t (s::c):=rfl;rw[e,a]at h;grind
  .exact tM c s a (λz hz=>d z (Dx _ hz)) z hz
noncomputable def O6(R:Type)[CommRing R]:Prop:=∀a b:R,a*b=0->a=0\/b=0
theorem jC(i:O6 R):∀(a l:List R),a.Pairwise (·≠·)->(∀r∈a,g9 r l=0)->l.length<=a.length->∀c∈l,c=0
 |_,[],_,_,_,c,f=>by cases f
 |[],r::l,_,_,g,c,f=>by cases g
 |t::a,r::b,k,h,g,c,f=>by
  have h0:=h t Da;have d:=WI.mp k;refine tM b r h0 (jC i a (Fl t r b) d.2 (λx j=>?_) (by rw[wX];simpa using g)) c f;have e:=BS t x b r;rw[h0,h x (Dx _ j)]at e;rcases i _ _ (show(x -t)*g9 x (Fl t r b)=0 by grind)with z|z
  .exact absurd (show t=x by grind) (d.1 x j)
  .exact z
structure O7(R:Type)[CommRing R]where
 mem:R->Prop
 zero:mem 0
 add:∀{a b:R},mem a->mem b->mem (a+b)
 mul:∀(c:R){a:R},mem a->mem (c*a)
variable(I:O7 R)
theorem O7.neg{a:R}(h:I.mem a):I.mem (-a):=by have:=I.mul (-1) h;rw[show-1*a= -a by grind]at this;exact this
noncomputable def O7.st:Setoid R:=⟨λa b=>I.mem (a -b),λa=>by rw[show a -a=0 by grind];exact I.zero,λ{a b} h=>by rw[show b -a= -(a -b) by grind];exact I.neg h,λ{a b c} h k=>by rw[show a -c=(a -b)+(b -c) by grind];exact I.add h k⟩
noncomputable def Qt:Type:=Quotient I.st
noncomputable def Qt.mk(a:R):Qt I:=Quotient.mk I.st a
variable{I}
theorem Qt.eq{a b:R}:Qt.mk I a=Qt.mk I b↔I.mem (a -b):=⟨λh=>Quotient.exact h,λh=>Quotient.sound h⟩
theorem Qt.ex(q:Qt I):∃a,q=Qt.mk I a:=⟨_,(Quotient.exists_rep q).choose_spec.symm⟩
noncomputable def Qt.Sa(f:R->R->R)(h:∀a b c d,I.mem (a -c)->I.mem (b -d)->I.mem (f a b -f c d))(x y:Qt I):Qt I:=Quotient.lift₂ (λa b=>Qt.mk I (f a b)) (λa b c d g e=>Qt.eq.mpr (h a b c d g e)) x y
instance:Add (Qt I):=⟨Qt.Sa (·+·) λa b c d h k=>by rw[show a+b -(c+d)=(a -c)+(b -d) by grind];exact I.add h k⟩
instance:Mul (Qt I):=⟨Qt.Sa (·*·) λa b c d h k=>by rw[show a*b -c*d=b*(a -c)+c*(b -d) by grind];exact I.add (I.mul _ h) (I.mul _ k)⟩
instance:Sub (Qt I):=⟨Qt.Sa (· -·) λa b c d h k=>by rw[show a -b -(c -d)=(a -c)+ -(b -d) by grind];exact I.add h (I.neg k)⟩
instance:Neg (Qt I):=⟨λx=>VX (λa=>Qt.mk I (-a)) (λa b h=>Qt.eq.mpr (by rw[show-a - -b= -(a -b) by grind];exact I.neg h)) x⟩
instance:NatCast (Qt I):=⟨λn=>Qt.mk I (n:Nat)⟩
instance:IntCast (Qt I):=⟨λn=>Qt.mk I (n:Int)⟩
instance(n:Nat):OfNat (Qt I) n:=⟨Qt.mk I (OfNat.ofNat n)⟩
instance:SMul Nat (Qt I):=⟨λn a=>(n:Nat)*a⟩
instance:SMul Int (Qt I):=⟨λn a=>(n:Int)*a⟩
noncomputable def Qt.pw(a:Qt I):Nat->Qt I
 |0=>1
 |n+1=>Qt.pw a n*a
instance:HPow (Qt I) Nat (Qt I):=⟨Qt.pw⟩
instance:CommRing (Qt I)where
 add_zero:=λa=>by obtain⟨a,rfl⟩:=a.ex;exact GM (Qt.mk I) (show a+0=a by grind)
 add_comm:=λa b=>by obtain⟨a,rfl⟩:=a.ex;obtain⟨b,rfl⟩:=b.ex;exact GM (Qt.mk I) (show a+b=b+a by grind)
 add_assoc:=λa b c=>by obtain⟨a,rfl⟩:=a.ex;obtain⟨b,rfl⟩:=b.ex;obtain⟨c,rfl⟩:=c.ex;exact GM (Qt.mk I) (show a+b+c=a+(b+c) by grind)
 mul_assoc:=λa b c=>by obtain⟨a,rfl⟩:=a.ex;obtain⟨b,rfl⟩:=b.ex;obtain⟨c,rfl⟩:=c.ex;exact GM (Qt.mk I) (show a*b*c=a*(b*c) by grind)
 mul_one:=λa=>by obtain⟨a,rfl⟩:=a.ex;exact GM (Qt.mk I) (show a*1=a by grind)
 one_mul:=λa=>by obtain⟨a,rfl⟩:=a.ex;exact GM (Qt.mk I) (show 1*a=a by grind)
 left_distrib:=λa b c=>by obtain⟨a,rfl⟩:=a.ex;obtain⟨b,rfl⟩:=b.ex;obtain⟨c,rfl⟩:=c.ex;exact GM (Qt.mk I) (show a*(b+c)=a*b+a*c by grind)
 right_distrib:=λa b c=>by obtain⟨a,rfl⟩:=a.ex;obtain⟨b,rfl⟩:=b.ex;obtain⟨c,rfl⟩:=c.ex;exact GM (Qt.mk I) (show(a+b)*c=a*c+b*c by grind)
 zero_mul:=λa=>by obtain⟨a,rfl⟩:=a.ex;exact GM (Qt.mk I) (show 0*a=0 by grind)
 mul_zero:=λa=>by obtain⟨a,rfl⟩:=a.ex;exact GM (Qt.mk I) (show a*0=0 by grind)
 pow_zero:=λa=>rfl
 pow_succ:=λa n=>rfl
 ofNat_succ:=λn=>GM (Qt.mk I) (Semiring.ofNat_succ n)
 ofNat_eq_natCast:=λn=>GM (Qt.mk I) (Semiring.ofNat_eq_natCast n)
 nsmul_eq_natCast_mul:=λn a=>rfl
 neg_add_cancel:=λa=>by obtain⟨a,rfl⟩:=a.ex;exact GM (Qt.mk I) (show-a+a=0 by grind)
 sub_eq_add_neg:=λa b=>by obtain⟨a,rfl⟩:=a.ex;obtain⟨b,rfl⟩:=b.ex;exact GM (Qt.mk I) (show a -b=a+ -b by grind)
 neg_zsmul:=λi a=>by obtain⟨a,rfl⟩:=a.ex;exact GM (Qt.mk I) (show((-i:Int):R)*a= -(((i:Int):R)*a) by rw[Ring.intCast_neg];grind)
 zsmul_natCast_eq_nsmul:=λn a=>by obtain⟨a,rfl⟩:=a.ex;exact GM (Qt.mk I) (show(((n:Nat):Int):R)*a=((n:Nat):R)*a by rw[Ring.intCast_natCast])
 intCast_ofNat:=λn=>GM (Qt.mk I) (Ring.intCast_ofNat n)
 intCast_neg:=λi=>GM (Qt.mk I) (Ring.intCast_neg i)
 mul_comm:=λa b=>by obtain⟨a,rfl⟩:=a.ex;obtain⟨b,rfl⟩:=b.ex;exact GM (Qt.mk I) (show a*b=b*a by grind)
end
end Alg
namespace Alg
open Lean.Grind Num Sub
local instance {R : Type} [Gv R] : NatCast R := F1
local instance {R : Type} [IU R] : IntCast R := F2
structure Po where
 c:Nat->Int
 f:∃n,∀i,n<=i->c i=0
noncomputable def BU(c:Int):Nat->Int:=λi=>if i=0 then c else 0
noncomputable def cst(c:Int):Po:=⟨BU c,1,λi a=>Bi (by lia)⟩
theorem Po.ext{a b:Po}(h:∀i,a.1 i=b.1 i):a=b:=by
 cases a;cases b;cases(funext h);rfl
theorem BV(c:Int)(f:Nat->Int)(k:Nat):cg (BU c) f k=c*f k:=by
 cases k with
 |zero=>exact cH _ _
 |succ k=>rw[eG,gh (f:=λi=>BU c (i+1)) (f':=λi=>0*BU c i) (λi=>by rw[SC];exact Bi (by lia)) (λ_=>rfl),iD];show c*f (k+1)+0*_=_;lia
instance:Add Po:=⟨λa b=>⟨λi=>a.1 i+b.1 i,by obtain⟨n,h⟩:=a.2;obtain⟨m,k⟩:=b.2;exact⟨n+m,λi hi=>by show a.1 i+b.1 i=0;rw[h i (by lia),k i (by lia)];rfl⟩⟩⟩
instance:Mul Po:=⟨λa b=>⟨cg a.1 b.1,by obtain⟨n,h⟩:=a.2;obtain⟨m,k⟩:=b.2;exact⟨n+m,λi hi=>pG h k (by lia)⟩⟩⟩
instance:Neg Po:=⟨λa=>⟨λi=> -a.1 i,by obtain⟨n,h⟩:=a.2;exact⟨n,λi hi=>by show-a.1 i=0;rw[h i hi];rfl⟩⟩⟩
instance:Sub Po:=⟨λa b=>a+ -b⟩
instance:NatCast Po:=⟨λn=>cst n⟩
instance:IntCast Po:=⟨cst⟩
instance(n:Nat):OfNat Po n:=⟨cst n⟩
instance:SMul Nat Po:=⟨λn a=>cst n*a⟩
instance:SMul Int Po:=⟨λn a=>cst n*a⟩
noncomputable def Po.pw(a:Po):Nat->Po
 |0=>cst 1
 |n+1=>Po.pw a n*a
instance:HPow Po Nat Po:=⟨Po.pw⟩
theorem Po.mulC(a b:Po):a*b=b*a:=Po.ext λk=>eE _ _ k
theorem Po.qu(c:Int)(a:Po)(i:Nat):(cst c*a).1 i=c*a.1 i:=BV c a.1 i
instance:CommRing Po where
 add_zero:=λa=>Po.ext λi=>by show a.1 i+(if i=0 then 0 else 0)=a.1 i;split<;>lia
 add_comm:=λa b=>Po.ext λi=>Int.add_comm _ _
 add_assoc:=λa b c=>Po.ext λi=>Int.add_assoc _ _ _
 mul_assoc:=λa b c=>Po.ext λi=>nY b.1 c.1 i a.1
 mul_one:=λa=>by rw[Po.mulC];exact Po.ext λi=>by rw[show(1:Po)=cst 1 from rfl,Po.qu,XY]
 one_mul:=λa=>Po.ext λi=>by rw[show(1:Po)=cst 1 from rfl,Po.qu,XY]
 left_distrib:=λa b c=>Po.ext λi=>z9 a.1 b.1 c.1 i
 right_distrib:=λa b c=>Po.ext λi=>kQ a.1 b.1 c.1 i
 zero_mul:=λa=>Po.ext λi=>by rw[show(0:Po)=cst 0 from rfl,Po.qu,SC];show 0=if i=0 then(0:Int)else 0;split<;>rfl
 mul_zero:=λa=>by rw[Po.mulC];exact Po.ext λi=>by rw[show(0:Po)=cst 0 from rfl,Po.qu,SC];show 0=if i=0 then(0:Int)else 0;split<;>rfl
 pow_zero:=λa=>rfl
 pow_succ:=λa n=>rfl
 ofNat_succ:=λn=>Po.ext λi=>by show(if i=0 then((n+1:Nat):Int)else 0)=(if i=0 then(n:Int)else 0)+(if i=0 then 1 else 0);split<;>lia
 ofNat_eq_natCast:=λn=>rfl
 nsmul_eq_natCast_mul:=λn a=>rfl
 neg_add_cancel:=λa=>Po.ext λi=>by show-a.1 i+a.1 i=if i=0 then 0 else 0;split<;>lia
 sub_eq_add_neg:=λa b=>rfl
 neg_zsmul:=λi a=>Po.ext λk=>by show(cst (-i)*a).1 k= -(cst i*a).1 k;rw[Po.qu,Po.qu,V4]
 zsmul_natCast_eq_nsmul:=λn a=>rfl
 intCast_ofNat:=λn=>rfl
 intCast_neg:=λi=>Po.ext λk=>by show(if k=0 then-i else 0)= -(if k=0 then i else 0);split<;>lia
 mul_comm:=Po.mulC
noncomputable def c8(l:List Int):Po:=⟨co l,l.length,λi a=>outI a⟩
noncomputable def Ip(p:Nat):O7 Po:=⟨λf=>∀i,(p:Int)∣f.1 i,λi=>by show(p:Int)∣if i=0 then 0 else 0;split<;>exact⟨0,by lia⟩,λh k i=>SL (h i) (k i),λc {a} h i=>by show(p:Int)∣cg c.1 a.1 i;exact kR _ λj _=>UV (h _) ⟨_,SF _ _⟩⟩
abbrev F(p:Nat):Type:=Qt (Ip p)
variable{p:Nat}
noncomputable def fL(p:Nat)(l:List Int):F p:=Qt.mk (Ip p) (c8 l)
noncomputable def X:F p:=fL p [0,1]
theorem wY{l m:List Int}:fL p l=fL p m↔∀i,(p:Int)∣l.getD i 0 -m.getD i 0:=Qt.eq
theorem F.chr(a:af p):j4 (F p) p:=⟨a,Qt.eq.mpr λi=>by
 show(p:Int)∣(cst p).1 i+ -(cst 0).1 i;show(p:Int)∣(if i=0 then(p:Int)else 0)+ -(if i=0 then 0 else 0);split
 .exact⟨1,by lia⟩
 .exact⟨0,by lia⟩⟩
theorem aB(c:Int)(l:List Int):fL p (c::l)=((c:Int):F p)+X*fL p l:=by
 have:c8 (c::l)=cst c+c8 [0,1]*c8 l:=Po.ext λi=>by
  show(c::l).getD i 0=(if i=0 then c else 0)+cg (co [0,1]) (co l) i;cases i with
  |zero=>rw[cH];show c=c+0*_;lia
  |succ i=>rw[eG,gh (f:=λi=>co [0,1] (i+1)) (f':=BU 1) (λj=>by cases j<;>rfl) (λ_=>rfl),BV];show l.getD i 0=0+(0*_+1*l.getD i 0);lia
 exact GM (Qt.mk (Ip p)) this
theorem oF:∀l:List Int,BR (X:F p) l=fL p l
 |[]=>Qt.eq.mpr λi=>by show(p:Int)∣(cst 0).1 i+ -(co [] i);show(p:Int)∣(if i=0 then 0 else 0)+ -0;split<;>exact⟨0,by lia⟩
 |c::l=>by rw[aB,<-oF l];rfl
theorem BW(f:F p):∃l,f=fL p l:=by
 obtain⟨⟨g,n,h⟩,rfl⟩:=f.ex;refine⟨(Ea n).map g,GM (Qt.mk (Ip p)) (Po.ext λi=>?_)⟩;show g i=((Ea n).map g).getD i 0;rw[AC,FK];by_cases a:i<n
 .rw[PQ a];rfl
 .rw[FR (by rw[GE];lia),h i (by lia)];rfl
noncomputable def Dl(n:Nat)(f:F p):Prop:=VX (s:=(Ip p).st) (λg:Po=>∀i,n<=i->(p:Int)∣g.1 i) (λa b h=>propext ⟨λk i c=>by
    have:=h i;have e:(a -b).1 i=a.1 i+ -b.1 i:=rfl;rw[e]at this;have:=SV (k i c) this;rw[show a.1 i -(a.1 i+ -b.1 i)=b.1 i by lia]at this;exact this,λk i c=>by
    have:=h i;have e:(a -b).1 i=a.1 i+ -b.1 i:=rfl;rw[e]at this;have:=SL (k i c) this;rw[show b.1 i+(a.1 i+ -b.1 i)=a.1 i by lia]at this;exact this⟩) f
theorem Hg{n m:Nat}{f:F p}(h:Dl n f)(k:n<=m):Dl m f:=by obtain⟨g,rfl⟩:=f.ex;exact λi a=>h i (by lia)
theorem Lx(l:List Int):Dl l.length (fL p l):=λi a=>by show(p:Int)∣l.getD i 0;rw[outI a];exact⟨0,by lia⟩
theorem BX(f:F p):∃n,Dl n f:=by obtain⟨l,rfl⟩:=BW f;exact⟨_,Lx l⟩
theorem qv{f:F p}:Dl 0 f↔f=0:=by
 obtain⟨g,rfl⟩:=f.ex;refine⟨λh=>Qt.eq.mpr λi=>?_,λh i _=>?_⟩
 .show(p:Int)∣g.1 i+ -(if i=0 then 0 else 0);rw[show g.1 i+ -(if i=0 then(0:Int)else 0)=g.1 i by split<;>lia];exact h i (KE _)
 .have:=Qt.eq.mp h i;have e:(g -(0:Po)).1 i=g.1 i+ -(if i=0 then 0 else 0):=rfl;rw[e,show g.1 i+ -(if i=0 then(0:Int)else 0)=g.1 i by split<;>lia]at this;exact this
theorem Ly{n:Nat}{f g:F p}(h:Dl n f)(k:Dl n g):Dl n (f+g):=by obtain⟨f,rfl⟩:=f.ex;obtain⟨g,rfl⟩:=g.ex;exact λi a=>SL (h i a) (k i a)
theorem least{P:Nat->Prop}(h:∃n,P n):∃n,P n/\∀m,P m->n<=m:=by obtain⟨n,a,k⟩:=DE (P:=λi=>¬P i) (h.imp λ_ h k=>k h);exact⟨n,YB.mp a,λm b=>WU λz=>k m z b⟩
noncomputable def dg(f:F p):Nat:=(least (BX f)).choose
theorem eY(f:F p):Dl (dg f) f:=(least (BX f)).choose_spec.1
theorem mK{n:Nat}{f:F p}(h:Dl n f):dg f<=n:=(least (BX f)).choose_spec.2 n h
local instance {R : Type} [Gv R] : NatCast R := F1
local instance {R : Type} [IU R] : IntCast R := F2
variable{p:Nat}
theorem qw{g:Po}{n:Nat}(h:dg (Qt.mk (Ip p) g)=n+1):¬(p:Int)∣g.1 n:=λz=>by
 have d:=eY (Qt.mk (Ip p) g);rw[h]at d;have:Dl n (Qt.mk (Ip p) g):=λi a=>by
  by_cases e:i=n
  .rw[e];exact z
  .exact d i (by lia)
 have:=mK this;lia
theorem wZ{g:Po}{n:Nat}(h:Dl (n+1) (Qt.mk (Ip p) g))(k:¬(p:Int)∣g.1 n):dg (Qt.mk (Ip p) g)=n+1:=by
 have b:=mK h;have a:=eY (Qt.mk (Ip p) g);rcases Xk (dg (Qt.mk (Ip p) g)) (n+1)with z|z
 .exact absurd (a n (by lia)) k
 .lia
theorem bZ:dg (0:F p)=0:=Uu.mp (mK (qv.mpr rfl))
theorem bg{f:F p}:dg f=0↔f=0:=⟨λh=>qv.mp (h▸eY f),λh=>h▸bZ⟩
theorem Lz{f g:F p}{n:Nat}(h:dg f<=n)(k:dg g<=n):dg (f+g)<=n:=mK (Ly (Hg (eY f) h) (Hg (eY g) k))
theorem w4(r:af p){f g:F p}{n m:Nat}(h:dg f=n+1)(k:dg g=m+1):dg (f*g)=n+m+1:=by
 obtain⟨a,rfl⟩:=f.ex;obtain⟨b,rfl⟩:=g.ex;have o:=qw h;have l:=qw k;have d:=eY (Qt.mk (Ip p) a);have c:=eY (Qt.mk (Ip p) b);rw[h]at d;rw[k]at c;refine wZ (g:=a*b) (λi u=>?_) λz=>?_
 .show(p:Int)∣cg a.1 b.1 i;refine kR _ λj _=>?_;by_cases e:n+1<=j
  .exact UV (d j e) ⟨_,rfl⟩
  .exact UV (c (i -j) (by lia)) ⟨_,SF _ _⟩
 .have z:(p:Int)∣cg a.1 b.1 (n+m):=z;have q:cg a.1 b.1 (n+m)=a.1 n*b.1 m+sm (λj=>if j=n then 0 else a.1 j*b.1 (n+m -j)) (n+m+1):=by
   unfold cg;have t:∀j,a.1 j*b.1 (n+m -j)=(if j=n then a.1 j*b.1 (n+m -j)else 0)+(if j=n then 0 else a.1 j*b.1 (n+m -j)):=λj=>by
    by_cases z:j=n
    .rw[Bz z,Bz z,Tb]
    .rw[Bi z,Bi z,Wp]
   rw[cG (n+m+1) λj _=>t j,kO,pB n (λj=>a.1 j*b.1 (n+m -j)),Bz (by lia),show n+m -n=m by lia]
  have rest:(p:Int)∣sm (λj=>if j=n then 0 else a.1 j*b.1 (n+m -j)) (n+m+1):=kR _ λj _=>by
   by_cases e:j=n
   .rw[Bz e];exact⟨0,by lia⟩
   .rw[Bi e];by_cases s:n+1<=j
    .exact UV (d j s) ⟨_,rfl⟩
    .exact UV (c (n+m -j) (by lia)) ⟨_,SF _ _⟩
  have:=SV z rest;rw[q,show a.1 n*b.1 m+sm (λj=>if j=n then 0 else a.1 j*b.1 (n+m -j)) (n+m+1) -sm (λj=>if j=n then 0 else a.1 j*b.1 (n+m -j)) (n+m+1)=a.1 n*b.1 m by lia]at this;exact(rS r this).elim o l
theorem F.Hh(c:af p):O6 (F p):=λa b h=>by
 by_cases e:dg a=0
 .exact .inl (bg.mp e)
 by_cases d:dg b=0
 .exact .inr (bg.mp d)
 have:=w4 c (f:=a) (g:=b) (n:=dg a -1) (m:=dg b -1) (by lia) (by lia);rw[h,bZ]at this;lia
theorem bz(a:af p){f g:F p}(h:f≠0)(k:g≠0):dg (f*g)+1=dg f+dg g:=by have c:dg f≠0:=λz=>h (bg.mp z);have b:dg g≠0:=λz=>k (bg.mp z);have:=w4 a (f:=f) (g:=g) (n:=dg f -1) (m:=dg g -1) (by lia) (by lia);lia
theorem LA(c:Int):((c:Int):F p)=Qt.mk (Ip p) (cst c):=rfl
theorem bY{c:Int}:((c:Int):F p)=0↔(p:Int)∣c:=by
 rw[LA,<-qv];refine⟨λh=>h 0 (BM _),λh i _=>?_⟩;show(p:Int)∣if i=0 then c else 0
 split
 .exact h
 .exact⟨0,by lia⟩
theorem qx(a:af p){c:Int}(h:¬(p:Int)∣c):∃y:Int,((y:Int):F p)*((c:Int):F p)=1:=by
 have f:2<=p:=by have:=a.1;lia
 obtain⟨n,rfl⟩:∃n,p=n+2:=⟨p -2,by lia⟩;have C:=F.chr a;have e:=C.int 1 c;rw[RU]at e;have pc:∀k:Nat,((c^k:Int):F (n+2))=((c:Int):F (n+2))^k:=λk=>by
  induction k with
  |zero=>rw[Xp,Semiring.pow_zero];exact Ring.intCast_one
  |succ k b=>rw[Xq,Ring.intCast_mul,b,aH]
 refine⟨c^n,?_⟩;rw[pc];rw[aH,aH]at e;generalize((c:Int):F (n+2))^n=u at*;have d:((c:Int):F (n+2))≠0:=λz=>h (bY.mp z);generalize((c:Int):F (n+2))=v at*;rcases F.Hh a v (u*v -1) (by grind)with z|z
 .exact absurd z d
 .grind
noncomputable def mono(j:Nat)(c:Int):Po:=⟨λi=>if i=j then c else 0,j+1,λi a=>Bi (by lia)⟩
theorem Fo(j:Nat)(c:Int)(g:Nat->Int)(k:Nat):cg (mono j c).1 g k=if j<=k then c*g (k -j)else 0:=by
 have:=z8 c (λ_=>0) g j k;rw[gh (f':=(mono j c).1) (λi=>by show 0+(if i=j then c else 0)=if i=j then c else 0;lia) (λ_=>rfl)]at this;rw[this];have z:cg (λ_=>0) g k=0:=by rw[gh (f':=λi=>0*g i) (λi=>by lia) (λ_=>rfl),iD];lia
 rw[z];lia
theorem u7(v:af p){b:F p}(C:b≠0):∀(n:Nat)(a:F p),dg a<=n->∃q r,a=b*q+r/\dg r<dg b:=by
 have E:dg b≠0:=λz=>C (bg.mp z);intro n
 induction n with
 |zero=>intro a h;exact⟨0,a,by grind,by lia⟩
 |succ n s=>
  intro a h;by_cases g:dg a<dg b
  .exact⟨0,a,by grind,g⟩
  obtain⟨m,j⟩:∃m,dg b=m+1:=⟨dg b -1,by lia⟩;obtain⟨k,x⟩:∃k,dg a=k+1:=⟨dg a -1,by lia⟩;obtain⟨c,rfl⟩:=a.ex;obtain⟨d,rfl⟩:=b.ex;obtain⟨y,f⟩:=qx v (qw j);have o:=eY (Qt.mk (Ip p) c);have l:=eY (Qt.mk (Ip p) d);rw[x]at o;rw[j]at l;have f:(p:Int)∣y*d.1 m -1:=by
   have e:((y*d.1 m -1:Int):F p)=0:=by rw[Ring.intCast_sub,Ring.intCast_mul,f,Ring.intCast_one];grind
   exact bY.mp e
  have B:Dl k (Qt.mk (Ip p) (c -mono (k -m) (c.1 k*y)*d)):=λi D=>by
   show(p:Int)∣c.1 i+ -cg (mono (k -m) (c.1 k*y)).1 d.1 i;rw[Fo,Bz (by lia)];by_cases e:i=k
   .rw[e,show k -(k -m)=m by lia];obtain⟨w,t⟩:=f;exact⟨-(c.1 k*w),by
     have:c.1 k+ -(c.1 k*y*d.1 m)= -(c.1 k*(y*d.1 m -1)):=by grind
     rw[this,t];grind⟩
   .exact SL (o i (by lia)) (XZ.mpr (UV (l (i -(k -m)) (by lia)) ⟨_,SF _ _⟩))
  obtain⟨q,r,e,u⟩:=s _ (Hm (mK B) (by lia));refine⟨q+Qt.mk (Ip p) (mono (k -m) (c.1 k*y)),r,?_,u⟩;have A:Qt.mk (Ip p) (c -mono (k -m) (c.1 k*y)*d)=Qt.mk (Ip p) c -Qt.mk (Ip p) (mono (k -m) (c.1 k*y))*Qt.mk (Ip p) d:=rfl;rw[A]at e;grind
noncomputable def Dd(d a:F p):Prop:=∃q,a=d*q
theorem BY(f:af p):∀(n:Nat)(a b:F p),dg b<=n->∃d u v,d=u*a+v*b/\Dd d a/\Dd d b:=by
 intro n
 induction n with
 |zero=>intro a b h;have:=bg.mp (Uu.mp h);exact⟨a,1,0,by grind,⟨1,by grind⟩,⟨0,by grind⟩⟩
 |succ n c=>
  intro a b h;by_cases i:b=0
  .exact⟨a,1,0,by grind,⟨1,by grind⟩,⟨0,by grind⟩⟩
  .obtain⟨q,r,e,j⟩:=u7 f i _ a (BM _);obtain⟨d,u,v,l,⟨s,g⟩,⟨t,k⟩⟩:=c b r (by lia);exact⟨d,v,u -v*q,by grind,⟨s*q+t,by grind⟩,⟨s,g⟩⟩
theorem c9(c:af p){a:F p}(h:dg a=1):∃y,y*a=1:=by
 obtain⟨g,rfl⟩:=a.ex;have t:=qw (n:=0) h;obtain⟨y,b⟩:=qx c t;refine⟨(y:Int),?_⟩;have e:Qt.mk (Ip p) g=((g.1 0:Int):F p):=Qt.eq.mpr λi=>by
  have d:=eY (Qt.mk (Ip p) g);rw[h]at d;show(p:Int)∣g.1 i+ -(if i=0 then g.1 0 else 0);by_cases z:i=0
  .rw[Bz z,z];exact⟨0,by lia⟩
  .rw[Bi z];have:=d i (by lia);rw[show g.1 i+ -0=g.1 i by lia];exact this
 rw[e];exact b
structure cu(P:F p):Prop where
 two:2<=dg P
 no:∀a b,P=a*b->dg a=1\/dg b=1
theorem cu.ne{P:F p}(h:cu P):P≠0:=λz=>by have:=h.two;rw[z,bZ]at this;lia
theorem cu.euclid(f:af p){P:F p}(h:cu P){a b:F p}(g:Dd P (a*b)):Dd P a\/Dd P b:=by
 obtain⟨d,u,v,e,⟨s,j⟩,⟨t,i⟩⟩:=BY f _ P a (BM _);obtain⟨w,k⟩:=g;rcases h.no d s j with z|z
 .obtain⟨y,c⟩:=c9 f z;refine .inr ⟨y*(u*b+v*w),?_⟩;have:b=y*d*b:=by rw[c];grind
  rw[this,e];grind
 .obtain⟨y,c⟩:=c9 f z;refine .inl ⟨y*t,?_⟩;have:d=P*y:=by
   have:d=d*(y*s):=by rw[c];grind
   grind
  rw[i,this];grind
theorem gb(l:af p):∀(n:Nat)(f:F p),dg f<=n->2<=dg f->∃P,cu P/\Dd P f:=by
 intro n
 induction n with
 |zero=>intro f h k;lia
 |succ n j=>
  intro f h k;by_cases c:∀a b,f=a*b->dg a=1\/dg b=1
  .exact⟨f,⟨k,c⟩,1,by grind⟩
  .obtain⟨a,r⟩:=Sq.mp c;obtain⟨b,o⟩:=Sq.mp r;obtain⟨e,m⟩:=YC.mp o;obtain⟨v,u⟩:=not_or.mp m;have d:f≠0:=λz=>by rw[z,bZ]at k;lia
   have i:a≠0:=λz=>d (by rw[e,z];grind);have g:b≠0:=λz=>d (by rw[e,z];grind);have:=bz l i g;rw[<-e]at this;have x:dg a≠0:=λz=>i (bg.mp z);have w:dg b≠0:=λz=>g (bg.mp z);obtain⟨P,s,q,t⟩:=j a (by lia) (by lia);exact⟨P,s,q*b,by grind⟩
noncomputable def Pr(P:F p):O7 (F p):=⟨Dd P,⟨0,by grind⟩,λ{a b} ⟨q,d⟩ ⟨r,e⟩=>⟨q+r,by grind⟩,λc {a} ⟨q,d⟩=>⟨c*q,by grind⟩⟩
abbrev Kf(P:F p):Type:=Qt (Pr P)
theorem Kf.chr(a:af p)(P:F p):j4 (Kf P) p:=⟨a,by have:=(F.chr a).z;exact GM (Qt.mk (Pr P)) this⟩
theorem Kf.zero{P f:F p}:Qt.mk (Pr P) f=0↔Dd P f:=by have:Qt.mk (Pr P) f=Qt.mk (Pr P) 0↔Dd P (f -0):=Qt.eq;rw[show f -0=f by grind]at this;exact this
theorem Kf.Hh(c:af p){P:F p}(h:cu P):O6 (Kf P):=λa b e=>by obtain⟨a,rfl⟩:=a.ex;obtain⟨b,rfl⟩:=b.ex;have e:Qt.mk (Pr P) (a*b)=0:=e;exact(h.euclid c (Kf.zero.mp e)).imp Kf.zero.mpr Kf.zero.mpr
local instance {R : Type} [Gv R] : NatCast R := F1
local instance {R : Type} [IU R] : IntCast R := F2
section
variable{R:Type}[CommRing R]
theorem BZ(b:O6 R){a:R}:∀n:Nat,a^n=0->a=0\/(1:R)=0
 |0,h=>.inr (by rw[Semiring.pow_zero]at h;exact h)
 |n+1,h=>by
  rw[aH]at h;rcases b _ _ h with z|z
  .exact BZ b n z
  .exact .inl z
theorem B0(x:R):∀l:List Int,BR x l=g9 x (l.map λz:Int=>((z:Int):R))
 |[]=>rfl
 |c::l=>by show _+x*BR x l=_+x*g9 x _;rw[B0 x l]
noncomputable def ml(t:R):R->List R->List R
 |c,[]=>[c]
 |c,a::l=>(c -t*a)::ml t a l
theorem u9(t:R):∀(l:List R)(c:R),(ml t c l).length=l.length+1
 |[],_=>rfl
 |a::l,c=>by show(ml t a l).length+1=_;rw[u9 t l a];rfl
theorem Hj(t x:R):∀(l:List R)(c:R),g9 x (ml t c l)=c+(x -t)*g9 x l
 |[],c=>by show c+x*0=c+(x -t)*0;grind
 |a::l,c=>by show c -t*a+x*g9 x (ml t a l)=c+(x -t)*(a+x*g9 x l);rw[Hj t x l a];grind
theorem w6(t:R):∀(l:List R)(c:R),(ml t c l).getLast?=(c::l).getLast?
 |[],c=>rfl
 |a::l,c=>by
  show((c -t*a)::ml t a l).getLast?=_;have n:ml t a l≠[]:=λz=>by have:=u9 t l a;rw[z]at this;cases this
  obtain⟨u,b,e⟩:=Sf n;rw[e,XH,<-e,w6 t l a,XH]
theorem xg(s t:R):∀(l:List R)(c e b:R),e -s*c=b -t*c->ml s e (ml t c l)=ml t b (ml s c l)
 |[],c,e,b,h=>by show[e -s*c,c]=[b -t*c,c];rw[h]
 |a::l,c,e,b,h=>by show(e -s*(c -t*a))::ml s (c -t*a) (ml t a l)=(b -t*(c -s*a))::ml t (c -s*a) (ml s a l);rw[xg s t l a (c -t*a) (c -s*a) (by grind)];congr 1;grind
noncomputable def b8:List R->List R
 |[]=>[1]
 |t::a=>ml t 0 (b8 a)
theorem jD:∀a:List R,(b8 a).length=a.length+1
 |[]=>rfl
 |t::a=>by show(ml t 0 (b8 a)).length=_;rw[u9,jD a];rfl
theorem mL:∀a:List R,(b8 a).getLast?=some 1
 |[]=>rfl
 |t::a=>by
  show(ml t 0 (b8 a)).getLast?=_;have n:b8 a≠[]:=λz=>by have:=jD a;rw[z]at this;cases this
  obtain⟨u,b,e⟩:=Sf n;rw[w6,e,XH,<-e,mL a]
theorem oG(t:R):∀a:List R,b8 (a++[t])=b8 (t::a)
 |[]=>rfl
 |s::a=>by show ml s 0 (b8 (a++[t]))=ml t 0 (ml s 0 (b8 a));rw[oG t a];exact xg s t (b8 a) 0 0 0 (by grind)
theorem xh{p:Nat}(h:j4 R p)(t:R):∀(l:List R)(c:R),(ml t c l).map (·^p)=ml (t^p) (c^p) (l.map (·^p))
 |[],c=>rfl
 |a::l,c=>by show(c -t*a)^p::(ml t a l).map (·^p)=(c^p -t^p*a^p)::ml (t^p) (a^p) (l.map (·^p));have:=h.sub c (t*a) 1;rw[RU]at this;rw[this,mul_pow,xh h t l a]
theorem mO{p:Nat}(h:j4 R p):∀a:List R,(b8 a).map (·^p)=b8 (a.map (·^p))
 |[]=>by show[(1:R)^p]=[1];rw[one_pow]
 |t::a=>by show(ml t 0 (b8 a)).map (·^p)=ml (t^p) 0 (b8 (a.map (·^p)));rw[xh h,zero_pow h.pos,mO h a]
noncomputable def dd(L:List (R×R))(i:Nat):R:=match L with
 |[]=>0
 |(c,t)::L=>c*t^i+dd L i
theorem xj(u:R)(i:Nat):∀L:List (R×R),dd (L.map λx=>(x.1*(x.2 -u),x.2)) i=dd L (i+1) -u*dd L i
 |[]=>by show(0:R)=0 -u*0;grind
 |(c,t)::L=>by show c*(t -u)*t^i+dd (L.map _) i=c*t^(i+1)+dd L (i+1) -u*(c*t^i+dd L i);rw[xj u i L,aH];grind
theorem tN(g:O6 R):∀(n:Nat)(L:List (R×R)),L.length<=n->L.Pairwise (λx y=>x.2≠y.2)->(∀i,dd L i=0)->∀x∈L,x.1=0
 |_,[],_,_,_,x,a=>by cases a
 |0,_::_,d,_,_,x,a=>by cases d
 |n+1,(c,u)::L,d,l,h,x,a=>by
  have hd':=WI.mp l;have e:∀i,dd (L.map λx=>(x.1*(x.2 -u),x.2)) i=0:=λi=>by rw[xj];have m:c*u^(i+1)+dd L (i+1)=0:=h (i+1);have r:c*u^i+dd L i=0:=h i;rw[aH]at m;grind
  have z:=tN g n _ (by rw[AN];simpa using d) (by rw[Pi];exact hd'.2) e;have f:∀y∈L,y.1=0:=λy b=>by
   have:=z _ (Hc.mpr ⟨y,b,rfl⟩);rcases g _ _ this with k|k
   .exact k
   .exact absurd (show u=y.2 by grind) (hd'.1 y b)
  rcases FV.mp a with rfl|a
  .have o:c*u^0+dd L 0=0:=h 0;have q:∀L:List (R×R),(∀y∈L,y.1=0)->dd L 0=0:=λL=>by
    induction L with
    |nil=>intro _;rfl
    |cons y L j=>intro k;show y.1*y.2^0+dd L 0=0;rw[k y Da,j λy b=>k y (Dx _ b)];grind
   rw[q L f,Semiring.pow_zero]at o;show c=0;grind
  .exact f x a
end
local instance {R : Type} [Gv R] : NatCast R := F1
local instance {R : Type} [IU R] : IntCast R := F2
variable{p:Nat}
theorem xm(M:F p):∀l:List Int,Qt.mk (Pr M) (fL p l)=BR (Qt.mk (Pr M) X) l
 |[]=>by rw[<-oF];rfl
 |c::l=>by rw[aB];show Qt.mk (Pr M) ((c:Int):F p)+Qt.mk (Pr M) X*Qt.mk (Pr M) (fL p l)=_;rw[xm M l];rfl
theorem dR(M f:F p):∀n:Nat,Qt.mk (Pr M) (f^n)=Qt.mk (Pr M) f^n
 |0=>by rw[Semiring.pow_zero,Semiring.pow_zero];rfl
 |n+1=>by rw[aH,aH,<-dR M f n];rfl
theorem mk_eq{M a b:F p}:Qt.mk (Pr M) a=Qt.mk (Pr M) b↔Dd M (a -b):=Qt.eq
theorem vd(a:af p){M:F p}{d:Nat}(h:Dd M ((X:F p)^(p^d) -X))(y:Kf M):y^(p^d)=y:=by
 obtain⟨f,rfl⟩:=y.ex;obtain⟨l,rfl⟩:=BW f;have e:Qt.mk (Pr M) X^(p^d)=Qt.mk (Pr M) X:=by rw[<-dR];exact mk_eq.mpr h
 rw[xm,(Kf.chr a M).ev,e]
theorem Dd.trans{a b c:F p}(h:Dd a b)(k:Dd b c):Dd a c:=by obtain⟨q,e⟩:=h;obtain⟨r,d⟩:=k;exact⟨q*r,by grind⟩
theorem O8(a:af p){M Q:F p}{d:Nat}(h:Dd M ((X:F p)^(p^d) -X))(y:1<=d)(j:Dd (Q*Q) M)(m:M≠0):dg Q=1:=by
 have l:2<=p:=by have:=a.1;lia
 have s:2<=p^d:=Hm l (Nat.le_self_pow (by lia) p);have e:=vd a (j.trans h) (Qt.mk (Pr (Q*Q)) Q);have sq:Qt.mk (Pr (Q*Q)) Q*Qt.mk (Pr (Q*Q)) Q=0:=Kf.zero.mpr ⟨1,by grind⟩;obtain⟨n,q⟩:∃n,p^d=n+2:=⟨p^d -2,by lia⟩;rw[q,aH,aH]at e;have z:Qt.mk (Pr (Q*Q)) Q=0:=by generalize Qt.mk (Pr (Q*Q)) Q^n=u at*;generalize Qt.mk (Pr (Q*Q)) Q=v at*;grind
 obtain⟨w,t⟩:=Kf.zero.mp z;have b:Q≠0:=λz=>m (by obtain⟨r,o⟩:=j;rw[o,z];grind);have f:Q*w=1:=by
  rcases F.Hh a Q (1 -Q*w) (by grind)with k|k
  .exact absurd k b
  .grind
 have one:dg (1:F p)=1:=by
  refine wZ (g:=cst 1) (λi x=>?_) λz=>?_
  .show(p:Int)∣if i=0 then 1 else 0
   rw[Bi (by lia)];exact⟨0,by lia⟩
  .have z:(p:Int)∣1:=z;have:=UF (by decide) z;lia
 have c:w≠0:=λz=>by
  rw[z]at f;have:(1:F p)=0:=by grind
  rw[this,bZ]at one;cases one
 have:=bz a b c;rw[f,one]at this;have B:dg Q≠0:=λz=>b (bg.mp z);have A:dg w≠0:=λz=>c (bg.mp z);lia
theorem jE(a:af p):dg (1:F p)=1:=by
 refine wZ (g:=cst 1) (λi b=>?_) λz=>?_
 .show(p:Int)∣if i=0 then 1 else 0
  rw[Bi (by lia)];exact⟨0,by lia⟩
 .have z:(p:Int)∣1:=z;have:=UF (by decide) z;have:=a.1;lia
theorem Dd.len(f:af p){a b:F p}(h:Dd a b)(e:b≠0):dg a<=dg b:=by obtain⟨q,c⟩:=h;have g:a≠0:=λz=>e (by rw[c,z];grind);have d:q≠0:=λz=>e (by rw[c,z];grind);have:=bz f g d;rw[<-c]at this;have:dg q≠0:=λz=>d (bg.mp z);lia
theorem qy(a:af p)(c:Int):dg ((c:Int):F p)<=1:=mK λi b=>by
 show(p:Int)∣if i=0 then c else 0
 rw[Bi (by lia)];exact⟨0,by lia⟩
theorem oH(a:af p){P:F p}(h:cu P){c:Int}:((c:Int):Kf P)=0↔(p:Int)∣c:=by
 have e:((c:Int):Kf P)=Qt.mk (Pr P) ((c:Int):F p):=rfl;rw[e,Kf.zero];refine⟨λk=>?_,λk=>?_⟩
 .by_cases z:((c:Int):F p)=0
  .exact bY.mp z
  .have:=k.len a z;have:=qy a c;have:=h.two;lia
 .rw[bY.mpr k];exact⟨0,by grind⟩
theorem xo(a:af p){P:F p}(h:cu P):(1:Kf P)≠0:=λz=>by have e:((1:Int):Kf P)=1:=Ring.intCast_one;rw[<-e]at z;have:=UF (by decide) ((oH a h).mp z);have:=a.1;lia
theorem B3{R:Type}[CommRing R](x:R):∀n:Nat,g9 x (Ds n 0++[1])=x^n
 |0=>by show 1+x*0=x^0;rw[Semiring.pow_zero];grind
 |n+1=>by rw[HL];show 0+x*g9 x (Ds n 0++[1])=_;rw[B3 x n,aH];grind
theorem Hl(d:af p){P:F p}(h:cu P){c:Kf P}(q:c^p=c):∃n:Nat,n<p/\c=(n:Nat):=by
 apply FS;intro k;have v:2<=p:=by have:=d.1;lia
 obtain⟨m,o⟩:∃m,p=m+2:=⟨p -2,by lia⟩;have C:=Kf.chr d P;have j:∀x:Kf P,x^p=x->g9 x (0::(-1)::(Ds m 0++[1]))=0:=λx f=>by show 0+x*(-1+x*g9 x (Ds m 0++[1]))=0;rw[B3];have u:x^(m+2)=x:=(GM (x^·) o).symm.trans f;rw[aH,aH]at u;grind
 have z:=jC (Kf.Hh d h) (c::(Ea p).map λn:Nat=>((n:Nat):Kf P)) (0::(-1)::(Ds m 0++[1])) ?_ (λr g=>j r ?_) (by simp;lia) 1 (by simp)
 .exact xo d h z
 .refine WI.mpr ⟨λx f e=>?_,?_⟩
  .obtain⟨n,l,rfl⟩:=Hc.mp f;exact k ⟨n,Kk.mp l,e⟩
  .rw[Pi];refine QF (λ{a b} w i (s:a<b) e=>?_) (WO (n:=p));have i:=Kk.mp i;have t:((((b:Nat):Int) -((a:Nat):Int):Int):Kf P)=0:=by rw[Ring.intCast_sub,Ring.intCast_natCast,Ring.intCast_natCast,e];grind
   have:=UF (by lia) ((oH d h).mp t);lia
 .rcases FV.mp g with rfl|g
  .exact q
  .obtain⟨n,_,rfl⟩:=Hc.mp g;have:=C.nat 1 n;rw[RU]at this;exact this
structure Od(d:Nat)(P:F p):Prop where
 d1:1<=d
 yes:Dd P ((X:F p)^(p^d) -X)
 no:∀m,1<=m->m<d->¬Dd P ((X:F p)^(p^m) -X)
theorem tO(c:af p){P:F p}(h:cu P){a b:Kf P}{j:Nat}(e:a^(p^j)=b^(p^j)):a=b:=by
 have:=(Kf.chr c P).sub a b j;rcases BZ (Kf.Hh c h) (a:=a -b) (p^j) (by grind)with z|z
 .grind
 .exact absurd z (xo c h)
theorem Od.unlike(f:af p){P:F p}{d:Nat}(h:cu P)(o:Od d P):((Ea d).map λj=>(Qt.mk (Pr P) X:Kf P)^(p^j)).Pairwise (·≠·):=by rw[Pi];refine QF (λ{a b} i c (g:a<b) e=>?_) (WO (n:=d));have c:=Kk.mp c;refine o.no (b -a) (by lia) (by lia) (mk_eq.mp ?_);rw[dR];refine tO f h (j:=a) ?_;rw[<-pow_mul,<-XU,show b -a+a=b by lia];exact e.symm
theorem Od.dg(b:af p){P:F p}{d:Nat}(h:cu P)(o:Od d P):dg P=d+1:=by
 have C:=Kf.chr b P;have B:=Kf.Hh b h;have N:=h.ne;have d1:=o.d1;have x:∀y:Kf P,y^(p^d)=y:=vd b o.yes;generalize v:(Qt.mk (Pr P) X:Kf P)=a at*;have w:=o.unlike b h;rw[v]at w;have D:d+1<=Alg.dg P:=by
  apply FS;intro O;obtain⟨l,R,e⟩:∃l:List Int,l.length=Alg.dg P/\P=fL p l:=by
   obtain⟨g,e⟩:=P.ex;refine⟨(Ea (Alg.dg P)).map g.1,by rw[AN,GE],?_⟩;rw[e];refine Qt.eq.mpr λi=>?_;show(p:Int)∣g.1 i+ -(((Ea (Alg.dg (Qt.mk (Ip p) g))).map g.1).getD i 0);rw[AC,FK];by_cases s:i<Alg.dg (Qt.mk (Ip p) g)
   .rw[PQ s];show(p:Int)∣g.1 i+ -g.1 i;exact⟨0,by lia⟩
   .rw[FR (by rw[GE];lia)];show(p:Int)∣g.1 i+ -0;have:=eY (Qt.mk (Ip p) g) i (by lia);rw[show g.1 i+ -0=g.1 i by lia];exact this
  have K:BR a l=0:=by rw[<-v,<-xm,<-e];exact Kf.zero.mpr ⟨1,by grind⟩
  have z:=jC B ((Ea d).map λj=>a^(p^j)) (l.map λz:Int=>((z:Int):Kf P)) w (λr H=>?_) (by rw[AN,AN,GE];lia)
  .refine N ?_;rw[e];refine((wY (m:=[])).mpr λi=>?_).trans (oF []).symm;show(p:Int)∣l.getD i 0 -0;by_cases s:i<l.length
   .have:=z _ (Hc.mpr ⟨_,getD_mem' s,rfl⟩);have:=(oH b h).mp this;rw[X0];exact this
   .rw[outI (by lia)];exact⟨0,by lia⟩
  .obtain⟨j,_,rfl⟩:=Hc.mp H;rw[<-B0,<-C.ev,K,zero_pow (C.pp j)]
 refine Vu ?_ D;have u:(b8 ((Ea d).map λj=>a^(p^j))).map (·^p)=b8 ((Ea d).map λj=>a^(p^j)):=by
  rw[mO C,Qr];obtain⟨n,rfl⟩:∃n,d=n+1:=⟨d -1,by lia⟩;have J:(Ea (n+1)).map ((·^p)∘λj=>a^(p^j))=(Ea n).map (λj=>a^(p^(j+1)))++[a]:=by
   rw[Vs,Iy];congr 1
   .refine PP λj _=>?_;show(a^(p^j))^p=_;rw[<-pow_mul,<-NY]
   .show[(a^(p^n))^p]=[a];rw[<-pow_mul,<-NY,x]
  have I:(Ea (n+1)).map (λj=>a^(p^j))=a::(Ea n).map λj=>a^(p^(j+1)):=by rw[WM,GT,Qr,Nf];congr 1;rw[aH,Semiring.pow_zero];grind
  rw[J,I,oG]
 have f:∀c∈b8 ((Ea d).map λj=>a^(p^j)),∃n:Nat,n<p/\c=(n:Nat):=λc t=>by refine Hl b h ?_;obtain⟨i,s,rfl⟩:=SU t;have:=GM (λl:List (Kf P)=>l[i]?) u;simp only[FK,B1 s,L5]at this;exact Hk this
 obtain⟨m,q⟩:∃m:List Int,b8 ((Ea d).map λj=>a^(p^j))=m.map λz:Int=>((z:Int):Kf P):=by
  generalize b8 ((Ea d).map λj=>a^(p^j))=L at f
  induction L with
  |nil=>exact⟨[],rfl⟩
  |cons c L E=>obtain⟨m,q⟩:=E λc t=>f c (Dx _ t);obtain⟨n,_,e⟩:=f c Da;refine⟨(n:Int)::m,?_⟩;rw[GT,<-q,e,Ring.intCast_natCast]
 have Q:m.length=d+1:=by have:=GM RT q;rw[jD,AN,AN,GE]at this;exact this.symm
 have A:BR a m=0:=by rw[B0,<-q];obtain⟨n,rfl⟩:∃n,d=n+1:=⟨d -1,by lia⟩;rw[WM,GT];show g9 a (ml (a^(p^0)) 0 _)=0;rw[Hj,Nf,aH,Semiring.pow_zero];grind
 have dv:Dd P (fL p m):=Kf.zero.mp (by rw[xm,v];exact A);have M:fL p m≠0:=λz=>by have k:=mL ((Ea d).map λj=>a^(p^j));rw[q,List.getLast?_map]at k;obtain⟨y,G,e⟩:=IR.mp k;have:=(wY (l:=m) (m:=[])).mp (by rw[z,<-oF];rfl) (m.length -1);rw[AC,<-X6,G]at this;have this:(p:Int)∣y -0:=this;rw[X0]at this;have:=(oH b h).mpr this;rw[e]at this;exact xo b h this
 have:=dv.len b M;have:=mK (Lx (p:=p) m);lia
local instance {R : Type} [Gv R] : NatCast R := F1
local instance {R : Type} [IU R] : IntCast R := F2
section
variable{R:Type}[CommRing R]
noncomputable def tr(p d:Nat)(f:R):R:=sR (λj=>f^(p^j)) d
theorem B4{p:Nat}(h:j4 R p)(d:Nat)(f g:R):tr p d (f+g)=tr p d f+tr p d g:=by unfold tr;rw[<-u6];exact gW d λj _=>h.fr f g j
theorem Ho{p:Nat}(h:j4 R p)(d:Nat)(c:Int)(f:R):tr p d (((c:Int):R)*f)=((c:Int):R)*tr p d f:=by unfold tr;rw[<-qq];exact gW d λj _=>by rw[mul_pow,h.int]
theorem qz{p:Nat}(h:j4 R p)(d:Nat):tr p d (0:R)=0:=qt d λj _=>zero_pow (h.pp j)
theorem B5{p:Nat}(h:j4 R p)(f:Nat->R):∀n,(sR f n)^p=sR (λi=>f i^p) n
 |0=>zero_pow h.pos
 |n+1=>by have:=h.fr (sR f n) (f n) 1;rw[RU]at this;show(sR f n+f n)^p=_;rw[this,B5 h f n];rfl
theorem LB{p d:Nat}(h:j4 R p){f:R}(e:f^(p^d)=f):(tr p d f)^p=tr p d f:=by
 unfold tr;rw[B5 h];have g:sR (λi=>(f^(p^i))^p) d=sR (λi=>f^(p^(i+1))) d:=gW d λi _=>by rw[<-pow_mul,<-NY]
 have a:=iX (λi=>f^(p^i)) d;have c:sR (λi=>f^(p^i)) (d+1)=sR (λi=>f^(p^i)) d+f^(p^d):=rfl;rw[g];rw[c,e,Nf]at a;have b:f^1=f:=by rw[aH,Semiring.pow_zero];grind
 rw[b]at a;grind
theorem B6(x:R×R)(i:Nat):∀L:List (R×R),dd (L++[x]) i=dd L i+x.1*x.2^i
 |[]=>by show x.1*x.2^i+0=0+_;grind
 |y::L=>by show y.1*y.2^i+dd (L++[x]) i=y.1*y.2^i+dd L i+_;rw[B6 x i L];grind
theorem tQ(g:Nat->R)(i:Nat):∀d,dd ((Ea d).map λj=>((1:R),g j)) i=sR (λj=>g j^i) d
 |0=>rfl
 |d+1=>by rw[Vs,Iy];show dd (_++[((1:R),g d)]) i=_;rw[B6,tQ g i d];show _+1*g d^i=_+g d^i;grind
end
variable{p:Nat}
theorem yY{R:Type}[CommRing R](a:R)(m n:Nat):(a^m)^n=(a^n)^m:=by rw[<-pow_mul,<-pow_mul,U2]
theorem Fq(a:af p){P:F p}{d:Nat}(h:cu P)(o:Od d P):∃y:Kf P,tr p d y≠0:=by
 apply FS;intro e;have b:∀y:Kf P,tr p d y=0:=λy=>FS λz=>e ⟨y,z⟩;have c:=o.unlike a h;have d1:=o.d1;have:=tN (Kf.Hh a h) d ((Ea d).map λj=>((1:Kf P),(Qt.mk (Pr P) X:Kf P)^(p^j))) (by simp) (by
  rw[Pi]at c⊢;exact c) (λi=>by
  rw[tQ,<-b (Qt.mk (Pr P) X^i)];exact gW d λj _=>yY _ _ _) (1,(Qt.mk (Pr P) X:Kf P)^(p^0)) (Hc.mpr ⟨0,Kk.mpr (by lia),rfl⟩)
 exact xo a h this
theorem tR(M f:F p)(d:Nat):Qt.mk (Pr M) (tr p d f)=tr p d (Qt.mk (Pr M) f):=by
 unfold tr
 induction d with
 |zero=>rfl
 |succ d a=>show Qt.mk (Pr M) (sR _ d)+Qt.mk (Pr M) (f^(p^d))=_;rw[a,dR];rfl
theorem cu.apart(b:af p){P Q:F p}(h:cu P)(n:¬Dd P Q):∃u v,u*P+v*Q=1:=by
 obtain⟨d,u,v,e,⟨s,f⟩,⟨t,c⟩⟩:=BY b _ P Q (BM _);rcases h.no d s f with z|z
 .obtain⟨y,a⟩:=c9 b z;exact⟨y*u,y*v,by rw[e]at a;grind⟩
 .obtain⟨y,a⟩:=c9 b z;refine absurd ⟨y*t,?_⟩ n;have:d=P*y:=by
   have:d=d*(y*s):=by rw[a];grind
   grind
  rw[c,this];grind
theorem yZ(b:af p){M P Q:F p}{d:Nat}(N:Dd M ((X:F p)^(p^d) -X))(o:cu P)(x:Od d P)(G:cu Q)(w:Dd P M)(r:Dd Q M)(n:¬Dd P Q):∃i,1<=i/\∀c:Int,¬Dd M (tr p d ((X:F p)^i) -((c:Int):F p)):=by
 apply FS;intro A;have C:=F.chr b;have one:∀i,∃c:Int,Dd M (tr p d ((X:F p)^i) -((c:Int):F p)):=λi=>by
  by_cases E:1<=i
  .exact FS λz=>A ⟨i,E,λc k=>z ⟨c,k⟩⟩
  .refine⟨(d:Int),0,?_⟩;have I:i=0:=by lia
   rw[I,Semiring.pow_zero];have:∀d:Nat,tr p d (1:F p)=(((d:Nat):Int):F p):=λd=>by
    unfold tr
    induction d with
    |zero=>exact Ring.intCast_zero.symm
    |succ d h=>show sR _ d+(1:F p)^(p^d)=_;rw[h,one_pow,Nz,Ring.intCast_add,Ring.intCast_one]
   rw[this];grind
 have m:∀(l:List Int)(k:Nat),∃c:Int,Dd M (tr p d ((X:F p)^k*fL p l) -((c:Int):F p)):=λl=>by
  induction l with
  |nil=>intro k;refine⟨0,0,?_⟩;have e:fL p []=0:=(oF []).symm;rw[e,show(X:F p)^k*0=0 by grind,qz C,Ring.intCast_zero];grind
  |cons a l h=>intro k;obtain⟨K,t,R⟩:=one k;obtain⟨J,s,O⟩:=h (k+1);refine⟨a*K+J,((a:Int):F p)*t+s,?_⟩;rw[aB,show(X:F p)^k*(((a:Int):F p)+X*fL p l)=((a:Int):F p)*(X:F p)^k+X^k*X*fL p l by grind,<-aH,B4 C,Ho C,Ring.intCast_add,Ring.intCast_mul];grind
 obtain⟨u,v,e⟩:=o.apart b n;obtain⟨y,B⟩:=Fq b o x;obtain⟨f,rfl⟩:=y.ex;obtain⟨l,D⟩:=BW (v*Q*f);obtain⟨c,g⟩:=m l 0;rw[<-D,Semiring.pow_zero,show(1:F p)*(v*Q*f)=v*Q*f by grind]at g;have q:Qt.mk (Pr Q) (v*Q*f)=0:=Kf.zero.mpr ⟨v*f,by grind⟩;have L:(p:Int)∣c:=by refine(oH b G).mp ?_;have:=Kf.zero.mpr (r.trans g);have j:Qt.mk (Pr Q) (tr p d (v*Q*f) -((c:Int):F p))=Qt.mk (Pr Q) (tr p d (v*Q*f)) -((c:Int):Kf Q):=rfl;rw[j,tR,q,qz (Kf.chr b Q)]at this;grind
 rw[bY.mpr L]at g;have:=Kf.zero.mpr (w.trans g);have j:Qt.mk (Pr P) (tr p d (v*Q*f) -0)=Qt.mk (Pr P) (tr p d (v*Q*f)) -0:=rfl;rw[j,tR]at this;have H:Qt.mk (Pr P) (v*Q*f)=Qt.mk (Pr P) f:=mk_eq.mpr ⟨-(u*f),by grind⟩;rw[H]at this;exact B (by grind)
theorem Ft(f:af p):∀(n:Nat){M g:F p},dg M<=n->M≠0->(∀Q,Dd (Q*Q) M->dg Q=1)->(∀P,cu P->Dd P M->Dd P g)->Dd M g:=by
 intro n
 induction n with
 |zero=>intro M g h d;exact absurd (bg.mp (Uu.mp h)) d
 |succ n r=>
  intro M g h d sq m;have A:dg M≠0:=λz=>d (bg.mp z);by_cases one:dg M=1
  .obtain⟨y,s⟩:=c9 f one;exact⟨y*g,by
    have:g=y*M*g:=by rw[s];grind
    grind⟩
  .obtain⟨P,i,N,e⟩:=gb f _ M (BM _) (by lia);have j:N≠0:=λz=>d (by rw[e,z];grind);have q:=bz f i.ne j;rw[<-e]at q;have x:=i.two;have o:¬Dd P N:=λ⟨w,c⟩=>by have:=sq P ⟨w,by rw[e,c];grind⟩;lia
   obtain⟨k,l⟩:=r (M:=N) (g:=g) (by lia) j (λQ ⟨w,c⟩=>sq Q ⟨P*w,by rw[e,c];grind⟩) λQ u ⟨w,c⟩=>m Q u ⟨P*w,by rw[e,c];grind⟩;obtain⟨w,c⟩:=m P i ⟨N,e⟩;rcases i.euclid f (a:=N) (b:=k) ⟨w,by rw[<-l,c]⟩with z|⟨v,t⟩
   .exact absurd z o
   .exact⟨v,by rw[l,t,e];grind⟩
theorem B7(i:af p){φ:Int->Prop}(u:∀m,φ m↔φ (m+p))(l:¬(φ 0↔φ 1)){a b:Int}(j:¬(p:Int)∣b -a):∃t:Nat,t<p/\¬(φ (a+t)↔φ (b+t)):=by
 apply FS;intro r;have x:0<p:=by have:=i.1;lia
 have o:∀(k:Nat)(m:Int),φ m↔φ (m+k*p):=λk=>by
  induction k with
  |zero=>intro m;rw[show m+((0:Nat):Int)*p=m by lia]
  |succ k g=>intro m;rw[g m,u];rw[show m+(k:Int)*p+p=m+((k+1:Nat):Int)*p by rw[Nz];grind]
 have c:∀(k m:Int),φ m↔φ (m+k*p):=λk m=>by
  rcases Xs 0 k with h|h
  .have:=o k.toNat m;rw[WZ h]at this;exact this
  .have:=o (-k).toNat (m+k*p);rw[WZ (by lia),show m+k*p+ -k*p=m by grind]at this;exact this.symm
 have f:∀m:Int,φ m↔φ (m+(b -a)):=λm=>by have e:=Os (m -a) p;have q:=Pl (m -a) (show(p:Int)≠0 by lia);have w:=Nw (m -a) (show(0:Int)<p by lia);have:=FS λz=>r ⟨((m -a)%p).toNat,by lia,z⟩;rw[WZ q]at this;generalize(m -a)%(p:Int)=t at*;generalize(m -a)/(p:Int)=k at*;rw[c k (a+t),c k (b+t)]at this;rw[show a+t+k*p=m by grind,show b+t+k*p=m+(b -a) by grind]at this;exact this
 have v:∀k:Nat,φ 0↔φ (k*(b -a)):=λk=>by
  induction k with
  |zero=>rw[show((0:Nat):Int)*(b -a)=0 by lia]
  |succ k g=>rw[g,f];rw[show(k:Int)*(b -a)+(b -a)=((k+1:Nat):Int)*(b -a) by rw[Nz];grind]
 obtain⟨y,s⟩:=qx i j;obtain⟨n,_,e⟩:=(F.chr i).mod y;have d:(p:Int)∣(n:Int)*(b -a) -1:=by refine bY.mp ?_;rw[Ring.intCast_sub,Ring.intCast_mul,Ring.intCast_natCast,<-e,s,Ring.intCast_one];grind
 obtain⟨k,A⟩:=d;refine l ((v n).trans ?_);have:=c k 1;rw[show(1:Int)+k*p=(n:Int)*(b -a) by grind]at this;exact this.symm
local instance {R : Type} [Gv R] : NatCast R := F1
local instance {R : Type} [IU R] : IntCast R := F2
noncomputable def sq{R:Type}[CommRing R](p:Nat)(f:R):R:=if p=2 then f else f^((p -1)/2) -1
variable{p:Nat}
theorem Pc(M f:F p):Qt.mk (Pr M) (sq p f)=sq p (Qt.mk (Pr M) f):=by
 unfold sq;split
 .rfl
 .rw[<-dR];rfl
theorem LC(c:Int):∃e:Int,∀(R:Type)[a:CommRing R],sq p (((c:Int):R))=((e:Int):R):=by
 by_cases h:p=2
 .exact⟨c,λR _=>by unfold sq;rw[Bz h]⟩
 .refine⟨c^((p -1)/2) -1,λR _=>?_⟩;unfold sq;rw[Bi h,Ring.intCast_sub,Ring.intCast_one];congr 1;generalize(p -1)/2=k
  induction k with
  |zero=>rw[Xp,Semiring.pow_zero,Ring.intCast_one]
  |succ k b=>rw[Xq,Ring.intCast_mul,<-b,aH]
theorem Hq(b:af p){P f:F p}(h:cu P){n:Int}(e:Dd P (f -((n:Int):F p))):Dd P (sq p f)↔sq p ((n:Int):F p)=0:=by obtain⟨c,a⟩:=LC (p:=p) n;have d:Qt.mk (Pr P) f=((n:Int):Kf P):=mk_eq.mpr e;rw[<-Kf.zero,Pc,d,a,a,oH b h,bY]
theorem LD(a:af p)(m:Int):sq p ((m:Int):F p)=0↔sq p (((m+p:Int):Int):F p)=0:=by
 have:(((m+p:Int):Int):F p)=((m:Int):F p):=by rw[Ring.intCast_add,Ring.intCast_natCast,(F.chr a).z];grind
 rw[this]
theorem jR(a:af p):(1:F p)≠0:=λz=>by have:=jE a;rw[z,bZ]at this;cases this
theorem Pd(a:af p):¬(sq p (((0:Int):Int):F p)=0↔sq p (((1:Int):Int):F p)=0):=by
 rw[Ring.intCast_zero,Ring.intCast_one];unfold sq;have c:=a.1;split
 .intro h;exact jR a (h.mp rfl)
 .rename_i n2
  have b:1<=(p -1)/2:=by lia
  intro h;have:=h.mpr (by rw[one_pow];grind);rw[zero_pow (by lia)]at this;exact jR a (by grind)
theorem B8(c:af p){M s:F p}(y:M≠0)(E:∀Q,Dd (Q*Q) M->dg Q=1)(g:∀P,cu P->Dd P M->∃n:Int,Dd P (s -((n:Int):F p)))(H:2<=dg s)(G:dg s<dg M):
 ∃t:Nat,t<p/\∃P Q,cu P/\cu Q/\Dd P M/\Dd Q M/\Dd P (sq p (s+(((t:Nat):Int):F p)))/\¬Dd Q (sq p (s+(((t:Nat):Int):F p))):=by
 obtain⟨P,i,k⟩:=gb c _ M (BM _) (by lia);obtain⟨a,C⟩:=g P i k;have h:∃Q,cu Q/\Dd Q M/\¬Dd Q (s -((a:Int):F p)):=by
  apply FS;intro x;have D:Dd M (s -((a:Int):F p)):=Ft c _ (BM _) y E λQ d f=>FS λz=>x ⟨Q,d,f,z⟩;have I:dg (s -((a:Int):F p))<=dg s:=by rw[show s -((a:Int):F p)=s+(((-a:Int):Int):F p) by rw[Ring.intCast_neg];grind];exact Lz (BM _) (Hm (qy c _) (by lia))
  by_cases z:s -((a:Int):F p)=0
  .have:s=((a:Int):F p):=by grind
   have:=qy c a;grind
  .have:=D.len c z;lia
 obtain⟨Q,d,f,v⟩:=h;obtain⟨b,u⟩:=g Q d f;have ab:¬(p:Int)∣b -a:=λz=>v (by
  have e:((b:Int):F p)=((a:Int):F p):=by have:=bY (p:=p)|>.mpr z;rw[Ring.intCast_sub]at this;grind
  rw[<-e];exact u)
 obtain⟨t,B,r⟩:=B7 c (φ:=λm=>sq p ((m:Int):F p)=0) (LD c) (Pd c) ab;have q:Dd P (sq p (s+(((t:Nat):Int):F p)))↔sq p (((a+t:Int):Int):F p)=0:=Hq c i (by obtain⟨w,A⟩:=C;exact⟨w,by rw[Ring.intCast_add];grind⟩);have o:Dd Q (sq p (s+(((t:Nat):Int):F p)))↔sq p (((b+t:Int):Int):F p)=0:=Hq c d (by obtain⟨w,A⟩:=u;exact⟨w,by rw[Ring.intCast_add];grind⟩);refine⟨t,B,?_⟩;by_cases j:Dd P (sq p (s+(((t:Nat):Int):F p)))
 .exact⟨P,Q,i,d,k,f,j,λl=>r ⟨λ_=>o.mp l,λ_=>q.mp j⟩⟩
 .refine⟨Q,P,d,i,f,k,?_,j⟩;exact FS λl=>r ⟨λz=>absurd (q.mpr z) j,λz=>absurd (o.mpr z) l⟩
theorem B9{α:Type}:∀(A B:List α),A.Pairwise (·≠·)->(∀x∈A,x∈B)->A.length<=B.length
 |[],B,_,_=>KE _
 |x::A,B,h,k=>by
  have h':=WI.mp h;obtain⟨s,t,e⟩:=VW (k x Da);have:=B9 A (s++t) h'.2 λy a=>by
   have:=k y (Dx _ a);rw[e]at this;rcases Fs.mp this with z|z
   .exact N0 _ z
   .rcases FV.mp z with z|z
    .exact absurd z.symm (h'.1 y a)
    .exact Fk _ z
  rw[e];rw[Fm]at this⊢;rw[Eb,Eb];lia
noncomputable def en(p:Nat):Nat->List (List Int)
 |0=>[[]]
 |n+1=>(Ea p).flatMap λc=>(en p n).map (((c:Nat):Int)::·)
theorem Ca:∀n,(en p n).length=p^n
 |0=>rfl
 |n+1=>by
  show((Ea p).flatMap λc=>(en p n).map (((c:Nat):Int)::·)).length=_;rw[List.length_flatMap];have:(Ea p).map (λc=>((en p n).map (((c:Nat):Int)::·)).length)=(Ea p).map λ_=>p^n:=PP λc _=>by rw[AN,Ca n]
  rw[this,SO,List.sum_replicate_nat,GE,NY,U2]
theorem Cb:∀(l:List Int),(∀x∈l,0<=x/\x<p)->l∈en p l.length
 |[],_=>DL.mpr rfl
 |c::l,h=>by have hc:=h c Da;show c::l∈(Ea p).flatMap _;refine List.mem_flatMap.mpr ⟨c.toNat,Kk.mpr (by lia),Hc.mpr ⟨l,Cb l λx a=>h x (Dx _ a),?_⟩⟩;rw[WZ hc.1]
theorem Se(a:af p){P:F p}(h:cu P)(y:Kf P):y∈(en p (dg P -1)).map λl=>(Qt.mk (Pr P) (fL p l):Kf P):=by
 obtain⟨f,rfl⟩:=y.ex;have b:(0:Int)<p:=by have:=a.1;lia
 obtain⟨q,r,e,k⟩:=u7 a h.ne _ f (BM _);obtain⟨g,rfl⟩:=r.ex;have j:Qt.mk (Pr P) f=Qt.mk (Pr P) (Qt.mk (Ip p) g):=mk_eq.mpr ⟨q,by grind⟩;refine Hc.mpr ⟨(Ea (dg P -1)).map λi=>g.1 i%p,?_,?_⟩
 .have:=Cb (p:=p) ((Ea (dg P -1)).map λi=>g.1 i%p) λx c=>by obtain⟨i,_,rfl⟩:=Hc.mp c;exact⟨Pl _ (by lia),Nw _ b⟩
  rw[AN,GE]at this;exact this
 .rw[j];congr 1;refine Qt.eq.mpr λi=>?_;show(p:Int)∣((Ea (dg P -1)).map λi=>g.1 i%p).getD i 0+ -g.1 i;rw[AC,FK];by_cases d:i<dg P -1
  .rw[PQ d];show(p:Int)∣g.1 i%p+ -g.1 i;exact⟨-(g.1 i/p),by have:=Os (g.1 i) p;grind⟩
  .rw[FR (by rw[GE];lia)];show(p:Int)∣0+ -g.1 i;have:=eY (Qt.mk (Ip p) g) i (by lia);rw[Wp];exact XZ.mpr this
theorem Pg(f:af p){P:F p}(h:cu P):∃d,Od d P:=by
 have c:∃m,1<=m/\Dd P ((X:F p)^(p^m) -X):=by
  apply FS;intro g;have pw:((Ea (p^(dg P -1)+1)).map λj=>(Qt.mk (Pr P) X:Kf P)^(p^j)).Pairwise (·≠·):=by rw[Pi];refine Xm (λ{a b}(o:a<b) e=>?_) (WO (n:=p^(dg P -1)+1));refine g ⟨b -a,by lia,mk_eq.mp ?_⟩;rw[dR];refine tO f h (j:=a) ?_;rw[<-pow_mul,<-XU,show b -a+a=b by lia];exact e.symm
  have:=B9 _ _ pw λx _=>Se f h x;rw[AN,AN,GE,Ca]at this;lia
 obtain⟨d,⟨q,l⟩,least⟩:=least (P:=λm=>1<=m/\Dd P ((X:F p)^(p^m) -X)) c;exact⟨d,q,l,λm i r k=>by have:=least m ⟨i,k⟩;lia⟩
end Alg
namespace Alg
open Lean.Grind Num Sub VL
local instance {R : Type} [Gv R] : NatCast R := F1
local instance {R : Type} [IU R] : IntCast R := F2
variable{p:Nat}
theorem tS{l:List Int}{g:Po}(h:∀i,(p:Int)∣l.getD i 0 -g.1 i):fL p l=Qt.mk (Ip p) g:=Qt.eq.mpr h
theorem LF{l a b:List Int}(h:∀i,(p:Int)∣l.getD i 0 -(a.getD i 0+b.getD i 0)):fL p l=fL p a+fL p b:=tS (g:=c8 a+c8 b) h
theorem LG{l a b:List Int}(h:∀i,(p:Int)∣l.getD i 0 -(a.getD i 0 -b.getD i 0)):fL p l=fL p a -fL p b:=tS (g:=c8 a -c8 b) λi=>by show(p:Int)∣l.getD i 0 -(a.getD i 0+ -b.getD i 0);rw[<-Int.sub_eq_add_neg];exact h i
theorem Cc{l a b:List Int}(h:∀i,(p:Int)∣l.getD i 0 -cg (co a) (co b) i):fL p l=fL p a*fL p b:=tS (g:=c8 a*c8 b) h
theorem Ph{l a:List Int}{c:Int}(h:∀i,(p:Int)∣l.getD i 0 -c*a.getD i 0):fL p l=((c:Int):F p)*fL p a:=tS (g:=cst c*c8 a) λi=>by rw[Po.qu];exact h i
theorem oJ{ns b a:List Int}{Q:List Int}(h:pF p ns b (λi=>Q.getD i 0) a):fL p ns=fL p b*fL p Q+fL p a:=by have:fL p ns=Qt.mk (Ip p) (c8 Q*c8 b+c8 a):=tS (g:=c8 Q*c8 b+c8 a) h;rw[this];show fL p Q*fL p b+fL p a=_;grind
theorem gc:fL p [1]=1:=GM (Qt.mk (Ip p)) (Po.ext λi=>by cases i<;>rfl)
theorem bC:fL p []=0:=(oF []).symm
theorem iZ(q:0<p){ns a:List Int}(h:cW (ns.map (·%(p:Int))) a):fL p a=fL p ns/\Rm p a/\a.length<=ns.length:=by
 have m:a.length<=ns.length:=by obtain⟨k,c,e,_⟩:=h;rw[e,Re];rw[AN]at c;lia
 have hz:=h.last;have l:=h.mem;obtain⟨k,c,e,f,_⟩:=h;rw[AN]at c;refine⟨wY.mpr λi=>?_,⟨λx j=>?_,hz⟩,m⟩
 .have g:∀i,(ns.map (·%(p:Int))).getD i 0=ns.getD i 0%p:=λi=>by
   rw[AC,AC,FK];cases ns[i]? with
   |none=>show(0:Int)=0%p;rw[Int.zero_emod]
   |some x=>rfl
  have b:(p:Int)∣ns.getD i 0%p -ns.getD i 0:=⟨-(ns.getD i 0/p),by have:=Os (ns.getD i 0) p;grind⟩;by_cases n:i<k
  .have d:a.getD i 0=(ns.map (·%(p:Int))).getD i 0:=by rw[e,AC,AC,WE n]
   rw[d,g];exact b
  .have d:a.getD i 0=0:=outI (by rw[e,Re];lia);rw[d];by_cases o:i<ns.length
   .have:=f i (by lia) (by rw[AN];exact o);rw[g]at this;rw[this]at b;exact b
   .rw[outI (by lia)];exact⟨0,by lia⟩
 .obtain⟨y,_,rfl⟩:=Hc.mp (l x j);exact⟨Pl _ (by lia),Nw _ (by lia)⟩
theorem aU{l:List Int}(h:Rm p l):dg (fL p l)=l.length:=by
 rcases h.z with z|z
 .rw[z,bC,bZ];rfl
 .obtain⟨n,a⟩:∃n,l.length=n+1:=⟨l.length -1,by have:l≠[]:=λe=>z (by rw[e];rfl);have:=KF.mpr this;lia⟩;rw[a];refine wZ (g:=c8 l) (a▸Lx l) λk=>?_;have k:(p:Int)∣l.getD n 0:=k;rw[a,Kt]at z;have b:=h.b _ (getD_mem' (show n<l.length by lia));have:=UF (by lia) k;lia
theorem ve{l m:List Int}(c:Rm p l)(a:Rm p m)(e:fL p l=fL p m):l=m:=by
 refine DB c.z a.z λk=>?_;by_cases d:0<(p:Int)
 .exact mod_eq (cL d c.b k) (cL d a.b k) (wY.mp e k)
 .have f:∀{l:List Int},Rm p l->l=[]:=λ{l} h=>by
   cases l with
   |nil=>rfl
   |cons x l=>have:=h.b x Da;lia
  rw[f c,f a]
theorem cN{l:List Int}(a:Rm p l):fL p l=0↔l=[]:=⟨λe=>ve a ⟨by simp,.inl rfl⟩ (e.trans bC.symm),λe=>by rw[e,bC]⟩
structure Mn(p:Nat)(l:List Int):Prop where
 r:Rm p l
 n0:0<l.length
 one:l.getD (l.length -1) 0=1
theorem Ce{a b:Po}{n m:Nat}(f:∀i,n+1<=i->(p:Int)∣a.1 i)(d:∀i,m+1<=i->(p:Int)∣b.1 i):(p:Int)∣(a*b).1 (n+m) -a.1 n*b.1 m:=by
 show(p:Int)∣cg a.1 b.1 (n+m) -_;have c:cg a.1 b.1 (n+m)=a.1 n*b.1 m+sm (λj=>if j=n then 0 else a.1 j*b.1 (n+m -j)) (n+m+1):=by
  unfold cg;have h:∀j,a.1 j*b.1 (n+m -j)=(if j=n then a.1 j*b.1 (n+m -j)else 0)+(if j=n then 0 else a.1 j*b.1 (n+m -j)):=λj=>by
   by_cases z:j=n
   .rw[Bz z,Bz z,Tb]
   .rw[Bi z,Bi z,Wp]
  rw[cG (n+m+1) λj _=>h j,kO,pB n (λj=>a.1 j*b.1 (n+m -j)),Bz (by lia),show n+m -n=m by lia]
 rw[c,show a.1 n*b.1 m+sm (λj=>if j=n then 0 else a.1 j*b.1 (n+m -j)) (n+m+1) -a.1 n*b.1 m=sm (λj=>if j=n then 0 else a.1 j*b.1 (n+m -j)) (n+m+1) by lia];refine kR _ λj _=>?_;by_cases e:j=n
 .rw[Bz e];exact⟨0,by lia⟩
 .rw[Bi e];by_cases g:n+1<=j
  .exact UV (f j g) ⟨_,rfl⟩
  .exact UV (d (n+m -j) (by lia)) ⟨_,SF _ _⟩
theorem Mn.top{l:List Int}(h:Mn p l):∀i,l.length -1+1<=i->(p:Int)∣(c8 l).1 i:=λi a=>by show(p:Int)∣l.getD i 0;rw[outI (by have:=h.n0;lia)];exact⟨0,by lia⟩
theorem Mn.Vt(j:af p){a b q:List Int}(c:Mn p a)(f:Mn p b)(d:Rm p q)(e:fL p a=fL p b*fL p q):Mn p q:=by
 have k:fL p a≠0:=λz=>by have:=c.n0;rw[(cN c.r).mp z]at this;cases this
 have h:q≠[]:=λz=>k (by rw[e,z,bC];grind);have u:fL p b≠0:=λz=>k (by rw[e,z];grind);have m:=KF.mpr h;have n:=bz j u (λz=>h ((cN d).mp z));rw[<-e,aU c.r,aU f.r,aU d]at n;have x:=f.n0;have y:=c.n0;refine⟨d,m,?_⟩;have l:∀i,q.length -1+1<=i->(p:Int)∣(c8 q).1 i:=λi w=>by show(p:Int)∣q.getD i 0;rw[outI (by lia)];exact⟨0,by lia⟩
 have t:=Ce f.top l;have o:=Qt.eq.mp (show Qt.mk (Ip p) (c8 a)=Qt.mk (Ip p) (c8 b*c8 q)from e) (b.length -1+(q.length -1));have g:(p:Int)∣a.getD (b.length -1+(q.length -1)) 0+ -(c8 b*c8 q).1 (b.length -1+(q.length -1)):=o;have t:(p:Int)∣(c8 b*c8 q).1 (b.length -1+(q.length -1)) -b.getD (b.length -1) 0*q.getD (q.length -1) 0:=t;rw[show b.length -1+(q.length -1)=a.length -1 by lia]at g t;rw[c.one]at g;rw[f.one,XY]at t;have:=SL g t;have s:=d.b _ (getD_mem' (show q.length -1<q.length by lia));have v:=j.1;exact(mod_eq ⟨by decide,by lia⟩ s (by rw[show(1:Int) -q.getD (q.length -1) 0=1+ -(c8 b*c8 q).1 (a.length -1)+((c8 b*c8 q).1 (a.length -1) -q.getD (q.length -1) 0) by lia];exact this)).symm
end Alg
namespace VL
open PySem PySem.Spec
open PyProof.Rows hiding St
open L2 Num Alg
theorem vf(n:Nat)(f:Nat->Int)(i:Nat):((Ea n).map f).getD i 0=if i<n then f i else 0:=by
 rw[AC,FK];by_cases a:i<n
 .rw[PQ a,Bz a];rfl
 .rw[FR (by rw[GE];lia),Bi a];rfl
noncomputable def qA:List CS:=[.ret (.call 0 [(.call 1 [(.var 0),(.var 1)]),(.var 2)])]
noncomputable def gf:bf:=λd Q _=>∃(a b:List Int)(p:Nat),d=[wI a,wI b,.int p]/\(0<p/\a.length<=100/\b.length<=100)/\∀c,Rm p c->fL p c=fL p a+fL p b->c.length<=max a.length b.length->Q (wI c)
theorem y9{G:Nat->W}{m:Md}(c:List W)(Q:W->Prop)(R:Addr->Prop)(h:gf c Q R):wSs (bI [cU,dQ]) G qA (bH m Q R) (au 3 c):=by
 obtain⟨a,b,p,rfl,⟨g,s,q⟩,n⟩:=h;show wSs _ _ qA _ [some (wI a),some (wI b),some (.int p)];unfold qA;fin2;refine⟨a,b,rfl,by lia,by lia,λf tr=>?_⟩;have k:=kP tr;rw[AN,GE]at k;refine⟨f,p,rfl,by lia,by lia,λj o=>?_⟩;obtain⟨e,r,l⟩:=iZ g o;refine n j r (e.trans (LF λi=>?_)) (by lia);rw[pC tr,vf];by_cases d:i<max a.length b.length
 .rw[Bz d];exact⟨0,by lia⟩
 .rw[Bi d,outI (by lia),outI (by lia)];exact⟨0,by lia⟩
noncomputable def cK:bf:=λd Q _=>∃(a b:List Int)(p:Nat),d=[wI a,wI b,.int p]/\(0<p/\p<2^40/\a.length<=100/\b.length<=100/\Rm p b)/\∀c,Rm p c->fL p c=fL p a -fL p b->c.length<=max a.length b.length->Q (wI c)
theorem vg{G:Nat->W}{m:Md}(c:List W)(Q:W->Prop)(R:Addr->Prop)(h:cK c Q R):wSs (bI [cU,fG]) G qA (bH m Q R) (au 3 c):=by
 obtain⟨a,b,p,rfl,⟨j,v,u,t,g⟩,q⟩:=h;show wSs _ _ qA _ [some (wI a),some (wI b),some (.int p)];unfold qA;fin2;refine⟨a,b,40,rfl,by lia,by lia,by decide,λx o=>by have:=g.b x o;lia,λf tr=>?_⟩;have n:=kP tr;rw[AN,GE]at n;refine⟨f,p,rfl,by lia,by lia,λk s=>?_⟩;obtain⟨e,r,l⟩:=iZ j s;refine q k r (e.trans (LG λi=>?_)) (by lia);rw[pC tr,vf];by_cases d:i<max a.length b.length
 .rw[Bz d];exact⟨0,by lia⟩
 .rw[Bi d,outI (by lia),outI (by lia)];exact⟨0,by lia⟩
noncomputable def bF:bf:=λd Q _=>∃(a b:List Int)(p:Nat),d=[wI a,wI b,.int p]/\(0<p/\p<2^40/\a.length<=100/\b.length<=100/\Rm p a/\Rm p b)/\∀c,Rm p c->fL p c=fL p a*fL p b->c.length<=a.length+b.length -1->Q (wI c)
theorem vh{G:Nat->W}{m:Md}(k:List W)(Q:W->Prop)(R:Addr->Prop)(h:bF k Q R):wSs (bI [cU,fH]) G qA (bH m Q R) (au 3 k):=by
 obtain⟨a,b,p,rfl,⟨s,J,H,E,q,o⟩,w⟩:=h;show wSs _ _ qA _ [some (wI a),some (wI b),some (.int p)];unfold qA;fin2;refine⟨a,b,rfl,by lia,by lia,λx v y u=>f7 (p:=p) (by lia) (q.b x v) (o.b y u),?_⟩;have j:∀d:List Int,d.length<=a.length+b.length -1->(∀i,d.getD i 0=cg (co a) (co b) i)->cU [wI d,.int p] Q R:=λd I A=>by refine⟨d,p,rfl,by lia,by lia,λt D=>?_⟩;obtain⟨e,r,l⟩:=iZ s D;refine w t r (e.trans (Cc λi=>?_)) (by lia);rw[A];exact⟨0,by lia⟩
 by_cases z:a=[]\/b=[]
 .rw[Bz z];refine j [] (KE _) λi=>?_;rcases z with rfl|rfl
  .show(0:Int)=cg (co []) (co b) i;rw[gh (f:=co []) (f':=λi=>0*co b i) (λi=>by show(0:Int)=0*_;lia) (λ_=>rfl),iD];lia
  .show(0:Int)=cg (co a) (co []) i;rw[gh (g:=co []) (g':=λi=>0*co a i) (λ_=>rfl) (λi=>by show(0:Int)=0*_;lia),DC];lia
 .rw[Bi z];have C:a≠[]:=λe=>z (.inl e);have B:b≠[]:=λe=>z (.inr e);have:=KF.mpr C;have:=KF.mpr B;refine j _ (by unfold tabI;rw[AN,GE];exact BM _) λi=>?_;unfold tabI;rw[vf];by_cases c:i<a.length+b.length -1
  .rw[Bz c,GG]
  .rw[Bi c,pG (n:=a.length) (m:=b.length) (λi c=>outI c) (λi c=>outI c) (by lia)]
noncomputable def jS:List CS:=[.iff (.cmp .Eq (.bin .Mod (.var 1) (.int 2)) (.int 1)) [.set 4 (.ix (.call 0 [(.call 1 [(.var 4),(.var 0),(.var 3)]),(.var 2),(.var 3)]) (.int 1))] [],.set 1 (.bin .FloorDiv (.var 1) (.int 2)),.iff (.cmp .Gt (.var 1) (.int 0)) [.set 0 (.ix (.call 0 [(.call 1 [(.var 0),(.var 0),(.var 3)]),(.var 2),(.var 3)]) (.int 1))] []]
noncomputable def gX:List CS:=[.set 4 (.lst [(.int 1)]),.t7 (.cmp .Gt (.var 1) (.int 0)) jS,.ret (.var 4)]
structure Pw(p:Nat)(row other:List Int)(e:Nat):Prop where
 pr:af p
 fM:p<2^40
 r:Rm p row
 o:Rm p other
 l2:2<=other.length
 vj:other.length<=50
 lr:row.length<=50
noncomputable def dw:bf:=λc Q _=>∃(b a:List Int)(e p:Nat),c=[wI b,.int e,wI a,.int p]/\Pw p b a e/\∀r,Rm p r->r.length<a.length->Dd (fL p a) (fL p r -fL p b^e)->Q (wI r)
theorem jF{d:Nat->bf}{G:Nat->W}{c:CE}{b:List CS}{D:Dn}{a:Ev}{α:Type}(S:α->Ev)(J:α->Prop)(f:α->Nat)(e:α)(i:a=S e)(h:J e)(g:∀s,J s->wE d G (λ_=>False) c (S s) λx=>truth x (Qv S J f (wSs d G b) D s)):wS d G (.t7 c b) D a:=by show D3 (λa Q=>wE d G (λ_=>False) c a λx=>truth x Q) (wSs d G b) D a;exact jy S J f e i h g
theorem Hr{a b o:List Int}{p:Nat}{K:W->Prop}{R:Addr->Prop}(c:af p)(d:p<2^40)(k:Rm p a)(j:Rm p b)(g:Rm p o)(v:2<=o.length)(s:o.length<=50)(u:a.length<=50)(t:b.length<=50)
 (h:∀r,Rm p r->r.length<o.length->Dd (fL p o) (fL p r -fL p a*fL p b)->K (wI r)):bF [wI a,wI b,.int p] (λx=>aQ [x,wI o,.int p] (λy=>GN y (.int 1) K) R) R:=by
 have n:0<p:=by have:=c.1;lia
 refine⟨a,b,p,rfl,⟨n,d,by lia,by lia,k,j⟩,λq i e l=>?_⟩;refine⟨q,o,p,rfl,⟨c,by exact_mod_cast d,by lia,by lia,by lia,i,g⟩,λm f dv=>?_⟩;refine⟨_,rfl,h f dv.r dv.lr ⟨-fL p m,?_⟩⟩;have:=oJ dv.eq;rw[e]at this;grind
theorem vm{G:Nat->W}{m:Md}(J:List W)(Q:W->Prop)(R:Addr->Prop)(h:dw J Q R):wSs (bI [aQ,bF]) G gX (bH m Q R) (au 5 J):=by
 obtain⟨c,o,E,p,rfl,⟨C,S,U,M,P,K,lr⟩,hq⟩:=h;show wSs _ _ gX _ [some (wI c),some (.int E),some (wI o),some (.int p),none];unfold gX;have p2:=C.1;have Y:Rm p [1]:=⟨λx hx=>by rw[DL.mp hx];exact⟨by decide,by lia⟩,.inr (by show(1:Int)≠0;decide)⟩;refine aq (λa=>a=[some (wI c),some (.int E),some (wI o),some (.int p),some (wI [1])]) (λN D=>?_) ?_
 .fin2;exact⟨aj (by simp),D _ rfl⟩
 rintro _ rfl;refine aq (λa=>∃(b r:List Int)(o1:Option W),(Rm p r/\r.length<o.length/\Dd (fL p o) (fL p r -fL p c^E))/\a=[some (wI b),o1,some (wI o),some (.int p),some (wI r)]) (λN D=>?_) ?_
 .refine jF (α:=List Int×Nat×List Int) (λs=>[some (wI s.1),some (.int s.2.1),some (wI o),some (.int p),some (wI s.2.2)]) (λs=>Rm p s.1/\s.1.length<=50/\Rm p s.2.2/\s.2.2.length<o.length/\Dd (fL p o) (fL p s.2.2*fL p s.1^s.2.1 -fL p c^E)) (λs=>s.2.1) (c,E,[1]) rfl ⟨U,lr,Y,by show 1<_;lia,0,by rw[gc];grind⟩ ?_;rintro⟨b,e,r⟩ ⟨n,k,v,I,q,i⟩;dsimp only at n k v I i⊢;fin2;refine cA (λw=>?_) (λw=>?_)
  .have e0:=Bn w;unfold jS;refine aq (λa=>∃d,(Rm p d/\d.length<o.length/\Dd (fL p o) (fL p d -fL p r*fL p b^(e%2)))/\a=[some (wI b),some (.int e),some (wI o),some (.int p),some (wI d)]) (λN1 A=>?_) ?_
   .fin2;refine⟨by decide,?_⟩;by_cases f:(e:Int).fmod 2=1
    .rw[Bz (Do f)];have H:e%2=1:=by rw[Num.fmod_eq]at f;lia
     refine Hr C S v n M P K (by lia) k λd u y t=>A _ ⟨d,⟨u,y,?_⟩,rfl⟩;rw[H,show fL p b^1=fL p b by rw[aH,Gc];grind];exact t
    .rw[Bi (by rw[Fh];exact f)];have H:e%2=0:=by rw[Num.fmod_eq]at f;lia
     refine A _ ⟨r,⟨v,I,0,?_⟩,rfl⟩;rw[H,Gc];grind
   rintro _ ⟨d,⟨l,T,O,B⟩,rfl⟩;refine aq (λa=>a=[some (wI b),some (.int ((e/2:Nat):Int)),some (wI o),some (.int p),some (wI d)]) (λN1 A=>?_) ?_
   .fin2;refine⟨⟨by decide,by decide⟩,?_⟩;rw[show(e:Int).fdiv 2=((e/2:Nat):Int) by rw[W7 _ (by decide)];lia];exact A _ rfl
   rintro _ rfl;have L:fL p b^e=fL p b^(e%2)*(fL p b*fL p b)^(e/2):=by
    have e3:e=e%2+2*(e/2):=by lia
    have e4:fL p b*fL p b=fL p b^2:=by rw[aH,aH,Gc];grind
    rw[e4,<-pow_mul]
    conv=>lhs;rw[e3]
    exact OK _ _ _
   fin2;by_cases g:(0:Int)<((e/2:Nat):Int)
   .rw[Bz (Do g)];refine Hr C S n n M P K k k λj u y ⟨Z,t⟩=>⟨(j,e/2,d),rfl,⟨u,by show j.length<=50;lia,l,T,?_⟩,by show e/2<e;lia⟩;refine mk_eq.mp ?_;have a1:Qt.mk (Pr (fL p o)) (fL p j)=Qt.mk (Pr (fL p o)) (fL p b*fL p b):=mk_eq.mpr ⟨Z,t⟩;have a2:Qt.mk (Pr (fL p o)) (fL p d)=Qt.mk (Pr (fL p o)) (fL p r*fL p b^(e%2)):=mk_eq.mpr ⟨O,B⟩;have a3:Qt.mk (Pr (fL p o)) (fL p r*fL p b^e)=Qt.mk (Pr (fL p o)) (fL p c^E):=mk_eq.mpr ⟨q,i⟩;have m1:Qt.mk (Pr (fL p o)) (fL p d*fL p j^(e/2))=Qt.mk (Pr (fL p o)) (fL p d)*Qt.mk (Pr (fL p o)) (fL p j)^(e/2):=by rw[<-dR];rfl
    have m2:Qt.mk (Pr (fL p o)) (fL p r*fL p b^e)=Qt.mk (Pr (fL p o)) (fL p r*fL p b^(e%2))*Qt.mk (Pr (fL p o)) (fL p b*fL p b)^(e/2):=by rw[<-dR,L];exact GM (Qt.mk (Pr (fL p o))) (show fL p r*(fL p b^(e%2)*(fL p b*fL p b)^(e/2))=fL p r*fL p b^(e%2)*(fL p b*fL p b)^(e/2) by grind)
    show Qt.mk (Pr (fL p o)) (fL p d*fL p j^(e/2))=_;rw[m1,a1,a2,<-m2,a3]
   .rw[Bi (by rw[Fh];exact g)];refine⟨(b,e/2,d),rfl,⟨n,k,l,T,?_⟩,by show e/2<e;lia⟩;have e5:e/2=0:=by lia
    refine⟨O+q,?_⟩;show fL p d*fL p b^(e/2) -fL p c^E=_;rw[e5,Gc]at L⊢;grind
  .have e0:¬(0:Int)<(e:Int):=λz=>by rw[Do z]at w;cases w
   have e1:e=0:=by lia
   refine D _ ⟨b,r,_,⟨v,I,q,?_⟩,rfl⟩;rw[e1,Gc]at i;grind
 rintro _ ⟨b,r,o1,⟨u,y,t⟩,rfl⟩;fin2;exact hq r u y t
structure Gd(p:Nat)(A B d:List Int):Prop where
 m:Mn p d
 a:Dd (fL p d) (fL p A)
 b:Dd (fL p d) (fL p B)
 i:∃s t,fL p d=s*fL p A+t*fL p B
noncomputable def Ht:List CS:=[.CM [7,8] (.call 0 [(.var 0),(.var 1),(.var 2)]),.par [0,1] [(.var 1),(.var 8)],.par [3,4] [(.var 4),(.call 1 [(.var 3),(.call 2 [(.var 7),(.var 4),(.var 2)]),(.var 2)])],.par [5,6] [(.var 6),(.call 1 [(.var 5),(.call 2 [(.var 7),(.var 6),(.var 2)]),(.var 2)])]]
noncomputable def LH:List CS:=[.par [3,4] [(.lst [(.int 1)]),(.lst [])],.par [5,6] [(.lst []),(.lst [(.int 1)])],.t7 (.cmp .NotEq (.var 1) (.lst [])) Ht,.set 9 (.call 3 [(.ix (.var 0) (.neg (.int 1))),(.var 2)]),.ret (.tup [(.call 4 [(.call 5 [(.var 0),(.var 9)]),(.var 2)]),(.call 4 [(.call 5 [(.var 3),(.var 9)]),(.var 2)]),(.call 4 [(.call 5 [(.var 5),(.var 9)]),(.var 2)])])]
noncomputable def bU:bf:=λa Q _=>∃(A B:List Int)(p:Nat),a=[wI A,wI B,.int p]/\(af p/\p<2^40/\Rm p A/\Rm p B/\A.length<=50/\B.length<=50/\¬(A=[]/\B=[]))/\∀d u v,Gd p A B d->Q (.tup [wI d,wI u,wI v])
structure Gs(p:Nat)(A B x y:List Int):Prop where
 rx:Rm p x
 ry:Rm p y
 lx:x.length<=50
 ly:y.length<=50
 dv:∀D,Dd D (fL p x)->Dd D (fL p y)->Dd D (fL p A)/\Dd D (fL p B)
 ix:∃s t,fL p x=s*fL p A+t*fL p B
 iy:∃s t,fL p y=s*fL p A+t*fL p B
 no:¬(x=[]/\y=[])
structure Gu(p:Nat)(x y u n:List Int):Prop where
 ru:Rm p u
 rn:Rm p n
 l1:u.length+y.length<=60
 l2:n.length+x.length<=60
theorem xq{x y u n q r:List Int}{p:Nat}{K:W->Prop}{R:Addr->Prop}(j:af p)(g:p<2^40)(h:Gu p x y u n)(dv:Hf p x y q r)(i:Rm p x)(s:x.length<=50)(o:0<y.length)(k:∀b,Gu p y r n b->K (wI b)):
 bF [wI q,wI n,.int p] (λz=>cK [wI u,z,.int p] K R) R:=by
 have f:0<p:=by have:=j.1;lia
 have lq:=dv.lq;have lr:=dv.lr;have l1:=h.l1;have l2:=h.l2;refine⟨q,n,p,rfl,⟨f,g,by lia,by lia,dv.q,h.rn⟩,λc d e l=>?_⟩;have t:c.length+y.length<=60:=by
  by_cases a:q=[]
  .have:c=[]:=(cN d).mp (by rw[e,a,bC];grind);rw[this];show 0+_<=60;lia
  .have:=KF.mpr a;lia
 have A:r.length<=x.length:=by
  by_cases a:q=[]
  .have:=ve i dv.r (by rw[oJ dv.eq,a,bC];grind);rw[this];exact BM _
  .have:=KF.mpr a;lia
 refine⟨u,c,p,rfl,⟨f,g,by lia,by lia,d⟩,λb m w v=>k b ⟨h.rn,m,by lia,by lia⟩⟩
theorem Fv{A B x y q r:List Int}{p:Nat}(h:Gs p A B x y)(dv:Hf p x y q r)(d:y≠[]):Gs p A B y r:=by
 have e:=oJ dv.eq;have lr:=dv.lr;have ly:=h.ly;obtain⟨s,t,k⟩:=h.ix;obtain⟨g,f,j⟩:=h.iy;refine⟨h.ry,dv.r,ly,by lia,λD ⟨a,c⟩ ⟨b,i⟩=>h.dv D ⟨a*fL p q+b,by rw[e,c,i];grind⟩ ⟨a,c⟩,h.iy,⟨s -g*fL p q,t -f*fL p q,?_⟩,λz=>d z.1⟩;have:fL p r=fL p x -fL p y*fL p q:=by rw[e];grind
 rw[this,k,j];grind
theorem vn{x:List Int}{y:Int}{p:Nat}{K:W->Prop}{R:Addr->Prop}(c:0<p)(k:p<2^40)(a:Rm p x)(l:x.length<=60)(j:0<=y/\y<p)(h:∀d,Rm p d->fL p d=((y:Int):F p)*fL p x->K (wI d)):iV [wI x,.int y] (λz=>cU [z,.int p] K R) R:=by refine⟨x,y,rfl,by lia,λz hz=>f7 (p:=p) (by exact_mod_cast k) j (a.b z hz),?_⟩;refine⟨_,p,rfl,by lia,by rw[AN];lia,λg tr=>?_⟩;obtain⟨e,r,_⟩:=iZ c tr;refine h g r (e.trans (Ph λi=>?_));rw[Sub.map_getD (f:=λz=>y*z) (by lia)];exact⟨0,by lia⟩
theorem Pn{x y:List Int}{Q:W->Prop}(h:∀k:Bool,(k=true↔x=y)->Q (.bl (!k))):eT .NotEq (wI x) (wI y) Q:=by
 have c:∀z:List Int,qV 9 (.lst (z.map W.int))=true:=λz=>IH.mpr λw d=>by obtain⟨i,_,rfl⟩:=Hc.mp d;exact kj i 8
 exact⟨.inl ⟨c x,c y⟩,λk f=>h k (f.trans ⟨λe=>(VJ (λa b e=>W.AE e)).mp (W.GK e),λe=>by rw[e]⟩)⟩
theorem nF{G:Nat->W}{m:Md}(ws:List W)(Q:W->Prop)(R:Addr->Prop)(h:bU ws Q R):wSs (bI [aQ,cK,bF,iW,cU,iV]) G LH (bH m Q R) (au 10 ws):=by
 obtain⟨A,B,p,rfl,⟨j,o,rA,rB,lA,lB,nz⟩,hq⟩:=h;show wSs _ _ LH _ [some (wI A),some (wI B),some (.int p),none,none,none,none,none,none,none];unfold LH;have p2:=j.1;have U:0<p:=by lia
 have r1:Rm p [1]:=⟨λx hx=>by rw[DL.mp hx];exact⟨by decide,by lia⟩,.inr (by show(1:Int)≠0;decide)⟩;have r0:Rm p []:=⟨λx hx=>(by cases hx),.inl rfl⟩;refine aq (λc=>c=[some (wI A),some (wI B),some (.int p),some (wI [1]),some (wI []),none,none,none,none,none]) (λN l=>?_) ?_
 .fin2;exact⟨aj (by simp),aj (by simp),rfl,l _ rfl⟩
 rintro _ rfl;refine aq (λc=>c=[some (wI A),some (wI B),some (.int p),some (wI [1]),some (wI []),some (wI []),some (wI [1]),none,none,none]) (λN l=>?_) ?_
 .fin2;exact⟨aj (by simp),aj (by simp),rfl,l _ rfl⟩
 rintro _ rfl;refine aq (λc=>∃(x u v:List Int)(Z Y J I:Option W),(Gs p A B x []/\(Rm p u/\u.length<=60)/\Rm p v/\v.length<=60)/\c=[some (wI x),some (wI []),some (.int p),some (wI u),Z,some (wI v),Y,J,I,none]) (λN l=>?_) ?_
 .refine jF (α:=(List Int×List Int)×(List Int×List Int×List Int×List Int)×Option W×Option W) (λs=>[some (wI s.1.1),some (wI s.1.2),some (.int p),some (wI s.2.1.1),some (wI s.2.1.2.1),some (wI s.2.1.2.2.1),some (wI s.2.1.2.2.2),s.2.2.1,s.2.2.2,none]) (λs=>Gs p A B s.1.1 s.1.2/\Gu p s.1.1 s.1.2 s.2.1.1 s.2.1.2.1/\Gu p s.1.1 s.1.2 s.2.1.2.2.1 s.2.1.2.2.2) (λs=>s.1.2.length) ((A,B),([1],[],[],[1]),none,none) rfl ⟨⟨rA,rB,lA,lB,λD a b=>⟨a,b⟩,⟨1,0,by grind⟩,⟨0,1,by grind⟩,nz⟩,⟨r1,r0,by show 1+_<=60;lia,by show 0+_<=60;lia⟩,⟨r0,r1,by show 0+_<=60;lia,by show 1+_<=60;lia⟩⟩ ?_;rintro⟨⟨x,y⟩,⟨u,n,v,k⟩,J,I⟩ ⟨e,M,L⟩;dsimp only at e M L⊢;fin2;refine⟨aj (by simp),Pn (y:=[]) λkb hk=>?_⟩;fin2;refine cA (λi=>?_) (λi=>?_)
  .have f:y≠[]:=λz=>by rw[fE hk z]at i;cases i
   have P:=KF.mpr f;have lx:=e.lx;have ly:=e.ly;unfold Ht;refine aq (λc=>∃q r,Hf p x y q r/\c=[some (wI x),some (wI y),some (.int p),some (wI u),some (wI n),some (wI v),some (wI k),some (wI q),some (wI r),none]) (λN1 H=>?_) ?_
   .fin2;exact⟨x,y,p,rfl,⟨j,by exact_mod_cast o,P,by lia,by lia,e.rx,e.ry⟩,λq r dv=>⟨rfl,H _ ⟨q,r,dv,rfl⟩⟩⟩
   rintro _ ⟨q,r,dv,rfl⟩;have lr:=dv.lr;refine aq (λc=>c=[some (wI y),some (wI r),some (.int p),some (wI u),some (wI n),some (wI v),some (wI k),some (wI q),some (wI r),none]) (λN1 H=>?_) ?_
   .fin2;exact⟨rfl,H _ rfl⟩
   rintro _ rfl;refine aq (λc=>∃C,Gu p y r n C/\c=[some (wI y),some (wI r),some (.int p),some (wI n),some (wI C),some (wI v),some (wI k),some (wI q),some (wI r),none]) (λN1 H=>?_) ?_
   .fin2;exact xq j o M dv e.rx lx P λC g=>⟨rfl,H _ ⟨C,g,rfl⟩⟩
   rintro _ ⟨C,Vv,rfl⟩;fin2;exact xq j o L dv e.rx lx P λk' g=>⟨rfl,((y,r),(n,C,k,k'),_,_),rfl,⟨Fv e dv f,Vv,g⟩,lr⟩
  .have f:y=[]:=by
    cases kb with
    |true=>exact hk.mp rfl
    |false=>cases i
   subst f;have l1:=M.l1;have l2:=L.l1;exact l _ ⟨x,u,v,_,_,_,_,⟨e,⟨M.ru,by lia⟩,L.ru,by lia⟩,rfl⟩
 rintro _ ⟨x,u,v,Z,Y,J,I,⟨e,⟨ru,lu⟩,rv,lv⟩,rfl⟩;have S:x≠[]:=λz=>e.no ⟨z,rfl⟩;have xl:=KF.mpr S;have lx:=e.lx;have xz:x.getD (x.length -1) 0≠0:=e.rx.z.resolve_left S;have xb:=e.rx.b _ (Sub.getD_mem' (show x.length -1<x.length by lia));refine aq (λc=>∃y:Int,(0<=y/\y<p/\(p:Int)∣y*x.getD (x.length -1) 0 -1)/\c=[some (wI x),some (wI []),some (.int p),some (wI u),Z,some (wI v),Y,J,I,some (.int y)]) (λN l=>?_) ?_
 .have eL:=G9 (ns:=x) xl;unfold wI at l⊢;fin2;exact⟨_,eL,_,p,rfl,⟨j,by exact_mod_cast o,by lia,xb.2⟩,λy f E K=>l _ ⟨y,⟨f,E,K⟩,rfl⟩⟩
 rintro _ ⟨y,⟨f,E,K⟩,rfl⟩;fin2;refine vn U o e.rx (by lia) ⟨f,E⟩ λd T O=>?_;refine vn U o ru lu ⟨f,E⟩ λu' _ _=>?_;refine vn U o rv lv ⟨f,E⟩ λv' _ _=>⟨aj (by simp),hq d u' v' ?_⟩;have xf:fL p x≠0:=λz=>S ((cN e.rx).mp z);have yu:((y:Int):F p)*((x.getD (x.length -1) 0:Int):F p)=1:=by have:=(bY (p:=p)).mpr K;rw[Wz,Xb,W4]at this;grind
 have yf:((y:Int):F p)≠0:=λz=>jR j (by rw[<-yu,z];grind);have dl:d.length=x.length:=by have l1:=bz j yf xf;rw[<-O,aU T,aU e.rx]at l1;have:=qy j y;have:dg ((y:Int):F p)≠0:=λz=>yf (bg.mp z);lia
 obtain⟨s,t,e1⟩:=e.ix;have dx:Dd (fL p d) (fL p x):=⟨((x.getD (x.length -1) 0:Int):F p),by rw[O];grind⟩;obtain⟨da,db⟩:=e.dv (fL p d) dx ⟨0,by rw[bC];grind⟩;refine⟨⟨T,by lia,?_⟩,da,db,⟨((y:Int):F p)*s,((y:Int):F p)*t,by rw[O,e1];grind⟩⟩;have w:=Qt.eq.mp (show Qt.mk (Ip p) (c8 d)=Qt.mk (Ip p) (Alg.cst y*c8 x)from O) (d.length -1);have w:(p:Int)∣d.getD (d.length -1) 0+ -(Alg.cst y*c8 x).1 (d.length -1):=w;rw[Po.qu]at w;have w:(p:Int)∣d.getD (d.length -1) 0+ -(y*x.getD (d.length -1) 0):=w;rw[dl]at w⊢;have bd:=T.b _ (Sub.getD_mem' (show x.length -1<d.length by lia));refine mod_eq bd ⟨by decide,by lia⟩ ?_;have:=SL w K;rw[show d.getD (x.length -1) 0+ -(y*x.getD (x.length -1) 0)+(y*x.getD (x.length -1) 0 -1)=d.getD (x.length -1) 0 -1 by lia]at this;exact this
end VL
namespace Alg
open Lean.Grind Num Sub VL
local instance {R : Type} [Gv R] : NatCast R := F1
local instance {R : Type} [IU R] : IntCast R := F2
variable{p:Nat}
theorem Hu(f:F p):∃l:List Int,l.length=dg f/\f=fL p l:=by
 obtain⟨g,rfl⟩:=f.ex;refine⟨(Ea (dg (Qt.mk (Ip p) g))).map g.1,by rw[AN,GE],Qt.eq.mpr λi=>?_⟩;show(p:Int)∣g.1 i+ -(((Ea (dg (Qt.mk (Ip p) g))).map g.1).getD i 0);rw[AC,FK];by_cases a:i<dg (Qt.mk (Ip p) g)
 .rw[PQ a];show(p:Int)∣g.1 i+ -g.1 i;exact⟨0,by lia⟩
 .rw[FR (by rw[GE];lia)];show(p:Int)∣g.1 i+ -0;have:=eY (Qt.mk (Ip p) g) i (by lia);rw[show g.1 i+ -0=g.1 i by lia];exact this
theorem vo(f:af p){M P Q:F p}{d:Nat}(x:M≠0)(E:Dd M ((X:F p)^(p^d) -X))(D:cu P)(u:Od d P)(B:cu Q)(t:Dd P M)(m:Dd Q M)(n:¬Dd P Q):∃i,1<=i/\i+1<dg M/\∀c:Int,¬Dd M (tr p d ((X:F p)^i) -((c:Int):F p)):=by
 apply FS;intro v;have C:=F.chr f;obtain⟨i,K,A⟩:=yZ f E D u B t m n;have one:∀k,k+1<dg M->∃c:Int,Dd M (tr p d ((X:F p)^k) -((c:Int):F p)):=λk g=>by
  by_cases y:1<=k
  .exact FS λz=>v ⟨k,y,g,λc w=>z ⟨c,w⟩⟩
  .refine⟨(d:Int),0,?_⟩;have H:k=0:=by lia
   rw[H,Semiring.pow_zero];have:∀d:Nat,tr p d (1:F p)=(((d:Nat):Int):F p):=λd=>by
    unfold tr
    induction d with
    |zero=>exact Ring.intCast_zero.symm
    |succ d b=>show sR _ d+(1:F p)^(p^d)=_;rw[b,one_pow,Nz,Ring.intCast_add,Ring.intCast_one]
   rw[this];grind
 have h:∀(l:List Int)(k:Nat),k+l.length+1<=dg M->∃c:Int,Dd M (tr p d ((X:F p)^k*fL p l) -((c:Int):F p)):=λl=>by
  induction l with
  |nil=>intro k _;refine⟨0,0,?_⟩;rw[bC,show(X:F p)^k*0=0 by grind,qz C,Ring.intCast_zero];grind
  |cons a l b=>intro k g;rw[Eb]at g;obtain⟨J,s,R⟩:=one k (by lia);obtain⟨I,o,O⟩:=b (k+1) (by lia);refine⟨a*J+I,((a:Int):F p)*s+o,?_⟩;rw[aB,show(X:F p)^k*(((a:Int):F p)+X*fL p l)=((a:Int):F p)*(X:F p)^k+X^k*X*fL p l by grind,<-aH,B4 C,Ho C,Ring.intCast_add,Ring.intCast_mul];grind
 obtain⟨q,r,e,L⟩:=u7 f x _ ((X:F p)^i) (BM _);obtain⟨l,N,G⟩:=Hu r;obtain⟨c,j⟩:=h l 0 (by lia);rw[<-G,Semiring.pow_zero,show(1:F p)*r=r by grind]at j;refine A c (mk_eq.mp ?_);rw[<-mk_eq.mpr j,tR,tR];congr 1;exact mk_eq.mpr ⟨q,by rw[e];grind⟩
structure EP(p d:Nat)(row:List Int):Prop where
 pr:af p
 m:Mn p row
 d1:1<=d
 x:Dd (fL p row) ((X:F p)^(p^d) -X)
 od:∀P,cu P->Dd P (fL p row)->Od d P
theorem EP.ne{d:Nat}{a:List Int}(h:EP p d a):fL p a≠0:=λz=>by have:=h.m.n0;rw[(cN h.m.r).mp z]at this;cases this
theorem EP.Pe{d:Nat}{a:List Int}(h:EP p d a):∀Q,Dd (Q*Q) (fL p a)->dg Q=1:=λQ b=>O8 h.pr h.x h.d1 b h.ne
theorem EP.two{d:Nat}{a:List Int}(h:EP p d a)(l:d+1<a.length):∃P Q,cu P/\cu Q/\Dd P (fL p a)/\Dd Q (fL p a)/\¬Dd P Q:=by have c:=h.pr;have i:=h.ne;have f:=aU h.m.r;obtain⟨P,b,N,e⟩:=gb c _ (fL p a) (BM _) (by rw[f];lia);have q:=(h.od P b ⟨N,e⟩).dg c b;have j:N≠0:=λz=>i (by rw[e,z];grind);have k:=bz c b.ne j;rw[<-e,f,q]at k;obtain⟨Q,o,w,g⟩:=gb c _ N (BM _) (by lia);refine⟨P,Q,b,o,⟨N,e⟩,⟨P*w,by rw[e,g];grind⟩,λ⟨v,n⟩=>?_⟩;have:=h.Pe P ⟨v*w,by rw[e,g,n];grind⟩;have:=b.two;lia
theorem EP.part{d:Nat}{b a:List Int}(h:EP p d b)(e:Mn p a)(c:Dd (fL p a) (fL p b)):EP p d a:=⟨h.pr,e,h.d1,c.trans h.x,λP g f=>h.od P g (f.trans c)⟩
theorem EP.Qy{d:Nat}{c:List Int}(h:EP p d c)(l:c.length=d+1):cu (fL p c):=by
 have f:=h.pr;have k:=h.ne;have i:=aU h.m.r;have d1:=h.d1;obtain⟨P,g,N,e⟩:=gb f _ (fL p c) (BM _) (by rw[i];lia);have u:=(h.od P g ⟨N,e⟩).dg f g;have s:N≠0:=λz=>k (by rw[e,z];grind);have t:=bz f g.ne s;rw[<-e,i,u]at t;obtain⟨y,n⟩:=c9 f (show dg N=1 by lia);refine⟨by rw[i];lia,λa b q=>?_⟩;have:P=a*(b*y):=by
  have:P=P*N*y:=by
   have:P=P*(y*N):=by rw[n];grind
   grind
  rw[this,<-e,q];grind
 rcases g.no a (b*y) this with z|z
 .exact .inl z
 .right;have o:b≠0:=λz=>k (by rw[q,z];grind);have j:y≠0:=λz=>jR f (by rw[<-n,z];grind);have v:=bz f o j;have:dg b≠0:=λz=>o (bg.mp z);have:dg y≠0:=λz=>j (bg.mp z);lia
theorem EP.num{d:Nat}{a:List Int}(h:EP p d a){s f:F p}(i:Dd (fL p a) (s -tr p d f))(P:F p)(g:cu P)(c:Dd P (fL p a)):∃n:Int,Dd P (s -((n:Int):F p)):=by have b:=h.pr;have C:=Kf.chr b P;obtain⟨n,_,e⟩:=Hl b g (LB C (vd b (h.od P g c).yes (Qt.mk (Pr P) f)));refine⟨(n:Int),mk_eq.mp ?_⟩;rw[mk_eq.mpr (c.trans i),tR,e];exact(Ring.intCast_natCast n).symm
theorem xr:∀n:Nat,fL p (Ds n 0++[1])=(X:F p)^n
 |0=>by rw[Semiring.pow_zero];exact gc
 |n+1=>by rw[HL,List.cons_append,aB,xr n,aH,Ring.intCast_zero];grind
end Alg
namespace VL
open PySem PySem.Spec
open PyProof.Rows hiding St
open L2 Num Alg
theorem oM{d:Nat->bf}{G:Nat->W}{D:Dn}{c:Ev}{i:Nat}{e:CE}{b:List CS}{l:List W}(he:∀Q:W->Prop,Q (.lst l)->wE d G (λ_=>False) e c Q)(h:iI (λw f a=>wSs d G b f (a.set i (some w))) D l c):wS d G (.fr [i] true e b) D c:=he _ h
theorem i6{p:Nat}(b:af p)(n:Nat):Rm p (Ds n 0++[1]):=by
 have c:=b.1;refine⟨λx a=>?_,.inr ?_⟩
 .rcases Fs.mp a with h|h
  .rw[(List.mem_replicate.mp h).2];exact⟨by decide,by lia⟩
  .rw[DL.mp h];exact⟨by decide,by lia⟩
 .rw[Fm,W0,G0,Kt,AC,Kb (by rw[W0];exact BM _),W0,R0];show(1:Int)≠0;decide
noncomputable def qB:List CS:=[.set 4 (.ix (.call 0 [(.bin .Add (.bin .Mult (.lst [(.int 0)]) (.var 0)) (.lst [(.int 1)])),(.var 2),(.var 3)]) (.int 1)),.set 5 (.var 4),.fr [6] true (.jb [(.bin .Sub (.var 1) (.int 1))]) [.set 4 (.call 1 [(.var 4),(.var 3),(.var 2),(.var 3)]),.set 5 (.call 2 [(.var 5),(.var 4),(.var 3)])],.ret (.var 5)]
noncomputable def mP:bf:=λb Q _=>∃(n d:Nat)(a:List Int)(p:Nat),b=[.int n,.int d,wI a,.int p]/\(af p/\p<2^40/\Rm p a/\2<=a.length/\a.length<=50/\n<=50/\1<=d/\d<=50)/\∀r,Rm p r->r.length<a.length->Dd (fL p a) (fL p r -tr p d ((X:F p)^n))->Q (wI r)
theorem Fw{G:Nat->W}{m:Md}(z:List W)(Q:W->Prop)(R:Addr->Prop)(h:mP z Q R):wSs (bI [aQ,dw,gf]) G qB (bH m Q R) (au 7 z):=by
 obtain⟨n,d,f,p,rfl,⟨s,I,A,U,L,Wr,d1,Mu⟩,y⟩:=h;show wSs _ _ qB _ [some (.int n),some (.int d),some (wI f),some (.int p),none,none,none];unfold qB;have p2:=s.1;have T:0<p:=by lia
 refine aq (λg=>∃r,(Rm p r/\r.length<f.length/\Dd (fL p f) (fL p r -(X:F p)^n))/\g=[some (.int n),some (.int d),some (wI f),some (.int p),some (wI r),none,none]) (λN k=>?_) ?_
 .fin2;rw[G2,cS];refine⟨aj (by simp),by lia,by lia,aj (by simp;lia),aj (by simp),aj (by simp;lia),?_⟩;have e:(Ds n (W.int 0)++[W.int 1])=(Ds n (0:Int)++[1]).map W.int:=by rw[Iy,Ta];rfl
  rw[e];refine⟨Ds n 0++[1],f,p,rfl,⟨s,by exact_mod_cast I,by lia,by simp;lia,by lia,i6 s n,A⟩,λS M dv=>⟨_,rfl,k _ ⟨M,⟨dv.r,dv.lr,-fL p S,?_⟩,rfl⟩⟩⟩;have:=oJ dv.eq;rw[xr]at this;rw[this];grind
 rintro _ ⟨q,⟨H,E,D⟩,rfl⟩;refine aq (λg=>g=[some (.int n),some (.int d),some (wI f),some (.int p),some (wI q),some (wI q),none]) (λN k=>?_) ?_
 .fin2;exact k _ rfl
 rintro _ rfl;refine aq (λg=>∃(r:List Int)(B j:Option W),(Rm p r/\r.length<f.length/\Dd (fL p f) (fL p r -tr p d ((X:F p)^n)))/\g=[some (.int n),some (.int d),some (wI f),some (.int p),B,some (wI r),j]) (λN k=>?_) ?_
 .refine oM (l:=cY 0 1 (d -1)) (λQ y=>?_) ?_
  .fin2;rw[show(d:Int) -1=((d -1:Nat):Int) by lia];exact⟨by lia,by lia,y⟩
  refine bT (λi K=>∃(b r:List Int)(j:Option W),(i<=d -1/\(Rm p b/\b.length<f.length/\Qt.mk (Pr (fL p f)) (fL p b)=Qt.mk (Pr (fL p f)) (((X:F p)^n)^(p^i)))/\Rm p r/\r.length<f.length/\Qt.mk (Pr (fL p f)) (fL p r)=Qt.mk (Pr (fL p f)) (tr p (i+1) ((X:F p)^n)))/\K=[some (.int n),some (.int d),some (wI f),some (.int p),some (wI b),some (wI r),j]) ⟨q,q,none,⟨KE _,⟨H,E,?_⟩,H,E,?_⟩,rfl⟩ ?_ ?_
  .rw[Nf,show((X:F p)^n)^1=X^n by rw[aH,Gc];grind];exact mk_eq.mpr D
  .refine(mk_eq.mpr D).trans (GM (Qt.mk (Pr (fL p f))) ?_);show X^n=(0:F p)+(X^n)^(p^0);rw[Nf,show((X:F p)^n)^1=X^n by rw[aH,Gc];grind];grind
  .rintro i w _ N1 Y ⟨b,r,j,⟨hi,⟨O,lb,J⟩,C,lr,t⟩,rfl⟩ gw;obtain⟨Z,rfl⟩:=mD Y;fin2;refine⟨b,f,p,p,rfl,⟨s,I,O,A,U,L,by lia⟩,λu v x o=>?_⟩;refine⟨r,u,p,rfl,⟨T,by lia,by lia⟩,λP TM Vw Qx=>gw _ ⟨u,P,_,⟨by lia,⟨v,x,?_⟩,TM,by lia,?_⟩,rfl⟩⟩
   .rw[mk_eq.mpr o,dR,J,<-dR,<-pow_mul,<-NY]
   .have e1:Qt.mk (Pr (fL p f)) (fL p u)=Qt.mk (Pr (fL p f)) (((X:F p)^n)^(p^(i+1))):=by rw[mk_eq.mpr o,dR,J,<-dR,<-pow_mul,<-NY]
    rw[Vw];show Qt.mk (Pr (fL p f)) (fL p r)+Qt.mk (Pr (fL p f)) (fL p u)=_;rw[t,e1];rfl
  .rintro _ ⟨b,r,j,⟨_,_,C,lr,t⟩,rfl⟩;rw[Lu]at t;refine k _ ⟨r,_,_,⟨C,lr,mk_eq.mp ?_⟩,rfl⟩;rw[t,show d -1+1=d by lia]
 rintro _ ⟨r,B,j,⟨a,b,c⟩,rfl⟩;fin2;exact y r a b c
noncomputable def jG:List CS:=[.iff (.cmp .Eq (.var 2) (.int 2)) [.ret (.var 0)] [],.ret (.call 0 [(.call 1 [(.var 0),(.bin .FloorDiv (.bin .Sub (.var 2) (.int 1)) (.int 2)),(.var 1),(.var 2)]),(.lst [(.int 1)]),(.var 2)])]
noncomputable def i7:bf:=λb Q _=>∃(s a:List Int)(p:Nat),b=[wI s,wI a,.int p]/\(af p/\p<2^40/\Rm p s/\s.length<a.length/\Rm p a/\2<=a.length/\a.length<=50)/\∀r,Rm p r->r.length<=a.length->Dd (fL p a) (fL p r -sq p (fL p s))->Q (wI r)
theorem zc{G:Nat->W}{m:Md}(c:List W)(Q:W->Prop)(R:Addr->Prop)(h:i7 c Q R):wSs (bI [cK,dw]) G jG (bH m Q R) (au 3 c):=by
 obtain⟨s,a,p,rfl,⟨b,g,d,y,k,o,j⟩,f⟩:=h;show wSs _ _ jG _ [some (wI s),some (wI a),some (.int p)];unfold jG;have x:=b.1;have l:Rm p [1]:=i6 b 0;fin2;by_cases i:p=2
 .rw[Bz (Do (by lia))];refine f s d (by lia) ⟨0,?_⟩;unfold sq;rw[Bz i];grind
 .rw[Bi (by rw[Fh];lia)];refine⟨⟨by decide,by decide⟩,?_⟩;rw[show((p:Int) -1).fdiv 2=(((p -1)/2:Nat):Int) by rw[W7 _ (by decide)];lia];refine⟨s,a,(p -1)/2,p,rfl,⟨b,g,d,k,o,j,by lia⟩,λr A z w=>⟨aj (by simp),?_⟩⟩;refine⟨r,[1],p,rfl,⟨by lia,g,by lia,by simp,l⟩,λn v u t=>f n v (by rw[G0]at t;lia) ?_⟩;obtain⟨q,e⟩:=w;refine⟨q,?_⟩;unfold sq;rw[Bi i,u,gc,<-e];grind
noncomputable def xu:List CS:=[.set 3 (.bin .Add (.var 3) (.int 1)),.set 4 (.call 0 [(.var 3),(.var 1),(.var 0),(.var 2)])]
noncomputable def qC:List CS:=[.set 5 (.ix (.call 1 [(.call 2 [(.var 4),(.var 0),(.var 2)]),(.var 0),(.var 2)]) (.int 0)),.set 4 (.call 3 [(.var 4),(.lst [(.int 1)]),(.var 2)])]
noncomputable def mQ:List CS:=[.set 3 (.int 1),.set 4 (.call 0 [(.var 3),(.var 1),(.var 0),(.var 2)]),.t7 (.cmp .Lt (.blt .len [(.var 4)]) (.int 2)) xu,.set 5 (.lst [(.int 1)]),.t7 (.or [(.cmp .Eq (.blt .len [(.var 5)]) (.int 1)),(.cmp .Eq (.blt .len [(.var 5)]) (.blt .len [(.var 0)]))]) qC,.ret (.var 5)]
structure Hv(p d:Nat)(row part:List Int):Prop where
 m:Mn p part
 d:Dd (fL p part) (fL p row)
 l1:1<part.length
 l2:part.length<row.length
noncomputable def i8:bf:=λc Q _=>∃(a:List Int)(d p:Nat),c=[wI a,.int d,.int p]/\(EP p d a/\p<2^30/\d+1<a.length/\a.length<=50/\d<=50)/\∀b,Hv p d a b->Q (wI b)
theorem Cf{G:Nat->W}{m:Md}(ws:List W)(Q:W->Prop)(R:Addr->Prop)(h:i8 ws Q R):wSs (bI [mP,bU,i7,gf]) G mQ (bH m Q R) (au 6 ws):=by
 obtain⟨f,d,p,rfl,⟨E,ua,big,vj,Mu⟩,hq⟩:=h;show wSs _ _ mQ _ [some (wI f),some (.int d),some (.int p),none,none,none];unfold mQ;have A:=E.pr;have p2:=A.1;have fM:p<2^40:=XM ua (by decide);have d1:=E.d1;have ld:=aU E.m.r;obtain⟨P,Q',hP,hQ,pM,qM,Vx⟩:=E.two big;obtain⟨U,i1,iM,nc⟩:=vo A E.ne E.x hP (E.od P hP pM) hQ pM qM Vx;rw[ld]at iM;have go:∀(R:Addr->Prop)(n:Nat)(K:W->Prop),n<=50->(∀r,Rm p r->r.length<f.length->Dd (fL p f) (fL p r -tr p d ((X:F p)^n))->K (wI r))->mP [.int n,.int d,wI f,.int p] K R:=λR n K hn hK=>⟨n,d,f,p,rfl,⟨A,fM,E.m.r,by lia,vj,hn,d1,Mu⟩,hK⟩;refine aq (λk=>k=[some (wI f),some (.int d),some (.int p),some (.int ((1:Nat):Int)),none,none]) (λN I=>?_) ?_
 .fin2;exact I _ rfl
 rintro _ rfl;refine aq (λk=>∃s,(Rm p s/\s.length<f.length/\Dd (fL p f) (fL p s -tr p d ((X:F p)^1)))/\k=[some (wI f),some (.int d),some (.int p),some (.int ((1:Nat):Int)),some (wI s),none]) (λN I=>?_) ?_
 .fin2;exact go _ 1 _ (by decide) λr a b c=>I _ ⟨r,⟨a,b,c⟩,rfl⟩
 rintro _ ⟨s,⟨J,S,s3⟩,rfl⟩;refine aq (λk=>∃(s:List Int)(n:Nat)(o3:Option W),(Rm p s/\s.length<f.length/\2<=s.length/\Dd (fL p f) (fL p s -tr p d ((X:F p)^n)))/\k=[some (wI f),some (.int d),some (.int p),o3,some (wI s),none]) (λN I=>?_) ?_
 .refine jF (α:=Nat×List Int) (λz=>[some (wI f),some (.int d),some (.int p),some (.int (z.1:Nat)),some (wI z.2),none]) (λz=>z.1<=U/\Rm p z.2/\z.2.length<f.length/\Dd (fL p f) (fL p z.2 -tr p d ((X:F p)^z.1))) (λz=>U -z.1) (1,s) rfl ⟨i1,J,S,s3⟩ ?_;rintro⟨n,s⟩ ⟨hn,a,b,c⟩;dsimp only at hn a b c⊢;unfold wI;fin2;rw[AN];refine cA (λH=>?_) (λH=>?_)
  .have D:=Bn H;have lt:n<U:=WH hn λe=>by
    subst e;obtain⟨x,hx⟩:∃x:Int,fL p s=((x:Int):F p):=by
     cases s with
     |nil=>exact⟨0,by rw[bC,Oh]⟩
     |cons x s=>have:s=[]:=Oy.mp (by rw[Eb]at D;lia);exact⟨x,by rw[this,aB,bC];grind⟩
    obtain⟨w,L⟩:=c;exact nc x ⟨-w,by rw[<-hx];grind⟩
   unfold xu;fin2;rw[show((n:Nat):Int)+1=((n+1:Nat):Int) by lia];exact go _ (n+1) _ (by lia) λr a b c=>⟨(n+1,r),rfl,⟨lt,a,b,c⟩,by show U -(n+1)<U -n;lia⟩
  .have D:¬((s.length:Int)<2):=λz=>by rw[Do z]at H;cases H
   exact I _ ⟨s,n,_,⟨a,b,by lia,c⟩,rfl⟩
 clear J S s3 s;rintro _ ⟨s,n,o3,⟨J,S,s3,s4⟩,rfl⟩;obtain⟨o,ht0,P1,Q1,Vy,Ws,TN,Vz,VC,VD⟩:=B8 A E.ne E.Pe (λP hP hd=>E.num s4 P hP hd) (by rw[aU J];exact s3) (by rw[aU J,ld];exact S);have r1:Rm p [1]:=i6 A 0;refine aq (λk=>k=[some (wI f),some (.int d),some (.int p),o3,some (wI s),some (wI [1])]) (λN I=>?_) ?_
 .fin2;exact⟨aj (by simp),I _ rfl⟩
 rintro _ rfl;have rl:2<=f.length:=by lia
 refine aq (λk=>∃(j:List Int)(o4:Option W),Hv p d f j/\k=[some (wI f),some (.int d),some (.int p),o3,o4,some (wI j)]) (λN I=>?_) ?_
 .refine jF (α:=Nat×List Int×List Int) (λz=>[some (wI f),some (.int d),some (.int p),o3,some (wI z.2.1),some (wI z.2.2)]) (λz=>z.1<=o+1/\(Rm p z.2.1/\z.2.1.length<f.length/\fL p z.2.1=fL p s+(((z.1:Nat):Int):F p))/\Mn p z.2.2/\Dd (fL p z.2.2) (fL p f)/\(z.1=o+1->z.2.2.length≠1/\z.2.2.length≠f.length)) (λz=>o+1 -z.1) (0,s,[1]) rfl ⟨KE _,⟨J,S,?_⟩,⟨r1,Nat.one_pos,rfl⟩,⟨fL p f,by rw[gc];grind⟩,λz=>by cases z⟩ ?_
  .show fL p s=fL p s+(((0:Nat):Int):F p);rw[show((0:Nat):Int)=0 from rfl,Oh];grind
  rintro⟨t,u,j⟩ ⟨ht,⟨u1,u2,Z⟩,mp,dp,ne⟩;dsimp only at ht u1 u2 Z mp dp ne⊢;have O:j.length≠1->j.length≠f.length->Hv p d f j:=λa b=>by have:=mp.n0;have l:=dp.len A E.ne;rw[aU mp.r,ld]at l;exact⟨mp,dp,by lia,by lia⟩
  have C:t<o+1->wSs (bI [mP,bU,i7,gf]) G qC {nx:=WN (λz:Nat×List Int×List Int=>[some (wI f),some (.int d),some (.int p),o3,some (wI z.2.1),some (wI z.2.2)]) (λz=>z.1<=o+1/\(Rm p z.2.1/\z.2.1.length<f.length/\fL p z.2.1=fL p s+(((z.1:Nat):Int):F p))/\Mn p z.2.2/\Dd (fL p z.2.2) (fL p f)/\(z.1=o+1->z.2.2.length≠1/\z.2.2.length≠f.length)) (λz=>o+1 -z.1) (t,u,j),rt:=(bH m Q R).rt,bk:=N,ct:=WN (λz:Nat×List Int×List Int=>[some (wI f),some (.int d),some (.int p),o3,some (wI z.2.1),some (wI z.2.2)]) (λz=>z.1<=o+1/\(Rm p z.2.1/\z.2.1.length<f.length/\fL p z.2.1=fL p s+(((z.1:Nat):Int):F p))/\Mn p z.2.2/\Dd (fL p z.2.2) (fL p f)/\(z.1=o+1->z.2.2.length≠1/\z.2.2.length≠f.length)) (λz=>o+1 -z.1) (t,u,j),ex:=λ_=>False} [some (wI f),some (.int d),some (.int p),o3,some (wI u),some (wI j)]:=λlt=>by
   unfold qC;refine aq (λk=>∃g,(Mn p g/\Dd (fL p g) (fL p f)/\(t+1=o+1->g.length≠1/\g.length≠f.length))/\k=[some (wI f),some (.int d),some (.int p),o3,some (wI u),some (wI g)]) (λN1 gw=>?_) ?_
   .fin2;refine⟨u,f,p,rfl,⟨A,fM,u1,u2,E.m.r,rl,vj⟩,λr h1 h2 Y=>?_⟩;refine⟨r,f,p,rfl,⟨A,fM,h1,E.m.r,by lia,vj,λz=>by rw[z.2]at rl;cases rl⟩,λg u' v' B=>⟨_,rfl,gw _ ⟨g,⟨B.m,B.b,λe=>?_⟩,rfl⟩⟩⟩;have e:t=o:=by lia
    rw[e]at Z;rw[Z]at Y;obtain⟨a,b,hi⟩:=B.i;constructor
    .intro D;have d1:Dd P1 (fL p r):=by
      obtain⟨w,L⟩:=Y;obtain⟨M,q⟩:=TN;obtain⟨w2,t9⟩:=VC;exact⟨M*w+w2,by
       have:fL p r=fL p f*w+sq p (fL p s+(((o:Nat):Int):F p)):=by rw[<-L];grind
       rw[this,q,t9];grind⟩
     obtain⟨M,q⟩:=TN;obtain⟨w2,t9⟩:=d1;have VF:Dd P1 (fL p g):=⟨a*w2+b*M,by rw[hi,q,t9];grind⟩;have:=VF.len A (λz=>by have:=B.m.n0;rw[(cN B.m.r).mp z]at this;cases this);rw[aU B.m.r,D]at this;have:=Vy.two;lia
    .intro D;obtain⟨w,L⟩:=B.b;have g0:fL p g≠0:=λz=>by have:=B.m.n0;rw[(cN B.m.r).mp z]at this;cases this
     have w0:w≠0:=λz=>E.ne (by rw[L,z];grind);have T:=bz A g0 w0;rw[<-L,ld,aU B.m.r,D]at T;obtain⟨y,hy⟩:=c9 A (show dg w=1 by lia);refine VD ?_;obtain⟨v,hv⟩:=B.a;obtain⟨M,q⟩:=Vz;obtain⟨w3,VG⟩:=Y;have e1:fL p g=fL p f*y:=by
      have:fL p g=fL p g*(y*w):=by rw[hy];grind
      rw[this,L];grind
     have e2:sq p (fL p s+(((o:Nat):Int):F p))=fL p f*(y*v -w3):=by
      have:sq p (fL p s+(((o:Nat):Int):F p))=fL p r -fL p f*w3:=by rw[<-VG];grind
      rw[this,hv,e1];grind
     exact⟨M*(y*v -w3),by rw[e2,q];grind⟩
   rintro _ ⟨g,⟨g1,g2,g3⟩,rfl⟩;fin2;refine⟨aj (by simp),u,[1],p,rfl,⟨by lia,by lia,by simp⟩,λu' h1 h2 Y=>⟨(t+1,u',g),rfl,⟨by show t+1<=o+1;lia,⟨h1,?_,?_⟩,g1,g2,g3⟩,by show o+1 -(t+1)<o+1 -t;lia⟩⟩
   .show u'.length<f.length;rw[G0]at Y;lia
   .show fL p u'=fL p s+(((t+1:Nat):Int):F p);rw[h2,Z,gc,Nz,P9,W4];grind
  unfold wI at C⊢;fin2;rw[AN,AN];by_cases D:j.length=1
  .rw[Bz (Do (by lia))];refine cA (λ_=>C (WH ht λe=>(ne e).1 D)) λz=>by cases z
  .rw[Bi (by rw[Fh];lia)];refine cA (λH=>?_) (λH=>?_)
   .have T:j.length=f.length:=by have:=Bn H;lia
    exact C (WH ht λe=>(ne e).2 T)
   .have T:j.length≠f.length:=λz=>by rw[Do (by lia)]at H;cases H
    exact I _ ⟨j,_,O D T,rfl⟩
 rintro _ ⟨j,o4,hv,rfl⟩;fin2;exact hq j hv
noncomputable def qD(p:Nat):List (List Int)->F p
 |[]=>1
 |l::a=>fL p l*qD p a
theorem xw{p:Nat}:∀(a b:List (List Int)),qD p (a++b)=qD p a*qD p b
 |[],b=>by show qD p b=1*qD p b;grind
 |l::a,b=>by show fL p l*qD p (a++b)=fL p l*qD p a*qD p b;rw[xw a b];grind
theorem kq{p:Nat}:∀{a:List (List Int)}{l:List Int},l∈a->Dd (fL p l) (qD p a)
 |x::a,l,h=>by
  rcases FV.mp h with rfl|h
  .exact⟨qD p a,rfl⟩
  .obtain⟨q,b⟩:=kq h;exact⟨fL p x*q,by show fL p x*qD p a=_;rw[b];grind⟩
structure VH(p d:Nat)(row:List Int)(ls:List (List Int)):Prop where
 all:∀l∈ls,Mn p l/\cu (fL p l)/\l.length=d+1
 pw:ls.Pairwise (·≠·)
 pr:fL p row=qD p ls
noncomputable def cO:List CS:=[.iff (.cmp .Eq (.blt .len [(.var 0)]) (.int 1)) [.ret (.lst [])] [],.iff (.cmp .Eq (.blt .len [(.var 0)]) (.bin .Add (.var 1) (.int 1))) [.ret (.lst [(.var 0)])] [],.set 3 (.call 0 [(.var 0),(.var 1),(.var 2)]),.set 4 (.ix (.call 1 [(.var 0),(.var 3),(.var 2)]) (.int 0)),.ret (.bin .Add (.call 2 [(.var 3),(.var 1),(.var 2)]) (.call 2 [(.var 4),(.var 1),(.var 2)]))]
noncomputable def b9(k:Nat):bf:=λc Q _=>∃(a:List Int)(d p:Nat),c=[wI a,.int d,.int p]/\(EP p d a/\p<2^30/\a.length<=50/\d<=50/\a.length<=k)/\∀b,VH p d a b->b.length<=a.length->Q (.lst (b.map wI))
theorem vp{p:Nat}{b a q r:List Int}(d:af p)(dv:Hf p b a q r)(g:Mn p b)(mp:Mn p a)(i:Dd (fL p a) (fL p b)):r=[]/\Mn p q/\fL p b=fL p a*fL p q:=by
 have e:=oJ dv.eq;obtain⟨w,h⟩:=i;have c:r=[]:=by
  refine(cN dv.r).mp (FS λz=>?_);have:Dd (fL p a) (fL p r):=⟨w -fL p q,by
   have:fL p r=fL p b -fL p a*fL p q:=by rw[e];grind
   rw[this,h];grind⟩
  have:=this.len d z;rw[aU mp.r,aU dv.r]at this;have:=dv.lr;lia
 have f:fL p b=fL p a*fL p q:=by rw[e,c,bC];grind
 exact⟨c,g.Vt d mp dv.q f,f⟩
theorem nG{G:Nat->W}{m:Md}{k:Nat}(O:List W)(Q:W->Prop)(R:Addr->Prop)(h:b9 (k+1) O Q R):wSs (bI [i8,aQ,b9 k]) G cO (bH m Q R) (au 5 O):=by
 obtain⟨c,d,p,rfl,⟨E,H,vj,M,lk⟩,K⟩:=h;show wSs _ _ cO _ [some (wI c),some (.int d),some (.int p),none,none];unfold cO;have o:=E.pr;have n0:=E.m.n0;have d1:=E.d1;have J:=aU E.m.r;refine aq (λf=>c.length≠1/\f=[some (wI c),some (.int d),some (.int p),none,none]) (λN g=>?_) ?_
 .by_cases l1:c.length=1
  .have e:c=[1]:=by obtain⟨x,rfl⟩:=WQ.mp l1;have:=E.m.one;have this:x=1:=this;rw[this]
   have:=K [] ⟨λl t=>(by cases t),.nil,by rw[e];exact gc⟩ (KE _);unfold wI;fin2;rw[AN,Bz (Do (by lia))];exact⟨aj (by simp),this⟩
  .have g:=g _ ⟨l1,rfl⟩;unfold wI at g⊢;fin2;rw[AN,Bi (by rw[Fh];lia)];exact g
 rintro _ ⟨l1,rfl⟩;refine aq (λf=>c.length≠d+1/\f=[some (wI c),some (.int d),some (.int p),none,none]) (λN g=>?_) ?_
 .by_cases l2:c.length=d+1
  .have:=K [c] ⟨λl t=>by rw[DL.mp t];exact⟨E.m,E.Qy l2,l2⟩,XG _ _,by show _=fL p c*1;grind⟩ (by show 1<=_;lia);unfold wI at this⊢;fin2;rw[AN,Bz (Do (by lia))];exact⟨aj (by simp),this⟩
  .have g:=g _ ⟨l2,rfl⟩;unfold wI at g⊢;fin2;rw[AN,Bi (by rw[Fh];lia)];exact g
 rintro _ ⟨l2,rfl⟩;have L:d+1<c.length:=by obtain⟨P,U,S⟩:=gb o _ (fL p c) (BM _) (by rw[J];lia);have:=S.len o E.ne;rw[(E.od P U S).dg o U,J]at this;lia
 refine aq (λf=>∃a,Hv p d c a/\f=[some (wI c),some (.int d),some (.int p),some (wI a),none]) (λN g=>?_) ?_
 .fin2;exact⟨c,d,p,rfl,⟨E,H,L,vj,M⟩,λa j=>g _ ⟨a,j,rfl⟩⟩
 rintro _ ⟨a,j,rfl⟩;have Wt:=j.l1;have Wu:=j.l2;refine aq (λf=>∃b,(Mn p b/\fL p c=fL p a*fL p b)/\f=[some (wI c),some (.int d),some (.int p),some (wI a),some (wI b)]) (λN g=>?_) ?_
 .fin2;refine⟨c,a,p,rfl,⟨o,by have:=H;lia,by lia,by lia,by lia,E.m.r,j.m.r⟩,λq r dv=>⟨_,rfl,?_⟩⟩;obtain⟨_,mq,e⟩:=vp o dv E.m j.m j.d;exact g _ ⟨q,⟨mq,e⟩,rfl⟩
 rintro _ ⟨b,⟨I,e⟩,rfl⟩;have db:Dd (fL p b) (fL p c):=⟨fL p a,by rw[e];grind⟩;have Z:=E.part j.m j.d;have Y:=E.part I db;have TH:=bz o Z.ne Y.ne;rw[<-e,J,aU j.m.r,aU I.r]at TH;fin2;refine⟨a,d,p,rfl,⟨Z,H,by lia,M,by lia⟩,λB s Wv=>?_⟩;refine⟨b,d,p,rfl,⟨Y,H,by lia,M,by lia⟩,λA w Ww=>?_⟩;fin2;have C:=K (B++A) ⟨λl t=>(Fs.mp t).elim (s.all l) (w.all l),XX.mpr ⟨s.pw,w.pw,λx T y hy Qz=>?_⟩,by rw[xw,e,s.pr,w.pr]⟩ ?_
 .rw[Iy]at C;exact⟨aj (by rw[AN,AN];lia),C⟩
 .subst Qz;obtain⟨u,hu⟩:=kq T (p:=p);obtain⟨v,hv⟩:=kq hy (p:=p);have:=E.Pe (fL p x) ⟨u*v,by rw[e,s.pr,w.pr,hu,hv];grind⟩;have:=(s.all x T).2.1.two;lia
 .rw[Fm];have:B.length<=a.length -1/\A.length<=b.length -1:=by
   have D:∀(n:List (List Int)),(∀l∈n,Mn p l/\cu (fL p l)/\l.length=d+1)->dg (qD p n)=n.length*d+1:=λn=>by
    induction n with
    |nil=>intro _;show dg (1:F p)=0*d+1;rw[jE o];lia
    |cons l n ih=>intro h;have i:=ih λl t=>h l (Dx _ t);obtain⟨ml,il,ll⟩:=h l Da;have:=bz o il.ne (λz=>by rw[z,bZ]at i;lia:qD p n≠0);show dg (fL p l*qD p n)=(n.length+1)*d+1;rw[aU ml.r,ll,i]at this;rw[Qk];lia
   have ca:=D B s.all;have cb:=D A w.all;rw[<-s.pr,aU j.m.r]at ca;rw[<-w.pr,aU I.r]at cb;have m1:B.length*1<=B.length*d:=WY _ d1;have m2:A.length*1<=A.length*d:=WY _ d1;lia
  lia
noncomputable def Cg:List CS:=[.set 3 (.bin .Add (.var 3) (.int 1)),.set 1 (.var 4),.CM [4,5] (.call 0 [(.var 1),(.var 0),(.var 2)])]
noncomputable def gg:List CS:=[.set 3 (.int 0),.CM [4,5] (.call 0 [(.var 1),(.var 0),(.var 2)]),.t7 (.cmp .Eq (.var 5) (.lst [])) Cg,.ret (.tup [(.var 3),(.var 1)])]
structure Pu(p:Nat)(part left:List Int)(n:Nat)(out:List Int):Prop where
 m:Mn p out
 e:fL p left=fL p part^n*fL p out
 no:¬Dd (fL p part) (fL p out)
noncomputable def fN:bf:=λd Q _=>∃(a b:List Int)(p:Nat),d=[wI a,wI b,.int p]/\(af p/\p<2^30/\Mn p a/\2<=a.length/\a.length<=50/\Mn p b/\b.length<=50)/\∀(n:Nat) c,Pu p a b n c->Q (.tup [.int n,wI c])
theorem tT{G:Nat->W}{m:Md}(s:List W)(Q:W->Prop)(R:Addr->Prop)(h:fN s Q R):wSs (bI [aQ]) G gg (bH m Q R) (au 6 s):=by
 obtain⟨a,b,p,rfl,⟨o,O,mp,P,M,ml,B⟩,H⟩:=h;show wSs _ _ gg _ [some (wI a),some (wI b),some (.int p),none,none,none];unfold gg;have A:∀{R:Addr->Prop}{x:List Int}{K:W->Prop},Mn p x->x.length<=50->(∀q r,Hf p x a q r->K (.tup [wI q,wI r]))->aQ [wI x,wI a,.int p] K R:=λ{R x K} g v I=>⟨x,a,p,rfl,⟨o,by lia,by lia,by lia,by lia,g.r,mp.r⟩,I⟩;refine aq (λc=>c=[some (wI a),some (wI b),some (.int p),some (.int ((0:Nat):Int)),none,none]) (λN i=>?_) ?_
 .fin2;exact i _ rfl
 rintro _ rfl;refine aq (λc=>∃q r,Hf p b a q r/\c=[some (wI a),some (wI b),some (.int p),some (.int ((0:Nat):Int)),some (wI q),some (wI r)]) (λN i=>?_) ?_
 .fin2;exact A ml B λq r dv=>⟨rfl,i _ ⟨q,r,dv,rfl⟩⟩
 rintro _ ⟨q,r,dv,rfl⟩;refine aq (λc=>∃(n:Nat)(d:List Int)(u t:Option W),Pu p a b n d/\c=[some (wI a),some (wI d),some (.int p),some (.int (n:Int)),u,t]) (λN i=>?_) ?_
 .refine jF (α:=Nat×List Int×List Int×List Int) (λz=>[some (wI a),some (wI z.2.1),some (.int p),some (.int (z.1:Nat)),some (wI z.2.2.1),some (wI z.2.2.2)]) (λz=>Mn p z.2.1/\z.2.1.length<=50/\Hf p z.2.1 a z.2.2.1 z.2.2.2/\fL p b=fL p a^z.1*fL p z.2.1) (λz=>z.2.1.length) (0,b,q,r) rfl ⟨ml,B,dv,by show _=fL p a^0*_;rw[Gc];grind⟩ ?_;rintro⟨n,x,q,r⟩ ⟨g,v,dv,e⟩;dsimp only at g v dv e⊢;have J:=oJ dv.eq;fin2;refine⟨aj (by simp),BN (y:=[]) λk w=>?_⟩;fin2;refine cA (λf=>?_) (λf=>?_)
  .have j:=w.mp f;have dd:Dd (fL p a) (fL p x):=⟨fL p q,by rw[J,j,bC];grind⟩;obtain⟨_,l,eq⟩:=vp o dv g mp dd;have lq:=dv.lq;have:=l.n0;unfold Cg;fin2;rw[show((n:Nat):Int)+1=((n+1:Nat):Int) by lia];refine A l (by lia) λE D L=>⟨rfl,(n+1,q,E,D),rfl,⟨l,by show q.length<=50;lia,L,?_⟩,by show q.length<x.length;lia⟩;show fL p b=fL p a^(n+1)*fL p q;rw[e,eq,aH];grind
  .have j:r≠[]:=λz=>by rw[w.mpr z]at f;cases f
   refine i _ ⟨n,x,_,_,⟨g,e,λdd=>j ?_⟩,rfl⟩;exact(vp o dv g mp dd).1
 rintro _ ⟨n,d,u,t,C,rfl⟩;fin2;exact⟨aj (by simp),H n d C⟩
noncomputable def pW(x:List Int×Nat):W:=.tup [wI x.1,.int (x.2:Nat)]
noncomputable def dS(p:Nat):List (List Int×Nat)->F p
 |[]=>1
 |x::L=>fL p x.1^x.2*dS p L
theorem qE{p:Nat}(x:List Int×Nat):∀L:List (List Int×Nat),dS p (L++[x])=dS p L*fL p x.1^x.2
 |[]=>by show fL p x.1^x.2*1=1*_;grind
 |y::L=>by show fL p y.1^y.2*dS p (L++[x])=fL p y.1^y.2*dS p L*_;rw[qE x L];grind
structure PO(p:Nat)(row:List Int)(L:List (List Int×Nat)):Prop where
 all:∀x∈L,Mn p x.1/\cu (fL p x.1)/\1<=x.2
 pw:L.Pairwise λx y=>x.1≠y.1
 pr:fL p row=dS p L
 len:L.length<=row.length
noncomputable def Ci(x y:List Int×Nat):Prop:=x.1.length<y.1.length\/(x.1.length=y.1.length/\(x.1.reverse<y.1.reverse\/(x.1=y.1/\x.2<=y.2)))
noncomputable def i9:bf:=λb Q _=>∃L:List (List Int×Nat),b=[.lst (L.map pW)]/\L.length<=60/\∀a:List (List Int×Nat),a.Perm L->a.Pairwise Ci->Q (.lst (a.map pW))
noncomputable def bV:bf:=λb Q _=>∃(a:List Int)(p:Nat),b=[wI a,.int p]/\(af p/\p<2^30/\Mn p a/\a.length<=10)/\∀L,PO p a L->L.Pairwise Ci->Q (.lst (L.map pW))
theorem LI{p:Nat}(c:af p){P N f:F p}(d:cu P)(e:f=P*N)(j:f≠0)(h:dg N=1):cu f:=by
 have m:N≠0:=λz=>j (by rw[e,z];grind);have n:=bz c d.ne m;rw[<-e,h]at n;have:=d.two;obtain⟨y,i⟩:=c9 c h;refine⟨by lia,λa b l=>?_⟩;have:P=a*(b*y):=by
  have:P=P*N*y:=by
   have:P=P*(y*N):=by rw[i];grind
   grind
  rw[this,<-e,l];grind
 rcases d.no a (b*y) this with z|z
 .exact .inl z
 .right;have k:b≠0:=λz=>j (by rw[l,z];grind);have g:y≠0:=λz=>jR c (by rw[<-i,z];grind);have o:=bz c k g;have:dg b≠0:=λz=>k (bg.mp z);have:dg y≠0:=λz=>g (bg.mp z);lia
theorem Cj{p:Nat}(c:af p){P Q:F p}(e:cu P)(d:cu Q)(h:Dd P Q):Dd Q P:=by
 obtain⟨w,a⟩:=h;rcases d.no P w a with z|z
 .have:=e.two;lia
 .obtain⟨y,b⟩:=c9 c z;exact⟨y,by
   have:P=P*(y*w):=by rw[b];grind
   rw[a];grind⟩
theorem xx{p:Nat}(c:af p){P:F p}(e:cu P):∀{d:List (List Int)},Dd P (qD p d)->∃l∈d,Dd P (fL p l)
 |[],h=>by have:=h.len c (jR c);rw[show qD p []=(1:F p)from rfl,jE c]at this;have:=e.two;lia
 |l::d,h=>by
  rcases e.euclid c (a:=fL p l) (b:=qD p d) h with z|z
  .exact⟨l,Da,z⟩
  .obtain⟨f,i,g⟩:=xx c e z;exact⟨f,Dx _ i,g⟩
theorem kr{p:Nat}(a:af p){P f:F p}(b:cu P):∀n:Nat,Dd P (f^n)->Dd P f
 |0,h=>by rw[Gc]at h;have:=h.len a (jR a);rw[jE a]at this;have:=b.two;lia
 |n+1,h=>by
  rw[aH]at h;rcases b.euclid a h with z|z
  .exact kr a b n z
  .exact z
structure Pk(p:Nat)(row left:List Int)(L:List (List Int×Nat)):Prop where
 m:Mn p left
 ll:left.length+L.length<=row.length
 all:∀x∈L,Mn p x.1/\cu (fL p x.1)/\1<=x.2
 pw:L.Pairwise λx y=>x.1≠y.1
 pr:fL p row=dS p L*fL p left
 no:∀x∈L,¬Dd (fL p x.1) (fL p left)
noncomputable def Hi(p D:Nat)(a:List Int):Prop:=∀P:F p,Alg.cu P->Dd P (fL p a)->∀m,1<=m->m<D->¬Dd P ((X:F p)^(p^m) -X)
theorem _root_.Alg.Mn.LJ{p:Nat}{l:List Int}(h:Mn p l):fL p l≠0:=λz=>by have:=h.n0;rw[(cN h.r).mp z]at this;cases this
theorem Pk.take{p n:Nat}{f b a out:List Int}{L:List (List Int×Nat)}(l:af p)(h:Pk p f b L)(mp:Mn p a)(g:cu (fL p a))(o:Dd (fL p a) (fL p b))(t:Pu p a b n out):Pk p f out (L++[(a,n)])/\1<=n/\Dd (fL p out) (fL p b):=by
 have j:1<=n:=by apply FS;intro z;have e:=t.e;rw[show n=0 by lia,Gc]at e;exact t.no (by rw[show fL p out=fL p b by rw[e];grind];exact o)
 have q:Dd (fL p out) (fL p b):=⟨fL p a^n,by rw[t.e];grind⟩;have len:out.length<b.length:=by obtain⟨k,w⟩:∃k,n=k+1:=⟨n -1,by lia⟩;have e:=t.e;rw[w,aH]at e;have i:fL p a^k*fL p out≠0:=λz=>h.m.LJ (by rw[e,show fL p a^k*fL p a*fL p out=fL p a^k*fL p out*fL p a by grind,z];grind);have u:=bz l g.ne i;rw[show fL p a*(fL p a^k*fL p out)=fL p b by rw[e];grind,aU h.m.r]at u;have s:=(show Dd (fL p out) (fL p a^k*fL p out)from⟨fL p a^k,by grind⟩).len l i;rw[aU t.m.r]at s;have:=g.two;lia
 refine⟨⟨t.m,?_,λx c=>?_,?_,?_,λx c d=>?_⟩,j,q⟩
 .have:=h.ll;rw[Fm,G0];lia
 .rcases Fs.mp c with c|c
  .exact h.all x c
  .rw[DL.mp c];exact⟨mp,g,j⟩
 .refine XX.mpr ⟨h.pw,XG _ _,λx c y v e=>?_⟩;rw[DL.mp v]at e;exact h.no x c (by rw[e];exact o)
 .rw[qE,h.pr,t.e];grind
 .rcases Fs.mp c with c|c
  .exact h.no x c (d.trans q)
  .rw[DL.mp c]at d;exact t.no d
theorem qF{p:Nat}{a l:List Int}(d:af p)(ml:Mn p l)(e:Alg.cu (fL p l))(mp:Mn p a)(n:Alg.cu (fL p a))(g:Dd (fL p l) (fL p a)):a=l:=by
 have o:=Cj d e n g;obtain⟨w,c⟩:=g;have i:w≠0:=λz=>mp.LJ (by rw[c,z];grind);have j:=bz d e.ne i;have k:=o.len d ml.LJ;have m:=(show Dd (fL p l) (fL p a)from⟨w,c⟩).len d mp.LJ;rw[<-c]at j;obtain⟨v,s,ev⟩:=Hu w;have rv:∃x:Int,w=((x:Int):F p):=by
  have q:v.length=1:=by lia
  obtain⟨x,rfl⟩:=WQ.mp q;exact⟨x,by rw[ev,aB,bC];grind⟩
 obtain⟨x,f⟩:=rv;rw[aU ml.r,aU mp.r]at m k;have b:=Qt.eq.mp (show Qt.mk (Ip p) (c8 a)=Qt.mk (Ip p) (Alg.cst x*c8 l)from by rw[show Qt.mk (Ip p) (Alg.cst x*c8 l)=((x:Int):F p)*fL p l from rfl,<-f];exact c.trans (by grind)) (a.length -1);have b:(p:Int)∣a.getD (a.length -1) 0+ -(Alg.cst x*c8 l).1 (a.length -1):=b;rw[Po.qu]at b;have b:(p:Int)∣a.getD (a.length -1) 0+ -(x*l.getD (a.length -1) 0):=b;rw[mp.one,show a.length -1=l.length -1 by lia,ml.one,SQ]at b;have h:((x:Int):F p)=1:=by have:=(bY (p:=p)).mpr b;rw[P9,Xa,W4]at this;grind
 exact ve mp.r ml.r (by rw[c,f,h];grind)
theorem Py{p n:Nat}{b a out l:List Int}(d:af p)(ml:Mn p l)(c:cu (fL p l))(h:Mn p a)(i:cu (fL p a))(g:a≠l)(f:Dd (fL p l) (fL p b))(t:Pu p a b n out):Dd (fL p l) (fL p out):=by
 rw[t.e]at f;rcases c.euclid d f with z|z
 .exact absurd (qF d ml c h i (kr d c n z)) g
 .exact z
noncomputable def Hw:List CS:=[.CM [8,2] (.call 4 [(.var 7),(.var 2),(.var 1)]),.app 3 (.tup [(.var 7),(.var 8)])]
noncomputable def Ck:List CS:=[.set 5 (.call 0 [(.var 5),(.var 1),(.var 2),(.var 1)]),.set 6 (.ix (.call 1 [(.call 2 [(.var 5),(.lst [(.int 0),(.int 1)]),(.var 1)]),(.var 2),(.var 1)]) (.int 0)),.fr [7] true (.call 3 [(.var 6),(.var 4),(.var 1)]) Hw,.set 4 (.bin .Add (.var 4) (.int 1))]
noncomputable def ef:List CS:=[.set 2 (.blt .list [(.var 0)]),.set 3 (.lst []),.set 4 (.int 1),.set 5 (.lst [(.int 0),(.int 1)]),.t7 (.cmp .Lt (.bin .Mult (.int 2) (.var 4)) (.blt .len [(.var 2)])) Ck,.iff (.cmp .Gt (.blt .len [(.var 2)]) (.int 1)) [.app 3 (.tup [(.var 2),(.int 1)])] [],.ret (.call 5 [(.var 3)])]
abbrev e9(row:List Int)(p:Nat)(l:Ev):Ev:=some (wI row)::some (.int (p:Int))::l
structure Wd(p:Nat)(row left hi:List Int)(L:List (List Int×Nat))(D:Nat):Prop where
 k:Pk p row left L
 h:Hi p D left
 d1:1<=D
 rh:Rm p hi
 lh:hi.length<=50
 eh:Qt.mk (Pr (fL p left)) (fL p hi)=Qt.mk (Pr (fL p left)) ((X:F p)^(p^(D -1)))
theorem Pz{G:Nat->W}{D:Dn}{p d:Nat}{g f hi:List Int}{L:List (List Int×Nat)}{o6 o7 o8:Option W}(I:af p)(ua:p<2^30)(lr:g.length<=10)(w:Wd p g f hi L d)(big:2*d<f.length)
 (hN:∀c K y q6 R Q,Wd p g c K y (d+1)->D.nx (e9 g p [some (wI c),some (.lst (y.map pW)),some (.int ((d+1:Nat):Int)),some (wI K),q6,R,Q])):
 wSs (bI [dw,bU,cK,b9 10,fN,i9]) G Ck D (e9 g p [some (wI f),some (.lst (L.map pW)),some (.int (d:Int)),some (wI hi),o6,o7,o8]):=by
 have fM:p<2^40:=XM ua (by decide);have p2:=I.1;have k:=w.k;have d1:=w.d1;have ll:=k.ll;have l0:=k.m.n0;unfold Ck;refine aq (λq=>∃A,(Rm p A/\A.length<f.length/\Qt.mk (Pr (fL p f)) (fL p A)=Qt.mk (Pr (fL p f)) ((X:F p)^(p^d)))/\q=e9 g p [some (wI f),some (.lst (L.map pW)),some (.int (d:Int)),some (wI A),o6,o7,o8]) (λN gw=>?_) ?_
 .fin2;refine⟨hi,f,p,p,rfl,⟨I,fM,w.rh,k.m.r,by lia,by lia,w.lh⟩,λr Y H h3=>gw _ ⟨r,⟨Y,H,?_⟩,rfl⟩⟩;rw[mk_eq.mpr h3,dR,w.eh,<-dR,<-pow_mul,<-NY,show(d -1).succ=d by lia]
 rintro _ ⟨A,⟨rh,lh,eh⟩,rfl⟩;have rx:Rm p [0,1]:=i6 I 1;have ex:fL p [0,1]=X:=rfl;refine aq (λq=>∃a,(EP p d a/\a.length<=f.length/\Dd (fL p a) (fL p f)/\∀P:F p,Alg.cu P->Dd P (fL p f)->Dd P ((X:F p)^(p^d) -X)->Dd P (fL p a))/\q=e9 g p [some (wI f),some (.lst (L.map pW)),some (.int (d:Int)),some (wI A),some (wI a),o7,o8]) (λN gw=>?_) ?_
 .fin2;refine⟨aj (by simp),A,[0,1],p,rfl,⟨by lia,fM,by lia,by simp,rx⟩,λs rs es C=>?_⟩;have VM:s.length<=50:=by have e:([0,1]:List Int).length=2:=rfl;rw[e]at C;lia
  refine⟨s,f,p,rfl,⟨I,fM,rs,k.m.r,VM,by lia,λz=>by rw[z.2]at l0;cases l0⟩,λa u v S=>⟨_,rfl,gw _ ⟨a,⟨?_,?_,S.b,?_⟩,rfl⟩⟩⟩
  .have dx:Dd (fL p a) ((X:F p)^(p^d) -X):=by
    obtain⟨q1,Y⟩:=S.a;obtain⟨q2,H⟩:=S.b;obtain⟨q3,h3⟩:=mk_eq.mp eh;exact⟨q1 -q2*q3,by
     have:(X:F p)^(p^d) -X=(fL p A -X) -(fL p A -X^(p^d)):=by grind
     rw[this,h3,<-ex,<-es,Y,H];grind⟩
   exact⟨I,S.m,d1,dx,λP M T=>⟨d1,T.trans dx,λm m1 md=>w.h P M (T.trans S.b) m m1 md⟩⟩
  .have:=S.b.len I k.m.LJ;rw[aU S.m.r,aU k.m.r]at this;exact this
  .intro P M O dx;obtain⟨s1,t1,ei⟩:=S.i;obtain⟨q1,Y⟩:=O;obtain⟨q2,H⟩:=dx;obtain⟨q3,h3⟩:=mk_eq.mp eh;exact⟨s1*(q2+q1*q3)+t1*q1,by
    have:fL p s=(X^(p^d) -X)+(fL p A -X^(p^d)):=by rw[es,ex];grind
    rw[ei,this,h3,H,Y];grind⟩
 rintro _ ⟨a,⟨E,la,da,conv⟩,rfl⟩;refine aq (λq=>∃(c:List Int)(y:List (List Int×Nat))(R Q:Option W),(Pk p g c y/\Dd (fL p c) (fL p f)/\∀P:F p,Alg.cu P->Dd P (fL p c)->¬Dd P (fL p a))/\q=e9 g p [some (wI c),some (.lst (y.map pW)),some (.int (d:Int)),some (wI A),some (wI a),R,Q]) (λN gw=>?_) ?_
 .fin2;refine⟨a,d,p,rfl,⟨E,ua,by lia,by lia,by lia⟩,λC Z lls=>?_⟩;fin2;refine bT (λi ε=>∃(c:List Int)(y:List (List Int×Nat))(R Q:Option W),(Pk p g c y/\Dd (fL p c) (fL p f)/\(∀j,i<=j->j<C.length->Dd (fL p (C.getD j [])) (fL p c))/\∀j,j<i->j<C.length->¬Dd (fL p (C.getD j [])) (fL p c))/\ε=e9 g p [some (wI c),some (.lst (y.map pW)),some (.int (d:Int)),some (wI A),some (wI a),R,Q]) ⟨f,L,o7,o8,⟨k,⟨1,by grind⟩,λj _ J=>?_,λj J=>by cases J⟩,rfl⟩ ?_ ?_
  .have:C.getD j []∈C:=by rw[AC,B1 J];exact Pt J
   have:=kq this (p:=p);rw[<-Z.pr]at this;exact this.trans da
  .rintro i wv _ N1 hw ⟨c,y,R,Q,⟨U,O,up,dn⟩,rfl⟩ qW;rw[FK]at hw;obtain⟨o,x,rfl⟩:=IR.mp hw;obtain⟨K,PB⟩:=FM.mp x;have gi:C.getD i []=o:=by rw[AC,x];rfl
   obtain⟨mp,ip,lp⟩:=Z.all o (QP x);have dp:=up i (BM _) K;rw[gi]at dp;have Wx:=U.ll;unfold Hw;refine aq (λq=>∃(n:Nat)(B:List Int),Pu p o c n B/\q=e9 g p [some (wI B),some (.lst (y.map pW)),some (.int (d:Int)),some (wI A),some (wI a),some (wI o),some (.int (n:Int))]) (λN2 VN=>?_) ?_
   .fin2;exact⟨o,c,p,rfl,⟨I,ua,mp,by lia,by lia,U.m,by lia⟩,λn B t=>⟨rfl,VN _ ⟨n,B,t,rfl⟩⟩⟩
   rintro _ ⟨n,B,t,rfl⟩;obtain⟨k2,n1,PC⟩:=U.take I mp ip dp t;have l2:=k2.ll;rw[Fm,G0]at l2;fin2;refine⟨aj (by simp),qh (by rw[AN];lia),?_⟩;have key:=qW _ ⟨B,y++[(o,n)],some (wI o),some (.int (n:Int)),⟨k2,PC.trans O,λj Y H=>?_,λj Y H=>?_⟩,rfl⟩
   .rw[Iy]at key;exact key
   .have J:C.getD j []=C[j]:=by rw[AC,B1 H];rfl
    rw[J];obtain⟨mj,ij,_⟩:=Z.all _ (Pt H);have old:=up j (by lia) H;rw[J]at old;refine Py I mj ij mp ip ?_ old t;rw[<-PB];exact Sn.mp Z.pw i j K H (by lia)
   .by_cases e:j=i
    .rw[e,gi];exact t.no
    .exact λz=>dn j (by lia) H (z.trans PC)
  .rintro _ ⟨c,y,R,Q,⟨U,O,up,dn⟩,rfl⟩;rw[AN]at dn;refine gw _ ⟨c,y,_,_,⟨U,O,λP M T da=>?_⟩,rfl⟩;rw[Z.pr]at da;obtain⟨l,hl,VO⟩:=xx I M da;obtain⟨j,J,rfl⟩:=SU hl;have gj:C.getD j []=C[j]:=by rw[AC,B1 J];rfl
   have no:=dn j J J;rw[gj]at no;exact no ((Cj I M (Z.all _ hl).2.1 VO).trans T)
 rintro _ ⟨c,y,R,Q,⟨U,O,no⟩,rfl⟩;fin2;rw[show((d:Nat):Int)+1=((d+1:Nat):Int) by lia];refine hN c A y _ _ _ ⟨U,λP M T m m1 md=>?_,by lia,rh,by lia,mk_eq.mpr ?_⟩
 .by_cases e:m=d
  .rw[e];exact λdx=>no P M T (conv P M (T.trans O) dx)
  .exact w.h P M (T.trans O) m m1 (by lia)
 .rw[Kt];exact O.trans (mk_eq.mp eh)
theorem nH{G:Nat->W}{m:Md}(ws:List W)(Q:W->Prop)(R:Addr->Prop)(h:bV ws Q R):wSs (bI [dw,bU,cK,b9 10,fN,i9]) G ef (bH m Q R) (au 9 ws):=by
 obtain⟨g,p,rfl,⟨t,ua,mr,lr⟩,hq⟩:=h;show wSs _ _ ef _ (e9 g p [none,none,none,none,none,none,none]);unfold ef;have n0:=mr.n0;refine aq (λi=>i=e9 g p [some (wI g),none,none,none,none,none,none]) (λN j=>?_) ?_
 .have j:=j _ rfl;unfold e9 wI at j⊢;fin2;exact j
 rintro _ rfl;refine aq (λi=>i=e9 g p [some (wI g),some (.lst []),none,none,none,none,none]) (λN j=>?_) ?_
 .fin2;exact⟨aj (by simp),j _ rfl⟩
 rintro _ rfl;refine aq (λi=>i=e9 g p [some (wI g),some (.lst []),some (.int ((1:Nat):Int)),none,none,none,none]) (λN j=>?_) ?_
 .fin2;exact j _ rfl
 rintro _ rfl;refine aq (λi=>i=e9 g p [some (wI g),some (.lst []),some (.int ((1:Nat):Int)),some (wI [0,1]),none,none,none]) (λN j=>?_) ?_
 .fin2;exact⟨aj (by simp),j _ rfl⟩
 rintro _ rfl;have start:Wd p g g [0,1] [] 1:=⟨⟨mr,BM _,λx q=>(by cases q),.nil,by show _=(1:F p)*_;grind,λx q=>(by cases q)⟩,λP _ _ m a b=>by lia,BM _,i6 t 1,by decide,by show Qt.mk _ (X:F p)=Qt.mk _ ((X:F p)^(p^0));rw[Nf,show(X:F p)^1=X by rw[aH,Gc];grind]⟩;refine aq (λi=>∃(f K:List Int)(L:List (List Int×Nat))(d:Nat)(U T H E D:Option W),(Wd p g f K L d/\f.length<=2*d)/\i=e9 g p [some (wI f),some (.lst (L.map pW)),U,T,H,E,D]) (λN j=>?_) ?_
 .refine jF (α:=(List Int×List Int×List (List Int×Nat)×Nat)×Option W×Option W×Option W) (λs=>e9 g p [some (wI s.1.1),some (.lst (s.1.2.2.1.map pW)),some (.int (s.1.2.2.2:Nat)),some (wI s.1.2.1),s.2.1,s.2.2.1,s.2.2.2]) (λs=>Wd p g s.1.1 s.1.2.1 s.1.2.2.1 s.1.2.2.2/\s.1.2.2.2<=51) (λs=>60 -s.1.2.2.2) ((g,[0,1],[],1),none,none,none) rfl ⟨start,by show 1<=51;decide⟩ ?_;rintro⟨⟨f,K,L,d⟩,H,E,D⟩ ⟨w,VQ⟩;dsimp only at w VQ⊢;have ll:=w.k.ll;unfold e9 wI;fin2;rw[AN];refine⟨cC (n:=2) (m:=10) (by decide) (by show d<1024;lia) (by decide),?_⟩;refine cA (λJ=>?_) (λJ=>?_)
  .have big:=Bn J;exact Pz t ua lr w (by lia) λv Z L' a b c B=>⟨((v,Z,L',d+1),a,b,c),rfl,⟨B,by show d+1<=51;have:=B.k.ll;lia⟩,by show 60 -(d+1)<60 -d;lia⟩
  .have sm:¬(2*(d:Int)<(f.length:Int)):=λz=>by rw[Do z]at J;cases J
   exact j _ ⟨f,K,L,d,_,_,_,_,_,⟨w,by lia⟩,rfl⟩
 rintro _ ⟨f,K,L,d,U,T,H,E,D,⟨w,O⟩,rfl⟩;have k:=w.k;have ll:=k.ll;have l0:=k.m.n0;have d1:=w.d1;refine aq (λi=>∃(L:List (List Int×Nat))(o2:Option W),PO p g L/\i=e9 g p [o2,some (.lst (L.map pW)),U,T,H,E,D]) (λN j=>?_) ?_
 .by_cases l1:1<f.length
  .have Qy:Alg.cu (fL p f):=by
    have ld:=aU k.m.r;obtain⟨P,A,M,e⟩:=gb t _ (fL p f) (BM _) (by rw[ld];lia);have C:∀P:F p,Alg.cu P->Dd P (fL p f)->d+1<=dg P:=λP A dP=>by obtain⟨e,S⟩:=Pg t A;have:=S.dg t A;have:¬e<d:=λz=>w.h P A dP e S.d1 z S.yes;lia
    have Y:M≠0:=λz=>k.m.LJ (by rw[e,z];grind);have lm:=bz t A.ne Y;rw[<-e,ld]at lm;have:=C P A ⟨M,e⟩;have m1:dg M≠0:=λz=>Y (bg.mp z);refine LI t A e k.m.LJ (FS λz=>?_);obtain⟨Q',VR,B,e'⟩:=gb t _ M (BM _) (by lia);have:=C Q' VR ⟨P*B,by rw[e,e'];grind⟩;have:=(show Dd Q' M from⟨B,e'⟩).len t Y;lia
   have u:PO p g (L++[(f,1)]):=by
    refine⟨λx q=>?_,?_,?_,by rw[Fm,G0];lia⟩
    .rcases Fs.mp q with q|q
     .exact k.all x q
     .rw[DL.mp q];exact⟨k.m,Qy,BM _⟩
    .refine XX.mpr ⟨k.pw,XG _ _,λx q y hy e=>?_⟩;rw[DL.mp hy]at e;exact k.no x q ⟨1,by rw[e];grind⟩
    .rw[qE,k.pr];show _=_*fL p f^1;rw[aH,Gc];grind
   have o:=j _ ⟨L++[(f,1)],some (wI f),u,rfl⟩;rw[Iy]at o;unfold e9 wI at o⊢;fin2;rw[AN,Bz (Do (by lia))];exact⟨aj (by simp),qh (by rw[AN];lia),o⟩
  .have e:f=[1]:=by obtain⟨x,rfl⟩:=WQ.mp (show f.length=1 by lia);have:=k.m.one;have this:x=1:=this;rw[this]
   have o:=j _ ⟨L,some (wI f),⟨k.all,k.pw,by rw[k.pr,e,gc];grind,by lia⟩,rfl⟩;unfold e9 wI at o⊢;fin2;rw[AN,Bi (by rw[Fh];lia)];exact o
 rintro _ ⟨L,o2,u,rfl⟩;fin2;refine⟨L,rfl,by have:=u.len;lia,λL' I so=>hq L' ⟨λx q=>u.all x (I.mem_iff.mp q),?_,?_,by rw[I.length_eq];exact u.len⟩ so⟩
 .exact(I.pairwise_iff λ{a b} h e=>h e.symm).mpr u.pw
 .rw[u.pr];clear so u
  induction I with
  |nil=>rfl
  |cons x _ ih=>show _*_=_*_;rw[ih]
  |swap x y l=>show fL p x.1^x.2*(fL p y.1^y.2*dS p l)=fL p y.1^y.2*(fL p x.1^x.2*dS p l);grind
  |trans _ _ a b=>exact b.trans a
end VL
namespace VL
open PySem PySem.Spec
open PyProof.Rows hiding St
open L2
theorem xy:∀(a b:List Int),HT.lexLt a b=true↔a<b
 |[],[]=>by simp[HT.lexLt]
 |[],_::_=>by simp[HT.lexLt]
 |_::_,[]=>by simp[HT.lexLt]
 |x::d,y::c=>by
  rw[HT.gM,On];by_cases e:x=y
  .rw[Bz e,xy d c];constructor
   .exact λh=>.inr ⟨e,h⟩
   .rintro(h|⟨_,h⟩)
    .omega
    .exact h
  .rw[Bi e,Fh];constructor
   .exact .inl
   .rintro(h|⟨h,_⟩)
    .exact h
    .exact(e h).elim
theorem jH:∀a:List Int,¬a<a
 |[],h=>by simp at h
 |x::b,h=>by
  rw[On]at h;rcases h with h|⟨_,h⟩
  .omega
  .exact jH b h
theorem Cm:∀a b:List Int,a<b\/a=b\/b<a
 |[],[]=>.inr (.inl rfl)
 |[],_::_=>.inl (by simp)
 |_::_,[]=>.inr (.inr (by simp))
 |x::d,y::c=>by
  rw[On,On];rcases Cm d c with h|h|h
  .by_cases e:x=y
   .exact .inl (.inr ⟨e,h⟩)
   .by_cases l:x<y
    .exact .inl (.inl l)
    .exact .inr (.inr (.inl (by omega)))
  .by_cases e:x=y
   .exact .inr (.inl (by rw[e,h]))
   .by_cases l:x<y
    .exact .inl (.inl l)
    .exact .inr (.inr (.inl (by omega)))
  .by_cases e:x=y
   .exact .inr (.inr (.inr ⟨e.symm,h⟩))
   .by_cases l:x<y
    .exact .inl (.inl l)
    .exact .inr (.inr (.inl (by omega)))
theorem Hx:∀{a b c:List Int},a<b->b<c->a<c
 |[],_,[],_,h=>by simp at h
 |[],_,_::_,_,_=>by simp
 |_::_,[],_,h,_=>by simp at h
 |_::_,_::_,[],_,h=>by simp at h
 |x::i,y::g,z::f,h,k=>by
  rw[On]at h k⊢;rcases h with h|⟨e,h⟩
  .rcases k with k|⟨d,k⟩
   .exact .inl (by omega)
   .exact .inl (by omega)
  .rcases k with k|⟨d,k⟩
   .exact .inl (by omega)
   .exact .inr ⟨by omega,Hx h k⟩
abbrev K3:=Int×List Int×Int
theorem mR(x y:K3):fy x y=true↔x.1<y.1\/(x.1=y.1/\(x.2.1<y.2.1\/(x.2.1=y.2.1/\x.2.2<y.2.2))):=by
 unfold fy;by_cases e:x.1=y.1
 .rw[Bz e];by_cases f:x.2.1=y.2.1
  .rw[Bz f,Fh];constructor
   .exact λh=>.inr ⟨e,.inr ⟨f,h⟩⟩
   .rintro(h|⟨_,h|⟨_,h⟩⟩)
    .omega
    .rw[f]at h;exact(jH _ h).elim
    .exact h
  .rw[Bi f,xy];constructor
   .exact λh=>.inr ⟨e,.inl h⟩
   .rintro(h|⟨_,h|⟨h,_⟩⟩)
    .omega
    .exact h
    .exact(f h).elim
 .rw[Bi e,Fh];constructor
  .exact .inl
  .rintro(h|⟨h,_⟩)
   .exact h
   .exact(e h).elim
theorem LK(x:K3):fy x x≠true:=λh=>by
 rcases(mR _ _).mp h with h|⟨_,h|⟨_,h⟩⟩
 .omega
 .exact jH _ h
 .omega
theorem Hy{x y z:K3}(h:fy x y=true)(k:fy y z=true):fy x z=true:=by
 rw[mR]at h k⊢;rcases h with h|⟨e,h⟩
 .rcases k with k|⟨b,k⟩
  .exact .inl (by omega)
  .exact .inl (by omega)
 .rcases k with k|⟨b,k⟩
  .exact .inl (by omega)
  .refine .inr ⟨by omega,?_⟩;rcases h with h|⟨f,h⟩
   .rcases k with k|⟨a,k⟩
    .exact .inl (Hx h k)
    .rw[<-a];exact .inl h
   .rcases k with k|⟨a,k⟩
    .rw[f];exact .inl k
    .exact .inr ⟨f.trans a,by omega⟩
theorem Cn(x y:K3):fy x y=true\/x=y\/fy y x=true:=by
 rw[mR,mR];by_cases e:x.1=y.1
 .rcases Cm x.2.1 y.2.1 with h|h|h
  .exact .inl (.inr ⟨e,.inl h⟩)
  .by_cases f:x.2.2=y.2.2
   .obtain⟨a,b,c⟩:=x;obtain⟨i,g,d⟩:=y;simp only at e h f;exact .inr (.inl (by rw[e,h,f]))
   .by_cases l:x.2.2<y.2.2
    .exact .inl (.inr ⟨e,.inr ⟨h,l⟩⟩)
    .exact .inr (.inr (.inr ⟨e.symm,.inr ⟨h.symm,by omega⟩⟩))
  .exact .inr (.inr (.inr ⟨e.symm,.inl h⟩))
 .by_cases l:x.1<y.1
  .exact .inl (.inl l)
  .exact .inr (.inr (.inl (by omega)))
noncomputable def Mv(a:List K3)(i:Nat):Nat:=(a.filter λy=>fy y (a.getD i (0,[],0))).length
theorem Hz(a:List K3){i j:Nat}(d:i<a.length)(f:j<a.length):decide (Mv a i<Mv a j)=fy (a.getD i (0,[],0)) (a.getD j (0,[],0)):=by
 have b:∀p q:K3->Bool,(∀y,p y=true->q y=true)->(a.filter p)=(a.filter q).filter p:=λp q h=>by
  rw[List.filter_filter];congr 1;funext y;have:=h y;cases e:p y
  .simp
  .simp[this e]
 cases c:fy (a.getD i (0,[],0)) (a.getD j (0,[],0))with
 |true=>refine Do ?_;unfold Mv;rw[b (λy=>fy y (a.getD i (0,[],0))) (λy=>fy y (a.getD j (0,[],0))) λy h=>Hy h c];refine List.length_filter_lt_length_iff_exists.mpr ⟨a.getD i (0,[],0),QR.mpr ⟨?_,c⟩,LK _⟩;rw[AC,B1 d];exact Pt d
 |false=>
  refine He (Nat.not_lt.mpr ?_);unfold Mv;rw[b (λy=>fy y (a.getD j (0,[],0))) (λy=>fy y (a.getD i (0,[],0))) λy h=>?_]
  .exact List.length_filter_le _ _
  .rcases Cn (a.getD i (0,[],0)) (a.getD j (0,[],0))with z|z|z
   .rw[c]at z;cases z
   .rw[z];exact h
   .exact Hy h z
noncomputable def jI(x:List Int×Nat):K3:=(x.1.length,x.1.reverse,x.2)
theorem PD{x y:List Int×Nat}(h:fy (jI y) (jI x)≠true):Ci x y:=by
 have n:∀a b:List Int,a.reverse=b.reverse->a=b:=λa b e=>by rw[<-XW a,e,XW]
 rcases Cn (jI x) (jI y)with z|z|z
 .rcases(mR _ _).mp z with z|⟨e,z|⟨f,z⟩⟩
  .exact .inl (Xr.mp z)
  .exact .inr ⟨Px.mp e,.inl z⟩
  .exact .inr ⟨Px.mp e,.inr ⟨n _ _ f,W9 (Xr.mp z)⟩⟩
 .have g:(x.1.length:Int)=y.1.length:=GM (·.1) z;have d:x.1.reverse=y.1.reverse:=GM (·.2.1) z;have c:(x.2:Int)=y.2:=GM (·.2.2) z;exact .inr ⟨Px.mp g,.inr ⟨n _ _ d,WA (Px.mp c)⟩⟩
 .exact(h z).elim
theorem Fx{α:Type}(L:List α)(d:α){p:Array Nat}(a:kB L.length p):(p.toList.map λi=>L.getD i d).Perm L:=by
 have h:=Y7 (λi=>L.getD i d) a;have e:(Ea L.length).map (λi=>L.getD i d)=L:=by
  apply List.ext_getElem
  .rw[AN,GE]
  .intro i c b;rw[List.getElem_map,Pp,AC,B1 b];rfl
 rw[e]at h;exact h
theorem zd(L:List (List Int×Nat)){p:Array Nat}(b:kB L.length p)(m:qT (Mv (L.map jI)) p L.length):(p.toList.map λi=>L.getD i ([],0)).Pairwise Ci:=by
 rw[Pi,Sn];intro i j d c l;rw[Gw,b.sz]at d c;have g:∀k (a:k<L.length),p.toList[k]'(by rw[Gw,b.sz];exact a)=p.getD k 0:=λk a=>by
  have:k<p.size:=by rw[b.sz];exact a
  simp[Xt,this]
 have e:∀k,k<L.length->(L.map jI).getD k (0,[],0)=jI (L.getD k ([],0)):=λk a=>by rw[AC,AC,FK,B1 a];rfl
 rw[g i d,g j c];have h:=b.lt d;have f:=b.lt c;refine PD λz=>?_;have n:=m i j (by omega) c;have:=Hz (L.map jI) (i:=p.getD j 0) (j:=p.getD i 0) (by rw[AN];exact f) (by rw[AN];exact h);rw[e _ h,e _ f,z,Fh]at this;omega
noncomputable def mT:bf:=λa Q _=>∃x:List Int×Nat,a=[pW x]/\Q (.tup [.int (x.1.length:Nat),.lst (x.1.reverse.map W.int),.int (x.2:Nat)])
noncomputable def vq(H:Hp)(k:Value)(x:K3):Prop:=∃t q,k=.ref t/\H t=some (.tup [.int x.1,.ref q,.int x.2.2])/\Rd H q (.lst (x.2.1.map V.int))
theorem vq.same{H H':Hp}{k:Value}{x:K3}(s:ao H H')(h:vq H k x):vq H' k x:=by obtain⟨t,q,e,b,a⟩:=h;exact⟨t,q,e,s _ _ b,VL.ao.rd s a⟩
theorem xA{α c:Type}{F:α->c->Prop}{a:α}{b:c}(h:F a b):∀{l:List α}{m:List c},Paired F l m->Paired F (l++[a]) (m++[b])
 |_,_,.nil=>.cons h .nil
 |_,_,.cons r t=>.cons r (xA h t)
section
variable{X:Cx}{pins:List (Addr×Obj)}{σ:St}{H:Hp}{s:Shared}
theorem vq.at{k:Value}{x:K3}(I:Inv X pins σ H s)(h:vq H k x):iE s.heap k x:=by
 obtain⟨t,q,rfl,v,p⟩:=h;obtain⟨m,r,⟨o,g,c,n,d⟩,_⟩:=I.tuple (.inl (.inl v));obtain⟨a,j,⟨o2,l,w,z,_,y⟩,_⟩:=I.list (.inl p);cases r with
 |cons i r=>
 cases r with
 |cons f r=>
 cases r with
 |cons e r=>
 cases r;obtain⟨u,rfl⟩:=i;obtain⟨b,rfl⟩:=e;cases f;exact⟨t,o,n,u,b,q,a.toArray,rfl,g,c,d,⟨o2,w,z,l,y⟩,intsAre_of j⟩
theorem PJ{k:Nat}{f:Addr}{fd:FuncData}{T:List Str}{B:Addr->Prop}{L:List (List Int×Nat)}{v:V}{u:Value}{Q:VK}{E:Value->Shared->Prop}
 (F:bK X.prog X.w X.K X.mg X.base (ji X.prog X.w) k f fd T (wj X.K 1 .s mT))(hb:Binds X.K fd T [])(hp:T.length=1)(hr:bX (k+2) X.A)(I:Inv X pins σ H s)(d:Dom B H)(r:RelV v u)(h:Rep X.K B H (.lst (L.map pW)) v)(hl:L.length<=60)
 (q:∀(L':List (List Int×Nat)) v' H',L'.Perm L->L'.Pairwise Ci->ao H H'->Rep X.K B H' (.lst (L'.map pW)) v'->Q v' H'):
 wpAny (model X.prog X.w) X.A (call (.builtin "sorted") [u] [(Str.ofString "key",.ref f)]) (EP X pins σ Q) E s:=by
 obtain⟨a,c,rfl,na,ra,rl⟩:=h;cases r;obtain⟨vs,rv,⟨o2,n2,g2,c2,_,d2⟩,_⟩:=I.list (.inl ra);have ln:vs.length=L.length:=by rw[<-rv.length,rl.len,AN]
 have lx:c.length=L.length:=by rw[rl.len,AN]
 have hu:X.A.in1.in1.units<cLine:=by have:=hr.un;show X.A.units+1+1<_;omega
 have y:∀i n,c[i]?=some n->∃x,L[i]?=some x/\Rep X.K B H (pW x) n:=λi n e=>by
  have m:i<L.length:=by rw[<-lx];exact(FM.mp e).1
  obtain⟨v1,R,Z⟩:=rl.get (show(L.map pW)[i]?=some (pW L[i]) by rw[FK,B1 m];rfl);rw[e]at R;cases R;exact⟨L[i],B1 m,Z⟩
 refine DJ (κ:=tuples' true) (KP:=λO g=>ao H g/\Paired (vq g) O ((L.take O.length).map jI)) I ⟨o2,g2,c2,n2,d2⟩ rv (by omega) (ksk_s1 _ _) (λx=>ksk_l1 _ _) (λx=>ksk_t1 f x) ⟨ao.refl H,.nil⟩ ?_ ?_
 .rintro i n O g S nZ e m I1 ⟨sm,N⟩;have hi2:i<L.length:=by rw[<-ln];exact(FM.mp e).1
  have ex:c[i]?=some c[i]:=B1 (by omega);obtain⟨v1,R,r1⟩:=rv.get ex;rw[e]at R;cases R;obtain⟨x,hx,rx⟩:=y i _ ex;have dm:Dom B g:=d.same sm;have sp:wj X.K 1 .s mT ([c[i]]++[]) g (λv H'=>ao g H'/\∃t,v=.ref t/\vq H' (.ref t) (jI x)) E0:=by refine⟨B,[pW x],λw=>w=.tup [.int (x.1.length:Nat),.lst (x.1.reverse.map W.int),.int (x.2:Nat)],λ_=>False,rfl,⟨_,[],rfl,rx.same sm,rfl⟩,dm,⟨x,rfl,rfl⟩,λw v H' pw s' rm=>⟨s',?_⟩,λC H' z=>z.elim⟩;subst pw;obtain⟨p,vs',rfl,Z,h2⟩:=rm.rep dm;obtain⟨a1,a2,a3,rfl,b1,b2,b3⟩:=Fe h2;have b1:a1=.int (x.1.length:Nat):=b1;have b3:a3=.int (x.2:Nat):=b3;obtain⟨p',UW,rfl,_,h3,h4⟩:=b2;rw[lI h4]at h3;rw[b1,b3]at Z;exact⟨p,rfl,p,p',rfl,Z,h3⟩
  have P:([n]++([]:List Value)).length=T.length:=hp.symm;refine wpAny_call (WX (F.run X.A.in1.in1 X.stack S g ⟨[n],[]⟩ ([n]++[]) ([c[i]]++[]) _ E0 hr.in1.in1 I1.IB.in1.in1 (hb S [n] I1.kG P) (.cons r1 .nil) sp) λr s' G=>?_);cases r with
  |error e=>obtain⟨_,_,_,_,_,z⟩:=G;exact z.elim
  |ok fl=>
   cases fl with
   |ret u=>obtain⟨v',H',I',rr,s2,t,rfl,kv⟩:=I1.after G;cases rr;refine⟨H',I',sm.trans s2,?_⟩;rw[Fm,G0,m,List.take_add_one,hx,Iy];rw[m]at N;exact xA kv (Paired.zA N λ_ _ z=>z.same s2)
   |next=>exact HP G
   |brk=>exact HP G
   |cont=>exact HP G
 .rintro O g ⟨sm,N⟩ hk;rw[hk,ln,RN]at N;refine⟨Mv (L.map jI),λnZ S I1=>?_,λp D Y hU U=>?_⟩
  .have TQ:Paired (iE S.heap) O (L.map jI):=Paired.zA N λ_ _ z=>z.at I1;refine⟨λh2 Q' G=>Al TQ (by omega) G,λi j C m hj hC=>DK TQ (by omega) (by omega) hu ?_⟩;rw[<-Hz (L.map jI) (by rw[AN];omega) (by rw[AN];omega)];exact hC
  .rw[ln]at Y hU;refine q (p.toList.map λi=>L.getD i ([],0)) (.ref D) _ (Fx L _ Y) (zd L Y hU) (λb o e=>?_) ⟨D,_,rfl,?_,.inl aJ,?_⟩
   .have J:=sm b o e;rw[ay (λz=>by rw[z,U]at J;cases J)];exact J
   .intro z;obtain⟨o,e⟩:=d D z;rw[sm D o e]at U;cases U
   .have TR:ao H (upd g D (.lst (p.toList.map λi=>c.getD i .aL))):=λb o e=>by have J:=sm b o e;rw[ay (λz=>by rw[z,U]at J;cases J)];exact J
    have M:∀i∈p.toList,i<L.length:=λi m=>Kk.mp ((TU Y).mp m);generalize upd g D _=H2 at TR⊢;generalize p.toList=l at M⊢
    induction l with
    |nil=>rfl
    |cons i l ih=>
     have m:=M i (.head _);have ex:c[i]?=some c[i]:=B1 (by omega);obtain⟨x,hx,rx⟩:=y i _ ex;refine⟨c[i],_,?_,?_,ih λj hj=>M j (.tail _ hj)⟩
     .rw[GT,AC,ex];rfl
     .show Rep X.K B H2 (pW (L.getD i ([],0))) c[i];rw[AC,hx];exact rx.same TR
end
noncomputable def Si(K:Frag):TE:=λd H Q=>∃(B:Addr->Prop)(L:List (List Int×Nat))(v:V),d[0]?=some (some v)/\Dom B H/\Rep K B H (.lst (L.map pW)) v/\L.length<=60/\
 ∀(a:List (List Int×Nat)) c b,a.Perm L->a.Pairwise Ci->ao H b->Rep K B b (.lst (a.map pW)) c->Q c b
theorem LL{X:Cx}{O p2 o n h:Pos}{x y:Str}{k:Nat}{f:Addr}{p:FuncData}{g:List Str}(F:bK X.prog X.w X.K X.mg X.base (ji X.prog X.w) k f p g (wj X.K 1 .s mT))(Z:Binds X.K p g [])(U:g.length=1)(T:bX (k+2) X.A)
 (hN:X.N[0]?=some x)(R:HM X.env.scope x)(C:(x==("__debug__":Str))=false)(z:(x==("__classdict__":Str))=false)(S:Gl X "sorted")(i:X.mg "sorted"=none)(P:Gl X y)(Sj:X.mg y=some (.ref f))(t:(y==("__debug__":Str))=false):
 PE X (.Call (.Name "sorted" O) [.Name x p2] [⟨some "key",.Name y o,n⟩] h) (Si X.K):=by
 rintro a s m H Q I ⟨B,L,v,e,d,G,Y,q⟩;refine W5 (dB (u:=.builtin "sorted") I S i rfl ?_);refine Xu ?_;have l:PA X [.Name x p2] (rK (iu 0) zR):=aW (zE hN R C z) cj;have j:PK X [⟨some "key",.Name y o,n⟩] (rK (tC (.ref f)) zR):=Dc (vH (v:=.ref f) P Sj rfl t) ID;refine bD (l h a s m H (λb c=>b=[v]/\c=H) I ⟨v,e,rfl,rfl⟩) λus D ⟨b,c,I1,M,e1,e2⟩=>?_;subst e1 e2;refine bD (j h a D m c (λb r=>b=[.ref f]/\r=c) I1 ⟨rfl,rfl⟩) λws s2 ⟨zs,r,I2,J,e3,e4⟩=>?_;subst e3 e4;obtain⟨u,rfl,E⟩:=Vals.one M;obtain⟨u2,rfl,VU⟩:=Vals.one J;cases VU;exact PJ F Z U T I2 d E G Y q
theorem ze{P:Program}{w:World}{K:Frag}{j:Str->Option Value}{base:Heap}{D x y e:Str}{st:Stmt}{f g:Addr}{u t:FuncData}{N m l:List Str}{k:Nat}{U p2 T S O M:Pos}(Fu:CK K D e st f u)(Sc:fq N m (ak st))
 (i:aX st=[.Return (some (.Call (.Name "sorted" U) [.Name x p2] [⟨some "key",.Name y T,S⟩] O)) M])
 (F:bK P w K j base (ji P w) k g t l (wj K 1 .s mT))(hb:Binds K t l [])(hp:l.length=1)(o:m.length=1)
 (hN:N[0]?=some x)(Z:HM (ak st) x)(C:(x==("__debug__":Str))=false)(B:(x==("__classdict__":Str))=false)(hs:(ak st).names.lookup ("sorted":Str)=some .globalImplicit)(n:j "sorted"=none)
 (Y:(ak st).names.lookup y=some .globalImplicit)(Sj:j y=some (.ref g))(z:(y==("__debug__":Str))=false):bK P w K j base (ji P w) (k+2+1) f u m (wj K 1 .s i9):=by
 refine CK.SX Fu Sc (by rintro I H Q E ⟨A,G,P,R,r,p,_⟩;rw[p.len,r,o]) λq A h s H I Q E hr hz=>?_;obtain⟨A0,G,P0,R,r,p,h3,⟨L,rfl,hl,hq⟩,h5,h6⟩:=hz;obtain⟨v,rfl,rv⟩:=OZ p;rw[i];refine⟨_,vI (oU (LL (X:=gP P w K j base N e (ak st) f q A h s H E) F hb hp hr hN Z C B hs n Y Sj z)),A0,L,v,rfl,h3,rv,hl,λL' J H' a b c d=>?_⟩;exact h5 _ J H' (hq L' a b) c (.of d)
noncomputable def Sk(P:Program)(w:World)(K:Frag)(a:Str->Option Value)(base:Heap)(k:Nat):List Str->List Md->List bf->Prop
 |x::fn,m::e,S::Ss=>(∃d n c,a x=some d/\cP P w K a base c d n (uL K n m S)/\c<=k/\∀b P R,S b P R->b.length=n)/\Sk P w K a base k fn e Ss
 |[],_,_=>True
 |_,_,_=>False
theorem Co{P:Program}{w:World}{K:Frag}{b:Str->Option Value}{base:Heap}{k:Nat}:∀{fn:List Str}{a:List Md}{Ss:List bf},Sk P w K b base k fn a Ss->∀(j:Nat)(x:Str),fn[j]?=some x->∃f n d,b x=some f/\cP P w K b base d f n (uL K n (lN a j) (bI Ss j))/\d<=k/\∀c P R,bI Ss j c P R->c.length=n
 |y::fn,m::a,S::Ss,h,0,x,e=>by
  cases e;exact h.1
 |y::fn,m::a,S::Ss,h,j+1,x,e=>Co (fn:=fn) h.2 j x e
 |[],_,_,_,j,x,e=>by cases e
 |_::_,[],_,h,_,_,_=>h.elim
 |_::_,_::_,[],h,_,_,_=>h.elim
noncomputable def qG(st:Stmt):List Str:=(bN st).args.map (·.arg)
noncomputable def Sl:NameKind->Bool
 |.local=>true
 |.cell=>true
 |_=>false
noncomputable def Mw(st:Stmt):List Str:=((ak st).names.filter λy=>Sl y.2).map (·.1)
abbrev DT:=List (Str×Nat)
noncomputable def Cp(DD:DT)(j:Nat):Str:=match DD[j]? with
 |some y=>y.1
 |none=>""
noncomputable def Fy(K:Frag)(a:Nat->Stmt):DT->Prop
 |[]=>True
 |(x,i)::l=>(Hd K x (a i)/\gq x x (a i) (qG (a i)))/\Fy K a l
noncomputable def FA(K:Frag):List Str->Prop
 |[]=>True
 |x::l=>nsIn K mainGlobals x=some none/\FA K l
structure TT(K:Frag)(mg:Str->Option Value)(tp:Nat->Stmt)(DD:DT)(ZZ:List Str)where
 f:Nat->Addr
 d:Nat->FuncData
 D:∀{j:Nat}{x:Str}{i:Nat},DD[j]?=some (x,i)->Df K mg x (tp i) (qG (tp i)) (f j) (d j)
 Z:∀x∈ZZ,mg x=none
section
variable{P:Program}{w:World}{K:Frag}{mg:Str->Option Value}{base:Heap}{tp:Nat->Stmt}{DD:DT}{ZZ:List Str}
theorem xB{h:Heap}(X:K.In h)(G:h.Ns mainGlobals mg):∀{DD:DT}{j:Nat}{x:Str}{i:Nat},Fy K tp DD->DD[j]?=some (x,i)->∃f a,Df K mg x (tp i) (qG (tp i)) f a
 |(y,n)::DD,0,x,i,h,e=>by
  cases e;exact O3 X G h.1.1 h.1.2
 |(y,n)::DD,j+1,x,i,h,e=>xB X G (DD:=DD) h.2 e
theorem xC{h:Heap}(X:K.In h)(G:h.Ns mainGlobals mg):∀{ZZ:List Str},FA K ZZ->∀x∈ZZ,mg x=none
 |y::ZZ,h,x,a=>by
  rcases FV.mp a with e|a
  .rw[e];exact PySem.W.mg_none_of X G h.1
  .exact xC X G h.2 x a
open Classical in
theorem PL{h:Heap}(X:K.In h)(G:h.Ns mainGlobals mg)(a:Fy K tp DD)(z:FA K ZZ):Nonempty (TT K mg tp DD ZZ):=by
 have H:∀j:Nat,∃f b,∀x i,DD[j]?=some (x,i)->Df K mg x (tp i) (qG (tp i)) f b:=λj=>by
  cases e:DD[j]? with
  |none=>exact⟨0,fnOf "" "" (bN (tp 0)) (aX (tp 0)) (ak (tp 0)) .none .none .none .none none .none .none,λx i q=>nn q⟩
  |some y=>obtain⟨f,b,D⟩:=xB X G a e;exact⟨f,b,λx i q=>by cases q;exact D⟩
 exact⟨⟨λj=>choose (H j),λj=>choose (choose_spec (H j)),λ{j x i} e=>choose_spec (choose_spec (H j)) x i e,xC X G z⟩⟩
noncomputable def Cl(P:Program)(w:World)(K:Frag)(mg:Str->Option Value)(base:Heap)(DD:DT)(k j:Nat)(m:Md)(S:bf):Prop:=∃c n b,mg (Cp DD j)=some c/\cP P w K mg base b c n (uL K n m S)/\b<=k/\∀a P R,S a P R->a.length=n
noncomputable def zf(P:Program)(w:World)(K:Frag)(mg:Str->Option Value)(base:Heap)(DD:DT):List (Nat×Md×Nat)->List bf->Prop
 |(j,m,k)::gU,S::Ss=>Cl P w K mg base DD k j m S/\zf P w K mg base DD gU Ss
 |[],_=>True
 |_::_,[]=>False
theorem xD{k:Nat}:∀{a:List (Nat×Md×Nat)}{Ss:List bf},zf P w K mg base DD a Ss->a.all (λy=>decide (y.2.2<=k))=true->Sk P w K mg base k (a.map λy=>Cp DD y.1) (a.map (·.2.1)) Ss
 |(j,m,k')::a,S::Ss,h,hk=>by rw[IP,Ap]at hk;obtain⟨f,n,k2,e,d,c,b⟩:=h.1;exact⟨⟨f,n,k2,e,d,Hm c (Bn hk.1),b⟩,xD h.2 hk.2⟩
 |[],_,_,_=>trivial
 |_::_,[],h,_=>h.elim
noncomputable def Gn(K:Frag)(mg:Str->Option Value)(x:Str)(u:W):Prop:=(∃v z,mg x=some v/\RelV z v/\∀B H,Rep K B H u z)/\∀C,u=.cls C->Ro K C
noncomputable def PM(K:Frag)(mg:Str->Option Value):List Str->List W->Prop
 |x::gn,u::Gs=>Gn K mg x u/\PM K mg gn Gs
 |[],_=>True
 |_::_,[]=>False
theorem vt:∀{gn:List Str}{Gs:List W},PM K mg gn Gs->∀(j:Nat)(x:Str),gn[j]?=some x->Gn K mg x (qY Gs j)
 |y::gn,u::Gs,h,0,x,e=>by
  cases e;exact h.1
 |y::gn,u::Gs,h,j+1,x,e=>vt (gn:=gn) h.2 j x e
 |_::_,[],h,_,_,_=>h.elim
 |[],_,_,_,_,e=>by cases e
theorem PN{k:Nat}{a:List (Nat×Md×Nat)}{Ss:List bf}{gn:List Str}{Gs:List W}(T:TT K mg tp DD ZZ)(h:zf P w K mg base DD a Ss)(b:a.all (λy=>decide (y.2.2<=k))=true)(g:PM K mg gn Gs):Tab P w K mg base (a.map λy=>Cp DD y.1) gn ZZ (a.map (·.2.1)) [] (bI Ss) (qY Gs) k:=
 ⟨λj x e _=>Co (xD h b) j x e,λ_ _ _ _ h=>(by cases h),λj x e=>(vt g j x e).1,T.Z,Lq K,λj x C e q=>(vt g j x e).2 C q⟩
noncomputable def FD(ZZ:List Str)(st:Stmt)(a n:Nat)(M:Ms)(fn gn:List Str)(b:List Md)(d:List (Nat×Nat))(m:Md)(c:List CS):Bool:=
 decide (((ak st).kind=.function/\(ak st).isCoroutine=false/\(ak st).isGenerator=false/\(Mw st).Nodup/\(Mw st).take (qG st).length=qG st)/\(∀x∈qG st,(ak st).names.lookup x=some .local\/(ak st).names.lookup x=some .cell)/\(∀y∈(ak st).names,y.2≠.free)/\(qG st).length=a/\(Mw st).length=n/\(M.map (·.1)).Nodup)&&(M.all (λi=>decide (a<=i.1))&&!dH m&&eV ⟨Mw st,(ak st).names,M,fn,gn,ZZ,b,d⟩ (lN b) m c (aX st))
theorem Sm{e n j i:Nat}{x:Str}{M:Ms}{fn gn:List Str}{o:List Md}{l:List (Nat×Nat)}{m:Md}{c:List CS}{h:Nat->bf}{G:Nat->W}{k:Nat}{S:bf}(T:TT K mg tp DD ZZ)(s:DD[j]?=some (x,i))(g:FD ZZ (tp i) e n M fn gn o l m c=true)(q:Tab P w K mg base fn gn ZZ o l h G k)(r:∀a P R,S a P R->a.length=e)(p:∀a Q R,S a Q R->wSs h G c (bH m Q R) (au n a)):
 bK P w K mg base (ji P w) (k+1) (T.f j) (T.d j) (qG (tp i)) (uL K e m S):=by
 unfold FD at g;rw[Ap,Ap,Ap]at g;obtain⟨y,⟨v,u⟩,t⟩:=g;obtain⟨⟨J,a2,a3,I,H⟩,E,C,A,z,B⟩:=Bn y;have b:dH m=false:=by simpa using u
 subst A z;have:=Lp (T.D s).F ⟨J,a2,a3,I,H,E,C⟩ q c M m S v B b t r p;cases m<;>first|exact this|cases b
theorem Cq{a j i k:Nat}{x:Str}{m:Md}{S:bf}(T:TT K mg tp DD ZZ)(c:DD[j]?=some (x,i))(g:a=(qG (tp i)).length)(F:bK P w K mg base (ji P w) k (T.f j) (T.d j) (qG (tp i)) (uL K a m S))(h:∀b P R,S b P R->b.length=a):Cl P w K mg base DD k j m S:=by
 have e:Cp DD j=x:=by unfold Cp;rw[c]
 unfold Cl;rw[e];exact(T.D c).gU F g h (BM k)
theorem Cr{a n:Nat}{st:Stmt}{M:Ms}{fn gn:List Str}{d:List Md}{b:List (Nat×Nat)}{m:Md}{c:List CS}(h:FD ZZ st a n M fn gn d b m c=true):a=(qG st).length:=by unfold FD at h;rw[Ap]at h;exact(Bn h.1).2.2.2.1.symm
theorem LM{n j i:Nat}{x:Str}{Gs:List W}{m:Md}{c:List CS}{Ss:List bf}{k:Nat}{S:bf}(T:TT K mg tp DD ZZ)(q:DD[j]?=some (x,i))(e:Nat)(M:Ms)(b:List (Nat×Md×Nat))(gn:List Str)(p:∀a Q R,S a Q R->wSs (bI Ss) (qY Gs) c (bH m Q R) (au n a))(h:zf P w K mg base DD b Ss)(g:PM K mg gn Gs)(l:(b.all (λy=>decide (y.2.2<=k))&&FD ZZ (tp i) e n M (b.map λy=>Cp DD y.1) gn (b.map (·.2.1)) [] m c)=true)(o:∀a P R,S a P R->a.length=e):bK P w K mg base (ji P w) (k+1) (T.f j) (T.d j) (qG (tp i)) (uL K e m S):=by rw[Ap]at l;exact Sm T q l.2 (PN T h l.1 g) o p
theorem PR{n j i:Nat}{x:Str}{Gs:List W}{m:Md}{c:List CS}{Ss:List bf}{k:Nat}{S:bf}(T:TT K mg tp DD ZZ)(l:DD[j]?=some (x,i))(d:Nat)(M:Ms)(b:List (Nat×Md×Nat))(gn:List Str)(p:∀a Q R,S a Q R->wSs (bI Ss) (qY Gs) c (bH m Q R) (au n a))(h:zf P w K mg base DD b Ss)(g:PM K mg gn Gs)(e:(b.all (λy=>decide (y.2.2<=k))&&FD ZZ (tp i) d n M (b.map λy=>Cp DD y.1) gn (b.map (·.2.1)) [] m c)=true)(f:∀a P R,S a P R->a.length=d):Cl P w K mg base DD (k+1) j m S:=by have F:=LM T l d M b gn p h g e f;rw[Ap]at e;exact Cq T l (Cr e.2) F f
theorem eZ{n j i:Nat}{x:Str}{m:Md}{c:List CS}{Ss:List bf}{k:Nat}{S:bf}(T:TT K mg tp DD ZZ)(g:DD[j]?=some (x,i))(d:Nat)(M:Ms)(b:List (Nat×Md×Nat))(p:∀a Q R,S a Q R->wSs (bI Ss) (qY []) c (bH m Q R) (au n a))(h:zf P w K mg base DD b Ss)(f:(b.all (λy=>decide (y.2.2<=k))&&FD ZZ (tp i) d n M (b.map λy=>Cp DD y.1) [] (b.map (·.2.1)) [] m c)=true)(e:∀a P R,S a P R->a.length=d):Cl P w K mg base DD (k+1) j m S:=PR T g d M b [] p h trivial f e
theorem tU{n j i:Nat}{x:Str}{m:Md}{c:List CS}{S:bf}(T:TT K mg tp DD ZZ)(f:DD[j]?=some (x,i))(b:Nat)(M:Ms)(p:∀a Q R,S a Q R->wSs (bI []) (qY []) c (bH m Q R) (au n a))(e:FD ZZ (tp i) b n M [] [] [] [] m c=true)(d:∀a P R,S a P R->a.length=b):Cl P w K mg base DD 1 j m S:=PR (k:=0) T f b M [] [] p trivial trivial e d
theorem PU{k j i a:Nat}{x:Str}(T:TT K mg tp DD ZZ)(c:DD[j]?=some (x,i))(b:a=(qG (tp i)).length):Cl P w K mg base DD k j .s R8:=Cq T c b O4 λ_ _ _ z=>z.elim
theorem LN{j i jr e k:Nat}{x y z:Str}{A p2 v u t r:Pos}(T:TT K mg tp DD ZZ)(l:DD[j]?=some (x,i))(n:DD[jr]?=some (y,e))(F:bK P w K mg base (ji P w) k (T.f jr) (T.d jr) (qG (tp e)) (wj K 1 .s mT))
 (I:fq (Mw (tp i)) (qG (tp i)) (ak (tp i)))(a:aX (tp i)=[.Return (some (.Call (.Name "sorted" A) [.Name z p2] [⟨some "key",.Name y v,u⟩] t)) r])(G:(qG (tp e)).length=1)(c:(qG (tp i)).length=1)
 (H:(Mw (tp i))[0]?=some z)(C:HM (ak (tp i)) z)(q:(z==("__debug__":Str))=false)(p:(z==("__classdict__":Str))=false)(E:(ak (tp i)).names.lookup ("sorted":Str)=some .globalImplicit)(g:("sorted":Str)∈ZZ)
 (B:(ak (tp i)).names.lookup y=some .globalImplicit)(o:(y==("__debug__":Str))=false):Cl P w K mg base DD (k+2+1) j .s i9:=
 Cq T l c.symm (ze (T.D l).F I a F (T.D n).b G c H C q p E (T.Z _ g) B (T.D n).m o) λJ P R h=>by obtain⟨L,rfl,_⟩:=h;rfl
theorem Cs{j k:Nat}{m:Md}{S:Nat->bf}(z:Cl P w K mg base DD k j m (S 0))(st:∀n a,k<=a->Cl P w K mg base DD a j m (S n)->Cl P w K mg base DD (a+1) j m (S (n+1))):∀n,Cl P w K mg base DD (k+n) j m (S n)
 |0=>z
 |n+1=>st n (k+n) (XF _ _) (Cs z st n)
theorem zg(a:List W)(Q:W->Prop)(R:Addr->Prop):¬b9 0 a Q R:=by rintro⟨b,d,p,_,⟨c,_,_,_,h⟩,_⟩;have:=c.m.n0;lia
end
end VL
namespace VL
open PySem PySem.Spec
open PyProof.Rows hiding St
open L2 Num Alg
noncomputable def Ct:List CS:=[.set 2 (.bin .Mod (.bin .Add (.bin .Add (.bin .Mult (.var 2) (.var 3)) (.bin .Mult (.int 31) (.var 5))) (.int 7)) (.int 999999937)),.set 3 (.bin .Mod (.bin .Add (.bin .Add (.bin .Mult (.var 3) (.int 40692)) (.var 2)) (.var 5)) (.int 2147483399)),.set 6 (.bin .Mod (.bin .Add (.bin .Mult (.int 3) (.var 2)) (.var 3)) (.int 1000000007)),.iff (.cmp .GtE (.var 0) (.bin .Pow (.int 10) (.int 18))) [.set 6 (.bin .Mod (.var 0) (.bin .Pow (.int 10) (.int 9))),.set 0 (.bin .FloorDiv (.var 0) (.bin .Pow (.int 10) (.int 9)))] [],.app 4 (.var 6)]
noncomputable def mU:List CS:=[.set 2 (.bin .Add (.bin .Mod (.var 0) (.int 999999937)) (.int 2)),.set 3 (.bin .Add (.bin .Mod (.bin .FloorDiv (.var 0) (.int 999999937)) (.int 999999937)) (.int 3)),.set 4 (.lst []),.fr [5] true (.jb [(.var 1)]) Ct,.ret (.var 4)]
noncomputable def gx:bf:=λb Q _=>∃(c:Int)(n:Nat),b=[.int c,.int n]/\n<=60/\∀a:List Int,a.length=n->(∀x∈a,0<=x)->Q (wI a)
theorem Cu{K:Nat->bf}{G:Nat->W}{m:Md}(C:List W)(Q:W->Prop)(R:Addr->Prop)(h:gx C Q R):wSs K G mU (bH m Q R) (au 7 C):=by
 obtain⟨c,n,rfl,Z,z⟩:=h;show wSs _ _ mU _ [some (.int c),some (.int n),none,none,none,none,none];unfold mU;have L:(999999937:Int).natAbs.log2<1000000000:=qi (n:=31) (by decide) (by decide);have Y:((10:Int)^(9:Int).toNat).natAbs.log2<1000000000:=qi (n:=31) (by decide) (by decide);refine aq (λd=>∃a:Int,(0<=a/\a<2^31)/\d=[some (.int c),some (.int n),some (.int a),none,none,none,none]) (λN r=>?_) ?_
 .have f:=fm (x:=c) (n:=999999937) (by decide);fin2;exact⟨by decide,r _ ⟨_,⟨by lia,by lia⟩,rfl⟩⟩
 rintro _ ⟨a,⟨I,H⟩,rfl⟩;refine aq (λd=>∃b:Int,(0<=b/\b<2^31)/\d=[some (.int c),some (.int n),some (.int a),some (.int b),none,none,none]) (λN r=>?_) ?_
 .have f:=fm (x:=c.fdiv 999999937) (n:=999999937) (by decide);fin2;exact⟨⟨by decide,L⟩,by decide,r _ ⟨_,⟨by lia,by lia⟩,rfl⟩⟩
 rintro _ ⟨b,⟨E,D⟩,rfl⟩;refine aq (λd=>d=[some (.int c),some (.int n),some (.int a),some (.int b),some (wI []),none,none]) (λN r=>?_) ?_
 .fin2;exact⟨aj (by simp),r _ rfl⟩
 rintro _ rfl;refine aq (λd=>∃(c a b:Int)(e:List Int)(p j:Option W),(e.length=n/\∀x∈e,0<=x)/\d=[some (.int c),some (.int n),some (.int a),some (.int b),some (wI e),p,j]) (λN r=>?_) ?_
 .refine oM (l:=cY 0 1 n) (λQ z=>?_) ?_
  .fin2;exact⟨by lia,by lia,by rw[G2];exact z⟩
  refine bT (λi J=>∃(c a b:Int)(e:List Int)(p j:Option W),((0<=a/\a<2^31)/\(0<=b/\b<2^31)/\e.length=i/\∀x∈e,0<=x)/\J=[some (.int c),some (.int n),some (.int a),some (.int b),some (wI e),p,j]) ⟨c,a,b,[],none,none,⟨⟨I,H⟩,⟨E,D⟩,rfl,λx M=>by cases M⟩,rfl⟩ ?_ ?_
  .rintro i w _ N1 O ⟨c,a,b,e,p,j,⟨⟨I,H⟩,⟨E,D⟩,s,t⟩,rfl⟩ P;obtain⟨hi,rfl⟩:=mD O;unfold Ct;refine aq (λd=>∃g:Int,(0<=g/\g<2^31)/\d=[some (.int c),some (.int n),some (.int g),some (.int b),some (wI e),some (.int i),j]) (λB o=>?_) ?_
   .have f:=fm (x:=a*b+31*(i:Int)+7) (n:=999999937) (by decide);fin2;exact⟨cC (n:=31) (m:=31) (by lia) (by lia) (by decide),cC (n:=5) (m:=6) (by decide) (by lia) (by decide),by decide,o _ ⟨_,⟨f.1,by lia⟩,rfl⟩⟩
   rintro _ ⟨g,⟨U,A⟩,rfl⟩;refine aq (λd=>∃k:Int,(0<=k/\k<2^31)/\d=[some (.int c),some (.int n),some (.int g),some (.int k),some (wI e),some (.int i),j]) (λB o=>?_) ?_
   .have f:=fm (x:=b*40692+g+(i:Int)) (n:=2147483399) (by decide);fin2;exact⟨cC (n:=31) (m:=16) (by lia) (by decide) (by decide),by decide,o _ ⟨_,⟨f.1,by lia⟩,rfl⟩⟩
   rintro _ ⟨k,⟨T,S⟩,rfl⟩;refine aq (λd=>∃x:Int,0<=x/\d=[some (.int c),some (.int n),some (.int g),some (.int k),some (wI e),some (.int i),some (.int x)]) (λB o=>?_) ?_
   .have f:=fm (x:=3*g+k) (n:=1000000007) (by decide);fin2;exact⟨cC (n:=2) (m:=31) (by decide) (by lia) (by decide),by decide,o _ ⟨_,f.1,rfl⟩⟩
   rintro _ ⟨x,v,rfl⟩;refine aq (λd=>∃(c x:Int),0<=x/\d=[some (.int c),some (.int n),some (.int g),some (.int k),some (wI e),some (.int i),some (.int x)]) (λB o=>?_) ?_
   .fin2;refine⟨gO (by decide) (by decide) (by decide),?_⟩;split
    .have f:=fm (x:=c) (n:=(10:Int)^(9:Int).toNat) (by decide);exact⟨gO (by decide) (by decide) (by decide),by decide,gO (by decide) (by decide) (by decide),⟨by decide,Y⟩,o _ ⟨_,_,f.1,rfl⟩⟩
    .exact o _ ⟨c,x,v,rfl⟩
   rintro _ ⟨c,x,v,rfl⟩;have q:=P [some (.int c),some (.int n),some (.int g),some (.int k),some (wI (e++[x])),some (.int i),some (.int x)] ⟨c,g,k,e++[x],some (.int i),some (.int x),⟨⟨U,A⟩,⟨T,S⟩,by rw[Fm,s];rfl,λy u=>?_⟩,rfl⟩
   .unfold wI at q⊢;fin2;rw[Iy]at q;exact⟨qh (by rw[AN];lia),q⟩
   .rcases Fs.mp u with u|u
    .exact t y u
    .rw[DL.mp u];exact v
  .rintro _ ⟨c,a,b,e,p,j,⟨_,_,s,t⟩,rfl⟩;rw[qj]at s;exact r _ ⟨c,a,b,e,p,j,⟨s,t⟩,rfl⟩
 rintro _ ⟨c,a,b,e,p,j,⟨s,t⟩,rfl⟩;exact z e s t
noncomputable def mV:List CS:=[.iff (.cmp .Lt (.var 1) (.blt .len [(.var 0)])) [.ret (.ix (.var 0) (.var 1))] [],.ret (.int 0)]
noncomputable def ku:bf:=λa Q _=>∃(b:List Int)(k:Nat),a=[.eO b,.int k]/\∀z:Int,Q (.int z)
theorem Cv{d:Nat->bf}{G:Nat->W}{m:Md}(a:List W)(Q:W->Prop)(R:Addr->Prop)(h:ku a Q R):wSs d G mV (bH m Q R) (au 2 a):=by
 obtain⟨b,k,rfl,c⟩:=h;show wSs _ _ mV _ [some (.eO b),some (.int k)];unfold mV;fin2;by_cases e:k<b.length
 .rw[Bz (Do (by lia))];exact⟨_,L2.bq (B1 e),c _⟩
 .rw[Bi (by rw[Fh];lia)];exact c _
noncomputable def gY:List CS:=[.set 1 (.int 2),.t7 (.cmp .LtE (.bin .Mult (.var 1) (.var 1)) (.var 0)) [.iff (.cmp .Eq (.bin .Mod (.var 0) (.var 1)) (.int 0)) [.ret (.bl false)] [],.set 1 (.bin .Add (.var 1) (.int 1))],.ret (.cmp .Gt (.var 0) (.int 1))]
noncomputable def jJ:bf:=λa Q _=>∃n:Nat,a=[.int n]/\n<=10000/\∀b:Bool,(b=true↔af n)->Q (.bl b)
theorem vv{i:Nat->bf}{G:Nat->W}{m:Md}(c:List W)(Q:W->Prop)(R:Addr->Prop)(h:jJ c Q R):wSs i G gY (bH m Q R) (au 2 c):=by
 obtain⟨n,rfl,r,f⟩:=h;show wSs _ _ gY _ [some (.int n),none];unfold gY;fin2;refine jy (α:=Nat) (λk=>[some (.int n),some (.int k)]) (λk=>2<=k/\k<=10001/\∀d:Int,2<=d->d<k->(n:Int)%d≠0) (λk=>10002 -k) 2 rfl ⟨BM _,by decide,λd a b=>by lia⟩ ?_;rintro k ⟨p,q,g⟩;fin2;refine⟨cC (n:=14) (m:=14) (by lia) (by lia) (by decide),?_⟩;refine cA (λz=>?_) (λz=>?_)
 .have z:=Bn z;have o:(k:Int)<=n:=by have:(k:Int)*2<=(k:Int)*k:=TK (by lia) (by lia);lia
  fin2;refine⟨by lia,?_⟩;rw[Ki _ (by lia)];by_cases e:(n:Int)%k=0
  .rw[Bz (Do e)];refine f false ⟨λh=>(by cases h),λh=>?_⟩;exact absurd e (h.2 k (by lia) z)
  .rw[Bi (by rw[Fh];exact e)];refine⟨k+1,rfl,⟨by lia,by lia,λd a b=>?_⟩,by show 10002 -(k+1)<10002 -k;lia⟩;by_cases j:d=k
   .rw[j];exact e
   .exact g d a (by lia)
 .have z:¬((k:Int)*k<=n):=λy=>by rw[Do y]at z;cases z
  fin2;refine f _ ⟨λh=>?_,λh=>Do (by have:=h.1;lia)⟩;have h:=Bn h;refine⟨by lia,λd l dd=>g d l ?_⟩;refine FS λy=>z ?_;have:(k:Int)*k<=d*d:=Xd (by lia) (by lia) (by lia) (by lia);lia
noncomputable def qH:List CS:=[.iff (.cmp .Gt (.bin .Mod (.var 0) (.int 3)) (.int 0)) [.ret (.ix (.lst [(.int 2),(.int 3),(.int 5),(.int 7),(.int 11),(.int 13),(.int 17),(.int 19)]) (.bin .Mod (.bin .FloorDiv (.var 0) (.int 3)) (.int 8)))] [],.set 1 (.bin .Add (.int 2) (.bin .Mod (.bin .FloorDiv (.var 0) (.int 3)) (.int 9972))),.t7 (.not (.call 0 [(.var 1)])) [.set 1 (.bin .Sub (.var 1) (.int 1))],.ret (.var 1)]
noncomputable def qI:bf:=λa Q _=>∃x:Int,a=[.int x]/\∀p:Nat,af p->p<10000->Q (.int p)
theorem oN:af ((2:Nat):Int):=⟨by decide,λd a dd=>by have:d*2<=d*d:=TK (by lia) (by lia);lia⟩
theorem dU{n:Nat}(b:2<=n)(f:n<25)(h:n%2≠0\/n=2)(a:n%3≠0\/n=3):af (n:Int):=⟨by lia,λd e dd=>by
 have c:d<5:=FS λz=>by have:5*5<=d*d:=Xd (by lia) (by lia) (by lia) (by lia);lia
 obtain rfl|rfl|rfl:d=2\/d=3\/d=4:=by lia
 .lia
 .lia
 .lia⟩
theorem FE{G:Nat->W}{m:Md}(d:List W)(Q:W->Prop)(R:Addr->Prop)(h:qI d Q R):wSs (bI [jJ]) G qH (bH m Q R) (au 2 d):=by
 obtain⟨x,rfl,g⟩:=h;show wSs _ _ qH _ [some (.int x),none];unfold qH;have f:(3:Int).natAbs.log2<1000000000:=qi (n:=31) (by decide) (by decide);have r:=fm (x:=x.fdiv 3) (n:=8) (by decide);have p:=fm (x:=x.fdiv 3) (n:=9972) (by decide);fin2;refine⟨by decide,?_⟩;by_cases c:x.fmod 3>0
 .rw[Bz (Do c)];refine⟨aj (by decide),⟨by decide,f⟩,by decide,?_⟩;have a:∀n:Nat,(n=2\/n=3\/n=5\/n=7\/n=11\/n=13\/n=17\/n=19)->Q (.int n):=λn i=>g n (dU (by lia) (by lia) (by lia) (by lia)) (by lia);obtain e|e|e|e|e|e|e|e:(x.fdiv 3).fmod 8=0\/(x.fdiv 3).fmod 8=1\/(x.fdiv 3).fmod 8=2\/(x.fdiv 3).fmod 8=3\/(x.fdiv 3).fmod 8=4\/(x.fdiv 3).fmod 8=5\/(x.fdiv 3).fmod 8=6\/(x.fdiv 3).fmod 8=7:=by lia
  .rw[e];exact⟨_,rfl,a 2 (by decide)⟩
  .rw[e];exact⟨_,rfl,a 3 (by decide)⟩
  .rw[e];exact⟨_,rfl,a 5 (by decide)⟩
  .rw[e];exact⟨_,rfl,a 7 (by decide)⟩
  .rw[e];exact⟨_,rfl,a 11 (by decide)⟩
  .rw[e];exact⟨_,rfl,a 13 (by decide)⟩
  .rw[e];exact⟨_,rfl,a 17 (by decide)⟩
  .rw[e];exact⟨_,rfl,a 19 (by decide)⟩
 .rw[Bi (by rw[Fh];exact c)];refine⟨⟨by decide,f⟩,by decide,?_⟩;generalize(x.fdiv 3).fmod 9972=y at p;obtain⟨n,i⟩:∃n:Nat,2+y=n:=⟨(2+y).toNat,by lia⟩;rw[i];refine jy (α:=Nat) (λk=>[some (.int x),some (.int k)]) (λk=>2<=k/\k<10000) (λk=>k) n rfl ⟨by lia,by lia⟩ ?_;rintro k ⟨q,o⟩;fin2;refine⟨k,rfl,by lia,λb j=>?_⟩;fin2;refine cA (λz=>?_) (λz=>?_)
  .have l:¬af (k:Int):=λy=>by rw[j.mpr y]at z;cases z
   have:k≠2:=λe=>l (by rw[e];exact oN);fin2;exact⟨k -1,by rw[show(k:Int) -1=((k -1:Nat):Int) by lia],⟨by lia,by lia⟩,by show k -1<k;lia⟩
  .have:b=true:=by cases b<;>first|rfl|cases z
   fin2;exact g k (j.mp this) o
noncomputable def qJ:List CS:=[.set 1 (.blt .len [(.var 0)]),.t7 (.and [(.cmp .Gt (.var 1) (.int 0)),(.cmp .Eq (.ix (.var 0) (.bin .Sub (.var 1) (.int 1))) (.int 0))]) [.set 1 (.bin .Sub (.var 1) (.int 1))],.ret (.blt .list [(.sl (.var 0) .aL (.var 1))])]
theorem FF{l:Nat->bf}{G:Nat->W}{m:Md}(i:List W)(Q:W->Prop)(R:Addr->Prop)(h:cT i Q R):wSs l G qJ (bH m Q R) (au 2 i):=by
 obtain⟨c,rfl,n⟩:=h;show wSs _ _ qJ _ [some (wI c),none];unfold qJ wI;fin2;refine jy (α:=Nat) (λk=>[some (.lst (c.map W.int)),some (.int k)]) (λk=>k<=c.length/\∀j,k<=j->j<c.length->c.getD j 0=0) (λk=>k) c.length (by rw[AN]) ⟨BM _,λj g f=>by lia⟩ ?_;rintro k ⟨g,f⟩;fin2;have d:(k=0\/c.getD (k -1) 0≠0)->Q (.lst (gS (c.map W.int) none (some (k:Int)))):=λh=>by rw[mF c k g];exact n _ ⟨k,g,rfl,f,h⟩
 by_cases o:0<k
 .rw[Bz (Do (by lia))];rw[show(k:Int) -1=((k -1:Nat):Int) by lia];refine⟨_,bq (int_at (by lia)),?_⟩;fin2;refine cA (λz=>?_) (λz=>?_)
  .have z:=Bn z;fin2;refine⟨k -1,by rw[show(k:Int) -1=((k -1:Nat):Int) by lia],⟨by lia,λj a b=>?_⟩,by show k -1<k;lia⟩;by_cases e:j=k -1
   .rw[e];exact z
   .exact f j (by lia) b
  .have z:=X2 z;fin2;exact d (.inr z)
 .rw[Bi (by rw[Fh];lia)];refine cA (λz=>by cases z) (λ_=>?_);fin2;exact d (.inl (by lia))
theorem LO(l:List Int)(p:Nat)(v:Int)(k:Nat)(h:p<l.length):(l.set p v).getD k 0=if k=p then v else l.getD k 0:=by
 rw[AC,X7,AC];by_cases e:k=p
 .rw[Bz e.symm,Bz h,Bz e];rfl
 .rw[Bi (NM e),Bi e]
theorem Cw{l:List Int}{i:Nat}{v:Int}{P:Int->Prop}(h:∀x∈l,P x)(b:P v):∀x∈l.set i v,P x:=λx a=>by
 rcases List.mem_or_eq_of_mem_set a with z|z
 .exact h x z
 .rw[z];exact b
theorem LP{p:Nat}(d:0<p){l a:List Int}(c:∀x∈l,0<=x/\x<p)(h:cW l a):fL p a=fL p l/\Rm p a/\a.length<=l.length:=by
 have e:l.map (·%(p:Int))=l:=by
  conv=>rhs;rw[<-List.map_id l]
  exact PP λx b=>RG (c x b).1 (c x b).2
 rw[<-e]at h;exact iZ d h
theorem LQ(x:Int)(p:Nat):(p:Int)∣x%p -x:=⟨-(x/p),by have:=Os x p;grind⟩
theorem xE{p:Nat}(a:0<p)(x:Int):0<=x%p/\x%p<p:=⟨Pl _ (by lia),Nw _ (by lia)⟩
noncomputable def Cy:List CS:=[.set 6 (.bin .Mult (.ix (.var 0) (.var 4)) (.ix (.var 1) (.var 5))),.put 3 (.bin .Add (.var 4) (.var 5)) (.bin .Mod (.bin .Add (.ix (.var 3) (.bin .Add (.var 4) (.var 5))) (.var 6)) (.var 2))]
noncomputable def Cz:List CS:=[.iff (.or [(.cmp .Eq (.var 0) (.lst [])),(.cmp .Eq (.var 1) (.lst []))]) [.ret (.lst [])] [],.set 3 (.bin .Mult (.lst [(.int 0)]) (.bin .Sub (.bin .Add (.blt .len [(.var 0)]) (.blt .len [(.var 1)])) (.int 1))),.fr [4] true (.jb [(.blt .len [(.var 0)])]) [.fr [5] true (.jb [(.blt .len [(.var 1)])]) Cy],.ret (.call 0 [(.var 3)])]
structure Pf(p:Nat)(a b:List Int)(g:Nat->Int)(l:List Int):Prop where
 len:l.length=a.length+b.length -1
 bd:∀x∈l,0<=x/\x<p
 eq:∀k,k<a.length+b.length -1->(p:Int)∣l.getD k 0 -g k
theorem PV{G:Nat->W}{m:Md}(I:List W)(Q:W->Prop)(R:Addr->Prop)(h:bF I Q R):wSs (bI [cT]) G Cz (bH m Q R) (au 7 I):=by
 obtain⟨a,b,p,rfl,⟨J,fM,la,lb,S,P⟩,u⟩:=h;show wSs _ _ Cz _ [some (wI a),some (wI b),some (.int p),none,none,none,none];unfold Cz;refine aq (λo=>(a≠[]/\b≠[])/\o=[some (wI a),some (wI b),some (.int p),none,none,none,none]) (λN C=>?_) ?_
 .have B:(a=[]\/b=[])->Q (wI []):=λz=>u [] ⟨λx E=>(by cases E),.inl rfl⟩ (by
   rcases z with z|z
   .rw[z,bC];grind
   .rw[z,bC];grind) (KE _)
  fin2;refine⟨aj (by simp),BN (y:=[]) λk1 M=>?_⟩;fin2;by_cases A:a=[]
  .cases fE M A;rw[Bz rfl];exact⟨aj (by simp),B (.inl A)⟩
  .cases iU M A;rw[Bi (by decide)];refine⟨aj (by simp),BN (y:=[]) λk2 L=>?_⟩;fin2;by_cases v:b=[]
   .cases fE L v;rw[Bz rfl];exact⟨aj (by simp),B (.inr v)⟩
   .cases iU L v;rw[Bi (by decide)];exact C _ ⟨⟨A,v⟩,rfl⟩
 rintro _ ⟨⟨A,v⟩,rfl⟩;have a0:=KF.mpr A;have b0:=KF.mpr v;refine aq (λo=>∃l,Pf p a b (cf a b 0) l/\o=[some (wI a),some (wI b),some (.int p),some (wI l),none,none,none]) (λN C=>?_) ?_
 .have g:=C _ ⟨Ds (a.length+b.length -1) 0,⟨by simp,λx E=>by rw[XA E];exact⟨by decide,by lia⟩,λk H=>⟨0,by show(Ds (a.length+b.length -1) (0:Int)).getD k 0 -0=_;rw[AC,T2];split<;>rfl⟩⟩,rfl⟩;unfold wI at g⊢;fin2;rw[AN,AN,show(a.length:Int)+(b.length:Int) -1=((a.length+b.length -1:Nat):Int) by lia,G2,cS];rw[Ta]at g;exact⟨aj (by simp),by lia,by lia,aj (by simp;lia),g⟩
 rintro _ ⟨l,c,rfl⟩;refine aq (λo=>∃(l:List Int)(s f d:Option W),Pf p a b (cf a b a.length) l/\o=[some (wI a),some (wI b),some (.int p),some (wI l),s,f,d]) (λN C=>?_) ?_
 .refine oM (l:=cY 0 1 a.length) (λQ u=>?_) ?_
  .unfold wI;fin2;rw[AN];exact⟨by lia,by lia,by rw[G2];exact u⟩
  refine bT (λi D=>∃(l:List Int)(s f d:Option W),Pf p a b (cf a b i) l/\D=[some (wI a),some (wI b),some (.int p),some (wI l),s,f,d]) ⟨l,none,none,none,c,rfl⟩ ?_ ?_
  .rintro i w _ N1 Y ⟨l,s,f,d,c,rfl⟩ gw;obtain⟨t,rfl⟩:=mD Y;refine oM (l:=cY 0 1 b.length) (λQ u=>?_) ?_
   .unfold wI;fin2;rw[AN];exact⟨by lia,by lia,by rw[G2];exact u⟩
   refine bT (λj D=>∃(l:List Int)(f d:Option W),Pf p a b (qS a b i j) l/\D=[some (wI a),some (wI b),some (.int p),some (wI l),some (.int i),f,d]) ⟨l,f,d,by rw[show qS a b i 0=cf a b i from funext λk=>rQ a b i k];exact c,rfl⟩ ?_ ?_
   .rintro j w _ N2 O ⟨l,f,d,c,rfl⟩ T;obtain⟨Z,rfl⟩:=mD O;have H:i+j<a.length+b.length -1:=by lia
    have K:=c.len;have up:Pf p a b (qS a b i (j+1)) (l.set (i+j) ((l.getD (i+j) 0+a.getD i 0*b.getD j 0)%p)):=by
     refine⟨by rw[OF];exact K,Cw c.bd (xE J _),λk H=>?_⟩;rw[LO _ _ _ _ (by lia),kM];have q:=c.eq k H;by_cases e:k=i+j
     .rw[Bz e,Bz e];rw[e]at q⊢;have:=SL (LQ (l.getD (i+j) 0+a.getD i 0*b.getD j 0) p) q;generalize(l.getD (i+j) 0+a.getD i 0*b.getD j 0)%(p:Int)=r at*;rw[show r -(qS a b i j (i+j)+a.getD i 0*b.getD j 0)=r -(l.getD (i+j) 0+a.getD i 0*b.getD j 0)+(l.getD (i+j) 0 -qS a b i j (i+j)) by lia];exact this
     .rw[Bi e,Bi e,Tb];exact q
    have g:=T _ ⟨_,some (.int j),some (.int (a.getD i 0*b.getD j 0)),up,rfl⟩;unfold Cy;unfold wI at g⊢;fin2;refine⟨_,bq (int_at t),_,bq (int_at Z),?_⟩;fin2;refine⟨f7 (p:=p) (by lia) (cL (by lia) S.b i) (cL (by lia) P.b j),?_⟩;rw[show(i:Int)+(j:Int)=((i+j:Nat):Int) by lia];refine⟨_,bq (int_at (by lia)),?_⟩;fin2;refine⟨by lia,i+j,mE (by rw[AN];lia),?_⟩;rw[Ki _ (by lia),<-XN];exact g
   .rintro _ ⟨l,f,d,c,rfl⟩;rw[qj,show qS a b i b.length=cf a b (i+1)from funext λk=>rR a b i k]at c;exact gw _ ⟨l,some (.int i),f,d,c,rfl⟩
  .rintro _ ⟨l,s,f,d,c,rfl⟩;rw[qj]at c;exact C _ ⟨l,s,f,d,c,rfl⟩
 rintro _ ⟨l,s,f,d,c,rfl⟩;fin2;refine⟨l,rfl,λU tr=>?_⟩;obtain⟨e,r,lm⟩:=LP J c.bd tr;have K:=c.len;refine u U r (e.trans (Cc λi=>?_)) (by lia);by_cases t:i<a.length+b.length -1
 .have:=c.eq i t;rw[GG]at this;exact this
 .rw[outI (by lia),pG (n:=a.length) (m:=b.length) (λi t=>outI t) (λi t=>outI t) (by lia)];exact⟨0,by lia⟩
theorem HA{p:Nat}(p2:2<=p){l:List Int}(h:∀x∈l,0<=x/\x<p):Mn p (l++[1]):=by
 have e:(l++[1]).getD ((l++[1]).length -1) 0=1:=by rw[Fm,G0,Kt,AC,Kb (BM _),R0];rfl
 refine⟨⟨λx a=>?_,.inr (by rw[e];decide)⟩,by simp,e⟩;rcases Fs.mp a with a|a
 .exact h x a
 .rw[DL.mp a];exact⟨by decide,by lia⟩
theorem LR{p:Nat}(k:af p){a b c:List Int}(f:Mn p a)(d:Mn p b)(g:Rm p c)(e:fL p c=fL p a*fL p b):Mn p c/\c.length+1=a.length+b.length:=by
 have i:∀{l:List Int},Mn p l->fL p l≠0:=λ{l} h z=>by have:=h.n0;rw[(cN h.r).mp z]at this;cases this
 have j:=bz k (i f) (i d);rw[<-e,aU f.r,aU d.r,aU g]at j;have s:=d.n0;have u:=f.n0;refine⟨⟨g,by lia,?_⟩,j⟩;have t:=Ce f.top d.top;have n:=Qt.eq.mp (show Qt.mk (Ip p) (c8 c)=Qt.mk (Ip p) (c8 a*c8 b)from e) (a.length -1+(b.length -1));have m:(p:Int)∣c.getD (a.length -1+(b.length -1)) 0+ -(c8 a*c8 b).1 (a.length -1+(b.length -1)):=n;have t:(p:Int)∣(c8 a*c8 b).1 (a.length -1+(b.length -1)) -a.getD (a.length -1) 0*b.getD (b.length -1) 0:=t;rw[show a.length -1+(b.length -1)=c.length -1 by lia]at m t;rw[f.one,d.one]at t;have q:=k.1;have o:=cL (p:=p) (by lia) g.b (c.length -1);have:=SL m t;exact mod_eq o ⟨by decide,by lia⟩ (by rw[show c.getD (c.length -1) 0 -1=c.getD (c.length -1) 0+ -(c8 a*c8 b).1 (c.length -1)+((c8 a*c8 b).1 (c.length -1) -1*1) by lia];exact this)
theorem gy(L:List (List Int×Nat)):qV 9 (.lst (L.map pW))=true:=by dsimp only[qV];rw[IH];intro w a;obtain⟨x,_,rfl⟩:=Hc.mp a;unfold pW wI;dsimp only[qV];rw[IP,IP,kj];dsimp only[qV];rw[Ap];refine⟨?_,rfl⟩;rw[IH];intro w a;obtain⟨i,_,rfl⟩:=Hc.mp a;exact kj i _
theorem LS{p:Nat}(p2:2<=p):Rm p [1]:=⟨λx a=>by rw[DL.mp a];exact⟨by decide,by lia⟩,.inr (by show(1:Int)≠0;decide)⟩
theorem LU(l:List W)(a b:Option Int):(gS l a b).length<=l.length:=by unfold gS;rw[Re,RO];lia
structure Sg(p:Nat)(row:List Int):Prop where
 pr:af p
 fM:p<2^40
 m:Mn p row
 Qy:cu (fL p row)
 vj:row.length<=50
theorem HB{p:Nat}(a:af p){P:F p}(b:2<=dg P):∀n:Nat,n+1<=dg (P^n)
 |0=>by rw[Gc,jE a];exact BM _
 |n+1=>by have ih:=HB a b n;rw[aH];have:=bz a (f:=P^n) (g:=P) (λz=>by rw[z,bZ]at ih;lia) (λz=>by rw[z,bZ]at b;lia);lia
theorem kC{p:Nat}:∀(A B:List (List Int×Nat)),dS p (A++B)=dS p A*dS p B
 |[],B=>by show dS p B=1*dS p B;grind
 |x::A,B=>by show fL p x.1^x.2*dS p (A++B)=fL p x.1^x.2*dS p A*dS p B;rw[kC A B];grind
theorem qK{p:Nat}(c:af p){P:F p}(d:cu P):∀{L:List (List Int×Nat)},Dd P (dS p L)->∃y∈L,Dd P (fL p y.1)
 |[],h=>by have:=h.len c (jR c);rw[show dS p []=(1:F p)from rfl,jE c]at this;have:=d.two;lia
 |y::L,h=>by
  rcases d.euclid c (a:=fL p y.1^y.2) (b:=dS p L) h with z|z
  .exact⟨y,Da,kr c d _ z⟩
  .obtain⟨e,g,f⟩:=qK c d z;exact⟨e,Dx _ g,f⟩
structure Pa(p:Nat)(L:List (List Int×Nat)):Prop where
 all:∀x∈L,Mn p x.1/\cu (fL p x.1)/\1<=x.2
 pw:L.Pairwise λx y=>x.1≠y.1
theorem Pa.off{p:Nat}(a:af p):∀{L:List (List Int×Nat)}{x:List Int×Nat},Pa p L->x∈L->∃R,dS p L=fL p x.1^x.2*R/\¬Dd (fL p x.1) R
 |y::L,x,h,d=>by
  obtain⟨j,b,_⟩:=h.all x d;have pw:=WI.mp h.pw;rcases FV.mp d with e|c
  .refine⟨dS p L,by rw[e];rfl,λz=>?_⟩;obtain⟨i,k,l⟩:=qK a b z;obtain⟨f,g,_⟩:=h.all i (Dx _ k);have:=qF a j b f g l;exact pw.1 i k (by rw[<-e];exact this.symm)
  .obtain⟨R,e,n⟩:=Pa.off a (L:=L) ⟨λx d=>h.all x (Dx _ d),pw.2⟩ c;refine⟨fL p y.1^y.2*R,by show fL p y.1^y.2*dS p L=_;rw[e];grind,λz=>?_⟩;rcases b.euclid a z with z|z
   .obtain⟨f,g,_⟩:=h.all y Da;exact pw.1 x c (qF a j b f g (kr a b _ z))
   .exact n z
theorem Pa.sub{p:Nat}(a:af p){L d:List (List Int×Nat)}(h:Pa p L)(h':Pa p d)(e:dS p L=dS p d){x:List Int×Nat}(i:x∈L):x∈d:=by
 obtain⟨u,c,H⟩:=h.all x i;obtain⟨R,o,s⟩:=h.off a i;obtain⟨y,f,D⟩:=qK a c (L:=d) (by obtain⟨k,w⟩:∃k,x.2=k+1:=⟨x.2 -1,by lia⟩;exact⟨fL p x.1^k*R,by rw[<-e,o,w,aH];grind⟩);obtain⟨t,v,G⟩:=h'.all y f;have q:=qF a u c t v D;obtain⟨E,l,g⟩:=h'.off a f;rw[q]at l g;have I:=c.ne;have r:∀k:Nat,fL p x.1^k≠0:=λk z=>by have:=HB a c.two k;rw[z,bZ]at this;lia
 have b:∀{m n:Nat}{A B:F p},fL p x.1^m*A=fL p x.1^n*B->m<n->Dd (fL p x.1) A:=λ{m n A B} C J=>by
  obtain⟨k,rfl⟩:∃k,n=m+(k+1):=⟨n -m -1,by lia⟩;rw[OK,aH]at C;rcases F.Hh a (fL p x.1^m) (A -fL p x.1^k*fL p x.1*B) (by grind)with z|z
  .exact absurd z (r m)
  .exact⟨fL p x.1^k*B,by grind⟩
 have en:x.2=y.2:=by
  have j:fL p x.1^x.2*R=fL p x.1^y.2*E:=by rw[<-o,e,l]
  rcases Nat.lt_trichotomy x.2 y.2 with z|z|z
  .exact(s (b j z)).elim
  .exact z
  .exact(g (b j.symm z)).elim
 have:x=y:=Y2 q.symm en;rw[this];exact f
theorem Pa.one{p:Nat}(i:af p){L f:List (List Int×Nat)}(h:Pa p L)(h':Pa p f)(e:dS p L=dS p f)(u:L.Pairwise Ci)(j:f.Pairwise Ci):L=f:=by
 have g:∀{L:List (List Int×Nat)},Pa p L->L.Nodup:=λ{L} h=>h.pw.imp λz e=>z (by rw[e]);refine Y9 (le:=Ci) (λa b _ _ d c=>?_) u j ((List.perm_ext_iff_of_nodup (g h) (g h')).mpr λa=>⟨λz=>h.sub i h' e z,λz=>h'.sub i h e.symm z⟩);rcases d with z|⟨z,d⟩
 .rcases c with y|⟨y,_⟩<;>lia
 .rcases c with y|⟨y,c⟩
  .lia
  .rcases d with d|⟨d,l⟩
   .rcases c with c|⟨c,_⟩
    .exact(jH _ (List.lt_trans d c)).elim
    .rw[c]at d;exact(jH _ d).elim
   .rcases c with c|⟨_,k⟩
    .rw[d]at c;exact(jH _ c).elim
    .exact Y2 d (by lia)
noncomputable def vA:List CS:=[.ret (.tup [(.blt .len [(.ix (.var 0) (.int 0))]),(.rev (.ix (.var 0) (.int 0))),(.ix (.var 0) (.int 1))])]
theorem LV{b:Nat->bf}{G:Nat->W}{m:Md}(a:List W)(Q:W->Prop)(R:Addr->Prop)(h:mT a Q R):wSs b G vA (bH m Q R) (au 1 a):=by obtain⟨x,rfl,c⟩:=h;show wSs _ _ vA _ [some (pW x)];unfold vA pW wI;fin2;refine⟨_,rfl,?_⟩;fin2;refine⟨_,rfl,?_⟩;fin2;refine⟨_,rfl,aj (by simp),?_⟩;rw[AN,<-List.map_reverse];exact c
section
variable{P:Program}{w:World}{K:Frag}{mg:Str->Option Value}{base:Heap}{tp:Nat->Stmt}{DD:DT}{ZZ:List Str}
theorem LW{k j i b:Nat}{x:Str}{S:bf}(T:TT K mg tp DD ZZ)(d:DD[j]?=some (x,i))(c:b=(qG (tp i)).length)(e:∀a Q R,¬S a Q R):Cl P w K mg base DD k j .s S:=by have:S=R8:=funext λa=>funext λQ=>funext λR=>propext ⟨λz=>(e _ _ _ z).elim,λz=>z.elim⟩;rw[this];exact PU T d c
theorem LX{j i jh jd b d k:Nat}{x:Str}(T:TT K mg tp DD ZZ)(g:DD[j]?=some (x,i))(l:Cl P w K mg base DD b jh .s i8)(m:Cl P w K mg base DD d jd .s aQ)(e:FD ZZ (tp i) 3 5 [] [Cp DD jh,Cp DD jd,Cp DD j] [] [.s,.s,.s] [] .s cO=true)(p:b<=k)(o:d<=k):∀n,Cl P w K mg base DD (k+n) j .s (b9 n):=
 Cs (LW T g (Cr e) zg) λn a f c=>by refine eZ (k:=a) (Ss:=[i8,aQ,b9 n]) T g 3 [] [(jh,.s,b),(jd,.s,d),(j,.s,a)] nG ⟨l,m,c,trivial⟩ ?_ (λq P R h=>by obtain⟨_,_,_,rfl,_⟩:=h;rfl);rw[Ap];refine⟨?_,e⟩;show(decide (b<=a)&&(decide (d<=a)&&(decide (a<=a)&&true)))=true;rw[Do (Hm p f),Do (Hm o f),Do (BM a)];rfl
end
noncomputable def CA:List CS:=[.set 2 (.call 0 [(.var 0),(.int 12)]),.set 3 (.comp [0] true 1 (.jb [(.bin .Add (.int 1) (.bin .Mod (.ix (.var 2) (.int 11)) (.int 9)))]) (.bl true) (.bin .Mod (.ix (.var 3) (.var 0)) (.var 2))),.iff (.cmp .Eq (.bin .Mod (.ix (.var 2) (.int 10)) (.int 4)) (.int 1)) [.set 3 (.comp [0] true 1 (.jb [(.bin .Add (.int 1) (.bin .Mod (.ix (.var 2) (.int 11)) (.int 3)))]) (.bl true) (.bin .Mod (.ix (.var 3) (.var 0)) (.var 2))),.set 3 (.bin .Add (.var 3) (.bin .Mult (.sl (.var 3) .aL (.int 1)) (.bin .Sub (.int 9) (.blt .len [(.var 3)]))))] [],.ret (.var 3)]
structure Nm(p:Nat)(s:List Int):Prop where
 l1:1<=s.length
 l9:s.length<=9
 b:∀x∈s,0<=x/\x<p
noncomputable def FG:bf:=λa Q _=>∃(c:Int)(p:Nat),a=[.int c,.int p]/\0<p/\∀s,Nm p s->Q (wI s)
theorem HC{h:Nat->bf}{G:Nat->W}{R:Addr->Prop}{c:Int}{p:Nat}{a:List Int}{o:Option W}{k:Int}{Q:W->Prop}(j:0<p)(r:a.length=12)(u:1<=k)(t:k<=9)(d:∀s,Nm p s->(s.length:Int)<=k->Q (wI s)):
 wE h G R (.comp [0] true 1 (.jb [(.bin .Add (.int 1) (.bin .Mod (.ix (.var 2) (.int 11)) (.int k)))]) (.bl true) (.bin .Mod (.ix (.var 3) (.var 0)) (.var 2))) [some (.int c),some (.int p),some (wI a),o] Q:=by
 unfold wI at d⊢;fin2;refine⟨_,bq (k:=11) (int_at (by lia)),?_⟩;fin2;refine⟨by lia,?_⟩;have f:=fm (x:=a.getD 11 0) (n:=k) (by lia);generalize(a.getD 11 0).fmod k=y at*;obtain⟨n,m⟩:∃n:Nat,1+y=n:=⟨(1+y).toNat,by lia⟩;rw[m];refine⟨by lia,by lia,?_⟩;rw[G2];fin2;unfold cY;refine eX (g:=λi:Nat=>W.int (a.getD i 0%p)) (Ea n) [] _ (λi e K q=>?_) (by have:=aj (n:=n) (by lia);simpa using this) ?_
 .have e:=Kk.mp e;fin2;rw[show(0:Int)+(i:Int)*1=((i:Nat):Int) by lia];refine⟨_,bq (int_at (by lia)),?_⟩;fin2;refine⟨by lia,?_⟩;rw[Ki _ (by lia)];exact q
 .have b:=d ((Ea n).map λi=>a.getD i 0%p) ⟨by rw[AN,GE];lia,by rw[AN,GE];lia,λx l=>?_⟩ (by rw[AN,GE];lia)
  .rw[Qr]at b;exact b
  .obtain⟨i,_,rfl⟩:=Hc.mp l;exact xE j _
theorem PX{G:Nat->W}{m:Md}(l:List W)(Q:W->Prop)(R:Addr->Prop)(h:FG l Q R):wSs (bI [gx]) G CA (bH m Q R) (au 4 l):=by
 obtain⟨c,p,rfl,n,r⟩:=h;show wSs _ _ CA _ [some (.int c),some (.int p),none,none];unfold CA;refine aq (λd=>∃e:List Int,e.length=12/\d=[some (.int c),some (.int p),some (wI e),none]) (λN j=>?_) ?_
 .fin2;exact⟨c,12,rfl,by decide,λe w _=>j _ ⟨e,w,rfl⟩⟩
 rintro _ ⟨e,o,rfl⟩;refine aq (λd=>∃s,Nm p s/\d=[some (.int c),some (.int p),some (wI e),some (wI s)]) (λN j=>?_) ?_
 .dsimp only[wS];exact HC (k:=9) n o (by decide) (by decide) λs f _=>j _ ⟨s,f,rfl⟩
 rintro _ ⟨s,f,rfl⟩;refine aq (λd=>∃s,Nm p s/\d=[some (.int c),some (.int p),some (wI e),some (wI s)]) (λN j=>?_) ?_
 .have y:=j _ ⟨s,f,rfl⟩;dsimp only[wS];have i:jV (e.map W.int) (10:Int)=some (.int (e.getD 10 0)):=bq (k:=10) (int_at (by lia));have u:∀K:W->Prop,(∀b:Bool,K (.bl b))->wE (bI [gx]) G R (.cmp .Eq (.bin .Mod (.ix (.var 2) (.int 10)) (.int 4)) (.int 1)) [some (.int c),some (.int p),some (wI e),some (wI s)] K:=λK v=>by unfold wI;fin2;refine⟨_,i,?_⟩;fin2;exact⟨by decide,v _⟩
  refine u _ λb=>?_;cases b with
  |false=>rw[ia,Bi (by decide)];exact y
  |true=>
   rw[ia,Bz rfl];refine aq (λd=>∃s,(Nm p s/\s.length<=3)/\d=[some (.int c),some (.int p),some (wI e),some (wI s)]) (λC q=>?_) ?_
   .dsimp only[wS];exact HC (k:=3) n o (by decide) (by decide) λs f B=>q _ ⟨s,⟨f,by lia⟩,rfl⟩
   rintro _ ⟨s,⟨f,A⟩,rfl⟩;have l1:=f.l1;have z:gS (s.map W.int) none (some 1)=[W.int (s.getD 0 0)]:=by
    have:=mF s 1 l1;rw[show((1:Nat):Int)=1 from rfl]at this;rw[this];cases s with
    |nil=>cases l1
    |cons a t=>rfl
   have g:=j _ ⟨s++Ds (9 -s.length) (s.getD 0 0),⟨by rw[Fm];lia,by rw[Fm,W0];lia,λx i=>?_⟩,rfl⟩
   .unfold wI at g⊢;fin2;rw[z,AN,show(9:Int) -(s.length:Int)=((9 -s.length:Nat):Int) by lia];fin2;rw[G2,cS];rw[Iy,Ta]at g;exact⟨by lia,by lia,aj (by simp;lia),aj (by simp;lia),g⟩
   .rcases Fs.mp i with i|i
    .exact f.b x i
    .rw[XA i];exact cL (by lia) f.b 0
 rintro _ ⟨s,f,rfl⟩;fin2;exact r s f
noncomputable def mZ(D:List (Int×Nat)):List W:=D.map λx=>W.int x.1
noncomputable def qX(D:List (Int×Nat)):List W:=D.map λx=>W.int (x.2:Nat)
noncomputable def Aa(x:Int×Nat):List Int×Nat:=([x.1,1],x.2)
structure Dk(p:Nat)(D:List (Int×Nat)):Prop where
 nd:(D.map (·.1)).Nodup
 b:∀x∈D,(0<=x.1/\x.1<p)/\1<=x.2
theorem xF{j:Int}:∀{A:List (Int×Nat)},j∉A.map (·.1)->(mZ A).any (vV j)=false
 |[],_=>rfl
 |x::A,h=>by rw[GT,FV]at h;show(decide (x.1=j)||(mZ A).any (vV j))=false;rw[He (λe=>h (.inl e.symm)),xF λz=>h (.inr z)];rfl
theorem qL{j:Int}{ks vs:List W}:∀{A:List (Int×Nat)},j∉A.map (·.1)->gC j (mZ A++ks) (qX A++vs)=gC j ks vs
 |[],_=>rfl
 |x::A,h=>by rw[GT,FV]at h;show(if decide (x.1=j)=true then _ else gC j (mZ A++ks) (qX A++vs))=_;rw[Bi (by rw[Fh];exact λe=>h (.inl e.symm)),qL λz=>h (.inr z)]
theorem qN{j:Int}{u:W}{ks vs:List W}:∀{A:List (Int×Nat)},j∉A.map (·.1)->O9 (λx w=>if vV j x=true then u else w) (mZ A++ks) (qX A++vs)=qX A++O9 (λx w=>if vV j x=true then u else w) ks vs
 |[],_=>rfl
 |x::A,h=>by rw[GT,FV]at h;show(if decide (x.1=j)=true then u else W.int (x.2:Nat))::O9 _ (mZ A++ks) (qX A++vs)=_;rw[Bi (by rw[Fh];exact λe=>h (.inl e.symm)),qN λz=>h (.inr z)];rfl
theorem jK(A B:List (Int×Nat)):mZ (A++B)=mZ A++mZ B:=Iy
theorem kD(A B:List (Int×Nat)):qX (A++B)=qX A++qX B:=Iy
theorem Dk.step{p:Nat}{D:List (Int×Nat)}{j:Int}(h:Dk p D)(o:0<=j/\j<p):∃(n:Nat)(i:List (Int×Nat)),(gC j (mZ D) (qX D)).getD (.int 0)=.int (n:Nat)/\lE j (mZ D)=mZ i/\lF j (.int ((n:Nat)+1)) (mZ D) (qX D)=qX i/\Dk p i/\dS p (i.map Aa)=dS p (D.map Aa)*fL p [j,1]/\i.length<=D.length+1:=by
 have one:∀f:F p,f^1=f:=λf=>by rw[aH,Gc];grind
 by_cases k:j∈D.map (·.1)
 .obtain⟨⟨c,n⟩,d,e⟩:=Hc.mp k;cases e;obtain⟨A,B,rfl⟩:=VW d;have nd:=h.nd;rw[Iy,GT]at nd;have m:c∉A.map (·.1):=λz=>(W2.mp nd).2.2 _ z _ Da rfl;have r:c∉B.map (·.1):=(Pv.mp (W2.mp nd).2.1).1;have g:(mZ (A++(c,n)::B)).any (vV c)=true:=by rw[jK,List.any_append];show(_||(decide (c=c)||_))=true;rw[Do rfl,Xi,Xj]
  refine⟨n,A++(c,n+1)::B,?_,?_,?_,⟨?_,λx d=>?_⟩,?_,by simp⟩
  .rw[jK,kD,qL m];show(if decide (c=c)=true then some (W.int (n:Nat))else _).getD _=_;rw[Bz (Do rfl)];rfl
  .unfold lE;rw[Bz g,jK,jK];rfl
  .unfold lF;rw[Bz g,jK,kD,kD,qN m];congr 1;show(if decide (c=c)=true then W.int ((n:Nat)+1)else _)::O9 _ (mZ B) (qX B)=W.int ((n+1:Nat):Int)::qX B;rw[Bz (Do rfl)];have:=qN (u:=W.int ((n:Nat)+1)) (ks:=[]) (vs:=[]) r;rw[Qb,Qb]at this;rw[this,List.zipWith_nil_left,Qb];rfl
  .rw[Iy,GT];exact nd
  .rcases Fs.mp d with z|z
   .exact h.b x (N0 _ z)
   .rcases FV.mp z with rfl|z
    .exact⟨o,by show 1<=n+1;lia⟩
    .exact h.b x (Fk _ (Dx _ z))
  .rw[Iy,Iy,kC,kC,GT,GT];show dS p (A.map Aa)*(fL p [c,1]^(n+1)*dS p (B.map Aa))=dS p (A.map Aa)*(fL p [c,1]^n*dS p (B.map Aa))*fL p [c,1];rw[aH];grind
 .have g:=xF k;refine⟨0,D++[(j,1)],?_,?_,?_,⟨?_,λx d=>?_⟩,?_,by simp⟩
  .have:=qL (ks:=[]) (vs:=[]) k;rw[Qb,Qb]at this;rw[this];rfl
  .unfold lE;rw[Bi (by rw[g];decide),jK];rfl
  .unfold lF;rw[Bi (by rw[g];decide),kD];rfl
  .rw[Iy];exact W2.mpr ⟨h.nd,by simp,λa q b l e=>by have l:=DL.mp l;rw[l]at e;have e:a=j:=e;rw[e]at q;exact k q⟩
  .rcases Fs.mp d with z|z
   .exact h.b x z
   .rw[DL.mp z];exact⟨o,BM _⟩
  .rw[Iy,kC];show _*(fL p [j,1]^1*1)=_;rw[one];grind
theorem FH{p:Nat}(g:af p){P:F p}(h:dg P=2):cu P:=⟨by lia,λa b e=>by
 have c:P≠0:=λz=>by rw[z,bZ]at h;lia
 have f:a≠0:=λz=>c (by rw[e,z];grind);have d:b≠0:=λz=>c (by rw[e,z];grind);have:=bz g f d;rw[<-e,h]at this;have:dg a≠0:=λz=>f (bg.mp z);have:dg b≠0:=λz=>d (bg.mp z);lia⟩
theorem qO{p:Nat}(p2:2<=p){j:Int}(b:0<=j/\j<p):Mn p [j,1]:=HA (l:=[j]) p2 λx a=>by rw[DL.mp a];exact b
theorem xG{p:Nat}(a:af p){j:Int}(b:0<=j/\j<p):cu (fL p [j,1]):=FH a (by rw[aU (qO (by have:=a.1;lia) b).r];rfl)
theorem CB{p:Nat}{L c:List (List Int×Nat)}(h:c.Perm L):dS p c=dS p L:=by
 induction h with
 |nil=>rfl
 |cons x _ d=>show _*_=_*_;rw[d]
 |swap x y l=>show fL p y.1^y.2*(fL p x.1^x.2*dS p l)=fL p x.1^x.2*(fL p y.1^y.2*dS p l);grind
 |trans _ _ a b=>exact a.trans b
noncomputable def tW(D:List (Int×Nat))(m:Int):Nat:=((D.find? λx=>decide (x.1=m)).map (·.2)).getD 0
theorem qP:∀{D:List (Int×Nat)},(D.map (·.1)).Nodup->∀x∈D,tW D x.1=x.2/\gC x.1 (mZ D) (qX D)=some (.int (x.2:Nat))
 |y::D,h,x,a=>by
  rw[GT]at h;have h:=Pv.mp h;rcases FV.mp a with rfl|a
  .refine⟨?_,?_⟩
   .unfold tW;rw[Il,Do rfl];rfl
   .show(if decide (x.1=x.1)=true then some (W.int (x.2:Nat))else _)=_;rw[Bz (Do rfl)]
  .have b:y.1≠x.1:=λe=>h.1 (by rw[e];exact List.mem_map_of_mem a);obtain⟨d,c⟩:=qP h.2 x a;refine⟨?_,?_⟩
   .unfold tW;rw[Il,He b];exact d
   .show(if decide (y.1=x.1)=true then some (W.int (y.2:Nat))else gC x.1 (mZ D) (qX D))=_;rw[Bi (by rw[Fh];exact b)];exact c
noncomputable def due(D:List (Int×Nat))(a:List Int):List (List Int×Nat):=a.map λm=>([m,1],tW D m)
theorem CC{p:Nat}{D:List (Int×Nat)}(h:Dk p D){a:List Int}(c:a.Perm (D.map (·.1))):(due D a).Perm (D.map Aa):=by refine(c.map λm=>([m,1],tW D m)).trans (Y6 ?_);rw[Qr];refine PP λx b=>?_;show([x.1,1],tW D x.1)=([x.1,1],x.2);rw[(qP h.nd x b).1]
theorem LY{p:Nat}(i:af p){D:List (Int×Nat)}(h:Dk p D){c:List Int}(j:c.Perm (D.map (·.1)))(up:c.Pairwise (·<=·)):Pa p (due D c)/\(due D c).Pairwise Ci:=by
 have o:=i.1;have nd:c.Nodup:=j.nodup_iff.mpr h.nd;have f:c.Pairwise λa b=>a<b:=by refine(List.pairwise_and_iff.mpr ⟨up,nd⟩).imp λ{a b} z=>?_;have:=z.1;have:=z.2;lia
 refine⟨⟨λx l=>?_,?_⟩,?_⟩
 .obtain⟨m,d,rfl⟩:=Hc.mp l;obtain⟨y,g,rfl⟩:=Hc.mp (j.mem_iff.mp d);obtain⟨k,n⟩:=h.b y g;exact⟨qO (by lia) k,xG i k,by show 1<=tW D y.1;rw[(qP h.nd y g).1];exact n⟩
 .refine Pi.mpr (f.imp λ{a b} z e=>?_);have:=(Of (show([a,1]:List Int)=[b,1]from e)).1;lia
 .refine Pi.mpr (f.imp λ{a b} z=>?_);refine .inr ⟨rfl,.inl ?_⟩;show([1,a]:List Int)<[1,b];rw[On];refine .inr ⟨rfl,?_⟩;rw[On];exact .inl z
noncomputable def xH:List CS:=[.set 2 (.call 0 [(.var 2),(.lst [(.bin .Mod (.bin .Sub (.int 0) (.var 3)) (.var 1)),(.int 1)]),(.var 1)])]
noncomputable def xJ:List CS:=[.NR 4 (.bin .Mod (.bin .Sub (.int 0) (.var 3)) (.var 1)) (.bin .Add (.Mc 4 (.bin .Mod (.bin .Sub (.int 0) (.var 3)) (.var 1)) (.int 0)) (.int 1))]
noncomputable def vB:List CS:=[.set 2 (.lst [(.int 1)]),.fr [3] true (.var 0) xH,.NQ 4,.fr [3] true (.var 0) xJ,.set 5 (.comp [0] true 1 (.Mf 4) (.bl true) (.tup [(.lst [(.var 0),(.int 1)]),(.Me 5 (.var 0))])),.ret (.cmp .Eq (.call 1 [(.var 2),(.var 1)]) (.var 5))]
noncomputable def xK:bf:=λa Q _=>∃(s:List Int)(p:Nat),a=[wI s,.int p]/\(af p/\p<2^30/\Nm p s)/\Q (.bl true)
noncomputable def FI(p:Nat):List Int->F p
 |[]=>1
 |x::s=>fL p [(0 -x)%p,1]*FI p s
theorem mW{p:Nat}(x:Int):∀s:List Int,FI p (s++[x])=FI p s*fL p [(0 -x)%p,1]
 |[]=>by show fL p _*1=1*_;grind
 |y::s=>by show fL p _*FI p (s++[x])=fL p _*FI p s*_;rw[mW x s];grind
theorem CD{L b:List (List Int×Nat)}{a:Bool}{Q:W->Prop}(e:L=b)(h:Q (.bl (!a))):Qm a (.lst (L.map pW)) (.lst (b.map pW)) Q:=by refine⟨.inl ⟨gy L,gy b⟩,λk c=>?_⟩;cases fE c (by rw[e]);cases a<;>exact h
theorem LZ{G:Nat->W}{m:Md}(M:List W)(Q:W->Prop)(R:Addr->Prop)(h:xK M Q R):wSs (bI [bF,bV]) G vB (bH m Q R) (au 6 M):=by
 obtain⟨s,p,rfl,⟨A,O,hs⟩,f⟩:=h;show wSs _ _ vB _ [some (wI s),some (.int p),none,none,none,none];unfold vB;have p2:=A.1;have fM:p<2^40:=XM O (by decide);have l9:=hs.l9;refine aq (λa=>a=[some (wI s),some (.int p),some (wI [1]),none,none,none]) (λN d=>?_) ?_
 .fin2;exact⟨aj (by simp),d _ rfl⟩
 rintro _ rfl;have z:∀Q:W->Prop,∀k:Ev,Q (.lst (s.map W.int))->wE (bI [bF,bV]) G (λ_=>False) (.var 0) (some (wI s)::k) Q:=λQ k f=>by unfold wI;fin2;exact f
 refine aq (λa=>∃(r:List Int)(o3:Option W),(Mn p r/\r.length=s.length+1/\fL p r=FI p s)/\a=[some (wI s),some (.int p),some (wI r),o3,none,none]) (λN d=>?_) ?_
 .refine oM (l:=s.map W.int) (λQ f=>z Q _ f) ?_;refine bT (λi k=>∃(r:List Int)(o3:Option W),(Mn p r/\r.length=i+1/\fL p r=FI p (s.take i))/\k=[some (wI s),some (.int p),some (wI r),o3,none,none]) ⟨[1],none,⟨⟨LS (by lia),by decide,rfl⟩,rfl,gc⟩,rfl⟩ ?_ ?_
  .rintro i w _ N1 q ⟨r,o3,⟨o,B,u⟩,rfl⟩ J;rw[FK]at q;obtain⟨x,e,rfl⟩:=IR.mp q;obtain⟨I,rfl⟩:=FM.mp e;have ml:=qO (p:=p) (by lia) (xE (by lia) (0 -s[i]));unfold xH;fin2;refine⟨by lia,aj (by simp),?_⟩;rw[Ki _ (by lia)];refine⟨r,[(0 -s[i])%p,1],p,rfl,⟨by lia,fM,by lia,by simp,o.r,ml.r⟩,λc h1 S h3=>J _ ⟨c,_,?_,rfl⟩⟩;obtain⟨Y,H⟩:=LR A o ml h1 S;refine⟨Y,by rw[show([(0 -s[i])%(p:Int),1]:List Int).length=2 from rfl]at H;lia,?_⟩;rw[S,u,QI I,mW]
  .rintro _ ⟨r,o3,⟨o,B,u⟩,rfl⟩;rw[AN]at B;rw[AN,RN]at u;exact d _ ⟨r,o3,⟨o,B,u⟩,rfl⟩
 rintro _ ⟨r,o3,⟨o,B,u⟩,rfl⟩;refine aq (λa=>a=[some (wI s),some (.int p),some (wI r),o3,some (.dct [] []),none]) (λN d=>?_) ?_
 .fin2;exact d _ rfl
 rintro _ rfl;refine aq (λa=>∃(D:List (Int×Nat))(o3:Option W),(Dk p D/\D.length<=s.length/\dS p (D.map Aa)=FI p s)/\a=[some (wI s),some (.int p),some (wI r),o3,some (.dct (mZ D) (qX D)),none]) (λN d=>?_) ?_
 .refine oM (l:=s.map W.int) (λQ f=>z Q _ f) ?_;refine bT (λi k=>∃(D:List (Int×Nat))(o3:Option W),(Dk p D/\D.length<=i/\dS p (D.map Aa)=FI p (s.take i))/\k=[some (wI s),some (.int p),some (wI r),o3,some (.dct (mZ D) (qX D)),none]) ⟨[],o3,⟨⟨X4,λx e=>by cases e⟩,BM _,rfl⟩,rfl⟩ ?_ ?_
  .rintro i w _ N1 q ⟨D,o3,⟨j,C,v⟩,rfl⟩ J;have hi':i<s.length:=by have:=(FM.mp q).1;rw[AN]at this;exact this
   rw[FK]at q;obtain⟨x,e,rfl⟩:=IR.mp q;obtain⟨I,rfl⟩:=FM.mp e;obtain⟨n,D',g1,g2,g3,DH,e',l'⟩:=j.step (xE (p:=p) (by lia) (0 -s[i]));have b:=J _ ⟨D',some (.int s[i]),⟨DH,by lia,by rw[e',v,QI I,mW]⟩,rfl⟩;unfold xJ;fin2;rw[Ki _ (by lia)];refine⟨by lia,?_⟩;rw[g1];fin2;refine⟨by lia,?_⟩;rw[g2,g3];exact⟨qh (by unfold mZ;rw[AN];lia),b⟩
  .rintro _ ⟨D,o3,⟨j,C,v⟩,rfl⟩;rw[AN]at C;rw[AN,RN]at v;exact d _ ⟨D,o3,⟨j,C,v⟩,rfl⟩
 rintro _ ⟨D,o3,⟨j,C,v⟩,rfl⟩;refine aq (λa=>∃c:List Int,(c.Perm (D.map (·.1))/\c.Pairwise (·<=·))/\a=[some (wI s),some (.int p),some (wI r),o3,some (.dct (mZ D) (qX D)),some (.lst ((due D c).map pW))]) (λN d=>?_) ?_
 .fin2;refine⟨D.map (·.1),by unfold mZ;rw[Qr];rfl,by rw[AN];lia,λc t up=>?_⟩;have b:=d _ ⟨c,⟨t,up⟩,rfl⟩;have H:=t.length_eq;rw[AN]at H;refine eX (g:=λm:Int=>pW ([m,1],tW D m)) c [] _ (λx e K P=>?_) (by have:=aj (n:=c.length) (by lia);simpa using this) ?_
  .obtain⟨y,hy,rfl⟩:=Hc.mp (t.mem_iff.mp e);obtain⟨c1,c2⟩:=qP j.nd y hy;fin2;refine⟨aj (by simp),_,c2,aj (by simp),?_⟩;rw[c1]at P;exact P
  .unfold due at b;rw[Qr]at b;exact b
 rintro _ ⟨c,⟨t,up⟩,rfl⟩;obtain⟨U,T⟩:=LY A j t up;fin2;refine⟨r,p,rfl,⟨A,O,o,by lia⟩,λL E Z=>?_⟩;refine CD (Pa.one A ⟨E.all,E.pw⟩ U ?_ Z T) f;rw[<-E.pr,u,<-v,CB (CC j t)]
theorem cV{p:Nat}(n:Int):fL p [n,1]=((n:Int):F p)+X:=by rw[aB,aB,bC,W4];grind
noncomputable def CF(p:Nat):List Int:=[0,(p:Int) -1]++Ds (p -2) 0++[1]
noncomputable def CP(p:Nat):List (List Int×Nat):=(Ea p).map λ(n:Nat)=>([((n:Nat):Int),1],1)
theorem VZ:dS 2 (CP 2)=fL 2 (CF 2):=by show fL 2 [0,1]^1*(fL 2 [1,1]^1*1)=fL 2 [0,1,1];have z:(2:F 2)=0:=(F.chr (p:=2) oN).2;have b:((0:Int):F 2)=0:=rfl;have a:((1:Int):F 2)=1:=rfl;rw[cV,cV,aB,aB,aB,bC,b,a];generalize(X:F 2)=x at*;clear b a;grind
theorem V0:dS 3 (CP 3)=fL 3 (CF 3):=by show fL 3 [0,1]^1*(fL 3 [1,1]^1*(fL 3 [2,1]^1*1))=fL 3 [0,2,0,1];have z:(3:F 3)=0:=(F.chr (p:=3) (dU (by decide) (by decide) (by decide) (by decide))).2;have c:((0:Int):F 3)=0:=rfl;have b:((1:Int):F 3)=1:=rfl;have a:((2:Int):F 3)=2:=rfl;rw[cV,cV,cV,aB,aB,aB,aB,bC,c,b,a];generalize(X:F 3)=x at*;clear c b a;grind
theorem V1:dS 5 (CP 5)=fL 5 (CF 5):=by show fL 5 [0,1]^1*(fL 5 [1,1]^1*(fL 5 [2,1]^1*(fL 5 [3,1]^1*(fL 5 [4,1]^1*1))))=fL 5 [0,4,0,0,0,1];have z:(5:F 5)=0:=(F.chr (p:=5) (dU (by decide) (by decide) (by decide) (by decide))).2;have e:((0:Int):F 5)=0:=rfl;have d:((1:Int):F 5)=1:=rfl;have c:((2:Int):F 5)=2:=rfl;have b:((3:Int):F 5)=3:=rfl;have a:((4:Int):F 5)=4:=rfl;rw[cV,cV,cV,cV,cV,aB,aB,aB,aB,aB,aB,bC,e,d,c,b,a];generalize(X:F 5)=x at*;clear e d c b a;grind
theorem V2:dS 7 (CP 7)=fL 7 (CF 7):=by show fL 7 [0,1]^1*(fL 7 [1,1]^1*(fL 7 [2,1]^1*(fL 7 [3,1]^1*(fL 7 [4,1]^1*(fL 7 [5,1]^1*(fL 7 [6,1]^1*1))))))=fL 7 [0,6,0,0,0,0,0,1];have z:(7:F 7)=0:=(F.chr (p:=7) (dU (by decide) (by decide) (by decide) (by decide))).2;have g:((0:Int):F 7)=0:=rfl;have f:((1:Int):F 7)=1:=rfl;have e:((2:Int):F 7)=2:=rfl;have d:((3:Int):F 7)=3:=rfl;have c:((4:Int):F 7)=4:=rfl;have b:((5:Int):F 7)=5:=rfl;have a:((6:Int):F 7)=6:=rfl;rw[cV,cV,cV,cV,cV,cV,cV,aB,aB,aB,aB,aB,aB,aB,aB,bC,g,f,e,d,c,b,a];generalize(X:F 7)=x at*;clear g f e d c b a;grind
theorem PY{p:Nat}(a:af p)(f:p<8):dS p (CP p)=fL p (CF p):=by
 have b:=a.1;have d:p≠4:=λe=>by have:=a.2 2 (by decide) (by rw[e];decide);rw[e]at this;exact this rfl
 have c:p≠6:=λe=>by have:=a.2 2 (by decide) (by rw[e];decide);rw[e]at this;exact this rfl
 obtain rfl|rfl|rfl|rfl:p=2\/p=3\/p=5\/p=7:=by lia
 .exact VZ
 .exact V0
 .exact V1
 .exact V2
theorem PZ{p:Nat}(p2:2<=p):Mn p (CF p):=HA p2 λx a=>by
 rcases Fs.mp a with z|z
 .rcases FV.mp z with z|z
  .rw[z];exact⟨by decide,by lia⟩
  .rw[DL.mp z];exact⟨by lia,by lia⟩
 .rw[XA z];exact⟨by decide,by lia⟩
theorem P4{p:Nat}(d:af p):Pa p (CP p)/\(CP p).Pairwise Ci:=by
 have h:=d.1;have c:(Ea p).Pairwise (·<·):=WO;refine⟨⟨λx g=>?_,?_⟩,?_⟩
 .obtain⟨n,f,rfl⟩:=Hc.mp g;have f:=Kk.mp f;exact⟨qO (by lia) ⟨by lia,by lia⟩,xG d ⟨by lia,by lia⟩,BM _⟩
 .refine Pi.mpr (c.imp λ{a b} z e=>?_);have:=(Of (show([(a:Int),1]:List Int)=[(b:Int),1]from e)).1;lia
 .refine Pi.mpr (c.imp λ{a b} z=>?_);refine .inr ⟨rfl,.inl ?_⟩;show([1,(a:Int)]:List Int)<[1,(b:Int)];rw[On];refine .inr ⟨rfl,?_⟩;rw[On];exact .inl (by lia)
noncomputable def qQ:List CS:=[.set 2 (.bin .Add (.bin .Add (.lst [(.int 0),(.bin .Sub (.var 1) (.int 1))]) (.bin .Mult (.lst [(.int 0)]) (.bin .Sub (.var 1) (.int 2)))) (.lst [(.int 1)])),.iff (.cmp .NotEq (.call 3 [(.var 2),(.var 1)]) (.comp [0] true 1 (.jb [(.var 1)]) (.bl true) (.tup [(.lst [(.var 0),(.int 1)]),(.int 1)]))) [.ret (.bl false)] []]
noncomputable def qR:List CS:=[.set 1 (.call 0 [(.ix (.call 1 [(.call 2 [(.var 0),(.int 0)]),(.int 1)]) (.int 0))]),.iff (.cmp .Lt (.var 1) (.int 8)) qQ [],.fr [3] true (.bin .Add (.lst [(.call 2 [(.var 0),(.int 1)])]) (.sl (.var 0) (.int 2) (.int 5))) [.iff (.not (.call 4 [(.call 5 [(.var 3),(.var 1)]),(.var 1)])) [.ret (.bl false)] []],.ret (.bl true)]
theorem FJ{G:Nat->W}{D:Dn}{ns:List Int}{p:Nat}{o:Option W}(b:af p)(s:p<8)(f:∀q,D.nx [some (.eO ns),some (.int p),q,o]):
 wSs (bI [qI,gx,ku,bV,xK,FG]) G qQ D [some (.eO ns),some (.int p),none,o]:=by
 have u:=b.1;unfold qQ;refine aq (λc=>c=[some (.eO ns),some (.int p),some (wI (CF p)),o]) (λN f=>?_) ?_
 .have a:=f _ rfl;unfold wI CF at a;fin2;rw[show(p:Int) -2=((p -2:Nat):Int) by lia];fin2;rw[G2,cS];rw[Iy,Iy,Ta]at a;exact⟨aj (by simp),aj (by simp),by lia,by lia,aj (by simp;lia),aj (by simp;lia),aj (by simp),aj (by simp;lia),a⟩
 rintro _ rfl;obtain⟨j,h⟩:=P4 b;have v:(CF p).length=p+1:=by unfold CF;simp;lia
 fin2;refine⟨CF p,p,rfl,⟨b,by lia,PZ (by lia),by lia⟩,λL d l=>?_⟩;refine⟨by lia,by lia,?_⟩;rw[G2];unfold cY;refine eX (g:=λn:Nat=>pW ([(n:Int),1],1)) (Ea p) [] _ (λi w K r=>?_) (by have:=aj (n:=p) (by lia);simpa using this) ?_
 .fin2;rw[show(0:Int)+(i:Int)*1=((i:Nat):Int) by lia];exact⟨aj (by simp),aj (by simp),r⟩
 .have e:(Ea p).map (λn:Nat=>pW ([(n:Int),1],1))=(CP p).map pW:=by unfold CP;rw[Qr];rfl
  rw[S2,e];have t:L=CP p:=Pa.one b ⟨d.all,d.pw⟩ j (by rw[<-d.pr,PY b s]) l h;rw[O2];refine⟨.inl ⟨gy _,gy _⟩,λk m=>?_⟩;cases fE m (by rw[t]);exact f _
theorem FL{G:Nat->W}{m:Md}(g:List W)(Q:W->Prop)(R:Addr->Prop)(h:Lr g Q R):wSs (bI [qI,gx,ku,bV,xK,FG]) G qR (bH m Q R) (au 4 g):=by
 obtain⟨b,rfl,D,u⟩:=h;show wSs _ _ qR _ [some (.eO b),none,none,none];unfold qR;refine aq (λa=>∃p:Nat,(af p/\p<10000)/\a=[some (.eO b),some (.int p),none,none]) (λN d=>?_) ?_
 .fin2;refine⟨b,0,rfl,λz=>⟨z,1,rfl,by decide,λB r _=>?_⟩⟩;obtain⟨x,rfl⟩:=WQ.mp r;exact⟨.int x,rfl,x,rfl,λp y v=>d _ ⟨p,⟨y,v⟩,rfl⟩⟩
 rintro _ ⟨p,⟨f,C⟩,rfl⟩;refine aq (λa=>∃q,a=[some (.eO b),some (.int p),q,none]) (λN d=>?_) ?_
 .dsimp only[wS,wE,look,List.getElem?_cons_zero,List.getElem?_cons_succ,x_lt,ia];by_cases j:(p:Int)<8
  .rw[Bz (Do j)];exact FJ f (by lia) λq=>d _ ⟨q,rfl⟩
  .rw[Bi (by rw[Fh];exact j)];exact d _ ⟨_,rfl⟩
 rintro _ ⟨q,rfl⟩;refine aq (λa=>True) (λN d=>?_) ?_
 .obtain⟨n,k⟩:=Fj b (some 2) (some 5);have lc:=LU (b.map W.int) (some 2) (some 5);rw[k,AN,AN]at lc;fin2;refine⟨b,1,rfl,λz=>⟨aj (by simp),?_⟩⟩;fin2;rw[k];refine⟨aj (by rw[AN];simp;lia),?_⟩;fin2;refine bT (λi l=>∃o,l=[some (.eO b),some (.int p),q,o]) ⟨none,rfl⟩ ?_ ?_
  .rintro i w _ E e ⟨o,rfl⟩ A;have e:(((z::n).map W.int):List W)[i]?=some w:=e;rw[FK]at e;obtain⟨c,_,rfl⟩:=IR.mp e;fin2;refine⟨c,p,rfl,by have:=f.1;lia,λs t=>⟨s,p,rfl,⟨f,by lia,t⟩,?_⟩⟩;fin2;exact A _ ⟨_,rfl⟩
  .intro _ _;exact d _ trivial
 intro a _;fin2;exact u
end VL
namespace Gp
open PySem PySem.Spec
open PyProof.Rows hiding St
open L2 VL Num
set_option genInjectivity false
set_option genSizeOf false
noncomputable def top(i:Nat):Stmt:=PySem.Challenge.pw_paperwright_k31_prime_parts_of_known_row.main.body.getD i (.Pass ⟨0,0,0,0⟩)
abbrev en(x:Str)(i:Nat):Str×Nat:=(x,i)
abbrev DD:DT:=[en "common" 1,en "trimmed" 3,en "scaled" 4,en "whole_plus" 5,en "whole_minus" 6,en "whole_times" 7,en "rising" 8,en "rank" 9,en "reduced" 11,en "inverse" 12,en "plus_by" 13,en "minus_by" 14,en "times_by" 15,en "divided_by" 16,en "power_by" 17,en "greatest_by" 18,en "prime_parts" 20,en "taken_out" 21,en "equal_parts" 22,en "halved" 23,en "trace" 24,en "squares" 25,en "_law_things" 27,en "_law_cell" 28,en "_law_is_prime" 29,en "_law_prime" 30,en "_law_cut" 31,en "_law_product" 32,en "_law_numbers" 33,en "_law_right" 34,en "law" 35]
abbrev ZZ:List Str:=["enumerate","len","list","max","range","reversed","sorted"]
structure Tx(K:Frag)(mg:Str->Option Value) extends TT K mg top DD ZZ where
section
variable{P:Program}{w:World}{K:Frag}{mg:Str->Option Value}{base:Heap}
theorem CG(T:Tx K mg):Cl P w K mg base DD 1 0 .s qm:=
 tU T.toTT rfl 2 [] BQ (by decide+kernel) (by walk_at "l")
theorem jL(T:Tx K mg):Cl P w K mg base DD 1 1 .f cT:=
 tU T.toTT rfl 1 [] yT (by decide+kernel) (by walk_at "l")
theorem tX(T:Tx K mg):Cl P w K mg base DD 1 2 .f iV:=
 tU T.toTT rfl 2 [] BK (by decide+kernel) (by walk_at "l")
theorem ja(T:Tx K mg):Cl P w K mg base DD 2 3 .f dQ:=
 eZ T.toTT rfl 2 [(3,.f)] [(1,.f,1)] qk ⟨jL T,trivial⟩ (by decide+kernel) (by walk_at "l")
theorem nI(T:Tx K mg):Cl P w K mg base DD 3 4 .f fG:=
 eZ T.toTT rfl 2 [] [(3,.f,2),(2,.f,1)] ny ⟨ja T,tX T,trivial⟩ (by decide+kernel) (by walk_at "l")
theorem nM(T:Tx K mg):Cl P w K mg base DD 1 5 .f fH:=
 tU T.toTT rfl 2 [(2,.f)] nE (by decide+kernel) (by walk_at "l")
theorem L0(T:Tx K mg):bK P w K mg base (ji P w) 1 (T.f 7) (T.d 7) ["pair"] (uL K 1 .s mT):=
 LM (j:=7) (k:=0) (m:=.s) (Ss:=[]) (Gs:=[]) T.toTT rfl 1 [] [] [] LV trivial trivial (by decide+kernel) (by walk_at "l")
theorem CH(T:Tx K mg):Cl P w K mg base DD 4 6 .s i9:=
 LN (j:=6) (jr:=7) T.toTT rfl rfl (L0 T) ⟨rfl,rfl,rfl,by decide+kernel,rfl,by decide+kernel,by decide+kernel⟩ rfl rfl rfl rfl (.inl rfl) rfl rfl rfl (by decide) rfl rfl
theorem gz(T:Tx K mg):Cl P w K mg base DD 2 8 .s cU:=
 eZ T.toTT rfl 2 [] [(1,.f,1)] yX ⟨jL T,trivial⟩ (by decide+kernel) (by walk_at "l")
theorem oO(T:Tx K mg):Cl P w K mg base DD 2 9 .s iW:=
 eZ T.toTT rfl 2 [] [(0,.s,1)] yW ⟨CG T,trivial⟩ (by decide+kernel) (by walk_at "l")
theorem oQ(T:Tx K mg):Cl P w K mg base DD 3 10 .s gf:=
 eZ T.toTT rfl 3 [] [(8,.s,2),(3,.f,2)] y9 ⟨gz T,ja T,trivial⟩ (by decide+kernel) (by walk_at "l")
theorem gZ(T:Tx K mg):Cl P w K mg base DD 4 11 .s cK:=
 eZ T.toTT rfl 3 [] [(8,.s,2),(4,.f,3)] vg ⟨gz T,nI T,trivial⟩ (by decide+kernel) (by walk_at "l")
theorem mX(T:Tx K mg):Cl P w K mg base DD 3 12 .s bF:=
 eZ T.toTT rfl 3 [] [(8,.s,2),(5,.f,1)] vh ⟨gz T,nM T,trivial⟩ (by decide+kernel) (by walk_at "l")
theorem cD(T:Tx K mg):Cl P w K mg base DD 3 13 .s aQ:=
 eZ T.toTT rfl 3 [(5,.f),(6,.f)] [(9,.s,2),(1,.f,1)] qo ⟨oO T,jL T,trivial⟩ (by decide+kernel) (by walk_at "l")
theorem g7(T:Tx K mg):Cl P w K mg base DD 4 14 .s dw:=
 eZ T.toTT rfl 4 [] [(13,.s,3),(12,.s,3)] vm ⟨cD T,mX T,trivial⟩ (by decide+kernel) (by walk_at "l")
theorem gJ(T:Tx K mg):Cl P w K mg base DD 5 15 .s bU:=
 eZ T.toTT rfl 3 [] [(13,.s,3),(11,.s,4),(12,.s,3),(9,.s,2),(8,.s,2),(2,.f,1)] nF ⟨cD T,gZ T,mX T,oO T,gz T,tX T,trivial⟩ (by decide+kernel) (by walk_at "l")
theorem FN(T:Tx K mg):Cl P w K mg base DD 5 20 .s mP:=
 eZ T.toTT rfl 4 [] [(13,.s,3),(14,.s,4),(10,.s,3)] Fw ⟨cD T,g7 T,oQ T,trivial⟩ (by decide+kernel) (by walk_at "l")
theorem zh(T:Tx K mg):Cl P w K mg base DD 5 21 .s i7:=
 eZ T.toTT rfl 3 [] [(11,.s,4),(14,.s,4)] zc ⟨gZ T,g7 T,trivial⟩ (by decide+kernel) (by walk_at "l")
theorem CI(T:Tx K mg):Cl P w K mg base DD 6 19 .s i8:=
 eZ T.toTT rfl 3 [] [(20,.s,5),(15,.s,5),(21,.s,5),(10,.s,3)] Cf ⟨FN T,gJ T,zh T,oQ T,trivial⟩ (by decide+kernel) (by walk_at "l")
theorem tY(T:Tx K mg):Cl P w K mg base DD 4 17 .s fN:=
 eZ T.toTT rfl 3 [] [(13,.s,3)] tT ⟨cD T,trivial⟩ (by decide+kernel) (by walk_at "l")
theorem nN(T:Tx K mg):Cl P w K mg base DD 16 18 .s (b9 10):=
 LX (k:=6) (jh:=19) (jd:=13) T.toTT rfl (CI T) (cD T) (by decide+kernel) (by decide) (by decide) 10
theorem gK(T:Tx K mg):Cl P w K mg base DD 17 16 .s bV:=
 eZ T.toTT rfl 2 [(3,.f)] [(14,.s,4),(15,.s,5),(11,.s,4),(18,.s,16),(17,.s,4),(6,.s,4)] nH ⟨g7 T,gJ T,gZ T,nN T,tY T,CH T,trivial⟩ (by decide+kernel) (by walk_at "l")
theorem tZ(T:Tx K mg):Cl P w K mg base DD 1 22 .s gx:=
 tU T.toTT rfl 2 [(4,.f)] Cu (by decide+kernel) (by walk_at "l")
theorem L1(T:Tx K mg):Cl P w K mg base DD 1 23 .s ku:=
 tU T.toTT rfl 2 [] Cv (by decide+kernel) (by walk_at "l")
theorem vC(T:Tx K mg):Cl P w K mg base DD 1 24 .s jJ:=
 tU T.toTT rfl 1 [] vv (by decide+kernel) (by walk_at "l")
theorem FO(T:Tx K mg):Cl P w K mg base DD 2 25 .s qI:=
 eZ T.toTT rfl 1 [] [(24,.s,1)] FE ⟨vC T,trivial⟩ (by decide+kernel) (by walk_at "l")
theorem v_cut(T:Tx K mg):Cl P w K mg base DD 1 26 .f cT:=
 tU T.toTT rfl 1 [] FF (by decide+kernel) (by walk_at "l")
theorem zj(T:Tx K mg):Cl P w K mg base DD 2 27 .s bF:=
 eZ T.toTT rfl 3 [(3,.f)] [(26,.f,1)] PV ⟨v_cut T,trivial⟩ (by decide+kernel) (by walk_at "l")
theorem zk(T:Tx K mg):Cl P w K mg base DD 2 28 .s FG:=
 eZ T.toTT rfl 2 [] [(22,.s,1)] PX ⟨tZ T,trivial⟩ (by decide+kernel) (by walk_at "l")
theorem FP(T:Tx K mg):Cl P w K mg base DD 18 29 .s xK:=
 eZ T.toTT rfl 2 [(4,.d)] [(27,.s,2),(16,.s,17)] LZ ⟨zj T,gK T,trivial⟩ (by decide+kernel) (by walk_at "l")
theorem P5(T:Tx K mg):bK P w K mg base (ji P w) 19 (T.f 30) (T.d 30) ["_law_script"] (uL K 1 .s Lr):=
 LM (j:=30) (k:=18) (m:=.s) (Gs:=[]) T.toTT rfl 1 [] [(25,.s,2),(22,.s,1),(23,.s,1),(16,.s,17),(29,.s,18),(28,.s,2)] [] FL ⟨FO T,tZ T,L1 T,gK T,FP T,zk T,trivial⟩ trivial (by decide+kernel) (by walk_at "l")
end
theorem MI{K:Frag}{x:Str}{st:Stmt}{f:Addr}{g m:Option Addr}{d:Array (Option Value)}{h kV i e b j:Value}(a:nsIn K mainGlobals x=some (some (.ref f)))(l:K.lookup f=some ⟨h,g,.func (fnOf x x (bN st) (aX st) (ak st) .none kV i e m b j),d⟩)(c:codeIn K b x=true)(k:keepIn K (.ref f)=true):Hd K x st:=⟨f,g,m,d,h,kV,i,e,b,j,a,l,c,k⟩
theorem QA{x q:Str}{st:Stmt}{i:Str}(h:∀(kV a d:Value)(g:Option Addr)(b f c:Value),bindArgs (fnOf x q (bN st) (aX st) (ak st) .none kV a d g b f) ⟨[c],[]⟩=pure ([i].zip [c])):gq x q st [i]:=λkV a d g b f k j=>by obtain⟨c,l,rfl,e⟩:=nt j;cases Oy.mp e;exact h kV a d g b f c
theorem QB{x q:Str}{st:Stmt}{l k:Str}(h:∀(kV a e:Value)(j:Option Addr)(b i d c:Value),bindArgs (fnOf x q (bN st) (aX st) (ak st) .none kV a e j b i) ⟨[d,c],[]⟩=pure ([l,k].zip [d,c])):gq x q st [l,k]:=λkV a e j b i n m=>by obtain⟨d,p,rfl,g⟩:=nt m;obtain⟨c,o,rfl,f⟩:=nt g;cases Oy.mp f;exact h kV a e j b i d c
theorem QC{x q:Str}{st:Stmt}{m l p2:Str}(h:∀(kV a e:Value)(k:Option Addr)(b j d c a2:Value),bindArgs (fnOf x q (bN st) (aX st) (ak st) .none kV a e k b j) ⟨[d,c,a2],[]⟩=pure ([m,l,p2].zip [d,c,a2])):gq x q st [m,l,p2]:=λkV a e k b j o n=>by obtain⟨d,s,rfl,i⟩:=nt n;obtain⟨c,r,rfl,g⟩:=nt i;obtain⟨a2,p,rfl,f⟩:=nt g;cases Oy.mp f;exact h kV a e k b j d c a2
theorem QD{x q:Str}{st:Stmt}{n m p2 l:Str}(h:∀(kV a e:Value)(k:Option Addr)(b j d c a2 a3:Value),bindArgs (fnOf x q (bN st) (aX st) (ak st) .none kV a e k b j) ⟨[d,c,a2,a3],[]⟩=pure ([n,m,p2,l].zip [d,c,a2,a3])):gq x q st [n,m,p2,l]:=λkV a e k b j r o=>by obtain⟨d,v,rfl,i⟩:=nt o;obtain⟨c,u,rfl,g⟩:=nt i;obtain⟨a2,t,rfl,f⟩:=nt g;obtain⟨a3,s,rfl,p⟩:=nt f;cases Oy.mp p;exact h kV a e k b j d c a2 a3
theorem all_mk{l:PySem.W.OpenLaw}{w:World}{K:Frag}{h:Heap}{a:Str->Option Value}{f:Addr}(X:K.In h)(G:h.Ns mainGlobals a)(k:a "law"=some (.ref f))
 (i:Fy K top DD)(g:FA K ZZ)
 :∃c:FuncData,(∀(s:Shared)(v:Value),BindsTo s c ⟨[v],[]⟩ [("_law_script",v)])/\∀base:Heap,K.In base->base.Ns mainGlobals a->bK l.prog w K a base Nt 19 f c ["_law_script"] (wU K):=by
 obtain⟨b⟩:=PL X G i g;have D:=b.D (j:=30) rfl;have e:=k.symm.trans D.m;cases e
 let T:Tx K a:=⟨b⟩
 exact⟨b.d 30,λs v=>D.bt s [v] rfl,λbase _ _=>Ls (P5 T)⟩
end Gp
namespace PySem.W.Fast
noncomputable def tw125752646158955451:=0
noncomputable def tw15128300977846836580:=0
noncomputable def tw3997976013290004383:=0
noncomputable def tw1579609177944397440:=0
noncomputable def tw15643087415434991433:=0
noncomputable def tw11347197432603505463:=0
noncomputable def tw12716302099424195348:=0
noncomputable def tw10508795137829611988:=0
noncomputable def tw13846714510330218917:=0
noncomputable def tw5547088349120846739:=0
noncomputable def tw16129361445565453569:=0
noncomputable def tw1957625160297830187:=0
noncomputable def tw6538738424670687404:=0
noncomputable def tw1386739195096335404:=0
noncomputable def tw11137179712509478455:=0
noncomputable def tw3583855139401879914:=0
noncomputable def tw5369737619679513118:=0
noncomputable def tw8626586459258348510:=0
noncomputable def tw5406355540085819611:=0
noncomputable def tw10130713593295798956:=0
noncomputable def tw8540378012274122402:=0
noncomputable def tw12441220531781924633:=0
noncomputable def tw8491007357254435904:=0
noncomputable def tw17431808278551712022:=0
noncomputable def tw4308724197106876504:=0
noncomputable def tw14065736553065088863:=0
noncomputable def tw9544962296320894768:=0
noncomputable def tw12593803352046499278:=0
noncomputable def tw6897182511655803721:=0
noncomputable def tw14175140826766843800:=0
noncomputable def tw1881143168308271424:=0
noncomputable def tw1112622540524346867:=0
noncomputable def tw6421642346777783893:=0
noncomputable def tw16658809419964503688:=0
noncomputable def tw17446905692857244472:=0
noncomputable def tw16759191940368874807:=0
noncomputable def tw11288865429373183153:=0
noncomputable def tw17005494268665937081:=0
noncomputable def tw3980120079909970577:=0
noncomputable def tw8933681524926924634:=0
noncomputable def tw234422461953807073:=0
noncomputable def tw6420414683780735436:=0
noncomputable def tw15917763691692362821:=0
noncomputable def tw16342462702886828563:=0
noncomputable def tw10405398700610215906:=0
noncomputable def tw15135934685700779398:=0
noncomputable def tw9816046353769825403:=0
noncomputable def tw9077252744067036549:=0
noncomputable def tw1613422631608996906:=0
noncomputable def tw14035793121676630152:=0
noncomputable def tw7882231268298960943:=0
noncomputable def tw9587892601144166650:=0
noncomputable def tw16532335741032067205:=0
noncomputable def tw9358634382846929234:=0
noncomputable def tw13149044340511018073:=0
noncomputable def tw17378605868839946902:=0
noncomputable def tw11591679561303637465:=0
noncomputable def tw16479056775825790220:=0
noncomputable def tw7667998396513088753:=0
noncomputable def tw2003571347800760048:=0
noncomputable def tw12424585503612541269:=0
noncomputable def tw14154643056429502361:=0
noncomputable def tw1009551685794713290:=0
noncomputable def tw3930460702723648406:=0
noncomputable def tw16734380888921320408:=0
noncomputable def tw31406644983879615:=0
noncomputable def tw14150073652779397017:=0
noncomputable def tw7994034962007243537:=0
noncomputable def tw5505322035358877248:=0
noncomputable def tw3180913822573556048:=0
noncomputable def tw1760840735907213147:=0
noncomputable def tw864183959026997693:=0
noncomputable def tw3948742050321705353:=0
noncomputable def tw10239832490590997142:=0
noncomputable def tw13818220236274584191:=0
noncomputable def tw16167450722266326068:=0
noncomputable def tw1566156046010805422:=0
noncomputable def tw14616458179227970254:=0
noncomputable def tw15240901921088236128:=0
noncomputable def tw18096959314246728592:=0
noncomputable def tw96115790082439611:=0
noncomputable def tw9502449835646975642:=0
noncomputable def tw16909972006563143162:=0
noncomputable def tw6612066114226612542:=0
noncomputable def tw5125324267278025765:=0
noncomputable def tw5839756256528989099:=0
noncomputable def tw14156215589452193926:=0
noncomputable def tw2719404438800295420:=0
noncomputable def tw13678519888409668148:=0
noncomputable def tw5629696080659712367:=0
noncomputable def tw1597905682216536475:=0
noncomputable def tw1396947592208651644:=0
noncomputable def tw16969520373566677764:=0
noncomputable def tw13867701323076639668:=0
noncomputable def tw4172432556580278081:=0
noncomputable def tw3890904897169275199:=0
noncomputable def tw16019267292717910823:=0
noncomputable def tw5894298985994316799:=0
noncomputable def tw9851553955375707697:=0
noncomputable def tw860065232169209445:=0
noncomputable def tw8430340189773859578:=0
noncomputable def tw8376086013338062130:=0
noncomputable def tw7995305854654148358:=0
noncomputable def tw7012939836275841406:=0
noncomputable def tw18425777814040487920:=0
noncomputable def tw18382679002187164967:=0
noncomputable def tw16500864745666033201:=0
noncomputable def tw15871065298887701114:=0
noncomputable def tw15173375150692907004:=0
noncomputable def tw14356019999470909492:=0
noncomputable def tw12638247343807006760:=0
noncomputable def tw1259736526256044839:=0
noncomputable def tw11840969785922492109:=0
noncomputable def tw10069418853517414007:=0
noncomputable def tw9823390928783961687:=0
noncomputable def tw9171239452157935814:=0
noncomputable def tw7243804600765833337:=0
noncomputable def tw3260291918728554047:=0
noncomputable def tw18408134535637401169:=0
noncomputable def tw17576713106080441625:=0
noncomputable def tw14982205122927093897:=0
noncomputable def tw13363642813815147674:=0
noncomputable def tw11370460874354960436:=0
noncomputable def tw10981668986439759259:=0
noncomputable def tw10692683822205702242:=0
noncomputable def tw16128807781317397365:=0
noncomputable def tw16072188185310598274:=0
noncomputable def tw17053561739277340339:=0
noncomputable def tw7793974827034772407:=0
noncomputable def tw14956639941336822575:=0
noncomputable def tw10908095767250973503:=0
noncomputable def tw3838746723966719582:=0
noncomputable def tw3173239641248872763:=0
noncomputable def tw2255875604911990159:=0
noncomputable def tw12339124689437208430:=0
noncomputable def tw9284432619801438052:=0
end PySem.W.Fast
open PySem PySem.W PyProof.Rows
set_option maxRecDepth 100000 in
set_option maxHeartbeats 0 in
theorem PySem.Challenge.cw_paperwright_k31_prime_parts_of_known_row_holds : PySem.Challenge.rw_paperwright_k31_prime_parts_of_known_row.Holds := by
 w_on;o_law;k_head;(case hw=>w_witness2)
 k_fill
 refine VL.walk (l:=PySem.Challenge.rw_paperwright_k31_prime_parts_of_known_row) (k:=19) rfl rfl ⟨rfl,by decide,by decide⟩ (by decide+kernel) rfl (fun w h Y=>PySem.W.kIn_of Y) ?F
 case F=>
  intro w mg fa h KX G hmg
  refine' Gp.all_mk KX G hmg ?V6 ?V7
  (case V6=>(iterate 31 walk_at "ah");exact trivial)
  (case V7=>(iterate 7 walk_at "az");exact trivial)
