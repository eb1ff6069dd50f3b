import PyProof.Rows.All
import Wide.All
import OpenK.AllK
import Wide.FinOn
import Lean
import PyProof.EqAt
import PyProof.EqKinds
import PyProof.TupleCall
import PySem.Challenge.RW_paperwright_k29_prime_parts_come_to_the
set_option Elab.async false
set_option linter.all false
set_option maxRecDepth 100000
set_option maxHeartbeats 4000000
set_option hygiene false in
local macro_rules | `(tactic| walk_at "lo") => `(tactic| first | exact False.elim h | (obtain ⟨rfl, _⟩ := h; rfl) | (obtain ⟨_, h⟩ := h; walk_at "lo"))
set_option hygiene false in
local macro_rules | `(tactic| walk_at "l") => `(tactic| (intro _ _ _ h; walk_at "lo"))
set_option hygiene false in
local macro_rules | `(tactic| fin2) => `(tactic| first | dsimp only [↓M1, M3, wSs, wS, wE, wA, yq, MH, wP, IE, z8, IF, bU, setAt, List.getElem?_cons_zero, List.getElem?_cons_succ, look, List.set, bI, rS, bK, ay, List.map_cons, List.map_nil, List.nil_append, List.cons_append, x_len, z9, Aa, GB, GC, GD, Ab, vY, vZ, rT, GF, GG, GH, GI, GJ, GK, Ac, GL, GN, GO, M4, M5, x_lt, M6, M7, M8, GP, GQ, v5, Na, GR, GS, GU, Nb, GV, GW, GX, GY, wc, rV, Nc, GZ, G0, Nd, Ad, we, fall, List.replicate, if_true, Bool.not_true, Bool.not_false] | simp only [List.getElem?_cons_zero, List.getElem?_cons_succ, List.map_cons, List.map_nil, List.nil_append, List.cons_append, x_len, z9, Aa, GB, GC, GD, Ab, vY, vZ, rT, GF, GG, GH, GI, GJ, GK, Ac, GL, GN, GO, M4, M5, x_lt, M6, M7, M8, GP, GQ, v5, Na, GR, GS, GU, Nb, GV, GW, GX, GY, wc, rV, Nc, GZ, G0, Nd, Ad, we, fall, List.replicate, if_true, Bool.not_true, Bool.not_false] | skip)
set_option hygiene false in
local macro_rules | `(tactic| walk_at "hd") => `(tactic| (refine' G3.Nf ?ka ?kl ?kc ?kk; (case ka => k_is); (case kl => k_is); (case kc => k_is); (case kk => k_is)))
set_option hygiene false in
local macro_rules | `(tactic| walk_at "hm") => `(tactic| (refine' G3.TJ ?ka ?ki ?kl ?kc ?kk; (case ka => k_is); (case ki => k_is); (case kl => k_is); (case kc => k_is); (case kk => k_is)))
set_option hygiene false in
local macro_rules | `(tactic| walk_at "bn") => `(tactic| first | exact G3.Rb fun _ _ _ _ _ _ _ => rfl | exact G3.Rc fun _ _ _ _ _ _ _ _ => rfl | exact G3.Rf fun _ _ _ _ _ _ _ _ _ => rfl | exact G3.Rg fun _ _ _ _ _ _ _ _ _ _ => rfl)
set_option hygiene false in
local macro_rules | `(tactic| walk_at "ah") => `(tactic| (refine' And.intro (And.intro ?h1 ?h2) ?_; (case h1 => walk_at "hd"); (case h2 => walk_at "bn")))
set_option hygiene false in
local macro_rules | `(tactic| walk_at "az") => `(tactic| (refine' And.intro ?h1 ?_; (case h1 => k_is)))
open List renaming getD_eq_getElem?_getD->AC,length_map->Ap,getElem?_eq_getElem->B1,mem_cons_of_mem->D2,mem_cons_self->DL,mem_singleton->Da,getElem?_map->Dx,size_toArray->Ee,getElem?_eq_none->FM,getElem?_set_ne->FR,getElem?_eq_some_iff->FS,length_append->Fk,mem_cons->Fm,mem_append_right->Fs,mem_append->GM,length_range->HI,isEmpty_iff->Hb,all_eq_true->Hc,length_pos_iff->Hm,mem_map->IR,getElem?_append_right->Jn,length_set->KF,getElem?_set_self->KM,mem_range->Ki,map_cons->Kk,drop_eq_getElem_cons->Kt,nodup_cons->NA,mem_of_getElem?->OF,getElem?_append_left->OK,getElem_mem->Os,getElem?_range->Oy,mem_append_left->P3,map_append->PQ,length_eq_zero_iff->Pv,set_set->QQ,map_congr_left->QR,mem_filter->Qb,length_take->Re,set_comm->SB,length_reverse->SL,getElem_of_mem->SU,ext_getElem?->T1,getElem?_replicate->Tb,pairwise_cons->UV,cons_lt_cons_iff->X2,reverse_cons->X3,pairwise_map->X4,pairwise_iff_getElem->X8,getElem?_take_of_lt->XB,range_succ_eq_map->XX,nodup_nil->XY,map_map->XZ,length_eq_one_iff->Xt,getElem?_set->Y0,length_replicate->Y2,not_mem_nil->Y3,drop_length->Y4,append_nil->Y7,map_replicate->YI,getLast?_eq_getElem?->YL,nodup_append->YM,append_assoc->YN,pairwise_singleton->YY,getLast?_cons_cons->YZ,pairwise_lt_range->Yf,map_set->Yg,getElem?_reverse->Yj,reverse_reverse->Yl,pairwise_append->Ym,replicate->Aq,range->BB,length_cons->D8,length_singleton->G7,toArray->G8,lookup_cons->Ht,all_cons->JE,replicate_succ->JH,flatten_cons->MJ,length_nil->NN,find?_cons->NZ,zip_cons_cons->Ng,filterMap_cons->PU,mem_filterMap->QO,map_inj_right->QS,getElem_range->QV,map_nil->Qf,take_length->SN,length_drop->Sb,of_mem_zip->Sz,map_const'->T8,exists_cons_of_ne_nil->Tj,any_cons->U2,getElem?_cons_zero->U3,getElem?_cons_succ->UA,take_append_drop->Uc,dropLast_eq_take->Uz,contains_iff_mem->VD,length->VX,foldl->W9,take_add_one->WD,map_reverse->WU,any_eq_true->Wi,range_succ->Wl,nil_append->Wm,map_take->XN
open Bool renaming and_eq_true->AN,false_ne_true->Hk,and_eq_true_iff->KE,or_false->QP,and_false->SC,not_eq_true->Ts,eq_iff_iff->XR,false_eq_true->XT,not_eq_true'->YQ,or_eq_true->Yi,true_and->YP,and_true->Yp
open Nat renaming le_refl->BM,lt_of_lt_of_le->Gc,ne_of_lt->Ha,zero_le->Hn,le_trans->IH,add_sub_cancel->Kx,lt_irrefl->Nw,lt_succ_self->Qr,le_of_not_lt->RF,lt_succ_of_lt->SZ,le_of_eq->Sr,lt_of_le_of_ne->XS,sub_self->XW,le_antisymm->Y6,mul_le_mul_left->Y8,zero_add->YA,le_add_right->YX,ne_of_gt->Yc,lt_trans->Yd,le_of_lt->Ye,pow_add->Yk,pow_succ->N6,pow_zero->OA,sub_lt_sub_left->QH,succ_mul->Ri,sub_zero->Rl,pow_one->Sn,add_sub_cancel_left->UM,mul_comm->Ub,pow_pos->Vg,le_zero->Vm,add_right_comm->WB,lt_succ_of_le->WR,succ_le_succ->Wk,lt_or_ge->Ys,add_zero->Yt,mul_add->Z6,log2_lt->Z7,le_succ->Z8,succ->ZF
open PySem.Heap renaming get?_push_of_some->D1,lt_size->FK,get?_push_size->GE,get?_update_ne->Wp
open PySem renaming wpAny_bind->FC,wpAny_pure->Kb,wpAny_loadPart'->Kj,mem_of_lookup->N0,wpAny_truthy_bool->Pl,wpAny_mono->SF,sizeLine_eq->Ta,wpAny_Call_Name_kw->X5,wpAny_passesOwn->X6,wpAny_standAt->YF,wpAny_holding->YG,codeAny_mono->YR,wpAny_bindName->YV,wpAny_pyIter_list->Yh
open Classical renaming byContradiction->FV,not_forall->Tz,not_not->ZL,not_imp->ZM
open Lean.Grind.Semiring renaming pow_zero->Fn,pow_add->YB,natCast->Ea
open Option.some renaming inj->He
open Option renaming map_eq_some_iff->Iy,isSome_iff_exists->PP,map_some->MI,getD_some->MN,bind_eq_some_iff->Tq,getD_none->W8,none->XJ
open PyProof.Rows renaming callWith_type1->L9,assignInOrder_cons->X9,lt_int->TN,callWith_kw->Z4,callWith_builtin1->Z5
open Ne renaming symm->Mo
open Int renaming fmod_eq_emod_of_nonneg->NM,emod_lt_of_pos->On,emod_add_mul_ediv->P2,emod_nonneg->Pi,zero_mul->T2,mul_comm->TB,dvd_add->TC,mul_le_mul_of_nonneg_left->UF,add_zero->W1,le_of_dvd->X0,dvd_trans->X1,fdiv_eq_ediv_of_nonneg->X7,mul_zero->Y1,mul_le_mul_of_nonneg_right->Y5,toNat_of_nonneg->Y9,zero_add->YD,sub_zero->YE,natAbs_mul->YJ,gcd_dvd_right->YO,gcd_dvd_left->Ya,emod_eq_zero_of_dvd->Yb,one_mul->Yn,dvd_neg->Yo,toNat_natCast->Fc,gcd->Oz,natCast_succ->P5,ofNat_inj->Qc,lt_or_le->SA,emod_eq_of_lt->SJ,mul_one->T9,dvd_sub->TH,dvd_mul_of_dvd_right->UB,dvd_of_emod_eq_zero->US,dvd_zero->VI,natAbs_dvd_natAbs->Vf,neg_mul->W3,mul_nonneg->Xe,mul_le_mul->Xj,mul_assoc->Yr,zero_sub->Yw,sub_self->Yx,pow_zero->Yy,pow_succ->Yz,ofNat_lt->Z1,le_total->Z2,mul_neg->Z9,dvd_gcd->ZA
open PySem.W renaming kia_one->PH
open PySem.F renaming plainAttrs_list->XU,type_list_append->YS,slot_list_append->YT
open Lean.Grind.Ring renaming intCast_one->YC,intCast->Eb,intCast_zero->PV,intCast_add->Pd,intCast_sub->XO,intCast_neg->XQ,intCast_mul->Xa
open PySem.PassesOwn renaming never->YK
open PySem.SeqAt.EqAt renaming int_int->YW
open False renaming elim->IM
open Lean.Grind renaming Semiring->IS,Ring->Ji
open Array renaming length_toList->JJ,getD_eq_getD_getElem?->TL,perm_iff_toList_perm->TQ,getElem?_toList->Ua,forIn_toList->W4,append_assoc->W5,toList->Yq,getD->Z3
open ForInStep renaming yield->MX
open True renaming intro->P4
open List.Pairwise renaming imp_of_mem->Qd,nil->Yu,imp->Yv
open Sum renaming inr->Qg,inl->R0
open Nat.succ renaming inj->Tf
open PyProof renaming noPylong_small->To
open List.Perm renaming mem_iff->UR,refl->W2,map->ZH,length_eq->ZI,eq_of_pairwise->ZJ
open Quotient renaming lift->WA
open Nat.Coprime renaming dvd_of_dvd_mul_left->ZC
open Prod renaming ext->ZD
open And renaming right->ZE,left->ZN
open List.cons renaming injEq->ZG
open Decidable renaming not_not->ZK
noncomputable def Bi:=@of_decide_eq_true
noncomputable def Bn:=@if_neg
noncomputable def Bz:=@if_pos
noncomputable def Do:=@decide_eq_true
noncomputable def Fh:=@decide_eq_true_eq
noncomputable def GT:=@congrArg
noncomputable def KB:=@decide_eq_false
noncomputable def Pm:=@beq_iff_eq
noncomputable def TK:=@beq_self_eq_true
noncomputable def YH:=@of_decide_eq_false
noncomputable def YU:=@if_false
open PySem.W(instObj methodObj hideAll_get Frag lookIn plainGet findIn emptyDict isFn keepIn mroIn kitOne fnOf codeIn nsIn)
noncomputable section
set_option bootstrap.genMatcherCode false
namespace L2
open PySem PySem.Spec PyProof.Rows
abbrev Key:=Sum Int Str
noncomputable def G4:Key->Value->Bool
 |.inl k,v=>Value.isInt k v
 |.inr x,v=>Value.isStrOf x v
noncomputable def Rh(w:World):Key->Int
 |.inl k=>hashInt k
 |.inr x=>hashStr w x
theorem aY:∀{k:Key}{v:Value},G4 k v=true->(∃i t,k=R0 i/\v=Value.int i t)\/(∃x t,k=Qg x/\v=Value.str x t)
 |.inl i,v,h=>by obtain⟨t,e⟩:=Value.isInt_shape (k:=i) (v:=v) h;exact .inl ⟨i,t,rfl,e⟩
 |.inr x,v,h=>by obtain⟨t,e⟩:=Value.isStrOf_shape (x:=x) (v:=v) h;exact .inr ⟨x,t,rfl,e⟩
theorem IG(a b:Int):decide ((R0 a:Key)=R0 b)=(a==b):=by
 by_cases e:a=b
 .subst e;simp
 .have h:¬(R0 a:Key)=R0 b:=λq=>e (Sum.inl.inj q);rw[KB h];exact(beq_eq_false_iff_ne.mpr e).symm
theorem II(a b:Str):decide ((Qg a:Key)=Qg b)=decide (a=b):=by
 by_cases e:a=b
 .subst e;simp
 .have h:¬(Qg a:Key)=Qg b:=λq=>e (Sum.inr.inj q);rw[KB h,KB e]
theorem IJ(a:Int)(b:Str):decide ((R0 a:Key)=Qg b)=false:=KB (λq=>nomatch q)
theorem IK(a:Str)(b:Int):decide ((Qg a:Key)=R0 b)=false:=KB (λq=>nomatch q)
noncomputable def wg(prog:Program)(w:World):PySem.KeyKind prog w Key where
 is:=G4
 hash:=Rh w
 inj:=λv a b g d=>by
  rcases aY g with⟨i,t,rfl,rfl⟩|⟨x,t,rfl,rfl⟩
  .rcases aY d with⟨j,u,rfl,e⟩|⟨y,u,rfl,e⟩
   .injection e with e1 _;rw[e1]
   .exact nomatch e
  .rcases aY d with⟨j,u,rfl,e⟩|⟨y,u,rfl,e⟩
   .exact nomatch e
   .injection e with e1 _;rw[e1]
 byValue:=λk v h=>by rcases aY h with⟨i,t,rfl,rfl⟩|⟨x,t,rfl,rfl⟩<;>rfl
 pyHash:=λc h=>by
  rcases aY c with⟨i,t,rfl,rfl⟩|⟨x,t,rfl,rfl⟩
  .exact wpAny_pyHash_int h
  .exact wpAny_pyHash_str h
 eqBool:=λf c h=>by
  rcases aY f with⟨i,t,rfl,rfl⟩|⟨x,t,rfl,rfl⟩
  .rcases aY c with⟨j,u,rfl,rfl⟩|⟨y,u,rfl,rfl⟩
   .rw[IG]at h;exact wpAny_eqBool_int h
   .rw[IJ]at h;exact SeqAt.EqAt.int_str i t y u _ _ _ _ h
  .rcases aY c with⟨j,u,rfl,rfl⟩|⟨y,u,rfl,rfl⟩
   .rw[IK]at h;exact SeqAt.EqAt.str_int x t j u _ _ _ _ h
   .rw[II]at h;exact wpAny_eqBool_str h
 «strs»:=λk x t v h=>by
  rcases aY h with⟨i,u,rfl,e⟩|⟨y,u,rfl,e⟩
  .exact nomatch e
  .injection e with e1 _;subst e1;cases v<;>rfl
inductive V where
 |aM|bl (b:Bool)|int (i:Int)|str (x:Str)|zX (b:Array UInt8)|IL (b:UInt64)|ref (a:Addr)|ty (n:String)
 deriving DecidableEq
noncomputable def RelV:V->Value->Prop
 |.aM,u=>u=Value.none
 |.bl b,u=>u=Value.bool b
 |.int i,u=>∃t,u=Value.int i t
 |.str x,u=>∃t,u=Value.str x t
 |.zX b,u=>∃t,u=Value.bytes b t
 |.IL b,u=>∃t,u=Value.float b t
 |.ref a,u=>u=Value.ref a
 |.ty n,u=>u=Value.type n
abbrev Vals:List V->List Value->Prop:=Paired RelV
theorem Vals.length{a:List V}{b:List Value}(r:Vals a b):a.length=b.length:=Paired.length r
theorem Vals.get:∀{a:List V}{b:List Value}{i:Nat}{x:V},Vals a b->a[i]?=some x->∃u,b[i]?=some u/\RelV x u
 |_,_,_,_,.nil,e=>by simp at e
 |_,_,0,_,.cons r _,e=>by simp at e;subst e;exact⟨_,rfl,r⟩
 |_,_,i+1,x,.cons _ t,e=>by obtain⟨u,d,c⟩:=Vals.get (i:=i) (x:=x) t (by simpa using e);exact⟨u,by simpa using d,c⟩
theorem Vals.set{x:V}{u:Value}(r:RelV x u):∀{a:List V}{b:List Value}(i:Nat),Vals a b->Vals (a.set i x) (b.set i u)
 |_,_,_,.nil=>.nil
 |_,_,0,.cons _ t=>.cons r t
 |_,_,i+1,.cons q t=>.cons q (Vals.set r i t)
theorem Vals.append:∀{b a:List V}{d c:List Value},Vals b d->Vals a c->Vals (b++a) (d++c)
 |_,_,_,_,.nil,s=>s
 |_,_,_,_,.cons r t,s=>.cons r (Vals.append t s)
theorem Vals.take:∀{a:List V}{b:List Value}(n:Nat),Vals a b->Vals (a.take n) (b.take n)
 |_,_,0,_=>.nil
 |_,_,_+1,.nil=>.nil
 |_,_,n+1,.cons r t=>.cons r (Vals.take n t)
theorem Vals.drop:∀{a:List V}{b:List Value}(n:Nat),Vals a b->Vals (a.drop n) (b.drop n)
 |_,_,0,r=>r
 |_,_,_+1,.nil=>.nil
 |_,_,n+1,.cons _ t=>Vals.drop n t
noncomputable def kC:Option V->Option Value->Prop
 |some v,some u=>RelV v u
 |none,none=>True
 |_,_=>False
noncomputable def KV{κ:Type}:List (κ×V)->List (κ×Value)->Prop:=Paired λ(p:κ×V)(q:κ×Value)=>p.1=q.1/\RelV p.2 q.2
noncomputable def kV:Key->V
 |.inl i=>.int i
 |.inr x=>.str x
inductive HO where
 |lst (xs:List V)
 |tup (xs:List V)
 |dK (kvs:List (Key×V))|dT (kvs:List (List Key×V))
 |set (S:Int->Bool) (n:Nat)
 |ins (C dx:Addr) (fs:List (Str×V))
 |own (x:Addr)
 |xd (fs:List (Str×V))
 |met (f x:Addr)
 |jq (lo hi:Int)
 |ug (o:Obj) (u:HO)
 |G5 (ps:Array Value)
 |ext (φ:Heap->Prop)
abbrev Hp:=Addr->Option HO
noncomputable def upd(H:Hp)(a:Addr)(o:HO):Hp:=λb=>if b=a then some o else H b
theorem aL{H:Hp}{a:Addr}{o:HO}:upd H a o a=some o:=by unfold upd;rw[Bz rfl]
theorem aA{H:Hp}{a b:Addr}{o:HO}(h:b≠a):upd H a o b=H b:=by unfold upd;rw[Bn h]
theorem aP{H:Hp}{a b:Addr}{o:HO}(h:H a=some o)(h':H b=none):a≠b:=by intro e;subst e;rw[h]at h';cases h'
section
variable(P:Program)(w:World)
noncomputable def bF(H:Hp)(h:Heap)(a:Addr):HO->Prop
 |.lst d=>d.length<=sizeLine/\∃(c:List Value)(n:Nat),Vals d c/\h.get? a=some {cls:=.type "list",data:=.seq c.toArray n}
 |.tup d=>d.length<=sizeLine/\∃c:List Value,Vals d c/\IsTup h a c.toArray
 |.dK b=>b.length<=sizeLine/\(a==sysModules)=false/\∃vs,KV b vs/\h.DictOf (wg P w) a vs
 |.dT b=>b.length<=sizeLine/\(a==sysModules)=false/\∃d:List (List Key×Addr×Value),
   Paired (λ(p:List Key×V)(q:List Key×Addr×Value)=>p.1=q.1/\H q.2.1=some (.tup (p.1.map kV))/\RelV p.2 q.2.2) b d/\
   ∃o l s,h.get? a=some o/\o.ExactDict/\o.data=.dict l s/\l.toList=d.map (entryOfKey (tupleKind (wg P w)))/\(d.map (·.1)).Nodup
 |.set S n=>h.SetOf (intKind P w) a S n
 |.ins C i g=>H i=some (.own a)/\g.length<=1000/\i≠a/\h.get? a=some (instObj C i)/\
   ∃e,h.Ns1 i e/\(∀f,kC (g.lookup f) (e f))/\PySem.Within e (g.map (·.1))
 |.own _=>∃o,h.get? a=some o
 |.xd g=>∃e,h.Ns1 a e/\∀f,kC (g.lookup f) (e f)
 |.jq m r=>∃t u v,h.get? a=some {cls:=.type "range",data:=.fields #[.int m t,.int r u,.int 1 v]}
 |.ug o u=>h.get? a=some o/\bF H h a u
 |.G5 ps=>h.get? a=some {cls:=.none,data:=.fields ps}
 |.met f x=>h.get? a=some (methodObj (.ref f) (.ref x))
 |.ext φ=>φ h/\(∃o,h.get? a=some o)/\∀k j:Heap,φ k->(∀o,k.get? a=some o->j.get? a=some o)->φ j
noncomputable def iC(H:Hp)(h:Heap):Prop:=∀a o,H a=some o->bF P w H h a o
end
section
variable{P:Program}{w:World}{H H':Hp}{h h':Heap}{a:Addr}{o:HO}
theorem bF.lt(x:bF P w H h a o):a<h.objs.size:=by
 cases o with
 |lst c=>obtain⟨_,_,_,_,e⟩:=x;exact FK e
 |tup c=>obtain⟨_,_,_,p⟩:=x;exact p.lt
 |dK b=>obtain⟨_,_,_,_,o,_,_,e,_⟩:=x;exact FK e
 |dT b=>obtain⟨_,_,_,_,o,_,_,e,_⟩:=x;exact FK e
 |set S n=>obtain⟨o,_,_,_,e,_⟩:=x;exact FK e
 |ins C l d=>obtain⟨_,_,_,e,_⟩:=x;exact FK e
 |own y=>obtain⟨_,e⟩:=x;exact FK e
 |xd d=>obtain⟨_,⟨_,_,_,e,_⟩,_⟩:=x;exact FK e
 |jq j k=>obtain⟨_,_,_,e⟩:=x;exact FK e
 |ug i u=>obtain⟨e,_⟩:=x;exact FK e
 |G5 g=>exact FK (show h.get? a=some _ from x)
 |met f y=>exact FK (show h.get? a=some _ from x)
 |ext φ=>obtain⟨_,⟨_,e⟩,_⟩:=x;exact FK e
theorem Paired.Ae{α e:Type}{F G:α->e->Prop}:∀{d:List α}{c:List e},Paired F d c->(∀a b,F a b->G a b)->Paired G d c
 |_,_,.nil,_=>.nil
 |_,_,.cons r t,f=>.cons (f _ _ r) (Paired.Ae t f)
theorem bF.stay(x:bF P w H h a o)(k:∀b u,(b=a\/H b=some (.own a))->h.get? b=some u->h'.get? b=some u)
 (L:∀b,H b=some (.own a)->H' b=some (.own a))(K:∀b m,H b=some (.tup m)->H' b=some (.tup m)):bF P w H' h' a o:=by
 induction o with
 |lst m=>obtain⟨z,l,n,r,e⟩:=x;exact⟨z,l,n,r,k _ _ (.inl rfl) e⟩
 |tup m=>obtain⟨z,l,r,g,e,c⟩:=x;exact⟨z,l,r,g,k _ _ (.inl rfl) e,c⟩
 |dK B=>obtain⟨z,y,G,r,g,i,j,e,c⟩:=x;exact⟨z,y,G,r,g,i,j,k _ _ (.inl rfl) e,c⟩
 |dT B=>obtain⟨z,y,m,r,g,i,j,e,c⟩:=x;exact⟨z,y,m,Paired.Ae r λp q z=>⟨z.1,K _ _ z.2.1,z.2.2⟩,g,i,j,k _ _ (.inl rfl) e,c⟩
 |set S n=>obtain⟨g,i,j,t,e,c⟩:=x;exact⟨g,i,j,t,k _ _ (.inl rfl) e,c⟩
 |ins C R M=>obtain⟨d,z,I,e,A,⟨s,i,j,N,c⟩,r⟩:=x;exact⟨L _ d,z,I,k _ _ (.inl rfl) e,A,⟨s,i,j,k _ _ (.inr d) N,c⟩,r⟩
 |own y=>obtain⟨g,e⟩:=x;exact⟨g,k _ _ (.inl rfl) e⟩
 |xd M=>obtain⟨A,⟨s,i,j,e,c⟩,r⟩:=x;exact⟨A,⟨s,i,j,k _ _ (.inl rfl) e,c⟩,r⟩
 |jq O Q=>obtain⟨t,u,v,e⟩:=x;exact⟨t,u,v,k _ _ (.inl rfl) e⟩
 |ug g u J=>obtain⟨e,q⟩:=x;exact⟨k _ _ (.inl rfl) e,J q⟩
 |G5 E=>have e:h.get? a=some {cls:=.none,data:=.fields E}:=x;show h'.get? a=some {cls:=.none,data:=.fields E};exact k a _ (.inl rfl) e
 |met f y=>have e:h.get? a=some (methodObj (.ref f) (.ref y)):=x;show h'.get? a=some (methodObj (.ref f) (.ref y));exact k a _ (.inl rfl) e
 |ext φ=>obtain⟨p,⟨o,e⟩,D⟩:=x;exact⟨D _ _ p λo q=>k _ _ (.inl rfl) q,⟨o,k _ _ (.inl rfl) e⟩,D⟩
theorem iC.lt(x:iC P w H h)(e:H a=some o):a<h.objs.size:=(x a o e).lt
theorem iC.fresh(x:iC P w H h)(e:h.objs.size<=a):H a=none:=by
 cases q:H a with
 |none=>rfl
 |some u=>exact absurd (Gc (x.lt q) e) (Nw _)
theorem iC.kept(x:iC P w H h)(k:∀b u,h.get? b=some u->h'.get? b=some u):iC P w H h':=λa o e=>(x a o e).stay (λb u _ q=>k b u q) (λ_ q=>q) λ_ _ q=>q
theorem iC.laid(x:iC P w H h)(k:∀b u,h.get? b=some u->h'.get? b=some u)(i:h.objs.size<=a)(d:bF P w (upd H a o) h' a o):iC P w (upd H a o) h':=λb u e=>by
 have f:=x.fresh i;by_cases g:b=a
 .subst g;rw[aL]at e;cases e;exact d
 .rw[aA g]at e;exact(x b u e).stay (λc v _ q=>k c v q) (λc q=>by rw[aA (aP q f)];exact q) λc j q=>by rw[aA (aP q f)];exact q
end
noncomputable def Rd(H:Hp)(a:Addr)(u:HO):Prop:=H a=some u\/∃o,H a=some (.ug o u)
theorem Rd.ok{P:Program}{w:World}{H:Hp}{h:Heap}{a:Addr}{u:HO}(r:Rd H a u)(x:iC P w H h):bF P w H h a u:=by
 rcases r with r|⟨o,r⟩
 .exact x a u r
 .obtain⟨_,q⟩:=x a _ r;exact q
noncomputable def QD:Option HO->Prop
 |some (.lst _)=>True
 |some (.dK _)=>True
 |some (.dT _)=>True
 |some (.set _ _)=>True
 |some (.ins _ _ _)=>True
 |some (.ext _)=>True
 |_=>False
section
variable{P:Program}{w:World}{H:Hp}{h h':Heap}{x e:Addr}{o':HO}
theorem iC.write(o:iC P w H h)(d:QD (H x))(m:e=x\/H e=some (.own x))(k:∀b u,b≠e->h.get? b=some u->h'.get? b=some u)(t:∃u,h'.get? e=some u)
 (j:bF P w (upd H x o') h' x o'):iC P w (upd H x o') h':=λb u q=>by
 have n:∀c y,H c=some (.own y)->c≠x:=λc y r z=>by subst z;rw[r]at d;exact d
 have s:∀c a,H c=some (.tup a)->c≠x:=λc a r z=>by subst z;rw[r]at d;exact d
 by_cases g:b=x
 .subst g;rw[aL]at q;cases q;exact j
 .rw[aA g]at q;by_cases i:b=e
  .have l:H b=some (.own x):=by
    rcases m with z|z
    .exact absurd (i.trans z) g
    .rw[i];exact z
   rw[q]at l;cases l;obtain⟨v,p⟩:=t;exact⟨v,by rw[i];exact p⟩
  .refine(o b u q).stay (λc v f r=>k c v ?_ r) (λc r=>by rw[aA (n c b r)];exact r) λc a r=>by rw[aA (s c a r)];exact r
   rcases f with rfl|f
   .exact i
   .rintro rfl;rcases m with z|z
    .exact n c b f z
    .rw[f]at z;cases z;exact g rfl
end
structure Un(fs ex:List Addr)(H H':Hp)(h h':Heap):Prop where
 keep:∀b o,h.get? b=some o->H b=none->b∉fs->b∉ex->h'.get? b=some o
 slot:∀b o,h.get? b=some o->H b=none->b∈fs->b∉ex->∃sl,h'.get? b=some {o with slots:=sl}
 free:∀b o,h.get? b=some o->H b=none->b∉ex->H' b=none
 there:∀b o,h.get? b=some o->b∉ex->∃o',h'.get? b=some o'
 tups:∀b xs,H b=some (.tup xs)->H' b=some (.tup xs)
 iE:∀b o u,H b=some (.ug o u)->H' b=some (.ug o u)
 ju:∀b ps,H b=some (.G5 ps)->∃more,H' b=some (.G5 (ps++more))
section
variable{fs fs' ex ex':List Addr}{H H1 H2:Hp}{h h1 h2 h':Heap}{a x e:Addr}{o:HO}
theorem Un.any(u:Un fs ex H H1 h h1){b:Addr}{c:Obj}(q:h.get? b=some c)(n:H b=none)(d:b∉ex):∃g,h1.get? b=some {c with slots:=g}:=by
 by_cases f:b∈fs
 .exact u.slot b c q n f d
 .exact⟨c.slots,u.keep b c q n f d⟩
theorem Un.kept(k:∀b u,h.get? b=some u->h'.get? b=some u):Un fs ex H H h h':=
 ⟨λb c q _ _ _=>k b c q,λb c q _ _ _=>⟨c.slots,k b c q⟩,λ_ _ _ n _=>n,λb c q _=>⟨c,k b c q⟩,λ_ _ q=>q,λ_ _ _ q=>q,λ_ d q=>⟨#[],by rw[q];simp⟩⟩
theorem Un.refl:Un fs ex H H h h:=Un.kept λ_ _ q=>q
theorem Un.laid(k:∀b u,h.get? b=some u->h'.get? b=some u)(f:h.objs.size<=a)(c:H a=none):Un fs ex H (upd H a o) h h' where
 keep:=λb u q _ _ _=>k b u q
 slot:=λb u q _ _ _=>⟨u.slots,k b u q⟩
 free:=λb u q n _=>by rw[aA (Ha (Gc (FK q) f))];exact n
 there:=λb u q _=>⟨u,k b u q⟩
 tups:=λb d q=>by rw[aA (aP q c)];exact q
 iE:=λb u d q=>by rw[aA (aP q c)];exact q
 ju:=λb g q=>⟨#[],by rw[aA (aP q c),q];simp⟩
theorem Un.write(c:QD (H x))(m:e=x\/H e=some (.own x))(k:∀b u,b≠e->h.get? b=some u->h'.get? b=some u)(p:∃u,h'.get? e=some u):Un fs ex H (upd H x o) h h':=by
 have f:∀b,H b=none->b≠x:=λb n z=>by subst z;rw[n]at c;exact c
 have g:∀b,H b=none->b≠e:=λb n z=>by
  subst z;rcases m with r|r
  .exact f b n r
  .rw[n]at r;cases r
 have d:∀b u,H b=some u->¬QD (some u)->b≠x:=λb u q l z=>by subst z;rw[q]at c;exact l c
 refine⟨λb u q n _ _=>k b u (g b n) q,λb u q n _ _=>⟨u.slots,k b u (g b n) q⟩,λb u q n _=>by rw[aA (f b n)];exact n,λb u q _=>?_,
  λb j q=>by rw[aA (d b _ q λz=>z)];exact q,λb u j q=>by rw[aA (d b _ q λz=>z)];exact q,λb s q=>⟨#[],by rw[aA (d b _ q λz=>z),q];simp⟩⟩
 by_cases i:b=e
 .subst i;exact p
 .exact⟨u,k b u i q⟩
end
noncomputable def QE(h:Heap)(H:Hp):List Addr:=(BB h.objs.size).filter λa=>(H a).isSome
noncomputable def pL(h:Heap)(H:Hp):Heap:=PySem.W.hideAll h (QE h H)
theorem yr(h:Heap)(H:Hp):(pL h H).objs.size=h.objs.size:=PySem.W.hideAll_size _ _
theorem Af{h:Heap}{H:Hp}{b:Addr}{o:Obj}(e:h.get? b=some o)(n:H b=none):(pL h H).get? b=some o:=
 hideAll_get _ e λa=>by have q:(H b).isSome=true:=(Qb.mp a).2;rw[n]at q;simp at q
theorem DF{h:Heap}{H:Hp}{b:Addr}{o:Obj}(e:(pL h H).get? b=some o):h.get? b=some o/\H b=none:=by
 have a:h.get? b=some o:=PySem.W.of_hideAll (QE h H) e;refine⟨a,?_⟩;cases q:H b with
 |none=>rfl
 |some x=>have c:b∈QE h H:=Qb.mpr ⟨Ki.mpr (FK a),by simp[q]⟩;have z:(pL h H).get? b=none:=PySem.W.hideAll_none (QE h H) c;rw[z]at e;cases e
noncomputable def DG(g h:Heap)(L:Addr):List (Addr×Obj):=(BB h.objs.size).filterMap λa=>if a=L\/(g.get? a).isSome=true then none else(h.get? a).map λo=>(a,o)
noncomputable def rest(g h:Heap)(L d:Addr):List (Addr×Obj):=(DG g h L).filter λp=>decide (p.1≠d)
structure Mod(K:Frag)(mg:Str->Option Value)(base:Heap):Prop where
 QF:K.In base
 glob:base.Ns mainGlobals mg
 blt:∃mb,base.Ns builtinsNs mb/\∀x:Str,x≠"__name__"->mb x=bootBuiltins x
 nolimit:base.NoLimit
 seer:base.NoSeer
set_option genInjectivity false in
set_option genSizeOf false in
structure Cx where
 prog:Program
 w:World
 K:Frag
 mg:Str->Option Value
 base:Heap
 A:Around
 N:List Str
 s₀:Shared
 H₀:Hp
 env:Env
 outer:List Env
 stack:List Env
 ex:List Addr
 fn:Str->Bool
 calm:Bool
 pn:List (Addr×Obj)
 xe:Value->Shared->Prop
noncomputable def frs(l:List Env):List Addr:=l.filterMap (·.frame)
abbrev Cx.fs(X:Cx):List Addr:=frs X.outer
noncomputable def IP(sc:Scope)(x:Str):Prop:=sc.names.lookup x=some .local\/sc.names.lookup x=some .cell\/sc.names.lookup x=some .free
noncomputable def Loc(sc:Scope)(x:Str):Prop:=sc.names.lookup x=some .local\/sc.names.lookup x=some .cell
noncomputable def Look(env:Env)(h:Heap)(m:Str->Option Value)(x:Str)(u:Value):Prop:=
 (env.kindOf x=some .local/\m x=some u)\/((env.kindOf x=some .cell\/env.kindOf x=some .free)/\∃c,env.cells.lookup x=some c/\h.IsCell c (some u))
structure Cx.Ok(X:Cx):Prop where
 mod:Mod X.K X.mg X.base
 kind:X.env.scope.kind=.function
 glob:X.env.globals=mainGlobals
 blt:X.env.builtins=builtinsNs
 above:X.s₀.heap.objs.size<=X.env.locals
 inj:∀x y c,X.env.cells.lookup x=some c->X.env.cells.lookup y=some c->x=y
 has:∀x,(X.env.kindOf x=some .cell\/X.env.kindOf x=some .free)->∃c,X.env.cells.lookup x=some c
 Nh:∀x c,X.fn x=true->X.env.cells.lookup x=some c->X.s₀.heap.objs.size<=c
 hd:X.calm=true->X.A.handled=none
 frames:X.A.frames=some X.stack
 stk:X.stack=X.outer\/(X.stack=X.env::X.outer/\X.env.frame=some X.env.locals)
 Rj:∀b∈X.ex,b≠X.env.locals/\∀x c,X.env.cells.lookup x=some c->c≠b
 bs:∀b o,X.base.get? b=some o->X.s₀.heap.get? b=some o/\X.H₀ b=none
 Du:X.base.objs.size<=X.s₀.heap.objs.size
 Ag:∀b o,X.base.get? b=some o->b∉X.ex
 Ah:∀b∈X.ex,b∉X.fs
 jv:X.s₀.heap.FunFrames X.base X.outer
 G6:∀b∈X.fs,X.H₀ b=none
 tree:X.prog.given.tree=none
 QG:∀(A:Around)(s:Shared),A.frames=X.A.frames->A.depth=X.A.depth->(∀b o,X.base.get? b=some o->s.heap.get? b=some o)->PylongRoom (model X.prog X.w) A s
structure Inv(X:Cx)(pins:List (Addr×Obj))(σ:List (Option V))(H:Hp)(s:Shared):Prop where
 ok:X.Ok
 os:s.os=X.s₀.os
 bare:AllBare s.gens
 base:Un X.fs X.ex X.H₀ H X.s₀.heap s.heap
 loc:∃m,s.heap.Ns X.env.locals m/\∀(i:Nat)(x:Str)(v:V),X.N[i]?=some x->σ[i]?=some (some v)->IP X.env.scope x->∃u,RelV v u/\Look X.env s.heap m x u
 cell:∀x c,X.env.cells.lookup x=some c->∃v,s.heap.IsCell c v
 free:H X.env.locals=none
 fX:∀x c,X.env.cells.lookup x=some c->H c=none
 pin:∀p∈X.pn++pins,s.heap.get? p.1=some p.2/\H p.1=none/\p.1≠X.env.locals/\p.1∉X.fs/\∀v,p.2.data≠.cell v
 hok:iC X.prog X.w H s.heap
 len:σ.length=X.N.length
section
variable{X:Cx}{pins:List (Addr×Obj)}{σ:List (Option V)}{H H':Hp}{s:Shared}{h':Heap}
theorem Cx.Ok.DH(a:X.Ok){b:Addr}{o:Obj}(e:X.base.get? b=some o):b∉X.fs:=λc=>by have:=(a.jv.mem c).1;rw[e]at this;cases this
theorem Inv.bs(I:Inv X pins σ H s):∀b o,X.base.get? b=some o->s.heap.get? b=some o/\H b=none:=λb o e=>⟨I.base.keep b o (I.ok.bs b o e).1 (I.ok.bs b o e).2 (I.ok.DH e) (I.ok.Ag b o e),I.base.free b o (I.ok.bs b o e).1 (I.ok.bs b o e).2 (I.ok.Ag b o e)⟩
theorem Inv.bk(I:Inv X pins σ H s):∀b o,X.base.get? b=some o->s.heap.get? b=some o:=λb o e=>(I.bs b o e).1
theorem Inv.mod(I:Inv X pins σ H s):Mod X.K X.mg X.base:=I.ok.mod
theorem Inv.lC(I:Inv X pins σ H s):X.K.In s.heap:=I.ok.mod.QF.keeps I.bk
theorem Inv.lt(I:Inv X pins σ H s):X.env.locals<s.heap.objs.size:=let⟨_,hn,_⟩:=I.loc;hn.lt
theorem Inv.sz(I:Inv X pins σ H s):X.s₀.heap.objs.size<=s.heap.objs.size:=IH I.ok.above (Ye I.lt)
theorem Inv.Rk(I:Inv X pins σ H s){a:Addr}(h:s.heap.objs.size<=a):a∉X.fs:=λc=>by obtain⟨_,o,b,_⟩:=I.ok.jv.mem c;exact absurd (Gc (FK b) (IH I.sz h)) (Nw _)
theorem Inv.IQ(I:Inv X pins σ H s):∀x c,X.env.cells.lookup x=some c->c≠X.env.locals:=λx c e z=>by obtain⟨v,o,d,f⟩:=I.cell x c e;obtain⟨m,⟨g,h,i,a,b,_⟩,_⟩:=I.loc;rw[z,a]at d;cases d;rw[b]at f;cases f
theorem Inv.jv(I:Inv X pins σ H s):s.heap.FunFrames X.base X.outer:=by
 have f:∀(l:List Env),(∀b∈frs l,b∈X.fs)->X.s₀.heap.FunFrames X.base l->s.heap.FunFrames X.base l:=by
  intro l
  induction l with
  |nil=>intro _ _;trivial
  |cons env r h=>intro g m;obtain⟨n,⟨L,o,a,k,j,p⟩,i⟩:=m;have d:L∈X.fs:=g L (by unfold frs;rw[PU,a];exact DL);obtain⟨q,e⟩:=I.base.slot L o j (I.ok.G6 L d) d λz=>I.ok.Ah L z d;exact⟨n,⟨L,_,a,k,e,p⟩,h (λb c=>g b (by unfold frs;rw[PU,a];exact D2 _ c)) i⟩
 exact f X.outer (λ_ c=>c) I.ok.jv
theorem Inv.stack(I:Inv X pins σ H s):s.heap.FunFrames X.base X.stack:=by
 rcases I.ok.stk with e|⟨e,b⟩
 .rw[e];exact I.jv
 .rw[e];obtain⟨m,a,_⟩:=I.loc;refine .cons (by rw[I.ok.kind];decide) b a ?_ I.jv;exact Heap.get?_none_of_le (IH I.ok.Du I.ok.above)
theorem Inv.ux(I:Inv X pins σ H s):∀b∈frs X.stack,b∈X.env.locals::X.fs:=λb a=>by
 rcases I.ok.stk with e|⟨e,c⟩
 .rw[e]at a;exact D2 _ a
 .rw[e]at a;unfold frs at a;rw[PU,c]at a;exact a
theorem Inv.iF(I:Inv X pins σ H s):∀b∈frs X.stack,H b=none:=λb a=>by
 rcases Fm.mp (I.ux b a)with e|a
 .rw[e];exact I.free
 .obtain⟨_,o,c,_⟩:=I.ok.jv.mem a;exact I.base.free b o c (I.ok.G6 b a) λz=>I.ok.Ah b z a
theorem Inv.step{g':Array GenState}{t':Nat}{d':Drawn}{ch:List Addr}(I:Inv X pins σ H s)
 (f:∀b∈ch,(b∈X.ex\/X.s₀.heap.objs.size<=b)/\b≠X.env.locals/\(∀x c,X.env.cells.lookup x=some c->c≠b)/\∀p∈X.pn++pins,p.1≠b)
 (keep:∀b o,b≠X.env.locals->b∉X.fs->b∉ch->s.heap.get? b=some o->H b=none->h'.get? b=some o)
 (slot:∀b o,b≠X.env.locals->b∈X.fs->b∉ch->s.heap.get? b=some o->H b=none->∃G,h'.get? b=some {o with slots:=G})(free:∀b o,b∉ch->s.heap.get? b=some o->H b=none->H' b=none)
 (there:∀b o,b∉ch->s.heap.get? b=some o->∃A,h'.get? b=some A)
 (tups:∀b j,H b=some (.tup j)->H' b=some (.tup j))(iE:∀b o u,H b=some (.ug o u)->H' b=some (.ug o u))(ju:∀b ps,H b=some (.G5 ps)->∃B,H' b=some (.G5 (ps++B)))
 (ns:∀m,s.heap.Ns X.env.locals m->h'.Ns X.env.locals m)(J:iC X.prog X.w H' h')(U:AllBare g'):
 Inv X pins σ H' {s with heap:=h',gens:=g',drawn:=d',toks:=t'}:=by
 have P:∀b o,X.s₀.heap.get? b=some o->b≠X.env.locals:=λb o e=>Ha (Gc (FK e) I.ok.above);have E:∀b o,X.s₀.heap.get? b=some o->b∉X.ex->b∉ch:=λb o e a t=>by
  rcases(f b t).1 with z|z
  .exact a z
  .exact absurd (Gc (FK e) z) (Nw _)
 have g:∀x c,X.env.cells.lookup x=some c->∀v,s.heap.IsCell c v->h'.IsCell c v:=λx c e v ⟨o,y,K⟩=>by
  have D:c∉ch:=λz=>(f c z).2.2.1 x c e rfl;by_cases O:c∈X.fs
  .obtain⟨G,q⟩:=slot c o (I.IQ x c e) O D y (I.fX x c e);exact⟨_,q,K⟩
  .exact⟨o,keep c o (I.IQ x c e) O D y (I.fX x c e),K⟩
 refine⟨I.ok,I.os,U,⟨λb o e n t a=>?_,λb o e n t a=>?_,λb o e n a=>?_,λb o e a=>?_,λb j e=>tups b j (I.base.tups b j e),λb o j e=>iE b o j (I.base.iE b o j e),λb ps e=>?_⟩,?_,λx c e=>?_,?_,λx c e=>?_,λp N=>?_,J,I.len⟩
 .exact keep b o (P b o e) t (E b o e a) (I.base.keep b o e n t a) (I.base.free b o e n a)
 .obtain⟨G,h⟩:=I.base.slot b o e n t a;obtain⟨Z,C⟩:=slot b _ (P b o e) t (E b o e a) h (I.base.free b o e n a);exact⟨Z,C⟩
 .obtain⟨A,h⟩:=I.base.there b o e a;exact free b A (E b o e a) h (I.base.free b o e n a)
 .obtain⟨A,h⟩:=I.base.there b o e a;exact there b A (E b o e a) h
 .obtain⟨R,h⟩:=I.base.ju b ps e;obtain⟨Q,C⟩:=ju b _ h;exact⟨R++Q,by rw[C,W5]⟩
 .obtain⟨m,S,T⟩:=I.loc;refine⟨m,ns m S,λi x v h C Y=>?_⟩;obtain⟨u,r,l⟩:=T i x v h C Y;refine⟨u,r,?_⟩;rcases l with l|⟨k,c,e,z⟩
  .exact .inl l
  .exact .inr ⟨k,c,e,g x c e _ z⟩
 .obtain⟨v,z⟩:=I.cell x c e;exact⟨v,g x c e v z⟩
 .obtain⟨m,⟨o,_,_,y,_⟩,_⟩:=I.loc;exact free _ o (λz=>(f _ z).2.1 rfl) y I.free
 .obtain⟨v,o,y,K⟩:=I.cell x c e;exact free c o (λz=>(f c z).2.2.1 x c e rfl) y (I.fX x c e)
 .obtain⟨e,n,M,L,d⟩:=I.pin p N;have D:p.1∉ch:=λz=>(f p.1 z).2.2.2 p N rfl;exact⟨keep p.1 p.2 M L D e n,free p.1 p.2 D e n,M,L,d⟩
theorem Inv.un{t':Nat}(I:Inv X pins σ H s)(u:Un X.fs [] H H' s.heap h')(c:iC X.prog X.w H' h'):Inv X pins σ H' {s with heap:=h',toks:=t'}:=by obtain⟨m,⟨o,t,v,g,r⟩,_⟩:=id I.loc;obtain⟨l,j⟩:=u.any g I.free (by simp);exact I.step (g':=s.gens) (d':=s.drawn) (ch:=[]) (λ_ z=>nomatch z) (λb o _ d _ e n=>u.keep b o e n d (by simp)) (λb o _ d _ e n=>u.slot b o e n d (by simp)) (λb o _ e n=>u.free b o e n (by simp)) (λb o _ e=>u.there b o e (by simp)) u.tups u.iE u.ju (λq i=>by obtain⟨p,f,k,a,h⟩:=i;rw[g]at a;cases a;exact⟨_,f,k,j,h⟩) c I.bare
theorem Inv.call{g':Array GenState}{t':Nat}{d':Drawn}{ch:List Addr}(I:Inv X pins σ H s)(u:Un (frs X.stack) ch H H' s.heap h')(g:iC X.prog X.w H' h')(q:AllBare g')
 (f:∀b∈ch,(b∈X.ex\/X.s₀.heap.objs.size<=b)/\b≠X.env.locals/\(∀x c,X.env.cells.lookup x=some c->c≠b)/\∀p∈X.pn++pins,p.1≠b):
 Inv X pins σ H' {s with heap:=h',gens:=g',drawn:=d',toks:=t'}:=by
 obtain⟨m,⟨o,C,D,j,r⟩,_⟩:=id I.loc;obtain⟨y,h⟩:=u.any j I.free λz=>(f _ z).2.1 rfl;exact I.step (ch:=ch) f (λb o h t a e n=>u.keep b o e n (λz=>(Fm.mp (I.ux b z)).elim h t) a) (λb o _ _ a e n=>u.any e n a) (λb o a e n=>u.free b o e n a) (λb o a e=>u.there b o e a) u.tups u.iE u.ju (λB l=>by obtain⟨A,i,v,d,k⟩:=l;rw[j]at d;cases d;exact⟨_,i,v,h,k⟩) g q
theorem Inv.turned{t':Nat}{a:Addr}(I:Inv X pins σ H s)(k:∀b o,b≠a->s.heap.get? b=some o->h'.get? b=some o)(i:H a=none)(f:a≠X.env.locals)
 (y:a∈X.ex\/X.s₀.heap.objs.size<=a)(w:∀x c,X.env.cells.lookup x=some c->c≠a)(t:∀p∈X.pn++pins,p.1≠a):Inv X pins σ H {s with heap:=h',toks:=t'}:=by
 have g:∀b u,H b=some u->b≠a:=λb u e z=>by rw[z,i]at e;cases e
 refine I.step (g':=s.gens) (d':=s.drawn) (ch:=[a]) (λb l=>?_) (λb o _ _ d e _=>k b o (λz=>d (by simp[z])) e) (λb o _ _ d e _=>⟨o.slots,k b o (λz=>d (by simp[z])) e⟩) (λ_ _ _ _ n=>n)
  (λb o d e=>⟨o,k b o (λz=>d (by simp[z])) e⟩) (λ_ _ e=>e) (λ_ _ _ e=>e) (λb C e=>⟨#[],by rw[e];simp⟩) (λm j=>?_) (λb u e=>?_) I.bare
 .have e:b=a:=by simpa using l
  subst e;exact⟨y,f,w,t⟩
 .obtain⟨o,A,B,h,r⟩:=j;exact⟨o,A,B,k _ o (Mo f) h,r⟩
 .refine(I.hok b u e).stay (λc v d q=>k c v ?_ q) (λ_ q=>q) λ_ _ q=>q;rcases d with z|z
  .rw[z];exact g b u e
  .exact g c _ z
theorem Inv.tok(I:Inv X pins σ H s)(t:Nat):Inv X pins σ H {s with toks:=t}:=I.un (h':=s.heap) (t':=t) Un.refl I.hok
theorem Inv.kept{t':Nat}(I:Inv X pins σ H s)(k:∀b u,s.heap.get? b=some u->h'.get? b=some u):Inv X pins σ H {s with heap:=h',toks:=t'}:=I.un (Un.kept k) (I.hok.kept k)
theorem Inv.laid{a:Addr}{o:HO}{t':Nat}(I:Inv X pins σ H s)(k:∀b u,s.heap.get? b=some u->h'.get? b=some u)(d:s.heap.objs.size<=a)(c:bF X.prog X.w (upd H a o) h' a o):
 Inv X pins σ (upd H a o) {s with heap:=h',toks:=t'}:=I.un (Un.laid k d (I.hok.fresh d)) (I.hok.laid k d c)
theorem Inv.write{x e:Addr}{o:HO}{t':Nat}(I:Inv X pins σ H s)(c:QD (H x))(d:e=x\/H e=some (.own x))(k:∀b u,b≠e->s.heap.get? b=some u->h'.get? b=some u)(f:∃u,h'.get? e=some u)
 (a:bF X.prog X.w (upd H x o) h' x o):Inv X pins σ (upd H x o) {s with heap:=h',toks:=t'}:=I.un (Un.write c d k f) (I.hok.write c d k f a)
theorem Inv.kJ{a:List (Addr×Obj)}(I:Inv X pins σ H s)(h:∀p∈a,s.heap.get? p.1=some p.2/\H p.1=none/\p.1≠X.env.locals/\p.1∉X.fs/\∀v,p.2.data≠.cell v):Inv X a σ H s:=
 ⟨I.ok,I.os,I.bare,I.base,I.loc,I.cell,I.free,I.fX,λp b=>(GM.mp b).elim (λz=>I.pin p (P3 _ z)) (h p),I.hok,I.len⟩
theorem rW{N:List Str}(c:N.Nodup){i j:Nat}{x:Str}(a:N[i]?=some x)(b:N[j]?=some x):i=j:=by obtain⟨g,e⟩:=FS.mp a;obtain⟨f,d⟩:=FS.mp b;exact(List.getElem_inj c).mp (e.trans d.symm)
theorem oE{M:Model}{A:Around}{E:Value->Shared->Prop}{i:Nat}{x:Str}{v:V}{u:Value}{Q:Unit->Shared->Prop}(I:Inv X pins σ H s)(hN:X.N.Nodup)(P:X.N[i]?=some x)(B:Loc X.env.scope x)(r:RelV v u)
 (h:∀s',Inv X pins (σ.set i (some v)) H s'->(∃a,Heap.SameBut a s.heap s'.heap/\(a=X.env.locals\/X.env.cells.lookup x=some a))->Q () s')(hf:X.fn x=true\/X.env.scope.names.lookup x=some .local:=by first|exact .inl rfl|exact .inr rfl|assumption):wpAny M A (storeName X.env x u) Q E s:=by
 obtain⟨m,hn,hl⟩:=id I.loc;have R:(X.env.scope.kind==.class||(X.env.scope.kind==.module&&X.env.locals !=X.env.globals))=false:=by rw[I.ok.kind];rfl
 have Ni:i<σ.length:=by rw[I.len];exact(FS.mp P).1
 have IQ:=I.IQ;have g:∀{a:Addr}{h':Heap},(∃o,s.heap.get? a=some o/\H a=none)->Heap.SameBut a s.heap h'->iC X.prog X.w H h':=λ{a h'} ha f b ob e=>by
  obtain⟨_,_,C⟩:=ha;refine(I.hok b ob e).stay (λc U t q=>(f.2 c ?_).trans q) (λ_ q=>q) λ_ _ q=>q;rintro rfl;rcases t with rfl|t
  .rw[C]at e;cases e
  .rw[C]at t;cases t
 rcases B with G|G
 .refine wpAny_storeName_local G hn (λh' hn' f=>?_) R;obtain⟨oL,_,_,QI,_⟩:=id hn;refine h _ ⟨I.ok,I.os,I.bare,⟨λb o e n L B=>?_,λb o e n L B=>?_,I.base.free,λb o e B=>?_,I.base.tups,I.base.iE,I.base.ju⟩,⟨_,hn',λj y v' l D e3=>?_⟩,λy c e=>?_,I.free,I.fX,λp hp=>?_,g ⟨oL,QI,I.free⟩ f,by simpa using I.len⟩ ⟨_,f,.inl rfl⟩
  .exact(f.2 b (Ha (Gc (FK e) I.ok.above))).trans (I.base.keep b o e n L B)
  .obtain⟨sl,l⟩:=I.base.slot b o e n L B;exact⟨sl,(f.2 b (Ha (Gc (FK e) I.ok.above))).trans l⟩
  .obtain⟨o',l⟩:=I.base.there b o e B;exact⟨o',(f.2 b (Ha (Gc (FK e) I.ok.above))).trans l⟩
  .by_cases J:j=i
   .subst J;rw[P]at l;cases l;rw[KM Ni]at D;cases D;exact⟨u,r,.inl ⟨G,by simp⟩⟩
   .rw[FR (Mo J)]at D;obtain⟨u',r',q⟩:=hl j y v' l D e3;refine⟨u',r',?_⟩;rcases q with⟨k,e⟩|⟨k,c,e,z⟩
    .refine .inl ⟨k,?_⟩;have:y≠x:=λe=>J (rW hN l (e▸P));simp[this,e]
    .exact .inr ⟨k,c,e,z.sameBut f (IQ y c e)⟩
  .obtain⟨U,z⟩:=I.cell y c e;exact⟨U,z.sameBut f (IQ y c e)⟩
  .obtain⟨e,n,Y,nf,d⟩:=I.pin p hp;exact⟨(f.2 p.1 Y).trans e,n,Y,nf,d⟩
 .have K:X.fn x=true:=by
   rcases hf with z|z
   .exact z
   .rw[z]at G;cases G
  obtain⟨c,t⟩:=I.ok.has x (.inl G);obtain⟨U,z⟩:=I.cell x c t;refine wpAny_storeName_cell I.ok.kind G t z (λh' T f=>?_);obtain⟨oc,O,Rn⟩:=id z;refine h {s with heap:=h'} ⟨I.ok,I.os,I.bare,⟨λb o e n L B=>?_,λb o e n L B=>?_,I.base.free,λb o e B=>?_,I.base.tups,I.base.iE,I.base.ju⟩,⟨m,hn.sameBut f (Mo (IQ x c t)),λj y v' l D e3=>?_⟩,λy Z e=>?_,I.free,I.fX,λp hp=>?_,g ⟨oc,O,I.fX x c t⟩ f,by simpa using I.len⟩ ⟨c,f,.inr t⟩
  .exact(f.2 b (Ha (Gc (FK e) (I.ok.Nh x c K t)))).trans (I.base.keep b o e n L B)
  .obtain⟨sl,l⟩:=I.base.slot b o e n L B;exact⟨sl,(f.2 b (Ha (Gc (FK e) (I.ok.Nh x c K t)))).trans l⟩
  .obtain⟨o',l⟩:=I.base.there b o e B;exact⟨o',(f.2 b (Ha (Gc (FK e) (I.ok.Nh x c K t)))).trans l⟩
  .by_cases J:j=i
   .subst J;rw[P]at l;cases l;rw[KM Ni]at D;cases D;exact⟨u,r,.inr ⟨.inl G,c,t,T⟩⟩
   .rw[FR (Mo J)]at D;obtain⟨u',r',q⟩:=hl j y v' l D e3;refine⟨u',r',?_⟩;rcases q with q|⟨k,Z,e,z'⟩
    .exact .inl q
    .refine .inr ⟨k,Z,e,z'.sameBut f ?_⟩;rintro rfl;exact J (rW hN l (I.ok.inj _ _ _ e t▸P))
  .by_cases S:Z=c
   .subst S;exact⟨_,T⟩
   .obtain⟨w2,z2⟩:=I.cell y Z e;exact⟨w2,z2.sameBut f S⟩
  .obtain⟨e,n,Y,nf,d⟩:=I.pin p hp;refine⟨(f.2 p.1 ?_).trans e,n,Y,nf,d⟩;intro q;rw[q,O]at e;have q':oc=p.2:=He e;exact d U (by rw[<-q'];exact Rn)
theorem dB{M:Model}{A:Around}{E:Value->Shared->Prop}{i:Nat}{x:Str}{v:V}{u:Value}{Q:Unit->Shared->Prop}(I:Inv X pins σ H s)(d:X.N.Nodup)(b:X.N[i]?=some x)(a:Loc X.env.scope x)(r:RelV v u)
 (h:∀s',Inv X pins (σ.set i (some v)) H s'->Q () s')(c:X.fn x=true\/X.env.scope.names.lookup x=some .local:=by first|exact .inl rfl|exact .inr rfl|assumption):wpAny M A (storeName X.env x u) Q E s:=
 oE I d b a r (λs' e _=>h s' e) c
theorem Inv.G9{s':Shared}{ch:List Addr}(I:Inv X pins σ H s)(g:s'.os=s.os)(u:Un (frs X.stack) ch H H' s.heap s'.heap)(a:iC X.prog X.w H' s'.heap)(h:AllBare s'.gens)
 (d:∀b∈ch,(b∈X.ex\/X.s₀.heap.objs.size<=b)/\b≠X.env.locals/\(∀x c,X.env.cells.lookup x=some c->c≠b)/\∀p∈X.pn++pins,p.1≠b):Inv X pins σ H' s':=by
 obtain⟨h',g',d',t',f⟩:=s';have e:f=s.os:=g;subst e;exact I.call (g':=g') (t':=t') (d':=d') u a h d
end
abbrev XK:=Value->Option Addr->Hp->Prop
abbrev St:=List (Option V)
abbrev VK:=V->Hp->Prop
abbrev TE:=St->Hp->VK->Prop
abbrev TT:=St->Hp->(Bool->Hp->Prop)->Prop
abbrev TA:=St->Hp->(List V->Hp->Prop)->Prop
set_option genInjectivity false in
set_option genSizeOf false in
structure Ends where
 nx:St->Hp->Prop
 rt:VK
 bk:St->Hp->Prop:=λ_ _=>False
 ct:St->Hp->Prop:=λ_ _=>False
abbrev TS:=Ends->St->Hp->Prop
noncomputable def EP(X:Cx)(a:List (Addr×Obj))(c:St)(Q:VK)(u:Value)(s':Shared):Prop:=∃v b,Inv X a c b s'/\RelV v u/\Q v b
noncomputable def TP(X:Cx)(a:List (Addr×Obj))(d:St)(Q:Bool->Hp->Prop)(b:Bool)(s':Shared):Prop:=∃c,Inv X a d c s'/\Q b c
noncomputable def AP(X:Cx)(a:List (Addr×Obj))(d:St)(Q:List V->Hp->Prop)(e:List Value)(s':Shared):Prop:=∃b c,Inv X a d c s'/\Vals b e/\Q b c
noncomputable def SP(X:Cx)(b:List (Addr×Obj))(D:Ends)(f:Flow)(s':Shared):Prop:=
 match f with
 |.next=>∃a c,Inv X b a c s'/\D.nx a c
 |.brk=>∃a c,Inv X b a c s'/\D.bk a c
 |.cont=>∃a c,Inv X b a c s'/\D.ct a c
 |.ret u=>∃v a c,Inv X b a c s'/\RelV v u/\D.rt v c
noncomputable def PE(X:Cx)(e:Expr)(t:TE):Prop:=
 ∀(a:List (Addr×Obj))(s:Shared)(b:St)(H:Hp)(Q:VK),Inv X a b H s->t b H Q->wpAny (model X.prog X.w) X.A (eval e X.env) (EP X a b Q) X.xe s
noncomputable def PT(X:Cx)(e:Expr)(t:TT):Prop:=
 ∀(a:List (Addr×Obj))(s:Shared)(b:St)(H:Hp)(Q:Bool->Hp->Prop),Inv X a b H s->t b H Q->wpAny (model X.prog X.w) X.A (isTrue e X.env (eval e X.env)) (TP X a b Q) X.xe s
noncomputable def PW(X:Cx)(e:Expr)(t:TT):Prop:=
 ∀(b:Sem Value)(a:List (Addr×Obj))(s:Shared)(c:St)(H:Hp)(Q:Bool->Hp->Prop),Inv X a c H s->t c H Q->wpAny (model X.prog X.w) X.A (isTrue e X.env b) (TP X a c Q) X.xe s
theorem PW.pt{X:Cx}{e:Expr}{t:TT}(h:PW X e t):PT X e t:=h _
noncomputable def PA(X:Cx)(d:List Expr)(t:TA):Prop:=
 ∀(c:Pos)(a:List (Addr×Obj))(s:Shared)(b:St)(H:Hp)(Q:List V->Hp->Prop),Inv X a b H s->t b H Q->wpAny (model X.prog X.w) X.A (spliced (backTo c (starEach d X.env))) (AP X a b Q) X.xe s
noncomputable def PS(X:Cx)(st:Stmt)(t:TS):Prop:=
 ∀(a:List (Addr×Obj))(s:Shared)(b:St)(H:Hp)(D:Ends),Inv X a b H s->t D b H->wpAny (model X.prog X.w) X.A (exec st X.env) (SP X a D) X.xe s
noncomputable def rX(X:Cx)(st:List Stmt)(t:TS):Prop:=
 ∀(a:List (Addr×Obj))(s:Shared)(b:St)(H:Hp)(D:Ends),Inv X a b H s->t D b H->wpAny (model X.prog X.w) X.A (execs st X.env) (SP X a D) X.xe s
theorem aZ{α:Type}{t:Sem α}{Q b:α->Shared->Prop}{M:Model}{A:Around}{E:Value->Shared->Prop}{s:Shared}(h:wpAny M A t Q E s)(c:∀a s,Q a s->b a s):wpAny M A t b E s:=SF h c λ_ _ x=>x
section
variable{X:Cx}
theorem bin{a b:Expr}{ta k:TE}(t:PE X a ta)(r:PE X b k){c:List (Addr×Obj)}{s:Shared}{d:St}{H:Hp}{R:V->V->Hp->Prop}(I:Inv X c d H s)(h:ta d H λx H1=>k d H1 λy e=>R x y e)
 {α:Type}{Q:α->Shared->Prop}{f:Value->Value->Sem α}
 (q:∀v u j x y e,Inv X c d e j->RelV x v->RelV y u->R x y e->wpAny (model X.prog X.w) X.A (f v u) Q X.xe j):
 wpAny (model X.prog X.w) X.A (eval a X.env) (λv i=>wpAny (model X.prog X.w) X.A (eval b X.env) (λu g=>wpAny (model X.prog X.w) X.A (f v u) Q X.xe g) X.xe i) X.xe s:=by
 refine aZ (t c s d H _ I h) λv l ⟨x,H1,I1,n,p⟩=>?_;refine aZ (r c l d H1 _ I1 p) λu j ⟨y,e,z,m,o⟩=>?_;exact q v u j x y e z n m o
noncomputable def gW(i:Nat):TE:=λa H Q=>∃v,a[i]?=some (some v)/\Q v H
noncomputable def tC(v:V):TE:=λ_ H Q=>Q v H
theorem Ai{i:Nat}{x:Str}{pos:Pos}(w:X.N[i]?=some x)(o:IP X.env.scope x)(g:(x==("__debug__":Str))=false:=by decide)(j:(x==("__classdict__":Str))=false:=by decide):PE X (.Name x pos) (gW i):=by
 intro f s n H Q I h;obtain⟨v,e,h⟩:=h;obtain⟨m,p,t⟩:=I.loc;obtain⟨u,r,l⟩:=t i x v w e o;have d:EP X f n Q u s:=⟨v,H,I,r,h⟩;rcases l with⟨b,q⟩|⟨b,c,k,a⟩
 .exact wpAny_Name (wpAny_loadName_local I.ok.kind b p q d) g
 .rcases b with b|b
  .exact wpAny_Name (wpAny_loadName_cell I.ok.kind b k a d) g
  .exact wpAny_Name (wpAny_loadName_free I.ok.kind b k a d j) g
theorem Aj{i j pos}:PE X (.Constant (.int i) j pos) (tC (.int i)):=λ_ _ _ H _ I h=>wpAny_Constant_int ⟨.int i,H,I.tok _,⟨_,rfl⟩,h⟩
theorem Nj{b j pos}:PE X (.Constant (.bool b) j pos) (tC (.bl b)):=λ_ _ _ H _ I h=>Constant_bool ⟨.bl b,H,I,rfl,h⟩
theorem IT{j pos}:PE X (.Constant .none j pos) (tC .aM):=λ_ _ _ H _ I h=>Constant_none ⟨.aM,H,I,rfl,h⟩
theorem IU{x j pos}:PE X (.Constant (.str x) j pos) (tC (.str x)):=λ_ _ _ H _ I h=>Calls.Constant_str ⟨.str x,H,I.tok _,⟨_,rfl⟩,h⟩
noncomputable def Gl(X:Cx)(x:Str):Prop:=X.env.kindOf x=some .globalImplicit
theorem pN{E:Value->Shared->Prop}{a:List (Addr×Obj)}{s:Shared}{b:St}{H:Hp}{x:Str}{u:Value}{pos:Pos}{Q:Value->Shared->Prop}(I:Inv X a b H s)(d:Gl X x)(c:X.mg x=some u)(h:Q u s)
 (e:(x==("__debug__":Str))=false:=by decide):wpAny (model X.prog X.w) X.A (eval (.Name x pos) X.env) Q E s:=
 Calls.Name_function_global I.ok.kind d (Calls.loadGlobal_global (by rw[I.ok.glob];exact I.mod.glob.keeps I.bk) c h) e
theorem dD{E:Value->Shared->Prop}{a:List (Addr×Obj)}{s:Shared}{b:St}{H:Hp}{x:Str}{u:Value}{pos:Pos}{Q:Value->Shared->Prop}(I:Inv X a b H s)(f:Gl X x)(e:X.mg x=none)(c:bootBuiltins x=some u)(h:Q u s)
 (d:x≠"__name__":=by decide)(g:(x==("__debug__":Str))=false:=by decide):wpAny (model X.prog X.w) X.A (eval (.Name x pos) X.env) Q E s:=by
 obtain⟨k,j,i⟩:=I.mod.blt;exact Calls.Name_function_global I.ok.kind f (Calls.loadGlobal_builtin (by rw[I.ok.glob];exact I.mod.glob.keeps I.bk) e (by rw[I.ok.blt];exact j.keeps I.bk) ((i x d).trans c) h) g
theorem wk{x:Str}{v:V}{u:Value}{pos:Pos}(b:Gl X x)(a:X.mg x=some u)(r:RelV v u)(c:(x==("__debug__":Str))=false:=by decide):PE X (.Name x pos) (tC v):=
 λ_ _ _ H _ I h=>pN I b a ⟨v,H,I,r,h⟩ c
theorem DI{x:Str}{v:V}{u:Value}{pos:Pos}(d:Gl X x)(c:X.mg x=none)(a:bootBuiltins x=some u)(r:RelV v u)(b:x≠"__name__":=by decide)(e:(x==("__debug__":Str))=false:=by decide):PE X (.Name x pos) (tC v):=
 λ_ _ _ H _ I h=>dD I d c a ⟨v,H,I,r,h⟩ b e
variable{a b:Expr}{ta tb:TE}{pos:Pos}
noncomputable def tB(t:TE):TT:=λd H Q=>t d H λx e=>∃c,x=.bl c/\Q c e
theorem IV{e:Expr}{t:TE}(h:PE X e t)(l:∀c,isTrue e X.env c=(do let v<-c;standAt e.pos;holding [v] (truthy v)):=by intro _;rfl):PT X e (tB t):=by intro f s g H Q I k;refine isTrue_plain (aZ (h f s g H _ I k) λv n ⟨x,m,I1,i,j⟩=>?_) (l _);obtain⟨d,rfl,q⟩:=j;cases i;exact Pl ⟨m,I1,q⟩
variable{tA QJ:TT}{rest:List Expr}
noncomputable def Ro(t u:TT):TT:=λd H Q=>t d H λc e=>if c=true then u d e Q else Q false e
noncomputable def UT(t u:TT):TT:=λd H Q=>t d H λc e=>if c=true then Q true e else u d e Q
noncomputable def Rp(t:TT):TT:=λd H Q=>t d H λc e=>Q (!c) e
theorem DJ(g:PT X a tA):PW X (.BoolOp .And [a] pos) tA:=by
 intro i d s f H Q I h;refine isTrue_and (aZ (g d s f H Q I h) λc j e=>?_);cases c with
 |true=>exact isTrue_and_nil e
 |false=>exact e
theorem IX(g:PT X a tA):PW X (.BoolOp .Or [a] pos) tA:=by
 intro i d s f H Q I h;refine isTrue_or (aZ (g d s f H Q I h) λc j e=>?_);cases c with
 |false=>exact isTrue_or_nil e
 |true=>exact e
theorem IY(l:PT X a tA)(k:PW X (.BoolOp .And (b::rest) pos) QJ):PW X (.BoolOp .And (a::b::rest) pos) (Ro tA QJ):=by
 intro i d s e H Q I h;refine isTrue_and (aZ (l d s e H _ I h) λc j ⟨g,I1,f⟩=>?_);cases c with
 |true=>exact k i d j e g Q I1 f
 |false=>exact⟨g,I1,f⟩
theorem Nk(l:PT X a tA)(k:PW X (.BoolOp .Or (b::rest) pos) QJ):PW X (.BoolOp .Or (a::b::rest) pos) (UT tA QJ):=by
 intro i d s e H Q I h;refine isTrue_or (aZ (l d s e H _ I h) λc j ⟨g,I1,f⟩=>?_);cases c with
 |true=>exact⟨g,I1,f⟩
 |false=>exact k i d j e g Q I1 f
theorem IZ(f:PT X a tA):PT X (.UnaryOp .Not a pos) (Rp tA):=by intro d s e H Q I h;exact isTrue_not (f d s e H (λc g=>Q (!c) g) I h)
noncomputable def Nl(ta tb:TE):TE:=λd H Q=>ta d H λx e=>∃c,x=.bl c/\if c=true then tb d e Q else Q (.bl false) e
noncomputable def Rq(ta tb:TE):TE:=λd H Q=>ta d H λx e=>∃c,x=.bl c/\if c=true then Q (.bl true) e else tb d e Q
noncomputable def Nm(ta:TE):TE:=λd H Q=>ta d H λx e=>∃c,x=.bl c/\Q (.bl (!c)) e
theorem Ak{op}{t:TE}(h:PE X a t):PE X (.BoolOp op [a] pos) t:=λc s d H Q I e=>BoolOp_one (h c s d H Q I e)
theorem I0(l:PE X a ta)(k:PE X (.BoolOp .And (b::rest) pos) tb):PE X (.BoolOp .And (a::b::rest) pos) (Nl ta tb):=by
 intro d s f H Q I h;refine BoolOp_and (aZ (l d s f H _ I h) λv i ⟨x,g,I1,j,e⟩=>?_);obtain⟨c,rfl,e⟩:=e;cases j;refine Pl ?_;cases c with
 |true=>exact k d i f g Q I1 e
 |false=>exact⟨.bl false,g,I1,rfl,e⟩
theorem Nn(l:PE X a ta)(k:PE X (.BoolOp .Or (b::rest) pos) tb):PE X (.BoolOp .Or (a::b::rest) pos) (Rq ta tb):=by
 intro d s f H Q I h;refine BoolOp_or (aZ (l d s f H _ I h) λv i ⟨x,g,I1,j,e⟩=>?_);obtain⟨c,rfl,e⟩:=e;cases j;refine Pl ?_;cases c with
 |false=>exact k d i f g Q I1 e
 |true=>exact⟨.bl true,g,I1,rfl,e⟩
theorem Ja(i:PE X a ta):PE X (.UnaryOp .Not a pos) (Nm ta):=by intro d s f H Q I h;refine UnaryOp_ (aZ (i d s f H _ I h) λv k ⟨x,j,I1,g,e⟩=>?_);obtain⟨c,rfl,e⟩:=e;cases g;exact not_of (Pl ⟨.bl (!c),j,I1,rfl,e⟩)
end
noncomputable def dU(K:Frag)(H:Hp)(a:Addr)(c:List V):Prop:=
 Rd H a (.lst c)\/
  ∃(o:Obj)(b:Array Value)(n:Nat),K.lookup a=some o/\o.cls=.type "list"/\o.dict=none/\o.data=.seq b n/\b.size<=sizeLine/\Vals c b.toList
noncomputable def gJ(K:Frag)(H:Hp)(a:Addr)(c:List V):Prop:=
 Rd H a (.tup c)\/
  ∃(o:Obj)(b:Array Value)(n:Nat),K.lookup a=some o/\o.cls=.type "tuple"/\o.data=.seq b n/\b.size<=sizeLine/\Vals c b.toList
noncomputable def Rr:Value->Option V
 |.none=>some .aM
 |.bool b=>some (.bl b)
 |.int i _=>some (.int i)
 |.str x _=>some (.str x)
 |.bytes b _=>some (.zX b)
 |.float b _=>some (.IL b)
 |.ref a=>some (.ref a)
 |.type n=>some (.ty n)
 |_=>none
theorem RelV.abs{x:V}{u:Value}(r:RelV x u):Rr u=some x:=by
 cases x with
 |aM=>cases r;rfl
 |bl _=>cases r;rfl
 |int _=>obtain⟨t,rfl⟩:=r;rfl
 |str _=>obtain⟨t,rfl⟩:=r;rfl
 |zX _=>obtain⟨t,rfl⟩:=r;rfl
 |IL _=>obtain⟨t,rfl⟩:=r;rfl
 |ref _=>cases r;rfl
 |ty _=>cases r;rfl
theorem RelV.inj{x y:V}{u:Value}(r:RelV x u)(q:RelV y u):x=y:=He (r.abs.symm.trans q.abs)
theorem Vals.inj:∀{b a:List V}{c:List Value},Vals b c->Vals a c->b=a
 |_,_,_,.nil,.nil=>rfl
 |_,_,_,.cons r t,.cons d t'=>by rw[r.inj d,Vals.inj t t']
section
variable{X:Cx}{pins:List (Addr×Obj)}{σ:St}{H:Hp}{s:Shared}{a:Addr}{xs ys:List V}
theorem dU.of{K:Frag}(h:H a=some (.lst xs)):dU K H a xs:=.inl (.inl h)
theorem gJ.of{K:Frag}(h:H a=some (.tup xs)):gJ K H a xs:=.inl (.inl h)
theorem Inv.list(I:Inv X pins σ H s)(h:dU X.K H a xs):∃b:List Value,Vals xs b/\PlainL s.heap a b.toArray/\xs.length<=sizeLine:=by
 rcases h with h|⟨o,b,n,d,g,f,c,hz,r⟩
 .obtain⟨z,b,n,r,e⟩:=h.ok I.hok;exact⟨b,r,⟨_,n,e,rfl,rfl,rfl⟩,z⟩
 .refine⟨b.toList,r,⟨o,n,I.lC a o d,g,f,by simpa using c⟩,?_⟩;have e:=r.length;simp only[JJ]at e;lia
theorem Inv.tuple(I:Inv X pins σ H s)(h:gJ X.K H a xs):∃b:List Value,Vals xs b/\IsTup s.heap a b.toArray/\xs.length<=sizeLine:=by
 rcases h with h|⟨o,b,n,d,f,c,hz,r⟩
 .obtain⟨z,b,r,p⟩:=h.ok I.hok;exact⟨b,r,p,z⟩
 .refine⟨b.toList,r,⟨o,I.lC a o d,f,n,by simpa using c⟩,?_⟩;have e:=r.length;simp only[JJ]at e;lia
theorem Inv.lD(I:Inv X pins σ H s)(h:dU X.K H a xs)(h':dU X.K H a ys):xs=ys:=by
 obtain⟨c,r,⟨o,n,e,_,_,d⟩,_⟩:=I.list h;obtain⟨b,i,⟨j,k,f,_,_,g⟩,_⟩:=I.list h';rw[e]at f;cases f;rw[d]at g;injection g with d1 _;have:c=b:=by simpa using GT Yq d1
 subst this;exact r.inj i
theorem Inv.yt(I:Inv X pins σ H s)(h:gJ X.K H a xs)(h':gJ X.K H a ys):xs=ys:=by
 obtain⟨c,r,⟨o,e,_,n,d⟩,_⟩:=I.tuple h;obtain⟨b,i,⟨j,f,_,k,g⟩,_⟩:=I.tuple h';rw[e]at f;cases f;rw[d]at g;injection g with d1 _;have:c=b:=by simpa using GT Yq d1
 subst this;exact r.inj i
end
abbrev Cx.nT(X:Cx)(E:Value->Shared->Prop):Cx:={X with xe:=E}
abbrev Cx.eN(X:Cx):Cx:=X.nT λ_ _=>False
theorem Cx.Ok.nT{X:Cx}(a:X.Ok)(E:Value->Shared->Prop):(X.nT E).Ok:=
 ⟨a.mod,a.kind,a.glob,a.blt,a.above,a.inj,a.has,a.Nh,a.hd,a.frames,a.stk,a.Rj,a.bs,a.Du,a.Ag,a.Ah,a.jv,a.G6,a.tree,a.QG⟩
theorem Cx.Ok.fY{X:Cx}{E:Value->Shared->Prop}(a:(X.nT E).Ok):X.Ok:=
 ⟨a.mod,a.kind,a.glob,a.blt,a.above,a.inj,a.has,a.Nh,a.hd,a.frames,a.stk,a.Rj,a.bs,a.Du,a.Ag,a.Ah,a.jv,a.G6,a.tree,a.QG⟩
section
variable{X:Cx}{pins:List (Addr×Obj)}{σ:St}{H:Hp}{s:Shared}{E:Value->Shared->Prop}
theorem Inv.nT(I:Inv X pins σ H s)(E:Value->Shared->Prop):Inv (X.nT E) pins σ H s:=⟨I.ok.nT E,I.os,I.bare,I.base,I.loc,I.cell,I.free,I.fX,I.pin,I.hok,I.len⟩
theorem Inv.fY(I:Inv (X.nT E) pins σ H s):Inv X pins σ H s:=⟨I.ok.fY,I.os,I.bare,I.base,I.loc,I.cell,I.free,I.fX,I.pin,I.hok,I.len⟩
theorem SP.fY{D:Ends}{f:Flow}{s':Shared}(h:SP (X.nT E) pins D f s'):SP X pins D f s':=by
 cases f with
 |next=>obtain⟨a,b,I,q⟩:=h;exact⟨a,b,I.fY,q⟩
 |brk=>obtain⟨a,b,I,q⟩:=h;exact⟨a,b,I.fY,q⟩
 |cont=>obtain⟨a,b,I,q⟩:=h;exact⟨a,b,I.fY,q⟩
 |ret u=>obtain⟨v,a,b,I,r,q⟩:=h;exact⟨v,a,b,I.fY,r,q⟩
end
section
variable{X:Cx}{st:Stmt}{rest:List Stmt}{t u:TS}{e:Expr}{te:TE}{pos:Pos}
noncomputable def Np:TS:=λD a H=>D.nx a H
noncomputable def Rt(t u:TS):TS:=λD a H=>t {D with nx:=u D} a H
theorem DK:rX X [] Np:=λ_ _ a H _ I h=>wpAny_execs_nil ⟨a,H,I,h⟩
theorem rY(i:PS X st t)(g:rX X rest u):rX X (st::rest) (Rt t u):=by
 intro a s c H D I h;refine wpAny_execs_cons (aZ (i a s c H {D with nx:=u D} I h) λf d q=>?_);cases f with
 |next=>obtain⟨b,k,j,q⟩:=q;exact g a d b k D j q
 |ret v=>exact q
 |brk=>exact q
 |cont=>exact q
theorem iG(c:PS X st t):rX X [st] t:=by
 intro a s b H D I h;refine wpAny_execs_cons (aZ (c a s b H D I h) λf d q=>?_);cases f with
 |next=>exact wpAny_execs_nil q
 |ret v=>exact q
 |brk=>exact q
 |cont=>exact q
noncomputable def Jb:TS:=λD a H=>D.bk a H
theorem Al:PS X (.Break pos) Jb:=λ_ _ a H _ I h=>wpAny_Break ⟨a,H,I,h⟩
theorem Inv.quiet{a:List (Addr×Obj)}{b:St}{H:Hp}{s:Shared}(I:Inv X a b H s):interactive X.env=false:=by simp[interactive,I.ok.kind]
noncomputable def rZ(te:TE):TS:=λD a H=>te a H λ_ b=>D.nx a b
theorem kK(f:PE X e te)(d:swapsWith e none pos.line X.env=pure false:=by rfl):PS X (.Expr e pos) (rZ te):=by intro a s b H D I h;exact wpAny_Expr_any (aZ (f a s b H _ I h) λv i ⟨x,g,I1,j,c⟩=>⟨b,g,I1,c⟩) I.quiet d
noncomputable def Ru(te:TE):TS:=λD a H=>te a H D.rt
theorem pO(f:PE X e te):PS X (.Return (some e) pos) (Ru te):=by intro a s b H D I h;exact wpAny_Return_some (aZ (f a s b H _ I h) λv i ⟨x,g,I1,c,d⟩=>⟨x,b,g,I1,c,d⟩)
noncomputable def Nq:TS:=λD _ H=>D.rt .aM H
theorem DM:PS X (.Return none pos) Nq:=λ_ _ a H _ I h=>wpAny_Return_none ⟨.aM,a,H,I,rfl,h⟩
noncomputable def Rv(c:TT)(t u:TS):TS:=λD a H=>c a H λb d=>if b=true then t D a d else u D a d
theorem Nr{c:Expr}{a b:List Stmt}{tc:TT}(l:PT X c tc)(n:rX X a t)(m:rX X b u):PS X (.If c a b pos) (Rv tc t u):=by
 intro f s g H D I h;refine wpAny_If (aZ (l f s g H _ I h) λd i ⟨k,I1,j⟩=>?_);cases d with
 |true=>exact n f i g k D I1 j
 |false=>exact m f i g k D I1 j
end
abbrev TG:=V->St->Hp->(St->Hp->Prop)->Prop
abbrev Hf:=List V->St->Hp->(St->Hp->Prop)->Prop
noncomputable def PG(X:Cx)(a:Expr)(t:TG):Prop:=
 ∀(b:List (Addr×Obj))(s:Shared)(d:St)(H:Hp)(v:V)(u:Value)(Q:St->Hp->Prop),Inv X b d H s->RelV v u->t v d H Q->
  wpAny (model X.prog X.w) X.A (assign a X.env u) (λ_ f=>∃c e,Inv X b c e f/\Q c e) X.xe s
noncomputable def Nt(X:Cx)(g:List Expr)(t:Hf):Prop:=
 ∀(a:List (Addr×Obj))(s:Shared)(c:St)(H:Hp)(d:List V)(e:List Value)(Q:St->Hp->Prop),Inv X a c H s->Vals d e->t d c H Q->
  wpAny (model X.prog X.w) X.A (assignInOrder ((assignEach g X.env).map (·.2)) e) (λ_ h=>∃b f,Inv X a b f h/\Q b f) X.xe s
abbrev Jc:=V->V->V->Hp->(Hp->Prop)->Prop
noncomputable def Nu(X:Cx)(t:Jc):Prop:=
 ∀(a:List (Addr×Obj))(s:Shared)(b:St)(H:Hp)(o i v:V)(c d u:Value)(Q:Hp->Prop),Inv X a b H s->RelV o c->RelV i d->RelV v u->t o i v H Q->
  wpAny (model X.prog X.w) X.A (setItem c d u) (λ_ f=>∃e,Inv X a b e f/\Q e) X.xe s
section
variable{X:Cx}{pos:Pos}
noncomputable def c6(i:Nat):TG:=λv a H Q=>Q (a.set i (some v)) H
theorem wm{i:Nat}{x:Str}(e:X.N.Nodup)(c:X.N[i]?=some x)(b:Loc X.env.scope x)(d:X.fn x=true\/X.env.scope.names.lookup x=some .local:=by first|exact .inl rfl|exact .inr rfl|assumption):PG X (.Name x pos) (c6 i):=by intro a s g H v u Q I r h;exact wpAny_assign_Name (dB I e c b r (λj f=>⟨_,H,f,h⟩) d)
noncomputable def Nv:Hf:=λb a H Q=>b=[]/\Q a H
noncomputable def Hg(t:TG)(u:Hf):Hf:=λc b H Q=>∃v r,c=v::r/\t v b H λa d=>u r a d Q
theorem DN:Nt X [] Nv:=by intro a s b H c d Q I r h;obtain⟨e,h⟩:=h;subst e;cases r;exact assignInOrder_nil ⟨b,H,I,h⟩
theorem Am{e:Expr}{b:List Expr}{t:TG}{u:Hf}(l:PG X e t)(k:Nt X b u)
 (j:(assignEach (e::b) X.env).map (·.2)=assign e X.env::(assignEach b X.env).map (·.2):=by rfl):Nt X (e::b) (Hg t u):=by
 intro a s d H o q Q I r h;obtain⟨v,p,m,h⟩:=h;subst m;cases r with
 |cons r g=>rw[j];refine X9 (aZ (l a s d H _ _ _ I r h) λ_ f ⟨c,n,I1,i⟩=>?_);exact k a f c n _ _ Q I1 g i
noncomputable def Jd(K:Frag)(n:Nat)(t:Hf):TG:=λv c H Q=>∃a b,v=.ref a/\gJ K H a b/\b.length=n/\t b c H Q
theorem Je{d:List Expr}{k:Nat}{t:Hf}{n:Nat}(y:X.calm=true)(h:Nt X d t)
 (w:(assignEach d X.env).length=n:=by rfl)(g:(assignEach d X.env).findIdx? (·.1)=none:=by rfl):PG X (.Tuple d k pos) (Jd X.K n t):=by
 intro c s i H v u Q I r f;obtain⟨a,j,A,q,x,f⟩:=f;subst A;cases r;obtain⟨l,rv,p,hz⟩:=I.tuple q;refine assign_Tuple_tuple (I.ok.hd y) p (by simp[w,<-x,rv.length]) g λz m=>?_;have I1:Inv X c i H {s with heap:=z}:=I.kept (t':=s.toks) λb o e=>m b o (Ha (FK e)) e;exact h c _ i H j _ Q I1 (by simpa using rv) f
noncomputable def Nx(b ti:TE)(t:Jc):TG:=λv a H Q=>b a H λo e=>ti a e λi d=>t o i v d λc=>Q a c
theorem Jf{o i:Expr}{e ti:TE}{t:Jc}(q:PE X o e)(w:PE X i ti)(p:Nu X t)
 (z:∀v,assign (.Subscript o i pos) X.env v=(do
   let b<-holding [v] (eval o X.env)
   let c<-holding [v,b] (eval i X.env)
   standAt pos
   holding [v,b,c] (setItem b c v)
   release [v,b,c] []):=by intro _;rfl):PG X (.Subscript o i pos) (Nx e ti t):=by
 intro a s d H v u Q I r h;rw[z];refine FC (YG (aZ (q a s d H _ I h) λb g ⟨x,E,I1,k,n⟩=>?_));refine FC (YG (aZ (w a g d E _ I1 n) λc f ⟨y,D,B,j,m⟩=>?_));refine FC (YF (FC (YG (aZ (p a f d D x y v b c u _ B k j r m) λ_ G ⟨C,A,l⟩=>?_))));exact wpAny_release ⟨d,C,A,l⟩
noncomputable def jw(te:TE)(g:TG):TS:=λD a H=>te a H λx b=>g x a b D.nx
theorem An{tg e:Expr}{te:TE}{g:TG}(l:PE X e te)(k:PG X tg g)(j:swapsWithSole [tg] e pos.line X.env=pure false:=by rfl)(i:swappedStores [tg] e X.env=pure none:=by rfl)
 (m:(assignEach [tg] X.env).map (·.2)=[assign tg X.env]:=by rfl):PS X (.Assign [tg] e pos) (jw te g):=by
 intro a s b H D I h;refine wpAny_Assign_stores (aZ (l a s b H _ I h) λv c ⟨x,n,I1,d,f⟩=>?_) j i;rw[m];exact aZ (k a c b n x v _ I1 d f) λ_ o q=>q
theorem lE{i:Nat}{x:Str}{e:Expr}{te:TE}{a:Pos}(n:X.N.Nodup)(k:X.N[i]?=some x)(g:Loc X.env.scope x)(m:PE X e te)(j:swapsWith e (some (.Name x a)) pos.line X.env=pure false:=by rfl)(l:X.fn x=true\/X.env.scope.names.lookup x=some .local:=by first|exact .inl rfl|exact .inr rfl|assumption):
 PS X (.Assign [.Name x a] e pos) (jw te (c6 i)):=by
 intro b s c H D I h;refine wpAny_Assign_Name (aZ (m b s c H _ I h) λv r ⟨y,p,I1,d,f⟩=>?_) j;exact dB I1 n k g d (λq o=>⟨_,p,o,f⟩) l
noncomputable def Rw(i j:Nat)(ta:TA):TS:=λD a H=>ta a H λb c=>∃v w,b=[v,w]/\D.nx ((a.set i (some v)).set j (some w)) c
theorem Jg{i j:Nat}{x y:Str}{a b:Expr}{ta:TA}{n m r:Pos}{t k2 B}(Y:X.calm=true)(J:X.N.Nodup)(U:X.N[i]?=some x)(T:X.N[j]?=some y)(z:i≠j)
 (G:X.env.scope.names.lookup x=some .local)(E:X.env.scope.names.lookup y=some .local)(Z:PA X [a,b] ta)
 (R:swappedStores [.Tuple [.Name x n,.Name y m] t r] (.Tuple [a,b] k2 B) X.env=pure (some [x,y]))
 (S:swapsWithSole [.Tuple [.Name x n,.Name y m] t r] (.Tuple [a,b] k2 B) pos.line X.env=pure false:=by rfl):
 PS X (.Assign [.Tuple [.Name x n,.Name y m] t r] (.Tuple [a,b] k2 B) pos) (Rw i j ta):=by
 intro c s C H D I h;rw[exec_Assign_arm];refine FC (YF ?_);rw[S];refine FC (Kb ?_);rw[Bn (by decide)];refine FC (Tuple_ (aZ (Z _ c s C H _ I h) λM g ⟨vs,L,I1,O,l⟩=>?_));obtain⟨v,w,e1,l⟩:=l;subst e1;obtain⟨f,d,rfl,rv,k⟩:∃f d,M=[f,d]/\RelV v f/\RelV w d:=by
  cases O with
  |cons p q=>
   cases q with
   |cons Q P=>
    cases P;exact⟨_,_,rfl,p,Q⟩
 refine wpAny_newObj_type ?_ (by show 2<=sizeLine;decide);have I2:Inv X c C L {g with heap:=g.heap.push {cls:=.type "tuple",data:=.seq [f,d].toArray}}:=I1.kept (t':=g.toks) λb o e=>D1 _ e;rw[R];refine FC (Kb ?_);show wpAny (model X.prog X.w) X.A (do rule "assign.swapped-stores";let items<-unpackItems (.ref g.heap.objs.size) 2 none;assignInOrder [λv=>bindName X.env y v,λv=>bindName X.env x v] items.reverse;pure Flow.next) _ _ _;refine FC (wpAny_rule (FC (unpackItems_tuple (items:= #[f,d]) (I.ok.hd Y) (IsTup.new g.heap _) λh' u=>?_)));have I3:=I2.kept (h':=h') (t':=g.toks) λb o e=>u b o (Ha (FK e)) e;show wpAny _ _ (assignInOrder [λv=>bindName X.env y v,λv=>bindName X.env x v] [d,f]>>=λ_=>pure Flow.next) _ _ _;refine FC (X9 (YV (dB I3 J T (.inl E) k (λs2 I4=>?_) (.inr E))));refine X9 (YV (dB I4 J U (.inl G) rv (λs3 K=>assignInOrder_nil (Kb ?_)) (.inr G)));rw[SB _ _ (Mo z)]at K;exact⟨_,L,K,l⟩
noncomputable def Jh(c:TT)(h:TS):TS:=λD a H=>∃W:Nat->St->Hp->Prop,(∃m,W m a H)/\∀m a H,W m a H->
 c a H λb f=>if b=true then∃N:St->Hp->Prop,(∀d g,N d g->∃e,e<m/\W e d g)/\h {D with nx:=N,ct:=N,bk:=D.nx} a f else D.nx a f
theorem Ao{c:Expr}{g:List Stmt}{tc:TT}{u:TS}(x:PassesOwn (model X.prog X.w) X.A X.env X.xe)(Q:PT X c tc)(R:rX X g u):PS X (.While c g [] pos) (Jh tc u):=by
 intro d s G H D I h;obtain⟨W,⟨P,K⟩,j⟩:=h;refine wpAny_While (codeAny_whileLoop (λn O=>∃i E,Inv X d i E O/\W n i E) ?_ P ⟨G,H,I,K⟩);rintro n M ⟨e,C,I1,J⟩;refine X6 x (aZ (Q d M e C _ I1 (j n e C J)) λb L ⟨B,z,m⟩=>?_);cases b with
 |true=>
  obtain⟨N,y,m⟩:=m;rw[Bz rfl];refine X6 x (aZ (R d L e B _ z m) λf S l=>?_);cases f with
  |next=>obtain⟨a,k,t,p⟩:=l;obtain⟨q,r,o⟩:=y a k p;exact⟨q,r,a,k,t,o⟩
  |cont=>obtain⟨a,k,t,p⟩:=l;obtain⟨q,r,o⟩:=y a k p;exact⟨q,r,a,k,t,o⟩
  |brk=>exact l
  |ret v=>exact l
 |false=>rw[Bn Hk];exact wpAny_execs_nil ⟨e,B,z,m⟩
end
set_option genInjectivity false in
set_option genSizeOf false in
structure It where
 go:Nat->Hp->Prop
 Ny:Nat->Hp->V->Hp->Prop
 stop:Nat->Hp->Prop
noncomputable def dF(X:Cx)(a:List (Addr×Obj))(H:Hp)(b:Addr):Prop:=
 H b=none/\b≠X.env.locals/\b∉X.fs/\(b∈X.ex\/X.s₀.heap.objs.size<=b)/\(∀x c,X.env.cells.lookup x=some c->c≠b)/\∀p∈X.pn++a,p.1≠b
theorem Inv.lF{X:Cx}{a:List (Addr×Obj)}{f:St}{H H':Hp}{s:Shared}{b:Addr}(I:Inv X a f H s)(d:s.heap.objs.size<=b)(h:H' b=none):dF X a H' b:=by
 refine⟨h,Yc (Gc I.lt d),I.Rk d,.inr (IH I.sz d),λx c e z=>?_,λp g z=>?_⟩
 .obtain⟨v,q⟩:=I.cell x c e;exact absurd (Gc q.lt (by rw[z];exact d)) (Nw _)
 .exact absurd (Gc (FK (I.pin p g).1) (by rw[z];exact d)) (Nw _)
structure Turn(P:Program)(w:World)(K:Frag)(tg:Expr)(J:It)(fp:List Addr)(it:Addr)(tn:Nat->Heap->Prop):Prop where
 mem:it∈fp
 obj:∀i h,tn i h->∀b∈fp,∃o,h.get? b=some o/\∀v,o.data≠.cell v
 keep:∀i h h',tn i h->(∀b∈fp,∀o,h.get? b=some o->h'.get? b=some o)->tn i h'
 item:∀(X:Cx),X.prog=P->X.w=w->X.K=K->X.calm=true->∀(i:Nat)(pins:List (Addr×Obj))(s:Shared)(σ:St)(H:Hp)(E:Value->Shared->Prop),Inv X pins σ H s->(∀b∈fp,dF X pins H b)->tn i s.heap->J.go i H->
  wpAny (model P w) X.A (pyNext (.ref it)) (λr s1=>∃u,r=some u/\
   wpAny (model P w) X.A (letOwnedTupleGo tg (.ref it) u) (λ_ s2=>∃x H',Inv X pins σ H' s2/\RelV x u/\J.Ny i H x H'/\tn (i+1) s2.heap/\∀b∈fp,H' b=none) E s1) E s
 done:∀(X:Cx),X.prog=P->X.w=w->X.K=K->X.calm=true->∀(i:Nat)(pins:List (Addr×Obj))(s:Shared)(σ:St)(H:Hp)(E:Value->Shared->Prop),Inv X pins σ H s->(∀b∈fp,dF X pins H b)->tn i s.heap->J.stop i H->
  wpAny (model P w) X.A (pyNext (.ref it)) (λr s1=>r=none/\Inv X pins σ H s1) E s
 self:∀(A:Around)(i:Nat)(s:Shared)(Q:Value->Shared->Prop)(E:Value->Shared->Prop),tn i s.heap->Q (.ref it) s->wpAny (model P w) A (pyIter (.ref it)) Q E s
abbrev TI:=St->Hp->(It->Hp->Prop)->Prop
noncomputable def Rx(X:Cx)(a:List (Addr×Obj))(i:St)(tg:Expr)(R:It->Hp->Prop)(c:Value)(f:Shared):Prop:=
 ∃(g:Addr)(h:List Addr)(e:Nat->Heap->Prop)(J:It)(d:Hp),c=.ref g/\Inv X a i d f/\Turn X.prog X.w X.K tg J h g e/\e 0 f.heap/\(∀b∈h,dF X a d b)/\R J d
noncomputable def PI(X:Cx)(tg b:Expr)(d:TI):Prop:=
 ∀(a:List (Addr×Obj))(s:Shared)(c:St)(H:Hp)(R:It->Hp->Prop),Inv X a c H s->d c H R->
  wpAny (model X.prog X.w) X.A (eval b X.env) (λv e=>wpAny (model X.prog X.w) X.A (pyIter v) (Rx X a c tg R) X.xe e) X.xe s
theorem r6{M:Model}{A:Around}{E:Value->Shared->Prop}{s:Shared}{tg:Expr}{b:Addr}{u:Value}{o:Obj}{n:String}{vs:Array Value}{Q:Unit->Shared->Prop}(c:s.heap.get? b=some o)(f:o.cls=.type n)(e:o.data=.fields vs)
 (d:["enumerate","zip","dict_itemiterator","dict_reverseitemiterator","odict_iterator","itertools.zip_longest","itertools.pairwise"].contains n=false)(a:Q () s):wpAny M A (letOwnedTupleGo tg (.ref b) u) Q E s:=by
 unfold letOwnedTupleGo;cases tg<;>first
  |exact Kb a
  |(cases u<;>first
     |exact Kb a
     |(refine FC (wpAny_load c ?_)
       rw[f,e];show wpAny M A (if(["enumerate","zip","dict_itemiterator","dict_reverseitemiterator","odict_iterator","itertools.zip_longest","itertools.pairwise"].contains n&&vs[0]?==some (rawInt _))=true then _ else _) Q E s;rw[Bn (by intro h;rw[d,Bool.false_and]at h;cases h)];exact Kb a))
noncomputable def QK(K:Frag)(a:Addr):It:=
 ⟨λi H=>∃b x,dU K H a b/\b[i]?=some x,λi H x c=>c=H/\∀b,dU K H a b->b[i]?=some x,λi H=>∃b,dU K H a b/\b.length<=i⟩
noncomputable def Ry(K:Frag)(a:Addr):It:=
 ⟨λi H=>∃b x,gJ K H a b/\b[i]?=some x,λi H x c=>c=H/\∀b,gJ K H a b->b[i]?=some x,λi H=>∃b,gJ K H a b/\b.length<=i⟩
noncomputable def Nz(a:Int)(n:Nat):It:=⟨λi _=>i<n,λi H x b=>b=H/\x=.int (a+i),λi _=>n<=i⟩
theorem oF{P:Program}{w:World}{K:Frag}{tg:Expr}(a j:Addr):Turn P w K tg (QK K a) [j] j (λi h=>h.IsListIter j a i)where
 mem:=by simp
 obj:=λi h f b l=>by
  have e:b=j:=by simpa using l
  subst e;obtain⟨o,e,c,d⟩:=f;exact⟨o,e,λv z=>by rw[d]at z;cases z⟩
 keep:=λi h r f k=>f.at λo e=>k j (by simp) o e
 item:=by intro X C A D Q i g s O H E I q f B;subst C A D;obtain⟨R,x,n,y⟩:=B;obtain⟨t,rv,p,hz⟩:=I.list n;obtain⟨u,Y,T⟩:=rv.get y;obtain⟨N,M,Z,L,J,G⟩:=q j (by simp);refine wpAny_pyNext_list_item f p.isList (x:=u) (by simpa using Y) λr m S=>?_;have I1:Inv X g O H {s with heap:=r}:=I.turned (t':=s.toks) (λb o l e=>(S.2 b l).trans e) N M L J G;obtain⟨o,e,c,d⟩:=id m;exact⟨u,rfl,r6 (s:={s with heap:=r}) e c d (by decide) ⟨x,H,I1,T,⟨rfl,λys U=>by rw[I.lD U n];exact y⟩,m,λb l=>(q b l).1⟩⟩
 done:=by intro X C A D Q i g s O H E I q f B;subst C A D;obtain⟨R,n,y⟩:=B;obtain⟨t,rv,p,hz⟩:=I.list n;obtain⟨N,M,Z,L,J,G⟩:=q j (by simp);have hl:=rv.length;exact wpAny_pyNext_list_end (I.ok.hd Q) f p.isList (by simp;lia) λr eb=>⟨rfl,I.turned (t':=s.toks) (λb o l e=>eb b o l e) N M L J G⟩
 self:=λ_ _ _ _ _ f h=>wpAny_pyIter_listiter f h
theorem uy{P:Program}{w:World}{K:Frag}{tg:Expr}(a l:Addr):Turn P w K tg (Ry K a) [l] l (λi h=>h.IsTupleIter l a i)where
 mem:=by simp
 obj:=λi h f b m=>by
  have e:b=l:=by simpa using m
  subst e;obtain⟨o,e,c,d⟩:=f;exact⟨o,e,λv z=>by rw[d]at z;cases z⟩
 keep:=λi h t f k=>f.at λo e=>k l (by simp) o e
 item:=by intro X C A D Q i g s O H E I r f B;subst C A D;obtain⟨R,x,q,y⟩:=B;obtain⟨j,rv,p,hz⟩:=I.tuple q;obtain⟨u,Y,T⟩:=rv.get y;obtain⟨N,M,Z,L,J,G⟩:=r l (by simp);refine wpAny_pyNext_tuple_item f (show s.heap.IsTuple a j.toArray from p) (x:=u) (by simpa using Y) λt n S=>?_;have I1:Inv X g O H {s with heap:=t}:=I.turned (t':=s.toks) (λb o m e=>(S.2 b m).trans e) N M L J G;obtain⟨o,e,c,d⟩:=id n;exact⟨u,rfl,r6 (s:={s with heap:=t}) e c d (by decide) ⟨x,H,I1,T,⟨rfl,λys U=>by rw[I.yt U q];exact y⟩,n,λb m=>(r b m).1⟩⟩
 done:=by intro X C A D Q i g s O H E I r f B;subst C A D;obtain⟨R,q,y⟩:=B;obtain⟨j,rv,p,hz⟩:=I.tuple q;obtain⟨N,M,Z,L,J,G⟩:=r l (by simp);have hl:=rv.length;exact wpAny_pyNext_tuple_end (I.ok.hd Q) f (show s.heap.IsTuple a j.toArray from p) (by simp;lia) λt eb=>⟨rfl,I.turned (t':=s.toks) (λb o m e=>eb b o m e) N M L J G⟩
 self:=λ_ _ _ _ _ f h=>wpAny_pyIter_tupleiter f h
theorem uz{P:Program}{w:World}{K:Frag}{tg:Expr}(d:Addr)(j:Int)(n:Nat):Turn P w K tg (Nz j n) [d] d (λi h=>IsRangeIter h d (j+(i:Nat)*1) ((n:Int) -(i:Nat)) 1)where
 mem:=by simp
 obj:=λi h a b f=>by
  have e:b=d:=by simpa using f
  subst e;exact⟨_,a,λv z=>by have L:Data.fields _=Data.cell v:=z;cases L⟩
 keep:=λi h m a k=>k d (by simp) _ a
 item:=by intro X u p x r i c s G H E I l a q;subst u p x;obtain⟨D,C,O,B,A,y⟩:=l d (by simp);have W:=Walks.range (prog:=X.prog) (w:=X.w) (I.ok.hd r) d j 1 n;refine W.item i s _ _ q a λv m J N g M=>?_;obtain⟨t,rfl⟩:=N;have I1:Inv X c G H {s with heap:=m,toks:=J}:=I.turned (λb o f e=>M b o (by simpa using f) e) D C B A y;refine⟨_,rfl,r6 (s:={s with heap:=m,toks:=J}) (n:="range_iterator") g rfl rfl (by decide) ⟨.int (j+i),H,I1,⟨t,?_⟩,⟨rfl,rfl⟩,g,λb f=>(l b f).1⟩⟩;rw[T9]
 done:=by intro X u p x r i c s G H E I l a q;subst u p x;obtain⟨D,C,O,B,A,y⟩:=l d (by simp);exact wpAny_pyNext_range_end (I.ok.hd r) a (by have:n<=i:=q;lia) λm Q=>⟨rfl,I.turned (t':=s.toks) (λb o f e=>Q b o f e) D C B A y⟩
 self:=λ_ _ _ _ _ a h=>wpAny_pyIter_rangeiter a h
section
variable{X:Cx}{tg:Expr}
noncomputable def NB(K:Frag)(e:TE):TI:=λc H R=>e c H λx b=>∃a,x=.ref a/\(∃d,dU K b a d)/\R (QK K a) b
theorem wu{l:Expr}{f:TE}(n:PE X l f):PI X tg l (NB X.K f):=by
 intro c s g H R I h;refine aZ (n c s g H _ I h) λv d ⟨x,t,I1,i,j⟩=>?_;obtain⟨a,e,⟨u,m⟩,q⟩:=j;subst e;cases i;obtain⟨k,rv,p,hz⟩:=I1.list m;refine Yh p.isList ?_;refine⟨d.heap.objs.size,[d.heap.objs.size],_,_,t,rfl,I1.kept (t':=d.toks) λb o e=>D1 _ e,oF a _,⟨_,GE _ rfl,rfl,rfl⟩,λb r=>?_,q⟩;have e:b=d.heap.objs.size:=by simpa using r
 subst e;exact I1.lF (BM _) (I1.hok.fresh (BM _))
theorem r8{d:List (Addr×Obj)}{f:St}{H:Hp}{s:Shared}{R:It->Hp->Prop}{E:Value->Shared->Prop}{a c:Int}{t u v:Tok}{g:Nat}(I:Inv X d f H s)(l: -(2^62)<=a)(k:a<2^62)(j: -(2^62)<=c)(i:c<2^62)
 (q:R (Nz a (c -a).toNat) H):wpAny (model X.prog X.w) X.A (pyIter (.ref s.heap.objs.size)) (Rx X d f tg R) E {s with heap:=s.heap.push {cls:=.type "range",data:=.fields #[.int a t,.int c u,.int 1 v]},toks:=g}:=by
 refine wpAny_pyIter_range (IsRange.new ..) (small_one l k j i) ?_;have I1:Inv X d f H {s with heap:=s.heap.push {cls:=.type "range",data:=.fields #[.int a t,.int c u,.int 1 v]},toks:=g}:=I.kept λb o e=>D1 _ e;refine⟨(s.heap.push {cls:=.type "range",data:=.fields #[.int a t,.int c u,.int 1 v]}).objs.size,[(s.heap.push {cls:=.type "range",data:=.fields #[.int a t,.int c u,.int 1 v]}).objs.size],_,_,H,rfl,
  I1.kept (t':=g) λb o e=>D1 _ e,uz _ a (c -a).toNat,?_,λb h=>?_,q⟩
 .have n:a+((0:Nat):Int)*1=a:=by simp
  have m:(((c -a).toNat:Nat):Int) -((0:Nat):Int)=Builtin.Range.rangeSize a c 1:=by rw[rangeSize_one];split<;>lia
  show IsRangeIter _ _ (a+((0:Nat):Int)*1) ((((c -a).toNat:Nat):Int) -((0:Nat):Int)) 1;rw[n,m];exact GE _ rfl
 .have e:b=(s.heap.push {cls:=.type "range",data:=.fields #[.int a t,.int c u,.int 1 v]}).objs.size:=by simpa using h
  subst e;exact I1.lF (BM _) (I1.hok.fresh (BM _))
noncomputable def Hh(ta:TA):TI:=λa H R=>ta a H λb c=>∃j:Int,b=[.int j]/\-(2^62)<=j/\j<2^62/\R (Nz 0 j.toNat) c
noncomputable def NC(ta:TA):TI:=λa H R=>ta a H λb c=>∃i j:Int,b=[.int i,.int j]/\(-(2^62)<=i/\i<2^62/\-(2^62)<=j/\j<2^62)/\R (Nz i (j -i).toNat) c
theorem oG{a:Expr}{ta:TA}{p pos:Pos}(m:Gl X "range")(l:X.mg "range"=none)(n:PA X [a] ta)(k:starEach [a] X.env=[(false,eval a X.env)]:=by rfl):PI X tg (.Call (.Name "range" p) [a] [] pos) (Hh ta):=by
 intro b s d H R I h;refine Call_ (dD I m l boot_range (L9 (aZ (n pos b s d H _ I h) λu v ⟨o,w,I1,g,c⟩=>?_) k rfl));obtain⟨j,e,c,i,q⟩:=c;subst e;cases g with
 |cons r f=>
  cases f;obtain⟨t,rfl⟩:=r;exact call_range_1 (r8 I1 (by lia) (by lia) c i (by simpa using q))
theorem yv{a b:Expr}{ta:TA}{p pos:Pos}(x:Gl X "range")(w:X.mg "range"=none)(y:PA X [a,b] ta)(v:starEach [a,b] X.env=[(false,eval a X.env),(false,eval b X.env)]:=by rfl)(d:starEach [b] X.env=[(false,eval b X.env)]:=by rfl):
 PI X tg (.Call (.Name "range" p) [a,b] [] pos) (NC ta):=by
 intro c s k H R I h;refine Call_ (dD I x w boot_range (L9 (aZ (y pos c s k H _ I h) λA C ⟨z,D,I1,l,g⟩=>?_) (by rw[v,d]) (by rw[d];rfl)));obtain⟨i,j,e,⟨g,u,o,n⟩,q⟩:=g;subst e;cases l with
 |cons r f=>
  cases f with
  |cons m f=>
   cases f;obtain⟨t,rfl⟩:=r;obtain⟨B,rfl⟩:=m;exact call_range_2 (r8 I1 g u o n q)
noncomputable def RA(f:TI)(g:TG)(h:TS):TS:=λD a H=>f a H λJ k=>∃W:Nat->Nat->St->Hp->Prop,(∃m,W 0 m a k)/\∀i m a H,W i m a H->
 (J.stop i H/\D.nx a H)\/(J.go i H/\∃N:St->Hp->Prop,(∀b c,N b c->∃e,e<m/\W (i+1) e b c)/\∀x c,J.Ny i H x c->g x a c λd j=>h {D with nx:=N,ct:=N,bk:=D.nx} d j)
noncomputable def lG(a:List Addr)(h:Heap):List (Addr×Obj):=a.filterMap λb=>(h.get? b).map λo=>(b,o)
theorem fz{a:List Addr}{h:Heap}{b:Addr}{o:Obj}(c:b∈a)(e:h.get? b=some o):(b,o)∈lG a h:=QO.mpr ⟨b,c,by rw[e];rfl⟩
theorem yw{a:List Addr}{h:Heap}{p:Addr×Obj}(c:p∈lG a h):p.1∈a/\h.get? p.1=some p.2:=by
 obtain⟨b,d,e⟩:=QO.mp c;cases q:h.get? b with
 |none=>rw[q]at e;cases e
 |some o=>rw[q]at e;have f:(b,o)=p:=He e;subst f;exact⟨d,q⟩
theorem Inv.pinned{a:List (Addr×Obj)}{f:St}{H:Hp}{s:Shared}{c:List Addr}(I:Inv X a f H s)(k:∀b∈c,dF X a H b)(j:∀b∈c,∃o,s.heap.get? b=some o/\∀v,o.data≠.cell v):Inv X (a++lG c s.heap) f H s:=
 I.kJ λp i=>(GM.mp i).elim (λz=>I.pin p (Fs _ z)) λz=>by obtain⟨g,e⟩:=yw z;obtain⟨n,m,l,_⟩:=k p.1 g;obtain⟨o,h,d⟩:=j p.1 g;rw[e]at h;cases h;exact⟨e,n,m,l,d⟩
theorem Inv.iH{a c:List (Addr×Obj)}{b:St}{H:Hp}{s:Shared}(I:Inv X (a++c) b H s):Inv X a b H s:=I.kJ λp d=>I.pin p (Fs _ (P3 _ d))
theorem pP{k:Expr}{C:List Stmt}{wi:TI}{g:TG}{tb:TS}{pos:Pos}(O:PassesOwn (model X.prog X.w) X.A X.env X.xe)(hc:X.calm=true)(hi:PI X tg k wi)(hg:PG X tg g)(l:rX X C tb)
 (hs:∀x,foldedSetIterable k X.env x=pure x:=by intro _;rfl):PS X (.For tg k C [] pos) (RA wi g tb):=by
 intro a s σ H D I h;refine wpAny_For (aZ (hi a s σ H _ I h) λv s1 h1=>aZ h1 λitv s2 h2=>?_) hs;obtain⟨it,P,tn,J,H2,e,I2,T,R,f2,W,⟨m0,w0⟩,E⟩:=h2;subst e;have Z:∀{z:Hp},(∀b∈P,z b=none)->∀b∈P,dF X a z b:=λhn b l=>⟨hn b l,(f2 b l).2⟩;refine codeAny_forLoop_any (λn s'=>∃i j z,Inv X a j z s'/\tn i s'.heap/\(∀b∈P,z b=none)/\W i n j z) ?_ m0 ⟨0,σ,H2,I2,R,λb l=>(f2 b l).1,w0⟩;rintro n s3 ⟨i,c,Q,I3,L,TM,w3⟩;rcases E i n c Q w3 with⟨G,qn⟩|⟨go,N,hN,K⟩
 .refine X6 O (aZ (T.done X rfl rfl rfl hc i a s3 c Q X.xe I3 (Z TM) L G) λr s4 ⟨U,I4⟩=>?_);subst U;exact wpAny_execs_nil ⟨c,Q,I4,qn⟩
 .refine X6 O (aZ (T.item X rfl rfl rfl hc i a s3 c Q X.xe I3 (Z TM) L go) λr s4 ⟨u,U,h4⟩=>?_);subst U;refine X6 O (aZ h4 λ_ s5 ⟨x,H5,I5,r5,y5,Y,QL⟩=>?_);have UU:=I5.pinned (Z QL) (T.obj _ _ Y);refine X6 O (aZ (hg _ s5 c H5 x u _ UU r5 (K x H5 y5)) λ_ s6 ⟨UW,H6,I6,q6⟩=>?_);refine X6 O (aZ (l _ s6 UW H6 _ I6 q6) λf S B=>?_);have p:∀{y:St}{t:Hp},Inv X (a++lG P s5.heap) y t S->N y t->∃m,m<n/\∃i j z,Inv X a j z S/\tn i S.heap/\(∀b∈P,z b=none)/\W i m j z:=λ{y t} q M=>by obtain⟨m',hm,w7⟩:=hN y t M;refine⟨m',hm,i+1,y,t,q.iH,T.keep _ _ _ Y λb l o e=>(q.pin (b,o) (Fs _ (Fs _ (fz l e)))).1,λb l=>?_,w7⟩;obtain⟨o,e,d⟩:=T.obj _ _ Y b l;exact(q.pin (b,o) (Fs _ (Fs _ (fz l e)))).2.1
  cases f with
  |next=>obtain⟨y,t,q,M⟩:=B;exact p q M
  |cont=>obtain⟨y,t,q,M⟩:=B;exact p q M
  |brk=>obtain⟨y,t,q,B⟩:=B;exact⟨y,t,q.iH,B⟩
  |ret v=>obtain⟨x7,y,t,q,r7,B⟩:=B;exact⟨x7,y,t,q.iH,r7,B⟩
end
abbrev R2:=V->V->Hp->VK->Prop
noncomputable def gK(X:Cx)(f:Value->Value->Sem Value)(r:R2):Prop:=
 ∀(a:List (Addr×Obj))(s:Shared)(b:St)(H:Hp)(x y:V)(v u:Value)(Q:VK),Inv X a b H s->RelV x v->RelV y u->r x y H Q->
  wpAny (model X.prog X.w) X.A (f v u) (EP X a b Q) X.xe s
noncomputable def RB(X:Cx)(f:Value->Sem Value)(r:V->Hp->VK->Prop):Prop:=
 ∀(a:List (Addr×Obj))(s:Shared)(b:St)(H:Hp)(x:V)(v:Value)(Q:VK),Inv X a b H s->RelV x v->r x H Q->
  wpAny (model X.prog X.w) X.A (f v) (EP X a b Q) X.xe s
noncomputable def bN(X:Cx)(f:Value)(r:List V->Hp->VK->Prop):Prop:=
 ∀(a:List (Addr×Obj))(s:Shared)(b:St)(H:Hp)(c:List V)(d:List Value)(Q:VK),Inv X a b H s->Vals c d->r c H Q->
  wpAny (model X.prog X.w) X.A (call f d) (EP X a b Q) X.xe s
noncomputable def UX(r:R2)(ta b:TE):TE:=λa H Q=>ta a H λx d=>b a d λy c=>r x y c Q
noncomputable def UY(r:V->Hp->VK->Prop)(ta:TE):TE:=λa H Q=>ta a H λx b=>r x b Q
noncomputable def rI(C:Int->Int->Prop)(g:Int->Int->V):R2:=λx y H Q=>∃i j,x=.int i/\y=.int j/\C i j/\Q (g i j) H
noncomputable def zY(g:Int->Int->V):R2:=λx y H Q=>∃i j,x=.int i/\y=.int j/\Q (g i j) H
noncomputable def rU(g:Int->V):V->Hp->VK->Prop:=λx H Q=>∃i,x=.int i/\Q (g i) H
section
variable{X:Cx}{a b c:Expr}{ta tb tc:TE}{pos:Pos}
theorem RC(t:PE X a ta)(r:PE X b tb){d:List (Addr×Obj)}{s:Shared}{e:St}{H:Hp}{R:V->V->Hp->Prop}(I:Inv X d e H s)
 (h:ta e H λx H1=>tb e H1 λy g=>R x y g){Q:Value->Shared->Prop}{f:Value->Value->Sem Value}
 (q:∀v u k x y g,Inv X d e g k->RelV x v->RelV y u->R x y g->wpAny (model X.prog X.w) X.A (f v u) Q X.xe k):
 wpAny (model X.prog X.w) X.A (eval a X.env) (λv j=>wpAny (model X.prog X.w) X.A (eval b X.env) (λu i=>wpAny (model X.prog X.w) X.A (f v u) Q X.xe i) X.xe j) X.xe s:=by
 refine aZ (t d s e H _ I h) λv l ⟨x,H1,I1,n,p⟩=>?_;refine aZ (r d l e H1 _ I1 p) λu k ⟨y,g,z,m,o⟩=>?_;exact q v u k x y g z n m o
theorem ND{op:UnaryOp}{r:V->Hp->VK->Prop}(j:RB X (unaryOp op) r)(k:PE X a ta):PE X (.UnaryOp op a pos) (UY r ta):=by intro d s e H Q I h;exact UnaryOp_ (aZ (k d s e H _ I h) λv f ⟨x,l,I1,g,i⟩=>j d f e l x v Q I1 g i)
theorem NF{f:Value->Value->Sem Value}{C:Int->Int->Prop}{g:Int->Int->Int}
 (d:∀(i j:Int)(t u:Tok)(s:Shared)(Q:Value->Shared->Prop)(E:Value->Shared->Prop),C i j->Q (.int (g i j) s.toks) {s with toks:=s.toks+1}->wpAny (model X.prog X.w) X.A (f (.int i t) (.int j u)) Q E s):
 gK X f (rI C λi j=>.int (g i j)):=by
 intro e s o H x y v u Q I m l h;obtain⟨i,j,rfl,rfl,n,q⟩:=h;obtain⟨t,rfl⟩:=m;obtain⟨k,rfl⟩:=l;exact d i j t k s _ _ n ⟨.int (g i j),H,I.tok _,⟨_,rfl⟩,q⟩
theorem NG{f:Value->Value->Sem Value}{g:Int->Int->Int}
 (d:∀(i j:Int)(t u:Tok)(s:Shared)(Q:Value->Shared->Prop)(E:Value->Shared->Prop),Q (.int (g i j) s.toks) {s with toks:=s.toks+1}->wpAny (model X.prog X.w) X.A (f (.int i t) (.int j u)) Q E s):
 gK X f (zY λi j=>.int (g i j)):=by
 intro e s n H x y v u Q I m l h;obtain⟨i,j,rfl,rfl,q⟩:=h;obtain⟨t,rfl⟩:=m;obtain⟨k,rfl⟩:=l;exact d i j t k s _ _ ⟨.int (g i j),H,I.tok _,⟨_,rfl⟩,q⟩
theorem DO{f:Value->Value->Sem Value}{g:Int->Int->Bool}
 (d:∀(i j:Int)(t u:Tok)(s:Shared)(Q:Value->Shared->Prop)(E:Value->Shared->Prop),Q (.bool (g i j)) s->wpAny (model X.prog X.w) X.A (f (.int i t) (.int j u)) Q E s):
 gK X f (zY λi j=>.bl (g i j)):=by
 intro e s n H x y v u Q I m l h;obtain⟨i,j,rfl,rfl,q⟩:=h;obtain⟨t,rfl⟩:=m;obtain⟨k,rfl⟩:=l;exact d i j t k s _ _ ⟨.bl (g i j),H,I,rfl,q⟩
noncomputable def RD(i j:Int):Prop:=0<j/\j<1073741824
noncomputable def yx(i j:Int):Prop:=0<=j/\j<=1000000/\i.natAbs<2^64
theorem uA(k:Nat):(0:Int)<=2^k:=by rw[two_pow_cast];exact Int.natCast_nonneg _
theorem Jj:gK X (binaryOp .Add) (zY λi j=>.int (i+j)):=NG λ_ _ _ _ _ _ _ q=>add_int q
theorem Jk:gK X (binaryOp .Sub) (zY λi j=>.int (i -j)):=NG λ_ _ _ _ _ _ _ q=>sub_int q
theorem DP:gK X (binaryOp .Mod) (rI (λ_ j=>j≠0) λi j=>.int (i.fmod j)):=NF λ_ _ _ _ _ _ _ d q=>mod_int' d q
theorem Jl:gK X (binaryOp .Pow) (rI yx λi j=>.int (i^j.toNat)):=NF λ_ _ _ _ _ _ _ d q=>pow_int_small d.1 d.2.1 d.2.2 q
theorem Jm:gK X (binaryOp .LShift) (rI yx λi j=>.int (i*2^j.toNat)):=NF λ_ _ _ _ _ _ _ d q=>lshift_int_small d.1 d.2.1 d.2.2 q
theorem Jo:gK X (binaryOp .RShift) (rI (λ_ j=>0<=j) λi j=>.int (i/2^j.toNat)):=NF λi j _ _ _ _ _ d q=>rshift_int d (by rw[X7 i (uA _)];exact q)
theorem UZ{f:Value->Sem Value}{g:Int->Int}
 (d:∀(i:Int)(t:Tok)(s:Shared)(Q:Value->Shared->Prop)(E:Value->Shared->Prop),Q (.int (g i) s.toks) {s with toks:=s.toks+1}->wpAny (model X.prog X.w) X.A (f (.int i t)) Q E s):
 RB X f (rU λi=>.int (g i)):=by
 intro e s k H x v Q I j h;obtain⟨i,rfl,q⟩:=h;obtain⟨t,rfl⟩:=j;exact d i t s _ _ ⟨.int (g i),H,I.tok _,⟨_,rfl⟩,q⟩
theorem Jp:RB X (unaryOp .USub) (rU λi=>.int (-i)):=UZ λ_ _ _ _ _ q=>neg_int q
end
noncomputable def Jq:V->V->Bool
 |.aM,.aM=>true|.aM,.int _=>true|.int _,.aM=>true|.aM,.bl _=>true|.bl _,.aM=>true|.aM,.str _=>true|.str _,.aM=>true
 |.int _,.int _=>true|.bl _,.bl _=>true|.str _,.str _=>true|.zX _,.zX _=>true
 |.int _,.str _=>true|.str _,.int _=>true|.bl _,.str _=>true|.str _,.bl _=>true
 |_,_=>false
noncomputable def U0:R2:=λx y H Q=>Jq x y=true/\Q (.bl (decide (x=y))) H
noncomputable def U1:R2:=λx y H Q=>Jq x y=true/\Q (.bl (!decide (x=y))) H
theorem wz{i j:Int}:decide (V.int i=V.int j)=(i==j):=by rw[XR];simp
theorem Ar{i j:Bool}:decide (V.bl i=V.bl j)=(i==j):=by rw[XR];simp
theorem wB{i j:Str}:decide (V.str i=V.str j)=(i==j):=by rw[XR];simp
theorem wC{i j:Array UInt8}:decide (V.zX i=V.zX j)=(i.toList==j.toList):=by rw[XR];cases i;cases j;simp
section
variable{X:Cx}{a b c:Expr}{ta tb tc:TE}{pos:Pos}
theorem aJ{d:List (Addr×Obj)}{f:St}{H:Hp}{s:Shared}{Q:VK}{k g:Bool}(I:Inv X d f H s)(q:Q (.bl k) H)(e:k=g):EP X d f Q (.bool g) s:=by subst e;exact⟨.bl k,H,I,rfl,q⟩
theorem NH:gK X (compareOp .Eq) U0:=by
 intro k s l H x y v u Q I g d h;obtain⟨f,q⟩:=h;cases x with
 |aM=>
  cases g;cases y with
  |aM=>cases d;exact PySem.EqNone.eq_none_none (aJ I q (by simp))
  |bl j=>cases d;exact PySem.EqNone.eq_none_bool (aJ I q (by simp))
  |int j=>obtain⟨e,rfl⟩:=d;exact PySem.EqNone.eq_none_int (aJ I q (by simp))
  |str j=>obtain⟨e,rfl⟩:=d;exact PySem.EqNone.eq_none_str (aJ I q (by simp))
  |_=>exact absurd (show false=true from f) Hk
 |bl i=>
  cases g;cases y with
  |aM=>cases d;exact PySem.EqNone.eq_bool_none (aJ I q (by simp))
  |bl j=>cases d;exact eq_bool (aJ I q Ar)
  |str j=>obtain⟨e,rfl⟩:=d;exact PySem.EqMixed.eq_bool_str (aJ I q (by simp))
  |_=>exact absurd (show false=true from f) Hk
 |int i=>
  obtain⟨t,rfl⟩:=g;cases y with
  |aM=>cases d;exact PySem.EqNone.eq_int_none (aJ I q (by simp))
  |int j=>obtain⟨e,rfl⟩:=d;exact eq_int (aJ I q wz)
  |str j=>obtain⟨e,rfl⟩:=d;exact PySem.EqMixed.eq_int_str (aJ I q (by simp))
  |_=>exact absurd (show false=true from f) Hk
 |str i=>
  obtain⟨t,rfl⟩:=g;cases y with
  |aM=>cases d;exact PySem.EqNone.eq_str_none (aJ I q (by simp))
  |bl j=>cases d;exact PySem.EqMixed.eq_str_bool (aJ I q (by simp))
  |int j=>obtain⟨e,rfl⟩:=d;exact PySem.EqMixed.eq_str_int (aJ I q (by simp))
  |str j=>obtain⟨e,rfl⟩:=d;exact eq_str (aJ I q wB)
  |_=>exact absurd (show false=true from f) Hk
 |zX i=>
  obtain⟨t,rfl⟩:=g;cases y with
  |zX j=>obtain⟨e,rfl⟩:=d;exact PySem.W.eq_bytes (aJ I q wC)
  |_=>exact absurd (show false=true from f) Hk
 |_=>cases y<;>exact absurd (show false=true from f) Hk
theorem NI:gK X (compareOp .NotEq) U1:=by
 intro k s l H x y v u Q I g d h;obtain⟨f,q⟩:=h;cases x with
 |aM=>
  cases g;cases y with
  |aM=>cases d;exact PySem.EqNone.ne_none_none (aJ I q (by simp))
  |bl j=>cases d;exact PySem.EqNone.ne_none_bool (aJ I q (by simp))
  |int j=>obtain⟨e,rfl⟩:=d;exact PySem.EqNone.ne_none_int (aJ I q (by simp))
  |str j=>obtain⟨e,rfl⟩:=d;exact PySem.EqNone.ne_none_str (aJ I q (by simp))
  |_=>exact absurd (show false=true from f) Hk
 |bl i=>
  cases g;cases y with
  |aM=>cases d;exact PySem.EqNone.ne_bool_none (aJ I q (by simp))
  |bl j=>cases d;exact ne_bool (aJ I q (GT not Ar))
  |str j=>obtain⟨e,rfl⟩:=d;exact PySem.EqMixed.ne_bool_str (aJ I q (by simp))
  |_=>exact absurd (show false=true from f) Hk
 |int i=>
  obtain⟨t,rfl⟩:=g;cases y with
  |aM=>cases d;exact PySem.EqNone.ne_int_none (aJ I q (by simp))
  |int j=>obtain⟨e,rfl⟩:=d;exact ne_int (aJ I q (GT not wz))
  |str j=>obtain⟨e,rfl⟩:=d;exact PySem.EqMixed.ne_int_str (aJ I q (by simp))
  |_=>exact absurd (show false=true from f) Hk
 |str i=>
  obtain⟨t,rfl⟩:=g;cases y with
  |aM=>cases d;exact PySem.EqNone.ne_str_none (aJ I q (by simp))
  |bl j=>cases d;exact PySem.EqMixed.ne_str_bool (aJ I q (by simp))
  |int j=>obtain⟨e,rfl⟩:=d;exact PySem.EqMixed.ne_str_int (aJ I q (by simp))
  |str j=>obtain⟨e,rfl⟩:=d;exact ne_str (aJ I q (GT not wB))
  |_=>exact absurd (show false=true from f) Hk
 |zX i=>
  obtain⟨t,rfl⟩:=g;cases y with
  |zX j=>obtain⟨e,rfl⟩:=d;exact PySem.W.ne_bytes (aJ I q (GT not wC))
  |_=>exact absurd (show false=true from f) Hk
 |_=>cases y<;>exact absurd (show false=true from f) Hk
theorem Hj:gK X (compareOp .Lt) (zY λi j=>.bl (decide (i<j))):=DO λ_ _ _ _ _ _ _ q=>lt_int q
theorem Hl:gK X (compareOp .LtE) (zY λi j=>.bl (decide (i<=j))):=DO λ_ _ _ _ _ _ _ q=>le_int q
theorem Ho:gK X (compareOp .Gt) (zY λi j=>.bl (decide (j<i))):=DO λ_ _ _ _ _ _ _ q=>gt_int q
theorem Hq:gK X (compareOp .GtE) (zY λi j=>.bl (decide (j<=i))):=DO λ_ _ _ _ _ _ _ q=>ge_int q
theorem Jr:gK X (compareOp .Is) (λx y H Q=>y=.aM/\Q (.bl (decide (x=.aM))) H):=by
 intro e s g H x y v u Q I d f h;obtain⟨rfl,q⟩:=h;cases f;refine is_none_gen (aJ I q ?_);cases x<;>first
  |(cases d;rfl)
  |(obtain⟨t,rfl⟩:=d;rfl)
theorem DR:gK X (compareOp .IsNot) (λx y H Q=>y=.aM/\Q (.bl (!decide (x=.aM))) H):=by
 intro e s g H x y v u Q I d f h;obtain⟨rfl,q⟩:=h;cases f;refine isnot_none_gen (aJ I q ?_);cases x<;>first
  |(cases d;rfl)
  |(obtain⟨t,rfl⟩:=d;rfl)
theorem uB(b:Expr){op:CmpOp}(h:op≠.In:=by decide)(d:op≠.NotIn:=by decide):behindInMarks op b=false:=by
 have f:(op==CmpOp.In)=false:=by cases op<;>first|rfl|exact absurd rfl h
 have e:(op==CmpOp.NotIn)=false:=by cases op<;>first|rfl|exact absurd rfl d
 cases b<;>simp[behindInMarks,f,e]
noncomputable def NJ(t:TE):TT:=λd H Q=>t d H λx e=>∃k,x=.bl k/\Q k e
noncomputable def uC(r g:R2)(ta tb tc:TE):TE:=λd H Q=>ta d H λx j=>tb d j λy i=>r x y i λz e=>∃k,z=.bl k/\
 (if k=true then tc d e λf h=>g y f h Q else Q (.bl false) e)
theorem As{op g:CmpOp}{r m:R2}(M:gK X (compareOp op) r)(j:gK X (compareOp g) m)(R:PE X a ta)(P:PE X b tb)(O:PE X c tc)
 (N:lastMarks [op,g] [b,c]=false:=by with_unfolding_all rfl):PE X (.Compare a [op,g] [b,c] pos) (uC r m ta tb tc):=by
 intro f s i H Q I h;refine Compare_chain (aZ (R f s i H _ I h) λv C ⟨x,Z,I1,G,L⟩=>chain_link (aZ (P f C i Z _ I1 L) λu B ⟨y,Y,T,l,K⟩=>aZ (M f B i Y x y v u _ T G l K) λd A ⟨z,p,o,E,k,e,n⟩=>?_)) N;subst e;cases E;refine Pl ?_;cases k with
 |false=>exact ite_ff ⟨.bl false,p,o,rfl,n⟩
 |true=>exact ite_tt (chain_last (aZ (O f A i p _ o n) λt w ⟨q,U,S,D,J⟩=>j f w i U y q u t Q S l D J))
theorem Au{op g:CmpOp}{r m:R2}(P:gK X (compareOp op) r)(j:gK X (compareOp g) m)(U:PE X a ta)(T:PE X b tb)(S:PE X c tc)
 (R:lastMarks [op,g] [b,c]=false:=by with_unfolding_all rfl):PT X (.Compare a [op,g] [b,c] pos) (NJ (uC r m ta tb tc)):=by
 intro f s i H Q I h;refine isTrue_chain (aZ (U f s i H _ I h) λv C ⟨x,H1,I1,J,N⟩=>test_link (aZ (T f C i H1 _ I1 N) λu B ⟨y,H2,I2,l,M⟩=>aZ (P f B i H2 x y v u _ I2 J l M) λd A ⟨z,p,o,G,k,e,n⟩=>?_)) R;subst e;cases G;refine Pl ?_;cases k with
 |false=>obtain⟨k',Z,O⟩:=n;cases Z;exact ite_ff ⟨p,o,O⟩
 |true=>refine ite_tt (test_last (aZ (S f A i p _ o n) λt w ⟨q,H4,I4,E,L⟩=>aZ (j f w i H4 y q u t _ I4 l E L) λd' s5 ⟨z2,H5,I5,D,k2,Y,K⟩=>?_));subst Y;cases D;exact Pl ⟨H5,I5,K⟩
theorem lH:(sizeLine:Nat)<2^63:=by rw[Ta];decide
theorem uD:gK X (binaryOp .Add) (λx y H Q=>∃i j,x=.str i/\y=.str j/\i.length+j.length<=sizeLine/\Q (.str (i++j)) H):=by intro d s k H x y v u Q I g f h;obtain⟨i,j,rfl,rfl,hz,q⟩:=h;obtain⟨t,rfl⟩:=g;obtain⟨e,rfl⟩:=f;exact add_str (λe l=>⟨.str (i++j),H,I.tok _,⟨_,rfl⟩,q⟩) hz
theorem vals1{x:V}{d:List Value}(r:Vals [x] d):∃u,d=[u]/\RelV x u:=by
 cases r with
 |cons f e=>cases e;exact⟨_,rfl,f⟩
theorem vals2{x y:V}{e:List Value}(r:Vals [x,y] e):∃u d,e=[u,d]/\RelV x u/\RelV y d:=by
 cases r with
 |cons i h=>
  cases h with
  |cons g f=>cases f;exact⟨_,_,rfl,i,g⟩
theorem Av:bN X (.builtin "abs") (λd H Q=>∃i,d=[.int i]/\Q (.int (if i<0 then-i else i)) H):=by intro e s f H d g Q I r h;obtain⟨i,rfl,q⟩:=h;obtain⟨u,rfl,t,rfl⟩:=vals1 r;exact call_abs_int λu j=>⟨.int (if i<0 then-i else i),H,I.tok _,⟨_,rfl⟩,q⟩
theorem yz(g:X.calm=true):bN X (.builtin "max") (λe H Q=>∃i j,e=[.int i,.int j]/\Q (.int (if j>i then j else i)) H):=by
 intro f s l H e n Q I r h;obtain⟨i,j,rfl,q⟩:=h;obtain⟨u,m,rfl,⟨t,rfl⟩,⟨p,rfl⟩⟩:=vals2 r;refine max_two_ints (I.ok.hd g) λv o k=>⟨_,H,I.kept k,?_,q⟩;by_cases d:j>i
 .rw[Bz d,Bz d];exact⟨_,rfl⟩
 .rw[Bn d,Bn d];exact⟨_,rfl⟩
theorem yC(g:X.calm=true):bN X (.builtin "min") (λe H Q=>∃i j,e=[.int i,.int j]/\Q (.int (if j<i then j else i)) H):=by
 intro f s l H e n Q I r h;obtain⟨i,j,rfl,q⟩:=h;obtain⟨u,m,rfl,⟨t,rfl⟩,⟨p,rfl⟩⟩:=vals2 r;refine min_two_ints (I.ok.hd g) λv o k=>⟨_,H,I.kept k,?_,q⟩;by_cases d:j<i
 .rw[Bz d,Bz d];exact⟨_,rfl⟩
 .rw[Bn d,Bn d];exact⟨_,rfl⟩
theorem yD:bN X (.type "int") (λd H Q=>(∃i,d=[.int i]/\Q (.int i) H)\/∃k,d=[.bl k]/\Q (.int (if k then 1 else 0)) H):=by
 intro e s g H d j Q I r h;rcases h with⟨i,rfl,q⟩|⟨k,rfl,q⟩
 .obtain⟨u,rfl,t,rfl⟩:=vals1 r;exact call_int_int ⟨.int i,H,I,⟨_,rfl⟩,q⟩
 .obtain⟨u,rfl,f⟩:=vals1 r;cases f;exact call_int_bool ⟨.int (if k then 1 else 0),H,I.tok _,⟨_,rfl⟩,q⟩
theorem r9:bN X (.builtin "divmod") (λd H Q=>∃i j,d=[.int i,.int j]/\RD i j/\∀p,H p=none->Q (.ref p) (upd H p (.tup [.int (i/j),.int (i%j)]))):=by intro f s k H d m Q I r h;obtain⟨i,j,rfl,⟨w,v⟩,q⟩:=h;obtain⟨u,l,rfl,⟨t,rfl⟩,⟨n,rfl⟩⟩:=vals2 r;refine divmod_int (by lia) ?_ (.inl (To (by lia)));rw[X7 i (by lia),NM i (by lia)];have g:H s.heap.objs.size=none:=I.hok.fresh (BM _);refine⟨.ref s.heap.objs.size,_,?_,rfl,q _ g⟩;refine I.laid (λb o e=>D1 _ e) (BM _) ⟨by simp only[D8,NN];rw[Ta];decide,[.int (i/j) s.toks,.int (i%j) (s.toks+1)],.cons ⟨_,rfl⟩ (.cons ⟨_,rfl⟩ .nil),?_⟩;exact⟨_,GE s.heap rfl,rfl,0,rfl⟩
end
structure DS(h:Heap)(x dx C:Addr)(mA:Str->Option Value):Prop where
 obj:h.get? x=some (instObj C dx)
 ns:h.Ns1 dx mA
 ne:dx≠x
theorem yE{h:Heap}{i:Addr}{f:Str->Option Value}(n:h.Ns1 i f):∃d,h.get? i=some d/\∀b,lookIn b d=some (f b):=by
 obtain⟨o,g,s,k,p,m,_,l⟩:=n;refine⟨o,k,λb=>?_⟩;have e:=l b;unfold nsFind findBy at e;rw[<-Array.find?_toList]at e;unfold lookIn;rw[p];dsimp only;split
 .rename_i y q
  rw[q]at e;exact GT some e
 .rename_i q
  rw[q]at e;have a:g.toList.any (·.refKey)=false:=by rw[List.any_eq_false];intro y j;obtain⟨z,t,c⟩:=m y (Array.mem_toList_iff.mp j);simp[DictEntry.refKey,c]
  have r:¬g.toList.any (·.refKey)=true:=by rw[a];exact Hk
  rw[Bn r];exact GT some e
theorem DS.look{h:Heap}{x d C:Addr}{c:Str->Option Value}(I:DS h x d C c):∃b,PySem.W.InstAt h x (instObj C d) C (some b)/\∀a,lookIn a b=some (c a):=
 let⟨b,ho,hl⟩:=yE I.ns
 ⟨b,⟨I.obj,rfl,rfl,ho⟩,hl⟩
section
variable{prog:Program}{w:World}{A:Around}{E:Value->Shared->Prop}{s:Shared}{K:Frag}{x dx C f:Addr}{mA:Str->Option Value}{name:Str}{v:Value}
theorem get_map{a:Bool}{Q:Value->Shared->Prop}(X:K.In s.heap)(I:DS s.heap x dx C mA)(g:plainGet K C name=true)(e:PySem.W.hasDictIn K C=true)
 (i:findIn K (.ref C) name=some none)(c:mA name=some v)(b:PySem.W.handedIn v=true)(h:Q v {s with toks:=s.toks+1}):
 wpAny (model prog w) A (getAttr (.ref x) name a) Q E s:=by
 obtain⟨j,J,d⟩:=I.look;exact PySem.W.get_value X J (PySem.W.plainGet_of g).1 (PySem.W.findObj_own e i rfl (by rw[d,c])) b h
theorem Aw{R:Result->Shared->Prop}{vs:List Value}{b:List (Str×Value)}(X:K.In s.heap)(c:PySem.W.makesIn K C=true)
 (e:findIn K (.ref C) "__init__"=some (some (.ref f)))(i:PySem.W.typeIn K (.ref f)=some (.type "function"))
 (h:codeAny (model prog w) (A.under (.builtin "type.__call__" ⟨.ref C::vs,b⟩)) (.call (.ref f) ⟨.ref (s.heap.objs.size+1)::vs,b⟩) (PySem.W.InitBack (s.heap.objs.size+1) R)
   {s with heap:=(s.heap.push emptyDict).push (instObj C s.heap.objs.size)}):
 codeAny (model prog w) A (.call (.ref C) ⟨vs,b⟩) R s:=by
 obtain⟨k,g,d,t,j⟩:=s;exact PySem.W.make_core (PySem.W.makes_of X c) (PySem.W.looks_findIn X e) (λa=>PySem.W.bind_fn X a i) (.inl rfl) h
end
theorem kC.some_of{v:V}{o:Option Value}(r:kC (some v) o):∃u,o=some u/\RelV v u:=by
 cases o with
 |none=>exact(show False from r).elim
 |some u=>exact⟨u,rfl,r⟩
theorem yF{v:V}{u:Value}(r:RelV v u):PySem.W.handedIn u=true:=by
 cases v with
 |aM=>cases(show u=Value.none from r);rfl
 |bl b=>cases(show u=Value.bool b from r);rfl
 |int i=>obtain⟨t,e⟩:=(show∃t,u=Value.int i t from r);cases e;rfl
 |str x=>obtain⟨t,e⟩:=(show∃t,u=Value.str x t from r);cases e;rfl
 |zX b=>obtain⟨t,e⟩:=(show∃t,u=Value.bytes b t from r);cases e;rfl
 |IL b=>obtain⟨t,e⟩:=(show∃t,u=Value.float b t from r);cases e;rfl
 |ref a=>cases(show u=Value.ref a from r);rfl
 |ty n=>cases(show u=Value.type n from r);rfl
section
variable{P:Program}{w:World}{H H':Hp}{h h':Heap}{a C dx:Addr}{fs fs':List (Str×V)}
theorem wD(c:iC P w H h)(e:H a=some (.ins C dx fs)):∃b,DS h a dx C b/\(∀f,kC (fs.lookup f) (b f))/\PySem.Within b (fs.map (·.1))/\fs.length<=1000/\H dx=some (.own a):=by obtain⟨d,z,i,g,b,n,r,q⟩:=(show bF P w H h a (.ins C dx fs)from c a _ e);exact⟨b,⟨g,n,i⟩,r,q,z,d⟩
end
structure ML(K:Frag)(C:Addr):Prop where
 pg:plainGet K C Str.empty=true
 hd:PySem.W.hasDictIn K C=true
 po:PySem.W.plainOver K C=true
 sa:findIn K (.ref C) "__setattr__"=some (some (.builtin "object.__setattr__"))
theorem ML.get{K:Frag}{C:Addr}(c:ML K C)(f:Str):plainGet K C f=true:=c.pg
noncomputable def uE(K:Frag)(C:Addr)(f:Str):Prop:=findIn K (.ref C) f=some none
structure Meth(K:Frag)(C:Addr)(m:Str)(f:Addr):Prop where
 at_:findIn K (.ref C) m=some (some (.ref f))
 fn:isFn K (.ref f)=true
 kp:keepIn K (.ref f)=true
section
variable{X:Cx}{pins:List (Addr×Obj)}{σ:St}{H:Hp}{s:Shared}{a C dx:Addr}{fs:List (Str×V)}{f:Str}{v:V}{A:Around}{E:Value->Shared->Prop}
theorem uF{b:Bool}{Q:Value->Shared->Prop}(I:Inv X pins σ H s)(e:H a=some (.ins C dx fs))(c:ML X.K C)(n:uE X.K C f)(l:fs.lookup f=some v)
 (h:∀u s',Inv X pins σ H s'->RelV v u->Q u s'):wpAny (model X.prog X.w) A (getAttr (.ref a) f b) Q E s:=by
 obtain⟨g,O,r,_,_,_⟩:=wD I.hok e;obtain⟨u,i,d⟩:=kC.some_of (v:=v) (o:=g f) (by rw[<-l];exact r f);exact get_map I.lC O (c.get f) c.hd n i (yF d) (h u _ (I.tok _) d)
theorem Inv.made(I:Inv X pins σ H s):Inv X pins σ (upd (upd H s.heap.objs.size (.own (s.heap.objs.size+1))) (s.heap.objs.size+1) (.ins C s.heap.objs.size []))
 {s with heap:=(s.heap.push emptyDict).push (instObj C s.heap.objs.size)}:=by
 have d:(s.heap.push emptyDict).get? s.heap.objs.size=some emptyDict:=GE s.heap rfl;have j:((s.heap.push emptyDict).push (instObj C s.heap.objs.size)).get? (s.heap.objs.size+1)=some (instObj C s.heap.objs.size):=by have:=GE (s.heap.push emptyDict) (o:=instObj C s.heap.objs.size) rfl;rwa [Heap.size_push]at this
 have i:(s.heap.push emptyDict).Ns s.heap.objs.size (λ_=>none):=⟨emptyDict,#[],_,d,rfl,(λe h=>absurd h (by simp)),λ_=>rfl⟩;have I1:=I.laid (a:=s.heap.objs.size) (o:=.own (s.heap.objs.size+1)) (h':=s.heap.push emptyDict) (t':=s.toks) (λb u q=>D1 _ q) (BM _) ⟨_,d⟩;refine I1.laid (a:=s.heap.objs.size+1) (o:=.ins C s.heap.objs.size []) (t':=s.toks) (λb u q=>D1 _ q) (Sr (Heap.size_push _ _)) ?_;have c:s.heap.objs.size≠s.heap.objs.size+1:=Ha (Qr _);refine⟨by rw[aA c,aL],Hn _,c,j,λ_=>none,(Heap.Ns1.of_empty i).at λo q=>D1 _ q,λ_=>P4,λy g=>absurd rfl g⟩
theorem DU{prog:Program}{w:World}{env:Env}{e:Expr}{f:Str}{pos:Pos}{s:Shared}{Q:Value->Shared->Prop}(c:attributeBase e f env (eval e env)=eval e env)
 (h:wpAny (model prog w) A (eval e env) (λo b=>wpAny (model prog w) A (getAttr o f true) Q E b) E s):wpAny (model prog w) A (eval (.Attribute e f pos) env) Q E s:=
 Attribute_any_ h (by rw[arm_eval_Attribute,c])
end
noncomputable def RE(K:Frag)(ta:TE)(f:Str):TE:=λd H Q=>ta d H λx c=>∃a C e b v,x=.ref a/\c a=some (.ins C e b)/\ML K C/\uE K C f/\b.lookup f=some v/\Q v c
section
variable{X:Cx}{o e value:Expr}{f:Str}{pos pos' tpos:Pos}{ta tv:TE}
theorem Js(j:PE X e ta)(k:attributeBase e f X.env (eval e X.env)=eval e X.env):PE X (.Attribute e f pos) (RE X.K ta f):=by intro b s d H Q I h;refine DU k (aZ (j b s d H _ I h) λu y hz=>?_);obtain⟨x,r,I1,g,a,C,A,z,v,ex,m,c,n,l,q⟩:=hz;subst ex;obtain rfl:u=Value.ref a:=g;exact uF I1 m c n l λt w p i=>⟨v,r,p,i,q⟩
end
section
variable{X:Cx}{pins:List (Addr×Obj)}{σ:St}{H:Hp}{s:Shared}{A:Around}{E:Value->Shared->Prop}{Q:Value->Shared->Prop}{c:Value}{b:Bool}
inductive kD(K:Frag)(H:Hp):V->Value->Prop where
 |aM:kD K H .aM (.type "NoneType")
 |bl (x:Bool):kD K H (.bl x) (.type "bool")
 |int (i:Int):kD K H (.int i) (.type "int")
 |str (x:Str):kD K H (.str x) (.type "str")
 |IL (x:UInt64):kD K H (.IL x) (.type "float")
 |lst {a:Addr} {xs:List V} (e:H a=some (.lst xs)):kD K H (.ref a) (.type "list")
 |ug {a:Addr} {o:Obj} {xs:List V} (e:H a=some (.ug o (.lst xs))):kD K H (.ref a) (.type "list")
 |tup {a:Addr} {xs:List V} (e:H a=some (.tup xs)):kD K H (.ref a) (.type "tuple")
 |dK {a:Addr} {kvs:List (Key×V)} (e:H a=some (.dK kvs)):kD K H (.ref a) (.type "dict")
 |dT {a:Addr} {kvs:List (List Key×V)} (e:H a=some (.dT kvs)):kD K H (.ref a) (.type "dict")
 |ins {a C dx:Addr} {fs:List (Str×V)} (e:H a=some (.ins C dx fs)) (cl:ML K C) (ha:findIn K (.ref C) "__class__"=some (some (.builtin "object.__class__")))
   (hn:PySem.W.specialIn K (.builtin "object.__class__") "__get__"=some (some (.builtin "getset_descriptor.__get__"))) (htk:PySem.W.takesIn K (.builtin "object.__class__")=some true)
   (hm:mroIn K C (.type "object")=some true):kD K H (.ref a) (.ref C)
theorem eO{x:V}{u t:Value}(I:Inv X pins σ H s)(d:RelV x u)(v:kD X.K H x t)(e:kitOne X.K t c=some b)(h:∀B,Q (.bool b) {s with toks:=B}):
 wpAny (model X.prog X.w) A (call (.builtin "isinstance") [u,c]) Q E s:=by
 cases v with
 |aM=>cases(show u=Value.none from d);exact PH PySem.W.kitx_none I.lC P4 e (λz=>nomatch z) h
 |bl y=>cases(show u=Value.bool y from d);exact PH PySem.W.kitx_bool I.lC P4 e (λz=>nomatch z) h
 |int i=>obtain⟨t,q⟩:=(show∃t,u=Value.int i t from d);cases q;exact PH PySem.W.kitx_int I.lC P4 e (λz=>nomatch z) h
 |str y=>obtain⟨t,q⟩:=(show∃t,u=Value.str y t from d);cases q;exact PH PySem.W.kitx_str I.lC P4 e (λz=>nomatch z) h
 |IL y=>obtain⟨t,q⟩:=(show∃t,u=Value.float y t from d);cases q;exact PH PySem.W.kitx_float I.lC P4 e (λz=>nomatch z) h
 |@lst a k f=>
  cases(show u=Value.ref a from d);obtain⟨_,_,n,_,g⟩:=(show bF X.prog X.w H s.heap a (.lst k)from I.hok a _ f);exact PH PySem.W.kitx_list I.lC ⟨_,g,rfl⟩ e (λz=>nomatch z) h
 |@ug a D k f=>
  cases(show u=Value.ref a from d);obtain⟨_,_,_,n,_,g⟩:=(show bF X.prog X.w H s.heap a (.ug D (.lst k))from I.hok a _ f);exact PH PySem.W.kitx_list I.lC ⟨_,g,rfl⟩ e (λz=>nomatch z) h
 |@tup a k f=>
  cases(show u=Value.ref a from d);obtain⟨_,_,_,p⟩:=(show bF X.prog X.w H s.heap a (.tup k)from I.hok a _ f);obtain⟨o,g,l,_⟩:=p;exact PH PySem.W.kitx_tuple I.lC ⟨o,g,l⟩ e (λz=>nomatch z) h
 |@dK a j f=>
  cases(show u=Value.ref a from d);obtain⟨_,_,R,_,p⟩:=(show bF X.prog X.w H s.heap a (.dK j)from I.hok a _ f);obtain⟨o,N,P,g,l,_⟩:=p;exact PH PySem.W.kitx_dict I.lC ⟨o,g,l.1⟩ e (λz=>nomatch z) h
 |@dT a j f=>
  cases(show u=Value.ref a from d);obtain⟨_,_,k,_,o,N,P,g,l,_⟩:=(show bF X.prog X.w H s.heap a (.dT j)from I.hok a _ f);exact PH PySem.W.kitx_dict I.lC ⟨o,g,l.1⟩ e (λz=>nomatch z) h
 |@ins a C Y U f r M G m L=>
  cases(show u=Value.ref a from d);obtain⟨T,O,_⟩:=wD I.hok f;obtain⟨S,J,_⟩:=O.look;exact PH (PySem.W.kitx_own (r.get _) r.hd M G m L) I.lC J e (λz=>nomatch z) h
end
structure bW(k:Nat)(A:Around):Prop where
 hd:A.handled=none
 dp:A.depth+3*k+120<recursionLimit
 un:A.units+16*k+200<cLine
theorem bW.mono{j k:Nat}{A:Around}(r:bW k A)(h:j<=k):bW j A:=⟨r.hd,by have:=r.dp;lia,by have:=r.un;lia⟩
theorem bW.deeper{k:Nat}{A:Around}(r:bW (k+1) A)(env:Env):bW k (A.deeper env):=
 ⟨r.hd,by have:=r.dp;show A.depth+1+3*k+120<_;lia,by have:=r.un;show A.units+3+16*k+200<_;lia⟩
theorem bW.in1{k:Nat}{A:Around}(r:bW (k+1) A):bW k A.in1:=
 ⟨r.hd,by have:=r.dp;show A.depth+3*k+120<_;lia,by have:=r.un;show A.units+1+16*k+200<_;lia⟩
theorem uG{A:Around}{C:Addr}{a:List Value}{b:List (Str×Value)}:(A.under (.builtin "type.__call__" ⟨.ref C::a,b⟩)).depth=A.depth+1:=by first|rfl|simp[Around.under,Code.weight,Code.isCreation,Code.isGuard,Code.isCaller,Code.frames,Code.isFrame,guardIds]
theorem uH{A:Around}{C:Addr}{a:List Value}{b:List (Str×Value)}:(A.under (.builtin "type.__call__" ⟨.ref C::a,b⟩)).units=A.units+1:=by first|rfl|simp[Around.under,Code.cUnits,Code.frames,Code.isFrame]
theorem bW.make{k:Nat}{A:Around}(r:bW (k+1) A)(C:Addr)(a:List Value)(b:List (Str×Value)):bW k (A.under (.builtin "type.__call__" ⟨.ref C::a,b⟩)):=
 ⟨r.hd,by have:=r.dp;rw[uG];lia,by have:=r.un;rw[uH];lia⟩
theorem bW.depth{k:Nat}{A:Around}(r:bW k A):A.depth<recursionLimit:=by have:=r.dp;lia
theorem bW.units{k:Nat}{A:Around}(r:bW k A):A.units+64<cLine:=by have:=r.un;lia
noncomputable def sd:TA:=λ_ H Q=>Q [] H
noncomputable def j7(ta:TE)(tr:TA):TA:=λa H Q=>ta a H λx d=>tr a d λb c=>Q (x::b) c
section
variable{X:Cx}{e:Expr}{es:List Expr}{te:TE}{t:TA}{pos:Pos}
theorem bV:PA X [] sd:=λ_ _ _ _ H Q I h=>Calls.spliced_nil ⟨[],H,I,.nil,h⟩
theorem aU(m:PE X e te)(l:PA X es t)(k:starEach (e::es) X.env=(false,eval e X.env)::starEach es X.env:=by rfl):PA X (e::es) (j7 te t):=by intro pos a s b H Q I h;rw[k];show wpAny _ _ (spliced ((false,eval e X.env)::backTo pos (starEach es X.env))) _ _ s;refine Calls.spliced_cons (aZ (m a s b H _ I h) λu d ⟨x,p,I1,g,j⟩=>?_);exact aZ (l pos a d b p _ I1 j) λq r ⟨c,o,n,f,i⟩=>⟨x::c,o,n,.cons g f,i⟩
noncomputable def RG(t:TA):TE:=λc H Q=>t c H λa b=>a.length<=sizeLine/\∀p,b p=none->Q (.ref p) (upd b p (.tup a))
noncomputable def RH(t:TA):TE:=λc H Q=>t c H λa b=>a.length<=sizeLine/\∀p,b p=none->Q (.ref p) (upd b p (.lst a))
theorem uI{i}(h:PA X es t):PE X (.Tuple es i pos) (RG t):=by intro a s f H Q I k;refine wpAny_Tuple_spliced (aZ (h pos a s f H _ I k) λj c ⟨g,d,I1,r,z,q⟩=>⟨by rw[<-r.length];exact z,?_⟩);have l:d c.heap.objs.size=none:=I1.hok.fresh (BM _);refine⟨.ref c.heap.objs.size,upd d c.heap.objs.size (.tup g),I1.laid (t':=c.toks) (λb u e=>D1 _ e) (BM _) ?_,rfl,q _ l⟩;exact⟨z,j,r,⟨_,GE _ rfl,rfl,_,rfl⟩⟩
theorem Ax(h:PA X es t):PE X (.List es pos) (RH t):=by intro a s f H Q I j;refine wpAny_List_spliced (aZ (h pos a s f H _ I j) λi c ⟨g,d,I1,r,z,q⟩=>⟨by rw[<-r.length];exact z,?_⟩);have k:d c.heap.objs.size=none:=I1.hok.fresh (BM _);refine⟨.ref c.heap.objs.size,upd d c.heap.objs.size (.lst g),I1.laid (t':=c.toks) (λb u e=>D1 _ e) (BM _) ?_,rfl,q _ k⟩;exact⟨z,i,0,r,GE _ rfl⟩
end
abbrev Sp:=List V->Hp->VK->XK->Prop
abbrev yG:=List Env->Hp->Shared->XK->Value->Shared->Prop
structure nU(P:Program)(w:World)(K:Frag)(mg:Str->Option Value)(base:Heap)(A:Around)(outer:List Env)(s:Shared)(H:Hp):Prop where
 frames:A.frames=some outer
 mod:Mod K mg base
 bs:∀b o,base.get? b=some o->s.heap.get? b=some o/\H b=none
 Du:base.objs.size<=s.heap.objs.size
 jv:s.heap.FunFrames base outer
 G6:∀b∈frs outer,H b=none
 hok:iC P w H s.heap
 bare:AllBare s.gens
 tree:P.given.tree=none
noncomputable def CE(a:List Env)(P:Program)(w:World)(H:Hp)(s:Shared)(Q:VK)(u:Value)(s':Shared):Prop:=
 ∃v b,s'.os=s.os/\AllBare s'.gens/\Un (frs a) [] H b s.heap s'.heap/\iC P w b s'.heap/\RelV v u/\Q v b
noncomputable def CR(CX:yG)(a:List Env)(P:Program)(w:World)(H:Hp)(s:Shared)(Q:VK)(E:XK)(r:Result)(s':Shared):Prop:=
 match r with
 |.ok (.ret u)=>CE a P w H s Q u s'
 |.ok _=>False
 |.error e=>CX a H s E e s'
structure bJ(P:Program)(w:World)(K:Frag)(mg:Str->Option Value)(base:Heap)(CX:yG)(k:Nat)(f:Addr)(fd:FuncData)(ps:List Str)(sp:Sp):Prop where
 len:∀vs H Q E,sp vs H Q E->vs.length=ps.length
 run:∀(A:Around)(outer:List Env)(s:Shared)(H:Hp)(args:Args)(us:List Value)(vs:List V)(Q:VK)(E:XK),bW k A->nU P w K mg base A outer s H->BindsTo s fd args (ps.zip us)->Vals vs us->sp vs H Q E->
  codeAny (model P w) A (.call (.ref f) args) (CR CX outer P w H s Q E) s
theorem bJ.imp{P:Program}{w:World}{K:Frag}{c:Str->Option Value}{base:Heap}{CX:yG}{k:Nat}{f:Addr}{d:FuncData}{ps:List Str}{sp e:Sp}(F:bJ P w K c base CX k f d ps sp)
 (h:∀vs H Q E,e vs H Q E->sp vs H Q E):bJ P w K c base CX k f d ps e:=
 ⟨λvs H Q E q=>F.len vs H Q E (h _ _ _ _ q),λA a s H b g vs Q E l m n i j=>F.run A a s H b g vs Q E l m n i (h _ _ _ _ j)⟩
theorem nU.make{P:Program}{w:World}{K:Frag}{b:Str->Option Value}{base:Heap}{A:Around}{a:List Env}{s:Shared}{H:Hp}(e:nU P w K b base A a s H)(C:Addr)(c:List Value)(d:List (Str×Value)):
 nU P w K b base (A.under (.builtin "type.__call__" ⟨.ref C::c,d⟩)) a s H:=⟨by first|exact e.frames|(simpa[Around.under,Code.envs,Code.isFrame,pushEnvs]using e.frames),e.mod,e.bs,e.Du,e.jv,e.G6,e.hok,e.bare,e.tree⟩
theorem nU.in1{P:Program}{w:World}{K:Frag}{b:Str->Option Value}{base:Heap}{A:Around}{a:List Env}{s:Shared}{H:Hp}(e:nU P w K b base A a s H):
 nU P w K b base A.in1 a s H:=⟨e.frames,e.mod,e.bs,e.Du,e.jv,e.G6,e.hok,e.bare,e.tree⟩
section
variable{X:Cx}{pins:List (Addr×Obj)}{σ:St}{H:Hp}{s s':Shared}
theorem Inv.Jt(I:Inv X pins σ H s):nU X.prog X.w X.K X.mg X.base X.A X.stack s H:=
 ⟨I.ok.frames,I.ok.mod,I.bs,IH I.ok.Du I.sz,I.stack,I.iF,I.hok,I.bare,I.ok.tree⟩
theorem Inv.after{Q:VK}{u:Value}(I:Inv X pins σ H s)(h:CE X.stack X.prog X.w H s Q u s'):EP X pins σ Q u s':=by obtain⟨v,j,os,a,f,e,r,q⟩:=h;obtain⟨i,g,d,t,c⟩:=s';obtain rfl:c=s.os:=os;exact⟨v,j,I.call (h':=i) (g':=g) (d':=d) (t':=t) (ch:=[]) f e a (λb z=>absurd z (by simp)),r,q⟩
end
noncomputable def Binds(K:Frag)(b:FuncData)(ps:List Str)(ds:List Value):Prop:=
 ∀(s:Shared)(a:List Value),K.In s.heap->(a++ds).length=ps.length->BindsTo s b ⟨a,[]⟩ (ps.zip (a++ds))
theorem Binds.all{K:Frag}{c:FuncData}{ps:List Str}(h:∀a:List Value,a.length=ps.length->bindArgs c ⟨a,[]⟩=pure (ps.zip a)):Binds K c ps []:=λs a _ b=>by rw[Y7]at b⊢;exact .of_eq (h a b)
noncomputable def Passes(CX:yG)(X:Cx)(E:XK):Prop:=∀(a:List (Addr×Obj))(c:St)(H:Hp)(s:Shared)(e:Value)(b:Shared),Inv X a c H s->CX X.stack H s E e b->X.xe e b
section
variable{X:Cx}{CX:yG}{k:Nat}{f C:Addr}{fd:FuncData}{ps:List Str}{sp:Sp}{DV:List V}{ds:List Value}{E:XK}{x m:Str}{p pos apos:Pos}{e o:Expr}{es:List Expr}{ta:TE}{t:TA}
theorem Ju{a:List (Addr×Obj)}{d:St}{H:Hp}{s:Shared}{Q:VK}{b:List Value}{vs:List V}(F:bJ X.prog X.w X.K X.mg X.base CX k f fd ps sp)(l:bW k X.A)(v:Binds X.K fd ps ds)(q:Vals DV ds)(j:Passes CX X E)
 (I:Inv X a d H s)(r:Vals vs b)(h:sp (vs++DV) H Q E):wpAny (model X.prog X.w) X.A (call (.ref f) b) (EP X a d Q) X.xe s:=by
 have g:Vals (vs++DV) (b++ds):=r.append q;have n:(b++ds).length=ps.length:=by rw[<-g.length];exact F.len _ _ _ _ h
 refine wpAny_call (YR (F.run X.A X.stack s H ⟨b,[]⟩ (b++ds) (vs++DV) Q E l I.Jt (v s b I.lC n) g h) λr i c=>?_);cases r with
 |error e=>exact j a d H s e i I c
 |ok fl=>
  cases fl with
  |ret u=>exact I.after c
  |next=>exact IM c
  |brk=>exact IM c
  |cont=>exact IM c
structure Mk(K:Frag)(C f:Addr):Prop where
 makes:PySem.W.makesIn K C=true
 init:findIn K (.ref C) "__init__"=some (some (.ref f))
 fn:isFn K (.ref f)=true
 kp:keepIn K (.ref C)=true
theorem Ay{a:List (Addr×Obj)}{i:St}{H:Hp}{s:Shared}{Q:VK}{c:List Value}{vs:List V}(M:Mk X.K C f)(F:bJ X.prog X.w X.K X.mg X.base CX k f fd ps sp)(z:bW (k+1) X.A)(G:Binds X.K fd ps ds)(D:Vals DV ds)
 (y:Passes CX X E)(I:Inv X a i H s)(r:Vals vs c)
 (h:∀x d,H x=none->H d=none->d≠x->sp (.ref x::(vs++DV)) (upd (upd H d (.own x)) x (.ins C d [])) (λv L=>v=.aM/\Q (.ref x) L) E):
 wpAny (model X.prog X.w) X.A (call (.ref C) c) (EP X a i Q) X.xe s:=by
 have l:=h (s.heap.objs.size+1) s.heap.objs.size (I.hok.fresh (Z8 _)) (I.hok.fresh (BM _)) (Ha (Qr _));have g:=Inv.made (C:=C) I;have j:Vals (V.ref (s.heap.objs.size+1)::(vs++DV)) (Value.ref (s.heap.objs.size+1)::(c++ds)):=.cons rfl (r.append D);have B:(Value.ref (s.heap.objs.size+1)::c++ds).length=ps.length:=by have e:=j.length;rw[F.len _ _ _ _ l]at e;exact e.symm
 refine wpAny_call (Aw (f:=f) I.lC M.makes M.init (Pm.mp M.fn) (YR (F.run _ X.stack _ _ ⟨Value.ref (s.heap.objs.size+1)::c,[]⟩ (Value.ref (s.heap.objs.size+1)::(c++ds)) _ _ E (z.make C c [])
  (g.Jt.make C c []) (G _ (Value.ref (s.heap.objs.size+1)::c) g.lC B) j l) λr n b=>?_))
 cases r with
 |error e=>exact y a i _ _ e n g b
 |ok fl=>
  cases fl with
  |ret u=>obtain⟨v,N,J,rv,ev,q⟩:=g.after b;subst ev;exact⟨rv,⟨V.ref (s.heap.objs.size+1),N,J,rfl,q⟩⟩
  |next=>exact IM b
  |brk=>exact IM b
  |cont=>exact IM b
end
noncomputable def PK(X:Cx)(d:List Keyword)(t:TA):Prop:=
 ∀(c:Pos)(a:List (Addr×Obj))(s:Shared)(b:St)(H:Hp)(Q:List V->Hp->Prop),Inv X a b H s->t b H Q->wpAny (model X.prog X.w) X.A (evalAll ((backToKw c (keywordEach d X.env)).map (·.2))) (AP X a b Q) X.xe s
section
variable{X:Cx}{CX:yG}{k:Nat}{f C:Addr}{fd:FuncData}{ps ks:List Str}{sp:Sp}{E:XK}{x m:Str}{p pos apos kpos:Pos}{e o:Expr}{es:List Expr}{kws:List Keyword}{te ta:TE}{t tk:TA}{nm:Option Str}
theorem Jv:PK X [] sd:=λ_ _ _ _ H Q I h=>wpAny_evalAll_nil ⟨[],H,I,.nil,h⟩
theorem DW(q:PE X e te)(n:PK X kws t):PK X (⟨nm,e,kpos⟩::kws) (j7 te t):=by intro pos a s b H Q I h;show wpAny _ _ (evalAll ((do let v<-eval e X.env;standAt pos;pure v)::(backToKw pos (keywordEach kws X.env)).map (·.2))) _ _ s;refine wpAny_evalAll_cons (FC (aZ (q a s b H _ I h) λu d ⟨x,y,I1,i,l⟩=>FC (YF (Kb ?_))));exact aZ (n pos a d b y _ I1 l) λz A ⟨c,w,r,g,j⟩=>⟨x::c,w,r,.cons i g,j⟩
variable{g:List Value->List Value->List Value}{gV:List V->List V->List V}
end
structure dW(N P:List Str)(sc:Scope):Prop where
 kind:sc.kind=.function
 co:sc.isCoroutine=false
 gen:sc.isGenerator=false
 nd:N.Nodup
 pre:N.take P.length=P
 par:∀x∈P,sc.names.lookup x=some .local\/sc.names.lookup x=some .cell
 Jw:∀y∈sc.names,y.2≠.free
theorem oH{b:Str->Option NameKind}{x:Str}:∀{a:List (Str×Value)}{m:Str->Option Value},(∀v,(x,v)∉a)->bindL b a m x=m x
 |[],_,_=>rfl
 |(n,v)::r,m,h=>by
  unfold bindL;rw[oH λw c=>h w (D2 _ c)];split
  .have:x≠n:=by rintro rfl;exact h v DL
   simp[this]
  .rfl
theorem oJ{b:Str->Option NameKind}{x:Str}:∀{a:List (Str×Value)}{m:Str->Option Value},(∀v,(x,v)∉a)->bindC b a m x=m x
 |[],_,_=>rfl
 |(n,v)::r,m,h=>by
  unfold bindC;rw[oJ λw c=>h w (D2 _ c)];split
  .rfl
  .have:x≠n:=by rintro rfl;exact h v DL
   simp[this]
theorem oM{a:Str->Option NameKind}{x:Str}{v:Value}:∀{P:List Str}{vs:List Value}{i:Nat}{m:Str->Option Value},P.Nodup->P[i]?=some x->vs[i]?=some v->a x=some .local->
 bindL a (P.zip vs) m x=some v
 |[],_,_,_,_,h,_,_=>by simp at h
 |_::_,[],_,_,_,_,h,_=>by simp at h
 |p::P,w::vs,0,m,d,c,b,e=>by simp at c b;subst c;subst b;show bindL a ((p,w)::P.zip vs) m p=_;unfold bindL;rw[oH λv f=>(NA.mp d).1 (Sz f).1,Bz e];simp
 |p::P,w::vs,i+1,m,d,c,b,e=>by show bindL a ((p,w)::P.zip vs) m x=_;unfold bindL;exact oM (i:=i) (NA.mp d).2 (by simpa using c) (by simpa using b) e
theorem oN{a:Str->Option NameKind}{x:Str}{v:Value}:∀{P:List Str}{vs:List Value}{i:Nat}{m:Str->Option Value},P.Nodup->P[i]?=some x->vs[i]?=some v->a x≠some .local->
 bindC a (P.zip vs) m x=some v
 |[],_,_,_,_,h,_,_=>by simp at h
 |_::_,[],_,_,_,_,h,_=>by simp at h
 |p::P,w::vs,0,m,d,c,b,e=>by simp at c b;subst c;subst b;show bindC a ((p,w)::P.zip vs) m p=_;unfold bindC;rw[oJ λv f=>(NA.mp d).1 (Sz f).1,Bn e];simp
 |p::P,w::vs,i+1,m,d,c,b,e=>by show bindC a ((p,w)::P.zip vs) m x=_;unfold bindC;exact oN (i:=i) (NA.mp d).2 (by simpa using c) (by simpa using b) e
noncomputable def start(N:List Str)(vs:List V):St:=vs.map some++Aq (N.length -vs.length) none
noncomputable def yH(CX:yG)(P:Program)(w:World)(K:Frag)(mg:Str->Option Value)(base:Heap)(N:List Str)(b:Str)(a:Scope)(f:Addr)(d:Value)(A:Around)(outer:List Env)(s:Shared)(H:Hp)(E:XK):Cx where
 prog:=P
 w:=w
 K:=K
 mg:=mg
 base:=base
 A:=A.deeper (envOfC b a s.heap.objs.size f d)
 N:=N
 s₀:=s
 H₀:=H
 env:=envOfC b a s.heap.objs.size f d
 outer:=outer
 stack:=envOfC b a s.heap.objs.size f d::outer
 ex:=[]
 calm:=true
 fn:=λ_=>true
 pn:=[]
 xe:=λe g=>wpAny (model P w) (A.deeper (envOfC b a s.heap.objs.size f d)) (leaving (envOfC b a s.heap.objs.size f d) e) (λ_ c=>CX outer H s E e c) (λh c=>CX outer H s E h c) g
theorem se{sc:Scope}{n:Nat}{x:Str}(h:sc.names.lookup x=some .cell):∃c,(cellsFrom n sc.names []).lookup x=some c:=by have q:=PySem.W.cellsFrom_some sc.names n [] (.inl h);exact PP.mp q
theorem yI{CX:yG}{P:Program}{w:World}{K:Frag}{J:Str->Option Value}{base:Heap}{N ps:List Str}{l:Str}{d:Scope}{f:Addr}{G:Value}{A:Around}{g:List Env}{s s1:Shared}{H:Hp}{E:XK}{I:List Value}{vs:List V}
 (S:dW N ps d)(T:A.handled=none)(Xd:A.depth+110<recursionLimit)(j:nU P w K J base A g s H)(hl:vs.length=ps.length)(r:Vals vs I)
 (x:InCallC s s.heap.objs.size (bindL (envOfC l d s.heap.objs.size f G).kindOf (ps.zip I) λ_=>none) (cellsFrom (s.heap.objs.size+1) d.names []) (bindC (envOfC l d s.heap.objs.size f G).kindOf (ps.zip I) λ_=>none) s1):
 Inv (yH CX P w K J base N l d f G A g s H E) [] (start N vs) H s1:=by
 have Q:ps.length<=N.length:=by have:=GT VX S.pre;rw[Re]at this;lia
 obtain⟨D,Z,rfl,B⟩:=x.done;have L:∀b:Addr,b∉(yH CX P w K J base N l d f G A g s H E).ex:=λb z=>absurd (show b∈([]:List Addr)from z) (by simp);refine⟨⟨j.mod,S.kind,rfl,rfl,BM _,λy z c D m=>?_,λy o=>?_,λy c _ h=>?_,λ_=>T,Around.frames_deeper j.frames,.inr ⟨rfl,rfl⟩,λb z=>absurd z (L b),j.bs,j.Du,λb _ _=>L b,λb z=>absurd z (L b),j.jv,j.G6,j.tree,λA' s' R Y B=>PylongRoom.of (j.mod.nolimit.keeps B) (by rw[Y];show A.depth+1+100<_;lia) (SeerAt.of (j.mod.seer.keeps B) j.tree (R.trans (Around.frames_deeper j.frames)) S.gen S.co rfl rfl)⟩,
  rfl,j.bare,Un.kept B,⟨_,x.toInCall.ns,λi y v D m h3=>?_⟩,λy c h=>⟨_,x.cell y c h⟩,j.hok.fresh (BM _),λy c h=>?_,λp t=>absurd (show p∈([]:List (Addr×Obj))from t) (by simp),j.hok.kept B,?_⟩
 .exact name_of_addr x.apart (N0 D) (N0 m)
 .have o:d.names.lookup y=some .cell\/d.names.lookup y=some .free:=o;rcases o with o|o
  .exact se o
  .exact absurd rfl (S.Jw _ (N0 o))
 .exact Ye (x.above y c (N0 h))
 .have C:i<vs.length:=by
   unfold start at m;by_cases C:i<vs.length
   .exact C
   .rw[Jn (by simpa using C)]at m;rw[Tb]at m;split at m<;>cases m
  have U:vs[i]?=some v:=by
   unfold start at m;rw[OK (by simpa using C),Dx]at m;cases e:vs[i]? with
   |none=>rw[e]at m;cases m
   |some a=>rw[e]at m;cases m;rfl
  obtain⟨u,M,rv⟩:=r.get U;have t:ps[i]?=some y:=by rw[<-S.pre,XB (by lia)];exact D
  have O:ps.Nodup:=by rw[<-S.pre];exact S.nd.sublist (List.take_sublist _ _)
  refine⟨u,rv,?_⟩;rcases S.par y (OF t)with k|k
  .exact .inl ⟨k,oM O t M k⟩
  .obtain⟨c,e⟩:=se (n:=s.heap.objs.size+1) k;refine .inr ⟨.inl k,c,e,?_⟩;have q:=x.cell y c e;rw[oN O t M (by show d.names.lookup y≠_;rw[k];decide)]at q;exact q
 .exact j.hok.fresh (Ye (x.above y c (N0 h)))
 .unfold start;show _=N.length;rw[Fk,Ap,Y2];lia
theorem NL{CX:yG}{P:Program}{w:World}{K:Frag}{L:Str->Option Value}{base:Heap}{k:Nat}{f:Addr}{l d:Str}{h:Arguments}{i:List Stmt}{a:Scope}{dV kV G pm g ct oc:Value}{an od:Option Addr}
 {R:Array (Option Value)}{N ps:List Str}{sp:Sp}(lk:K.lookup f=some ⟨oc,od,.func (fnOf l d h i a dV kV G pm an g ct),R⟩)(U:codeIn K g d=true)(S:dW N ps a)
 (B:∀vs H Q E,sp vs H Q E->vs.length=ps.length)
 (p:∀(A:Around)(c:List Env)(s:Shared)(H:Hp)(vs:List V)(Q:VK)(E:XK),bW k (A.deeper (envOfC d a s.heap.objs.size f g))->sp vs H Q E->
   ∃t,rX (yH CX P w K L base N d a f g A c s H E) i t/\t {nx:=λ_ H'=>Q .aM H',rt:=Q} (start N vs) H):
 bJ P w K L base CX (k+1) f (fnOf l d h i a dV kV G pm an g ct) ps sp:=by
 refine⟨B,λA c s H args us vs Q E M D hb r Y=>?_⟩;have hl:=B _ _ _ _ Y;have KX:K.In s.heap:=D.mod.QF.keeps λb o e=>(D.bs b o e).1;have T:s.heap.NoLimit:=D.mod.nolimit.keeps λb o e=>(D.bs b o e).1;have m:∀y∈ps.zip us,a.names.lookup y.1=some .local\/(a.names.lookup y.1=some .cell/\((cellsFrom (s.heap.objs.size+1) a.names []).lookup y.1).isSome=true):=λ⟨n,v⟩ hy=>by
  rcases S.par n (Sz hy).1 with q|q
  .exact .inl q
  .exact .inr ⟨q,PySem.W.cellsFrom_some _ _ _ (.inl q)⟩
 refine codeAny_call_function M.depth (KX _ _ lk) rfl S.co S.gen rfl (PySem.W.codeRec_of KX U) (hb _ _ _ _ ?_);refine wpAny_newFunctionEnv_cells S.kind m λenv he Z x=>?_;subst he;refine⟨T.keeps x.toInCall.keep,codeAny_func ?_⟩;obtain⟨t,ht,hq⟩:=p A c s H vs Q E (M.deeper _) Y;have I:Inv (yH CX P w K L base N d a f g A c s H E) [] (start N vs) H Z:=yI S M.hd (by have:=M.dp;lia) D hl r x;refine SF (ht [] Z (start N vs) H _ I hq) (λfl O z=>?_) λe O z=>z;have C:∀{j:St}{H':Hp}{v:V}{u:Value},Inv (yH CX P w K L base N d a f g A c s H E) [] j H' O->RelV v u->Q v H'->CE c P w H s Q u O:=
  λ{j H' v u} J rv q=>⟨v,H',J.os,J.bare,J.base,J.hok,rv,q⟩
 cases fl with
 |ret u=>obtain⟨v,j,H',J,rv,q⟩:=z;exact C J rv q
 |next=>obtain⟨j,H',J,q⟩:=z;exact C (v:=V.aM) (u:=Value.none) J rfl q
 |brk=>obtain⟨_,_,_,q⟩:=z;exact IM q
 |cont=>obtain⟨_,_,_,q⟩:=z;exact IM q
section
variable{X:Cx}{x:Str}{p pos:Pos}{e:Expr}{es:List Expr}{t:TA}{id T:String}{r:List V->Hp->VK->Prop}
noncomputable def TR(r:List V->Hp->VK->Prop)(t:TA):TE:=λa H Q=>t a H λb c=>r b c Q
theorem lI(u:bN X (.builtin id) r)(o:Gl X x)(n:X.mg x=none)(l:bootBuiltins x=some (.builtin id))(v:PA X (e::es) t)(m:x≠"__name__":=by decide)(c:(x==("__debug__":Str))=false:=by decide)
 (q:starEach (e::es) X.env=(false,eval e X.env)::starEach es X.env:=by rfl)(b:(backTo pos (starEach es X.env)).any (·.1)=false:=by rfl):PE X (.Call (.Name x p) (e::es) [] pos) (TR r t):=by
 intro a s d H Q I h;refine X5 (dD I o n l ?_ m c);exact Z5 (aZ (v pos a s d H _ I h) λg i ⟨f,w,I1,j,k⟩=>u a i d w f g Q I1 j k) q b
theorem oO(u:bN X (.type T) r)(o:Gl X x)(n:X.mg x=none)(l:bootBuiltins x=some (.type T))(v:PA X (e::es) t)(m:x≠"__name__":=by decide)(c:(x==("__debug__":Str))=false:=by decide)
 (q:starEach (e::es) X.env=(false,eval e X.env)::starEach es X.env:=by rfl)(b:(backTo pos (starEach es X.env)).any (·.1)=false:=by rfl):PE X (.Call (.Name x p) (e::es) [] pos) (TR r t):=by
 intro a s d H Q I h;refine X5 (dD I o n l ?_ m c);exact L9 (aZ (v pos a s d H _ I h) λg i ⟨f,w,I1,j,k⟩=>u a i d w f g Q I1 j k) q b
end
end L2
namespace HT
open PySem PyProof.Rows
noncomputable def lexLt:List Int->List Int->Bool
 |[],[]=>false
 |[],_::_=>true
 |_::_,[]=>false
 |x::b,y::a=>if x=y then lexLt b a else decide (x<y)
theorem gX(x y:Int)(b a:List Int):lexLt (x::b) (y::a)=if x=y then lexLt b a else decide (x<y):=rfl
theorem nV:lexLt [] []=false:=rfl
theorem lJ(y:Int)(a:List Int):lexLt [] (y::a)=true:=rfl
theorem lK(x:Int)(a:List Int):lexLt (x::a) []=false:=rfl
theorem Az(A:Around)(s:Shared)(a:Int)(t:Tok)(c:Int)(u:Tok):∃e,SeqAt.EqAt A s (.int a t) (.int c u) e/\(e=true↔a=c):=
 ⟨(a==c),YW a t c u,by simp⟩
theorem sf(A:Around)(s:Shared)(a:Int)(t:Tok)(c:Int)(u:Tok)(prog:Program)(w:World)(E:Value->Shared->Prop)(Q:Value->Shared->Prop)(h:Q (.bool (decide (a<c))) s):
 wpAny (model prog w) A (richCompare .Lt (.int a t) (.int c u)) Q E s:=
 (TN h:wpAny (model prog w) A (compareOp .Lt (.int a t) (.int c u)) Q E s)
section
open PySem.SeqAt
open PySem.AutoSeq1 (wpAny_loadPart')
open PySem.MeetsSeq PySem.MeetsSeq2 PySem.MeetsSeq3
end
section
variable{prog:Program}{w:World}{A:Around}{E:Value->Shared->Prop}{s:Shared}
theorem DX{t b:Addr}{vs a:List Value}{Q:Value->Shared->Prop}(u:IsTup s.heap t vs.toArray)(v:IsTup s.heap b a.toArray)(p:vs≠[])
 (y:a=[]->Q (.ref t) s)(x:a≠[]->Q (.ref s.heap.objs.size) {s with heap:=s.heap.push {cls:=.type "tuple",data:=.seq (vs++a).toArray}})
 (k:vs.length+a.length<=sizeLine):wpAny (model prog w) A (binaryOp .Add (.ref t) (.ref b)) Q E s:=by
 obtain⟨⟨cls,dd,data,m⟩,j,r,n,q⟩:=id u;obtain⟨⟨z,h,l,d⟩,c,g,o,f⟩:=id v;simp only at r q g f;subst r q g f;have e:vs.toArray++a.toArray=(vs++a).toArray:=by simp
 by_cases i:a=[]
 .exact concat_meets ⟨_,j,rfl⟩ ⟨_,c,rfl⟩ noFill_tuple_add seq_tuple_add PySem.F.slot_tuple_add PySem.F.entry_tuple_add (PySem.F.args_tuple_add_2 _ _)
   (tuple_addW1 t b vs.toArray a.toArray n o dd h m d (by simpa using p) (by simp[i])) ⟨j,c,y i⟩
 .refine concat_meets ⟨_,j,rfl⟩ ⟨_,c,rfl⟩ noFill_tuple_add seq_tuple_add PySem.F.slot_tuple_add PySem.F.entry_tuple_add (PySem.F.args_tuple_add_2 _ _)
   (tuple_addW2 t b vs.toArray a.toArray n o dd h m d (by simpa using p) (by simpa using i) (by rw[Ee,Ee];exact k)) ⟨j,c,?_⟩
  rw[e];exact x i
noncomputable def oQ(n d:Nat):Option Int->Nat
 |none=>d
 |some v=>if v<0 then(v+(n:Int)).toNat else min v.toNat n
theorem AA(n d:Nat):oQ n d none=d:=rfl
theorem DY(n d k:Nat):oQ n d (some (k:Int))=min k n:=by show(if(k:Int)<0 then((k:Int)+(n:Int)).toNat else min (k:Int).toNat n)=min k n;rw[Bn (by lia),Fc]
end
end HT
namespace L2
open PySem PySem.Spec PyProof.Rows
abbrev TO:=St->Hp->(Option Int->Hp->Prop)->Prop
noncomputable def PO(X:Cx)(e:Option Expr)(t:TO):Prop:=
 ∀(a:List (Addr×Obj))(s:Shared)(b:St)(H:Hp)(Q:Option Int->Hp->Prop),Inv X a b H s->t b H Q->
  wpAny (model X.prog X.w) X.A (evalPart e X.env) (λu d=>∃o c,Inv X a b c d/\IsPart u o/\Q o c) X.xe s
noncomputable def DZ:TO:=λ_ H Q=>Q none H
noncomputable def NO(t:TE):TO:=λa H Q=>t a H λx b=>∃i,x=.int i/\Q (some i) b
theorem intsAre_of{ns:List Int}:∀{a:List Value},Vals (ns.map V.int) a->IntsAre a ns:=by
 induction ns with
 |nil=>intro a r;rw[Qf]at r;cases r;exact .nil
 |cons n ns d=>
  intro a r;rw[Kk]at r;cases r with
  |cons c b=>obtain⟨t,e⟩:=c;subst e;exact .cons n t (d b)
section
variable{X:Cx}{e:Expr}{te:TE}{lo hi:Option Expr}{tl th:TO}{pos p2:Pos}
theorem D3:PO X none DZ:=by intro a s b H Q I h;rw[evalPart_none];exact Kb ⟨none,H,I,.none,h⟩
theorem wF(h:PE X e te):PO X (some e) (NO te):=by intro a s b H Q I f;rw[evalPart_some];refine aZ (h a s b H _ I f) λu j ⟨x,g,I1,c,d⟩=>?_;obtain⟨i,rfl,q⟩:=d;obtain⟨t,rfl⟩:=c;exact⟨some i,g,I1,.int i t,q⟩
noncomputable def TU(X:Cx)(r:V->Option Int->Option Int->Hp->VK->Prop):Prop:=
 ∀(a:List (Addr×Obj))(s:Shared)(b:St)(H:Hp)(x:V)(v d c:Value)(lo hi:Option Int)(f:Addr)(Q:VK),Inv X a b H s->RelV x v->s.heap.IsSliceOf f d c .none->IsPart d lo->IsPart c hi->r x lo hi H Q->
  ∃T g,typeLookup (.type T) "__getitem__"=pure (some (.builtin g))/\s.TypeIs v T/\wpAny (model X.prog X.w) X.A (getItem v (.ref f)) (EP X a b Q) X.xe s
noncomputable def U4(r:V->Option Int->Option Int->Hp->VK->Prop)(te:TE)(tl th:TO):TE:=λa H Q=>te a H λx d=>tl a d λl c=>th a c λu b=>r x l u b Q
theorem AB{r:V->Option Int->Option Int->Hp->VK->Prop}(C:TU X r)(G:PE X e te)(D:PO X lo tl)(z:PO X hi th):PE X (.Subscript e (.Slice lo hi none p2) pos) (U4 r te tl th):=by intro a s d H Q I h;refine Subscript_ (aZ (G a s d H _ I h) λv k ⟨x,O,I1,m,p⟩=>?_);refine wpAny_Slice (aZ (D a k d O _ I1 p) λg j ⟨l,N,M,y,o⟩=>aZ (z a j d N _ M o) λf c ⟨u,i,L,t,n⟩=>?_);rw[evalPart_none];refine Kb ?_;have K:Inv X a d i {c with heap:=c.heap.push {cls:=.type "slice",data:=.fields #[g,f,.none]}}:=L.kept (t':=c.toks) λb P q=>D1 _ q;obtain⟨T,R,J,B,E⟩:=C a {c with heap:=c.heap.push {cls:=.type "slice",data:=.fields #[g,f,.none]}} d i x v g f l u c.heap.objs.size Q K m (Heap.IsSliceOf.new ..) y t n;show wpAny (model X.prog X.w) X.A (subscriptTail e (.Slice lo hi none p2) v (.ref c.heap.objs.size)) (EP X a d Q) X.xe {c with heap:=c.heap.push {cls:=.type "slice",data:=.fields #[g,f,.none]}};exact tail_any (ops:=[.ref c.heap.objs.size,v]) B J E (by with_unfolding_all rfl)
noncomputable def yJ(a:List V)(lo hi:Option Int):List V:=(a.drop (HT.oQ a.length 0 lo)).take (HT.oQ a.length a.length hi -HT.oQ a.length 0 lo)
theorem sj(a:List V)(lo hi:Option Int):(yJ a lo hi).length<=a.length:=by unfold yJ;rw[Re,Sb];lia
noncomputable def NP(K:Frag):R2:=λx y H Q=>∃a b d c,x=.ref a/\y=.ref b/\gJ K H a d/\gJ K H b c/\d≠[]/\d.length+c.length<=sizeLine/\
 (c=[]->Q (.ref a) H)/\(c≠[]->∀p,H p=none->Q (.ref p) (upd H p (.tup (d++c))))
theorem Vals.pQ{a:List V}{b:List Value}(r:Vals a b):b=[]↔a=[]:=by
 cases r with
 |nil=>simp
 |cons _ _=>simp
theorem D4:gK X (binaryOp .Add) (NP X.K):=by intro f s C H x y v u Q I l k h;obtain⟨a,b,j,i,rfl,rfl,B,A,t,hz,n,m⟩:=h;cases l;cases k;obtain⟨r,d,p,_⟩:=I.tuple B;obtain⟨g,c,p2,_⟩:=I.tuple A;refine HT.DX p p2 (λz=>t (d.pQ.mp z)) (λz=>⟨.ref a,H,I,rfl,n (c.pQ.mp z)⟩) (λz=>?_) (by rw[<-d.length,<-c.length];exact hz);refine⟨.ref s.heap.objs.size,_,I.laid (t':=s.toks) (o:=.tup (j++i)) (λb D q=>D1 _ q) (BM _) ?_,rfl,m (λw=>z (c.pQ.mpr w)) _ (I.hok.fresh (BM _))⟩;exact⟨by rw[Fk];exact hz,_,d.append c,IsTup.new _ _⟩
end
noncomputable def uh(n:Nat)(i:Int):Option Nat:=if 0<=i then(if i<n then some i.toNat else none)else if-(n:Int)<=i then some (i+n).toNat else none
noncomputable def jo{α:Type}(a:List α)(i:Int):Option α:=(uh a.length i).bind λj=>a[j]?
theorem wG{n:Nat}{i:Int}{j:Nat}(h:uh n i=some j):seqIndex? i n=some j/\j<n/\-(n:Int)<=i/\i<n:=by
 unfold uh at h;by_cases b:0<=i
 .rw[Bz b]at h;by_cases a:i<n
  .rw[Bz a]at h;have e:i.toNat=j:=He h;exact⟨by rw[seqIndex_of b a,e],by lia,by lia,a⟩
  .rw[Bn a]at h;cases h
 .rw[Bn b]at h;by_cases a: -(n:Int)<=i
  .rw[Bz a]at h;have e:(i+n).toNat=j:=He h;exact⟨by rw[seqIndex_neg (by lia) a,e],by lia,a,by lia⟩
  .rw[Bn a]at h;cases h
theorem pR{α:Type}{a:List α}{i:Int}{v:α}(h:jo a i=some v):∃j,seqIndex? i a.length=some j/\a[j]?=some v/\j<a.length/\-(a.length:Int)<=i/\i<a.length:=by
 unfold jo at h;cases e:uh a.length i with
 |none=>rw[e]at h;cases h
 |some j=>rw[e]at h;obtain⟨f,d,c,b⟩:=wG e;exact⟨j,f,h,d,c,b⟩
theorem aV{α:Type}{a:List α}{j:Nat}{v:α}(h:a[j]?=some v):jo a (j:Int)=some v:=by
 have b:j<a.length:=(FS.mp h).1;have e:uh a.length (j:Int)=some j:=by unfold uh;rw[Bz (by lia),Bz (by lia)];simp
 unfold jo;rw[e];exact h
noncomputable def iI(b:Expr):Prop:=∀o i,subscripted b false o i=operate [o,i] (getItem o i)
noncomputable def D5(X:Cx)(r:R2):Prop:=
 ∀(c a:Expr)(b:List (Addr×Obj))(s:Shared)(d:St)(H:Hp)(x y:V)(v u:Value)(Q:VK),Inv X b d H s->RelV x v->RelV y u->r x y H Q->
  subscripted a false v u=operate [v,u] (getItem v u)->wpAny (model X.prog X.w) X.A (subscriptTail c a v u) (EP X b d Q) X.xe s
noncomputable def TV(X:Cx)(e:String)(r:V->List V->Hp->VK->Prop):Prop:=
 ∀(a:List (Addr×Obj))(s:Shared)(b:St)(H:Hp)(x:V)(c:List V)(v:Value)(d:List Value)(Q:VK),Inv X a b H s->RelV x v->Vals c d->r x c H Q->
  wpAny (model X.prog X.w) X.A (call (.builtin e) (v::d)) (EP X a b Q) X.xe s
section
variable{X:Cx}{a b:Expr}{ta tb:TE}{pos:Pos}
theorem D5.or{r j:R2}(h:D5 X r)(h':D5 X j):D5 X (λx y H Q=>r x y H Q\/j x y H Q):=by
 intro c d e s f H x y v u Q I i g q k;rcases q with q|q
 .exact h c d e s f H x y v u Q I i g q k
 .exact h' c d e s f H x y v u Q I i g q k
theorem AD{r:R2}(j:D5 X r)(l:PE X a ta)(k:PE X b tb)(i:iI b):PE X (.Subscript a b pos) (UX r ta tb):=by intro c s d H Q I h;exact Subscript_ (RC l k I h λv u e x y n m g f q=>j a b c e d n x y v u Q m g f q (i _ _))
noncomputable def NQ(K:Frag):R2:=λx y H Q=>∃p c i v,x=.ref p/\y=.int i/\dU K H p c/\jo c i=some v/\Q v H
noncomputable def NR(K:Frag):R2:=λx y H Q=>∃p c i v,x=.ref p/\y=.int i/\gJ K H p c/\jo c i=some v/\Q v H
noncomputable def NS:R2:=λx y H Q=>∃z i c,x=.str z/\y=.int i/\z.length<=sizeLine/\jo z.cps.toList i=some c/\Q (.str ⟨#[c]⟩) H
theorem D6:D5 X (NQ X.K):=by
 intro f g c s o H x y v u Q I G E h A;obtain⟨p,R,i,z,rfl,rfl,J,M,q⟩:=h;cases G;obtain⟨t,rfl⟩:=E;obtain⟨m,r,l,hz⟩:=I.list J;obtain⟨j,e,P,T,O,N⟩:=pR M;obtain⟨w,C,k⟩:=r.get P;have L:=r.length;have S:=lH;have d:EP X c o Q w s:=⟨z,H,I,k,q⟩;by_cases B:0<=i
 .have n:i.toNat=j:=by rw[seqIndex_of B N]at e;exact He e
  exact item_listR l.isList B (by lia) (by rw[n];simpa using C) d A
 .have n:(i+(m.toArray.size:Int)).toNat=j:=by rw[seqIndex_neg (by lia) O]at e;rw[Ee,<-L];exact He e
  exact subscriptTail_builtinR (x:=w) l.isList.typeIs slot_list_getitem.lookup
   (wpAny_getItem_list_neg (Q:=λr D=>r=w/\EP X c o Q r D) l.isList (by lia) (by rw[Ee]<;>lia) (by lia) (by rw[n];simpa using C) ⟨rfl,d⟩) A
theorem Jx:D5 X (NR X.K):=by
 intro d e c s k H x y v u Q I o n h B;obtain⟨p,M,i,z,rfl,rfl,C,E,q⟩:=h;cases o;obtain⟨t,rfl⟩:=n;obtain⟨A,r,l,hz⟩:=I.tuple C;obtain⟨j,J,G,R,P,O⟩:=pR E;obtain⟨w,L,f⟩:=r.get G;have D:=r.length;have N:=lH;have g:EP X c k Q w s:=⟨z,H,I,f,q⟩;exact subscriptTail_builtinR (x:=w) l.typeIs slot_tuple_getitem.lookup
  (getItem_tuple (j:=j) (Q:=λr m=>r=w/\EP X c k Q r m) l (by lia) (by lia) (by rw[Ee,<-D];exact J) (by simpa using L) ⟨rfl,g⟩) B
theorem Jy:D5 X NS:=by
 intro d e f s C H x y v u Q I l k h m;obtain⟨z,i,c,rfl,rfl,hz,o,q⟩:=h;obtain⟨t,rfl⟩:=l;obtain⟨D,rfl⟩:=k;obtain⟨j,g,w,G,r,p⟩:=pR o;have n:z.cps.toList.length=z.length:=by simp[Str.length]
 rw[n]at g r p;have E:=lH;exact tail_any (typeIs_str s z t) slot_str_getitem.lookup (getItem_str (c:=c) (by have B:decide (i< -(2^63:Int))=false:=KB (by lia);have A:decide (i>=2^63)=false:=KB (by lia);rw[B,A,QP]) (by rw[g];simpa using w) ⟨.str ⟨#[c]⟩,H,I.tok _,⟨_,rfl⟩,q⟩) m
noncomputable def U5(K:Frag):R2:=λx y H Q=>NQ K x y H Q\/NR K x y H Q\/NS x y H Q
theorem uJ:D5 X (U5 X.K):=D6.or (Jx.or Jy)
theorem uK(c:List Value)(n j:Nat)(u:Value):Obj.mapSeq (·.setIfInBounds j u) {cls:=.type "list",data:=.seq c.toArray n}={cls:=.type "list",data:=.seq (c.set j u).toArray n}:=by simp[Obj.mapSeq]
theorem Inv.lst{d:List (Addr×Obj)}{g:St}{H:Hp}{s:Shared}{p:Addr}{f:List V}(I:Inv X d g H s)(h:H p=some (.lst f)):
 ∃(c:List Value)(n:Nat),Vals f c/\s.heap.get? p=some {cls:=.type "list",data:=.seq c.toArray n}/\f.length<=sizeLine:=by
 obtain⟨z,c,n,r,e⟩:=I.hok p _ h;exact⟨c,n,r,e,z⟩
theorem Inv.Jz{c:List (Addr×Obj)}{j:St}{H:Hp}{s:Shared}{p:Addr}{l g:List V}{d its':List Value}{n i:Nat}{f:Obj->Obj}(I:Inv X c j H s)(h:H p=some (.lst l))
 (m:s.heap.get? p=some {cls:=.type "list",data:=.seq d.toArray n})(k:f {cls:=.type "list",data:=.seq d.toArray n}={cls:=.type "list",data:=.seq its'.toArray i})(r:Vals g its')(hz:g.length<=sizeLine)(t:Nat):
 Inv X c j (upd H p (.lst g)) {s with heap:=s.heap.update p f,toks:=t}:=by
 have e:(s.heap.update p f).get? p=some {cls:=.type "list",data:=.seq its'.toArray i}:=by rw[Heap.get?_update_self f m (by rw[k]<;>rfl),k]
 refine I.write (x:=p) (e:=p) (by rw[h];trivial) (.inl rfl) (λb u o q=>(Heap.get?_update_other _ _ (Mo o)).trans q) ⟨_,e⟩ ?_;exact⟨hz,its',i,r,e⟩
noncomputable def Hr:V->V->V->Hp->(Hp->Prop)->Prop:=λo i v H Q=>∃p c k j,o=.ref p/\i=.int k/\H p=some (.lst c)/\uh c.length k=some j/\Q (upd H p (.lst (c.set j v)))
theorem set_list:Nu X Hr:=by
 intro c s A H o i v G J u Q I C D rv h;obtain⟨p,B,k,j,rfl,rfl,m,E,q⟩:=h;cases C;obtain⟨t,rfl⟩:=D;obtain⟨d,n,r,f,hz⟩:=I.lst m;obtain⟨e,L,x,w⟩:=wG E;have g:=r.length;have K:=lH;have z:Inv X c A (upd H p (.lst (B.set j v))) {s with heap:=s.heap.update p (Obj.mapSeq (·.setIfInBounds j u))}:=
  I.Jz m f (uK d n j u) (r.set rv j) (by rw[KF];exact hz) s.toks
 by_cases y:0<=k
 .have l:k.toNat=j:=by rw[seqIndex_of y w]at e;exact He e
  exact PySem.W.ki_setAt f y (by lia) (by rw[Ee,<-g];exact w) (by rw[l];exact⟨_,z,q⟩)
 .have l:(k+(d.toArray.size:Int)).toNat=j:=by rw[seqIndex_neg (by lia) x]at e;rw[Ee,<-g];exact He e
  exact PySem.W.ki_setBack f (by lia) (by rw[Ee,<-g];exact x) (by lia) (by rw[l];exact⟨_,z,q⟩)
theorem pS(c d:Option Int)(n:Nat):(sliceBounds c d none n).1=((HT.oQ n 0 c:Nat):Int)/\(sliceBounds c d none n).2.1=((HT.oQ n n d:Nat):Int)/\(sliceBounds c d none n).2.2=1:=by
 refine⟨?_,?_,rfl⟩
 .cases c with
  |none=>simp[sliceBounds,HT.oQ]
  |some i=>
   simp only[sliceBounds,HT.oQ,W8,show(1:Int)>0 by decide,if_true];by_cases h:i<0
   .simp only[h,if_true]<;>lia
   .simp only[h,YU]<;>lia
 .cases d with
  |none=>simp[sliceBounds,HT.oQ]
  |some i=>
   simp only[sliceBounds,HT.oQ,W8,show(1:Int)>0 by decide,if_true];by_cases h:i<0
   .simp only[h,if_true]<;>lia
   .simp only[h,YU]<;>lia
theorem nW(c:List Value)(d e:Option Int):slicePick c.toArray d e none=((c.drop (HT.oQ c.length 0 d)).take (HT.oQ c.length c.length e -HT.oQ c.length 0 d)).toArray:=by obtain⟨h,g,f⟩:=pS d e c.toArray.size;unfold slicePick;rw[h,g,f];simp only[sliceRange_one,pick_run,Ee]<;>rfl
noncomputable def RI(K:Frag):V->Option Int->Option Int->Hp->VK->Prop:=λx d e H Q=>∃a c,x=.ref a/\dU K H a c/\∀p,H p=none->Q (.ref p) (upd H p (.lst (yJ c d e)))
theorem D7:TU X (RI X.K):=by intro g s t H x v w u e f y Q I j p l k h;obtain⟨a,c,rfl,n,q⟩:=h;cases j;obtain⟨m,r,i,hz⟩:=I.list n;have d:=r.length;refine⟨"list",_,slot_list_getitem.lookup,i.isList.typeIs,?_⟩;refine wpAny_getItem_list_slice i.isList p l k .none (by simp) ?_ (by rw[Ee]<;>lia);rw[nW,<-d];refine⟨.ref s.heap.objs.size,_,I.laid (t':=s.toks) (o:=.lst (yJ c e f)) (λb z q=>D1 _ q) (BM _) ?_,rfl,q _ (I.hok.fresh (BM _))⟩;exact⟨IH (sj c e f) hz,_,0,(r.drop (HT.oQ c.length 0 e)).take (HT.oQ c.length c.length f -HT.oQ c.length 0 e),GE _ rfl⟩
theorem fE:bN X (.builtin "len") (λj H Q=>∃p d,j=[.ref p]/\(dU X.K H p d\/gJ X.K H p d)/\Q (.int d.length) H):=by
 intro k s m H j n Q I r h;obtain⟨p,d,rfl,e,q⟩:=h;obtain⟨u,rfl,l⟩:=vals1 r;cases l;have o:=lH;rcases e with e|e
 .obtain⟨i,f,g,hz⟩:=I.list e;have c:=f.length;exact Calls.call_len_list g.isList (by simp only[Ee]<;>lia) ⟨.int d.length,H,I.tok _,⟨s.toks+1,by rw[Ee,c]⟩,q⟩
 .obtain⟨i,f,g,hz⟩:=I.tuple e;have c:=f.length;exact len_tuple g (by simp only[Ee]<;>lia) ⟨.int d.length,H,I.tok _,⟨s.toks+1,by rw[Ee,c]⟩,q⟩
theorem iJ:bN X (.type "list") (λB H Q=>∃p f,B=[.ref p]/\(dU X.K H p f\/gJ X.K H p f)/\∀l,H l=none->Q (.ref l) (upd H l (.lst f))):=by
 intro j s D H B G Q I r h;obtain⟨p,f,rfl,m,q⟩:=h;obtain⟨u,rfl,E⟩:=vals1 r;cases E;have v:∀(c:List Value),Vals f c->f.length<=sizeLine->∀(d:Heap)(i:Nat),(∀b C,s.heap.get? b=some C->d.get? b=some C)->
  d.get? s.heap.objs.size=some {cls:=.type "list",dict:=none,data:=.seq c.toArray i,slots:= #[]}->EP X j D Q (.ref s.heap.objs.size) {s with heap:=d}:=λc g hz d i k e=>
  ⟨.ref s.heap.objs.size,_,I.laid (t':=s.toks) k (BM _) (show bF X.prog X.w _ d _ (.lst f)from⟨hz,c,i,g,e⟩),rfl,q _ (I.hok.fresh (BM _))⟩
 rcases m with m|m
 .obtain⟨c,g,x,hz⟩:=I.list m;have t:=g.length;obtain⟨o,y,A,n,z⟩:=x.isList;exact call_list_seq p (.inl rfl) y A z (λd i k e=>v c g hz d i k e) (by simp only[Ee]<;>lia)
 .obtain⟨c,g,x,hz⟩:=I.tuple m;have t:=g.length;obtain⟨o,y,A,n,z⟩:=x;exact call_list_seq p (.inr rfl) y A z (λd i k e=>v c g hz d i k e) (by simp only[Ee]<;>lia)
theorem gM:bN X (.type "tuple") (λn H Q=>∃p f,n=[.ref p]/\((dU X.K H p f/\∀l,H l=none->Q (.ref l) (upd H l (.tup f)))\/(gJ X.K H p f/\Q (.ref p) H))):=by
 intro c s m H n z Q I r h;obtain⟨p,f,rfl,h⟩:=h;obtain⟨u,rfl,v⟩:=vals1 r;cases v;rcases h with⟨k,q⟩|⟨k,q⟩
 .obtain⟨d,i,j,hz⟩:=I.list k;have t:=i.length;refine call_tuple_list j.isList (λg x=>?_) (by simp only[Ee]<;>lia);have I1:Inv X c m H {s with heap:=g}:=I.kept (t':=s.toks) x;have y:Inv X c m (upd H g.objs.size (.tup f)) {s with heap:=g.push {cls:=.type "tuple",data:=.seq d.toArray}}:=
   I1.laid (t':=s.toks) (λb o e=>D1 _ e) (BM _) (show bF X.prog X.w _ _ _ (.tup f)from⟨hz,d,i,IsTup.new _ _⟩)
  exact⟨.ref g.objs.size,_,y,rfl,q _ (I1.hok.fresh (BM _))⟩
 .obtain⟨d,i,j,hz⟩:=I.tuple k;exact call_tuple_same j ⟨.ref p,H,I,rfl,q⟩
noncomputable def RJ(K:Frag)(T:String)(x:V)(H:Hp):Prop:=match x with
 |.str _=>T="str"
 |.int _=>T="int"
 |.ref p=>(T="list"/\∃d,dU K H p d)\/(T="tuple"/\∃o,K.lookup p=some o/\o.cls=.type "tuple"/\o.dict=none)\/
   (T="dict"/\((∃c,H p=some (.dK c))\/∃c,H p=some (.dT c)))\/(T="set"/\∃S n,H p=some (.set S n))
 |_=>False
theorem AE{f:List (Addr×Obj)}{q:St}{H:Hp}{s:Shared}{T:String}{x:V}{v:Value}(I:Inv X f q H s)(r:RelV x v)(g:RJ X.K T x H):
 s.TypeIs v T/\∀a,v=.ref a->∃m,s.heap.get? a=some m/\m.dict=none:=by
 cases x with
 |str z=>obtain⟨t,rfl⟩:=r;cases(show T="str"from g);exact⟨typeIs_str s z t,λ_ e=>nomatch e⟩
 |int i=>obtain⟨t,rfl⟩:=r;cases(show T="int"from g);exact⟨typeIs_int s i t,λ_ e=>nomatch e⟩
 |ref p=>
  cases r;rcases g with⟨rfl,A,w⟩|⟨rfl,o,d,y,j⟩|⟨rfl,d⟩|⟨rfl,S,n,d⟩
  .obtain⟨u,_,l,_⟩:=I.list w;refine⟨l.isList.typeIs,λa e=>?_⟩;cases e;obtain⟨o,n,e,c,j,_⟩:=l;exact⟨o,e,j⟩
  .refine⟨⟨o,I.lC p o d,y⟩,λa e=>?_⟩;cases e;exact⟨o,I.lC _ o d,j⟩
  .have z:∃o,s.heap.get? p=some o/\o.ExactDict:=by
    rcases d with⟨h,d⟩|⟨h,d⟩
    .obtain⟨_,_,_,_,o,_,_,e,ex,_⟩:=I.hok p _ d;exact⟨o,e,ex⟩
    .obtain⟨_,_,_,_,o,_,_,e,ex,_⟩:=I.hok p _ d;exact⟨o,e,ex⟩
   obtain⟨o,e,ex⟩:=z;refine⟨⟨o,e,ex.1⟩,λa k=>?_⟩;cases k;exact⟨o,e,ex.2.1⟩
  .obtain⟨o,_,_,_,e,ex,_⟩:=I.hok p _ d;refine⟨⟨o,e,ex.1⟩,λa k=>?_⟩;cases k;exact⟨o,e,ex.2.1⟩
 |_=>exact IM g
noncomputable def RK(K:Frag)(T:String)(r:V->List V->Hp->VK->Prop)(e:TE):TE:=λd H Q=>e d H λx c=>RJ K T x c/\r x [] c Q
noncomputable def QM(K:Frag)(T:String)(r:V->List V->Hp->VK->Prop)(f:TE)(t:TA):TE:=λc H Q=>f c H λx d=>RJ K T x d/\t c d λe g=>r x e g Q
variable{o e:Expr}{es:List Expr}{to:TE}{t:TA}{name:Str}{apos cpos:Pos}{T id:String}{r:V->List V->Hp->VK->Prop}
theorem JA(p:PlainAttrs T)(g:Slot T name id)(i:typeOf (.builtin id)=pure (.type "method_descriptor"))(u:TV X id r)(q:PE X o to)
 (f:attributeBase o name X.env (eval o X.env)=eval o X.env:=by rfl)(d:(apos.endLine==cpos.line)=true:=by rfl):PE X (.Call (.Attribute o name apos) [] [] cpos) (RK X.K T r to):=by
 intro c s j H Q I h;refine wpAny_Call_method0_late f d (aZ (q c s j H _ I h) λv m ⟨x,z,I1,k,l,n⟩=>?_);obtain⟨y,w⟩:=AE I1 k l;exact⟨T,id,p,g,i,y,w,Calls.callWith_builtin rfl (PySem.evalArgs_none (u c m j z x [] v [] Q I1 k .nil n))⟩
theorem AF(C:PlainAttrs T)(i:Slot T name id)(l:typeOf (.builtin id)=pure (.type "method_descriptor"))(G:TV X id r)(E:PE X o to)(J:PA X (e::es) t)
 (g:attributeBase o name X.env (eval o X.env)=eval o X.env:=by rfl)
 (j:((backTo cpos (starEach (e::es) X.env)).all (λx=>!x.1)&&(backToKw cpos (keywordEach [] X.env)).all (λx=>x.1.isSome)
   &&decide ((e::es).length+([]:List Keyword).length+(if([]:List Keyword).isEmpty then 0 else 1)<30))=true:=by rfl)
 (f:(apos.endLine==cpos.line)=true:=by rfl)(D:starEach (e::es) X.env=(false,eval e X.env)::starEach es X.env:=by rfl)(d:(backTo cpos (starEach es X.env)).any (·.1)=false:=by rfl):
 PE X (.Call (.Attribute o name apos) (e::es) [] cpos) (QM X.K T r to t):=by
 intro c s k H Q I h;refine wpAny_Call_method_late g j f rfl (aZ (E c s k H _ I h) λv y ⟨x,P,I1,m,u,B⟩=>?_);obtain⟨M,L⟩:=AE I1 m u;refine⟨T,id,C,i,l,M,L,?_⟩;have n:=J cpos c y k P _ I1 B;rw[D]at n⊢;refine Calls.callWith_builtin (by show(false||(backTo cpos (starEach es X.env)).any (·.1))=false;rw[d]<;>rfl) (Calls.evalArgs_plain ?_);exact aZ n λq w ⟨p,O,N,z,A⟩=>G c w k O x p v q Q N m z A
end
noncomputable def TX(X:Cx)(e:String)(r:V->List V->Hp->VK->Prop):Prop:=
 ∀(a:List (Addr×Obj))(s:Shared)(b:St)(H:Hp)(x:V)(c:List V)(v:Value)(d:List Value)(Q:VK),Inv X a b H s->RelV x v->Vals c d->r x c H Q->
  wpAny (model X.prog X.w) X.A (call (.builtin e) (v::d)) (EP X a b Q) X.xe s
theorem Vals.one{x:V}{a:List Value}(h:Vals [x] a):∃u,a=[u]/\RelV x u:=by
 cases h with
 |cons r h=>
  cases h;exact⟨_,rfl,r⟩
theorem Vals.zero:∀{a:List Value},Vals [] a->a=[]
 |_,.nil=>rfl
theorem Vals.dropLast{a:List V}{b:List Value}(h:Vals a b):Vals a.dropLast b.dropLast:=by
 induction h with
 |nil=>exact .nil
 |cons r t c=>
  cases t with
  |nil=>exact .nil
  |cons q d=>exact .cons r c
theorem Vals.reverse{a:List V}{b:List Value}(h:Vals a b):Vals a.reverse b.reverse:=by
 induction h with
 |nil=>exact .nil
 |cons r t c=>rw[X3,X3];exact Vals.append c (.cons r .nil)
theorem Vals.rep{a:List V}{b:List Value}(h:Vals a b):∀k:Nat,Vals (Aq k a).flatten (Aq k b).flatten
 |0=>.nil
 |k+1=>by rw[JH,JH,MJ,MJ];exact Vals.append h (Vals.rep h k)
theorem uL{α:Type}(l:List α):l.eraseIdx (l.length -1)=l.dropLast:=by
 induction l with
 |nil=>rfl
 |cons a r c=>
  cases r with
  |nil=>rfl
  |cons b r=>
   have e:(a::b::r).length -1=((b::r).length -1)+1:=by have f:(a::b::r).length=r.length+2:=rfl;have d:(b::r).length=r.length+1:=rfl;lia
   rw[e,List.eraseIdx_cons_succ,c]
   all_goals rfl
theorem foldl_rep(a:List Value):∀(k:Nat)(b:List Value),
 W9 (λd c=>d++c) b.toArray (Aq k a.toArray)=(b++(Aq k a).flatten).toArray
 |0,b=>by simp
 |k+1,b=>by
  have e:b.toArray++a.toArray=(b++a).toArray:=by simp
  have f:(b++a)++(Aq k a).flatten=b++(Aq (k+1) a).flatten:=by rw[JH,MJ,YN]
  rw[<-f,<-foldl_rep a k (b++a),<-e,JH,List.foldl_cons]
section
variable{X:Cx}{pins:List (Addr×Obj)}{σ:St}{H:Hp}{s:Shared}{l b:Addr}{xs ys zs:List V}
theorem Inv.NT{a its':List Value}{n:Nat}{f:Array Value->Array Value}{t':Nat}(I:Inv X pins σ H s)(i:H l=some (.lst xs))
 (e:s.heap.get? l=some {cls:=.type "list",data:=.seq a.toArray n})(g:f a.toArray=its'.toArray)(c:Vals ys its')(hz:ys.length<=sizeLine):
 Inv X pins σ (upd H l (.lst ys)) {s with heap:=s.heap.update l (Obj.mapSeq f),toks:=t'}:=by
 have q:=PySem.IsL.update e f;rw[g]at q;refine I.write (x:=l) (e:=l) (by rw[i];exact trivial) (.inl rfl) (λj u h d=>(Heap.get?_update_other s.heap (Obj.mapSeq f) (Mo h)).trans d) ⟨_,q⟩ ?_;exact⟨hz,its',_,c,q⟩
theorem Inv.NU{a:List Value}{t':Nat}(I:Inv X pins σ H s)(c:Vals ys a)(hz:ys.length<=sizeLine):
 Inv X pins σ (upd H s.heap.objs.size (.lst ys)) {s with heap:=s.heap.push {cls:=.type "list",data:=.seq a.toArray},toks:=t'}:=
 I.laid (λ_ _ q=>D1 _ q) (BM _) ⟨hz,a,0,c,GE _ rfl⟩
theorem Inv.fresh(I:Inv X pins σ H s):H s.heap.objs.size=none:=I.hok.fresh (BM _)
theorem Inv.NV(I:Inv X pins σ H s)(c:H l=some (.lst xs)):xs.length<=sizeLine/\∃(a:List Value)(n:Nat),Vals xs a/\xs.length=a.length/\s.heap.get? l=some {cls:=.type "list",data:=.seq a.toArray n}:=by obtain⟨z,a,n,r,e⟩:=I.hok l _ c;exact⟨z,a,n,r,r.length,e⟩
theorem AG{n:Nat}(h:n<=sizeLine):Builtin.List.listTooLong n=false:=by unfold Builtin.List.listTooLong;exact KB (by lia)
end
section
variable{X:Cx}
noncomputable def kL:V->List V->Hp->VK->Prop:=λx b H Q=>∃l a y,x=.ref l/\b=[y]/\H l=some (.lst a)/\a.length<sizeLine/\Q .aM (upd H l (.lst (a++[y])))
theorem gx:TX X "list.append" kL:=by intro b s g H x j v k Q I d rv h;obtain⟨l,i,y,rfl,rfl,c,hz,q⟩:=h;cases d;obtain⟨u,rfl,f⟩:=rv.one;obtain⟨z,a,n,r,m,e⟩:=I.NV c;refine call_meets F.slot_list_append ⟨_,e,rfl⟩ F.entry_list_append (F.args_list_append_2 _ _) (PySem.list_append l a.toArray n u (by rw[Ee];lia)) ⟨e,?_⟩;refine⟨.aM,_,I.NT (its':=a++[u]) c e (by simp) (r.append (.cons f .nil)) ?_,rfl,q⟩;rw[Fk,G7];lia
noncomputable def RM:V->List V->Hp->VK->Prop:=λx b H Q=>∃l a y,x=.ref l/\b=[]/\H l=some (.lst a)/\a[a.length -1]?=some y/\Q y (upd H l (.lst a.dropLast))
theorem JB:TX X "list.pop" RM:=by
 intro c s o H x t v w Q I f rv h;obtain⟨l,p,y,rfl,rfl,d,i,q⟩:=h;cases f;have m:=rv.zero;subst m;obtain⟨z,a,n,r,k,e⟩:=I.NV d;obtain⟨u,j,g⟩:=r.get i;have b:a.toArray[a.toArray.size -1]?=some u:=by show a.toArray[a.length -1]?=some u;rw[<-Ua,<-k];exact j
 refine call_meets F.slot_list_pop ⟨_,e,rfl⟩ F.entry_list_pop (F.args_list_pop_1 _) (MeetsSeq.list_pop_last l a.toArray n u b (by rw[Ee];lia)) ⟨e,?_⟩;refine⟨y,_,I.NT (its':=a.dropLast) d e ?_ r.dropLast ?_,g,q⟩
 .show a.toArray.eraseIdxIfInBounds (a.toArray.size -1)=a.dropLast.toArray;rw[Ee,List.eraseIdxIfInBounds_toArray,uL]
 .rw[List.length_dropLast];lia
theorem len_rep{α:Type}(a:List α)(k:Nat):(Aq k a).flatten.length=k*a.length:=by
 induction k with
 |zero=>simp
 |succ k b=>rw[JH,MJ,Fk,b,Ri,Nat.add_comm]
end
section
variable{prog:Program}{w:World}{A:Around}{E:Value->Shared->Prop}{s:Shared}
end
section
variable{X:Cx}
end
end L2
namespace TY
open PySem PySem.W PySem.Calls PyProof.Rows
theorem kF{P:Params}{h:Heap}:∀(ns:List Int)(vs:List Value),WellAll P h vs (ns.map WData.int)->IntsAre vs ns:=by
 intro ns
 induction ns with
 |nil=>intro vs w;rw[Qf]at w;cases w;exact .nil
 |cons n ns c=>
  intro vs w;rw[Kk]at w;cases w with
  |cons a b=>
   cases a;exact .cons _ _ (c _ b)
theorem yK{l:OpenLaw}{n:Nat}(u:l.most=some n){P:Params}{h:Heap}{args:List WData}{b:List Value}
 (c:l.row.toRowW.claim.pre args=true)(j:WellAll P h b args):
 ∃a vs ns,b=[Value.ref a]/\args=[WData.list (ns.map WData.int)]/\h.get? a=some {cls:=.type "list",data:=.seq vs.toArray}/\IntsAre vs ns/\ns.length<=n:=by
 have k:WShape.hasAll [] args [.list .int]=true:=(pre_splitW c).1;have m:l.pre.holds [] {args:=args}=true:=(pre_splitW c).2;obtain⟨d,r,rfl,x,w⟩:=hasAllW_cons k;obtain rfl:=hasAllW_nil w;obtain⟨y,rfl,v⟩:=hasW_list x;obtain⟨ns,rfl⟩:=items_int v;have e:ns.length<=n:=by
  unfold OpenLaw.pre at m;have i:(WTm.not (.lt (.lit (.int (n:Int))) (.len (.arg 0)))).holds [] {args:=[.list (ns.map .int)]}=true:=by have i:=(holds_andW m).1;rw[u]at i;exact i
  have g:=condW_of i (w_not (w_lt w_lit (w_len_list (w_arg rfl))));rw[Ap]at g;refine RF λq=>?_;have s:(n:Int)<((ns.length:Nat):Int):=by lia
  first
   |(rw[Do s]at g;exact absurd g (by decide))
   |(simp at g;lia)
 cases j with
 |cons p o=>
  cases o;cases p with
  |list t f=>exact⟨_,_,ns,rfl,rfl,t,kF ns _ f,e⟩
theorem yL(l:OpenLaw)(args:List WData):l.row.toRowW.claim.post args (.bool true) args=true:=
 postW_of (r:=l.row.toRowW) (X:=(true==true))
  (show WShape.has [] (.bool true) .bool=true by first|rfl|decide|simp[WShape.has,WShape.arms,WShape.armsAll])
  (show(WTm.eq .res (.lit (.bool true))).value [] {args:=args,res:=some (.bool true),after:=args}=some (.bool (true==true))from w_eq_bool (w_res rfl) w_lit) rfl
theorem sr{l:OpenLaw}{n:Nat}{q:Program}{e:List Str}{H:(Str->Option Value)->Heap->Prop}{E:World->Heap->Prop}{d:DefRec}
 (L:l.most=some n)(y:d.params.defaults=[])
 (call:∀(w:World)(c b:Shared)(p u:Str->Option Value)(m:Addr)(o:Obj)(t s h:Value)(a:Addr)(vs:List Value)(ns:List Int),
   Ground q e [] H w c p u b.heap->E w b.heap->
   b.heap.get? m=some o->o.data=.func (docDef d.name d.params d.body d.scope t s h)->b.heap.CodeRec s d.name->p d.name=some (.ref m)->
   b.heap.get? a=some {cls:=.type "list",data:=.seq vs.toArray}->IntsAre vs ns->ns.length<=n->b.gens= #[]->
   codeAny (model l.prog w) callerA (.call (.ref m) ⟨[.ref a],[]⟩) (λr s'=>r=.ok (.ret (.bool true))/\OldK b.heap s'.heap/\s'.os=b.os/\AllBare s'.gens) b):
 WalkO q e H E l.row.toRowW d [] (λf vs=>PySem.call f vs):=by
 intro w c b p u G Y m o t s h T kV K P z C x O D A U i B I v N;obtain rfl:T=.none:=Dflts.none C y;obtain rfl:kV=.none:=Dflts.noKw C;obtain⟨a,vs,ns,rfl,rfl,j,g,k⟩:=yK L i v;refine enter_call (YR (call w c b p u m o t s h a vs ns G Y K (fd_plain P) z x j g k O) λr s' J=>?_);obtain⟨rfl,S,R,Q⟩:=J;exact⟨.inl ⟨.bool true,.bool true,[],rfl,λ_=>rfl,.bool true,yL l _,λ_=>⟨Yu,λ_ M=>(nomatch M)⟩⟩,S,R,Q⟩
section
variable{prog:Program}{w:World}{A:Around}{E:Value->Shared->Prop}{s:Shared}{K:Frag}
end
end TY
namespace L2
open PySem PySem.Spec PyProof.Rows
theorem oR:∀{vs:List Value}{ns:List Int},IntsAre vs ns->Vals (ns.map V.int) vs
 |_,_,.nil=>.nil
 |_,_,.cons n t h=>.cons ⟨t,rfl⟩ (oR h)
noncomputable def AH(H:Hp):Prop:=∀b,H b=none\/∃o a,H b=some (.ug o (.lst a))
theorem AI{P:Program}{w:World}{K:Frag}{p M:Str->Option Value}{CX:yG}{k:Nat}{Q a:Addr}{Z:FuncData}{x:Str}{sp:Sp}{c:Shared}{vs:List Value}{ns:List Int}
 (KX:K.In c.heap)(y:c.heap.Ns mainGlobals p)(f:c.heap.Ns builtinsNs M)(U6:∀x:Str,x≠"__name__"->M x=bootBuiltins x)(A:c.heap.NoLimit)(I:c.heap.NoSeer)(NW:P.given.tree=none)(hg:c.gens= #[])
 (B:c.heap.get? a=some {cls:=.type "list",data:=.seq vs.toArray})(U:IntsAre vs ns)(T:ns.length<=sizeLine)(hr:bW k callerA)
 (F:∀base:Heap,K.In base->base.Ns mainGlobals p->bJ P w K p base CX k Q Z [x] sp)(j:∀(s:Shared)(u:Value),BindsTo s Z ⟨[u],[]⟩ [(x,u)])
 (zZ:∀H:Hp,AH H->dU K H a (ns.map V.int)->sp [.ref a] H (λv _=>v=.bl true) λ_ _ _=>False)
 (RO:∀H e s',CX [] H c (λ_ _ _=>False) e s'->False):
 codeAny (model P w) callerA (.call (.ref Q) ⟨[.ref a],[]⟩) (λr s'=>r=.ok (.ret (.bool true))/\OldK c.heap s'.heap/\s'.os=c.os/\AllBare s'.gens) c:=by
 have rv:=oR U;have RP:=U.length;have g:∀H:Hp,AH H->dU K H a (ns.map V.int)->iC P w H c.heap->(∀b,H b≠none->b=a)->(H a≠none->K.lookup a=none)->
  codeAny (model P w) callerA (.call (.ref Q) ⟨[.ref a],[]⟩) (λr s'=>r=.ok (.ret (.bool true))/\OldK c.heap s'.heap/\s'.os=c.os/\AllBare s'.gens) c:=by
  intro H Y hS t O hK;have J:∀{b:Addr}{o:Obj},c.heap.get? b=some o->H b=none->(pL c.heap H).get? b=some o:=λe n=>Af e n;have NK:∀{b:Addr}{o:Obj}{C:Array DictEntry}{D:Nat},c.heap.get? b=some o->o.data=.dict C D->H b=none:=λ{b o C D} e d=>by
   cases q:H b with
   |none=>rfl
   |some u=>have E:b=a:=O b (by rw[q];simp);subst E;rw[B]at e;cases e;have R:Data.seq vs.toArray _=Data.dict C D:=d;cases R
  have i:∀{b:Addr}{m:Str->Option Value},c.heap.Ns b m->(pL c.heap H).Ns b m:=λ{b m} ⟨o,C,D,e,d,r⟩=>⟨o,C,D,J e (NK e d),d,r⟩;have TZ:K.In (pL c.heap H):=λb o e=>J (KX b o e) (by
   cases q:H b with
   |none=>rfl
   |some u=>have E:b=a:=O b (by rw[q];simp);subst E;rw[hK (by rw[q];simp)]at e;cases e)
  have U7:∀{b:Addr}{o:Obj},c.heap.get? b=some o->o.cls=.type "module"->H b=none:=λ{b o} e d=>by
   cases q:H b with
   |none=>rfl
   |some u=>have E:b=a:=O b (by rw[q];simp);subst E;rw[B]at e;cases e;have R:Value.type "list"=Value.type "module":=d;exact absurd R (by decide)
  have hM:Mod K p (pL c.heap H):=⟨TZ,i y,⟨M,i f,U6⟩,let⟨mc,h1,h2⟩:=A;⟨mc,i h1,h2⟩,⟨let⟨m,h1,h2⟩:=I.statics;⟨m,i h1,h2⟩,let⟨m,h1,h2⟩:=I.mods;⟨m,i h1,h2⟩,let⟨m,h1,h2⟩:=I.imp;⟨m,i h1,h2⟩,let⟨m,bm,L,h1,h2,h3,h4,h5⟩:=I.main;⟨m,bm,L,i h1,h2,J h3 (U7 h3 h4),h4,h5⟩⟩⟩;have e0:nU P w K p (pL c.heap H) callerA [] c H:=⟨rfl,hM,λb o e=>DF e,Sr (yr _ _),trivial,λb f=>absurd (show b∈([]:List Addr)from f) (by simp),t,.of_eq hg,NW⟩;refine YR ((F _ TZ (i y)).run callerA [] c H ⟨[.ref a],[]⟩ [.ref a] [.ref a] _ _ hr e0 (j c (.ref a)) (.cons rfl .nil) (zZ H Y hS)) λr s' h=>?_;cases r with
  |error e=>exact(RO H e s' h).elim
  |ok fl=>
   cases fl with
   |next=>exact IM h
   |brk=>exact IM h
   |cont=>exact IM h
   |ret u=>
    obtain⟨v,H',os,G,S,RQ,r',q⟩:=h;have q':v=.bl true:=q;subst q';obtain rfl:u=Value.bool true:=r';refine⟨rfl,OldK.of_keep λb o e=>?_,os,G⟩;cases q:H b with
    |none=>exact S.keep b o e q (by intro z;exact absurd (show b∈([]:List Addr)from z) (by simp)) (by simp)
    |some u=>
     rcases Y b with z|⟨L,xs,z⟩
     .rw[q]at z;cases z
     .have z2:=S.iE b L _ z;obtain⟨e1,_⟩:=t b _ z;obtain⟨e2,_⟩:=RQ b _ z2;rw[e]at e1;cases e1;exact e2
 cases N:K.lookup a with
 |some o=>have e:=KX a o N;rw[B]at e;cases e;refine g (λ_=>none) (λ_=>.inl rfl) (.inr ⟨_,vs.toArray,_,N,rfl,rfl,rfl,by rw[Ee,RP];exact T,by simpa using rv⟩) (λb u z=>by have l:(none:Option HO)=some u:=z;cases l) (λb z=>absurd rfl z) λz=>absurd rfl z
 |none=>
  refine g (λb=>if b=a then some (.ug {cls:=.type "list",data:=.seq vs.toArray} (.lst (ns.map V.int)))else none) (λb=>?_) (.inl (.inr ⟨{cls:=.type "list",data:=.seq vs.toArray},Bz rfl⟩)) (λb u z=>?_) (λb z=>?_) λ_=>N
  .by_cases f:b=a
   .exact .inr ⟨_,_,Bz f⟩
   .exact .inl (Bn f)
  .by_cases f:b=a
   .have l:=(Bz f).symm.trans z;cases l;subst f;exact⟨B,by rw[Ap];exact T,vs,_,rv,B⟩
   .have l:=(Bn f).symm.trans z;cases l
  .by_cases f:b=a
   .exact f
   .exact absurd (Bn f) z
theorem D9{l:PySem.W.OpenLaw}{n k:Nat}{q:Program}{i:List Str}{XP:(Str->Option Value)->Heap->Prop}{E:World->Heap->Prop}{d:DefRec}{K:Params->Frag}{CX:World->yG}{sp:World->Sp}{x:Str}
 (M:l.most=some n)(z:n<=sizeLine)(B:d.params.defaults=[])(L:bW k callerA)(RS:importsNone q=true)(y:l.prog.given.tree=none)
 (Q:∀(w:World)(h:Heap),E w h->(K w.params).In h)
 (F:∀(w:World)(m:Str->Option Value)(t:Addr)(h:Heap),(K w.params).In h->h.Ns mainGlobals m->m d.name=some (.ref t)->
   ∃C:FuncData,(∀(s:Shared)(u:Value),BindsTo s C ⟨[u],[]⟩ [(x,u)])/\
    ∀base:Heap,(K w.params).In base->base.Ns mainGlobals m->bJ l.prog w (K w.params) m base (CX w) k t C [x] (sp w))
 (J:∀(w:World)(H:Hp)(a:Addr)(ns:List Int),ns.length<=n->AH H->dU (K w.params) H a (ns.map V.int)->sp w [.ref a] H (λv _=>v=.bl true) λ_ _ _=>False)
 (RO:∀(w:World)(H:Hp)(s:Shared)(e:Value)(s':Shared),CX w [] H s (λ_ _ _=>False) e s'->False):
 PySem.W.WalkO q i XP E l.row.toRowW d [] (λf vs=>PySem.call f vs):=by
 refine TY.sr M B λw D p m mb t o pm cd Z a vs ns G Y ho hd O A r j c N=>?_;have I:=Q w _ Y;obtain⟨C,P,U⟩:=F w m t _ I G.T.g A;exact AI I G.T.g G.T.b G.T.builtins G.T.nolimit (G.T.seer RS) y N r j (IH c z) L U P (λH S R=>J w H a ns c S R) λH e s'=>RO w H p e s'
noncomputable def bO(s:Stmt):Arguments:=match s with
 |.FunctionDef _ a _ _ _ _ _ _ _ _=>a
 |_=>{posonlyargs:=[],args:=[],vararg:=none,kwonlyargs:=[],kw_defaults:=[],kwarg:=none,defaults:=[]}
noncomputable def aR(s:Stmt):List Stmt:=match s with
 |.FunctionDef _ _ b _ _ _ _ _ _ _=>b
 |_=>[]
noncomputable def ak(s:Stmt):Scope:=match s with
 |.FunctionDef _ _ _ _ _ _ sc _ _ _=>sc
 |_=>{kind:=.function,names:=[],isGenerator:=false,isCoroutine:=false}
abbrev NX:yG:=λ_ _ _ _ _ _=>False
abbrev E0:XK:=λ_ _ _=>False
structure z3(K:Frag)(x qual:Str)(st:Stmt)(f:Addr)(fd:FuncData):Prop where
 ex:∃(oc:Value)(od:Option Addr)(kV doc pm:Value)(an:Option Addr)(cdv ct:Value)(osl:Array (Option Value)),
  fd=fnOf x qual (bO st) (aR st) (ak st) .none kV doc pm an cdv ct/\K.lookup f=some ⟨oc,od,.func fd,osl⟩/\codeIn K cdv qual=true
 kp:keepIn K (.ref f)=true
section
variable{P:Program}{w:World}{K:Frag}{mg:Str->Option Value}{base:Heap}
theorem z3.binds{x a:Str}{st:Stmt}{f:Addr}{j:FuncData}{ps:List Str}(F:z3 K x a st f j)
 (h:∀(kV b e:Value)(i:Option Addr)(c g:Value)(d:List Value),d.length=ps.length->bindArgs (fnOf x a (bO st) (aR st) (ak st) .none kV b e i c g) ⟨d,[]⟩=pure (ps.zip d)):Binds K j ps []:=by
 obtain⟨n,m,kV,b,e,i,c,g,k,rfl,o,l⟩:=F.ex;exact .all (h kV b e i c g)
theorem JC{x a:Str}{st:Stmt}{f:Addr}{m:Value}{j i:Option Addr}{e:Array (Option Value)}{kV d g b h:Value}(l:K.lookup f=some ⟨m,j,.func (fnOf x a (bO st) (aR st) (ak st) .none kV d g i b h),e⟩)
 (c:codeIn K b a=true)(k:keepIn K (.ref f)=true):z3 K x a st f (fnOf x a (bO st) (aR st) (ak st) .none kV d g i b h):=⟨⟨m,j,kV,d,g,i,b,h,e,rfl,l,c⟩,k⟩
end
section
variable{X:Cx}
end
noncomputable def ao(H H':Hp):Prop:=∀b o,H b=some o->H' b=some o
theorem ao.refl(H:Hp):ao H H:=λ_ _ h=>h
theorem ao.trans{H H1 d:Hp}(a:ao H H1)(b:ao H1 d):ao H d:=λc o h=>b c o (a c o h)
theorem ao.free{H H':Hp}(e:ao H H'){l:Addr}(h:H' l=XJ):H l=XJ:=by
 cases q:H l with
 |none=>rfl
 |some o=>rw[e l o q]at h;cases h
end L2
namespace Num
theorem AJ(a b q:Int):Oz b (a -q*b)=Oz a b:=by
 apply Nat.dvd_antisymm
 .apply ZA
  .have f:((Oz b (a -q*b):Nat):Int)∣b:=Ya ..;have d:((Oz b (a -q*b):Nat):Int)∣(a -q*b):=YO ..;have c:=TC d (UB f:_∣q*b);have e:a -q*b+q*b=a:=by lia
   rw[e]at c;exact c
  .exact Ya ..
 .apply ZA
  .exact YO ..
  .exact TH (Ya ..) (UB (YO ..))
theorem fl(a b:Int)(c:b≠0):(0<b->0<=a -a.fdiv b*b/\a -a.fdiv b*b<b)/\(b<0->b<a -a.fdiv b*b/\a -a.fdiv b*b<=0):=by
 have e:=Int.mul_ediv_add_emod a b;have f:=Pi a c;have d:a%b<(b.natAbs:Int):=by
  rcases SA 0 b with z|z
  .have:=On a z;lia
  .have:=On a (show 0< -b by lia);rw[Int.emod_neg]at this;lia
 rw[Int.fdiv_eq_ediv];have g:b*(a/b)=(a/b)*b:=TB _ _;constructor
 .intro h;rw[Bz (Or.inl (by lia)),YE];lia
 .intro h;split
  .rename_i hd
   have hz:a%b=0:=Yb (by lia);rw[YE];lia
  .rename_i hd
   have hz:a%b≠0:=λz=>hd (.inr (US z));have:(a/b -1)*b=a/b*b -b:=by rw[Int.sub_mul];lia
   lia
theorem uM(a b:Int)(c:b≠0):(a -a.fdiv b*b).natAbs<b.natAbs:=by have:=fl a b c;omega
theorem fmod_eq(a b:Int):a.fmod b=a -a.fdiv b*b:=by have:=Int.mul_fdiv_add_fmod a b;have:b*a.fdiv b=a.fdiv b*b:=TB _ _;omega
theorem Hu(a b:Int)(c:b≠0):(a.fdiv b).natAbs*b.natAbs<=a.natAbs+b.natAbs:=by have h:=uM a b c;rw[<-YJ];omega
theorem RT(a b:Int)(c:b≠0):(a.fdiv b).natAbs<=a.natAbs+b.natAbs:=by have h:=Hu a b c;have:(a.fdiv b).natAbs*1<=(a.fdiv b).natAbs*b.natAbs:=Y8 _ (by lia);lia
noncomputable def Sg(x y:Int):Prop:=(0<x/\0<=y)\/(x<0/\y<=0)
theorem Ec(x y:Int)(a:y≠0):Sg y (x -x.fdiv y*y):=by have h:=fl x y a;unfold Sg;omega
theorem NY{x y:Int}(h:Sg x y)(g:y≠0):x.natAbs=(x.fdiv y).natAbs*y.natAbs+(x -x.fdiv y*y).natAbs:=by
 have b:=fl x y g;rw[<-YJ];generalize i:x.fdiv y=q at b⊢;have f:0<=q:=by
  rcases SA q 0 with z|z
  .exfalso
   rcases h with⟨d,c⟩|⟨d,c⟩
   .have a:0<y:=by lia
    have:=Y5 (show q<=-1 by lia) (show 0<=y by lia);have:=b.1 a;lia
   .have a:y<0:=by lia
    have:=Y5 (show q<=-1 by lia) (show 0<=-y by lia);have e:q* -y= -(q*y):=Z9 _ _;have:=b.2 a;lia
  .exact z
 rcases h with⟨d,c⟩|⟨d,c⟩
 .have:=Xe f (show 0<=y by lia);have:=b.1 (by lia);clear this;lia
 .have:=Xe f (show 0<=-y by lia);have e:q* -y= -(q*y):=Z9 _ _;have:=b.2 (by lia);lia
noncomputable def Ib(n:Nat)(x y u a:Int):Prop:=a.natAbs*x.natAbs+u.natAbs*y.natAbs<=3*2^n
theorem wH{n:Nat}{x y u a:Int}(h:Ib n x y u a)(f:Sg x y)(d:y≠0):Ib n y (x -x.fdiv y*y) a (u -x.fdiv y*a):=by
 have e:=NY f d;unfold Ib at h⊢;have c:(u -x.fdiv y*a).natAbs<=u.natAbs+(x.fdiv y).natAbs*a.natAbs:=by rw[<-YJ];omega
 generalize(x -x.fdiv y*y).natAbs=r at e⊢;generalize(x.fdiv y).natAbs=q at e c;generalize(u -x.fdiv y*a).natAbs=w at c⊢;generalize u.natAbs=U at*;generalize a.natAbs=b at*;generalize y.natAbs=Y at*;generalize x.natAbs=X at*;subst e;have i:w*Y<=(U+q*b)*Y:=Nat.mul_le_mul_right _ c;have g:(U+q*b)*Y+b*r=b*(q*Y+r)+U*Y:=by grind
 omega
theorem su{n:Nat}{x y u a:Int}(h:Ib n x y u a)(c:Sg x y):a.natAbs<2^(n+2):=by
 unfold Ib at h;have b:1<=x.natAbs:=by unfold Sg at c;lia
 have:a.natAbs*1<=a.natAbs*x.natAbs:=Y8 _ b;have e:2^(n+2)=4*2^n:=by rw[Yk];lia
 have:0<2^n:=Vg (by decide);lia
noncomputable def Bd(n:Nat)(r:Rat):Prop:=r.num.natAbs<2^n/\r.den<2^n
noncomputable def cf(b a:List Int):Nat->Nat->Int
 |0,_=>0
 |i+1,k=>cf b a i k+b.getD i 0*(if i<=k then a.getD (k -i) 0 else 0)
noncomputable def rM(b a:List Int)(i j k:Nat):Int:=cf b a i k+(if i<=k/\k<i+j then b.getD i 0*a.getD (k -i) 0 else 0)
theorem sA(b a:List Int)(i k:Nat):rM b a i 0 k=cf b a i k:=by unfold rM;rw[Bn (by lia)];lia
theorem sC(b a:List Int)(i k:Nat):rM b a i a.length k=cf b a (i+1) k:=by
 unfold rM;rw[cf];by_cases h:i<=k
 .by_cases c:k<i+a.length
  .rw[Bz ⟨h,c⟩,Bz h]
  .have e:a.getD (k -i) 0=0:=by rw[AC,FM (by lia)];rfl
   rw[Bn (by lia),Bz h,e,Y1]
 .rw[Bn (by lia),Bn h,Y1]
theorem lM(b a:List Int)(i j k:Nat):rM b a i (j+1) k=rM b a i j k+(if k=i+j then b.getD i 0*a.getD j 0 else 0):=by
 unfold rM;by_cases h:k=i+j
 .subst h;rw[Bz (by lia),Bn (by lia),Bz rfl,UM];lia
 .rw[Bn h];by_cases c:i<=k/\k<i+j
  .rw[Bz (by lia),Bz c];lia
  .rw[Bn (by lia),Bn c];lia
theorem Ed{a b:List Int}{i:Nat}(h:a.getD i 0=0)(k:Nat):cf a b (i+1) k=cf a b i k:=by rw[cf,h,T2,W1]
noncomputable def cZ(ns a:List Int):Prop:=∃k,k<=ns.length/\a=ns.take k/\(∀j,k<=j->j<ns.length->ns.getD j 0=0)/\(k=0\/ns.getD (k -1) 0≠0)
theorem cZ.last{ns a:List Int}(h:cZ ns a):a=[]\/a.getD (a.length -1) 0≠0:=by
 obtain⟨k,c,rfl,e,b⟩:=h;rcases b with q|q
 .left;rw[q];rfl
 .by_cases d:k=0
  .left;rw[d];rfl
  .right;rw[Re,Nat.min_eq_left c,AC,XB (by lia),<-AC];exact q
theorem cZ.mem{ns a:List Int}(h:cZ ns a):∀m∈a,m∈ns:=by obtain⟨k,_,rfl,_⟩:=h;exact λm b=>List.mem_of_mem_take b
noncomputable def af(p:Int):Prop:=2<=p/\∀d:Int,2<=d->d*d<=p->p%d≠0
theorem gO{p x:Int}(d:af p)(h:0<x)(l:x<p):Oz p x=1:=by
 obtain⟨k,b⟩:=d;have i:0<Oz p x:=Int.gcd_pos_of_ne_zero_left _ (by lia);obtain⟨q,a⟩:((Oz p x:Nat):Int)∣p:=Ya ..;have n:((Oz p x:Nat):Int)<=x:=X0 h (YO ..);generalize j:((Oz p x:Nat):Int)=g at*;have m:1<=g:=by lia
 rcases SA 1 g with f|e
 .exfalso
  have c:2<=q:=by
   rcases SA q 2 with z|z
   .have:q<=1:=by lia
    have:=UF this (show 0<=g by lia);lia
   .exact z
  rcases Z2 g q with z|z
  .have:g*g<=g*q:=UF z (by lia);exact b g (by lia) (by lia) (Yb ⟨q,a⟩)
  .have:q*q<=g*q:=Y5 z (by lia);exact b q c (by lia) (Yb ⟨g,by rw[a,TB]⟩)
 .lia
noncomputable def ev(x:Rat):List Rat->Rat
 |[]=>0
 |r::a=>r+x*ev x a
noncomputable def wv(t b:Int):List Int->Int
 |[]=>0
 |x::s=>wv t b s*t+x*b^s.length
noncomputable def sm(f:Nat->Int):Nat->Int
 |0=>0
 |n+1=>sm f n+f n
theorem cI{f g:Nat->Int}:∀n,(∀i,i<n->f i=g i)->sm f n=sm g n
 |0,_=>rfl
 |n+1,h=>by rw[sm,sm,cI n λi a=>h i (by lia),h n (by lia)]
theorem pU(f:Nat->Int):∀n,sm f (n+1)=f 0+sm (λi=>f (i+1)) n
 |0=>by rw[sm,sm,sm];lia
 |n+1=>by rw[sm,pU f n,sm];lia
theorem AK(f:Nat->Int):∀n,sm (λi=>f (n -i)) (n+1)=sm f (n+1)
 |0=>rfl
 |n+1=>by rw[pU,cI (g:=λi=>f (n -i)) (n+1) λi a=>by congr 1;lia,AK f n];rw[sm,sm,sm];show f (n+1 -0)+(sm f n+f n)=_;rw[Rl];lia
theorem pV{f:Nat->Int}{m:Nat}:∀n,m<=n->(∀i,m<=i->i<n->f i=0)->sm f n=sm f m
 |0,h,_=>by
  have:m=0:=by lia
  rw[this]
 |n+1,h,z=>by
  by_cases e:m=n+1
  .rw[e]
  .rw[sm,pV n (by lia) (λi a b=>z i a (by lia)),z n (by lia) (by lia),W1]
theorem Hw(b a:List Int)(k:Nat):∀n,cf b a n k=sm (λi=>b.getD i 0*(if i<=k then a.getD (k -i) 0 else 0)) n
 |0=>rfl
 |n+1=>by rw[cf,Hw b a k n,sm]
theorem Ef(a d:List Int)(k:Nat):cf a d a.length k=sm (λi=>a.getD i 0*d.getD (k -i) 0) (k+1):=by
 rw[Hw];have b:∀i,a.length<=i->a.getD i 0=0:=λi h=>by rw[AC,FM h];rfl
 rcases Nat.le_total a.length (k+1)with h|h
 .rw[<-pV (k+1) h λi c _=>by rw[b i c,T2]];exact cI _ λi e=>by rw[Bz (by lia)]
 .rw[pV a.length h λi c _=>by rw[Bn (by lia),Y1]];exact cI _ λi e=>by rw[Bz (by lia)]
noncomputable def lN(l:List Rat):Prop:=∀x,l.getLast?=some x->x≠0
noncomputable def N4(a:List Rat):List Rat:=a.map λx=> -x
noncomputable def T3(f:Nat->Rat):Nat->Rat
 |0=>0
 |n+1=>T3 f n+f n
noncomputable def JD(f g:Nat->Rat)(k:Nat):Rat:=T3 (λi=>f i*g (k -i)) (k+1)
theorem pX(c:Int)(f:Nat->Int):∀n,sm (λi=>c*f i) n=c*sm f n
 |0=>by rw[sm,sm,Y1]
 |n+1=>by rw[sm,sm,pX c f n,Int.mul_add]
theorem lO(f g:Nat->Int):∀n,sm (λi=>f i+g i) n=sm f n+sm g n
 |0=>rfl
 |n+1=>by rw[sm,sm,sm,lO f g n];lia
theorem pY(p:Nat)(v:Nat->Int):∀n,sm (λi=>if i=p then v i else 0) n=if p<n then v p else 0
 |0=>by rw[sm,Bn (by lia)]
 |n+1=>by
  rw[sm,pY p v n];by_cases h:p<n
  .rw[Bz h,Bn (by lia),Bz (by lia)];lia
  .rw[Bn h];by_cases e:n=p
   .subst e;rw[Bz rfl,Bz (by lia)];lia
   .rw[Bn e,Bn (by lia)];lia
noncomputable def cj(f g:Nat->Int)(k:Nat):Int:=sm (λi=>f i*g (k -i)) (k+1)
theorem Eg(c h:Int)(Q O:Nat->Int)(p k:Nat):cj (λi=>c*Q i+if i=p then h else 0) O k=c*cj Q O k+if p<=k then h*O (k -p)else 0:=by
 unfold cj;rw[cI (g:=λi=>c*(Q i*O (k -i))+if i=p then h*O (k -i)else 0) (k+1) λi _=>?_,lO,pX,pY p λi=>h*O (k -i)]
 .by_cases a:p<=k
  .rw[Bz a,Bz (show p<k+1 by lia)]
  .rw[Bn a,Bn (show¬p<k+1 by lia)]
 .split
  .grind
  .grind
theorem Eh(O:Nat->Int)(k:Nat):cj (λ_=>0) O k=0:=by unfold cj;rw[cI (g:=λi=>0*0) (k+1) λi _=>by rw[T2,T2],pX,T2]
theorem outI{ns:List Int}{k:Nat}(h:ns.length<=k):ns.getD k 0=0:=by rw[AC,FM h];rfl
noncomputable def Cd(D:Int)(n:Nat)(x:Rat):Prop:=∃z:Int,x*D=z/\z.natAbs<2^n
theorem AL{a b c:Int}(h:Oz a b=1)(e:a∣b*c):a∣c:=by
 have d:a.natAbs∣b.natAbs*c.natAbs:=by rw[<-YJ];exact Vf.mpr e
 exact Vf.mp (ZC (show Nat.Coprime a.natAbs b.natAbs from h) d)
theorem pZ{ns b:List Int}(h:cZ ns b)(k:Nat):b.getD k 0=ns.getD k 0:=by
 obtain⟨j,e,rfl,c,_⟩:=h;by_cases d:k<j
 .rw[AC,XB d,<-AC]
 .rw[outI (by rw[Re];lia)];by_cases a:k<ns.length
  .exact(c k (by lia) a).symm
  .exact(outI (by lia)).symm
theorem lP{ns a:List Int}(h:cZ ns a):a.length<=ns.length:=by obtain⟨j,b,rfl,_⟩:=h;rw[Re];lia
end Num
namespace Sub
abbrev Ix:=Bool×Nat
abbrev Vc:=Ix->Int
noncomputable def ex(D:List Vc->Int)(r:Ix):List Vc->List Vc->Int
 |_,[]=>0
 |pre,c::post=>c r*D (pre++post) -ex D r (pre++[c]) post
noncomputable def det:List Ix->List Vc->Int
 |[],[]=>1
 |[],_::_=>0
 |r::a,cs=>ex (det a) r [] cs
noncomputable def sh(j:Nat)(P:Vc):Vc:=λi=>if j<=i.2 then P (i.1,i.2 -j)else 0
noncomputable def RU(P:Vc):Nat->List Vc
 |0=>[]
 |n+1=>sh n P::RU P n
noncomputable def rws:Nat->Nat->List Ix
 |_,0=>[]
 |0,_+1=>[]
 |E+1,c+1=>(false,E)::rws E c
noncomputable def comb(c:Int)(a:Vc):List (Int×Vc)->Vc
 |[]=>λi=>c*a i+0*a i
 |z::L=>λi=>1*comb c a L i+z.1*z.2 i
noncomputable def SS(E:Nat)(A B:Vc)(a b:Nat)(c:Ix):Int:=det (rws E (a+b -1)++[c]) (RU A a++RU B b)
noncomputable def less(c:Int)(A B:Vc)(L:List (Int×Nat)):Vc:=comb c A (L.map λz=>(z.1,sh z.2 B))
noncomputable def U8(a:Int):Prop:=a=1\/a= -1
structure Ch(A B:Vc)(m n:Nat)(P Q:Vc)(p q:Nat)(lp lq h:Int):Prop where
 hpq:q<=p
 Xf:lp≠0
 h0:h≠0
 Xg:lq≠0
 lead:Q (false,q)=lq
 zero:∀t,q<t->Q (false,t)=0
 inv:∀k,k<=q->k<p->∃ε:Int,U8 ε/\∀ρ,SS (p+q -k) P Q (q -k) (p -k) ρ=ε*(lp^(q -k)*h^(p -k -1))*SS (m+n -k) A B (n -k) (m -k) ρ
end Sub
namespace Sub
open Num
noncomputable def vc(r f:List Int):Vc:=λi=>if i.1 then f.getD i.2 0 else r.getD i.2 0
end Sub
namespace Num
end Num
namespace Sub
open Num
structure CS(ns ms f0 g0:List Int)(w E b1:Nat)(P Q fP fQ:List Int)(ld h:Int):Prop where
 ch:Ch (vc ns f0) (vc ms g0) (ns.length -1) (ms.length -1) (vc P fP) (vc Q fQ) (P.length -1) (Q.length -1) ld (Q.getD (Q.length -1) 0) h
 lq:0<Q.length
 Xh:Q.length<=P.length
 lp:P.length<=ns.length
 Xi:Q.length<=ms.length
 lf:fP.length+Q.length<=b1
 U9:fQ=[]\/fQ.length+P.length<=b1
 bP:∀i,(vc P fP i).natAbs<=2^(w*(ns.length -1+(ms.length -1)+1))
 bQ:∀i,(vc Q fQ i).natAbs<=2^(w*(ns.length -1+(ms.length -1)+1))
 bl:ld.natAbs<=2^(w*(ns.length -1+(ms.length -1)+1))
 bh:h.natAbs<=2^(w*(ns.length -1+(ms.length -1) -2*(P.length -1)))
structure FX(ns ms f0 g0:List Int)(w E:Nat):Prop where
 l1:ms.length<=ns.length
 l2:ns.length<=50
 M:∃M:Nat,(∀i,(vc ns f0 i).natAbs<=M)/\(∀i,(vc ms g0 i).natAbs<=M)/\1<=M/\(ns.length -1+(ms.length -1)+1)*M<=2^w
 E1:∀p,(ns.length -1+(ms.length -1) -2*p)*p+(ns.length -1+(ms.length -1)+1)<=E
theorem getD_mem'{ns:List Int}{k:Nat}(h:k<ns.length):ns.getD k 0∈ns:=by rw[AC,B1 h];exact Os h
theorem map_getD{ns:List Int}{f:Int->Int}(a:f 0=0)(k:Nat):(ns.map f).getD k 0=f (ns.getD k 0):=by
 rw[AC,Dx,AC];cases ns[k]? with
 |none=>exact a.symm
 |some z=>rfl
end Sub
namespace Num
noncomputable def p7(p:Int)(ns a:List Int)(Q:Nat->Int)(R:List Int):Prop:=∀k,p∣ns.getD k 0 -(cj Q (λi=>a.getD i 0) k+R.getD k 0)
theorem p7.start(p:Int)(ns a:List Int):p7 p ns a (λ_=>0) ns:=λk=>by rw[Eh,YD,Yx];exact VI _
theorem AM(h:Int)(Q O:Nat->Int)(p k:Nat):cj (λi=>Q i+if i=p then h else 0) O k=cj Q O k+if p<=k then h*O (k -p)else 0:=by have:=Eg 1 h Q O p k;rw[Yn]at this;rw[<-this];congr 1;funext i;rw[Yn]
theorem wJ{p a b:Int}(e:p∣a)(d:p∣b){c:Int}(h:c=a+b):p∣c:=by rw[h];exact TC e d
theorem p7.step{p:Int}{ns a:List Int}{l:Int}{b:Nat}{Q:Nat->Int}{R R':List Int}{h:Int}(d:p7 p ns a Q R)(s:0<a.length)(m:l=a.getD (a.length -1) 0)(t:R.length=b+a.length)(u:R'.length=b+a.length -1)(f:p∣h*l -R.getD (b+a.length -1) 0)
 (j:∀k,k<b+a.length -1->p∣R'.getD k 0 -(R.getD k 0 -if b<=k then h*a.getD (k -b) 0 else 0)):
 p7 p ns a (λi=>Q i+if i=b then h else 0) R':=λk=>by
 rw[AM];have e:=d k;generalize ns.getD k 0=n at*;generalize cj Q (λi=>a.getD i 0) k=c at*;by_cases q:k<b+a.length -1
 .have:=j k q;generalize R'.getD k 0=g at*;generalize R.getD k 0=r at*;show p∣n -(c+(if b<=k then h*a.getD (k -b) 0 else 0)+g);generalize(if b<=k then h*a.getD (k -b) 0 else 0)=x at*;exact wJ e (Yo.mpr this) (by lia)
 .by_cases o:k=b+a.length -1
  .rw[<-o]at f;rw[outI (ns:=R') (by lia),Bz (by lia)];show p∣n -(c+h*a.getD (k -b) 0+0);rw[show k -b=a.length -1 by lia,<-m];generalize R.getD k 0=r at*;exact wJ e (Yo.mpr f) (by lia)
  .rw[outI (ns:=R) (k:=k) (by lia)]at e;rw[outI (ns:=R') (by lia)];have z:(if b<=k then h*(λi=>a.getD i 0) (k -b)else 0)=0:=by
    split
    .show h*a.getD (k -b) 0=0;rw[outI (by lia),Y1]
    .rfl
   rw[z];rw[show n -(c+0+0)=n -(c+0) by lia];exact e
theorem Ei{a b:List Int}(g:a=[]\/a.getD (a.length -1) 0≠0)(c:b=[]\/b.getD (b.length -1) 0≠0)(h:∀k,a.getD k 0=b.getD k 0):a=b:=by
 have d:∀{a b:List Int},(b=[]\/b.getD (b.length -1) 0≠0)->(∀k,a.getD k 0=b.getD k 0)->b.length<=a.length:=λ{a b} c h=>by
  rcases c with rfl|c
  .exact Hn _
  .rcases Ys a.length b.length with z|z
   .exact absurd ((h _).symm.trans (outI (by lia))) c
   .exact z
 have e:a.length=b.length:=Y6 (d g λk=>(h k).symm) (d c h);apply T1;intro k;by_cases f:k<a.length
 .have:=h k;rw[AC,AC,B1 f,B1 (show k<b.length by lia)]at this;rw[B1 f,B1 (show k<b.length by lia)];exact GT some this
 .rw[FM (by lia),FM (by lia)]
theorem mod_eq{p x y:Int}(b:0<=x/\x<p)(a:0<=y/\y<p)(h:p∣x -y):x=y:=by
 have d:=SJ b.1 b.2;have c:=SJ a.1 a.2;have:=Int.emod_emod_of_dvd (x -y) (Int.dvd_refl p);obtain⟨k,f⟩:=h;have e:x=y+p*k:=by lia
 rw[<-d,e,Int.add_mul_emod_self_left,c]
theorem c7{p:Int}(b:0<p){ns:List Int}(h:∀x∈ns,0<=x/\x<p)(k:Nat):0<=ns.getD k 0/\ns.getD k 0<p:=by
 by_cases a:k<ns.length
 .rw[AC,B1 a];exact h _ (Os a)
 .rw[outI (by lia)];exact⟨by lia,b⟩
theorem yM{p x l:Int}(b:af p)(a:0<l/\l<p)(h:p∣x*l):p∣x:=by have c:=gO b a.1 a.2;exact AL c (by rw[TB]at h;exact h)
theorem eS(f g:Nat->Int)(k:Nat):cj f g k=cj g f k:=by unfold cj;rw[<-AK];refine cI _ λi a=>?_;show f (k -i)*g (k -(k -i))=g i*f (k -i);rw[show k -(k -i)=i by lia,TB]
theorem gy{f f' g g':Nat->Int}(b:∀i,f i=f' i)(a:∀i,g i=g' i)(k:Nat):cj f g k=cj f' g' k:=by rw[show f=f' from funext b,show g=g' from funext a]
theorem lQ(f g h:Nat->Int)(k:Nat):cj (λi=>f i+g i) h k=cj f h k+cj g h k:=by unfold cj;rw[<-lO];exact cI _ λi _=>Int.add_mul ..
theorem iK(c:Int)(f h:Nat->Int)(k:Nat):cj (λi=>c*f i) h k=c*cj f h k:=by unfold cj;rw[<-pX];exact cI _ λi _=>Yr ..
theorem AO(f g h:Nat->Int)(k:Nat):cj f (λi=>g i+h i) k=cj f g k+cj f h k:=by rw[eS,lQ,eS g,eS h]
theorem Ej(c:Int)(f h:Nat->Int)(k:Nat):cj f (λi=>c*h i) k=c*cj f h k:=by rw[eS,iK,eS h]
theorem cJ(f g:Nat->Int):cj f g 0=f 0*g 0:=by unfold cj;rw[sm,sm];show 0+f 0*g (0 -0)=_;rw[YD]
theorem eT(f g:Nat->Int)(k:Nat):cj f g (k+1)=f 0*g (k+1)+cj (λi=>f (i+1)) g k:=by unfold cj;rw[pU];congr 1;exact cI _ λi a=>by show f (i+1)*g (k+1 -(i+1))=f (i+1)*g (k -i);rw[show k+1 -(i+1)=k -i by lia]
theorem oS(g h:Nat->Int):∀(k:Nat)(f:Nat->Int),cj (cj f g) h k=cj f (cj g h) k
 |0,f=>by rw[cJ,cJ,cJ,cJ,Yr]
 |k+1,f=>by rw[eT,eT f,cJ,eT g];have e:(λi=>cj f g (i+1))=λi=>f 0*g (i+1)+cj (λi=>f (i+1)) g i:=funext λi=>eT f g i;rw[e,lQ,iK,oS g h k];generalize cj (λi=>g (i+1)) h k=x;generalize cj (λi=>f (i+1)) (cj g h) k=y;generalize h (k+1)=z;grind
theorem p8{f g:Nat->Int}{n m:Nat}(d:∀i,n<=i->f i=0)(c:∀i,m<=i->g i=0){k:Nat}(h:n+m<=k+1):cj f g k=0:=by
 unfold cj;rw[cI (g:=λ_=>0) _ λi e=>?_]
 .have:∀n,sm (λ_=>0) n=0:=λn=>by
   induction n with
   |zero=>rfl
   |succ n b=>rw[sm,b];rfl
  exact this _
 .show f i*g (k -i)=0;by_cases a:n<=i
  .rw[d i a,T2]
  .rw[c _ (by lia),Y1]
abbrev co(a:List Int):Nat->Int:=λi=>a.getD i 0
theorem Hx(a b:List Int)(k:Nat):cf a b a.length k=cj (co a) (co b) k:=Ef a b k
end Num
namespace Sub
open Num
end Sub
namespace Num
noncomputable def hz(t:Int):List Int->List Int
 |[]=>[]
 |r::a=>(r+t*(hz t a).headD 0)::hz t a
noncomputable def cs(l:List Int):List Rat:=l.map λx:Int=>((x:Int):Rat)
noncomputable def sc(u b:Rat):List Rat->List Rat
 |[]=>[]
 |r::a=>r*u*b^a.length::sc u b a
abbrev cQ(a:List Rat):Nat->Rat:=λi=>a.getD i 0
noncomputable def Fin(f:Nat->Rat):Prop:=∃n,∀i,n<=i->f i=0
noncomputable def DQ(g a:Nat->Rat):Prop:=∃s,Fin s/\∀k,a k=JD s g k
structure Mon(g:List Rat):Prop where
 ne:g≠[]
 one:g.getD (g.length -1) 0=1
end Num
namespace Sub
noncomputable def lc(y:Ix->Vc)(c:Vc):List Ix->Vc
 |[]=>λ_=>0
 |r::a=>λi=>1*lc y c a i+c r*y r i
end Sub
namespace Sub
open Num
noncomputable def pc(f:Nat->Int):Vc:=λi=>f i.2
noncomputable def one:Nat->Int:=λi=>if i=0 then 1 else 0
end Sub
namespace Num
noncomputable def mon(c:List Rat):List Rat:=c.map λx=>x/c.getD (c.length -1) 0
end Num
namespace Num
open Sub
end Num
namespace Sub
open Num
end Sub
namespace Num
open Sub
section
variable{ι:Type}
inductive RV(P:List (ι->Rat)):(ι->Rat)->(ι->Rat)->Prop where
 |refl (o:ι->Rat):RV P o o
 |add {o x a:ι->Rat} (y:Rat) (h:RV P o x) (m:a∈P):RV P o (λi=>1*x i+y*a i)
noncomputable def pD:List ((ι->Rat)×Int)->Int
 |[]=>1
 |p::ps=>p.2*pD ps
end
abbrev vQ(l:List Rat):Nat->Rat:=cQ l
section
variable{ι α:Type}
end
noncomputable def line(N:Nat)(a:List Rat)(i:Nat):List Rat:=Aq i 0++a.reverse++Aq (N -i -a.length) 0
end Num
namespace Num
structure AQ(n:Nat)(a b x y u u2 v v2:Int):Prop where
 e1:u*a+v*b=x
 e2:u2*a+v2*b=y
 g:Oz x y=Oz a b
 bx:x.natAbs<2^n
 p9:y.natAbs<2^n
 bu:u.natAbs<2^(n+2)
 bv:v.natAbs<2^(n+2)
 T4:u2.natAbs<2^(n+2)
 T5:v2.natAbs<2^(n+2)
 or:(u=1/\u2=0/\v=0/\v2=1)\/(Sg x y/\Ib n x y u u2/\Ib n x y v v2)
theorem pow2(n:Nat):1<2^(n+2):=by have:=Vg (n:=n) (show 0<2 by decide);rw[Yk];omega
theorem AQ.next{n:Nat}{a b x y u d v c:Int}(I:AQ n a b x y u d v c)(e:y≠0):AQ n a b y (x -x.fdiv y*y) d (u -x.fdiv y*d) c (v -x.fdiv y*c):=by
 have j:=Ec x y e;have k:=uM x y e;have h:Ib n y (x -x.fdiv y*y) d (u -x.fdiv y*d)/\Ib n y (x -x.fdiv y*y) c (v -x.fdiv y*c):=by
  rcases I.or with⟨rfl,rfl,rfl,rfl⟩|⟨f,i,m⟩
  .have o:=Hu x y e;have f:=I.bx;have i:=I.p9;unfold Ib;constructor
   .simp only[Y1,YE,Int.natAbs_zero,Nat.zero_mul,Yt];show 1*y.natAbs<=_;omega
   .simp only[T9,Yw,Int.natAbs_neg];show _+1*_<=_;have l:(x.fdiv y).natAbs*y.natAbs<=x.natAbs+(x -x.fdiv y*y).natAbs:=by rw[<-YJ];omega
    omega
  .exact⟨wH i f e,wH m f e⟩
 refine⟨I.e2,?_,?_,I.p9,Yd k I.p9,I.T4,I.T5,su h.1 j,su h.2 j,.inr ⟨j,h.1,h.2⟩⟩
 .have f:=I.e1;have i:=I.e2;generalize x.fdiv y=q;subst f;subst i;grind
 .rw[AJ,I.g]
end Num
namespace Num
open Sub
theorem sD{p x y:Int}(a:af p)(h:p∣x*y):p∣x\/p∣y:=by
 have b:0<p:=by have:=a.1;lia
 by_cases c:y%p=0
 .exact .inr (US c)
 .refine .inl (yM a (l:=y%p) ⟨?_,On _ b⟩ ?_)
  .have:=Pi y (show p≠0 by lia);lia
  .have e:=P2 y p;have d:x*(y%p)=x*y -p*(x*(y/p)):=by
    have:y%p=y -p*(y/p):=by lia
    rw[this];grind
   rw[d];exact TH h ⟨_,rfl⟩
theorem Ek{P:Nat->Prop}(h:∃i,¬P i):∃i,¬P i/\∀j,j<i->P j:=by
 obtain⟨i,d⟩:=h
 induction i using Nat.strongRecOn with
 |ind i c=>
  by_cases z:∃j,j<i/\¬P j
  .obtain⟨j,b,a⟩:=z;exact c j b a
  .exact⟨i,d,λj b=>FV λa=>z ⟨j,b,a⟩⟩
theorem lS{p:Int}{f:Nat->Int}:∀n,(∀i,i<n->p∣f i)->p∣sm f n
 |0,_=>VI _
 |n+1,h=>by rw[sm];exact TC (lS n λi a=>h i (by lia)) (h n (by lia))
end Num
namespace Num
noncomputable def ab(u A:Rat):Prop:= -A<=u/\u<=A
noncomputable def In(a b x:Rat):Prop:=a<=x/\x<=b
noncomputable def dv(x:Rat):List Rat->Rat
 |[]=>0
 |_::a=>ev x a+x*dv x a
structure sE(a b:Rat)where
 l:Nat->Rat
 r:Nat->Rat
 lt:∀n,l n<r n
 up:∀n,l n<=l (n+1)
 dn:∀n,r (n+1)<=r n
 a0:a<=l 0
 b0:r 0<=b
 sm:∀e:Rat,0<e->∃n,r n -l n<=e
noncomputable def sE.I{a b:Rat}(N:sE a b)(n:Nat)(x:Rat):Prop:=In (N.l n) (N.r n) x
noncomputable def sE.Z{a b:Rat}(N:sE a b)(f:Rat->Rat):Prop:=∀e:Rat,0<e->∃n,∀x,N.I n x->ab (f x) e
noncomputable def sE.P{a b:Rat}(N:sE a b)(s:Rat)(f:Rat->Rat):Prop:=(s=1\/s= -1)/\∃c,0<c/\∃n,∀x,N.I n x->c<=s*f x
noncomputable def T6(a b:Rat)(f:Rat->Rat):Prop:=∃L,0<=L/\∀x y,In a b x->In a b y->x<=y->ab (f y -f x) (L*(y -x))
noncomputable def Va(a b:Rat)(f:Rat->Rat):Prop:=∃B,0<=B/\∀x,In a b x->ab (f x) B
noncomputable def df(a b:Rat):Nat:=if 0<a then(if 0<b then 0 else 1)else(if 0<b then 1 else 0)
noncomputable def RW(b:Rat):List Rat->Nat
 |[]=>0
 |x::l=>if x=0 then RW b l else(if b=0 then 0 else df b x)+RW x l
noncomputable def chg(l:List Rat):Nat:=RW 0 l
inductive Ch(a b:Rat):List (Rat->Rat)->Prop
 |one {f:Rat->Rat} (c:Rat) (h0:c≠0) (h:∀x,In a b x->f x=c):Ch a b [f]
 |two {f g:Rat->Rat} (hf:T6 a b f) (h:Ch a b [g]):Ch a b [f,g]
 |cons {f g h:Rat->Rat} {l:List (Rat->Rat)} (hf:T6 a b f) (α β:Rat) (q:Rat->Rat) (a0:0<α) (b0:0<β) (hq:Va a b q) (e:∀x,In a b x->α*f x+β*h x=q x*g x) (k:Ch a b (g::h::l)):Ch a b (f::g::h::l)
variable{a b:Rat}(N:sE a b)
section
variable{a b:Rat}(N:sE a b)
end
section
variable(Vb:Rat->Rat->Prop)
variable{Vb}
end
end Num
namespace Num
open Sub
noncomputable def Hy(a b r:List Rat):Prop:=lN r/\r.length<b.length/\∃q:Nat->Rat,Fin q/\∀k,cQ a k=JD q (cQ b) k+cQ r k
inductive RX:List Rat->List Rat->List (List Rat)->Prop
 |nil {a b:List Rat} (h:Hy a b []):RX a b []
 |cons {a b r:List Rat} {l:List (List Rat)} (h:Hy a b r) (h0:r≠[]) (k:RX b (N4 r) l):RX a b (N4 r::l)
section
variable{ns ms A B Qs R:List Int}{w E D0:Nat}{ld h c:Int}{α β:Rat}{a b:List Rat}
end
abbrev Pq:=Nat->Rat
noncomputable def I1:Pq:=cQ [1]
noncomputable def Z0(f:Pq):Prop:=∀i,f i=0
noncomputable def Un(f:Pq):Prop:=DQ f I1
noncomputable def pw(p:Pq):Nat->Pq
 |0=>I1
 |n+1=>JD p (pw p n)
structure cG(p:Pq):Prop where
 fin:Fin p
 nz:¬Z0 p
 un:¬Un p
 or:∀d,Fin d->DQ d p->Un d\/DQ p d
noncomputable def Val(p f:Pq)(e:Nat):Prop:=∃s,Fin s/\f=JD (pw p e) s/\¬DQ p s
structure Tn(f:Pq)(k:Nat)(left beyond:Pq):Prop where
 fl:Fin left
 nl:¬Z0 left
 fb:Fin beyond
 nb:¬Z0 beyond
 v:∀p,cG p->∀e,Val p f e->Val p left (if k<=e then 1 else 0)/\Val p beyond (e -k)
end Num
namespace Num
end Num
namespace Num
open Sub
end Num
namespace VL
open PySem PySem.W PyProof.Rows
noncomputable def yN(n:Nat)(r:Nat->Nat){α:Type}:KasT α->(α->Prop)->Prop
 |.ret a,Q=>Q a
 |.ask i j k,Q=>i<n/\j<n/\yN n r (k (decide (r i<r j))) Q
theorem eU{n:Nat}{r:Nat->Nat}{α b:Type}{f:α->KasT b}{Q:b->Prop}:∀(t:KasT α),yN n r t (λa=>yN n r (f a) Q)->yN n r (t.bind f) Q
 |.ret _,h=>h
 |.ask _ _ _,h=>⟨h.1,h.2.1,eU _ h.2.2⟩
theorem AR{n:Nat}{r:Nat->Nat}{α:Type}{I:Shared->Prop}{b:Nat->Nat->(Bool->Shared->Prop)->Shared->Prop}{Q:α->Prop}{g:α->Shared->Prop}(f:∀i j C s,i<n->j<n->I s->(∀s',I s'->C (decide (r i<r j)) s')->b i j C s)(e:∀a s,Q a->I s->g a s):∀(t:KasT α)(s:Shared),yN n r t Q->I s->t.kasWp b g s
 |.ret _,s,h,d=>e _ s h d
 |.ask i j k,s,h,d=>f i j _ s h.1 h.2.1 d λs' c=>AR f e (k (decide (r i<r j))) s' h.2.2 c
noncomputable def kB(n:Nat)(p:Array Nat):Prop:=p.toList.Perm (BB n)
theorem kB.sz{n:Nat}{p:Array Nat}(h:kB n p):p.size=n:=by have:=ZI h;rw[HI]at this;exact this
theorem kB.lt{n:Nat}{p:Array Nat}(h:kB n p){k:Nat}(b:k<n):p.getD k 0<n:=by
 have a:=h.sz;have e:p.getD k 0=p[k]'(by omega):=by simp[Z3,a,b]
 rw[e];exact Ki.mp (UR h|>.mp (by simp))
theorem kB.QN{n:Nat}{p:Array Nat}(h:kB n p)(i j:Nat):kB n (kas_rev p i j):=(TQ.mp (mirror_perm p i j _)).trans h
theorem kB.Vd{n:Nat}{p:Array Nat}(h:kB n p)(i j:Nat):kB n (bubble p i j):=(TQ.mp (bubble_perm p i j)).trans h
theorem uN{p:Array Nat}{i j:Nat}(a:j<=p.size)(k:Nat):(kas_rev p i j).getD k 0=if i<=k/\k<j then p.getD (i+j -1 -k) 0 else p.getD k 0:=by unfold kas_rev;simp only[TL];rw[getElem?_mirror_all a];split<;>rfl
theorem AS{p:Array Nat}{a d:Nat}(b:a<p.size)(c:d<=a)(k:Nat):(bubble p a d).getD k 0=if k=a -d then p.getD a 0 else if a -d<k/\k<=a then p.getD (k -1) 0 else p.getD k 0:=by
 simp only[TL];rw[getElem?_bubble b d c];split
 .rfl
 .split<;>rfl
section
variable{n:Nat}{r:Nat->Nat}
noncomputable def rN(r:Nat->Nat)(p:Array Nat)(k:Nat):Prop:=∀i j,i<=j->j<k->r (p.getD i 0)<=r (p.getD j 0)
noncomputable def El(r:Nat->Nat)(p:Array Nat)(k:Nat):Prop:=∀i j,i<=j->j<k->r (p.getD j 0)<=r (p.getD i 0)
theorem rN.s{p:Array Nat}{k:Nat}(h:rN r p k)(c:k=0\/r (p.getD (k -1) 0)<=r (p.getD k 0)):rN r p (k+1):=by
 intro i j b d;by_cases a:j<k
 .exact h i j b a
 .have e:j=k:=by omega
  subst e;by_cases e:i=j
  .rw[e];exact BM _
  .exact IH (h i (j -1) (by omega) (by omega)) (c.resolve_left (by omega))
theorem El.s{p:Array Nat}{k:Nat}(h:El r p k)(c:k=0\/r (p.getD k 0)<=r (p.getD (k -1) 0)):El r p (k+1):=by
 intro i j b d;by_cases a:j<k
 .exact h i j b a
 .have e:j=k:=by omega
  subst e;by_cases e:i=j
  .rw[e];exact BM _
  .exact IH (c.resolve_left (by omega)) (h i (j -1) (by omega) (by omega))
theorem AU{p:Array Nat}(d:kB n p){Q:Nat->Prop}:∀(f a:Nat),1<=a->a+f<=n->rN r p a->(∀m,a<=m->m<=a+f->rN r p m->(m=a+f\/r (p.getD m 0)<r (p.getD (m -1) 0))->Q m)->yN n r (kas_asc p f a) Q
 |0,a,_,_,b,h=>h a (BM _) (BM _) b (.inl rfl)
 |f+1,a,k,j,b,h=>by
  refine⟨d.lt (by omega),d.lt (by omega),?_⟩;dsimp only;by_cases c:r (p.getD a 0)<r (p.getD (a -1) 0)
  .rw[Bz (Do c)];exact h a (BM _) (by omega) b (.inr c)
  .rw[Bn (by rw[Fh];exact c)];exact AU d f (a+1) (by omega) (by omega) (b.s (.inr (by omega))) λm o l i g=>h m (by omega) (by omega) i (g.imp (λe=>by omega) λe=>e)
theorem AV{p:Array Nat}(c:kB n p){Q:Nat×Array Nat->Prop}{a:Nat}(k:1<=a)(d:a<=n)(f:El r p a)(h:∀m b,kB n b->1<=m->m<=n->rN r b m->Q (m,b)):yN n r (kas_tail3 a n p) Q:=by unfold kas_tail3;have e:=c.QN 0 a;refine eU _ (AU e (n -a) a k (by omega) ?_ λm o a2 a3 _=>h m _ e (by omega) (by omega) a3);intro i j g l;rw[uN (by rw[c.sz];exact d),uN (by rw[c.sz];exact d),Bz (by omega),Bz (by omega)];exact f _ _ (by omega) (by omega)
theorem kM{p:Array Nat}{i j:Nat}(b:j<=p.size)(a:∀k,i<=k->k<j->r (p.getD k 0)=r (p.getD (j -1) 0))(k:Nat):r ((kas_rev p i j).getD k 0)=r (p.getD k 0):=by
 rw[uN b];split
 .rw[a _ (by omega) (by omega),a k (by omega) (by omega)]
 .rfl
theorem qa{Q:Array Nat×Nat×Nat->Prop}:∀(f:Nat)(p:Array Nat)(a q:Nat),kB n p->1<=a->a+f<=n->El r p a->q+1<=a->(∀i,a -(q+1)<=i->i<a->r (p.getD i 0)=r (p.getD (a -1) 0))->
 (∀m g b,kB n b->a<=m->m<=n->El r b m->g+1<=m->(∀i,m -(g+1)<=i->i<m->r (b.getD i 0)=r (b.getD (m -1) 0))->Q (b,m,g))->yN n r (kas_desc f p a q) Q
 |0,p,a,q,e,B,y,k,t,l,h=>h a q p e (BM _) (by omega) k t l
 |f+1,p,a,q,e,B,y,k,t,l,h=>by
  refine⟨e.lt (by omega),e.lt (by omega),?_⟩;dsimp only;by_cases c:r (p.getD a 0)<r (p.getD (a -1) 0)
  .rw[Bz (Do c)];by_cases x:q>0
   .rw[Bz x];have ek:=kM (r:=r) (show a<=p.size by rw[e.sz];omega) l;refine qa f _ (a+1) 0 (e.QN _ _) (by omega) (by omega) (λi j u z=>?_) (by omega) (λi w a2=>by rw[show i=a+1 -1 by omega]) λm g b o v=>h m g b o (by omega);rw[ek,ek];exact k.s (.inr (by omega)) i j u z
   .rw[Bn x];exact qa f p (a+1) 0 e (by omega) (by omega) (k.s (.inr (by omega))) (by omega) (λi w a2=>by rw[show i=a+1 -1 by omega]) λm g b o v=>h m g b o (by omega)
  .rw[Bn (by rw[Fh];exact c)];refine⟨e.lt (by omega),e.lt (by omega),?_⟩;dsimp only;by_cases d:r (p.getD (a -1) 0)<r (p.getD a 0)
   .rw[Bz (Do d)];exact h a q p e (BM _) (by omega) k t l
   .rw[Bn (by rw[Fh];exact d)];refine qa f p (a+1) (q+1) e (by omega) (by omega) (k.s (.inr (by omega))) (by omega) (λi w a2=>?_) λm g b o v=>h m g b o (by omega);rw[show a+1 -1=a by omega];by_cases A:i=a
    .rw[A]
    .rw[l i (by omega) (by omega)];omega
theorem AW{p:Array Nat}(s:kB n p){Q:Nat×Array Nat->Prop}{a:Nat}(t:a+1<=n)(l:El r p (a+1))(h:∀m b,kB n b->1<=m->m<=n->rN r b m->Q (m,b)):yN n r (kas_descPart a n p) Q:=by
 unfold kas_descPart;refine eU _ (qa (n -(a+1)) p (a+1) 0 s (by omega) (by omega) l (by omega) (λi w a2=>by rw[show i=a+1 -1 by omega]) λm q b c v k g u f=>?_);dsimp only;by_cases e:q>0
 .rw[Bz e];refine AV (c.QN _ _) (by omega) k (λi j d o=>?_) h;rw[kM (r:=r) (show m<=b.size by rw[c.sz];omega) f,kM (r:=r) (show m<=b.size by rw[c.sz];omega) f];exact g i j d o
 .rw[Bn e];exact AV c (by omega) k g h
theorem Em{p:Array Nat}(b:kB n p){Q:Nat×Array Nat->Prop}(w:1<=n)(h:∀m g,kB n g->1<=m->m<=n->rN r g m->Q (m,g)):yN n r (kas_count n p) Q:=by
 unfold kas_count;refine eU _ (AU b (n -1) 1 (BM _) (by omega) (λi j a f=>by rw[show i=j by omega];exact BM _) λm t a2 a3 v=>?_);by_cases l:m=n
 .rw[Bz (by simpa using l)];exact h m p b t (by omega) a3
 .rw[Bn (by simpa using l)];have lt:r (p.getD m 0)<r (p.getD (m -1) 0):=v.resolve_left (by omega);by_cases o:m>1
  .rw[Bz o];refine⟨b.lt (by omega),b.lt (by omega),?_⟩;dsimp only;by_cases c:r (p.getD 0 0)<r (p.getD (m -1) 0)
   .rw[Bz (Do c)];exact h m p b t (by omega) a3
   .rw[Bn (by rw[Fh];exact c)];have d:∀k,0<=k->k<m->r (p.getD k 0)=r (p.getD (m -1) 0):=λk _ u=>by have:=a3 0 k (by omega) u;have:=a3 k (m -1) (by omega) (by omega);omega
    have q:=kM (r:=r) (show m<=p.size by rw[b.sz];omega) d;refine AW (b.QN _ _) (by omega) (λi j a f=>?_) h;rw[q,q];refine El.s (λi j a f=>?_) (.inr (by omega)) i j a f;rw[d i (by omega) (by omega),d j (by omega) (by omega)];exact BM _
  .rw[Bn o];have e:m=1:=by omega
   subst e;exact AW b (by omega) (El.s (λi j a f=>by rw[show i=j by omega];exact BM _) (.inr (by omega))) h
theorem qb{p:Array Nat}(j:kB n p){k:Nat}(o:k<n)(e:rN r p k){Q:Nat->Prop}(h:∀l,l<=k->(∀i,i<l->r (p.getD i 0)<=r (p.getD k 0))->(∀i,l<=i->i<k->r (p.getD k 0)<r (p.getD i 0))->Q l):∀(f a b:Nat),a<=b->b<=k->b -a<=f->(∀i,i<a->r (p.getD i 0)<=r (p.getD k 0))->(∀i,b<=i->i<k->r (p.getD k 0)<r (p.getD i 0))->yN n r (kas_place p k f a b) Q
 |0,a,b,u,t,s,d,g=>h a (by omega) d λi m a2=>g i (by omega) a2
 |f+1,a,b,u,t,s,d,g=>by
  unfold kas_place;by_cases q:a>=b
  .rw[Bz q];exact h a (by omega) d λi m a2=>g i (by omega) a2
  .rw[Bn q];refine⟨j.lt o,j.lt (by omega),?_⟩;dsimp only;by_cases c:r (p.getD k 0)<r (p.getD ((a+b)/2) 0)
   .rw[Bz (Do c)];exact qb j o e h f a ((a+b)/2) (by omega) (by omega) (by omega) d λi m a2=>Gc c (e _ _ m a2)
   .rw[Bn (by rw[Fh];exact c)];exact qb j o e h f ((a+b)/2+1) b (by omega) (by omega) (by omega) (λi m=>IH (e i ((a+b)/2) (by omega) (by omega)) (by omega)) g
theorem Hz{Q:Array Nat->Prop}(h:∀p,kB n p->rN r p n->Q p):∀(f:Nat)(p:Array Nat)(k:Nat),kB n p->rN r p k->k+f=n->yN n r (kas_bin f p k) Q
 |0,p,k,c,d,e=>h p c (by rw[<-e];exact d)
 |f+1,p,k,c,d,e=>by
  unfold kas_bin;refine eU _ (qb c (by omega) d (λl s g o=>?_) k 0 k (by omega) (by omega) (by omega) (λi a=>by omega) λi a b=>by omega);refine Hz h f _ (k+1) (c.Vd _ _) (λi j q t=>?_) (by omega);have hz:k<p.size:=by rw[c.sz];omega
  rw[AS hz (by omega),AS hz (by omega),show k -(k -l)=l by omega];obtain⟨x,m⟩:∃x,p.getD k 0=x:=⟨_,rfl⟩;simp only[m]at g o⊢;clear m
  repeat' split
  all_goals first
   |(exfalso;omega)
   |exact BM _
   |exact g _ (by omega)
   |exact Ye (o _ (by omega) (by omega))
   |exact d _ _ (by omega) (by omega)
theorem JF(e:1<=n):yN n r (kas_sort n) λp=>kB n p/\rN r p n:=by
 unfold kas_sort;refine eU _ (Em (by unfold kB;exact W2 _) e λm p d a b up=>?_);dsimp only;by_cases c:m<n
 .rw[Bz c];exact Hz (λp a b=>⟨a,b⟩) _ _ _ d (by rw[show max m 1=m by omega];exact up) (by omega)
 .rw[Bn c];exact⟨d,by rw[show n=m by omega];exact up⟩
end
end VL
namespace VL
open PySem PySem.W PySem.Calls PyProof.Rows
section
variable{prog:Program}{w:World}{A:Around}{E:Value->Shared->Prop}{s:Shared}{D kS:Addr}{vs:List Value}{κ:SortKind}{f:Value}{P:PySem.Fin->Shared->Prop}
noncomputable def uO(D kS:Addr)(h h':Heap):Prop:=∀b o,b≠D->b≠kS->h.get? b=some o->h'.get? b=some o
theorem uO.tr{h h' c:Heap}(a:uO D kS h h')(b:uO D kS h' c):uO D kS h c:=λx o g d e=>b x o g d (a x o g d e)
theorem uO.Ve{h:Heap}(f:Obj->Obj):uO D kS h (h.update D f):=λb o a _ e=>by rw[Wp _ _ _ _ a];exact e
theorem uO.T7{h:Heap}(f:Obj->Obj):uO D kS h (h.update kS f):=λb o _ a e=>by rw[Wp _ _ _ _ a];exact e
noncomputable def JG(vs b:List Value)(r:Nat->Nat)(D kS:Addr)(P:PySem.Fin->Shared->Prop)(s:Shared):Prop:=
 ∀(p:Array Nat)(a:Heap),kB vs.length p->rN r p vs.length->uO D kS s.heap a->(∃c,a.get? D=some (seqObj "list" (G8 (p.toList.map λi=>vs.getD i Value.none)) c))->P (.done (.ret .none)) {s with heap:=a}
theorem sF{b:List Value}{r:Nat->Nat}{e g:Nat}{st:SortSt}{p:Array Nat}(o:D≠kS)(x:s.heap.get? D=some (seqObj "list" #[] g))(l:s.heap.get? kS=some (seqObj "list" (G8 b) e))(q:b.length<64)(y:vs.length<64)
 (a:(arrOf st).map (·.2)=G8 (p.toList.map λi=>vs.getD i Value.none))(t:failedOf st=none)(m:kB vs.length p)(v:rN r p vs.length)(h:JG vs b r D kS P s):wpAny (model prog w) A (ksk_tail D false g (.ref kS) st) P E s:=by
 obtain⟨n,u⟩:∃n,(s.heap.update kS (Obj.mapSeq λ_=>(#[]:Array Value))).get? kS=some (seqObj "list" #[] n):=⟨_,get?_update_seq l λ_=> #[]⟩;have k:(s.heap.update kS (Obj.mapSeq λ_=>(#[]:Array Value))).get? D=some (seqObj "list" #[] g):=by rw[Wp _ _ _ _ o];exact x
 obtain⟨j,d⟩:∃j,((s.heap.update kS (Obj.mapSeq λ_=>(#[]:Array Value))).update D (Obj.mapSeq λ_=>G8 (p.toList.map λi=>vs.getD i Value.none))).get? D=some (seqObj "list" (G8 (p.toList.map λi=>vs.getD i Value.none)) j):=⟨_,get?_update_seq k λ_=>G8 (p.toList.map λi=>vs.getD i Value.none)⟩;have c:(G8 (p.toList.map λi=>vs.getD i Value.none)).size=vs.length:=by rw[Ee,Ap,JJ,m.sz]
 unfold ksk_tail
 try dsimp only
 rw[a];refine FC (listUpdate_at l rfl ?_ (by rw[Ee,Ta];omega) (Hn _));refine FC (wpAny_letGo ?_);refine FC (seqEpoch_at k rfl ?_);simp only[XT,YU];refine FC (listUpdate_at k rfl ?_ (Hn _) (IH (Sr c) (by rw[Ta];omega)));rw[t];simp only[bne_self_eq_false,XT,YU];exact Kb (h p _ m v ((uO.T7 _).tr (uO.Ve _)) ⟨j,d⟩)
theorem En{g:List Value}{r:Nat->Nat}{e K:Nat}(B:D≠kS)(u:g.length=vs.length)(m:vs.length<64)(J:s.heap.get? D=some (seqObj "list" #[] K))(H:s.heap.get? kS=some (seqObj "list" (G8 g) e))
 (L:2<=vs.length->∀Q:SortKind->Shared->Prop,Q κ s->wpAny (model prog w) A (keyKind' (G8 g)) Q (λ_ _=>False) s)
 (R:∀i j (C:Bool->Shared->Prop),i<vs.length->j<vs.length->C (decide (r i<r j)) s->kas_ask prog w A κ g i j C s)(h:JG vs g r D kS P s):
 wpAny (model prog w) A (ksk_end D false vs.toArray K (.ref kS) (G8 g)) P E s:=by
 unfold ksk_end
 try dsimp only
 simp only[XT,YU];by_cases l:vs.toArray.size<2
 .rw[Bz l,Bz l];rw[Ee]at l;refine FC (Kb ?_);rw[StateT.run_pure];refine FC (Kb ?_);refine sF (p:=G8 (BB vs.length)) (r:=r) B J H (by omega) m ?_ rfl (W2 _) (λi j a b=>?_) h
  .show((G8 g).zip vs.toArray).map (·.2)=_
   match vs,g,u,l with
   |[],[],_,_=>simp
   |[v],[k],_,_=>simp
   |_::_::_,_,_,l=>rw[D8,D8]at l;omega
  .rw[show i=j by omega];exact BM _
 .rw[Bn l,Bn l];rw[Ee]at l;refine FC (SF (L (by omega) (λo q=>o=κ/\q=s) ⟨rfl,rfl⟩) (λo q t=>?_) λ_ _ x=>x.elim);obtain⟨rfl,rfl⟩:=t;refine FC (SF (kat_run (G:=λp c=>c=q/\kB vs.length p/\rN r p vs.length) (Q:=λd c=>c=q/\∃p:Array Nat,arrOf d=p.map (kas_item ((G8 g).zip vs.toArray))/\failedOf d=none/\kB vs.length p/\rN r p vs.length)
   u (by omega) m (λp d c Y a2 a3 z=>⟨z.1,p,a2,a3,z.2.1,z.2.2⟩) (AR (n:=vs.length) (r:=r) (I:=λc=>c=q) (λi j C c N M e T=>by rw[e];exact R i j C N M (T _ rfl)) (λp c t e=>⟨e,t.1,t.2⟩) _ _ (JF (by omega)) rfl)) ?_ λ_ _ x=>x)
  rintro⟨⟨⟩,d⟩ c ⟨rfl,p,y,O,U,S⟩;exact sF B J H (by omega) m (kat_snds u y) O U S h
structure AX(prog:Program)(w:World)(A:Around)(κ:SortKind)(f:Value)(vs:List Value)(D kS:Addr)(P:PySem.Fin->Shared->Prop)(S:List Value->Shared->Prop):Prop where
 but:∀ks s h',S ks s->uO D kS s.heap h'->S ks {s with heap:=h'}
 turn:∀i v ks (s:Shared) oK oD nK nD,vs[i]?=some v->ks.length=i->S ks s->s.heap.get? D=some (seqObj "list" oD nD)->s.heap.get? kS=some (seqObj "list" oK nK)->
  wpAny (model prog w) A (call f [v]) (λk s'=>S (ks++[k]) s'/\s'.heap.get? D=some (seqObj "list" oD nD)/\s'.heap.get? kS=some (seqObj "list" oK nK)) (λ_ _=>False) s
 fin:∀ks s,S ks s->ks.length=vs.length->∃r:Nat->Nat,(2<=vs.length->∀Q:SortKind->Shared->Prop,Q κ s->wpAny (model prog w) A (keyKind' (G8 ks)) Q (λ_ _=>False) s)/\
  (∀i j (C:Bool->Shared->Prop),i<vs.length->j<vs.length->C (decide (r i<r j)) s->kas_ask prog w A κ ks i j C s)/\JG vs ks r D kS P s
theorem AY{S:List Value->Shared->Prop}{n:Nat}(T:AX prog w A κ f vs D kS P S)(t:D≠kS)(m:vs.length<64)(C:s.heap.get? D=some (seqObj "list" #[] n))(z:s.heap.get? kS=some (seqObj "list" #[] 0))(y:S [] s):
 wpAny (model prog w) A (ksk_rest D f false vs.toArray n (.ref kS)) P E s:=by
 unfold ksk_rest;refine FC (wpAny_rule ?_)
 first
  |rw[List.forIn_toArray]
  |(rw[<-W4];simp only[List.toList_toArray])
  |rw[<-W4]
 refine FC (ksk_fold (λi b=>∃a c,a.length=i/\S a b/\b.heap.get? D=some (seqObj "list" #[] n)/\b.heap.get? kS=some (seqObj "list" (G8 a) c)) vs 0 s ⟨[],0,rfl,y,C,z⟩ (λi v b q h=>?_) λb h=>?_)
 .rw[YA]at h⊢;obtain⟨a,c,g,d,p,j⟩:=h;have M:i<vs.length:=(FS.mp q).1;refine FC (wpAny_attempt (SF (T.turn i v a b _ _ _ _ q g d p j) (λk e x=>?_) λ_ _ B=>B.elim));obtain⟨L,K,u⟩:=x;have J:(G8 a).push k=G8 (a++[k]):=by simp
  obtain⟨o,l⟩:∃o,(e.heap.update kS (Obj.mapSeq (·.push k))).get? kS=some (seqObj "list" (G8 (a++[k])) o):=⟨_,by rw[<-J];exact get?_update_seq u (·.push k)⟩
  try dsimp only
  refine FC (listUpdate_at u rfl ?_ (by rw[Ee,Ta];omega) (IH (Sr (Array.size_push ..)) (by rw[Ee,Ta];omega)));exact Kb ⟨rfl,a++[k],o,by rw[Fk,G7,g],T.but _ _ _ L (uO.T7 _),by show(e.heap.update kS _).get? D=_;rw[Wp _ _ _ _ t];exact K,l⟩
 .rw[YA]at h;obtain⟨a,c,g,d,p,j⟩:=h
  try dsimp only
  refine FC (listItems_at j rfl ?_);obtain⟨r,I,H,G⟩:=T.fin a b d g;exact En t g m p j I H G
theorem AZ{n:Nat}{S:List Value->Shared->Prop}(a:s.heap.get? D=some (seqObj "list" vs.toArray n))(c:vs.length<64)(T:AX prog w A κ f vs D (s.heap.objs.size+1) P S)(k:∀h',uO D (s.heap.objs.size+1) s.heap h'->S [] {s with heap:=h'}):
 wpAny (model prog w) A (ksk_tree D f false) P E s:=by
 have j:D<s.heap.objs.size:=FK a;obtain⟨g,i⟩:∃g,(s.heap.update D (Obj.mapSeq λ_=>(#[]:Array Value))).get? D=some (seqObj "list" #[] g):=⟨_,get?_update_seq a λ_=> #[]⟩;have h:((s.heap.update D (Obj.mapSeq λ_=>(#[]:Array Value))).push (seqObj "tuple" vs.toArray 0)).objs.size=s.heap.objs.size+1:=by rw[size_push',Heap.size_update]
 unfold ksk_tree;refine FC (listItems_at a rfl ?_);refine FC (listUpdate_at a rfl ?_ (by rw[Ee,Ta];omega) (Hn _));refine FC (seqEpoch_at i rfl ?_);refine FC (wpAny_newTuple ?_ (by show vs.length<=_;rw[Ta];omega));refine FC (wpAny_newList ?_ (Hn _));refine YG ?_;have d:=GE ((s.heap.update D (Obj.mapSeq λ_=>(#[]:Array Value))).push (seqObj "tuple" vs.toArray 0)) (o:=seqObj "list" #[] 0) rfl;rw[h]at d;have:=AY (s:={s with heap:=((s.heap.update D (Obj.mapSeq λ_=>(#[]:Array Value))).push (seqObj "tuple" vs.toArray 0)).push (seqObj "list" #[] 0)}) (E:=E) T (Ha (SZ j)) c (D1 _ (D1 _ i)) d (k _ λb o l m e=>D1 _ (D1 _ (by rw[Wp _ _ _ _ l];exact e)));rw[<-h]at this;exact this
theorem uP{l:Addr}{d:List (Str×Value)}{Q:Value->Shared->Prop}{S:List Value->Shared->Prop}(u:s.heap.IsList l vs.toArray)(n:vs.length<64)
 (k:argsOk "sorted" ⟨[.ref l],d⟩)(j:∀x,argsOk "list.sort" ⟨[.ref x],d⟩)(t:∀x,Builtin.«list.sort» ⟨[.ref x],d⟩=ksk_tree x f false)
 (T:AX prog w A.in1.in1 κ f vs (s.heap.objs.size+1) (s.heap.objs.size+3) (λr s'=>r=.done (.ret .none)/\Q (.ref (s.heap.objs.size+1)) s') S)(y:∀h',(∀b o,s.heap.get? b=some o->h'.get? b=some o)->S [] {s with heap:=h'}):
 wpAny (model prog w) A (call (.builtin "sorted") [.ref l] d) Q E s:=by
 refine call_function_entry_kw kind_sorted plain_sorted entry_sorted k ?_;unfold Builtin.«sorted»;refine FC (m:=checkCount "sorted" 1 1 _) (Kb ?_);refine FC (collect_list u ?_ (by rw[Ta];omega));refine FC (wpAny_newList ?_ (by rw[Ta];omega));have a:((s.heap.push (seqObj "list" #[] 0)).update s.heap.objs.size (Obj.mapSeq (·++vs.toArray))).objs.size=s.heap.objs.size+1:=by rw[Heap.size_update,size_push']
 have p:(((s.heap.push (seqObj "list" #[] 0)).update s.heap.objs.size (Obj.mapSeq (·++vs.toArray))).push (seqObj "list" vs.toArray 0)).get? (s.heap.objs.size+1)=some (seqObj "list" vs.toArray 0):=by rw[<-a];exact GE _ rfl
 have g:∀b o,s.heap.get? b=some o->(((s.heap.push (seqObj "list" #[] 0)).update s.heap.objs.size (Obj.mapSeq (·++vs.toArray))).push (seqObj "list" vs.toArray 0)).get? b=some o:=λb o q=>by have c:b<s.heap.objs.size:=FK q;rw[Heap.get?_push_ne _ _ _ (by rw[a];exact Ha (SZ c)),Wp _ _ _ _ (Ha c),Heap.get?_push_ne _ _ _ (Ha c)];exact q
 show wpAny _ _ _ _ _ {s with heap:=((s.heap.push (seqObj "list" #[] 0)).update s.heap.objs.size (Obj.mapSeq (·++vs.toArray))).push (seqObj "list" vs.toArray 0)};rw[a];refine FC (YG (wpAny_call_entry_kw slot_list_sort ⟨_,p,rfl⟩ entry_list_sort ?body (j _)))
 case body=>
  have h:=t (s.heap.objs.size+1);show wpAny (model prog w) A.in1.in1 (Builtin.«list.sort» ⟨[.ref (s.heap.objs.size+1)],d⟩) _ _ _;rw[h];have hz:(((s.heap.push (seqObj "list" #[] 0)).update s.heap.objs.size (Obj.mapSeq (·++vs.toArray))).push (seqObj "list" vs.toArray 0)).objs.size+1=s.heap.objs.size+3:=by rw[size_push',a]
  refine SF (AZ (s:={s with heap:=((s.heap.push (seqObj "list" #[] 0)).update s.heap.objs.size (Obj.mapSeq (·++vs.toArray))).push (seqObj "list" vs.toArray 0)}) (E:=λ_ _=>False) p n (by rw[hz];exact T) λh' v=>?_) (λr s' i=>?_) λ_ _ x=>x.elim
  .refine y h' λb o e=>v b o (Ha (SZ (FK e))) ?_ (g b o e);rw[hz];exact Ha (Gc (FK e) (by omega))
  .obtain⟨rfl,i⟩:=i;exact⟨_,rfl,Kb ⟨_,rfl,i⟩⟩
end
end VL
namespace VL
open PySem PySem.Spec PySem.Calls
open PyProof.Rows hiding St
open L2
section
variable{X:Cx}{pins:List (Addr×Obj)}{σ:St}{H:Hp}{s:Shared}
theorem _root_.L2.dF.at{H':Hp}{b:Addr}(f:dF X pins H b)(h:H' b=none):dF X pins H' b:=⟨h,f.2⟩
theorem _root_.L2.Inv.wK{D g:Addr}{h':Heap}(I:Inv X pins σ H s)(k:uO D g s.heap h')(f:dF X pins H D)(d:dF X pins H g):Inv X pins σ H {s with heap:=h'}:=by
 have h:∀b u,H b=some u->b≠D/\b≠g:=λb u e=>⟨λz=>(by rw[z,f.1]at e;cases e),λz=>(by rw[z,d.1]at e;cases e)⟩;have i:∀b o,b∉[D,g]->s.heap.get? b=some o->h'.get? b=some o:=λb o a e=>k b o (λz=>a (by simp[z])) (λz=>a (by simp[z])) e;refine I.step (g':=s.gens) (d':=s.drawn) (t':=s.toks) (ch:=[D,g]) (λb j=>?_) (λb o _ _ a e _=>i b o a e) (λb o _ _ a e _=>⟨o.slots,i b o a e⟩) (λ_ _ _ _ n=>n)
  (λb o a e=>⟨o,i b o a e⟩) (λ_ _ e=>e) (λ_ _ _ e=>e) (λb x e=>⟨#[],by rw[e];simp⟩) (λm p=>?_) (λb u e=>?_) I.bare
 .rcases Fm.mp j with rfl|j
  .exact⟨f.2.2.2.1,f.2.1,f.2.2.2.2.1,f.2.2.2.2.2⟩
  .rw[Da.mp j];exact⟨d.2.2.2.1,d.2.1,d.2.2.2.2.1,d.2.2.2.2.2⟩
 .obtain⟨o,t,w,l,r⟩:=p;exact⟨o,t,w,k _ o (Mo f.2.1) (Mo d.2.1) l,r⟩
 .refine(I.hok b u e).stay (λc v a q=>k c v ?_ ?_ q) (λ_ q=>q) λ_ _ q=>q
  .rcases a with z|z
   .rw[z];exact(h b u e).1
   .exact(h c _ z).1
  .rcases a with z|z
   .rw[z];exact(h b u e).2
   .exact(h c _ z).2
theorem _root_.L2.Inv.N5{D:Addr}{o:HO}(I:Inv X pins σ H s)(f:dF X pins H D)(d:bF X.prog X.w (upd H D o) s.heap D o):Inv X pins σ (upd H D o) s:=by
 have a:∀b u,H b=some u->b≠D:=λb u e z=>by rw[z,f.1]at e;cases e
 refine⟨I.ok,I.os,I.bare,⟨I.base.keep,I.base.slot,λb u e n h=>?_,I.base.there,λb g e=>?_,λb k u e=>?_,λb j e=>?_⟩,I.loc,I.cell,?_,λx c e=>?_,λp i=>?_,λb u e=>?_,I.len⟩
 .rw[aA]
  .exact I.base.free b u e n h
  .intro z;subst z;rcases f.2.2.2.1 with z|z
   .exact h z
   .exact absurd (Gc (FK e) z) (Nw _)
 .have:=I.base.tups b g e;rw[aA (a _ _ this)];exact this
 .have:=I.base.iE b k u e;rw[aA (a _ _ this)];exact this
 .obtain⟨m,this⟩:=I.base.ju b j e;exact⟨m,by rw[aA (a _ _ this)];exact this⟩
 .rw[aA (Mo f.2.1)];exact I.free
 .rw[aA (f.2.2.2.2.1 x c e)];exact I.fX x c e
 .obtain⟨l,a2,a3⟩:=I.pin p i;exact⟨l,by rw[aA (f.2.2.2.2.2 p i)];exact a2,a3⟩
 .by_cases z:b=D
  .subst z;rw[aL]at e;cases e;exact d
  .rw[aA z]at e;refine(I.hok b u e).stay (λc v r q=>q) (λc q=>?_) λc g q=>?_
   .rw[aA (a _ _ q)];exact q
   .rw[aA (a _ _ q)];exact q
theorem _root_.L2.Vals.perm{a:List V}{vs:List Value}(r:Vals a vs):∀p:List Nat,Vals (p.map λi=>a.getD i .aM) (p.map λi=>vs.getD i Value.none)
 |[]=>.nil
 |i::p=>by
  refine .cons ?_ (L2.Vals.perm r p);show RelV (a.getD i .aM) (vs.getD i Value.none);by_cases b:i<a.length
  .obtain⟨u,e,h⟩:=r.get (B1 b);rw[show a.getD i .aM=a[i] by simp[AC,b],show vs.getD i Value.none=u by rw[AC,e];rfl];exact h
  .have c:¬i<vs.length:=by rw[<-r.length];exact b
   rw[show a.getD i .aM=.aM by simp[AC,RF b],show vs.getD i Value.none=Value.none by simp[AC,RF c]];rfl
theorem Eo{l:Addr}{z:List V}{vs:List Value}{f:Value}{u:List (Str×Value)}{κ:SortKind}{KP:List Value->Hp->Prop}{Q:VK}{E:Value->Shared->Prop}(I:Inv X pins σ H s)(hl:s.heap.IsList l vs.toArray)(rv:Vals z vs)(L:vs.length<64)
 (K:argsOk "sorted" ⟨[.ref l],u⟩)(J:∀x,argsOk "list.sort" ⟨[.ref x],u⟩)(ht:∀x,Builtin.«list.sort» ⟨[.ref x],u⟩=ksk_tree x f false)(k0:KP [] H)
 (m:∀i v a H1 s1 t,vs[i]?=some v->a.length=i->Inv X t σ H1 s1->KP a H1->wpAny (model X.prog X.w) X.A.in1.in1 (call f [v]) (λk s'=>∃H',Inv X t σ H' s'/\KP (a++[k]) H') (λ_ _=>False) s1)
 (M:∀a H1,KP a H1->a.length=vs.length->∃r:Nat->Nat,(∀t s1,Inv X t σ H1 s1->(2<=vs.length->∀Q:SortKind->Shared->Prop,Q κ s1->wpAny (model X.prog X.w) X.A.in1.in1 (keyKind' (G8 a)) Q (λ_ _=>False) s1)/\
   ∀i j (C:Bool->Shared->Prop),i<vs.length->j<vs.length->C (decide (r i<r j)) s1->PySem.W.kas_ask X.prog X.w X.A.in1.in1 κ a i j C s1)/\
   ∀(p:Array Nat) D,kB vs.length p->rN r p vs.length->H1 D=none->Q (.ref D) (upd H1 D (.lst (p.toList.map λi=>z.getD i .aM)))):
 wpAny (model X.prog X.w) X.A (call (.builtin "sorted") [.ref l] u) (EP X pins σ Q) E s:=by
 have Vh:dF X pins H (s.heap.objs.size+1):=I.lF (by omega) (I.hok.fresh (by omega));have Vi:dF X pins H (s.heap.objs.size+3):=I.lF (by omega) (I.hok.fresh (by omega));refine uP (κ:=κ) (S:=λa s1=>∃H1,Inv X pins σ H1 s1/\dF X pins H1 (s.heap.objs.size+1)/\dF X pins H1 (s.heap.objs.size+3)/\KP a H1) hl L K J ht ⟨?_,?_,?_⟩ λh' q=>⟨H,I.kept (t':=s.toks) q,Vh,Vi,k0⟩
 .rintro a s1 h' ⟨H1,I1,d,g,n⟩ b;exact⟨H1,I1.wK b d g,d,g,n⟩
 .rintro i v a s1 P R T U hv hi ⟨H1,I1,d,g,n⟩ hD hK;have N:Inv X ((s.heap.objs.size+1,seqObj "list" R U)::(s.heap.objs.size+3,seqObj "list" P T)::pins) σ H1 s1:=I1.kJ λp h=>by
   rcases Fm.mp h with rfl|h
   .exact⟨hD,d.1,d.2.1,d.2.2.1,λv e=>nomatch e⟩
   .rcases Fm.mp h with rfl|h
    .exact⟨hK,g.1,g.2.1,g.2.2.1,λv e=>nomatch e⟩
    .exact I1.pin p (Fs _ h)
  refine SF (m i v a H1 s1 _ hv hi N n) (λk s' ⟨H',y,Vj⟩=>?_) λ_ _ x=>x;have pD:=y.pin (s.heap.objs.size+1,seqObj "list" R U) (Fs _ (.head _));have O:=y.pin (s.heap.objs.size+3,seqObj "list" P T) (Fs _ (.tail _ (.head _)));exact⟨⟨H',y.kJ λp h=>y.pin p (Fs _ (.tail _ (.tail _ h))),dF.at d pD.2.1,dF.at g O.2.1,Vj⟩,pD.1,O.1⟩
 .rintro a s1 ⟨H1,I1,d,g,n⟩ B;obtain⟨r,Z,h2⟩:=M a H1 n B;refine⟨r,(Z pins s1 I1).1,(Z pins s1 I1).2,λp h' Y hU b G=>⟨rfl,?_⟩⟩;obtain⟨c,G⟩:=G;have N:=I1.wK b d g;refine⟨.ref _,_,N.N5 (o:=.lst (p.toList.map λi=>z.getD i .aM)) d ⟨?_,_,c,rv.perm _,G⟩,rfl,h2 p _ Y hU d.1⟩;rw[Ap,JJ,Y.sz,Ta];omega
end
end VL
namespace HT
open PySem PySem.Spec PyProof.Rows
section
open PySem.SeqAt
open PySem.AutoSeq1 (wpAny_loadPart')
open PySem.MeetsSeq PySem.MeetsSeq2 PySem.MeetsSeq3
theorem qc(l b:Addr)(items f:Array Value)(n P:Nat)(dd L:Option Addr)(O G:Array (Option Value))(k:Nat):
 ∀(i:Nat)(ns x:List Int),items.size -i=k->i<=items.size->i<=f.size->IntsAre (items.toList.drop i) ns->IntsAre (f.toList.drop i) x->Meets (Builtin.«list.__eq__.loop» ⟨[.ref l,.ref b,rawInt i,rawInt 0],[]⟩)
  (λA R s=>s.heap.get? l=some {cls:=.type "list",dict:=dd,data:=.seq items n,slots:=O}/\s.heap.get? b=some {cls:=.type "list",dict:=L,data:=.seq f P,slots:=G}/\
    R (.ok (.ret (.bool (lexLt ns x)))) s):=by
 induction k with
 |zero=>
  intro i ns x U T S C z j w A R s h;obtain⟨I,g,d,E,H⟩:=s;obtain⟨y,B,h⟩:=h
  wp_walk using Kj y,Kj B
  have o:items[((i:Nat):Int).toNat]?=none:=by simp;omega
  have ed:items.toList.drop i=[]:=by simp;omega
  rw[ed]at C;cases C;rw[o];have e:lexLt [] x=decide (items.size<f.size):=by
   have hz:=z.length;rw[Sb,JJ]at hz;cases x with
   |nil=>rw[NN]at hz;rw[nV];exact(KB (by omega)).symm
   |cons m x=>rw[D8]at hz;rw[lJ];exact(Do (by omega)).symm
  rw[e]at h
  wp_walk using Kj y,Kj B
  exact h
 |succ k Q=>
  intro i ns x U T S C z j w A R s h;obtain⟨I,g,d,E,H⟩:=s;obtain⟨y,B,h⟩:=h
  wp_walk using Kj y,Kj B
  have D:i<items.size:=by omega
  have o:items[((i:Nat):Int).toNat]?=some items[i]:=by simp[D]
  have d1:items.toList.drop i=items[i]::items.toList.drop (i+1):=by simp[Kt,D]
  rw[d1]at C;generalize items[i]=v at C o;cases C with
  |cons a t K=>
  by_cases N:i<f.size
  .have p:f[((i:Nat):Int).toNat]?=some f[i]:=by simp[N]
   have M:f.toList.drop i=f[i]::f.toList.drop (i+1):=by simp[Kt,N]
   rw[M]at z;generalize f[i]=v2 at z p;cases z with
   |cons c u J=>
   have Z:((i:Int)+1)=((i+1:Nat):Int):=by push_cast;rfl
   rw[gX]at h;rw[o,p];obtain⟨e,Y,r⟩:=Az A.in1 ⟨I,g,d,E,H⟩ a t c u;refine FC (Y j w _ _ ?_);cases e with
   |true=>
    rw[Bz (r.mp rfl)]at h
    wp_walk
    rw[Z];exact⟨plainId_quiet plain_eq_loop _,codeAny_builtin entry_eq_loop (by rw[Around.under_plainId plain_eq_loop _];exact Q (i+1) _ _ (by omega) (by omega) (by omega) K J j w A R _ ⟨y,B,h⟩)⟩
   |false=>
    rw[Bn (λq=>absurd (r.mpr q) Hk)]at h;have RY:=sf A.in1 ⟨I,g,d,E,H⟩ a t c u j w
    wp_walk using Kj y,Kj B
    rw[o,p]
    wp_walk using RY
    exact h
  .have p:f[((i:Nat):Int).toNat]?=none:=by simp;omega
   have M:f.toList.drop i=[]:=by simp;omega
   rw[M]at z;cases z;rw[lK]at h;rw[o,p]
   wp_walk using Kj y,Kj B
   have e:decide (items.size<f.size)=false:=KB (by omega);show R (.ok (.ret (.bool (decide (items.size<f.size))))) _;rw[e];exact h
theorem qd(l b:Addr)(items a:Array Value)(n k:Nat)(dd f:Option Addr)(j c:Array (Option Value))(ns i:List Int)(q:IntsAre items.toList ns)(p:IntsAre a.toList i):
 Meets (Builtin.«list.__lt__» ⟨[.ref l,.ref b],[]⟩)
  (λ_ R s=>s.heap.get? l=some {cls:=.type "list",dict:=dd,data:=.seq items n,slots:=j}/\s.heap.get? b=some {cls:=.type "list",dict:=f,data:=.seq a k,slots:=c}/\
    R (.ok (.ret (.bool (lexLt ns i)))) s):=by
 intro e w A R s h;obtain⟨u,g,d,r,t⟩:=s;obtain⟨m,o,h⟩:=h;have v:=AutoSeq1.sub_list_list
 wp_walk using Kj m,Kj o
 exact⟨plainId_quiet plain_eq_loop _,codeAny_builtin entry_eq_loop (by rw[Around.under_plainId plain_eq_loop _];exact qc l b items a n k dd f j c _ 0 ns i rfl (Hn _) (Hn _) q p e w A R _ ⟨m,o,h⟩)⟩
end
section
variable{prog:Program}{w:World}{A:Around}{E:Value->Shared->Prop}{s:Shared}
theorem lT{l b:Addr}{items a:Array Value}{ns c:List Int}{Q:Value->Shared->Prop}(u:s.heap.IsList l items)(z:s.heap.IsList b a)(y:IntsAre items.toList ns)(v:IntsAre a.toList c)
 (t:A.units<cLine)(h:Q (.bool (lexLt ns c)) s):wpAny (model prog w) A (compareOp .Lt (.ref l) (.ref b)) Q E s:=by
 obtain⟨⟨B,dd,p,q⟩,k,o,n,m⟩:=id u;obtain⟨⟨C,i,j,g⟩,d,f,r,e⟩:=id z;simp only at o m f e;subst o m f e;exact richCompare_meets_room (op:=.Lt) ⟨_,k,rfl⟩ ⟨_,d,rfl⟩ PySem.F.slot_list_lt PySem.F.entry_list_lt (PySem.F.args_list_lt_2 _ _) (qd l b items a n r dd i q g ns c y v)
  ⟨k,d,show Value.bool (lexLt ns c)≠Value.notImplemented/\Q (.bool (lexLt ns c)) s from⟨(λx=>nomatch x),h⟩⟩ t
end
end HT
namespace VL
open PySem PySem.Spec PySem.Calls PyProof.Rows
theorem ints_get:∀{vs:List Value}{ns:List Int},IntsAre vs ns->∀(j:Nat)(h:j<vs.length),∃t,vs[j]=.int (ns.getD j 0) t
 |_,_,.cons n t _,0,_=>⟨t,rfl⟩
 |_,_,.cons n t r,j+1,h=>by obtain⟨u,e⟩:=ints_get r j (by simpa using h);exact⟨u,by simpa using e⟩
theorem all_eq:∀(ns a:List Int),ns.length=a.length->(BB ns.length).all (λj=>ns.getD j 0==a.getD j 0)=decide (ns=a)
 |[],[],_=>rfl
 |n::ns,m::a,h=>by
  have ih:=all_eq ns a (by simpa using h);rw[D8,XX,JE,List.all_map];have:((λj=>(n::ns).getD j 0==(m::a).getD j 0)∘ZF)=λj=>ns.getD j 0==a.getD j 0:=by funext j;rfl
  rw[this,ih];show((n==m)&&decide (ns=a))=_;by_cases e:n=m<;>by_cases b:ns=a<;>simp[e,b]
 |[],_::_,h=>by simp at h
 |_::_,[],h=>by simp at h
theorem sG:∀{vs:List Value}{ns a:List Int},IntsAre vs ns->IntsAre vs a->ns=a
 |_,_,_,.nil,.nil=>rfl
 |_,_,_,.cons n t r,.cons _ _ b=>by rw[sG r b]
section
variable{A:Around}{s:Shared}
theorem sH{l b:Addr}{items a:Array Value}{ns c:List Int}(g:s.heap.IsList l items)(k:s.heap.IsList b a)(i:IntsAre items.toList ns)(h:IntsAre a.toList c)(p:A.units<cLine):
 SeqAt.EqAt A s (.ref l) (.ref b) (decide (ns=c)):=by
 have m:items.size=ns.length:=by rw[<-i.length];simp
 have w:a.size=c.length:=by rw[<-h.length];simp
 by_cases e:l=b
 .subst e;obtain⟨o,x,_,n,y⟩:=g;obtain⟨C,d,_,D,f⟩:=k;rw[x]at d;cases d;rw[y]at f;cases f;rw[Do (sG i h)];exact SeqAt.EqAt.same _
 .refine SeqAt.EqAt.of_refs e ?_;by_cases hz:items.size=a.size
  .have:=SeqAt.RcAt.lists (e:=λj=>ns.getD j 0==c.getD j 0) g k hz p λj v r=>by obtain⟨t,B⟩:=ints_get i j (by simpa using v);obtain⟨u,z⟩:=ints_get h j (by simpa using r);rw[show items[j]=items.toList[j]'(by simpa using v) by simp,show a[j]=a.toList[j]'(by simpa using r) by simp,B,z];exact YW _ _ _ _
   rw[m,all_eq ns c (by omega)]at this;exact this
  .rw[KB (λq=>hz (by rw[m,w,q]))];exact SeqAt.RcAt.lists_lengths g k (by simpa using hz) p
end
theorem lU:∀a:List Int,HT.lexLt a a=false
 |[]=>rfl
 |x::b=>by rw[HT.gX,Bz rfl];exact lU b
end VL
namespace HT
open PySem PySem.Spec PyProof.Rows
noncomputable def RZ(A:Around)(s:Shared)(x y:Value)(c:Bool):Prop:=∀(a:Program)(w:World)(E:Value->Shared->Prop)(Q:Value->Shared->Prop),Q (.bool c) s->wpAny (model a w) A (richCompare .Lt x y) Q E s
inductive qe(A:Around)(s:Shared):List Value->List Value->Bool->Prop where
 |nn:qe A s [] [] false
 |nc {y ys}:qe A s [] (y::ys) true
 |cn {x xs}:qe A s (x::xs) [] false
 |eq {x y xs ys c} (h:SeqAt.EqAt A s x y true) (r:qe A s xs ys c):qe A s (x::xs) (y::ys) c
 |ne {x y xs ys c} (h:SeqAt.EqAt A s x y false) (r:RZ A s x y c):qe A s (x::xs) (y::ys) c
section
open PySem.SeqAt
open PySem.AutoSeq1 (wpAny_loadPart')
open PySem.MeetsSeq PySem.MeetsSeq2 PySem.MeetsSeq3
theorem sI(l b:Addr)(items a:Array Value)(n D:Nat)(dd u:Option Addr)(C q:Array (Option Value))(c:Bool):
 Meets (Builtin.«tuple.__lt__» ⟨[.ref l,.ref b],[]⟩)
  (λA R s=>s.heap.get? l=some {cls:=.type "tuple",dict:=dd,data:=.seq items n,slots:=C}/\s.heap.get? b=some {cls:=.type "tuple",dict:=u,data:=.seq a D,slots:=q}/\
    qe A.in1 s items.toList a.toList c/\R (.ok (.ret (.bool c))) s):=
 .of_wp λf w A R s h=>by
  obtain⟨B,g,d,v,z⟩:=s;obtain⟨G,H,o,h⟩:=h;have L:=AutoSeq1.sub_tuple_tuple;have K:items.size=items.toList.length:=by simp
  have J:a.size=a.toList.length:=by simp
  wp_walk using Kj G,Kj H,wpAny_forIn_list _ (λrest b t=>b.1=none/\t=⟨B,g,d,v,z⟩/\∃(m k:List Value),rest=m.zip k/\
   qe A.in1 ⟨B,g,d,v,z⟩ m k c/\m.length+a.size=k.length+items.size) _
  case turn=>
   rintro⟨y,x⟩ rest b t ⟨j,rfl,m,k,hz,i,e⟩;cases i with
   |nn=>cases hz
   |nc=>cases hz
   |cn=>cases hz
   |eq p r=>
    rw[Ng]at hz;injection hz with hyx hrest;injection hyx with hy o;subst hy o;simp only[D8]at e;refine FC (p f w _ _ ?_)
    wp_walk
    exact⟨rfl,rfl,_,_,hrest,r,by omega⟩
   |ne p r=>
    rw[Ng]at hz;injection hz with hyx hrest;injection hyx with hy o;subst hy o;refine FC (p f w _ _ ?_);have I:=r f w
    wp_walk using I
    exact⟨_,rfl,by simpa using h⟩
  case fin=>
   rintro⟨N,M⟩ t ⟨j,rfl,m,k,hz,i,e⟩;simp only at j;subst j;have E:c=decide (items.size<a.size):=by
    cases i with
    |nn=>simp only[NN]at e;exact(KB (by omega)).symm
    |nc=>simp only[NN,D8]at e;exact(Do (by omega)).symm
    |cn=>simp only[NN,D8]at e;exact(KB (by omega)).symm
    |eq p r=>rw[Ng]at hz;cases hz
    |ne p r=>rw[Ng]at hz;cases hz
   rw[E]at h
   wp_walk
   exact⟨_,rfl,by simpa[Builtin.Tuple.tupleCompareSizes]using h⟩
  case h=>exact⟨rfl,rfl,items.toList,a.toList,rfl,o,by omega⟩
end
section
variable{prog:Program}{w:World}{A:Around}{E:Value->Shared->Prop}{s:Shared}
theorem A3{l b:Addr}{items a:Array Value}{c:Bool}{Q:Value->Shared->Prop}(v:IsTup s.heap l items)(y:IsTup s.heap b a)(t:qe A.in1 s items.toList a.toList c)
 (u:A.units<cLine)(h:Q (.bool c) s):wpAny (model prog w) A (compareOp .Lt (.ref l) (.ref b)) Q E s:=by
 obtain⟨⟨z,dd,p,q⟩,k,o,n,m⟩:=id v;obtain⟨⟨B,i,j,g⟩,d,f,r,e⟩:=id y;simp only at o m f e;subst o m f e;exact richCompare_meets_room (op:=.Lt) ⟨_,k,rfl⟩ ⟨_,d,rfl⟩ PySem.F.slot_tuple_lt PySem.F.entry_tuple_lt (PySem.F.args_tuple_lt_2 _ _) (sI l b items a n r dd i q g c)
  ⟨k,d,t,show Value.bool c≠Value.notImplemented/\Q (.bool c) s from⟨(λx=>nomatch x),h⟩⟩ u
end
end HT
namespace VL
open PySem PySem.Spec PySem.Calls PyProof.Rows
noncomputable def iN(h:Heap)(k:Value)(x:Int×List Int×Int):Prop:=
 ∃a o n t u q items,k=.ref a/\h.get? a=some o/\o.cls=.type "tuple"/\o.data=.seq #[.int x.1 t,.ref q,.int x.2.2 u] n/\h.IsList q items/\IntsAre items.toList x.2.1
noncomputable def fF(x y:Int×List Int×Int):Bool:=if x.1=y.1 then(if x.2.1=y.2.1 then decide (x.2.2<y.2.2)else HT.lexLt x.2.1 y.2.1)else decide (x.1<y.1)
section
variable{prog:Program}{w:World}{A:Around}{E:Value->Shared->Prop}{s:Shared}
open PySem.W
theorem JI{k f:Value}{x y:Int×List Int×Int}{Q:Bool->Shared->Prop}(m:iN s.heap k x)(l:iN s.heap f y)(j:A.units<cLine)(h:Q (fF x y) s):wpAny (model prog w) A (keyLt' (tuples' true) k f) Q E s:=by
 obtain⟨a,o,n,t,u,q,items,rfl,r,K,z,d,i⟩:=m;obtain⟨L,G,H,C,B,D,b,rfl,p,J,v,c,g⟩:=l;unfold fF at h;refine kat_lt r z p v (kat_cons (wpAny_eqBool_int (kat_go (λe=>kat_yes ?_) λe=>kat_no ?_)))
 .rw[Bz (by simpa using e)]at h;refine kat_cons (sH d c i g j prog w _ _ (kat_go (λe=>kat_yes ?_) λe=>kat_no ?_))
  .rw[Bz (by simpa using e)]at h;refine kat_cons (wpAny_eqBool_int (kat_go (λe=>kat_yes (kat_nil ?_)) λe=>kat_no ?_))
   .rw[KB (by have I:x.2.2=y.2.2:=(by simpa using e);omega)]at h;exact h
   .exact kat_one _ _ (TN h)
  .rw[Bn (by simpa using e)]at h;exact kat_one _ _ (HT.lT d c i g j h)
 .rw[Bn (by simpa using e)]at h;exact oneLt_int h
theorem sJ{h:Heap}:∀{d:List Value}{f:List (Int×List Int×Int)},Paired (iN h) d f->∃c,KatTups h d c/\c.length=d.length/\∀v∈c,∃i t,v=Value.int i t
 |_,_,.nil=>⟨[],trivial,rfl,λ_ z=>by cases z⟩
 |_,_,.cons (b:=x) g r=>by
  obtain⟨c,l,k,j⟩:=sJ r;obtain⟨a,o,n,t,u,q,items,rfl,m,y,p,_⟩:=g;refine⟨.int x.1 t::c,KatTups.cons m y p rfl l,by rw[D8,k,D8],λv e=>?_⟩;rcases Fm.mp e with rfl|e
  .exact⟨_,_,rfl⟩
  .exact j v e
theorem A4{a:List Value}{b:List (Int×List Int×Int)}{Q:SortKind->Shared->Prop}(p:Paired (iN s.heap) a b)(g:0<a.length)(h:Q (tuples' true) s):wpAny (model prog w) A (keyKind' a.toArray) Q E s:=by obtain⟨j,e,f,d⟩:=sJ p;refine kat_kind (T:=.type "int") e (by omega) (λv c=>?_) (by decide) h;obtain⟨i,t,rfl⟩:=d v c;exact Looks.now
theorem Ep{a:List Value}{b:List (Int×List Int×Int)}{C:Bool->Shared->Prop}{i j:Nat}(p:Paired (iN s.heap) a b)(c:i<a.length)(k:j<a.length)(g:A.units<cLine)
 (h:C (fF (b.getD i (0,[],0)) (b.getD j (0,[],0))) s):kas_ask prog w A (tuples' true) a i j C s:=by
 have d:∀{a:List Value}{b:List (Int×List Int×Int)},Paired (iN s.heap) a b->∀i,i<a.length->iN s.heap (a.getD i Value.none) (b.getD i (0,[],0)):=by
  intro a b p
  induction p with
  |nil=>intro i c;cases c
  |cons f r e=>
   intro i c;cases i with
   |zero=>exact f
   |succ i=>exact e i (by simpa using c)
 exact JI (d p i c) (d p j k) g h
end
end VL
namespace L2
open PySem PySem.Spec PyProof.Rows
theorem bits_le{x:Int}{n:Nat}(h:x.natAbs<2^n):Builtin.Int.intBits x<=n:=by
 unfold Builtin.Int.intBits;split
 .exact Hn _
 .rename_i hx
  have a:x.natAbs≠0:=λe=>hx (by simp[Int.natAbs_eq_zero.mp e]);have:=(Z7 a).mpr h;omega
theorem uQ{i j:Int}(h:Builtin.Int.intBits i+Builtin.Int.intBits j<=134217728):IntMulOk i j:=by
 unfold IntMulOk Builtin.Int.intTooBig;have a:¬((Builtin.Int.intBits i:Int)+(Builtin.Int.intBits j:Int)>((bitsLine:Nat):Int)):=by rw[bitsLine_eq];omega
 intro z;rw[AN]at z;exact a (Bi z.2)
section
variable{X:Cx}
theorem Er:gK X (binaryOp .Mult) (rI IntMulOk λi j=>.int (i*j)):=NF λ_ _ _ _ _ _ _ a q=>mul_int q a
noncomputable def A5(_ j:Int):Prop:=j≠0/\j.natAbs.log2<1000000000
theorem A7:gK X (binaryOp .FloorDiv) (rI A5 λi j=>.int (i.fdiv j)):=λa s e H x y v u Q I c b h=>by obtain⟨i,j,rfl,rfl,d,q⟩:=h;obtain⟨t,rfl⟩:=c;obtain⟨f,rfl⟩:=b;exact floordiv_int d.1 ⟨.int (i.fdiv j),H,I.tok _,⟨_,rfl⟩,q⟩ (.inr (I.ok.QG X.A s rfl rfl I.bk))
end
theorem aF{H:Hp}{p:Addr}(h:H p=none)(o:HO):ao H (upd H p o):=λb u q=>by rw[aA (aP q h)];exact q
theorem ao.tup{K:Frag}{H H':Hp}{a:Addr}{b:List V}(e:ao H H')(h:gJ K H a b):gJ K H' a b:=by
 rcases h with(h|⟨o,h⟩)|h
 .exact .inl (.inl (e _ _ h))
 .exact .inl (.inr ⟨o,e _ _ h⟩)
 .exact .inr h
theorem yO{n:Nat}(h:n<=100000):n<=sizeLine:=IH h (by decide)
end L2
namespace L2
theorem gY{i j:Int}(c:0<=j)(b:j<=1000000)(a:i.natAbs<2^64):yx i j:=⟨c,b,a⟩
end L2
namespace L2
open PySem PySem.Spec PyProof.Rows
theorem bF.thing{P:Program}{w:World}{H:Hp}{h:Heap}{a:Addr}{o:HO}(x:bF P w H h a o):∃b,h.get? a=some b:=by
 cases o with
 |lst d=>obtain⟨_,_,_,_,e⟩:=x;exact⟨_,e⟩
 |tup d=>obtain⟨_,_,_,b,e,_⟩:=x;exact⟨_,e⟩
 |dK c=>obtain⟨_,_,_,_,b,_,_,e,_⟩:=x;exact⟨_,e⟩
 |dT c=>obtain⟨_,_,_,_,b,_,_,e,_⟩:=x;exact⟨_,e⟩
 |set S n=>obtain⟨b,_,_,_,e,_⟩:=x;exact⟨_,e⟩
 |ins C l g=>obtain⟨_,_,_,e,_⟩:=x;exact⟨_,e⟩
 |own y=>exact x
 |xd g=>obtain⟨_,⟨_,_,_,e,_⟩,_⟩:=x;exact⟨_,e⟩
 |jq j k=>obtain⟨_,_,_,e⟩:=x;exact⟨_,e⟩
 |ug b u=>obtain⟨e,_⟩:=x;exact⟨_,e⟩
 |G5 i=>exact⟨_,x⟩
 |met f y=>exact⟨_,x⟩
 |ext φ=>obtain⟨_,e,_⟩:=x;exact e
theorem iC.gone{P:Program}{w:World}{H:Hp}{h:Heap}{a:Addr}(x:iC P w H h)(e:h.get? a=none):H a=none:=by
 cases q:H a with
 |none=>rfl
 |some u=>obtain⟨b,z⟩:=(x a u q).thing;rw[e]at z;cases z
theorem iC.tracked{P:Program}{w:World}{H:Hp}{h h':Heap}(x:iC P w H h)(k:∀b u c,H b=some u->h.get? b=some c->h'.get? b=some c):iC P w H h':=λa o e=>
 (x a o e).stay (λb u z q=>by
   rcases z with rfl|z
   .exact k b o u e q
   .exact k b _ u z q) (λ_ q=>q) λ_ _ q=>q
structure Vk(P:Program)(w:World)(outer:List Env)(H:Hp)(s:Shared)(H':Hp)(a C:Addr)(s':Shared):Prop where
 os:s'.os=s.os
 bare:AllBare s'.gens
 un:Un (frs outer) [] H H' s.heap s'.heap
 hok:iC P w H' s'.heap
 new:H' a=none
 old:s.heap.get? a=none
 Vl:∃(B:Heap)(a0:Value),Heap.FlyingW B outer a (.ref C) a0 s'.heap/\∀b o,s'.heap.get? b=some o->b∉frs outer->((∃o',s.heap.get? b=some o')\/∃u,H' b=some u)->B.get? b=some o
noncomputable def iO(P:Program)(w:World):yG:=λb H s E e d=>∃a C c,e=.ref a/\Vk P w b H s c a C d/\E (.ref C) none c
section
variable{P:Program}{w:World}{K:Frag}{mg:Str->Option Value}{base:Heap}{N:List Str}{qual:Str}{scope:Scope}{f:Addr}{cd:Value}{A:Around}{outer:List Env}{s:Shared}{H:Hp}{E:XK}
abbrev gP(P:Program)(w:World)(K:Frag)(mg:Str->Option Value)(base:Heap)(N:List Str)(qual:Str)(scope:Scope)(f:Addr)(cd:Value)(A:Around)(outer:List Env)(s:Shared)(H:Hp)(E:XK):Cx:=
 yH (iO P w) P w K mg base N qual scope f cd A outer s H E
theorem lV{e:Env}{l:List Env}{L b:Addr}(a:e.frame=some L):b∈frs (e::l)↔b=L\/b∈frs l:=by unfold frs;rw[PU,a];exact Fm
theorem sL{g:List (Addr×Obj)}{r:St}{H1 p:Hp}{s1:Shared}{m:Heap}(I:Inv (gP P w K mg base N qual scope f cd A outer s H E) g r H1 s1)
 (u:Un (frs (gP P w K mg base N qual scope f cd A outer s H E).stack) [] H1 p s1.heap m):Un (frs outer) [] H p s.heap m:=by
 have B:(gP P w K mg base N qual scope f cd A outer s H E).env.frame=some s.heap.objs.size:=rfl;have l:∀b,b∈frs (gP P w K mg base N qual scope f cd A outer s H E).stack↔b=s.heap.objs.size\/b∈frs outer:=λb=>lV B;have c:Un (frs outer) [] H H1 s.heap s1.heap:=I.base;have C:∀b o,s.heap.get? b=some o->b∉frs outer->b∉frs (gP P w K mg base N qual scope f cd A outer s H E).stack:=λb o q d z=>by
  rcases(l b).mp z with z|z
  .exact absurd (FK q) (by rw[z];exact Nw _)
  .exact d z
 refine⟨λb o q n d a=>?_,λb o q n d a=>?_,λb o q n a=>?_,λb o q a=>?_,λb k q=>u.tups b k (c.tups b k q),λb o v q=>u.iE b o v (c.iE b o v q),λb t q=>?_⟩
 .exact u.keep b o (c.keep b o q n d a) (c.free b o q n a) (C b o q d) a
 .obtain⟨D,e⟩:=c.slot b o q n d a;obtain⟨h,j⟩:=u.slot b _ e (c.free b o q n a) ((l b).mpr (.inr d)) a;exact⟨h,j⟩
 .obtain⟨i,e⟩:=c.there b o q a;exact u.free b i e (c.free b o q n a) a
 .obtain⟨i,e⟩:=c.there b o q a;exact u.there b i e a
 .obtain⟨y,e⟩:=c.ju b t q;obtain⟨x,j⟩:=u.ju b _ e;exact⟨y++x,by rw[j,W5]⟩
theorem A8{l:List Env}{H1 t:Hp}{p g h:Heap}(u:Un (frs l) [] H1 t p g)(k:∀b o,g.get? b=some o->b∉frs l->((∃c,p.get? b=some c)\/∃u,t b=some u)->h.get? b=some o)
 (ff:∀b,b∈frs l->∃o,g.get? b=some o/\∀vs,o.data≠.fields vs)(up:g.UpToSlots h):Un (frs l) [] H1 t p h:=by
 have v:∀b o,b∈frs l->g.get? b=some o->∃m,h.get? b=some {o with slots:=m}:=λb o a q=>by obtain⟨c,e,x⟩:=ff b a;rw[q]at e;cases e;exact up b o q x
 refine⟨λb o q n a d=>k b o (u.keep b o q n a d) a (.inl ⟨o,q⟩),λb o q n a d=>?_,u.free,λb o q d=>?_,u.tups,u.iE,u.ju⟩
 .obtain⟨m,i⟩:=u.slot b o q n a d;obtain⟨j,r⟩:=v b _ a i;exact⟨j,r⟩
 .obtain⟨c,i⟩:=u.there b o q d;by_cases a:b∈frs l
  .obtain⟨m,r⟩:=v b c a i;exact⟨_,r⟩
  .exact⟨c,k b c i a (.inl ⟨o,q⟩)⟩
theorem A9{b:List (Addr×Obj)}{c:St}{H1:Hp}{s1:Shared}{a:Addr}(I:Inv (gP P w K mg base N qual scope f cd A outer s H E) b c H1 s1)(e:s1.heap.get? a=none):s.heap.get? a=none:=by
 have d:Un (frs outer) [] H H1 s.heap s1.heap:=I.base;cases q:s.heap.get? a with
 |none=>rfl
 |some o=>obtain⟨g,z⟩:=d.there a o q (by simp);rw[e]at z;cases z
theorem uR{c:List (Addr×Obj)}{J:St}{H1:Hp}{s1:Shared}{h':Heap}{a C:Addr}{i:List Value}(I:Inv (gP P w K mg base N qual scope f cd A outer s H E) c J H1 s1)
 (j:Heap.MadeExcOf s1.heap h' a (.ref C) i)(q:E (.ref C) none H1):(gP P w K mg base N qual scope f cd A outer s H E).xe (.ref a) {s1 with heap:=h'}:=by
 have y:(gP P w K mg base N qual scope f cd A outer s H E).env.frame=some s.heap.objs.size:=rfl;have R:∀b,b∈frs (gP P w K mg base N qual scope f cd A outer s H E).stack↔b=s.heap.objs.size\/b∈frs outer:=λb=>lV y;have ff:=I.stack;have n:∀env∈(gP P w K mg base N qual scope f cd A outer s H E).stack,∀b,env.frame=some b->b∈frs (gP P w K mg base N qual scope f cd A outer s H E).stack:=λenv T b p=>QO.mpr ⟨env,T,p⟩;have D:=PySem.W.funFrames_hide ff n;refine wpAny_leaves_madeW (base:=PySem.W.hideAll s1.heap (frs (gP P w K mg base N qual scope f cd A outer s H E).stack)) (h:=s1.heap) I.ok.frames y (λb o z=>PySem.W.of_hideAll _ z) D j λk t v Z Y M=>?_;have l:∀b o,s1.heap.get? b=some o->b∉frs (gP P w K mg base N qual scope f cd A outer s H E).stack->k.get? b=some o:=λb o z d=>v.1 b o (hideAll_get _ z d);have fm:∀b,b∈frs (gP P w K mg base N qual scope f cd A outer s H E).stack->∃o,s1.heap.get? b=some o/\∀O,o.data≠.fields O:=λb p=>(D.mem p).2;have up:s1.heap.UpToSlots k:=(Heap.UpToSlots.of_keeps j.keeps).trans M;have Q:Un (frs (gP P w K mg base N qual scope f cd A outer s H E).stack) [] H1 H1 s1.heap k:=A8 Un.refl (λb o z d _=>l b o z d) fm up;refine⟨a,C,H1,rfl,⟨I.os,I.bare,sL I Q,I.hok.tracked λb u S z L=>l b S L λm=>?_,I.hok.gone j.new,A9 I j.new,_,_,v,λb o z d g=>?_⟩,q⟩
 .have:=I.iF b m;rw[z]at this;cases this
 .have G:b∉frs (gP P w K mg base N qual scope f cd A outer s H E).stack:=λm=>by
   rcases g with⟨x,e⟩|⟨u,e⟩
   .rcases(R b).mp m with m|m
    .exact absurd (FK e) (by rw[m];exact Nw _)
    .exact d m
   .have:=I.iF b m;rw[e]at this;cases this
  have:∃o1,s1.heap.get? b=some o1:=by
   rcases g with⟨x,e⟩|⟨u,e⟩
   .exact Un.there (show Un (frs outer) [] H H1 s.heap s1.heap from I.base) b x e (by simp)
   .exact(I.hok b u e).thing
  obtain⟨o1,B⟩:=this;have U:=l b o1 B G;have r:k.get? b=some o:=z;rw[U]at r;cases r;exact hideAll_get _ B G
theorem Ba{g:List (Addr×Obj)}{y:St}{H1:Hp}{s1 s':Shared}{e:Value}(I:Inv (gP P w K mg base N qual scope f cd A outer s H E) g y H1 s1)
 (Q:iO P w (gP P w K mg base N qual scope f cd A outer s H E).stack H1 s1 E e s'):(gP P w K mg base N qual scope f cd A outer s H E).xe e s':=by
 obtain⟨a,C,k,rfl,F,q⟩:=Q;obtain⟨B,U,x,kB⟩:=F.Vl;have p:(gP P w K mg base N qual scope f cd A outer s H E).env.frame=some s.heap.objs.size:=rfl;have M:∀b,b∈frs (gP P w K mg base N qual scope f cd A outer s H E).stack↔b=s.heap.objs.size\/b∈frs outer:=λb=>lV p;refine wpAny_leaves_onW I.ok.frames p x λS h G=>?_;have fm:∀b,b∈frs (gP P w K mg base N qual scope f cd A outer s H E).stack->∃o,s'.heap.get? b=some o/\∀J,o.data≠.fields J:=λb R=>(x.2.2.1.mem R).2;have v:∀b u,k b=some u->b∉frs (gP P w K mg base N qual scope f cd A outer s H E).stack:=λb u z m=>by have j:=I.iF b m;obtain⟨o,O,_⟩:=I.stack.mem m|>.2;rw[F.un.free b o O j (by simp)]at z;cases z
 have L:=A8 F.un (λb o z i c=>h.1 b o (kB b o z i c)) fm G;refine⟨a,C,k,rfl,⟨F.os.trans I.os,F.bare,sL I L,F.hok.tracked λb u n z D=>h.1 b n (kB b n D (v b u z) (.inr ⟨u,z⟩)),F.new,A9 I F.old,B,U,h,λb o z i c=>?_⟩,q⟩;have Y:b∉frs (gP P w K mg base N qual scope f cd A outer s H E).stack:=λm=>by
  rcases c with⟨d,e⟩|⟨u,e⟩
  .rcases(M b).mp m with m|m
   .exact absurd (FK e) (by rw[m];exact Nw _)
   .exact i m
  .exact v b u e m
 have t:(∃d,s1.heap.get? b=some d)\/∃u,k b=some u:=by
  rcases c with⟨d,e⟩|z
  .exact .inl (Un.there (show Un (frs outer) [] H H1 s.heap s1.heap from I.base) b d e (by simp))
  .exact .inr z
 have:∃o1,s'.heap.get? b=some o1:=by
  rcases t with⟨d,e⟩|⟨u,e⟩
  .exact F.un.there b d e (by simp)
  .exact(F.hok b u e).thing
 obtain⟨o1,j⟩:=this;have r:=kB b o1 j Y t;have T:=h.1 b o1 r;have l:S.get? b=some o:=z;rw[T]at l;cases l;exact r
theorem HA:Passes (iO P w) (gP P w K mg base N qual scope f cd A outer s H E) E:=λ_ _ _ _ _ _ I h=>Ba I h
end
abbrev Vn:List Value:=[.type "ValueError",.type "Exception",.type "BaseException",.type "object"]
structure R1(K:Frag)(C:Addr):Prop where
 exc:PySem.W.excIn K C Vn "ValueError.__new__"=true
 ga:findIn K (.ref C) "__getattribute__"=some (some (.builtin "BaseException.__getattribute__"))
 gt:findIn K (.ref C) "__getattr__"=some none
 cl:findIn K (.ref C) "__class__"=some (some (.builtin "object.__class__"))
 ob:mroIn K C (.type "object")=some true
 bs:mroIn K C (.type "BaseException")=some true
noncomputable def Bb(X:Cx)(R:Addr->Hp->Prop):Prop:=∀(b:List (Addr×Obj))(e:St)(H:Hp)(s:Shared)(d:Heap)(a C:Addr)(c:List Value),Inv X b e H s->Heap.MadeExcOf s.heap d a (.ref C) c->R C H->X.xe (.ref a) {s with heap:=d}
theorem wM{P:Program}{w:World}{K:Frag}{d:Str->Option Value}{base:Heap}{N:List Str}{c:Str}{a:Scope}{f:Addr}{g:Value}{A:Around}{b:List Env}{s:Shared}{H:Hp}{E:XK}:
 Bb (gP P w K d base N c a f g A b s H E) (λC H'=>E (.ref C) none H'):=λ_ _ _ _ _ _ _ _ I e q=>uR I e q
section
variable{X:Cx}{x:Str}{C:Addr}{e:Expr}{t:TA}{np cpos pos:Pos}{R:Addr->Hp->Prop}
end
theorem PS.eN{X:Cx}{st:Stmt}{t:TS}(h:PS X.eN st t):PS X st t:=λa s b H D I c=>SF (h a s b H D (I.nT _) c) (λ_ _ q=>q.fY) λ_ _ z=>IM z
theorem z3.R3{P:Program}{w:World}{K:Frag}{i:Str->Option Value}{base:Heap}{x b:Str}{st:Stmt}{f:Addr}{j:FuncData}{N ps:List Str}{k:Nat}{sp:Sp}(F:z3 K x b st f j)(S:dW N ps (ak st))
 (d:∀vs H Q E,sp vs H Q E->vs.length=ps.length)
 (o:∀(c:Value)(A:Around)(a:List Env)(s:Shared)(H:Hp)(vs:List V)(Q:VK)(E:XK),bW k (A.deeper (envOfC b (ak st) s.heap.objs.size f c))->sp vs H Q E->
   ∃t,rX (gP P w K i base N b (ak st) f c A a s H E) (aR st) t/\t {nx:=λ_ H'=>Q .aM H',rt:=Q} (start N vs) H):bJ P w K i base (iO P w) (k+1) f j ps sp:=by
 obtain⟨u,r,kV,p,q,y,c,v,l,e,m,g⟩:=F.ex;subst e;exact NL m g S d λA a s H vs Q E n h=>o c A a s H vs Q E n h
theorem bJ.N7{P:Program}{w:World}{K:Frag}{c:Str->Option Value}{base:Heap}{k:Nat}{f:Addr}{d:FuncData}{ps:List Str}{sp:Sp}(F:bJ P w K c base (iO P w) k f d ps sp):
 bJ P w K c base NX k f d ps (λvs H Q _=>sp vs H Q E0):=
 ⟨λvs H Q E h=>F.len vs H Q E0 h,λA a s H b g vs Q E i l j r h=>YR (F.run A a s H b g vs Q E0 i l j r h) λr m z=>by
   cases r with
   |error e=>obtain⟨_,_,_,_,_,q⟩:=z;exact q.elim
   |ok fl=>cases fl<;>exact z⟩
noncomputable def FX(X:Cx)(a:List (Addr×Obj))(d:St)(E:XK)(e:Value)(s':Shared):Prop:=∃c b,Inv X a d c b/\iO X.prog X.w X.stack c b E e s'
section
variable{X:Cx}{k:Nat}{f:Addr}{fd:FuncData}{ps:List Str}{sp:Sp}{x:Str}{p pos:Pos}{e:Expr}{es:List Expr}{t:TA}
end
noncomputable def N8(a C:Addr)(h:Heap):Prop:=∃b c,h.get? a=some b/\b.cls=.ref C/\b.data=.fields c
noncomputable def R4(a C:Addr):HO:=.ext (N8 a C)
section
variable{X:Cx}{pins:List (Addr×Obj)}{σ:St}{H:Hp}{s:Shared}
end
section
variable{prog:Program}{w:World}{A:Around}{E:Value->Shared->Prop}{s:Shared}{K:Frag}{a C:Addr}
end
inductive N9:V->Value->Prop where
 |own (D:Addr):N9 (.ref D) (.ref D)
 |ty (n:String):N9 (.ty n) (.type n)
noncomputable def jx(cells:List (Str×Addr)):List (Str×NameKind)->List (Str×Addr)->List (Str×Addr)
 |[],acc=>acc
 |(n,k)::r,acc=>jx cells r (if k=.free then(n,(cells.lookup n).getD 0)::acc else acc)
theorem lW{env:Env}:∀(l:List (Str×NameKind))(a:List (Str×Addr)),(∀p∈l,p.2=.free->∃c,env.cells.lookup p.1=some c)->
 (forIn l a λ(x:Str×NameKind)(cs:List (Str×Addr))=>if(x.2==NameKind.free)=true then(do let c<-cellOf env x.1;pure (MX ((x.1,c)::cs)))else(pure (MX cs):Sem _))=pure (jx env.cells l a)
 |[],a,_=>rfl
 |(n,k)::r,a,h=>by
  have ih:=λa=>lW (env:=env) r a λp g=>h p (D2 _ g);rw[List.forIn_cons];by_cases b:k=.free
  .obtain⟨c,i⟩:=h (n,k) DL b;have d:env.cells.lookup n=some c:=i;have e:cellOf env n=pure c:=by unfold cellOf;rw[d]
   have f:(k==NameKind.free)=true:=by simp[b]
   simp only[f,if_true,e,pure_bind,ih];simp only[jx,b,if_true,d,MN]
  .have f:(k==NameKind.free)=false:=by simpa using b
   simp only[f,XT,YU,pure_bind,ih];simp only[jx,b,YU]
theorem lX{a:Scope}{env:Env}(h:∀p∈a.names,p.2=.free->∃c,env.cells.lookup p.1=some c):closureFor a env=pure (jx env.cells a.names []):=by have:=lW (env:=env) a.names [] h;unfold closureFor;simp only[bind_pure];exact this
theorem sN{cells:List (Str×Addr)}:∀(l:List (Str×NameKind))(a:List (Str×Addr)),(∀p∈l,p.2=.free->∃c,cells.lookup p.1=some c)->(∀y c,a.lookup y=some c->cells.lookup y=some c)->
 ∀y c,(jx cells l a).lookup y=some c->cells.lookup y=some c
 |[],_,_,ha,y,c,h=>ha y c h
 |(n,k)::r,a,hl,ha,y,c,h=>by
  refine sN r _ (λp i=>hl p (D2 _ i)) (λz d hz=>?_) y c h;by_cases b:k=.free
  .rw[Bz b,Ht]at hz;obtain⟨m,g⟩:=hl (n,k) DL b;have f:cells.lookup n=some m:=g;split at hz
   .rename_i e
    have j:z=n:=by simpa using e
    subst j;rw[f]at hz⊢;exact hz
   .exact ha z d hz
  .rw[Bn b]at hz;exact ha z d hz
theorem lY{cells:List (Str×Addr)}:∀(l:List (Str×NameKind))(a:List (Str×Addr))(y:Str),((a.lookup y).isSome=true\/(y,NameKind.free)∈l)->((jx cells l a).lookup y).isSome=true
 |[],_,_,h=>h.elim id λz=>nomatch z
 |(n,k)::r,a,y,h=>by
  refine lY r _ y ?_;by_cases b:k=.free
  .rw[Bz b,Ht];by_cases e:(y==n)=true
   .left;rw[e];rfl
   .rw[Ts]at e;rw[e];rcases h with h|h
    .exact .inl h
    .rcases Fm.mp h with h|h
     .have:y=n:=GT Prod.fst h;subst this;simp at e
     .exact .inr h
  .rw[Bn b];rcases h with h|h
   .exact .inl h
   .rcases Fm.mp h with h|h
    .have:NameKind.free=k:=GT Prod.snd h;exact absurd this.symm b
    .exact .inr h
theorem oV{cells:List (Str×Addr)}:∀(l:List (Str×NameKind))(a:List (Str×Addr))(y:Str)(c:Addr),(jx cells l a).lookup y=some c->(∃b,a.lookup y=some b)\/(y,NameKind.free)∈l
 |[],_,y,c,h=>.inl ⟨c,h⟩
 |(n,k)::r,a,y,c,h=>by
  rcases oV r _ y c h with⟨b,h'⟩|h'
  .by_cases d:k=.free
   .rw[Bz d,Ht]at h';split at h'
    .rename_i e
     have f:y=n:=by simpa using e
     subst f;subst d;exact .inr DL
    .exact .inl ⟨b,h'⟩
   .rw[Bn d]at h';exact .inl ⟨b,h'⟩
  .exact .inr (D2 _ h')
theorem fZ{env:Env}(d:env.scope.kind=.function):∀(l:List (Str×NameKind))(y:Str),
 (l.map λ(n,k)=>if(k==NameKind.free&&env.scope.kind==.function&&env.kindOf n==some .cell)then(n,NameKind.cell)else(n,k)).lookup y=(l.lookup y).map λk=>if(k==NameKind.free&&env.kindOf y==some .cell)=true then NameKind.cell else k
 |[],_=>rfl
 |(n,k)::r,y=>by
  have ih:=fZ d r y;have b:(env.scope.kind==ScopeKind.function)=true:=by rw[d];rfl
  rw[Kk,Ht];by_cases e:(y==n)=true
  .have f:y=n:=by simpa using e
   subst f;by_cases c:(k==NameKind.free&&env.kindOf y==some .cell)=true
   .have a:(k==NameKind.free&&env.scope.kind==.function&&env.kindOf y==some .cell)=true:=by rw[b,Yp];exact c
    simp only[a,if_true,Ht,TK,MI,c]
   .have a:¬(k==NameKind.free&&env.scope.kind==.function&&env.kindOf y==some .cell)=true:=by rw[b,Yp];exact c
    rw[Bn a];simp only[Ht,TK,MI];rw[Bn c]
  .rw[Ts]at e;by_cases a:(k==NameKind.free&&env.scope.kind==.function&&env.kindOf n==some .cell)=true
   .simp only[a,if_true,e,Ht];exact ih
   .rw[Ts]at a;simp only[a,XT,YU,e,Ht];exact ih
noncomputable def cK(sc c:Scope)(N a b:List Str):Bool:=
 sc.kind==.function&&b.all (λx=>sc.names.lookup x==some .local&&!a.contains x)&&
 sc.names.all (λp=>p.2 !=.cell&&(p.2 !=.local||sc.names.lookup p.1==some .local)&&(p.2 !=.free||(c.names.lookup p.1==some .cell&&sc.names.lookup p.1==some .free)))&&
 a.all (λy=>sc.names.lookup y !=some .local)&&(N.length==a.length&&(N.zip a).all (λp=>p.1==p.2||sc.names.lookup p.2==none))
structure eu(sc MM:Scope)(N N' xs:List Str):Prop where
 kind:sc.kind=.function
 own:∀x∈xs,sc.names.lookup x=some .local/\x∉N'
 uS:∀p∈sc.names,p.2≠.cell
 loc:∀p∈sc.names,p.2=.local->sc.names.lookup p.1=some .local
 free:∀p∈sc.names,p.2=.free->MM.names.lookup p.1=some .cell/\sc.names.lookup p.1=some .free
 out:∀y∈N',sc.names.lookup y≠some .local
 len:N.length=N'.length
 pair:∀(i:Nat)(y:Str),N'[i]?=some y->sc.names.lookup y≠none->N[i]?=some y
theorem eu.of{sc l:Scope}{N b d:List Str}(h:cK sc l N b d=true):eu sc l N b d:=by
 unfold cK at h;simp only[AN,Hc,Yi,bne_iff_ne,Pm,YQ,ne_eq]at h;obtain⟨⟨⟨⟨s,k⟩,c⟩,r⟩,q,o⟩:=h;refine⟨s,λx g=>⟨(k x g).1,λz=>?_⟩,λp a=>(c p a).1.1,λp a e=>?_,λp a e=>?_,r,q,λi y f m=>?_⟩
 .have:=(k x g).2;rw[List.contains_eq_mem]at this;simp[z]at this
 .rcases(c p a).1.2 with z|z
  .exact absurd e z
  .exact z
 .rcases(c p a).2 with z|z
  .exact absurd e z
  .exact z
 .have t:i<b.length:=(FS.mp f).1;have j:N[i]?=some (N[i]'(by lia)):=B1 (by lia);have n:(N[i]'(by lia),y)∈N.zip b:=by refine OF (i:=i) ?_;rw[List.getElem?_zip_eq_some];exact⟨j,f⟩
  rcases o _ n with z|z
  .rw[j];exact GT some z
  .exact absurd z m
noncomputable def aK(X:Cx)(a:Scope)(C:Addr)(b d:List Str)(s:Shared)(H:Hp)(c:List Addr):Cx:=
 {X with N:=b++d,s₀:=s,H₀:=H,env:=compEnvC a (jx X.env.cells a.names []) C X.env,outer:=X.stack,stack:=X.stack,ex:=c,fn:=λy=>b.contains y,pn:=[],xe:=λ_ _=>False}
section
variable{X:Cx}{pins:List (Addr×Obj)}{σ:St}{H:Hp}{s:Shared}{scope:Scope}{xs N':List Str}{fp:List Addr}
theorem gZ(I:Inv X pins σ H s)(O:eu scope X.env.scope X.N N' xs):∀p∈scope.names,p.2=.free->∃c,X.env.cells.lookup p.1=some c:=λp a e=>I.ok.has p.1 (.inl (O.free p a e).1)
theorem eV(I:Inv X pins σ H s)(O:eu scope X.env.scope X.N N' xs)(y:Str):(relabel scope X.env).names.lookup y=(scope.names.lookup y).map λk=>if k=.free then NameKind.cell else k:=by
 unfold relabel;show(List.map _ scope.names).lookup y=_;rw[fZ I.ok.kind];cases e:scope.names.lookup y with
 |none=>rfl
 |some k=>
  rw[MI,MI];by_cases a:k=.free
  .subst a;have:=(O.free (y,.free) (N0 e) rfl).1;have b:X.env.kindOf y=some .cell:=this;rw[b];rfl
  .rw[Bn a,Bn (by simp[a])]
theorem Bc{n:Heap}{R:Nat}(I:Inv X pins σ H s)(O:eu scope X.env.scope X.N N' xs)(A:∀b∈fp,dF X pins H b)(D:∀b∈fp,b<s.heap.objs.size){L:Str->Option Value}
 (Y:n.Ns s.heap.objs.size L)(g:∀b o,s.heap.get? b=some o->n.get? b=some o):
 Inv (aK X scope s.heap.objs.size xs N' s H fp) [] (xs.map (λ_=>none)++σ) H {s with heap:=n,toks:=R}:=by
 have f:=sN (cells:=X.env.cells) scope.names [] (gZ I O) (λy c z=>nomatch z);refine⟨⟨I.ok.mod,?_,I.ok.glob,I.ok.blt,BM _,λx y c n G=>I.ok.inj x y c (f x c n) (f y c G),λy B=>?_,λy c n G=>?_,I.ok.hd,I.ok.frames,.inl rfl,λb j=>⟨Ha (D b j),λx c e=>(A b j).2.2.2.2.1 x c (f x c e)⟩,
  I.bs,IH I.ok.Du I.sz,λb o e j=>?_,λb j z=>?_,I.stack,I.iF,I.ok.tree,I.ok.QG⟩,rfl,I.bare,Un.kept g,⟨L,Y,λi y v e1 h e3=>?_⟩,λy c e=>?_,I.hok.fresh (BM _),λy c e=>I.fX y c (f y c e),λp T=>absurd (show p∈([]:List (Addr×Obj))from T) (by simp),I.hok.kept g,?_⟩
 .show scope.kind=_;exact O.kind
 .have d:(relabel scope X.env).names.lookup y=some .cell\/(relabel scope X.env).names.lookup y=some .free:=B;rw[eV I O]at d;have a:scope.names.lookup y=some .free:=by
   cases e:scope.names.lookup y with
   |none=>rw[e]at d;rcases d with z|z<;>cases z
   |some k=>
    rw[e]at d;by_cases g:k=.free
    .rw[g]
    .rw[MI,Bn g]at d;rcases d with z|z
     .have:k=.cell:=He z;exact absurd this (O.uS (y,k) (N0 e))
     .exact absurd (He z) g
  exact PP.mp (lY scope.names [] y (.inr (N0 a)))
 .have E:(jx X.env.cells scope.names []).lookup y=some c:=G;have B:y∈xs:=by have QT:xs.contains y=true:=n;simpa using QT
  rcases oV scope.names [] y c E with⟨_,z⟩|z
  .cases z
  .have K:=(O.free (y,.free) z rfl).2;rw[(O.own y B).1]at K;cases K
 .have P:X.base.get? b=some o:=e;rcases(A b j).2.2.2.1 with z|z
  .exact I.ok.Ag b o P z
  .exact absurd (Gc (FK P) (IH I.ok.Du z)) (Nw _)
 .rcases Fm.mp (I.ux b z)with q|q
  .exact(A b j).2.1 q
  .exact(A b j).2.2.1 q
 .have J:(xs++N')[i]?=some y:=e1;by_cases M:i<xs.length
  .rw[OK (by simpa using M),Dx]at h;cases q:xs[i]? with
   |none=>rw[q]at h;cases h
   |some z=>rw[q]at h;cases h
  .rw[Jn (by simpa using M)]at h;rw[Jn (by lia)]at J;rw[Ap]at h;have Vo:y∈N':=OF J;have t:IP (relabel scope X.env) y:=e3;unfold IP at t;rw[eV I O]at t;have a:scope.names.lookup y=some .free:=by
    cases e:scope.names.lookup y with
    |none=>rw[e]at t;rcases t with z|z|z<;>cases z
    |some k=>
     rw[e]at t;by_cases g:k=.free
     .rw[g]
     .rw[MI,Bn g]at t;rcases t with z|z|z
      .have:k=.local:=He z;subst this;exact absurd e (O.out y Vo)
      .have:k=.cell:=He z;exact absurd this (O.uS (y,k) (N0 e))
      .exact absurd (He z) g
   have Q:=(O.free (y,.free) (N0 a) rfl).1;obtain⟨m,U,Z⟩:=I.loc;have Vp:=O.pair _ y J (by rw[a];simp);obtain⟨u,r,l⟩:=Z _ y v Vp h (.inr (.inl Q));refine⟨u,r,?_⟩;rcases l with⟨S,_⟩|⟨_,c,hc,o,C,hd⟩
   .have:X.env.scope.names.lookup y=some .local:=S;rw[Q]at this;cases this
   .refine .inr ⟨.inl ?_,c,?_,o,g c o C,hd⟩
    .show(relabel scope X.env).names.lookup y=_;rw[eV I O,a];rfl
    .obtain⟨c',w⟩:=PP.mp (lY (cells:=X.env.cells) scope.names [] y (.inr (N0 a)));have q:=f y c' w;rw[hc]at q;show(jx X.env.cells scope.names []).lookup y=some c;rw[w,<-He q]
 .obtain⟨v,o,C,hd⟩:=I.cell y c (f y c e);exact⟨v,o,g c o C,hd⟩
 .show(xs.map (λ_=>none)++σ).length=(xs++N').length;rw[Fk,Fk,Ap,I.len,O.len]
end
noncomputable def PF(X:Cx)(d:List Expr)(t:TT):Prop:=
 ∀(a:List (Addr×Obj))(s:Shared)(b:St)(H:Hp)(Q:Bool->Hp->Prop),Inv X a b H s->t b H Q->
  wpAny (model X.prog X.w) X.A (forIn d true λc r=>if r=true then do let ok<-isTrue c X.env (eval c X.env);pure (MX ok)else pure (MX r)) (TP X a b Q) X.xe s
noncomputable def R5:TT:=λ_ H Q=>Q true H
theorem JK{X:Cx}:PF X [] R5:=λ_ _ _ H _ I h=>wpAny_tests_nil ⟨H,I,h⟩
theorem JL{X:Cx}{c:Expr}{t:TT}(h:PT X c t):PF X [c] t:=λa s b H Q I q=>wpAny_tests_one (h a s b H Q I q)
noncomputable def wN(k:Nat)(q:TI)(g:TG)(tc:TT)(te:TE):TE:=λe H Q=>q e H λJ p=>∀D,p D=none->∃W:Nat->Nat->Hp->Prop,(∃m,W 0 m (upd p D (.lst [])))/\∀i m d,W i m d->
 (J.stop i d/\Q (.ref D) d)\/(J.go i d/\∀x o,J.Ny i d x o->∀j:List (Option V),j.length=k->g x (j++e) o λa r=>∃h:List (Option V),h.length=k/\a=h++e/\
   tc a r λb n=>if b=true then te a n λy l=>∃f,l D=some (.lst f)/\f.length<sizeLine/\∃c,c<m/\W (i+1) c (upd l D (.lst (f++[y])))else∃c,c<m/\W (i+1) c n)
theorem qf{prog:Program}{w:World}{A:Around}{R:Result->Shared->Prop}{s:Shared}{u a l:Expr}{q:List Expr}{f:Scope}{pos:Pos}{E y:Value}{env:Env}(I:Nat->Shared->Prop)
 (z:∀n s,I n s->wpAny (model prog w) A (pyNext E) (λr e=>match r with
   |none=>R (.ok .next) e
   |some v=>wpAny (model prog w) A (letOwnedTupleGo a E v) (λ_ d=>wpAny (model prog w) A (assign a env v) (λ_ k=>
     wpAny (model prog w) A (forIn q true λc r=>if r=true then do let ok<-isTrue c env (eval c env);pure (MX ok)else pure (MX r)) (λok b=>
      if ok=true then wpAny (model prog w) A (eval u env) (λx j=>wpAny (model prog w) A (call (.builtin "list.append") [y,x]) (λ_ i=>∃m,m<n/\I m i) (λ_ _=>False) j) (λ_ _=>False) b
      else∃m,m<n/\I m b) (λ_ _=>False) k) (λ_ _=>False) d) (λ_ _=>False) e) (λ_ _=>False) s)
 (n:Nat)(h:I n s):
 codeAny (model prog w) A (.compLoop (.ListComp u [⟨a,l,q,0⟩] f pos) 0 E y env) R s:=by
 refine codeAny_loop rfl I (λn s G=>?_) n h;show wpAny _ A ((compTurn (.ListComp u [⟨a,l,q,0⟩] f pos) 0 E y env).onRaise (λx=>do noteFrame x env;theTreesLotGoes x)) _ _ s;refine wpAny_noted ?_;rw[compTurn_list];refine FC (YF (FC (SF (z n s G) (λr e p=>?_) λ_ _ g=>g.elim)));cases r with
 |none=>exact Kb p
 |some v=>
  refine FC (SF p (λ_ d t=>?_) λ_ _ g=>g.elim);refine FC (SF t (λ_ k D=>FC (SF D (λok b o=>?_) λ_ _ g=>g.elim)) λ_ _ g=>g.elim);cases ok with
  |false=>exact Kb ⟨rfl,o⟩
  |true=>exact FC (FC (SF o (λx j C=>FC (SF C (λ_ i B=>Kb (Kb ⟨rfl,B⟩)) λ_ _ g=>g.elim)) λ_ _ g=>g.elim))
section
variable{X:Cx}
theorem lZ{tg R elt:Expr}{Y:List Expr}{scope:Scope}{t I:List Str}{pos:Pos}{g:TG}{tc:TT}{te:TE}(hc:X.calm=true)(O:eu scope X.env.scope X.N I t)
 (hg:∀C s0 H0 l,PG (aK X scope C t I s0 H0 l) tg g)(hf:∀C s0 H0 l,PF (aK X scope C t I s0 H0 l) Y tc)(he:∀C s0 H0 l,PE (aK X scope C t I s0 H0 l) elt te)
 {v:List (Addr×Obj)}{B:St}{H1:Hp}{f:Shared}{it:Addr}{l:List Addr}{tn:Nat->Heap->Prop}{J:It}{Q:VK}{E:Value->Shared->Prop}{RR:Value->Addr->Result->Shared->Prop}
 (I2:Inv X v B H1 f)(T:Turn X.prog X.w X.K tg J l it tn)(st2:tn 0 f.heap)(f2:∀b∈l,dF X v H1 b)
 (h:∀D,H1 D=none->∃W:Nat->Nat->Hp->Prop,(∃m,W 0 m (upd H1 D (.lst [])))/\∀i m H2,W i m H2->
   (J.stop i H2/\Q (.ref D) H2)\/(J.go i H2/\∀x H3,J.Ny i H2 x H3->∀G:List (Option V),G.length=t.length->g x (G++B) H3 λU H4=>∃M:List (Option V),M.length=t.length/\U=M++B/\
     tc U H4 λb L=>if b=true then te U L λy H6=>∃ys,H6 D=some (.lst ys)/\ys.length<sizeLine/\∃H,H<m/\W (i+1) H (upd H6 D (.lst (ys++[y])))else∃H,H<m/\W (i+1) H L))
 (hRR:∀D C s' H',(∃m,s'.heap.Ns C m)->(∀h',Heap.SameBut C s'.heap h'->Inv X v B H' {s' with heap:=h'})->f.heap.objs.size<=D->f.heap.objs.size<=C->H' C=none->Q (.ref D) H'->RR (.ref D) C (.ok .next) s'):
 wpAny (model X.prog X.w) X.A (newList []) (λacc s₃=>wpAny (model X.prog X.w) X.A (newFunctionEnv scope X.env.globals (jx X.env.cells scope.names []) [] X.env.qual none .none (some X.env)) (λS s₄=>codeAny (model X.prog X.w) X.A (.compStart (.ListComp elt [⟨tg,R,Y,0⟩] scope pos) 0 (.ref it) acc {S with scope:=relabel scope X.env}) (RR acc S.locals) s₄) E s₃) E f:=by
 refine wpAny_newObj_type (wpAny_newFunctionEnv O.uS (by intro y hy;simp at hy) (λs Be Bf=>?_) O.kind);dsimp only at Be Bf⊢;have hD:H1 f.heap.objs.size=none:=I2.hok.fresh (BM _);obtain⟨W,⟨m0,w0⟩,turn⟩:=h f.heap.objs.size hD;have I3:Inv X v B (upd H1 f.heap.objs.size (.lst [])) {f with heap:=f.heap.push {cls:=.type "list",dict:=none,data:=.seq ([]:List Value).toArray}}:=
  I2.laid (t':=f.toks) (λb u e=>D1 _ e) (BM _) ⟨Hn _,[],0,.nil,GE _ rfl⟩
 have R6:∀b∈l,b<f.heap.objs.size:=λb j=>by obtain⟨o,e,_⟩:=T.obj _ _ st2 b j;exact FK e
 have f3:∀b∈l,dF X v (upd H1 f.heap.objs.size (.lst [])) b:=λb j=>by obtain⟨q0,q⟩:=f2 b j;exact⟨by rw[aA (Ha (R6 b j))];exact q0,q⟩
 generalize MO:({f with heap:=f.heap.push {cls:=.type "list",dict:=none,data:=.seq ([]:List Value).toArray}}:Shared)=k at I3;have oW:k.heap=f.heap.push {cls:=.type "list",dict:=none,data:=.seq ([]:List Value).toArray}:=by rw[<-MO]
 have Z:k.heap.objs.size=f.heap.objs.size+1:=by rw[oW,Heap.size_push]
 have old:∀b o,k.heap.get? b=some o->s.get? b=some o:=λb o e=>Bf.extBut b o (by rw[<-oW];exact Ha (FK e)) (D1 _ (by rw[<-oW];exact e));have J4:Inv (aK X scope k.heap.objs.size t I k (upd H1 f.heap.objs.size (.lst [])) l) [] (t.map (λ_=>none)++B) (upd H1 f.heap.objs.size (.lst [])) {k with heap:=s,toks:=f.toks+([]:List (Str×Value)).length}:=
  Bc I3 O f3 (λb j=>by rw[Z];exact SZ (R6 b j)) (by rw[oW];exact Be) old
 have Vq:({k with heap:=s,toks:=f.toks+([]:List (Str×Value)).length}:Shared)={f with heap:=s,toks:=f.toks+([]:List (Str×Value)).length}:=by rw[<-MO]
 rw[Vq]at J4;have Ud:tn 0 s:=T.keep _ _ _ st2 λb j o e=>old b o (by rw[oW];exact D1 _ e);have hC:(f.heap.push {cls:=.type "list",dict:=none,data:=.seq ([]:List Value).toArray}).objs.size=k.heap.objs.size:=by rw[oW]
 have R7:∀{H':Hp},(∀b∈l,H' b=none)->∀b∈l,dF (aK X scope k.heap.objs.size t I k (upd H1 f.heap.objs.size (.lst [])) l) [] H' b:=λhn b j=>⟨hn b j,Ha (by rw[Z];exact SZ (R6 b j)),J4.ok.Ah b j,.inl j,λx c e=>((J4.ok.Rj b j).2 x c e),λp hp=>absurd (show p∈([]:List (Addr×Obj))from hp) (by simp)⟩;have P:codeAny (model X.prog X.w) X.A (.compLoop (.ListComp elt [⟨tg,R,Y,0⟩] scope pos) 0 (.ref it) (.ref f.heap.objs.size) (compEnvC scope (jx X.env.cells scope.names []) k.heap.objs.size X.env))
  (RR (.ref f.heap.objs.size) k.heap.objs.size) {f with heap:=s,toks:=f.toks+([]:List (Str×Value)).length}:=by
  refine qf (λn s'=>∃(i:Nat)(G:List (Option V))(H':Hp),G.length=t.length/\Inv (aK X scope k.heap.objs.size t I k (upd H1 f.heap.objs.size (.lst [])) l) [] (G++B) H' s'/\tn i s'.heap/\(∀b∈l,H' b=none)/\W i n H') ?_ m0
   ⟨0,t.map (λ_=>none),_,Ap _,J4,Ud,λb j=>(f3 b j).1,w0⟩
  rintro n s5 ⟨i,G,L,hv0,I5,MK,QL,w5⟩;rcases turn i n L w5 with⟨stop,qn⟩|⟨go,step⟩
  .refine aZ (T.done (aK X scope k.heap.objs.size t I k (upd H1 f.heap.objs.size (.lst [])) l) rfl rfl rfl hc i [] s5 (G++B) L _ I5 (R7 QL) MK stop) ?_;rintro r s6 ⟨hr,I6⟩;subst hr;obtain⟨m,hnm,_⟩:=I6.loc;refine hRR _ _ s6 L ⟨m,hnm⟩ (λh' Bg=>?_) (BM _) (by rw[Z];exact Z8 _) I6.free qn;have R8:∀b o,k.heap.get? b=some o->b≠k.heap.objs.size:=λb o e=>Ha (FK e);have u:=I6.base;have Vr:=I3.G9 (s':={s6 with heap:=h'}) (H':=L) (ch:=l) I6.os ⟨λb o e n j hx=>Bg.extBut b _ (R8 b o e) (u.keep b o e n j hx),λb o e n j hx=>by
    obtain⟨sl,q⟩:=u.slot b o e n j hx;exact⟨sl,Bg.extBut b _ (R8 b o e) q⟩,u.free,λb o e hx=>by
    obtain⟨o',q⟩:=u.there b o e hx;exact⟨o',Bg.extBut b _ (R8 b o e) q⟩,u.tups,u.iE,u.ju⟩ (λa o e=>?_) I6.bare (λb j=>?_)
   .exact Vr
   .have Ue:∀b u,L b=some u->b≠k.heap.objs.size:=λb u e z=>by subst z;have:=I6.free;have e2:L k.heap.objs.size=none:=this;rw[e2]at e;cases e
    refine(I6.hok a o e).stay (λb u j q=>Bg.extBut b u ?_ q) (λ_ q=>q) λ_ _ q=>q;rcases j with rfl|j
    .exact Ue _ _ e
    .exact Ue _ _ j
   .obtain⟨q0,q1,q2,q3,q4,q5⟩:=f3 b j;exact⟨q3,q1,q4,q5⟩
  .refine aZ (T.item (aK X scope k.heap.objs.size t I k (upd H1 f.heap.objs.size (.lst [])) l) rfl rfl rfl hc i [] s5 (G++B) L _ I5 (R7 QL) MK go) ?_;rintro r s6 ⟨u,hr,h6⟩;subst hr;refine aZ h6 ?_;rintro _ s7 ⟨x,H7,I7,r7,y7,R9,Vs⟩;have Vt:=I7.pinned (R7 Vs) (T.obj _ _ R9);refine aZ (hg _ _ _ _ _ s7 (G++B) H7 x u _ Vt r7 (step x H7 y7 G hv0)) ?_;rintro _ s8 ⟨Xk,H8,I8,M,hv1,e8,q8⟩;subst e8;have fin:∀{s9:Shared}{H9:Hp},Inv (aK X scope k.heap.objs.size t I k (upd H1 f.heap.objs.size (.lst [])) l) ([]++lG l s7.heap) (M++B) H9 s9->(∃H,H<n/\W (i+1) H H9)->
    ∃m,m<n/\∃(i:Nat)(G:List (Option V))(H':Hp),G.length=t.length/\Inv (aK X scope k.heap.objs.size t I k (upd H1 f.heap.objs.size (.lst [])) l) [] (G++B) H' s9/\tn i s9.heap/\(∀b∈l,H' b=none)/\W i m H':=λ{s9 H9} I9 ⟨H,hm,w9⟩=>by
    refine⟨H,hm,i+1,M,H9,hv1,I9.iH,T.keep _ _ _ R9 λb j o e=>(I9.pin (b,o) (Fs _ (Fs _ (fz j e)))).1,λb j=>?_,w9⟩;obtain⟨o,e,d⟩:=T.obj _ _ R9 b j;exact(I9.pin (b,o) (Fs _ (Fs _ (fz j e)))).2.1
   refine aZ (hf _ _ _ _ _ s8 (M++B) H8 _ I8 q8) ?_;rintro ok s9 ⟨H9,I9,q9⟩;cases ok with
   |false=>exact fin I9 q9
   |true=>show wpAny _ _ _ _ _ _;refine aZ (he _ _ _ _ _ s9 (M++B) H9 _ I9 q9) ?_;rintro y Vu ⟨vy,Vv,Vw,Vx,ys,hys,hl,Vy⟩;refine aZ (gx (X:=aK X scope k.heap.objs.size t I k (upd H1 f.heap.objs.size (.lst [])) l) _ Vu (M++B) Vv (.ref f.heap.objs.size) [vy] _ [y] (λ_ H'=>∃H,H<n/\W (i+1) H H') Vw rfl (.cons Vx .nil) ⟨_,ys,vy,rfl,rfl,hys,hl,Vy⟩) ?_;rintro _ Xl ⟨_,Xm,Vz,_,VC⟩;exact fin Vz VC
 rw[hC];exact codeAny_compStart_list P (T.self X.A 0 _ _ _ Ud P)
theorem wO{tg a j:Expr}{i:List Expr}{scope:Scope}(d l:List Str){pos:Pos}{r:TI}{g:TG}{tc:TT}{te:TE}(M:X.calm=true)(y:cK scope X.env.scope X.N l d=true)(E:PI X tg a r)
 (G:∀C f k c,PG (aK X scope C d l f k c) tg g)(K:∀C f k c,PF (aK X scope C d l f k c) i tc)(L:∀C f k c,PE (aK X scope C d l f k c) j te)
 (u:∀z,foldedSetIterable a X.env z=pure z:=by intro _;rfl):PE X (.ListComp j [⟨tg,a,i,0⟩] scope pos) (wN d.length r g tc te):=by
 intro b s p H Q I h;have O:=eu.of y;rw[eval_ListComp];refine wpAny_comprehension_free (use:=none) rfl u (lX (gZ I O)) O.kind O.loc (aZ (E b s p H _ I h) λv s1 S=>aZ S λt s2 R=>?_);obtain⟨it,c,tn,J,H2,e,Z,T,n,Y,x⟩:=R;subst e;refine lZ (RR:=λo C=>compPost (model X.prog X.w) X.A X.xe none (EP X b p Q) o C) M O G K L Z T n Y x ?_;rintro D C s' H' ⟨m,B⟩ P _ _ _ q;exact⟨m,B,λU Bg=>⟨.ref D,H',P U Bg,rfl,q⟩⟩
end
theorem oX{c:List Bool}:∀{a:List Value},Vals (c.map V.bl) a->a=c.map Value.bool:=by
 induction c with
 |nil=>intro a r;rw[Qf]at r;cases r;rfl
 |cons b c g=>
  intro a r;rw[Kk]at r;cases r with
  |cons f d=>have e:_=Value.bool b:=f;rw[e,g d];rfl
theorem uT(d:List Bool):((BB d.length).all λi=>(d[i]?).getD true)=d.all id:=by
 rw[XR,Hc,Hc];constructor
 .intro h b e;obtain⟨i,c,rfl⟩:=SU e;have:=h i (Ki.mpr c);simp only[B1 c,MN]at this;exact this
 .intro h i c;have a:=Ki.mp c;simp only[B1 a,MN];exact h _ (Os a)
section
variable{X:Cx}
theorem yP(k:X.calm=true):bN X (.builtin "sum") (λa H Q=>∃(p:Addr)(ns:List Int),a=[.ref p]/\dU X.K H p (ns.map V.int)/\Q (.int ns.sum) H):=by
 intro d s o H a t Q I r h;obtain⟨p,ns,rfl,l,q⟩:=h;obtain⟨u,rfl,g⟩:=Vals.one r;cases(show u=Value.ref p from g);obtain⟨b,rv,i,_⟩:=I.list l;have f:=intsAre_of rv;obtain⟨a,e⟩:=f.allInts.items;have c:s.heap.IsList p (intItems a):=e▸i.isList;refine sum_intListG (I.ok.hd k) c λx v w j=>?_;have n:ns=a.toList.map (·.1):=by rw[<-nums_intItems,<-e];exact(show numsOf b.toArray.toList=ns from f.numsOf).symm
 have m:preSum (numAt a) a.size=ns.sum:=by rw[preSum_eq,List.take_of_length_le (by simp),n]
 rw[m];exact⟨.int ns.sum,H,I.kept j,⟨_,rfl⟩,q⟩
theorem yQ(y:X.calm=true):bN X (.builtin "all") (λj H Q=>∃(p:Addr)(c:List Bool),j=[.ref p]/\dU X.K H p (c.map V.bl)/\Q (.bl (c.all id)) H):=by
 intro k s E H j G Q I r h;obtain⟨p,c,rfl,B,q⟩:=h;obtain⟨u,rfl,n⟩:=Vals.one r;cases(show u=Value.ref p from n);obtain⟨a,rv,t,_⟩:=I.list B;have l:=oX rv;have g:=t.isList;have f:p<s.heap.objs.size:=by obtain⟨_,e,_⟩:=g;exact FK e
 refine call_all_walk (Yh g ?_);refine⟨s.heap.objs.size,[s.heap.objs.size,p],[s.heap.objs.size],a.toArray.size,_,_,λi=>(c[i]?).getD true,rfl,Walks.list (A:=X.A.in1) (I.ok.hd y) _ p (Ha f) a.toArray,
  ⟨⟨_,GE _ rfl,rfl,rfl⟩,g.push _⟩,λi v L N O C m=>?_,λM J x=>?_⟩
 .have d:a[i]?=some v:=by simpa using C
  rw[l,Dx]at d;cases e:c[i]? with
  |none=>rw[e]at d;cases d
  |some b=>rw[e]at d;simp only[e,MN]at m;have:v=Value.bool b:=(He d).symm;subst this;exact Pl m
 .have e:((BB a.toArray.size).all λi=>(c[i]?).getD true)=c.all id:=by
   have D:a.toArray.size=c.length:=by rw[Ee,l,Ap]
   rw[D];exact uT c
  rw[e];exact⟨.bl _,H,I.kept λb o z=>x b o (λw=>by rw[Da.mp w]at z;exact Nw _ (FK z)) (D1 _ z),rfl,q⟩
theorem wQ{i:Nat}{x:Str}{tg f r:Expr}{k:List Expr}{scope:Scope}{d pos t:Pos}(G R:List Str){wi:TI}{g:TG}{tc:TT}{te:TE}(hN:X.N.Nodup)(hi:X.N[i]?=some x)(B:Loc X.env.scope x)(hc:X.calm=true)(ho:cK scope X.env.scope X.N R G=true)(HB:PI X tg f wi)
 (hg:∀C L P K,PG (aK X scope C G R L P K) tg g)(hf:∀C L P K,PF (aK X scope C G R L P K) k tc)(he:∀C L P K,PE (aK X scope C G R L P K) r te)
 (hsw:swapsWith (.ListComp r [⟨tg,f,k,0⟩] scope pos) (some (.Name x d)) t.line X.env=pure true:=by rfl)
 (hs:∀z,foldedSetIterable f X.env z=pure z:=by intro _;rfl)(hfn:X.fn x=true\/X.env.scope.names.lookup x=some .local:=by first|exact .inl rfl|exact .inr rfl|assumption):
 PS X (.Assign [.Name x d] (.ListComp r [⟨tg,f,k,0⟩] scope pos) t) (jw (wN G.length wi g tc te) (c6 i)):=by
 intro j s S H W I h;have O:=eu.of ho;rw[exec_Assign_Name_used _ _ _ _ hsw];refine FC (YF (FC ?_));show wpAny _ X.A (do let _<-comprehension (.ListComp r [⟨tg,f,k,0⟩] scope pos) scope X.env _ (newList []) false (eval f X.env) (some (assign (.Name x d) X.env))) _ _ s;refine FC (SF (wpAny_comprehension_free (use:=some (assign (.Name x d) X.env)) (Q:=λ_ s'=>SP X j W .next s') rfl hs (lX (gZ I O)) O.kind O.loc (aZ (HB j s S H _ I h) λv s1 h1=>aZ h1 λitv s2 h2=>?_)) (λ_ s' hq=>Kb (Kb hq)) λ_ _ e=>e);obtain⟨it,K,tn,J,H2,e,M,T,U,f2,hq⟩:=h2;subst e;refine lZ (Q:=λx H1=>c6 i x S H1 W.nx) (RR:=λacc C=>compPost (model X.prog X.w) X.A X.xe (some (assign (.Name x d) X.env)) (λ_ s'=>SP X j W .next s') acc C) hc O hg hf he M T U f2 hq ?_;rintro D C s' H' ⟨m,hm⟩ hI _ hC fC q;have I':Inv X j S H' s':=hI s'.heap ⟨rfl,λ_ _=>rfl⟩;have Z:∀b o,s2.heap.get? b=some o->b≠C:=λb o e=>Ha (Gc (FK e) hC);have nL:C≠X.env.locals:=λe=>by obtain⟨m2,hn2,_⟩:=M.loc;obtain⟨o,_,_,ho2,_⟩:=hn2;exact Z _ o ho2 e.symm
 have nC:∀y c,X.env.cells.lookup y=some c->c≠C:=λy c e z=>by obtain⟨v,o,e1,_⟩:=M.cell y c e;exact Z _ o e1 z
 have nP:∀p∈X.pn++j,p.1≠C:=λp hp z=>Z _ _ (M.pin p hp).1 z;show wpAny _ X.A (assign (.Name x d) X.env (.ref D)) _ _ _;refine wpAny_assign_Name (oE I' hN hi B (v:=.ref D) rfl (λY Sa hsm=>?_) hfn);obtain⟨a,Bg,ha⟩:=hsm;have aC:a≠C:=by
  rcases ha with rfl|ha
  .exact Mo nL
  .exact nC x a ha
 refine⟨m,hm.sameBut Bg (Mo aC),λh' l=>⟨_,H',?_,q⟩⟩;refine Sa.G9 (s':={Y with heap:=h'}) (H':=H') (ch:=[C]) rfl ⟨λb o e n E B=>l.extBut b o (λz=>B (by rw[z];exact Da.mpr rfl)) e,λb o e n E B=>⟨o.slots,l.extBut b o (λz=>B (by rw[z];exact Da.mpr rfl)) e⟩,λb o e n B=>n,λb o e B=>⟨o,l.extBut b o (λz=>B (by rw[z];exact Da.mpr rfl)) e⟩,λb G q=>q,λb o u q=>q,λb ps q=>⟨#[],by rw[Array.append_empty];exact q⟩⟩ (λa o e=>?_) Sa.bare (λb E=>?_)
 .refine(Sa.hok a o e).stay (λb u E q=>l.extBut b u ?_ q) (λ_ q=>q) λ_ _ q=>q;rintro rfl;rcases E with rfl|E
  .rw[fC]at e;cases e
  .rw[fC]at E;cases E
 .rw[Da.mp E];exact⟨.inr (IH M.sz hC),nL,λy c e z=>nC y c e z,nP⟩
noncomputable def QU(a st:Int)(n:Nat):It:=⟨λi _=>i<n,λi H x b=>b=H/\x=.int (a+i*st),λi _=>n<=i⟩
theorem sO{P:Program}{w:World}{K:Frag}{tg:Expr}(c:Addr)(g st:Int)(n:Nat):Turn P w K tg (QU g st n) [c] c (λi h=>IsRangeIter h c (g+(i:Nat)*st) ((n:Int) -(i:Nat)) st)where
 mem:=by simp
 obj:=λi h st b d=>by
  have e:b=c:=by simpa using d
  subst e;exact⟨_,st,λv z=>by have L:Data.fields _=Data.cell v:=z;cases L⟩
 keep:=λi h l st k=>k c (by simp) _ st
 item:=by intro X r m u q i a s G H E I j D p;subst r m u;obtain⟨C,B,O,A,y,x⟩:=j c (by simp);have W:=Walks.range (prog:=X.prog) (w:=X.w) (I.ok.hd q) c g st n;refine W.item i s _ _ p D λv l J N f M=>?_;obtain⟨t,rfl⟩:=N;have I1:Inv X a G H {s with heap:=l,toks:=J}:=I.turned (λb o d e=>M b o (by simpa using d) e) C B A y x;exact⟨_,rfl,r6 (s:={s with heap:=l,toks:=J}) (n:="range_iterator") f rfl rfl (by decide) ⟨.int (g+i*st),H,I1,⟨t,rfl⟩,⟨rfl,rfl⟩,f,λb d=>(j b d).1⟩⟩
 done:=by intro X r m u q i a s G H E I j D p;subst r m u;obtain⟨C,B,O,A,y,x⟩:=j c (by simp);exact wpAny_pyNext_range_end (I.ok.hd q) D (by have:n<=i:=p;omega) λl Q=>⟨rfl,I.turned (t':=s.toks) (λb o d e=>Q b o d e) C B A y x⟩
 self:=λ_ _ _ _ _ st h=>wpAny_pyIter_rangeiter st h
theorem yR{tg:Expr}{c:List (Addr×Obj)}{f:St}{H:Hp}{s:Shared}{R:It->Hp->Prop}{E:Value->Shared->Prop}{a d st:Int}{n:Nat}{t u v:Tok}{g:Nat}(I:Inv X c f H s)(h:Builtin.Range.small a d st=true)(i:Builtin.Range.rangeSize a d st=(n:Int))
 (q:R (QU a st n) H):wpAny (model X.prog X.w) X.A (pyIter (.ref s.heap.objs.size)) (Rx X c f tg R) E {s with heap:=s.heap.push {cls:=.type "range",data:=.fields #[.int a t,.int d u,.int st v]},toks:=g}:=by
 refine wpAny_pyIter_range (IsRange.new ..) h ?_;have I1:Inv X c f H {s with heap:=s.heap.push {cls:=.type "range",data:=.fields #[.int a t,.int d u,.int st v]},toks:=g}:=I.kept λb o e=>D1 _ e;refine⟨(s.heap.push {cls:=.type "range",data:=.fields #[.int a t,.int d u,.int st v]}).objs.size,[(s.heap.push {cls:=.type "range",data:=.fields #[.int a t,.int d u,.int st v]}).objs.size],_,_,H,rfl,
  I1.kept (t':=g) λb o e=>D1 _ e,sO _ a st n,?_,λb j=>?_,q⟩
 .have l:a+((0:Nat):Int)*st=a:=by simp
  have k:(n:Int) -((0:Nat):Int)=Builtin.Range.rangeSize a d st:=by rw[i];simp
  show IsRangeIter _ _ (a+((0:Nat):Int)*st) ((n:Int) -((0:Nat):Int)) st;rw[l,k];exact GE _ rfl
 .have e:b=(s.heap.push {cls:=.type "range",data:=.fields #[.int a t,.int d u,.int st v]}).objs.size:=by simpa using j
  subst e;exact I1.lF (BM _) (I1.hok.fresh (BM _))
noncomputable def Oa(ta:TA):TI:=λa H R=>ta a H λb c=>∃(i j k:Int)(n:Nat),b=[.int i,.int j,.int k]/\(k≠0/\k.natAbs<1073741824/\Builtin.Range.small i j k=true/\Builtin.Range.rangeSize i j k=(n:Int))/\R (QU i k n) c
theorem yS{tg a b c:Expr}{ta:TA}{p pos:Pos}(C:Gl X "range")(B:X.mg "range"=none)(D:PA X [a,b,c] ta)(A:starEach [a,b,c] X.env=[(false,eval a X.env),(false,eval b X.env),(false,eval c X.env)]:=by rfl)(g:starEach [b,c] X.env=[(false,eval b X.env),(false,eval c X.env)]:=by rfl):
 PI X tg (.Call (.Name "range" p) [a,b,c] [] pos) (Oa ta):=by
 intro f s o H R I h;refine Call_ (dD I C B boot_range (L9 (aZ (D pos f s o H _ I h) λG K ⟨E,L,I1,v,m⟩=>?_) (by rw[A,g]) (by rw[g];rfl)));obtain⟨i,j,k,n,e,⟨m,z,y,x⟩,q⟩:=m;subst e;cases v with
 |cons r d=>
  cases d with
  |cons w d=>
   cases d with
   |cons l d=>
    cases d;obtain⟨t,rfl⟩:=r;obtain⟨J,rfl⟩:=w;obtain⟨u,rfl⟩:=l;exact call_range_3 m (yR I1 y x q) (.inl (To z))
end
end L2
namespace L2
open PySem
end L2
namespace L2
open PySem PySem.Spec PyProof.Rows
noncomputable def Dt(X:Cx)(H:Hp)(x:V)(d:PyData):Prop:=
 ∀(a:List (Addr×Obj))(b:St)(s:Shared)(u:Value),Inv X a b H s->RelV x u->∃c,Reads s.heap u d c
section
variable{X:Cx}{H:Hp}
theorem JM(i:Int):Dt X H (.int i) (.int i):=λ_ _ s u _ r=>by obtain⟨t,rfl⟩:=r;exact⟨_,.int i t⟩
theorem Ob(b:Bool):Dt X H (.bl b) (.bool b):=λ_ _ s u _ r=>by
 cases(show u=Value.bool b from r);exact⟨_,.bool b⟩
theorem JN(x:Str):Dt X H (.str x) (.str x):=λ_ _ s u _ r=>by obtain⟨t,rfl⟩:=r;exact⟨_,.str x t⟩
theorem JO:Dt X H .aM .none:=λ_ _ s u _ r=>by
 cases(show u=Value.none from r);exact⟨_,.none⟩
theorem uU{a:List (Addr×Obj)}{e:St}{s:Shared}(I:Inv X a e H s):∀{b:List V}{ds:List PyData}{c:List Value},Paired (Dt X H) b ds->Vals b c->∃d,ReadsAll s.heap c ds d
 |_,_,_,.nil,.nil=>⟨_,.nil⟩
 |_,_,_,.cons h t,.cons r f=>by obtain⟨d,q⟩:=h _ _ _ _ I r;obtain⟨i,g⟩:=uU I t f;exact⟨_,.cons q g⟩
theorem Bh{a:Addr}{c:List V}{ds:List PyData}(h:dU X.K H a c)(b:Paired (Dt X H) c ds):Dt X H (.ref a) (.list ds):=λ_ _ s u I r=>by
 cases(show u=Value.ref a from r);obtain⟨e,rv,d,_⟩:=I.list h;obtain⟨j,q⟩:=uU I b rv;obtain⟨o,f,i,n,g⟩:=d.isList;exact⟨_,.list f i g (by simpa using q)⟩
theorem JP{a:Addr}{c:List V}{ds:List PyData}(h:gJ X.K H a c)(b:Paired (Dt X H) c ds):Dt X H (.ref a) (.tuple ds):=λ_ _ s u I r=>by
 cases(show u=Value.ref a from r);obtain⟨d,rv,e,_⟩:=I.tuple h;obtain⟨j,q⟩:=uU I b rv;obtain⟨o,f,i,n,g⟩:=e;exact⟨_,.tuple f i g (by simpa using q)⟩
noncomputable def Sd(X:Cx):R2:=λx y H Q=>∃b a,Dt X H x b/\Dt X H y a/\(SeqAt.shaped b=true/\SeqAt.shaped a=true/\SeqAt.noMix b a=true)/\Q (.bl (PySem.Spec.same b a)) H
noncomputable def Se(X:Cx):R2:=λx y H Q=>∃b a,Dt X H x b/\Dt X H y a/\(SeqAt.shaped b=true/\SeqAt.shaped a=true/\SeqAt.noMix b a=true)/\Q (.bl (!PySem.Spec.same b a)) H
theorem JQ(j:X.A.units+64<cLine):gK X (compareOp .Eq) (Sd X):=by intro a s m H x y v u Q I c b h;obtain⟨o,n,l,k,⟨i,g,f⟩,q⟩:=h;obtain⟨r,e⟩:=l _ _ _ _ I c;obtain⟨p,d⟩:=k _ _ _ _ I b;exact eq_dataH_same e d i g j f ⟨.bl _,H,I,rfl,q⟩
theorem JR(j:X.A.units+64<cLine):gK X (compareOp .NotEq) (Se X):=by intro a s m H x y v u Q I c b h;obtain⟨o,n,l,k,⟨i,g,f⟩,q⟩:=h;obtain⟨r,e⟩:=l _ _ _ _ I c;obtain⟨p,d⟩:=k _ _ _ _ I b;exact ne_dataH_same e d i g j f ⟨.bl _,H,I,rfl,q⟩
end
noncomputable def Sh(K:Frag)(a:Addr):It:=⟨λi H=>∃b x,dU K H a b/\b[i]?=some x,λi H x c=>∃p y,H p=none/\x=.ref p/\c=upd H p (.tup [.int i,y])/\∀b,dU K H a b->b[i]?=some y,λi H=>∃b,dU K H a b/\b.length=i⟩
theorem Inv.Oc{X:Cx}{a:List (Addr×Obj)}{l:St}{H:Hp}{s:Shared}{h':Heap}{t':Nat}{ch:List Addr}{p:Addr}{h:List V}(I:Inv X a l H s)(j:∀b∈ch,dF X a H b)
 (k:∀b o,b∉ch->s.heap.get? b=some o->h'.get? b=some o)(t:s.heap.objs.size<=p)(i:bF X.prog X.w (upd H p (.tup h)) h' p (.tup h))(N:∀b∈ch,∃o,h'.get? b=some o):Inv X a l (upd H p (.tup h)) {s with heap:=h',toks:=t'}:=by
 have f:H p=none:=I.hok.fresh t;have x:∀b u,H b=some u->b∉ch:=λb u e z=>by rw[(j b z).1]at e;cases e
 have L:∀b o,s.heap.get? b=some o->b≠p:=λb o e z=>absurd (Gc (FK e) t) (by rw[z];exact Nw _);refine I.step (g':=s.gens) (d':=s.drawn) (ch:=ch) (λb g=>?_) (λb o _ _ d e _=>k b o d e) (λb o _ _ d e _=>⟨o.slots,k b o d e⟩) (λb o _ e n=>by rw[aA (L b o e)];exact n)
  (λb o d e=>⟨o,k b o d e⟩) (λb y e=>by rw[aA (aP e f)];exact e) (λb o u e=>by rw[aA (aP e f)];exact e) (λb M e=>⟨#[],by rw[aA (aP e f),e];simp⟩) (λm B=>?_) (λb u e=>?_) I.bare
 .obtain⟨P,G,O,E,D,C⟩:=j b g;exact⟨E,G,D,C⟩
 .obtain⟨o,J,K,A,r⟩:=B;exact⟨o,J,K,k _ o (λz=>(j _ z).2.1 rfl) A,r⟩
 .by_cases g:b=p
  .subst g;rw[aL]at e;cases e;exact i
  .rw[aA g]at e;refine(I.hok b u e).stay (λc v d q=>k c v ?_ q) (λc q=>by rw[aA (aP q f)];exact q) λc y q=>by rw[aA (aP q f)];exact q
   rcases d with z|z
   .rw[z];exact x b u e
   .exact x c _ z
theorem yT{P:Program}{w:World}{K:Frag}{C:List Expr}{kk:Nat}{pos:Pos}(a e l:Addr)(S:e≠l):
 Turn P w K (.Tuple C kk pos) (Sh K a) [e,l] e (λi h=>(∃f,IsEnum h e l i f)/\h.IsListIter l a i)where
 mem:=by simp
 obj:=λi h q b m=>by
  obtain⟨⟨f,n⟩,o,r,c,d⟩:=q;rcases Fm.mp m with z|z
  .subst z;exact⟨_,n,λv z=>by cases z⟩
  .rw[Da.mp z];exact⟨o,r,λv z=>by rw[d]at z;cases z⟩
 keep:=λi h h' q k=>by obtain⟨⟨f,n⟩,G⟩:=q;exact⟨⟨f,k e (by simp) _ n⟩,G.at λo x=>k l (by simp) o x⟩
 item:=by
  intro X hP hw hK hc i N s σ H E I M q hg;subst hP hw hK;obtain⟨xs,x,Z,Y⟩:=hg;obtain⟨j,rv,p,hz⟩:=I.list Z;obtain⟨u,hu,ru⟩:=rv.get Y;obtain⟨⟨f,n⟩,G⟩:=q;have hit:=M l (by simp);have hee:=M e (by simp);have J:a≠l:=λz=>by obtain⟨o,r,c,d⟩:=G;obtain⟨o',g,L,_⟩:=p.isList;rw[z,r]at g;cases g;rw[c]at L;exact absurd L (by decide)
  have VF:a≠e:=λz=>by obtain⟨o',g,L,_⟩:=p.isList;have B:s.heap.get? e=some _:=n;rw[z,B]at g;cases g;exact absurd (show Value.type "enumerate"=Value.type "list"from L) (by decide)
  have D:=Draws.list (prog:=X.prog) (w:=X.w) (A:=X.A.in1) (I.ok.hd hc) l a J j.toArray;have W:=WalksT.enumerateD D e S (by simp[S,VF.symm]) (by simp);have hlt:i<j.toArray.size:=by have:=(FS.mp hu).1;simpa using this
  refine W.item i s _ _ hlt ⟨⟨f,n⟩,G,p.isList⟩ λT vals h' tk VG hT Si Oe hk=>?_;obtain⟨t,y,hy,rfl⟩:=VG;have VH:y=u:=by
   have:j[i]?=some y:=by simpa using hy
   rw[hu]at this;exact(He this).symm
  subst VH;refine⟨.ref T,rfl,W.go C kk pos i T _ _ _ Oe λU hst R=>?_⟩;have Ug:T∉[e,l]:=W.apart i T h' Oe;obtain⟨⟨O,B⟩,Q,_⟩:=hst;have Of:IsTup U T #[.int i t,y]:=by obtain⟨o,r,c⟩:=Si;exact⟨o,R T o Ug r,c⟩
  have obj:bF X.prog X.w (upd H T (.tup [.int i,x])) U T (.tup [.int i,x]):=⟨yO (by show 2<=100000;decide),[.int i t,y],.cons ⟨t,rfl⟩ (.cons ru .nil),Of⟩;have I2:=I.Oc (t':=tk) (ch:=[e,l]) M (λb o m eo=>R b o m (hk b o m eo)) hT obj (λb m=>by
   rcases Fm.mp m with z|z
   .rw[z];exact⟨_,B⟩
   .rw[Da.mp z];obtain⟨o,r,_⟩:=Q;exact⟨o,r⟩)
  refine⟨.ref T,upd H T (.tup [.int i,x]),I2,rfl,⟨T,x,I.hok.fresh hT,rfl,rfl,λys hy=>by rw[I.lD hy Z];exact Y⟩,⟨⟨O,B⟩,Q⟩,λb m=>?_⟩;rw[aA (show b≠T from λz=>Ug (by rw[<-z];exact m))];exact(M b m).1
 done:=by
  intro X hP hw hK hc i N s σ H E I M q hg;subst hP hw hK;obtain⟨xs,Z,Y⟩:=hg;obtain⟨j,rv,p,hz⟩:=I.list Z;obtain⟨⟨f,n⟩,G⟩:=q;obtain⟨f0,f1,f2,f3,f4,f5⟩:=M l (by simp);have J:a≠l:=λz=>by obtain⟨o,r,c,d⟩:=G;obtain⟨o',g,L,_⟩:=p.isList;rw[z,r]at g;cases g;rw[c]at L;exact absurd L (by decide)
  have D:=Draws.list (prog:=X.prog) (w:=X.w) (A:=X.A.in1) (I.ok.hd hc) l a J j.toArray;have hn:j.toArray.size=i:=by rw[Ee,<-rv.length];exact Y
  exact wpAny_pyNext_enum_endD D n ⟨by rw[hn];exact G,p.isList⟩ λh' eb=>⟨rfl,I.turned (t':=s.toks) (λb o m x=>eb b o m x) f0 f1 f3 f4 f5⟩
 self:=λ_ _ _ _ _ q h=>by obtain⟨⟨f,n⟩,_⟩:=q;exact wpAny_pyIter_enum n h
section
variable{X:Cx}
noncomputable def Og(K:Frag)(ta:TA):TI:=λc H R=>ta c H λe b=>∃a,e=[.ref a]/\(∃d,dU K b a d)/\R (Sh K a) b
theorem Es{a:Expr}{ta:TA}{f:List Expr}{t:Nat}{k p pos:Pos}(E:Gl X "enumerate")(B:X.mg "enumerate"=none)(J:PA X [a] ta)(w:bootBuiltins "enumerate"=some (.type "enumerate"):=by rfl)(y:starEach [a] X.env=[(false,eval a X.env)]:=by rfl):
 PI X (.Tuple f t k) (.Call (.Name "enumerate" p) [a] [] pos) (Og X.K ta):=by
 intro c s g H R I h;refine Call_ (dD I E B w (L9 (aZ (J pos c s g H _ I h) λP d ⟨O,j,I1,n,o⟩=>?_) y rfl));obtain⟨l,e,⟨N,A⟩,q⟩:=o;subst e;obtain⟨u,rfl,m⟩:=Vals.one n;cases(show u=Value.ref l from m);obtain⟨v,rv,r,_⟩:=I1.list A;refine call_enumerate_list r.isList λL i C x D=>?_;refine wpAny_pyIter_enum i ?_;have M:Inv X c g j {d with heap:=L}:=I1.kept (t':=d.toks) D;refine⟨d.heap.objs.size+1,[d.heap.objs.size+1,d.heap.objs.size],_,_,j,rfl,M,yT l (d.heap.objs.size+1) d.heap.objs.size (Nat.succ_ne_self _),⟨⟨_,i⟩,C⟩,λb G=>?_,q⟩;rcases Fm.mp G with z|z
 .rw[z];exact I1.lF (by lia) (I1.hok.fresh (by lia))
 .rw[Da.mp z];exact I1.lF (BM _) (I1.hok.fresh (BM _))
end
noncomputable def Sj(K:Frag)(a:Addr)(n:Nat):It:=
 ⟨λi H=>∃b,dU K H a b/\b.length=n/\i<n,λi H x c=>c=H/\∀b,dU K H a b->b.length=n->b[n -1 -i]?=some x,λi _=>i=n⟩
theorem Bj{P:Program}{w:World}{K:Frag}{tg:Expr}(a l:Addr)(n:Nat):Turn P w K tg (Sj K a n) [l] l (λi h=>h.IsRevIter l a ((n:Int) -1 -(i:Int)))where
 mem:=by simp
 obj:=λi h f b m=>by
  have e:b=l:=by simpa using m
  subst e;obtain⟨o,e,c,d⟩:=f;refine⟨o,e,λv z=>?_⟩;rw[d]at z;cases z
 keep:=λi h r f k=>f.at λo e=>k l (Da.mpr rfl) o e
 item:=by
  intro X B t C S i g s N H E I q f A;subst B t C;obtain⟨O,R,hn,hi⟩:=A;obtain⟨Y,rv,p,hz⟩:=I.list R;have Q:O[n -1 -i]?=some (O[n -1 -i]'(by omega)):=B1 (by omega);obtain⟨u,hu,U⟩:=rv.get Q;obtain⟨M,L,f2,J,G,D⟩:=q l (Da.mpr rfl);have e:(n:Int) -1 -(i:Int)=((n -1 -i:Nat):Int):=by omega
  rw[e]at f;refine wpAny_pyNext_rev_item f p.isList (x:=u) (by simpa using hu) λr j T=>?_;have e2:((n -1 -i:Nat):Int) -1=(n:Int) -1 -((i+1:Nat):Int):=by omega
  rw[e2]at j;have I1:Inv X g N H {s with heap:=r}:=I.turned (t':=s.toks) (λb o m z=>(T.2 b m).trans z) M L J G D;obtain⟨o,e3,c,d⟩:=id j;exact⟨u,rfl,r6 (s:={s with heap:=r}) e3 c d (by decide) ⟨_,H,I1,U,⟨rfl,λys Z _=>by rw[I.lD Z R];exact Q⟩,j,λb m=>(q b m).1⟩⟩
 done:=by
  intro X B t C S i g s N H E I q f A;subst B t C;have y:i=n:=A;subst y;obtain⟨M,L,f2,J,G,D⟩:=q l (Da.mpr rfl);have e:(i:Int) -1 -(i:Int)= -1:=by omega
  rw[e]at f;exact wpAny_pyNext_rev_end (I.ok.hd S) f λr eb=>⟨rfl,I.turned (t':=s.toks) (λb o m z=>eb b o m z) M L J G D⟩
 self:=λ_ _ _ _ _ f h=>wpAny_pyIter_revIter f h
section
variable{X:Cx}{tg:Expr}
noncomputable def Sk(K:Frag)(ta:TA):TI:=λd H R=>ta d H λe c=>∃a b,e=[.ref a]/\dU K c a b/\R (Sj K a b.length) c
theorem JS{a:Expr}{ta:TA}{p pos:Pos}(y:Gl X "reversed")(x:X.mg "reversed"=none)(B:PA X [a] ta)(t:bootBuiltins "reversed"=some (.type "reversed"):=by rfl)(v:starEach [a] X.env=[(false,eval a X.env)]:=by rfl):
 PI X tg (.Call (.Name "reversed" p) [a] [] pos) (Sk X.K ta):=by
 intro d s j H R I h;refine Call_ (dD I y x t (L9 (aZ (B pos d s j H _ I h) λG c ⟨E,D,I1,m,n⟩=>?_) v rfl));obtain⟨l,f,e,w,q⟩:=n;subst e;obtain⟨u,rfl,k⟩:=Vals.one m;cases(show u=Value.ref l from k);obtain⟨g,rv,r,_⟩:=I1.list w;refine call_reversed_list r.isList ?_;have C:((g.toArray.size:Nat):Int) -1=(f.length:Int) -1 -((0:Nat):Int):=by have:=rv.length;simp;omega
 rw[C];have i:Heap.IsRevIter (c.heap.push (revObj l ((f.length:Int) -1 -((0:Nat):Int)))) c.heap.objs.size l ((f.length:Int) -1 -((0:Nat):Int)):=⟨_,GE _ rfl,rfl,rfl⟩;refine wpAny_pyIter_revIter i ?_;refine⟨c.heap.objs.size,[c.heap.objs.size],_,_,D,rfl,I1.kept (t':=c.toks) λb o z=>D1 _ z,Bj l _ f.length,i,λb A=>?_,q⟩;have e:b=c.heap.objs.size:=by simpa using A
 subst e;exact I1.lF (BM _) (I1.hok.fresh (BM _))
end
theorem yU:typeLookup (.type "list_reverseiterator") "__len__"=pure none:=by
 rw[typeLookup_type,builtinLookup_eq_fast]
 kernel_rfl
theorem Bk:typeLookup (.type "list_reverseiterator") "__length_hint__"=pure (some (.builtin "list_reverseiterator.__length_hint__")):=by
 rw[typeLookup_type,builtinLookup_eq_fast]
 kernel_rfl
section
variable{prog:Program}{w:World}{A:Around}{E:Value->Shared->Prop}
abbrev Et(xs:Array Value)(c:Nat):Obj:={cls:=.type "list",dict:=none,data:=.seq xs c,slots:= #[]}
theorem Eu{s:Shared}{R:Result->Shared->Prop}{J l S:Addr}{vs:Array Value}{g:Value}{C:Nat}(u:A.handled=none)(t:s.heap.IsList l vs)(d:s.heap.IsRevIter J l ((vs.size:Int) -1))(r:l≠J)(n:S≠J)(p:S≠l)(x:s.heap.get? S=some (Et #[] C))(hz:vs.size<=sizeLine)
 (y:∀(s':Shared)(j:Array Value)(c:Nat),Moved [S,J] (λa b=>b=a) s s'->s'.heap.get? S=some (Et j c)->ItemsOf (λi v=>vs[vs.size -1 -i]?=some v) j vs.size->R (.ok (.ret g)) s'):
 wpAny (model prog w) A.in1 (Builtin.List.listExtendWith (.ref S) (.ref J) g) (λk s'=>match k with
  |.done f=>R (.ok f) s'
  |.again o=>o.quiet=true/\codeAny (model prog w) A o R s') (λe s'=>R (.error e) s') s:=by
 have V:=(Walks.listRev (prog:=prog) (w:=w) (A:=A.in1) u J l r vs).toS;have q:S∉[J,l]:=λm=>by simp only[Fm,Y3,or_false]at m;exact m.elim n p
 have z:0<=vs.size/\s.heap.IsRevIter J l ((vs.size:Int) -1 -((0:Nat):Int))/\s.heap.IsList l vs:=⟨Hn _,by rw[show(vs.size:Int) -1 -((0:Nat):Int)=(vs.size:Int) -1 by lia];exact d,t⟩;have B:Builtin.List.listSameRef (.ref S) (.ref J)=false:=by simp[Builtin.List.listSameRef,n]
 unfold Builtin.List.listExtendWith;refine FC (wpAny_typeOf d.typeIs ?_);rw[Bn (by rw[B];decide)];refine FC (wpAny_pyIter_revIter d ?_);refine FC (YG ?_);unfold Builtin.List.listLengthHint;refine FC (wpAny_specialOf d.typeIs yU ?_);show wpAny _ A.in1 (specialOf (Value.ref J) (Str.ofString "__length_hint__")>>=_) _ _ _;refine FC (wpAny_specialOf d.typeIs Bk ?_);generalize h:("list_reverseiterator.__length_hint__":String)=D
 wp_delta
 rw[show splitId D=some ("list_reverseiterator","__length_hint__")from by subst h;decide+kernel];subst h;refine FC (wpAny_isInstance (b:=true) d.typeIs (by rw[isSubtype_type];kernel_rfl) ?_);refine Kb ?_;rw[Bn (by decide)];refine Kb ⟨plainId_quiet F.plain_extend_loop _,codeAny_extend_loopS V hz _ q _ vs.size 0 _ _ _ rfl (Hn _) z x (ItemsOf.nil _) ?_⟩;exact y
theorem nX{s:Shared}{Q:Value->Shared->Prop}{J l:Addr}{vs:Array Value}(D:A.handled=none)(q:s.heap.IsList l vs)(r:s.heap.IsRevIter J l ((vs.size:Int) -1))(y:l≠J)(hz:vs.size<=sizeLine)
 (G:∀(h':Heap)(t:Nat)(a:Array Value)(c:Nat),(∀b o,b≠J->s.heap.get? b=some o->h'.get? b=some o)->h'.get? s.heap.objs.size=some (Et a c)->ItemsOf (λi v=>vs[vs.size -1 -i]?=some v) a vs.size->Q (.ref s.heap.objs.size) {s with heap:=h',toks:=t}):
 wpAny (model prog w) A (call (.type "list") [.ref J]) Q E s:=by
 have I:J<s.heap.objs.size:=let⟨o,h,_⟩:=r;FK h
 have B:l<s.heap.objs.size:=let⟨o,h,_⟩:=q;FK h
 refine callType_codes (Q₁:=λu k=>u=.ref s.heap.objs.size/\k={s with heap:=s.heap.push (Et #[] 0)}) F.called_list (F.typeCall_list_1 _) F.entry_list_init (code_list_new _ ⟨rfl,rfl⟩) ?_;rintro u k ⟨rfl,rfl⟩;have d:(s.heap.push (Et #[] 0)).get? s.heap.objs.size=some (Et #[] 0):=GE _ rfl;refine⟨⟨_,d,rfl⟩,F.args_list_init_2 _ _,?_⟩;show wpAny _ _ (Builtin.List.listItems (.ref s.heap.objs.size)>>=λj=>Builtin.List.listUpdate (.ref s.heap.objs.size) (λ_=> #[])>>=λ_=>letGo j.toList.reverse>>=λ_=>Builtin.List.listExtendWith (.ref s.heap.objs.size) (.ref J) .none) _ _ _;refine FC ?_;unfold Builtin.List.listItems;refine FC (wpAny_seqItems d rfl (Kb ?_));show wpAny _ _ (updateSeq s.heap.objs.size (λ_=> #[])>>=λ_=>letGo (#[]:Array Value).toList.reverse>>=λ_=>Builtin.List.listExtendWith (.ref s.heap.objs.size) (.ref J) .none) _ _ _;refine FC (wpAny_updateSeq d rfl ?_);have H:=Heap.get?_update_self (Obj.mapSeq λ_=>(#[]:Array Value)) d rfl;have f:∀b o,s.heap.get? b=some o->((s.heap.push (Et #[] 0)).update s.heap.objs.size (Obj.mapSeq λ_=>(#[]:Array Value))).get? b=some o:=λb o z=>(Heap.get?_update_other _ _ (Yc (FK z))).trans (D1 _ z);refine FC (wpAny_letGo ?_);refine Eu (A:=A.in1) (s:={s with heap:=_}) D (q.at λo z=>f _ o z) (r.at λo z=>f _ o z) y (Yc I) (Yc B) H hz λn a c m g C=>⟨rfl,?_⟩;rw[Moved.eq_with m];refine G n.heap n.toks a c (λb o x z=>m.heap b o (λp=>?_) (f b o z)) g C;simp only[Fm,Y3,or_false]at p;rcases p with e|e
 .exact Nw _ (e▸FK z)
 .exact x e
end
theorem sS{h:Heap}{a:Addr}{o b:Obj}(n:a≠h.objs.size)(e:(h.push o).get? a=some b):h.get? a=some b:=by obtain⟨d,c⟩:=Heap.get?_some_iff.mp e;refine Heap.get?_some_iff.mpr ⟨?_,c⟩;cases h;simpa[Heap.push,Array.getElem?_push,n]using d
noncomputable def Oh(K:Frag)(ta:TA):TE:=λd H Q=>ta d H λe b=>∃a c,e=[.ref a]/\dU K b a c/\∀l,b l=none->Q (.ref l) (upd b l (.lst c.reverse))
theorem Ew{X:Cx}{a:Expr}{ta:TA}{p p2 pos k:Pos}(Z:X.calm=true)(Y:Gl X "list")(T:X.mg "list"=none)(Oi:Gl X "reversed")(w:X.mg "reversed"=none)(ha:PA X [a] ta)(R:starEach [a] X.env=[(false,eval a X.env)]:=by rfl):
 PE X (.Call (.Name "list" p) [.Call (.Name "reversed" p2) [a] [] k] [] pos) (Oh X.K ta):=by
 intro n s y H Q I h;refine X5 (dD I Y T (by rfl) ?_ (by decide) (by decide));refine L9 ?_ rfl rfl;show wpAny _ _ (spliced ((false,eval (.Call (.Name "reversed" p2) [a] [] k) X.env)::backTo pos (starEach [] X.env))) _ _ s;refine Calls.spliced_cons ?_;refine Call_ (dD I Oi w (by rfl) (L9 (aZ (ha k n s y H _ I h) λus m ⟨vs,x,I1,L,M⟩=>?_) R rfl));obtain⟨l,r,e,S,q⟩:=M;subst e;obtain⟨u,rfl,G⟩:=Vals.one L;cases(show u=Value.ref l from G);obtain⟨d,rv,t,hz⟩:=I1.list S;have C:=rv.length;obtain⟨ol,VJ,_⟩:=id t.isList;refine call_reversed_list t.isList (Calls.spliced_nil ?_);have O:=FK VJ;have E:Inv X n y x {m with heap:=m.heap.push (revObj l ((d.toArray.size:Int) -1))}:=I1.kept (t':=m.toks) λb o z=>D1 _ z;have f:=I1.lF (H':=x) (BM _) (I1.hok.fresh (BM _));obtain⟨f0,f1,f2,f3,f4,f5⟩:=f;refine nX (vs:=d.toArray) (I1.ok.hd Z) (t.isList.at λo z=>D1 _ z) ⟨_,GE _ rfl,rfl,rfl⟩ (Ha O) (by simp only[Ee]<;>lia) λh' A j c P g v=>?_;have ac:j.toList.toArray=j:=rfl;have J:Vals r.reverse j.toList:=by
  have e:j.toList=d.reverse:=by
   refine T1 λi=>?_;by_cases U:i<d.length
   .have h1:=v.2 i;have B:i<j.toList.length:=by have:=v.1;simp at this⊢;lia
    rw[B1 B];have h2:=h1 _ (by rw[<-Ua];exact B1 B);rw[Yj U];simpa using h2.symm
   .rw[FM (by have:=v.1;simp at this⊢;lia),FM (by rw[SL];lia)]
  rw[e];exact Vals.reverse rv
 have J1:=E.laid (a:=(m.heap.push (revObj l ((d.toArray.size:Int) -1))).objs.size) (o:=.lst r.reverse) (h':=(m.heap.push (revObj l ((d.toArray.size:Int) -1))).push (Et j c)) (t':=A) (λb o z=>D1 _ z) (BM _) ⟨by rw[SL];exact hz,j.toList,c,J,GE _ rfl⟩;have VM:upd x (m.heap.push (revObj l ((d.toArray.size:Int) -1))).objs.size (.lst r.reverse) m.heap.objs.size=none:=by rw[aA (Ha (by simp[Heap.push]))];exact f0
 have J2:=J1.turned (t':=A) (h':=h') (λb o N z=>?_) VM f1 f3 f4 f5
 .exact⟨.ref _,_,J2,rfl,q _ (E.hok.fresh (BM _))⟩
 .by_cases D:b=(m.heap.push (revObj l ((d.toArray.size:Int) -1))).objs.size
  .subst D;have e:=GE (m.heap.push (revObj l ((d.toArray.size:Int) -1))) (o:=Et j c) rfl;have e2:=e.symm.trans z;cases e2;exact g
  .refine P b o N ?_;exact sS D z
theorem yV(a:List Value):slicePick a.toArray none none (some (-1))=a.reverse.toArray:=by
 have e:sliceBounds none none (some (-1)) a.toArray.size=((a.length:Int) -1,-1,-1):=rfl;unfold slicePick;rw[e];congr 1;have f:sliceRange ((a.length:Int) -1) (-1) (-1)=(BB a.length).map (a.length -1 -·):=by
  unfold sliceRange;rw[Bn (by decide)];have m:(if(a.length:Int) -1> -1 then((a.length:Int) -1 - -1 - -1 -1)/(- -1)else 0)=(a.length:Int):=by
   split
   .rw[show(- -1:Int)=1 by decide,Int.ediv_one];lia
   .lia
  rw[m];dsimp only;rw[Fc];exact QR λk b=>by have:=Ki.mp b;lia
 rw[f];refine T1 λi=>?_;have g:∀l:List Nat,(∀k∈l,k<a.length)->l.filterMap (a.toArray[·]?)=l.map (a.getD · .none):=λl=>by
  induction l with
  |nil=>intro _;rfl
  |cons k l d=>
   intro h;have b:=h k DL;have:a.toArray[k]?=some (a.getD k .none):=by rw[List.getElem?_toArray,AC,B1 b];rfl
   rw[List.filterMap_cons_some this,Kk,d λj c=>h j (D2 _ c)]
 rw[g _ λk b=>by obtain⟨j,c,rfl⟩:=IR.mp b;have:=Ki.mp c;lia];rw[XZ,Dx];by_cases h:i<a.length
 .rw[Oy h,Yj h,MI];show some (a.getD (a.length -1 -i) .none)=_;rw[AC,B1 (show a.length -1 -i<a.length by lia)];rfl
 .rw[FM (by rw[HI];lia),FM (by rw[SL];lia)];rfl
noncomputable def Sm(K:Frag)(te:TE)(e:TO):TE:=λc H Q=>te c H λx f=>e c f λo b=>o=some (-1)/\∃a d,x=.ref a/\dU K b a d/\∀p,b p=none->Q (.ref p) (upd b p (.lst d.reverse))
theorem JT{X:Cx}{e:Expr}{te:TE}{st:Expr}{j:TO}{pos p2:Pos}(E:PE X e te)(D:PO X (some st) j):PE X (.Subscript e (.Slice none none (some st) p2) pos) (Sm X.K te j):=by intro c s f H Q I h;refine Subscript_ (aZ (E c s f H _ I h) λv n ⟨x,L,I1,p,t⟩=>?_);refine wpAny_Slice ?_;rw[evalPart_none];refine Kb ?_;refine Kb ?_;refine aZ (D c n f L _ I1 t) λi d z=>?_;obtain⟨o,J,G,u,rfl,a,m,rfl,C,q⟩:=z;cases p;have g:Inv X c f J {d with heap:=d.heap.push {cls:=.type "slice",data:=.fields #[.none,.none,i]}}:=G.kept (t':=d.toks) λb y q=>D1 _ q;obtain⟨B,r,k,hz⟩:=g.list C;have l:=r.length;show wpAny (model X.prog X.w) X.A (subscriptTail e (.Slice none none (some st) p2) (.ref a) (.ref d.heap.objs.size)) (EP X c f Q) X.xe {d with heap:=d.heap.push {cls:=.type "slice",data:=.fields #[.none,.none,i]}};refine tail_any (ops:=[.ref a,.ref d.heap.objs.size]) k.isList.typeIs slot_list_getitem.lookup ?_ (by with_unfolding_all rfl);refine wpAny_getItem_list_slice k.isList (Heap.IsSliceOf.new ..) .none .none u (by decide) ?_ (by rw[Ee]<;>omega);rw[yV];refine⟨.ref _,_,g.laid (o:=.lst m.reverse) (λb y q=>D1 _ q) (BM _) ?_,rfl,q _ (g.hok.fresh (BM _))⟩;exact⟨by rw[SL];exact hz,_,0,r.reverse,GE _ rfl⟩
theorem yW{X:Cx}(C:X.calm=true):bN X (.builtin "min") (λa H Q=>∃(p:Addr)(ns:List Int),a=[.ref p]/\dU X.K H p (ns.map V.int)/\ns≠[]/\∀m∈ns,(∀n∈ns,m<=n)->Q (.int m) H):=by
 intro f s J H a L Q I r h;obtain⟨p,ns,rfl,D,w,q⟩:=h;obtain⟨u,rfl,l⟩:=Vals.one r;cases(show u=Value.ref p from l);obtain⟨d,rv,o,_⟩:=I.list D;have i:=intsAre_of rv;obtain⟨a,g⟩:=i.allInts.items;have e:s.heap.IsList p (intItems a):=g▸o.isList;have k:ns=a.toList.map (·.1):=by rw[<-nums_intItems,<-g];exact(show numsOf d.toArray.toList=ns from i.numsOf).symm
 have A:ns.length=a.size:=by rw[k,Ap,JJ]
 have y:0<a.size:=by rw[<-A];exact Hm.mpr w
 refine min_intList (I.ok.hd C) e y λv N M x B=>?_;obtain⟨t,rfl⟩:=intItems_at x;obtain⟨O,G⟩:=argBest_lt (numAt a) (a.size -1);have c:∀j,j<ns.length->numAt a j=ns.getD j 0:=λj _=>by rw[numAt_eq,<-k]
 have E:∀j,j<ns.length->ns.getD j 0∈ns:=λj b=>by rw[AC,B1 b];exact Os b
 refine⟨.int _,H,I.kept B,⟨_,rfl⟩,q _ ?_ λn z=>?_⟩
 .rw[c _ (by lia)];exact E _ (by lia)
 .obtain⟨j,b,rfl⟩:=SU z;have:=G j (by lia);rw[c j b,AC,B1 b]at this;exact this
theorem yX{X:Cx}(C:X.calm=true):bN X (.builtin "max") (λa H Q=>∃(p:Addr)(ns:List Int),a=[.ref p]/\dU X.K H p (ns.map V.int)/\ns≠[]/\∀m∈ns,(∀n∈ns,n<=m)->Q (.int m) H):=by
 intro f s J H a L Q I r h;obtain⟨p,ns,rfl,D,w,q⟩:=h;obtain⟨u,rfl,l⟩:=Vals.one r;cases(show u=Value.ref p from l);obtain⟨d,rv,o,_⟩:=I.list D;have i:=intsAre_of rv;obtain⟨a,g⟩:=i.allInts.items;have e:s.heap.IsList p (intItems a):=g▸o.isList;have k:ns=a.toList.map (·.1):=by rw[<-nums_intItems,<-g];exact(show numsOf d.toArray.toList=ns from i.numsOf).symm
 have A:ns.length=a.size:=by rw[k,Ap,JJ]
 have y:0<a.size:=by rw[<-A];exact Hm.mpr w
 refine max_intList (I.ok.hd C) e y λv N M x B=>?_;obtain⟨t,rfl⟩:=intItems_at x;obtain⟨O,G⟩:=argBest_gt (numAt a) (a.size -1);have c:∀j,j<ns.length->numAt a j=ns.getD j 0:=λj _=>by rw[numAt_eq,<-k]
 have E:∀j,j<ns.length->ns.getD j 0∈ns:=λj b=>by rw[AC,B1 b];exact Os b
 refine⟨.int _,H,I.kept B,⟨_,rfl⟩,q _ ?_ λn z=>?_⟩
 .rw[c _ (by lia)];exact E _ (by lia)
 .obtain⟨j,b,rfl⟩:=SU z;have:=G j (by lia);rw[c j b,AC,B1 b]at this;exact this
end L2
namespace L2
open PySem
variable{r:List Expr}{env:Env}{pos:Pos}
inductive JU:List Expr->List (Int×Int)->Prop where
 |nil:JU [] []
 |cons {a b:Int} {j1 j2 k:Nat} {p1 p2 pos:Pos} {es:List Expr} {qs:List (Int×Int)} (h:JU es qs):JU (.Tuple [.Constant (.int a) j1 p1,.Constant (.int b) j2 p2] k pos::es) ((a,b)::qs)
end L2
namespace L2
open PySem PySem.Spec PyProof.Rows
section
variable{X:Cx}{H:Hp}
end
mutual
noncomputable def aE:PyData->Bool
 |.int _=>true
 |.list a=>dG a
 |.tuple a=>dG a
 |.none=>false
 |.bool _=>false
 |.str _=>false
 |.dict _=>false
noncomputable def dG:List PyData->Bool
 |[]=>true
 |x::a=>aE x&&dG a
end
mutual
theorem Bl:∀d:PyData,aE d=true->d.canLay0=true
 |.int _,_=>by simp[PyData.canLay0]
 |.list a,h=>by rw[aE]at h;rw[PyData.canLay0];exact jz a h
 |.tuple a,h=>by rw[aE]at h;rw[PyData.canLay0];exact jz a h
 |.none,h=>by simp[aE]at h
 |.bool _,h=>by simp[aE]at h
 |.str _,h=>by simp[aE]at h
 |.dict _,h=>by simp[aE]at h
theorem jz:∀a:List PyData,dG a=true->PyData.canLayAll0 a=true
 |[],_=>by simp[PyData.canLayAll0]
 |x::a,h=>by rw[dG,AN]at h;rw[PyData.canLayAll0,Bl x h.1,jz a h.2];rfl
end
mutual
theorem Bm:∀d e:PyData,aE d=true->aE e=true->SeqAt.noMix d e=true
 |.int _,.int _,_,_=>by simp[SeqAt.noMix]
 |.int _,.list _,_,_=>by simp[SeqAt.noMix]
 |.int _,.tuple _,_,_=>by simp[SeqAt.noMix]
 |.list _,.int _,_,_=>by simp[SeqAt.noMix]
 |.list _,.tuple _,_,_=>by simp[SeqAt.noMix]
 |.tuple _,.int _,_,_=>by simp[SeqAt.noMix]
 |.tuple _,.list _,_,_=>by simp[SeqAt.noMix]
 |.list c,.list b,h,a=>by rw[aE]at h a;rw[SeqAt.noMix];exact jA c b h a
 |.tuple c,.tuple b,h,a=>by rw[aE]at h a;rw[SeqAt.noMix];exact jA c b h a
 |.none,_,h,_=>by simp[aE]at h
 |.bool _,_,h,_=>by simp[aE]at h
 |.str _,_,h,_=>by simp[aE]at h
 |.dict _,_,h,_=>by simp[aE]at h
 |.int _,.none,_,h=>by simp[aE]at h
 |.int _,.bool _,_,h=>by simp[aE]at h
 |.int _,.str _,_,h=>by simp[aE]at h
 |.int _,.dict _,_,h=>by simp[aE]at h
 |.list _,.none,_,h=>by simp[aE]at h
 |.list _,.bool _,_,h=>by simp[aE]at h
 |.list _,.str _,_,h=>by simp[aE]at h
 |.list _,.dict _,_,h=>by simp[aE]at h
 |.tuple _,.none,_,h=>by simp[aE]at h
 |.tuple _,.bool _,_,h=>by simp[aE]at h
 |.tuple _,.str _,_,h=>by simp[aE]at h
 |.tuple _,.dict _,_,h=>by simp[aE]at h
theorem jA:∀b a:List PyData,dG b=true->dG a=true->SeqAt.noMixAll b a=true
 |[],[],_,_=>by simp[SeqAt.noMixAll]
 |[],_::_,_,_=>by simp[SeqAt.noMixAll]
 |_::_,[],_,_=>by simp[SeqAt.noMixAll]
 |x::b,y::a,h,c=>by rw[dG,AN]at h c;rw[SeqAt.noMixAll,Bm x y h.1 c.1,jA b a h.2 c.2];rfl
end
mutual
theorem yY:∀d e:PyData,aE d=true->aE e=true->(same d e=true↔d=e)
 |.int a,.int b,_,_=>by simp[same]
 |.int _,.list _,_,_=>by simp[same]
 |.int _,.tuple _,_,_=>by simp[same]
 |.list _,.int _,_,_=>by simp[same]
 |.list _,.tuple _,_,_=>by simp[same]
 |.tuple _,.int _,_,_=>by simp[same]
 |.tuple _,.list _,_,_=>by simp[same]
 |.list g,.list f,h,c=>by rw[aE]at h c;rw[same,g7 g f h c,PyData.list.injEq]
 |.tuple g,.tuple f,h,c=>by rw[aE]at h c;rw[same,g7 g f h c,PyData.tuple.injEq]
 |.none,_,h,_=>by simp[aE]at h
 |.bool _,_,h,_=>by simp[aE]at h
 |.str _,_,h,_=>by simp[aE]at h
 |.dict _,_,h,_=>by simp[aE]at h
 |.int _,.none,_,h=>by simp[aE]at h
 |.int _,.bool _,_,h=>by simp[aE]at h
 |.int _,.str _,_,h=>by simp[aE]at h
 |.int _,.dict _,_,h=>by simp[aE]at h
 |.list _,.none,_,h=>by simp[aE]at h
 |.list _,.bool _,_,h=>by simp[aE]at h
 |.list _,.str _,_,h=>by simp[aE]at h
 |.list _,.dict _,_,h=>by simp[aE]at h
 |.tuple _,.none,_,h=>by simp[aE]at h
 |.tuple _,.bool _,_,h=>by simp[aE]at h
 |.tuple _,.str _,_,h=>by simp[aE]at h
 |.tuple _,.dict _,_,h=>by simp[aE]at h
theorem g7:∀b a:List PyData,dG b=true->dG a=true->(sameAll b a=true↔b=a)
 |[],[],_,_=>by simp[sameAll]
 |[],_::_,_,_=>by simp[sameAll]
 |_::_,[],_,_=>by simp[sameAll]
 |x::b,y::a,h,c=>by rw[dG,AN]at h c;rw[sameAll,AN,yY x y h.1 c.1,g7 b a h.2 c.2,ZG]
end
section
variable{X:Cx}
end
theorem sU{a:List PyData}{n:Nat}(h:∀x∈a,x.depth<=n):PyData.depthAll a<=n:=by
 induction a with
 |nil=>simp[PyData.depthAll]
 |cons x a b=>rw[PyData.depthAll];have:=h x (DL ..);have:=b λy c=>h y (D2 _ c);lia
theorem uV(d:List Bool):((BB d.length).any λi=>(d[i]?).getD false)=d.any id:=by
 rw[XR,Wi,Wi];constructor
 .rintro⟨i,c,h⟩;have a:=Ki.mp c;simp only[B1 a,MN]at h;exact⟨_,Os a,h⟩
 .rintro⟨b,e,h⟩;obtain⟨i,c,rfl⟩:=SU e;refine⟨i,Ki.mpr c,?_⟩;simp only[B1 c,MN];exact h
section
variable{X:Cx}
theorem yZ(y:X.calm=true):bN X (.builtin "any") (λj H Q=>∃(p:Addr)(c:List Bool),j=[.ref p]/\dU X.K H p (c.map V.bl)/\Q (.bl (c.any id)) H):=by
 intro k s E H j G Q I r h;obtain⟨p,c,rfl,B,q⟩:=h;obtain⟨u,rfl,n⟩:=Vals.one r;cases(show u=Value.ref p from n);obtain⟨a,rv,t,_⟩:=I.list B;have l:=oX rv;have g:=t.isList;have f:p<s.heap.objs.size:=by obtain⟨_,e,_⟩:=g;exact FK e
 refine call_any_walk (Yh g ?_);refine⟨s.heap.objs.size,[s.heap.objs.size,p],[s.heap.objs.size],a.toArray.size,_,_,λi=>(c[i]?).getD false,rfl,Walks.list (A:=X.A.in1) (I.ok.hd y) _ p (Ha f) a.toArray,
  ⟨⟨_,GE _ rfl,rfl,rfl⟩,g.push _⟩,λi v L N O C m=>?_,λM J x=>?_⟩
 .have d:a[i]?=some v:=by simpa using C
  rw[l,Dx]at d;cases e:c[i]? with
  |none=>rw[e]at d;cases d
  |some b=>rw[e]at d;simp only[e,MN]at m;have:v=Value.bool b:=(He d).symm;subst this;exact Pl m
 .have e:((BB a.toArray.size).any λi=>(c[i]?).getD false)=c.any id:=by
   have D:a.toArray.size=c.length:=by rw[Ee,l,Ap]
   rw[D];exact uV c
  rw[e];exact⟨.bl _,H,I.kept λb o z=>x b o (λw=>by rw[Da.mp w]at z;exact Nw _ (FK z)) (D1 _ z),rfl,q⟩
end
end L2
set_option genSizeOf false
set_option genInjectivity false
namespace VL
open PySem PySem.Spec PyProof.Rows L2
theorem ff{C:Prop}(h:false=true):C:=Bool.noConfusion h
theorem nn{α:Type}{a:α}{C:Prop}(h:none=some a):C:=Option.noConfusion rfl (heq_of_eq h)
inductive W where
 |aM|bl (b:Bool)|int (i:Int)|str (x:Str)|ty (n:String)|cls (C:Addr)|err (C:Addr)
 |tup (l:List W)|lst (l:List W)|dct (ks vs:List W)|obj (C:Addr) (fs:List Str) (vs:List W)|fW (ns:List Int)
theorem W.HC{a b:Int}(h:W.int a=.int b):a=b:=by cases h;rfl
theorem W.Bo{a b:List W}(h:W.lst a=.lst b):a=b:=by cases h;rfl
noncomputable def y9:HO->Bool
 |.lst _|.ins _ _ _|.dK _|.dT _|.set _ _=>true
 |_=>false
noncomputable def Oj:Key->W
 |.inl i=>.int i
 |.inr x=>.str x
noncomputable def Ex(K:Frag)(C:Addr)(a:List Str):Prop:=ML K C/\a.length<1000/\a.Nodup/\∀x∈a,uE K C x
noncomputable def Rz(H:Hp)(a:Addr)(u:HO):Prop:=H a=some u\/False
theorem Rz.rd{H:Hp}{a:Addr}{u:HO}(h:Rz H a u):Rd H a u:=h.elim .inl IM
theorem Rz.at{H:Hp}{a:Addr}{u:HO}(h:Rz H a u):H a=some u:=h.elim id IM
mutual
noncomputable def Rep(K:Frag)(A:Addr->Prop)(H:Hp):W->V->Prop
 |.aM,v=>v=.aM
 |.bl b,v=>v=.bl b
 |.int i,v=>v=.int i
 |.str x,v=>v=.str x
 |.ty n,v=>v=.ty n
 |.cls C,v=>v=.ref C
 |.err C,v=>∃a,v=.ref a/\H a=some (R4 a C)/\¬A a
 |.tup l,v=>∃p vs,v=.ref p/\H p=some (.tup vs)/\ai K A H l vs
 |.lst l,v=>∃p vs,v=.ref p/\¬A p/\Rz H p (.lst vs)/\ai K A H l vs
 |.dct f d,v=>∃p c,v=.ref p/\¬A p/\H p=some (.dK c)/\f=c.map (λx=>Oj x.1)/\ai K A H d (c.map (·.2))
 |.obj C e d,v=>∃p g vs,v=.ref p/\¬A p/\H p=some (.ins C g (e.zip vs))/\vs.length=e.length/\Ex K C e/\ai K A H d vs
 |.fW ns,v=>∃p,v=.ref p/\((∃o,H p=some (.ug o (.lst (ns.map V.int))))\/dU K (λ_=>none) p (ns.map V.int))
noncomputable def ai(K:Frag)(A:Addr->Prop)(H:Hp):List W->List V->Prop
 |[],vs=>vs=[]
 |w::a,vs=>∃v r,vs=v::r/\Rep K A H w v/\ai K A H a r
end
section
variable{K:Frag}{A B:Addr->Prop}{H H':Hp}
theorem ao.rz{p:Addr}{u:HO}(s:ao H H')(h:Rz H p u):Rz H' p u:=.inl (s _ _ h.at)
theorem ao.rd{p:Addr}{u:HO}(s:ao H H')(h:Rd H p u):Rd H' p u:=by
 rcases h with h|⟨o,h⟩
 .exact .inl (s _ _ h)
 .exact .inr ⟨o,s _ _ h⟩
noncomputable def um(B:Addr->Prop)(H H':Hp):Prop:=∀p o,H p=some o->(y9 o=true/\B p)\/H' p=some o
theorem um.un{p:Addr}{o:HO}(h:um A H H')(e:H p=some o)(n:y9 o=true->¬A p):H' p=some o:=by
 rcases h p o e with⟨z,y⟩|z
 .exact(n z y).elim
 .exact z
mutual
theorem Rep.chg(h:um A H H')(d:∀p o,H p=some o->B p->A p):∀(w:W){v:V},Rep K A H w v->Rep K B H' w v
 |.aM,_,r=>by dsimp only[Rep]at r⊢;exact r
 |.bl _,_,r=>by dsimp only[Rep]at r⊢;exact r
 |.int _,_,r=>by dsimp only[Rep]at r⊢;exact r
 |.str _,_,r=>by dsimp only[Rep]at r⊢;exact r
 |.ty _,_,r=>by dsimp only[Rep]at r⊢;exact r
 |.cls _,_,r=>by dsimp only[Rep]at r⊢;exact r
 |.err C,v,r=>by obtain⟨a,e,b,c⟩:=r;exact⟨a,e,h.un b (λz=>by cases z),λz=>c (d a _ b z)⟩
 |.tup l,v,r=>by obtain⟨p,f,e,b,c⟩:=r;exact⟨p,f,e,h.un b (λz=>by cases z),ai.chg h d l c⟩
 |.lst l,v,r=>by
  dsimp only[Rep]at r⊢;obtain⟨p,f,e,n,b,c⟩:=r;refine⟨p,f,e,λz=>?_,?_,ai.chg h d l c⟩
  .exact n (d p _ b.at z)
  .exact .inl (h.un b.at λ_=>n)
 |.dct s g,v,r=>by obtain⟨p,i,e,n,b,c,j⟩:=r;exact⟨p,i,e,λz=>n (d p _ b z),h.un b λ_=>n,c,ai.chg h d g j⟩
 |.obj C t g,v,r=>by obtain⟨p,m,f,e,n,b,c,k,j⟩:=r;exact⟨p,m,f,e,λz=>n (d p _ b z),h.un b λ_=>n,c,k,ai.chg h d g j⟩
 |.fW q,v,r=>by obtain⟨p,e,b⟩:=r;exact⟨p,e,b.imp (by rintro⟨o,z⟩;exact⟨o,h.un z λz=>by cases z⟩) id⟩
theorem ai.chg(h:um A H H')(a:∀p o,H p=some o->B p->A p):∀(l:List W){vs:List V},ai K A H l vs->ai K B H' l vs
 |[],_,r=>by dsimp only[ai]at r⊢;exact r
 |w::l,vs,r=>by obtain⟨v,b,e,d,c⟩:=r;exact⟨v,b,e,Rep.chg h a w d,ai.chg h a l c⟩
end
theorem um.same(s:ao H H'):um A H H':=λ_ _ e=>.inr (s _ _ e)
theorem um.put{p:Addr}{a o:HO}(b:H p=some a)(c:y9 a=true)(d:A p):um A H (upd H p o):=λq u e=>by
 by_cases n:q=p
 .subst n;rw[b]at e;cases e;exact .inl ⟨c,d⟩
 .exact .inr (by rw[aA n];exact e)
theorem Rep.mv(s:ao H H')(a:∀p o,H p=some o->B p->A p)(w:W){v:V}(h:Rep K A H w v):Rep K B H' w v:=Rep.chg (.same s) a w h
theorem ai.mv(s:ao H H')(a:∀p o,H p=some o->B p->A p)(l:List W){vs:List V}(h:ai K A H l vs):ai K B H' l vs:=ai.chg (.same s) a l h
theorem Rep.same{w:W}{v:V}(s:ao H H')(h:Rep K A H w v):Rep K A H' w v:=Rep.mv s (λ_ _ _ z=>z) w h
theorem ai.same{l:List W}{vs:List V}(s:ao H H')(h:ai K A H l vs):ai K A H' l vs:=ai.mv s (λ_ _ _ z=>z) l h
theorem Rep.less{w:W}{v:V}(a:∀p,B p->A p)(h:Rep K A H w v):Rep K B H w v:=Rep.mv (ao.refl H) (λp _ _ z=>a p z) w h
theorem ai.less{l:List W}{vs:List V}(a:∀p,B p->A p)(h:ai K A H l vs):ai K B H l vs:=ai.mv (ao.refl H) (λp _ _ z=>a p z) l h
theorem ai.put{p:Addr}{a:List V}{o:HO}(b:H p=some (.lst a))(c:A p)(l:List W){vs:List V}(h:ai K A H l vs):ai K A (upd H p o) l vs:=ai.chg (.put b rfl c) (λ_ _ _ z=>z) l h
theorem ai.nil:ai K A H [] []:=by dsimp only[ai]
theorem ai.cons{w:W}{v:V}{l:List W}{vs:List V}(b:Rep K A H w v)(a:ai K A H l vs):ai K A H (w::l) (v::vs):=by dsimp only[ai];exact⟨v,vs,rfl,b,a⟩
theorem ai.nil_inv{vs:List V}(h:ai K A H [] vs):vs=[]:=by dsimp only[ai]at h;exact h
theorem ai.cons_inv{w:W}{l:List W}{vs:List V}(h:ai K A H (w::l) vs):∃v r,vs=v::r/\Rep K A H w v/\ai K A H l r:=by dsimp only[ai]at h;exact h
theorem ai.len:∀{l:List W}{vs:List V},ai K A H l vs->vs.length=l.length
 |[],vs,h=>by rw[h.nil_inv];rfl
 |w::l,vs,h=>by obtain⟨v,r,rfl,_,a⟩:=h.cons_inv;rw[D8,D8,a.len]
theorem ai.app:∀{l m:List W}{vs a:List V},ai K A H l vs->ai K A H m a->ai K A H (l++m) (vs++a)
 |[],m,vs,a,h,k=>by rw[h.nil_inv];exact k
 |w::l,m,vs,a,h,k=>by obtain⟨v,r,rfl,c,b⟩:=h.cons_inv;exact .cons c (b.app k)
theorem ai.get:∀{l:List W}{vs:List V}{i:Nat}{w:W},ai K A H l vs->l[i]?=some w->∃v,vs[i]?=some v/\Rep K A H w v
 |[],_,_,_,_,e=>by simp at e
 |x::l,vs,0,w,h,e=>by obtain⟨v,r,rfl,b,a⟩:=h.cons_inv;simp at e;subst e;exact⟨v,rfl,b⟩
 |x::l,vs,i+1,w,h,e=>by obtain⟨v,r,rfl,b,a⟩:=h.cons_inv;obtain⟨u,d,c⟩:=a.get (i:=i) (by simpa using e);exact⟨u,by simpa using d,c⟩
theorem ai.set:∀{l:List W}{vs:List V}{i:Nat}{w:W}{v:V},ai K A H l vs->Rep K A H w v->ai K A H (l.set i w) (vs.set i v)
 |[],_,_,_,_,h,_=>by rw[h.nil_inv];exact .nil
 |x::l,vs,0,w,v,h,e=>by obtain⟨c,r,rfl,b,a⟩:=h.cons_inv;exact .cons e a
 |x::l,vs,i+1,w,v,h,e=>by obtain⟨c,r,rfl,b,a⟩:=h.cons_inv;exact .cons b (a.set e)
theorem ai.take:∀{l:List W}{vs:List V}(n:Nat),ai K A H l vs->ai K A H (l.take n) (vs.take n)
 |_,_,0,_=>.nil
 |[],vs,n+1,h=>by rw[h.nil_inv];exact .nil
 |x::l,vs,n+1,h=>by obtain⟨c,r,rfl,b,a⟩:=h.cons_inv;exact .cons b (a.take n)
theorem ai.drop:∀{l:List W}{vs:List V}(n:Nat),ai K A H l vs->ai K A H (l.drop n) (vs.drop n)
 |_,_,0,h=>h
 |[],vs,n+1,h=>by rw[h.nil_inv];exact .nil
 |x::l,vs,n+1,h=>by obtain⟨b,r,rfl,c,a⟩:=h.cons_inv;exact a.drop n
theorem ai.dropLast{l:List W}{vs:List V}(h:ai K A H l vs):ai K A H l.dropLast vs.dropLast:=by rw[Uz,Uz,h.len];exact h.take _
theorem ai.rev:∀{l:List W}{vs:List V},ai K A H l vs->ai K A H l.reverse vs.reverse
 |[],vs,h=>by rw[h.nil_inv];exact .nil
 |x::l,vs,h=>by obtain⟨c,r,rfl,b,a⟩:=h.cons_inv;rw[X3,X3];exact a.rev.app (.cons b .nil)
theorem ai.rep{l:List W}{vs:List V}(h:ai K A H l vs):∀n:Nat,ai K A H (Aq n l).flatten (Aq n vs).flatten
 |0=>.nil
 |n+1=>by rw[JH,JH,MJ,MJ];exact h.app (h.rep n)
theorem ai.ints{ns:List Int}:∀{vs:List V},ai K A H (ns.map W.int) vs->vs=ns.map V.int:=by
 induction ns with
 |nil=>intro vs h;exact h.nil_inv
 |cons n ns b=>intro vs h;obtain⟨v,r,rfl,a,c⟩:=h.cons_inv;dsimp only[Rep]at a;rw[a,b c];rfl
theorem ai.Ey(ns:List Int):ai K A H (ns.map W.int) (ns.map V.int):=by
 induction ns with
 |nil=>exact .nil
 |cons n ns a=>exact .cons (by dsimp only[Rep]) a
theorem ai.Uh{a:List Bool}:∀{vs:List V},ai K A H (a.map W.bl) vs->vs=a.map V.bl:=by
 induction a with
 |nil=>intro vs h;exact h.nil_inv
 |cons n e c=>intro vs h;obtain⟨v,r,rfl,b,d⟩:=h.cons_inv;dsimp only[Rep]at b;rw[b,c d];rfl
end
end VL
set_option genSizeOf false
set_option genInjectivity false
namespace VL
open PySem PySem.Spec
open PyProof.Rows hiding St
open L2
inductive Md where
 |s|f|t (ms:List Md)|o (fs:List Str) (ms:List Md)
 |io (m:Md)
 |ls (m:Md)
 |d
noncomputable def c8(P:W->V->List Addr->Prop):List W->List V->List Addr->Prop
 |[],vs,F=>vs=[]/\F=[]
 |w::d,vs,F=>∃v a c b,vs=v::a/\F=c++b/\P w v c/\c8 P d a b
mutual
noncomputable def Fp(K:Frag)(B:Addr->Prop)(H:Hp):Md->W->V->List Addr->Prop
 |.s,w,v,F=>F=[]/\Rep K B H w v
 |.f,w,v,F=>∃a p vs,w=.lst a/\v=.ref p/\F=[p]/\H p=some (.lst vs)/\ai K B H a vs
 |.t e,w,v,F=>∃a p vs,w=.tup a/\v=.ref p/\H p=some (.tup vs)/\dX K B H e a vs F
 |.o c e,w,v,F=>∃C h a p vs F',w=.obj C c a/\v=.ref p/\F=p::F'/\H p=some (.ins C h (c.zip vs))/\vs.length=c.length/\Ex K C c/\dX K B H e a vs F'
 |.io _,_,_,_=>False
 |.d,w,v,F=>∃g a p b,w=.dct g a/\v=.ref p/\F=[p]/\H p=some (.dK b)/\g=b.map (λx=>Oj x.1)/\ai K B H a (b.map (·.2))
 |.ls m,w,v,F=>∃a p vs F',w=.lst a/\v=.ref p/\F=p::F'/\H p=some (.lst vs)/\c8 (Fp K B H m) a vs F'
noncomputable def dX(K:Frag)(B:Addr->Prop)(H:Hp):List Md->List W->List V->List Addr->Prop
 |[],b,vs,F=>b=[]/\vs=[]/\F=[]
 |m::f,b,vs,F=>∃w c v a e d,b=w::c/\vs=v::a/\F=e++d/\Fp K B H m w v e/\dX K B H f c a d
end
theorem c8.mono{P Q:W->V->List Addr->Prop}:∀{a:List W}{vs:List V}{F:List Addr},(∀w v F',(∀p∈F',p∈F)->P w v F'->Q w v F')->c8 P a vs F->c8 Q a vs F
 |[],_,_,_,h=>h
 |w::a,vs,F,k,⟨v,b,e,j,i,d,g,f⟩=>⟨v,b,e,j,i,d,k w v e (λp c=>by rw[d];exact P3 _ c) g,c8.mono (λw v F' h=>k w v F' λp c=>by rw[d];exact Fs _ (h p c)) f⟩
theorem c8.len{P:W->V->List Addr->Prop}:∀{a:List W}{vs:List V}{F:List Addr},c8 P a vs F->vs.length=a.length
 |[],_,_,h=>by rw[h.1];rfl
 |w::a,vs,F,⟨v,b,i,g,d,f,e,c⟩=>by rw[d,D8,D8,c8.len c]
theorem c8.app{P:W->V->List Addr->Prop}:∀{c b:List W}{vs a:List V}{F G:List Addr},c8 P c vs F->c8 P b a G->c8 P (c++b) (vs++a) (F++G)
 |[],b,vs,a,F,G,⟨f,e⟩,k=>by rw[f,e];exact k
 |w::c,b,vs,a,F,G,⟨v,d,j,i,f,e,h,g⟩,k=>⟨v,d++a,j,i++G,by rw[f];rfl,by rw[e,YN],h,c8.app g k⟩
noncomputable def l5(B G:Addr->Prop)(H H':Hp):Prop:=∀p o,H p=some o->(y9 o=true/\B p/\¬G p)\/H' p=some o
section
variable{K:Frag}{A B G:Addr->Prop}{H H':Hp}
theorem l5.c(h:l5 A G H H'):um A H H':=λp o e=>(h p o e).imp (λz=>⟨z.1,z.2.1⟩) id
theorem l5.un{p:Addr}{o:HO}(h:l5 A G H H')(e:H p=some o)(g:y9 o=true->G p):H' p=some o:=by
 rcases h p o e with⟨z,_,y⟩|z
 .exact(y (g z)).elim
 .exact z
mutual
theorem Fp.chg(h:l5 A G H H')(l:∀p o,H p=some o->B p->A p):∀(m:Md){w:W}{v:V}{F:List Addr},(∀p∈F,G p)->Fp K A H m w v F->Fp K B H' m w v F
 |.s,w,v,F,a,r=>by dsimp only[Fp]at r⊢;exact⟨r.1,Rep.chg h.c l w r.2⟩
 |.f,w,v,F,a,r=>by obtain⟨e,p,vs,k,j,b,i,g⟩:=r;exact⟨e,p,vs,k,j,b,h.un i (λ_=>a p (by rw[b];exact DL)),ai.chg h.c l e g⟩
 |.t n,w,v,F,a,r=>by obtain⟨e,p,vs,k,j,i,g⟩:=r;exact⟨e,p,vs,k,j,h.un i (λz=>by cases z),dX.chg h l n a g⟩
 |.o N n,w,v,F,a,r=>by obtain⟨C,M,e,p,vs,y,k,j,b,i,g,I,L⟩:=r;exact⟨C,M,e,p,vs,y,k,j,b,h.un i (λ_=>a p (by rw[b];exact DL)),g,I,dX.chg h l n (λq x=>a q (by rw[b];exact D2 _ x)) L⟩
 |.io _,w,v,F,a,r=>IM r
 |.d,w,v,F,a,r=>by obtain⟨D,e,p,u,k,j,b,i,E,g⟩:=r;exact⟨D,e,p,u,k,j,b,h.un i (λ_=>a p (by rw[b];exact DL)),E,ai.chg h.c l e g⟩
 |.ls m,w,v,F,a,r=>by obtain⟨e,p,vs,y,k,j,b,i,g⟩:=r;exact⟨e,p,vs,y,k,j,b,h.un i (λ_=>a p (by rw[b];exact DL)),g.mono λw v G J z=>Fp.chg h l m (λq x=>a q (by rw[b];exact D2 _ (J q x))) z⟩
theorem dX.chg(h:l5 A G H H')(f:∀p o,H p=some o->B p->A p):∀(a:List Md){b:List W}{vs:List V}{F:List Addr},(∀p∈F,G p)->dX K A H a b vs F->dX K B H' a b vs F
 |[],_,_,_,_,r=>by dsimp only[dX]at r⊢;exact r
 |m::a,b,vs,F,g,r=>by obtain⟨w,k,v,c,s,q,n,l,e,j,i⟩:=r;exact⟨w,k,v,c,s,q,n,l,e,Fp.chg h f m (λp d=>g p (by rw[e];exact P3 _ d)) j,dX.chg h f a (λp d=>g p (by rw[e];exact Fs _ d)) i⟩
end
theorem l5.same(s:ao H H'):l5 A (λ_=>True) H H':=λ_ _ e=>.inr (s _ _ e)
theorem Fp.mv(s:ao H H')(a:∀p o,H p=some o->B p->A p)(m:Md){w:W}{v:V}{F:List Addr}(h:Fp K A H m w v F):Fp K B H' m w v F:=Fp.chg (.same s) a m (λ_ _=>trivial) h
theorem dX.mv(s:ao H H')(b:∀p o,H p=some o->B p->A p)(a:List Md){w:List W}{v:List V}{F:List Addr}(h:dX K A H a w v F):dX K B H' a w v F:=dX.chg (.same s) b a (λ_ _=>trivial) h
mutual
theorem Fp.rep(j:∀p,B p->A p):∀(m:Md){w:W}{v:V}{F:List Addr},(∀p∈F,¬B p)->Fp K A H m w v F->Rep K B H w v
 |.s,w,v,F,a,h=>by dsimp only[Fp]at h;exact h.2.less j
 |.f,w,v,F,a,h=>by obtain⟨b,p,vs,rfl,rfl,rfl,e,c⟩:=h;exact⟨p,vs,rfl,a p (Da.mpr rfl),.inl e,c.less j⟩
 |.t l,w,v,F,a,h=>by obtain⟨b,p,vs,rfl,rfl,e,c⟩:=h;exact⟨p,vs,rfl,e,dX.rep j l a c⟩
 |.o J l,w,v,F,a,h=>by obtain⟨C,D,b,p,vs,i,rfl,rfl,rfl,e,c,x,y⟩:=h;exact⟨p,D,vs,rfl,a p DL,e,c,x,dX.rep j l (λq g=>a q (D2 _ g)) y⟩
 |.io _,w,v,F,a,h=>IM h
 |.d,w,v,F,a,h=>by obtain⟨I,b,p,n,rfl,rfl,rfl,e,u,c⟩:=h;exact⟨p,n,rfl,a p (Da.mpr rfl),e,u,c.less j⟩
 |.ls m,w,v,F,a,h=>by
  obtain⟨b,p,vs,i,rfl,rfl,rfl,e,c⟩:=h;dsimp only[Rep];have z:∀(b:List W)(vs:List V)(i:List Addr),(∀q∈i,¬B q)->c8 (Fp K A H m) b vs i->ai K B H b vs:=λb=>by
   induction b with
   |nil=>rintro vs i _ ⟨rfl,_⟩;exact .nil
   |cons w b r=>rintro vs i a ⟨v,k,L,E,rfl,rfl,e,c⟩;exact .cons (Fp.rep j m (λq g=>a q (P3 _ g)) e) (r k E (λq g=>a q (Fs _ g)) c)
  exact⟨p,vs,rfl,a p DL,.inl e,z b vs i (λq g=>a q (D2 _ g)) c⟩
theorem dX.rep(e:∀p,B p->A p):∀(b:List Md){a:List W}{vs:List V}{F:List Addr},(∀p∈F,¬B p)->dX K A H b a vs F->ai K B H a vs
 |[],_,_,_,_,h=>by obtain⟨rfl,rfl,_⟩:=h;exact .nil
 |m::b,a,vs,F,d,h=>by obtain⟨w,j,v,f,l,k,rfl,rfl,rfl,i,g⟩:=h;exact .cons (Fp.rep e m (λp c=>d p (P3 _ c)) i) (dX.rep e b (λp c=>d p (Fs _ c)) g)
end
mutual
theorem Fp.mu:∀(m:Md){w:W}{v:V}{F:List Addr},Fp K A H m w v F->∀p∈F,∃o,H p=some o/\y9 o=true
 |.s,w,v,F,h,p,a=>by dsimp only[Fp]at h;rw[h.1]at a;cases a
 |.f,w,v,F,h,p,a=>by obtain⟨b,q,vs,_,_,rfl,c,_⟩:=h;rw[Da.mp a];exact⟨_,c,rfl⟩
 |.t i,w,v,F,h,p,a=>by obtain⟨b,q,vs,_,_,c,k⟩:=h;exact dX.mu i k p a
 |.o y i,w,v,F,h,p,a=>by
  obtain⟨C,z,b,q,vs,e,_,_,rfl,c,_,_,j⟩:=h;rcases Fm.mp a with rfl|a
  .exact⟨_,c,rfl⟩
  .exact dX.mu i j p a
 |.io _,w,v,F,h,p,a=>IM h
 |.d,w,v,F,h,p,a=>by obtain⟨x,b,q,l,_,_,rfl,c,_⟩:=h;rw[Da.mp a];exact⟨_,c,rfl⟩
 |.ls m,w,v,F,h,p,a=>by
  obtain⟨b,q,vs,e,_,_,rfl,c,j⟩:=h;have r:∀(b:List W)(vs:List V)(e:List Addr),c8 (Fp K A H m) b vs e->∀p∈e,∃o,H p=some o/\y9 o=true:=λb=>by
   induction b with
   |nil=>rintro vs e ⟨_,rfl⟩ p a;cases a
   |cons w b n=>
    rintro vs e ⟨v,g,D,u,rfl,rfl,c,k⟩ p a;rcases GM.mp a with a|a
    .exact Fp.mu m c p a
    .exact n g u k p a
  rcases Fm.mp a with rfl|a
  .exact⟨_,c,rfl⟩
  .exact r b vs e j p a
theorem dX.mu:∀(b:List Md){c:List W}{vs:List V}{F:List Addr},dX K A H b c vs F->∀p∈F,∃o,H p=some o/\y9 o=true
 |[],_,_,_,h,p,a=>by dsimp only[dX]at h;rw[h.2.2]at a;cases a
 |m::b,c,vs,F,h,p,a=>by
  obtain⟨w,g,v,d,j,i,_,_,rfl,f,e⟩:=h;rcases GM.mp a with a|a
  .exact Fp.mu m f p a
  .exact dX.mu b e p a
end
inductive jB where
 |ix (n:Nat)|fl (n:Nat) (x:Str)
noncomputable def bU:W->List jB->Option W
 |w,[]=>some w
 |.tup l,.ix n::π=>match l[n]? with
  |some u=>bU u π
  |none=>none
 |.lst l,.ix n::π=>match l[n]? with
  |some u=>bU u π
  |none=>none
 |.obj _ _ l,.fl n _::π=>match l[n]? with
  |some u=>bU u π
  |none=>none
 |_,_=>none
noncomputable def setAt:W->List jB->W->W
 |_,[],u=>u
 |.tup l,.ix n::π,u=>match l[n]? with
  |some x=>.tup (l.set n (setAt x π u))
  |none=>.tup l
 |.lst l,.ix n::π,u=>match l[n]? with
  |some x=>.lst (l.set n (setAt x π u))
  |none=>.lst l
 |.obj C a l,.fl n _::π,u=>match l[n]? with
  |some x=>.obj C a (l.set n (setAt x π u))
  |none=>.obj C a l
 |w,_,_=>w
noncomputable def gH:Md->List jB->Option Md
 |m,[]=>some m
 |.t a,.ix n::π=>match a[n]? with
  |some m=>gH m π
  |none=>none
 |.o b a,.fl n x::π=>if b[n]?=some x then(match a[n]? with
  |some m=>gH m π
  |none=>none)else none
 |.ls m,.ix _::π=>gH m π
 |_,_=>none
noncomputable def rO(K:Frag)(H:Hp):V->List jB->V->Prop
 |v,[],u=>u=v
 |v,.ix n::π,u=>∃p vs x,v=.ref p/\(H p=some (.tup vs)\/H p=some (.lst vs))/\vs[n]?=some x/\rO K H x π u
 |v,.fl n f::π,u=>∃p vs x,v=.ref p/\(∃(C b:Addr)(a:List Str),H p=some (.ins C b (a.zip vs))/\vs.length=a.length/\Ex K C a/\a[n]?=some f)/\vs[n]?=some x/\rO K H x π u
theorem dH{α:Type}:∀{l:List α}{n:Nat}{x:α},l[n]?=some x->l.set n x=l
 |[],_,_,e=>by cases e
 |y::l,0,x,e=>by cases e;rfl
 |y::l,n+1,x,e=>by rw[List.set_cons_succ,dH (by simpa using e)]
theorem dX.at:∀(j:List Md){q:List W}{vs:List V}{F:List Addr}{n:Nat}{m:Md}{w:W},dX K A H j q vs F->j[n]?=some m->q[n]?=some w->
 ∃v d F' l,vs[n]?=some v/\F=d++F'++l/\Fp K A H m w v F'/\∀(H':Hp)(B:Addr->Prop) f i k,Fp K B H' m f i k->l5 A (·∈d++l) H H'->(∀p o,H p=some o->B p->A p)->dX K B H' j (q.set n f) (vs.set n i) (d++k++l)
 |[],_,_,_,n,m,w,_,e,_=>by cases e
 |m0::j,q,vs,F,0,m,w,h,I,E=>by obtain⟨J,D,v,g,d,l,rfl,rfl,rfl,y,x⟩:=h;cases I;cases E;refine⟨v,[],d,l,rfl,by simp,y,λH' B f i k C r s=>?_⟩;exact⟨f,D,i,g,k,l,rfl,rfl,by simp,C,dX.chg r s j (λp t=>by simpa using t) x⟩
 |m0::j,q,vs,F,n+1,m,w,h,I,E=>by obtain⟨J,D,v,g,d,l,rfl,rfl,rfl,y,x⟩:=h;obtain⟨u,M,Q,L,P,rfl,O,N⟩:=dX.at j x (n:=n) (by simpa using I) (by simpa using E);refine⟨u,d++M,Q,L,by simpa using P,by simp,O,λH' B f i k C r s=>?_⟩;refine⟨J,D.set n f,v,g.set n i,d,M++k++L,rfl,rfl,by simp,Fp.chg r s m0 (λp t=>by simp[t]) y,N H' B f i k C (λp o e=>(r p o e).imp (λ⟨a,b,c⟩=>⟨a,b,λz=>c ?_⟩) id) s⟩;rcases GM.mp z with z|z<;>simp[z]
theorem c8.at{m:Md}:∀{r:List W}{vs:List V}{F:List Addr}{n:Nat}{w:W},c8 (Fp K A H m) r vs F->r[n]?=some w->
 ∃v d F' j,vs[n]?=some v/\F=d++F'++j/\Fp K A H m w v F'/\∀(H':Hp)(B:Addr->Prop) k g i,Fp K B H' m k g i->l5 A (·∈d++j) H H'->(∀p o,H p=some o->B p->A p)->c8 (Fp K B H' m) (r.set n k) (vs.set n g) (d++i++j)
 |[],_,_,n,w,_,e=>by cases e
 |w0::N,vs,F,0,w,h,C=>by obtain⟨v,f,d,j,rfl,rfl,x,t⟩:=h;cases C;refine⟨v,[],d,j,rfl,by simp,x,λH' B k g i y l q=>?_⟩;exact⟨g,f,i,j,rfl,by simp,y,t.mono λw v G M z=>Fp.chg l q m (λp s=>by simpa using M p s) z⟩
 |w0::N,vs,F,n+1,w,h,C=>by obtain⟨v,f,d,j,rfl,rfl,x,t⟩:=h;obtain⟨u,E,O,D,L,rfl,J,I⟩:=c8.at t (n:=n) (by simpa using C);refine⟨u,d++E,O,D,by simpa using L,by simp,J,λH' B k g i y l q=>?_⟩;refine⟨v,f.set n g,d,E++i++D,rfl,by simp,Fp.chg l q m (λp s=>by simp[s]) x,I H' B k g i y (λp o e=>(l p o e).imp (λ⟨a,b,c⟩=>⟨a,b,λz=>c ?_⟩) id) q⟩;rcases GM.mp z with z|z<;>simp[z]
noncomputable def VN(K:Frag)(A:Addr->Prop)(H:Hp)(m:Md)(w:W)(v:V)(F:List Addr)(π:List jB)(e:Md)(h:W):Prop:=
 ∃b d g c,F=d++g++c/\rO K H v π b/\Fp K A H e h b g/\∀(H':Hp)(B:Addr->Prop) a f,Fp K B H' e a b f->l5 A (·∈d++c) H H'->(∀p o,H p=some o->B p->A p)->Fp K B H' m (setAt w π a) v (d++f++c)
theorem Fp.path:∀(π:List jB)(m:Md){w:W}{v:V}{F:List Addr}{q:Md}{l:W},Fp K A H m w v F->gH m π=some q->bU w π=some l->VN K A H m w v F π q l
 |[],m,w,v,F,q,l,h,g,i=>by dsimp only[gH]at g;dsimp only[bU]at i;cases g;cases i;refine⟨v,[],F,[],by simp,rfl,h,λH' B k D h' _ _=>?_⟩;dsimp only[setAt];simpa using h'
 |n::π,.s,w,v,F,q,l,h,g,i=>by cases n<;>exact nn g
 |n::π,.f,w,v,F,q,l,h,g,i=>by cases n<;>exact nn g
 |n::π,.io _,w,v,F,q,l,h,g,i=>by cases n<;>exact nn g
 |n::π,.d,w,v,F,q,l,h,g,i=>by cases n<;>exact nn g
 |.fl n _::π,.t y,w,v,F,q,l,h,g,i=>by cases g
 |.fl n _::π,.ls y,w,v,F,q,l,h,g,i=>by cases g
 |.ix n::π,.ls Z,w,v,F,q,l,h,g,i=>by
  obtain⟨P,p,vs,F0,rfl,rfl,rfl,I,h2⟩:=h;dsimp only[gH]at g;dsimp only[bU]at i;cases j:P[n]? with
  |none=>rw[j]at i;exact nn i
  |some w1=>rw[j]at i;obtain⟨u,O,F',N,x,rfl,Y,U⟩:=c8.at h2 j;obtain⟨Q,M,G',L,rfl,T,S,R⟩:=Fp.path π Z Y g i;refine⟨Q,p::O++M,G',L++N,by simp,⟨p,vs,u,rfl,.inr I,x,T⟩,S,λH' B k D h' r E=>?_⟩;dsimp only[setAt];rw[j];dsimp only[Fp];have a:=U H' B _ u _ (R H' B k D h' (λp o e=>(r p o e).imp (by rintro⟨a,b,c⟩;exact⟨a,b,λz=>c (by rcases GM.mp z with z|z<;>simp[z])⟩) id) E) (λp o e=>(r p o e).imp (by rintro⟨a,b,c⟩;exact⟨a,b,λz=>c (by rcases GM.mp z with z|z<;>simp[z])⟩) id) E;rw[dH x]at a;exact⟨_,p,vs,O++(M++D++L)++N,rfl,rfl,by simp,r.un I (λ_=>by simp),a⟩
 |.ix n::π,.o fs y,w,v,F,q,l,h,g,i=>by cases g
 |.ix n::π,.t y,w,v,F,q,l,h,g,i=>by
  obtain⟨P,p,vs,rfl,rfl,I,h2⟩:=h;dsimp only[gH]at g;dsimp only[bU]at i;cases J:y[n]? with
  |none=>rw[J]at g;exact nn g
  |some Z=>
   cases j:P[n]? with
   |none=>rw[j]at i;exact nn i
   |some w1=>rw[J]at g;rw[j]at i;obtain⟨u,O,F',N,x,rfl,Y,U⟩:=dX.at y h2 J j;obtain⟨Q,M,G',L,rfl,T,S,R⟩:=Fp.path π Z Y g i;refine⟨Q,O++M,G',L++N,by simp,⟨p,vs,u,rfl,.inl I,x,T⟩,S,λH' B k D h' r E=>?_⟩;dsimp only[setAt];rw[j];dsimp only[Fp];have a:=U H' B _ u _ (R H' B k D h' (λp o e=>(r p o e).imp (by rintro⟨a,b,c⟩;exact⟨a,b,λz=>c (by rcases GM.mp z with z|z<;>simp[z])⟩) id) E) (λp o e=>(r p o e).imp (by rintro⟨a,b,c⟩;exact⟨a,b,λz=>c (by rcases GM.mp z with z|z<;>simp[z])⟩) id) E;rw[dH x]at a;refine⟨_,p,vs,rfl,rfl,r.un I (λz=>by cases z),?_⟩;simpa using a
 |.fl n f::π,.o fs y,w,v,F,q,l,h,g,i=>by
  obtain⟨C,dx,P,p,vs,F0,rfl,rfl,rfl,I,hl,hcl,h2⟩:=h;dsimp only[gH]at g;dsimp only[bU]at i;by_cases hf:fs[n]?=some f;rotate_left
  .rw[Bn hf]at g;cases g
  rw[Bz hf]at g;cases J:y[n]? with
  |none=>rw[J]at g;exact nn g
  |some Z=>
   cases j:P[n]? with
   |none=>rw[j]at i;exact nn i
   |some w1=>rw[J]at g;rw[j]at i;obtain⟨u,O,F',N,x,rfl,Y,U⟩:=dX.at y h2 J j;obtain⟨Q,M,G',L,rfl,T,S,R⟩:=Fp.path π Z Y g i;refine⟨Q,p::O++M,G',L++N,by simp,⟨p,vs,u,rfl,⟨C,dx,fs,I,hl,hcl,hf⟩,x,T⟩,S,λH' B k D h' r E=>?_⟩;dsimp only[setAt];rw[j];dsimp only[Fp];have a:=U H' B _ u _ (R H' B k D h' (λp o e=>(r p o e).imp (by rintro⟨a,b,c⟩;exact⟨a,b,λz=>c (by rcases GM.mp z with z|z<;>simp[z])⟩) id) E) (λp o e=>(r p o e).imp (by rintro⟨a,b,c⟩;exact⟨a,b,λz=>c (by rcases GM.mp z with z|z<;>simp[z])⟩) id) E;rw[dH x]at a;refine⟨C,dx,_,p,vs,O++(M++D++L)++N,rfl,rfl,by simp,r.un I (λ_=>by simp),hl,hcl,a⟩
end
noncomputable def bX(K:Frag)(A:Addr->Prop)(H H':Hp)(m:Md)(w:W)(v:V):Prop:=
 ∃F:List Addr,F.Nodup/\(∀p∈F,H p=none)/\Fp K (λq=>A q\/q∈F) H' m w v F
noncomputable def Dom(A:Addr->Prop)(H:Hp):Prop:=∀p,A p->∃o,H p=some o
theorem Dom.no{A:Addr->Prop}{H:Hp}(d:Dom A H){p:Addr}(h:H p=none):¬A p:=λz=>by obtain⟨o,e⟩:=d p z;rw[h]at e;cases e
theorem Dom.same{A:Addr->Prop}{H H':Hp}(d:Dom A H)(s:ao H H'):Dom A H':=λp z=>by obtain⟨o,e⟩:=d p z;exact⟨o,s _ _ e⟩
section
variable{K:Frag}{A B:Addr->Prop}{H H':Hp}{m:Md}{w:W}{v:V}
theorem bX.rep(d:Dom A H)(h:bX K A H H' m w v):Rep K A H' w v:=by obtain⟨F,c,a,h⟩:=h;exact Fp.rep (λp z=>.inl z) m (λp b=>d.no (a p b)) h
theorem bX.of(h:Rep K A H' w v):bX K A H H' .s w v:=⟨[],XY,by simp,by dsimp only[Fp];exact⟨rfl,h.less λp z=>by simpa using z⟩⟩
theorem bX.s(d:Dom A H)(h:bX K A H H' m w v):bX K A H H' .s w v:=.of (h.rep d)
theorem bX.new{a:List W}{p:Addr}{vs:List V}(b:H p=none)(d:H' p=some (.lst vs))(e:ai K A H' a vs)(c:ai K (λq=>A q\/q=p) H' a vs):bX K A H H' .f (.lst a) (.ref p):=
 ⟨[p],(by simp),(by simpa using b),by dsimp only[Fp];exact⟨a,p,vs,rfl,rfl,rfl,d,c.less λq z=>by simpa using z⟩⟩
theorem bX.fresh{a:List W}{p:Addr}{vs:List V}{H1:Hp}(s:ao H H1)(b:H1 p=none)(h:ai K A H1 a vs):bX K A H (upd H1 p (.lst vs)) .f (.lst a) (.ref p):=by
 have sm:=aF b (.lst vs);refine .new (s.free b) aL (h.same sm) (ai.mv sm (λq o z y=>?_) a h);rcases y with y|y
 .exact y
 .rw[y,b]at z;cases z
theorem bX.HD(h:bX K A H H' .f w v):∃a p vs,w=.lst a/\v=.ref p/\H p=none/\H' p=some (.lst vs)/\ai K (λq=>A q\/q=p) H' a vs:=by obtain⟨F,e,b,h⟩:=h;obtain⟨a,p,vs,rfl,rfl,rfl,d,c⟩:=h;exact⟨a,p,vs,rfl,rfl,b p (Da.mpr rfl),d,c.less λq z=>by simpa using z⟩
theorem bX.back{a:Hp}(s:ao a H)(e:∀p,B p->A p)(h:bX K A H H' m w v):bX K B a H' m w v:=by obtain⟨F,c,b,h⟩:=h;exact⟨F,c,λp d=>s.free (b p d),Fp.mv (ao.refl _) (λp o _ z=>z.imp (e p) id) m h⟩
end
abbrev Ev:=List (Option W)
noncomputable def look:Ev->Nat->Option W
 |[],_=>none
 |x::_,0=>x
 |_::l,n+1=>look l n
theorem aN:∀{a:Ev}{i:Nat}{w:W},look a i=some w↔a[i]?=some (some w)
 |[],i,w=>by simp[look]
 |x::l,0,w=>by simp[look]
 |x::l,i+1,w=>by rw[look,aN];simp
abbrev Ms:=List (Nat×Md)
noncomputable def aG(M:Ms)(i:Nat):Prop:=∃m,(i,m)∈M
structure Fz where
 ab:Addr->Prop
 B:Addr->Prop
 s0:Option V
abbrev FB(A:Fz)(M:Ms)(σ:St):Addr->Prop:=A.B
structure MP(K:Frag)(M:Ms)(A:Fz)(H0:Hp)(σ:St)(H:Hp)(ε:Ev)(F:Nat->List Addr):Prop where
 un:∀i m m',(i,m)∈M->(i,m')∈M->m=m'
 val:∀i m w,(i,m)∈M->look ε i=some w->∃v,σ[i]?=some (some v)/\Fp K A.B H m w v (F i)
 emp:∀i,aG M i->look ε i=none->F i=[]
 nd:∀i,aG M i->(F i).Nodup
 ds:∀i j p,aG M i->aG M j->p∈F i->p∈F j->i=j
 nw:∀i p,aG M i->p∈F i->H0 p=none
 na:∀i p,aG M i->p∈F i->¬A.ab p
 all:∀p,A.B p↔A.ab p\/∃i,aG M i/\p∈F i
structure SR(K:Frag)(M:Ms)(A:Fz)(H0:Hp)(σ:St)(H:Hp)(ε:Ev):Prop where
 len:σ.length=ε.length
 sh:∀i w,¬aG M i->look ε i=some w->∃v,σ[i]?=some (some v)/\Rep K A.B H w v
 sm:ao H0 H
 dm:Dom A.ab H
 sl:∀v,A.s0=some v->σ[0]?=some (some v)/\aG M 0
 ow:∃F,MP K M A H0 σ H ε F
theorem au{a:Ev}{i j:Nat}{x:Option W}(h:i≠j):look (a.set i x) j=look a j:=by
 cases e:look a j with
 |none=>
  cases b:look (a.set i x) j with
  |none=>rfl
  |some w=>rw[aN,FR h,<-aN,e]at b;cases b
 |some w=>rw[aN,FR h,<-aN];exact e
theorem iP{b:Ev}{i:Nat}{w a:W}(h:look (b.set i (some w)) i=some a):a=w:=by
 rw[aN,Y0]at h;rw[Bz rfl]at h;split at h
 .cases h;rfl
 .cases h
theorem iQ{a:Ev}{i:Nat}{w:W}(h:look a i=some w):i<a.length:=by rw[aN]at h;exact(FS.mp h).1
section
variable{K:Frag}{M M':Ms}{A:Fz}{H0 H H1:Hp}{σ:St}{ε:Ev}{F:Nat->List Addr}
theorem MP.has(O:MP K M A H0 σ H ε F){i:Nat}{p:Addr}(c:aG M i)(a:p∈F i):∃o,H p=some o/\y9 o=true:=by
 cases b:look ε i with
 |none=>rw[O.emp i c b]at a;cases a
 |some w=>obtain⟨m,d⟩:=c;obtain⟨v,_,h⟩:=O.val i m w d b;exact Fp.mu m h p a
theorem SR.dom(S:SR K M A H0 σ H ε):Dom A.B H:=λp z=>by
 obtain⟨F,O⟩:=S.ow;rcases(O.all p).mp z with z|⟨i,b,a⟩
 .exact S.dm p z
 .obtain⟨o,e,_⟩:=O.has b a;exact⟨o,e⟩
theorem SR.sub'(S:SR K M A H0 σ H ε):∀p,A.ab p->A.B p:=λp z=>by obtain⟨F,O⟩:=S.ow;exact(O.all p).mpr (.inl z)
theorem SR.same(S:SR K M A H0 σ H ε)(s:ao H H1):SR K M A H0 σ H1 ε:=by
 obtain⟨F,O⟩:=S.ow;exact⟨S.len,λi w b e=>let⟨v,h1,h2⟩:=S.sh i w b e;⟨v,h1,h2.same s⟩,S.sm.trans s,S.dm.same s,S.sl,F,
  ⟨O.un,λi m w a e=>let⟨v,h1,h2⟩:=O.val i m w a e;⟨v,h1,Fp.mv s (λ_ _ _ z=>z) m h2⟩,O.emp,O.nd,O.ds,O.nw,O.na,O.all⟩⟩
theorem SR.sub(S:SR K M A H0 σ H ε)(h:∀x∈M',x∈M)(s:Option V)(hz:∀v,s=some v->A.s0=some v/\aG M' 0):∃r,r.ab=A.ab/\r.s0=s/\(∀p,r.B p->A.B p)/\SR K M' r H0 σ H ε:=by
 obtain⟨F,O⟩:=S.ow;have d:∀i,aG M' i->aG M i:=by rintro i ⟨m,f⟩;exact⟨m,h _ f⟩
 have q:∀p,(A.ab p\/∃i,aG M' i/\p∈F i)->A.B p:=λp z=>(O.all p).mpr (z.imp id<|by rintro⟨i,c,n⟩;exact⟨i,d i c,n⟩);refine⟨⟨A.ab,λp=>A.ab p\/∃i,aG M' i/\p∈F i,s⟩,rfl,rfl,q,S.len,λi w t e=>?_,S.sm,S.dm,λv e=>⟨(S.sl v (hz v e).1).1,(hz v e).2⟩,F,⟨λi m u a b=>O.un i m u (h _ a) (h _ b),λi m w f e=>?_,λi c=>O.emp i (d i c),λi c=>O.nd i (d i c),λi j p c o=>O.ds i j p (d i c) (d j o),λi p c=>O.nw i p (d i c),λi p c=>O.na i p (d i c),λp=>Iff.rfl⟩⟩
 .by_cases c:aG M i
  .have g:=c;obtain⟨m,f⟩:=c;obtain⟨v,l,k⟩:=O.val i m w f e;refine⟨v,l,Fp.rep q m (λp n z=>?_) k⟩;rcases z with z|⟨j,o,y⟩
   .exact O.na i p g n z
   .have:=O.ds i j p g (d j o) n y;subst this;exact t o
  .obtain⟨v,l,k⟩:=S.sh i w c e;exact⟨v,l,k.less q⟩
 .obtain⟨v,l,k⟩:=O.val i m w (h _ f) e;exact⟨v,l,Fp.mv (ao.refl _) (λp _ _ z=>q p z) m k⟩
theorem SR.go(S:SR K M A H0 σ H ε):SR K [] ⟨A.ab,A.ab,none⟩ H0 σ H ε:=by
 obtain⟨a,b,c,h,d⟩:=S.sub (M':=[]) (λx f=>by cases f) none (λv e=>by cases e);obtain⟨F,O⟩:=d.ow;have e:∀p,a.B p↔A.ab p:=λp=>by rw[O.all p,b];exact⟨λz=>z.elim id (by rintro⟨i,⟨m,g⟩,_⟩;cases g),.inl⟩
 have:a.B=A.ab:=funext λp=>propext (e p);have:a=⟨A.ab,A.ab,none⟩:=by
  cases a;simp only at b c this;rw[b,this,c]
 rw[<-this];exact d
theorem SR.set(S:SR K M A H0 σ H ε){i:Nat}{w:W}{v:V}(g:¬aG M i)(h:Rep K A.B H w v):SR K M A H0 (σ.set i (some v)) H (ε.set i (some w)):=by
 obtain⟨F,O⟩:=S.ow;refine⟨by rw[KF,KF];exact S.len,λj f d e=>?_,S.sm,S.dm,λu e=>?_,F,⟨O.un,λj m f k e=>?_,λj d e=>?_,O.nd,O.ds,O.nw,O.na,O.all⟩⟩
 .by_cases a:i=j
  .subst a;have l:i<σ.length:=by rw[S.len];have:=iQ e;rwa [KF]at this
   have:=iP e;subst this;exact⟨v,KM l,h⟩
  .rw[au a]at e;obtain⟨u,c,b⟩:=S.sh j f d e;exact⟨u,by rw[FR a];exact c,b⟩
 .obtain⟨c,b⟩:=S.sl u e;exact⟨by rw[FR (by rintro rfl;exact g b)];exact c,b⟩
 .have a:i≠j:=by rintro rfl;exact g ⟨m,k⟩
  rw[au a]at e;obtain⟨u,c,b⟩:=O.val j m f k e;exact⟨u,by rw[FR a];exact c,b⟩
 .have a:i≠j:=by rintro rfl;exact g d
  rw[au a]at e;exact O.emp j d e
theorem SR.own(S:SR K M' A H0 σ H ε){i:Nat}{m:Md}{w:W}{v:V}(y:∀x,x∈M↔x=(i,m)\/x∈M')(Q:¬aG M' i)(s:ao H H1)(h:bX K A.B H H1 m w v):
 ∃N,N.ab=A.ab/\N.s0=A.s0/\(∀p o,H p=some o->N.B p->A.B p)/\SR K M N H0 (σ.set i (some v)) H1 (ε.set i (some w)):=by
 obtain⟨F,O⟩:=S.ow;obtain⟨G,nd,nw,L⟩:∃G:List Addr,G.Nodup/\(∀p∈G,H p=none)/\(i<ε.length->Fp K (λq=>A.B q\/q∈G) H1 m w v G)/\(ε.length<=i->G=[]):=by
  by_cases g:i<ε.length
  .obtain⟨G,nd,nw,L⟩:=h;exact⟨G,nd,nw,λ_=>L,λz=>by lia⟩
  .exact⟨[],XY,by simp,λz=>(g z).elim,λ_=>rfl⟩
 have f:∀j,aG M j↔j=i\/aG M' j:=λj=>by
  constructor
  .rintro⟨r,R⟩;rcases(y _).mp R with e|e
   .cases e;exact .inl rfl
   .exact .inr ⟨r,e⟩
  .rintro(rfl|⟨r,R⟩)
   .exact⟨m,(y _).mpr (.inl rfl)⟩
   .exact⟨r,(y _).mpr (.inr R)⟩
 have P:∀j,aG M' j->j≠i:=λj c e=>by subst e;exact Q c
 have E:∀j p,aG M' j->p∈F j->p∉G:=λj p c d z=>by obtain⟨o,e,_⟩:=O.has c d;rw[nw p z]at e;cases e
 have T:∀p o,H p=some o->(A.B p\/p∈G)->A.B p:=λp o e z=>by
  rcases z with z|z
  .exact z
  .rw[nw p z]at e;cases e
 refine⟨⟨A.ab,λp=>A.B p\/p∈G,A.s0⟩,rfl,rfl,T,by rw[KF,KF];exact S.len,λj J c e=>?_,S.sm.trans s,S.dm.same s,λu e=>?_,λj=>if j=i then G else F j,⟨λj Z Y a b=>?_,λj r J c e=>?_,λj c e=>?_,λj c=>?_,λj k p c U a b=>?_,λj p c d=>?_,λj p c d=>?_,λp=>?_⟩⟩
 .have t:j≠i/\¬aG M' j:=⟨λz=>c ((f j).mpr (.inl z)),λz=>c ((f j).mpr (.inr z))⟩;rw[au (Mo t.1)]at e;obtain⟨u,I,D⟩:=S.sh j J t.2 e;exact⟨u,by rw[FR (Mo t.1)];exact I,Rep.mv s T J D⟩
 .obtain⟨I,D⟩:=S.sl u e;exact⟨by rw[FR (Mo (P 0 D))];exact I,(f 0).mpr (.inr D)⟩
 .rcases(y _).mp a with a|a
  .rcases(y _).mp b with b|b
   .cases a;cases b;rfl
   .cases a;exact(Q ⟨_,b⟩).elim
  .rcases(y _).mp b with b|b
   .cases b;exact(Q ⟨_,a⟩).elim
   .exact O.un j Z Y a b
 .rcases(y _).mp c with a|a
  .cases a;have g:i<ε.length:=by have:=iQ e;rwa [KF]at this
   have:=iP e;subst this;exact⟨v,KM (by rw[S.len];exact g),by rw[Bz rfl];exact L.1 g⟩
  .have n:=P j ⟨r,a⟩;rw[au (Mo n)]at e;obtain⟨u,I,D⟩:=O.val j r J a e;exact⟨u,by rw[FR (Mo n)];exact I,by rw[Bn n];exact Fp.mv s T r D⟩
 .by_cases n:j=i
  .subst n;rw[Bz rfl];refine L.2 (RF λg=>?_);have:look (ε.set j (some w)) j=some w:=by rw[aN];exact KM g
   rw[this]at e;cases e
  .rw[au (Mo n)]at e;rw[Bn n];exact O.emp j (((f j).mp c).resolve_left n) e
 .by_cases n:j=i
  .rw[Bz n];exact nd
  .rw[Bn n];exact O.nd j (((f j).mp c).resolve_left n)
 .by_cases C:j=i
  .by_cases l:k=i
   .rw[C,l]
   .rw[Bz C]at a;rw[Bn l]at b;exact(E k p (((f k).mp U).resolve_left l) b a).elim
  .by_cases l:k=i
   .rw[Bn C]at a;rw[Bz l]at b;exact(E j p (((f j).mp c).resolve_left C) a b).elim
   .rw[Bn C]at a;rw[Bn l]at b;exact O.ds j k p (((f j).mp c).resolve_left C) (((f k).mp U).resolve_left l) a b
 .by_cases n:j=i
  .rw[Bz n]at d;exact S.sm.free (nw p d)
  .rw[Bn n]at d;exact O.nw j p (((f j).mp c).resolve_left n) d
 .by_cases n:j=i
  .rw[Bz n]at d;exact S.dm.no (nw p d)
  .rw[Bn n]at d;exact O.na j p (((f j).mp c).resolve_left n) d
 .constructor
  .rintro(z|z)
   .rcases(O.all p).mp z with z|⟨j,c,d⟩
    .exact .inl z
    .exact .inr ⟨j,(f j).mpr (.inr c),by rw[Bn (P j c)];exact d⟩
   .exact .inr ⟨i,(f i).mpr (.inl rfl),by rw[Bz rfl];exact z⟩
  .rintro(z|⟨j,c,d⟩)
   .exact .inl ((O.all p).mpr (.inl z))
   .by_cases n:j=i
    .rw[Bz n]at d;exact .inr d
    .rw[Bn n]at d;exact .inl ((O.all p).mpr (.inr ⟨j,((f j).mp c).resolve_left n,d⟩))
theorem MP.chg(S:SR K M A H0 σ H ε)(O:MP K M A H0 σ H ε F){i:Nat}{m:Md}{w t:W}{v:V}{F':List Addr}(P:(i,m)∈M)(T:look ε i=some w)(R:σ[i]?=some (some v))
 (C:∀p o,H p=some o->(y9 o=true/\p∈F i)\/H1 p=some o)(nd:F'.Nodup)(nw:∀p∈F',p∈F i\/H p=none)(h:Fp K (λp=>(A.B p/\p∉F i)\/p∈F') H1 m t v F'):
 ∃s,s.ab=A.ab/\s.s0=A.s0/\(∀p,s.B p↔(A.B p/\p∉F i)\/p∈F')/\(∀p o,H p=some o->s.B p->A.B p)/\um A.B H H1/\SR K M s H0 σ H1 (ε.set i (some t)):=by
 have f:aG M i:=⟨m,P⟩;have E:∀p,p∈F i->A.B p:=λp c=>(O.all p).mpr (.inr ⟨i,f,c⟩);have Q:um A.B H H1:=λp o e=>(C p o e).imp (λz=>⟨z.1,E p z.2⟩) id;have L:∀p o,H p=some o->((A.B p/\p∉F i)\/p∈F')->A.B p:=λp o e z=>by
  rcases z with z|z
  .exact z.1
  .rcases nw p z with z|z
   .exact E p z
   .rw[z]at e;cases e
 have D:∀j p,aG M j->j≠i->p∈F j->p∉F i/\p∉F':=λj p d n c=>by
  have a:p∉F i:=λz=>n (O.ds j i p d f c z);refine⟨a,λz=>?_⟩;rcases nw p z with z|z
  .exact a z
  .obtain⟨o,e,_⟩:=O.has d c;rw[z]at e;cases e
 refine⟨⟨A.ab,λp=>(A.B p/\p∉F i)\/p∈F',A.s0⟩,rfl,rfl,λ_=>Iff.rfl,L,Q,by rw[KF];exact S.len,λj g d e=>?_,λp o e=>?_,λp z=>?_,S.sl,λj=>if j=i then F' else F j,⟨O.un,λj x g d e=>?_,λj d e=>?_,λj d=>?_,λj k p d N a b=>?_,λj p d c=>?_,λj p d c=>?_,λp=>?_⟩⟩
 .have n:i≠j:=by rintro rfl;exact d f
  rw[au n]at e;obtain⟨u,J,I⟩:=S.sh j g d e;exact⟨u,J,Rep.chg Q L g I⟩
 .rcases C p o (S.sm p o e)with⟨_,z⟩|z
  .rw[O.nw i p f z]at e;cases e
  .exact z
 .obtain⟨o,e⟩:=S.dm p z;rcases C p o e with⟨_,y⟩|y
  .exact(O.na i p f y z).elim
  .exact⟨o,y⟩
 .by_cases n:j=i
  .subst n;have U:=O.un j m x P d;subst U;have:=iP e;subst this;exact⟨v,R,by rw[Bz rfl];exact h⟩
  .rw[au (Mo n)]at e;obtain⟨u,J,I⟩:=O.val j x g d e;refine⟨u,J,?_⟩;rw[Bn n];refine Fp.chg (G:=λp=>p∈F j) (λp o e=>?_) L x (λp c=>c) I;rcases C p o e with⟨z,y⟩|z
   .exact .inl ⟨z,E p y,λq=>(D j p ⟨x,d⟩ n q).1 y⟩
   .exact .inr z
 .by_cases n:j=i
  .subst n;have:look (ε.set j (some t)) j=some t:=by rw[aN];exact KM (iQ T)
   rw[this]at e;cases e
  .rw[au (Mo n)]at e;rw[Bn n];exact O.emp j d e
 .by_cases n:j=i
  .rw[Bz n];exact nd
  .rw[Bn n];exact O.nd j d
 .by_cases r:j=i
  .by_cases l:k=i
   .rw[r,l]
   .rw[Bz r]at a;rw[Bn l]at b;exact((D k p N l b).2 a).elim
  .by_cases l:k=i
   .rw[Bn r]at a;rw[Bz l]at b;exact((D j p d r a).2 b).elim
   .rw[Bn r]at a;rw[Bn l]at b;exact O.ds j k p d N a b
 .by_cases n:j=i
  .rw[Bz n]at c;rcases nw p c with z|z
   .exact O.nw i p f z
   .exact S.sm.free z
  .rw[Bn n]at c;exact O.nw j p d c
 .by_cases n:j=i
  .rw[Bz n]at c;rcases nw p c with z|z
   .exact O.na i p f z
   .exact S.dm.no z
  .rw[Bn n]at c;exact O.na j p d c
 .constructor
  .rintro(⟨z,y⟩|z)
   .rcases(O.all p).mp z with z|⟨j,d,c⟩
    .exact .inl z
    .have n:j≠i:=by rintro rfl;exact y c
     exact .inr ⟨j,d,by rw[Bn n];exact c⟩
   .exact .inr ⟨i,f,by rw[Bz rfl];exact z⟩
  .rintro(z|⟨j,d,c⟩)
   .exact .inl ⟨(O.all p).mpr (.inl z),λy=>O.na i p f y z⟩
   .by_cases n:j=i
    .rw[Bz n]at c;exact .inr c
    .rw[Bn n]at c;exact .inl ⟨(O.all p).mpr (.inr ⟨j,d,c⟩),(D j p d n c).1⟩
end
end VL
set_option genSizeOf false
set_option genInjectivity false
namespace VL
open PySem PySem.Spec
open PyProof.Rows hiding St
open L2
inductive BI where
 |len|abs|max2|min2|sum|all|any|list|tuple|uo|int|QW
 deriving DecidableEq
inductive CE where
 |var (i:Nat)|int (i:Int)|bl (b:Bool)|str (x:Str)|aM|wR (n:String)|glob (g:Nat)
 |bin (op:Operator) (a b:CE)|neg (a:CE)|not (a:CE)
 |cmp (op:CmpOp) (a b:CE)|l6 (o p:CmpOp) (a b c:CE)
 |and (as:List CE)|or (as:List CE)
 |tup (as:List CE)|lst (as:List CE)
 |ix (a i:CE)|sl (a lo hi:CE)
 |call (f:Nat) (as:List CE)|blt (b:BI) (as:List CE)
 |comp (ts:List Nat) (one:Bool) (n:Nat) (it:CE) (c:CE) (e:CE)
 |jq (as:List CE)|qg (a:CE)|rev (a:CE)|JV (a st:CE)
 |pop (i:Nat)
 |own (i:Nat) (π:List jB)
 |wU (is:List Nat) (a:CE)
inductive CS where
 |set (i:Nat) (e:CE)|Dv (ts:List Nat) (e:CE)|par (ts:List Nat) (es:List CE)
 |app (i:Nat) (e:CE)|put (i:Nat) (k e:CE)|drop (i:Nat)|Bp (j:Nat) (e:CE)
 |ret (e:CE)|iff (c:CE) (a b:List CS)|uq (c:CE) (b:List CS)
 |fr (ts:List Nat) (one:Bool) (it:CE) (b:List CS)
 |brk
 |MQ (is:List Nat) (b:List CS)
 |Ol (i:Nat) (e:CE)
 |Om (i:Nat) (is:List Nat) (m:Md) (ts:List Nat) (one:Bool) (n:Nat) (it c e:CE)|Oo (j a b:Nat) (e:CE)
 |fld (j a b t y:Nat) (e:CE)
noncomputable def Oq:W->W->(W->Prop)->Prop
 |.int i,.int j,Q=>Q (.int (i+j))
 |.lst a,.lst b,Q=>a.length+b.length<=sizeLine/\Q (.lst (a++b))
 |.tup a,.tup b,Q=>a≠[]/\a.length+b.length<=sizeLine/\Q (.tup (a++b))
 |.str a,.str b,Q=>a.length+b.length<=sizeLine/\Q (.str (a++b))
 |_,_,_=>False
noncomputable def Ot:W->W->(W->Prop)->Prop
 |.int i,.int j,Q=>IntMulOk i j/\Q (.int (i*j))
 |.lst a,.int k,Q=> -(2^63)<=k/\k<2^63/\a.length*k.toNat<=sizeLine/\Q (.lst (Aq k.toNat a).flatten)
 |_,_,_=>False
noncomputable def MR(C:Int->Int->Prop)(g:Int->Int->Int):W->W->(W->Prop)->Prop
 |.int i,.int j,Q=>C i j/\Q (.int (g i j))
 |_,_,_=>False
noncomputable def Ou:W->W->(W->Prop)->Prop
 |.int i,.int j,Q=>Q (.int (i -j))
 |_,_,_=>False
noncomputable def dR:Operator->W->W->(W->Prop)->Prop
 |.Add=>Oq
 |.Sub=>Ou
 |.Mult=>Ot
 |.FloorDiv=>MR A5 λi j=>i.fdiv j
 |.Mod=>MR (λ_ j=>j≠0) λi j=>i.fmod j
 |.Pow=>MR yx λi j=>i^j.toNat
 |.LShift=>MR yx λi j=>i*2^j.toNat
 |.RShift=>MR (λ_ j=>0<=j) λi j=>i/2^j.toNat
 |_=>λ_ _ _=>False
noncomputable def rP:Nat->W->Bool
 |_,.int _=>true
 |_,.str x=>PyData.strOk x
 |_,.aM=>true
 |n+1,.lst l=>l.all (rP n)
 |n+1,.tup l=>l.all (rP n)
 |_,_=>false
noncomputable def Dw:Nat->W->Bool
 |_,.bl _=>true
 |_,.str x=>PyData.strOk x
 |_,.aM=>true
 |n+1,.lst l=>l.all (Dw n)
 |n+1,.tup l=>l.all (Dw n)
 |_,_=>false
noncomputable def So(a:Bool):W->W->(W->Prop)->Prop
 |.int i,.int j,Q=>Q (.bl (if a then !decide (i=j)else decide (i=j)))
 |.str i,.str j,Q=>Q (.bl (if a then !decide (i=j)else decide (i=j)))
 |.bl i,.bl j,Q=>Q (.bl (if a then !decide (i=j)else decide (i=j)))
 |x,y,Q=>((rP 9 x=true/\rP 9 y=true)\/(Dw 9 x=true/\Dw 9 y=true))/\∀b:Bool,(b=true↔x=y)->Q (.bl (if a then !b else b))
noncomputable def Bq(p:Int->Int->Bool):W->W->(W->Prop)->Prop
 |.int i,.int j,Q=>Q (.bl (p i j))
 |_,_,_=>False
noncomputable def Ov(x y:W)(Q:W->Prop):Prop:=∃(a b:Int)(c d:List Int),x=.tup [.int a,.lst (c.map W.int)]/\y=.tup [.int b,.lst (d.map W.int)]/\Q (.bl (if a=b then HT.lexLt c d else decide (a<b)))
noncomputable def Ui:W->W->(W->Prop)->Prop
 |.int i,.int j,Q=>Q (.bl (decide (i<j)))
 |.tup a,.tup b,Q=>Ov (.tup a) (.tup b) Q
 |_,_,_=>False
noncomputable def Sq(a:Bool):W->W->(W->Prop)->Prop
 |.aM,.aM,Q=>Q (.bl (!a))
 |.bl _,.aM,Q=>Q (.bl a)
 |.int _,.aM,Q=>Q (.bl a)
 |.str _,.aM,Q=>Q (.bl a)
 |.lst _,.aM,Q=>Q (.bl a)
 |.tup _,.aM,Q=>Q (.bl a)
 |.err _,.aM,Q=>Q (.bl a)
 |_,_,_=>False
noncomputable def eW:CmpOp->W->W->(W->Prop)->Prop
 |.Eq=>So false
 |.NotEq=>So true
 |.Lt=>Ui
 |.LtE=>Bq λi j=>decide (i<=j)
 |.Gt=>Bq λi j=>decide (j<i)
 |.GtE=>Bq λi j=>decide (j<=i)
 |.Is=>Sq false
 |.IsNot=>Sq true
 |_=>λ_ _ _=>False
noncomputable def dY:CmpOp->W->W->(W->Prop)->Prop
 |.Lt=>Bq λi j=>decide (i<j)
 |o=>eW o
noncomputable def HE:W->W->(W->Prop)->Prop
 |.lst l,.int i,Q=>∃w,jo l i=some w/\Q w
 |.tup l,.int i,Q=>∃w,jo l i=some w/\Q w
 |.fW ns,.int i,Q=>∃n,jo ns i=some n/\Q (.int n)
 |_,_,_=>False
noncomputable def iR(l:List W)(a b:Option Int):List W:=(l.drop (HT.oQ l.length 0 a)).take (HT.oQ l.length l.length b -HT.oQ l.length 0 a)
noncomputable def iS:CE->Bool
 |.aM=>true
 |_=>false
noncomputable def VO:W->(Option Int->Prop)->Prop
 |.int i,Q=>Q (some i)
 |_,_=>False
noncomputable def Ez(c:CE)(y:W)(Q:Option Int->Prop):Prop:=cond (iS c) (Q none) (VO y Q)
noncomputable def QX:W->Option Int->Option Int->(W->Prop)->Prop
 |.lst l,a,b,Q=>Q (.lst (iR l a b))
 |.fW ns,a,b,Q=>Q (.lst (iR (ns.map W.int) a b))
 |_,_,_,_=>False
noncomputable def Uj:W->Option String
 |.aM=>some "NoneType"
 |.bl _=>some "bool"
 |.int _=>some "int"
 |.str _=>some "str"
 |.lst _=>some "list"
 |.tup _=>some "tuple"
 |_=>none
noncomputable def qh(a b:String):Bool:=a==b||(a=="bool"&&b=="int")
noncomputable def l7:BI->List W->(W->Prop)->Prop
 |.len,[.lst l],Q=>Q (.int l.length)
 |.len,[.tup l],Q=>Q (.int l.length)
 |.len,[.fW ns],Q=>Q (.int ns.length)
 |.abs,[.int i],Q=>Q (.int (if i<0 then-i else i))
 |.max2,[.int i,.int j],Q=>Q (.int (if j>i then j else i))
 |.max2,[.lst l],Q=>∃ns:List Int,l=ns.map W.int/\ns≠[]/\∀m∈ns,(∀n∈ns,n<=m)->Q (.int m)
 |.min2,[.int i,.int j],Q=>Q (.int (if j<i then j else i))
 |.min2,[.lst l],Q=>∃ns:List Int,l=ns.map W.int/\ns≠[]/\∀m∈ns,(∀n∈ns,m<=n)->Q (.int m)
 |.sum,[.lst l],Q=>∃ns:List Int,l=ns.map W.int/\Q (.int ns.sum)
 |.all,[.lst l],Q=>∃c:List Bool,l=c.map W.bl/\Q (.bl (c.all id))
 |.any,[.lst l],Q=>∃c:List Bool,l=c.map W.bl/\Q (.bl (c.any id))
 |.list,[.lst l],Q=>Q (.lst l)
 |.list,[.tup l],Q=>Q (.lst l)
 |.tuple,[.lst l],Q=>Q (.tup l)
 |.tuple,[.tup l],Q=>Q (.tup l)
 |.uo,[w,.ty n],Q=>∃a,Uj w=some a/\Q (.bl (qh a n))
 |.int,[.bl b],Q=>Q (.int (if b then 1 else 0))
 |.QW,[.int i,.int j],Q=>(0<j/\j<1073741824)/\Q (.tup [.int (i/j),.int (i%j)])
 |_,_,_=>False
noncomputable def bK(a:Ev):List Nat->List W->Ev
 |i::c,w::b=>bK (a.set i (some w)) c b
 |_,_=>a
noncomputable def wT(one:Bool)(a:List Nat)(w:W)(b:Ev)(Q:Ev->Prop):Prop:=
 match one,a,w with
 |true,[i],w=>Q (b.set i (some w))
 |false,a,.tup l=>l.length=a.length/\Q (bK b a l)
 |_,_,_=>False
noncomputable def f6(f:W->(Option W->Prop)->Prop):List W->List W->(List W->Prop)->Prop
 |[],acc,Q=>Q acc
 |w::a,acc,Q=>f w λr=>match r with
  |some y=>acc.length<sizeLine/\f6 f a (acc++[y]) Q
  |none=>f6 f a acc Q
noncomputable def truth:W->(Bool->Prop)->Prop
 |.bl b,Q=>Q b
 |_,_=>False
noncomputable def items:W->(List W->Prop)->Prop
 |.lst l,Q=>Q l
 |.tup l,Q=>Q l
 |_,_=>False
noncomputable def cR(a st:Int)(n:Nat):List W:=(BB n).map λ(i:Nat)=>W.int (a+(i:Int)*st)
noncomputable def Br:List W->(List W->Prop)->Prop
 |[.int j],Q=> -(2^62)<=j/\j<2^62/\Q (cR 0 1 j.toNat)
 |[.int i,.int j],Q=>(-(2^62)<=i/\i<2^62/\-(2^62)<=j/\j<2^62)/\Q (cR i 1 (j -i).toNat)
 |[.int i,.int j,.int k],Q=>∃n:Nat,(k≠0/\k.natAbs<1073741824/\Builtin.Range.small i j k=true/\Builtin.Range.rangeSize i j k=(n:Int))/\Q (cR i k n)
 |_,_=>False
noncomputable def fV(l:List W):List W:=List.zipWith (λ(i:Nat) w=>W.tup [.int i,w]) (BB l.length) l
noncomputable def zc(f:W->(W->Prop)->Prop):Nat->W->(W->Prop)->Prop
 |0,w,Q=>Q w
 |n+1,w,Q=>f w λa=>zc f n a Q
noncomputable def sW(f:W->W->(W->Prop)->Prop):List W->W->(W->Prop)->Prop
 |[],w,Q=>Q w
 |x::l,w,Q=>∃(a:List W)(n:Int),x=.tup [.lst a,.int n]/\-(2^62)<=n/\n<2^62/\zc (f (.lst a)) n.toNat w λb=>sW f l b Q
noncomputable def kN(c:Ev)(a b t y:Nat)(w:W):Ev:=(((c.set a none).set b none).set t none).set y (some w)
mutual
noncomputable def Bs:W->Bool
 |.aM=>true
 |.bl _=>true
 |.int _=>true
 |.str _=>true
 |.tup l=>sX l
 |_=>false
noncomputable def sX:List W->Bool
 |[]=>true
 |w::l=>Bs w&&sX l
end
mutual
noncomputable def flat:Md->W->Bool
 |.s,w=>Bs w
 |.f,w=>match w with
  |.lst l=>sX l
  |_=>false
 |.t a,w=>match w with
  |.tup l=>wV a l
  |_=>false
 |.o _ _,_=>false
 |.io _,_=>false
 |.d,_=>false
 |.ls _,_=>false
noncomputable def wV:List Md->List W->Bool
 |[],l=>l.isEmpty
 |m::a,l=>match l with
  |w::l=>flat m w&&wV a l
  |[]=>false
end
noncomputable def l9(x:W):W->W
 |.tup (.lst a::r)=>.tup (.lst (a++[x])::r)
 |w=>w
noncomputable def Su:CE->Option Int
 |.int i=>some i
 |_=>none
noncomputable def Sv:List CE->Option W
 |[a,b]=>(Su a).bind λi=>(Su b).bind λj=>some (.tup [.int i,.int j])
 |_=>none
noncomputable def cst:CE->Option W
 |.int i=>some (.int i)
 |.tup l=>Sv l
 |_=>none
abbrev aX:=List W->(W->Prop)->(Addr->Prop)->Prop
noncomputable def JW:W->Bool
 |.aM|.bl _|.int _|.str _=>true
 |_=>false
section
variable(Φ:Nat->aX)(G:Nat->W)
mutual
noncomputable def wE(R:Addr->Prop):CE->Ev->(W->Prop)->Prop
 |.var i,d,Q=>match look d i with
  |some w=>Q w
  |none=>False
 |.int i,_,Q=>Q (.int i)
 |.bl b,_,Q=>Q (.bl b)
 |.str x,_,Q=>Q (.str x)
 |.aM,_,Q=>Q .aM
 |.wR n,_,Q=>Q (.ty n)
 |.glob g,_,Q=>Q (G g)
 |.bin op a b,d,Q=>wE R a d λx=>wE R b d λy=>dR op x y Q
 |.neg a,d,Q=>wE R a d λx=>match x with
  |.int i=>Q (.int (-i))
  |_=>False
 |.not a,d,Q=>wE R a d λx=>truth x λb=>Q (.bl (!b))
 |.cmp op a b,d,Q=>wE R a d λx=>wE R b d λy=>eW op x y Q
 |.l6 o p a b c,d,Q=>wE R a d λx=>wE R b d λy=>dY o x y λz=>truth z λk=>if k=true then wE R c d λu=>dY p y u Q else Q (.bl false)
 |.and m,d,Q=>yq R m d Q
 |.or m,d,Q=>MH R m d Q
 |.tup m,d,Q=>wA R m d λj=>j.length<=sizeLine/\Q (.tup j)
 |.lst m,d,Q=>wA R m d λj=>j.length<=sizeLine/\Q (.lst j)
 |.ix a i,d,Q=>wE R a d λx=>wE R i d λy=>HE x y Q
 |.sl a r s,d,Q=>wE R a d λx=>wE R r d λy=>Ez r y λl=>wE R s d λz=>Ez s z λh=>QX x l h Q
 |.call f m,d,Q=>wA R m d λj=>Φ f j Q R
 |.blt b m,d,Q=>wA R m d λj=>l7 b j Q
 |.comp t one n v c e,d,Q=>wE R v d λz=>items z λj=>f6 (λw K=>wT one t w (Aq n none++d) λq=>wE (λ_=>False) c q λx=>truth x λk=>if k=true then wE (λ_=>False) e q λy=>K (some y)else K none) j [] λl=>Q (.lst l)
 |.jq m,d,Q=>wA R m d λj=>Br j λl=>Q (.lst l)
 |.qg a,d,Q=>wE R a d λx=>match x with
  |.lst l=>Q (.lst (fV l))
  |_=>False
 |.rev a,d,Q=>wE R a d λx=>match x with
  |.lst l=>Q (.lst l.reverse)
  |_=>False
 |.JV a st,d,Q=>wE R a d λx=>wE R st d λy=>y=.int (-1)/\match x with
  |.lst l=>Q (.lst l.reverse)
  |_=>False
 |.pop _,_,_=>False
 |.own i π,d,Q=>match look d i with
  |some w=>match bU w π with
   |some u=>Q u
   |none=>False
  |none=>False
 |.wU _ a,d,Q=>wE R a d λw=>JW w=true/\Q w
noncomputable def wA(R:Addr->Prop):List CE->Ev->(List W->Prop)->Prop
 |[],_,Q=>Q []
 |a::d,b,Q=>wE R a b λx=>wA R d b λc=>Q (x::c)
noncomputable def yq(R:Addr->Prop):List CE->Ev->(W->Prop)->Prop
 |[],_,_=>False
 |a::e,c,Q=>match e with
  |[]=>wE R a c Q
  |b::d=>wE R a c λx=>truth x λk=>if k=true then yq R (b::d) c Q else Q (.bl false)
noncomputable def MH(R:Addr->Prop):List CE->Ev->(W->Prop)->Prop
 |[],_,_=>False
 |a::e,c,Q=>match e with
  |[]=>wE R a c Q
  |b::d=>wE R a c λx=>truth x λk=>if k=true then Q (.bl true)else MH R (b::d) c Q
end
structure Dn where
 nx:Ev->Prop
 rt:W->Prop
 bk:Ev->Prop
 ct:Ev->Prop
 ex:Addr->Prop
mutual
noncomputable def wP(R:Addr->Prop):CE->Ev->(W->Ev->Prop)->Prop
 |.pop i,c,Q=>match look c i with
  |some (.lst l)=>∃w,l[l.length -1]?=some w/\Q w (c.set i (some (.lst l.dropLast)))
  |_=>False
 |.bin op a b,c,Q=>wP R a c λx j=>wP R b j λy k=>dR op x y λz=>Q z k
 |.cmp op a b,c,Q=>wP R a c λx j=>wP R b j λy k=>eW op x y λz=>Q z k
 |.call f g,c,Q=>IE R g c λh d=>Φ f h (λw=>Q w d) R
 |.blt b g,c,Q=>IE R g c λh d=>l7 b h λw=>Q w d
 |.ix a b,c,Q=>wP R a c λx j=>wP R b j λy k=>HE x y λz=>Q z k
 |.lst g,c,Q=>IE R g c λh d=>h.length<=sizeLine/\Q (.lst h) d
 |.tup g,c,Q=>IE R g c λh d=>h.length<=sizeLine/\Q (.tup h) d
 |.and g,c,Q=>z8 R g c Q
 |.or g,c,Q=>IF R g c Q
 |e,c,Q=>wE Φ G R e c λw=>Q w c
noncomputable def IE(R:Addr->Prop):List CE->Ev->(List W->Ev->Prop)->Prop
 |[],b,Q=>Q [] b
 |a::f,b,Q=>wP R a b λx d=>IE R f d λc e=>Q (x::c) e
noncomputable def z8(R:Addr->Prop):List CE->Ev->(W->Ev->Prop)->Prop
 |[],_,_=>False
 |a::f,d,Q=>match f with
  |[]=>wP R a d Q
  |b::e=>wP R a d λx c=>truth x λk=>if k=true then z8 R (b::e) c Q else Q (.bl false) c
noncomputable def IF(R:Addr->Prop):List CE->Ev->(W->Ev->Prop)->Prop
 |[],_,_=>False
 |a::f,d,Q=>match f with
  |[]=>wP R a d Q
  |b::e=>wP R a d λx c=>truth x λk=>if k=true then Q (.bl true) c else IF R (b::e) c Q
end
noncomputable def iT(b:W->Dn->Ev->Prop)(D:Dn):List W->Ev->Prop
 |[],a=>D.nx a
 |w::c,a=>b w {nx:=iT b D c,rt:=D.rt,bk:=D.nx,ct:=iT b D c,ex:=λ_=>False} a
noncomputable def EA(c:Ev->(Bool->Prop)->Prop)(b:Dn->Ev->Prop)(D:Dn)(a:Ev):Prop:=
 ∃J:Nat->Ev->Prop,(∃m,J m a)/\∀m a,J m a->c a λk=>if k=true then∃N:Ev->Prop,(∀d,N d->∃e,e<m/\J e d)/\b {nx:=N,rt:=D.rt,bk:=D.nx,ct:=N,ex:=λ_=>False} a else D.nx a
mutual
noncomputable def wS:CS->Dn->Ev->Prop
 |.set i e,D,d=>wE Φ G D.ex e d λw=>D.nx (d.set i (some w))
 |.Dv h e,D,d=>wE Φ G D.ex e d λw=>match w with
  |.tup l=>l.length=h.length/\D.nx (bK d h l)
  |_=>False
 |.par h A,D,d=>wA Φ G D.ex A d λp=>p.length=h.length/\D.nx (bK d h p)
 |.app i e,D,d=>match look d i with
  |some (.lst l)=>wE Φ G D.ex e d λw=>l.length<sizeLine/\D.nx (d.set i (some (.lst (l++[w]))))
  |_=>False
 |.put i k e,D,d=>wE Φ G D.ex e d λw=>match look d i with
  |some (.lst l)=>wE Φ G D.ex k d λx=>match x with
   |.int j=>∃n,uh l.length j=some n/\D.nx (d.set i (some (.lst (l.set n w))))
   |_=>False
  |_=>False
 |.drop i,D,d=>wP Φ G D.ex (.pop i) d λ_ g=>D.nx g
 |.Bp j e,D,d=>wP Φ G D.ex e d λw g=>D.nx (g.set j (some w))
 |.ret e,D,d=>wE Φ G D.ex e d D.rt
 |.iff c a b,D,d=>wE Φ G D.ex c d λx=>truth x λk=>if k=true then wSs a D d else wSs b D d
 |.uq c b,D,d=>EA (λd Q=>wE Φ G (λ_=>False) c d λx=>truth x Q) (wSs b) D d
 |.fr h one r b,D,d=>wE Φ G (λ_=>False) r d λz=>items z λp=>iT (λw B g=>wT one h w g λv=>wSs b B v) D p d
 |.brk,D,d=>D.bk d
 |.Ol i e,D,d=>match look d i with
  |some (.lst l)=>wE Φ G D.ex e d λw=>l.length<sizeLine/\D.nx (d.set i (some (.lst (l++[w]))))
  |_=>False
 |.Om i _ m h one n r c e,D,d=>wE Φ G D.ex r d λz=>items z λp=>f6 (λw K=>wT one h w (Aq n none++d) λg=>wE Φ G (λ_=>False) c g λx=>truth x λk=>if k=true then wE Φ G (λ_=>False) e g λy=>flat m y=true/\K (some y)else K none) p [] λl=>D.nx (d.set i (some (.lst l)))
 |.Oo j a b e,D,d=>match cst e with
  |some x0=>match look d j with
   |some (.lst l)=>(∀w∈l,∃q o,w=.tup [.lst q,o]/\q.length<sizeLine)/\a<d.length/\D.nx (((d.set a none).set b none).set j (some (.lst (l.map (l9 x0)))))
   |_=>False
  |none=>False
 |.fld j a b t y e,D,d=>match look d j with
  |some (.lst l)=>∃s,look d y=some s/\(a<d.length/\b<d.length)/\sW (λq w K=>wE Φ G (λ_=>False) e ((kN d a b t y w).set a (some q)) λu=>flat .f u=true/\K u) l s λw=>D.nx (kN d a b t y w)
  |_=>False
 |.MQ _ b,D,d=>wSs b {D with nx:=λ_=>False,bk:=λ_=>False,ct:=λ_=>False} d
noncomputable def wSs:List CS->Dn->Ev->Prop
 |[],D,a=>D.nx a
 |s::c,D,a=>match c with
  |[]=>wS s D a
  |t::b=>wS s {D with nx:=wSs (t::b) D} a
end
end
noncomputable def aQ(K:Frag)(B:Addr->Prop)(H:Hp)(w:W)(v:V):Prop:=
 match w with
 |.lst l=>∃p a,v=.ref p/\Rz H p (.lst a)/\ai K B H l a
 |w=>Rep K B H w v
section
variable{K:Frag}{A B:Addr->Prop}{H H':Hp}{w:W}{v:V}
theorem Rep.b(h:Rep K B H w v):aQ K B H w v:=by
 cases w with
 |lst l=>obtain⟨p,a,e,_,d,c⟩:=h;exact⟨p,a,e,d,c⟩
 |_=>exact h
theorem aQ.same(s:ao H H')(h:aQ K B H w v):aQ K B H' w v:=by
 cases w with
 |lst l=>obtain⟨p,a,e,c,b⟩:=h;exact⟨p,a,e,VL.ao.rz s c,b.same s⟩
 |_=>exact Rep.same s h
theorem aQ.lst{l:List W}(h:aQ K B H (.lst l) v):∃p vs,v=.ref p/\Rz H p (.lst vs)/\ai K B H l vs:=h
theorem aQ.Ow{l:List W}(h:aQ K B H (.tup l) v):∃p vs,v=.ref p/\H p=some (.tup vs)/\ai K B H l vs:=by have h:Rep K B H (.tup l) v:=h;dsimp only[Rep]at h;exact h
theorem aQ.tup{l:List W}(h:aQ K B H (.tup l) v):∃p vs,v=.ref p/\gJ K H p vs/\ai K B H l vs:=by have h:Rep K B H (.tup l) v:=h;obtain⟨p,vs,e,b,a⟩:=h;exact⟨p,vs,e,gJ.of b,a⟩
theorem aQ.int{i:Int}(h:aQ K B H (.int i) v):v=.int i:=by have h:Rep K B H (.int i) v:=h;dsimp only[Rep]at h;exact h
theorem aQ.bl{i:Bool}(h:aQ K B H (.bl i) v):v=.bl i:=by have h:Rep K B H (.bl i) v:=h;dsimp only[Rep]at h;exact h
theorem aQ.str{i:Str}(h:aQ K B H (.str i) v):v=.str i:=by have h:Rep K B H (.str i) v:=h;dsimp only[Rep]at h;exact h
theorem aQ.aM(h:aQ K B H .aM v):v=.aM:=by have h:Rep K B H .aM v:=h;dsimp only[Rep]at h;exact h
theorem aQ.ty{n:String}(h:aQ K B H (.ty n) v):v=.ty n:=by have h:Rep K B H (.ty n) v:=h;dsimp only[Rep]at h;exact h
theorem c9(i:Int):Rep K B H (.int i) (.int i):=by dsimp only[Rep]
theorem rQ(i:Bool):Rep K B H (.bl i) (.bl i):=by dsimp only[Rep]
theorem Ox(i:Str):Rep K B H (.str i) (.str i):=by dsimp only[Rep]
theorem Sw:Rep K B H .aM .aM:=by dsimp only[Rep]
theorem VQ(n:String):Rep K B H (.ty n) (.ty n):=by dsimp only[Rep]
theorem sY{l:List W}{p:Addr}{vs:List V}(b:H p=some (.tup vs))(a:ai K B H l vs):Rep K B H (.tup l) (.ref p):=by dsimp only[Rep];exact⟨p,vs,rfl,b,a⟩
end
abbrev KP:=W->Prop
noncomputable def Cont(K:Frag)(B:Addr->Prop)(H:Hp)(m:Md)(P:KP)(Q:VK):Prop:=∀w v a,P w->ao H a->bX K B H a m w v->Q v a
theorem Cont.now{K:Frag}{B:Addr->Prop}{H:Hp}{P:KP}{Q:VK}(c:Cont K B H .s P Q){w:W}{v:V}(p:P w)(h:Rep K B H w v):Q v H:=c w v H p (ao.refl H) (.of h)
theorem Cont.s{K:Frag}{B:Addr->Prop}{H:Hp}{m:Md}{P:KP}{Q:VK}(d:Dom B H)(c:Cont K B H .s P Q):Cont K B H m P Q:=λw v b p a h=>c w v b p a (h.s d)
noncomputable def Bt(X:Cx)(f:Value->Value->Sem Value)(r:W->W->KP->Prop)(m:W->W->Md):Prop:=
 ∀(a:List (Addr×Obj))(s:Shared)(b:St)(H:Hp)(B:Addr->Prop)(x y:W)(d c:V)(v u:Value)(P:KP)(Q:VK),Inv X a b H s->Dom B H->RelV d v->RelV c u->aQ X.K B H x d->aQ X.K B H y c->r x y P->Cont X.K B H (m x y) P Q->
  wpAny (model X.prog X.w) X.A (f v u) (EP X a b Q) X.xe s
section
variable{X:Cx}
theorem EB:gK X (binaryOp .Add) (λx y H Q=>∃l b f d,x=.ref l/\y=.ref b/\Rd H l (.lst f)/\Rd H b (.lst d)/\f.length+d.length<=sizeLine/\∀p,H p=none->Q (.ref p) (upd H p (.lst (f++d)))):=by
 intro i s B H x y v u Q I k j h;obtain⟨l,b,f,d,rfl,rfl,o,t,hz,q⟩:=h;cases k;cases j;obtain⟨z,c,n,r,e⟩:=o.ok I.hok;obtain⟨C,a,D,g,A⟩:=t.ok I.hok;have E:=r.length;have m:=g.length;refine PySem.P.add_list e A ?_ (by rw[Ee,Ee];lia);have w:c.toArray++a.toArray=(c++a).toArray:=by simp
 rw[w];exact⟨.ref _,_,I.NU (t':=s.toks) (r.append g) (by rw[Fk];lia),rfl,q _ I.fresh⟩
theorem EC:gK X (binaryOp .Mult) (λx y H Q=>∃l k i,x=.ref l/\y=.int k/\Rd H l (.lst i)/\-(2^63)<=k/\k<2^63/\i.length*k.toNat<=sizeLine/\∀p,H p=none->Q (.ref p) (upd H p (.lst (Aq k.toNat i).flatten))):=by
 intro w s M H x y v u Q I C B h;obtain⟨l,k,i,rfl,rfl,E,J,G,hz,q⟩:=h;cases C;obtain⟨t,rfl⟩:=B;obtain⟨z,b,n,r,e⟩:=E.ok I.hok;have D:=r.length;have d:b.toArray.size*k.toNat<=sizeLine:=by rw[Ee,<-D];exact hz
 have g:¬b.toArray.size*k.toNat>(2^63 -1)/8:=by
  have:(sizeLine:Nat)<=(2^63 -1)/8:=by decide
  lia
 have f:¬(!Builtin.List.listFitsIndex k)=true:=by rw[fitsIndex_both J G];exact Hk
 have L:¬Builtin.List.listTooLong (b.toArray.size*k.toNat)=true:=by rw[AG d];exact Hk
 have c:W9 (λo j=>o++j) #[] (Aq (if b.toArray.isEmpty=true then 0 else k.toNat) b.toArray)=(Aq k.toNat b).flatten.toArray:=by
  have K:∀m:Nat,W9 (λo j=>o++j) #[] (Aq m b.toArray)=(Aq m b).flatten.toArray:=λm=>by have:=foldl_rep b m [];rw[Wm]at this;exact this
  rw[K];cases b with
  |nil=>simp
  |cons a N=>rw[Bn (by simp)]
 refine wpAny_binaryOp_repeat_ref (T:="list") (U:="int") (by decide) ⟨_,e,rfl⟩ (λA=>typeIs_int A k t) noFill_list_mul F.fills_int_mul F.slot_int_rmul repeat_list F.slot_int_index.lookup
  (call_meets F.slot_int_rmul (typeIs_int s k t) F.entry_int_rmul (F.args_int_rmul_2 _ _) (int___rmul___int_list k t l b.toArray n)
    ⟨e,rfl,⟨_,e,rfl⟩,call_meets F.slot_list_mul ⟨_,e,rfl⟩ F.entry_list_mul (F.args_list_mul_2 _ _) (AutoListH.list___mul___list_int_3 l b.toArray n k t f g L) ⟨e,?_⟩⟩)
 rw[c];exact⟨.ref _,_,I.NU (t':=s.toks) (r.rep k.toNat) (by rw[len_rep,Ub];exact hz),rfl,q _ I.fresh⟩
noncomputable def ED:W->W->Md
 |.lst _,_=>.f
 |_,_=>.s
theorem JX:Bt X (binaryOp .Add) Oq ED:=by
 intro f s m H B x y N M v u P Q I d t o A w h c;cases x with
 |int i=>
  cases y with
  |int j=>
   cases A.int;cases w.int;exact Jj f s m H _ _ v u Q I t o ⟨i,j,rfl,rfl,c.now h (c9 _)⟩
  |_=>exact h.elim
 |str i=>
  cases y with
  |str j=>
   cases A.str;cases w.str;exact uD f s m H _ _ v u Q I t o ⟨i,j,rfl,rfl,h.1,c.now h.2 (Ox _)⟩
  |_=>exact h.elim
 |lst a=>
  cases y with
  |lst b=>obtain⟨p,n,rfl,J,g⟩:=A.lst;obtain⟨q,C,rfl,D,k⟩:=w.lst;obtain⟨G,h⟩:=h;refine EB f s m H _ _ v u Q I t o ⟨p,q,n,C,rfl,rfl,J.rd,D.rd,by rw[g.len,k.len];exact G,λr l=>?_⟩;exact c _ _ _ h (aF l _) (.fresh (ao.refl H) l (g.app k))
  |_=>exact h.elim
 |tup a=>
  cases y with
  |tup b=>
   obtain⟨p,n,rfl,L,g⟩:=A.Ow;have J:gJ X.K H p n:=gJ.of L;obtain⟨q,C,rfl,D,k⟩:=w.tup;obtain⟨E,G,h⟩:=h;refine D4 f s m H _ _ v u Q I t o ⟨p,q,n,C,rfl,rfl,J,D,λz=>E ?_,by rw[g.len,k.len];exact G,λz=>?_,λ_ r l=>?_⟩
   .have:=g.len;rw[z]at this;exact Pv.mp this.symm
   .have:=k.len;rw[z]at this;have e:b=[]:=Pv.mp this.symm;subst e;rw[Y7]at h;exact c.now h (sY L g)
   .exact c _ _ _ h (aF l _) (.of (sY aL ((g.app k).same (aF l _))))
  |_=>exact h.elim
 |_=>exact h.elim
theorem JY:Bt X (binaryOp .Mult) Ot ED:=by
 intro b s e H B x y D C v u P Q I d g f m l h c;cases x with
 |int i=>
  cases y with
  |int j=>
   cases m.int;cases l.int;exact Er b s e H _ _ v u Q I g f ⟨i,j,rfl,rfl,h.1,c.now h.2 (c9 _)⟩
  |_=>exact h.elim
 |lst a=>
  cases y with
  |int k=>obtain⟨p,q,rfl,A,o⟩:=m.lst;cases l.int;obtain⟨w,t,z,h⟩:=h;refine EC b s e H _ _ v u Q I g f ⟨p,k,q,rfl,rfl,A.rd,w,t,by rw[o.len];exact z,λr n=>?_⟩;exact c _ _ _ h (aF n _) (.fresh (ao.refl H) n (o.rep _))
  |_=>exact h.elim
 |_=>exact h.elim
noncomputable def mS:W->W->Md:=λ_ _=>.s
theorem JZ:Bt X (binaryOp .Sub) Ou mS:=by
 intro a s b H B x y m l v u P Q I d f e k g h c;cases x with
 |int i=>
  cases y with
  |int j=>
   cases k.int;cases g.int;exact Jk a s b H _ _ v u Q I f e ⟨i,j,rfl,rfl,c.now h (c9 _)⟩
  |_=>exact h.elim
 |_=>exact h.elim
theorem sZ{f:Value->Value->Sem Value}{C:Int->Int->Prop}{g:Int->Int->Int}(n:gK X f (rI C λi j=>.int (g i j))):Bt X f (MR C g) mS:=by
 intro a s b H B x y p o v u P Q I d k e m l h c;cases x with
 |int i=>
  cases y with
  |int j=>
   cases m.int;cases l.int;exact n a s b H _ _ v u Q I k e ⟨i,j,rfl,rfl,h.1,c.now h.2 (c9 _)⟩
  |_=>exact h.elim
 |_=>exact h.elim
noncomputable def EF:Operator->W->W->Md
 |.Add=>ED
 |.Mult=>ED
 |_=>mS
theorem uW(op:Operator):Bt X (binaryOp op) (dR op) (EF op):=by
 cases op with
 |Add=>exact JX
 |Sub=>exact JZ
 |Mult=>exact JY
 |FloorDiv=>exact sZ A7
 |Mod=>exact sZ DP
 |Pow=>exact sZ Jl
 |LShift=>exact sZ Jm
 |RShift=>exact sZ Jo
 |_=>exact λa s b H B x y f e v u P Q I d i g k j h c=>h.elim
theorem qi{f:Value->Value->Sem Value}{p:Int->Int->Bool}(m:gK X f (zY λi j=>.bl (p i j))):Bt X f (Bq p) mS:=by
 intro a s b H B x y o n v u P Q I d g e l k h c;cases x with
 |int i=>
  cases y with
  |int j=>
   cases l.int;cases k.int;exact m a s b H _ _ v u Q I g e ⟨i,j,rfl,rfl,c.now h (rQ _)⟩
  |_=>exact h.elim
 |_=>exact h.elim
end
mutual
noncomputable def toD:W->PyData
 |.aM=>.none
 |.bl b=>.bool b
 |.int i=>.int i
 |.str x=>.str x
 |.lst l=>.list (toDL l)
 |.tup l=>.tuple (toDL l)
 |_=>.none
noncomputable def toDL:List W->List PyData
 |[]=>[]
 |w::l=>toD w::toDL l
end
mutual
noncomputable def wW:W->Bool
 |.aM=>true
 |.bl _=>true
 |.int _=>true
 |.str x=>PyData.strOk x
 |.lst l=>qj l
 |.tup l=>qj l
 |_=>false
noncomputable def qj:List W->Bool
 |[]=>true
 |w::l=>wW w&&qj l
end
section
variable{X:Cx}{B:Addr->Prop}{H:Hp}
mutual
theorem OB:∀(w:W){v:V},wW w=true->Rep X.K B H w v->Dt X H v (toD w)
 |.aM,v,_,h=>by obtain rfl:=h;exact JO
 |.bl b,v,_,h=>by obtain rfl:=h;exact Ob b
 |.int i,v,_,h=>by obtain rfl:=h;exact JM i
 |.str x,v,_,h=>by obtain rfl:=h;exact JN x
 |.lst l,v,d,h=>by obtain⟨p,e,rfl,_,c,a⟩:=h;exact Bh (.inl c.rd) (wX l d a)
 |.tup l,v,d,h=>by obtain⟨p,e,rfl,c,a⟩:=h;exact JP (gJ.of c) (wX l d a)
 |.ty _,_,d,_=>ff d
 |.cls _,_,d,_=>ff d
 |.err _,_,d,_=>ff d
 |.dct _ _,_,d,_=>ff d
 |.obj _ _ _,_,d,_=>ff d
 |.fW _,_,d,_=>ff d
theorem wX:∀(l:List W){vs:List V},qj l=true->ai X.K B H l vs->Paired (Dt X H) vs (toDL l)
 |[],vs,_,h=>by rw[h.nil_inv];exact .nil
 |w::l,vs,d,h=>by obtain⟨v,r,rfl,b,a⟩:=h.cons_inv;have d:=KE.mp d;exact .cons (OB w d.1 b) (wX l d.2 a)
end
theorem EG{w:W}{v:V}(d:wW w=true)(h:aQ X.K B H w v):Dt X H v (toD w):=by
 cases w with
 |lst l=>obtain⟨p,c,rfl,b,a⟩:=h.lst;exact Bh (.inl b.rd) (wX l d a)
 |_=>exact OB (B:=B) _ d h
end
mutual
theorem toD_lay:∀w:W,wW w=true->(toD w).canLay0=true
 |.aM,_=>rfl
 |.bl _,_=>rfl
 |.int _,_=>rfl
 |.str x,d=>d
 |.lst l,d=>toDL_lay l d
 |.tup l,d=>toDL_lay l d
 |.ty _,d=>ff d
 |.cls _,d=>ff d
 |.err _,d=>ff d
 |.dct _ _,d=>ff d
 |.obj _ _ _,d=>ff d
 |.fW _,d=>ff d
theorem toDL_lay:∀l:List W,qj l=true->PyData.canLayAll0 (toDL l)=true
 |[],_=>rfl
 |w::l,d=>by have d:=KE.mp d;exact KE.mpr ⟨toD_lay w d.1,toDL_lay l d.2⟩
end
mutual
theorem toD_inj:∀x y:W,wW x=true->wW y=true->same (toD x) (toD y)=true->x=y
 |.aM,.aM,_,_,_=>rfl
 |.aM,.bl _,_,_,h=>ff h
 |.aM,.int _,_,_,h=>ff h
 |.aM,.str _,_,_,h=>ff h
 |.aM,.lst _,_,_,h=>ff h
 |.aM,.tup _,_,_,h=>ff h
 |.bl _,.aM,_,_,h=>ff h
 |.bl _,.int _,_,_,h=>ff h
 |.bl _,.str _,_,_,h=>ff h
 |.bl _,.lst _,_,_,h=>ff h
 |.bl _,.tup _,_,_,h=>ff h
 |.int _,.aM,_,_,h=>ff h
 |.int _,.bl _,_,_,h=>ff h
 |.int _,.str _,_,_,h=>ff h
 |.int _,.lst _,_,_,h=>ff h
 |.int _,.tup _,_,_,h=>ff h
 |.str _,.aM,_,_,h=>ff h
 |.str _,.bl _,_,_,h=>ff h
 |.str _,.int _,_,_,h=>ff h
 |.str _,.lst _,_,_,h=>ff h
 |.str _,.tup _,_,_,h=>ff h
 |.lst _,.aM,_,_,h=>ff h
 |.lst _,.bl _,_,_,h=>ff h
 |.lst _,.int _,_,_,h=>ff h
 |.lst _,.str _,_,_,h=>ff h
 |.lst _,.tup _,_,_,h=>ff h
 |.tup _,.aM,_,_,h=>ff h
 |.tup _,.bl _,_,_,h=>ff h
 |.tup _,.int _,_,_,h=>ff h
 |.tup _,.str _,_,_,h=>ff h
 |.tup _,.lst _,_,_,h=>ff h
 |.bl a,.bl b,_,_,h=>GT _ (eq_of_beq h)
 |.int a,.int b,_,_,h=>GT _ (eq_of_beq h)
 |.str a,.str b,_,_,h=>GT _ (eq_of_beq h)
 |.lst a,.lst b,d,e,h=>GT _ (toDL_inj a b d e h)
 |.tup a,.tup b,d,e,h=>GT _ (toDL_inj a b d e h)
 |.ty _,_,d,_,_=>ff d
 |.cls _,_,d,_,_=>ff d
 |.err _,_,d,_,_=>ff d
 |.dct _ _,_,d,_,_=>ff d
 |.obj _ _ _,_,d,_,_=>ff d
 |.fW _,_,d,_,_=>ff d
 |_,.ty _,_,d,_=>ff d
 |_,.cls _,_,d,_=>ff d
 |_,.err _,_,d,_=>ff d
 |_,.dct _ _,_,d,_=>ff d
 |_,.obj _ _ _,_,d,_=>ff d
 |_,.fW _,_,d,_=>ff d
theorem toDL_inj:∀x y:List W,qj x=true->qj y=true->sameAll (toDL x) (toDL y)=true->x=y
 |[],[],_,_,_=>rfl
 |[],_::_,_,_,h=>ff h
 |_::_,[],_,_,h=>ff h
 |x::b,y::a,d,e,h=>by have d:=KE.mp d;have e:=KE.mp e;have h:=KE.mp h;rw[toD_inj x y d.1 e.1 h.1,toDL_inj b a d.2 e.2 h.2]
end
mutual
theorem toD_refl:∀x:W,wW x=true->same (toD x) (toD x)=true
 |.aM,_=>rfl
 |.bl a,_=>TK a
 |.int a,_=>TK a
 |.str a,_=>TK a
 |.lst a,d=>toDL_refl a d
 |.tup a,d=>toDL_refl a d
 |.ty _,d=>ff d
 |.cls _,d=>ff d
 |.err _,d=>ff d
 |.dct _ _,d=>ff d
 |.obj _ _ _,d=>ff d
 |.fW _,d=>ff d
theorem toDL_refl:∀x:List W,qj x=true->sameAll (toDL x) (toDL x)=true
 |[],_=>rfl
 |x::a,d=>by have d:=KE.mp d;exact KE.mpr ⟨toD_refl x d.1,toDL_refl a d.2⟩
end
theorem toD_same(x y:W)(d:wW x=true)(e:wW y=true):same (toD x) (toD y)=true↔x=y:=⟨toD_inj x y d e,by rintro rfl;exact toD_refl x d⟩
theorem toDL_map:∀l:List W,toDL l=l.map toD
 |[]=>rfl
 |w::l=>GT (toD w::·) (toDL_map l)
theorem mh:∀l:List W,qj l=l.all wW
 |[]=>rfl
 |w::l=>GT (wW w&&·) (mh l)
theorem EH:∀(n:Nat)(w:W),(rP n w=true\/Dw n w=true)->wW w=true/\(toD w).depth<=n+1
 |n,.aM,_=>⟨rfl,Hn _⟩
 |n,.bl _,_=>⟨rfl,Hn _⟩
 |n,.int _,_=>⟨rfl,Hn _⟩
 |n,.str x,h=>by
  have:PyData.strOk x=true:=by
   rcases h with h|h
   .cases n<;>exact h
   .cases n<;>exact h
  exact⟨this,Hn _⟩
 |0,.lst l,h=>h.elim ff ff
 |0,.tup l,h=>h.elim ff ff
 |n+1,.lst l,h=>by
  have b:∀w∈l,wW w=true/\(toD w).depth<=n+1:=λw a=>by
   refine EH n w ?_;rcases h with h|h
   .exact .inl (Hc.mp h w a)
   .exact .inr (Hc.mp h w a)
  refine⟨(mh l).trans (Hc.mpr λw a=>(b w a).1),?_⟩;dsimp only[toD];rw[toDL_map];exact Wk (sU λx c=>by obtain⟨w,a,rfl⟩:=IR.mp c;exact(b w a).2)
 |n+1,.tup l,h=>by
  have b:∀w∈l,wW w=true/\(toD w).depth<=n+1:=λw a=>by
   refine EH n w ?_;rcases h with h|h
   .exact .inl (Hc.mp h w a)
   .exact .inr (Hc.mp h w a)
  refine⟨(mh l).trans (Hc.mpr λw a=>(b w a).1),?_⟩;dsimp only[toD];rw[toDL_map];exact Wk (sU λx c=>by obtain⟨w,a,rfl⟩:=IR.mp c;exact(b w a).2)
 |0,.ty _,h=>h.elim ff ff
 |0,.cls _,h=>h.elim ff ff
 |0,.err _,h=>h.elim ff ff
 |0,.dct _ _,h=>h.elim ff ff
 |0,.obj _ _ _,h=>h.elim ff ff
 |0,.fW _,h=>h.elim ff ff
 |n+1,.ty _,h=>h.elim ff ff
 |n+1,.cls _,h=>h.elim ff ff
 |n+1,.err _,h=>h.elim ff ff
 |n+1,.dct _ _,h=>h.elim ff ff
 |n+1,.obj _ _ _,h=>h.elim ff ff
 |n+1,.fW _,h=>h.elim ff ff
inductive wY(b:Bool):PyData->Prop where
 |none:wY b .none
 |str (x:Str):wY b (.str x)
 |bool (x:Bool) (h:b=true):wY b (.bool x)
 |int (x:Int) (h:b=false):wY b (.int x)
 |list {l:List PyData} (h:∀x∈l,wY b x):wY b (.list l)
 |tuple {l:List PyData} (h:∀x∈l,wY b x):wY b (.tuple l)
mutual
theorem qk{b:Bool}:∀d e:PyData,wY b d->wY b e->SeqAt.noMix d e=true
 |.list c,.list a,h,k=>by
  cases h with
  |list h=>
   cases k with
   |list k=>rw[SeqAt.noMix];exact mw c a h k
 |.tuple c,.tuple a,h,k=>by
  cases h with
  |tuple h=>
   cases k with
   |tuple k=>rw[SeqAt.noMix];exact mw c a h k
 |.bool _,.int _,h,k=>by
  cases h with
  |bool _ h=>
   cases k with
   |int _ k=>rw[h]at k;cases k
 |.int _,.bool _,h,k=>by
  cases h with
  |int _ h=>
   cases k with
   |bool _ k=>rw[h]at k;exact ff k
 |.dict _,_,h,_=>by cases h
 |.none,.none,_,_=>by simp[SeqAt.noMix]
 |.none,.bool _,_,_=>by simp[SeqAt.noMix]
 |.none,.int _,_,_=>by simp[SeqAt.noMix]
 |.none,.str _,_,_=>by simp[SeqAt.noMix]
 |.none,.list _,_,_=>by simp[SeqAt.noMix]
 |.none,.tuple _,_,_=>by simp[SeqAt.noMix]
 |.none,.dict _,_,_=>by simp[SeqAt.noMix]
 |.bool _,.none,_,_=>by simp[SeqAt.noMix]
 |.bool _,.bool _,_,_=>by simp[SeqAt.noMix]
 |.bool _,.str _,_,_=>by simp[SeqAt.noMix]
 |.bool _,.list _,_,_=>by simp[SeqAt.noMix]
 |.bool _,.tuple _,_,_=>by simp[SeqAt.noMix]
 |.bool _,.dict _,_,_=>by simp[SeqAt.noMix]
 |.int _,.none,_,_=>by simp[SeqAt.noMix]
 |.int _,.int _,_,_=>by simp[SeqAt.noMix]
 |.int _,.str _,_,_=>by simp[SeqAt.noMix]
 |.int _,.list _,_,_=>by simp[SeqAt.noMix]
 |.int _,.tuple _,_,_=>by simp[SeqAt.noMix]
 |.int _,.dict _,_,_=>by simp[SeqAt.noMix]
 |.str _,.none,_,_=>by simp[SeqAt.noMix]
 |.str _,.bool _,_,_=>by simp[SeqAt.noMix]
 |.str _,.int _,_,_=>by simp[SeqAt.noMix]
 |.str _,.str _,_,_=>by simp[SeqAt.noMix]
 |.str _,.list _,_,_=>by simp[SeqAt.noMix]
 |.str _,.tuple _,_,_=>by simp[SeqAt.noMix]
 |.str _,.dict _,_,_=>by simp[SeqAt.noMix]
 |.list _,.none,_,_=>by simp[SeqAt.noMix]
 |.list _,.bool _,_,_=>by simp[SeqAt.noMix]
 |.list _,.int _,_,_=>by simp[SeqAt.noMix]
 |.list _,.str _,_,_=>by simp[SeqAt.noMix]
 |.list _,.tuple _,_,_=>by simp[SeqAt.noMix]
 |.list _,.dict _,_,_=>by simp[SeqAt.noMix]
 |.tuple _,.none,_,_=>by simp[SeqAt.noMix]
 |.tuple _,.bool _,_,_=>by simp[SeqAt.noMix]
 |.tuple _,.int _,_,_=>by simp[SeqAt.noMix]
 |.tuple _,.str _,_,_=>by simp[SeqAt.noMix]
 |.tuple _,.list _,_,_=>by simp[SeqAt.noMix]
 |.tuple _,.dict _,_,_=>by simp[SeqAt.noMix]
theorem mw{b:Bool}:∀c a:List PyData,(∀x∈c,wY b x)->(∀y∈a,wY b y)->SeqAt.noMixAll c a=true
 |[],[],_,_=>by simp[SeqAt.noMixAll]
 |[],_::_,_,_=>by simp[SeqAt.noMixAll]
 |_::_,[],_,_=>by simp[SeqAt.noMixAll]
 |x::c,y::a,h,k=>by rw[SeqAt.noMixAll,qk x y (h x DL) (k y DL),mw c a (λz hz=>h z (D2 _ hz)) λz hz=>k z (D2 _ hz)];rfl
end
theorem qm:∀(n:Nat)(w:W),rP n w=true->wY false (toD w)
 |n,.aM,_=>.none
 |n,.int i,_=>.int i rfl
 |n,.str x,_=>.str x
 |n,.bl _,h=>by cases n<;>exact ff h
 |n+1,.lst l,h=>by dsimp only[toD];rw[toDL_map];exact .list λx a=>by obtain⟨w,b,rfl⟩:=IR.mp a;exact qm n w (Hc.mp h w b)
 |n+1,.tup l,h=>by dsimp only[toD];rw[toDL_map];exact .tuple λx a=>by obtain⟨w,b,rfl⟩:=IR.mp a;exact qm n w (Hc.mp h w b)
 |0,.lst l,h=>ff h
 |0,.tup l,h=>ff h
 |n,.ty _,h=>by cases n<;>exact ff h
 |n,.cls _,h=>by cases n<;>exact ff h
 |n,.err _,h=>by cases n<;>exact ff h
 |n,.dct _ _,h=>by cases n<;>exact ff h
 |n,.obj _ _ _,h=>by cases n<;>exact ff h
 |n,.fW _,h=>by cases n<;>exact ff h
theorem qo:∀(n:Nat)(w:W),Dw n w=true->wY true (toD w)
 |n,.aM,_=>.none
 |n,.bl i,_=>.bool i rfl
 |n,.str x,_=>.str x
 |n,.int _,h=>by cases n<;>exact ff h
 |n+1,.lst l,h=>by dsimp only[toD];rw[toDL_map];exact .list λx a=>by obtain⟨w,b,rfl⟩:=IR.mp a;exact qo n w (Hc.mp h w b)
 |n+1,.tup l,h=>by dsimp only[toD];rw[toDL_map];exact .tuple λx a=>by obtain⟨w,b,rfl⟩:=IR.mp a;exact qo n w (Hc.mp h w b)
 |0,.lst l,h=>ff h
 |0,.tup l,h=>ff h
 |n,.ty _,h=>by cases n<;>exact ff h
 |n,.cls _,h=>by cases n<;>exact ff h
 |n,.err _,h=>by cases n<;>exact ff h
 |n,.dct _ _,h=>by cases n<;>exact ff h
 |n,.obj _ _ _,h=>by cases n<;>exact ff h
 |n,.fW _,h=>by cases n<;>exact ff h
section
variable{X:Cx}
theorem qp(D:X.A.units+64<cLine)(g:Bool){a:List (Addr×Obj)}{s:Shared}{f:St}{H:Hp}{B:Addr->Prop}{x y:W}{m l:V}{v u:Value}{P:KP}{Q:VK}(I:Inv X a f H s)(r:RelV m v)(p:RelV l u)(C:aQ X.K B H x m)(z:aQ X.K B H y l)
 (h:((rP 9 x=true/\rP 9 y=true)\/(Dw 9 x=true/\Dw 9 y=true))/\∀b:Bool,(b=true↔x=y)->P (.bl (if g then !b else b)))(c:Cont X.K B H .s P Q):
 wpAny (model X.prog X.w) X.A (compareOp (if g then .NotEq else .Eq) v u) (EP X a f Q) X.xe s:=by
 obtain⟨i,h⟩:=h;have e:=EH 9 x (i.imp ZN ZN);have d:=EH 9 y (i.imp ZE ZE);have o:SeqAt.shaped (toD x)=true:=by unfold SeqAt.shaped;rw[toD_lay x e.1,Do (IH e.2 (by decide))];rfl
 have n:SeqAt.shaped (toD y)=true:=by unfold SeqAt.shaped;rw[toD_lay y d.1,Do (IH d.2 (by decide))];rfl
 have t:SeqAt.noMix (toD x) (toD y)=true:=by
  rcases i with⟨k,j⟩|⟨k,j⟩
  .exact qk _ _ (qm 9 x k) (qm 9 y j)
  .exact qk _ _ (qo 9 x k) (qo 9 y j)
 have q:=h (same (toD x) (toD y)) (toD_same x y e.1 d.1);cases g with
 |true=>exact JR D a s f H _ _ v u Q I r p ⟨_,_,EG e.1 C,EG d.1 z,⟨o,n,t⟩,c.now q (rQ _)⟩
 |false=>exact JQ D a s f H _ _ v u Q I r p ⟨_,_,EG e.1 C,EG d.1 z,⟨o,n,t⟩,c.now q (rQ _)⟩
theorem HF(p:X.A.units+64<cLine)(e:Bool):Bt X (compareOp (if e then .NotEq else .Eq)) (So e) mS:=by
 intro f s r H B x y E D v u P Q I d l g n m h c;have sc:∀a b:V,Jq a b=true->(∀k:Bool,k=decide (a=b)->Q (.bl (if e then !k else k)) H)->RelV a v->RelV b u->wpAny (model X.prog X.w) X.A (compareOp (if e then .NotEq else .Eq) v u) (EP X f r Q) X.xe s:=λa b C q z t=>by
  cases e with
  |true=>exact NI f s r H _ _ v u Q I z t ⟨C,q _ rfl⟩
  |false=>exact NH f s r H _ _ v u Q I z t ⟨C,q _ rfl⟩
 cases x with
 |int i=>
  cases y with
  |int j=>
   cases n.int;cases m.int;refine sc _ _ rfl (λk o=>c.now (w:=.bl (if e then !k else k)) ?_ (rQ _)) l g;rw[o,show decide (V.int i=V.int j)=decide (i=j)from by simp];exact h
  |_=>exact qp p e I l g n m h c
 |str i=>
  cases y with
  |str j=>
   cases n.str;cases m.str;refine sc _ _ rfl (λk o=>c.now (w:=.bl (if e then !k else k)) ?_ (rQ _)) l g;rw[o,show decide (V.str i=V.str j)=decide (i=j)from by simp];exact h
  |_=>exact qp p e I l g n m h c
 |bl i=>
  cases y with
  |bl j=>
   cases n.bl;cases m.bl;refine sc _ _ rfl (λk o=>c.now (w:=.bl (if e then !k else k)) ?_ (rQ _)) l g;rw[o,show decide (V.bl i=V.bl j)=decide (i=j)from by simp];exact h
  |_=>exact qp p e I l g n m h c
 |_=>exact qp p e I l g n m h c
theorem HG(i:Bool):Bt X (compareOp (if i then .IsNot else .Is)) (Sq i) mS:=by
 intro j s m H B x y n t v u P Q I d r o l C h c;have a:t=.aM->(∀k:Bool,k=decide (n=.aM)->P (.bl (if i then !k else k)))->wpAny (model X.prog X.w) X.A (compareOp (if i then .IsNot else .Is) v u) (EP X j m Q) X.xe s:=λe q=>by
  cases i with
  |true=>exact DR j s m H _ _ v u Q I r o ⟨e,c.now (q _ rfl) (rQ _)⟩
  |false=>exact Jr j s m H _ _ v u Q I r o ⟨e,c.now (q _ rfl) (rQ _)⟩
 cases y with
 |aM=>
  have e:=C.aM;cases x with
  |aM=>have g:=l.aM;refine a e λk f=>?_;rw[f,g];cases i<;>exact h
  |bl b=>have g:=l.bl;refine a e λk f=>?_;rw[f,g];cases i<;>exact h
  |int b=>have g:=l.int;refine a e λk f=>?_;rw[f,g];cases i<;>exact h
  |str b=>have g:=l.str;refine a e λk f=>?_;rw[f,g];cases i<;>exact h
  |lst b=>obtain⟨p,z,g,_⟩:=l.lst;refine a e λk f=>?_;rw[f,g];cases i<;>exact h
  |tup b=>obtain⟨p,z,g,_⟩:=l.tup;refine a e λk f=>?_;rw[f,g];cases i<;>exact h
  |err b=>have l:Rep X.K B H (.err b) n:=l;obtain⟨p,g,_⟩:=l;refine a e λk f=>?_;rw[f,g];cases i<;>exact h
  |_=>exact h.elim
 |_=>
  exfalso
  cases x<;>exact h
theorem f7{K:Frag}{A:Addr->Prop}{H:Hp}:∀{l:List Int}{vs:List V},ai K A H (l.map W.int) vs->vs=l.map V.int
 |[],_,h=>h.nil_inv
 |i::l,vs,h=>by obtain⟨x,r,rfl,b,a⟩:=h.cons_inv;rw[f7 a];have:x=.int i:=b;rw[this];rfl
theorem wZ{X:Cx}{b:List (Addr×Obj)}{g:St}{H:Hp}{s:Shared}{B:Addr->Prop}{a:Int}{ns:List Int}{v:V}(I:Inv X b g H s)(h:Rep X.K B H (.tup [.int a,.lst (ns.map W.int)]) v):
 ∃p t q items,v=.ref p/\IsTup s.heap p #[.int a t,.ref q]/\s.heap.IsList q items/\IntsAre items.toList ns:=by
 obtain⟨p,G,rfl,z,d⟩:=h;obtain⟨x,l,rfl,e,d⟩:=d.cons_inv;obtain⟨y,l,rfl,u,d⟩:=d.cons_inv;obtain rfl:=d.nil_inv;have e:x=.int a:=e;subst e;obtain⟨q,E,rfl,_,f,w⟩:=u;rw[f7 w]at f;obtain⟨o,r,i,_⟩:=I.tuple (.inl (.inl z));obtain⟨c,m,⟨o2,n,A,D,_,C⟩,_⟩:=I.list (.inl f.rd);cases r with
 |cons k r=>
 cases r with
 |cons j r=>
 cases r;obtain⟨t,rfl⟩:=k;cases j;exact⟨p,t,q,c.toArray,rfl,i,⟨o2,A,D,n,C⟩,intsAre_of m⟩
theorem J0{X:Cx}(hu:X.A.units+64<cLine):Bt X (compareOp .Lt) Ov mS:=by
 rintro z s Y H B x y M L v u P Q I d O N S R ⟨a,b,j,g,rfl,rfl,h⟩ c;obtain⟨p,t,q,items,rfl,U,D,J⟩:=wZ I (show Rep X.K B H (.tup [.int a,.lst (j.map W.int)]) M from S);obtain⟨p',r,Z,l,rfl,T,C,G⟩:=wZ I (show Rep X.K B H (.tup [.int b,.lst (g.map W.int)]) L from R);cases O;cases N;have o:X.A.in1.units<cLine:=by show X.A.units+1<_;omega
 refine HT.A3 (c:=if a=b then HT.lexLt j g else decide (a<b)) U T ?_ (by omega) ⟨.bl (if a=b then HT.lexLt j g else decide (a<b)),H,I,rfl,c.now h (rQ _)⟩;by_cases e:a=b
 .rw[Bz e];have k:=YW (A:=X.A.in1) (s:=s) a t b r;rw[show(a==b)=true by simpa using e]at k;refine .eq k ?_;have m:=sH D C J G o;by_cases f:j=g
  .rw[Do f]at m;have:HT.lexLt j g=false:=by rw[f];exact lU g
   rw[this];exact .eq m .nn
  .rw[KB f]at m;exact .ne m λi w E Q n=>HT.lT D C J G o n
 .rw[Bn e];have k:=YW (A:=X.A.in1) (s:=s) a t b r;rw[show(a==b)=false by simpa using e]at k;exact .ne k λi w E Q n=>HT.sf _ _ _ _ _ _ _ _ _ _ n
theorem OC(q:X.A.units+64<cLine):Bt X (compareOp .Lt) Ui mS:=by
 intro e s f H B x y k g v u P Q I d m l o n h c;cases x with
 |int i=>
  cases y with
  |int j=>exact qi (p:=λi j=>decide (i<j)) Hj e s f H B (.int i) (.int j) k g v u P Q I d m l o n h c
  |_=>exact h.elim
 |tup a=>
  cases y with
  |tup b=>exact J0 q e s f H B (.tup a) (.tup b) k g v u P Q I d m l o n h c
  |_=>exact h.elim
 |_=>exact h.elim
theorem uX(a:X.A.units+64<cLine)(op:CmpOp):Bt X (compareOp op) (eW op) mS:=by
 cases op with
 |Eq=>exact HF a false
 |NotEq=>exact HF a true
 |Lt=>exact OC a
 |LtE=>exact qi Hl
 |Gt=>exact qi Ho
 |GtE=>exact qi Hq
 |Is=>exact HG false
 |IsNot=>exact HG true
 |_=>exact λb s e H B x y g f v u P Q I d j i l k h c=>h.elim
end
noncomputable def ER(X:Cx)(b:Hp)(R:Addr->Prop):Prop:=∃E:XK,Passes (iO X.prog X.w) X E/\(∀C a,R C->ao b a->E (.ref C) none a)/\Bb X (λC a=>R C/\ao b a)
theorem zd{X:Cx}:Passes (iO X.prog X.w) X E0:=λ_ _ _ _ _ _ _ h=>by obtain⟨_,_,_,_,_,q⟩:=h;exact q.elim
theorem ER.none{X:Cx}{a:Hp}:ER X a λ_=>False:=⟨E0,zd,λ_ _ z=>z.elim,λ_ _ _ _ _ _ _ _ _ _ z=>z.1.elim⟩
abbrev RL:=(Addr->Prop)->Hp->Hp->W->V->Prop
abbrev WT:=Ev->(W->Prop)->Prop
noncomputable def Dy(K:Frag)(m:Md):RL:=λB H a w v=>bX K B H a m w v
noncomputable def Uk(K:Frag):RL:=λB _ a w v=>aQ K B a w v
noncomputable def tV(X:Cx)(M:Ms)(R:Addr->Prop)(e:RL)(t:WT):TE:=λb H Q=>∃A d c P,SR X.K M A d b H c/\ER X d R/\t c P/\∀w v a,P w->ao H a->e (FB A M b) H a w v->Q v a
noncomputable def Ul(X:Cx)(M:Ms)(R:Addr->Prop)(t:WT):TT:=λe H Q=>∃A c a P,SR X.K M A c e H a/\ER X c R/\t a P/\∀x d,P x->ao H d->∃b,x=.bl b/\Q b d
abbrev Sx:=(Addr->Prop)->Hp->List W->List V->Prop
noncomputable def Um(X:Cx)(M:Ms)(R:Addr->Prop)(g:Sx)(t:Ev->(List W->Prop)->Prop):TA:=λb H Q=>∃A f c P,SR X.K M A f b H c/\ER X f R/\t c P/\∀d e a,P d->ao H a->g (FB A M b) a d e->Q e a
abbrev VE(X:Cx)(M:Ms)(R:Addr->Prop)(m:Md)(e:Expr)(t:WT):Prop:=PE X e (tV X M R (Dy X.K m) t)
abbrev VB(X:Cx)(M:Ms)(R:Addr->Prop)(e:Expr)(t:WT):Prop:=PE X e (tV X M R (Uk X.K) t)
abbrev VT(X:Cx)(M:Ms)(R:Addr->Prop)(e:Expr)(t:WT):Prop:=PT X e (Ul X M R t)
noncomputable def j8(K:Frag)(B:Addr->Prop)(H:Hp):List W->List V->Prop
 |[],vs=>vs=[]
 |w::a,vs=>∃v r,vs=v::r/\aQ K B H w v/\j8 K B H a r
noncomputable def VR(K:Frag):Sx:=λB H a b=>ai K B H a b
noncomputable def Sy(K:Frag):Sx:=λB H a b=>j8 K B H a b
abbrev VA(X:Cx)(M:Ms)(R:Addr->Prop)(es:List Expr)(t:Ev->(List W->Prop)->Prop):Prop:=PA X es (Um X M R (VR X.K) t)
abbrev MS(X:Cx)(M:Ms)(R:Addr->Prop)(es:List Expr)(t:Ev->(List W->Prop)->Prop):Prop:=PA X es (Um X M R (Sy X.K) t)
theorem PE.imp{X:Cx}{e:Expr}{t t':TE}(h:PE X e t)(k:∀a H Q,t' a H Q->t a H Q):PE X e t':=λb s a H Q I w=>h b s a H Q I (k a H Q w)
theorem PT.imp{X:Cx}{e:Expr}{t t':TT}(h:PT X e t)(k:∀a H Q,t' a H Q->t a H Q):PT X e t':=λb s a H Q I w=>h b s a H Q I (k a H Q w)
theorem PW.imp{X:Cx}{e:Expr}{t t':TT}(h:PW X e t)(k:∀a H Q,t' a H Q->t a H Q):PW X e t':=λc b s a H Q I w=>h c b s a H Q I (k a H Q w)
theorem PA.imp{X:Cx}{e:List Expr}{t t':TA}(h:PA X e t)(k:∀a H Q,t' a H Q->t a H Q):PA X e t':=λc b s a H Q I w=>h c b s a H Q I (k a H Q w)
section
variable{X:Cx}{M:Ms}{R:Addr->Prop}{e a b c:Expr}{t ta tb tc:WT}{m:Md}{pos:Pos}
theorem ze(h:VE X M R m e t):VE X M R .s e t:=PE.imp h<|by rintro j H Q ⟨A,g,d,P,S,f,p,k⟩;exact⟨A,g,d,P,S,f,p,λw v i pw s r=>k w v i pw s (r.s S.dom)⟩
theorem OD(h:VE X M R m e t):VB X M R e t:=PE.imp h<|by rintro j H Q ⟨A,g,d,P,S,f,p,k⟩;exact⟨A,g,d,P,S,f,p,λw v i pw s r=>k w v i pw s (r.rep S.dom).b⟩
theorem Bu{i:Nat}(h:PE X e (gW i))(r:aG M i->(i,.f)∈M):VB X M R e (λd Q=>match look d i with|some w=>Q w|none=>False):=PE.imp h<|by
 rintro x H Q ⟨A,B,d,P,S,z,p,k⟩
 revert p
 cases l:look d i with
 |none=>exact λp=>p.elim
 |some w=>
  intro p;by_cases n:aG M i
  .obtain⟨F,O⟩:=S.ow;obtain⟨v,j,g⟩:=O.val i .f w (r n) l;obtain⟨y,q,o,rfl,rfl,_,u,s⟩:=g;exact⟨_,j,k _ _ H p (ao.refl H) ⟨q,o,rfl,.inl u,s⟩⟩
  .obtain⟨v,j,g⟩:=S.sh i w n l;exact⟨v,j,k _ _ H p (ao.refl H) g.b⟩
theorem J3{i:Nat}(h:PE X e (gW i))(g:¬aG M i):VE X M R .s e (λd Q=>match look d i with|some w=>Q w|none=>False):=PE.imp h<|by
 rintro n H Q ⟨A,q,d,P,S,o,p,k⟩
 revert p
 cases f:look d i with
 |none=>exact λp=>p.elim
 |some w=>intro p;obtain⟨v,l,j⟩:=S.sh i w g f;exact⟨v,l,k _ _ H p (ao.refl H) (.of j)⟩
noncomputable def qt(K:Frag)(i:Nat)(π:List jB):TE:=λd H Q=>∃v u,d[i]?=some (some v)/\rO K H v π u/\Q u H
theorem Bv{i:Nat}{π:List jB}{m h:Md}{K:Frag}{A:Fz}{s H:Hp}{f:St}{g:Ev}{w u:W}(S:SR K M A s f H g)(l:(i,m)∈M)(k:gH m π=some h)(n:look g i=some w)(j:bU w π=some u):
 ∃v d F,f[i]?=some (some v)/\rO K H v π d/\Fp K A.B H h u d F:=by
 obtain⟨F,O⟩:=S.ow;obtain⟨v,p,o⟩:=O.val i m w l n;obtain⟨d,z,x,y,_,r,q,_⟩:=Fp.path π m o k j;exact⟨v,d,x,p,r,q⟩
theorem tu{d:Ev}{i:Nat}{π:List jB}{Q:W->Prop}(h:match look d i with|some w=>(match bU w π with|some u=>Q u|none=>False)|none=>False):∃w u,look d i=some w/\bU w π=some u/\Q u:=by
 cases g:look d i with
 |none=>rw[g]at h;exact h.elim
 |some w=>
  rw[g]at h;dsimp only at h;cases f:bU w π with
  |none=>rw[f]at h;exact h.elim
  |some u=>rw[f]at h;exact⟨w,u,rfl,f,h⟩
theorem J5{i:Nat}{π:List jB}{j:Md}(h:PE X e (qt X.K i π))(r:(i,j)∈M)(o:gH j π=some .f):VB X M R e (λg Q=>match look g i with|some w=>(match bU w π with|some u=>Q u|none=>False)|none=>False):=PE.imp h<|by rintro C H Q ⟨A,I,g,P,S,G,p,k⟩;obtain⟨w,u,B,z,q⟩:=tu p;obtain⟨v,E,F,y,x,d⟩:=Bv S r o B z;obtain⟨D,n,l,rfl,rfl,_,d,s⟩:=d;exact⟨v,_,y,x,k _ _ H q (ao.refl H) ⟨n,l,rfl,.inl d,s⟩⟩
theorem J6{i:Nat}{π:List jB}{f:Md}(h:PE X e (qt X.K i π))(n:(i,f)∈M)(l:gH f π=some .s):VE X M R .s e (λd Q=>match look d i with|some w=>(match bU w π with|some u=>Q u|none=>False)|none=>False):=PE.imp h<|by rintro z H Q ⟨A,C,d,P,S,B,p,k⟩;obtain⟨w,u,y,x,q⟩:=tu p;obtain⟨v,j,F,r,o,g⟩:=Bv S n l y x;dsimp only[Fp]at g;exact⟨v,j,r,o,k _ _ H q (ao.refl H) (.of g.2)⟩
theorem zf{v:V}{w:W}(h:PE X e (tC v))(d:∀B H,Rep X.K B H w v):VE X M R .s e (λ_ Q=>Q w):=PE.imp h<|by rintro f H Q ⟨A,j,g,P,S,i,p,k⟩;exact k _ _ H p (ao.refl H) (.of (d _ _))
theorem Bw{op:Operator}(U:VB X M R a ta)(T:VB X M R b tb)(O:∀x y,EF op x y=m\/m=.s):VE X M R m (.BinOp a op b pos) (λi Q=>ta i λx=>tb i λy=>dR op x y Q):=by
 rintro j s g H Q I ⟨A,E,i,P,S,D,p,k⟩;refine wpAny_BinOp (bin U T I (R:=λn l f=>∃x y,dR op x y P/\ao H f/\aQ X.K (FB A M g) f x n/\aQ X.K (FB A M g) f y l) ⟨A,E,i,_,S,D,p,λx n H1 B C L=>⟨A,E,i,_,S.same C,D,B,λy l f q o J=>⟨x,y,q,C.trans o,aQ.same o L,J⟩⟩⟩ ?_);rintro v u o n l f Y rv N ⟨x,y,h,sm,B,q⟩;have d:=(S.same sm).dom;refine uW op j o g f (FB A M g) x y n l v u P Q Y d rv N B q h ?_;have c:Cont X.K (FB A M g) f m P Q:=λw z Z pw G r=>k w z Z pw (sm.trans G) (r.back sm λ_ z=>z);rcases O x y with e|e
 .rw[e];exact c
 .subst e;exact Cont.s d c
end
theorem bH{x:W}{Q:Bool->Prop}(h:truth x Q):∃b,x=.bl b/\Q b:=by
 cases x with
 |bl b=>exact⟨b,rfl,h⟩
 |_=>exact h.elim
theorem Rep.jD{K:Frag}{B:Addr->Prop}{H:Hp}{b:Bool}{v:V}(h:Rep K B H (.bl b) v):v=.bl b:=by dsimp only[Rep]at h;exact h
theorem Rep.int_inv{K:Frag}{B:Addr->Prop}{H:Hp}{b:Int}{v:V}(h:Rep K B H (.int b) v):v=.int b:=by dsimp only[Rep]at h;exact h
theorem bX.aW{K:Frag}{B:Addr->Prop}{H H':Hp}{w:W}{v:V}(h:bX K B H H' .s w v):Rep K B H' w v:=by obtain⟨F,_,_,h⟩:=h;obtain⟨rfl,h⟩:=h;exact h.less λp z=>.inl z
section
variable{X:Cx}{M:Ms}{R:Addr->Prop}{e a b c:Expr}{t ta tb tc:WT}{m:Md}{pos:Pos}{rest es:List Expr}
noncomputable def J7:W->Bool
 |.lst _=>true
 |_=>false
theorem J8{op:Operator}{x y:W}{P:W->Prop}(h:dR op x y P)(d:(op=.Add/\(J7 x=true\/J7 y=true))\/(op=.Mult/\J7 x=true)):EF op x y=.f:=by
 rcases d with⟨rfl,d⟩|⟨rfl,d⟩
 .cases x with
  |lst l=>rfl
  |_=>
   rcases d with d|d
   .cases d
   .cases y<;>first|exact h.elim|exact ff d
 .cases x<;>first|rfl|exact ff d
theorem uY{op:Operator}{G J:RL}(ha:PE X a (tV X M R G ta))(hb:PE X b (tV X M R J tb))(h1:∀B H H' w v,Dom B H->G B H H' w v->aQ X.K B H' w v)(h2:∀B H H' w v,Dom B H->J B H H' w v->aQ X.K B H' w v)
 (ho:∀B H H' w v B2 g VU L Y,G B H H' w v->J B2 g VU L Y->(op=.Add/\(J7 w=true\/J7 L=true))\/(op=.Mult/\J7 w=true)):VE X M R .f (.BinOp a op b pos) (λi Q=>ta i λx=>tb i λy=>dR op x y Q):=by
 rintro j s l H Q I ⟨A,U,i,P,S,T,p,k⟩;refine wpAny_BinOp (bin ha hb I (R:=λo n g=>∃x y,dR op x y P/\ao H g/\aQ X.K (FB A M l) g x o/\aQ X.K (FB A M l) g y n/\EF op x y=.f) ⟨A,U,i,_,S,T,p,λx o H1 E D O=>⟨A,U,i,_,S.same D,T,E,λy n g C q N=>⟨x,y,C,D.trans q,aQ.same q (h1 _ _ _ _ _ S.dom O),h2 _ _ _ _ _ (S.same D).dom N,J8 C (ho _ _ _ _ _ _ _ _ _ _ O N)⟩⟩⟩ ?_);rintro v u q o n g I2 rv ru ⟨x,y,h,sm,E,C,em⟩;have d:=(S.same sm).dom;refine uW op j q l g (FB A M l) x y o n v u P Q I2 d rv ru E C h ?_;rw[em];exact λw z H' pw Z r=>k w z H' pw (sm.trans Z) (r.back sm λ_ z=>z)
theorem J9(j:VE X M R .s a ta):VE X M R .s (.UnaryOp .USub a pos) (λd Q=>ta d λx=>match x with|.int i=>Q (.int (-i))|_=>False):=PE.imp (ND Jp j)<|by
 rintro q H Q ⟨A,o,d,P,S,l,p,k⟩;refine⟨A,o,d,_,S,l,p,λx r n f g h=>?_⟩;cases x with
 |int i=>exact⟨i,h.aW.int_inv,k _ _ n f g (.of (c9 _))⟩
 |_=>exact f.elim
theorem Ka(i:VE X M R .s a ta):VE X M R .s (.UnaryOp .Not a pos) (λd Q=>ta d λx=>truth x λb=>Q (.bl (!b))):=PE.imp (Ja i)<|by rintro o H Q ⟨A,n,d,P,S,j,p,k⟩;refine⟨A,n,d,_,S,j,p,λx q l f g h=>?_⟩;obtain⟨b,rfl,f⟩:=bH f;exact⟨b,h.aW.jD,k _ _ l f g (.of (rQ _))⟩
theorem Kc{op:CmpOp}(N:X.A.units+64<cLine)(O:behindInMarks op b=false)(U:VB X M R a ta)(T:VB X M R b tb):VE X M R .s (.Compare a [op] [b] pos) (λf Q=>ta f λx=>tb f λy=>eW op x y Q):=by rintro g s i H Q I ⟨A,D,f,P,S,C,p,k⟩;refine wpAny_Compare1 (bin U T I (R:=λl j d=>∃x y,eW op x y P/\ao H d/\aQ X.K (FB A M i) d x l/\aQ X.K (FB A M i) d y j) ⟨A,D,f,_,S,C,p,λx l H1 q B J=>⟨A,D,f,_,S.same B,C,q,λy j d o n G=>⟨x,y,o,B.trans n,aQ.same n J,G⟩⟩⟩ ?_) O;rintro v u n l j d Y rv L ⟨x,y,h,sm,q,o⟩;exact uX N op g n i d (FB A M i) x y l j v u P Q Y (S.same sm).dom rv L q o h λw z Z pw E r=>k w z Z pw (sm.trans E) (r.back sm λ_ z=>z)
theorem Kd{op:CmpOp}(hu:X.A.units+64<cLine)(hm:behindInMarks op b=false)(ha:VB X M R a ta)(hb:VB X M R b tb):VT X M R (.Compare a [op] [b] pos) (λj Q=>ta j λx=>tb j λy=>eW op x y Q):=by
 rintro d s i H Q I ⟨A,J,j,P,S,G,p,k⟩;have q:=bin ha hb I (R:=λo n g=>∃x y,eW op x y P/\ao H g/\aQ X.K (FB A M i) g x o/\aQ X.K (FB A M i) g y n) ⟨A,J,j,_,S,G,p,λx o H1 D B O=>⟨A,J,j,_,S.same B,G,D,λy n g C l N=>⟨x,y,C,B.trans l,aQ.same l O,N⟩⟩⟩
  (f:=compareOp op) (Q:=EP X d i λz E=>∃b,z=.bl b/\Q b E)<|by rintro v u l o n g I2 rv T ⟨x,y,h,sm,D,C⟩;refine uX hu op d l i g (FB A M i) x y o n v u _ _ I2 (S.same sm).dom rv T D C h λw z E pw L r=>?_;obtain⟨b,rfl,q⟩:=k w E pw (sm.trans L);exact⟨b,r.aW.jD,q⟩
 refine wpAny_isTrue_Compare1 (aZ q λv B q1=>aZ q1 λu l Z=>aZ Z λc s3 ⟨z,H3,I3,U,b,ez,Y⟩=>?_) hm;subst ez;cases U;exact Pl ⟨H3,I3,Y⟩
noncomputable def qu:CmpOp->Option (Int->Int->Bool)
 |.Lt=>some λi j=>decide (i<j)
 |.LtE=>some λi j=>decide (i<=j)
 |.Gt=>some λi j=>decide (j<i)
 |.GtE=>some λi j=>decide (j<=i)
 |_=>none
theorem jE{op:CmpOp}{p:Int->Int->Bool}(h:qu op=some p):gK X (compareOp op) (zY λi j=>.bl (p i j))/\∀x y P,dY op x y P->∃i j,x=.int i/\y=.int j/\P (.bl (p i j)):=by
 cases op with
 |Lt=>
  cases h;refine⟨Hj,λx y P h=>?_⟩;cases x<;>first|exact h.elim|(cases y<;>first|exact h.elim|exact⟨_,_,rfl,rfl,h⟩)
 |LtE=>
  cases h;refine⟨Hl,λx y P h=>?_⟩;cases x<;>first|exact h.elim|(cases y<;>first|exact h.elim|exact⟨_,_,rfl,rfl,h⟩)
 |Gt=>
  cases h;refine⟨Ho,λx y P h=>?_⟩;cases x<;>first|exact h.elim|(cases y<;>first|exact h.elim|exact⟨_,_,rfl,rfl,h⟩)
 |GtE=>
  cases h;refine⟨Hq,λx y P h=>?_⟩;cases x<;>first|exact h.elim|(cases y<;>first|exact h.elim|exact⟨_,_,rfl,rfl,h⟩)
 |_=>exact nn h
theorem w6{o p:CmpOp}{f g:Int->Int->Bool}(Y:qu o=some f)(U:qu p=some g){r:St}{H:Hp}{Q:VK}{A:Fz}{n:Hp}{d:Ev}{P:W->Prop}(S:SR X.K M A n r H d)(D:ER X n R)
 (h:ta d λx=>tb d λy=>dY o x y λz=>truth z λk=>if k=true then tc d λu=>dY p y u P else P (.bl false))(k:∀w v H',P w->ao H H'->Rep X.K (FB A M r) H' w v->Q v H'):
 uC (zY λi j=>.bl (f i j)) (zY λi j=>.bl (g i j)) (tV X M R (Dy X.K .s) ta) (tV X M R (Dy X.K .s) tb) (tV X M R (Dy X.K .s) tc) r H Q:=by
 refine⟨A,n,d,_,S,D,h,λx vx H1 T q L=>⟨A,n,d,_,S.same q,D,T,λy vy H2 l B J=>?_⟩⟩;obtain⟨i,j,rfl,rfl,l⟩:=(jE (X:=X) Y).2 _ _ _ l;have e1:=L.aW.int_inv;have G:=J.aW.int_inv;refine⟨i,j,e1,G,f i j,rfl,?_⟩;have l:if f i j=true then tc d λu=>dY p (.int j) u P else P (.bl false):=l
 cases E:f i j with
 |false=>rw[E]at l;exact k _ _ H2 l (q.trans B) (rQ _)
 |true=>rw[E]at l;refine⟨A,n,d,_,S.same (q.trans B),D,l,λu vu H3 C I N=>?_⟩;obtain⟨i',O,Z,rfl,C⟩:=(jE (X:=X) U).2 _ _ _ C;cases Z;exact⟨j,O,G,N.aW.int_inv,k _ _ H3 C ((q.trans B).trans I) (rQ _)⟩
theorem EI{o p:CmpOp}{f g:Int->Int->Bool}(j:qu o=some f)(i:qu p=some g)(B:VE X M R .s a ta)(q:VE X M R .s b tb)(n:VE X M R .s c tc)(l:lastMarks [o,p] [b,c]=false):
 VE X M R .s (.Compare a [o,p] [b,c] pos) (λd Q=>ta d λx=>tb d λy=>dY o x y λz=>truth z λk=>if k=true then tc d λu=>dY p y u Q else Q (.bl false)):=
 PE.imp (As (jE j).1 (jE i).1 B q n l)<|by rintro E H Q ⟨A,G,d,P,S,C,h,k⟩;exact w6 j i S C h λw v D pw s r=>k w v D pw s (.of r)
theorem EJ{o p:CmpOp}{f g:Int->Int->Bool}(j:qu o=some f)(i:qu p=some g)(C:VE X M R .s a ta)(B:VE X M R .s b tb)(n:VE X M R .s c tc)(l:lastMarks [o,p] [b,c]=false):
 VT X M R (.Compare a [o,p] [b,c] pos) (λd Q=>ta d λx=>tb d λy=>dY o x y λz=>truth z λk=>if k=true then tc d λu=>dY p y u Q else Q (.bl false)):=
 PT.imp (Au (jE j).1 (jE i).1 C B n l) λG H Q ⟨A,I,d,P,S,D,h,k⟩=>w6 j i S D h λw v E pw s r=>by obtain⟨b,rfl,q⟩:=k w E pw s;exact⟨b,r.jD,q⟩
theorem Ke(u:VE X M R .s a ta)(r:VE X M R .s (.BoolOp .And (b::rest) pos) tb):VE X M R .s (.BoolOp .And (a::b::rest) pos) (λd Q=>ta d λx=>truth x λk=>if k=true then tb d Q else Q (.bl false)):=
 PE.imp (I0 u r)<|by
  rintro B H Q ⟨A,j,d,P,S,i,h,k⟩;refine⟨A,j,d,_,S,i,h,λx D w g f o=>?_⟩;obtain⟨q,rfl,g⟩:=bH g;refine⟨q,o.aW.jD,?_⟩;cases q with
  |true=>exact⟨A,j,d,_,S.same f,i,g,λy C v p l n=>k _ _ v p (f.trans l) (n.back f λ_ z=>z)⟩
  |false=>exact k _ _ w g f (.of (rQ _))
theorem OE(u:VE X M R .s a ta)(r:VE X M R .s (.BoolOp .Or (b::rest) pos) tb):VE X M R .s (.BoolOp .Or (a::b::rest) pos) (λd Q=>ta d λx=>truth x λk=>if k=true then Q (.bl true)else tb d Q):=
 PE.imp (Nn u r)<|by
  rintro B H Q ⟨A,j,d,P,S,i,h,k⟩;refine⟨A,j,d,_,S,i,h,λx D w g f o=>?_⟩;obtain⟨q,rfl,g⟩:=bH g;refine⟨q,o.aW.jD,?_⟩;cases q with
  |false=>exact⟨A,j,d,_,S.same f,i,g,λy C v p l n=>k _ _ v p (f.trans l) (n.back f λ_ z=>z)⟩
  |true=>exact k _ _ w g f (.of (rQ _))
abbrev HH(X:Cx)(M:Ms)(R:Addr->Prop)(e:Expr)(t:WT):Prop:=PW X e (Ul X M R t)
theorem EK(d:VT X M R a ta):HH X M R (.BoolOp .And [a] pos) ta:=DJ d
theorem Kg(d:VT X M R a ta):HH X M R (.BoolOp .Or [a] pos) ta:=IX d
theorem Kh(p:VT X M R a ta)(o:HH X M R (.BoolOp .And (b::rest) pos) tb):HH X M R (.BoolOp .And (a::b::rest) pos) (λd Q=>ta d λx=>truth x λk=>if k=true then tb d Q else Q (.bl false)):=
 PW.imp (IY p o)<|by
  rintro u H Q ⟨A,j,d,P,S,i,h,k⟩;refine⟨A,j,d,_,S,i,h,λx s f g=>?_⟩;obtain⟨q,rfl,f⟩:=bH f;refine⟨q,rfl,?_⟩;cases q with
  |true=>exact⟨A,j,d,P,S.same g,i,f,λy r n l=>k _ r n (g.trans l)⟩
  |false=>obtain⟨b,e,q⟩:=k _ s f g;cases e;exact q
theorem OG(p:VT X M R a ta)(o:HH X M R (.BoolOp .Or (b::rest) pos) tb):HH X M R (.BoolOp .Or (a::b::rest) pos) (λd Q=>ta d λx=>truth x λk=>if k=true then Q (.bl true)else tb d Q):=
 PW.imp (Nk p o)<|by
  rintro u H Q ⟨A,j,d,P,S,i,h,k⟩;refine⟨A,j,d,_,S,i,h,λx s f g=>?_⟩;obtain⟨q,rfl,f⟩:=bH f;refine⟨q,rfl,?_⟩;cases q with
  |false=>exact⟨A,j,d,P,S.same g,i,f,λy r n l=>k _ r n (g.trans l)⟩
  |true=>obtain⟨b,e,q⟩:=k _ s f g;cases e;exact q
theorem Kl(i:VT X M R a ta):VT X M R (.UnaryOp .Not a pos) (λd Q=>ta d λx=>truth x λb=>Q (.bl (!b))):=PT.imp (IZ i)<|by rintro o H Q ⟨A,n,d,P,S,j,h,k⟩;refine⟨A,n,d,_,S,j,h,λx l f g=>?_⟩;obtain⟨q,rfl,f⟩:=bH f;obtain⟨b,e,z⟩:=k _ l f g;cases e;exact⟨q,rfl,z⟩
theorem qv(l:∀d,isTrue e X.env d=(do let v<-d;standAt e.pos;holding [v] (truthy v)))(h:VE X M R .s e t):VT X M R e t:=PT.imp (IV h l)<|by rintro q H Q ⟨A,p,f,P,S,n,h,k⟩;refine⟨A,p,f,P,S,n,h,λx r o j g i=>?_⟩;obtain⟨b,rfl,z⟩:=k _ o j g;exact⟨b,i.aW.jD,z⟩
theorem Km:VA X M R [] (λ_ Q=>Q []):=PA.imp bV<|by rintro d H Q ⟨A,i,f,P,S,g,h,k⟩;exact k [] [] H h (ao.refl H) .nil
theorem EL{tr:Ev->(List W->Prop)->Prop}(r:starEach (a::es) X.env=(false,eval a X.env)::starEach es X.env)(v:VE X M R .s a ta)(u:VA X M R es tr):VA X M R (a::es) (λd Q=>ta d λx=>tr d λg=>Q (x::g)):=
 PA.imp (aU v u r)<|by rintro y H Q ⟨A,n,d,P,S,l,h,k⟩;refine⟨A,n,d,_,S,l,h,λx z C q j o=>⟨A,n,d,_,S.same j,l,q,λg B w f i p=>?_⟩⟩;exact k _ _ w f (j.trans i) (.cons (o.aW.same i) p)
theorem EM:MS X M R [] (λ_ Q=>Q []):=PA.imp bV<|by rintro d H Q ⟨A,i,f,P,S,g,h,k⟩;exact k [] [] H h (ao.refl H) rfl
theorem Bx{tr:Ev->(List W->Prop)->Prop}(u:starEach (a::es) X.env=(false,eval a X.env)::starEach es X.env)(w:VB X M R a ta)(v:MS X M R es tr):MS X M R (a::es) (λd Q=>ta d λx=>tr d λg=>Q (x::g)):=
 PA.imp (aU w v u)<|by rintro z H Q ⟨A,n,d,P,S,l,h,k⟩;refine⟨A,n,d,_,S,l,h,λx o B s j q=>⟨A,n,d,_,S.same j,l,s,λg p y f i r=>?_⟩⟩;exact k _ _ y f (j.trans i) ⟨o,p,rfl,aQ.same i q,r⟩
theorem Kn{i:Ev->(List W->Prop)->Prop}(h:VA X M R es i):VE X M R .f (.List es pos) (λd Q=>i d λg=>g.length<=sizeLine/\Q (.lst g)):=PE.imp (Ax h)<|by rintro s H Q ⟨A,r,d,P,S,q,h,k⟩;refine⟨A,r,d,_,S,q,h,λg u v n j l=>?_⟩;refine⟨by rw[ai.len l];exact n.1,λp o=>?_⟩;exact k _ _ _ n.2 (j.trans (aF o _)) (.fresh j o l)
theorem Ko{g:Ev->(List W->Prop)->Prop}{n:Nat}(h:VA X M R es g):VE X M R .s (.Tuple es n pos) (λd Q=>g d λf=>f.length<=sizeLine/\Q (.tup f)):=PE.imp (uI h)<|by rintro u H Q ⟨A,r,d,P,S,q,h,k⟩;refine⟨A,r,d,_,S,q,h,λf v w j o i=>?_⟩;refine⟨by rw[ai.len i];exact j.1,λp l=>?_⟩;exact k _ _ _ j.2 (o.trans (aF l _)) (.of (sY aL (ai.same (aF l _) i)))
theorem xg{K:Frag}{B:Addr->Prop}{H:Hp}{l:List W}{vs:List V}{i:Int}{w:W}(h:ai K B H l vs)(e:jo l i=some w):∃v,jo vs i=some v/\Rep K B H w v:=by
 unfold jo at e⊢;rw[h.len];cases d:uh l.length i with
 |none=>rw[d]at e;exact nn e
 |some j=>rw[d]at e;exact h.get e
theorem aQ.fW{K:Frag}{B:Addr->Prop}{H:Hp}{ns:List Int}{v:V}(h:aQ K B H (.fW ns) v):∃p,v=.ref p/\dU K H p (ns.map V.int):=by
 have h:Rep K B H (.fW ns) v:=h;obtain⟨p,e,h⟩:=h;refine⟨p,e,?_⟩;rcases h with⟨o,h⟩|h
 .exact .inl (.inr ⟨o,h⟩)
 .rcases h with(h|⟨o,h⟩)|h
  .cases h
  .cases h
  .exact .inr h
theorem xh{ns:List Int}{i n:Int}(e:jo ns i=some n):jo (ns.map V.int) i=some (.int n):=by
 unfold jo at e⊢;rw[Ap];cases d:uh ns.length i with
 |none=>rw[d]at e;exact nn e
 |some j=>rw[d]at e;show(ns.map V.int)[j]?=_;have e:ns[j]?=some n:=e;rw[Dx,e];rfl
theorem OH(J:iI b)(L:VB X M R a ta)(K:VE X M R .s b tb):VE X M R .s (.Subscript a b pos) (λf Q=>ta f λx=>tb f λy=>HE x y Q):=PE.imp (AD uJ L K J)<|by
 rintro N H Q ⟨A,G,f,P,S,E,h,k⟩;refine⟨A,G,f,_,S,E,h,λx T Y I q g=>⟨A,G,f,_,S.same q,E,I,λy O D d o u=>?_⟩⟩;have g:=aQ.same o g;cases x with
 |lst l=>
  cases y with
  |int i=>obtain⟨p,r,rfl,j,B⟩:=g.lst;obtain⟨w,e,d⟩:=d;obtain⟨v,C,z⟩:=xg B e;exact .inl ⟨p,r,i,v,rfl,u.aW.int_inv,.inl j.rd,C,k _ _ D d (q.trans o) (.of z)⟩
  |_=>exact d.elim
 |tup l=>
  cases y with
  |int i=>obtain⟨p,r,rfl,j,B⟩:=g.tup;obtain⟨w,e,d⟩:=d;obtain⟨v,C,z⟩:=xg B e;exact .inr (.inl ⟨p,r,i,v,rfl,u.aW.int_inv,j,C,k _ _ D d (q.trans o) (.of z)⟩)
  |_=>exact d.elim
 |fW U=>
  cases y with
  |int i=>obtain⟨p,rfl,j⟩:=g.fW;obtain⟨n,e,d⟩:=d;exact .inl ⟨p,_,i,_,rfl,u.aW.int_inv,j,xh e,k _ _ D d (q.trans o) (.of (c9 _))⟩
  |_=>exact d.elim
 |_=>exact d.elim
theorem HJ{K:Frag}{B:Addr->Prop}{H:Hp}{l:List W}{vs:List V}(h:ai K B H l vs)(d f:Option Int):ai K B H (iR l d f) (yJ vs d f):=by unfold iR yJ;rw[h.len];exact(h.drop _).take _
noncomputable def OI(X:Cx)(M:Ms)(R:Addr->Prop)(t:Ev->(Option Int->Prop)->Prop):TO:=λh H Q=>∃A f d P,SR X.K M A f h H d/\ER X f R/\t d P/\∀o g,P o->ao H g->Q o g
theorem PO.imp{e:Option Expr}{t t':TO}(h:PO X e t)(k:∀d H Q,t' d H Q->t d H Q):PO X e t':=λf s d H Q I w=>h f s d H Q I (k d H Q w)
theorem EN:PO X none (OI X M R λ_ Q=>Q none):=PO.imp D3<|by rintro d H Q ⟨A,i,f,P,S,g,h,k⟩;exact k none H h (ao.refl H)
theorem EO(l:VE X M R .s a ta):PO X (some a) (OI X M R λd Q=>ta d λy=>match y with|.int i=>Q (some i)|_=>False):=PO.imp (wF l)<|by
 rintro q H Q ⟨A,p,d,P,S,n,h,k⟩;refine⟨A,p,d,_,S,n,h,λx r o f g j=>?_⟩;cases x with
 |int i=>exact⟨i,j.aW.int_inv,k _ o f g⟩
 |_=>exact f.elim
theorem OJ{B C:Option Expr}{p2:Pos}{y z:Ev->(Option Int->Prop)->Prop}(I:VB X M R a ta)(s:PO X B (OI X M R y))(o:PO X C (OI X M R z)):VE X M R .f (.Subscript a (.Slice B C none p2) pos) (λd Q=>ta d λx=>y d λl=>z d λh=>QX x l h Q):=
 PE.imp (AB D7 I s o)<|by
  rintro K H Q ⟨A,w,d,P,S,v,h,k⟩;refine⟨A,w,d,_,S,v,h,λx N U G i r=>⟨A,w,d,_,S.same i,v,G,λl T s g=>⟨A,w,d,_,S.same (i.trans g),v,s,λh O o j=>?_⟩⟩⟩;have r:=aQ.same (g.trans j) r;cases x with
  |lst L=>obtain⟨p,D,rfl,u,J⟩:=r.lst;refine⟨p,D,rfl,.inl u.rd,λq n=>?_⟩;exact k _ _ _ o (((i.trans g).trans j).trans (aF n _)) (.fresh ((i.trans g).trans j) n (HJ J l h))
  |fW E=>obtain⟨p,rfl,u⟩:=r.fW;refine⟨p,_,rfl,u,λq n=>?_⟩;exact k _ _ _ o (((i.trans g).trans j).trans (aF n _)) (.fresh ((i.trans g).trans j) n (HJ (ai.Ey E) l h))
  |_=>exact o.elim
theorem Kp{st:Expr}{o:WT}{p2:Pos}(D:VB X M R a ta)(C:VE X M R .s st o):VE X M R .f (.Subscript a (.Slice none none (some st) p2) pos) (λd Q=>ta d λx=>o d λy=>y=.int (-1)/\match x with|.lst l=>Q (.lst l.reverse)|_=>False):=
 PE.imp (JT D (wF C))<|by
  rintro I H Q ⟨A,v,d,P,S,u,h,k⟩;refine⟨A,v,d,_,S,u,h,λx L O B j n=>⟨A,v,d,_,S.same j,u,B,λy K N g i z=>?_⟩⟩;obtain⟨rfl,g⟩:=g;refine⟨-1,z.aW,rfl,?_⟩;have n:=aQ.same i n;cases x with
  |lst J=>obtain⟨p,w,rfl,G,E⟩:=n.lst;exact⟨p,w,rfl,.inl G.rd,λq r=>k _ _ _ g ((j.trans i).trans (aF r _)) (.fresh (j.trans i) r E.rev)⟩
  |_=>exact g.elim
noncomputable def OL:BI->Md
 |.list=>.f
 |_=>.s
noncomputable def eX(X:Cx)(f:Value)(b:BI):Prop:=
 ∀(d:List (Addr×Obj))(s:Shared)(g:St)(H:Hp)(B:Addr->Prop)(h:List W)(i:List V)(j:List Value)(P:KP)(Q:VK),Inv X d g H s->Dom B H->Vals i j->j8 X.K B H h i->l7 b h P->Cont X.K B H (OL b) P Q->
  wpAny (model X.prog X.w) X.A (call f j) (EP X d g Q) X.xe s
noncomputable def Kq(K:Frag)(b:BI):List V->Hp->VK->Prop:=λf H Q=>∃(B:Addr->Prop)(d:List W)(P:KP),Dom B H/\j8 K B H d f/\l7 b d P/\Cont K B H (OL b) P Q
theorem eX.r{f:Value}{b:BI}(h:eX X f b):bN X f (Kq X.K b):=by rintro g s i H l n Q I r ⟨B,j,P,d,p,o,k⟩;exact h g s i H B j l n P Q I d r p o k
theorem dI{K:Frag}{B:Addr->Prop}{H:Hp}{w:W}{vs:List V}(h:j8 K B H [w] vs):∃v,vs=[v]/\aQ K B H w v:=by obtain⟨v,r,rfl,f,d⟩:=h;cases(show r=[]from d);exact⟨v,rfl,f⟩
theorem xj{K:Frag}{B:Addr->Prop}{H:Hp}{w f:W}{vs:List V}(h:j8 K B H [w,f] vs):∃v d,vs=[v,d]/\aQ K B H w v/\aQ K B H f d:=by obtain⟨v,r,rfl,j,i⟩:=h;obtain⟨d,rfl,g⟩:=dI i;exact⟨v,d,rfl,j,g⟩
theorem cw_len:eX X (.builtin "len") .len:=by
 intro f s k H B q u n P Q I d r o h c
 match q,h with
 |[.lst l],h=>obtain⟨v,rfl,g⟩:=dI o;obtain⟨p,i,rfl,g,j⟩:=g.lst;exact fE f s k H _ n Q I r ⟨p,i,rfl,.inl (.inl g.rd),c.now (w:=.int i.length) (by rw[j.len];exact h) (c9 _)⟩
 |[.tup l],h=>obtain⟨v,rfl,g⟩:=dI o;obtain⟨p,i,rfl,g,j⟩:=g.tup;exact fE f s k H _ n Q I r ⟨p,i,rfl,.inr g,c.now (w:=.int i.length) (by rw[j.len];exact h) (c9 _)⟩
 |[.fW ns],h=>obtain⟨v,rfl,g⟩:=dI o;obtain⟨p,rfl,j⟩:=g.fW;exact fE f s k H _ n Q I r ⟨p,_,rfl,.inl j,c.now (w:=.int ns.length) h (by rw[Ap];exact c9 _)⟩
theorem cw_abs:eX X (.builtin "abs") .abs:=by
 intro f s g H B j o k P Q I d r l h c
 match j,h with
 |[.int i],h=>obtain⟨v,rfl,n⟩:=dI l;cases n.int;exact Av f s g H _ k Q I r ⟨i,rfl,c.now h (c9 _)⟩
theorem cw_max(q:X.calm=true):eX X (.builtin "max") .max2:=by
 intro f s n H B w D o P Q I d r u h c
 match w,h with
 |[.int i,.int j],h=>obtain⟨v,E,rfl,g,k⟩:=xj u;cases g.int;cases k.int;exact yz q f s n H _ o Q I r ⟨i,j,rfl,c.now h (c9 _)⟩
 |[.lst l],h=>obtain⟨x,rfl,y,h⟩:=h;obtain⟨v,rfl,g⟩:=dI u;obtain⟨p,C,rfl,g,k⟩:=g.lst;have e:=ai.ints k;subst e;exact yX q f s n H _ o Q I r ⟨p,x,rfl,.inl g.rd,y,λm A z=>c.now (h m A z) (c9 _)⟩
theorem cw_dvm:eX X (.builtin "divmod") .QW:=by
 intro f s g H B k w l P Q I d r o h c
 match k,h with
 |[.int i,.int j],h=>obtain⟨v,x,rfl,u,p⟩:=xj o;cases u.int;cases p.int;exact r9 f s g H _ l Q I r ⟨i,j,rfl,h.1,λq n=>c _ _ _ h.2 (aF n _) (.of (sY aL (.cons (c9 _) (.cons (c9 _) .nil))))⟩
theorem cw_min(q:X.calm=true):eX X (.builtin "min") .min2:=by
 intro f s n H B w D o P Q I d r u h c
 match w,h with
 |[.int i,.int j],h=>obtain⟨v,E,rfl,g,k⟩:=xj u;cases g.int;cases k.int;exact yC q f s n H _ o Q I r ⟨i,j,rfl,c.now h (c9 _)⟩
 |[.lst l],h=>obtain⟨x,rfl,y,h⟩:=h;obtain⟨v,rfl,g⟩:=dI u;obtain⟨p,C,rfl,g,k⟩:=g.lst;have e:=ai.ints k;subst e;exact yW q f s n H _ o Q I r ⟨p,x,rfl,.inl g.rd,y,λm A z=>c.now (h m A z) (c9 _)⟩
theorem cw_sum(o:X.calm=true):eX X (.builtin "sum") .sum:=by
 intro f s i H B j x k P Q I d r q h c
 match j,h with
 |[.lst l],h=>obtain⟨n,rfl,h⟩:=h;obtain⟨v,rfl,g⟩:=dI q;obtain⟨p,w,rfl,g,u⟩:=g.lst;have e:=ai.ints u;subst e;exact yP o f s i H _ k Q I r ⟨p,n,rfl,.inl g.rd,c.now h (c9 _)⟩
theorem cw_all(n:X.calm=true):eX X (.builtin "all") .all:=by
 intro f s i H B j x k P Q I d r o h c
 match j,h with
 |[.lst l],h=>obtain⟨u,rfl,h⟩:=h;obtain⟨v,rfl,g⟩:=dI o;obtain⟨p,w,rfl,g,q⟩:=g.lst;have e:=ai.Uh q;subst e;exact yQ n f s i H _ k Q I r ⟨p,u,rfl,.inl g.rd,c.now h (rQ _)⟩
theorem cw_any(n:X.calm=true):eX X (.builtin "any") .any:=by
 intro f s i H B j x k P Q I d r o h c
 match j,h with
 |[.lst l],h=>obtain⟨u,rfl,h⟩:=h;obtain⟨v,rfl,g⟩:=dI o;obtain⟨p,w,rfl,g,q⟩:=g.lst;have e:=ai.Uh q;subst e;exact yZ n f s i H _ k Q I r ⟨p,u,rfl,.inl g.rd,c.now h (rQ _)⟩
theorem cw_list:eX X (.type "list") .list:=by
 intro f s n H B w x o P Q I d r u h c
 match w,h with
 |[.lst l],h=>obtain⟨v,rfl,g⟩:=dI u;obtain⟨p,j,rfl,g,k⟩:=g.lst;exact iJ f s n H _ o Q I r ⟨p,j,rfl,.inl (.inl g.rd),λq i=>c _ _ _ h (aF i _) (.fresh (ao.refl H) i k)⟩
 |[.tup l],h=>obtain⟨v,rfl,g⟩:=dI u;obtain⟨p,j,rfl,g,k⟩:=g.tup;exact iJ f s n H _ o Q I r ⟨p,j,rfl,.inr g,λq i=>c _ _ _ h (aF i _) (.fresh (ao.refl H) i k)⟩
theorem cw_int:eX X (.type "int") .int:=by
 intro f s g H B j o k P Q I d r l h c
 match j,h with
 |[.bl i],h=>obtain⟨v,rfl,n⟩:=dI l;cases n.bl;exact yD f s g H _ k Q I r (.inr ⟨i,rfl,c.now h (c9 _)⟩)
theorem cw_tuple:eX X (.type "tuple") .tuple:=by
 intro f s k H B x y n P Q I d r u h c
 match x,h with
 |[.lst l],h=>obtain⟨v,rfl,g⟩:=dI u;obtain⟨p,i,rfl,g,j⟩:=g.lst;exact gM f s k H _ n Q I r ⟨p,i,rfl,.inl ⟨.inl g.rd,λq o=>c _ _ _ h (aF o _) (.of (sY aL (ai.same (aF o _) j)))⟩⟩
 |[.tup l],h=>obtain⟨v,rfl,g⟩:=dI u;obtain⟨p,i,rfl,w,j⟩:=g.Ow;have g:gJ X.K H p i:=gJ.of w;exact gM f s k H _ n Q I r ⟨p,i,rfl,.inr ⟨g,c.now h (sY w j)⟩⟩
noncomputable def tw(K:Frag):Prop:=∀a∈["NoneType","bool","int","str","list","tuple"],∀b∈["int","bool","tuple","list","str","dict"],kitOne K (.type a) (.type b)=some (qh a b)
theorem cw_isi(O:tw X.K):bN X (.builtin "isinstance") (λvs H Q=>∃(B:Addr->Prop)(w:W)(n:String)(P:KP),n∈["int","bool","tuple","list","str","dict"]/\j8 X.K B H [w,.ty n] vs/\l7 .uo [w,.ty n] P/\Cont X.K B H .s P Q):=by
 rintro k s A H vs us Q I r ⟨B,w,n,P,N,S,h,c⟩;obtain⟨v,Z,rfl,i,T⟩:=xj S;cases T.ty;obtain⟨a,d,h⟩:=h;have x:Q (.bl (qh a n)) H:=c.now h (rQ _);obtain⟨E,D,rfl,f,G⟩:=vals2 r;cases(show D=Value.type n from G);have g:∀q,q∈["NoneType","bool","int","str","list","tuple"]->a=q->kitOne X.K (.type q) (.type n)=some (qh a n):=λq m e=>by rw[e];exact O q m n N
 have j:∀y:Tok,EP X k A Q (.bool (qh a n)) {s with toks:=y}:=λy=>⟨.bl _,H,I.tok _,rfl,x⟩;cases w with
 |aM=>
  cases i.aM;cases d;exact eO I f .aM (g _ (by simp) rfl) j
 |bl b=>
  cases i.bl;cases d;exact eO I f (.bl b) (g _ (by simp) rfl) j
 |int b=>
  cases i.int;cases d;exact eO I f (.int b) (g _ (by simp) rfl) j
 |str b=>
  cases i.str;cases d;exact eO I f (.str b) (g _ (by simp) rfl) j
 |lst l=>obtain⟨p,C,rfl,u,J⟩:=i.lst;cases d;exact eO I f (.lst u.at) (g _ (by simp) rfl) j
 |tup l=>obtain⟨p,C,rfl,u,J⟩:=i.tup;cases d;cases(show E=Value.ref p from f);obtain⟨L,r',⟨o,Y,U,_⟩,_⟩:=I.tuple u;exact PH PySem.W.kitx_tuple I.lC ⟨o,Y,U⟩ (g _ (by simp) rfl) (λz=>nomatch z) j
 |_=>exact nn d
end
noncomputable def uZ(K:Frag)(n:Nat)(m:Md)(sp:aX):Sp:=λc H Q E=>∃A a P R,a.length=n/\ai K A H a c/\Dom A H/\sp a P R/\Cont K A H m P Q/\∀C b,R C->ao H b->E (.ref C) none b
noncomputable def VV(K:Frag)(n:Nat)(g:Md)(sp:aX):Sp:=λh H Q E=>∃(ab:Addr->Prop)(F:List Addr)(f:W)(e:V)(d:List W)(b:List V)(P:W->Prop)(R:Addr->Prop),h=e::b/\d.length+1=n/\F.Nodup/\(∀p∈F,¬ab p)/\Dom ab H/\Fp K (λp=>ab p\/p∈F) H g f e F/\ai K (λp=>ab p\/p∈F) H d b/\sp (f::d) P R/\
 (∀w y v c a,P (.tup [w,y])->um (·∈F) H a->c.Nodup->(∀p∈c,p∈F\/H p=none)->Fp K (λp=>ab p\/p∈c) a g y e c->Rep K (λp=>ab p\/p∈c) a w v->Q v a)/\(∀C a,R C->um (·∈F) H a->E (.ref C) none a)
noncomputable def ur(K:Frag)(n:Nat)(m:Md)(sp:aX):Sp:=
 match m with
 |.io a=>VV K n a sp
 |m=>uZ K n m sp
inductive cS(P:Program)(w:World)(K:Frag)(mg:Str->Option Value)(base:Heap):Nat->Value->Nat->Sp->Prop where
 |fn {k:Nat} {f:Addr} {fd:FuncData} {ps:List Str} {sp:Sp} (kp:keepIn K (.ref f)=true) (b:Binds K fd ps []) (F:bJ P w K mg base (iO P w) k f fd ps sp):cS P w K mg base k (.ref f) ps.length sp
 |mk {k n:Nat} {C f:Addr} {fd:FuncData} {ps:List Str} {sp Uo:Sp} (M:Mk K C f) (b:Binds K fd ps []) (F:bJ P w K mg base (iO P w) k f fd ps Uo)
  (h:∀vs H Q E,sp vs H Q E->∀x dx,H x=none->H dx=none->dx≠x->Uo (.ref x::vs) (upd (upd H dx (.own x)) x (.ins C dx [])) (λv H2=>v=.aM/\Q (.ref x) H2) E):cS P w K mg base (k+1) (.ref C) n sp
theorem cS.keep{P:Program}{w:World}{K:Frag}{b:Str->Option Value}{base:Heap}{k n:Nat}{a:Value}{sp:Sp}(c:cS P w K b base k a n sp):keepIn K a=true:=by
 cases c with
 |fn kp _ _=>exact kp
 |mk M _ _ _=>exact M.kp
theorem cS.run{X:Cx}{k n:Nat}{i:Value}{sp:Sp}{a:List (Addr×Obj)}{d:St}{H:Hp}{s:Shared}{Q:VK}{E:XK}{e:List Value}{vs:List V}(c:cS X.prog X.w X.K X.mg X.base k i n sp)(g:bW k X.A)(f:Passes (iO X.prog X.w) X E)(I:Inv X a d H s)(r:Vals vs e)(h:sp vs H Q E):
 wpAny (model X.prog X.w) X.A (call i e) (EP X a d Q) X.xe s:=by
 cases c with
 |fn q b F=>exact Ju (ds:=[]) (DV:=[]) F g b .nil f I r (by rw[Y7];exact h)
 |mk M b F l=>exact Ay (ds:=[]) (DV:=[]) M F g b .nil f I r (λx p o m j=>by rw[Y7];exact l vs H Q E h x p o m j)
section
variable{X:Cx}{M:Ms}{R:Addr->Prop}{e a b c:Expr}{t ta tb tc:WT}{m:Md}{pos p:Pos}{es:List Expr}{x:Str}
theorem xm{G:Ev->(List W->Prop)->Prop}{k n:Nat}{O:Value}{sp:aX}(F:cS X.prog X.w X.K X.mg X.base k O n (uZ X.K n m sp))(hr:bW k X.A)(hg:Gl X x)(hm:X.mg x=some O)
 (hn:∀d P R,sp d P R->d.length=n)(ha:VA X M R (e::es) G)(y:(x==("__debug__":Str))=false)(he:starEach (e::es) X.env=(false,eval e X.env)::starEach es X.env)(u:(backTo pos (starEach es X.env)).any (·.1)=false):
 VE X M R m (.Call (.Name x p) (e::es) [] pos) (λj Q=>G j λd=>sp d Q R):=by
 rintro f s i H Q I ⟨A,H0,j,P,S,er,h,Y⟩;obtain⟨E,L,N,hR⟩:=er;refine X5 (pN I hg hm ?_ y);refine PySem.W.callWith_K (h₀:=X.base) I.ok.mod.QF F.keep (aZ (ha pos f s i H (λl g=>∃d,ao H g/\ai X.K (FB A M i) g d l/\sp d P R) I ⟨A,H0,j,_,S,⟨E,L,N,hR⟩,h,λd l g Z J q=>⟨d,J,q,Z⟩⟩) λus J ⟨l,g,I1,r,d,sm,q,D⟩=>⟨I1.lC,?_⟩) he u;exact F.run hr L I1 r ⟨FB A M i,d,P,R,hn _ _ _ D,q,(S.same sm).dom,D,λw v B pw o U=>Y w v B pw (sm.trans o) (U.back sm λ_ z=>z),λC B T o=>N C B T (S.sm.trans (sm.trans o))⟩
theorem Kr{n:Ev->(List W->Prop)->Prop}{l:BI}{o:String}(I:bN X (.builtin o) (Kq X.K l))(E:Gl X x)(D:X.mg x=none)(B:bootBuiltins x=some (.builtin o))(J:MS X M R (e::es) n)(C:x≠"__name__")(j:(x==("__debug__":Str))=false)
 (G:starEach (e::es) X.env=(false,eval e X.env)::starEach es X.env)(i:(backTo pos (starEach es X.env)).any (·.1)=false):VE X M R (OL l) (.Call (.Name x p) (e::es) [] pos) (λd Q=>n d λf=>l7 l f Q):=
 PE.imp (lI I E D B J C j G i)<|by rintro q H Q ⟨A,N,d,P,S,L,h,k⟩;exact⟨A,N,d,_,S,L,h,λf T U y g u=>⟨FB A M q,f,P,(S.same g).dom,u,y,λw v O pw s r=>k w v O pw (g.trans s) (r.back g λ_ z=>z)⟩⟩
theorem Ks{n:Ev->(List W->Prop)->Prop}{l:BI}{o:String}(I:bN X (.type o) (Kq X.K l))(E:Gl X x)(D:X.mg x=none)(B:bootBuiltins x=some (.type o))(J:MS X M R (e::es) n)(C:x≠"__name__")(j:(x==("__debug__":Str))=false)
 (G:starEach (e::es) X.env=(false,eval e X.env)::starEach es X.env)(i:(backTo pos (starEach es X.env)).any (·.1)=false):VE X M R (OL l) (.Call (.Name x p) (e::es) [] pos) (λd Q=>n d λf=>l7 l f Q):=
 PE.imp (oO I E D B J C j G i)<|by rintro q H Q ⟨A,N,d,P,S,L,h,k⟩;exact⟨A,N,d,_,S,L,h,λf T U y g u=>⟨FB A M q,f,P,(S.same g).dom,u,y,λw v O pw s r=>k w v O pw (g.trans s) (r.back g λ_ z=>z)⟩⟩
theorem Ku{n:String}(Y:tw X.K)(j:n∈["int","bool","tuple","list","str","dict"])(Z:Gl X x)(U:X.mg x=none)(O:bootBuiltins x=some (.builtin "isinstance"))(ha:VB X M R a ta)(hb:VB X M R b (λ_ Q=>Q (.ty n)))(T:x≠"__name__")(l:(x==("__debug__":Str))=false)
 (u:starEach [a,b] X.env=(false,eval a X.env)::starEach [b] X.env)(VW:starEach [b] X.env=(false,eval b X.env)::starEach [] X.env)(i:(backTo pos (starEach [b] X.env)).any (·.1)=false):
 VE X M R .s (.Call (.Name x p) [a,b] [] pos) (λd Q=>ta d λw=>l7 .uo [w,.ty n] Q):=
 PE.imp (lI (cw_isi Y) Z U O (aU ha (aU hb bV VW) u) T l u i)<|by rintro C H Q ⟨A,B,d,P,S,y,h,k⟩;refine⟨A,B,d,_,S,y,h,λw v H1 N g L=>⟨A,B,d,λo=>o=.ty n,S.same g,y,rfl,λo q H2 G f J=>?_⟩⟩;subst G;exact⟨FB A M C,w,n,P,j,⟨v,[q],rfl,aQ.same f L,q,[],rfl,J,rfl⟩,N,λD E H' pw I r=>k D E H' pw ((g.trans f).trans I) (r.back (g.trans f) λ_ z=>z)⟩
end
inductive zg(K:Frag)(br:Bool)(B:Addr->Prop)(H:Hp):It->List W->Prop where
 |lst {a:Addr} {vs:List V} {ws:List W} (h:Rz H a (.lst vs)) (n:br=false->¬B a) (r:ai K B H ws vs):zg K br B H (QK K a) ws
 |tup {a:Addr} {vs:List V} {ws:List W} (h:gJ K H a vs) (r:ai K B H ws vs):zg K br B H (Ry K a) ws
 |jq (lo:Int) (n:Nat):zg K br B H (Nz lo n) (cR lo 1 n)
 |ES (lo st:Int) (n:Nat):zg K br B H (QU lo st n) (cR lo st n)
 |qg {a:Addr} {vs:List V} {ws:List W} (h:Rz H a (.lst vs)) (n:br=false->¬B a) (r:ai K B H ws vs):zg K br B H (Sh K a) (fV ws)
 |rev {a:Addr} {vs:List V} {ws:List W} (h:Rz H a (.lst vs)) (n:br=false->¬B a) (r:ai K B H ws vs):zg K br B H (Sj K a vs.length) ws.reverse
structure IW(K:Frag)(B:Addr->Prop)(Hs:Hp)(J:It)(ws:List W):Prop where
 go:∀i H,ao Hs H->i<ws.length->J.go i H
 yl:∀i H x H' w,ao Hs H->ws[i]?=some w->J.Ny i H x H'->ao H H'/\∀B':Addr->Prop,(∀p o,Hs p=some o->B' p->B p)->Rep K B' H' w x
 st:∀i H,ao Hs H->i=ws.length->J.stop i H
theorem iU(a st:Int)(n:Nat):(cR a st n).length=n:=by unfold cR;simp
theorem tD{b st:Int}{n i:Nat}{w:W}(h:(cR b st n)[i]?=some w):w=.int (b+i*st)/\i<n:=by
 unfold cR at h;rw[Dx]at h;by_cases a:i<n
 .rw[Oy a]at h;cases h;exact⟨rfl,a⟩
 .rw[FM (by simpa using a)]at h;cases h
theorem oY(l:List W):(fV l).length=l.length:=by unfold fV;simp
theorem jF{l:List W}{i:Nat}{w:W}(h:(fV l)[i]?=some w):∃x,l[i]?=some x/\w=.tup [.int i,x]:=by
 unfold fV at h;rw[List.getElem?_zipWith]at h;by_cases a:i<l.length
 .rw[Oy a,B1 a]at h;cases h;exact⟨_,B1 a,rfl⟩
 .rw[FM (by simpa using a)]at h;cases h
theorem zg.iw{K:Frag}{br:Bool}{B:Addr->Prop}{k:Hp}{J:It}{l:List W}(h:zg K br B k J l):IW K B k J l:=by
 cases h with
 |@lst a c _ h n r=>
  have q:∀H,ao k H->dU K H a c:=λH s=>.inl (VL.ao.rd s h.rd);refine⟨λi H s b=>?_,λi H x m w s d y=>?_,λi H s b=>⟨c,q H s,by rw[r.len,b];exact BM _⟩⟩
  .have f:i<c.length:=by rw[r.len];exact b
   exact⟨c,c[i],q H s,B1 f⟩
  .obtain⟨rfl,y⟩:=y;obtain⟨v,e,g⟩:=r.get d;have:=y c (q _ s);rw[e]at this;cases this;exact⟨ao.refl _,λo j=>Rep.mv s j w g⟩
 |@tup a c _ h r=>
  have q:∀H,ao k H->gJ K H a c:=λH s=>L2.ao.tup s h;refine⟨λi H s b=>?_,λi H x m w s d y=>?_,λi H s b=>⟨c,q H s,by rw[r.len,b];exact BM _⟩⟩
  .have f:i<c.length:=by rw[r.len];exact b
   exact⟨c,c[i],q H s,B1 f⟩
  .obtain⟨rfl,y⟩:=y;obtain⟨v,e,g⟩:=r.get d;have:=y c (q _ s);rw[e]at this;cases this;exact⟨ao.refl _,λo j=>Rep.mv s j w g⟩
 |jq C n=>refine⟨λi H s b=>by rw[iU]at b;exact b,λi H x m w s d y=>?_,λi H s b=>by rw[iU]at b;exact Sr b.symm⟩;obtain⟨rfl,rfl⟩:=y;obtain⟨rfl,_⟩:=tD d;exact⟨ao.refl _,λo _=>by rw[T9];exact c9 _⟩
 |ES C I n=>refine⟨λi H s b=>by rw[iU]at b;exact b,λi H x m w s d y=>?_,λi H s b=>by rw[iU]at b;exact Sr b.symm⟩;obtain⟨rfl,rfl⟩:=y;obtain⟨rfl,_⟩:=tD d;exact⟨ao.refl _,λo _=>c9 _⟩
 |@qg a c l h n r=>
  have q:∀H,ao k H->dU K H a c:=λH s=>.inl (VL.ao.rd s h.rd);refine⟨λi H s b=>?_,λi H x m w s d y=>?_,λi H s b=>⟨c,q H s,by rw[r.len,b,oY]⟩⟩
  .rw[oY]at b;have f:i<c.length:=by rw[r.len];exact b
   exact⟨c,c[i],q H s,B1 f⟩
  .obtain⟨p,y,E,rfl,rfl,D⟩:=y;obtain⟨A,G,rfl⟩:=jF d;obtain⟨v,e,g⟩:=r.get G;have z:=D c (q _ s);rw[e]at z;obtain rfl:v=y:=He z;have u:=aF (H:=H) E (.tup [.int i,v]);exact⟨u,λo j=>sY aL (.cons (c9 _) (.cons (Rep.mv (s.trans u) j A g) .nil))⟩
 |@rev a c l h n r=>
  have q:∀H,ao k H->dU K H a c:=λH s=>.inl (VL.ao.rd s h.rd);have t:=r.len;refine⟨λi H s b=>?_,λi H x m w s d y=>?_,λi H s b=>?_⟩
  .rw[SL]at b;exact⟨c,q H s,rfl,by rw[t];exact b⟩
  .obtain⟨rfl,y⟩:=y;have b:i<l.length:=by have:=(FS.mp d).1;rwa [SL]at this
   rw[Yj b]at d;obtain⟨v,e,g⟩:=r.get d;have:=y c (q _ s) rfl;rw[t,e]at this;cases this;exact⟨ao.refl _,λo j=>Rep.mv s j w g⟩
  .rw[SL]at b;show i=c.length;rw[t,b]
noncomputable def itemsOf:W->Option (List W)
 |.lst l=>some l
 |.tup l=>some l
 |_=>none
theorem jG{z:W}{Q:List W->Prop}:items z Q↔∃a,itemsOf z=some a/\Q a:=by
 cases z<;>simp[items,itemsOf]
noncomputable def z6(X:Cx)(M:Ms)(R:Addr->Prop)(br:Bool)(t:WT):TI:=λb H Q=>∃A e c P,SR X.K M A e b H c/\ER X e R/\t c P/\∀z,P z->∃d,itemsOf z=some d/\∀J a,ao H a->zg X.K br (FB A M b) a J d->Q J a
theorem PI.imp{X:Cx}{tg e:Expr}{t t':TI}(h:PI X tg e t)(k:∀a H Q,t' a H Q->t a H Q):PI X tg e t':=λb s a H Q I w=>h b s a H Q I (k a H Q w)
section
variable{X:Cx}{M:Ms}{R:Addr->Prop}{e a b c tg:Expr}{t ta tb tc:WT}{m:Md}{pos p:Pos}{es:List Expr}{x:Str}{br:Bool}
theorem Kv{l:Expr}{r:TE}(y:PE X l r):PI X tg l (λj H Q=>r j H λx H1=>∃a,x=.ref a/\(((∃f,dU X.K H1 a f)/\Q (QK X.K a) H1)\/((∃f,gJ X.K H1 a f)/\Q (Ry X.K a) H1))):=by
 intro g s j H Q I h;refine aZ (y g s j H _ I h) ?_;rintro v d ⟨x,H1,I1,u,w⟩;obtain⟨a,e,q⟩:=w;subst e;cases u;rcases q with⟨⟨f,k⟩,q⟩|⟨⟨f,k⟩,q⟩
 .obtain⟨i,rv,p,hz⟩:=I1.list k;refine Yh p.isList ?_;refine⟨d.heap.objs.size,[d.heap.objs.size],_,_,H1,rfl,I1.kept (t':=d.toks) λb o e=>D1 _ e,oF a _,⟨_,GE _ rfl,rfl,rfl⟩,λb n=>?_,q⟩;have e:b=d.heap.objs.size:=by simpa using n
  subst e;exact I1.lF (BM _) (I1.hok.fresh (BM _))
 .obtain⟨i,rv,p,hz⟩:=I1.tuple k;refine wpAny_pyIter_tuple (show d.heap.IsTuple a i.toArray from p) ?_;refine⟨d.heap.objs.size,[d.heap.objs.size],_,_,H1,rfl,I1.kept (t':=d.toks) λb o e=>D1 _ e,uy a _,⟨_,GE _ rfl,rfl,rfl⟩,λb n=>?_,q⟩;have e:b=d.heap.objs.size:=by simpa using n
  subst e;exact I1.lF (BM _) (I1.hok.fresh (BM _))
noncomputable def Kw(K:Frag)(br:Bool):RL:=λB _ d w v=>aQ K B d w v/\(br=false->Rep K B d w v)
theorem gb(h:VE X M R m e t):PE X e (tV X M R (Kw X.K br) t):=PE.imp h<|by rintro j H Q ⟨A,g,d,P,S,f,p,k⟩;exact⟨A,g,d,P,S,f,p,λw v i pw s r=>k w v i pw s ⟨(r.rep S.dom).b,λ_=>r.rep S.dom⟩⟩
theorem ON(h:VB X M R e t):PE X e (tV X M R (Kw X.K true) t):=PE.imp h<|by rintro j H Q ⟨A,g,d,P,S,f,p,k⟩;exact⟨A,g,d,P,S,f,p,λw v i pw s r=>k w v i pw s ⟨r,λz=>by cases z⟩⟩
theorem Kw.lst{K:Frag}{B:Addr->Prop}{H H':Hp}{l:List W}{v:V}(h:Kw K br B H H' (.lst l) v):∃p vs,v=.ref p/\Rz H' p (.lst vs)/\(br=false->¬B p)/\ai K B H' l vs:=by obtain⟨p,vs,rfl,f,d⟩:=h.1.lst;refine⟨p,vs,rfl,f,λe=>?_,d⟩;have:=h.2 e;obtain⟨i,_,g,n,_⟩:=this;cases g;exact n
theorem dJ(r:PE X a (tV X M R (Kw X.K br) ta)):PI X tg a (z6 X M R br ta):=PI.imp (Kv r)<|by
 rintro y H Q ⟨A,w,q,P,S,u,h,k⟩;refine⟨A,w,q,P,S,u,h,λz v o hz j n=>?_⟩;obtain⟨B,g,k⟩:=k z hz;cases z with
 |lst l=>
  cases g;obtain⟨p,f,rfl,d,i,s⟩:=n.lst;exact⟨p,rfl,.inl ⟨⟨f,.inl d.rd⟩,k _ o j (.lst d i s)⟩⟩
 |tup l=>
  cases g;obtain⟨p,f,rfl,d,i⟩:=n.1.tup;exact⟨p,rfl,.inr ⟨⟨f,d⟩,k _ o j (.tup d i)⟩⟩
 |_=>exact nn g
theorem Ky{d:List Expr}{r:Nat}{n:Pos}(w:Gl X "enumerate")(s:X.mg "enumerate"=none)(y:PE X a (tV X M R (Kw X.K br) ta))(g:starEach [a] X.env=(false,eval a X.env)::starEach [] X.env):
 PI X (.Tuple d r n) (.Call (.Name "enumerate" p) [a] [] pos) (z6 X M R br (λf Q=>ta f λx=>match x with|.lst l=>Q (.lst (fV l))|_=>False)):=
 PI.imp (Es w s (aU y bV g) rfl g)<|by
  rintro I H Q ⟨A,G,f,P,S,D,h,k⟩;refine⟨A,G,f,_,S,D,h,λz v E hz o q=>?_⟩;cases z with
  |lst l=>obtain⟨J,u,k⟩:=k _ hz;cases u;obtain⟨p,j,rfl,i,C,B⟩:=q.lst;exact⟨p,rfl,⟨j,.inl i.rd⟩,k _ E o (.qg i C B)⟩
  |_=>exact hz.elim
theorem Kz(r:Gl X "reversed")(o:X.mg "reversed"=none)(s:PE X a (tV X M R (Kw X.K br) ta))(f:starEach [a] X.env=(false,eval a X.env)::starEach [] X.env):
 PI X tg (.Call (.Name "reversed" p) [a] [] pos) (z6 X M R br (λd Q=>ta d λx=>match x with|.lst l=>Q (.lst l.reverse)|_=>False)):=
 PI.imp (JS r o (aU s bV f) rfl f)<|by
  rintro D H Q ⟨A,C,d,P,S,y,h,k⟩;refine⟨A,C,d,_,S,y,h,λz v B hz j n=>?_⟩;cases z with
  |lst l=>obtain⟨E,q,k⟩:=k _ hz;cases q;obtain⟨p,i,rfl,g,w,u⟩:=n.lst;exact⟨p,i,rfl,.inl g.rd,k _ B j (.rev g w u)⟩
  |_=>exact hz.elim
theorem ET{p2 d:Pos}(y:X.calm=true)(w:Gl X "list")(u:X.mg "list"=none)(G:Gl X "reversed")(i:X.mg "reversed"=none)(B:VB X M R a ta)(n:starEach [a] X.env=(false,eval a X.env)::starEach [] X.env):
 VE X M R .f (.Call (.Name "list" p) [.Call (.Name "reversed" p2) [a] [] d] [] pos) (λg Q=>ta g λx=>match x with|.lst l=>Q (.lst l.reverse)|_=>False):=
 PE.imp (Ew y w u G i (aU B bV n) n)<|by
  rintro J H Q ⟨A,I,g,P,S,E,h,k⟩;refine⟨A,I,g,_,S,E,h,λz v K hz j s=>?_⟩;cases z with
  |lst l=>obtain⟨p,r,rfl,D,C⟩:=aQ.lst s;exact⟨p,r,rfl,.inl D.rd,λq o=>k _ _ _ hz (j.trans (aF o _)) (.fresh j o C.rev)⟩
  |_=>exact hz.elim
theorem EU(u:Gl X "range")(q:X.mg "range"=none)(v:VE X M R .s a ta)(f:starEach [a] X.env=(false,eval a X.env)::starEach [] X.env):
 PI X tg (.Call (.Name "range" p) [a] [] pos) (z6 X M R br (λd Q=>ta d λx=>Br [x] λl=>Q (.lst l))):=
 PI.imp (oG u q (aU v bV f) f)<|by
  rintro B H Q ⟨A,z,d,P,S,w,h,k⟩;refine⟨A,z,d,_,S,w,h,λx C y hz g i=>?_⟩;cases x with
  |int j=>obtain⟨o,n,hz⟩:=hz;obtain⟨D,r,k⟩:=k _ hz;cases r;cases i.aW.int_inv;exact⟨j,rfl,o,n,k _ y g (.jq 0 j.toNat)⟩
  |_=>exact hz.elim
theorem EV(C:Gl X "range")(z:X.mg "range"=none)(E:VE X M R .s a ta)(D:VE X M R .s b tb)(n:starEach [a,b] X.env=(false,eval a X.env)::starEach [b] X.env)(d:starEach [b] X.env=(false,eval b X.env)::starEach [] X.env):
 PI X tg (.Call (.Name "range" p) [a,b] [] pos) (z6 X M R br (λf Q=>ta f λx=>tb f λy=>Br [x,y] λl=>Q (.lst l))):=
 PI.imp (yv C z (aU E (aU D bV d) n) (by rw[n,d];rfl) d)<|by
  rintro I H Q ⟨A,q,f,P,S,o,h,k⟩;refine⟨A,q,f,_,S,o,h,λx K N hz g v=>⟨A,q,f,_,S.same g,o,hz,λy J G hz r u=>?_⟩⟩;cases x with
  |int i=>
   cases y with
   |int j=>obtain⟨w,hz⟩:=hz;obtain⟨L,B,k⟩:=k _ hz;cases B;cases v.aW.int_inv;cases u.aW.int_inv;exact⟨i,j,rfl,w,k _ G (g.trans r) (.jq i (j -i).toNat)⟩
   |_=>exact hz.elim
  |_=>exact hz.elim
theorem EW(J:Gl X "range")(G:X.mg "range"=none)(N:VE X M R .s a ta)(L:VE X M R .s b tb)(K:VE X M R .s c tc)(v:starEach [a,b,c] X.env=(false,eval a X.env)::starEach [b,c] X.env)(f:starEach [b,c] X.env=(false,eval b X.env)::starEach [c] X.env)(q:starEach [c] X.env=(false,eval c X.env)::starEach [] X.env):
 PI X tg (.Call (.Name "range" p) [a,b,c] [] pos) (z6 X M R br (λd Q=>ta d λx=>tb d λy=>tc d λz=>Br [x,y,z] λl=>Q (.lst l))):=
 PI.imp (yS J G (aU N (aU L (aU K bV q) f) v) (by rw[v,f,q];rfl) (by rw[f,q];rfl))<|by
  rintro T H Q ⟨A,r,d,P,S,o,h,k⟩;refine⟨A,r,d,_,S,o,h,λx Z H1 hz g D=>⟨A,r,d,_,S.same g,o,hz,λy Y H2 hz u C=>⟨A,r,d,_,S.same (g.trans u),o,hz,λz U O hz w B=>?_⟩⟩⟩;cases x with
  |int i=>
   cases y with
   |int j=>
    cases z with
    |int l=>obtain⟨n,E,hz⟩:=hz;obtain⟨gQ,I,k⟩:=k _ hz;cases I;cases D.aW.int_inv;cases C.aW.int_inv;cases B.aW.int_inv;exact⟨i,j,l,n,rfl,E,k _ O ((g.trans u).trans w) (.ES i l n)⟩
    |_=>exact hz.elim
   |_=>exact hz.elim
  |_=>exact hz.elim
end
noncomputable def up(M:Ms)(n:Nat):Ms:=M.map λx=>(x.1+n,x.2)
section
variable{K:Frag}{M:Ms}{A:Fz}{H0 H H1:Hp}{σ v0:St}{ε δ:Ev}
theorem jH{n i:Nat}{m:Md}:(i,m)∈up M n↔n<=i/\(i -n,m)∈M:=by
 unfold up;rw[IR];constructor
 .rintro⟨⟨j,b⟩,a,e⟩;cases e;exact⟨Nat.le_add_left _ _,by rw[Kx];exact a⟩
 .rintro⟨h,a⟩;exact⟨(i -n,m),a,by simp;omega⟩
theorem cu{n i:Nat}:aG (up M n) i↔n<=i/\aG M (i -n):=by
 constructor
 .rintro⟨m,h⟩;exact⟨(jH.mp h).1,m,(jH.mp h).2⟩
 .rintro⟨h,m,a⟩;exact⟨m,jH.mpr ⟨h,a⟩⟩
theorem mz{n i:Nat}(c:δ.length=n)(h:n<=i):look (δ++ε) i=look ε (i -n):=by
 have e:∀w,look (δ++ε) i=some w↔look ε (i -n)=some w:=λw=>by rw[aN,aN,Jn (by lia),c]
 cases b:look ε (i -n)with
 |none=>
  cases a:look (δ++ε) i with
  |none=>rfl
  |some w=>rw[e]at a;rw[b]at a;cases a
 |some w=>exact(e w).mpr b
theorem SR.block(S:SR K M A H0 σ H ε){n:Nat}(t:v0.length=n)(s:ao H H1){D:Addr}{o:HO}(y:H D=none)(I:H1 D=some o):SR K (up M n) ⟨λq=>A.ab q\/q=D,λq=>A.B q\/q=D,none⟩ H0 (v0++σ) H1 (Aq n none++ε):=by
 obtain⟨F,O⟩:=S.ow;have g:(Aq n (none:Option W)).length=n:=by simp
 have C:∀{i:Nat},n<=i->(v0++σ)[i]?=σ[i -n]?:=λ{i} h=>by rw[Jn (by lia),t]
 have x:∀p o,H p=some o->(A.B p\/p=D)->A.B p:=λp o e z=>by
  rcases z with z|rfl
  .exact z
  .rw[y]at e;cases e
 refine⟨by rw[Fk,Fk,t,g,S.len],λi w c e=>?_,S.sm.trans s,λp z=>?_,(λv e=>by cases e),λi=>F (i -n),⟨λi m E a b=>O.un _ m E (jH.mp a).2 (jH.mp b).2,λi m w G e=>?_,λi c e=>?_,λi c=>O.nd _ (cu.mp c).2,λi j p c u a b=>?_,λi p c d=>O.nw _ p (cu.mp c).2 d,λi p c d z=>?_,λp=>?_⟩⟩
 .by_cases f:n<=i
  .rw[mz g f]at e;rw[C f];obtain⟨v,l,k⟩:=S.sh (i -n) w (λz=>c (cu.mpr ⟨f,z⟩)) e;exact⟨v,l,Rep.mv s x w k⟩
  .rw[aN,OK (by rw[g];lia),Tb,Bz (by lia)]at e;cases e
 .rcases z with z|rfl
  .exact(S.dm.same s) p z
  .exact⟨_,I⟩
 .obtain⟨f,r⟩:=jH.mp G;rw[mz g f]at e;rw[C f];obtain⟨v,l,k⟩:=O.val _ m w r e;exact⟨v,l,Fp.mv s x m k⟩
 .obtain⟨f,r⟩:=cu.mp c;rw[mz g f]at e;exact O.emp _ r e
 .have:=O.ds _ _ p (cu.mp c).2 (cu.mp u).2 a b;have:=(cu.mp c).1;have:=(cu.mp u).1;lia
 .rcases z with z|rfl
  .exact O.na _ p (cu.mp c).2 d z
  .obtain⟨o,e,_⟩:=O.has (cu.mp c).2 d;rw[y]at e;cases e
 .constructor
  .rintro(z|rfl)
   .rcases(O.all p).mp z with z|⟨i,c,d⟩
    .exact .inl (.inl z)
    .exact .inr ⟨i+n,cu.mpr ⟨by lia,by rw[Kx];exact c⟩,by rw[Kx];exact d⟩
   .exact .inl (.inr rfl)
  .rintro((z|rfl)|⟨i,c,d⟩)
   .exact .inl ((O.all p).mpr (.inl z))
   .exact .inr rfl
   .exact .inl ((O.all p).mpr (.inr ⟨i -n,(cu.mp c).2,d⟩))
end
noncomputable def OO:List Nat->Hf
 |[]=>Nv
 |i::a=>Hg (c6 i) (OO a)
noncomputable def gT(K:Frag)(one:Bool)(a:List Nat):TG:=
 match one,a with
 |true,[i]=>c6 i
 |true,_=>λ_ _ _ _=>False
 |false,a=>Jd K a.length (OO a)
noncomputable def bf(a:St):List Nat->List V->St
 |i::b,v::vs=>bf (a.set i (some v)) b vs
 |_,_=>a
theorem mD:∀(b:List Nat)(vs:List V)(a:St),(bf a b vs).length=a.length
 |[],vs,a=>by rw[bf];simp
 |i::b,[],a=>by rw[bf];simp
 |i::b,v::vs,a=>by rw[bf,mD b vs,KF]
theorem mE{n:Nat}:∀(c:List Nat)(vs:List V)(b a:St),b.length=n->(∀i∈c,i<n)->bf (b++a) c vs=bf b c vs++a
 |[],vs,b,a,_,_=>by rw[bf,bf]<;>simp
 |i::c,[],b,a,_,_=>by rw[bf,bf]<;>simp
 |i::c,v::vs,b,a,d,h=>by have hi:=h i DL;rw[bf,bf,List.set_append_left _ _ (by lia),mE c vs _ a (by rw[KF];exact d) λj e=>h j (D2 _ e)]
section
variable{K:Frag}{M:Ms}{A:Fz}{H0 H:Hp}
theorem qw:∀(a:List Nat)(vs:List V)(b:St)(Q:St->Hp->Prop),vs.length=a.length->Q (bf b a vs) H->OO a vs b H Q
 |[],[],b,Q,_,q=>⟨rfl,q⟩
 |[],_::_,_,_,h,_=>by cases h
 |_::_,[],_,_,h,_=>by cases h
 |i::a,v::vs,b,Q,h,q=>⟨v,vs,rfl,qw a vs _ Q (by simpa using h) (by rw[bf]at q;exact q)⟩
theorem SR.bK:∀(a:List Nat)(c:List W)(vs:List V){b:St}{d:Ev},(∀i∈a,¬aG M i)->SR K M A H0 b H d->ai K (FB A M b) H c vs->c.length=a.length->SR K M A H0 (bf b a vs) H (bK d a c)
 |[],c,vs,b,d,_,S,_,_=>by rw[bf,VL.bK]<;>first|exact S|simp
 |i::a,[],vs,b,d,_,S,_,h=>by cases h
 |i::a,w::c,vs,b,d,e,S,r,h=>by obtain⟨v,f,rfl,m,l⟩:=r.cons_inv;rw[bf,VL.bK];have k:=e i DL;exact SR.bK a c f (λj g=>e j (D2 _ g)) (S.set k m) l (by simpa using h)
theorem tgt{b:St}{d:Ev}{one:Bool}{a:List Nat}{w:W}{v:V}{P:Ev->Prop}{Q:St->Hp->Prop}(j:∀i∈a,¬aG M i)(S:SR K M A H0 b H d)(g:Rep K (FB A M b) H w v)(h:wT one a w d P)
 (k:∀vs c,P c->SR K M A H0 (bf b a vs) H c->Q (bf b a vs) H):gT K one a v b H Q:=by
 cases one with
 |true=>
  match a,h with
  |[i],h=>
   have:=k [v] (d.set i (some w)) h (by rw[bf,bf]<;>first|exact S.set (j i DL) g|simp);rw[bf,bf]at this
   .exact this
   .simp
 |false=>
  cases w with
  |tup l=>obtain⟨e,h⟩:=h;obtain⟨p,vs,rfl,m,f⟩:=g;exact⟨p,vs,rfl,gJ.of m,by rw[f.len,e],qw a vs b Q (by rw[f.len,e]) (k vs _ h (SR.bK a l vs j S f e))⟩
  |_=>exact h.elim
end
theorem PF.imp{X:Cx}{e:List Expr}{t t':TT}(h:PF X e t)(k:∀a H Q,t' a H Q->t a H Q):PF X e t':=λb s a H Q I w=>h b s a H Q I (k a H Q w)
noncomputable def SD(K:Frag)(M:Ms)(t:WT):TE:=λb H Q=>∃A d c P,SR K M A d b H c/\t c P/\∀w v a,P w->ao H a->Rep K (FB A M b) a w v->Q v a
noncomputable def QY(K:Frag)(M:Ms)(t:WT):TT:=λd H Q=>∃A e a P,SR K M A e d H a/\t a P/\∀x c,P x->ao H c->∃b,x=.bl b/\Q b c
section
variable{X:Cx}{M:Ms}{R:Addr->Prop}{tg iter elt:Expr}{ifs:List Expr}{scope:Scope}{xs N':List Str}{pos:Pos}{ti tc te:WT}{one:Bool}{ts:List Nat}
theorem tE(N:∀i∈ts,i<xs.length)(n:St)(H:Hp)(Q:VK)
 (hh:tV X M R (Dy X.K .f) (λu Q=>ti u λz=>items z λc=>f6 (λw K=>wT one ts w (Aq xs.length none++u) λa=>tc a λx=>truth x λk=>if k=true then te a λy=>K (some y)else K none) c [] λl=>Q (.lst l)) n H Q):
 wN xs.length (z6 X M R true ti) (gT X.K one ts) (QY X.K (up M xs.length) tc) (SD X.K (up M xs.length) te) n H Q:=by
 obtain⟨A,H0,u,P,S,er,h,k⟩:=hh;refine⟨A,H0,u,_,S,er,h,λz hz=>?_⟩;obtain⟨c,ez,hw⟩:=jG.mp hz;refine⟨c,ez,λJ H1 s1 it D Z=>?_⟩;have iw:=it.iw;generalize T:(λ(w:W)(K:Option W->Prop)=>wT one ts w (Aq xs.length none++u) λa=>tc a λx=>truth x λk=>if k=true then te a λy=>K (some y)else K none)=f at hw;have OP:H D=none:=s1.free Z;refine⟨λi m g=>∃d r,m=c.length -i/\i<=c.length/\ao H1 g/\g D=some (.lst r)/\ai X.K (λq=>FB A M n q\/q=D) g d r/\f6 f (c.drop i) d (λl=>P (.lst l)),
  ⟨c.length,[],[],rfl,Hn _,aF Z _,aL,.nil,hw⟩,?_⟩
 rintro i m g ⟨d,r,rfl,hi,s,Dz,G,C⟩;by_cases I:i<c.length
 .refine .inr ⟨iw.go i g s I,λx U y v t=>?_⟩;have hwi:c[i]?=some c[i]:=B1 I;rw[Kt I]at C;generalize c[i]=w at*;obtain⟨s3,L⟩:=iw.yl i g x U w s hwi y;have QZ:ao H U:=s1.trans (s.trans s3);have SG:U D=some (.lst r):=s3 _ _ Dz;have S3:SR X.K (up M xs.length) ⟨λq=>A.ab q\/q=D,λq=>A.B q\/q=D,none⟩ H0 (v++n) U (Aq xs.length none++u):=S.block t QZ OP SG;have SH:Rep X.K (λq=>A.B q\/q=D) U w x:=by
   refine L _ λp o e z=>?_;rcases z with z|rfl
   .exact z
   .rw[Z]at e;cases e
  have hM:∀j∈ts,¬aG (up M xs.length) j:=λj hj z=>by have:=(cu.mp z).1;have:=N j hj;lia
  rw[f6,<-T]at C;rw[T]at C;refine tgt hM S3 SH C λE a hp S4=>?_;have e4:bf (v++n) ts E=bf v ts E++n:=mE ts E v n t N;rw[e4]at S4⊢;have hv1:(bf v ts E).length=xs.length:=by rw[mD];exact t
  refine⟨bf v ts E,hv1,rfl,⟨_,H0,a,_,S4,hp,λq H5 Y s5=>?_⟩⟩;obtain⟨b,rfl,Y⟩:=bH Y;refine⟨b,rfl,?_⟩;have DA:ao g H5:=s3.trans s5;cases b with
  |false=>exact⟨c.length -(i+1),by lia,d,r,rfl,I,s.trans DA,DA _ _ Dz,G.same DA,Y⟩
  |true=>
   refine⟨_,H0,a,_,S4.same s5,Y,λy vy H6 hy s6 ry=>?_⟩;obtain⟨O,hy⟩:=hy;have KA:=DA.trans s6;have OQ:=KA _ _ Dz;refine⟨r,OQ,by rw[G.len];exact O,c.length -(i+1),by lia,d++[y],r++[vy],rfl,I,λb o e=>?_,aL,?_,hy⟩
   .rw[aA (aP e Z)];exact KA _ _ (s _ _ e)
   .have SI:Rep X.K (λq=>A.B q\/q=D) H6 y vy:=ry;exact ai.put OQ (.inr rfl) _ ((G.same KA).app (.cons SI .nil))
 .have e:i=c.length:=by lia
  subst e;refine .inl ⟨iw.st _ g s rfl,?_⟩;rw[Y4,f6]at C;exact k _ _ g C (s1.trans s) (.new OP Dz (G.less λp z=>.inl z) G)
theorem EX(t:X.calm=true)(o:cK scope X.env.scope X.N N' xs=true)(e:∀i∈ts,i<xs.length)(p:PI X tg iter (z6 X M R true ti))(q:∀C b d c,PG (aK X scope C xs N' b d c) tg (gT X.K one ts))
 (r:∀C b d c,PF (aK X scope C xs N' b d c) ifs (QY X.K (up M xs.length) tc))(s:∀C b d c,PE (aK X scope C xs N' b d c) elt (SD X.K (up M xs.length) te))(n:∀z,foldedSetIterable iter X.env z=pure z):
 VE X M R .f (.ListComp elt [⟨tg,iter,ifs,0⟩] scope pos) (λg Q=>ti g λz=>items z λm=>f6 (λw K=>wT one ts w (Aq xs.length none++g) λa=>tc a λx=>truth x λk=>if k=true then te a λy=>K (some y)else K none) m [] λl=>Q (.lst l)):=
 PE.imp (wO xs N' t o p q r s n) λj H Q h=>tE e j H Q h
end
section
variable{K:Frag}{M M':Ms}{A:Fz}{H0 H H1:Hp}{σ:St}{ε:Ev}
theorem SR.rb(S:SR K M A H0 σ H ε):∃f,SR K M A f σ H ε/\ao H0 f/\ao f H/\(∀p o,H p=some o->(y9 o=true/\A.B p)\/f p=some o):=by
 classical
 obtain⟨F,O⟩:=S.ow;have d:∀p o,(if(∃i,aG M i/\p∈F i)then none else H p)=some o->H p=some o:=λp o z=>by
  split at z
  .cases z
  .exact z
 refine⟨λp=>if(∃i,aG M i/\p∈F i)then none else H p,⟨S.len,S.sh,d,S.dm,S.sl,F,⟨O.un,O.val,O.emp,O.nd,O.ds,λi p c a=>Bz ⟨i,c,a⟩,O.na,O.all⟩⟩,λb o z=>?_,d,λp o z=>?_⟩
 .try dsimp only
  rw[Bn]
  .exact S.sm _ _ z
  .rintro⟨i,c,e⟩;rw[O.nw i b c e]at z;cases z
 .by_cases a:∃i,aG M i/\p∈F i
  .have g:=a;obtain⟨i,c,a⟩:=a;obtain⟨j,e,h⟩:=O.has c a;rw[z]at e;cases e;exact .inl ⟨h,(O.all p).mpr (.inr g)⟩
  .exact .inr ((Bn a).trans z)
end
section
variable{K:Frag}{B A:Addr->Prop}{H Hs:Hp}
theorem zg.low{J:It}{g:List W}(h:∀p o,H p=some o->(y9 o=true/\B p)\/Hs p=some o)(b:∀p,A p->B p)(i:zg K false B H J g):zg K false A Hs J g:=by
 have d:∀{a:Addr}{c:List V},Rz H a (.lst c)->¬B a->Rz Hs a (.lst c):=λ{a c} r n=>by
  rcases h a _ r.at with⟨_,z⟩|z
  .exact(n z).elim
  .exact .inl z
 cases i with
 |lst q n r=>exact .lst (d q (n rfl)) (λe z=>n e (b _ z)) (ai.chg h (λp _ _ z=>b p z) _ r)
 |@tup a c _ q r=>
  refine .tup ?_ (ai.chg h (λp _ _ z=>b p z) _ r);rcases q with(q|⟨o,q⟩)|q
  .rcases h a _ q with⟨z,_⟩|z
   .cases z
   .exact .inl (.inl z)
  .rcases h a _ q with⟨z,_⟩|z
   .cases z
   .exact .inl (.inr ⟨o,z⟩)
  .exact .inr q
 |jq f n=>exact .jq f n
 |ES f j n=>exact .ES f j n
 |qg q n r=>exact .qg (d q (n rfl)) (λe z=>n e (b _ z)) (ai.chg h (λp _ _ z=>b p z) _ r)
 |rev q n r=>exact .rev (d q (n rfl)) (λe z=>n e (b _ z)) (ai.chg h (λp _ _ z=>b p z) _ r)
end
abbrev WS:=Dn->Ev->Prop
noncomputable def fH:Md->Bool
 |.io _=>true
 |_=>false
noncomputable def zh(K:Frag)(ab:Addr->Prop)(f:Option V)(e H':Hp)(m:Md)(w:W)(v:V):Prop:=
 match m with
 |.io g=>∃b c d a,w=.tup [b,c]/\f=some d/\a.Nodup/\(∀p∈a,e p=none/\¬ab p)/\Fp K (λp=>ab p\/p∈a) H' g c d a/\Rep K (λp=>ab p\/p∈a) H' b v
 |m=>bX K ab e H' m w v
theorem zh.of{K:Frag}{ab:Addr->Prop}{b:Option V}{a H':Hp}{m:Md}{w:W}{v:V}(c:fH m=false)(h:bX K ab a H' m w v):zh K ab b a H' m w v:=by
 cases m with
 |io _=>cases c
 |_=>exact h
theorem zh.back{K:Frag}{ab:Addr->Prop}{a:Option V}{e d H':Hp}{m:Md}{w:W}{v:V}(s:ao e d)(h:zh K ab a d H' m w v):zh K ab a e H' m w v:=by
 cases m with
 |io q=>obtain⟨f,g,i,o,n,l,k,c,j⟩:=h;exact⟨f,g,i,o,n,l,k,λp b=>⟨s.free (c p b).1,(c p b).2⟩,j⟩
 |_=>exact bX.back s (λ_ z=>z) h
structure KS(X:Cx)(M:Ms)(m:Md)(ab:Addr->Prop)(s0:Option V)(H0:Hp)(d:Dn)(D:Ends):Prop where
 nx:∀A ε σ H,A.ab=ab->A.s0=s0->d.nx ε->SR X.K M A H0 σ H ε->D.nx σ H
 rt:∀w v H',d.rt w->ao H0 H'->zh X.K ab s0 H0 H' m w v->D.rt v H'
 bk:∀A ε σ H,A.ab=ab->A.s0=s0->d.bk ε->SR X.K M A H0 σ H ε->D.bk σ H
 ct:∀A ε σ H,A.ab=ab->A.s0=s0->d.ct ε->SR X.K M A H0 σ H ε->D.ct σ H
noncomputable def sV(X:Cx)(M:Ms)(m:Md)(t:WS):TS:=λD c H=>∃A a b d,SR X.K M A a c H b/\ER X a d.ex/\A.s0.isSome=fH m/\t d b/\KS X M m A.ab A.s0 a d D
abbrev VS(X:Cx)(M:Ms)(m:Md)(st:Stmt)(t:WS):Prop:=PS X st (sV X M m t)
abbrev By(X:Cx)(M:Ms)(m:Md)(st:List Stmt)(t:WS):Prop:=rX X st (sV X M m t)
theorem PS.imp{X:Cx}{e:Stmt}{t t':TS}(h:PS X e t)(k:∀D a H,t' D a H->t D a H):PS X e t':=λb s a H D I w=>h b s a H D I (k D a H w)
theorem rX.imp{X:Cx}{e:List Stmt}{t t':TS}(h:rX X e t)(k:∀D a H,t' D a H->t D a H):rX X e t':=λb s a H D I w=>h b s a H D I (k D a H w)
section
variable{X:Cx}{M M':Ms}{R:Addr->Prop}{m mr m0:Md}{st:Stmt}{rest:List Stmt}{t u:WS}{e e1 e2 c:Expr}{te t1 t2 tc:(Addr->Prop)->WT}{pos pos':Pos}{x:Str}{i:Nat}{π:List jB}
theorem EY:By X M m [] (λd a=>d.nx a):=rX.imp DK<|by rintro D b H ⟨A,g,a,d,S,f,hz,h,k⟩;exact k.nx A a b H rfl rfl h S
theorem EZ(h:VS X M m st t):By X M m [st] t:=iG h
theorem BA(h:VS X M m st t)(k:By X M m rest u):By X M m (st::rest) (λd b=>t {d with nx:=u d} b):=
 rX.imp (rY h k)<|by rintro D r H ⟨A,j,b,d,S,f,hz,h,k⟩;exact⟨A,j,b,{d with nx:=u d},S,f,hz,h,λq a l s o g n p=>⟨q,j,a,d,p,f,(by rw[g];exact hz),n,by rw[o,g];exact k⟩,k.rt,k.bk,k.ct⟩
theorem E2{st:List Stmt}(h:By X M' m st t)(j:∀x∈M',x∈M)(g:fH m=true->aG M 0->aG M' 0):By X M m st (λd a=>t {d with nx:=λ_=>False,bk:=λ_=>False,ct:=λ_=>False} a):=rX.imp h<|by rintro D B H ⟨A,p,a,d,S,l,hz,h,k⟩;obtain⟨y,n,b,_,o⟩:=S.sub (M':=M') j A.s0 (λv e=>⟨e,g (by rw[<-hz,e];rfl) (S.sl v e).2⟩);refine⟨y,p,a,{d with nx:=λ_=>False,bk:=λ_=>False,ct:=λ_=>False},o,l,by rw[b];exact hz,h,λ_ _ _ _ _ _ z=>z.elim,λw v q f s r=>k.rt w v q f s ?_,λ_ _ _ _ _ _ z=>z.elim,λ_ _ _ _ _ _ z=>z.elim⟩;rw[b,n]at r;exact r
theorem KC:VS X M m (.Break pos) (λd a=>d.bk a):=PS.imp Al<|by rintro D b H ⟨A,g,a,d,S,f,hz,h,k⟩;exact k.bk A a b H rfl rfl h S
theorem KD{f:List Nat}(g:∀{j:TE},PE X e j->PS X st (jw j (gT X.K false f)))(z:∀i∈f,¬aG M i)(B:∀R,VE X M R .s e (te R)):
 VS X M m st (λd b=>te d.ex b λw=>match w with|.tup l=>l.length=f.length/\d.nx (bK b f l)|_=>False):=by
 rintro a s o H D I ⟨A,J,b,d,S,C,hz,h,k⟩;refine g (B d.ex) a s o H D I ⟨A,J,b,_,S,C,h,λw v G n q r=>?_⟩;cases w with
 |tup l=>exact tgt (P:=d.nx) z (S.same q) r.aW n λL p y E=>k.nx A _ _ G rfl rfl y E
 |_=>exact n.elim
theorem KG{a:List Nat}{p:List Expr}{ta:(Addr->Prop)->Ev->(List W->Prop)->Prop}(n:∀{o:TA},PA X p o->PS X st (λD f H=>o f H λvs H1=>vs.length=a.length/\D.nx (bf f a vs) H1))(v:∀i∈a,¬aG M i)(w:∀R,VA X M R p (ta R)):
 VS X M m st (λd g=>ta d.ex g λj=>j.length=a.length/\d.nx (bK g a j)):=by
 rintro b s f H D I ⟨A,z,g,d,S,y,hz,h,k⟩;refine n (w d.ex) b s f H D I ⟨A,z,g,_,S,y,h,λj vs H1 l q r=>?_⟩;exact⟨by rw[ai.len r,l.1],k.nx A _ _ H1 rfl rfl l.2 (SR.bK a j vs v (S.same q) r l.1)⟩
theorem kO{K:Frag}{A:Fz}{J H:Hp}{C:St}{D:Ev}{w:W}{l:List W}(S:SR K M A J C H D)(b:(i,m0)∈M)(hp:gH m0 π=some .f)(L:look D i=some w)(Z:bU w π=some (.lst l)):
 ∃v p vs,C[i]?=some (some v)/\rO K H v π (.ref p)/\H p=some (.lst vs)/\ai K A.B H l vs/\A.B p/\∀H1,ao H H1->∀(d:List W)(a:List V),ai K A.B H1 d a->
  ∃h,h.ab=A.ab/\h.s0=A.s0/\(∀q o,H1 q=some o->h.B q->A.B q)/\um A.B H1 (upd H1 p (.lst a))/\SR K M h J C (upd H1 p (.lst a)) (D.set i (some (setAt w π (.lst d)))):=by
 obtain⟨F,O⟩:=S.ow;obtain⟨v,g,j⟩:=O.val i m0 w b L;obtain⟨v',U,F',T,G,r,fp,y⟩:=Fp.path π m0 j hp Z;obtain⟨ws,p,vs,e1,rfl,rfl,E,h4⟩:=fp;cases e1;have Y:p∈F i:=by rw[G];simp
 have I:A.B p:=(O.all p).mpr (.inr ⟨i,⟨m0,b⟩,Y⟩);refine⟨v,p,vs,g,r,E,h4,I,λH1 s d a hr=>?_⟩;have P:=S.same s;obtain⟨F0,O0⟩:=P.ow;have O1:MP K M A J C H1 D F:=⟨O.un,λi m w b e=>let⟨v,g,j⟩:=O.val i m w b e;⟨v,g,Fp.mv s (λ_ _ _ z=>z) m j⟩,O.emp,O.nd,O.ds,O.nw,O.na,O.all⟩;have Q:=s _ _ E;have N:um A.B H1 (upd H1 p (.lst a)):=.put Q rfl I;have VY:p∉U++T:=by
  have:=O.nd i ⟨m0,b⟩;rw[G]at this;intro z;have g:=YM.mp this;rcases GM.mp z with z|z
  .have j:=YM.mp g.1;exact j.2.2 p z p (by simp) rfl
  .exact g.2.2 p (by simp) p z rfl
 have k:Fp K A.B (upd H1 p (.lst a)) m0 (setAt w π (.lst d)) v (U++[p]++T):=by
  refine y (upd H1 p (.lst a)) A.B (.lst d) [p] ?_ (λq o e=>?_) (λq _ _ z=>z)
  .exact⟨d,p,a,rfl,rfl,rfl,aL,ai.chg N (λ_ _ _ z=>z) d hr⟩
  .by_cases n:q=p
   .subst n;rw[E]at e;cases e;exact .inl ⟨rfl,I,VY⟩
   .exact .inr (by rw[aA n];exact s _ _ e)
 rw[<-G]at k;have hc:∀q o,H1 q=some o->(y9 o=true/\q∈F i)\/upd H1 p (.lst a) q=some o:=λq o e=>by
  by_cases n:q=p
  .subst n;rw[Q]at e;cases e;exact .inl ⟨rfl,Y⟩
  .exact .inr (by rw[aA n];exact e)
 have SK:Fp K (λq=>(A.B q/\q∉F i)\/q∈F i) (upd H1 p (.lst a)) m0 (setAt w π (.lst d)) v (F i):=Fp.mv (ao.refl _) (λq _ _ z=>by
  rcases z with z|z
  .exact z.1
  .exact(O.all q).mpr (.inr ⟨i,⟨m0,b⟩,z⟩)) m0 k
 obtain⟨h,a1,a2,_,a3,a4,a5⟩:=O1.chg (F':=F i) P b L g hc (O.nd i ⟨m0,b⟩) (λq hq=>.inl hq) SK;exact⟨h,a1,a2,a3,N,a5⟩
theorem jI{a:Ev}{P:List W->Prop}(h:match look a i with|some (.lst l)=>P l|_=>False):∃l,look a i=some (.lst l)/\P l:=by
 cases b:look a i with
 |none=>rw[b]at h;exact h.elim
 |some d=>
  rw[b]at h;cases d with
  |lst l=>exact⟨l,rfl,h⟩
  |_=>exact h.elim
theorem SM:gH m0 []=some m0:=by cases m0<;>rfl
theorem KH{w:W}:bU w []=some w:=by cases w<;>rfl
theorem E3{w u:W}:setAt w [] u=u:=by cases w<;>rfl
theorem KI(o:∀{q:TE},PE X e q->PS X st (rZ (QM X.K "list" kL (gW i) (j7 q sd))))(G:(i,.f)∈M)(J:∀R,VE X M R .s e (te R)):
 VS X M m st (λd a=>match look a i with|some (.lst l)=>te d.ex a λw=>l.length<sizeLine/\d.nx (a.set i (some (.lst (l++[w]))))|_=>False):=by
 rintro g s E H D I ⟨A,T,a,d,S,O,hz,h,k⟩;obtain⟨l,e1,h⟩:=jI h;obtain⟨Y,p,j,N,L,B,z,Z,b⟩:=kO (π:=[]) S G SM e1 KH;cases L;refine o (J d.ex) g s E H D I ⟨_,N,.inl ⟨rfl,j,.inl (.inl B)⟩,A,T,a,_,S,O,h,λw v Q y n r=>?_⟩;obtain⟨U,P,a2,_,_,C⟩:=b Q n (l++[w]) (j++[v]) ((z.same n).app (.cons r.aW .nil));rw[E3]at C;exact⟨p,j,v,rfl,rfl,n _ _ B,by rw[z.len];exact y.1,k.nx U _ _ _ P a2 y.2 C⟩
theorem KJ{J:Md}(Y:∀{tv:TE},PE X e tv->PS X st (rZ (QM X.K "list" kL (gW i) (j7 tv sd))))(L:(i,.ls J)∈M)(he:∀R,VE X M R J e (te R)):
 VS X M m st (λd C=>match look C i with|some (.lst l)=>te d.ex C λw=>l.length<sizeLine/\d.nx (C.set i (some (.lst (l++[w]))))|_=>False):=by
 rintro E s σ H D I ⟨A,H0,C,d,S,er,hz,h,k⟩;obtain⟨l,e1,h⟩:=jI h;obtain⟨F,O⟩:=S.ow;obtain⟨v0,h1,h2⟩:=O.val i _ _ L e1;obtain⟨ws,p,N,F',q,rfl,y,P,h4⟩:=h2;cases q;have g:p∈F i:=by rw[y];exact DL
 have j:∀q∈F i,A.B q:=λq f=>(O.all q).mpr (.inr ⟨i,⟨_,L⟩,f⟩);have Z:(p::F').Nodup:=by rw[<-y];exact O.nd i ⟨_,L⟩
 refine Y (he d.ex) E s σ H D I ⟨_,h1,.inl ⟨rfl,N,.inl (.inl P)⟩,A,H0,C,_,S,er,h,λw v H1 hw Q r=>?_⟩;obtain⟨G,nd,T,fp⟩:=r;have OR:=Q _ _ P;have U:∀q∈F i,q∉G:=λq f z=>by obtain⟨o,e,_⟩:=O.has ⟨_,L⟩ f;rw[T q z]at e;cases e
 have ba:∀q o,H q=some o->((A.B q/\q∉F i)\/q∈p::(F'++G))->A.B q:=λq o e z=>by
  rcases z with z|z
  .exact z.1
  .rcases Fm.mp z with rfl|z
   .exact j _ g
   .rcases GM.mp z with z|z
    .exact j q (by rw[y];exact D2 _ z)
    .rw[T q z]at e;cases e
 have VZ:Fp X.K (λq=>(A.B q/\q∉F i)\/q∈p::(F'++G)) (upd H1 p (.lst (N++[v]))) (.ls J) (.lst (l++[w])) (.ref p) (p::(F'++G)):=by
  refine⟨_,p,_,F'++G,rfl,rfl,rfl,aL,c8.app (h4.mono λw' v' F1 V0 z=>Fp.chg (A:=A.B) (G:=(·∈F')) (λq o e=>?_) ba J V0 z) ⟨v,[],G,[],rfl,by simp,?_,rfl,rfl⟩⟩
  .by_cases n:q=p
   .subst n;rw[P]at e;cases e;exact .inl ⟨rfl,j _ g,(NA.mp Z).1⟩
   .exact .inr (by rw[aA n];exact Q _ _ e)
  .refine Fp.chg (A:=λq=>A.B q\/q∈G) (G:=(·∈G)) (λq o e=>?_) (λq o e z=>?_) J (λq f=>f) fp
   .by_cases n:q=p
    .subst n;rw[OR]at e;cases e;exact .inl ⟨rfl,.inl (j _ g),U _ g⟩
    .exact .inr (by rw[aA n];exact e)
   .rcases z with z|z
    .exact .inl z.1
    .rcases Fm.mp z with rfl|z
     .exact .inl (j _ g)
     .exact(GM.mp z).imp (λz=>j q (by rw[y];exact D2 _ z)) id
 obtain⟨A',a1,a2,_,_,_,S'⟩:=O.chg (H1:=upd H1 p (.lst (N++[v]))) (F':=p::(F'++G)) S L e1 h1 (λq o e=>by
  by_cases n:q=p
  .subst n;rw[P]at e;cases e;exact .inl ⟨rfl,g⟩
  .exact .inr (by rw[aA n];exact Q _ _ e)) (by
   refine NA.mpr ⟨λz=>?_,YM.mpr ⟨(NA.mp Z).2,nd,λa ha b hb e=>?_⟩⟩
   .rcases GM.mp z with z|z
    .exact(NA.mp Z).1 z
    .exact U _ g z
   .subst e;exact U a (by rw[y];exact D2 _ ha) hb) (λq f=>by
   rcases Fm.mp f with rfl|f
   .exact .inl g
   .exact(GM.mp f).imp (λz=>by rw[y];exact D2 _ z) (T q)) VZ
 exact⟨p,N,v,rfl,rfl,OR,by rw[h4.len];exact hw.1,k.nx A' _ _ _ a1 a2 hw.2 S'⟩
theorem KL(B:∀{E G:TE},PE X e E->PE X e1 G->PS X st (jw E (Nx (gW i) G Hr)))(Y:(i,.f)∈M)(Z:∀R,VE X M R .s e (te R))(U:∀R,VE X M R .s e1 (t1 R)):
 VS X M m st (λd b=>te d.ex b λw=>match look b i with|some (.lst l)=>(t1 d.ex b λx=>(match x with|.int j=>∃n,uh l.length j=some n/\d.nx (b.set i (some (.lst (l.set n w))))|_=>False))|_=>False):=by
 rintro q s Q H D I ⟨A,P,b,d,S,N,hz,h,k⟩;refine B (Z d.ex) (U d.ex) q s Q H D I ⟨A,P,b,_,S,N,h,λw v H1 y K r=>?_⟩;obtain⟨l,e1,y⟩:=jI y;obtain⟨v0,p,C,h1,h2,h3,L,hB,o⟩:=kO (π:=[]) S Y SM e1 KH;cases h2;refine⟨_,h1,A,P,b,_,S.same K,N,y,λz vz H2 a J T=>?_⟩;cases z with
 |int j=>obtain⟨n,e,a⟩:=a;have g:=K.trans J;obtain⟨A',a1,a2,_,_,O⟩:=o H2 g (l.set n w) (C.set n v) ((L.same g).set (r.aW.same J));rw[E3]at O;exact⟨p,C,j,n,rfl,T.aW.int_inv,g _ _ h3,by rw[L.len];exact e,k.nx A' _ _ _ a1 a2 a O⟩
 |_=>exact a.elim
theorem BC(p:∀R,VE X [] R mr e (te R))(o:mr=m\/m=.s)(j:fH m=false):VS X M m (.Return (some e) pos) (λd b=>te d.ex b d.rt):=by
 rintro a s n H D I ⟨A,y,b,d,S,q,hz,h,k⟩;refine pO (p d.ex) a s n H D I ⟨_,y,b,_,S.go,q,h,λw v l g f r=>?_⟩;rcases o with rfl|rfl
 .exact k.rt w v l g (S.sm.trans f) (.of j (r.back S.sm λ_ z=>z))
 .exact k.rt w v l g (S.sm.trans f) (.of j ((r.s S.dm).back S.sm λ_ z=>z))
theorem E4(l:∀R,VE X M R .s e (te R)):VS X M .s (.Return (some e) pos) (λd b=>te d.ex b d.rt):=by rintro a s f H D I ⟨A,p,b,d,S,n,hz,h,k⟩;refine pO (l d.ex) a s f H D I ⟨A,p,b,_,S,n,h,λw v o j g r=>?_⟩;exact k.rt w v o j (S.sm.trans g) (.of rfl (bX.back S.sm S.sub' r))
theorem E5(o:PE X e (gW i))(b:(i,m)∈M)(n:fH m=false):VS X M m (.Return (some e) pos) (λd f=>match look f i with|some w=>d.rt w|none=>False):=by
 rintro a s j H D I ⟨A,C,f,d,S,B,hz,h,k⟩
 try dsimp only at h
 cases g:look f i with
 |none=>rw[g]at h;exact h.elim
 |some w=>
  rw[g]at h;obtain⟨F,O⟩:=S.ow;obtain⟨v,y,r⟩:=O.val i m w b g;refine pO o a s j H D I ⟨_,y,k.rt _ _ H h S.sm (.of n ⟨F i,O.nd i ⟨m,b⟩,λp l=>O.nw i p ⟨m,b⟩ l,Fp.mv (ao.refl _) (λq _ _ z=>?_) m r⟩)⟩;rcases z with z|z
  .exact(O.all q).mpr (.inl z)
  .exact(O.all q).mpr (.inr ⟨i,⟨m,b⟩,z⟩)
theorem OS{a b:List Stmt}(r:∀R,VT X M R c (tc R))(w:By X M m a t)(v:By X M m b u):VS X M m (.If c a b pos) (λd f=>tc d.ex f λx=>truth x λk=>if k=true then t d f else u d f):=by
 rintro g s p H D I ⟨A,n,f,d,S,l,hz,h,k⟩;refine Nr (r d.ex) w v g s p H D I ⟨A,n,f,_,S,l,h,λx y j o=>?_⟩;obtain⟨q,rfl,j⟩:=bH j;refine⟨q,rfl,?_⟩;cases q with
 |true=>exact⟨A,n,f,d,S.same o,l,hz,j,k⟩
 |false=>exact⟨A,n,f,d,S.same o,l,hz,j,k⟩
end
theorem qx{X:Cx}{st:Stmt}{t:TS}(h:PS X.eN st t):PS X st t:=PS.eN h
section
variable{X:Cx}{M:Ms}{m:Md}{body:List Stmt}{tb:WS}{c iter tg:Expr}{tc:WT}{ti:(Addr->Prop)->WT}{pos:Pos}{one:Bool}{ts:List Nat}
theorem KN(O:VT X.eN M (λ_=>False) c tc)(P:By X.eN M m body tb):VS X M m (.While c body [] pos) (λd r=>EA (λr Q=>tc r λx=>truth x Q) tb d r):=by
 refine PS.imp (qx (Ao YK O P)) ?_;rintro D U H ⟨A,u,r,d,S,Y,hz,h,k⟩;obtain⟨J,⟨C,I⟩,s⟩:=h;refine⟨λn b f=>∃e a,e.ab=A.ab/\e.s0=A.s0/\J n a/\SR X.K M e u b f a,⟨C,A,r,rfl,rfl,I,S⟩,?_⟩;rintro n B Z ⟨y,v,t,p,G,w⟩;refine⟨y,u,v,_,w,.none,s n v G,λx T o z=>?_⟩;obtain⟨q,rfl,o⟩:=bH o;refine⟨q,rfl,?_⟩;cases q with
 |true=>obtain⟨N,R,o⟩:=o;refine⟨λb f=>∃e a,e.ab=A.ab/\e.s0=A.s0/\N a/\SR X.K M e u b f a,λb f ⟨e,a,j,a2,i,g⟩=>?_,y,u,v,_,w.same z,.none,(by rw[p];exact hz),o,⟨λe a b f j a2 i g=>⟨e,a,j.trans t,a2.trans p,i,g⟩,by rw[t,p];exact k.rt,λe a b f j a2 i g=>k.nx e a b f (j.trans t) (a2.trans p) i g,λe a b f j a2 i g=>⟨e,a,j.trans t,a2.trans p,i,g⟩⟩⟩;obtain⟨E,l,L⟩:=R a i;exact⟨E,l,e,a,j,a2,L,g⟩
 |false=>exact k.nx y _ _ T t p o (w.same z)
theorem KO(hc:X.calm=true)(hM:∀i∈ts,¬aG M i)(Y:PI X.eN tg iter (z6 X.eN M (λ_=>False) false (ti λ_=>False)))(hg:PG X.eN tg (gT X.K one ts))(hb:By X.eN M m body tb)(hs:∀x,foldedSetIterable iter X.env x=pure x):
 VS X M m (.For tg iter body [] pos) (λd G=>ti (λ_=>False) G λz=>items z λg=>iT (λw N a=>wT one ts w a λl=>tb N l) d g G):=by
 refine PS.imp (qx (pP YK hc Y hg hb hs)) ?_;rintro D σ H ⟨A,H0,G,d,S,er,hz,h,k⟩;refine⟨A,H0,G,_,S,.none,h,λz T=>?_⟩;obtain⟨g,ez,hw⟩:=jG.mp T;refine⟨g,ez,λJ H1 s1 it=>?_⟩;have S1:=S.same s1;obtain⟨L,Ss,Q,b1,b2⟩:=S1.rb;have low:zg X.K false A.ab L J g:=it.low (λp o e=>b2 p o e) λp z=>S.sub' p z;have iw:=low.iw;refine⟨λi n f r=>n=g.length -i/\i<=g.length/\∃b a,b.ab=A.ab/\b.s0=A.s0/\SR X.K M b L f r a/\iT (λw N a=>wT one ts w a λl=>tb N l) d (g.drop i) a,⟨g.length,rfl,Hn _,A,G,rfl,rfl,Ss,hw⟩,?_⟩;have up:∀{b:Fz}{f:St}{r:Hp}{a:Ev},SR X.K M b L f r a->SR X.K M b H0 f r a:=λ{b f r a} q=>by obtain⟨F,O⟩:=q.ow;exact⟨q.len,q.sh,Q.trans q.sm,q.dm,q.sl,F,⟨O.un,O.val,O.emp,O.nd,O.ds,λi p Y e=>Q.free (O.nw i p Y e),O.na,O.all⟩⟩
 rintro i n R Z ⟨rfl,hi2,A2,fG,C,B,E,P⟩;by_cases u:i<g.length
 .refine .inr ⟨iw.go i Z E.sm u,λf r=>∃b a,b.ab=A.ab/\b.s0=A.s0/\SR X.K M b L f r a/\iT (λw N a=>wT one ts w a λl=>tb N l) d (g.drop (i+1)) a,by rintro f r ⟨b,a,v,a2,t,s⟩;exact⟨g.length -(i+1),by omega,rfl,u,b,a,v,a2,t,s⟩,λx H3 y=>?_⟩;have U:g[i]?=some g[i]:=B1 u;rw[Kt u,iT]at P;generalize g[i]=w at*;obtain⟨s3,I⟩:=iw.yl i Z x H3 w E.sm U y;have hr:Rep X.K (FB A2 M R) H3 w x:=I _ λp o e z=>by
   obtain⟨F,O⟩:=E.ow;rcases(O.all p).mp z with z|⟨j,hj,e2⟩
   .rw[C]at z;exact z
   .rw[O.nw j p hj e2]at e;cases e
  refine tgt hM (E.same s3) hr P λvs a hp S4=>?_;exact⟨A2,L,a,_,S4,.none,(by rw[B];exact hz),hp,⟨λb l OT Up v a2 t s=>⟨b,l,v.trans C,a2.trans B,s,t⟩,λw' v' r t s q3=>k.rt w' v' r t (Q.trans s) (by rw[C,B]at q3;exact q3.back Q),λb l OT Up v a2 t s=>k.nx b _ _ _ (v.trans C) (a2.trans B) t (up s),λb l OT Up v a2 t s=>⟨b,l,v.trans C,a2.trans B,s,t⟩⟩⟩
 .have e:i=g.length:=by omega
  subst e;refine .inl ⟨iw.st _ Z E.sm rfl,?_⟩;rw[Y4,iT]at P;exact k.nx A2 _ _ _ C B P (up E)
end
structure Go(A:Fz)(H:Hp)(A':Fz)(H':Hp):Prop where
 ab:A'.ab=A.ab
 s0:A'.s0=A.s0
 B:∀p o,H p=some o->A'.B p->A.B p
 ch:um A.B H H'
theorem Go.same{A:Fz}{H H':Hp}(s:ao H H'):Go A H A H':=⟨rfl,rfl,λ_ _ _ z=>z,.same s⟩
theorem Go.trans{A c b:Fz}{H H1 a:Hp}(g:Go A H c H1)(k:Go c H1 b a):Go A H b a:=by
 refine⟨k.ab.trans g.ab,k.s0.trans g.s0,λp o e z=>?_,λp o e=>?_⟩
 .rcases g.ch p o e with⟨_,y⟩|y
  .exact y
  .exact g.B p o e (k.B p o y z)
 .rcases g.ch p o e with y|y
  .exact .inl y
  .rcases k.ch p o y with⟨f,d⟩|h
   .exact .inl ⟨f,g.B p o e d⟩
   .exact .inr h
theorem Go.rep{K:Frag}{A a:Fz}{H H1:Hp}{w:W}{v:V}(g:Go A H a H1)(h:Rep K A.B H w v):Rep K a.B H1 w v:=Rep.chg g.ch g.B w h
abbrev HK:=Ev->(W->Ev->Prop)->Prop
abbrev KQ:=Ev->(List W->Ev->Prop)->Prop
noncomputable def tP(X:Cx)(M:Ms)(R:Addr->Prop)(t:HK):TE:=λe H Q=>∃A c f P,SR X.K M A c e H f/\ER X c R/\t f P/\∀d w v b a,P w a->Go A H d b->SR X.K M d c e b a->Rep X.K d.B b w v->Q v b
noncomputable def V1(X:Cx)(M:Ms)(R:Addr->Prop)(t:KQ):TA:=λe H Q=>∃A c f P,SR X.K M A c e H f/\ER X c R/\t f P/\∀d g h b a,P g a->Go A H d b->SR X.K M d c e b a->ai X.K d.B b g h->Q h b
abbrev VP(X:Cx)(M:Ms)(R:Addr->Prop)(e:Expr)(t:HK):Prop:=PE X e (tP X M R t)
abbrev E6(X:Cx)(M:Ms)(R:Addr->Prop)(es:List Expr)(t:KQ):Prop:=PA X es (V1 X M R t)
section
variable{X:Cx}{M:Ms}{R:Addr->Prop}{m m0:Md}{e a b c:Expr}{es rest:List Expr}{t ta tb:HK}{tl:KQ}{pos apos cpos p:Pos}{i j:Nat}{st:Stmt}{x:Str}{π:List jB}
theorem OU{t:WT}(h:VE X M R .s e t):VP X M R e (λd Q=>t d λw=>Q w d):=PE.imp h<|by rintro o H Q ⟨A,l,d,P,S,g,h,k⟩;exact⟨A,l,d,_,S,g,h,λw v n f s r=>k A w v n d f (.same s) (S.same s) r.aW⟩
theorem KR(E:(i,.f)∈M)(C:PE X e (gW i))(n:attributeBase e "pop" X.env (eval e X.env)=eval e X.env)(d:(apos.endLine==cpos.line)=true):
 VP X M R (.Call (.Attribute e "pop" apos) [] [] cpos) (λs Q=>match look s i with|some (.lst l)=>∃w,l[l.length -1]?=some w/\Q w (s.set i (some (.lst l.dropLast)))|_=>False):=
 PE.imp (JA XU PySem.F.slot_list_pop PySem.F.type_list_pop JB C n d)<|by rintro T H Q ⟨A,H0,s,P,S,Z,h,k⟩;obtain⟨l,L,w,K,h⟩:=jI h;obtain⟨U,q,r,I,G,y,u,Y,o⟩:=kO (π:=[]) S E SM L KH;cases G;obtain⟨v,J,D⟩:=u.get K;obtain⟨B,O,a2,a3,N,z⟩:=o H (ao.refl H) l.dropLast r.dropLast u.dropLast;rw[E3]at z;have g:Go A H B (upd H q (.lst r.dropLast)):=⟨O,a2,a3,N⟩;exact⟨_,I,.inl ⟨rfl,r,.inl (.inl y)⟩,q,r,v,rfl,rfl,y,by rw[u.len];exact J,k B w v _ _ h g z (g.rep D)⟩
theorem KU{op:Operator}(ha:VP X M R a ta)(hb:VP X M R b tb):VP X M R (.BinOp a op b pos) (λD Q=>ta D λx J=>tb J λy f=>dR op x y λz=>Q z f):=by rintro n s N H Q I ⟨A,L,D,P,S,U,p,k⟩;refine wpAny_BinOp (bin ha hb I (R:=λC q l=>∃x y d f,dR op x y (λz=>P z f)/\Go A H d l/\SR X.K M d L N l f/\Rep X.K d.B l x C/\Rep X.K d.B l y q) ⟨A,L,D,_,S,U,p,λA1 x C H1 J G g1 S1 rx=>⟨A1,L,J,_,S1,U,G,λd y q l f E T o Z=>⟨x,y,d,f,E,g1.trans T,o,T.rep rx,Z⟩⟩⟩ ?_);rintro v u Y C q l I2 rv ru ⟨x,y,d,f,h,g,o,G,E⟩;exact uW op n Y N l d.B x y C q v u _ Q I2 o.dom rv ru G.b E.b h λw z H' pw O r=>k d w z H' f pw (g.trans (.same O)) (o.same O) (r.rep o.dom)
theorem KW{op:CmpOp}(hu:X.A.units+64<cLine)(hm:behindInMarks op b=false)(ha:VP X M R a ta)(hb:VP X M R b tb):VP X M R (.Compare a [op] [b] pos) (λD Q=>ta D λx J=>tb J λy f=>eW op x y λz=>Q z f):=by rintro n s N H Q I ⟨A,L,D,P,S,U,p,k⟩;refine wpAny_Compare1 (bin ha hb I (R:=λC q l=>∃x y d f,eW op x y (λz=>P z f)/\Go A H d l/\SR X.K M d L N l f/\Rep X.K d.B l x C/\Rep X.K d.B l y q) ⟨A,L,D,_,S,U,p,λA1 x C H1 J G g1 S1 rx=>⟨A1,L,J,_,S1,U,G,λd y q l f E T o Z=>⟨x,y,d,f,E,g1.trans T,o,T.rep rx,Z⟩⟩⟩ ?_) hm;rintro v u Y C q l I2 rv ru ⟨x,y,d,f,h,g,o,G,E⟩;exact uX hu op n Y N l d.B x y C q v u _ Q I2 o.dom rv ru G.b E.b h λw z H' pw O r=>k d w z H' f pw (g.trans (.same O)) (o.same O) (r.rep o.dom)
theorem E7:E6 X M R [] (λd Q=>Q [] d):=PA.imp bV<|by rintro f H Q ⟨A,l,d,P,S,g,h,k⟩;exact k A [] [] H d h (.same (ao.refl H)) S .nil
theorem BD(w:starEach (a::es) X.env=(false,eval a X.env)::starEach es X.env)(z:VP X M R a ta)(y:E6 X M R es tl):E6 X M R (a::es) (λd Q=>ta d λx g=>tl g λn l=>Q (x::n) l):=
 PA.imp (aU z y w)<|by rintro J H Q ⟨A,r,d,P,S,q,h,k⟩;refine⟨A,r,d,_,S,q,h,λI x K N g v B D s=>⟨I,r,g,_,D,q,v,λG n L E l f o C u=>?_⟩⟩;exact k G _ _ E l f (B.trans o) C (.cons (o.rep s) u)
theorem OV(T:iI b)(Y:VP X M R a ta)(U:VP X M R b tb):VP X M R (.Subscript a b pos) (λr Q=>ta r λx E=>tb E λy o=>HE x y λz=>Q z o):=PE.imp (AD uJ Y U T)<|by
 rintro σ H Q ⟨A,N,r,P,S,L,h,k⟩;refine⟨A,N,r,_,S,L,h,λA1 x vx H1 E O D Z f=>⟨A1,N,E,_,Z,L,O,λK y vy J o d q I u=>?_⟩⟩;have f:=(q.rep f).b;cases x with
 |lst l=>
  cases y with
  |int i=>obtain⟨p,s,rfl,g,C⟩:=f.lst;obtain⟨w,e,d⟩:=d;obtain⟨v,G,B⟩:=xg C e;exact .inl ⟨p,s,i,v,rfl,u.int_inv,.inl g.rd,G,k K _ _ J o d (D.trans q) I B⟩
  |_=>exact d.elim
 |tup l=>
  cases y with
  |int i=>obtain⟨p,s,rfl,g,C⟩:=f.tup;obtain⟨w,e,d⟩:=d;obtain⟨v,G,B⟩:=xg C e;exact .inr (.inl ⟨p,s,i,v,rfl,u.int_inv,g,G,k K _ _ J o d (D.trans q) I B⟩)
  |_=>exact d.elim
 |fW ns=>
  cases y with
  |int i=>obtain⟨p,rfl,g⟩:=f.fW;obtain⟨n,e,d⟩:=d;exact .inl ⟨p,_,i,_,rfl,u.int_inv,g,xh e,k K _ _ J o d (D.trans q) I (c9 _)⟩
  |_=>exact d.elim
 |_=>exact d.elim
theorem ai.bl{K:Frag}{B:Addr->Prop}{H:Hp}:∀{d:List W}{vs:List V},ai K B H d vs->j8 K B H d vs
 |[],_,h=>h.nil_inv
 |w::d,_,h=>by obtain⟨v,r,rfl,g,f⟩:=h.cons_inv;exact⟨v,r,rfl,g.b,f.bl⟩
theorem KY{y:BI}{s:String}(N:bN X (.builtin s) (Kq X.K y))(J:Gl X x)(I:X.mg x=none)(E:bootBuiltins x=some (.builtin s))(O:E6 X M R (e::es) tl)(G:x≠"__name__")(n:(x==("__debug__":Str))=false)
 (L:starEach (e::es) X.env=(false,eval e X.env)::starEach es X.env)(l:(backTo pos (starEach es X.env)).any (·.1)=false):VP X M R (.Call (.Name x p) (e::es) [] pos) (λf Q=>tl f λg d=>l7 y g λw=>Q w d):=
 PE.imp (lI N J I E O G n L l)<|by rintro σ H Q ⟨A,Y,f,P,S,U,h,k⟩;exact⟨A,Y,f,_,S,U,h,λz g vs H1 u D T o C=>⟨z.B,g,λw=>P w u,o.dom,C.bl,D,λw v Z pw q r=>k z w v Z u pw (T.trans (.same q)) (o.same q) (r.rep o.dom)⟩⟩
theorem KZ{y:BI}{s:String}(N:bN X (.type s) (Kq X.K y))(J:Gl X x)(I:X.mg x=none)(E:bootBuiltins x=some (.type s))(O:E6 X M R (e::es) tl)(G:x≠"__name__")(n:(x==("__debug__":Str))=false)
 (L:starEach (e::es) X.env=(false,eval e X.env)::starEach es X.env)(l:(backTo pos (starEach es X.env)).any (·.1)=false):VP X M R (.Call (.Name x p) (e::es) [] pos) (λf Q=>tl f λg d=>l7 y g λw=>Q w d):=
 PE.imp (oO N J I E O G n L l)<|by rintro σ H Q ⟨A,Y,f,P,S,U,h,k⟩;exact⟨A,Y,f,_,S,U,h,λz g vs H1 u D T o C=>⟨z.B,g,λw=>P w u,o.dom,C.bl,D,λw v Z pw q r=>k z w v Z u pw (T.trans (.same q)) (o.same q) (r.rep o.dom)⟩⟩
theorem E8(o:∀{q:TE},PE X e q->PS X st (jw q (c6 j)))(z:¬aG M j){tt:(Addr->Prop)->HK}(B:∀R,VP X M R e (tt R)):VS X M m st (λd n=>tt d.ex n λw f=>d.nx (f.set j (some w))):=by rintro l s u H D I ⟨A,J,n,d,S,C,hz,h,k⟩;exact o (B d.ex) l s u H D I ⟨A,J,n,_,S,C,h,λK w v G f y g E r=>k.nx K _ _ G g.ab g.s0 y (E.set z r)⟩
theorem E9{tt:(Addr->Prop)->HK}(o:∀R,PS X st (rZ (tP X M R (tt R)))):VS X M m st (λd n=>tt d.ex n λw f=>d.nx f):=by rintro l s q H D I ⟨A,C,n,d,S,y,hz,h,k⟩;exact o d.ex l s q H D I ⟨A,C,n,_,S,y,h,λE w v B f u g z r=>k.nx E _ _ B g.ab g.s0 u z⟩
end
section
variable{X:Cx}{M:Ms}{R:Addr->Prop}{m m0:Md}{e o a b c:Expr}{es rest:List Expr}{t ta tb:HK}{tl:KQ}{pos apos cpos p:Pos}{i j n:Nat}{st:Stmt}{x:Str}{π:List jB}
theorem Fb{k n:Nat}{fv:Value}{sp:aX}(F:cS X.prog X.w X.K X.mg X.base k fv n (uZ X.K n m sp))(hr:bW k X.A)(hg:Gl X x)(hm:X.mg x=some fv)
 (hn:∀d P R,sp d P R->d.length=n)(ha:E6 X M R (e::es) tl)(N:(x==("__debug__":Str))=false)(he:starEach (e::es) X.env=(false,eval e X.env)::starEach es X.env)(L:(backTo pos (starEach es X.env)).any (·.1)=false):
 VP X M R (.Call (.Name x p) (e::es) [] pos) (λD Q=>tl D λd z=>sp d (λw=>Q w z) R):=by
 rintro q s U H Q I ⟨A,H0,D,P,S,er,h,kk⟩;obtain⟨E,Z,hE,hR⟩:=er;refine X5 (pN I hg hm ?_ N);refine PySem.W.callWith_K (h₀:=X.base) I.ok.mod.QF F.keep (aZ (ha pos q s U H (λG u=>∃d f g,Go A H f u/\SR X.K M f H0 U u g/\ai X.K f.B u d G/\sp d (λw=>P w g) R) I ⟨A,H0,D,_,S,⟨E,Z,hE,hR⟩,h,λf d G u g hw O l J=>⟨d,f,g,O,l,J,hw⟩⟩) λus s1 hz=>?_) he L;obtain⟨G,u,I1,r,d,f,g,O,l,J,Y⟩:=hz;exact⟨I1.lC,F.run hr Z I1 r ⟨f.B,d,_,R,hn _ _ _ Y,J,l.dom,Y,λw v T pw y r'=>kk f w v T g pw (O.trans (.same y)) (l.same y) (r'.rep l.dom),λC T rc y=>hE C T rc (l.sm.trans y)⟩⟩
end
theorem K0{x:Str}{n:Nat}{v:V}:∀(l:List Str)(r:List V)(n:Nat),l.Nodup->l[n]?=some x->r[n]?=some v->(l.zip r).lookup x=some v:=λl=>by
 induction l with
 |nil=>intro r n _ e _;exact nn e
 |cons y l g=>
  intro r n b c a;cases r with
  |nil=>exact nn a
  |cons z r=>
   rw[Ng,Ht];cases n with
   |zero=>
    cases c;cases a;rw[TK]
   |succ n=>
    have d:l[n]?=some x:=by simpa using c
    have f:(x==y)=false:=by rw[beq_eq_false_iff_ne];rintro rfl;exact(NA.mp b).1 (OF d)
    rw[f];exact g r n (NA.mp b).2 d (by simpa using a)
section
variable{X:Cx}{M:Ms}{R:Addr->Prop}{m m0:Md}{e o a b c:Expr}{es rest:List Expr}{t ta tb:HK}{tl:KQ}{pos apos cpos p:Pos}{i j n:Nat}{st:Stmt}{x:Str}{π:List jB}
theorem SR.more{K:Frag}{A:Fz}{u H H1:Hp}{h:St}{k:Ev}{G:List Addr}(S:SR K M A u h H k)(s:ao H H1)(nw:∀q∈G,H q=none)(ex:∀q∈G,∃o,H1 q=some o):SR K M ⟨λq=>A.ab q\/q∈G,λq=>A.B q\/q∈G,A.s0⟩ u h H1 k:=by
 obtain⟨F,O⟩:=S.ow;have r:∀p o,H p=some o->(A.B p\/p∈G)->A.B p:=λp o e z=>by
  rcases z with z|z
  .exact z
  .rw[nw p z]at e;cases e
 refine⟨S.len,λi w d e=>?_,S.sm.trans s,λp z=>?_,S.sl,F,⟨O.un,λi m w y e=>?_,O.emp,O.nd,O.ds,O.nw,λi p d l z=>?_,λp=>?_⟩⟩
 .obtain⟨v,g,f⟩:=S.sh i w d e;exact⟨v,g,Rep.mv s r w f⟩
 .rcases z with z|z
  .exact S.dm.same s p z
  .exact ex p z
 .obtain⟨v,g,f⟩:=O.val i m w y e;exact⟨v,g,Fp.mv s r m f⟩
 .rcases z with z|z
  .exact O.na i p d l z
  .obtain⟨o,e,_⟩:=O.has d l;rw[nw p z]at e;cases e
 .show(A.B p\/p∈G)↔_;rw[O.all p];constructor
  .rintro((z|z)|z)
   .exact .inl (.inl z)
   .exact .inr z
   .exact .inl (.inr z)
  .rintro((z|z)|z)
   .exact .inl (.inl z)
   .exact .inr z
   .exact .inl (.inr z)
theorem K1(h:PE X e (gW i)):PE X e (qt X.K i []):=PE.imp h<|by rintro g H Q ⟨v,u,f,d,q⟩;cases d;exact⟨v,f,q⟩
theorem rO.ix{K:Frag}{H:Hp}{n:Nat}:∀(π:List jB){v u:V},rO K H v (π++[.ix n]) u->∃p vs,rO K H v π (.ref p)/\(H p=some (.tup vs)\/H p=some (.lst vs))/\vs[n]?=some u
 |[],v,u,h=>by obtain⟨p,vs,x,e,k,g,f⟩:=h;cases f;exact⟨p,vs,by rw[e];rfl,k,g⟩
 |.ix m::π,v,u,h=>by obtain⟨p,vs,x,e,k,g,f⟩:=h;obtain⟨q,d,a,b,c⟩:=rO.ix π f;exact⟨q,d,⟨p,vs,x,e,k,g,a⟩,b,c⟩
 |.fl m _::π,v,u,h=>by obtain⟨p,vs,x,e,k,g,f⟩:=h;obtain⟨q,d,a,b,c⟩:=rO.ix π f;exact⟨q,d,⟨p,vs,x,e,k,g,a⟩,b,c⟩
theorem OW(h:PE X a (qt X.K i π))(s:PE X b (tC (.int n)))(l:iI b):PE X (.Subscript a b pos) (qt X.K i (π++[.ix n])):=
 PE.imp (AD uJ h s l)<|by rintro z H Q ⟨v,u,y,w,g⟩;obtain⟨q,f,r,d,k⟩:=rO.ix π w;exact⟨v,.ref q,y,r,d.elim (λd=>.inr (.inl ⟨q,f,n,u,rfl,rfl,gJ.of d,aV k,g⟩)) λd=>.inl ⟨q,f,n,u,rfl,rfl,dU.of d,aV k,g⟩⟩
theorem rO.fl{K:Frag}{H:Hp}{n:Nat}{f:Str}:∀(π:List jB){v u:V},rO K H v (π++[.fl n f]) u->∃p vs C k d,rO K H v π (.ref p)/\H p=some (.ins C k (List.zip d vs))/\Ex K C d/\d[n]?=some f/\vs[n]?=some u
 |[],v,u,h=>by obtain⟨p,vs,x,e,⟨C,k,d,s,_,y,w⟩,r,l⟩:=h;cases l;exact⟨p,vs,C,k,d,by rw[e];rfl,s,y,w,r⟩
 |.ix m::π,v,u,h=>by obtain⟨p,vs,x,e,s,r,l⟩:=h;obtain⟨q,g,C,k,d,a,b,c⟩:=rO.fl π l;exact⟨q,g,C,k,d,⟨p,vs,x,e,s,r,a⟩,b,c⟩
 |.fl m _::π,v,u,h=>by obtain⟨p,vs,x,e,s,r,l⟩:=h;obtain⟨q,g,C,k,d,a,b,c⟩:=rO.fl π l;exact⟨q,g,C,k,d,⟨p,vs,x,e,s,r,a⟩,b,c⟩
theorem K2{f:Str}(h:PE X a (qt X.K i π))(s:attributeBase a f X.env (eval a X.env)=eval a X.env):PE X (.Attribute a f pos) (qt X.K i (π++[.fl n f])):=
 PE.imp (Js h s)<|by rintro E H Q ⟨v,u,A,z,l⟩;obtain⟨q,k,C,D,B,r,y,d,g,w⟩:=rO.fl π z;exact⟨v,.ref q,A,r,q,C,D,_,u,rfl,y,d.1,d.2.2.2 f (OF g),K0 (v:=u) (n:=n) B k n d.2.2.1 g w,l⟩
end
end VL
namespace L2
open PySem PySem.Spec PyProof.Rows
section
variable{pr:Program}{wo:World}{B:Around}{EE:Value->Shared->Prop}
end
section
variable{X:Cx}{pos:Pos}
end
end L2
namespace VL
open PySem PySem.Spec
open PyProof.Rows hiding St
open L2
section
variable{K:Frag}{M M':Ms}{A:Fz}{H0 H H1:Hp}{σ:St}{ε:Ev}
theorem SR.take(S:SR K M' A H0 σ H ε){i:Nat}{m:Md}{w:W}{v:V}{F:List Addr}(l:∀x,x∈M↔x=(i,m)\/x∈M')(D:¬aG M' i)(s:i<ε.length)(nd:F.Nodup)(E:∀p∈F,A.ab p)(nw:∀p∈F,H0 p=none)(P:Fp K A.B H m w v F):
 SR K M ⟨λp=>A.ab p/\p∉F,A.B,A.s0⟩ H0 (σ.set i (some v)) H (ε.set i (some w)):=by
 obtain⟨G,O⟩:=S.ow;have f:∀j,aG M j↔j=i\/aG M' j:=λj=>by
  constructor
  .rintro⟨q,I⟩;rcases(l _).mp I with e|e
   .cases e;exact .inl rfl
   .exact .inr ⟨q,e⟩
  .rintro(rfl|⟨q,I⟩)
   .exact⟨m,(l _).mpr (.inl rfl)⟩
   .exact⟨q,(l _).mpr (.inr I)⟩
 have C:∀j,aG M' j->j≠i:=λj c e=>by subst e;exact D c
 refine⟨by rw[KF,KF];exact S.len,λj y c e=>?_,S.sm,λp z=>S.dm p z.1,λu e=>?_,λj=>if j=i then F else G j,⟨λj N L a b=>?_,λj q y c e=>?_,λj c e=>?_,λj c=>?_,λj k p c J a b=>?_,λj p c d=>?_,λj p c d=>?_,λp=>?_⟩⟩
 .have h:j≠i/\¬aG M' j:=⟨λz=>c ((f j).mpr (.inl z)),λz=>c ((f j).mpr (.inr z))⟩;rw[au (Mo h.1)]at e;obtain⟨u,t,r⟩:=S.sh j y h.2 e;exact⟨u,by rw[FR (Mo h.1)];exact t,r⟩
 .obtain⟨t,r⟩:=S.sl u e;exact⟨by rw[FR (Mo (C 0 r))];exact t,(f 0).mpr (.inr r)⟩
 .rcases(l _).mp a with a|a
  .rcases(l _).mp b with b|b
   .cases a;cases b;rfl
   .cases a;exact(D ⟨_,b⟩).elim
  .rcases(l _).mp b with b|b
   .cases b;exact(D ⟨_,a⟩).elim
   .exact O.un j N L a b
 .rcases(l _).mp c with a|a
  .cases a;have:=iP e;subst this;exact⟨v,KM (by rw[S.len];exact s),by rw[Bz rfl];exact P⟩
  .have n:=C j ⟨q,a⟩;rw[au (Mo n)]at e;obtain⟨u,t,r⟩:=O.val j q y a e;exact⟨u,by rw[FR (Mo n)];exact t,by rw[Bn n];exact r⟩
 .by_cases n:j=i
  .subst n;have:look (ε.set j (some w)) j=some w:=by rw[aN];exact KM s
   rw[this]at e;cases e
  .rw[au (Mo n)]at e;rw[Bn n];exact O.emp j (((f j).mp c).resolve_left n) e
 .by_cases n:j=i
  .rw[Bz n];exact nd
  .rw[Bn n];exact O.nd j (((f j).mp c).resolve_left n)
 .by_cases o:j=i
  .by_cases g:k=i
   .rw[o,g]
   .rw[Bz o]at a;rw[Bn g]at b;exact(O.na k p (((f k).mp J).resolve_left g) b (E p a)).elim
  .by_cases g:k=i
   .rw[Bn o]at a;rw[Bz g]at b;exact(O.na j p (((f j).mp c).resolve_left o) a (E p b)).elim
   .rw[Bn o]at a;rw[Bn g]at b;exact O.ds j k p (((f j).mp c).resolve_left o) (((f k).mp J).resolve_left g) a b
 .by_cases n:j=i
  .rw[Bz n]at d;exact nw p d
  .rw[Bn n]at d;exact O.nw j p (((f j).mp c).resolve_left n) d
 .by_cases n:j=i
  .rw[Bz n]at d;exact λz=>z.2 d
  .rw[Bn n]at d;exact λz=>O.na j p (((f j).mp c).resolve_left n) d z.1
 .constructor
  .intro z;by_cases d:p∈F
   .exact .inr ⟨i,(f i).mpr (.inl rfl),by rw[Bz rfl];exact d⟩
   .rcases(O.all p).mp z with z|⟨j,c,Q⟩
    .exact .inl ⟨z,d⟩
    .exact .inr ⟨j,(f j).mpr (.inr c),by rw[Bn (C j c)];exact Q⟩
  .rintro(z|⟨j,c,d⟩)
   .exact(O.all p).mpr (.inl z.1)
   .by_cases n:j=i
    .rw[Bz n]at d;exact(O.all p).mpr (.inl (E p d))
    .rw[Bn n]at d;exact(O.all p).mpr (.inr ⟨j,((f j).mp c).resolve_left n,d⟩)
end
theorem xo{K:Frag}{B:Addr->Prop}{H:Hp}:∀(a:List Md){b:List W}{vs:List V}{F:List Addr},dX K B H a b vs F->vs.length=a.length
 |[],b,vs,F,h=>by dsimp only[dX]at h;rw[h.2.1];rfl
 |m::a,b,vs,F,h=>by obtain⟨w,e,v,c,g,f,rfl,rfl,rfl,_,d⟩:=h;rw[D8,D8,xo a d]
section
variable{X:Cx}{M M':Ms}{m:Md}{st:Stmt}{te:(Addr->Prop)->WT}
end
section
variable{K:Frag}{B B':Addr->Prop}{H:Hp}
mutual
theorem Rep.Bs:∀(w:W){v:V},Bs w=true->Rep K B H w v->Rep K B' H w v
 |.aM,_,_,r=>by dsimp only[Rep]at r⊢;exact r
 |.bl _,_,_,r=>by dsimp only[Rep]at r⊢;exact r
 |.int _,_,_,r=>by dsimp only[Rep]at r⊢;exact r
 |.str _,_,_,r=>by dsimp only[Rep]at r⊢;exact r
 |.tup l,v,h,r=>by obtain⟨p,vs,e,b,a⟩:=r;exact⟨p,vs,e,b,ai.Bs l h a⟩
 |.ty _,_,h,_=>ff h
 |.cls _,_,h,_=>ff h
 |.err _,_,h,_=>ff h
 |.lst _,_,h,_=>ff h
 |.dct _ _,_,h,_=>ff h
 |.obj _ _ _,_,h,_=>ff h
 |.fW _,_,h,_=>ff h
theorem ai.Bs:∀(l:List W){vs:List V},sX l=true->ai K B H l vs->ai K B' H l vs
 |[],_,_,r=>by dsimp only[ai]at r⊢;exact r
 |w::l,vs,h,r=>by obtain⟨v,c,rfl,b,a⟩:=r.cons_inv;rw[sX,AN]at h;exact .cons (Rep.Bs w h.1 b) (ai.Bs l h.2 a)
end
mutual
theorem Fp.flat:∀(m:Md){w:W}{v:V}{F:List Addr},Fp K B H m w v F->flat m w=true->(∀p∈F,¬B' p)->Rep K B' H w v
 |.s,w,v,F,h,f,_=>by dsimp only[Fp]at h;dsimp only[VL.flat]at f;exact Rep.Bs w f h.2
 |.f,w,v,F,h,f,n=>by obtain⟨c,p,vs,rfl,rfl,rfl,b,a⟩:=h;dsimp only[VL.flat]at f;exact⟨p,vs,rfl,n p (Da.mpr rfl),.inl b,ai.Bs c f a⟩
 |.t e,w,v,F,h,f,n=>by obtain⟨c,p,vs,rfl,rfl,b,a⟩:=h;dsimp only[VL.flat]at f;exact⟨p,vs,rfl,b,dX.flat e a f n⟩
 |.o _ _,w,v,F,h,f,n=>ff f
 |.io _,w,v,F,h,f,n=>ff f
 |.d,w,v,F,h,f,n=>ff f
 |.ls _,w,v,F,h,f,n=>ff f
theorem dX.flat:∀(b:List Md){a:List W}{vs:List V}{F:List Addr},dX K B H b a vs F->wV b a=true->(∀p∈F,¬B' p)->ai K B' H a vs
 |[],a,vs,F,h,f,_=>by obtain⟨rfl,rfl,_⟩:=h;exact .nil
 |m::b,a,vs,F,h,f,n=>by obtain⟨w,i,v,d,k,j,rfl,rfl,rfl,g,e⟩:=h;rw[wV,AN]at f;exact .cons (Fp.flat m g f.1 λp c=>n p (P3 _ c)) (dX.flat b e f.2 λp c=>n p (Fs _ c))
end
end
noncomputable def OX(K:Frag)(M:Ms)(m:Md)(t:WT):TE:=λc H Q=>∃A d b P,SR K M A d c H b/\t b P/\∀w v a,P w->ao H a->bX K A.B H a m w v->Q v a
section
variable{X:Cx}{M M':Ms}{m m0:Md}{st:Stmt}{ti:(Addr->Prop)->WT}{tc te:WT}{one:Bool}{ts:List Nat}{i n:Nat}
theorem K4(hps:∀R,PS X st (jw (wN n (z6 X M' R true (ti R)) (gT X.K one ts) (QY X.K (up M' n) tc) (OX X.K (up M' n) m0 te)) (c6 i)))(hi:¬aG M i)(Z:∀j∈ts,j<n)(U:∀x∈M',x∈M):
 VS X M m st (λd C=>ti d.ex C λz=>items z λc=>f6 (λw K=>wT one ts w (Aq n none++C) λa=>tc a λx=>truth x λk=>if k=true then te a λy=>VL.flat m0 y=true/\K (some y)else K none) c [] λl=>d.nx (C.set i (some (.lst l)))):=by
 rintro Q s O H D I ⟨A,H0,C,d,S,er,hz,h,k⟩;obtain⟨A',ea,e0,hb,S'⟩:=S.sub (M':=M') U none (λv e=>by cases e);refine hps d.ex Q s O H D I ⟨A',H0,C,_,S',er,h,λz hz=>?_⟩;obtain⟨c,ez,hw⟩:=jG.mp hz;refine⟨c,ez,λJ H1 s1 it t hD=>?_⟩;have iw:=it.iw;generalize hf':(λ(w:W)(K:Option W->Prop)=>wT one ts w (Aq n none++C) λa=>tc a λx=>truth x λk=>if k=true then te a λy=>VL.flat m0 y=true/\K (some y)else K none)=f at hw;have OP:H t=none:=s1.free hD;refine⟨λi m r=>∃g u,m=c.length -i/\i<=c.length/\ao H1 r/\r t=some (.lst u)/\ai X.K (λq=>A.B q\/q=t) r g u/\f6 f (c.drop i) g _,
  ⟨c.length,[],[],rfl,Hn _,aF hD _,aL,.nil,hw⟩,?_⟩
 rintro i m r ⟨g,u,rfl,hi2,E,Dz,ra,N⟩;by_cases T:i<c.length
 .refine .inr ⟨iw.go i r E T,λx H3 y L G=>?_⟩;have hwi:c[i]?=some c[i]:=B1 T;rw[Kt T]at N;generalize c[i]=w at*;obtain⟨s3,Y⟩:=iw.yl i r x H3 w E hwi y;have QZ:ao H H3:=s1.trans (E.trans s3);have SG:H3 t=some (.lst u):=s3 _ _ Dz;have S3:SR X.K (up M' n) ⟨λq=>A'.ab q\/q=t,λq=>A'.B q\/q=t,none⟩ H0 (L++O) H3 (Aq n none++C):=S'.block G QZ OP SG;have SH:Rep X.K (λq=>A'.B q\/q=t) H3 w x:=by
   refine Y _ λp o e z=>?_;rcases z with z|rfl
   .exact z
   .rw[hD]at e;cases e
  have hM:∀j∈ts,¬aG (up M' n) j:=λj hj z=>by have:=(cu.mp z).1;have:=Z j hj;lia
  rw[f6,<-hf']at N;rw[hf']at N;refine tgt hM S3 SH N λP a hp S4=>?_;have e4:bf (L++O) ts P=bf L ts P++O:=mE ts P L O G Z;rw[e4]at S4⊢;have hv1:(bf L ts P).length=n:=by rw[mD];exact G
  refine⟨bf L ts P,hv1,rfl,⟨_,H0,a,_,S4,hp,λq H5 hq s5=>?_⟩⟩;obtain⟨b,rfl,hq⟩:=bH hq;refine⟨b,rfl,?_⟩;have DA:ao r H5:=s3.trans s5;cases b with
  |false=>exact⟨c.length -(i+1),by lia,g,u,rfl,T,E.trans DA,DA _ _ Dz,ra.same DA,hq⟩
  |true=>
   refine⟨_,H0,a,_,S4.same s5,hq,λy vy H6 hy s6 ry=>?_⟩;obtain⟨hfl,hlen,hy⟩:=hy;have KA:=DA.trans s6;have OQ:=KA _ _ Dz;obtain⟨F,nd,nw,fp⟩:=ry;have SI:Rep X.K (λq=>A.B q\/q=t) H6 y vy:=Fp.flat m0 fp hfl λp hp z=>by
    have h5:=nw p hp;rcases z with z|rfl
    .obtain⟨o,e⟩:=S.dom p z;have:=s5 _ _ (QZ _ _ e);rw[h5]at this;cases this
    .rw[DA _ _ Dz]at h5;cases h5
   refine⟨u,OQ,by rw[ra.len];exact hlen,c.length -(i+1),by lia,g++[y],u++[vy],rfl,T,λb o e=>?_,aL,?_,hy⟩
   .rw[aA (aP e hD)];exact KA _ _ (E _ _ e)
   .exact ai.put OQ (.inr rfl) _ ((ra.same KA).app (.cons SI .nil))
 .have e:i=c.length:=by lia
  subst e;refine .inl ⟨iw.st _ r E rfl,?_⟩;rw[Y4,f6]at N;refine k.nx A _ _ r rfl rfl N ((S.same (s1.trans E)).set hi ?_);exact⟨t,u,rfl,S.dom.no OP,.inl Dz,ra.less λp z=>.inl z⟩
end
section
variable{K:Frag}{M:Ms}{A:Fz}{H0 H:Hp}{σ:St}{ε:Ev}
theorem SR.HL(S:SR K M A H0 σ H ε){i:Nat}{v:Option V}(g:¬aG M i):SR K M A H0 (σ.set i v) H (ε.set i none):=by
 obtain⟨F,O⟩:=S.ow;have k:∀{w:W},look (ε.set i none) i=some w->False:=λ{w} e=>by
  rw[aN,Y0,Bz rfl]at e;split at e
  .cases e
  .cases e
 refine⟨by rw[KF,KF];exact S.len,λj f d e=>?_,S.sm,S.dm,λu e=>?_,F,⟨O.un,λj m f h e=>?_,λj d e=>?_,O.nd,O.ds,O.nw,O.na,O.all⟩⟩
 .by_cases a:i=j
  .subst a;exact(k e).elim
  .rw[au a]at e;obtain⟨u,c,b⟩:=S.sh j f d e;exact⟨u,by rw[FR a];exact c,b⟩
 .obtain⟨c,b⟩:=S.sl u e;exact⟨by rw[FR (by rintro rfl;exact g b)];exact c,b⟩
 .have a:i≠j:=by rintro rfl;exact g ⟨m,h⟩
  rw[au a]at e;obtain⟨u,c,b⟩:=O.val j m f h e;exact⟨u,by rw[FR a];exact c,b⟩
 .have a:i≠j:=by rintro rfl;exact g d
  rw[au a]at e;exact O.emp j d e
theorem SR.BE(S:SR K M A H0 σ H ε){i:Nat}(a:¬aG M i):SR K M A H0 σ H (ε.set i none):=by
 obtain⟨x,e⟩:∃x,σ.set i x=σ:=by
  by_cases h:i<σ.length
  .exact⟨σ[i],List.set_getElem_self h⟩
  .exact⟨none,List.set_eq_of_length_le (RF h)⟩
 have:=S.HL (v:=x) a;rw[e]at this;exact this
theorem BF{j:Nat}{p:Addr}{L:List W}(S:SR K M A H0 σ H ε)(Q:(j,.ls (.t [.f,.s]))∈M)(n:σ[j]?=some (some (.ref p)))(P:look ε j=some (.lst L)):∃vs,H p=some (.lst vs)/\vs.length=L.length/\∀{i r o},L[i]?=some (.tup [.lst r,o])->∃u k m a,vs[i]?=some (.ref u)/\H u=some (.tup [.ref k,m])/\H k=some (.lst a)/\ai K A.B H r a/\∀H1,ao H H1->∀v w,ai K A.B H1 v w->∃q,q.ab=A.ab/\q.s0=A.s0/\SR K M q H0 σ (upd H1 k (.lst w)) (ε.set j (some (setAt (.lst L) [.ix i,.ix 0] (.lst v)))):=by
 obtain⟨F2,O2⟩:=S.ow;obtain⟨v2,T,g2⟩:=O2.val j _ _ Q P;rw[n]at T;cases T;obtain⟨V2,p2,E,V3,q2,q3,Xn,y,R⟩:=g2;cases q2;cases q3;refine⟨E,y,R.len,λ{i r o} C=>?_⟩;obtain⟨v1,G1,G',G2,D,_,Y,_⟩:=c8.at R C;obtain⟨Xo,u,z,q4,rfl,x,U⟩:=Y;cases q4;obtain⟨v0,k,a,J,r2,I,G,r5,b⟩:=kO (π:=[.ix i,.ix 0]) (l:=r) S Q rfl P (by dsimp only[bU];rw[C];rfl);have V4:∃m,z=[.ref k,m]:=by
  clear b G I r5;have l3:=xo _ U;obtain⟨p0,V5,x1,n1,h,O,p1,V6,x2,n4,g,N,n7⟩:=r2;rw[n]at J;cases J;cases n1;have w2:V5=E:=by
   rcases h with h|h
   .rw[y]at h;cases h
   .rw[y]at h;cases h;rfl
  rw[w2,D]at O;cases O;cases n4;have Z:V6=z:=by
   rcases g with g|g
   .rw[x]at g;cases g;rfl
   .rw[x]at g;cases g
  rw[Z]at N;rcases z with _|⟨c,_|⟨d,_|⟨e,t⟩⟩⟩<;>cases l3;cases N;exact⟨d,by rw[n7]⟩
 obtain⟨m,rfl⟩:=V4;refine⟨u,k,m,a,D,x,I,G,λH1 s1 v w rl=>?_⟩;obtain⟨q,a1,a2,_,_,S'⟩:=b H1 s1 v w rl;exact⟨q,a1,a2,S'⟩
theorem xq{j:Nat}{L:List W}(S:SR K M A H0 σ H ε)(c:(j,.ls (.t [.f,.s]))∈M)(b:look ε j=some (.lst L)):∃p,σ[j]?=some (some (.ref p)):=by obtain⟨n,g⟩:=S.ow;obtain⟨i,e,d⟩:=g.val j _ _ c b;obtain⟨m,a,h,l,k,rfl,_⟩:=d;exact⟨a,e⟩
theorem BG{l:Ev}{X:Option W}{a b j:Nat}(e:a≠j)(d:b≠j):((((((l.set j X).set a none).set b none).set a none).set b none).set j none)=((l.set a none).set b none).set j none:=by
 have c:∀l:Ev,((l.set a none).set b none).set a none=(l.set a none).set b none:=λl=>by
  by_cases h:b=a
  .rw[h,QQ]
  .rw[SB _ _ h,QQ]
 have m:∀l:Ev,((l.set a none).set b none).set j none=((l.set j none).set a none).set b none:=λl=>by rw[SB _ _ d,SB _ _ e]
 rw[c,QQ,m,m,QQ]
noncomputable def OY(K:Frag)(M:Ms)(A:Fz)(H0:Hp)(ε:Ev)(a b j:Nat)(x0:W)(l:List W)(p:Addr)(i:Nat)(d:St)(H':Hp):Prop:=d[j]?=some (some (.ref p))/\∃e c,e.ab=A.ab/\e.s0=A.s0/\SR K M e H0 d H' c/\look c j=some (.lst ((l.take i).map (l9 x0)++l.drop i))/\((c.set a none).set b none).set j none=((ε.set a none).set b none).set j none
end
theorem Fd{x0:W}{l:List W}{i:Nat}{a:List W}{o:W}(h:l[i]?=some (.tup [.lst a,o])):((l.take i).map (l9 x0)++l.drop i)[i]?=some (.tup [.lst a,o])/\setAt (.lst ((l.take i).map (l9 x0)++l.drop i)) [.ix i,.ix 0] (.lst (a++[x0]))=.lst ((l.take (i+1)).map (l9 x0)++l.drop (i+1)):=by
 have d:=(FS.mp h).1;have b:((l.take i).map (l9 x0)).length=i:=by rw[Ap,Re];lia
 have c:((l.take i).map (l9 x0)++l.drop i)[i]?=some (.tup [.lst a,o]):=by rw[Jn (by lia),b,XW,List.getElem?_drop,Yt];exact h
 refine⟨c,?_⟩;dsimp only[setAt];rw[c];show W.lst (((l.take i).map (l9 x0)++l.drop i).set i (.tup [setAt (.lst a) [] (.lst (a++[x0])),o]))=_;have e:(l.drop i).set 0 (W.tup [W.lst (a++[x0]),o])=W.tup [W.lst (a++[x0]),o]::l.drop (i+1):=by rw[Kt d];rfl
 rw[E3,List.set_append_right _ _ (by lia),b,XW,e,WD,h];rw[PQ,YN];rfl
section
variable{X:Cx}{M:Ms}{m:Md}{st:Stmt}{tg it e o:Expr}{j a b:Nat}{pos q:Pos}{x0:W}{te:WT}
theorem K5(hc:X.calm=true)(Y:¬aG M a)(U:¬aG M b)(hab:a≠b)(P:(j,.ls (.t [.f,.s]))∈M)(hi:PE X.eN it (gW j))(hg:PG X.eN tg (gT X.K false [a,b]))(he:VE X.eN M (λ_=>False) .s e te)(hst:∀{tv:TE},PE X.eN e tv->PS X.eN st (rZ (QM X.K "list" kL (gW a) (j7 tv sd))))(hs:∀x,foldedSetIterable it X.env x=pure x)(hx:∀u Q,Q x0->te u Q):
 VS X M m (.For tg it [st] [] pos) (λd u=>match look u j with|some (.lst l)=>(∀w∈l,∃E o,w=.tup [.lst E,o]/\E.length<sizeLine)/\a<u.length/\d.nx (((u.set a none).set b none).set j (some (.lst (l.map (l9 x0)))))|_=>False):=by
 refine PS.imp (qx (pP YK hc (wu hi) hg (iG (hst he)) hs)) ?_;rintro D σ H ⟨A,H0,u,d,S,er,hz,h,k⟩;obtain⟨l,e1,hl,hal,hd⟩:=jI h;have T:a≠j:=by rintro rfl;exact Y ⟨_,P⟩
 have R:b≠j:=by rintro rfl;exact U ⟨_,P⟩
 obtain⟨p,h1⟩:=xq S P e1;have Z:∀{H2:Hp}{E:List V},H2 p=some (.lst E)->dU X.K H2 p E:=λz=>.inl (.inl z);refine⟨_,h1,p,rfl,(BF S P h1 e1).imp λ_ z=>Z z.1,?_⟩;refine⟨λi n r H'=>(n=l.length -i/\i<=l.length)/\OY X.K M A H0 u a b j x0 l p i r H',⟨l.length,⟨rfl,Hn _⟩,h1,A,u,rfl,rfl,S,e1,rfl⟩,?_⟩;rintro i n g H2 ⟨⟨rfl,hi2⟩,I⟩;obtain⟨O,A2,fG,ea,eb,S2,J,c⟩:=I;obtain⟨w4,g3,nY,at2⟩:=BF S2 P O J;rw[Fk,Ap,<-Fk,Uc]at nY;by_cases y:i<l.length
 .have G:l[i]?=some l[i]:=B1 y;obtain⟨E,o,ew,RN⟩:=hl _ (OF G);rw[ew]at G;obtain⟨z1,z2⟩:=Fd (x0:=x0) G;obtain⟨p3,B,L,C,y1,y4,r3,r4,N⟩:=at2 z1;refine .inr ⟨⟨w4,_,Z g3,y1⟩,λr H'=>OY X.K M A H0 u a b j x0 l p (i+1) r H',λr H' w=>⟨l.length -(i+1),QH y (Qr i),⟨rfl,y⟩,w⟩,?_⟩;rintro x H3 ⟨rfl,yy⟩;have:=yy w4 (Z g3);rw[y1]at this;cases this;refine⟨p3,[.ref B,L],rfl,gJ.of y4,rfl,qw [a,b] [.ref B,L] g _ rfl ?_⟩;have e3:bf g [a,b] [.ref B,L]=(g.set a (some (.ref B))).set b (some L):=by
   rw[bf,bf,bf]
   all_goals simp
  rw[e3];have S3:SR X.K M A2 H0 ((g.set a (some (.ref B))).set b (some L)) H3 ((fG.set a none).set b none):=(S2.HL Y).HL U;have la:a<g.length:=by have:=GT VX c;simp only[KF]at this;rw[S2.len,this];exact hal
  have wa:((g.set a (some (.ref B))).set b (some L))[a]?=some (some (.ref B)):=by rw[FR (λz=>hab z.symm)];exact KM la
  refine⟨_,wa,.inl ⟨rfl,C,.inl (.inl r3)⟩,A2,H0,_,λw=>w=x0,S3,.none,hx _ _ rfl,λw v H4 hw s4 rv=>?_⟩;cases hw;obtain⟨A',a1,a2,S'⟩:=N H4 s4 (E++[x0]) (C++[v]) ((r4.same s4).app (.cons rv.aW .nil));rw[z2]at S';refine⟨B,C,v,rfl,rfl,s4 _ _ r3,by rw[r4.len];exact RN,?_,A',_,a1.trans ea,a2.trans eb,(S'.HL Y).HL U,?_,?_⟩
  .rw[FR R,FR T];exact O
  .rw[au R,au T,aN];exact KM (iQ J)
  .rw[<-c];exact BG T R
 .cases Y6 hi2 (RF y);refine .inl ⟨⟨w4,Z g3,Sr nY⟩,?_⟩;have Sf:=(S2.BE Y).BE U;have V7:((fG.set a none).set b none)[j]?=some (some (.lst (l.map (l9 x0)))):=by rw[<-aN,au R,au T,J,SN,Y4,Y7]
  rw[<-dH V7,<-QQ (a:=none),c,QQ]at Sf;exact k.nx A2 _ _ _ ea eb hd Sf
end
section
variable{K:Frag}{M M':Ms}{A:Fz}{H0 Hs H H1:Hp}{σ:St}{ε:Ev}
end
section
variable{X:Cx}{M M':Ms}{m:Md}{st:Stmt}{ti:(Addr->Prop)->WT}{te:HK}{i:Nat}
theorem K6{R:Addr->Prop}{l:List Expr}{pos:Pos}{d:KQ}(q:E6 X M R l d):VP X M R (.List l pos) (λb Q=>d b λc a=>c.length<=sizeLine/\Q (.lst c) a):=PE.imp (Ax q)<|by rintro u H Q ⟨A,s,b,P,S,r,h,k⟩;refine⟨A,s,b,_,S,r,h,λt c o v a f g n e=>⟨by rw[ai.len e];exact f.1,λp j=>?_⟩⟩;have sm:=aF j (.lst o);exact k t _ _ _ a f.2 (g.trans (.same sm)) (n.same sm) ((bX.fresh (ao.refl _) j e).rep n.dom)
theorem K7{R:Addr->Prop}{j:List Expr}{pos:Pos}{l:Nat}{d:KQ}(q:E6 X M R j d):VP X M R (.Tuple j l pos) (λb Q=>d b λc a=>c.length<=sizeLine/\Q (.tup c) a):=PE.imp (uI q)<|by rintro v H Q ⟨A,t,b,P,S,r,h,k⟩;refine⟨A,t,b,_,S,r,h,λu c n w a f g s e=>⟨by rw[ai.len e];exact f.1,λp o=>?_⟩⟩;have sm:=aF o (.tup n);exact k u _ _ _ a f.2 (g.trans (.same sm)) (s.same sm) (sY aL (ai.same sm e))
end
end VL
namespace L2
open PySem PySem.Spec PyProof.Rows
section
variable{κ:Type}[DecidableEq κ]
noncomputable def mF(a:List (κ×V))(k:κ):Option V:=(a.find? λb=>decide (b.1=k)).map (·.2)
noncomputable def putK(a:List (κ×V))(k:κ)(v:V):List (κ×V):=
 if(a.any λb=>decide (b.1=k))=true then a.map (λb=>if b.1=k then(b.1,v)else b)else a++[(k,v)]
theorem mG{p:κ×V}{r:List (κ×V)}{k:κ}(e:p.1=k):mF (p::r) k=some p.2:=by simp[mF,NZ,e]
theorem mH{p:κ×V}{r:List (κ×V)}{k:κ}(e:¬p.1=k):mF (p::r) k=mF r k:=by simp[mF,NZ,e]
theorem tF(k:κ):∀a:List (κ×V),(a.any λb=>decide (b.1=k))=(mF a k).isSome
 |[]=>rfl
 |p::r=>by
  rw[U2];by_cases e:p.1=k
  .simp only[mG e,Do e,Bool.true_or,Option.isSome_some]
  .rw[mH e,KB e,Bool.false_or];exact tF k r
theorem kC.zj{o:Option V}{u:Option Value}(r:kC o u):o.isSome=u.isSome:=by
 cases o with
 |none=>cases u with
  |none=>rfl
  |some _=>exact(show False from r).elim
 |some _=>cases u with
  |none=>exact(show False from r).elim
  |some _=>rfl
theorem kC.getD{o:Option V}{u:Option Value}{d:V}{d':Value}(r:kC o u)(a:RelV d d'):RelV (o.getD d) (u.getD d'):=by
 cases o with
 |none=>cases u with
  |none=>exact a
  |some _=>exact(show False from r).elim
 |some _=>cases u with
  |none=>exact(show False from r).elim
  |some _=>exact r
theorem KV.val{a:List (κ×V)}{vs:List (κ×Value)}(r:KV a vs)(k:κ):kC (mF a k) (valueAt vs k):=by
 unfold KV at r
 induction r with
 |nil=>exact P4
 |@cons p q j c h t g=>
  obtain⟨f,i⟩:=h;by_cases e:p.1=k
  .have d:q.1=k:=f.symm.trans e;have b:valueAt (q::c) k=some q.2:=by simp[valueAt,NZ,d]
   rw[mG e,b];exact i
  .have d:¬q.1=k:=λz=>e (f.trans z);have b:valueAt (q::c) k=valueAt c k:=by simp[valueAt,NZ,d]
   rw[mH e,b];exact g
theorem KV.any{a:List (κ×V)}{vs:List (κ×Value)}(r:KV a vs)(k:κ):(a.any λb=>decide (b.1=k))=vs.any λb=>decide (b.1=k):=by
 unfold KV at r
 induction r with
 |nil=>rfl
 |cons h t c=>rw[U2,U2,c,h.1]
theorem KV.repl{b:List (κ×V)}{vs:List (κ×Value)}(r:KV b vs)(k:κ){y:V}{u:Value}(d:RelV y u):
 KV (b.map λa=>if a.1=k then(a.1,y)else a) (vs.map λa=>if a.1=k then(a.1,u)else a):=by
 unfold KV at r⊢
 induction r with
 |nil=>exact .nil
 |@cons p q j i h t f=>
  rw[Kk,Kk];refine .cons ?_ f;obtain⟨c,g⟩:=h;by_cases e:p.1=k
  .rw[Bz e,Bz (c.symm.trans e)];exact⟨c,d⟩
  .rw[Bn e,Bn (λz=>e (c.trans z))];exact⟨c,g⟩
theorem KV.put{a:List (κ×V)}{vs:List (κ×Value)}(r:KV a vs)(k:κ){y:V}{u:Value}(b:RelV y u):KV (putK a k y) (stored vs k u):=by
 unfold putK stored;rw[r.any k];by_cases e:(vs.any λc=>decide (c.1=k))=true
 .rw[Bz e,Bz e];exact r.repl k b
 .rw[Bn e,Bn e];exact Paired.snoc r ⟨rfl,b⟩
theorem KV.length{a:List (κ×V)}{vs:List (κ×Value)}(r:KV a vs):a.length=vs.length:=Paired.length r
end
abbrev KT(H:Hp):List (List Key×V)->List (List Key×Addr×Value)->Prop:=Paired λp q=>p.1=q.1/\H q.2.1=some (.tup (p.1.map kV))/\RelV p.2 q.2.2
theorem KT.val{H:Hp}{a:List (List Key×V)}{f:List (List Key×Addr×Value)}(r:KT H a f)(k:List Key):kC (mF a k) ((atKey f k).map (·.2)):=by
 induction r with
 |nil=>exact P4
 |@cons p q l c h t i=>
  obtain⟨g,_,j⟩:=h;by_cases e:p.1=k
  .have d:q.1=k:=g.symm.trans e;have b:atKey (q::c) k=some q.2:=by simp[atKey,NZ,d]
   rw[mG e,b];exact j
  .have d:¬q.1=k:=λz=>e (g.trans z);have b:atKey (q::c) k=atKey c k:=by simp[atKey,NZ,d]
   rw[mH e,b];exact i
theorem KT.repl{H:Hp}{a:List (List Key×V)}{d:List (List Key×Addr×Value)}(r:KT H a d)(k:List Key){y:V}{u:Value}(g:RelV y u):
 KT H (a.map λc=>if c.1=k then(c.1,y)else c) (d.map (putAt k u)):=by
 induction r with
 |nil=>exact .nil
 |@cons p q m l h t i=>
  rw[Kk,Kk];refine .cons ?_ i;obtain⟨b,f,j⟩:=h;unfold putAt;by_cases e:p.1=k
  .rw[Bz e,Bz (b.symm.trans e)];exact⟨b,f,g⟩
  .rw[Bn e,Bn (λz=>e (b.trans z))];exact⟨b,f,j⟩
theorem KT.put{H:Hp}{a:List (List Key×V)}{c:List (List Key×Addr×Value)}(r:KT H a c)(k:List Key){b:Addr}{y:V}{u:Value}(g:H b=some (.tup (k.map kV)))(d:RelV y u):
 KT H (putK a k y) (storedH c k b u):=by
 have e:(a.any λf=>decide (f.1=k))=(atKey c k).isSome:=by rw[tF,(r.val k).zj,Option.isSome_map]
 unfold putK storedH;rw[e];by_cases q:(atKey c k).isSome=true
 .rw[Bz q,Bz q];exact r.repl k d
 .rw[Bn q,Bn q];exact Paired.snoc r ⟨rfl,g,d⟩
theorem KT.keeps{H H':Hp}{a:List (List Key×V)}{d:List (List Key×Addr×Value)}(r:KT H a d)(e:∀b c,H b=some (.tup c)->H' b=some (.tup c)):KT H' a d:=
 Paired.Ae r λ_ _ z=>⟨z.1,e _ _ z.2.1,z.2.2⟩
section
variable{P:Program}{w:World}{H:Hp}{h:Heap}{a:Addr}
end
noncomputable def OZ(H:Hp)(a:Addr)(y:V)(r:Option V):Prop:=
 (∃c k,Rd H a (.dK c)/\y=kV k/\r=mF c k)\/∃c k b,Rd H a (.dT c)/\y=.ref b/\H b=some (.tup (k.map kV))/\r=mF c k
noncomputable def O3(H:Hp)(a:Addr)(y v:V)(H':Hp):Prop:=
 (∃c k,H a=some (.dK c)/\y=kV k/\c.length<sizeLine/\H'=upd H a (.dK (putK c k v)))\/
 ∃c k b,H a=some (.dT c)/\y=.ref b/\H b=some (.tup (k.map kV))/\c.length<sizeLine/\H'=upd H a (.dT (putK c k v))
theorem OZ.k{H:Hp}{a:Addr}{b:List (Key×V)}{k:Key}(e:H a=some (.dK b)):OZ H a (kV k) (mF b k):=.inl ⟨b,k,.inl e,rfl,rfl⟩
theorem O3.k{H:Hp}{a:Addr}{b:List (Key×V)}{k:Key}{v:V}(e:H a=some (.dK b))(c:b.length<sizeLine):O3 H a (kV k) v (upd H a (.dK (putK b k v))):=.inl ⟨b,k,e,rfl,c,rfl⟩
section
variable{X:Cx}{pins:List (Addr×Obj)}{σ:St}{H:Hp}{s:Shared}{a:Addr}{y v:V}{u r:Value}{o:Option V}{A:Around}{E:Value->Shared->Prop}
theorem Inv.big(I:Inv X pins σ H s):sysModules<s.heap.objs.size:=by have h:mainGlobals<s.heap.objs.size:=(I.mod.glob.keeps I.bk).lt;exact Yd (by decide) h
end
section
variable{X:Cx}{pins:List (Addr×Obj)}{σ:St}{H:Hp}{s:Shared}{a:Addr}{kvs:List (Key×V)}{k:Key}{u:Value}{A:Around}{E:Value->Shared->Prop}
end
section
variable{X:Cx}{o i e value:Expr}{pos pos' tpos:Pos}{td ty tv:TE}
end
section
variable{X:Cx}{pos:Pos}
end
structure M2(X:Cx)(o:Expr)(m:Str)(apos:Pos)(e f:Expr)(cpos:Pos):Prop where
 base:attributeBase o m X.env (eval o X.env)=eval o X.env
 few:((backTo cpos (starEach [e,f] X.env)).all (λx=>!x.1)&&(backToKw cpos (keywordEach [] X.env)).all (λx=>x.1.isSome)
  &&decide (([e,f]:List Expr).length+([]:List Keyword).length+(if([]:List Keyword).isEmpty then 0 else 1)<30))=true
 line:(apos.endLine==cpos.line)=true
 trees:backTo cpos (starEach [e,f] X.env)=[(false,eval e X.env),(false,eval f X.env)]
section
variable{X:Cx}{pins:List (Addr×Obj)}{σ:St}{H:Hp}{s:Shared}{a:Addr}{y d:V}{u r:Value}{o:Option V}{A:Around}{E:Value->Shared->Prop}
end
section
variable{X:Cx}{o e f:Expr}{apos cpos:Pos}{td ty tx:TE}
end
section
variable{X:Cx}{pins:List (Addr×Obj)}{σ:St}{H:Hp}{s:Shared}{a:Addr}{kvs:List (Key×V)}{A:Around}{E:Value->Shared->Prop}
end
section
variable{X:Cx}{pins:List (Addr×Obj)}{σ:St}{H:Hp}{s:Shared}{a:Addr}{y:V}{u:Value}{A:Around}{E:Value->Shared->Prop}
end
end L2
namespace L2
open PySem PySem.Spec PyProof.Rows PySem.W
variable{X:Cx}
end L2
namespace VL
open PySem PySem.Spec
open PyProof.Rows hiding St
open L2
section
variable{K:Frag}{B:Addr->Prop}{H:Hp}{j:Int}
end
section
variable{X:Cx}{M:Ms}{R:Addr->Prop}{o e f:Expr}{te tf:WT}{i:Nat}{pos:Pos}
theorem ints_rep{K:Frag}{B:Addr->Prop}{H:Hp}:∀a:List Int,ai K B H (a.map W.int) (a.map V.int)
 |[]=>.nil
 |m::a=>.cons (c9 m) (ints_rep a)
end
section
variable{X:Cx}{M M':Ms}{m:Md}{st:Stmt}{i:Nat}{e e1:Expr}{te t1:(Addr->Prop)->WT}
end
section
variable{K:Frag}{M:Ms}{A:Fz}{H0 H:Hp}{σ:St}{ε:Ev}
theorem mJ{M':Ms}{j:Nat}{p:Addr}{L:List W}(S:SR K M A H0 σ H ε)(hj:(j,.ls (.t [.f,.s]))∈M)(k:σ[j]?=some (some (.ref p)))(N:look ε j=some (.lst L))(C:∀x,x∈M'↔x∈M/\x.1≠j):
 ∃(vs:List V)(c:Fz),(H p=some (.lst vs)/\vs.length=L.length/\SR K M' c H0 σ H ε/\∀q,c.B q->A.B q)/\∀{i:Nat}{h:List W}{n:Int},L[i]?=some (.tup [.lst h,.int n])->∃d a,vs[i]?=some (.ref d)/\H d=some (.tup [.ref a,.int n])/\Rep K c.B H (.lst h) (.ref a):=by
 obtain⟨c,_,_,O,E⟩:=S.sub (M':=M') (λx o=>((C x).mp o).1) none (λv e=>by cases e);have u:¬aG M' j:=by rintro⟨m,J⟩;exact((C _).mp J).2 rfl
 obtain⟨v,w,G⟩:=E.sh j _ u N;rw[k]at w;cases w;obtain⟨U,vs,e,Y,R,D⟩:=G;cases e;refine⟨vs,c,⟨R.at,D.len,E,O⟩,λ{i h n} z=>?_⟩;obtain⟨v,T,r⟩:=D.get z;obtain⟨d,Q0,rfl,Q,b⟩:=r;obtain⟨x,Z,rfl,o,b⟩:=b.cons_inv;obtain⟨y,I,rfl,l,b⟩:=b.cons_inv;obtain rfl:=b.nil_inv;have l:y=.int n:=l;subst l;obtain⟨a,g,rfl,P⟩:=o;exact⟨d,a,T,Q,a,g,rfl,P⟩
theorem Fe(ε:Ev)(a b t y:Nat)(w:W):(kN ε a b t y w).length=ε.length:=by unfold kN;simp only[KF]
theorem HM{ε:Ev}{a b t y j:Nat}{w:W}(f:a≠j)(e:b≠j)(d:t≠j)(c:y≠j):look (kN ε a b t y w) j=look ε j:=by unfold kN;rw[au c,au d,au e,au f]
theorem qy{ε:Ev}{a b t y i:Nat}{w:W}(f:i=a\/i=b\/i=t)(e:i≠y):(kN ε a b t y w).set i none=kN ε a b t y w:=by
 unfold kN;rw[SB _ _ (Mo e)];congr 1;have c:∀(l:Ev)(i j:Nat),((l.set i none).set j none).set i none=(l.set i none).set j none:=λl i j=>by
  by_cases h:j=i
  .rw[h,QQ]
  .rw[SB _ _ h,QQ]
 rcases f with rfl|rfl|rfl
 .by_cases d:t=i
  .rw[d,QQ]
  .rw[SB _ _ d,c]
 .by_cases d:t=i
  .rw[d,QQ]
  .rw[SB _ _ d,QQ]
 .rw[QQ]
theorem Ff(ε:Ev)(a b t y:Nat)(w c:W):(kN ε a b t y w).set y (some c)=kN ε a b t y c:=by unfold kN;rw[QQ]
end
section
variable{X:Cx}{M M':Ms}{m:Md}{st:Stmt}{tg it MT SO e:Expr}{j a b t y:Nat}{pos pos2:Pos}{te:WT}
theorem K8(hc:X.calm=true)(ha:¬aG M a)(hb:¬aG M b)(ht:¬aG M t)(hy:¬aG M y)(hab:a≠b)(hat:a≠t)(T:a≠y)(Q2:b≠y)(hty:t≠y)(O:(j,.ls (.t [.f,.s]))∈M)(hM:∀x,x∈M'↔x∈M/\x.1≠j)
 (hi:PE X.eN it (gW j))(hg:PG X.eN tg (gT X.K false [a,b]))(hr:PI X.eN MT SO (Hh (j7 (gW b) sd)))(Oi:PG X.eN MT (c6 t))(he:VE X.eN M' (λ_=>False) .f e te)(hst:∀{tv:TE},PE X.eN e tv->PS X.eN st (jw tv (c6 y)))
 (hs:∀x,foldedSetIterable it X.env x=pure x)(hs2:∀x,foldedSetIterable SO X.env x=pure x):
 VS X M m (.For tg it [.For MT SO [st] [] pos2] [] pos) (λd u=>match look u j with|some (.lst l)=>∃Y,look u y=some Y/\(a<u.length/\b<u.length)/\sW (λL w K=>te ((kN u a b t y w).set a (some L)) λJ=>flat .f J=true/\K J) l Y λw=>d.nx (kN u a b t y w)|_=>False):=by
 refine PS.imp (qx (pP YK hc (wu hi) hg (iG (pP YK hc hr Oi (iG (hst he)) hs2)) hs)) ?_;rintro D σ H ⟨A,P,u,d,S,er,hz,h,k⟩;obtain⟨l,e1,Y,ew,⟨al,bl⟩,h⟩:=jI h;have ja:a≠j:=by rintro rfl;exact ha ⟨_,O⟩
 have jb:b≠j:=by rintro rfl;exact hb ⟨_,O⟩
 have jt:t≠j:=by rintro rfl;exact ht ⟨_,O⟩
 have jy:y≠j:=by rintro rfl;exact hy ⟨_,O⟩
 have yl:=iQ ew;obtain⟨p,h1⟩:=xq S O e1;have hM':∀{i:Nat},¬aG M i->¬aG M' i:=λ{i} n ⟨m',z⟩=>n ⟨m',((hM _).mp z).1⟩;have Sl:∀{H2:Hp}{L:List V},H2 p=some (.lst L)->dU X.K H2 p L:=λz=>.inl (.inl z);obtain⟨vs,A1,⟨hp,lv,_,_⟩,_⟩:=mJ (M':=M') S O h1 e1 hM;refine⟨_,h1,p,rfl,⟨vs,Sl hp⟩,?_⟩
 let f:W->W->(W->Prop)->Prop:=λL w K=>te ((kN u a b t y w).set a (some L)) λJ=>flat .f J=true/\K J
 let Q:W->Prop:=λw=>d.nx (kN u a b t y w)
 have start:SR X.K M A P σ H (kN u a b t y Y):=by
  have S1:=((S.BE ha).BE hb).BE ht;have e2:(((u.set a none).set b none).set t none)[y]?=some (some Y):=by rw[<-aN,au hty,au Q2,au T];exact ew
  rw[<-dH e2]at S1;exact S1
 refine⟨λi n c E=>(n=l.length -i/\i<=l.length)/\(ao H E/\c[j]?=some (some (.ref p)))/\∃w,SR X.K M A P c E (kN u a b t y w)/\sW f (l.drop i) w Q,⟨l.length,⟨rfl,Hn _⟩,⟨ao.refl _,h1⟩,Y,start,h⟩,?_⟩;rintro i n g H2 ⟨⟨rfl,hi2⟩,⟨sm,hσ⟩,w,S2,G⟩;by_cases I:i<l.length
 .rw[Kt I]at G;obtain⟨L,n,ex,n1,n2,G⟩:=G;have hwi:l[i]?=some (.tup [.lst L,.int n]):=by rw[B1 I,ex]
  obtain⟨w4,A2,⟨R,Xp,V8,hb2⟩,pair⟩:=mJ (M':=M') S2 O hσ (by rw[HM ja jb jt jy];exact e1) hM;obtain⟨p3,C,y1,y4,rp⟩:=pair hwi;refine .inr ⟨⟨w4,_,Sl R,y1⟩,λc E=>(ao H E/\c[j]?=some (some (.ref p)))/\∃w,SR X.K M A P c E (kN u a b t y w)/\sW f (l.drop (i+1)) w Q,λc E w=>⟨l.length -(i+1),QH I (Qr i),⟨rfl,I⟩,w⟩,?_⟩;rintro x H3 ⟨rfl,yy⟩;have:=yy w4 (Sl R);rw[y1]at this;cases this;refine⟨p3,[.ref C,.int n],rfl,gJ.of y4,rfl,qw [a,b] [.ref C,.int n] g _ rfl ?_⟩;have e3:bf g [a,b] [.ref C,.int n]=(g.set a (some (.ref C))).set b (some (.int n)):=by
   rw[bf,bf,bf]
   all_goals simp
  rw[e3];have l2:g.length=u.length:=by rw[S2.len,Fe]
  have wb:((g.set a (some (.ref C))).set b (some (.int n)))[b]?=some (some (.int n)):=KM (by rw[KF,l2];exact bl);have Z:((g.set a (some (.ref C))).set b (some (.int n)))[a]?=some (some (.ref C)):=by rw[FR (Mo hab)];exact KM (by rw[l2];exact al)
  have U:((g.set a (some (.ref C))).set b (some (.int n)))[j]?=some (some (.ref p)):=by rw[FR jb,FR ja];exact hσ
  have S3:SR X.K M A P ((g.set a (some (.ref C))).set b (some (.int n))) H3 (kN u a b t y w):=by have:=(S2.HL (v:=some (.ref C)) ha).HL (v:=some (.int n)) hb;rw[qy (.inl rfl) T,qy (.inr (.inl rfl)) Q2]at this;exact this
  generalize(g.set a (some (.ref C))).set b (some (.int n))=σ3 at wb Z U S3;refine⟨_,wb,n,rfl,n1,n2,?_⟩;refine⟨λq r c E=>(r=n.toNat -q/\q<=n.toNat)/\(ao H3 E/\c[j]?=some (some (.ref p))/\c[a]?=some (some (.ref C)))/\∃w,SR X.K M A P c E (kN u a b t y w)/\zc (f (.lst L)) (n.toNat -q) w λJ=>sW f (l.drop (i+1)) J Q,⟨n.toNat,⟨rfl,Hn _⟩,⟨ao.refl _,U,Z⟩,w,S3,G⟩,?_⟩;clear V8 S3 wb Z U G S2;rintro q r O4 H4 ⟨⟨rfl,hq⟩,⟨s4,U,Z⟩,w,S4,G⟩;by_cases N:q<n.toNat
  .refine .inr ⟨N,λc E=>(ao H3 E/\c[j]?=some (some (.ref p))/\c[a]?=some (some (.ref C)))/\∃w,SR X.K M A P c E (kN u a b t y w)/\zc (f (.lst L)) (n.toNat -(q+1)) w λJ=>sW f (l.drop (i+1)) J Q,λc E z=>⟨n.toNat -(q+1),QH N (Qr q),⟨rfl,N⟩,z⟩,?_⟩;rintro x H5 ⟨rfl,rfl⟩;have S5:SR X.K M A P (O4.set t (some (.int (0+(q:Int))))) H5 (kN u a b t y w):=by have:=S4.HL (v:=some (.int (0+(q:Int)))) ht;rw[qy (.inr (.inr rfl)) hty]at this;exact this
   have SQ:(O4.set t (some (V.int (0+(q:Int)))))[j]?=some (some (.ref p)):=by rw[FR jt];exact U
   have SV:(O4.set t (some (V.int (0+(q:Int)))))[a]?=some (some (.ref C)):=by rw[FR (Mo hat)];exact Z
   show(jw _ (c6 y)) _ (O4.set t (some (.int (0+(q:Int))))) H5;generalize O4.set t (some (V.int (0+(q:Int))))=Xq at S5 SQ SV;obtain⟨V9,A6,⟨Wa,_,S6,Xr⟩,O5⟩:=mJ (M':=M') S5 O SQ (by rw[HM ja jb jt jy];exact e1) hM;obtain⟨Xu,pp',z1,z4,Wb⟩:=O5 hwi;have ev:V9=w4:=by have:=s4 _ _ R;rw[Wa]at this;cases this;rfl
   rw[ev,y1]at z1;cases z1;have:=s4 _ _ y4;rw[z4]at this;cases this;have S7:=S6.set (hM' ha) Wb;rw[dH SV]at S7;rw[show n.toNat -q=n.toNat -(q+1)+1 by omega]at G;refine⟨A6,P,_,_,S7,.none,G,λJ v H6 OM s6 rv=>?_⟩;obtain⟨hf,OM⟩:=OM;obtain⟨ws,p6,Wc,rfl,rfl,We,h7,h8⟩:=bX.HD rv;have nB:¬A.B p6:=λz=>by obtain⟨o,ho⟩:=S5.dom p6 z;rw[We]at ho;cases ho
   have rep:Rep X.K A.B H6 (.lst ws) (.ref p6):=⟨p6,Wc,rfl,nB,.inl h7,ai.Bs ws hf h8⟩;have S8:=(S5.same s6).set hy rep;rw[Ff]at S8;refine⟨⟨s4.trans s6,?_,?_⟩,_,S8,OM⟩
   .rw[FR jy];exact SQ
   .rw[FR (Mo T)];exact SV
  .cases Y6 hq (RF N);refine .inl ⟨BM _,?_⟩;rw[XW]at G;exact⟨⟨sm.trans s4,U⟩,w,S4,G⟩
 .cases Y6 hi2 (RF I);refine .inl ⟨⟨vs,Sl (sm _ _ hp),Sr lv⟩,?_⟩;rw[Y4]at G;exact k.nx A _ _ _ rfl rfl G S2
end
theorem a2{a b:Bool}(z:(a&&b)=true):a=true/\b=true:=by cases a<;>cases b<;>first|exact⟨rfl,rfl⟩|exact ff z
theorem a3{a b c:Bool}(z:((a&&b)&&c)=true):(a=true/\b=true)/\c=true:=⟨a2 (a2 z).1,(a2 z).2⟩
structure SE where
 N:List Str
 nk:List (Str×NameKind)
 M:Ms
 fn:List Str
 gn:List Str
 zn:List Str
 md:List Md
 mt:List (Nat×Nat)
noncomputable def iV:List Md->Nat->Md
 |[],_=>.s
 |x::_,0=>x
 |_::l,n+1=>iV l n
noncomputable def O6:Md->Bool
 |.f=>true
 |_=>false
noncomputable def K9:Md->Bool
 |.s=>true
 |_=>false
noncomputable def g8(M:Ms)(i:Nat):Bool:=(M.lookup i).isSome
theorem b6{M:Ms}{i:Nat}(h:g8 M i=false):¬aG M i:=by
 rintro⟨m,d⟩;unfold g8 at h;have:∀M:Ms,(i,m)∈M->(M.lookup i).isSome=true:=λM=>by
  induction M with
  |nil=>intro z;cases z
  |cons x M c=>
   intro z;obtain⟨a,b⟩:=x;rw[Ht];cases e:i==a with
   |true=>rfl
   |false=>
    rcases Fm.mp z with z|z
    .cases z;rw[TK]at e;cases e
    .exact c z
 rw[this M d]at h;cases h
theorem iW{M:Ms}{i:Nat}{m:Md}(h:M.lookup i=some m):(i,m)∈M:=by
 induction M with
 |nil=>exact nn h
 |cons x M c=>
  obtain⟨a,b⟩:=x;rw[Ht]at h;cases e:i==a with
  |true=>rw[e]at h;cases h;cases Pm.mp e;exact DL
  |false=>rw[e]at h;exact D2 _ (c h)
noncomputable def tG(M:Ms)(i:Nat):Bool:=match M.lookup i with
 |none=>true
 |some m=>O6 m
theorem tH{M:Ms}{i:Nat}(h:tG M i=true):aG M i->(i,.f)∈M:=λa=>by
 unfold tG at h;cases e:M.lookup i with
 |none=>exact(b6 (by unfold g8;rw[e];rfl) a).elim
 |some m=>rw[e]at h;cases m<;>first|exact iW e|exact ff h
noncomputable def SW:Md->Bool
 |.d=>true
 |_=>false
noncomputable def zk(M:Ms)(i:Nat):Bool:=match M.lookup i with
 |none=>false
 |some m=>O6 m
theorem kP{M:Ms}{i:Nat}(h:zk M i=true):(i,.f)∈M:=by
 unfold zk at h;cases e:M.lookup i with
 |none=>rw[e]at h;exact ff h
 |some m=>rw[e]at h;cases m<;>first|exact iW e|exact ff h
noncomputable def SE.sc(S:SE):Scope:={kind:=.function,names:=S.nk,isGenerator:=false,isCoroutine:=false}
noncomputable def O7(S:SE)(x:Str):Bool:=S.nk.lookup x==some .local||(S.nk.lookup x==some .cell||S.nk.lookup x==some .free)
noncomputable def okN(x:Str):Bool:=!(x==("__debug__":Str))&&!(x==("__classdict__":Str))&&!(x==("__name__":Str))
noncomputable def gc(S:SE)(x:Str):Bool:=(S.nk.lookup x==some .globalImplicit)&&okN x
noncomputable def tys:List String:=["int","bool","tuple","list","str","dict"]
noncomputable def xr:Expr->Bool
 |.Call _ _ _ _=>false
 |_=>true
noncomputable def mC(f:Const->Bool):Expr->Bool
 |.Constant c _ _=>f c
 |_=>false
noncomputable def SX(f:Str->Pos->Bool):Expr->Bool
 |.Name x p=>f x p
 |_=>false
noncomputable def oZ(f:Str->Bool):Expr->Bool:=SX λx _=>f x
noncomputable def gf(S:SE)(i:Nat):Expr->Bool:=oZ λx=>S.N[i]?==some x&&O7 S x&&okN x
noncomputable def o1{α:Type}(f:α->Bool):List α->Bool
 |[a]=>f a
 |_=>false
noncomputable def La(f:Expr->List CmpOp->List Expr->Bool):Expr->Bool
 |.Compare l b a _=>f l b a
 |_=>false
noncomputable def xu(f:Expr->List Expr->Bool->Pos->Bool):Expr->Bool
 |.Call g b a p=>f g b a.isEmpty p
 |_=>false
noncomputable def Fg(f:Expr->Str->Pos->Bool):Expr->Bool
 |.Attribute o m p=>f o m p
 |_=>false
noncomputable def SY(f:Option Expr->Option Expr->Option Expr->Bool):Expr->Bool
 |.Slice l h t _=>f l h t
 |_=>false
noncomputable def Uq(f:Expr->List Comprehension->Scope->Bool):Expr->Bool
 |.ListComp x a s _=>f x a s
 |_=>false
noncomputable def BH(f:Operator->Expr->Expr->Bool):Expr->Bool
 |.BinOp l o r _=>f o l r
 |_=>false
noncomputable def S0(f:UnaryOp->Expr->Bool):Expr->Bool
 |.UnaryOp o x _=>f o x
 |_=>false
noncomputable def BJ(f:CmpOp->Expr->Expr->Bool):Expr->Bool:=La λl b a=>o1 (λo=>o1 (λr=>f o l r) a) b
noncomputable def o2{α:Type}(f:α->α->Bool):List α->Bool
 |a::l=>o1 (f a) l
 |_=>false
noncomputable def o3{α:Type}(f:α->α->α->Bool):List α->Bool
 |a::l=>o2 (f a) l
 |_=>false
noncomputable def HN(f:CmpOp->CmpOp->Expr->Expr->Expr->Bool):Expr->Bool:=La λl b a=>o2 (λo c=>o2 (λr t=>f o c l r t) a) b
noncomputable def S9(f:BoolOp->List Expr->Bool):Expr->Bool
 |.BoolOp o a _=>f o a
 |_=>false
noncomputable def u0(f:List Expr->Bool):Expr->Bool
 |.Tuple a _ _=>f a
 |_=>false
noncomputable def Lb(f:List Expr->Bool):Expr->Bool
 |.List a _=>f a
 |_=>false
noncomputable def u5(f:Expr->Expr->Bool):Expr->Bool
 |.Subscript v s _=>f v s
 |_=>false
noncomputable def Ur(f:Expr->Option Expr->Option Expr->Bool):Expr->Bool:=u5 λv s=>SY (λl h t=>t.isNone&&f v l h) s
noncomputable def gg(f:Str->List Expr->Bool):Expr->Bool:=xu λg a k _=>k&&oZ (λx=>f x a) g
noncomputable def BK(f:Expr->Str->Pos->Pos->Bool):Expr->Bool:=xu λg b k c=>k&&b.isEmpty&&Fg (λo m a=>f o m a c) g
noncomputable def HP(f:Expr->Expr->Expr->List Expr->Scope->Bool):Expr->Bool:=Uq λx a s=>o1 (λg=>decide (g.is_async=0)&&f x g.target g.iter g.ifs s) a
theorem eB{f:Const->Bool}{e:Expr}(h:mC f e=true):∃c k p,e=.Constant c k p/\f c=true:=by cases e<;>first|exact⟨_,_,_,rfl,h⟩|exact ff h
theorem xw{f:Str->Pos->Bool}{e:Expr}(h:SX f e=true):∃x p,e=.Name x p/\f x p=true:=by cases e<;>first|exact⟨_,_,rfl,h⟩|exact ff h
theorem tK{f:Expr->List CmpOp->List Expr->Bool}{e:Expr}(h:La f e=true):∃l b a p,e=.Compare l b a p/\f l b a=true:=by cases e<;>first|exact⟨_,_,_,_,rfl,h⟩|exact ff h
theorem jJ{f:Expr->List Expr->Bool->Pos->Bool}{e:Expr}(h:xu f e=true):∃g b a p,e=.Call g b a p/\f g b a.isEmpty p=true:=by cases e<;>first|exact⟨_,_,_,_,rfl,h⟩|exact ff h
theorem iX{f:Expr->Str->Pos->Bool}{e:Expr}(h:Fg f e=true):∃o m p,e=.Attribute o m p/\f o m p=true:=by cases e<;>first|exact⟨_,_,_,rfl,h⟩|exact ff h
theorem xx{f:Option Expr->Option Expr->Option Expr->Bool}{e:Expr}(h:SY f e=true):∃l r t p,e=.Slice l r t p/\f l r t=true:=by cases e<;>first|exact⟨_,_,_,_,rfl,h⟩|exact ff h
theorem Fi{f:Expr->List Comprehension->Scope->Bool}{e:Expr}(h:Uq f e=true):∃x a s p,e=.ListComp x a s p/\f x a s=true:=by cases e<;>first|exact⟨_,_,_,_,rfl,h⟩|exact ff h
theorem cy{α:Type}{f:α->Bool}{l:List α}(h:o1 f l=true):∃a,l=[a]/\f a=true:=by rcases l with _|⟨a,_|_⟩<;>first|exact⟨_,rfl,h⟩|exact ff h
theorem BL{α:Type}{f:α->α->Bool}{l:List α}(h:o2 f l=true):∃a b,l=[a,b]/\f a b=true:=by
 cases l with
 |nil=>exact ff h
 |cons a l=>obtain⟨b,rfl,c⟩:=cy h;exact⟨_,_,rfl,c⟩
theorem bS{f:Str->Bool}{e:Expr}(h:oZ f e=true):∃x p,e=.Name x p/\f x=true:=xw h
theorem jK{f:Operator->Expr->Expr->Bool}{e:Expr}(h:BH f e=true):∃l o r p,e=.BinOp l o r p/\f o l r=true:=by cases e<;>first|exact⟨_,_,_,_,rfl,h⟩|exact ff h
theorem kQ{f:UnaryOp->Expr->Bool}{e:Expr}(h:S0 f e=true):∃o x p,e=.UnaryOp o x p/\f o x=true:=by cases e<;>first|exact⟨_,_,_,rfl,h⟩|exact ff h
theorem o9{f:CmpOp->Expr->Expr->Bool}{e:Expr}(h:BJ f e=true):∃l o r p,e=.Compare l [o] [r] p/\f o l r=true:=by obtain⟨l,g,d,p,rfl,c⟩:=tK h;obtain⟨o,rfl,b⟩:=cy c;obtain⟨r,rfl,a⟩:=cy b;exact⟨_,_,_,_,rfl,a⟩
theorem zm{f:CmpOp->CmpOp->Expr->Expr->Expr->Bool}{e:Expr}(h:HN f e=true):∃l o a r t p,e=.Compare l [o,a] [r,t] p/\f o a l r t=true:=by obtain⟨l,i,g,p,rfl,d⟩:=tK h;obtain⟨o,a,rfl,c⟩:=BL d;obtain⟨r,t,rfl,b⟩:=BL c;exact⟨_,_,_,_,_,_,rfl,b⟩
theorem kR{f:BoolOp->List Expr->Bool}{e:Expr}(h:S9 f e=true):∃o a p,e=.BoolOp o a p/\f o a=true:=by cases e<;>first|exact⟨_,_,_,rfl,h⟩|exact ff h
theorem cT{f:List Expr->Bool}{e:Expr}(h:u0 f e=true):∃a k p,e=.Tuple a k p/\f a=true:=by cases e<;>first|exact⟨_,_,_,rfl,h⟩|exact ff h
theorem mK{f:List Expr->Bool}{e:Expr}(h:Lb f e=true):∃a p,e=.List a p/\f a=true:=by cases e<;>first|exact⟨_,_,rfl,h⟩|exact ff h
theorem cU{f:Expr->Expr->Bool}{e:Expr}(h:u5 f e=true):∃v s p,e=.Subscript v s p/\f v s=true:=by cases e<;>first|exact⟨_,_,_,rfl,h⟩|exact ff h
theorem xy{f:Expr->Option Expr->Option Expr->Bool}{e:Expr}(h:Ur f e=true):∃v l r q p,e=.Subscript v (.Slice l r none q) p/\f v l r=true:=by obtain⟨v,s,p,rfl,c⟩:=cU h;obtain⟨l,r,t,q,rfl,b⟩:=xx c;obtain⟨k,a⟩:=a2 b;rw[Option.isNone_iff_eq_none.mp k];exact⟨_,_,_,_,_,rfl,a⟩
theorem aI{f:Str->List Expr->Bool}{e:Expr}(h:gg f e=true):∃x q a p,e=.Call (.Name x q) a [] p/\f x a=true:=by obtain⟨g,a,i,p,rfl,d⟩:=jJ h;obtain⟨k,c⟩:=a2 d;obtain⟨x,q,rfl,b⟩:=bS c;rw[Hb.mp k];exact⟨_,_,_,_,rfl,b⟩
theorem u6{f:Expr->Str->Pos->Pos->Bool}{e:Expr}(h:BK f e=true):∃o m a c,e=.Call (.Attribute o m a) [] [] c/\f o m a c=true:=by obtain⟨g,n,j,p,rfl,i⟩:=jJ h;obtain⟨⟨k,l⟩,d⟩:=a3 i;obtain⟨o,m,a,rfl,b⟩:=iX d;rw[Hb.mp k,Hb.mp l];exact⟨_,_,_,_,rfl,b⟩
theorem pq{f:Expr->Expr->Expr->List Expr->Scope->Bool}{e:Expr}(h:HP f e=true):∃d tg b c a p,e=.ListComp d [⟨tg,b,c,0⟩] a p/\f d tg b c a=true:=by obtain⟨x,m,s,p,rfl,j⟩:=Fi h;obtain⟨⟨tg,l,n,z⟩,rfl,i⟩:=cy j;obtain⟨k,g⟩:=a2 i;cases Bi k;exact⟨_,_,_,_,_,_,rfl,g⟩
noncomputable def Wf(n:Int):Const->Bool
 |.int j=>decide (j=n)
 |_=>false
noncomputable def tL(S:SE)(i:Nat):List jB->Expr->Bool
 |[],e=>gf S i e
 |.fl _ x::π,e=>Fg (λa f _=>decide (f=x)&&xr a&&tL S i π a) e
 |.ix n::π,e=>u5 (λa k=>mC (Wf n) k&&tL S i π a) e
noncomputable def j9(S:SE)(m:Md->Bool)(i:Nat)(π:List jB)(e:Expr):Bool:=!π.isEmpty&&tL S i π.reverse e&&(match S.M.lookup i with
 |some a=>(match gH a π with
  |some k=>m k
  |none=>false)
 |none=>false)
noncomputable def cV(S:SE):CE->Expr->Bool
 |.var i,e=>gf S i e&&tG S.M i
 |.own i π,e=>j9 S O6 i π e
 |_,_=>false
noncomputable def Q3:BI->Str
 |.len=>"len"
 |.abs=>"abs"
 |.max2=>"max"
 |.min2=>"min"
 |.sum=>"sum"
 |.all=>"all"
 |.any=>"any"
 |.list=>"list"
 |.tuple=>"tuple"
 |.uo=>"isinstance"
 |.int=>"int"
 |.QW=>"divmod"
noncomputable def Us:BI->Nat->Bool
 |_,n=>0<n
noncomputable def DB:CE->Bool
 |.not a=>DB a
 |.wU _ a=>DB a
 |.and b=>BN b
 |.or b=>BN b
 |_=>true
where BN:List CE->Bool
 |[]=>true
 |a::b=>DB a&&BN b
noncomputable def xA:Expr->Bool
 |.Slice _ _ _ _=>false
 |_=>true
noncomputable def jL:Expr->Bool
 |.Set _ _ _=>false
 |_=>true
noncomputable def BO:List Expr->Option (List Str)
 |[]=>some []
 |.Name x _::a=>(BO a).map λl=>x::l
 |_::_=>none
noncomputable def Lc:Expr->Option (Bool×List Str)
 |.Name x _=>some (true,[x])
 |.Tuple a _ _=>(BO a).map λl=>(false,l)
 |_=>none
noncomputable def mask(a:List Str)(N:List Str):List Str:=N.map λy=>if a.contains y then y++("!":Str)else y
noncomputable def SE.comp(S:SE)(a:Scope)(b:List Str):SE:=
 {S with N:=b++mask b S.N,nk:=a.names.map λp=>(p.1,if p.2=.free then .cell else p.2),M:=up S.M b.length}
noncomputable def SE.lend(S:SE)(a:List Nat):SE:={S with M:=S.M.filter (λx=>!a.contains x.1)}
noncomputable def Wg:Expr->Bool
 |.Call (.Name _ _) (_::_) _ _=>true
 |.Compare _ _ _ _=>true
 |_=>false
noncomputable def O8:CE->Option String
 |.wR n=>some n
 |_=>none
noncomputable def BP:CE->Bool
 |.qg _=>true
 |_=>false
noncomputable def Ld(n:Bool)(f:Expr->Bool):Option Expr->Bool
 |none=>n
 |some e=>!n&&f e
noncomputable def HQ:CE->Bool
 |.bl b=>b
 |_=>false
noncomputable def O9:BI->List CE->Bool
 |.uo,[_,c]=>(O8 c).isSome
 |.uo,_=>false
 |_,_=>true
noncomputable def Tc(y:Bool)(f:Expr->Bool):List Expr->Bool
 |[]=>y
 |[e]=>f e
 |_=>false
noncomputable def BQ(f:Expr->Bool)(g:List Expr->Bool):List Expr->Bool
 |e::a=>f e&&g a
 |[]=>false
noncomputable def qz(f:Expr->Bool):List Expr->Bool:=o1 f
noncomputable def mL(S:SE)(f:List Nat)(one:Bool)(n:Nat)(g:Bool)(i:Expr->Bool)(j:SE->List Expr->Bool)(h:SE->Expr->Bool)(e tg b:Expr)(d:List Expr)(a:Scope):Bool:=
 match Lc tg with
 |some (o,c)=>(one==o)&&(n==c.length)&&(f==BB n)&&cK a S.sc S.N (mask c S.N) c&&decide (c++mask c S.N).Nodup&&jL b&&(!g||!one)&&i b&&j (S.comp a c) d&&h (S.comp a c) e
 |none=>false
noncomputable def kg(c:Nat->Md):CE->Bool
 |.lst _=>true
 |.comp _ _ _ _ _ _=>true
 |.blt .list _=>true
 |.rev _=>true
 |.JV _ _=>true
 |.sl _ _ _=>true
 |.bin .Add a b=>kg c a||kg c b
 |.bin .Mult a _=>kg c a
 |.call f _=>match c f with
  |.f=>true
  |_=>false
 |_=>false
noncomputable def Wh(f:Expr->Bool):Option Expr->Option Expr->Option Expr->Bool
 |none,none,some t=>f t
 |_,_,_=>false
noncomputable def Ut(f:Expr->Expr->Bool):Expr->Bool:=u5 λv s=>SY (Wh (f v)) s
theorem xB{f:Expr->Expr->Bool}{e:Expr}(h:Ut f e=true):∃v t q p,e=.Subscript v (.Slice none none (some t) q) p/\f v t=true:=by
 obtain⟨v,s,p,rfl,h⟩:=cU h;obtain⟨l,r,t,q,rfl,h⟩:=xx h;cases l with
 |some _=>exact ff h
 |none=>
  cases r with
  |some _=>exact ff h
  |none=>
   cases t with
   |none=>exact ff h
   |some t=>exact⟨v,t,q,p,rfl,h⟩
noncomputable def mo(a:Nat->Md)(c:CE):Md:=if kg a c=true then .f else .s
mutual
noncomputable def aD(S:SE)(A:Bool):CE->Expr->Bool
 |.var i,e=>gf S i e&&!g8 S.M i
 |.int i,e=>mC (λc=>decide (c=.int i)) e
 |.bl b,e=>mC (λc=>decide (c=.bool b)) e
 |.str x,e=>mC (λc=>decide (c=.str x)) e
 |.aM,e=>mC (λc=>decide (c=.none)) e
 |.wR n,e=>oZ (λx=>decide (x=Str.ofString n)&&gc S x&&S.zn.contains x&&tys.contains n) e
 |.glob g,e=>oZ (λx=>S.gn[g]?==some x&&gc S x) e
 |.bin op a b,e=>BH (λo l r=>decide (op=o)&&(aD S false a l||cV S a l)&&(aD S false b r||cV S b r)) e
 |.neg a,e=>S0 (λo x=>decide (o=.USub)&&aD S false a x) e
 |.not a,e=>S0 (λo x=>decide (o=.Not)&&aD S false a x) e
 |.cmp op a b,e=>BJ (λo l r=>decide (op=o)&&!decide (op=.In)&&!decide (op=.NotIn)&&(aD S false a l||cV S a l)&&(aD S false b r||cV S b r)) e
 |.l6 p q a b c,e=>HN (λo G l r t=>decide (p=o)&&decide (q=G)&&(qu p).isSome&&(qu q).isSome&&aD S false a l&&aD S false b r&&aD S false c t) e
 |.and j,e=>S9 (λo d=>decide (o=.And)&&!d.isEmpty&&eE S j d) e
 |.or j,e=>S9 (λo d=>decide (o=.Or)&&!d.isEmpty&&eE S j d) e
 |.tup j,e=>u0 (λd=>eE S j d) e
 |.lst j,e=>Lb (λd=>eE S j d) e
 |.ix a i,e=>u5 (λv s=>xA s&&(aD S false a v||cV S a v)&&aD S false i s) e
 |.JV a st,e=>Ut (λv t=>(aD S false a v||cV S a v)&&aD S false st t) e
 |.sl a C D,e=>Ur (λv l h=>(aD S false a v||cV S a v)&&Ld (iS C) (λx=>aD S false C x) l&&Ld (iS D) (λx=>aD S false D x) h) e
 |.call f j,e=>gg (λx d=>S.fn[f]?==some x&&gc S x&&!d.isEmpty&&!fH (iV S.md f)&&!S.mt.any (·.1==f)&&eE S j d) e
 |.blt b j,e=>gg (λx d=>decide (x=Q3 b)&&gc S x&&S.zn.contains x&&Us b d.length&&O9 b j&&kj S j d) e
 |.comp E one n i c x,e=>HP (λz tg k w m=>mL S E one n (BP i) (λk=>aD S true i k||cV S i k) (λB w=>Tc (HQ c) (λf=>aD B false c f&&DB c) w) (λB z=>aD B false x z) z tg k w m) e
 |.jq j,e=>gg (λx d=>A&&decide (x=("range":Str))&&gc S x&&S.zn.contains x&&(j.length==1||j.length==2||j.length==3)&&eE S j d) e
 |.qg a,e=>gg (λx d=>A&&decide (x=("enumerate":Str))&&gc S x&&S.zn.contains x&&qz (λv=>aD S false a v) d) e
 |.rev a,e=>gg (λx d=>cond A (decide (x=("reversed":Str))&&gc S x&&S.zn.contains x&&qz (λv=>aD S false a v) d)
  (decide (x=("list":Str))&&gc S x&&S.zn.contains x&&qz (λv=>gg (λy d=>decide (y=("reversed":Str))&&gc S y&&S.zn.contains y&&qz (λu=>aD S false a u||cV S a u) d) v) d)) e
 |.pop _,_=>false
 |.own i π,e=>j9 S K9 i π e
 |.wU H a,e=>Wg e&&aD (S.lend H) false a e
noncomputable def eE(S:SE):List CE->List Expr->Bool
 |[],b=>b.isEmpty
 |a::c,b=>BQ (λe=>aD S false a e) (λb=>eE S c b) b
noncomputable def kj(S:SE):List CE->List Expr->Bool
 |[],b=>b.isEmpty
 |a::c,b=>BQ (λe=>aD S false a e||cV S a e) (λb=>kj S c b) b
end
structure XOk(S:SE)(Φ:Nat->aX)(Ψ:Nat->Md)(G:Nat->W)(X:Cx):Prop where
 hN:X.N=S.N
 nd:X.N.Nodup
 calm:X.calm=true
 un:X.A.units+64<cLine
 nk:∀x,X.env.scope.names.lookup x=S.nk.lookup x
 fns:∀(j:Nat)(x:Str),S.fn[j]?=some x->S.mt.any (·.1==j)=false->∃fv n k,X.mg x=some fv/\cS X.prog X.w X.K X.mg X.base k fv n (ur X.K n (Ψ j) (Φ j))/\bW k X.A/\∀ws P R,Φ j ws P R->ws.length=n
 Fj:∀(j g:Nat)(x:Str),S.fn[j]?=some x->(j,g)∈S.mt->∃f fd ps n k,(∀C,G g=.cls C->Meth X.K C x f)/\Binds X.K fd ps []/\bJ X.prog X.w X.K X.mg X.base (iO X.prog X.w) k f fd ps (ur X.K n (Ψ j) (Φ j))/\bW k X.A/\∀ws P R,Φ j ws P R->ws.length=n
 DC:Ψ=iV S.md
 DE:∀(j:Nat)(x:Str),S.gn[j]?=some x->∃u v,X.mg x=some u/\RelV v u/\∀B H,Rep X.K B H (G j) v
 rR:∀x∈S.zn,X.mg x=none
 kit:tw X.K
section
variable{S:SE}{Φ:Nat->aX}{Ψ:Nat->Md}{G:Nat->W}{X:Cx}
theorem XOk.eN(h:XOk S Φ Ψ G X):XOk S Φ Ψ G X.eN:=⟨h.hN,h.nd,h.calm,h.un,h.nk,h.fns,h.Fj,h.DC,h.DE,h.rR,h.kit⟩
theorem xC{x:Str}(h:okN x=true):(x==("__debug__":Str))=false/\(x==("__classdict__":Str))=false/\x≠"__name__":=by unfold okN at h;simp only[AN,YQ]at h;exact⟨h.1.1,h.1.2,λz=>by rw[z]at h;exact absurd h.2 (by simp)⟩
theorem bw{x:Str}(a:XOk S Φ Ψ G X)(h:gc S x=true):Gl X x/\(x==("__debug__":Str))=false/\x≠"__name__":=by unfold gc at h;rw[AN]at h;obtain⟨c,d,b⟩:=xC h.2;refine⟨?_,c,b⟩;show X.env.scope.names.lookup x=_;rw[a.nk];exact Pm.mp h.1
theorem cL(b:XOk S Φ Ψ G X){i:Nat}{e:Expr}(h:gf S i e=true):PE X e (gW i):=by obtain⟨x,c,rfl,h⟩:=bS h;obtain⟨h,d⟩:=KE.mp h;obtain⟨f,a⟩:=KE.mp h;obtain⟨j,g,_⟩:=xC d;refine Ai (by rw[b.hN];exact Pm.mp f) ?_ j g;simp only[O7,Yi,Pm]at a;rw[<-b.nk]at a;exact a
noncomputable def noStar:Expr->Bool
 |.Starred _ _=>false
 |_=>true
theorem aB{e:Expr}(h:noStar e=true)(a:List Expr)(env:Env):starEach (e::a) env=(false,eval e env)::starEach a env:=by
 cases e<;>first|rfl|exact ff h
theorem cz:∀{a:List Expr}(h:a.all noStar=true)(pos:Pos)(env:Env),(backTo pos (starEach a env)).any (·.1)=false
 |[],_,_,_=>rfl
 |e::a,h,pos,env=>by rw[JE,AN]at h;rw[aB h.1];show(false||(backTo pos (starEach a env)).any (·.1))=false;rw[cz h.2];rfl
theorem dw{m:Md->Bool}{i:Nat}{π:List jB}{e:Expr}(h:j9 S m i π e=true):
 (∃g k,π≠[]/\tL S i π.reverse e=true/\S.M.lookup i=some g/\gH g π=some k/\m k=true)/\((∃a f q,e=.Attribute a f q)\/∃a j c d q,e=.Subscript a (.Constant (.int j) c d) q):=by
 unfold j9 at h;rw[AN,AN]at h;obtain⟨⟨y,l⟩,b⟩:=h;have u:π≠[]:=λz=>by rw[z]at y;exact ff y
 constructor
 .split at b
  .rename_i g hl
   split at b
   .rename_i k hk
    exact⟨g,k,u,l,hl,hk,b⟩
   .cases b
  .cases b
 .cases t:π.reverse with
  |nil=>exact(u (by simpa using t)).elim
  |cons s r=>
   rw[t]at l;cases s with
   |ix n=>obtain⟨v,s,p,rfl,w⟩:=cU l;obtain⟨c,k,q,rfl,A⟩:=eB (a2 w).1;cases c<;>first|exact .inr ⟨_,_,_,_,_,rfl⟩|exact ff A
   |fl n x=>obtain⟨o,m,p,rfl,w⟩:=iX l;exact .inl ⟨_,_,_,rfl⟩
theorem mO{m:Md->Bool}{i:Nat}{π:List jB}{v:Expr}{p:Pos}(h:j9 S m i π (.Starred v p)=true):False:=by rcases(dw h).2 with⟨_,_,_,e⟩|⟨_,_,_,_,_,e⟩<;>cases e
theorem aO{b:Bool}{c:CE}{e:Expr}(h:aD S b c e=true\/cV S c e=true):noStar e=true:=by
 cases e with
 |Starred v p=>
  rcases h with h|h
  .cases c with
   |own i d=>exact(mO h).elim
   |wU f a=>exact ff h
   |_=>exact ff h
  .cases c<;>first|exact ff h|exact(mO h).elim
 |_=>rfl
theorem dZ{a b:Bool}(h:(a||b)=true):a=true\/b=true:=by
 cases a
 .exact .inr h
 .exact .inl rfl
theorem jM:∀{cs:List CE}{a:List Expr},eE S cs a=true->a.all noStar=true
 |[],a,h=>by
  cases a with
  |nil=>rfl
  |cons _ _=>exact ff h
 |c::cs,[],h=>by cases h
 |c::cs,e::a,h=>by have h:=a2 h;rw[JE,aO (.inl h.1),jM h.2];rfl
theorem mP:∀{cs:List CE}{a:List Expr},kj S cs a=true->a.all noStar=true
 |[],a,h=>by
  cases a with
  |nil=>rfl
  |cons _ _=>exact ff h
 |c::cs,[],h=>by cases h
 |c::cs,e::a,h=>by have h:=a2 h;rw[JE,aO (dZ h.1),mP h.2];rfl
theorem qA{b:Expr}(h:xA b=true):iI b:=λo i=>by cases b<;>first|rfl|exact ff h
theorem zo{a:Expr}(h:xr a=true)(f:Str)(env:Env)(b:Sem Value):attributeBase a f env b=b:=by cases a<;>first|rfl|exact ff h
theorem mQ(b:XOk S Φ Ψ G X){i:Nat}:∀(π:List jB)(e:Expr),tL S i π e=true->PE X e (qt X.K i π.reverse)
 |[],e,h=>K1 (cL b h)
 |.fl n x::π,e,h=>by obtain⟨o,m,p,rfl,g⟩:=iX h;obtain⟨⟨a,f⟩,d⟩:=a3 g;have a:=Bi a;subst a;rw[X3];exact K2 (mQ b π _ d) (zo f _ _ _)
 |.ix n::π,e,h=>by
  obtain⟨v,s,p,rfl,g⟩:=cU h;obtain⟨f,d⟩:=a2 g;obtain⟨c,k,q,rfl,j⟩:=eB f;cases c<;>try exact ff j
  have a:=Bi j;subst a;rw[X3];exact OW (mQ b π _ d) Aj (qA rfl)
theorem BR(b:XOk S Φ Ψ G X){m:Md->Bool}{i:Nat}{π:List jB}{e:Expr}(h:j9 S m i π e=true):∃a k,(i,a)∈S.M/\gH a π=some k/\m k=true/\PE X e (qt X.K i π):=by obtain⟨⟨a,k,_,g,f,d,c⟩,_⟩:=dw h;have:=mQ b π.reverse e g;rw[Yl]at this;exact⟨a,k,iW f,d,c,this⟩
theorem Pb(g:XOk S Φ Ψ G X){i:Nat}{π:List jB}{e:Expr}(h:j9 S K9 i π e=true)(R:Addr->Prop):VE X S.M R .s e (λa Q=>match look a i with|some w=>(match bU w π with|some u=>Q u|none=>False)|none=>False):=by
 obtain⟨j,k,d,c,f,b⟩:=BR g h;cases k<;>first|(cases f;done)|skip
 exact J6 b d c
theorem HR(g:XOk S Φ Ψ G X){i:Nat}{π:List jB}{e:Expr}(h:j9 S O6 i π e=true)(R:Addr->Prop):VB X S.M R e (λa Q=>match look a i with|some w=>(match bU w π with|some u=>Q u|none=>False)|none=>False):=by
 obtain⟨j,k,d,c,f,b⟩:=BR g h;cases k<;>first|(cases f;done)|skip
 exact J5 b d c
end
structure bY(Φ:Nat->aX)(Ψ:Nat->Md)(G:Nat->W)(c:CE):Prop where
 e:∀{S:SE}{X:Cx},XOk S Φ Ψ G X->∀ex,aD S false c ex=true->∀R,VE X S.M R (mo Ψ c) ex (wE Φ G R c)
 t:∀{S:SE}{X:Cx},XOk S Φ Ψ G X->∀ex,aD S false c ex=true->DB c=true->∀R,VT X S.M R ex (wE Φ G R c)
 i:∀{S:SE}{X:Cx},XOk S Φ Ψ G X->∀tg br ex,(aD S true c ex||(br&&cV S c ex))=true->(BP c=true->∃elts kk tp,tg=Expr.Tuple elts kk tp)->∀R,PI X tg ex (z6 X S.M R br (wE Φ G R c))
structure nZ(Φ:Nat->aX)(Ψ:Nat->Md)(G:Nat->W)(cs:List CE):Prop where
 a:∀{S:SE}{X:Cx},XOk S Φ Ψ G X->∀es,eE S cs es=true->∀R,VA X S.M R es (wA Φ G R cs)
 b:∀{S:SE}{X:Cx},XOk S Φ Ψ G X->∀es,kj S cs es=true->∀R,MS X S.M R es (wA Φ G R cs)
 av:∀{S:SE}{X:Cx},XOk S Φ Ψ G X->∀es pos,es≠[]->eE S cs es=true->∀R,VE X S.M R .s (.BoolOp .And es pos) (yq Φ G R cs)
 ov:∀{S:SE}{X:Cx},XOk S Φ Ψ G X->∀es pos,es≠[]->eE S cs es=true->∀R,VE X S.M R .s (.BoolOp .Or es pos) (MH Φ G R cs)
 «at»:∀{S:SE}{X:Cx},XOk S Φ Ψ G X->∀es pos,es≠[]->eE S cs es=true->DB.BN cs=true->∀R,HH X S.M R (.BoolOp .And es pos) (yq Φ G R cs)
 ot:∀{S:SE}{X:Cx},XOk S Φ Ψ G X->∀es pos,es≠[]->eE S cs es=true->DB.BN cs=true->∀R,HH X S.M R (.BoolOp .Or es pos) (MH Φ G R cs)
section
variable{Φ:Nat->aX}{Ψ:Nat->Md}{G:Nat->W}
theorem dN{c:CE}(h:kg Ψ c=false):mo Ψ c=.s:=by unfold mo;rw[h];rfl
theorem g9{c:CE}(h:kg Ψ c=true):mo Ψ c=.f:=by unfold mo;rw[h];rfl
theorem bY.s{c:CE}(h:bY Φ Ψ G c){S:SE}{X:Cx}(a:XOk S Φ Ψ G X){ex:Expr}(k:aD S false c ex=true)(R:Addr->Prop):VE X S.M R .s ex (wE Φ G R c):=ze (h.e a ex k R)
theorem bY.b{c:CE}(h:bY Φ Ψ G c){S:SE}{X:Cx}(a:XOk S Φ Ψ G X){ex:Expr}(k:(aD S false c ex||cV S c ex)=true)(R:Addr->Prop):VB X S.M R ex (wE Φ G R c):=by
 rcases dZ k with k|k
 .exact OD (h.e a ex k R)
 .cases c with
  |var i=>have k:(gf S i ex&&tG S.M i)=true:=k;rw[AN]at k;exact Bu (cL a k.1) (tH k.2)
  |own i d=>exact HR a k R
  |_=>exact ff k
theorem bY.mk1{c:CE}(b:∀{S:SE}{X:Cx},XOk S Φ Ψ G X->∀ex,aD S false c ex=true->∀R,VE X S.M R (mo Ψ c) ex (wE Φ G R c))
 (f:∀{S:SE}{ex:Expr}(env:Env),aD S false c ex=true->∀a,isTrue ex env a=(do let v<-a;standAt ex.pos;holding [v] (truthy v)))
 (g:∀(S:SE)(ex:Expr),aD S true c ex=true->aD S false c ex=true)(e:∀(S:SE)(ex:Expr),cV S c ex=false):bY Φ Ψ G c:=
 ⟨b,λd ex k _ R=>qv (f _ k) (ze (b d ex k R)),λ{S X} d h i ex k _ R=>by rw[e,SC,QP]at k;exact dJ (gb (b d ex (g _ _ k) R))⟩
theorem Le(i:Nat):bY Φ Ψ G (.var i):=by
 have d:∀{S:SE}{X:Cx},XOk S Φ Ψ G X->∀ex,aD S false (.var i) ex=true->∀R,VE X S.M R (mo Ψ (.var i)) ex (wE Φ G R (.var i)):=λ{S X} a ex k R=>by have k:=a2 k;have e:¬aG S.M i:=b6 (by simpa using k.2);rw[dN rfl];exact J3 (cL a k.1) e
 refine⟨d,λ{S X} a ex k _ R=>qv (λc=>?_) (ze (d a ex k R)),λ{S X} a f g ex k _ R=>?_⟩
 .have k:=a2 k;cases ex<;>first|rfl|(have:=k.1;exact ff this)
 .rcases dZ k with k|k
  .exact dJ (gb (d a ex (by exact k) R))
  .rw[AN]at k;obtain⟨rfl,b⟩:=k;have b:(gf S i ex&&tG S.M i)=true:=b;rw[AN]at b;exact dJ (ON (Bu (cL a b.1) (tH b.2)))
theorem Lf(i:Nat)(π:List jB):bY Φ Ψ G (.own i π):=by
 have d:∀R,wE Φ G R (.own i π)=λe Q=>match look e i with|some w=>(match bU w π with|some u=>Q u|none=>False)|none=>False:=λR=>rfl
 have c:∀{S:SE}{X:Cx},XOk S Φ Ψ G X->∀ex,aD S false (.own i π) ex=true->∀R,VE X S.M R (mo Ψ (.own i π)) ex (wE Φ G R (.own i π)):=λ{S X} a ex k R=>by rw[dN rfl,d];exact Pb a k R
 refine⟨c,λ{S X} a ex k _ R=>qv (λb=>?_) (ze (c a ex k R)),λ{S X} a g h ex k _ R=>?_⟩
 .rcases(dw k).2 with⟨_,_,_,rfl⟩|⟨_,_,_,_,_,rfl⟩<;>rfl
 .rcases dZ k with k|k
  .exact dJ (gb (c a ex (by exact k) R))
  .rw[AN]at k;obtain⟨rfl,f⟩:=k;rw[d];exact dJ (ON (HR a f R))
theorem Lg(i:Int):bY Φ Ψ G (.int i):=by
 refine .mk1 (λ{S X} d ex k R=>?_) (λ{S ex} b k a=>?_) (λS ex k=>by exact k) (λ_ _=>rfl)
 .obtain⟨c,q,p,rfl,k⟩:=eB k;cases Bi k;rw[dN rfl];exact zf Aj λ_ _=>c9 _
 .obtain⟨c,q,p,rfl,k⟩:=eB k;rfl
theorem Pc(i:Bool):bY Φ Ψ G (.bl i):=by
 refine .mk1 (λ{S X} d ex k R=>?_) (λ{S ex} b k a=>?_) (λS ex k=>by exact k) (λ_ _=>rfl)
 .obtain⟨c,q,p,rfl,k⟩:=eB k;cases Bi k;rw[dN rfl];exact zf Nj λ_ _=>rQ _
 .obtain⟨c,q,p,rfl,k⟩:=eB k;rfl
theorem Lh(i:Str):bY Φ Ψ G (.str i):=by
 refine .mk1 (λ{S X} d ex k R=>?_) (λ{S ex} b k a=>?_) (λS ex k=>by exact k) (λ_ _=>rfl)
 .obtain⟨c,q,p,rfl,k⟩:=eB k;cases Bi k;rw[dN rfl];exact zf IU λ_ _=>Ox _
 .obtain⟨c,q,p,rfl,k⟩:=eB k;rfl
theorem Li:bY Φ Ψ G .aM:=by
 refine .mk1 (λ{S X} d ex k R=>?_) (λ{S ex} b k a=>?_) (λS ex k=>by exact k) (λ_ _=>rfl)
 .obtain⟨c,q,p,rfl,k⟩:=eB k;cases Bi k;rw[dN rfl];exact zf IT λ_ _=>Sw
 .obtain⟨c,q,p,rfl,k⟩:=eB k;rfl
theorem Fl{n:String}(h:tys.contains n=true):bootBuiltins (Str.ofString n)=some (.type n):=by
 have:n∈tys:=by simpa using h
 unfold tys at this;simp only[Fm,Y3,or_false]at this;rcases this with rfl|rfl|rfl|rfl|rfl|rfl<;>rfl
theorem Lj(n:String):bY Φ Ψ G (.wR n):=by
 refine .mk1 (λ{S X} d ex k R=>?_) (λ{S ex} l k a=>?_) (λS ex k=>by exact k) (λ_ _=>rfl)
 .obtain⟨x,q,rfl,b⟩:=bS k
  replace k:=b
  simp only[AN]at k;obtain⟨⟨⟨c,g⟩,f⟩,e⟩:=k;obtain⟨j,i,h⟩:=bw d g;have c:=Bi c;subst c;rw[dN rfl];exact zf (v:=.ty n) (DI j (d.rR _ (by simpa using f)) (Fl e) rfl h i) λ_ _=>VQ _
 .obtain⟨x,q,rfl,b⟩:=bS k
  replace k:=b
  rfl
theorem Fo(g:Nat):bY Φ Ψ G (.glob g):=by
 refine .mk1 (λ{S X} c ex k R=>?_) (λ{S ex} m k a=>?_) (λS ex k=>by exact k) (λ_ _=>rfl)
 .obtain⟨x,q,rfl,b⟩:=bS k
  replace k:=b
  simp only[AN]at k;obtain⟨e,d⟩:=k;obtain⟨l,j,n⟩:=bw c d;obtain⟨u,v,i,h,f⟩:=c.DE g _ (Pm.mp e);rw[dN rfl];exact zf (wk l i h j) f
 .obtain⟨x,q,rfl,b⟩:=bS k
  replace k:=b
  rfl
theorem u7{K:Frag}{B:Addr->Prop}{H H':Hp}{w:W}{v:V}(h:bX K B H H' .f w v):J7 w=true:=by obtain⟨a,p,b,rfl,_⟩:=h.HD;rfl
theorem BS{S:SE}{a:CE}{l:Expr}(k:cV S a l=true)(z:kg Ψ a=true):False:=by cases a<;>first|exact ff k|exact ff z
theorem Lk(op:Operator){a b:CE}(L:bY Φ Ψ G a)(J:bY Φ Ψ G b):bY Φ Ψ G (.bin op a b):=by
 refine .mk1 (λ{S X} n ex k R=>?_) (λ{S ex} T k s=>?_) (λS ex k=>by exact k) (λ_ _=>rfl)
 .obtain⟨l,o,r,t,rfl,u⟩:=jK k
  replace k:=u
  simp only[AN]at k;obtain⟨⟨A,i⟩,g⟩:=k;have A:=Bi A;subst A;show VE X S.M R _ _ λI Q=>wE Φ G R a I λx=>wE Φ G R b I λy=>dR op x y Q;have E:∀B H m w v,Dom B H->Uk X.K B H m w v->aQ X.K B m w v:=λ_ _ _ _ _ _ h=>h;have D:∀B H m w v,Dom B H->Dy X.K .f B H m w v->aQ X.K B m w v:=λ_ _ _ _ _ d h=>(bX.rep d h).b;have p:=L.b n i R;have j:=J.b n g R;have N:kg Ψ a=true->VE X S.M R .f l (wE Φ G R a):=λz=>by
   rcases dZ i with i|i
   .have:=L.e n l i R;rw[g9 z]at this;exact this
   .exact(BS i z).elim
  have P:kg Ψ b=true->VE X S.M R .f r (wE Φ G R b):=λz=>by
   rcases dZ g with g|g
   .have:=J.e n r g R;rw[g9 z]at this;exact this
   .exact(BS g z).elim
  cases op with
  |Add=>
   by_cases c:kg Ψ a=true
   .rw[g9 (show kg Ψ (.bin .Add a b)=true by show(kg Ψ a||kg Ψ b)=true;rw[c];rfl)];exact uY (N c) j D E λ_ _ _ _ _ _ _ _ _ _ C _=>.inl ⟨rfl,.inl (u7 C)⟩
   .by_cases q:kg Ψ b=true
    .rw[g9 (show kg Ψ (.bin .Add a b)=true by show(kg Ψ a||kg Ψ b)=true;rw[q,Bool.or_true])];exact uY p (P q) E D λ_ _ _ _ _ _ _ _ _ _ _ O=>.inl ⟨rfl,.inr (u7 O)⟩
    .rw[dN (show kg Ψ (.bin .Add a b)=false by show(kg Ψ a||kg Ψ b)=false;rw[Ts _|>.mp c,Ts _|>.mp q];rfl)];exact Bw p j λ_ _=>.inr rfl
  |Mult=>
   by_cases c:kg Ψ a=true
   .rw[g9 (show kg Ψ (.bin .Mult a b)=true from c)];exact uY (N c) j D E λ_ _ _ _ _ _ _ _ _ _ C _=>.inr ⟨rfl,u7 C⟩
   .rw[dN (show kg Ψ (.bin .Mult a b)=false from Ts _|>.mp c)];exact Bw p j λ_ _=>.inr rfl
  |_=>rw[dN rfl];exact Bw p j λ_ _=>.inr rfl
 .obtain⟨l,o,r,t,rfl,u⟩:=jK k
  replace k:=u
  rfl
theorem Ll{a:CE}(e:bY Φ Ψ G a):bY Φ Ψ G (.neg a):=by
 refine .mk1 (λ{S X} f ex k R=>?_) (λ{S ex} g k b=>?_) (λS ex k=>by exact k) (λ_ _=>rfl)
 .obtain⟨o,x,c,rfl,d⟩:=kQ k
  replace k:=d
  rw[AN]at k;cases Bi k.1;rw[dN rfl];exact J9 (e.s f k.2 R)
 .obtain⟨o,x,c,rfl,d⟩:=kQ k
  replace k:=d
  rw[AN]at k;cases Bi k.1;rfl
theorem Lm{a:CE}(h:bY Φ Ψ G a):bY Φ Ψ G (.not a):=by
 have e:∀R,wE Φ G R (.not a)=λi Q=>wE Φ G R a i λx=>truth x λb=>Q (.bl (!b)):=λR=>rfl;have g:∀{S:SE}{X:Cx},XOk S Φ Ψ G X->∀ex,aD S false (.not a) ex=true->∀R,VE X S.M R (mo Ψ (.not a)) ex (wE Φ G R (.not a)):=λ{S X} c ex k R=>by
  obtain⟨o,x,d,rfl,f⟩:=kQ k
  replace k:=f
  rw[AN]at k;cases Bi k.1;rw[dN rfl,e];exact Ka (h.s c k.2 R)
 refine⟨g,λ{S X} c ex k j R=>?_,λ{S X} c m n ex k _ R=>?_⟩
 .obtain⟨o,x,d,rfl,f⟩:=kQ k
  replace k:=f
  rw[AN]at k;cases Bi k.1;rw[e];exact Kl (h.t c _ k.2 (by exact j) R)
 .have l:cV S (.not a) ex=false:=rfl;rw[l,SC,QP]at k;exact dJ (gb (g c ex (by exact k) R))
theorem Ln(op:CmpOp){a b:CE}(n:bY Φ Ψ G a)(m:bY Φ Ψ G b):bY Φ Ψ G (.cmp op a b):=by
 have e:∀R,wE Φ G R (.cmp op a b)=λg Q=>wE Φ G R a g λx=>wE Φ G R b g λy=>eW op x y Q:=λR=>rfl;have f:∀{S:SE}{X:Cx},XOk S Φ Ψ G X->∀ex,aD S false (.cmp op a b) ex=true->∀R,VE X S.M R .s ex (wE Φ G R (.cmp op a b))/\VT X S.M R ex (wE Φ G R (.cmp op a b)):=λ{S X} c ex k R=>by
  obtain⟨l,o,r,p,rfl,q⟩:=o9 k
  replace k:=q
  simp only[AN,YQ]at k;obtain⟨⟨⟨⟨d,u⟩,t⟩,i⟩,h⟩:=k;have d:=Bi d;subst d;have j:=uB r (op:=op) (YH u) (YH t);rw[e];exact⟨Kc c.un j (n.b c i R) (m.b c h R),Kd c.un j (n.b c i R) (m.b c h R)⟩
 refine⟨λc ex k R=>by rw[dN rfl];exact(f c ex k R).1,λc ex k _ R=>(f c ex k R).2,λ{S X} c w z ex k _ R=>?_⟩;have v:cV S (.cmp op a b) ex=false:=rfl;rw[v,SC,QP]at k;exact dJ (gb (f c ex (by exact k) R).1)
theorem Fq(p q:CmpOp){a b c:CE}(H:bY Φ Ψ G a)(E:bY Φ Ψ G b)(D:bY Φ Ψ G c):bY Φ Ψ G (.l6 p q a b c):=by
 have e:∀R,wE Φ G R (.l6 p q a b c)=λi Q=>wE Φ G R a i λx=>wE Φ G R b i λy=>dY p x y λz=>truth z λk=>if k=true then wE Φ G R c i λu=>dY q y u Q else Q (.bl false):=λR=>rfl
 have n:∀{S:SE}{X:Cx},XOk S Φ Ψ G X->∀ex,aD S false (.l6 p q a b c) ex=true->∀R,VE X S.M R .s ex (wE Φ G R (.l6 p q a b c))/\VT X S.M R ex (wE Φ G R (.l6 p q a b c)):=λ{S X} d ex k R=>by
  obtain⟨l,o,P,r,t,I,rfl,J⟩:=zm k
  replace k:=J
  simp only[AN]at k;obtain⟨⟨⟨⟨⟨⟨m,j⟩,L⟩,K⟩,A⟩,w⟩,v⟩:=k;have m:=Bi m;have j:=Bi j;subst m j;obtain⟨f,C⟩:=PP.mp L;obtain⟨g,h⟩:=PP.mp K;have B:lastMarks [p,q] [r,t]=false:=by
   show behindInMarks q t=false;refine uB t ?_ ?_
   .rintro rfl;cases h
   .rintro rfl;cases h
  rw[e];exact⟨EI C h (H.s d A R) (E.s d w R) (D.s d v R) B,EJ C h (H.s d A R) (E.s d w R) (D.s d v R) B⟩
 refine⟨λd ex k R=>by rw[dN rfl];exact(n d ex k R).1,λd ex k _ R=>(n d ex k R).2,λ{S X} d O T ex k _ R=>?_⟩;have N:cV S (.l6 p q a b c) ex=false:=rfl;rw[N,SC,QP]at k;exact dJ (gb (n d ex (by exact k) R).1)
theorem gz{a:List Expr}(h:(!a.isEmpty)=true):a≠[]:=by rintro rfl;cases h
theorem Lo{b:List CE}(g:nZ Φ Ψ G b):bY Φ Ψ G (.and b):=by
 have e:∀R,wE Φ G R (.and b)=yq Φ G R b:=λR=>rfl;have f:∀{S:SE}{X:Cx},XOk S Φ Ψ G X->∀ex,aD S false (.and b) ex=true->∀R,VE X S.M R .s ex (wE Φ G R (.and b)):=λ{S X} a ex k R=>by
  obtain⟨o,j,c,rfl,d⟩:=kR k
  replace k:=d
  rw[AN,AN]at k;cases Bi k.1.1;rw[e];exact g.av a _ _ (gz k.1.2) k.2 R
 refine⟨λa ex k R=>by rw[dN rfl];exact f a ex k R,λ{S X} a ex k h R=>?_,λ{S X} a l m ex k _ R=>?_⟩
 .obtain⟨o,j,c,rfl,d⟩:=kR k
  replace k:=d
  rw[AN,AN]at k;cases Bi k.1.1;rw[e];exact(g.at a _ _ (gz k.1.2) k.2 (by exact h) R).pt
 .have i:cV S (.and b) ex=false:=rfl;rw[i,SC,QP]at k;exact dJ (gb (f a ex (by exact k) R))
theorem Pe{b:List CE}(g:nZ Φ Ψ G b):bY Φ Ψ G (.or b):=by
 have e:∀R,wE Φ G R (.or b)=MH Φ G R b:=λR=>rfl;have f:∀{S:SE}{X:Cx},XOk S Φ Ψ G X->∀ex,aD S false (.or b) ex=true->∀R,VE X S.M R .s ex (wE Φ G R (.or b)):=λ{S X} a ex k R=>by
  obtain⟨o,j,c,rfl,d⟩:=kR k
  replace k:=d
  rw[AN,AN]at k;cases Bi k.1.1;rw[e];exact g.ov a _ _ (gz k.1.2) k.2 R
 refine⟨λa ex k R=>by rw[dN rfl];exact f a ex k R,λ{S X} a ex k h R=>?_,λ{S X} a l m ex k _ R=>?_⟩
 .obtain⟨o,j,c,rfl,d⟩:=kR k
  replace k:=d
  rw[AN,AN]at k;cases Bi k.1.1;rw[e];exact(g.ot a _ _ (gz k.1.2) k.2 (by exact h) R).pt
 .have i:cV S (.or b) ex=false:=rfl;rw[i,SC,QP]at k;exact dJ (gb (f a ex (by exact k) R))
theorem Pg{X:Cx}{M:Ms}{R:Addr->Prop}{m:Md}{e:Expr}{t:WT}{c:CE}(h:VE X M R m e t)(a:mo Ψ c=m\/mo Ψ c=.s):VE X M R (mo Ψ c) e t:=by
 rcases a with z|z
 .rw[z];exact h
 .rw[z];exact ze h
theorem Lp{e:List CE}(f:nZ Φ Ψ G e):bY Φ Ψ G (.tup e):=by
 refine .mk1 (λ{S X} g ex k R=>?_) (λ{S ex} h k b=>?_) (λS ex k=>by exact k) (λ_ _=>rfl)
 .obtain⟨d,q,p,rfl,c⟩:=cT k;rw[dN rfl];exact Ko (f.a g d c R)
 .obtain⟨d,q,p,rfl,c⟩:=cT k;rfl
theorem Lq{e:List CE}(f:nZ Φ Ψ G e):bY Φ Ψ G (.lst e):=by
 refine .mk1 (λ{S X} g ex k R=>?_) (λ{S ex} h k b=>?_) (λS ex k=>by exact k) (λ_ _=>rfl)
 .obtain⟨d,p,rfl,c⟩:=mK k;rw[g9 rfl];exact Kn (f.a g d c R)
 .obtain⟨d,p,rfl,c⟩:=mK k;rfl
theorem Ph{a i:CE}(g:bY Φ Ψ G a)(f:bY Φ Ψ G i):bY Φ Ψ G (.ix a i):=by
 refine .mk1 (λ{S X} e ex k R=>?_) (λ{S ex} h k d=>?_) (λS ex k=>by exact k) (λ_ _=>rfl)
 .obtain⟨v,s,p,rfl,c⟩:=cU k;simp only[AN]at c;rw[dN rfl];exact OH (qA c.1.1) (g.b e c.1.2 R) (f.s e c.2 R)
 .obtain⟨v,s,p,rfl,c⟩:=cU k;rfl
theorem HS{a:CE}(d:bY Φ Ψ G a){S:SE}{X:Cx}(f:XOk S Φ Ψ G X){l:Option Expr}(k:Ld (iS a) (λx=>aD S false a x) l=true)(R:Addr->Prop):PO X l (OI X S.M R λb Q=>wE Φ G R a b λy=>Ez a y Q):=by
 cases l with
 |none=>
  have z:iS a=true:=k;cases a with
  |aM=>exact EN
  |_=>exact ff z
 |some x=>
  have k:(!iS a&&aD S false a x)=true:=k;rw[AN]at k;have e:(λ(b:Ev)(Q:Option Int->Prop)=>wE Φ G R a b λy=>Ez a y Q)=λb Q=>wE Φ G R a b λy=>match y with|.int i=>Q (some i)|_=>False:=by
   have c:iS a=false:=by simpa using k.1
   unfold Ez;rw[c];funext b Q;congr 1;funext y;cases y<;>rfl
  rw[e];exact EO (d.s f k.2 R)
theorem Pj{a f g:CE}(j:bY Φ Ψ G a)(h:bY Φ Ψ G f)(i:bY Φ Ψ G g):bY Φ Ψ G (.sl a f g):=by
 refine .mk1 (λ{S X} e ex k R=>?_) (λ{S ex} m k d=>?_) (λS ex k=>by exact k) (λ_ _=>rfl)
 .obtain⟨v,l,r,q,p,rfl,c⟩:=xy k;simp only[AN]at c;rw[g9 rfl];exact OJ (j.b e c.1.1 R) (HS h e c.1.2 R) (HS i e c.2 R)
 .obtain⟨v,l,r,q,p,rfl,c⟩:=xy k;rfl
theorem Lr{a st:CE}(g:bY Φ Ψ G a)(f:bY Φ Ψ G st):bY Φ Ψ G (.JV a st):=by
 refine .mk1 (λ{S X} e ex k R=>?_) (λ{S ex} h k d=>?_) (λS ex k=>by exact k) (λ_ _=>rfl)
 .obtain⟨v,t,q,p,rfl,c⟩:=xB k;rw[AN]at c;rw[g9 rfl];exact Kp (g.b e c.1 R) (f.s e c.2 R)
 .obtain⟨v,t,q,p,rfl,c⟩:=xB k;rfl
theorem Ft(f:Nat){m:List CE}(C:nZ Φ Ψ G m):bY Φ Ψ G (.call f m):=by
 refine .mk1 (λ{S X} b ex k R=>?_) (λ{S ex} I k c=>?_) (λS ex k=>by exact k) (λ_ _=>rfl)
 .obtain⟨x,q,l,p,rfl,g⟩:=aI k;simp only[AN]at g;obtain⟨⟨⟨⟨⟨v,u⟩,t⟩,i⟩,s⟩,o⟩:=g;obtain⟨E,D,J⟩:=bw b u;obtain⟨H,n,r,B,F,y,A⟩:=b.fns f x (Pm.mp v) (by simpa using s);have F:cS X.prog X.w X.K X.mg X.base r H n (uZ X.K n (Ψ f) (Φ f)):=by rw[<-b.DC]at i;cases j:Ψ f<;>rw[j]at i F<;>first|exact F|exact ff i
  have d:=jM o;cases l with
  |nil=>exact ff t
  |cons e l=>
   rw[JE,AN]at d;have h:=xm (M:=S.M) (R:=R) (p:=q) (pos:=p) F y E B A (C.a b _ o R) D (aB d.1 _ _) (cz d.2 _ _);refine Pg h ?_;by_cases z:kg Ψ (.call f m)=true
   .rw[g9 z];left;have z:(match Ψ f with|.f=>true|_=>false)=true:=z;cases j:Ψ f<;>rw[j]at z<;>first|rfl|exact ff z
   .exact .inr (dN (by simpa using z))
 .obtain⟨x,q,l,p,rfl,g⟩:=aI k;rfl
theorem tM{X:Cx}(c:X.calm=true):∀b:BI,b≠.uo->(∃a,bootBuiltins (Q3 b)=some (.builtin a)/\bN X (.builtin a) (Kq X.K b))\/(∃a,bootBuiltins (Q3 b)=some (.type a)/\bN X (.type a) (Kq X.K b))
 |.len,_=>.inl ⟨"len",rfl,cw_len.r⟩
 |.abs,_=>.inl ⟨"abs",rfl,cw_abs.r⟩
 |.max2,_=>.inl ⟨"max",rfl,(cw_max c).r⟩
 |.min2,_=>.inl ⟨"min",rfl,(cw_min c).r⟩
 |.sum,_=>.inl ⟨"sum",rfl,(cw_sum c).r⟩
 |.all,_=>.inl ⟨"all",rfl,(cw_all c).r⟩
 |.list,_=>.inr ⟨"list",rfl,cw_list.r⟩
 |.tuple,_=>.inr ⟨"tuple",rfl,cw_tuple.r⟩
 |.int,_=>.inr ⟨"int",rfl,cw_int.r⟩
 |.QW,_=>.inl ⟨"divmod",rfl,cw_dvm.r⟩
 |.any,_=>.inl ⟨"any",rfl,(cw_any c).r⟩
 |.uo,h=>absurd rfl h
theorem dz{S:SE}{a:CE}{c:List CE}{b:List Expr}(k:eE S (a::c) b=true):∃e r,b=e::r/\aD S false a e=true/\eE S c r=true:=by
 cases b with
 |nil=>exact ff k
 |cons e r=>exact⟨e,r,rfl,a2 k⟩
theorem mR{S:SE}{a:List Expr}(k:eE S [] a=true):a=[]:=Hb.mp k
theorem u9{S:SE}{a:CE}{c:List CE}{b:List Expr}(k:kj S (a::c) b=true):∃e r,b=e::r/\(aD S false a e||cV S a e)=true/\kj S c r=true:=by
 cases b with
 |nil=>exact ff k
 |cons e r=>exact⟨e,r,rfl,a2 k⟩
theorem zq{S:SE}{a:List Expr}(k:kj S [] a=true):a=[]:=Hb.mp k
theorem Ls(b:BI){i:List CE}(J:nZ Φ Ψ G i)(g:∀c∈i,bY Φ Ψ G c):bY Φ Ψ G (.blt b i):=by
 refine .mk1 (λ{S X} h ex k R=>?_) (λ{S ex} env k t=>?_) (λS ex k=>by exact k) (λ_ _=>rfl)
 .obtain⟨x,q,C,p,rfl,l⟩:=aI k;simp only[AN]at l;obtain⟨⟨⟨⟨⟨m,Q⟩,P⟩,O⟩,E⟩,s⟩:=l;have m:=Bi m;obtain⟨B,A,w⟩:=bw h Q;have hz:=h.rR x (by simpa using P);have f:=mP s;cases C with
  |nil=>cases b<;>exact ff O
  |cons e C=>
   rw[JE,AN]at f;by_cases I:b=.uo
   .subst I;rw[dN rfl];rcases i with _|⟨a,_|⟨c,_|⟨d,i⟩⟩⟩<;>try exact ff E
    obtain⟨n,H⟩:=PP.mp E;have ec:c=.wR n:=by cases c<;>first|(cases H;rfl)|exact nn H
    subst ec;obtain⟨N,L⟩:=a2 s;obtain⟨e2,r,rfl,D,BU⟩:=u9 L;cases zq BU;have j:=f.2;rw[JE,AN]at j;have K:aD S false (.wR n) e2=true:=by
     rcases dZ D with z|z
     .exact z
     .exact ff z
    have u:n∈["int","bool","tuple","list","str","dict"]:=by obtain⟨y,q2,rfl,l⟩:=bS K;have:=(a2 l).2;unfold tys at this;exact VD.mp this
    have Z:=(g a DL).b h N R;have Y:=(g (.wR n) (D2 _ DL)).b h D R;have o:bootBuiltins x=some (.builtin "isinstance"):=by rw[m];rfl
    exact Ku (M:=S.M) (R:=R) (p:=q) (pos:=p) h.kit u B hz o Z Y w A (aB f.1 _ _) (aB j.1 _ _) (cz f.2 _ _)
   .have U:mo Ψ (.blt b i)=OL b:=by
     cases b<;>first|rfl|exact dN rfl|exact g9 rfl
    rw[U];rcases tM h.calm b I with⟨T,o,v⟩|⟨T,o,v⟩
    .exact Kr v B hz (by rw[m];exact o) (J.b h _ s R) w A (aB f.1 _ _) (cz f.2 _ _)
    .exact Ks v B hz (by rw[m];exact o) (J.b h _ s R) w A (aB f.1 _ _) (cz f.2 _ _)
 .obtain⟨x,q,C,p,rfl,l⟩:=aI k;rfl
theorem Lu{K:Frag}{B b:Addr->Prop}{H:Hp}{w:W}{v:V}(a:JW w=true)(r:Rep K B H w v):Rep K b H w v:=by
 cases w<;>first|(dsimp only[Rep]at r⊢;exact r)|exact ff a
theorem cW{S:SE}{a:List Nat}:∀x∈(S.lend a).M,x∈S.M:=λx b=>(Qb.mp b).1
theorem Lv(c:List Nat){a:CE}(u:bY Φ Ψ G a):bY Φ Ψ G (.wU c a):=by
 have x:∀R,wE Φ G R (.wU c a)=λd Q=>wE Φ G R a d λw=>JW w=true/\Q w:=λR=>rfl;have q:∀{S:SE}{X:Cx},XOk S Φ Ψ G X->∀ex,aD S false (.wU c a) ex=true->∀R,VE X S.M R .s ex (wE Φ G R (.wU c a)):=λ{S X} b ex k R=>by have k:=a2 k;have g:XOk (S.lend c) Φ Ψ G X:=⟨b.hN,b.nd,b.calm,b.un,b.nk,b.fns,b.Fj,b.DC,b.DE,b.rR,b.kit⟩;rw[x];refine PE.imp (u.s g k.2 R) ?_;rintro y H Q ⟨A,n,d,P,m,j,h,i⟩;obtain⟨p,D,E,C,l⟩:=m.sub (M':=(S.lend c).M) cW none (λv e=>by cases e);exact⟨p,n,d,_,l,j,h,λw v o f s r=>i w v o f.2 s (.of (Lu f.1 r.aW))⟩
 refine⟨λ{S X} b ex k R=>by rw[dN rfl];exact q b ex k R,λ{S X} b ex k z R=>?_,λ{S X} b I J ex k _ R=>?_⟩
 .have k:=a2 k;have g:XOk (S.lend c) Φ Ψ G X:=⟨b.hN,b.nd,b.calm,b.un,b.nk,b.fns,b.Fj,b.DC,b.DE,b.rR,b.kit⟩;rw[x];refine PT.imp (u.t g ex k.2 z R) ?_;rintro y H Q ⟨A,n,d,P,m,j,h,i⟩;obtain⟨p,D,E,C,l⟩:=m.sub (M':=(S.lend c).M) cW none (λv e=>by cases e);exact⟨p,n,d,_,l,j,h,λw o f s=>i w o f.2 s⟩
 .have B:cV S (.wU c a) ex=false:=rfl;rw[B,SC,QP]at k;exact dJ (gb (q b ex (by exact k) R))
theorem Lw(i:Nat):bY Φ Ψ G (.pop i):=.mk1 (λc ex k R=>by cases k) (λb k a=>by cases k) (λS ex k=>by cases k) (λ_ _=>rfl)
theorem Lx{o:List CE}(h:∀c∈o,bY Φ Ψ G c):bY Φ Ψ G (.jq o):=by
 refine⟨λ{S X} i ex k R=>?_,λ{S X} i ex k _ R=>?_,λ{S X} i tg br ex k _ R=>?_⟩
 .obtain⟨x,q,z,p,rfl,l⟩:=aI k;simp at l
 .obtain⟨x,q,z,p,rfl,l⟩:=aI k;simp at l
 .have D:cV S (.jq o) ex=false:=rfl;rw[D,SC,QP]at k;obtain⟨x,q,z,p,rfl,l⟩:=aI k;simp only[AN]at l;obtain⟨⟨⟨⟨⟨_,v⟩,C⟩,B⟩,y⟩,u⟩:=l;have v:=Bi v;subst v;obtain⟨w,I,H⟩:=bw i C;have hz:=i.rR _ (by simpa using B);rcases o with _|⟨a,_|⟨b,_|⟨c,_|⟨d,o⟩⟩⟩⟩
  .simp at y
  .obtain⟨e,r,rfl,j,n⟩:=dz u;cases mR n;exact EU (M:=S.M) (R:=R) (br:=br) (tg:=tg) (p:=q) (pos:=p) w hz ((h a DL).s i j R) (aB (aO (.inl j)) _ _)
  .obtain⟨e,r,rfl,j,n⟩:=dz u;obtain⟨f,r,rfl,m,t⟩:=dz n;cases mR t;exact EV (M:=S.M) (R:=R) (br:=br) (tg:=tg) (p:=q) (pos:=p) w hz ((h a (by simp)).s i j R) ((h b (by simp)).s i m R) (aB (aO (.inl j)) _ _) (aB (aO (.inl m)) _ _)
  .obtain⟨e,r,rfl,j,n⟩:=dz u;obtain⟨f,r,rfl,m,t⟩:=dz n;obtain⟨g,r,rfl,A,E⟩:=dz t;cases mR E;exact EW (M:=S.M) (R:=R) (br:=br) (tg:=tg) (p:=q) (pos:=p) w hz ((h a (by simp)).s i j R) ((h b (by simp)).s i m R) ((h c (by simp)).s i A R) (aB (aO (.inl j)) _ _) (aB (aO (.inl m)) _ _) (aB (aO (.inl A)) _ _)
  .simp at y
theorem iY{f:Expr->Bool}{a:List Expr}(h:qz f a=true):∃e,a=[e]/\f e=true:=cy h
theorem Ly{a:CE}(n:bY Φ Ψ G a):bY Φ Ψ G (.qg a):=by
 refine⟨λ{S X} c ex k R=>?_,λ{S X} c ex k _ R=>?_,λ{S X} c s v ex k m R=>?_⟩
 .obtain⟨x,q,g,p,rfl,b⟩:=aI k;simp at b
 .obtain⟨x,q,g,p,rfl,b⟩:=aI k;simp at b
 .have l:cV S (.qg a) ex=false:=rfl;rw[l,SC,QP]at k;obtain⟨x,q,g,p,rfl,b⟩:=aI k;simp only[AN]at b;obtain⟨⟨⟨⟨_,f⟩,j⟩,i⟩,d⟩:=b;have f:=Bi f;subst f;obtain⟨e,rfl,d⟩:=iY d;obtain⟨o,u,t⟩:=bw c j;obtain⟨h,b,r,rfl⟩:=m rfl;exact Ky o (c.rR _ (by simpa using i)) (gb (n.e c e d R)) (aB (aO (.inl d)) _ _)
theorem Lz{a:CE}(s:bY Φ Ψ G a):bY Φ Ψ G (.rev a):=by
 have r:∀{S:SE}{X:Cx},XOk S Φ Ψ G X->∀ex,aD S false (.rev a) ex=true->∀R,VE X S.M R (mo Ψ (.rev a)) ex (wE Φ G R (.rev a)):=λ{S X} d ex k R=>by obtain⟨x,q,h,p,rfl,c⟩:=aI k;have c:(decide (x=("list":Str))&&gc S x&&S.zn.contains x&&qz (λv=>gg (λy h=>decide (y=("reversed":Str))&&gc S y&&S.zn.contains y&&qz (λu=>aD S false a u||cV S a u) h) v) h)=true:=c;simp only[AN]at c;obtain⟨⟨⟨g,n⟩,m⟩,l⟩:=c;clear k c;have g:=Bi g;subst g;obtain⟨e,rfl,l⟩:=iY l;obtain⟨y,E,h,H,rfl,c⟩:=aI l;simp only[AN]at c;obtain⟨⟨⟨f,w⟩,t⟩,i⟩:=c;have f:=Bi f;subst f;obtain⟨u,rfl,i⟩:=iY i;obtain⟨o,C,B⟩:=bw d n;obtain⟨A,K,J⟩:=bw d w;rw[g9 rfl];exact ET d.calm o (d.rR _ (by simpa using m)) A (d.rR _ (by simpa using t)) (s.b d i R) (aB (aO (dZ i)) _ _)
 refine⟨r,λ{S X} d ex k _ R=>qv (λj=>?_) (ze (r d ex k R)),λ{S X} d D L ex k I R=>?_⟩
 .obtain⟨x,q,h,p,rfl,c⟩:=aI k;rfl
 .have z:cV S (.rev a) ex=false:=rfl;rw[z,SC,QP]at k;obtain⟨x,q,h,p,rfl,c⟩:=aI k;have c:(decide (x=("reversed":Str))&&gc S x&&S.zn.contains x&&qz (λv=>aD S false a v) h)=true:=c;simp only[AN]at c;obtain⟨⟨⟨g,n⟩,m⟩,f⟩:=c;have g:=Bi g;subst g;obtain⟨e,rfl,f⟩:=iY f;obtain⟨o,C,B⟩:=bw d n;exact Kz o (d.rR _ (by simpa using m)) (gb (s.e d e f R)) (aB (aO (.inl f)) _ _)
theorem mT{f:NameKind->NameKind}:∀(l:List (Str×NameKind))(y:Str),(l.map λp=>(p.1,f p.2)).lookup y=(l.lookup y).map f
 |[],_=>rfl
 |(n,k)::r,y=>by
  rw[Kk,Ht,Ht];by_cases e:(y==n)=true
  .rw[e];rfl
  .rw[Ts]at e;rw[e];exact mT r y
theorem qB{sc a b:Scope}{N d c:List Str}(h:∀x,a.names.lookup x=b.names.lookup x):cK sc a N d c=cK sc b N d c:=by unfold cK;simp only[h]
theorem Fv{S:SE}{X:Cx}(a:XOk S Φ Ψ G X){scope:Scope}{b:List Str}(g:cK scope X.env.scope X.N (mask b S.N) b=true)(h:(b++mask b S.N).Nodup){c:List (Addr×Obj)}{d:St}{H:Hp}{s:Shared}(I:Inv X c d H s)(C:Addr)(e:Shared)(j:Hp)(i:List Addr):
 XOk (S.comp scope b) Φ Ψ G (aK X scope C b (mask b S.N) e j i):=by
 refine⟨rfl,h,a.calm,a.un,λx=>?_,a.fns,a.Fj,a.DC,a.DE,a.rR,a.kit⟩;show(relabel scope X.env).names.lookup x=_;rw[eV I (eu.of g)];show _=(scope.names.map λp=>(p.1,if p.2=.free then NameKind.cell else p.2)).lookup x;rw[mT (f:=λk=>if k=.free then NameKind.cell else k)]
noncomputable def eG(X:Cx)(i:Nat)(x:Str):Prop:=X.N[i]?=some x/\Loc X.env.scope x/\(X.fn x=true\/X.env.scope.names.lookup x=some .local)
noncomputable def cN(X:Cx):List Nat->List Str->Prop
 |[],a=>a=[]
 |i::b,a=>∃x r,a=x::r/\eG X i x/\cN X b r
theorem HU{X:Cx}(a:X.N.Nodup){i:Nat}{x:Str}{p:Pos}(h:eG X i x):PG X (.Name x p) (c6 i):=wm a h.1 h.2.1 h.2.2
theorem BV{X:Cx}(f:X.N.Nodup):∀(a:List Expr)(c:List Str)(b:List Nat),BO a=some c->cN X b c->Nt X a (OO b)/\(assignEach a X.env).length=b.length/\(assignEach a X.env).findIdx? (·.1)=none
 |[],c,b,h,k=>by
  cases h;cases b with
  |nil=>exact⟨DN,rfl,rfl⟩
  |cons i d=>obtain⟨x,r,e,_⟩:=k;cases e
 |e::a,c,b,h,k=>by
  cases e with
  |Name x p=>
   obtain⟨l,n,rfl⟩:=Iy.mp h;cases b with
   |nil=>cases k
   |cons i d=>obtain⟨s,r,e,q,o⟩:=k;cases e;obtain⟨m,j,g⟩:=BV f a l d n o;have e:assignEach (.Name x p::a) X.env=(false,assign (.Name x p) X.env)::assignEach a X.env:=rfl;refine⟨Am (HU f q) m rfl,by rw[e,D8,j,D8],?_⟩;rw[e,List.findIdx?_cons,g];rfl
  |_=>exact nn h
theorem BW{X:Cx}(q:X.calm=true)(c:X.N.Nodup){tg:Expr}{one:Bool}{b:List Str}{a:List Nat}(h:Lc tg=some (one,b))(k:cN X a b):PG X tg (gT X.K one a):=by
 cases tg with
 |Name x p=>
  cases h
  match a,k with
  |[i],k=>obtain⟨g,r,e,f,d⟩:=k;cases e;exact HU c f
  |[],k=>cases k
  |_::_::_,k=>obtain⟨g,r,e,f,d⟩:=k;cases e;obtain⟨u,v,t,_⟩:=d;cases t
 |Tuple s w p=>
  dsimp only[Lc]at h;obtain⟨l,o,e⟩:=Iy.mp h;cases e;obtain⟨n,m,j⟩:=BV c s b a o k;have:gT X.K false a=Jd X.K a.length (OO a):=by cases a<;>rfl
  rw[this];exact Je q n m j
 |_=>exact nn h
theorem ko{X:Cx}:∀(a:List Str)(n:Nat),(∀k x,a[k]?=some x->eG X (n+k) x)->cN X ((BB a.length).map (n+·)) a
 |[],n,_=>rfl
 |x::a,n,h=>by
  rw[D8,XX,Kk];refine⟨x,a,rfl,h 0 x rfl,?_⟩;have:=ko a (n+1) λk y b=>by have:=h (k+1) y (by simpa using b);rw[show n+1+k=n+(k+1) by lia];exact this
  rw[XZ];have e:(BB a.length).map (n+1+·)=(BB a.length).map ((n+·)∘ZF):=QR λk _=>by show n+1+k=n+(k+1);lia
  rw[<-e];exact this
theorem gh{a:Expr}(h:jL a=true)(env:Env)(x:Value):foldedSetIterable a env x=pure x:=by
 cases a<;>first|rfl|exact ff h
theorem xD{d:List Nat}{one:Bool}{n:Nat}{i c x:CE}{R:Addr->Prop}:wE Φ G R (.comp d one n i c x)=λb Q=>wE Φ G R i b λz=>items z λf=>f6 (λw K=>wT one d w (Aq n none++b) λa=>wE Φ G (λ_=>False) c a λe=>truth e λk=>if k=true then wE Φ G (λ_=>False) x a λy=>K (some y)else K none) f [] λl=>Q (.lst l):=rfl
theorem zu{S:SE}{X:Cx}(A:XOk S Φ Ψ G X){q:List Nat}{one:Bool}{n:Nat}{en:Bool}{L:Expr->Bool}{M:SE->List Expr->Bool}{J:SE->Expr->Bool}{l tg c:Expr}{i:List Expr}{scope:Scope}(f:mL S q one n en L M J l tg c i scope=true):
 ∃a,n=a.length/\(∀j∈q,j<a.length)/\cK scope X.env.scope X.N (mask a S.N) a=true/\(∀z,foldedSetIterable c X.env z=pure z)/\(en=true->∃P k p,tg=Expr.Tuple P k p)/\L c=true/\M (S.comp scope a) i=true/\J (S.comp scope a) l=true/\
  ∀d s B H,Inv X d B H s->∀C e h g,PG (aK X scope C a (mask a S.N) e h g) tg (gT X.K one q)/\XOk (S.comp scope a) Φ Ψ G (aK X scope C a (mask a S.N) e h g):=by
 unfold mL at f;split at f;rotate_left
 .cases f
 rename_i o a BX
 simp only[AN]at f;obtain⟨⟨⟨⟨⟨⟨⟨⟨⟨u,t⟩,r⟩,Y⟩,U⟩,T⟩,E⟩,R⟩,Q⟩,BU⟩:=f;have u:=Pm.mp u;have t:=Pm.mp t;have r:=Pm.mp r;subst u t r;have x:=Bi U;have w:cK scope X.env.scope X.N (mask a S.N) a=true:=by rw[A.hN,qB (b:=S.sc) λy=>A.nk y];exact Y
 have O:=eu.of w;refine⟨a,rfl,λj hj=>Ki.mp hj,w,gh T _,λz=>?_,R,Q,BU,λd s B H I C e h g=>?_⟩
 .have:one=false:=by rw[z]at E;simpa using E
  subst this;cases tg with
  |Tuple P f p=>exact⟨_,_,_,rfl⟩
  |Name y p=>cases BX
  |_=>exact nn BX
 .have m:=Fv A w x I C e h g;refine⟨BW m.calm m.nd BX ?_,m⟩;have:=ko (X:=aK X scope C a (mask a S.N) e h g) a 0 λk y v=>?_
  .simpa using this
  .have Z:y∈a:=OF v;have D:(aK X scope C a (mask a S.N) e h g).env.scope.names.lookup y=some .local:=by show(relabel scope X.env).names.lookup y=_;rw[eV I O,(O.own y Z).1];rfl
   refine⟨?_,.inl D,.inr D⟩;show(a++mask a S.N)[0+k]?=some y;rw[YA,OK (FS.mp v).1];exact v
theorem fJ{O:List Nat}{one:Bool}{n:Nat}{i c x:CE}(hi:bY Φ Ψ G i)(hc:bY Φ Ψ G c)(hx:bY Φ Ψ G x){S:SE}{X:Cx}(hX:XOk S Φ Ψ G X){ex:Expr}(k:aD S false (.comp O one n i c x) ex=true)(R:Addr->Prop):
 ∃B tg a y scope p d,ex=.ListComp B [⟨tg,a,y,0⟩] scope p/\n=d.length/\(∀j∈O,j<d.length)/\cK scope X.env.scope X.N (mask d S.N) d=true/\(∀z,foldedSetIterable a X.env z=pure z)/\PI X tg a (z6 X S.M R true (wE Φ G R i))/\
  ∀g s D H,Inv X g D H s->(∀C o l u,PG (aK X scope C d (mask d S.N) o l u) tg (gT X.K one O))/\(∀C o l u,PF (aK X scope C d (mask d S.N) o l u) y (QY X.K (up S.M d.length) (wE Φ G (λ_=>False) c)))/\
   ∀C o l u,(XOk (S.comp scope d) Φ Ψ G (aK X scope C d (mask d S.N) o l u)/\aD (S.comp scope d) false x B=true)/\PE (aK X scope C d (mask d S.N) o l u) B (SD X.K (up S.M d.length) (wE Φ G (λ_=>False) x)):=by
 obtain⟨B,tg,a,y,scope,p,rfl,kk⟩:=pq k;obtain⟨d,rfl,U,ho,Y,Z,k8,m,BU,T⟩:=zu hX kk;refine⟨B,tg,a,y,scope,p,d,rfl,rfl,U,ho,Y,hi.i hX tg true a (by rw[YP];exact k8) Z R,λg s D H I=>⟨λC o l u=>(T g s D H I C o l u).1,λC o l u=>?_,λC o l u=>?_⟩⟩
 .have J:=(T g s D H I C o l u).2
  match y,m with
  |[],m=>
   have m:HQ c=true:=m;cases c with
   |bl b=>have:b=true:=m;subst this;refine PF.imp JK ?_;rintro D H Q ⟨A,l,E,P,L,h,k⟩;obtain⟨b,e,q⟩:=k _ H h (ao.refl H);cases e;exact q
   |_=>exact ff m
  |[f],m=>have m:(aD (S.comp scope d) false c f&&DB c)=true:=m;rw[AN]at m;exact PF.imp (JL (hc.t J f m.1 m.2 λ_=>False))<|by rintro D H Q ⟨A,l,E,P,L,h,k⟩;exact⟨A,l,E,P,L,.none,h,k⟩
  |_::_::_,m=>exact ff m
 .have J:=(T g s D H I C o l u).2;refine⟨⟨J,BU⟩,?_⟩;exact PE.imp (hx.s J BU λ_=>False)<|by rintro D H Q ⟨A,l,E,P,L,h,k⟩;exact⟨A,l,E,P,L,.none,h,λw v H' pw s r=>k w v H' pw s r.aW⟩
theorem Fw(o:List Nat)(one:Bool)(n:Nat){i c x:CE}(B:bY Φ Ψ G i)(D:bY Φ Ψ G c)(w:bY Φ Ψ G x):bY Φ Ψ G (.comp o one n i c x):=by
 refine .mk1 (λ{S X} m ex k R=>?_) (λ{S ex} J k e=>?_) (λS ex k=>by exact k) (λ_ _=>rfl)
 .obtain⟨j,q,d,f,b,p,M,rfl,rfl,g,A,h,K,z⟩:=fJ B D w m k R;rw[g9 rfl];rw[xD];intro a s l H Q I y;obtain⟨v,u,t⟩:=z a s l H I;exact EX m.calm A g K v u (λC r L E=>(t C r L E).2) h a s l H Q I y
 .obtain⟨j,q,d,f,b,p,rfl,N⟩:=pq k;rfl
theorem LA:nZ Φ Ψ G []:=by
 have en:∀{S:SE}{a:List Expr},eE S [] a=true->a=[]:=λ{S a} h=>by exact Hb.mp h
 have e:∀{S:SE}{a:List Expr},kj S [] a=true->a=[]:=λ{S a} h=>by exact Hb.mp h
 refine⟨λd a k R=>?_,λd a k R=>?_,λd a b c k R=>absurd (en k) c,λd a b c k R=>absurd (en k) c,λd a b c k _ R=>absurd (en k) c,λd a b c k _ R=>absurd (en k) c⟩
 .rw[en k];exact Km
 .rw[e k];exact EM
theorem Fx{a:CE}{m:List CE}(l:bY Φ Ψ G a)(o:nZ Φ Ψ G m):nZ Φ Ψ G (a::m):=by
 have p:∀{S:SE}{j:List Expr},eE S (a::m) j=true->∃e r,j=e::r/\aD S false a e=true/\eE S m r=true:=λ{S j} h=>by
  cases j with
  |nil=>exact ff h
  |cons e r=>have h:=KE.mp h;exact⟨e,r,rfl,h.1,h.2⟩
 have w:∀R,wA Φ G R (a::m)=λv Q=>wE Φ G R a v λx=>wA Φ G R m v λy=>Q (x::y):=λR=>rfl;refine⟨λc j k R=>?_,λ{S X} c j k R=>?_,λ{S X} c j f q k R=>?_,λ{S X} c j f q k R=>?_,λ{S X} c j f q k i R=>?_,λ{S X} c j f q k i R=>?_⟩
 .obtain⟨e,r,rfl,g,d⟩:=p k;rw[w];exact EL (aB (aO (.inl g)) _ _) (l.s c g R) (o.a c r d R)
 .cases j with
  |nil=>exact ff k
  |cons e r=>have k:=KE.mp k;rw[w];exact Bx (aB (aO (dZ k.1)) _ _) (l.b c k.1 R) (o.b c r k.2 R)
 .obtain⟨e,r,rfl,g,d⟩:=p k;cases m with
  |nil=>
   have:r=[]:=by exact Hb.mp d
   subst this;exact Ak (l.s c g R)
  |cons b u=>
   cases r with
   |nil=>exact ff d
   |cons n r=>exact Ke (l.s c g R) (o.av c (n::r) f (by simp) d R)
 .obtain⟨e,r,rfl,g,d⟩:=p k;cases m with
  |nil=>
   have:r=[]:=by exact Hb.mp d
   subst this;exact Ak (l.s c g R)
  |cons b u=>
   cases r with
   |nil=>exact ff d
   |cons n r=>exact OE (l.s c g R) (o.ov c (n::r) f (by simp) d R)
 .obtain⟨e,r,rfl,g,d⟩:=p k;have i:=a2 i;cases m with
  |nil=>
   have:r=[]:=by exact Hb.mp d
   subst this;exact EK (l.t c e g i.1 R)
  |cons b u=>
   cases r with
   |nil=>exact ff d
   |cons n r=>exact Kh (l.t c e g i.1 R) (o.at c (n::r) f (by simp) d i.2 R)
 .obtain⟨e,r,rfl,g,d⟩:=p k;have i:=a2 i;cases m with
  |nil=>
   have:r=[]:=by exact Hb.mp d
   subst this;exact Kg (l.t c e g i.1 R)
  |cons b u=>
   cases r with
   |nil=>exact ff d
   |cons n r=>exact OG (l.t c e g i.1 R) (o.ot c (n::r) f (by simp) d i.2 R)
variable(Φ Ψ G)
mutual
theorem snd:∀c:CE,bY Φ Ψ G c
 |.var i=>Le i
 |.int i=>Lg i
 |.bl b=>Pc b
 |.str x=>Lh x
 |.aM=>Li
 |.wR n=>Lj n
 |.glob g=>Fo g
 |.bin op a b=>Lk op (snd a) (snd b)
 |.neg a=>Ll (snd a)
 |.not a=>Lm (snd a)
 |.cmp op a b=>Ln op (snd a) (snd b)
 |.l6 p q a b c=>Fq p q (snd a) (snd b) (snd c)
 |.and d=>Lo (kG d).1
 |.or d=>Pe (kG d).1
 |.tup d=>Lp (kG d).1
 |.lst d=>Lq (kG d).1
 |.ix a i=>Ph (snd a) (snd i)
 |.sl a h k=>Pj (snd a) (snd h) (snd k)
 |.call f d=>Ft f (kG d).1
 |.blt b d=>Ls b (kG d).1 (kG d).2
 |.comp e one n i c x=>Fw e one n (snd i) (snd c) (snd x)
 |.jq d=>Lx (kG d).2
 |.qg a=>Ly (snd a)
 |.rev a=>Lz (snd a)
 |.JV a st=>Lr (snd a) (snd st)
 |.pop i=>Lw i
 |.own i π=>Lf i π
 |.wU j a=>Lv j (snd a)
theorem kG:∀cs:List CE,nZ Φ Ψ G cs/\∀c∈cs,bY Φ Ψ G c
 |[]=>⟨LA,by simp⟩
 |c::cs=>⟨Fx (snd c) (kG cs).1,λd a=>by
  rcases Fm.mp a with e|h
  .rw[e];exact snd c
  .exact(kG cs).2 d h⟩
end
end
noncomputable def Fy(S:SE)(i:Nat)(x:Str):Bool:=S.N[i]?==some x&&(S.nk.lookup x==some .local||S.nk.lookup x==some .cell)
noncomputable def tN(S:SE):List Nat->List Str->Bool
 |[],a=>a.isEmpty
 |i::b,a=>match a with
  |x::r=>Fy S i x&&tN S b r
  |[]=>false
noncomputable def FA(S:SE)(a:List Nat):Bool:=a.all λi=>!g8 S.M i
noncomputable def SE.less(S:SE)(i:Nat):SE:={S with M:=S.M.filter (·.1 !=i)}
noncomputable def SE.bare(S:SE):SE:={S with M:=[]}
noncomputable def BY:Expr->Bool
 |.Tuple _ _ _=>false
 |_=>true
noncomputable def BZ:Expr->Bool
 |.ListComp _ _ _ _=>false
 |_=>true
noncomputable def MU(S:SE)(b vs:List Expr):Option (Option (List Str)):=
 if !(b.length==2||b.length==3)||vs.length !=b.length then some none
 else if vs.any λ|.Starred ..=>true|_=>false then some none
 else
  let line:=(b.head?.map (·.pos.line)).getD 0
  let a:=b.filterMap λ
   |.Name c pos=>if S.nk.lookup c==some .local&&pos.line==line then some c else none
   |_=>none
  if a.length !=b.length||a.eraseDups.length !=a.length then some none
  else if vs.all (foldedForSure 8)then some none
  else if vs.all (constantsAlone 8)then none
  else some (some a)
noncomputable def B0(f:List Expr->Expr->Bool):Stmt->Bool
 |.Assign a v _=>f a v
 |_=>false
noncomputable def Uu(f:Expr->List Stmt->List Stmt->Bool):Stmt->Bool
 |.While c a b _=>f c a b
 |_=>false
noncomputable def Uv(f:Expr->Expr->List Stmt->List Stmt->Bool):Stmt->Bool
 |.For t i a b _=>f t i a b
 |_=>false
noncomputable def LB(f:Expr->Bool):Stmt->Bool
 |.Expr v _=>f v
 |_=>false
noncomputable def tO(f:Str->Pos->Expr->Bool):Stmt->Bool:=B0 λa v=>o1 (SX λx p=>f x p v) a
noncomputable def HV(f:List Expr->Expr->Bool):Stmt->Bool:=B0 λa v=>o1 (u0 λb=>f b v) a
noncomputable def HW(f:List Expr->List Expr->Bool):Stmt->Bool:=B0 λb v=>o1 (u0 λc=>u0 (λa=>f c a) v) b
noncomputable def HX(f:Expr->Expr->Expr->Bool):Stmt->Bool:=B0 λa v=>o1 (u5 λo k=>f o k v) a
noncomputable def FD(f:Expr->Str->Pos->Pos->Expr->Bool):Stmt->Bool:=LB (xu λg b k c=>k&&o1 (λv=>Fg (λo m a=>f o m a c v) g) b)
noncomputable def Pn(n:Bool)(f:Expr->Bool):Stmt->Bool
 |.Return (some v) _=>f v
 |.Return none _=>n
 |_=>false
noncomputable def Pp(f:Expr->List Stmt->List Stmt->Bool):Stmt->Bool
 |.If c a b _=>f c a b
 |_=>false
noncomputable def Pu(f:Expr->List Stmt->Bool):Stmt->Bool:=Uu λc a b=>b.isEmpty&&f c a
noncomputable def B3(f:Expr->Expr->List Stmt->Bool):Stmt->Bool:=Uv λt i a b=>b.isEmpty&&f t i a
noncomputable def Te:Stmt->Bool
 |.Break _=>true
 |_=>false
noncomputable def B4(f:Stmt->Bool)(g:List Stmt->Bool):List Stmt->Bool
 |e::a=>f e&&g a
 |[]=>false
mutual
noncomputable def LC:Md->Md->Bool
 |.s,m=>K9 m
 |.f,m=>O6 m
 |.t a,m=>match m with
  |.t b=>FE a b
  |_=>false
 |.o e a,m=>match m with
  |.o c b=>decide (e=c)&&FE a b
  |_=>false
 |.io a,m=>match m with
  |.io b=>LC a b
  |_=>false
 |.ls a,m=>match m with
  |.ls b=>LC a b
  |_=>false
 |.d,m=>SW m
noncomputable def FE:List Md->List Md->Bool
 |[],l=>l.isEmpty
 |a::d,l=>match l with
  |b::c=>LC a b&&FE d c
  |[]=>false
end
mutual
theorem jN:∀{a b:Md},LC a b=true->a=b
 |.s,m,h=>by cases m<;>first|rfl|exact ff h
 |.f,m,h=>by cases m<;>first|rfl|exact ff h
 |.t a,m,h=>by
  cases m with
  |t b=>exact GT _ (qC h)
  |_=>exact ff h
 |.o e a,m,h=>by
  cases m with
  |o c b=>have h:=KE.mp h;rw[Bi h.1,qC h.2]
  |_=>exact ff h
 |.io a,m,h=>by
  cases m with
  |io b=>exact GT _ (jN h)
  |_=>exact ff h
 |.ls a,m,h=>by
  cases m with
  |ls b=>exact GT _ (jN h)
  |_=>exact ff h
 |.d,m,h=>by cases m<;>first|rfl|exact ff h
theorem qC:∀{a b:List Md},FE a b=true->a=b
 |[],l,h=>by
  cases l with
  |nil=>rfl
  |cons b c=>exact ff h
 |a::d,l,h=>by
  cases l with
  |nil=>exact ff h
  |cons b c=>have h:=KE.mp h;rw[jN h.1,qC h.2]
end
noncomputable def hasB(M:Ms)(i:Nat)(m:Md):Bool:=match M.lookup i with
 |some k=>LC k m
 |none=>false
theorem iZ{M:Ms}{i:Nat}{m:Md}(h:hasB M i m=true):(i,m)∈M:=by
 unfold hasB at h;cases e:M.lookup i with
 |none=>rw[e]at h;exact ff h
 |some k=>rw[e]at h;rw[<-jN h];exact iW e
mutual
noncomputable def jO(S:SE):CE->Expr->Bool
 |.pop i,e=>BK (λo m j h=>decide (m=("pop":Str))&&(j.endLine==h.line)&&zk S.M i&&gf S i o) e
 |.bin op a b,e=>BH (λo l r=>decide (op=o)&&jO S a l&&jO S b r) e
 |.cmp op a b,e=>BJ (λo l r=>decide (op=o)&&!decide (op=.In)&&!decide (op=.NotIn)&&jO S a l&&jO S b r) e
 |.call f g,e=>gg (λx d=>S.fn[f]?==some x&&gc S x&&!d.isEmpty&&!fH (iV S.md f)&&!S.mt.any (·.1==f)&&mU S g d) e
 |.blt b g,e=>gg (λx d=>decide (x=Q3 b)&&gc S x&&S.zn.contains x&&Us b d.length&&!decide (b=.uo)&&!d.isEmpty&&mU S g d) e
 |.ix a b,e=>u5 (λv s=>xA s&&jO S a v&&jO S b s) e
 |.lst g,e=>Lb (λd=>mU S g d) e
 |.tup g,e=>u0 (λd=>mU S g d) e
 |.and _,_=>false
 |.or _,_=>false
 |c,e=>aD S false c e
noncomputable def mU(S:SE):List CE->List Expr->Bool
 |[],b=>b.isEmpty
 |a::c,b=>BQ (λe=>jO S a e) (λb=>mU S c b) b
end
noncomputable def Uw:Md->Bool
 |.s=>true
 |_=>false
noncomputable def Px(a:Nat->Md):CE->Md
 |.tup b=>.t (b.map (mo a))
 |.call f _=>a f
 |c=>mo a c
noncomputable def isVar:CE->Option Nat
 |.var i=>some i
 |_=>none
noncomputable def Py(S:SE)(m:Md)(e:CE)(v:Expr):Bool:=match isVar e with
 |some i=>hasB S.M i m&&gf S i v
 |none=>false
noncomputable def Pz(S:SE)(a:Nat->Md)(m:Md)(e:CE)(v:Expr):Bool:=
 !fH m&&((Uw m&&(aD S.bare false e v||aD S false e v))||(LC (Px a e) m&&aD S.bare false e v)||Py S m e v)
noncomputable def isCall:CE->Bool
 |.call _ _=>true
 |_=>false
noncomputable def Ux(S:SE)(a:List Nat)(one e:Bool)(f:Expr->Bool)(g:List Stmt->Bool)(tg c:Expr)(b:List Stmt):Bool:=
 match Lc tg with
 |some (o,d)=>(one==o)&&tN S a d&&FA S a&&jL c&&(!e||!one)&&f c&&g b
 |none=>false
noncomputable def vd:Expr->Bool
 |.SetComp _ _ _ _=>false
 |.DictComp _ _ _ _ _=>false
 |_=>true
mutual
noncomputable def B5(S:SE)(d:Nat->Md)(m:Md):CS->Stmt->Bool
 |.set i e,st=>tO (λx _ v=>Fy S i x&&(if g8 S.M i=true then(!fH m||!(i==0))&&((zk S.M i&&kg d e)||(isCall e&&hasB S.M i (Px d e)))&&aD (S.less i) false e v else aD S false e v)) st
 |.Dv h e,st=>HV (λl v=>(match BO l with|some g=>tN S h g|none=>false)&&FA S h&&aD S false e v&&(BY v||u0 (λvs=>decide (MU S l vs=some none)) v)) st
 |.par h l,st=>HW (λtg vs=>(match BO tg with|some g=>tN S h g&&decide (MU S tg vs=some (some g))&&decide g.Nodup&&g.all (λx=>S.nk.lookup x==some .local)|none=>false)&&FA S h&&eE S l vs) st
 |.app i e,st=>FD (λo p r q v=>decide (p=("append":Str))&&(r.endLine==q.line)&&zk S.M i&&gf S i o&&aD S false e v) st
 |.put i k e,st=>HX (λo j v=>zk S.M i&&gf S i o&&xA j&&aD S false k j&&aD S false e v) st
 |.drop i,st=>LB (λv=>BZ v&&vd v&&jO S (.pop i) v) st
 |.Bp j e,st=>tO (λx _ v=>Fy S j x&&!g8 S.M j&&BZ v&&vd v&&jO S e v) st
 |.ret e,st=>Pn (iS e&&Uw m) (λv=>Pz S d m e v) st
 |.iff c a b,st=>Pp (λt x y=>aD S false c t&&DB c&&d7 S d m a x&&d7 S d m b y) st
 |.uq c b,st=>Pu (λt x=>aD S false c t&&DB c&&d7 S d m b x) st
 |.fr h one u b,st=>B3 (λtg i x=>Ux S h one (BP u) (λi=>aD S true u i) (λx=>d7 S d m b x) tg i x) st
 |.brk,st=>Te st
 |.Ol i e,st=>FD (λo p r q v=>decide (p=("append":Str))&&(r.endLine==q.line)&&hasB S.M i (.ls (Px d e))&&gf S i o&&aD S false e v) st
 |.Om i C B h one n u c e,st=>tO (λx _ v=>Fy S i x&&!g8 S.M i&&LC (Px d e) B&&aD (S.lend C) false (.comp h one n u c e) v) st
 |.Oo j a b e,st=>B3 (λtg i x=>(match Lc tg with|some (o,g)=>!o&&tN S [a,b] g|none=>false)&&!g8 S.M a&&!g8 S.M b&&decide (a≠b)&&hasB S.M j (.ls (.t [.f,.s]))&&jL i&&gf S j i&&(cst e).isSome&&o1 (FD λo p r q v=>decide (p=("append":Str))&&(r.endLine==q.line)&&gf S a o&&aD S false e v) x) st
 |.fld j a b t y e,st=>B3 (λtg i x=>(match Lc tg with|some (o,g)=>!o&&tN S [a,b] g|none=>false)&&!g8 S.M a&&!g8 S.M b&&!g8 S.M t&&!g8 S.M y&&decide (a≠b/\a≠t/\a≠y/\b≠y/\t≠y)&&hasB S.M j (.ls (.t [.f,.s]))&&jL i&&gf S j i&&o1 (B3 λD w A=>oZ (λz=>Fy S t z) D&&jL w&&gg (λz l=>decide (z=("range":Str))&&gc S z&&S.zn.contains z&&qz (gf S b) l) w&&o1 (tO λn _ v=>Fy S y n&&isCall e&&kg d e&&aD (S.lend [j]) false e v) A) x) st
 |.MQ _ _,_=>false
noncomputable def d7(S:SE)(d:Nat->Md)(m:Md):List CS->List Stmt->Bool
 |[],c=>c.isEmpty
 |a::g,c=>match a with
  |.MQ f b=>g.isEmpty&&(!fH m||!f.contains 0)&&d7 (S.lend f) d m b c
  |a=>B4 (λe=>B5 S d m a e) (λc=>d7 S d m g c) c
end
structure uw(S:SE)(Φ:Nat->aX)(Ψ:Nat->Md)(G:Nat->W)(X:Cx):Prop extends XOk S Φ Ψ G X where
 bk:X.env.blockKind=.function
 MV:∀x,X.fn x=true
 LD:∀j x C,S.gn[j]?=some x->G j=.cls C->R1 X.K C
 HY:∀i m m',(i,m)∈S.M->(i,m')∈S.M->m=m'
section
variable{S:SE}{Φ:Nat->aX}{Ψ:Nat->Md}{G:Nat->W}{X:Cx}
theorem uw.eN(h:uw S Φ Ψ G X):uw S Φ Ψ G X.eN:={toXOk:=h.toXOk.eN,bk:=h.bk,MV:=h.MV,LD:=h.LD,HY:=h.HY}
theorem XOk.LF(h:XOk S Φ Ψ G X)(M:Ms):XOk {S with M:=M} Φ Ψ G X:=⟨h.hN,h.nd,h.calm,h.un,h.nk,h.fns,h.Fj,h.DC,h.DE,h.rR,h.kit⟩
theorem ia(h:uw S Φ Ψ G X){i:Nat}{x:Str}(k:Fy S i x=true):eG X i x:=by unfold Fy at k;simp only[AN,Yi,Pm]at k;refine⟨by rw[h.hN];exact k.1,?_,.inl (h.MV x)⟩;unfold L2.Loc;rw[h.nk];exact k.2
theorem gA(h:uw S Φ Ψ G X):∀{b:List Nat}{a:List Str},tN S b a=true->cN X b a
 |[],a,k=>Hb.mp k
 |i::c,[],k=>by cases k
 |i::c,x::r,k=>by rw[tN,AN]at k;exact⟨x,r,rfl,ia h k.1,gA h k.2⟩
theorem qD{a:List Nat}(h:FA S a=true):∀i∈a,¬aG S.M i:=λi b=>b6 (by simpa using Hc.mp h i b)
theorem B6{i:Nat}{m:Md}(f:(i,m)∈S.M)(d:∀c,(i,c)∈S.M->c=m){x:Nat×Md}:x∈S.M↔x=(i,m)\/x∈(S.less i).M:=by
 show _↔_\/x∈S.M.filter (·.1 !=i);rw[Qb,bne_iff_ne];obtain⟨a,b⟩:=x;constructor
 .intro h;by_cases e:a=i
  .subst e;rw[d b h];exact .inl rfl
  .exact .inr ⟨h,e⟩
 .rintro(e|h)
  .cases e;exact f
  .exact h.1
theorem B7{i:Nat}:¬aG (S.less i).M i:=by rintro⟨m,h⟩;have h:(i,m)∈S.M.filter (·.1 !=i):=h;rw[Qb,bne_iff_ne]at h;exact h.2 rfl
noncomputable def xE:Expr->Bool
 |.SetComp _ _ _ _=>false
 |.DictComp _ _ _ _ _=>false
 |_=>true
theorem B8{d:Bool}{c:CE}{e:Expr}(h:aD S d c e=true):xE e=true:=by
 cases e with
 |SetComp _ _ _ _=>
  cases c with
  |own i b=>rcases(dw h).2 with⟨_,_,_,e⟩|⟨_,_,_,_,_,e⟩<;>cases e
  |wU f a=>exact ff h
  |_=>exact ff h
 |DictComp _ _ _ _ _=>
  cases c with
  |own i b=>rcases(dw h).2 with⟨_,_,_,e⟩|⟨_,_,_,_,_,e⟩<;>cases e
  |wU f a=>exact ff h
  |_=>exact ff h
 |_=>rfl
noncomputable def Q4(S:SE)(x:Str)(p:Pos):Expr->Bool
 |.ListComp _ _ scope q=>(S.nk.lookup x==some .local)&&(p.line==q.line)&&!(scope.names.any λ(n,k)=>n==x&&(k==.local||k==.cell))
 |_=>false
theorem HZ(h:uw S Φ Ψ G X){e:Expr}(c:xE e=true)(x:Str)(p:Pos)(l:Nat):swapsWith e (some (.Name x p)) l X.env=pure (Q4 S x p e):=by
 cases e with
 |ListComp a b scope q=>show(pure _:Sem Bool)=pure _;rw[h.bk];show(pure (true&&(X.env.scope.names.lookup x==some .local)&&(p.line==q.line)&&_):Sem Bool)=_;rw[h.nk,YP];rfl
 |SetComp _ _ _ _=>exact ff c
 |DictComp _ _ _ _ _=>exact ff c
 |_=>rfl
theorem FF{e:Expr}{a:List Expr}{k:Nat}{p:Pos}(l:Nat)(env:Env):swapsWithSole [.Tuple a k p] e l env=pure false:=by
 cases e<;>rfl
theorem B9{e o i:Expr}{p:Pos}(l:Nat)(env:Env):swapsWithSole [.Subscript o i p] e l env=pure false:=by
 cases e<;>rfl
theorem FG{e:Expr}(a:BY e=true)(b:List Expr)(k:Nat)(p:Pos)(env:Env):swappedStores [.Tuple b k p] e env=pure none:=by
 cases e<;>first|rfl|exact ff a
theorem Ca{e o i:Expr}{p:Pos}(env:Env):swappedStores [.Subscript o i p] e env=pure none:=by
 cases e<;>rfl
theorem Cb(h:uw S Φ Ψ G X){a vs:List Expr}{k k2:Nat}{p p2:Pos}{o:Option (List Str)}(e:MU S a vs=some o):swappedStores [.Tuple a k p] (.Tuple vs k2 p2) X.env=pure o:=by
 delta swappedStores
 unfold MU at e;have b:∀x,X.env.kindOf x=S.nk.lookup x:=λx=>h.nk x;simp only[b,h.bk,bne_self_eq_false,QP];dsimp only at e;split at e
 .rename_i c
  cases e;exact Bz c
 rename_i c1
 refine(Bn c1).trans ?_;split at e
 .rename_i c
  cases e;exact Bz c
 rename_i c2
 refine(Bn c2).trans ?_;split at e
 .rename_i c
  cases e;exact Bz c
 rename_i c3
 refine(Bn c3).trans ?_;split at e
 .rename_i c
  cases e;exact Bz c
 rename_i c4
 refine(Bn c4).trans ?_;split at e
 .cases e
 rename_i c5
 cases e;exact Bn c5
end
theorem i6{f:List Expr->Expr->Bool}{e:Stmt}(h:B0 f e=true):∃a v q,e=.Assign a v q/\f a v=true:=by cases e<;>first|exact⟨_,_,_,rfl,h⟩|exact ff h
theorem FH{f:Expr->List Stmt->List Stmt->Bool}{e:Stmt}(h:Uu f e=true):∃c a b q,e=.While c a b q/\f c a b=true:=by cases e<;>first|exact⟨_,_,_,_,rfl,h⟩|exact ff h
theorem FI{f:Expr->Expr->List Stmt->List Stmt->Bool}{e:Stmt}(h:Uv f e=true):∃t i a b q,e=.For t i a b q/\f t i a b=true:=by cases e<;>first|exact⟨_,_,_,_,_,rfl,h⟩|exact ff h
theorem tQ{f:Expr->Bool}{st:Stmt}(h:LB f st=true):∃v q,st=.Expr v q/\f v=true:=by cases st<;>first|exact⟨_,_,rfl,h⟩|exact ff h
theorem gB{f:Str->Pos->Expr->Bool}{st:Stmt}(h:tO f st=true):∃x p v q,st=.Assign [.Name x p] v q/\f x p v=true:=by obtain⟨d,v,q,rfl,c⟩:=i6 h;obtain⟨t,rfl,b⟩:=cy c;obtain⟨x,p,rfl,a⟩:=xw b;exact⟨_,_,_,_,rfl,a⟩
theorem zv{f:List Expr->Expr->Bool}{st:Stmt}(h:HV f st=true):∃a k p v q,st=.Assign [.Tuple a k p] v q/\f a v=true:=by obtain⟨e,v,q,rfl,d⟩:=i6 h;obtain⟨t,rfl,c⟩:=cy d;obtain⟨a,k,p,rfl,b⟩:=cT c;exact⟨_,_,_,_,_,rfl,b⟩
theorem zw{f:List Expr->List Expr->Bool}{st:Stmt}(h:HW f st=true):∃a k p vs c b q,st=.Assign [.Tuple a k p] (.Tuple vs c b) q/\f a vs=true:=by obtain⟨j,v,q,rfl,i⟩:=i6 h;obtain⟨t,rfl,g⟩:=cy i;obtain⟨a,k,p,rfl,e⟩:=cT g;obtain⟨vs,c,b,rfl,d⟩:=cT e;exact⟨_,_,_,_,_,_,_,rfl,d⟩
theorem zx{f:Expr->Expr->Expr->Bool}{st:Stmt}(h:HX f st=true):∃o k p v q,st=.Assign [.Subscript o k p] v q/\f o k v=true:=by obtain⟨d,v,q,rfl,c⟩:=i6 h;obtain⟨t,rfl,b⟩:=cy c;obtain⟨o,k,p,rfl,a⟩:=cU b;exact⟨_,_,_,_,_,rfl,a⟩
theorem mV{f:Expr->Str->Pos->Pos->Expr->Bool}{st:Stmt}(h:FD f st=true):∃o m c v b q,st=.Expr (.Call (.Attribute o m c) [v] [] b) q/\f o m c b v=true:=by obtain⟨v,q,rfl,n⟩:=tQ h;obtain⟨g,s,r,p,rfl,l⟩:=jJ n;obtain⟨k,j⟩:=a2 l;obtain⟨e,rfl,i⟩:=cy j;obtain⟨o,m,a,rfl,d⟩:=iX i;rw[Hb.mp k];exact⟨_,_,_,_,_,_,rfl,d⟩
theorem Cc{n:Bool}{f:Expr->Bool}{st:Stmt}(h:Pn n f st=true):(∃v q,st=.Return (some v) q/\f v=true)\/∃q,st=.Return none q/\n=true:=by
 cases st<;>try exact ff h
 rename_i v q
 cases v
 .exact .inr ⟨_,rfl,h⟩
 .exact .inl ⟨_,_,rfl,h⟩
theorem Ce{f:Expr->List Stmt->List Stmt->Bool}{st:Stmt}(h:Pp f st=true):∃c a b q,st=.If c a b q/\f c a b=true:=by
 cases st<;>try exact ff h
 exact⟨_,_,_,_,rfl,h⟩
theorem Cf{f:Expr->List Stmt->Bool}{st:Stmt}(h:Pu f st=true):∃c a q,st=.While c a [] q/\f c a=true:=by obtain⟨c,a,b,q,rfl,e⟩:=FH h;obtain⟨k,d⟩:=a2 e;rw[Hb.mp k];exact⟨_,_,_,rfl,d⟩
theorem i7{f:Expr->Expr->List Stmt->Bool}{st:Stmt}(h:B3 f st=true):∃tg c a q,st=.For tg c a [] q/\f tg c a=true:=by obtain⟨t,i,a,b,q,rfl,e⟩:=FI h;obtain⟨k,d⟩:=a2 e;rw[Hb.mp k];exact⟨_,_,_,_,rfl,d⟩
section
variable{X:Cx}{M:Ms}{m:Md}{st:Stmt}{i j k:Nat}{e:Expr}{te:(Addr->Prop)->WT}{M':Ms}{m0:Md}
theorem FJ{x y z:Str}{a b c:Expr}{ta:TA}{Q P O R pos:Pos}{S k2 Y}(hc:X.calm=true)(L:X.N.Nodup)(hi:X.N[i]?=some x)(hj:X.N[j]?=some y)(hk:X.N[k]?=some z)(K:i≠j)(J:i≠k)(G:j≠k)
 (U:X.env.scope.names.lookup x=some .local)(T:X.env.scope.names.lookup y=some .local)(hz:X.env.scope.names.lookup z=some .local)(ha:PA X [a,b,c] ta)
 (hw:swappedStores [.Tuple [.Name x Q,.Name y P,.Name z O] S R] (.Tuple [a,b,c] k2 Y) X.env=pure (some [x,y,z])):
 PS X (.Assign [.Tuple [.Name x Q,.Name y P,.Name z O] S R] (.Tuple [a,b,c] k2 Y) pos) (λD f H=>ta f H λvs H1=>∃v w u,vs=[v,w,u]/\D.nx (((f.set i (some v)).set j (some w)).set k (some u)) H1):=by
 intro d s f H D I h;rw[exec_Assign_arm];refine FC (YF ?_);refine FC (Kb ?_);rw[Bn (by decide)];refine FC (Tuple_ (aZ (ha _ d s f H _ I h) λus r ⟨vs,H1,I1,r1,B⟩=>?_));obtain⟨v,w,u,e1,B⟩:=B;subst e1;obtain⟨n,l,g,rfl,rv,t,ru⟩:∃n l g,us=[n,l,g]/\RelV v n/\RelV w l/\RelV u g:=by
  cases r1 with
  |cons p q=>
   cases q with
   |cons p' q'=>
    cases q' with
    |cons C Wj=>
     cases Wj;exact⟨_,_,_,rfl,p,p',C⟩
 refine wpAny_newObj_type ?_ (by show 3<=sizeLine;decide);have I2:Inv X d f H1 {r with heap:=r.heap.push {cls:=.type "tuple",data:=.seq [n,l,g].toArray}}:=I1.kept (t':=r.toks) λb o e=>D1 _ e;rw[hw];refine FC (Kb ?_);show wpAny (model X.prog X.w) X.A (do rule "assign.swapped-stores";let items<-unpackItems (.ref r.heap.objs.size) 3 none;assignInOrder [λv=>bindName X.env z v,λv=>bindName X.env y v,λv=>bindName X.env x v] items.reverse;pure Flow.next) _ _ _;refine FC (wpAny_rule (FC (unpackItems_tuple (items:= #[n,l,g]) (I.ok.hd hc) (IsTup.new r.heap _) λh' E=>?_)));have I3:=I2.kept (h':=h') (t':=r.toks) λb o e=>E b o (Ha (FK e)) e;show wpAny _ _ (assignInOrder [λv=>bindName X.env z v,λv=>bindName X.env y v,λv=>bindName X.env x v] [g,l,n]>>=λ_=>pure Flow.next) _ _ _;refine FC (X9 (YV (dB I3 L hk (.inl hz) ru (λs2 I4=>?_) (.inr hz))));refine X9 (YV (dB I4 L hj (.inl T) t (λs3 I5=>?_) (.inr T)));refine X9 (YV (dB I5 L hi (.inl U) rv (λs4 Z=>assignInOrder_nil (Kb ?_)) (.inr U)));have e6:((f.set k (some u)).set j (some w)).set i (some v)=((f.set i (some v)).set j (some w)).set k (some u):=by rw[SB _ _ (Mo G),SB _ _ (Mo J),SB _ _ (Mo K)]
 rw[e6]at Z;exact⟨_,H1,Z,B⟩
theorem FL(c:∀R,PS X st (jw (tV X M R (Dy X.K .s) (te R)) (c6 i)))(n:¬aG M i):VS X M m st (λd b=>te d.ex b λw=>d.nx (b.set i (some w))):=by rintro a s f H D I ⟨A,q,b,d,S,o,hz,h,k⟩;refine c d.ex a s f H D I ⟨A,q,b,_,S,o,h,λw v p l g r=>?_⟩;exact k.nx A _ _ p rfl rfl l ((S.same g).set n r.aW)
theorem Cg(c:∀R,PS X st (jw (tV X M' R (Dy X.K m0) (te R)) (c6 i)))(g:∀x,x∈M↔x=(i,m0)\/x∈M')(y:¬aG M' i)(f:fH m=true->i≠0):VS X M m st (λd b=>te d.ex b λw=>d.nx (b.set i (some w))):=by
 rintro a s n H D I ⟨A,Q,b,d,S,E,hz,h,k⟩;have C:∀v,A.s0=some v->A.s0=some v/\aG M' 0:=λv e=>by
  refine⟨e,?_⟩;have u:fH m=true:=by rw[<-hz,e];rfl
  obtain⟨p,B⟩:=(S.sl v e).2;rcases(g _).mp B with z|z
  .cases z;exact(f u rfl).elim
  .exact⟨p,z⟩
 obtain⟨U,J,G,Y,l⟩:=S.sub (M':=M') (λx q=>(g x).mpr (.inr q)) A.s0 C;refine c d.ex a s n H D I ⟨U,Q,b,_,l,E,h,λw v P t o r=>?_⟩;obtain⟨T,N,L,_,O⟩:=l.own g y o r;exact k.nx T _ _ P (N.trans J) (L.trans G) t O
theorem FN{pos:Pos}:VS X M .s (.Return none pos) (λd c=>d.rt .aM):=by rintro a s b H D I ⟨A,g,c,d,S,f,hz,h,k⟩;exact DM a s b H D I (k.rt _ _ H h S.sm (.of rfl (.of (by dsimp only[Rep]))))
end
noncomputable def Ci(X:Cx)(M:Ms)(R:Addr->Prop)(g:List Md)(t:Ev->(List W->Prop)->Prop):TA:=λf H Q=>∃A e b P,SR X.K M A e f H b/\ER X e R/\t b P/\∀c d a F,P c->ao H a->F.Nodup->(∀p∈F,H p=none)->dX X.K (λq=>A.B q\/q∈F) a g c d F->Q d a
section
variable{X:Cx}{M:Ms}{R:Addr->Prop}{a:Expr}{es:List Expr}{ta:WT}{m:Md}{ms:List Md}{pos:Pos}
theorem FO:PA X [] (Ci X M R [] λ_ Q=>Q []):=PA.imp bV<|by rintro b H Q ⟨A,e,c,P,S,d,h,k⟩;exact k [] [] H [] h (ao.refl H) XY (by simp) (by dsimp only[dX];exact⟨rfl,rfl,rfl⟩)
theorem Cj{tr:Ev->(List W->Prop)->Prop}(D:starEach (a::es) X.env=(false,eval a X.env)::starEach es X.env)(I:VE X M R m a ta)(E:PA X es (Ci X M R ms tr)):PA X (a::es) (Ci X M R (m::ms) λc Q=>ta c λx=>tr c λf=>Q (x::f)):=
 PA.imp (aU I E D)<|by
  rintro O H Q ⟨A,u,c,P,S,t,h,k⟩;refine⟨A,u,c,_,S,t,h,λx v N C g y=>?_⟩;obtain⟨G,B,r,s⟩:=y;have d:∀q∈G,∃o,N q=some o:=λq j=>let⟨o,e,_⟩:=Fp.mu m s q j;⟨o,e⟩
  refine⟨_,u,c,_,S.more g r d,t,C,λf w L F i n J l K=>?_⟩;refine k _ _ L (G++F) i (g.trans n) ?_ (λp b=>?_) ?_
  .refine YM.mpr ⟨B,J,λp b q j e=>?_⟩;subst e;obtain⟨o,e⟩:=d p b;rw[l p j]at e;cases e
  .rcases GM.mp b with b|b
   .exact r p b
   .exact g.free (l p b)
  .refine⟨x,f,v,w,G,F,rfl,rfl,rfl,Fp.mv n (λp o e z=>?_) m s,dX.mv (ao.refl _) (λp o e z=>?_) ms K⟩
   .rcases z with z|z
    .exact .inl z
    .rcases GM.mp z with z|z
     .exact .inr z
     .rw[l p z]at e;cases e
   .rcases z with z|z
    .exact .inl (.inl z)
    .rcases GM.mp z with z|z
     .exact .inl (.inr z)
     .exact .inr z
theorem FP{e:Ev->(List W->Prop)->Prop}{j:Nat}(h:PA X es (Ci X M R ms e)):VE X M R (.t ms) (.Tuple es j pos) (λd Q=>e d λb=>b.length<=sizeLine/\Q (.tup b)):=PE.imp (uI h)<|by
 rintro E H Q ⟨A,D,d,P,S,y,h,k⟩;refine⟨A,D,d,_,S,y,h,λb c C F g n q o i=>?_⟩;have u:∀(ms:List Md){b:List W}{c:List V}{F:List Addr}{B:Addr->Prop},dX X.K B C ms b c F->c.length=b.length:=λms=>by
  induction ms with
  |nil=>intro b c F B h;dsimp only[dX]at h;rw[h.1,h.2.1];rfl
  |cons m ms r=>intro b c F B h;obtain⟨w,G,v,l,J,I,rfl,rfl,_,_,x⟩:=h;rw[D8,D8,r x]
 refine⟨by rw[u ms i];exact g.1,λp s=>?_⟩;have f:=aF s (.tup c);refine k _ _ _ g.2 (n.trans f) ⟨F,q,o,?_⟩;exact⟨b,p,c,rfl,rfl,aL,dX.mv f (λ_ _ _ z=>z) ms i⟩
end
noncomputable def fM(b:Nat->aX)(a:Nat->Md)(G:Nat->W)(s:CS):Prop:=∀{S:SE}{X:Cx}{m:Md},uw S b a G X->∀c,B5 S a m s c=true->VS X S.M m c (wS b G s)
noncomputable def gR(b:Nat->aX)(a:Nat->Md)(G:Nat->W)(s:List CS):Prop:=∀{S:SE}{X:Cx}{m:Md},uw S b a G X->∀c,d7 S a m s c=true->By X S.M m c (wSs b G s)
section
variable{Φ:Nat->aX}{Ψ:Nat->Md}{G:Nat->W}
theorem uw.LF{S:SE}{X:Cx}(h:uw S Φ Ψ G X)(M:Ms)(b:∀i m a,(i,m)∈M->(i,a)∈M->m=a):uw {S with M:=M} Φ Ψ G X:={toXOk:=h.toXOk.LF M,bk:=h.bk,MV:=h.MV,LD:=h.LD,HY:=b}
theorem ve{S:SE}{X:Cx}(b:XOk S Φ Ψ G X){f:Nat}{i:List CE}{v:Expr}(k:aD S false (.call f i) v=true)(R:Addr->Prop):VE X S.M R (Ψ f) v (wE Φ G R (.call f i))/\∃g c p,v=.Call g c [] p:=by
 obtain⟨x,q,c,p,rfl,j⟩:=aI k;simp only[AN]at j;obtain⟨⟨⟨⟨⟨t,s⟩,r⟩,h⟩,o⟩,l⟩:=j;obtain⟨C,B,E⟩:=bw b s;obtain⟨D,n,m,A,F,u,z⟩:=b.fns f x (Pm.mp t) (by simpa using o);have F:cS X.prog X.w X.K X.mg X.base m D n (uZ X.K n (Ψ f) (Φ f)):=by rw[<-b.DC]at h;cases y:Ψ f<;>rw[y]at h F<;>first|exact F|exact ff h
 have d:=jM l;cases c with
 |nil=>exact ff r
 |cons e c=>rw[JE,AN]at d;refine⟨?_,_,_,_,rfl⟩;exact xm (M:=S.M) (R:=R) (p:=q) (pos:=p) F u C A z ((kG Φ Ψ G i).1.a b _ l R) B (aB d.1 _ _) (cz d.2 _ _)
theorem Ck{S:SE}{X:Cx}(d:XOk S Φ Ψ G X):∀(b:List CE)(c:List Expr),eE S b c=true->∀R,PA X c (Ci X S.M R (b.map (mo Ψ)) (wA Φ G R b))
 |[],c,k,R=>by rw[Hb.mp k];exact FO
 |a::b,[],k,R=>by cases k
 |a::b,e::c,k,R=>by have k:=a2 k;exact Cj (aB (aO (.inl k.1)) _ _) ((snd Φ Ψ G a).e d e k.1 R) (Ck d b c k.2 R)
theorem vf{S:SE}{X:Cx}(a:XOk S Φ Ψ G X){e:CE}{v:Expr}(k:aD S false e v=true)(R:Addr->Prop):VE X S.M R (Px Ψ e) v (wE Φ G R e):=by
 cases e with
 |tup b=>obtain⟨c,d,p,rfl,k⟩:=cT k;exact FP (Ck a b c k R)
 |call f b=>exact(ve a k R).1
 |_=>exact(snd Φ Ψ G _).e a v k R
theorem mW{e:CE}(h:isCall e=true):∃f a,e=.call f a:=by cases e<;>first|exact⟨_,_,rfl⟩|exact ff h
theorem zy{e:CE}(h:iS e=true):e=.aM:=by cases e<;>first|rfl|exact ff h
theorem zA{e:CE}{i:Nat}(h:isVar e=some i):e=.var i:=by cases e<;>first|(cases h;rfl)|exact nn h
theorem FQ{S:SE}{x:Str}{p:Pos}{v:Expr}(h:Q4 S x p v=true):∃a b c d,v=.ListComp a b c d:=by cases v<;>first|exact⟨_,_,_,_,rfl⟩|exact ff h
theorem LG{S:SE}{e:CE}{a:Expr}{b:List Comprehension}{c:Scope}{d:Pos}(k:aD S false e (.ListComp a b c d)=true):∃f one n i c x,e=.comp f one n i c x:=by
 cases e with
 |comp f one n i c x=>exact⟨_,_,_,_,_,_,rfl⟩
 |own i g=>rcases(dw k).2 with⟨_,_,_,e⟩|⟨_,_,_,_,_,e⟩<;>cases e
 |_=>exact ff k
theorem xF{S:SE}{X:Cx}(d:uw S Φ Ψ G X){i:Nat}{x:Str}{p q:Pos}{e:CE}{v:Expr}(P:Fy S i x=true)(k:aD S false e v=true)(R:Addr->Prop):
 PS X (.Assign [.Name x p] v q) (jw (tV X S.M R (Dy X.K (mo Ψ e)) (wE Φ G R e)) (c6 i)):=by
 have n:=ia d P;have a:=HZ d (B8 k) x p q.line;cases m:Q4 S x p v with
 |false=>rw[m]at a;exact lE d.nd n.1 n.2.1 ((snd Φ Ψ G e).e d.toXOk v k R) a n.2.2
 |true=>rw[m]at a;obtain⟨T,gs,h,pp,rfl⟩:=FQ m;obtain⟨ts,one,n',B,c,y,rfl⟩:=LG k;obtain⟨t,tg,r,E,f,p',o,U,rfl,j,O,l,Y,L⟩:=fJ (snd Φ Ψ G B) (snd Φ Ψ G c) (snd Φ Ψ G y) d.toXOk k R;cases U;rw[g9 rfl,xD];intro b s g H D I J;obtain⟨A,z,w⟩:=L b s g H I;exact wQ o (mask o S.N) d.nd n.1 n.2.1 d.calm O Y A z (λC u Z Q=>(w C u Z Q).2) a l n.2.2 b s g H D I (tE j g H _ J)
theorem LH(i:Nat)(e:CE):fM Φ Ψ G (.set i e):=by
 intro S X m l st k;obtain⟨x,p,v,q,rfl,h⟩:=gB k;rw[AN]at h;by_cases y:g8 S.M i=true
 .rw[Bz y]at h;simp only[AN]at h;obtain⟨I,⟨E,d⟩,C⟩:=h;have u:fH m=true->i≠0:=λz e=>by rw[z,e]at E;cases E
  have N:∀{t:Md},(i,t)∈S.M->(∀R,PS X (.Assign [.Name x p] v q) (jw (tV X (S.less i).M R (Dy X.K t) (wE Φ G R e)) (c6 i)))->VS X S.M m (.Assign [.Name x p] v q) (λD o=>wE Φ G D.ex e o λw=>D.nx (o.set i (some w))):=λ{t} J O=>Cg (M':=(S.less i).M) (te:=λR=>wE Φ G R e) O (λj=>B6 J (λm' T=>l.HY i _ _ T J)) B7 u;have L:uw (S.less i) Φ Ψ G X:=l.LF (S.less i).M λa b c B Q=>l.HY a b c (Qb.mp B).1 (Qb.mp Q).1;rcases dZ d with d|d
  .rw[AN]at d;refine N (kP d.1) λR=>?_;have:=xF L (p:=p) (q:=q) I C R;rw[g9 d.2]at this;exact this
  .rw[AN]at d;refine N (iZ d.2) λR=>?_;obtain⟨f,as,rfl⟩:=mW d.1;obtain⟨B,g,es,pp,rfl⟩:=ve L.toXOk C R;have n:=ia l I;exact lE l.nd n.1 n.2.1 B rfl n.2.2
 .rw[Bn y]at h;refine FL (te:=λR=>wE Φ G R e) (λR=>?_) (b6 (by simpa using y));refine PS.imp (xF l (p:=p) (q:=q) h.1 h.2 R)<|by rintro D σ H ⟨A,Y,o,P,S,U,p,k⟩;exact⟨A,Y,o,P,S,U,p,λw v Z pw s r=>k w v Z pw s (r.s S.dom)⟩
theorem LI(f:List Nat)(e:CE):fM Φ Ψ G (.Dv f e):=by
 intro S X m b w k;obtain⟨j,h,p,v,q,rfl,g⟩:=zv k;simp only[AN]at g;obtain⟨⟨⟨c,i⟩,n⟩,a⟩:=g;split at c;rotate_left
 .cases c
 rename_i xs hxs
 have r:PG X (.Tuple j h p) (gT X.K false f):=BW b.calm b.nd (by dsimp only[Lc];rw[hxs];rfl) (gA b c);have d:swappedStores [.Tuple j h p] v X.env=pure none:=by
  rcases dZ a with a|a
  .exact FG a _ _ _ _
  .obtain⟨t,i,x,rfl,l⟩:=cT a;exact Cb b (Bi l)
 exact KD (te:=λR=>wE Φ G R e) (λ{u} o=>An o r (FF _ _) d rfl) (qD i) λR=>(snd Φ Ψ G e).s b.toXOk n R
theorem mX{X:Cx}{a:List Nat}{x:Str}{b:List Str}(h:cN X a (x::b)):∃i r,a=i::r/\eG X i x/\cN X r b:=by
 cases a with
 |nil=>cases h
 |cons i r=>obtain⟨_,_,e,d,c⟩:=h;cases e;exact⟨i,r,rfl,d,c⟩
theorem FT{X:Cx}{a:List Nat}(h:cN X a []):a=[]:=by
 cases a with
 |nil=>rfl
 |cons i r=>obtain⟨_,_,e,_⟩:=h;cases e
theorem xG{X:Cx}{a:List Nat}{x y:Str}(h:cN X a [x,y]):∃i j,a=[i,j]/\eG X i x/\eG X j y:=by obtain⟨i,r,rfl,e,d⟩:=mX h;obtain⟨j,r,rfl,c,b⟩:=mX d;cases FT b;exact⟨i,j,rfl,e,c⟩
theorem zB{X:Cx}{a:List Nat}{x y z:Str}(h:cN X a [x,y,z]):∃i j k,a=[i,j,k]/\eG X i x/\eG X j y/\eG X k z:=by obtain⟨i,r,rfl,e,d⟩:=mX h;obtain⟨j,k,rfl,c,b⟩:=xG d;exact⟨i,j,k,rfl,e,c,b⟩
theorem nY{α:Type}{l:List α}(h:l.length=2):∃a b,l=[a,b]:=by rcases l with _|⟨a,_|⟨b,_|_⟩⟩<;>first|exact⟨_,_,rfl⟩|(simp at h;done)
theorem LJ{α:Type}{l:List α}(h:l.length=3):∃a b c,l=[a,b,c]:=by
 cases l with
 |nil=>cases h
 |cons a l=>obtain⟨b,c,rfl⟩:=nY (Tf h);exact⟨_,_,_,rfl⟩
theorem i8{b:List Expr}{x:Str}{c:List Str}(h:BO b=some (x::c)):∃p r,b=.Name x p::r/\BO r=some c:=by
 cases b with
 |nil=>cases h
 |cons e b=>
  cases e with
  |Name a p=>obtain⟨l,d,e⟩:=Iy.mp h;cases e;exact⟨_,_,rfl,d⟩
  |_=>exact nn h
theorem xH{b:List Expr}(h:BO b=some []):b=[]:=by
 cases b with
 |nil=>rfl
 |cons e b=>
  cases e with
  |Name a p=>obtain⟨l,c,e⟩:=Iy.mp h;cases e
  |_=>exact nn h
theorem xJ{a:List Expr}{x y:Str}(h:BO a=some [x,y]):∃p q,a=[.Name x p,.Name y q]:=by obtain⟨p,r,rfl,c⟩:=i8 h;obtain⟨q,r,rfl,b⟩:=i8 c;rw[xH b];exact⟨_,_,rfl⟩
theorem zC{a:List Expr}{x y z:Str}(h:BO a=some [x,y,z]):∃p q r,a=[.Name x p,.Name y q,.Name z r]:=by obtain⟨p,r,rfl,b⟩:=i8 h;obtain⟨q,s,rfl⟩:=xJ b;exact⟨_,_,_,rfl⟩
theorem FU{S:SE}{a vs:List Expr}{b:List Str}(h:MU S a vs=some (some b)):(a.length=2\/a.length=3)/\vs.length=a.length:=by
 unfold MU at h;split at h
 .cases h
 .rename_i c
  simp only[Yi,YQ,bne_iff_ne,not_or,Bool.not_eq_false,Pm,ne_eq,ZK]at c;exact c
theorem xK{b:List Expr}{a:List Str}(h:BO b=some a):b.length=a.length:=by
 induction a generalizing b with
 |nil=>rw[xH h];rfl
 |cons x a c=>obtain⟨p,r,rfl,d⟩:=i8 h;rw[D8,D8,c d]
theorem LK(Y:List Nat)(O:List CE):fM Φ Ψ G (.par Y O):=by
 intro S X m o st k;obtain⟨tg,kd,p,f,Wn,p',q,rfl,A⟩:=zw k;simp only[AN]at A;obtain⟨⟨C,k2⟩,k3⟩:=A;split at C;rotate_left
 .cases C
 rename_i xs hxs
 simp only[AN]at C;obtain⟨⟨⟨C,J⟩,B⟩,k6⟩:=C;have J:=Bi J;have B:=Bi B;obtain⟨r,Q⟩:=FU J;have P:=Cb o (k:=kd) (k2:=Wn) (p:=p) (p2:=p') J;have d:∀x∈xs,X.env.scope.names.lookup x=some .local:=λx hx=>by rw[o.nk];exact Pm.mp (Hc.mp k6 x hx)
 have T:=gA o C;refine KG (ta:=λR=>wA Φ G R O) (λ{tv} U=>?_) (qD k2) λR=>(kG Φ Ψ G O).1.a o.toXOk f k3 R;have K:∀{a b:Nat}{x y:Str},x≠y->X.N[a]?=some x->X.N[b]?=some y->a≠b:=λn E g e=>by rw[e,g]at E;exact n (He E).symm
 rcases r with r|r
 .obtain⟨x,y,rfl⟩:=nY ((xK hxs).symm.trans r);obtain⟨Z,p2,rfl⟩:=xJ hxs;obtain⟨i,j,rfl,t,s⟩:=xG T;obtain⟨a,b,rfl⟩:=nY (Q.trans r);refine PS.imp (Jg o.calm o.nd t.1 s.1 (K (by simpa using B) t.1 s.1) (d x (by simp)) (d y (by simp)) U P) λD I H h=>?_;have e:(λ(f:List V) l=>f.length=[i,j].length/\D.nx (bf I [i,j] f) l)=λf l=>∃v w,f=[v,w]/\D.nx ((I.set i (some v)).set j (some w)) l:=by
   funext f l;refine propext ⟨?_,?_⟩
   .rintro⟨E,g⟩;obtain⟨v,w,rfl⟩:=nY E;exact⟨v,w,rfl,g⟩
   .rintro⟨v,w,rfl,g⟩;exact⟨rfl,g⟩
  rw[e]at h;exact h
 .obtain⟨x,y,z,rfl⟩:=LJ ((xK hxs).symm.trans r);obtain⟨Z,p2,p3,rfl⟩:=zC hxs;obtain⟨i,j,A,rfl,t,s,L⟩:=zB T;obtain⟨a,b,c,rfl⟩:=LJ (Q.trans r);have M:(x≠y/\x≠z)/\y≠z:=by simp only[NA,Fm,Y3,or_false,not_or]at B;exact⟨B.1,B.2.1⟩
  refine PS.imp (FJ o.calm o.nd t.1 s.1 L.1 (K M.1.1 t.1 s.1) (K M.1.2 t.1 L.1) (K M.2 s.1 L.1) (d x (by simp)) (d y (by simp)) (d z (by simp)) U P) λD I H h=>?_;have e:(λ(f:List V) l=>f.length=[i,j,A].length/\D.nx (bf I [i,j,A] f) l)=λf l=>∃v w u,f=[v,w,u]/\D.nx (((I.set i (some v)).set j (some w)).set A (some u)) l:=by
   funext f l;refine propext ⟨?_,?_⟩
   .rintro⟨E,g⟩;obtain⟨v,w,u,rfl⟩:=LJ E;exact⟨v,w,u,rfl,g⟩
   .rintro⟨v,w,u,rfl,g⟩;exact⟨rfl,g⟩
  rw[e]at h;exact h
theorem i9{S:SE}{i:Nat}{o:Expr}(h:gf S i o=true)(a:Str)(env:Env):attributeBase o a env (eval o env)=eval o env:=by
 cases o with
 |Name x p=>rfl
 |_=>exact ff h
theorem LL(i:Nat)(e:CE):fM Φ Ψ G (.app i e):=by intro S X m g p k;obtain⟨o,r,u,v,t,q,rfl,c⟩:=mV k;simp only[AN]at c;obtain⟨⟨⟨⟨a,j⟩,h⟩,f⟩,d⟩:=c;have a:=Bi a;subst a;have b:=aB (aO (.inl d)) [] X.env;refine KI (te:=λR=>wE Φ G R e) (λ{n} l=>?_) (kP h) λR=>(snd Φ Ψ G e).s g.toXOk d R;exact kK (AF XU YT YS gx (cL g.toXOk f) (aU l bV b) (i9 f _ _) (by rw[b];rfl) j b rfl) rfl
theorem LM(i:Nat)(a e:CE):fM Φ Ψ G (.put i a e):=by
 intro S X m b y k;obtain⟨o,j,p,v,q,rfl,c⟩:=zx k;simp only[AN]at c;obtain⟨⟨⟨⟨l,h⟩,g⟩,f⟩,d⟩:=c;have t:∀u,assign (.Subscript o j p) X.env u=(do
  let ov<-holding [u] (eval o X.env)
  let iv<-holding [u,ov] (eval j X.env)
  standAt p
  holding [u,ov,iv] (setItem ov iv u)
  release [u,ov,iv] []):=by
  intro u;cases j with
  |Slice _ _ _ _=>exact ff g
  |_=>rfl
 refine KL (te:=λR=>wE Φ G R e) (t1:=λR=>wE Φ G R a) (λ{w x} n r=>?_) (kP l) (λR=>(snd Φ Ψ G e).s b.toXOk d R) λR=>(snd Φ Ψ G a).s b.toXOk f R;exact An (pos:=q) n (Jf (cL b.toXOk h) r set_list t) (B9 _ _) (Ca _) rfl
theorem Ia:∀{S:SE}{c:CE}{e:Expr},jO S c e=true->noStar e=true:=λ{S c e} h=>by
 cases e with
 |Starred v p=>
  have f:aD S false c (.Starred v p)=true->False:=λz=>by have:=aO (.inl z);exact ff this
  cases c<;>first|exact ff h;done|exact(f h).elim
 |_=>rfl
theorem vg{S:SE}:∀{c:List CE}{b:List Expr},mU S c b=true->b.all noStar=true
 |[],b,h=>by rw[Hb.mp h];rfl
 |a::c,[],h=>by cases h
 |a::c,e::b,h=>by have h:=a2 h;rw[JE,Ia h.1,vg h.2];rfl
theorem cH{S:SE}{X:Cx}(b:XOk S Φ Ψ G X)(R:Addr->Prop){c:CE}{v:Expr}(e:jO S c v=aD S false c v)(d:wP Φ G R c=λa Q=>wE Φ G R c a λw=>Q w a)(k:jO S c v=true):VP X S.M R v (wP Φ G R c):=by rw[e]at k;rw[d];exact OU ((snd Φ Ψ G c).s b k R)
mutual
theorem dh{S:SE}{X:Cx}(d:XOk S Φ Ψ G X)(R:Addr->Prop):∀(e:CE)(v:Expr),jO S e v=true->VP X S.M R v (wP Φ G R e)
 |.pop i,v,k=>by obtain⟨o,mt,ap,cp,rfl,h⟩:=u6 k;simp only[AN]at h;obtain⟨⟨⟨j,s⟩,m⟩,z⟩:=h;have j:=Bi j;subst j;exact KR (kP m) (cL d z) (i9 z _ _) s
 |.bin op a b,v,k=>by obtain⟨l,o,r,p,rfl,h⟩:=jK k;simp only[AN]at h;obtain⟨⟨j,s⟩,m⟩:=h;have j:=Bi j;subst j;exact KU (dh d R a l s) (dh d R b r m)
 |.cmp op a b,v,k=>by obtain⟨l,o,r,p,rfl,h⟩:=o9 k;simp only[AN]at h;obtain⟨⟨⟨⟨j,z⟩,A⟩,s⟩,m⟩:=h;have j:=Bi j;subst j;exact KW d.un (uB r (op:=op) (by simpa using z) (by simpa using A)) (dh d R a l s) (dh d R b r m)
 |.call f y,v,k=>by
  obtain⟨x,q,u,p,rfl,h⟩:=aI k;simp only[AN]at h;obtain⟨⟨⟨⟨⟨j,s⟩,m⟩,A⟩,B⟩,z⟩:=h;obtain⟨D,C,I⟩:=bw d s;obtain⟨U,n,J,T,F,O,Q⟩:=d.fns f x (Pm.mp j) (by simpa using B);have F:cS X.prog X.w X.K X.mg X.base J U n (uZ X.K n (Ψ f) (Φ f)):=by rw[<-d.DC]at A;cases P:Ψ f<;>rw[P]at A F<;>first|exact F|exact ff A
  have t:=vg z;cases u with
  |nil=>exact ff m
  |cons e u=>rw[JE,AN]at t;exact Fb (p:=q) (pos:=p) F O D T Q (eY d R y _ z) C (aB t.1 _ _) (cz t.2 _ _)
 |.blt b y,v,k=>by
  obtain⟨x,q,u,p,rfl,h⟩:=aI k;simp only[AN]at h;obtain⟨⟨⟨⟨⟨⟨j,s⟩,m⟩,z⟩,A⟩,L⟩,B⟩:=h;have j:=Bi j;obtain⟨D,C,I⟩:=bw d s;have hz:=d.rR x (VD.mp m);have t:=vg B;cases u with
  |nil=>exact ff L
  |cons e u=>
   rw[JE,AN]at t;rcases tM d.calm b (by simpa using A)with⟨N,E,H⟩|⟨N,E,H⟩
   .exact KY H D hz (by rw[j];exact E) (eY d R y _ B) I C (aB t.1 _ _) (cz t.2 _ _)
   .exact KZ H D hz (by rw[j];exact E) (eY d R y _ B) I C (aB t.1 _ _) (cz t.2 _ _)
 |.ix a b,v,k=>by obtain⟨l,r,p,rfl,h⟩:=cU k;simp only[AN]at h;obtain⟨⟨j,s⟩,m⟩:=h;exact OV (qA j) (dh d R a l s) (dh d R b r m)
 |.lst y,v,k=>by obtain⟨u,p,rfl,h⟩:=mK k;exact K6 (eY d R y u h)
 |.tup y,v,k=>by obtain⟨u,kd,p,rfl,h⟩:=cT k;exact K7 (eY d R y u h)
 |.and _,v,k=>by cases k
 |.or _,v,k=>by cases k
 |.var i,v,k=>cH d R rfl rfl k
 |.int i,v,k=>cH d R rfl rfl k
 |.bl i,v,k=>cH d R rfl rfl k
 |.str i,v,k=>cH d R rfl rfl k
 |.aM,v,k=>cH d R rfl rfl k
 |.wR n,v,k=>cH d R rfl rfl k
 |.glob g,v,k=>cH d R rfl rfl k
 |.neg a,v,k=>cH d R rfl rfl k
 |.not a,v,k=>cH d R rfl rfl k
 |.l6 p q a b c,v,k=>cH d R rfl rfl k
 |.sl a b c,v,k=>cH d R rfl rfl k
 |.comp Z one n i c x,v,k=>cH d R rfl rfl k
 |.jq y,v,k=>cH d R rfl rfl k
 |.qg a,v,k=>cH d R rfl rfl k
 |.rev a,v,k=>cH d R rfl rfl k
 |.JV a b,v,k=>cH d R rfl rfl k
 |.own i Y,v,k=>cH d R rfl rfl k
 |.wU is a,v,k=>cH d R rfl rfl k
theorem eY{S:SE}{X:Cx}(d:XOk S Φ Ψ G X)(R:Addr->Prop):∀(c:List CE)(b:List Expr),mU S c b=true->E6 X S.M R b (IE Φ G R c)
 |[],b,k=>by rw[Hb.mp k];exact E7
 |a::c,[],k=>by cases k
 |a::c,e::b,k=>by have k:=a2 k;exact BD (aB (Ia k.1) _ _) (dh d R a e k.1) (eY d R c b k.2)
end
theorem xM{v:Expr}(a:xE v=true)(b:BZ v=true)(t:Option Expr)(l:Nat)(env:Env):swapsWith v t l env=pure false:=by
 cases v with
 |ListComp _ _ _ _=>exact ff b
 |SetComp _ _ _ _=>exact ff a
 |DictComp _ _ _ _ _=>exact ff a
 |_=>rfl
theorem Uy{v:Expr}(h:vd v=true):xE v=true:=by cases v<;>first|rfl|exact ff h
theorem FW(i:Nat):fM Φ Ψ G (.drop i):=by intro S X m e f k;obtain⟨v,q,rfl,a⟩:=tQ k;simp only[AN]at a;obtain⟨⟨d,c⟩,b⟩:=a;exact E9 (tt:=λR=>wP Φ G R (.pop i)) λR=>kK (dh e.toXOk R _ v b) (xM (Uy c) d _ _ _)
theorem FY(j:Nat)(e:CE):fM Φ Ψ G (.Bp j e):=by intro S X m a o k;obtain⟨x,p,v,q,rfl,b⟩:=gB k;simp only[AN]at b;obtain⟨⟨⟨⟨h,g⟩,d⟩,c⟩,f⟩:=b;have n:=ia a h;exact E8 (tt:=λR=>wP Φ G R e) (λ{l} i=>lE a.nd n.1 n.2.1 i (xM (Uy c) d _ _ _) n.2.2) (b6 (by simpa using g)) λR=>dh a.toXOk R _ v f
theorem LN(e:CE):fM Φ Ψ G (.ret e):=by
 intro S X m f h k;rcases Cc k with⟨v,q,rfl,a⟩|⟨q,rfl,a⟩
 .unfold Pz at a;rw[AN]at a;obtain⟨c,a⟩:=a;have c:fH m=false:=by simpa using c
  rcases dZ a with a|d
  .rcases dZ a with a|a
   .rw[AN]at a;have g:m=.s:=by cases m<;>first|rfl|exact ff a.1
    rcases dZ a.2 with b|b
    .exact BC (te:=λR=>wE Φ G R e) (λR=>(snd Φ Ψ G e).e (f.toXOk.LF []) v b R) (.inr g) c
    .subst g;exact E4 (te:=λR=>wE Φ G R e) λR=>(snd Φ Ψ G e).s f.toXOk b R
   .rw[AN]at a;exact BC (te:=λR=>wE Φ G R e) (λR=>vf (f.toXOk.LF []) a.2 R) (.inl (jN a.1)) c
  .unfold Py at d;split at d
   .rename_i i hv
    obtain rfl:=zA hv;have b:=a2 d;exact E5 (cL f.toXOk b.2) (iZ b.1) c
   .exact ff d
 .rw[AN]at a;obtain rfl:=zy a.1;cases m<;>try exact ff a.2
  exact FN
theorem LO:fM Φ Ψ G .brk:=by
 intro S X m b a k;cases a with
 |Break _=>exact KC
 |_=>exact ff k
theorem PB(c:CE){a b:List CS}(l:gR Φ Ψ G a)(j:gR Φ Ψ G b):fM Φ Ψ G (.iff c a b):=by intro S X m d n k;obtain⟨t,x,y,q,rfl,e⟩:=Ce k;simp only[AN]at e;obtain⟨⟨⟨i,h⟩,g⟩,f⟩:=e;exact OS (tc:=λR=>wE Φ G R c) (λR=>(snd Φ Ψ G c).t d.toXOk t i h R) (l d x g) (j d y f)
theorem LP(c:CE){b:List CS}(h:gR Φ Ψ G b):fM Φ Ψ G (.uq c b):=by intro S X m d i k;obtain⟨t,x,q,rfl,a⟩:=Cf k;simp only[AN]at a;obtain⟨⟨g,f⟩,e⟩:=a;exact KN ((snd Φ Ψ G c).t d.eN.toXOk t g f _) (h d.eN x e)
theorem LQ(h:List Nat)(one:Bool)(e:CE){b:List CS}(t:gR Φ Ψ G b):fM Φ Ψ G (.fr h one e b):=by
 intro S X m c u k;obtain⟨f,i,x,q,rfl,a⟩:=i7 k;unfold Ux at a;split at a;rotate_left
 .cases a
 rename_i o xs BX
 simp only[AN]at a;obtain⟨⟨⟨⟨⟨⟨d,s⟩,r⟩,n⟩,g⟩,l⟩,j⟩:=a;have d:=Pm.mp d;subst d;refine KO (ti:=λR=>wE Φ G R e) c.calm (qD r) ((snd Φ Ψ G e).i c.eN.toXOk f false i (by rw[l];rfl) (λz=>?_) _) (BW (X:=X.eN) c.calm c.eN.nd BX (gA c.eN s)) (t c.eN x j) (gh n _);have:one=false:=by rw[z]at g;simpa using g
 subst this;cases f with
 |Tuple v a p=>exact⟨_,_,_,rfl⟩
 |Name y p=>cases BX
 |_=>exact nn BX
theorem FZ:gR Φ Ψ G []:=by intro S X m b a k;rw[Hb.mp k];exact EY
noncomputable def Ic(Φ:Nat->aX)(Ψ:Nat->Md)(G:Nat->W):CS->Prop
 |.MQ _ b=>gR Φ Ψ G b
 |_=>True
theorem F3{S:SE}{m:Md}{s:CS}{a:List CS}{st:List Stmt}(k:d7 S Ψ m (s::a) st=true):(∃c b,s=.MQ c b/\(a.isEmpty&&(!fH m||!c.contains 0)&&d7 (S.lend c) Ψ m b st)=true)\/B4 (λe=>B5 S Ψ m s e) (λd=>d7 S Ψ m a d) st=true:=by
 cases s<;>first|exact .inr k|exact .inl ⟨_,_,rfl,k⟩
theorem Cm{s:CS}{c:List CS}(h:fM Φ Ψ G s/\Ic Φ Ψ G s)(v:gR Φ Ψ G c):gR Φ Ψ G (s::c):=by
 intro S X m a d k;rcases F3 k with⟨u,b,rfl,o⟩|k
 .obtain⟨n,p⟩:=a2 o;obtain⟨l,f⟩:=a2 n;cases Hb.mp l;have q:fH m=true->aG S.M 0->aG (S.lend u).M 0:=by rintro e ⟨g,A⟩;rw[e]at f;exact⟨g,Qb.mpr ⟨A,f⟩⟩
  have w:gR Φ Ψ G b:=h.2;exact E2 (w (a.LF _ λi m j y x=>a.HY i m j (cW _ y) (cW _ x)) d p) cW q
 have h:fM Φ Ψ G s:=h.1;cases d with
 |nil=>exact ff k
 |cons e r=>
  have k:B5 S Ψ m s e=true/\d7 S Ψ m c r=true:=a2 k;cases c with
  |nil=>
   have:r=[]:=by have:=k.2;exact Hb.mp this
   subst this;exact EZ (h a e k.1)
  |cons t B=>have z:=BA (h a e k.1) (v a r k.2);exact z
theorem LR(i:Nat)(e:CE):fM Φ Ψ G (.Ol i e):=by intro S X m g p k;obtain⟨o,r,t,v,s,q,rfl,c⟩:=mV k;simp only[AN]at c;obtain⟨⟨⟨⟨a,j⟩,h⟩,f⟩,d⟩:=c;have a:=Bi a;subst a;have b:=aB (aO (.inl d)) [] X.env;refine KJ (te:=λR=>wE Φ G R e) (λ{n} l=>?_) (iZ h) λR=>vf g.toXOk d R;exact kK (AF XU YT YS gx (cL g.toXOk f) (aU l bV b) (i9 f _ _) (by rw[b];rfl) j b rfl) rfl
theorem LS(i:Nat)(j:List Nat)(m0:Md)(ts:List Nat)(one:Bool)(n:Nat)(L c e:CE):fM Φ Ψ G (.Om i j m0 ts one n L c e):=by
 intro S X m o st k;obtain⟨x,p,v,q,rfl,kk⟩:=gB k;simp only[AN]at kk;obtain⟨⟨⟨k0,k1⟩,k2⟩,U⟩:=kk;have O:uw (S.lend j) Φ Ψ G X:=o.LF (S.lend j).M λa b c h1 h2=>o.HY a b c (cW _ h1) (cW _ h2);have t:=ia o k0;have em:=jN k2;have l:=HZ O (B8 U) x p q.line;obtain⟨z,tg,u,Z,f,pp,xs,rfl,rfl,hlt,_,_,_,_⟩:=fJ (snd Φ Ψ G L) (snd Φ Ψ G c) (snd Φ Ψ G e) O.toXOk U λ_=>False;refine K4 (M':=(S.lend j).M) (ti:=λR=>wE Φ G R L) (tc:=wE Φ G (λ_=>False) c) (te:=wE Φ G (λ_=>False) e) (λR=>?_) (b6 (by simpa using k1)) hlt cW;obtain⟨elt',Xv,Y,ifs',J,p',d,e1,e2,hlt',ho,y,HB,hr⟩:=fJ (snd Φ Ψ G L) (snd Φ Ψ G c) (snd Φ Ψ G e) O.toXOk U R;cases e1;rw[e2];intro g s E H D I hw;obtain⟨q1,q2,q3⟩:=hr g s E H I;have q4:∀C T B fp,PE (aK X f C d (mask d (S.lend j).N) T B fp) z (OX X.K (up (S.lend j).M d.length) m0 (wE Φ G (λ_=>False) e)):=λC T B fp=>by obtain⟨⟨a1,a2⟩,_⟩:=q3 C T B fp;have:=vf a1 a2 λ_=>False;rw[em]at this;exact PE.imp this<|by rintro E H Q ⟨A,B,ε,P,S',h,k⟩;exact⟨A,B,ε,P,S',.none,h,λw v H' pw s r=>k w v H' pw s r⟩
 cases hb:Q4 (S.lend j) x p (.ListComp z [⟨tg,u,Z,0⟩] f pp)with
 |false=>rw[hb]at l;exact lE o.nd t.1 t.2.1 (wO d (mask d (S.lend j).N) o.calm ho HB q1 q2 q4 y) l t.2.2 g s E H D I hw
 |true=>rw[hb]at l;exact wQ d (mask d (S.lend j).N) o.nd t.1 t.2.1 o.calm ho HB q1 q2 q4 l y t.2.2 g s E H D I hw
theorem Cn{e:CE}{i:Int}(h:Su e=some i):e=.int i:=by
 cases e with
 |int j=>cases h;rfl
 |_=>exact nn h
theorem LU{e:CE}{x0:W}(h:cst e=some x0)(R:Addr->Prop)(c:Ev)(Q:W->Prop)(q:Q x0):wE Φ G R e c Q:=by
 cases e with
 |int i=>cases h;exact q
 |tup l=>
  match l,h with
  |[a,b],h=>obtain⟨i,f,h⟩:=Tq.mp h;obtain⟨j,d,h⟩:=Tq.mp h;cases h;rw[Cn f,Cn d];exact⟨by show 2<=sizeLine;decide,q⟩
  |[],h=>exact nn h
  |[_],h=>exact nn h
  |_::_::_::_,h=>exact nn h
 |_=>exact nn h
theorem LV(j a b:Nat)(e:CE):fM Φ Ψ G (.Oo j a b e):=by
 intro S X m r st k;obtain⟨tg,i,x,q,rfl,y⟩:=i7 k;simp only[AN]at y;obtain⟨⟨⟨⟨⟨⟨⟨⟨f,T⟩,R⟩,P⟩,O⟩,N⟩,L⟩,K⟩,n⟩:=y;split at f;rotate_left
 .cases f
 rename_i o xs BX
 rw[AN]at f;have Z:o=false:=by simpa using f.1
 subst Z;obtain⟨st,rfl,n⟩:=cy n;obtain⟨J,mt,ap,v,cp,I,rfl,z⟩:=mV n;simp only[AN]at z;obtain⟨⟨⟨t,b2⟩,C⟩,B⟩:=z;have t:=Bi t;subst t;obtain⟨x0,E⟩:=PP.mp K;have p:=aB (aO (.inl B)) [] X.env;have g:=r.eN;have:=K5 (X:=X) (M:=S.M) (m:=m) (st:=.Expr (.Call (.Attribute J "append" ap) [v] [] cp) I) (x0:=x0) (te:=wE Φ G (λ_=>False) e) (pos:=q) r.calm (b6 (by simpa using T)) (b6 (by simpa using R)) (Bi P) (iZ O) (cL g.toXOk L) (BW (X:=X.eN) r.calm g.nd BX (gA g f.2)) ((snd Φ Ψ G e).s g.toXOk B _) (λ{tv} U=>kK (AF XU YT YS gx (cL g.toXOk C) (aU U bV p) (i9 C _ _) (by rw[p];rfl) b2 p rfl) rfl) (gh N _) (λc Q Y=>LU E _ c Q Y);refine PS.imp this ?_;rintro D σ H ⟨A,H0,c,d,S',er,hz,h,k⟩;refine⟨A,H0,c,d,S',er,hz,?_,k⟩;have h:(match cst e with|some x0=>(match look c j with|some (.lst l)=>(∀w∈l,∃u o,w=.tup [.lst u,o]/\u.length<sizeLine)/\a<c.length/\d.nx (((c.set a none).set b none).set j (some (.lst (l.map (l9 x0)))))|_=>False)|none=>False):=h;rw[E]at h;exact h
theorem LW(j a b t y:Nat)(e:CE):fM Φ Ψ G (.fld j a b t y e):=by
 intro S X m p H k;obtain⟨tg,i,x,q,rfl,u⟩:=i7 k;simp only[AN]at u;obtain⟨⟨⟨⟨⟨⟨⟨⟨⟨d,Q⟩,P⟩,O⟩,N⟩,L⟩,K⟩,J⟩,I⟩,BU⟩:=u;split at d;rotate_left
 .cases d
 rename_i o xs BX
 rw[AN]at d;have T:o=false:=by simpa using d.1
 subst T;obtain⟨d1,d2,d3,d4,d5⟩:=Bi L;obtain⟨H,rfl,Td⟩:=cy BU;obtain⟨MT,i2,x2,q2,rfl,l⟩:=i7 Td
 try dsimp only at l
 simp only[AN]at l;obtain⟨⟨⟨b1,b2⟩,b3⟩,b4⟩:=l;obtain⟨z,zp,rfl,Wo⟩:=bS b1;obtain⟨rn,rq,es,rp,rfl,D⟩:=aI b3;simp only[AN]at D;obtain⟨⟨⟨r,c2⟩,c3⟩,Wq⟩:=D;have r:=Bi r;subst r;obtain⟨s,rfl,f⟩:=cy Wq;have f:gf S b s=true:=f;obtain⟨sx,rfl,Wr⟩:=cy b4;obtain⟨n,np,v,nq,rfl,C⟩:=gB Wr;simp only[AN]at C;obtain⟨⟨⟨f1,f2⟩,Z⟩,B⟩:=C;have c:=p.eN;have h:=ia c f1;have g:=ia c Wo;have A:XOk (S.lend [j]) Φ Ψ G X.eN:=⟨c.hN,c.nd,c.calm,c.un,c.nk,c.fns,c.Fj,c.DC,c.DE,c.rR,c.kit⟩;have w:=(snd Φ Ψ G e).e A v B (λ_=>False);rw[g9 Z]at w;obtain⟨Y,_,_⟩:=bw c.toXOk c2;have E:starEach [s] X.eN.env=[(false,eval s X.eN.env)]:=by obtain⟨y',z',rfl,_⟩:=bS f;rfl
 have U:∀x,x∈(S.lend [j]).M↔x∈S.M/\x.1≠j:=λx=>by show x∈S.M.filter _↔_;rw[Qb];simp
 obtain⟨cf,Ws,rfl⟩:=mW f2;obtain⟨_,cg,Xw,cp,rfl⟩:=ve A B (λ_=>False);exact K8 (X:=X) (M:=S.M) (M':=(S.lend [j]).M) (m:=m) (te:=wE Φ G (λ_=>False) (.call cf Ws)) p.calm (b6 (by simpa using Q)) (b6 (by simpa using P)) (b6 (by simpa using O)) (b6 (by simpa using N)) d1 d2 d3 d4 d5 (iZ K) U (cL c.toXOk I) (BW (X:=X.eN) p.calm c.nd BX (gA c d.2)) (oG Y (c.rR _ (by simpa using c3)) (aU (cL c.toXOk f) bV (by rw[E];rfl)) E) (wm c.nd g.1 g.2.1 g.2.2) w (λ{tv} R=>lE c.nd h.1 h.2.1 R rfl h.2.2) (gh J _) (gh b2 _)
variable(Φ Ψ G)
mutual
theorem PC:∀s:CS,fM Φ Ψ G s/\Ic Φ Ψ G s
 |.set i e=>⟨LH i e,trivial⟩
 |.Dv d e=>⟨LI d e,trivial⟩
 |.par d h=>⟨LK d h,trivial⟩
 |.app i e=>⟨LL i e,trivial⟩
 |.put i k e=>⟨LM i k e,trivial⟩
 |.drop i=>⟨FW i,trivial⟩
 |.Bp j e=>⟨FY j e,trivial⟩
 |.ret e=>⟨LN e,trivial⟩
 |.iff c a b=>⟨PB c (kq a) (kq b),trivial⟩
 |.uq c b=>⟨LP c (kq b),trivial⟩
 |.fr d one f b=>⟨LQ d one f (kq b),trivial⟩
 |.brk=>⟨LO,trivial⟩
 |.Ol i e=>⟨LR i e,trivial⟩
 |.Om i g m d one n f c e=>⟨LS i g m d one n f c e,trivial⟩
 |.fld j a b t y e=>⟨LW j a b t y e,trivial⟩
 |.Oo j a b e=>⟨LV j a b e,trivial⟩
 |.MQ g b=>⟨λ_ _ k=>(by cases k),kq b⟩
theorem kq:∀a:List CS,gR Φ Ψ G a
 |[]=>FZ
 |s::a=>Cm (PC s) (kq a)
end
end
structure Tab(P:Program)(w:World)(K:Frag)(mg:Str->Option Value)(base:Heap)(fn gn zn:List Str)(md:List Md)(mt:List (Nat×Nat))(Φ:Nat->aX)(G:Nat->W)(k:Nat):Prop where
 fns:∀(j:Nat)(x:Str),fn[j]?=some x->mt.any (·.1==j)=false->∃fv n k',mg x=some fv/\cS P w K mg base k' fv n (ur K n (iV md j) (Φ j))/\k'<=k/\∀ws P R,Φ j ws P R->ws.length=n
 Fj:∀(j g:Nat)(x:Str),fn[j]?=some x->(j,g)∈mt->∃f fd ps n k',(∀C,G g=.cls C->Meth K C x f)/\Binds K fd ps []/\bJ P w K mg base (iO P w) k' f fd ps (ur K n (iV md j) (Φ j))/\k'<=k/\∀ws P R,Φ j ws P R->ws.length=n
 DE:∀(j:Nat)(x:Str),gn[j]?=some x->∃u v,mg x=some u/\RelV v u/\∀B H,Rep K B H (G j) v
 rR:∀x∈zn,mg x=none
 kit:tw K
 LD:∀j x C,gn[j]?=some x->G j=.cls C->R1 K C
noncomputable def ay(n:Nat)(a:List W):Ev:=a.map some++Aq (n -a.length) none
noncomputable def fall:Md->(W->Prop)->Ev->Prop
 |.s,P,_=>P .aM
 |.io _,P,a=>match look a 0 with
  |some b=>P (.tup [.aM,b])
  |none=>False
 |_,_,_=>False
section
variable{K:Frag}{A:Addr->Prop}{H:Hp}{N:List Str}{ws:List W}{vs:List V}{M:Ms}
theorem mY{i:Nat}{w:W}(a:ws.length<=i)(e:look (ay N.length ws) i=some w):False:=by
 rw[aN]at e;unfold ay at e;rw[Jn (by simp;omega),Tb]at e;split at e
 .cases e
 .cases e
theorem zD{i:Nat}{w:W}(h:ai K A H ws vs)(e:look (ay N.length ws) i=some w):∃v,(start N vs)[i]?=some (some v)/\Rep K A H w v:=by
 have f:=h.len;by_cases a:i<ws.length
 .rw[aN]at e;unfold ay at e;rw[OK (by simpa using a),Dx]at e;obtain⟨d,c,b⟩:=Iy.mp e;cases b;obtain⟨v,b,r⟩:=h.get c;refine⟨v,?_,r⟩;unfold L2.start;rw[OK (by simp;lia),Dx,b];rfl
 .exact(mY (by lia) e).elim
theorem tR(h:ai K A H ws vs)(d:Dom A H)(g:∀i m,(i,m)∈M->ws.length<=i)(b:∀i m a,(i,m)∈M->(i,a)∈M->m=a):SR K M ⟨A,A,none⟩ H (start N vs) H (ay N.length ws):=by have f:=h.len;refine⟨by simp[L2.start,ay,f],λi w k e=>zD h e,ao.refl _,d,(λv e=>by cases e),λ_=>[],⟨b,λi m w c e=>(mY (g i m c) e).elim,λ_ _ _=>rfl,λ_ _=>XY,(λi j p _ _ z=>by cases z),(λi p _ z=>by cases z),(λi p _ z=>by cases z),λp=>⟨.inl,λz=>z.elim id<|by rintro⟨_,_,z⟩;cases z⟩⟩⟩
open Classical in
end
theorem Co{M:Ms}(h:(M.map (·.1)).Nodup):∀i m c,(i,m)∈M->(i,c)∈M->m=c:=by
 induction M with
 |nil=>intro i m c a;cases a
 |cons x M d=>
  obtain⟨j,k⟩:=x;rw[Kk,NA]at h;intro i m c a b;rcases Fm.mp a with a|a
  .rcases Fm.mp b with b|b
   .cases a;cases b;rfl
   .cases a;exact(h.1 (IR.mpr ⟨_,b,rfl⟩)).elim
  .rcases Fm.mp b with b|b
   .cases b;exact(h.1 (IR.mpr ⟨_,a,rfl⟩)).elim
   .exact d h.2 i m c a b
section
variable{P:Program}{w:World}{K:Frag}{mg:Str->Option Value}{base:Heap}{x qual:Str}{st:Stmt}{f:Addr}{fd:FuncData}{N ps:List Str}{k:Nat}{fn gn zn:List Str}{md:List Md}{mt:List (Nat×Nat)}{Φ:Nat->aX}{G:Nat->W}
theorem vh{M:Ms}{b:Value}{A:Around}{a:List Env}{s:Shared}{H:Hp}{E:XK}(t:dW N ps (ak st))(T:Tab P w K mg base fn gn zn md mt Φ G k)(q:bW k (gP P w K mg base N qual (ak st) f b A a s H E).A)(un:∀i m r,(i,m)∈M->(i,r)∈M->m=r):
 uw ⟨N,(ak st).names,M,fn,gn,zn,md,mt⟩ Φ (iV md) G (gP P w K mg base N qual (ak st) f b A a s H E):=
 {hN:=rfl,nd:=t.nd,calm:=rfl,un:=q.units,nk:=λ_=>rfl,
  fns:=λj x e h=>by obtain⟨v,n,p,o,l,d,c⟩:=T.fns j x e h;exact⟨v,n,p,o,l,q.mono d,c⟩
  Fj:=λj g x e h=>by obtain⟨f,fd,ps,n,p,o,l,d,c,u⟩:=T.Fj j g x e h;exact⟨f,fd,ps,n,p,o,l,d,q.mono c,u⟩
  DC:=rfl,DE:=T.DE,rR:=T.rR,kit:=T.kit,
  bk:=by show(if(ak st).kind.isAnnotationScope then ScopeKind.function else(ak st).kind)=_;rw[t.kind];rfl
  MV:=λ_=>rfl,LD:=T.LD,HY:=un}
theorem LX(F:z3 K x qual st f fd)(O:dW N ps (ak st))(T:Tab P w K mg base fn gn zn md mt Φ G k)(b:List CS)(M:Ms)(m:Md)(t:aX)(hM:M.all (λi=>decide (ps.length<=i.1))=true)(hu:(M.map (·.1)).Nodup)(d:fH m=false)
 (g:d7 ⟨N,(ak st).names,M,fn,gn,zn,md,mt⟩ (iV md) m b (aR st)=true)(B:∀c P R,t c P R->c.length=ps.length)
 (hp:∀c P R,t c P R->wSs Φ G b ⟨fall m P,P,λ_=>False,λ_=>False,R⟩ (ay N.length c)):bJ P w K mg base (iO P w) (k+1) f fd ps (uZ K ps.length m t):=by
 refine z3.R3 F O (by rintro vs H Q E ⟨A,c,P,R,p,o,_⟩;rw[o.len,p]) λcdv A n s H vs Q E hr hz=>?_;obtain⟨U,c,u,R,p,o,h3,h4,L,J⟩:=hz;have y:=Co hu;refine⟨_,kq Φ (iV md) G b (vh O T hr y) (aR st) g,⟨U,U,none⟩,H,ay N.length c,⟨fall m u,u,λ_=>False,λ_=>False,R⟩,tR o h3 (λi m hi=>?_) y,⟨E,HA,λC j rc l=>J C j rc l,λe Z S s1 h' a C h I hx q=>wM e Z S s1 h' a C h I hx (J C S q.1 q.2)⟩,(by rw[d];rfl),hp c u R h4,⟨λA' ε' Y j ea eb D S'=>?_,λw v j hw l r=>?_,λ_ _ _ _ _ _ z=>z.elim,λ_ _ _ _ _ _ z=>z.elim⟩⟩
 .rw[p];exact Bi (Hc.mp hM (i,m) hi)
 .cases m with
  |s=>exact L .aM .aM j D S'.sm (.of (by dsimp only[Rep]))
  |io _=>cases d
  |_=>exact D.elim
 .cases m with
  |io _=>cases d
  |_=>exact L w v j hw l r
end
end VL
namespace L2
open PySem PySem.Spec PyProof.Rows
abbrev rv(as:List (Addr×Rat)):List V:=as.map λx=>V.ref x.1
abbrev rq(as:List (Addr×Rat)):List Rat:=as.map λx=>x.2
section
variable{X:Cx}{H:Hp}
end
theorem zE{α:Type}{a:List α}{x:α}(h:a.getLast?=some x):jo a (-1)=some x:=by
 have c:a≠[]:=by intro z;rw[z]at h;cases h
 have b:0<a.length:=Hm.mpr c;unfold jo;have e:uh a.length (-1)=some (a.length -1):=by unfold uh;rw[Bn (by decide),Bz (by lia)];congr 1;lia
 rw[e];show a[a.length -1]?=_;rw[<-h,YL]
end L2
namespace VL
open PySem PySem.Spec
open PyProof.Rows hiding St
open L2
section
variable{K:Frag}{A:Addr->Prop}{H H':Hp}{v:V}{p:Addr}{r:Rat}{rs:List Rat}
theorem PD{a b:W}{vs:List V}(h:ai K A H [a,b] vs):∃x y,vs=[x,y]/\Rep K A H a x/\Rep K A H b y:=by obtain⟨x,l,rfl,d,h⟩:=h.cons_inv;obtain⟨y,l,rfl,c,h⟩:=h.cons_inv;rw[h.nil_inv];exact⟨x,y,rfl,d,c⟩
theorem F4{a b c:W}{vs:List V}(h:ai K A H [a,b,c] vs):∃x y z,vs=[x,y,z]/\Rep K A H a x/\Rep K A H b y/\Rep K A H c z:=by obtain⟨x,l,rfl,f,h⟩:=h.cons_inv;obtain⟨y,z,rfl,e,d⟩:=PD h;exact⟨x,y,z,rfl,f,e,d⟩
theorem PJ{a:W}{vs:List V}(h:ai K A H [a] vs):∃x,vs=[x]/\Rep K A H a x:=by obtain⟨x,l,rfl,b,h⟩:=h.cons_inv;rw[h.nil_inv];exact⟨x,rfl,b⟩
end
noncomputable def bI:List aX->Nat->aX
 |[],_=>λ_ _ _=>False
 |x::_,0=>x
 |_::l,n+1=>bI l n
noncomputable def rS:List W->Nat->W
 |[],_=>.aM
 |x::_,0=>x
 |_::l,n+1=>rS l n
section
variable{Q:W->Prop}{l a b:List W}{i j:Int}{x y:Str}{p q:Bool}
theorem x_len:l7 .len [.lst l] Q=Q (.int l.length):=rfl
theorem Aa{ns:List Int}:l7 .len [.fW ns] Q=Q (.int ns.length):=rfl
theorem z9:l7 .len [.tup l] Q=Q (.int l.length):=rfl
theorem GB:l7 .abs [.int i] Q=Q (.int (if i<0 then-i else i)):=rfl
theorem GC:l7 .max2 [.int i,.int j] Q=Q (.int (if j>i then j else i)):=rfl
theorem GD:l7 .min2 [.int i,.int j] Q=Q (.int (if j<i then j else i)):=rfl
theorem PL:l7 .all [.lst l] Q=∃c:List Bool,l=c.map W.bl/\Q (.bl (c.all id)):=rfl
theorem Ab:l7 .list [.lst l] Q=Q (.lst l):=rfl
theorem vY:l7 .list [.tup l] Q=Q (.lst l):=rfl
theorem vZ:l7 .tuple [.lst l] Q=Q (.tup l):=rfl
theorem rT:l7 .tuple [.tup l] Q=Q (.tup l):=rfl
theorem GF:l7 .int [.bl p] Q=Q (.int (if p then 1 else 0)):=rfl
theorem xN{w:W}{n:String}:l7 .uo [w,.ty n] Q=∃a,Uj w=some a/\Q (.bl (qh a n)):=rfl
theorem GG:dR .Add (.int i) (.int j) Q=Q (.int (i+j)):=rfl
theorem GH:dR .Add (.lst a) (.lst b) Q=(a.length+b.length<=sizeLine/\Q (.lst (a++b))):=rfl
theorem GI:dR .Sub (.int i) (.int j) Q=Q (.int (i -j)):=rfl
theorem GJ:dR .Mult (.int i) (.int j) Q=(IntMulOk i j/\Q (.int (i*j))):=rfl
theorem GK:dR .Mult (.lst a) (.int j) Q=(-(2^63)<=j/\j<2^63/\a.length*j.toNat<=sizeLine/\Q (.lst (Aq j.toNat a).flatten)):=rfl
theorem Ac:dR .FloorDiv (.int i) (.int j) Q=(A5 i j/\Q (.int (i.fdiv j))):=rfl
theorem GL:dR .Mod (.int i) (.int j) Q=(j≠0/\Q (.int (i.fmod j))):=rfl
theorem GN:dR .Pow (.int i) (.int j) Q=(yx i j/\Q (.int (i^j.toNat))):=rfl
theorem GO:dR .RShift (.int i) (.int j) Q=(0<=j/\Q (.int (i/2^j.toNat))):=rfl
theorem M4:eW .Eq (.int i) (.int j) Q=Q (.bl (decide (i=j))):=rfl
theorem M5:eW .NotEq (.int i) (.int j) Q=Q (.bl (!decide (i=j))):=rfl
theorem x_lt:eW .Lt (.int i) (.int j) Q=Q (.bl (decide (i<j))):=rfl
theorem M6:eW .LtE (.int i) (.int j) Q=Q (.bl (decide (i<=j))):=rfl
theorem M7:eW .Gt (.int i) (.int j) Q=Q (.bl (decide (j<i))):=rfl
theorem M8:eW .GtE (.int i) (.int j) Q=Q (.bl (decide (j<=i))):=rfl
theorem GP:dY .Lt (.int i) (.int j) Q=Q (.bl (decide (i<j))):=rfl
theorem GQ:dY .LtE (.int i) (.int j) Q=Q (.bl (decide (i<=j))):=rfl
theorem PM:eW .Eq (.lst a) (.lst b) Q=(((rP 9 (.lst a)=true/\rP 9 (.lst b)=true)\/(Dw 9 (.lst a)=true/\Dw 9 (.lst b)=true))/\∀k:Bool,(k=true↔W.lst a=.lst b)->Q (.bl k)):=rfl
theorem v5{Q:Bool->Prop}:truth (.bl p) Q=Q p:=rfl
theorem Na:HE (.lst l) (.int i) Q=∃w,jo l i=some w/\Q w:=rfl
theorem GS{ns:List Int}:HE (.fW ns) (.int i) Q=∃n,jo ns i=some n/\Q (.int n):=rfl
theorem GU{ns:List Int}{c d:Option Int}:QX (.fW ns) c d Q=Q (.lst (iR (ns.map W.int) c d)):=rfl
theorem GR:HE (.tup l) (.int i) Q=∃w,jo l i=some w/\Q w:=rfl
theorem Nb{c d:Option Int}:QX (.lst l) c d Q=Q (.lst (iR l c d)):=rfl
theorem GV{w:W}{Q:Option Int->Prop}:Ez .aM w Q=Q none:=rfl
theorem GW{n:Int}{Q:Option Int->Prop}:Ez (.int n) (.int i) Q=Q (some i):=rfl
theorem GX{n:Nat}{Q:Option Int->Prop}:Ez (.var n) (.int i) Q=Q (some i):=rfl
theorem GY{o:Operator}{c d:CE}{Q:Option Int->Prop}:Ez (.bin o c d) (.int i) Q=Q (some i):=rfl
theorem wc{Q:List W->Prop}:items (.lst l) Q=Q l:=rfl
theorem rV{Q:List W->Prop}:items (.tup l) Q=Q l:=rfl
theorem Nc{n:Nat}{w:W}{c:Ev}{Q:Ev->Prop}:wT true [n] w c Q=Q (c.set n (some w)):=rfl
theorem Nd{c:List Nat}{d:Ev}{Q:Ev->Prop}:wT false c (.tup l) d Q=(l.length=c.length/\Q (bK d c l)):=by
 cases c<;>rfl
theorem GZ{i j:Nat}{c:Ev}{Q:Ev->Prop}:wT false [i,j] (.tup l) c Q=(l.length=2/\Q (bK c [i,j] l)):=rfl
theorem G0{i j k:Nat}{c:Ev}{Q:Ev->Prop}:wT false [i,j,k] (.tup l) c Q=(l.length=3/\Q (bK c [i,j,k] l)):=rfl
theorem Ad{A B:Prop}:(if true=true then A else B)=A:=rfl
theorem we{A B:Prop}:(if false=true then A else B)=B:=rfl
end
noncomputable def UC(c:Nat->aX)(G:Nat->W)(one:Bool)(d:List Nat)(b:List CS):W->Dn->Ev->Prop:=λw f a=>wT one d w a λe=>wSs c G b f e
theorem M1{c:Nat->aX}{G:Nat->W}{d:List Nat}{one:Bool}{e:CE}{b:List CS}{D:Dn}{a:Ev}:wS c G (.fr d one e b) D a=wE c G (λ_=>False) e a λz=>items z λf=>iT (UC c G one d b) D f a:=rfl
theorem M3{c:Nat->aX}{G:Nat->W}{d:List Nat}{one:Bool}{b:List CS}{w:W}{D:Dn}{a:Ev}:UC c G one d b w D a=wT one d w a λe=>wSs c G b D e:=rfl
noncomputable def WN{α:Type}(S:α->Ev)(J:α->Prop)(c:α->Nat)(s:α):Ev->Prop:=λa=>∃b,a=S b/\J b/\c b<c s
noncomputable def Q5{α:Type}(S:α->Ev)(J:α->Prop)(d:α->Nat)(b:Dn->Ev->Prop)(D:Dn)(s:α)(k:Bool):Prop:=
 if k=true then∃N:Ev->Prop,(∀a,N a->∃e,e<d s/\∃c,a=S c/\e=d c/\J c)/\b {nx:=N,rt:=D.rt,bk:=D.nx,ct:=N,ex:=λ_=>False} (S s)else D.nx (S s)
theorem cA{α:Type}{S:α->Ev}{J:α->Prop}{a:α->Nat}{b:Dn->Ev->Prop}{D:Dn}{s:α}{k:Bool}(g:k=true->b {nx:=WN S J a s,rt:=D.rt,bk:=D.nx,ct:=WN S J a s,ex:=λ_=>False} (S s))(f:k=false->D.nx (S s)):Q5 S J a b D s k:=by
 unfold Q5;cases k with
 |true=>exact⟨_,by rintro c ⟨d,e,j,l⟩;exact⟨_,l,d,e,rfl,j⟩,g rfl⟩
 |false=>exact f rfl
theorem jP{c:Ev->(Bool->Prop)->Prop}{b:Dn->Ev->Prop}{D:Dn}{a:Ev}{α:Type}(S:α->Ev)(J:α->Prop)(e:α->Nat)(d:α)(h:a=S d)(g:J d)(f:∀s,J s->c (S s) (Q5 S J e b D s)):EA c b D a:=by refine⟨λm a=>∃s,a=S s/\m=e s/\J s,⟨_,d,h,rfl,g⟩,?_⟩;rintro m _ ⟨s,rfl,rfl,j⟩;exact f s j
theorem eZ{α:Type}{f:W->(Option W->Prop)->Prop}{h g:α->W}:∀(b:List α)(a:List W)(Q:List W->Prop),(∀x∈b,∀K:Option W->Prop,K (some (g x))->f (h x) K)->a.length+b.length<=sizeLine->Q (a++b.map g)->f6 f (b.map h) a Q
 |[],a,Q,_,_,q=>by rw[Qf,f6];simpa using q
 |w::b,a,Q,c,l,q=>by
  rw[Kk,f6];refine c w (DL ..) _ ⟨?_,eZ b _ Q (λx d=>c x (D2 _ d)) ?_ ?_⟩
  .rw[D8]at l;lia
  .rw[Fk,G7];rw[D8]at l;lia
  .rw[YN];exact q
theorem fh{α:Type}(x:α):∀n,(Aq n [x]).flatten=Aq n x
 |0=>rfl
 |n+1=>by rw[JH,MJ,fh x n];rfl
theorem aj{n:Nat}(h:n<=1000):n<=sizeLine:=IH h (by decide)
theorem LY(K:Frag):tw K:=by intro a d b c;simp only[Fm,Y3,or_false]at d c;rcases d with rfl|rfl|rfl|rfl|rfl|rfl<;>rcases c with rfl|rfl|rfl|rfl|rfl|rfl<;>rfl
theorem jQ{n:Nat}(h:n<=1000):n<sizeLine:=Nat.lt_of_le_of_lt h (by decide)
theorem all_true{α:Type}(l:List α):(l.map λ_=>true).all id=true:=by
 induction l with
 |nil=>rfl
 |cons x l a=>rw[Kk,JE,a];rfl
theorem kT(i:Int)(n:Nat):rP n (.int i)=true:=by
 cases n<;>rfl
theorem cO{k:Bool}{p:Prop}(h:k=true↔p)(q:p):k=true:=h.mpr q
theorem fj{k:Bool}{p:Prop}(h:k=true↔p)(q:¬p):k=false:=by
 cases k with
 |false=>rfl
 |true=>exact absurd (h.mp rfl) q
noncomputable def Hd(K:Frag)(x:Str)(st:Stmt):Prop:=∃(f:Addr)(d i:Option Addr)(b:Array (Option Value))(e kV g c a h:Value),
 nsIn K mainGlobals x=some (some (.ref f))/\K.lookup f=some ⟨e,d,.func (fnOf x x (bO st) (aR st) (ak st) .none kV g c i a h),b⟩/\codeIn K a x=true/\keepIn K (.ref f)=true
structure Df(K:Frag)(mg:Str->Option Value)(x:Str)(st:Stmt)(ps:List Str)(f:Addr)(fd:FuncData):Prop where
 F:z3 K x x st f fd
 m:mg x=some (.ref f)
 b:Binds K fd ps []
 bt:∀(s:Shared)(us:List Value),us.length=ps.length->BindsTo s fd ⟨us,[]⟩ (ps.zip us)
abbrev gC(x q:Str)(st:Stmt)(ps:List Str):Prop:=∀(kV doc pm:Value)(an:Option Addr)(cdv ct:Value)(us:List Value),us.length=ps.length->bindArgs (fnOf x q (bO st) (aR st) (ak st) .none kV doc pm an cdv ct) ⟨us,[]⟩=pure (ps.zip us)
theorem n8{α:Type}{l:List α}{n:Nat}(h:l.length=n+1):∃a r,l=a::r/\r.length=n:=by
 cases l with
 |nil=>cases h
 |cons a r=>exact⟨a,r,rfl,Tf h⟩
theorem PN{K:Frag}{h:Heap}{d:Str->Option Value}{x:Str}{st:Stmt}{ps:List Str}(X:K.In h)(G:h.Ns mainGlobals d)(j:Hd K x st)(b:gC x x st ps):∃f m,Df K d x st ps f m:=by obtain⟨f,t,q,r,u,kV,n,g,p,o,a,l,c,k⟩:=j;have F:=JC (st:=st) l c k;exact⟨f,_,F,PySem.W.mg_of X G a,F.binds b,λs e i=>.of_eq (b kV n g q p o e i)⟩
theorem vj{K:Frag}{H:Hp}{a:Addr}{ns:List Int}(c:AH H)(b:dU K H a (ns.map V.int)):Rep K (λ_=>False) H (.fW ns) (.ref a):=by
 refine⟨a,rfl,?_⟩;rcases b with(h|⟨o,h⟩)|h
 .rcases c a with z|⟨o,d,z⟩
  .rw[z]at h;cases h
  .rw[z]at h;cases h
 .exact .inl ⟨o,h⟩
 .exact .inr (.inr h)
noncomputable def LZ:aX:=λb Q _=>∃a:List Int,b=[.fW a]/\a.length<=63/\Q (.bl true)
noncomputable def xO(K:Frag):Sp:=λc H Q _=>∃(a:Addr)(b:List Int),c=[.ref a]/\AH H/\dU K H a (b.map V.int)/\b.length<=63/\∀d,Q (.bl true) d
theorem L0{P:Program}{w:World}{K:Frag}{c:Str->Option Value}{base:Heap}{k:Nat}{f:Addr}{d:FuncData}{x:Str}(F:bJ P w K c base (iO P w) k f d [x] (uZ K 1 .s LZ)):bJ P w K c base NX k f d [x] (xO K):=by refine(bJ.N7 F).imp λm H Q E ⟨a,b,e,j,i,h,q⟩=>?_;subst e;refine⟨λ_=>False,[.fW b],λw=>w=.bl true,λ_=>False,rfl,.cons (vj j i) .nil,λ_ z=>z.elim,⟨b,rfl,h,rfl⟩,λw v l g _ r=>?_,λ_ _ z=>z.elim⟩;subst g;have r:=r.aW;dsimp only[Rep]at r;subst r;exact q l
theorem walk{l:PySem.W.OpenLaw}{q:Program}{b:List Str}{C:(Str->Option Value)->Heap->Prop}{m:World->Heap->Prop}{d:DefRec}{K:Params->Frag}{k:Nat}(t:l.most=some 63)(g:d.params.defaults=[])(r:bW k callerA)(D:importsNone q=true)(e:l.prog.given.tree=none)
 (y:∀(w:World)(h:Heap),m w h->(K w.params).In h)
 (F:∀(w:World)(c:Str->Option Value)(j:Addr)(h:Heap),(K w.params).In h->h.Ns mainGlobals c->c d.name=some (.ref j)->
   ∃i:FuncData,(∀(s:Shared)(u:Value),BindsTo s i ⟨[u],[]⟩ [("_law_script",u)])/\∀base:Heap,(K w.params).In base->base.Ns mainGlobals c->bJ l.prog w (K w.params) c base NX k j i ["_law_script"] (xO (K w.params))):
 PySem.W.WalkO q b C m l.row.toRowW d [] (λf o=>PySem.call f o):=
 L2.D9 (n:=63) (k:=k) (x:="_law_script") (CX:=λ_=>NX) (sp:=λw=>xO (K w.params)) t (by decide) g r D e y F (λ_ _ a p v B A=>⟨a,p,rfl,B,A,v,λ_=>rfl⟩) λ_ _ _ _ _ z=>z
noncomputable def Tg:aX:=λ_ _ _=>False
theorem PR{P:Program}{w:World}{K:Frag}{d:Str->Option Value}{base:Heap}{k n:Nat}{f:Addr}{e:FuncData}{ps:List Str}:bJ P w K d base (iO P w) k f e ps (ur K n .s Tg):=
 ⟨by rintro c H Q E ⟨_,_,_,_,_,_,_,z,_⟩;exact z.elim,by rintro A a s H b g c Q E h j i r ⟨_,_,_,_,_,_,_,z,_⟩;exact z.elim⟩
theorem Df.gS{P:Program}{w:World}{K:Frag}{d:Str->Option Value}{base:Heap}{x:Str}{st:Stmt}{ps:List Str}{f:Addr}{h:FuncData}{k n:Nat}{m:Md}{sp:aX}(D:Df K d x st ps f h)(F:bJ P w K d base (iO P w) k f h ps (ur K n m sp))(j:n=ps.length)(i:∀a P R,sp a P R->a.length=n){e:Nat}(l:k<=e):
 ∃g n c,d x=some g/\cS P w K d base c g n (ur K n m sp)/\c<=e/\∀a P R,sp a P R->a.length=n:=by
 subst j;exact⟨_,_,k,D.m,.fn D.F.kp D.b F,l,i⟩
end VL
namespace VL
open PySem PySem.Spec
open PyProof.Rows hiding St
open L2 Num
abbrev bg(m:Md)(P:W->Prop)(R:Addr->Prop):Dn:=⟨fall m P,P,λ_=>False,λ_=>False,R⟩
noncomputable def wI(ns:List Int):W:=.lst (ns.map W.int)
theorem bq{b:W->Dn->Ev->Prop}{D:Dn}{d:List W}{a:Ev}(J:Nat->Ev->Prop)(n:J 0 a)(l:∀i w a N,d[i]?=some w->J i a->(∀c,J (i+1) c->N c)->b w ⟨N,D.rt,D.nx,N,λ_=>False⟩ a)(m:∀a,J d.length a->D.nx a):iT b D d a:=by
 have:∀k i a,i+k=d.length->J i a->iT b D (d.drop i) a:=by
  intro k
  induction k with
  |zero=>intro i a e j;rw[List.drop_of_length_le (by lia),iT];exact m a (by rw[<-e];exact j)
  |succ k h=>
   intro i a e j;have f:i<d.length:=by lia
   rw[Kt f,iT];exact l i _ a _ (B1 f) j λc g=>h (i+1) c (by lia) g
 exact this d.length 0 a (by lia) n
theorem cC{x y:Int}{n m:Nat}(h:x.natAbs<2^n)(b:y.natAbs<2^m)(a:n+m<=134217728):IntMulOk x y:=uQ (IH (Nat.add_le_add (bits_le h) (bits_le b)) a)
theorem mZ{y:Int}{n:Nat}(h:y.natAbs<2^n)(a:n<=8000):y.natAbs.log2<1000000000:=by
 rcases Nat.eq_zero_or_pos y.natAbs with e|e
 .rw[e];decide
 .have:=(Z7 (Yc e)).mpr h;lia
noncomputable def m5:List CS:=[.ret (.comp [0] true 1 (.var 0) (.bl true) (.bin .Mult (.var 2) (.var 0)))]
noncomputable def jc:aX:=λc Q _=>∃(a:List Int)(b:Int),c=[wI a,.int b]/\a.length<=1000/\(∀x∈a,IntMulOk b x)/\Q (wI (a.map (b*·)))
theorem Cp{e:Nat->aX}{G:Nat->W}{m:Md}(c:List W)(Q:W->Prop)(R:Addr->Prop)(h:jc c Q R):wSs e G m5 (bg m Q R) (ay 2 c):=by obtain⟨d,b,rfl,i,j,a⟩:=h;show wSs _ _ m5 _ [some (wI d),some (.int b)];unfold m5 wI;fin2;refine eZ (g:=λx=>.int (b*x)) d [] _ (λx f K k=>⟨j x f,k⟩) (aj (by simpa using i)) ?_;rw[Wm];unfold wI at a;rw[XZ]at a;exact a
theorem ic{n i:Nat}{w:W}(h:(cR 0 1 n)[i]?=some w):i<n/\w=.int i:=by unfold cR at h;rw[Dx]at h;obtain⟨j,e,rfl⟩:=Iy.mp h;obtain⟨b,a⟩:=FS.mp e;rw[QV]at a;rw[HI]at b;refine⟨b,?_⟩;rw[<-a];simp
theorem kU(n:Nat):(cR 0 1 n).length=n:=by unfold cR;simp
theorem aV{l:List W}{k:Nat}{w:W}(h:l[k]?=some w):jo l (k:Int)=some w:=by unfold jo uh;have:=(FS.mp h).1;rw[Bz (by lia),Bz (by lia)];simpa using h
theorem m6{n k:Nat}(h:k<n):uh n (k:Int)=some k:=by unfold uh;rw[Bz (by lia),Bz (by lia)];simp
theorem fm{x:Int}{n:Int}(a:0<n):0<=x.fmod n/\x.fmod n<n:=⟨Int.fmod_nonneg_of_pos x a,Int.fmod_lt_of_pos x a⟩
theorem aq{b:Nat->aX}{G:Nat->W}{s t:CS}{d:List CS}{D:Dn}{c:Ev}(J:Ev->Prop)(f:∀N:Ev->Prop,(∀a,J a->N a)->wS b G s {D with nx:=N} c)(e:∀a,J a->wSs b G (t::d) D a):wSs b G (s::t::d) D c:=f _ e
theorem int_at{ns:List Int}{k:Nat}(h:k<ns.length):(ns.map W.int)[k]?=some (.int (ns.getD k 0)):=by rw[Dx,AC,B1 h];rfl
theorem vm{ns:List Int}{P:Int->Prop}(h:∀n∈ns,P n){k:Nat}(a:k<ns.length):P (ns.getD k 0):=by rw[AC,B1 a];exact h _ (Os _)
theorem tS(ns:List Int)(k:Nat)(h:k<=ns.length):iR (ns.map W.int) none (some (k:Int))=(ns.take k).map W.int:=by unfold iR;rw[HT.DY,HT.AA,Ap,List.drop_zero,show min k ns.length -0=k by lia,XN]
noncomputable def jR:List CS:=[.set 1 (.blt .len [(.var 0)]),.uq (.and [(.cmp .Gt (.var 1) (.int 0)),(.cmp .Eq (.ix (.var 0) (.bin .Sub (.var 1) (.int 1))) (.int 0))]) [.set 1 (.bin .Sub (.var 1) (.int 1))],.ret (.sl (.var 0) .aM (.var 1))]
noncomputable def cX:aX:=λc Q _=>∃a:List Int,c=[wI a]/\∀b,cZ a b->Q (wI b)
theorem zF{l:Nat->aX}{G:Nat->W}{m:Md}(i:List W)(Q:W->Prop)(R:Addr->Prop)(h:cX i Q R):wSs l G jR (bg m Q R) (ay 2 i):=by
 obtain⟨c,rfl,n⟩:=h;show wSs _ _ jR _ [some (wI c),none];unfold jR wI;fin2;refine jP (α:=Nat) (λk=>[some (.lst (c.map W.int)),some (.int k)]) (λk=>k<=c.length/\∀j,k<=j->j<c.length->c.getD j 0=0) (λk=>k) c.length (by rw[Ap]) ⟨BM _,λj g f=>by lia⟩ ?_;rintro k ⟨g,f⟩;fin2;have d:(k=0\/c.getD (k -1) 0≠0)->Q (.lst (iR (c.map W.int) none (some (k:Int)))):=λh=>by rw[tS c k g];exact n _ ⟨k,g,rfl,f,h⟩
 by_cases o:0<k
 .rw[Bz (Do (by lia))];rw[show(k:Int) -1=((k -1:Nat):Int) by lia];refine⟨_,aV (int_at (by lia)),?_⟩;fin2;refine cA (λz=>?_) (λz=>?_)
  .have z:=Bi z;fin2;refine⟨k -1,by rw[show(k:Int) -1=((k -1:Nat):Int) by lia],⟨by lia,λj a b=>?_⟩,by show k -1<k;lia⟩;by_cases e:j=k -1
   .rw[e];exact z
   .exact f j (by lia) b
  .have z:=YH z;fin2;exact d (.inr z)
 .rw[Bn (by rw[Fh];lia)];refine cA (λz=>by cases z) (λ_=>?_);fin2;exact d (.inl (by lia))
noncomputable def fN:List CS:=[.set 2 (.blt .max2 [(.blt .len [(.var 0)]),(.blt .len [(.var 1)])]),.set 3 (.bin .Add (.blt .list [(.var 0)]) (.bin .Mult (.lst [(.int 0)]) (.bin .Sub (.var 2) (.blt .len [(.var 0)])))),.fr [4,5] false (.qg (.var 1)) [.put 3 (.var 4) (.bin .Add (.ix (.var 3) (.var 4)) (.var 5))],.ret (.call 0 [(.var 3)])]
noncomputable def d8:aX:=λd Q _=>∃a b:List Int,d=[wI a,wI b]/\a.length<=200/\b.length<=200/\∀c,cZ ((BB (max a.length b.length)).map λk=>a.getD k 0+b.getD k 0) c->Q (wI c)
theorem qE{G:Nat->W}{m:Md}(t:List W)(Q:W->Prop)(R:Addr->Prop)(h:d8 t Q R):wSs (bI [cX]) G fN (bg m Q R) (ay 6 t):=by
 obtain⟨b,a,rfl,u,v,E⟩:=h;show wSs _ _ fN _ [some (wI b),some (wI a),none,none,none,none];unfold fN wI;fin2;have c:(if((a.map W.int).length:Int)>((b.map W.int).length:Int)then((a.map W.int).length:Int)else((b.map W.int).length:Int))=((max b.length a.length:Nat):Int):=by rw[Ap,Ap];split<;>lia
 rw[c];have d:((max b.length a.length:Nat):Int) -((b.map W.int).length:Int)=((max b.length a.length -b.length:Nat):Int):=by rw[Ap];clear c v u;lia
 rw[d,Fc,fh];generalize K:max b.length a.length=L at*;refine⟨aj (by simp),by clear d c K v u;lia,by clear d c;lia,aj (by simp;clear d c;lia),aj (by simp;clear d c;lia),?_⟩;have g:∀(f:Nat->Int)(k:Nat),k<L->((BB L).map f)[k]?=some (f k):=λf k H=>by rw[Dx,Oy H];rfl
 refine bq (λi z=>∃o n,z=[some (.lst (b.map W.int)),some (.lst (a.map W.int)),some (.int L),some (.lst (((BB L).map λk=>b.getD k 0+if k<i then a.getD k 0 else 0).map W.int)),o,n]) ⟨none,none,?_⟩ ?_ ?_
 .have:b.map W.int++Aq (L -b.length) (W.int 0)=((BB L).map λk=>b.getD k 0+if k<0 then a.getD k 0 else 0).map W.int:=by
   refine T1 λq=>?_;by_cases s:q<b.length
   .rw[OK (by simpa using s),int_at s,Dx,g _ q (by lia),Bn (by lia),W1];rfl
   .by_cases j:q<L
    .rw[Jn (by simpa using s),Tb,Bz (by rw[Ap];omega),Dx,g _ q j,Bn (by lia),AC,FM (by lia)];rfl
    .rw[FM (by simp;omega),FM (by simp;lia)]
  rw[this]
 .rintro i w _ N C ⟨o,n,rfl⟩ J;obtain⟨x,p,rfl⟩:=jF C;have I:i<a.length:=by have:=(FS.mp p).1;simpa using this
  rw[int_at I]at p;cases p;fin2;have r:i<L:=by omega
  refine⟨rfl,_,aV (by rw[Dx,g _ i r];rfl),?_⟩;fin2;refine⟨i,m6 (by simpa using r),J _ ⟨some (.int i),some (.int (a.getD i 0)),?_⟩⟩;have:((BB L).map λk=>b.getD k 0+if k<i then a.getD k 0 else 0).set i (b.getD i 0+(if i<i then a.getD i 0 else 0)+a.getD i 0)=(BB L).map λk=>b.getD k 0+if k<i+1 then a.getD k 0 else 0:=by
   refine T1 λq=>?_;rw[Y0];by_cases j:q<L
   .rw[g _ q j,g _ q j];by_cases e:i=q
    .subst e;rw[Bz rfl,Bz (by simpa using r),Bn (by lia),Bz (by lia)];congr 1;lia
    .rw[Bn e];by_cases y:q<i
     .rw[Bz y,Bz (by lia)]
     .rw[Bn y,Bn (by lia)]
   .rw[Bn (by lia),FM (by simp;lia),FM (by simp;lia)]
  rw[<-this,Yg]
 .rintro _ ⟨o,n,rfl⟩;have B:(fV (a.map W.int)).length=a.length:=by unfold fV;simp
  rw[B];fin2;refine⟨_,rfl,λA D=>E A ?_⟩;have:((BB L).map λk=>b.getD k 0+if k<a.length then a.getD k 0 else 0)=(BB L).map λk=>b.getD k 0+a.getD k 0:=by
   refine QR λk _=>?_;by_cases h:k<a.length
   .rw[Bz h]
   .rw[Bn h,AC (l:=a),FM (by lia)];rfl
  rw[<-this];exact D
noncomputable def eH:List CS:=[.ret (.call 0 [(.var 0),(.call 1 [(.var 1),(.neg (.int 1))])])]
noncomputable def fO:aX:=λe Q _=>∃(c a:List Int)(b:Nat),e=[wI c,wI a]/\c.length<=200/\a.length<=200/\b<=100000000/\(∀x∈a,x.natAbs<2^b)/\∀d,cZ ((BB (max c.length a.length)).map λk=>c.getD k 0 -a.getD k 0) d->Q (wI d)
theorem n9{G:Nat->W}{m:Md}(e:List W)(Q:W->Prop)(R:Addr->Prop)(h:fO e Q R):wSs (bI [d8,jc]) G eH (bg m Q R) (ay 2 e):=by
 obtain⟨c,a,b,rfl,i,j,q,d,p⟩:=h;show wSs _ _ eH _ [some (wI c),some (wI a)];unfold eH;fin2;refine⟨a,-1,rfl,by lia,λx o=>cC (n:=1) (m:=b) (by decide) (d x o) (by lia),?_⟩;refine⟨c,a.map (-1*·),rfl,i,by rw[Ap];exact j,λg f=>p g ?_⟩;rw[Ap]at f;have:((BB (max c.length a.length)).map λk=>c.getD k 0+(a.map (-1*·)).getD k 0)=(BB (max c.length a.length)).map λk=>c.getD k 0 -a.getD k 0:=by
  refine QR λk _=>?_;rw[AC (l:=a.map _),Dx,AC (l:=a)];cases a[k]? with
  |none=>show _+(0:Int)=_ -(0:Int);lia
  |some z=>show _+ -1*z=_ -z;lia
 rw[<-this];exact f
noncomputable def tabI(n:Nat)(f:Nat->Int):List Int:=(BB n).map f
theorem gD{n k:Nat}{f:Nat->Int}(h:k<n):(tabI n f)[k]?=some (f k):=by unfold tabI;rw[Dx,Oy h];rfl
theorem bG(n:Nat)(f:Nat->Int):(tabI n f).length=n:=by unfold tabI;simp
theorem m7{n k:Nat}{f g:Nat->Int}(h:k<n)(b:∀j,j<n->j≠k->g j=f j):(tabI n f).set k (g k)=tabI n g:=by
 refine T1 λq=>?_;rw[Y0];by_cases a:q<n
 .rw[gD a,gD a];by_cases e:k=q
  .subst e;rw[Bz rfl,Bz (by rw[bG];exact h)]
  .rw[Bn e,b q a (Mo e)]
 .rw[Bn (by lia),FM (by rw[bG];lia),FM (by rw[bG];lia)]
theorem vn{x y:List Int}{Q:W->Prop}(h:∀k:Bool,(k=true↔x=y)->Q (.bl k)):eW .Eq (wI x) (wI y) Q:=by
 have c:∀z:List Int,rP 9 (.lst (z.map W.int))=true:=λz=>by dsimp only[rP];rw[Hc];intro w d;obtain⟨i,_,rfl⟩:=IR.mp d;exact kT i 8
 refine⟨.inl ⟨c x,c y⟩,λk f=>h k (f.trans ⟨λe=>?_,λe=>by rw[e]⟩)⟩;exact(QS (λa b e=>W.HC e)).mp (W.Bo e)
theorem xP{a:List Int}{i:Nat}{w:W}(h:(fV (a.map W.int))[i]?=some w):i<a.length/\w=.tup [.int i,.int (a.getD i 0)]:=by
 obtain⟨x,b,rfl⟩:=jF h;have c:i<a.length:=by have:=(FS.mp b).1;simpa using this
 rw[int_at c]at b;cases b;exact⟨c,rfl⟩
theorem tT(a:List Int):(fV (a.map W.int)).length=a.length:=by unfold fV;simp
noncomputable def eK:List CS:=[.iff (.or [(.cmp .Eq (.var 0) (.lst [])),(.cmp .Eq (.var 1) (.lst []))]) [.ret (.lst [])] [],.set 2 (.bin .Mult (.lst [(.int 0)]) (.bin .Sub (.bin .Add (.blt .len [(.var 0)]) (.blt .len [(.var 1)])) (.int 1))),.fr [3,4] false (.qg (.var 0)) [.iff (.cmp .NotEq (.var 4) (.int 0)) [.fr [5,6] false (.qg (.var 1)) [.put 2 (.bin .Add (.var 3) (.var 5)) (.bin .Add (.ix (.var 2) (.bin .Add (.var 3) (.var 5))) (.bin .Mult (.var 4) (.var 6)))]] []],.ret (.var 2)]
noncomputable def fR:aX:=λc Q _=>∃a b:List Int,c=[wI a,wI b]/\a.length<=200/\b.length<=200/\(∀x∈a,∀y∈b,IntMulOk x y)/\Q (wI (if a=[]\/b=[]then[]else tabI (a.length+b.length -1) (cf a b a.length)))
theorem oh{D:Nat->aX}{G:Nat->W}{m:Md}(A:List W)(Q:W->Prop)(R:Addr->Prop)(h:fR A Q R):wSs D G eK (bg m Q R) (ay 7 A):=by
 obtain⟨a,b,rfl,T,S,K,l⟩:=h;show wSs _ _ eK _ [some (wI a),some (wI b),none,none,none,none,none];unfold eK;refine aq (λs=>(a≠[]/\b≠[])/\s=[some (wI a),some (wI b),none,none,none,none,none]) (λN r=>?_) ?_
 .fin2;refine⟨aj (by simp),vn (y:=[]) λY C=>?_⟩;fin2;by_cases o:a=[]
  .cases cO C o;rw[Bz rfl];rw[Bz (.inl o)]at l;exact⟨aj (by simp),l⟩
  .cases fj C o;rw[Bn (by decide)];refine⟨aj (by simp),vn (y:=[]) λU B=>?_⟩;fin2;by_cases p:b=[]
   .cases cO B p;rw[Bz rfl];rw[Bz (.inr p)]at l;exact⟨aj (by simp),l⟩
   .cases fj B p;rw[Bn (by decide)];exact r _ ⟨⟨o,p⟩,rfl⟩
 rintro _ ⟨⟨o,p⟩,rfl⟩;rw[Bn (λz=>z.elim o p)]at l;have Z:=Hm.mpr o;unfold wI at*;fin2;have O:((a.map W.int).length:Int)+((b.map W.int).length:Int) -1=((a.length+b.length -1:Nat):Int):=by rw[Ap,Ap];lia
 rw[O,Fc,fh];refine⟨aj (by simp),by lia,by lia,aj (by simp;lia),?_⟩;refine bq (λi t=>∃o3 u d c,t=[some (.lst (a.map W.int)),some (.lst (b.map W.int)),some (.lst ((tabI (a.length+b.length -1) (cf a b i)).map W.int)),o3,u,d,c]) ⟨none,none,none,none,?_⟩ ?_ ?_
 .have:tabI (a.length+b.length -1) (cf a b 0)=Aq (a.length+b.length -1) 0:=by unfold tabI;have:cf a b 0=λ_=>0:=rfl;rw[this,T8,HI]
  rw[this,YI]
 .rintro i w _ N J ⟨o3,u,d,c,rfl⟩ r;obtain⟨M,rfl⟩:=xP J;fin2;refine⟨rfl,?_⟩;by_cases z:a.getD i 0=0
  .rw[Do z];fin2;refine r _ ⟨some (.int i),some (.int (a.getD i 0)),d,c,?_⟩;rw[show cf a b (i+1)=cf a b i from funext λk=>Ed z k]
  .rw[KB z];fin2;refine bq (λj t=>∃d c,t=[some (.lst (a.map W.int)),some (.lst (b.map W.int)),some (.lst ((tabI (a.length+b.length -1) (rM a b i j)).map W.int)),some (.int i),some (.int (a.getD i 0)),d,c]) ⟨d,c,?_⟩ ?_ ?_
   .rw[show rM a b i 0=cf a b i from funext λk=>sA a b i k]
   .rintro j w _ N2 E ⟨d,c,rfl⟩ H;obtain⟨L,rfl⟩:=xP E;have v:i+j<a.length+b.length -1:=by lia
    fin2;rw[show(i:Int)+(j:Int)=((i+j:Nat):Int) by lia];refine⟨rfl,_,aV (by rw[Dx,gD v];rfl),?_⟩;fin2;refine⟨vm (P:=λx=>IntMulOk x (b.getD j 0)) (λx I=>vm (P:=λy=>IntMulOk x y) (K x I) L) M,i+j,m6 (by rw[Ap,bG];exact v),H _ ⟨some (.int j),some (.int (b.getD j 0)),?_⟩⟩;have e:=m7 (n:=a.length+b.length -1) (f:=rM a b i j) (g:=rM a b i (j+1)) (k:=i+j) v (λq _ l=>by rw[lM,Bn l,W1]);rw[lM,Bz rfl]at e;rw[<-e,Yg]
   .rintro _ ⟨d,c,rfl⟩;refine r _ ⟨some (.int i),some (.int (a.getD i 0)),d,c,?_⟩;rw[tT,show rM a b i b.length=cf a b (i+1)from funext λk=>sC a b i k]
 .rintro _ ⟨o3,u,d,c,rfl⟩;rw[tT];fin2;exact l
end VL
namespace L2
open PySem
theorem pA{r:Nat}:Builtin.Range.rangeSize ((r:Int) -1) (-1) (-1)=(r:Int):=by
 unfold Builtin.Range.rangeSize;rw[Bn (by decide)];split
 .show((r:Int) -1 - -1 -1)/1+1=_;lia
 .lia
theorem vo{r:Nat}(h:r<=1000):Builtin.Range.small ((r:Int) -1) (-1) (-1)=true:=by
 unfold Builtin.Range.small;rw[pA];have f:∀x:Int,-2000<=x->x<=2000->Builtin.Range.rangeFitsLong x=true:=λx b a=>by unfold Builtin.Range.rangeFitsLong;simp;lia
 rw[f _ (by lia) (by lia),f _ (by lia) (by lia),f _ (by lia) (by lia),Bn (by decide),f (-1+(-1+1)) (by decide) (by decide)];simp
end L2
namespace VL
open PySem PySem.Spec
open PyProof.Rows hiding St
open L2 Num
theorem xQ{ns:List Int}(h:0<ns.length):jo (ns.map W.int) (-1)=some (.int (ns.getD (ns.length -1) 0)):=by refine zE ?_;rw[YL,Ap,int_at (by omega)]
theorem m8{n k:Nat}{f:Nat->Int}(h:k<n):(tabI n f).getD k 0=f k:=by rw[AC,gD h];rfl
theorem F5(n:Nat)(f:Nat->Int)(k:Nat):(tabI n f).getD k 0=if k<n then f k else 0:=by
 by_cases h:k<n
 .rw[Bz h,m8 h]
 .rw[Bn h];exact outI (by rw[bG];lia)
theorem tU{n:Nat}{f:Nat->Int}{x:Int}(h:x∈tabI n f):∃k,k<n/\x=f k:=by unfold tabI at h;obtain⟨k,a,rfl⟩:=IR.mp h;exact⟨k,Ki.mp a,rfl⟩
theorem Cq{n:Nat}{f g:Nat->Int}(h:∀k,k<n->f k=g k):tabI n f=tabI n g:=by unfold tabI;exact QR λk a=>h k (Ki.mp a)
theorem Cr(n:Nat)(x:Int):Aq n (W.int x)=(tabI n λ_=>x).map W.int:=by unfold tabI;rw[T8,HI,YI]
theorem zG{n:Nat}(ns:List Int)(h:ns.length=n):ns=tabI n λk=>ns.getD k 0:=by
 refine T1 λj=>?_;by_cases a:j<n
 .rw[gD a,AC,B1 (by lia)];rfl
 .rw[FM (by lia),FM (by rw[bG];lia)]
theorem F6{r n s:Nat}{w:W}(h:(cR ((r:Int) -1) (-1) n)[s]?=some w):s<n/\w=.int ((r:Int) -1 -s):=by unfold cR at h;rw[Dx]at h;obtain⟨j,e,rfl⟩:=Iy.mp h;obtain⟨b,a⟩:=FS.mp e;rw[QV]at a;rw[HI]at b;refine⟨b,?_⟩;rw[<-a];congr 1;lia
theorem L1(a st:Int)(n:Nat):(cR a st n).length=n:=by unfold cR;simp
theorem zH{r:Nat}{Q:List W->Prop}(h:r<=1000)(q:Q (cR ((r:Int) -1) (-1) r)):Br [.int ((r:Int) -1),.int (-1),.int (-1)] Q:=
 ⟨r,⟨by decide,by decide,vo h,pA⟩,q⟩
theorem F7{R:List Int}(h:0<R.length):∃a x,R=a++[x]:=
 ⟨R.dropLast,R.getLast (λz=>by rw[z]at h;cases h),(List.dropLast_concat_getLast _).symm⟩
theorem pop_at{a:List Int}{x:Int}:((a++[x]).map W.int)[((a++[x]).map W.int).length -1]?=some (.int x):=by simp
theorem L3{a:List Int}{x:Int}:((a++[x]).map W.int).dropLast=a.map W.int:=by simp
end VL
namespace L2
open PySem
end L2
namespace VL
open PySem PySem.Spec
open PyProof.Rows hiding St
open L2 Num
structure UD(A B fA fB:List Int)(ld h:Int)(N E:Nat):Prop where
 l2:2<=B.length
 UE:B.length<=A.length
 Xx:A.length<=15
 lf:fA.length<=40
 U9:fB.length<=40
 bA:∀x∈A,x.natAbs<2^N
 bB:∀x∈B,x.natAbs<2^N
 Xy:∀x∈fA,x.natAbs<2^N
 Xz:∀x∈fB,x.natAbs<2^N
 bl:ld.natAbs<2^N
 bh:h.natAbs<2^N
 hN:N<=5000
 hE:E<=12000
 k0:ld*h^(A.length -B.length)≠0
 kE:(ld*h^(A.length -B.length)).natAbs<=2^E
 h0:0<A.length -B.length->h^(A.length -B.length -1)≠0/\(h^(A.length -B.length -1)).natAbs<=2^E
noncomputable def MW(a:List Rat):Nat->Rat:=λi=>a.getD i 0
noncomputable def UG(b p2:Nat)(g a:List Rat):Prop:=∃(s:List Rat)(D:Int),(∀k,a.getD k 0=JD (MW s) (MW g) k)/\D≠0/\D.natAbs<2^b/\∀x∈s,Cd D p2 x
structure Wt(p1 p2:Nat)(a b g u v:List Rat):Prop where
 ng:lN g
 nu:lN u
 nv:lN v
 XA:∀k,g.getD k 0=JD (MW u) (MW a) k+JD (MW v) (MW b) k
 da:UG p1 p2 g a
 db:UG p1 p2 g b
 ne:g≠[]
 one:g.getD (g.length -1) 0=1
theorem F8(ns:List Int)(a b:Option Int):∃c:List Int,iR (ns.map W.int) a b=c.map W.int:=by unfold iR;exact⟨_,by rw[<-List.map_drop,<-XN]⟩
noncomputable def qF:List CS:=[.ret (.and [(.blt .uo [(.var 0),(.wR "int")]),(.not (.blt .uo [(.var 0),(.wR "bool")]))])]
noncomputable def m9:aX:=λa Q _=>∃i:Int,a=[.int i]/\Q (.bl true)
theorem F9{b:Nat->aX}{G:Nat->W}{m:Md}(a:List W)(Q:W->Prop)(R:Addr->Prop)(h:m9 a Q R):wSs b G qF (bg m Q R) (ay 1 a):=by obtain⟨i,rfl,c⟩:=h;show wSs _ _ qF _ [some (.int i)];unfold qF;fin2;simp only[xN];refine⟨_,rfl,?_⟩;fin2;exact⟨_,rfl,c⟩
structure XC(a:List Rat):Prop where
 l8:a.length<=8
 z:lN a
 cd:∃D:Int,0<D/\D.natAbs<2^101/\∀x∈a,Cd D 117 x
 bd:∀x∈a,Bd 200 x
noncomputable def rB(n k:Nat):Nat:=(2*n+k+4)*14+1
structure Tn(xs xs':List (List Rat))(n i t:Nat):Prop where
 xl:xs'.length=n
 rl:∀x∈xs',x.length=n
 same:∀m,m<=i\/i+1+t<=m->xs'.getD m []=xs.getD m []
 el:∀m,i<m->m<i+1+t->vQ (xs'.getD m []) i=0/\∃s:Rat,∀c,vQ (xs'.getD m []) c=vQ (xs.getD m []) c+s*vQ (xs.getD i []) c
noncomputable def wv(t p:Int):List Int->Int
 |[]=>0
 |c::l=>wv t p l*t+c*p^l.length
section
variable{a b:List Rat}{l1 l2 n1 n2 n k1 k2 k E q:Nat}{Q:W->Prop}{R:Addr->Prop}
end
noncomputable def nh:List CS:=[.Dv [2,3] (.tup [(.int 1),(.int 0)]),.Dv [4,5] (.tup [(.int 0),(.int 1)]),.uq (.cmp .NotEq (.var 1) (.int 0)) [.set 6 (.bin .FloorDiv (.var 0) (.var 1)),.par [0,1] [(.var 1),(.bin .Sub (.var 0) (.bin .Mult (.var 6) (.var 1)))],.par [2,3] [(.var 3),(.bin .Sub (.var 2) (.bin .Mult (.var 6) (.var 3)))],.par [4,5] [(.var 5),(.bin .Sub (.var 4) (.bin .Mult (.var 6) (.var 5)))]],.iff (.cmp .Lt (.var 0) (.int 0)) [.ret (.tup [(.neg (.var 0)),(.neg (.var 2)),(.neg (.var 4))])] [],.ret (.tup [(.var 0),(.var 2),(.var 4)])]
noncomputable def qG:aX:=λc Q _=>∃(a b:Int)(n:Nat),c=[.int a,.int b]/\n<=7000/\a.natAbs<2^n/\b.natAbs<2^n/\∀g u v:Int,g=(Oz a b:Nat)->u*a+v*b=g->Q (.tup [.int g,.int u,.int v])
theorem Cs{s:Nat->aX}{G:Nat->W}{m:Md}(l:List W)(Q:W->Prop)(R:Addr->Prop)(h:qG l Q R):wSs s G nh (bg m Q R) (ay 7 l):=by
 obtain⟨a,b,n,rfl,z,w,p,q⟩:=h;show wSs _ _ nh _ [some (.int a),some (.int b),none,none,none,none,none];unfold nh;fin2;refine⟨aj (by simp),rfl,aj (by simp),rfl,?_⟩;have i:=pow2 n;refine jP (α:=Int×Int×Int×Int×Int×Int×Option W) (λx=>[some (.int x.1),some (.int x.2.1),some (.int x.2.2.1),some (.int x.2.2.2.1),some (.int x.2.2.2.2.1),some (.int x.2.2.2.2.2.1),x.2.2.2.2.2.2]) (λx=>AQ n a b x.1 x.2.1 x.2.2.1 x.2.2.2.1 x.2.2.2.2.1 x.2.2.2.2.2.1) (λx=>x.2.1.natAbs) (a,b,1,0,0,1,none) rfl ⟨by lia,by lia,rfl,w,p,i,by show 0<_;clear i p;lia,by show 0<_;lia,i,.inl ⟨rfl,rfl,rfl,rfl⟩⟩ ?_;rintro⟨x,y,u,f,v,d,o⟩ I;have I:AQ n a b x y u f v d:=I;fin2;refine cA (λk=>?_) (λk=>?_)
 .have c:y≠0:=by simpa using k
  have j:(x.fdiv y).natAbs<2^(n+2):=by
   have C:=RT x y c;have B:=I.bx;have A:=I.p9;have e:2^(n+2)=4*2^n:=by rw[Yk];lia
   lia
  fin2;refine⟨⟨c,mZ I.p9 (by lia)⟩,cC j I.p9 (by lia),rfl,cC j I.T4 (by lia),rfl,cC j I.T5 (by lia),rfl,?_⟩;exact⟨(y,x -x.fdiv y*y,f,u -x.fdiv y*f,d,v -x.fdiv y*d,_),rfl,I.next c,uM x y c⟩
 .have c:y=0:=by simpa using k
  subst c;have t:=I.g;rw[Int.gcd_zero_right]at t;have e1:=I.e1;fin2;by_cases r:x<0
  .rw[Bz (Do r)];refine⟨aj (by simp),q (-x) (-u) (-v) (by lia) ?_⟩;rw[W3,W3];lia
  .rw[Bn (by rw[Fh];exact r)];exact⟨aj (by simp),q x u v (by lia) e1⟩
noncomputable def jS:List CS:=[.ret (.bin .Mod (.ix (.call 0 [(.var 0),(.var 1)]) (.int 1)) (.var 1))]
noncomputable def je:aX:=λa Q _=>∃x p:Int,a=[.int x,.int p]/\(af p/\p<2^40/\0<x/\x<p)/\∀y:Int,0<=y->y<p->p∣y*x -1->Q (.int y)
theorem zI{G:Nat->W}{m:Md}(a:List W)(Q:W->Prop)(R:Addr->Prop)(h:je a Q R):wSs (bI [qG]) G jS (bg m Q R) (ay 2 a):=by
 obtain⟨x,p,rfl,⟨b,k,d,c⟩,q⟩:=h;show wSs _ _ jS _ [some (.int x),some (.int p)];have f:0<p:=by have:=b.1;lia
 unfold jS;fin2;refine⟨x,p,40,rfl,by decide,by lia,by lia,λg u v j i=>⟨_,rfl,?_⟩⟩;fin2;have l:g=1:=by rw[j,Int.gcd_comm,gO b d c];rfl
 rw[NM _ (by lia)];refine⟨by lia,q (u%p) (Pi _ (by lia)) (On _ f) ?_⟩;have e:u%p=u -p*(u/p):=by have:=P2 u p;lia
 rw[e];refine⟨-(v+(u/p)*x),?_⟩;have:u*x=1 -v*p:=by lia
 grind
noncomputable def jT:List CS:=[.ret (.call 0 [(.comp [0] true 1 (.var 0) (.bl true) (.bin .Mod (.var 0) (.var 2)))])]
noncomputable def cY:aX:=λc Q _=>∃(a:List Int)(p:Int),c=[wI a,.int p]/\0<p/\a.length<=1000/\∀b,cZ (a.map (·%p)) b->Q (wI b)
theorem zJ{G:Nat->W}{m:Md}(b:List W)(Q:W->Prop)(R:Addr->Prop)(h:cY b Q R):wSs (bI [cX]) G jT (bg m Q R) (ay 2 b):=by
 obtain⟨a,p,rfl,e,c,q⟩:=h;show wSs _ _ jT _ [some (wI a),some (.int p)];unfold jT wI;fin2;refine eZ (g:=λx=>.int (x%p)) a [] _ (λx f K d=>⟨by lia,?_⟩) (aj (by simpa using c)) ⟨a.map (·%p),?_,q⟩
 .dsimp only;rw[NM _ (by lia)];exact d
 .unfold wI;rw[XZ];rfl
noncomputable def fS:List CS:=[.set 3 (.blt .max2 [(.bin .Add (.bin .Sub (.blt .len [(.var 0)]) (.blt .len [(.var 1)])) (.int 1)),(.int 0)]),.set 4 (.call 0 [(.ix (.var 1) (.neg (.int 1))),(.var 2)]),.set 5 (.blt .list [(.var 0)]),.set 6 (.bin .Mult (.lst [(.int 0)]) (.var 3)),.fr [7] true (.jq [(.bin .Sub (.var 3) (.int 1)),(.neg (.int 1)),(.neg (.int 1))]) [.Bp 8 (.bin .Mod (.bin .Mult (.pop 5) (.var 4)) (.var 2)),.put 6 (.var 7) (.var 8),.fr [9] true (.jq [(.bin .Sub (.blt .len [(.var 1)]) (.int 1))]) [.put 5 (.bin .Add (.var 7) (.var 9)) (.bin .Mod (.bin .Sub (.ix (.var 5) (.bin .Add (.var 7) (.var 9))) (.bin .Mult (.var 8) (.ix (.var 1) (.var 9)))) (.var 2))]],.ret (.tup [(.var 6),(.call 1 [(.var 5)])])]
structure Rm(p:Int)(ns:List Int):Prop where
 b:∀x∈ns,0<=x/\x<p
 z:ns=[]\/ns.getD (ns.length -1) 0≠0
structure Ie(p:Int)(ns ms qs rs:List Int):Prop where
 lq:qs.length=ns.length+1 -ms.length
 lr:rs.length<ms.length
 eq:p7 p ns ms (λi=>qs.getD i 0) rs
 q:Rm p qs
 r:Rm p rs
noncomputable def aS:aX:=λe Q _=>∃(b a:List Int)(p:Int),e=[wI b,wI a,.int p]/\(af p/\p<2^40/\0<a.length/\b.length<=100/\a.length<=100/\Rm p b/\Rm p a)/\∀d c,Ie p b a d c->Q (.tup [wI d,wI c])
theorem gk{x y p:Int}(c:p<2^40)(b:0<=x/\x<p)(a:0<=y/\y<p):IntMulOk x y:=cC (n:=40) (m:=40) (by lia) (by lia) (by decide)
theorem qH{G:Nat->W}{m:Md}(ws:List W)(Q:W->Prop)(R:Addr->Prop)(h:aS ws Q R):wSs (bI [je,cX]) G fS (bg m Q R) (ay 10 ws):=by
 obtain⟨o,c,b,rfl,⟨hp,L4,P,la,lb,⟨bn,Wu⟩,⟨bm,UH⟩⟩,q⟩:=h;show wSs _ _ fS _ [some (wI o),some (wI c),some (.int b),none,none,none,none,none,none,none];have K:0<b:=by have:=hp.1;lia
 have UH:c.getD (c.length -1) 0≠0:=UH.resolve_left λz=>by rw[z]at P;cases P
 unfold fS wI;fin2;have eR:(if(0:Int)>((o.map W.int).length:Int) -((c.map W.int).length:Int)+1 then(0:Int)else((o.map W.int).length:Int) -((c.map W.int).length:Int)+1)=((o.length+1 -c.length:Nat):Int):=by rw[Ap,Ap];split<;>lia
 rw[eR];have bL:=c7 K bm (c.length -1);have eL:=xQ P;have Wv:(c.map W.int).length=c.length:=Ap _;generalize hl:c.getD (c.length -1) 0=l at*;generalize Z:o.length+1 -c.length=a at*;refine⟨_,eL,l,b,rfl,⟨hp,L4,by lia,bL.2⟩,λu Ww Wx Q2=>?_⟩;fin2;rw[Fc,fh,Cr];refine⟨aj (by simp),by lia,by lia,aj (by simp;lia),?_⟩;refine zH (by lia) ?_;fin2;refine bq (λs ε=>∃(R:List Int)(B C:Nat->Int)(v7 v8 H:Option W),(p7 b o c C R/\R.length=o.length -s/\(∀x∈R,0<=x/\x<b)/\(∀i,i<a->a -s<=i->C i=B i)/\(∀i,0<=B i/\B i<b)/\(∀i,(i<a -s\/a<=i)->C i=0)/\(0<s->b∣B (a -1)*l -o.getD (o.length -1) 0)/\(s=0->R=o))/\ε=[some (.lst (o.map W.int)),some (.lst (c.map W.int)),some (.int b),some (.int a),some (.int u),some (.lst (R.map W.int)),some (.lst ((tabI a B).map W.int)),v7,v8,H]) ?_ ?_ ?_
 .exact⟨o,λ_=>0,λ_=>0,_,_,_,⟨p7.start b o c,by lia,bn,λi U h2=>rfl,λ_=>⟨Int.le_refl _,K⟩,λ_ _=>rfl,λh=>by lia,λ_=>rfl⟩,rfl⟩
 .rintro s w _ N1 hw ⟨R,J,C,v7,v8,H,⟨dv,lR,bR,N,T,hz,M,vp⟩,rfl⟩ fu;obtain⟨B,rfl⟩:=F6 hw;rw[show((a:Nat):Int) -1 -(s:Int)=((a -1 -s:Nat):Int) by lia];generalize hpp:a -1 -s=p at*;have I:a=p+s+1:=by lia
  obtain⟨d,t⟩:∃d,c.length=d+1:=⟨_,(Nat.succ_pred_eq_of_pos P).symm⟩;have hn:o.length=p+d+(s+1):=by lia
  clear hpp Z;have e1:a -s=p+1:=by rw[I,WB,Kx]
  have e2:a -(s+1)=p:=by rw[I];exact Kx p (s+1)
  have em:p+c.length -1=p+d:=by rw[t];rfl
  have Q6:R.length=p+c.length:=by rw[lR,hn,t,<-Nat.add_assoc,WB,Kx];rfl
  obtain⟨r,x,rfl⟩:=F7 (R:=R) (by rw[Q6,t];exact Nat.succ_pos _);have Y:r.length=p+d:=by rw[Fk,t]at Q6;exact Tf Q6
  have ex:(r++[x]).getD (p+d) 0=x:=by rw[AC,Jn (Sr Y),Y,XW];rfl
  have eg:∀k,k<p+d->(r++[x]).getD k 0=r.getD k 0:=λk A=>by rw[AC,OK (by rw[Y];exact A),<-AC]
  have bx:=bR x (Fs _ (Da.mpr rfl));have Wy:∀y∈r,0<=y/\y<b:=λy L=>bR y (P3 _ L);fin2;refine⟨_,pop_at,?_⟩;rw[L3];fin2;refine⟨gk L4 bx ⟨Ww,Wx⟩,by lia,?_⟩;rw[NM _ (by lia)];have h0:0<=x*u%b:=Pi _ (by lia);have QT:x*u%b<b:=On _ K;have hh:b∣(x*u%b)*l -x:=by
   obtain⟨k,A⟩:=Q2;have e:=P2 (x*u) b;refine⟨x*k -(x*u/b)*l,?_⟩;have:x*u%b=x*u -b*(x*u/b):=by lia
   rw[this];have e2:u*l=1+b*k:=by lia
   grind
  generalize x*u%b=h at*;refine⟨p,m6 (by rw[Ap,bG,I];exact WR (YX _ _)),?_⟩;have et:=m7 (n:=a) (f:=J) (g:=λk=>if k=p then h else J k) (k:=p) (by rw[I];exact WR (YX _ _)) (λj _ hj=>Bn hj);rw[Bz rfl]at et;rw[<-Yg,et,Wv];refine⟨by lia,by lia,?_⟩;rw[show((c.length:Int) -1).toNat=d by rw[t];lia];refine bq (λj ε=>∃H:Option W,ε=[some (.lst (o.map W.int)),some (.lst (c.map W.int)),some (.int b),some (.int a),some (.int u),some (.lst ((tabI (p+d) λk=>if p<=k/\k<p+j then(r.getD k 0 -h*c.getD (k -p) 0)%b else r.getD k 0).map W.int)),some (.lst ((tabI a λk=>if k=p then h else J k).map W.int)),some (.int p),some (.int h),H]) ⟨H,?_⟩ ?_ ?_
  .rw[Cq (n:=p+d) (f:=λk=>if p<=k/\k<p+0 then(r.getD k 0 -h*c.getD (k -p) 0)%b else r.getD k 0) λk _=>Bn (show¬(p<=k/\k<p+0)from λz=>Nw _ (Gc z.2 z.1)),<-zG r Y]
  .rintro j w _ N2 uu ⟨H,rfl⟩ oi;obtain⟨hj,rfl⟩:=ic uu;have ix:p+j<p+d:=Nat.add_lt_add_left hj p;fin2;rw[show(p:Int)+(j:Int)=((p+j:Nat):Int) by lia];refine⟨_,aV (by rw[Dx,gD ix];rfl),?_⟩;rw[Bn (show¬(p<=p+j/\p+j<p+j)from λz=>Nw _ z.2)];refine⟨_,aV (int_at (by rw[t];exact SZ hj)),?_⟩;fin2;refine⟨gk L4 ⟨h0,QT⟩ (c7 K bm j),by lia,?_⟩;rw[NM _ (by lia)];refine⟨p+j,m6 (by rw[Ap,bG];exact ix),oi _ ⟨some (.int j),?_⟩⟩;have e:=m7 (n:=p+d) (f:=λk=>if p<=k/\k<p+j then(r.getD k 0 -h*c.getD (k -p) 0)%b else r.getD k 0) (g:=λk=>if p<=k/\k<p+(j+1)then(r.getD k 0 -h*c.getD (k -p) 0)%b else r.getD k 0) ix (λk _ A=>by
    by_cases v:p<=k/\k<p+j
    .rw[Bz v,Bz ⟨v.1,SZ v.2⟩]
    .rw[Bn v,Bn λz=>v ⟨z.1,XS (Nat.le_of_lt_succ z.2) A⟩])
   rw[Bz ⟨YX _ _,Qr _⟩,UM]at e;rw[<-e,Yg]
  .rintro _ ⟨H,rfl⟩;rw[L1];have mm:∀y:Int,b∣y%b -y:=λy=>⟨-(y/b),by have:=P2 y b;lia⟩;refine fu _ ⟨_,λk=>if k=p then h else J k,λi=>C i+if i=p then h else 0,_,_,_,⟨dv.step (R':=tabI (p+d) λk=>if p<=k/\k<p+d then(r.getD k 0 -h*c.getD (k -p) 0)%b else r.getD k 0) P hl.symm Q6 (by rw[bG,em]) (by rw[em,ex];exact hh) (λk A=>?_),by rw[bG,hn,Kx],λy L=>?_,λi U h2=>?_,λi=>?_,λi S=>?_,λ_=>?_,λz=>by cases z⟩,rfl⟩
   .rw[em]at A;rw[m8 A,eg k A];by_cases E:p<=k
    .rw[Bz ⟨E,A⟩,Bz E];exact mm _
    .rw[Bn λz=>E z.1,Bn E,YE,Yx];exact VI _
   .obtain⟨k,A,rfl⟩:=tU L;split
    .exact⟨Pi _ (by lia),On _ K⟩
    .exact c7 K Wy k
   .show C i+(if i=p then h else 0)=if i=p then h else J i
    by_cases O:i=p
    .rw[Bz O,Bz O,hz i (.inl (by rw[O,e1];exact Qr _)),YD]
    .rw[Bn O,Bn O,N i U (by rw[e1];rw[e2]at h2;exact XS h2 (Mo O)),W1]
   .show 0<=(if i=p then h else J i)/\(if i=p then h else J i)<b;split
    .exact⟨h0,QT⟩
    .exact T i
   .show C i+(if i=p then h else 0)=0;rw[e2,I]at S;rw[Bn (by clear dv N T hz M vp;lia),hz i (by rw[e1,I];clear dv N T hz M vp;lia),W1]
   .show b∣(if a -1=p then h else J (a -1))*l -_;by_cases D:s=0
    .have e:=vp D;rw[Bz (by rw[I,D];rfl),<-e,Fk];show b∣h*l -(r++[x]).getD (r.length+1 -1) 0;rw[Kx,Y,ex];exact hh
    .rw[Bn λz=>D (by rw[I]at z;exact Nat.add_left_cancel (show p+s=p+0 from z))];exact M (Nat.pos_of_ne_zero D)
 .rintro _ ⟨R,B,C,v7,v8,H,⟨dv,lR,bR,N,T,hz,M,_⟩,rfl⟩;rw[L1]at lR N hz M;fin2;refine⟨R,rfl,λts tr=>⟨aj (by simp),?_⟩⟩;have tl:=lP tr;have Wz:∀i,C i=(tabI a B).getD i 0:=λi=>by
   rw[F5];by_cases S:i<a
   .rw[Bz S,N i S (by lia)]
   .rw[Bn S,hz i (by lia)]
  refine q (tabI a B) ts ⟨by rw[bG];exact Z.symm,by lia,λk=>?_,⟨λy L=>?_,?_⟩,λy L=>bR y (tr.mem y L),tr.last⟩
  .have:=dv k;rw[show C=λi=>(tabI a B).getD i 0 from funext Wz]at this;rw[pZ tr];exact this
  .obtain⟨k,A,rfl⟩:=tU L;exact T k
  .by_cases hr0:a=0
   .left;rw[hr0];rfl
   .right;rw[bG,m8 (by lia)];intro z;have U:=M (by lia);rw[z,T2,Yw]at U;have nn:o.getD (o.length -1) 0≠0:=by
     rcases Wu with e|e
     .rw[e]at Z;simp only[NN]at Z;lia
     .exact e
    have bb:=c7 K bn (o.length -1);have:=X0 (by lia) (Yo.mp U);lia
end VL
namespace Alg
open Lean.Grind
local instance {R : Type} [IS R] : NatCast R := Ea
local instance {R : Type} [Ji R] : IntCast R := Eb
section
variable{R:Type}[CommRing R]
noncomputable def sR(f:Nat->R):Nat->R
 |0=>0
 |n+1=>sR f n+f n
theorem ie{f g:Nat->R}:∀n,(∀i,i<n->f i=g i)->sR f n=sR g n
 |0,_=>rfl
 |n+1,h=>by show sR f n+f n=sR g n+g n;rw[ie n λi a=>h i (by lia),h n (by lia)]
theorem vq(f g:Nat->R):∀n,sR (λi=>f i+g i) n=sR f n+sR g n
 |0=>by show(0:R)=0+0;grind
 |n+1=>by show sR _ n+(f n+g n)=(sR f n+f n)+(sR g n+g n);rw[vq f g n];grind
theorem qJ(c:R)(f:Nat->R):∀n,sR (λi=>c*f i) n=c*sR f n
 |0=>by show(0:R)=c*0;grind
 |n+1=>by show sR _ n+c*f n=c*(sR f n+f n);rw[qJ c f n];grind
theorem jf(f:Nat->R):∀n,sR f (n+1)=f 0+sR (λi=>f (i+1)) n
 |0=>by show(0:R)+f 0=f 0+0;grind
 |n+1=>by show sR f (n+1)+f (n+1)=f 0+(sR (λi=>f (i+1)) n+f (n+1));rw[jf f n];grind
theorem qK{f:Nat->R}:∀n,(∀i,i<n->f i=0)->sR f n=0
 |0,_=>rfl
 |n+1,h=>by show sR f n+f n=0;rw[qK n λi a=>h i (by lia),h n (by lia)];grind
end
noncomputable def bin:Nat->Nat->Nat
 |_,0=>1
 |0,_+1=>0
 |n+1,k+1=>bin n k+bin n (k+1)
theorem jg:∀{n k:Nat},n<k->bin n k=0
 |0,_+1,_=>rfl
 |n+1,0,h=>by cases h
 |n+1,k+1,h=>by show bin n k+bin n (k+1)=0;rw[jg (n:=n) (k:=k) (by lia),jg (n:=n) (k:=k+1) (by lia)]
theorem tW:∀n,bin n n=1
 |0=>rfl
 |n+1=>by show bin n n+bin n (n+1)=1;rw[tW n,jg (Qr n)]
theorem kW:∀n k,(k+1)*bin (n+1) (k+1)=(n+1)*bin n k
 |0,0=>rfl
 |0,k+1=>by show(k+2)*(bin 0 (k+1)+bin 0 (k+2))=1*bin 0 (k+1);rfl
 |n+1,0=>by
  have:=kW n 0;show 1*(bin (n+1) 0+bin (n+1) 1)=(n+2)*bin (n+1) 0;have e:bin (n+1) 0=1:=by cases n<;>rfl
  have g:bin n 0=1:=by cases n<;>rfl
  rw[g]at this;rw[e];show 1*(1+bin (n+1) (0+1))=(n+2)*1;lia
 |n+1,k+1=>by
  have f:=kW n k;have d:=kW n (k+1);show(k+2)*(bin (n+1) (k+1)+bin (n+1) (k+2))=(n+2)*bin (n+1) (k+1);have e:bin (n+1) (k+1)=bin n k+bin n (k+1):=rfl;have c:(k+2)*bin (n+1) (k+2)=(n+1)*bin n (k+1):=d;rw[Z6,c];have b:(k+2)*bin (n+1) (k+1)=(k+1)*bin (n+1) (k+1)+bin (n+1) (k+1):=by rw[<-Ri]
  rw[b,f];have a:(n+2)*bin (n+1) (k+1)=(n+1)*bin (n+1) (k+1)+bin (n+1) (k+1):=by rw[<-Ri]
  rw[a,e,Z6];lia
section
variable{R:Type}[CommRing R]
theorem aH(a:R)(n:Nat):a^(n+1)=a^n*a:=Semiring.pow_succ a n
theorem xR(a b:R):∀n,(a+b)^n=sR (λk=>((bin n k:Nat):R)*(a^k*b^(n -k))) (n+1)
 |0=>by show(a+b)^0=0+((1:Nat):R)*(a^0*b^0);rw[Semiring.pow_zero,Semiring.pow_zero,Semiring.pow_zero];have:((1:Nat):R)=1:=Semiring.natCast_one;rw[this];grind
 |n+1=>by
  rw[aH,xR a b n];have j:bin (n+1) 0=1:=rfl;have h:sR (λk=>((bin (n+1) k:Nat):R)*(a^k*b^(n+1 -k))) (n+2)=b*sR (λk=>((bin n k:Nat):R)*(a^k*b^(n -k))) (n+1)+a*sR (λk=>((bin n k:Nat):R)*(a^k*b^(n -k))) (n+1):=by
   rw[jf,<-qJ a,<-qJ b];have e:sR (λk=>((bin (n+1) (k+1):Nat):R)*(a^(k+1)*b^(n+1 -(k+1)))) (n+1)=sR (λk=>a*(((bin n k:Nat):R)*(a^k*b^(n -k)))) (n+1)+sR (λk=>((bin n (k+1):Nat):R)*(a^(k+1)*b^(n -k))) (n+1):=by rw[<-vq];refine ie _ λi _=>?_;show(((bin n i+bin n (i+1):Nat)):R)*(a^(i+1)*b^(n+1 -(i+1)))=_;rw[Semiring.natCast_add,Nat.add_sub_add_right,aH];grind
   have d:sR (λk=>b*(((bin n k:Nat):R)*(a^k*b^(n -k)))) (n+1)=((bin n 0:Nat):R)*(a^0*b^(n+1))+sR (λk=>((bin n (k+1):Nat):R)*(a^(k+1)*b^(n -k))) n:=by
    rw[jf];have:sR (λi=>b*(((bin n (i+1):Nat):R)*(a^(i+1)*b^(n -(i+1))))) n=sR (λk=>((bin n (k+1):Nat):R)*(a^(k+1)*b^(n -k))) n:=ie _ λi g=>by rw[show n -i=(n -(i+1))+1 by lia,aH b];grind
    rw[this,Rl,aH b];grind
   have c:sR (λk=>((bin n (k+1):Nat):R)*(a^(k+1)*b^(n -k))) (n+1)=sR (λk=>((bin n (k+1):Nat):R)*(a^(k+1)*b^(n -k))) n:=by show _+((bin n (n+1):Nat):R)*_=_;rw[jg (Qr n)];have:((0:Nat):R)=0:=Semiring.natCast_zero;rw[this];grind
   have f:bin n 0=1:=by cases n<;>rfl
   rw[e,d,c,f,Rl];show((1:Nat):R)*_+_=_;grind
  show _=sR _ (n+2);rw[h];grind
theorem Th{p:Nat}(e:Num.af p)(g:((p:Nat):R)=0)(a b:R):(a+b)^p=a^p+b^p:=by
 have k:2<=p:=by have:=e.1;lia
 obtain⟨n,rfl⟩:∃n,p=n+1:=⟨p -1,by lia⟩;rw[xR,jf];show _+(sR _ n+_)=_;rw[qK n λi l=>?_]
 .dsimp only;rw[tW];have j:bin (n+1) 0=1:=rfl;have h:((1:Nat):R)=1:=Semiring.natCast_one;rw[j,h,Rl,XW,Semiring.pow_zero,Semiring.pow_zero];grind
 .have m:=kW n i;have d:((n+1:Nat):Int)∣((i+1:Nat):Int)*(bin (n+1) (i+1):Nat):=⟨(bin n i:Nat),by exact_mod_cast m⟩;have d:((n+1:Nat):Int)∣(bin (n+1) (i+1):Nat):=(Num.sD e d).resolve_left λz=>by have:=X0 (by lia) z;lia
  obtain⟨c,f⟩:=Int.natCast_dvd_natCast.mp d;rw[f,Semiring.natCast_mul,g];grind
end
local instance {R : Type} [IS R] : NatCast R := Ea
local instance {R : Type} [Ji R] : IntCast R := Eb
section
variable{R:Type}[CommRing R]
theorem pow_mul(a:R)(m:Nat):∀n,a^(m*n)=(a^m)^n
 |0=>by rw[Nat.mul_zero,Semiring.pow_zero,Semiring.pow_zero]
 |n+1=>by rw[Nat.mul_succ,aH,<-pow_mul a m n,Semiring.pow_add]
theorem one_pow:∀n:Nat,(1:R)^n=1
 |0=>Semiring.pow_zero _
 |n+1=>by rw[aH,one_pow n];grind
theorem zero_pow:∀{n:Nat},0<n->(0:R)^n=0
 |n+1,_=>by rw[aH];grind
theorem mul_pow(a b:R):∀n:Nat,(a*b)^n=a^n*b^n
 |0=>by rw[Semiring.pow_zero,Semiring.pow_zero,Semiring.pow_zero];grind
 |n+1=>by rw[aH,aH,aH,mul_pow a b n];grind
structure kH(R:Type)[CommRing R](p:Nat):Prop where
 pr:Num.af p
 z:((p:Nat):R)=0
theorem kH.pos{p:Nat}(h:kH R p):0<p:=by have:=h.pr.1;lia
theorem kH.fr{p:Nat}(h:kH R p)(a b:R):∀j,(a+b)^(p^j)=a^(p^j)+b^(p^j)
 |0=>by rw[OA];grind
 |j+1=>by rw[N6,pow_mul,pow_mul,pow_mul,h.fr a b j,Th h.pr h.z]
theorem kH.pp{p:Nat}(h:kH R p)(j:Nat):0<p^j:=Vg h.pos
theorem kH.sub{p:Nat}(h:kH R p)(a b:R)(j:Nat):(a -b)^(p^j)=a^(p^j) -b^(p^j):=by have:=h.fr (a -b) b j;rw[show a -b+b=a by grind]at this;grind
theorem kH.nat{p:Nat}(h:kH R p)(j:Nat):∀n:Nat,((n:Nat):R)^(p^j)=(n:Nat)
 |0=>by have e:((0:Nat):R)=0:=Semiring.natCast_zero;rw[e,zero_pow (h.pp j)]
 |n+1=>by have e:((1:Nat):R)=1:=Semiring.natCast_one;rw[Semiring.natCast_add,h.fr,h.nat j n,e,one_pow]
theorem kH.mod{p:Nat}(h:kH R p)(z:Int):∃n:Nat,n<p/\((z:Int):R)=(n:Nat):=by
 have d:=h.pos;refine⟨(z%p).toNat,?_,?_⟩
 .have:=On z (show(0:Int)<p by lia);have:=Pi z (show(p:Int)≠0 by lia);lia
 .have e:z=p*(z/p)+((z%p).toNat:Int):=by have:=Pi z (show(p:Int)≠0 by lia);have:=P2 z p;lia
  have c:((z:Int):R)=(((p:Int)*(z/p)+((z%p).toNat:Int):Int):R):=GT (λz:Int=>((z:Int):R)) e;rw[c,Ring.intCast_add,Ring.intCast_mul];have b:(((p:Nat):Int):R)=((p:Nat):R):=Ring.intCast_natCast p;have a:((((z%p).toNat:Nat):Int):R)=(((z%p).toNat:Nat):R):=Ring.intCast_natCast _;rw[b,a,h.z];grind
theorem kH.int{p:Nat}(h:kH R p)(j:Nat)(z:Int):((z:Int):R)^(p^j)=(z:Int):=by obtain⟨n,_,e⟩:=h.mod z;rw[e,h.nat]
noncomputable def Ct(x:R):List Int->R
 |[]=>0
 |c::l=>((c:Int):R)+x*Ct x l
theorem kH.ev{p:Nat}(h:kH R p)(j:Nat)(x:R):∀l:List Int,Ct x l^(p^j)=Ct (x^(p^j)) l
 |[]=>zero_pow (h.pp j)
 |c::l=>by show(((c:Int):R)+x*Ct x l)^(p^j)=((c:Int):R)+x^(p^j)*Ct (x^(p^j)) l;rw[h.fr,h.int,mul_pow,h.ev j x l]
noncomputable def iD(x:R):List R->R
 |[]=>0
 |c::l=>c+x*iD x l
noncomputable def Ga(t:R):R->List R->List R
 |_,[]=>[]
 |_,s::c=>iD t (s::c)::Ga t s c
theorem xS(t:R):∀(b:List R)(r:R),(Ga t r b).length=b.length
 |[],_=>rfl
 |s::c,_=>GT (·+1) (xS t c s)
theorem Cu(t x:R):∀(b:List R)(r:R),iD x (r::b) -iD t (r::b)=(x -t)*iD x (Ga t r b)
 |[],r=>by show r+x*0 -(r+t*0)=(x -t)*0;grind
 |s::c,r=>by
  have ih:=Cu t x c s;show r+x*iD x (s::c) -(r+t*iD t (s::c))=(x -t)*(iD t (s::c)+x*iD x (Ga t s c));generalize iD x (s::c)=u at*;generalize iD t (s::c)=v at*;have:(x -t)*(v+x*iD x (Ga t s c))=(x -t)*v+x*((x -t)*iD x (Ga t s c)):=by grind
  rw[this,<-ih];grind
theorem tX{t:R}:∀(b:List R)(r:R),iD t (r::b)=0->(∀z∈Ga t r b,z=0)->∀z∈r::b,z=0
 |[],r,h,_,z,hz=>by
  rw[Da.mp hz];have e:iD t [r]=r:=by show r+t*0=r;grind
  rw[e]at h;exact h
 |s::c,r,h,d,z,hz=>by
  have a:=d _ DL;rcases Fm.mp hz with rfl|hz
  .have e:iD t (z::s::c)=z+t*iD t (s::c):=rfl;rw[e,a]at h;grind
  .exact tX c s a (λz hz=>d z (D2 _ hz)) z hz
noncomputable def PX(R:Type)[CommRing R]:Prop:=∀a b:R,a*b=0->a=0\/b=0
theorem jU(i:PX R):∀(a l:List R),a.Pairwise (·≠·)->(∀r∈a,iD r l=0)->l.length<=a.length->∀c∈l,c=0
 |_,[],_,_,_,c,f=>by cases f
 |[],r::l,_,_,g,c,f=>by cases g
 |t::a,r::b,k,h,g,c,f=>by
  have h0:=h t DL;have d:=UV.mp k;refine tX b r h0 (jU i a (Ga t r b) d.2 (λx j=>?_) (by rw[xS];simpa using g)) c f;have e:=Cu t x b r;rw[h0,h x (D2 _ j)]at e;rcases i _ _ (show(x -t)*iD x (Ga t r b)=0 by grind)with z|z
  .exact absurd (show t=x by grind) (d.1 x j)
  .exact z
structure PY(R:Type)[CommRing R]where
 mem:R->Prop
 zero:mem 0
 add:∀{a b:R},mem a->mem b->mem (a+b)
 mul:∀(c:R){a:R},mem a->mem (c*a)
variable(I:PY R)
theorem PY.neg{a:R}(h:I.mem a):I.mem (-a):=by have:=I.mul (-1) h;rw[show-1*a= -a by grind]at this;exact this
noncomputable def PY.st:Setoid R:=⟨λa b=>I.mem (a -b),λa=>by rw[show a -a=0 by grind];exact I.zero,λ{a b} h=>by rw[show b -a= -(a -b) by grind];exact I.neg h,λ{a b c} h k=>by rw[show a -c=(a -b)+(b -c) by grind];exact I.add h k⟩
noncomputable def Qt:Type:=Quotient I.st
noncomputable def Qt.mk(a:R):Qt I:=Quotient.mk I.st a
variable{I}
theorem Qt.eq{a b:R}:Qt.mk I a=Qt.mk I b↔I.mem (a -b):=⟨λh=>Quotient.exact h,λh=>Quotient.sound h⟩
theorem Qt.ex(q:Qt I):∃a,q=Qt.mk I a:=⟨_,(Quotient.exists_rep q).choose_spec.symm⟩
noncomputable def Qt.Ti(f:R->R->R)(h:∀a b c d,I.mem (a -c)->I.mem (b -d)->I.mem (f a b -f c d))(x y:Qt I):Qt I:=Quotient.lift₂ (λa b=>Qt.mk I (f a b)) (λa b c d g e=>Qt.eq.mpr (h a b c d g e)) x y
instance:Add (Qt I):=⟨Qt.Ti (·+·) λa b c d h k=>by rw[show a+b -(c+d)=(a -c)+(b -d) by grind];exact I.add h k⟩
instance:Mul (Qt I):=⟨Qt.Ti (·*·) λa b c d h k=>by rw[show a*b -c*d=b*(a -c)+c*(b -d) by grind];exact I.add (I.mul _ h) (I.mul _ k)⟩
instance:Sub (Qt I):=⟨Qt.Ti (· -·) λa b c d h k=>by rw[show a -b -(c -d)=(a -c)+ -(b -d) by grind];exact I.add h (I.neg k)⟩
instance:Neg (Qt I):=⟨λx=>WA (λa=>Qt.mk I (-a)) (λa b h=>Qt.eq.mpr (by rw[show-a - -b= -(a -b) by grind];exact I.neg h)) x⟩
instance:NatCast (Qt I):=⟨λn=>Qt.mk I (n:Nat)⟩
instance:IntCast (Qt I):=⟨λn=>Qt.mk I (n:Int)⟩
instance(n:Nat):OfNat (Qt I) n:=⟨Qt.mk I (OfNat.ofNat n)⟩
instance:SMul Nat (Qt I):=⟨λn a=>(n:Nat)*a⟩
instance:SMul Int (Qt I):=⟨λn a=>(n:Int)*a⟩
noncomputable def Qt.pw(a:Qt I):Nat->Qt I
 |0=>1
 |n+1=>Qt.pw a n*a
instance:HPow (Qt I) Nat (Qt I):=⟨Qt.pw⟩
instance:CommRing (Qt I)where
 add_zero:=λa=>by obtain⟨a,rfl⟩:=a.ex;exact GT (Qt.mk I) (show a+0=a by grind)
 add_comm:=λa b=>by obtain⟨a,rfl⟩:=a.ex;obtain⟨b,rfl⟩:=b.ex;exact GT (Qt.mk I) (show a+b=b+a by grind)
 add_assoc:=λa b c=>by obtain⟨a,rfl⟩:=a.ex;obtain⟨b,rfl⟩:=b.ex;obtain⟨c,rfl⟩:=c.ex;exact GT (Qt.mk I) (show a+b+c=a+(b+c) by grind)
 mul_assoc:=λa b c=>by obtain⟨a,rfl⟩:=a.ex;obtain⟨b,rfl⟩:=b.ex;obtain⟨c,rfl⟩:=c.ex;exact GT (Qt.mk I) (show a*b*c=a*(b*c) by grind)
 mul_one:=λa=>by obtain⟨a,rfl⟩:=a.ex;exact GT (Qt.mk I) (show a*1=a by grind)
 one_mul:=λa=>by obtain⟨a,rfl⟩:=a.ex;exact GT (Qt.mk I) (show 1*a=a by grind)
 left_distrib:=λa b c=>by obtain⟨a,rfl⟩:=a.ex;obtain⟨b,rfl⟩:=b.ex;obtain⟨c,rfl⟩:=c.ex;exact GT (Qt.mk I) (show a*(b+c)=a*b+a*c by grind)
 right_distrib:=λa b c=>by obtain⟨a,rfl⟩:=a.ex;obtain⟨b,rfl⟩:=b.ex;obtain⟨c,rfl⟩:=c.ex;exact GT (Qt.mk I) (show(a+b)*c=a*c+b*c by grind)
 zero_mul:=λa=>by obtain⟨a,rfl⟩:=a.ex;exact GT (Qt.mk I) (show 0*a=0 by grind)
 mul_zero:=λa=>by obtain⟨a,rfl⟩:=a.ex;exact GT (Qt.mk I) (show a*0=0 by grind)
 pow_zero:=λa=>rfl
 pow_succ:=λa n=>rfl
 ofNat_succ:=λn=>GT (Qt.mk I) (Semiring.ofNat_succ n)
 ofNat_eq_natCast:=λn=>GT (Qt.mk I) (Semiring.ofNat_eq_natCast n)
 nsmul_eq_natCast_mul:=λn a=>rfl
 neg_add_cancel:=λa=>by obtain⟨a,rfl⟩:=a.ex;exact GT (Qt.mk I) (show-a+a=0 by grind)
 sub_eq_add_neg:=λa b=>by obtain⟨a,rfl⟩:=a.ex;obtain⟨b,rfl⟩:=b.ex;exact GT (Qt.mk I) (show a -b=a+ -b by grind)
 neg_zsmul:=λi a=>by obtain⟨a,rfl⟩:=a.ex;exact GT (Qt.mk I) (show((-i:Int):R)*a= -(((i:Int):R)*a) by rw[Ring.intCast_neg];grind)
 zsmul_natCast_eq_nsmul:=λn a=>by obtain⟨a,rfl⟩:=a.ex;exact GT (Qt.mk I) (show(((n:Nat):Int):R)*a=((n:Nat):R)*a by rw[Ring.intCast_natCast])
 intCast_ofNat:=λn=>GT (Qt.mk I) (Ring.intCast_ofNat n)
 intCast_neg:=λi=>GT (Qt.mk I) (Ring.intCast_neg i)
 mul_comm:=λa b=>by obtain⟨a,rfl⟩:=a.ex;obtain⟨b,rfl⟩:=b.ex;exact GT (Qt.mk I) (show a*b=b*a by grind)
end
end Alg
namespace Alg
open Lean.Grind Num Sub
local instance {R : Type} [IS R] : NatCast R := Ea
local instance {R : Type} [Ji R] : IntCast R := Eb
structure Po where
 c:Nat->Int
 f:∃n,∀i,n<=i->c i=0
noncomputable def Cv(c:Int):Nat->Int:=λi=>if i=0 then c else 0
noncomputable def cst(c:Int):Po:=⟨Cv c,1,λi a=>Bn (by lia)⟩
theorem Po.ext{a b:Po}(h:∀i,a.1 i=b.1 i):a=b:=by
 cases a;cases b;cases(funext h);rfl
theorem Cw(c:Int)(f:Nat->Int)(k:Nat):cj (Cv c) f k=c*f k:=by
 cases k with
 |zero=>exact cJ _ _
 |succ k=>rw[eT,gy (f:=λi=>Cv c (i+1)) (f':=λi=>0*Cv c i) (λi=>by rw[T2];exact Bn (by lia)) (λ_=>rfl),iK];show c*f (k+1)+0*_=_;lia
instance:Add Po:=⟨λa b=>⟨λi=>a.1 i+b.1 i,by obtain⟨n,h⟩:=a.2;obtain⟨m,k⟩:=b.2;exact⟨n+m,λi hi=>by show a.1 i+b.1 i=0;rw[h i (by lia),k i (by lia)];rfl⟩⟩⟩
instance:Mul Po:=⟨λa b=>⟨cj a.1 b.1,by obtain⟨n,h⟩:=a.2;obtain⟨m,k⟩:=b.2;exact⟨n+m,λi hi=>p8 h k (by lia)⟩⟩⟩
instance:Neg Po:=⟨λa=>⟨λi=> -a.1 i,by obtain⟨n,h⟩:=a.2;exact⟨n,λi hi=>by show-a.1 i=0;rw[h i hi];rfl⟩⟩⟩
instance:Sub Po:=⟨λa b=>a+ -b⟩
instance:NatCast Po:=⟨λn=>cst n⟩
instance:IntCast Po:=⟨cst⟩
instance(n:Nat):OfNat Po n:=⟨cst n⟩
instance:SMul Nat Po:=⟨λn a=>cst n*a⟩
instance:SMul Int Po:=⟨λn a=>cst n*a⟩
noncomputable def Po.pw(a:Po):Nat->Po
 |0=>cst 1
 |n+1=>Po.pw a n*a
instance:HPow Po Nat Po:=⟨Po.pw⟩
theorem Po.mulC(a b:Po):a*b=b*a:=Po.ext λk=>eS _ _ k
theorem Po.qL(c:Int)(a:Po)(i:Nat):(cst c*a).1 i=c*a.1 i:=Cw c a.1 i
instance:CommRing Po where
 add_zero:=λa=>Po.ext λi=>by show a.1 i+(if i=0 then 0 else 0)=a.1 i;split<;>lia
 add_comm:=λa b=>Po.ext λi=>Int.add_comm _ _
 add_assoc:=λa b c=>Po.ext λi=>Int.add_assoc _ _ _
 mul_assoc:=λa b c=>Po.ext λi=>oS b.1 c.1 i a.1
 mul_one:=λa=>by rw[Po.mulC];exact Po.ext λi=>by rw[show(1:Po)=cst 1 from rfl,Po.qL,Yn]
 one_mul:=λa=>Po.ext λi=>by rw[show(1:Po)=cst 1 from rfl,Po.qL,Yn]
 left_distrib:=λa b c=>Po.ext λi=>AO a.1 b.1 c.1 i
 right_distrib:=λa b c=>Po.ext λi=>lQ a.1 b.1 c.1 i
 zero_mul:=λa=>Po.ext λi=>by rw[show(0:Po)=cst 0 from rfl,Po.qL,T2];show 0=if i=0 then(0:Int)else 0;split<;>rfl
 mul_zero:=λa=>by rw[Po.mulC];exact Po.ext λi=>by rw[show(0:Po)=cst 0 from rfl,Po.qL,T2];show 0=if i=0 then(0:Int)else 0;split<;>rfl
 pow_zero:=λa=>rfl
 pow_succ:=λa n=>rfl
 ofNat_succ:=λn=>Po.ext λi=>by show(if i=0 then((n+1:Nat):Int)else 0)=(if i=0 then(n:Int)else 0)+(if i=0 then 1 else 0);split<;>lia
 ofNat_eq_natCast:=λn=>rfl
 nsmul_eq_natCast_mul:=λn a=>rfl
 neg_add_cancel:=λa=>Po.ext λi=>by show-a.1 i+a.1 i=if i=0 then 0 else 0;split<;>lia
 sub_eq_add_neg:=λa b=>rfl
 neg_zsmul:=λi a=>Po.ext λk=>by show(cst (-i)*a).1 k= -(cst i*a).1 k;rw[Po.qL,Po.qL,W3]
 zsmul_natCast_eq_nsmul:=λn a=>rfl
 intCast_ofNat:=λn=>rfl
 intCast_neg:=λi=>Po.ext λk=>by show(if k=0 then-i else 0)= -(if k=0 then i else 0);split<;>lia
 mul_comm:=Po.mulC
noncomputable def di(l:List Int):Po:=⟨co l,l.length,λi a=>outI a⟩
noncomputable def Ip(p:Nat):PY Po:=⟨λf=>∀i,(p:Int)∣f.1 i,λi=>by show(p:Int)∣if i=0 then 0 else 0;split<;>exact⟨0,by lia⟩,λh k i=>TC (h i) (k i),λc {a} h i=>by show(p:Int)∣cj c.1 a.1 i;exact lS _ λj _=>X1 (h _) ⟨_,TB _ _⟩⟩
abbrev F(p:Nat):Type:=Qt (Ip p)
variable{p:Nat}
noncomputable def fL(p:Nat)(l:List Int):F p:=Qt.mk (Ip p) (di l)
noncomputable def X:F p:=fL p [0,1]
theorem xT{l m:List Int}:fL p l=fL p m↔∀i,(p:Int)∣l.getD i 0 -m.getD i 0:=Qt.eq
theorem F.chr(a:af p):kH (F p) p:=⟨a,Qt.eq.mpr λi=>by
 show(p:Int)∣(cst p).1 i+ -(cst 0).1 i;show(p:Int)∣(if i=0 then(p:Int)else 0)+ -(if i=0 then 0 else 0);split
 .exact⟨1,by lia⟩
 .exact⟨0,by lia⟩⟩
theorem fT(c:Int)(l:List Int):fL p (c::l)=((c:Int):F p)+X*fL p l:=by
 have:di (c::l)=cst c+di [0,1]*di l:=Po.ext λi=>by
  show(c::l).getD i 0=(if i=0 then c else 0)+cj (co [0,1]) (co l) i;cases i with
  |zero=>rw[cJ];show c=c+0*_;lia
  |succ i=>rw[eT,gy (f:=λi=>co [0,1] (i+1)) (f':=Cv 1) (λj=>by cases j<;>rfl) (λ_=>rfl),Cw];show l.getD i 0=0+(0*_+1*l.getD i 0);lia
 exact GT (Qt.mk (Ip p)) this
theorem pC:∀l:List Int,Ct (X:F p) l=fL p l
 |[]=>Qt.eq.mpr λi=>by show(p:Int)∣(cst 0).1 i+ -(co [] i);show(p:Int)∣(if i=0 then 0 else 0)+ -0;split<;>exact⟨0,by lia⟩
 |c::l=>by rw[fT,<-pC l];rfl
theorem Cy(f:F p):∃l,f=fL p l:=by
 obtain⟨⟨g,n,h⟩,rfl⟩:=f.ex;refine⟨(BB n).map g,GT (Qt.mk (Ip p)) (Po.ext λi=>?_)⟩;show g i=((BB n).map g).getD i 0;rw[AC,Dx];by_cases a:i<n
 .rw[Oy a];rfl
 .rw[FM (by rw[HI];lia),h i (by lia)];rfl
noncomputable def Dl(n:Nat)(f:F p):Prop:=WA (s:=(Ip p).st) (λg:Po=>∀i,n<=i->(p:Int)∣g.1 i) (λa b h=>propext ⟨λk i c=>by
    have:=h i;have e:(a -b).1 i=a.1 i+ -b.1 i:=rfl;rw[e]at this;have:=TH (k i c) this;rw[show a.1 i -(a.1 i+ -b.1 i)=b.1 i by lia]at this;exact this,λk i c=>by
    have:=h i;have e:(a -b).1 i=a.1 i+ -b.1 i:=rfl;rw[e]at this;have:=TC (k i c) this;rw[show b.1 i+(a.1 i+ -b.1 i)=a.1 i by lia]at this;exact this⟩) f
theorem Ig{n m:Nat}{f:F p}(h:Dl n f)(k:n<=m):Dl m f:=by obtain⟨g,rfl⟩:=f.ex;exact λi a=>h i (by lia)
theorem L5(l:List Int):Dl l.length (fL p l):=λi a=>by show(p:Int)∣l.getD i 0;rw[outI a];exact⟨0,by lia⟩
theorem Cz(f:F p):∃n,Dl n f:=by obtain⟨l,rfl⟩:=Cy f;exact⟨_,L5 l⟩
theorem qN{f:F p}:Dl 0 f↔f=0:=by
 obtain⟨g,rfl⟩:=f.ex;refine⟨λh=>Qt.eq.mpr λi=>?_,λh i _=>?_⟩
 .show(p:Int)∣g.1 i+ -(if i=0 then 0 else 0);rw[show g.1 i+ -(if i=0 then(0:Int)else 0)=g.1 i by split<;>lia];exact h i (Hn _)
 .have:=Qt.eq.mp h i;have e:(g -(0:Po)).1 i=g.1 i+ -(if i=0 then 0 else 0):=rfl;rw[e,show g.1 i+ -(if i=0 then(0:Int)else 0)=g.1 i by split<;>lia]at this;exact this
theorem L6{n:Nat}{f g:F p}(h:Dl n f)(k:Dl n g):Dl n (f+g):=by obtain⟨f,rfl⟩:=f.ex;obtain⟨g,rfl⟩:=g.ex;exact λi a=>TC (h i a) (k i a)
theorem least{P:Nat->Prop}(h:∃n,P n):∃n,P n/\∀m,P m->n<=m:=by obtain⟨n,a,k⟩:=Ek (P:=λi=>¬P i) (h.imp λ_ h k=>k h);exact⟨n,ZL.mp a,λm b=>RF λz=>k m z b⟩
noncomputable def dg(f:F p):Nat:=(least (Cz f)).choose
theorem fk(f:F p):Dl (dg f) f:=(least (Cz f)).choose_spec.1
theorem nj{n:Nat}{f:F p}(h:Dl n f):dg f<=n:=(least (Cz f)).choose_spec.2 n h
local instance {R : Type} [IS R] : NatCast R := Ea
local instance {R : Type} [Ji R] : IntCast R := Eb
variable{p:Nat}
theorem qO{g:Po}{n:Nat}(h:dg (Qt.mk (Ip p) g)=n+1):¬(p:Int)∣g.1 n:=λz=>by
 have d:=fk (Qt.mk (Ip p) g);rw[h]at d;have:Dl n (Qt.mk (Ip p) g):=λi a=>by
  by_cases e:i=n
  .rw[e];exact z
  .exact d i (by lia)
 have:=nj this;lia
theorem xU{g:Po}{n:Nat}(h:Dl (n+1) (Qt.mk (Ip p) g))(k:¬(p:Int)∣g.1 n):dg (Qt.mk (Ip p) g)=n+1:=by
 have b:=nj h;have a:=fk (Qt.mk (Ip p) g);rcases Ys (dg (Qt.mk (Ip p) g)) (n+1)with z|z
 .exact absurd (a n (by lia)) k
 .lia
theorem cD:dg (0:F p)=0:=Vm.mp (nj (qN.mpr rfl))
theorem bC{f:F p}:dg f=0↔f=0:=⟨λh=>qN.mp (h▸fk f),λh=>h▸cD⟩
theorem L7{f g:F p}{n:Nat}(h:dg f<=n)(k:dg g<=n):dg (f+g)<=n:=nj (L6 (Ig (fk f) h) (Ig (fk g) k))
theorem xV(r:af p){f g:F p}{n m:Nat}(h:dg f=n+1)(k:dg g=m+1):dg (f*g)=n+m+1:=by
 obtain⟨a,rfl⟩:=f.ex;obtain⟨b,rfl⟩:=g.ex;have o:=qO h;have l:=qO k;have d:=fk (Qt.mk (Ip p) a);have c:=fk (Qt.mk (Ip p) b);rw[h]at d;rw[k]at c;refine xU (g:=a*b) (λi u=>?_) λz=>?_
 .show(p:Int)∣cj a.1 b.1 i;refine lS _ λj _=>?_;by_cases e:n+1<=j
  .exact X1 (d j e) ⟨_,rfl⟩
  .exact X1 (c (i -j) (by lia)) ⟨_,TB _ _⟩
 .have z:(p:Int)∣cj a.1 b.1 (n+m):=z;have q:cj a.1 b.1 (n+m)=a.1 n*b.1 m+sm (λj=>if j=n then 0 else a.1 j*b.1 (n+m -j)) (n+m+1):=by
   unfold cj;have t:∀j,a.1 j*b.1 (n+m -j)=(if j=n then a.1 j*b.1 (n+m -j)else 0)+(if j=n then 0 else a.1 j*b.1 (n+m -j)):=λj=>by
    by_cases z:j=n
    .rw[Bz z,Bz z,W1]
    .rw[Bn z,Bn z,YD]
   rw[cI (n+m+1) λj _=>t j,lO,pY n (λj=>a.1 j*b.1 (n+m -j)),Bz (by lia),show n+m -n=m by lia]
  have rest:(p:Int)∣sm (λj=>if j=n then 0 else a.1 j*b.1 (n+m -j)) (n+m+1):=lS _ λj _=>by
   by_cases e:j=n
   .rw[Bz e];exact⟨0,by lia⟩
   .rw[Bn e];by_cases s:n+1<=j
    .exact X1 (d j s) ⟨_,rfl⟩
    .exact X1 (c (n+m -j) (by lia)) ⟨_,TB _ _⟩
  have:=TH z rest;rw[q,show a.1 n*b.1 m+sm (λj=>if j=n then 0 else a.1 j*b.1 (n+m -j)) (n+m+1) -sm (λj=>if j=n then 0 else a.1 j*b.1 (n+m -j)) (n+m+1)=a.1 n*b.1 m by lia]at this;exact(sD r this).elim o l
theorem F.Ih(c:af p):PX (F p):=λa b h=>by
 by_cases e:dg a=0
 .exact .inl (bC.mp e)
 by_cases d:dg b=0
 .exact .inr (bC.mp d)
 have:=xV c (f:=a) (g:=b) (n:=dg a -1) (m:=dg b -1) (by lia) (by lia);rw[h,cD]at this;lia
theorem bD(a:af p){f g:F p}(h:f≠0)(k:g≠0):dg (f*g)+1=dg f+dg g:=by have c:dg f≠0:=λz=>h (bC.mp z);have b:dg g≠0:=λz=>k (bC.mp z);have:=xV a (f:=f) (g:=g) (n:=dg f -1) (m:=dg g -1) (by lia) (by lia);lia
theorem L8(c:Int):((c:Int):F p)=Qt.mk (Ip p) (cst c):=rfl
theorem bZ{c:Int}:((c:Int):F p)=0↔(p:Int)∣c:=by
 rw[L8,<-qN];refine⟨λh=>h 0 (BM _),λh i _=>?_⟩;show(p:Int)∣if i=0 then c else 0
 split
 .exact h
 .exact⟨0,by lia⟩
theorem qP(a:af p){c:Int}(h:¬(p:Int)∣c):∃y:Int,((y:Int):F p)*((c:Int):F p)=1:=by
 have f:2<=p:=by have:=a.1;lia
 obtain⟨n,rfl⟩:∃n,p=n+2:=⟨p -2,by lia⟩;have C:=F.chr a;have e:=C.int 1 c;rw[Sn]at e;have pc:∀k:Nat,((c^k:Int):F (n+2))=((c:Int):F (n+2))^k:=λk=>by
  induction k with
  |zero=>rw[Yy,Semiring.pow_zero];exact Ring.intCast_one
  |succ k b=>rw[Yz,Ring.intCast_mul,b,aH]
 refine⟨c^n,?_⟩;rw[pc];rw[aH,aH]at e;generalize((c:Int):F (n+2))^n=u at*;have d:((c:Int):F (n+2))≠0:=λz=>h (bZ.mp z);generalize((c:Int):F (n+2))=v at*;rcases F.Ih a v (u*v -1) (by grind)with z|z
 .exact absurd z d
 .grind
noncomputable def mono(j:Nat)(c:Int):Po:=⟨λi=>if i=j then c else 0,j+1,λi a=>Bn (by lia)⟩
theorem Gb(j:Nat)(c:Int)(g:Nat->Int)(k:Nat):cj (mono j c).1 g k=if j<=k then c*g (k -j)else 0:=by
 have:=AM c (λ_=>0) g j k;rw[gy (f':=(mono j c).1) (λi=>by show 0+(if i=j then c else 0)=if i=j then c else 0;lia) (λ_=>rfl)]at this;rw[this];have z:cj (λ_=>0) g k=0:=by rw[gy (f':=λi=>0*g i) (λi=>by lia) (λ_=>rfl),iK];lia
 rw[z];lia
theorem vt(v:af p){b:F p}(C:b≠0):∀(n:Nat)(a:F p),dg a<=n->∃q r,a=b*q+r/\dg r<dg b:=by
 have E:dg b≠0:=λz=>C (bC.mp z);intro n
 induction n with
 |zero=>intro a h;exact⟨0,a,by grind,by lia⟩
 |succ n s=>
  intro a h;by_cases g:dg a<dg b
  .exact⟨0,a,by grind,g⟩
  obtain⟨m,j⟩:∃m,dg b=m+1:=⟨dg b -1,by lia⟩;obtain⟨k,x⟩:∃k,dg a=k+1:=⟨dg a -1,by lia⟩;obtain⟨c,rfl⟩:=a.ex;obtain⟨d,rfl⟩:=b.ex;obtain⟨y,f⟩:=qP v (qO j);have o:=fk (Qt.mk (Ip p) c);have l:=fk (Qt.mk (Ip p) d);rw[x]at o;rw[j]at l;have f:(p:Int)∣y*d.1 m -1:=by
   have e:((y*d.1 m -1:Int):F p)=0:=by rw[Ring.intCast_sub,Ring.intCast_mul,f,Ring.intCast_one];grind
   exact bZ.mp e
  have B:Dl k (Qt.mk (Ip p) (c -mono (k -m) (c.1 k*y)*d)):=λi D=>by
   show(p:Int)∣c.1 i+ -cj (mono (k -m) (c.1 k*y)).1 d.1 i;rw[Gb,Bz (by lia)];by_cases e:i=k
   .rw[e,show k -(k -m)=m by lia];obtain⟨w,t⟩:=f;exact⟨-(c.1 k*w),by
     have:c.1 k+ -(c.1 k*y*d.1 m)= -(c.1 k*(y*d.1 m -1)):=by grind
     rw[this,t];grind⟩
   .exact TC (o i (by lia)) (Yo.mpr (X1 (l (i -(k -m)) (by lia)) ⟨_,TB _ _⟩))
  obtain⟨q,r,e,u⟩:=s _ (IH (nj B) (by lia));refine⟨q+Qt.mk (Ip p) (mono (k -m) (c.1 k*y)),r,?_,u⟩;have A:Qt.mk (Ip p) (c -mono (k -m) (c.1 k*y)*d)=Qt.mk (Ip p) c -Qt.mk (Ip p) (mono (k -m) (c.1 k*y))*Qt.mk (Ip p) d:=rfl;rw[A]at e;grind
noncomputable def Dd(d a:F p):Prop:=∃q,a=d*q
theorem CA(f:af p):∀(n:Nat)(a b:F p),dg b<=n->∃d u v,d=u*a+v*b/\Dd d a/\Dd d b:=by
 intro n
 induction n with
 |zero=>intro a b h;have:=bC.mp (Vm.mp h);exact⟨a,1,0,by grind,⟨1,by grind⟩,⟨0,by grind⟩⟩
 |succ n c=>
  intro a b h;by_cases i:b=0
  .exact⟨a,1,0,by grind,⟨1,by grind⟩,⟨0,by grind⟩⟩
  .obtain⟨q,r,e,j⟩:=vt f i _ a (BM _);obtain⟨d,u,v,l,⟨s,g⟩,⟨t,k⟩⟩:=c b r (by lia);exact⟨d,v,u -v*q,by grind,⟨s*q+t,by grind⟩,⟨s,g⟩⟩
theorem dj(c:af p){a:F p}(h:dg a=1):∃y,y*a=1:=by
 obtain⟨g,rfl⟩:=a.ex;have t:=qO (n:=0) h;obtain⟨y,b⟩:=qP c t;refine⟨(y:Int),?_⟩;have e:Qt.mk (Ip p) g=((g.1 0:Int):F p):=Qt.eq.mpr λi=>by
  have d:=fk (Qt.mk (Ip p) g);rw[h]at d;show(p:Int)∣g.1 i+ -(if i=0 then g.1 0 else 0);by_cases z:i=0
  .rw[Bz z,z];exact⟨0,by lia⟩
  .rw[Bn z];have:=d i (by lia);rw[show g.1 i+ -0=g.1 i by lia];exact this
 rw[e];exact b
structure cG(P:F p):Prop where
 two:2<=dg P
 no:∀a b,P=a*b->dg a=1\/dg b=1
theorem cG.ne{P:F p}(h:cG P):P≠0:=λz=>by have:=h.two;rw[z,cD]at this;lia
theorem cG.euclid(f:af p){P:F p}(h:cG P){a b:F p}(g:Dd P (a*b)):Dd P a\/Dd P b:=by
 obtain⟨d,u,v,e,⟨s,j⟩,⟨t,i⟩⟩:=CA f _ P a (BM _);obtain⟨w,k⟩:=g;rcases h.no d s j with z|z
 .obtain⟨y,c⟩:=dj f z;refine .inr ⟨y*(u*b+v*w),?_⟩;have:b=y*d*b:=by rw[c];grind
  rw[this,e];grind
 .obtain⟨y,c⟩:=dj f z;refine .inl ⟨y*t,?_⟩;have:d=P*y:=by
   have:d=d*(y*s):=by rw[c];grind
   grind
  rw[i,this];grind
theorem gp(l:af p):∀(n:Nat)(f:F p),dg f<=n->2<=dg f->∃P,cG P/\Dd P f:=by
 intro n
 induction n with
 |zero=>intro f h k;lia
 |succ n j=>
  intro f h k;by_cases c:∀a b,f=a*b->dg a=1\/dg b=1
  .exact⟨f,⟨k,c⟩,1,by grind⟩
  .obtain⟨a,r⟩:=Tz.mp c;obtain⟨b,o⟩:=Tz.mp r;obtain⟨e,m⟩:=ZM.mp o;obtain⟨v,u⟩:=not_or.mp m;have d:f≠0:=λz=>by rw[z,cD]at k;lia
   have i:a≠0:=λz=>d (by rw[e,z];grind);have g:b≠0:=λz=>d (by rw[e,z];grind);have:=bD l i g;rw[<-e]at this;have x:dg a≠0:=λz=>i (bC.mp z);have w:dg b≠0:=λz=>g (bC.mp z);obtain⟨P,s,q,t⟩:=j a (by lia) (by lia);exact⟨P,s,q*b,by grind⟩
noncomputable def Pr(P:F p):PY (F p):=⟨Dd P,⟨0,by grind⟩,λ{a b} ⟨q,d⟩ ⟨r,e⟩=>⟨q+r,by grind⟩,λc {a} ⟨q,d⟩=>⟨c*q,by grind⟩⟩
abbrev Kf(P:F p):Type:=Qt (Pr P)
theorem Kf.chr(a:af p)(P:F p):kH (Kf P) p:=⟨a,by have:=(F.chr a).z;exact GT (Qt.mk (Pr P)) this⟩
theorem Kf.zero{P f:F p}:Qt.mk (Pr P) f=0↔Dd P f:=by have:Qt.mk (Pr P) f=Qt.mk (Pr P) 0↔Dd P (f -0):=Qt.eq;rw[show f -0=f by grind]at this;exact this
theorem Kf.Ih(c:af p){P:F p}(h:cG P):PX (Kf P):=λa b e=>by obtain⟨a,rfl⟩:=a.ex;obtain⟨b,rfl⟩:=b.ex;have e:Qt.mk (Pr P) (a*b)=0:=e;exact(h.euclid c (Kf.zero.mp e)).imp Kf.zero.mpr Kf.zero.mpr
local instance {R : Type} [IS R] : NatCast R := Ea
local instance {R : Type} [Ji R] : IntCast R := Eb
section
variable{R:Type}[CommRing R]
theorem CB(b:PX R){a:R}:∀n:Nat,a^n=0->a=0\/(1:R)=0
 |0,h=>.inr (by rw[Semiring.pow_zero]at h;exact h)
 |n+1,h=>by
  rw[aH]at h;rcases b _ _ h with z|z
  .exact CB b n z
  .exact .inl z
theorem CC(x:R):∀l:List Int,Ct x l=iD x (l.map λz:Int=>((z:Int):R))
 |[]=>rfl
 |c::l=>by show _+x*Ct x l=_+x*iD x _;rw[CC x l]
noncomputable def ml(t:R):R->List R->List R
 |c,[]=>[c]
 |c,a::l=>(c -t*a)::ml t a l
theorem vv(t:R):∀(l:List R)(c:R),(ml t c l).length=l.length+1
 |[],_=>rfl
 |a::l,c=>by show(ml t a l).length+1=_;rw[vv t l a];rfl
theorem Ii(t x:R):∀(l:List R)(c:R),iD x (ml t c l)=c+(x -t)*iD x l
 |[],c=>by show c+x*0=c+(x -t)*0;grind
 |a::l,c=>by show c -t*a+x*iD x (ml t a l)=c+(x -t)*(a+x*iD x l);rw[Ii t x l a];grind
theorem xW(t:R):∀(l:List R)(c:R),(ml t c l).getLast?=(c::l).getLast?
 |[],c=>rfl
 |a::l,c=>by
  show((c -t*a)::ml t a l).getLast?=_;have n:ml t a l≠[]:=λz=>by have:=vv t l a;rw[z]at this;cases this
  obtain⟨u,b,e⟩:=Tj n;rw[e,YZ,<-e,xW t l a,YZ]
theorem xX(s t:R):∀(l:List R)(c e b:R),e -s*c=b -t*c->ml s e (ml t c l)=ml t b (ml s c l)
 |[],c,e,b,h=>by show[e -s*c,c]=[b -t*c,c];rw[h]
 |a::l,c,e,b,h=>by show(e -s*(c -t*a))::ml s (c -t*a) (ml t a l)=(b -t*(c -s*a))::ml t (c -s*a) (ml s a l);rw[xX s t l a (c -t*a) (c -s*a) (by grind)];congr 1;grind
noncomputable def b8:List R->List R
 |[]=>[1]
 |t::a=>ml t 0 (b8 a)
theorem jV:∀a:List R,(b8 a).length=a.length+1
 |[]=>rfl
 |t::a=>by show(ml t 0 (b8 a)).length=_;rw[vv,jV a];rfl
theorem ny:∀a:List R,(b8 a).getLast?=some 1
 |[]=>rfl
 |t::a=>by
  show(ml t 0 (b8 a)).getLast?=_;have n:b8 a≠[]:=λz=>by have:=jV a;rw[z]at this;cases this
  obtain⟨u,b,e⟩:=Tj n;rw[xW,e,YZ,<-e,ny a]
theorem pF(t:R):∀a:List R,b8 (a++[t])=b8 (t::a)
 |[]=>rfl
 |s::a=>by show ml s 0 (b8 (a++[t]))=ml t 0 (ml s 0 (b8 a));rw[pF t a];exact xX s t (b8 a) 0 0 0 (by grind)
theorem xY{p:Nat}(h:kH R p)(t:R):∀(l:List R)(c:R),(ml t c l).map (·^p)=ml (t^p) (c^p) (l.map (·^p))
 |[],c=>rfl
 |a::l,c=>by show(c -t*a)^p::(ml t a l).map (·^p)=(c^p -t^p*a^p)::ml (t^p) (a^p) (l.map (·^p));have:=h.sub c (t*a) 1;rw[Sn]at this;rw[this,mul_pow,xY h t l a]
theorem nA{p:Nat}(h:kH R p):∀a:List R,(b8 a).map (·^p)=b8 (a.map (·^p))
 |[]=>by show[(1:R)^p]=[1];rw[one_pow]
 |t::a=>by show(ml t 0 (b8 a)).map (·^p)=ml (t^p) 0 (b8 (a.map (·^p)));rw[xY h,zero_pow h.pos,nA h a]
noncomputable def dd(L:List (R×R))(i:Nat):R:=match L with
 |[]=>0
 |(c,t)::L=>c*t^i+dd L i
theorem xZ(u:R)(i:Nat):∀L:List (R×R),dd (L.map λx=>(x.1*(x.2 -u),x.2)) i=dd L (i+1) -u*dd L i
 |[]=>by show(0:R)=0 -u*0;grind
 |(c,t)::L=>by show c*(t -u)*t^i+dd (L.map _) i=c*t^(i+1)+dd L (i+1) -u*(c*t^i+dd L i);rw[xZ u i L,aH];grind
theorem tY(g:PX R):∀(n:Nat)(L:List (R×R)),L.length<=n->L.Pairwise (λx y=>x.2≠y.2)->(∀i,dd L i=0)->∀x∈L,x.1=0
 |_,[],_,_,_,x,a=>by cases a
 |0,_::_,d,_,_,x,a=>by cases d
 |n+1,(c,u)::L,d,l,h,x,a=>by
  have hd':=UV.mp l;have e:∀i,dd (L.map λx=>(x.1*(x.2 -u),x.2)) i=0:=λi=>by rw[xZ];have m:c*u^(i+1)+dd L (i+1)=0:=h (i+1);have r:c*u^i+dd L i=0:=h i;rw[aH]at m;grind
  have z:=tY g n _ (by rw[Ap];simpa using d) (by rw[X4];exact hd'.2) e;have f:∀y∈L,y.1=0:=λy b=>by
   have:=z _ (IR.mpr ⟨y,b,rfl⟩);rcases g _ _ this with k|k
   .exact k
   .exact absurd (show u=y.2 by grind) (hd'.1 y b)
  rcases Fm.mp a with rfl|a
  .have o:c*u^0+dd L 0=0:=h 0;have q:∀L:List (R×R),(∀y∈L,y.1=0)->dd L 0=0:=λL=>by
    induction L with
    |nil=>intro _;rfl
    |cons y L j=>intro k;show y.1*y.2^0+dd L 0=0;rw[k y DL,j λy b=>k y (D2 _ b)];grind
   rw[q L f,Semiring.pow_zero]at o;show c=0;grind
  .exact f x a
end
local instance {R : Type} [IS R] : NatCast R := Ea
local instance {R : Type} [Ji R] : IntCast R := Eb
variable{p:Nat}
theorem x6(M:F p):∀l:List Int,Qt.mk (Pr M) (fL p l)=Ct (Qt.mk (Pr M) X) l
 |[]=>by rw[<-pC];rfl
 |c::l=>by rw[fT];show Qt.mk (Pr M) ((c:Int):F p)+Qt.mk (Pr M) X*Qt.mk (Pr M) (fL p l)=_;rw[x6 M l];rfl
theorem d9(M f:F p):∀n:Nat,Qt.mk (Pr M) (f^n)=Qt.mk (Pr M) f^n
 |0=>by rw[Semiring.pow_zero,Semiring.pow_zero];rfl
 |n+1=>by rw[aH,aH,<-d9 M f n];rfl
theorem mk_eq{M a b:F p}:Qt.mk (Pr M) a=Qt.mk (Pr M) b↔Dd M (a -b):=Qt.eq
theorem vA(a:af p){M:F p}{d:Nat}(h:Dd M ((X:F p)^(p^d) -X))(y:Kf M):y^(p^d)=y:=by
 obtain⟨f,rfl⟩:=y.ex;obtain⟨l,rfl⟩:=Cy f;have e:Qt.mk (Pr M) X^(p^d)=Qt.mk (Pr M) X:=by rw[<-d9];exact mk_eq.mpr h
 rw[x6,(Kf.chr a M).ev,e]
theorem Dd.trans{a b c:F p}(h:Dd a b)(k:Dd b c):Dd a c:=by obtain⟨q,e⟩:=h;obtain⟨r,d⟩:=k;exact⟨q*r,by grind⟩
theorem PZ(a:af p){M Q:F p}{d:Nat}(h:Dd M ((X:F p)^(p^d) -X))(y:1<=d)(j:Dd (Q*Q) M)(m:M≠0):dg Q=1:=by
 have l:2<=p:=by have:=a.1;lia
 have s:2<=p^d:=IH l (Nat.le_self_pow (by lia) p);have e:=vA a (j.trans h) (Qt.mk (Pr (Q*Q)) Q);have sq:Qt.mk (Pr (Q*Q)) Q*Qt.mk (Pr (Q*Q)) Q=0:=Kf.zero.mpr ⟨1,by grind⟩;obtain⟨n,q⟩:∃n,p^d=n+2:=⟨p^d -2,by lia⟩;rw[q,aH,aH]at e;have z:Qt.mk (Pr (Q*Q)) Q=0:=by generalize Qt.mk (Pr (Q*Q)) Q^n=u at*;generalize Qt.mk (Pr (Q*Q)) Q=v at*;grind
 obtain⟨w,t⟩:=Kf.zero.mp z;have b:Q≠0:=λz=>m (by obtain⟨r,o⟩:=j;rw[o,z];grind);have f:Q*w=1:=by
  rcases F.Ih a Q (1 -Q*w) (by grind)with k|k
  .exact absurd k b
  .grind
 have one:dg (1:F p)=1:=by
  refine xU (g:=cst 1) (λi x=>?_) λz=>?_
  .show(p:Int)∣if i=0 then 1 else 0
   rw[Bn (by lia)];exact⟨0,by lia⟩
  .have z:(p:Int)∣1:=z;have:=X0 (by decide) z;lia
 have c:w≠0:=λz=>by
  rw[z]at f;have:(1:F p)=0:=by grind
  rw[this,cD]at one;cases one
 have:=bD a b c;rw[f,one]at this;have B:dg Q≠0:=λz=>b (bC.mp z);have A:dg w≠0:=λz=>c (bC.mp z);lia
theorem ig(a:af p):dg (1:F p)=1:=by
 refine xU (g:=cst 1) (λi b=>?_) λz=>?_
 .show(p:Int)∣if i=0 then 1 else 0
  rw[Bn (by lia)];exact⟨0,by lia⟩
 .have z:(p:Int)∣1:=z;have:=X0 (by decide) z;have:=a.1;lia
theorem Dd.len(f:af p){a b:F p}(h:Dd a b)(e:b≠0):dg a<=dg b:=by obtain⟨q,c⟩:=h;have g:a≠0:=λz=>e (by rw[c,z];grind);have d:q≠0:=λz=>e (by rw[c,z];grind);have:=bD f g d;rw[<-c]at this;have:dg q≠0:=λz=>d (bC.mp z);lia
theorem qQ(a:af p)(c:Int):dg ((c:Int):F p)<=1:=nj λi b=>by
 show(p:Int)∣if i=0 then c else 0
 rw[Bn (by lia)];exact⟨0,by lia⟩
theorem pG(a:af p){P:F p}(h:cG P){c:Int}:((c:Int):Kf P)=0↔(p:Int)∣c:=by
 have e:((c:Int):Kf P)=Qt.mk (Pr P) ((c:Int):F p):=rfl;rw[e,Kf.zero];refine⟨λk=>?_,λk=>?_⟩
 .by_cases z:((c:Int):F p)=0
  .exact bZ.mp z
  .have:=k.len a z;have:=qQ a c;have:=h.two;lia
 .rw[bZ.mpr k];exact⟨0,by grind⟩
theorem x8(a:af p){P:F p}(h:cG P):(1:Kf P)≠0:=λz=>by have e:((1:Int):Kf P)=1:=Ring.intCast_one;rw[<-e]at z;have:=X0 (by decide) ((pG a h).mp z);have:=a.1;lia
theorem CD{R:Type}[CommRing R](x:R):∀n:Nat,iD x (Aq n 0++[1])=x^n
 |0=>by show 1+x*0=x^0;rw[Semiring.pow_zero];grind
 |n+1=>by rw[JH];show 0+x*iD x (Aq n 0++[1])=_;rw[CD x n,aH];grind
theorem Ij(d:af p){P:F p}(h:cG P){c:Kf P}(q:c^p=c):∃n:Nat,n<p/\c=(n:Nat):=by
 apply FV;intro k;have v:2<=p:=by have:=d.1;lia
 obtain⟨m,o⟩:∃m,p=m+2:=⟨p -2,by lia⟩;have C:=Kf.chr d P;have j:∀x:Kf P,x^p=x->iD x (0::(-1)::(Aq m 0++[1]))=0:=λx f=>by show 0+x*(-1+x*iD x (Aq m 0++[1]))=0;rw[CD];have u:x^(m+2)=x:=(GT (x^·) o).symm.trans f;rw[aH,aH]at u;grind
 have z:=jU (Kf.Ih d h) (c::(BB p).map λn:Nat=>((n:Nat):Kf P)) (0::(-1)::(Aq m 0++[1])) ?_ (λr g=>j r ?_) (by simp;lia) 1 (by simp)
 .exact x8 d h z
 .refine UV.mpr ⟨λx f e=>?_,?_⟩
  .obtain⟨n,l,rfl⟩:=IR.mp f;exact k ⟨n,Ki.mp l,e⟩
  .rw[X4];refine Qd (λ{a b} w i (s:a<b) e=>?_) (Yf (n:=p));have i:=Ki.mp i;have t:((((b:Nat):Int) -((a:Nat):Int):Int):Kf P)=0:=by rw[Ring.intCast_sub,Ring.intCast_natCast,Ring.intCast_natCast,e];grind
   have:=X0 (by lia) ((pG d h).mp t);lia
 .rcases Fm.mp g with rfl|g
  .exact q
  .obtain⟨n,_,rfl⟩:=IR.mp g;have:=C.nat 1 n;rw[Sn]at this;exact this
structure Od(d:Nat)(P:F p):Prop where
 d1:1<=d
 yes:Dd P ((X:F p)^(p^d) -X)
 no:∀m,1<=m->m<d->¬Dd P ((X:F p)^(p^m) -X)
theorem tZ(c:af p){P:F p}(h:cG P){a b:Kf P}{j:Nat}(e:a^(p^j)=b^(p^j)):a=b:=by
 have:=(Kf.chr c P).sub a b j;rcases CB (Kf.Ih c h) (a:=a -b) (p^j) (by grind)with z|z
 .grind
 .exact absurd z (x8 c h)
theorem Od.unlike(f:af p){P:F p}{d:Nat}(h:cG P)(o:Od d P):((BB d).map λj=>(Qt.mk (Pr P) X:Kf P)^(p^j)).Pairwise (·≠·):=by rw[X4];refine Qd (λ{a b} i c (g:a<b) e=>?_) (Yf (n:=d));have c:=Ki.mp c;refine o.no (b -a) (by lia) (by lia) (mk_eq.mp ?_);rw[d9];refine tZ f h (j:=a) ?_;rw[<-pow_mul,<-Yk,show b -a+a=b by lia];exact e.symm
theorem Od.dg(b:af p){P:F p}{d:Nat}(h:cG P)(o:Od d P):dg P=d+1:=by
 have C:=Kf.chr b P;have B:=Kf.Ih b h;have N:=h.ne;have d1:=o.d1;have x:∀y:Kf P,y^(p^d)=y:=vA b o.yes;generalize v:(Qt.mk (Pr P) X:Kf P)=a at*;have w:=o.unlike b h;rw[v]at w;have D:d+1<=Alg.dg P:=by
  apply FV;intro O;obtain⟨l,R,e⟩:∃l:List Int,l.length=Alg.dg P/\P=fL p l:=by
   obtain⟨g,e⟩:=P.ex;refine⟨(BB (Alg.dg P)).map g.1,by rw[Ap,HI],?_⟩;rw[e];refine Qt.eq.mpr λi=>?_;show(p:Int)∣g.1 i+ -(((BB (Alg.dg (Qt.mk (Ip p) g))).map g.1).getD i 0);rw[AC,Dx];by_cases s:i<Alg.dg (Qt.mk (Ip p) g)
   .rw[Oy s];show(p:Int)∣g.1 i+ -g.1 i;exact⟨0,by lia⟩
   .rw[FM (by rw[HI];lia)];show(p:Int)∣g.1 i+ -0;have:=fk (Qt.mk (Ip p) g) i (by lia);rw[show g.1 i+ -0=g.1 i by lia];exact this
  have K:Ct a l=0:=by rw[<-v,<-x6,<-e];exact Kf.zero.mpr ⟨1,by grind⟩
  have z:=jU B ((BB d).map λj=>a^(p^j)) (l.map λz:Int=>((z:Int):Kf P)) w (λr H=>?_) (by rw[Ap,Ap,HI];lia)
  .refine N ?_;rw[e];refine((xT (m:=[])).mpr λi=>?_).trans (pC []).symm;show(p:Int)∣l.getD i 0 -0;by_cases s:i<l.length
   .have:=z _ (IR.mpr ⟨_,getD_mem' s,rfl⟩);have:=(pG b h).mp this;rw[YE];exact this
   .rw[outI (by lia)];exact⟨0,by lia⟩
  .obtain⟨j,_,rfl⟩:=IR.mp H;rw[<-CC,<-C.ev,K,zero_pow (C.pp j)]
 refine Y6 ?_ D;have u:(b8 ((BB d).map λj=>a^(p^j))).map (·^p)=b8 ((BB d).map λj=>a^(p^j)):=by
  rw[nA C,XZ];obtain⟨n,rfl⟩:∃n,d=n+1:=⟨d -1,by lia⟩;have J:(BB (n+1)).map ((·^p)∘λj=>a^(p^j))=(BB n).map (λj=>a^(p^(j+1)))++[a]:=by
   rw[Wl,PQ];congr 1
   .refine QR λj _=>?_;show(a^(p^j))^p=_;rw[<-pow_mul,<-N6]
   .show[(a^(p^n))^p]=[a];rw[<-pow_mul,<-N6,x]
  have I:(BB (n+1)).map (λj=>a^(p^j))=a::(BB n).map λj=>a^(p^(j+1)):=by rw[XX,Kk,XZ,OA];congr 1;rw[aH,Semiring.pow_zero];grind
  rw[J,I,pF]
 have f:∀c∈b8 ((BB d).map λj=>a^(p^j)),∃n:Nat,n<p/\c=(n:Nat):=λc t=>by refine Ij b h ?_;obtain⟨i,s,rfl⟩:=SU t;have:=GT (λl:List (Kf P)=>l[i]?) u;simp only[Dx,B1 s,MI]at this;exact He this
 obtain⟨m,q⟩:∃m:List Int,b8 ((BB d).map λj=>a^(p^j))=m.map λz:Int=>((z:Int):Kf P):=by
  generalize b8 ((BB d).map λj=>a^(p^j))=L at f
  induction L with
  |nil=>exact⟨[],rfl⟩
  |cons c L E=>obtain⟨m,q⟩:=E λc t=>f c (D2 _ t);obtain⟨n,_,e⟩:=f c DL;refine⟨(n:Int)::m,?_⟩;rw[Kk,<-q,e,Ring.intCast_natCast]
 have Q:m.length=d+1:=by have:=GT VX q;rw[jV,Ap,Ap,HI]at this;exact this.symm
 have A:Ct a m=0:=by rw[CC,<-q];obtain⟨n,rfl⟩:∃n,d=n+1:=⟨d -1,by lia⟩;rw[XX,Kk];show iD a (ml (a^(p^0)) 0 _)=0;rw[Ii,OA,aH,Semiring.pow_zero];grind
 have dv:Dd P (fL p m):=Kf.zero.mp (by rw[x6,v];exact A);have M:fL p m≠0:=λz=>by have k:=ny ((BB d).map λj=>a^(p^j));rw[q,List.getLast?_map]at k;obtain⟨y,G,e⟩:=Iy.mp k;have:=(xT (l:=m) (m:=[])).mp (by rw[z,<-pC];rfl) (m.length -1);rw[AC,<-YL,G]at this;have this:(p:Int)∣y -0:=this;rw[YE]at this;have:=(pG b h).mpr this;rw[e]at this;exact x8 b h this
 have:=dv.len b M;have:=nj (L5 (p:=p) m);lia
local instance {R : Type} [IS R] : NatCast R := Ea
local instance {R : Type} [Ji R] : IntCast R := Eb
section
variable{R:Type}[CommRing R]
noncomputable def tr(p d:Nat)(f:R):R:=sR (λj=>f^(p^j)) d
theorem CF{p:Nat}(h:kH R p)(d:Nat)(f g:R):tr p d (f+g)=tr p d f+tr p d g:=by unfold tr;rw[<-vq];exact ie d λj _=>h.fr f g j
theorem Ik{p:Nat}(h:kH R p)(d:Nat)(c:Int)(f:R):tr p d (((c:Int):R)*f)=((c:Int):R)*tr p d f:=by unfold tr;rw[<-qJ];exact ie d λj _=>by rw[mul_pow,h.int]
theorem qR{p:Nat}(h:kH R p)(d:Nat):tr p d (0:R)=0:=qK d λj _=>zero_pow (h.pp j)
theorem CG{p:Nat}(h:kH R p)(f:Nat->R):∀n,(sR f n)^p=sR (λi=>f i^p) n
 |0=>zero_pow h.pos
 |n+1=>by have:=h.fr (sR f n) (f n) 1;rw[Sn]at this;show(sR f n+f n)^p=_;rw[this,CG h f n];rfl
theorem Ma{p d:Nat}(h:kH R p){f:R}(e:f^(p^d)=f):(tr p d f)^p=tr p d f:=by
 unfold tr;rw[CG h];have g:sR (λi=>(f^(p^i))^p) d=sR (λi=>f^(p^(i+1))) d:=ie d λi _=>by rw[<-pow_mul,<-N6]
 have a:=jf (λi=>f^(p^i)) d;have c:sR (λi=>f^(p^i)) (d+1)=sR (λi=>f^(p^i)) d+f^(p^d):=rfl;rw[g];rw[c,e,OA]at a;have b:f^1=f:=by rw[aH,Semiring.pow_zero];grind
 rw[b]at a;grind
theorem CH(x:R×R)(i:Nat):∀L:List (R×R),dd (L++[x]) i=dd L i+x.1*x.2^i
 |[]=>by show x.1*x.2^i+0=0+_;grind
 |y::L=>by show y.1*y.2^i+dd (L++[x]) i=y.1*y.2^i+dd L i+_;rw[CH x i L];grind
theorem t6(g:Nat->R)(i:Nat):∀d,dd ((BB d).map λj=>((1:R),g j)) i=sR (λj=>g j^i) d
 |0=>rfl
 |d+1=>by rw[Wl,PQ];show dd (_++[((1:R),g d)]) i=_;rw[CH,t6 g i d];show _+1*g d^i=_+g d^i;grind
end
variable{p:Nat}
theorem zK{R:Type}[CommRing R](a:R)(m n:Nat):(a^m)^n=(a^n)^m:=by rw[<-pow_mul,<-pow_mul,Ub]
theorem Ge(a:af p){P:F p}{d:Nat}(h:cG P)(o:Od d P):∃y:Kf P,tr p d y≠0:=by
 apply FV;intro e;have b:∀y:Kf P,tr p d y=0:=λy=>FV λz=>e ⟨y,z⟩;have c:=o.unlike a h;have d1:=o.d1;have:=tY (Kf.Ih a h) d ((BB d).map λj=>((1:Kf P),(Qt.mk (Pr P) X:Kf P)^(p^j))) (by simp) (by
  rw[X4]at c⊢;exact c) (λi=>by
  rw[t6,<-b (Qt.mk (Pr P) X^i)];exact ie d λj _=>zK _ _ _) (1,(Qt.mk (Pr P) X:Kf P)^(p^0)) (IR.mpr ⟨0,Ki.mpr (by lia),rfl⟩)
 exact x8 a h this
theorem t7(M f:F p)(d:Nat):Qt.mk (Pr M) (tr p d f)=tr p d (Qt.mk (Pr M) f):=by
 unfold tr
 induction d with
 |zero=>rfl
 |succ d a=>show Qt.mk (Pr M) (sR _ d)+Qt.mk (Pr M) (f^(p^d))=_;rw[a,d9];rfl
theorem cG.apart(b:af p){P Q:F p}(h:cG P)(n:¬Dd P Q):∃u v,u*P+v*Q=1:=by
 obtain⟨d,u,v,e,⟨s,f⟩,⟨t,c⟩⟩:=CA b _ P Q (BM _);rcases h.no d s f with z|z
 .obtain⟨y,a⟩:=dj b z;exact⟨y*u,y*v,by rw[e]at a;grind⟩
 .obtain⟨y,a⟩:=dj b z;refine absurd ⟨y*t,?_⟩ n;have:d=P*y:=by
   have:d=d*(y*s):=by rw[a];grind
   grind
  rw[c,this];grind
theorem zL(b:af p){M P Q:F p}{d:Nat}(N:Dd M ((X:F p)^(p^d) -X))(o:cG P)(x:Od d P)(G:cG Q)(w:Dd P M)(r:Dd Q M)(n:¬Dd P Q):∃i,1<=i/\∀c:Int,¬Dd M (tr p d ((X:F p)^i) -((c:Int):F p)):=by
 apply FV;intro A;have C:=F.chr b;have one:∀i,∃c:Int,Dd M (tr p d ((X:F p)^i) -((c:Int):F p)):=λi=>by
  by_cases E:1<=i
  .exact FV λz=>A ⟨i,E,λc k=>z ⟨c,k⟩⟩
  .refine⟨(d:Int),0,?_⟩;have I:i=0:=by lia
   rw[I,Semiring.pow_zero];have:∀d:Nat,tr p d (1:F p)=(((d:Nat):Int):F p):=λd=>by
    unfold tr
    induction d with
    |zero=>exact Ring.intCast_zero.symm
    |succ d h=>show sR _ d+(1:F p)^(p^d)=_;rw[h,one_pow,P5,Ring.intCast_add,Ring.intCast_one]
   rw[this];grind
 have m:∀(l:List Int)(k:Nat),∃c:Int,Dd M (tr p d ((X:F p)^k*fL p l) -((c:Int):F p)):=λl=>by
  induction l with
  |nil=>intro k;refine⟨0,0,?_⟩;have e:fL p []=0:=(pC []).symm;rw[e,show(X:F p)^k*0=0 by grind,qR C,Ring.intCast_zero];grind
  |cons a l h=>intro k;obtain⟨K,t,R⟩:=one k;obtain⟨J,s,O⟩:=h (k+1);refine⟨a*K+J,((a:Int):F p)*t+s,?_⟩;rw[fT,show(X:F p)^k*(((a:Int):F p)+X*fL p l)=((a:Int):F p)*(X:F p)^k+X^k*X*fL p l by grind,<-aH,CF C,Ik C,Ring.intCast_add,Ring.intCast_mul];grind
 obtain⟨u,v,e⟩:=o.apart b n;obtain⟨y,B⟩:=Ge b o x;obtain⟨f,rfl⟩:=y.ex;obtain⟨l,D⟩:=Cy (v*Q*f);obtain⟨c,g⟩:=m l 0;rw[<-D,Semiring.pow_zero,show(1:F p)*(v*Q*f)=v*Q*f by grind]at g;have q:Qt.mk (Pr Q) (v*Q*f)=0:=Kf.zero.mpr ⟨v*f,by grind⟩;have L:(p:Int)∣c:=by refine(pG b G).mp ?_;have:=Kf.zero.mpr (r.trans g);have j:Qt.mk (Pr Q) (tr p d (v*Q*f) -((c:Int):F p))=Qt.mk (Pr Q) (tr p d (v*Q*f)) -((c:Int):Kf Q):=rfl;rw[j,t7,q,qR (Kf.chr b Q)]at this;grind
 rw[bZ.mpr L]at g;have:=Kf.zero.mpr (w.trans g);have j:Qt.mk (Pr P) (tr p d (v*Q*f) -0)=Qt.mk (Pr P) (tr p d (v*Q*f)) -0:=rfl;rw[j,t7]at this;have H:Qt.mk (Pr P) (v*Q*f)=Qt.mk (Pr P) f:=mk_eq.mpr ⟨-(u*f),by grind⟩;rw[H]at this;exact B (by grind)
theorem Gf(f:af p):∀(n:Nat){M g:F p},dg M<=n->M≠0->(∀Q,Dd (Q*Q) M->dg Q=1)->(∀P,cG P->Dd P M->Dd P g)->Dd M g:=by
 intro n
 induction n with
 |zero=>intro M g h d;exact absurd (bC.mp (Vm.mp h)) d
 |succ n r=>
  intro M g h d sq m;have A:dg M≠0:=λz=>d (bC.mp z);by_cases one:dg M=1
  .obtain⟨y,s⟩:=dj f one;exact⟨y*g,by
    have:g=y*M*g:=by rw[s];grind
    grind⟩
  .obtain⟨P,i,N,e⟩:=gp f _ M (BM _) (by lia);have j:N≠0:=λz=>d (by rw[e,z];grind);have q:=bD f i.ne j;rw[<-e]at q;have x:=i.two;have o:¬Dd P N:=λ⟨w,c⟩=>by have:=sq P ⟨w,by rw[e,c];grind⟩;lia
   obtain⟨k,l⟩:=r (M:=N) (g:=g) (by lia) j (λQ ⟨w,c⟩=>sq Q ⟨P*w,by rw[e,c];grind⟩) λQ u ⟨w,c⟩=>m Q u ⟨P*w,by rw[e,c];grind⟩;obtain⟨w,c⟩:=m P i ⟨N,e⟩;rcases i.euclid f (a:=N) (b:=k) ⟨w,by rw[<-l,c]⟩with z|⟨v,t⟩
   .exact absurd z o
   .exact⟨v,by rw[l,t,e];grind⟩
theorem CI(i:af p){φ:Int->Prop}(u:∀m,φ m↔φ (m+p))(l:¬(φ 0↔φ 1)){a b:Int}(j:¬(p:Int)∣b -a):∃t:Nat,t<p/\¬(φ (a+t)↔φ (b+t)):=by
 apply FV;intro r;have x:0<p:=by have:=i.1;lia
 have o:∀(k:Nat)(m:Int),φ m↔φ (m+k*p):=λk=>by
  induction k with
  |zero=>intro m;rw[show m+((0:Nat):Int)*p=m by lia]
  |succ k g=>intro m;rw[g m,u];rw[show m+(k:Int)*p+p=m+((k+1:Nat):Int)*p by rw[P5];grind]
 have c:∀(k m:Int),φ m↔φ (m+k*p):=λk m=>by
  rcases Z2 0 k with h|h
  .have:=o k.toNat m;rw[Y9 h]at this;exact this
  .have:=o (-k).toNat (m+k*p);rw[Y9 (by lia),show m+k*p+ -k*p=m by grind]at this;exact this.symm
 have f:∀m:Int,φ m↔φ (m+(b -a)):=λm=>by have e:=P2 (m -a) p;have q:=Pi (m -a) (show(p:Int)≠0 by lia);have w:=On (m -a) (show(0:Int)<p by lia);have:=FV λz=>r ⟨((m -a)%p).toNat,by lia,z⟩;rw[Y9 q]at this;generalize(m -a)%(p:Int)=t at*;generalize(m -a)/(p:Int)=k at*;rw[c k (a+t),c k (b+t)]at this;rw[show a+t+k*p=m by grind,show b+t+k*p=m+(b -a) by grind]at this;exact this
 have v:∀k:Nat,φ 0↔φ (k*(b -a)):=λk=>by
  induction k with
  |zero=>rw[show((0:Nat):Int)*(b -a)=0 by lia]
  |succ k g=>rw[g,f];rw[show(k:Int)*(b -a)+(b -a)=((k+1:Nat):Int)*(b -a) by rw[P5];grind]
 obtain⟨y,s⟩:=qP i j;obtain⟨n,_,e⟩:=(F.chr i).mod y;have d:(p:Int)∣(n:Int)*(b -a) -1:=by refine bZ.mp ?_;rw[Ring.intCast_sub,Ring.intCast_mul,Ring.intCast_natCast,<-e,s,Ring.intCast_one];grind
 obtain⟨k,A⟩:=d;refine l ((v n).trans ?_);have:=c k 1;rw[show(1:Int)+k*p=(n:Int)*(b -a) by grind]at this;exact this.symm
local instance {R : Type} [IS R] : NatCast R := Ea
local instance {R : Type} [Ji R] : IntCast R := Eb
noncomputable def sq{R:Type}[CommRing R](p:Nat)(f:R):R:=if p=2 then f else f^((p -1)/2) -1
variable{p:Nat}
theorem P6(M f:F p):Qt.mk (Pr M) (sq p f)=sq p (Qt.mk (Pr M) f):=by
 unfold sq;split
 .rfl
 .rw[<-d9];rfl
theorem Mb(c:Int):∃e:Int,∀(R:Type)[a:CommRing R],sq p (((c:Int):R))=((e:Int):R):=by
 by_cases h:p=2
 .exact⟨c,λR _=>by unfold sq;rw[Bz h]⟩
 .refine⟨c^((p -1)/2) -1,λR _=>?_⟩;unfold sq;rw[Bn h,Ring.intCast_sub,Ring.intCast_one];congr 1;generalize(p -1)/2=k
  induction k with
  |zero=>rw[Yy,Semiring.pow_zero,Ring.intCast_one]
  |succ k b=>rw[Yz,Ring.intCast_mul,<-b,aH]
theorem Il(b:af p){P f:F p}(h:cG P){n:Int}(e:Dd P (f -((n:Int):F p))):Dd P (sq p f)↔sq p ((n:Int):F p)=0:=by obtain⟨c,a⟩:=Mb (p:=p) n;have d:Qt.mk (Pr P) f=((n:Int):Kf P):=mk_eq.mpr e;rw[<-Kf.zero,P6,d,a,a,pG b h,bZ]
theorem Mc(a:af p)(m:Int):sq p ((m:Int):F p)=0↔sq p (((m+p:Int):Int):F p)=0:=by
 have:(((m+p:Int):Int):F p)=((m:Int):F p):=by rw[Ring.intCast_add,Ring.intCast_natCast,(F.chr a).z];grind
 rw[this]
theorem kr(a:af p):(1:F p)≠0:=λz=>by have:=ig a;rw[z,cD]at this;cases this
theorem P7(a:af p):¬(sq p (((0:Int):Int):F p)=0↔sq p (((1:Int):Int):F p)=0):=by
 rw[Ring.intCast_zero,Ring.intCast_one];unfold sq;have c:=a.1;split
 .intro h;exact kr a (h.mp rfl)
 .rename_i n2
  have b:1<=(p -1)/2:=by lia
  intro h;have:=h.mpr (by rw[one_pow];grind);rw[zero_pow (by lia)]at this;exact kr a (by grind)
theorem CJ(c:af p){M s:F p}(y:M≠0)(E:∀Q,Dd (Q*Q) M->dg Q=1)(g:∀P,cG P->Dd P M->∃n:Int,Dd P (s -((n:Int):F p)))(H:2<=dg s)(G:dg s<dg M):
 ∃t:Nat,t<p/\∃P Q,cG P/\cG Q/\Dd P M/\Dd Q M/\Dd P (sq p (s+(((t:Nat):Int):F p)))/\¬Dd Q (sq p (s+(((t:Nat):Int):F p))):=by
 obtain⟨P,i,k⟩:=gp c _ M (BM _) (by lia);obtain⟨a,C⟩:=g P i k;have h:∃Q,cG Q/\Dd Q M/\¬Dd Q (s -((a:Int):F p)):=by
  apply FV;intro x;have D:Dd M (s -((a:Int):F p)):=Gf c _ (BM _) y E λQ d f=>FV λz=>x ⟨Q,d,f,z⟩;have I:dg (s -((a:Int):F p))<=dg s:=by rw[show s -((a:Int):F p)=s+(((-a:Int):Int):F p) by rw[Ring.intCast_neg];grind];exact L7 (BM _) (IH (qQ c _) (by lia))
  by_cases z:s -((a:Int):F p)=0
  .have:s=((a:Int):F p):=by grind
   have:=qQ c a;grind
  .have:=D.len c z;lia
 obtain⟨Q,d,f,v⟩:=h;obtain⟨b,u⟩:=g Q d f;have ab:¬(p:Int)∣b -a:=λz=>v (by
  have e:((b:Int):F p)=((a:Int):F p):=by have:=bZ (p:=p)|>.mpr z;rw[Ring.intCast_sub]at this;grind
  rw[<-e];exact u)
 obtain⟨t,B,r⟩:=CI c (φ:=λm=>sq p ((m:Int):F p)=0) (Mc c) (P7 c) ab;have q:Dd P (sq p (s+(((t:Nat):Int):F p)))↔sq p (((a+t:Int):Int):F p)=0:=Il c i (by obtain⟨w,A⟩:=C;exact⟨w,by rw[Ring.intCast_add];grind⟩);have o:Dd Q (sq p (s+(((t:Nat):Int):F p)))↔sq p (((b+t:Int):Int):F p)=0:=Il c d (by obtain⟨w,A⟩:=u;exact⟨w,by rw[Ring.intCast_add];grind⟩);refine⟨t,B,?_⟩;by_cases j:Dd P (sq p (s+(((t:Nat):Int):F p)))
 .exact⟨P,Q,i,d,k,f,j,λl=>r ⟨λ_=>o.mp l,λ_=>q.mp j⟩⟩
 .refine⟨Q,P,d,i,f,k,?_,j⟩;exact FV λl=>r ⟨λz=>absurd (q.mpr z) j,λz=>absurd (o.mpr z) l⟩
theorem CK{α:Type}:∀(A B:List α),A.Pairwise (·≠·)->(∀x∈A,x∈B)->A.length<=B.length
 |[],B,_,_=>Hn _
 |x::A,B,h,k=>by
  have h':=UV.mp h;obtain⟨s,t,e⟩:=List.append_of_mem (k x DL);have:=CK A (s++t) h'.2 λy a=>by
   have:=k y (D2 _ a);rw[e]at this;rcases GM.mp this with z|z
   .exact P3 _ z
   .rcases Fm.mp z with z|z
    .exact absurd z.symm (h'.1 y a)
    .exact Fs _ z
  rw[e];rw[Fk]at this⊢;rw[D8,D8];lia
noncomputable def en(p:Nat):Nat->List (List Int)
 |0=>[[]]
 |n+1=>(BB p).flatMap λc=>(en p n).map (((c:Nat):Int)::·)
theorem CL:∀n,(en p n).length=p^n
 |0=>rfl
 |n+1=>by
  show((BB p).flatMap λc=>(en p n).map (((c:Nat):Int)::·)).length=_;rw[List.length_flatMap];have:(BB p).map (λc=>((en p n).map (((c:Nat):Int)::·)).length)=(BB p).map λ_=>p^n:=QR λc _=>by rw[Ap,CL n]
  rw[this,T8,List.sum_replicate_nat,HI,N6,Ub]
theorem CM:∀(l:List Int),(∀x∈l,0<=x/\x<p)->l∈en p l.length
 |[],_=>Da.mpr rfl
 |c::l,h=>by have hc:=h c DL;show c::l∈(BB p).flatMap _;refine List.mem_flatMap.mpr ⟨c.toNat,Ki.mpr (by lia),IR.mpr ⟨l,CM l λx a=>h x (D2 _ a),?_⟩⟩;rw[Y9 hc.1]
theorem Tp(a:af p){P:F p}(h:cG P)(y:Kf P):y∈(en p (dg P -1)).map λl=>(Qt.mk (Pr P) (fL p l):Kf P):=by
 obtain⟨f,rfl⟩:=y.ex;have b:(0:Int)<p:=by have:=a.1;lia
 obtain⟨q,r,e,k⟩:=vt a h.ne _ f (BM _);obtain⟨g,rfl⟩:=r.ex;have j:Qt.mk (Pr P) f=Qt.mk (Pr P) (Qt.mk (Ip p) g):=mk_eq.mpr ⟨q,by grind⟩;refine IR.mpr ⟨(BB (dg P -1)).map λi=>g.1 i%p,?_,?_⟩
 .have:=CM (p:=p) ((BB (dg P -1)).map λi=>g.1 i%p) λx c=>by obtain⟨i,_,rfl⟩:=IR.mp c;exact⟨Pi _ (by lia),On _ b⟩
  rw[Ap,HI]at this;exact this
 .rw[j];congr 1;refine Qt.eq.mpr λi=>?_;show(p:Int)∣((BB (dg P -1)).map λi=>g.1 i%p).getD i 0+ -g.1 i;rw[AC,Dx];by_cases d:i<dg P -1
  .rw[Oy d];show(p:Int)∣g.1 i%p+ -g.1 i;exact⟨-(g.1 i/p),by have:=P2 (g.1 i) p;grind⟩
  .rw[FM (by rw[HI];lia)];show(p:Int)∣0+ -g.1 i;have:=fk (Qt.mk (Ip p) g) i (by lia);rw[YD];exact Yo.mpr this
theorem P9(f:af p){P:F p}(h:cG P):∃d,Od d P:=by
 have c:∃m,1<=m/\Dd P ((X:F p)^(p^m) -X):=by
  apply FV;intro g;have pw:((BB (p^(dg P -1)+1)).map λj=>(Qt.mk (Pr P) X:Kf P)^(p^j)).Pairwise (·≠·):=by rw[X4];refine Yv (λ{a b}(o:a<b) e=>?_) (Yf (n:=p^(dg P -1)+1));refine g ⟨b -a,by lia,mk_eq.mp ?_⟩;rw[d9];refine tZ f h (j:=a) ?_;rw[<-pow_mul,<-Yk,show b -a+a=b by lia];exact e.symm
  have:=CK _ _ pw λx _=>Tp f h x;rw[Ap,Ap,HI,CL]at this;lia
 obtain⟨d,⟨q,l⟩,least⟩:=least (P:=λm=>1<=m/\Dd P ((X:F p)^(p^m) -X)) c;exact⟨d,q,l,λm i r k=>by have:=least m ⟨i,k⟩;lia⟩
end Alg
namespace Alg
open Lean.Grind Num Sub VL
local instance {R : Type} [IS R] : NatCast R := Ea
local instance {R : Type} [Ji R] : IntCast R := Eb
variable{p:Nat}
theorem t8{l:List Int}{g:Po}(h:∀i,(p:Int)∣l.getD i 0 -g.1 i):fL p l=Qt.mk (Ip p) g:=Qt.eq.mpr h
theorem Me{l a b:List Int}(h:∀i,(p:Int)∣l.getD i 0 -(a.getD i 0+b.getD i 0)):fL p l=fL p a+fL p b:=t8 (g:=di a+di b) h
theorem Mf{l a b:List Int}(h:∀i,(p:Int)∣l.getD i 0 -(a.getD i 0 -b.getD i 0)):fL p l=fL p a -fL p b:=t8 (g:=di a -di b) λi=>by show(p:Int)∣l.getD i 0 -(a.getD i 0+ -b.getD i 0);rw[<-Int.sub_eq_add_neg];exact h i
theorem CN{l a b:List Int}(h:∀i,(p:Int)∣l.getD i 0 -cj (co a) (co b) i):fL p l=fL p a*fL p b:=t8 (g:=di a*di b) h
theorem Qa{l a:List Int}{c:Int}(h:∀i,(p:Int)∣l.getD i 0 -c*a.getD i 0):fL p l=((c:Int):F p)*fL p a:=t8 (g:=cst c*di a) λi=>by rw[Po.qL];exact h i
theorem pH{ns b a:List Int}{Q:List Int}(h:p7 p ns b (λi=>Q.getD i 0) a):fL p ns=fL p b*fL p Q+fL p a:=by have:fL p ns=Qt.mk (Ip p) (di Q*di b+di a):=t8 (g:=di Q*di b+di a) h;rw[this];show fL p Q*fL p b+fL p a=_;grind
theorem gq:fL p [1]=1:=GT (Qt.mk (Ip p)) (Po.ext λi=>by cases i<;>rfl)
theorem b7:fL p []=0:=(pC []).symm
theorem ji(q:0<p){ns a:List Int}(h:cZ (ns.map (·%(p:Int))) a):fL p a=fL p ns/\Rm p a/\a.length<=ns.length:=by
 have m:a.length<=ns.length:=by obtain⟨k,c,e,_⟩:=h;rw[e,Re];rw[Ap]at c;lia
 have hz:=h.last;have l:=h.mem;obtain⟨k,c,e,f,_⟩:=h;rw[Ap]at c;refine⟨xT.mpr λi=>?_,⟨λx j=>?_,hz⟩,m⟩
 .have g:∀i,(ns.map (·%(p:Int))).getD i 0=ns.getD i 0%p:=λi=>by
   rw[AC,AC,Dx];cases ns[i]? with
   |none=>show(0:Int)=0%p;rw[Int.zero_emod]
   |some x=>rfl
  have b:(p:Int)∣ns.getD i 0%p -ns.getD i 0:=⟨-(ns.getD i 0/p),by have:=P2 (ns.getD i 0) p;grind⟩;by_cases n:i<k
  .have d:a.getD i 0=(ns.map (·%(p:Int))).getD i 0:=by rw[e,AC,AC,XB n]
   rw[d,g];exact b
  .have d:a.getD i 0=0:=outI (by rw[e,Re];lia);rw[d];by_cases o:i<ns.length
   .have:=f i (by lia) (by rw[Ap];exact o);rw[g]at this;rw[this]at b;exact b
   .rw[outI (by lia)];exact⟨0,by lia⟩
 .obtain⟨y,_,rfl⟩:=IR.mp (l x j);exact⟨Pi _ (by lia),On _ (by lia)⟩
theorem aT{l:List Int}(h:Rm p l):dg (fL p l)=l.length:=by
 rcases h.z with z|z
 .rw[z,b7,cD];rfl
 .obtain⟨n,a⟩:∃n,l.length=n+1:=⟨l.length -1,by have:l≠[]:=λe=>z (by rw[e];rfl);have:=Hm.mpr this;lia⟩;rw[a];refine xU (g:=di l) (a▸L5 l) λk=>?_;have k:(p:Int)∣l.getD n 0:=k;rw[a,Kx]at z;have b:=h.b _ (getD_mem' (show n<l.length by lia));have:=X0 (by lia) k;lia
theorem qS{l m:List Int}(c:Rm p l)(a:Rm p m)(e:fL p l=fL p m):l=m:=by
 refine Ei c.z a.z λk=>?_;by_cases d:0<(p:Int)
 .exact mod_eq (c7 d c.b k) (c7 d a.b k) (xT.mp e k)
 .have f:∀{l:List Int},Rm p l->l=[]:=λ{l} h=>by
   cases l with
   |nil=>rfl
   |cons x l=>have:=h.b x DL;lia
  rw[f c,f a]
theorem cE{l:List Int}(a:Rm p l):fL p l=0↔l=[]:=⟨λe=>qS a ⟨by simp,.inl rfl⟩ (e.trans b7.symm),λe=>by rw[e,b7]⟩
structure Mn(p:Nat)(l:List Int):Prop where
 r:Rm p l
 n0:0<l.length
 one:l.getD (l.length -1) 0=1
theorem CO{a b:Po}{n m:Nat}(f:∀i,n+1<=i->(p:Int)∣a.1 i)(d:∀i,m+1<=i->(p:Int)∣b.1 i):(p:Int)∣(a*b).1 (n+m) -a.1 n*b.1 m:=by
 show(p:Int)∣cj a.1 b.1 (n+m) -_;have c:cj a.1 b.1 (n+m)=a.1 n*b.1 m+sm (λj=>if j=n then 0 else a.1 j*b.1 (n+m -j)) (n+m+1):=by
  unfold cj;have h:∀j,a.1 j*b.1 (n+m -j)=(if j=n then a.1 j*b.1 (n+m -j)else 0)+(if j=n then 0 else a.1 j*b.1 (n+m -j)):=λj=>by
   by_cases z:j=n
   .rw[Bz z,Bz z,W1]
   .rw[Bn z,Bn z,YD]
  rw[cI (n+m+1) λj _=>h j,lO,pY n (λj=>a.1 j*b.1 (n+m -j)),Bz (by lia),show n+m -n=m by lia]
 rw[c,show a.1 n*b.1 m+sm (λj=>if j=n then 0 else a.1 j*b.1 (n+m -j)) (n+m+1) -a.1 n*b.1 m=sm (λj=>if j=n then 0 else a.1 j*b.1 (n+m -j)) (n+m+1) by lia];refine lS _ λj _=>?_;by_cases e:j=n
 .rw[Bz e];exact⟨0,by lia⟩
 .rw[Bn e];by_cases g:n+1<=j
  .exact X1 (f j g) ⟨_,rfl⟩
  .exact X1 (d (n+m -j) (by lia)) ⟨_,TB _ _⟩
theorem Mn.top{l:List Int}(h:Mn p l):∀i,l.length -1+1<=i->(p:Int)∣(di l).1 i:=λi a=>by show(p:Int)∣l.getD i 0;rw[outI (by have:=h.n0;lia)];exact⟨0,by lia⟩
theorem Mn.WC(j:af p){a b q:List Int}(c:Mn p a)(f:Mn p b)(d:Rm p q)(e:fL p a=fL p b*fL p q):Mn p q:=by
 have k:fL p a≠0:=λz=>by have:=c.n0;rw[(cE c.r).mp z]at this;cases this
 have h:q≠[]:=λz=>k (by rw[e,z,b7];grind);have u:fL p b≠0:=λz=>k (by rw[e,z];grind);have m:=Hm.mpr h;have n:=bD j u (λz=>h ((cE d).mp z));rw[<-e,aT c.r,aT f.r,aT d]at n;have x:=f.n0;have y:=c.n0;refine⟨d,m,?_⟩;have l:∀i,q.length -1+1<=i->(p:Int)∣(di q).1 i:=λi w=>by show(p:Int)∣q.getD i 0;rw[outI (by lia)];exact⟨0,by lia⟩
 have t:=CO f.top l;have o:=Qt.eq.mp (show Qt.mk (Ip p) (di a)=Qt.mk (Ip p) (di b*di q)from e) (b.length -1+(q.length -1));have g:(p:Int)∣a.getD (b.length -1+(q.length -1)) 0+ -(di b*di q).1 (b.length -1+(q.length -1)):=o;have t:(p:Int)∣(di b*di q).1 (b.length -1+(q.length -1)) -b.getD (b.length -1) 0*q.getD (q.length -1) 0:=t;rw[show b.length -1+(q.length -1)=a.length -1 by lia]at g t;rw[c.one]at g;rw[f.one,Yn]at t;have:=TC g t;have s:=d.b _ (getD_mem' (show q.length -1<q.length by lia));have v:=j.1;exact(mod_eq ⟨by decide,by lia⟩ s (by rw[show(1:Int) -q.getD (q.length -1) 0=1+ -(di b*di q).1 (a.length -1)+((di b*di q).1 (a.length -1) -q.getD (q.length -1) 0) by lia];exact this)).symm
end Alg
namespace VL
open PySem PySem.Spec
open PyProof.Rows hiding St
open L2 Num Alg
theorem vB(n:Nat)(f:Nat->Int)(i:Nat):((BB n).map f).getD i 0=if i<n then f i else 0:=by
 rw[AC,Dx];by_cases a:i<n
 .rw[Oy a,Bz a];rfl
 .rw[FM (by rw[HI];lia),Bn a];rfl
noncomputable def qT:List CS:=[.ret (.call 0 [(.call 1 [(.var 0),(.var 1)]),(.var 2)])]
noncomputable def gr:aX:=λd Q _=>∃(a b:List Int)(p:Nat),d=[wI a,wI b,.int p]/\(0<p/\a.length<=100/\b.length<=100)/\∀c,Rm p c->fL p c=fL p a+fL p b->c.length<=max a.length b.length->Q (wI c)
theorem zM{G:Nat->W}{m:Md}(c:List W)(Q:W->Prop)(R:Addr->Prop)(h:gr c Q R):wSs (bI [cY,d8]) G qT (bg m Q R) (ay 3 c):=by
 obtain⟨a,b,p,rfl,⟨g,s,q⟩,n⟩:=h;show wSs _ _ qT _ [some (wI a),some (wI b),some (.int p)];unfold qT;fin2;refine⟨a,b,rfl,by lia,by lia,λf tr=>?_⟩;have k:=lP tr;rw[Ap,HI]at k;refine⟨f,p,rfl,by lia,by lia,λj o=>?_⟩;obtain⟨e,r,l⟩:=ji g o;refine n j r (e.trans (Me λi=>?_)) (by lia);rw[pZ tr,vB];by_cases d:i<max a.length b.length
 .rw[Bz d];exact⟨0,by lia⟩
 .rw[Bn d,outI (by lia),outI (by lia)];exact⟨0,by lia⟩
noncomputable def b9:aX:=λd Q _=>∃(a b:List Int)(p:Nat),d=[wI a,wI b,.int p]/\(0<p/\p<2^40/\a.length<=100/\b.length<=100/\Rm p b)/\∀c,Rm p c->fL p c=fL p a -fL p b->c.length<=max a.length b.length->Q (wI c)
theorem vC{G:Nat->W}{m:Md}(c:List W)(Q:W->Prop)(R:Addr->Prop)(h:b9 c Q R):wSs (bI [cY,fO]) G qT (bg m Q R) (ay 3 c):=by
 obtain⟨a,b,p,rfl,⟨j,v,u,t,g⟩,q⟩:=h;show wSs _ _ qT _ [some (wI a),some (wI b),some (.int p)];unfold qT;fin2;refine⟨a,b,40,rfl,by lia,by lia,by decide,λx o=>by have:=g.b x o;lia,λf tr=>?_⟩;have n:=lP tr;rw[Ap,HI]at n;refine⟨f,p,rfl,by lia,by lia,λk s=>?_⟩;obtain⟨e,r,l⟩:=ji j s;refine q k r (e.trans (Mf λi=>?_)) (by lia);rw[pZ tr,vB];by_cases d:i<max a.length b.length
 .rw[Bz d];exact⟨0,by lia⟩
 .rw[Bn d,outI (by lia),outI (by lia)];exact⟨0,by lia⟩
noncomputable def bz:aX:=λd Q _=>∃(a b:List Int)(p:Nat),d=[wI a,wI b,.int p]/\(0<p/\p<2^40/\a.length<=100/\b.length<=100/\Rm p a/\Rm p b)/\∀c,Rm p c->fL p c=fL p a*fL p b->c.length<=a.length+b.length -1->Q (wI c)
theorem vD{G:Nat->W}{m:Md}(k:List W)(Q:W->Prop)(R:Addr->Prop)(h:bz k Q R):wSs (bI [cY,fR]) G qT (bg m Q R) (ay 3 k):=by
 obtain⟨a,b,p,rfl,⟨s,J,H,E,q,o⟩,w⟩:=h;show wSs _ _ qT _ [some (wI a),some (wI b),some (.int p)];unfold qT;fin2;refine⟨a,b,rfl,by lia,by lia,λx v y u=>gk (p:=p) (by lia) (q.b x v) (o.b y u),?_⟩;have j:∀d:List Int,d.length<=a.length+b.length -1->(∀i,d.getD i 0=cj (co a) (co b) i)->cY [wI d,.int p] Q R:=λd I A=>by refine⟨d,p,rfl,by lia,by lia,λt D=>?_⟩;obtain⟨e,r,l⟩:=ji s D;refine w t r (e.trans (CN λi=>?_)) (by lia);rw[A];exact⟨0,by lia⟩
 by_cases z:a=[]\/b=[]
 .rw[Bz z];refine j [] (Hn _) λi=>?_;rcases z with rfl|rfl
  .show(0:Int)=cj (co []) (co b) i;rw[gy (f:=co []) (f':=λi=>0*co b i) (λi=>by show(0:Int)=0*_;lia) (λ_=>rfl),iK];lia
  .show(0:Int)=cj (co a) (co []) i;rw[gy (g:=co []) (g':=λi=>0*co a i) (λ_=>rfl) (λi=>by show(0:Int)=0*_;lia),Ej];lia
 .rw[Bn z];have C:a≠[]:=λe=>z (.inl e);have B:b≠[]:=λe=>z (.inr e);have:=Hm.mpr C;have:=Hm.mpr B;refine j _ (by unfold tabI;rw[Ap,HI];exact BM _) λi=>?_;unfold tabI;rw[vB];by_cases c:i<a.length+b.length -1
  .rw[Bz c,Hx]
  .rw[Bn c,p8 (n:=a.length) (m:=b.length) (λi c=>outI c) (λi c=>outI c) (by lia)]
noncomputable def ku:List CS:=[.iff (.cmp .Eq (.bin .Mod (.var 1) (.int 2)) (.int 1)) [.set 4 (.ix (.call 0 [(.call 1 [(.var 4),(.var 0),(.var 3)]),(.var 2),(.var 3)]) (.int 1))] [],.set 1 (.bin .FloorDiv (.var 1) (.int 2)),.iff (.cmp .Gt (.var 1) (.int 0)) [.set 0 (.ix (.call 0 [(.call 1 [(.var 0),(.var 0),(.var 3)]),(.var 2),(.var 3)]) (.int 1))] []]
noncomputable def iu:List CS:=[.set 4 (.lst [(.int 1)]),.uq (.cmp .Gt (.var 1) (.int 0)) ku,.ret (.var 4)]
structure Pw(p:Nat)(row other:List Int)(e:Nat):Prop where
 pr:af p
 dQ:p<2^40
 r:Rm p row
 o:Rm p other
 l2:2<=other.length
 vE:other.length<=50
 lr:row.length<=50
noncomputable def cM:aX:=λc Q _=>∃(b a:List Int)(e p:Nat),c=[wI b,.int e,wI a,.int p]/\Pw p b a e/\∀r,Rm p r->r.length<a.length->Dd (fL p a) (fL p r -fL p b^e)->Q (wI r)
theorem jW{d:Nat->aX}{G:Nat->W}{c:CE}{b:List CS}{D:Dn}{a:Ev}{α:Type}(S:α->Ev)(J:α->Prop)(f:α->Nat)(e:α)(i:a=S e)(h:J e)(g:∀s,J s->wE d G (λ_=>False) c (S s) λx=>truth x (Q5 S J f (wSs d G b) D s)):wS d G (.uq c b) D a:=by show EA (λa Q=>wE d G (λ_=>False) c a λx=>truth x Q) (wSs d G b) D a;exact jP S J f e i h g
theorem Im{a b o:List Int}{p:Nat}{K:W->Prop}{R:Addr->Prop}(c:af p)(d:p<2^40)(k:Rm p a)(j:Rm p b)(g:Rm p o)(v:2<=o.length)(s:o.length<=50)(u:a.length<=50)(t:b.length<=50)
 (h:∀r,Rm p r->r.length<o.length->Dd (fL p o) (fL p r -fL p a*fL p b)->K (wI r)):bz [wI a,wI b,.int p] (λx=>aS [x,wI o,.int p] (λy=>HE y (.int 1) K) R) R:=by
 have n:0<p:=by have:=c.1;lia
 refine⟨a,b,p,rfl,⟨n,d,by lia,by lia,k,j⟩,λq i e l=>?_⟩;refine⟨q,o,p,rfl,⟨c,by exact_mod_cast d,by lia,by lia,by lia,i,g⟩,λm f dv=>?_⟩;refine⟨_,rfl,h f dv.r dv.lr ⟨-fL p m,?_⟩⟩;have:=pH dv.eq;rw[e]at this;grind
theorem vF{G:Nat->W}{m:Md}(J:List W)(Q:W->Prop)(R:Addr->Prop)(h:cM J Q R):wSs (bI [aS,bz]) G iu (bg m Q R) (ay 5 J):=by
 obtain⟨c,o,E,p,rfl,⟨C,S,U,M,P,K,lr⟩,hq⟩:=h;show wSs _ _ iu _ [some (wI c),some (.int E),some (wI o),some (.int p),none];unfold iu;have p2:=C.1;have Y:Rm p [1]:=⟨λx hx=>by rw[Da.mp hx];exact⟨by decide,by lia⟩,.inr (by show(1:Int)≠0;decide)⟩;refine aq (λa=>a=[some (wI c),some (.int E),some (wI o),some (.int p),some (wI [1])]) (λN D=>?_) ?_
 .fin2;exact⟨aj (by simp),D _ rfl⟩
 rintro _ rfl;refine aq (λa=>∃(b r:List Int)(o1:Option W),(Rm p r/\r.length<o.length/\Dd (fL p o) (fL p r -fL p c^E))/\a=[some (wI b),o1,some (wI o),some (.int p),some (wI r)]) (λN D=>?_) ?_
 .refine jW (α:=List Int×Nat×List Int) (λs=>[some (wI s.1),some (.int s.2.1),some (wI o),some (.int p),some (wI s.2.2)]) (λs=>Rm p s.1/\s.1.length<=50/\Rm p s.2.2/\s.2.2.length<o.length/\Dd (fL p o) (fL p s.2.2*fL p s.1^s.2.1 -fL p c^E)) (λs=>s.2.1) (c,E,[1]) rfl ⟨U,lr,Y,by show 1<_;lia,0,by rw[gq];grind⟩ ?_;rintro⟨b,e,r⟩ ⟨n,k,v,I,q,i⟩;dsimp only at n k v I i⊢;fin2;refine cA (λw=>?_) (λw=>?_)
  .have e0:=Bi w;unfold ku;refine aq (λa=>∃d,(Rm p d/\d.length<o.length/\Dd (fL p o) (fL p d -fL p r*fL p b^(e%2)))/\a=[some (wI b),some (.int e),some (wI o),some (.int p),some (wI d)]) (λN1 A=>?_) ?_
   .fin2;refine⟨by decide,?_⟩;by_cases f:(e:Int).fmod 2=1
    .rw[Bz (Do f)];have H:e%2=1:=by rw[Num.fmod_eq]at f;lia
     refine Im C S v n M P K (by lia) k λd u y t=>A _ ⟨d,⟨u,y,?_⟩,rfl⟩;rw[H,show fL p b^1=fL p b by rw[aH,Fn];grind];exact t
    .rw[Bn (by rw[Fh];exact f)];have H:e%2=0:=by rw[Num.fmod_eq]at f;lia
     refine A _ ⟨r,⟨v,I,0,?_⟩,rfl⟩;rw[H,Fn];grind
   rintro _ ⟨d,⟨l,T,O,B⟩,rfl⟩;refine aq (λa=>a=[some (wI b),some (.int ((e/2:Nat):Int)),some (wI o),some (.int p),some (wI d)]) (λN1 A=>?_) ?_
   .fin2;refine⟨⟨by decide,by decide⟩,?_⟩;rw[show(e:Int).fdiv 2=((e/2:Nat):Int) by rw[X7 _ (by decide)];lia];exact A _ rfl
   rintro _ rfl;have L:fL p b^e=fL p b^(e%2)*(fL p b*fL p b)^(e/2):=by
    have e3:e=e%2+2*(e/2):=by lia
    have e4:fL p b*fL p b=fL p b^2:=by rw[aH,aH,Fn];grind
    rw[e4,<-pow_mul]
    conv=>lhs;rw[e3]
    exact YB _ _ _
   fin2;by_cases g:(0:Int)<((e/2:Nat):Int)
   .rw[Bz (Do g)];refine Im C S n n M P K k k λj u y ⟨Z,t⟩=>⟨(j,e/2,d),rfl,⟨u,by show j.length<=50;lia,l,T,?_⟩,by show e/2<e;lia⟩;refine mk_eq.mp ?_;have a1:Qt.mk (Pr (fL p o)) (fL p j)=Qt.mk (Pr (fL p o)) (fL p b*fL p b):=mk_eq.mpr ⟨Z,t⟩;have a2:Qt.mk (Pr (fL p o)) (fL p d)=Qt.mk (Pr (fL p o)) (fL p r*fL p b^(e%2)):=mk_eq.mpr ⟨O,B⟩;have a3:Qt.mk (Pr (fL p o)) (fL p r*fL p b^e)=Qt.mk (Pr (fL p o)) (fL p c^E):=mk_eq.mpr ⟨q,i⟩;have m1:Qt.mk (Pr (fL p o)) (fL p d*fL p j^(e/2))=Qt.mk (Pr (fL p o)) (fL p d)*Qt.mk (Pr (fL p o)) (fL p j)^(e/2):=by rw[<-d9];rfl
    have m2:Qt.mk (Pr (fL p o)) (fL p r*fL p b^e)=Qt.mk (Pr (fL p o)) (fL p r*fL p b^(e%2))*Qt.mk (Pr (fL p o)) (fL p b*fL p b)^(e/2):=by rw[<-d9,L];exact GT (Qt.mk (Pr (fL p o))) (show fL p r*(fL p b^(e%2)*(fL p b*fL p b)^(e/2))=fL p r*fL p b^(e%2)*(fL p b*fL p b)^(e/2) by grind)
    show Qt.mk (Pr (fL p o)) (fL p d*fL p j^(e/2))=_;rw[m1,a1,a2,<-m2,a3]
   .rw[Bn (by rw[Fh];exact g)];refine⟨(b,e/2,d),rfl,⟨n,k,l,T,?_⟩,by show e/2<e;lia⟩;have e5:e/2=0:=by lia
    refine⟨O+q,?_⟩;show fL p d*fL p b^(e/2) -fL p c^E=_;rw[e5,Fn]at L⊢;grind
  .have e0:¬(0:Int)<(e:Int):=λz=>by rw[Do z]at w;cases w
   have e1:e=0:=by lia
   refine D _ ⟨b,r,_,⟨v,I,q,?_⟩,rfl⟩;rw[e1,Fn]at i;grind
 rintro _ ⟨b,r,o1,⟨u,y,t⟩,rfl⟩;fin2;exact hq r u y t
structure Gd(p:Nat)(A B d:List Int):Prop where
 m:Mn p d
 a:Dd (fL p d) (fL p A)
 b:Dd (fL p d) (fL p B)
 i:∃s t,fL p d=s*fL p A+t*fL p B
noncomputable def Io:List CS:=[.Dv [7,8] (.call 0 [(.var 0),(.var 1),(.var 2)]),.par [0,1] [(.var 1),(.var 8)],.par [3,4] [(.var 4),(.call 1 [(.var 3),(.call 2 [(.var 7),(.var 4),(.var 2)]),(.var 2)])],.par [5,6] [(.var 6),(.call 1 [(.var 5),(.call 2 [(.var 7),(.var 6),(.var 2)]),(.var 2)])]]
noncomputable def Mg:List CS:=[.par [3,4] [(.lst [(.int 1)]),(.lst [])],.par [5,6] [(.lst []),(.lst [(.int 1)])],.uq (.cmp .NotEq (.var 1) (.lst [])) Io,.set 9 (.call 3 [(.ix (.var 0) (.neg (.int 1))),(.var 2)]),.ret (.tup [(.call 4 [(.call 5 [(.var 0),(.var 9)]),(.var 2)]),(.call 4 [(.call 5 [(.var 3),(.var 9)]),(.var 2)]),(.call 4 [(.call 5 [(.var 5),(.var 9)]),(.var 2)])])]
noncomputable def bE:aX:=λa Q _=>∃(A B:List Int)(p:Nat),a=[wI A,wI B,.int p]/\(af p/\p<2^40/\Rm p A/\Rm p B/\A.length<=50/\B.length<=50/\¬(A=[]/\B=[]))/\∀d u v,Gd p A B d->Q (.tup [wI d,wI u,wI v])
structure Gs(p:Nat)(A B x y:List Int):Prop where
 rx:Rm p x
 ry:Rm p y
 lx:x.length<=50
 ly:y.length<=50
 dv:∀D,Dd D (fL p x)->Dd D (fL p y)->Dd D (fL p A)/\Dd D (fL p B)
 ix:∃s t,fL p x=s*fL p A+t*fL p B
 iy:∃s t,fL p y=s*fL p A+t*fL p B
 no:¬(x=[]/\y=[])
structure Gu(p:Nat)(x y u n:List Int):Prop where
 ru:Rm p u
 rn:Rm p n
 l1:u.length+y.length<=60
 l2:n.length+x.length<=60
theorem x9{x y u n q r:List Int}{p:Nat}{K:W->Prop}{R:Addr->Prop}(j:af p)(g:p<2^40)(h:Gu p x y u n)(dv:Ie p x y q r)(i:Rm p x)(s:x.length<=50)(o:0<y.length)(k:∀b,Gu p y r n b->K (wI b)):
 bz [wI q,wI n,.int p] (λz=>b9 [wI u,z,.int p] K R) R:=by
 have f:0<p:=by have:=j.1;lia
 have lq:=dv.lq;have lr:=dv.lr;have l1:=h.l1;have l2:=h.l2;refine⟨q,n,p,rfl,⟨f,g,by lia,by lia,dv.q,h.rn⟩,λc d e l=>?_⟩;have t:c.length+y.length<=60:=by
  by_cases a:q=[]
  .have:c=[]:=(cE d).mp (by rw[e,a,b7];grind);rw[this];show 0+_<=60;lia
  .have:=Hm.mpr a;lia
 have A:r.length<=x.length:=by
  by_cases a:q=[]
  .have:=qS i dv.r (by rw[pH dv.eq,a,b7];grind);rw[this];exact BM _
  .have:=Hm.mpr a;lia
 refine⟨u,c,p,rfl,⟨f,g,by lia,by lia,d⟩,λb m w v=>k b ⟨h.rn,m,by lia,by lia⟩⟩
theorem Gg{A B x y q r:List Int}{p:Nat}(h:Gs p A B x y)(dv:Ie p x y q r)(d:y≠[]):Gs p A B y r:=by
 have e:=pH dv.eq;have lr:=dv.lr;have ly:=h.ly;obtain⟨s,t,k⟩:=h.ix;obtain⟨g,f,j⟩:=h.iy;refine⟨h.ry,dv.r,ly,by lia,λD ⟨a,c⟩ ⟨b,i⟩=>h.dv D ⟨a*fL p q+b,by rw[e,c,i];grind⟩ ⟨a,c⟩,h.iy,⟨s -g*fL p q,t -f*fL p q,?_⟩,λz=>d z.1⟩;have:fL p r=fL p x -fL p y*fL p q:=by rw[e];grind
 rw[this,k,j];grind
theorem vG{x:List Int}{y:Int}{p:Nat}{K:W->Prop}{R:Addr->Prop}(c:0<p)(k:p<2^40)(a:Rm p x)(l:x.length<=60)(j:0<=y/\y<p)(h:∀d,Rm p d->fL p d=((y:Int):F p)*fL p x->K (wI d)):jc [wI x,.int y] (λz=>cY [z,.int p] K R) R:=by refine⟨x,y,rfl,by lia,λz hz=>gk (p:=p) (by exact_mod_cast k) j (a.b z hz),?_⟩;refine⟨_,p,rfl,by lia,by rw[Ap];lia,λg tr=>?_⟩;obtain⟨e,r,_⟩:=ji c tr;refine h g r (e.trans (Qa λi=>?_));rw[Sub.map_getD (f:=λz=>y*z) (by lia)];exact⟨0,by lia⟩
theorem CP{x y:List Int}{Q:W->Prop}(h:∀k:Bool,(k=true↔x=y)->Q (.bl (!k))):eW .NotEq (wI x) (wI y) Q:=by
 have c:∀z:List Int,rP 9 (.lst (z.map W.int))=true:=λz=>Hc.mpr λw d=>by obtain⟨i,_,rfl⟩:=IR.mp d;exact kT i 8
 exact⟨.inl ⟨c x,c y⟩,λk f=>h k (f.trans ⟨λe=>(QS (λa b e=>W.HC e)).mp (W.Bo e),λe=>by rw[e]⟩)⟩
theorem oj{G:Nat->W}{m:Md}(ws:List W)(Q:W->Prop)(R:Addr->Prop)(h:bE ws Q R):wSs (bI [aS,b9,bz,je,cY,jc]) G Mg (bg m Q R) (ay 10 ws):=by
 obtain⟨A,B,p,rfl,⟨j,w,rA,rB,lA,lB,nz⟩,hq⟩:=h;show wSs _ _ Mg _ [some (wI A),some (wI B),some (.int p),none,none,none,none,none,none,none];unfold Mg;have p2:=j.1;have U:0<p:=by lia
 have r1:Rm p [1]:=⟨λx hx=>by rw[Da.mp hx];exact⟨by decide,by lia⟩,.inr (by show(1:Int)≠0;decide)⟩;have r0:Rm p []:=⟨λx hx=>(by cases hx),.inl rfl⟩;refine aq (λc=>c=[some (wI A),some (wI B),some (.int p),some (wI [1]),some (wI []),none,none,none,none,none]) (λN l=>?_) ?_
 .fin2;exact⟨aj (by simp),aj (by simp),rfl,l _ rfl⟩
 rintro _ rfl;refine aq (λc=>c=[some (wI A),some (wI B),some (.int p),some (wI [1]),some (wI []),some (wI []),some (wI [1]),none,none,none]) (λN l=>?_) ?_
 .fin2;exact⟨aj (by simp),aj (by simp),rfl,l _ rfl⟩
 rintro _ rfl;refine aq (λc=>∃(x u v:List Int)(Z Y J I:Option W),(Gs p A B x []/\(Rm p u/\u.length<=60)/\Rm p v/\v.length<=60)/\c=[some (wI x),some (wI []),some (.int p),some (wI u),Z,some (wI v),Y,J,I,none]) (λN l=>?_) ?_
 .refine jW (α:=(List Int×List Int)×(List Int×List Int×List Int×List Int)×Option W×Option W) (λs=>[some (wI s.1.1),some (wI s.1.2),some (.int p),some (wI s.2.1.1),some (wI s.2.1.2.1),some (wI s.2.1.2.2.1),some (wI s.2.1.2.2.2),s.2.2.1,s.2.2.2,none]) (λs=>Gs p A B s.1.1 s.1.2/\Gu p s.1.1 s.1.2 s.2.1.1 s.2.1.2.1/\Gu p s.1.1 s.1.2 s.2.1.2.2.1 s.2.1.2.2.2) (λs=>s.1.2.length) ((A,B),([1],[],[],[1]),none,none) rfl ⟨⟨rA,rB,lA,lB,λD a b=>⟨a,b⟩,⟨1,0,by grind⟩,⟨0,1,by grind⟩,nz⟩,⟨r1,r0,by show 1+_<=60;lia,by show 0+_<=60;lia⟩,⟨r0,r1,by show 0+_<=60;lia,by show 1+_<=60;lia⟩⟩ ?_;rintro⟨⟨x,y⟩,⟨u,n,v,k⟩,J,I⟩ ⟨e,M,L⟩;dsimp only at e M L⊢;fin2;refine⟨aj (by simp),CP (y:=[]) λkb hk=>?_⟩;fin2;refine cA (λi=>?_) (λi=>?_)
  .have f:y≠[]:=λz=>by rw[cO hk z]at i;cases i
   have P:=Hm.mpr f;have lx:=e.lx;have ly:=e.ly;unfold Io;refine aq (λc=>∃q r,Ie p x y q r/\c=[some (wI x),some (wI y),some (.int p),some (wI u),some (wI n),some (wI v),some (wI k),some (wI q),some (wI r),none]) (λN1 H=>?_) ?_
   .fin2;exact⟨x,y,p,rfl,⟨j,by exact_mod_cast w,P,by lia,by lia,e.rx,e.ry⟩,λq r dv=>⟨rfl,H _ ⟨q,r,dv,rfl⟩⟩⟩
   rintro _ ⟨q,r,dv,rfl⟩;have lr:=dv.lr;refine aq (λc=>c=[some (wI y),some (wI r),some (.int p),some (wI u),some (wI n),some (wI v),some (wI k),some (wI q),some (wI r),none]) (λN1 H=>?_) ?_
   .fin2;exact⟨rfl,H _ rfl⟩
   rintro _ rfl;refine aq (λc=>∃C,Gu p y r n C/\c=[some (wI y),some (wI r),some (.int p),some (wI n),some (wI C),some (wI v),some (wI k),some (wI q),some (wI r),none]) (λN1 H=>?_) ?_
   .fin2;exact x9 j w M dv e.rx lx P λC g=>⟨rfl,H _ ⟨C,g,rfl⟩⟩
   rintro _ ⟨C,WE,rfl⟩;fin2;exact x9 j w L dv e.rx lx P λk' g=>⟨rfl,((y,r),(n,C,k,k'),_,_),rfl,⟨Gg e dv f,WE,g⟩,lr⟩
  .have f:y=[]:=by
    cases kb with
    |true=>exact hk.mp rfl
    |false=>cases i
   subst f;have l1:=M.l1;have l2:=L.l1;exact l _ ⟨x,u,v,_,_,_,_,⟨e,⟨M.ru,by lia⟩,L.ru,by lia⟩,rfl⟩
 rintro _ ⟨x,u,v,Z,Y,J,I,⟨e,⟨ru,lu⟩,rv,lv⟩,rfl⟩;have S:x≠[]:=λz=>e.no ⟨z,rfl⟩;have xl:=Hm.mpr S;have lx:=e.lx;have xz:x.getD (x.length -1) 0≠0:=e.rx.z.resolve_left S;have xb:=e.rx.b _ (Sub.getD_mem' (show x.length -1<x.length by lia));refine aq (λc=>∃y:Int,(0<=y/\y<p/\(p:Int)∣y*x.getD (x.length -1) 0 -1)/\c=[some (wI x),some (wI []),some (.int p),some (wI u),Z,some (wI v),Y,J,I,some (.int y)]) (λN l=>?_) ?_
 .have eL:=xQ (ns:=x) xl;unfold wI at l⊢;fin2;exact⟨_,eL,_,p,rfl,⟨j,by exact_mod_cast w,by lia,xb.2⟩,λy f E K=>l _ ⟨y,⟨f,E,K⟩,rfl⟩⟩
 rintro _ ⟨y,⟨f,E,K⟩,rfl⟩;fin2;refine vG U w e.rx (by lia) ⟨f,E⟩ λd T O=>?_;refine vG U w ru lu ⟨f,E⟩ λu' _ _=>?_;refine vG U w rv lv ⟨f,E⟩ λv' _ _=>⟨aj (by simp),hq d u' v' ?_⟩;have xf:fL p x≠0:=λz=>S ((cE e.rx).mp z);have yu:((y:Int):F p)*((x.getD (x.length -1) 0:Int):F p)=1:=by have:=(bZ (p:=p)).mpr K;rw[XO,Xa,YC]at this;grind
 have yf:((y:Int):F p)≠0:=λz=>kr j (by rw[<-yu,z];grind);have dl:d.length=x.length:=by have l1:=bD j yf xf;rw[<-O,aT T,aT e.rx]at l1;have:=qQ j y;have:dg ((y:Int):F p)≠0:=λz=>yf (bC.mp z);lia
 obtain⟨s,t,e1⟩:=e.ix;have dx:Dd (fL p d) (fL p x):=⟨((x.getD (x.length -1) 0:Int):F p),by rw[O];grind⟩;obtain⟨da,db⟩:=e.dv (fL p d) dx ⟨0,by rw[b7];grind⟩;refine⟨⟨T,by lia,?_⟩,da,db,⟨((y:Int):F p)*s,((y:Int):F p)*t,by rw[O,e1];grind⟩⟩;have o:=Qt.eq.mp (show Qt.mk (Ip p) (di d)=Qt.mk (Ip p) (Alg.cst y*di x)from O) (d.length -1);have o:(p:Int)∣d.getD (d.length -1) 0+ -(Alg.cst y*di x).1 (d.length -1):=o;rw[Po.qL]at o;have o:(p:Int)∣d.getD (d.length -1) 0+ -(y*x.getD (d.length -1) 0):=o;rw[dl]at o⊢;have bd:=T.b _ (Sub.getD_mem' (show x.length -1<d.length by lia));refine mod_eq bd ⟨by decide,by lia⟩ ?_;have:=TC o K;rw[show d.getD (x.length -1) 0+ -(y*x.getD (x.length -1) 0)+(y*x.getD (x.length -1) 0 -1)=d.getD (x.length -1) 0 -1 by lia]at this;exact this
end VL
namespace Alg
open Lean.Grind Num Sub VL
local instance {R : Type} [IS R] : NatCast R := Ea
local instance {R : Type} [Ji R] : IntCast R := Eb
variable{p:Nat}
theorem Iq(f:F p):∃l:List Int,l.length=dg f/\f=fL p l:=by
 obtain⟨g,rfl⟩:=f.ex;refine⟨(BB (dg (Qt.mk (Ip p) g))).map g.1,by rw[Ap,HI],Qt.eq.mpr λi=>?_⟩;show(p:Int)∣g.1 i+ -(((BB (dg (Qt.mk (Ip p) g))).map g.1).getD i 0);rw[AC,Dx];by_cases a:i<dg (Qt.mk (Ip p) g)
 .rw[Oy a];show(p:Int)∣g.1 i+ -g.1 i;exact⟨0,by lia⟩
 .rw[FM (by rw[HI];lia)];show(p:Int)∣g.1 i+ -0;have:=fk (Qt.mk (Ip p) g) i (by lia);rw[show g.1 i+ -0=g.1 i by lia];exact this
theorem vH(f:af p){M P Q:F p}{d:Nat}(x:M≠0)(E:Dd M ((X:F p)^(p^d) -X))(D:cG P)(u:Od d P)(B:cG Q)(t:Dd P M)(m:Dd Q M)(n:¬Dd P Q):∃i,1<=i/\i+1<dg M/\∀c:Int,¬Dd M (tr p d ((X:F p)^i) -((c:Int):F p)):=by
 apply FV;intro v;have C:=F.chr f;obtain⟨i,K,A⟩:=zL f E D u B t m n;have one:∀k,k+1<dg M->∃c:Int,Dd M (tr p d ((X:F p)^k) -((c:Int):F p)):=λk g=>by
  by_cases y:1<=k
  .exact FV λz=>v ⟨k,y,g,λc w=>z ⟨c,w⟩⟩
  .refine⟨(d:Int),0,?_⟩;have H:k=0:=by lia
   rw[H,Semiring.pow_zero];have:∀d:Nat,tr p d (1:F p)=(((d:Nat):Int):F p):=λd=>by
    unfold tr
    induction d with
    |zero=>exact Ring.intCast_zero.symm
    |succ d b=>show sR _ d+(1:F p)^(p^d)=_;rw[b,one_pow,P5,Ring.intCast_add,Ring.intCast_one]
   rw[this];grind
 have h:∀(l:List Int)(k:Nat),k+l.length+1<=dg M->∃c:Int,Dd M (tr p d ((X:F p)^k*fL p l) -((c:Int):F p)):=λl=>by
  induction l with
  |nil=>intro k _;refine⟨0,0,?_⟩;rw[b7,show(X:F p)^k*0=0 by grind,qR C,Ring.intCast_zero];grind
  |cons a l b=>intro k g;rw[D8]at g;obtain⟨J,s,R⟩:=one k (by lia);obtain⟨I,o,O⟩:=b (k+1) (by lia);refine⟨a*J+I,((a:Int):F p)*s+o,?_⟩;rw[fT,show(X:F p)^k*(((a:Int):F p)+X*fL p l)=((a:Int):F p)*(X:F p)^k+X^k*X*fL p l by grind,<-aH,CF C,Ik C,Ring.intCast_add,Ring.intCast_mul];grind
 obtain⟨q,r,e,L⟩:=vt f x _ ((X:F p)^i) (BM _);obtain⟨l,N,G⟩:=Iq r;obtain⟨c,j⟩:=h l 0 (by lia);rw[<-G,Semiring.pow_zero,show(1:F p)*r=r by grind]at j;refine A c (mk_eq.mp ?_);rw[<-mk_eq.mpr j,t7,t7];congr 1;exact mk_eq.mpr ⟨q,by rw[e];grind⟩
structure EP(p d:Nat)(row:List Int):Prop where
 pr:af p
 m:Mn p row
 d1:1<=d
 x:Dd (fL p row) ((X:F p)^(p^d) -X)
 od:∀P,cG P->Dd P (fL p row)->Od d P
theorem EP.ne{d:Nat}{a:List Int}(h:EP p d a):fL p a≠0:=λz=>by have:=h.m.n0;rw[(cE h.m.r).mp z]at this;cases this
theorem EP.P8{d:Nat}{a:List Int}(h:EP p d a):∀Q,Dd (Q*Q) (fL p a)->dg Q=1:=λQ b=>PZ h.pr h.x h.d1 b h.ne
theorem EP.two{d:Nat}{a:List Int}(h:EP p d a)(l:d+1<a.length):∃P Q,cG P/\cG Q/\Dd P (fL p a)/\Dd Q (fL p a)/\¬Dd P Q:=by have c:=h.pr;have i:=h.ne;have f:=aT h.m.r;obtain⟨P,b,N,e⟩:=gp c _ (fL p a) (BM _) (by rw[f];lia);have q:=(h.od P b ⟨N,e⟩).dg c b;have j:N≠0:=λz=>i (by rw[e,z];grind);have k:=bD c b.ne j;rw[<-e,f,q]at k;obtain⟨Q,o,w,g⟩:=gp c _ N (BM _) (by lia);refine⟨P,Q,b,o,⟨N,e⟩,⟨P*w,by rw[e,g];grind⟩,λ⟨v,n⟩=>?_⟩;have:=h.P8 P ⟨v*w,by rw[e,g,n];grind⟩;have:=b.two;lia
theorem EP.part{d:Nat}{b a:List Int}(h:EP p d b)(e:Mn p a)(c:Dd (fL p a) (fL p b)):EP p d a:=⟨h.pr,e,h.d1,c.trans h.x,λP g f=>h.od P g (f.trans c)⟩
theorem EP.Q8{d:Nat}{c:List Int}(h:EP p d c)(l:c.length=d+1):cG (fL p c):=by
 have f:=h.pr;have k:=h.ne;have i:=aT h.m.r;have d1:=h.d1;obtain⟨P,g,N,e⟩:=gp f _ (fL p c) (BM _) (by rw[i];lia);have u:=(h.od P g ⟨N,e⟩).dg f g;have s:N≠0:=λz=>k (by rw[e,z];grind);have t:=bD f g.ne s;rw[<-e,i,u]at t;obtain⟨y,n⟩:=dj f (show dg N=1 by lia);refine⟨by rw[i];lia,λa b q=>?_⟩;have:P=a*(b*y):=by
  have:P=P*N*y:=by
   have:P=P*(y*N):=by rw[n];grind
   grind
  rw[this,<-e,q];grind
 rcases g.no a (b*y) this with z|z
 .exact .inl z
 .right;have o:b≠0:=λz=>k (by rw[q,z];grind);have j:y≠0:=λz=>kr f (by rw[<-n,z];grind);have v:=bD f o j;have:dg b≠0:=λz=>o (bC.mp z);have:dg y≠0:=λz=>j (bC.mp z);lia
theorem EP.num{d:Nat}{a:List Int}(h:EP p d a){s f:F p}(i:Dd (fL p a) (s -tr p d f))(P:F p)(g:cG P)(c:Dd P (fL p a)):∃n:Int,Dd P (s -((n:Int):F p)):=by have b:=h.pr;have C:=Kf.chr b P;obtain⟨n,_,e⟩:=Ij b g (Ma C (vA b (h.od P g c).yes (Qt.mk (Pr P) f)));refine⟨(n:Int),mk_eq.mp ?_⟩;rw[mk_eq.mpr (c.trans i),t7,e];exact(Ring.intCast_natCast n).symm
theorem ya:∀n:Nat,fL p (Aq n 0++[1])=(X:F p)^n
 |0=>by rw[Semiring.pow_zero];exact gq
 |n+1=>by rw[JH,List.cons_append,fT,ya n,aH,Ring.intCast_zero];grind
end Alg
namespace VL
open PySem PySem.Spec
open PyProof.Rows hiding St
open L2 Num Alg
theorem jj{d:Nat->aX}{G:Nat->W}{D:Dn}{c:Ev}{i:Nat}{e:CE}{b:List CS}{l:List W}(f:∀Q:W->Prop,Q (.lst l)->wE d G (λ_=>False) e c Q)(h:iT (λw g a=>wSs d G b g (a.set i (some w))) D l c):wS d G (.fr [i] true e b) D c:=f _ h
theorem jk{p:Nat}(b:af p)(n:Nat):Rm p (Aq n 0++[1]):=by
 have c:=b.1;refine⟨λx a=>?_,.inr ?_⟩
 .rcases GM.mp a with h|h
  .rw[(List.mem_replicate.mp h).2];exact⟨by decide,by lia⟩
  .rw[Da.mp h];exact⟨by decide,by lia⟩
 .rw[Fk,Y2,G7,Kx,AC,Jn (by rw[Y2];exact BM _),Y2,XW];show(1:Int)≠0;decide
noncomputable def qU:List CS:=[.set 4 (.ix (.call 0 [(.bin .Add (.bin .Mult (.lst [(.int 0)]) (.var 0)) (.lst [(.int 1)])),(.var 2),(.var 3)]) (.int 1)),.set 5 (.var 4),.fr [6] true (.jq [(.bin .Sub (.var 1) (.int 1))]) [.set 4 (.call 1 [(.var 4),(.var 3),(.var 2),(.var 3)]),.set 5 (.call 2 [(.var 5),(.var 4),(.var 3)])],.ret (.var 5)]
noncomputable def nE:aX:=λb Q _=>∃(n d:Nat)(a:List Int)(p:Nat),b=[.int n,.int d,wI a,.int p]/\(af p/\p<2^40/\Rm p a/\2<=a.length/\a.length<=50/\n<=50/\1<=d/\d<=50)/\∀r,Rm p r->r.length<a.length->Dd (fL p a) (fL p r -tr p d ((X:F p)^n))->Q (wI r)
theorem Gh{G:Nat->W}{m:Md}(z:List W)(Q:W->Prop)(R:Addr->Prop)(h:nE z Q R):wSs (bI [aS,cM,gr]) G qU (bg m Q R) (ay 7 z):=by
 obtain⟨n,d,f,p,rfl,⟨s,J,A,U,L,XD,d1,MY⟩,y⟩:=h;show wSs _ _ qU _ [some (.int n),some (.int d),some (wI f),some (.int p),none,none,none];unfold qU;have p2:=s.1;have T:0<p:=by lia
 refine aq (λg=>∃r,(Rm p r/\r.length<f.length/\Dd (fL p f) (fL p r -(X:F p)^n))/\g=[some (.int n),some (.int d),some (wI f),some (.int p),some (wI r),none,none]) (λN k=>?_) ?_
 .fin2;rw[Fc,fh];refine⟨aj (by simp),by lia,by lia,aj (by simp;lia),aj (by simp),aj (by simp;lia),?_⟩;have e:(Aq n (W.int 0)++[W.int 1])=(Aq n (0:Int)++[1]).map W.int:=by rw[PQ,YI];rfl
  rw[e];refine⟨Aq n 0++[1],f,p,rfl,⟨s,by exact_mod_cast J,by lia,by simp;lia,by lia,jk s n,A⟩,λS M dv=>⟨_,rfl,k _ ⟨M,⟨dv.r,dv.lr,-fL p S,?_⟩,rfl⟩⟩⟩;have:=pH dv.eq;rw[ya]at this;rw[this];grind
 rintro _ ⟨q,⟨H,E,D⟩,rfl⟩;refine aq (λg=>g=[some (.int n),some (.int d),some (wI f),some (.int p),some (wI q),some (wI q),none]) (λN k=>?_) ?_
 .fin2;exact k _ rfl
 rintro _ rfl;refine aq (λg=>∃(r:List Int)(B j:Option W),(Rm p r/\r.length<f.length/\Dd (fL p f) (fL p r -tr p d ((X:F p)^n)))/\g=[some (.int n),some (.int d),some (wI f),some (.int p),B,some (wI r),j]) (λN k=>?_) ?_
 .refine jj (l:=cR 0 1 (d -1)) (λQ y=>?_) ?_
  .fin2;rw[show(d:Int) -1=((d -1:Nat):Int) by lia];exact⟨by lia,by lia,y⟩
  refine bq (λi K=>∃(b r:List Int)(j:Option W),(i<=d -1/\(Rm p b/\b.length<f.length/\Qt.mk (Pr (fL p f)) (fL p b)=Qt.mk (Pr (fL p f)) (((X:F p)^n)^(p^i)))/\Rm p r/\r.length<f.length/\Qt.mk (Pr (fL p f)) (fL p r)=Qt.mk (Pr (fL p f)) (tr p (i+1) ((X:F p)^n)))/\K=[some (.int n),some (.int d),some (wI f),some (.int p),some (wI b),some (wI r),j]) ⟨q,q,none,⟨Hn _,⟨H,E,?_⟩,H,E,?_⟩,rfl⟩ ?_ ?_
  .rw[OA,show((X:F p)^n)^1=X^n by rw[aH,Fn];grind];exact mk_eq.mpr D
  .refine(mk_eq.mpr D).trans (GT (Qt.mk (Pr (fL p f))) ?_);show X^n=(0:F p)+(X^n)^(p^0);rw[OA,show((X:F p)^n)^1=X^n by rw[aH,Fn];grind];grind
  .rintro i w _ N1 Y ⟨b,r,j,⟨hi,⟨O,lb,I⟩,C,lr,t⟩,rfl⟩ fu;obtain⟨Z,rfl⟩:=ic Y;fin2;refine⟨b,f,p,p,rfl,⟨s,J,O,A,U,L,by lia⟩,λu v x o=>?_⟩;refine⟨r,u,p,rfl,⟨T,by lia,by lia⟩,λP UI WG Q7=>fu _ ⟨u,P,_,⟨by lia,⟨v,x,?_⟩,UI,by lia,?_⟩,rfl⟩⟩
   .rw[mk_eq.mpr o,d9,I,<-d9,<-pow_mul,<-N6]
   .have e1:Qt.mk (Pr (fL p f)) (fL p u)=Qt.mk (Pr (fL p f)) (((X:F p)^n)^(p^(i+1))):=by rw[mk_eq.mpr o,d9,I,<-d9,<-pow_mul,<-N6]
    rw[WG];show Qt.mk (Pr (fL p f)) (fL p r)+Qt.mk (Pr (fL p f)) (fL p u)=_;rw[t,e1];rfl
  .rintro _ ⟨b,r,j,⟨_,_,C,lr,t⟩,rfl⟩;rw[L1]at t;refine k _ ⟨r,_,_,⟨C,lr,mk_eq.mp ?_⟩,rfl⟩;rw[t,show d -1+1=d by lia]
 rintro _ ⟨r,B,j,⟨a,b,c⟩,rfl⟩;fin2;exact y r a b c
noncomputable def jX:List CS:=[.iff (.cmp .Eq (.var 2) (.int 2)) [.ret (.var 0)] [],.ret (.call 0 [(.call 1 [(.var 0),(.bin .FloorDiv (.bin .Sub (.var 2) (.int 1)) (.int 2)),(.var 1),(.var 2)]),(.lst [(.int 1)]),(.var 2)])]
noncomputable def jl:aX:=λb Q _=>∃(s a:List Int)(p:Nat),b=[wI s,wI a,.int p]/\(af p/\p<2^40/\Rm p s/\s.length<a.length/\Rm p a/\2<=a.length/\a.length<=50)/\∀r,Rm p r->r.length<=a.length->Dd (fL p a) (fL p r -sq p (fL p s))->Q (wI r)
theorem zN{G:Nat->W}{m:Md}(c:List W)(Q:W->Prop)(R:Addr->Prop)(h:jl c Q R):wSs (bI [b9,cM]) G jX (bg m Q R) (ay 3 c):=by
 obtain⟨s,a,p,rfl,⟨b,i,d,y,k,o,j⟩,f⟩:=h;show wSs _ _ jX _ [some (wI s),some (wI a),some (.int p)];unfold jX;have x:=b.1;have l:Rm p [1]:=jk b 0;fin2;by_cases g:p=2
 .rw[Bz (Do (by lia))];refine f s d (by lia) ⟨0,?_⟩;unfold sq;rw[Bz g];grind
 .rw[Bn (by rw[Fh];lia)];refine⟨⟨by decide,by decide⟩,?_⟩;rw[show((p:Int) -1).fdiv 2=(((p -1)/2:Nat):Int) by rw[X7 _ (by decide)];lia];refine⟨s,a,(p -1)/2,p,rfl,⟨b,i,d,k,o,j,by lia⟩,λr A z w=>⟨aj (by simp),?_⟩⟩;refine⟨r,[1],p,rfl,⟨by lia,i,by lia,by simp,l⟩,λn v u t=>f n v (by rw[G7]at t;lia) ?_⟩;obtain⟨q,e⟩:=w;refine⟨q,?_⟩;unfold sq;rw[Bn g,u,gq,<-e];grind
noncomputable def yb:List CS:=[.set 3 (.bin .Add (.var 3) (.int 1)),.set 4 (.call 0 [(.var 3),(.var 1),(.var 0),(.var 2)])]
noncomputable def qV:List CS:=[.set 5 (.ix (.call 1 [(.call 2 [(.var 4),(.var 0),(.var 2)]),(.var 0),(.var 2)]) (.int 0)),.set 4 (.call 3 [(.var 4),(.lst [(.int 1)]),(.var 2)])]
noncomputable def nF:List CS:=[.set 3 (.int 1),.set 4 (.call 0 [(.var 3),(.var 1),(.var 0),(.var 2)]),.uq (.cmp .Lt (.blt .len [(.var 4)]) (.int 2)) yb,.set 5 (.lst [(.int 1)]),.uq (.or [(.cmp .Eq (.blt .len [(.var 5)]) (.int 1)),(.cmp .Eq (.blt .len [(.var 5)]) (.blt .len [(.var 0)]))]) qV,.ret (.var 5)]
structure Hv(p d:Nat)(row part:List Int):Prop where
 m:Mn p part
 d:Dd (fL p part) (fL p row)
 l1:1<part.length
 l2:part.length<row.length
noncomputable def jm:aX:=λc Q _=>∃(a:List Int)(d p:Nat),c=[wI a,.int d,.int p]/\(EP p d a/\p<2^30/\d+1<a.length/\a.length<=50/\d<=50)/\∀b,Hv p d a b->Q (wI b)
theorem CQ{G:Nat->W}{m:Md}(ws:List W)(Q:W->Prop)(R:Addr->Prop)(h:jm ws Q R):wSs (bI [nE,bE,jl,gr]) G nF (bg m Q R) (ay 6 ws):=by
 obtain⟨f,d,p,rfl,⟨E,qW,big,vE,MY⟩,hq⟩:=h;show wSs _ _ nF _ [some (wI f),some (.int d),some (.int p),none,none,none];unfold nF;have A:=E.pr;have p2:=A.1;have dQ:p<2^40:=Yd qW (by decide);have d1:=E.d1;have ld:=aT E.m.r;obtain⟨P,Q',hP,hQ,pM,qM,WH⟩:=E.two big;obtain⟨U,i1,iM,nc⟩:=vH A E.ne E.x hP (E.od P hP pM) hQ pM qM WH;rw[ld]at iM;have go:∀(R:Addr->Prop)(n:Nat)(K:W->Prop),n<=50->(∀r,Rm p r->r.length<f.length->Dd (fL p f) (fL p r -tr p d ((X:F p)^n))->K (wI r))->nE [.int n,.int d,wI f,.int p] K R:=λR n K hn hK=>⟨n,d,f,p,rfl,⟨A,dQ,E.m.r,by lia,vE,hn,d1,MY⟩,hK⟩;refine aq (λk=>k=[some (wI f),some (.int d),some (.int p),some (.int ((1:Nat):Int)),none,none]) (λN I=>?_) ?_
 .fin2;exact I _ rfl
 rintro _ rfl;refine aq (λk=>∃s,(Rm p s/\s.length<f.length/\Dd (fL p f) (fL p s -tr p d ((X:F p)^1)))/\k=[some (wI f),some (.int d),some (.int p),some (.int ((1:Nat):Int)),some (wI s),none]) (λN I=>?_) ?_
 .fin2;exact go _ 1 _ (by decide) λr a b c=>I _ ⟨r,⟨a,b,c⟩,rfl⟩
 rintro _ ⟨s,⟨J,S,s3⟩,rfl⟩;refine aq (λk=>∃(s:List Int)(n:Nat)(o3:Option W),(Rm p s/\s.length<f.length/\2<=s.length/\Dd (fL p f) (fL p s -tr p d ((X:F p)^n)))/\k=[some (wI f),some (.int d),some (.int p),o3,some (wI s),none]) (λN I=>?_) ?_
 .refine jW (α:=Nat×List Int) (λz=>[some (wI f),some (.int d),some (.int p),some (.int (z.1:Nat)),some (wI z.2),none]) (λz=>z.1<=U/\Rm p z.2/\z.2.length<f.length/\Dd (fL p f) (fL p z.2 -tr p d ((X:F p)^z.1))) (λz=>U -z.1) (1,s) rfl ⟨i1,J,S,s3⟩ ?_;rintro⟨n,s⟩ ⟨hn,a,b,c⟩;dsimp only at hn a b c⊢;unfold wI;fin2;rw[Ap];refine cA (λH=>?_) (λH=>?_)
  .have D:=Bi H;have lt:n<U:=XS hn λe=>by
    subst e;obtain⟨x,hx⟩:∃x:Int,fL p s=((x:Int):F p):=by
     cases s with
     |nil=>exact⟨0,by rw[b7,PV]⟩
     |cons x s=>have:s=[]:=Pv.mp (by rw[D8]at D;lia);exact⟨x,by rw[this,fT,b7];grind⟩
    obtain⟨w,L⟩:=c;exact nc x ⟨-w,by rw[<-hx];grind⟩
   unfold yb;fin2;rw[show((n:Nat):Int)+1=((n+1:Nat):Int) by lia];exact go _ (n+1) _ (by lia) λr a b c=>⟨(n+1,r),rfl,⟨lt,a,b,c⟩,by show U -(n+1)<U -n;lia⟩
  .have D:¬((s.length:Int)<2):=λz=>by rw[Do z]at H;cases H
   exact I _ ⟨s,n,_,⟨a,b,by lia,c⟩,rfl⟩
 clear J S s3 s;rintro _ ⟨s,n,o3,⟨J,S,s3,s4⟩,rfl⟩;obtain⟨o,ht0,P1,Q1,WI,XE,UJ,WJ,WK,WL⟩:=CJ A E.ne E.P8 (λP hP hd=>E.num s4 P hP hd) (by rw[aT J];exact s3) (by rw[aT J,ld];exact S);have r1:Rm p [1]:=jk A 0;refine aq (λk=>k=[some (wI f),some (.int d),some (.int p),o3,some (wI s),some (wI [1])]) (λN I=>?_) ?_
 .fin2;exact⟨aj (by simp),I _ rfl⟩
 rintro _ rfl;have rl:2<=f.length:=by lia
 refine aq (λk=>∃(j:List Int)(o4:Option W),Hv p d f j/\k=[some (wI f),some (.int d),some (.int p),o3,o4,some (wI j)]) (λN I=>?_) ?_
 .refine jW (α:=Nat×List Int×List Int) (λz=>[some (wI f),some (.int d),some (.int p),o3,some (wI z.2.1),some (wI z.2.2)]) (λz=>z.1<=o+1/\(Rm p z.2.1/\z.2.1.length<f.length/\fL p z.2.1=fL p s+(((z.1:Nat):Int):F p))/\Mn p z.2.2/\Dd (fL p z.2.2) (fL p f)/\(z.1=o+1->z.2.2.length≠1/\z.2.2.length≠f.length)) (λz=>o+1 -z.1) (0,s,[1]) rfl ⟨Hn _,⟨J,S,?_⟩,⟨r1,Nat.one_pos,rfl⟩,⟨fL p f,by rw[gq];grind⟩,λz=>by cases z⟩ ?_
  .show fL p s=fL p s+(((0:Nat):Int):F p);rw[show((0:Nat):Int)=0 from rfl,PV];grind
  rintro⟨t,u,j⟩ ⟨ht,⟨u1,u2,Z⟩,mp,dp,ne⟩;dsimp only at ht u1 u2 Z mp dp ne⊢;have O:j.length≠1->j.length≠f.length->Hv p d f j:=λa b=>by have:=mp.n0;have l:=dp.len A E.ne;rw[aT mp.r,ld]at l;exact⟨mp,dp,by lia,by lia⟩
  have C:t<o+1->wSs (bI [nE,bE,jl,gr]) G qV {nx:=WN (λz:Nat×List Int×List Int=>[some (wI f),some (.int d),some (.int p),o3,some (wI z.2.1),some (wI z.2.2)]) (λz=>z.1<=o+1/\(Rm p z.2.1/\z.2.1.length<f.length/\fL p z.2.1=fL p s+(((z.1:Nat):Int):F p))/\Mn p z.2.2/\Dd (fL p z.2.2) (fL p f)/\(z.1=o+1->z.2.2.length≠1/\z.2.2.length≠f.length)) (λz=>o+1 -z.1) (t,u,j),rt:=(bg m Q R).rt,bk:=N,ct:=WN (λz:Nat×List Int×List Int=>[some (wI f),some (.int d),some (.int p),o3,some (wI z.2.1),some (wI z.2.2)]) (λz=>z.1<=o+1/\(Rm p z.2.1/\z.2.1.length<f.length/\fL p z.2.1=fL p s+(((z.1:Nat):Int):F p))/\Mn p z.2.2/\Dd (fL p z.2.2) (fL p f)/\(z.1=o+1->z.2.2.length≠1/\z.2.2.length≠f.length)) (λz=>o+1 -z.1) (t,u,j),ex:=λ_=>False} [some (wI f),some (.int d),some (.int p),o3,some (wI u),some (wI j)]:=λlt=>by
   unfold qV;refine aq (λk=>∃g,(Mn p g/\Dd (fL p g) (fL p f)/\(t+1=o+1->g.length≠1/\g.length≠f.length))/\k=[some (wI f),some (.int d),some (.int p),o3,some (wI u),some (wI g)]) (λN1 fu=>?_) ?_
   .fin2;refine⟨u,f,p,rfl,⟨A,dQ,u1,u2,E.m.r,rl,vE⟩,λr h1 h2 Y=>?_⟩;refine⟨r,f,p,rfl,⟨A,dQ,h1,E.m.r,by lia,vE,λz=>by rw[z.2]at rl;cases rl⟩,λg u' v' B=>⟨_,rfl,fu _ ⟨g,⟨B.m,B.b,λe=>?_⟩,rfl⟩⟩⟩;have e:t=o:=by lia
    rw[e]at Z;rw[Z]at Y;obtain⟨a,b,hi⟩:=B.i;constructor
    .intro D;have d1:Dd P1 (fL p r):=by
      obtain⟨w,L⟩:=Y;obtain⟨M,q⟩:=UJ;obtain⟨w2,uu⟩:=WK;exact⟨M*w+w2,by
       have:fL p r=fL p f*w+sq p (fL p s+(((o:Nat):Int):F p)):=by rw[<-L];grind
       rw[this,q,uu];grind⟩
     obtain⟨M,q⟩:=UJ;obtain⟨w2,uu⟩:=d1;have WM:Dd P1 (fL p g):=⟨a*w2+b*M,by rw[hi,q,uu];grind⟩;have:=WM.len A (λz=>by have:=B.m.n0;rw[(cE B.m.r).mp z]at this;cases this);rw[aT B.m.r,D]at this;have:=WI.two;lia
    .intro D;obtain⟨w,L⟩:=B.b;have g0:fL p g≠0:=λz=>by have:=B.m.n0;rw[(cE B.m.r).mp z]at this;cases this
     have w0:w≠0:=λz=>E.ne (by rw[L,z];grind);have T:=bD A g0 w0;rw[<-L,ld,aT B.m.r,D]at T;obtain⟨y,hy⟩:=dj A (show dg w=1 by lia);refine WL ?_;obtain⟨v,hv⟩:=B.a;obtain⟨M,q⟩:=WJ;obtain⟨w3,WO⟩:=Y;have e1:fL p g=fL p f*y:=by
      have:fL p g=fL p g*(y*w):=by rw[hy];grind
      rw[this,L];grind
     have e2:sq p (fL p s+(((o:Nat):Int):F p))=fL p f*(y*v -w3):=by
      have:sq p (fL p s+(((o:Nat):Int):F p))=fL p r -fL p f*w3:=by rw[<-WO];grind
      rw[this,hv,e1];grind
     exact⟨M*(y*v -w3),by rw[e2,q];grind⟩
   rintro _ ⟨g,⟨g1,g2,g3⟩,rfl⟩;fin2;refine⟨aj (by simp),u,[1],p,rfl,⟨by lia,by lia,by simp⟩,λu' h1 h2 Y=>⟨(t+1,u',g),rfl,⟨by show t+1<=o+1;lia,⟨h1,?_,?_⟩,g1,g2,g3⟩,by show o+1 -(t+1)<o+1 -t;lia⟩⟩
   .show u'.length<f.length;rw[G7]at Y;lia
   .show fL p u'=fL p s+(((t+1:Nat):Int):F p);rw[h2,Z,gq,P5,Pd,YC];grind
  unfold wI at C⊢;fin2;rw[Ap,Ap];by_cases D:j.length=1
  .rw[Bz (Do (by lia))];refine cA (λ_=>C (XS ht λe=>(ne e).1 D)) λz=>by cases z
  .rw[Bn (by rw[Fh];lia)];refine cA (λH=>?_) (λH=>?_)
   .have T:j.length=f.length:=by have:=Bi H;lia
    exact C (XS ht λe=>(ne e).2 T)
   .have T:j.length≠f.length:=λz=>by rw[Do (by lia)]at H;cases H
    exact I _ ⟨j,_,O D T,rfl⟩
 rintro _ ⟨j,o4,hv,rfl⟩;fin2;exact hq j hv
noncomputable def qX(p:Nat):List (List Int)->F p
 |[]=>1
 |l::a=>fL p l*qX p a
theorem yc{p:Nat}:∀(a b:List (List Int)),qX p (a++b)=qX p a*qX p b
 |[],b=>by show qX p b=1*qX p b;grind
 |l::a,b=>by show fL p l*qX p (a++b)=fL p l*qX p a*qX p b;rw[yc a b];grind
theorem kX{p:Nat}:∀{a:List (List Int)}{l:List Int},l∈a->Dd (fL p l) (qX p a)
 |x::a,l,h=>by
  rcases Fm.mp h with rfl|h
  .exact⟨qX p a,rfl⟩
  .obtain⟨q,b⟩:=kX h;exact⟨fL p x*q,by show fL p x*qX p a=_;rw[b];grind⟩
structure WQ(p d:Nat)(row:List Int)(ls:List (List Int)):Prop where
 all:∀l∈ls,Mn p l/\cG (fL p l)/\l.length=d+1
 pw:ls.Pairwise (·≠·)
 pr:fL p row=qX p ls
noncomputable def cP:List CS:=[.iff (.cmp .Eq (.blt .len [(.var 0)]) (.int 1)) [.ret (.lst [])] [],.iff (.cmp .Eq (.blt .len [(.var 0)]) (.bin .Add (.var 1) (.int 1))) [.ret (.lst [(.var 0)])] [],.set 3 (.call 0 [(.var 0),(.var 1),(.var 2)]),.set 4 (.ix (.call 1 [(.var 0),(.var 3),(.var 2)]) (.int 0)),.ret (.bin .Add (.call 2 [(.var 3),(.var 1),(.var 2)]) (.call 2 [(.var 4),(.var 1),(.var 2)]))]
noncomputable def bT(k:Nat):aX:=λc Q _=>∃(a:List Int)(d p:Nat),c=[wI a,.int d,.int p]/\(EP p d a/\p<2^30/\a.length<=50/\d<=50/\a.length<=k)/\∀b,WQ p d a b->b.length<=a.length->Q (.lst (b.map wI))
theorem vI{p:Nat}{b a q r:List Int}(d:af p)(dv:Ie p b a q r)(g:Mn p b)(mp:Mn p a)(i:Dd (fL p a) (fL p b)):r=[]/\Mn p q/\fL p b=fL p a*fL p q:=by
 have e:=pH dv.eq;obtain⟨w,h⟩:=i;have c:r=[]:=by
  refine(cE dv.r).mp (FV λz=>?_);have:Dd (fL p a) (fL p r):=⟨w -fL p q,by
   have:fL p r=fL p b -fL p a*fL p q:=by rw[e];grind
   rw[this,h];grind⟩
  have:=this.len d z;rw[aT mp.r,aT dv.r]at this;have:=dv.lr;lia
 have f:fL p b=fL p a*fL p q:=by rw[e,c,b7];grind
 exact⟨c,g.WC d mp dv.q f,f⟩
theorem om{G:Nat->W}{m:Md}{k:Nat}(O:List W)(Q:W->Prop)(R:Addr->Prop)(h:bT (k+1) O Q R):wSs (bI [jm,aS,bT k]) G cP (bg m Q R) (ay 5 O):=by
 obtain⟨c,d,p,rfl,⟨E,H,vE,M,lk⟩,K⟩:=h;show wSs _ _ cP _ [some (wI c),some (.int d),some (.int p),none,none];unfold cP;have o:=E.pr;have n0:=E.m.n0;have d1:=E.d1;have J:=aT E.m.r;refine aq (λf=>c.length≠1/\f=[some (wI c),some (.int d),some (.int p),none,none]) (λN g=>?_) ?_
 .by_cases l1:c.length=1
  .have e:c=[1]:=by obtain⟨x,rfl⟩:=Xt.mp l1;have:=E.m.one;have this:x=1:=this;rw[this]
   have:=K [] ⟨λl t=>(by cases t),.nil,by rw[e];exact gq⟩ (Hn _);unfold wI;fin2;rw[Ap,Bz (Do (by lia))];exact⟨aj (by simp),this⟩
  .have g:=g _ ⟨l1,rfl⟩;unfold wI at g⊢;fin2;rw[Ap,Bn (by rw[Fh];lia)];exact g
 rintro _ ⟨l1,rfl⟩;refine aq (λf=>c.length≠d+1/\f=[some (wI c),some (.int d),some (.int p),none,none]) (λN g=>?_) ?_
 .by_cases l2:c.length=d+1
  .have:=K [c] ⟨λl t=>by rw[Da.mp t];exact⟨E.m,E.Q8 l2,l2⟩,YY _ _,by show _=fL p c*1;grind⟩ (by show 1<=_;lia);unfold wI at this⊢;fin2;rw[Ap,Bz (Do (by lia))];exact⟨aj (by simp),this⟩
  .have g:=g _ ⟨l2,rfl⟩;unfold wI at g⊢;fin2;rw[Ap,Bn (by rw[Fh];lia)];exact g
 rintro _ ⟨l2,rfl⟩;have L:d+1<c.length:=by obtain⟨P,U,S⟩:=gp o _ (fL p c) (BM _) (by rw[J];lia);have:=S.len o E.ne;rw[(E.od P U S).dg o U,J]at this;lia
 refine aq (λf=>∃a,Hv p d c a/\f=[some (wI c),some (.int d),some (.int p),some (wI a),none]) (λN g=>?_) ?_
 .fin2;exact⟨c,d,p,rfl,⟨E,H,L,vE,M⟩,λa j=>g _ ⟨a,j,rfl⟩⟩
 rintro _ ⟨a,j,rfl⟩;have XF:=j.l1;have XG:=j.l2;refine aq (λf=>∃b,(Mn p b/\fL p c=fL p a*fL p b)/\f=[some (wI c),some (.int d),some (.int p),some (wI a),some (wI b)]) (λN g=>?_) ?_
 .fin2;refine⟨c,a,p,rfl,⟨o,by have:=H;lia,by lia,by lia,by lia,E.m.r,j.m.r⟩,λq r dv=>⟨_,rfl,?_⟩⟩;obtain⟨_,mq,e⟩:=vI o dv E.m j.m j.d;exact g _ ⟨q,⟨mq,e⟩,rfl⟩
 rintro _ ⟨b,⟨I,e⟩,rfl⟩;have db:Dd (fL p b) (fL p c):=⟨fL p a,by rw[e];grind⟩;have Z:=E.part j.m j.d;have Y:=E.part I db;have UE:=bD o Z.ne Y.ne;rw[<-e,J,aT j.m.r,aT I.r]at UE;fin2;refine⟨a,d,p,rfl,⟨Z,H,by lia,M,by lia⟩,λB s XH=>?_⟩;refine⟨b,d,p,rfl,⟨Y,H,by lia,M,by lia⟩,λA w XI=>?_⟩;fin2;have C:=K (B++A) ⟨λl t=>(GM.mp t).elim (s.all l) (w.all l),Ym.mpr ⟨s.pw,w.pw,λx T y hy Q9=>?_⟩,by rw[yc,e,s.pr,w.pr]⟩ ?_
 .rw[PQ]at C;exact⟨aj (by rw[Ap,Ap];lia),C⟩
 .subst Q9;obtain⟨u,hu⟩:=kX T (p:=p);obtain⟨v,hv⟩:=kX hy (p:=p);have:=E.P8 (fL p x) ⟨u*v,by rw[e,s.pr,w.pr,hu,hv];grind⟩;have:=(s.all x T).2.1.two;lia
 .rw[Fk];have:B.length<=a.length -1/\A.length<=b.length -1:=by
   have D:∀(n:List (List Int)),(∀l∈n,Mn p l/\cG (fL p l)/\l.length=d+1)->dg (qX p n)=n.length*d+1:=λn=>by
    induction n with
    |nil=>intro _;show dg (1:F p)=0*d+1;rw[ig o];lia
    |cons l n ih=>intro h;have i:=ih λl t=>h l (D2 _ t);obtain⟨ml,il,ll⟩:=h l DL;have:=bD o il.ne (λz=>by rw[z,cD]at i;lia:qX p n≠0);show dg (fL p l*qX p n)=(n.length+1)*d+1;rw[aT ml.r,ll,i]at this;rw[Ri];lia
   have ca:=D B s.all;have cb:=D A w.all;rw[<-s.pr,aT j.m.r]at ca;rw[<-w.pr,aT I.r]at cb;have m1:B.length*1<=B.length*d:=Y8 _ d1;have m2:A.length*1<=A.length*d:=Y8 _ d1;lia
  lia
noncomputable def CT:List CS:=[.set 3 (.bin .Add (.var 3) (.int 1)),.set 1 (.var 4),.Dv [4,5] (.call 0 [(.var 1),(.var 0),(.var 2)])]
noncomputable def gw:List CS:=[.set 3 (.int 0),.Dv [4,5] (.call 0 [(.var 1),(.var 0),(.var 2)]),.uq (.cmp .Eq (.var 5) (.lst [])) CT,.ret (.tup [(.var 3),(.var 1)])]
structure Qe(p:Nat)(part left:List Int)(n:Nat)(out:List Int):Prop where
 m:Mn p out
 e:fL p left=fL p part^n*fL p out
 no:¬Dd (fL p part) (fL p out)
noncomputable def dO:aX:=λd Q _=>∃(a b:List Int)(p:Nat),d=[wI a,wI b,.int p]/\(af p/\p<2^30/\Mn p a/\2<=a.length/\a.length<=50/\Mn p b/\b.length<=50)/\∀(n:Nat) c,Qe p a b n c->Q (.tup [.int n,wI c])
theorem t9{G:Nat->W}{m:Md}(s:List W)(Q:W->Prop)(R:Addr->Prop)(h:dO s Q R):wSs (bI [aS]) G gw (bg m Q R) (ay 6 s):=by
 obtain⟨a,b,p,rfl,⟨o,O,mp,P,M,ml,B⟩,H⟩:=h;show wSs _ _ gw _ [some (wI a),some (wI b),some (.int p),none,none,none];unfold gw;have A:∀{R:Addr->Prop}{x:List Int}{K:W->Prop},Mn p x->x.length<=50->(∀q r,Ie p x a q r->K (.tup [wI q,wI r]))->aS [wI x,wI a,.int p] K R:=λ{R x K} g v I=>⟨x,a,p,rfl,⟨o,by lia,by lia,by lia,by lia,g.r,mp.r⟩,I⟩;refine aq (λc=>c=[some (wI a),some (wI b),some (.int p),some (.int ((0:Nat):Int)),none,none]) (λN i=>?_) ?_
 .fin2;exact i _ rfl
 rintro _ rfl;refine aq (λc=>∃q r,Ie p b a q r/\c=[some (wI a),some (wI b),some (.int p),some (.int ((0:Nat):Int)),some (wI q),some (wI r)]) (λN i=>?_) ?_
 .fin2;exact A ml B λq r dv=>⟨rfl,i _ ⟨q,r,dv,rfl⟩⟩
 rintro _ ⟨q,r,dv,rfl⟩;refine aq (λc=>∃(n:Nat)(d:List Int)(u t:Option W),Qe p a b n d/\c=[some (wI a),some (wI d),some (.int p),some (.int (n:Int)),u,t]) (λN i=>?_) ?_
 .refine jW (α:=Nat×List Int×List Int×List Int) (λz=>[some (wI a),some (wI z.2.1),some (.int p),some (.int (z.1:Nat)),some (wI z.2.2.1),some (wI z.2.2.2)]) (λz=>Mn p z.2.1/\z.2.1.length<=50/\Ie p z.2.1 a z.2.2.1 z.2.2.2/\fL p b=fL p a^z.1*fL p z.2.1) (λz=>z.2.1.length) (0,b,q,r) rfl ⟨ml,B,dv,by show _=fL p a^0*_;rw[Fn];grind⟩ ?_;rintro⟨n,x,q,r⟩ ⟨g,v,dv,e⟩;dsimp only at g v dv e⊢;have J:=pH dv.eq;fin2;refine⟨aj (by simp),vn (y:=[]) λk w=>?_⟩;fin2;refine cA (λf=>?_) (λf=>?_)
  .have j:=w.mp f;have dd:Dd (fL p a) (fL p x):=⟨fL p q,by rw[J,j,b7];grind⟩;obtain⟨_,l,eq⟩:=vI o dv g mp dd;have lq:=dv.lq;have:=l.n0;unfold CT;fin2;rw[show((n:Nat):Int)+1=((n+1:Nat):Int) by lia];refine A l (by lia) λE D L=>⟨rfl,(n+1,q,E,D),rfl,⟨l,by show q.length<=50;lia,L,?_⟩,by show q.length<x.length;lia⟩;show fL p b=fL p a^(n+1)*fL p q;rw[e,eq,aH];grind
  .have j:r≠[]:=λz=>by rw[w.mpr z]at f;cases f
   refine i _ ⟨n,x,_,_,⟨g,e,λdd=>j ?_⟩,rfl⟩;exact(vI o dv g mp dd).1
 rintro _ ⟨n,d,u,t,C,rfl⟩;fin2;exact⟨aj (by simp),H n d C⟩
noncomputable def pW(x:List Int×Nat):W:=.tup [wI x.1,.int (x.2:Nat)]
noncomputable def fy(p:Nat):List (List Int×Nat)->F p
 |[]=>1
 |x::L=>fL p x.1^x.2*fy p L
theorem kY{p:Nat}(x:List Int×Nat):∀L:List (List Int×Nat),fy p (L++[x])=fy p L*fL p x.1^x.2
 |[]=>by show fL p x.1^x.2*1=1*_;grind
 |y::L=>by show fL p y.1^y.2*fy p (L++[x])=fL p y.1^y.2*fy p L*_;rw[kY x L];grind
structure PO(p:Nat)(row:List Int)(L:List (List Int×Nat)):Prop where
 all:∀x∈L,Mn p x.1/\cG (fL p x.1)/\1<=x.2
 pw:L.Pairwise λx y=>x.1≠y.1
 pr:fL p row=fy p L
 len:L.length<=row.length
noncomputable def zO(x y:List Int×Nat):Prop:=x.1.length<y.1.length\/(x.1.length=y.1.length/\(x.1.reverse<y.1.reverse\/(x.1=y.1/\x.2<=y.2)))
noncomputable def gE:aX:=λb Q _=>∃L:List (List Int×Nat),b=[.lst (L.map pW)]/\L.length<=60/\∀a:List (List Int×Nat),a.Perm L->a.Pairwise zO->Q (.lst (a.map pW))
noncomputable def fU:aX:=λb Q _=>∃(a:List Int)(p:Nat),b=[wI a,.int p]/\(af p/\p<2^30/\Mn p a/\a.length<=10)/\∀L,PO p a L->L.Pairwise zO->Q (.lst (L.map pW))
theorem Mh{p:Nat}(c:af p){P N f:F p}(d:cG P)(e:f=P*N)(j:f≠0)(h:dg N=1):cG f:=by
 have m:N≠0:=λz=>j (by rw[e,z];grind);have n:=bD c d.ne m;rw[<-e,h]at n;have:=d.two;obtain⟨y,i⟩:=dj c h;refine⟨by lia,λa b l=>?_⟩;have:P=a*(b*y):=by
  have:P=P*N*y:=by
   have:P=P*(y*N):=by rw[i];grind
   grind
  rw[this,<-e,l];grind
 rcases d.no a (b*y) this with z|z
 .exact .inl z
 .right;have k:b≠0:=λz=>j (by rw[l,z];grind);have g:y≠0:=λz=>kr c (by rw[<-i,z];grind);have o:=bD c k g;have:dg b≠0:=λz=>k (bC.mp z);have:dg y≠0:=λz=>g (bC.mp z);lia
theorem CU{p:Nat}(c:af p){P Q:F p}(e:cG P)(d:cG Q)(h:Dd P Q):Dd Q P:=by
 obtain⟨w,a⟩:=h;rcases d.no P w a with z|z
 .have:=e.two;lia
 .obtain⟨y,b⟩:=dj c z;exact⟨y,by
   have:P=P*(y*w):=by rw[b];grind
   rw[a];grind⟩
theorem yd{p:Nat}(c:af p){P:F p}(e:cG P):∀{d:List (List Int)},Dd P (qX p d)->∃l∈d,Dd P (fL p l)
 |[],h=>by have:=h.len c (kr c);rw[show qX p []=(1:F p)from rfl,ig c]at this;have:=e.two;lia
 |l::d,h=>by
  rcases e.euclid c (a:=fL p l) (b:=qX p d) h with z|z
  .exact⟨l,DL,z⟩
  .obtain⟨f,i,g⟩:=yd c e z;exact⟨f,D2 _ i,g⟩
theorem kZ{p:Nat}(a:af p){P f:F p}(b:cG P):∀n:Nat,Dd P (f^n)->Dd P f
 |0,h=>by rw[Fn]at h;have:=h.len a (kr a);rw[ig a]at this;have:=b.two;lia
 |n+1,h=>by
  rw[aH]at h;rcases b.euclid a h with z|z
  .exact kZ a b n z
  .exact z
structure Pk(p:Nat)(row left:List Int)(L:List (List Int×Nat)):Prop where
 m:Mn p left
 ll:left.length+L.length<=row.length
 all:∀x∈L,Mn p x.1/\cG (fL p x.1)/\1<=x.2
 pw:L.Pairwise λx y=>x.1≠y.1
 pr:fL p row=fy p L*fL p left
 no:∀x∈L,¬Dd (fL p x.1) (fL p left)
noncomputable def Hi(p D:Nat)(a:List Int):Prop:=∀P:F p,Alg.cG P->Dd P (fL p a)->∀m,1<=m->m<D->¬Dd P ((X:F p)^(p^m) -X)
theorem _root_.Alg.Mn.Mi{p:Nat}{l:List Int}(h:Mn p l):fL p l≠0:=λz=>by have:=h.n0;rw[(cE h.r).mp z]at this;cases this
theorem Pk.take{p n:Nat}{g b a c:List Int}{L:List (List Int×Nat)}(o:af p)(h:Pk p g b L)(mp:Mn p a)(i:cG (fL p a))(q:Dd (fL p a) (fL p b))(t:Qe p a b n c):Pk p g c (L++[(a,n)])/\1<=n/\Dd (fL p c) (fL p b):=by
 have l:1<=n:=by apply FV;intro z;have e:=t.e;rw[show n=0 by lia,Fn]at e;exact t.no (by rw[show fL p c=fL p b by rw[e];grind];exact q)
 have s:Dd (fL p c) (fL p b):=⟨fL p a^n,by rw[t.e];grind⟩;have len:c.length<b.length:=by obtain⟨k,A⟩:∃k,n=k+1:=⟨n -1,by lia⟩;have e:=t.e;rw[A,aH]at e;have j:fL p a^k*fL p c≠0:=λz=>h.m.Mi (by rw[e,show fL p a^k*fL p a*fL p c=fL p a^k*fL p c*fL p a by grind,z];grind);have v:=bD o i.ne j;rw[show fL p a*(fL p a^k*fL p c)=fL p b by rw[e];grind,aT h.m.r]at v;have u:=(show Dd (fL p c) (fL p a^k*fL p c)from⟨fL p a^k,by grind⟩).len o j;rw[aT t.m.r]at u;have:=i.two;lia
 refine⟨⟨t.m,?_,λx f=>?_,?_,?_,λx f d=>?_⟩,l,s⟩
 .have:=h.ll;rw[Fk,G7];lia
 .rcases GM.mp f with f|f
  .exact h.all x f
  .rw[Da.mp f];exact⟨mp,i,l⟩
 .refine Ym.mpr ⟨h.pw,YY _ _,λx f y w e=>?_⟩;rw[Da.mp w]at e;exact h.no x f (by rw[e];exact q)
 .rw[kY,h.pr,t.e];grind
 .rcases GM.mp f with f|f
  .exact h.no x f (d.trans s)
  .rw[Da.mp f]at d;exact t.no d
theorem qY{p:Nat}{a l:List Int}(d:af p)(ml:Mn p l)(e:Alg.cG (fL p l))(mp:Mn p a)(n:Alg.cG (fL p a))(g:Dd (fL p l) (fL p a)):a=l:=by
 have o:=CU d e n g;obtain⟨w,c⟩:=g;have i:w≠0:=λz=>mp.Mi (by rw[c,z];grind);have j:=bD d e.ne i;have k:=o.len d ml.Mi;have m:=(show Dd (fL p l) (fL p a)from⟨w,c⟩).len d mp.Mi;rw[<-c]at j;obtain⟨v,s,ev⟩:=Iq w;have rv:∃x:Int,w=((x:Int):F p):=by
  have q:v.length=1:=by lia
  obtain⟨x,rfl⟩:=Xt.mp q;exact⟨x,by rw[ev,fT,b7];grind⟩
 obtain⟨x,f⟩:=rv;rw[aT ml.r,aT mp.r]at m k;have b:=Qt.eq.mp (show Qt.mk (Ip p) (di a)=Qt.mk (Ip p) (Alg.cst x*di l)from by rw[show Qt.mk (Ip p) (Alg.cst x*di l)=((x:Int):F p)*fL p l from rfl,<-f];exact c.trans (by grind)) (a.length -1);have b:(p:Int)∣a.getD (a.length -1) 0+ -(Alg.cst x*di l).1 (a.length -1):=b;rw[Po.qL]at b;have b:(p:Int)∣a.getD (a.length -1) 0+ -(x*l.getD (a.length -1) 0):=b;rw[mp.one,show a.length -1=l.length -1 by lia,ml.one,T9]at b;have h:((x:Int):F p)=1:=by have:=(bZ (p:=p)).mpr b;rw[Pd,XQ,YC]at this;grind
 exact qS mp.r ml.r (by rw[c,f,h];grind)
theorem Qh{p n:Nat}{b a c l:List Int}(f:af p)(ml:Mn p l)(d:cG (fL p l))(i:Mn p a)(j:cG (fL p a))(h:a≠l)(g:Dd (fL p l) (fL p b))(t:Qe p a b n c):Dd (fL p l) (fL p c):=by
 rw[t.e]at g;rcases d.euclid f g with z|z
 .exact absurd (qY f ml d i j (kZ f d n z)) h
 .exact z
noncomputable def Ir:List CS:=[.Dv [8,2] (.call 4 [(.var 7),(.var 2),(.var 1)]),.app 3 (.tup [(.var 7),(.var 8)])]
noncomputable def CV:List CS:=[.set 5 (.call 0 [(.var 5),(.var 1),(.var 2),(.var 1)]),.set 6 (.ix (.call 1 [(.call 2 [(.var 5),(.lst [(.int 0),(.int 1)]),(.var 1)]),(.var 2),(.var 1)]) (.int 0)),.fr [7] true (.call 3 [(.var 6),(.var 4),(.var 1)]) Ir,.set 4 (.bin .Add (.var 4) (.int 1))]
noncomputable def gF:List CS:=[.set 3 (.lst []),.set 4 (.int 1),.set 5 (.lst [(.int 0),(.int 1)]),.uq (.cmp .Lt (.bin .Mult (.int 2) (.var 4)) (.blt .len [(.var 2)])) CV,.iff (.cmp .Gt (.blt .len [(.var 2)]) (.int 1)) [.app 3 (.tup [(.var 2),(.int 1)])] [],.ret (.call 5 [(.var 3)])]
abbrev e9(o0:Option W)(p:Nat)(l:Ev):Ev:=o0::some (.int (p:Int))::l
structure Wd(p:Nat)(row left hi:List Int)(L:List (List Int×Nat))(D:Nat):Prop where
 k:Pk p row left L
 h:Hi p D left
 d1:1<=D
 rh:Rm p hi
 lh:hi.length<=50
 eh:Qt.mk (Pr (fL p left)) (fL p hi)=Qt.mk (Pr (fL p left)) ((X:F p)^(p^(D -1)))
theorem Qi{G:Nat->W}{D:Dn}{U:Option W}{p d:Nat}{H f hi:List Int}{L:List (List Int×Nat)}{o6 o7 o8:Option W}(I:af p)(qW:p<2^30)(lr:H.length<=10)(w:Wd p H f hi L d)(big:2*d<f.length)
 (hN:∀c K x q6 R Q,Wd p H c K x (d+1)->D.nx (e9 U p [some (wI c),some (.lst (x.map pW)),some (.int ((d+1:Nat):Int)),some (wI K),q6,R,Q])):
 wSs (bI [cM,bE,b9,bT 10,dO,gE]) G CV D (e9 U p [some (wI f),some (.lst (L.map pW)),some (.int (d:Int)),some (wI hi),o6,o7,o8]):=by
 have dQ:p<2^40:=Yd qW (by decide);have p2:=I.1;have k:=w.k;have d1:=w.d1;have ll:=k.ll;have l0:=k.m.n0;unfold CV;refine aq (λo=>∃y,(Rm p y/\y.length<f.length/\Qt.mk (Pr (fL p f)) (fL p y)=Qt.mk (Pr (fL p f)) ((X:F p)^(p^d)))/\o=e9 U p [some (wI f),some (.lst (L.map pW)),some (.int (d:Int)),some (wI y),o6,o7,o8]) (λN fu=>?_) ?_
 .fin2;refine⟨hi,f,p,p,rfl,⟨I,dQ,w.rh,k.m.r,by lia,by lia,w.lh⟩,λr Z C h3=>fu _ ⟨r,⟨Z,C,?_⟩,rfl⟩⟩;rw[mk_eq.mpr h3,d9,w.eh,<-d9,<-pow_mul,<-N6,show(d -1).succ=d by lia]
 rintro _ ⟨y,⟨rh,lh,eh⟩,rfl⟩;have rx:Rm p [0,1]:=jk I 1;have ex:fL p [0,1]=X:=rfl;refine aq (λo=>∃a,(EP p d a/\a.length<=f.length/\Dd (fL p a) (fL p f)/\∀P:F p,Alg.cG P->Dd P (fL p f)->Dd P ((X:F p)^(p^d) -X)->Dd P (fL p a))/\o=e9 U p [some (wI f),some (.lst (L.map pW)),some (.int (d:Int)),some (wI y),some (wI a),o7,o8]) (λN fu=>?_) ?_
 .fin2;refine⟨aj (by simp),y,[0,1],p,rfl,⟨by lia,dQ,by lia,by simp,rx⟩,λs rs es B=>?_⟩;have WV:s.length<=50:=by have e:([0,1]:List Int).length=2:=rfl;rw[e]at B;lia
  refine⟨s,f,p,rfl,⟨I,dQ,rs,k.m.r,WV,by lia,λz=>by rw[z.2]at l0;cases l0⟩,λa u v S=>⟨_,rfl,fu _ ⟨a,⟨?_,?_,S.b,?_⟩,rfl⟩⟩⟩
  .have dx:Dd (fL p a) ((X:F p)^(p^d) -X):=by
    obtain⟨q1,Z⟩:=S.a;obtain⟨q2,C⟩:=S.b;obtain⟨q3,h3⟩:=mk_eq.mp eh;exact⟨q1 -q2*q3,by
     have:(X:F p)^(p^d) -X=(fL p y -X) -(fL p y -X^(p^d)):=by grind
     rw[this,h3,<-ex,<-es,Z,C];grind⟩
   exact⟨I,S.m,d1,dx,λP M T=>⟨d1,T.trans dx,λm m1 md=>w.h P M (T.trans S.b) m m1 md⟩⟩
  .have:=S.b.len I k.m.Mi;rw[aT S.m.r,aT k.m.r]at this;exact this
  .intro P M O dx;obtain⟨s1,t1,ei⟩:=S.i;obtain⟨q1,Z⟩:=O;obtain⟨q2,C⟩:=dx;obtain⟨q3,h3⟩:=mk_eq.mp eh;exact⟨s1*(q2+q1*q3)+t1*q1,by
    have:fL p s=(X^(p^d) -X)+(fL p y -X^(p^d)):=by rw[es,ex];grind
    rw[ei,this,h3,C,Z];grind⟩
 rintro _ ⟨a,⟨E,la,da,conv⟩,rfl⟩;refine aq (λo=>∃(c:List Int)(x:List (List Int×Nat))(R Q:Option W),(Pk p H c x/\Dd (fL p c) (fL p f)/\∀P:F p,Alg.cG P->Dd P (fL p c)->¬Dd P (fL p a))/\o=e9 U p [some (wI c),some (.lst (x.map pW)),some (.int (d:Int)),some (wI y),some (wI a),R,Q]) (λN fu=>?_) ?_
 .fin2;refine⟨a,d,p,rfl,⟨E,qW,by lia,by lia,by lia⟩,λB eo lls=>?_⟩;fin2;refine bq (λi ε=>∃(c:List Int)(x:List (List Int×Nat))(R Q:Option W),(Pk p H c x/\Dd (fL p c) (fL p f)/\(∀j,i<=j->j<B.length->Dd (fL p (B.getD j [])) (fL p c))/\∀j,j<i->j<B.length->¬Dd (fL p (B.getD j [])) (fL p c))/\ε=e9 U p [some (wI c),some (.lst (x.map pW)),some (.int (d:Int)),some (wI y),some (wI a),R,Q]) ⟨f,L,o7,o8,⟨k,⟨1,by grind⟩,λj _ J=>?_,λj J=>by cases J⟩,rfl⟩ ?_ ?_
  .have:B.getD j []∈B:=by rw[AC,B1 J];exact Os J
   have:=kX this (p:=p);rw[<-eo.pr]at this;exact this.trans da
  .rintro i wv _ N1 hw ⟨c,x,R,Q,⟨Y,O,up,dn⟩,rfl⟩ oi;rw[Dx]at hw;obtain⟨g,q,rfl⟩:=Iy.mp hw;obtain⟨K,Qj⟩:=FS.mp q;have gi:B.getD i []=g:=by rw[AC,q];rfl
   obtain⟨mp,ip,lp⟩:=eo.all g (OF q);have dp:=up i (BM _) K;rw[gi]at dp;have WW:=Y.ll;unfold Ir;refine aq (λo=>∃(n:Nat)(A:List Int),Qe p g c n A/\o=e9 U p [some (wI A),some (.lst (x.map pW)),some (.int (d:Int)),some (wI y),some (wI a),some (wI g),some (.int (n:Int))]) (λN2 Qk=>?_) ?_
   .fin2;exact⟨g,c,p,rfl,⟨I,qW,mp,by lia,by lia,Y.m,by lia⟩,λn A t=>⟨rfl,Qk _ ⟨n,A,t,rfl⟩⟩⟩
   rintro _ ⟨n,A,t,rfl⟩;obtain⟨k2,n1,Ql⟩:=Y.take I mp ip dp t;have l2:=k2.ll;rw[Fk,G7]at l2;fin2;refine⟨aj (by simp),jQ (by rw[Ap];lia),?_⟩;have key:=oi _ ⟨A,x++[(g,n)],some (wI g),some (.int (n:Int)),⟨k2,Ql.trans O,λj Z C=>?_,λj Z C=>?_⟩,rfl⟩
   .rw[PQ]at key;exact key
   .have J:B.getD j []=B[j]:=by rw[AC,B1 C];rfl
    rw[J];obtain⟨mj,ij,_⟩:=eo.all _ (Os C);have old:=up j (by lia) C;rw[J]at old;refine Qh I mj ij mp ip ?_ old t;rw[<-Qj];exact X8.mp eo.pw i j K C (by lia)
   .by_cases e:j=i
    .rw[e,gi];exact t.no
    .exact λz=>dn j (by lia) C (z.trans Ql)
  .rintro _ ⟨c,x,R,Q,⟨Y,O,up,dn⟩,rfl⟩;rw[Ap]at dn;refine fu _ ⟨c,x,_,_,⟨Y,O,λP M T da=>?_⟩,rfl⟩;rw[eo.pr]at da;obtain⟨l,hl,WX⟩:=yd I M da;obtain⟨j,J,rfl⟩:=SU hl;have gj:B.getD j []=B[j]:=by rw[AC,B1 J];rfl
   have no:=dn j J J;rw[gj]at no;exact no ((CU I M (eo.all _ hl).2.1 WX).trans T)
 rintro _ ⟨c,x,R,Q,⟨Y,O,no⟩,rfl⟩;fin2;rw[show((d:Nat):Int)+1=((d+1:Nat):Int) by lia];refine hN c y x _ _ _ ⟨Y,λP M T m m1 md=>?_,by lia,rh,by lia,mk_eq.mpr ?_⟩
 .by_cases e:m=d
  .rw[e];exact λdx=>no P M T (conv P M (T.trans O) dx)
  .exact w.h P M (T.trans O) m m1 (by lia)
 .rw[Kx];exact O.trans (mk_eq.mp eh)
theorem zP{G:Nat->W}{m:Md}{v:Option W}{g:List Int}{p:Nat}{Q:W->Prop}{R:Addr->Prop}(t:af p)(qW:p<2^30)(mr:Mn p g)(lr:g.length<=10)(hq:∀L,PO p g L->L.Pairwise zO->Q (.lst (L.map pW))):
 wSs (bI [cM,bE,b9,bT 10,dO,gE]) G gF (bg m Q R) (e9 v p [some (wI g),none,none,none,none,none,none]):=by
 have n0:=mr.n0;unfold gF;refine aq (λi=>i=e9 v p [some (wI g),some (.lst []),none,none,none,none,none]) (λN q=>?_) ?_
 .fin2;exact⟨aj (by simp),q _ rfl⟩
 rintro _ rfl;refine aq (λi=>i=e9 v p [some (wI g),some (.lst []),some (.int ((1:Nat):Int)),none,none,none,none]) (λN q=>?_) ?_
 .fin2;exact q _ rfl
 rintro _ rfl;refine aq (λi=>i=e9 v p [some (wI g),some (.lst []),some (.int ((1:Nat):Int)),some (wI [0,1]),none,none,none]) (λN q=>?_) ?_
 .fin2;exact⟨aj (by simp),q _ rfl⟩
 rintro _ rfl;have start:Wd p g g [0,1] [] 1:=⟨⟨mr,BM _,λx o=>(by cases o),.nil,by show _=(1:F p)*_;grind,λx o=>(by cases o)⟩,λP _ _ m a b=>by lia,BM _,jk t 1,by decide,by show Qt.mk _ (X:F p)=Qt.mk _ ((X:F p)^(p^0));rw[OA,show(X:F p)^1=X by rw[aH,Fn];grind]⟩;refine aq (λi=>∃(f O:List Int)(L:List (List Int×Nat))(d:Nat)(Y U I H E:Option W),(Wd p g f O L d/\f.length<=2*d)/\i=e9 v p [some (wI f),some (.lst (L.map pW)),Y,U,I,H,E]) (λN q=>?_) ?_
 .refine jW (α:=(List Int×List Int×List (List Int×Nat)×Nat)×Option W×Option W×Option W) (λs=>e9 v p [some (wI s.1.1),some (.lst (s.1.2.2.1.map pW)),some (.int (s.1.2.2.2:Nat)),some (wI s.1.2.1),s.2.1,s.2.2.1,s.2.2.2]) (λs=>Wd p g s.1.1 s.1.2.1 s.1.2.2.1 s.1.2.2.2/\s.1.2.2.2<=51) (λs=>60 -s.1.2.2.2) ((g,[0,1],[],1),none,none,none) rfl ⟨start,by show 1<=51;decide⟩ ?_;rintro⟨⟨f,O,L,d⟩,I,H,E⟩ ⟨w,WY⟩;dsimp only at w WY⊢;have ll:=w.k.ll;unfold e9 wI;fin2;rw[Ap];refine⟨cC (n:=2) (m:=10) (by decide) (by show d<1024;lia) (by decide),?_⟩;refine cA (λK=>?_) (λK=>?_)
  .have big:=Bi K;exact Qi t qW lr w (by lia) λA hi' L' a b c C=>⟨((A,hi',L',d+1),a,b,c),rfl,⟨C,by show d+1<=51;have:=C.k.ll;lia⟩,by show 60 -(d+1)<60 -d;lia⟩
  .have sm:¬(2*(d:Int)<(f.length:Int)):=λz=>by rw[Do z]at K;cases K
   exact q _ ⟨f,O,L,d,_,_,_,_,_,⟨w,by lia⟩,rfl⟩
 rintro _ ⟨f,O,L,d,Y,U,I,H,E,⟨w,S⟩,rfl⟩;have k:=w.k;have ll:=k.ll;have l0:=k.m.n0;have d1:=w.d1;refine aq (λi=>∃(L:List (List Int×Nat))(o2:Option W),PO p g L/\i=e9 v p [o2,some (.lst (L.map pW)),Y,U,I,H,E]) (λN q=>?_) ?_
 .by_cases l1:1<f.length
  .have Q8:Alg.cG (fL p f):=by
    have ld:=aT k.m.r;obtain⟨P,B,M,e⟩:=gp t _ (fL p f) (BM _) (by rw[ld];lia);have D:∀P:F p,Alg.cG P->Dd P (fL p f)->d+1<=dg P:=λP B dP=>by obtain⟨e,T⟩:=P9 t B;have:=T.dg t B;have:¬e<d:=λz=>w.h P B dP e T.d1 z T.yes;lia
    have Z:M≠0:=λz=>k.m.Mi (by rw[e,z];grind);have lm:=bD t B.ne Z;rw[<-e,ld]at lm;have:=D P B ⟨M,e⟩;have m1:dg M≠0:=λz=>Z (bC.mp z);refine Mh t B e k.m.Mi (FV λz=>?_);obtain⟨Q',WZ,C,e'⟩:=gp t _ M (BM _) (by lia);have:=D Q' WZ ⟨P*C,by rw[e,e'];grind⟩;have:=(show Dd Q' M from⟨C,e'⟩).len t Z;lia
   have u:PO p g (L++[(f,1)]):=by
    refine⟨λx o=>?_,?_,?_,by rw[Fk,G7];lia⟩
    .rcases GM.mp o with o|o
     .exact k.all x o
     .rw[Da.mp o];exact⟨k.m,Q8,BM _⟩
    .refine Ym.mpr ⟨k.pw,YY _ _,λx o y hy e=>?_⟩;rw[Da.mp hy]at e;exact k.no x o ⟨1,by rw[e];grind⟩
    .rw[kY,k.pr];show _=_*fL p f^1;rw[aH,Fn];grind
   have j:=q _ ⟨L++[(f,1)],some (wI f),u,rfl⟩;rw[PQ]at j;unfold e9 wI at j⊢;fin2;rw[Ap,Bz (Do (by lia))];exact⟨aj (by simp),jQ (by rw[Ap];lia),j⟩
  .have e:f=[1]:=by obtain⟨x,rfl⟩:=Xt.mp (show f.length=1 by lia);have:=k.m.one;have this:x=1:=this;rw[this]
   have j:=q _ ⟨L,some (wI f),⟨k.all,k.pw,by rw[k.pr,e,gq];grind,by lia⟩,rfl⟩;unfold e9 wI at j⊢;fin2;rw[Ap,Bn (by rw[Fh];lia)];exact j
 rintro _ ⟨L,o2,u,rfl⟩;fin2;refine⟨L,rfl,by have:=u.len;lia,λL' J so=>hq L' ⟨λx o=>u.all x (J.mem_iff.mp o),?_,?_,by rw[J.length_eq];exact u.len⟩ so⟩
 .exact(J.pairwise_iff λ{a b} h e=>h e.symm).mpr u.pw
 .rw[u.pr];clear so u
  induction J with
  |nil=>rfl
  |cons x _ ih=>show _*_=_*_;rw[ih]
  |swap x y l=>show fL p x.1^x.2*(fL p y.1^y.2*fy p l)=fL p y.1^y.2*(fL p x.1^x.2*fy p l);grind
  |trans _ _ a b=>exact b.trans a
end VL
namespace VL
open PySem PySem.Spec
open PyProof.Rows hiding St
open L2
theorem qZ:∀(a b:List Int),HT.lexLt a b=true↔a<b
 |[],[]=>by simp[HT.lexLt]
 |[],_::_=>by simp[HT.lexLt]
 |_::_,[]=>by simp[HT.lexLt]
 |x::d,y::c=>by
  rw[HT.gX,X2];by_cases e:x=y
  .rw[Bz e,qZ d c];constructor
   .exact λh=>.inr ⟨e,h⟩
   .rintro(h|⟨_,h⟩)
    .omega
    .exact h
  .rw[Bn e,Fh];constructor
   .exact .inl
   .rintro(h|⟨h,_⟩)
    .exact h
    .exact(e h).elim
theorem jY:∀a:List Int,¬a<a
 |[],h=>by simp at h
 |x::b,h=>by
  rw[X2]at h;rcases h with h|⟨_,h⟩
  .omega
  .exact jY b h
theorem CW:∀a b:List Int,a<b\/a=b\/b<a
 |[],[]=>.inr (.inl rfl)
 |[],_::_=>.inl (by simp)
 |_::_,[]=>.inr (.inr (by simp))
 |x::d,y::c=>by
  rw[X2,X2];rcases CW d c with h|h|h
  .by_cases e:x=y
   .exact .inl (.inr ⟨e,h⟩)
   .by_cases l:x<y
    .exact .inl (.inl l)
    .exact .inr (.inr (.inl (by omega)))
  .by_cases e:x=y
   .exact .inr (.inl (by rw[e,h]))
   .by_cases l:x<y
    .exact .inl (.inl l)
    .exact .inr (.inr (.inl (by omega)))
  .by_cases e:x=y
   .exact .inr (.inr (.inr ⟨e.symm,h⟩))
   .by_cases l:x<y
    .exact .inl (.inl l)
    .exact .inr (.inr (.inl (by omega)))
theorem Iu:∀{a b c:List Int},a<b->b<c->a<c
 |[],_,[],_,h=>by simp at h
 |[],_,_::_,_,_=>by simp
 |_::_,[],_,h,_=>by simp at h
 |_::_,_::_,[],_,h=>by simp at h
 |x::i,y::g,z::f,h,k=>by
  rw[X2]at h k⊢;rcases h with h|⟨e,h⟩
  .rcases k with k|⟨d,k⟩
   .exact .inl (by omega)
   .exact .inl (by omega)
  .rcases k with k|⟨d,k⟩
   .exact .inl (by omega)
   .exact .inr ⟨by omega,Iu h k⟩
abbrev K3:=Int×List Int×Int
theorem nH(x y:K3):fF x y=true↔x.1<y.1\/(x.1=y.1/\(x.2.1<y.2.1\/(x.2.1=y.2.1/\x.2.2<y.2.2))):=by
 unfold fF;by_cases e:x.1=y.1
 .rw[Bz e];by_cases f:x.2.1=y.2.1
  .rw[Bz f,Fh];constructor
   .exact λh=>.inr ⟨e,.inr ⟨f,h⟩⟩
   .rintro(h|⟨_,h|⟨_,h⟩⟩)
    .omega
    .rw[f]at h;exact(jY _ h).elim
    .exact h
  .rw[Bn f,qZ];constructor
   .exact λh=>.inr ⟨e,.inl h⟩
   .rintro(h|⟨_,h|⟨h,_⟩⟩)
    .omega
    .exact h
    .exact(f h).elim
 .rw[Bn e,Fh];constructor
  .exact .inl
  .rintro(h|⟨h,_⟩)
   .exact h
   .exact(e h).elim
theorem Mj(x:K3):fF x x≠true:=λh=>by
 rcases(nH _ _).mp h with h|⟨_,h|⟨_,h⟩⟩
 .omega
 .exact jY _ h
 .omega
theorem Iv{x y z:K3}(h:fF x y=true)(k:fF y z=true):fF x z=true:=by
 rw[nH]at h k⊢;rcases h with h|⟨e,h⟩
 .rcases k with k|⟨b,k⟩
  .exact .inl (by omega)
  .exact .inl (by omega)
 .rcases k with k|⟨b,k⟩
  .exact .inl (by omega)
  .refine .inr ⟨by omega,?_⟩;rcases h with h|⟨f,h⟩
   .rcases k with k|⟨a,k⟩
    .exact .inl (Iu h k)
    .rw[<-a];exact .inl h
   .rcases k with k|⟨a,k⟩
    .rw[f];exact .inl k
    .exact .inr ⟨f.trans a,by omega⟩
theorem CY(x y:K3):fF x y=true\/x=y\/fF y x=true:=by
 rw[nH,nH];by_cases e:x.1=y.1
 .rcases CW x.2.1 y.2.1 with h|h|h
  .exact .inl (.inr ⟨e,.inl h⟩)
  .by_cases f:x.2.2=y.2.2
   .obtain⟨a,b,c⟩:=x;obtain⟨i,g,d⟩:=y;simp only at e h f;exact .inr (.inl (by rw[e,h,f]))
   .by_cases l:x.2.2<y.2.2
    .exact .inl (.inr ⟨e,.inr ⟨h,l⟩⟩)
    .exact .inr (.inr (.inr ⟨e.symm,.inr ⟨h.symm,by omega⟩⟩))
  .exact .inr (.inr (.inr ⟨e.symm,.inl h⟩))
 .by_cases l:x.1<y.1
  .exact .inl (.inl l)
  .exact .inr (.inr (.inl (by omega)))
noncomputable def MZ(a:List K3)(i:Nat):Nat:=(a.filter λy=>fF y (a.getD i (0,[],0))).length
theorem Iw(a:List K3){i j:Nat}(d:i<a.length)(f:j<a.length):decide (MZ a i<MZ a j)=fF (a.getD i (0,[],0)) (a.getD j (0,[],0)):=by
 have b:∀p q:K3->Bool,(∀y,p y=true->q y=true)->(a.filter p)=(a.filter q).filter p:=λp q h=>by
  rw[List.filter_filter];congr 1;funext y;have:=h y;cases e:p y
  .simp
  .simp[this e]
 cases c:fF (a.getD i (0,[],0)) (a.getD j (0,[],0))with
 |true=>refine Do ?_;unfold MZ;rw[b (λy=>fF y (a.getD i (0,[],0))) (λy=>fF y (a.getD j (0,[],0))) λy h=>Iv h c];refine List.length_filter_lt_length_iff_exists.mpr ⟨a.getD i (0,[],0),Qb.mpr ⟨?_,c⟩,Mj _⟩;rw[AC,B1 d];exact Os d
 |false=>
  refine KB (Nat.not_lt.mpr ?_);unfold MZ;rw[b (λy=>fF y (a.getD j (0,[],0))) (λy=>fF y (a.getD i (0,[],0))) λy h=>?_]
  .exact List.length_filter_le _ _
  .rcases CY (a.getD i (0,[],0)) (a.getD j (0,[],0))with z|z|z
   .rw[c]at z;cases z
   .rw[z];exact h
   .exact Iv h z
noncomputable def jZ(x:List Int×Nat):K3:=(x.1.length,x.1.reverse,x.2)
theorem Qm{x y:List Int×Nat}(h:fF (jZ y) (jZ x)≠true):zO x y:=by
 have n:∀a b:List Int,a.reverse=b.reverse->a=b:=λa b e=>by rw[<-Yl a,e,Yl]
 rcases CY (jZ x) (jZ y)with z|z|z
 .rcases(nH _ _).mp z with z|⟨e,z|⟨f,z⟩⟩
  .exact .inl (Z1.mp z)
  .exact .inr ⟨Qc.mp e,.inl z⟩
  .exact .inr ⟨Qc.mp e,.inr ⟨n _ _ f,Ye (Z1.mp z)⟩⟩
 .have g:(x.1.length:Int)=y.1.length:=GT (·.1) z;have d:x.1.reverse=y.1.reverse:=GT (·.2.1) z;have c:(x.2:Int)=y.2:=GT (·.2.2) z;exact .inr ⟨Qc.mp g,.inr ⟨n _ _ d,Sr (Qc.mp c)⟩⟩
 .exact(h z).elim
theorem Gi{α:Type}(L:List α)(d:α){p:Array Nat}(a:kB L.length p):(p.toList.map λi=>L.getD i d).Perm L:=by
 have h:=ZH (λi=>L.getD i d) a;have e:(BB L.length).map (λi=>L.getD i d)=L:=by
  apply List.ext_getElem
  .rw[Ap,HI]
  .intro i c b;rw[List.getElem_map,QV,AC,B1 b];rfl
 rw[e]at h;exact h
theorem zQ(L:List (List Int×Nat)){p:Array Nat}(b:kB L.length p)(m:rN (MZ (L.map jZ)) p L.length):(p.toList.map λi=>L.getD i ([],0)).Pairwise zO:=by
 rw[X4,X8];intro i j d c l;rw[JJ,b.sz]at d c;have g:∀k (a:k<L.length),p.toList[k]'(by rw[JJ,b.sz];exact a)=p.getD k 0:=λk a=>by
  have:k<p.size:=by rw[b.sz];exact a
  simp[Z3,this]
 have e:∀k,k<L.length->(L.map jZ).getD k (0,[],0)=jZ (L.getD k ([],0)):=λk a=>by rw[AC,AC,Dx,B1 a];rfl
 rw[g i d,g j c];have h:=b.lt d;have f:=b.lt c;refine Qm λz=>?_;have n:=m i j (by omega) c;have:=Iw (L.map jZ) (i:=p.getD j 0) (j:=p.getD i 0) (by rw[Ap];exact f) (by rw[Ap];exact h);rw[e _ h,e _ f,z,Fh]at this;omega
noncomputable def nI:aX:=λa Q _=>∃x:List Int×Nat,a=[pW x]/\Q (.tup [.int (x.1.length:Nat),.lst (x.1.reverse.map W.int),.int (x.2:Nat)])
noncomputable def vJ(H:Hp)(k:Value)(x:K3):Prop:=∃t q,k=.ref t/\H t=some (.tup [.int x.1,.ref q,.int x.2.2])/\Rd H q (.lst (x.2.1.map V.int))
theorem vJ.same{H H':Hp}{k:Value}{x:K3}(s:ao H H')(h:vJ H k x):vJ H' k x:=by obtain⟨t,q,e,b,a⟩:=h;exact⟨t,q,e,s _ _ b,VL.ao.rd s a⟩
theorem ye{α c:Type}{F:α->c->Prop}{a:α}{b:c}(h:F a b):∀{l:List α}{m:List c},Paired F l m->Paired F (l++[a]) (m++[b])
 |_,_,.nil=>.cons h .nil
 |_,_,.cons r t=>.cons r (ye h t)
section
variable{X:Cx}{pins:List (Addr×Obj)}{σ:St}{H:Hp}{s:Shared}
theorem vJ.at{k:Value}{x:K3}(I:Inv X pins σ H s)(h:vJ H k x):iN s.heap k x:=by
 obtain⟨t,q,rfl,v,p⟩:=h;obtain⟨m,r,⟨o,g,c,n,d⟩,_⟩:=I.tuple (.inl (.inl v));obtain⟨a,j,⟨o2,l,w,z,_,y⟩,_⟩:=I.list (.inl p);cases r with
 |cons i r=>
 cases r with
 |cons f r=>
 cases r with
 |cons e r=>
 cases r;obtain⟨u,rfl⟩:=i;obtain⟨b,rfl⟩:=e;cases f;exact⟨t,o,n,u,b,q,a.toArray,rfl,g,c,d,⟨o2,w,z,l,y⟩,intsAre_of j⟩
theorem Qn{k:Nat}{f:Addr}{fd:FuncData}{ps:List Str}{B:Addr->Prop}{L:List (List Int×Nat)}{v:V}{u:Value}{Q:VK}{E:Value->Shared->Prop}
 (F:bJ X.prog X.w X.K X.mg X.base (iO X.prog X.w) k f fd ps (uZ X.K 1 .s nI))(hb:Binds X.K fd ps [])(hp:ps.length=1)(hr:bW (k+2) X.A)(I:Inv X pins σ H s)(d:Dom B H)(r:RelV v u)(h:Rep X.K B H (.lst (L.map pW)) v)(hl:L.length<=60)
 (q:∀(L':List (List Int×Nat)) Z H',L'.Perm L->L'.Pairwise zO->ao H H'->Rep X.K B H' (.lst (L'.map pW)) Z->Q Z H'):
 wpAny (model X.prog X.w) X.A (call (.builtin "sorted") [u] [(Str.ofString "key",.ref f)]) (EP X pins σ Q) E s:=by
 obtain⟨a,c,rfl,na,ra,rl⟩:=h;cases r;obtain⟨vs,rv,⟨o2,n2,g2,c2,_,d2⟩,_⟩:=I.list (.inl ra.rd);have ln:vs.length=L.length:=by rw[<-rv.length,rl.len,Ap]
 have lx:c.length=L.length:=by rw[rl.len,Ap]
 have hu:X.A.in1.in1.units<cLine:=by have:=hr.un;show X.A.units+1+1<_;omega
 have y:∀i n,c[i]?=some n->∃x,L[i]?=some x/\Rep X.K B H (pW x) n:=λi n e=>by
  have m:i<L.length:=by rw[<-lx];exact(FS.mp e).1
  obtain⟨v1,R,Y⟩:=rl.get (show(L.map pW)[i]?=some (pW L[i]) by rw[Dx,B1 m];rfl);rw[e]at R;cases R;exact⟨L[i],B1 m,Y⟩
 refine Eo (κ:=tuples' true) (KP:=λO g=>ao H g/\Paired (vJ g) O ((L.take O.length).map jZ)) I ⟨o2,g2,c2,n2,d2⟩ rv (by omega) (ksk_s1 _ _) (λx=>ksk_l1 _ _) (λx=>ksk_t1 f x) ⟨ao.refl H,.nil⟩ ?_ ?_
 .rintro i n O g S oU e m I1 ⟨sm,N⟩;have hi2:i<L.length:=by rw[<-ln];exact(FS.mp e).1
  have ex:c[i]?=some c[i]:=B1 (by omega);obtain⟨v1,R,r1⟩:=rv.get ex;rw[e]at R;cases R;obtain⟨x,hx,rx⟩:=y i _ ex;have dm:Dom B g:=d.same sm;have sp:uZ X.K 1 .s nI ([c[i]]++[]) g (λv H'=>ao g H'/\∃t,v=.ref t/\vJ H' (.ref t) (jZ x)) E0:=by refine⟨B,[pW x],λw=>w=.tup [.int (x.1.length:Nat),.lst (x.1.reverse.map W.int),.int (x.2:Nat)],λ_=>False,rfl,⟨_,[],rfl,rx.same sm,rfl⟩,dm,⟨x,rfl,rfl⟩,λw v H' pw s' rm=>⟨s',?_⟩,λC H' z=>z.elim⟩;subst pw;obtain⟨p,vs',rfl,Y,h2⟩:=rm.rep dm;obtain⟨a1,a2,a3,rfl,b1,b2,b3⟩:=F4 h2;have b1:a1=.int (x.1.length:Nat):=b1;have b3:a3=.int (x.2:Nat):=b3;obtain⟨p',w4,rfl,_,h3,h4⟩:=b2;rw[f7 h4]at h3;rw[b1,b3]at Y;exact⟨p,rfl,p,p',rfl,Y,h3.rd⟩
  have P:([n]++([]:List Value)).length=ps.length:=hp.symm;refine wpAny_call (YR (F.run X.A.in1.in1 X.stack S g ⟨[n],[]⟩ ([n]++[]) ([c[i]]++[]) _ E0 hr.in1.in1 I1.Jt.in1.in1 (hb S [n] I1.lC P) (.cons r1 .nil) sp) λr s' G=>?_);cases r with
  |error e=>obtain⟨_,_,_,_,_,z⟩:=G;exact z.elim
  |ok fl=>
   cases fl with
   |ret u=>obtain⟨Z,H',I',rr,s2,t,rfl,kv⟩:=I1.after G;cases rr;refine⟨H',I',sm.trans s2,?_⟩;rw[Fk,G7,m,WD,hx,PQ];rw[m]at N;exact ye kv (Paired.Ae N λ_ _ z=>z.same s2)
   |next=>exact IM G
   |brk=>exact IM G
   |cont=>exact IM G
 .rintro O g ⟨sm,N⟩ hk;rw[hk,ln,SN]at N;refine⟨MZ (L.map jZ),λoU S I1=>?_,λp D U hU T=>?_⟩
  .have UK:Paired (iN S.heap) O (L.map jZ):=Paired.Ae N λ_ _ z=>z.at I1;refine⟨λh2 Q' G=>A4 UK (by omega) G,λi j C m hj hC=>Ep UK (by omega) (by omega) hu ?_⟩;rw[<-Iw (L.map jZ) (by rw[Ap];omega) (by rw[Ap];omega)];exact hC
  .rw[ln]at U hU;refine q (p.toList.map λi=>L.getD i ([],0)) (.ref D) _ (Gi L _ U) (zQ L U hU) (λb o e=>?_) ⟨D,_,rfl,?_,.inl aL,?_⟩
   .have J:=sm b o e;rw[aA (λz=>by rw[z,T]at J;cases J)];exact J
   .intro z;obtain⟨o,e⟩:=d D z;rw[sm D o e]at T;cases T
   .have UL:ao H (upd g D (.lst (p.toList.map λi=>c.getD i .aM))):=λb o e=>by have J:=sm b o e;rw[aA (λz=>by rw[z,T]at J;cases J)];exact J
    have M:∀i∈p.toList,i<L.length:=λi m=>Ki.mp ((UR U).mp m);generalize upd g D _=H2 at UL⊢;generalize p.toList=l at M⊢
    induction l with
    |nil=>rfl
    |cons i l ih=>
     have m:=M i (.head _);have ex:c[i]?=some c[i]:=B1 (by omega);obtain⟨x,hx,rx⟩:=y i _ ex;refine⟨c[i],_,?_,?_,ih λj hj=>M j (.tail _ hj)⟩
     .rw[Kk,AC,ex];rfl
     .show Rep X.K B H2 (pW (L.getD i ([],0))) c[i];rw[AC,hx];exact rx.same UL
end
noncomputable def Tr(K:Frag):TE:=λd H Q=>∃(B:Addr->Prop)(L:List (List Int×Nat))(v:V),d[0]?=some (some v)/\Dom B H/\Rep K B H (.lst (L.map pW)) v/\L.length<=60/\
 ∀(a:List (List Int×Nat)) c b,a.Perm L->a.Pairwise zO->ao H b->Rep K B b (.lst (a.map pW)) c->Q c b
theorem Ml{X:Cx}{M p2 n m g:Pos}{x y:Str}{k:Nat}{f:Addr}{o:FuncData}{ps:List Str}(F:bJ X.prog X.w X.K X.mg X.base (iO X.prog X.w) k f o ps (uZ X.K 1 .s nI))(Y:Binds X.K o ps [])(T:ps.length=1)(S:bW (k+2) X.A)
 (Z:X.N[0]?=some x)(P:IP X.env.scope x)(z:(x==("__debug__":Str))=false)(t:(x==("__classdict__":Str))=false)(R:Gl X "sorted")(h:X.mg "sorted"=none)(O:Gl X y)(Tt:X.mg y=some (.ref f))(r:(y==("__debug__":Str))=false):
 PE X (.Call (.Name "sorted" M) [.Name x p2] [⟨some "key",.Name y n,m⟩] g) (Tr X.K):=by
 rintro a s l H Q I ⟨B,L,v,e,d,E,U,q⟩;refine X5 (dD (u:=.builtin "sorted") I R h rfl ?_);refine Z4 ?_;have j:PA X [.Name x p2] (j7 (gW 0) sd):=aU (Ai Z P z t) bV;have i:PK X [⟨some "key",.Name y n,m⟩] (j7 (tC (.ref f)) sd):=DW (wk (v:=.ref f) O Tt rfl r) Jv;refine aZ (j g a s l H (λb c=>b=[v]/\c=H) I ⟨v,e,rfl,rfl⟩) λus C ⟨b,c,I1,J,e1,e2⟩=>?_;subst e1 e2;refine aZ (i g a C l c (λb p=>b=[.ref f]/\p=c) I1 ⟨rfl,rfl⟩) λws s2 ⟨zs,p,I2,G,e3,e4⟩=>?_;subst e3 e4;obtain⟨u,rfl,D⟩:=Vals.one J;obtain⟨u2,rfl,W0⟩:=Vals.one G;cases W0;exact Qn F Y T S I2 d D E U q
theorem zR{P:Program}{w:World}{K:Frag}{j:Str->Option Value}{base:Heap}{x0 x y e:Str}{st:Stmt}{f g:Addr}{t r:FuncData}{N ps l:List Str}{k:Nat}{S p2 O M J I:Pos}(Fu:z3 K x0 e st f t)(Sc:dW N ps (ak st))
 (i:aR st=[.Return (some (.Call (.Name "sorted" S) [.Name x p2] [⟨some "key",.Name y O,M⟩] J)) I])
 (F:bJ P w K j base (iO P w) k g r l (uZ K 1 .s nI))(hb:Binds K r l [])(hp:l.length=1)(n:ps.length=1)
 (hN:N[0]?=some x)(U:IP (ak st) x)(B:(x==("__debug__":Str))=false)(z:(x==("__classdict__":Str))=false)(Y:(ak st).names.lookup ("sorted":Str)=some .globalImplicit)(m:j "sorted"=none)
 (T:(ak st).names.lookup y=some .globalImplicit)(Tt:j y=some (.ref g))(u:(y==("__debug__":Str))=false):bJ P w K j base (iO P w) (k+2+1) f t ps (uZ K 1 .s gE):=by
 refine z3.R3 Fu Sc (by rintro D H Q E ⟨A,C,P,R,q,o,_⟩;rw[o.len,q,n]) λp A h s H D Q E Z hz=>?_;obtain⟨A0,C,P0,R,q,o,h3,⟨L,rfl,hl,hq⟩,h5,h6⟩:=hz;obtain⟨v,rfl,rv⟩:=PJ o;rw[i];refine⟨_,iG (pO (Ml (X:=gP P w K j base N e (ak st) f p A h s H E) F hb hp Z hN U B z Y m T Tt u)),A0,L,v,rfl,h3,rv,hl,λL' G H' a b c d=>?_⟩;exact h5 _ G H' (hq L' a b) c (.of d)
noncomputable def Tu(P:Program)(w:World)(K:Frag)(a:Str->Option Value)(base:Heap)(k:Nat):List Str->List Md->List aX->Prop
 |x::fn,m::e,S::Ss=>(∃d n c,a x=some d/\cS P w K a base c d n (ur K n m S)/\c<=k/\∀b P R,S b P R->b.length=n)/\Tu P w K a base k fn e Ss
 |[],_,_=>True
 |_,_,_=>False
theorem CZ{P:Program}{w:World}{K:Frag}{b:Str->Option Value}{base:Heap}{k:Nat}:∀{fn:List Str}{a:List Md}{Ss:List aX},Tu P w K b base k fn a Ss->∀(j:Nat)(x:Str),fn[j]?=some x->∃f n d,b x=some f/\cS P w K b base d f n (ur K n (iV a j) (bI Ss j))/\d<=k/\∀c P R,bI Ss j c P R->c.length=n
 |y::fn,m::a,S::Ss,h,0,x,e=>by
  cases e;exact h.1
 |y::fn,m::a,S::Ss,h,j+1,x,e=>CZ (fn:=fn) h.2 j x e
 |[],_,_,_,j,x,e=>by cases e
 |_::_,[],_,h,_,_,_=>h.elim
 |_::_,_::_,[],h,_,_,_=>h.elim
noncomputable def oq(st:Stmt):List Str:=(bO st).args.map (·.arg)
noncomputable def Tv:NameKind->Bool
 |.local=>true
 |.cell=>true
 |_=>false
noncomputable def Mm(st:Stmt):List Str:=((ak st).names.filter λy=>Tv y.2).map (·.1)
abbrev DT:=List (Str×Nat)
noncomputable def C0(DD:DT)(j:Nat):Str:=match DD[j]? with
 |some y=>y.1
 |none=>""
noncomputable def Gj(K:Frag)(a:Nat->Stmt):DT->Prop
 |[]=>True
 |(x,i)::l=>(Hd K x (a i)/\gC x x (a i) (oq (a i)))/\Gj K a l
noncomputable def Gk(K:Frag):List Str->Prop
 |[]=>True
 |x::l=>nsIn K mainGlobals x=some none/\Gk K l
structure TT(K:Frag)(mg:Str->Option Value)(tp:Nat->Stmt)(DD:DT)(ZZ:List Str)where
 f:Nat->Addr
 d:Nat->FuncData
 D:∀{j:Nat}{x:Str}{i:Nat},DD[j]?=some (x,i)->Df K mg x (tp i) (oq (tp i)) (f j) (d j)
 Z:∀x∈ZZ,mg x=none
section
variable{P:Program}{w:World}{K:Frag}{mg:Str->Option Value}{base:Heap}{tp:Nat->Stmt}{DD:DT}{ZZ:List Str}
theorem yg{h:Heap}(X:K.In h)(G:h.Ns mainGlobals mg):∀{DD:DT}{j:Nat}{x:Str}{i:Nat},Gj K tp DD->DD[j]?=some (x,i)->∃f a,Df K mg x (tp i) (oq (tp i)) f a
 |(y,n)::DD,0,x,i,h,e=>by
  cases e;exact PN X G h.1.1 h.1.2
 |(y,n)::DD,j+1,x,i,h,e=>yg X G (DD:=DD) h.2 e
theorem yh{h:Heap}(X:K.In h)(G:h.Ns mainGlobals mg):∀{ZZ:List Str},Gk K ZZ->∀x∈ZZ,mg x=none
 |y::ZZ,h,x,a=>by
  rcases Fm.mp a with e|a
  .rw[e];exact PySem.W.mg_none_of X G h.1
  .exact yh X G h.2 x a
open Classical in
theorem Qo{h:Heap}(X:K.In h)(G:h.Ns mainGlobals mg)(a:Gj K tp DD)(z:Gk K ZZ):Nonempty (TT K mg tp DD ZZ):=by
 have H:∀j:Nat,∃f b,∀x i,DD[j]?=some (x,i)->Df K mg x (tp i) (oq (tp i)) f b:=λj=>by
  cases e:DD[j]? with
  |none=>exact⟨0,fnOf "" "" (bO (tp 0)) (aR (tp 0)) (ak (tp 0)) .none .none .none .none none .none .none,λx i q=>nn q⟩
  |some y=>obtain⟨f,b,D⟩:=yg X G a e;exact⟨f,b,λx i q=>by cases q;exact D⟩
 exact⟨⟨λj=>choose (H j),λj=>choose (choose_spec (H j)),λ{j x i} e=>choose_spec (choose_spec (H j)) x i e,yh X G z⟩⟩
noncomputable def Cl(P:Program)(w:World)(K:Frag)(mg:Str->Option Value)(base:Heap)(DD:DT)(k j:Nat)(m:Md)(S:aX):Prop:=∃c n b,mg (C0 DD j)=some c/\cS P w K mg base b c n (ur K n m S)/\b<=k/\∀a P R,S a P R->a.length=n
noncomputable def zS(P:Program)(w:World)(K:Frag)(mg:Str->Option Value)(base:Heap)(DD:DT):List (Nat×Md×Nat)->List aX->Prop
 |(j,m,k)::gS,S::Ss=>Cl P w K mg base DD k j m S/\zS P w K mg base DD gS Ss
 |[],_=>True
 |_::_,[]=>False
theorem yi{k:Nat}:∀{gS:List (Nat×Md×Nat)}{Ss:List aX},zS P w K mg base DD gS Ss->gS.all (λy=>decide (y.2.2<=k))=true->Tu P w K mg base k (gS.map λy=>C0 DD y.1) (gS.map (·.2.1)) Ss
 |(j,m,k')::gS,S::Ss,h,hk=>by rw[JE,AN]at hk;obtain⟨e,n,k2,d,c,b,a⟩:=h.1;exact⟨⟨e,n,k2,d,c,IH b (Bi hk.1),a⟩,yi h.2 hk.2⟩
 |[],_,_,_=>trivial
 |_::_,[],h,_=>h.elim
noncomputable def Gn(K:Frag)(mg:Str->Option Value)(x:Str)(u:W):Prop:=(∃v z,mg x=some v/\RelV z v/\∀B H,Rep K B H u z)/\∀C,u=.cls C->R1 K C
noncomputable def Qp(K:Frag)(mg:Str->Option Value):List Str->List W->Prop
 |x::gn,u::Gs=>Gn K mg x u/\Qp K mg gn Gs
 |[],_=>True
 |_::_,[]=>False
theorem vK:∀{gn:List Str}{Gs:List W},Qp K mg gn Gs->∀(j:Nat)(x:Str),gn[j]?=some x->Gn K mg x (rS Gs j)
 |y::gn,u::Gs,h,0,x,e=>by
  cases e;exact h.1
 |y::gn,u::Gs,h,j+1,x,e=>vK (gn:=gn) h.2 j x e
 |_::_,[],h,_,_,_=>h.elim
 |[],_,_,_,_,e=>by cases e
theorem Iz{k:Nat}{gS:List (Nat×Md×Nat)}{Ss:List aX}{gn:List Str}{Gs:List W}(T:TT K mg tp DD ZZ)(h:zS P w K mg base DD gS Ss)(a:gS.all (λy=>decide (y.2.2<=k))=true)(g:Qp K mg gn Gs):Tab P w K mg base (gS.map λy=>C0 DD y.1) gn ZZ (gS.map (·.2.1)) [] (bI Ss) (rS Gs) k:=
 ⟨λj x e _=>CZ (yi h a) j x e,λ_ _ _ _ h=>(by cases h),λj x e=>(vK g j x e).1,T.Z,LY K,λj x C e q=>(vK g j x e).2 C q⟩
noncomputable def Gm(ZZ:List Str)(st:Stmt)(a n:Nat)(M:Ms)(fn gn:List Str)(b:List Md)(d:List (Nat×Nat))(m:Md)(c:List CS):Bool:=
 decide (((ak st).kind=.function/\(ak st).isCoroutine=false/\(ak st).isGenerator=false/\(Mm st).Nodup/\(Mm st).take (oq st).length=oq st)/\(∀x∈oq st,(ak st).names.lookup x=some .local\/(ak st).names.lookup x=some .cell)/\(∀y∈(ak st).names,y.2≠.free)/\(oq st).length=a/\(Mm st).length=n/\(M.map (·.1)).Nodup)&&(M.all (λi=>decide (a<=i.1))&&!fH m&&d7 ⟨Mm st,(ak st).names,M,fn,gn,ZZ,b,d⟩ (iV b) m c (aR st))
theorem Tw{e n j i:Nat}{x:Str}{M:Ms}{fn gn:List Str}{o:List Md}{l:List (Nat×Nat)}{m:Md}{c:List CS}{h:Nat->aX}{G:Nat->W}{k:Nat}{S:aX}(T:TT K mg tp DD ZZ)(s:DD[j]?=some (x,i))(g:Gm ZZ (tp i) e n M fn gn o l m c=true)(q:Tab P w K mg base fn gn ZZ o l h G k)(r:∀a P R,S a P R->a.length=e)(p:∀a Q R,S a Q R->wSs h G c (bg m Q R) (ay n a)):
 bJ P w K mg base (iO P w) (k+1) (T.f j) (T.d j) (oq (tp i)) (ur K e m S):=by
 unfold Gm at g;rw[AN,AN,AN]at g;obtain⟨y,⟨v,u⟩,t⟩:=g;obtain⟨⟨J,a2,a3,I,H⟩,E,C,A,z,B⟩:=Bi y;have b:fH m=false:=by simpa using u
 subst A z;have:=LX (T.D s).F ⟨J,a2,a3,I,H,E,C⟩ q c M m S v B b t r p;cases m<;>first|exact this|cases b
theorem yj{a j i k:Nat}{x:Str}{m:Md}{S:aX}(T:TT K mg tp DD ZZ)(c:DD[j]?=some (x,i))(g:a=(oq (tp i)).length)(F:bJ P w K mg base (iO P w) k (T.f j) (T.d j) (oq (tp i)) (ur K a m S))(h:∀b P R,S b P R->b.length=a):Cl P w K mg base DD k j m S:=by
 have e:C0 DD j=x:=by unfold C0;rw[c]
 unfold Cl;rw[e];exact(T.D c).gS F g h (BM k)
theorem C1{a n:Nat}{st:Stmt}{M:Ms}{fn gn:List Str}{d:List Md}{b:List (Nat×Nat)}{m:Md}{c:List CS}(h:Gm ZZ st a n M fn gn d b m c=true):a=(oq st).length:=by unfold Gm at h;rw[AN]at h;exact(Bi h.1).2.2.2.1.symm
theorem Mp{n j i:Nat}{x:Str}{Gs:List W}{m:Md}{c:List CS}{Ss:List aX}{k:Nat}{S:aX}(T:TT K mg tp DD ZZ)(o:DD[j]?=some (x,i))(b:Nat)(M:Ms)(gS:List (Nat×Md×Nat))(gn:List Str)(p:∀a Q R,S a Q R->wSs (bI Ss) (rS Gs) c (bg m Q R) (ay n a))(h:zS P w K mg base DD gS Ss)(g:Qp K mg gn Gs)(e:(gS.all (λy=>decide (y.2.2<=k))&&Gm ZZ (tp i) b n M (gS.map λy=>C0 DD y.1) gn (gS.map (·.2.1)) [] m c)=true)(l:∀a P R,S a P R->a.length=b):bJ P w K mg base (iO P w) (k+1) (T.f j) (T.d j) (oq (tp i)) (ur K b m S):=by rw[AN]at e;exact Tw T o e.2 (Iz T h e.1 g) l p
theorem Qq{n j i:Nat}{x:Str}{Gs:List W}{m:Md}{c:List CS}{Ss:List aX}{k:Nat}{S:aX}(T:TT K mg tp DD ZZ)(f:DD[j]?=some (x,i))(b:Nat)(M:Ms)(gS:List (Nat×Md×Nat))(gn:List Str)(p:∀a Q R,S a Q R->wSs (bI Ss) (rS Gs) c (bg m Q R) (ay n a))(h:zS P w K mg base DD gS Ss)(g:Qp K mg gn Gs)(d:(gS.all (λy=>decide (y.2.2<=k))&&Gm ZZ (tp i) b n M (gS.map λy=>C0 DD y.1) gn (gS.map (·.2.1)) [] m c)=true)(e:∀a P R,S a P R->a.length=b):Cl P w K mg base DD (k+1) j m S:=by have F:=Mp T f b M gS gn p h g d e;rw[AN]at d;exact yj T f (C1 d.2) F e
theorem dS{n j i:Nat}{x:Str}{m:Md}{c:List CS}{Ss:List aX}{k:Nat}{S:aX}(T:TT K mg tp DD ZZ)(f:DD[j]?=some (x,i))(b:Nat)(M:Ms)(gS:List (Nat×Md×Nat))(p:∀a Q R,S a Q R->wSs (bI Ss) (rS []) c (bg m Q R) (ay n a))(h:zS P w K mg base DD gS Ss)(e:(gS.all (λy=>decide (y.2.2<=k))&&Gm ZZ (tp i) b n M (gS.map λy=>C0 DD y.1) [] (gS.map (·.2.1)) [] m c)=true)(d:∀a P R,S a P R->a.length=b):Cl P w K mg base DD (k+1) j m S:=Qq T f b M gS [] p h trivial e d
theorem nM{n j i:Nat}{x:Str}{m:Md}{c:List CS}{S:aX}(T:TT K mg tp DD ZZ)(f:DD[j]?=some (x,i))(b:Nat)(M:Ms)(p:∀a Q R,S a Q R->wSs (bI []) (rS []) c (bg m Q R) (ay n a))(e:Gm ZZ (tp i) b n M [] [] [] [] m c=true)(d:∀a P R,S a P R->a.length=b):Cl P w K mg base DD 1 j m S:=Qq (k:=0) T f b M [] [] p trivial trivial e d
theorem Qu{k j i a:Nat}{x:Str}(T:TT K mg tp DD ZZ)(c:DD[j]?=some (x,i))(b:a=(oq (tp i)).length):Cl P w K mg base DD k j .s Tg:=yj T c b PR λ_ _ _ z=>z.elim
theorem Mq{j i jr e k:Nat}{x y z:Str}{A p2 v u t r:Pos}(T:TT K mg tp DD ZZ)(l:DD[j]?=some (x,i))(n:DD[jr]?=some (y,e))(F:bJ P w K mg base (iO P w) k (T.f jr) (T.d jr) (oq (tp e)) (uZ K 1 .s nI))
 (I:dW (Mm (tp i)) (oq (tp i)) (ak (tp i)))(a:aR (tp i)=[.Return (some (.Call (.Name "sorted" A) [.Name z p2] [⟨some "key",.Name y v,u⟩] t)) r])(G:(oq (tp e)).length=1)(c:(oq (tp i)).length=1)
 (H:(Mm (tp i))[0]?=some z)(C:IP (ak (tp i)) z)(q:(z==("__debug__":Str))=false)(p:(z==("__classdict__":Str))=false)(E:(ak (tp i)).names.lookup ("sorted":Str)=some .globalImplicit)(g:("sorted":Str)∈ZZ)
 (B:(ak (tp i)).names.lookup y=some .globalImplicit)(o:(y==("__debug__":Str))=false):Cl P w K mg base DD (k+2+1) j .s gE:=
 yj T l c.symm (zR (T.D l).F I a F (T.D n).b G c H C q p E (T.Z _ g) B (T.D n).m o) λJ P R h=>by obtain⟨L,rfl,_⟩:=h;rfl
theorem C2{j k:Nat}{m:Md}{S:Nat->aX}(z:Cl P w K mg base DD k j m (S 0))(st:∀n a,k<=a->Cl P w K mg base DD a j m (S n)->Cl P w K mg base DD (a+1) j m (S (n+1))):∀n,Cl P w K mg base DD (k+n) j m (S n)
 |0=>z
 |n+1=>st n (k+n) (YX _ _) (C2 z st n)
theorem zT(a:List W)(Q:W->Prop)(R:Addr->Prop):¬bT 0 a Q R:=by rintro⟨b,d,p,_,⟨c,_,_,_,h⟩,_⟩;have:=c.m.n0;lia
end
end VL
namespace VL
open PySem PySem.Spec
open PyProof.Rows hiding St
open L2 Num Alg
noncomputable def C3:List CS:=[.set 2 (.bin .Mod (.bin .Add (.bin .Add (.bin .Mult (.var 2) (.var 3)) (.bin .Mult (.int 31) (.var 5))) (.int 7)) (.int 999999937)),.set 3 (.bin .Mod (.bin .Add (.bin .Add (.bin .Mult (.var 3) (.int 40692)) (.var 2)) (.var 5)) (.int 2147483399)),.set 6 (.bin .Mod (.bin .Add (.bin .Mult (.int 3) (.var 2)) (.var 3)) (.int 1000000007)),.iff (.cmp .GtE (.var 0) (.bin .Pow (.int 10) (.int 18))) [.set 6 (.bin .Mod (.var 0) (.bin .Pow (.int 10) (.int 9))),.set 0 (.bin .FloorDiv (.var 0) (.bin .Pow (.int 10) (.int 9)))] [],.app 4 (.var 6)]
noncomputable def nN:List CS:=[.set 2 (.bin .Add (.bin .Mod (.var 0) (.int 999999937)) (.int 2)),.set 3 (.bin .Add (.bin .Mod (.bin .FloorDiv (.var 0) (.int 999999937)) (.int 999999937)) (.int 3)),.set 4 (.lst []),.fr [5] true (.jq [(.var 1)]) C3,.ret (.var 4)]
noncomputable def lz:aX:=λb Q _=>∃(c:Int)(n:Nat),b=[.int c,.int n]/\n<=60/\∀a:List Int,a.length=n->(∀x∈a,0<=x)->Q (wI a)
theorem C4{K:Nat->aX}{G:Nat->W}{m:Md}(C:List W)(Q:W->Prop)(R:Addr->Prop)(h:lz C Q R):wSs K G nN (bg m Q R) (ay 7 C):=by
 obtain⟨c,n,rfl,Z,z⟩:=h;show wSs _ _ nN _ [some (.int c),some (.int n),none,none,none,none,none];unfold nN;have L:(999999937:Int).natAbs.log2<1000000000:=mZ (n:=31) (by decide) (by decide);have Y:((10:Int)^(9:Int).toNat).natAbs.log2<1000000000:=mZ (n:=31) (by decide) (by decide);refine aq (λd=>∃a:Int,(0<=a/\a<2^31)/\d=[some (.int c),some (.int n),some (.int a),none,none,none,none]) (λN r=>?_) ?_
 .have f:=fm (x:=c) (n:=999999937) (by decide);fin2;exact⟨by decide,r _ ⟨_,⟨by lia,by lia⟩,rfl⟩⟩
 rintro _ ⟨a,⟨I,H⟩,rfl⟩;refine aq (λd=>∃b:Int,(0<=b/\b<2^31)/\d=[some (.int c),some (.int n),some (.int a),some (.int b),none,none,none]) (λN r=>?_) ?_
 .have f:=fm (x:=c.fdiv 999999937) (n:=999999937) (by decide);fin2;exact⟨⟨by decide,L⟩,by decide,r _ ⟨_,⟨by lia,by lia⟩,rfl⟩⟩
 rintro _ ⟨b,⟨E,D⟩,rfl⟩;refine aq (λd=>d=[some (.int c),some (.int n),some (.int a),some (.int b),some (wI []),none,none]) (λN r=>?_) ?_
 .fin2;exact⟨aj (by simp),r _ rfl⟩
 rintro _ rfl;refine aq (λd=>∃(c a b:Int)(e:List Int)(p j:Option W),(e.length=n/\∀x∈e,0<=x)/\d=[some (.int c),some (.int n),some (.int a),some (.int b),some (wI e),p,j]) (λN r=>?_) ?_
 .refine jj (l:=cR 0 1 n) (λQ z=>?_) ?_
  .fin2;exact⟨by lia,by lia,by rw[Fc];exact z⟩
  refine bq (λi J=>∃(c a b:Int)(e:List Int)(p j:Option W),((0<=a/\a<2^31)/\(0<=b/\b<2^31)/\e.length=i/\∀x∈e,0<=x)/\J=[some (.int c),some (.int n),some (.int a),some (.int b),some (wI e),p,j]) ⟨c,a,b,[],none,none,⟨⟨I,H⟩,⟨E,D⟩,rfl,λx M=>by cases M⟩,rfl⟩ ?_ ?_
  .rintro i w _ N1 O ⟨c,a,b,e,p,j,⟨⟨I,H⟩,⟨E,D⟩,s,t⟩,rfl⟩ P;obtain⟨hi,rfl⟩:=ic O;unfold C3;refine aq (λd=>∃g:Int,(0<=g/\g<2^31)/\d=[some (.int c),some (.int n),some (.int g),some (.int b),some (wI e),some (.int i),j]) (λB o=>?_) ?_
   .have f:=fm (x:=a*b+31*(i:Int)+7) (n:=999999937) (by decide);fin2;exact⟨cC (n:=31) (m:=31) (by lia) (by lia) (by decide),cC (n:=5) (m:=6) (by decide) (by lia) (by decide),by decide,o _ ⟨_,⟨f.1,by lia⟩,rfl⟩⟩
   rintro _ ⟨g,⟨U,A⟩,rfl⟩;refine aq (λd=>∃k:Int,(0<=k/\k<2^31)/\d=[some (.int c),some (.int n),some (.int g),some (.int k),some (wI e),some (.int i),j]) (λB o=>?_) ?_
   .have f:=fm (x:=b*40692+g+(i:Int)) (n:=2147483399) (by decide);fin2;exact⟨cC (n:=31) (m:=16) (by lia) (by decide) (by decide),by decide,o _ ⟨_,⟨f.1,by lia⟩,rfl⟩⟩
   rintro _ ⟨k,⟨T,S⟩,rfl⟩;refine aq (λd=>∃x:Int,0<=x/\d=[some (.int c),some (.int n),some (.int g),some (.int k),some (wI e),some (.int i),some (.int x)]) (λB o=>?_) ?_
   .have f:=fm (x:=3*g+k) (n:=1000000007) (by decide);fin2;exact⟨cC (n:=2) (m:=31) (by decide) (by lia) (by decide),by decide,o _ ⟨_,f.1,rfl⟩⟩
   rintro _ ⟨x,v,rfl⟩;refine aq (λd=>∃(c x:Int),0<=x/\d=[some (.int c),some (.int n),some (.int g),some (.int k),some (wI e),some (.int i),some (.int x)]) (λB o=>?_) ?_
   .fin2;refine⟨gY (by decide) (by decide) (by decide),?_⟩;split
    .have f:=fm (x:=c) (n:=(10:Int)^(9:Int).toNat) (by decide);exact⟨gY (by decide) (by decide) (by decide),by decide,gY (by decide) (by decide) (by decide),⟨by decide,Y⟩,o _ ⟨_,_,f.1,rfl⟩⟩
    .exact o _ ⟨c,x,v,rfl⟩
   rintro _ ⟨c,x,v,rfl⟩;have q:=P [some (.int c),some (.int n),some (.int g),some (.int k),some (wI (e++[x])),some (.int i),some (.int x)] ⟨c,g,k,e++[x],some (.int i),some (.int x),⟨⟨U,A⟩,⟨T,S⟩,by rw[Fk,s];rfl,λy u=>?_⟩,rfl⟩
   .unfold wI at q⊢;fin2;rw[PQ]at q;exact⟨jQ (by rw[Ap];lia),q⟩
   .rcases GM.mp u with u|u
    .exact t y u
    .rw[Da.mp u];exact v
  .rintro _ ⟨c,a,b,e,p,j,⟨_,_,s,t⟩,rfl⟩;rw[kU]at s;exact r _ ⟨c,a,b,e,p,j,⟨s,t⟩,rfl⟩
 rintro _ ⟨c,a,b,e,p,j,⟨s,t⟩,rfl⟩;exact z e s t
noncomputable def nO:List CS:=[.iff (.cmp .Lt (.var 1) (.blt .len [(.var 0)])) [.ret (.ix (.var 0) (.var 1))] [],.ret (.int 0)]
noncomputable def rj:aX:=λa Q _=>∃(b:List Int)(k:Nat),a=[.fW b,.int k]/\∀z:Int,Q (.int z)
theorem C5{d:Nat->aX}{G:Nat->W}{m:Md}(a:List W)(Q:W->Prop)(R:Addr->Prop)(h:rj a Q R):wSs d G nO (bg m Q R) (ay 2 a):=by
 obtain⟨b,k,rfl,c⟩:=h;show wSs _ _ nO _ [some (.fW b),some (.int k)];unfold nO;fin2;by_cases e:k<b.length
 .rw[Bz (Do (by lia))];exact⟨_,L2.aV (B1 e),c _⟩
 .rw[Bn (by rw[Fh];lia)];exact c _
noncomputable def iz:List CS:=[.set 1 (.int 2),.uq (.cmp .LtE (.bin .Mult (.var 1) (.var 1)) (.var 0)) [.iff (.cmp .Eq (.bin .Mod (.var 0) (.var 1)) (.int 0)) [.ret (.bl false)] [],.set 1 (.bin .Add (.var 1) (.int 1))],.ret (.cmp .Gt (.var 0) (.int 1))]
noncomputable def j3:aX:=λa Q _=>∃n:Nat,a=[.int n]/\n<=10000/\∀b:Bool,(b=true↔af n)->Q (.bl b)
theorem vL{i:Nat->aX}{G:Nat->W}{m:Md}(c:List W)(Q:W->Prop)(R:Addr->Prop)(h:j3 c Q R):wSs i G iz (bg m Q R) (ay 2 c):=by
 obtain⟨n,rfl,r,f⟩:=h;show wSs _ _ iz _ [some (.int n),none];unfold iz;fin2;refine jP (α:=Nat) (λk=>[some (.int n),some (.int k)]) (λk=>2<=k/\k<=10001/\∀d:Int,2<=d->d<k->(n:Int)%d≠0) (λk=>10002 -k) 2 rfl ⟨BM _,by decide,λd a b=>by lia⟩ ?_;rintro k ⟨p,q,g⟩;fin2;refine⟨cC (n:=14) (m:=14) (by lia) (by lia) (by decide),?_⟩;refine cA (λz=>?_) (λz=>?_)
 .have z:=Bi z;have o:(k:Int)<=n:=by have:(k:Int)*2<=(k:Int)*k:=UF (by lia) (by lia);lia
  fin2;refine⟨by lia,?_⟩;rw[NM _ (by lia)];by_cases e:(n:Int)%k=0
  .rw[Bz (Do e)];refine f false ⟨λh=>(by cases h),λh=>?_⟩;exact absurd e (h.2 k (by lia) z)
  .rw[Bn (by rw[Fh];exact e)];refine⟨k+1,rfl,⟨by lia,by lia,λd a b=>?_⟩,by show 10002 -(k+1)<10002 -k;lia⟩;by_cases j:d=k
   .rw[j];exact e
   .exact g d a (by lia)
 .have z:¬((k:Int)*k<=n):=λy=>by rw[Do y]at z;cases z
  fin2;refine f _ ⟨λh=>?_,λh=>Do (by have:=h.1;lia)⟩;have h:=Bi h;refine⟨by lia,λd l dd=>g d l ?_⟩;refine FV λy=>z ?_;have:(k:Int)*k<=d*d:=Xj (by lia) (by lia) (by lia) (by lia);lia
noncomputable def rC:List CS:=[.iff (.cmp .Gt (.bin .Mod (.var 0) (.int 3)) (.int 0)) [.ret (.ix (.lst [(.int 2),(.int 3),(.int 5),(.int 7),(.int 11),(.int 13),(.int 17),(.int 19)]) (.bin .Mod (.bin .FloorDiv (.var 0) (.int 3)) (.int 8)))] [],.set 1 (.bin .Add (.int 2) (.bin .Mod (.bin .FloorDiv (.var 0) (.int 3)) (.int 9972))),.uq (.not (.call 0 [(.var 1)])) [.set 1 (.bin .Sub (.var 1) (.int 1))],.ret (.var 1)]
noncomputable def vM:aX:=λa Q _=>∃x:Int,a=[.int x]/\∀p:Nat,af p->p<10000->Q (.int p)
theorem zU:af ((2:Nat):Int):=⟨by decide,λd a dd=>by have:d*2<=d*d:=UF (by lia) (by lia);lia⟩
theorem ua{n:Nat}(b:2<=n)(f:n<25)(h:n%2≠0\/n=2)(a:n%3≠0\/n=3):af (n:Int):=⟨by lia,λd e dd=>by
 have c:d<5:=FV λz=>by have:5*5<=d*d:=Xj (by lia) (by lia) (by lia) (by lia);lia
 obtain rfl|rfl|rfl:d=2\/d=3\/d=4:=by lia
 .lia
 .lia
 .lia⟩
theorem Gp{G:Nat->W}{m:Md}(d:List W)(Q:W->Prop)(R:Addr->Prop)(h:vM d Q R):wSs (bI [j3]) G rC (bg m Q R) (ay 2 d):=by
 obtain⟨x,rfl,g⟩:=h;show wSs _ _ rC _ [some (.int x),none];unfold rC;have f:(3:Int).natAbs.log2<1000000000:=mZ (n:=31) (by decide) (by decide);have r:=fm (x:=x.fdiv 3) (n:=8) (by decide);have p:=fm (x:=x.fdiv 3) (n:=9972) (by decide);fin2;refine⟨by decide,?_⟩;by_cases c:x.fmod 3>0
 .rw[Bz (Do c)];refine⟨aj (by decide),⟨by decide,f⟩,by decide,?_⟩;have a:∀n:Nat,(n=2\/n=3\/n=5\/n=7\/n=11\/n=13\/n=17\/n=19)->Q (.int n):=λn i=>g n (ua (by lia) (by lia) (by lia) (by lia)) (by lia);obtain e|e|e|e|e|e|e|e:(x.fdiv 3).fmod 8=0\/(x.fdiv 3).fmod 8=1\/(x.fdiv 3).fmod 8=2\/(x.fdiv 3).fmod 8=3\/(x.fdiv 3).fmod 8=4\/(x.fdiv 3).fmod 8=5\/(x.fdiv 3).fmod 8=6\/(x.fdiv 3).fmod 8=7:=by lia
  .rw[e];exact⟨_,rfl,a 2 (by decide)⟩
  .rw[e];exact⟨_,rfl,a 3 (by decide)⟩
  .rw[e];exact⟨_,rfl,a 5 (by decide)⟩
  .rw[e];exact⟨_,rfl,a 7 (by decide)⟩
  .rw[e];exact⟨_,rfl,a 11 (by decide)⟩
  .rw[e];exact⟨_,rfl,a 13 (by decide)⟩
  .rw[e];exact⟨_,rfl,a 17 (by decide)⟩
  .rw[e];exact⟨_,rfl,a 19 (by decide)⟩
 .rw[Bn (by rw[Fh];exact c)];refine⟨⟨by decide,f⟩,by decide,?_⟩;generalize(x.fdiv 3).fmod 9972=y at p;obtain⟨n,i⟩:∃n:Nat,2+y=n:=⟨(2+y).toNat,by lia⟩;rw[i];refine jP (α:=Nat) (λk=>[some (.int x),some (.int k)]) (λk=>2<=k/\k<10000) (λk=>k) n rfl ⟨by lia,by lia⟩ ?_;rintro k ⟨q,o⟩;fin2;refine⟨k,rfl,by lia,λb j=>?_⟩;fin2;refine cA (λz=>?_) (λz=>?_)
  .have l:¬af (k:Int):=λy=>by rw[j.mpr y]at z;cases z
   have:k≠2:=λe=>l (by rw[e];exact zU);fin2;exact⟨k -1,by rw[show(k:Int) -1=((k -1:Nat):Int) by lia],⟨by lia,by lia⟩,by show k -1<k;lia⟩
  .have:b=true:=by cases b<;>first|rfl|cases z
   fin2;exact g k (j.mp this) o
noncomputable def rD:List CS:=[.set 1 (.blt .len [(.var 0)]),.uq (.and [(.cmp .Gt (.var 1) (.int 0)),(.cmp .Eq (.ix (.var 0) (.bin .Sub (.var 1) (.int 1))) (.int 0))]) [.set 1 (.bin .Sub (.var 1) (.int 1))],.ret (.blt .list [(.sl (.var 0) .aM (.var 1))])]
theorem Gq{l:Nat->aX}{G:Nat->W}{m:Md}(i:List W)(Q:W->Prop)(R:Addr->Prop)(h:cX i Q R):wSs l G rD (bg m Q R) (ay 2 i):=by
 obtain⟨c,rfl,n⟩:=h;show wSs _ _ rD _ [some (wI c),none];unfold rD wI;fin2;refine jP (α:=Nat) (λk=>[some (.lst (c.map W.int)),some (.int k)]) (λk=>k<=c.length/\∀j,k<=j->j<c.length->c.getD j 0=0) (λk=>k) c.length (by rw[Ap]) ⟨BM _,λj g f=>by lia⟩ ?_;rintro k ⟨g,f⟩;fin2;have d:(k=0\/c.getD (k -1) 0≠0)->Q (.lst (iR (c.map W.int) none (some (k:Int)))):=λh=>by rw[tS c k g];exact n _ ⟨k,g,rfl,f,h⟩
 by_cases o:0<k
 .rw[Bz (Do (by lia))];rw[show(k:Int) -1=((k -1:Nat):Int) by lia];refine⟨_,aV (int_at (by lia)),?_⟩;fin2;refine cA (λz=>?_) (λz=>?_)
  .have z:=Bi z;fin2;refine⟨k -1,by rw[show(k:Int) -1=((k -1:Nat):Int) by lia],⟨by lia,λj a b=>?_⟩,by show k -1<k;lia⟩;by_cases e:j=k -1
   .rw[e];exact z
   .exact f j (by lia) b
  .have z:=YH z;fin2;exact d (.inr z)
 .rw[Bn (by rw[Fh];lia)];refine cA (λz=>by cases z) (λ_=>?_);fin2;exact d (.inl (by lia))
theorem Mr(l:List Int)(p:Nat)(v:Int)(k:Nat)(h:p<l.length):(l.set p v).getD k 0=if k=p then v else l.getD k 0:=by
 rw[AC,Y0,AC];by_cases e:k=p
 .rw[Bz e.symm,Bz h,Bz e];rfl
 .rw[Bn (Mo e),Bn e]
theorem C6{l:List Int}{i:Nat}{v:Int}{P:Int->Prop}(h:∀x∈l,P x)(b:P v):∀x∈l.set i v,P x:=λx a=>by
 rcases List.mem_or_eq_of_mem_set a with z|z
 .exact h x z
 .rw[z];exact b
theorem Mt{p:Nat}(d:0<p){l a:List Int}(c:∀x∈l,0<=x/\x<p)(h:cZ l a):fL p a=fL p l/\Rm p a/\a.length<=l.length:=by
 have e:l.map (·%(p:Int))=l:=by
  conv=>rhs;rw[<-List.map_id l]
  exact QR λx b=>SJ (c x b).1 (c x b).2
 rw[<-e]at h;exact ji d h
theorem Mu(x:Int)(p:Nat):(p:Int)∣x%p -x:=⟨-(x/p),by have:=P2 x p;grind⟩
theorem IA{p:Nat}(a:0<p)(x:Int):0<=x%p/\x%p<p:=⟨Pi _ (by lia),On _ (by lia)⟩
noncomputable def C7:List CS:=[.set 6 (.bin .Mult (.ix (.var 0) (.var 4)) (.ix (.var 1) (.var 5))),.put 3 (.bin .Add (.var 4) (.var 5)) (.bin .Mod (.bin .Add (.ix (.var 3) (.bin .Add (.var 4) (.var 5))) (.var 6)) (.var 2))]
noncomputable def C8:List CS:=[.iff (.or [(.cmp .Eq (.var 0) (.lst [])),(.cmp .Eq (.var 1) (.lst []))]) [.ret (.lst [])] [],.set 3 (.bin .Mult (.lst [(.int 0)]) (.bin .Sub (.bin .Add (.blt .len [(.var 0)]) (.blt .len [(.var 1)])) (.int 1))),.fr [4] true (.jq [(.blt .len [(.var 0)])]) [.fr [5] true (.jq [(.blt .len [(.var 1)])]) C7],.ret (.call 0 [(.var 3)])]
structure Pf(p:Nat)(a b:List Int)(g:Nat->Int)(l:List Int):Prop where
 len:l.length=a.length+b.length -1
 bd:∀x∈l,0<=x/\x<p
 eq:∀k,k<a.length+b.length -1->(p:Int)∣l.getD k 0 -g k
theorem Qv{G:Nat->W}{m:Md}(I:List W)(Q:W->Prop)(R:Addr->Prop)(h:bz I Q R):wSs (bI [cX]) G C8 (bg m Q R) (ay 7 I):=by
 obtain⟨a,b,p,rfl,⟨J,dQ,la,lb,S,P⟩,u⟩:=h;show wSs _ _ C8 _ [some (wI a),some (wI b),some (.int p),none,none,none,none];unfold C8;refine aq (λo=>(a≠[]/\b≠[])/\o=[some (wI a),some (wI b),some (.int p),none,none,none,none]) (λN C=>?_) ?_
 .have B:(a=[]\/b=[])->Q (wI []):=λz=>u [] ⟨λx E=>(by cases E),.inl rfl⟩ (by
   rcases z with z|z
   .rw[z,b7];grind
   .rw[z,b7];grind) (Hn _)
  fin2;refine⟨aj (by simp),vn (y:=[]) λk1 M=>?_⟩;fin2;by_cases A:a=[]
  .cases cO M A;rw[Bz rfl];exact⟨aj (by simp),B (.inl A)⟩
  .cases fj M A;rw[Bn (by decide)];refine⟨aj (by simp),vn (y:=[]) λk2 L=>?_⟩;fin2;by_cases v:b=[]
   .cases cO L v;rw[Bz rfl];exact⟨aj (by simp),B (.inr v)⟩
   .cases fj L v;rw[Bn (by decide)];exact C _ ⟨⟨A,v⟩,rfl⟩
 rintro _ ⟨⟨A,v⟩,rfl⟩;have a0:=Hm.mpr A;have b0:=Hm.mpr v;refine aq (λo=>∃l,Pf p a b (cf a b 0) l/\o=[some (wI a),some (wI b),some (.int p),some (wI l),none,none,none]) (λN C=>?_) ?_
 .have g:=C _ ⟨Aq (a.length+b.length -1) 0,⟨by simp,λx E=>by rw[List.eq_of_mem_replicate E];exact⟨by decide,by lia⟩,λk H=>⟨0,by show(Aq (a.length+b.length -1) (0:Int)).getD k 0 -0=_;rw[AC,Tb];split<;>rfl⟩⟩,rfl⟩;unfold wI at g⊢;fin2;rw[Ap,Ap,show(a.length:Int)+(b.length:Int) -1=((a.length+b.length -1:Nat):Int) by lia,Fc,fh];rw[YI]at g;exact⟨aj (by simp),by lia,by lia,aj (by simp;lia),g⟩
 rintro _ ⟨l,c,rfl⟩;refine aq (λo=>∃(l:List Int)(s f d:Option W),Pf p a b (cf a b a.length) l/\o=[some (wI a),some (wI b),some (.int p),some (wI l),s,f,d]) (λN C=>?_) ?_
 .refine jj (l:=cR 0 1 a.length) (λQ u=>?_) ?_
  .unfold wI;fin2;rw[Ap];exact⟨by lia,by lia,by rw[Fc];exact u⟩
  refine bq (λi D=>∃(l:List Int)(s f d:Option W),Pf p a b (cf a b i) l/\D=[some (wI a),some (wI b),some (.int p),some (wI l),s,f,d]) ⟨l,none,none,none,c,rfl⟩ ?_ ?_
  .rintro i w _ N1 Y ⟨l,s,f,d,c,rfl⟩ fu;obtain⟨t,rfl⟩:=ic Y;refine jj (l:=cR 0 1 b.length) (λQ u=>?_) ?_
   .unfold wI;fin2;rw[Ap];exact⟨by lia,by lia,by rw[Fc];exact u⟩
   refine bq (λj D=>∃(l:List Int)(f d:Option W),Pf p a b (rM a b i j) l/\D=[some (wI a),some (wI b),some (.int p),some (wI l),some (.int i),f,d]) ⟨l,f,d,by rw[show rM a b i 0=cf a b i from funext λk=>sA a b i k];exact c,rfl⟩ ?_ ?_
   .rintro j w _ N2 O ⟨l,f,d,c,rfl⟩ T;obtain⟨Z,rfl⟩:=ic O;have H:i+j<a.length+b.length -1:=by lia
    have K:=c.len;have up:Pf p a b (rM a b i (j+1)) (l.set (i+j) ((l.getD (i+j) 0+a.getD i 0*b.getD j 0)%p)):=by
     refine⟨by rw[KF];exact K,C6 c.bd (IA J _),λk H=>?_⟩;rw[Mr _ _ _ _ (by lia),lM];have q:=c.eq k H;by_cases e:k=i+j
     .rw[Bz e,Bz e];rw[e]at q⊢;have:=TC (Mu (l.getD (i+j) 0+a.getD i 0*b.getD j 0) p) q;generalize(l.getD (i+j) 0+a.getD i 0*b.getD j 0)%(p:Int)=r at*;rw[show r -(rM a b i j (i+j)+a.getD i 0*b.getD j 0)=r -(l.getD (i+j) 0+a.getD i 0*b.getD j 0)+(l.getD (i+j) 0 -rM a b i j (i+j)) by lia];exact this
     .rw[Bn e,Bn e,W1];exact q
    have g:=T _ ⟨_,some (.int j),some (.int (a.getD i 0*b.getD j 0)),up,rfl⟩;unfold C7;unfold wI at g⊢;fin2;refine⟨_,aV (int_at t),_,aV (int_at Z),?_⟩;fin2;refine⟨gk (p:=p) (by lia) (c7 (by lia) S.b i) (c7 (by lia) P.b j),?_⟩;rw[show(i:Int)+(j:Int)=((i+j:Nat):Int) by lia];refine⟨_,aV (int_at (by lia)),?_⟩;fin2;refine⟨by lia,i+j,m6 (by rw[Ap];lia),?_⟩;rw[NM _ (by lia),<-Yg];exact g
   .rintro _ ⟨l,f,d,c,rfl⟩;rw[kU,show rM a b i b.length=cf a b (i+1)from funext λk=>sC a b i k]at c;exact fu _ ⟨l,some (.int i),f,d,c,rfl⟩
  .rintro _ ⟨l,s,f,d,c,rfl⟩;rw[kU]at c;exact C _ ⟨l,s,f,d,c,rfl⟩
 rintro _ ⟨l,s,f,d,c,rfl⟩;fin2;refine⟨l,rfl,λU tr=>?_⟩;obtain⟨e,r,lm⟩:=Mt J c.bd tr;have K:=c.len;refine u U r (e.trans (CN λi=>?_)) (by lia);by_cases t:i<a.length+b.length -1
 .have:=c.eq i t;rw[Hx]at this;exact this
 .rw[outI (by lia),p8 (n:=a.length) (m:=b.length) (λi t=>outI t) (λi t=>outI t) (by lia)];exact⟨0,by lia⟩
noncomputable def C9:List CS:=[.set 4 (.lst []),.fr [5] true (.jq [(.var 2)]) [.app 4 (.bin .Mod (.ix (.var 0) (.bin .Add (.var 1) (.var 5))) (.var 3))],.ret (.bin .Add (.var 4) (.lst [(.int 1)]))]
noncomputable def zV:aX:=λb Q _=>∃(a:List Int)(n d p:Nat),b=[wI a,.int n,.int d,.int p]/\(2<=p/\n+d<=a.length/\d<=50)/\∀r,Mn p r->r.length=d+1->Q (wI r)
theorem Qw{p:Nat}(p2:2<=p){l:List Int}(h:∀x∈l,0<=x/\x<p):Mn p (l++[1]):=by
 have e:(l++[1]).getD ((l++[1]).length -1) 0=1:=by rw[Fk,G7,Kx,AC,Jn (BM _),XW];rfl
 refine⟨⟨λx a=>?_,.inr (by rw[e];decide)⟩,by simp,e⟩;rcases GM.mp a with a|a
 .exact h x a
 .rw[Da.mp a];exact⟨by decide,by lia⟩
theorem Qx{s:Nat->aX}{G:Nat->W}{m:Md}(q:List W)(Q:W->Prop)(R:Addr->Prop)(h:zV q Q R):wSs s G C9 (bg m Q R) (ay 6 q):=by
 obtain⟨f,n,d,p,rfl,⟨t,y,z⟩,j⟩:=h;show wSs _ _ C9 _ [some (wI f),some (.int n),some (.int d),some (.int p),none,none];unfold C9;refine aq (λb=>b=[some (wI f),some (.int n),some (.int d),some (.int p),some (wI []),none]) (λN k=>?_) ?_
 .fin2;exact⟨aj (by simp),k _ rfl⟩
 rintro _ rfl;refine aq (λb=>∃(l:List Int)(o:Option W),(l.length=d/\∀x∈l,0<=x/\x<p)/\b=[some (wI f),some (.int n),some (.int d),some (.int p),some (wI l),o]) (λN k=>?_) ?_
 .refine jj (l:=cR 0 1 d) (λQ j=>?_) ?_
  .fin2;exact⟨by lia,by lia,by rw[Fc];exact j⟩
  refine bq (λi r=>∃(l:List Int)(o:Option W),(l.length=i/\∀x∈l,0<=x/\x<p)/\r=[some (wI f),some (.int n),some (.int d),some (.int p),some (wI l),o]) ⟨[],none,⟨rfl,λx c=>by cases c⟩,rfl⟩ ?_ ?_
  .rintro i w _ B u ⟨l,o,⟨e,g⟩,rfl⟩ v;obtain⟨A,rfl⟩:=ic u;have a:=v _ ⟨l++[(f.getD (n+i) 0)%p],some (.int i),⟨by rw[Fk,e];rfl,λx c=>?_⟩,rfl⟩
   .unfold wI at a⊢;fin2;rw[show(n:Int)+(i:Int)=((n+i:Nat):Int) by lia];refine⟨_,aV (int_at (by lia)),?_⟩;fin2;refine⟨by lia,jQ (by rw[Ap];lia),?_⟩;rw[NM _ (by lia)];rw[PQ]at a;exact a
   .rcases GM.mp c with c|c
    .exact g x c
    .rw[Da.mp c];exact IA (by lia) _
  .rintro _ ⟨l,o,⟨e,g⟩,rfl⟩;rw[kU]at e;exact k _ ⟨l,o,⟨e,g⟩,rfl⟩
 rintro _ ⟨l,o,⟨e,g⟩,rfl⟩;have a:=j (l++[1]) (Qw t g) (by rw[Fk,e];rfl);unfold wI at a⊢;fin2;rw[PQ]at a;exact⟨aj (by simp),aj (by rw[Ap];simp;lia),a⟩
theorem Mv{p:Nat}(k:af p){a b c:List Int}(f:Mn p a)(d:Mn p b)(g:Rm p c)(e:fL p c=fL p a*fL p b):Mn p c/\c.length+1=a.length+b.length:=by
 have i:∀{l:List Int},Mn p l->fL p l≠0:=λ{l} h z=>by have:=h.n0;rw[(cE h.r).mp z]at this;cases this
 have j:=bD k (i f) (i d);rw[<-e,aT f.r,aT d.r,aT g]at j;have s:=d.n0;have u:=f.n0;refine⟨⟨g,by lia,?_⟩,j⟩;have t:=CO f.top d.top;have n:=Qt.eq.mp (show Qt.mk (Ip p) (di c)=Qt.mk (Ip p) (di a*di b)from e) (a.length -1+(b.length -1));have m:(p:Int)∣c.getD (a.length -1+(b.length -1)) 0+ -(di a*di b).1 (a.length -1+(b.length -1)):=n;have t:(p:Int)∣(di a*di b).1 (a.length -1+(b.length -1)) -a.getD (a.length -1) 0*b.getD (b.length -1) 0:=t;rw[show a.length -1+(b.length -1)=c.length -1 by lia]at m t;rw[f.one,d.one]at t;have q:=k.1;have o:=c7 (p:=p) (by lia) g.b (c.length -1);have:=TC m t;exact mod_eq o ⟨by decide,by lia⟩ (by rw[show c.getD (c.length -1) 0 -1=c.getD (c.length -1) 0+ -(di a*di b).1 (c.length -1)+((di a*di b).1 (c.length -1) -1*1) by lia];exact this)
noncomputable def IB:List CS:=[.iff (.cmp .LtE (.bin .Add (.blt .len [(.var 2)]) (.blt .len [(.var 5)])) (.int 11)) [.set 2 (.call 1 [(.var 2),(.var 5),(.var 1)])] []]
noncomputable def IC:List CS:=[.set 5 (.call 0 [(.var 0),(.bin .Add (.var 3) (.int 1)),(.bin .Add (.int 1) (.bin .Mod (.ix (.var 0) (.var 3)) (.ix (.lst [(.int 1),(.int 2),(.int 3),(.int 4)]) (.var 4)))),(.var 1)]),.fr [6] true (.jq [(.bin .Add (.int 1) (.bin .Mod (.bin .FloorDiv (.ix (.var 0) (.var 3)) (.int 16)) (.ix (.lst [(.int 2),(.int 3),(.int 2),(.int 1)]) (.var 4))))]) IB,.set 3 (.bin .Add (.var 3) (.int 5))]
noncomputable def vN:List CS:=[.set 2 (.call 0 [(.var 0),(.int 1),(.bin .Add (.int 1) (.bin .Mod (.ix (.var 0) (.int 0)) (.int 3))),(.var 1)]),.set 3 (.int 4),.fr [4] true (.jq [(.int 4)]) IC,.ret (.var 2)]
structure M9(p:Nat)(r:List Int):Prop where
 m:Mn p r
 l2:2<=r.length
 M0:r.length<=10
structure Xs(p:Nat)(xs:List Int):Prop where
 pr:af p
 dQ:p<2^40
 len:xs.length=26
noncomputable def Dc:aX:=λb Q _=>∃(a:List Int)(p:Nat),b=[wI a,.int p]/\Xs p a/\∀r,M9 p r->Q (wI r)
theorem vO{l:List Int}{n:Nat}(a:n<l.length){P:Int->Prop}(h:∀x∈l,P x):∃x,jo (l.map W.int) (n:Int)=some (.int x)/\P x:=
 ⟨_,aV (int_at a),vm h a⟩
theorem vP{p:Nat}(f:af p){a b c:List Int}(d:M9 p a)(h:Mn p b)(l2:2<=b.length)(i:a.length+b.length<=11)(g:Rm p c)(e:fL p c=fL p a*fL p b):M9 p c:=by obtain⟨m,l⟩:=Mv f d.m h g e;have:=d.l2;exact⟨m,by lia,by lia⟩
theorem Mw{G:Nat->W}{m:Md}(I:List W)(Q:W->Prop)(R:Addr->Prop)(h:Dc I Q R):wSs (bI [zV,bz]) G vN (bg m Q R) (ay 7 I):=by
 obtain⟨k,p,rfl,⟨O,dQ,lx⟩,v⟩:=h;show wSs _ _ vN _ [some (wI k),some (.int p),none,none,none,none,none];unfold vN;have p2:=O.1;have L:∀{K:W->Prop}{n:Nat},n<26->(∀x:Int,K (.int x))->∃w,jo (k.map W.int) (n:Int)=some w/\K w:=λ{K n} hn Z=>⟨_,aV (int_at (by lia)),Z _⟩;refine aq (λa=>∃f,M9 p f/\a=[some (wI k),some (.int p),some (wI f),none,none,none,none]) (λN u=>?_) ?_
 .unfold wI at u⊢;fin2;refine L (n:=0) (by decide) λx=>?_;fin2;refine⟨by decide,?_⟩;have f:=fm (x:=x) (n:=3) (by decide);generalize x.fmod 3=y at*;obtain⟨d,C⟩:∃d:Nat,1+y=d:=⟨(1+y).toNat,by lia⟩;rw[C];exact⟨k,1,d,p,rfl,⟨by lia,by lia,by lia⟩,λr z D=>u _ ⟨r,⟨z,by lia,by lia⟩,rfl⟩⟩
 rintro _ ⟨f,e,rfl⟩;refine aq (λa=>a=[some (wI k),some (.int p),some (wI f),some (.int ((4:Nat):Int)),none,none,none]) (λN u=>?_) ?_
 .fin2;exact u _ rfl
 rintro _ rfl;refine aq (λa=>∃(f:List Int)(o3 s q g:Option W),M9 p f/\a=[some (wI k),some (.int p),some (wI f),o3,s,q,g]) (λN u=>?_) ?_
 .refine jj (l:=cR 0 1 4) (λQ v=>?_) ?_
  .fin2;exact⟨by decide,by decide,v⟩
  refine bq (λi B=>∃(f:List Int)(s q g:Option W),M9 p f/\B=[some (wI k),some (.int p),some (wI f),some (.int ((4+5*i:Nat):Int)),s,q,g]) ⟨f,none,none,none,e,rfl⟩ ?_ ?_
  .rintro i w _ N1 M ⟨f,s,q,g,e,rfl⟩ fu;obtain⟨S,rfl⟩:=ic M;unfold IC;refine aq (λa=>∃b,(Mn p b/\2<=b.length/\b.length<=5)/\a=[some (wI k),some (.int p),some (wI f),some (.int ((4+5*i:Nat):Int)),some (.int i),some (wI b),g]) (λN2 A=>?_) ?_
   .obtain⟨o,E,h4⟩:=vO (l:=[1,2,3,4]) (n:=i) S (P:=λx=>1<=x/\x<=4) (by decide);unfold wI at A⊢;fin2;refine L (by lia) λx=>⟨aj (by decide),_,E,?_⟩;fin2;refine⟨by lia,?_⟩;have f:=fm (x:=x) (n:=o) (by lia);generalize x.fmod o=y at*;obtain⟨d,C⟩:∃d:Nat,1+y=d:=⟨(1+y).toNat,by lia⟩;rw[C,show((4+5*i:Nat):Int)+1=((4+5*i+1:Nat):Int) by lia];exact⟨k,4+5*i+1,d,p,rfl,⟨by lia,by lia,by lia⟩,λr z D=>A _ ⟨r,⟨z,by lia,by lia⟩,rfl⟩⟩
   rintro _ ⟨b,⟨J,b2,b5⟩,rfl⟩;refine aq (λa=>∃(f:List Int)(g:Option W),M9 p f/\a=[some (wI k),some (.int p),some (wI f),some (.int ((4+5*i:Nat):Int)),some (.int i),some (wI b),g]) (λN2 A=>?_) ?_
   .obtain⟨o,E,h4⟩:=vO (l:=[2,3,2,1]) (n:=i) S (P:=λx=>1<=x/\x<=4) (by decide);obtain⟨x,ex,_⟩:=vO (l:=k) (n:=4+5*i) (by lia) (P:=λ_=>True) (λ_ _=>trivial);have f4:=fm (x:=x.fdiv 16) (n:=o) (by lia);obtain⟨t,Y⟩:∃t:Nat,1+(x.fdiv 16).fmod o=t:=⟨(1+(x.fdiv 16).fmod o).toNat,by lia⟩;refine jj (l:=cR 0 1 t) (λQ v=>?_) ?_
    .unfold wI;fin2;refine⟨_,ex,?_⟩;fin2;refine⟨⟨by decide,mZ (n:=5) (by decide) (by decide)⟩,aj (by decide),_,E,?_⟩;fin2;refine⟨by lia,?_⟩;rw[Y];exact⟨by lia,by lia,by rw[Fc];exact v⟩
    refine bq (λj B=>∃(f:List Int)(g:Option W),M9 p f/\B=[some (wI k),some (.int p),some (wI f),some (.int ((4+5*i:Nat):Int)),some (.int i),some (wI b),g]) ⟨f,g,e,rfl⟩ ?_ ?_
    .rintro j w _ N3 M ⟨f,g,e,rfl⟩ H;unfold IB;have T:=e.l2;have XM:=e.M0;unfold wI at H⊢;fin2;rw[Ap,Ap];by_cases c:(f.length:Int)+(b.length:Int)<=11
     .rw[Bz (Do c)];exact⟨f,b,p,rfl,⟨by lia,dQ,by lia,by lia,e.m.r,J.r⟩,λU z D h3=>H _ ⟨U,_,vP O e J b2 (by lia) z D,rfl⟩⟩
     .rw[Bn (by rw[Fh];exact c)];exact H _ ⟨f,_,e,rfl⟩
    .rintro _ ⟨f,g,e,rfl⟩;exact A _ ⟨f,g,e,rfl⟩
   rintro _ ⟨f,g,e,rfl⟩;fin2;rw[show((4+5*i:Nat):Int)+5=((4+5*(i+1):Nat):Int) by lia];exact fu _ ⟨f,_,_,_,e,rfl⟩
  .rintro _ ⟨f,s,q,g,e,rfl⟩;exact u _ ⟨f,_,_,_,_,e,rfl⟩
 rintro _ ⟨f,o3,s,q,g,e,rfl⟩;fin2;exact v f e
noncomputable def rE:List CS:=[.set 2 (.call 0 [(.var 0),(.int 26)]),.set 3 (.bin .Mod (.ix (.var 2) (.int 24)) (.int 6)),.iff (.cmp .Lt (.var 3) (.int 3)) [.ret (.call 1 [(.var 2),(.int 1),(.bin .Add (.int 1) (.bin .Mod (.ix (.var 2) (.int 0)) (.int 9))),(.var 1)])] [],.iff (.cmp .Eq (.var 3) (.int 3)) [.ret (.call 2 [(.var 2),(.var 1)])] [],.set 4 (.call 1 [(.var 2),(.int 1),(.bin .Add (.int 1) (.bin .Mod (.ix (.var 2) (.int 0)) (.int 4))),(.var 1)]),.set 5 (.call 1 [(.var 2),(.int 6),(.bin .Add (.int 1) (.bin .Mod (.ix (.var 2) (.int 5)) (.int 4))),(.var 1)]),.iff (.cmp .Eq (.var 3) (.int 4)) [.set 5 (.blt .list [(.var 4)])] [],.set 4 (.call 3 [(.var 4),(.var 5),(.var 1)]),.iff (.and [(.cmp .LtE (.bin .Add (.blt .len [(.var 4)]) (.blt .len [(.var 5)])) (.int 11)),(.cmp .Eq (.bin .Mod (.ix (.var 2) (.int 25)) (.int 2)) (.int 1))]) [.set 4 (.call 3 [(.var 4),(.var 5),(.var 1)])] [],.ret (.var 4)]
noncomputable def vR:aX:=λa Q _=>∃(c:Int)(p:Nat),a=[.int c,.int p]/\(af p/\p<2^40)/\∀r,M9 p r->Q (wI r)
theorem Gr{G:Nat->W}{m:Md}(I:List W)(Q:W->Prop)(R:Addr->Prop)(h:vR I Q R):wSs (bI [lz,zV,Dc,bz]) G rE (bg m Q R) (ay 6 I):=by
 obtain⟨c,p,rfl,⟨u,H⟩,C⟩:=h;show wSs _ _ rE _ [some (.int c),some (.int p),none,none,none,none];unfold rE;have S:=u.1;refine aq (λe=>∃j:List Int,j.length=26/\e=[some (.int c),some (.int p),some (wI j),none,none,none]) (λN g=>?_) ?_
 .fin2;exact⟨c,26,rfl,by decide,λj l _=>g _ ⟨j,l,rfl⟩⟩
 rintro _ ⟨j,L,rfl⟩;have B:∀{K:W->Prop}{n:Nat},n<26->(∀x:Int,K (.int x))->∃w,jo (j.map W.int) (n:Int)=some w/\K w:=λ{K n} T D=>⟨_,aV (int_at (by lia)),D _⟩;refine aq (λe=>∃y:Int,e=[some (.int c),some (.int p),some (wI j),some (.int y),none,none]) (λN g=>?_) ?_
 .unfold wI at g⊢;fin2;refine B (n:=24) (by decide) λx=>?_;fin2;exact⟨by decide,g _ ⟨_,rfl⟩⟩
 rintro _ ⟨y,rfl⟩;have mon:∀{K:W->Prop}{R:Addr->Prop}(n i k:Nat),n+k<=26->i<26->0<k->k<=9->(∀r,Mn p r->2<=r.length->r.length<=k+1->K (wI r))->∃w,jo (j.map W.int) (i:Int)=some w/\dR .Mod w (.int (k:Nat)) λz=>dR .Add (.int 1) z λd=>zV [.lst (j.map W.int),.int (n:Nat),d,.int p] K R:=λ{K R} n i k l o q U D=>by refine B o λx=>⟨by lia,?_⟩;have f:=fm (x:=x) (n:=(k:Nat)) (by lia);show zV [.lst (j.map W.int),.int (n:Nat),.int (1+x.fmod (k:Nat)),.int p] K R;generalize x.fmod (k:Nat)=y at*;obtain⟨d,M⟩:∃d:Nat,1+y=d:=⟨(1+y).toNat,by lia⟩;rw[M];exact⟨j,n,d,p,rfl,⟨by lia,by lia,by lia⟩,λr l o=>D r l (by lia) (by lia)⟩
 refine aq (λe=>e=[some (.int c),some (.int p),some (wI j),some (.int y),none,none]) (λN g=>?_) ?_
 .have g:=g _ rfl;unfold wI at g⊢;fin2;by_cases z:y<3
  .rw[Bz (Do z)];exact mon 1 0 9 (by decide) (by decide) (by decide) (by decide) λr l o q=>C r ⟨l,o,q⟩
  .rw[Bn (by rw[Fh];exact z)];exact g
 rintro _ rfl;refine aq (λe=>e=[some (.int c),some (.int p),some (wI j),some (.int y),none,none]) (λN g=>?_) ?_
 .have g:=g _ rfl;fin2;by_cases z:y=3
  .rw[Bz (Do z)];exact⟨j,p,rfl,⟨u,H,L⟩,C⟩
  .rw[Bn (by rw[Fh];exact z)];exact g
 rintro _ rfl;refine aq (λe=>∃a:List Int,(Mn p a/\2<=a.length/\a.length<=5)/\e=[some (.int c),some (.int p),some (wI j),some (.int y),some (wI a),none]) (λN g=>?_) ?_
 .unfold wI at g⊢;fin2;exact mon 1 0 4 (by decide) (by decide) (by decide) (by decide) λr l o q=>g _ ⟨r,⟨l,o,q⟩,rfl⟩
 rintro _ ⟨a,⟨A,a2,P⟩,rfl⟩;refine aq (λe=>∃b:List Int,(Mn p b/\2<=b.length/\b.length<=5)/\e=[some (.int c),some (.int p),some (wI j),some (.int y),some (wI a),some (wI b)]) (λN g=>?_) ?_
 .unfold wI at g⊢;fin2;exact mon 6 5 4 (by decide) (by decide) (by decide) (by decide) λr l o q=>g _ ⟨r,⟨l,o,q⟩,rfl⟩
 rintro _ ⟨b,O,rfl⟩;refine aq (λe=>∃b:List Int,(Mn p b/\2<=b.length/\b.length<=5)/\e=[some (.int c),some (.int p),some (wI j),some (.int y),some (wI a),some (wI b)]) (λN g=>?_) ?_
 .have l:=g _ ⟨b,O,rfl⟩;have o:=g _ ⟨a,⟨A,a2,P⟩,rfl⟩;unfold wI at l o⊢;fin2;by_cases z:y=4
  .rw[Bz (Do z)];exact o
  .rw[Bn (by rw[Fh];exact z)];exact l
 rintro _ ⟨b,⟨t,J,Y⟩,rfl⟩;refine aq (λe=>∃a:List Int,M9 p a/\e=[some (.int c),some (.int p),some (wI j),some (.int y),some (wI a),some (wI b)]) (λN g=>?_) ?_
 .fin2;exact⟨a,b,p,rfl,⟨by lia,H,by lia,by lia,A.r,t.r⟩,λv l o q=>g _ ⟨v,vP u ⟨A,a2,by lia⟩ t J (by lia) l o,rfl⟩⟩
 rintro _ ⟨a,s,rfl⟩;have Z:=s.M0;refine aq (λe=>∃a:List Int,M9 p a/\e=[some (.int c),some (.int p),some (wI j),some (.int y),some (wI a),some (wI b)]) (λN g=>?_) ?_
 .have E:=g _ ⟨a,s,rfl⟩;unfold wI at g E⊢;fin2;rw[Ap,Ap];by_cases z:(a.length:Int)+(b.length:Int)<=11
  .rw[Bz (Do z)];refine B (n:=25) (by decide) λx=>?_;fin2;refine⟨by decide,?_⟩;split
   .exact⟨a,b,p,rfl,⟨by lia,H,by lia,by lia,s.m.r,t.r⟩,λv l o q=>g _ ⟨v,vP u s t J (by lia) l o,rfl⟩⟩
   .exact E
  .rw[Bn (by rw[Fh];exact z)];fin2;exact E
 rintro _ ⟨a,s,rfl⟩;fin2;exact C a s
noncomputable def De:List CS:=[.iff (.not (.blt .uo [(.var 0),(.wR "list")])) [.ret (.bl false)] [],.fr [2] true (.var 0) [.iff (.or [(.not (.call 0 [(.var 2)])),(.not (.l6 .LtE .Lt (.int 0) (.var 2) (.var 1)))]) [.ret (.bl false)] []],.ret (.or [(.cmp .Eq (.var 0) (.lst [])),(.cmp .NotEq (.ix (.var 0) (.neg (.int 1))) (.int 0))])]
noncomputable def Gv:aX:=λb Q _=>∃(a:List Int)(p:Nat),b=[wI a,.int p]/\Rm p a/\Q (.bl true)
theorem Qy{G:Nat->W}{m:Md}(g:List W)(Q:W->Prop)(R:Addr->Prop)(h:Gv g Q R):wSs (bI [m9]) G De (bg m Q R) (ay 3 g):=by
 obtain⟨a,p,rfl,j,f⟩:=h;show wSs _ _ De _ [some (wI a),some (.int p),none];unfold De;refine aq (λc=>c=[some (wI a),some (.int p),none]) (λN d=>?_) ?_
 .have d:=d _ rfl;unfold wI at d⊢;fin2;rw[xN];refine⟨_,rfl,?_⟩;rw[show qh "list" "list"=true from rfl];fin2;exact d
 rintro _ rfl;refine aq (λc=>∃o,c=[some (wI a),some (.int p),o]) (λN d=>?_) ?_
 .refine jj (l:=a.map W.int) (λQ f=>?_) ?_
  .unfold wI;fin2;exact f
  refine bq (λi s=>∃o,s=[some (wI a),some (.int p),o]) ⟨none,rfl⟩ ?_ ?_
  .rintro i w _ B n ⟨o,rfl⟩ A;rw[Dx]at n;obtain⟨x,v,rfl⟩:=Iy.mp n;have r:=j.b x (OF v);fin2;refine⟨x,rfl,?_⟩;fin2;rw[Do r.1];fin2;rw[Do r.2];fin2;exact A _ ⟨_,rfl⟩
  .rintro _ ⟨o,rfl⟩;exact d _ ⟨o,rfl⟩
 rintro _ ⟨o,rfl⟩;fin2;refine⟨aj (by simp),vn (y:=[]) λk q=>?_⟩;fin2;by_cases e:a=[]
 .cases cO q e;rw[Bz rfl];exact f
 .cases fj q e;rw[Bn (by decide)];have t:=j.z.resolve_left e;have u:=Hm.mpr e;unfold wI;fin2;refine⟨_,xQ u,?_⟩;fin2;rw[KB t];exact f
noncomputable def vS:List CS:=[.ret (.tup [(.blt .len [(.var 0)]),(.JV (.var 0) (.neg (.int 1)))])]
noncomputable def Ra(x:List Int):W:=.tup [.int (x.length:Nat),.lst (x.reverse.map W.int)]
noncomputable def yk:aX:=λb Q _=>∃a:List Int,b=[wI a]/\Q (Ra a)
theorem Mx{d:Nat->aX}{G:Nat->W}{m:Md}(b:List W)(Q:W->Prop)(R:Addr->Prop)(h:yk b Q R):wSs d G vS (bg m Q R) (ay 1 b):=by obtain⟨a,rfl,c⟩:=h;show wSs _ _ vS _ [some (wI a)];unfold vS wI;unfold Ra at c;fin2;rw[Ap,<-WU];exact⟨rfl,aj (by simp),c⟩
noncomputable def Dg:List CS:=[.iff (.or [(.not (.blt .uo [(.var 2),(.wR "tuple")])),(.cmp .NotEq (.blt .len [(.var 2)]) (.int 2)),(.not (.call 0 [(.ix (.var 2) (.int 0)),(.var 1)]))]) [.ret (.bl false)] [],.iff (.or [(.not (.call 1 [(.ix (.var 2) (.int 1))])),(.cmp .Lt (.ix (.var 2) (.int 1)) (.int 1)),(.cmp .Lt (.blt .len [(.ix (.var 2) (.int 0))]) (.int 2)),(.cmp .NotEq (.ix (.ix (.var 2) (.int 0)) (.neg (.int 1))) (.int 1))]) [.ret (.bl false)] []]
noncomputable def rF:List CS:=[.iff (.or [(.not (.blt .uo [(.var 0),(.wR "list")])),(.cmp .Eq (.var 0) (.lst []))]) [.ret (.bl false)] [],.fr [2] true (.var 0) Dg,.set 3 (.comp [0] true 1 (.var 0) (.bl true) (.call 2 [(.ix (.var 0) (.int 0))])),.ret (.blt .all [(.comp [0] true 1 (.jq [(.bin .Sub (.blt .len [(.var 3)]) (.int 1))]) (.bl true) (.cmp .Lt (.ix (.var 4) (.var 0)) (.ix (.var 4) (.bin .Add (.var 0) (.int 1)))))])]
structure Pt(p:Nat)(L:List (List Int×Nat)):Prop where
 ne:L≠[]
 len:L.length<=60
 all:∀x∈L,Mn p x.1/\2<=x.1.length/\1<=x.2
 up:L.Pairwise zO
 pw:L.Pairwise λx y=>x.1≠y.1
noncomputable def vU:aX:=λa Q _=>∃(L:List (List Int×Nat))(p:Nat),a=[.lst (L.map pW),.int p]/\Pt p L/\Q (.bl true)
theorem j4(L:List (List Int×Nat)):rP 9 (.lst (L.map pW))=true:=by dsimp only[rP];rw[Hc];intro w a;obtain⟨x,_,rfl⟩:=IR.mp a;unfold pW wI;dsimp only[rP];rw[JE,JE,kT];dsimp only[rP];rw[AN];refine⟨?_,rfl⟩;rw[Hc];intro w a;obtain⟨i,_,rfl⟩:=IR.mp a;exact kT i _
theorem My{x y:List Int×Nat}(h:zO x y)(n:x.1≠y.1):(if(x.1.length:Int)=(y.1.length:Int)then HT.lexLt x.1.reverse y.1.reverse else decide ((x.1.length:Int)<(y.1.length:Int)))=true:=by
 rcases h with h|⟨e,h|⟨h,_⟩⟩
 .rw[Bn (by lia)];exact Do (by lia)
 .rw[Bz (by lia)];exact(qZ _ _).mpr h
 .exact(n h).elim
theorem Qz{G:Nat->W}{D:Dn}{p:Nat}{x:List Int×Nat}{a o3:Option W}(d:Mn p x.1)(e:2<=x.1.length)(f:1<=x.2)(b:D.nx [a,some (.int p),some (pW x),o3]):wSs (bI [Gv,m9,yk]) G Dg D [a,some (.int p),some (pW x),o3]:=by
 unfold Dg;unfold pW at b⊢;refine aq (λc=>c=[a,some (.int p),some (.tup [wI x.1,.int (x.2:Nat)]),o3]) (λN b=>?_) ?_
 .have b:=b _ rfl;fin2;rw[xN];refine⟨_,rfl,?_⟩;rw[show qh "tuple" "tuple"=true from rfl];fin2;rw[Do (show(([wI x.1,W.int (x.2:Nat)]:List W).length:Int)=2 from rfl)];fin2;refine⟨_,rfl,x.1,p,rfl,d.r,?_⟩;fin2;exact b
 rintro _ rfl;fin2;refine⟨_,rfl,x.2,rfl,?_⟩;fin2;refine⟨_,rfl,?_⟩;fin2;rw[Bn (by rw[Fh];lia)];refine⟨_,rfl,?_⟩;unfold wI at b⊢;fin2;rw[Ap,Bn (by rw[Fh];lia)];refine⟨_,rfl,?_⟩;fin2;refine⟨_,xQ (by lia),?_⟩;fin2;rw[d.one];exact b
theorem Gw{G:Nat->W}{m:Md}(r:List W)(Q:W->Prop)(R:Addr->Prop)(h:vU r Q R):wSs (bI [Gv,m9,yk]) G rF (bg m Q R) (ay 4 r):=by
 obtain⟨L,p,rfl,c,j⟩:=h;show wSs _ _ rF _ [some (.lst (L.map pW)),some (.int p),none,none];unfold rF;have C:=c.len;refine aq (λa=>a=[some (.lst (L.map pW)),some (.int p),none,none]) (λN b=>?_) ?_
 .have b:=b _ rfl;fin2;rw[xN];refine⟨_,rfl,?_⟩;rw[show qh "list" "list"=true from rfl];fin2;refine⟨aj (by simp),?_⟩;rw[PM];refine⟨.inl ⟨j4 L,rfl⟩,λk z=>?_⟩;cases fj z (λe=>c.ne (by have:=W.Bo e;simpa using this));exact b
 rintro _ rfl;refine aq (λa=>∃o,a=[some (.lst (L.map pW)),some (.int p),o,none]) (λN b=>?_) ?_
 .refine jj (l:=L.map pW) (λQ j=>?_) ?_
  .fin2;exact j
  refine bq (λi v=>∃o,v=[some (.lst (L.map pW)),some (.int p),o,none]) ⟨none,rfl⟩ ?_ ?_
  .rintro i w _ D t ⟨o,rfl⟩ A;rw[Dx]at t;obtain⟨x,s,rfl⟩:=Iy.mp t;obtain⟨y,d,f⟩:=c.all x (OF s);exact Qz y d f (A _ ⟨_,rfl⟩)
  .rintro _ ⟨o,rfl⟩;exact b _ ⟨o,rfl⟩
 rintro _ ⟨o,rfl⟩;refine aq (λa=>a=[some (.lst (L.map pW)),some (.int p),o,some (.lst (L.map λx=>Ra x.1))]) (λN b=>?_) ?_
 .have b:=b _ rfl;fin2;refine eZ (g:=λx:List Int×Nat=>Ra x.1) L [] _ (λx s K q=>?_) (by have:=aj (n:=L.length) (by lia);simpa using this) ?_
  .fin2;refine⟨_,rfl,x.1,rfl,q⟩
  .exact b
 rintro _ rfl;obtain⟨n,B⟩:∃n,L.length=n+1:=⟨L.length -1,by have:=Hm.mpr c.ne;lia⟩;fin2;rw[Ap,show(L.length:Int) -1=(n:Nat) by lia];refine⟨by lia,by lia,?_⟩;rw[Fc];unfold cR;refine eZ (g:=λ_:Nat=>W.bl true) (BB n) [] _ (λi u K q=>?_) (by have:=aj (n:=n) (by lia);simpa using this) ?_
 .have u:=Ki.mp u;have f:i<L.length:=by lia
  have d:i+1<L.length:=by lia
  fin2;rw[show(0:Int)+(i:Int)*1=((i:Nat):Int) by lia,show((i:Nat):Int)+1=((i+1:Nat):Int) by lia];refine⟨_,aV (by rw[Dx,B1 f];rfl),?_⟩;refine⟨_,aV (by rw[Dx,B1 d];rfl),?_⟩;refine⟨_,_,_,_,rfl,rfl,?_⟩;rw[My (X8.mp c.up i (i+1) f d (by lia)) (X8.mp c.pw i (i+1) f d (by lia))];exact q
 .rw[PL];refine⟨(BB n).map λ_=>true,by rw[XZ];rfl,?_⟩;rw[all_true];exact j
theorem Mz{p:Nat}(p2:2<=p):Rm p [1]:=⟨λx a=>by rw[Da.mp a];exact⟨by decide,by lia⟩,.inr (by show(1:Int)≠0;decide)⟩
theorem MA(l:List W)(a b:Option Int):(iR l a b).length<=l.length:=by unfold iR;rw[Re,Sb];lia
structure Sg(p:Nat)(row:List Int):Prop where
 pr:af p
 dQ:p<2^40
 m:Mn p row
 Q8:cG (fL p row)
 vE:row.length<=50
noncomputable def Dh:aX:=λb Q _=>∃(a:List Int)(p:Nat),b=[wI a,.int p]/\(af p/\p<2^30/\M9 p a)/\Q (.bl true)
theorem ID{p:Nat}{l:List Int}(h:Mn p l):fL p l≠0:=λz=>by have:=h.n0;rw[(cE h.r).mp z]at this;cases this
theorem Di{p:Nat}(a:af p){P:F p}(b:2<=dg P):∀n:Nat,n+1<=dg (P^n)
 |0=>by rw[Fn,ig a];exact BM _
 |n+1=>by have ih:=Di a b n;rw[aH];have:=bD a (f:=P^n) (g:=P) (λz=>by rw[z,cD]at ih;lia) (λz=>by rw[z,cD]at b;lia);lia
theorem ym{p:Nat}:∀(A B:List (List Int×Nat)),fy p (A++B)=fy p A*fy p B
 |[],B=>by show fy p B=1*fy p B;grind
 |x::A,B=>by show fL p x.1^x.2*fy p (A++B)=fL p x.1^x.2*fy p A*fy p B;rw[ym A B];grind
theorem rG{p:Nat}{L:List (List Int×Nat)}{i j:Nat}(a:i<L.length)(c:j<=L[i].2):Dd (fy p (L.take i)*fL p L[i].1^j) (fy p L):=by
 refine⟨fL p L[i].1^(L[i].2 -j)*fy p (L.drop (i+1)),?_⟩;have e:L=L.take i++(L[i]::L.drop (i+1)):=by rw[<-Kt a,Uc]
 have b:fL p L[i].1^L[i].2=fL p L[i].1^j*fL p L[i].1^(L[i].2 -j):=by rw[<-YB,show j+(L[i].2 -j)=L[i].2 by lia]
 conv=>lhs;rw[e,ym]
 show fy p (L.take i)*(fL p L[i].1^L[i].2*fy p (L.drop (i+1)))=_;rw[b];grind
noncomputable def vV:List CS:=[.ret (.tup [(.blt .len [(.ix (.var 0) (.int 0))]),(.rev (.ix (.var 0) (.int 0))),(.ix (.var 0) (.int 1))])]
theorem MB{b:Nat->aX}{G:Nat->W}{m:Md}(a:List W)(Q:W->Prop)(R:Addr->Prop)(h:nI a Q R):wSs b G vV (bg m Q R) (ay 1 a):=by obtain⟨x,rfl,c⟩:=h;show wSs _ _ vV _ [some (pW x)];unfold vV pW wI;fin2;refine⟨_,rfl,?_⟩;fin2;refine⟨_,rfl,?_⟩;fin2;refine⟨_,rfl,aj (by simp),?_⟩;rw[Ap,<-WU];exact c
section
variable{P:Program}{w:World}{K:Frag}{mg:Str->Option Value}{base:Heap}{tp:Nat->Stmt}{DD:DT}{ZZ:List Str}
theorem MC{k j i b:Nat}{x:Str}{S:aX}(T:TT K mg tp DD ZZ)(d:DD[j]?=some (x,i))(c:b=(oq (tp i)).length)(e:∀a Q R,¬S a Q R):Cl P w K mg base DD k j .s S:=by have:S=Tg:=funext λa=>funext λQ=>funext λR=>propext ⟨λz=>(e _ _ _ z).elim,λz=>z.elim⟩;rw[this];exact Qu T d c
theorem MD{j i jh jd b d k:Nat}{x:Str}(T:TT K mg tp DD ZZ)(g:DD[j]?=some (x,i))(l:Cl P w K mg base DD b jh .s jm)(m:Cl P w K mg base DD d jd .s aS)(e:Gm ZZ (tp i) 3 5 [] [C0 DD jh,C0 DD jd,C0 DD j] [] [.s,.s,.s] [] .s cP=true)(p:b<=k)(o:d<=k):∀n,Cl P w K mg base DD (k+n) j .s (bT n):=
 C2 (MC T g (C1 e) zT) λn a f c=>by refine dS (k:=a) (Ss:=[jm,aS,bT n]) T g 3 [] [(jh,.s,b),(jd,.s,d),(j,.s,a)] om ⟨l,m,c,trivial⟩ ?_ (λq P R h=>by obtain⟨_,_,_,rfl,_⟩:=h;rfl);rw[AN];refine⟨?_,e⟩;show(decide (b<=a)&&(decide (d<=a)&&(decide (a<=a)&&true)))=true;rw[Do (IH p f),Do (IH o f),Do (BM a)];rfl
end
abbrev LSm:Md:=.ls (.t [.f,.s])
theorem Dj{l c:List Int}(h:l.map V.int=c.map V.int):l=c:=(QS (λa b e=>by cases e;rfl)).mp h
theorem uc{K:Frag}{B:Addr->Prop}{H:Hp}:∀{L:List (List Int×Nat)}{vs:List V},ai K B H (L.map pW) vs->(L.Pairwise λx y=>x.1≠y.1)->
 ∃F:List Addr,F.Nodup/\(∀q∈F,¬B q/\∃x∈L,H q=some (.lst (x.1.map V.int)))/\∀k:Addr->Prop,c8 (Fp K k H (.t [.f,.s])) (L.map pW) vs F
 |[],vs,h,_=>⟨[],XY,λq g=>(by cases g),λ_=>⟨h,rfl⟩⟩
 |x::L,vs,h,pw=>by
  obtain⟨v,r,rfl,G,E⟩:=h;have pw:=UV.mp pw;obtain⟨F,u,m,j⟩:=uc E pw.2;obtain⟨l,M,rfl,D,i⟩:=G;obtain⟨J,O,rfl,A,i⟩:=i.cons_inv;obtain⟨I,N,rfl,w,i⟩:=i.cons_inv;obtain rfl:=i.nil_inv;obtain⟨c,n,rfl,o,d,C⟩:=A;rw[f7 C]at d;have d:=d.at;have p:c∉F:=λz=>by obtain⟨_,y,b,e⟩:=m c z;rw[d]at e;injection e with e;injection e with e;exact pw.1 y b (Dj e)
  refine⟨c::F,NA.mpr ⟨p,u⟩,λq g=>?_,λk=>⟨.ref l,r,[c],F,rfl,rfl,⟨_,l,_,rfl,rfl,D,?_⟩,j k⟩⟩
  .rcases Fm.mp g with rfl|g
   .exact⟨o,x,DL,d⟩
   .obtain⟨a,y,b,e⟩:=m q g;exact⟨a,y,D2 _ b,e⟩
  .refine⟨_,_,_,_,[c],[],rfl,rfl,rfl,⟨_,c,_,rfl,rfl,rfl,d,ints_rep x.1⟩,_,_,_,_,[],[],rfl,rfl,rfl,⟨rfl,?_⟩,rfl,rfl,rfl⟩;exact w
theorem Dk{K:Frag}{A:Addr->Prop}{H H':Hp}{L:List (List Int×Nat)}{v:V}(h:Rep K (λq=>∃o,H q=some o) H' (.lst (L.map pW)) v)(pw:L.Pairwise λx y=>x.1≠y.1):bX K A H H' LSm (.lst (L.map pW)) v:=by
 obtain⟨p,k,rfl,l,a,j⟩:=h;have a:=a.at;obtain⟨F,n,i,d⟩:=uc j pw;have f:∀{q:Addr},(¬∃o,H q=some o)->H q=none:=λ{q} z=>by
  cases e:H q with
  |none=>rfl
  |some o=>exact(z ⟨o,e⟩).elim
 have m:p∉F:=λz=>by
  obtain⟨_,x,s,e⟩:=i p z;rw[a]at e;injection e with e;injection e with e;subst e;cases L with
  |nil=>cases s
  |cons y L=>
   obtain⟨u,r,e,w,_⟩:=j;obtain⟨C,B,rfl,_⟩:=w;cases g:x.1 with
   |nil=>rw[g]at e;cases e
   |cons c t=>rw[g]at e;cases e
 refine⟨p::F,NA.mpr ⟨m,n⟩,λq b=>?_,_,p,k,F,rfl,rfl,rfl,a,d _⟩;rcases Fm.mp b with rfl|b
 .exact f l
 .exact f (i q b).1
section
variable{P:Program}{w:World}{K:Frag}{mg:Str->Option Value}{base:Heap}{x qual:Str}{st s1:Stmt}{rest:List Stmt}{f:Addr}{fd:FuncData}{N ps fn gn zn:List Str}{md:List Md}{mt:List (Nat×Nat)}{G:Nat->W}{k:Nat}
theorem QA(F:z3 K x qual st f fd)(Z:dW N ps (ak st))(J:ps.length=2)(hN:N.length=9)(T:Tab P w K mg base fn gn zn md mt (bI [cM,bE,b9,bT 10,dO,gE]) G k)(hb:aR st=s1::rest)
 (k1:B5 ⟨N,(ak st).names,[(2,.f)],fn,gn,zn,md,mt⟩ (iV md) .s (.set 2 (.blt .list [(.var 0)])) s1=true)(k2:d7 ⟨N,(ak st).names,[(3,.f)],fn,gn,zn,md,mt⟩ (iV md) .s gF rest=true):bJ P w K mg base (iO P w) (k+1) f fd ps (uZ K 2 LSm fU):=by
 refine z3.R3 F Z (by rintro vs H Q E ⟨A,ws,P,R,h1,S,_⟩;rw[S.len,h1,J]) λY A c s H vs Q E hr hz=>?_;obtain⟨A0,ws,P0,R,h1,S,h3,⟨b,p,rfl,⟨hp,qW,mr,lr⟩,hq⟩,h5,h6⟩:=hz;have UN:∀i m g,(i,m)∈([(2,.f)]:Ms)->(i,g)∈([(2,.f)]:Ms)->m=g:=Co (by decide);have UO:∀i m g,(i,m)∈([(3,.f)]:Ms)->(i,g)∈([(3,.f)]:Ms)->m=g:=Co (by decide);rw[hb];have UP:∀{H':Hp},ER (gP P w K mg base N qual (ak st) f Y A c s H E) H R:=λ{H'}=>⟨E,HA,λC H' rc B=>h6 C H' rc B,λd σ H1 s1 h' a C h I hx q=>wM d σ H1 s1 h' a C h I hx (h6 C H1 q.1 q.2)⟩;refine⟨_,@rY _ _ _ _ _ ((PC _ _ _ (.set 2 (.blt .list [(.var 0)]))).1 (vh Z T hr UN) s1 k1) (kq _ (iV md) G gF (vh Z T hr UO) rest k2),?_⟩;refine⟨⟨A0,A0,none⟩,H,ay N.length [wI b,.int p],⟨λε=>ε=[some (wI b),some (.int p),some (wI b),none,none,none,none,none,none],λ_=>False,λ_=>False,λ_=>False,R⟩,tR S h3 (λi m M=>?_) UN,UP (H':=H),rfl,?_,⟨?_,λ_ _ _ z=>z.elim,λ_ _ _ _ _ _ z=>z.elim,λ_ _ _ _ _ _ z=>z.elim⟩⟩
 .rw[Da]at M;cases M;exact BM 2
 .rw[hN];show wS _ _ (.set 2 (.blt .list [(.var 0)])) _ [some (wI b),some (.int p),none,none,none,none,none,none,none];unfold wI;fin2
 .rintro A' _ σ' H' ea eb rfl l;obtain⟨F',O⟩:=l.ow;obtain⟨v,e1,fp⟩:=O.val 2 .f (wI b) DL rfl;obtain⟨us,q,w4,U,rfl,eF,h7,h8⟩:=fp;have nq:H q=none:=O.nw 2 q ⟨_,DL⟩ (by rw[eF];exact DL);have U:W.lst (b.map W.int)=.lst us:=U;cases U;refine⟨⟨λq=>∃o,H q=some o,λq=>∃o,H q=some o,none⟩,H,e9 none p [some (wI b),none,none,none,none,none,none],bg .s (λw=>∃L:List (List Int×Nat),w=.lst (L.map pW)/\(L.Pairwise λx y=>x.1≠y.1)/\P0 w) R,⟨l.len,λi t M e=>?_,l.sm,λq ⟨o,z⟩=>⟨o,l.sm _ _ z⟩,(λv e=>by cases e),λ_=>[],⟨UO,λi m t u e=>?_,λ_ _ _=>rfl,λ_ _=>XY,(λi j p _ _ z=>by cases z),(λi p _ z=>by cases z),(λi p _ z=>by cases z),λq=>⟨.inl,λz=>z.elim id<|by rintro⟨_,_,z⟩;cases z⟩⟩⟩,UP (H':=H),rfl,?_,⟨λ_ _ _ _ _ _ z _=>(by obtain⟨_,e,_⟩:=(show∃L:List (List Int×Nat),W.aM=.lst (L.map pW)/\_ from z);cases e),λt v H2 D B r=>?_,λ_ _ _ _ _ _ z=>z.elim,λ_ _ _ _ _ _ z=>z.elim⟩⟩
  .match i,e with
   |0,e=>exact nn e
   |1,e=>have e:some (W.int (p:Int))=some t:=e;cases e;obtain⟨v,a1,a2⟩:=l.sh 1 (.int p) (by rintro⟨m,u⟩;simp at u) rfl;exact⟨v,a1,a2⟩
   |2,e=>have e:some (wI b)=some t:=e;cases e;rw[f7 h8]at h7;exact⟨_,e1,q,_,rfl,λ⟨o,z⟩=>(by rw[nq]at z;cases z),.inl h7,ints_rep b⟩
   |3,e=>exact nn e
   |4,e=>exact nn e
   |5,e=>exact nn e
   |6,e=>exact nn e
   |7,e=>exact nn e
   |8,e=>exact nn e
   |n+9,e=>exact nn e
  .rw[Da]at u;cases u;exact nn e
  .exact zP hp qW mr lr λL po lk=>⟨L,rfl,po.pw,hq L po lk⟩
  .obtain⟨L,rfl,pw,D⟩:=D;exact h5 _ v H2 D B (Dk (bX.aW r) pw)
end
theorem rH{p:Nat}(c:af p){P:F p}(d:cG P):∀{L:List (List Int×Nat)},Dd P (fy p L)->∃y∈L,Dd P (fL p y.1)
 |[],h=>by have:=h.len c (kr c);rw[show fy p []=(1:F p)from rfl,ig c]at this;have:=d.two;lia
 |y::L,h=>by
  rcases d.euclid c (a:=fL p y.1^y.2) (b:=fy p L) h with z|z
  .exact⟨y,DL,kZ c d _ z⟩
  .obtain⟨e,g,f⟩:=rH c d z;exact⟨e,D2 _ g,f⟩
structure Pa(p:Nat)(L:List (List Int×Nat)):Prop where
 all:∀x∈L,Mn p x.1/\cG (fL p x.1)/\1<=x.2
 pw:L.Pairwise λx y=>x.1≠y.1
theorem Pa.off{p:Nat}(a:af p):∀{L:List (List Int×Nat)}{x:List Int×Nat},Pa p L->x∈L->∃R,fy p L=fL p x.1^x.2*R/\¬Dd (fL p x.1) R
 |y::L,x,h,d=>by
  obtain⟨j,b,_⟩:=h.all x d;have pw:=UV.mp h.pw;rcases Fm.mp d with e|c
  .refine⟨fy p L,by rw[e];rfl,λz=>?_⟩;obtain⟨i,k,l⟩:=rH a b z;obtain⟨f,g,_⟩:=h.all i (D2 _ k);have:=qY a j b f g l;exact pw.1 i k (by rw[<-e];exact this.symm)
  .obtain⟨R,e,n⟩:=Pa.off a (L:=L) ⟨λx d=>h.all x (D2 _ d),pw.2⟩ c;refine⟨fL p y.1^y.2*R,by show fL p y.1^y.2*fy p L=_;rw[e];grind,λz=>?_⟩;rcases b.euclid a z with z|z
   .obtain⟨f,g,_⟩:=h.all y DL;exact pw.1 x c (qY a j b f g (kZ a b _ z))
   .exact n z
theorem Pa.sub{p:Nat}(a:af p){L d:List (List Int×Nat)}(h:Pa p L)(h':Pa p d)(e:fy p L=fy p d){x:List Int×Nat}(i:x∈L):x∈d:=by
 obtain⟨u,c,H⟩:=h.all x i;obtain⟨R,o,s⟩:=h.off a i;obtain⟨y,f,D⟩:=rH a c (L:=d) (by obtain⟨k,w⟩:∃k,x.2=k+1:=⟨x.2 -1,by lia⟩;exact⟨fL p x.1^k*R,by rw[<-e,o,w,aH];grind⟩);obtain⟨t,v,G⟩:=h'.all y f;have q:=qY a u c t v D;obtain⟨E,l,g⟩:=h'.off a f;rw[q]at l g;have I:=c.ne;have r:∀k:Nat,fL p x.1^k≠0:=λk z=>by have:=Di a c.two k;rw[z,cD]at this;lia
 have b:∀{m n:Nat}{A B:F p},fL p x.1^m*A=fL p x.1^n*B->m<n->Dd (fL p x.1) A:=λ{m n A B} C J=>by
  obtain⟨k,rfl⟩:∃k,n=m+(k+1):=⟨n -m -1,by lia⟩;rw[YB,aH]at C;rcases F.Ih a (fL p x.1^m) (A -fL p x.1^k*fL p x.1*B) (by grind)with z|z
  .exact absurd z (r m)
  .exact⟨fL p x.1^k*B,by grind⟩
 have en:x.2=y.2:=by
  have j:fL p x.1^x.2*R=fL p x.1^y.2*E:=by rw[<-o,e,l]
  rcases Nat.lt_trichotomy x.2 y.2 with z|z|z
  .exact(s (b j z)).elim
  .exact z
  .exact(g (b j.symm z)).elim
 have:x=y:=ZD q.symm en;rw[this];exact f
theorem Pa.one{p:Nat}(i:af p){L f:List (List Int×Nat)}(h:Pa p L)(h':Pa p f)(e:fy p L=fy p f)(u:L.Pairwise zO)(j:f.Pairwise zO):L=f:=by
 have g:∀{L:List (List Int×Nat)},Pa p L->L.Nodup:=λ{L} h=>h.pw.imp λz e=>z (by rw[e]);refine ZJ (le:=zO) (λa b _ _ d c=>?_) u j ((List.perm_ext_iff_of_nodup (g h) (g h')).mpr λa=>⟨λz=>h.sub i h' e z,λz=>h'.sub i h e.symm z⟩);rcases d with z|⟨z,d⟩
 .rcases c with y|⟨y,_⟩<;>lia
 .rcases c with y|⟨y,c⟩
  .lia
  .rcases d with d|⟨d,l⟩
   .rcases c with c|⟨c,_⟩
    .exact(jY _ (List.lt_trans d c)).elim
    .rw[c]at d;exact(jY _ d).elim
   .rcases c with c|⟨_,k⟩
    .rw[d]at c;exact(jY _ c).elim
    .exact ZD d (by lia)
theorem Dm{f:W->(W->Prop)->Prop}(J:Nat->W->Prop):∀(n k:Nat){w:W}{Q:W->Prop},J k w->(∀i w K,J i w->i<k+n->(∀d,J (i+1) d->K d)->f w K)->(∀d,J (k+n) d->Q d)->zc f n w Q
 |0,k,w,Q,g,_,e=>e w g
 |n+1,k,w,Q,g,h,e=>h k w _ g (by lia) λd j=>Dm J n (k+1) j (λi w K a b c=>h i w K a (by lia) c) λd z=>e d (by rw[show k+(n+1)=k+1+n by lia];exact z)
theorem Dp{f:W->W->(W->Prop)->Prop}(J:Nat->W->Prop):∀(l:List W)(k:Nat){w:W}{Q:W->Prop},J k w->(∀i x w K,l[i]?=some x->J (k+i) w->(∀b,J (k+i+1) b->K b)->∃(g:List W)(n:Int),x=.tup [.lst g,.int n]/\-(2^62)<=n/\n<2^62/\zc (f (.lst g)) n.toNat w K)->(∀b,J (k+l.length) b->Q b)->sW f l w Q
 |[],k,w,Q,e,_,d=>d w e
 |x::l,k,w,Q,e,h,d=>h 0 x w _ rfl e λb m=>Dp J l (k+1) m (λi y w K j a c=>h (i+1) y w K j (by rw[show k+(i+1)=k+1+i by lia];exact a) (by rw[show k+(i+1)+1=k+1+i+1 by lia];exact c)) λb z=>d b (by rw[show k+(x::l).length=k+1+l.length by rw[D8];lia];exact z)
theorem nQ:∀l:List Int,sX (l.map W.int)=true
 |[]=>rfl
 |i::l=>by show(true&&sX (l.map W.int))=true;rw[nQ l];rfl
noncomputable def vW:List CS:=[.set 2 (.blt .list [(.var 0)]),.set 3 (.call 0 [(.var 2),(.var 1)]),.iff (.or [(.cmp .NotEq (.var 2) (.var 0)),(.not (.wU [3] (.call 1 [(.var 3),(.var 1)])))]) [.ret (.bl false)] [],.set 4 (.lst [(.int 1)]),.fld 3 5 6 7 4 (.call 2 [(.var 4),(.var 5),(.var 1)]),.iff (.cmp .NotEq (.var 4) (.var 0)) [.ret (.bl false)] [],.Om 8 [3] (.t [.f,.s]) [0,1] false 2 (.var 3) (.bl true) (.tup [(.blt .list [(.var 0)]),(.var 1)]),.Oo 3 5 6 (.int 0),.Ol 3 (.tup [(.lst [(.int 0),(.int 1)]),(.int 1)]),.ret (.and [(.cmp .Eq (.var 2) (.var 0)),(.cmp .Eq (.call 0 [(.var 2),(.var 1)]) (.var 8))])]
abbrev z7(row:List Int)(p:Nat)(l:Ev):Ev:=some (wI row)::some (.int (p:Int))::some (wI row)::l
theorem ME{G:Nat->W}{m:Md}(U:List W)(Q:W->Prop)(R:Addr->Prop)(h:Dh U Q R):wSs (bI [fU,vU,bz]) G vW (bg m Q R) (ay 9 U):=by
 obtain⟨d,p,rfl,⟨v,H,M⟩,A⟩:=h;show wSs _ _ vW _ [some (wI d),some (.int p),none,none,none,none,none,none,none];unfold vW;have p2:=v.1;have dQ:p<2^40:=Yd H (by decide);have l2:=M.l2;have M0:=M.M0;have Z:=aT M.m.r;refine aq (λa=>a=z7 d p [none,none,none,none,none,none]) (λN b=>?_) ?_
 .have b:=b _ rfl;unfold z7 wI at b;unfold wI;fin2;exact b
 rintro _ rfl;refine aq (λa=>∃L,(PO p d L/\L.Pairwise zO)/\a=z7 d p [some (.lst (L.map pW)),none,none,none,none,none]) (λN b=>?_) ?_
 .fin2;exact⟨d,p,rfl,⟨v,H,M.m,M0⟩,λL S O=>b _ ⟨L,⟨S,O⟩,rfl⟩⟩
 rintro _ ⟨L,⟨l,up⟩,rfl⟩;have ne:L≠[]:=λz=>by have e:=l.pr;rw[z,show fy p []=(1:F p)from rfl]at e;rw[e,ig v]at Z;lia
 have ll:=l.len;have nY:∀x∈L,2<=x.1.length:=λx u=>by obtain⟨m,i,_⟩:=l.all x u;have:=i.two;rw[aT m.r]at this;exact this
 refine aq (λa=>a=z7 d p [some (.lst (L.map pW)),none,none,none,none,none]) (λN b=>?_) ?_
 .fin2;refine CP λk B=>?_;cases cO B rfl;fin2;refine⟨L,p,rfl,⟨ne,by lia,λx u=>⟨(l.all x u).1,nY x u,(l.all x u).2.2⟩,up,l.pw⟩,rfl,?_⟩;fin2;exact b _ rfl
 rintro _ rfl;refine aq (λa=>a=z7 d p [some (.lst (L.map pW)),some (wI [1]),none,none,none,none]) (λN b=>?_) ?_
 .fin2;exact⟨aj (by simp),b _ rfl⟩
 rintro _ rfl;have f:∀{c:List Int},Rm p c->Dd (fL p c) (fy p L)->c.length<=10:=λ{c} t dc=>by rw[<-l.pr]at dc;have:=dc.len v (ID M.m);rw[aT t,Z]at this;lia
 refine aq (λa=>∃c:List Int,(Rm p c/\fL p c=fy p L)/\a=z7 d p [some (.lst (L.map pW)),some (wI c),none,none,none,none]) (λN b=>?_) ?_
 .dsimp only[wS,look,z7,U3,UA];refine⟨wI [1],rfl,⟨by simp,by simp⟩,?_⟩;refine Dp (λi w=>∃c:List Int,(Rm p c/\fL p c=fy p (L.take i))/\w=wI c) (L.map pW) 0 ⟨[1],⟨Mz (by lia),gq⟩,rfl⟩ ?_ ?_
  .rintro i x _ K u ⟨c,⟨t,s⟩,rfl⟩ C;rw[YA]at s C;rw[Dx]at u;obtain⟨x,J,rfl⟩:=Iy.mp u;obtain⟨y,rfl⟩:=FS.mp J;obtain⟨D,ix,E⟩:=l.all _ (Os y);have x2:=nY _ (Os y);have xl:L[i].1.length<=10:=f D.r (by obtain⟨q,A⟩:=rG (p:=p) y (j:=1) E;exact⟨fy p (L.take i)*q,by rw[A,show fL p L[i].1^1=fL p L[i].1 by rw[aH,Fn];grind];grind⟩);have UQ:L[i].2<=10:=by
    have d1:Dd (fL p L[i].1^L[i].2) (fL p d):=by obtain⟨q,A⟩:=rG (p:=p) y (j:=L[i].2) (BM _);exact⟨fy p (L.take i)*q,by rw[l.pr,A];grind⟩
    have:=d1.len v (ID M.m);have:=Di v (P:=fL p L[i].1) (by rw[aT D.r];exact x2) L[i].2;lia
   refine⟨L[i].1.map W.int,(L[i].2:Nat),rfl,by lia,by lia,?_⟩;rw[Fc];refine Dm (λj w=>∃c:List Int,(Rm p c/\fL p c=fy p (L.take i)*fL p L[i].1^j)/\w=wI c) L[i].2 0 ⟨c,⟨t,by rw[s,Fn];grind⟩,rfl⟩ ?_ ?_
   .rintro j _ K ⟨c,⟨t,s⟩,rfl⟩ hj C;have cl:c.length<=10:=f t (by rw[s];exact rG y (by lia));unfold kN;fin2;refine⟨c,L[i].1,p,rfl,⟨by lia,dQ,by lia,by lia,t,D.r⟩,λY S O h3=>⟨nQ Y,C _ ⟨Y,⟨S,?_⟩,rfl⟩⟩⟩;rw[O,s,aH];grind
   .rintro _ ⟨c,⟨t,s⟩,rfl⟩;rw[YA]at s;refine C _ ⟨c,⟨t,?_⟩,rfl⟩;rw[s,List.take_succ_eq_append_getElem y,kY]
  .rintro _ ⟨c,⟨t,s⟩,rfl⟩;rw[YA,Ap,SN]at s;exact b _ ⟨c,⟨t,s⟩,rfl⟩
 rintro _ ⟨c,⟨t,s⟩,rfl⟩;have W6:c=d:=qS t M.m.r (s.trans l.pr.symm);subst W6;refine aq (λa=>a=z7 c p [some (.lst (L.map pW)),some (wI c),none,none,none,none]) (λN b=>?_) ?_
 .fin2;refine CP λk B=>?_;cases cO B rfl;fin2;exact b _ rfl
 rintro _ rfl;refine aq (λa=>a=z7 c p [some (.lst (L.map pW)),some (wI c),none,none,none,some (.lst (L.map pW))]) (λN b=>?_) ?_
 .have b:=b _ rfl;fin2;refine eZ (g:=pW) L [] _ (λx u K C=>?_) (by have:=aj (n:=L.length) (by lia);simpa using this) ?_
  .unfold pW wI at C⊢;fin2;refine⟨rfl,?_⟩;fin2;refine⟨aj (by simp),?_,C⟩;show(sX (x.1.map W.int)&&(true&&true))=true;rw[nQ];rfl
  .exact b
 rintro _ rfl;refine aq (λa=>∃I:List W,I.length=L.length/\a=z7 c p [some (.lst I),some (wI c),none,none,none,some (.lst (L.map pW))]) (λN b=>?_) ?_
 .dsimp only[wS,cst,look,z7,U3,UA];refine⟨λw hw=>?_,by simp,b _ ⟨_,?_,rfl⟩⟩
  .obtain⟨x,u,rfl⟩:=IR.mp hw;refine⟨x.1.map W.int,.int (x.2:Nat),rfl,jQ ?_⟩;rw[Ap];obtain⟨D,ix,E⟩:=l.all x u;obtain⟨i,y,rfl⟩:=SU u;have:=f D.r (by obtain⟨q,A⟩:=rG (p:=p) y (j:=1) E;exact⟨fy p (L.take i)*q,by rw[A,show fL p L[i].1^1=fL p L[i].1 by rw[aH,Fn];grind];grind⟩);lia
  .rw[Ap,Ap]
 rintro _ ⟨I,WW,rfl⟩;refine aq (λa=>∃o,a=z7 c p [o,some (wI c),none,none,none,some (.lst (L.map pW))]) (λN b=>?_) ?_
 .fin2;exact⟨aj (by simp),aj (by simp),jQ (by lia),b _ ⟨_,rfl⟩⟩
 rintro _ ⟨o,rfl⟩;fin2;refine vn λk B=>?_;cases cO B rfl;fin2;refine⟨c,p,rfl,⟨v,H,M.m,M0⟩,λL2 T W7=>?_⟩;refine⟨.inl ⟨j4 L2,j4 L⟩,λk B=>?_⟩;have e:L2=L:=Pa.one v ⟨T.all,T.pw⟩ ⟨l.all,l.pw⟩ (by rw[<-T.pr,<-l.pr]) W7 up;cases cO B (by rw[e]);exact A
noncomputable def rJ:List CS:=[.set 1 (.call 0 [(.ix (.call 1 [(.call 2 [(.var 0),(.int 0)]),(.int 1)]) (.int 0))]),.fr [2] true (.bin .Add (.lst [(.call 2 [(.var 0),(.int 1)])]) (.sl (.var 0) (.int 2) (.int 5))) [.iff (.not (.call 3 [(.call 4 [(.var 2),(.var 1)]),(.var 1)])) [.ret (.bl false)] []],.ret (.bl true)]
theorem Gx{G:Nat->W}{m:Md}(f:List W)(Q:W->Prop)(R:Addr->Prop)(h:LZ f Q R):wSs (bI [vM,lz,rj,Dh,vR]) G rJ (bg m Q R) (ay 3 f):=by
 obtain⟨b,rfl,B,s⟩:=h;show wSs _ _ rJ _ [some (.fW b),none,none];unfold rJ;refine aq (λa=>∃p:Nat,(af p/\p<10000)/\a=[some (.fW b),some (.int p),none]) (λN e=>?_) ?_
 .fin2;refine⟨b,0,rfl,λz=>⟨z,1,rfl,by decide,λy n _=>?_⟩⟩;obtain⟨x,rfl⟩:=Xt.mp n;exact⟨.int x,rfl,x,rfl,λp u t=>e _ ⟨p,⟨u,t⟩,rfl⟩⟩
 rintro _ ⟨p,⟨g,A⟩,rfl⟩;refine aq (λa=>True) (λN e=>?_) ?_
 .obtain⟨l,j⟩:=F8 b (some 2) (some 5);have lc:=MA (b.map W.int) (some 2) (some 5);rw[j,Ap,Ap]at lc;fin2;refine⟨b,1,rfl,λz=>⟨aj (by simp),?_⟩⟩;fin2;rw[j];refine⟨aj (by rw[Ap];simp;lia),?_⟩;fin2;refine bq (λi k=>∃o,k=[some (.fW b),some (.int p),o]) ⟨none,rfl⟩ ?_ ?_
  .rintro i w _ C d ⟨o,rfl⟩ v;have d:(((z::l).map W.int):List W)[i]?=some w:=d;rw[Dx]at d;obtain⟨c,_,rfl⟩:=Iy.mp d;fin2;refine⟨c,p,rfl,⟨g,by lia⟩,λr q=>⟨r,p,rfl,⟨g,by lia,q⟩,?_⟩⟩;fin2;exact v _ ⟨_,rfl⟩
  .intro _ _;exact e _ trivial
 intro a _;fin2;exact s
end VL
namespace G3
open PySem PySem.Spec
open PyProof.Rows hiding St
open L2 VL Num
set_option genInjectivity false
set_option genSizeOf false
noncomputable def top(i:Nat):Stmt:=PySem.Challenge.pw_paperwright_k29_prime_parts_come_to_the.main.body.getD i (.Pass ⟨0,0,0,0⟩)
abbrev en(x:Str)(i:Nat):Str×Nat:=(x,i)
abbrev DD:DT:=[en "common" 1,en "trimmed" 3,en "scaled" 4,en "whole_plus" 5,en "whole_minus" 6,en "whole_times" 7,en "rising" 8,en "rank" 9,en "reduced" 11,en "inverse" 12,en "plus_by" 13,en "minus_by" 14,en "times_by" 15,en "divided_by" 16,en "power_by" 17,en "greatest_by" 18,en "prime_parts" 20,en "taken_out" 21,en "equal_parts" 22,en "halved" 23,en "trace" 24,en "squares" 25,en "_law_things" 27,en "_law_cell" 28,en "_law_is_prime" 29,en "_law_prime" 30,en "_law_cut" 31,en "_law_product" 32,en "_law_whole" 33,en "_law_by" 34,en "_law_monic" 35,en "_law_many_parts" 36,en "_law_monic_product" 37,en "_law_key" 38,en "_law_parts_told" 39,en "_law_right" 40,en "law" 41]
abbrev ZZ:List Str:=["all","bool","enumerate","int","isinstance","len","list","max","range","reversed","sorted","tuple"]
structure Tx(K:Frag)(mg:Str->Option Value) extends TT K mg top DD ZZ where
section
variable{P:Program}{w:World}{K:Frag}{mg:Str->Option Value}{base:Heap}
theorem Dq(T:Tx K mg):Cl P w K mg base DD 1 0 .s qG:=
 nM T.toTT rfl 2 [] Cs (by decide+kernel) (by walk_at "l")
theorem j5(T:Tx K mg):Cl P w K mg base DD 1 1 .f cX:=
 nM T.toTT rfl 1 [] zF (by decide+kernel) (by walk_at "l")
theorem ud(T:Tx K mg):Cl P w K mg base DD 1 2 .f jc:=
 nM T.toTT rfl 2 [] Cp (by decide+kernel) (by walk_at "l")
theorem jn(T:Tx K mg):Cl P w K mg base DD 2 3 .f d8:=
 dS T.toTT rfl 2 [(3,.f)] [(1,.f,1)] qE ⟨j5 T,trivial⟩ (by decide+kernel) (by walk_at "l")
theorem ou(T:Tx K mg):Cl P w K mg base DD 3 4 .f fO:=
 dS T.toTT rfl 2 [] [(3,.f,2),(2,.f,1)] n9 ⟨jn T,ud T,trivial⟩ (by decide+kernel) (by walk_at "l")
theorem oz(T:Tx K mg):Cl P w K mg base DD 1 5 .f fR:=
 nM T.toTT rfl 2 [(2,.f)] oh (by decide+kernel) (by walk_at "l")
theorem MF(T:Tx K mg):bJ P w K mg base (iO P w) 1 (T.f 7) (T.d 7) ["pair"] (ur K 1 .s nI):=
 Mp (j:=7) (k:=0) (m:=.s) (Ss:=[]) (Gs:=[]) T.toTT rfl 1 [] [] [] MB trivial trivial (by decide+kernel) (by walk_at "l")
theorem Dr(T:Tx K mg):Cl P w K mg base DD 4 6 .s gE:=
 Mq (j:=6) (jr:=7) T.toTT rfl rfl (MF T) ⟨rfl,rfl,rfl,by decide+kernel,rfl,by decide+kernel,by decide+kernel⟩ rfl rfl rfl rfl (.inl rfl) rfl rfl rfl (by decide) rfl rfl
theorem gG(T:Tx K mg):Cl P w K mg base DD 2 8 .s cY:=
 dS T.toTT rfl 2 [] [(1,.f,1)] zJ ⟨j5 T,trivial⟩ (by decide+kernel) (by walk_at "l")
theorem pI(T:Tx K mg):Cl P w K mg base DD 2 9 .s je:=
 dS T.toTT rfl 2 [] [(0,.s,1)] zI ⟨Dq T,trivial⟩ (by decide+kernel) (by walk_at "l")
theorem pJ(T:Tx K mg):Cl P w K mg base DD 3 10 .s gr:=
 dS T.toTT rfl 3 [] [(8,.s,2),(3,.f,2)] zM ⟨gG T,jn T,trivial⟩ (by decide+kernel) (by walk_at "l")
theorem iA(T:Tx K mg):Cl P w K mg base DD 4 11 .s b9:=
 dS T.toTT rfl 3 [] [(8,.s,2),(4,.f,3)] vC ⟨gG T,ou T,trivial⟩ (by decide+kernel) (by walk_at "l")
theorem nR(T:Tx K mg):Cl P w K mg base DD 3 12 .s bz:=
 dS T.toTT rfl 3 [] [(8,.s,2),(5,.f,1)] vD ⟨gG T,oz T,trivial⟩ (by decide+kernel) (by walk_at "l")
theorem cF(T:Tx K mg):Cl P w K mg base DD 3 13 .s aS:=
 dS T.toTT rfl 3 [(5,.f),(6,.f)] [(9,.s,2),(1,.f,1)] qH ⟨pI T,j5 T,trivial⟩ (by decide+kernel) (by walk_at "l")
theorem iB(T:Tx K mg):Cl P w K mg base DD 4 14 .s cM:=
 dS T.toTT rfl 4 [] [(13,.s,3),(12,.s,3)] vF ⟨cF T,nR T,trivial⟩ (by decide+kernel) (by walk_at "l")
theorem gU(T:Tx K mg):Cl P w K mg base DD 5 15 .s bE:=
 dS T.toTT rfl 3 [] [(13,.s,3),(11,.s,4),(12,.s,3),(9,.s,2),(8,.s,2),(2,.f,1)] oj ⟨cF T,iA T,nR T,pI T,gG T,ud T,trivial⟩ (by decide+kernel) (by walk_at "l")
theorem Gy(T:Tx K mg):Cl P w K mg base DD 5 20 .s nE:=
 dS T.toTT rfl 4 [] [(13,.s,3),(14,.s,4),(10,.s,3)] Gh ⟨cF T,iB T,pJ T,trivial⟩ (by decide+kernel) (by walk_at "l")
theorem zW(T:Tx K mg):Cl P w K mg base DD 5 21 .s jl:=
 dS T.toTT rfl 3 [] [(11,.s,4),(14,.s,4)] zN ⟨iA T,iB T,trivial⟩ (by decide+kernel) (by walk_at "l")
theorem Ds(T:Tx K mg):Cl P w K mg base DD 6 19 .s jm:=
 dS T.toTT rfl 3 [] [(20,.s,5),(15,.s,5),(21,.s,5),(10,.s,3)] CQ ⟨Gy T,gU T,zW T,pJ T,trivial⟩ (by decide+kernel) (by walk_at "l")
theorem ue(T:Tx K mg):Cl P w K mg base DD 4 17 .s dO:=
 dS T.toTT rfl 3 [] [(13,.s,3)] t9 ⟨cF T,trivial⟩ (by decide+kernel) (by walk_at "l")
theorem oA(T:Tx K mg):Cl P w K mg base DD 16 18 .s (bT 10):=
 MD (k:=6) (jh:=19) (jd:=13) T.toTT rfl (Ds T) (cF T) (by decide+kernel) (by decide) (by decide) 10
theorem oB(T:Tx K mg):bJ P w K mg base (iO P w) 17 (T.f 16) (T.d 16) (oq (top 20)) (ur K 2 LSm fU):=
 QA (N:=Mm (top 20)) (ps:=oq (top 20)) (s1:=(aR (top 20)).getD 0 (.Pass ⟨0,0,0,0⟩)) (rest:=(aR (top 20)).drop 1) (T.toTT.D (j:=16) rfl).F ⟨rfl,rfl,rfl,by decide+kernel,rfl,by decide+kernel,by decide+kernel⟩ rfl rfl (Iz (gS:=[(14,.s,4),(15,.s,5),(11,.s,4),(18,.s,16),(17,.s,4),(6,.s,4)]) (Gs:=[]) (gn:=[]) (k:=16) T.toTT ⟨iB T,gU T,iA T,oA T,ue T,Dr T,trivial⟩ (by decide) trivial) rfl (by decide+kernel) (by decide+kernel)
theorem uf(T:Tx K mg):Cl P w K mg base DD 1 22 .s lz:=
 nM T.toTT rfl 2 [(4,.f)] C4 (by decide+kernel) (by walk_at "l")
theorem MG(T:Tx K mg):Cl P w K mg base DD 1 23 .s rj:=
 nM T.toTT rfl 2 [] C5 (by decide+kernel) (by walk_at "l")
theorem vX(T:Tx K mg):Cl P w K mg base DD 1 24 .s j3:=
 nM T.toTT rfl 1 [] vL (by decide+kernel) (by walk_at "l")
theorem Gz(T:Tx K mg):Cl P w K mg base DD 2 25 .s vM:=
 dS T.toTT rfl 1 [] [(24,.s,1)] Gp ⟨vX T,trivial⟩ (by decide+kernel) (by walk_at "l")
theorem v_cut(T:Tx K mg):Cl P w K mg base DD 1 26 .f cX:=
 nM T.toTT rfl 1 [] Gq (by decide+kernel) (by walk_at "l")
theorem j6(T:Tx K mg):Cl P w K mg base DD 2 27 .f bz:=
 dS T.toTT rfl 3 [(3,.f)] [(26,.f,1)] Qv ⟨v_cut T,trivial⟩ (by decide+kernel) (by walk_at "l")
theorem yo(T:Tx K mg):Cl P w K mg base DD 1 28 .s m9:=
 nM T.toTT rfl 1 [] F9 (by decide+kernel) (by walk_at "l")
theorem TF(T:Tx K mg):Cl P w K mg base DD 2 29 .s Gv:=
 dS T.toTT rfl 2 [] [(28,.s,1)] Qy ⟨yo T,trivial⟩ (by decide+kernel) (by walk_at "l")
theorem yp(T:Tx K mg):Cl P w K mg base DD 1 30 .s zV:=
 nM T.toTT rfl 4 [(4,.f)] Qx (by decide+kernel) (by walk_at "l")
theorem rK(T:Tx K mg):Cl P w K mg base DD 3 31 .s Dc:=
 dS T.toTT rfl 2 [] [(30,.s,1),(27,.f,2)] Mw ⟨yp T,j6 T,trivial⟩ (by decide+kernel) (by walk_at "l")
theorem kI(T:Tx K mg):Cl P w K mg base DD 4 32 .s vR:=
 dS T.toTT rfl 2 [] [(22,.s,1),(30,.s,1),(31,.s,3),(27,.f,2)] Gr ⟨uf T,yp T,rK T,j6 T,trivial⟩ (by decide+kernel) (by walk_at "l")
theorem QB(T:Tx K mg):Cl P w K mg base DD 1 33 .s yk:=
 nM T.toTT rfl 1 [] Mx (by decide+kernel) (by walk_at "l")
theorem rL(T:Tx K mg):Cl P w K mg base DD 3 34 .s vU:=
 dS T.toTT rfl 2 [] [(29,.s,2),(28,.s,1),(33,.s,1)] Gw ⟨TF T,yo T,QB T,trivial⟩ (by decide+kernel) (by walk_at "l")
theorem GA(T:Tx K mg):Cl P w K mg base DD 18 35 .s Dh:=
 dS T.toTT rfl 2 [(3,LSm)] [(16,LSm,17),(34,.s,3),(27,.f,2)] ME ⟨(yj T.toTT rfl rfl (oB T) (by walk_at "l")),rL T,j6 T,trivial⟩ (by decide+kernel) (by walk_at "l")
theorem QC(T:Tx K mg):bJ P w K mg base (iO P w) 19 (T.f 36) (T.d 36) ["_law_script"] (ur K 1 .s LZ):=
 Mp (j:=36) (k:=18) (m:=.s) (Gs:=[]) T.toTT rfl 1 [] [(25,.s,2),(22,.s,1),(23,.s,1),(35,.s,18),(32,.s,4)] [] Gx ⟨Gz T,uf T,MG T,GA T,kI T,trivial⟩ trivial (by decide+kernel) (by walk_at "l")
end
theorem Nf{K:Frag}{x:Str}{st:Stmt}{f:Addr}{g m:Option Addr}{d:Array (Option Value)}{h kV i e b j:Value}(a:nsIn K mainGlobals x=some (some (.ref f)))(l:K.lookup f=some ⟨h,g,.func (fnOf x x (bO st) (aR st) (ak st) .none kV i e m b j),d⟩)(c:codeIn K b x=true)(k:keepIn K (.ref f)=true):Hd K x st:=⟨f,g,m,d,h,kV,i,e,b,j,a,l,c,k⟩
theorem Rb{x q:Str}{st:Stmt}{i:Str}(h:∀(kV a d:Value)(g:Option Addr)(b f c:Value),bindArgs (fnOf x q (bO st) (aR st) (ak st) .none kV a d g b f) ⟨[c],[]⟩=pure ([i].zip [c])):gC x q st [i]:=λkV a d g b f k j=>by obtain⟨c,l,rfl,e⟩:=n8 j;cases Pv.mp e;exact h kV a d g b f c
theorem Rc{x q:Str}{st:Stmt}{l k:Str}(h:∀(kV a e:Value)(j:Option Addr)(b i d c:Value),bindArgs (fnOf x q (bO st) (aR st) (ak st) .none kV a e j b i) ⟨[d,c],[]⟩=pure ([l,k].zip [d,c])):gC x q st [l,k]:=λkV a e j b i n m=>by obtain⟨d,p,rfl,g⟩:=n8 m;obtain⟨c,o,rfl,f⟩:=n8 g;cases Pv.mp f;exact h kV a e j b i d c
theorem Rf{x q:Str}{st:Stmt}{m l p2:Str}(h:∀(kV a e:Value)(k:Option Addr)(b j d c a2:Value),bindArgs (fnOf x q (bO st) (aR st) (ak st) .none kV a e k b j) ⟨[d,c,a2],[]⟩=pure ([m,l,p2].zip [d,c,a2])):gC x q st [m,l,p2]:=λkV a e k b j o n=>by obtain⟨d,s,rfl,i⟩:=n8 n;obtain⟨c,r,rfl,g⟩:=n8 i;obtain⟨a2,p,rfl,f⟩:=n8 g;cases Pv.mp f;exact h kV a e k b j d c a2
theorem Rg{x q:Str}{st:Stmt}{n m p2 l:Str}(h:∀(kV a e:Value)(k:Option Addr)(b j d c a2 a3:Value),bindArgs (fnOf x q (bO st) (aR st) (ak st) .none kV a e k b j) ⟨[d,c,a2,a3],[]⟩=pure ([n,m,p2,l].zip [d,c,a2,a3])):gC x q st [n,m,p2,l]:=λkV a e k b j r o=>by obtain⟨d,v,rfl,i⟩:=n8 o;obtain⟨c,u,rfl,g⟩:=n8 i;obtain⟨a2,t,rfl,f⟩:=n8 g;obtain⟨a3,s,rfl,p⟩:=n8 f;cases Pv.mp p;exact h kV a e k b j d c a2 a3
theorem all_mk{l:PySem.W.OpenLaw}{w:World}{K:Frag}{h:Heap}{a:Str->Option Value}{f:Addr}(X:K.In h)(G:h.Ns mainGlobals a)(k:a "law"=some (.ref f))
 (i:Gj K top DD)(g:Gk K ZZ)
 :∃c:FuncData,(∀(s:Shared)(v:Value),BindsTo s c ⟨[v],[]⟩ [("_law_script",v)])/\∀base:Heap,K.In base->base.Ns mainGlobals a->bJ l.prog w K a base NX 19 f c ["_law_script"] (xO K):=by
 obtain⟨b⟩:=Qo X G i g;have D:=b.D (j:=36) rfl;have e:=k.symm.trans D.m;cases e
 let T:Tx K a:=⟨b⟩
 exact⟨b.d 36,λs v=>D.bt s [v] rfl,λbase _ _=>L0 (QC T)⟩
end G3
namespace PySem.W.Fast
noncomputable def tw11897731255364179157:=0
noncomputable def tw14445797131572722243:=0
noncomputable def tw17979577264932413537:=0
noncomputable def tw15474376833340175815:=0
noncomputable def tw1829759406064679434:=0
noncomputable def tw12457337561861929918:=0
noncomputable def tw10430691674308978328:=0
noncomputable def tw9662941600378544115:=0
noncomputable def tw17390032054146383604:=0
noncomputable def tw12416684447986108083:=0
noncomputable def tw13706582399937676122:=0
noncomputable def tw5558107561065793663:=0
noncomputable def tw5582514407213853046:=0
noncomputable def tw16012611257034431127:=0
noncomputable def tw18420814632583062860:=0
noncomputable def tw1693196173792587979:=0
noncomputable def tw14163716067928861080:=0
noncomputable def tw10573840323670248409:=0
noncomputable def tw572202699918023925:=0
noncomputable def tw1936270013800088873:=0
noncomputable def tw457953235458685003:=0
noncomputable def tw12669590690300614504:=0
noncomputable def tw16116929440725440252:=0
noncomputable def tw2330081228056510194:=0
noncomputable def tw1852149895121095959:=0
noncomputable def tw3884824087041447455:=0
noncomputable def tw16763384403809515379:=0
noncomputable def tw10423917214296413440:=0
noncomputable def tw17981044856453097463:=0
noncomputable def tw4910295172743869724:=0
noncomputable def tw18212224137266233689:=0
noncomputable def tw15978708382183481049:=0
noncomputable def tw7336041814978133047:=0
noncomputable def tw11357355688602739663:=0
noncomputable def tw14468063332813451540:=0
noncomputable def tw14336410422646872074:=0
noncomputable def tw16949642335100330136:=0
noncomputable def tw8551910476991523615:=0
noncomputable def tw15628687274913757478:=0
noncomputable def tw15048846610886780526:=0
noncomputable def tw16826599406817071430:=0
noncomputable def tw651375526861661485:=0
noncomputable def tw13209453013152050597:=0
noncomputable def tw5087710293899772310:=0
noncomputable def tw1663277760193900203:=0
noncomputable def tw8522036106273346234:=0
noncomputable def tw8964209557349916606:=0
noncomputable def tw8355770830320156858:=0
noncomputable def tw17265555997269418612:=0
noncomputable def tw1425876302443871527:=0
noncomputable def tw17060471882419337468:=0
noncomputable def tw6414304997107349941:=0
noncomputable def tw268075973884413549:=0
noncomputable def tw5486042871626343214:=0
noncomputable def tw9519058281767313797:=0
noncomputable def tw5805040021568563164:=0
noncomputable def tw10638517389272727214:=0
noncomputable def tw12770804898796916474:=0
noncomputable def tw11017568801227487351:=0
noncomputable def tw13379532926866769191:=0
noncomputable def tw14090754988172339022:=0
noncomputable def tw10028253183134546426:=0
noncomputable def tw8815869247651823581:=0
noncomputable def tw16539415003211611857:=0
noncomputable def tw9438880227425239246:=0
noncomputable def tw8227947596042312673:=0
noncomputable def tw14952442960645291600:=0
noncomputable def tw15803549306978660843:=0
noncomputable def tw13201025081643121889:=0
noncomputable def tw4163467562507143526:=0
noncomputable def tw11620980396929452943:=0
noncomputable def tw16257397820071303173:=0
noncomputable def tw10542190224778101514:=0
noncomputable def tw13811918583755592981:=0
noncomputable def tw4129949043679924101:=0
noncomputable def tw10726583208378315790:=0
noncomputable def tw14461981369334321077:=0
noncomputable def tw5135513556113661984:=0
noncomputable def tw16196572028196038687:=0
noncomputable def tw15503435150206510278:=0
noncomputable def tw1743028791384879911:=0
noncomputable def tw8132622450295874418:=0
noncomputable def tw7005997284780175996:=0
noncomputable def tw5972766984379233022:=0
noncomputable def tw3489286143906634721:=0
noncomputable def tw831009865537441248:=0
noncomputable def tw9962676640544538835:=0
noncomputable def tw12113448821619692335:=0
noncomputable def tw7200898320808968953:=0
noncomputable def tw17158922846190632303:=0
noncomputable def tw18429995860839004623:=0
noncomputable def tw4434019442026833497:=0
noncomputable def tw17902845627472392703:=0
noncomputable def tw11028645073194675916:=0
noncomputable def tw8715568481632330885:=0
noncomputable def tw5506413847993356828:=0
noncomputable def tw1679081210414510053:=0
noncomputable def tw16097248493352079343:=0
noncomputable def tw3764894586942090233:=0
noncomputable def tw13230699641319948233:=0
noncomputable def tw7406722764566061521:=0
noncomputable def tw13133139894687031566:=0
noncomputable def tw10153967198321390298:=0
noncomputable def tw8482623252910270163:=0
noncomputable def tw14036303318539817772:=0
noncomputable def tw14177116500303509467:=0
noncomputable def tw3816972163939074424:=0
noncomputable def tw1093468976572277339:=0
noncomputable def tw8468602302156702863:=0
noncomputable def tw6872436294422524755:=0
noncomputable def tw3385354530567883964:=0
noncomputable def tw17714423505456592313:=0
noncomputable def tw7619409436657896064:=0
noncomputable def tw7090027644768185504:=0
noncomputable def tw272429380295861174:=0
noncomputable def tw1897436351752463642:=0
noncomputable def tw15152591748106190472:=0
noncomputable def tw3138647350309415328:=0
noncomputable def tw9497875623690306656:=0
noncomputable def tw1645701812449152814:=0
noncomputable def tw8852257944916762254:=0
noncomputable def tw8013093909300886557:=0
noncomputable def tw6383141398622901459:=0
noncomputable def tw14510368869769921747:=0
noncomputable def tw7647086466927653000:=0
noncomputable def tw6842282601196896728:=0
noncomputable def tw6571904675168896264:=0
noncomputable def tw6449259342187812870:=0
noncomputable def tw4871238026960803117:=0
noncomputable def tw4224749920440323589:=0
noncomputable def tw305450374201675400:=0
noncomputable def tw2775762346491903910:=0
noncomputable def tw2731099942763861857:=0
noncomputable def tw2230132720640187153:=0
noncomputable def tw2036981471284802823:=0
noncomputable def tw18373687623459331557:=0
noncomputable def tw16206077555198936329:=0
noncomputable def tw16113583916884632962:=0
noncomputable def tw15458522024972874551:=0
noncomputable def tw14677127699621320592:=0
noncomputable def tw13736399383621744401:=0
noncomputable def tw13495151187290106331:=0
noncomputable def tw13395379541063519066:=0
noncomputable def tw13392446413816489297:=0
noncomputable def tw13258222706990287036:=0
noncomputable def tw13060629862889340838:=0
noncomputable def tw12957202811921673197:=0
noncomputable def tw11724230959005024791:=0
noncomputable def tw11697610486081841179:=0
noncomputable def tw10931159954381582846:=0
noncomputable def tw10743553057529645731:=0
noncomputable def tw1051551161438586906:=0
noncomputable def tw4493186801552199765:=0
noncomputable def tw11286570920462586192:=0
noncomputable def tw6573781158030255565:=0
noncomputable def tw2269386676024016028:=0
noncomputable def tw1868643183456484521:=0
noncomputable def tw16478364271938104344:=0
noncomputable def tw16218453864125187744:=0
noncomputable def tw15978912435073769940:=0
noncomputable def tw14220507338445916400:=0
noncomputable def tw10804383846835382799:=0
noncomputable def tw6381075280109220931:=0
end PySem.W.Fast
open PySem PySem.W PyProof.Rows
set_option maxRecDepth 100000 in
set_option maxHeartbeats 0 in
theorem PySem.Challenge.cw_paperwright_k29_prime_parts_come_to_the_holds : PySem.Challenge.rw_paperwright_k29_prime_parts_come_to_the.Holds := by
 w_on;o_law;k_head;(case hw=>w_witness2)
 k_fill
 refine VL.walk (l:=PySem.Challenge.rw_paperwright_k29_prime_parts_come_to_the) (k:=19) rfl rfl ⟨rfl,by decide,by decide⟩ (by decide+kernel) rfl (fun w h Y=>PySem.W.kIn_of Y) ?F
 case F=>
  intro w mg fa h KX G hmg
  refine' G3.all_mk KX G hmg ?Xb ?Xc
  (case Xb=>(iterate 37 walk_at "ah");exact trivial)
  (case Xc=>(iterate 12 walk_at "az");exact trivial)
